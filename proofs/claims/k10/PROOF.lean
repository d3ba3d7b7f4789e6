import PyProof.Rows.All
import Wide.All
import OpenK.AllK
import Wide.FinOn
import Lean
import PyProof.EqAt
import PyProof.EqKinds
import PyProof.TupleCall
import PyProof.ZipIter
import PyProof.WalksEnum
import PyProof.EnumMake
import PyProof.NeKinds
import KE.KDictList
import PyProof.Rows.SetFrom
import PyProof.StrWalks
import PyProof.CollectWalk
import PyProof.Rows.SortWalk
import PyProof.Rows.BitMore
import PyProof.Rows.IntCalls
import KE.KRevIter
import PyProof.SetRoads
import OpenK.KTop
import PyProof.Rows.StrWeight2
import PyProof.SumWalk
import PyProof.SliceList
import PyProof.FactsAll.subtypes_4
import PyProof.StationsW
import PyProof.NsDelKeeps
import PyProof.Rows.StrClose
import PyProof.Rows.CatFin
import PyProof.SeqI3
import PyProof.Rows.StrCase
import PyProof.PureStr
import PyProof.IsRules
import PySem.Challenge.RW_windchest_k10_rows_refused
def ae:=@List.getElem?_eq_getElem
def af:=@List.getElem?_eq_some_iff
def ag:=@List.length_map
def ai:=@PyProof.Rows.boot_isinstance
def al:=@List.mem_of_getElem?
def am:=@Nat.le_refl
def ar:=@PySem.boot_len
def av:=@List.mem_singleton
def ax:=@List.filter_eq_self
def ay:=@Nat.lt_of_lt_of_le
def aE:=@List.length_append
def aI:=@List.length_cons
def aS:=@List.mem_map
def aT:=@PySem.F.plainAttrs_list
def ba:=@PySem.F.slot_list_append
def be:=@PySem.F.type_list_append
def bg:=@List.mem_cons_of_mem
def bi:=@Nat.le_trans
def bo:=@List.getElem?_map
def bp:=@Nat.ne_of_lt
def bq:=@List.length_take
def br:=@List.mem_append_right
def bt:=@Nat.lt_of_le_of_lt
def bv:=@List.mem_cons_self
def bE:=@List.mem_filter
def bX:=@List.map_map
def cb:=@List.mem_append
def ce:=@List.mem_map_of_mem
def cf:=@Nat.succ_le_succ
def ci:=@List.mem_append_left
def ck:=@List.mem_of_mem_take
def cm:=@List.mem_cons
def cq:=@Int.eq_ofNat_of_zero_le
def cr:=@Bool.false_ne_true
def cw:=@List.all_eq_true
def cy:=@List.size_toArray
def cE:=@List.length_singleton
def cK:=@List.map_cons
def cS:=@List.map_append
def dc:=@List.getElem_of_mem
def de:=@Option.map_eq_some_iff
def df:=@Int.emod_lt_of_pos
def dl:=@Bool.eq_iff_iff
def dn:=@Int.emod_nonneg
def dt:=@List.take_of_length_le
def dv:=@PyProof.Rows.boot_list
def dA:=@Option.isSome_iff_exists
def dE:=@PyProof.Rows.boot_all
def dL:=@Nat.zero_le
def dQ:=@List.append_nil
def dS:=@List.filter_cons
def ed:=@Bool.not_eq_true
def ee:=@List.length_filter_le
def ef:=@List.filter_map
def eg:=@List.take_length
def eh:=@List.getElem_mem
def ej:=@List.mem_iff_getElem
def et:=@Nat.lt_irrefl
def eD:=@Int.toNat_natCast
def eI:=@List.append_assoc
def eJ:=@List.getElem?_set_self
def eR:=@List.getElem?_append_right
def eT:=@List.getElem?_eq_none
def fe:=@PyProof.Rows.boot_str
def ff:=@PyProof.Rows.boot_any
def fg:=@List.mem_range
def fh:=@List.take_add_one
def fi:=@List.nodup_append
def fm:=@Nat.le_of_lt
def fo:=@List.replicate_succ
def fq:=@List.map_congr_left
def ft:=@PyProof.Rows.boot_tuple
def fv:=@Bool.and_eq_true
def fw:=@List.any_eq_true
def fz:=@List.getElem_map
def fA:=@List.filter_append
def fE:=@List.getElem?_take
def fF:=@List.nodup_cons
def fI:=@List.of_mem_zip
def fN:=@List.nil_append
def fR:=@Nat.not_lt_zero
def fS:=@List.getElem?_set_ne
def fT:=@List.getElem?_of_mem
def gc:=@List.getElem?_append_left
def ge:=@List.nodup_nil
def gg:=@Nat.lt_succ_self
def gi:=@List.length_drop
def gp:=@List.lookup_cons
def gu:=@Nat.le_succ
def gx:=@Nat.ne_of_gt
def gy:=@List.zip_append
def gz:=@List.length_zip
def gE:=@List.length_set
def gI:=@PySem.F.slot_dict_getitem.lookup
def gL:=@PyProof.Rows.boot_bool
def gS:=@List.flatten_cons
def gT:=@Nat.lt_succ_of_lt
def gX:=@List.length_range
def hG:=@List.map_id
def hU:=@Bool.not_eq_true'
def hV:=@Bool.false_and
def hW:=@List.length_replicate
def hZ:=@List.getElem?_zipWith
def ia:=@PyProof.Rows.boot_int
def ib:=@List.take_append_of_le_length
def ic:=@List.any_cons
def ii:=@Option.map_some
def ij:=@List.length_nil
def im:=@Nat.add_le_add_left
def io:=@Nat.min_eq_left
def ip:=@List.map_eq_nil_iff
def iq:=@Nat.min_le_left
def iA:=@Int.zero_add
def iE:=@List.ext_getElem?
def iF:=@Nat.le_succ_of_le
def iL:=@Nat.lt_of_succ_lt
def iN:=@List.mem_flatMap
def iO:=@List.map_nil
def iP:=@List.any_map
def iS:=@Nat.sub_self
def iX:=@List.all_map
theorem ja {p q r:Prop} (h:p):(p∨q)∨r:=.inl (.inl h)
local macro_rules | `(tactic| omega) => `(tactic| lia)
set_option Elab.async false
set_option linter.all false
set_option maxRecDepth 100000
namespace L2
open PySem PySem.Spec PyProof.Rows
noncomputable abbrev Key:=Sum Int Str
noncomputable def LR:Key->Value->Bool
 | .inl k,v=>Value.isInt k v
 | .inr x,v=>Value.isStrOf x v
noncomputable def jx (w:World):Key->Int
 | .inl k=>hashInt k
 | .inr x=>hashStr w x
theorem C_:∀ {k:Key} {v:Value},LR k v=true->(∃ i t,k=Sum.inl i/\v=Value.int i t) \/ (∃ x t,k=Sum.inr x/\v=Value.str x t)
 | .inl i,v,h=>by
  obtain ⟨t,e⟩:=Value.isInt_shape (k:=i) (v:=v) h
  exact .inl ⟨i,t,rfl,e⟩
 | .inr x,v,h=>by
  obtain ⟨t,e⟩:=Value.isStrOf_shape (x:=x) (v:=v) h
  exact .inr ⟨x,t,rfl,e⟩
theorem Rn (i:Int) (t:Tok):LR (.inl i) (.int i t)=true:=by simp [LR,Value.isInt]
theorem Rt (x:Str) (t:Tok):LR (.inr x) (.str x t)=true:=by simp [LR,Value.isStrOf]
theorem Yx (a b:Int):decide ((Sum.inl a:Key)=Sum.inl b)=(a == b):=by
 by_cases e:a=b
 ·subst e; simp
 ·have h:¬ (Sum.inl a:Key)=Sum.inl b:=fun q=>e (Sum.inl.inj q)
  rw [decide_eq_false h]
  exact (beq_eq_false_iff_ne.mpr e).symm
theorem YK (a b:Str):decide ((Sum.inr a:Key)=Sum.inr b)=decide (a=b):=by
 by_cases e:a=b
 ·subst e; simp
 ·have h:¬ (Sum.inr a:Key)=Sum.inr b:=fun q=>e (Sum.inr.inj q)
  rw [decide_eq_false h,decide_eq_false e]
theorem Xn (a:Int) (b:Str):decide ((Sum.inl a:Key)=Sum.inr b)=false:=decide_eq_false (fun q=>nomatch q)
theorem YS (a:Str) (b:Int):decide ((Sum.inr a:Key)=Sum.inl b)=false:=decide_eq_false (fun q=>nomatch q)
noncomputable def DW (prog:Program) (w:World):PySem.KeyKind prog w Key where
 is:=LR
 hash:=jx w
 inj:=fun v a b ha hb=>by
  rcases C_ ha with ⟨i,t,rfl,rfl⟩ | ⟨x,t,rfl,rfl⟩
  ·rcases C_ hb with ⟨j,u,rfl,e⟩ | ⟨y,u,rfl,e⟩
   ·injection e with e1 _; rw [e1]
   ·exact nomatch e
  ·rcases C_ hb with ⟨j,u,rfl,e⟩ | ⟨y,u,rfl,e⟩
   ·exact nomatch e
   ·injection e with e1 _; rw [e1]
 byValue:=fun k v h=>by
  rcases C_ h with ⟨i,t,rfl,rfl⟩ | ⟨x,t,rfl,rfl⟩ <;> rfl
 pyHash:=fun hv h=>by
  rcases C_ hv with ⟨i,t,rfl,rfl⟩ | ⟨x,t,rfl,rfl⟩
  ·exact wpAny_pyHash_int h
  ·exact wpAny_pyHash_str h
 eqBool:=fun hu hv h=>by
  rcases C_ hu with ⟨i,t,rfl,rfl⟩ | ⟨x,t,rfl,rfl⟩
  ·rcases C_ hv with ⟨j,u,rfl,rfl⟩ | ⟨y,u,rfl,rfl⟩
   ·rw [Yx] at h; exact wpAny_eqBool_int h
   ·rw [Xn] at h; exact SeqAt.EqAt.int_str i t y u _ _ _ _ h
  ·rcases C_ hv with ⟨j,u,rfl,rfl⟩ | ⟨y,u,rfl,rfl⟩
   ·rw [YS] at h; exact SeqAt.EqAt.str_int x t j u _ _ _ _ h
   ·rw [YK] at h; exact wpAny_eqBool_str h
 «strs»:=fun k x t v h=>by
  rcases C_ h with ⟨i,u,rfl,e⟩ | ⟨y,u,rfl,e⟩
  ·exact nomatch e
  ·injection e with e1 _
   subst e1
   cases v <;> rfl
theorem M8 (prog:Program) (w:World) (i:Int) (t:Tok):(DW prog w).is (.inl i) (.int i t)=true:=Rn i t
theorem N6 (prog:Program) (w:World) (x:Str) (t:Tok):(DW prog w).is (.inr x) (.str x t)=true:=Rt x t
end L2
namespace L2
open PySem PySem.Spec PyProof.Rows
inductive V where
 | non | bl (b:Bool) | int (i:Int) | str (x:Str) | byt (b:Array UInt8) | flt (b:UInt64) | ref (a:Addr) | ty (n:String)
 deriving DecidableEq
noncomputable def RelV:V->Value->Prop
 | .non,u=>u=Value.none
 | .bl b,u=>u=Value.bool b
 | .int i,u=>∃ t,u=Value.int i t
 | .str x,u=>∃ t,u=Value.str x t
 | .byt b,u=>∃ t,u=Value.bytes b t
 | .flt b,u=>∃ t,u=Value.float b t
 | .ref a,u=>u=Value.ref a
 | .ty n,u=>u=Value.type n
noncomputable abbrev Vals:List V->List Value->Prop:=Paired RelV
theorem Vals.length {xs:List V} {us:List Value} (r:Vals xs us):xs.length=us.length:=Paired.length r
theorem Vals.get:∀ {xs:List V} {us:List Value} {i:Nat} {x:V},Vals xs us->xs[i]? = some x->∃ u,us[i]? = some u/\RelV x u
 | _,_,_,_,.nil,e=>by simp at e
 | _,_,0,_,.cons r _,e=>by simp at e; subst e; exact ⟨_,rfl,r⟩
 | _,_,i+1,x,.cons _ t,e=>by
  obtain ⟨u,h1,h2⟩:=Vals.get (i:=i) (x:=x) t (by simpa using e)
  exact ⟨u,by simpa using h1,h2⟩
theorem Vals.set {x:V} {u:Value} (r:RelV x u):∀ {xs:List V} {us:List Value} (i:Nat),Vals xs us->Vals (xs.set i x) (us.set i u)
 | _,_,_,.nil=>.nil
 | _,_,0,.cons _ t=>.cons r t
 | _,_,i+1,.cons q t=>.cons q (Vals.set r i t)
theorem Vals.append:∀ {xs ys:List V} {us ws:List Value},Vals xs us->Vals ys ws->Vals (xs++ys) (us++ws)
 | _,_,_,_,.nil,s=>s
 | _,_,_,_,.cons r t,s=>.cons r (Vals.append t s)
theorem Vals.take:∀ {xs:List V} {us:List Value} (n:Nat),Vals xs us->Vals (xs.take n) (us.take n)
 | _,_,0,_=>.nil
 | _,_,_+1,.nil=>.nil
 | _,_,n+1,.cons r t=>.cons r (Vals.take n t)
theorem Vals.drop:∀ {xs:List V} {us:List Value} (n:Nat),Vals xs us->Vals (xs.drop n) (us.drop n)
 | _,_,0,r=>r
 | _,_,_+1,.nil=>.nil
 | _,_,n+1,.cons _ t=>Vals.drop n t
noncomputable def GP:Option V->Option Value->Prop
 | some v,some u=>RelV v u
 | none,none=>True
 | _,_=>False
noncomputable def KV {κ:Type}:List (κ × V)->List (κ × Value)->Prop:=Paired fun (p:κ × V) (q:κ × Value)=>p.1=q.1/\RelV p.2 q.2
noncomputable def kV:Key->V
 | .inl i=>.int i
 | .inr x=>.str x
inductive HO where
 | lst (xs:List V)
 | tup (xs:List V)
 | dK (kvs:List (Key × V)) | dT (kvs:List (List Key × V))
 | set (S:Int->Bool) (n:Nat)
 | ins (C dx:Addr) (fs:List (Str × V))
 | own (x:Addr)
 | xd (fs:List (Str × V))
 | met (f x:Addr)
 | rng (lo hi:Int)
 | frz (o:Obj) (u:HO)
 | tbl (ps:Array Value)
 | ext (φ:Heap->Prop)
noncomputable abbrev Hp:=Addr->Option HO
noncomputable def upd (H:Hp) (a:Addr) (o:HO):Hp:=fun b=>if b=a then some o else H b
theorem Af {H:Hp} {a:Addr} {o:HO}:upd H a o a=some o:=by unfold upd; rw [if_pos rfl]
theorem Aq {H:Hp} {a b:Addr} {o:HO} (h:b ≠ a):upd H a o b=H b:=by unfold upd; rw [if_neg h]
theorem Nr {H:Hp} {a b:Addr} {o u:HO} (h:H a=some o) (h':H b=some u) (d:o ≠ u):a ≠ b:=by
 intro e; subst e; rw [h] at h'; exact d (Option.some.inj h')
theorem Ao {H:Hp} {a b:Addr} {o:HO} (h:H a=some o) (h':H b=none):a ≠ b:=by
 intro e; subst e; rw [h] at h'; cases h'
section
variable (P:Program) (w:World)
noncomputable def By (H:Hp) (h:Heap) (a:Addr):HO->Prop
 | .lst xs=>xs.length<=sizeLine/\∃ (its:List Value) (n:Nat),Vals xs its/\h.get? a=some { cls:=.type "list",data:=.seq its.toArray n }
 | .tup xs=>xs.length<=sizeLine/\∃ its:List Value,Vals xs its/\IsTup h a its.toArray
 | .dK kvs=>kvs.length<=sizeLine/\(a == sysModules)=false/\∃ vs,KV kvs vs/\h.DictOf (DW P w) a vs
 | .dT kvs=>kvs.length<=sizeLine/\(a == sysModules)=false/\∃ xs:List (List Key × Addr × Value),
   Paired (fun (p:List Key × V) (q:List Key × Addr × Value)=>p.1=q.1/\H q.2.1=some (.tup (p.1.map kV))/\RelV p.2 q.2.2) kvs xs /\
   ∃ o es ep,h.get? a=some o/\o.ExactDict/\o.data=.dict es ep/\es.toList=xs.map (entryOfKey (tupleKind (DW P w)))/\(xs.map (·.1)).Nodup
 | .set S n=>h.SetOf (intKind P w) a S n
 | .ins C dx fs=>H dx=some (.own a)/\fs.length<=1000/\dx ≠ a/\h.get? a=some (PySem.W.instObj C dx) /\
   ∃ mA,h.Ns1 dx mA/\(∀ f,GP (fs.lookup f) (mA f))/\PySem.Within mA (fs.map (·.1))
 | .own _=>∃ o,h.get? a=some o
 | .xd fs=>∃ mA,h.Ns1 a mA/\∀ f,GP (fs.lookup f) (mA f)
 | .rng lo hi=>∃ t u v,h.get? a=some { cls:=.type "range",data:=.fields #[.int lo t,.int hi u,.int 1 v] }
 | .frz o u=>h.get? a=some o/\By H h a u
 | .tbl ps=>h.get? a=some { cls:=.none,data:=.fields ps }
 | .met f x=>h.get? a=some (PySem.W.methodObj (.ref f) (.ref x))
 | .ext φ=>φ h/\(∃ o,h.get? a=some o)/\∀ h1 h2:Heap,φ h1->(∀ o,h1.get? a=some o->h2.get? a=some o)->φ h2
noncomputable def FN (H:Hp) (h:Heap):Prop:=∀ a o,H a=some o->By P w H h a o
end
section
variable {P:Program} {w:World} {H H':Hp} {h h':Heap} {a:Addr} {o:HO}
theorem By.lt (x:By P w H h a o):a<h.objs.size:=by
 cases o with
 | lst xs=>obtain ⟨_,_,_,_,e⟩:=x; exact Heap.lt_size e
 | tup xs=>obtain ⟨_,_,_,p⟩:=x; exact p.lt
 | dK kvs=>obtain ⟨_,_,_,_,o,_,_,e,_⟩:=x; exact Heap.lt_size e
 | dT kvs=>obtain ⟨_,_,_,_,o,_,_,e,_⟩:=x; exact Heap.lt_size e
 | set S n=>obtain ⟨o,_,_,_,e,_⟩:=x; exact Heap.lt_size e
 | ins C dx fs=>obtain ⟨_,_,_,e,_⟩:=x; exact Heap.lt_size e
 | own y=>obtain ⟨_,e⟩:=x; exact Heap.lt_size e
 | xd fs=>obtain ⟨_,⟨_,_,_,e,_⟩,_⟩:=x; exact Heap.lt_size e
 | rng lo hi=>obtain ⟨_,_,_,e⟩:=x; exact Heap.lt_size e
 | frz ob u=>obtain ⟨e,_⟩:=x; exact Heap.lt_size e
 | tbl ps=>exact Heap.lt_size (show h.get? a=some _ from x)
 | met f y=>exact Heap.lt_size (show h.get? a=some _ from x)
 | ext φ=>obtain ⟨_,⟨_,e⟩,_⟩:=x; exact Heap.lt_size e
theorem Paired.Ga {α β:Type} {F G:α->β->Prop}:∀ {l₁:List α} {l₂:List β},Paired F l₁ l₂->(∀ a b,F a b->G a b)->Paired G l₁ l₂
 | _,_,.nil,_=>.nil
 | _,_,.cons r t,f=>.cons (f _ _ r) (Paired.Ga t f)
theorem By.stay (x:By P w H h a o) (k:∀ b u,(b=a \/ H b=some (.own a))->h.get? b=some u->h'.get? b=some u)
  (ho:∀ b,H b=some (.own a)->H' b=some (.own a)) (ht:∀ b xs,H b=some (.tup xs)->H' b=some (.tup xs)):By P w H' h' a o:=by
 induction o with
 | lst xs=>obtain ⟨z,its,n,r,e⟩:=x; exact ⟨z,its,n,r,k _ _ (.inl rfl) e⟩
 | tup xs=>obtain ⟨z,its,r,ob,e,c⟩:=x; exact ⟨z,its,r,ob,k _ _ (.inl rfl) e,c⟩
 | dK kvs=>obtain ⟨z,y,vs,r,ob,es,ep,e,c⟩:=x; exact ⟨z,y,vs,r,ob,es,ep,k _ _ (.inl rfl) e,c⟩
 | dT kvs =>
  obtain ⟨z,y,xs,r,ob,es,ep,e,c⟩:=x
  exact ⟨z,y,xs,Paired.Ga r fun p q z=>⟨z.1,ht _ _ z.2.1,z.2.2⟩,ob,es,ep,k _ _ (.inl rfl) e,c⟩
 | set S n=>obtain ⟨ob,es,ep,t,e,c⟩:=x; exact ⟨ob,es,ep,t,k _ _ (.inl rfl) e,c⟩
 | ins C dx fs =>
  obtain ⟨d,z,ne,e,mA,⟨od,es,ep,e2,c⟩,r⟩:=x
  exact ⟨ho _ d,z,ne,k _ _ (.inl rfl) e,mA,⟨od,es,ep,k _ _ (.inr d) e2,c⟩,r⟩
 | own y=>obtain ⟨ob,e⟩:=x; exact ⟨ob,k _ _ (.inl rfl) e⟩
 | xd fs=>obtain ⟨mA,⟨od,es,ep,e,c⟩,r⟩:=x; exact ⟨mA,⟨od,es,ep,k _ _ (.inl rfl) e,c⟩,r⟩
 | rng lo hi=>obtain ⟨t,u,v,e⟩:=x; exact ⟨t,u,v,k _ _ (.inl rfl) e⟩
 | frz ob u ih=>obtain ⟨e,q⟩:=x; exact ⟨k _ _ (.inl rfl) e,ih q⟩
 | tbl ps =>
  have e:h.get? a=some { cls:=.none,data:=.fields ps }:=x
  show h'.get? a=some { cls:=.none,data:=.fields ps }
  exact k a _ (.inl rfl) e
 | met f y =>
  have e:h.get? a=some (PySem.W.methodObj (.ref f) (.ref y)):=x
  show h'.get? a=some (PySem.W.methodObj (.ref f) (.ref y))
  exact k a _ (.inl rfl) e
 | ext φ=>obtain ⟨p,⟨o,e⟩,st⟩:=x; exact ⟨st _ _ p fun o q=>k _ _ (.inl rfl) q,⟨o,k _ _ (.inl rfl) e⟩,st⟩
theorem FN.lt (x:FN P w H h) (e:H a=some o):a<h.objs.size:=(x a o e).lt
theorem FN.fresh (x:FN P w H h) (e:h.objs.size<=a):H a=none:=by
 cases q:H a with
 | none=>rfl
 | some u=>exact absurd (ay (x.lt q) e) (et _)
theorem FN.kept (x:FN P w H h) (k:∀ b u,h.get? b=some u->h'.get? b=some u):FN P w H h':=fun a o e =>
 (x a o e).stay (fun b u _ q=>k b u q) (fun _ q=>q) fun _ _ q=>q
theorem FN.laid (x:FN P w H h) (k:∀ b u,h.get? b=some u->h'.get? b=some u) (hp:h.objs.size<=a) (new:By P w (upd H a o) h' a o):FN P w (upd H a o) h':=fun b u e=>by
 have hn:=x.fresh hp
 by_cases hb:b=a
 ·subst hb; rw [Af] at e; cases e; exact new
 ·rw [Aq hb] at e
  exact (x b u e).stay (fun c v _ q=>k c v q) (fun c q=>by rw [Aq (Ao q hn)]; exact q) fun c xs q=>by rw [Aq (Ao q hn)]; exact q
end
noncomputable def Rd (H:Hp) (a:Addr) (u:HO):Prop:=H a=some u \/ ∃ o,H a=some (.frz o u)
theorem Rd.ok {P:Program} {w:World} {H:Hp} {h:Heap} {a:Addr} {u:HO} (r:Rd H a u) (x:FN P w H h):By P w H h a u:=by
 rcases r with r | ⟨o,r⟩
 ·exact x a u r
 ·obtain ⟨_,q⟩:=x a _ r
  exact q
noncomputable def eG:Option HO->Prop
 | some (.lst _)=>True
 | some (.dK _)=>True
 | some (.dT _)=>True
 | some (.set _ _)=>True
 | some (.ins _ _ _)=>True
 | some (.ext _)=>True
 | _=>False
section
variable {P:Program} {w:World} {H:Hp} {h h':Heap} {x e:Addr} {o':HO}
theorem FN.write (ok:FN P w H h) (mu:eG (H x)) (he:e=x \/ H e=some (.own x)) (k:∀ b u,b ≠ e->h.get? b=some u->h'.get? b=some u) (heo:∃ u,h'.get? e=some u)
  (new:By P w (upd H x o') h' x o'):FN P w (upd H x o') h':=fun b u q=>by
 have nown:∀ c y,H c=some (.own y)->c ≠ x:=fun c y r z=>by subst z; rw [r] at mu; exact mu
 have ntup:∀ c xs,H c=some (.tup xs)->c ≠ x:=fun c xs r z=>by subst z; rw [r] at mu; exact mu
 by_cases hb:b=x
 ·subst hb; rw [Af] at q; cases q; exact new
 ·rw [Aq hb] at q
  by_cases hbe:b=e
  ·have q':H b=some (.own x):=by
    rcases he with z | z
    ·exact absurd (hbe.trans z) hb
    ·rw [hbe]; exact z
   rw [q] at q'; cases q'
   obtain ⟨v,hv⟩:=heo
   exact ⟨v,by rw [hbe]; exact hv⟩
  ·refine (ok b u q).stay (fun c v hc r=>k c v ?_ r) (fun c r=>by rw [Aq (nown c b r)]; exact r) fun c xs r=>by rw [Aq (ntup c xs r)]; exact r
   rcases hc with rfl | hc
   ·exact hbe
   ·rintro rfl
    rcases he with z | z
    ·exact nown c b hc z
    ·rw [hc] at z; cases z; exact hb rfl
end
structure Un (fs ex:List Addr) (H H':Hp) (h h':Heap):Prop where
 keep:∀ b o,h.get? b=some o->H b=none->b ∉ fs->b ∉ ex->h'.get? b=some o
 slot:∀ b o,h.get? b=some o->H b=none->b∈fs->b ∉ ex->∃ sl,h'.get? b=some { o with slots:=sl }
 free:∀ b o,h.get? b=some o->H b=none->b ∉ ex->H' b=none
 there:∀ b o,h.get? b=some o->b ∉ ex->∃ o',h'.get? b=some o'
 tups:∀ b xs,H b=some (.tup xs)->H' b=some (.tup xs)
 frzs:∀ b o u,H b=some (.frz o u)->H' b=some (.frz o u)
 tbls:∀ b ps,H b=some (.tbl ps)->∃ more,H' b=some (.tbl (ps++more))
section
variable {fs fs' ex ex':List Addr} {H H1 H2:Hp} {h h1 h2 h':Heap} {a x e:Addr} {o:HO}
theorem Un.any (u:Un fs ex H H1 h h1) {b:Addr} {ob:Obj} (q:h.get? b=some ob) (n:H b=none) (hx:b ∉ ex):∃ sl,h1.get? b=some { ob with slots:=sl }:=by
 by_cases hb:b∈fs
 ·exact u.slot b ob q n hb hx
 ·exact ⟨ob.slots,u.keep b ob q n hb hx⟩
theorem Un.kept (k:∀ b u,h.get? b=some u->h'.get? b=some u):Un fs ex H H h h' :=
 ⟨fun b ob q _ _ _=>k b ob q,fun b ob q _ _ _=>⟨ob.slots,k b ob q⟩,fun _ _ _ n _=>n,fun b ob q _=>⟨ob,k b ob q⟩,fun _ _ q=>q,fun _ _ _ q=>q,fun _ ps q=>⟨#[],by rw [q]; simp⟩⟩
theorem Un.refl:Un fs ex H H h h:=Un.kept fun _ _ q=>q
theorem Un.laid (k:∀ b u,h.get? b=some u->h'.get? b=some u) (hp:h.objs.size<=a) (hn:H a=none):Un fs ex H (upd H a o) h h' where
 keep:=fun b u q _ _ _=>k b u q
 slot:=fun b u q _ _ _=>⟨u.slots,k b u q⟩
 free:=fun b u q n _=>by rw [Aq (bp (ay (Heap.lt_size q) hp))]; exact n
 there:=fun b u q _=>⟨u,k b u q⟩
 tups:=fun b xs q=>by rw [Aq (Ao q hn)]; exact q
 frzs:=fun b u xs q=>by rw [Aq (Ao q hn)]; exact q
 tbls:=fun b ps q=>⟨#[],by rw [Aq (Ao q hn),q]; simp⟩
theorem Un.write (mu:eG (H x)) (he:e=x \/ H e=some (.own x)) (k:∀ b u,b ≠ e->h.get? b=some u->h'.get? b=some u) (heo:∃ u,h'.get? e=some u):Un fs ex H (upd H x o) h h':=by
 have hx:∀ b,H b=none->b ≠ x:=fun b n z=>by subst z; rw [n] at mu; exact mu
 have hb:∀ b,H b=none->b ≠ e:=fun b n z=>by
  subst z
  rcases he with r | r
  ·exact hx b n r
  ·rw [n] at r; cases r
 have hm:∀ b u,H b=some u->¬ eG (some u)->b ≠ x:=fun b u q nm z=>by subst z; rw [q] at mu; exact nm mu
 refine ⟨fun b u q n _ _=>k b u (hb b n) q,fun b u q n _ _=>⟨u.slots,k b u (hb b n) q⟩,fun b u q n _=>by rw [Aq (hx b n)]; exact n,fun b u q _=>?_,
  fun b xs q=>by rw [Aq (hm b _ q fun z=>z)]; exact q,fun b u xs q=>by rw [Aq (hm b _ q fun z=>z)]; exact q,fun b ps q=>⟨#[],by rw [Aq (hm b _ q fun z=>z),q]; simp⟩⟩
 by_cases hbe:b=e
 ·subst hbe; exact heo
 ·exact ⟨u,k b u hbe q⟩
end
noncomputable def fO (h:Heap) (H:Hp):List Addr:=(List.range h.objs.size).filter fun a=>(H a).isSome
noncomputable def Mp (h:Heap) (H:Hp):Heap:=PySem.W.hideAll h (fO h H)
theorem Rx (h:Heap) (H:Hp):(Mp h H).objs.size=h.objs.size:=PySem.W.hideAll_size _ _
theorem TY {h:Heap} {H:Hp} {b:Addr} {o:Obj} (e:h.get? b=some o) (n:H b=none):(Mp h H).get? b=some o :=
 PySem.W.hideAll_get _ e fun hm=>by
  have q:(H b).isSome=true:=(bE.mp hm).2
  rw [n] at q; simp at q
theorem V3 {h:Heap} {H:Hp} {b:Addr} {o:Obj} (e:(Mp h H).get? b=some o):h.get? b=some o/\H b=none:=by
 have e':h.get? b=some o:=PySem.W.of_hideAll (fO h H) e
 refine ⟨e',?_⟩
 cases q:H b with
 | none=>rfl
 | some x =>
  have hm:b∈fO h H:=List.mem_filter.mpr ⟨List.mem_range.mpr (Heap.lt_size e'),by simp [q]⟩
  have z:(Mp h H).get? b=none:=PySem.W.hideAll_none (fO h H) hm
  rw [z] at e; cases e
noncomputable def WN (g h:Heap) (L:Addr):List (Addr × Obj):=(List.range h.objs.size).filterMap fun a=>if a=L \/ (g.get? a).isSome=true then none else (h.get? a).map fun o=>(a,o)
noncomputable def rest (g h:Heap) (L d:Addr):List (Addr × Obj):=(WN g h L).filter fun p=>decide (p.1 ≠ d)
end L2
namespace L2
open PySem PySem.Spec PyProof.Rows
structure Mod (K:PySem.W.Frag) (mg:Str->Option Value) (base:Heap):Prop where
 kin:K.In base
 glob:base.Ns mainGlobals mg
 blt:∃ mb,base.Ns builtinsNs mb/\∀ x:Str,x ≠ "__name__"->mb x=bootBuiltins x
 nolimit:base.NoLimit
structure Cx where
 prog:Program
 w:World
 K:PySem.W.Frag
 mg:Str->Option Value
 base:Heap
 A:Around
 N:List Str
 s₀:Shared
 H₀:Hp
 env:Env
 outer:List Env
 stack:List Env
 ex:List Addr
 fn:Str->Bool
 calm:Bool
 pn:List (Addr × Obj)
 xe:Value->Shared->Prop
noncomputable def frs (l:List Env):List Addr:=l.filterMap (·.frame)
noncomputable abbrev Cx.fs (X:Cx):List Addr:=frs X.outer
noncomputable def jb (sc:Scope) (x:Str):Prop:=sc.names.lookup x=some .local \/ sc.names.lookup x=some .cell \/ sc.names.lookup x=some .free
noncomputable def Loc (sc:Scope) (x:Str):Prop:=sc.names.lookup x=some .local \/ sc.names.lookup x=some .cell
noncomputable def Look (env:Env) (h:Heap) (m:Str->Option Value) (x:Str) (u:Value):Prop :=
 (env.kindOf x=some .local/\m x=some u) \/ ((env.kindOf x=some .cell \/ env.kindOf x=some .free)/\∃ c,env.cells.lookup x=some c/\h.IsCell c (some u))
structure Cx.Ok (X:Cx):Prop where
 mod:Mod X.K X.mg X.base
 kind:X.env.scope.kind=.function
 glob:X.env.globals=mainGlobals
 blt:X.env.builtins=builtinsNs
 above:X.s₀.heap.objs.size<=X.env.locals
 inj:∀ x y c,X.env.cells.lookup x=some c->X.env.cells.lookup y=some c->x=y
 has:∀ x,(X.env.kindOf x=some .cell \/ X.env.kindOf x=some .free)->∃ c,X.env.cells.lookup x=some c
 cab:∀ x c,X.fn x=true->X.env.cells.lookup x=some c->X.s₀.heap.objs.size<=c
 hd:X.calm=true->X.A.handled=none
 frames:X.A.frames=some X.stack
 stk:X.stack=X.outer \/ (X.stack=X.env::X.outer/\X.env.frame=some X.env.locals)
 exf:∀ b∈X.ex,b ≠ X.env.locals/\∀ x c,X.env.cells.lookup x=some c->c ≠ b
 bs:∀ b o,X.base.get? b=some o->X.s₀.heap.get? b=some o/\X.H₀ b=none
 bsz:X.base.objs.size<=X.s₀.heap.objs.size
 noex:∀ b o,X.base.get? b=some o->b ∉ X.ex
 exfs:∀ b∈X.ex,b ∉ X.fs
 Hr:X.s₀.heap.FunFrames X.base X.outer
 frf:∀ b∈X.fs,X.H₀ b=none
structure Inv (X:Cx) (pins:List (Addr × Obj)) (σ:List (Option V)) (H:Hp) (s:Shared):Prop where
 ok:X.Ok
 os:s.os=X.s₀.os
 bare:AllBare s.gens
 base:Un X.fs X.ex X.H₀ H X.s₀.heap s.heap
 loc:∃ m,s.heap.Ns X.env.locals m/\∀ (i:Nat) (x:Str) (v:V),X.N[i]? = some x->σ[i]? = some (some v)->jb X.env.scope x->∃ u,RelV v u/\Look X.env s.heap m x u
 cell:∀ x c,X.env.cells.lookup x=some c->∃ v,s.heap.IsCell c v
 free:H X.env.locals=none
 freeC:∀ x c,X.env.cells.lookup x=some c->H c=none
 pin:∀ p∈X.pn++pins,s.heap.get? p.1=some p.2/\H p.1=none/\p.1 ≠ X.env.locals/\p.1 ∉ X.fs/\∀ v,p.2.data ≠ .cell v
 hok:FN X.prog X.w H s.heap
 len:σ.length=X.N.length
section
variable {X:Cx} {pins:List (Addr × Obj)} {σ:List (Option V)} {H H':Hp} {s:Shared} {h':Heap}
theorem Cx.Ok.jJ (ok:X.Ok) {b:Addr} {o:Obj} (e:X.base.get? b=some o):b ∉ X.fs:=fun hb=>by
 have:=(ok.Hr.mem hb).1
 rw [e] at this; cases this
theorem Inv.bs (I:Inv X pins σ H s):∀ b o,X.base.get? b=some o->s.heap.get? b=some o/\H b=none:=fun b o e =>
 ⟨I.base.keep b o (I.ok.bs b o e).1 (I.ok.bs b o e).2 (I.ok.jJ e) (I.ok.noex b o e),I.base.free b o (I.ok.bs b o e).1 (I.ok.bs b o e).2 (I.ok.noex b o e)⟩
theorem Inv.bk (I:Inv X pins σ H s):∀ b o,X.base.get? b=some o->s.heap.get? b=some o:=fun b o e=>(I.bs b o e).1
theorem Inv.mod (I:Inv X pins σ H s):Mod X.K X.mg X.base:=I.ok.mod
theorem Inv.GR (I:Inv X pins σ H s):X.K.In s.heap:=I.ok.mod.kin.keeps I.bk
theorem Inv.lt (I:Inv X pins σ H s):X.env.locals<s.heap.objs.size:=let ⟨_,hn,_⟩:=I.loc; hn.lt
theorem Inv.sz (I:Inv X pins σ H s):X.s₀.heap.objs.size<=s.heap.objs.size:=bi I.ok.above (fm I.lt)
theorem Inv.h_ (I:Inv X pins σ H s) {a:Addr} (h:s.heap.objs.size<=a):a ∉ X.fs:=fun hb=>by
 obtain ⟨_,o,ho,_⟩:=I.ok.Hr.mem hb
 exact absurd (ay (Heap.lt_size ho) (bi I.sz h)) (et _)
theorem Inv.Vj (I:Inv X pins σ H s):∀ x c,X.env.cells.lookup x=some c->c ≠ X.env.locals:=fun x c e z=>by
 obtain ⟨v,o,ho,hd⟩:=I.cell x c e
 obtain ⟨m,⟨o',es,ep,ho',hd',_⟩,_⟩:=I.loc
 rw [z,ho'] at ho; cases ho; rw [hd'] at hd; cases hd
theorem Inv.Hr (I:Inv X pins σ H s):s.heap.FunFrames X.base X.outer:=by
 have all:∀ (l:List Env),(∀ b∈frs l,b∈X.fs)->X.s₀.heap.FunFrames X.base l->s.heap.FunFrames X.base l:=by
  intro l
  induction l with
  | nil=>intro _ _; trivial
  | cons env r ih =>
   intro hs hl
   obtain ⟨hk,⟨L,o,hf,hn,ho,hd⟩,hr⟩:=hl
   have hL:L∈X.fs:=hs L (by unfold frs; rw [List.filterMap_cons,hf]; exact List.mem_cons_self)
   obtain ⟨sl,e⟩:=I.base.slot L o ho (I.ok.frf L hL) hL fun z=>I.ok.exfs L z hL
   exact ⟨hk,⟨L,_,hf,hn,e,hd⟩,ih (fun b hb=>hs b (by unfold frs; rw [List.filterMap_cons,hf]; exact List.mem_cons_of_mem _ hb)) hr⟩
 exact all X.outer (fun _ hb=>hb) I.ok.Hr
theorem Inv.stack (I:Inv X pins σ H s):s.heap.FunFrames X.base X.stack:=by
 rcases I.ok.stk with e | ⟨e,hf⟩
 ·rw [e]; exact I.Hr
 ·rw [e]
  obtain ⟨m,hn,_⟩:=I.loc
  refine .cons (by rw [I.ok.kind]; decide) hf hn ?_ I.Hr
  exact Heap.get?_none_of_le (bi I.ok.bsz I.ok.above)
theorem Inv.Lr (I:Inv X pins σ H s):∀ b∈frs X.stack,b∈X.env.locals::X.fs:=fun b hb=>by
 rcases I.ok.stk with e | ⟨e,hf⟩
 ·rw [e] at hb; exact bg _ hb
 ·rw [e] at hb
  unfold frs at hb
  rw [List.filterMap_cons,hf] at hb
  exact hb
theorem Inv.HH (I:Inv X pins σ H s):∀ b∈frs X.stack,H b=none:=fun b hb=>by
 rcases cm.mp (I.Lr b hb) with e | hb
 ·rw [e]; exact I.free
 ·obtain ⟨_,o,ho,_⟩:=I.ok.Hr.mem hb
  exact I.base.free b o ho (I.ok.frf b hb) fun z=>I.ok.exfs b z hb
theorem Inv.step {g':Array GenState} {t':Nat} {d':Drawn} {ch:List Addr} (I:Inv X pins σ H s)
  (hch:∀ b∈ch,(b∈X.ex \/ X.s₀.heap.objs.size<=b)/\b ≠ X.env.locals/\(∀ x c,X.env.cells.lookup x=some c->c ≠ b)/\∀ p∈X.pn++pins,p.1 ≠ b)
  (keep:∀ b o,b ≠ X.env.locals->b ∉ X.fs->b ∉ ch->s.heap.get? b=some o->H b=none->h'.get? b=some o)
  (slot:∀ b o,b ≠ X.env.locals->b∈X.fs->b ∉ ch->s.heap.get? b=some o->H b=none->∃ sl,h'.get? b=some { o with slots:=sl }) (free:∀ b o,b ∉ ch->s.heap.get? b=some o->H b=none->H' b=none)
  (there:∀ b o,b ∉ ch->s.heap.get? b=some o->∃ o',h'.get? b=some o')
  (tups:∀ b xs,H b=some (.tup xs)->H' b=some (.tup xs)) (frzs:∀ b o u,H b=some (.frz o u)->H' b=some (.frz o u)) (tbls:∀ b ps,H b=some (.tbl ps)->∃ more,H' b=some (.tbl (ps++more)))
  (ns:∀ m,s.heap.Ns X.env.locals m->h'.Ns X.env.locals m) (hok:FN X.prog X.w H' h') (hg:AllBare g') :
  Inv X pins σ H' { s with heap:=h',gens:=g',drawn:=d',toks:=t' }:=by
 have neL:∀ b o,X.s₀.heap.get? b=some o->b ≠ X.env.locals:=fun b o e=>bp (ay (Heap.lt_size e) I.ok.above)
 have neC:∀ b o,X.s₀.heap.get? b=some o->b ∉ X.ex->b ∉ ch:=fun b o e hx hb=>by
  rcases (hch b hb).1 with z | z
  ·exact hx z
  ·exact absurd (ay (Heap.lt_size e) z) (et _)
 have cellK:∀ x c,X.env.cells.lookup x=some c->∀ v,s.heap.IsCell c v->h'.IsCell c v:=fun x c e v ⟨o,ho,hd⟩=>by
  have nch:c ∉ ch:=fun z=>(hch c z).2.2.1 x c e rfl
  by_cases hc:c∈X.fs
  ·obtain ⟨sl,q⟩:=slot c o (I.Vj x c e) hc nch ho (I.freeC x c e)
   exact ⟨_,q,hd⟩
  ·exact ⟨o,keep c o (I.Vj x c e) hc nch ho (I.freeC x c e),hd⟩
 refine ⟨I.ok,I.os,hg,⟨fun b o e n hb hx=>?_,fun b o e n hb hx=>?_,fun b o e n hx=>?_,fun b o e hx=>?_,fun b xs e=>tups b xs (I.base.tups b xs e),fun b o xs e=>frzs b o xs (I.base.frzs b o xs e),fun b ps e=>?_⟩,?_,fun x c e=>?_,?_,fun x c e=>?_,fun p hp=>?_,hok,I.len⟩
 ·exact keep b o (neL b o e) hb (neC b o e hx) (I.base.keep b o e n hb hx) (I.base.free b o e n hx)
 ·obtain ⟨sl,e1⟩:=I.base.slot b o e n hb hx
  obtain ⟨sl',e2⟩:=slot b _ (neL b o e) hb (neC b o e hx) e1 (I.base.free b o e n hx)
  exact ⟨sl',e2⟩
 ·obtain ⟨o',e1⟩:=I.base.there b o e hx
  exact free b o' (neC b o e hx) e1 (I.base.free b o e n hx)
 ·obtain ⟨o',e1⟩:=I.base.there b o e hx
  exact there b o' (neC b o e hx) e1
 ·obtain ⟨m1,e1⟩:=I.base.tbls b ps e
  obtain ⟨m2,e2⟩:=tbls b _ e1
  exact ⟨m1++m2,by rw [e2,Array.append_assoc]⟩
 ·obtain ⟨m,hn,hl⟩:=I.loc
  refine ⟨m,ns m hn,fun i x v e1 e2 e3=>?_⟩
  obtain ⟨u,r,l⟩:=hl i x v e1 e2 e3
  refine ⟨u,r,?_⟩
  rcases l with l | ⟨k,c,e,z⟩
  ·exact .inl l
  ·exact .inr ⟨k,c,e,cellK x c e _ z⟩
 ·obtain ⟨v,z⟩:=I.cell x c e
  exact ⟨v,cellK x c e v z⟩
 ·obtain ⟨m,⟨o,_,_,ho,_⟩,_⟩:=I.loc
  exact free _ o (fun z=>(hch _ z).2.1 rfl) ho I.free
 ·obtain ⟨v,o,ho,hd⟩:=I.cell x c e
  exact free c o (fun z=>(hch c z).2.2.1 x c e rfl) ho (I.freeC x c e)
 ·obtain ⟨e,n,ne,nf,d⟩:=I.pin p hp
  have nch:p.1 ∉ ch:=fun z=>(hch p.1 z).2.2.2 p hp rfl
  exact ⟨keep p.1 p.2 ne nf nch e n,free p.1 p.2 nch e n,ne,nf,d⟩
theorem Inv.un {t':Nat} (I:Inv X pins σ H s) (u:Un X.fs [] H H' s.heap h') (hok:FN X.prog X.w H' h'):Inv X pins σ H' { s with heap:=h',toks:=t' }:=by
 obtain ⟨m,⟨o,es,ep,ho,r⟩,_⟩:=id I.loc
 obtain ⟨sl,hL⟩:=u.any ho I.free (by simp)
 exact I.step (g':=s.gens) (d':=s.drawn) (ch:=[]) (fun _ z=>nomatch z) (fun b o _ hb _ e n=>u.keep b o e n hb (by simp)) (fun b o _ hb _ e n=>u.slot b o e n hb (by simp)) (fun b o _ e n=>u.free b o e n (by simp)) (fun b o _ e=>u.there b o e (by simp)) u.tups u.frzs u.tbls (fun m' hm=>by
  obtain ⟨o',es',ep',ho',r'⟩:=hm
  rw [ho] at ho'; cases ho'
  exact ⟨_,es',ep',hL,r'⟩) hok I.bare
theorem Inv.call {g':Array GenState} {t':Nat} {d':Drawn} {ch:List Addr} (I:Inv X pins σ H s) (u:Un (frs X.stack) ch H H' s.heap h') (hok:FN X.prog X.w H' h') (hg:AllBare g')
  (hch:∀ b∈ch,(b∈X.ex \/ X.s₀.heap.objs.size<=b)/\b ≠ X.env.locals/\(∀ x c,X.env.cells.lookup x=some c->c ≠ b)/\∀ p∈X.pn++pins,p.1 ≠ b) :
  Inv X pins σ H' { s with heap:=h',gens:=g',drawn:=d',toks:=t' }:=by
 obtain ⟨m,⟨o,es,ep,ho,r⟩,_⟩:=id I.loc
 obtain ⟨sl,hL⟩:=u.any ho I.free fun z=>(hch _ z).2.1 rfl
 exact I.step (ch:=ch) hch (fun b o hL hb hc e n=>u.keep b o e n (fun z=>(cm.mp (I.Lr b z)).elim hL hb) hc) (fun b o _ _ hc e n=>u.any e n hc) (fun b o hc e n=>u.free b o e n hc) (fun b o hc e=>u.there b o e hc) u.tups u.frzs u.tbls (fun m' hm=>by
  obtain ⟨o',es',ep',ho',r'⟩:=hm
  rw [ho] at ho'; cases ho'
  exact ⟨_,es',ep',hL,r'⟩) hok hg
theorem Inv.turned {t':Nat} {it:Addr} (I:Inv X pins σ H s) (k:∀ b o,b ≠ it->s.heap.get? b=some o->h'.get? b=some o) (hn:H it=none) (hL:it ≠ X.env.locals)
  (h1:it∈X.ex \/ X.s₀.heap.objs.size<=it) (h2:∀ x c,X.env.cells.lookup x=some c->c ≠ it) (h3:∀ p∈X.pn++pins,p.1 ≠ it):Inv X pins σ H { s with heap:=h',toks:=t' }:=by
 have nit:∀ b u,H b=some u->b ≠ it:=fun b u e z=>by rw [z,hn] at e; cases e
 refine I.step (g':=s.gens) (d':=s.drawn) (ch:=[it]) (fun b hb=>?_) (fun b o _ _ hc e _=>k b o (fun z=>hc (by simp [z])) e) (fun b o _ _ hc e _=>⟨o.slots,k b o (fun z=>hc (by simp [z])) e⟩) (fun _ _ _ _ n=>n)
  (fun b o hc e=>⟨o,k b o (fun z=>hc (by simp [z])) e⟩) (fun _ _ e=>e) (fun _ _ _ e=>e) (fun b ps e=>⟨#[],by rw [e]; simp⟩) (fun m hm=>?_) (fun b u e=>?_) I.bare
 ·have e:b=it:=by simpa using hb
  subst e
  exact ⟨h1,hL,h2,h3⟩
 ·obtain ⟨o,es,ep,ho,r⟩:=hm
  exact ⟨o,es,ep,k _ o (Ne.symm hL) ho,r⟩
 ·refine (I.hok b u e).stay (fun c v hc q=>k c v ?_ q) (fun _ q=>q) fun _ _ q=>q
  rcases hc with z | z
  ·rw [z]; exact nit b u e
  ·exact nit c _ z
theorem Inv.tok (I:Inv X pins σ H s) (t:Nat):Inv X pins σ H { s with toks:=t }:=I.un (h':=s.heap) (t':=t) Un.refl I.hok
theorem Inv.kept {t':Nat} (I:Inv X pins σ H s) (k:∀ b u,s.heap.get? b=some u->h'.get? b=some u):Inv X pins σ H { s with heap:=h',toks:=t' }:=I.un (Un.kept k) (I.hok.kept k)
theorem Inv.laid {a:Addr} {o:HO} {t':Nat} (I:Inv X pins σ H s) (k:∀ b u,s.heap.get? b=some u->h'.get? b=some u) (hp:s.heap.objs.size<=a) (new:By X.prog X.w (upd H a o) h' a o) :
  Inv X pins σ (upd H a o) { s with heap:=h',toks:=t' }:=I.un (Un.laid k hp (I.hok.fresh hp)) (I.hok.laid k hp new)
theorem Inv.write {x e:Addr} {o:HO} {t':Nat} (I:Inv X pins σ H s) (mu:eG (H x)) (he:e=x \/ H e=some (.own x)) (k:∀ b u,b ≠ e->s.heap.get? b=some u->h'.get? b=some u) (heo:∃ u,h'.get? e=some u)
  (new:By X.prog X.w (upd H x o) h' x o):Inv X pins σ (upd H x o) { s with heap:=h',toks:=t' }:=I.un (Un.write mu he k heo) (I.hok.write mu he k heo new)
theorem Inv.Qc {pins':List (Addr × Obj)} (I:Inv X pins σ H s) (h:∀ p∈pins',s.heap.get? p.1=some p.2/\H p.1=none/\p.1 ≠ X.env.locals/\p.1 ∉ X.fs/\∀ v,p.2.data ≠ .cell v):Inv X pins' σ H s :=
 ⟨I.ok,I.os,I.bare,I.base,I.loc,I.cell,I.free,I.freeC,fun p hp=>(cb.mp hp).elim (fun z=>I.pin p (ci _ z)) (h p),I.hok,I.len⟩
theorem Ko {N:List Str} (hN:N.Nodup) {i j:Nat} {x:Str} (a:N[i]? = some x) (b:N[j]? = some x):i=j:=by
 obtain ⟨h1,e1⟩:=af.mp a
 obtain ⟨h2,e2⟩:=af.mp b
 exact (List.getElem_inj hN).mp (e1.trans e2.symm)
theorem Jc {M:Model} {A:Around} {E:Value->Shared->Prop} {i:Nat} {x:Str} {v:V} {u:Value} {Q:Unit->Shared->Prop} (I:Inv X pins σ H s) (hN:X.N.Nodup) (hi:X.N[i]? = some x) (hx:Loc X.env.scope x) (r:RelV v u)
  (h:∀ s',Inv X pins (σ.set i (some v)) H s'->(∃ a,Heap.SameBut a s.heap s'.heap/\(a=X.env.locals \/ X.env.cells.lookup x=some a))->Q () s') (hf:X.fn x=true \/ X.env.scope.names.lookup x=some .local:=by first | exact .inl rfl | exact .inr rfl | assumption):wpAny M A (storeName X.env x u) Q E s:=by
 obtain ⟨m,hn,hl⟩:=id I.loc
 have hcls:(X.env.scope.kind == .class || (X.env.scope.kind == .module && X.env.locals != X.env.globals))=false:=by rw [I.ok.kind]; rfl
 have hiσ:i<σ.length:=by rw [I.len]; exact (af.mp hi).1
 have Vj:=I.Vj
 have tracked:∀ {a:Addr} {h':Heap},(∃ o,s.heap.get? a=some o/\H a=none)->Heap.SameBut a s.heap h'->FN X.prog X.w H h':=fun {a h'} ha hs b ob e=>by
  obtain ⟨_,_,hfree⟩:=ha
  refine (I.hok b ob e).stay (fun c w' hc q=>(hs.2 c ?_).trans q) (fun _ q=>q) fun _ _ q=>q
  rintro rfl
  rcases hc with rfl | hc
  ·rw [hfree] at e; cases e
  ·rw [hfree] at hc; cases hc
 rcases hx with hk | hk
 ·refine wpAny_storeName_local hk hn (fun h' hn' hs=>?_) hcls
  obtain ⟨oL,_,_,hoL,_⟩:=id hn
  refine h _ ⟨I.ok,I.os,I.bare,⟨fun b o e n hb hx=>?_,fun b o e n hb hx=>?_,I.base.free,fun b o e hx=>?_,I.base.tups,I.base.frzs,I.base.tbls⟩,⟨_,hn',fun j y v' e1 e2 e3=>?_⟩,fun y c e=>?_,I.free,I.freeC,fun p hp=>?_,tracked ⟨oL,hoL,I.free⟩ hs,by simpa using I.len⟩ ⟨_,hs,.inl rfl⟩
  ·exact (hs.2 b (bp (ay (Heap.lt_size e) I.ok.above))).trans (I.base.keep b o e n hb hx)
  ·obtain ⟨sl,e1⟩:=I.base.slot b o e n hb hx
   exact ⟨sl,(hs.2 b (bp (ay (Heap.lt_size e) I.ok.above))).trans e1⟩
  ·obtain ⟨o',e1⟩:=I.base.there b o e hx
   exact ⟨o',(hs.2 b (bp (ay (Heap.lt_size e) I.ok.above))).trans e1⟩
  ·by_cases hj:j=i
   ·subst hj
    rw [hi] at e1; cases e1
    rw [eJ hiσ] at e2
    cases e2
    exact ⟨u,r,.inl ⟨hk,by simp⟩⟩
   ·rw [fS (Ne.symm hj)] at e2
    obtain ⟨u',r',q⟩:=hl j y v' e1 e2 e3
    refine ⟨u',r',?_⟩
    rcases q with ⟨k,e⟩ | ⟨k,c,e,z⟩
    ·refine .inl ⟨k,?_⟩
     have:y ≠ x:=fun e=>hj (Ko hN e1 (e ▸ hi))
     simp [this,e]
    ·exact .inr ⟨k,c,e,z.sameBut hs (Vj y c e)⟩
  ·obtain ⟨w',z⟩:=I.cell y c e
   exact ⟨w',z.sameBut hs (Vj y c e)⟩
  ·obtain ⟨e,n,ne,nf,d⟩:=I.pin p hp
   exact ⟨(hs.2 p.1 ne).trans e,n,ne,nf,d⟩
 ·have hfn:X.fn x=true:=by
   rcases hf with z | z
   ·exact z
   ·rw [z] at hk; cases hk
  obtain ⟨c,hc⟩:=I.ok.has x (.inl hk)
  obtain ⟨w',z⟩:=I.cell x c hc
  refine wpAny_storeName_cell I.ok.kind hk hc z (fun h' hc' hs=>?_)
  obtain ⟨oc,hoc,hocd⟩:=id z
  refine h { s with heap:=h' } ⟨I.ok,I.os,I.bare,⟨fun b o e n hb hx=>?_,fun b o e n hb hx=>?_,I.base.free,fun b o e hx=>?_,I.base.tups,I.base.frzs,I.base.tbls⟩,⟨m,hn.sameBut hs (Ne.symm (Vj x c hc)),fun j y v' e1 e2 e3=>?_⟩,fun y c' e=>?_,I.free,I.freeC,fun p hp=>?_,tracked ⟨oc,hoc,I.freeC x c hc⟩ hs,by simpa using I.len⟩ ⟨c,hs,.inr hc⟩
  ·exact (hs.2 b (bp (ay (Heap.lt_size e) (I.ok.cab x c hfn hc)))).trans (I.base.keep b o e n hb hx)
  ·obtain ⟨sl,e1⟩:=I.base.slot b o e n hb hx
   exact ⟨sl,(hs.2 b (bp (ay (Heap.lt_size e) (I.ok.cab x c hfn hc)))).trans e1⟩
  ·obtain ⟨o',e1⟩:=I.base.there b o e hx
   exact ⟨o',(hs.2 b (bp (ay (Heap.lt_size e) (I.ok.cab x c hfn hc)))).trans e1⟩
  ·by_cases hj:j=i
   ·subst hj
    rw [hi] at e1; cases e1
    rw [eJ hiσ] at e2
    cases e2
    exact ⟨u,r,.inr ⟨.inl hk,c,hc,hc'⟩⟩
   ·rw [fS (Ne.symm hj)] at e2
    obtain ⟨u',r',q⟩:=hl j y v' e1 e2 e3
    refine ⟨u',r',?_⟩
    rcases q with q | ⟨k,c',e,z'⟩
    ·exact .inl q
    ·refine .inr ⟨k,c',e,z'.sameBut hs ?_⟩
     rintro rfl
     exact hj (Ko hN e1 (I.ok.inj _ _ _ e hc ▸ hi))
  ·by_cases hcc:c'=c
   ·subst hcc; exact ⟨_,hc'⟩
   ·obtain ⟨w2,z2⟩:=I.cell y c' e
    exact ⟨w2,z2.sameBut hs hcc⟩
  ·obtain ⟨e,n,ne,nf,d⟩:=I.pin p hp
   refine ⟨(hs.2 p.1 ?_).trans e,n,ne,nf,d⟩
   intro q
   rw [q,hoc] at e
   have q':oc=p.2:=Option.some.inj e
   exact d w' (by rw [← q']; exact hocd)
theorem J_ {M:Model} {A:Around} {E:Value->Shared->Prop} {i:Nat} {x:Str} {v:V} {u:Value} {Q:Unit->Shared->Prop} (I:Inv X pins σ H s) (hN:X.N.Nodup) (hi:X.N[i]? = some x) (hx:Loc X.env.scope x) (r:RelV v u)
  (h:∀ s',Inv X pins (σ.set i (some v)) H s'->Q () s') (hf:X.fn x=true \/ X.env.scope.names.lookup x=some .local:=by first | exact .inl rfl | exact .inr rfl | assumption):wpAny M A (storeName X.env x u) Q E s :=
 Jc I hN hi hx r (fun s' I' _=>h s' I') hf
theorem Inv.call' {s':Shared} {ch:List Addr} (I:Inv X pins σ H s) (ho:s'.os=s.os) (u:Un (frs X.stack) ch H H' s.heap s'.heap) (hok:FN X.prog X.w H' s'.heap) (hg:AllBare s'.gens)
  (hch:∀ b∈ch,(b∈X.ex \/ X.s₀.heap.objs.size<=b)/\b ≠ X.env.locals/\(∀ x c,X.env.cells.lookup x=some c->c ≠ b)/\∀ p∈X.pn++pins,p.1 ≠ b):Inv X pins σ H' s':=by
 obtain ⟨h',g',d',t',o'⟩:=s'
 have e:o'=s.os:=ho
 subst e
 exact I.call (g':=g') (t':=t') (d':=d') u hok hg hch
end
noncomputable abbrev XK:=Value->Option Addr->Hp->Prop
noncomputable abbrev St:=List (Option V)
noncomputable abbrev VK:=V->Hp->Prop
noncomputable abbrev TE:=St->Hp->VK->Prop
noncomputable abbrev TT:=St->Hp->(Bool->Hp->Prop)->Prop
noncomputable abbrev TA:=St->Hp->(List V->Hp->Prop)->Prop
structure Ends where
 nx:St->Hp->Prop
 rt:VK
 bk:St->Hp->Prop:=fun _ _=>False
 ct:St->Hp->Prop:=fun _ _=>False
noncomputable abbrev TS:=Ends->St->Hp->Prop
noncomputable def EP (X:Cx) (pins:List (Addr × Obj)) (σ:St) (Q:VK) (u:Value) (s':Shared):Prop:=∃ v H',Inv X pins σ H' s'/\RelV v u/\Q v H'
noncomputable def TP (X:Cx) (pins:List (Addr × Obj)) (σ:St) (Q:Bool->Hp->Prop) (b:Bool) (s':Shared):Prop:=∃ H',Inv X pins σ H' s'/\Q b H'
noncomputable def AP (X:Cx) (pins:List (Addr × Obj)) (σ:St) (Q:List V->Hp->Prop) (us:List Value) (s':Shared):Prop:=∃ vs H',Inv X pins σ H' s'/\Vals vs us/\Q vs H'
noncomputable def SP (X:Cx) (pins:List (Addr × Obj)) (D:Ends) (f:Flow) (s':Shared):Prop :=
 match f with
 | .next=>∃ σ' H',Inv X pins σ' H' s'/\D.nx σ' H'
 | .brk=>∃ σ' H',Inv X pins σ' H' s'/\D.bk σ' H'
 | .cont=>∃ σ' H',Inv X pins σ' H' s'/\D.ct σ' H'
 | .ret u=>∃ v σ' H',Inv X pins σ' H' s'/\RelV v u/\D.rt v H'
noncomputable def PE (X:Cx) (e:Expr) (t:TE):Prop :=
 ∀ (pins:List (Addr × Obj)) (s:Shared) (σ:St) (H:Hp) (Q:VK),Inv X pins σ H s->t σ H Q->wpAny (model X.prog X.w) X.A (eval e X.env) (EP X pins σ Q) X.xe s
noncomputable def PT (X:Cx) (e:Expr) (t:TT):Prop :=
 ∀ (pins:List (Addr × Obj)) (s:Shared) (σ:St) (H:Hp) (Q:Bool->Hp->Prop),Inv X pins σ H s->t σ H Q->wpAny (model X.prog X.w) X.A (isTrue e X.env (eval e X.env)) (TP X pins σ Q) X.xe s
noncomputable def PW (X:Cx) (e:Expr) (t:TT):Prop :=
 ∀ (whole:Sem Value) (pins:List (Addr × Obj)) (s:Shared) (σ:St) (H:Hp) (Q:Bool->Hp->Prop),Inv X pins σ H s->t σ H Q->wpAny (model X.prog X.w) X.A (isTrue e X.env whole) (TP X pins σ Q) X.xe s
theorem PW.pt {X:Cx} {e:Expr} {t:TT} (h:PW X e t):PT X e t:=h _
noncomputable def PA (X:Cx) (es:List Expr) (t:TA):Prop :=
 ∀ (pos:Pos) (pins:List (Addr × Obj)) (s:Shared) (σ:St) (H:Hp) (Q:List V->Hp->Prop),Inv X pins σ H s->t σ H Q->wpAny (model X.prog X.w) X.A (spliced (backTo pos (starEach es X.env))) (AP X pins σ Q) X.xe s
noncomputable def PS (X:Cx) (st:Stmt) (t:TS):Prop :=
 ∀ (pins:List (Addr × Obj)) (s:Shared) (σ:St) (H:Hp) (D:Ends),Inv X pins σ H s->t D σ H->wpAny (model X.prog X.w) X.A (exec st X.env) (SP X pins D) X.xe s
noncomputable def NB (X:Cx) (st:List Stmt) (t:TS):Prop :=
 ∀ (pins:List (Addr × Obj)) (s:Shared) (σ:St) (H:Hp) (D:Ends),Inv X pins σ H s->t D σ H->wpAny (model X.prog X.w) X.A (execs st X.env) (SP X pins D) X.xe s
theorem Ci {α:Type} {t:Sem α} {Q Q':α->Shared->Prop} {M:Model} {A:Around} {E:Value->Shared->Prop} {s:Shared} (h:wpAny M A t Q E s) (hQ:∀ a s,Q a s->Q' a s):wpAny M A t Q' E s:=wpAny_mono h hQ fun _ _ x=>x
end L2
namespace L2
open PySem PySem.Spec PyProof.Rows
section
variable {X:Cx}
noncomputable def cU (i:Nat):TE:=fun σ H Q=>∃ v,σ[i]? = some (some v)/\Q v H
noncomputable def tC (v:V):TE:=fun _ H Q=>Q v H
theorem Xo {i:Nat} {x:Str} {pos:Pos} (hN:X.N[i]? = some x) (hv:jb X.env.scope x) (hd:(x == ("__debug__" : Str))=false:=by decide) (hcd:(x == ("__classdict__" : Str))=false:=by decide):PE X (.Name x pos) (cU i):=by
 intro pins s σ H Q I h
 obtain ⟨v,e,h⟩:=h
 obtain ⟨m,hn,hl⟩:=I.loc
 obtain ⟨u,r,l⟩:=hl i x v hN e hv
 have fin:EP X pins σ Q u s:=⟨v,H,I,r,h⟩
 rcases l with ⟨hk,hm⟩ | ⟨hk,c,hc,hcell⟩
 ·exact wpAny_Name (wpAny_loadName_local I.ok.kind hk hn hm fin) hd
 ·rcases hk with hk | hk
  ·exact wpAny_Name (wpAny_loadName_cell I.ok.kind hk hc hcell fin) hd
  ·exact wpAny_Name (wpAny_loadName_free I.ok.kind hk hc hcell fin hcd) hd
theorem Ac {i j pos}:PE X (.Constant (.int i) j pos) (tC (.int i)):=fun _ _ _ H _ I h=>wpAny_Constant_int ⟨.int i,H,I.tok _,⟨_,rfl⟩,h⟩
theorem Ek {b j pos}:PE X (.Constant (.bool b) j pos) (tC (.bl b)):=fun _ _ _ H _ I h=>Constant_bool ⟨.bl b,H,I,rfl,h⟩
theorem DX {j pos}:PE X (.Constant .none j pos) (tC .non):=fun _ _ _ H _ I h=>Constant_none ⟨.non,H,I,rfl,h⟩
theorem Al {x j pos}:PE X (.Constant (.str x) j pos) (tC (.str x)):=fun _ _ _ H _ I h=>Calls.Constant_str ⟨.str x,H,I.tok _,⟨_,rfl⟩,h⟩
noncomputable def Gl (X:Cx) (x:Str):Prop:=X.env.kindOf x=some .globalImplicit
theorem Gj {E:Value->Shared->Prop} {pins:List (Addr × Obj)} {s:Shared} {σ:St} {H:Hp} {x:Str} {u:Value} {pos:Pos} {Q:Value->Shared->Prop} (I:Inv X pins σ H s) (hg:Gl X x) (hm:X.mg x=some u) (h:Q u s)
  (hd:(x == ("__debug__" : Str))=false:=by decide):wpAny (model X.prog X.w) X.A (eval (.Name x pos) X.env) Q E s :=
 Calls.Name_function_global I.ok.kind hg (Calls.loadGlobal_global (by rw [I.ok.glob]; exact I.mod.glob.keeps I.bk) hm h) hd
theorem IK {E:Value->Shared->Prop} {pins:List (Addr × Obj)} {s:Shared} {σ:St} {H:Hp} {x:Str} {u:Value} {pos:Pos} {Q:Value->Shared->Prop} (I:Inv X pins σ H s) (hg:Gl X x) (hm:X.mg x=none) (hv:bootBuiltins x=some u) (h:Q u s)
  (hn:x ≠ "__name__":=by decide) (hd:(x == ("__debug__" : Str))=false:=by decide):wpAny (model X.prog X.w) X.A (eval (.Name x pos) X.env) Q E s:=by
 obtain ⟨mb,h1,h2⟩:=I.mod.blt
 exact Calls.Name_function_global I.ok.kind hg (Calls.loadGlobal_builtin (by rw [I.ok.glob]; exact I.mod.glob.keeps I.bk) hm (by rw [I.ok.blt]; exact h1.keeps I.bk) ((h2 x hn).trans hv) h) hd
theorem Be {x:Str} {v:V} {u:Value} {pos:Pos} (hg:Gl X x) (hm:X.mg x=some u) (r:RelV v u) (hd:(x == ("__debug__" : Str))=false:=by decide):PE X (.Name x pos) (tC v) :=
 fun _ _ _ H _ I h=>Gj I hg hm ⟨v,H,I,r,h⟩ hd
theorem DQ {x:Str} {v:V} {u:Value} {pos:Pos} (hg:Gl X x) (hm:X.mg x=none) (hv:bootBuiltins x=some u) (r:RelV v u) (hn:x ≠ "__name__":=by decide) (hd:(x == ("__debug__" : Str))=false:=by decide):PE X (.Name x pos) (tC v) :=
 fun _ _ _ H _ I h=>IK I hg hm hv ⟨v,H,I,r,h⟩ hn hd
variable {a b:Expr} {ta tb:TE} {pos:Pos}
noncomputable def PC (X:Cx) (op:CmpOp) (a b:Expr) (t:TE):Prop :=
 ∀ (pins:List (Addr × Obj)) (s:Shared) (σ:St) (H:Hp) (Q:VK),Inv X pins σ H s->t σ H Q ->
  wpAny (model X.prog X.w) X.A (eval a X.env) (fun v s₁=>wpAny (model X.prog X.w) X.A (eval b X.env) (fun u s₂=>wpAny (model X.prog X.w) X.A (compareOp op v u) (EP X pins σ Q) X.xe s₂) X.xe s₁) X.xe s
noncomputable def tB (t:TE):TT:=fun σ H Q=>t σ H fun x H1=>∃ c,x=.bl c/\Q c H1
theorem Mw {op:CmpOp} {t:TE} (h:PC X op a b t) (h1:behindInMarks op b=false:=by first | exact nobehind _ (by decide) (by decide) | rfl):PE X (.Compare a [op] [b] pos) t:=fun pins s σ H Q I hw=>wpAny_Compare1 (h pins s σ H Q I hw) h1
theorem Sv {op:CmpOp} {t:TE} (h:PC X op a b t) (h1:behindInMarks op b=false:=by first | exact nobehind _ (by decide) (by decide) | rfl):PT X (.Compare a [op] [b] pos) (tB t):=by
 intro pins s σ H Q I hw
 refine wpAny_isTrue_Compare1 (Ci (h pins s σ H _ I hw) fun v s1 h1=>Ci h1 fun u s2 h2=>Ci h2 fun c s3 ⟨x,H1,I1,r1,q1⟩=>?_) h1
 obtain ⟨d,rfl,q⟩:=q1
 cases r1
 exact wpAny_truthy_bool ⟨H1,I1,q⟩
theorem Ed {e:Expr} {t:TE} (h:PE X e t) (he:∀ whole,isTrue e X.env whole=(do let v ← whole; standAt e.pos; holding [v] (truthy v)):=by intro _; rfl):PT X e (tB t):=by
 intro pins s σ H Q I hw
 refine isTrue_plain (Ci (h pins s σ H _ I hw) fun v s1 ⟨x,H1,I1,r1,q1⟩=>?_) (he _)
 obtain ⟨d,rfl,q⟩:=q1
 cases r1
 exact wpAny_truthy_bool ⟨H1,I1,q⟩
variable {tA tB':TT} {rest:List Expr}
noncomputable def gO (t u:TT):TT:=fun σ H Q=>t σ H fun c H1=>if c=true then u σ H1 Q else Q false H1
noncomputable def j9 (t u:TT):TT:=fun σ H Q=>t σ H fun c H1=>if c=true then Q true H1 else u σ H1 Q
noncomputable def gQ (t:TT):TT:=fun σ H Q=>t σ H fun c H1=>Q (!c) H1
theorem Ea (ha:PT X a tA):PW X (.BoolOp .And [a] pos) tA:=by
 intro wh pins s σ H Q I h
 refine isTrue_and (Ci (ha pins s σ H Q I h) fun c s1 e=>?_)
 cases c with
 | true=>exact isTrue_and_nil e
 | false=>exact e
theorem Fi (ha:PT X a tA):PW X (.BoolOp .Or [a] pos) tA:=by
 intro wh pins s σ H Q I h
 refine isTrue_or (Ci (ha pins s σ H Q I h) fun c s1 e=>?_)
 cases c with
 | false=>exact isTrue_or_nil e
 | true=>exact e
theorem Eg (ha:PT X a tA) (hb:PW X (.BoolOp .And (b::rest) pos) tB'):PW X (.BoolOp .And (a::b::rest) pos) (gO tA tB'):=by
 intro wh pins s σ H Q I h
 refine isTrue_and (Ci (ha pins s σ H _ I h) fun c s1 hq0=>?_)
 obtain ⟨H1,I1,q1⟩:=hq0
 cases c with
 | true=>exact hb wh pins s1 σ H1 Q I1 q1
 | false=>exact ⟨H1,I1,q1⟩
theorem GF (ha:PT X a tA) (hb:PW X (.BoolOp .Or (b::rest) pos) tB'):PW X (.BoolOp .Or (a::b::rest) pos) (j9 tA tB'):=by
 intro wh pins s σ H Q I h
 refine isTrue_or (Ci (ha pins s σ H _ I h) fun c s1 hq0=>?_)
 obtain ⟨H1,I1,q1⟩:=hq0
 cases c with
 | true=>exact ⟨H1,I1,q1⟩
 | false=>exact hb wh pins s1 σ H1 Q I1 q1
theorem Di (ha:PT X a tA):PT X (.UnaryOp .Not a pos) (gQ tA):=by
 intro pins s σ H Q I h
 exact isTrue_not (ha pins s σ H (fun c H1=>Q (!c) H1) I h)
noncomputable def Z_ (ta tb:TE):TE:=fun σ H Q=>ta σ H fun x H1=>∃ c,x=.bl c/\if c=true then tb σ H1 Q else Q (.bl false) H1
noncomputable def je (ta tb:TE):TE:=fun σ H Q=>ta σ H fun x H1=>∃ c,x=.bl c/\if c=true then Q (.bl true) H1 else tb σ H1 Q
noncomputable def cB (ta:TE):TE:=fun σ H Q=>ta σ H fun x H1=>∃ c,x=.bl c/\Q (.bl (!c)) H1
theorem CZ {op} {t:TE} (h:PE X a t):PE X (.BoolOp op [a] pos) t:=fun pins s σ H Q I hw=>BoolOp_one (h pins s σ H Q I hw)
theorem Ck (ha:PE X a ta) (hb:PE X (.BoolOp .And (b::rest) pos) tb):PE X (.BoolOp .And (a::b::rest) pos) (Z_ ta tb):=by
 intro pins s σ H Q I h
 refine BoolOp_and (Ci (ha pins s σ H _ I h) fun v s1 hq0=>?_)
 obtain ⟨x,H1,I1,r1,q1⟩:=hq0
 obtain ⟨c,rfl,q1⟩:=q1
 cases r1
 refine wpAny_truthy_bool ?_
 cases c with
 | true=>exact hb pins s1 σ H1 Q I1 q1
 | false=>exact ⟨.bl false,H1,I1,rfl,q1⟩
theorem Wq (ha:PE X a ta) (hb:PE X (.BoolOp .Or (b::rest) pos) tb):PE X (.BoolOp .Or (a::b::rest) pos) (je ta tb):=by
 intro pins s σ H Q I h
 refine BoolOp_or (Ci (ha pins s σ H _ I h) fun v s1 hq0=>?_)
 obtain ⟨x,H1,I1,r1,q1⟩:=hq0
 obtain ⟨c,rfl,q1⟩:=q1
 cases r1
 refine wpAny_truthy_bool ?_
 cases c with
 | false=>exact hb pins s1 σ H1 Q I1 q1
 | true=>exact ⟨.bl true,H1,I1,rfl,q1⟩
theorem J0 (ha:PE X a ta):PE X (.UnaryOp .Not a pos) (cB ta):=by
 intro pins s σ H Q I h
 refine UnaryOp_ (Ci (ha pins s σ H _ I h) fun v s1 hq0=>?_)
 obtain ⟨x,H1,I1,r1,q1⟩:=hq0
 obtain ⟨c,rfl,q1⟩:=q1
 cases r1
 exact not_of (wpAny_truthy_bool ⟨.bl (!c),H1,I1,rfl,q1⟩)
end
end L2
namespace L2
open PySem PySem.Spec PyProof.Rows
noncomputable def Dh (K:PySem.W.Frag) (H:Hp) (a:Addr) (xs:List V):Prop :=
 Rd H a (.lst xs) \/
  ∃ (o:Obj) (its:Array Value) (n:Nat),K.lookup a=some o/\o.cls=.type "list" /\ o.dict=none/\o.data=.seq its n/\its.size<=sizeLine/\Vals xs its.toList
noncomputable def Fq (K:PySem.W.Frag) (H:Hp) (a:Addr) (xs:List V):Prop :=
 Rd H a (.tup xs) \/
  ∃ (o:Obj) (its:Array Value) (n:Nat),K.lookup a=some o/\o.cls=.type "tuple" /\ o.data=.seq its n/\its.size<=sizeLine/\Vals xs its.toList
noncomputable def jg:Value->Option V
 | .none=>some .non
 | .bool b=>some (.bl b)
 | .int i _=>some (.int i)
 | .str x _=>some (.str x)
 | .bytes b _=>some (.byt b)
 | .float b _=>some (.flt b)
 | .ref a=>some (.ref a)
 | .type n=>some (.ty n)
 | _=>none
theorem RelV.abs {x:V} {u:Value} (r:RelV x u):jg u=some x:=by
 cases x with
 | non=>cases r; rfl
 | bl _=>cases r; rfl
 | int _=>obtain ⟨t,rfl⟩:=r; rfl
 | str _=>obtain ⟨t,rfl⟩:=r; rfl
 | byt _=>obtain ⟨t,rfl⟩:=r; rfl
 | flt _=>obtain ⟨t,rfl⟩:=r; rfl
 | ref _=>cases r; rfl
 | ty _=>cases r; rfl
theorem RelV.inj {x y:V} {u:Value} (r:RelV x u) (q:RelV y u):x=y:=Option.some.inj (r.abs.symm.trans q.abs)
theorem Vals.inj:∀ {xs ys:List V} {us:List Value},Vals xs us->Vals ys us->xs=ys
 | _,_,_,.nil,.nil=>rfl
 | _,_,_,.cons r t,.cons r' t'=>by rw [r.inj r',Vals.inj t t']
section
variable {X:Cx} {pins:List (Addr × Obj)} {σ:St} {H:Hp} {s:Shared} {a:Addr} {xs ys:List V}
theorem Inv.list (I:Inv X pins σ H s) (h:Dh X.K H a xs):∃ its:List Value,Vals xs its/\PlainL s.heap a its.toArray/\xs.length<=sizeLine:=by
 rcases h with h | ⟨o,its,n,hk,hc,hd,hs,hz,r⟩
 ·obtain ⟨z,its,n,r,e⟩:=h.ok I.hok
  exact ⟨its,r,⟨_,n,e,rfl,rfl,rfl⟩,z⟩
 ·refine ⟨its.toList,r,⟨o,n,I.GR a o hk,hc,hd,by simpa using hs⟩,?_⟩
  have e:=r.length
  simp only [Array.length_toList] at e
  omega
theorem Inv.tuple (I:Inv X pins σ H s) (h:Fq X.K H a xs):∃ its:List Value,Vals xs its/\IsTup s.heap a its.toArray/\xs.length<=sizeLine:=by
 rcases h with h | ⟨o,its,n,hk,hc,hs,hz,r⟩
 ·obtain ⟨z,its,r,p⟩:=h.ok I.hok
  exact ⟨its,r,p,z⟩
 ·refine ⟨its.toList,r,⟨o,I.GR a o hk,hc,n,by simpa using hs⟩,?_⟩
  have e:=r.length
  simp only [Array.length_toList] at e
  omega
theorem Inv.Ny (I:Inv X pins σ H s) (h:Dh X.K H a xs) (h':Dh X.K H a ys):xs=ys:=by
 obtain ⟨its,r,⟨o,n,e,_,_,d⟩,_⟩:=I.list h
 obtain ⟨its',r',⟨o',n',e',_,_,d'⟩,_⟩:=I.list h'
 rw [e] at e'; cases e'
 rw [d] at d'
 injection d' with d1 _
 have:its=its':=by simpa using congrArg Array.toList d1
 subst this
 exact r.inj r'
theorem Inv.JH (I:Inv X pins σ H s) (h:Fq X.K H a xs) (h':Fq X.K H a ys):xs=ys:=by
 obtain ⟨its,r,⟨o,e,_,n,d⟩,_⟩:=I.tuple h
 obtain ⟨its',r',⟨o',e',_,n',d'⟩,_⟩:=I.tuple h'
 rw [e] at e'; cases e'
 rw [d] at d'
 injection d' with d1 _
 have:its=its':=by simpa using congrArg Array.toList d1
 subst this
 exact r.inj r'
end
noncomputable abbrev Cx.wish (X:Cx) (E:Value->Shared->Prop):Cx:={ X with xe:=E }
noncomputable abbrev Cx.Y9 (X:Cx):Cx:=X.wish fun _ _=>False
theorem Cx.Ok.wish {X:Cx} (ok:X.Ok) (E:Value->Shared->Prop):(X.wish E).Ok :=
 ⟨ok.mod,ok.kind,ok.glob,ok.blt,ok.above,ok.inj,ok.has,ok.cab,ok.hd,ok.frames,ok.stk,ok.exf,ok.bs,ok.bsz,ok.noex,ok.exfs,ok.Hr,ok.frf⟩
theorem Cx.Ok.G_ {X:Cx} {E:Value->Shared->Prop} (ok:(X.wish E).Ok):X.Ok :=
 ⟨ok.mod,ok.kind,ok.glob,ok.blt,ok.above,ok.inj,ok.has,ok.cab,ok.hd,ok.frames,ok.stk,ok.exf,ok.bs,ok.bsz,ok.noex,ok.exfs,ok.Hr,ok.frf⟩
section
variable {X:Cx} {pins:List (Addr × Obj)} {σ:St} {H:Hp} {s:Shared} {E:Value->Shared->Prop}
theorem Inv.wish (I:Inv X pins σ H s) (E:Value->Shared->Prop):Inv (X.wish E) pins σ H s:=⟨I.ok.wish E,I.os,I.bare,I.base,I.loc,I.cell,I.free,I.freeC,I.pin,I.hok,I.len⟩
theorem Inv.G_ (I:Inv (X.wish E) pins σ H s):Inv X pins σ H s:=⟨I.ok.G_,I.os,I.bare,I.base,I.loc,I.cell,I.free,I.freeC,I.pin,I.hok,I.len⟩
theorem SP.G_ {D:Ends} {f:Flow} {s':Shared} (h:SP (X.wish E) pins D f s'):SP X pins D f s':=by
 cases f with
 | next=>obtain ⟨σ',H',I,q⟩:=h; exact ⟨σ',H',I.G_,q⟩
 | brk=>obtain ⟨σ',H',I,q⟩:=h; exact ⟨σ',H',I.G_,q⟩
 | cont=>obtain ⟨σ',H',I,q⟩:=h; exact ⟨σ',H',I.G_,q⟩
 | ret u=>obtain ⟨v,σ',H',I,r,q⟩:=h; exact ⟨v,σ',H',I.G_,r,q⟩
theorem NB.Y9 {st:List Stmt} {t:TS} (h:NB X.Y9 st t):NB X st t:=fun pins s σ H D I hw =>
 wpAny_mono (h pins s σ H D (I.wish _) hw) (fun _ _ q=>q.G_) fun _ _ z=>False.elim z
end
section
variable {X:Cx} {st:Stmt} {rest:List Stmt} {t u:TS} {e:Expr} {te:TE} {pos:Pos}
noncomputable def Ud:TS:=fun D σ H=>D.nx σ H
noncomputable def Vg (t u:TS):TS:=fun D σ H=>t { D with nx:=u D } σ H
theorem BR:NB X [] Ud:=fun _ _ σ H _ I h=>wpAny_execs_nil ⟨σ,H,I,h⟩
theorem Ae (h1:PS X st t) (h2:NB X rest u):NB X (st::rest) (Vg t u):=by
 intro pins s σ H D I h
 refine wpAny_execs_cons (Ci (h1 pins s σ H { D with nx:=u D } I h) fun f s1 q=>?_)
 cases f with
 | next =>
  obtain ⟨σ',H',I',q⟩:=q
  exact h2 pins s1 σ' H' D I' q
 | ret v=>exact q
 | brk=>exact q
 | cont=>exact q
theorem Ag (h1:PS X st t):NB X [st] t:=by
 intro pins s σ H D I h
 refine wpAny_execs_cons (Ci (h1 pins s σ H D I h) fun f s1 q=>?_)
 cases f with
 | next=>exact wpAny_execs_nil q
 | ret v=>exact q
 | brk=>exact q
 | cont=>exact q
noncomputable def Yq:TS:=fun D σ H=>D.bk σ H
theorem Sh:PS X (.Break pos) Yq:=fun _ _ σ H _ I h=>wpAny_Break ⟨σ,H,I,h⟩
theorem Inv.quiet {pins:List (Addr × Obj)} {σ:St} {H:Hp} {s:Shared} (I:Inv X pins σ H s):interactive X.env=false:=by simp [interactive,I.ok.kind]
noncomputable def XD (te:TE):TS:=fun D σ H=>te σ H fun _ H1=>D.nx σ H1
theorem Cz (he:PE X e te) (hs:swapsWith e none pos.line X.env=pure false:=by rfl):PS X (.Expr e pos) (XD te):=by
 intro pins s σ H D I h
 exact wpAny_Expr_any (Ci (he pins s σ H _ I h) fun v s1 ⟨x,H1,I1,r1,q1⟩=>⟨σ,H1,I1,q1⟩) I.quiet hs
noncomputable def ju (te:TE):TS:=fun D σ H=>te σ H D.rt
theorem Ax (he:PE X e te):PS X (.Return (some e) pos) (ju te):=by
 intro pins s σ H D I h
 exact wpAny_Return_some (Ci (he pins s σ H _ I h) fun v s1 ⟨x,H1,I1,r1,q1⟩=>⟨x,σ,H1,I1,r1,q1⟩)
noncomputable def Uk (c:TT) (t u:TS):TS:=fun D σ H=>c σ H fun b H1=>if b=true then t D σ H1 else u D σ H1
theorem Bf {c:Expr} {a b:List Stmt} {tc:TT} (hc:PT X c tc) (ha:NB X a t) (hb:NB X b u):PS X (.If c a b pos) (Uk tc t u):=by
 intro pins s σ H D I h
 refine wpAny_If (Ci (hc pins s σ H _ I h) fun d s1 hq0=>?_)
 obtain ⟨H1,I1,q1⟩:=hq0
 cases d with
 | true=>exact ha pins s1 σ H1 D I1 q1
 | false=>exact hb pins s1 σ H1 D I1 q1
noncomputable def Yb:TS:=fun _ _ _=>False
theorem Ir:PS X st Yb:=fun _ _ _ _ _ _ h=>h.elim
end
noncomputable abbrev TG:=V->St->Hp->(St->Hp->Prop)->Prop
noncomputable abbrev X8:=List V->St->Hp->(St->Hp->Prop)->Prop
noncomputable def PG (X:Cx) (target:Expr) (t:TG):Prop :=
 ∀ (pins:List (Addr × Obj)) (s:Shared) (σ:St) (H:Hp) (v:V) (u:Value) (Q:St->Hp->Prop),Inv X pins σ H s->RelV v u->t v σ H Q ->
  wpAny (model X.prog X.w) X.A (assign target X.env u) (fun _ s'=>∃ σ' H',Inv X pins σ' H' s'/\Q σ' H') X.xe s
noncomputable def fj (X:Cx) (ts:List Expr) (t:X8):Prop :=
 ∀ (pins:List (Addr × Obj)) (s:Shared) (σ:St) (H:Hp) (vs:List V) (us:List Value) (Q:St->Hp->Prop),Inv X pins σ H s->Vals vs us->t vs σ H Q ->
  wpAny (model X.prog X.w) X.A (assignInOrder ((assignEach ts X.env).map (·.2)) us) (fun _ s'=>∃ σ' H',Inv X pins σ' H' s'/\Q σ' H') X.xe s
section
variable {X:Cx} {pos:Pos}
noncomputable def Df (i:Nat):TG:=fun v σ H Q=>Q (σ.set i (some v)) H
theorem Cu {i:Nat} {x:Str} (hN:X.N.Nodup) (hi:X.N[i]? = some x) (hx:Loc X.env.scope x) (hf:X.fn x=true \/ X.env.scope.names.lookup x=some .local:=by first | exact .inl rfl | exact .inr rfl | assumption):PG X (.Name x pos) (Df i):=by
 intro pins s σ H v u Q I r h
 exact wpAny_assign_Name (J_ I hN hi hx r (fun s' I'=>⟨_,H,I',h⟩) hf)
noncomputable def Wg:X8:=fun vs σ H Q=>vs=[]/\Q σ H
noncomputable def J4 (t:TG) (u:X8):X8:=fun vs σ H Q=>∃ v r,vs=v::r/\t v σ H fun σ' H'=>u r σ' H' Q
theorem Iu:fj X [] Wg:=by
 intro pins s σ H vs us Q I r h
 obtain ⟨e,h⟩:=h
 subst e
 cases r
 exact assignInOrder_nil ⟨σ,H,I,h⟩
theorem Dy {e:Expr} {es:List Expr} {t:TG} {u:X8} (h1:PG X e t) (h2:fj X es u)
  (hs:(assignEach (e::es) X.env).map (·.2)=assign e X.env::(assignEach es X.env).map (·.2):=by rfl):fj X (e::es) (J4 t u):=by
 intro pins s σ H vs us Q I r h
 obtain ⟨v,vr,e1,h⟩:=h
 subst e1
 cases r with
 | cons r rr =>
  rw [hs]
  refine assignInOrder_cons (Ci (h1 pins s σ H _ _ _ I r h) fun _ s1 hq0=>?_)
  obtain ⟨σ1,H1,I1,q1⟩:=hq0
  exact h2 pins s1 σ1 H1 _ _ Q I1 rr q1
noncomputable def Vt (K:PySem.W.Frag) (n:Nat) (t:X8):TG:=fun v σ H Q=>∃ a xs,v=.ref a/\Fq K H a xs/\xs.length=n/\t xs σ H Q
theorem Kh {es:List Expr} {k:Nat} {t:X8} {n:Nat} (hc:X.calm=true) (h:fj X es t)
  (hn:(assignEach es X.env).length=n:=by rfl) (hst:(assignEach es X.env).findIdx? (·.1)=none:=by rfl):PG X (.Tuple es k pos) (Vt X.K n t):=by
 intro pins s σ H v u Q I r hw
 obtain ⟨a,xs,e1,hq,hl,hw⟩:=hw
 subst e1
 cases r
 obtain ⟨its,rv,ht,hz⟩:=I.tuple hq
 refine assign_Tuple_tuple (I.ok.hd hc) ht (by simp [hn,← hl,rv.length]) hst fun h' hx=>?_
 have I1:Inv X pins σ H { s with heap:=h' }:=I.kept (t':=s.toks) fun b o e=>hx b o (bp (Heap.lt_size e)) e
 exact h pins _ σ H xs _ Q I1 (by simpa using rv) hw
noncomputable def Yw (te:TE) (g:TG):TS:=fun D σ H=>te σ H fun x H1=>g x σ H1 D.nx
theorem Bj {i:Nat} {x:Str} {e:Expr} {te:TE} {pos':Pos} (hN:X.N.Nodup) (hi:X.N[i]? = some x) (hx:Loc X.env.scope x) (he:PE X e te) (hs:swapsWith e (some (.Name x pos')) pos.line X.env=pure false:=by rfl) (hf:X.fn x=true \/ X.env.scope.names.lookup x=some .local:=by first | exact .inl rfl | exact .inr rfl | assumption) :
  PS X (.Assign [.Name x pos'] e pos) (Yw te (Df i)):=by
 intro pins s σ H D I h
 refine wpAny_Assign_Name (Ci (he pins s σ H _ I h) fun v s1 ⟨y,H1,I1,r1,q1⟩=>?_) hs
 exact J_ I1 hN hi hx r1 (fun s2 I2=>⟨_,H1,I2,q1⟩) hf
end
section
variable {X:Cx} {pos:Pos}
end
structure It where
 go:Nat->Hp->Prop
 yld:Nat->Hp->V->Hp->Prop
 stop:Nat->Hp->Prop
noncomputable def Gf (X:Cx) (pins:List (Addr × Obj)) (H:Hp) (b:Addr):Prop :=
 H b=none/\b ≠ X.env.locals/\b ∉ X.fs/\(b∈X.ex \/ X.s₀.heap.objs.size<=b)/\(∀ x c,X.env.cells.lookup x=some c->c ≠ b)/\∀ p∈X.pn++pins,p.1 ≠ b
theorem Inv.Mx {X:Cx} {pins:List (Addr × Obj)} {σ:St} {H H':Hp} {s:Shared} {b:Addr} (I:Inv X pins σ H s) (hb:s.heap.objs.size<=b) (hn:H' b=none):Gf X pins H' b:=by
 refine ⟨hn,gx (ay I.lt hb),I.h_ hb,.inr (bi I.sz hb),fun x c e z=>?_,fun p hp z=>?_⟩
 ·obtain ⟨v,q⟩:=I.cell x c e
  exact absurd (ay q.lt (by rw [z]; exact hb)) (et _)
 ·exact absurd (ay (Heap.lt_size (I.pin p hp).1) (by rw [z]; exact hb)) (et _)
structure Turn (P:Program) (w:World) (K:PySem.W.Frag) (tg:Expr) (J:It) (fp:List Addr) (it:Addr) (tn:Nat->Heap->Prop):Prop where
 mem:it∈fp
 obj:∀ i h,tn i h->∀ b∈fp,∃ o,h.get? b=some o/\∀ v,o.data ≠ .cell v
 keep:∀ i h h',tn i h->(∀ b∈fp,∀ o,h.get? b=some o->h'.get? b=some o)->tn i h'
 item:∀ (X:Cx),X.prog=P->X.w=w->X.K=K->X.calm=true->∀ (i:Nat) (pins:List (Addr × Obj)) (s:Shared) (σ:St) (H:Hp) (E:Value->Shared->Prop),Inv X pins σ H s->(∀ b∈fp,Gf X pins H b)->tn i s.heap->J.go i H ->
  wpAny (model P w) X.A (pyNext (.ref it)) (fun r s1=>∃ u,r=some u /\
   wpAny (model P w) X.A (letOwnedTupleGo tg (.ref it) u) (fun _ s2=>∃ x H',Inv X pins σ H' s2/\RelV x u/\J.yld i H x H'/\tn (i+1) s2.heap/\∀ b∈fp,H' b=none) E s1) E s
 done:∀ (X:Cx),X.prog=P->X.w=w->X.K=K->X.calm=true->∀ (i:Nat) (pins:List (Addr × Obj)) (s:Shared) (σ:St) (H:Hp) (E:Value->Shared->Prop),Inv X pins σ H s->(∀ b∈fp,Gf X pins H b)->tn i s.heap->J.stop i H ->
  wpAny (model P w) X.A (pyNext (.ref it)) (fun r s1=>r=none/\Inv X pins σ H s1) E s
 self:∀ (A:Around) (i:Nat) (s:Shared) (Q:Value->Shared->Prop) (E:Value->Shared->Prop),tn i s.heap->Q (.ref it) s->wpAny (model P w) A (pyIter (.ref it)) Q E s
noncomputable abbrev TI:=St->Hp->(It->Hp->Prop)->Prop
noncomputable def PIE (X:Cx) (pins:List (Addr × Obj)) (σ:St) (tg:Expr) (R:It->Hp->Prop) (itv:Value) (s2:Shared):Prop :=
 ∃ (it:Addr) (fp:List Addr) (tn:Nat->Heap->Prop) (J:It) (H':Hp),itv=.ref it/\Inv X pins σ H' s2/\Turn X.prog X.w X.K tg J fp it tn/\tn 0 s2.heap/\(∀ b∈fp,Gf X pins H' b)/\R J H'
noncomputable def PI (X:Cx) (tg iter:Expr) (wi:TI):Prop :=
 ∀ (pins:List (Addr × Obj)) (s:Shared) (σ:St) (H:Hp) (R:It->Hp->Prop),Inv X pins σ H s->wi σ H R ->
  wpAny (model X.prog X.w) X.A (eval iter X.env) (fun v s1=>wpAny (model X.prog X.w) X.A (pyIter v) (PIE X pins σ tg R) X.xe s1) X.xe s
theorem NT {M:Model} {A:Around} {E:Value->Shared->Prop} {s:Shared} {tg:Expr} {it:Addr} {u:Value} {o:Obj} {n:String} {vs:Array Value} {Q:Unit->Shared->Prop} (ho:s.heap.get? it=some o) (hc:o.cls=.type n) (hd:o.data=.fields vs)
  (hn:["enumerate","zip","dict_itemiterator","dict_reverseitemiterator","odict_iterator","itertools.zip_longest","itertools.pairwise"].contains n=false) (hQ:Q () s):wpAny M A (letOwnedTupleGo tg (.ref it) u) Q E s:=by
 unfold letOwnedTupleGo
 cases tg <;> first
  | exact wpAny_pure hQ
  | (cases u <;> first
    | exact wpAny_pure hQ
    | (refine wpAny_bind (wpAny_load ho ?_)
       rw [hc,hd]
       show wpAny M A (if (["enumerate","zip","dict_itemiterator","dict_reverseitemiterator","odict_iterator","itertools.zip_longest","itertools.pairwise"].contains n && vs[0]? == some (rawInt _))=true then _ else _) Q E s
       rw [if_neg (by intro h; rw [hn,hV] at h; cases h)]
       exact wpAny_pure hQ))
noncomputable def Yt (K:PySem.W.Frag) (a:Addr):It :=
 ⟨fun i H=>∃ xs x,Dh K H a xs/\xs[i]? = some x,fun i H x H'=>H'=H/\∀ xs,Dh K H a xs->xs[i]? = some x,fun i H=>∃ xs,Dh K H a xs/\xs.length<=i⟩
noncomputable def gM (K:PySem.W.Frag) (a:Addr):It :=
 ⟨fun i H=>∃ xs x,Fq K H a xs/\xs[i]? = some x,fun i H x H'=>H'=H/\∀ xs,Fq K H a xs->xs[i]? = some x,fun i H=>∃ xs,Fq K H a xs/\xs.length<=i⟩
noncomputable def W3 (lo:Int) (n:Nat):It:=⟨fun i _=>i<n,fun i H x H'=>H'=H/\x=.int (lo+i),fun i _=>n<=i⟩
theorem Rr {P:Program} {w:World} {K:PySem.W.Frag} {tg:Expr} (a it:Addr):Turn P w K tg (Yt K a) [it] it (fun i h=>h.IsListIter it a i) where
 mem:=by simp
 obj:=fun i h st b hb=>by
  have e:b=it:=by simpa using hb
  subst e
  obtain ⟨o,e,c,d⟩:=st
  exact ⟨o,e,fun v z=>by rw [d] at z; cases z⟩
 keep:=fun i h h' st k=>st.at fun o e=>k it (by simp) o e
 item:=by
  intro X hP hw hK hc i pins s σ H E I hf st hg
  subst hP hw hK
  obtain ⟨xs,x,hq,hx⟩:=hg
  obtain ⟨its,rv,p,hz⟩:=I.list hq
  obtain ⟨u,hu,ru⟩:=rv.get hx
  obtain ⟨f0,f1,f2,f3,f4,f5⟩:=hf it (by simp)
  refine wpAny_pyNext_list_item st p.isList (x:=u) (by simpa using hu) fun h' st' sb=>?_
  have I1:Inv X pins σ H { s with heap:=h' }:=I.turned (t':=s.toks) (fun b o hb e=>(sb.2 b hb).trans e) f0 f1 f3 f4 f5
  obtain ⟨o,e,c,d⟩:=id st'
  exact ⟨u,rfl,NT (s:={ s with heap:=h' }) e c d (by decide) ⟨x,H,I1,ru,⟨rfl,fun ys hy=>by rw [I.Ny hy hq]; exact hx⟩,st',fun b hb=>(hf b hb).1⟩⟩
 done:=by
  intro X hP hw hK hc i pins s σ H E I hf st hg
  subst hP hw hK
  obtain ⟨xs,hq,hx⟩:=hg
  obtain ⟨its,rv,p,hz⟩:=I.list hq
  obtain ⟨f0,f1,f2,f3,f4,f5⟩:=hf it (by simp)
  have hl:=rv.length
  exact wpAny_pyNext_list_end (I.ok.hd hc) st p.isList (by simp; omega) fun h' eb=>⟨rfl,I.turned (t':=s.toks) (fun b o hb e=>eb b o hb e) f0 f1 f3 f4 f5⟩
 self:=fun _ _ _ _ _ st h=>wpAny_pyIter_listiter st h
theorem PB {P:Program} {w:World} {K:PySem.W.Frag} {tg:Expr} (a it:Addr):Turn P w K tg (gM K a) [it] it (fun i h=>h.IsTupleIter it a i) where
 mem:=by simp
 obj:=fun i h st b hb=>by
  have e:b=it:=by simpa using hb
  subst e
  obtain ⟨o,e,c,d⟩:=st
  exact ⟨o,e,fun v z=>by rw [d] at z; cases z⟩
 keep:=fun i h h' st k=>st.at fun o e=>k it (by simp) o e
 item:=by
  intro X hP hw hK hc i pins s σ H E I hf st hg
  subst hP hw hK
  obtain ⟨xs,x,hq,hx⟩:=hg
  obtain ⟨its,rv,p,hz⟩:=I.tuple hq
  obtain ⟨u,hu,ru⟩:=rv.get hx
  obtain ⟨f0,f1,f2,f3,f4,f5⟩:=hf it (by simp)
  refine wpAny_pyNext_tuple_item st (show s.heap.IsTuple a its.toArray from p) (x:=u) (by simpa using hu) fun h' st' sb=>?_
  have I1:Inv X pins σ H { s with heap:=h' }:=I.turned (t':=s.toks) (fun b o hb e=>(sb.2 b hb).trans e) f0 f1 f3 f4 f5
  obtain ⟨o,e,c,d⟩:=id st'
  exact ⟨u,rfl,NT (s:={ s with heap:=h' }) e c d (by decide) ⟨x,H,I1,ru,⟨rfl,fun ys hy=>by rw [I.JH hy hq]; exact hx⟩,st',fun b hb=>(hf b hb).1⟩⟩
 done:=by
  intro X hP hw hK hc i pins s σ H E I hf st hg
  subst hP hw hK
  obtain ⟨xs,hq,hx⟩:=hg
  obtain ⟨its,rv,p,hz⟩:=I.tuple hq
  obtain ⟨f0,f1,f2,f3,f4,f5⟩:=hf it (by simp)
  have hl:=rv.length
  exact wpAny_pyNext_tuple_end (I.ok.hd hc) st (show s.heap.IsTuple a its.toArray from p) (by simp; omega) fun h' eb=>⟨rfl,I.turned (t':=s.toks) (fun b o hb e=>eb b o hb e) f0 f1 f3 f4 f5⟩
 self:=fun _ _ _ _ _ st h=>wpAny_pyIter_tupleiter st h
theorem Ov {P:Program} {w:World} {K:PySem.W.Frag} {tg:Expr} (it:Addr) (lo:Int) (n:Nat):Turn P w K tg (W3 lo n) [it] it (fun i h=>IsRangeIter h it (lo+(i:Nat) * 1) ((n:Int) - (i:Nat)) 1) where
 mem:=by simp
 obj:=fun i h st b hb=>by
  have e:b=it:=by simpa using hb
  subst e
  exact ⟨_,st,fun v z=>by
   have z':Data.fields _=Data.cell v:=z
   cases z'⟩
 keep:=fun i h h' st k=>k it (by simp) _ st
 item:=by
  intro X hP hw hK hc i pins s σ H E I hf st hg
  subst hP hw hK
  obtain ⟨f0,f1,f2,f3,f4,f5⟩:=hf it (by simp)
  have W:=Walks.range (prog:=X.prog) (w:=X.w) (I.ok.hd hc) it lo 1 n
  refine W.item i s _ _ hg st fun v h' tk hv st' kk=>?_
  obtain ⟨t,rfl⟩:=hv
  have I1:Inv X pins σ H { s with heap:=h',toks:=tk }:=I.turned (fun b o hb e=>kk b o (by simpa using hb) e) f0 f1 f3 f4 f5
  refine ⟨_,rfl,NT (s:={ s with heap:=h',toks:=tk }) (n:="range_iterator") st' rfl rfl (by decide) ⟨.int (lo+i),H,I1,⟨t,?_⟩,⟨rfl,rfl⟩,st',fun b hb=>(hf b hb).1⟩⟩
  rw [Int.mul_one]
 done:=by
  intro X hP hw hK hc i pins s σ H E I hf st hg
  subst hP hw hK
  obtain ⟨f0,f1,f2,f3,f4,f5⟩:=hf it (by simp)
  exact wpAny_pyNext_range_end (I.ok.hd hc) st (by have:n<=i:=hg; omega) fun h' eb=>⟨rfl,I.turned (t':=s.toks) (fun b o hb e=>eb b o hb e) f0 f1 f3 f4 f5⟩
 self:=fun _ _ _ _ _ st h=>wpAny_pyIter_rangeiter st h
end L2
namespace L2
open PySem PySem.Spec PyProof.Rows
section
variable {X:Cx} {tg:Expr}
noncomputable def cV (K:PySem.W.Frag) (tl:TE):TI:=fun σ H R=>tl σ H fun x H1=>∃ a,x=.ref a/\(∃ xs,Dh K H1 a xs)/\R (Yt K a) H1
noncomputable def iC (K:PySem.W.Frag) (tl:TE):TI:=fun σ H R=>tl σ H fun x H1=>∃ a,x=.ref a/\(∃ xs,Fq K H1 a xs)/\R (gM K a) H1
theorem CN {l:Expr} {tl:TE} (hl:PE X l tl):PI X tg l (cV X.K tl):=by
 intro pins s σ H R I h
 refine Ci (hl pins s σ H _ I h) fun v s1 hq0=>?_
 obtain ⟨x,H1,I1,r1,q1⟩:=hq0
 obtain ⟨a,e,⟨xs,hq⟩,q⟩:=q1
 subst e
 cases r1
 obtain ⟨its,rv,p,hz⟩:=I1.list hq
 refine wpAny_pyIter_list p.isList ?_
 refine ⟨s1.heap.objs.size,[s1.heap.objs.size],_,_,H1,rfl,I1.kept (t':=s1.toks) fun b o e=>Heap.get?_push_of_some _ e,Rr a _,⟨_,Heap.get?_push_size _ rfl,rfl,rfl⟩,fun b hb=>?_,q⟩
 have e:b=s1.heap.objs.size:=by simpa using hb
 subst e
 exact I1.Mx (am _) (I1.hok.fresh (am _))
theorem KJ {l:Expr} {tl:TE} (hl:PE X l tl):PI X tg l (iC X.K tl):=by
 intro pins s σ H R I h
 refine Ci (hl pins s σ H _ I h) fun v s1 hq0=>?_
 obtain ⟨x,H1,I1,r1,q1⟩:=hq0
 obtain ⟨a,e,⟨xs,hq⟩,q⟩:=q1
 subst e
 cases r1
 obtain ⟨its,rv,p,hz⟩:=I1.tuple hq
 refine wpAny_pyIter_tuple (show s1.heap.IsTuple a its.toArray from p) ?_
 refine ⟨s1.heap.objs.size,[s1.heap.objs.size],_,_,H1,rfl,I1.kept (t':=s1.toks) fun b o e=>Heap.get?_push_of_some _ e,PB a _,⟨_,Heap.get?_push_size _ rfl,rfl,rfl⟩,fun b hb=>?_,q⟩
 have e:b=s1.heap.objs.size:=by simpa using hb
 subst e
 exact I1.Mx (am _) (I1.hok.fresh (am _))
theorem U_ {pins:List (Addr × Obj)} {σ:St} {H:Hp} {s:Shared} {R:It->Hp->Prop} {E:Value->Shared->Prop} {lo hi:Int} {t u v:Tok} {tk:Nat} (I:Inv X pins σ H s) (h1 : -(2 ^ 62)<=lo) (h2:lo<2 ^ 62) (h3 : -(2 ^ 62)<=hi) (h4:hi<2 ^ 62)
  (q:R (W3 lo (hi - lo).toNat) H):wpAny (model X.prog X.w) X.A (pyIter (.ref s.heap.objs.size)) (PIE X pins σ tg R) E { s with heap:=s.heap.push { cls:=.type "range",data:=.fields #[.int lo t,.int hi u,.int 1 v] },toks:=tk }:=by
 refine wpAny_pyIter_range (IsRange.new ..) (small_one h1 h2 h3 h4) ?_
 have I1:Inv X pins σ H { s with heap:=s.heap.push { cls:=.type "range",data:=.fields #[.int lo t,.int hi u,.int 1 v] },toks:=tk }:=I.kept fun b o e=>Heap.get?_push_of_some _ e
 refine ⟨(s.heap.push { cls:=.type "range",data:=.fields #[.int lo t,.int hi u,.int 1 v] }).objs.size,[(s.heap.push { cls:=.type "range",data:=.fields #[.int lo t,.int hi u,.int 1 v] }).objs.size],_,_,H,rfl,
  I1.kept (t':=tk) fun b o e=>Heap.get?_push_of_some _ e,Ov _ lo (hi - lo).toNat,?_,fun b hb=>?_,q⟩
 ·have e1:lo+((0:Nat):Int) * 1=lo:=by simp
  have e2:(((hi - lo).toNat:Nat):Int) - ((0:Nat):Int)=Builtin.Range.rangeSize lo hi 1:=by rw [rangeSize_one]; split <;> omega
  show IsRangeIter _ _ (lo+((0:Nat):Int) * 1) ((((hi - lo).toNat:Nat):Int) - ((0:Nat):Int)) 1
  rw [e1,e2]
  exact Heap.get?_push_size _ rfl
 ·have e:b=(s.heap.push { cls:=.type "range",data:=.fields #[.int lo t,.int hi u,.int 1 v] }).objs.size:=by simpa using hb
  subst e
  exact I1.Mx (am _) (I1.hok.fresh (am _))
noncomputable def Zm (ta:TA):TI:=fun σ H R=>ta σ H fun vs H1=>∃ j:Int,vs=[.int j] /\ -(2 ^ 62)<=j/\j<2 ^ 62/\R (W3 0 j.toNat) H1
theorem GK {a:Expr} {ta:TA} {p pos:Pos} (hg:Gl X "range") (hm:X.mg "range" = none) (ha:PA X [a] ta) (hs:starEach [a] X.env=[(false,eval a X.env)]:=by rfl):PI X tg (.Call (.Name "range" p) [a] [] pos) (Zm ta):=by
 intro pins s σ H R I h
 refine Call_ (IK I hg hm boot_range (PyProof.Rows.callWith_type1 (Ci (ha pos pins s σ H _ I h) fun us s1 ⟨vs,H1,I1,r1,q1⟩=>?_) hs rfl))
 obtain ⟨j,e,q1,q2,q⟩:=q1
 subst e
 cases r1 with
 | cons r rr =>
  cases rr
  obtain ⟨t,rfl⟩:=r
  exact call_range_1 (U_ I1 (by omega) (by omega) q1 q2 (by simpa using q))
noncomputable def gY (wi:TI) (g:TG) (tb:TS):TS:=fun D σ H=>wi σ H fun J H1=>∃ W:Nat->Nat->St->Hp->Prop,(∃ m,W 0 m σ H1)/\∀ i m σ H,W i m σ H ->
 (J.stop i H/\D.nx σ H) \/ (J.go i H/\∃ N:St->Hp->Prop,(∀ σ' H',N σ' H'->∃ m',m'<m/\W (i+1) m' σ' H')/\∀ x H',J.yld i H x H'->g x σ H' fun σ2 H2=>tb { D with nx:=N,ct:=N,bk:=D.nx } σ2 H2)
noncomputable def JK (fp:List Addr) (h:Heap):List (Addr × Obj):=fp.filterMap fun b=>(h.get? b).map fun o=>(b,o)
theorem Et {fp:List Addr} {h:Heap} {b:Addr} {o:Obj} (hb:b∈fp) (e:h.get? b=some o):(b,o)∈JK fp h:=List.mem_filterMap.mpr ⟨b,hb,by rw [e]; rfl⟩
theorem RT {fp:List Addr} {h:Heap} {p:Addr × Obj} (hp:p∈JK fp h):p.1∈fp/\h.get? p.1=some p.2:=by
 obtain ⟨b,hb,e⟩:=List.mem_filterMap.mp hp
 cases q:h.get? b with
 | none=>rw [q] at e; cases e
 | some o =>
  rw [q] at e
  have e':(b,o)=p:=Option.some.inj e
  subst e'
  exact ⟨hb,q⟩
theorem Inv.pinned {pins:List (Addr × Obj)} {σ:St} {H:Hp} {s:Shared} {fp:List Addr} (I:Inv X pins σ H s) (hf:∀ b∈fp,Gf X pins H b) (ho:∀ b∈fp,∃ o,s.heap.get? b=some o/\∀ v,o.data ≠ .cell v):Inv X (pins++JK fp s.heap) σ H s :=
 I.Qc fun p hp=>(cb.mp hp).elim (fun z=>I.pin p (br _ z)) fun z=>by
  obtain ⟨hb,e⟩:=RT z
  obtain ⟨f0,f1,f2,_⟩:=hf p.1 hb
  obtain ⟨o,e',d⟩:=ho p.1 hb
  rw [e] at e'; cases e'
  exact ⟨e,f0,f1,f2,d⟩
theorem Inv.HD {pins pl:List (Addr × Obj)} {σ:St} {H:Hp} {s:Shared} (I:Inv X (pins++pl) σ H s):Inv X pins σ H s:=I.Qc fun p hp=>I.pin p (br _ (ci _ hp))
theorem Ez {iter:Expr} {body:List Stmt} {wi:TI} {g:TG} {tb:TS} {pos:Pos} (hp:PassesOwn (model X.prog X.w) X.A X.env X.xe) (hc:X.calm=true) (hi:PI X tg iter wi) (hg:PG X tg g) (hb:NB X body tb)
  (hs:∀ x,foldedSetIterable iter X.env x=pure x:=by intro _; rfl):PS X (.For tg iter body [] pos) (gY wi g tb):=by
 intro pins s σ H D I h
 refine wpAny_For (Ci (hi pins s σ H _ I h) fun v s1 h1=>Ci h1 fun itv s2 h2=>?_) hs
 obtain ⟨it,fp,tn,J,H2,e,I2,T,st2,f2,W,⟨m0,w0⟩,turn⟩:=h2
 subst e
 have stat:∀ {H':Hp},(∀ b∈fp,H' b=none)->∀ b∈fp,Gf X pins H' b:=fun hn b hb=>⟨hn b hb,(f2 b hb).2⟩
 refine codeAny_forLoop_any (fun n s'=>∃ i σ' H',Inv X pins σ' H' s'/\tn i s'.heap/\(∀ b∈fp,H' b=none)/\W i n σ' H') ?_ m0 ⟨0,σ,H2,I2,st2,fun b hb=>(f2 b hb).1,w0⟩
 rintro n s3 ⟨i,σ3,H3,I3,st3,fr3,w3⟩
 rcases turn i n σ3 H3 w3 with ⟨stop,qn⟩ | ⟨go,N,hN,step⟩
 ·refine wpAny_passesOwn hp (Ci (T.done X rfl rfl rfl hc i pins s3 σ3 H3 X.xe I3 (stat fr3) st3 stop) fun r s4 ⟨hr,I4⟩=>?_)
  subst hr
  exact wpAny_execs_nil ⟨σ3,H3,I4,qn⟩
 ·refine wpAny_passesOwn hp (Ci (T.item X rfl rfl rfl hc i pins s3 σ3 H3 X.xe I3 (stat fr3) st3 go) fun r s4 ⟨u,hr,h4⟩=>?_)
  subst hr
  refine wpAny_passesOwn hp (Ci h4 fun _ s5 hq0=>?_)
  obtain ⟨x,H5,I5,r5,y5,st5,fr5⟩:=hq0
  have I5':=I5.pinned (stat fr5) (T.obj _ _ st5)
  refine wpAny_passesOwn hp (Ci (hg _ s5 σ3 H5 x u _ I5' r5 (step x H5 y5)) fun _ s6 hq0=>?_)
  obtain ⟨σ6,H6,I6,q6⟩:=hq0
  refine wpAny_passesOwn hp (Ci (hb _ s6 σ6 H6 _ I6 q6) fun f s7 q7=>?_)
  have again:∀ {σ7:St} {H7:Hp},Inv X (pins++JK fp s5.heap) σ7 H7 s7->N σ7 H7->∃ m,m<n/\∃ i σ' H',Inv X pins σ' H' s7/\tn i s7.heap/\(∀ b∈fp,H' b=none)/\W i m σ' H':=fun {σ7 H7} I7 n7=>by
   obtain ⟨m',hm,w7⟩:=hN σ7 H7 n7
   refine ⟨m',hm,i+1,σ7,H7,I7.HD,T.keep _ _ _ st5 fun b hb o e=>(I7.pin (b,o) (br _ (br _ (Et hb e)))).1,fun b hb=>?_,w7⟩
   obtain ⟨o,e,d⟩:=T.obj _ _ st5 b hb
   exact (I7.pin (b,o) (br _ (br _ (Et hb e)))).2.1
  cases f with
  | next=>obtain ⟨σ7,H7,I7,n7⟩:=q7; exact again I7 n7
  | cont=>obtain ⟨σ7,H7,I7,n7⟩:=q7; exact again I7 n7
  | brk=>obtain ⟨σ7,H7,I7,q7⟩:=q7; exact ⟨σ7,H7,I7.HD,q7⟩
  | ret v=>obtain ⟨x7,σ7,H7,I7,r7,q7⟩:=q7; exact ⟨x7,σ7,H7,I7.HD,r7,q7⟩
end
theorem Iz {K:PySem.W.Frag} {a:Addr} {xs:List V} {g:TG} {tb:TS} {D:Ends} {σ:St} {H:Hp} (Pv:Nat->St->Hp->Prop) (h0:Pv 0 σ H) (hl:∀ i σ H,i<=xs.length->Pv i σ H->Dh K H a xs)
  (hs:∀ i x σ H,xs[i]? = some x->Pv i σ H->g x σ H fun σ2 H2=>tb { D with nx:=Pv (i+1),ct:=Pv (i+1),bk:=D.nx } σ2 H2) (hd:∀ σ H,Pv xs.length σ H->D.nx σ H) :
  ∃ W:Nat->Nat->St->Hp->Prop,(∃ m,W 0 m σ H)/\∀ i m σ H,W i m σ H ->
   ((Yt K a).stop i H/\D.nx σ H) \/ ((Yt K a).go i H/\∃ N:St->Hp->Prop,(∀ σ' H',N σ' H'->∃ m',m'<m/\W (i+1) m' σ' H')/\∀ x H',(Yt K a).yld i H x H'->g x σ H' fun σ2 H2=>tb { D with nx:=N,ct:=N,bk:=D.nx } σ2 H2):=by
 refine ⟨fun i m σ H=>m=xs.length - i/\i<=xs.length/\Pv i σ H,⟨xs.length,by simp,Nat.zero_le _,h0⟩,?_⟩
 rintro i m σ H ⟨rfl,hi,p⟩
 have q:=hl i σ H hi p
 by_cases hlt:i<xs.length
 ·refine .inr ⟨⟨xs,xs[i],q,by simp [hlt]⟩,Pv (i+1),fun σ' H' p'=>⟨xs.length - (i+1),by omega,rfl,hlt,p'⟩,fun x H' y=>?_⟩
  obtain ⟨e,y⟩:=y
  subst e
  exact hs i x σ _ (y xs q) p
 ·have e:i=xs.length:=by omega
  subst e
  exact .inl ⟨⟨xs,q,am _⟩,hd σ H p⟩
theorem JM {lo:Int} {n:Nat} {g:TG} {tb:TS} {D:Ends} {σ:St} {H:Hp} (Pv:Nat->St->Hp->Prop) (h0:Pv 0 σ H)
  (hs:∀ i σ H,i<n->Pv i σ H->g (.int (lo+i)) σ H fun σ2 H2=>tb { D with nx:=Pv (i+1),ct:=Pv (i+1),bk:=D.nx } σ2 H2) (hd:∀ σ H,Pv n σ H->D.nx σ H) :
  ∃ W:Nat->Nat->St->Hp->Prop,(∃ m,W 0 m σ H)/\∀ i m σ H,W i m σ H ->
   ((W3 lo n).stop i H/\D.nx σ H) \/ ((W3 lo n).go i H/\∃ N:St->Hp->Prop,(∀ σ' H',N σ' H'->∃ m',m'<m/\W (i+1) m' σ' H')/\∀ x H',(W3 lo n).yld i H x H'->g x σ H' fun σ2 H2=>tb { D with nx:=N,ct:=N,bk:=D.nx } σ2 H2):=by
 refine ⟨fun i m σ H=>m=n - i/\i<=n/\Pv i σ H,⟨n,by simp,Nat.zero_le _,h0⟩,?_⟩
 rintro i m σ H ⟨rfl,hi,p⟩
 by_cases hlt:i<n
 ·refine .inr ⟨hlt,Pv (i+1),fun σ' H' p'=>⟨n - (i+1),by omega,rfl,hlt,p'⟩,fun x H' y=>?_⟩
  obtain ⟨e,y⟩:=y
  subst e y
  exact hs i σ _ hlt p
 ·have e:i=n:=by omega
  subst e
  exact .inl ⟨am _,hd σ H p⟩
end L2
namespace L2
open PySem PySem.Spec PyProof.Rows
noncomputable abbrev R2:=V->V->Hp->VK->Prop
noncomputable def Gn (X:Cx) (f:Value->Value->Sem Value) (r:R2):Prop :=
 ∀ (pins:List (Addr × Obj)) (s:Shared) (σ:St) (H:Hp) (x y:V) (v u:Value) (Q:VK),Inv X pins σ H s->RelV x v->RelV y u->r x y H Q ->
  wpAny (model X.prog X.w) X.A (f v u) (EP X pins σ Q) X.xe s
noncomputable def jz (X:Cx) (f:Value->Sem Value) (r:V->Hp->VK->Prop):Prop :=
 ∀ (pins:List (Addr × Obj)) (s:Shared) (σ:St) (H:Hp) (x:V) (v:Value) (Q:VK),Inv X pins σ H s->RelV x v->r x H Q ->
  wpAny (model X.prog X.w) X.A (f v) (EP X pins σ Q) X.xe s
noncomputable def Ft (X:Cx) (f:Value) (r:List V->Hp->VK->Prop):Prop :=
 ∀ (pins:List (Addr × Obj)) (s:Shared) (σ:St) (H:Hp) (xs:List V) (us:List Value) (Q:VK),Inv X pins σ H s->Vals xs us->r xs H Q ->
  wpAny (model X.prog X.w) X.A (call f us) (EP X pins σ Q) X.xe s
noncomputable def iJ (X:Cx) (r:V->Hp->(Bool->Hp->Prop)->Prop):Prop :=
 ∀ (pins:List (Addr × Obj)) (s:Shared) (σ:St) (H:Hp) (x:V) (v:Value) (Q:Bool->Hp->Prop),Inv X pins σ H s->RelV x v->r x H Q ->
  wpAny (model X.prog X.w) X.A (truthy v) (TP X pins σ Q) X.xe s
noncomputable def dY (r:R2) (ta tb:TE):TE:=fun σ H Q=>ta σ H fun x H1=>tb σ H1 fun y H2=>r x y H2 Q
noncomputable def mq (r:V->Hp->VK->Prop) (ta:TE):TE:=fun σ H Q=>ta σ H fun x H1=>r x H1 Q
noncomputable def rI (C:Int->Int->Prop) (g:Int->Int->V):R2:=fun x y H Q=>∃ i j,x=.int i/\y=.int j/\C i j/\Q (g i j) H
noncomputable def Vb (g:Int->Int->V):R2:=fun x y H Q=>∃ i j,x=.int i/\y=.int j/\Q (g i j) H
noncomputable def rU (g:Int->V):V->Hp->VK->Prop:=fun x H Q=>∃ i,x=.int i/\Q (g i) H
section
variable {X:Cx} {a b c:Expr} {ta tb tc:TE} {pos:Pos}
theorem X3 (ha:PE X a ta) (hb:PE X b tb) {pins:List (Addr × Obj)} {s:Shared} {σ:St} {H:Hp} {R:V->V->Hp->Prop} (I:Inv X pins σ H s)
  (h:ta σ H fun x H1=>tb σ H1 fun y H2=>R x y H2) {Q:Value->Shared->Prop} {f:Value->Value->Sem Value}
  (hf:∀ v u s2 x y H2,Inv X pins σ H2 s2->RelV x v->RelV y u->R x y H2->wpAny (model X.prog X.w) X.A (f v u) Q X.xe s2) :
  wpAny (model X.prog X.w) X.A (eval a X.env) (fun v s₁=>wpAny (model X.prog X.w) X.A (eval b X.env) (fun u s₂=>wpAny (model X.prog X.w) X.A (f v u) Q X.xe s₂) X.xe s₁) X.xe s:=by
 refine Ci (ha pins s σ H _ I h) fun v s1 hq0=>?_
 obtain ⟨x,H1,I1,r1,q1⟩:=hq0
 refine Ci (hb pins s1 σ H1 _ I1 q1) fun u s2 hq0=>?_
 obtain ⟨y,H2,I2,r2,q2⟩:=hq0
 exact hf v u s2 x y H2 I2 r1 r2 q2
theorem Aw {op:Operator} {r:R2} (ho:Gn X (binaryOp op) r) (ha:PE X a ta) (hb:PE X b tb):PE X (.BinOp a op b pos) (dY r ta tb):=by
 intro pins s σ H Q I h
 exact wpAny_BinOp (X3 ha hb I h fun v u s2 x y H2 I2 rx ry q=>ho pins s2 σ H2 x y v u Q I2 rx ry q)
theorem Ld {op:UnaryOp} {r:V->Hp->VK->Prop} (ho:jz X (unaryOp op) r) (ha:PE X a ta):PE X (.UnaryOp op a pos) (mq r ta):=by
 intro pins s σ H Q I h
 exact UnaryOp_ (Ci (ha pins s σ H _ I h) fun v s1 ⟨x,H1,I1,r1,q1⟩=>ho pins s1 σ H1 x v Q I1 r1 q1)
theorem ZP {f:Value->Value->Sem Value} {C:Int->Int->Prop} {g:Int->Int->Int}
  (rule:∀ (i j:Int) (t u:Tok) (s:Shared) (Q:Value->Shared->Prop) (E:Value->Shared->Prop),C i j->Q (.int (g i j) s.toks) { s with toks:=s.toks+1 }->wpAny (model X.prog X.w) X.A (f (.int i t) (.int j u)) Q E s) :
  Gn X f (rI C fun i j=>.int (g i j)):=by
 intro pins s σ H x y v u Q I rx ry h
 obtain ⟨i,j,rfl,rfl,hc,q⟩:=h
 obtain ⟨t,rfl⟩:=rx
 obtain ⟨t',rfl⟩:=ry
 exact rule i j t t' s _ _ hc ⟨.int (g i j),H,I.tok _,⟨_,rfl⟩,q⟩
theorem YB {f:Value->Value->Sem Value} {g:Int->Int->Int}
  (rule:∀ (i j:Int) (t u:Tok) (s:Shared) (Q:Value->Shared->Prop) (E:Value->Shared->Prop),Q (.int (g i j) s.toks) { s with toks:=s.toks+1 }->wpAny (model X.prog X.w) X.A (f (.int i t) (.int j u)) Q E s) :
  Gn X f (Vb fun i j=>.int (g i j)):=by
 intro pins s σ H x y v u Q I rx ry h
 obtain ⟨i,j,rfl,rfl,q⟩:=h
 obtain ⟨t,rfl⟩:=rx
 obtain ⟨t',rfl⟩:=ry
 exact rule i j t t' s _ _ ⟨.int (g i j),H,I.tok _,⟨_,rfl⟩,q⟩
theorem Ve {f:Value->Value->Sem Value} {g:Int->Int->Bool}
  (rule:∀ (i j:Int) (t u:Tok) (s:Shared) (Q:Value->Shared->Prop) (E:Value->Shared->Prop),Q (.bool (g i j)) s->wpAny (model X.prog X.w) X.A (f (.int i t) (.int j u)) Q E s) :
  Gn X f (Vb fun i j=>.bl (g i j)):=by
 intro pins s σ H x y v u Q I rx ry h
 obtain ⟨i,j,rfl,rfl,q⟩:=h
 obtain ⟨t,rfl⟩:=rx
 obtain ⟨t',rfl⟩:=ry
 exact rule i j t t' s _ _ ⟨.bl (g i j),H,I,rfl,q⟩
noncomputable def iI (i j:Int):Prop:=0<j/\j<1073741824
noncomputable def ZL (i j:Int):Prop:=0<=j/\j<=1000000/\i.natAbs<2 ^ 64
noncomputable def Yl (i j:Int):Prop:=(-(2 ^ 64)<i/\i<2 ^ 64) \/ (-(2 ^ 64)<j/\j<2 ^ 64)
theorem Yl.ok {i j:Int} (h:Yl i j):IntMulOk i j:=by
 rcases h with ⟨h1,h2⟩ | ⟨h1,h2⟩
 ·exact .of_left (intBits_le_64 h1 h2)
 ·exact .of_right (intBits_le_64 h1 h2)
theorem CT:Gn X (binaryOp .Add) (Vb fun i j=>.int (i+j)):=YB fun _ _ _ _ _ _ _ q=>add_int q
theorem Dc:Gn X (binaryOp .Sub) (Vb fun i j=>.int (i - j)):=YB fun _ _ _ _ _ _ _ q=>sub_int q
theorem Gv:Gn X (binaryOp .Mult) (rI Yl fun i j=>.int (i * j)):=ZP fun _ _ _ _ _ _ _ hc q=>mul_int q hc.ok
theorem CP:Gn X (binaryOp .FloorDiv) (rI iI fun i j=>.int (i / j)):=ZP fun i j _ _ _ _ _ hc q=>by
 have h1:(0:Int)<j:=hc.1
 have h2:j<1073741824:=hc.2
 exact floordiv_int (by omega) (by rw [Int.fdiv_eq_ediv_of_nonneg i (by omega)]; exact q) (.inl (PyProof.noPylong_small (by omega)))
theorem Bs:Gn X (binaryOp .Mod) (rI (fun _ j=>0<j) fun i j=>.int (i % j)):=ZP fun i j _ _ _ _ _ hc q=>by
 have h1:(0:Int)<j:=hc
 exact mod_int' (by omega) (by rw [Int.fmod_eq_emod_of_nonneg i (by omega)]; exact q)
theorem JN:Gn X (binaryOp .Pow) (rI ZL fun i j=>.int (i ^ j.toNat)):=ZP fun _ _ _ _ _ _ _ hc q=>pow_int_small hc.1 hc.2.1 hc.2.2 q
theorem YG:Gn X (binaryOp .LShift) (rI ZL fun i j=>.int (i * 2 ^ j.toNat)):=ZP fun _ _ _ _ _ _ _ hc q=>lshift_int_small hc.1 hc.2.1 hc.2.2 q
theorem fB:Gn X (binaryOp .BitOr) (Vb fun i j=>.int (Builtin.bitOr i j)):=YB fun _ _ _ _ _ _ _ q=>or_int q
theorem m8 {f:Value->Sem Value} {g:Int->Int}
  (rule:∀ (i:Int) (t:Tok) (s:Shared) (Q:Value->Shared->Prop) (E:Value->Shared->Prop),Q (.int (g i) s.toks) { s with toks:=s.toks+1 }->wpAny (model X.prog X.w) X.A (f (.int i t)) Q E s) :
  jz X f (rU fun i=>.int (g i)):=by
 intro pins s σ H x v Q I rx h
 obtain ⟨i,rfl,q⟩:=h
 obtain ⟨t,rfl⟩:=rx
 exact rule i t s _ _ ⟨.int (g i),H,I.tok _,⟨_,rfl⟩,q⟩
theorem JQ:jz X (unaryOp .USub) (rU fun i=>.int (-i)):=m8 fun _ _ _ _ _ q=>neg_int q
end
noncomputable def aA:V->V->Bool
 | .non,.non=>true | .non,.int _=>true | .int _,.non=>true | .non,.bl _=>true | .bl _,.non=>true | .non,.str _=>true | .str _,.non=>true
 | .int _,.int _=>true | .bl _,.bl _=>true | .str _,.str _=>true | .byt _,.byt _=>true
 | .int _,.str _=>true | .str _,.int _=>true | .bl _,.str _=>true | .str _,.bl _=>true
 | _,_=>false
noncomputable def mU:R2:=fun x y H Q=>aA x y=true/\Q (.bl (decide (x=y))) H
noncomputable def mQ:R2:=fun x y H Q=>aA x y=true/\Q (.bl (!decide (x=y))) H
theorem Qm {i j:Int}:decide (V.int i=V.int j)=(i == j):=by
 rw [dl]
 simp
theorem TV {i j:Bool}:decide (V.bl i=V.bl j)=(i == j):=by
 rw [dl]
 simp
theorem HY {i j:Str}:decide (V.str i=V.str j)=(i == j):=by
 rw [dl]
 simp
theorem Qd {i j:Array UInt8}:decide (V.byt i=V.byt j)=(i.toList == j.toList):=by
 rw [dl]
 cases i
 cases j
 simp
section
variable {X:Cx} {a b c:Expr} {ta tb tc:TE} {pos:Pos}
theorem Bu {pins:List (Addr × Obj)} {σ:St} {H:Hp} {s:Shared} {Q:VK} {k k':Bool} (I:Inv X pins σ H s) (q:Q (.bl k) H) (e:k=k'):EP X pins σ Q (.bool k') s:=by
 subst e
 exact ⟨.bl k,H,I,rfl,q⟩
theorem Bw:Gn X (compareOp .Eq) mU:=by
 intro pins s σ H x y v u Q I rx ry h
 obtain ⟨hs,q⟩:=h
 cases x with
 | non =>
  cases rx
  cases y with
  | non=>cases ry; exact PySem.EqNone.eq_none_none (Bu I q (by simp))
  | bl j=>cases ry; exact PySem.EqNone.eq_none_bool (Bu I q (by simp))
  | int j=>obtain ⟨t',rfl⟩:=ry; exact PySem.EqNone.eq_none_int (Bu I q (by simp))
  | str j=>obtain ⟨t',rfl⟩:=ry; exact PySem.EqNone.eq_none_str (Bu I q (by simp))
  | _=>exact absurd (show false=true from hs) Bool.false_ne_true
 | bl i =>
  cases rx
  cases y with
  | non=>cases ry; exact PySem.EqNone.eq_bool_none (Bu I q (by simp))
  | bl j=>cases ry; exact eq_bool (Bu I q TV)
  | str j=>obtain ⟨t',rfl⟩:=ry; exact PySem.EqMixed.eq_bool_str (Bu I q (by simp))
  | _=>exact absurd (show false=true from hs) Bool.false_ne_true
 | int i =>
  obtain ⟨t,rfl⟩:=rx
  cases y with
  | non=>cases ry; exact PySem.EqNone.eq_int_none (Bu I q (by simp))
  | int j=>obtain ⟨t',rfl⟩:=ry; exact eq_int (Bu I q Qm)
  | str j=>obtain ⟨t',rfl⟩:=ry; exact PySem.EqMixed.eq_int_str (Bu I q (by simp))
  | _=>exact absurd (show false=true from hs) Bool.false_ne_true
 | str i =>
  obtain ⟨t,rfl⟩:=rx
  cases y with
  | non=>cases ry; exact PySem.EqNone.eq_str_none (Bu I q (by simp))
  | bl j=>cases ry; exact PySem.EqMixed.eq_str_bool (Bu I q (by simp))
  | int j=>obtain ⟨t',rfl⟩:=ry; exact PySem.EqMixed.eq_str_int (Bu I q (by simp))
  | str j=>obtain ⟨t',rfl⟩:=ry; exact eq_str (Bu I q HY)
  | _=>exact absurd (show false=true from hs) Bool.false_ne_true
 | byt i =>
  obtain ⟨t,rfl⟩:=rx
  cases y with
  | byt j=>obtain ⟨t',rfl⟩:=ry; exact PySem.W.eq_bytes (Bu I q Qd)
  | _=>exact absurd (show false=true from hs) Bool.false_ne_true
 | _=>cases y <;> exact absurd (show false=true from hs) Bool.false_ne_true
theorem Ku:Gn X (compareOp .NotEq) mQ:=by
 intro pins s σ H x y v u Q I rx ry h
 obtain ⟨hs,q⟩:=h
 cases x with
 | non =>
  cases rx
  cases y with
  | non=>cases ry; exact PySem.EqNone.ne_none_none (Bu I q (by simp))
  | bl j=>cases ry; exact PySem.EqNone.ne_none_bool (Bu I q (by simp))
  | int j=>obtain ⟨t',rfl⟩:=ry; exact PySem.EqNone.ne_none_int (Bu I q (by simp))
  | str j=>obtain ⟨t',rfl⟩:=ry; exact PySem.EqNone.ne_none_str (Bu I q (by simp))
  | _=>exact absurd (show false=true from hs) Bool.false_ne_true
 | bl i =>
  cases rx
  cases y with
  | non=>cases ry; exact PySem.EqNone.ne_bool_none (Bu I q (by simp))
  | bl j=>cases ry; exact ne_bool (Bu I q (congrArg not TV))
  | str j=>obtain ⟨t',rfl⟩:=ry; exact PySem.EqMixed.ne_bool_str (Bu I q (by simp))
  | _=>exact absurd (show false=true from hs) Bool.false_ne_true
 | int i =>
  obtain ⟨t,rfl⟩:=rx
  cases y with
  | non=>cases ry; exact PySem.EqNone.ne_int_none (Bu I q (by simp))
  | int j=>obtain ⟨t',rfl⟩:=ry; exact ne_int (Bu I q (congrArg not Qm))
  | str j=>obtain ⟨t',rfl⟩:=ry; exact PySem.EqMixed.ne_int_str (Bu I q (by simp))
  | _=>exact absurd (show false=true from hs) Bool.false_ne_true
 | str i =>
  obtain ⟨t,rfl⟩:=rx
  cases y with
  | non=>cases ry; exact PySem.EqNone.ne_str_none (Bu I q (by simp))
  | bl j=>cases ry; exact PySem.EqMixed.ne_str_bool (Bu I q (by simp))
  | int j=>obtain ⟨t',rfl⟩:=ry; exact PySem.EqMixed.ne_str_int (Bu I q (by simp))
  | str j=>obtain ⟨t',rfl⟩:=ry; exact ne_str (Bu I q (congrArg not HY))
  | _=>exact absurd (show false=true from hs) Bool.false_ne_true
 | byt i =>
  obtain ⟨t,rfl⟩:=rx
  cases y with
  | byt j=>obtain ⟨t',rfl⟩:=ry; exact PySem.W.ne_bytes (Bu I q (congrArg not Qd))
  | _=>exact absurd (show false=true from hs) Bool.false_ne_true
 | _=>cases y <;> exact absurd (show false=true from hs) Bool.false_ne_true
theorem FP:Gn X (compareOp .Lt) (Vb fun i j=>.bl (decide (i<j))):=Ve fun _ _ _ _ _ _ _ q=>lt_int q
theorem Fg:Gn X (compareOp .LtE) (Vb fun i j=>.bl (decide (i<=j))):=Ve fun _ _ _ _ _ _ _ q=>le_int q
theorem Ug:Gn X (compareOp .Gt) (Vb fun i j=>.bl (decide (j<i))):=Ve fun _ _ _ _ _ _ _ q=>gt_int q
theorem Qn:Gn X (compareOp .GtE) (Vb fun i j=>.bl (decide (j<=i))):=Ve fun _ _ _ _ _ _ _ q=>ge_int q
theorem Le:Gn X (compareOp .In) (fun x y H Q=>∃ i j,x=.str i/\y=.str j/\Q (.bl (!(Builtin.Str.occurrences j i 0 j.length 1).isEmpty)) H):=by
 intro pins s σ H x y v u Q I rx ry h
 obtain ⟨i,j,rfl,rfl,q⟩:=h
 obtain ⟨t,rfl⟩:=rx
 obtain ⟨t',rfl⟩:=ry
 exact in_str (Bu I q rfl)
theorem Ti:Gn X (compareOp .Is) (fun x y H Q=>y=.non/\Q (.bl (decide (x=.non))) H):=by
 intro pins s σ H x y v u Q I rx ry h
 obtain ⟨rfl,q⟩:=h
 cases ry
 refine is_none_gen (Bu I q ?_)
 cases x <;> first
  | (cases rx; rfl)
  | (obtain ⟨t,rfl⟩:=rx; rfl)
theorem QL:Gn X (compareOp .IsNot) (fun x y H Q=>y=.non/\Q (.bl (!decide (x=.non))) H):=by
 intro pins s σ H x y v u Q I rx ry h
 obtain ⟨rfl,q⟩:=h
 cases ry
 refine isnot_none_gen (Bu I q ?_)
 cases x <;> first
  | (cases rx; rfl)
  | (obtain ⟨t,rfl⟩:=rx; rfl)
theorem BV (b:Expr) {op:CmpOp} (h:op ≠ .In:=by decide) (h2:op ≠ .NotIn:=by decide):behindInMarks op b=false:=by
 have e1:(op == CmpOp.In)=false:=by cases op <;> first | rfl | exact absurd rfl h
 have e2:(op == CmpOp.NotIn)=false:=by cases op <;> first | rfl | exact absurd rfl h2
 cases b <;> simp [behindInMarks,e1,e2]
theorem Dj {op:CmpOp} {r:R2} (ho:Gn X (compareOp op) r) (ha:PE X a ta) (hb:PE X b tb) (hm:behindInMarks op b=false):PE X (.Compare a [op] [b] pos) (dY r ta tb):=by
 intro pins s σ H Q I h
 exact wpAny_Compare1 (X3 ha hb I h fun v u s2 x y H2 I2 rx ry q=>ho pins s2 σ H2 x y v u Q I2 rx ry q) hm
noncomputable def W7 (t:TE):TT:=fun σ H Q=>t σ H fun x H'=>∃ k,x=.bl k/\Q k H'
theorem A_ {op:CmpOp} {r:R2} (ho:Gn X (compareOp op) r) (ha:PE X a ta) (hb:PE X b tb) (hm:behindInMarks op b=false):PT X (.Compare a [op] [b] pos) (W7 (dY r ta tb)):=by
 intro pins s σ H Q I h
 refine wpAny_isTrue_Compare1 (Ci (ha pins s σ H _ I h) fun v s1 ⟨x,H1,I1,r1,q1⟩=>Ci (hb pins s1 σ H1 _ I1 q1) fun u s2 ⟨y,H2,I2,r2,q2⟩ =>
  Ci (ho pins s2 σ H2 x y v u _ I2 r1 r2 q2) fun c s3 ⟨z,H3,I3,r3,k,e,q3⟩=>?_) hm
 subst e
 cases r3
 exact wpAny_truthy_bool ⟨H3,I3,q3⟩
noncomputable def S7 (r r':R2) (ta tb tc:TE):TE:=fun σ H Q=>ta σ H fun x H1=>tb σ H1 fun y H2=>r x y H2 fun z H3=>∃ k,z=.bl k /\
 (if k=true then tc σ H3 fun w' H4=>r' y w' H4 Q else Q (.bl false) H3)
theorem Gr {op op':CmpOp} {r r':R2} (ho:Gn X (compareOp op) r) (ho':Gn X (compareOp op') r') (ha:PE X a ta) (hb:PE X b tb) (hc:PE X c tc)
  (hm:lastMarks [op,op'] [b,c]=false:=by with_unfolding_all rfl):PE X (.Compare a [op,op'] [b,c] pos) (S7 r r' ta tb tc):=by
 intro pins s σ H Q I h
 refine Compare_chain (Ci (ha pins s σ H _ I h) fun v s1 ⟨x,H1,I1,r1,q1⟩=>chain_link (Ci (hb pins s1 σ H1 _ I1 q1) fun u s2 ⟨y,H2,I2,r2,q2⟩ =>
  Ci (ho pins s2 σ H2 x y v u _ I2 r1 r2 q2) fun d s3 ⟨z,H3,I3,r3,k,e,q3⟩=>?_)) hm
 subst e
 cases r3
 refine wpAny_truthy_bool ?_
 cases k with
 | false=>exact ite_ff ⟨.bl false,H3,I3,rfl,q3⟩
 | true=>exact ite_tt (chain_last (Ci (hc pins s3 σ H3 _ I3 q3) fun w' s4 ⟨z',H4,I4,r4,q4⟩=>ho' pins s4 σ H4 y z' u w' Q I4 r2 r4 q4))
theorem Nv {op op':CmpOp} {r r':R2} (ho:Gn X (compareOp op) r) (ho':Gn X (compareOp op') r') (ha:PE X a ta) (hb:PE X b tb) (hc:PE X c tc)
  (hm:lastMarks [op,op'] [b,c]=false:=by with_unfolding_all rfl):PT X (.Compare a [op,op'] [b,c] pos) (W7 (S7 r r' ta tb tc)):=by
 intro pins s σ H Q I h
 refine isTrue_chain (Ci (ha pins s σ H _ I h) fun v s1 ⟨x,H1,I1,r1,q1⟩=>test_link (Ci (hb pins s1 σ H1 _ I1 q1) fun u s2 ⟨y,H2,I2,r2,q2⟩ =>
  Ci (ho pins s2 σ H2 x y v u _ I2 r1 r2 q2) fun d s3 ⟨z,H3,I3,r3,k,e,q3⟩=>?_)) hm
 subst e
 cases r3
 refine wpAny_truthy_bool ?_
 cases k with
 | false =>
  obtain ⟨k',e',q'⟩:=q3
  cases e'
  exact ite_ff ⟨H3,I3,q'⟩
 | true =>
  refine ite_tt (test_last (Ci (hc pins s3 σ H3 _ I3 q3) fun w' s4 ⟨z',H4,I4,r4,q4⟩=>Ci (ho' pins s4 σ H4 y z' u w' _ I4 r2 r4 q4) fun d' s5 hq0=>?_))
  obtain ⟨z2,H5,I5,r5,k2,e2,q5⟩:=hq0
  subst e2
  cases r5
  exact wpAny_truthy_bool ⟨H5,I5,q5⟩
noncomputable def Z7 (K:PySem.W.Frag) (x:V) (H:Hp) (k:Bool):Prop :=
 match x with
 | .non=>k=false
 | .bl b=>k=b
 | .int i=>k=(i != 0)
 | .str y=>y.length<=sizeLine/\k=((y.length:Int) != 0)
 | .byt y=>y.size<=sizeLine/\k=((y.size:Int) != 0)
 | .ref p=>(∃ xs,Dh K H p xs/\k = !xs.isEmpty) \/ (∃ xs,Fq K H p xs/\k = !xs.isEmpty) \/ ∃ kvs,H p=some (.dK kvs)/\k = !kvs.isEmpty
 | _=>False
theorem O4 {κ:Type} {kvs:List (κ × V)} {vs:List (κ × Value)} (r:KV kvs vs):(!vs.isEmpty) = !kvs.isEmpty:=by
 cases r <;> rfl
theorem J1 {xs:List V} {its:List Value} (r:Vals xs its):(!its.toArray.isEmpty) = !xs.isEmpty:=by
 cases r <;> simp
theorem Jd:(sizeLine:Nat)<2 ^ 63:=by rw [sizeLine_eq]; decide
theorem YW:iJ X (fun x H Q=>∃ k,Z7 X.K x H k/\Q k H):=by
 intro pins s σ H x v Q I rx h
 obtain ⟨k,e,q⟩:=h
 have hl:=Jd
 have hs:sizeLine=16777216:=sizeLine_eq
 cases x with
 | non =>
  cases rx
  have e':k=false:=e
  subst e'
  exact truthy_none ⟨H,I,q⟩
 | bl b =>
  cases rx
  have e':k=b:=e
  subst e'
  exact wpAny_truthy_bool ⟨H,I,q⟩
 | int i =>
  obtain ⟨t,rfl⟩:=rx
  have e':k=(i != 0):=e
  subst e'
  exact PySem.P.truthy_int ⟨H,I,q⟩
 | str y =>
  obtain ⟨t,rfl⟩:=rx
  obtain ⟨hy,e'⟩:y.length<=sizeLine/\k=((y.length:Int) != 0):=e
  subst e'
  exact PySem.P.truthy_str (by omega) ⟨H,I.tok _,q⟩
 | byt y =>
  obtain ⟨t,rfl⟩:=rx
  obtain ⟨hy,e'⟩:y.size<=sizeLine/\k=((y.size:Int) != 0):=e
  subst e'
  exact PySem.W.truthy_bytes (by omega) ⟨H,I.tok _,q⟩
 | ref p =>
  cases rx
  have e':(∃ xs,Dh X.K H p xs/\k = !xs.isEmpty) \/ (∃ xs,Fq X.K H p xs/\k = !xs.isEmpty) \/ ∃ kvs,H p=some (.dK kvs)/\k = !kvs.isEmpty:=e
  rcases e' with ⟨xs,hx,e'⟩ | ⟨xs,hx,e'⟩ | ⟨kvs,hx,e'⟩
  ·subst e'
   obtain ⟨its,r,pl,hz⟩:=I.list hx
   have hlen:=r.length
   exact wpAny_truthy_list pl.isList (by simp only [List.size_toArray]; omega) ⟨H,I.tok _,by rw [J1 r]; exact q⟩
  ·subst e'
   obtain ⟨its,r,pl,hz⟩:=I.tuple hx
   have hlen:=r.length
   exact truthy_tuple pl (by simp only [List.size_toArray]; omega) ⟨H,I.tok _,by rw [J1 r]; exact q⟩
  ·subst e'
   obtain ⟨hz,hS,vs,r,m⟩:kvs.length<=sizeLine/\(p == sysModules)=false/\∃ vs,KV kvs vs/\s.heap.DictOf (DW X.prog X.w) p vs:=I.hok p _ hx
   have hlen:kvs.length=vs.length:=Paired.length r
   exact wpAny_truthy_dict hS m (by omega) ⟨H,I.tok _,by rw [O4 r]; exact q⟩
 | _=>exact (show False from e).elim
theorem N_ (ha:PE X a ta) (he:∀ whole,isTrue a X.env whole=(do let v ← whole; standAt a.pos; holding [v] (truthy v))) :
  PT X a (fun σ H Q=>ta σ H fun x H'=>∃ k,Z7 X.K x H' k/\Q k H'):=by
 intro pins s σ H Q I h
 exact isTrue_plain (Ci (ha pins s σ H _ I h) fun v s1 ⟨x,H1,I1,r1,q1⟩=>YW pins s1 σ H1 x v Q I1 r1 q1) (he _)
theorem Ib:Gn X (binaryOp .Add) (fun x y H Q=>∃ i j,x=.str i/\y=.str j/\i.length+j.length<=sizeLine/\Q (.str (i++j)) H):=by
 intro pins s σ H x y v u Q I rx ry h
 obtain ⟨i,j,rfl,rfl,hz,q⟩:=h
 obtain ⟨t,rfl⟩:=rx
 obtain ⟨t',rfl⟩:=ry
 exact add_str (fun t' tk=>⟨.str (i++j),H,I.tok _,⟨_,rfl⟩,q⟩) hz
theorem vals1 {x:V} {us:List Value} (r:Vals [x] us):∃ u,us=[u]/\RelV x u:=by
 cases r with
 | cons r1 r2=>cases r2; exact ⟨_,rfl,r1⟩
theorem Ma:Ft X (.type "str") (fun xs H Q=>∃ i,xs=[.int i]/\i.natAbs.log2<1920/\Q (.str (toString i)) H):=by
 intro pins s σ H xs us Q I r h
 obtain ⟨i,rfl,hz,q⟩:=h
 obtain ⟨u,rfl,t,rfl⟩:=vals1 r
 exact PySem.P.str_of_int hz ⟨.str _,H,I.tok _,⟨_,rfl⟩,q⟩
end
end L2
namespace L2
open PySem PySem.Spec PyProof.Rows
structure PN (h:Heap) (x dx C:Addr) (mA:Str->Option Value):Prop where
 obj:h.get? x=some (PySem.W.instObj C dx)
 ns:h.Ns1 dx mA
 ne:dx ≠ x
theorem Ky {h:Heap} {dx:Addr} {mA:Str->Option Value} (n:h.Ns1 dx mA):∃ od,h.get? dx=some od/\∀ name,PySem.W.lookIn name od=some (mA name):=by
 obtain ⟨o,es,ep,ho,hd,hk,_,hm⟩:=n
 refine ⟨o,ho,fun name=>?_⟩
 have e:=hm name
 unfold nsFind findBy at e
 rw [← Array.find?_toList] at e
 unfold PySem.W.lookIn
 rw [hd]
 dsimp only
 split
 ·rename_i y q
  rw [q] at e
  exact congrArg some e
 ·rename_i q
  rw [q] at e
  have a:es.toList.any (·.refKey)=false:=by
   rw [List.any_eq_false]
   intro y hy
   obtain ⟨z,t,hkey⟩:=hk y (Array.mem_toList_iff.mp hy)
   simp [DictEntry.refKey,hkey]
  have a':¬ es.toList.any (·.refKey)=true:=by rw [a]; exact cr
  rw [if_neg a']
  exact congrArg some e
theorem PN.look {h:Heap} {x dx C:Addr} {mA:Str->Option Value} (I:PN h x dx C mA):∃ od,PySem.W.InstAt h x (PySem.W.instObj C dx) C (some od)/\∀ name,PySem.W.lookIn name od=some (mA name) :=
 let ⟨od,ho,hl⟩:=Ky I.ns
 ⟨od,⟨I.obj,rfl,rfl,ho⟩,hl⟩
section
variable {prog:Program} {w:World} {A:Around} {E:Value->Shared->Prop} {s:Shared} {K:PySem.W.Frag} {x dx C f:Addr} {mA:Str->Option Value} {name:Str} {v:Value}
theorem Wj {expr:Bool} {Q:Value->Shared->Prop} (X:K.In s.heap) (I:PN s.heap x dx C mA) (hg:PySem.W.plainGet K C name=true) (hh:PySem.W.hasDictIn K C=true)
  (ha:PySem.W.findIn K (.ref C) name=some none) (hv:mA name=some v) (hv':PySem.W.handedIn v=true) (h:Q v { s with toks:=s.toks+1 }) :
  wpAny (model prog w) A (getAttr (.ref x) name expr) Q E s:=by
 obtain ⟨od,J,hl⟩:=I.look
 exact PySem.W.get_value X J (PySem.W.plainGet_of hg).1 (PySem.W.findObj_own hh ha rfl (by rw [hl,hv])) hv' h
theorem Uc {pl:Sem Bool} {Q:Value × List Value->Shared->Prop} (X:K.In s.heap) (I:PN s.heap x dx C mA) (hg:PySem.W.plainGet K C name=true)
  (hf:PySem.W.findIn K (.ref C) name=some (some (.ref f))) (ht:PySem.W.isFn K (.ref f)=true) (hv:mA name=none) (h:Q (.ref f,[.ref x]) s) :
  wpAny (model prog w) A (getMethod (.ref x) name pl) Q E s:=by
 obtain ⟨od,J,hl⟩:=I.look
 exact PySem.W.method_fn X J (PySem.W.plainGet_of hg).1 (PySem.W.plainGet_of hg).2 hf (beq_iff_eq.mp ht) (by show (PySem.W.lookIn name od).map (·.isSome)=some false; rw [hl,hv]; rfl) h
theorem VJ {ns:List Str} {Q:Unit->Shared->Prop} (X:K.In s.heap) (I:PN s.heap x dx C mA)
  (hs:PySem.W.findIn K (.ref C) "__setattr__" = some (some (.builtin "object.__setattr__"))) (hp:PySem.W.plainOver K C=true) (ht:PySem.W.takerIn K C name=some none) (hh:PySem.W.hasDictIn K C=true)
  (hw:PySem.Within mA ns) (hsz:ns.length<=sizeLine)
  (h:∀ h',PN h' x dx C (fun y=>if y=name then some v else mA y)->Heap.SameBut dx s.heap h'->Q () { s with heap:=h',toks:=s.toks+2 }) :
  wpAny (model prog w) A (setAttr (.ref x) name v) Q E s:=by
 obtain ⟨od,J,hl⟩:=I.look
 refine PySem.W.set_plain X J hs (PySem.W.osa_open (s:={ s with toks:=s.toks+1 }) (r:=none) X J hp ht fun b=>?_)
 obtain ⟨cd,hc,hd'⟩:=PySem.W.any_some hh
 have hx:s.heap.get? x=some ⟨.ref C,some dx,.plain,#[]⟩:=I.obj
 refine wpAny_bind (wpAny_pure (wpAny_bind (wpAny_bind (wpAny_loadPart hx (wpAny_bind (PySem.W.Looks.here (s:={ s with toks:=s.toks+1 }) (PySem.W.looks_clsIn X hc) ?_))))))
 rw [hd']
 refine wpAny_pure (a:=some dx) (wpAny_bind (wpAny_pure (wpAny_bind ?_)))
 refine wpAny_nsSet1 (s:={ s with toks:=s.toks+1 }) I.ns fun h' hn2 hs2=>?_
 obtain ⟨oD,esD,epD,hoD,hdD,hcD⟩:=hn2.count (PySem.Within.cons name v hw)
 refine wpAny_bind (wpAny_lookBehind hoD (by rw [hdD]; exact pastItsLine_dict (bi hcD (by rw [aI]; omega))) ?_)
 exact wpAny_pure (h _ ⟨(hs2.2 _ (Ne.symm I.ne)).trans I.obj,hn2,I.ne⟩ hs2)
theorem M5 {R:Result->Shared->Prop} {vs:List Value} {kw:List (Str × Value)} (X:K.In s.heap) (hm:PySem.W.makesIn K C=true)
  (hi:PySem.W.findIn K (.ref C) "__init__" = some (some (.ref f))) (hf:PySem.W.typeIn K (.ref f)=some (.type "function"))
  (h:codeAny (model prog w) (A.under (.builtin "type.__call__" ⟨.ref C::vs,kw⟩)) (.call (.ref f) ⟨.ref (s.heap.objs.size+1)::vs,kw⟩) (PySem.W.InitBack (s.heap.objs.size+1) R)
   { s with heap:=(s.heap.push PySem.W.emptyDict).push (PySem.W.instObj C s.heap.objs.size) }) :
  codeAny (model prog w) A (.call (.ref C) ⟨vs,kw⟩) R s:=by
 obtain ⟨hh,g,d,t,os⟩:=s
 exact PySem.W.make_core (PySem.W.makes_of X hm) (PySem.W.looks_findIn X hi) (fun self=>PySem.W.bind_fn X self hf) (.inl rfl) h
end
noncomputable def Bm (f:Str) (v:V):List (Str × V)->List (Str × V)
 | []=>[(f,v)]
 | (g,x)::r=>if g=f then (g,v)::r else (g,x)::Bm f v r
theorem An (f g:Str) (v:V):∀ fs:List (Str × V),(Bm f v fs).lookup g=if g=f then some v else fs.lookup g
 | []=>by
  show List.lookup g [(f,v)]=_
  by_cases h:g=f
  ·have hb:(g == f)=true:=beq_iff_eq.mpr h
   simp only [List.lookup,hb,if_pos h]
  ·have hb:(g == f)=false:=beq_eq_false_iff_ne.mpr h
   simp only [List.lookup,hb,if_neg h]
 | (k,x)::r=>by
  have ih:=An f g v r
  rw [show Bm f v ((k,x)::r)=(if k=f then (k,v)::r else (k,x)::Bm f v r) from rfl]
  by_cases hk:k=f
  ·rw [if_pos hk]
   by_cases h:g=k
   ·have hb:(g == k)=true:=beq_iff_eq.mpr h
    simp only [List.lookup,hb,if_pos (h.trans hk)]
   ·have hb:(g == k)=false:=beq_eq_false_iff_ne.mpr h
    simp only [List.lookup,hb,if_neg (fun e:g=f=>h (e.trans hk.symm))]
  ·rw [if_neg hk]
   by_cases h:g=k
   ·have hb:(g == k)=true:=beq_iff_eq.mpr h
    simp only [List.lookup,hb,if_neg (fun e:g=f=>hk (h.symm.trans e))]
   ·have hb:(g == k)=false:=beq_eq_false_iff_ne.mpr h
    simp only [List.lookup,hb]
    exact ih
theorem JX (f:Str) (v:V):∀ fs:List (Str × V),f∈(Bm f v fs).map (·.1)/\∀ g,g∈fs.map (·.1)->g∈(Bm f v fs).map (·.1)
 | []=>⟨by simp [Bm],fun g h=>by simp at h⟩
 | (k,x)::r=>by
  obtain ⟨i1,i2⟩:=JX f v r
  rw [show Bm f v ((k,x)::r)=(if k=f then (k,v)::r else (k,x)::Bm f v r) from rfl]
  by_cases hk:k=f
  ·rw [if_pos hk]
   subst hk
   exact ⟨by simp,fun g h=>by simpa using h⟩
  ·rw [if_neg hk]
   refine ⟨?_,fun g h=>?_⟩
   ·rw [cK]
    exact bg _ i1
   ·rw [cK] at h ⊢
    rcases cm.mp h with e | e
    ·exact cm.mpr (.inl e)
    ·exact bg _ (i2 g e)
theorem Jm (f:Str) (v:V):∀ fs:List (Str × V),(Bm f v fs).length<=fs.length+1
 | []=>by simp [Bm]
 | (k,x)::r=>by
  have ih:=Jm f v r
  rw [show Bm f v ((k,x)::r)=(if k=f then (k,v)::r else (k,x)::Bm f v r) from rfl]
  by_cases hk:k=f
  ·rw [if_pos hk,aI,aI]; omega
  ·rw [if_neg hk,aI,aI]; omega
theorem GP.some_of {v:V} {o:Option Value} (r:GP (some v) o):∃ u,o=some u/\RelV v u:=by
 cases o with
 | none=>exact (show False from r).elim
 | some u=>exact ⟨u,rfl,r⟩
theorem GP.none_of {o:Option Value} (r:GP none o):o=none:=by
 cases o with
 | none=>rfl
 | some u=>exact (show False from r).elim
theorem K_ {v:V} {u:Value} (r:RelV v u):PySem.W.handedIn u=true:=by
 cases v with
 | non=>cases (show u=Value.none from r); rfl
 | bl b=>cases (show u=Value.bool b from r); rfl
 | int i=>obtain ⟨t,e⟩:=(show ∃ t,u=Value.int i t from r); cases e; rfl
 | str x=>obtain ⟨t,e⟩:=(show ∃ t,u=Value.str x t from r); cases e; rfl
 | byt b=>obtain ⟨t,e⟩:=(show ∃ t,u=Value.bytes b t from r); cases e; rfl
 | flt b=>obtain ⟨t,e⟩:=(show ∃ t,u=Value.float b t from r); cases e; rfl
 | ref a=>cases (show u=Value.ref a from r); rfl
 | ty n=>cases (show u=Value.type n from r); rfl
section
variable {P:Program} {w:World} {H H':Hp} {h h':Heap} {a C dx:Addr} {fs fs':List (Str × V)}
theorem Jv (hok:FN P w H h) (e:H a=some (.ins C dx fs)):∃ mA,PN h a dx C mA/\(∀ f,GP (fs.lookup f) (mA f))/\PySem.Within mA (fs.map (·.1))/\fs.length<=1000/\H dx=some (.own a):=by
 obtain ⟨d,z,ne,ob,mA,n,r,q⟩:=(show By P w H h a (.ins C dx fs) from hok a _ e)
 exact ⟨mA,⟨ob,n,ne⟩,r,q,z,d⟩
end
structure VD (K:PySem.W.Frag) (C:Addr):Prop where
 pg:PySem.W.plainGet K C Str.empty=true
 hd:PySem.W.hasDictIn K C=true
 po:PySem.W.plainOver K C=true
 sa:PySem.W.findIn K (.ref C) "__setattr__" = some (some (.builtin "object.__setattr__"))
theorem VD.get {K:PySem.W.Frag} {C:Addr} (c:VD K C) (f:Str):PySem.W.plainGet K C f=true:=c.pg
noncomputable def DP (K:PySem.W.Frag) (C:Addr) (f:Str):Prop:=PySem.W.findIn K (.ref C) f=some none
theorem DP.taker {K:PySem.W.Frag} {C:Addr} {f:Str} (n:DP K C f):PySem.W.takerIn K C f=some none:=by
 unfold PySem.W.takerIn
 rw [show PySem.W.findIn K (.ref C) f=some none from n]
 rfl
structure mJ (K:PySem.W.Frag) (C:Addr) (f:Str) (v:V) (u:Value):Prop where
 at_:PySem.W.findIn K (.ref C) f=some (some u)
 rel:RelV v u
 get:PySem.W.specialIn K u "__get__" = some none
 cp:PySem.W.copiedNames.contains f=false
structure Meth (K:PySem.W.Frag) (C:Addr) (m:Str) (f:Addr):Prop where
 at_:PySem.W.findIn K (.ref C) m=some (some (.ref f))
 fn:PySem.W.isFn K (.ref f)=true
 kp:PySem.W.keepIn K (.ref f)=true
section
variable {X:Cx} {pins:List (Addr × Obj)} {σ:St} {H:Hp} {s:Shared} {a C dx:Addr} {fs:List (Str × V)} {f:Str} {v:V} {A:Around} {E:Value->Shared->Prop}
theorem Ou {b:Bool} {Q:Value->Shared->Prop} (I:Inv X pins σ H s) (e:H a=some (.ins C dx fs)) (c:VD X.K C) (n:DP X.K C f) (l:fs.lookup f=some v)
  (h:∀ u s',Inv X pins σ H s'->RelV v u->Q u s'):wpAny (model X.prog X.w) A (getAttr (.ref a) f b) Q E s:=by
 obtain ⟨mA,O,r,_,_,_⟩:=Jv I.hok e
 obtain ⟨u,hu,ru⟩:=GP.some_of (v:=v) (o:=mA f) (by rw [← l]; exact r f)
 exact Wj I.GR O (c.get f) c.hd n hu (K_ ru) (h u _ (I.tok _) ru)
theorem Px {m:Str} {g:Addr} {pl:Sem Bool} {Q:Value × List Value->Shared->Prop} (I:Inv X pins σ H s) (e:H a=some (.ins C dx fs)) (c:VD X.K C) (k:Meth X.K C m g) (l:fs.lookup m=none)
  (h:Q (.ref g,[.ref a]) s):wpAny (model X.prog X.w) A (getMethod (.ref a) m pl) Q E s:=by
 obtain ⟨mA,O,r,_,_,_⟩:=Jv I.hok e
 have hn:mA m=none:=GP.none_of (by rw [← l]; exact r m)
 exact Uc I.GR O (c.get m) k.at_ k.fn hn h
theorem O_ {y:V} {u:Value} {Q:Unit->Shared->Prop} (I:Inv X pins σ H s) (e:H a=some (.ins C dx fs)) (c:VD X.K C) (n:DP X.K C f) (hl:fs.length<1000) (ry:RelV y u)
  (h:∀ s',Inv X pins σ (upd H a (.ins C dx (Bm f y fs))) s'->Q () s'):wpAny (model X.prog X.w) A (setAttr (.ref a) f u) Q E s:=by
 obtain ⟨mA,O,r,wi,_,ho⟩:=Jv I.hok e
 have hz:(fs.map (·.1)).length<=sizeLine:=by rw [ag,sizeLine_eq]; omega
 refine VJ I.GR O c.sa c.po n.taker c.hd wi hz fun h' O' sb=>h _ ?_
 have hd:∃ o,h'.get? dx=some o:=let ⟨o,_,_,e',_⟩:=O'.ns; ⟨o,e'⟩
 refine I.write (x:=a) (e:=dx) (by rw [e]; exact True.intro) (.inr ho) (fun b q hb z=>(sb.2 b hb).trans z) hd ?_
 refine ⟨by rw [Aq O.ne]; exact ho,?_,O.ne,O'.obj,_,O'.ns,fun g=>?_,fun g hg=>?_⟩
 ·have:=Jm f y fs; omega
 ·show GP ((Bm f y fs).lookup g) (if g=f then some u else mA g)
  rw [An]
  by_cases q:g=f
  ·rw [if_pos q,if_pos q]; exact ry
  ·rw [if_neg q,if_neg q]; exact r g
 ·by_cases q:g=f
  ·rw [q]; exact (JX f y fs).1
  ·refine (JX f y fs).2 g (wi g fun z=>hg ?_)
   show (if g=f then some u else mA g)=none
   rw [if_neg q]; exact z
theorem Inv.made (I:Inv X pins σ H s):Inv X pins σ (upd (upd H s.heap.objs.size (.own (s.heap.objs.size+1))) (s.heap.objs.size+1) (.ins C s.heap.objs.size []))
  { s with heap:=(s.heap.push PySem.W.emptyDict).push (PySem.W.instObj C s.heap.objs.size) }:=by
 have e1:(s.heap.push PySem.W.emptyDict).get? s.heap.objs.size=some PySem.W.emptyDict:=Heap.get?_push_size s.heap rfl
 have e2:((s.heap.push PySem.W.emptyDict).push (PySem.W.instObj C s.heap.objs.size)).get? (s.heap.objs.size+1)=some (PySem.W.instObj C s.heap.objs.size):=by
  have:=Heap.get?_push_size (s.heap.push PySem.W.emptyDict) (o:=PySem.W.instObj C s.heap.objs.size) rfl
  rwa [Heap.size_push] at this
 have e3:(s.heap.push PySem.W.emptyDict).Ns s.heap.objs.size (fun _=>none):=⟨PySem.W.emptyDict,#[],_,e1,rfl,(fun e he=>absurd he (by simp)),fun _=>rfl⟩
 have I1:=I.laid (a:=s.heap.objs.size) (o:=.own (s.heap.objs.size+1)) (h':=s.heap.push PySem.W.emptyDict) (t':=s.toks) (fun b u q=>Heap.get?_push_of_some _ q) (am _) ⟨_,e1⟩
 refine I1.laid (a:=s.heap.objs.size+1) (o:=.ins C s.heap.objs.size []) (t':=s.toks) (fun b u q=>Heap.get?_push_of_some _ q) (Nat.le_of_eq (Heap.size_push _ _)) ?_
 have ne:s.heap.objs.size ≠ s.heap.objs.size+1:=bp (gg _)
 refine ⟨by rw [Aq ne,Af],dL _,ne,e2,fun _=>none,(Heap.Ns1.of_empty e3).at fun o q=>Heap.get?_push_of_some _ q,fun _=>True.intro,fun y hy=>absurd rfl hy⟩
theorem Qg {prog:Program} {w:World} {env:Env} {e:Expr} {f:Str} {pos:Pos} {s:Shared} {Q:Value->Shared->Prop} (hb:attributeBase e f env (eval e env)=eval e env)
  (h:wpAny (model prog w) A (eval e env) (fun o s₁=>wpAny (model prog w) A (getAttr o f true) Q E s₁) E s):wpAny (model prog w) A (eval (.Attribute e f pos) env) Q E s :=
 Attribute_any_ h (by rw [arm_eval_Attribute,hb])
end
noncomputable def aX (K:PySem.W.Frag) (ta:TE) (f:Str):TE:=fun σ H Q=>ta σ H fun x H1=>∃ a C dx fs v,x=.ref a/\H1 a=some (.ins C dx fs)/\VD K C/\DP K C f/\fs.lookup f=some v/\Q v H1
noncomputable def gf (K:PySem.W.Frag) (ta tv:TE) (f:Str):TS:=fun D σ H=>tv σ H fun y H1=>ta σ H1 fun x H2=>∃ a C dx fs,x=.ref a/\H2 a=some (.ins C dx fs)/\VD K C/\DP K C f/\fs.length<1000 /\
 D.nx σ (upd H2 a (.ins C dx (Bm f y fs)))
section
variable {X:Cx} {o e value:Expr} {f:Str} {pos pos' tpos:Pos} {ta tv:TE}
theorem G9 (he:PE X e ta) (hb:attributeBase e f X.env (eval e X.env)=eval e X.env):PE X (.Attribute e f pos) (aX X.K ta f):=by
 intro pins s σ H Q I h
 refine Qg hb (Ci (he pins s σ H _ I h) fun u s1 hq0=>?_)
 obtain ⟨x,H1,I1,rx,a,C,dx,fs,v,ex,ea,c,n,l,q⟩:=hq0
 subst ex
 obtain rfl:u=Value.ref a:=rx
 exact Ou I1 ea c n l fun u' s2 I2 ru=>⟨v,H1,I2,ru,q⟩
theorem Fo (ha:PE X o ta) (hv:PE X value tv) (hs:swapsWith value (some (.Attribute o f pos')) pos.line X.env=pure false):PS X (.Assign [.Attribute o f pos'] value pos) (gf X.K ta tv f):=by
 intro pins s σ H D I h
 refine plainObj_wpAny_Assign_Attribute (Ci (hv pins s σ H _ I h) fun u s1 ⟨y,H1,I1,ry,q⟩=>Ci (ha pins s1 σ H1 _ I1 q) fun ov s2 ⟨x,H2,I2,rx,a,C,dx,fs,ex,ea,c,n,l,q2⟩=>?_) hs
 subst ex
 obtain rfl:ov=Value.ref a:=rx
 exact O_ I2 ea c n l ry fun s3 I3=>⟨σ,_,I3,q2⟩
end
section
variable {X:Cx} {pins:List (Addr × Obj)} {σ:St} {H:Hp} {s:Shared} {A:Around} {E:Value->Shared->Prop} {Q:Value->Shared->Prop} {c:Value} {b:Bool}
inductive Ge (K:PySem.W.Frag) (H:Hp):V->Value->Prop where
 | non:Ge K H .non (.type "NoneType")
 | bl (x:Bool):Ge K H (.bl x) (.type "bool")
 | int (i:Int):Ge K H (.int i) (.type "int")
 | str (x:Str):Ge K H (.str x) (.type "str")
 | flt (x:UInt64):Ge K H (.flt x) (.type "float")
 | lst {a:Addr} {xs:List V} (e:H a=some (.lst xs)):Ge K H (.ref a) (.type "list")
 | frz {a:Addr} {o:Obj} {xs:List V} (e:H a=some (.frz o (.lst xs))):Ge K H (.ref a) (.type "list")
 | tup {a:Addr} {xs:List V} (e:H a=some (.tup xs)):Ge K H (.ref a) (.type "tuple")
 | dK {a:Addr} {kvs:List (Key × V)} (e:H a=some (.dK kvs)):Ge K H (.ref a) (.type "dict")
 | dT {a:Addr} {kvs:List (List Key × V)} (e:H a=some (.dT kvs)):Ge K H (.ref a) (.type "dict")
 | ins {a C dx:Addr} {fs:List (Str × V)} (e:H a=some (.ins C dx fs)) (cl:VD K C) (ha:PySem.W.findIn K (.ref C) "__class__" = some (some (.builtin "object.__class__")))
   (hn:PySem.W.specialIn K (.builtin "object.__class__") "__get__" = some (some (.builtin "getset_descriptor.__get__"))) (htk:PySem.W.takesIn K (.builtin "object.__class__")=some true)
   (hm:PySem.W.mroIn K C (.type "object")=some true):Ge K H (.ref a) (.ref C)
theorem RW {x:V} {u t:Value} (I:Inv X pins σ H s) (rx:RelV x u) (ty:Ge X.K H x t) (e:PySem.W.kitOne X.K t c=some b) (h:∀ tk,Q (.bool b) { s with toks:=tk }) :
  wpAny (model X.prog X.w) A (call (.builtin "isinstance") [u,c]) Q E s:=by
 cases ty with
 | non=>cases (show u=Value.none from rx); exact PySem.W.kia_one PySem.W.kitx_none I.GR True.intro e (fun z=>nomatch z) h
 | bl y=>cases (show u=Value.bool y from rx); exact PySem.W.kia_one PySem.W.kitx_bool I.GR True.intro e (fun z=>nomatch z) h
 | int i=>obtain ⟨t,q⟩:=(show ∃ t,u=Value.int i t from rx); cases q; exact PySem.W.kia_one PySem.W.kitx_int I.GR True.intro e (fun z=>nomatch z) h
 | str y=>obtain ⟨t,q⟩:=(show ∃ t,u=Value.str y t from rx); cases q; exact PySem.W.kia_one PySem.W.kitx_str I.GR True.intro e (fun z=>nomatch z) h
 | flt y=>obtain ⟨t,q⟩:=(show ∃ t,u=Value.float y t from rx); cases q; exact PySem.W.kia_one PySem.W.kitx_float I.GR True.intro e (fun z=>nomatch z) h
 | @lst a xs ea =>
  cases (show u=Value.ref a from rx)
  obtain ⟨_,_,n,_,h1⟩:=(show By X.prog X.w H s.heap a (.lst xs) from I.hok a _ ea)
  exact PySem.W.kia_one PySem.W.kitx_list I.GR ⟨_,h1,rfl⟩ e (fun z=>nomatch z) h
 | @frz a ob xs ea =>
  cases (show u=Value.ref a from rx)
  obtain ⟨_,_,_,n,_,h1⟩:=(show By X.prog X.w H s.heap a (.frz ob (.lst xs)) from I.hok a _ ea)
  exact PySem.W.kia_one PySem.W.kitx_list I.GR ⟨_,h1,rfl⟩ e (fun z=>nomatch z) h
 | @tup a xs ea =>
  cases (show u=Value.ref a from rx)
  obtain ⟨_,_,_,p⟩:=(show By X.prog X.w H s.heap a (.tup xs) from I.hok a _ ea)
  obtain ⟨o,h1,h2,_⟩:=p
  exact PySem.W.kia_one PySem.W.kitx_tuple I.GR ⟨o,h1,h2⟩ e (fun z=>nomatch z) h
 | @dK a kvs ea =>
  cases (show u=Value.ref a from rx)
  obtain ⟨_,_,vs,_,p⟩:=(show By X.prog X.w H s.heap a (.dK kvs) from I.hok a _ ea)
  obtain ⟨o,es,ep,h1,h2,_⟩:=p
  exact PySem.W.kia_one PySem.W.kitx_dict I.GR ⟨o,h1,h2.1⟩ e (fun z=>nomatch z) h
 | @dT a kvs ea =>
  cases (show u=Value.ref a from rx)
  obtain ⟨_,_,xs,_,o,es,ep,h1,h2,_⟩:=(show By X.prog X.w H s.heap a (.dT kvs) from I.hok a _ ea)
  exact PySem.W.kia_one PySem.W.kitx_dict I.GR ⟨o,h1,h2.1⟩ e (fun z=>nomatch z) h
 | @ins a C dx fs ea cl ha hn htk hm =>
  cases (show u=Value.ref a from rx)
  obtain ⟨mA,O,_⟩:=Jv I.hok ea
  obtain ⟨od,J,_⟩:=O.look
  exact PySem.W.kia_one (PySem.W.kitx_own (cl.get _) cl.hd ha hn htk hm) I.GR J e (fun z=>nomatch z) h
end
end L2
namespace L2
open PySem PySem.Spec PyProof.Rows
structure Bb (k:Nat) (A:Around):Prop where
 hd:A.handled=none
 dp:A.depth+3 * k+5<recursionLimit
 un:A.units+16 * k+200<cLine
theorem Bb.mono {j k:Nat} {A:Around} (r:Bb k A) (h:j<=k):Bb j A:=⟨r.hd,by have:=r.dp; omega,by have:=r.un; omega⟩
theorem ad {k j:Nat} {A:Around} (r:Bb k A) (h:j<=k:=by decide):Bb j A:=r.mono h
theorem Bb.deeper {k:Nat} {A:Around} (r:Bb (k+1) A) (env:Env):Bb k (A.deeper env) :=
 ⟨r.hd,by have:=r.dp; show A.depth+1+3 * k+5<_; omega,by have:=r.un; show A.units+3+16 * k+200<_; omega⟩
theorem Pk {A:Around} {C:Addr} {us:List Value} {kw:List (Str × Value)}:(A.under (.builtin "type.__call__" ⟨.ref C::us,kw⟩)).depth=A.depth+1:=by
 first | rfl | simp [Around.under,Code.weight,Code.isCreation,Code.isGuard,Code.isCaller,Code.frames,Code.isFrame,guardIds]
theorem Py {A:Around} {C:Addr} {us:List Value} {kw:List (Str × Value)}:(A.under (.builtin "type.__call__" ⟨.ref C::us,kw⟩)).units=A.units+1:=by
 first | rfl | simp [Around.under,Code.cUnits,Code.frames,Code.isFrame]
theorem Bb.make {k:Nat} {A:Around} (r:Bb (k+1) A) (C:Addr) (us:List Value) (kw:List (Str × Value)):Bb k (A.under (.builtin "type.__call__" ⟨.ref C::us,kw⟩)) :=
 ⟨r.hd,by have:=r.dp; rw [Pk]; omega,by have:=r.un; rw [Py]; omega⟩
theorem Bb.depth {k:Nat} {A:Around} (r:Bb k A):A.depth<recursionLimit:=by have:=r.dp; omega
theorem Bb.units {k:Nat} {A:Around} (r:Bb k A):A.units+64<cLine:=by have:=r.un; omega
noncomputable def bA:TA:=fun _ H Q=>Q [] H
noncomputable def Wy (ta:TE) (tr:TA):TA:=fun σ H Q=>ta σ H fun x H1=>tr σ H1 fun xs H2=>Q (x::xs) H2
section
variable {X:Cx} {e:Expr} {es:List Expr} {te:TE} {t:TA} {pos:Pos}
theorem Ab:PA X [] bA:=fun _ _ _ _ H Q I h=>Calls.spliced_nil ⟨[],H,I,.nil,h⟩
theorem Aa (ha:PE X e te) (hr:PA X es t) (hs:starEach (e::es) X.env=(false,eval e X.env)::starEach es X.env:=by rfl):PA X (e::es) (Wy te t):=by
 intro pos pins s σ H Q I h
 rw [hs]
 show wpAny _ _ (spliced ((false,eval e X.env)::backTo pos (starEach es X.env))) _ _ s
 refine Calls.spliced_cons (Ci (ha pins s σ H _ I h) fun u s1 hq0=>?_)
 obtain ⟨x,H1,I1,r1,q1⟩:=hq0
 exact Ci (hr pos pins s1 σ H1 _ I1 q1) fun us s2 ⟨xs,H2,I2,r2,q2⟩=>⟨x::xs,H2,I2,.cons r1 r2,q2⟩
noncomputable def iG (t:TA):TE:=fun σ H Q=>t σ H fun xs H1=>xs.length<=sizeLine/\∀ p,H1 p=none->Q (.ref p) (upd H1 p (.tup xs))
noncomputable def ji (t:TA):TE:=fun σ H Q=>t σ H fun xs H1=>xs.length<=sizeLine/\∀ p,H1 p=none->Q (.ref p) (upd H1 p (.lst xs))
theorem Bv {x1} (h:PA X es t):PE X (.Tuple es x1 pos) (iG t):=by
 intro pins s σ H Q I hq
 refine wpAny_Tuple_spliced (Ci (h pos pins s σ H _ I hq) fun us s1 ⟨xs,H1,I1,r,z,q⟩=>⟨by rw [← r.length]; exact z,?_⟩)
 have hf:H1 s1.heap.objs.size=none:=I1.hok.fresh (am _)
 refine ⟨.ref s1.heap.objs.size,upd H1 s1.heap.objs.size (.tup xs),I1.laid (t':=s1.toks) (fun b u e=>Heap.get?_push_of_some _ e) (am _) ?_,rfl,q _ hf⟩
 exact ⟨z,us,r,⟨_,Heap.get?_push_size _ rfl,rfl,_,rfl⟩⟩
theorem Bh (h:PA X es t):PE X (.List es pos) (ji t):=by
 intro pins s σ H Q I hq
 refine wpAny_List_spliced (Ci (h pos pins s σ H _ I hq) fun us s1 ⟨xs,H1,I1,r,z,q⟩=>⟨by rw [← r.length]; exact z,?_⟩)
 have hf:H1 s1.heap.objs.size=none:=I1.hok.fresh (am _)
 refine ⟨.ref s1.heap.objs.size,upd H1 s1.heap.objs.size (.lst xs),I1.laid (t':=s1.toks) (fun b u e=>Heap.get?_push_of_some _ e) (am _) ?_,rfl,q _ hf⟩
 exact ⟨z,us,0,r,Heap.get?_push_size _ rfl⟩
end
noncomputable abbrev Sp:=List V->Hp->VK->XK->Prop
noncomputable abbrev Oq:=List Env->Hp->Shared->XK->Value->Shared->Prop
structure Mj (P:Program) (w:World) (K:PySem.W.Frag) (mg:Str->Option Value) (base:Heap) (A:Around) (outer:List Env) (s:Shared) (H:Hp):Prop where
 frames:A.frames=some outer
 mod:Mod K mg base
 bs:∀ b o,base.get? b=some o->s.heap.get? b=some o/\H b=none
 bsz:base.objs.size<=s.heap.objs.size
 Hr:s.heap.FunFrames base outer
 frf:∀ b∈frs outer,H b=none
 hok:FN P w H s.heap
 bare:AllBare s.gens
noncomputable def CE (outer:List Env) (P:Program) (w:World) (H:Hp) (s:Shared) (Q:VK) (u:Value) (s':Shared):Prop :=
 ∃ v H',s'.os=s.os/\AllBare s'.gens/\Un (frs outer) [] H H' s.heap s'.heap/\FN P w H' s'.heap/\RelV v u/\Q v H'
noncomputable def CR (CX:Oq) (outer:List Env) (P:Program) (w:World) (H:Hp) (s:Shared) (Q:VK) (E:XK) (r:Result) (s':Shared):Prop :=
 match r with
 | .ok (.ret u)=>CE outer P w H s Q u s'
 | .ok _=>False
 | .error e=>CX outer H s E e s'
structure BW (P:Program) (w:World) (K:PySem.W.Frag) (mg:Str->Option Value) (base:Heap) (CX:Oq) (k:Nat) (f:Addr) (fd:FuncData) (ps:List Str) (sp:Sp):Prop where
 len:∀ vs H Q E,sp vs H Q E->vs.length=ps.length
 run:∀ (A:Around) (outer:List Env) (s:Shared) (H:Hp) (args:Args) (us:List Value) (vs:List V) (Q:VK) (E:XK),Bb k A->Mj P w K mg base A outer s H->BindsTo s fd args (ps.zip us)->Vals vs us->sp vs H Q E ->
  codeAny (model P w) A (.call (.ref f) args) (CR CX outer P w H s Q E) s
theorem Mj.make {P:Program} {w:World} {K:PySem.W.Frag} {mg:Str->Option Value} {base:Heap} {A:Around} {outer:List Env} {s:Shared} {H:Hp} (e:Mj P w K mg base A outer s H) (C:Addr) (us:List Value) (kw:List (Str × Value)) :
  Mj P w K mg base (A.under (.builtin "type.__call__" ⟨.ref C::us,kw⟩)) outer s H:=⟨by first | exact e.frames | (simpa [Around.under,Code.envs,Code.isFrame,pushEnvs] using e.frames),e.mod,e.bs,e.bsz,e.Hr,e.frf,e.hok,e.bare⟩
section
variable {X:Cx} {pins:List (Addr × Obj)} {σ:St} {H:Hp} {s s':Shared}
theorem Inv.env0 (I:Inv X pins σ H s):Mj X.prog X.w X.K X.mg X.base X.A X.stack s H :=
 ⟨I.ok.frames,I.ok.mod,I.bs,bi I.ok.bsz I.sz,I.stack,I.HH,I.hok,I.bare⟩
theorem Inv.after {Q:VK} {u:Value} (I:Inv X pins σ H s) (h:CE X.stack X.prog X.w H s Q u s'):EP X pins σ Q u s':=by
 obtain ⟨v,H',os,bare,un,hok,r,q⟩:=h
 obtain ⟨hh,g,d,t,os'⟩:=s'
 obtain rfl:os'=s.os:=os
 exact ⟨v,H',I.call (h':=hh) (g':=g) (d':=d) (t':=t) (ch:=[]) un hok bare (fun b z=>absurd z (by simp)),r,q⟩
end
noncomputable def W2 (sp:Sp) (dvs:List V) (E:XK) (t:TA):TE:=fun σ H Q=>t σ H fun vs H1=>sp (vs++dvs) H1 Q E
noncomputable def dz (C:Addr) (m:Str) (sp:Sp) (dvs:List V) (E:XK) (ta:TE) (t:TA):TE:=fun σ H Q=>ta σ H fun x H1=>∃ a dx fs,x=.ref a/\H1 a=some (.ins C dx fs)/\fs.lookup m=none /\
 t σ H1 fun vs H2=>sp (x::(vs++dvs)) H2 Q E
noncomputable def W9 (C:Addr) (sp:Sp) (dvs:List V) (E:XK) (t:TA):TE:=fun σ H Q=>t σ H fun vs H1=>∀ x dx,H1 x=none->H1 dx=none->dx ≠ x ->
 sp (.ref x::(vs++dvs)) (upd (upd H1 dx (.own x)) x (.ins C dx [])) (fun v H2=>v=.non/\Q (.ref x) H2) E
noncomputable def Binds (K:PySem.W.Frag) (fd:FuncData) (ps:List Str) (ds:List Value):Prop :=
 ∀ (s:Shared) (us:List Value),K.In s.heap->(us++ds).length=ps.length->BindsTo s fd ⟨us,[]⟩ (ps.zip (us++ds))
theorem Binds.all {K:PySem.W.Frag} {fd:FuncData} {ps:List Str} (h:∀ us:List Value,us.length=ps.length->bindArgs fd ⟨us,[]⟩=pure (ps.zip us)):Binds K fd ps []:=fun s us _ hl=>by
 rw [dQ] at hl ⊢
 exact .of_eq (h us hl)
noncomputable def Gz (CX:Oq) (X:Cx) (E:XK):Prop:=∀ (pins:List (Addr × Obj)) (σ:St) (H:Hp) (s:Shared) (e:Value) (s':Shared),Inv X pins σ H s->CX X.stack H s E e s'->X.xe e s'
section
variable {X:Cx} {CX:Oq} {k:Nat} {f C:Addr} {fd:FuncData} {ps:List Str} {sp:Sp} {dvs:List V} {ds:List Value} {E:XK} {x m:Str} {p pos apos:Pos} {e o:Expr} {es:List Expr} {ta:TE} {t:TA}
theorem UL {pins:List (Addr × Obj)} {σ:St} {H:Hp} {s:Shared} {Q:VK} {us:List Value} {vs:List V} (F:BW X.prog X.w X.K X.mg X.base CX k f fd ps sp) (hr:Bb k X.A) (hb:Binds X.K fd ps ds) (hd:Vals dvs ds) (hx:Gz CX X E)
  (I:Inv X pins σ H s) (r:Vals vs us) (h:sp (vs++dvs) H Q E):wpAny (model X.prog X.w) X.A (call (.ref f) us) (EP X pins σ Q) X.xe s:=by
 have r2:Vals (vs++dvs) (us++ds):=r.append hd
 have hl:(us++ds).length=ps.length:=by rw [← r2.length]; exact F.len _ _ _ _ h
 refine wpAny_call (codeAny_mono (F.run X.A X.stack s H ⟨us,[]⟩ (us++ds) (vs++dvs) Q E hr I.env0 (hb s us I.GR hl) r2 h) fun r s' hq=>?_)
 cases r with
 | error e=>exact hx pins σ H s e s' I hq
 | ok fl =>
  cases fl with
  | ret u=>exact I.after hq
  | next=>exact False.elim hq
  | brk=>exact False.elim hq
  | cont=>exact False.elim hq
theorem Ah (F:BW X.prog X.w X.K X.mg X.base CX k f fd ps sp) (hr:Bb k X.A) (hg:Gl X x) (hm:X.mg x=some (.ref f)) (hk:PySem.W.keepIn X.K (.ref f)=true) (hb:Binds X.K fd ps ds) (hd:Vals dvs ds) (hx:Gz CX X E)
  (ha:PA X (e::es) t) (hdb:(x == ("__debug__" : Str))=false:=by decide) (he:starEach (e::es) X.env=(false,eval e X.env)::starEach es X.env:=by rfl) (hpl:(backTo pos (starEach es X.env)).any (·.1)=false:=by rfl) :
  PE X (.Call (.Name x p) (e::es) [] pos) (W2 sp dvs E t):=by
 intro pins s σ H Q I h
 refine wpAny_Call_Name_kw (Gj I hg hm ?_ hdb)
 refine PySem.W.callWith_K (h₀:=X.base) I.ok.mod.kin hk (Ci (ha pos pins s σ H _ I h) fun us s1 ⟨vs,H1,I1,r,q⟩=>⟨I1.GR,?_⟩) he hpl
 exact UL F hr hb hd hx I1 r q
theorem U3 {pl:Sem Bool} (he:PE X o ta) (c:VD X.K C) (hm:Meth X.K C m f) (F:BW X.prog X.w X.K X.mg X.base CX k f fd ps sp) (hr:Bb k X.A) (hb:Binds X.K fd ps ds) (hd:Vals dvs ds) (hx:Gz CX X E)
  (ht:eval (.Call (.Attribute o m apos) [] [] pos) X.env=(do
   let ov ← eval o X.env
   standAt apos.atName
   let (f,first) ← holding [ov] (getMethod ov m pl)
   callWith pos f first (backTo pos (starEach [] X.env)) (backToKw pos (keywordEach [] X.env))):=by rfl) :
  PE X (.Call (.Attribute o m apos) [] [] pos) (dz C m sp dvs E ta bA):=by
 intro pins s σ H Q I h
 refine PySem.W.methodCall_KW (pl:=pl) (Ci (he pins s σ H _ I h) fun u s1 ⟨x,H1,I1,rx,a,dx,fs,ex,ea,l,q⟩=>?_) ht
 subst ex
 obtain rfl:u=Value.ref a:=rx
 refine Px I1 ea c hm l ?_
 exact PySem.W.callWith_K0 (first:=[.ref a]) I1.GR hm.kp (UL (us:=[.ref a]) (vs:=[.ref a]) F hr hb hd hx I1 (.cons rfl .nil) q)
structure Mk (K:PySem.W.Frag) (C f:Addr):Prop where
 makes:PySem.W.makesIn K C=true
 init:PySem.W.findIn K (.ref C) "__init__" = some (some (.ref f))
 fn:PySem.W.isFn K (.ref f)=true
 kp:PySem.W.keepIn K (.ref C)=true
theorem U7 {pins:List (Addr × Obj)} {σ:St} {H:Hp} {s:Shared} {Q:VK} {us:List Value} {vs:List V} (M:Mk X.K C f) (F:BW X.prog X.w X.K X.mg X.base CX k f fd ps sp) (hr:Bb (k+1) X.A) (hb:Binds X.K fd ps ds) (hd:Vals dvs ds)
  (hx:Gz CX X E) (I:Inv X pins σ H s) (r:Vals vs us)
  (h:∀ x dx,H x=none->H dx=none->dx ≠ x->sp (.ref x::(vs++dvs)) (upd (upd H dx (.own x)) x (.ins C dx [])) (fun v H2=>v=.non/\Q (.ref x) H2) E) :
  wpAny (model X.prog X.w) X.A (call (.ref C) us) (EP X pins σ Q) X.xe s:=by
 have hq:=h (s.heap.objs.size+1) s.heap.objs.size (I.hok.fresh (gu _)) (I.hok.fresh (am _)) (bp (gg _))
 have I2:=Inv.made (C:=C) I
 have r2:Vals (V.ref (s.heap.objs.size+1)::(vs++dvs)) (Value.ref (s.heap.objs.size+1)::(us++ds)):=.cons rfl (r.append hd)
 have hl:(Value.ref (s.heap.objs.size+1)::us++ds).length=ps.length:=by
  have e:=r2.length
  rw [F.len _ _ _ _ hq] at e
  exact e.symm
 refine wpAny_call (M5 (f:=f) I.GR M.makes M.init (beq_iff_eq.mp M.fn) (codeAny_mono (F.run _ X.stack _ _ ⟨Value.ref (s.heap.objs.size+1)::us,[]⟩ (Value.ref (s.heap.objs.size+1)::(us++ds)) _ _ E (hr.make C us [])
  (I2.env0.make C us []) (hb _ (Value.ref (s.heap.objs.size+1)::us) I2.GR hl) r2 hq) fun r s' hq'=>?_))
 cases r with
 | error e=>exact hx pins σ _ _ e s' I2 hq'
 | ok fl =>
  cases fl with
  | ret u =>
   obtain ⟨v,H',I3,rv,ev,q3⟩:=I2.after hq'
   subst ev
   exact ⟨rv,⟨V.ref (s.heap.objs.size+1),H',I3,rfl,q3⟩⟩
  | next=>exact False.elim hq'
  | brk=>exact False.elim hq'
  | cont=>exact False.elim hq'
theorem Wh (M:Mk X.K C f) (F:BW X.prog X.w X.K X.mg X.base CX k f fd ps sp) (hr:Bb (k+1) X.A) (hg:Gl X x) (hm:X.mg x=some (.ref C)) (hb:Binds X.K fd ps ds) (hd:Vals dvs ds) (hx:Gz CX X E)
  (ha:PA X (e::es) t) (hdb:(x == ("__debug__" : Str))=false:=by decide) (he:starEach (e::es) X.env=(false,eval e X.env)::starEach es X.env:=by rfl) (hpl:(backTo pos (starEach es X.env)).any (·.1)=false:=by rfl) :
  PE X (.Call (.Name x p) (e::es) [] pos) (W9 C sp dvs E t):=by
 intro pins s σ H Q I h
 refine wpAny_Call_Name_kw (Gj I hg hm ?_ hdb)
 refine PySem.W.callWith_K (h₀:=X.base) I.ok.mod.kin M.kp (Ci (ha pos pins s σ H _ I h) fun us s1 ⟨vs,H1,I1,r,q⟩=>⟨I1.GR,?_⟩) he hpl
 exact U7 M F hr hb hd hx I1 r q
end
section
variable {X:Cx} {CX:Oq} {k:Nat} {f C:Addr} {fd:FuncData} {ps ks:List Str} {sp:Sp} {E:XK} {x m:Str} {p pos apos kpos:Pos} {e o:Expr} {es:List Expr} {kws:List Keyword} {te ta:TE} {t tk:TA} {nm:Option Str}
variable {g:List Value->List Value->List Value} {gV:List V->List V->List V}
end
structure BX (N P:List Str) (sc:Scope):Prop where
 kind:sc.kind=.function
 co:sc.isCoroutine=false
 gen:sc.isGenerator=false
 nd:N.Nodup
 pre:N.take P.length=P
 par:∀ x∈P,sc.names.lookup x=some .local \/ sc.names.lookup x=some .cell
 nofree:∀ y∈sc.names,y.2 ≠ .free
theorem Cj {N P:List Str} {sc:Scope} (a:sc.kind=.function:=by rfl) (b:sc.isCoroutine=false:=by rfl) (c:sc.isGenerator=false:=by rfl) (d:N.Nodup:=by decide +kernel) (e:N.take P.length=P:=by rfl) (f:∀ x∈P,sc.names.lookup x=some .local \/ sc.names.lookup x=some .cell:=by decide +kernel) (g:∀ y∈sc.names,y.2 ≠ .free:=by decide +kernel):BX N P sc:=⟨a,b,c,d,e,f,g⟩
theorem K7 {kindOf:Str->Option NameKind} {x:Str}:∀ {binds:List (Str × Value)} {m:Str->Option Value},(∀ v,(x,v) ∉ binds)->bindL kindOf binds m x=m x
 | [],_,_=>rfl
 | (n,v)::r,m,h=>by
  unfold bindL
  rw [K7 fun w hw=>h w (bg _ hw)]
  split
  ·have:x ≠ n:=by rintro rfl; exact h v bv
   simp [this]
  ·rfl
theorem Lj {kindOf:Str->Option NameKind} {x:Str}:∀ {binds:List (Str × Value)} {m:Str->Option Value},(∀ v,(x,v) ∉ binds)->bindC kindOf binds m x=m x
 | [],_,_=>rfl
 | (n,v)::r,m,h=>by
  unfold bindC
  rw [Lj fun w hw=>h w (bg _ hw)]
  split
  ·rfl
  ·have:x ≠ n:=by rintro rfl; exact h v bv
   simp [this]
theorem Kv {kindOf:Str->Option NameKind} {x:Str} {v:Value}:∀ {P:List Str} {vs:List Value} {i:Nat} {m:Str->Option Value},P.Nodup->P[i]? = some x->vs[i]? = some v->kindOf x=some .local ->
  bindL kindOf (P.zip vs) m x=some v
 | [],_,_,_,_,h,_,_=>by simp at h
 | _::_,[],_,_,_,_,h,_=>by simp at h
 | p::P,w::vs,0,m,nd,h1,h2,hk=>by
  simp at h1 h2; subst h1; subst h2
  show bindL kindOf ((p,w)::P.zip vs) m p=_
  unfold bindL
  rw [K7 fun v hv=>(fF.mp nd).1 (fI hv).1,if_pos hk]
  simp
 | p::P,w::vs,i+1,m,nd,h1,h2,hk=>by
  show bindL kindOf ((p,w)::P.zip vs) m x=_
  unfold bindL
  exact Kv (i:=i) (List.nodup_cons.mp nd).2 (by simpa using h1) (by simpa using h2) hk
theorem K1 {kindOf:Str->Option NameKind} {x:Str} {v:Value}:∀ {P:List Str} {vs:List Value} {i:Nat} {m:Str->Option Value},P.Nodup->P[i]? = some x->vs[i]? = some v->kindOf x ≠ some .local ->
  bindC kindOf (P.zip vs) m x=some v
 | [],_,_,_,_,h,_,_=>by simp at h
 | _::_,[],_,_,_,_,h,_=>by simp at h
 | p::P,w::vs,0,m,nd,h1,h2,hk=>by
  simp at h1 h2; subst h1; subst h2
  show bindC kindOf ((p,w)::P.zip vs) m p=_
  unfold bindC
  rw [Lj fun v hv=>(fF.mp nd).1 (fI hv).1,if_neg hk]
  simp
 | p::P,w::vs,i+1,m,nd,h1,h2,hk=>by
  show bindC kindOf ((p,w)::P.zip vs) m x=_
  unfold bindC
  exact K1 (i:=i) (List.nodup_cons.mp nd).2 (by simpa using h1) (by simpa using h2) hk
noncomputable def start (N:List Str) (vs:List V):St:=vs.map some++List.replicate (N.length - vs.length) none
noncomputable def J5 (CX:Oq) (P:Program) (w:World) (K:PySem.W.Frag) (mg:Str->Option Value) (base:Heap) (N:List Str) (qual:Str) (scope:Scope) (f:Addr) (cd:Value) (A:Around) (outer:List Env) (s:Shared) (H:Hp) (E:XK):Cx where
 prog:=P
 w:=w
 K:=K
 mg:=mg
 base:=base
 A:=A.deeper (envOfC qual scope s.heap.objs.size f cd)
 N:=N
 s₀:=s
 H₀:=H
 env:=envOfC qual scope s.heap.objs.size f cd
 outer:=outer
 stack:=envOfC qual scope s.heap.objs.size f cd::outer
 ex:=[]
 calm:=true
 fn:=fun _=>true
 pn:=[]
 xe:=fun e s'=>wpAny (model P w) (A.deeper (envOfC qual scope s.heap.objs.size f cd)) (leaving (envOfC qual scope s.heap.objs.size f cd) e) (fun _ s''=>CX outer H s E e s'') (fun e' s''=>CX outer H s E e' s'') s'
theorem Nt {sc:Scope} {n:Nat} {x:Str} (h:sc.names.lookup x=some .cell):∃ c,(cellsFrom n sc.names []).lookup x=some c:=by
 have q:=PySem.W.cellsFrom_some sc.names n [] (.inl h)
 exact dA.mp q
theorem Kz {CX:Oq} {P:Program} {w:World} {K:PySem.W.Frag} {mg:Str->Option Value} {base:Heap} {N ps:List Str} {qual:Str} {scope:Scope} {f:Addr} {cd:Value} {A:Around} {outer:List Env} {s s1:Shared} {H:Hp} {E:XK} {us:List Value} {vs:List V}
  (S:BX N ps scope) (hd:A.handled=none) (e0:Mj P w K mg base A outer s H) (hl:vs.length=ps.length) (r:Vals vs us)
  (x:InCallC s s.heap.objs.size (bindL (envOfC qual scope s.heap.objs.size f cd).kindOf (ps.zip us) fun _=>none) (cellsFrom (s.heap.objs.size+1) scope.names []) (bindC (envOfC qual scope s.heap.objs.size f cd).kindOf (ps.zip us) fun _=>none) s1) :
  Inv (J5 CX P w K mg base N qual scope f cd A outer s H E) [] (start N vs) H s1:=by
 have hpl:ps.length<=N.length:=by have:=congrArg List.length S.pre; rw [bq] at this; omega
 obtain ⟨h1,tk,rfl,hk⟩:=x.done
 have noA:∀ b:Addr,b ∉ (J5 CX P w K mg base N qual scope f cd A outer s H E).ex:=fun b z=>absurd (show b∈([]:List Addr) from z) (by simp)
 refine ⟨⟨e0.mod,S.kind,rfl,rfl,am _,fun y z c h1 h2=>?_,fun y hy=>?_,fun y c _ h=>?_,fun _=>hd,Around.frames_deeper e0.frames,.inr ⟨rfl,rfl⟩,fun b z=>absurd z (noA b),e0.bs,e0.bsz,fun b _ _=>noA b,fun b z=>absurd z (noA b),e0.Hr,e0.frf⟩,
  rfl,e0.bare,Un.kept hk,⟨_,x.toInCall.ns,fun i y v h1 h2 h3=>?_⟩,fun y c h=>⟨_,x.cell y c h⟩,e0.hok.fresh (Nat.le_refl _),fun y c h=>?_,fun p hp=>absurd (show p∈([]:List (Addr × Obj)) from hp) (by simp),e0.hok.kept hk,?_⟩
 ·exact name_of_addr x.apart (PySem.mem_of_lookup h1) (PySem.mem_of_lookup h2)
 ·have hy:scope.names.lookup y=some .cell \/ scope.names.lookup y=some .free:=hy
  rcases hy with hy | hy
  ·exact Nt hy
  ·exact absurd rfl (S.nofree _ (PySem.mem_of_lookup hy))
 ·exact fm (x.above y c (PySem.mem_of_lookup h))
 ·have hi:i<vs.length:=by
   unfold start at h2
   by_cases hi:i<vs.length
   ·exact hi
   ·rw [List.getElem?_append_right (by simpa using hi)] at h2
    rw [List.getElem?_replicate] at h2
    split at h2 <;> cases h2
  have ha:vs[i]? = some v:=by
   unfold start at h2
   rw [List.getElem?_append_left (by simpa using hi),List.getElem?_map] at h2
   cases e:vs[i]? with
   | none=>rw [e] at h2; cases h2
   | some a=>rw [e] at h2; cases h2; rfl
  obtain ⟨u,hu,rv⟩:=r.get ha
  have hp:ps[i]? = some y:=by
   rw [← S.pre,List.getElem?_take_of_lt (by omega)]; exact h1
  have ndP:ps.Nodup:=by rw [← S.pre]; exact S.nd.sublist (List.take_sublist _ _)
  refine ⟨u,rv,?_⟩
  rcases S.par y (al hp) with k | k
  ·exact .inl ⟨k,Kv ndP hp hu k⟩
  ·obtain ⟨c,e⟩:=Nt (n:=s.heap.objs.size+1) k
   refine .inr ⟨.inl k,c,e,?_⟩
   have q:=x.cell y c e
   rw [K1 ndP hp hu (by show scope.names.lookup y ≠ _; rw [k]; decide)] at q
   exact q
 ·exact e0.hok.fresh (fm (x.above y c (PySem.mem_of_lookup h)))
 ·unfold start
  show _=N.length
  rw [aE,ag,hW]
  omega
theorem Xb {CX:Oq} {P:Program} {w:World} {K:PySem.W.Frag} {mg:Str->Option Value} {base:Heap} {k:Nat} {f:Addr} {name qual:Str} {params:Arguments} {body:List Stmt} {scope:Scope} {dV kV doc pm cdv ct oc:Value} {an od:Option Addr}
  {osl:Array (Option Value)} {N ps:List Str} {sp:Sp} (lk:K.lookup f=some ⟨oc,od,.func (PySem.W.fnOf name qual params body scope dV kV doc pm an cdv ct),osl⟩) (hcd:PySem.W.codeIn K cdv qual=true) (S:BX N ps scope)
  (len:∀ vs H Q E,sp vs H Q E->vs.length=ps.length)
  (hbody:∀ (A:Around) (outer:List Env) (s:Shared) (H:Hp) (vs:List V) (Q:VK) (E:XK),Bb k (A.deeper (envOfC qual scope s.heap.objs.size f cdv))->sp vs H Q E ->
   ∃ t,NB (J5 CX P w K mg base N qual scope f cdv A outer s H E) body t/\t { nx:=fun _ H'=>Q .non H',rt:=Q } (start N vs) H) :
  BW P w K mg base CX (k+1) f (PySem.W.fnOf name qual params body scope dV kV doc pm an cdv ct) ps sp:=by
 refine ⟨len,fun A outer s H args us vs Q E hr e0 hb r hsp=>?_⟩
 have hl:=len _ _ _ _ hsp
 have KX:K.In s.heap:=e0.mod.kin.keeps fun b o e=>(e0.bs b o e).1
 have lim:s.heap.NoLimit:=e0.mod.nolimit.keeps fun b o e=>(e0.bs b o e).1
 have hkind:∀ y∈ps.zip us,scope.names.lookup y.1=some .local \/ (scope.names.lookup y.1=some .cell/\((cellsFrom (s.heap.objs.size+1) scope.names []).lookup y.1).isSome=true):=fun ⟨n,v⟩ hy=>by
  rcases S.par n (fI hy).1 with q | q
  ·exact .inl q
  ·exact .inr ⟨q,PySem.W.cellsFrom_some _ _ _ (.inl q)⟩
 refine codeAny_call_function hr.depth (KX _ _ lk) rfl S.co S.gen rfl (PySem.W.codeRec_of KX hcd) (hb _ _ _ _ ?_)
 refine wpAny_newFunctionEnv_cells S.kind hkind fun env he s1 x=>?_
 subst he
 refine ⟨lim.keeps x.toInCall.keep,codeAny_func ?_⟩
 obtain ⟨t,ht,hq⟩:=hbody A outer s H vs Q E (hr.deeper _) hsp
 have I:Inv (J5 CX P w K mg base N qual scope f cdv A outer s H E) [] (start N vs) H s1:=Kz S hr.hd e0 hl r x
 refine wpAny_mono (ht [] s1 (start N vs) H _ I hq) (fun fl s' hs=>?_) fun e s' hs=>hs
 have fin:∀ {σ':St} {H':Hp} {v:V} {u:Value},Inv (J5 CX P w K mg base N qual scope f cdv A outer s H E) [] σ' H' s'->RelV v u->Q v H'->CE outer P w H s Q u s' :=
  fun {σ' H' v u} J rv q=>⟨v,H',J.os,J.bare,J.base,J.hok,rv,q⟩
 cases fl with
 | ret u =>
  obtain ⟨v,σ',H',J,rv,q⟩:=hs
  exact fin J rv q
 | next =>
  obtain ⟨σ',H',J,q⟩:=hs
  exact fin (v:=V.non) (u:=Value.none) J rfl q
 | brk =>
  obtain ⟨_,_,_,q⟩:=hs
  exact False.elim q
 | cont =>
  obtain ⟨_,_,_,q⟩:=hs
  exact False.elim q
end L2
namespace L2
open PySem PySem.Spec PyProof.Rows
section
variable {X:Cx} {x:Str} {p pos:Pos} {e:Expr} {es:List Expr} {t:TA} {id T:String} {r:List V->Hp->VK->Prop}
noncomputable def lG (r:List V->Hp->VK->Prop) (t:TA):TE:=fun σ H Q=>t σ H fun vs H1=>r vs H1 Q
theorem Ak (hc:Ft X (.builtin id) r) (hg:Gl X x) (hm:X.mg x=none) (hv:bootBuiltins x=some (.builtin id)) (ha:PA X (e::es) t) (hn:x ≠ "__name__":=by decide) (hdb:(x == ("__debug__" : Str))=false:=by decide)
  (he:starEach (e::es) X.env=(false,eval e X.env)::starEach es X.env:=by rfl) (hpl:(backTo pos (starEach es X.env)).any (·.1)=false:=by rfl):PE X (.Call (.Name x p) (e::es) [] pos) (lG r t):=by
 intro pins s σ H Q I h
 refine wpAny_Call_Name_kw (IK I hg hm hv ?_ hn hdb)
 exact PyProof.Rows.callWith_builtin1 (Ci (ha pos pins s σ H _ I h) fun us s1 ⟨vs,H1,I1,r1,q1⟩=>hc pins s1 σ H1 vs us Q I1 r1 q1) he hpl
theorem Dw (hc:Ft X (.type T) r) (hg:Gl X x) (hm:X.mg x=none) (hv:bootBuiltins x=some (.type T)) (ha:PA X (e::es) t) (hn:x ≠ "__name__":=by decide) (hdb:(x == ("__debug__" : Str))=false:=by decide)
  (he:starEach (e::es) X.env=(false,eval e X.env)::starEach es X.env:=by rfl) (hpl:(backTo pos (starEach es X.env)).any (·.1)=false:=by rfl):PE X (.Call (.Name x p) (e::es) [] pos) (lG r t):=by
 intro pins s σ H Q I h
 refine wpAny_Call_Name_kw (IK I hg hm hv ?_ hn hdb)
 exact PyProof.Rows.callWith_type1 (Ci (ha pos pins s σ H _ I h) fun us s1 ⟨vs,H1,I1,r1,q1⟩=>hc pins s1 σ H1 vs us Q I1 r1 q1) he hpl
end
end L2
namespace L2
open PySem PySem.Spec PyProof.Rows
section
variable {κ:Type} [DecidableEq κ]
noncomputable def Cq (kvs:List (κ × V)) (k:κ):Option V:=(kvs.find? fun kv=>decide (kv.1=k)).map (·.2)
noncomputable def putK (kvs:List (κ × V)) (k:κ) (v:V):List (κ × V) :=
 if (kvs.any fun kv=>decide (kv.1=k))=true then kvs.map (fun kv=>if kv.1=k then (kv.1,v) else kv) else kvs++[(k,v)]
noncomputable def k_ (kvs:List (κ × V)) (k:κ):List (κ × V):=kvs.filter fun kv=>decide (kv.1 ≠ k)
theorem Ux {k:κ}:Cq ([]:List (κ × V)) k=none:=rfl
theorem Dq {p:κ × V} {r:List (κ × V)} {k:κ} (e:p.1=k):Cq (p::r) k=some p.2:=by simp [Cq,List.find?_cons,e]
theorem Ds {p:κ × V} {r:List (κ × V)} {k:κ} (e:¬ p.1=k):Cq (p::r) k=Cq r k:=by simp [Cq,List.find?_cons,e]
theorem HF (k:κ):∀ kvs:List (κ × V),(kvs.any fun kv=>decide (kv.1=k))=(Cq kvs k).isSome
 | []=>rfl
 | p::r=>by
  rw [ic]
  by_cases e:p.1=k
  ·simp only [Dq e,decide_eq_true e,Bool.true_or,Option.isSome_some]
  ·rw [Ds e,decide_eq_false e,Bool.false_or]; exact HF k r
theorem Ob (k j:κ) (y:V):∀ kvs:List (κ × V),Cq (kvs.map fun kv=>if kv.1=k then (kv.1,y) else kv) j=(Cq kvs j).map fun x=>if j=k then y else x
 | []=>rfl
 | p::r=>by
  have ih:=Ob k j y r
  rw [cK]
  by_cases h:p.1=k
  ·rw [if_pos h]
   by_cases e:p.1=j
   ·rw [Dq (p:=(p.1,y)) e,Dq e,ii,if_pos (e.symm.trans h)]
   ·rw [Ds (p:=(p.1,y)) e,Ds e,ih]
  ·rw [if_neg h]
   by_cases e:p.1=j
   ·rw [Dq (p:=p) e,Dq e,ii,if_neg (fun z=>h (e.trans z))]
   ·rw [Ds (p:=p) e,Ds e,ih]
theorem Li (k j:κ) (y:V):∀ kvs:List (κ × V),Cq kvs k=none->Cq (kvs++[(k,y)]) j=if j=k then some y else Cq kvs j
 | [],_=>by
  by_cases e:k=j
  ·rw [if_pos e.symm]; exact Dq (p:=(k,y)) e
  ·rw [if_neg (fun z=>e z.symm)]; exact Ds (p:=(k,y)) e
 | p::r,hn=>by
  rw [List.cons_append]
  have hk:¬ p.1=k:=fun z=>by rw [Dq z] at hn; cases hn
  rw [Ds hk] at hn
  have ih:=Li k j y r hn
  by_cases e:p.1=j
  ·rw [Dq e,Dq e,if_neg (fun z=>hk (e.trans z))]
  ·rw [Ds e,Ds e,ih]
theorem Bc (kvs:List (κ × V)) (k j:κ) (y:V):Cq (putK kvs k y) j=if j=k then some y else Cq kvs j:=by
 unfold putK
 by_cases a:(kvs.any fun kv=>decide (kv.1=k))=true
 ·rw [if_pos a,Ob]
  rw [HF] at a
  by_cases e:j=k
  ·obtain ⟨x,hx⟩:=dA.mp a
   rw [if_pos e,e,hx,ii,if_pos rfl]
  ·rw [if_neg e]
   cases Cq kvs j with
   | none=>rfl
   | some x=>rw [ii,if_neg e]
 ·rw [if_neg a]
  refine Li k j y kvs ?_
  rw [HF] at a
  cases q:Cq kvs k with
  | none=>rfl
  | some x=>rw [q] at a; exact (a rfl).elim
theorem Cd (kvs:List (κ × V)) (k:κ) (v:V):(putK kvs k v).length<=kvs.length+1:=by
 unfold putK
 split
 ·rw [ag]; omega
 ·rw [aE,aI,ij]; omega
theorem GP.Rw {o:Option V} {u:Option Value} (r:GP o u):o.isSome=u.isSome:=by
 cases o with
 | none=>cases u with
  | none=>rfl
  | some _=>exact (show False from r).elim
 | some _=>cases u with
  | none=>exact (show False from r).elim
  | some _=>rfl
theorem KV.val {kvs:List (κ × V)} {vs:List (κ × Value)} (r:KV kvs vs) (k:κ):GP (Cq kvs k) (valueAt vs k):=by
 unfold KV at r
 induction r with
 | nil=>exact True.intro
 | @cons p q ps qs h t ih =>
  obtain ⟨h1,h2⟩:=h
  by_cases e:p.1=k
  ·have e':q.1=k:=h1.symm.trans e
   have b:valueAt (q::qs) k=some q.2:=by simp [valueAt,List.find?_cons,e']
   rw [Dq e,b]; exact h2
  ·have e':¬ q.1=k:=fun z=>e (h1.trans z)
   have b:valueAt (q::qs) k=valueAt qs k:=by simp [valueAt,List.find?_cons,e']
   rw [Ds e,b]; exact ih
theorem KV.any {kvs:List (κ × V)} {vs:List (κ × Value)} (r:KV kvs vs) (k:κ):(kvs.any fun kv=>decide (kv.1=k))=vs.any fun kv=>decide (kv.1=k):=by
 unfold KV at r
 induction r with
 | nil=>rfl
 | cons h t ih=>rw [ic,ic,ih,h.1]
theorem KV.repl {kvs:List (κ × V)} {vs:List (κ × Value)} (r:KV kvs vs) (k:κ) {y:V} {u:Value} (ry:RelV y u) :
  KV (kvs.map fun kv=>if kv.1=k then (kv.1,y) else kv) (vs.map fun kv=>if kv.1=k then (kv.1,u) else kv):=by
 unfold KV at r ⊢
 induction r with
 | nil=>exact .nil
 | @cons p q ps qs h t ih =>
  rw [cK,cK]
  refine .cons ?_ ih
  obtain ⟨h1,h2⟩:=h
  by_cases e:p.1=k
  ·rw [if_pos e,if_pos (h1.symm.trans e)]; exact ⟨h1,ry⟩
  ·rw [if_neg e,if_neg (fun z=>e (h1.trans z))]; exact ⟨h1,h2⟩
theorem KV.put {kvs:List (κ × V)} {vs:List (κ × Value)} (r:KV kvs vs) (k:κ) {y:V} {u:Value} (ry:RelV y u):KV (putK kvs k y) (stored vs k u):=by
 unfold putK stored
 rw [r.any k]
 by_cases e:(vs.any fun kv=>decide (kv.1=k))=true
 ·rw [if_pos e,if_pos e]; exact r.repl k ry
 ·rw [if_neg e,if_neg e]; exact Paired.snoc r ⟨rfl,ry⟩
theorem KV.length {kvs:List (κ × V)} {vs:List (κ × Value)} (r:KV kvs vs):kvs.length=vs.length:=Paired.length r
end
theorem Qy {P:Program} {w:World} {k:Key} {u:Value} (r:RelV (kV k) u):(DW P w).is k u=true:=by
 cases k with
 | inl i=>obtain ⟨t,e⟩:=(show ∃ t,u=Value.int i t from r); subst e; exact M8 P w i t
 | inr x=>obtain ⟨t,e⟩:=(show ∃ t,u=Value.str x t from r); subst e; exact N6 P w x t
theorem Kw {P:Program} {w:World}:∀ {ks:List Key} {us:List Value},Vals (ks.map kV) us->ItemsAre (DW P w) ks us
 | [],_,r=>by rw [iO] at r; cases r; exact .nil
 | k::ks,_,r=>by
  rw [cK] at r
  cases r with
  | cons h t=>exact .cons (Qy h) (Kw t)
noncomputable abbrev KT (H:Hp):List (List Key × V)->List (List Key × Addr × Value)->Prop:=Paired fun p q=>p.1=q.1/\H q.2.1=some (.tup (p.1.map kV))/\RelV p.2 q.2.2
theorem KT.val {H:Hp} {kvs:List (List Key × V)} {xs:List (List Key × Addr × Value)} (r:KT H kvs xs) (k:List Key):GP (Cq kvs k) ((atKey xs k).map (·.2)):=by
 induction r with
 | nil=>exact True.intro
 | @cons p q ps qs h t ih =>
  obtain ⟨h1,_,h2⟩:=h
  by_cases e:p.1=k
  ·have e':q.1=k:=h1.symm.trans e
   have b:atKey (q::qs) k=some q.2:=by simp [atKey,List.find?_cons,e']
   rw [Dq e,b]; exact h2
  ·have e':¬ q.1=k:=fun z=>e (h1.trans z)
   have b:atKey (q::qs) k=atKey qs k:=by simp [atKey,List.find?_cons,e']
   rw [Ds e,b]; exact ih
theorem KT.repl {H:Hp} {kvs:List (List Key × V)} {xs:List (List Key × Addr × Value)} (r:KT H kvs xs) (k:List Key) {y:V} {u:Value} (ry:RelV y u) :
  KT H (kvs.map fun kv=>if kv.1=k then (kv.1,y) else kv) (xs.map (putAt k u)):=by
 induction r with
 | nil=>exact .nil
 | @cons p q ps qs h t ih =>
  rw [cK,cK]
  refine .cons ?_ ih
  obtain ⟨h1,h2,h3⟩:=h
  unfold putAt
  by_cases e:p.1=k
  ·rw [if_pos e,if_pos (h1.symm.trans e)]; exact ⟨h1,h2,ry⟩
  ·rw [if_neg e,if_neg (fun z=>e (h1.trans z))]; exact ⟨h1,h2,h3⟩
theorem KT.put {H:Hp} {kvs:List (List Key × V)} {xs:List (List Key × Addr × Value)} (r:KT H kvs xs) (k:List Key) {b:Addr} {y:V} {u:Value} (hb:H b=some (.tup (k.map kV))) (ry:RelV y u) :
  KT H (putK kvs k y) (storedH xs k b u):=by
 have e:(kvs.any fun kv=>decide (kv.1=k))=(atKey xs k).isSome:=by
  rw [HF,(r.val k).Rw,Option.isSome_map]
 unfold putK storedH
 rw [e]
 by_cases q:(atKey xs k).isSome=true
 ·rw [if_pos q,if_pos q]; exact r.repl k ry
 ·rw [if_neg q,if_neg q]; exact Paired.snoc r ⟨rfl,hb,ry⟩
theorem KT.keeps {H H':Hp} {kvs:List (List Key × V)} {xs:List (List Key × Addr × Value)} (r:KT H kvs xs) (ht:∀ b ys,H b=some (.tup ys)->H' b=some (.tup ys)):KT H' kvs xs :=
 Paired.Ga r fun _ _ z=>⟨z.1,ht _ _ z.2.1,z.2.2⟩
section
variable {P:Program} {w:World} {H:Hp} {h:Heap} {a:Addr}
theorem W5 {u:HO} (ok:FN P w H h) (e:Rd H a u):By P w H h a u:=e.ok ok
theorem Ub {kvs:List (Key × V)} (ok:FN P w H h) (e:Rd H a (.dK kvs)):kvs.length<=sizeLine/\(a == sysModules)=false/\∃ vs,KV kvs vs/\h.DictOf (DW P w) a vs :=
 show By P w H h a (.dK kvs) from W5 ok e
theorem Wo {kvs:List (Key × V)} (ok:FN P w H h) (e:H a=some (.dK kvs)):kvs.length<=sizeLine/\(a == sysModules)=false/\∃ vs,KV kvs vs/\h.DictOf (DW P w) a vs:=Ub ok (.inl e)
theorem PL {ks:List Key} (ok:FN P w H h) (e:H a=some (.tup (ks.map kV))):(tupleKind (DW P w)).is h ks a:=by
 obtain ⟨_,its,r,o,h1,h2,n,h3⟩:=(show By P w H h a (.tup (ks.map kV)) from ok a _ e)
 exact ⟨o,its.toArray,n,h1,h2,h3,by simpa using Kw r⟩
theorem Ut {kvs:List (List Key × V)} (ok:FN P w H h) (e:Rd H a (.dT kvs)):kvs.length<=sizeLine/\(a == sysModules)=false /\
  ∃ xs,KT H kvs xs/\h.DictOfH (tupleKind (DW P w)) a xs:=by
 obtain ⟨z,y,xs,r,o,es,ep,h1,h2,h3,h4,h5⟩:=(show By P w H h a (.dT kvs) from W5 ok e)
 refine ⟨z,y,xs,r,o,es,ep,h1,h2,h3,h4,fun x hx=>?_,h5⟩
 have all:∀ {l:List (List Key × V)} {m:List (List Key × Addr × Value)},KT H l m->∀ x∈m,(tupleKind (DW P w)).is h x.1 x.2.1:=by
  intro l m q
  induction q with
  | nil=>intro x hx; exact nomatch hx
  | @cons p q ps qs hq t ih =>
   intro x hx
   rcases cm.mp hx with e | hx
   ·subst e
    exact PL ok (by rw [← hq.1]; exact hq.2.1)
   ·exact ih x hx
 exact all r x hx
theorem cJ {kvs:List (List Key × V)} (ok:FN P w H h) (e:H a=some (.dT kvs)):kvs.length<=sizeLine/\(a == sysModules)=false /\
  ∃ xs,KT H kvs xs/\h.DictOfH (tupleKind (DW P w)) a xs:=Ut ok (.inl e)
end
noncomputable def CQ (H:Hp) (a:Addr) (y:V) (r:Option V):Prop :=
 (∃ kvs k,Rd H a (.dK kvs)/\y=kV k/\r=Cq kvs k) \/ ∃ kvs k b,Rd H a (.dT kvs)/\y=.ref b/\H b=some (.tup (k.map kV))/\r=Cq kvs k
noncomputable def Oz (H:Hp) (a:Addr) (y v:V) (H':Hp):Prop :=
 (∃ kvs k,H a=some (.dK kvs)/\y=kV k/\kvs.length<sizeLine/\H'=upd H a (.dK (putK kvs k v))) \/
 ∃ kvs k b,H a=some (.dT kvs)/\y=.ref b/\H b=some (.tup (k.map kV))/\kvs.length<sizeLine/\H'=upd H a (.dT (putK kvs k v))
theorem CQ.k {H:Hp} {a:Addr} {kvs:List (Key × V)} {k:Key} (e:H a=some (.dK kvs)):CQ H a (kV k) (Cq kvs k):=.inl ⟨kvs,k,.inl e,rfl,rfl⟩
theorem Oz.k {H:Hp} {a:Addr} {kvs:List (Key × V)} {k:Key} {v:V} (e:H a=some (.dK kvs)) (hl:kvs.length<sizeLine):Oz H a (kV k) v (upd H a (.dK (putK kvs k v))):=.inl ⟨kvs,k,e,rfl,hl,rfl⟩
section
variable {X:Cx} {pins:List (Addr × Obj)} {σ:St} {H:Hp} {s:Shared} {a:Addr} {y v:V} {u r:Value} {o:Option V} {A:Around} {E:Value->Shared->Prop}
theorem Inv.big (I:Inv X pins σ H s):sysModules<s.heap.objs.size:=by
 have h:mainGlobals<s.heap.objs.size:=(I.mod.glob.keeps I.bk).lt
 exact Nat.lt_trans (by decide) h
theorem Q8 {Q:Value->Shared->Prop} (hu:A.units+1<cLine) (I:Inv X pins σ H s) (g:CQ H a y (some v)) (ry:RelV y u) (h:∀ w' s',Inv X pins σ H s'->RelV v w'->Q w' s') :
  wpAny (model X.prog X.w) A (getItem (.ref a) u) Q E s:=by
 rcases g with ⟨kvs,k,e,ey,l⟩ | ⟨kvs,k,b,e,ey,eb,l⟩
 ·subst ey
  obtain ⟨z,hd,vs,rel,dd⟩:=Ub I.hok e
  obtain ⟨w',hw,rw'⟩:=GP.some_of (v:=v) (o:=valueAt vs k) (by rw [l]; exact rel.val k)
  exact wpAny_getItem_of (Qy ry) dd.mapOf hw (h w' _ (I.tok _) rw')
 ·subst ey
  cases (show u=Value.ref b from ry)
  obtain ⟨z,hd,xs,rel,dd⟩:=Ut I.hok e
  obtain ⟨w',hw,rw'⟩:=GP.some_of (v:=v) (o:=(atKey xs k).map (·.2)) (by rw [l]; exact rel.val k)
  obtain ⟨p,hp,hp2⟩:=de.mp hw
  refine wpAny_getItem_heap (tupleKind_room_in1 hu) (PL I.hok eb) dd hp ?_
  rw [hp2]
  exact h w' _ (I.tok _) rw'
theorem Lx {h':Heap} {t':Nat} {ob:HO} (I:Inv X pins σ H s) (mu:eG (H a)) (hs:Heap.SameBut a s.heap h') (he:∃ q,h'.get? a=some q) (new:By X.prog X.w (upd H a ob) h' a ob) :
  Inv X pins σ (upd H a ob) { s with heap:=h',toks:=t' } :=
 I.write (x:=a) (e:=a) mu (.inl rfl) (fun b q hb z=>(hs.2 b hb).trans z) he new
theorem U0 {P:Program} {w:World} {H':Hp} {h':Heap} {kvs:List (Key × V)} {vs:List (Key × Value)} (z:kvs.length<=sizeLine) (hd:(a == sysModules)=false) (rel:KV kvs vs) (dd:h'.DictOf (DW P w) a vs) :
  By P w H' h' a (.dK kvs):=⟨z,hd,vs,rel,dd⟩
theorem Ro {H':Hp} {Q:Unit->Shared->Prop} (hu:A.units+1<cLine) (I:Inv X pins σ H s) (g:Oz H a y v H') (ry:RelV y u) (rv:RelV v r) (h:∀ s',Inv X pins σ H' s'->Q () s') :
  wpAny (model X.prog X.w) A (setItem (.ref a) u r) Q E s:=by
 rcases g with ⟨kvs,k,e,ey,l,eH⟩ | ⟨kvs,k,b,e,ey,eb,l,eH⟩
 ·subst ey eH
  obtain ⟨z,hd,vs,rel,dd⟩:=Wo I.hok e
  have hz:vs.length<=sizeLine:=by rw [← rel.length]; exact z
  have hl:(putK kvs k v).length<=sizeLine:=by have:=Cd kvs k v; omega
  refine wpAny_setItem_pairs (hsz:=hz) (Qy ry) dd fun h' dd' hs=>h _ ?_
  have he:∃ q,h'.get? a=some q:=let ⟨q,_,_,hq,_⟩:=dd'; ⟨q,hq⟩
  exact Lx I (by rw [e]; exact True.intro) hs he (U0 hl hd (rel.put k rv) dd')
 ·subst ey eH
  cases (show u=Value.ref b from ry)
  obtain ⟨z,hd,xs,rel,dd⟩:=cJ I.hok e
  have hz:xs.length<=sizeLine:=by rw [← Paired.length rel]; exact z
  have hl:(putK kvs k v).length<=sizeLine:=by have:=Cd kvs k v; omega
  refine wpAny_setItem_heap (hsz:=hz) (tupleKind_room_in1 hu) (PL I.hok eb) dd fun h' dd' hs=>h _ ?_
  obtain ⟨q,es,ep,hq,h2,h3,h4,_,h5⟩:=dd'
  refine Lx I (by rw [e]; exact True.intro) hs ⟨q,hq⟩ ⟨hl,hd,_,(rel.put k eb rv).keeps fun c ys ec=>?_,q,es,ep,hq,h2,h3,h4,h5⟩
  rw [Aq (Nr ec e (fun z=>nomatch z))]
  exact ec
end
section
variable {X:Cx} {pins:List (Addr × Obj)} {σ:St} {H:Hp} {s:Shared} {a:Addr} {kvs:List (Key × V)} {k:Key} {u:Value} {A:Around} {E:Value->Shared->Prop}
end
noncomputable def Yr (i:Expr):Prop:=∀ ov iv,subscripted i false ov iv=operate [ov,iv] (getItem ov iv)
theorem Qh {prog:Program} {w:World} {A:Around} {E:Value->Shared->Prop} {s:Shared} {env:Env} {value slice:Expr} {pos:Pos} {T id:String} {Q:Value->Shared->Prop}
  (hl:typeLookup (.type T) "__getitem__" = pure (some (.builtin id))) (hs:Yr slice)
  (h:wpAny (model prog w) A (eval value env) (fun o s₁=>wpAny (model prog w) A (eval slice env) (fun i s₂=>s₂.TypeIs o T/\wpAny (model prog w) A (getItem o i) Q E s₂) E s₁) E s) :
  wpAny (model prog w) A (eval (.Subscript value slice pos) env) Q E s:=by
 refine Subscript_ (wpAny_mono h (fun o s₁ h₁=>wpAny_mono h₁ (fun i s₂ h₂=>?_) fun _ _ x=>x) fun _ _ x=>x)
 obtain ⟨hT,h₂⟩:=h₂
 unfold subscriptTail
 refine wpAny_bind ?_
 rw [getitemInPython_of_ne hT.not_modules]
 refine wpAny_bind (wpAny_specialOf hT hl ?_)
 have fin:wpAny (model prog w) A (subscripted slice false o i) (fun r s₃=>wpAny (model prog w) A (letTemporaryGo value o r >>= fun _=>pure r) Q E s₃) E s₂:=by
  rw [hs o i]
  exact wpAny_operating (wpAny_mono h₂ (fun r s₃ h₃=>wpAny_bind (wpAny_letTemporaryGo (wpAny_pure h₃))) fun _ _ x=>x)
 first
  | exact wpAny_pure (wpAny_bind fin)
  | exact wpAny_bind (wpAny_pure (wpAny_bind fin))
  | exact wpAny_bind fin
theorem Oj {X:Cx} {pins:List (Addr × Obj)} {σ:St} {H:Hp} {s:Shared} {a:Addr} {y:V} {o:Option V} (I:Inv X pins σ H s) (g:CQ H a y o):s.TypeIs (.ref a) "dict":=by
 rcases g with ⟨kvs,k,e,_,_⟩ | ⟨kvs,k,b,e,_,_,_⟩
 ·obtain ⟨_,_,vs,_,dd⟩:=Ub I.hok e
  exact dd.typeIs
 ·obtain ⟨_,_,xs,_,dd⟩:=Ut I.hok e
  exact dd.typeIs
noncomputable def ao (td ty:TE):TE:=fun σ H Q=>td σ H fun x H1=>ty σ H1 fun y H2=>∃ a v,x=.ref a/\CQ H2 a y (some v)/\Q v H2
noncomputable def bH (td ty tv:TE):TS:=fun D σ H=>tv σ H fun v H1=>td σ H1 fun x H2=>ty σ H2 fun y H3=>∃ a H4,x=.ref a/\Oz H3 a y v H4/\D.nx σ H4
section
variable {X:Cx} {o i e value:Expr} {pos pos' tpos:Pos} {td ty tv:TE}
theorem Ba (hu:X.A.units+1<cLine) (ho:PE X o td) (hi:PE X i ty) (hs:Yr i):PE X (.Subscript o i pos) (ao td ty):=by
 intro pins s σ H Q I h
 refine Qh gI hs (Ci (ho pins s σ H _ I h) fun u s1 ⟨x,H1,I1,rx,q1⟩=>Ci (hi pins s1 σ H1 _ I1 q1) fun iv s2 hq0=>?_)
 obtain ⟨y,H2,I2,ry,a,v,ex,g,q2⟩:=hq0
 subst ex
 obtain rfl:u=Value.ref a:=rx
 exact ⟨Oj I2 g,Q8 hu I2 g ry fun w' s3 I3 rw'=>⟨v,H2,I3,rw',q2⟩⟩
theorem Mm (hu:X.A.units+1<cLine) (ho:PE X o td) (hi:PE X i ty) (hv:PE X value tv) (hs:swapsWith value (some (.Subscript o i pos')) pos.line X.env=pure false) :
  PS X (.Assign [.Subscript o i pos'] value pos) (bH td ty tv):=by
 intro pins s σ H D I h
 refine wpAny_Assign_Subscript (Ci (hv pins s σ H _ I h) fun r s1 ⟨v,H1,I1,rv,q1⟩=>Ci (ho pins s1 σ H1 _ I1 q1) fun u s2 ⟨x,H2,I2,rx,q2⟩=>Ci (hi pins s2 σ H2 _ I2 q2) fun iv s3 ⟨y,H3,I3,ry,a,H4,ex,g,q3⟩=>?_) hs
 subst ex
 obtain rfl:u=Value.ref a:=rx
 exact Ro hu I3 g ry rv fun s4 I4=>⟨σ,H4,I4,q3⟩
end
theorem Nq {P:Program} {w:World} {H:Hp} (h:Heap) (hb:sysModules<h.objs.size):By P w H (h.push { cls:=.type "dict",data:=.dict #[] }) h.objs.size (.dK []) :=
 ⟨dL _,beq_eq_false_iff_ne.mpr (Ne.symm (bp hb)),[],.nil,Heap.DictOf.new h⟩
noncomputable def X7:TE:=fun _ H Q=>∀ p,H p=none->Q (.ref p) (upd H p (.dK []))
section
variable {X:Cx} {pos:Pos}
theorem NP:PE X (.Dict [] [] pos) X7:=fun pins s σ H Q I h =>
 wpAny_Dict_empty ⟨.ref s.heap.objs.size,_,I.laid (a:=s.heap.objs.size) (o:=.dK []) (t':=s.toks) (fun _ _ q=>Heap.get?_push_of_some _ q) (am _) (Nq s.heap I.big),rfl,h _ (I.hok.fresh (am _))⟩
end
noncomputable def QC:List (TE × TE)->St->Hp->(List (V × V)->Hp->Prop)->Prop
 | [],_,H,Q=>Q [] H
 | (tk,tv)::r,σ,H,Q=>tk σ H fun x H1=>tv σ H1 fun y H2=>QC r σ H2 fun ps H3=>Q ((x,y)::ps) H3
noncomputable abbrev VV:List (V × V)->List (Value × Value)->Prop:=Paired fun p q=>RelV p.1 q.1/\RelV p.2 q.2
noncomputable def fU (X:Cx) (pos:Pos) (keys:List (Option Expr)) (values:List Expr) (trs:List (TE × TE)):Prop :=
 ∀ (pins:List (Addr × Obj)) (s:Shared) (σ:St) (H:Hp) (Q:List (V × V)->Hp->Prop),Inv X pins σ H s->QC trs σ H Q ->
  wpAny (model X.prog X.w) X.A (evalPairs (pairTrees keys values X.env pos)) (fun vs s'=>∃ ps H',Inv X pins σ H' s'/\VV ps vs/\Q ps H') X.xe s
theorem QR {X:Cx} {pos:Pos}:fU X pos [] [] []:=fun pins s σ H Q I h=>pairTrees_nil_walk ⟨[],H,I,.nil,h⟩
theorem Ex {X:Cx} {pos:Pos} {k v:Expr} {ks:List (Option Expr)} {vs:List Expr} {tk tv:TE} {trs:List (TE × TE)} (hk:PE X k tk) (hv:PE X v tv) (hr:fU X pos ks vs trs) :
  fU X pos (some k::ks) (v::vs) ((tk,tv)::trs):=fun pins s σ H Q I h =>
 pairTrees_cons_walk (Ci (hk pins s σ H _ I h) fun u s1 ⟨x,H1,I1,rx,q1⟩=>Ci (hv pins s1 σ H1 _ I1 q1) fun w2 s2 ⟨y,H2,I2,ry,q2⟩ =>
  Ci (hr pins s2 σ H2 _ I2 q2) fun ws s3 ⟨ps,H3,I3,rel,q3⟩=>⟨(x,y)::ps,H3,I3,.cons ⟨rx,ry⟩ rel,q3⟩)
noncomputable def Dl (kvs more:List (Key × V)):List (Key × V):=more.foldl (fun acc kv=>putK acc kv.1 kv.2) kvs
theorem KV.merge:∀ {more:List (Key × V)} {rs:List (Key × Value)} {kvs:List (Key × V)} {vs:List (Key × Value)},KV more rs->KV kvs vs->KV (Dl kvs more) (merged vs rs):=by
 intro more rs kvs vs r
 unfold KV at r
 induction r generalizing kvs vs with
 | nil=>intro q; exact q
 | @cons p q ps qs h t ih =>
  intro r0
  have e:KV (putK kvs p.1 p.2) (stored vs q.1 q.2):=by
   have:=r0.put p.1 h.2
   rw [← h.1]; exact this
  exact ih e
theorem Hk:∀ (more kvs:List (Key × V)),(Dl kvs more).length<=kvs.length+more.length
 | [],kvs=>by show kvs.length<=kvs.length+0; omega
 | p::r,kvs=>by
  have h1:=Hk r (putK kvs p.1 p.2)
  have h2:=Cd kvs p.1 p.2
  show (Dl (putK kvs p.1 p.2) r).length<=_
  rw [aI]; omega
theorem J6 {P:Program} {w:World}:∀ {kvs:List (Key × V)} {ws:List (Value × Value)},VV (kvs.map fun kv=>(kV kv.1,kv.2)) ws->∃ rs,Carries (DW P w) ws rs/\KV kvs rs
 | [],_,r=>by rw [iO] at r; cases r; exact ⟨[],True.intro,.nil⟩
 | p::kvs,_,r=>by
  rw [cK] at r
  cases r with
  | @cons a b as bs h t =>
   obtain ⟨rs,c,q⟩:=J6 (P:=P) (w:=w) t
   obtain ⟨b1,b2⟩:=b
   exact ⟨(p.1,b2)::rs,⟨Qy h.1,rfl,c⟩,.cons ⟨rfl,h.2⟩ q⟩
noncomputable def fD (trs:List (TE × TE)):TE:=fun σ H Q=>∀ p,H p=none->QC trs σ (upd H p (.dK [])) fun ps H2=>H2 p=some (.dK [])/\∃ kvs:List (Key × V),ps=kvs.map (fun kv=>(kV kv.1,kv.2))/\kvs.length<=15/\Q (.ref p) (upd H2 p (.dK (Dl [] kvs)))
theorem Ql {X:Cx} {pos:Pos} {keys:List (Option Expr)} {values:List Expr} {trs:List (TE × TE)} (h:fU X pos keys values trs) (hall:keys.all (·.isSome)=true) (hl:keys.length=values.length) (h0:keys ≠ [])
  (h15:keys.length<=15):PE X (.Dict keys values pos) (fD trs):=by
 intro pins s σ H Q I q
 have hn:=I.hok.fresh (am s.heap.objs.size)
 have I1:=I.laid (a:=s.heap.objs.size) (o:=.dK []) (h':=s.heap.push { cls:=.type "dict",data:=.dict #[] }) (t':=s.toks) (fun _ _ q=>Heap.get?_push_of_some _ q) (am _) (Nq s.heap I.big)
 refine wpAny_Dict_walk (knd:=DW X.prog X.w) hall hl h0 h15 (Ci (h pins _ σ _ _ I1 (q _ hn)) fun ws s2 hq0=>?_)
 obtain ⟨ps,H2,I2,rel,e,kvs,ep,lk,q2⟩:=hq0
 subst ep
 obtain ⟨rs,c,rk⟩:=J6 (P:=X.prog) (w:=X.w) rel
 obtain ⟨z,hd,vs0,r0,dd⟩:=Wo I2.hok e
 cases r0
 refine ⟨rs,c,dd,fun h' dd' hs=>⟨.ref s.heap.objs.size,_,?_,rfl,q2⟩⟩
 have hz:(Dl [] kvs).length<=sizeLine:=by
  have h1:=Hk kvs []
  rw [ij] at h1
  rw [sizeLine_eq]; omega
 have he:∃ q,h'.get? s.heap.objs.size=some q:=let ⟨q,_,_,hq,_⟩:=dd'; ⟨q,hq⟩
 exact Lx I2 (by rw [e]; exact True.intro) hs he (U0 hz hd (rk.merge .nil) dd')
section
variable {X:Cx} {pins:List (Addr × Obj)} {σ:St} {H:Hp} {s:Shared} {a:Addr} {y d:V} {u r:Value} {o:Option V} {A:Around} {E:Value->Shared->Prop}
end
section
variable {X:Cx} {o e f:Expr} {apos cpos:Pos} {td ty tx:TE}
end
section
variable {X:Cx} {pins:List (Addr × Obj)} {σ:St} {H:Hp} {s:Shared} {a:Addr} {kvs:List (Key × V)} {A:Around} {E:Value->Shared->Prop}
end
section
variable {X:Cx} {pins:List (Addr × Obj)} {σ:St} {H:Hp} {s:Shared} {a:Addr} {y:V} {u:Value} {A:Around} {E:Value->Shared->Prop}
end
end L2
namespace HT
open PySem PyProof.Rows
section
open PySem.SeqAt
open PySem.AutoSeq1 (wpAny_loadPart')
open PySem.MeetsSeq PySem.MeetsSeq2 PySem.MeetsSeq3
end
section
variable {prog:Program} {w:World} {A:Around} {E:Value->Shared->Prop} {s:Shared}
theorem V2 {t b:Addr} {vs ws:List Value} {Q:Value->Shared->Prop} (ht:IsTup s.heap t vs.toArray) (hb:IsTup s.heap b ws.toArray) (hv:vs ≠ [])
  (h1:ws=[]->Q (.ref t) s) (h2:ws ≠ []->Q (.ref s.heap.objs.size) { s with heap:=s.heap.push { cls:=.type "tuple",data:=.seq (vs++ws).toArray } })
  (hsz:vs.length+ws.length<=sizeLine):wpAny (model prog w) A (binaryOp .Add (.ref t) (.ref b)) Q E s:=by
 obtain ⟨⟨cls,dd,data,sl⟩,ho,hc,n,hd⟩:=id ht
 obtain ⟨⟨cls2,dd2,data2,sl2⟩,ho2,hc2,n2,hd2⟩:=id hb
 simp only at hc hd hc2 hd2
 subst hc hd hc2 hd2
 have e:vs.toArray++ws.toArray=(vs++ws).toArray:=by simp
 by_cases hw:ws=[]
 ·exact concat_meets ⟨_,ho,rfl⟩ ⟨_,ho2,rfl⟩ noFill_tuple_add seq_tuple_add PySem.F.slot_tuple_add PySem.F.entry_tuple_add (PySem.F.args_tuple_add_2 _ _)
   (tuple_addW1 t b vs.toArray ws.toArray n n2 dd dd2 sl sl2 (by simpa using hv) (by simp [hw])) ⟨ho,ho2,h1 hw⟩
 ·refine concat_meets ⟨_,ho,rfl⟩ ⟨_,ho2,rfl⟩ noFill_tuple_add seq_tuple_add PySem.F.slot_tuple_add PySem.F.entry_tuple_add (PySem.F.args_tuple_add_2 _ _)
   (tuple_addW2 t b vs.toArray ws.toArray n n2 dd dd2 sl sl2 (by simpa using hv) (by simpa using hw) (by rw [List.size_toArray,List.size_toArray]; exact hsz)) ⟨ho,ho2,?_⟩
  rw [e]
  exact h2 hw
noncomputable def Du (n d:Nat):Option Int->Nat
 | none=>d
 | some v=>if v<0 then (v+(n:Int)).toNat else min v.toNat n
theorem Ew (n d:Nat):Du n d none=d:=rfl
theorem DR (n d k:Nat):Du n d (some (k:Int))=min k n:=by
 show (if (k:Int)<0 then ((k:Int)+(n:Int)).toNat else min (k:Int).toNat n)=min k n
 rw [if_neg (by omega),eD]
theorem Yv (n d:Nat) (hd:d<=n) (o:Option Int):Du n d o<=n:=by
 cases o with
 | none=>exact hd
 | some v =>
  show (if v<0 then (v+(n:Int)).toNat else min v.toNat n)<=n
  by_cases hv:v<0
  ·rw [if_pos hv]; omega
  ·rw [if_neg hv]; exact Nat.min_le_right _ _
theorem QM (v:Int) (n d:Nat):(if v<0 then max (v+(n:Int)) 0 else min v (n:Int))=((Du n d (some v):Nat):Int):=by
 show (if v<0 then max (v+(n:Int)) 0 else min v (n:Int))=(((if v<0 then (v+(n:Int)).toNat else min v.toNat n):Nat):Int)
 by_cases hv:v<0
 ·simp only [if_pos hv]; omega
 ·simp only [if_neg hv]; omega
theorem Ph (lo hi:Option Int) (n:Nat):Builtin.Slice.sliceAdjust lo hi 1 (n:Int)=(((Du n 0 lo:Nat):Int),((Du n n hi:Nat):Int)):=by
 have h1:¬ ((1:Int)<0):=by omega
 unfold Builtin.Slice.sliceAdjust
 simp only [h1,if_false]
 refine Prod.ext ?_ ?_
 ·cases lo with
  | none=>rfl
  | some v=>exact QM v n 0
 ·cases hi with
  | none=>rfl
  | some v=>exact QM v n n
theorem O3 (i j:Nat):Builtin.Slice.slicePlaces (i:Int) (j:Int) 1=j - i:=by
 unfold Builtin.Slice.slicePlaces
 have h1:(1:Int) > 0:=by omega
 simp only [h1,if_true,Int.ediv_one]
 split <;> omega
theorem KY {v:Value} {o:Option Int} {Q:Option Int->Shared->Prop} (p:IsPart v o) (h:Q o s):wpAny (model prog w) A (Builtin.Slice.slicePartIndex v) Q E s:=by
 cases p with
 | none=>exact slicePart_none h
 | int i t=>exact slicePart_int h
theorem Jb {sl:Addr} {vl vu:Value} {lo hi:Option Int} {n:Nat} {Q:Int × Int × Nat->Shared->Prop} (hs:s.heap.IsSliceOf sl vl vu .none) (pl:IsPart vl lo) (pu:IsPart vu hi)
  (h:Q (((Du n 0 lo:Nat):Int),1,Du n n hi - Du n 0 lo) s):wpAny (model prog w) A (Builtin.Slice.sliceApplied (.ref sl) (pure (n:Int))) Q E s:=by
 obtain ⟨os,hos,hcs,hds⟩:=id hs
 unfold Builtin.Slice.sliceApplied Builtin.Slice.sliceFields
 refine wpAny_bind (wpAny_bind (wpAny_field hos hds (x:=vl) rfl (wpAny_bind (wpAny_field hos hds (x:=vu) rfl (wpAny_bind (wpAny_field hos hds (x:=.none) rfl (wpAny_pure ?_)))))))
 refine wpAny_bind (slicePart_none ?_)
 show wpAny _ _ (if ((1:Int) == 0)=true then _ else _) _ _ s
 rw [if_neg (by decide)]
 refine wpAny_bind (KY pl (wpAny_bind (KY pu (wpAny_bind (wpAny_pure ?_)))))
 show wpAny _ _ (match Builtin.Slice.sliceAdjust lo hi 1 (n:Int) with | (lo,hi)=>pure (lo,(1:Int),Builtin.Slice.slicePlaces lo hi 1)) _ _ s
 rw [Ph lo hi n]
 show wpAny _ _ (pure (((Du n 0 lo:Nat):Int),(1:Int),Builtin.Slice.slicePlaces ((Du n 0 lo:Nat):Int) ((Du n n hi:Nat):Int) 1)) _ _ s
 rw [O3]
 exact wpAny_pure h
theorem R5 (xs:Array Value) (i k:Nat):((List.range k).filterMap fun (m:Nat)=>xs[((i:Int)+(m:Int) * 1).toNat]?).toArray=((xs.toList.drop i).take k).toArray:=by
 have e:(fun (m:Nat)=>xs[((i:Int)+(m:Int) * 1).toNat]?)=fun m=>xs[i+m]?:=by
  funext m
  have:((i:Int)+(m:Int) * 1).toNat=i+m:=by omega
  rw [this]
 rw [e]
 have:=pick_run xs i k
 rw [List.filterMap_map] at this
 have e2:((fun x=>xs[x]?) ∘ fun x=>i+x)=fun m=>xs[i+m]?:=rfl
 rw [e2] at this
 rw [this]
theorem Iw {t sl:Addr} {items:Array Value} {vl vu:Value} {lo hi:Option Int} {Q:Value->Shared->Prop} (ht:IsTup s.heap t items) (hs:s.heap.IsSliceOf sl vl vu .none) (pl:IsPart vl lo) (pu:IsPart vu hi)
  (hw:¬ (Du items.size 0 lo=0/\Du items.size items.size hi=items.size))
  (h:Q (.ref s.heap.objs.size) { s with heap:=s.heap.push { cls:=.type "tuple",data:=.seq ((items.toList.drop (Du items.size 0 lo)).take (Du items.size items.size hi - Du items.size 0 lo)).toArray } })
  (hsz:items.size<=sizeLine):wpAny (model prog w) A (getItem (.ref t) (.ref sl)) Q E s:=by
 have htake:sizeOk (.seq ((items.toList.drop (Du items.size 0 lo)).take (Du items.size items.size hi - Du items.size 0 lo)).toArray):=by
  show ((items.toList.drop (Du items.size 0 lo)).take (Du items.size items.size hi - Du items.size 0 lo)).toArray.size<=sizeLine
  rw [cy,bq,gi,Array.length_toList]
  omega
 have hj:Du items.size items.size hi<=items.size:=Yv _ _ (am _) hi
 obtain ⟨os,hos,hcs,hds⟩:=id hs
 have hTs:s.TypeIs (.ref sl) "slice":=⟨os,hos,hcs⟩
 unfold getItem
 try with_reducible refine wpAny_holding ?_
 first | refine wpAny_bind (wpAny_pure ?_) | skip
 refine wpAny_bind (wpAny_sequenceKey ht.typeIs (by decide) ?_)
 refine wpAny_bind (wpAny_callSpecial?_slot (name:=Str.ofString "__getitem__") ht.typeIs PyProof.Rows.slot_tuple_getitem
  (wpAny_call_entry PyProof.Rows.slot_tuple_getitem ht.typeIs entry_tuple_getitem ?_ (args_tuple_getitem _ _)))
 show wpAny _ _ (Builtin.Tuple.tupleItemsOf (.ref t) >>= _) _ _ s
 refine wpAny_bind (tupleItemsOf_ ht ?_)
 refine wpAny_bind (wpAny_typeOf hTs ?_)
 rw [if_pos (by decide)]
 refine wpAny_bind (Jb hs pl pu ?_)
 have hno:¬ ((((Du items.size 0 lo:Nat):Int) == 0 && (1:Int) == 1 && (Du items.size items.size hi - Du items.size 0 lo) == items.size)=true):=by
  intro q
  rw [fv,fv] at q
  have q1:((Du items.size 0 lo:Nat):Int)=0:=eq_of_beq q.1.1
  have q2:Du items.size items.size hi - Du items.size 0 lo=items.size:=eq_of_beq q.2
  exact hw ⟨by omega,by omega⟩
 show wpAny _ _ (if (((Du items.size 0 lo:Nat):Int) == 0 && (1:Int) == 1 && (Du items.size items.size hi - Du items.size 0 lo) == items.size)=true then _ else _) _ _ s
 rw [if_neg hno,R5]
 first
  | exact wpAny_bind (m:=Builtin.Tuple.tupleExact _) (wpAny_newObj_type (wpAny_pure ⟨_,rfl,wpAny_pure h⟩) htake)
  | exact wpAny_bind (m:=Builtin.Tuple.tupleExact _) (wpAny_newObj_type (wpAny_bind (wpAny_pure (wpAny_pure ⟨_,rfl,wpAny_pure h⟩))) htake)
  | exact wpAny_bind (wpAny_bind (m:=Builtin.Tuple.tupleExact _) (wpAny_newObj_type (wpAny_pure (wpAny_pure ⟨_,rfl,wpAny_pure h⟩)) htake))
  | exact wpAny_bind (wpAny_bind (m:=Builtin.Tuple.tupleExact _) (wpAny_newObj_type (wpAny_pure ⟨_,rfl,wpAny_pure h⟩) htake))
end
end HT
namespace L2
open PySem PySem.Spec PyProof.Rows
noncomputable abbrev TO:=St->Hp->(Option Int->Hp->Prop)->Prop
noncomputable def PO (X:Cx) (e:Option Expr) (t:TO):Prop :=
 ∀ (pins:List (Addr × Obj)) (s:Shared) (σ:St) (H:Hp) (Q:Option Int->Hp->Prop),Inv X pins σ H s->t σ H Q ->
  wpAny (model X.prog X.w) X.A (evalPart e X.env) (fun u s'=>∃ o H',Inv X pins σ H' s'/\IsPart u o/\Q o H') X.xe s
noncomputable def VR:TO:=fun _ H Q=>Q none H
noncomputable def eZ (t:TE):TO:=fun σ H Q=>t σ H fun x H1=>∃ i,x=.int i/\Q (some i) H1
section
variable {X:Cx} {e:Expr} {te:TE} {lo hi:Option Expr} {tl th:TO} {pos p2:Pos}
theorem Dv:PO X none VR:=by
 intro pins s σ H Q I h
 rw [evalPart_none]
 exact wpAny_pure ⟨none,H,I,.none,h⟩
theorem DG (h:PE X e te):PO X (some e) (eZ te):=by
 intro pins s σ H Q I hw
 rw [evalPart_some]
 refine Ci (h pins s σ H _ I hw) fun u s1 hq0=>?_
 obtain ⟨x,H1,I1,r1,q1⟩:=hq0
 obtain ⟨i,rfl,q⟩:=q1
 obtain ⟨t,rfl⟩:=r1
 exact ⟨some i,H1,I1,.int i t,q⟩
noncomputable def iW (X:Cx) (r:V->Option Int->Option Int->Hp->VK->Prop):Prop :=
 ∀ (pins:List (Addr × Obj)) (s:Shared) (σ:St) (H:Hp) (x:V) (v vl vu:Value) (lo hi:Option Int) (sl:Addr) (Q:VK),Inv X pins σ H s->RelV x v->s.heap.IsSliceOf sl vl vu .none->IsPart vl lo->IsPart vu hi->r x lo hi H Q ->
  ∃ T id,typeLookup (.type T) "__getitem__" = pure (some (.builtin id))/\s.TypeIs v T/\wpAny (model X.prog X.w) X.A (getItem v (.ref sl)) (EP X pins σ Q) X.xe s
noncomputable def mH (r:V->Option Int->Option Int->Hp->VK->Prop) (te:TE) (tl th:TO):TE:=fun σ H Q=>te σ H fun x H1=>tl σ H1 fun l H2=>th σ H2 fun u H3=>r x l u H3 Q
theorem Cr {r:V->Option Int->Option Int->Hp->VK->Prop} (hr:iW X r) (he:PE X e te) (hl:PO X lo tl) (hu:PO X hi th):PE X (.Subscript e (.Slice lo hi none p2) pos) (mH r te tl th):=by
 intro pins s σ H Q I h
 refine Subscript_ (Ci (he pins s σ H _ I h) fun v s1 hq0=>?_)
 obtain ⟨x,H1,I1,r1,q1⟩:=hq0
 refine wpAny_Slice (Ci (hl pins s1 σ H1 _ I1 q1) fun vl s2 ⟨l,H2,I2,pl,q2⟩=>Ci (hu pins s2 σ H2 _ I2 q2) fun vu s3 hq0=>?_)
 obtain ⟨u,H3,I3,pu,q3⟩:=hq0
 rw [evalPart_none]
 refine wpAny_pure ?_
 have I4:Inv X pins σ H3 { s3 with heap:=s3.heap.push { cls:=.type "slice",data:=.fields #[vl,vu,.none] } }:=I3.kept (t':=s3.toks) fun b ob q=>Heap.get?_push_of_some _ q
 obtain ⟨T,id,hT,ht,hg⟩:=hr pins { s3 with heap:=s3.heap.push { cls:=.type "slice",data:=.fields #[vl,vu,.none] } } σ H3 x v vl vu l u s3.heap.objs.size Q I4 r1 (Heap.IsSliceOf.new ..) pl pu q3
 show wpAny (model X.prog X.w) X.A (subscriptTail e (.Slice lo hi none p2) v (.ref s3.heap.objs.size)) (EP X pins σ Q) X.xe { s3 with heap:=s3.heap.push { cls:=.type "slice",data:=.fields #[vl,vu,.none] } }
 exact tail_any (ops:=[.ref s3.heap.objs.size,v]) ht hT hg (by with_unfolding_all rfl)
noncomputable def Cv (xs:List V) (lo hi:Option Int):List V:=(xs.drop (HT.Du xs.length 0 lo)).take (HT.Du xs.length xs.length hi - HT.Du xs.length 0 lo)
theorem Jl (xs:List V) (lo hi:Option Int):(Cv xs lo hi).length<=xs.length:=by
 unfold Cv
 rw [bq,gi]
 omega
noncomputable def gC (K:PySem.W.Frag):V->Option Int->Option Int->Hp->VK->Prop:=fun x lo hi H Q=>∃ a xs,x=.ref a/\Fq K H a xs /\
 ¬ (HT.Du xs.length 0 lo=0/\HT.Du xs.length xs.length hi=xs.length)/\∀ p,H p=none->Q (.ref p) (upd H p (.tup (Cv xs lo hi)))
theorem Gi:iW X (gC X.K):=by
 intro pins s σ H x v vl vu lo hi sl Q I rx hs pl pu h
 obtain ⟨a,xs,rfl,hx,hw,q⟩:=h
 cases rx
 obtain ⟨its,r,ht,hz⟩:=I.tuple hx
 have hlen:its.toArray.size=xs.length:=by rw [cy]; exact r.length.symm
 refine ⟨"tuple",_,PyProof.Rows.slot_tuple_getitem.lookup,ht.typeIs,?_⟩
 refine HT.Iw ht hs pl pu (by rw [hlen]; exact hw) ?_ (by rw [hlen]; exact hz)
 rw [hlen]
 refine ⟨.ref s.heap.objs.size,_,I.laid (t':=s.toks) (o:=.tup (Cv xs lo hi)) (fun b ob q=>Heap.get?_push_of_some _ q) (am _) ?_,rfl,q _ (I.hok.fresh (am _))⟩
 exact ⟨bi (Jl xs lo hi) hz,_,(r.drop (HT.Du xs.length 0 lo)).take (HT.Du xs.length xs.length hi - HT.Du xs.length 0 lo),IsTup.new _ _⟩
noncomputable def eQ (K:PySem.W.Frag):R2:=fun x y H Q=>∃ a b xs ys,x=.ref a/\y=.ref b/\Fq K H a xs/\Fq K H b ys/\xs ≠ []/\xs.length+ys.length<=sizeLine /\
 (ys=[]->Q (.ref a) H)/\(ys ≠ []->∀ p,H p=none->Q (.ref p) (upd H p (.tup (xs++ys))))
theorem Vals.Lz {xs:List V} {us:List Value} (r:Vals xs us):us=[] ↔ xs=[]:=by
 cases r with
 | nil=>simp
 | cons _ _=>simp
theorem HS:Gn X (binaryOp .Add) (eQ X.K):=by
 intro pins s σ H x y v u Q I rx ry h
 obtain ⟨a,b,xs,ys,rfl,rfl,ha,hb,hx,hz,q1,q2⟩:=h
 cases rx
 cases ry
 obtain ⟨its,r1,p1,_⟩:=I.tuple ha
 obtain ⟨its2,r2,p2,_⟩:=I.tuple hb
 refine HT.V2 p1 p2 (fun z=>hx (r1.Lz.mp z)) (fun z=>⟨.ref a,H,I,rfl,q1 (r2.Lz.mp z)⟩) (fun z=>?_) (by rw [← r1.length,← r2.length]; exact hz)
 refine ⟨.ref s.heap.objs.size,_,I.laid (t':=s.toks) (o:=.tup (xs++ys)) (fun b ob q=>Heap.get?_push_of_some _ q) (am _) ?_,rfl,q2 (fun w=>z (r2.Lz.mpr w)) _ (I.hok.fresh (am _))⟩
 exact ⟨by rw [aE]; exact hz,_,r1.append r2,IsTup.new _ _⟩
end
end L2
namespace L2
open PySem PySem.Spec PyProof.Rows
noncomputable def Xf (n:Nat) (i:Int):Option Nat:=if 0<=i then (if i<n then some i.toNat else none) else if -(n:Int)<=i then some (i+n).toNat else none
noncomputable def P0 {α:Type} (xs:List α) (i:Int):Option α:=(Xf xs.length i).bind fun j=>xs[j]?
theorem Vu {n:Nat} {i:Int} {j:Nat} (h:Xf n i=some j):seqIndex? i n=some j/\j<n /\ -(n:Int)<=i/\i<n:=by
 unfold Xf at h
 by_cases h0:0<=i
 ·rw [if_pos h0] at h
  by_cases h1:i<n
  ·rw [if_pos h1] at h
   have e:i.toNat=j:=Option.some.inj h
   exact ⟨by rw [seqIndex_of h0 h1,e],by omega,by omega,h1⟩
  ·rw [if_neg h1] at h; cases h
 ·rw [if_neg h0] at h
  by_cases h1 : -(n:Int)<=i
  ·rw [if_pos h1] at h
   have e:(i+n).toNat=j:=Option.some.inj h
   exact ⟨by rw [seqIndex_neg (by omega) h1,e],by omega,h1,by omega⟩
  ·rw [if_neg h1] at h; cases h
theorem Ml {α:Type} {xs:List α} {i:Int} {v:α} (h:P0 xs i=some v):∃ j,seqIndex? i xs.length=some j/\xs[j]? = some v/\j<xs.length /\ -(xs.length:Int)<=i/\i<xs.length:=by
 unfold P0 at h
 cases e:Xf xs.length i with
 | none=>rw [e] at h; cases h
 | some j =>
  rw [e] at h
  obtain ⟨h1,h2,h3,h4⟩:=Vu e
  exact ⟨j,h1,h,h2,h3,h4⟩
theorem Aj {α:Type} {xs:List α} {j:Nat} {v:α} (h:xs[j]? = some v):P0 xs (j:Int)=some v:=by
 have hj:j<xs.length:=(af.mp h).1
 have e:Xf xs.length (j:Int)=some j:=by
  unfold Xf
  rw [if_pos (by omega),if_pos (by omega)]; simp
 unfold P0; rw [e]; exact h
noncomputable def WF (b:Expr):Prop:=∀ o i,subscripted b false o i=operate [o,i] (getItem o i)
noncomputable def Y7 (X:Cx) (r:R2):Prop :=
 ∀ (value slice:Expr) (pins:List (Addr × Obj)) (s:Shared) (σ:St) (H:Hp) (x y:V) (v u:Value) (Q:VK),Inv X pins σ H s->RelV x v->RelV y u->r x y H Q ->
  subscripted slice false v u=operate [v,u] (getItem v u)->wpAny (model X.prog X.w) X.A (subscriptTail value slice v u) (EP X pins σ Q) X.xe s
noncomputable def nA (X:Cx) (id:String) (r:V->List V->Hp->VK->Prop):Prop :=
 ∀ (pins:List (Addr × Obj)) (s:Shared) (σ:St) (H:Hp) (x:V) (xs:List V) (v:Value) (us:List Value) (Q:VK),Inv X pins σ H s->RelV x v->Vals xs us->r x xs H Q ->
  wpAny (model X.prog X.w) X.A (call (.builtin id) (v::us)) (EP X pins σ Q) X.xe s
section
variable {X:Cx} {a b:Expr} {ta tb:TE} {pos:Pos}
theorem BK {r:R2} (hr:Y7 X r) (ha:PE X a ta) (hb:PE X b tb) (hs:WF b):PE X (.Subscript a b pos) (dY r ta tb):=by
 intro pins s σ H Q I h
 exact Subscript_ (X3 ha hb I h fun v u s2 x y H2 I2 rx ry q=>hr a b pins s2 σ H2 x y v u Q I2 rx ry q (hs _ _))
noncomputable def aF (K:PySem.W.Frag):R2:=fun x y H Q=>∃ p xs i v,x=.ref p/\y=.int i/\Dh K H p xs/\P0 xs i=some v/\Q v H
noncomputable def dR (K:PySem.W.Frag):R2:=fun x y H Q=>∃ p xs i v,x=.ref p/\y=.int i/\Fq K H p xs/\P0 xs i=some v/\Q v H
noncomputable def gw:R2:=fun x y H Q=>∃ z i c,x=.str z/\y=.int i/\z.length<=sizeLine/\P0 z.cps.toList i=some c/\Q (.str ⟨#[c]⟩) H
theorem Bt:Y7 X (aF X.K):=by
 intro value slice pins s σ H x y v u Q I rx ry h hs
 obtain ⟨p,xs,i,z,rfl,rfl,hq,he,q⟩:=h
 cases rx
 obtain ⟨t,rfl⟩:=ry
 obtain ⟨its,r,pl,hz⟩:=I.list hq
 obtain ⟨j,h1,h2,h3,h4,h5⟩:=Ml he
 obtain ⟨w,ew,rw'⟩:=r.get h2
 have hl:=r.length
 have hn:=Jd
 have fin:EP X pins σ Q w s:=⟨z,H,I,rw',q⟩
 by_cases h0:0<=i
 ·have hj:i.toNat=j:=by
   rw [seqIndex_of h0 h5] at h1
   exact Option.some.inj h1
  exact item_listR pl.isList h0 (by omega) (by rw [hj]; simpa using ew) fin hs
 ·have hj:(i+(its.toArray.size:Int)).toNat=j:=by
   rw [seqIndex_neg (by omega) h4] at h1
   rw [cy,← hl]
   exact Option.some.inj h1
  exact subscriptTail_builtinR (x:=w) pl.isList.typeIs slot_list_getitem.lookup
   (wpAny_getItem_list_neg (Q:=fun r s'=>r=w/\EP X pins σ Q r s') pl.isList (by omega) (by rw [List.size_toArray] <;> omega) (by omega) (by rw [hj]; simpa using ew) ⟨rfl,fin⟩) hs
theorem Xk:Y7 X (dR X.K):=by
 intro value slice pins s σ H x y v u Q I rx ry h hs
 obtain ⟨p,xs,i,z,rfl,rfl,hq,he,q⟩:=h
 cases rx
 obtain ⟨t,rfl⟩:=ry
 obtain ⟨its,r,pl,hz⟩:=I.tuple hq
 obtain ⟨j,h1,h2,h3,h4,h5⟩:=Ml he
 obtain ⟨w,ew,rw'⟩:=r.get h2
 have hl:=r.length
 have hn:=Jd
 have fin:EP X pins σ Q w s:=⟨z,H,I,rw',q⟩
 exact subscriptTail_builtinR (x:=w) pl.typeIs slot_tuple_getitem.lookup
  (getItem_tuple (j:=j) (Q:=fun r s'=>r=w/\EP X pins σ Q r s') pl (by omega) (by omega) (by rw [List.size_toArray,← hl]; exact h1) (by simpa using ew) ⟨rfl,fin⟩) hs
theorem QF:Y7 X gw:=by
 intro value slice pins s σ H x y v u Q I rx ry h hs
 obtain ⟨z,i,c,rfl,rfl,hz,he,q⟩:=h
 obtain ⟨t,rfl⟩:=rx
 obtain ⟨t',rfl⟩:=ry
 obtain ⟨j,h1,h2,h3,h4,h5⟩:=Ml he
 have hl:z.cps.toList.length=z.length:=by simp [Str.length]
 rw [hl] at h1 h4 h5
 have hn:=Jd
 exact tail_any (typeIs_str s z t) slot_str_getitem.lookup (getItem_str (c:=c) (by
  have e1:decide (i < -(2 ^ 63:Int))=false:=decide_eq_false (by omega)
  have e2:decide (i ≥ 2 ^ 63)=false:=decide_eq_false (by omega)
  rw [e1,e2,Bool.or_false]) (by rw [h1]; simpa using h2) ⟨.str ⟨#[c]⟩,H,I.tok _,⟨_,rfl⟩,q⟩) hs
theorem M3 (lo hi:Option Int) (n:Nat):(sliceBounds lo hi none n).1=((HT.Du n 0 lo:Nat):Int)/\(sliceBounds lo hi none n).2.1=((HT.Du n n hi:Nat):Int)/\(sliceBounds lo hi none n).2.2=1:=by
 refine ⟨?_,?_,rfl⟩
 ·cases lo with
  | none=>simp [sliceBounds,HT.Du]
  | some i =>
   simp only [sliceBounds,HT.Du,Option.getD_none,show (1:Int) > 0 by decide,if_true]
   by_cases h:i<0
   ·simp only [h,if_true] <;> omega
   ·simp only [h,if_false] <;> omega
 ·cases hi with
  | none=>simp [sliceBounds,HT.Du]
  | some i =>
   simp only [sliceBounds,HT.Du,Option.getD_none,show (1:Int) > 0 by decide,if_true]
   by_cases h:i<0
   ·simp only [h,if_true] <;> omega
   ·simp only [h,if_false] <;> omega
theorem Kr (its:List Value) (lo hi:Option Int):slicePick its.toArray lo hi none=((its.drop (HT.Du its.length 0 lo)).take (HT.Du its.length its.length hi - HT.Du its.length 0 lo)).toArray:=by
 obtain ⟨h1,h2,h3⟩:=M3 lo hi its.toArray.size
 unfold slicePick
 rw [h1,h2,h3]
 simp only [sliceRange_one,pick_run,List.size_toArray] <;> rfl
noncomputable def jn (K:PySem.W.Frag):V->Option Int->Option Int->Hp->VK->Prop:=fun x lo hi H Q=>∃ a xs,x=.ref a/\Dh K H a xs/\∀ p,H p=none->Q (.ref p) (upd H p (.lst (Cv xs lo hi)))
theorem HR:iW X (jn X.K):=by
 intro pins s σ H x v vl vu lo hi sl Q I rx hs pl pu h
 obtain ⟨a,xs,rfl,hx,q⟩:=h
 cases rx
 obtain ⟨its,r,ht,hz⟩:=I.list hx
 have hlen:=r.length
 refine ⟨"list",_,slot_list_getitem.lookup,ht.isList.typeIs,?_⟩
 refine wpAny_getItem_list_slice ht.isList hs pl pu .none (by simp) ?_ (by rw [List.size_toArray] <;> omega)
 rw [Kr,← hlen]
 refine ⟨.ref s.heap.objs.size,_,I.laid (t':=s.toks) (o:=.lst (Cv xs lo hi)) (fun b ob q=>Heap.get?_push_of_some _ q) (am _) ?_,rfl,q _ (I.hok.fresh (am _))⟩
 exact ⟨bi (Jl xs lo hi) hz,_,0,(r.drop (HT.Du xs.length 0 lo)).take (HT.Du xs.length xs.length hi - HT.Du xs.length 0 lo),Heap.get?_push_size _ rfl⟩
noncomputable def Fx:V->Bool
 | .non=>true
 | .bl _=>true
 | .int _=>true
 | .str _=>true
 | _=>false
noncomputable def Rv:V->V->Bool
 | .non,.non=>true
 | .bl a,.bl b=>a == b
 | .bl a,.int b=>(if a then 1 else 0) == b
 | .int a,.bl b=>a == (if b then 1 else 0)
 | .int a,.int b=>a == b
 | .str a,.str b=>a == b
 | _,_=>false
theorem PQ {A:Around} {s:Shared} {y x:V} {u v:Value} (ry:RelV y u) (rx:RelV x v) (fy:Fx y=true) (fx:Fx x=true):SeqAt.EqAt A s u v (Rv y x):=by
 cases y with
 | non =>
  cases ry
  cases x with
  | non=>cases rx; exact SeqAt.EqAt.same _
  | bl b=>cases rx; exact SeqAt.EqAt.none_bool b
  | int b=>obtain ⟨t,rfl⟩:=rx; exact SeqAt.EqAt.none_int b t
  | str b=>obtain ⟨t,rfl⟩:=rx; exact SeqAt.EqAt.none_str b t
  | _=>exact absurd (show false=true from fx) Bool.false_ne_true
 | bl a =>
  cases ry
  cases x with
  | non=>cases rx; exact SeqAt.EqAt.bool_none a
  | bl b=>cases rx; exact SeqAt.EqAt.bool_bool a b
  | int b=>obtain ⟨t,rfl⟩:=rx; exact SeqAt.EqAt.bool_int a b t
  | str b=>obtain ⟨t,rfl⟩:=rx; exact SeqAt.EqAt.bool_str a b t
  | _=>exact absurd (show false=true from fx) Bool.false_ne_true
 | int a =>
  obtain ⟨t',rfl⟩:=ry
  cases x with
  | non=>cases rx; exact SeqAt.EqAt.int_none a t'
  | bl b=>cases rx; exact SeqAt.EqAt.int_bool a t' b
  | int b=>obtain ⟨t,rfl⟩:=rx; exact SeqAt.EqAt.int_int a t' b t
  | str b=>obtain ⟨t,rfl⟩:=rx; exact SeqAt.EqAt.int_str a t' b t
  | _=>exact absurd (show false=true from fx) Bool.false_ne_true
 | str a =>
  obtain ⟨t',rfl⟩:=ry
  cases x with
  | non=>cases rx; exact SeqAt.EqAt.str_none a t'
  | bl b=>cases rx; exact SeqAt.EqAt.str_bool a t' b
  | int b=>obtain ⟨t,rfl⟩:=rx; exact SeqAt.EqAt.str_int a t' b t
  | str b=>obtain ⟨t,rfl⟩:=rx; exact SeqAt.EqAt.str_str a t' b t
  | _=>exact absurd (show false=true from fx) Bool.false_ne_true
 | _=>exact absurd (show false=true from fy) Bool.false_ne_true
noncomputable def PX (x:V) (u:Value):Bool:=match u with
 | .none=>Rv .non x
 | .bool b=>Rv (.bl b) x
 | .int i _=>Rv (.int i) x
 | .str z _=>Rv (.str z) x
 | _=>false
theorem Te {x y:V} {u:Value} (r:RelV y u) (f:Fx y=true):PX x u=Rv y x:=by
 cases y with
 | non=>cases r; rfl
 | bl b=>cases r; rfl
 | int i=>obtain ⟨t,rfl⟩:=r; rfl
 | str z=>obtain ⟨t,rfl⟩:=r; rfl
 | _=>exact absurd (show false=true from f) Bool.false_ne_true
theorem Ik {x:V}:∀ {xs:List V} {us:List Value},Vals xs us->xs.all Fx=true->us.any (PX x)=xs.any fun y=>Rv y x
 | _,_,.nil,_=>rfl
 | y::xs,u::us,.cons r t,f=>by
  rw [List.all_cons,fv] at f
  rw [ic,ic,Te r f.1,Ik t f.2]
theorem G7 {A:Around} {s:Shared} {x:V} {v:Value} (rx:RelV x v) (fx:Fx x=true):∀ {xs:List V} {us:List Value},Vals xs us->xs.all Fx=true->∀ u∈us,SeqAt.EqAt A s u v (PX x u)
 | _,_,.nil,_=>fun u hu=>by cases hu
 | y::xs,u::us,.cons r t,f=>fun u' hu=>by
  rw [List.all_cons,fv] at f
  rcases cm.mp hu with rfl | hu
  ·rw [Te r f.1]; exact PQ r rx f.1 fx
  ·exact G7 rx fx t f.2 u' hu
noncomputable def inV (x:V) (xs:List V):Bool:=xs.any fun y=>Rv y x
noncomputable def jt (K:PySem.W.Frag) (neg:Bool):R2:=fun x y H Q=>∃ p xs,y=.ref p/\(Dh K H p xs \/ Fq K H p xs)/\Fx x=true/\xs.all Fx=true/\Q (.bl (if neg then !inV x xs else inV x xs)) H
theorem Lh:Gn X (compareOp .In) (jt X.K false):=by
 intro pins s σ H x y v u Q I rx ry h
 obtain ⟨p,xs,rfl,hq,fx,fs,q⟩:=h
 cases ry
 rcases hq with hq | hq
 ·obtain ⟨its,r,pl,hz⟩:=I.list hq
  refine SeqAt.in_listAt (PX x) pl.isList (fun w hw=>G7 rx fx r fs w (by simpa using hw)) ⟨.bl _,H,I,rfl,?_⟩
  rw [show its.toArray.any (PX x)=its.any (PX x) by simp,Ik r fs]
  exact q
 ·obtain ⟨its,r,pl,hz⟩:=I.tuple hq
  refine SeqAt.in_tupleAt (PX x) pl (fun w hw=>G7 rx fx r fs w (by simpa using hw)) ⟨.bl _,H,I,rfl,?_⟩
  rw [show its.toArray.any (PX x)=its.any (PX x) by simp,Ik r fs]
  exact q
theorem Fb:Gn X (compareOp .NotIn) (jt X.K true):=by
 intro pins s σ H x y v u Q I rx ry h
 obtain ⟨p,xs,rfl,hq,fx,fs,q⟩:=h
 cases ry
 rcases hq with hq | hq
 ·obtain ⟨its,r,pl,hz⟩:=I.list hq
  refine SeqAt.notIn_listAt (PX x) pl.isList (fun w hw=>G7 rx fx r fs w (by simpa using hw)) ⟨.bl _,H,I,rfl,?_⟩
  rw [show its.toArray.any (PX x)=its.any (PX x) by simp,Ik r fs]
  exact q
 ·obtain ⟨its,r,pl,hz⟩:=I.tuple hq
  refine SeqAt.notIn_tupleAt (PX x) pl (fun w hw=>G7 rx fx r fs w (by simpa using hw)) ⟨.bl _,H,I,rfl,?_⟩
  rw [show its.toArray.any (PX x)=its.any (PX x) by simp,Ik r fs]
  exact q
theorem Az:Ft X (.builtin "len") (fun xs H Q=>∃ p ys,xs=[.ref p]/\(Dh X.K H p ys \/ Fq X.K H p ys)/\Q (.int ys.length) H):=by
 intro pins s σ H xs us Q I r h
 obtain ⟨p,ys,rfl,hq,q⟩:=h
 obtain ⟨u,rfl,rx⟩:=vals1 r
 cases rx
 have hn:=Jd
 rcases hq with hq | hq
 ·obtain ⟨its,r',pl,hz⟩:=I.list hq
  have hlen:=r'.length
  exact Calls.call_len_list pl.isList (by simp only [List.size_toArray] <;> omega) ⟨.int ys.length,H,I.tok _,⟨s.toks+1,by rw [List.size_toArray,hlen]⟩,q⟩
 ·obtain ⟨its,r',pl,hz⟩:=I.tuple hq
  have hlen:=r'.length
  exact len_tuple pl (by simp only [List.size_toArray] <;> omega) ⟨.int ys.length,H,I.tok _,⟨s.toks+1,by rw [List.size_toArray,hlen]⟩,q⟩
theorem I_:Ft X (.builtin "len") (fun xs H Q=>∃ z,xs=[.str z]/\z.length<=sizeLine/\Q (.int z.length) H):=by
 intro pins s σ H xs us Q I r h
 obtain ⟨z,rfl,hz,q⟩:=h
 obtain ⟨u,rfl,t,rfl⟩:=vals1 r
 have hn:=Jd
 exact len_str (by omega) ⟨.int z.length,H,I.tok _,⟨_,rfl⟩,q⟩
theorem FT:Ft X (.type "list") (fun xs H Q=>∃ p ys,xs=[.ref p]/\(Dh X.K H p ys \/ Fq X.K H p ys)/\∀ l,H l=none->Q (.ref l) (upd H l (.lst ys))):=by
 intro pins s σ H xs us Q I r h
 obtain ⟨p,ys,rfl,hq,q⟩:=h
 obtain ⟨u,rfl,rx⟩:=vals1 r
 cases rx
 have fin:∀ (its:List Value),Vals ys its->ys.length<=sizeLine->∀ (h':Heap) (c':Nat),(∀ b o',s.heap.get? b=some o'->h'.get? b=some o') ->
   h'.get? s.heap.objs.size=some { cls:=.type "list",dict:=none,data:=.seq its.toArray c',slots:=#[] }->EP X pins σ Q (.ref s.heap.objs.size) { s with heap:=h' }:=fun its r' hz h' c' kp e =>
  ⟨.ref s.heap.objs.size,_,I.laid (t':=s.toks) kp (Nat.le_refl _) (show By X.prog X.w _ h' _ (.lst ys) from ⟨hz,its,c',r',e⟩),rfl,q _ (I.hok.fresh (Nat.le_refl _))⟩
 rcases hq with hq | hq
 ·obtain ⟨its,r',pl,hz⟩:=I.list hq
  have hlen:=r'.length
  obtain ⟨o,ho,hc,n,hd⟩:=pl.isList
  exact call_list_seq p (.inl rfl) ho hc hd (fun h' c' kp e=>fin its r' hz h' c' kp e) (by simp only [List.size_toArray] <;> omega)
 ·obtain ⟨its,r',pl,hz⟩:=I.tuple hq
  have hlen:=r'.length
  obtain ⟨o,ho,hc,n,hd⟩:=pl
  exact call_list_seq p (.inr rfl) ho hc hd (fun h' c' kp e=>fin its r' hz h' c' kp e) (by simp only [List.size_toArray] <;> omega)
theorem Hm:Ft X (.type "tuple") (fun xs H Q=>∃ p ys,xs=[.ref p]/\((Dh X.K H p ys/\∀ l,H l=none->Q (.ref l) (upd H l (.tup ys))) \/ (Fq X.K H p ys/\Q (.ref p) H))):=by
 intro pins s σ H xs us Q I r h
 obtain ⟨p,ys,rfl,h⟩:=h
 obtain ⟨u,rfl,rx⟩:=vals1 r
 cases rx
 rcases h with ⟨hq,q⟩ | ⟨hq,q⟩
 ·obtain ⟨its,r',pl,hz⟩:=I.list hq
  have hlen:=r'.length
  refine call_tuple_list pl.isList (fun h' kp=>?_) (by simp only [List.size_toArray] <;> omega)
  have I1:Inv X pins σ H { s with heap:=h' }:=I.kept (t':=s.toks) kp
  have I2:Inv X pins σ (upd H h'.objs.size (.tup ys)) { s with heap:=h'.push { cls:=.type "tuple",data:=.seq its.toArray } } :=
   I1.laid (t':=s.toks) (fun b o e=>Heap.get?_push_of_some _ e) (Nat.le_refl _) (show By X.prog X.w _ _ _ (.tup ys) from ⟨hz,its,r',IsTup.new _ _⟩)
  exact ⟨.ref h'.objs.size,_,I2,rfl,q _ (I1.hok.fresh (am _))⟩
 ·obtain ⟨its,r',pl,hz⟩:=I.tuple hq
  exact call_tuple_same pl ⟨.ref p,H,I,rfl,q⟩
noncomputable def lH (K:PySem.W.Frag) (T:String) (x:V) (H:Hp):Prop:=match x with
 | .str _=>T = "str"
 | .int _=>T = "int"
 | .ref p=>(T = "list" /\ ∃ xs,Dh K H p xs) \/ (T = "tuple" /\ ∃ o,K.lookup p=some o/\o.cls=.type "tuple" /\ o.dict=none) \/
   (T = "dict" /\ ((∃ kvs,H p=some (.dK kvs)) \/ ∃ kvs,H p=some (.dT kvs))) \/ (T = "set" /\ ∃ S n,H p=some (.set S n))
 | _=>False
theorem Xv {pins:List (Addr × Obj)} {σ:St} {H:Hp} {s:Shared} {T:String} {x:V} {v:Value} (I:Inv X pins σ H s) (r:RelV x v) (ty:lH X.K T x H) :
  s.TypeIs v T/\∀ a,v=.ref a->∃ ob,s.heap.get? a=some ob/\ob.dict=none:=by
 cases x with
 | str z =>
  obtain ⟨t,rfl⟩:=r
  cases (show T = "str" from ty)
  exact ⟨typeIs_str s z t,fun _ e=>nomatch e⟩
 | int i =>
  obtain ⟨t,rfl⟩:=r
  cases (show T = "int" from ty)
  exact ⟨typeIs_int s i t,fun _ e=>nomatch e⟩
 | ref p =>
  cases r
  rcases ty with ⟨rfl,xs,hq⟩ | ⟨rfl,o,hk,hc,hd⟩ | ⟨rfl,hk⟩ | ⟨rfl,S,n,hk⟩
  ·obtain ⟨its,_,pl,_⟩:=I.list hq
   refine ⟨pl.isList.typeIs,fun a e=>?_⟩
   cases e
   obtain ⟨o,n,e,c,hd,_⟩:=pl
   exact ⟨o,e,hd⟩
  ·refine ⟨⟨o,I.GR p o hk,hc⟩,fun a e=>?_⟩
   cases e
   exact ⟨o,I.GR _ o hk,hd⟩
  ·have z:∃ o,s.heap.get? p=some o/\o.ExactDict:=by
    rcases hk with ⟨kvs,hk⟩ | ⟨kvs,hk⟩
    ·obtain ⟨_,_,_,_,o,_,_,e,ex,_⟩:=I.hok p _ hk
     exact ⟨o,e,ex⟩
    ·obtain ⟨_,_,_,_,o,_,_,e,ex,_⟩:=I.hok p _ hk
     exact ⟨o,e,ex⟩
   obtain ⟨o,e,ex⟩:=z
   refine ⟨⟨o,e,ex.1⟩,fun a e2=>?_⟩
   cases e2
   exact ⟨o,e,ex.2.1⟩
  ·obtain ⟨o,_,_,_,e,ex,_⟩:=I.hok p _ hk
   refine ⟨⟨o,e,ex.1⟩,fun a e2=>?_⟩
   cases e2
   exact ⟨o,e,ex.2.1⟩
 | _=>exact False.elim ty
noncomputable def mW (K:PySem.W.Frag) (T:String) (r:V->List V->Hp->VK->Prop) (to:TE) (t:TA):TE:=fun σ H Q=>to σ H fun x H1=>lH K T x H1/\t σ H1 fun xs H2=>r x xs H2 Q
variable {o e:Expr} {es:List Expr} {to:TE} {t:TA} {name:Str} {apos cpos:Pos} {T id:String} {r:V->List V->Hp->VK->Prop}
theorem Fe (pa:PlainAttrs T) (slot:Slot T name id) (hty:typeOf (.builtin id)=pure (.type "method_descriptor")) (hm:nA X id r) (ho:PE X o to) (ha:PA X (e::es) t)
  (hbase:attributeBase o name X.env (eval o X.env)=eval o X.env:=by rfl)
  (hfew:((backTo cpos (starEach (e::es) X.env)).all (fun x=>!x.1) && (backToKw cpos (keywordEach [] X.env)).all (fun x=>x.1.isSome)
   && decide ((e::es).length+([]:List Keyword).length+(if ([]:List Keyword).isEmpty then 0 else 1)<30))=true:=by rfl)
  (hline:(apos.endLine == cpos.line)=true:=by rfl) (hs:starEach (e::es) X.env=(false,eval e X.env)::starEach es X.env:=by rfl) (hplain:(backTo cpos (starEach es X.env)).any (·.1)=false:=by rfl) :
  PE X (.Call (.Attribute o name apos) (e::es) [] cpos) (mW X.K T r to t):=by
 intro pins s σ H Q I h
 refine wpAny_Call_method_late hbase hfew hline rfl (Ci (ho pins s σ H _ I h) fun v s1 hq0=>?_)
 obtain ⟨x,H1,I1,r1,ty,q1⟩:=hq0
 obtain ⟨h1,h2⟩:=Xv I1 r1 ty
 refine ⟨T,id,pa,slot,hty,h1,h2,?_⟩
 have hA:=ha cpos pins s1 σ H1 _ I1 q1
 rw [hs] at hA ⊢
 refine Calls.callWith_builtin (by show (false || (backTo cpos (starEach es X.env)).any (·.1))=false; rw [hplain] <;> rfl) (Calls.evalArgs_plain ?_)
 exact Ci hA fun us s2 ⟨vs,H2,I2,r2,q2⟩=>hm pins s2 σ H2 x vs v us Q I2 r1 r2 q2
end
end L2
namespace L2
open PySem PySem.Spec PyProof.Rows
noncomputable def lV (X:Cx) (id:String) (r:V->List V->Hp->VK->Prop):Prop :=
 ∀ (pins:List (Addr × Obj)) (s:Shared) (σ:St) (H:Hp) (x:V) (xs:List V) (v:Value) (us:List Value) (Q:VK),Inv X pins σ H s->RelV x v->Vals xs us->r x xs H Q ->
  wpAny (model X.prog X.w) X.A (call (.builtin id) (v::us)) (EP X pins σ Q) X.xe s
theorem Vals.one:∀ {x:V} {us:List Value},Vals [x] us->∃ u,us=[u]/\RelV x u:=fun h=>by cases h with | cons r t=>cases t; exact ⟨_,rfl,r⟩
theorem Vals.two:∀ {x y:V} {us:List Value},Vals [x,y] us->∃ u v,us=[u,v]/\RelV x u/\RelV y v:=fun h=>by cases h with | cons r t=>cases t with | cons q t=>cases t; exact ⟨_,_,rfl,r,q⟩
theorem Vals.rep {xs:List V} {us:List Value} (h:Vals xs us):∀ k:Nat,Vals (List.replicate k xs).flatten (List.replicate k us).flatten
 | 0=>.nil
 | k+1=>by
  rw [fo,fo,gS,gS]
  exact Vals.append h (Vals.rep h k)
theorem foldl_rep (its:List Value):∀ (k:Nat) (acc:List Value),
  List.foldl (fun x1 x2=>x1++x2) acc.toArray (List.replicate k its.toArray)=(acc++(List.replicate k its).flatten).toArray
 | 0,acc=>by simp
 | k+1,acc=>by
  have e:acc.toArray++its.toArray=(acc++its).toArray:=by simp
  have e2:(acc++its)++(List.replicate k its).flatten=acc++(List.replicate (k+1) its).flatten:=by
   rw [fo,gS,eI]
  rw [← e2,← foldl_rep its k (acc++its),← e,fo,List.foldl_cons]
section
variable {X:Cx} {pins:List (Addr × Obj)} {σ:St} {H:Hp} {s:Shared} {l b:Addr} {xs ys zs:List V}
theorem Inv.Yn {its its':List Value} {n:Nat} {f:Array Value->Array Value} {t':Nat} (I:Inv X pins σ H s) (hH:H l=some (.lst xs))
  (e:s.heap.get? l=some { cls:=.type "list",data:=.seq its.toArray n }) (hf:f its.toArray=its'.toArray) (hv:Vals ys its') (hz:ys.length<=sizeLine) :
  Inv X pins σ (upd H l (.lst ys)) { s with heap:=s.heap.update l (Obj.mapSeq f),toks:=t' }:=by
 have q:=PySem.IsL.update e f
 rw [hf] at q
 refine I.write (x:=l) (e:=l) (by rw [hH]; exact trivial) (.inl rfl) (fun b' u hb hu=>(Heap.get?_update_other s.heap (Obj.mapSeq f) (Ne.symm hb)).trans hu) ⟨_,q⟩ ?_
 exact ⟨hz,its',_,hv,q⟩
theorem Inv.Vm {its:List Value} {t':Nat} (I:Inv X pins σ H s) (hv:Vals ys its) (hz:ys.length<=sizeLine) :
  Inv X pins σ (upd H s.heap.objs.size (.lst ys)) { s with heap:=s.heap.push { cls:=.type "list",data:=.seq its.toArray },toks:=t' } :=
 I.laid (fun _ _ q=>Heap.get?_push_of_some _ q) (am _) ⟨hz,its,0,hv,Heap.get?_push_size _ rfl⟩
theorem Inv.fresh (I:Inv X pins σ H s):H s.heap.objs.size=none:=I.hok.fresh (am _)
theorem Inv.Ot (I:Inv X pins σ H s) (hH:H l=some (.lst xs)):xs.length<=sizeLine/\∃ (its:List Value) (n:Nat),Vals xs its/\xs.length=its.length/\s.heap.get? l=some { cls:=.type "list",data:=.seq its.toArray n }:=by
 obtain ⟨z,its,n,r,e⟩:=I.hok l _ hH
 exact ⟨z,its,n,r,r.length,e⟩
theorem Nj {n:Nat} (h:n<=sizeLine):Builtin.List.listTooLong n=false:=by
 unfold Builtin.List.listTooLong
 exact decide_eq_false (by omega)
end
section
variable {X:Cx}
noncomputable def Va:V->List V->Hp->VK->Prop:=fun x vs H Q=>∃ l xs y,x=.ref l/\vs=[y]/\H l=some (.lst xs)/\xs.length<sizeLine/\Q .non (upd H l (.lst (xs++[y])))
theorem CK:lV X "list.append" Va:=by
 intro pins s σ H x vs v us Q I rx rv h
 obtain ⟨l,xs,y,rfl,rfl,hH,hz,q⟩:=h
 cases rx
 obtain ⟨u,rfl,ru⟩:=rv.one
 obtain ⟨z,its,n,r,hl,e⟩:=I.Ot hH
 refine call_meets F.slot_list_append ⟨_,e,rfl⟩ F.entry_list_append (F.args_list_append_2 _ _) (PySem.list_append l its.toArray n u (by rw [cy]; omega)) ⟨e,?_⟩
 refine ⟨.non,_,I.Yn (its':=its++[u]) hH e (by simp) (r.append (.cons ru .nil)) ?_,rfl,q⟩
 rw [aE,cE]
 omega
noncomputable def Vn:V->List V->Hp->VK->Prop:=fun x vs H Q=>∃ l b xs zs,x=.ref l/\vs=[.ref b]/\H l=some (.lst xs)/\H b=some (.lst zs)/\xs.length+zs.length<=sizeLine/\Q .non (upd H l (.lst (xs++zs)))
theorem RN:lV X "list.extend" Vn:=by
 intro pins s σ H x vs v us Q I rx rv h
 obtain ⟨l,b,xs,zs,rfl,rfl,hH,hB,hz,q⟩:=h
 cases rx
 obtain ⟨u,rfl,ru⟩:=rv.one
 cases ru
 obtain ⟨z,its,n,r,hl,e⟩:=I.Ot hH
 obtain ⟨z2,its2,n2,r2,hl2,e2⟩:=I.Ot hB
 have hsz:its.toArray.size+its2.toArray.size<=sizeLine:=by rw [cy,cy]; omega
 have hlong:¬ (!its.toArray.isEmpty && Builtin.List.listTooLong (its.toArray.size+its2.toArray.size))=true:=by
  rw [Nj hsz,Bool.and_false]
  exact cr
 refine call_meets F.slot_list_extend ⟨_,e,rfl⟩ F.entry_list_extend (F.args_list_extend_2 _ _)
  (AutoSeq1.list_extend_list_list_0 l its.toArray n b its2.toArray n2 hlong (by rw [cy]; omega) (by omega)) ⟨e,e2,?_⟩
 refine ⟨.non,_,I.Yn (its':=its++its2) hH e (by simp) (r.append r2) ?_,rfl,q⟩
 rw [aE]
 omega
noncomputable def jX:R2:=fun x y H Q=>∃ l b xs zs,x=.ref l/\y=.ref b/\H l=some (.lst xs)/\H b=some (.lst zs)/\xs.length+zs.length<=sizeLine/\∀ p,H p=none->Q (.ref p) (upd H p (.lst (xs++zs)))
theorem Eu:Gn X (binaryOp .Add) jX:=by
 intro pins s σ H x y v u Q I rx ry h
 obtain ⟨l,b,xs,zs,rfl,rfl,hH,hB,hz,q⟩:=h
 cases rx
 cases ry
 obtain ⟨z,its,n,r,hl,e⟩:=I.Ot hH
 obtain ⟨z2,its2,n2,r2,hl2,e2⟩:=I.Ot hB
 refine PySem.P.add_list e e2 ?_ (by rw [cy,cy]; omega)
 have ea:its.toArray++its2.toArray=(its++its2).toArray:=by simp
 rw [ea]
 exact ⟨.ref _,_,I.Vm (t':=s.toks) (r.append r2) (by rw [aE]; omega),rfl,q _ I.fresh⟩
noncomputable def iZ:R2:=fun x y H Q=>∃ l k xs,x=.ref l/\y=.int k/\H l=some (.lst xs) /\ -(2 ^ 63)<=k/\k<2 ^ 63/\xs.length * k.toNat<=sizeLine /\
 ∀ p,H p=none->Q (.ref p) (upd H p (.lst (List.replicate k.toNat xs).flatten))
theorem len_rep {α:Type} (xs:List α) (k:Nat):(List.replicate k xs).flatten.length=k * xs.length:=by
 induction k with
 | zero=>simp
 | succ k ih=>rw [fo,gS,aE,ih,Nat.succ_mul,Nat.add_comm]
theorem Pa:Gn X (binaryOp .Mult) iZ:=by
 intro pins s σ H x y v u Q I rx ry h
 obtain ⟨l,k,xs,rfl,rfl,hH,h1,h2,hz,q⟩:=h
 cases rx
 obtain ⟨t,rfl⟩:=ry
 obtain ⟨z,its,n,r,hl,e⟩:=I.Ot hH
 have hlen:its.toArray.size * k.toNat<=sizeLine:=by rw [cy,← hl]; exact hz
 have hcap:¬ its.toArray.size * k.toNat > (2 ^ 63 - 1) / 8:=by
  have:(sizeLine:Nat)<=(2 ^ 63 - 1) / 8:=by decide
  omega
 have hfit:¬ (!Builtin.List.listFitsIndex k)=true:=by
  rw [fitsIndex_both h1 h2]
  exact cr
 have hlong:¬ Builtin.List.listTooLong (its.toArray.size * k.toNat)=true:=by
  rw [Nj hlen]
  exact cr
 have hnew:List.foldl (fun x1 x2=>x1++x2) #[] (List.replicate (if its.toArray.isEmpty=true then 0 else k.toNat) its.toArray)=(List.replicate k.toNat its).flatten.toArray:=by
  have f0:∀ m:Nat,List.foldl (fun x1 x2=>x1++x2) #[] (List.replicate m its.toArray)=(List.replicate m its).flatten.toArray:=fun m=>by
   have:=foldl_rep its m []
   rw [fN] at this
   exact this
  rw [f0]
  cases its with
  | nil=>simp
  | cons a r'=>rw [if_neg (by simp)]
 refine wpAny_binaryOp_repeat_ref (T:="list") (U:="int") (by decide) ⟨_,e,rfl⟩ (fun s'=>typeIs_int s' k t) noFill_list_mul F.fills_int_mul F.slot_int_rmul repeat_list F.slot_int_index.lookup
  (call_meets F.slot_int_rmul (typeIs_int s k t) F.entry_int_rmul (F.args_int_rmul_2 _ _) (int___rmul___int_list k t l its.toArray n)
   ⟨e,rfl,⟨_,e,rfl⟩,call_meets F.slot_list_mul ⟨_,e,rfl⟩ F.entry_list_mul (F.args_list_mul_2 _ _) (AutoListH.list___mul___list_int_3 l its.toArray n k t hfit hcap hlong) ⟨e,?_⟩⟩)
 rw [hnew]
 exact ⟨.ref _,_,I.Vm (t':=s.toks) (r.rep k.toNat) (by rw [len_rep,Nat.mul_comm]; exact hz),rfl,q _ I.fresh⟩
end
section
variable {prog:Program} {w:World} {A:Around} {E:Value->Shared->Prop} {s:Shared}
end
section
variable {X:Cx}
end
end L2
namespace Att
open PySem PySem.W PySem.Calls PyProof.Rows
theorem Ju {P:Params} {h:Heap}:∀ (ns:List Int) (vs:List Value),WellAll P h vs (ns.map WData.int)->IntsAre vs ns:=by
 intro ns
 induction ns with
 | nil =>
  intro vs w
  rw [iO] at w
  cases w
  exact .nil
 | cons n ns ih =>
  intro vs w
  rw [cK] at w
  cases w with
  | cons a b =>
   cases a
   exact .cons _ _ (ih _ b)
theorem Q_ {l:OpenLaw} {n:Nat} (hn:l.most=some n) {P:Params} {h:Heap} {args:List WData} {vals:List Value}
  (hpre:l.row.toRowW.claim.pre args=true) (hwl:WellAll P h vals args) :
  ∃ a vs ns,vals=[Value.ref a]/\args=[WData.list (ns.map WData.int)]/\h.get? a=some { cls:=.type "list",data:=.seq vs.toArray }/\IntsAre vs ns/\ns.length<=n:=by
 have hsh:WShape.hasAll [] args [.list .int]=true:=(pre_splitW hpre).1
 have hc:l.pre.holds [] { args:=args }=true:=(pre_splitW hpre).2
 obtain ⟨d,r,rfl,h1,h2⟩:=hasAllW_cons hsh
 obtain rfl:=hasAllW_nil h2
 obtain ⟨xs,rfl,h3⟩:=hasW_list h1
 obtain ⟨ns,rfl⟩:=items_int h3
 have hlen:ns.length<=n:=by
  unfold OpenLaw.pre at hc
  have h4:(WTm.not (.lt (.lit (.int (n:Int))) (.len (.arg 0)))).holds [] { args:=[.list (ns.map .int)] }=true:=by
   have h4:=(holds_andW hc).1
   rw [hn] at h4
   exact h4
  have h5:=condW_of h4 (w_not (w_lt w_lit (w_len_list (w_arg rfl))))
  rw [ag] at h5
  refine Nat.le_of_not_lt fun q=>?_
  have q':(n:Int)<((ns.length:Nat):Int):=by omega
  first
   | (rw [decide_eq_true q'] at h5; exact absurd h5 (by decide))
   | (simp at h5; omega)
 cases hwl with
 | cons w1 w2 =>
  cases w2
  cases w1 with
  | list ho hall=>exact ⟨_,_,ns,rfl,rfl,ho,Ju ns _ hall,hlen⟩
theorem Rg (l:OpenLaw) (args:List WData):l.row.toRowW.claim.post args (.bool true) args=true :=
 postW_of (r:=l.row.toRowW) (X:=(true == true))
  (show WShape.has [] (.bool true) .bool=true by first | rfl | decide | simp [WShape.has,WShape.arms,WShape.armsAll])
  (show (WTm.eq .res (.lit (.bool true))).value [] { args:=args,res:=some (.bool true),after:=args }=some (.bool (true == true)) from w_eq_bool (w_res rfl) w_lit) rfl
theorem N7 {l:OpenLaw} {n:Nat} {q:Program} {loose:List Str} {XP:(Str->Option Value)->Heap->Prop} {YP:World->Heap->Prop} {d:DefRec}
  (hn:l.most=some n) (hdf:d.params.defaults=[])
  (call:∀ (w:World) (s₀ s₁:Shared) (mg mb:Str->Option Value) (fa:Addr) (o:Obj) (pm cd doc:Value) (a:Addr) (vs:List Value) (ns:List Int),
   Ground q loose [] XP w s₀ mg mb s₁.heap->YP w s₁.heap ->
   s₁.heap.get? fa=some o->o.data=.func (docDef d.name d.params d.body d.scope pm cd doc)->s₁.heap.CodeRec cd d.name->mg d.name=some (.ref fa) ->
   s₁.heap.get? a=some { cls:=.type "list",data:=.seq vs.toArray }->IntsAre vs ns->ns.length<=n->s₁.gens = #[] ->
   codeAny (model l.prog w) callerA (.call (.ref fa) ⟨[.ref a],[]⟩) (fun r s'=>r=.ok (.ret (.bool true))/\OldK s₁.heap s'.heap/\s'.os=s₁.os/\AllBare s'.gens) s₁) :
  WalkO q loose XP YP l.row.toRowW d [] (fun f vs=>PySem.call f vs):=by
 intro w s₀ s₁ mg mb G Y fa o pm cd doc dV kV ho hd hcd hD hmg hg args vals as hpre hlay hrd hwl hlo
 obtain rfl:dV=.none:=Dflts.none hD hdf
 obtain rfl:kV=.none:=Dflts.noKw hD
 obtain ⟨a,vs,ns,rfl,rfl,hobj,hints,hlen⟩:=Q_ hn hpre hwl
 refine enter_call (codeAny_mono (call w s₀ s₁ mg mb fa o pm cd doc a vs ns G Y ho (fd_plain hd) hcd hmg hobj hints hlen hg) fun r s' hq=>?_)
 obtain ⟨rfl,h2,h3,h4⟩:=hq
 exact ⟨.inl ⟨.bool true,.bool true,[],rfl,fun _=>rfl,.bool true,Rg l _,fun _=>⟨List.Pairwise.nil,fun _ hm=>(nomatch hm)⟩⟩,h2,h3,h4⟩
section
variable {prog:Program} {w:World} {A:Around} {E:Value->Shared->Prop} {s:Shared} {K:Frag}
end
end Att
namespace L2
open PySem PySem.Spec PyProof.Rows
theorem LC:∀ {vs:List Value} {ns:List Int},IntsAre vs ns->Vals (ns.map V.int) vs
 | _,_,.nil=>.nil
 | _,_,.cons n t h=>.cons ⟨t,rfl⟩ (LC h)
noncomputable def Only (H:Hp):Prop:=∀ b,H b=none \/ ∃ o xs,H b=some (.frz o (.lst xs))
theorem Ur {P:Program} {w:World} {K:PySem.W.Frag} {mg mb:Str->Option Value} {CX:Oq} {k:Nat} {fa a:Addr} {fd:FuncData} {x:Str} {sp:Sp} {s₁:Shared} {vs:List Value} {ns:List Int}
  (KX:K.In s₁.heap) (hns:s₁.heap.Ns mainGlobals mg) (hb:s₁.heap.Ns builtinsNs mb) (hbb:∀ x:Str,x ≠ "__name__"->mb x=bootBuiltins x) (hlim:s₁.heap.NoLimit) (hg:s₁.gens = #[])
  (ha:s₁.heap.get? a=some { cls:=.type "list",data:=.seq vs.toArray }) (hi:IntsAre vs ns) (hl:ns.length<=sizeLine) (hr:Bb k callerA)
  (F:∀ base:Heap,K.In base->base.Ns mainGlobals mg->BW P w K mg base CX k fa fd [x] sp) (hbind:∀ (s:Shared) (u:Value),BindsTo s fd ⟨[u],[]⟩ [(x,u)])
  (hsp:∀ H:Hp,Only H->Dh K H a (ns.map V.int)->sp [.ref a] H (fun v _=>v=.bl true) fun _ _ _=>False)
  (hCX:∀ H e s',CX [] H s₁ (fun _ _ _=>False) e s'->False) :
  codeAny (model P w) callerA (.call (.ref fa) ⟨[.ref a],[]⟩) (fun r s'=>r=.ok (.ret (.bool true))/\OldK s₁.heap s'.heap/\s'.os=s₁.os/\AllBare s'.gens) s₁:=by
 have rv:=LC hi
 have lenV:=hi.length
 have core:∀ H:Hp,Only H->Dh K H a (ns.map V.int)->FN P w H s₁.heap->(∀ b,H b ≠ none->b=a)->(H a ≠ none->K.lookup a=none) ->
   codeAny (model P w) callerA (.call (.ref fa) ⟨[.ref a],[]⟩) (fun r s'=>r=.ok (.ret (.bool true))/\OldK s₁.heap s'.heap/\s'.os=s₁.os/\AllBare s'.gens) s₁:=by
  intro H hO hS hok hA hK
  have base_of:∀ {b:Addr} {o:Obj},s₁.heap.get? b=some o->H b=none->(Mp s₁.heap H).get? b=some o:=fun e n=>TY e n
  have noA:∀ {b:Addr} {o:Obj} {es:Array DictEntry} {ep:Nat},s₁.heap.get? b=some o->o.data=.dict es ep->H b=none:=fun {b o es ep} e d=>by
   cases q:H b with
   | none=>rfl
   | some u =>
    have e':b=a:=hA b (by rw [q]; simp)
    subst e'
    rw [ha] at e; cases e
    have d':Data.seq vs.toArray _=Data.dict es ep:=d
    cases d'
  have nsK:∀ {b:Addr} {m:Str->Option Value},s₁.heap.Ns b m->(Mp s₁.heap H).Ns b m:=fun {b m} ⟨o,es,ep,e,d,r⟩=>⟨o,es,ep,base_of e (noA e d),d,r⟩
  have hKb:K.In (Mp s₁.heap H):=fun b o e=>base_of (KX b o e) (by
   cases q:H b with
   | none=>rfl
   | some u =>
    have e':b=a:=hA b (by rw [q]; simp)
    subst e'
    rw [hK (by rw [q]; simp)] at e; cases e)
  have hM:Mod K mg (Mp s₁.heap H):=⟨hKb,nsK hns,⟨mb,nsK hb,hbb⟩,let ⟨mc,h1,h2⟩:=hlim; ⟨mc,nsK h1,h2⟩⟩
  have e0:Mj P w K mg (Mp s₁.heap H) callerA [] s₁ H:=⟨rfl,hM,fun b o e=>V3 e,Nat.le_of_eq (Rx _ _),trivial,fun b hb=>absurd (show b∈([]:List Addr) from hb) (by simp),hok,.of_eq hg⟩
  refine codeAny_mono ((F _ hKb (nsK hns)).run callerA [] s₁ H ⟨[.ref a],[]⟩ [.ref a] [.ref a] _ _ hr e0 (hbind s₁ (.ref a)) (.cons rfl .nil) (hsp H hO hS)) fun r s' h=>?_
  cases r with
  | error e=>exact (hCX H e s' h).elim
  | ok fl =>
   cases fl with
   | next=>exact False.elim h
   | brk=>exact False.elim h
   | cont=>exact False.elim h
   | ret u =>
    obtain ⟨v,H',os,bare,un,hok',r',q⟩:=h
    have q':v=.bl true:=q
    subst q'
    obtain rfl:u=Value.bool true:=r'
    refine ⟨rfl,OldK.of_keep fun b o e=>?_,os,bare⟩
    cases q:H b with
    | none=>exact un.keep b o e q (by intro z; exact absurd (show b∈([]:List Addr) from z) (by simp)) (by simp)
    | some u =>
     rcases hO b with z | ⟨ob,xs,z⟩
     ·rw [q] at z; cases z
     ·have z2:=un.frzs b ob _ z
      obtain ⟨e1,_⟩:=hok b _ z
      obtain ⟨e2,_⟩:=hok' b _ z2
      rw [e] at e1; cases e1
      exact e2
 cases hk:K.lookup a with
 | some o =>
  have e:=KX a o hk
  rw [ha] at e
  cases e
  refine core (fun _=>none) (fun _=>.inl rfl) (.inr ⟨_,vs.toArray,_,hk,rfl,rfl,rfl,by rw [List.size_toArray,lenV]; exact hl,by simpa using rv⟩) (fun b u z=>by have z':(none:Option HO)=some u:=z; cases z') (fun b z=>absurd rfl z) fun z=>absurd rfl z
 | none =>
  refine core (fun b=>if b=a then some (.frz { cls:=.type "list",data:=.seq vs.toArray } (.lst (ns.map V.int))) else none) (fun b=>?_) (.inl (.inr ⟨{ cls:=.type "list",data:=.seq vs.toArray },if_pos rfl⟩)) (fun b u z=>?_) (fun b z=>?_) fun _=>hk
  ·by_cases hb:b=a
   ·exact .inr ⟨_,_,if_pos hb⟩
   ·exact .inl (if_neg hb)
  ·by_cases hb:b=a
   ·have z':=(if_pos hb).symm.trans z
    cases z'
    subst hb
    exact ⟨ha,by rw [ag]; exact hl,vs,_,rv,ha⟩
   ·have z':=(if_neg hb).symm.trans z
    cases z'
  ·by_cases hb:b=a
   ·exact hb
   ·exact absurd (if_neg hb) z
end L2
namespace L2
open PySem PySem.Spec PyProof.Rows
theorem V_ {l:PySem.W.OpenLaw} {n k:Nat} {q:Program} {loose:List Str} {XP:(Str->Option Value)->Heap->Prop} {YP:World->Heap->Prop} {d:DefRec} {K:Params->PySem.W.Frag} {CX:World->Oq} {sp:World->Sp} {x:Str}
  (hn:l.most=some n) (hn2:n<=sizeLine) (hdf:d.params.defaults=[]) (hr:Bb k callerA)
  (hY:∀ (w:World) (h:Heap),YP w h->(K w.params).In h)
  (F:∀ (w:World) (mg:Str->Option Value) (fa:Addr) (h:Heap),(K w.params).In h->h.Ns mainGlobals mg->mg d.name=some (.ref fa) ->
   ∃ fd:FuncData,(∀ (s:Shared) (u:Value),BindsTo s fd ⟨[u],[]⟩ [(x,u)]) /\
    ∀ base:Heap,(K w.params).In base->base.Ns mainGlobals mg->BW l.prog w (K w.params) mg base (CX w) k fa fd [x] (sp w))
  (hsp:∀ (w:World) (H:Hp) (a:Addr) (ns:List Int),ns.length<=n->Only H->Dh (K w.params) H a (ns.map V.int)->sp w [.ref a] H (fun v _=>v=.bl true) fun _ _ _=>False)
  (hCX:∀ (w:World) (H:Hp) (s:Shared) (e:Value) (s':Shared),CX w [] H s (fun _ _ _=>False) e s'->False) :
  PySem.W.WalkO q loose XP YP l.row.toRowW d [] (fun f vs=>PySem.call f vs):=by
 refine Att.N7 hn hdf fun w s₀ s₁ mg mb fa o pm cd doc a vs ns G Y ho hd hcd hmg hobj hints hlen hg=>?_
 have KX:=hY w _ Y
 obtain ⟨fd,hb,hF⟩:=F w mg fa _ KX G.T.g hmg
 exact Ur KX G.T.g G.T.b G.T.builtins G.T.nolimit hg hobj hints (bi hlen hn2) hr hF hb (fun H hO hS=>hsp w H a ns hlen hO hS) fun H e s'=>hCX w H s₁ e s'
end L2
namespace L2
open PySem PySem.Spec PyProof.Rows
noncomputable def inClass (s:Stmt) (j:Nat):Stmt:=match s with
 | .ClassDef _ _ _ body _ _ _ _ _ _ _=>body.getD j (.Pass ⟨0,0,0,0⟩)
 | _=>.Pass ⟨0,0,0,0⟩
noncomputable def Fd (s:Stmt):Arguments:=match s with
 | .FunctionDef _ a _ _ _ _ _ _ _ _=>a
 | _=>{ posonlyargs:=[],args:=[],vararg:=none,kwonlyargs:=[],kw_defaults:=[],kwarg:=none,defaults:=[] }
noncomputable def EY (s:Stmt):List Stmt:=match s with
 | .FunctionDef _ _ b _ _ _ _ _ _ _=>b
 | _=>[]
noncomputable def Ai (s:Stmt):Scope:=match s with
 | .FunctionDef _ _ _ _ _ _ sc _ _ _=>sc
 | _=>{ kind:=.function,names:=[],isGenerator:=false,isCoroutine:=false }
noncomputable abbrev Br:Oq:=fun _ _ _ _ _ _=>False
noncomputable abbrev E0:XK:=fun _ _ _=>False
theorem BJ {X:Cx}:Gz Br X E0:=fun _ _ _ _ _ _ _ h=>h.elim
structure Dr (K:PySem.W.Frag) (x qual:Str) (st:Stmt) (f:Addr) (fd:FuncData):Prop where
 ex:∃ (oc:Value) (od:Option Addr) (kV doc pm:Value) (an:Option Addr) (cdv ct:Value) (osl:Array (Option Value)),
  fd=PySem.W.fnOf x qual (Fd st) (EY st) (Ai st) .none kV doc pm an cdv ct/\K.lookup f=some ⟨oc,od,.func fd,osl⟩/\PySem.W.codeIn K cdv qual=true
 kp:PySem.W.keepIn K (.ref f)=true
section
variable {P:Program} {w:World} {K:PySem.W.Frag} {mg:Str->Option Value} {base:Heap}
theorem Dr.ok {x qual:Str} {st:Stmt} {f:Addr} {fd:FuncData} {N ps:List Str} {k:Nat} {sp:Sp} (F:Dr K x qual st f fd) (S:BX N ps (Ai st)) (len:∀ vs H Q E,sp vs H Q E->vs.length=ps.length)
  (hbody:∀ (cdv:Value) (A:Around) (outer:List Env) (s:Shared) (H:Hp) (vs:List V) (Q:VK) (E:XK),Bb k (A.deeper (envOfC qual (Ai st) s.heap.objs.size f cdv))->sp vs H Q E ->
   ∃ t,NB (J5 Br P w K mg base N qual (Ai st) f cdv A outer s H E).Y9 (EY st) t/\t { nx:=fun _ H'=>Q .non H',rt:=Q } (start N vs) H):BW P w K mg base Br (k+1) f fd ps sp:=by
 obtain ⟨oc,od,kV,doc,pm,an,cdv,ct,osl,rfl,lk,hcd⟩:=F.ex
 refine Xb lk hcd S len fun A outer s H vs Q E hr hsp=>?_
 obtain ⟨t,h,q⟩:=hbody cdv A outer s H vs Q E hr hsp
 exact ⟨t,h.Y9,q⟩
theorem Dr.binds {x qual:Str} {st:Stmt} {f:Addr} {fd:FuncData} {ps:List Str} (F:Dr K x qual st f fd)
  (h:∀ (kV doc pm:Value) (an:Option Addr) (cdv ct:Value) (us:List Value),us.length=ps.length->bindArgs (PySem.W.fnOf x qual (Fd st) (EY st) (Ai st) .none kV doc pm an cdv ct) ⟨us,[]⟩=pure (ps.zip us)):Binds K fd ps []:=by
 obtain ⟨oc,od,kV,doc,pm,an,cdv,ct,osl,rfl,lk,hcd⟩:=F.ex
 exact .all (h kV doc pm an cdv ct)
theorem QB {x qual:Str} {st:Stmt} {f:Addr} {oc:Value} {od an:Option Addr} {osl:Array (Option Value)} {kV doc pm cdv ct:Value} (l:K.lookup f=some ⟨oc,od,.func (PySem.W.fnOf x qual (Fd st) (EY st) (Ai st) .none kV doc pm an cdv ct),osl⟩)
  (c:PySem.W.codeIn K cdv qual=true) (k:PySem.W.keepIn K (.ref f)=true):Dr K x qual st f (PySem.W.fnOf x qual (Fd st) (EY st) (Ai st) .none kV doc pm an cdv ct):=⟨⟨oc,od,kV,doc,pm,an,cdv,ct,osl,rfl,l,c⟩,k⟩
end
theorem FJ {A:Around} {k:Nat} (hr:Bb k A):A.units+1<cLine:=bt (im (by decide:1<=64) _) hr.units
theorem BP {n:Nat} (h:n<=1000):n<sizeLine:=bt h (by decide)
section
variable {X:Cx}
theorem pv (i:Nat) {x:Str} {pos:Pos} (hN:X.N[i]? = some x:=by rfl) (hv:jb X.env.scope x:=by first | exact Or.inl rfl | exact Or.inr (Or.inl rfl) | exact Or.inr (Or.inr rfl)) (hd:(x == ("__debug__" : Str))=false:=by decide)
  (hcd:(x == ("__classdict__" : Str))=false:=by decide):PE X (.Name x pos) (cU i):=Xo hN hv hd hcd
end
theorem Cp {A B:Prop} (h:B):if false=true then A else B:=by
 rw [if_neg cr]
 exact h
theorem Dg {A B:Prop} (h:A):if true=true then A else B:=by
 rw [if_pos rfl]
 exact h
theorem Bd {c A B:Prop} [Decidable c] (h1:c->A) (h2:¬ c->B):if c then A else B:=by
 by_cases h:c
 ·rw [if_pos h]
  exact h1 h
 ·rw [if_neg h]
  exact h2 h
theorem Ue {c A B:Prop} [Decidable c] (hc:c) (h:B):if (!decide c)=true then A else B:=by
 rw [decide_eq_true hc]
 exact Cp h
noncomputable def Am (H H':Hp):Prop:=∀ b o,H b=some o->H' b=some o
theorem Am.refl (H:Hp):Am H H:=fun _ _ h=>h
theorem Am.trans {H H1 H2:Hp} (a:Am H H1) (b:Am H1 H2):Am H H2:=fun c o h=>b c o (a c o h)
theorem Am.free {H H':Hp} (e:Am H H') {l:Addr} (h:H' l=Option.none):H l=Option.none:=by
 cases q:H l with
 | none=>rfl
 | some o =>
  rw [e l o q] at h
  cases h
theorem Am.seq {K:PySem.W.Frag} {H H':Hp} {a:Addr} {xs:List V} (e:Am H H') (h:Dh K H a xs):Dh K H' a xs:=by
 rcases h with (h | ⟨o,h⟩) | h
 ·exact .inl (.inl (e _ _ h))
 ·exact .inl (.inr ⟨o,e _ _ h⟩)
 ·exact .inr h
end L2
namespace L2
open PySem PySem.Spec PyProof.Rows
section
variable {X:Cx}
end
section
variable {κ:Type} [DecidableEq κ]
theorem QJ:∀ {l:List κ} {k:κ},l.Nodup->¬ k∈l->(l++[k]).Nodup
 | [],k,_,_=>by simp
 | a::r,k,h,hk=>by
  obtain ⟨h1,h2⟩:=fF.mp h
  show (a::(r++[k])).Nodup
  refine fF.mpr ⟨fun m=>?_,QJ h2 fun m=>hk (cm.mpr (Or.inr m))⟩
  rcases cb.mp m with q | q
  ·exact h1 q
  ·exact hk (cm.mpr (Or.inl (av.mp q).symm))
end
end L2
namespace L2
open PySem PySem.Spec PyProof.Rows
section
variable {prog:Program} {w:World} {A:Around} {E:Value->Shared->Prop} {s:Shared}
theorem Kf {it a:Addr} {i:Nat} {items:Array Value} {x:Value} {Q:Value->Shared->Prop} (j:s.heap.IsTupleIter it a i) (ht:s.heap.IsTuple a items) (hx:items[i]? = some x)
  (q:∀ h',h'.IsTupleIter it a (i+1)->Heap.SameBut it s.heap h'->Q x { s with heap:=h' }):wpAny (model prog w) A (Builtin.SmallTypes.nextOf (.ref it)) Q E s:=by
 have j0:=j
 obtain ⟨o,e,c,d⟩:=j
 obtain ⟨oa,ea,_,n,da⟩:=ht
 unfold Builtin.SmallTypes.nextOf
 refine wpAny_bind (wpAny_callSpecial?_slot (name:=Str.ofString "__next__") j0.typeIs F.slot_tuple_iterator_next (wpAny_call_entry F.slot_tuple_iterator_next j0.typeIs F.entry_tuple_iterator_next ?_ (F.args_tuple_iterator_next_1 _)))
 refine (show wpAny _ _ (field (.ref it) 0 >>= _) _ _ s from wpAny_bind (wpAny_field e d (x:=.ref a) rfl ?_))
 refine (show wpAny _ _ (if (Value.ref a == Value.none)=true then _ else _) _ _ s from ?_)
 rw [if_neg (by exact cr)]
 refine (show wpAny _ _ (field (.ref it) 1 >>= _) _ _ s from wpAny_bind (wpAny_field e d (x:=.int i 0) rfl ?_))
 refine (show wpAny _ _ (seqItems? (.ref a) >>= _) _ _ s from wpAny_bind (wpAny_seqItems ea da ?_))
 simp only [Int.toNat_natCast,hx]
 exact wpAny_bind (wpAny_setField e d (by simp) (wpAny_pure ⟨x,rfl,wpAny_pure (q _ ⟨_,Heap.get?_update_self _ e (Obj.isFreed_of_fields (Obj.data_mapFields d _)),(Obj.cls_mapFields ..).trans c,by rw [Obj.data_mapFields d]; simp [rawInt]⟩ (Heap.SameBut.update ..))⟩))
theorem KN {it a:Addr} {i:Nat} {items:Array Value} {Q:Value->Shared->Prop} (hh:A.handled=none) (j:s.heap.IsTupleIter it a i) (ht:s.heap.IsTuple a items) (hx:items[i]? = none)
  (q:∀ h' e,Heap.ExtBut it s.heap h'->(∃ o,h'.get? e=some o/\o.cls=.type "StopIteration")->E (.ref e) { s with heap:=h' }):wpAny (model prog w) A (Builtin.SmallTypes.nextOf (.ref it)) Q E s:=by
 have j0:=j
 obtain ⟨o,e,c,d⟩:=j
 obtain ⟨oa,ea,_,n,da⟩:=ht
 unfold Builtin.SmallTypes.nextOf
 refine wpAny_bind (wpAny_callSpecial?_slot (name:=Str.ofString "__next__") j0.typeIs F.slot_tuple_iterator_next (wpAny_call_entry F.slot_tuple_iterator_next j0.typeIs F.entry_tuple_iterator_next ?_ (F.args_tuple_iterator_next_1 _)))
 refine (show wpAny _ _ (field (.ref it) 0 >>= _) _ _ s from wpAny_bind (wpAny_field e d (x:=.ref a) rfl ?_))
 refine (show wpAny _ _ (if (Value.ref a == Value.none)=true then _ else _) _ _ s from ?_)
 rw [if_neg (by exact cr)]
 refine (show wpAny _ _ (field (.ref it) 1 >>= _) _ _ s from wpAny_bind (wpAny_field e d (x:=.int i 0) rfl ?_))
 refine (show wpAny _ _ (seqItems? (.ref a) >>= _) _ _ s from wpAny_bind (wpAny_seqItems ea da ?_))
 simp only [Int.toNat_natCast,hx]
 refine wpAny_bind (wpAny_rule (wpAny_bind (wpAny_setField e d (by simp) (show wpAny _ _ (newExc (.type "StopIteration") [] >>= _) _ _ _ from wpAny_bind ?_))))
 simp only [newExc,newTuple]
 refine wpAny_bind (wpAny_newObj_type (wpAny_bind (m:=firstArgMember _ _) (wpAny_of_eq (a:=Value.none) (by first | rfl | (simp only [firstArgMember]; rfl)) (wpAny_newObj_type ?_ (by size_fits)))) (by size_fits))
 simp only [raiseNew]
 refine wpAny_bind (wpAny_handled ?_)
 first | rw [show A.in1.handled=none from hh] | rw [hh]
 exact wpAny_bind (wpAny_pure (wpAny_throw (q _ _ (((Heap.SameBut.update ..).extBut.push _).push _) ⟨_,Heap.get?_push_size _ rfl,rfl⟩)))
theorem RG {z TI TO i1 i2 a1 a2:Addr} {k:Nat} {xs ys:Array Value} {x y a b:Value} {Q:Value->Shared->Prop} (D:ZipApart z TI TO i1 i2 a1 a2)
  (hz:IsZip s.heap z TI TO .none) (hI:IsPair s.heap TI (.ref i1) (.ref i2)) (hO:IsPair s.heap TO a b)
  (j1:s.heap.IsTupleIter i1 a1 k) (j2:s.heap.IsTupleIter i2 a2 k) (t1:s.heap.IsTuple a1 xs) (t2:s.heap.IsTuple a2 ys) (hx:xs[k]? = some x) (hy:ys[k]? = some y)
  (q:∀ h',IsZip h' z TI TO (rawInt s.heap.objs.size)->IsPair h' TO x y->h'.IsTupleIter i1 a1 (k+1)->h'.IsTupleIter i2 a2 (k+1)->IsPair h' s.heap.objs.size x y->h'.objs.size=s.heap.objs.size+1 ->
   (∀ c o,c ≠ z->c ≠ TO->c ≠ i1->c ≠ i2->s.heap.get? c=some o->h'.get? c=some o)->Q (.ref s.heap.objs.size) { s with heap:=h' }) :
  wpAny (model prog w) A (Builtin.«zip.__next__» ⟨[.ref z],[]⟩) (fun fin s'=>∃ v,fin=.done (.ret v)/\Q v s') E s:=by
 refine (show wpAny _ _ (field (.ref z) 2 >>= _) _ _ _ from wpAny_bind (wpAny_field hz rfl (x:=.bool false) rfl (show wpAny _ _ (field (.ref z) 3 >>= _) _ _ _ from wpAny_bind (wpAny_field hz rfl (x:=.ref TI) rfl (wpAny_bind (wpAny_seqItems hI rfl ?_))))))
 refine (show wpAny _ _ (Builtin.SmallTypes.ownedTupleIsFree (.ref z) >>= _) _ _ _ from wpAny_bind ?_)
 unfold Builtin.SmallTypes.ownedTupleIsFree
 refine wpAny_bind (wpAny_field hz rfl (x:=.none) rfl (wpAny_pure ?_))
 simp only [if_true]
 refine wpAny_bind (wpAny_rule (wpAny_bind (wpAny_field hz rfl (x:=.ref TO) rfl (wpAny_bind (wpAny_setField_rec hz (by simp) fun h1 z1 s1=>?_)))))
 have y1:IsZip h1 z TI TO .ellipsis:=z1
 refine wpAny_bind ?_
 simp only [List.zipIdx_cons,List.zipIdx_nil,List.forIn_cons,List.forIn_nil]
 refine wpAny_bind (wpAny_bind (wpAny_onRaise (show wpAny _ _ (Builtin.SmallTypes.nextOf (.ref i1) >>= _) _ _ _ from wpAny_bind (Kf (j1.at fun o e=>s1.extBut _ _ D.i1z e) (t1.at fun o e=>s1.extBut _ _ D.l1z e) hx fun h2 n1 s2=>wpAny_pure ?_))))
 have o2:IsPair h2 TO a b:=s2.extBut _ _ D.TOi1 (s1.extBut _ _ D.TOz hO)
 refine wpAny_bind (wpAny_seqItems o2 rfl (wpAny_bind (wpAny_updateSeq_pair o2 fun h3 p3 s3=>?_)))
 have o3:IsPair h3 TO x b:=p3
 refine wpAny_bind (wpAny_letGo (wpAny_pure ?_))
 refine wpAny_bind (wpAny_bind (wpAny_onRaise (show wpAny _ _ (Builtin.SmallTypes.nextOf (.ref i2) >>= _) _ _ _ from wpAny_bind (Kf (j2.at fun o e=>s3.extBut _ _ D.TOi2.symm (s2.extBut _ _ D.i12.symm (s1.extBut _ _ D.i2z e)))
  (t2.at fun o e=>s3.extBut _ _ D.l2TO (s2.extBut _ _ D.l2i1 (s1.extBut _ _ D.l2z e))) hy fun h4 n2 s4=>wpAny_pure ?_))))
 have o4:IsPair h4 TO x b:=s4.extBut _ _ D.TOi2 o3
 refine wpAny_bind (wpAny_seqItems o4 rfl (wpAny_bind (wpAny_updateSeq_pair o4 fun h5 p5 s5=>?_)))
 have o5:IsPair h5 TO x y:=p5
 refine wpAny_bind (wpAny_letGo (wpAny_pure (wpAny_pure (wpAny_bind (wpAny_seqItems o5 rfl (wpAny_bind (wpAny_newTuple ?_)))))))
 have zs:h5.objs.size=s.heap.objs.size:=by rw [s5.1,s4.1,s3.1,s2.1,s1.1]
 have y5:IsZip h5 z TI TO .ellipsis:=s5.extBut _ _ D.TOz.symm (s4.extBut _ _ D.i2z.symm (s3.extBut _ _ D.TOz.symm (s2.extBut _ _ D.i1z.symm y1)))
 have k5:∀ c o,c ≠ z->c ≠ TO->c ≠ i1->c ≠ i2->s.heap.get? c=some o->h5.get? c=some o:=fun c o c1 c2 c3 c4 e=>s5.extBut _ _ c2 (s4.extBut _ _ c4 (s3.extBut _ _ c2 (s2.extBut _ _ c3 (s1.extBut _ _ c1 e))))
 have m1:h5.IsTupleIter i1 a1 (k+1):=n1.at fun o e=>s5.extBut _ _ D.TOi1.symm (s4.extBut _ _ D.i12 (s3.extBut _ _ D.TOi1.symm e))
 have m2:h5.IsTupleIter i2 a2 (k+1):=n2.at fun o e=>s5.extBut _ _ D.TOi2.symm e
 have lz:z<h5.objs.size:=Heap.lt_size y5
 refine (show wpAny _ _ (Builtin.SmallTypes.ownedTupleHandOut (.ref z) (.ref h5.objs.size) >>= _) _ _ _ from wpAny_bind ?_)
 unfold Builtin.SmallTypes.ownedTupleHandOut
 have y6:IsZip (h5.push { cls:=.type "tuple",data:=.seq #[x,y] }) z TI TO .ellipsis:=Heap.get?_push_of_some _ y5
 refine wpAny_bind (wpAny_setField_rec y6 (by simp) fun h7 p7 s7=>?_)
 have y7:IsZip h7 z TI TO (rawInt h5.objs.size):=p7
 refine wpAny_setField_rec y7 (by simp) fun h8 p8 s8=>?_
 have y8:IsZip h8 z TI TO (rawInt h5.objs.size):=p8
 have up:∀ c o,c ≠ z->h5.get? c=some o->h8.get? c=some o:=fun c o c1 e=>s8.extBut _ _ c1 (s7.extBut _ _ c1 (Heap.get?_push_of_some _ e))
 have t8:IsPair h8 h5.objs.size x y:=s8.extBut _ _ (gx lz) (s7.extBut _ _ (gx lz) (Heap.get?_push_size _ rfl))
 have z8:h8.objs.size=h5.objs.size+1:=by rw [s8.1,s7.1,Heap.size_push]
 rw [zs] at y8 t8 z8
 refine wpAny_pure ⟨_,rfl,?_⟩
 show Q (.ref h5.objs.size) _
 rw [zs]
 exact q h8 y8 (up _ _ D.TOz o5) (m1.at fun o e=>up _ o D.i1z e) (m2.at fun o e=>up _ o D.i2z e) t8 z8 fun c o c1 c2 c3 c4 e=>up c o c1 (k5 c o c1 c2 c3 c4 e)
theorem VB {z TI TO i1 i2 a1 a2:Addr} {k:Nat} {xs:Array Value} {a b:Value} {Q:Fin->Shared->Prop} (hh:A.handled=none) (D:ZipApart z TI TO i1 i2 a1 a2)
  (hz:IsZip s.heap z TI TO .none) (hI:IsPair s.heap TI (.ref i1) (.ref i2)) (hO:IsPair s.heap TO a b)
  (j1:s.heap.IsTupleIter i1 a1 k) (t1:s.heap.IsTuple a1 xs) (hx:xs[k]? = none)
  (q:∀ h' e,(∀ c o,c ≠ z->c ≠ TO->c ≠ i1->c ≠ i2->s.heap.get? c=some o->h'.get? c=some o)->(∃ o,h'.get? e=some o/\o.cls=.type "StopIteration")->E (.ref e) { s with heap:=h' }) :
  wpAny (model prog w) A (Builtin.«zip.__next__» ⟨[.ref z],[]⟩) Q E s:=by
 refine (show wpAny _ _ (field (.ref z) 2 >>= _) _ _ _ from wpAny_bind (wpAny_field hz rfl (x:=.bool false) rfl (show wpAny _ _ (field (.ref z) 3 >>= _) _ _ _ from wpAny_bind (wpAny_field hz rfl (x:=.ref TI) rfl (wpAny_bind (wpAny_seqItems hI rfl ?_))))))
 refine (show wpAny _ _ (Builtin.SmallTypes.ownedTupleIsFree (.ref z) >>= _) _ _ _ from wpAny_bind ?_)
 unfold Builtin.SmallTypes.ownedTupleIsFree
 refine wpAny_bind (wpAny_field hz rfl (x:=.none) rfl (wpAny_pure ?_))
 simp only [if_true]
 refine wpAny_bind (wpAny_rule (wpAny_bind (wpAny_field hz rfl (x:=.ref TO) rfl (wpAny_bind (wpAny_setField_rec hz (by simp) fun h1 z1 s1=>?_)))))
 have y1:IsZip h1 z TI TO .ellipsis:=z1
 refine wpAny_bind ?_
 simp only [List.zipIdx_cons,List.zipIdx_nil,List.forIn_cons,List.forIn_nil]
 refine wpAny_bind (wpAny_bind (wpAny_onRaise (show wpAny _ _ (Builtin.SmallTypes.nextOf (.ref i1) >>= _) _ _ _ from wpAny_bind (KN hh (j1.at fun o e=>s1.extBut _ _ D.i1z e) (t1.at fun o e=>s1.extBut _ _ D.l1z e) hx fun h2 x s2 hx2=>?_))))
 obtain ⟨ox,ex,cx⟩:=hx2
 have y2:IsZip h2 z TI TO .ellipsis:=s2 _ _ D.i1z.symm y1
 have nz:x ≠ z:=fun u=>by subst u; rw [y2] at ex; cases ex; simp at cx
 exact wpAny_setField_rec y2 (by simp) fun h3 _ s3=>q h3 x (fun c o c1 _ c3 _ e=>s3.extBut _ _ c1 (s2 _ _ c3 (s1.extBut _ _ c1 e))) ⟨ox,s3.extBut _ _ nz ex,cx⟩
end
noncomputable abbrev fX (h:Heap) (a1:Addr):Heap:=h.push { cls:=.type "tuple_iterator",data:=.fields #[.ref a1,.int 0 0] }
noncomputable abbrev gA (h:Heap) (a1 a2:Addr):Heap:=(fX h a1).push { cls:=.type "tuple_iterator",data:=.fields #[.ref a2,.int 0 0] }
noncomputable abbrev fK (h:Heap) (a1 a2:Addr):Heap:=(gA h a1 a2).push { cls:=.type "tuple",data:=.seq #[.ref h.objs.size,.ref (fX h a1).objs.size] }
noncomputable abbrev fW (h:Heap) (a1 a2:Addr):Heap:=(fK h a1 a2).push { cls:=.type "tuple",data:=.seq #[.none,.none] }
noncomputable abbrev Y0 (h:Heap) (a1 a2:Addr):Heap:=(fW h a1 a2).push { cls:=.type "zip",data:=.fields #[.none,.bool false,.bool false,.ref (gA h a1 a2).objs.size,.ref (fK h a1 a2).objs.size] }
theorem SJ (a1 a2:Addr) (xs ys:Array Value):Meets (Builtin.«zip.__new__» ⟨[.type "zip",.ref a1,.ref a2],[]⟩) (fun _ R s=>s.heap.IsTuple a1 xs/\s.heap.IsTuple a2 ys /\
   R (.ok (.ret (.ref (fW s.heap a1 a2).objs.size))) { s with heap:=Y0 s.heap a1 a2 }) :=
 .of_wp fun prog w A R s h=>by
  obtain ⟨hp,g,d,tk,os⟩:=s
  obtain ⟨t1,t2,h⟩:=h
  have hsub:=sub_zip
  have u1:Heap.IsTuple (Shared.heap ⟨hp,g,d,tk,os⟩) a1 xs:=t1
  have u2:Heap.IsTuple (Shared.heap ⟨hp.push { cls:=.type "tuple_iterator",data:=.fields #[.ref a1,.int 0 0] },g,d,tk,os⟩) a2 ys:=Heap.IsTuple.at t2 fun o e=>Heap.get?_push_of_some _ e
  wp_walk using wpAny_pyIter_tuple u1,wpAny_pyIter_tuple u2
  exact ⟨_,rfl,h⟩
section
variable {prog:Program} {w:World} {A:Around} {E:Value->Shared->Prop} {s:Shared}
theorem RP {a1 a2:Addr} {xs ys:Array Value} {Q:Value->Shared->Prop} (t1:s.heap.IsTuple a1 xs) (t2:s.heap.IsTuple a2 ys)
  (q:∀ h' n,n=s.heap.objs.size->IsZip h' (n+4) (n+2) (n+3) .none->IsPair h' (n+2) (.ref n) (.ref (n+1))->IsPair h' (n+3) .none .none->h'.IsTupleIter n a1 0->h'.IsTupleIter (n+1) a2 0->h'.objs.size=n+5 ->
   (∀ c o,s.heap.get? c=some o->h'.get? c=some o)->Q (.ref (n+4)) { s with heap:=h' }):wpAny (model prog w) A (call (.type "zip") [.ref a1,.ref a2]) Q E s:=by
 refine callType_new F.called_zip (by decide) (F.typeCall_zip_2 _ _) (F.newCall_zip_2 _ _) (fun obj=>F.args_object_init_3 obj _ _) F.entry_zip_new (SJ a1 a2 xs ys) ⟨t1,t2,?_⟩
 have z1:(fX s.heap a1).objs.size=s.heap.objs.size+1:=Heap.size_push ..
 have z2:(gA s.heap a1 a2).objs.size=s.heap.objs.size+2:=by rw [Heap.size_push,z1]
 have z3:(fK s.heap a1 a2).objs.size=s.heap.objs.size+3:=by rw [Heap.size_push,z2]
 have z4:(fW s.heap a1 a2).objs.size=s.heap.objs.size+4:=by rw [Heap.size_push,z3]
 have z5:(Y0 s.heap a1 a2).objs.size=s.heap.objs.size+5:=by rw [Heap.size_push,z4]
 have g5:(Y0 s.heap a1 a2).get? (fW s.heap a1 a2).objs.size=some _:=Heap.get?_push_size _ rfl
 have g4:(Y0 s.heap a1 a2).get? (fK s.heap a1 a2).objs.size=some _:=Heap.get?_push_of_some _ (Heap.get?_push_size _ rfl)
 have g3:(Y0 s.heap a1 a2).get? (gA s.heap a1 a2).objs.size=some _:=Heap.get?_push_of_some _ (Heap.get?_push_of_some _ (Heap.get?_push_size _ rfl))
 have g2:(Y0 s.heap a1 a2).get? (fX s.heap a1).objs.size=some _:=Heap.get?_push_of_some _ (Heap.get?_push_of_some _ (Heap.get?_push_of_some _ (Heap.get?_push_size _ rfl)))
 have g1:(Y0 s.heap a1 a2).get? s.heap.objs.size=some _:=Heap.get?_push_of_some _ (Heap.get?_push_of_some _ (Heap.get?_push_of_some _ (Heap.get?_push_of_some _ (Heap.get?_push_size _ rfl))))
 refine (show _/\_ from ?_)
 rw [z2,z3,z4] at g5
 rw [z1,z2] at g3
 rw [z3] at g4
 rw [z1] at g2
 rw [z4]
 exact ⟨⟨_,g5,rfl⟩,q _ _ rfl g5 g3 g4 ⟨_,g1,rfl,rfl⟩ ⟨_,g2,rfl,rfl⟩ z5 fun c o e=>Heap.get?_push_of_some _ (Heap.get?_push_of_some _ (Heap.get?_push_of_some _ (Heap.get?_push_of_some _ (Heap.get?_push_of_some _ e))))⟩
end
end L2
namespace L2
open PySem PySem.Spec PyProof.Rows
noncomputable def De (env:Env):List (Str × NameKind)->List (Str × Addr)->List (Str × Addr)
 | [],acc=>acc
 | (n,k)::r,acc=>if k == .free then (match env.cells.lookup n with | some a=>De env r ((n,a)::acc) | none=>De env r acc) else De env r acc
theorem IW {scope:Scope} {env:Env} (h:∀ y∈scope.names,y.2=.free->∃ c,env.cells.lookup y.1=some c):closureFor scope env=pure (De env scope.names []):=by
 unfold closureFor
 have key:∀ (l:List (Str × NameKind)) (acc:List (Str × Addr)),(∀ y∈l,y.2=.free->∃ c,env.cells.lookup y.1=some c) ->
   (forIn l acc fun (x:Str × NameKind) (cs:List (Str × Addr))=>(match x with | (name,kind)=>if (kind == NameKind.free)=true then (do let a ← cellOf env name; pure (ForInStep.yield ((name,a)::cs))) else pure (ForInStep.yield cs):Sem (ForInStep (List (Str × Addr)))))=(pure (De env l acc):Sem _):=by
  intro l
  induction l with
  | nil=>intro acc _; rfl
  | cons x r ih =>
   intro acc hl
   obtain ⟨n,k⟩:=x
   rw [List.forIn_cons]
   unfold De
   by_cases hk:(k == NameKind.free)=true
   ·obtain ⟨c,hc⟩:=hl (n,k) List.mem_cons_self (by simpa using hk)
    have hc':env.cells.lookup n=some c:=hc
    have e:cellOf env n=pure c:=by unfold cellOf; rw [hc']
    simp only [hk,if_true,e,hc']
    exact ih _ fun y hy=>hl y (bg _ hy)
   ·simp only [hk]
    exact ih _ fun y hy=>hl y (bg _ hy)
 have:=key scope.names [] h
 exact (congrArg (fun (m:Sem (List (Str × Addr)))=>m >>= fun z=>pure z) this).trans rfl
theorem Gb (env:Env):∀ (l:List (Str × NameKind)) (acc:List (Str × Addr)) (y:Str) (c:Addr),(De env l acc).lookup y=some c->acc.lookup y=some c \/ env.cells.lookup y=some c
 | [],_,_,_,h=>.inl h
 | (n,k)::r,acc,y,c,h=>by
  unfold De at h
  split at h
  ·split at h
   ·rename_i a ha
    rcases Gb env r _ y c h with z | z
    ·rw [gp] at z
     split at z
     ·rename_i e
      cases z
      have e':y=n:=by simpa using e
      subst e'
      exact .inr ha
     ·exact .inl z
    ·exact .inr z
   ·exact Gb env r _ y c h
  ·exact Gb env r _ y c h
theorem HQ (env:Env):∀ (l:List (Str × NameKind)) (acc:List (Str × Addr)) (y:Str),(acc.lookup y).isSome=true->((De env l acc).lookup y).isSome=true
 | [],_,_,h=>h
 | (n,k)::r,acc,y,h=>by
  unfold De
  split
  ·split
   ·refine HQ env r _ y ?_
    rw [gp]
    split
    ·rfl
    ·exact h
   ·exact HQ env r _ y h
  ·exact HQ env r _ y h
theorem Es (env:Env):∀ (l:List (Str × NameKind)) (acc:List (Str × Addr)) (y:Str),(y,NameKind.free)∈l->(env.cells.lookup y).isSome=true->((De env l acc).lookup y).isSome=true
 | [],_,_,h,_=>nomatch h
 | (n,k)::r,acc,y,h,hc=>by
  unfold De
  rcases cm.mp h with e | h
  ·obtain ⟨e1,e2⟩:=Prod.mk.inj e
   subst e1
   subst e2
   rw [if_pos (by decide)]
   split
   ·refine HQ env r _ y ?_
    rw [gp]
    simp
   ·rename_i e
    rw [e] at hc
    cases hc
  ·split
   ·split
    ·exact Es env r _ y h hc
    ·exact Es env r _ y h hc
   ·exact Es env r _ y h hc
end L2
namespace L2
open PySem PySem.Spec PyProof.Rows
noncomputable def Hj (x:Str) (N:List Str):List Str:=N.map fun y=>if y=x then "" else y
noncomputable def Cg (X:Cx) (x:Str) (scope:Scope) (C:Addr) (s₀:Shared) (H₀:Hp) (fp:List Addr):Cx where
 prog:=X.prog
 w:=X.w
 K:=X.K
 mg:=X.mg
 base:=X.base
 A:=X.A
 N:=x::Hj x X.N
 s₀:=s₀
 H₀:=H₀
 env:=compEnvC scope (De X.env scope.names []) C X.env
 outer:=X.stack
 stack:=X.stack
 ex:=fp
 fn:=fun _=>false
 calm:=X.calm
 pn:=[]
 xe:=fun _ _=>False
theorem Ff (env:Env) (y:Str):∀ names:List (Str × NameKind),
  (names.map fun (n,k)=>if (k == NameKind.free && env.scope.kind == .function && env.kindOf n == some .cell) then (n,NameKind.cell) else (n,k)).lookup y =
   (names.lookup y).map fun k=>if (k == NameKind.free && env.scope.kind == .function && env.kindOf y == some .cell) then NameKind.cell else k
 | []=>rfl
 | (n,k)::r=>by
  have ih:=Ff env y r
  rw [cK]
  show List.lookup y ((if (k == NameKind.free && env.scope.kind == .function && env.kindOf n == some .cell)=true then (n,NameKind.cell) else (n,k))::_)=_
  have e0:(if (k == NameKind.free && env.scope.kind == .function && env.kindOf n == some .cell)=true then (n,NameKind.cell) else (n,k))=(n,if (k == NameKind.free && env.scope.kind == .function && env.kindOf n == some .cell)=true then NameKind.cell else k):=by split <;> rfl
  rw [e0,gp,gp]
  cases hx:y == n with
  | true =>
   have e:y=n:=by simpa using hx
   subst e
   rfl
  | false=>exact ih
structure GQ (X:Cx) (x:Str) (scope:Scope):Prop where
 kind:scope.kind=.function
 nocell:∀ y∈scope.names,y.2 ≠ .cell
 names:∀ y∈scope.names,y.2=.local->scope.names.lookup y.1=some .local
 loc:scope.names.lookup x=some .local
 free:∀ y∈scope.names,y.2=.free->X.env.kindOf y.1=some .cell \/ X.env.kindOf y.1=some .free
 nd:(x::Hj x X.N).Nodup
 only:∀ y∈Hj x X.N,scope.names.lookup y ≠ some .local
 noE:scope.names.lookup ("" : Str)=none
section
variable {X:Cx} {pins:List (Addr × Obj)} {σ:St} {H:Hp} {s:Shared} {x:Str} {scope:Scope} {fp:List Addr} {C:Addr}
theorem O9 {h':Heap} {tk:Nat} {m:Str->Option Value} (I:Inv X pins σ H s) (S:GQ X x scope) (hf:∀ b∈fp,Gf X pins H b) (hlt:∀ b∈fp,b<s.heap.objs.size) (hC:s.heap.objs.size<=C) (hn:h'.Ns C m)
  (hk:∀ b o,s.heap.get? b=some o->h'.get? b=some o):Inv (Cg X x scope C s H fp) [] (none::σ) H { s with heap:=h',toks:=tk }:=by
 have cl:∀ y c,(De X.env scope.names []).lookup y=some c->X.env.cells.lookup y=some c:=fun y c e=>by
  rcases Gb X.env scope.names [] y c e with z | z
  ·cases z
  ·exact z
 have cellK:∀ c v,s.heap.IsCell c v->h'.IsCell c v:=fun c v ⟨o,ho,hd⟩=>⟨o,hk c o ho,hd⟩
 have look:∀ y,(Cg X x scope C s H fp).env.scope.names.lookup y=(scope.names.lookup y).map fun k=>if (k == NameKind.free && X.env.scope.kind == .function && X.env.kindOf y == some .cell) then NameKind.cell else k:=fun y=>Ff X.env y scope.names
 refine ⟨⟨I.ok.mod,S.kind,I.ok.glob,I.ok.blt,hC,fun y z c e1 e2=>I.ok.inj y z c (cl y c e1) (cl z c e2),fun y hy=>?_,fun y c e _=>(by cases e),fun h=>I.ok.hd h,I.ok.frames,.inl rfl,fun b hb=>?_,I.bs,bi I.ok.bsz I.sz,fun b o e hb=>?_,fun b hb hb'=>?_,I.stack,I.HH⟩,
  rfl,I.bare,Un.kept hk,⟨m,hn,fun i y v h1 h2 h3=>?_⟩,fun y c e=>?_,I.hok.fresh hC,fun y c e=>I.freeC y c (cl y c e),fun p hp=>absurd (show p∈([]:List (Addr × Obj)) from hp) (by simp),I.hok.kept hk,?_⟩
 ·-- every cell of the block is there
  have hy':(Cg X x scope C s H fp).env.scope.names.lookup y=some .cell \/ (Cg X x scope C s H fp).env.scope.names.lookup y=some .free:=hy
  rw [look y] at hy'
  cases e:scope.names.lookup y with
  | none=>rw [e] at hy'; rcases hy' with z | z <;> cases z
  | some k =>
   have hm:=PySem.mem_of_lookup e
   have hfree:k=.free:=by
    rw [e] at hy'
    cases k with
    | free=>rfl
    | cell=>exact absurd rfl (S.nocell _ hm)
    | _=>rcases hy' with z | z <;> simp at z
   subst hfree
   obtain ⟨c,hc⟩:=I.ok.has y (S.free _ hm rfl)
   exact dA.mp (Es X.env scope.names [] y hm (by rw [hc]; rfl))
 ·obtain ⟨f0,f1,f2,f3,f4,f5⟩:=hf b hb
  exact ⟨bp (ay (hlt b hb) hC),fun y c e=>f4 y c (cl y c e)⟩
 ·obtain ⟨f0,f1,f2,f3,f4,f5⟩:=hf b hb
  rcases f3 with z | z
  ·exact I.ok.noex b o e z
  ·exact absurd (ay (Heap.lt_size e) (bi I.ok.bsz z)) (et _)
 ·obtain ⟨f0,f1,f2,f3,f4,f5⟩:=hf b hb
  rcases cm.mp (I.Lr b hb') with e | e
  ·exact f1 e
  ·exact f2 e
 ·cases i with
  | zero =>
   have h2':(some none:Option (Option V))=some (some v):=h2
   cases h2'
  | succ i =>
   have h1':(Hj x X.N)[i]? = some y:=h1
   have h2':σ[i]? = some (some v):=h2
   have hmem:y∈Hj x X.N:=al h1'
   unfold Hj at h1'
   rw [bo] at h1'
   cases e0:X.N[i]? with
   | none=>rw [e0] at h1'; cases h1'
   | some y0 =>
    rw [e0] at h1'
    have h1'':(if y0=x then ("" : Str) else y0)=y:=Option.some.inj h1'
    have h3':(Cg X x scope C s H fp).env.scope.names.lookup y=some .local \/ (Cg X x scope C s H fp).env.scope.names.lookup y=some .cell \/ (Cg X x scope C s H fp).env.scope.names.lookup y=some .free:=h3
    rw [look y] at h3'
    have hy0:y0=y:=by
     by_cases q:y0=x
     ·rw [if_pos q] at h1''
      rw [← h1'',S.noE] at h3'
      rcases h3' with z | z | z <;> cases z
     ·rw [if_neg q] at h1''
      exact h1''
    subst hy0
    cases e:scope.names.lookup y0 with
    | none=>rw [e] at h3'; rcases h3' with z | z | z <;> cases z
    | some k =>
     have hm:=PySem.mem_of_lookup e
     have hfree:k=.free:=by
      rw [e] at h3'
      cases k with
      | free=>rfl
      | cell=>exact absurd rfl (S.nocell _ hm)
      | «local»=>exact absurd e (S.only y0 hmem)
      | _=>rcases h3' with z | z | z <;> simp at z
     subst hfree
     have kd:=S.free _ hm rfl
     obtain ⟨m0,hn0,hl0⟩:=I.loc
     obtain ⟨u,r,l⟩:=hl0 i y0 v e0 h2' (by rcases kd with z | z; exact .inr (.inl z); exact .inr (.inr z))
     refine ⟨u,r,.inr ⟨?_,?_⟩⟩
     ·have hk':(Cg X x scope C s H fp).env.scope.names.lookup y0=some (if (NameKind.free == NameKind.free && X.env.scope.kind == .function && X.env.kindOf y0 == some .cell) then NameKind.cell else NameKind.free):=by
       rw [look y0,e]; rfl
      by_cases c:(NameKind.free == NameKind.free && X.env.scope.kind == .function && X.env.kindOf y0 == some .cell)=true
      ·rw [if_pos c] at hk'; exact .inl hk'
      ·rw [if_neg c] at hk'; exact .inr hk'
     ·rcases l with ⟨lk,_⟩ | ⟨_,c,hc,hcell⟩
      ·exfalso
       rcases kd with z | z <;> (rw [show X.env.kindOf y0=some NameKind.local from lk] at z; cases z)
      ·obtain ⟨c',hc'⟩:=dA.mp (Es X.env scope.names [] y0 hm (by rw [hc]; rfl))
       have:=cl y0 c' hc'
       rw [hc] at this
       cases this
       exact ⟨c,hc',cellK c _ hcell⟩
 ·obtain ⟨v,z⟩:=I.cell y c (cl y c e)
  exact ⟨v,cellK c v z⟩
 ·show (none::σ).length=(x::Hj x X.N).length
  simp [Hj,I.len]
end
noncomputable def Nb (X:Cx) (ifs:List Expr) (t:TT):Prop :=
 ∀ (pins:List (Addr × Obj)) (s:Shared) (σ:St) (H:Hp) (Q:Bool->Hp->Prop),Inv X pins σ H s->t σ H Q ->
  wpAny (model X.prog X.w) X.A (forIn ifs true fun c r=>if r=true then do let ok ← isTrue c X.env (eval c X.env); pure (ForInStep.yield ok) else pure (ForInStep.yield r)) (TP X pins σ Q) X.xe s
noncomputable def V7:TT:=fun _ H Q=>Q true H
theorem Ce {X:Cx}:Nb X [] V7:=fun _ _ _ H _ I h=>wpAny_tests_nil ⟨H,I,h⟩
theorem Mq {X:Cx} {c:Expr} {t:TT} (h:PT X c t):Nb X [c] t:=fun pins s σ H Q I q=>wpAny_tests_one (h pins s σ H Q I q)
noncomputable def Gg (J:It) (σ:St) (H1:Hp) (Q:VK) (tt:TT) (te:TE):Prop:=∀ D,H1 D=none->∃ W:Nat->Nat->List V->Hp->Prop,(∃ m,W 0 m [] (upd H1 D (.lst [])))/\∀ i m ys H2,W i m ys H2 ->
 (J.stop i H2/\Q (.ref D) H2) \/ (J.go i H2/\∀ x H3,J.yld i H2 x H3->tt (some x::σ) H3 fun b H4 =>
  if b=true then te (some x::σ) H4 fun y H5=>H5 D=some (.lst ys)/\ys.length<sizeLine/\∃ m',m'<m/\W (i+1) m' (ys++[y]) (upd H5 D (.lst (ys++[y])))
  else ∃ m',m'<m/\W (i+1) m' ys H4)
noncomputable def Wz (wi:TI) (tt:TT) (te:TE):TE:=fun σ H Q=>wi σ H fun J H1=>Gg J σ H1 Q tt te
theorem O1 {α:Type} {t:Sem α} {Q Q':α->Shared->Prop} {M:Model} {A:Around} {E:Value->Shared->Prop} {s:Shared} (h:wpAny M A t Q (fun _ _=>False) s) (hQ:∀ a s,Q a s->Q' a s):wpAny M A t Q' E s:=wpAny_mono h hQ fun _ _ x=>x.elim
theorem Inv.sameBut {X:Cx} {pins:List (Addr × Obj)} {σ:St} {H:Hp} {s:Shared} {h':Heap} {C:Addr} (I:Inv X pins σ H s) (f:Gf X pins H C) (sb:Heap.SameBut C s.heap h'):Inv X pins σ H { s with heap:=h' } :=
 I.turned (t':=s.toks) (fun b o hb e=>(sb.2 b hb).trans e) f.1 f.2.1 f.2.2.2.1 f.2.2.2.2.1 f.2.2.2.2.2
section
variable {X:Cx} {x:Str} {scope:Scope}
theorem Kl {px pos:Pos} {iter elt:Expr} {ifs:List Expr} {tt:TT} {te:TE} {pins:List (Addr × Obj)} {σ:St} {s2:Shared} {H2:Hp} {it:Addr} {fp:List Addr} {tn:Nat->Heap->Prop} {J:It} {E:Value->Shared->Prop}
  {RR:Value->Addr->Result->Shared->Prop} {Q:VK}
  (hc:X.calm=true) (S:GQ X x scope) (ht:∀ C s₀ H₀ fp,Nb (Cg X x scope C s₀ H₀ fp) ifs tt) (he:∀ C s₀ H₀ fp,PE (Cg X x scope C s₀ H₀ fp) elt te)
  (I2:Inv X pins σ H2 s2) (T:Turn X.prog X.w X.K (.Name x px) J fp it tn) (st2:tn 0 s2.heap) (f2:∀ b∈fp,Gf X pins H2 b)
  (q:∀ D,H2 D=none->∃ W:Nat->Nat->List V->Hp->Prop,(∃ m,W 0 m [] (upd H2 D (.lst [])))/\∀ i m ys H2,W i m ys H2 ->
   (J.stop i H2/\Q (.ref D) H2) \/ (J.go i H2/\∀ x H3,J.yld i H2 x H3->tt (some x::σ) H3 fun b H4 =>
    if b=true then te (some x::σ) H4 fun y H5=>H5 D=some (.lst ys)/\ys.length<sizeLine/\∃ m',m'<m/\W (i+1) m' (ys++[y]) (upd H5 D (.lst (ys++[y])))
    else ∃ m',m'<m/\W (i+1) m' ys H4))
  (hRR:∀ D C s' H' m,s'.heap.Ns C m->Gf X pins H' C->Inv X pins σ H' s'->Q (.ref D) H'->RR (.ref D) C (.ok .next) s') :
  wpAny (model X.prog X.w) X.A (newList []) (fun acc s₃=>wpAny (model X.prog X.w) X.A (newFunctionEnv scope X.env.globals (De X.env scope.names []) [] X.env.qual none .none (some X.env)) (fun cenv s₄ =>
   codeAny (model X.prog X.w) X.A (.compStart (.ListComp elt [⟨.Name x px,iter,ifs,0⟩] scope pos) 0 (.ref it) acc { cenv with scope:=relabel scope X.env }) (RR acc cenv.locals) s₄) E s₃) E s2:=by
 refine wpAny_newObj_type (wpAny_newFunctionEnv S.nocell (by intro y hy; simp at hy) (fun h₁ hns₁ hsb₁=>?_) S.kind)
 have I3:=I2.Vm (its:=[]) (ys:=[]) (t':=s2.toks) .nil (dL _)
 have hD0:H2 s2.heap.objs.size=none:=I2.fresh
 obtain ⟨W,⟨m0,w0⟩,turn⟩:=q _ hD0
 generalize hs3:({ s2 with heap:=s2.heap.push { cls:=.type "list",data:=.seq ([]:List Value).toArray },toks:=s2.toks }:Shared)=s3 at I3
 have e3:s3.heap=s2.heap.push { cls:=.type "list",data:=.seq ([]:List Value).toArray }:=by rw [← hs3]
 have hlt:∀ b∈fp,b<s2.heap.objs.size:=fun b hb=>let ⟨_,e,_⟩:=T.obj _ _ st2 b hb; Heap.lt_size e
 have hlt3:∀ b∈fp,b<s3.heap.objs.size:=fun b hb=>by rw [e3,Heap.size_push]; exact gT (hlt b hb)
 have f3:∀ b∈fp,Gf X pins (upd H2 s2.heap.objs.size (.lst [])) b:=fun b hb=>⟨by rw [Aq (bp (hlt b hb))]; exact (f2 b hb).1,(f2 b hb).2⟩
 have hk1:∀ b o,s3.heap.get? b=some o->h₁.get? b=some o:=fun b o e=>by
  have hne:b ≠ s3.heap.objs.size:=bp (Heap.lt_size e)
  rw [e3] at e hne
  exact hsb₁.extBut b o hne (Heap.get?_push_of_some _ e)
 have hC:s3.heap.objs.size=(s2.heap.push { cls:=.type "list",data:=.seq ([]:List Value).toArray }).objs.size:=by rw [e3]
 have hns:h₁.Ns s3.heap.objs.size (fun x=>([]:List (Str × Value)).reverse.lookup x):=by rw [hC]; exact hns₁
 have st3:tn 0 h₁:=T.keep _ _ _ st2 fun b hb o e=>hk1 b o (by rw [e3]; exact Heap.get?_push_of_some _ e)
 have hDC:s2.heap.objs.size ≠ s3.heap.objs.size:=by rw [e3,Heap.size_push]; exact bp (gg _)
 have start:∀ tk,Inv (Cg X x scope s3.heap.objs.size s3 (upd H2 s2.heap.objs.size (.lst [])) fp) [] (none::σ) (upd H2 s2.heap.objs.size (.lst [])) { s3 with heap:=h₁,toks:=tk }:=fun tk =>
  O9 I3 S f3 hlt3 (am _) hns hk1
 generalize hX:Cg X x scope s3.heap.objs.size s3 (upd H2 s2.heap.objs.size (.lst [])) fp=X' at start
 have eA:X'.A=X.A:=by rw [← hX]; rfl
 have eP:X'.prog=X.prog:=by rw [← hX]; rfl
 have eW:X'.w=X.w:=by rw [← hX]; rfl
 have eK:X'.K=X.K:=by rw [← hX]; rfl
 have eC:X'.env.locals=s3.heap.objs.size:=by rw [← hX]; rfl
 have loop:∀ tk,codeAny (model X.prog X.w) X.A (.compLoop (.ListComp elt [⟨.Name x px,iter,ifs,0⟩] scope pos) 0 (.ref it) (.ref s2.heap.objs.size) (compEnvC scope (De X.env scope.names []) s3.heap.objs.size X.env))
   (RR (.ref s2.heap.objs.size) s3.heap.objs.size) { s3 with heap:=h₁,toks:=tk }:=by
  intro tk
  subst hX
  refine codeAny_compLoop_tests (fun n s'=>∃ i ys v0 H',Inv (Cg X x scope s3.heap.objs.size s3 (upd H2 s2.heap.objs.size (.lst [])) fp) [] (v0::σ) H' s'/\tn i s'.heap/\(∀ b∈fp,H' b=none)/\W i n ys H') ?_ m0
   ⟨0,[],none,_,start tk,st3,fun b hb=>(f3 b hb).1,w0⟩
  rintro n s4 ⟨i,ys,v0,H4,I4,st4,fr4,w4⟩
  have stat:∀ {H':Hp},(∀ b∈fp,H' b=none)->∀ b∈fp,Gf (Cg X x scope s3.heap.objs.size s3 (upd H2 s2.heap.objs.size (.lst [])) fp) [] H' b:=fun hn b hb=>by
   refine ⟨hn b hb,(I4.ok.exf b hb).1,I4.ok.exfs b hb,.inl hb,(I4.ok.exf b hb).2,fun p hp=>absurd (show p∈([]:List (Addr × Obj)) from hp) (by simp)⟩
  rcases turn i n ys H4 w4 with ⟨stop,qn⟩ | ⟨go,step⟩
  ·refine Ci (T.done (Cg X x scope s3.heap.objs.size s3 (upd H2 s2.heap.objs.size (.lst [])) fp) rfl rfl rfl hc i [] s4 (v0::σ) H4 _ I4 (stat fr4) st4 stop) fun r s5 ⟨hr,I5⟩=>?_
   subst hr
   obtain ⟨m,hn,_⟩:=I5.loc
   refine hRR _ _ s5 H4 m hn (I3.Mx (am _) I5.free) (I3.call' (s':=s5) (ch:=fp) I5.os I5.base I5.hok I5.bare (fun b hb=>?_)) qn
   obtain ⟨_,g1,_,g3,g4,g5⟩:=f3 b hb
   exact ⟨g3,g1,g4,g5⟩
  ·refine Ci (T.item (Cg X x scope s3.heap.objs.size s3 (upd H2 s2.heap.objs.size (.lst [])) fp) rfl rfl rfl hc i [] s4 (v0::σ) H4 _ I4 (stat fr4) st4 go) fun r s5 ⟨u,hr,h5⟩=>?_
   subst hr
   intro Γ p hΓ
   obtain ⟨xv,H6,I6,r6,y6,st6,fr6⟩:=h5 Γ p hΓ
   refine (?_:wpAny _ _ _ _ _ _) Γ p hΓ
   have I6':=I6.pinned (stat fr6) (T.obj _ _ st6)
   have hloc:(Cg X x scope s3.heap.objs.size s3 (upd H2 s2.heap.objs.size (.lst [])) fp).env.scope.names.lookup x=some .local:=lookup_relabel_local S.loc
   have again:∀ {s7:Shared} {H7:Hp} {ys':List V},Inv (Cg X x scope s3.heap.objs.size s3 (upd H2 s2.heap.objs.size (.lst [])) fp) ([]++JK fp s5.heap) (some xv::σ) H7 s7->(∃ m',m'<n/\W (i+1) m' ys' H7) ->
     ∃ m,m<n/\∃ i ys v0 H',Inv (Cg X x scope s3.heap.objs.size s3 (upd H2 s2.heap.objs.size (.lst [])) fp) [] (v0::σ) H' s7/\tn i s7.heap/\(∀ b∈fp,H' b=none)/\W i m ys H':=fun {s7 H7 ys'} I7 hw=>by
    obtain ⟨m',hm,w7⟩:=hw
    refine ⟨m',hm,i+1,ys',some xv,H7,I7.HD,T.keep _ _ _ st6 fun b hb o e=>(I7.pin (b,o) (br _ (br _ (Et hb e)))).1,fun b hb=>?_,w7⟩
    obtain ⟨o,e,d⟩:=T.obj _ _ st6 b hb
    exact (I7.pin (b,o) (br _ (br _ (Et hb e)))).2.1
   refine wpAny_assign_Name (J_ (X:=Cg X x scope s3.heap.objs.size s3 (upd H2 s2.heap.objs.size (.lst [])) fp) (i:=0) I6' S.nd rfl (.inl hloc) r6 (fun s7 I7=>?_) (.inr hloc))
   refine O1 (ht _ _ _ _ _ s7 (some xv::σ) H6 _ I7 (step xv H6 y6)) fun b s8 hq0=>?_
   obtain ⟨H8,I8,q8⟩:=hq0
   cases b with
   | false =>
    rw [if_neg cr] at q8 ⊢
    exact again I8 q8
   | true =>
    rw [if_pos rfl] at q8 ⊢
    refine O1 (he _ _ _ _ _ s8 (some xv::σ) H8 _ I8 q8) fun y s9 hq0=>?_
    obtain ⟨yv,H9,I9,r9,hD9,hz9,q9⟩:=hq0
    refine O1 (CK (X:=Cg X x scope s3.heap.objs.size s3 (upd H2 s2.heap.objs.size (.lst [])) fp) _ s9 (some xv::σ) H9 (.ref s2.heap.objs.size) [yv] (.ref s2.heap.objs.size) [y] (fun _ H'=>H'=upd H9 s2.heap.objs.size (.lst (ys++[yv]))) I9 rfl (.cons r9 .nil)
     ⟨_,ys,yv,rfl,rfl,hD9,hz9,rfl⟩) fun _ s10 ⟨_,H10,I10,_,e10⟩=>?_
    subst e10
    exact again I10 q9
 have key:=fun tk=>codeAny_compStart_list (R:=RR (.ref s2.heap.objs.size) s3.heap.objs.size) (loop tk) (T.self X.A 0 { s3 with heap:=h₁,toks:=tk } (fun it' s'=>codeAny (model X.prog X.w) X.A (.compLoop (.ListComp elt [⟨.Name x px,iter,ifs,0⟩] scope pos) 0 it' (.ref s2.heap.objs.size) (compEnvC scope (De X.env scope.names []) s3.heap.objs.size X.env)) (RR (.ref s2.heap.objs.size) s3.heap.objs.size) s') _ st3 (loop tk))
 subst hs3
 exact key _
theorem Bx {px pos:Pos} {iter elt:Expr} {ifs:List Expr} {wi:TI} {tt:TT} {te:TE} (hc:X.calm=true) (S:GQ X x scope) (hi:PI X (.Name x px) iter wi)
  (ht:∀ C s₀ H₀ fp,Nb (Cg X x scope C s₀ H₀ fp) ifs tt) (he:∀ C s₀ H₀ fp,PE (Cg X x scope C s₀ H₀ fp) elt te) (hs:∀ x,foldedSetIterable iter X.env x=pure x:=by intro _; rfl) :
  PE X (.ListComp elt [⟨.Name x px,iter,ifs,0⟩] scope pos) (Wz wi tt te):=by
 intro pins s σ H Q I h
 rw [eval_ListComp]
 refine wpAny_comprehension_free (use:=none) (cl:=De X.env scope.names []) rfl hs (IW fun y hy hk=>I.ok.has y.1 (S.free y hy hk)) S.kind S.names (Ci (hi pins s σ H _ I h) fun v s1 h1=>Ci h1 fun itv s2 h2=>?_)
 obtain ⟨it,fp,tn,J,H2,e,I2,T,st2,f2,q⟩:=h2
 subst e
 refine Kl (RR:=fun acc C=>compPost (model X.prog X.w) X.A X.xe none (EP X pins σ Q) acc C) (Q:=Q) hc S ht he I2 T st2 f2 q ?_
 intro D C s' H' m hn hf hI hq
 exact ⟨m,hn,fun h' sb=>⟨.ref D,H',hI.sameBut hf sb,rfl,hq⟩⟩
theorem Qi {i:Nat} {y:Str} {px py pos spos:Pos} {iter elt:Expr} {ifs:List Expr} {wi:TI} {tt:TT} {te:TE} (hN:X.N.Nodup) (hi':X.N[i]? = some y) (hy:X.env.scope.names.lookup y=some .local) (hc:X.calm=true) (S:GQ X x scope) (hi:PI X (.Name x px) iter wi)
  (ht:∀ C s₀ H₀ fp,Nb (Cg X x scope C s₀ H₀ fp) ifs tt) (he:∀ C s₀ H₀ fp,PE (Cg X x scope C s₀ H₀ fp) elt te) (hsw:swapsWith (.ListComp elt [⟨.Name x px,iter,ifs,0⟩] scope pos) (some (.Name y py)) spos.line X.env=pure true:=by rfl) (hs:∀ x,foldedSetIterable iter X.env x=pure x:=by intro _; rfl) :
  PS X (.Assign [.Name y py] (.ListComp elt [⟨.Name x px,iter,ifs,0⟩] scope pos) spos) (Yw (Wz wi tt te) (Df i)):=by
 intro pins s σ H D' I h
 rw [exec_Assign_Name_used _ _ _ _ hsw]
 refine wpAny_bind (wpAny_standAt (wpAny_bind ?_))
 show wpAny _ X.A (do let _ ← comprehension (.ListComp elt [⟨.Name x px,iter,ifs,0⟩] scope pos) scope X.env _ (newList []) false (eval iter X.env) (some (assign (.Name y py) X.env))) _ _ s
 refine wpAny_bind (wpAny_mono (wpAny_comprehension_free (use:=some (assign (.Name y py) X.env)) (cl:=De X.env scope.names []) (Q:=fun _ s'=>SP X pins D' .next s') rfl hs (IW fun y hy hk=>I.ok.has y.1 (S.free y hy hk)) S.kind S.names
  (Ci (hi pins s σ H _ I h) fun v s1 h1=>Ci h1 fun itv s2 h2=>?_)) (fun _ s' hq=>wpAny_pure (wpAny_pure hq)) fun _ _ e=>e)
 obtain ⟨it,fp,tn,J,H2,e,I2,T,st2,f2,q⟩:=h2
 subst e
 refine Kl (RR:=fun acc C=>compPost (model X.prog X.w) X.A X.xe (some (assign (.Name y py) X.env)) (fun _ s'=>SP X pins D' .next s') acc C) (Q:=fun x H1=>Df i x σ H1 D'.nx) hc S ht he I2 T st2 f2 q ?_
 intro D C s' H' m hn hf hI hq
 show wpAny _ X.A (assign (.Name y py) X.env (.ref D)) _ _ _
 refine wpAny_assign_Name (Jc hI hN hi' (.inl hy) (v:=.ref D) rfl (fun s6 I6 hch=>?_) (.inr hy))
 obtain ⟨a,sb,ha⟩:=hch
 have hCa:C ≠ a:=by
  rcases ha with z | z
  ·rw [z]; exact hf.2.1
  ·exact Ne.symm (hf.2.2.2.2.1 y a z)
 exact ⟨m,hn.sameBut sb hCa,fun h' sb'=>⟨_,H',I6.sameBut hf sb',hq⟩⟩
end
end L2
namespace L2
open PySem PySem.Spec PyProof.Rows
section
variable {σ:St} {H1:Hp} {Q:VK} {tt:TT} {te:TE}
theorem GJ {J:It} {xs:List V} (p:V->Bool) (f:V->V) (hz:xs.length<sizeLine)
  (hgo:∀ i H x,Am H1 H->xs[i]? = some x->J.go i H) (hy:∀ i H y H',Am H1 H->i<xs.length->J.yld i H y H'->H'=H/\xs[i]? = some y) (hstop:∀ H,Am H1 H->J.stop xs.length H)
  (ht:∀ x∈xs,∀ H,Am H1 H->∀ R:Bool->Hp->Prop,(∀ H',Am H H'->R (p x) H')->tt (some x::σ) H R)
  (he:∀ x∈xs,p x=true->∀ H,Am H1 H->∀ R:VK,(∀ H',Am H H'->R (f x) H')->te (some x::σ) H R)
  (hq:∀ D H,H1 D=none->Am H1 H->H D=some (.lst ((xs.filter p).map f))->Q (.ref D) H):Gg J σ H1 Q tt te:=by
 intro D hD
 have s0:Am H1 (upd H1 D (.lst [])):=fun b o e=>by rw [Aq (Ao e hD)]; exact e
 refine ⟨fun i m ys H=>m=xs.length - i/\i<=xs.length/\ys=((xs.take i).filter p).map f/\H D=some (.lst ys)/\Am H1 H,⟨xs.length,by simp,Nat.zero_le _,by simp,Af,s0⟩,?_⟩
 rintro i m ys H ⟨rfl,hi,rfl,hd,hs⟩
 by_cases hlt:i<xs.length
 ·obtain ⟨x,hx⟩:∃ x,xs[i]? = some x:=⟨xs[i],by simp [hlt]⟩
  refine .inr ⟨hgo i H x hs hx,fun y H3 hyl=>?_⟩
  obtain ⟨rfl,hy'⟩:=hy i H y H3 hs hlt hyl
  rw [hx] at hy'
  cases hy'
  have hm:x∈xs:=al hx
  have hlen:(((xs.take i).filter p).map f).length<sizeLine:=by
   rw [ag]
   refine bt (ee _ _) (bt ?_ hz)
   rw [bq]; omega
  refine ht x hm _ hs _ fun H4 s4=>?_
  by_cases hp:p x=true
  ·rw [if_pos hp]
   refine he x hm hp H4 (hs.trans s4) _ fun H5 s5=>?_
   refine ⟨s5 _ _ (s4 _ _ hd),hlen,xs.length - (i+1),by omega,rfl,hlt,?_,Af,fun b o e=>?_⟩
   ·rw [take_succ_filter p xs i x hx,if_pos hp,cS]; rfl
   ·rw [Aq (Ao e hD)]; exact s5 _ _ (s4 _ _ (hs _ _ e))
  ·rw [if_neg hp]
   refine ⟨xs.length - (i+1),by omega,rfl,hlt,?_,s4 _ _ hd,hs.trans s4⟩
   rw [take_succ_filter p xs i x hx,if_neg hp,dQ]
 ·have e:i=xs.length:=by omega
  subst e
  rw [eg] at hd
  exact .inl ⟨hstop H hs,hq D H hD hs hd⟩
theorem QG {lo:Int} {n:Nat} (p:Int->Bool) (f:Int->V) (hz:n<sizeLine)
  (ht:∀ i:Nat,i<n->∀ H,Am H1 H->∀ R:Bool->Hp->Prop,(∀ H',Am H H'->R (p (lo+i)) H')->tt (some (.int (lo+i))::σ) H R)
  (he:∀ i:Nat,i<n->p (lo+i)=true->∀ H,Am H1 H->∀ R:VK,(∀ H',Am H H'->R (f (lo+i)) H')->te (some (.int (lo+i))::σ) H R)
  (hq:∀ D H,H1 D=none->Am H1 H->H D=some (.lst ((((List.range n).map fun (i:Nat)=>lo+(i:Int)).filter p).map f))->Q (.ref D) H):Gg (W3 lo n) σ H1 Q tt te:=by
 let g:V->Int:=fun v=>match v with | .int i=>i | _=>0
 have hxs:∀ i:Nat,i<n->((List.range n).map fun (i:Nat)=>V.int (lo+(i:Int)))[i]? = some (.int (lo+i)):=fun i hi=>by simp [hi]
 refine GJ (xs:=(List.range n).map fun (i:Nat)=>V.int (lo+(i:Int))) (fun v=>p (g v)) (fun v=>f (g v)) (by simpa using hz) (fun i H x _ hx=>?_) (fun i H y H' _ hi hy=>?_) (fun H _=>?_) (fun x hx=>?_) (fun x hx=>?_) (fun D H h1 h2 h3=>?_)
 ·have:i<((List.range n).map fun (i:Nat)=>V.int (lo+(i:Int))).length:=(af.mp hx).1
  show i<n
  simpa using this
 ·have hi':i<n:=by simpa using hi
  obtain ⟨e1,e2⟩:=hy
  subst e2
  exact ⟨e1,hxs i hi'⟩
 ·show n<=_
  simp
 ·obtain ⟨i,hi,rfl⟩:=aS.mp hx
  exact ht i (fg.mp hi)
 ·obtain ⟨i,hi,rfl⟩:=aS.mp hx
  exact he i (fg.mp hi)
 ·refine hq D H h1 h2 ?_
  rw [h3,ef,bX,ef,bX]
  rfl
noncomputable def fM (z:Str):It:=⟨fun i _=>i<z.cps.size,fun i H x H'=>H'=H/\∃ c,z.cps[i]? = some c/\x=.str ⟨#[c]⟩,fun i _=>z.cps.size<=i⟩
theorem Uj {P:Program} {w:World} {K:PySem.W.Frag} {tg:Expr} {z:Str} {t0:Tok} {it:Addr} {ty:String} (hty:ty = "str_ascii_iterator" \/ ty = "str_iterator"):Turn P w K tg (fM z) [it] it (fun i h=>h.IsStrIter it ty z t0 i) where
 mem:=by simp
 obj:=fun i h st b hb=>by
  have e:b=it:=by simpa using hb
  subst e
  obtain ⟨o,ho,hc,hd⟩:=st
  exact ⟨o,ho,fun v q=>by rw [hd] at q; cases q⟩
 keep:=fun i h h' st k=>let ⟨o,ho,r⟩:=st; ⟨o,k it (by simp) o ho,r⟩
 item:=by
  intro X hP hw hK hc i pins s σ H E I hf st hg
  subst hP hw hK
  obtain ⟨f0,f1,f2,f3,f4,f5⟩:=hf it (by simp)
  have hg':i<z.cps.size:=hg
  have hx:z.cps[i]? = some z.cps[i]:=Array.getElem?_eq_getElem hg'
  have fin:∀ h',h'.IsStrIter it ty z t0 (i+1)->Heap.SameBut it s.heap h'->∃ u,some (Value.str ⟨#[z.cps[i]]⟩ s.toks)=some u /\
    wpAny (model X.prog X.w) X.A (letOwnedTupleGo tg (.ref it) u) (fun _ s2=>∃ x H',Inv X pins σ H' s2/\RelV x u/\(fM z).yld i H x H'/\s2.heap.IsStrIter it ty z t0 (i+1)/\∀ b∈[it],H' b=none) E { s with heap:=h',toks:=s.toks+1 }:=fun h' st' sb=>by
   have I1:Inv X pins σ H { s with heap:=h',toks:=s.toks+1 }:=I.turned (fun b o hb e=>(sb.2 b hb).trans e) f0 f1 f3 f4 f5
   obtain ⟨o,e,c,d⟩:=id st'
   refine ⟨_,rfl,NT (s:={ s with heap:=h',toks:=s.toks+1 }) e c d (by rcases hty with rfl | rfl <;> decide) ⟨.str ⟨#[z.cps[i]]⟩,H,I1,⟨_,rfl⟩,⟨rfl,_,hx,rfl⟩,st',fun b hb=>(hf b hb).1⟩⟩
  rcases hty with rfl | rfl
  ·exact wpAny_pyNext_ascii_item st hx fin
  ·exact wpAny_pyNext_wide_item st hx fin
 done:=by
  intro X hP hw hK hc i pins s σ H E I hf st hg
  subst hP hw hK
  obtain ⟨f0,f1,f2,f3,f4,f5⟩:=hf it (by simp)
  have hx:z.cps[i]? = none:=by
   have hg':z.cps.size<=i:=hg
   simpa using hg'
  rcases hty with rfl | rfl
  ·exact wpAny_pyNext_ascii_end (I.ok.hd hc) st hx fun h' eb=>⟨rfl,I.turned (t':=s.toks) (fun b o hb e=>eb b o hb e) f0 f1 f3 f4 f5⟩
  ·exact wpAny_pyNext_wide_end (I.ok.hd hc) st hx fun h' eb=>⟨rfl,I.turned (t':=s.toks) (fun b o hb e=>eb b o hb e) f0 f1 f3 f4 f5⟩
 self:=fun A i s Q E st h=>by
  rcases hty with rfl | rfl
  ·exact wpAny_pyIter_striter_ascii st h
  ·exact wpAny_pyIter_striter_wide st h
end
section
variable {X:Cx} {tg:Expr}
noncomputable def jA (tl:TE):TI:=fun σ H R=>tl σ H fun x H1=>∃ z,x=.str z/\R (fM z) H1
theorem Sy {l:Expr} {tl:TE} (hl:PE X l tl):PI X tg l (jA tl):=by
 intro pins s σ H R I h
 refine Ci (hl pins s σ H _ I h) fun v s1 hq0=>?_
 obtain ⟨x,H1,I1,r1,q1⟩:=hq0
 obtain ⟨z,e,q⟩:=q1
 subst e
 obtain ⟨t,rfl⟩:=r1
 have fin:∀ ty,(ty = "str_ascii_iterator" \/ ty = "str_iterator")->PIE X pins σ tg R (.ref s1.heap.objs.size) { s1 with heap:=s1.heap.push { cls:=.type ty,data:=.fields #[.str z t,.int 0 0] } }:=fun ty hty=>by
  refine ⟨s1.heap.objs.size,[s1.heap.objs.size],_,_,H1,rfl,I1.kept (t':=s1.toks) fun b o e=>Heap.get?_push_of_some _ e,Uj (z:=z) (t0:=t) hty,⟨_,Heap.get?_push_size _ rfl,rfl,rfl⟩,fun b hb=>?_,q⟩
  have e:b=s1.heap.objs.size:=by simpa using hb
  subst e
  exact I1.Mx (am _) (I1.hok.fresh (am _))
 cases ha:z.cps.all (· < 128)
 ·exact wpAny_pyIter_wide ha (fin _ (.inr rfl))
 ·exact wpAny_pyIter_ascii ha (fin _ (.inl rfl))
end
section
variable {σ:St} {H1:Hp} {Q:VK} {tt:TT} {te:TE}
noncomputable def sgn (c:Nat):V:=.str ⟨#[c]⟩
theorem Nm {z:Str} (p:Nat->Bool) (f:Nat->V) (hz:z.length<sizeLine)
  (ht:∀ c∈z.cps.toList,∀ H,Am H1 H->∀ R:Bool->Hp->Prop,(∀ H',Am H H'->R (p c) H')->tt (some (sgn c)::σ) H R)
  (he:∀ c∈z.cps.toList,p c=true->∀ H,Am H1 H->∀ R:VK,(∀ H',Am H H'->R (f c) H')->te (some (sgn c)::σ) H R)
  (hq:∀ D H,H1 D=none->Am H1 H->H D=some (.lst ((z.cps.toList.filter p).map f))->Q (.ref D) H):Gg (fM z) σ H1 Q tt te:=by
 let g:V->Nat:=fun v=>match v with | .str y=>y.cps.getD 0 0 | _=>0
 refine GJ (xs:=z.cps.toList.map sgn) (fun v=>p (g v)) (fun v=>f (g v)) (by simpa [Str.length] using hz) (fun i H x _ hx=>?_) (fun i H y H' _ hi hy=>?_) (fun H _=>?_) (fun x hx=>?_) (fun x hx=>?_) (fun D H h1 h2 h3=>?_)
 ·have:i<(z.cps.toList.map sgn).length:=(af.mp hx).1
  show i<z.cps.size
  simpa using this
 ·obtain ⟨e1,c,hc,rfl⟩:=hy
  refine ⟨e1,?_⟩
  rw [bo,Array.getElem?_toList,hc]; rfl
 ·show z.cps.size<=_
  simp
 ·obtain ⟨c,hc,rfl⟩:=aS.mp hx
  exact ht c hc
 ·obtain ⟨c,hc,rfl⟩:=aS.mp hx
  exact he c hc
 ·refine hq D H h1 h2 ?_
  rw [h3,ef,bX]
  rfl
end
section
variable {X:Cx}
theorem range_all (bs:List Bool):((List.range bs.length).all fun i=>(bs[i]?).getD true)=bs.all id:=by
 rw [dl,cw,cw]
 constructor
 ·intro h b hb
  obtain ⟨i,hi,e⟩:=ej.mp hb
  have:=h i (fg.mpr hi)
  rw [ae hi,e] at this
  exact this
 ·intro h i hi
  have hi':=fg.mp hi
  rw [ae hi']
  exact h _ (eh hi')
theorem Fl (hc:X.calm=true):Ft X (.builtin "all") (fun xs H Q=>∃ (p:Addr) (bs:List Bool),xs=[V.ref p]/\Dh X.K H p (bs.map V.bl)/\Q (.bl (bs.all id)) H):=by
 intro pins s σ H xs us Q I r h
 obtain ⟨p,bs,rfl,hp,q⟩:=h
 obtain ⟨u,rfl,ru⟩:=vals1 r
 cases ru
 obtain ⟨its,rv,pl,hz⟩:=I.list hp
 have hlen:bs.length=its.length:=by have:=rv.length; rw [ag] at this; exact this
 have hlt:p<s.heap.objs.size:=by obtain ⟨_,e,_⟩:=pl.isList; exact Heap.lt_size e
 refine call_all_walk (wpAny_pyIter_list pl.isList ?_)
 refine ⟨s.heap.objs.size,[s.heap.objs.size,p],[s.heap.objs.size],its.toArray.size,_,_,fun i=>(bs[i]?).getD true,rfl,Walks.list (A:=X.A.in1) (I.ok.hd hc) _ p (bp hlt) its.toArray,
  ⟨⟨_,Heap.get?_push_size _ rfl,rfl,rfl⟩,pl.isList.push _⟩,fun i v s' Q' E' hP hQ=>?_,fun h' tk hk=>?_⟩
 ·have hP':its[i]? = some v:=by simpa using hP
  have hi:i<its.length:=(af.mp hP').1
  have hb:bs[i]? = some bs[i]:=by simp [hlen,hi]
  obtain ⟨u,hu,ru⟩:=rv.get (i:=i) (x:=.bl bs[i]) (by rw [bo,hb]; rfl)
  rw [hP'] at hu
  cases hu
  cases ru
  dsimp only at hQ
  rw [hb] at hQ
  exact wpAny_truthy_bool hQ
 ·have e:((List.range its.toArray.size).all fun i=>(bs[i]?).getD true)=bs.all id:=by rw [cy,← hlen]; exact range_all bs
  rw [e]
  refine ⟨.bl (bs.all id),H,I.kept (t':=tk) fun b o eb=>hk b o (fun hm=>?_) (Heap.get?_push_of_some _ eb),rfl,q⟩
  rw [av.mp hm] at eb
  exact et _ (Heap.lt_size eb)
theorem CW:Ft X (.builtin "isinstance") (fun xs H Q=>∃ x T t b,xs=[x,V.ty T]/\Ge X.K H x t/\PySem.W.kitOne X.K t (.type T)=some b/\Q (.bl b) H):=by
 intro pins s σ H xs us Q I r h
 obtain ⟨x,T,t,b,rfl,ty,e,q⟩:=h
 obtain ⟨u,v,rfl,ru,rv⟩:=Vals.two r
 cases rv
 exact RW I ru ty e fun tk=>⟨.bl b,H,I.tok _,rfl,q⟩
end
noncomputable def Q0 (x:Str) (scope osc:Scope) (N:List Str):Bool :=
 (scope.kind == .function) && scope.names.all (fun y=>y.2 != .cell) && scope.names.all (fun y=>y.2 != .local || scope.names.lookup y.1 == some .local) && (scope.names.lookup x == some .local) &&
 scope.names.all (fun y=>y.2 != .free || osc.names.lookup y.1 == some .cell || osc.names.lookup y.1 == some .free) && decide ((x::Hj x N).Nodup) && (Hj x N).all (fun y=>scope.names.lookup y != some .local) && (scope.names.lookup ("" : Str) == none)
theorem Bg {X:Cx} {x:Str} {scope osc:Scope} {N:List Str} (hsc:X.env.scope=osc) (hN:X.N=N) (h:Q0 x scope osc N=true):GQ X x scope:=by
 unfold Q0 at h
 simp only [Bool.and_eq_true] at h
 obtain ⟨⟨⟨⟨⟨⟨⟨h1,h2⟩,h3⟩,h4⟩,h5⟩,h6⟩,h7⟩,h8⟩:=h
 rw [cw] at h2 h3 h5 h7
 have kd:∀ y,X.env.kindOf y=osc.names.lookup y:=fun y=>by rw [← hsc]; rfl
 refine ⟨by simpa using h1,fun y hy=>by simpa using h2 y hy,fun y hy e=>?_,by simpa using h4,fun y hy e=>?_,by rw [hN]; exact of_decide_eq_true h6,fun y hy=>?_,by simpa using h8⟩
 ·have:=h3 y hy
  rw [e] at this
  simpa using this
 ·have:=h5 y hy
  rw [e] at this
  rw [kd]
  simpa using this
 ·rw [hN] at hy
  simpa using h7 y hy
end L2
namespace L2
open PySem PySem.Spec PyProof.Rows
section
variable {X:Cx} {pins:List (Addr × Obj)} {σ:St} {H:Hp} {s:Shared} {h':Heap}
theorem Inv.N5 {ch:List Addr} {a:Addr} {o:HO} {t':Nat} (I:Inv X pins σ H s) (hf:∀ b∈ch,Gf X pins H b) (k:∀ b u,b ∉ ch->s.heap.get? b=some u->h'.get? b=some u) (hp:s.heap.objs.size<=a)
  (new:By X.prog X.w (upd H a o) h' a o):Inv X pins σ (upd H a o) { s with heap:=h',toks:=t' }:=by
 have hn:H a=none:=I.hok.fresh hp
 have up:∀ b u,H b=some u->upd H a o b=some u:=fun b u e=>by rw [Aq (Ao e hn)]; exact e
 refine I.step (g':=s.gens) (d':=s.drawn) (ch:=ch) (fun b hb=>?_) (fun b u _ _ hc e _=>k b u hc e) (fun b u _ _ hc e _=>⟨u.slots,k b u hc e⟩) (fun b u _ e n=>?_)
  (fun b u hc e=>⟨u,k b u hc e⟩) (fun b xs e=>up _ _ e) (fun b u x e=>up _ _ e) (fun b ps e=>⟨#[],by rw [up _ _ e]; simp⟩) (fun m hm=>?_) (fun b u e=>?_) I.bare
 ·obtain ⟨f0,f1,f2,f3,f4,f5⟩:=hf b hb
  exact ⟨f3,f1,f4,f5⟩
 ·rw [Aq (bp (ay (Heap.lt_size e) hp))]
  exact n
 ·obtain ⟨u,es,ep,ho,r⟩:=hm
  exact ⟨u,es,ep,k _ u (fun z=>(hf _ z).2.1 rfl) ho,r⟩
 ·by_cases hb:b=a
  ·subst hb
   rw [Af] at e
   cases e
   exact new
  ·rw [Aq hb] at e
   refine (I.hok b u e).stay (fun c v hc q=>k c v (fun z=>?_) q) (fun _ q=>up _ _ q) fun _ _ q=>up _ _ q
   have z1:=(hf c z).1
   rcases hc with hc | hc
   ·rw [hc,e] at z1
    cases z1
   ·rw [hc] at z1
    cases z1
theorem Inv.Qt {ch:List Addr} {t':Nat} (I:Inv X pins σ H s) (hf:∀ b∈ch,Gf X pins H b) (k:∀ b u,b ∉ ch->s.heap.get? b=some u->h'.get? b=some u):Inv X pins σ H { s with heap:=h',toks:=t' }:=by
 refine I.step (g':=s.gens) (d':=s.drawn) (ch:=ch) (fun b hb=>?_) (fun b u _ _ hc e _=>k b u hc e) (fun b u _ _ hc e _=>⟨u.slots,k b u hc e⟩) (fun b u _ e n=>n)
  (fun b u hc e=>⟨u,k b u hc e⟩) (fun b xs e=>e) (fun b u x e=>e) (fun b ps e=>⟨#[],by rw [e]; simp⟩) (fun m hm=>?_) (fun b u e=>?_) I.bare
 ·obtain ⟨f0,f1,f2,f3,f4,f5⟩:=hf b hb
  exact ⟨f3,f1,f4,f5⟩
 ·obtain ⟨u,es,ep,ho,r⟩:=hm
  exact ⟨u,es,ep,k _ u (fun z=>(hf _ z).2.1 rfl) ho,r⟩
 ·refine (I.hok b u e).stay (fun c v hc q=>k c v (fun z=>?_) q) (fun _ q=>q) fun _ _ q=>q
  have z1:=(hf c z).1
  rcases hc with hc | hc
  ·rw [hc,e] at z1
   cases z1
  ·rw [hc] at z1
   cases z1
end
noncomputable def aU (K:PySem.W.Frag) (a:Addr):It :=
 ⟨fun i H=>∃ xs x,Dh K H a xs/\xs[i]? = some x,fun i H v H'=>∃ T,H T=none/\v=.ref T/\∀ xs,Dh K H a xs->∃ x,xs[i]? = some x/\H'=upd H T (.tup [.int (i:Int),x]),fun i H=>∃ xs,Dh K H a xs/\xs.length<=i⟩
noncomputable def iR (K:PySem.W.Frag) (a b:Addr):It :=
 ⟨fun i H=>∃ xs ys x y,Fq K H a xs/\Fq K H b ys/\xs[i]? = some x/\ys[i]? = some y,fun i H v H'=>∃ T,H T=none/\v=.ref T/\∀ xs ys,Fq K H a xs->Fq K H b ys->∃ x y,xs[i]? = some x/\ys[i]? = some y/\H'=upd H T (.tup [x,y]),
  fun i H=>∃ xs,Fq K H a xs/\xs.length<=i⟩
theorem RM {P:Program} {w:World} {K:PySem.W.Frag} {es:List Expr} {k1:Nat} {pos:Pos} (a e it:Addr) (hne:e ≠ it) :
  Turn P w K (.Tuple es k1 pos) (aU K a) [e,it] e (fun i h=>(∃ old,IsEnum h e it i old)/\h.IsListIter it a i) where
 mem:=by simp
 obj:=fun i h st b hb=>by
  obtain ⟨⟨old,he⟩,o,ho,c,d⟩:=st
  rcases cm.mp hb with rfl | hb
  ·exact ⟨_,he,fun v z=>by
    have z':Data.fields _=Data.cell v:=z
    cases z'⟩
  ·have q:b=it:=by simpa using hb
   subst q
   exact ⟨o,ho,fun v z=>by rw [d] at z; cases z⟩
 keep:=fun i h h' st k=>by
  obtain ⟨⟨old,he⟩,hi⟩:=st
  exact ⟨⟨old,k e (by simp) _ he⟩,hi.at fun o q=>k it (by simp) o q⟩
 item:=by
  intro X hP hw hK hc i pins s σ H E I hf st hg
  subst hP hw hK
  obtain ⟨xs,x,hq,hx⟩:=hg
  obtain ⟨its,rv,p,hz⟩:=I.list hq
  obtain ⟨u,hu,ru⟩:=rv.get hx
  obtain ⟨⟨old,he⟩,hi⟩:=st
  refine wpAny_pyNext_enum_item he hi p.isList (x:=u) (by simpa using hu) hne fun h1 n1 n2 n3 n4 n5=>?_
  refine ⟨_,rfl,wpAny_letOwnedTupleGo_enum (s:={ s with heap:=h1,toks:=s.toks+1 }) n1 fun h2 m1 m2=>?_⟩
  have hT:s.heap.objs.size ≠ e:=gx (Heap.lt_size he)
  have hI:s.heap.objs.size ≠ it:=by obtain ⟨_,q,_⟩:=hi; exact gx (Heap.lt_size q)
  have fr:H s.heap.objs.size=none:=I.hok.fresh (am _)
  have nw:By X.prog X.w (upd H s.heap.objs.size (.tup [.int (i:Int),x])) h2 s.heap.objs.size (.tup [.int (i:Int),x]) :=
   ⟨by show 2<=sizeLine; decide,[.int i s.toks,u],.cons ⟨_,rfl⟩ (.cons ru .nil),_,m2.extBut _ _ hT n3,rfl,_,rfl⟩
  refine ⟨.ref s.heap.objs.size,_,I.N5 (t':=s.toks+1) (ch:=[e,it]) hf (fun b o hb q=>?_) (am _) nw,rfl,⟨_,fr,rfl,fun ys hy=>⟨x,by rw [I.Ny hy hq]; exact hx,rfl⟩⟩,⟨⟨u,?_⟩,n2.at fun o q=>m2.extBut _ _ (Ne.symm hne) q⟩,fun b hb=>?_⟩
  ·exact m2.extBut _ _ (fun z=>hb (by simp [z])) (n5 b o (fun z=>hb (by simp [z])) (fun z=>hb (by simp [z])) q)
  ·have e1:((i:Int)+1)=((i+1:Nat):Int):=by omega
   rw [← e1]
   exact m1
  ·have hb':=hb
   rcases cm.mp hb with rfl | hb
   ·rw [Aq (Ne.symm hT)]
    exact (hf _ hb').1
   ·have q:b=it:=by simpa using hb
    subst q
    rw [Aq (Ne.symm hI)]
    exact (hf _ hb').1
 done:=by
  intro X hP hw hK hc i pins s σ H E I hf st hg
  subst hP hw hK
  obtain ⟨xs,hq,hx⟩:=hg
  obtain ⟨its,rv,p,hz⟩:=I.list hq
  obtain ⟨⟨old,he⟩,hi⟩:=st
  have hl:=rv.length
  exact wpAny_pyNext_enum_end (I.ok.hd hc) he hi p.isList (by simp; omega) fun h1 eb=>⟨rfl,I.Qt (t':=s.toks) (ch:=[e,it]) hf fun b o hb q=>eb b o (fun z=>hb (by simp [z])) q⟩
 self:=fun _ _ _ _ _ st h=>by
  obtain ⟨⟨old,he⟩,_⟩:=st
  exact wpAny_pyIter_enum he h
theorem TX {n a b:Nat} (ha:a<n) (hb:b<n):ZipApart (n+4) (n+2) (n+3) n (n+1) a b:=by
 constructor <;> (refine (show @Ne Nat _ _ from ?_); omega)
theorem Yi {n b:Nat} {P:Nat->Prop} (h0:P n) (h1:P (n+1)) (h2:P (n+2)) (h3:P (n+3)) (h4:P (n+4)) (hb:b∈[n,n+1,n+2,n+3,n+4]):P b:=by
 simp at hb
 rcases hb with rfl | rfl | rfl | rfl | rfl <;> assumption
theorem Ru {P:Program} {w:World} {K:PySem.W.Frag} {es:List Expr} {k1:Nat} {pos:Pos} (a b n:Nat) (ha:a<n) (hb:b<n) :
  Turn P w K (.Tuple es k1 pos) (iR K a b) [n,n+1,n+2,n+3,n+4] (n+4) (fun i h=>IsZip h (n+4) (n+2) (n+3) .none/\IsPair h (n+2) (.ref n) (.ref (n+1))/\(∃ x y,IsPair h (n+3) x y)/\h.IsTupleIter n a i/\h.IsTupleIter (n+1) b i) where
 mem:=by simp
 obj:=fun i h st c hc=>by
  obtain ⟨hz,hI,⟨x,y,hO⟩,⟨o1,e1,_,d1⟩,⟨o2,e2,_,d2⟩⟩:=st
  refine Yi (P:=fun c=>∃ o,h.get? c=some o/\∀ v,o.data ≠ .cell v) ⟨_,e1,fun v z=>?_⟩ ⟨_,e2,fun v z=>?_⟩ ⟨_,hI,fun v z=>?_⟩ ⟨_,hO,fun v z=>?_⟩ ⟨_,hz,fun v z=>?_⟩ hc
  ·rw [d1] at z; cases z
  ·rw [d2] at z; cases z
  ·have z':Data.seq _ _=Data.cell v:=z
   cases z'
  ·have z':Data.seq _ _=Data.cell v:=z
   cases z'
  ·have z':Data.fields _=Data.cell v:=z
   cases z'
 keep:=fun i h h' st k=>by
  obtain ⟨hz,hI,⟨x,y,hO⟩,j1,j2⟩:=st
  exact ⟨k _ (by simp) _ hz,k _ (by simp) _ hI,⟨x,y,k _ (by simp) _ hO⟩,j1.at fun o q=>k _ (by simp) o q,j2.at fun o q=>k _ (by simp) o q⟩
 item:=by
  intro X hP hw hK hc i pins s σ H E I hf st hg
  subst hP hw hK
  obtain ⟨xs,ys,x,y,q1,q2,hx,hy⟩:=hg
  obtain ⟨it1,r1,p1,_⟩:=I.tuple q1
  obtain ⟨it2,r2,p2,_⟩:=I.tuple q2
  obtain ⟨u,hu,ru⟩:=r1.get hx
  obtain ⟨v,hv,rv⟩:=r2.get hy
  obtain ⟨hz,hI,⟨x0,y0,hO⟩,j1,j2⟩:=st
  have D:=TX ha hb
  have hT:s.TypeIs (.ref (n+4)) "zip":=⟨_,hz,rfl⟩
  have sz:n+4<s.heap.objs.size:=Heap.lt_size hz
  unfold pyNext
  refine wpAny_bind (wpAny_attempt (wpAny_callSpecial?_slot (name:=Str.ofString "__next__") hT F.slot_zip_next (wpAny_call_entry F.slot_zip_next hT F.entry_zip_next
   (RG D hz hI hO j1 j2 (show s.heap.IsTuple a it1.toArray from p1) (show s.heap.IsTuple b it2.toArray from p2) (x:=u) (y:=v) (by simpa using hu) (by simpa using hv) fun h1 n1 n2 n3 n4 n5 n6 n7=>wpAny_pure ?_) (F.args_zip_next_1 _))))
  refine ⟨_,rfl,wpAny_letOwnedTupleGo_zip (s:={ s with heap:=h1 }) n1 fun h2 m1 m2=>?_⟩
  have fr:H s.heap.objs.size=none:=I.hok.fresh (am _)
  have nw:By X.prog X.w (upd H s.heap.objs.size (.tup [x,y])) h2 s.heap.objs.size (.tup [x,y]) :=
   ⟨by show 2<=sizeLine; decide,[u,v],.cons ru (.cons rv .nil),_,m2.extBut _ _ (Nat.ne_of_gt sz) n5,rfl,_,rfl⟩
  have hI2:IsPair h1 (n+2) (.ref n) (.ref (n+1)):=n7 _ _ D.TIz D.TITO D.TIi1 D.TIi2 hI
  refine ⟨.ref s.heap.objs.size,_,I.N5 (t':=s.toks) (ch:=[n,n+1,n+2,n+3,n+4]) hf (fun c o hc q=>?_) (am _) nw,rfl,⟨_,fr,rfl,fun xs' ys' h1 h2=>⟨x,y,by rw [I.JH h1 q1]; exact hx,by rw [I.JH h2 q2]; exact hy,rfl⟩⟩,
   ⟨m1,m2.extBut _ _ D.TIz hI2,⟨u,v,m2.extBut _ _ D.TOz n2⟩,n3.at fun o q=>m2.extBut _ _ D.i1z q,n4.at fun o q=>m2.extBut _ _ D.i2z q⟩,fun c hc=>?_⟩
  ·have z:∀ d,d∈[n,n+1,n+2,n+3,n+4]->c ≠ d:=fun d hd q=>hc (q ▸ hd)
   exact m2.extBut _ _ (z _ (by simp)) (n7 c o (z _ (by simp)) (z _ (by simp)) (z _ (by simp)) (z _ (by simp)) q)
  ·rw [Aq ?_]
   ·exact (hf c hc).1
   ·have lt:c<=n+4:=Yi (P:=fun c=>c<=n+4) (by omega) (by omega) (by omega) (by omega) (am _) hc
    exact bp (bt lt sz)
 done:=by
  intro X hP hw hK hc i pins s σ H E I hf st hg
  subst hP hw hK
  obtain ⟨xs,q1,hx⟩:=hg
  obtain ⟨it1,r1,p1,_⟩:=I.tuple q1
  obtain ⟨hz,hI,⟨x0,y0,hO⟩,j1,j2⟩:=st
  have D:=TX ha hb
  have hT:s.TypeIs (.ref (n+4)) "zip":=⟨_,hz,rfl⟩
  have hl:=r1.length
  unfold pyNext
  refine wpAny_bind (wpAny_attempt (wpAny_callSpecial?_slot (name:=Str.ofString "__next__") hT F.slot_zip_next (wpAny_call_entry F.slot_zip_next hT F.entry_zip_next
   (VB (I.ok.hd hc) D hz hI hO j1 (show s.heap.IsTuple a it1.toArray from p1) (by simp; omega) fun h1 x k1 hx1=>?_) (F.args_zip_next_1 _))))
  obtain ⟨o,ho,hco⟩:=hx1
  refine wpAny_bind (wpAny_isInstance (T:="StopIteration") (b:=true) ⟨o,ho,hco⟩ isSubtype_stop (wpAny_pure ?_))
  refine ⟨rfl,I.Qt (t':=s.toks) (ch:=[n,n+1,n+2,n+3,n+4]) hf fun c o hc q=>?_⟩
  have z:∀ d,d∈[n,n+1,n+2,n+3,n+4]->c ≠ d:=fun d hd q=>hc (q ▸ hd)
  exact k1 c o (z _ (by simp)) (z _ (by simp)) (z _ (by simp)) (z _ (by simp)) q
 self:=fun _ _ _ _ _ st h=>wpAny_pyIter_zip st.1 h
section
variable {X:Cx} {es:List Expr} {k1:Nat} {tpos:Pos}
noncomputable def dU (K:PySem.W.Frag) (ta:TA):TI:=fun σ H R=>ta σ H fun vs H1=>∃ a,vs=[.ref a]/\(∃ xs,Dh K H1 a xs)/\R (aU K a) H1
noncomputable def jU (K:PySem.W.Frag) (ta:TA):TI:=fun σ H R=>ta σ H fun vs H1=>∃ a b,vs=[.ref a,.ref b]/\(∃ xs,Fq K H1 a xs)/\(∃ ys,Fq K H1 b ys)/\R (iR K a b) H1
theorem Jx {l:Expr} {ta:TA} {p pos:Pos} (hg:Gl X "enumerate") (hm:X.mg "enumerate" = none) (ha:PA X [l] ta) (hs:starEach [l] X.env=[(false,eval l X.env)]:=by rfl) :
  PI X (.Tuple es k1 tpos) (.Call (.Name "enumerate" p) [l] [] pos) (dU X.K ta):=by
 intro pins s σ H R I h
 refine Call_ (IK I hg hm boot_enumerate (PyProof.Rows.callWith_type1 (Ci (ha pos pins s σ H _ I h) fun us s1 ⟨vs,H1,I1,r1,q1⟩=>?_) hs rfl))
 obtain ⟨a,e,⟨xs,hq⟩,q⟩:=q1
 subst e
 obtain ⟨u,rfl,ru⟩:=vals1 r1
 cases ru
 obtain ⟨its,rv,pl,hz⟩:=I1.list hq
 refine call_enumerate_list pl.isList fun h1 n1 n2 n3 n4=>?_
 refine wpAny_pyIter_enum (s:={ s1 with heap:=h1 }) n1 ?_
 refine ⟨_,[s1.heap.objs.size+1,s1.heap.objs.size],_,_,H1,rfl,I1.kept (t':=s1.toks) n4,RM a _ _ (Nat.succ_ne_self _),⟨⟨_,n1⟩,n2⟩,fun b hb=>?_,q⟩
 have lt:s1.heap.objs.size<=b:=by
  rcases cm.mp hb with rfl | hb
  ·exact gu _
  ·exact Nat.le_of_eq ((av.mp hb).symm)
 exact I1.Mx lt (I1.hok.fresh lt)
theorem QX {x y:Expr} {ta:TA} {p pos:Pos} (hg:Gl X "zip") (hm:X.mg "zip" = none) (ha:PA X [x,y] ta) (hs:starEach [x,y] X.env=[(false,eval x X.env),(false,eval y X.env)]:=by rfl) (hs2:starEach [y] X.env=[(false,eval y X.env)]:=by rfl) :
  PI X (.Tuple es k1 tpos) (.Call (.Name "zip" p) [x,y] [] pos) (jU X.K ta):=by
 intro pins s σ H R I h
 refine Call_ (IK I hg hm boot_zip (PyProof.Rows.callWith_type1 (Ci (ha pos pins s σ H _ I h) fun us s1 ⟨vs,H1,I1,r1,q1⟩=>?_) (by rw [hs,hs2]) (by rw [hs2]; rfl)))
 obtain ⟨a,b,e,⟨xs,q1⟩,⟨ys,q2⟩,q⟩:=q1
 subst e
 obtain ⟨u,v,rfl,ru,rv⟩:=Vals.two r1
 cases ru
 cases rv
 obtain ⟨it1,r1,p1,_⟩:=I1.tuple q1
 obtain ⟨it2,r2,p2,_⟩:=I1.tuple q2
 refine RP (show s1.heap.IsTuple a it1.toArray from p1) (show s1.heap.IsTuple b it2.toArray from p2) fun h1 n hn n1 n2 n3 n4 n5 n6 n7=>?_
 refine wpAny_pyIter_zip (s:={ s1 with heap:=h1 }) n1 ?_
 have la:a<n:=by rw [hn]; exact p1.lt
 have lb:b<n:=by rw [hn]; exact p2.lt
 refine ⟨_,[n,n+1,n+2,n+3,n+4],_,_,H1,rfl,I1.kept (t':=s1.toks) n7,Ru a b n la lb,⟨n1,n2,⟨_,_,n3⟩,n4,n5⟩,fun c hc=>?_,q⟩
 have lt:s1.heap.objs.size<=c:=by
  rw [← hn]
  exact Yi (P:=fun c=>n<=c) (by omega) (by omega) (by omega) (by omega) (by omega) hc
 exact I1.Mx lt (I1.hok.fresh lt)
end
end L2
namespace L2
open PySem PySem.Spec PyProof.Rows
theorem V9 {prog:Program} {w:World} {A:Around} {R:Result->Shared->Prop} {s:Shared} {elt tg iter:Expr} {ifs:List Expr} {scope:Scope} {pos:Pos} {it acc:Value} {env:Env} (J:Nat->Shared->Prop) {E:Value->Shared->Prop} (hE:E=notedBy (model prog w) A env fun e s'=>R (.error e) s')
  (turn:∀ n s,J n s->wpAny (model prog w) A (pyNext it) (fun r s1=>match r with
   | none=>R (.ok .next) s1
   | some v=>wpAny (model prog w) A (letOwnedTupleGo tg it v) (fun _ s2=>wpAny (model prog w) A (assign tg env v) (fun _ s3 =>
     wpAny (model prog w) A (forIn ifs true fun c r=>if r=true then do let ok ← isTrue c env (eval c env); pure (ForInStep.yield ok) else pure (ForInStep.yield r)) (fun ok s4 =>
      if ok=true then wpAny (model prog w) A (eval elt env) (fun x s5=>wpAny (model prog w) A (call (.builtin "list.append") [acc,x]) (fun _ s6=>∃ m,m<n/\J m s6) E s5) E s4
      else ∃ m,m<n/\J m s4) E s3) E s2) E s1) E s) (n:Nat) (h:J n s) :
  codeAny (model prog w) A (.compLoop (.ListComp elt [⟨tg,iter,ifs,0⟩] scope pos) 0 it acc env) R s:=by
 subst hE
 refine codeAny_loop rfl J (fun n s hJ=>(show wpAny _ A ((compTurn (.ListComp elt [⟨tg,iter,ifs,0⟩] scope pos) 0 it acc env).onRaise (fun x=>do noteFrame x env; theTreesLotGoes x)) _ _ s from wpAny_noted ?_)) n h
 rw [compTurn_list]
 refine wpAny_bind (wpAny_standAt (wpAny_bind (wpAny_mono (turn n s hJ) (fun r s1 h1=>?_) fun _ _ q=>q)))
 cases r with
 | none=>exact wpAny_pure h1
 | some v =>
  refine wpAny_bind (wpAny_mono h1 (fun _ s2 h2=>wpAny_bind (wpAny_mono h2 (fun _ s3 h3=>wpAny_bind (wpAny_mono h3 (fun ok s4 h4=>?_) fun _ _ q=>q)) fun _ _ q=>q)) fun _ _ q=>q)
  cases ok with
  | false=>exact wpAny_pure ⟨rfl,h4⟩
  | true=>exact wpAny_bind (wpAny_bind (wpAny_mono h4 (fun x s5 h5=>wpAny_bind (wpAny_mono h5 (fun _ s6 h6=>wpAny_pure (wpAny_pure ⟨rfl,h6⟩)) fun _ _ q=>q)) fun _ _ q=>q))
noncomputable def Bq (X:Cx) (x z:Str) (scope:Scope) (C:Addr) (s₀:Shared) (H₀:Hp) (fp:List Addr):Cx where
 prog:=X.prog
 w:=X.w
 K:=X.K
 mg:=X.mg
 base:=X.base
 A:=X.A
 N:=x::z::X.N
 s₀:=s₀
 H₀:=H₀
 env:=compEnvC scope (De X.env scope.names []) C X.env
 outer:=X.stack
 stack:=X.stack
 ex:=fp
 fn:=fun _=>false
 calm:=X.calm
 pn:=[]
 xe:=fun _ _=>False
structure Er (X:Cx) (x z:Str) (scope:Scope):Prop where
 kind:scope.kind=.function
 nocell:∀ y∈scope.names,y.2 ≠ .cell
 names:∀ y∈scope.names,y.2=.local->scope.names.lookup y.1=some .local
 loc:scope.names.lookup x=some .local
 loz:scope.names.lookup z=some .local
 free:∀ y∈scope.names,y.2=.free->X.env.kindOf y.1=some .cell \/ X.env.kindOf y.1=some .free
 nd:(x::z::X.N).Nodup
 only:∀ y∈X.N,scope.names.lookup y ≠ some .local
section
variable {X:Cx} {pins:List (Addr × Obj)} {σ:St} {H:Hp} {s:Shared} {x z:Str} {scope:Scope} {fp:List Addr} {C:Addr}
theorem Nx {h':Heap} {tk:Nat} {m:Str->Option Value} (I:Inv X pins σ H s) (S:Er X x z scope) (hf:∀ b∈fp,Gf X pins H b) (hlt:∀ b∈fp,b<s.heap.objs.size) (hC:s.heap.objs.size<=C) (hn:h'.Ns C m)
  (hk:∀ b o,s.heap.get? b=some o->h'.get? b=some o):Inv (Bq X x z scope C s H fp) [] (none::none::σ) H { s with heap:=h',toks:=tk }:=by
 have cl:∀ y c,(De X.env scope.names []).lookup y=some c->X.env.cells.lookup y=some c:=fun y c e=>by
  rcases Gb X.env scope.names [] y c e with z | z
  ·cases z
  ·exact z
 have cellK:∀ c v,s.heap.IsCell c v->h'.IsCell c v:=fun c v ⟨o,ho,hd⟩=>⟨o,hk c o ho,hd⟩
 have look:∀ y,(Bq X x z scope C s H fp).env.scope.names.lookup y=(scope.names.lookup y).map fun k=>if (k == NameKind.free && X.env.scope.kind == .function && X.env.kindOf y == some .cell) then NameKind.cell else k:=fun y=>Ff X.env y scope.names
 refine ⟨⟨I.ok.mod,S.kind,I.ok.glob,I.ok.blt,hC,fun y z c e1 e2=>I.ok.inj y z c (cl y c e1) (cl z c e2),fun y hy=>?_,fun y c e _=>(by cases e),fun h=>I.ok.hd h,I.ok.frames,.inl rfl,fun b hb=>?_,I.bs,bi I.ok.bsz I.sz,fun b o e hb=>?_,fun b hb hb'=>?_,I.stack,I.HH⟩,
  rfl,I.bare,Un.kept hk,⟨m,hn,fun i y v h1 h2 h3=>?_⟩,fun y c e=>?_,I.hok.fresh hC,fun y c e=>I.freeC y c (cl y c e),fun p hp=>absurd (show p∈([]:List (Addr × Obj)) from hp) (by simp),I.hok.kept hk,?_⟩
 ·have hy':(Bq X x z scope C s H fp).env.scope.names.lookup y=some .cell \/ (Bq X x z scope C s H fp).env.scope.names.lookup y=some .free:=hy
  rw [look y] at hy'
  cases e:scope.names.lookup y with
  | none=>rw [e] at hy'; rcases hy' with z | z <;> cases z
  | some k =>
   have hm:=PySem.mem_of_lookup e
   have hfree:k=.free:=by
    rw [e] at hy'
    cases k with
    | free=>rfl
    | cell=>exact absurd rfl (S.nocell _ hm)
    | _=>rcases hy' with z | z <;> simp at z
   subst hfree
   obtain ⟨c,hc⟩:=I.ok.has y (S.free _ hm rfl)
   exact dA.mp (Es X.env scope.names [] y hm (by rw [hc]; rfl))
 ·obtain ⟨f0,f1,f2,f3,f4,f5⟩:=hf b hb
  exact ⟨bp (ay (hlt b hb) hC),fun y c e=>f4 y c (cl y c e)⟩
 ·obtain ⟨f0,f1,f2,f3,f4,f5⟩:=hf b hb
  rcases f3 with z | z
  ·exact I.ok.noex b o e z
  ·exact absurd (ay (Heap.lt_size e) (bi I.ok.bsz z)) (et _)
 ·obtain ⟨f0,f1,f2,f3,f4,f5⟩:=hf b hb
  rcases cm.mp (I.Lr b hb') with e | e
  ·exact f1 e
  ·exact f2 e
 ·match i,h1,h2 with
  | 0,h1,h2 =>
   have h2':(some none:Option (Option V))=some (some v):=h2
   cases h2'
  | 1,h1,h2 =>
   have h2':(some none:Option (Option V))=some (some v):=h2
   cases h2'
  | i+2,h1,h2 =>
   have e0:X.N[i]? = some y:=h1
   have h2':σ[i]? = some (some v):=h2
   have hmem:y∈X.N:=al e0
   have h3':(Bq X x z scope C s H fp).env.scope.names.lookup y=some .local \/ (Bq X x z scope C s H fp).env.scope.names.lookup y=some .cell \/ (Bq X x z scope C s H fp).env.scope.names.lookup y=some .free:=h3
   rw [look y] at h3'
   cases e:scope.names.lookup y with
   | none=>rw [e] at h3'; rcases h3' with z | z | z <;> cases z
   | some k =>
    have hm:=PySem.mem_of_lookup e
    have hfree:k=.free:=by
     rw [e] at h3'
     cases k with
     | free=>rfl
     | cell=>exact absurd rfl (S.nocell _ hm)
     | «local»=>exact absurd e (S.only y hmem)
     | _=>rcases h3' with z | z | z <;> simp at z
    subst hfree
    have kd:=S.free _ hm rfl
    obtain ⟨m0,hn0,hl0⟩:=I.loc
    obtain ⟨u,r,l⟩:=hl0 i y v e0 h2' (by rcases kd with z | z; exact .inr (.inl z); exact .inr (.inr z))
    refine ⟨u,r,.inr ⟨?_,?_⟩⟩
    ·have hk':(Bq X x z scope C s H fp).env.scope.names.lookup y=some (if (NameKind.free == NameKind.free && X.env.scope.kind == .function && X.env.kindOf y == some .cell) then NameKind.cell else NameKind.free):=by
      rw [look y,e]; rfl
     by_cases c:(NameKind.free == NameKind.free && X.env.scope.kind == .function && X.env.kindOf y == some .cell)=true
     ·rw [if_pos c] at hk'; exact .inl hk'
     ·rw [if_neg c] at hk'; exact .inr hk'
    ·rcases l with ⟨lk,_⟩ | ⟨_,c,hc,hcell⟩
     ·exfalso
      rcases kd with z | z <;> (rw [show X.env.kindOf y=some NameKind.local from lk] at z; cases z)
     ·obtain ⟨c',hc'⟩:=dA.mp (Es X.env scope.names [] y hm (by rw [hc]; rfl))
      have:=cl y c' hc'
      rw [hc] at this
      cases this
      exact ⟨c,hc',cellK c _ hcell⟩
 ·obtain ⟨v,z⟩:=I.cell y c (cl y c e)
  exact ⟨v,cellK c v z⟩
 ·show (none::none::σ).length=(x::z::X.N).length
  simp [I.len]
end
noncomputable def MP (J:It) (σ:St) (H1:Hp) (Q:VK) (g:TG) (tt:TT) (te:TE):Prop:=∀ D,H1 D=none->∃ W:Nat->Nat->List V->Hp->Prop,(∃ m,W 0 m [] (upd H1 D (.lst [])))/\∀ i m ys H2,W i m ys H2 ->
 (J.stop i H2/\Q (.ref D) H2) \/ (J.go i H2/\∀ x H3,J.yld i H2 x H3->∀ v0 v1,g x (v0::v1::σ) H3 fun σ' H3'=>(∃ w0 w1,σ'=w0::w1::σ)/\tt σ' H3' fun b H4 =>
  if b=true then te σ' H4 fun y H5=>H5 D=some (.lst ys)/\ys.length<sizeLine/\∃ m',m'<m/\W (i+1) m' (ys++[y]) (upd H5 D (.lst (ys++[y])))
  else ∃ m',m'<m/\W (i+1) m' ys H4)
noncomputable def Uu (wi:TI) (g:TG) (tt:TT) (te:TE):TE:=fun σ H Q=>wi σ H fun J H1=>MP J σ H1 Q g tt te
section
variable {X:Cx} {x z:Str} {scope:Scope}
theorem Oc {tg:Expr} {pos:Pos} {iter elt:Expr} {ifs:List Expr} {g:TG} {tt:TT} {te:TE} {pins:List (Addr × Obj)} {σ:St} {s2:Shared} {H2:Hp} {it:Addr} {fp:List Addr} {tn:Nat->Heap->Prop} {J:It} {E:Value->Shared->Prop}
  {RR:Value->Addr->Result->Shared->Prop} {Q:VK}
  (hc:X.calm=true) (S:Er X x z scope) (hg:∀ C s₀ H₀ fp,PG (Bq X x z scope C s₀ H₀ fp) tg g) (ht:∀ C s₀ H₀ fp,Nb (Bq X x z scope C s₀ H₀ fp) ifs tt) (he:∀ C s₀ H₀ fp,PE (Bq X x z scope C s₀ H₀ fp) elt te)
  (I2:Inv X pins σ H2 s2) (T:Turn X.prog X.w X.K tg J fp it tn) (st2:tn 0 s2.heap) (f2:∀ b∈fp,Gf X pins H2 b) (q:MP J σ H2 Q g tt te)
  (hRR:∀ D C s' H' m,s'.heap.Ns C m->Gf X pins H' C->Inv X pins σ H' s'->Q (.ref D) H'->RR (.ref D) C (.ok .next) s') :
  wpAny (model X.prog X.w) X.A (newList []) (fun acc s₃=>wpAny (model X.prog X.w) X.A (newFunctionEnv scope X.env.globals (De X.env scope.names []) [] X.env.qual none .none (some X.env)) (fun cenv s₄ =>
   codeAny (model X.prog X.w) X.A (.compStart (.ListComp elt [⟨tg,iter,ifs,0⟩] scope pos) 0 (.ref it) acc { cenv with scope:=relabel scope X.env }) (RR acc cenv.locals) s₄) E s₃) E s2:=by
 refine wpAny_newObj_type (wpAny_newFunctionEnv S.nocell (by intro y hy; simp at hy) (fun h₁ hns₁ hsb₁=>?_) S.kind)
 have I3:=I2.Vm (its:=[]) (ys:=[]) (t':=s2.toks) .nil (dL _)
 have hD0:H2 s2.heap.objs.size=none:=I2.fresh
 obtain ⟨W,⟨m0,w0⟩,turn⟩:=q _ hD0
 generalize hs3:({ s2 with heap:=s2.heap.push { cls:=.type "list",data:=.seq ([]:List Value).toArray },toks:=s2.toks }:Shared)=s3 at I3
 have e3:s3.heap=s2.heap.push { cls:=.type "list",data:=.seq ([]:List Value).toArray }:=by rw [← hs3]
 have hlt:∀ b∈fp,b<s2.heap.objs.size:=fun b hb=>let ⟨_,e,_⟩:=T.obj _ _ st2 b hb; Heap.lt_size e
 have hlt3:∀ b∈fp,b<s3.heap.objs.size:=fun b hb=>by rw [e3,Heap.size_push]; exact gT (hlt b hb)
 have f3:∀ b∈fp,Gf X pins (upd H2 s2.heap.objs.size (.lst [])) b:=fun b hb=>⟨by rw [Aq (bp (hlt b hb))]; exact (f2 b hb).1,(f2 b hb).2⟩
 have hk1:∀ b o,s3.heap.get? b=some o->h₁.get? b=some o:=fun b o e=>by
  have hne:b ≠ s3.heap.objs.size:=bp (Heap.lt_size e)
  rw [e3] at e hne
  exact hsb₁.extBut b o hne (Heap.get?_push_of_some _ e)
 have hC:s3.heap.objs.size=(s2.heap.push { cls:=.type "list",data:=.seq ([]:List Value).toArray }).objs.size:=by rw [e3]
 have hns:h₁.Ns s3.heap.objs.size (fun x=>([]:List (Str × Value)).reverse.lookup x):=by rw [hC]; exact hns₁
 have st3:tn 0 h₁:=T.keep _ _ _ st2 fun b hb o e=>hk1 b o (by rw [e3]; exact Heap.get?_push_of_some _ e)
 have start:∀ tk,Inv (Bq X x z scope s3.heap.objs.size s3 (upd H2 s2.heap.objs.size (.lst [])) fp) [] (none::none::σ) (upd H2 s2.heap.objs.size (.lst [])) { s3 with heap:=h₁,toks:=tk }:=fun tk =>
  Nx I3 S f3 hlt3 (am _) hns hk1
 have loop:∀ tk,codeAny (model X.prog X.w) X.A (.compLoop (.ListComp elt [⟨tg,iter,ifs,0⟩] scope pos) 0 (.ref it) (.ref s2.heap.objs.size) (compEnvC scope (De X.env scope.names []) s3.heap.objs.size X.env))
   (RR (.ref s2.heap.objs.size) s3.heap.objs.size) { s3 with heap:=h₁,toks:=tk }:=by
  intro tk
  refine V9 (fun n s'=>∃ i ys v0 v1 H',Inv (Bq X x z scope s3.heap.objs.size s3 (upd H2 s2.heap.objs.size (.lst [])) fp) [] (v0::v1::σ) H' s'/\tn i s'.heap/\(∀ b∈fp,H' b=none)/\W i n ys H') rfl ?_ m0
   ⟨0,[],none,none,_,start tk,st3,fun b hb=>(f3 b hb).1,w0⟩
  rintro n s4 ⟨i,ys,v0,v1,H4,I4,st4,fr4,w4⟩
  have stat:∀ {H':Hp},(∀ b∈fp,H' b=none)->∀ b∈fp,Gf (Bq X x z scope s3.heap.objs.size s3 (upd H2 s2.heap.objs.size (.lst [])) fp) [] H' b:=fun hn b hb=>by
   refine ⟨hn b hb,(I4.ok.exf b hb).1,I4.ok.exfs b hb,.inl hb,(I4.ok.exf b hb).2,fun p hp=>absurd (show p∈([]:List (Addr × Obj)) from hp) (by simp)⟩
  rcases turn i n ys H4 w4 with ⟨stop,qn⟩ | ⟨go,step⟩
  ·refine Ci (T.done (Bq X x z scope s3.heap.objs.size s3 (upd H2 s2.heap.objs.size (.lst [])) fp) rfl rfl rfl hc i [] s4 (v0::v1::σ) H4 _ I4 (stat fr4) st4 stop) fun r s5 ⟨hr,I5⟩=>?_
   subst hr
   obtain ⟨m,hn,_⟩:=I5.loc
   refine hRR _ _ s5 H4 m hn (I3.Mx (am _) I5.free) (I3.call' (s':=s5) (ch:=fp) I5.os I5.base I5.hok I5.bare (fun b hb=>?_)) qn
   obtain ⟨_,g1,_,g3,g4,g5⟩:=f3 b hb
   exact ⟨g3,g1,g4,g5⟩
  ·refine Ci (T.item (Bq X x z scope s3.heap.objs.size s3 (upd H2 s2.heap.objs.size (.lst [])) fp) rfl rfl rfl hc i [] s4 (v0::v1::σ) H4 _ I4 (stat fr4) st4 go) fun r s5 ⟨u,hr,h5⟩=>?_
   subst hr
   refine Ci h5 fun _ s6 h6=>?_
   obtain ⟨xv,H6,I6,r6,y6,st6,fr6⟩:=h6
   have I6':=I6.pinned (stat fr6) (T.obj _ _ st6)
   have again:∀ {s7:Shared} {H7:Hp} {ys':List V} {w0 w1:Option V},Inv (Bq X x z scope s3.heap.objs.size s3 (upd H2 s2.heap.objs.size (.lst [])) fp) ([]++JK fp s6.heap) (w0::w1::σ) H7 s7->(∃ m',m'<n/\W (i+1) m' ys' H7) ->
     ∃ m,m<n/\∃ i ys v0 v1 H',Inv (Bq X x z scope s3.heap.objs.size s3 (upd H2 s2.heap.objs.size (.lst [])) fp) [] (v0::v1::σ) H' s7/\tn i s7.heap/\(∀ b∈fp,H' b=none)/\W i m ys H':=fun {s7 H7 ys' w0 w1} I7 hw=>by
    obtain ⟨m',hm,w7⟩:=hw
    refine ⟨m',hm,i+1,ys',w0,w1,H7,I7.HD,T.keep _ _ _ st6 fun b hb o e=>(I7.pin (b,o) (br _ (br _ (Et hb e)))).1,fun b hb=>?_,w7⟩
    obtain ⟨o,e,d⟩:=T.obj _ _ st6 b hb
    exact (I7.pin (b,o) (br _ (br _ (Et hb e)))).2.1
   refine O1 (hg _ _ _ _ _ s6 (v0::v1::σ) H6 xv u _ I6' r6 (step xv H6 y6 v0 v1)) fun _ s7 ⟨σ7,H7,I7,⟨w0,w1,e7⟩,q7⟩=>?_
   subst e7
   refine O1 (ht _ _ _ _ _ s7 (w0::w1::σ) H7 _ I7 q7) fun b s8 hq0=>?_
   obtain ⟨H8,I8,q8⟩:=hq0
   cases b with
   | false =>
    rw [if_neg cr] at q8 ⊢
    exact again I8 q8
   | true =>
    rw [if_pos rfl] at q8 ⊢
    refine O1 (he _ _ _ _ _ s8 (w0::w1::σ) H8 _ I8 q8) fun y s9 hq0=>?_
    obtain ⟨yv,H9,I9,r9,hD9,hz9,q9⟩:=hq0
    refine O1 (CK (X:=Bq X x z scope s3.heap.objs.size s3 (upd H2 s2.heap.objs.size (.lst [])) fp) _ s9 (w0::w1::σ) H9 (.ref s2.heap.objs.size) [yv] (.ref s2.heap.objs.size) [y] (fun _ H'=>H'=upd H9 s2.heap.objs.size (.lst (ys++[yv]))) I9 rfl (.cons r9 .nil)
     ⟨_,ys,yv,rfl,rfl,hD9,hz9,rfl⟩) fun _ s10 ⟨_,H10,I10,_,e10⟩=>?_
    subst e10
    exact again I10 q9
 have key:=fun tk=>codeAny_compStart_list (R:=RR (.ref s2.heap.objs.size) s3.heap.objs.size) (loop tk) (T.self X.A 0 { s3 with heap:=h₁,toks:=tk } (fun it' s'=>codeAny (model X.prog X.w) X.A (.compLoop (.ListComp elt [⟨tg,iter,ifs,0⟩] scope pos) 0 it' (.ref s2.heap.objs.size) (compEnvC scope (De X.env scope.names []) s3.heap.objs.size X.env)) (RR (.ref s2.heap.objs.size) s3.heap.objs.size) s') _ st3 (loop tk))
 subst hs3
 exact key _
theorem UV {tg:Expr} {pos:Pos} {iter elt:Expr} {ifs:List Expr} {wi:TI} {g:TG} {tt:TT} {te:TE} (hc:X.calm=true) (S:Er X x z scope) (hi:PI X tg iter wi) (hg:∀ C s₀ H₀ fp,PG (Bq X x z scope C s₀ H₀ fp) tg g)
  (ht:∀ C s₀ H₀ fp,Nb (Bq X x z scope C s₀ H₀ fp) ifs tt) (he:∀ C s₀ H₀ fp,PE (Bq X x z scope C s₀ H₀ fp) elt te) (hs:∀ x,foldedSetIterable iter X.env x=pure x:=by intro _; rfl) :
  PE X (.ListComp elt [⟨tg,iter,ifs,0⟩] scope pos) (Uu wi g tt te):=by
 intro pins s σ H Q I h
 rw [eval_ListComp]
 refine wpAny_comprehension_free (use:=none) (cl:=De X.env scope.names []) rfl hs (IW fun y hy hk=>I.ok.has y.1 (S.free y hy hk)) S.kind S.names (Ci (hi pins s σ H _ I h) fun v s1 h1=>Ci h1 fun itv s2 h2=>?_)
 obtain ⟨it,fp,tn,J,H2,e,I2,T,st2,f2,q⟩:=h2
 subst e
 refine Oc (RR:=fun acc C=>compPost (model X.prog X.w) X.A X.xe none (EP X pins σ Q) acc C) (Q:=Q) hc S hg ht he I2 T st2 f2 q ?_
 intro D C s' H' m hn hf hI hq
 exact ⟨m,hn,fun h' sb=>⟨.ref D,H',hI.sameBut hf sb,rfl,hq⟩⟩
end
end L2
namespace L2
open PySem PySem.Spec PySem.Calls PyProof.Rows
theorem Am.tup {K:PySem.W.Frag} {H H':Hp} {a:Addr} {xs:List V} (e:Am H H') (h:Fq K H a xs):Fq K H' a xs:=by
 rcases h with (h | ⟨o,h⟩) | h
 ·exact .inl (.inl (e _ _ h))
 ·exact .inl (.inr ⟨o,e _ _ h⟩)
 ·exact .inr h
noncomputable def TupAt (H:Hp) (zs:List V) (y:V):Prop:=∃ T,y=.ref T/\H T=some (.tup zs)
theorem TupAt.mono {H H':Hp} {zs:List V} {y:V} (s:Am H H') (h:TupAt H zs y):TupAt H' zs y:=let ⟨T,e,q⟩:=h; ⟨T,e,s _ _ q⟩
theorem TupAt.upd {H:Hp} {zs ys ws:List V} {y:V} {D:Addr} (h:TupAt H zs y) (hD:H D=some (.lst ys)):TupAt (upd H D (.lst ws)) zs y:=by
 obtain ⟨T,e,q⟩:=h
 refine ⟨T,e,?_⟩
 rw [Aq fun z=>by rw [z,hD] at q; cases q]
 exact q
theorem BZ {α:Type} {H:Hp} {f:α->List V} {l:List α} {vs ys ws:List V} {D:Addr} (h:Paired (fun a y=>TupAt H (f a) y) l vs) (hD:H D=some (.lst ys)):Paired (fun a y=>TupAt (upd H D (.lst ws)) (f a) y) l vs:=Paired.Ga h fun _ _ q=>q.upd hD
theorem BL {α:Type} {H H':Hp} {f:α->List V} {l:List α} {vs:List V} (s:Am H H') (h:Paired (fun a y=>TupAt H (f a) y) l vs):Paired (fun a y=>TupAt H' (f a) y) l vs:=Paired.Ga h fun _ _ q=>q.mono s
noncomputable def Oo (x z:Str) (scope osc:Scope) (N:List Str):Bool :=
 (scope.kind == .function) && scope.names.all (fun y=>y.2 != .cell && (y.2 != .local || scope.names.lookup y.1 == some .local) && (y.2 != .free || osc.names.lookup y.1 == some .cell || osc.names.lookup y.1 == some .free)) && (scope.names.lookup x == some .local) && (scope.names.lookup z == some .local) &&
 decide ((x::z::N).Nodup) && N.all (fun y=>scope.names.lookup y != some .local)
theorem KH {X:Cx} {x z:Str} {scope osc:Scope} {N:List Str} (hsc:X.env.scope=osc) (hN:X.N=N) (h:Oo x z scope osc N=true):Er X x z scope:=by
 unfold Oo at h
 simp only [Bool.and_eq_true] at h
 obtain ⟨⟨⟨⟨⟨h1,h2⟩,h3⟩,h3'⟩,h4⟩,h5⟩:=h
 rw [cw] at h2 h5
 have kind:∀ y,X.env.kindOf y=osc.names.lookup y:=fun y=>by show X.env.scope.names.lookup y=_; rw [hsc]
 refine ⟨by simpa using h1,fun y hy=>?_,fun y hy hk=>?_,by simpa using h3,by simpa using h3',fun y hy hk=>?_,by rw [hN]; exact of_decide_eq_true h4,fun y hy=>?_⟩
 ·have:=h2 y hy
  simp only [Bool.and_eq_true,bne_iff_ne] at this
  exact this.1.1
 ·have:=h2 y hy
  simp only [Bool.and_eq_true] at this
  simpa [hk] using this.1.2
 ·have:=h2 y hy
  simp only [Bool.and_eq_true] at this
  rw [kind]
  simpa [hk] using this.2
 ·have:=h5 y (by rw [← hN]; exact hy)
  simpa using this
section
variable {X:Cx} {x z:Str} {scope:Scope}
theorem Wc {px pz pos:Pos} {k:Nat} {C:Addr} {s₀:Shared} {H₀:Hp} {fp:List Addr} (hc:X.calm=true) (S:Er X x z scope) :
  PG (Bq X x z scope C s₀ H₀ fp) (.Tuple [.Name x px,.Name z pz] k pos) (Vt X.K 2 (J4 (Df 0) (J4 (Df 1) Wg))):=by
 have l1:(Bq X x z scope C s₀ H₀ fp).env.scope.names.lookup x=some .local:=lookup_relabel_local S.loc
 have l2:(Bq X x z scope C s₀ H₀ fp).env.scope.names.lookup z=some .local:=lookup_relabel_local S.loz
 exact Kh (X:=Bq X x z scope C s₀ H₀ fp) (n:=2) hc (Dy (Cu (X:=Bq X x z scope C s₀ H₀ fp) (i:=0) S.nd rfl (.inl l1) (.inr l1)) (Dy (Cu (X:=Bq X x z scope C s₀ H₀ fp) (i:=1) S.nd rfl (.inl l2) (.inr l2)) Iu))
theorem Qv {px pz tpos:Pos} {k:Nat} {pos:Pos} {iter elt:Expr} {ifs:List Expr} {wi:TI} {tt:TT} {te:TE} (hc:X.calm=true) (S:Er X x z scope) (hi:PI X (.Tuple [.Name x px,.Name z pz] k tpos) iter wi)
  (ht:∀ C s₀ H₀ fp,Nb (Bq X x z scope C s₀ H₀ fp) ifs tt) (he:∀ C s₀ H₀ fp,PE (Bq X x z scope C s₀ H₀ fp) elt te) (hs:∀ x,foldedSetIterable iter X.env x=pure x:=by intro _; rfl) :
  PE X (.ListComp elt [⟨.Tuple [.Name x px,.Name z pz] k tpos,iter,ifs,0⟩] scope pos) (Uu wi (Vt X.K 2 (J4 (Df 0) (J4 (Df 1) Wg))) tt te) :=
 UV hc S hi (fun _ _ _ _=>Wc hc S) ht he hs
end
section
variable {σ:St} {H1:Hp} {Q:VK} {tt:TT} {te:TE}
theorem DY {K:PySem.W.Frag} {a:Addr} {xs:List V} (p:V->Bool) (f:V->V) (hl:Dh K H1 a xs) (hz:xs.length<sizeLine)
  (ht:∀ x∈xs,∀ H,Am H1 H->∀ R:Bool->Hp->Prop,(∀ H',Am H H'->R (p x) H')->tt (some x::σ) H R)
  (he:∀ x∈xs,p x=true->∀ H,Am H1 H->∀ R:VK,(∀ H',Am H H'->R (f x) H')->te (some x::σ) H R)
  (hq:∀ D H,H1 D=none->Am H1 H->H D=some (.lst ((xs.filter p).map f))->Q (.ref D) H):Gg (Yt K a) σ H1 Q tt te :=
 GJ p f hz (fun i H x hs hx=>⟨xs,x,hs.seq hl,hx⟩) (fun i H y H' hs _ hy=>⟨hy.1,hy.2 xs (hs.seq hl)⟩) (fun H hs=>⟨xs,hs.seq hl,am _⟩) ht he hq
theorem K3 {J:It} {xs:List V} (p:V->Bool) (f:V->List V) (hz:xs.length<sizeLine)
  (hgo:∀ i H x,Am H1 H->xs[i]? = some x->J.go i H) (hy:∀ i H y H',Am H1 H->i<xs.length->J.yld i H y H'->H'=H/\xs[i]? = some y) (hstop:∀ H,Am H1 H->J.stop xs.length H)
  (ht:∀ x∈xs,∀ H,Am H1 H->∀ R:Bool->Hp->Prop,(∀ H',Am H H'->R (p x) H')->tt (some x::σ) H R)
  (he:∀ x∈xs,p x=true->∀ H,Am H1 H->∀ R:VK,(∀ y H',Am H H'->TupAt H' (f x) y->R y H')->te (some x::σ) H R)
  (hq:∀ D H ys,H1 D=none->Am H1 H->H D=some (.lst ys)->Paired (fun x y=>TupAt H (f x) y) (xs.filter p) ys->Q (.ref D) H):Gg J σ H1 Q tt te:=by
 intro D hD
 have s0:Am H1 (upd H1 D (.lst [])):=fun b o e=>by rw [Aq (Ao e hD)]; exact e
 refine ⟨fun i m ys H=>m=xs.length - i/\i<=xs.length/\H D=some (.lst ys)/\Paired (fun x y=>TupAt H (f x) y) ((xs.take i).filter p) ys/\Am H1 H,⟨xs.length,by simp,Nat.zero_le _,Af,by simpa using Paired.nil,s0⟩,?_⟩
 rintro i m ys H ⟨rfl,hi,hd,hp,hs⟩
 by_cases hlt:i<xs.length
 ·obtain ⟨x,hx⟩:∃ x,xs[i]? = some x:=⟨xs[i],by simp [hlt]⟩
  refine .inr ⟨hgo i H x hs hx,fun y H3 hyl=>?_⟩
  obtain ⟨rfl,hy'⟩:=hy i H y H3 hs hlt hyl
  rw [hx] at hy'
  cases hy'
  have hm:x∈xs:=al hx
  have hlen:ys.length<sizeLine:=by
   rw [← hp.length]
   refine bt (ee _ _) (bt ?_ hz)
   rw [bq]; omega
  refine ht x hm _ hs _ fun H4 s4=>?_
  by_cases hpx:p x=true
  ·rw [if_pos hpx]
   refine he x hm hpx H4 (hs.trans s4) _ fun y H5 s5 hφ=>?_
   refine ⟨s5 _ _ (s4 _ _ hd),hlen,xs.length - (i+1),by omega,rfl,hlt,Af,?_,fun b o e=>?_⟩
   ·rw [take_succ_filter p xs i x hx,if_pos hpx]
    exact (BZ (BL (s4.trans s5) hp) (s5 _ _ (s4 _ _ hd))).snoc (hφ.upd (s5 _ _ (s4 _ _ hd)))
   ·rw [Aq (Ao e hD)]; exact s5 _ _ (s4 _ _ (hs _ _ e))
  ·rw [if_neg hpx]
   refine ⟨xs.length - (i+1),by omega,rfl,hlt,s4 _ _ hd,?_,hs.trans s4⟩
   rw [take_succ_filter p xs i x hx,if_neg hpx,dQ]
   exact BL s4 hp
 ·have e:i=xs.length:=by omega
  subst e
  rw [eg] at hp
  exact .inl ⟨hstop H hs,hq D H ys hD hs hd hp⟩
theorem J9 {K:PySem.W.Frag} {a:Addr} {xs:List V} (p:V->Bool) (f:V->List V) (hl:Dh K H1 a xs) (hz:xs.length<sizeLine)
  (ht:∀ x∈xs,∀ H,Am H1 H->∀ R:Bool->Hp->Prop,(∀ H',Am H H'->R (p x) H')->tt (some x::σ) H R)
  (he:∀ x∈xs,p x=true->∀ H,Am H1 H->∀ R:VK,(∀ y H',Am H H'->TupAt H' (f x) y->R y H')->te (some x::σ) H R)
  (hq:∀ D H ys,H1 D=none->Am H1 H->H D=some (.lst ys)->Paired (fun x y=>TupAt H (f x) y) (xs.filter p) ys->Q (.ref D) H):Gg (Yt K a) σ H1 Q tt te :=
 K3 p f hz (fun i H x hs hx=>⟨xs,x,hs.seq hl,hx⟩) (fun i H y H' hs _ hy=>⟨hy.1,hy.2 xs (hs.seq hl)⟩) (fun H hs=>⟨xs,hs.seq hl,am _⟩) ht he hq
theorem Mz {α β:Type} {F:α->β->Prop} (g:Nat->α):∀ {n:Nat} {l:List α} {ys:List β},Paired F l ys->l=(List.range n).map g->Paired (fun i y=>F (g i) y) (List.range n) ys:=by
 intro n
 have key:∀ (js:List Nat) (ys:List β),Paired F (js.map g) ys->Paired (fun i y=>F (g i) y) js ys:=by
  intro js
  induction js with
  | nil=>intro ys h; cases h; exact .nil
  | cons j js ih =>
   intro ys h
   cases h with
   | cons a b=>exact .cons a (ih _ b)
 intro l ys h e
 subst e
 exact key _ _ h
theorem Rm {n:Nat} (f:Nat->List V) (hz:n<sizeLine)
  (he:∀ i:Nat,i<n->∀ H,Am H1 H->∀ R:VK,(∀ y H',Am H H'->TupAt H' (f i) y->R y H')->te (some (.int (i:Int))::σ) H R)
  (hq:∀ D H ys,H1 D=none->Am H1 H->H D=some (.lst ys)->Paired (fun i y=>TupAt H (f i) y) (List.range n) ys->Q (.ref D) H):Gg (W3 0 n) σ H1 Q V7 te:=by
 let g:V->Nat:=fun v=>match v with | .int i=>i.toNat | _=>0
 have hxs:∀ i:Nat,i<n->((List.range n).map fun (i:Nat)=>V.int (i:Int))[i]? = some (.int i):=fun i hi=>by simp [hi]
 refine K3 (xs:=(List.range n).map fun (i:Nat)=>V.int (i:Int)) (fun _=>true) (fun v=>f (g v)) (by simpa using hz) (fun i H x _ hx=>?_) (fun i H y H' _ hi hy=>?_) (fun H _=>?_) (fun x hx H hs R k=>k H (Am.refl H)) (fun x hx _ H hs R k=>?_) (fun D H ys h1 h2 h3 h4=>?_)
 ·have:i<((List.range n).map fun (i:Nat)=>V.int (i:Int)).length:=(af.mp hx).1
  show i<n
  simpa using this
 ·obtain ⟨e1,e2⟩:=hy
  have hi':i<n:=by simpa using hi
  refine ⟨e1,?_⟩
  rw [hxs i hi',e2,iA]
 ·show n<=_
  simp
 ·obtain ⟨i,hi,rfl⟩:=aS.mp hx
  exact he i (fg.mp hi) H hs R k
 ·rw [ax.mpr (fun _ _=>rfl)] at h4
  exact hq D H ys h1 h2 h3 (Mz (F:=fun x y=>TupAt H (f (g x)) y) (fun i=>V.int (i:Int)) h4 rfl)
theorem NZ {K:PySem.W.Frag} {a b:Addr} {xs ys:List V} (f:V->V->V) (hx:Fq K H1 a xs) (hy:Fq K H1 b ys) (hl:xs.length=ys.length) (hz:xs.length<sizeLine)
  (he:∀ (i:Nat) x y,xs[i]? = some x->ys[i]? = some y->∀ H,Am H1 H->∀ R:VK,(∀ H',Am H H'->R (f x y) H')->te (some x::some y::σ) H R)
  (hq:∀ D H,H1 D=none->Am H1 H->H D=some (.lst (List.zipWith f xs ys))->Q (.ref D) H):MP (iR K a b) σ H1 Q (Vt K 2 (J4 (Df 0) (J4 (Df 1) Wg))) V7 te:=by
 intro D hD
 have s0:Am H1 (upd H1 D (.lst [])):=fun b o e=>by rw [Aq (Ao e hD)]; exact e
 refine ⟨fun i m zs H=>m=xs.length - i/\i<=xs.length/\zs=(List.zipWith f xs ys).take i/\H D=some (.lst zs)/\Am H1 H,⟨xs.length,by simp,Nat.zero_le _,by simp,Af,s0⟩,?_⟩
 rintro i m zs H ⟨rfl,hi,rfl,hd,hs⟩
 have hzl:(List.zipWith f xs ys).length=xs.length:=by rw [List.length_zipWith]; omega
 by_cases hlt:i<xs.length
 ·have ex:xs[i]? = some xs[i]:=ae hlt
  have ey:ys[i]? = some ys[i]:=ae (hl ▸ hlt)
  refine .inr ⟨⟨xs,ys,_,_,hs.tup hx,hs.tup hy,ex,ey⟩,fun v H3 hv v0 v1=>?_⟩
  obtain ⟨T,hT,rfl,hv⟩:=hv
  obtain ⟨x,y,qx,qy,rfl⟩:=hv xs ys (hs.tup hx) (hs.tup hy)
  have s3:Am H (upd H T (.tup [x,y])):=fun b o e=>by rw [Aq (Ao e hT)]; exact e
  refine ⟨T,[x,y],rfl,ja Af,rfl,x,[y],rfl,y,[],rfl,rfl,⟨_,_,rfl⟩,?_⟩
  unfold V7
  dsimp only
  rw [if_pos rfl]
  refine he i x y qx qy _ (hs.trans s3) _ fun H5 s5=>?_
  refine ⟨s5 _ _ (s3 _ _ hd),?_,xs.length - (i+1),by omega,rfl,hlt,?_,Af,fun b o e=>?_⟩
  ·rw [bq,hzl]
   omega
  ·rw [fh,hZ,qx,qy]
   rfl
  ·rw [Aq (Ao e hD)]
   exact s5 _ _ (s3 _ _ (hs _ _ e))
 ·have e:i=xs.length:=by omega
  subst e
  rw [← hzl,eg] at hd
  exact .inl ⟨⟨xs,hs.tup hx,am _⟩,hq D H hD hs hd⟩
end
theorem Gx {K:PySem.W.Frag} {a:Addr} {xs:List V} {g:TG} {tb:TS} {D:Ends} {σ:St} {H:Hp} (Pv:Nat->St->Hp->Prop) (h0:Pv 0 σ H) (hl:∀ i σ H,i<=xs.length->Pv i σ H->Dh K H a xs)
  (hb:∀ (i:Nat) x σ H T,xs[i]? = some x->Pv i σ H->H T=none->g (.ref T) σ (upd H T (.tup [.int (i:Int),x])) fun σ' H'=>tb { D with nx:=Pv (i+1),ct:=Pv (i+1),bk:=D.nx } σ' H')
  (hn:∀ σ H,Pv xs.length σ H->D.nx σ H):∃ W:Nat->Nat->St->Hp->Prop,(∃ m,W 0 m σ H)/\∀ i m σ H,W i m σ H ->
   ((aU K a).stop i H/\D.nx σ H) \/ ((aU K a).go i H/\∃ N:St->Hp->Prop,(∀ σ H,N σ H->∃ m',m'<m/\W (i+1) m' σ H)/\∀ x H',(aU K a).yld i H x H'->g x σ H' fun σ' H''=>tb { D with nx:=N,ct:=N,bk:=D.nx } σ' H''):=by
 refine ⟨fun i m σ H=>m=xs.length - i/\i<=xs.length/\Pv i σ H,⟨_,rfl,dL _,h0⟩,?_⟩
 rintro i m σ H ⟨rfl,hi,hp⟩
 by_cases hlt:i<xs.length
 ·refine .inr ⟨⟨xs,_,hl i σ H hi hp,ae hlt⟩,Pv (i+1),fun σ' H' h=>⟨xs.length - (i+1),by omega,rfl,hlt,h⟩,fun v H' hv=>?_⟩
  obtain ⟨T,hT,rfl,hv⟩:=hv
  obtain ⟨x,qx,rfl⟩:=hv xs (hl i σ H hi hp)
  exact hb i x σ H T qx hp hT
 ·have e:i=xs.length:=by omega
  subst e
  exact .inl ⟨⟨xs,hl _ σ H hi hp,am _⟩,hn σ H hp⟩
end L2
namespace L2
open PySem PySem.Spec PySem.Calls PyProof.Rows
structure Hs (K:PySem.W.Frag) (C:Addr):Prop where
 ga:PySem.W.findIn K (.ref C) "__getattribute__" = some (some (.builtin "BaseException.__getattribute__"))
 gt:PySem.W.findIn K (.ref C) "__getattr__" = some none
 mb:PySem.W.mroIn K C (.type "BaseException")=some true
 hd:PySem.W.hasDictIn K C=true
 ca:PySem.W.findIn K (.ref C) "__class__" = some (some (.builtin "object.__class__"))
 cg:PySem.W.specialIn K (.builtin "object.__class__") "__get__" = some (some (.builtin "getset_descriptor.__get__"))
 ct:PySem.W.takesIn K (.builtin "object.__class__")=some true
 mo:PySem.W.mroIn K C (.type "object")=some true
section
variable {prog:Program} {w:World} {A:Around} {E:Value->Shared->Prop} {s:Shared} {K:PySem.W.Frag} {x C:Addr} {ox:Obj} {od:Option Obj} {name:Str} {tk:Tok} {R:Result->Shared->Prop}
theorem S5:builtinKind "BaseException.__getattribute__" = some .slot:=by decide +kernel
theorem RB:splitId "BaseException.__getattribute__" = some ("BaseException","__getattribute__"):=by decide +kernel
theorem K9 (X:K.In s.heap) (I:PySem.W.InstAt s.heap x ox C od) (c:Hs K C)
  (h:wpAny (model prog w) A.in1 (Builtin.«object.__getattribute__» ⟨[.ref x,.str name tk],[]⟩) (fun fin s'=>match fin with | Fin.done f=>R (.ok f) s' | Fin.again c'=>c'.quiet=true/\codeAny (model prog w) A c' R s') (fun e s'=>R (.error e) s') s) :
  codeAny (model prog w) A (.call (.builtin "BaseException.__getattribute__") ⟨[.ref x,.str name tk],[]⟩) R s:=by
 have sub:PySem.W.Looks (model prog w) s.heap (isInstance (.ref x) (.type "BaseException")) true:=I.type.andThen (PySem.W.looks_mroIn X c.mb)
 exact codeAny_call_builtin PySem.F.attrBase_ValueError.ga.plain PySem.F.entry_bexc_ga (@PySem.W.check_slot (model prog w) _ _ s "BaseException.__getattribute__" "BaseException" "__getattribute__" (.ref x) [.str name tk] [] _ S5 RB sub (PySem.F.args_bexc_ga _ _) h)
theorem RK {v:Value} (X:K.In s.heap) (I:PySem.W.InstAt s.heap x ox C od) (c:Hs K C) (hf:PySem.W.findObj K C od name=some (.value v)) (h:R (.ok (.ret v)) s) :
  codeAny (model prog w) A (.call (.builtin "BaseException.__getattribute__") ⟨[.ref x,.str name tk],[]⟩) R s:=by
 refine K9 X I c ?_
 obtain ⟨hh,g,d,t,os⟩:=s
 have L0:=I.type (M:=model prog w)
 have L1:=PySem.W.looks_find (M:=model prog w) X I hf
 unfold Builtin.«object.__getattribute__»
 exact wpAny_bind (wpAny_pure (wpAny_bind (wpAny_pure (wpAny_bind (L0.at (wpAny_bind (L1.at (wpAny_pure h))))))))
theorem Rq (X:K.In s.heap) (I:PySem.W.InstAt s.heap x ox C od) (c:Hs K C) (h:R (.ok (.ret (.ref C))) s) :
  codeAny (model prog w) A (.call (.builtin "BaseException.__getattribute__") ⟨[.ref x,.str "__class__" tk],[]⟩) R s:=by
 have hf:PySem.W.findObj K C od "__class__" = some (.bind (.builtin "getset_descriptor.__get__") (.builtin "object.__class__")):=by
  obtain ⟨cd,hc,_⟩:=PySem.W.any_some c.hd
  unfold PySem.W.findObj
  rw [hc,Option.bind_some,c.ca,Option.bind_some]
  simp [c.cg,c.ct]
 refine K9 X I c ?_
 obtain ⟨hh,g,d,t,os⟩:=s
 have L0:=I.type (M:=model prog w)
 have L1:=PySem.W.looks_find (M:=model prog w) X I hf
 unfold Builtin.«object.__getattribute__»
 refine wpAny_bind (wpAny_pure (wpAny_bind (wpAny_pure (wpAny_bind (L0.at (wpAny_bind (L1.at ?_)))))))
 show wpAny _ _ (holding [Value.builtin "object.__class__"] (call (.builtin "getset_descriptor.__get__") [.builtin "object.__class__",.ref x,.ref C]) >>= ret) _ _ _
 exact wpAny_bind (wpAny_holding (wpAny_call (PySem.W.class_get (ox:=ox) (od:=od) X I c.mo (wpAny_pure h))))
theorem lL {fill expr:Bool} {Q:Value->Shared->Prop} {v:Value} (X:K.In s.heap) (I:PySem.W.InstAt s.heap x ox C od) (c:Hs K C) (hh:PySem.W.handedIn v=true)
  (hc:∀ (A:Around) (R:Result->Shared->Prop),R (.ok (.ret v)) s->codeAny (model prog w) A (.call (.builtin "BaseException.__getattribute__") ⟨[.ref x,.str name tk],[]⟩) R s) (h:Q v s) :
  wpAny (model prog w) A (getAttrBy (.ref x) (.str name tk) fill expr) Q E s:=by
 have L0:=I.type (M:=model prog w)
 have L1:=PySem.W.looks_findIn (M:=model prog w) X c.ga
 have L2:=PySem.W.looks_findIn (M:=model prog w) X c.gt
 have hx2:(Value.builtin "BaseException.__getattribute__" == Value.builtin "object.__getattribute__")=false:=by decide +kernel
 have hx0:(expr && onTheHeap (Value.builtin "BaseException.__getattribute__"))=false:=by cases expr <;> rfl
 obtain ⟨hp,g,d,t,os⟩:=s
 unfold getAttrBy
 refine wpAny_holding (wpAny_bind (L0.at (wpAny_bind (L1.at ?_))))
 show wpAny _ _ (if (onTheHeap (Value.ref C) && Value.builtin "BaseException.__getattribute__" == Value.builtin "object.__getattribute__")=true then _ else _) _ _ _
 rw [if_neg (by rw [hx2,Bool.and_false]; exact cr)]
 unfold getAttrByItsOwn hookBefore
 rw [if_pos (show onTheHeap (Value.ref C)=true from rfl)]
 refine wpAny_bind (L2.at (wpAny_bind (wpAny_attempt (wpAny_holding ?_))))
 unfold callGetattribute
 rw [if_neg (by rw [hx0]; exact cr)]
 unfold boundAndCalled
 refine wpAny_bind (wpAny_of_eq (PySem.F.attrBase_ValueError.ga.bind (.ref x)) ?_)
 refine wpAny_call (hc _ _ ?_)
 show wpAny _ _ (handedOut v) _ _ _
 rw [PySem.W.handedOut_of hh]
 exact wpAny_pure h
theorem jE {expr:Bool} {Q:Value->Shared->Prop} {v:Value} (X:K.In s.heap) (I:PySem.W.InstAt s.heap x ox C od) (c:Hs K C) (hf:PySem.W.findObj K C od name=some (.value v)) (hh:PySem.W.handedIn v=true) (h:Q v { s with toks:=s.toks+1 }) :
  wpAny (model prog w) A (getAttr (.ref x) name expr) Q E s:=by
 unfold getAttr
 exact wpAny_bind (wpAny_mkText (lL (s:={ s with toks:=s.toks+1 }) X I c hh (fun A R q=>RK (s:={ s with toks:=s.toks+1 }) X I c hf q) h))
theorem Y5 {Q:Option Value->Shared->Prop} (X:K.In s.heap) (I:PySem.W.InstAt s.heap x ox C od) (c:Hs K C) (h:Q (some (.ref C)) { s with toks:=s.toks+1 }) :
  wpAny (model prog w) A (getAttr? (.ref x) "__class__") Q E s:=by
 unfold getAttr? getAttrBy?
 exact wpAny_bind (wpAny_mkText (wpAny_bind (wpAny_attempt (lL (s:={ s with toks:=s.toks+1 }) X I c rfl (fun A R q=>Rq (s:={ s with toks:=s.toks+1 }) X I c q) (wpAny_pure h)))))
theorem T_ (c:Hs K C):PySem.W.KitX K (.ref x) (.ref C) (fun h=>PySem.W.InstAt h x ox C od) where
 ty:=fun _ _ _ I=>I.type
 it:=fun _ _ X _=>by
  obtain ⟨cdD,hcD,_⟩:=PySem.W.any_some c.hd
  unfold PySem.W.clsIn at hcD
  split at hcD
  ·rename_i c' d' cd' sl' ho
   intro A' Q' E' s' k q
   unfold isType loadHead
   exact wpAny_bind (wpAny_loadPart (k _ _ (X _ _ ho)) (wpAny_pure q))
  ·cases hcD
 ne:=fun h tp dd its n sl X htp=>by
  obtain ⟨cdD,hcD,_⟩:=PySem.W.any_some c.hd
  refine Bool.eq_false_iff.mpr fun q=>?_
  have e:C=tp:=Value.ref.inj (beq_iff_eq.mp q)
  subst e
  unfold PySem.W.clsIn at hcD
  split at hcD
  ·rename_i c' d' cd' sl' ho
   have z:=(X _ _ ho).symm.trans htp
   cases z
  ·cases hcD
 ca:=fun X I k=>Y5 X I c k
end
end L2
namespace L2
open PySem PySem.Spec PySem.Calls PyProof.Rows
noncomputable abbrev R0:List Value:=[.type "ValueError",.type "Exception",.type "BaseException",.type "object"]
noncomputable def IV (K:PySem.W.Frag) (C:Addr):Bool:=match K.lookup C with
 | some ⟨.type "type",_,.cls cd,sl⟩=>(match cd.mro,sl.toList with
  | .ref D::bm,[_,_,_,_,some (.builtin n),_]=>(D == C) && ((n == "ValueError.__new__") && ((!cd.hasDel) && PySem.W.tailIn K R0 bm))
  | _,_=>false)
 | _=>false
theorem Ly {K:PySem.W.Frag} {h:Heap} {C:Addr} (X:K.In h) (q:IV K C=true) :
  ∃ bm N nm qn bs hdct sn sub ab col dd k0 k1 k2 k3 k5,h.get? C=some (excClassObj nm qn C N bs bm hdct sn sub ab col dd k0 k1 k2 k3 k5 "ValueError.__new__")/\OwnTail h R0 bm:=by
 unfold IV at q
 split at q
 ·rename_i dd cd sl look
  split at q
  ·rename_i D bm k0 k1 k2 k3 n k5 e1 e2
   simp only [Bool.and_eq_true,beq_iff_eq,Bool.not_eq_true'] at q
   obtain ⟨q1,q2,q3,q4⟩:=q
   obtain ⟨nm,bs,mro,ns,qn,hd,sn,sub,ab,col,del⟩:=cd
   dsimp only at e1 q3
   subst e1 q3 q1 q2
   obtain ⟨l⟩:=sl
   simp only at e2
   subst e2
   exact ⟨bm,ns,nm,qn,bs,hd,sn,sub,ab,col,dd,k0,k1,k2,k3,k5,X _ _ look,PySem.W.tail_of_in X q4⟩
  ·cases q
 ·cases q
section
variable {prog:Program} {w:World} {A:Around} {E:Value->Shared->Prop} {K:PySem.W.Frag} {C:Addr} {h:Heap} {g:Array GenState} {d:Drawn} {t:Nat} {os:OsState}
noncomputable def newX (h:Heap) (C:Addr) (rest:List Value):Heap:=(h.push { cls:=.type "tuple",data:=.seq rest.toArray }).push { cls:=.ref C,data:=.fields #[.ref h.objs.size,.none,.none,.none,.bool false,.none] }
theorem Om (h:Heap) (C:Addr) (rest:List Value):(newX h C rest).get? (h.objs.size+1)=some { cls:=.ref C,data:=.fields #[.ref h.objs.size,.none,.none,.none,.bool false,.none] }:=by
 unfold newX
 have:=Heap.get?_push_size (h.push { cls:=.type "tuple",data:=.seq rest.toArray }) (o:={ cls:=.ref C,data:=.fields #[.ref h.objs.size,.none,.none,.none,.bool false,.none] }) rfl
 rwa [Heap.size_push] at this
theorem Hd (h:Heap) (C:Addr) (rest:List Value):∀ b o,h.get? b=some o->(newX h C rest).get? b=some o:=fun _ _ e=>Heap.get?_push_of_some _ (Heap.get?_push_of_some _ e)
theorem Ks {rest:List Value} {init:Value} {Q:Fin->Shared->Prop} (X:K.In h) (q:IV K C=true) (hi:PySem.W.findIn K (.ref C) "__init__" = some (some init)) (hrest:rest.length<=sizeLine)
  (hb:∀ self,PySem.W.Looks (model prog w) (newX h C rest) (bindSpecial init self) (init,[self]))
  (k:wpAny (model prog w) A (call init (.ref (h.objs.size+1)::rest)) (fun r s'=>r=.none/\Q (.done (.ret (.ref (h.objs.size+1)))) s') E ⟨newX h C rest,g,d,t,os⟩) :
  wpAny (model prog w) A (Builtin.«type.__call__» ⟨.ref C::rest,[]⟩) Q E ⟨h,g,d,t,os⟩:=by
 obtain ⟨bm,N,nm,qn,bs,hdct,sn,sub,ab,col,dd,k0,k1,k2,k3,k5,hC,T⟩:=Ly X q
 have Fn:=PySem.F.excBase_ValueError
 repeat (first | with_reducible refine wpAny_loadPart_at hC ?_ | with_reducible refine wpAny_madeBy_exc hC ?_ | wp_step)
 refine codeAny_call_builtin_code (Code.quiet_builtin _ Fn.quiet) (wpAny_check_new_subU Fn (by decide) T hC ?_)
 refine codeAny_exc_new_subU Fn (by decide) Fn T hC ?_ hrest
 show wpAny _ _ _ _ _ _
 have hget:=Om h C rest
 have hC1:=Hd h C rest _ _ hC
 unfold newX at hget hC1
 have hcC:(Value.ref C::bm).contains (.ref C)=true:=by simp
 unfold isInstance
 repeat (first | with_reducible refine wpAny_loadPart_at hget ?_ | (with_reducible refine wpAny_isSubtype_exc hC1 ?_; rw [hcC]) | wp_step)
 show wpAny _ _ (typeLookup (.ref C) _) _ _ _
 have L:=PySem.W.looks_findIn (M:=model prog w) (h:=newX h C rest) (X.keeps (Hd h C rest)) hi
 refine L.at (wpAny_holding (wpAny_bind ((hb _).at (wpAny_bind (wpAny_mono k (fun r s' z=>?_) fun _ _ e=>e)))))
 obtain ⟨e,z⟩:=z
 subst e
 refine wpAny_pure ?_
 exact wpAny_pure z
theorem R_ {rest:List Value} {init:Value} {R:Result->Shared->Prop} (X:K.In h) (q:IV K C=true) (hi:PySem.W.findIn K (.ref C) "__init__" = some (some init)) (hrest:rest.length<=sizeLine)
  (hb:∀ self,PySem.W.Looks (model prog w) (newX h C rest) (bindSpecial init self) (init,[self]))
  (k:∀ A',A'=A.under (.builtin "type.__call__" ⟨.ref C::rest,[]⟩)->wpAny (model prog w) A' (call init (.ref (h.objs.size+1)::rest)) (fun r s'=>r=.none/\R (.ok (.ret (.ref (h.objs.size+1)))) s') (fun e s'=>R (.error e) s') ⟨newX h C rest,g,d,t,os⟩) :
  codeAny (model prog w) A (.call (.ref C) ⟨rest,[]⟩) R ⟨h,g,d,t,os⟩:=by
 obtain ⟨bm,N,nm,qn,bs,hdct,sn,sub,ab,col,dd,k0,k1,k2,k3,k5,hC,T⟩:=Ly X q
 have f1:=tc_lookup
 have f2:=tc_bind (.ref C)
 have hT:(⟨h,g,d,t,os⟩:Shared).TypeIs (.ref C) "type":=⟨_,hC,rfl⟩
 refine codeAny_of_tree ?_
 show wpAny _ _ (callAny (.ref C) _) _ _ _
 repeat (any_goals (first | assumption | with_reducible refine wpAny_loadPart_at hC ?_ | wp_step))
 refine ⟨rfl,?_⟩
 refine codeAny_call_builtin_at (Code.quiet_builtin _ (by decide +kernel)) entry_typeCall (wpAny_check_type_call_sub hC (Ks X q hi hrest hb ?_))
 refine wpAny_mono (k _ ?_) (fun r s' z=>z) fun _ _ z=>z
 rfl
end
end L2
namespace L2
open PySem PySem.Spec PySem.Calls PyProof.Rows
noncomputable def Jh (x C:Addr) (od:Option Addr):HO:=.ext fun h=>∃ (d:Data) (sl:Array (Option Value)),h.get? x=some ⟨.ref C,od,d,sl⟩/\PySem.W.notCls ⟨.ref C,od,d,sl⟩=true
noncomputable def VF (dx:Addr) (fs:List (Str × V)):HO:=.ext fun h=>∃ mA,h.Ns1 dx mA/\∀ f,GP (fs.lookup f) (mA f)
section
variable {P:Program} {w:World} {H H':Hp} {h:Heap} {x C dx:Addr} {od:Option Addr} {fs:List (Str × V)}
theorem Vk {d:Data} {sl:Array (Option Value)} (e:h.get? x=some ⟨.ref C,od,d,sl⟩) (n:PySem.W.notCls ⟨.ref C,od,d,sl⟩=true):By P w H h x (Jh x C od) :=
 ⟨⟨d,sl,e,n⟩,⟨_,e⟩,fun _ _ ⟨d,sl,e,n⟩ k=>⟨d,sl,k _ e,n⟩⟩
theorem Yu {mA:Str->Option Value} (n:h.Ns1 dx mA) (r:∀ f,GP (fs.lookup f) (mA f)):By P w H h dx (VF dx fs) :=
 ⟨⟨mA,n,r⟩,(let ⟨o,_,_,e,_⟩:=n; ⟨o,e⟩),fun _ _ ⟨mA,⟨o,es,ep,e,c⟩,r⟩ k=>⟨mA,⟨o,es,ep,k o e,c⟩,r⟩⟩
inductive Gu (H:Hp) (x C:Addr):List (Str × V)->Prop where
 | bare (e:H x=some (Jh x C none)):Gu H x C []
 | full {dx:Addr} {fs:List (Str × V)} (e:H x=some (Jh x C (some dx))) (d:H dx=some (VF dx fs)):Gu H x C fs
theorem Gu.same (i:Gu H x C fs) (s:Am H H'):Gu H' x C fs:=by
 cases i with
 | bare e=>exact .bare (s _ _ e)
 | full e d=>exact .full (s _ _ e) (s _ _ d)
theorem Nz (hok:FN P w H h) (i:Gu H x C fs):∃ ox od,PySem.W.InstAt h x ox C od/\∀ f v,fs.lookup f=some v->∃ o u,od=some o/\PySem.W.lookIn f o=some (some u)/\RelV v u:=by
 cases i with
 | bare e =>
  obtain ⟨⟨d,sl,e1,n⟩,_,_⟩:=(show By P w H h x (Jh x C none) from hok x _ e)
  exact ⟨_,none,⟨e1,rfl,n,trivial⟩,fun f v q=>by simp at q⟩
 | @full dx fs e d =>
  obtain ⟨⟨d',sl,e1,n⟩,_,_⟩:=(show By P w H h x (Jh x C (some dx)) from hok x _ e)
  obtain ⟨⟨mA,n2,r⟩,_,_⟩:=(show By P w H h dx (VF dx fs) from hok dx _ d)
  obtain ⟨o,ho,hl⟩:=Ky n2
  refine ⟨_,some o,⟨e1,rfl,n,ho⟩,fun f v q=>?_⟩
  obtain ⟨u,hu,ru⟩:=GP.some_of (v:=v) (o:=mA f) (by rw [← q]; exact r f)
  exact ⟨o,u,rfl,by rw [hl,hu],ru⟩
end
section
variable {P:Program} {w:World} {X:Cx} {pins:List (Addr × Obj)} {σ:St} {H:Hp} {s:Shared} {h':Heap} {a:Addr} {o:HO}
theorem FN.bJ {h h':Heap} (x:FN P w H h) (k:∀ b u,h.get? b=some u->h'.get? b=some u) (hn:H a=none) (new:By P w (upd H a o) h' a o):FN P w (upd H a o) h':=fun b u e=>by
 by_cases hb:b=a
 ·subst hb; rw [Af] at e; cases e; exact new
 ·rw [Aq hb] at e
  exact (x b u e).stay (fun c v _ q=>k c v q) (fun c q=>by rw [Aq (Ao q hn)]; exact q) fun c xs q=>by rw [Aq (Ao q hn)]; exact q
theorem FN.none_of {h:Heap} (x:FN P w H h) (e:h.get? a=none):H a=none:=by
 cases q:H a with
 | none=>rfl
 | some u =>
  exfalso
  obtain ⟨o,ho⟩:∃ o,h.get? a=some o:=by
   have z:=x a u q
   cases u with
   | lst xs=>obtain ⟨_,_,_,_,e⟩:=z; exact ⟨_,e⟩
   | tup xs=>obtain ⟨_,_,_,o,e,_⟩:=z; exact ⟨_,e⟩
   | dK kvs=>obtain ⟨_,_,_,_,o,_,_,e,_⟩:=z; exact ⟨_,e⟩
   | dT kvs=>obtain ⟨_,_,_,_,o,_,_,e,_⟩:=z; exact ⟨_,e⟩
   | set S n=>obtain ⟨o,_,_,_,e,_⟩:=z; exact ⟨_,e⟩
   | ins C dx fs=>obtain ⟨_,_,_,e,_⟩:=z; exact ⟨_,e⟩
   | own y=>obtain ⟨_,e⟩:=z; exact ⟨_,e⟩
   | xd fs=>obtain ⟨_,⟨_,_,_,e,_⟩,_⟩:=z; exact ⟨_,e⟩
   | rng lo hi=>obtain ⟨_,_,_,e⟩:=z; exact ⟨_,e⟩
   | frz ob u=>obtain ⟨e,_⟩:=z; exact ⟨_,e⟩
   | tbl ps=>exact ⟨_,(show h.get? a=some _ from z)⟩
   | met f y=>exact ⟨_,(show h.get? a=some _ from z)⟩
   | ext φ=>obtain ⟨_,⟨_,e⟩,_⟩:=z; exact ⟨_,e⟩
  rw [e] at ho; cases ho
end
theorem VH {K:PySem.W.Frag} {h:Heap} {C:Addr} (X:K.In h) (q:PySem.W.excIn K C R0 "ValueError.__new__" = true) :
  ∃ bm N nm qn bs hdct sn sub ab col dd k0 k1 k2 k3 k5 mN,h.get? C=some (excClassObj nm qn C N bs bm hdct sn sub ab col dd k0 k1 k2 k3 k5 "ValueError.__new__")/\h.Ns N mN/\mN "__init__" = none/\OwnTail h R0 bm:=by
 unfold PySem.W.excIn at q
 split at q
 ·rename_i dd cd sl ho
  split at q
  ·rename_i C' bm k0 k1 k2 k3 n k5 hm hs
   simp only [Bool.and_eq_true,beq_iff_eq,Bool.not_eq_true'] at q
   obtain ⟨⟨⟨⟨⟨rfl,rfl⟩,hdel⟩,ht⟩,hok⟩,hni⟩:=q
   obtain ⟨nm,bs,mro,ns,qn,hd,sn,sub,ab,col,del⟩:=cd
   dsimp only at hm hdel hok hni
   subst hm hdel
   have hsl:sl = #[k0,k1,k2,k3,some (.builtin "ValueError.__new__"),k5]:=by
    obtain ⟨l⟩:=sl
    simp only at hs
    rw [hs]
   subst hsl
   exact ⟨bm,ns,nm,qn,bs,hd,sn,sub,ab,col,dd,k0,k1,k2,k3,k5,_,X _ _ ho,.of_isNs (PySem.W.isNs_of_in X hok),PySem.W.nsMap_none_of_in X hok hni,PySem.W.tail_of_in X ht⟩
  ·cases q
 ·cases q
section
variable {X:Cx} {C:Addr} {x:Str} {e:Expr} {es:List Expr} {t:TA} {p pos:Pos}
end
noncomputable def X4:V->Option Value
 | .ref a=>some (.ref a)
 | .ty n=>some (.type n)
 | _=>none
theorem QD {X:Cx}:Ft X (.builtin "isinstance") (fun xs H Q=>∃ x C fs c cv b,xs=[V.ref x,c]/\Gu H x C fs/\Hs X.K C/\X4 c=some cv/\PySem.W.kitOne X.K (.ref C) cv=some b/\Q (.bl b) H):=by
 intro pins s σ H xs us Q I r h
 obtain ⟨x,C,fs,c,cv,b,rfl,ie,xc,hc,e,q⟩:=h
 obtain ⟨u,v,rfl,ru,rv⟩:=Vals.two r
 cases ru
 have ev:v=cv:=by
  cases c with
  | ref a=>cases hc; exact rv
  | ty n=>cases hc; exact rv
  | _=>simp [X4] at hc
 subst ev
 obtain ⟨ox,od,J,_⟩:=Nz I.hok ie
 exact PySem.W.kia_one (T_ xc) I.GR J e (fun z=>nomatch z) fun tk=>⟨.bl b,H,I.tok _,rfl,q⟩
section
variable {X:Cx} {e:Expr} {f:Str} {pos:Pos} {ta:TE}
noncomputable def W6 (K:PySem.W.Frag) (ta:TE) (f:Str):TE:=fun σ H Q=>ta σ H fun y H1=>∃ x C fs v,y=.ref x/\Gu H1 x C fs/\Hs K C/\DP K C f/\fs.lookup f=some v/\Q v H1
theorem Vl (he:PE X e ta) (hb:attributeBase e f X.env (eval e X.env)=eval e X.env):PE X (.Attribute e f pos) (W6 X.K ta f):=by
 intro pins s σ H Q I h
 refine Qg hb (Ci (he pins s σ H _ I h) fun u s1 hq0=>?_)
 obtain ⟨y,H1,I1,ry,x,C,fs,v,ey,ie,xc,na,l,q⟩:=hq0
 subst ey
 obtain rfl:u=Value.ref x:=ry
 obtain ⟨ox,od,J,hl⟩:=Nz I1.hok ie
 obtain ⟨o,u',rfl,hu,ru⟩:=hl f v l
 exact jE I1.GR J xc (PySem.W.findObj_own xc.hd na rfl hu) (K_ ru) ⟨v,H1,I1.tok _,ru,q⟩
end
noncomputable def Ih:List Value->List Value
 | .ref _::r=>Ih r
 | l=>l
theorem Jk (self:Value):∀ l:List Value,refuseLoop self "__setattr__" l=refuseLoop self "__setattr__" (Ih l)
 | []=>rfl
 | v::r=>by
  cases v with
  | ref c=>rw [refuseLoop_ref]; exact Jk self r
  | _=>rfl
structure Xd (K:PySem.W.Frag) (C:Addr):Prop where
 sa:PySem.W.findIn K (.ref C) "__setattr__" = some (some (.builtin "object.__setattr__"))
 mro:∃ cd,PySem.W.clsIn K C=some cd/\Ih cd.mro=R0/\cd.hasDict=true
section
variable {prog:Program} {w:World} {A:Around} {E:Value->Shared->Prop} {s:Shared} {K:PySem.W.Frag} {x C:Addr} {name:Str} {v:Value} {R:Result->Shared->Prop} {d:Data} {sl:Array (Option Value)}
open PySem.Builtin PySem.Builtin.ObjectAttr in
theorem WX {tk:Tok} (X:K.In s.heap) (hx:s.heap.get? x=some ⟨.ref C,none,d,sl⟩) (nc:PySem.W.notCls ⟨.ref C,none,d,sl⟩=true) (c:Hs K C) (S:Xd K C) (na:DP K C name)
  (h:∀ h' tk',h'.Ns1 s.heap.objs.size (fun y=>if y=name then some v else none)->h'.get? x=some ⟨.ref C,some s.heap.objs.size,d,sl⟩->(∀ b o,b ≠ x->s.heap.get? b=some o->h'.get? b=some o)->R (.ok (.ret .none)) { s with heap:=h',toks:=tk' }) :
  codeAny (model prog w) A (.call (.builtin "object.__setattr__") ⟨[.ref x,.str name tk,v],[]⟩) R s:=by
 have SF:=PySem.F.store_object
 obtain ⟨cd,hc,ho,hdd⟩:=S.mro
 have I:PySem.W.InstAt s.heap x ⟨.ref C,none,d,sl⟩ C none:=⟨hx,rfl,nc,trivial⟩
 have sub:PySem.W.Looks (model prog w) s.heap (isInstance (.ref x) (.type "object")) true:=I.type.andThen (PySem.W.looks_mroIn X c.mo)
 refine codeAny_call_builtin SF.slot.plain SF.entry (@PySem.W.check_slot (model prog w) _ _ s "object.__setattr__" "object" "__setattr__" (.ref x) [.str name tk,v] [] _ SF.kind SF.split sub (SF.args (.ref x) (.str name tk) v) ?_)
 have hm:PySem.W.Looks (model prog w) s.heap (mroOf (.ref C)) cd.mro:=(PySem.W.looks_clsIn X hc).andThen .now
 have L3:PySem.W.Looks (model prog w) s.heap (storeTaker? none) none:=.now
 have na':PySem.W.findIn K (.ref C) name=some none:=na
 rw [PySem.W.osa_eq,refuse_eq]
 refine wpAny_bind (wpAny_bind (I.type.here (wpAny_bind (hm.here ?_))))
 rw [Jk,ho,PySem.F.store_ValueError.passes]
 refine wpAny_pure (wpAny_bind (I.type.here (wpAny_bind ((PySem.W.looks_findIn X na').here (wpAny_bind (L3.here ?_))))))
 show wpAny _ _ (storeInOwnDict (.ref x) (.ref C) (.str name tk) name v _) _ _ _
 refine wpAny_bind (wpAny_pure (wpAny_bind (wpAny_bind (wpAny_loadPart hx (wpAny_bind ((PySem.W.looks_clsIn X hc).here ?_))))))
 rw [hdd]
 have hx1:(s.heap.push { cls:=.type "dict",data:=.dict #[] }).get? x=some ⟨.ref C,none,d,sl⟩:=Heap.get?_push_of_some _ hx
 have hxs:x ≠ s.heap.objs.size:=bp (Heap.lt_size hx)
 rw [if_neg (by decide)]
 dsimp only
 rw [if_neg (by simp [typeHasDict])]
 have notc:∀ c,d ≠ .cls c:=fun c z=>by subst z; cases nc
 split
 ·rename_i c
  exact absurd rfl (notc c)
 refine wpAny_bind (wpAny_alloc' ?_)
 refine wpAny_bind (wpAny_update' hx1 ?_)
 refine wpAny_pure ?_
 have hx2:((s.heap.push { cls:=.type "dict",data:=.dict #[] }).update x fun o=>{ o with dict:=some s.heap.objs.size }).get? x=some ⟨.ref C,some s.heap.objs.size,d,sl⟩ :=
  Heap.get?_update_self _ hx1 (by cases d <;> first | rfl | exact (Heap.get?_some_iff.mp hx).2)
 have hgd:((s.heap.push { cls:=.type "dict",data:=.dict #[] }).update x fun o=>{ o with dict:=some s.heap.objs.size }).get? s.heap.objs.size=some { cls:=.type "dict",data:=.dict #[] } :=
  (Heap.get?_update_ne _ _ _ _ hxs.symm).trans (Heap.get?_push_at rfl rfl)
 have hnd:((s.heap.push { cls:=.type "dict",data:=.dict #[] }).update x fun o=>{ o with dict:=some s.heap.objs.size }).Ns s.heap.objs.size (fun _=>none) :=
  ⟨_,#[],_,hgd,rfl,fun e he=>absurd he (by simp),fun _=>rfl⟩
 show wpAny _ _ (storeInDict s.heap.objs.size (.str name tk) name v) _ _ _
 unfold storeInDict newKeyGuard
 refine wpAny_bind (wpAny_pure (wpAny_bind (wpAny_nsSet1 (Heap.Ns1.of_empty hnd) fun h' hn' hs=>?_)))
 obtain ⟨oD,esD,epD,hoD,hdD,hcD⟩:=hn'.count (PySem.Within.cons name v PySem.Within.nil)
 refine wpAny_bind (wpAny_lookBehind hoD (by rw [hdD]; exact pastItsLine_dict (bi hcD (by rw [aI,ij,sizeLine_eq]; omega))) ?_)
 refine wpAny_pure (h h' _ hn' ((hs.2 x hxs).trans hx2) fun b o hb e=>?_)
 exact (hs.2 b (bp (Heap.lt_size e))).trans ((Heap.get?_update_ne _ _ _ _ hb).trans (Heap.get?_push_of_some _ e))
end
section
variable {X:Cx} {pins:List (Addr × Obj)} {σ:St} {H:Hp} {s:Shared} {h':Heap} {x C dx:Addr} {f:Str} {y:V} {u:Value}
end
section
variable {X:Cx} {o value:Expr} {f:Str} {pos pos':Pos} {ta tv:TE}
end
section
variable {X:Cx} {C f:Addr} {fd:FuncData} {ps:List Str} {sp:Sp} {k:Nat} {x:Str} {e:Expr} {es:List Expr} {t:TA} {p pos:Pos}
end
theorem NQ {x:V} (h:Fx x=true):Rv x x=true:=by
 cases x with
 | non=>rfl
 | bl b=>simp [Rv]
 | int i=>simp [Rv]
 | str z=>simp [Rv]
 | _=>exact absurd (show false=true from h) Bool.false_ne_true
section
variable {X:Cx}
theorem Gy {xs:List V} {us:List Value} {j:Nat} (r:Vals xs us) (hj:j<us.length):RelV (xs.getD j .non) us[j]:=by
 have hl:=r.length
 have hx:xs[j]? = some xs[j]:=by simp [hl,hj]
 obtain ⟨u,hu,ru⟩:=r.get hx
 rw [ae hj] at hu
 cases hu
 have e:xs.getD j .non=xs[j]:=by simp [hl,hj]
 rw [e]
 exact ru
end
end L2
namespace Wd
noncomputable def mk (l:List Nat):Nat:=l.foldl (fun s n=>s ||| 2 ^ n) 0
noncomputable def len (n:Nat):Nat:=if n=0 then 0 else n.log2+1
noncomputable def mem (n:Nat):List Nat:=(List.range (len n)).filter n.testBit
noncomputable def mv (n:Nat) (k:Int) (c:Nat):Nat:=(if 0<k then n * 2 ^ k.toNat else n / 2 ^ (-k).toNat) % 2 ^ c
noncomputable def stay (l:List Nat) (k:Int) (c:Nat):List Nat:=l.filter fun n=>decide (0<=(n:Int)+k) && decide ((n:Int)+k<c)
theorem Wf (l:List Nat) (n:Nat):mk (l++[n])=mk l ||| 2 ^ n:=by
 unfold mk; rw [List.foldl_append]; rfl
end Wd
namespace L2
open PySem PySem.Spec PySem.Calls PyProof.Rows
section
variable {X:Cx} {es:List Expr} {k1:Nat} {tpos:Pos}
end
theorem Vs (a b:Nat):Builtin.bitOr (a:Int) (b:Int)=((a ||| b:Nat):Int):=by
 have h1:¬ 0<=Builtin.bitNot (a:Int):=by unfold Builtin.bitNot; omega
 have h2:¬ 0<=Builtin.bitNot (b:Int):=by unfold Builtin.bitNot; omega
 have nn:∀ x:Int,Builtin.bitNot (Builtin.bitNot x)=x:=fun x=>by unfold Builtin.bitNot; omega
 unfold Builtin.bitOr
 rw [bitAnd_nn h1 h2,nn,nn,nn]
 simp
theorem Uw (k:Nat):(2:Int) ^ k=((2 ^ k:Nat):Int):=by simp
end L2
namespace Wd
open PySem
noncomputable abbrev Vi (xs:Array Nat):Prop:=xs.toList.Pairwise (· < ·)
theorem Pq {xs:Array Nat} (r:Vi xs) {i k:Nat} (h:i<k) (hk:k<xs.size):xs.getD i 0<xs.getD k 0:=by
 have hi:i<xs.size:=Nat.lt_trans h hk
 have:=(List.pairwise_iff_getElem.mp r) i k (by simpa using hi) (by simpa using hk) h
 simpa [Array.getD,hi,hk] using this
structure Cut (xs:Array Nat) (j p:Nat):Prop where
 le:p<=xs.size
 lo:∀ i,i<p->xs.getD i 0<j
 hi:∀ i,p<=i->i<xs.size->j<=xs.getD i 0
theorem Kc {xs:Array Nat} (r:Vi xs) (j:Nat):∀ (fuel lo hi:Nat),hi<=xs.size->hi - lo<=fuel->lo<=hi->(∀ i,i<lo->xs.getD i 0<j)->(∀ i,hi<=i->i<xs.size->j<=xs.getD i 0)->Cut xs j (SetTable.below.go xs j fuel lo hi)
 | 0,lo,hi,h1,h2,h3,a,b=>by
  have e:lo=hi:=by omega
  subst e
  exact ⟨h1,a,b⟩
 | fuel+1,lo,hi,h1,h2,h3,a,b=>by
  unfold SetTable.below.go
  split
  ·rename_i hlt
   have hm:(lo+hi) / 2<xs.size:=by omega
   have e:xs.getD ((lo+hi) / 2) j=xs.getD ((lo+hi) / 2) 0:=by simp [Array.getD,hm]
   dsimp only
   rw [e]
   by_cases hj:xs.getD ((lo+hi) / 2) 0<j
   ·rw [if_pos hj]
    refine Kc r j fuel ((lo+hi) / 2+1) hi h1 (by omega) (by omega) (fun i hi'=>?_) b
    by_cases q:i=(lo+hi) / 2
    ·rw [q]; exact hj
    ·have:=Pq r (i:=i) (k:=(lo+hi) / 2) (by omega) hm
     omega
   ·rw [if_neg hj]
    refine Kc r j fuel lo ((lo+hi) / 2) (by omega) (by omega) (by omega) a fun i hi' hs=>?_
    by_cases q:i=(lo+hi) / 2
    ·rw [q]; omega
    ·have:=Pq r (i:=(lo+hi) / 2) (k:=i) (by omega) hs
     omega
  ·have e:lo=hi:=by omega
   subst e
   exact ⟨h1,a,b⟩
theorem K4 {xs:Array Nat} (r:Vi xs) (j:Nat):Cut xs j (SetTable.below xs j) :=
 Kc r j xs.size 0 xs.size (am _) (by omega) (dL _) (fun i h=>absurd h (fR _)) (fun i h1 h2=>absurd h2 (by omega))
theorem Pz {xs:Array Nat} {j:Nat} (r:Vi xs) (h:xs[SetTable.below xs j]? ≠ some j):j ∉ xs.toList:=fun hm=>by
 have c:=K4 r j
 obtain ⟨i,hi,e⟩:=ej.mp hm
 have hi':i<xs.size:=by simpa using hi
 have ei:xs.getD i 0=j:=by simpa [Array.getD,hi'] using e
 have h1:SetTable.below xs j<=i:=by
  rcases Nat.lt_or_ge i (SetTable.below xs j) with q | q
  ·have:=c.lo i q; omega
  ·exact q
 have h2:SetTable.below xs j<xs.size:=bt h1 hi'
 have h3:=c.hi _ (am _) h2
 have h4:SetTable.below xs j=i:=by
  rcases Nat.lt_or_ge (SetTable.below xs j) i with q | q
  ·have:=Pq r q hi'; omega
  ·omega
 refine h ?_
 have e':xs[i]=j:=by simpa [Array.getD,hi'] using ei
 rw [h4,Array.getElem?_eq_getElem hi',e']
theorem O8 {xs:Array Nat} {j:Nat} (r:Vi xs) (h:xs[SetTable.below xs j]? ≠ some j):Vi (SetTable.insertAt xs (SetTable.below xs j) j):=by
 have c:=K4 r j
 have nm:=Pz r h
 show (SetTable.insertAt xs (SetTable.below xs j) j).toList.Pairwise _
 rw [SetTable.toList_insertAt,List.pairwise_append,List.pairwise_cons]
 have lt1:∀ a∈xs.toList.take (SetTable.below xs j),a<j:=fun a ha=>by
  obtain ⟨i,hi,e⟩:=ej.mp ha
  rw [bq] at hi
  have hi2:i<xs.size:=by simp at hi; omega
  have:=c.lo i (by omega)
  simp [Array.getD,hi2] at this
  rw [List.getElem_take] at e
  rw [← e]
  simpa using this
 have lt2:∀ a∈xs.toList.drop (SetTable.below xs j),j<a:=fun a ha=>by
  obtain ⟨i,hi,e⟩:=ej.mp ha
  rw [gi] at hi
  have hi2:SetTable.below xs j+i<xs.size:=by simp at hi; omega
  have:=c.hi (SetTable.below xs j+i) (Nat.le_add_right _ _) hi2
  simp [Array.getD,hi2] at this
  rw [List.getElem_drop] at e
  have hle:j<=a:=by rw [← e]; simpa using this
  have hne:j ≠ a:=fun z=>nm (by rw [z]; exact List.mem_of_mem_drop ha)
  omega
 exact ⟨r.sublist (List.take_sublist _ _),⟨lt2,r.sublist (List.drop_sublist _ _)⟩,fun a ha b hb=>by
  rcases cm.mp hb with e | hb
  ·rw [e]; exact lt1 a ha
  ·have:=lt1 a ha; have:=lt2 b hb; omega⟩
theorem Rj {t:SetTable} {j:Nat} (h:∀ i,t.slot j ≠ .live i):t.place[SetTable.below t.place j]? ≠ some j:=fun e=>by
 refine h (SetTable.below t.place j) ?_
 unfold SetTable.slot
 dsimp only
 rw [e]
 simp
theorem Hq (t:SetTable) (p:SetTable.Probe):(t.advance p).dummy=p.dummy:=by
 unfold SetTable.advance
 split <;> rfl
theorem Ht {t:SetTable} {f:Nat->Int} {h:Int}:∀ (fuel:Nat) (p:SetTable.Probe) (j:Nat) (dm:Option Nat),(∀ d,p.dummy=some d->t.slot d=.dummy)->SetTable.probe.go t f h fuel p=some (.empty j dm) ->
  t.slot j=.empty/\∀ d,dm=some d->t.slot d=.dummy
 | 0,p,j,dm,hd,e=>by unfold SetTable.probe.go at e; cases e
 | fuel+1,p,j,dm,hd,e=>by
  unfold SetTable.probe.go at e
  split at e
  ·rename_i hs
   cases e
   exact ⟨hs,hd⟩
  ·rename_i hs
   refine Ht fuel _ j dm (fun d q=>?_) e
   rw [Hq] at q
   cases q
   exact hs
  ·split at e
   ·cases e
   ·refine Ht fuel _ j dm (fun d q=>?_) e
    rw [Hq] at q
    exact hd d q
theorem Ra {t:SetTable} {h:Int} {j:Nat} {d:Bool} (e:t.freeSlot h=some (j,d)):∀ i,t.slot j ≠ .live i:=by
 unfold SetTable.freeSlot at e
 split at e
 ·rename_i j' dm q
  unfold SetTable.probe at q
  obtain ⟨h1,h2⟩:=Ht _ _ _ _ (fun d hd=>by simp [SetTable.probeStart] at hd) q
  cases dm with
  | none=>cases e; intro i z; rw [show (none:Option Nat).getD j'=j' from rfl,h1] at z; cases z
  | some d' =>
   cases e
   intro i z
   rw [show (some d').getD j'=d' from rfl,h2 d' rfl] at z
   cases z
 ·cases e
structure Good (t:SetTable) (led:Bool):Prop where
 led:t.led=led
 ris:t.plain=true->Vi t.place
theorem PK (led:Bool):Good (.fresh 0 0 led) led:=⟨rfl,fun _=>by simp [SetTable.fresh,Vi]⟩
theorem Gd {t:SetTable} {led:Bool} (g:Good t led) (n:Nat):Good (t.standIn n) led:=⟨g.led,fun h=>by simp [SetTable.standIn] at h⟩
theorem WT {t:SetTable} {led:Bool} (g:Good t led) (n:Nat):Good (t.orStandIn n) led:=by
 unfold SetTable.orStandIn
 split
 ·exact g
 ·exact Gd g n
theorem Uz {t:SetTable} {led:Bool} (g:Good t led) (es:Array (Int × Value)) (h:Int) (x:Value):Good (layNew t es h x).2.1 led:=by
 unfold layNew
 split
 ·rename_i slot wd e
  refine WT (t:=(t.put slot).1) ⟨g.led,fun hp=>?_⟩ _
  exact O8 (g.ris hp) (Rj (Ra e))
 ·exact Gd g _
theorem RQ {mask finger moves:Nat} {led plain:Bool} {hs:Array Int} {t:SetTable} {o:Array Nat} (e:SetTable.laid mask finger moves led plain hs=some (t,o)):Good t led/\t.plain=plain:=by
 unfold SetTable.laid at e
 simp only [Option.bind_eq_bind,Option.bind_eq_some_iff] at e
 obtain ⟨owner,_,e⟩:=e
 cases e
 refine ⟨⟨rfl,fun _=>?_⟩,rfl⟩
 show List.Pairwise _ ((List.map _ _).toArray).toList
 rw [List.pairwise_map,List.pairwise_filterMap]
 refine List.pairwise_lt_range.imp fun {a b} hab x hx y hy=>?_
 obtain ⟨u,_,rfl⟩:=de.mp hx
 obtain ⟨v,_,rfl⟩:=de.mp hy
 exact hab
theorem Pg {t:SetTable} {led:Bool} (g:Good t led) (es:Array (Int × Value)) (n:Nat):Good (relayAll t es n).2.1 led:=by
 unfold relayAll
 split
 ·rename_i t' order e
  dsimp only
  split
  ·have:=RQ e
   rw [g.led] at this
   exact this.1
  ·exact Gd g _
 ·exact Gd g _
end Wd
namespace Wd
open PySem PySem.Spec PyProof.Rows
noncomputable def gh (prog:Program) (w:World) (h:Heap) (a:Addr) (led:Bool) (σ:List Int):Prop :=
 ∃ es ep t,h.get? a=some { cls:=.type "set",dict:=none,data:=.set es ep t }/\ElemsOf (intKind prog w) es.toList/\(∀ k,k∈σ ↔ ∃ e∈es.toList,(intKind prog w).is k e.2=true)/\es.size=σ.length/\σ.Nodup /\
  σ.length<scanBound/\t.fits es.size=true/\Good t led
section
variable {prog:Program} {w:World} {A:Around} {E:Value->Shared->Prop} {s:Shared} {a:Addr} {led:Bool} {σ:List Int} {k:Int} {tk:Tok}
theorem Qa {h:Heap} {es es':Array (Int × Value)} {ep:Nat} {t t':SetTable} (ho:h.get? a=some { cls:=.type "set",dict:=none,data:=.set es ep t }) :
  (h.update a (Obj.putSet es' t')).get? a=some { cls:=.type "set",dict:=none,data:=.set es' (ep+1) t' } :=
 (Heap.get?_update_self (Obj.putSet es' t') ho (by rw [putSet_of es' t' rfl]; rfl)).trans (by rw [putSet_of es' t' rfl])
end
end Wd
namespace Wd
open PySem PySem.Spec PyProof.Rows
section
variable {prog:Program} {w:World} {A:Around} {R:Result->Shared->Prop} {I:Addr} {fp wr:List Addr} {G:Array GenState->Array GenState->Prop} {n:Nat} {P:Nat->Value->Prop} {St:Nat->Shared->Prop} {led:Bool}
end
section
variable {prog:Program} {w:World} {A:Around} {E:Value->Shared->Prop} {s:Shared}
noncomputable abbrev Ep (w:World):Bool:=!w.params.followText "set-order"
theorem dN (a:Value) {Q1:Value->Shared->Prop} (h:Q1 (.ref s.heap.objs.size) { s with heap:=s.heap.push { cls:=.type "set",dict:=none,data:=.set #[] 0 (.fresh 0 0 (Ep w)) } }) :
  codeAny (model prog w) A (.call (.builtin "set.__new__") ⟨[.type "set",a],[]⟩) (wants Q1 E) s:=by
 refine codeAny_of_tree ?_
 show wpAny _ A.in1 (do checkBuiltinCall "set.__new__" ⟨[.type "set",a],[]⟩; again (.builtin "set.__new__" ⟨[.type "set",a],[]⟩)) _ _ s
 refine wpAny_bind (wpAny_of_eq (F.newCall_set_1 a) (wpAny_pure ⟨plainId_quiet F.plain_set_new _,codeAny_builtin F.entry_set_new ?_⟩))
 rw [Around.under_plainId F.plain_set_new _]
 unfold Builtin.«set.__new__» Builtin.Frozenset.newClass
 have hsub:=sub_set_self
 obtain ⟨hp,g,d,tk,os⟩:=s
 dsimp only
 wp_walk
 refine wpAny_askSetting (wpAny_pure ?_)
 dsimp only
 simp only [newObj]
 exact wpAny_bind (wpAny_alloc (wpAny_pure (wpAny_pure h)))
end
end Wd
namespace Wd
open PySem PySem.Spec PyProof.Rows
end Wd
namespace Wd
open PySem PySem.Spec PyProof.Rows
section
variable {M:Model} {A:Around} {E:Value->Shared->Prop}
end
inductive Way (w:World) (a:Addr) (es:Array (Int × Value)) (ep:Nat) (t:SetTable) (h:Heap):(Nat->Value)->List Value->List Addr->Prop where
 | text (hb:w.params.followText "set-order" = true):Way w a es ep t h (fun _=>rawInt 0) ((pickOrder (w.params.setOrder a ep) es).toList.map (·.2)) []
 | drawn {tp:Addr} {ps:List Nat} (hb:w.params.followText "set-order" = false) (hp:ps.Perm (List.range es.size)) (ht:∃ n,h.get? tp=some { cls:=.type "tuple",data:=.seq (ps.map fun (i:Nat)=>rawInt i).toArray n }) :
   Way w a es ep t h (fun _=>.ref tp) (ps.map fun i=>(es.getD i (0,.none)).2) [tp]
 | plain (hb:w.params.followText "set-order" = false) (hd:(!t.plain && decide (es.size > 1))=false) (hl:t.led=true) (hr:Vi t.place) (hs:t.place.size=es.size) :
   Way w a es ep t h (fun i=>rawInt (if i=0 then 0 else t.place.getD (i - 1) 0+1:Nat)) (es.toList.map (·.2)) []
section
variable {prog:Program} {w:World} {A:Around} {E:Value->Shared->Prop} {s:Shared} {a it:Addr} {es:Array (Int × Value)} {ep:Nat} {t:SetTable} {first:Nat->Value} {vs:List Value} {more:List Addr}
end
end Wd
section PartSetJ
set_option maxHeartbeats 1000000
namespace Wd
open PySem PySem.Spec PyProof.Rows
section
variable {prog:Program} {w:World} {A:Around} {E:Value->Shared->Prop} {s:Shared} {a:Addr} {σ:List Int}
end
end Wd
end PartSetJ
section PartSetK
set_option maxHeartbeats 1000000
namespace Wd
open PySem PySem.Spec PyProof.Rows
section
variable {prog:Program} {w:World} {A:Around} {E:Value->Shared->Prop} {s:Shared} {a:Addr} {σ:List Int}
end
end Wd
end PartSetK
namespace L2
open PySem PySem.Spec PyProof.Rows
noncomputable def mO (P:Program) (w:World) (a:Addr) (τ:List Int):HO:=.ext fun h=>Wd.gh P w h a (Wd.Ep w) τ
section
variable {X:Cx} {pins:List (Addr × Obj)} {σ:St} {H:Hp} {s:Shared} {h':Heap} {a:Addr} {o:HO}
end
end L2
namespace L2
open PySem PySem.Spec PyProof.Rows
section
variable {X:Cx}
end
section
variable {prog:Program} {w:World} {A:Around} {E:Value->Shared->Prop} {s:Shared} {r l:Addr}
end
section
variable {X:Cx} {p1 p2 q1 q2:Pos} {e:Expr} {te:TE}
end
end L2
namespace L2
open PySem PySem.Spec PyProof.Rows
noncomputable def ZW (K:PySem.W.Frag) (a:Addr) (xs:List V):It :=
 ⟨fun i H=>Dh K H a xs/\i<xs.length,fun i H x H'=>H'=H/\xs[xs.length - 1 - i]? = some x,fun i H=>Dh K H a xs/\i=xs.length⟩
theorem UJ {P:Program} {w:World} {K:PySem.W.Frag} {tg:Expr} (a it:Addr) (xs:List V):Turn P w K tg (ZW K a xs) [it] it (fun i h=>h.IsRevIter it a ((xs.length:Int) - 1 - (i:Nat))) where
 mem:=by simp
 obj:=fun i h st b hb=>by
  have e:b=it:=by simpa using hb
  subst e
  obtain ⟨o,e,c,d⟩:=st
  exact ⟨o,e,fun v z=>by rw [d] at z; cases z⟩
 keep:=fun i h h' st k=>st.at fun o e=>k it (by simp) o e
 item:=by
  intro X hP hw hK hc i pins s σ H E I hf st hg
  subst hP hw hK
  obtain ⟨hq,hlt⟩:=hg
  obtain ⟨its,rv,p,hz⟩:=I.list hq
  have hx:xs[xs.length - 1 - i]? = some (xs[xs.length - 1 - i]'(by omega)):=ae (by omega)
  obtain ⟨u,hu,ru⟩:=rv.get hx
  obtain ⟨f0,f1,f2,f3,f4,f5⟩:=hf it (by simp)
  have e:(xs.length:Int) - 1 - ((i:Nat):Int)=((xs.length - 1 - i:Nat):Int):=by omega
  rw [e] at st
  refine wpAny_pyNext_rev_item st p.isList (x:=u) (by simpa using hu) fun h' st' sb=>?_
  have I1:Inv X pins σ H { s with heap:=h' }:=I.turned (t':=s.toks) (fun b o hb e=>(sb.2 b hb).trans e) f0 f1 f3 f4 f5
  have e2:((xs.length - 1 - i:Nat):Int) - 1=(xs.length:Int) - 1 - ((i+1:Nat):Int):=by omega
  rw [e2] at st'
  obtain ⟨o,eo,c,d⟩:=id st'
  exact ⟨u,rfl,NT (s:={ s with heap:=h' }) eo c d (by decide) ⟨_,H,I1,ru,⟨rfl,hx⟩,st',fun b hb=>(hf b hb).1⟩⟩
 done:=by
  intro X hP hw hK hc i pins s σ H E I hf st hg
  subst hP hw hK
  obtain ⟨hq,rfl⟩:=hg
  obtain ⟨f0,f1,f2,f3,f4,f5⟩:=hf it (by simp)
  have e:(xs.length:Int) - 1 - ((xs.length:Nat):Int) = -1:=by omega
  rw [e] at st
  exact wpAny_pyNext_rev_end (I.ok.hd hc) st fun h' eb=>⟨rfl,I.turned (t':=s.toks) (fun b o hb e=>eb b o hb e) f0 f1 f3 f4 f5⟩
 self:=fun _ _ _ _ _ st h=>wpAny_pyIter_revIter st h
section
variable {X:Cx} {tg:Expr}
noncomputable def iV (K:PySem.W.Frag) (ta:TA):TI:=fun σ H R=>ta σ H fun vs H1=>∃ a xs,vs=[.ref a]/\Dh K H1 a xs/\R (ZW K a xs) H1
theorem Yy {l:Expr} {ta:TA} {p pos:Pos} (hg:Gl X "reversed") (hm:X.mg "reversed" = none) (ha:PA X [l] ta) (hs:starEach [l] X.env=[(false,eval l X.env)]:=by rfl):PI X tg (.Call (.Name "reversed" p) [l] [] pos) (iV X.K ta):=by
 intro pins s σ H R I h
 refine Call_ (IK I hg hm PyProof.Rows.boot_reversed (PyProof.Rows.callWith_type1 (Ci (ha pos pins s σ H _ I h) fun us s1 ⟨vs,H1,I1,r1,q1⟩=>?_) hs rfl))
 obtain ⟨a,xs,e,hq,q⟩:=q1
 subst e
 obtain ⟨u,rfl,ru⟩:=vals1 r1
 cases ru
 obtain ⟨its,rv,pl,hz⟩:=I1.list hq
 refine call_reversed_list pl.isList ?_
 have hit:(s1.heap.push (revObj a ((its.toArray.size:Int) - 1))).IsRevIter s1.heap.objs.size a ((its.toArray.size:Int) - 1):=⟨_,Heap.get?_push_size _ rfl,rfl,rfl⟩
 refine wpAny_pyIter_revIter (s:={ s1 with heap:=s1.heap.push (revObj a ((its.toArray.size:Int) - 1)) }) hit ?_
 refine ⟨s1.heap.objs.size,[s1.heap.objs.size],_,_,H1,rfl,I1.kept (t':=s1.toks) fun b o e=>Heap.get?_push_of_some _ e,UJ a _ xs,?_,fun b hb=>?_,q⟩
 ·have hl:=rv.length
  have e2:((its.toArray.size:Nat):Int) - 1=(xs.length:Int) - 1 - ((0:Nat):Int):=by
   rw [cy]
   omega
  show (s1.heap.push (revObj a ((its.toArray.size:Int) - 1))).IsRevIter s1.heap.objs.size a ((xs.length:Int) - 1 - ((0:Nat):Int))
  rw [← e2]
  exact hit
 ·have e:b=s1.heap.objs.size:=by simpa using hb
  subst e
  exact I1.Mx (am _) (I1.hok.fresh (am _))
theorem Vc {K:PySem.W.Frag} {a:Addr} {xs:List V} {g:TG} {tb:TS} {D:Ends} {σ:St} {H:Hp} (Pv:Nat->St->Hp->Prop) (h0:Pv 0 σ H) (hl:∀ i σ H,i<=xs.length->Pv i σ H->Dh K H a xs)
  (hs:∀ i x σ H,i<xs.length->xs[xs.length - 1 - i]? = some x->Pv i σ H->g x σ H fun σ2 H2=>tb { D with nx:=Pv (i+1),ct:=Pv (i+1),bk:=D.nx } σ2 H2) (hd:∀ σ H,Pv xs.length σ H->D.nx σ H) :
  ∃ W:Nat->Nat->St->Hp->Prop,(∃ m,W 0 m σ H)/\∀ i m σ H,W i m σ H ->
   ((ZW K a xs).stop i H/\D.nx σ H) \/ ((ZW K a xs).go i H/\∃ N:St->Hp->Prop,(∀ σ' H',N σ' H'->∃ m',m'<m/\W (i+1) m' σ' H')/\∀ x H',(ZW K a xs).yld i H x H'->g x σ H' fun σ2 H2=>tb { D with nx:=N,ct:=N,bk:=D.nx } σ2 H2):=by
 refine ⟨fun i m σ H=>m=xs.length - i/\i<=xs.length/\Pv i σ H,⟨xs.length,by simp,Nat.zero_le _,h0⟩,?_⟩
 rintro i m σ H ⟨rfl,hi,p⟩
 have q:=hl i σ H hi p
 by_cases hlt:i<xs.length
 ·refine .inr ⟨⟨q,hlt⟩,Pv (i+1),fun σ' H' p'=>⟨xs.length - (i+1),by omega,rfl,by omega,p'⟩,?_⟩
  rintro x H' ⟨rfl,hx⟩
  exact hs i x σ H' hlt hx p
 ·have e:i=xs.length:=by omega
  subst e
  exact .inl ⟨⟨q,rfl⟩,hd σ H p⟩
end
end L2
namespace L2
open PySem PySem.Spec PySem.Calls PyProof.Rows
section
variable {X:Cx}
theorem range_any (bs:List Bool):((List.range bs.length).any fun i=>(bs[i]?).getD false)=bs.any id:=by
 rw [dl,fw,fw]
 constructor
 ·rintro ⟨i,hi,e⟩
  have hi':=fg.mp hi
  rw [ae hi'] at e
  exact ⟨_,eh hi',e⟩
 ·rintro ⟨b,hb,e⟩
  obtain ⟨i,hi,q⟩:=ej.mp hb
  refine ⟨i,fg.mpr hi,?_⟩
  rw [ae hi,q]
  exact e
theorem HB (hc:X.calm=true):Ft X (.builtin "any") (fun xs H Q=>∃ (p:Addr) (bs:List Bool),xs=[V.ref p]/\Dh X.K H p (bs.map V.bl)/\Q (.bl (bs.any id)) H):=by
 intro pins s σ H xs us Q I r h
 obtain ⟨p,bs,rfl,hp,q⟩:=h
 obtain ⟨u,rfl,ru⟩:=vals1 r
 cases ru
 obtain ⟨its,rv,pl,hz⟩:=I.list hp
 have hlen:bs.length=its.length:=by have:=rv.length; rw [ag] at this; exact this
 have hlt:p<s.heap.objs.size:=by obtain ⟨_,e,_⟩:=pl.isList; exact Heap.lt_size e
 refine call_any_walk (wpAny_pyIter_list pl.isList ?_)
 refine ⟨s.heap.objs.size,[s.heap.objs.size,p],[s.heap.objs.size],its.toArray.size,_,_,fun i=>(bs[i]?).getD false,rfl,Walks.list (A:=X.A.in1) (I.ok.hd hc) _ p (bp hlt) its.toArray,
  ⟨⟨_,Heap.get?_push_size _ rfl,rfl,rfl⟩,pl.isList.push _⟩,fun i v s' Q' E' hP hQ=>?_,fun h' tk hk=>?_⟩
 ·have hP':its[i]? = some v:=by simpa using hP
  have hi:i<its.length:=(af.mp hP').1
  have hb:bs[i]? = some bs[i]:=by simp [hlen,hi]
  obtain ⟨u,hu,ru⟩:=rv.get (i:=i) (x:=.bl bs[i]) (by rw [bo,hb]; rfl)
  rw [hP'] at hu
  cases hu
  cases ru
  dsimp only at hQ
  rw [hb] at hQ
  exact wpAny_truthy_bool hQ
 ·have e:((List.range its.toArray.size).any fun i=>(bs[i]?).getD false)=bs.any id:=by rw [cy,← hlen]; exact range_any bs
  rw [e]
  refine ⟨.bl (bs.any id),H,I.kept (t':=tk) fun b o eb=>hk b o (fun hm=>?_) (Heap.get?_push_of_some _ eb),rfl,q⟩
  rw [av.mp hm] at eb
  exact et _ (Heap.lt_size eb)
structure KDict (K:PySem.W.Frag) (P:Params) (a:Addr):Prop where
 is:∃ es n,K.lookup a=some ⟨.type "dict",none,.dict es n,#[]⟩/\PySem.W.KeysLit P es.toList
 lo:(a == sysModules)=false
noncomputable def cA (K:PySem.W.Frag) (P:Params) (td ty:TE):TE:=fun σ H Q=>td σ H fun x H1=>ty σ H1 fun y H2=>∃ a z v u,x=.ref a/\y=.str z/\KDict K P a/\PySem.W.nsIn K a z=some (some u)/\RelV v u/\Q v H2
noncomputable def Z5 (K:PySem.W.Frag) (P:Params) (neg:Bool) (ty td:TE):TE:=fun σ H Q=>ty σ H fun y H1=>td σ H1 fun x H2=>∃ a z r,x=.ref a/\y=.str z/\KDict K P a/\PySem.W.nsIn K a z=some r/\Q (.bl (if neg then !r.isSome else r.isSome)) H2
variable {o i:Expr} {pos:Pos} {td ty:TE}
theorem HX (ho:PE X o td) (hi:PE X i ty) (hs:Yr i):PE X (.Subscript o i pos) (cA X.K X.w.params td ty):=by
 intro pins s σ H Q I h
 refine Qh gI hs (Ci (ho pins s σ H _ I h) fun u s1 ⟨x,H1,I1,rx,q1⟩=>Ci (hi pins s1 σ H1 _ I1 q1) fun iv s2 hq0=>?_)
 obtain ⟨y,H2,I2,ry,a,z,v,w,ex,ey,kd,hw,rw',q2⟩:=hq0
 subst ex ey
 cases rx
 obtain ⟨t,rfl⟩:=ry
 obtain ⟨⟨es,n,hl,hk⟩,lo⟩:=kd
 have hm:=PySem.W.mapOf_K (prog:=X.prog) I2.GR hl hk
 exact ⟨hm.typeIs,wpAny_getItem_of (strKind_is X.prog X.w z t) hm (PySem.W.find_K hl hw) ⟨v,H2,I2.tok _,rw',q2⟩⟩
theorem Lw (hi:PE X i ty) (ho:PE X o td):PC X .In i o (Z5 X.K X.w.params false ty td):=by
 intro pins s σ H Q I h
 refine Ci (hi pins s σ H _ I h) fun iv s1 ⟨y,H1,I1,ry,q1⟩=>Ci (ho pins s1 σ H1 _ I1 q1) fun u s2 hq0=>?_
 obtain ⟨x,H2,I2,rx,a,z,r,ex,ey,kd,hw,q2⟩:=hq0
 subst ex ey
 cases rx
 obtain ⟨t,rfl⟩:=ry
 obtain ⟨⟨es,n,hl,hk⟩,lo⟩:=kd
 refine wpAny_in_of (strKind_is X.prog X.w z t) lo (PySem.W.mapOf_K (prog:=X.prog) I2.GR hl hk) ?_
 rw [PySem.W.find_K hl hw]
 exact ⟨.bl r.isSome,H2,I2.tok _,rfl,q2⟩
theorem K8 (hi:PE X i ty) (ho:PE X o td):PC X .NotIn i o (Z5 X.K X.w.params true ty td):=by
 intro pins s σ H Q I h
 refine Ci (hi pins s σ H _ I h) fun iv s1 ⟨y,H1,I1,ry,q1⟩=>Ci (ho pins s1 σ H1 _ I1 q1) fun u s2 hq0=>?_
 obtain ⟨x,H2,I2,rx,a,z,r,ex,ey,kd,hw,q2⟩:=hq0
 subst ex ey
 cases rx
 obtain ⟨t,rfl⟩:=ry
 obtain ⟨⟨es,n,hl,hk⟩,lo⟩:=kd
 refine wpAny_notIn_of (strKind_is X.prog X.w z t) lo (PySem.W.mapOf_K (prog:=X.prog) I2.GR hl hk) ?_
 rw [PySem.W.find_K hl hw]
 exact ⟨.bl (!r.isSome),H2,I2.tok _,rfl,q2⟩
end
section
variable {X:Cx} {e st:Expr} {lo hi:Option Expr} {te ts:TE} {tl th:TO} {p2 pos:Pos}
end
end L2
namespace Og
open PySem L2
theorem Ay {X:Cx} {K:PySem.W.Frag} (h:X.K=K):Y7 X (dR K):=h ▸ Xk
theorem Ei {X:Cx} {K:PySem.W.Frag} (h:X.K=K):Y7 X (aF K):=h ▸ Bt
theorem J2 {X:Cx} {K:PySem.W.Frag} (h:X.K=K):Gn X (compareOp .In) (jt K false):=h ▸ Lh
structure R where
 w:Str
 nm:Str
 rest:List V
noncomputable abbrev R.v (r:R):List V:=.str r.w :: .str r.nm::r.rest
noncomputable def isNm (z:Str):Prop:=1<=z.length/\z.length<=8/\∀ c∈z.cps.toList,97<=c/\c<=122
noncomputable def Rows (H:Hp) (ρ:V->R) (vs:List V):Prop:=∀ v∈vs,TupAt H (ρ v).v v
theorem Rows.mono {H H':Hp} {ρ:V->R} {vs:List V} (s:Am H H') (h:Rows H ρ vs):Rows H' ρ vs:=fun v hv=>(h v hv).mono s
theorem Rows.sub {H:Hp} {ρ:V->R} {vs us:List V} (h:Rows H ρ vs) (hs:∀ v∈us,v∈vs):Rows H ρ us:=fun v hv=>h v (hs v hv)
noncomputable abbrev pw (ρ:V->R) (w:Str) (v:V):Bool:=decide (V.str (ρ v).w=V.str w)
noncomputable abbrev pn (ρ:V->R) (t:Str) (v:V):Bool:=decide (V.str (ρ v).nm=V.str t)
noncomputable def Hi (ρ:V->R) (vs:List V) (w t:Str):Bool:=(vs.filter (pw ρ w)).any (pn ρ t)
noncomputable def KTup (K:PySem.W.Frag) (a:Addr) (xs:List V):Prop:=∃ (o:Obj) (its:Array Value) (n:Nat),K.lookup a=some o/\o.cls=.type "tuple" /\ o.data=.seq its n/\its.size<=sizeLine/\Vals xs its.toList
theorem KTup.sq {K:PySem.W.Frag} {a:Addr} {xs:List V} (h:KTup K a xs) (H:Hp):Fq K H a xs:=.inr h
noncomputable abbrev named:List Str:=["board","rank","stop","coupler","mute"]
noncomputable def Dm (K:PySem.W.Frag) (aB:Addr) (ρ:V->R) (vs:List V) (x:V) (part:Str):Prop :=
 (∃ (i lo hi:Int) (b:Addr),x=.int i/\PySem.W.nsIn K aB part=some (some (.ref b))/\KTup K b [.int lo,.int hi]/\lo<=i/\i<=hi) \/
 (PySem.W.nsIn K aB part=some none/\part = "new" /\ ∃ t,x=.str t/\isNm t/\∀ w∈named,Hi ρ vs w t=false) \/
 (PySem.W.nsIn K aB part=some none/\¬ part = "new" /\ ∃ t,x=.str t/\isNm t/\Hi ρ vs part t=true)
structure Lb (K:PySem.W.Frag) (aB aP aM:Addr) (ρ:V->R) (vs:List V) (r:R):Prop where
 ns:¬ r.w = "step"
 nl:¬ r.w = "line"
 parts:∃ (ap:Addr) (ps:List Str),PySem.W.nsIn K aP r.w=some (some (.ref ap))/\KTup K ap (ps.map V.str)/\(V.str r.nm::r.rest).length=ps.length/\ps.length<=10 /\
  ∀ (i:Nat) x y,(V.str r.nm::r.rest)[i]? = some x->ps[i]? = some y->Dm K aB ρ vs x y
 room:∃ (m:Int) (t:Tok),PySem.W.nsIn K aM r.w=some (some (.int m t))/\(((vs.filter (pw ρ r.w)).length:Nat):Int)<m
noncomputable def letters:Str:="abcdefghijklmnopqrstuvwxyz"
noncomputable abbrev WP (y:Str) (c:Nat):Bool:=!(Builtin.Str.occurrences y ⟨#[c]⟩ 0 y.length 1).isEmpty
theorem MF:∀ c<128,WP letters c=decide (97<=c/\c<=122):=by decide +kernel
theorem Av {H:Hp} {p:Addr} {o:HO} (h:H p=none):Am H (upd H p o):=fun b u e=>by rw [Aq (Ao e h)]; exact e
theorem Bo {H:Hp} {p:Addr} {o:HO} (h:H p=none):∃ H',upd H p o=H'/\Am H H'/\H' p=some o:=⟨_,rfl,Av h,Af⟩
theorem Bl {n:Nat} (h:n<=1000):n<=sizeLine:=fm (BP h)
theorem ty_int {K:PySem.W.Frag}:PySem.W.kitOne K (.type "int") (.type "int")=some true:=by kernel_rfl
theorem XX {K:PySem.W.Frag}:PySem.W.kitOne K (.type "int") (.type "bool")=some false:=by kernel_rfl
theorem Oi {K:PySem.W.Frag}:PySem.W.kitOne K (.type "list") (.type "list")=some true:=by kernel_rfl
theorem NK {K:PySem.W.Frag}:PySem.W.kitOne K (.type "tuple") (.type "tuple")=some true:=by kernel_rfl
theorem Nh {K:PySem.W.Frag}:PySem.W.kitOne K (.type "str") (.type "str")=some true:=by kernel_rfl
theorem KC (vs:List V) (n:Nat) (h:n<=vs.length):Cv vs none (some (n:Int))=vs.take n:=by
 unfold Cv
 have e1:HT.Du vs.length 0 none=0:=rfl
 have e2:HT.Du vs.length vs.length (some (n:Int))=n:=by
  rw [HT.DR]
  omega
 rw [e1,e2]
 simp
theorem GC {α:Type} (p:α->Bool) (l:List α):(l.filter p).length<=l.length:=ee _ _
noncomputable abbrev bV (b:Str × Nat):List V:=[.str b.1,.int (b.2:Nat)]
noncomputable abbrev Gq (b:Str × Nat):R:=⟨"board",b.1,[.int (b.2:Nat)]⟩
noncomputable abbrev qV (q:Nat × Nat):List V:=[.int (q.1:Nat),.int (q.2:Nat)]
noncomputable def Qs (bs:List (Str × Nat)):List (Nat × Nat):=bs.zipIdx.flatMap fun p=>(List.range p.1.2).map fun e=>(p.2,e)
theorem Us (bs:List (Str × Nat)) (b:Str × Nat):Qs (bs++[b])=Qs bs++(List.range b.2).map fun e=>(bs.length,e):=by
 unfold Qs
 rw [List.zipIdx_append]
 simp
theorem M9 {bs:List (Str × Nat)} {i:Nat} {b:Str × Nat} (h:bs[i]? = some b):Qs (bs.take (i+1))=Qs (bs.take i)++(List.range b.2).map fun e=>(i,e):=by
 have hi:i<bs.length:=(af.mp h).1
 rw [fh,h]
 show Qs (bs.take i++[b])=_
 rw [Us,bq,io (by omega)]
theorem Vh (bs:List (Str × Nat)) (M:Nat):(∀ b∈bs,b.2<=M)->(Qs bs).length<=bs.length * M:=by
 intro h
 have key:∀ i,i<=bs.length->(Qs (bs.take i)).length<=i * M:=by
  intro i
  induction i with
  | zero=>intro _; simp [Qs]
  | succ i ih =>
   intro hi
   have hlt:i<bs.length:=by omega
   rw [M9 (ae hlt),aE,ag,gX]
   have h1:=ih (by omega)
   have h2:=h bs[i] (eh hlt)
   have:(i+1) * M=i * M+M:=by rw [Nat.add_mul,Nat.one_mul]
   omega
 have:=key bs.length (am _)
 rw [eg] at this
 exact this
theorem Cm {α β:Type} {F:α->β->Prop} {l:List α} {vs:List β} (h:Paired F l vs):∀ {v},v∈vs->∃ a∈l,F a v:=by
 induction h with
 | nil=>intro v hv; cases hv
 | cons a b ih =>
  intro v hv
  rcases cm.mp hv with rfl | hv
  ·exact ⟨_,bv ..,a⟩
  ·obtain ⟨x,hx,q⟩:=ih hv
   exact ⟨x,bg _ hx,q⟩
theorem B_ {α β:Type} {F:α->β->Prop} {l:List α} {vs:List β} (h:Paired F l vs):∀ {i:Nat} {a},l[i]? = some a->∃ v,vs[i]? = some v/\F a v:=by
 induction h with
 | nil=>intro i a ha; simp at ha
 | cons x y ih =>
  intro i a ha
  cases i with
  | zero =>
   simp at ha
   subst ha
   exact ⟨_,rfl,x⟩
  | succ i=>exact ih (by simpa using ha)
theorem Od {α β:Type} {F:α->β->Prop} {l:List α} {vs:List β} (h:Paired F l vs):∀ {i:Nat} {v},vs[i]? = some v->∃ a,l[i]? = some a/\F a v:=by
 induction h with
 | nil=>intro i a ha; simp at ha
 | cons x y ih =>
  intro i a ha
  cases i with
  | zero =>
   simp at ha
   subst ha
   exact ⟨_,rfl,x⟩
  | succ i=>exact ih (by simpa using ha)
theorem CV {α β:Type} {F:α->β->Prop} {l l':List α} {vs vs':List β} (h:Paired F l vs) (h':Paired F l' vs'):Paired F (l++l') (vs++vs'):=by
 induction h with
 | nil=>exact h'
 | cons x y ih=>exact .cons x ih
theorem DN {α β γ:Type} {F:γ->β->Prop} (g:α->γ) {l:List α} {vs:List β} (h:Paired (fun a v=>F (g a) v) l vs):Paired F (l.map g) vs:=by
 induction h with
 | nil=>exact .nil
 | cons x y ih=>exact .cons x ih
theorem F_ {α β γ:Type} {F:γ->β->Prop} (g:α->γ):∀ {l:List α} {vs:List β},Paired F (l.map g) vs->Paired (fun a v=>F (g a) v) l vs
 | [],_,h=>by cases h; exact .nil
 | a::l,_,h=>by
  cases h with
  | cons x y=>exact .cons x (F_ g y)
noncomputable def Jq (H:Hp) (k:Nat):V->V
 | .ref T=>match H T with
  | some (.tup xs)=>xs.getD k .non
  | _=>.non
 | _=>.non
theorem Dk {H:Hp} {zs:List V} {v:V} (h:TupAt H zs v) (k:Nat):Jq H k v=zs.getD k .non:=by
 obtain ⟨T,rfl,e⟩:=h
 show (match H T with | some (.tup xs)=>xs.getD k V.non | _=>V.non)=_
 rw [e]
theorem Ig {α:Type} {H:Hp} {g:α->List V} (k:Nat) {l:List α} {vs:List V} (h:Paired (fun a v=>TupAt H (g a) v) l vs):vs.map (Jq H k)=l.map fun a=>(g a).getD k .non:=by
 induction h with
 | nil=>rfl
 | cons x y ih=>rw [cK,cK,ih,Dk x]
noncomputable def SX (x:Addr) (H H':Hp):Prop:=∀ b o,H b=some o->b ≠ x->H' b=some o
theorem SX.trans {x:Addr} {H H1 H2:Hp} (a:SX x H H1) (b:SX x H1 H2):SX x H H2:=fun c o h n=>b c o (a c o h n) n
theorem SX.refl {x:Addr} {H:Hp}:SX x H H:=fun _ _ h _=>h
theorem SX.of {x:Addr} {H H':Hp} (s:Am H H'):SX x H H':=fun b o h _=>s b o h
theorem SX.up {x:Addr} {H:Hp} {o:HO}:SX x H (upd H x o):=fun b u h n=>by rw [Aq n]; exact h
theorem SX.tup {x:Addr} {H H':Hp} {zs:List V} {y:V} {C dx:Addr} {fs:List (Str × V)} (s:SX x H H') (hx:H x=some (.ins C dx fs)) (h:TupAt H zs y):TupAt H' zs y:=by
 obtain ⟨T,e,q⟩:=h
 exact ⟨T,e,s _ _ q fun z=>by rw [z,hx] at q; cases q⟩
theorem SX.pair {α:Type} {x:Addr} {H H':Hp} {f:α->List V} {l:List α} {vs:List V} {C dx:Addr} {fs:List (Str × V)} (s:SX x H H') (hx:H x=some (.ins C dx fs)) (h:Paired (fun a y=>TupAt H (f a) y) l vs):Paired (fun a y=>TupAt H' (f a) y) l vs:=Paired.Ga h fun _ _ q=>s.tup hx q
theorem SX.lst {x a:Addr} {H H':Hp} {xs:List V} {C dx:Addr} {fs:List (Str × V)} (s:SX x H H') (hx:H x=some (.ins C dx fs)) (h:H a=some (.lst xs)):H' a=some (.lst xs):=s _ _ h fun z=>by rw [z,hx] at h; cases h
theorem SX.dk {x a:Addr} {H H':Hp} {kvs:List (Key × V)} {C dx:Addr} {fs:List (Str × V)} (s:SX x H H') (hx:H x=some (.ins C dx fs)) (h:H a=some (.dK kvs)):H' a=some (.dK kvs):=s _ _ h fun z=>by rw [z,hx] at h; cases h
noncomputable abbrev meths:List Str:=["ranks","pipe_count","pipe","rank_of","board_of_knob","boards","key_count","key","board_of","coupler","knobs","knob_number","board_number","stop","mute","steps","rows"]
structure cP (C:Addr) (H:Hp) (x:Addr) (bs:List (Str × Nat)) (ks:List R):Prop where
 ob:∃ (dx:Addr) (fs:List (Str × V)) (bl bn kp kr:Addr) (bvs pvs uvs:List V) (kvs:List (Key × V)),H x=some (.ins C dx fs)/\fs.lookup ("board_list" : Str)=some (.ref bl)/\fs.lookup ("board_numbers" : Str)=some (.ref bn)/\fs.lookup ("key_places" : Str)=some (.ref kp)/\fs.lookup ("knob_rows" : Str)=some (.ref kr) /\
  (∀ m∈meths,fs.lookup m=none)/\H bl=some (.lst bvs)/\Paired (fun b y=>TupAt H (bV b) y) bs bvs/\H bn=some (.dK kvs)/\(∀ (i:Nat) b,bs[i]? = some b->Cq kvs (Sum.inr b.1)=some (.int (i:Nat))) /\
  H kp=some (.lst pvs)/\Paired (fun q y=>TupAt H (qV q) y) (Qs bs) pvs/\H kr=some (.lst uvs)/\Paired (fun (r:R) y=>TupAt H r.v y) ks uvs
 nb:bs.length<=5
 sz:∀ b∈bs,b.2<=61
 nk:ks.length<=200
end Og
namespace Og
open PySem L2 PyProof.Rows
inductive Kb where
 | cp (i j:Nat) (s:Int)
 | pl (w:Str) (i:Nat)
noncomputable def Kb.w:Kb->Str
 | .cp _ _ _=>"coupler"
 | .pl w _=>w
noncomputable def Kb.v:Kb->List V
 | .cp i j s=>[.str "coupler",.int (i:Nat),.int (j:Nat),.int s]
 | .pl w i=>[.str w,.int (i:Nat)]
noncomputable def Kb.ok (n:Nat):Kb->Prop
 | .cp i j s=>i<n/\j<n /\ -60<=s/\s<=60
 | .pl w i=>i<n/\(w = "mute" \/ w = "stop")
noncomputable def Qo (w:Str):Nat:=if w = "coupler" then 12 else if w = "mute" then 5 else 24
structure KF (K:PySem.W.Frag) (aB aP aM:Addr):Prop where
 pB:∃ a,PySem.W.nsIn K aP "board" = some (some (.ref a))/\KTup K a (["new","keys"].map fun s:String=>V.str s)
 pS:∃ a,PySem.W.nsIn K aP "stop" = some (some (.ref a))/\KTup K a (["new","board"].map fun s:String=>V.str s)
 pM:∃ a,PySem.W.nsIn K aP "mute" = some (some (.ref a))/\KTup K a (["new","board"].map fun s:String=>V.str s)
 pC:∃ a,PySem.W.nsIn K aP "coupler" = some (some (.ref a))/\KTup K a (["new","board","board","leap"].map fun s:String=>V.str s)
 bK:∃ a,PySem.W.nsIn K aB "keys" = some (some (.ref a))/\KTup K a [.int 1,.int 61]
 bL:∃ a,PySem.W.nsIn K aB "leap" = some (some (.ref a))/\KTup K a [.int (-60),.int 60]
 bN:PySem.W.nsIn K aB "new" = some none
 bB:PySem.W.nsIn K aB "board" = some none
 mB:∃ t,PySem.W.nsIn K aM "board" = some (some (.int 5 t))
 mS:∃ t,PySem.W.nsIn K aM "stop" = some (some (.int 24 t))
 mC:∃ t,PySem.W.nsIn K aM "coupler" = some (some (.int 12 t))
 mM:∃ t,PySem.W.nsIn K aM "mute" = some (some (.int 5 t))
noncomputable def Kp (H:Hp):V->R
 | .ref T=>match H T with
  | some (.tup (.str w :: .str n::r))=>⟨w,n,r⟩
  | _=>⟨"","",[]⟩
 | _=>⟨"","",[]⟩
theorem Mg {H:Hp} {r:R} {v:V} (h:TupAt H r.v v):Kp H v=r:=by
 obtain ⟨T,rfl,e⟩:=h
 show (match H T with | some (.tup (.str w :: .str n::r))=>(⟨w,n,r⟩:R) | _=>⟨"","",[]⟩)=r
 rw [e]
theorem Mt {H:Hp} {rs:List R} {vs:List V} (h:Paired (fun (r:R) v=>TupAt H r.v v) rs vs):vs.map (Kp H)=rs:=by
 induction h with
 | nil=>rfl
 | cons x y ih=>rw [cK,ih,Mg x]
theorem CG (f:Str) (v:V):∀ l:List (Str × V),(Bm f v l).length<=l.length+1
 | []=>am _
 | p::r=>by
  unfold Bm
  split
  ·simp
  ·have:=CG f v r
   simp only [List.length_cons]
   omega
noncomputable abbrev Hf (s:Str):Bool:=inV (.str s) [.str "stop",.str "coupler",.str "mute"]
structure nJ (K:PySem.W.Frag) (aB aP aM:Addr) (ρ:V->R) (us:List V) (bs:List (Str × Nat)) (ks:List R):Prop where
 kinds:∀ v∈us,(ρ v).w = "board" \/ (ρ v).w = "stop" \/ (ρ v).w = "coupler" \/ (ρ v).w = "mute"
 eb:(us.filter (pw ρ "board")).map ρ=bs.map Gq
 ek:(us.filter (fun v=>Hf (ρ v).w)).map ρ=ks
 b0:1<=bs.length
 b5:bs.length<=5
 sz:∀ b∈bs,b.2<=61
 nk:ks.length<=100
 nb:(bs.map (·.1)).Nodup
 nn:(ks.map (·.nm)).Nodup
 len:us.length<=105
 ok:∀ (i:Nat) v,us[i]? = some v->Lb K aB aP aM ρ (us.take i) (ρ v)
noncomputable def Gs (ρ:V->R) (vs:List V):List (Str × Str):=vs.map fun v=>((ρ v).w,(ρ v).nm)
noncomputable abbrev QV (wn:List (Str × Str)) (w t:Str):Bool:=(wn.filter fun p=>decide (p.1=w)).any fun p=>decide (p.2=t)
noncomputable abbrev UG (wn:List (Str × Str)) (w:Str):Nat:=(wn.filter fun p=>decide (p.1=w)).length
theorem HY (a b:Str):decide (V.str a=V.str b)=decide (a=b):=by
 rw [dl,decide_eq_true_eq,decide_eq_true_eq]
 exact ⟨V.str.inj,congrArg V.str⟩
theorem Je (ρ:V->R) (vs:List V) (w t:Str):Hi ρ vs w t=QV (Gs ρ vs) w t:=by
 unfold Hi Gs
 show _=((vs.map fun v=>((ρ v).w,(ρ v).nm)).filter fun p=>decide (p.1=w)).any fun p=>decide (p.2=t)
 rw [ef,iP]
 have e1:pw ρ w=(fun p:Str × Str=>decide (p.1=w)) ∘ fun v=>((ρ v).w,(ρ v).nm):=by
  funext v
  exact HY _ _
 have e2:pn ρ t=(fun p:Str × Str=>decide (p.2=t)) ∘ fun v=>((ρ v).w,(ρ v).nm):=by
  funext v
  exact HY _ _
 rw [e1,e2]
theorem H_ (ρ:V->R) (vs:List V) (w:Str):(vs.filter (pw ρ w)).length=UG (Gs ρ vs) w:=by
 unfold Gs
 show _=((vs.map fun v=>((ρ v).w,(ρ v).nm)).filter fun p=>decide (p.1=w)).length
 rw [ef,ag]
 have e1:pw ρ w=(fun p:Str × Str=>decide (p.1=w)) ∘ fun v=>((ρ v).w,(ρ v).nm):=by
  funext v
  exact HY _ _
 rw [e1]
section
variable {K:PySem.W.Frag} {aB aP aM:Addr} {ρ:V->R} {vs:List V} {wn:List (Str × Str)} {t:Str}
theorem Iv (F:KF K aB aP aM) (e:Gs ρ vs=wn) (ht:isNm t) (h:∀ w∈named,QV wn w t=false):Dm K aB ρ vs (.str t) "new" :=
 .inr (.inl ⟨F.bN,rfl,_,rfl,ht,fun w hw=>by rw [Je,e]; exact h w hw⟩)
theorem Hu (F:KF K aB aP aM) (e:Gs ρ vs=wn) (ht:isNm t) (h:QV wn "board" t=true):Dm K aB ρ vs (.str t) "board" :=
 .inr (.inr ⟨F.bB,by decide +kernel,_,rfl,ht,by rw [Je,e]; exact h⟩)
theorem RJ (F:KF K aB aP aM) (e:Gs ρ vs=wn) (ht:isNm t) (h:∀ w∈named,QV wn w t=false) (hc:UG wn "board" < 5) {n:Nat} (h1:1<=n) (h2:n<=61):Lb K aB aP aM ρ vs (Gq (t,n)):=by
 obtain ⟨ap,g1,g2⟩:=F.pB
 obtain ⟨ab,g3,g4⟩:=F.bK
 obtain ⟨tk,g5⟩:=F.mB
 refine ⟨by show ¬ ("board" : Str) = "step"; decide +kernel,by show ¬ ("board" : Str) = "line"; decide +kernel,⟨ap,["new","keys"],g1,g2,rfl,by decide,fun j x y hx hy=>?_⟩,⟨5,tk,g5,?_⟩⟩
 ·match j,hx,hy with
  | 0,hx,hy =>
   cases (Option.some.inj hx)
   cases (Option.some.inj hy)
   exact Iv F e ht h
  | 1,hx,hy =>
   cases (Option.some.inj hx)
   cases (Option.some.inj hy)
   exact .inl ⟨_,1,61,ab,rfl,g3,g4,by omega,by omega⟩
  | j+2,hx,hy=>simp at hy
 ·rw [H_,e]
  show ((UG wn "board" : Nat):Int)<5
  omega
theorem M4 (F:KF K aB aP aM) (e:Gs ρ vs=wn) (ht:isNm t) (h:∀ w∈named,QV wn w t=false) (hc:UG wn "coupler" < 12) {a b:Str} (ha:isNm a) (ha':QV wn "board" a=true) (hb:isNm b) (hb':QV wn "board" b=true) {s:Int} (h1 : -60<=s) (h2:s<=60):Lb K aB aP aM ρ vs ⟨"coupler",t,[.str a,.str b,.int s]⟩:=by
 obtain ⟨ap,g1,g2⟩:=F.pC
 obtain ⟨ab,g3,g4⟩:=F.bL
 obtain ⟨tk,g5⟩:=F.mC
 refine ⟨by show ¬ ("coupler" : Str) = "step"; decide +kernel,by show ¬ ("coupler" : Str) = "line"; decide +kernel,⟨ap,["new","board","board","leap"],g1,g2,rfl,by decide,fun j x y hx hy=>?_⟩,⟨12,tk,g5,?_⟩⟩
 ·match j,hx,hy with
  | 0,hx,hy =>
   cases (Option.some.inj hx)
   cases (Option.some.inj hy)
   exact Iv F e ht h
  | 1,hx,hy =>
   cases (Option.some.inj hx)
   cases (Option.some.inj hy)
   exact Hu F e ha ha'
  | 2,hx,hy =>
   cases (Option.some.inj hx)
   cases (Option.some.inj hy)
   exact Hu F e hb hb'
  | 3,hx,hy =>
   cases (Option.some.inj hx)
   cases (Option.some.inj hy)
   exact .inl ⟨_,-60,60,ab,rfl,g3,g4,h1,h2⟩
  | j+4,hx,hy=>simp at hy
 ·rw [H_,e]
  show ((UG wn "coupler" : Nat):Int)<12
  omega
end
end Og
namespace Og
open PySem L2
noncomputable def iH (bs:List (Str × Nat)) (j1 j2:Nat) (s:Int) (qd:Nat × Nat) (z2:Nat):V :=
 if qd.1=j1/\0<=(qd.2:Int)+s/\(qd.2:Int)+s<z2 then .int ((((bs.take j2).map (·.2)).sum:Nat)+((qd.2:Int)+s)) else .non
noncomputable def gl (bs:List (Str × Nat)):Kb->Nat->Option Nat
 | .cp j1 j2 s,i=>match (Qs bs)[i]?,bs[j2]? with
  | some qd,some b2=>match iH bs j1 j2 s qd b2.2 with
   | .int v=>some v.toNat
   | _=>none
  | _,_=>none
 | .pl _ _,_=>none
noncomputable def stp (bs:List (Str × Nat)) (kbs:List Kb) (D:Nat) (i j:Nat):Prop:=∃ k z,D.testBit k=true/\kbs[k]? = some z/\gl bs z i=some j
inductive jf (st:Nat->Nat->Prop) (hd:Nat->Prop):Nat->Prop
 | one {i j:Nat}:hd i->st i j->jf st hd j
 | more {i j:Nat}:jf st hd i->st i j->jf st hd j
end Og
namespace Og
open PySem L2 PyProof.Rows
noncomputable abbrev Th:=Str × Nat × List V
noncomputable abbrev tV (a:Th):List V:=.str a.1 :: .int (a.2.1:Nat)::a.2.2
noncomputable abbrev tN (a:Th):Str × Nat:=(a.1,a.2.1)
noncomputable abbrev Y_ (r:Str × Nat × Int):Th:=(r.1,r.2.1,[.int r.2.2])
noncomputable abbrev jZ (b:Str × Nat):Th:=(b.1,b.2,[])
noncomputable abbrev lg (r:Str × Nat × Int):Str × Nat:=(r.1,r.2.1)
noncomputable abbrev Fp (r:Str × Nat × Int):R:=⟨"rank",r.1,[.int (r.2.1:Nat),.int r.2.2]⟩
structure Ln where
 r:Nat
 sh:Int
 lo:Int
 hi:Int
noncomputable abbrev ZK (l:Ln):List V:=[.int (l.r:Nat),.int l.sh,.int l.lo,.int l.hi]
noncomputable def G5 (H:Hp) (l:List Ln) (v:V):Prop:=∃ (A:Addr) (ts:List V),v=.ref A/\H A=some (.lst ts)/\Paired (fun x y=>TupAt H (ZK x) y) l ts
noncomputable def QZ (H:Hp) (D:Addr) (ls:List (List Ln)):Prop:=∃ lv,H D=some (.lst lv)/\Paired (fun l v=>G5 H l v) ls lv
theorem G5.mono {H H':Hp} {l:List Ln} {v:V} (s:Am H H') (h:G5 H l v):G5 H' l v:=by
 obtain ⟨A,ts,e,h1,h2⟩:=h
 exact ⟨A,ts,e,s _ _ h1,BL s h2⟩
structure YZ (C:Addr) (H:Hp) (x:Addr) (bs:List (Str × Nat)) (rk:List (Str × Nat × Int)) (ks:List R) (ls:List (List Ln)):Prop where
 o:cP C H x bs ks
 r:∃ (dx:Addr) (fs:List (Str × V)) (rl rn pp kl:Addr) (rvs pvs:List V) (kvs:List (Key × V)),H x=some (.ins C dx fs)/\fs.lookup ("rank_list" : Str)=some (.ref rl)/\fs.lookup ("rank_numbers" : Str)=some (.ref rn)/\fs.lookup ("pipe_places" : Str)=some (.ref pp)/\fs.lookup ("knob_lines" : Str)=some (.ref kl) /\
  H rl=some (.lst rvs)/\Paired (fun (a:Th) y=>TupAt H (tV a) y) (rk.map Y_) rvs/\H rn=some (.dK kvs)/\(∀ (i:Nat) r,rk[i]? = some r->Cq kvs (Sum.inr r.1)=some (.int (i:Nat))) /\
  H pp=some (.lst pvs)/\Paired (fun q y=>TupAt H (qV q) y) (Qs (rk.map lg)) pvs/\QZ H kl ls
 nr:rk.length<=12
 nz:∀ r∈rk,r.2.1<=97
 nl:ls.length=ks.length
structure Hn (ρ:V->R) (us:List V) (i:Nat):Prop where
 all:∀ j,j<i->∃ v,us[us.length - 1 - j]? = some v/\(ρ v).w = "line"
 lt:i<us.length
 no:∃ v,us[us.length - 1 - i]? = some v/\¬ (ρ v).w = "line"
noncomputable def Xj (r:R):Int:=match r.rest with
 | [.int m]=>m
 | _=>0
noncomputable abbrev keyOf (ρ:V->R) (us:List V) (bd:Str) (n:Int):Bool:=(us.filter (pw ρ "board")).any fun v=>pn ρ bd v && decide (n<Xj (ρ v))
structure MN (ρ:V->R) (us:List V) (ro:R):Prop where
 ex:∃ (cnt:Nat) (v:V) (sh lo hi:Int) (bd:Str) (rs:List V),ro.rest=[.int sh,.int lo,.int hi]/\Hn ρ us cnt/\cnt<4/\us[us.length - 1 - cnt]? = some v/\(ρ v).w = "stop" /\ (ρ v).rest=.str bd::rs/\lo<=hi/\keyOf ρ us bd hi=true
noncomputable abbrev Dd (ρ:V->R) (us:List V):Prop:=∀ v∈us,(ρ v).w = "board"->∃ m,(ρ v).rest=[.int m]
structure El (K:PySem.W.Frag) (aB aP aM:Addr) (ρ:V->R) (vs:List V) (r:R):Prop where
 ns:¬ r.w = "step"
 parts:∃ (ap:Addr) (ps:List Str),PySem.W.nsIn K aP r.w=some (some (.ref ap))/\KTup K ap (ps.map V.str)/\(V.str r.nm::r.rest).length=ps.length/\ps.length<=10 /\
  ∀ (i:Nat) x y,(V.str r.nm::r.rest)[i]? = some x->ps[i]? = some y->Dm K aB ρ vs x y
 room:(r.w = "line" /\ PySem.W.nsIn K aM r.w=some none) \/ ∃ (m:Int) (t:Tok),PySem.W.nsIn K aM r.w=some (some (.int m t))/\(((vs.filter (pw ρ r.w)).length:Nat):Int)<m
 line:r.w = "line"->MN ρ vs r
 Ua:Dd ρ vs
noncomputable def lnOf (rk:List (Str × Nat × Int)) (r:R):Ln:=match r.rest with
 | [.int sh,.int lo,.int hi]=>⟨(rk.map (·.1)).idxOf r.nm,sh,lo,hi⟩
 | _=>⟨0,0,0,0⟩
noncomputable def putL (acc:List (List Ln)) (l:Ln):List (List Ln):=match acc.getLast? with
 | some z=>acc.dropLast++[z++[l]]
 | none=>[]
noncomputable def Do (rk:List (Str × Nat × Int)) (acc:List (List Ln)) (r:R):List (List Ln):=if Hf r.w=true then acc++[[]] else if r.w = "line" then putL acc (lnOf rk r) else acc
noncomputable def linesOf (rk:List (Str × Nat × Int)) (rs:List R):List (List Ln):=rs.foldl (Do rk) []
theorem Cw (rk:List (Str × Nat × Int)) (rs:List R) (r:R):linesOf rk (rs++[r])=Do rk (linesOf rk rs) r:=by
 unfold linesOf
 rw [List.foldl_append]
 rfl
theorem HN (acc:List (List Ln)) (z:List Ln) (l:Ln):putL (acc++[z]) l=acc++[z++[l]]:=by
 unfold putL
 rw [List.getLast?_concat,List.dropLast_concat]
structure nG (K:PySem.W.Frag) (aB aP aM:Addr) (ρ:V->R) (us:List V) (bs:List (Str × Nat)) (rk:List (Str × Nat × Int)) (ks:List R):Prop where
 kinds:∀ v∈us,(ρ v).w = "board" \/ (ρ v).w = "rank" \/ (ρ v).w = "line" \/ (ρ v).w = "stop" \/ (ρ v).w = "coupler" \/ (ρ v).w = "mute"
 eb:(us.filter (pw ρ "board")).map ρ=bs.map Gq
 er:(us.filter (pw ρ "rank")).map ρ=rk.map Fp
 ek:(us.filter (fun v=>Hf (ρ v).w)).map ρ=ks
 ln:∀ (i:Nat) v,us[i]? = some v->(ρ v).w = "line"->(∃ (j:Nat) (r:Str × Nat × Int) (sh lo hi:Int),rk[j]? = some r/\r.1=(ρ v).nm/\(ρ v).rest=[.int sh,.int lo,.int hi])/\∃ u∈us.take i,Hf (ρ u).w=true
 b0:1<=bs.length
 b5:bs.length<=5
 sz:∀ b∈bs,b.2<=61
 nr:rk.length<=12
 nz:∀ r∈rk,r.2.1<=97
 nk:ks.length<=100
 nb:(bs.map (·.1)).Nodup
 nrr:(rk.map (·.1)).Nodup
 nn:(ks.map (·.nm)).Nodup
 len:us.length<=150
 ok:∀ (i:Nat) v,us[i]? = some v->El K aB aP aM ρ (us.take i) (ρ v)
end Og
namespace Ws
open PySem PySem.Spec PyProof.Rows Wd
noncomputable def JB (prog:Program) (w:World) (h:Heap) (a:Addr) (led:Bool) (σ:List Str):Prop :=
 ∃ es ep t,h.get? a=some { cls:=.type "set",dict:=none,data:=.set es ep t }/\ElemsOf (strKind prog w) es.toList/\(∀ k,k∈σ ↔ ∃ e∈es.toList,(strKind prog w).is k e.2=true)/\es.size=σ.length/\σ.Nodup /\
  σ.length<scanBound/\t.fits es.size=true/\Good t led
noncomputable def Em (σ:List Str) (k:Str):List Str:=if k∈σ then σ else σ++[k]
section
variable {prog:Program} {w:World} {A:Around} {E:Value->Shared->Prop} {s:Shared} {a:Addr} {led:Bool} {σ:List Str} {k:Str} {tk:Tok}
theorem dF {Q:Bool->Shared->Prop} (hS:JB prog w s.heap a led σ) (room:σ.length+1<scanBound)
  (h:∀ b h',Heap.SameBut a s.heap h'->JB prog w h' a led (Em σ k)->Q b { s with heap:=h' }):wpAny (model prog w) A (setAddHashed a (.str k tk) ((strKind prog w).hash k)) Q E s:=by
 obtain ⟨es,ep,t,ho,hel,hmem,hn,nd,hb,hf,g⟩:=hS
 have hkey:(strKind prog w).is k (.str k tk)=true:=strKind_is _ _ _ _
 have hbe:es.size<scanBound:=by rw [hn]; exact hb
 unfold setAddHashed setAddHashedIn
 refine wpAny_holding (wpAny_bind (wpAny_setState_of ho rfl hf ?_))
 dsimp only
 rw [byScan_of rfl hbe hel,if_pos rfl]
 unfold setAddByScan
 refine wpAny_bind (wpAny_bind (wpAny_rule (wpAny_bind (wpAny_setScan_of hkey ho rfl hf hel ?_))))
 cases hr:List.findIdx? (fun e=>(strKind prog w).is k e.2) es.toList with
 | some j =>
  obtain ⟨hj,hpj,_⟩:=List.findIdx?_eq_some_iff_getElem.mp hr
  have hk:k∈σ:=(hmem k).mpr ⟨_,eh hj,hpj⟩
  refine wpAny_pure (wpAny_pure ?_)
  have:=h false s.heap (Heap.SameBut.refl a s.heap) (by unfold Em; rw [if_pos hk]; exact ⟨es,ep,t,ho,hel,hmem,hn,nd,hb,hf,g⟩)
  exact this
 | none =>
  have hk:k ∉ σ:=fun q=>by
   obtain ⟨e,he,hp⟩:=(hmem k).mp q
   have:=List.findIdx?_eq_none_iff.mp hr e he
   rw [hp] at this
   cases this
  dsimp only
  have hperm:=layNew_perm t es ((strKind prog w).hash k) (.str k tk)
  have hfits:=layNew_fits t es ((strKind prog w).hash k) (.str k tk)
  have hgood:=Uz g es ((strKind prog w).hash k) (.str k tk)
  generalize layNew t es ((strKind prog w).hash k) (.str k tk)=L at hperm hfits hgood ⊢
  obtain ⟨es1,t1,wd,gave⟩:=L
  dsimp only at hperm hfits hgood ⊢
  rw [Array.toList_push] at hperm
  have hel1:ElemsOf (strKind prog w) es1.toList:=(hel.push hkey rfl).perm hperm
  have sz1:es1.size=(σ++[k]).length:=by
   have:=hperm.length_eq
   simp only [List.length_append,Array.length_toList,List.length_singleton] at this
   simp only [List.length_append,List.length_singleton]
   omega
  have mem1:∀ k',k'∈σ++[k] ↔ ∃ e∈es1.toList,(strKind prog w).is k' e.2=true:=fun k'=>by
   have:=mem_push_iff (knd:=strKind prog w) (S:=fun k'=>decide (k'∈σ)) hkey (fun k'=>by rw [decide_eq_true_eq]; exact hmem k') hperm k'
   rw [← this]
   simp
  have nd1:(σ++[k]).Nodup:=List.nodup_append.mpr ⟨nd,by simp,fun x hx y hy=>by
   rw [av.mp hy]
   intro q
   exact hk (q ▸ hx)⟩
  have hb1:(σ++[k]).length<scanBound:=by simp only [List.length_append,List.length_singleton]; exact room
  have hb1':es1.size<scanBound:=by rw [sz1]; exact hb1
  have fin:∀ (es2:Array (Int × Value)) (t2:SetTable) (ep2:Nat) (h2:Heap),Heap.SameBut a s.heap h2->h2.get? a=some { cls:=.type "set",dict:=none,data:=.set es2 ep2 t2 }->es2.toList.Perm es1.toList->t2.fits es2.size=true->Good t2 led ->
    Q true { s with heap:=h2 }:=fun es2 t2 ep2 h2 sb e2 p2 f2 g2=>by
   refine h true h2 sb ?_
   unfold Em
   rw [if_neg hk]
   refine ⟨es2,ep2,t2,e2,hel1.perm p2,fun k'=>(mem1 k').trans ⟨fun ⟨e,he,q⟩=>⟨e,p2.mem_iff.mpr he,q⟩,fun ⟨e,he,q⟩=>⟨e,p2.mem_iff.mp he,q⟩⟩,?_,nd1,hb1,f2,g2⟩
   rw [← Array.length_toList,p2.length_eq,Array.length_toList,sz1]
  have tail:∀ (t2:SetTable),t2.fits es1.size=true->Good t2 led->wpAny (model prog w) A (do
    storeSet a es1 t2
    if (!wd && t2.tooFull)=true then do
      (match (relayAll t2 es1 (SetTable.grown es1.size)).2.2 with | true=>rule "set.scan.the-table-gave-way" | false=>pure ())
      storeSet a (relayAll t2 es1 (SetTable.grown es1.size)).1 (relayAll t2 es1 (SetTable.grown es1.size)).2.1
      pure (some true)
     else pure (some true)) (fun r s'=>match r with | some b=>Q b s' | none=>False) E s:=fun t2 f2 g2=>by
   refine wpAny_bind (wpAny_storeSet_of ho rfl ?_ (fits_of_scanBound hb1'))
   have sb1:=Heap.SameBut.update s.heap a (Obj.putSet es1 t2)
   have e1:=Qa (es':=es1) (t':=t2) ho
   split
   ·have hp:=relayAll_perm t2 es1 (SetTable.grown es1.size)
    have hq:=relayAll_fits t2 es1 (SetTable.grown es1.size)
    have hg:=Pg g2 es1 (SetTable.grown es1.size)
    generalize relayAll t2 es1 (SetTable.grown es1.size)=R at hp hq hg ⊢
    obtain ⟨es2,t3,gv⟩:=R
    dsimp only at hp hq hg ⊢
    have hb2:es2.size<scanBound:=by rw [← Array.length_toList,hp.length_eq,Array.length_toList]; exact hb1'
    have last:wpAny (model prog w) A (do storeSet a es2 t3; pure (some true)) (fun r s'=>match r with | some b=>Q b s' | none=>False) E { s with heap:=s.heap.update a (Obj.putSet es1 t2) }:=by
     refine wpAny_bind (wpAny_storeSet_of e1 rfl ?_ (fits_of_scanBound hb2))
     exact wpAny_pure (fin es2 t3 _ _ (sb1.trans (Heap.SameBut.update _ a _)) (Qa e1) hp hq hg)
    cases gv
    ·exact wpAny_bind (wpAny_pure last)
    ·exact wpAny_bind (wpAny_rule last)
   ·exact wpAny_pure (fin es1 t2 _ _ sb1 e1 (List.Perm.refl _) f2 g2)
  have tail':∀ (t2:SetTable),t2.fits es1.size=true->Good t2 led->wpAny (model prog w) A (do
    storeSet a es1 t2
    if (!wd && t2.tooFull)=true then do
      (match (relayAll t2 es1 (SetTable.grown es1.size)).2.2 with | true=>rule "set.scan.the-table-gave-way" | false=>pure ())
      storeSet a (relayAll t2 es1 (SetTable.grown es1.size)).1 (relayAll t2 es1 (SetTable.grown es1.size)).2.1
      pure (some true)
     else pure (some true)) (fun r s'=>wpAny (model prog w) A (match r with | some added=>pure added | none=>setAddHashedIn a (.str k tk) ((strKind prog w).hash k) 99999) Q E s') E s:=fun t2 f2 g2 =>
   wpAny_mono (tail t2 f2 g2) (fun r s' q=>by
    cases r with
    | none=>exact q.elim
    | some b=>exact wpAny_pure q) fun _ _ e=>e
  have mid:wpAny (model prog w) A (do
    let byValue ← if t1.plain then hashByValue 8 (.str k tk) else pure true
    let t2:=if byValue=true then t1 else { t1 with plain:=false }
    storeSet a es1 t2
    if (!wd && t2.tooFull)=true then do
      (match (relayAll t2 es1 (SetTable.grown es1.size)).2.2 with | true=>rule "set.scan.the-table-gave-way" | false=>pure ())
      storeSet a (relayAll t2 es1 (SetTable.grown es1.size)).1 (relayAll t2 es1 (SetTable.grown es1.size)).2.1
      pure (some true)
     else pure (some true)) (fun r s'=>wpAny (model prog w) A (match r with | some added=>pure added | none=>setAddHashedIn a (.str k tk) ((strKind prog w).hash k) 99999) Q E s') E s:=by
   split
   ·rw [hashByValue_scannable 8 rfl]
    exact wpAny_bind (wpAny_pure (tail' { t1 with plain:=false } hfits ⟨hgood.led,fun h=>by cases h⟩))
   ·exact wpAny_bind (wpAny_pure (tail' t1 hfits hgood))
  cases gave
  ·exact wpAny_bind (wpAny_pure mid)
  ·exact wpAny_bind (wpAny_rule mid)
end
inductive StrsAre:List Value->List Str->Prop
 | nil:StrsAre [] []
 | cons (z:Str) (t:Tok) {us:List Value} {zs:List Str}:StrsAre us zs->StrsAre (.str z t::us) (z::zs)
theorem StrsAre.length:∀ {us:List Value} {zs:List Str},StrsAre us zs->us.length=zs.length
 | _,_,.nil=>rfl
 | _,_,.cons z t r=>congrArg (· + 1) r.length
theorem StrsAre.U8:∀ {us:List Value} {zs:List Str},StrsAre us zs->∀ (i:Nat) (v:Value),us[i]? = some v->∃ t,v=.str (zs.getD i "") t
 | _,_,.nil,i,v,h=>by simp at h
 | _,_,.cons z t r,0,v,h=>by simp at h; exact ⟨t,h.symm⟩
 | _,_,.cons z t r,i+1,v,h=>by
  have h':_:=h
  rw [List.getElem?_cons_succ] at h'
  obtain ⟨t',e⟩:=r.U8 i v h'
  exact ⟨t',by rw [e]; rfl⟩
theorem JB.keep {prog:Program} {w:World} {h h':Heap} {a:Addr} {led:Bool} {σ:List Str} (g:JB prog w h a led σ) (k:∀ o,h.get? a=some o->h'.get? a=some o):JB prog w h' a led σ :=
 let ⟨es,ep,t,e,r⟩:=g; ⟨es,ep,t,k _ e,r⟩
theorem T7 (σ:List Str) (k:Str):(Em σ k).length<=σ.length+1:=by
 unfold Em
 split
 ·omega
 ·simp
theorem JW:∀ (ns:List Str) (σ:List Str),(ns.foldl Em σ).length<=σ.length+ns.length
 | [],σ=>by simp
 | k::ns,σ=>by
  have h1:=JW ns (Em σ k)
  have h2:=T7 σ k
  simp only [List.foldl_cons,List.length_cons]
  omega
section
variable {prog:Program} {w:World} {A:Around} {R:Result->Shared->Prop} {I:Addr} {fp wr:List Addr} {G:Array GenState->Array GenState->Prop} {n:Nat} {P:Nat->Value->Prop} {St:Nat->Shared->Prop} {led:Bool}
theorem YC (W:WalksS prog w A.in1 I fp wr G n P St) (S:Addr) (hSf:S ∉ fp) (ns:List Str) (hn:ns.length=n) (hval:∀ i v,P i v->∃ t,v=.str (ns.getD i "") t) (hb:n+1<scanBound) :
  ∀ (k i:Nat) (s:Shared),n - i=k->i<=n->St i s->JB prog w s.heap S led ((ns.take i).foldl Em []) ->
   (∀ s',Moved (S::wr) G s s'->JB prog w s'.heap S led (ns.foldl Em [])->R (.ok (.ret .none)) s')->codeAny (model prog w) A (.builtin "set.update.loop" ⟨[.ref S,.ref I],[]⟩) R s:=by
 have nw:S ∉ wr:=fun z=>hSf (W.sub _ z)
 have up:∀ b∈wr,b∈S::wr:=fun b z=>bg _ z
 intro k
 induction k with
 | zero =>
  intro i s hk hi st g hR
  obtain rfl:i=n:=by omega
  refine codeAny_builtin F.entry_set_update_loop ?_
  rw [Around.under_plainId F.plain_set_update_loop _]
  refine wpAny_bind (W.done s _ _ st fun s' m=>wpAny_pure (hR s' (m.mono up) ?_))
  rw [dt (by omega)] at g
  exact g.keep fun o e=>m.heap S o nw e
 | succ k ih =>
  intro i s hk hi st g hR
  have lt:i<n:=by omega
  refine codeAny_builtin F.entry_set_update_loop ?_
  rw [Around.under_plainId F.plain_set_update_loop _]
  refine wpAny_bind (W.item i s _ _ lt st fun v s' p st' m=>?_)
  obtain ⟨t,rfl⟩:=hval i v p
  have g':=g.keep (h':=s'.heap) fun o e=>m.heap S o nw e
  refine wpAny_bind (wpAny_holding (wpAny_holding (wpAny_bind ((strKind prog w).pyHash (k:=ns.getD i "") (strKind_is _ _ _ _) ?_))))
  have room:((ns.take i).foldl Em []).length+1<scanBound:=by
   have:=JW (ns.take i) []
   rw [bq] at this
   simp at this
   omega
  have tk:ns.take (i+1)=ns.take i++[ns.getD i ""]:=by
   have hl:i<ns.length:=by omega
   rw [fh,ae hl]
   simp [hl]
  refine dF (s:={ s' with toks:=s'.toks+1 }) g' room fun b h' sb g2=>?_
  have g3:JB prog w h' S led ((ns.take (i+1)).foldl Em []):=by
   rw [tk,List.foldl_append]
   exact g2
  refine wpAny_pure ⟨plainId_quiet F.plain_set_update_loop _,ih (i+1) _ (by omega) lt (W.frame _ s' _ _ st' (gu _) fun b hb o e=>?_) g3 fun s'' m2 g4=>?_⟩
  ·rw [sb.2 b (fun z:b=S=>hSf (z ▸ hb))]
   exact e
  ·refine hR s'' (Moved.trans W.gtrans ((m.mono up).then_heap (gu _) fun b o hb e=>?_) m2) g4
   rw [sb.2 b (fun z:b=S=>hb (by rw [z]; exact bv))]
   exact e
end
section
variable {prog:Program} {w:World} {A:Around} {E:Value->Shared->Prop} {s:Shared}
theorem WD (h:Heap):JB prog w (h.push { cls:=.type "set",dict:=none,data:=.set #[] 0 (.fresh 0 0 (Ep w)) }) h.objs.size (Ep w) [] :=
 ⟨#[],0,_,Heap.get?_push_size _ rfl,fun e he=>by simp at he,fun k=>by simp,rfl,.nil,by decide,by rfl,PK _⟩
set_option maxHeartbeats 4000000 in
theorem dO {l:Addr} {items:Array Value} {ns:List Str} {Q:Value->Shared->Prop} (hh:A.handled=none) (hl:s.heap.IsTuple l items) (hi:StrsAre items.toList ns) (hb:ns.length+1<scanBound)
  (h:∀ h' tk,JB prog w h' s.heap.objs.size (Ep w) (ns.foldl Em [])->(∀ b o,s.heap.get? b=some o->h'.get? b=some o)->Q (.ref s.heap.objs.size) { s with heap:=h',toks:=tk }) :
  wpAny (model prog w) A (call (.type "set") [.ref l]) Q E s:=by
 obtain ⟨c,tl,hmro⟩:=F.called_set.mro
 have hmade:=F.called_set.made
 have hsub:=F.called_set.sub
 have hlen:items.size=ns.length:=by rw [← StrsAre.length hi]; simp
 refine wpAny_call (codeAny_of_tree ?_)
 show wpAny _ _ (callAny (.type "set") _) _ _ _
 refine wpAny_pure ⟨Code.quiet_builtin _ (by decide +kernel),codeAny_builtin F.entry_type_call ?_⟩
 rw [Around.under_plain (weight_type_call_type "set" [.ref l] []) rfl]
 have h1:=F.called_set.notType
 have h2:=F.called_set.canCreate
 have hct:=F.typeCall_set_1 (.ref l)
 repeat (any_goals (first | assumption | wp_step))
 refine codeAny_mono (dN (.ref l) (E:=E) (Q1:=fun obj s1=>obj=.ref s.heap.objs.size/\s1 = { s with heap:=s.heap.push { cls:=.type "set",dict:=none,data:=.set #[] 0 (.fresh 0 0 (Ep w)) } }) ⟨rfl,rfl⟩) fun r s1 hr=>?_
 rcases r with e | fl
 ·exact hr
 obtain ⟨obj,rfl,hr⟩:∃ obj,fl=.ret obj/\(obj=.ref s.heap.objs.size/\s1 = { s with heap:=s.heap.push { cls:=.type "set",dict:=none,data:=.set #[] 0 (.fresh 0 0 (Ep w)) } }):=by
  cases fl with
  | ret v=>exact ⟨v,rfl,hr⟩
  | _=>exact hr.elim
 obtain ⟨rfl,rfl⟩:=hr
 have hS:(s.heap.push { cls:=.type "set",dict:=none,data:=.set #[] 0 (.fresh 0 0 (Ep w)) }).get? s.heap.objs.size=some { cls:=.type "set",dict:=none,data:=.set #[] 0 (.fresh 0 0 (Ep w)) }:=Heap.get?_push_size _ rfl
 have hT:Shared.TypeIs { s with heap:=s.heap.push { cls:=.type "set",dict:=none,data:=.set #[] 0 (.fresh 0 0 (Ep w)) } } (.ref s.heap.objs.size) "set":=⟨_,hS,rfl⟩
 have hli:=F.called_set.init.lookup
 have hbi:=F.called_set.init.bind (.ref s.heap.objs.size)
 repeat (any_goals (first | assumption | wp_step))
 refine codeAny_mono (codeAny_call_builtin (R:=wants (fun r s2=>r=.none/\∃ h' tk,s2 = { s with heap:=h',toks:=tk }/\JB prog w h' s.heap.objs.size (Ep w) (ns.foldl Em [])/\∀ b o,s.heap.get? b=some o->h'.get? b=some o) E)
  F.called_set.init.plain F.entry_set_init (check_set_init_1 hT ?_)) fun r2 s2 hr2=>?_
 ·obtain ⟨ol,hol,hcl,nl,hdl⟩:=hl
  obtain ⟨ocls,odict,odata,oslots⟩:=ol
  simp only at hcl hdl
  subst hcl; subst hdl
  have hol':(s.heap.push { cls:=.type "set",dict:=none,data:=.set #[] 0 (.fresh 0 0 (Ep w)) }).get? l=some { cls:=.type "tuple",dict:=odict,data:=.seq items nl,slots:=oslots }:=Heap.get?_push_of_some _ hol
  have hsls:=F.sub_tuple_set
  have hslf:=F.sub_tuple_frozenset
  have hne:(Value.type "tuple" == Value.type "dict")=false:=by decide
  have hl1:(s.heap.push { cls:=.type "set",dict:=none,data:=.set #[] 0 (.fresh 0 0 (Ep w)) }).IsTuple l items:=⟨_,hol',rfl,nl,rfl⟩
  unfold Builtin.«set.__init__» noKeywords Builtin.Frozenset.updateFrom
  generalize hPI:pyIter=PI
  wp_walk
  subst hPI
  refine wpAny_pyIter_tuple hl1 (wpAny_bind (wpAny_runValue ?_))
  have lS:l<s.heap.objs.size:=Heap.lt_size hol
  have h3:A.in1.in1.in1.handled=none:=by simp [hh]
  have nI:l ≠ (s.heap.push { cls:=.type "set",dict:=none,data:=.set #[] 0 (.fresh 0 0 (Ep w)) }).objs.size:=by
   rw [Heap.size_push]
   exact bp (gT lS)
  have nf:s.heap.objs.size ∉ [(s.heap.push { cls:=.type "set",dict:=none,data:=.set #[] 0 (.fresh 0 0 (Ep w)) }).objs.size,l]:=by
   rw [Heap.size_push]
   intro z
   rcases cm.mp z with q | q
   ·exact absurd q (bp (gg _))
   ·exact absurd (av.mp q) (gx lS)
  refine YC ((Walks.tuple h3 _ l nI items).toS) s.heap.objs.size nf ns hlen.symm (fun i v hv=>StrsAre.U8 hi i v (by rw [Array.getElem?_toList]; exact hv)) (by rw [hlen]; exact hb) (items.size - 0) 0 _ rfl (dL _)
   ⟨⟨_,Heap.get?_push_size _ rfl,rfl,rfl⟩,(hl1.push _)⟩ ((WD s.heap).keep fun o e=>Heap.get?_push_of_some _ e) fun s' m g=>?_
  obtain ⟨h',g',d',tk',os'⟩:=s'
  obtain rfl:g'=s.gens:=m.gens
  obtain rfl:d'=s.drawn:=m.drawn
  obtain rfl:os'=s.os:=m.os
  show wpAny _ _ _ _ _ _
  refine wpAny_pure ?_
  show wpAny _ _ (ret Value.none) _ _ _
  refine wpAny_pure ⟨rfl,h',tk',rfl,g,fun b o e=>?_⟩
  have b1:=Heap.lt_size e
  refine m.heap b o (fun z=>?_) (Heap.get?_push_of_some _ (Heap.get?_push_of_some _ e))
  rcases cm.mp z with q | q
  ·exact absurd q (bp b1)
  ·have:=av.mp q
   rw [Heap.size_push] at this
   exact absurd this (bp (gT b1))
 ·rcases r2 with e | fl2
  ·exact hr2
  obtain ⟨r,rfl,hr2⟩:∃ r,fl2=.ret r/\(r=.none/\∃ h' tk,s2 = { s with heap:=h',toks:=tk }/\JB prog w h' s.heap.objs.size (Ep w) (ns.foldl Em [])/\∀ b o,s.heap.get? b=some o->h'.get? b=some o):=by
   cases fl2 with
   | ret v=>exact ⟨v,rfl,hr2⟩
   | _=>exact hr2.elim
  obtain ⟨rfl,h',tk,rfl,g,hk⟩:=hr2
  repeat (any_goals (first | assumption | wp_step))
  exact h _ _ g hk
end
end Ws
namespace L2
open PySem PySem.Spec PyProof.Rows
noncomputable def La (P:Program) (w:World) (a:Addr) (τ:List Str):HO:=.ext fun h=>Ws.JB P w h a (Wd.Ep w) τ
theorem Uy {P:Program} {w:World} {H:Hp} {h:Heap} {a:Addr} {τ:List Str} (g:Ws.JB P w h a (Wd.Ep w) τ):By P w H h a (La P w a τ) :=
 ⟨g,(let ⟨_,_,_,e,_⟩:=g; ⟨_,e⟩),fun _ _ g k=>g.keep k⟩
theorem K5:∀ {ts:List Str} {us:List Value},Vals (ts.map V.str) us->Ws.StrsAre us ts
 | [],_,r=>by cases r; exact .nil
 | n::ns,_,r=>by
  cases r with
  | cons r t =>
   obtain ⟨tk,rfl⟩:=r
   exact .cons n tk (K5 t)
section
variable {X:Cx}
theorem LQ (hc:X.calm=true):Ft X (.type "set") (fun xs H Q=>∃ (l:Addr) (ts:List Str),xs=[V.ref l]/\Fq X.K H l (ts.map V.str)/\ts.length<=1000/\∀ p,H p=none->Q (.ref p) (upd H p (La X.prog X.w p (ts.foldl Ws.Em [])))):=by
 intro pins s σ H xs us Q I r h
 obtain ⟨l,ts,rfl,hl,hz,q⟩:=h
 obtain ⟨u,rfl,ru⟩:=vals1 r
 cases ru
 obtain ⟨its,rv,pl,_⟩:=I.tuple hl
 have hn:H s.heap.objs.size=none:=I.hok.fresh (am _)
 refine Ws.dO (I.ok.hd hc) pl (by simpa using K5 rv) (by unfold scanBound; omega) fun h' tk g k=>?_
 exact ⟨.ref s.heap.objs.size,_,I.laid (t':=tk) k (am _) (Uy g),rfl,q _ hn⟩
theorem Hl:Ft X (.builtin "len") (fun xs H Q=>∃ (a:Addr) (τ:List Str),xs=[V.ref a]/\H a=some (La X.prog X.w a τ)/\Q (.int (τ.length:Nat)) H):=by
 intro pins s σ H xs us Q I r h
 obtain ⟨a,τ,rfl,ha,q⟩:=h
 obtain ⟨u,rfl,ru⟩:=vals1 r
 cases ru
 obtain ⟨⟨es,ep,t,e1,e2,e3,e4,e5,e6,e7,e8⟩,_,_⟩:=(show By X.prog X.w H s.heap a (La X.prog X.w a τ) from I.hok a _ ha)
 unfold scanBound at e6
 refine call_len_set e1 ⟨rfl,rfl,rfl⟩ rfl e7 (by omega) ⟨.int ((es.size:Nat):Int),H,I.tok _,⟨_,rfl⟩,?_⟩
 rw [e4]
 exact q
end
theorem JR:∀ (ts τ:List Str),(τ++ts).Nodup->(ts.foldl Ws.Em τ)=τ++ts
 | [],τ,_=>(dQ _).symm
 | t::ts,τ,h=>by
  have hn:t ∉ τ:=fun z=>by
   rw [fi] at h
   exact h.2.2 t z t (bv ..) rfl
  rw [List.foldl_cons]
  have e:Ws.Em τ t=τ++[t]:=by unfold Ws.Em; rw [if_neg hn]
  rw [e,JR ts (τ++[t]) (by rw [eI]; exact h),eI]
  rfl
end L2
namespace L2
open PySem PySem.Spec PyProof.Rows
section
variable {X:Cx}
end
end L2
namespace L2
open PySem PySem.Spec PyProof.Rows
section
variable {σ:St} {H1:Hp} {Q:VK} {tt:TT} {te:TE}
theorem KR {K:PySem.W.Frag} {a:Addr} {xs:List V} (p:V->Bool) (f:V->V) (hl:Fq K H1 a xs) (hz:xs.length<sizeLine)
  (ht:∀ x∈xs,∀ H,Am H1 H->∀ R:Bool->Hp->Prop,(∀ H',Am H H'->R (p x) H')->tt (some x::σ) H R)
  (he:∀ x∈xs,p x=true->∀ H,Am H1 H->∀ R:VK,(∀ H',Am H H'->R (f x) H')->te (some x::σ) H R)
  (hq:∀ D H,H1 D=none->Am H1 H->H D=some (.lst ((xs.filter p).map f))->Q (.ref D) H):Gg (gM K a) σ H1 Q tt te :=
 GJ p f hz (fun i H x hs hx=>⟨xs,x,hs.tup hl,hx⟩) (fun i H y H' hs _ hy=>⟨hy.1,hy.2 xs (hs.tup hl)⟩) (fun H hs=>⟨xs,hs.tup hl,am _⟩) ht he hq
end
end L2
namespace Og
open PySem L2
theorem V0 {X:Cx} {K:PySem.W.Frag} {e:Expr} {f:Str} {pos:Pos} {ta:TE} (hK:X.K=K) (he:PE X e ta) (hb:attributeBase e f X.env (eval e X.env)=eval e X.env):PE X (.Attribute e f pos) (aX K ta f):=by
 rw [← hK]
 exact G9 he hb
structure SN (K:PySem.W.Frag) (aM:Addr) (ρ:V->R) (vs:List V) (r:R):Prop where
 w:r.w = "step"
 ts:∃ ts:List Str,V.str r.nm::r.rest=ts.map V.str/\ts.Nodup/\ts.length<=24/\∀ t∈ts,isNm t/\Hi ρ vs "stop" t=true
 room:∃ (m:Int) (t:Tok),PySem.W.nsIn K aM r.w=some (some (.int m t))/\(((vs.filter (pw ρ r.w)).length:Nat):Int)<m
noncomputable abbrev Dn (K:PySem.W.Frag) (aB aP aM:Addr) (ρ:V->R) (vs:List V) (r:R):Prop:=El K aB aP aM ρ vs r \/ SN K aM ρ vs r
theorem Dn.room {K:PySem.W.Frag} {aB aP aM:Addr} {ρ:V->R} {vs:List V} {r:R} (h:Dn K aB aP aM ρ vs r):PySem.W.nsIn K aM r.w=some none \/ ∃ (m:Int) (t:Tok),PySem.W.nsIn K aM r.w=some (some (.int m t))/\(((vs.filter (pw ρ r.w)).length:Nat):Int)<m :=
 h.elim (fun h=>h.room.elim (fun z=>.inl z.2) .inr) (fun h=>.inr h.room)
noncomputable def JZ (r:R):List Str:=(V.str r.nm::r.rest).map fun v=>match v with | .str t=>t | _=>""
theorem Hc {r:R} {ts:List Str} (h:V.str r.nm::r.rest=ts.map V.str):JZ r=ts:=by
 unfold JZ
 rw [h,bX]
 exact hG ts
noncomputable def stN (ks:List R) (r:R):Nat:=Wd.mk ((JZ r).map fun t=>(ks.map (·.nm)).idxOf t)
structure iD (K:PySem.W.Frag) (aB aP aM:Addr) (ρ:V->R) (us:List V) (bs:List (Str × Nat)) (rk:List (Str × Nat × Int)) (ks:List R):Prop where
 eb:(us.filter (pw ρ "board")).map ρ=bs.map Gq
 er:(us.filter (pw ρ "rank")).map ρ=rk.map Fp
 ek:(us.filter (fun v=>Hf (ρ v).w)).map ρ=ks
 ln:∀ (i:Nat) v,us[i]? = some v->(ρ v).w = "line"->(∃ (j:Nat) (r:Str × Nat × Int) (sh lo hi:Int),rk[j]? = some r/\r.1=(ρ v).nm/\(ρ v).rest=[.int sh,.int lo,.int hi])/\∃ u∈us.take i,Hf (ρ u).w=true
 st:∀ v∈us,(ρ v).w = "step"->∃ ts:List Str,V.str (ρ v).nm::(ρ v).rest=ts.map V.str/\ts.length<=24/\∀ t∈ts,t∈ks.map (·.nm)
 b0:1<=bs.length
 b5:bs.length<=5
 sz:∀ b∈bs,b.2<=61
 nr:rk.length<=12
 nz:∀ r∈rk,r.2.1<=97
 nk:ks.length<=100
 nb:(bs.map (·.1)).Nodup
 nrr:(rk.map (·.1)).Nodup
 nn:(ks.map (·.nm)).Nodup
 len:us.length<=150
 ok:∀ (i:Nat) v,us[i]? = some v->Dn K aB aP aM ρ (us.take i) (ρ v)
structure Sw (C:Addr) (H:Hp) (x:Addr) (us:List V) (bs:List (Str × Nat)) (rk:List (Str × Nat × Int)) (ks:List R) (ls:List (List Ln)) (sts:List Nat):Prop where
 o:YZ C H x bs rk ks ls
 m:∃ (dx:Addr) (fs:List (Str × V)) (rl kd ss:Addr) (kvs:List (Key × V)),H x=some (.ins C dx fs)/\fs.lookup ("row_list" : Str)=some (.ref rl)/\fs.lookup ("knob_numbers" : Str)=some (.ref kd)/\fs.lookup ("step_sets" : Str)=some (.ref ss) /\
  H rl=some (.lst us)/\H kd=some (.dK kvs)/\(∀ (i:Nat) t,(ks.map (·.nm))[i]? = some t->Cq kvs (Sum.inr t)=some (.int (i:Nat)))/\(∀ t,t ∉ ks.map (·.nm)->Cq kvs (Sum.inr t)=none)/\H ss=some (.lst (sts.map fun n:Nat=>V.int (n:Int))) /\
  ∃ (bn:Addr) (kb:List (Key × V)),fs.lookup ("board_numbers" : Str)=some (.ref bn)/\H bn=some (.dK kb)/\∀ t,t ∉ bs.map (·.1)->Cq kb (Sum.inr t)=none
noncomputable def Eh (p:Addr) (H:Hp) (D:Addr) (ls:List (List Ln)):Prop:=∃ lv,H D=some (.lst lv)/\D ≠ p/\Paired (fun l v=>G5 H l v/\v ≠ .ref p) ls lv
theorem Eh.mono {p:Addr} {H H':Hp} {D:Addr} {ls:List (List Ln)} (s:Am H H') (h:Eh p H D ls):Eh p H' D ls:=by
 obtain ⟨lv,h1,h2,h3⟩:=h
 exact ⟨lv,s _ _ h1,h2,Paired.Ga h3 fun _ _ q=>⟨q.1.mono s,q.2⟩⟩
theorem Eh.sx {p x C dx:Addr} {fs:List (Str × V)} {H H':Hp} {D:Addr} {ls:List (List Ln)} (h:Eh p H D ls) (s:SX x H H') (hx:H x=some (.ins C dx fs)):Eh p H' D ls:=by
 obtain ⟨lv,h1,h2,h3⟩:=h
 refine ⟨lv,s.lst hx h1,h2,Paired.Ga h3 fun _ _ q=>⟨?_,q.2⟩⟩
 obtain ⟨A,ts,e,h4,h5⟩:=q.1
 exact ⟨A,ts,e,s.lst hx h4,s.pair hx h5⟩
theorem S_ {p:Addr} {H H':Hp} {us zs:List V} {y:V} (s:SX p H H') (hp:H p=some (.lst us)) (h:TupAt H zs y):TupAt H' zs y:=by
 obtain ⟨T,rfl,e⟩:=h
 exact ⟨T,rfl,s _ _ e fun z=>by rw [z,hp] at e; cases e⟩
theorem JD {α:Type} {f:α->List V} {p:Addr} {H H':Hp} {us vs:List V} {l:List α} (s:SX p H H') (hp:H p=some (.lst us)) (h:Paired (fun a y=>TupAt H (f a) y) l vs):Paired (fun a y=>TupAt H' (f a) y) l vs:=Paired.Ga h fun _ _ q=>S_ s hp q
theorem QQ {p a:Addr} {H H':Hp} {us:List V} {kvs:List (Key × V)} (s:SX p H H') (hp:H p=some (.lst us)) (h:H a=some (.dK kvs)):H' a=some (.dK kvs):=s _ _ h fun z=>by rw [z,hp] at h; cases h
theorem Eh.sp {p:Addr} {H H':Hp} {us:List V} {D:Addr} {ls:List (List Ln)} (h:Eh p H D ls) (s:SX p H H') (hp:H p=some (.lst us)):QZ H' D ls:=by
 obtain ⟨lv,h1,h2,h3⟩:=h
 refine ⟨lv,s _ _ h1 h2,Paired.Ga h3 fun _ v q=>?_⟩
 obtain ⟨⟨A,ts,rfl,h4,h5⟩,hn⟩:=q
 exact ⟨A,ts,rfl,s _ _ h4 (fun z=>hn (by rw [z])),JD s hp h5⟩
end Og
namespace L2
open PySem PySem.Spec PyProof.Rows
noncomputable def Dp:Nat->Hp->V->V->Prop
 | 0,_,x,y=>x=y/\Fx x=true
 | n+1,H,x,y=>(x=y/\Fx x=true) \/ ∃ a b xs ys,x=V.ref a/\y=V.ref b/\((H a=some (.lst xs)/\H b=some (.lst ys)) \/ (H a=some (.tup xs)/\H b=some (.tup ys)))/\Paired (Dp n H) xs ys
theorem Mi {n:Nat} {H:Hp} {x:V} (h:Fx x=true):Dp n H x x:=by
 cases n with
 | zero=>exact ⟨rfl,h⟩
 | succ n=>exact .inl ⟨rfl,h⟩
theorem Ey {R:V->V->Prop}:∀ {xs ys:List V},Paired R xs ys->∀ j,j<xs.length->R (xs.getD j .non) (ys.getD j .non)
 | _,_,.nil,j,h=>absurd h (fR _)
 | _,_,.cons a b,0,_=>a
 | _,_,.cons a b,j+1,h=>Ey b j (Nat.lt_of_succ_lt_succ h)
section
variable {X:Cx} {pins:List (Addr × Obj)} {σ:St} {H:Hp} {s:Shared}
theorem Jy (I:Inv X pins σ H s):∀ (n:Nat) (A:Around) (x y:V) (u v:Value),A.units+n<cLine->Dp n H x y->RelV x u->RelV y v->SeqAt.EqAt A s u v true
 | 0,A,x,y,u,v,hu,h,rx,ry=>by
  obtain ⟨rfl,hf⟩:=h
  have:=PQ (A:=A) (s:=s) rx ry hf hf
  rw [NQ hf] at this
  exact this
 | n+1,A,x,y,u,v,hu,h,rx,ry=>by
  rcases h with ⟨rfl,hf⟩ | ⟨a,b,xs,ys,rfl,rfl,hab,p⟩
  ·have:=PQ (A:=A) (s:=s) rx ry hf hf
   rw [NQ hf] at this
   exact this
  ·cases rx
   cases ry
   by_cases hne:a=b
   ·subst hne
    exact SeqAt.EqAt.same _
   ·refine SeqAt.EqAt.of_refs hne ?_
    have pl:=p.length
    rcases hab with ⟨ha,hb⟩ | ⟨ha,hb⟩
    ·obtain ⟨i1,r1,p1,_⟩:=I.list (show Dh X.K H a xs from .inl (.inl ha))
     obtain ⟨i2,r2,p2,_⟩:=I.list (show Dh X.K H b ys from .inl (.inl hb))
     have l1:=r1.length
     have l2:=r2.length
     have h:=SeqAt.RcAt.lists (A:=A) (e:=fun _=>true) p1.isList p2.isList (by simp; omega) (by omega) (fun j h1 h2=>by
      have h1':j<i1.length:=by simpa using h1
      have h2':j<i2.length:=by simpa using h2
      simp only [List.getElem_toArray]
      exact Jy I n A.in1 _ _ _ _ (by show A.units+1+n<cLine; omega) (Ey p j (by omega)) (Gy r1 h1') (Gy r2 h2'))
     have e:((List.range i1.toArray.size).all fun _=>true)=true:=cw.mpr fun _ _=>rfl
     rw [e] at h
     exact h
    ·obtain ⟨i1,r1,p1,_⟩:=I.tuple (show Fq X.K H a xs from .inl (.inl ha))
     obtain ⟨i2,r2,p2,_⟩:=I.tuple (show Fq X.K H b ys from .inl (.inl hb))
     have l1:=r1.length
     have l2:=r2.length
     have h:=SeqAt.RcAt.tuples (A:=A) (e:=fun _=>true) p1 p2 (by omega) (fun j h1 h2=>by
      have h1':j<i1.length:=by simpa using h1
      have h2':j<i2.length:=by simpa using h2
      simp only [List.getElem_toArray]
      exact Jy I n A.in1 _ _ _ _ (by show A.units+1+n<cLine; omega) (Ey p j (by omega)) (Gy r1 h1') (Gy r2 h2'))
     have e:((List.range (min i1.toArray.size i2.toArray.size)).all fun _=>true)=true:=cw.mpr fun _ _=>rfl
     have e2:(i1.toArray.size == i2.toArray.size)=true:=beq_iff_eq.mpr (by simp; omega)
     rw [e,e2] at h
     exact h
end
section
variable {X:Cx}
theorem Nu (n:Nat) (hu:X.A.units+(n+1)<cLine):Gn X (compareOp .NotEq) (fun x y H Q=>∃ a b,x=V.ref a/\y=V.ref b/\Dp (n+1) H x y/\Q (.bl false) H):=by
 intro pins s σ H x y v u Q I rx ry h
 obtain ⟨a,b,rfl,rfl,h,k⟩:=h
 rcases h with ⟨_,hf⟩ | ⟨a',b',xs,ys,ea,eb,hab,p⟩
 ·cases hf
 cases ea
 cases eb
 cases rx
 cases ry
 have pl:=p.length
 rcases hab with ⟨ha,hb⟩ | ⟨ha,hb⟩
 ·obtain ⟨i1,r1,p1,_⟩:=I.list (show Dh X.K H a xs from .inl (.inl ha))
  obtain ⟨i2,r2,p2,_⟩:=I.list (show Dh X.K H b ys from .inl (.inl hb))
  have l1:=r1.length
  have l2:=r2.length
  refine SeqAt.RcNeAt.lists (e:=fun _=>true) p1.isList p2.isList (by simp; omega) (by omega) (fun j h1 h2=>by
   have h1':j<i1.length:=by simpa using h1
   have h2':j<i2.length:=by simpa using h2
   simp only [List.getElem_toArray]
   exact Jy I n X.A.in1 _ _ _ _ (by show X.A.units+1+n<cLine; omega) (Ey p j (by omega)) (Gy r1 h1') (Gy r2 h2')) _ _ _ _ ⟨.bl false,H,I,?_,k⟩
  have e:((List.range i1.toArray.size).all fun _=>true)=true:=cw.mpr fun _ _=>rfl
  rw [e]
  exact rfl
 ·obtain ⟨i1,r1,p1,_⟩:=I.tuple (show Fq X.K H a xs from .inl (.inl ha))
  obtain ⟨i2,r2,p2,_⟩:=I.tuple (show Fq X.K H b ys from .inl (.inl hb))
  have l1:=r1.length
  have l2:=r2.length
  refine SeqAt.RcNeAt.tuples (e:=fun _=>true) p1 p2 (by omega) (fun j h1 h2=>by
   have h1':j<i1.length:=by simpa using h1
   have h2':j<i2.length:=by simpa using h2
   simp only [List.getElem_toArray]
   exact Jy I n X.A.in1 _ _ _ _ (by show X.A.units+1+n<cLine; omega) (Ey p j (by omega)) (Gy r1 h1') (Gy r2 h2')) _ _ _ _ ⟨.bl false,H,I,?_,k⟩
  have e:((List.range (min i1.toArray.size i2.toArray.size)).all fun _=>true)=true:=cw.mpr fun _ _=>rfl
  have e2:(i1.toArray.size == i2.toArray.size)=true:=beq_iff_eq.mpr (by simp; omega)
  rw [e,e2]
  exact rfl
end
end L2
namespace L2
open PySem PySem.Spec PySem.Calls PyProof.Rows
noncomputable def Xr (h:Heap) (x T C:Addr) (od:Option Addr) (fl:Value):Prop :=
 ∃ (vs ts:Array Value) (sl:Array (Option Value)) (oT:Obj),h.get? x=some ⟨.ref C,od,.fields vs,sl⟩/\vs[1]? = some (.ref T)/\T ≠ x/\h.get? T=some oT/\oT.data=.fields ts/\ts[3]? = some fl
structure Mv (fs:List Addr) (x T:Addr) (h h':Heap):Prop where
 keep:∀ b o,h.get? b=some o->b ≠ x->b ≠ T->b ∉ fs->h'.get? b=some o
 any:∀ b o,h.get? b=some o->b ≠ x->b ≠ T->∃ sl,h'.get? b=some { o with slots:=sl }
section
variable {M:Model} {A:Around} {E:Value->Shared->Prop} {s:Shared} {base:Heap} {env:Env} {outer:List Env} {L x T C:Addr} {od:Option Addr} {Q:Unit->Shared->Prop}
theorem KQ {vs:Array Value} {sl:Array (Option Value)} {head:Value} {hadNext:Bool} (hfr:A.frames=some (env::outer)) (hl:s.heap.FunFrames base (env::outer)) (hf:env.frame=some L)
  (he:s.heap.get? x=some ⟨.ref C,od,.fields vs,sl⟩) (hsz:1<vs.size)
  (h:∀ h' T',Xr h' x T' C od (rawInt L)->Mv (frs (env::outer)) x x s.heap h'->s.heap.get? T'=none->Q () { s with heap:=h' }) :
  wpAny M A (do let a ← frameOf env; let pl ← entryPlaceOf L hadNext; let b ← EntryCells.newEntry head a .none (rawInt L) .none pl; setField (.ref x) 1 b) Q E s:=by
 have hene:x ∉ (env::outer).filterMap (·.frame):=fun hm=>by
  obtain ⟨_,o,ho,hnf⟩:=hl.mem hm
  rw [he] at ho; injection ho with ho; subst ho; exact hnf vs rfl
 refine wpAny_bind (wpAny_frameOf_fun hfr hl hf fun h₁ hs₁=>?_)
 refine wpAny_bind (wpAny_entryPlaceOf fun pl hpl=>?_)
 unfold EntryCells.newEntry newFields
 refine wpAny_bind (wpAny_newObj_type ?_ (hpl.sizeOk5 _ _ _ _ _))
 have he₁:h₁.get? x=some ⟨.ref C,od,.fields vs,sl⟩:=(hs₁.2.1 x hene).trans he
 have he₂:=Heap.get?_push_of_some (h:=h₁) { cls:=.type "traceback",dict:=none,data:=.fields ([head,.ref L,.none,rawInt L,.none]++(if pl.isEmpty then List.replicate 6 Value.none else pl)).toArray } he₁
 refine wpAny_setField he₂ rfl hsz ?_
 have hTe:h₁.objs.size ≠ x:=gx (Heap.lt_size he₁)
 have hd₃:=Obj.data_mapFields (o:=⟨.ref C,od,.fields vs,sl⟩) rfl (·.setIfInBounds 1 (Value.ref h₁.objs.size))
 have he₃:=Heap.get?_update_self (Obj.mapFields (·.setIfInBounds 1 (Value.ref h₁.objs.size))) he₂ (Obj.isFreed_of_fields hd₃)
 have hT₃:=(Heap.get?_update_other (h₁.push { cls:=.type "traceback",dict:=none,data:=.fields ([head,.ref L,.none,rawInt L,.none]++(if pl.isEmpty then List.replicate 6 Value.none else pl)).toArray })
  (Obj.mapFields (·.setIfInBounds 1 (Value.ref h₁.objs.size))) (Ne.symm hTe)).trans (Heap.get?_push_size h₁ rfl)
 refine h _ h₁.objs.size ⟨_,_,sl,_,he₃,by simp [hsz],hTe,hT₃,rfl,by first | (simp; done) | (rcases hpl with rfl | ⟨_,_,_,_,_,_,_,rfl⟩ <;> simp)⟩ ⟨fun b o hb hx _ hn=>?_,fun b o hb hx _=>?_⟩ ?_
 ·rw [Heap.get?_update_other _ _ (Ne.symm hx)]
  exact Heap.get?_push_of_some _ ((hs₁.2.1 b hn).trans hb)
 ·obtain ⟨sl',hs⟩:=hs₁.2.2 b o hb
  rw [Heap.get?_update_other _ _ (Ne.symm hx)]
  exact ⟨sl',Heap.get?_push_of_some _ hs⟩
 ·refine Heap.get?_none_of_le ?_
  rw [hs₁.1]
  exact am _
theorem Ow {vs:Array Value} {sl:Array (Option Value)} (hfr:A.frames=some (env::outer)) (hl:s.heap.FunFrames base (env::outer)) (hf:env.frame=some L)
  (he:s.heap.get? x=some ⟨.ref C,od,.fields vs,sl⟩) (h1:vs[1]? = some .none)
  (h:∀ h' T',Xr h' x T' C od (rawInt L)->Mv (frs (env::outer)) x x s.heap h'->s.heap.get? T'=none->Q () { s with heap:=h' }):wpAny M A (noteFrame (.ref x) env) Q E s:=by
 unfold noteFrame
 simp only [hf]
 refine wpAny_bind (wpAny_field he rfl h1 ?_)
 rw [if_neg (by decide)]
 exact KQ hfr hl hf he (Array.getElem?_eq_some_iff.mp h1).1 h
theorem QS (hfr:A.frames=some (env::outer)) (hl:s.heap.FunFrames base (env::outer)) (hf:env.frame=some L) (hy:Xr s.heap x T C od .none)
  (h:∀ h' T',Xr h' x T' C od (rawInt L)->Mv (frs (env::outer)) x T s.heap h'->s.heap.get? T'=none->Q () { s with heap:=h' }):wpAny M A (noteFrame (.ref x) env) Q E s:=by
 obtain ⟨vs,ts,sl,oT,he,h1,hTe,hT,hdT,h3⟩:=hy
 have hsz3:=(Array.getElem?_eq_some_iff.mp h3).1
 unfold noteFrame
 simp only [hf]
 refine wpAny_bind (wpAny_field he rfl h1 ?_)
 rw [if_pos (show (Value.ref T != Value.none)=true from by simp)]
 refine wpAny_bind (wpAny_field hT hdT h3 ?_)
 rw [if_neg (show ¬ ((Value.none == rawInt L)=true) from by simp [rawInt])]
 refine wpAny_bind (wpAny_setField hT hdT hsz3 ?_)
 have other:∀ b,b ≠ T->(s.heap.update T (Obj.mapFields (·.setIfInBounds 3 Value.none))).get? b=s.heap.get? b:=fun b hb=>Heap.get?_update_other _ _ (Ne.symm hb)
 have hTn:=Heap.get?_update_self (Obj.mapFields (·.setIfInBounds 3 Value.none)) hT (Obj.isFreed_of_fields (Obj.data_mapFields hdT _))
 have noRecord:∀ b o,s.heap.get? b=some o->(∀ vs,o.data ≠ .fields vs)->b ≠ T:=fun b o hb hnf q=>by
  rw [q,hT] at hb; injection hb with hb; subst hb; exact hnf ts hdT
 refine KQ (s:={ s with heap:=s.heap.update T (Obj.mapFields (·.setIfInBounds 3 Value.none)) }) hfr (hl.of_keeps fun b o hb hnf=>⟨o,(other b (noRecord b o hb hnf)).trans hb,rfl⟩) hf ((other x (Ne.symm hTe)).trans he) (Array.getElem?_eq_some_iff.mp h1).1 fun h' T' y m n=>?_
 have nT:T' ≠ T:=fun z=>by
  subst z
  have n':(s.heap.update T' (Obj.mapFields (·.setIfInBounds 3 Value.none))).get? T'=none:=n
  rw [hTn] at n'; cases n'
 exact h h' T' y ⟨fun b o hb hx ht hn=>m.keep b o ((other b ht).trans hb) hx hx hn,fun b o hb hx ht=>m.any b o ((other b ht).trans hb) hx hx⟩ ((other T' nT).symm.trans n)
theorem Fv {fl:Value} (hy:Xr s.heap x T C od fl) (h:∀ h',Xr h' x T C od .none->Mv [] x T s.heap h'->Q () { s with heap:=h' }):wpAny M A (setFlight (.ref x) none) Q E s:=by
 obtain ⟨vs,ts,sl,oT,he,h1,hTe,hT,hdT,h3⟩:=hy
 have hsz3:3<ts.size:=(Array.getElem?_eq_some_iff.mp h3).1
 have other:∀ b,b ≠ T->(s.heap.update T (Obj.mapFields (·.setIfInBounds 3 ((none:Option Addr).elim Value.none fun f=>rawInt f)))).get? b=s.heap.get? b :=
  fun b hb=>Heap.get?_update_other _ _ (Ne.symm hb)
 unfold setFlight
 refine wpAny_bind (wpAny_field he rfl h1 ?_)
 rw [if_pos (show (Value.ref T != Value.none)=true from by simp)]
 refine wpAny_setField hT hdT hsz3 (h _ ?_ ⟨fun b o hb _ ht _=>(other b ht).trans hb,fun b o hb _ ht=>⟨o.slots,(other b ht).trans hb⟩⟩)
 exact ⟨vs,_,sl,_,(other x (Ne.symm hTe)).trans he,h1,hTe,Heap.get?_update_self _ hT (Obj.isFreed_of_fields (Obj.data_mapFields hdT _)),Obj.data_mapFields hdT _,by simp [hsz3]⟩
end
section
variable {P:Program} {w:World} {fs:List Addr} {H H':Hp} {h h1 h2 h3:Heap} {x T T':Addr}
theorem O7 {h:Heap} {b y:Addr} {o:Obj} (e:h.get? b=some o) (n:h.get? y=none):b ≠ y:=fun z=>by
 rw [z,n] at e
 cases e
theorem FN.mv (k:FN P w H h) (m:Mv fs x T h h1) (hx:H x=none) (hT:H T=none) (hf:∀ b∈fs,H b=none):FN P w H h1:=fun b u e=>by
 have ne:∀ c,H c ≠ none->c ≠ x/\c ≠ T/\c ∉ fs:=fun c q=>⟨fun z=>q (z ▸ hx),fun z=>q (z ▸ hT),fun z=>q (hf c z)⟩
 refine (k b u e).stay (fun c v hc q=>?_) (fun _ q=>q) fun _ _ q=>q
 have hq:H c ≠ none:=by
  rcases hc with z | z
  ·rw [z,e]; simp
  ·rw [z]; simp
 obtain ⟨a1,a2,a3⟩:=ne c hq
 exact m.keep c v q a1 a2 a3
theorem Un.mv {gs:List Addr} (u:Un gs [] H H' h h1) (m:Mv fs x T h1 h2) (hx:h.get? x=none) (hT:h.get? T=none) (hf:∀ b∈fs,b ∉ gs->h.get? b=none):Un gs [] H H' h h2:=by
 have ne:∀ b o,h.get? b=some o->b ≠ x/\b ≠ T:=fun b o e=>⟨O7 e hx,O7 e hT⟩
 refine ⟨fun b o e n hb hx'=>?_,fun b o e n hb hx'=>?_,u.free,fun b o e hx'=>?_,u.tups,u.frzs,u.tbls⟩
 ·obtain ⟨a1,a2⟩:=ne b o e
  refine m.keep b o (u.keep b o e n hb hx') a1 a2 fun z=>?_
  have:=hf b z hb
  rw [e] at this; cases this
 ·obtain ⟨a1,a2⟩:=ne b o e
  obtain ⟨sl,e1⟩:=u.slot b o e n hb hx'
  obtain ⟨sl',e2⟩:=m.any b _ e1 a1 a2
  exact ⟨sl',e2⟩
 ·obtain ⟨a1,a2⟩:=ne b o e
  obtain ⟨o',e1⟩:=u.there b o e hx'
  obtain ⟨sl,e2⟩:=m.any b o' e1 a1 a2
  exact ⟨_,e2⟩
end
noncomputable def Rz (P:Program) (w:World):Oq:=fun outer H s E e s'=>∃ (x T C:Addr) (od:Option Addr) (H':Hp),e=.ref x/\s'.os=s.os/\AllBare s'.gens/\Xr s'.heap x T C od .none/\s.heap.get? x=none/\s.heap.get? T=none /\
 H' x=none/\H' T=none/\FN P w H' s'.heap/\Un (frs outer) [] H H' s.heap s'.heap/\E (.ref C) od H'
section
variable {X:Cx} {C:Addr} {x:Str} {e:Expr} {es:List Expr} {t:TA} {np cpos pos:Pos} {E:XK}
end
theorem OJ {prog:Program} {w:World} {A:Around} {E:Value->Shared->Prop} {s:Shared} {K:PySem.W.Frag} {x C O:Addr} {od:Option Addr} {d:Data} {sl:Array (Option Value)} {b:Bool} {Q:Bool->Shared->Prop}
  (X:K.In s.heap) (he:s.heap.get? x=some ⟨.ref C,od,d,sl⟩) (q:PySem.W.excIn K O R0 "ValueError.__new__" = true) (hm:PySem.W.mroIn K C (.ref O)=some b) (h:Q b s):wpAny (model prog w) A (excMatches (.ref x) (.ref O)) Q E s:=by
 obtain ⟨bm,N,nm,qn,bs,hdct,sn,sub,ab,col,dd,k0,k1,k2,k3,k5,mN,hC,hN,hni,TL⟩:=VH X q
 have hbase:bm.contains (.type "BaseException")=true:=TL.hasType (by decide)
 have hcB:(Value.ref O::bm).contains (.type "BaseException")=true:=by rw [List.contains_cons,hbase,Bool.or_true]
 have L:=PySem.W.looks_mroIn (M:=model prog w) X hm
 have f:=tc_notTuple
 obtain ⟨hp,g,dr,tk,os⟩:=s
 unfold excMatches
 repeat (first | with_reducible refine wpAny_loadPart_at he ?_ | with_reducible refine wpAny_loadPart_at hC ?_ | (with_reducible refine wpAny_isSubtype_exc hC ?_; rw [hcB]) | with_reducible refine L.at ?_ | wp_step)
 cases b <;> (wp_walk; exact h)
theorem Un.adopt {gs:List Addr} {H1 H2:Hp} {h h':Heap} {x:Addr} {o:HO} (u:Un gs [] H1 H2 h h') (hx:h.get? x=none) (hn:H2 x=none):Un gs [] H1 (upd H2 x o) h h' :=
 ⟨u.keep,u.slot,fun b ob e n hb=>by rw [Aq (O7 e hx)]; exact u.free b ob e n hb,u.there,fun b xs e=>by rw [Aq (Ao (u.tups b xs e) hn)]; exact u.tups b xs e,
  fun b ob v e=>by rw [Aq (Ao (u.frzs b ob v e) hn)]; exact u.frzs b ob v e,fun b ps e=>by
   obtain ⟨more,e1⟩:=u.tbls b ps e
   exact ⟨more,by rw [Aq (Ao e1 hn)]; exact e1⟩⟩
noncomputable abbrev Cx.inX (X:Cx) (x:Addr):Cx:={ X with A:=X.A.mark (some (.ref x)),calm:=false }
section
variable {X:Cx} {pins:List (Addr × Obj)} {σ:St} {H:Hp} {s:Shared}
theorem Inv.inX (I:Inv X pins σ H s) (x:Addr):Inv (X.inX x) pins σ H s :=
 ⟨⟨I.ok.mod,I.ok.kind,I.ok.glob,I.ok.blt,I.ok.above,I.ok.inj,I.ok.has,I.ok.cab,(fun z=>nomatch z),I.ok.frames,I.ok.stk,I.ok.exf,I.ok.bs,I.ok.bsz,I.ok.noex,I.ok.exfs,I.ok.Hr,I.ok.frf⟩,
  I.os,I.bare,I.base,I.loc,I.cell,I.free,I.freeC,I.pin,I.hok,I.len⟩
theorem Inv.V1 {x:Addr} (ok:X.Ok) (I:Inv (X.inX x) pins σ H s):Inv X pins σ H s:=⟨ok,I.os,I.bare,I.base,I.loc,I.cell,I.free,I.freeC,I.pin,I.hok,I.len⟩
theorem name_goes {M:Model} {A:Around} {E:Value->Shared->Prop} {i:Nat} {n:Str} {pos:Pos} {Q:Unit->Shared->Prop} (I:Inv X pins σ H s) (hN:X.N.Nodup) (hi:X.N[i]? = some n) (hk:X.env.kindOf n=some .local)
  (h:∀ s',Inv X pins (σ.set i none) H s'->Q () s'):wpAny M A (do bindName X.env n .none; unbindBehindTheSuite X.env n pos) Q E s:=by
 obtain ⟨m,hn,hl⟩:=id I.loc
 have hcls:(X.env.scope.kind == .class || (X.env.scope.kind == .module && X.env.locals != X.env.globals))=false:=by rw [I.ok.kind]; rfl
 have hiσ:i<σ.length:=by rw [I.len]; exact (af.mp hi).1
 refine wpAny_nameGoes_keeps hk hn hcls fun h' v hn' hs=>h _ ?_
 obtain ⟨oL,_,_,hoL,_⟩:=id hn
 have nL:∀ b o,X.s₀.heap.get? b=some o->b ≠ X.env.locals:=fun b o e=>bp (ay (Heap.lt_size e) I.ok.above)
 have tracked:FN X.prog X.w H h':=fun b ob e=>by
  refine (I.hok b ob e).stay (fun c w' hc q=>(hs.2 c ?_).trans q) (fun _ q=>q) fun _ _ q=>q
  rintro rfl
  have hfree:=I.free
  rcases hc with rfl | hc
  ·rw [hfree] at e; cases e
  ·rw [hfree] at hc; cases hc
 refine ⟨I.ok,I.os,I.bare,⟨fun b o e n hb hx=>?_,fun b o e n hb hx=>?_,I.base.free,fun b o e hx=>?_,I.base.tups,I.base.frzs,I.base.tbls⟩,⟨_,hn',fun j y v' e1 e2 e3=>?_⟩,fun y c e=>?_,I.free,I.freeC,fun p hp=>?_,tracked,by simpa using I.len⟩
 ·exact (hs.2 b (nL b o e)).trans (I.base.keep b o e n hb hx)
 ·obtain ⟨sl,e1⟩:=I.base.slot b o e n hb hx
  exact ⟨sl,(hs.2 b (nL b o e)).trans e1⟩
 ·obtain ⟨o',e1⟩:=I.base.there b o e hx
  exact ⟨o',(hs.2 b (nL b o e)).trans e1⟩
 ·by_cases hj:j=i
  ·subst hj
   rw [eJ hiσ] at e2
   cases e2
  ·rw [fS (Ne.symm hj)] at e2
   obtain ⟨u',r',q⟩:=hl j y v' e1 e2 e3
   refine ⟨u',r',?_⟩
   rcases q with ⟨k,e⟩ | ⟨k,c,e,z⟩
   ·refine .inl ⟨k,?_⟩
    have:y ≠ n:=fun e=>hj (Ko hN e1 (e ▸ hi))
    simp [this,e]
   ·exact .inr ⟨k,c,e,z.sameBut hs (I.Vj y c e)⟩
 ·obtain ⟨w',z⟩:=I.cell y c e
  exact ⟨w',z.sameBut hs (I.Vj y c e)⟩
 ·obtain ⟨e,n,ne,nf,d⟩:=I.pin p hp
  exact ⟨(hs.2 p.1 ne).trans e,n,ne,nf,d⟩
end
noncomputable def Ends.drop (D:Ends) (i:Nat):Ends:={ nx:=fun σ H=>D.nx (σ.set i none) H,rt:=D.rt,bk:=fun σ H=>D.bk (σ.set i none) H,ct:=fun σ H=>D.ct (σ.set i none) H }
section
variable {X:Cx} {k i:Nat} {f O:Addr} {fd:FuncData} {ps:List Str} {sp:Sp} {dvs:List V} {ds:List Value} {fx cn n:Str} {p np cpos epos hpos pos:Pos} {e:Expr} {es:List Expr} {t:TA} {b0:Stmt} {suite:List Stmt} {ts:TS}
end
structure Jo (k:Nat) (A:Around):Prop where
 dp:A.depth+3 * k+5<recursionLimit
 un:A.units+16 * k+200<cLine
theorem Jo.deeper {k:Nat} {A:Around} (r:Jo (k+1) A) (env:Env):Jo k (A.deeper env) :=
 ⟨by have:=r.dp; show A.depth+1+3 * k+5<_; omega,by have:=r.un; show A.units+3+16 * k+200<_; omega⟩
structure Oh (P:Program) (w:World) (K:PySem.W.Frag) (mg:Str->Option Value) (base:Heap) (CX:Oq) (k:Nat) (f:Addr) (fd:FuncData) (ps:List Str) (sp:Sp):Prop where
 len:∀ vs H Q E,sp vs H Q E->vs.length=ps.length
 run:∀ (A:Around) (outer:List Env) (s:Shared) (H:Hp) (args:Args) (us:List Value) (vs:List V) (Q:VK) (E:XK),Jo k A->Mj P w K mg base A outer s H->BindsTo s fd args (ps.zip us)->Vals vs us->sp vs H Q E ->
  codeAny (model P w) A (.call (.ref f) args) (CR CX outer P w H s Q E) s
noncomputable abbrev QK (CX:Oq) (P:Program) (w:World) (K:PySem.W.Frag) (mg:Str->Option Value) (base:Heap) (N:List Str) (qual:Str) (scope:Scope) (f:Addr) (cd:Value) (A:Around) (outer:List Env) (s:Shared) (H:Hp) (E:XK):Cx :=
 { J5 CX P w K mg base N qual scope f cd A outer s H E with calm:=false }
theorem Inv.az {X:Cx} {pins:List (Addr × Obj)} {σ:St} {H:Hp} {s:Shared} {A':Around} {xe':Value->Shared->Prop} (I:Inv X pins σ H s) (hf:A'.frames=some X.stack):Inv { X with A:=A',calm:=false,xe:=xe' } pins σ H s :=
 ⟨⟨I.ok.mod,I.ok.kind,I.ok.glob,I.ok.blt,I.ok.above,I.ok.inj,I.ok.has,I.ok.cab,(fun z=>nomatch z),hf,I.ok.stk,I.ok.exf,I.ok.bs,I.ok.bsz,I.ok.noex,I.ok.exfs,I.ok.Hr,I.ok.frf⟩,
  I.os,I.bare,I.base,I.loc,I.cell,I.free,I.freeC,I.pin,I.hok,I.len⟩
theorem Xg {CX:Oq} {P:Program} {w:World} {K:PySem.W.Frag} {mg:Str->Option Value} {base:Heap} {k:Nat} {f:Addr} {name qual:Str} {params:Arguments} {body:List Stmt} {scope:Scope} {dV kV doc pm cdv ct oc:Value} {an od:Option Addr}
  {osl:Array (Option Value)} {N ps:List Str} {sp:Sp} (lk:K.lookup f=some ⟨oc,od,.func (PySem.W.fnOf name qual params body scope dV kV doc pm an cdv ct),osl⟩) (hcd:PySem.W.codeIn K cdv qual=true) (S:BX N ps scope)
  (len:∀ vs H Q E,sp vs H Q E->vs.length=ps.length)
  (hbody:∀ (A:Around) (outer:List Env) (s:Shared) (H:Hp) (vs:List V) (Q:VK) (E:XK),Jo k (A.deeper (envOfC qual scope s.heap.objs.size f cdv))->sp vs H Q E ->
   ∃ t,NB (QK CX P w K mg base N qual scope f cdv A outer s H E) body t/\t { nx:=fun _ H'=>Q .non H',rt:=Q } (start N vs) H) :
  Oh P w K mg base CX (k+1) f (PySem.W.fnOf name qual params body scope dV kV doc pm an cdv ct) ps sp:=by
 refine ⟨len,fun A outer s H args us vs Q E hr e0 hb r hsp=>?_⟩
 have hl:=len _ _ _ _ hsp
 have KX:K.In s.heap:=e0.mod.kin.keeps fun b o e=>(e0.bs b o e).1
 have lim:s.heap.NoLimit:=e0.mod.nolimit.keeps fun b o e=>(e0.bs b o e).1
 have hkind:∀ y∈ps.zip us,scope.names.lookup y.1=some .local \/ (scope.names.lookup y.1=some .cell/\((cellsFrom (s.heap.objs.size+1) scope.names []).lookup y.1).isSome=true):=fun ⟨n,v⟩ hy=>by
  rcases S.par n (fI hy).1 with q | q
  ·exact .inl q
  ·exact .inr ⟨q,PySem.W.cellsFrom_some _ _ _ (.inl q)⟩
 refine codeAny_call_function (by have:=hr.dp; omega) (KX _ _ lk) rfl S.co S.gen rfl (PySem.W.codeRec_of KX hcd) (hb _ _ _ _ ?_)
 refine wpAny_newFunctionEnv_cells S.kind hkind fun env he s1 x=>?_
 subst he
 refine ⟨lim.keeps x.toInCall.keep,codeAny_func ?_⟩
 obtain ⟨t,ht,hq⟩:=hbody A outer s H vs Q E (hr.deeper _) hsp
 have e0':Mj P w K mg base { A with handled:=none } outer s H:=⟨e0.frames,e0.mod,e0.bs,e0.bsz,e0.Hr,e0.frf,e0.hok,e0.bare⟩
 have I0:Inv (J5 CX P w K mg base N qual scope f cdv { A with handled:=none } outer s H E) [] (start N vs) H s1:=Kz S rfl e0' hl r x
 have I:Inv (QK CX P w K mg base N qual scope f cdv A outer s H E) [] (start N vs) H s1:=I0.az (Around.frames_deeper e0.frames)
 refine wpAny_mono (ht [] s1 (start N vs) H _ I hq) (fun fl s' hs=>?_) fun e s' hs=>hs
 have fin:∀ {σ':St} {H':Hp} {v:V} {u:Value},Inv (QK CX P w K mg base N qual scope f cdv A outer s H E) [] σ' H' s'->RelV v u->Q v H'->CE outer P w H s Q u s' :=
  fun {σ' H' v u} J rv q=>⟨v,H',J.os,J.bare,J.base,J.hok,rv,q⟩
 cases fl with
 | ret u =>
  obtain ⟨v,σ',H',J,rv,q⟩:=hs
  exact fin J rv q
 | next =>
  obtain ⟨σ',H',J,q⟩:=hs
  exact fin (v:=V.non) (u:=Value.none) J rfl q
 | brk =>
  obtain ⟨_,_,_,q⟩:=hs
  exact False.elim q
 | cont =>
  obtain ⟨_,_,_,q⟩:=hs
  exact False.elim q
section
variable {P:Program} {w:World} {K:PySem.W.Frag} {mg:Str->Option Value} {base:Heap}
theorem Dr.m9 {x qual:Str} {st:Stmt} {f:Addr} {fd:FuncData} {N ps:List Str} {k:Nat} {sp:Sp} (F:Dr K x qual st f fd) (S:BX N ps (Ai st)) (len:∀ vs H Q E,sp vs H Q E->vs.length=ps.length)
  (hbody:∀ (cdv:Value) (A:Around) (outer:List Env) (s:Shared) (H:Hp) (vs:List V) (Q:VK) (E:XK),Jo k (A.deeper (envOfC qual (Ai st) s.heap.objs.size f cdv))->sp vs H Q E ->
   ∃ t,NB (QK Br P w K mg base N qual (Ai st) f cdv A outer s H E).Y9 (EY st) t/\t { nx:=fun _ H'=>Q .non H',rt:=Q } (start N vs) H):Oh P w K mg base Br (k+1) f fd ps sp:=by
 obtain ⟨oc,od,kV,doc,pm,an,cdv,ct,osl,rfl,lk,hcd⟩:=F.ex
 refine Xg lk hcd S len fun A outer s H vs Q E hr hsp=>?_
 obtain ⟨t,h,q⟩:=hbody cdv A outer s H vs Q E hr hsp
 exact ⟨t,h.Y9,q⟩
theorem Dr.j7 {x qual:Str} {st:Stmt} {f:Addr} {fd:FuncData} {N ps:List Str} {k:Nat} {sp:Sp} (F:Dr K x qual st f fd) (S:BX N ps (Ai st)) (len:∀ vs H Q E,sp vs H Q E->vs.length=ps.length)
  (hbody:∀ (cdv:Value) (A:Around) (outer:List Env) (s:Shared) (H:Hp) (vs:List V) (Q:VK) (E:XK),Bb k (A.deeper (envOfC qual (Ai st) s.heap.objs.size f cdv))->sp vs H Q E ->
   ∃ t,NB (J5 (Rz P w) P w K mg base N qual (Ai st) f cdv A outer s H E) (EY st) t/\t { nx:=fun _ H'=>Q .non H',rt:=Q } (start N vs) H):BW P w K mg base (Rz P w) (k+1) f fd ps sp:=by
 obtain ⟨oc,od,kV,doc,pm,an,cdv,ct,osl,rfl,lk,hcd⟩:=F.ex
 refine Xb lk hcd S len fun A outer s H vs Q E hr hsp=>?_
 obtain ⟨t,h,q⟩:=hbody cdv A outer s H vs Q E hr hsp
 exact ⟨t,h,q⟩
end
section
variable {X:Cx} {CX:Oq} {k:Nat} {f:Addr} {fd:FuncData} {ps:List Str} {sp:Sp} {dvs:List V} {ds:List Value} {E:XK} {x:Str} {p pos:Pos} {e:Expr} {es:List Expr} {t:TA}
theorem Ss (F:Oh X.prog X.w X.K X.mg X.base CX k f fd ps sp) (hr:Jo k X.A) (hg:Gl X x) (hm:X.mg x=some (.ref f)) (hk:PySem.W.keepIn X.K (.ref f)=true) (hb:Binds X.K fd ps ds) (hd:Vals dvs ds) (hx:Gz CX X E)
  (ha:PA X (e::es) t) (hdb:(x == ("__debug__" : Str))=false:=by decide) (he:starEach (e::es) X.env=(false,eval e X.env)::starEach es X.env:=by rfl) (hpl:(backTo pos (starEach es X.env)).any (·.1)=false:=by rfl) :
  PE X (.Call (.Name x p) (e::es) [] pos) (W2 sp dvs E t):=by
 intro pins s σ H Q I h
 refine wpAny_Call_Name_kw (Gj I hg hm ?_ hdb)
 refine PySem.W.callWith_K (h₀:=X.base) I.ok.mod.kin hk (Ci (ha pos pins s σ H _ I h) fun us s1 ⟨vs,H1,I1,r,h1⟩=>⟨I1.GR,?_⟩) he hpl
 have r2:Vals (vs++dvs) (us++ds):=r.append hd
 have hl:(us++ds).length=ps.length:=by rw [← r2.length]; exact F.len _ _ _ _ h1
 refine wpAny_call (codeAny_mono (F.run X.A X.stack s1 H1 ⟨us,[]⟩ (us++ds) (vs++dvs) Q E hr I1.env0 (hb s1 us I1.GR hl) r2 h1) fun r s' hq=>?_)
 cases r with
 | error e=>exact hx pins σ H1 s1 e s' I1 hq
 | ok fl =>
  cases fl with
  | ret u=>exact I1.after hq
  | next=>exact False.elim hq
  | brk=>exact False.elim hq
  | cont=>exact False.elim hq
end
end L2
namespace L2
open PySem PySem.Spec PySem.Calls PyProof.Rows
theorem Un.jL {fs gs:List Addr} {H H1 H2:Hp} {h h1 h2:Heap} (a:Un fs [] H H1 h h1) (b:Un gs [] H1 H2 h1 h2) (hs:∀ x∈gs,x∈fs \/ h.get? x=none):Un fs [] H H2 h h2 where
 keep:=fun c o q n hc hx=>by
  have hg:c ∉ gs:=fun z=>by
   rcases hs c z with e | e
   ·exact hc e
   ·rw [q] at e; cases e
  exact b.keep c o (a.keep c o q n hc hx) (a.free c o q n hx) hg hx
 slot:=fun c o q n hc hx=>by
  obtain ⟨sl,e⟩:=a.slot c o q n hc hx
  obtain ⟨sl',e'⟩:=b.any e (a.free c o q n hx) hx
  exact ⟨sl',e'⟩
 free:=fun c o q n hx=>by
  obtain ⟨o',e⟩:=a.there c o q hx
  exact b.free c o' e (a.free c o q n hx) hx
 there:=fun c o q hx=>by
  obtain ⟨o',e⟩:=a.there c o q hx
  exact b.there c o' e hx
 tups:=fun c xs q=>b.tups c xs (a.tups c xs q)
 frzs:=fun c o u q=>b.frzs c o u (a.frzs c o u q)
 tbls:=fun c ps q=>by
  obtain ⟨m1,e1⟩:=a.tbls c ps q
  obtain ⟨m2,e2⟩:=b.tbls c _ e1
  exact ⟨m1++m2,by rw [e2,Array.append_assoc]⟩
theorem Vz {P:Program} {w:World} {K:PySem.W.Frag} {mg:Str->Option Value} {base:Heap} {N:List Str} {qual:Str} {scope:Scope} {f:Addr} {cd:Value} {A:Around} {outer:List Env} {s:Shared} {H:Hp} {E:XK} :
  Gz (Rz P w) (J5 (Rz P w) P w K mg base N qual scope f cd A outer s H E) E:=by
 rintro pins σ H1 s1 e s' I ⟨x,T,C,od,H2,rfl,os,bare,y,nx,nT,hx2,hT2,hok2,un2,q⟩
 have gone:∀ b,s1.heap.get? b=none->s.heap.get? b=none:=fun b e=>by
  cases z:s.heap.get? b with
  | none=>rfl
  | some o =>
   obtain ⟨o',e'⟩:=I.base.there b o z (by show b ∉ ([]:List Addr); simp)
   rw [e] at e'; cases e'
 have os1:s1.os=s.os:=I.os
 obtain ⟨h1,g,dr,tk,os'⟩:=s'
 obtain rfl:os'=s1.os:=os
 have I2:=I.call (h':=h1) (g':=g) (d':=dr) (t':=tk) (ch:=[]) un2 hok2 bare (fun b z=>absurd z (by simp))
 have hfr:(A.deeper (envOfC qual scope s.heap.objs.size f cd)).frames=some (envOfC qual scope s.heap.objs.size f cd::outer):=I.ok.frames
 have hff:h1.FunFrames base (envOfC qual scope s.heap.objs.size f cd::outer):=I2.stack
 have frees:∀ b∈frs (envOfC qual scope s.heap.objs.size f cd::outer),H2 b=none:=I2.HH
 have fsN:∀ b∈frs (envOfC qual scope s.heap.objs.size f cd::outer),b∈frs outer \/ s.heap.get? b=none:=fun b hb=>by
  rcases List.mem_cons.mp (show b∈s.heap.objs.size::frs outer from hb) with z | z
  ·rw [z]; exact .inr (Heap.get?_none_of_le (am _))
  ·exact .inl z
 have u0:Un (frs outer) [] H H1 s.heap s1.heap:=I.base
 have u2:Un (frs outer) [] H H2 s.heap h1:=u0.jL (show Un (frs (envOfC qual scope s.heap.objs.size f cd::outer)) [] H1 H2 s1.heap h1 from un2) fsN
 show wpAny (model P w) (A.deeper (envOfC qual scope s.heap.objs.size f cd)) (leaving (envOfC qual scope s.heap.objs.size f cd) (.ref x)) _ _ _
 unfold leaving
 refine wpAny_bind (QS (s:=⟨h1,g,dr,tk,s1.os⟩) (L:=s.heap.objs.size) hfr hff rfl y fun h3 T3 y3 m3 n3=>?_)
 refine Fv (s:=⟨h3,g,dr,tk,s1.os⟩) y3 fun h4 y4 m4=>?_
 have nT3:s.heap.get? T3=none:=by
  cases z:s.heap.get? T3 with
  | none=>rfl
  | some o =>
   obtain ⟨o',e'⟩:=u2.there T3 o z (by simp)
   have n3':h1.get? T3=none:=n3
   rw [n3'] at e'; cases e'
 have hT3:H2 T3=none:=hok2.none_of n3
 have fs2:∀ b∈frs (envOfC qual scope s.heap.objs.size f cd::outer),b ∉ frs outer->s.heap.get? b=none:=fun b hb hn=>(fsN b hb).resolve_left hn
 have u3:=u2.mv m3 (gone x nx) (gone T nT) fs2
 have u4:=u3.mv m4 (gone x nx) nT3 (fun _ z=>nomatch z)
 have k3:FN P w H2 h3:=FN.mv (P:=P) (w:=w) hok2 m3 hx2 hT2 frees
 have k4:FN P w H2 h4:=k3.mv m4 hx2 hT3 (fun _ z=>nomatch z)
 exact ⟨x,T3,C,od,H2,rfl,os1,bare,y4,gone x nx,nT3,hx2,hT3,k4,u4,q⟩
end L2
namespace L2
open PySem PySem.Spec PySem.Calls PyProof.Rows
noncomputable def Zo (td ty tv:TE):TS:=fun D σ H=>tv σ H fun v H1=>td σ H1 fun x H2=>ty σ H2 fun y H3=>∃ a xs,∃ k:Int,x=.ref a/\y=.int k/\H3 a=some (.lst xs)/\0<=k/\k<xs.length/\k<2 ^ 62/\D.nx σ (upd H3 a (.lst (xs.set k.toNat v)))
section
variable {X:Cx} {o i value:Expr} {td ty tv:TE} {pos pos':Pos}
theorem Vo (ho:PE X o td) (hi:PE X i ty) (hv:PE X value tv) (hs:swapsWith value (some (.Subscript o i pos')) pos.line X.env=pure false):PS X (.Assign [.Subscript o i pos'] value pos) (Zo td ty tv):=by
 intro pins s σ H D I h
 refine wpAny_Assign_Subscript (Ci (hv pins s σ H _ I h) fun r s1 ⟨v,H1,I1,rv,q1⟩=>Ci (ho pins s1 σ H1 _ I1 q1) fun u s2 ⟨x,H2,I2,rx,q2⟩=>Ci (hi pins s2 σ H2 _ I2 q2) fun iv s3 ⟨y,H3,I3,ry,a,xs,k,ex,ey,ha,k0,k1,k2,q3⟩=>?_) hs
 subst ex ey
 cases rx
 obtain ⟨t,rfl⟩:=ry
 obtain ⟨z,its,n,w,hl,e⟩:=I3.Ot ha
 refine PySem.W.ki_setAt (n:=n) e k0 (by omega) (by rw [List.size_toArray]; omega) ⟨σ,_,I3.Yn (its':=its.set k.toNat r) (t':=s3.toks) ha e (by simp) (w.set rv _) (by rw [List.length_set]; exact z),q3⟩
end
section
variable {X:Cx} {k i:Nat} {f O:Addr} {fd:FuncData} {ps:List Str} {sp:Sp} {dvs:List V} {ds:List Value} {fx cn n:Str} {p np cpos epos hpos pos:Pos} {e:Expr} {es:List Expr} {t:TA} {b0:Stmt} {suite:List Stmt} {ts:TS}
end
end L2
namespace L2
open PySem PySem.Spec PySem.Calls PyProof.Rows
noncomputable abbrev XR:=Value->Option Addr->St->Hp->Prop
noncomputable def XT (X:Cx) (pins:List (Addr × Obj)) (ER:XR) (e:Value) (s':Shared):Prop:=∃ σ H1 s1,Inv X pins σ H1 s1/\Rz X.prog X.w X.stack H1 s1 (fun C od H2=>ER C od σ H2) e s'
noncomputable def lE (X:Cx) (ER:XR) (st:Stmt) (t:TS):Prop :=
 ∀ (pins:List (Addr × Obj)) (s:Shared) (σ:St) (H:Hp) (D:Ends),Inv X pins σ H s->t D σ H->wpAny (model X.prog X.w) X.A (exec st X.env) (SP X pins D) (XT X pins ER) s
noncomputable def Zd (X:Cx) (ER:XR) (st:List Stmt) (t:TS):Prop :=
 ∀ (pins:List (Addr × Obj)) (s:Shared) (σ:St) (H:Hp) (D:Ends),Inv X pins σ H s->t D σ H->wpAny (model X.prog X.w) X.A (execs st X.env) (SP X pins D) (XT X pins ER) s
noncomputable def PET (X:Cx) (ER:XR) (e:Expr) (t:TE):Prop :=
 ∀ (pins:List (Addr × Obj)) (s:Shared) (σ:St) (H:Hp) (Q:VK),Inv X pins σ H s->t σ H Q->wpAny (model X.prog X.w) X.A (eval e X.env) (EP X pins σ Q) (XT X pins ER) s
section
variable {X:Cx} {ER:XR} {st:Stmt} {sts:List Stmt} {t u:TS} {pos:Pos}
theorem Tf (h1:lE X ER st t):Zd X ER [st] t:=by
 intro pins s σ H D I h
 refine wpAny_execs_cons (Ci (h1 pins s σ H D I h) fun f s1 q=>?_)
 cases f with
 | next=>exact wpAny_execs_nil q
 | brk=>exact q
 | cont=>exact q
 | ret u=>exact q
theorem Sg {e:Expr} {te:TE} (he:PET X ER e te) (hs:swapsWith e none pos.line X.env=pure false:=by rfl):lE X ER (.Expr e pos) (XD te):=by
 intro pins s σ H D I h
 exact wpAny_Expr_any (Ci (he pins s σ H _ I h) fun v s1 ⟨x,H1,I1,r1,q1⟩=>⟨σ,H1,I1,q1⟩) I.quiet hs
end
section
variable {X:Cx} {ER:XR} {k:Nat} {f C:Addr} {fd:FuncData} {ps:List Str} {sp:Sp} {dvs:List V} {ds:List Value} {x m:Str} {p pos apos:Pos} {e o:Expr} {es:List Expr} {ta:TE} {t:TA}
end
noncomputable def gm (K:PySem.W.Frag) (O:Addr) (i:Nat) (ts:TS) (D:Ends):XR:=fun C od σ H2=>∃ Ca,C=.ref Ca/\PySem.W.mroIn K Ca (.ref O)=some true/\∀ x,H2 x=none->ts (D.drop i) (σ.set i (some (.ref x))) (upd H2 x (Jh x Ca od))
noncomputable def aO (K:PySem.W.Frag) (tb:XR->TS) (O:Addr) (i:Nat) (ts:TS):TS:=fun D σ H=>tb (gm K O i ts D) D σ H
section
variable {X:Cx} {i:Nat} {O:Addr} {cn n:Str} {np hpos pos:Pos} {body:List Stmt} {b0:Stmt} {suite:List Stmt} {ts:TS} {tb:XR->TS}
theorem WW (hb:∀ ER,Zd X ER body (tb ER)) (hgO:Gl X cn) (hmO:X.mg cn=some (.ref O)) (qO:PySem.W.excIn X.K O R0 "ValueError.__new__" = true) (hN:X.N.Nodup) (hi:X.N[i]? = some n) (hlo:X.env.scope.names.lookup n=some .local)
  (hs:∀ x,NB (X.inX x) (b0::suite) ts) (hxe:X.xe=fun _ _=>False:=by rfl) (hst:X.stack=X.env::X.outer:=by rfl) (hfrm:X.env.frame=some X.env.locals:=by rfl) (hdO:(cn == ("__debug__" : Str))=false:=by decide) :
  PS X (.Try body [.ExceptHandler (some (.Name cn np)) (some n) (b0::suite) hpos] [] [] pos) (aO X.K tb O i ts):=by
 intro pins s₀ σ₀ H₀ D I₀ h₀
 refine wpAny_Try_except (wpAny_mono (hb _ pins s₀ σ₀ H₀ D I₀ h₀) (fun fl s' q=>?_) fun e' s' q=>?_)
 ·cases fl with
  | next=>exact wpAny_execs_nil q
  | brk=>exact q
  | cont=>exact q
  | ret u=>exact q
 ·obtain ⟨σ,H1,s1,I1,x,T,C,od,H2,rfl,os,bare,y,nx,nT,hx2,hT2,hok2,un2,Ca,eC,hmro,hts⟩:=q
  cases eC
  obtain ⟨h1,g,dr,tk,os'⟩:=s'
  obtain rfl:os'=s1.os:=os
  have I2:Inv X pins σ H2 ⟨h1,g,dr,tk,s1.os⟩:=I1.call (h':=h1) (g':=g) (d':=dr) (t':=tk) (ch:=[]) un2 hok2 bare (fun b z=>absurd z (by simp))
  have hfr:=I1.ok.frames
  have hff:=I2.stack
  rw [hst] at hfr hff
  refine QS (s:=⟨h1,g,dr,tk,s1.os⟩) hfr hff hfrm y fun h3 T3 y3 m3 n3=>?_
  refine Fv (s:=⟨h3,g,dr,tk,s1.os⟩) y3 fun h4 y4 m4=>?_
  have nT3:s1.heap.get? T3=none:=by
   cases z:s1.heap.get? T3 with
   | none=>rfl
   | some o =>
    obtain ⟨o',e'⟩:=un2.there T3 o z (by simp)
    have n3':h1.get? T3=none:=n3
    rw [n3'] at e'; cases e'
  have hT3:H2 T3=none:=hok2.none_of n3
  have m3':Mv (frs X.stack) x T h1 h3:=by rw [hst]; exact m3
  have u3:=un2.mv m3' nx nT (fun b z z'=>absurd z z')
  have u4:=u3.mv m4 nx nT3 (fun _ z=>nomatch z)
  have k3:FN X.prog X.w H2 h3:=hok2.mv m3' hx2 hT2 I2.HH
  have k4:FN X.prog X.w H2 h4:=k3.mv m4 hx2 hT3 (fun _ z=>nomatch z)
  have I4:Inv X pins σ H2 ⟨h4,g,dr,tk,s1.os⟩:=I1.call (h':=h4) (g':=g) (d':=dr) (t':=tk) (ch:=[]) u4 k4 bare (fun b z=>absurd z (by simp))
  refine wpAny_handleBy_cons (codeAny_handlers_test (Gj (I4.inX x) hgO hmO ?_ hdO)) (by intro q; cases q)
  obtain ⟨ws,wt,sl,oT,ex,_⟩:=id y4
  refine OJ (s:=⟨h4,g,dr,tk,s1.os⟩) I4.GR ex qO hmro ?_
  refine codeAny_handlers_suite_as (Fv (s:=⟨h4,g,dr,tk,s1.os⟩) y4 fun h5 y5 m5=>?_)
  have u5:=(u4.mv m5 nx nT3 (fun _ z=>nomatch z)).adopt (o:=Jh x C od) nx hx2
  obtain ⟨ws5,wt5,sl5,oT5,ex5,_⟩:=id y5
  have k5:FN X.prog X.w (upd H2 x (Jh x C od)) h5:=(k4.mv m5 hx2 hT3 (fun _ z=>nomatch z)).bJ (fun _ _ e=>e) hx2 (Vk ex5 rfl)
  have I5:Inv X pins σ (upd H2 x (Jh x C od)) ⟨h5,g,dr,tk,s1.os⟩:=I1.call (h':=h5) (g':=g) (d':=dr) (t':=tk) (ch:=[]) u5 k5 bare (fun b z=>absurd z (by simp))
  refine Jc (s:=⟨h5,g,dr,tk,s1.os⟩) I5 hN hi (.inl hlo) (show RelV (.ref x) (.ref x) from rfl) (fun s6 I6 _=>?_) (.inr hlo)
  refine wpAny_mono (hs x pins s6 _ _ _ (I6.inX x) (hts x hx2)) (fun fl s7 h7=>?_) fun e' s7 h7=>?_
  ·cases fl with
   | next=>obtain ⟨σ',H',J,qq⟩:=h7; exact name_goes (J.V1 I1.ok) hN hi hlo fun s8 J8=>⟨_,_,J8,qq⟩
   | brk=>obtain ⟨σ',H',J,qq⟩:=h7; exact name_goes (J.V1 I1.ok) hN hi hlo fun s8 J8=>⟨_,_,J8,qq⟩
   | cont=>obtain ⟨σ',H',J,qq⟩:=h7; exact name_goes (J.V1 I1.ok) hN hi hlo fun s8 J8=>⟨_,_,J8,qq⟩
   | ret u=>obtain ⟨v,σ',H',J,rv,qq⟩:=h7; exact name_goes (J.V1 I1.ok) hN hi hlo fun s8 J8=>⟨_,_,_,J8,rv,qq⟩
  ·have h7':X.xe e' s7:=h7
   rw [hxe] at h7'
   exact h7'.elim
end
theorem Bp {X:Cx} {K:PySem.W.Frag} (hK:X.K=K):Ft X (.builtin "isinstance") (fun xs H Q=>∃ x C fs c cv b,xs=[V.ref x,c]/\Gu H x C fs/\Hs K C/\X4 c=some cv/\PySem.W.kitOne K (.ref C) cv=some b/\Q (.bl b) H):=by
 rw [← hK]
 exact QD
end L2
namespace Og
open PySem L2 PyProof.Rows
theorem Y4:∀ n<26,letters.cps.toList[n]? = some (97+n):=by decide +kernel
theorem PJ {i:Int} (h0:0<=i) (h1:i<26):P0 letters.cps.toList i=some (97+i.toNat):=by
 have h:=Aj (Y4 i.toNat (by omega))
 have e:((i.toNat:Nat):Int)=i:=by omega
 rw [e] at h
 exact h
theorem WK:(("" : Str)).cps = #[]:=by decide +kernel
end Og
namespace Og
open PySem L2 PyProof.Rows
variable {K:PySem.W.Frag}
structure JG (K:PySem.W.Frag) (aB aP aM:Addr):Prop where
 f:KF K aB aP aM
 pR:∃ a,PySem.W.nsIn K aP "rank" = some (some (.ref a))/\KTup K a (["new","pipes","wind"].map fun s:String=>V.str s)
 pL:∃ a,PySem.W.nsIn K aP "line" = some (some (.ref a))/\KTup K a (["rank","shift","low","high"].map fun s:String=>V.str s)
 bP:∃ a,PySem.W.nsIn K aB "pipes" = some (some (.ref a))/\KTup K a [.int 1,.int 97]
 bW:∃ a,PySem.W.nsIn K aB "wind" = some (some (.ref a))/\KTup K a [.int 0,.int 1000000000]
 bS:∃ a,PySem.W.nsIn K aB "shift" = some (some (.ref a))/\KTup K a [.int (-200),.int 200]
 bLo:∃ a,PySem.W.nsIn K aB "low" = some (some (.ref a))/\KTup K a [.int 0,.int 60]
 bHi:∃ a,PySem.W.nsIn K aB "high" = some (some (.ref a))/\KTup K a [.int 0,.int 60]
 bR:PySem.W.nsIn K aB "rank" = some none
 mR:∃ t,PySem.W.nsIn K aM "rank" = some (some (.int 12 t))
 mL:PySem.W.nsIn K aM "line" = some none
section
variable {aB aP aM:Addr} {ρ:V->R} {vs:List V} {wn:List (Str × Str)} {t:Str}
theorem Qu {r:R} (h:Lb K aB aP aM ρ vs r) (hb:Dd ρ vs):El K aB aP aM ρ vs r:=⟨h.ns,h.parts,.inr h.room,fun z=>absurd z h.nl,hb⟩
theorem Rf (F:KF K aB aP aM) {wd:Str} (hw:wd = "stop" \/ wd = "mute") (e:Gs ρ vs=wn) (ht:isNm t) (h:∀ w∈named,QV wn w t=false) (hc:UG wn wd<Qo wd) {a:Str} (ha:isNm a) (ha':QV wn "board" a=true):Lb K aB aP aM ρ vs ⟨wd,t,[.str a]⟩:=by
 have parts:∀ (j:Nat) x (y:Str),[V.str t,.str a][j]? = some x->(["new","board"]:List Str)[j]? = some y->Dm K aB ρ vs x y:=fun j x y hx hy=>by
  match j,hx,hy with
  | 0,hx,hy =>
   cases (Option.some.inj hx)
   cases (Option.some.inj hy)
   exact Iv F e ht h
  | 1,hx,hy =>
   cases (Option.some.inj hx)
   cases (Option.some.inj hy)
   exact Hu F e ha ha'
  | j+2,hx,hy=>simp at hy
 have hcnt:=H_ ρ vs wd
 rw [e] at hcnt
 rcases hw with rfl | rfl
 ·obtain ⟨ap,g1,g2⟩:=F.pS
  obtain ⟨tk,g5⟩:=F.mS
  have hm:Qo "stop" = 24:=by decide +kernel
  refine ⟨by show ¬ ("stop" : Str) = "step"; decide +kernel,by show ¬ ("stop" : Str) = "line"; decide +kernel,⟨ap,["new","board"],g1,g2,rfl,by decide,parts⟩,⟨24,tk,g5,?_⟩⟩
  show (((vs.filter (pw ρ "stop")).length:Nat):Int)<24
  omega
 ·obtain ⟨ap,g1,g2⟩:=F.pM
  obtain ⟨tk,g5⟩:=F.mM
  have hm:Qo "mute" = 5:=by decide +kernel
  refine ⟨by show ¬ ("mute" : Str) = "step"; decide +kernel,by show ¬ ("mute" : Str) = "line"; decide +kernel,⟨ap,["new","board"],g1,g2,rfl,by decide,parts⟩,⟨5,tk,g5,?_⟩⟩
  show (((vs.filter (pw ρ "mute")).length:Nat):Int)<5
  omega
theorem RZ (F:JG K aB aP aM) (e:Gs ρ vs=wn) (ht:isNm t) (h:∀ w∈named,QV wn w t=false) (hc:UG wn "rank" < 12) {n:Nat} {wi:Int} (h1:1<=n) (h2:n<=97) (h3:0<=wi) (h4:wi<=1000000000) (hb:Dd ρ vs):El K aB aP aM ρ vs (Fp (t,n,wi)):=by
 obtain ⟨ap,g1,g2⟩:=F.pR
 obtain ⟨ab,g3,g4⟩:=F.bP
 obtain ⟨aw,g6,g7⟩:=F.bW
 obtain ⟨tk,g5⟩:=F.mR
 refine ⟨by show ¬ ("rank" : Str) = "step"; decide +kernel,⟨ap,["new","pipes","wind"],g1,g2,rfl,by decide,fun j x y hx hy=>?_⟩,.inr ⟨12,tk,g5,?_⟩,fun z=>absurd z (by show ¬ ("rank" : Str) = "line"; decide +kernel),hb⟩
 ·match j,hx,hy with
  | 0,hx,hy =>
   cases (Option.some.inj hx)
   cases (Option.some.inj hy)
   exact Iv F.f e ht h
  | 1,hx,hy =>
   cases (Option.some.inj hx)
   cases (Option.some.inj hy)
   exact .inl ⟨((n:Nat):Int),1,97,ab,rfl,g3,g4,by omega,by omega⟩
  | 2,hx,hy =>
   cases (Option.some.inj hx)
   cases (Option.some.inj hy)
   exact .inl ⟨_,0,1000000000,aw,rfl,g6,g7,h3,h4⟩
  | j+3,hx,hy=>simp at hy
 ·rw [H_,e]
  show ((UG wn "rank" : Nat):Int)<12
  omega
theorem Ri (F:JG K aB aP aM) (e:Gs ρ vs=wn) (ht:isNm t) (h:QV wn "rank" t=true) {sh lo hi:Int} (b1 : -200<=sh) (b2:sh<=200) (b3:0<=lo) (b4:lo<=60) (b5:0<=hi) (b6:hi<=60) (hb:Dd ρ vs) (hl:MN ρ vs ⟨"line",t,[.int sh,.int lo,.int hi]⟩):El K aB aP aM ρ vs ⟨"line",t,[.int sh,.int lo,.int hi]⟩:=by
 obtain ⟨ap,g1,g2⟩:=F.pL
 obtain ⟨a1,g3,g4⟩:=F.bS
 obtain ⟨a2,g5,g6⟩:=F.bLo
 obtain ⟨a3,g7,g8⟩:=F.bHi
 refine ⟨by show ¬ ("line" : Str) = "step"; decide +kernel,⟨ap,["rank","shift","low","high"],g1,g2,rfl,by decide,fun j x y hx hy=>?_⟩,.inl ⟨rfl,F.mL⟩,fun _=>hl,hb⟩
 match j,hx,hy with
 | 0,hx,hy =>
  cases (Option.some.inj hx)
  cases (Option.some.inj hy)
  exact .inr (.inr ⟨F.bR,by decide +kernel,_,rfl,ht,by rw [Je,e]; exact h⟩)
 | 1,hx,hy =>
  cases (Option.some.inj hx)
  cases (Option.some.inj hy)
  exact .inl ⟨_,-200,200,a1,rfl,g3,g4,b1,b2⟩
 | 2,hx,hy =>
  cases (Option.some.inj hx)
  cases (Option.some.inj hy)
  exact .inl ⟨_,0,60,a2,rfl,g5,g6,b3,b4⟩
 | 3,hx,hy =>
  cases (Option.some.inj hx)
  cases (Option.some.inj hy)
  exact .inl ⟨_,0,60,a3,rfl,g7,g8,b5,b6⟩
 | j+4,hx,hy=>simp at hy
end
structure nF (K:PySem.W.Frag) (aB aP aM:Addr) (ρ:V->R) (us:List V) (bs:List (Str × Nat)) (rk:List (Str × Nat × Int)) (ks:List R):Prop where
 kinds:∀ v∈us,(ρ v).w = "board" \/ (ρ v).w = "rank" \/ (ρ v).w = "line" \/ (ρ v).w = "stop" \/ (ρ v).w = "coupler" \/ (ρ v).w = "mute"
 eb:(us.filter (pw ρ "board")).map ρ=bs.map Gq
 er:(us.filter (pw ρ "rank")).map ρ=rk.map Fp
 ek:(us.filter (fun v=>Hf (ρ v).w)).map ρ=ks
 ln:∀ (i:Nat) v,us[i]? = some v->(ρ v).w = "line"->(∃ (j:Nat) (r:Str × Nat × Int) (sh lo hi:Int),rk[j]? = some r/\r.1=(ρ v).nm/\(ρ v).rest=[.int sh,.int lo,.int hi])/\∃ u∈us.take i,Hf (ρ u).w=true
 ok:∀ (i:Nat) v,us[i]? = some v->El K aB aP aM ρ (us.take i) (ρ v)
section
variable {aB aP aM:Addr} {ρ:V->R} {us:List V} {v:V} {bs bs':List (Str × Nat)} {rk rk':List (Str × Nat × Int)} {ks ks':List R}
theorem FQ {w t:Str}:Hi ρ us w t=true ↔ ∃ v∈us,(ρ v).w=w/\(ρ v).nm=t:=by
 unfold Hi
 rw [fw]
 constructor
 ·rintro ⟨v,hv,hn⟩
  obtain ⟨h1,h2⟩:=bE.mp hv
  exact ⟨v,h1,V.str.inj (of_decide_eq_true h2),V.str.inj (of_decide_eq_true hn)⟩
 ·rintro ⟨v,hv,h1,h2⟩
  exact ⟨v,bE.mpr ⟨hv,decide_eq_true (congrArg V.str h1)⟩,decide_eq_true (congrArg V.str h2)⟩
theorem JP {w:Str} (h:w = "stop" \/ w = "coupler" \/ w = "mute"):Hf w=true:=by rcases h with rfl | rfl | rfl <;> decide +kernel
theorem KD {p:V->Bool} (h:p v=true):(us++[v]).filter p=us.filter p++[v]:=by
 rw [fA,dS,if_pos h]
 rfl
theorem Ec {p:V->Bool} (h:p v=false):(us++[v]).filter p=us.filter p:=by
 rw [fA,dS,if_neg (by rw [h]; decide)]
 simp
end
structure nH (K:PySem.W.Frag) (aB aP aM:Addr) (rows:List R) (bs:List (Str × Nat)) (rk:List (Str × Nat × Int)) (ks:List R) (ls:List (List Ln)):Prop where
 ok:∀ (ρ:V->R) (us:List V),us.map ρ=rows->nF K aB aP aM ρ us bs rk ks
 ln0:ks=[]->∀ rk',linesOf rk' rows=[]
 ln:linesOf rk rows=ls
section
variable {aB aP aM:Addr} {rows:List R} {bs:List (Str × Nat)} {rk:List (Str × Nat × Int)} {ks:List R} {ls:List (List Ln)}
theorem Ii {ρ:V->R} {us:List V} {r:R} (e:us.map ρ=rows++[r]):∃ us' v,us=us'++[v]/\us'.map ρ=rows/\ρ v=r:=by
 obtain ⟨a,b,rfl,h1,h2⟩:=List.map_eq_append_iff.mp e
 obtain ⟨v,l,rfl,h3,h4⟩:=List.map_eq_cons_iff.mp h2
 rw [ip.mp h4]
 exact ⟨a,v,rfl,h1,h3⟩
noncomputable def Tl (rows:List R) (bd:Str) (cnt:Nat):Prop:=∃ (r0:List R) (st:R) (lr:List R),rows=r0++st::lr/\st.w = "stop" /\ st.rest=[.str bd]/\lr.length=cnt/\∀ r∈lr,r.w = "line"
theorem Tl.stop (rows:List R) (t bd:Str):Tl (rows++[⟨"stop",t,[.str bd]⟩]) bd 0:=⟨rows,_,[],rfl,rfl,rfl,rfl,fun _ h=>nomatch h⟩
theorem Tl.line {bd:Str} {cnt:Nat} {r:R} (h:Tl rows bd cnt) (hw:r.w = "line"):Tl (rows++[r]) bd (cnt+1):=by
 obtain ⟨r0,st,lr,rfl,h1,h2,h3,h4⟩:=h
 refine ⟨r0,st,lr++[r],by simp,h1,h2,by simp [h3],fun x hx=>?_⟩
 rcases cb.mp hx with g | g
 ·exact h4 x g
 ·rw [av.mp g]
  exact hw
end
end Og
namespace Og
open PySem L2 PyProof.Rows
variable {K:PySem.W.Frag}
structure Hw (K:PySem.W.Frag) (aB aP aM:Addr) (ρ:V->R) (us:List V) (bs:List (Str × Nat)) (rk:List (Str × Nat × Int)) (ks:List R):Prop where
 eb:(us.filter (pw ρ "board")).map ρ=bs.map Gq
 er:(us.filter (pw ρ "rank")).map ρ=rk.map Fp
 ek:(us.filter (fun v=>Hf (ρ v).w)).map ρ=ks
 ln:∀ (i:Nat) v,us[i]? = some v->(ρ v).w = "line"->(∃ (j:Nat) (r:Str × Nat × Int) (sh lo hi:Int),rk[j]? = some r/\r.1=(ρ v).nm/\(ρ v).rest=[.int sh,.int lo,.int hi])/\∃ u∈us.take i,Hf (ρ u).w=true
 ok:∀ (i:Nat) v,us[i]? = some v->Dn K aB aP aM ρ (us.take i) (ρ v)
section
variable {aB aP aM:Addr} {ρ:V->R} {us:List V} {v:V} {bs bs':List (Str × Nat)} {rk rk':List (Str × Nat × Int)} {ks ks':List R}
theorem Hw.nil:Hw K aB aP aM ρ [] [] [] []:=⟨rfl,rfl,rfl,(fun i v h=>by simp at h),(fun i v h=>by simp at h)⟩
theorem Hw.Tj (h:Hw K aB aP aM ρ us bs rk ks) (hv:v∈us) (hw:(ρ v).w = "board"):∃ b∈bs,Gq b=ρ v:=by
 have:ρ v∈(us.filter (pw ρ "board")).map ρ:=ce (bE.mpr ⟨hv,decide_eq_true (congrArg V.str hw)⟩)
 rw [h.eb] at this
 exact aS.mp this
theorem Hw.bh (h:Hw K aB aP aM ρ us bs rk ks) (hv:v∈us) (hw:(ρ v).w = "rank"):∃ b∈rk,Fp b=ρ v:=by
 have:ρ v∈(us.filter (pw ρ "rank")).map ρ:=ce (bE.mpr ⟨hv,decide_eq_true (congrArg V.str hw)⟩)
 rw [h.er] at this
 exact aS.mp this
theorem Hw.Qw (h:Hw K aB aP aM ρ us bs rk ks) (hv:v∈us) (hw:Hf (ρ v).w=true):ρ v∈ks:=by
 have:ρ v∈(us.filter (fun v=>Hf (ρ v).w)).map ρ:=ce (bE.mpr ⟨hv,hw⟩)
 rw [h.ek] at this
 exact this
theorem Hw.Ua (h:Hw K aB aP aM ρ us bs rk ks):Dd ρ us:=fun v hv hw=>by
 obtain ⟨b,_,e⟩:=h.Tj hv hw
 exact ⟨_,by rw [← e]⟩
theorem Hw.Tc (h:Hw K aB aP aM ρ us bs rk ks) {b:Str × Nat} (hb:b∈bs):∃ v∈us,ρ v=Gq b:=by
 have:Gq b∈(us.filter (pw ρ "board")).map ρ:=by rw [h.eb]; exact ce hb
 obtain ⟨v,hv,e⟩:=aS.mp this
 exact ⟨v,(bE.mp hv).1,e⟩
theorem Hw.U9 (h:Hw K aB aP aM ρ us bs rk ks) {r:Str × Nat × Int} (hr:r∈rk):∃ v∈us,ρ v=Fp r:=by
 have:Fp r∈(us.filter (pw ρ "rank")).map ρ:=by rw [h.er]; exact ce hr
 obtain ⟨v,hv,e⟩:=aS.mp this
 exact ⟨v,(bE.mp hv).1,e⟩
theorem Hw.O5 (h:Hw K aB aP aM ρ us bs rk ks) {b:Str × Nat} (hb:b∈bs):QV (Gs ρ us) "board" b.1=true:=by
 obtain ⟨v,hv,e⟩:=h.Tc hb
 rw [← Je,FQ]
 exact ⟨v,hv,by rw [e],by rw [e]⟩
theorem Hw.Yd (h:Hw K aB aP aM ρ us bs rk ks) {r:Str × Nat × Int} (hr:r∈rk):QV (Gs ρ us) "rank" r.1=true:=by
 obtain ⟨v,hv,e⟩:=h.U9 hr
 rw [← Je,FQ]
 exact ⟨v,hv,by rw [e],by rw [e]⟩
theorem Hw.fresh (h:Hw K aB aP aM ρ us bs rk ks) {t:Str} (hb:∀ b∈bs,b.1 ≠ t) (hr:∀ r∈rk,r.1 ≠ t) (hk:∀ k∈ks,k.nm ≠ t):∀ w∈named,QV (Gs ρ us) w t=false:=by
 intro w hw
 rw [← Je,← ed,FQ]
 rintro ⟨v,hv,hw',hn⟩
 simp only [List.mem_cons,List.mem_singleton,List.not_mem_nil,or_false] at hw
 rcases hw with rfl | rfl | rfl | rfl | rfl
 ·obtain ⟨b,hb',e⟩:=h.Tj hv hw'
  exact hb b hb' (by rw [← hn,← e])
 ·obtain ⟨b,hb',e⟩:=h.bh hv hw'
  exact hr b hb' (by rw [← hn,← e])
 ·exact hk _ (h.Qw hv (JP (.inl hw'))) hn
 ·exact hk _ (h.Qw hv (JP (.inr (.inl hw')))) hn
 ·exact hk _ (h.Qw hv (JP (.inr (.inr hw')))) hn
theorem Hw.bT (h:Hw K aB aP aM ρ us bs rk ks):UG (Gs ρ us) "board" = bs.length:=by
 rw [← H_,← ag (f:=ρ),h.eb,ag]
theorem Hw.b_ (h:Hw K aB aP aM ρ us bs rk ks):UG (Gs ρ us) "rank" = rk.length:=by
 rw [← H_,← ag (f:=ρ),h.er,ag]
theorem Hw.W_ (h:Hw K aB aP aM ρ us bs rk ks) {w:Str} (hw:w = "stop" \/ w = "coupler" \/ w = "mute"):UG (Gs ρ us) w=(ks.filter fun r=>decide (V.str r.w=V.str w)).length:=by
 rw [← H_,← h.ek,ef,ag,List.filter_filter]
 refine congrArg List.length (List.filter_congr fun v _=>?_)
 show pw ρ w v=(pw ρ w v && Hf (ρ v).w)
 by_cases e:(ρ v).w=w
 ·rw [JP (by rw [e]; exact hw),Bool.and_true]
 ·have:pw ρ w v=false:=decide_eq_false fun z=>e (V.str.inj z)
  rw [this,hV]
theorem Hw.snoc (h:Hw K aB aP aM ρ us bs rk ks)
  (eb:((us++[v]).filter (pw ρ "board")).map ρ=bs'.map Gq) (er:((us++[v]).filter (pw ρ "rank")).map ρ=rk'.map Fp) (ek:((us++[v]).filter (fun v=>Hf (ρ v).w)).map ρ=ks')
  (hr:∀ (j:Nat) r,rk[j]? = some r->rk'[j]? = some r)
  (hl:(ρ v).w = "line"->(∃ (j:Nat) (r:Str × Nat × Int) (sh lo hi:Int),rk'[j]? = some r/\r.1=(ρ v).nm/\(ρ v).rest=[.int sh,.int lo,.int hi])/\∃ u∈us,Hf (ρ u).w=true)
  (ok:Dn K aB aP aM ρ us (ρ v)):Hw K aB aP aM ρ (us++[v]) bs' rk' ks':=by
 have at_:∀ {i:Nat} {u:V},(us++[v])[i]? = some u->us[i]? = some u/\(us++[v]).take i=us.take i \/ u=v/\(us++[v]).take i=us:=fun {i u} hi=>by
  by_cases hlt:i<us.length
  ·rw [gc hlt] at hi
   exact .inl ⟨hi,ib (fm hlt)⟩
  ·have h2:=(af.mp hi).1
   rw [aE,cE] at h2
   have hil:i=us.length:=by omega
   subst hil
   rw [eR (am _),iS] at hi
   exact .inr ⟨(Option.some.inj hi).symm,by rw [ib (am _),eg]⟩
 refine ⟨eb,er,ek,fun i u hi hw=>?_,fun i u hi=>?_⟩
 ·rcases at_ hi with ⟨h1,h2⟩ | ⟨rfl,h2⟩
  ·rw [h2]
   obtain ⟨⟨j,r,sh,lo,hi',g1,g2,g3⟩,g4⟩:=h.ln i u h1 hw
   exact ⟨⟨j,r,sh,lo,hi',hr j r g1,g2,g3⟩,g4⟩
  ·rw [h2]
   exact hl hw
 ·rcases at_ hi with ⟨h1,h2⟩ | ⟨rfl,h2⟩
  ·rw [h2]
   exact h.ok i u h1
  ·rw [h2]
   exact ok
end
theorem Pn {rk:List (Str × Nat × Int)} {x:Str × Nat × Int}:∀ {rows:List R},(∀ r∈rows,r.w = "line"->r.nm∈rk.map (·.1))->linesOf (rk++[x]) rows=linesOf rk rows:=by
 have key:∀ (rows:List R),(∀ r∈rows,r.w = "line"->r.nm∈rk.map (·.1))->∀ acc,rows.foldl (Do (rk++[x])) acc=rows.foldl (Do rk) acc:=by
  intro rows
  induction rows with
  | nil=>intro _ _; rfl
  | cons r rs ih =>
   intro h acc
   have e:Do (rk++[x]) acc r=Do rk acc r:=by
    unfold Do
    by_cases h1:Hf r.w=true
    ·rw [if_pos h1,if_pos h1]
    ·rw [if_neg h1,if_neg h1]
     by_cases h2:r.w = "line"
     ·rw [if_pos h2,if_pos h2]
      have hm:=h r (bv ..) h2
      have:lnOf (rk++[x]) r=lnOf rk r:=by
       unfold lnOf
       rw [cS,List.idxOf_append,if_pos hm]
      rw [this]
     ·rw [if_neg h2,if_neg h2]
   show rs.foldl _ (Do (rk++[x]) acc r)=rs.foldl _ (Do rk acc r)
   rw [e]
   exact ih (fun r hr=>h r (bg _ hr)) _
 exact fun {rows} h=>key rows h []
theorem TQ {ks:List R} {k r:R} (h:∀ t∈JZ r,t∈ks.map (·.nm)):stN (ks++[k]) r=stN ks r:=by
 unfold stN
 refine congrArg Wd.mk (fq fun t ht=>?_)
 rw [cS,List.idxOf_append,if_pos (h t ht)]
noncomputable abbrev Wa (r:R):Bool:=decide (V.str r.w=V.str "step")
noncomputable def lC (w:Str):Prop:=w = "board" \/ w = "rank" \/ w = "stop" \/ w = "coupler" \/ w = "mute" \/ w = "line" \/ w = "step"
structure Gk (K:PySem.W.Frag) (aB aP aM:Addr) (rows:List R) (bs:List (Str × Nat)) (rk:List (Str × Nat × Int)) (ks:List R) (ls:List (List Ln)) (sts:List Nat):Prop where
 ok:∀ (ρ:V->R) (us:List V),us.map ρ=rows->Hw K aB aP aM ρ us bs rk ks
 ln:linesOf rk rows=ls
 st:(rows.filter Wa).map (stN ks)=sts
 lm:∀ r∈rows,r.w = "line"->r.nm∈rk.map (·.1)
 sm:∀ r∈rows,r.w = "step"->∃ ts:List Str,V.str r.nm::r.rest=ts.map V.str/\ts.length<=24/\∀ t∈ts,t∈ks.map (·.nm)
 wd:∀ r∈rows,lC r.w
section
variable {aB aP aM:Addr} {rows:List R} {bs:List (Str × Nat)} {rk:List (Str × Nat × Int)} {ks:List R} {ls:List (List Ln)} {sts:List Nat}
theorem Gk.nil:Gk K aB aP aM [] [] [] [] [] []:=⟨fun ρ us e=>by rw [ip.mp e]; exact Hw.nil,rfl,rfl,(fun _ z=>nomatch z),(fun _ z=>nomatch z),(fun _ z=>nomatch z)⟩
theorem Qx {r:R} (h:r.w ≠ "step"):(rows++[r]).filter Wa=rows.filter Wa:=by
 rw [fA,dS,if_neg (by intro z; exact h (V.str.inj (of_decide_eq_true z)))]
 simp
theorem Hy {r:R} {Q:R->Prop} (h:∀ r∈rows,Q r) (hr:Q r):∀ x∈rows++[r],Q x:=fun x hx=>by
 rcases cb.mp hx with z | z
 ·exact h x z
 ·rw [av.mp z]
  exact hr
theorem Gk.Tv (F:JG K aB aP aM) (h:Gk K aB aP aM rows bs rk ks ls sts) {t:Str} {n:Nat} (ht:isNm t) (hf:∀ b∈bs,b.1 ≠ t) (hr:∀ r∈rk,r.1 ≠ t) (hk:∀ k∈ks,k.nm ≠ t) (hb:bs.length<5) (h1:1<=n) (h2:n<=61):Gk K aB aP aM (rows++[Gq (t,n)]) (bs++[(t,n)]) rk ks ls sts:=by
 refine ⟨fun ρ us e=>?_,?_,?_,Hy h.lm (fun z=>absurd z (by show ¬ ("board" : Str) = "line"; decide +kernel)),Hy h.sm (fun z=>absurd z (by show ¬ ("board" : Str) = "step"; decide +kernel)),Hy h.wd (.inl rfl)⟩
 ·obtain ⟨us',v,rfl,e',hv⟩:=Ii e
  have O:=h.ok ρ us' e'
  refine O.snoc ?_ ?_ ?_ (fun _ _ h=>h) (fun z=>absurd (hv ▸ z) (by show ¬ ("board" : Str) = "line"; decide +kernel)) ?_
  ·rw [KD (by unfold pw; rw [hv]; exact decide_eq_true rfl),List.map_append,O.eb,List.map_append,List.map_singleton,hv]
   rfl
  ·rw [Ec (by unfold pw; rw [hv]; show decide (V.str "board" = V.str "rank")=false; decide +kernel),O.er]
  ·rw [Ec (by rw [hv]; show Hf "board" = false; decide +kernel),O.ek]
  ·rw [hv]
   exact .inl (Qu (RJ F.f rfl ht (O.fresh hf hr hk) (by rw [O.bT]; exact hb) h1 h2) O.Ua)
 ·rw [Cw,h.ln]
  rfl
 ·rw [Qx (by show ¬ ("board" : Str) = "step"; decide +kernel)]
  exact h.st
theorem Gk.rank (F:JG K aB aP aM) (h:Gk K aB aP aM rows bs rk ks ls sts) {t:Str} {n:Nat} {wi:Int} (ht:isNm t) (hf:∀ b∈bs,b.1 ≠ t) (hr:∀ r∈rk,r.1 ≠ t) (hk:∀ k∈ks,k.nm ≠ t) (hc:rk.length<12) (h1:1<=n) (h2:n<=97) (h3:0<=wi) (h4:wi<=1000000000):Gk K aB aP aM (rows++[Fp (t,n,wi)]) bs (rk++[(t,n,wi)]) ks ls sts:=by
 have lm':∀ r∈rows,r.w = "line"->r.nm∈(rk++[(t,n,wi)]).map (·.1):=fun r hr z=>by
  rw [cS]
  exact ci _ (h.lm r hr z)
 refine ⟨fun ρ us e=>?_,?_,?_,Hy lm' (fun z=>absurd z (by show ¬ ("rank" : Str) = "line"; decide +kernel)),Hy h.sm (fun z=>absurd z (by show ¬ ("rank" : Str) = "step"; decide +kernel)),Hy h.wd (.inr (.inl rfl))⟩
 ·obtain ⟨us',v,rfl,e',hv⟩:=Ii e
  have O:=h.ok ρ us' e'
  refine O.snoc ?_ ?_ ?_ (fun j r h=>by rw [List.getElem?_append_left (List.getElem?_eq_some_iff.mp h).1]; exact h) (fun z=>absurd (hv ▸ z) (by show ¬ ("rank" : Str) = "line"; decide +kernel)) ?_
  ·rw [Ec (by unfold pw; rw [hv]; show decide (V.str "rank" = V.str "board")=false; decide +kernel),O.eb]
  ·rw [KD (by unfold pw; rw [hv]; exact decide_eq_true rfl),List.map_append,O.er,List.map_append,List.map_singleton,hv]
   rfl
  ·rw [Ec (by rw [hv]; show Hf "rank" = false; decide +kernel),O.ek]
  ·rw [hv]
   exact .inl (RZ F rfl ht (O.fresh hf hr hk) (by rw [O.b_]; exact hc) h1 h2 h3 h4 O.Ua)
 ·rw [Cw,Pn h.lm,h.ln]
  rfl
 ·rw [Qx (by show ¬ ("rank" : Str) = "step"; decide +kernel)]
  exact h.st
theorem Gk.Ww (h:Gk K aB aP aM rows bs rk ks ls sts) {r:R} (hw:r.w = "stop" \/ r.w = "coupler" \/ r.w = "mute") (hr:∀ (ρ:V->R) (us:List V),us.map ρ=rows->Lb K aB aP aM ρ us r):Gk K aB aP aM (rows++[r]) bs rk (ks++[r]) (ls++[[]]) sts:=by
 have hK:=JP hw
 have sm':∀ r'∈rows,r'.w = "step"->∃ ts:List Str,V.str r'.nm::r'.rest=ts.map V.str/\ts.length<=24/\∀ t∈ts,t∈(ks++[r]).map (·.nm):=fun r' hr' z=>by
  obtain ⟨ts,g1,g2,g3⟩:=h.sm r' hr' z
  exact ⟨ts,g1,g2,fun t ht=>by rw [cS]; exact ci _ (g3 t ht)⟩
 refine ⟨fun ρ us e=>?_,?_,?_,Hy h.lm (fun z=>?_),Hy sm' (fun z=>?_),Hy h.wd (hw.elim (fun z=>.inr (.inr (.inl z))) (fun z=>z.elim (fun z=>.inr (.inr (.inr (.inl z)))) (fun z=>.inr (.inr (.inr (.inr (.inl z)))))))⟩
 ·obtain ⟨us',v,rfl,e',hv⟩:=Ii e
  have O:=h.ok ρ us' e'
  refine O.snoc ?_ ?_ ?_ (fun _ _ h=>h) (fun z=>?_) ?_
  ·rw [Ec (by unfold pw; rw [hv]; rcases hw with e | e | e <;> rw [e] <;> decide +kernel),O.eb]
  ·rw [Ec (by unfold pw; rw [hv]; rcases hw with e | e | e <;> rw [e] <;> decide +kernel),O.er]
  ·rw [KD (by rw [hv]; exact hK),cS,O.ek,List.map_singleton,hv]
  ·rw [hv] at z
   rcases hw with e | e | e <;> rw [e] at z <;> exact absurd z (by decide +kernel)
  ·rw [hv]
   exact .inl (Qu (hr ρ us' e') O.Ua)
 ·rw [Cw,h.ln]
  unfold Do
  rw [if_pos hK]
 ·rw [Qx (by rcases hw with e | e | e <;> rw [e] <;> decide +kernel),← h.st]
  refine fq fun r' hr'=>TQ fun t ht=>?_
  obtain ⟨g1,g2⟩:=bE.mp hr'
  obtain ⟨ts,g3,_,g5⟩:=h.sm r' g1 (V.str.inj (of_decide_eq_true g2))
  rw [Hc g3] at ht
  exact g5 t ht
 ·rcases hw with e | e | e <;> rw [e] at z <;> exact absurd z (by decide +kernel)
 ·rcases hw with e | e | e <;> rw [e] at z <;> exact absurd z (by decide +kernel)
theorem Gk.Qj (F:JG K aB aP aM) (h:Gk K aB aP aM rows bs rk ks ls sts) {t a b:Str} {n m:Nat} {s:Int} (ht:isNm t) (hb:∀ b∈bs,b.1 ≠ t) (hr:∀ r∈rk,r.1 ≠ t) (hk:∀ k∈ks,k.nm ≠ t) (hc:(ks.filter fun r=>decide (V.str r.w=V.str "coupler")).length<12) (ha:isNm a) (ha':(a,n)∈bs) (hb1:isNm b) (hb':(b,m)∈bs) (h1 : -60<=s) (h2:s<=60) :
  Gk K aB aP aM (rows++[⟨"coupler",t,[.str a,.str b,.int s]⟩]) bs rk (ks++[⟨"coupler",t,[.str a,.str b,.int s]⟩]) (ls++[[]]) sts :=
 h.Ww (.inr (.inl rfl)) fun ρ us e=>by
  have O:=h.ok ρ us e
  exact M4 F.f rfl ht (O.fresh hb hr hk) (by rw [O.W_ (.inr (.inl rfl))]; exact hc) ha (O.O5 ha') hb1 (O.O5 hb') h1 h2
theorem Gk.plain (F:JG K aB aP aM) (h:Gk K aB aP aM rows bs rk ks ls sts) {wd t a:Str} {n:Nat} (hw:wd = "stop" \/ wd = "mute") (ht:isNm t) (hb:∀ b∈bs,b.1 ≠ t) (hr:∀ r∈rk,r.1 ≠ t) (hk:∀ k∈ks,k.nm ≠ t) (hc:(ks.filter fun r=>decide (V.str r.w=V.str wd)).length<Qo wd) (ha:isNm a) (ha':(a,n)∈bs) :
  Gk K aB aP aM (rows++[⟨wd,t,[.str a]⟩]) bs rk (ks++[⟨wd,t,[.str a]⟩]) (ls++[[]]) sts:=by
 have hw3:wd = "stop" \/ wd = "coupler" \/ wd = "mute":=by rcases hw with e | e; exact .inl e; exact .inr (.inr e)
 exact h.Ww hw3 fun ρ us e=>by
  have O:=h.ok ρ us e
  exact Rf F.f hw rfl ht (O.fresh hb hr hk) (by rw [O.W_ hw3]; exact hc) ha (O.O5 ha')
theorem Gk.line (F:JG K aB aP aM) {l0:List Ln} (h:Gk K aB aP aM rows bs rk ks (ls++[l0]) sts) {bd:Str} {cnt:Nat} (T:Tl rows bd cnt) (hc:cnt<4) {j n m:Nat} {t:Str} {wi sh lo hi:Int} (hj:rk[j]? = some (t,m,wi)) (hnd:(rk.map (·.1)).Nodup) (ht:isNm t) (hbd:(bd,n)∈bs) (hle:lo<=hi) (hn:hi<(n:Int)) (b1 : -200<=sh) (b2:sh<=200) (b3:0<=lo) (b6:hi<=60) :
  Gk K aB aP aM (rows++[⟨"line",t,[.int sh,.int lo,.int hi]⟩]) bs rk ks (ls++[l0++[⟨j,sh,lo,hi⟩]]) sts:=by
 obtain ⟨r0,st,lr,er,g1,g2,g3,g4⟩:=T
 have nK:Hf "line" = false:=by decide +kernel
 refine ⟨fun ρ us e=>?_,?_,?_,Hy h.lm (fun _=>List.mem_map.mpr ⟨_,List.mem_of_getElem? hj,rfl⟩),Hy h.sm (fun z=>absurd z (by show ¬ ("line" : Str) = "step"; decide +kernel)),Hy h.wd (.inr (.inr (.inr (.inr (.inr (.inl rfl))))))⟩
 ·obtain ⟨us',v,rfl,e',hv⟩:=Ii e
  have O:=h.ok ρ us' e'
  obtain ⟨u0,u1,eu,m1,m2⟩:=List.map_eq_append_iff.mp (e'.trans er)
  obtain ⟨sv,lv,e1,m3,m4⟩:=List.map_eq_cons_iff.mp m2
  subst e1
  have hsv:sv∈us':=by rw [eu]; simp
  have hlv:lv.length=cnt:=by rw [← g3,← m4,ag]
  have hus:us'.length=u0.length+(cnt+1):=by rw [eu,aE,aI,hlv]
  refine O.snoc ?_ ?_ ?_ (fun _ _ h=>h) (fun _=>⟨⟨j,_,sh,lo,hi,hj,by rw [hv],by rw [hv]⟩,sv,hsv,by rw [m3,g1]; decide +kernel⟩) ?_
  ·rw [Ec (by unfold pw; rw [hv]; show decide (V.str "line" = V.str "board")=false; decide +kernel),O.eb]
  ·rw [Ec (by unfold pw; rw [hv]; show decide (V.str "line" = V.str "rank")=false; decide +kernel),O.er]
  ·rw [Ec (by rw [hv]; exact nK),O.ek]
  ·rw [hv]
   have hst:us'[us'.length - 1 - cnt]? = some sv:=by
    have:us'.length - 1 - cnt=u0.length:=by omega
    rw [this,eu,eR (am _),iS]
    rfl
   refine .inl ?_
   refine Ri F rfl ht (O.Yd (al hj)) b1 b2 b3 (by omega) (by omega) b6 O.Ua ⟨cnt,sv,sh,lo,hi,bd,[],rfl,⟨fun i hi'=>?_,by omega,sv,hst,by rw [m3,g1]; decide +kernel⟩,hc,hst,by rw [m3,g1],by rw [m3,g2],hle,?_⟩
   ·have hi2:cnt - 1 - i<lv.length:=by omega
    refine ⟨lv[cnt - 1 - i],?_,?_⟩
    ·have:us'.length - 1 - i=u0.length+((cnt - 1 - i)+1):=by omega
     rw [this,eu,eR (Nat.le_add_right _ _),Nat.add_sub_cancel_left,List.getElem?_cons_succ]
     exact ae hi2
    ·refine g4 _ ?_
     rw [← m4]
     exact ce (eh hi2)
   ·obtain ⟨u,hu,hub⟩:=O.Tc hbd
    rw [fw]
    refine ⟨u,bE.mpr ⟨hu,?_⟩,?_⟩
    ·unfold pw
     rw [hub]
     exact decide_eq_true rfl
    ·show (pn ρ bd u && decide (hi<Xj (ρ u)))=true
     unfold pn
     rw [hub,fv]
     exact ⟨decide_eq_true rfl,decide_eq_true hn⟩
 ·rw [Cw,h.ln]
  unfold Do
  rw [if_neg (by show ¬ Hf "line" = true; rw [nK]; decide),if_pos rfl,HN]
  have hjl:=(af.mp hj).1
  have:(rk.map (·.1)).idxOf t=j:=by
   have hl:j<(rk.map (·.1)).length:=by rw [ag]; exact hjl
   have e2:(rk.map (·.1))[j]=t:=by
    rw [fz]
    have:=(af.mp hj).2
    rw [this]
   rw [← e2]
   exact hnd.idxOf_getElem j hl
  show ls++[l0++[⟨(rk.map (·.1)).idxOf t,sh,lo,hi⟩]]=_
  rw [this]
 ·rw [Qx (by show ¬ ("line" : Str) = "step"; decide +kernel)]
  exact h.st
theorem Gk.step (h:Gk K aB aP aM rows bs rk ks ls sts) (hM:∃ t,PySem.W.nsIn K aM "step" = some (some (.int 12 t))) {t0:Str} {ts:List Str} (nd:(t0::ts).Nodup) (h24:(t0::ts).length<=24) (hts:∀ t∈t0::ts,isNm t/\∃ k∈ks,k.w = "stop" /\ k.nm=t) (hc:sts.length<12):Gk K aB aP aM (rows++[⟨"step",t0,ts.map V.str⟩]) bs rk ks ls (sts++[Wd.mk ((t0::ts).map fun t=>(ks.map (·.nm)).idxOf t)]):=by
 have e0:V.str t0::ts.map V.str=(t0::ts).map V.str:=rfl
 have hin:∀ t∈t0::ts,t∈ks.map (·.nm):=fun t ht=>by
  obtain ⟨_,k,hk,_,rfl⟩:=hts t ht
  exact ce hk
 refine ⟨fun ρ us e=>?_,?_,?_,Hy h.lm (fun z=>absurd z (by show ¬ ("step" : Str) = "line"; decide +kernel)),Hy h.sm (fun _=>⟨t0::ts,e0,h24,hin⟩),Hy h.wd (.inr (.inr (.inr (.inr (.inr (.inr rfl))))))⟩
 ·obtain ⟨us',v,rfl,e',hv⟩:=Ii e
  have O:=h.ok ρ us' e'
  refine O.snoc ?_ ?_ ?_ (fun _ _ h=>h) (fun z=>absurd (hv ▸ z) (by show ¬ ("step" : Str) = "line"; decide +kernel)) ?_
  ·rw [Ec (by unfold pw; rw [hv]; show decide (V.str "step" = V.str "board")=false; decide +kernel),O.eb]
  ·rw [Ec (by unfold pw; rw [hv]; show decide (V.str "step" = V.str "rank")=false; decide +kernel),O.er]
  ·rw [Ec (by rw [hv]; show Hf "step" = false; decide +kernel),O.ek]
  ·rw [hv]
   obtain ⟨tk,hM⟩:=hM
   refine .inr ⟨rfl,⟨t0::ts,e0,nd,h24,fun t ht=>?_⟩,12,tk,hM,?_⟩
   ·obtain ⟨g1,k,g2,g3,g4⟩:=hts t ht
    refine ⟨g1,FQ.mpr ?_⟩
    rw [← O.ek] at g2
    obtain ⟨u,g5,rfl⟩:=aS.mp g2
    exact ⟨u,(bE.mp g5).1,g3,g4⟩
   ·have:(us'.filter (pw ρ "step")).length=sts.length:=by
     rw [← h.st,ag,← e',ef,ag]
     rfl
    show (((us'.filter (pw ρ "step")).length:Nat):Int)<12
    omega
 ·rw [Cw,h.ln]
  rfl
 ·rw [fA,cS,h.st]
  have e1:([(⟨"step",t0,ts.map V.str⟩:R)]).filter Wa=[⟨"step",t0,ts.map V.str⟩]:=rfl
  rw [e1]
  show sts++[stN ks _]=_
  unfold stN
  rw [Hc (r:=⟨"step",t0,ts.map V.str⟩) e0]
theorem Gk.fin {H:Hp} {vs:List V} (h:Gk K aB aP aM rows bs rk ks ls sts) (hv:Paired (fun (r:R) v=>TupAt H r.v v) rows vs) (b0:1<=bs.length) (b5:bs.length<=5) (sz:∀ b∈bs,b.2<=61) (nr:rk.length<=12) (nz:∀ r∈rk,r.2.1<=97) (nk:ks.length<=100) (nb:(bs.map (·.1)).Nodup) (nrr:(rk.map (·.1)).Nodup) (nn:(ks.map (·.nm)).Nodup) (len:rows.length<=150) :
  Rows H (Kp H) vs/\iD K aB aP aM (Kp H) vs bs rk ks/\linesOf rk (vs.map (Kp H))=ls/\((vs.filter (pw (Kp H) "step")).map fun v=>stN ks (Kp H v))=sts:=by
 have em:=Mt hv
 have O:=h.ok (Kp H) vs em
 have hR:Rows H (Kp H) vs:=fun v hv'=>by
  obtain ⟨r,_,hr⟩:=Cm hv hv'
  rw [Mg hr]
  exact hr
 refine ⟨hR,⟨O.eb,O.er,O.ek,O.ln,fun v hv' hw=>?_,b0,b5,sz,nr,nz,nk,nb,nrr,nn,by rw [← hv.length]; exact len,O.ok⟩,by rw [em]; exact h.ln,?_⟩
 ·refine h.sm (Kp H v) ?_ hw
  rw [← em]
  exact ce hv'
 ·rw [← h.st,← em,ef,bX]
  rfl
end
end Og
namespace Og
open PySem L2 PyProof.Rows
noncomputable def Gp (b:Str):Prop:=b.length<=6/\∀ c∈b.cps.toList,97<=c/\c<=122
theorem Gp.nil:Gp "":=⟨by decide,by rw [WK]; exact fun _ h=>nomatch h⟩
theorem Jz (a b:Str):(a++b).cps.toList=a.cps.toList++b.cps.toList:=by
 show (a.cps++b.cps).toList=_
 simp
theorem len_app (a b:Str):(a++b).length=a.length+b.length:=by
 show (a.cps++b.cps).size=a.cps.size+b.cps.size
 simp
noncomputable def Ry (n:Nat):Str:=⟨#[97+n]⟩
theorem Ip (n:Nat):(Ry n).length=1:=rfl
theorem Gp.snoc {b:Str} {n m:Nat} (h:b.length<=m/\∀ c∈b.cps.toList,97<=c/\c<=122) (hn:n<26):(b++Ry n).length<=m+1/\∀ c∈(b++Ry n).cps.toList,97<=c/\c<=122:=by
 refine ⟨by rw [len_app,Ip]; omega,fun c hc=>?_⟩
 rw [Jz] at hc
 rcases cb.mp hc with h' | h'
 ·exact h.2 c h'
 ·have:c=97+n:=by simpa [Ry] using h'
  omega
noncomputable def Eb (b:Str) (k:Nat):Str:=if 26<=k then b++Ry (k % 26)++Ry (k / 26 * 5 % 26) else b++Ry (k % 26)
theorem Fj {b:Str} (h:Gp b) (k:Nat):isNm (Eb b k):=by
 have g1:=Gp.snoc h (Nat.mod_lt k (by decide:0<26))
 have g2:=Gp.snoc g1 (Nat.mod_lt (k / 26 * 5) (by decide:0<26))
 unfold Eb
 split
 ·exact ⟨by rw [len_app,Ip]; omega,by have:=g2.1; omega,g2.2⟩
 ·exact ⟨by rw [len_app,Ip]; omega,by have:=g1.1; omega,g1.2⟩
theorem MK {b:Str} {k l:Nat} (hk:k<78) (hl:l<78) (h:Eb b k=Eb b l):k=l:=by
 have h1:=congrArg (fun s:Str=>s.cps.toList) h
 have h2:∀ k,(Eb b k).cps.toList=b.cps.toList++(if 26<=k then [97+k % 26,97+k / 26 * 5 % 26] else [97+k % 26]):=fun k=>by
  unfold Eb
  split
  ·rw [Jz,Jz,eI]
   rfl
  ·rw [Jz]
   rfl
 rw [h2,h2] at h1
 have h3:=List.append_cancel_left h1
 by_cases e1:26<=k
 ·by_cases e2:26<=l
  ·rw [if_pos e1,if_pos e2] at h3
   injection h3 with h4 h5
   injection h5 with h6 _
   omega
  ·rw [if_pos e1,if_neg e2] at h3
   injection h3 with h4 h5
   cases h5
 ·by_cases e2:26<=l
  ·rw [if_neg e1,if_pos e2] at h3
   injection h3 with h4 h5
   cases h5
  ·rw [if_neg e1,if_neg e2] at h3
   injection h3 with h4 h5
   omega
end Og
namespace Og
open PySem L2
structure Kq where
 p:Addr
 r:Addr
 b:Addr
 k:Addr
 n:Addr
 d:Addr
 s:Addr
inductive Dt where
 | stop (b:Nat) (L:Addr)
 | coup (a b:Nat) (s:Int)
 | mute (b:Nat)
noncomputable def Dt.L:Dt->List Addr
 | .stop _ L=>[L]
 | _=>[]
structure Pl where
 rows:List R
 bs:List (Str × Nat)
 rk:List (Str × Nat × Int)
 ks:List R
 ls:List (List Ln)
 ds:List Dt
 ch:List (List Nat)
noncomputable abbrev Pl.Ls (S:Pl):List Addr:=S.ds.flatMap Dt.L
noncomputable def P_ (H:Hp) (L:Addr) (l:List Ln):Prop:=∃ ts,H L=some (.lst ts)/\Paired (fun (y:Ln) z=>TupAt H (ZK y) z) l ts
noncomputable def Hg (H:Hp) (x:Dt × List Ln) (v:V):Prop:=match x.1 with
 | .stop b L=>TupAt H [.int (b:Nat),.ref L] v/\P_ H L x.2
 | .coup a b s=>TupAt H [.int (a:Nat),.int (b:Nat),.int s] v
 | .mute b=>v=.int (b:Nat)
noncomputable abbrev dj (r:Str × Nat × Int):List V:=[.str r.1,.int (r.2.1:Nat),.int r.2.2]
noncomputable abbrev Y8 (r:R):List V:=[.str r.w,.str r.nm]
structure Bk (H0 H:Hp) (A:Kq) (S:Pl) (Cs:List Addr) (lo:V):Prop where
 dp:∃ kvs:List (Key × V),H A.p=some (.dK kvs)/\kvs.length<=7/\Cq kvs (Sum.inr "rows")=some (.ref A.r)/\Cq kvs (Sum.inr "boards")=some (.ref A.b)/\Cq kvs (Sum.inr "ranks")=some (.ref A.k)/\Cq kvs (Sum.inr "knobs")=some (.ref A.n)/\Cq kvs (Sum.inr "details")=some (.ref A.d)/\Cq kvs (Sum.inr "steps")=some (.ref A.s)/\Cq kvs (Sum.inr "lines")=some lo
 nd:(A.r::A.b::A.k::A.n::A.d::A.s::(S.Ls++Cs)).Nodup
 sm:Am H0 H
 f0:H0 A.p=none
 fr:∀ a∈A.r::A.b::A.k::A.n::A.d::A.s::S.Ls,H0 a=none
 r:∃ vs,H A.r=some (.lst vs)/\Paired (fun (r:R) v=>TupAt H r.v v) S.rows vs
 b:∃ vs,H A.b=some (.lst vs)/\Paired (fun b v=>TupAt H (bV b) v) S.bs vs
 k:∃ vs,H A.k=some (.lst vs)/\Paired (fun r v=>TupAt H (dj r) v) S.rk vs
 n:∃ vs,H A.n=some (.lst vs)/\Paired (fun (r:R) v=>TupAt H (Y8 r) v) S.ks vs
 d:∃ vs,H A.d=some (.lst vs)/\S.ds.length=S.ls.length/\Paired (Hg H) (S.ds.zip S.ls) vs
 s:H A.s=some (.lst (Cs.map V.ref))
 c:Paired (fun C (l:List Nat)=>H C=some (.lst (l.map fun n:Nat=>V.int (n:Int)))) Cs S.ch
section
variable {H0 H H':Hp} {A:Kq} {S:Pl} {Cs:List Addr} {lo:V}
theorem P_.mono {L:Addr} {l:List Ln} (s:Am H H') (h:P_ H L l):P_ H' L l:=by
 obtain ⟨ts,h1,h2⟩:=h
 exact ⟨ts,s _ _ h1,BL s h2⟩
theorem Hg.mono {x:Dt × List Ln} {v:V} (s:Am H H') (h:Hg H x v):Hg H' x v:=by
 obtain ⟨d,l⟩:=x
 cases d with
 | stop b L=>exact ⟨h.1.mono s,h.2.mono s⟩
 | coup a b t=>exact TupAt.mono s h
 | mute b=>exact h
theorem P_.put {a L:Addr} {l:List Ln} {xs ys:List V} (h:P_ H L l) (ha:H a=some (.lst xs)) (hn:L ≠ a):P_ (upd H a (.lst ys)) L l:=by
 obtain ⟨ts,h1,h2⟩:=h
 exact ⟨ts,by rw [Aq hn]; exact h1,BZ h2 ha⟩
theorem Hg.put {a:Addr} {x:Dt × List Ln} {v:V} {xs ys:List V} (h:Hg H x v) (ha:H a=some (.lst xs)) (hn:∀ L∈x.1.L,L ≠ a):Hg (upd H a (.lst ys)) x v:=by
 obtain ⟨d,l⟩:=x
 cases d with
 | stop b L=>exact ⟨h.1.upd ha,h.2.put ha (hn L (av.mpr rfl))⟩
 | coup a' b t=>exact TupAt.upd h ha
 | mute b=>exact h
theorem Hg.dict {a:Addr} {x:Dt × List Ln} {v:V} {k1 k2:List (Key × V)} (h:Hg H x v) (s:SX a H (upd H a (.dK k2))) (ha:H a=some (.dK k1)):Hg (upd H a (.dK k2)) x v:=by
 have tp:∀ {zs:List V} {y:V},TupAt H zs y->TupAt (upd H a (.dK k2)) zs y:=fun {zs y} h=>by
  obtain ⟨T,rfl,e⟩:=h
  exact ⟨T,rfl,s _ _ e fun z=>by rw [z,ha] at e; cases e⟩
 obtain ⟨d,l⟩:=x
 cases d with
 | stop b L =>
  obtain ⟨h1,ts,h2,h3⟩:=h
  exact ⟨tp h1,ts,s _ _ h2 (fun z=>by rw [z,ha] at h2; cases h2),Paired.Ga h3 fun _ _ q=>tp q⟩
 | coup a' b t=>exact tp h
 | mute b=>exact h
theorem Bk.mono (s:Am H H') (h:Bk H0 H A S Cs lo):Bk H0 H' A S Cs lo:=by
 obtain ⟨kvs,g1,g2⟩:=h.dp
 obtain ⟨v1,r1,r2⟩:=h.r
 obtain ⟨v2,b1,b2⟩:=h.b
 obtain ⟨v3,k1,k2⟩:=h.k
 obtain ⟨v4,n1,n2⟩:=h.n
 obtain ⟨v5,d1,d2,d3⟩:=h.d
 exact ⟨⟨kvs,s _ _ g1,g2⟩,h.nd,h.sm.trans s,h.f0,h.fr,⟨v1,s _ _ r1,BL s r2⟩,⟨v2,s _ _ b1,BL s b2⟩,⟨v3,s _ _ k1,BL s k2⟩,⟨v4,s _ _ n1,BL s n2⟩,⟨v5,s _ _ d1,d2,Paired.Ga d3 fun _ _ q=>q.mono s⟩,s _ _ h.s,Paired.Ga h.c fun _ _ q=>s _ _ q⟩
theorem Dz {a:Addr} {o:HO} (s:Am H0 H) (h:H0 a=none):Am H0 (upd H a o):=fun b u e=>by
 rw [Aq (Ao e h)]
 exact s _ _ e
theorem Hv {a:Addr} {xs ys:List V} {kvs:List (Key × V)} {p:Addr} (hp:H p=some (.dK kvs)) (ha:H a=some (.lst xs)):upd H a (.lst ys) p=some (.dK kvs):=by
 rw [Aq fun z=>by rw [z,ha] at hp; cases hp]
 exact hp
theorem Xy {x:Dt × List Ln} (hx:x∈S.ds.zip S.ls) {L:Addr} (hL:L∈x.1.L):L∈S.Ls:=iN.mpr ⟨x.1,(fI hx).1,hL⟩
theorem Gh {α β:Type} {F:α->β->Prop}:∀ {l:List α} {z:α} {vs:List β},Paired F (l++[z]) vs->∃ us u,vs=us++[u]/\Paired F l us/\F z u
 | [],z,_,h=>by
  cases h with
  | cons x y=>cases y; exact ⟨[],_,rfl,.nil,x⟩
 | a::l,z,_,h=>by
  cases h with
  | cons x y =>
   obtain ⟨us,u,rfl,h1,h2⟩:=Gh y
   exact ⟨_::us,u,rfl,.cons x h1,h2⟩
theorem HJ {α β:Type} {F G:α->β->Prop}:∀ {l:List α} {vs:List β},Paired F l vs->(∀ a b,a∈l->F a b->G a b)->Paired G l vs
 | [],_,h,_=>by cases h; exact .nil
 | a::l,_,h,k=>by
  cases h with
  | cons x y=>exact .cons (k _ _ (bv ..) x) (HJ y fun a b hb=>k a b (bg _ hb))
theorem Bk.dput {a:Addr} {xs ys:List V} (h:Bk H0 H A S Cs lo) (ha:H a=some (.lst xs)) (hn:a ∉ S.Ls) {vs:List V} (p:Paired (Hg H) (S.ds.zip S.ls) vs):Paired (Hg (upd H a (.lst ys))) (S.ds.zip S.ls) vs :=
 HJ p fun x v hx q=>q.put ha fun L hL z=>hn (z ▸ Xy hx hL)
theorem Bk.O6 {a:Addr} {ys:List V} (h:Bk H0 H A S Cs lo) (hn:a ∉ Cs):Paired (fun C (l:List Nat)=>upd H a (.lst ys) C=some (.lst (l.map fun n:Nat=>V.int (n:Int)))) Cs S.ch :=
 HJ h.c fun C l hC q=>by rw [Aq (fun z:C=a=>hn (z ▸ hC))]; exact q
theorem Bk.lN (h:Bk H0 H A S Cs lo):A.r ≠ A.b:=by
 have z:=h.nd
 simp only [List.nodup_cons,List.mem_cons,not_or] at z
 obtain ⟨⟨z1,z2,z3,z4,z5,_⟩,⟨y2,y3,y4,y5,_⟩,⟨x3,x4,x5,_⟩,⟨w4,w5,_⟩,⟨v5,_⟩,_⟩:=z
 exact z1
theorem Bk.lK (h:Bk H0 H A S Cs lo):A.r ≠ A.k:=by
 have z:=h.nd
 simp only [List.nodup_cons,List.mem_cons,not_or] at z
 obtain ⟨⟨z1,z2,z3,z4,z5,_⟩,⟨y2,y3,y4,y5,_⟩,⟨x3,x4,x5,_⟩,⟨w4,w5,_⟩,⟨v5,_⟩,_⟩:=z
 exact z2
theorem Bk.kE (h:Bk H0 H A S Cs lo):A.r ≠ A.n:=by
 have z:=h.nd
 simp only [List.nodup_cons,List.mem_cons,not_or] at z
 obtain ⟨⟨z1,z2,z3,z4,z5,_⟩,⟨y2,y3,y4,y5,_⟩,⟨x3,x4,x5,_⟩,⟨w4,w5,_⟩,⟨v5,_⟩,_⟩:=z
 exact z3
theorem Bk.lR (h:Bk H0 H A S Cs lo):A.r ≠ A.d:=by
 have z:=h.nd
 simp only [List.nodup_cons,List.mem_cons,not_or] at z
 obtain ⟨⟨z1,z2,z3,z4,z5,_⟩,⟨y2,y3,y4,y5,_⟩,⟨x3,x4,x5,_⟩,⟨w4,w5,_⟩,⟨v5,_⟩,_⟩:=z
 exact z4
theorem Bk.lu (h:Bk H0 H A S Cs lo):A.r ≠ A.s:=by
 have z:=h.nd
 simp only [List.nodup_cons,List.mem_cons,not_or] at z
 obtain ⟨⟨z1,z2,z3,z4,z5,_⟩,⟨y2,y3,y4,y5,_⟩,⟨x3,x4,x5,_⟩,⟨w4,w5,_⟩,⟨v5,_⟩,_⟩:=z
 exact z5
theorem Bk.j4 (h:Bk H0 H A S Cs lo):A.b ≠ A.k:=by
 have z:=h.nd
 simp only [List.nodup_cons,List.mem_cons,not_or] at z
 obtain ⟨⟨z1,z2,z3,z4,z5,_⟩,⟨y2,y3,y4,y5,_⟩,⟨x3,x4,x5,_⟩,⟨w4,w5,_⟩,⟨v5,_⟩,_⟩:=z
 exact y2
theorem Bk.kI (h:Bk H0 H A S Cs lo):A.b ≠ A.n:=by
 have z:=h.nd
 simp only [List.nodup_cons,List.mem_cons,not_or] at z
 obtain ⟨⟨z1,z2,z3,z4,z5,_⟩,⟨y2,y3,y4,y5,_⟩,⟨x3,x4,x5,_⟩,⟨w4,w5,_⟩,⟨v5,_⟩,_⟩:=z
 exact y3
theorem Bk.lJ (h:Bk H0 H A S Cs lo):A.b ≠ A.d:=by
 have z:=h.nd
 simp only [List.nodup_cons,List.mem_cons,not_or] at z
 obtain ⟨⟨z1,z2,z3,z4,z5,_⟩,⟨y2,y3,y4,y5,_⟩,⟨x3,x4,x5,_⟩,⟨w4,w5,_⟩,⟨v5,_⟩,_⟩:=z
 exact y4
theorem Bk.kY (h:Bk H0 H A S Cs lo):A.b ≠ A.s:=by
 have z:=h.nd
 simp only [List.nodup_cons,List.mem_cons,not_or] at z
 obtain ⟨⟨z1,z2,z3,z4,z5,_⟩,⟨y2,y3,y4,y5,_⟩,⟨x3,x4,x5,_⟩,⟨w4,w5,_⟩,⟨v5,_⟩,_⟩:=z
 exact y5
theorem Bk.j5 (h:Bk H0 H A S Cs lo):A.k ≠ A.n:=by
 have z:=h.nd
 simp only [List.nodup_cons,List.mem_cons,not_or] at z
 obtain ⟨⟨z1,z2,z3,z4,z5,_⟩,⟨y2,y3,y4,y5,_⟩,⟨x3,x4,x5,_⟩,⟨w4,w5,_⟩,⟨v5,_⟩,_⟩:=z
 exact x3
theorem Bk.kh (h:Bk H0 H A S Cs lo):A.k ≠ A.d:=by
 have z:=h.nd
 simp only [List.nodup_cons,List.mem_cons,not_or] at z
 obtain ⟨⟨z1,z2,z3,z4,z5,_⟩,⟨y2,y3,y4,y5,_⟩,⟨x3,x4,x5,_⟩,⟨w4,w5,_⟩,⟨v5,_⟩,_⟩:=z
 exact x4
theorem Bk.kO (h:Bk H0 H A S Cs lo):A.k ≠ A.s:=by
 have z:=h.nd
 simp only [List.nodup_cons,List.mem_cons,not_or] at z
 obtain ⟨⟨z1,z2,z3,z4,z5,_⟩,⟨y2,y3,y4,y5,_⟩,⟨x3,x4,x5,_⟩,⟨w4,w5,_⟩,⟨v5,_⟩,_⟩:=z
 exact x5
theorem Bk.lA (h:Bk H0 H A S Cs lo):A.n ≠ A.d:=by
 have z:=h.nd
 simp only [List.nodup_cons,List.mem_cons,not_or] at z
 obtain ⟨⟨z1,z2,z3,z4,z5,_⟩,⟨y2,y3,y4,y5,_⟩,⟨x3,x4,x5,_⟩,⟨w4,w5,_⟩,⟨v5,_⟩,_⟩:=z
 exact w4
theorem Bk.lq (h:Bk H0 H A S Cs lo):A.n ≠ A.s:=by
 have z:=h.nd
 simp only [List.nodup_cons,List.mem_cons,not_or] at z
 obtain ⟨⟨z1,z2,z3,z4,z5,_⟩,⟨y2,y3,y4,y5,_⟩,⟨x3,x4,x5,_⟩,⟨w4,w5,_⟩,⟨v5,_⟩,_⟩:=z
 exact w5
theorem Bk.mF (h:Bk H0 H A S Cs lo):A.d ≠ A.s:=by
 have z:=h.nd
 simp only [List.nodup_cons,List.mem_cons,not_or] at z
 obtain ⟨⟨z1,z2,z3,z4,z5,_⟩,⟨y2,y3,y4,y5,_⟩,⟨x3,x4,x5,_⟩,⟨w4,w5,_⟩,⟨v5,_⟩,_⟩:=z
 exact v5
theorem Bk.lM (h:Bk H0 H A S Cs lo):A.r ∉ S.Ls++Cs:=by
 have z:=h.nd
 simp only [List.nodup_cons] at z
 have e:=z.1
 intro c
 exact e (by simp only [List.mem_cons]; simp only [c,or_true])
theorem Bk.lU (h:Bk H0 H A S Cs lo):A.b ∉ S.Ls++Cs:=by
 have z:=h.nd
 simp only [List.nodup_cons] at z
 have e:=z.2.1
 intro c
 exact e (by simp only [List.mem_cons]; simp only [c,or_true])
theorem Bk.lQ (h:Bk H0 H A S Cs lo):A.k ∉ S.Ls++Cs:=by
 have z:=h.nd
 simp only [List.nodup_cons] at z
 have e:=z.2.2.1
 intro c
 exact e (by simp only [List.mem_cons]; simp only [c,or_true])
theorem Bk.kj (h:Bk H0 H A S Cs lo):A.n ∉ S.Ls++Cs:=by
 have z:=h.nd
 simp only [List.nodup_cons] at z
 have e:=z.2.2.2.1
 intro c
 exact e (by simp only [List.mem_cons]; simp only [c,or_true])
theorem Bk.lB (h:Bk H0 H A S Cs lo):A.d ∉ S.Ls++Cs:=by
 have z:=h.nd
 simp only [List.nodup_cons] at z
 have e:=z.2.2.2.2.1
 intro c
 exact e (by simp only [List.mem_cons]; simp only [c,or_true])
theorem Bk.lO (h:Bk H0 H A S Cs lo):A.s ∉ S.Ls++Cs:=by
 have z:=h.nd
 simp only [List.nodup_cons] at z
 exact z.2.2.2.2.2.1
theorem Bk.gn (h:Bk H0 H A S Cs lo) {vs:List V} (ha:H A.r=some (.lst vs)) {r:R} {v:V} (hv:TupAt H r.v v):Bk H0 (upd H A.r (.lst (vs++[v]))) A { S with rows:=S.rows++[r] } Cs lo:=by
 obtain ⟨kvs,g1,g2⟩:=h.dp
 obtain ⟨vr,r1,r2⟩:=h.r
 obtain ⟨vb,b1,b2⟩:=h.b
 obtain ⟨vk,k1,k2⟩:=h.k
 obtain ⟨vn,n1,n2⟩:=h.n
 obtain ⟨vd,d1,d2,d3⟩:=h.d
 have hm:=h.lM
 obtain rfl:vr=vs:=HO.lst.inj (Option.some.inj (r1.symm.trans ha))
 have hp:=r2
 exact ⟨⟨kvs,Hv g1 ha,g2⟩,h.nd,Dz h.sm (h.fr _ (by simp)),h.f0,h.fr,⟨vr++[v],Af,CV (BZ hp ha) (.cons (hv.upd ha) .nil)⟩,⟨vb,by rw [Aq (Ne.symm h.lN)]; exact b1,BZ b2 ha⟩,⟨vk,by rw [Aq (Ne.symm h.lK)]; exact k1,BZ k2 ha⟩,⟨vn,by rw [Aq (Ne.symm h.kE)]; exact n1,BZ n2 ha⟩,⟨vd,by rw [Aq (Ne.symm h.lR)]; exact d1,d2,h.dput ha (fun z=>hm (List.mem_append_left _ z)) d3⟩,by rw [Aq (Ne.symm h.lu)]; exact h.s,h.O6 (fun z=>hm (List.mem_append_right _ z))⟩
theorem Bk.gG (h:Bk H0 H A S Cs lo) {vs:List V} (ha:H A.b=some (.lst vs)) {r:Str × Nat} {v:V} (hv:TupAt H (bV r) v):Bk H0 (upd H A.b (.lst (vs++[v]))) A { S with bs:=S.bs++[r] } Cs lo:=by
 obtain ⟨kvs,g1,g2⟩:=h.dp
 obtain ⟨vr,r1,r2⟩:=h.r
 obtain ⟨vb,b1,b2⟩:=h.b
 obtain ⟨vk,k1,k2⟩:=h.k
 obtain ⟨vn,n1,n2⟩:=h.n
 obtain ⟨vd,d1,d2,d3⟩:=h.d
 have hm:=h.lU
 obtain rfl:vb=vs:=HO.lst.inj (Option.some.inj (b1.symm.trans ha))
 have hp:=b2
 exact ⟨⟨kvs,Hv g1 ha,g2⟩,h.nd,Dz h.sm (h.fr _ (by simp)),h.f0,h.fr,⟨vr,by rw [Aq h.lN]; exact r1,BZ r2 ha⟩,⟨vb++[v],Af,CV (BZ hp ha) (.cons (hv.upd ha) .nil)⟩,⟨vk,by rw [Aq (Ne.symm h.j4)]; exact k1,BZ k2 ha⟩,⟨vn,by rw [Aq (Ne.symm h.kI)]; exact n1,BZ n2 ha⟩,⟨vd,by rw [Aq (Ne.symm h.lJ)]; exact d1,d2,h.dput ha (fun z=>hm (List.mem_append_left _ z)) d3⟩,by rw [Aq (Ne.symm h.kY)]; exact h.s,h.O6 (fun z=>hm (List.mem_append_right _ z))⟩
theorem Bk.gH (h:Bk H0 H A S Cs lo) {vs:List V} (ha:H A.k=some (.lst vs)) {r:Str × Nat × Int} {v:V} (hv:TupAt H (dj r) v):Bk H0 (upd H A.k (.lst (vs++[v]))) A { S with rk:=S.rk++[r] } Cs lo:=by
 obtain ⟨kvs,g1,g2⟩:=h.dp
 obtain ⟨vr,r1,r2⟩:=h.r
 obtain ⟨vb,b1,b2⟩:=h.b
 obtain ⟨vk,k1,k2⟩:=h.k
 obtain ⟨vn,n1,n2⟩:=h.n
 obtain ⟨vd,d1,d2,d3⟩:=h.d
 have hm:=h.lQ
 obtain rfl:vk=vs:=HO.lst.inj (Option.some.inj (k1.symm.trans ha))
 have hp:=k2
 exact ⟨⟨kvs,Hv g1 ha,g2⟩,h.nd,Dz h.sm (h.fr _ (by simp)),h.f0,h.fr,⟨vr,by rw [Aq h.lK]; exact r1,BZ r2 ha⟩,⟨vb,by rw [Aq h.j4]; exact b1,BZ b2 ha⟩,⟨vk++[v],Af,CV (BZ hp ha) (.cons (hv.upd ha) .nil)⟩,⟨vn,by rw [Aq (Ne.symm h.j5)]; exact n1,BZ n2 ha⟩,⟨vd,by rw [Aq (Ne.symm h.kh)]; exact d1,d2,h.dput ha (fun z=>hm (List.mem_append_left _ z)) d3⟩,by rw [Aq (Ne.symm h.kO)]; exact h.s,h.O6 (fun z=>hm (List.mem_append_right _ z))⟩
theorem Bk.Vx (h:Bk H0 H A S Cs lo) {vs:List V} (ha:H A.n=some (.lst vs)) {r:R} {v:V} (hv:TupAt H (Y8 r) v):Bk H0 (upd H A.n (.lst (vs++[v]))) A { S with ks:=S.ks++[r] } Cs lo:=by
 obtain ⟨kvs,g1,g2⟩:=h.dp
 obtain ⟨vr,r1,r2⟩:=h.r
 obtain ⟨vb,b1,b2⟩:=h.b
 obtain ⟨vk,k1,k2⟩:=h.k
 obtain ⟨vn,n1,n2⟩:=h.n
 obtain ⟨vd,d1,d2,d3⟩:=h.d
 have hm:=h.kj
 obtain rfl:vn=vs:=HO.lst.inj (Option.some.inj (n1.symm.trans ha))
 have hp:=n2
 exact ⟨⟨kvs,Hv g1 ha,g2⟩,h.nd,Dz h.sm (h.fr _ (by simp)),h.f0,h.fr,⟨vr,by rw [Aq h.kE]; exact r1,BZ r2 ha⟩,⟨vb,by rw [Aq h.kI]; exact b1,BZ b2 ha⟩,⟨vk,by rw [Aq h.j5]; exact k1,BZ k2 ha⟩,⟨vn++[v],Af,CV (BZ hp ha) (.cons (hv.upd ha) .nil)⟩,⟨vd,by rw [Aq (Ne.symm h.lA)]; exact d1,d2,h.dput ha (fun z=>hm (List.mem_append_left _ z)) d3⟩,by rw [Aq (Ne.symm h.lq)]; exact h.s,h.O6 (fun z=>hm (List.mem_append_right _ z))⟩
theorem Q3 (S:Pl) (x:Dt) (l:List (List Ln)):({ S with ds:=S.ds++[x],ls:=l }:Pl).Ls=S.Ls++x.L:=by
 show (S.ds++[x]).flatMap Dt.L=_
 rw [List.flatMap_append]
 simp
theorem Bk.VM (h:Bk H0 H A S Cs lo) {vs:List V} (ha:H A.d=some (.lst vs)) {x:Dt} {v:V} (hv:Hg H (x,[]) v) (hL:∀ L∈x.L,H0 L=none/\L ∉ A.r::A.b::A.k::A.n::A.d::A.s::(S.Ls++Cs)):Bk H0 (upd H A.d (.lst (vs++[v]))) A { S with ds:=S.ds++[x],ls:=S.ls++[[]] } Cs lo:=by
 obtain ⟨kvs,g1,g2⟩:=h.dp
 obtain ⟨vr,r1,r2⟩:=h.r
 obtain ⟨vb,b1,b2⟩:=h.b
 obtain ⟨vk,k1,k2⟩:=h.k
 obtain ⟨vn,n1,n2⟩:=h.n
 obtain ⟨vd,d1,d2,d3⟩:=h.d
 have hm:=h.lB
 obtain rfl:vd=vs:=HO.lst.inj (Option.some.inj (d1.symm.trans ha))
 refine ⟨⟨kvs,Hv g1 ha,g2⟩,?_,Dz h.sm (h.fr _ (by simp)),h.f0,?_,⟨vr,by rw [Aq h.lR]; exact r1,BZ r2 ha⟩,⟨vb,by rw [Aq h.lJ]; exact b1,BZ b2 ha⟩,⟨vk,by rw [Aq h.kh]; exact k1,BZ k2 ha⟩,⟨vn,by rw [Aq h.lA]; exact n1,BZ n2 ha⟩,⟨vd++[v],Af,by simp [d2],?_⟩,by rw [Aq (Ne.symm h.mF)]; exact h.s,h.O6 (fun z=>hm (List.mem_append_right _ z))⟩
 ·rw [Q3]
  have nd:=h.nd
  cases x with
  | stop b L =>
   have hL':=(hL L (av.mpr rfl)).2
   have e:(A.r::A.b::A.k::A.n::A.d::A.s::(S.Ls++Dt.L (.stop b L)++Cs)).Perm (L::(A.r::A.b::A.k::A.n::A.d::A.s::(S.Ls++Cs))):=by
    show (([A.r,A.b,A.k,A.n,A.d,A.s]++(S.Ls++[L]++Cs)):List Addr).Perm (L::([A.r,A.b,A.k,A.n,A.d,A.s]++(S.Ls++Cs)))
    have e1:([A.r,A.b,A.k,A.n,A.d,A.s]++(S.Ls++[L]++Cs):List Addr)=([A.r,A.b,A.k,A.n,A.d,A.s]++S.Ls)++L::Cs:=by simp
    have e2:([A.r,A.b,A.k,A.n,A.d,A.s]++(S.Ls++Cs):List Addr)=([A.r,A.b,A.k,A.n,A.d,A.s]++S.Ls)++Cs:=by simp
    rw [e1,e2]
    exact List.perm_middle
   exact e.nodup_iff.mpr (fF.mpr ⟨hL',nd⟩)
  | coup a b t =>
   show (A.r::A.b::A.k::A.n::A.d::A.s::(S.Ls++[]++Cs)).Nodup
   rw [dQ]
   exact nd
  | mute b =>
   show (A.r::A.b::A.k::A.n::A.d::A.s::(S.Ls++[]++Cs)).Nodup
   rw [dQ]
   exact nd
 ·rw [Q3]
  intro a ha'
  have:a∈A.r::A.b::A.k::A.n::A.d::A.s::S.Ls \/ a∈x.L:=by
   simp only [List.mem_cons,List.mem_append] at ha' ⊢
   rcases ha' with z | z | z | z | z | z | z | z
   ·exact .inl (.inl z)
   ·exact .inl (.inr (.inl z))
   ·exact .inl (.inr (.inr (.inl z)))
   ·exact .inl (.inr (.inr (.inr (.inl z))))
   ·exact .inl (.inr (.inr (.inr (.inr (.inl z)))))
   ·exact .inl (.inr (.inr (.inr (.inr (.inr (.inl z))))))
   ·exact .inl (.inr (.inr (.inr (.inr (.inr (.inr z))))))
   ·exact .inr z
  rcases this with z | z
  ·exact h.fr a z
  ·exact (hL a z).1
 ·rw [gy d2]
  refine CV (h.dput ha (fun z=>hm (ci _ z)) d3) (.cons (hv.put ha fun L hL' z=>?_) .nil)
  exact (hL L hL').2 (by rw [z]; simp)
theorem Bk.Em (h:Bk H0 H A S Cs lo) {C:Addr} {l:List Nat} (hC:H C=some (.lst (l.map fun n:Nat=>V.int (n:Int)))) (hn:C ∉ A.r::A.b::A.k::A.n::A.d::A.s::(S.Ls++Cs)):Bk H0 (upd H A.s (.lst (Cs.map V.ref++[.ref C]))) A { S with ch:=S.ch++[l] } (Cs++[C]) lo:=by
 obtain ⟨kvs,g1,g2⟩:=h.dp
 obtain ⟨vr,r1,r2⟩:=h.r
 obtain ⟨vb,b1,b2⟩:=h.b
 obtain ⟨vk,k1,k2⟩:=h.k
 obtain ⟨vn,n1,n2⟩:=h.n
 obtain ⟨vd,d1,d2,d3⟩:=h.d
 have hm:=h.lO
 have ha:=h.s
 refine ⟨⟨kvs,Hv g1 ha,g2⟩,?_,Dz h.sm (h.fr _ (by simp)),h.f0,h.fr,⟨vr,by rw [Aq h.lu]; exact r1,BZ r2 ha⟩,⟨vb,by rw [Aq h.kY]; exact b1,BZ b2 ha⟩,⟨vk,by rw [Aq h.kO]; exact k1,BZ k2 ha⟩,⟨vn,by rw [Aq h.lq]; exact n1,BZ n2 ha⟩,⟨vd,by rw [Aq h.mF]; exact d1,d2,h.dput ha (fun z=>hm (List.mem_append_left _ z)) d3⟩,by rw [List.map_append]; exact Af,CV (h.O6 (fun z=>hm (List.mem_append_right _ z))) (.cons (by rw [Aq fun z=>hn (by rw [z]; simp)]; exact hC) .nil)⟩
 show (A.r::A.b::A.k::A.n::A.d::A.s::(S.Ls++(Cs++[C]))).Nodup
 have e:(A.r::A.b::A.k::A.n::A.d::A.s::(S.Ls++(Cs++[C]))).Perm (C::(A.r::A.b::A.k::A.n::A.d::A.s::(S.Ls++Cs))):=by
  rw [← eI]
  exact List.perm_append_singleton C (A.r::A.b::A.k::A.n::A.d::A.s::(S.Ls++Cs))
 exact e.nodup_iff.mpr (fF.mpr ⟨hn,h.nd⟩)
theorem Bk.Zc (h:Bk H0 H A S Cs lo) {b:Nat} {L:Addr} {ds0:List Dt} {ls0:List (List Ln)} {l0:List Ln} {x:Ln} {v:V} {ts:List V} (e1:S.ds=ds0++[.stop b L]) (e2:S.ls=ls0++[l0]) (hL:H L=some (.lst ts)) (hv:TupAt H (ZK x) v):Bk H0 (upd H L (.lst (ts++[v]))) A { S with ls:=ls0++[l0++[x]] } Cs lo:=by
 obtain ⟨kvs,g1,g2⟩:=h.dp
 obtain ⟨vr,r1,r2⟩:=h.r
 obtain ⟨vb,b1,b2⟩:=h.b
 obtain ⟨vk,k1,k2⟩:=h.k
 obtain ⟨vn,n1,n2⟩:=h.n
 obtain ⟨vd,d1,d2,d3⟩:=h.d
 have ha:=hL
 have hmem:L∈S.Ls:=List.mem_flatMap.mpr ⟨.stop b L,by rw [e1]; simp,List.mem_singleton.mpr rfl⟩
 have nr:A.r ≠ L:=fun z=>h.lM (z ▸ ci _ hmem)
 have nb:A.b ≠ L:=fun z=>h.lU (z ▸ ci _ hmem)
 have nk:A.k ≠ L:=fun z=>h.lQ (z ▸ ci _ hmem)
 have nn:A.n ≠ L:=fun z=>h.kj (z ▸ ci _ hmem)
 have ndd:A.d ≠ L:=fun z=>h.lB (z ▸ ci _ hmem)
 have ns:A.s ≠ L:=fun z=>h.lO (z ▸ ci _ hmem)
 have hnd:(S.Ls++Cs).Nodup:=by
  have z:=h.nd
  simp only [List.nodup_cons] at z
  exact z.2.2.2.2.2.2
 have hLs:S.Ls=ds0.flatMap Dt.L++[L]:=by
  show S.ds.flatMap Dt.L=_
  rw [e1,List.flatMap_append]
  rfl
 have hC:L ∉ Cs:=fun z=>(fi.mp hnd).2.2 L hmem L z rfl
 have h0:L ∉ ds0.flatMap Dt.L:=fun z=>by
  have:=(fi.mp hnd).1
  rw [hLs] at this
  exact (fi.mp this).2.2 L z L (av.mpr rfl) rfl
 have ld:ds0.length=ls0.length:=by
  have:=d2
  rw [e1,e2] at this
  simpa using this
 rw [e1,e2,gy ld] at d3
 obtain ⟨vd0,u,rfl,p0,hu⟩:=Gh d3
 refine ⟨⟨kvs,Hv g1 ha,g2⟩,h.nd,Dz h.sm (h.fr _ (by simp only [List.mem_cons]; simp only [hmem,or_true])),h.f0,h.fr,⟨vr,by rw [Aq nr]; exact r1,BZ r2 ha⟩,⟨vb,by rw [Aq nb]; exact b1,BZ b2 ha⟩,⟨vk,by rw [Aq nk]; exact k1,BZ k2 ha⟩,⟨vn,by rw [Aq nn]; exact n1,BZ n2 ha⟩,⟨_,by rw [Aq ndd]; exact d1,?_,?_⟩,by rw [Aq ns]; exact h.s,h.O6 hC⟩
 ·show S.ds.length=(ls0++[l0++[x]]).length
  rw [e1]
  simp [ld]
 ·show Paired _ (S.ds.zip (ls0++[l0++[x]])) _
  rw [e1,gy ld]
  refine CV (HJ p0 fun y w hy q=>q.put ha fun L' hL' z=>h0 (z ▸ iN.mpr ⟨y.1,(fI hy).1,hL'⟩)) (.cons ?_ .nil)
  obtain ⟨q1,ts',q2,q3⟩:=hu
  obtain rfl:ts'=ts:=HO.lst.inj (Option.some.inj (q2.symm.trans hL))
  exact ⟨q1.upd ha,ts'++[v],Af,CV (BZ q3 ha) (.cons (hv.upd ha) .nil)⟩
theorem Ul {kvs:List (Key × V)} {k:Key} {v w:V} (h:Cq kvs k=some w):(putK kvs k v).length=kvs.length:=by
 unfold putK
 rw [if_pos (by rw [HF,h]; rfl),ag]
theorem Bk.Zi (h:Bk H0 H A S Cs lo) {kvs:List (Key × V)} (hp:H A.p=some (.dK kvs)) (v:V):Bk H0 (upd H A.p (.dK (putK kvs (Sum.inr "lines") v))) A S Cs v:=by
 obtain ⟨kvs',g1,g2,y1,y2,y3,y4,y5,y6,y7⟩:=h.dp
 obtain rfl:kvs'=kvs:=HO.dK.inj (Option.some.inj (g1.symm.trans hp))
 obtain ⟨vr,r1,r2⟩:=h.r
 obtain ⟨vb,b1,b2⟩:=h.b
 obtain ⟨vk,k1,k2⟩:=h.k
 obtain ⟨vn,n1,n2⟩:=h.n
 obtain ⟨vd,d1,d2,d3⟩:=h.d
 have sx:SX A.p H (upd H A.p (.dK (putK kvs' (Sum.inr "lines") v))):=SX.up
 have tp:∀ {zs:List V} {y:V},TupAt H zs y->TupAt (upd H A.p (.dK (putK kvs' (Sum.inr "lines") v))) zs y:=fun {zs y} h=>by
  obtain ⟨T,rfl,e⟩:=h
  exact ⟨T,rfl,sx _ _ e fun z=>by rw [z,hp] at e; cases e⟩
 have lt:∀ {a:Addr} {xs:List V},H a=some (.lst xs)->upd H A.p (.dK (putK kvs' (Sum.inr "lines") v)) a=some (.lst xs):=fun {a xs} h=>sx _ _ h fun z=>by rw [z,hp] at h; cases h
 refine ⟨⟨_,Af,by rw [Ul y7]; exact g2,?_,?_,?_,?_,?_,?_,?_⟩,h.nd,Dz h.sm h.f0,h.f0,h.fr,⟨vr,lt r1,Paired.Ga r2 fun _ _ q=>tp q⟩,⟨vb,lt b1,Paired.Ga b2 fun _ _ q=>tp q⟩,⟨vk,lt k1,Paired.Ga k2 fun _ _ q=>tp q⟩,⟨vn,lt n1,Paired.Ga n2 fun _ _ q=>tp q⟩,⟨vd,lt d1,d2,Paired.Ga d3 fun _ _ q=>q.dict sx hp⟩,lt h.s,Paired.Ga h.c fun _ _ q=>lt q⟩
 ·rw [Bc,if_neg (by decide +kernel)]; exact y1
 ·rw [Bc,if_neg (by decide +kernel)]; exact y2
 ·rw [Bc,if_neg (by decide +kernel)]; exact y3
 ·rw [Bc,if_neg (by decide +kernel)]; exact y4
 ·rw [Bc,if_neg (by decide +kernel)]; exact y5
 ·rw [Bc,if_neg (by decide +kernel)]; exact y6
 ·rw [Bc,if_pos rfl]
end
end Og
namespace Og
open PySem L2
variable {K:PySem.W.Frag} {aB aP aM:Addr}
noncomputable def Up (bs:List (Str × Nat)) (r:R):Dt->Prop
 | .stop b _=>r.w = "stop" /\ ∃ x,bs[b]? = some x/\r.rest=[.str x.1]
 | .coup a b s=>r.w = "coupler" /\ ∃ x y,bs[a]? = some x/\bs[b]? = some y/\r.rest=[.str x.1,.str y.1,.int s]
 | .mute b=>r.w = "mute" /\ ∃ x,bs[b]? = some x/\r.rest=[.str x.1]
structure Ef (K:PySem.W.Frag) (aB aP aM:Addr) (base:Str) (S:Pl) (lo:V):Prop where
 bl:Gk K aB aP aM S.rows S.bs S.rk S.ks S.ls (S.ch.map Wd.mk)
 nb:∀ x∈S.bs,∃ i,i<S.rows.length/\x.1=Eb base i
 nr:∀ x∈S.rk,∃ i,i<S.rows.length/\x.1=Eb base i
 nk:∀ x∈S.ks,∃ i,i<S.rows.length/\x.nm=Eb base i
 db:(S.bs.map (·.1)).Nodup
 dr:(S.rk.map (·.1)).Nodup
 dk:(S.ks.map (·.nm)).Nodup
 b5:S.bs.length<=5
 sb:∀ x∈S.bs,1<=x.2/\x.2<=61
 r12:S.rk.length<=12
 sr:∀ x∈S.rk,1<=x.2.1/\x.2.1<=97
 lk:S.ks.length<=S.rows.length
 pd:Paired (Up S.bs) S.ks S.ds
 ch:∀ l∈S.ch,l.Nodup/\∀ i∈l,∃ k,S.ks[i]? = some k/\k.w = "stop"
 op:lo=.non \/ ∃ ds0 b L x ls0 l0,S.ds=ds0++[.stop b L]/\S.ls=ls0++[l0]/\lo=.ref L/\S.bs[b]? = some x/\Tl S.rows x.1 l0.length
noncomputable abbrev iz (r:R) (lo:V):V:=if r.w = "stop" \/ r.w = "line" then lo else .non
noncomputable def J3 (K:PySem.W.Frag) (aB aP aM:Addr) (base:Str) (H0:Hp) (A:Kq) (S:Pl) (Q:V->Hp->Prop):Prop :=
 ∀ (r:R) (y:V) (S':Pl) (Cs':List Addr) (lo':V) (H':Hp),Bk H0 H' A S' Cs' lo'->S'.rows=S.rows->TupAt H' r.v y->Ef K aB aP aM base { S' with rows:=S.rows++[r] } (iz r lo')->1<=S'.bs.length->Q y H'
section
variable {base:Str} {S:Pl} {lo:V}
theorem Ef.fb (h:Ef K aB aP aM base S lo) (hl:S.rows.length<77):∀ x∈S.bs,x.1 ≠ Eb base S.rows.length:=fun x hx z=>by
 obtain ⟨i,hi,e⟩:=h.nb x hx
 have:=MK (by omega) (by omega) (e.symm.trans z)
 omega
theorem Ef.fr (h:Ef K aB aP aM base S lo) (hl:S.rows.length<77):∀ x∈S.rk,x.1 ≠ Eb base S.rows.length:=fun x hx z=>by
 obtain ⟨i,hi,e⟩:=h.nr x hx
 have:=MK (by omega) (by omega) (e.symm.trans z)
 omega
theorem Ef.fk (h:Ef K aB aP aM base S lo) (hl:S.rows.length<77):∀ x∈S.ks,x.nm ≠ Eb base S.rows.length:=fun x hx z=>by
 obtain ⟨i,hi,e⟩:=h.nk x hx
 have:=MK (by omega) (by omega) (e.symm.trans z)
 omega
theorem GZ {α:Type} {f:α->Str} {l:List α} {n:Nat} (h:∀ x∈l,∃ i,i<n/\f x=Eb base i):∀ x∈l,∃ i,i<n+1/\f x=Eb base i:=fun x hx=>by
 obtain ⟨i,h1,h2⟩:=h x hx
 exact ⟨i,by omega,h2⟩
theorem PP {α:Type} {f:α->Str} {l:List α} {n:Nat} {a:α} (h:∀ x∈l,∃ i,i<n/\f x=Eb base i) (ha:f a=Eb base n):∀ x∈l++[a],∃ i,i<n+1/\f x=Eb base i:=fun x hx=>by
 rcases cb.mp hx with z | z
 ·exact GZ h x z
 ·rw [av.mp z]
  exact ⟨n,by omega,ha⟩
theorem R4 {α:Type} {f:α->Str} {l:List α} {a:α} (h:(l.map f).Nodup) (hf:∀ x∈l,f x ≠ f a):((l++[a]).map f).Nodup:=by
 rw [cS]
 refine List.nodup_append.mpr ⟨h,by simp,fun x hx y hy z=>?_⟩
 obtain ⟨w,hw,rfl⟩:=aS.mp hx
 have hy':y=f a:=by simpa using hy
 exact hf w hw (z.trans hy')
theorem Up.grow {bs:List (Str × Nat)} {x:Str × Nat} {r:R} {d:Dt} (h:Up bs r d):Up (bs++[x]) r d:=by
 have g:∀ {i:Nat} {z:Str × Nat},bs[i]? = some z->(bs++[x])[i]? = some z:=fun {i z} h=>by
  rw [gc (af.mp h).1]
  exact h
 cases d with
 | stop b L =>
  obtain ⟨h1,z,h2,h3⟩:=h
  exact ⟨h1,z,g h2,h3⟩
 | coup a b s =>
  obtain ⟨h1,y,z,h2,h3,h4⟩:=h
  exact ⟨h1,y,z,g h2,g h3,h4⟩
 | mute b =>
  obtain ⟨h1,z,h2,h3⟩:=h
  exact ⟨h1,z,g h2,h3⟩
theorem Ef.Tv (F:JG K aB aP aM) (hb:Gp base) (h:Ef K aB aP aM base S lo) (hl:S.rows.length<77) (h5:S.bs.length<5) {n:Nat} (h1:1<=n) (h2:n<=61):Ef K aB aP aM base { S with bs:=S.bs++[(Eb base S.rows.length,n)],rows:=S.rows++[Gq (Eb base S.rows.length,n)] } .non:=by
 have el:(S.rows++[Gq (Eb base S.rows.length,n)]).length=S.rows.length+1:=by simp
 refine ⟨h.bl.Tv F (Fj hb _) (h.fb hl) (h.fr hl) (h.fk hl) h5 h1 h2,?_,?_,?_,R4 h.db (h.fb hl),h.dr,h.dk,by simp; omega,fun x hx=>?_,h.r12,h.sr,?_,Paired.Ga h.pd fun _ _ q=>q.grow,h.ch,.inl rfl⟩
 ·show ∀ x∈S.bs++_,∃ i,i<_/\_
  rw [el]
  exact PP (f:=fun x:Str × Nat=>x.1) h.nb rfl
 ·show ∀ x∈S.rk,∃ i,i<_/\_
  rw [el]
  exact GZ (f:=fun x:Str × Nat × Int=>x.1) h.nr
 ·show ∀ x∈S.ks,∃ i,i<_/\_
  rw [el]
  exact GZ (f:=fun x:R=>x.nm) h.nk
 ·rcases cb.mp hx with z | z
  ·exact h.sb x z
  ·rw [av.mp z]
   exact ⟨h1,h2⟩
 ·show S.ks.length<=_
  rw [el]
  have:=h.lk
  omega
theorem Ef.rank (F:JG K aB aP aM) (hb:Gp base) (h:Ef K aB aP aM base S lo) (hl:S.rows.length<77) (h12:S.rk.length<12) {n:Nat} {wi:Int} (h1:1<=n) (h2:n<=97) (h3:0<=wi) (h4:wi<=1000000000):Ef K aB aP aM base { S with rk:=S.rk++[(Eb base S.rows.length,n,wi)],rows:=S.rows++[Fp (Eb base S.rows.length,n,wi)] } .non:=by
 have el:(S.rows++[Fp (Eb base S.rows.length,n,wi)]).length=S.rows.length+1:=by simp
 refine ⟨h.bl.rank F (Fj hb _) (h.fb hl) (h.fr hl) (h.fk hl) h12 h1 h2 h3 h4,?_,?_,?_,h.db,R4 h.dr (h.fr hl),h.dk,h.b5,h.sb,by simp; omega,fun x hx=>?_,?_,h.pd,h.ch,.inl rfl⟩
 ·show ∀ x∈S.bs,∃ i,i<_/\_
  rw [el]
  exact GZ (f:=fun x:Str × Nat=>x.1) h.nb
 ·show ∀ x∈S.rk++_,∃ i,i<_/\_
  rw [el]
  exact PP (f:=fun x:Str × Nat × Int=>x.1) h.nr rfl
 ·show ∀ x∈S.ks,∃ i,i<_/\_
  rw [el]
  exact GZ (f:=fun x:R=>x.nm) h.nk
 ·rcases cb.mp hx with z | z
  ·exact h.sr x z
  ·rw [av.mp z]
   exact ⟨h1,h2⟩
 ·show S.ks.length<=_
  rw [el]
  have:=h.lk
  omega
theorem Ef.WY (h:Ef K aB aP aM base S lo) (hl:S.rows.length<77) {r:R} {d:Dt} {lo':V} (hn:r.nm=Eb base S.rows.length) (hd:Up S.bs r d) (hB:Gk K aB aP aM (S.rows++[r]) S.bs S.rk (S.ks++[r]) (S.ls++[[]]) (S.ch.map Wd.mk))
  (hop:lo'=.non \/ ∃ b L x,d=.stop b L/\lo'=.ref L/\S.bs[b]? = some x/\Tl (S.rows++[r]) x.1 0):Ef K aB aP aM base { S with ks:=S.ks++[r],ls:=S.ls++[[]],ds:=S.ds++[d],rows:=S.rows++[r] } lo':=by
 have el:(S.rows++[r]).length=S.rows.length+1:=by simp
 refine ⟨hB,?_,?_,?_,h.db,h.dr,R4 h.dk (fun x hx=>by rw [hn]; exact h.fk hl x hx),h.b5,h.sb,h.r12,h.sr,?_,CV h.pd (.cons hd .nil),fun l hl'=>?_,?_⟩
 ·show ∀ x∈S.bs,∃ i,i<_/\_
  rw [el]
  exact GZ (f:=fun x:Str × Nat=>x.1) h.nb
 ·show ∀ x∈S.rk,∃ i,i<_/\_
  rw [el]
  exact GZ (f:=fun x:Str × Nat × Int=>x.1) h.nr
 ·show ∀ x∈S.ks++_,∃ i,i<_/\_
  rw [el]
  exact PP (f:=fun x:R=>x.nm) h.nk hn
 ·show (S.ks++[r]).length<=_
  rw [el]
  have:=h.lk
  simp
  omega
 ·obtain ⟨g1,g2⟩:=h.ch l hl'
  refine ⟨g1,fun i hi=>?_⟩
  obtain ⟨k,g3,g4⟩:=g2 i hi
  exact ⟨k,by rw [gc (af.mp g3).1]; exact g3,g4⟩
 ·rcases hop with z | ⟨b,L,x,rfl,g1,g2,g3⟩
  ·exact .inl z
  ·exact .inr ⟨S.ds,b,L,x,S.ls,[],rfl,rfl,g1,g2,g3⟩
theorem Ef.line (F:JG K aB aP aM) (hb:Gp base) (h:Ef K aB aP aM base S lo) {ds0:List Dt} {b:Nat} {L:Addr} {x:Str × Nat} {ls0:List (List Ln)} {l0:List Ln} (e1:S.ds=ds0++[.stop b L]) (e2:S.ls=ls0++[l0]) (hx:S.bs[b]? = some x) (hT:Tl S.rows x.1 l0.length) (h4:l0.length<4)
  {j:Nat} {r:Str × Nat × Int} {sh lw hi:Int} (hj:S.rk[j]? = some r) (hle:lw<=hi) (hn:hi<(x.2:Int)) (b1 : -200<=sh) (b2:sh<=200) (b3:0<=lw):Ef K aB aP aM base { S with ls:=ls0++[l0++[⟨j,sh,lw,hi⟩]],rows:=S.rows++[⟨"line",r.1,[.int sh,.int lw,.int hi]⟩] } (.ref L):=by
 have el:(S.rows++[(⟨"line",r.1,[.int sh,.int lw,.int hi]⟩:R)]).length=S.rows.length+1:=by simp
 have hxs:=h.sb x (al hx)
 have hB:=h.bl
 rw [e2] at hB
 have ht:isNm r.1:=by
  obtain ⟨i,_,e⟩:=h.nr r (al hj)
  rw [e]
  exact Fj hb i
 refine ⟨hB.line F hT h4 (m:=r.2.1) (wi:=r.2.2) hj h.dr ht (n:=x.2) (al hx) hle hn b1 b2 b3 (by omega),?_,?_,?_,h.db,h.dr,h.dk,h.b5,h.sb,h.r12,h.sr,?_,h.pd,h.ch,.inr ⟨ds0,b,L,x,ls0,_,e1,rfl,rfl,hx,?_⟩⟩
 ·show ∀ x∈S.bs,∃ i,i<_/\_
  rw [el]
  exact GZ (f:=fun x:Str × Nat=>x.1) h.nb
 ·show ∀ x∈S.rk,∃ i,i<_/\_
  rw [el]
  exact GZ (f:=fun x:Str × Nat × Int=>x.1) h.nr
 ·show ∀ x∈S.ks,∃ i,i<_/\_
  rw [el]
  exact GZ (f:=fun x:R=>x.nm) h.nk
 ·show S.ks.length<=_
  rw [el]
  have:=h.lk
  omega
 ·rw [aE,cE]
  exact hT.line rfl
theorem YT {ks:List R} (nd:(ks.map (·.nm)).Nodup) {i:Nat} {k:R} (h:ks[i]? = some k):(ks.map (·.nm)).idxOf k.nm=i:=by
 have hi:i<(ks.map (·.nm)).length:=by rw [ag]; exact (af.mp h).1
 have e:(ks.map (·.nm))[i]=k.nm:=by
  rw [fz]
  exact congrArg (·.nm) (af.mp h).2
 rw [← e]
 exact nd.idxOf_getElem i hi
noncomputable def Ji (ks:List R) (i:Nat):Str:=((ks[i]?).map (·.nm)).getD ""
theorem Pb {ks:List R} {i:Nat} {k:R} (h:ks[i]? = some k):Ji ks i=k.nm:=by unfold Ji; rw [h]; rfl
theorem Ef.step (hM:∃ t,PySem.W.nsIn K aM "step" = some (some (.int 12 t))) (hb:Gp base) (h:Ef K aB aP aM base S lo) {i0:Nat} {c:List Nat} (nd:(i0::c).Nodup) (h24:(i0::c).length<=24) (hc:∀ i∈i0::c,∃ k,S.ks[i]? = some k/\k.w = "stop") (h12:S.ch.length<12) :
  Ef K aB aP aM base { S with ch:=S.ch++[i0::c],rows:=S.rows++[⟨"step",Ji S.ks i0,(c.map (Ji S.ks)).map V.str⟩] } .non:=by
 have el:(S.rows++[(⟨"step",Ji S.ks i0,(c.map (Ji S.ks)).map V.str⟩:R)]).length=S.rows.length+1:=by simp
 have ix:∀ i∈i0::c,(S.ks.map (·.nm)).idxOf (Ji S.ks i)=i:=fun i hi=>by
  obtain ⟨k,g1,_⟩:=hc i hi
  rw [Pb g1]
  exact YT h.dk g1
 have hB:=h.bl.step (t0:=Ji S.ks i0) (ts:=c.map (Ji S.ks)) hM ?_ (by simpa using h24) ?_ (by rw [List.length_map]; exact h12)
 ·have e3:((Ji S.ks i0::c.map (Ji S.ks)).map fun t=>(S.ks.map (·.nm)).idxOf t)=i0::c:=by
   show (((i0::c).map (Ji S.ks)).map fun t=>(S.ks.map (·.nm)).idxOf t)=_
   rw [bX]
   have:(i0::c).map ((fun t=>(S.ks.map (·.nm)).idxOf t) ∘ Ji S.ks)=(i0::c).map id:=fq fun i hi=>ix i hi
   rw [this,hG]
  rw [e3] at hB
  refine ⟨by show Gk _ _ _ _ _ _ _ _ _ ((S.ch++[i0::c]).map Wd.mk); rw [List.map_append]; exact hB,?_,?_,?_,h.db,h.dr,h.dk,h.b5,h.sb,h.r12,h.sr,?_,h.pd,fun l hl=>?_,.inl rfl⟩
  ·show ∀ x∈S.bs,∃ i,i<_/\_
   rw [el]
   exact GZ (f:=fun x:Str × Nat=>x.1) h.nb
  ·show ∀ x∈S.rk,∃ i,i<_/\_
   rw [el]
   exact GZ (f:=fun x:Str × Nat × Int=>x.1) h.nr
  ·show ∀ x∈S.ks,∃ i,i<_/\_
   rw [el]
   exact GZ (f:=fun x:R=>x.nm) h.nk
  ·show S.ks.length<=_
   rw [el]
   have:=h.lk
   omega
  ·rcases cb.mp hl with z | z
   ·exact h.ch l z
   ·rw [av.mp z]
    exact ⟨nd,hc⟩
 ·show ((i0::c).map (Ji S.ks)).Nodup
  refine List.Pairwise.of_map (S:=(· ≠ ·)) (fun t=>(S.ks.map (·.nm)).idxOf t) (fun a b h e=>h (by rw [e])) ?_
  rw [bX]
  have:(i0::c).map ((fun t=>(S.ks.map (·.nm)).idxOf t) ∘ Ji S.ks)=(i0::c).map id:=fq fun i hi=>ix i hi
  rw [this,hG]
  exact nd
 ·intro t ht
  obtain ⟨i,hi,rfl⟩:=List.mem_map.mp (show t∈(i0::c).map (Ji S.ks) from ht)
  obtain ⟨k,g1,g2⟩:=hc i hi
  rw [Pb g1]
  obtain ⟨m,_,e⟩:=h.nk k (al g1)
  exact ⟨by rw [e]; exact Fj hb m,k,al g1,g2,rfl⟩
theorem G8 {α β:Type} {F:α->β->Prop}:∀ {l:List α} {vs:List β},Paired F l vs->∀ a∈l,∃ b∈vs,F a b
 | [],_,h,a,ha=>nomatch ha
 | x::l,_,h,a,ha=>by
  cases h with
  | cons z y =>
   rcases cm.mp ha with rfl | h'
   ·exact ⟨_,bv ..,z⟩
   ·obtain ⟨b,hb,e⟩:=G8 y a h'
    exact ⟨b,bg _ hb,e⟩
theorem Bk.old {H0 H:Hp} {A:Kq} {S:Pl} {Cs:List Addr} {lo:V} (h:Bk H0 H A S Cs lo) {L:Addr} (hL:H L=none):H0 L=none/\L ∉ A.r::A.b::A.k::A.n::A.d::A.s::(S.Ls++Cs):=by
 refine ⟨h.sm.free hL,fun hm=>?_⟩
 have key:∃ o,H L=some o:=by
  obtain ⟨vd,d1,d2,d3⟩:=h.d
  simp only [List.mem_cons,List.mem_append] at hm
  rcases hm with rfl | rfl | rfl | rfl | rfl | rfl | z | z
  ·obtain ⟨v,e,_⟩:=h.r
   exact ⟨_,e⟩
  ·obtain ⟨v,e,_⟩:=h.b
   exact ⟨_,e⟩
  ·obtain ⟨v,e,_⟩:=h.k
   exact ⟨_,e⟩
  ·obtain ⟨v,e,_⟩:=h.n
   exact ⟨_,e⟩
  ·exact ⟨_,d1⟩
  ·exact ⟨_,h.s⟩
  ·obtain ⟨d,hd,hL'⟩:=iN.mp z
   obtain ⟨i,hi,e⟩:=dc hd
   have hz:(d,S.ls[i]'(by omega))∈S.ds.zip S.ls:=by
    refine ej.mpr ⟨i,by rw [gz]; omega,?_⟩
    rw [List.getElem_zip,e]
   obtain ⟨v,_,q⟩:=G8 d3 _ hz
   cases d with
   | stop b L1 =>
    obtain rfl:=av.mp hL'
    obtain ⟨_,ts,e,_⟩:=q
    exact ⟨_,e⟩
   | coup a b s=>exact nomatch hL'
   | mute b=>exact nomatch hL'
  ·obtain ⟨l,_,q⟩:=G8 h.c _ z
   exact ⟨_,q⟩
 obtain ⟨o,e⟩:=key
 rw [hL] at e
 cases e
theorem Ef.gq {K:PySem.W.Frag} {aB aP aM:Addr} {bb:Str} {S:Pl} {lo:V} (h:Ef K aB aP aM bb S lo) (hb:Gp bb) {i:Nat} {x:Str × Nat} (hx:S.bs[i]? = some x):isNm x.1:=by
 obtain ⟨m,_,e⟩:=h.nb x (al hx)
 rw [e]
 exact Fj hb m
noncomputable abbrev Pu (l:List Nat):List V:=l.map fun n:Nat=>V.int (n:Int)
theorem TF (l:List Nat):(Pu l).all Fx=true:=cw.mpr fun v hv=>by
 obtain ⟨n,_,rfl⟩:=aS.mp hv
 rfl
theorem V4 (j:Nat) (js:List Nat):inV (.int (j:Nat)) (Pu js)=decide (j∈js):=by
 rw [dl,decide_eq_true_eq]
 unfold inV
 rw [fw]
 constructor
 ·rintro ⟨y,hy,e⟩
  obtain ⟨n,hn,rfl⟩:=aS.mp hy
  have e':(((n:Nat):Int) == ((j:Nat):Int))=true:=e
  have e2:((n:Nat):Int)=(j:Nat):=eq_of_beq e'
  have:n=j:=by omega
  subst this
  exact hn
 ·intro h
  exact ⟨_,List.mem_map_of_mem h,by show (((j:Nat):Int) == ((j:Nat):Int))=true; exact beq_self_eq_true _⟩
noncomputable def WM (ks:List R) (i:Nat):Bool:=match ks[i]? with
 | some k=>decide (V.str k.w=V.str "stop")
 | none=>false
noncomputable def Js (ks:List R):List Nat:=(List.range ks.length).filter (WM ks)
theorem Np {ks:List R} {i:Nat} (h:i∈Js ks):∃ k,ks[i]? = some k/\k.w = "stop":=by
 have h2:=(bE.mp h).2
 unfold WM at h2
 split at h2
 ·exact ⟨_,by assumption,V.str.inj (of_decide_eq_true h2)⟩
 ·cases h2
theorem R1 {ks:List R} (h:0<(ks.filter fun r=>decide (V.str r.w=V.str "stop")).length):0<(Js ks).length:=by
 obtain ⟨r,hr⟩:=List.exists_mem_of_length_pos h
 obtain ⟨h1,h2⟩:=bE.mp hr
 obtain ⟨i,hi,e⟩:=dc h1
 refine List.length_pos_of_mem (a:=i) (bE.mpr ⟨fg.mpr hi,?_⟩)
 unfold WM
 rw [ae hi,e]
 exact h2
noncomputable def jB (ks:List R):V->V
 | .int i=>.str (Ji ks i.toNat)
 | _=>.non
theorem K6 (ns:List Int) {lo hi:Int} (h0:0<=lo) (h1:lo<=hi):∃ ms:List Int,Cv (ns.map V.int) (some lo) (some hi)=ms.map V.int/\(ms.length:Int)<=hi - lo:=by
 obtain ⟨a,rfl⟩:=cq h0
 obtain ⟨b,rfl⟩:=Int.eq_ofNat_of_zero_le (show 0<=hi by omega)
 unfold Cv
 refine ⟨(ns.drop (HT.Du (ns.map V.int).length 0 (some (a:Int)))).take (HT.Du (ns.map V.int).length (ns.map V.int).length (some (b:Int)) - HT.Du (ns.map V.int).length 0 (some (a:Int))),?_,?_⟩
 ·rw [← List.map_drop,← List.map_take]
 ·rw [bq,gi,HT.DR,HT.DR]
  omega
noncomputable abbrev JS (a1 a2 a3 a4 a5 a6:Addr):List (Key × V):=[(Sum.inr "rows",.ref a1),(Sum.inr "boards",.ref a2),(Sum.inr "ranks",.ref a3),(Sum.inr "knobs",.ref a4),(Sum.inr "details",.ref a5),(Sum.inr "steps",.ref a6),(Sum.inr "lines",.non)]
theorem Bk.new {H H7:Hp} {p a1 a2 a3 a4 a5 a6:Addr} (s:Am H H7) (f0:H p=none) (f1:H a1=none) (f2:H a2=none) (f3:H a3=none) (f4:H a4=none) (f5:H a5=none) (f6:H a6=none) (e0:H7 p=some (.dK []))
  (e1:H7 a1=some (.lst [])) (e2:H7 a2=some (.lst [])) (e3:H7 a3=some (.lst [])) (e4:H7 a4=some (.lst [])) (e5:H7 a5=some (.lst [])) (e6:H7 a6=some (.lst [])) (nd:[a1,a2,a3,a4,a5,a6].Nodup) :
  Bk H (upd H7 p (.dK (Dl [] (JS a1 a2 a3 a4 a5 a6)))) ⟨p,a1,a2,a3,a4,a5,a6⟩ ⟨[],[],[],[],[],[],[]⟩ [] .non:=by
 have lt:∀ {a:Addr},H7 a=some (.lst [])->upd H7 p (.dK (Dl [] (JS a1 a2 a3 a4 a5 a6))) a=some (.lst []):=fun {a} h=>by
  rw [Aq (Nr h e0 (by intro z; cases z))]
  exact h
 have em:Dl [] (JS a1 a2 a3 a4 a5 a6)=putK (putK (putK (putK (putK (putK (putK [] (Sum.inr ("rows" : Str):Key) (.ref a1)) (Sum.inr ("boards" : Str):Key) (.ref a2)) (Sum.inr ("ranks" : Str):Key) (.ref a3)) (Sum.inr ("knobs" : Str):Key) (.ref a4)) (Sum.inr ("details" : Str):Key) (.ref a5)) (Sum.inr ("steps" : Str):Key) (.ref a6)) (Sum.inr ("lines" : Str):Key) .non:=by
  simp only [Dl,JS,List.foldl_cons,List.foldl_nil]
 have w0:Cq (Dl [] (JS a1 a2 a3 a4 a5 a6)) (Sum.inr ("rows" : Str):Key)=some (.ref a1):=by
  rw [em,Bc,if_neg (by decide +kernel),Bc,if_neg (by decide +kernel),Bc,if_neg (by decide +kernel),Bc,if_neg (by decide +kernel),Bc,if_neg (by decide +kernel),Bc,if_neg (by decide +kernel),Bc,if_pos rfl]
 have w1:Cq (Dl [] (JS a1 a2 a3 a4 a5 a6)) (Sum.inr ("boards" : Str):Key)=some (.ref a2):=by
  rw [em,Bc,if_neg (by decide +kernel),Bc,if_neg (by decide +kernel),Bc,if_neg (by decide +kernel),Bc,if_neg (by decide +kernel),Bc,if_neg (by decide +kernel),Bc,if_pos rfl]
 have w2:Cq (Dl [] (JS a1 a2 a3 a4 a5 a6)) (Sum.inr ("ranks" : Str):Key)=some (.ref a3):=by
  rw [em,Bc,if_neg (by decide +kernel),Bc,if_neg (by decide +kernel),Bc,if_neg (by decide +kernel),Bc,if_neg (by decide +kernel),Bc,if_pos rfl]
 have w3:Cq (Dl [] (JS a1 a2 a3 a4 a5 a6)) (Sum.inr ("knobs" : Str):Key)=some (.ref a4):=by
  rw [em,Bc,if_neg (by decide +kernel),Bc,if_neg (by decide +kernel),Bc,if_neg (by decide +kernel),Bc,if_pos rfl]
 have w4:Cq (Dl [] (JS a1 a2 a3 a4 a5 a6)) (Sum.inr ("details" : Str):Key)=some (.ref a5):=by
  rw [em,Bc,if_neg (by decide +kernel),Bc,if_neg (by decide +kernel),Bc,if_pos rfl]
 have w5:Cq (Dl [] (JS a1 a2 a3 a4 a5 a6)) (Sum.inr ("steps" : Str):Key)=some (.ref a6):=by
  rw [em,Bc,if_neg (by decide +kernel),Bc,if_pos rfl]
 have w6:Cq (Dl [] (JS a1 a2 a3 a4 a5 a6)) (Sum.inr ("lines" : Str):Key)=some (.non):=by
  rw [em,Bc,if_pos rfl]
 have w7:(Dl [] (JS a1 a2 a3 a4 a5 a6)).length<=7:=by
  rw [em]
  refine bi (Cd _ _ _) (cf ?_)
  refine bi (Cd _ _ _) (cf ?_)
  refine bi (Cd _ _ _) (cf ?_)
  refine bi (Cd _ _ _) (cf ?_)
  refine bi (Cd _ _ _) (cf ?_)
  refine bi (Cd _ _ _) (cf ?_)
  exact Cd _ _ _
 refine ⟨⟨_,Af,w7,w0,w1,w2,w3,w4,w5,w6⟩,nd,Dz s f0,f0,?_,⟨[],lt e1,.nil⟩,⟨[],lt e2,.nil⟩,⟨[],lt e3,.nil⟩,⟨[],lt e4,.nil⟩,⟨[],lt e5,rfl,.nil⟩,lt e6,.nil⟩
 intro a ha
 simp only [List.mem_cons] at ha
 rcases ha with rfl | rfl | rfl | rfl | rfl | rfl | z
 ·exact f1
 ·exact f2
 ·exact f3
 ·exact f4
 ·exact f5
 ·exact f6
 ·exact nomatch z
theorem Ef.new (bb:Str):Ef K aB aP aM bb ⟨[],[],[],[],[],[],[]⟩ .non :=
 ⟨Gk.nil,(fun _ z=>nomatch z),(fun _ z=>nomatch z),(fun _ z=>nomatch z),ge,ge,ge,dL _,(fun _ z=>nomatch z),dL _,(fun _ z=>nomatch z),am _,.nil,(fun _ z=>nomatch z),.inl rfl⟩
theorem Bk.stand {H0 H:Hp} {A:Kq} {S:Pl} {Cs:List Addr} {lo:V} {q:Addr} {o:HO} (h:Bk H0 H A S Cs lo) (hq:H q=some o) (hp:A.p ≠ q) (hn:∀ a∈A.r::A.b::A.k::A.n::A.d::A.s::S.Ls,a ≠ q):Bk (upd H0 q o) H A S Cs lo:=by
 refine ⟨h.dp,h.nd,fun b u e=>?_,by rw [Aq hp]; exact h.f0,fun a ha=>by rw [Aq (hn a ha)]; exact h.fr a ha,h.r,h.b,h.k,h.n,h.d,h.s,h.c⟩
 by_cases z:b=q
 ·subst z
  rw [Af] at e
  rw [hq,← e]
 ·rw [Aq z] at e
  exact h.sm _ _ e
theorem Bk.weak {H0 H:Hp} {A:Kq} {S:Pl} {Cs:List Addr} {lo:V} {q:Addr} {o:HO} (h:Bk (upd H0 q o) H A S Cs lo) (h0:H0 q=none):Bk H0 H A S Cs lo:=by
 have s0:Am H0 (upd H0 q o):=Av h0
 exact ⟨h.dp,h.nd,s0.trans h.sm,s0.free h.f0,fun a ha=>s0.free (h.fr a ha),h.r,h.b,h.k,h.n,h.d,h.s,h.c⟩
theorem fH (z:Str):inV (.str z) [.str "stop",.str "line"]=true ↔ z = "stop" \/ z = "line":=by
 unfold inV
 simp [Rv]
 constructor
 ·rintro (h | h)
  ·exact .inl h.symm
  ·exact .inr h.symm
 ·rintro (h | h)
  ·exact .inl h.symm
  ·exact .inr h.symm
end
end Og
namespace Og
open PySem L2
noncomputable def ZC (x:V):Prop:=(∃ t,x=.str t) \/ ∃ i,x=.int i
theorem ZC.flat {x:V} (h:ZC x):Fx x=true:=by
 rcases h with ⟨t,rfl⟩ | ⟨i,rfl⟩ <;> rfl
theorem M6 {H:Hp}:∀ {l:List V},(∀ x∈l,ZC x)->Paired (Dp 0 H) l l
 | [],_=>.nil
 | x::l,h=>.cons ⟨rfl,(h x (bv ..)).flat⟩ (M6 fun y hy=>h y (bg _ hy))
theorem Oa {α:Type} {H:Hp} {f:α->List V}:∀ {l:List α} {xs ys:List V},Paired (fun a y=>TupAt H (f a) y) l xs->Paired (fun a y=>TupAt H (f a) y) l ys->(∀ a∈l,∀ x∈f a,ZC x)->Paired (Dp 1 H) xs ys
 | [],_,_,h1,h2,_=>by
  cases h1
  cases h2
  exact .nil
 | a::l,_,_,h1,h2,hp=>by
  cases h1 with
  | cons p q =>
   cases h2 with
   | cons p' q' =>
    obtain ⟨T,rfl,e⟩:=p
    obtain ⟨T',rfl,e'⟩:=p'
    exact .cons (.inr ⟨T,T',_,_,rfl,rfl,.inr ⟨e,e'⟩,M6 (hp a (bv ..))⟩) (Oa q q' fun b hb=>hp b (bg _ hb))
noncomputable def nD (H:Hp) (vs:List V):Prop:=∀ v∈vs,∃ (T:Addr) (xs:List V),v=.ref T/\H T=some (.tup xs)/\∀ x∈xs,ZC x
variable {K:PySem.W.Frag} {aB aP aM:Addr}
noncomputable def Vp (rows:List R):V->R
 | .int i=>(rows[i.toNat]?).getD ⟨"","",[]⟩
 | _=>⟨"","",[]⟩
theorem Gk.parts {rows:List R} {bs:List (Str × Nat)} {rk:List (Str × Nat × Int)} {ks:List R} {ls:List (List Ln)} {sts:List Nat} (h:Gk K aB aP aM rows bs rk ks ls sts):∀ r∈rows,∀ x∈r.v,ZC x:=by
 have em:((List.range rows.length).map fun i:Nat=>V.int (i:Int)).map (Vp rows)=rows:=by
  rw [bX]
  refine iE fun i=>?_
  rw [bo]
  by_cases hi:i<rows.length
  ·rw [List.getElem?_range hi,ae hi]
   show some (Vp rows (V.int (i:Int)))=_
   show some ((rows[((i:Nat):Int).toNat]?).getD ⟨"","",[]⟩)=_
   rw [eD,ae hi]
   rfl
  ·rw [eT (by rw [gX]; omega),eT (by omega)]
   rfl
 have O:=h.ok (Vp rows) _ em
 intro r hr
 rw [← em] at hr
 obtain ⟨v,hv,rfl⟩:=aS.mp hr
 obtain ⟨i,hi,e⟩:=dc hv
 have ok:=O.ok i v (by rw [ae hi,e])
 generalize Vp rows v=r at ok ⊢
 intro x hx
 rcases List.mem_cons.mp (show x∈V.str r.w::(V.str r.nm::r.rest) from hx) with rfl | hx
 ·exact .inl ⟨_,rfl⟩
 rcases ok with ok | ok
 ·obtain ⟨ap,ps,_,_,hlen,_,hps⟩:=ok.parts
  obtain ⟨j,hj,e⟩:=dc hx
  have hp:=hps j x ps[j] (by rw [ae hj,e]) (ae (by omega))
  rcases hp with ⟨i,_,_,_,rfl,_⟩ | hp
  ·exact .inr ⟨_,rfl⟩
  ·rcases hp with ⟨_,_,t,rfl,_⟩ | ⟨_,_,t,rfl,_⟩
   ·exact .inl ⟨t,rfl⟩
   ·exact .inl ⟨t,rfl⟩
 ·obtain ⟨ts,ets,_⟩:=ok.ts
  rw [ets] at hx
  obtain ⟨t,_,rfl⟩:=aS.mp hx
  exact .inl ⟨t,rfl⟩
end Og
namespace L2
open PySem PySem.Spec PyProof.Rows
section
variable {X:Cx}
end
end L2
namespace L2
open PySem PySem.Spec PySem.Calls PySem.Builtin PySem.Builtin.Str PyProof.Rows
section
variable {X:Cx}
end
end L2
namespace Og
open PySem L2
noncomputable def Tx (t:Str):Prop:=t.length<=1000/\∀ c∈t.cps.toList,c<128
theorem isNm.tx {t:Str} (h:isNm t):Tx t:=⟨by have:=h.2.1; omega,fun c hc=>by have:=h.2.2 c hc; omega⟩
inductive DK (H:Hp):V->Prop where
 | non:DK H .non
 | bl (b:Bool):DK H (.bl b)
 | int (i:Int):DK H (.int i)
 | lst {a:Addr} {xs:List V} (h:H a=some (.lst xs)):DK H (.ref a)
 | tup {a:Addr} {xs:List V} (h:H a=some (.tup xs)):DK H (.ref a)
 | str {t:Str} (h:Tx t):DK H (.str t)
theorem DK.mono {H H':Hp} {v:V} (s:Am H H') (h:DK H v):DK H' v:=by
 cases h with
 | non=>exact .non
 | bl b=>exact .bl b
 | int i=>exact .int i
 | lst h=>exact .lst (s _ _ h)
 | tup h=>exact .tup (s _ _ h)
 | str h=>exact .str h
end Og
namespace Og
open PySem L2
noncomputable def Qq (K:PySem.W.Frag) (C:Addr):Bool:=(PySem.W.findIn K (.ref C) "__getattribute__" == some (some (.builtin "BaseException.__getattribute__"))) && (PySem.W.findIn K (.ref C) "__getattr__" == some none) &&
 (PySem.W.mroIn K C (.type "BaseException") == some true) && PySem.W.hasDictIn K C && (PySem.W.findIn K (.ref C) "__class__" == some (some (.builtin "object.__class__"))) &&
 (PySem.W.specialIn K (.builtin "object.__class__") "__get__" == some (some (.builtin "getset_descriptor.__get__"))) && (PySem.W.takesIn K (.builtin "object.__class__") == some true) && (PySem.W.mroIn K C (.type "object") == some true) && PySem.W.keepIn K (.ref C)
theorem Oe {K:PySem.W.Frag} {C:Addr} (h:Qq K C=true):Hs K C/\PySem.W.keepIn K (.ref C)=true:=by
 simp only [Qq,Bool.and_eq_true,beq_iff_eq] at h
 obtain ⟨⟨⟨⟨⟨⟨⟨⟨h1,h2⟩,h3⟩,h4⟩,h5⟩,h6⟩,h7⟩,h8⟩,h9⟩:=h
 exact ⟨⟨h1,h2,h3,h4,h5,h6,h7,h8⟩,h9⟩
noncomputable def j_ (K:PySem.W.Frag) (C cO:Addr) (ds:List Addr):Bool :=
 Qq K C && (PySem.W.kitOne K (.ref C) (.ref C) == some true) && (PySem.W.kitOne K (.ref C) (.type "ValueError") == some true) && (PySem.W.kitAny K (.ref C) (ds.map Value.ref) == some false) && (ds.all fun D=>PySem.W.kitOne K (.ref C) (.ref D) == some false) &&
 PySem.W.excIn K C R0 "ValueError.__new__" && (PySem.W.mroIn K C (.ref cO) == some true)
structure Rc (K:PySem.W.Frag) (C cO:Addr) (ds:List Addr):Prop where
 xc:Hs K C
 kp:PySem.W.keepIn K (.ref C)=true
 k0:PySem.W.kitOne K (.ref C) (.ref C)=some true
 kv:PySem.W.kitOne K (.ref C) (.type "ValueError")=some true
 ka:PySem.W.kitAny K (.ref C) (ds.map Value.ref)=some false
 kf:∀ D∈ds,PySem.W.kitOne K (.ref C) (.ref D)=some false
 ex:PySem.W.excIn K C R0 "ValueError.__new__" = true
 mro:PySem.W.mroIn K C (.ref cO)=some true
noncomputable abbrev YJ:List Str:=["__init__","draw","pull","push","store","press","cancel","shoe","drawn","knobs","step"]
structure Zh (Cy:Addr) (H:Hp) (y x:Addr) (dr sh:Nat) (sd:Addr):Prop where
 ex:∃ dy fs,H y=some (.ins Cy dy fs)/\fs.lookup ("organ" : Str)=some (.ref x)/\fs.lookup ("drawn_set" : Str)=some (.int (dr:Nat))/\fs.lookup ("shoe_step" : Str)=some (.int (sh:Nat))/\fs.lookup ("stored" : Str)=some (.ref sd)/\fs.length<=4/\∀ m∈YJ,fs.lookup m=none
structure mJ (C Cy:Addr) (Ho H:Hp) (y x:Addr) (us:List V) (bs:List (Str × Nat)) (rk:List (Str × Nat × Int)) (ks:List R) (ls:List (List Ln)) (sts:List Nat) (dr sh:Nat) (sd:Addr):Prop where
 o:Sw C Ho x us bs rk ks ls sts
 s:Am Ho H
 n:Ho y=none
 c:Zh Cy H y x dr sh sd
end Og
namespace L2
open PySem PySem.Spec PySem.Calls PyProof.Rows
noncomputable def G3 (x C:Addr) (od:Option Addr):HO:=.ext fun h=>∃ (vs:Array Value) (sl:Array (Option Value)),h.get? x=some ⟨.ref C,od,.fields vs,sl⟩/\vs[1]? = some .none
section
variable {P:Program} {w:World} {H:Hp} {h:Heap} {x C:Addr} {od:Option Addr}
theorem Qe {vs:Array Value} {sl:Array (Option Value)} (e:h.get? x=some ⟨.ref C,od,.fields vs,sl⟩) (n:vs[1]? = some .none):By P w H h x (G3 x C od) :=
 ⟨⟨vs,sl,e,n⟩,⟨_,e⟩,fun _ _ ⟨d,sl,e,n⟩ k=>⟨d,sl,k _ e,n⟩⟩
end
section
variable {X:Cx} {pins:List (Addr × Obj)} {σ:St} {H:Hp} {s:Shared} {h':Heap} {x C dx:Addr} {f:Str} {y:V} {u:Value}
theorem Inv.cG {t':Nat} {vs:Array Value} {sl:Array (Option Value)} (I:Inv X pins σ H s) (e:H x=some (G3 x C none)) (hd:s.heap.objs.size=dx) (hn:h'.Ns1 dx (fun z=>if z=f then some u else none)) (hx:h'.get? x=some ⟨.ref C,some dx,.fields vs,sl⟩) (nc:vs[1]? = some .none)
  (hk:∀ b o,b ≠ x->s.heap.get? b=some o->h'.get? b=some o) (ry:RelV y u):Inv X pins σ (upd (upd H dx (VF dx [(f,y)])) x (G3 x C (some dx))) { s with heap:=h',toks:=t' }:=by
 have hdn:H dx=none:=I.hok.fresh (Nat.le_of_eq hd)
 have hdx:dx ≠ x:=fun z=>by rw [z,e] at hdn; cases hdn
 have nx:∀ b,H b=none->b ≠ x:=fun b n z=>by rw [z,e] at n; cases n
 have nd:∀ b o,s.heap.get? b=some o->b ≠ dx:=fun b o q z=>by
  have:=Heap.lt_size q
  rw [z,← hd] at this
  exact et _ this
 have ndH:∀ b o,H b=some o->b ≠ dx:=fun b o q=>Ao q hdn
 have nxH:∀ b o,H b=some o->o ≠ G3 x C none->b ≠ x:=fun b o q ne z=>by rw [z,e] at q; exact ne (Option.some.inj q).symm
 have oth:∀ b,b ≠ x->b ≠ dx->upd (upd H dx (VF dx [(f,y)])) x (G3 x C (some dx)) b=H b:=fun b h1 h2=>by rw [Aq h1,Aq h2]
 refine I.un ⟨fun b o q n _ _=>hk b o (nx b n) q,fun b o q n _ _=>⟨o.slots,hk b o (nx b n) q⟩,fun b o q n _=>by rw [oth b (nx b n) (nd b o q)]; exact n,fun b o q _=>?_,fun b xs q=>?_,fun b o u q=>?_,fun b ps q=>⟨#[],?_⟩⟩ fun b o q=>?_
 ·by_cases hb:b=x
  ·subst hb; exact ⟨_,hx⟩
  ·exact ⟨o,hk b o hb q⟩
 ·rw [oth b (nxH b _ q (by intro z; cases z)) (ndH b _ q)]; exact q
 ·rw [oth b (nxH b _ q (by intro z; cases z)) (ndH b _ q)]; exact q
 ·rw [oth b (nxH b _ q (by intro z; cases z)) (ndH b _ q),q]; simp
 ·by_cases hb:b=x
  ·subst hb; rw [Af] at q; cases q; exact Qe hx nc
  ·rw [Aq hb] at q
   by_cases hb2:b=dx
   ·subst hb2
    rw [Af] at q
    cases q
    refine Yu hn fun g=>?_
    show GP (List.lookup g [(f,y)]) (if g=f then some u else none)
    by_cases hg:g=f
    ·subst hg
     simp only [List.lookup,beq_self_eq_true,if_true]
     exact ry
    ·have hg':(g == f)=false:=beq_eq_false_iff_ne.mpr hg
     simp only [List.lookup,hg',if_neg hg]
     exact True.intro
   ·rw [Aq hb2] at q
    have own:∀ c,H c=some (.own b)->c ≠ x:=fun c qc=>nxH c _ qc (by intro z; cases z)
    refine (I.hok b o q).stay (fun c v hc qc=>hk c v ?_ qc) (fun c qc=>by rw [oth c (own c qc) (ndH c _ qc)]; exact qc) fun c xs qc=>by rw [oth c (nxH c _ qc (by intro z; cases z)) (ndH c _ qc)]; exact qc
    rcases hc with z | z
    ·rw [z]; exact hb
    ·exact own c z
end
section
variable {X:Cx} {o value:Expr} {f:Str} {pos pos':Pos} {ta tv:TE}
noncomputable def Yo (K:PySem.W.Frag) (ta tv:TE) (f:Str):TS:=fun D σ H=>tv σ H fun y H1=>ta σ H1 fun z H2=>∃ x C,z=.ref x/\H2 x=some (G3 x C none)/\Hs K C/\Xd K C/\DP K C f /\
 ∀ dx,H2 dx=none->dx ≠ x->D.nx σ (upd (upd H2 dx (VF dx [(f,y)])) x (G3 x C (some dx)))
theorem Uh (ha:PE X o ta) (hv:PE X value tv) (hs:swapsWith value (some (.Attribute o f pos')) pos.line X.env=pure false):PS X (.Assign [.Attribute o f pos'] value pos) (Yo X.K ta tv f):=by
 intro pins s σ H D I h
 refine plainObj_wpAny_Assign_Attribute (Ci (hv pins s σ H _ I h) fun u s1 ⟨y,H1,I1,ry,q⟩=>Ci (ha pins s1 σ H1 _ I1 q) fun ov s2 ⟨z,H2,I2,rz,x,C,ez,ea,c,S,n,q2⟩=>?_) hs
 subst ez
 obtain rfl:ov=Value.ref x:=rz
 obtain ⟨⟨vs,sl,e1,nc⟩,_,_⟩:=(show By X.prog X.w H2 s2.heap x (G3 x C none) from I2.hok x _ ea)
 have J:PySem.W.InstAt s2.heap x ⟨.ref C,none,.fields vs,sl⟩ C none:=⟨e1,rfl,rfl,trivial⟩
 refine PySem.W.set_plain I2.GR J S.sa (WX (s:={ s2 with toks:=s2.toks+1 }) I2.GR e1 rfl c S n fun h' tk' hn hx hk=>?_)
 have I3:=I2.cG (t':=tk') (f:=f) (y:=y) (u:=u) ea rfl hn hx nc hk ry
 have hdn:H2 s2.heap.objs.size=none:=I2.hok.fresh (am _)
 have hdx:s2.heap.objs.size ≠ x:=fun z=>by rw [z,ea] at hdn; cases hdn
 exact ⟨σ,_,I3,q2 _ hdn hdx⟩
end
noncomputable def VG (K:PySem.W.Frag) (C:Addr) (f:Str):Sp:=fun vs H Q _=>∃ x v,vs=[.ref x,v]/\H x=some (G3 x C none)/\∀ dx,H dx=none->dx ≠ x->Q .non (upd (upd H dx (VF dx [(f,v)])) x (G3 x C (some dx)))
noncomputable def del (H:Hp) (x:Addr):Hp:=fun b=>if b=x then none else H b
theorem JV {H:Hp} {x b:Addr} (h:b ≠ x):del H x b=H b:=if_neg h
theorem JF {H:Hp} {x:Addr}:del H x x=none:=if_pos rfl
noncomputable def W4 (X:Cx) (C:Addr) (E:XK):Prop:=∀ (pins:List (Addr × Obj)) (σ:St) (H1 H3:Hp) (s1 s3:Shared) (x dx:Addr),Inv X pins σ H1 s1->s1.heap.get? x=none->Inv X pins σ H3 s3->H3 x=some (G3 x C (some dx))->E (.ref C) (some dx) (del H3 x)->X.xe (.ref x) s3
theorem Ke {P:Program} {w:World} {K:PySem.W.Frag} {mg:Str->Option Value} {base:Heap} {N:List Str} {qual:Str} {scope:Scope} {f:Addr} {cd:Value} {A:Around} {outer:List Env} {s:Shared} {H:Hp} {E:XK} {C:Addr} :
  W4 (J5 (Rz P w) P w K mg base N qual scope f cd A outer s H E) C E:=by
 intro pins σ H1 H3 s1 s3 x dx I1 hx1 I hx3 q
 have gone:∀ b,s1.heap.get? b=none->s.heap.get? b=none:=fun b e=>by
  cases z:s.heap.get? b with
  | none=>rfl
  | some o =>
   obtain ⟨o',e'⟩:=I1.base.there b o z (by show b ∉ ([]:List Addr); simp)
   rw [e] at e'; cases e'
 have hxs:s.heap.get? x=none:=gone x hx1
 obtain ⟨⟨vs,sl,he,hv⟩,_,_⟩:=(show By P w H3 s3.heap x (G3 x C (some dx)) from I.hok x _ hx3)
 have frees:∀ b∈frs (envOfC qual scope s.heap.objs.size f cd::outer),del H3 x b=none:=fun b hb=>by
  by_cases hbx:b=x
  ·rw [hbx]; exact JF
  ·rw [JV hbx]; exact I.HH b hb
 have hfr:(A.deeper (envOfC qual scope s.heap.objs.size f cd)).frames=some (envOfC qual scope s.heap.objs.size f cd::outer):=I.ok.frames
 have hff:s3.heap.FunFrames base (envOfC qual scope s.heap.objs.size f cd::outer):=I.stack
 have nT:∀ b o,H3 b=some o->(∀ z,o ≠ G3 z C (some dx))->del H3 x b=some o:=fun b o e n=>by
  by_cases hbx:b=x
  ·rw [hbx,hx3] at e
   exact absurd (Option.some.inj e).symm (n x)
  ·rw [JV hbx]; exact e
 have hok1:FN P w (del H3 x) s3.heap:=fun b o e=>by
  by_cases hbx:b=x
  ·rw [hbx,JF] at e; cases e
  rw [JV hbx] at e
  exact (I.hok b o e).stay (fun c v _ q=>q) (fun c qc=>nT c _ qc (fun z=>by intro q; cases q)) fun c xs qc=>nT c _ qc (fun z=>by intro q; cases q)
 have u00:Un (frs outer) [] H H3 s.heap s3.heap:=I.base
 have u0:Un (frs outer) [] H (del H3 x) s.heap s3.heap:=by
  refine ⟨u00.keep,u00.slot,fun b o e n hb=>?_,u00.there,fun b xs e=>?_,fun b o u e=>?_,fun b ps e=>?_⟩
  ·by_cases hbx:b=x
   ·rw [hbx]; exact JF
   ·rw [JV hbx]; exact u00.free b o e n hb
  ·exact nT b _ (u00.tups b xs e) (fun z=>by intro q; cases q)
  ·exact nT b _ (u00.frzs b o u e) (fun z=>by intro q; cases q)
  ·obtain ⟨more,e1⟩:=u00.tbls b ps e
   exact ⟨more,nT b _ e1 (fun z=>by intro q; cases q)⟩
 have fsN:∀ b∈frs (envOfC qual scope s.heap.objs.size f cd::outer),b ∉ frs outer->s.heap.get? b=none:=fun b hb hn=>by
  rcases List.mem_cons.mp (show b∈s.heap.objs.size::frs outer from hb) with z | z
  ·rw [z]; exact Heap.get?_none_of_le (am _)
  ·exact absurd z hn
 have hx0:del H3 x x=none:=JF
 show wpAny (model P w) (A.deeper (envOfC qual scope s.heap.objs.size f cd)) (leaving (envOfC qual scope s.heap.objs.size f cd) (.ref x)) _ _ _
 unfold leaving
 refine wpAny_bind (Ow (s:=s3) (L:=s.heap.objs.size) hfr hff rfl he hv fun h2 T y m n=>?_)
 refine Fv (s:={ s3 with heap:=h2 }) y fun h3 y3 m3=>?_
 have nT3:s.heap.get? T=none:=by
  cases z:s.heap.get? T with
  | none=>rfl
  | some o =>
   obtain ⟨o',e'⟩:=u0.there T o z (by simp)
   have n3':s3.heap.get? T=none:=n
   rw [n3'] at e'; cases e'
 have hT1:del H3 x T=none:=hok1.none_of n
 have hokB:FN P w (del H3 x) h2:=hok1.mv m hx0 hx0 frees
 have hokC:FN P w (del H3 x) h3:=hokB.mv m3 hx0 hT1 (fun _ z=>nomatch z)
 have uB:Un (frs outer) [] H (del H3 x) s.heap h2:=u0.mv m hxs hxs fsN
 have uC:Un (frs outer) [] H (del H3 x) s.heap h3:=uB.mv m3 hxs nT3 (fun _ z=>nomatch z)
 exact ⟨x,T,C,some dx,del H3 x,rfl,I.os,I.bare,y3,hxs,nT3,hx0,hT1,hokC,uC,q⟩
section
variable {X:Cx} {C f:Addr} {fd:FuncData} {ps:List Str} {k:Nat} {fn x:Str} {e:Expr} {t:TA} {np cpos pos:Pos} {E:XK}
noncomputable def VN (C:Addr) (fn:Str) (E:XK) (t:TA):TS:=fun _ σ H=>t σ H fun vs H1=>∃ v,vs=[v]/\∀ dx H4,H1 dx=none->Am H1 H4->H4 dx=some (VF dx [(fn,v)])->E (.ref C) (some dx) H4
theorem Gm {M:Model} {A:Around} {E:Value->Shared->Prop} {env:Env} {nm q:Str} {C N:Addr} {bs bm:List Value} {hdct:Bool} {sn:List Str} {sub:List Value} {ab:Bool} {col:Option Bool} {dd:Option Addr} {k0 k1 k2 k3 k5:Option Value} {newId:String} {s:Shared} {x:Sem Value} {Q:Flow->Shared->Prop} (hbase:bm.contains (.type "BaseException")=true) (hh:A.handled=none)
  (h:wpAny M A x (fun v s₁=>∃ e od vs sl,v=.ref e/\s₁.heap.get? C=some (excClassObj nm q C N bs bm hdct sn sub ab col dd k0 k1 k2 k3 k5 newId) /\
   s₁.heap.get? e=some ⟨.ref C,od,.fields vs,sl⟩/\vs[1]? = some .none/\E (.ref e) s₁) E s) :
  wpAny M A (raiseStmt env (some x) none) Q E s:=by
 have hcB:(Value.ref C::bm).contains (.type "BaseException")=true:=by rw [List.contains_cons,hbase,Bool.or_true]
 unfold raiseStmt
 refine wpAny_bind (wpAny_mono h (fun v s₁ h₁=>?_) fun _ _ x=>x)
 obtain ⟨e,od,vs,sl,rfl,hC,he,hv1,hE⟩:=h₁
 obtain ⟨hp,g,d,tk,os⟩:=s₁
 repeat (first | with_reducible refine wpAny_loadPart_at he ?_ | with_reducible refine wpAny_loadPart_at hC ?_ | (with_reducible refine wpAny_isSubtype_exc hC ?_; rw [hcB]) | wp_step)
 rw [hv1]
 refine wpAny_pure ?_
 rw [if_neg (by decide)]
 exact wpAny_pure (wpAny_raiseNew_none hh hE)
theorem Jr {prog:Program} {w:World} {A:Around} {E:Value->Shared->Prop} {s:Shared} {env:Env} {nm q:Str} {C N:Addr} {bs bm:List Value} {hdct:Bool} {sn:List Str} {sub:List Value} {ab:Bool} {col:Option Bool} {dd:Option Addr} {k0 k1 k2 k3 k5:Option Value} {newId:String} {e:Expr} {pos:Pos} {Q:Flow->Shared->Prop} (hbase:bm.contains (.type "BaseException")=true) (hh:A.handled=none)
  (h:wpAny (model prog w) A (eval e env) (fun v s₁=>∃ x od vs sl,v=.ref x/\s₁.heap.get? C=some (excClassObj nm q C N bs bm hdct sn sub ab col dd k0 k1 k2 k3 k5 newId) /\
   s₁.heap.get? x=some ⟨.ref C,od,.fields vs,sl⟩/\vs[1]? = some .none/\E (.ref x) s₁) E s) :
  wpAny (model prog w) A (exec (.Raise (some e) none pos) env) Q E s:=by
 rw [arm_exec_Raise]
 first
  | exact wpAny_bind (wpAny_standAt (Gm hbase hh (wpAny_bind (wpAny_mono h (fun v s₃ h₃=>wpAny_bind (wpAny_standAt (wpAny_pure h₃))) fun _ _ x=>x))))
  | (simp only [evalOpt,Option.map]; exact wpAny_bind (wpAny_standAt (Gm hbase hh (wpAny_bind (wpAny_mono h (fun v s₃ h₃=>wpAny_bind (wpAny_standAt (wpAny_pure h₃))) fun _ _ x=>x)))))
theorem JL (q:IV X.K C=true) (hi:PySem.W.findIn X.K (.ref C) "__init__" = some (some (.ref f))) (hf:PySem.W.typeIn X.K (.ref f)=some (.type "function")) (kp:PySem.W.keepIn X.K (.ref C)=true)
  (F:BW X.prog X.w X.K X.mg X.base Br k f fd ps (VG X.K C fn)) (hr:Bb (k+1) X.A) (hb:Binds X.K fd ps []) (hg:Gl X x) (hm:X.mg x=some (.ref C)) (hc:X.calm=true) (hl:W4 X C E) (ha:PA X [e] t)
  (hdb:(x == ("__debug__" : Str))=false:=by decide) (he:starEach [e] X.env=(false,eval e X.env)::starEach [] X.env:=by rfl) (hpl:(backTo cpos (starEach [] X.env)).any (·.1)=false:=by rfl) :
  PS X (.Raise (some (.Call (.Name x np) [e] [] cpos)) none pos) (VN C fn E t):=by
 intro pins s σ H D I h
 obtain ⟨bm,N,nm,qn,bs,hdct,sn,sub,ab,col,dd,k0,k1,k2,k3,k5,hC0,TL⟩:=Ly I.ok.mod.kin q
 have hbase:bm.contains (.type "BaseException")=true:=TL.hasType (by decide)
 refine Jr (C:=C) (nm:=nm) (q:=qn) (N:=N) (bs:=bs) (bm:=bm) (hdct:=hdct) (sn:=sn) (sub:=sub) (ab:=ab) (col:=col) (dd:=dd) (k0:=k0) (k1:=k1) (k2:=k2) (k3:=k3) (k5:=k5) (newId:="ValueError.__new__") hbase (I.ok.hd hc) ?_
 refine wpAny_Call_Name_kw (Gj I hg hm ?_ hdb)
 refine PySem.W.callWith_K (h₀:=X.base) I.ok.mod.kin kp (Ci (ha cpos pins s σ H _ I h) fun us s1 ⟨vs,H1,I1,r,v,ev,q1⟩=>⟨I1.GR,?_⟩) he hpl
 subst ev
 have hz':us.length<=sizeLine:=by
  rw [← r.length]
  exact Nat.le_of_lt (BP (by show 1<=1000; decide))
 have I2:=I1.laid (a:=s1.heap.objs.size+1) (o:=G3 (s1.heap.objs.size+1) C none) (h':=newX s1.heap C us) (t':=s1.toks) (Hd _ _ _) (gu _) (Qe (Om _ _ _) rfl)
 have hn:H1 (s1.heap.objs.size+1)=none:=I1.hok.fresh (gu _)
 have hx1:s1.heap.get? (s1.heap.objs.size+1)=none:=Heap.get?_none_of_le (gu _)
 have hsp:VG X.K C fn (V.ref (s1.heap.objs.size+1)::[v]) (upd H1 (s1.heap.objs.size+1) (G3 (s1.heap.objs.size+1) C none)) (fun v' H3=>v'=.non/\∃ dx,H3 (s1.heap.objs.size+1)=some (G3 (s1.heap.objs.size+1) C (some dx))/\E (.ref C) (some dx) (del H3 (s1.heap.objs.size+1))) E0:=by
  refine ⟨_,_,rfl,Af,fun dx hdx hne=>⟨rfl,dx,Af,?_⟩⟩
  rw [Aq hne] at hdx
  refine q1 dx _ hdx (fun b o eb=>?_) ?_
  ·have hb1:b ≠ s1.heap.objs.size+1:=Ao eb hn
   have hb2:b ≠ dx:=Ao eb hdx
   rw [JV hb1,Aq hb1,Aq hb2,Aq hb1]
   exact eb
  ·rw [JV hne,Aq hne]
   exact Af
 have r2:Vals (V.ref (s1.heap.objs.size+1)::[v]) (Value.ref (s1.heap.objs.size+1)::us):=.cons rfl r
 have hl2:(Value.ref (s1.heap.objs.size+1)::us++[]).length=ps.length:=by
  have e:=r2.length
  rw [F.len _ _ _ _ hsp] at e
  rw [dQ]
  exact e.symm
 have kin:=I1.GR
 have I1':=I1
 obtain ⟨hh,g,d,tk,os⟩:=s1
 refine wpAny_call (R_ kin q hi hz' (fun self=>PySem.W.bind_fn (kin.keeps (Hd _ _ _)) self hf) fun A' eA=>?_)
 subst eA
 have hbb:=hb _ (Value.ref (hh.objs.size+1)::us) I2.GR hl2
 rw [dQ] at hbb
 refine wpAny_call (codeAny_mono (F.run _ X.stack _ _ ⟨Value.ref (hh.objs.size+1)::us,[]⟩ (Value.ref (hh.objs.size+1)::us) _ _ E0 (hr.make C us []) (I2.env0.make C us []) hbb r2 hsp) fun r s' hq'=>?_)
 cases r with
 | error e=>exact False.elim hq'
 | ok fl =>
  cases fl with
  | ret u =>
   obtain ⟨v',H',I3,rv,ev,dx,g1,g2⟩:=I2.after hq'
   subst ev
   obtain ⟨⟨vs,sl,he,hv⟩,_,_⟩:=(show By X.prog X.w H' s'.heap _ (G3 (hh.objs.size+1) C (some dx)) from I3.hok _ _ g1)
   obtain ⟨bm',N',nm',qn',bs',hdct',sn',sub',ab',col',dd',k0',k1',k2',k3',k5',hC',TL'⟩:=Ly I3.GR q
   refine ⟨rv,_,some dx,vs,sl,rfl,?_,he,hv,hl pins σ _ _ _ _ _ dx I1' hx1 I3 g1 g2⟩
   exact I3.bk _ _ hC0
  | next=>exact False.elim hq'
  | brk=>exact False.elim hq'
  | cont=>exact False.elim hq'
end
section
variable {X:Cx} {ER:XR} {k:Nat} {f C:Addr} {fd:FuncData} {ps:List Str} {sp:Sp} {dvs:List V} {ds:List Value} {x:Str} {p pos:Pos} {e:Expr} {es:List Expr} {t:TA}
theorem Rh {pins:List (Addr × Obj)} {σ:St} {H:Hp} {s:Shared} {Q:VK} {us:List Value} {vs:List V} (M:Mk X.K C f) (F:BW X.prog X.w X.K X.mg X.base (Rz X.prog X.w) k f fd ps sp) (hr:Bb (k+1) X.A) (hb:Binds X.K fd ps ds) (hd:Vals dvs ds)
  (I:Inv X pins σ H s) (r:Vals vs us)
  (h:∀ x dx,H x=none->H dx=none->dx ≠ x->sp (.ref x::(vs++dvs)) (upd (upd H dx (.own x)) x (.ins C dx [])) (fun v H2=>v=.non/\Q (.ref x) H2) (fun C od H2=>ER C od σ H2)) :
  wpAny (model X.prog X.w) X.A (call (.ref C) us) (EP X pins σ Q) (XT X pins ER) s:=by
 have hq:=h (s.heap.objs.size+1) s.heap.objs.size (I.hok.fresh (gu _)) (I.hok.fresh (am _)) (bp (gg _))
 have I2:=Inv.made (C:=C) I
 have r2:Vals (V.ref (s.heap.objs.size+1)::(vs++dvs)) (Value.ref (s.heap.objs.size+1)::(us++ds)):=.cons rfl (r.append hd)
 have hl:(Value.ref (s.heap.objs.size+1)::us++ds).length=ps.length:=by
  have e:=r2.length
  rw [F.len _ _ _ _ hq] at e
  exact e.symm
 refine wpAny_call (M5 (f:=f) I.GR M.makes M.init (beq_iff_eq.mp M.fn) (codeAny_mono (F.run _ X.stack _ _ ⟨Value.ref (s.heap.objs.size+1)::us,[]⟩ (Value.ref (s.heap.objs.size+1)::(us++ds)) _ _ _ (hr.make C us [])
  (I2.env0.make C us []) (hb _ (Value.ref (s.heap.objs.size+1)::us) I2.GR hl) r2 hq) fun r s' hq'=>?_))
 cases r with
 | error e=>exact ⟨σ,_,_,I2,hq'⟩
 | ok fl =>
  cases fl with
  | ret u =>
   obtain ⟨v,H',I3,rv,ev,q3⟩:=I2.after hq'
   subst ev
   exact ⟨rv,⟨V.ref (s.heap.objs.size+1),H',I3,rfl,q3⟩⟩
  | next=>exact False.elim hq'
  | brk=>exact False.elim hq'
  | cont=>exact False.elim hq'
noncomputable def Xq (C:Addr) (sp:Sp) (dvs:List V) (ER:XR) (t:TA):TE:=fun σ H Q=>W9 C sp dvs (fun C od H2=>ER C od σ H2) t σ H Q
theorem Tw (M:Mk X.K C f) (F:BW X.prog X.w X.K X.mg X.base (Rz X.prog X.w) k f fd ps sp) (hr:Bb (k+1) X.A) (hg:Gl X x) (hm:X.mg x=some (.ref C)) (hb:Binds X.K fd ps ds) (hd:Vals dvs ds)
  (ha:PA X (e::es) t) (hxe:X.xe=fun _ _=>False) (hdb:(x == ("__debug__" : Str))=false:=by decide) (he:starEach (e::es) X.env=(false,eval e X.env)::starEach es X.env:=by rfl) (hpl:(backTo pos (starEach es X.env)).any (·.1)=false:=by rfl) :
  PET X ER (.Call (.Name x p) (e::es) [] pos) (Xq C sp dvs ER t):=by
 intro pins s σ H Q I h
 refine wpAny_Call_Name_kw (Gj I hg hm ?_ hdb)
 refine PySem.W.callWith_K (h₀:=X.base) I.ok.mod.kin M.kp (wpAny_mono (ha pos pins s σ H _ I h) (fun us s1 ⟨vs,H1,I1,r,q⟩=>⟨I1.GR,?_⟩) fun e s' z=>?_) he hpl
 ·exact Rh M F hr hb hd I1 r q
 ·rw [hxe] at z
  exact z.elim
end
end L2
namespace Og
open PySem L2
noncomputable def Wu (K:PySem.W.Frag) (C:Addr) (a:Str):Bool:=(PySem.W.findIn K (.ref C) "__setattr__" == some (some (.builtin "object.__setattr__"))) && ((PySem.W.clsIn K C).any fun cd=>(Ih cd.mro == R0) && cd.hasDict) &&
 (PySem.W.findIn K (.ref C) a == some none) && IV K C
noncomputable def Xm (K:PySem.W.Frag) (C cO:Addr) (a:Str) (ds:List Addr):Bool :=
 Qq K C && (PySem.W.kitOne K (.ref C) (.ref C) == some true) && (PySem.W.kitOne K (.ref C) (.type "ValueError") == some true) && (ds.all fun D=>PySem.W.kitOne K (.ref C) (.ref D) == some false) && (PySem.W.mroIn K C (.ref cO) == some true) && Wu K C a
structure fu (K:PySem.W.Frag) (C cO f:Addr) (a:Str) (ds:List Addr):Prop where
 xc:Hs K C
 kp:PySem.W.keepIn K (.ref C)=true
 k0:PySem.W.kitOne K (.ref C) (.ref C)=some true
 kv:PySem.W.kitOne K (.ref C) (.type "ValueError")=some true
 kf:∀ D∈ds,PySem.W.kitOne K (.ref C) (.ref D)=some false
 mro:PySem.W.mroIn K C (.ref cO)=some true
 inI:IV K C=true
 init:PySem.W.findIn K (.ref C) "__init__" = some (some (.ref f))
 fn:PySem.W.typeIn K (.ref f)=some (.type "function")
 set:Xd K C
 na:DP K C a
theorem fu.of {K:PySem.W.Frag} {C cO f:Addr} {a:Str} {ds:List Addr} (h:Xm K C cO a ds=true) (hi:PySem.W.findIn K (.ref C) "__init__" = some (some (.ref f))) (hf:PySem.W.typeIn K (.ref f)=some (.type "function")):fu K C cO f a ds:=by
 unfold Xm Wu at h
 simp only [Bool.and_eq_true,beq_iff_eq,List.all_eq_true] at h
 obtain ⟨⟨⟨⟨⟨a1,a2⟩,a3⟩,a4⟩,a5⟩,⟨⟨b1,b2⟩,b3⟩,b4⟩:=h
 obtain ⟨cd,hc,b5⟩:=PySem.W.any_some b2
 simp only [Bool.and_eq_true,beq_iff_eq] at b5
 exact ⟨(Oe a1).1,(Oe a1).2,a2,a3,a4,a5,b4,hi,hf,⟨b1,cd,hc,b5.1,b5.2⟩,b3⟩
structure aL (K:PySem.W.Frag) (aB aP:Addr) (ρ:V->R) (vs:List V) (r:R):Prop where
 ns:¬ r.w = "step"
 parts:∃ (ap:Addr) (ps:List Str),PySem.W.nsIn K aP r.w=some (some (.ref ap))/\KTup K ap (ps.map V.str)/\(V.str r.nm::r.rest).length=ps.length/\ps.length<=10 /\
  ∀ (i:Nat) x y,(V.str r.nm::r.rest)[i]? = some x->ps[i]? = some y->Dm K aB ρ vs x y
 line:r.w = "line"->MN ρ vs r
 Ua:Dd ρ vs
structure Zy (ρ:V->R) (vs:List V) (r:R):Prop where
 w:r.w = "step"
 ts:∃ ts:List Str,V.str r.nm::r.rest=ts.map V.str/\ts.Nodup/\ts.length<=24/\∀ t∈ts,isNm t/\Hi ρ vs "stop" t=true
noncomputable abbrev a_ (K:PySem.W.Frag) (aB aP:Addr) (ρ:V->R) (vs:List V) (r:R):Prop:=aL K aB aP ρ vs r \/ Zy ρ vs r
structure aV (ρ:V->R) (vs:List V):Prop where
 ex:∃ cnt v,Hn ρ vs cnt/\4<=cnt/\vs[vs.length - 1 - cnt]? = some v/\(ρ v).w = "stop"
structure WL (K:PySem.W.Frag) (aB aP:Addr) (ρ:V->R) (vs:List V) (r:R):Prop where
 w:r.w = "line"
 parts:∃ (ap:Addr) (ps:List Str),PySem.W.nsIn K aP r.w=some (some (.ref ap))/\KTup K ap (ps.map V.str)/\(V.str r.nm::r.rest).length=ps.length/\ps.length<=10 /\
  ∀ (i:Nat) x y,(V.str r.nm::r.rest)[i]? = some x->ps[i]? = some y->Dm K aB ρ vs x y
 full:aV ρ vs
 Ua:Dd ρ vs
noncomputable abbrev QW (K:PySem.W.Frag) (aM:Addr) (ρ:V->R) (vs:List V) (w:Str) (b:Bool):Prop:=(b=true/\PySem.W.nsIn K aM w=some none) \/ ∃ (m:Int) (t:Tok),PySem.W.nsIn K aM w=some (some (.int m t))/\b=decide ((((vs.filter (pw ρ w)).length:Nat):Int)<m)
noncomputable abbrev Yj (K:PySem.W.Frag) (aB aP aM:Addr) (ρ:V->R) (vs:List V) (r:R) (b:Bool):Prop:=(b=false/\WL K aB aP ρ vs r) \/ (a_ K aB aP ρ vs r/\QW K aM ρ vs r.w b)
inductive Xa (K:PySem.W.Frag) (aB aP aM:Addr) (H:Hp) (p:Addr):V->Prop where
 | long {us:List V} (h:H p=some (.lst us)) (hl:us.length=0 \/ 150<us.length) (hs:us.length<=1000):Xa K aB aP aM H p .non
 | row {us:List V} {ρ:V->R} {k:Nat} (h:H p=some (.lst us)) (hl:us.length<=150) (hR:Rows H ρ (us.take (k+1))) (ok:∀ (i:Nat) v,i<k->us[i]? = some v->Yj K aB aP aM ρ (us.take i) (ρ v) true)
  {v:V} (hv:us[k]? = some v) (bad:Yj K aB aP aM ρ (us.take k) (ρ v) false):Xa K aB aP aM H p (.int (k:Nat))
section
variable {K:PySem.W.Frag} {aB aP aM:Addr} {ρ:V->R} {vs:List V} {wn:List (Str × Str)} {t:Str} {rows:List R} {bs:List (Str × Nat)} {rk:List (Str × Nat × Int)} {ks:List R} {ls:List (List Ln)} {sts:List Nat}
noncomputable abbrev il (K:PySem.W.Frag) (aB aP aM:Addr) (rows:List R) (r:R):Prop:=∀ (ρ:V->R) (us:List V),us.map ρ=rows->Yj K aB aP aM ρ us r false
end
end Og
namespace L2
open PySem PySem.Spec PyProof.Rows
section
variable {X:Cx} {o e f:Expr} {apos cpos:Pos} {td ty tx:TE}
end
end L2
namespace L2
open PySem PySem.Spec PyProof.Rows
theorem CJ {X:Cx} {x:Str} {e:Expr} {te:TE} {pos' pos:Pos} (i:Nat) (hN:X.N.Nodup) (hi:X.N[i]? = some x) (hx:Loc X.env.scope x) (he:PE X e te) (hs:swapsWith e (some (.Name x pos')) pos.line X.env=pure false) (hf:X.fn x=true \/ X.env.scope.names.lookup x=some .local) :
  PS X (.Assign [.Name x pos'] e pos) (Yw te (Df i)):=Bj hN hi hx he hs hf
end L2
namespace L2
open PySem PySem.Spec PyProof.Rows
theorem Ar {X:Cx} {e:Expr} {es:List Expr} {te:TE} {t:TA} (h:starEach (e::es) X.env=(false,eval e X.env)::starEach es X.env) (he:PE X e te) (ht:PA X es t):PA X (e::es) (Wy te t):=Aa he ht h
end L2
namespace L2
open PySem PySem.Spec PyProof.Rows
end L2
namespace L2
open PySem PySem.Spec PySem.Calls PyProof.Rows
section
variable {X:Cx}
end
end L2
namespace L2
open PySem PySem.Spec PySem.Calls PyProof.Rows
section
variable {X:Cx}
theorem Sd (hu:X.A.units<cLine):Gn X (compareOp .NotEq) (fun x y H Q=>∃ p q xs,x=V.ref p/\y=V.ref q/\Dh X.K H p xs/\Dh X.K H q []/\Q (.bl (!xs.isEmpty)) H):=by
 intro pins s σ H x y v u Q I rx ry h
 obtain ⟨p,q,xs,rfl,rfl,hp,hq,k⟩:=h
 cases rx
 cases ry
 obtain ⟨its,r,pl,hz⟩:=I.list hp
 obtain ⟨its2,r2,pl2,hz2⟩:=I.list hq
 have l1:=r.length
 cases r2
 cases xs with
 | nil =>
  cases r
  refine SeqAt.RcNeAt.lists (e:=fun _=>true) pl.isList pl2.isList rfl hu (fun j h1 h2=>?_) _ _ _ _ ⟨.bl _,H,I,rfl,k⟩
  exact absurd h1 (fR _)
 | cons a b =>
  refine SeqAt.RcNeAt.lists_lengths pl.isList pl2.isList (by simp; intro z; rw [z] at l1; simp at l1) hu _ _ _ _ ⟨.bl _,H,I,rfl,k⟩
end
end L2
namespace L2
open PySem PySem.Spec PyProof.Rows
end L2
namespace L2
open PySem PySem.Spec PyProof.Rows
section
variable {X:Cx} {pins:List (Addr × Obj)} {σ:St} {H:Hp} {s:Shared} {x z:Str} {scope:Scope} {fp:List Addr} {C:Addr}
end
section
variable {X:Cx} {x z:Str} {scope:Scope}
end
section
variable {X:Cx} {x z:Str} {scope:Scope}
end
end L2
namespace L2
open PySem PySem.Spec PySem.Calls PyProof.Rows
theorem Lp {X:Cx} (hu:X.A.units<cLine):Gn X (compareOp .Eq) (fun x y H Q=>∃ p q xs,x=V.ref p/\y=V.ref q/\Dh X.K H p xs/\Dh X.K H q []/\Q (.bl xs.isEmpty) H):=by
 intro pins s σ H x y v u Q I rx ry h
 obtain ⟨p,q,xs,rfl,rfl,hp,hq,k⟩:=h
 cases rx
 cases ry
 obtain ⟨its,r,pl,hz⟩:=I.list hp
 obtain ⟨its2,r2,pl2,hz2⟩:=I.list hq
 have l1:=r.length
 cases r2
 cases xs with
 | nil =>
  cases r
  refine SeqAt.RcAt.lists (e:=fun _=>true) pl.isList pl2.isList rfl hu (fun j h1 h2=>?_) _ _ _ _ ⟨.bl _,H,I,rfl,k⟩
  exact absurd h1 (fR _)
 | cons a b =>
  refine SeqAt.RcAt.lists_lengths pl.isList pl2.isList (by simp; intro z; rw [z] at l1; simp at l1) hu _ _ _ _ ⟨.bl _,H,I,rfl,k⟩
end L2
section PartK10a
set_option maxHeartbeats 4000000
namespace K10
open PySem L2 Og
noncomputable def top (i:Nat):Stmt:=PySem.Challenge.pw_windchest_k10_rows_refused.main.body.getD i (.Pass ⟨0,0,0,0⟩)
noncomputable abbrev iB:Stmt:=top 21
noncomputable abbrev Z1:Stmt:=top 22
noncomputable abbrev gW:Stmt:=top 23
noncomputable abbrev fL:Stmt:=top 31
noncomputable abbrev Za:Stmt:=top 32
noncomputable abbrev jy:Stmt:=top 33
noncomputable abbrev di:Stmt:=top 34
noncomputable abbrev dW:Stmt:=top 35
noncomputable abbrev gD:Stmt:=top 36
noncomputable abbrev fV:Stmt:=top 37
noncomputable abbrev iQ:Stmt:=top 38
noncomputable abbrev ak:Stmt:=top 39
noncomputable abbrev gP:Stmt:=top 40
noncomputable abbrev jQ:Stmt:=top 41
noncomputable abbrev jj:Stmt:=top 42
noncomputable abbrev i_:Stmt:=top 43
noncomputable abbrev iY:Stmt:=top 50
noncomputable abbrev fY:Stmt:=top 51
noncomputable abbrev jr:Stmt:=top 52
noncomputable abbrev fQ:Stmt:=top 53
noncomputable abbrev iT:Stmt:=top 46
noncomputable abbrev fc:Stmt:=top 47
noncomputable abbrev gj:Stmt:=top 56
noncomputable abbrev jR:Stmt:=top 57
noncomputable abbrev jT:Stmt:=top 58
noncomputable abbrev jc:Stmt:=top 59
noncomputable abbrev jF:Stmt:=top 60
noncomputable abbrev fG:Stmt:=top 61
noncomputable abbrev jW:Stmt:=top 62
noncomputable abbrev ik:Stmt:=top 63
noncomputable abbrev jD:Stmt:=top 64
noncomputable abbrev iM:Stmt:=top 65
noncomputable abbrev ig:Stmt:=top 66
noncomputable abbrev cX:Stmt:=top 67
noncomputable abbrev jG:Stmt:=top 68
noncomputable abbrev jq:Stmt:=top 69
noncomputable abbrev g_:Stmt:=top 70
noncomputable abbrev gZ:Stmt:=top 71
noncomputable abbrev iU:Stmt:=top 72
noncomputable abbrev jM:Stmt:=top 73
noncomputable abbrev ZS:Stmt:=top 74
noncomputable abbrev fJ:Stmt:=top 75
noncomputable abbrev jl:Stmt:=top 76
noncomputable abbrev jV:Stmt:=top 77
noncomputable abbrev fP:Stmt:=top 78
noncomputable abbrev Um:Stmt:=inClass (top 54) 0
noncomputable abbrev km:Stmt:=inClass (top 54) 2
noncomputable abbrev kW:Stmt:=inClass (top 54) 13
noncomputable abbrev l_:Stmt:=inClass (top 54) 15
noncomputable abbrev jd:Stmt:=inClass (top 54) 1
noncomputable abbrev j6:Stmt:=inClass (top 54) 3
noncomputable abbrev lF:Stmt:=inClass (top 54) 14
noncomputable abbrev j8:Stmt:=inClass (top 54) 16
noncomputable abbrev kJ:Stmt:=inClass (top 54) 17
noncomputable abbrev lD:Stmt:=inClass (top 54) 4
noncomputable abbrev ir:Stmt:=inClass (top 16) 0
noncomputable abbrev MT:Stmt:=top 79
structure Txt (K:PySem.W.Frag) (P:Params) (mg:Str->Option Value) (C cN cO c0 c1 c2 c3 c4 c5 c6 c7 c8 c9 c10 c11 c12 c13 aN aK aB aP aM:Addr):Prop where
 len:mg "len" = none
 isin:mg "isinstance" = none
 int:mg "int" = none
 bool:mg "bool" = none
 str:mg "str" = none
 list:mg "list" = none
 tuple:mg "tuple" = none
 all:mg "all" = none
 any:mg "any" = none
 sum:mg "sum" = none
 range:mg "range" = none
 zip:mg "zip" = none
 enumerate:mg "enumerate" = none
 max:mg "max" = none
 reversed:mg "reversed" = none
 set:mg "set" = none
 letters:∃ t,mg "LETTERS" = some (.str letters t)
 mostL:∃ t,mg "MOST_LETTERS" = some (.int 8 t)
 mostR:∃ t,mg "MOST_ROWS" = some (.int 150 t)
 mostLn:∃ t,mg "MOST_LINES" = some (.int 4 t)
 below:∃ t,mg "MEMBERS_BELOW" = some (.int 1200 t)
 mN:mg "NAMED" = some (.ref aN)
 mK:mg "KNOBS" = some (.ref aK)
 mB:mg "BOUNDS" = some (.ref aB)
 mP:mg "PARTS" = some (.ref aP)
 mM:mg "MOST_OF" = some (.ref aM)
 tN:KTup K aN (named.map V.str)
 tK:KTup K aK [.str "stop",.str "coupler",.str "mute"]
 dB:KDict K P aB
 dP:KDict K P aP
 dM:KDict K P aM
 cl:VD K C
 mC:mg "Organ" = some (.ref C)
 verr:mg "ValueError" = none
 mNO:mg "NoOrgan" = some (.ref cN)
 mx0:mg "NoSet" = some (.ref c0)
 mx1:mg "NoNumber" = some (.ref c1)
 mx2:mg "NoKnob" = some (.ref c2)
 mx3:mg "NoPiston" = some (.ref c3)
 mx4:mg "NoBoard" = some (.ref c4)
 mx5:mg "NoKey" = some (.ref c5)
 mx6:mg "NotHeld" = some (.ref c6)
 mx7:mg "NoStep" = some (.ref c7)
 mx8:mg "NoDeed" = some (.ref c8)
 mx9:mg "NoRoll" = some (.ref c9)
 mx10:mg "NoPlay" = some (.ref c10)
 mx11:mg "TooMany" = some (.ref c11)
 mx12:mg "NoRow" = some (.ref c12)
 mx13:mg "Unknown" = some (.ref c13)
 mOE:mg "OrganError" = some (.ref cO)
 exO:PySem.W.excIn K cO R0 "ValueError.__new__" = true
 n_row_list:DP K C "row_list"
 n_board_list:DP K C "board_list"
 n_rank_list:DP K C "rank_list"
 n_knob_rows:DP K C "knob_rows"
 n_board_numbers:DP K C "board_numbers"
 n_rank_numbers:DP K C "rank_numbers"
 n_knob_numbers:DP K C "knob_numbers"
 n_key_places:DP K C "key_places"
 n_pipe_places:DP K C "pipe_places"
 n_knob_lines:DP K C "knob_lines"
 n_step_sets:DP K C "step_sets"
set_option genInjectivity false in
set_option genSizeOf false in
set_option genSizeOfSpec false in
structure Ad where
 (fWh fMd fNm fRo fTo fWi fPa fHp fCl fIk fSb fIs fWm fHr fIr fCk fNu fPl fLi fSs fMy fSt fCe fLw fMi fNn fBb fMa fLb fLk fLs fLl fLc fLt fLr fLp fOn fBy fPu fBn fBm fBr fKi fRf fNo fOi fOb fBk fOp fOw fOr fOs fOm fOy fOz fXi:Addr)
 (dWh dMd dNm dRo dTo dWi dPa dHp dCl dIk dSb dIs dWm dHr dIr dCk dNu dPl dLi dSs dMy dSt dCe dLw dMi dNn dBb dMa dLb dLk dLs dLl dLc dLt dLr dLp dOn dBy dPu dBn dBm dBr dKi dRf dNo dOi dOb dBk dOp dOw dOr dOs dOm dOy dOz dXi:FuncData)
structure jC (K:PySem.W.Frag) (mg:Str->Option Value) (C cN cO c0 c1 c2 c3 c4 c5 c6 c7 c8 c9 c10 c11 c12 c13:Addr) (aD:Ad):Prop where
 FWh:Dr K "is_whole" "is_whole" iB aD.fWh aD.dWh∧Binds K aD.dWh ["thing"] []∧mg "is_whole" = some (.ref aD.fWh)
 FMd:Dr K "is_made_of" "is_made_of" Z1 aD.fMd aD.dMd∧Binds K aD.dMd ["text","signs","most"] []∧mg "is_made_of" = some (.ref aD.fMd)
 FNm:Dr K "is_name" "is_name" gW aD.fNm aD.dNm∧Binds K aD.dNm ["thing"] []∧mg "is_name" = some (.ref aD.fNm)
 FRo:Dr K "rows_of" "rows_of" fL aD.fRo aD.dRo∧Binds K aD.dRo ["rows","word"] []∧mg "rows_of" = some (.ref aD.fRo)
 FTo:Dr K "is_told" "is_told" Za aD.fTo aD.dTo∧Binds K aD.dTo ["rows","word","thing"] []∧mg "is_told" = some (.ref aD.fTo)
 FWi:Dr K "is_within" "is_within" jy aD.fWi aD.dWi∧Binds K aD.dWi ["thing","bounds"] []∧mg "is_within" = some (.ref aD.fWi)
 FPa:Dr K "is_part" "is_part" di aD.fPa aD.dPa∧Binds K aD.dPa ["thing","part","ahead"] []∧mg "is_part" = some (.ref aD.fPa)
 FHp:Dr K "has_parts" "has_parts" dW aD.fHp aD.dHp∧Binds K aD.dHp ["row","ahead"] []∧mg "has_parts" = some (.ref aD.fHp)
 FCl:Dr K "count_of_last_lines" "count_of_last_lines" gD aD.fCl aD.dCl∧Binds K aD.dCl ["rows"] []∧mg "count_of_last_lines" = some (.ref aD.fCl)
 FIk:Dr K "is_key_of" "is_key_of" fV aD.fIk aD.dIk∧Binds K aD.dIk ["number","board","ahead"] []∧mg "is_key_of" = some (.ref aD.fIk)
 FSb:Dr K "stands_behind_stop" "stands_behind_stop" iQ aD.fSb aD.dSb∧Binds K aD.dSb ["line","ahead"] []∧mg "stands_behind_stop" = some (.ref aD.fSb)
 FIs:Dr K "is_step" "is_step" ak aD.fIs aD.dIs∧Binds K aD.dIs ["row","ahead"] []∧mg "is_step" = some (.ref aD.fIs)
 FWm:Dr K "is_well_made" "is_well_made" gP aD.fWm aD.dWm∧Binds K aD.dWm ["row","ahead"] []∧mg "is_well_made" = some (.ref aD.fWm)
 FHr:Dr K "has_room" "has_room" jQ aD.fHr aD.dHr∧Binds K aD.dHr ["word","ahead"] []∧mg "has_room" = some (.ref aD.fHr)
 FIr:Dr K "is_row" "is_row" jj aD.fIr aD.dIr∧Binds K aD.dIr ["thing","ahead"] []∧mg "is_row" = some (.ref aD.fIr)
 FCk:Dr K "check_rows" "check_rows" i_ aD.fCk aD.dCk∧Binds K aD.dCk ["rows"] []∧mg "check_rows" = some (.ref aD.fCk)
 FNu:Dr K "numbers_of" "numbers_of" iY aD.fNu aD.dNu∧Binds K aD.dNu ["names"] []∧mg "numbers_of" = some (.ref aD.fNu)
 FPl:Dr K "places_of" "places_of" fY aD.fPl aD.dPl∧Binds K aD.dPl ["things"] []∧mg "places_of" = some (.ref aD.fPl)
 FLi:Dr K "lines_by_knob" "lines_by_knob" jr aD.fLi aD.dLi∧Binds K aD.dLi ["rows","rank_numbers"] []∧mg "lines_by_knob" = some (.ref aD.fLi)
 FSs:Dr K "set_of_step" "set_of_step" fQ aD.fSs aD.dSs∧Binds K aD.dSs ["row","knob_numbers"] []∧mg "set_of_step" = some (.ref aD.fSs)
 FMy:Dr K "may_be_member" "may_be_member" iT aD.fMy aD.dMy∧Binds K aD.dMy ["thing"] []∧mg "may_be_member" = some (.ref aD.fMy)
 FSt:Dr K "set_of" "set_of" fc aD.fSt aD.dSt∧Binds K aD.dSt ["numbers"] []∧mg "set_of" = some (.ref aD.fSt)
 FCe:Dr K "_law_cell_at" "_law_cell_at" gj aD.fCe aD.dCe∧Binds K aD.dCe ["_law_script","_law_k"] []∧mg "_law_cell_at" = some (.ref aD.fCe)
 FLw:Dr K "_law_whole" "_law_whole" jR aD.fLw aD.dLw∧Binds K aD.dLw ["_law_found"] []∧mg "_law_whole" = some (.ref aD.fLw)
 FMi:Dr K "_law_mix" "_law_mix" jT aD.fMi aD.dMi∧Binds K aD.dMi ["_law_cell","_law_by","_law_many_here"] []∧mg "_law_mix" = some (.ref aD.fMi)
 FNn:Dr K "_law_name" "_law_name" jc aD.fNn aD.dNn∧Binds K aD.dNn ["_law_base_here","_law_k"] []∧mg "_law_name" = some (.ref aD.fNn)
 FBb:Dr K "_law_base" "_law_base" jF aD.fBb aD.dBb∧Binds K aD.dBb ["_law_cell"] []∧mg "_law_base" = some (.ref aD.fBb)
 FMa:Dr K "_law_many" "_law_many" fG aD.fMa aD.dMa∧Binds K aD.dMa ["_law_plan_here","_law_word"] []∧mg "_law_many" = some (.ref aD.fMa)
 FLb:Dr K "_law_board" "_law_board" jW aD.fLb aD.dLb∧Binds K aD.dLb ["_law_plan_here","_law_name_here","_law_cell"] []∧mg "_law_board" = some (.ref aD.fLb)
 FLk:Dr K "_law_rank" "_law_rank" ik aD.fLk aD.dLk∧Binds K aD.dLk ["_law_plan_here","_law_name_here","_law_cell"] []∧mg "_law_rank" = some (.ref aD.fLk)
 FLs:Dr K "_law_stop" "_law_stop" jD aD.fLs aD.dLs∧Binds K aD.dLs ["_law_plan_here","_law_name_here","_law_cell"] []∧mg "_law_stop" = some (.ref aD.fLs)
 FLl:Dr K "_law_line" "_law_line" iM aD.fLl aD.dLl∧Binds K aD.dLl ["_law_plan_here","_law_cell"] []∧mg "_law_line" = some (.ref aD.fLl)
 FLc:Dr K "_law_coupler" "_law_coupler" ig aD.fLc aD.dLc∧Binds K aD.dLc ["_law_plan_here","_law_name_here","_law_cell"] []∧mg "_law_coupler" = some (.ref aD.fLc)
 FLt:Dr K "_law_step" "_law_step" cX aD.fLt aD.dLt∧Binds K aD.dLt ["_law_plan_here","_law_cell"] []∧mg "_law_step" = some (.ref aD.fLt)
 FLr:Dr K "_law_row" "_law_row" jG aD.fLr aD.dLr∧Binds K aD.dLr ["_law_plan_here","_law_name_here","_law_cell"] []∧mg "_law_row" = some (.ref aD.fLr)
 FLp:Dr K "_law_plan" "_law_plan" jq aD.fLp aD.dLp∧Binds K aD.dLp ["_law_script","_law_start"] []∧mg "_law_plan" = some (.ref aD.fLp)
 FOn:Dr K "_law_odd_name" "_law_odd_name" g_ aD.fOn aD.dOn∧Binds K aD.dOn ["_law_cell"] []∧mg "_law_odd_name" = some (.ref aD.fOn)
 FBy:Dr K "_law_beyond" "_law_beyond" gZ aD.fBy aD.dBy∧Binds K aD.dBy ["_law_low","_law_high","_law_cell"] []∧mg "_law_beyond" = some (.ref aD.fBy)
 FPu:Dr K "_law_put" "_law_put" iU aD.fPu aD.dPu∧Binds K aD.dPu ["_law_row_here","_law_at","_law_part"] []∧mg "_law_put" = some (.ref aD.fPu)
 FBn:Dr K "_law_bad_numbers" "_law_bad_numbers" jM aD.fBn aD.dBn∧Binds K aD.dBn ["_law_plan_here","_law_row_here","_law_cell"] []∧mg "_law_bad_numbers" = some (.ref aD.fBn)
 FBm:Dr K "_law_bad_names" "_law_bad_names" ZS aD.fBm aD.dBm∧Binds K aD.dBm ["_law_plan_here","_law_row_here","_law_cell"] []∧mg "_law_bad_names" = some (.ref aD.fBm)
 FBr:Dr K "_law_bad_row" "_law_bad_row" fJ aD.fBr aD.dBr∧Binds K aD.dBr ["_law_plan_here","_law_place","_law_cell"] []∧mg "_law_bad_row" = some (.ref aD.fBr)
 FKi:Dr K "_law_kinds" "_law_kinds" jl aD.fKi aD.dKi∧Binds K aD.dKi ["_law_e"] []∧mg "_law_kinds" = some (.ref aD.fKi)
 FRf:Dr K "_law_refused" "_law_refused" jV aD.fRf aD.dRf∧Binds K aD.dRf ["_law_rows","_law_due"] []∧mg "_law_refused" = some (.ref aD.fRf)
 FNo:Dr K "_law_none" "_law_none" fP aD.fNo aD.dNo∧Binds K aD.dNo ["_law_plan_here","_law_cell"] []∧mg "_law_none" = some (.ref aD.fNo)
 FOi:Dr K "__init__" "Organ.__init__" Um aD.fOi aD.dOi∧Binds K aD.dOi ["self","rows"] []∧Mk K C aD.fOi
 FOb:Dr K "boards" "Organ.boards" km aD.fOb aD.dOb∧Binds K aD.dOb ["self"] []∧Meth K C "boards" aD.fOb
 FBk:Dr K "board_of_knob" "Organ.board_of_knob" kW aD.fBk aD.dBk∧Binds K aD.dBk ["self","knob"] []∧Meth K C "board_of_knob" aD.fBk
 FOp:Dr K "coupler" "Organ.coupler" l_ aD.fOp aD.dOp∧Binds K aD.dOp ["self","knob"] []∧Meth K C "coupler" aD.fOp
 FOw:Dr K "rows" "Organ.rows" jd aD.fOw aD.dOw∧Binds K aD.dOw ["self"] []∧Meth K C "rows" aD.fOw
 FOr:Dr K "ranks" "Organ.ranks" j6 aD.fOr aD.dOr∧Binds K aD.dOr ["self"] []∧Meth K C "ranks" aD.fOr
 FOs:Dr K "stop" "Organ.stop" lF aD.fOs aD.dOs∧Binds K aD.dOs ["self","knob"] []∧Meth K C "stop" aD.fOs
 FOm:Dr K "mute" "Organ.mute" j8 aD.fOm aD.dOm∧Binds K aD.dOm ["self","knob"] []∧Meth K C "mute" aD.fOm
 FOy:Dr K "steps" "Organ.steps" kJ aD.fOy aD.dOy∧Binds K aD.dOy ["self"] []∧Meth K C "steps" aD.fOy
 FOz:Dr K "knobs" "Organ.knobs" lD aD.fOz aD.dOz∧Binds K aD.dOz ["self"] []∧Meth K C "knobs" aD.fOz
 FXi:Dr K "__init__" "NoOrgan.__init__" ir aD.fXi aD.dXi∧Binds K aD.dXi ["self","at"] []
 rN:fu K cN cO aD.fXi "at" [c0,c1,c2,c3,c4,c5,c6,c7,c8,c9,c10,c11,c12,c13]
section
variable {P:Program} {w:World} {K:PySem.W.Frag} {mg:Str->Option Value} {base:Heap} {C cN cO c0 c1 c2 c3 c4 c5 c6 c7 c8 c9 c10 c11 c12 c13 aN aK aB aP aM:Addr} {aD:Ad}
variable (N:jC K mg C cN cO c0 c1 c2 c3 c4 c5 c6 c7 c8 c9 c10 c11 c12 c13 aD) (T:Txt K w.params mg C cN cO c0 c1 c2 c3 c4 c5 c6 c7 c8 c9 c10 c11 c12 c13 aN aK aB aP aM)
noncomputable def UT:Sp:=fun vs H Q _=>∃ i:Int,vs=[.int i]/\Q (.bl true) H
theorem cI:BX ["thing"] ["thing"] (Ai iB):=Cj
include N T in
theorem XF:BW P w K mg base Br 1 aD.fWh aD.dWh ["thing"] UT:=by
 refine N.FWh.1.ok cI (fun vs H Q E h=>?_) (fun cdv A outer s H vs Q E hr h=>?_)
 ·obtain ⟨i,rfl,_⟩:=h
  rfl
 ·obtain ⟨i,rfl,q⟩:=h
  refine ⟨_,(Ag (Ax (Ck (Ak CW rfl T.isin ai (Aa (pv 0) (Aa (DQ (v:=.ty "int") rfl T.int ia rfl) Ab))) (CZ (J0 (Ak CW rfl T.isin ai (Aa (pv 0) (Aa (DQ (v:=.ty "bool") rfl T.bool gL rfl) Ab)))))))),?_⟩
  refine ⟨_,rfl,_,"int",_,_,rfl,.int i,ty_int,_,rfl,Dg ?_⟩
  exact ⟨_,rfl,_,"bool",_,_,rfl,.int i,XX,_,rfl,q⟩
noncomputable def dw:Sp:=fun vs H Q _=>∃ z:Str,vs=[.str z,.str letters,.int 8]/\isNm z/\∀ H',Am H H'->Q (.bl true) H'
theorem bY:BX ["text","signs","most"] ["text","signs","most"] (Ai Z1):=Cj
include N T in
theorem aq:BW P w K mg base Br 1 aD.fMd aD.dMd ["text","signs","most"] dw:=by
 refine N.FMd.1.ok bY (fun vs H Q E h=>?_) (fun cdv A outer s H vs Q E hr h=>?_)
 ·obtain ⟨z,rfl,_⟩:=h
  rfl
 ·obtain ⟨z,rfl,hz,q⟩:=h
  refine ⟨_,(Ag (Ax (Ck (Gr Fg Fg Ac (Ak I_ rfl T.len ar (Aa (pv 0) Ab)) (pv 2)) (CZ (Ak (Fl rfl) rfl T.all dE (Aa (Bx rfl (Bg (osc:=Ai Z1) (N:=["text","signs","most"]) rfl rfl (by decide +kernel)) (Sy (pv 0)) (fun _ _ _ _=>Ce) (fun _ _ _ _=>(Dj Le (pv 0) (pv 2) rfl))) Ab)))))),?_⟩
  have hzl:z.length<sizeLine:=BP (by have:=hz.2.1; omega)
  refine ⟨_,rfl,z,rfl,fm hzl,_,_,rfl,rfl,_,rfl,?_⟩
  refine Bd (fun h1=>?_) (fun h1=>absurd (decide_eq_true (by have:=hz.1; omega)) h1)
  refine ⟨_,rfl,_,_,rfl,rfl,_,rfl,?_⟩
  refine Bd (fun h2=>?_) (fun h2=>absurd (decide_eq_true (by have:=hz.2.1; omega)) h2)
  refine ⟨_,rfl,z,rfl,Nm (fun _=>true) (fun c=>.bl (WP letters c)) hzl (fun c hc H' hs R k=>k H' (Am.refl H')) (fun c hc _ H' hs R k=>⟨_,rfl,_,rfl,_,_,rfl,rfl,k H' (Am.refl H')⟩) (fun D H' hD hs hl=>?_)⟩
  refine ⟨D,z.cps.toList.map (WP letters),rfl,.inl (.inl ?_),?_⟩
  ·rw [hl,ax.mpr (fun _ _=>rfl),bX]
   rfl
  ·have e:(z.cps.toList.map (WP letters)).all id=true:=by
    rw [iX,cw]
    intro c hc
    have:=hz.2.2 c hc
    show WP letters c=true
    rw [MF c (by omega)]
    exact decide_eq_true this
   rw [e]
   exact q H' hs
noncomputable def Xu:Sp:=fun vs H Q _=>∃ z:Str,vs=[.str z]/\isNm z/\∀ H',Am H H'->Q (.bl true) H'
theorem Zu:BX ["thing"] ["thing"] (Ai gW):=Cj
include N T in
theorem Wv:BW P w K mg base Br 2 aD.fNm aD.dNm ["thing"] Xu:=by
 refine N.FNm.1.ok Zu (fun vs H Q E h=>?_) (fun cdv A outer s H vs Q E hr h=>?_)
 ·obtain ⟨z,rfl,_⟩:=h
  rfl
 ·obtain ⟨z,rfl,hz,q⟩:=h
  obtain ⟨tLET,hLET⟩:=T.letters
  obtain ⟨tML,hML⟩:=T.mostL
  refine ⟨_,(Ag (Ax (Ck (Ak CW rfl T.isin ai (Aa (pv 0) (Aa (DQ (v:=.ty "str") rfl T.str fe rfl) Ab))) (CZ (Ah (aq N T) (ad hr) rfl N.FMd.2.2 N.FMd.1.kp N.FMd.2.1 .nil BJ (Aa (pv 0) (Aa (Be (v:=.str letters) rfl hLET ⟨tLET,rfl⟩) (Aa (Be (v:=.int 8) rfl hML ⟨tML,rfl⟩) Ab)))))))),?_⟩
  refine ⟨_,rfl,_,"str",_,_,rfl,.str z,Nh,_,rfl,Dg ?_⟩
  exact ⟨_,rfl,z,rfl,hz,q⟩
noncomputable def Ms:Sp:=fun vs H Q _=>∃ (p:Addr) (us:List V) (w:Str) (ρ:V->R),vs=[.ref p,.str w]/\H p=some (.lst us)/\Rows H ρ us/\us.length<=500/\∀ D H',H D=none->Am H H'->H' D=some (.lst (us.filter (pw ρ w)))->Q (.ref D) H'
theorem gU:BX ["rows","word"] ["rows","word"] (Ai fL):=Cj
include N T in
theorem Jj:BW P w K mg base Br 1 aD.fRo aD.dRo ["rows","word"] Ms:=by
 refine N.FRo.1.ok gU (fun vs H Q E h=>?_) (fun cdv A outer s H vs Q E hr h=>?_)
 ·obtain ⟨p,us,w,ρ,rfl,_⟩:=h
  rfl
 ·obtain ⟨p,us,w,ρ,rfl,hp,hR,hl,q⟩:=h
  refine ⟨_,(Ag (Ax (Bx rfl (Bg (osc:=Ai fL) (N:=["rows","word"]) rfl rfl (by decide +kernel)) (CN (pv 0)) (fun _ _ _ _=>(Mq (A_ Bw (BK (Ay (K:=K) rfl) (pv 0) Ac (fun _ _=>rfl)) (pv 2) (BV _)))) (fun _ _ _ _=>(pv 0))))),?_⟩
  have hS:Dh K H p us:=.inl (.inl hp)
  refine ⟨_,rfl,p,rfl,⟨_,hS⟩,DY (K:=K) (xs:=us) (pw ρ w) id hS (BP (by omega)) (fun x hx H' hs R k=>?_) (fun x hx _ H' hs R k=>⟨_,rfl,k H' (Am.refl H')⟩) (fun D H' hD hs hl'=>?_)⟩
  ·obtain ⟨T0,rfl,hT⟩:=(hR x hx).mono hs
   exact ⟨_,rfl,T0,_,_,_,rfl,rfl,ja hT,Aj (j:=0) rfl,_,rfl,rfl,_,rfl,k H' (Am.refl H')⟩
  ·rw [hG] at hl'
   exact q D H' hD hs hl'
noncomputable def Yg:Sp:=fun vs H Q _=>∃ (p:Addr) (us:List V) (w t:Str) (ρ:V->R),vs=[.ref p,.str w,.str t]/\H p=some (.lst us)/\Rows H ρ us/\us.length<=500/\isNm t/\∀ H',Am H H'->Q (.bl (Hi ρ us w t)) H'
theorem d9:BX ["rows","word","thing"] ["rows","word","thing"] (Ai Za):=Cj
include N T in
theorem XH:BW P w K mg base Br 3 aD.fTo aD.dTo ["rows","word","thing"] Yg:=by
 refine N.FTo.1.ok d9 (fun vs H Q E h=>?_) (fun cdv A outer s H vs Q E hr h=>?_)
 ·obtain ⟨p,us,w,t,ρ,rfl,_⟩:=h
  rfl
 ·obtain ⟨p,us,w,t,ρ,rfl,hp,hR,hl,ht,q⟩:=h
  refine ⟨_,(Ag (Ax (Ck (Ah (Wv N T) (ad hr) rfl N.FNm.2.2 N.FNm.1.kp N.FNm.2.1 .nil BJ (Aa (pv 2) Ab)) (CZ (Ak (HB rfl) rfl T.any ff (Aa (Bx rfl (Bg (osc:=Ai Za) (N:=["rows","word","thing"]) rfl rfl (by decide +kernel)) (CN (Ah (Jj N T) (ad hr) rfl N.FRo.2.2 N.FRo.1.kp N.FRo.2.1 .nil BJ (Aa (pv 0) (Aa (pv 1) Ab)))) (fun _ _ _ _=>Ce) (fun _ _ _ _=>(Dj Bw (BK (Ay (K:=K) rfl) (pv 0) Ac (fun _ _=>rfl)) (pv 3) (BV _)))) Ab)))))),?_⟩
  refine ⟨_,rfl,t,rfl,ht,fun H1 s1=>⟨_,rfl,Dg ?_⟩⟩
  refine ⟨_,rfl,_,rfl,p,us,w,ρ,rfl,s1 _ _ hp,hR.mono s1,hl,fun D H2 hD s2 hl2=>?_⟩
  have hS:Dh K H2 D (us.filter (pw ρ w)):=.inl (.inl hl2)
  refine ⟨D,rfl,⟨_,hS⟩,DY (K:=K) (xs:=us.filter (pw ρ w)) (fun _=>true) (fun v=>.bl (pn ρ t v)) hS (BP (by have:=GC (pw ρ w) us; omega)) (fun x hx H' hs R k=>k H' (Am.refl H')) (fun x hx _ H' hs R k=>?_) (fun D3 H3 hD3 s3 hl3=>?_)⟩
  ·obtain ⟨T0,rfl,hT⟩:=(((hR.mono s1).mono s2).mono hs) x (bE.mp hx).1
   exact ⟨_,rfl,T0,_,_,_,rfl,rfl,ja hT,Aj (j:=1) rfl,_,rfl,rfl,k H' (Am.refl H')⟩
  ·refine ⟨D3,(us.filter (pw ρ w)).map (pn ρ t),rfl,.inl (.inl ?_),?_⟩
   ·rw [hl3,ax.mpr (fun _ _=>rfl),bX]
    rfl
   ·have e:((us.filter (pw ρ w)).map (pn ρ t)).any id=Hi ρ us w t:=by
     rw [iP]
     rfl
    rw [e]
    exact q H3 ((s1.trans s2).trans s3)
noncomputable def ZX (K:PySem.W.Frag):Sp:=fun vs H Q _=>∃ (i lo hi:Int) (b:Addr),vs=[.int i,.ref b]/\KTup K b [.int lo,.int hi]/\lo<=i/\i<=hi/\Q (.bl true) H
theorem bZ:BX ["thing","bounds"] ["thing","bounds"] (Ai jy):=Cj
include N T in
theorem aa:BW P w K mg base Br 2 aD.fWi aD.dWi ["thing","bounds"] (ZX K):=by
 refine N.FWi.1.ok bZ (fun vs H Q E h=>?_) (fun cdv A outer s H vs Q E hr h=>?_)
 ·obtain ⟨i,lo,hi,b,rfl,_⟩:=h
  rfl
 ·obtain ⟨i,lo,hi,b,rfl,hb,h1,h2,q⟩:=h
  refine ⟨_,(Ag (Ax (Ck (Ah (XF N T) (ad hr) rfl N.FWh.2.2 N.FWh.1.kp N.FWh.2.1 .nil BJ (Aa (pv 0) Ab)) (CZ (Gr Fg Fg (BK (Ay (K:=K) rfl) (pv 1) Ac (fun _ _=>rfl)) (pv 0) (BK (Ay (K:=K) rfl) (pv 1) Ac (fun _ _=>rfl))))))),?_⟩
  refine ⟨_,rfl,i,rfl,_,rfl,Dg ?_⟩
  refine ⟨_,rfl,b,_,_,_,rfl,rfl,hb.sq _,Aj (j:=0) rfl,_,rfl,_,_,rfl,rfl,_,rfl,?_⟩
  refine Bd (fun _=>?_) (fun z=>absurd (decide_eq_true h1) z)
  refine ⟨_,rfl,b,_,_,_,rfl,rfl,hb.sq _,Aj (j:=1) rfl,_,_,rfl,rfl,?_⟩
  show Q (.bl (decide (i<=hi))) H
  rw [decide_eq_true h2]
  exact q
noncomputable def dg (K:PySem.W.Frag) (aB:Addr):Sp:=fun vs H Q _=>∃ (x:V) (part:Str) (p:Addr) (us:List V) (ρ:V->R),vs=[x,.str part,.ref p]/\H p=some (.lst us)/\Rows H ρ us/\us.length<=500/\Dm K aB ρ us x part/\∀ H',Am H H'->Q (.bl true) H'
theorem Zw:BX ["thing","part","ahead"] ["thing","part","ahead"] (Ai di):=Cj
include N T in
theorem bx:BW P w K mg base Br 4 aD.fPa aD.dPa ["thing","part","ahead"] (dg K aB):=by
 refine N.FPa.1.ok Zw (fun vs H Q E h=>?_) (fun cdv A outer s H vs Q E hr h=>?_)
 ·obtain ⟨x,part,p,us,ρ,rfl,_⟩:=h
  rfl
 ·obtain ⟨x,part,p,us,ρ,rfl,hp,hR,hl,hok,q⟩:=h
  refine ⟨_,(Ae (Bf (Sv (Lw (pv 1) (Be (v:=.ref aB) rfl T.mB rfl))) (Ag (Ax (Ah (aa N T) (ad hr) rfl N.FWi.2.2 N.FWi.1.kp N.FWi.2.1 .nil BJ (Aa (pv 0) (Aa (HX (Be (v:=.ref aB) rfl T.mB rfl) (pv 1) (fun _ _=>rfl)) Ab))))) BR)
   (Ae (Bf (A_ Bw (pv 1) Al (BV _)) (Ag (Ax (Ck (Ah (Wv N T) (ad hr) rfl N.FNm.2.2 N.FNm.1.kp N.FNm.2.1 .nil BJ (Aa (pv 0) Ab)) (CZ (J0 (Ak (HB rfl) rfl T.any ff (Aa (Bx rfl (Bg (osc:=Ai di) (N:=["thing","part","ahead"]) rfl rfl (by decide +kernel)) (KJ (Be (v:=.ref aN) rfl T.mN rfl)) (fun _ _ _ _=>Ce) (fun _ _ _ _=>(Ah (XH N T) (ad hr) rfl N.FTo.2.2 N.FTo.1.kp N.FTo.2.1 .nil BJ (Aa (pv 3) (Aa (pv 0) (Aa (pv 1) Ab)))))) Ab))))))) BR)
   (Ag (Ax (Ah (XH N T) (ad hr) rfl N.FTo.2.2 N.FTo.1.kp N.FTo.2.1 .nil BJ (Aa (pv 2) (Aa (pv 1) (Aa (pv 0) Ab)))))))),?_⟩
  rcases hok with ⟨i,lo,hi,b,rfl,hn,hb,h1,h2⟩ | ⟨hn,rfl,t,rfl,ht,hno⟩ | ⟨hn,hne,t,rfl,ht,hyes⟩
  ·refine ⟨_,rfl,aB,part,_,rfl,rfl,T.dB,hn,_,rfl,Dg ?_⟩
   exact ⟨_,rfl,_,rfl,aB,part,.ref b,_,rfl,rfl,T.dB,hn,rfl,i,lo,hi,b,rfl,hb,h1,h2,q H (Am.refl H)⟩
  ·refine ⟨_,rfl,aB,_,_,rfl,rfl,T.dB,hn,_,rfl,Cp ?_⟩
   refine ⟨_,rfl,rfl,_,rfl,Dg ?_⟩
   refine ⟨_,rfl,t,rfl,ht,fun H1 s1=>⟨_,rfl,Dg ?_⟩⟩
   have hS:Fq K H1 aN (named.map V.str):=T.tN.sq _
   refine ⟨aN,rfl,⟨_,hS⟩,GJ (xs:=named.map V.str) (fun _=>true) (fun _=>.bl false) (by show 5<sizeLine; decide) (fun i H2 x hs hx=>⟨_,x,hs.tup hS,hx⟩) (fun i H2 y H3 hs _ hy=>⟨hy.1,hy.2 _ (hs.tup hS)⟩) (fun H2 hs=>⟨_,hs.tup hS,Nat.le_refl _⟩)
    (fun x hx H' hs R k=>k H' (Am.refl H')) (fun x hx _ H' hs R k=>?_) (fun D H2 hD s2 hl2=>?_)⟩
   ·obtain ⟨w0,hw0,rfl⟩:=aS.mp hx
    refine ⟨_,rfl,_,rfl,_,rfl,p,us,w0,t,ρ,rfl,hs _ _ (s1 _ _ hp),(hR.mono s1).mono hs,hl,ht,fun H'' s''=>?_⟩
    rw [hno w0 hw0]
    exact k H'' s''
   ·refine ⟨D,[false,false,false,false,false],rfl,ja hl2,_,rfl,?_⟩
    exact q H2 (s1.trans s2)
  ·refine ⟨_,rfl,aB,_,_,rfl,rfl,T.dB,hn,_,rfl,Cp ?_⟩
   refine ⟨_,rfl,rfl,_,rfl,?_⟩
   refine Bd (fun z=>absurd (V.str.inj (of_decide_eq_true z)) hne) (fun _=>?_)
   refine ⟨_,rfl,_,rfl,_,rfl,p,us,part,t,ρ,rfl,hp,hR,hl,ht,fun H' hs=>?_⟩
   rw [hyes]
   exact q H' hs
noncomputable def dH (K:PySem.W.Frag) (aB aP:Addr):Sp:=fun vs H Q _=>∃ (r p:Addr) (w:Str) (xs:List V) (us:List V) (ρ:V->R) (ap:Addr) (ps:List Str),vs=[.ref r,.ref p]/\H r=some (.tup (.str w::xs))/\H p=some (.lst us)/\Rows H ρ us/\us.length<=500 /\
 PySem.W.nsIn K aP w=some (some (.ref ap))/\KTup K ap (ps.map V.str)/\xs.length=ps.length/\ps.length<=10/\(∀ (i:Nat) x y,xs[i]? = some x->ps[i]? = some y->Dm K aB ρ us x y)/\∀ H',Am H H'->Q (.bl true) H'
theorem WQ:BX ["row","ahead","parts"] ["row","ahead"] (Ai dW):=Cj
include N T in
theorem eE:BW P w K mg base Br 5 aD.fHp aD.dHp ["row","ahead"] (dH K aB aP):=by
 refine N.FHp.1.ok WQ (fun vs H Q E h=>?_) (fun cdv A outer s H vs Q E hr h=>?_)
 ·obtain ⟨r,p,w,xs,us,ρ,ap,ps,rfl,_⟩:=h
  rfl
 ·obtain ⟨r,p,w,xs,us,ρ,ap,ps,rfl,hr0,hp,hR,hl,hn,hap,hlen,hps,hok,q⟩:=h
  refine ⟨_,(Ae (Bj (i:=2) WQ.nd rfl (Or.inl rfl) (HX (Be (v:=.ref aP) rfl T.mP rfl) (BK (Ay (K:=K) rfl) (pv 0) Ac (fun _ _=>rfl)) (fun _ _=>rfl)))
   (Ae (Bf (A_ Ku (Ak Az rfl T.len ar (Aa (pv 0) Ab)) (Aw CT Ac (Ak Az rfl T.len ar (Aa (pv 2) Ab))) (BV _)) (Ag (Ax Ek)) BR)
   (Ag (Ax (Ak (Fl rfl) rfl T.all dE (Aa (Qv rfl (KH (osc:=Ai dW) (N:=["row","ahead","parts"]) rfl rfl (by decide +kernel)) (QX rfl T.zip (Aa (Cr Gi (pv 0) (DG Ac) Dv) (Aa (pv 2) Ab))) (fun _ _ _ _=>Ce) (fun _ _ _ _=>(Ah (bx N T) (ad hr) rfl N.FPa.2.2 N.FPa.1.kp N.FPa.2.1 .nil BJ (Aa (pv 0) (Aa (pv 1) (Aa (pv 3) Ab)))))) Ab)))))),?_⟩
  refine ⟨_,rfl,r,_,_,_,rfl,rfl,ja hr0,Aj (j:=0) rfl,aP,w,.ref ap,_,rfl,rfl,T.dP,hn,rfl,?_⟩
  refine ⟨_,rfl,r,_,rfl,.inr (.inl (.inl hr0)),_,rfl,ap,_,rfl,.inr (hap.sq _),_,_,rfl,rfl,rfl,_,rfl,?_⟩
  refine Bd (fun z=>?_) (fun _=>?_)
  ·exfalso
   have e:(((V.str w::xs).length:Nat):Int)=1+(((ps.map V.str).length:Nat):Int):=by
    rw [aI,ag,hlen]
    omega
   rw [e] at z
   simp at z
  ·have hcut:Cv (V.str w::xs) (some 1) none=xs:=by
    unfold Cv
    have e1:HT.Du (V.str w::xs).length 0 (some ((1:Nat):Int))=1:=by rw [HT.DR,aI]; omega
    have e1':HT.Du (V.str w::xs).length 0 (some (1:Int))=1:=e1
    rw [e1',HT.Ew,List.drop_succ_cons,List.drop_zero]
    exact dt (by rw [aI]; omega)
   refine ⟨_,rfl,_,rfl,r,_,rfl,ja hr0,(fun z=>?_),fun p2 hp2=>?_⟩
   ·have e1:HT.Du (V.str w::xs).length 0 (some ((1:Nat):Int))=1:=by rw [HT.DR,aI]; omega
    have:=z.1.symm.trans e1
    cases this
   rw [hcut]
   obtain ⟨H2,eqH,s2,a2⟩:=Bo (o:=HO.tup xs) hp2
   rw [eqH]
   have h1:Fq K H2 p2 xs:=.inl (.inl a2)
   refine ⟨_,rfl,p2,ap,rfl,⟨_,h1⟩,⟨_,hap.sq _⟩,NZ (K:=K) (xs:=xs) (ys:=ps.map V.str) (fun _ _=>.bl true) h1 (hap.sq _) (by rw [ag]; exact hlen) (BP (by omega)) (fun i x y hx hy H3 s3 R k=>?_) (fun D H3 hD s3 hl3=>?_)⟩
   ·rw [bo] at hy
    obtain ⟨part,hpart,rfl⟩:=de.mp hy
    exact ⟨_,rfl,_,rfl,_,rfl,x,part,p,us,ρ,rfl,s3 _ _ (s2 _ _ hp),(hR.mono s2).mono s3,hl,hok i x part hx hpart,fun H4 s4=>k H4 s4⟩
   ·have e:List.zipWith (fun _ _=>V.bl true) xs (ps.map V.str)=(List.replicate xs.length true).map V.bl:=by
     rw [List.map_replicate]
     refine iE fun i=>?_
     rw [hZ]
     by_cases hi:i<xs.length
     ·rw [ae hi,ae (by rw [ag]; omega),ae (by rw [hW]; exact hi)]
      simp
     ·rw [eT (by omega),eT (l:=List.replicate _ _) (by rw [hW]; omega)]
    rw [e] at hl3
    refine ⟨D,List.replicate xs.length true,rfl,ja hl3,?_⟩
    have e2:(List.replicate xs.length true).all id=true:=by simp
    rw [e2]
    exact q H3 (s2.trans s3)
noncomputable def Xz:Sp:=fun vs H Q _=>∃ (p:Addr) (us:List V) (ρ:V->R) (c:Nat),vs=[.ref p]/\H p=some (.lst us)/\Rows H ρ us/\us.length<=500/\Hn ρ us c/\Q (.int (c:Nat)) H
theorem Wi:BX ["rows","count","row"] ["rows"] (Ai gD):=Cj
include N T in
theorem XS:BW P w K mg base Br 1 aD.fCl aD.dCl ["rows"] Xz:=by
 refine N.FCl.1.ok Wi (fun vs H Q E h=>?_) (fun cdv A outer s H vs Q E hr h=>?_)
 ·obtain ⟨p,us,ρ,c,rfl,_⟩:=h
  rfl
 ·obtain ⟨p,us,ρ,c,rfl,hp,hR,hl,hc,q⟩:=h
  refine ⟨_,(Ae (Bj (i:=1) Wi.nd rfl (Or.inl rfl) Ac)
   (Ae (Ez PassesOwn.never rfl (Yy rfl T.reversed (Aa (pv 0) Ab)) (Cu (i:=2) Wi.nd rfl (Or.inl rfl)) (Ae (Bf (A_ Ku (BK (Ay (K:=K) rfl) (pv 2) Ac (fun _ _=>rfl)) Al (BV _)) (Ag Sh) BR)
   (Ag (Bj (i:=1) Wi.nd rfl (Or.inl rfl) (Aw CT (pv 1) Ac)))))
   (Ag (Ax (pv 1))))),?_⟩
  have hS:Dh K H p us:=.inl (.inl hp)
  refine ⟨_,rfl,p,us,rfl,hS,Vc (K:=K) (a:=p) (xs:=us) (fun i σ H4=>H4=H/\i<=c/\∃ v2,σ=[some (.ref p),some (.int (i:Nat)),v2]) ⟨rfl,dL _,_,rfl⟩ (fun i σ H4 _ h=>by rw [h.1]; exact hS) ?_ ?_⟩
  ·rintro i x σ H4 hi hx ⟨rfl,hic,v2,rfl⟩
   obtain ⟨r,rfl,hr0⟩:=hR x (al hx)
   refine ⟨_,rfl,r,_,_,_,rfl,rfl,ja hr0,Aj (j:=0) rfl,rfl,_,rfl,?_⟩
   by_cases e:(ρ (.ref r)).w = "line"
   ·have hne:i ≠ c:=fun z=>by
     obtain ⟨v,hv,hno⟩:=hc.no
     rw [← z,hx] at hv
     cases hv
     exact hno e
    refine Ue (congrArg V.str e) ?_
    exact ⟨_,rfl,_,_,rfl,rfl,rfl,by omega,_,rfl⟩
   ·have hic':i=c:=by
     refine Classical.byContradiction fun z=>?_
     obtain ⟨v,hv,hyes⟩:=hc.all i (by omega)
     rw [hx] at hv
     cases hv
     exact e hyes
    subst hic'
    rw [decide_eq_false fun z=>e (V.str.inj z)]
    refine Dg ?_
    exact ⟨_,rfl,q⟩
  ·rintro σ H4 ⟨rfl,hic,v2,rfl⟩
   have:=hc.lt
   omega
noncomputable def Y6:Sp:=fun vs H Q _=>∃ (n:Int) (bd:Str) (p:Addr) (us:List V) (ρ:V->R),vs=[.int n,.str bd,.ref p]/\H p=some (.lst us)/\Rows H ρ us/\us.length<=500/\Dd ρ us/\∀ H',Am H H'->Q (.bl (keyOf ρ us bd n)) H'
theorem gJ:BX ["number","board","ahead"] ["number","board","ahead"] (Ai fV):=Cj
include N T in
theorem Wx:BW P w K mg base Br 2 aD.fIk aD.dIk ["number","board","ahead"] Y6:=by
 refine N.FIk.1.ok gJ (fun vs H Q E h=>?_) (fun cdv A outer s H vs Q E hr h=>?_)
 ·obtain ⟨n,bd,p,us,ρ,rfl,_⟩:=h
  rfl
 ·obtain ⟨n,bd,p,us,ρ,rfl,hp,hR,hl,hB,q⟩:=h
  refine ⟨_,(Ag (Ax (Ak (HB rfl) rfl T.any ff (Aa (Bx rfl (Bg (osc:=Ai fV) (N:=["number","board","ahead"]) rfl rfl (by decide +kernel)) (CN (Ah (Jj N T) (ad hr) rfl N.FRo.2.2 N.FRo.1.kp N.FRo.2.1 .nil BJ (Aa (pv 2) (Aa Al Ab)))) (fun _ _ _ _=>Ce) (fun _ _ _ _=>(Ck (Dj Bw (BK (Ay (K:=K) rfl) (pv 0) Ac (fun _ _=>rfl)) (pv 2) (BV _)) (CZ (Dj FP (pv 1) (BK (Ay (K:=K) rfl) (pv 0) Ac (fun _ _=>rfl)) (BV _)))))) Ab)))),?_⟩
  refine ⟨_,rfl,p,us,"board",ρ,rfl,hp,hR,hl,fun D H2 hD s2 hl2=>?_⟩
  have hS:Dh K H2 D (us.filter (pw ρ "board")):=.inl (.inl hl2)
  refine ⟨D,rfl,⟨_,hS⟩,DY (K:=K) (xs:=us.filter (pw ρ "board")) (fun _=>true) (fun v=>.bl (pn ρ bd v && decide (n<Xj (ρ v)))) hS (BP (by have:=GC (pw ρ "board") us; omega)) (fun x hx H' hs R k=>k H' (Am.refl H')) (fun x hx _ H' hs R k=>?_) (fun D3 H3 hD3 s3 hl3=>?_)⟩
  ·have hx':=bE.mp hx
   obtain ⟨m,em⟩:=hB x hx'.1 (V.str.inj (of_decide_eq_true hx'.2))
   have hz:Xj (ρ x)=m:=by unfold Xj; rw [em]
   have hT:=((hR.mono s2).mono hs) x hx'.1
   have kk:=k H' (Am.refl H')
   rw [hz] at kk
   obtain ⟨T0,rfl,hT⟩:=hT
   have kk:R (.bl (decide (V.str (ρ (.ref T0)).nm=V.str bd) && decide (n<m))) H':=kk
   have hT':H' T0=some (.tup (.str (ρ (.ref T0)).w :: .str (ρ (.ref T0)).nm::(ρ (.ref T0)).rest)):=hT
   rw [em] at hT'
   refine ⟨_,rfl,T0,_,_,_,rfl,rfl,ja hT',Aj (j:=1) rfl,_,rfl,rfl,_,rfl,?_⟩
   refine Bd (fun g=>?_) (fun g=>?_)
   ·rw [g,Bool.true_and] at kk
    exact ⟨_,rfl,_,rfl,T0,_,_,_,rfl,rfl,ja hT',Aj (j:=2) rfl,_,_,rfl,rfl,kk⟩
   ·rw [(ed _).mp g,hV] at kk
    exact kk
  ·refine ⟨D3,(us.filter (pw ρ "board")).map (fun v=>pn ρ bd v && decide (n<Xj (ρ v))),rfl,.inl (.inl ?_),?_⟩
   ·rw [hl3,ax.mpr (fun _ _=>rfl),bX]
    rfl
   ·have e:((us.filter (pw ρ "board")).map (fun v=>pn ρ bd v && decide (n<Xj (ρ v)))).any id=keyOf ρ us bd n:=by
     rw [iP]
     rfl
    rw [e]
    exact q H3 (s2.trans s3)
noncomputable def au:Sp:=fun vs H Q _=>∃ (r p:Addr) (ro:R) (us:List V) (ρ:V->R),vs=[.ref r,.ref p]/\H r=some (.tup ro.v)/\H p=some (.lst us)/\Rows H ρ us/\us.length<=500/\MN ρ us ro/\Dd ρ us/\∀ H',Am H H'->Q (.bl true) H'
theorem RC:BX ["line","ahead","count","row"] ["line","ahead"] (Ai iQ):=Cj
include N T in
theorem eV:BW P w K mg base Br 3 aD.fSb aD.dSb ["line","ahead"] au:=by
 refine N.FSb.1.ok RC (fun vs H Q E h=>?_) (fun cdv A outer s H vs Q E hr h=>?_)
 ·obtain ⟨r,p,ro,us,ρ,rfl,_⟩:=h
  rfl
 ·obtain ⟨r,p,ro,us,ρ,rfl,hr0,hp,hR,hl,hL,hB,q⟩:=h
  obtain ⟨tML4,hML4⟩:=T.mostLn
  refine ⟨_,(Ae (Bj (i:=2) RC.nd rfl (Or.inl rfl) (Ah (XS N T) (ad hr) rfl N.FCl.2.2 N.FCl.1.kp N.FCl.2.1 .nil BJ (Aa (pv 1) Ab)))
   (Ae (Bj (i:=3) RC.nd rfl (Or.inl rfl) (BK Bt (pv 1) (Aw Dc (Aw Dc (Ak Az rfl T.len ar (Aa (pv 1) Ab)) Ac) (pv 2)) (fun _ _=>rfl)))
   (Ae (Bf (PW.pt (GF (A_ Ku (BK (Ay (K:=K) rfl) (pv 3) Ac (fun _ _=>rfl)) Al (BV _)) (Fi (A_ Qn (pv 2) (Be (v:=.int 4) rfl hML4 ⟨tML4,rfl⟩) (BV _))))) (Ag (Ax Ek)) BR)
   (Ag (Ax (Ck (Dj Fg (BK (Ay (K:=K) rfl) (pv 0) Ac (fun _ _=>rfl)) (BK (Ay (K:=K) rfl) (pv 0) Ac (fun _ _=>rfl)) (BV _)) (CZ (Ah (Wx N T) (ad hr) rfl N.FIk.2.2 N.FIk.1.kp N.FIk.2.1 .nil BJ (Aa (BK (Ay (K:=K) rfl) (pv 0) Ac (fun _ _=>rfl)) (Aa (BK (Ay (K:=K) rfl) (pv 3) Ac (fun _ _=>rfl)) (Aa (pv 1) Ab))))))))))),?_⟩
  obtain ⟨cnt,v,sh,lo,hi,bd,rs,er,hc,h4,hv,hw,hrest,hle,hk⟩:=hL.ex
  have hr1:H r=some (.tup [.str ro.w,.str ro.nm,.int sh,.int lo,.int hi]):=by rw [hr0,← er]
  obtain ⟨r2,rfl,hr2⟩:=hR v (al hv)
  have hr2':H r2=some (.tup (.str (ρ (.ref r2)).w :: .str (ρ (.ref r2)).nm :: .str bd::rs)):=by rw [hr2,← hrest]
  have hlt:=hc.lt
  have ei:((us.length:Nat):Int) - 1 - ((cnt:Nat):Int)=((us.length - 1 - cnt:Nat):Int):=by omega
  have hS:Dh K H p us:=.inl (.inl hp)
  refine ⟨_,rfl,p,us,ρ,cnt,rfl,hp,hR,hl,hc,?_⟩
  refine ⟨_,rfl,_,rfl,p,us,rfl,.inl hS,_,_,rfl,rfl,_,rfl,_,_,rfl,rfl,p,us,_,_,rfl,rfl,hS,(by rw [ei]; exact Aj hv),?_⟩
  refine ⟨_,rfl,r2,_,_,_,rfl,rfl,ja hr2',Aj (j:=0) rfl,rfl,_,rfl,Ue (congrArg V.str hw) ?_⟩
  refine ⟨_,rfl,_,_,rfl,rfl,_,rfl,?_⟩
  refine Bd (fun z=>?_) (fun _=>?_)
  ·have:=of_decide_eq_true z
   omega
  refine ⟨_,rfl,r,_,_,_,rfl,rfl,ja hr1,Aj (j:=3) rfl,_,rfl,r,_,_,_,rfl,rfl,ja hr1,Aj (j:=4) rfl,_,_,rfl,rfl,_,rfl,?_⟩
  refine Bd (fun _=>?_) (fun z=>absurd (decide_eq_true hle) z)
  refine ⟨_,rfl,r,_,_,_,rfl,rfl,ja hr1,Aj (j:=4) rfl,_,rfl,r2,_,_,_,rfl,rfl,ja hr2',Aj (j:=2) rfl,_,rfl,hi,bd,p,us,ρ,rfl,hp,hR,hl,hB,fun H' s'=>?_⟩
  rw [hk]
  exact q H' s'
noncomputable def cD:Sp:=fun vs H Q _=>∃ (r p:Addr) (ro:R) (us:List V) (ρ:V->R) (ts:List Str),vs=[.ref r,.ref p]/\H r=some (.tup ro.v)/\H p=some (.lst us)/\Rows H ρ us/\us.length<=500/\V.str ro.nm::ro.rest=ts.map V.str/\ts.Nodup/\ts.length<=24/\(∀ t∈ts,isNm t/\Hi ρ us "stop" t=true)/\∀ H',Am H H'->Q (.bl true) H'
theorem VP:BX ["row","ahead","names"] ["row","ahead"] (Ai ak):=Cj
include N T in
theorem bF:BW P w K mg base Br 5 aD.fIs aD.dIs ["row","ahead"] cD:=by
 refine N.FIs.1.ok VP (fun vs H Q E h=>?_) (fun cdv A outer s H vs Q E hr h=>?_)
 ·obtain ⟨r,p,ro,us,ρ,ts,rfl,_⟩:=h
  rfl
 ·obtain ⟨r,p,ro,us,ρ,ts,rfl,hr0,hp,hR,hl,ets,nd,h24,hts,q⟩:=h
  refine ⟨_,(Ae (Bj (i:=2) VP.nd rfl (Or.inl rfl) (Cr Gi (pv 0) (DG Ac) Dv))
   (Ae (Bf (PW.pt (GF (A_ Bw (Ak Az rfl T.len ar (Aa (pv 2) Ab)) Ac (BV _)) (Fi (Di (Ed (Ak (Fl rfl) rfl T.all dE (Aa (Bx rfl (Bg (osc:=Ai ak) (N:=["row","ahead","names"]) rfl rfl (by decide +kernel)) (KJ (pv 2)) (fun _ _ _ _=>Ce) (fun _ _ _ _=>(Ah (XH N T) (ad hr) rfl N.FTo.2.2 N.FTo.1.kp N.FTo.2.1 .nil BJ (Aa (pv 2) (Aa Al (Aa (pv 0) Ab)))))) Ab))))))) (Ag (Ax Ek)) BR)
   (Ag (Ax (Dj Bw (Ak Hl rfl T.len ar (Aa (Dw (LQ rfl) rfl T.set PyProof.Rows.boot_set (Aa (pv 2) Ab)) Ab)) (Ak Az rfl T.len ar (Aa (pv 2) Ab)) (BV _)))))),?_⟩
  have hv:ro.v=V.str ro.w::ts.map V.str:=by
   show V.str ro.w::(V.str ro.nm::ro.rest)=_
   rw [ets]
  rw [hv] at hr0
  have tne:1<=ts.length:=by
   cases ts with
   | nil=>cases ets
   | cons a b=>exact cf (dL _)
  have hcut:Cv (V.str ro.w::ts.map V.str) (some 1) none=ts.map V.str:=by
   unfold Cv
   have e1:HT.Du (V.str ro.w::ts.map V.str).length 0 (some 1)=1:=by
    rw [show (some (1:Int))=some ((1:Nat):Int) from rfl,HT.DR]
    simp
   rw [e1,HT.Ew]
   simp
   exact dt (by rw [ag]; exact am _)
  refine ⟨_,rfl,_,rfl,r,_,rfl,ja hr0,?_,fun n0 hn0=>?_⟩
  ·rintro ⟨z,_⟩
   have e1:HT.Du (V.str ro.w::ts.map V.str).length 0 (some 1)=1:=by
    rw [show (some (1:Int))=some ((1:Nat):Int) from rfl,HT.DR]
    simp
   rw [e1] at z
   cases z
  rw [hcut]
  obtain ⟨H1,eqH,s1,a1⟩:=Bo (o:=HO.tup (ts.map V.str)) hn0
  rw [eqH]
  have hT:Fq K H1 n0 (ts.map V.str):=.inl (.inl a1)
  have ltm:(ts.map V.str).length=ts.length:=ag ..
  refine ⟨_,rfl,n0,_,rfl,.inr hT,rfl,_,rfl,Bd (fun z=>?_) (fun _=>?_)⟩
  ·exfalso
   have:=V.int.inj (of_decide_eq_true z)
   omega
  refine ⟨_,rfl,n0,rfl,⟨_,hT⟩,KR (K:=K) (xs:=ts.map V.str) (fun _=>true) (fun _=>.bl true) hT (BP (by omega)) (fun x hx H' hs R k=>k H' (Am.refl H')) (fun x hx _ H' hs R k=>?_) (fun D H2 hD s2 hl2=>?_)⟩
  ·obtain ⟨z,hz,rfl⟩:=aS.mp hx
   obtain ⟨z1,z2⟩:=hts z hz
   refine ⟨_,rfl,_,rfl,p,us,"stop",z,ρ,rfl,hs _ _ (s1 _ _ hp),(hR.mono s1).mono hs,hl,z1,fun H3 s3=>?_⟩
   rw [z2]
   exact k H3 s3
  ·refine ⟨D,List.replicate ts.length true,rfl,.inl (.inl ?_),_,rfl,?_⟩
   ·rw [hl2,ax.mpr (fun _ _=>rfl),bX]
    congr 2
    refine iE fun i=>?_
    rw [bo,bo,List.getElem?_replicate]
    by_cases hi:i<ts.length
    ·rw [ae hi,if_pos hi]
     rfl
    ·rw [eT (by omega),if_neg hi]
     rfl
   have ea:(List.replicate ts.length true).all id=true:=by simp
   rw [ea]
   refine Cp ?_
   have hT2:=s2 _ _ a1
   refine ⟨_,rfl,n0,ts,rfl,ja hT2,by omega,fun S hS=>?_⟩
   have s3:=Av (o:=La P w S (ts.foldl Ws.Em [])) hS
   refine ⟨S,_,rfl,Af,_,rfl,n0,_,rfl,.inr (.inl (.inl (s3 _ _ hT2))),rfl,?_⟩
   have e:ts.foldl Ws.Em []=ts:=(JR ts [] (by rw [fN]; exact nd)).trans (fN _)
   have e2:decide (V.int (((ts.foldl Ws.Em []).length:Nat):Int)=V.int (((ts.map V.str).length:Nat):Int))=true:=decide_eq_true (by rw [e,ltm])
   rw [e2]
   exact q _ (s1.trans (s2.trans s3))
noncomputable def X6 (K:PySem.W.Frag) (aB aP aM:Addr):Sp:=fun vs H Q _=>∃ (r p:Addr) (ro:R) (us:List V) (ρ:V->R),vs=[.ref r,.ref p]/\H r=some (.tup ro.v)/\H p=some (.lst us)/\Rows H ρ us/\us.length<=500/\Dn K aB aP aM ρ us ro/\∀ H',Am H H'->Q (.bl true) H'
theorem dh:BX ["row","ahead"] ["row","ahead"] (Ai gP):=Cj
include N T in
theorem cF:BW P w K mg base Br 6 aD.fWm aD.dWm ["row","ahead"] (X6 K aB aP aM):=by
 refine N.FWm.1.ok dh (fun vs H Q E h=>?_) (fun cdv A outer s H vs Q E hr h=>?_)
 ·obtain ⟨r,p,ro,us,ρ,rfl,_⟩:=h
  rfl
 ·obtain ⟨r,p,ro,us,ρ,rfl,hr0,hp,hR,hl,ok3,q⟩:=h
  refine ⟨_,(Ae (Bf (A_ Bw (BK (Ay (K:=K) rfl) (pv 0) Ac (fun _ _=>rfl)) Al (BV _)) (Ag (Ax (Ah (bF N T) (ad hr) rfl N.FIs.2.2 N.FIs.1.kp N.FIs.2.1 .nil BJ (Aa (pv 0) (Aa (pv 1) Ab))))) BR)
   (Ae (Bf (A_ Bw (BK (Ay (K:=K) rfl) (pv 0) Ac (fun _ _=>rfl)) Al (BV _)) (Ag (Ax (Ck (Ah (eE N T) (ad hr) rfl N.FHp.2.2 N.FHp.1.kp N.FHp.2.1 .nil BJ (Aa (pv 0) (Aa (pv 1) Ab))) (CZ (Ah (eV N T) (ad hr) rfl N.FSb.2.2 N.FSb.1.kp N.FSb.2.1 .nil BJ (Aa (pv 0) (Aa (pv 1) Ab))))))) BR)
   (Ag (Ax (Ck (Mw (Lw (BK (Ay (K:=K) rfl) (pv 0) Ac (fun _ _=>rfl)) (Be (v:=.ref aP) rfl T.mP rfl))) (CZ (Ah (eE N T) (ad hr) rfl N.FHp.2.2 N.FHp.1.kp N.FHp.2.1 .nil BJ (Aa (pv 0) (Aa (pv 1) Ab))))))))),?_⟩
  refine ⟨_,rfl,r,_,_,_,rfl,rfl,ja hr0,Aj (j:=0) rfl,rfl,_,rfl,?_⟩
  rcases ok3 with ok | ok
  case inr =>
   obtain ⟨ts,ets,nd,h24,hts⟩:=ok.ts
   refine Bd (fun _=>?_) (fun z=>absurd (decide_eq_true (congrArg V.str ok.w)) z)
   exact ⟨_,rfl,_,rfl,r,p,ro,us,ρ,ts,rfl,hr0,hp,hR,hl,ets,nd,h24,hts,q⟩
  obtain ⟨ap,ps,hn,hap,hlen,hps,hok⟩:=ok.parts
  refine Bd (fun z=>absurd (V.str.inj (of_decide_eq_true z)) ok.ns) (fun _=>?_)
  refine ⟨_,rfl,r,_,_,_,rfl,rfl,ja hr0,Aj (j:=0) rfl,rfl,_,rfl,?_⟩
  refine Bd (fun z=>?_) (fun _=>?_)
  ·have hline:=ok.line (V.str.inj (of_decide_eq_true z))
   refine ⟨_,rfl,_,rfl,r,p,ro.w,_,us,ρ,ap,ps,rfl,hr0,hp,hR,hl,hn,hap,hlen,hps,hok,fun H1 s1=>⟨_,rfl,Dg ?_⟩⟩
   exact ⟨_,rfl,_,rfl,r,p,ro,us,ρ,rfl,s1 _ _ hr0,s1 _ _ hp,hR.mono s1,hl,hline,ok.Ua,fun H2 s2=>q H2 (s1.trans s2)⟩
  refine ⟨_,rfl,r,_,_,_,rfl,rfl,ja hr0,Aj (j:=0) rfl,aP,_,_,rfl,rfl,T.dP,hn,_,rfl,Dg ?_⟩
  exact ⟨_,rfl,_,rfl,r,p,ro.w,_,us,ρ,ap,ps,rfl,hr0,hp,hR,hl,hn,hap,hlen,hps,hok,q⟩
noncomputable def bu (K:PySem.W.Frag) (aM:Addr):Sp:=fun vs H Q _=>∃ (p:Addr) (w:Str) (us:List V) (ρ:V->R),vs=[.str w,.ref p]/\H p=some (.lst us)/\Rows H ρ us/\us.length<=500/\(PySem.W.nsIn K aM w=some none \/ ∃ (m:Int) (t:Tok),PySem.W.nsIn K aM w=some (some (.int m t))/\(((us.filter (pw ρ w)).length:Nat):Int)<m)/\∀ H',Am H H'->Q (.bl true) H'
theorem b8:BX ["word","ahead"] ["word","ahead"] (Ai jQ):=Cj
include N T in
theorem bO:BW P w K mg base Br 2 aD.fHr aD.dHr ["word","ahead"] (bu K aM):=by
 refine N.FHr.1.ok b8 (fun vs H Q E h=>?_) (fun cdv A outer s H vs Q E hr h=>?_)
 ·obtain ⟨p,w,us,ρ,rfl,_⟩:=h
  rfl
 ·obtain ⟨p,w,us,ρ,rfl,hp,hR,hl,hroom,q⟩:=h
  refine ⟨_,(Ag (Ax (Wq (Mw (K8 (pv 0) (Be (v:=.ref aM) rfl T.mM rfl))) (CZ (Dj FP (Ak Az rfl T.len ar (Aa (Ah (Jj N T) (ad hr) rfl N.FRo.2.2 N.FRo.1.kp N.FRo.2.1 .nil BJ (Aa (pv 1) (Aa (pv 0) Ab))) Ab)) (HX (Be (v:=.ref aM) rfl T.mM rfl) (pv 0) (fun _ _=>rfl)) (BV _)))))),?_⟩
  rcases hroom with hn | ⟨m,t,hn,hm⟩
  ·refine ⟨_,rfl,aM,w,_,rfl,rfl,T.dM,hn,_,rfl,Dg ?_⟩
   exact q H (Am.refl H)
  refine ⟨_,rfl,aM,w,_,rfl,rfl,T.dM,hn,_,rfl,Cp ?_⟩
  refine ⟨_,rfl,_,rfl,p,us,w,ρ,rfl,hp,hR,hl,fun D H2 hD s2 hl2=>?_⟩
  refine ⟨D,_,rfl,ja (.inl hl2),_,rfl,aM,w,.int m,_,rfl,rfl,T.dM,hn,⟨t,rfl⟩,_,_,rfl,rfl,?_⟩
  show Q (.bl (decide ((((us.filter (pw ρ w)).length:Nat):Int)<m))) H2
  rw [decide_eq_true hm]
  exact q H2 s2
noncomputable def Z0 (K:PySem.W.Frag) (aB aP aM:Addr):Sp:=X6 K aB aP aM
theorem cY:BX ["thing","ahead"] ["thing","ahead"] (Ai jj):=Cj
include N T in
theorem cH:BW P w K mg base Br 7 aD.fIr aD.dIr ["thing","ahead"] (Z0 K aB aP aM):=by
 refine N.FIr.1.ok cY (fun vs H Q E h=>?_) (fun cdv A outer s H vs Q E hr h=>?_)
 ·obtain ⟨r,p,ro,us,ρ,rfl,_⟩:=h
  rfl
 ·obtain ⟨r,p,ro,us,ρ,rfl,hr0,hp,hR,hl,ok,q⟩:=h
  refine ⟨_,(Ae (Bf (PW.pt (GF (Di (Ed (Ak CW rfl T.isin ai (Aa (pv 0) (Aa (DQ (v:=.ty "tuple") rfl T.tuple ft rfl) Ab))))) (GF (A_ Bw (Ak Az rfl T.len ar (Aa (pv 0) Ab)) Ac (BV _)) (Fi (Di (Ed (Ak CW rfl T.isin ai (Aa (BK (Ay (K:=K) rfl) (pv 0) Ac (fun _ _=>rfl)) (Aa (DQ (v:=.ty "str") rfl T.str fe rfl) Ab))))))))) (Ag (Ax Ek)) BR)
   (Ag (Ax (Ck (Ah (cF N T) (ad hr) rfl N.FWm.2.2 N.FWm.1.kp N.FWm.2.1 .nil BJ (Aa (pv 0) (Aa (pv 1) Ab))) (CZ (Ah (bO N T) (ad hr) rfl N.FHr.2.2 N.FHr.1.kp N.FHr.2.1 .nil BJ (Aa (BK (Ay (K:=K) rfl) (pv 0) Ac (fun _ _=>rfl)) (Aa (pv 1) Ab)))))))),?_⟩
  have hroom:PySem.W.nsIn K aM ro.w=some none \/ ∃ (m:Int) (t:Tok),PySem.W.nsIn K aM ro.w=some (some (.int m t))/\(((us.filter (pw ρ ro.w)).length:Nat):Int)<m:=Dn.room ok
  refine ⟨_,rfl,_,"tuple",_,_,rfl,.tup hr0,NK,_,rfl,Cp ?_⟩
  refine ⟨_,rfl,r,_,rfl,.inr (.inl (.inl hr0)),rfl,_,rfl,?_⟩
  refine Bd (fun z=>?_) (fun _=>?_)
  ·exfalso
   have:=of_decide_eq_true z
   have:=V.int.inj this
   simp at this
   omega
  refine ⟨_,rfl,r,_,_,_,rfl,rfl,ja hr0,Aj (j:=0) rfl,_,"str",_,_,rfl,.str _,Nh,_,rfl,Cp ?_⟩
  refine ⟨_,rfl,_,rfl,r,p,ro,us,ρ,rfl,hr0,hp,hR,hl,ok,fun H1 s1=>⟨_,rfl,Dg ?_⟩⟩
  exact ⟨_,rfl,r,_,_,_,rfl,rfl,ja (s1 _ _ hr0),Aj (j:=0) rfl,_,rfl,p,ro.w,us,ρ,rfl,s1 _ _ hp,hR.mono s1,hl,hroom,fun H2 s2=>q H2 (s1.trans s2)⟩
noncomputable def aG (K:PySem.W.Frag) (aB aP aM:Addr):Sp:=fun vs H Q _=>∃ (p:Addr) (us:List V) (ρ:V->R),vs=[.ref p]/\H p=some (.lst us)/\Rows H ρ us/\1<=us.length/\us.length<=150/\(∀ (i:Nat) v,us[i]? = some v->Dn K aB aP aM ρ (us.take i) (ρ v))/\(us.filter (pw ρ "board")).isEmpty=false/\∀ H',Am H H'->Q .non H'
theorem Q7:BX ["rows","at","row"] ["rows"] (Ai i_):=Cj
include N T in
theorem bI:BW P w K mg base Br 8 aD.fCk aD.dCk ["rows"] (aG K aB aP aM):=by
 refine N.FCk.1.ok Q7 (fun vs H Q E h=>?_) (fun cdv A outer s H vs Q E hr h=>?_)
 ·obtain ⟨p,us,ρ,rfl,_⟩:=h
  rfl
 ·obtain ⟨p,us,ρ,rfl,hp,hR,h1,h2,hok,hb,q⟩:=h
  obtain ⟨tMR,hMR⟩:=T.mostR
  refine ⟨_,(Ae (Bf (PW.pt (GF (Di (Ed (Ak CW rfl T.isin ai (Aa (pv 0) (Aa (DQ (v:=.ty "list") rfl T.list dv rfl) Ab))))) (Fi (Di (Nv Fg Fg Ac (Ak Az rfl T.len ar (Aa (pv 0) Ab)) (Be (v:=.int 150) rfl hMR ⟨tMR,rfl⟩)))))) (Ag Ir) BR)
   (Ae (Ez PassesOwn.never rfl (Jx rfl T.enumerate (Aa (pv 0) Ab)) (Kh rfl (Dy (Cu (i:=1) Q7.nd rfl (Or.inl rfl)) (Dy (Cu (i:=2) Q7.nd rfl (Or.inl rfl)) Iu))) (Ag (Bf (Di (Ed (Ah (cH N T) (ad hr) rfl N.FIr.2.2 N.FIr.1.kp N.FIr.2.1 .nil BJ (Aa (pv 2) (Aa (Cr HR (pv 0) Dv (DG (pv 1))) Ab))))) (Ag Ir) BR)))
   (Ag (Bf (Di (N_ (Ah (Jj N T) (ad hr) rfl N.FRo.2.2 N.FRo.1.kp N.FRo.2.1 .nil BJ (Aa (pv 0) (Aa Al Ab))) (fun _=>rfl))) (Ag Ir) BR)))),?_⟩
  have hS:Dh K H p us:=.inl (.inl hp)
  refine ⟨_,rfl,_,"list",_,_,rfl,.lst hp,Oi,_,rfl,Cp ?_⟩
  refine ⟨_,rfl,p,_,rfl,.inl hS,_,_,rfl,rfl,_,rfl,?_⟩
  refine Bd (fun _=>?_) (fun z=>absurd (decide_eq_true (by omega)) z)
  refine ⟨_,_,rfl,rfl,_,rfl,?_⟩
  have e150:decide ((us.length:Int)<=150)=true:=decide_eq_true (by omega)
  rw [e150]
  refine Cp ?_
  refine ⟨_,rfl,p,rfl,⟨_,hS⟩,Gx (K:=K) (a:=p) (xs:=us) (fun i σ H4=>Am H H4/\∃ v1 v2,σ=[some (.ref p),v1,v2]) ⟨Am.refl H,_,_,rfl⟩ (fun i σ H4 _ h=>h.1.seq hS) ?_ ?_⟩
  ·rintro i x σ H4 T0 hx ⟨s4,v1,v2,rfl⟩ hT
   have s5:=Av (o:=HO.tup [.int (i:Int),x]) hT
   refine ⟨T0,_,rfl,ja Af,rfl,_,_,rfl,_,_,rfl,rfl,?_⟩
   generalize upd H4 T0 (HO.tup [.int (i:Int),x])=H5 at s5 ⊢
   have s05:=s4.trans s5
   have hi:i<us.length:=(af.mp hx).1
   obtain ⟨r,rfl,hr0⟩:=(hR.mono s05) x (al hx)
   refine ⟨_,rfl,_,rfl,_,rfl,_,rfl,p,_,rfl,s05.seq hS,fun p6 hp6=>?_⟩
   have s6:=Av (o:=HO.lst (Cv us none (some (i:Int)))) hp6
   have a6:upd H5 p6 (HO.lst (Cv us none (some (i:Int)))) p6=_:=Af
   generalize upd H5 p6 (HO.lst (Cv us none (some (i:Int))))=H6 at s6 a6 ⊢
   rw [KC us i (by omega)] at a6
   have s06:=s05.trans s6
   refine ⟨r,p6,ρ (.ref r),us.take i,ρ,rfl,s6 _ _ hr0,a6,(hR.mono s06).sub fun v hv=>ck hv,by rw [bq]; omega,hok i _ hx,fun H7 s7=>⟨_,rfl,Cp ?_⟩⟩
   exact ⟨s06.trans s7,_,_,rfl⟩
  ·rintro σ H4 ⟨s4,v1,v2,rfl⟩
   refine ⟨_,rfl,p,us,"board",ρ,rfl,s4 _ _ hp,hR.mono s4,by omega,fun D H5 hD s5 hl5=>?_⟩
   refine ⟨_,.inl ⟨_,ja hl5,rfl⟩,?_⟩
   rw [hb]
   exact Cp (q H5 (s4.trans s5))
noncomputable def bc:Sp:=fun vs H Q _=>∃ (p:Addr) (ts:List Str),vs=[.ref p]/\H p=some (.lst (ts.map V.str))/\ts.length<=300/\ts.Nodup/\∀ D (kvs:List (Key × V)) H',H D=none->Am H H'->H' D=some (.dK kvs)->(∀ (i:Nat) t,ts[i]? = some t->Cq kvs (Sum.inr t)=some (.int (i:Nat)))->(∀ t,t ∉ ts->Cq kvs (Sum.inr t)=none)->Q (.ref D) H'
theorem VL:BX ["names","numbers","number","name"] ["names"] (Ai iY):=Cj
include N T in
theorem cW:BW P w K mg base Br 1 aD.fNu aD.dNu ["names"] bc:=by
 refine N.FNu.1.ok VL (fun vs H Q E h=>?_) (fun cdv A outer s H vs Q E hr h=>?_)
 ·obtain ⟨p,ts,rfl,_⟩:=h
  rfl
 ·obtain ⟨p,ts,rfl,hp,hl,nd,q⟩:=h
  have hu:=FJ hr
  refine ⟨_,(Ae (Bj (i:=1) VL.nd rfl (Or.inl rfl) NP)
   (Ae (Ez PassesOwn.never rfl (Jx rfl T.enumerate (Aa (pv 0) Ab)) (Kh rfl (Dy (Cu (i:=2) VL.nd rfl (Or.inl rfl)) (Dy (Cu (i:=3) VL.nd rfl (Or.inl rfl)) Iu))) (Ag (Mm hu (pv 1) (pv 3) (pv 2) rfl)))
   (Ag (Ax (pv 1))))),?_⟩
  intro D hD
  have s0:=Av (o:=HO.dK []) hD
  have hS:Dh K H p (ts.map V.str):=.inl (.inl hp)
  refine ⟨_,rfl,p,rfl,⟨_,s0.seq hS⟩,Gx (K:=K) (a:=p) (xs:=ts.map V.str) (fun i σ H4=>Am H H4/\∃ (kvs:List (Key × V)),H4 D=some (.dK kvs)/\kvs.length<=i/\(∀ (j:Nat) t,j<i->ts[j]? = some t->Cq kvs (Sum.inr t)=some (.int (j:Nat)))/\(∀ t,t ∉ ts->Cq kvs (Sum.inr t)=none)/\∃ v2 v3,σ=[some (.ref p),some (.ref D),v2,v3])
   ⟨s0,[],Af,am _,fun j t hj=>absurd hj (fR _),fun t _=>Ux,_,_,rfl⟩ (fun i σ H4 _ h=>h.1.seq hS) ?_ ?_⟩
  ·rintro i x σ H4 T0 hx ⟨s4,kvs,hd,hk,hv,hv0,v2,v3,rfl⟩ hT
   rw [bo] at hx
   obtain ⟨t,ht,rfl⟩:=de.mp hx
   have hi:i<ts.length:=(af.mp ht).1
   have s5:=Av (o:=HO.tup [.int (i:Int),.str t]) hT
   refine ⟨T0,_,rfl,ja Af,rfl,_,_,rfl,_,_,rfl,rfl,?_⟩
   generalize upd H4 T0 (HO.tup [.int (i:Int),.str t])=H5 at s5 ⊢
   refine ⟨_,rfl,_,rfl,_,rfl,D,_,rfl,Oz.k (k:=Sum.inr t) (s5 _ _ hd) (BP (by omega)),?_⟩
   refine ⟨fun b u e=>?_,putK kvs (Sum.inr t) (.int (i:Int)),Af,bi (Cd _ _ _) (by omega),fun j t' hj ht'=>?_,fun t' ht'=>(by rw [Bc,if_neg fun z=>ht' (by rw [Sum.inr.inj z]; exact al ht)]; exact hv0 t' ht'),_,_,rfl⟩
   ·rw [Aq (Ao e hD)]
    exact s5 _ _ (s4 _ _ e)
   ·rw [Bc]
    by_cases e:t'=t
    ·subst e
     have:j=i:=by
      obtain ⟨h1,e1⟩:=af.mp ht'
      obtain ⟨h2,e2⟩:=af.mp ht
      exact (List.getElem_inj nd).mp (e1.trans e2.symm)
     subst this
     rw [if_pos rfl]
    ·rw [if_neg fun z=>e (Sum.inr.inj z)]
     refine hv j t' ?_ ht'
     rcases Nat.lt_succ_iff_lt_or_eq.mp hj with z | z
     ·exact z
     ·subst z
      rw [ht] at ht'
      exact absurd (Option.some.inj ht').symm e
  ·rintro σ H4 ⟨s4,kvs,hd,hk,hv,hv0,v2,v3,rfl⟩
   refine ⟨_,rfl,q D kvs H4 hD s4 hd (fun i t ht=>hv i t ?_ ht) hv0⟩
   rw [ag]
   exact (af.mp ht).1
theorem Ze {n:Nat} (h:n<=3000):n<sizeLine:=bt h (by decide)
noncomputable def cQ:Sp:=fun vs H Q _=>∃ (p:Addr) (as:List Th) (us:List V),vs=[.ref p]/\H p=some (.lst us)/\Paired (fun (a:Th) y=>TupAt H (tV a) y) as us/\as.length<=12/\(∀ a∈as,a.2.1<=97)/\∀ D ys H',H D=none->Am H H'->H' D=some (.lst ys)->Paired (fun q y=>TupAt H' (qV q) y) (Qs (as.map tN)) ys->Q (.ref D) H'
theorem Vy:BX ["things","places","number","thing"] ["things"] (Ai fY):=Cj
include N T in
theorem dC:BW P w K mg base Br 1 aD.fPl aD.dPl ["things"] cQ:=by
 refine N.FPl.1.ok Vy (fun vs H Q E h=>?_) (fun cdv A outer s H vs Q E hr h=>?_)
 ·obtain ⟨p,as,us,rfl,_⟩:=h
  rfl
 ·obtain ⟨p,as,us,rfl,hp,hb,hl,hz,q⟩:=h
  refine ⟨_,(Ae (Bj (i:=1) Vy.nd rfl (Or.inl rfl) (Bh Ab))
   (Ae (Ez PassesOwn.never rfl (Jx rfl T.enumerate (Aa (pv 0) Ab)) (Kh rfl (Dy (Cu (i:=2) Vy.nd rfl (Or.inr rfl)) (Dy (Cu (i:=3) Vy.nd rfl (Or.inl rfl)) Iu))) (Ag (Cz (Fe aT PySem.F.slot_list_extend PySem.F.type_list_extend RN (pv 1) (Aa (Bx rfl (Bg (osc:=Ai fY) (N:=["things","places","number","thing"]) rfl rfl (by decide +kernel)) (GK rfl T.range (Aa (BK (Ay (K:=K) rfl) (pv 3) Ac (fun _ _=>rfl)) Ab)) (fun _ _ _ _=>Ce) (fun _ _ _ _=>(Bv (Aa (pv 3) (Aa (pv 0) Ab))))) Ab)))))
   (Ag (Ax (pv 1))))),?_⟩
  refine ⟨Bl (by simp),fun D hD=>?_⟩
  have s0:=Av (o:=HO.lst []) hD
  have hS:Dh K H p us:=.inl (.inl hp)
  have hul:=hb.length
  refine ⟨_,rfl,p,rfl,⟨_,s0.seq hS⟩,Gx (K:=K) (a:=p) (xs:=us) (fun i σ H4=>Am H H4/\∃ ys,H4 D=some (.lst ys)/\Paired (fun q y=>TupAt H4 (qV q) y) (Qs ((as.map tN).take i)) ys/\∃ v2 v3,σ=[some (.ref p),some (.ref D),v2,v3])
   ⟨s0,[],Af,.nil,_,_,rfl⟩ (fun i σ H4 _ h=>h.1.seq hS) ?_ ?_⟩
  ·rintro i x σ H4 T0 hx ⟨s4,ys,hd,hpr,v2,v3,rfl⟩ hT
   obtain ⟨b,hbi,hxb⟩:=Od hb hx
   have hi:i<as.length:=(af.mp hbi).1
   have hb97:=hz b (al hbi)
   have hbi':(as.map tN)[i]? = some (tN b):=by rw [bo,hbi]; rfl
   have s5:=Av (o:=HO.tup [.int (i:Int),x]) hT
   refine ⟨T0,_,rfl,ja Af,rfl,_,_,rfl,_,_,rfl,rfl,?_⟩
   generalize upd H4 T0 (HO.tup [.int (i:Int),x])=H5 at s5 ⊢
   obtain ⟨r,rfl,hr0⟩:=hxb.mono (s4.trans s5)
   have p5:=BL s5 hpr
   have d5:=s5 _ _ hd
   refine ⟨_,rfl,.inl ⟨rfl,_,ja d5⟩,_,rfl,r,_,_,_,rfl,rfl,ja hr0,Aj (j:=1) rfl,_,rfl,by omega,by omega,?_⟩
   rw [eD]
   refine Rm (n:=b.2.1) (fun e=>qV (i,e)) (BP (by omega)) (fun e he H6 s6 R k=>?_) (fun D6 H6 zs hD6 s6 hl6 hz6=>?_)
   ·refine ⟨_,rfl,_,rfl,by show 2<=sizeLine; decide,fun T6 hT6=>?_⟩
    exact k _ _ (Av hT6) ⟨T6,rfl,Af⟩
   ·have ly:=(BL s6 p5).length
    have lz:=hz6.length
    have lp:=Vh ((as.map tN).take i) 97 fun b hb=>by
     obtain ⟨a,ha,rfl⟩:=aS.mp (ck hb)
     exact hz a ha
    rw [bq,ag] at lp
    rw [gX] at lz
    have:min i as.length * 97<=12 * 97:=Nat.mul_le_mul_right _ (by omega)
    refine ⟨D,D6,ys,zs,rfl,rfl,s6 _ _ d5,hl6,fm (Ze (by omega)),?_⟩
    refine ⟨fun b u e=>?_,ys++zs,Af,?_,_,_,rfl⟩
    ·rw [Aq (Ao e hD)]
     exact s6 _ _ (s5 _ _ (s4 _ _ e))
    ·rw [M9 hbi']
     exact CV (BZ (BL s6 p5) (s6 _ _ d5)) (DN (F:=fun q y=>TupAt _ (qV q) y) (fun e=>(i,e)) (BZ hz6 (s6 _ _ d5)))
  ·rintro σ H4 ⟨s4,ys,hd,hpr,v2,v3,rfl⟩
   rw [← hul,dt (by rw [ag]; exact am _)] at hpr
   exact ⟨_,rfl,q D ys H4 hD s4 hd hpr⟩
theorem Qk {α:Type} (l:List α) (x:α):P0 (l++[x]) (-1)=some x:=by
 unfold P0 Xf
 rw [if_neg (by decide),if_pos (by rw [aE,cE]; omega)]
 show (l++[x])[(-1+(((l++[x]).length:Nat):Int)).toNat]? = some x
 have e:(-1+(((l++[x]).length:Nat):Int)).toNat=l.length:=by
  rw [aE,cE]
  omega
 rw [e,eR (am _),iS]
 rfl
theorem Km {H:Hp} {l:List Ln} {v:V} {A:Addr} {xs ys:List V} (h:G5 H l v) (hA:H A=some (.lst xs)) (hv:v ≠ .ref A):G5 (upd H A (.lst ys)) l v:=by
 obtain ⟨B,ts,rfl,h1,h2⟩:=h
 have:B ≠ A:=fun z=>hv (by rw [z])
 exact ⟨B,ts,rfl,by rw [Aq this]; exact h1,BZ h2 hA⟩
theorem Fy {α β:Type} {F G:α->β->Prop}:∀ {l:List α} {vs:List β},Paired F l vs->(∀ a b,b∈vs->F a b->G a b)->Paired G l vs
 | [],_,h,_=>by cases h; exact .nil
 | a::l,_,h,k=>by
  cases h with
  | cons x y=>exact .cons (k _ _ (bv ..) x) (Fy y fun a b hb=>k a b (bg _ hb))
theorem Im {α β:Type} {F:α->β->Prop}:∀ {l:List α} {z:α} {vs:List β},Paired F (l++[z]) vs->∃ us u,vs=us++[u]/\Paired F l us/\F z u
 | [],z,_,h=>by
  cases h with
  | cons x y=>cases y; exact ⟨[],_,rfl,.nil,x⟩
 | a::l,z,_,h=>by
  cases h with
  | cons x y =>
   obtain ⟨us,u,rfl,h1,h2⟩:=Im y
   exact ⟨_::us,u,rfl,.cons x h1,h2⟩
theorem Fw {α:Type} {l:List α} (h:l ≠ []):∃ a z,l=a++[z]:=⟨l.dropLast,l.getLast h,(List.dropLast_concat_getLast h).symm⟩
theorem Nf {rk:List (Str × Nat × Int)}:∀ {rs:List R},(∃ r∈rs,Hf r.w=true)->linesOf rk rs ≠ []:=by
 have key:∀ (n:Nat) (rs:List R),rs.length=n->(∃ r∈rs,Hf r.w=true)->linesOf rk rs ≠ []:=by
  intro n
  induction n with
  | zero =>
   rintro rs hl ⟨r,hr,_⟩
   cases rs with
   | nil=>cases hr
   | cons a b=>cases hl
  | succ n ih =>
   rintro rs hl ⟨r,hr,hk⟩
   obtain ⟨a,z,rfl⟩:=Fw (l:=rs) (by intro e; rw [e] at hl; cases hl)
   rw [Cw]
   rw [aE,cE] at hl
   unfold Do
   by_cases hz:Hf z.w=true
   ·rw [if_pos hz]
    simp
   ·rw [if_neg hz]
    have hr':r∈a:=by
     rcases cb.mp hr with h | h
     ·exact h
     ·rw [av.mp h] at hk
      exact absurd hk hz
    have ih':=ih a (by omega) ⟨r,hr',hk⟩
    split
    ·obtain ⟨b,y,e⟩:=Fw ih'
     rw [e,HN]
     simp
    ·exact ih'
 exact fun {rs} h=>key rs.length rs rfl h
noncomputable def cR:Sp:=fun vs H Q _=>∃ (p d:Addr) (us:List V) (ρ:V->R) (rk:List (Str × Nat × Int)) (kvs:List (Key × V)),vs=[.ref p,.ref d]/\H p=some (.lst us)/\Rows H ρ us/\us.length<=500/\H d=some (.dK kvs)/\(∀ (i:Nat) r,rk[i]? = some r->Cq kvs (Sum.inr r.1)=some (.int (i:Nat)))/\(rk.map (·.1)).Nodup /\
 (∀ (i:Nat) v,us[i]? = some v->(ρ v).w = "line"->(∃ (j:Nat) (r:Str × Nat × Int) (sh lo hi:Int),rk[j]? = some r/\r.1=(ρ v).nm/\(ρ v).rest=[.int sh,.int lo,.int hi])/\∃ u∈us.take i,Hf (ρ u).w=true)/\∀ D H',H D=none->Am H H'->Eh p H' D (linesOf rk (us.map ρ))->Q (.ref D) H'
theorem YH {rk:List (Str × Nat × Int)} {j:Nat} {r:Str × Nat × Int} (nd:(rk.map (·.1)).Nodup) (h:rk[j]? = some r):(rk.map (·.1)).idxOf r.1=j:=by
 have hj:j<(rk.map (·.1)).length:=by rw [ag]; exact (af.mp h).1
 have e:(rk.map (·.1))[j]=r.1:=by
  rw [fz]
  exact congrArg (·.1) (af.mp h).2
 rw [← e]
 exact List.Nodup.idxOf_getElem nd j hj
theorem YF:BX ["rows","rank_numbers","lines","row"] ["rows","rank_numbers"] (Ai jr):=Cj
include N T in
theorem fC:BW P w K mg base Br 1 aD.fLi aD.dLi ["rows","rank_numbers"] cR:=by
 refine N.FLi.1.ok YF (fun vs H Q E h=>?_) (fun cdv A outer s H vs Q E hr h=>?_)
 ·obtain ⟨p,d,us,ρ,rk,kvs,rfl,_⟩:=h
  rfl
 ·obtain ⟨p,d,us,ρ,rk,kvs,rfl,hp,hR,hl,hdk,hval,hnd,hln,q⟩:=h
  have hu:=FJ hr
  refine ⟨_,(Ae (Bj (i:=2) YF.nd rfl (Or.inl rfl) (Bh Ab))
   (Ae (Ez PassesOwn.never rfl (CN (pv 0)) (Cu (i:=3) YF.nd rfl (Or.inl rfl)) (Ae (Bf (A_ (J2 (K:=K) rfl) (BK (Ay (K:=K) rfl) (pv 3) Ac (fun _ _=>rfl)) (Be (v:=.ref aK) rfl T.mK rfl) rfl) (Ag (Cz (Fe aT ba be CK (pv 2) (Aa (Bh Ab) Ab)))) BR)
   (Ag (Bf (A_ Bw (BK (Ay (K:=K) rfl) (pv 3) Ac (fun _ _=>rfl)) Al (BV _)) (Ag (Cz (Fe aT ba be CK (BK (Ei (K:=K) rfl) (pv 2) (Ld JQ Ac) (fun _ _=>rfl)) (Aa (Bv (Aa (Ba hu (pv 1) (BK (Ay (K:=K) rfl) (pv 3) Ac (fun _ _=>rfl)) (fun _ _=>rfl)) (Aa (BK (Ay (K:=K) rfl) (pv 3) Ac (fun _ _=>rfl)) (Aa (BK (Ay (K:=K) rfl) (pv 3) Ac (fun _ _=>rfl)) (Aa (BK (Ay (K:=K) rfl) (pv 3) Ac (fun _ _=>rfl)) Ab))))) Ab)))) BR))))
   (Ag (Ax (pv 2))))),?_⟩
  refine ⟨Bl (by simp),fun D hD=>?_⟩
  have s0:=Av (o:=HO.lst []) hD
  have hS:Dh K H p us:=.inl (.inl hp)
  refine ⟨_,rfl,p,rfl,⟨_,s0.seq hS⟩,Iz (K:=K) (a:=p) (xs:=us) (fun i σ H4=>Am H H4/\∃ lv,H4 D=some (.lst lv)/\Paired (fun l v=>G5 H4 l v) (linesOf rk ((us.take i).map ρ)) lv/\lv.Nodup/\(∀ v∈lv,v ≠ .ref D)/\(∀ v∈lv,∃ A,v=.ref A/\H A=none)/\lv.length<=i/\(∀ l∈linesOf rk ((us.take i).map ρ),l.length<=i)/\∃ v3,σ=[some (.ref p),some (.ref d),some (.ref D),v3])
   ⟨s0,[],Af,.nil,ge,(fun v hv=>nomatch hv),(fun v hv=>nomatch hv),am _,(fun l hl=>nomatch hl),_,rfl⟩ (fun i σ H4 _ h=>h.1.seq hS) ?_ ?_⟩
  ·rintro i x σ H4 hx ⟨s4,lv,hd,hpr,nd,hne,hA0,hlv,hll,v3,rfl⟩
   have hm:=al hx
   have hi:i<us.length:=(af.mp hx).1
   obtain ⟨r,rfl,hr0⟩:=(hR.mono s4) x hm
   have etake:(us.take (i+1)).map ρ=(us.take i).map ρ++[ρ (.ref r)]:=by
    rw [fh,hx,cS]
    rfl
   have est:linesOf rk ((us.take (i+1)).map ρ)=Do rk (linesOf rk ((us.take i).map ρ)) (ρ (.ref r)):=by rw [etake,Cw]
   have lvl:(linesOf rk ((us.take i).map ρ)).length=lv.length:=hpr.length
   by_cases hk:Hf (ρ (.ref r)).w=true
   ·have hnl:¬ (ρ (.ref r)).w = "line":=fun z=>by rw [z] at hk; exact absurd hk (by decide +kernel)
    have est2:linesOf rk ((us.take (i+1)).map ρ)=linesOf rk ((us.take i).map ρ)++[[]]:=by rw [est]; unfold Do; rw [if_pos hk]
    refine ⟨_,rfl,r,_,_,_,rfl,rfl,ja hr0,Aj (j:=0) rfl,aK,_,rfl,.inr (T.tK.sq _),rfl,rfl,_,rfl,?_⟩
    refine Bd (fun _=>?_) (fun z=>absurd hk z)
    refine ⟨_,rfl,.inl ⟨rfl,_,ja hd⟩,Bl (by simp),fun p5 hp5=>?_⟩
    obtain ⟨H5,eqH,s5,u5⟩:=Bo (o:=HO.lst []) hp5
    rw [eqH]
    have hd5:=s5 _ _ hd
    refine ⟨D,lv,_,rfl,rfl,hd5,BP (by omega),?_⟩
    have hrD:r ≠ D:=Nr (s5 _ _ hr0) hd5 (by intro z; cases z)
    have hpD:p5 ≠ D:=fun z=>by rw [z,hd] at hp5; cases hp5
    refine ⟨_,rfl,r,_,_,_,rfl,rfl,ja (by rw [Aq hrD]; exact s5 _ _ hr0),Aj (j:=0) rfl,rfl,_,rfl,?_⟩
    refine Bd (fun z=>absurd (V.str.inj (of_decide_eq_true z)) hnl) (fun _=>?_)
    refine ⟨fun b u e=>?_,lv++[.ref p5],Af,?_,?_,?_,?_,by simp; omega,?_,_,rfl⟩
    ·rw [Aq (Ao e hD)]
     exact s5 _ _ (s4 _ _ e)
    ·rw [est2]
     refine CV (Fy hpr fun l v hv h=>Km (h.mono s5) hd5 (hne v hv)) (.cons ⟨p5,[],rfl,by rw [Aq hpD]; exact u5,.nil⟩ .nil)
    ·refine QJ nd fun hm=>?_
     obtain ⟨l,_,hA⟩:=Cm hpr hm
     obtain ⟨A,ts,e,h1,_⟩:=hA
     cases e
     rw [h1] at hp5
     cases hp5
    ·intro v hv
     rcases cb.mp hv with h | h
     ·exact hne v h
     ·rw [av.mp h]
      intro z
      exact hpD (V.ref.inj z)
    ·intro v hv
     rcases cb.mp hv with h | h
     ·exact hA0 v h
     ·exact ⟨p5,av.mp h,s4.free hp5⟩
    ·intro l hl'
     rw [est2] at hl'
     rcases cb.mp hl' with h | h
     ·exact iF (hll l h)
     ·rw [av.mp h]
      exact dL _
   ·refine ⟨_,rfl,r,_,_,_,rfl,rfl,ja hr0,Aj (j:=0) rfl,aK,_,rfl,.inr (T.tK.sq _),rfl,rfl,_,rfl,?_⟩
    refine Bd (fun z=>absurd z hk) (fun _=>?_)
    refine ⟨_,rfl,r,_,_,_,rfl,rfl,ja hr0,Aj (j:=0) rfl,rfl,_,rfl,?_⟩
    by_cases hwl:(ρ (.ref r)).w = "line"
    ·refine Bd (fun _=>?_) (fun z=>absurd (decide_eq_true (congrArg V.str hwl)) z)
     obtain ⟨⟨j,rr,sh,lo,hi',hj,hnm,hrest⟩,u,hu,hku⟩:=hln i _ hx hwl
     have hne0:linesOf rk ((us.take i).map ρ) ≠ []:=Nf ⟨ρ u,ce hu,hku⟩
     obtain ⟨ac,z,eac⟩:=Fw hne0
     rw [eac] at hpr
     obtain ⟨lv',v,rfl,hpr',hz⟩:=Im hpr
     obtain ⟨A,ts,rfl,hA,htp⟩:=hz
     have est2:linesOf rk ((us.take (i+1)).map ρ)=ac++[z++[⟨j,sh,lo,hi'⟩]]:=by
      rw [est]
      unfold Do
      rw [if_neg hk,if_pos hwl,eac,HN]
      unfold lnOf
      rw [hrest,← hnm,YH hnd hj]
     have hr1:H4 r=some (.tup [.str (ρ (.ref r)).w,.str (ρ (.ref r)).nm,.int sh,.int lo,.int hi']):=by rw [hr0,← hrest]
     have g:=CQ.k (k:=Sum.inr rr.1) (s4 _ _ hdk)
     rw [hval j rr hj,hnm] at g
     have hAD:A ≠ D:=fun e=>hne (.ref A) (by simp) (by rw [e])
     have hzl:z.length<=i:=hll z (by rw [eac]; simp)
     have htl:=htp.length
     refine ⟨_,rfl,_,rfl,D,_,_,_,rfl,rfl,ja hd,Qk lv' (V.ref A),.inl ⟨rfl,_,ja hA⟩,_,rfl,_,rfl,r,_,_,_,rfl,rfl,ja hr1,Aj (j:=1) rfl,d,_,rfl,g,_,rfl,r,_,_,_,rfl,rfl,ja hr1,Aj (j:=2) rfl,_,rfl,r,_,_,_,rfl,rfl,ja hr1,Aj (j:=3) rfl,_,rfl,r,_,_,_,rfl,rfl,ja hr1,Aj (j:=4) rfl,by show 4<=sizeLine; decide,fun T5 hT5=>?_⟩
     obtain ⟨H5,eqH,s5,u5⟩:=Bo (o:=HO.tup [.int (j:Nat),.int sh,.int lo,.int hi']) hT5
     rw [eqH]
     have hA5:=s5 _ _ hA
     have hTA:T5 ≠ A:=fun e=>by rw [e,hA] at hT5; cases hT5
     have hdj:D ≠ A:=fun e=>hAD e.symm
     obtain ⟨nd1,_,hdisj⟩:=fi.mp nd
     refine ⟨A,ts,_,rfl,rfl,hA5,BP (by omega),?_⟩
     refine ⟨fun b u e=>?_,lv'++[.ref A],by rw [Aq hdj]; exact s5 _ _ hd,?_,nd,hne,hA0,by omega,?_,_,rfl⟩
     ·obtain ⟨A',eA,hA'⟩:=hA0 (.ref A) (by simp)
      cases eA
      rw [Aq (Ao e hA')]
      exact s5 _ _ (s4 _ _ e)
     ·rw [est2]
      refine CV (Fy hpr' fun l v hv h=>Km (h.mono s5) hA5 (fun e=>hdisj v hv _ (av.mpr rfl) e)) (.cons ⟨A,ts++[.ref T5],rfl,Af,CV (BZ (BL s5 htp) hA5) (.cons ⟨T5,rfl,by rw [Aq hTA]; exact u5⟩ .nil)⟩ .nil)
     ·intro l hl'
      rw [est2] at hl'
      rcases cb.mp hl' with h | h
      ·exact iF (hll l (by rw [eac]; exact ci _ h))
      ·rw [av.mp h,aE,cE]
       omega
    ·refine Bd (fun z=>absurd (V.str.inj (of_decide_eq_true z)) hwl) (fun _=>?_)
     have est2:linesOf rk ((us.take (i+1)).map ρ)=linesOf rk ((us.take i).map ρ):=by rw [est]; unfold Do; rw [if_neg hk,if_neg hwl]
     rw [← est2] at hpr hll
     exact ⟨s4,lv,hd,hpr,nd,hne,hA0,by omega,fun l hl'=>iF (hll l hl'),_,rfl⟩
  ·rintro σ H4 ⟨s4,lv,hd,hpr,nd,hne,hA0,hlv,hll,v3,rfl⟩
   rw [eg] at hpr
   have hDp:D ≠ p:=Ne.symm (Ao hp hD)
   refine ⟨_,rfl,q D H4 hD s4 ⟨lv,hd,hDp,Fy hpr fun l v hv h=>⟨h,fun z=>?_⟩⟩⟩
   obtain ⟨A,e,hA⟩:=hA0 v hv
   rw [e] at z
   rw [V.ref.inj z,hp] at hA
   cases hA
noncomputable abbrev nV (l:List Nat):List V:=l.map fun n:Nat=>V.int (n:Int)
noncomputable def cT:Sp:=fun vs H Q _=>∃ i:Int,vs=[.int i]/\Q (.bl (decide (0<=i) && decide (i<1200))) H
theorem jO:BX ["thing"] ["thing"] (Ai iT):=Cj
include N T in
theorem d_:BW P w K mg base Br 2 aD.fMy aD.dMy ["thing"] cT:=by
 refine N.FMy.1.ok jO (fun vs H Q E h=>?_) (fun cdv A outer s H vs Q E hr h=>?_)
 ·obtain ⟨i,rfl,_⟩:=h
  rfl
 ·obtain ⟨i,rfl,q⟩:=h
  obtain ⟨tMB,hMB⟩:=T.below
  refine ⟨_,(Ag (Ax (Ck (Ah (XF N T) (ad hr) rfl N.FWh.2.2 N.FWh.1.kp N.FWh.2.1 .nil BJ (Aa (pv 0) Ab)) (CZ (Gr Fg FP Ac (pv 0) (Be (v:=.int 1200) rfl hMB ⟨tMB,rfl⟩)))))),?_⟩
  refine ⟨_,rfl,i,rfl,_,rfl,Dg ?_⟩
  refine ⟨_,rfl,_,_,rfl,rfl,_,rfl,?_⟩
  refine Bd (fun h1=>?_) (fun h1=>?_)
  ·rw [h1,Bool.true_and] at q
   exact ⟨_,_,rfl,rfl,q⟩
  ·rw [(ed _).mp h1,hV] at q
   exact q
noncomputable def bC:Sp:=fun vs H Q _=>∃ (p:Addr) (l:List Nat),vs=[.ref p]/\H p=some (.lst (nV l))/\l.length<=500/\(∀ n∈l,n<1200)/\∀ H',Am H H'->Q (.int (Wd.mk l:Nat)) H'
theorem eF (l:List Nat) (n:Nat):Builtin.bitOr ((Wd.mk l:Nat):Int) (1 * 2 ^ ((n:Nat):Int).toNat)=((Wd.mk (l++[n]):Nat):Int):=by
 rw [Int.one_mul,eD,Uw,Vs,Wd.Wf]
theorem V8:BX ["numbers","some","number"] ["numbers"] (Ai fc):=Cj
include N T in
theorem Zb:BW P w K mg base Br 3 aD.fSt aD.dSt ["numbers"] bC:=by
 refine N.FSt.1.ok V8 (fun vs H Q E h=>?_) (fun cdv A outer s H vs Q E hr h=>?_)
 ·obtain ⟨p,l,rfl,_⟩:=h
  rfl
 ·obtain ⟨p,l,rfl,hp,hz,hb,q⟩:=h
  refine ⟨_,(Ae (Bf (PW.pt (GF (Di (Ed (Ak CW rfl T.isin ai (Aa (pv 0) (Aa (DQ (v:=.ty "list") rfl T.list dv rfl) Ab))))) (Fi (Di (Ed (Ak (Fl rfl) rfl T.all dE (Aa (Bx rfl (Bg (osc:=Ai fc) (N:=["numbers","some","number"]) rfl rfl (by decide +kernel)) (CN (pv 0)) (fun _ _ _ _=>Ce) (fun _ _ _ _=>(Ah (d_ N T) (ad hr) rfl N.FMy.2.2 N.FMy.1.kp N.FMy.2.1 .nil BJ (Aa (pv 0) Ab)))) Ab))))))) (Ag Ir) BR)
   (Ae (Bj (i:=1) V8.nd rfl (Or.inl rfl) Ac)
   (Ae (Ez PassesOwn.never rfl (CN (pv 0)) (Cu (i:=2) V8.nd rfl (Or.inl rfl)) (Ag (Bj (i:=1) V8.nd rfl (Or.inl rfl) (Aw fB (pv 1) (Aw YG Ac (pv 2))))))
   (Ag (Ax (pv 1)))))),?_⟩
  have hS:Dh K H p (nV l):=.inl (.inl hp)
  refine ⟨_,rfl,_,"list",_,_,rfl,.lst hp,Oi,_,rfl,Cp ?_⟩
  have hzl:(nV l).length<sizeLine:=BP (by simp; omega)
  refine ⟨_,rfl,p,rfl,⟨_,hS⟩,DY (K:=K) (xs:=nV l) (fun _=>true) (fun _=>.bl true) hS hzl (fun x hx H' hs R k=>k H' (Am.refl H')) (fun x hx _ H' hs R k=>?_) (fun D H' hD hs hl=>?_)⟩
  ·obtain ⟨n,hn,rfl⟩:=aS.mp hx
   refine ⟨_,rfl,(n:Int),rfl,?_⟩
   have e:(decide ((0:Int)<=(n:Int)) && decide ((n:Int)<1200))=true:=by
    have:=hb n hn
    simp
    omega
   rw [e]
   exact k H' (Am.refl H')
  ·refine ⟨D,(nV l).map fun _=>true,rfl,.inl (.inl ?_),?_⟩
   ·rw [hl,ax.mpr (fun _ _=>rfl)]
    simp
   ·have e:((nV l).map fun _=>true).all id=true:=by simp
    rw [e]
    refine ⟨_,rfl,Cp ?_⟩
    refine ⟨_,rfl,p,rfl,⟨_,hs.seq hS⟩,Iz (K:=K) (a:=p) (xs:=nV l) (fun i σ H4=>H4=H'/\∃ v2,σ=[some (.ref p),some (.int (Wd.mk (l.take i):Nat)),v2]) ⟨rfl,_,rfl⟩ (fun i σ H4 _ h=>by rw [h.1]; exact hs.seq hS) ?_ ?_⟩
    ·rintro i y σ H4 hi ⟨rfl,v2,rfl⟩
     rw [bo] at hi
     obtain ⟨n,hn,rfl⟩:=de.mp hi
     have hn':=hb n (al hn)
     refine ⟨_,rfl,_,rfl,_,_,rfl,rfl,⟨by omega,by omega,by decide⟩,_,_,rfl,rfl,?_⟩
     refine ⟨rfl,some (.int (n:Int)),?_⟩
     dsimp only
     rw [eF,fh,hn]
     rfl
    ·rintro σ H4 ⟨rfl,v2,rfl⟩
     have el:l.take (nV l).length=l:=List.take_of_length_le (by simp)
     rw [el]
     exact ⟨_,rfl,q _ hs⟩
noncomputable def mD (nms:List Str):V->V
 | .str t=>.int (nms.idxOf t:Nat)
 | _=>.non
theorem RX {nms:List Str} {t:Str} (h:t∈nms):nms[nms.idxOf t]? = some t:=by
 rw [ae (List.idxOf_lt_length_of_mem h),List.getElem_idxOf]
noncomputable def Zx:Sp:=fun vs H Q _=>∃ (r kd:Addr) (ro:R) (kvs:List (Key × V)) (nms ts:List Str),vs=[.ref r,.ref kd]/\H r=some (.tup ro.v)/\H kd=some (.dK kvs)/\V.str ro.nm::ro.rest=ts.map V.str/\ts.length<=24/\nms.length<=300/\(∀ (i:Nat) t,nms[i]? = some t->Cq kvs (Sum.inr t)=some (.int (i:Nat)))/\(∀ t∈ts,t∈nms)/\∀ H',Am H H'->Q (.int (Wd.mk (ts.map fun t=>nms.idxOf t):Nat)) H'
theorem jm:BX ["row","knob_numbers"] ["row","knob_numbers"] (Ai fQ):=Cj
include N T in
theorem bQ:BW P w K mg base Br 4 aD.fSs aD.dSs ["row","knob_numbers"] Zx:=by
 refine N.FSs.1.ok jm (fun vs H Q E h=>?_) (fun cdv A outer s H vs Q E hr h=>?_)
 ·obtain ⟨r,kd,ro,kvs,nms,ts,rfl,_⟩:=h
  rfl
 ·obtain ⟨r,kd,ro,kvs,nms,ts,rfl,hr0,hkd,ets,h24,hnm,hval,hin,q⟩:=h
  have hu:=FJ hr
  refine ⟨_,(Ag (Ax (Ah (Zb N T) (ad hr) rfl N.FSt.2.2 N.FSt.1.kp N.FSt.2.1 .nil BJ (Aa (Bx rfl (Bg (osc:=Ai fQ) (N:=["row","knob_numbers"]) rfl rfl (by decide +kernel)) (KJ (Cr Gi (pv 0) (DG Ac) Dv)) (fun _ _ _ _=>Ce) (fun _ _ _ _=>(Ba hu (pv 2) (pv 0) (fun _ _=>rfl)))) Ab)))),?_⟩
  have hv:ro.v=V.str ro.w::ts.map V.str:=by
   show V.str ro.w::(V.str ro.nm::ro.rest)=_
   rw [ets]
  rw [hv] at hr0
  have e1:HT.Du (V.str ro.w::ts.map V.str).length 0 (some 1)=1:=by
   rw [show (some (1:Int))=some ((1:Nat):Int) from rfl,HT.DR]
   simp
  have hcut:Cv (V.str ro.w::ts.map V.str) (some 1) none=ts.map V.str:=by
   unfold Cv
   rw [e1,HT.Ew]
   simp
   exact dt (by rw [ag]; exact am _)
  refine ⟨_,rfl,_,rfl,r,_,rfl,ja hr0,?_,fun n0 hn0=>?_⟩
  ·rintro ⟨z,_⟩
   rw [e1] at z
   cases z
  rw [hcut]
  obtain ⟨H1,eqH,s1,a1⟩:=Bo (o:=HO.tup (ts.map V.str)) hn0
  rw [eqH]
  have hT:Fq K H1 n0 (ts.map V.str):=.inl (.inl a1)
  have ltm:(ts.map V.str).length=ts.length:=ag ..
  refine ⟨n0,rfl,⟨_,hT⟩,KR (K:=K) (xs:=ts.map V.str) (fun _=>true) (mD nms) hT (BP (by omega)) (fun x hx H' hs R k=>k H' (Am.refl H')) (fun x hx _ H' hs R k=>?_) (fun D H2 hD s2 hl2=>?_)⟩
  ·obtain ⟨t,ht,rfl⟩:=aS.mp hx
   have g:=CQ.k (k:=Sum.inr t) (hs _ _ (s1 _ _ hkd))
   rw [hval _ t (RX (hin t ht))] at g
   exact ⟨_,rfl,_,rfl,kd,_,rfl,g,k H' (Am.refl H')⟩
  ·rw [ax.mpr (fun _ _=>rfl),bX] at hl2
   have e2:ts.map (mD nms ∘ V.str)=nV (ts.map fun t=>nms.idxOf t):=by
    unfold nV
    rw [bX]
    rfl
   rw [e2] at hl2
   refine ⟨D,_,rfl,hl2,by rw [ag]; omega,fun n hn=>?_,fun H3 s3=>q H3 (s1.trans (s2.trans s3))⟩
   obtain ⟨t,ht,rfl⟩:=aS.mp hn
   have:=List.idxOf_lt_length_of_mem (hin t ht)
   omega
noncomputable def Xc:Sp:=fun vs H Q _=>∃ z:Str,vs=[.str z,.str letters,.int 8]/\Tx z/\∀ b H',Am H H'->(b=true ↔ isNm z)->Q (.bl b) H'
include N T in
theorem Ym:BW P w K mg base Br 1 aD.fMd aD.dMd ["text","signs","most"] Xc:=by
 refine N.FMd.1.ok bY (fun vs H Q E h=>?_) (fun cdv A outer s H vs Q E hr h=>?_)
 ·obtain ⟨z,rfl,_⟩:=h
  rfl
 ·obtain ⟨z,rfl,hz,q⟩:=h
  refine ⟨_,(Ag (Ax (Ck (Gr Fg Fg Ac (Ak I_ rfl T.len ar (Aa (pv 0) Ab)) (pv 2)) (CZ (Ak (Fl rfl) rfl T.all dE (Aa (Bx rfl (Bg (osc:=Ai Z1) (N:=["text","signs","most"]) rfl rfl (by decide +kernel)) (Sy (pv 0)) (fun _ _ _ _=>Ce) (fun _ _ _ _=>(Dj Le (pv 0) (pv 2) rfl))) Ab)))))),?_⟩
  have hzl:z.length<sizeLine:=BP hz.1
  have no:¬ isNm z->Q (.bl false) H:=fun h=>q false H (Am.refl H) ⟨fun z=>(nomatch z),fun z=>absurd z h⟩
  refine ⟨_,rfl,z,rfl,fm hzl,_,_,rfl,rfl,_,rfl,?_⟩
  refine Bd (fun h1=>?_) (fun h1=>⟨_,rfl,Cp (no fun c=>h1 (decide_eq_true (by have:=c.1; omega)))⟩)
  refine ⟨_,rfl,_,_,rfl,rfl,_,rfl,?_⟩
  refine Bd (fun h2=>?_) (fun h2=>no fun c=>h2 (decide_eq_true (by have:=c.2.1; omega)))
  refine ⟨_,rfl,z,rfl,Nm (fun _=>true) (fun c=>.bl (WP letters c)) hzl (fun c hc H' hs R k=>k H' (Am.refl H')) (fun c hc _ H' hs R k=>⟨_,rfl,_,rfl,_,_,rfl,rfl,k H' (Am.refl H')⟩) (fun D H' hD hs hl=>?_)⟩
  refine ⟨D,z.cps.toList.map (WP letters),rfl,.inl (.inl ?_),q _ H' hs ?_⟩
  ·rw [hl,ax.mpr (fun _ _=>rfl),bX]
   rfl
  ·rw [iX,cw]
   have b1:1<=z.length:=by have:=of_decide_eq_true h1; omega
   have b2:z.length<=8:=by have:=of_decide_eq_true h2; omega
   constructor
   ·intro h
    refine ⟨b1,b2,fun c hc=>?_⟩
    have e:WP letters c=true:=h c hc
    rw [MF c (hz.2 c hc)] at e
    exact of_decide_eq_true e
   ·intro h c hc
    show WP letters c=true
    rw [MF c (hz.2 c hc)]
    exact decide_eq_true (h.2.2 c hc)
theorem jY {K:PySem.W.Frag}:PySem.W.kitOne K (.type "int") (.type "str")=some false:=by kernel_rfl
theorem jK {K:PySem.W.Frag}:PySem.W.kitOne K (.type "bool") (.type "str")=some false:=by kernel_rfl
theorem jo {K:PySem.W.Frag}:PySem.W.kitOne K (.type "NoneType") (.type "str")=some false:=by kernel_rfl
theorem jw {K:PySem.W.Frag}:PySem.W.kitOne K (.type "list") (.type "str")=some false:=by kernel_rfl
theorem jN {K:PySem.W.Frag}:PySem.W.kitOne K (.type "tuple") (.type "str")=some false:=by kernel_rfl
noncomputable def isStr:V->Bool
 | .str _=>true
 | _=>false
theorem UW (K:PySem.W.Frag) {H:Hp} {v:V} (h:DK H v):∃ n,Ge K H v (.type n)/\PySem.W.kitOne K (.type n) (.type "str")=some (isStr v):=by
 cases h with
 | non=>exact ⟨_,.non,jo⟩
 | bl b=>exact ⟨_,.bl b,jK⟩
 | int i=>exact ⟨_,.int i,jY⟩
 | lst h=>exact ⟨_,.lst h,jw⟩
 | tup h=>exact ⟨_,.tup h,jN⟩
 | str h=>exact ⟨_,.str _,Nh⟩
noncomputable def Jt (v:V):Prop:=∃ t,v=.str t/\isNm t
noncomputable def Tt:Sp:=fun vs H Q _=>∃ v:V,vs=[v]/\DK H v/\∀ b H',Am H H'->(b=true ↔ Jt v)->Q (.bl b) H'
include N T in
theorem R8:BW P w K mg base Br 2 aD.fNm aD.dNm ["thing"] Tt:=by
 refine N.FNm.1.ok Zu (fun vs H Q E h=>?_) (fun cdv A outer s H vs Q E hr h=>?_)
 ·obtain ⟨v,rfl,_⟩:=h
  rfl
 ·obtain ⟨v,rfl,hv,q⟩:=h
  obtain ⟨tLET,hLET⟩:=T.letters
  obtain ⟨tML,hML⟩:=T.mostL
  refine ⟨_,(Ag (Ax (Ck (Ak CW rfl T.isin ai (Aa (pv 0) (Aa (DQ (v:=.ty "str") rfl T.str fe rfl) Ab))) (CZ (Ah (Ym N T) (ad hr) rfl N.FMd.2.2 N.FMd.1.kp N.FMd.2.1 .nil BJ (Aa (pv 0) (Aa (Be (v:=.str letters) rfl hLET ⟨tLET,rfl⟩) (Aa (Be (v:=.int 8) rfl hML ⟨tML,rfl⟩) Ab)))))))),?_⟩
  obtain ⟨n,e1,e2⟩:=UW K hv
  refine ⟨_,rfl,_,"str",_,_,rfl,e1,e2,_,rfl,?_⟩
  cases hv with
  | str h =>
   refine Dg ⟨_,rfl,_,rfl,h,fun b H' s hb=>q b H' s (hb.trans ⟨fun z=>⟨_,rfl,z⟩,fun ⟨t,e,z⟩=>by cases e; exact z⟩)⟩
  | _=>exact Cp (q false H (Am.refl H) ⟨fun z=>(nomatch z),fun ⟨t,e,z⟩=>(nomatch e)⟩)
theorem e_ (K:PySem.W.Frag) {H:Hp} {v:V} (h:DK H v):∃ n,Ge K H v (.type n)/\PySem.W.kitOne K (.type n) (.type "int")=some (match v with | .int _=>true | .bl _=>true | _=>false)/\PySem.W.kitOne K (.type n) (.type "bool")=some (match v with | .bl _=>true | _=>false):=by
 cases h with
 | non=>exact ⟨_,.non,by kernel_rfl,by kernel_rfl⟩
 | bl b=>exact ⟨_,.bl b,by kernel_rfl,by kernel_rfl⟩
 | int i=>exact ⟨_,.int i,by kernel_rfl,by kernel_rfl⟩
 | lst h=>exact ⟨_,.lst h,by kernel_rfl,by kernel_rfl⟩
 | tup h=>exact ⟨_,.tup h,by kernel_rfl,by kernel_rfl⟩
 | str h=>exact ⟨_,.str _,by kernel_rfl,by kernel_rfl⟩
noncomputable def mX:V->Bool
 | .int _=>true
 | _=>false
noncomputable def Wt:Sp:=fun vs H Q _=>∃ v:V,vs=[v]/\DK H v/\Q (.bl (mX v)) H
include N T in
theorem Yk:BW P w K mg base Br 1 aD.fWh aD.dWh ["thing"] Wt:=by
 refine N.FWh.1.ok cI (fun vs H Q E h=>?_) (fun cdv A outer s H vs Q E hr h=>?_)
 ·obtain ⟨v,rfl,_⟩:=h
  rfl
 ·obtain ⟨v,rfl,hv,q⟩:=h
  refine ⟨_,(Ag (Ax (Ck (Ak CW rfl T.isin ai (Aa (pv 0) (Aa (DQ (v:=.ty "int") rfl T.int ia rfl) Ab))) (CZ (J0 (Ak CW rfl T.isin ai (Aa (pv 0) (Aa (DQ (v:=.ty "bool") rfl T.bool gL rfl) Ab)))))))),?_⟩
  obtain ⟨n,e1,e2,e3⟩:=e_ K hv
  refine ⟨_,rfl,_,"int",_,_,rfl,e1,e2,_,rfl,?_⟩
  cases hv with
  | int i=>exact Dg ⟨_,rfl,_,"bool",_,_,rfl,e1,e3,_,rfl,q⟩
  | bl b=>exact Dg ⟨_,rfl,_,"bool",_,_,rfl,e1,e3,_,rfl,q⟩
  | _=>exact Cp q
noncomputable def GD (ρ:V->R) (us:List V) (w:Str) (v:V):Prop:=∃ t,v=.str t/\isNm t/\Hi ρ us w t=true
noncomputable def Sq:Sp:=fun vs H Q _=>∃ (p:Addr) (us:List V) (w:Str) (v:V) (ρ:V->R),vs=[.ref p,.str w,v]/\H p=some (.lst us)/\Rows H ρ us/\us.length<=500/\DK H v/\∀ b H',Am H H'->(b=true ↔ GD ρ us w v)->Q (.bl b) H'
include N T in
theorem Uq:BW P w K mg base Br 3 aD.fTo aD.dTo ["rows","word","thing"] Sq:=by
 refine N.FTo.1.ok d9 (fun vs H Q E h=>?_) (fun cdv A outer s H vs Q E hr h=>?_)
 ·obtain ⟨p,us,w,v,ρ,rfl,_⟩:=h
  rfl
 ·obtain ⟨p,us,w,v,ρ,rfl,hp,hR,hl,hv,q⟩:=h
  refine ⟨_,(Ag (Ax (Ck (Ah (R8 N T) (ad hr) rfl N.FNm.2.2 N.FNm.1.kp N.FNm.2.1 .nil BJ (Aa (pv 2) Ab)) (CZ (Ak (HB rfl) rfl T.any ff (Aa (Bx rfl (Bg (osc:=Ai Za) (N:=["rows","word","thing"]) rfl rfl (by decide +kernel)) (CN (Ah (Jj N T) (ad hr) rfl N.FRo.2.2 N.FRo.1.kp N.FRo.2.1 .nil BJ (Aa (pv 0) (Aa (pv 1) Ab)))) (fun _ _ _ _=>Ce) (fun _ _ _ _=>(Dj Bw (BK (Ay (K:=K) rfl) (pv 0) Ac (fun _ _=>rfl)) (pv 3) (BV _)))) Ab)))))),?_⟩
  refine ⟨_,rfl,v,rfl,hv,fun b H1 s1 hb=>⟨_,rfl,?_⟩⟩
  refine Bd (fun e=>?_) (fun e=>q false H1 s1 ⟨fun z=>(nomatch z),fun ⟨t,e1,e2,_⟩=>absurd (hb.mpr ⟨t,e1,e2⟩) e⟩)
  obtain ⟨t,rfl,ht⟩:=hb.mp e
  refine ⟨_,rfl,_,rfl,p,us,w,ρ,rfl,s1 _ _ hp,hR.mono s1,hl,fun D H2 hD s2 hl2=>?_⟩
  have hS:Dh K H2 D (us.filter (pw ρ w)):=.inl (.inl hl2)
  refine ⟨D,rfl,⟨_,hS⟩,DY (K:=K) (xs:=us.filter (pw ρ w)) (fun _=>true) (fun v=>.bl (pn ρ t v)) hS (BP (by have:=GC (pw ρ w) us; omega)) (fun x hx H' hs R k=>k H' (Am.refl H')) (fun x hx _ H' hs R k=>?_) (fun D3 H3 hD3 s3 hl3=>?_)⟩
  ·obtain ⟨T0,rfl,hT⟩:=(((hR.mono s1).mono s2).mono hs) x (bE.mp hx).1
   exact ⟨_,rfl,T0,_,_,_,rfl,rfl,ja hT,Aj (j:=1) rfl,_,rfl,rfl,k H' (Am.refl H')⟩
  ·refine ⟨D3,(us.filter (pw ρ w)).map (pn ρ t),rfl,.inl (.inl ?_),?_⟩
   ·rw [hl3,ax.mpr (fun _ _=>rfl),bX]
    rfl
   ·have e:((us.filter (pw ρ w)).map (pn ρ t)).any id=Hi ρ us w t:=by
     rw [iP]
     rfl
    rw [e]
    exact q _ H3 ((s1.trans s2).trans s3) ⟨fun z=>⟨t,rfl,ht,z⟩,fun ⟨t',e1,_,e3⟩=>by cases e1; exact e3⟩
noncomputable def inB (lo hi:Int):V->Bool
 | .int i=>decide (lo<=i) && decide (i<=hi)
 | _=>false
noncomputable def XC (K:PySem.W.Frag):Sp:=fun vs H Q _=>∃ (v:V) (lo hi:Int) (b:Addr),vs=[v,.ref b]/\KTup K b [.int lo,.int hi]/\DK H v/\Q (.bl (inB lo hi v)) H
include N T in
theorem YM:BW P w K mg base Br 2 aD.fWi aD.dWi ["thing","bounds"] (XC K):=by
 refine N.FWi.1.ok bZ (fun vs H Q E h=>?_) (fun cdv A outer s H vs Q E hr h=>?_)
 ·obtain ⟨v,lo,hi,b,rfl,_⟩:=h
  rfl
 ·obtain ⟨v,lo,hi,b,rfl,hb,hv,q⟩:=h
  refine ⟨_,(Ag (Ax (Ck (Ah (Yk N T) (ad hr) rfl N.FWh.2.2 N.FWh.1.kp N.FWh.2.1 .nil BJ (Aa (pv 0) Ab)) (CZ (Gr Fg Fg (BK (Ay (K:=K) rfl) (pv 1) Ac (fun _ _=>rfl)) (pv 0) (BK (Ay (K:=K) rfl) (pv 1) Ac (fun _ _=>rfl))))))),?_⟩
  refine ⟨_,rfl,v,rfl,hv,_,rfl,?_⟩
  cases hv with
  | int i =>
   refine Dg ⟨_,rfl,b,_,_,_,rfl,rfl,hb.sq _,Aj (j:=0) rfl,_,rfl,_,_,rfl,rfl,_,rfl,?_⟩
   refine Bd (fun e=>?_) (fun e=>?_)
   ·refine ⟨_,rfl,b,_,_,_,rfl,rfl,hb.sq _,Aj (j:=1) rfl,_,_,rfl,rfl,?_⟩
    have q':Q (.bl (decide (lo<=i) && decide (i<=hi))) H:=q
    rw [e,Bool.true_and] at q'
    exact q'
   ·have q':Q (.bl (decide (lo<=i) && decide (i<=hi))) H:=q
    rw [(ed _).mp e,hV] at q'
    exact q'
  | _=>exact Cp q
noncomputable def D_ (K:PySem.W.Frag) (aB:Addr) (ρ:V->R) (vs:List V) (x:V) (part:Str) (b:Bool):Prop :=
 (∃ (lo hi:Int) (a:Addr),PySem.W.nsIn K aB part=some (some (.ref a))/\KTup K a [.int lo,.int hi]/\b=inB lo hi x) \/
 (PySem.W.nsIn K aB part=some none/\part = "new" /\ (b=true ↔ Jt x/\∀ w∈named,¬ GD ρ vs w x)) \/
 (PySem.W.nsIn K aB part=some none/\¬ part = "new" /\ (b=true ↔ GD ρ vs part x))
noncomputable def XJ (K:PySem.W.Frag) (aB:Addr):Sp:=fun vs H Q _=>∃ (x:V) (part:Str) (p:Addr) (us:List V) (ρ:V->R) (b:Bool),vs=[x,.str part,.ref p]/\H p=some (.lst us)/\Rows H ρ us/\us.length<=500/\DK H x/\D_ K aB ρ us x part b/\∀ H',Am H H'->Q (.bl b) H'
include N T in
theorem X5:BW P w K mg base Br 4 aD.fPa aD.dPa ["thing","part","ahead"] (XJ K aB):=by
 refine N.FPa.1.ok Zw (fun vs H Q E h=>?_) (fun cdv A outer s H vs Q E hr h=>?_)
 ·obtain ⟨x,part,p,us,ρ,bb,rfl,_⟩:=h
  rfl
 ·obtain ⟨x,part,p,us,ρ,bb,rfl,hp,hR,hl,hx,hok,q⟩:=h
  refine ⟨_,(Ae (Bf (Sv (Lw (pv 1) (Be (v:=.ref aB) rfl T.mB rfl))) (Ag (Ax (Ah (YM N T) (ad hr) rfl N.FWi.2.2 N.FWi.1.kp N.FWi.2.1 .nil BJ (Aa (pv 0) (Aa (HX (Be (v:=.ref aB) rfl T.mB rfl) (pv 1) (fun _ _=>rfl)) Ab))))) BR)
   (Ae (Bf (A_ Bw (pv 1) Al (BV _)) (Ag (Ax (Ck (Ah (R8 N T) (ad hr) rfl N.FNm.2.2 N.FNm.1.kp N.FNm.2.1 .nil BJ (Aa (pv 0) Ab)) (CZ (J0 (Ak (HB rfl) rfl T.any ff (Aa (Bx rfl (Bg (osc:=Ai di) (N:=["thing","part","ahead"]) rfl rfl (by decide +kernel)) (KJ (Be (v:=.ref aN) rfl T.mN rfl)) (fun _ _ _ _=>Ce) (fun _ _ _ _=>(Ah (Uq N T) (ad hr) rfl N.FTo.2.2 N.FTo.1.kp N.FTo.2.1 .nil BJ (Aa (pv 3) (Aa (pv 0) (Aa (pv 1) Ab)))))) Ab))))))) BR)
   (Ag (Ax (Ah (Uq N T) (ad hr) rfl N.FTo.2.2 N.FTo.1.kp N.FTo.2.1 .nil BJ (Aa (pv 2) (Aa (pv 1) (Aa (pv 0) Ab)))))))),?_⟩
  rcases hok with ⟨lo,hi,a,hn,ha,rfl⟩ | ⟨hn,rfl,hb⟩ | ⟨hn,hne,hb⟩
  ·refine ⟨_,rfl,aB,part,_,rfl,rfl,T.dB,hn,_,rfl,Dg ?_⟩
   exact ⟨_,rfl,_,rfl,aB,part,.ref a,_,rfl,rfl,T.dB,hn,rfl,x,lo,hi,a,rfl,ha,hx,q H (Am.refl H)⟩
  ·refine ⟨_,rfl,aB,_,_,rfl,rfl,T.dB,hn,_,rfl,Cp ?_⟩
   refine ⟨_,rfl,rfl,_,rfl,Dg ?_⟩
   refine ⟨_,rfl,x,rfl,hx,fun b1 H1 s1 hb1=>⟨_,rfl,?_⟩⟩
   refine Bd (fun e=>?_) (fun e=>?_)
   ·have hnm:=hb1.mp e
    obtain ⟨t,rfl,ht⟩:=id hnm
    have hS:Fq K H1 aN (named.map V.str):=T.tN.sq _
    refine ⟨aN,rfl,⟨_,hS⟩,GJ (xs:=named.map V.str) (fun _=>true) (fun v=>.bl (match v with | .str w=>Hi ρ us w t | _=>false)) (by show 5<sizeLine; decide) (fun i H2 x hs hx=>⟨_,x,hs.tup hS,hx⟩) (fun i H2 y H3 hs _ hy=>⟨hy.1,hy.2 _ (hs.tup hS)⟩) (fun H2 hs=>⟨_,hs.tup hS,Nat.le_refl _⟩)
     (fun x hx H' hs R k=>k H' (Am.refl H')) (fun x hx _ H' hs R k=>?_) (fun D H2 hD s2 hl2=>?_)⟩
    ·obtain ⟨w0,hw0,rfl⟩:=aS.mp hx
     refine ⟨_,rfl,_,rfl,_,rfl,p,us,w0,.str t,ρ,rfl,hs _ _ (s1 _ _ hp),(hR.mono s1).mono hs,hl,.str ht.tx,fun b3 H'' s'' hb3=>?_⟩
     have e3:b3=Hi ρ us w0 t:=by
      rw [dl,hb3]
      exact ⟨fun ⟨t',e1,_,e2⟩=>by cases e1; exact e2,fun z=>⟨t,rfl,ht,z⟩⟩
     rw [e3]
     exact k H'' s''
    ·refine ⟨D,named.map fun w=>Hi ρ us w t,rfl,ja hl2,_,rfl,?_⟩
     have e4:(!(named.map fun w=>Hi ρ us w t).any id)=bb:=by
      rw [dl,hb,hU,List.any_eq_false]
      constructor
      ·intro h
       refine ⟨⟨t,rfl,ht⟩,fun w hw ⟨t',e1,_,e2⟩=>?_⟩
       cases e1
       exact h _ (ce hw) e2
      ·rintro ⟨_,h⟩ v hv z
       obtain ⟨w,hw,rfl⟩:=aS.mp hv
       exact h w hw ⟨t,rfl,ht,z⟩
     rw [e4]
     exact q H2 (s1.trans s2)
   ·have eb:bb=false:=by
     rw [Bool.eq_false_iff]
     exact fun z=>e (hb1.mpr (hb.mp z).1)
    have:=q H1 s1
    rw [eb] at this
    exact this
  ·refine ⟨_,rfl,aB,_,_,rfl,rfl,T.dB,hn,_,rfl,Cp ?_⟩
   refine ⟨_,rfl,rfl,_,rfl,?_⟩
   refine Bd (fun z=>absurd (V.str.inj (of_decide_eq_true z)) hne) (fun _=>?_)
   refine ⟨_,rfl,_,rfl,_,rfl,p,us,part,x,ρ,rfl,hp,hR,hl,hx,fun b1 H' hs hb1=>?_⟩
   have:b1=bb:=by rw [dl,hb1,hb]
   rw [this]
   exact q H' hs
noncomputable def S8 (K:PySem.W.Frag) (aB:Addr) (ρ:V->R) (us xs:List V) (ps:List Str):Prop:=xs.length=ps.length/\∀ (i:Nat) x y,xs[i]? = some x->ps[i]? = some y->D_ K aB ρ us x y true
noncomputable def pfB (K:PySem.W.Frag) (aB:Addr) (ρ:V->R) (us:List V) (x:V):V->Bool
 | .str y=>@ite Bool (D_ K aB ρ us x y true) (Classical.propDecidable _) true false
 | _=>false
theorem XM {K:PySem.W.Frag} {aB:Addr} {ρ:V->R} {us:List V} {x:V} {y:Str} (h:D_ K aB ρ us x y true):pfB K aB ρ us x (.str y)=true:=if_pos h
theorem Z6 {K:PySem.W.Frag} {aB:Addr} {ρ:V->R} {us:List V} {x:V} {y:Str} (h:¬ D_ K aB ρ us x y true):pfB K aB ρ us x (.str y)=false:=if_neg h
theorem Tz {K:PySem.W.Frag} {aB:Addr} {ρ:V->R} {us:List V} {x:V} {y:Str} (h:∃ b,D_ K aB ρ us x y b):D_ K aB ρ us x y (pfB K aB ρ us x (.str y)):=by
 by_cases e:D_ K aB ρ us x y true
 ·rw [XM e]
  exact e
 ·rw [Z6 e]
  obtain ⟨b,hb⟩:=h
  cases b with
  | true=>exact absurd hb e
  | false=>exact hb
noncomputable def Wl (K:PySem.W.Frag) (aB aP:Addr):Sp:=fun vs H Q _=>∃ (r p:Addr) (w:Str) (xs:List V) (us:List V) (ρ:V->R) (ap:Addr) (ps:List Str),vs=[.ref r,.ref p]/\H r=some (.tup (.str w::xs))/\H p=some (.lst us)/\Rows H ρ us/\us.length<=500 /\
 PySem.W.nsIn K aP w=some (some (.ref ap))/\KTup K ap (ps.map V.str)/\ps.length<=10/\(∀ x∈xs,DK H x)/\(∀ x∈xs,∀ y∈ps,∃ b,D_ K aB ρ us x y b)/\∀ b H',Am H H'->(b=true ↔ S8 K aB ρ us xs ps)->Q (.bl b) H'
include N T in
theorem Xl:BW P w K mg base Br 5 aD.fHp aD.dHp ["row","ahead"] (Wl K aB aP):=by
 refine N.FHp.1.ok WQ (fun vs H Q E h=>?_) (fun cdv A outer s H vs Q E hr h=>?_)
 ·obtain ⟨r,p,w,xs,us,ρ,ap,ps,rfl,_⟩:=h
  rfl
 ·obtain ⟨r,p,w,xs,us,ρ,ap,ps,rfl,hr0,hp,hR,hl,hn,hap,hps,hod,hok,q⟩:=h
  refine ⟨_,(Ae (Bj (i:=2) WQ.nd rfl (Or.inl rfl) (HX (Be (v:=.ref aP) rfl T.mP rfl) (BK (Ay (K:=K) rfl) (pv 0) Ac (fun _ _=>rfl)) (fun _ _=>rfl)))
   (Ae (Bf (A_ Ku (Ak Az rfl T.len ar (Aa (pv 0) Ab)) (Aw CT Ac (Ak Az rfl T.len ar (Aa (pv 2) Ab))) (BV _)) (Ag (Ax Ek)) BR)
   (Ag (Ax (Ak (Fl rfl) rfl T.all dE (Aa (Qv rfl (KH (osc:=Ai dW) (N:=["row","ahead","parts"]) rfl rfl (by decide +kernel)) (QX rfl T.zip (Aa (Cr Gi (pv 0) (DG Ac) Dv) (Aa (pv 2) Ab))) (fun _ _ _ _=>Ce) (fun _ _ _ _=>(Ah (X5 N T) (ad hr) rfl N.FPa.2.2 N.FPa.1.kp N.FPa.2.1 .nil BJ (Aa (pv 0) (Aa (pv 1) (Aa (pv 3) Ab)))))) Ab)))))),?_⟩
  refine ⟨_,rfl,r,_,_,_,rfl,rfl,ja hr0,Aj (j:=0) rfl,aP,w,.ref ap,_,rfl,rfl,T.dP,hn,rfl,?_⟩
  refine ⟨_,rfl,r,_,rfl,.inr (.inl (.inl hr0)),_,rfl,ap,_,rfl,.inr (hap.sq _),_,_,rfl,rfl,rfl,_,rfl,?_⟩
  by_cases hlen:xs.length=ps.length
  case neg =>
   refine Bd (fun _=>?_) (fun z=>?_)
   ·exact q false H (Am.refl H) ⟨fun z=>(nomatch z),fun z=>absurd z.1 hlen⟩
   ·exfalso
    refine z ?_
    rw [hU]
    refine decide_eq_false fun e=>hlen ?_
    have:=V.int.inj e
    rw [aI,ag] at this
    omega
  refine Bd (fun z=>?_) (fun _=>?_)
  ·exfalso
   have e:(((V.str w::xs).length:Nat):Int)=1+(((ps.map V.str).length:Nat):Int):=by
    rw [aI,ag,hlen]
    omega
   rw [e] at z
   simp at z
  ·have hcut:Cv (V.str w::xs) (some 1) none=xs:=by
    unfold Cv
    have e1:HT.Du (V.str w::xs).length 0 (some ((1:Nat):Int))=1:=by rw [HT.DR,aI]; omega
    have e1':HT.Du (V.str w::xs).length 0 (some (1:Int))=1:=e1
    rw [e1',HT.Ew,List.drop_succ_cons,List.drop_zero]
    exact dt (by rw [aI]; omega)
   refine ⟨_,rfl,_,rfl,r,_,rfl,ja hr0,(fun z=>?_),fun p2 hp2=>?_⟩
   ·have e1:HT.Du (V.str w::xs).length 0 (some ((1:Nat):Int))=1:=by rw [HT.DR,aI]; omega
    have:=z.1.symm.trans e1
    cases this
   rw [hcut]
   obtain ⟨H2,eqH,s2,a2⟩:=Bo (o:=HO.tup xs) hp2
   rw [eqH]
   have h1:Fq K H2 p2 xs:=.inl (.inl a2)
   refine ⟨_,rfl,p2,ap,rfl,⟨_,h1⟩,⟨_,hap.sq _⟩,NZ (K:=K) (xs:=xs) (ys:=ps.map V.str) (fun x y=>.bl (pfB K aB ρ us x y)) h1 (hap.sq _) (by rw [ag]; exact hlen) (BP (by omega)) (fun i x y hx hy H3 s3 R k=>?_) (fun D H3 hD s3 hl3=>?_)⟩
   ·rw [bo] at hy
    obtain ⟨part,hpart,rfl⟩:=de.mp hy
    have hxm:=al hx
    exact ⟨_,rfl,_,rfl,_,rfl,x,part,p,us,ρ,_,rfl,s3 _ _ (s2 _ _ hp),(hR.mono s2).mono s3,hl,(hod x hxm).mono (s2.trans s3),Tz (hok x hxm part (al hpart)),fun H4 s4=>k H4 s4⟩
   ·have e:List.zipWith (fun x y=>V.bl (pfB K aB ρ us x y)) xs (ps.map V.str)=(List.zipWith (fun x y=>pfB K aB ρ us x y) xs (ps.map V.str)).map V.bl:=by
     rw [List.map_zipWith]
    rw [e] at hl3
    refine ⟨D,List.zipWith (fun x y=>pfB K aB ρ us x y) xs (ps.map V.str),rfl,ja hl3,q _ H3 (s2.trans s3) ?_⟩
    rw [cw]
    constructor
    ·intro h
     refine ⟨hlen,fun i x y hx hy=>?_⟩
     have hz:(List.zipWith (fun x y=>pfB K aB ρ us x y) xs (ps.map V.str))[i]? = some (pfB K aB ρ us x (.str y)):=by
      rw [hZ,hx,bo,hy]
      rfl
     have hb:pfB K aB ρ us x (.str y)=true:=h _ (al hz)
     have:=Tz (hok x (al hx) y (al hy))
     rw [hb] at this
     exact this
    ·rintro ⟨_,h⟩ b hb
     obtain ⟨i,hi,rfl⟩:=dc hb
     rw [List.length_zipWith] at hi
     have hi1:i<xs.length:=by omega
     have hi2:i<ps.length:=by rw [ag] at hi; omega
     rw [List.getElem_zipWith]
     show pfB K aB ρ us xs[i] (ps.map V.str)[i]=true
     rw [fz]
     exact XM (h i _ _ (ae hi1) (ae hi2))
noncomputable def L_ (ρ:V->R) (us:List V) (lo hi:Int):Prop:=∃ (cnt:Nat) (v:V) (bd:Str) (rs:List V),Hn ρ us cnt/\cnt<4/\us[us.length - 1 - cnt]? = some v/\(ρ v).w = "stop" /\ (ρ v).rest=.str bd::rs/\lo<=hi/\keyOf ρ us bd hi=true
theorem Ia {ρ:V->R} {us:List V} {i j:Nat} (h:Hn ρ us i) (g:Hn ρ us j):i=j:=by
 refine Classical.byContradiction fun n=>?_
 rcases Nat.lt_or_gt_of_ne n with e | e
 ·obtain ⟨v,h1,h2⟩:=h.no
  obtain ⟨u,g1,g2⟩:=g.all i e
  rw [h1] at g1
  cases g1
  exact h2 g2
 ·obtain ⟨v,h1,h2⟩:=g.no
  obtain ⟨u,g1,g2⟩:=h.all j e
  rw [h1] at g1
  cases g1
  exact h2 g2
noncomputable def XN:Sp:=fun vs H Q _=>∃ (r p:Addr) (w nm:V) (sh lo hi:Int) (us:List V) (ρ:V->R) (cnt:Nat),vs=[.ref r,.ref p]/\H r=some (.tup [w,nm,.int sh,.int lo,.int hi])/\H p=some (.lst us)/\Rows H ρ us/\us.length<=500/\Hn ρ us cnt/\(∀ v∈us,(ρ v).w = "stop"->∃ bd rs,(ρ v).rest=.str bd::rs)/\Dd ρ us/\∀ b H',Am H H'->(b=true ↔ L_ ρ us lo hi)->Q (.bl b) H'
include N T in
theorem Xw:BW P w K mg base Br 3 aD.fSb aD.dSb ["line","ahead"] XN:=by
 refine N.FSb.1.ok RC (fun vs H Q E h=>?_) (fun cdv A outer s H vs Q E hr h=>?_)
 ·obtain ⟨r,p,w,nm,sh,lo,hi,us,ρ,cnt,rfl,_⟩:=h
  rfl
 ·obtain ⟨r,p,w,nm,sh,lo,hi,us,ρ,cnt,rfl,hr1,hp,hR,hl,hc,hst,hB,q⟩:=h
  obtain ⟨tML4,hML4⟩:=T.mostLn
  refine ⟨_,(Ae (Bj (i:=2) RC.nd rfl (Or.inl rfl) (Ah (XS N T) (ad hr) rfl N.FCl.2.2 N.FCl.1.kp N.FCl.2.1 .nil BJ (Aa (pv 1) Ab)))
   (Ae (Bj (i:=3) RC.nd rfl (Or.inl rfl) (BK Bt (pv 1) (Aw Dc (Aw Dc (Ak Az rfl T.len ar (Aa (pv 1) Ab)) Ac) (pv 2)) (fun _ _=>rfl)))
   (Ae (Bf (PW.pt (GF (A_ Ku (BK (Ay (K:=K) rfl) (pv 3) Ac (fun _ _=>rfl)) Al (BV _)) (Fi (A_ Qn (pv 2) (Be (v:=.int 4) rfl hML4 ⟨tML4,rfl⟩) (BV _))))) (Ag (Ax Ek)) BR)
   (Ag (Ax (Ck (Dj Fg (BK (Ay (K:=K) rfl) (pv 0) Ac (fun _ _=>rfl)) (BK (Ay (K:=K) rfl) (pv 0) Ac (fun _ _=>rfl)) (BV _)) (CZ (Ah (Wx N T) (ad hr) rfl N.FIk.2.2 N.FIk.1.kp N.FIk.2.1 .nil BJ (Aa (BK (Ay (K:=K) rfl) (pv 0) Ac (fun _ _=>rfl)) (Aa (BK (Ay (K:=K) rfl) (pv 3) Ac (fun _ _=>rfl)) (Aa (pv 1) Ab))))))))))),?_⟩
  have hS:Dh K H p us:=.inl (.inl hp)
  obtain ⟨v,hv,hnl⟩:=hc.no
  obtain ⟨r2,rfl,hr2⟩:=hR v (al hv)
  have hlt:=hc.lt
  have ei:((us.length:Nat):Int) - 1 - ((cnt:Nat):Int)=((us.length - 1 - cnt:Nat):Int):=by omega
  have no:(∀ (cnt':Nat) v' (bd:Str) (rs:List V),cnt'=cnt->us[us.length - 1 - cnt]? = some v'->(ρ v').w = "stop"->(ρ v').rest=.str bd::rs->cnt<4->lo<=hi->keyOf ρ us bd hi=true->False)->∀ H',Am H H'->Q (.bl false) H':=fun h H' s=>q false H' s ⟨fun z=>(nomatch z),fun ⟨cnt',v',bd,rs,g1,g2,g3,g4,g5,g6,g7⟩=>by
   have e:=Ia g1 hc
   subst e
   exact (h _ v' bd rs rfl g3 g4 g5 g2 g6 g7).elim⟩
  refine ⟨_,rfl,p,us,ρ,cnt,rfl,hp,hR,hl,hc,?_⟩
  refine ⟨_,rfl,_,rfl,p,us,rfl,.inl hS,_,_,rfl,rfl,_,rfl,_,_,rfl,rfl,p,us,_,_,rfl,rfl,hS,(by rw [ei]; exact Aj hv),?_⟩
  refine ⟨_,rfl,r2,_,_,_,rfl,rfl,ja hr2,Aj (j:=0) rfl,rfl,_,rfl,?_⟩
  by_cases hw:(ρ (.ref r2)).w = "stop"
  case neg =>
   refine Bd (fun _=>?_) (fun z=>absurd (by rw [decide_eq_false fun e=>hw (V.str.inj e)]; rfl) z)
   exact no (fun _ v' _ _ _ g3 g4 _ _ _ _=>by rw [hv] at g3; cases g3; exact hw g4) H (Am.refl H)
  refine Ue (congrArg V.str hw) ?_
  refine ⟨_,rfl,_,_,rfl,rfl,_,rfl,?_⟩
  refine Bd (fun z=>?_) (fun z=>?_)
  ·have h4:=of_decide_eq_true z
   exact no (fun _ _ _ _ _ _ _ _ g _ _=>by omega) H (Am.refl H)
  have h4:cnt<4:=Classical.byContradiction fun g=>z (decide_eq_true (by omega))
  obtain ⟨bd,rs,hrest⟩:=hst _ (al hv) hw
  have hr2':H r2=some (.tup (.str (ρ (.ref r2)).w :: .str (ρ (.ref r2)).nm :: .str bd::rs)):=by rw [hr2,← hrest]
  refine ⟨_,rfl,r,_,_,_,rfl,rfl,ja hr1,Aj (j:=3) rfl,_,rfl,r,_,_,_,rfl,rfl,ja hr1,Aj (j:=4) rfl,_,_,rfl,rfl,_,rfl,?_⟩
  refine Bd (fun hle=>?_) (fun hle=>no (fun _ _ _ _ _ _ _ _ _ g _=>hle (decide_eq_true g)) H (Am.refl H))
  refine ⟨_,rfl,r,_,_,_,rfl,rfl,ja hr1,Aj (j:=4) rfl,_,rfl,r2,_,_,_,rfl,rfl,ja hr2',Aj (j:=2) rfl,_,rfl,hi,bd,p,us,ρ,rfl,hp,hR,hl,hB,fun H' s'=>?_⟩
  refine q _ H' s' ⟨fun g=>⟨cnt,_,bd,rs,hc,h4,hv,hw,hrest,of_decide_eq_true hle,g⟩,fun ⟨cnt',v',bd',rs',g1,g2,g3,g4,g5,g6,g7⟩=>?_⟩
  have e:=Ia g1 hc
  subst e
  rw [hv] at g3
  cases g3
  rw [hrest] at g5
  cases g5
  exact g7
theorem M7:∀ (ns:List Str) (σ:List Str),(ns.foldl Ws.Em σ).length=σ.length+ns.length->σ.Nodup->(σ++ns).Nodup
 | [],σ,_,h=>by rw [dQ]; exact h
 | k::ns,σ,hl,h=>by
  rw [List.foldl_cons] at hl
  have h2:=Ws.JW ns (Ws.Em σ k)
  rw [aI] at hl
  by_cases hk:k∈σ
  ·have e:Ws.Em σ k=σ:=if_pos hk
   rw [e] at hl h2
   omega
  ·have e:Ws.Em σ k=σ++[k]:=if_neg hk
   rw [e] at hl
   have nd:(σ++[k]).Nodup:=List.nodup_append.mpr ⟨h,by simp,fun a ha b hb=>by rw [List.mem_singleton.mp hb]; exact fun z=>hk (z ▸ ha)⟩
   have:=M7 ns (σ++[k]) (by rw [hl,aE,cE]; omega) nd
   rw [eI] at this
   exact this
noncomputable def Uv (ρ:V->R) (us xs:List V):Prop:=xs ≠ []/\∃ ts:List Str,xs=ts.map V.str/\ts.Nodup/\∀ t∈ts,isNm t/\Hi ρ us "stop" t=true
noncomputable def toF (ρ:V->R) (us:List V) (w:Str) (x:V):Bool:=@ite Bool (GD ρ us w x) (Classical.propDecidable _) true false
theorem Mu {ρ:V->R} {us:List V} {w:Str} {x:V}:toF ρ us w x=true ↔ GD ρ us w x:=by
 unfold toF
 by_cases h:GD ρ us w x
 ·rw [if_pos h]; exact ⟨fun _=>h,fun _=>rfl⟩
 ·rw [if_neg h]; exact ⟨fun z=>(nomatch z),fun z=>absurd z h⟩
noncomputable def Wk:Sp:=fun vs H Q _=>∃ (r p:Addr) (wd:V) (xs us:List V) (ρ:V->R),vs=[.ref r,.ref p]/\H r=some (.tup (wd::xs))/\H p=some (.lst us)/\Rows H ρ us/\us.length<=500/\xs.length<=100/\(∀ x∈xs,DK H x)/\∀ b H',Am H H'->(b=true ↔ Uv ρ us xs)->Q (.bl b) H'
include N T in
theorem Xp:BW P w K mg base Br 5 aD.fIs aD.dIs ["row","ahead"] Wk:=by
 refine N.FIs.1.ok VP (fun vs H Q E h=>?_) (fun cdv A outer s H vs Q E hr h=>?_)
 ·obtain ⟨r,p,wd,xs,us,ρ,rfl,_⟩:=h
  rfl
 ·obtain ⟨r,p,wd,xs,us,ρ,rfl,hr0,hp,hR,hl,hxl,hod,q⟩:=h
  refine ⟨_,(Ae (Bj (i:=2) VP.nd rfl (Or.inl rfl) (Cr Gi (pv 0) (DG Ac) Dv))
   (Ae (Bf (PW.pt (GF (A_ Bw (Ak Az rfl T.len ar (Aa (pv 2) Ab)) Ac (BV _)) (Fi (Di (Ed (Ak (Fl rfl) rfl T.all dE (Aa (Bx rfl (Bg (osc:=Ai ak) (N:=["row","ahead","names"]) rfl rfl (by decide +kernel)) (KJ (pv 2)) (fun _ _ _ _=>Ce) (fun _ _ _ _=>(Ah (Uq N T) (ad hr) rfl N.FTo.2.2 N.FTo.1.kp N.FTo.2.1 .nil BJ (Aa (pv 2) (Aa Al (Aa (pv 0) Ab)))))) Ab))))))) (Ag (Ax Ek)) BR)
   (Ag (Ax (Dj Bw (Ak Hl rfl T.len ar (Aa (Dw (LQ rfl) rfl T.set PyProof.Rows.boot_set (Aa (pv 2) Ab)) Ab)) (Ak Az rfl T.len ar (Aa (pv 2) Ab)) (BV _)))))),?_⟩
  have e1:HT.Du (wd::xs).length 0 (some 1)=1:=by
   rw [show (some (1:Int))=some ((1:Nat):Int) from rfl,HT.DR]
   simp
  have hcut:Cv (wd::xs) (some 1) none=xs:=by
   unfold Cv
   rw [e1,HT.Ew]
   simp
  refine ⟨_,rfl,_,rfl,r,_,rfl,ja hr0,?_,fun n0 hn0=>?_⟩
  ·rintro ⟨z,_⟩
   rw [e1] at z
   cases z
  rw [hcut]
  obtain ⟨H1,eqH,s1,a1⟩:=Bo (o:=HO.tup xs) hn0
  rw [eqH]
  have hT:Fq K H1 n0 xs:=.inl (.inl a1)
  refine ⟨_,rfl,n0,_,rfl,.inr hT,rfl,_,rfl,Bd (fun z=>?_) (fun z=>?_)⟩
  ·have h0:=V.int.inj (of_decide_eq_true z)
   exact q false H1 s1 ⟨fun z=>(nomatch z),fun z=>absurd (List.length_eq_zero_iff.mp (by omega)) z.1⟩
  have hne:xs ≠ []:=fun e=>z (decide_eq_true (by rw [e]; rfl))
  refine ⟨_,rfl,n0,rfl,⟨_,hT⟩,KR (K:=K) (xs:=xs) (fun _=>true) (fun x=>.bl (toF ρ us "stop" x)) hT (BP (by omega)) (fun x hx H' hs R k=>k H' (Am.refl H')) (fun x hx _ H' hs R k=>?_) (fun D H2 hD s2 hl2=>?_)⟩
  ·refine ⟨_,rfl,_,rfl,p,us,"stop",x,ρ,rfl,hs _ _ (s1 _ _ hp),(hR.mono s1).mono hs,hl,(hod x hx).mono (s1.trans hs),fun b H3 s3 hb=>?_⟩
   have:b=toF ρ us "stop" x:=by rw [dl,hb,Mu]
   rw [this]
   exact k H3 s3
  ·refine ⟨D,xs.map (toF ρ us "stop"),rfl,.inl (.inl ?_),_,rfl,?_⟩
   ·rw [hl2,ax.mpr (fun _ _=>rfl),bX]
    rfl
   refine Bd (fun ha=>?_) (fun ha=>?_)
   ·have hna:¬ (xs.map (toF ρ us "stop")).all id=true:=by
     rw [hU] at ha
     rw [ha]
     exact cr
    refine q false H2 (s1.trans s2) ⟨fun z=>(nomatch z),fun ⟨_,ts,ets,_,hts⟩=>absurd ?_ hna⟩
    rw [iX,cw]
    intro x hx
    rw [ets] at hx
    obtain ⟨t,ht,rfl⟩:=aS.mp hx
    exact Mu.mpr ⟨t,rfl,(hts t ht).1,(hts t ht).2⟩
   have hall:∀ x∈xs,GD ρ us "stop" x:=fun x hx=>by
    have:(xs.map (toF ρ us "stop")).all id=true:=by
     rw [hU,Bool.not_eq_false] at ha
     exact ha
    rw [iX,cw] at this
    exact Mu.mp (this x hx)
   obtain ⟨ts,ets,hts⟩:∃ ts:List Str,xs=ts.map V.str/\∀ t∈ts,isNm t/\Hi ρ us "stop" t=true:=by
    have:∀ l:List V,(∀ x∈l,GD ρ us "stop" x)->∃ ts:List Str,l=ts.map V.str/\∀ t∈ts,isNm t/\Hi ρ us "stop" t=true:=fun l=>by
     induction l with
     | nil=>exact fun _=>⟨[],rfl,fun _ h=>nomatch h⟩
     | cons x l ih =>
      intro h
      obtain ⟨t,rfl,h1,h2⟩:=h x (bv ..)
      obtain ⟨ts,rfl,h3⟩:=ih fun y hy=>h y (bg _ hy)
      refine ⟨t::ts,rfl,fun t' ht'=>?_⟩
      rcases cm.mp ht' with rfl | z
      ·exact ⟨h1,h2⟩
      ·exact h3 t' z
    exact this xs hall
   have hT2:=s2 _ _ a1
   rw [ets] at hT2
   have hlt:ts.length<=100:=by rw [ets,ag] at hxl; exact hxl
   refine ⟨_,rfl,n0,ts,rfl,ja hT2,by omega,fun S hS=>?_⟩
   have s3:=Av (o:=La P w S (ts.foldl Ws.Em [])) hS
   refine ⟨S,_,rfl,Af,_,rfl,n0,_,rfl,.inr (.inl (.inl (s3 _ _ hT2))),rfl,?_⟩
   refine q _ _ (s1.trans (s2.trans s3)) ?_
   rw [decide_eq_true_eq]
   constructor
   ·intro h
    have h':=V.int.inj h
    rw [ag] at h'
    have nd:=M7 ts [] (by rw [ij,Nat.zero_add]; omega) ge
    rw [fN] at nd
    exact ⟨hne,ts,ets,nd,hts⟩
   ·rintro ⟨_,ts',ets',nd,_⟩
    have e:ts'=ts:=by
     rw [ets] at ets'
     exact ((List.map_inj_right (fun a b h=>V.str.inj h)).mp ets').symm
    subst e
    have e2:ts'.foldl Ws.Em []=ts':=(JR ts' [] (by rw [fN]; exact nd)).trans (fN _)
    rw [e2,ag]
noncomputable def jH (K:PySem.W.Frag) (aP:Addr) (w:Str) (pk:Option (List Str)):Prop:=(pk=none/\PySem.W.nsIn K aP w=some none/\¬ w = "line") \/ ∃ ap ps,pk=some ps/\PySem.W.nsIn K aP w=some (some (.ref ap))/\KTup K ap (ps.map V.str)/\ps.length<=10
noncomputable def eU (ρ:V->R) (us xs:List V):Prop:=∃ (nm:V) (sh lo hi:Int),xs=[nm,.int sh,.int lo,.int hi]/\L_ ρ us lo hi
noncomputable def U5 (K:PySem.W.Frag) (aB:Addr) (ρ:V->R) (us:List V) (w:Str) (xs:List V) (pk:Option (List Str)):Prop:=(w = "step" /\ Uv ρ us xs) \/ (¬ w = "step" /\ ∃ ps,pk=some ps/\S8 K aB ρ us xs ps/\(w = "line"->eU ρ us xs))
structure RL (K:PySem.W.Frag) (aB aP:Addr) (H:Hp) (ρ:V->R) (us:List V) (w:Str) (xs:List V) (pk:Option (List Str)):Prop where
 xl:xs.length<=100
 od:∀ x∈xs,DK H x
 tot:∀ ps,pk=some ps->∀ x∈xs,∀ y∈ps,∃ b,D_ K aB ρ us x y b
 ln:w = "line"->∀ ps,pk=some ps->S8 K aB ρ us xs ps->∃ (nm:V) (sh lo hi:Int) (cnt:Nat),xs=[nm,.int sh,.int lo,.int hi]/\Hn ρ us cnt
 ps:¬ w = "step"->jH K aP w pk
theorem RL.mono {K:PySem.W.Frag} {aB aP:Addr} {H H':Hp} {ρ:V->R} {us:List V} {w:Str} {xs:List V} {pk:Option (List Str)} (s:Am H H') (h:RL K aB aP H ρ us w xs pk):RL K aB aP H' ρ us w xs pk:=⟨h.xl,fun x hx=>(h.od x hx).mono s,h.tot,h.ln,h.ps⟩
structure GX (ρ:V->R) (us:List V):Prop where
 st:∀ v∈us,(ρ v).w = "stop"->∃ bd rs,(ρ v).rest=.str bd::rs
 bd:Dd ρ us
noncomputable def Wr (K:PySem.W.Frag) (aB aP:Addr):Sp:=fun vs H Q _=>∃ (r p:Addr) (wd:Str) (xs us:List V) (ρ:V->R) (pk:Option (List Str)),vs=[.ref r,.ref p]/\H r=some (.tup (.str wd::xs))/\H p=some (.lst us)/\Rows H ρ us/\us.length<=500/\RL K aB aP H ρ us wd xs pk/\GX ρ us/\∀ b H',Am H H'->(b=true ↔ U5 K aB ρ us wd xs pk)->Q (.bl b) H'
include N T in
theorem Yz:BW P w K mg base Br 6 aD.fWm aD.dWm ["row","ahead"] (Wr K aB aP):=by
 refine N.FWm.1.ok dh (fun vs H Q E h=>?_) (fun cdv A outer s H vs Q E hr h=>?_)
 ·obtain ⟨r,p,wd,xs,us,ρ,pk,rfl,_⟩:=h
  rfl
 ·obtain ⟨r,p,wd,xs,us,ρ,pk,rfl,hr0,hp,hR,hl,tq,ah,q⟩:=h
  refine ⟨_,(Ae (Bf (A_ Bw (BK (Ay (K:=K) rfl) (pv 0) Ac (fun _ _=>rfl)) Al (BV _)) (Ag (Ax (Ah (Xp N T) (ad hr) rfl N.FIs.2.2 N.FIs.1.kp N.FIs.2.1 .nil BJ (Aa (pv 0) (Aa (pv 1) Ab))))) BR)
   (Ae (Bf (A_ Bw (BK (Ay (K:=K) rfl) (pv 0) Ac (fun _ _=>rfl)) Al (BV _)) (Ag (Ax (Ck (Ah (Xl N T) (ad hr) rfl N.FHp.2.2 N.FHp.1.kp N.FHp.2.1 .nil BJ (Aa (pv 0) (Aa (pv 1) Ab))) (CZ (Ah (Xw N T) (ad hr) rfl N.FSb.2.2 N.FSb.1.kp N.FSb.2.1 .nil BJ (Aa (pv 0) (Aa (pv 1) Ab))))))) BR)
   (Ag (Ax (Ck (Mw (Lw (BK (Ay (K:=K) rfl) (pv 0) Ac (fun _ _=>rfl)) (Be (v:=.ref aP) rfl T.mP rfl))) (CZ (Ah (Xl N T) (ad hr) rfl N.FHp.2.2 N.FHp.1.kp N.FHp.2.1 .nil BJ (Aa (pv 0) (Aa (pv 1) Ab))))))))),?_⟩
  refine ⟨_,rfl,r,_,_,_,rfl,rfl,ja hr0,Aj (j:=0) rfl,rfl,_,rfl,?_⟩
  refine Bd (fun e=>?_) (fun e=>?_)
  ·have hw:=V.str.inj (of_decide_eq_true e)
   refine ⟨_,rfl,_,rfl,r,p,_,xs,us,ρ,rfl,hr0,hp,hR,hl,tq.xl,tq.od,fun b H1 s1 hb=>q b H1 s1 (hb.trans ⟨fun z=>.inl ⟨hw,z⟩,fun z=>z.elim (·.2) fun z=>absurd hw z.1⟩)⟩
  have hns:¬ wd = "step":=fun z=>e (decide_eq_true (by rw [z]))
  refine ⟨_,rfl,r,_,_,_,rfl,rfl,ja hr0,Aj (j:=0) rfl,rfl,_,rfl,?_⟩
  rcases tq.ps hns with ⟨e0,hn,hnl⟩ | ⟨ap,ps,e0,hn,hap,hps⟩
  ·refine Bd (fun z=>absurd (V.str.inj (of_decide_eq_true z)) hnl) (fun _=>?_)
   refine ⟨_,rfl,r,_,_,_,rfl,rfl,ja hr0,Aj (j:=0) rfl,aP,_,_,rfl,rfl,T.dP,hn,_,rfl,Cp ?_⟩
   exact q false H (Am.refl H) ⟨fun z=>(nomatch z),fun z=>z.elim (fun z=>absurd z.1 hns) fun ⟨_,ps,e,_⟩=>by rw [e0] at e; cases e⟩
  have tot:=tq.tot ps e0
  refine Bd (fun z=>?_) (fun z=>?_)
  ·have hw:=V.str.inj (of_decide_eq_true z)
   refine ⟨_,rfl,_,rfl,r,p,wd,xs,us,ρ,ap,ps,rfl,hr0,hp,hR,hl,hn,hap,hps,tq.od,tot,fun b H1 s1 hb=>⟨_,rfl,?_⟩⟩
   refine Bd (fun e1=>?_) (fun e1=>q false H1 s1 ⟨fun z=>(nomatch z),fun z=>z.elim (fun z=>absurd z.1 hns) fun ⟨_,ps',e,h,_⟩=>by rw [e0] at e; cases e; exact absurd (hb.mpr h) e1⟩)
   have hh:=hb.mp e1
   obtain ⟨nm,sh,lo,hi,cnt,ex,hc⟩:=tq.ln hw ps e0 hh
   have hr1:H1 r=some (.tup [.str wd,nm,.int sh,.int lo,.int hi]):=by rw [s1 _ _ hr0,ex]
   refine ⟨_,rfl,_,rfl,r,p,_,nm,sh,lo,hi,us,ρ,cnt,rfl,hr1,s1 _ _ hp,hR.mono s1,hl,hc,ah.st,ah.bd,fun b2 H2 s2 hb2=>q b2 H2 (s1.trans s2) (hb2.trans ⟨fun z=>.inr ⟨hns,ps,e0,hh,fun _=>⟨nm,sh,lo,hi,ex,z⟩⟩,fun z=>z.elim (fun z=>absurd z.1 hns) fun ⟨_,ps',e,h,g⟩=>?_⟩)⟩
   obtain ⟨nm',sh',lo',hi',ex',st⟩:=g hw
   rw [ex] at ex'
   cases ex'
   exact st
  ·have hnl:¬ wd = "line":=fun e=>z (decide_eq_true (by rw [e]))
   refine ⟨_,rfl,r,_,_,_,rfl,rfl,ja hr0,Aj (j:=0) rfl,aP,_,_,rfl,rfl,T.dP,hn,_,rfl,Dg ?_⟩
   exact ⟨_,rfl,_,rfl,r,p,wd,xs,us,ρ,ap,ps,rfl,hr0,hp,hR,hl,hn,hap,hps,tq.od,tot,fun b H1 s1 hb=>q b H1 s1 (hb.trans ⟨fun z=>.inr ⟨hns,ps,e0,z,fun e=>absurd e hnl⟩,fun z=>z.elim (fun z=>absurd z.1 hns) fun ⟨_,ps',e,h,_⟩=>by rw [e0] at e; cases e; exact h⟩)⟩
inductive Eo (K:PySem.W.Frag) (aB aP aM:Addr) (H:Hp) (ρ:V->R) (us:List V):V->Bool->Prop where
 | kind {x:V} {n:String} (t:Ge K H x (.type n)) (h:PySem.W.kitOne K (.type n) (.type "tuple")=some false):Eo K aB aP aM H ρ us x false
 | nil {r:Addr} (h:H r=some (.tup [])):Eo K aB aP aM H ρ us (.ref r) false
 | odd {r:Addr} {y:V} {ys:List V} (h:H r=some (.tup (y::ys))) (o:DK H y) (s:isStr y=false):Eo K aB aP aM H ρ us (.ref r) false
 | bad {r:Addr} {w:Str} {xs:List V} {pk:Option (List Str)} (h:H r=some (.tup (.str w::xs))) (t:RL K aB aP H ρ us w xs pk) (a:GX ρ us) (n:¬ U5 K aB ρ us w xs pk):Eo K aB aP aM H ρ us (.ref r) false
 | good {r:Addr} {w:Str} {xs:List V} {pk:Option (List Str)} {b:Bool} (h:H r=some (.tup (.str w::xs))) (t:RL K aB aP H ρ us w xs pk) (a:GX ρ us) (n:U5 K aB ρ us w xs pk) (m:QW K aM ρ us w b):Eo K aB aP aM H ρ us (.ref r) b
theorem QT {K:PySem.W.Frag} {H H':Hp} {x:V} {T:Value} (h:Ge K H x T) (s:Am H H'):Ge K H' x T:=by
 cases h with
 | non=>exact .non
 | bl b=>exact .bl b
 | int i=>exact .int i
 | str z=>exact .str z
 | flt z=>exact .flt z
 | lst e=>exact .lst (s _ _ e)
 | frz e=>exact .frz (s _ _ e)
 | tup e=>exact .tup (s _ _ e)
 | dK e=>exact .dK (s _ _ e)
 | dT e=>exact .dT (s _ _ e)
 | ins e a b c d f=>exact .ins (s _ _ e) a b c d f
theorem Eo.mono {K:PySem.W.Frag} {aB aP aM:Addr} {H H':Hp} {ρ:V->R} {us:List V} {x:V} {b:Bool} (s:Am H H') (h:Eo K aB aP aM H ρ us x b):Eo K aB aP aM H' ρ us x b:=by
 cases h with
 | kind t h=>exact .kind (QT t s) h
 | nil h=>exact .nil (s _ _ h)
 | odd h o e=>exact .odd (s _ _ h) (o.mono s) e
 | bad h t a n=>exact .bad (s _ _ h) (t.mono s) a n
 | good h t a n m=>exact .good (s _ _ h) (t.mono s) a n m
noncomputable def Wn (K:PySem.W.Frag) (aB aP aM:Addr):Sp:=fun vs H Q _=>∃ (x:V) (p:Addr) (us:List V) (ρ:V->R) (b:Bool),vs=[x,.ref p]/\H p=some (.lst us)/\Rows H ρ us/\us.length<=500/\Eo K aB aP aM H ρ us x b/\∀ H',Am H H'->Q (.bl b) H'
noncomputable def W8 (K:PySem.W.Frag) (aM:Addr):Sp:=fun vs H Q _=>∃ (p:Addr) (w:Str) (us:List V) (ρ:V->R) (b:Bool),vs=[.str w,.ref p]/\H p=some (.lst us)/\Rows H ρ us/\us.length<=500/\QW K aM ρ us w b/\∀ H',Am H H'->Q (.bl b) H'
include N T in
theorem Yh:BW P w K mg base Br 2 aD.fHr aD.dHr ["word","ahead"] (W8 K aM):=by
 refine N.FHr.1.ok b8 (fun vs H Q E h=>?_) (fun cdv A outer s H vs Q E hr h=>?_)
 ·obtain ⟨p,w,us,ρ,b,rfl,_⟩:=h
  rfl
 ·obtain ⟨p,w,us,ρ,b,rfl,hp,hR,hl,hroom,q⟩:=h
  refine ⟨_,(Ag (Ax (Wq (Mw (K8 (pv 0) (Be (v:=.ref aM) rfl T.mM rfl))) (CZ (Dj FP (Ak Az rfl T.len ar (Aa (Ah (Jj N T) (ad hr) rfl N.FRo.2.2 N.FRo.1.kp N.FRo.2.1 .nil BJ (Aa (pv 1) (Aa (pv 0) Ab))) Ab)) (HX (Be (v:=.ref aM) rfl T.mM rfl) (pv 0) (fun _ _=>rfl)) (BV _)))))),?_⟩
  rcases hroom with ⟨rfl,hn⟩ | ⟨m,t,hn,hm⟩
  ·refine ⟨_,rfl,aM,w,_,rfl,rfl,T.dM,hn,_,rfl,Dg ?_⟩
   exact q H (Am.refl H)
  refine ⟨_,rfl,aM,w,_,rfl,rfl,T.dM,hn,_,rfl,Cp ?_⟩
  refine ⟨_,rfl,_,rfl,p,us,w,ρ,rfl,hp,hR,hl,fun D H2 hD s2 hl2=>?_⟩
  refine ⟨D,_,rfl,ja (.inl hl2),_,rfl,aM,w,.int m,_,rfl,rfl,T.dM,hn,⟨t,rfl⟩,_,_,rfl,rfl,?_⟩
  show Q (.bl (decide ((((us.filter (pw ρ w)).length:Nat):Int)<m))) H2
  rw [← hm]
  exact q H2 s2
include N T in
theorem Xi:BW P w K mg base Br 7 aD.fIr aD.dIr ["thing","ahead"] (Wn K aB aP aM):=by
 refine N.FIr.1.ok cY (fun vs H Q E h=>?_) (fun cdv A outer s H vs Q E hr h=>?_)
 ·obtain ⟨x,p,us,ρ,b,rfl,_⟩:=h
  rfl
 ·obtain ⟨x,p,us,ρ,b,rfl,hp,hR,hl,rv,q⟩:=h
  refine ⟨_,(Ae (Bf (PW.pt (GF (Di (Ed (Ak CW rfl T.isin ai (Aa (pv 0) (Aa (DQ (v:=.ty "tuple") rfl T.tuple ft rfl) Ab))))) (GF (A_ Bw (Ak Az rfl T.len ar (Aa (pv 0) Ab)) Ac (BV _)) (Fi (Di (Ed (Ak CW rfl T.isin ai (Aa (BK (Ay (K:=K) rfl) (pv 0) Ac (fun _ _=>rfl)) (Aa (DQ (v:=.ty "str") rfl T.str fe rfl) Ab))))))))) (Ag (Ax Ek)) BR)
   (Ag (Ax (Ck (Ah (Yz N T) (ad hr) rfl N.FWm.2.2 N.FWm.1.kp N.FWm.2.1 .nil BJ (Aa (pv 0) (Aa (pv 1) Ab))) (CZ (Ah (Yh N T) (ad hr) rfl N.FHr.2.2 N.FHr.1.kp N.FHr.2.1 .nil BJ (Aa (BK (Ay (K:=K) rfl) (pv 0) Ac (fun _ _=>rfl)) (Aa (pv 1) Ab)))))))),?_⟩
  have tup:∀ {r:Addr} {y:V} {ys:List V},H r=some (.tup (y::ys))->((((y::ys).length:Nat):Int) ≠ 0):=fun {r y ys} _=>by rw [aI]; omega
  cases rv with
  | kind t h=>exact ⟨_,rfl,_,"tuple",_,_,rfl,t,h,_,rfl,Dg (q H (Am.refl H))⟩
  | @nil r h =>
   refine ⟨_,rfl,_,"tuple",_,_,rfl,.tup h,NK,_,rfl,Cp ?_⟩
   exact ⟨_,rfl,r,_,rfl,.inr (.inl (.inl h)),rfl,_,rfl,Bd (fun _=>q H (Am.refl H)) (fun z=>absurd (decide_eq_true rfl) z)⟩
  | @odd r y ys h od e =>
   refine ⟨_,rfl,_,"tuple",_,_,rfl,.tup h,NK,_,rfl,Cp ?_⟩
   refine ⟨_,rfl,r,_,rfl,.inr (.inl (.inl h)),rfl,_,rfl,Bd (fun z=>absurd (V.int.inj (of_decide_eq_true z)) (tup h)) (fun _=>?_)⟩
   obtain ⟨n,t1,t2⟩:=UW K od
   rw [e] at t2
   exact ⟨_,rfl,r,_,_,_,rfl,rfl,ja h,Aj (j:=0) rfl,_,"str",_,_,rfl,t1,t2,_,rfl,Dg (q H (Am.refl H))⟩
  | @bad r w xs pk h t a n =>
   refine ⟨_,rfl,_,"tuple",_,_,rfl,.tup h,NK,_,rfl,Cp ?_⟩
   refine ⟨_,rfl,r,_,rfl,.inr (.inl (.inl h)),rfl,_,rfl,Bd (fun z=>absurd (V.int.inj (of_decide_eq_true z)) (tup h)) (fun _=>?_)⟩
   refine ⟨_,rfl,r,_,_,_,rfl,rfl,ja h,Aj (j:=0) rfl,_,"str",_,_,rfl,.str _,Nh,_,rfl,Cp ?_⟩
   refine ⟨_,rfl,_,rfl,r,p,w,xs,us,ρ,pk,rfl,h,hp,hR,hl,t,a,fun b H1 s1 hb=>⟨_,rfl,Bd (fun e=>absurd (hb.mp e) n) (fun _=>q H1 s1)⟩⟩
  | @good r w xs pk b h t a n m =>
   refine ⟨_,rfl,_,"tuple",_,_,rfl,.tup h,NK,_,rfl,Cp ?_⟩
   refine ⟨_,rfl,r,_,rfl,.inr (.inl (.inl h)),rfl,_,rfl,Bd (fun z=>absurd (V.int.inj (of_decide_eq_true z)) (tup h)) (fun _=>?_)⟩
   refine ⟨_,rfl,r,_,_,_,rfl,rfl,ja h,Aj (j:=0) rfl,_,"str",_,_,rfl,.str _,Nh,_,rfl,Cp ?_⟩
   refine ⟨_,rfl,_,rfl,r,p,w,xs,us,ρ,pk,rfl,h,hp,hR,hl,t,a,fun b1 H1 s1 hb=>⟨_,rfl,Bd (fun _=>?_) (fun e=>absurd (hb.mpr n) e)⟩⟩
   exact ⟨_,rfl,r,_,_,_,rfl,rfl,ja (s1 _ _ h),Aj (j:=0) rfl,_,rfl,p,w,us,ρ,b,rfl,s1 _ _ hp,hR.mono s1,hl,m,fun H2 s2=>q H2 (s1.trans s2)⟩
theorem jk:BX ["self","at"] ["self","at"] (Ai ir):=Cj
include N T in
theorem dZ:BW P w K mg base Br 1 aD.fXi aD.dXi ["self","at"] (VG K cN "at"):=by
 refine N.FXi.1.ok jk (fun vs H Q E h=>?_) (fun cdv A outer s H vs Q E hr h=>?_)
 ·obtain ⟨x,v,rfl,_⟩:=h
  rfl
 ·obtain ⟨x,v,rfl,hx,q⟩:=h
  refine ⟨_,(Ag (Uh (pv 0) (pv 1) rfl)),?_⟩
  exact ⟨_,rfl,_,rfl,x,cN,rfl,hx,N.rN.xc,N.rN.set,N.rN.na,q⟩
theorem Rb {X:Cx} {sts:List Stmt}:NB X sts (fun _ _ _=>False):=fun _ _ _ _ _ _ h=>h.elim
inductive Hh (K:PySem.W.Frag) (aB aP aM:Addr) (H:Hp):V->V->Prop where
 | kind {x:V} {n:String} (t:Ge K H x (.type n)) (h:PySem.W.kitOne K (.type n) (.type "list")=some false):Hh K aB aP aM H x .non
 | long {p:Addr} {us:List V} (h:H p=some (.lst us)) (hl:us.length=0 \/ 150<us.length) (hs:us.length<=1000):Hh K aB aP aM H (.ref p) .non
 | row {p:Addr} {us:List V} {ρ:V->R} {k:Nat} (h:H p=some (.lst us)) (hl:us.length<=150) (hR:Rows H ρ (us.take k)) (ok:∀ (i:Nat) v,i<k->us[i]? = some v->Eo K aB aP aM H ρ (us.take i) v true)
  {v:V} (hv:us[k]? = some v) (bad:Eo K aB aP aM H ρ (us.take k) v false):Hh K aB aP aM H (.ref p) (.int (k:Nat))
 | none {p:Addr} {us:List V} {ρ:V->R} (h:H p=some (.lst us)) (h1:1<=us.length) (hl:us.length<=150) (hR:Rows H ρ us) (ok:∀ (i:Nat) v,us[i]? = some v->Eo K aB aP aM H ρ (us.take i) v true)
  (nb:us.filter (pw ρ "board")=[]):Hh K aB aP aM H (.ref p) .non
theorem Hh.mono {K:PySem.W.Frag} {aB aP aM:Addr} {H H':Hp} {x at_:V} (s:Am H H') (h:Hh K aB aP aM H x at_):Hh K aB aP aM H' x at_:=by
 cases h with
 | kind t h=>exact .kind (QT t s) h
 | long h hl hs=>exact .long (s _ _ h) hl hs
 | row h hl hR ok hv bad=>exact .row (s _ _ h) hl (hR.mono s) (fun i v hi hv=>(ok i v hi hv).mono s) hv (bad.mono s)
 | none h h1 hl hR ok nb=>exact .none (s _ _ h) h1 hl (hR.mono s) (fun i v hv=>(ok i v hv).mono s) nb
noncomputable def XQ (K:PySem.W.Frag) (aB aP aM cN:Addr):Sp:=fun vs H Q E=>∃ (x at_:V),vs=[x]/\Hh K aB aP aM H x at_/\∀ dx H4,Am H H4->H4 dx=some (VF dx [("at",at_)])->E (.ref cN) (some dx) H4
include N T in
theorem YQ:BW P w K mg base (Rz P w) 8 aD.fCk aD.dCk ["rows"] (XQ K aB aP aM cN):=by
 refine N.FCk.1.j7 Q7 (fun vs H Q E h=>?_) (fun cdv A outer s H vs Q E hr h=>?_)
 ·obtain ⟨x0,at_,rfl,_⟩:=h
  rfl
 ·obtain ⟨x0,at_,rfl,ra,q⟩:=h
  obtain ⟨tMR,hMR⟩:=T.mostR
  refine ⟨_,(Ae (Bf (PW.pt (GF (Di (Ed (Ak CW rfl T.isin ai (Aa (pv 0) (Aa (DQ (v:=.ty "list") rfl T.list dv rfl) Ab))))) (Fi (Di (Nv Fg Fg Ac (Ak Az rfl T.len ar (Aa (pv 0) Ab)) (Be (v:=.int 150) rfl hMR ⟨tMR,rfl⟩)))))) (Ag (JL N.rN.inI N.rN.init N.rN.fn N.rN.kp (dZ N T) (ad hr) N.FXi.2 rfl T.mNO rfl Ke (Aa DX Ab))) BR)
   (Ae (Ez PassesOwn.leaving rfl (Jx rfl T.enumerate (Aa (pv 0) Ab)) (Kh rfl (Dy (Cu (i:=1) Q7.nd rfl (Or.inl rfl)) (Dy (Cu (i:=2) Q7.nd rfl (Or.inl rfl)) Iu))) (Ag (Bf (Di (Ed (Ah (Xi N T) (ad hr) rfl N.FIr.2.2 N.FIr.1.kp N.FIr.2.1 .nil BJ (Aa (pv 2) (Aa (Cr HR (pv 0) Dv (DG (pv 1))) Ab))))) (Ag (JL N.rN.inI N.rN.init N.rN.fn N.rN.kp (dZ N T) (ad hr) N.FXi.2 rfl T.mNO rfl Ke (Aa (pv 1) Ab))) BR)))
   (Ag (Bf (Di (N_ (Ah (Jj N T) (ad hr) rfl N.FRo.2.2 N.FRo.1.kp N.FRo.2.1 .nil BJ (Aa (pv 0) (Aa Al Ab))) (fun _=>rfl))) (Ag (JL N.rN.inI N.rN.init N.rN.fn N.rN.kp (dZ N T) (ad hr) N.FXi.2 rfl T.mNO rfl Ke (Aa DX Ab))) BR)))),?_⟩
  cases ra with
  | kind t h=>exact ⟨_,rfl,_,"list",_,_,rfl,t,h,_,rfl,Dg ⟨_,rfl,fun dx H4 _ s e=>q dx H4 s e⟩⟩
  | @long p us hp hl hs =>
   have hS:Dh K H p us:=.inl (.inl hp)
   refine ⟨_,rfl,_,"list",_,_,rfl,.lst hp,Oi,_,rfl,Cp ?_⟩
   refine ⟨_,rfl,p,_,rfl,.inl hS,_,_,rfl,rfl,_,rfl,?_⟩
   refine Bd (fun h1=>?_) (fun _=>?_)
   ·refine ⟨_,_,rfl,rfl,_,rfl,?_⟩
    have e150:decide ((us.length:Int)<=150)=false:=decide_eq_false (by have:=of_decide_eq_true h1; omega)
    rw [e150]
    exact Dg ⟨_,rfl,fun dx H4 _ s e=>q dx H4 s e⟩
   ·exact ⟨_,rfl,Dg ⟨_,rfl,fun dx H4 _ s e=>q dx H4 s e⟩⟩
  | @row p us ρ k hp hl hR ok v hv bad =>
   have hS:Dh K H p us:=.inl (.inl hp)
   have hk:k<us.length:=(af.mp hv).1
   refine ⟨_,rfl,_,"list",_,_,rfl,.lst hp,Oi,_,rfl,Cp ?_⟩
   refine ⟨_,rfl,p,_,rfl,.inl hS,_,_,rfl,rfl,_,rfl,?_⟩
   refine Bd (fun _=>?_) (fun z=>absurd (decide_eq_true (by omega)) z)
   refine ⟨_,_,rfl,rfl,_,rfl,?_⟩
   have e150:decide ((us.length:Int)<=150)=true:=decide_eq_true (by omega)
   rw [e150]
   refine Cp ?_
   refine ⟨_,rfl,p,rfl,⟨_,hS⟩,Gx (K:=K) (a:=p) (xs:=us) (fun i σ H4=>Am H H4/\i<=k/\∃ v1 v2,σ=[some (.ref p),v1,v2]) ⟨Am.refl H,dL _,_,_,rfl⟩ (fun i σ H4 _ h=>h.1.seq hS) ?_ ?_⟩
   ·rintro i x σ H4 T0 hx ⟨s4,hik,v1,v2,rfl⟩ hT
    have s5:=Av (o:=HO.tup [.int (i:Int),x]) hT
    refine ⟨T0,_,rfl,ja Af,rfl,_,_,rfl,_,_,rfl,rfl,?_⟩
    generalize upd H4 T0 (HO.tup [.int (i:Int),x])=H5 at s5 ⊢
    have s05:=s4.trans s5
    have hi:i<us.length:=(af.mp hx).1
    refine ⟨_,rfl,_,rfl,_,rfl,_,rfl,p,_,rfl,s05.seq hS,fun p6 hp6=>?_⟩
    have s6:=Av (o:=HO.lst (Cv us none (some (i:Int)))) hp6
    have a6:upd H5 p6 (HO.lst (Cv us none (some (i:Int)))) p6=_:=Af
    generalize upd H5 p6 (HO.lst (Cv us none (some (i:Int))))=H6 at s6 a6 ⊢
    rw [KC us i (by omega)] at a6
    have s06:=s05.trans s6
    have hRi:Rows H6 ρ (us.take i):=(hR.mono s06).sub fun v hv=>by
     rw [show us.take i=(us.take k).take i by rw [List.take_take,Nat.min_eq_left (by omega)]] at hv
     exact ck hv
    by_cases e:i=k
    ·subst e
     rw [hx] at hv
     cases hv
     refine ⟨_,p6,us.take i,ρ,false,rfl,a6,hRi,by rw [bq]; omega,bad.mono s06,fun H7 s7=>⟨_,rfl,Dg ?_⟩⟩
     exact ⟨_,rfl,_,rfl,fun dx H8 _ s8 e8=>q dx H8 ((s06.trans s7).trans s8) e8⟩
    ·refine ⟨x,p6,us.take i,ρ,true,rfl,a6,hRi,by rw [bq]; omega,(ok i _ (by omega) hx).mono s06,fun H7 s7=>⟨_,rfl,Cp ?_⟩⟩
     exact ⟨s06.trans s7,by omega,_,_,rfl⟩
   ·rintro σ H4 ⟨s4,hik,v1,v2,rfl⟩
    omega
  | @none p us ρ hp h1 hl hR ok nb =>
   have hS:Dh K H p us:=.inl (.inl hp)
   refine ⟨_,rfl,_,"list",_,_,rfl,.lst hp,Oi,_,rfl,Cp ?_⟩
   refine ⟨_,rfl,p,_,rfl,.inl hS,_,_,rfl,rfl,_,rfl,?_⟩
   refine Bd (fun _=>?_) (fun z=>absurd (decide_eq_true (by omega)) z)
   refine ⟨_,_,rfl,rfl,_,rfl,?_⟩
   have e150:decide ((us.length:Int)<=150)=true:=decide_eq_true (by omega)
   rw [e150]
   refine Cp ?_
   refine ⟨_,rfl,p,rfl,⟨_,hS⟩,Gx (K:=K) (a:=p) (xs:=us) (fun i σ H4=>Am H H4/\∃ v1 v2,σ=[some (.ref p),v1,v2]) ⟨Am.refl H,_,_,rfl⟩ (fun i σ H4 _ h=>h.1.seq hS) ?_ ?_⟩
   ·rintro i x σ H4 T0 hx ⟨s4,v1,v2,rfl⟩ hT
    have s5:=Av (o:=HO.tup [.int (i:Int),x]) hT
    refine ⟨T0,_,rfl,ja Af,rfl,_,_,rfl,_,_,rfl,rfl,?_⟩
    generalize upd H4 T0 (HO.tup [.int (i:Int),x])=H5 at s5 ⊢
    have s05:=s4.trans s5
    have hi:i<us.length:=(af.mp hx).1
    refine ⟨_,rfl,_,rfl,_,rfl,_,rfl,p,_,rfl,s05.seq hS,fun p6 hp6=>?_⟩
    have s6:=Av (o:=HO.lst (Cv us none (some (i:Int)))) hp6
    have a6:upd H5 p6 (HO.lst (Cv us none (some (i:Int)))) p6=_:=Af
    generalize upd H5 p6 (HO.lst (Cv us none (some (i:Int))))=H6 at s6 a6 ⊢
    rw [KC us i (by omega)] at a6
    have s06:=s05.trans s6
    refine ⟨x,p6,us.take i,ρ,true,rfl,a6,(hR.mono s06).sub fun v hv=>ck hv,by rw [bq]; omega,(ok i _ hx).mono s06,fun H7 s7=>⟨_,rfl,Cp ?_⟩⟩
    exact ⟨s06.trans s7,_,_,rfl⟩
   ·rintro σ H4 ⟨s4,v1,v2,rfl⟩
    refine ⟨_,rfl,p,us,"board",ρ,rfl,s4 _ _ hp,hR.mono s4,by omega,fun D H5 hD s5 hl5=>?_⟩
    rw [nb] at hl5
    refine ⟨_,.inl ⟨_,ja hl5,rfl⟩,?_⟩
    exact Dg ⟨_,rfl,fun dx H6 _ s6 e6=>q dx H6 ((s4.trans s5).trans s6) e6⟩
noncomputable def Wm (K:PySem.W.Frag) (aB aP aM cN:Addr):Sp:=fun vs H Q E=>∃ (x:Addr) (y at_:V),vs=[.ref x,y]/\Hh K aB aP aM H y at_/\∀ dx H4,Am H H4->H4 dx=some (VF dx [("at",at_)])->E (.ref cN) (some dx) H4
theorem bG:BX ["self","rows"] ["self","rows"] (Ai Um):=Cj
include N T in
theorem Ys:BW P w K mg base (Rz P w) 9 aD.fOi aD.dOi ["self","rows"] (Wm K aB aP aM cN):=by
 have GCkR:BW P w K mg base (Rz P w) 8 aD.fCk aD.dCk ["rows"] (XQ K aB aP aM cN):=YQ N T
 refine N.FOi.1.j7 bG (fun vs H Q E h=>?_) (fun cdv A outer s H vs Q E hr h=>?_)
 ·obtain ⟨x,y,at_,rfl,_⟩:=h
  rfl
 ·obtain ⟨x,y,at_,rfl,ra,q⟩:=h
  refine ⟨_,(Ae (Cz (Ah GCkR (ad hr) rfl N.FCk.2.2 N.FCk.1.kp N.FCk.2.1 .nil Vz (Aa (pv 1) Ab))) Rb),?_⟩
  exact ⟨_,rfl,y,at_,rfl,ra,q⟩
end
end K10
end PartK10a
section PartK10n
set_option maxHeartbeats 4000000
namespace K10
open PySem L2 Og
section
variable {K:PySem.W.Frag} {aB aP aM:Addr} {ρ:V->R} {us:List V} {H:Hp}
theorem Nk:∀ {ps qs:List Str} {l:List Value},Vals (ps.map V.str) l->Vals (qs.map V.str) l->ps=qs
 | [],[],_,_,_=>rfl
 | [],q::qs,l,h,g=>by cases h; cases g
 | p::ps,[],l,h,g=>by cases g; cases h
 | p::ps,q::qs,l,h,g=>by
  cases h with
  | cons a b =>
   cases g with
   | cons c d =>
    obtain ⟨t,e1⟩:=a
    obtain ⟨t',e2⟩:=c
    rw [e1] at e2
    cases e2
    rw [Nk b d]
theorem KTup.bf {a:Addr} {ps qs:List Str} (h:KTup K a (ps.map V.str)) (g:KTup K a (qs.map V.str)):ps=qs:=by
 obtain ⟨o1,i1,n1,a1,a2,a3,a4,a5⟩:=h
 obtain ⟨o2,i2,n2,b1,b2,b3,b4,b5⟩:=g
 rw [a1] at b1
 cases b1
 rw [a3] at b3
 cases b3
 exact Nk a5 b5
theorem Kd {x:V} {y:Str} (h:Dm K aB ρ us x y):D_ K aB ρ us x y true:=by
 rcases h with ⟨i,lo,hi,b,rfl,h1,h2,h3,h4⟩ | ⟨h1,h2,t,rfl,h3,h4⟩ | ⟨h1,h2,t,rfl,h3,h4⟩
 ·exact .inl ⟨lo,hi,b,h1,h2,by show true=(decide (lo<=i) && decide (i<=hi)); rw [decide_eq_true h3,decide_eq_true h4]; rfl⟩
 ·refine .inr (.inl ⟨h1,h2,⟨fun _=>⟨⟨t,rfl,h3⟩,fun w hw ⟨t',e,_,g⟩=>?_⟩,fun _=>rfl⟩⟩)
  cases e
  rw [h4 w hw] at g
  cases g
 ·exact .inr (.inr ⟨h1,h2,⟨fun _=>⟨t,rfl,h3,h4⟩,fun _=>rfl⟩⟩)
theorem OD {x0:V} {y:Str} (h:Dm K aB ρ us x0 y) (x:V):∃ b,D_ K aB ρ us x y b:=by
 rcases h with ⟨i,lo,hi,b,rfl,h1,h2,h3,h4⟩ | ⟨h1,h2,t,rfl,h3,h4⟩ | ⟨h1,h2,t,rfl,h3,h4⟩
 ·exact ⟨_,.inl ⟨lo,hi,b,h1,h2,rfl⟩⟩
 ·by_cases e:Jt x/\∀ w∈named,¬ GD ρ us w x
  ·exact ⟨true,.inr (.inl ⟨h1,h2,⟨fun _=>e,fun _=>rfl⟩⟩)⟩
  ·exact ⟨false,.inr (.inl ⟨h1,h2,⟨fun z=>(nomatch z),fun z=>absurd z e⟩⟩)⟩
 ·by_cases e:GD ρ us y x
  ·exact ⟨true,.inr (.inr ⟨h1,h2,⟨fun _=>e,fun _=>rfl⟩⟩)⟩
  ·exact ⟨false,.inr (.inr ⟨h1,h2,⟨fun z=>(nomatch z),fun z=>absurd z e⟩⟩)⟩
theorem Ng {x:V} {y:Str} (h:Dm K aB ρ us x y):DK H x:=by
 rcases h with ⟨i,lo,hi,b,rfl,_⟩ | ⟨_,_,t,rfl,h3,_⟩ | ⟨_,_,t,rfl,h3,_⟩
 ·exact .int i
 ·exact .str h3.tx
 ·exact .str h3.tx
theorem Qp {r:R} {v:V} (h:Dn K aB aP aM ρ us r) (ht:TupAt H r.v v) (ah:GX ρ us):Eo K aB aP aM H ρ us v true:=by
 obtain ⟨T,rfl,hT⟩:=ht
 have room:=Dn.room h
 have rB:QW K aM ρ us r.w true:=by
  rcases room with z | ⟨m,t,z,hm⟩
  ·exact .inl ⟨rfl,z⟩
  ·exact .inr ⟨m,t,z,(decide_eq_true hm).symm⟩
 rcases h with ok | ok
 ·obtain ⟨ap,ps,hn,hap,hlen,hps,hok⟩:=ok.parts
  have ix:∀ y∈ps,∃ x,Dm K aB ρ us x y:=fun y hy=>by
   obtain ⟨i,hi,rfl⟩:=dc hy
   exact ⟨(V.str r.nm::r.rest)[i]'(by omega),hok i _ _ (ae _) (ae hi)⟩
  have iy:∀ x∈V.str r.nm::r.rest,DK H x:=fun x hx=>by
   obtain ⟨i,hi,rfl⟩:=dc hx
   exact Ng (hok i _ (ps[i]'(by omega)) (ae hi) (ae _))
  refine .good (pk:=some ps) hT ⟨by omega,iy,fun ps' e x hx y hy=>?_,fun hw _ _ _=>?_,fun _=>.inr ⟨ap,ps,rfl,hn,hap,hps⟩⟩ ah (.inr ⟨ok.ns,ps,rfl,⟨hlen,fun i x y hx hy=>Kd (hok i x y hx hy)⟩,fun hw=>?_⟩) rB
  ·cases e
   obtain ⟨x0,h0⟩:=ix y hy
   exact OD h0 x
  ·obtain ⟨cnt,v,sh,lo,hi,bd,rs,er,hc,_⟩:=(ok.line hw).ex
   exact ⟨_,sh,lo,hi,cnt,by rw [er],hc⟩
  ·obtain ⟨cnt,v,sh,lo,hi,bd,rs,er,hc,h4,hv,hw2,hr,hle,hk⟩:=(ok.line hw).ex
   exact ⟨_,sh,lo,hi,by rw [er],cnt,v,bd,rs,hc,h4,hv,hw2,hr,hle,hk⟩
 ·obtain ⟨ts,ets,nd,h24,hts⟩:=ok.ts
  refine .good (pk:=none) hT ⟨by rw [ets,ag]; omega,fun x hx=>?_,(fun _ e=>nomatch e),(fun hw=>?_),fun hn=>absurd ok.w hn⟩ ah (.inl ⟨ok.w,?_,ts,ets,nd,hts⟩) rB
  ·rw [ets] at hx
   obtain ⟨t,ht,rfl⟩:=aS.mp hx
   exact .str (hts t ht).1.tx
  ·rw [ok.w] at hw
   exact absurd hw (by decide +kernel)
  ·exact List.cons_ne_nil _ _
theorem Mh (F:JG K aB aP aM) (hb:Dd ρ us) (ok:∀ (i:Nat) v,us[i]? = some v->Dn K aB aP aM ρ (us.take i) (ρ v)):GX ρ us:=by
 refine ⟨fun v hv hw=>?_,hb⟩
 obtain ⟨i,hi⟩:=fT hv
 rcases ok i v hi with h | h
 ·obtain ⟨ap,ps,hn,hap,hlen,hps,hok⟩:=h.parts
  obtain ⟨a2,g1,g2⟩:=F.f.pS
  rw [hw,g1] at hn
  cases hn
  have g3:KTup K ap ((["new","board"]:List Str).map V.str):=g2
  have eps:ps=(["new","board"]:List Str):=KTup.bf hap g3
  subst eps
  have hl:(ρ v).rest.length=1:=by
   rw [aI] at hlen
   have:(["new","board"]:List Str).length=2:=rfl
   omega
  obtain ⟨x,hx⟩:∃ x,(ρ v).rest=[x]:=List.length_eq_one_iff.mp hl
  have hp:=hok 1 x "board" (by rw [hx]; rfl) rfl
  rcases hp with ⟨_,_,_,b,_,g,_⟩ | ⟨_,e,_⟩ | ⟨_,_,t,rfl,_⟩
  ·rw [F.f.bB] at g
   cases g
  ·exact absurd e (by decide +kernel)
  ·exact ⟨t,[],hx⟩
 ·rw [h.w] at hw
  exact absurd hw (by decide +kernel)
theorem GX.take {n:Nat} (h:GX ρ us):GX ρ (us.take n):=⟨fun v hv=>h.st v (ck hv),fun v hv=>h.bd v (ck hv)⟩
end
section
variable {P:Program} {w:World} {K:PySem.W.Frag} {mg:Str->Option Value} {base:Heap} {C cN cO c0 c1 c2 c3 c4 c5 c6 c7 c8 c9 c10 c11 c12 c13 aN aK aB aP aM:Addr} {aD:Ad}
variable (N:jC K mg C cN cO c0 c1 c2 c3 c4 c5 c6 c7 c8 c9 c10 c11 c12 c13 aD) (T:Txt K w.params mg C cN cO c0 c1 c2 c3 c4 c5 c6 c7 c8 c9 c10 c11 c12 c13 aN aK aB aP aM)
noncomputable abbrev Tu:List V:=[.bl true,.bl true]++List.replicate 14 (.bl false)
noncomputable def Zz (cN:Addr):Sp:=fun vs H Q _=>∃ (ex:Addr) (fs:List (Str × V)),vs=[.ref ex]/\Gu H ex cN fs/\∀ D H',Am H H'->H' D=some (.lst Tu)->Q (.ref D) H'
theorem SM:BX ["_law_e","_law_some"] ["_law_e"] (Ai jl):=Cj
include N T in
theorem aR:Oh P w K mg base Br 1 aD.fKi aD.dKi ["_law_e"] (Zz cN):=by
 refine N.FKi.1.m9 SM (fun vs H Q E h=>?_) (fun cdv A outer s H vs Q E hr h=>?_)
 ·obtain ⟨ex,fs,rfl,_⟩:=h
  rfl
 ·obtain ⟨ex,fs,rfl,ie,q⟩:=h
  refine ⟨_,(@Ae _ _ _ _ _ (@CJ _ _ _ _ _ _ 1 SM.nd rfl (Or.inl rfl) (@Bh _ _ _ _ (@Ar _ _ _ _ _ rfl (Ak (Bp (K:=K) rfl) rfl T.isin ai (@Ar _ _ _ _ _ rfl (pv 0) (@Ar _ _ _ _ _ rfl (Be (v:=.ref cN) rfl T.mNO rfl) Ab))) (@Ar _ _ _ _ _ rfl (Ak (Bp (K:=K) rfl) rfl T.isin ai (@Ar _ _ _ _ _ rfl (pv 0) (@Ar _ _ _ _ _ rfl (DQ (v:=.ty "ValueError") rfl T.verr PyProof.Rows.Boot.«ValueError» rfl) Ab))) (@Ar _ _ _ _ _ rfl (Ak (Bp (K:=K) rfl) rfl T.isin ai (@Ar _ _ _ _ _ rfl (pv 0) (@Ar _ _ _ _ _ rfl (Be (v:=.ref c0) rfl T.mx0 rfl) Ab))) (@Ar _ _ _ _ _ rfl (Ak (Bp (K:=K) rfl) rfl T.isin ai (@Ar _ _ _ _ _ rfl (pv 0) (@Ar _ _ _ _ _ rfl (Be (v:=.ref c1) rfl T.mx1 rfl) Ab))) Ab))))) rfl (Or.inl rfl)) (@Ae _ _ _ _ _ (@CJ _ _ _ _ _ _ 1 SM.nd rfl (Or.inl rfl) (Aw Eu (pv 1) (@Bh _ _ _ _ (@Ar _ _ _ _ _ rfl (Ak (Bp (K:=K) rfl) rfl T.isin ai (@Ar _ _ _ _ _ rfl (pv 0) (@Ar _ _ _ _ _ rfl (Be (v:=.ref c2) rfl T.mx2 rfl) Ab))) (@Ar _ _ _ _ _ rfl (Ak (Bp (K:=K) rfl) rfl T.isin ai (@Ar _ _ _ _ _ rfl (pv 0) (@Ar _ _ _ _ _ rfl (Be (v:=.ref c3) rfl T.mx3 rfl) Ab))) (@Ar _ _ _ _ _ rfl (Ak (Bp (K:=K) rfl) rfl T.isin ai (@Ar _ _ _ _ _ rfl (pv 0) (@Ar _ _ _ _ _ rfl (Be (v:=.ref c4) rfl T.mx4 rfl) Ab))) (@Ar _ _ _ _ _ rfl (Ak (Bp (K:=K) rfl) rfl T.isin ai (@Ar _ _ _ _ _ rfl (pv 0) (@Ar _ _ _ _ _ rfl (Be (v:=.ref c5) rfl T.mx5 rfl) Ab))) Ab)))))) rfl (Or.inl rfl)) (@Ae _ _ _ _ _ (@CJ _ _ _ _ _ _ 1 SM.nd rfl (Or.inl rfl) (Aw Eu (pv 1) (@Bh _ _ _ _ (@Ar _ _ _ _ _ rfl (Ak (Bp (K:=K) rfl) rfl T.isin ai (@Ar _ _ _ _ _ rfl (pv 0) (@Ar _ _ _ _ _ rfl (Be (v:=.ref c6) rfl T.mx6 rfl) Ab))) (@Ar _ _ _ _ _ rfl (Ak (Bp (K:=K) rfl) rfl T.isin ai (@Ar _ _ _ _ _ rfl (pv 0) (@Ar _ _ _ _ _ rfl (Be (v:=.ref c7) rfl T.mx7 rfl) Ab))) (@Ar _ _ _ _ _ rfl (Ak (Bp (K:=K) rfl) rfl T.isin ai (@Ar _ _ _ _ _ rfl (pv 0) (@Ar _ _ _ _ _ rfl (Be (v:=.ref c8) rfl T.mx8 rfl) Ab))) (@Ar _ _ _ _ _ rfl (Ak (Bp (K:=K) rfl) rfl T.isin ai (@Ar _ _ _ _ _ rfl (pv 0) (@Ar _ _ _ _ _ rfl (Be (v:=.ref c9) rfl T.mx9 rfl) Ab))) Ab)))))) rfl (Or.inl rfl)) (@Ae _ _ _ _ _ (@CJ _ _ _ _ _ _ 1 SM.nd rfl (Or.inl rfl) (Aw Eu (pv 1) (@Bh _ _ _ _ (@Ar _ _ _ _ _ rfl (Ak (Bp (K:=K) rfl) rfl T.isin ai (@Ar _ _ _ _ _ rfl (pv 0) (@Ar _ _ _ _ _ rfl (Be (v:=.ref c10) rfl T.mx10 rfl) Ab))) (@Ar _ _ _ _ _ rfl (Ak (Bp (K:=K) rfl) rfl T.isin ai (@Ar _ _ _ _ _ rfl (pv 0) (@Ar _ _ _ _ _ rfl (Be (v:=.ref c11) rfl T.mx11 rfl) Ab))) (@Ar _ _ _ _ _ rfl (Ak (Bp (K:=K) rfl) rfl T.isin ai (@Ar _ _ _ _ _ rfl (pv 0) (@Ar _ _ _ _ _ rfl (Be (v:=.ref c12) rfl T.mx12 rfl) Ab))) (@Ar _ _ _ _ _ rfl (Ak (Bp (K:=K) rfl) rfl T.isin ai (@Ar _ _ _ _ _ rfl (pv 0) (@Ar _ _ _ _ _ rfl (Be (v:=.ref c13) rfl T.mx13 rfl) Ab))) Ab)))))) rfl (Or.inl rfl)) (@Ag _ _ _ (@Ax _ _ _ _ (pv 1))))))),?_⟩
  refine ⟨_,rfl,ex,cN,_,_,_,_,rfl,ie,N.rN.xc,rfl,N.rN.k0,_,rfl,ex,cN,_,_,_,_,rfl,ie,N.rN.xc,rfl,N.rN.kv,_,rfl,ex,cN,_,_,_,_,rfl,ie,N.rN.xc,rfl,N.rN.kf c0 (by simp),_,rfl,ex,cN,_,_,_,_,rfl,ie,N.rN.xc,rfl,N.rN.kf c1 (by simp),by show 4<=sizeLine; decide,fun T1 hT1=>?_⟩
  generalize eH:upd H T1 _=H1
  have s1:Am H H1:=by rw [← eH]; exact Av hT1
  have t1:H1 T1=some (.lst ([.bl true,.bl true]++List.replicate 2 (.bl false))):=by rw [← eH]; exact Af
  clear eH
  have ie1:=ie.same s1
  refine ⟨_,rfl,_,rfl,ex,cN,_,_,_,_,rfl,ie1,N.rN.xc,rfl,N.rN.kf c2 (by simp),_,rfl,ex,cN,_,_,_,_,rfl,ie1,N.rN.xc,rfl,N.rN.kf c3 (by simp),_,rfl,ex,cN,_,_,_,_,rfl,ie1,N.rN.xc,rfl,N.rN.kf c4 (by simp),_,rfl,ex,cN,_,_,_,_,rfl,ie1,N.rN.xc,rfl,N.rN.kf c5 (by simp),by show 4<=sizeLine; decide,fun T2x hT2x=>?_⟩
  generalize eH:upd H1 T2x _=H2x
  have s2x:Am H1 H2x:=by rw [← eH]; exact Av hT2x
  have t2x:H2x T2x=some (.lst (List.replicate 4 (.bl false))):=by rw [← eH]; exact Af
  clear eH
  refine ⟨_,_,_,_,rfl,rfl,s2x _ _ t1,t2x,Bl (by decide),fun T2 hT2=>?_⟩
  generalize eH:upd H2x T2 _=H2
  have s2:Am H1 H2:=by rw [← eH]; exact s2x.trans (Av hT2)
  have t2:H2 T2=some (.lst ([.bl true,.bl true]++List.replicate 6 (.bl false))):=by rw [← eH]; exact Af
  clear eH
  have ie2:=ie1.same s2
  refine ⟨_,rfl,_,rfl,ex,cN,_,_,_,_,rfl,ie2,N.rN.xc,rfl,N.rN.kf c6 (by simp),_,rfl,ex,cN,_,_,_,_,rfl,ie2,N.rN.xc,rfl,N.rN.kf c7 (by simp),_,rfl,ex,cN,_,_,_,_,rfl,ie2,N.rN.xc,rfl,N.rN.kf c8 (by simp),_,rfl,ex,cN,_,_,_,_,rfl,ie2,N.rN.xc,rfl,N.rN.kf c9 (by simp),by show 4<=sizeLine; decide,fun T3x hT3x=>?_⟩
  generalize eH:upd H2 T3x _=H3x
  have s3x:Am H2 H3x:=by rw [← eH]; exact Av hT3x
  have t3x:H3x T3x=some (.lst (List.replicate 4 (.bl false))):=by rw [← eH]; exact Af
  clear eH
  refine ⟨_,_,_,_,rfl,rfl,s3x _ _ t2,t3x,Bl (by decide),fun T3 hT3=>?_⟩
  generalize eH:upd H3x T3 _=H3
  have s3:Am H2 H3:=by rw [← eH]; exact s3x.trans (Av hT3)
  have t3:H3 T3=some (.lst ([.bl true,.bl true]++List.replicate 10 (.bl false))):=by rw [← eH]; exact Af
  clear eH
  have ie3:=ie2.same s3
  refine ⟨_,rfl,_,rfl,ex,cN,_,_,_,_,rfl,ie3,N.rN.xc,rfl,N.rN.kf c10 (by simp),_,rfl,ex,cN,_,_,_,_,rfl,ie3,N.rN.xc,rfl,N.rN.kf c11 (by simp),_,rfl,ex,cN,_,_,_,_,rfl,ie3,N.rN.xc,rfl,N.rN.kf c12 (by simp),_,rfl,ex,cN,_,_,_,_,rfl,ie3,N.rN.xc,rfl,N.rN.kf c13 (by simp),by show 4<=sizeLine; decide,fun T4x hT4x=>?_⟩
  generalize eH:upd H3 T4x _=H4x
  have s4x:Am H3 H4x:=by rw [← eH]; exact Av hT4x
  have t4x:H4x T4x=some (.lst (List.replicate 4 (.bl false))):=by rw [← eH]; exact Af
  clear eH
  refine ⟨_,_,_,_,rfl,rfl,s4x _ _ t3,t4x,Bl (by decide),fun T4 hT4=>?_⟩
  generalize eH:upd H4x T4 _=H4
  have s4:Am H3 H4:=by rw [← eH]; exact s4x.trans (Av hT4)
  have t4:H4 T4=some (.lst ([.bl true,.bl true]++List.replicate 14 (.bl false))):=by rw [← eH]; exact Af
  clear eH
  have ie4:=ie3.same s4
  exact ⟨_,rfl,q T4 H4 (s1.trans (s2.trans (s3.trans s4))) t4⟩
noncomputable def Zj (K:PySem.W.Frag):Sp:=fun vs H Q _=>∃ (a:Addr) (k:Nat) (ns:List Int),vs=[.ref a,.int (k:Nat)]/\Dh K H a (ns.map V.int)/\∀ i:Int,Q (.int i) H
theorem gR:BX ["_law_script","_law_k"] ["_law_script","_law_k"] (Ai gj):=Cj
include N T in
theorem aW:BW P w K mg base Br 1 aD.fCe aD.dCe ["_law_script","_law_k"] (Zj K):=by
 refine N.FCe.1.ok gR (fun vs H Q E h=>?_) (fun cdv A outer s H vs Q E hr h=>?_)
 ·obtain ⟨a,k,ns,rfl,_⟩:=h
  rfl
 ·obtain ⟨a,k,ns,rfl,hS,q⟩:=h
  refine ⟨_,(Ae (Bf (A_ FP (pv 1) (Ak Az rfl T.len ar (Aa (pv 0) Ab)) (BV _)) (Ag (Ax (BK Bt (pv 0) (pv 1) (fun _ _=>rfl)))) BR)
   (Ag (Ax Ac))),?_⟩
  refine ⟨_,rfl,_,rfl,a,_,rfl,.inl hS,_,_,rfl,rfl,_,rfl,?_⟩
  refine Bd (fun h1=>?_) (fun _=>q 0)
  have hlt:k<ns.length:=by have:=of_decide_eq_true h1; rw [ag] at this; omega
  exact ⟨_,rfl,_,rfl,a,_,_,.int ns[k],rfl,rfl,hS,Aj (by rw [bo,ae hlt]; rfl),q _⟩
theorem gF:BX ["_law_found"] ["_law_found"] (Ai jR):=Cj
include N T in
theorem Zn:BW P w K mg base Br 1 aD.fLw aD.dLw ["_law_found"] UT:=by
 refine N.FLw.1.ok gF (fun vs H Q E h=>?_) (fun cdv A outer s H vs Q E hr h=>?_)
 ·obtain ⟨i,rfl,_⟩:=h
  rfl
 ·obtain ⟨i,rfl,q⟩:=h
  refine ⟨_,(Ag (Ax (Ck (Ak CW rfl T.isin ai (Aa (pv 0) (Aa (DQ (v:=.ty "int") rfl T.int ia rfl) Ab))) (CZ (J0 (Ak CW rfl T.isin ai (Aa (pv 0) (Aa (DQ (v:=.ty "bool") rfl T.bool gL rfl) Ab)))))))),?_⟩
  refine ⟨_,rfl,_,"int",_,_,rfl,.int i,ty_int,_,rfl,Dg ?_⟩
  exact ⟨_,rfl,_,"bool",_,_,rfl,.int i,XX,_,rfl,q⟩
noncomputable def MJ:Sp:=fun vs H Q _=>∃ (c b m:Int),vs=[.int c,.int b,.int m]/\0<m/\0<=b/\b<1000003/\∀ z:Int,0<=z->z<m->Q (.int z) H
theorem RD:BX ["_law_cell","_law_by","_law_many_here","_law_digits","_law_turn","_law_one","_law_two"] ["_law_cell","_law_by","_law_many_here"] (Ai jT):=Cj
include N T in
theorem Jp:BW P w K mg base Br 1 aD.fMi aD.dMi ["_law_cell","_law_by","_law_many_here"] MJ:=by
 refine N.FMi.1.ok RD (fun vs H Q E h=>?_) (fun cdv A outer s H vs Q E hr h=>?_)
 ·obtain ⟨c,b,m,rfl,_⟩:=h
  rfl
 ·obtain ⟨c,b,m,rfl,hm,hb0,hb1,q⟩:=h
  refine ⟨_,(Ae (Bf (A_ Qn (pv 0) (Aw JN Ac Ac) (BV _)) (Ae (Bj (i:=3) RD.nd rfl (Or.inl rfl) (Aw CP (pv 0) Ac))
   (Ae (Ez PassesOwn.never rfl (GK rfl T.range (Aa (Aw Bs (Aw CT (pv 1) (Aw Bs (pv 0) Ac)) Ac) Ab)) (Cu (i:=4) RD.nd rfl (Or.inl rfl)) (Ag (Bj (i:=3) RD.nd rfl (Or.inl rfl) (Aw CP (pv 3) Ac))))
   (Ag (Ax (Aw Bs (Aw Bs (pv 3) Ac) (pv 2)))))) BR)
   (Ae (Bj (i:=5) RD.nd rfl (Or.inl rfl) (Aw Bs (Aw Gv (Aw CT (Aw Bs (pv 0) Ac) (pv 1)) Ac) Ac))
   (Ae (Bj (i:=6) RD.nd rfl (Or.inl rfl) (Aw Bs (Aw CT (Aw Gv (pv 5) (pv 5)) (pv 1)) Ac))
   (Ag (Ax (Aw Bs (Aw CP (Aw CT (Aw Gv (pv 6) Ac) (Aw Bs (Aw Gv (pv 6) (pv 5)) Ac)) Ac) (pv 2))))))),?_⟩
  refine ⟨_,rfl,_,_,rfl,rfl,⟨by decide,by decide,by decide⟩,_,_,rfl,rfl,_,rfl,?_⟩
  refine Bd (fun h1=>?_) (fun h1=>?_)
  ·refine ⟨_,rfl,_,_,rfl,rfl,⟨by decide,by decide⟩,?_⟩
   have e29:0<=(b+c % 10080) % 71/\(b+c % 10080) % 71<71:=⟨dn _ (by decide),df _ (by decide)⟩
   refine ⟨_,rfl,_,rfl,_,_,rfl,rfl,(by show (0:Int)<10080; decide),_,_,rfl,rfl,_,_,rfl,rfl,(by show (0:Int)<71; decide),_,rfl,by show -(2 ^ 62)<=(b+c % 10080) % 71; omega,by show (b+c % 10080) % 71<2 ^ 62; omega,JM (lo:=0) (n:=((b+c % 10080) % 71).toNat) (fun i σ H4=>H4=H/\∃ (z:Int) (v4:Option V),σ=[some (.int c),some (.int b),some (.int m),some (.int z),v4,none,none]) ⟨rfl,_,_,rfl⟩ ?_ ?_⟩
   ·rintro i σ H4 hi ⟨rfl,z,v4,rfl⟩
    exact ⟨_,rfl,_,_,rfl,rfl,⟨by decide,by decide⟩,rfl,_,_,rfl⟩
   ·rintro σ H4 ⟨rfl,z,v4,rfl⟩
    exact ⟨_,rfl,_,_,rfl,rfl,(by show (0:Int)<1000003; decide),_,rfl,_,_,rfl,rfl,hm,q _ (Int.emod_nonneg _ (by omega)) (Int.emod_lt_of_pos _ hm)⟩
  ·have c0:0<=c % 1000003/\c % 1000003<1000003:=⟨dn _ (by decide),df _ (by decide)⟩
   refine ⟨_,rfl,_,_,rfl,rfl,(by show (0:Int)<1000003; decide),_,rfl,_,_,rfl,rfl,_,_,rfl,rfl,.inr ⟨by decide,by decide⟩,_,_,rfl,rfl,(by show (0:Int)<2147483647; decide),?_⟩
   have o0:0<=(c % 1000003+b) * 48271 % 2147483647/\(c % 1000003+b) * 48271 % 2147483647<2147483647:=⟨dn _ (by decide),df _ (by decide)⟩
   show Df 5 (V.int ((c % 1000003+b) * 48271 % 2147483647)) _ _ _
   generalize (c % 1000003+b) * 48271 % 2147483647=one at o0
   refine ⟨_,rfl,_,rfl,_,_,rfl,rfl,.inl ⟨by omega,by omega⟩,_,rfl,_,_,rfl,rfl,_,_,rfl,rfl,(by show (0:Int)<2147483629; decide),?_⟩
   have t0:0<=(one * one+b) % 2147483629/\(one * one+b) % 2147483629<2147483629:=⟨dn _ (by decide),df _ (by decide)⟩
   show Df 6 (V.int ((one * one+b) % 2147483629)) _ _ _
   generalize (one * one+b) % 2147483629=two at t0
   exact ⟨_,rfl,_,_,rfl,rfl,.inl ⟨by omega,by omega⟩,_,rfl,_,rfl,_,_,rfl,rfl,.inl ⟨by omega,by omega⟩,_,_,rfl,rfl,(by show (0:Int)<2147483587; decide),_,_,rfl,rfl,_,_,rfl,rfl,⟨by decide,by decide⟩,_,rfl,_,_,rfl,rfl,hm,q _ (Int.emod_nonneg _ (by omega)) (Int.emod_lt_of_pos _ hm)⟩
noncomputable def dJ:Sp:=fun vs H Q _=>∃ (b:Str) (k:Nat),vs=[.str b,.int (k:Nat)]/\b.length<=6/\k<1000/\Q (.str (Eb b k)) H
theorem Vq:BX ["_law_base_here","_law_k","_law_letters","_law_name_here"] ["_law_base_here","_law_k"] (Ai jc):=Cj
include N T in
theorem bU:BW P w K mg base Br 1 aD.fNn aD.dNn ["_law_base_here","_law_k"] dJ:=by
 refine N.FNn.1.ok Vq (fun vs H Q E h=>?_) (fun cdv A outer s H vs Q E hr h=>?_)
 ·obtain ⟨b,k,rfl,_⟩:=h
  rfl
 ·obtain ⟨b,k,rfl,hb,hk,q⟩:=h
  refine ⟨_,(Ae (Bj (i:=2) Vq.nd rfl (Or.inl rfl) Al)
   (Ae (Bj (i:=3) Vq.nd rfl (Or.inl rfl) (Aw Ib (pv 0) (BK QF (pv 2) (Aw Bs (pv 1) Ac) (fun _ _=>rfl))))
   (Ae (Bf (A_ Qn (pv 1) Ac (BV _)) (Ag (Bj (i:=3) Vq.nd rfl (Or.inl rfl) (Aw Ib (pv 3) (BK QF (pv 2) (Aw Bs (Aw Gv (Aw CP (pv 1) Ac) Ac) Ac) (fun _ _=>rfl))))) BR)
   (Ag (Ax (pv 3)))))),?_⟩
  have m0:0<=(k:Int) % 26:=dn _ (by decide)
  have m1:(k:Int) % 26<26:=df _ (by decide)
  have n0:0<=(k:Int) / 26 * 5 % 26:=dn _ (by decide)
  have n1:(k:Int) / 26 * 5 % 26<26:=df _ (by decide)
  have em:(((k:Int) % 26).toNat)=k % 26:=by omega
  have en:(((k:Int) / 26 * 5 % 26).toNat)=k / 26 * 5 % 26:=by omega
  refine ⟨_,rfl,_,rfl,_,rfl,_,_,rfl,rfl,(by show (0:Int)<26; decide),letters,_,_,rfl,rfl,Bl (by decide +kernel),PJ m0 m1,_,_,rfl,rfl,Bl (by show b.length+1<=1000; omega),?_⟩
  have l1:(b++Ry (k % 26)).length<=7:=by rw [len_app,Ip]; omega
  refine ⟨_,rfl,_,_,rfl,rfl,_,rfl,?_⟩
  refine Bd (fun h1=>?_) (fun h1=>?_)
  ·have hk26:26<=k:=by have:=of_decide_eq_true h1; omega
   refine ⟨_,rfl,_,rfl,_,rfl,_,_,rfl,rfl,⟨by decide,by decide⟩,_,_,rfl,rfl,.inr ⟨by decide,by decide⟩,_,_,rfl,rfl,(by show (0:Int)<26; decide),letters,_,_,rfl,rfl,Bl (by decide +kernel),PJ n0 n1,_,_,rfl,rfl,Bl (by show (b++Ry ((k:Int) % 26).toNat).length+1<=1000; rw [em]; omega),?_⟩
   unfold Eb at q
   rw [if_pos hk26,← em,← en] at q
   exact ⟨_,rfl,q⟩
  ·have hk26:¬ 26<=k:=fun z=>h1 (decide_eq_true (by omega))
   unfold Eb at q
   rw [if_neg hk26,← em] at q
   exact ⟨_,rfl,q⟩
noncomputable def Zk:Sp:=fun vs H Q _=>∃ (c:Int),vs=[.int c]/\∀ b:Str,Gp b->Q (.str b) H
theorem U4:BX ["_law_cell","_law_letters","_law_base_here","_law_k"] ["_law_cell"] (Ai jF):=Cj
include N T in
theorem aQ:BW P w K mg base Br 1 aD.fBb aD.dBb ["_law_cell"] Zk:=by
 refine N.FBb.1.ok U4 (fun vs H Q E h=>?_) (fun cdv A outer s H vs Q E hr h=>?_)
 ·obtain ⟨c,rfl,_⟩:=h
  rfl
 ·obtain ⟨c,rfl,q⟩:=h
  refine ⟨_,(Ae (Bj (i:=1) U4.nd rfl (Or.inl rfl) Al)
   (Ae (Bj (i:=2) U4.nd rfl (Or.inl rfl) Al)
   (Ae (Ez PassesOwn.never rfl (GK rfl T.range (Aa (Aw Bs (pv 0) Ac) Ab)) (Cu (i:=3) U4.nd rfl (Or.inl rfl)) (Ag (Bj (i:=2) U4.nd rfl (Or.inl rfl) (Aw Ib (pv 2) (BK QF (pv 1) (Aw Bs (Aw CT (Aw CP (pv 0) Ac) (Aw Gv (Aw Gv (pv 3) (pv 3)) Ac)) Ac) (fun _ _=>rfl))))))
   (Ag (Ax (pv 2)))))),?_⟩
  have m0:0<=c % 7:=dn _ (by decide)
  have m1:c % 7<7:=df _ (by decide)
  refine ⟨_,rfl,_,_,rfl,rfl,(by show (0:Int)<7; decide),_,rfl,by show -(2 ^ 62)<=c % 7; omega,by show c % 7<2 ^ 62; omega,JM (lo:=0) (n:=(c % 7).toNat) (fun i σ H4=>H4=H/\∃ (b:Str) (v3:Option V),(b.length<=i/\∀ c∈b.cps.toList,97<=c/\c<=122)/\σ=[some (.int c),some (.str letters),some (.str b),v3]) ⟨rfl,"",_,⟨by decide,Gp.nil.2⟩,rfl⟩ ?_ ?_⟩
  ·rintro i σ H4 hi ⟨rfl,b,v3,hb,rfl⟩
   have n0:0<=(c / 6+(0+(i:Nat)) * (0+(i:Nat)) * 7) % 26:=dn _ (by decide)
   have n1:(c / 6+(0+(i:Nat)) * (0+(i:Nat)) * 7) % 26<26:=df _ (by decide)
   have hb1:=hb.1
   refine ⟨_,rfl,_,rfl,_,rfl,_,_,rfl,rfl,⟨by decide,by decide⟩,_,rfl,_,rfl,_,_,rfl,rfl,.inl ⟨by omega,by omega⟩,_,_,rfl,rfl,.inr ⟨by decide,by decide⟩,_,_,rfl,rfl,_,_,rfl,rfl,(by show (0:Int)<26; decide),letters,_,_,rfl,rfl,Bl (by decide +kernel),PJ n0 n1,_,_,rfl,rfl,Bl (by show b.length+1<=1000; omega),?_⟩
   exact ⟨rfl,_,_,Gp.snoc hb (n:=((c / 6+(0+(i:Nat)) * (0+(i:Nat)) * 7) % 26).toNat) (by omega),rfl⟩
  ·rintro σ H4 ⟨rfl,b,v3,hb,rfl⟩
   exact ⟨_,rfl,q b ⟨by have:=hb.1; omega,hb.2⟩⟩
noncomputable def Z4 (C:Addr):Sp:=fun vs H Q _=>∃ (x:Addr) (us:List V) (bs:List (Str × Nat)) (rk:List (Str × Nat × Int)) (ks:List R) (ls:List (List Ln)) (sts:List Nat),vs=[.ref x]/\Sw C H x us bs rk ks ls sts/\∀ D H',H D=none->Am H H'->H' D=some (.lst us)->Q (.ref D) H'
theorem iw:BX ["self"] ["self"] (Ai jd):=Cj
include N T in
theorem cz:BW P w K mg base Br 1 aD.fOw aD.dOw ["self"] (Z4 C):=by
 refine N.FOw.1.ok iw (fun vs H Q E h=>?_) (fun cdv A outer s H vs Q E hr h=>?_)
 ·obtain ⟨x,us,bs,rk,ks,ls,sts,rfl,_⟩:=h
  rfl
 ·obtain ⟨x,us,bs,rk,ks,ls,sts,rfl,O,q⟩:=h
  refine ⟨_,(Ag (Ax (Dw FT rfl T.list dv (Aa (G9 (pv 0) rfl) Ab)))),?_⟩
  obtain ⟨_,dx,fs,rl,kd,ss,kvs,h1,l1,l2,l3,h2,h3,h4,h5,h6,_⟩:=id O
  exact ⟨_,rfl,x,C,dx,_,_,rfl,h1,T.cl,T.n_row_list,l1,rl,us,rfl,ja (.inl h2),fun l hl=>q l _ hl (Av hl) Af⟩
theorem Vr {k:Nat} {A:Around} (r:Bb k A) (h:Option Value):Jo k (A.mark h):=⟨r.dp,r.un⟩
theorem Ui {X:Cx} {K:PySem.W.Frag} {e:Expr} {f:Str} {pos:Pos} {ta:TE} (hK:X.K=K) (he:PE X e ta) (hb:attributeBase e f X.env (eval e X.env)=eval e X.env):PE X (.Attribute e f pos) (W6 K ta f):=by
 rw [← hK]
 exact Vl he hb
theorem Xx {K:PySem.W.Frag} {aB aP aM:Addr} {H:Hp} {x v:V} (h:Hh K aB aP aM H x v):v=.non \/ ∃ k:Nat,v=.int (k:Nat):=by
 cases h with
 | kind=>exact .inl rfl
 | long=>exact .inl rfl
 | row=>exact .inr ⟨_,rfl⟩
 | none=>exact .inl rfl
theorem Tg {H:Hp} {b:Bool}:∀ n:Nat,Paired (Dp 0 H) (List.replicate n (V.bl b)) (List.replicate n (V.bl b))
 | 0=>.nil
 | n+1=>.cons (Mi rfl) (Tg n)
noncomputable def d8 (K:PySem.W.Frag) (aB aP aM:Addr):Sp:=fun vs H Q _=>∃ (x at_:V),vs=[x,at_]/\Hh K aB aP aM H x at_/\∀ H',Am H H'->Q (.bl true) H'
theorem RV:BX ["_law_rows","_law_due","_law_kinds_here","_law_at","_law_e"] ["_law_rows","_law_due"] (Ai jV):=Cj
include N T in
theorem ZJ:BW P w K mg base Br 11 aD.fRf aD.dRf ["_law_rows","_law_due"] (d8 K aB aP aM):=by
 have GOiR:BW P w K mg base (Rz P w) 9 aD.fOi aD.dOi ["self","rows"] (Wm K aB aP aM cN):=Ys N T
 refine N.FRf.1.ok RV (fun vs H Q E h=>?_) (fun cdv A outer s H vs Q E hr h=>?_)
 ·obtain ⟨x,at_,rfl,_⟩:=h
  rfl
 ·obtain ⟨x0,at_,rfl,ra,q⟩:=h
  refine ⟨_,(@Ae _ _ _ _ _ (@CJ _ _ _ _ _ _ 2 RV.nd rfl (Or.inl rfl) (@Bh _ _ _ _ Ab) rfl (Or.inl rfl)) (@Ae _ _ _ _ _ (@CJ _ _ _ _ _ _ 3 RV.nd rfl (Or.inl rfl) (Ld JQ Ac) rfl (Or.inl rfl)) (@Ae _ _ _ _ _ (WW (fun ER=>(Tf (Sg (Tw N.FOi.2.2 GOiR (ad hr) rfl T.mC N.FOi.2.1 .nil (@Ar _ _ _ _ _ rfl (pv 0) Ab) rfl)))) rfl T.mOE T.exO RV.nd (i:=4) rfl rfl (fun x=>(@Ae _ _ _ _ _ (@CJ _ _ _ _ _ _ 2 RV.nd rfl (Or.inl rfl) (Ss (aR N T) (Vr (ad hr) _) rfl N.FKi.2.2 N.FKi.1.kp N.FKi.2.1 .nil BJ (@Ar _ _ _ _ _ rfl (pv 4) Ab)) rfl (Or.inl rfl)) (@Ag _ _ _ (@Bf _ _ _ _ _ _ _ _ (Ed (Ak (Bp (K:=K) rfl) rfl T.isin ai (@Ar _ _ _ _ _ rfl (pv 4) (@Ar _ _ _ _ _ rfl (Be (v:=.ref cN) rfl T.mNO rfl) Ab)))) (@Ag _ _ _ (@CJ _ _ _ _ _ _ 3 RV.nd rfl (Or.inl rfl) (Ui (K:=K) rfl (pv 4) rfl) rfl (Or.inl rfl))) BR))))) (@Ae _ _ _ _ _ (@Bf _ _ _ _ _ _ _ _ (A_ (Nu 0 (bt (im (by decide:1<=64) _) hr.units)) (pv 2) (Aw Eu (@Bh _ _ _ _ (@Ar _ _ _ _ _ rfl Ek (@Ar _ _ _ _ _ rfl Ek Ab))) (Aw Pa (@Bh _ _ _ _ (@Ar _ _ _ _ _ rfl Ek Ab)) Ac)) (BV _)) (@Ag _ _ _ (@Ax _ _ _ _ Ek)) BR) (@Ae _ _ _ _ _ (@Bf _ _ _ _ _ _ _ _ (A_ Ti (pv 1) DX (BV _)) (@Ag _ _ _ (@Ax _ _ _ _ (Dj Ti (pv 3) DX (BV _)))) BR) (@Ag _ _ _ (@Ax _ _ _ _ (Ck (Ah (Zn N T) (ad hr) rfl N.FLw.2.2 N.FLw.1.kp N.FLw.2.1 .nil BJ (@Ar _ _ _ _ _ rfl (pv 3) Ab)) (CZ (Dj Bw (pv 3) (pv 1) (BV _))))))))))),?_⟩
  refine ⟨Bl (by simp),fun pT hpT=>?_⟩
  have s1:=Av (o:=HO.lst []) hpT
  generalize upd H pT (HO.lst [])=H1 at s1 ⊢
  refine ⟨_,rfl,?_⟩
  refine ⟨_,rfl,fun x dx nx ndx nex=>?_⟩
  have sx:Am H1 (upd (upd H1 dx (.own x)) x (.ins C dx [])):=fun b o e=>by
   rw [Aq (Ao e nx),Aq (Ao e ndx)]
   exact e
  generalize upd (upd H1 dx (.own x)) x (.ins C dx [])=H2 at sx ⊢
  have s2:=s1.trans sx
  refine ⟨x,x0,at_,rfl,ra.mono s2,fun d4 H4 s4 e4=>⟨cN,rfl,N.rN.mro,fun ex hex=>?_⟩⟩
  have s5:=Av (o:=Jh ex cN (some d4)) hex
  have x5:upd H4 ex (Jh ex cN (some d4)) ex=some (Jh ex cN (some d4)):=Af
  generalize upd H4 ex (Jh ex cN (some d4))=H5 at s5 x5 ⊢
  have ie:Gu H5 ex cN [("at",at_)]:=.full x5 (s5 _ _ e4)
  have s05:=(s2.trans s4).trans s5
  refine ⟨_,rfl,ex,_,rfl,ie,fun p6 H6 s6 l6=>?_⟩
  have ie6:=ie.same s6
  have s06:=s05.trans s6
  refine ⟨_,rfl,ex,cN,_,_,_,_,rfl,ie6,N.rN.xc,rfl,N.rN.k0,_,rfl,Dg ?_⟩
  refine ⟨_,rfl,ex,cN,_,_,rfl,ie6,N.rN.xc,N.rN.na,rfl,?_⟩
  refine ⟨_,rfl,by show 2<=sizeLine; decide,fun p7 hp7=>?_⟩
  obtain ⟨H7,eqH,s7,l7⟩:=Bo (o:=HO.lst [V.bl true,.bl true]) hp7
  rw [eqH]
  refine ⟨by show 1<=sizeLine; decide,fun p8 hp8=>?_⟩
  obtain ⟨H8,eqH,s8,l8⟩:=Bo (o:=HO.lst [V.bl false]) hp8
  rw [eqH]
  refine ⟨p8,14,_,rfl,rfl,l8,by decide,by decide,by show 1 * 14<=sizeLine; decide,fun p9 hp9=>?_⟩
  have er:(List.replicate (14:Int).toNat [V.bl false]).flatten=List.replicate 14 (V.bl false):=rfl
  rw [er]
  obtain ⟨H9,eqH,s9,l9⟩:=Bo (o:=HO.lst (List.replicate 14 (V.bl false))) hp9
  rw [eqH]
  refine ⟨p7,p9,_,_,rfl,rfl,s9 _ _ (s8 _ _ l7),l9,by show 16<=sizeLine; decide,fun pa hpa=>?_⟩
  obtain ⟨Ha,eqH,sa,la⟩:=Bo (o:=HO.lst Tu) hpa
  rw [eqH]
  have s6a:=(s7.trans (s8.trans (s9.trans sa)))
  have s0a:=s06.trans s6a
  refine ⟨p6,pa,rfl,rfl,.inr ⟨p6,pa,_,_,rfl,rfl,.inl ⟨s6a _ _ l6,la⟩,.cons (Mi rfl) (.cons (Mi rfl) (Tg 14))⟩,_,rfl,Cp ?_⟩
  refine ⟨_,rfl,rfl,_,rfl,?_⟩
  rcases Xx ra with rfl | ⟨k,rfl⟩
  ·refine Dg ⟨_,rfl,rfl,q _ s0a⟩
  ·refine Cp ?_
   refine ⟨_,rfl,_,rfl,_,rfl,Dg ?_⟩
   refine ⟨_,rfl,_,rfl,rfl,?_⟩
   have e1:decide (V.int (k:Nat)=V.int (k:Nat))=true:=decide_eq_true rfl
   rw [e1]
   exact q _ s0a
structure gB (K:PySem.W.Frag) (aB aP aM:Addr):Prop where
 f:JG K aB aP aM
 mT:∃ t,PySem.W.nsIn K aM "step" = some (some (.int 12 t))
structure M_ (K:PySem.W.Frag) (aB aP aM:Addr) (H0 H:Hp) (A:Kq) (S:Pl) (Cs:List Addr) (lo:V) (base:Str):Prop where
 h:Bk H0 H A S Cs lo
 k:Ef K aB aP aM base S lo
 b:Gp base
 l:S.rows.length<70
 F:gB K aB aP aM
theorem Fz {α:Type} {F:α->V->Prop} {p:α->Bool} {q:V->Bool}:∀ {l:List α} {vs:List V},Paired F l vs->(∀ a v,F a v->q v=p a)->(vs.filter q).length=(l.filter p).length
 | [],_,h,_=>by cases h; rfl
 | a::l,_,h,k=>by
  cases h with
  | cons x y =>
   have ih:=Fz y k
   rw [dS,dS,k _ _ x]
   cases p a
   ·exact ih
   ·show _+1=_+1
    rw [ih]
noncomputable def ZG:Sp:=fun vs H Q _=>∃ (H0:Hp) (A:Kq) (S:Pl) (Cs:List Addr) (lo:V) (wd:Str),vs=[.ref A.p,.str wd]/\Bk H0 H A S Cs lo/\S.ks.length<=100/\∀ H',Am H H'->Q (.int ((S.ks.filter fun r=>decide (V.str r.w=V.str wd)).length:Nat)) H'
theorem jh:BX ["_law_plan_here","_law_word"] ["_law_plan_here","_law_word"] (Ai fG):=Cj
include N T in
theorem Z2:BW P w K mg base Br 1 aD.fMa aD.dMa ["_law_plan_here","_law_word"] ZG:=by
 refine N.FMa.1.ok jh (fun vs H Q E h=>?_) (fun cdv A outer s H vs Q E hr h=>?_)
 ·obtain ⟨H0,A,S,Cs,lo,wd,rfl,_⟩:=h
  rfl
 ·obtain ⟨H0,A,S,Cs,lo,wd,rfl,h,hl,q⟩:=h
  have hu:=FJ hr
  refine ⟨_,(Ag (Ax (Ak Az rfl T.len ar (Aa (Bx rfl (Bg (osc:=Ai fG) (N:=["_law_plan_here","_law_word"]) rfl rfl (by decide +kernel)) (CN (Ba hu (pv 0) Al (fun _ _=>rfl))) (fun _ _ _ _=>(Mq (A_ Bw (BK (Ay (K:=K) rfl) (pv 0) Ac (fun _ _=>rfl)) (pv 2) (BV _)))) (fun _ _ _ _=>(pv 0))) Ab)))),?_⟩
  obtain ⟨kvs,g1,g2,y1,y2,y3,y4,y5,y6,y7⟩:=h.dp
  obtain ⟨vn,n1,n2⟩:=h.n
  have g:=CQ.k (k:=Sum.inr "knobs") g1
  rw [y4] at g
  have hS:Dh K H A.n vn:=.inl (.inl n1)
  have ln:=n2.length
  refine ⟨_,rfl,A.p,_,rfl,g,A.n,rfl,⟨_,hS⟩,DY (K:=K) (xs:=vn) (fun v=>decide (Jq H 0 v=.str wd)) id hS (BP (by omega)) (fun x hx H' hs R k=>?_) (fun x hx _ H' hs R k=>⟨_,rfl,k H' (Am.refl H')⟩) (fun D H' hD hs hl'=>?_)⟩
  ·obtain ⟨b,_,hx'⟩:=Cm n2 hx
   have e:=Dk hx' 0
   obtain ⟨T0,rfl,hT⟩:=hx'.mono hs
   refine ⟨_,rfl,T0,_,_,_,rfl,rfl,ja hT,Aj (j:=0) rfl,_,rfl,rfl,_,rfl,?_⟩
   have:=k H' (Am.refl H')
   rw [e] at this
   exact this
  ·rw [hG] at hl'
   refine ⟨D,_,rfl,ja (.inl hl'),?_⟩
   have e:=Fz (p:=fun r:R=>decide (V.str r.w=V.str wd)) (q:=fun v=>decide (Jq H 0 v=.str wd)) n2 (fun a v hv=>by rw [Dk hv 0]; rfl)
   rw [e]
   exact q H' hs
noncomputable def Zt (K:PySem.W.Frag) (aB aP aM:Addr):Sp:=fun vs H Q _=>∃ (H0:Hp) (A:Kq) (S:Pl) (Cs:List Addr) (lo:V) (bb:Str) (c:Int),vs=[.ref A.p,.str (Eb bb S.rows.length),.int c]/\M_ K aB aP aM H0 H A S Cs lo bb/\S.bs.length<5/\J3 K aB aP aM bb H0 A S Q
theorem iK {α:Type} {a b c d:α} {z:Int} (h0:0<=z) (h1:z<4):∃ x,P0 [a,b,c,d] z=some x/\(x=a \/ x=b \/ x=c \/ x=d):=by
 have:z=0 \/ z=1 \/ z=2 \/ z=3:=by omega
 rcases this with rfl | rfl | rfl | rfl
 ·exact ⟨a,rfl,.inl rfl⟩
 ·exact ⟨b,rfl,.inr (.inl rfl)⟩
 ·exact ⟨c,rfl,.inr (.inr (.inl rfl))⟩
 ·exact ⟨d,rfl,.inr (.inr (.inr rfl))⟩
theorem du:BX ["_law_plan_here","_law_name_here","_law_cell","_law_keys"] ["_law_plan_here","_law_name_here","_law_cell"] (Ai jW):=Cj
include N T in
theorem ZQ:BW P w K mg base Br 2 aD.fLb aD.dLb ["_law_plan_here","_law_name_here","_law_cell"] (Zt K aB aP aM):=by
 refine N.FLb.1.ok du (fun vs H Q E h=>?_) (fun cdv A outer s H vs Q E hr h=>?_)
 ·obtain ⟨H0,A,S,Cs,lo,bb,c,rfl,_⟩:=h
  rfl
 ·obtain ⟨H0,A,S,Cs,lo,bb,c,rfl,I,h5,q⟩:=h
  have hu:=FJ hr
  refine ⟨_,(Ae (Bj (i:=3) du.nd rfl (Or.inl rfl) (Aw CT Ac (Ah (Jp N T) (ad hr) rfl N.FMi.2.2 N.FMi.1.kp N.FMi.2.1 .nil BJ (Aa (pv 2) (Aa Ac (Aa (BK Bt (Bh (Aa Ac (Aa Ac (Aa Ac (Aa Ac Ab))))) (Ah (Jp N T) (ad hr) rfl N.FMi.2.2 N.FMi.1.kp N.FMi.2.1 .nil BJ (Aa (pv 2) (Aa Ac (Aa Ac Ab)))) (fun _ _=>rfl)) Ab))))))
   (Ae (Cz (Fe aT ba be CK (Ba hu (pv 0) Al (fun _ _=>rfl)) (Aa (Bv (Aa (pv 1) (Aa (pv 3) Ab))) Ab)))
   (Ag (Ax (Bv (Aa Al (Aa (pv 1) (Aa (pv 3) Ab)))))))),?_⟩
  have hx:=id I.h
  obtain ⟨kvs,g1,g2,y1,y2,y3,y4,y5,y6,y7⟩:=hx.dp
  refine ⟨_,rfl,by show 4<=sizeLine; decide,fun p1 hp1=>?_⟩
  have s1:=Av (o:=HO.lst [V.int 61,.int 12,.int 12,.int 5]) hp1
  have l1:upd H p1 (HO.lst [V.int 61,.int 12,.int 12,.int 5]) p1=some (.lst [V.int 61,.int 12,.int 12,.int 5]):=Af
  refine ⟨_,rfl,c,44621,4,rfl,by decide,by decide,by decide,fun z z0 z1=>?_⟩
  obtain ⟨x,hx4,hx5⟩:=iK (a:=V.int 61) (b:=.int 12) (c:=.int 12) (d:=.int 5) z0 z1
  obtain ⟨m,rfl,m1,m2⟩:∃ m:Int,x=.int m/\0<m/\m<=61:=by
   rcases hx5 with rfl | rfl | rfl | rfl
   ·exact ⟨_,rfl,by decide,by decide⟩
   ·exact ⟨_,rfl,by decide,by decide⟩
   ·exact ⟨_,rfl,by decide,by decide⟩
   ·exact ⟨_,rfl,by decide,by decide⟩
  refine ⟨p1,_,_,_,rfl,rfl,ja l1,hx4,c,31541,m,rfl,m1,by decide,by decide,fun u u0 u1=>?_⟩
  refine ⟨_,_,rfl,rfl,?_⟩
  generalize upd H p1 (HO.lst [V.int 61,.int 12,.int 12,.int 5])=H1 at s1 l1 ⊢
  obtain ⟨n,hn⟩:=cq (by omega:0<=1+u)
  show Df 3 (V.int (1+u)) _ _ _
  rw [hn]
  have h1:=I.h.mono s1
  obtain ⟨vb,b1,b2⟩:=h1.b
  have lb:=b2.length
  have g:=CQ.k (k:=Sum.inr "boards") (s1 _ _ g1)
  rw [y2] at g
  refine ⟨_,rfl,A.p,_,rfl,g,.inl ⟨rfl,_,ja b1⟩,_,rfl,_,rfl,by show 2<=sizeLine; decide,fun T5 hT5=>?_⟩
  have s5:=Av (o:=HO.tup [V.str (Eb bb S.rows.length),.int (n:Nat)]) hT5
  have t5:TupAt (upd H1 T5 (HO.tup [V.str (Eb bb S.rows.length),.int (n:Nat)])) (bV (Eb bb S.rows.length,n)) (.ref T5):=⟨T5,rfl,Af⟩
  generalize upd H1 T5 (HO.tup [V.str (Eb bb S.rows.length),.int (n:Nat)])=H5 at s5 t5 ⊢
  have h5':=(h1.mono s5).gG (s5 _ _ b1) t5
  refine ⟨A.b,vb,_,rfl,rfl,s5 _ _ b1,BP (by omega),?_⟩
  generalize upd H5 A.b _=H6 at h5' ⊢
  refine ⟨_,rfl,_,rfl,by show 3<=sizeLine; decide,fun T6 hT6=>?_⟩
  exact q (Gq (Eb bb S.rows.length,n)) _ _ _ _ _ (h5'.mono (Av hT6)) rfl ⟨T6,rfl,Af⟩ (I.k.Tv I.F.f I.b (by have:=I.l; omega) h5 (by omega) (by omega)) (by simp)
noncomputable def bw (K:PySem.W.Frag) (aB aP aM:Addr):Sp:=fun vs H Q _=>∃ (H0:Hp) (A:Kq) (S:Pl) (Cs:List Addr) (lo:V) (bb:Str) (c:Int),vs=[.ref A.p,.str (Eb bb S.rows.length),.int c]/\M_ K aB aP aM H0 H A S Cs lo bb/\S.rk.length<12/\1<=S.bs.length/\J3 K aB aP aM bb H0 A S Q
theorem X_:BX ["_law_plan_here","_law_name_here","_law_cell","_law_pipes","_law_wind"] ["_law_plan_here","_law_name_here","_law_cell"] (Ai ik):=Cj
include N T in
theorem aH:BW P w K mg base Br 2 aD.fLk aD.dLk ["_law_plan_here","_law_name_here","_law_cell"] (bw K aB aP aM):=by
 refine N.FLk.1.ok X_ (fun vs H Q E h=>?_) (fun cdv A outer s H vs Q E hr h=>?_)
 ·obtain ⟨H0,A,S,Cs,lo,bb,c,rfl,_⟩:=h
  rfl
 ·obtain ⟨H0,A,S,Cs,lo,bb,c,rfl,I,h12,hb1,q⟩:=h
  have hu:=FJ hr
  refine ⟨_,(Ae (Bj (i:=3) X_.nd rfl (Or.inl rfl) (Aw CT Ac (Ah (Jp N T) (ad hr) rfl N.FMi.2.2 N.FMi.1.kp N.FMi.2.1 .nil BJ (Aa (pv 2) (Aa Ac (Aa (BK Bt (Bh (Aa Ac (Aa Ac (Aa Ac (Aa Ac Ab))))) (Ah (Jp N T) (ad hr) rfl N.FMi.2.2 N.FMi.1.kp N.FMi.2.1 .nil BJ (Aa (pv 2) (Aa Ac (Aa Ac Ab)))) (fun _ _=>rfl)) Ab))))))
   (Ae (Bj (i:=4) X_.nd rfl (Or.inl rfl) (BK Bt (Bh (Aa (Ah (Jp N T) (ad hr) rfl N.FMi.2.2 N.FMi.1.kp N.FMi.2.1 .nil BJ (Aa (pv 2) (Aa Ac (Aa Ac Ab)))) (Aa (Aw Bs (Aw CP (pv 2) Ac) (Aw CT (Aw JN Ac Ac) Ac)) (Aa Ac (Aa (Aw JN Ac Ac) Ab))))) (Ah (Jp N T) (ad hr) rfl N.FMi.2.2 N.FMi.1.kp N.FMi.2.1 .nil BJ (Aa (pv 2) (Aa Ac (Aa Ac Ab)))) (fun _ _=>rfl)))
   (Ae (Cz (Fe aT ba be CK (Ba hu (pv 0) Al (fun _ _=>rfl)) (Aa (Bv (Aa (pv 1) (Aa (pv 3) (Aa (pv 4) Ab)))) Ab)))
   (Ag (Ax (Bv (Aa Al (Aa (pv 1) (Aa (pv 3) (Aa (pv 4) Ab)))))))))),?_⟩
  have hx:=id I.h
  obtain ⟨kvs,g1,g2,y1,y2,y3,y4,y5,y6,y7⟩:=hx.dp
  refine ⟨_,rfl,by show 4<=sizeLine; decide,fun p1 hp1=>?_⟩
  have s1:=Av (o:=HO.lst [V.int 97,.int 24,.int 24,.int 6]) hp1
  have l1:upd H p1 (HO.lst [V.int 97,.int 24,.int 24,.int 6]) p1=some (.lst [V.int 97,.int 24,.int 24,.int 6]):=Af
  refine ⟨_,rfl,c,27437,4,rfl,by decide,by decide,by decide,fun z z0 z1=>?_⟩
  obtain ⟨x,hx4,hx5⟩:=iK (a:=V.int 97) (b:=.int 24) (c:=.int 24) (d:=.int 6) z0 z1
  obtain ⟨m,rfl,m1,m2⟩:∃ m:Int,x=.int m/\0<m/\m<=97:=by
   rcases hx5 with rfl | rfl | rfl | rfl
   ·exact ⟨_,rfl,by decide,by decide⟩
   ·exact ⟨_,rfl,by decide,by decide⟩
   ·exact ⟨_,rfl,by decide,by decide⟩
   ·exact ⟨_,rfl,by decide,by decide⟩
  refine ⟨p1,_,_,_,rfl,rfl,ja l1,hx4,c,55051,m,rfl,m1,by decide,by decide,fun u u0 u1=>?_⟩
  refine ⟨_,_,rfl,rfl,?_⟩
  generalize upd H p1 (HO.lst [V.int 97,.int 24,.int 24,.int 6])=H1 at s1 l1 ⊢
  obtain ⟨n,hn⟩:=cq (by omega:0<=1+u)
  show Df 3 (V.int (1+u)) _ _ _
  rw [hn]
  have e3:0<=c / 3 % (10 ^ (9:Int).toNat+1)/\c / 3 % (10 ^ (9:Int).toNat+1)<=1000000000:=by
   have e:(10:Int) ^ (9:Int).toNat+1=1000000001:=by decide
   rw [e]
   omega
  have e9:(10:Int) ^ (9:Int).toNat=1000000000:=by decide
  refine ⟨_,rfl,c,61001,10,rfl,by decide,by decide,by decide,fun r1 r10 r11=>⟨_,rfl,_,_,rfl,rfl,⟨by decide,by decide⟩,_,_,rfl,rfl,⟨by decide,by decide,by decide⟩,_,_,rfl,rfl,_,_,rfl,rfl,(by show (0:Int)<10 ^ (9:Int).toNat+1; decide),_,_,rfl,rfl,⟨by decide,by decide,by decide⟩,by show 4<=sizeLine; decide,fun p2 hp2=>?_⟩⟩
  dsimp only at hp2 ⊢
  generalize c / 3 % (10 ^ (9:Int).toNat+1)=w2 at e3 ⊢
  generalize (10:Int) ^ (9:Int).toNat=w4 at e9 ⊢
  have s2:=Av (o:=HO.lst [V.int r1,.int w2,.int 0,.int w4]) hp2
  have l2:upd H1 p2 (HO.lst [V.int r1,.int w2,.int 0,.int w4]) p2=some (.lst [V.int r1,.int w2,.int 0,.int w4]):=Af
  refine ⟨_,rfl,c,39119,4,rfl,by decide,by decide,by decide,fun z' z0' z1'=>?_⟩
  obtain ⟨x',hx4',hx5'⟩:=iK (a:=V.int r1) (b:=.int w2) (c:=.int 0) (d:=.int w4) z0' z1'
  obtain ⟨wi,rfl,m1',m2'⟩:∃ m:Int,x'=.int m/\0<=m/\m<=1000000000:=by
   rcases hx5' with rfl | rfl | rfl | rfl
   ·exact ⟨_,rfl,by omega,by omega⟩
   ·exact ⟨_,rfl,by omega,by omega⟩
   ·exact ⟨_,rfl,by decide,by decide⟩
   ·exact ⟨_,rfl,by omega,by omega⟩
  refine ⟨p2,_,_,_,rfl,rfl,ja l2,hx4',?_⟩
  generalize upd H1 p2 (HO.lst [V.int r1,.int w2,.int 0,.int w4])=H2 at s2 l2 ⊢
  have h1:=(I.h.mono s1).mono s2
  obtain ⟨vb,b1,b2⟩:=h1.k
  have lb:=b2.length
  have g:=CQ.k (k:=Sum.inr "ranks") (s2 _ _ (s1 _ _ g1))
  rw [y3] at g
  refine ⟨_,rfl,A.p,_,rfl,g,.inl ⟨rfl,_,ja b1⟩,_,rfl,_,rfl,_,rfl,by show 3<=sizeLine; decide,fun T5 hT5=>?_⟩
  have s5:=Av (o:=HO.tup [V.str (Eb bb S.rows.length),.int (n:Nat),.int wi]) hT5
  have t5:TupAt (upd H2 T5 (HO.tup [V.str (Eb bb S.rows.length),.int (n:Nat),.int wi])) (dj (Eb bb S.rows.length,n,wi)) (.ref T5):=⟨T5,rfl,Af⟩
  generalize upd H2 T5 (HO.tup [V.str (Eb bb S.rows.length),.int (n:Nat),.int wi])=H5 at s5 t5 ⊢
  have h5':=(h1.mono s5).gH (s5 _ _ b1) t5
  refine ⟨A.k,vb,_,rfl,rfl,s5 _ _ b1,BP (by omega),?_⟩
  generalize upd H5 A.k _=H6 at h5' ⊢
  refine ⟨_,rfl,_,rfl,_,rfl,by show 4<=sizeLine; decide,fun T6 hT6=>?_⟩
  exact q (Fp (Eb bb S.rows.length,n,wi)) _ _ _ _ _ (h5'.mono (Av hT6)) rfl ⟨T6,rfl,Af⟩ (I.k.rank I.F.f I.b (by have:=I.l; omega) h12 (by omega) (by omega) m1' m2') hb1
noncomputable def aj (K:PySem.W.Frag) (aB aP aM:Addr):Sp:=fun vs H Q _=>∃ (H0:Hp) (A:Kq) (S:Pl) (Cs:List Addr) (lo:V) (bb:Str) (c:Int),vs=[.ref A.p,.str (Eb bb S.rows.length),.int c]/\M_ K aB aP aM H0 H A S Cs lo bb/\1<=S.bs.length/\(S.ks.filter fun r=>decide (V.str r.w=V.str "stop")).length<24/\J3 K aB aP aM bb H0 A S Q
theorem cC:BX ["_law_plan_here","_law_name_here","_law_cell","_law_at"] ["_law_plan_here","_law_name_here","_law_cell"] (Ai jD):=Cj
include N T in
theorem Z3:BW P w K mg base Br 2 aD.fLs aD.dLs ["_law_plan_here","_law_name_here","_law_cell"] (aj K aB aP aM):=by
 refine N.FLs.1.ok cC (fun vs H Q E h=>?_) (fun cdv A outer s H vs Q E hr h=>?_)
 ·obtain ⟨H0,A,S,Cs,lo,bb,c,rfl,_⟩:=h
  rfl
 ·obtain ⟨H0,A,S,Cs,lo,bb,c,rfl,I,hb1,h24,q⟩:=h
  have hu:=FJ hr
  refine ⟨_,(Ae (Bj (i:=3) cC.nd rfl (Or.inl rfl) (Ah (Jp N T) (ad hr) rfl N.FMi.2.2 N.FMi.1.kp N.FMi.2.1 .nil BJ (Aa (pv 2) (Aa Ac (Aa (Ak Az rfl T.len ar (Aa (Ba hu (pv 0) Al (fun _ _=>rfl)) Ab)) Ab)))))
   (Ae (Mm hu (pv 0) Al (Bh Ab) rfl)
   (Ae (Cz (Fe aT ba be CK (Ba hu (pv 0) Al (fun _ _=>rfl)) (Aa (Bv (Aa Al (Aa (pv 1) Ab))) Ab)))
   (Ae (Cz (Fe aT ba be CK (Ba hu (pv 0) Al (fun _ _=>rfl)) (Aa (Bv (Aa (pv 3) (Aa (Ba hu (pv 0) Al (fun _ _=>rfl)) Ab))) Ab)))
   (Ag (Ax (Bv (Aa Al (Aa (pv 1) (Aa (BK (Ay (K:=K) rfl) (BK Bt (Ba hu (pv 0) Al (fun _ _=>rfl)) (pv 3) (fun _ _=>rfl)) Ac (fun _ _=>rfl)) Ab)))))))))),?_⟩
  have hx:=id I.h
  obtain ⟨kvs,g1,g2,y1,y2,y3,y4,y5,y6,y7⟩:=hx.dp
  obtain ⟨vb,b1,b2⟩:=hx.b
  have lb:=b2.length
  have g:=CQ.k (k:=Sum.inr "boards") g1
  rw [y2] at g
  refine ⟨_,rfl,_,rfl,A.p,_,rfl,g,A.b,_,rfl,ja (.inl b1),c,60013,_,rfl,(by show (0:Int)<((vb.length:Nat):Int); omega),by decide,by decide,fun u u0 u1=>?_⟩
  obtain ⟨b,hb⟩:=cq u0
  subst hb
  have hbl:b<S.bs.length:=by omega
  obtain ⟨x,hxb⟩:∃ x,S.bs[b]? = some x:=⟨_,ae hbl⟩
  refine ⟨Bl (by simp),fun L hL=>?_⟩
  have old:=I.h.old hL
  obtain ⟨H1,eqH,s1,l1⟩:=Bo (o:=HO.lst []) hL
  rw [eqH]
  have h1:=(I.h.mono s1).Zi (s1 _ _ g1) (.ref L)
  have l2:upd H1 A.p (HO.dK (putK kvs (Sum.inr "lines") (.ref L))) L=some (.lst []):=by rw [Aq (Nr l1 (s1 _ _ g1) (by intro z; cases z))]; exact l1
  refine ⟨_,rfl,A.p,_,rfl,Oz.k (k:=Sum.inr "lines") (s1 _ _ g1) (BP (by omega)),?_⟩
  generalize upd H1 A.p _=H2 at h1 l2 ⊢
  obtain ⟨kvs2,g12,_,_,z2,_,z4,z5,_,z7⟩:=h1.dp
  obtain ⟨vn,n1,n2⟩:=h1.n
  have ln:=n2.length
  have lk:=I.k.lk
  have lr:=I.l
  have g:=CQ.k (k:=Sum.inr "knobs") g12
  rw [z4] at g
  refine ⟨_,rfl,A.p,_,rfl,g,.inl ⟨rfl,_,ja n1⟩,_,rfl,by show 2<=sizeLine; decide,fun T3 hT3=>?_⟩
  have s3:=Av (o:=HO.tup [V.str "stop",.str (Eb bb S.rows.length)]) hT3
  have t3:TupAt (upd H2 T3 (HO.tup [V.str "stop",.str (Eb bb S.rows.length)])) (Y8 ⟨"stop",Eb bb S.rows.length,[.str x.1]⟩) (.ref T3):=⟨T3,rfl,Af⟩
  generalize upd H2 T3 (HO.tup [V.str "stop",.str (Eb bb S.rows.length)])=H3 at s3 t3 ⊢
  have l3:=s3 _ _ l2
  have h3:=(h1.mono s3).Vx (s3 _ _ n1) t3
  have l4:upd H3 A.n (HO.lst (vn++[.ref T3])) L=some (.lst []):=by
   rw [Aq fun z=>old.2 (by rw [z]; simp)]
   exact l3
  refine ⟨A.n,vn,_,rfl,rfl,s3 _ _ n1,BP (by omega),?_⟩
  generalize upd H3 A.n (HO.lst (vn++[.ref T3]))=H4 at h3 l4 ⊢
  obtain ⟨kvs4,g14,_,_,w2,_,_,w5,_,w7⟩:=h3.dp
  obtain ⟨vd,d1,d2,d3⟩:=h3.d
  have ld:=d3.length
  have ld2:=I.k.pd.length
  have gd:=CQ.k (k:=Sum.inr "details") g14
  rw [w5] at gd
  have gl:=CQ.k (k:=Sum.inr "lines") g14
  rw [w7] at gl
  refine ⟨_,rfl,A.p,_,rfl,gd,.inl ⟨rfl,_,ja d1⟩,_,rfl,_,rfl,A.p,_,rfl,gl,by show 2<=sizeLine; decide,fun T5 hT5=>?_⟩
  have s5:=Av (o:=HO.tup [V.int (b:Nat),.ref L]) hT5
  have t5:Hg (upd H4 T5 (HO.tup [V.int (b:Nat),.ref L])) (.stop b L,[]) (.ref T5):=⟨⟨T5,rfl,Af⟩,[],s5 _ _ l4,.nil⟩
  generalize upd H4 T5 (HO.tup [V.int (b:Nat),.ref L])=H5 at s5 t5 ⊢
  have h5:=(h3.mono s5).VM (s5 _ _ d1) t5 (fun L' hL'=>by rw [av.mp hL']; exact old)
  have ld3:vd.length<=100:=by
   rw [gz] at ld
   show vd.length<=100
   have:S.ds.length=S.ks.length:=ld2.symm
   have:vd.length<=S.ds.length:=by
    rw [← ld]
    exact iq _ _
   omega
  refine ⟨A.d,vd,_,rfl,rfl,s5 _ _ d1,BP (by omega),?_⟩
  generalize upd H5 A.d _=H6 at h5 ⊢
  obtain ⟨kvs6,g16,_,_,u2,_⟩:=h5.dp
  obtain ⟨vb6,b16,b26⟩:=h5.b
  have gb:=CQ.k (k:=Sum.inr "boards") g16
  rw [u2] at gb
  obtain ⟨yb,hyb,Tb,rfl,hTb⟩:=B_ b26 hxb
  refine ⟨_,rfl,_,rfl,A.p,_,rfl,gb,_,rfl,A.b,_,_,_,rfl,rfl,ja b16,Aj hyb,Tb,_,_,_,rfl,rfl,ja hTb,Aj (j:=0) rfl,by show 3<=sizeLine; decide,fun T6 hT6=>?_⟩
  refine q ⟨"stop",Eb bb S.rows.length,[.str x.1]⟩ _ _ _ _ _ (h5.mono (Av hT6)) rfl ⟨T6,rfl,Af⟩ (I.k.WY (by omega) rfl ⟨rfl,x,hxb,rfl⟩ (I.k.bl.plain I.F.f (.inl rfl) (Fj I.b _) (I.k.fb (by omega)) (I.k.fr (by omega)) (I.k.fk (by omega)) (by show _<24; exact h24) (n:=x.2) ?_ (List.mem_of_getElem? hxb)) (.inr ⟨b,L,x,rfl,rfl,hxb,Tl.stop _ _ _⟩)) hb1
  obtain ⟨m,_,e⟩:=I.k.nb x (al hxb)
  rw [e]
  exact Fj I.b m
noncomputable def bM (K:PySem.W.Frag) (aB aP aM:Addr):Sp:=fun vs H Q _=>∃ (H0:Hp) (A:Kq) (S:Pl) (Cs:List Addr) (bb:Str) (c:Int) (ds0:List Dt) (b:Nat) (L:Addr) (x:Str × Nat) (ls0:List (List Ln)) (l0:List Ln),vs=[.ref A.p,.int c]/\M_ K aB aP aM H0 H A S Cs (.ref L) bb/\S.ds=ds0++[.stop b L]/\S.ls=ls0++[l0]/\S.bs[b]? = some x/\Tl S.rows x.1 l0.length/\l0.length<4/\1<=S.rk.length/\J3 K aB aP aM bb H0 A S Q
theorem Pj:BX ["_law_plan_here","_law_cell","_law_at","_law_keys","_law_low","_law_high","_law_shift"] ["_law_plan_here","_law_cell"] (Ai iM):=Cj
include N T in
theorem cM:BW P w K mg base Br 2 aD.fLl aD.dLl ["_law_plan_here","_law_cell"] (bM K aB aP aM):=by
 refine N.FLl.1.ok Pj (fun vs H Q E h=>?_) (fun cdv A outer s H vs Q E hr h=>?_)
 ·obtain ⟨H0,A,S,Cs,bb,c,ds0,b,L,x,ls0,l0,rfl,_⟩:=h
  rfl
 ·obtain ⟨H0,A,S,Cs,bb,c,ds0,b,L,x,ls0,l0,rfl,I,e1,e2,hxb,hT,h4,hr1,q⟩:=h
  have hu:=FJ hr
  refine ⟨_,(Ae (Bj (i:=2) Pj.nd rfl (Or.inl rfl) (Ah (Jp N T) (ad hr) rfl N.FMi.2.2 N.FMi.1.kp N.FMi.2.1 .nil BJ (Aa (pv 1) (Aa Ac (Aa (Ak Az rfl T.len ar (Aa (Ba hu (pv 0) Al (fun _ _=>rfl)) Ab)) Ab)))))
   (Ae (Bj (i:=3) Pj.nd rfl (Or.inl rfl) (BK (Ay (K:=K) rfl) (BK (Ei (K:=K) rfl) (Ba hu (pv 0) Al (fun _ _=>rfl)) (BK (Ay (K:=K) rfl) (BK (Ei (K:=K) rfl) (Ba hu (pv 0) Al (fun _ _=>rfl)) (Ld JQ Ac) (fun _ _=>rfl)) Ac (fun _ _=>rfl)) (fun _ _=>rfl)) Ac (fun _ _=>rfl)))
   (Ae (Bj (i:=4) Pj.nd rfl (Or.inl rfl) (Ah (Jp N T) (ad hr) rfl N.FMi.2.2 N.FMi.1.kp N.FMi.2.1 .nil BJ (Aa (pv 1) (Aa Ac (Aa (pv 3) Ab)))))
   (Ae (Bj (i:=5) Pj.nd rfl (Or.inl rfl) (Aw CT (pv 4) (Ah (Jp N T) (ad hr) rfl N.FMi.2.2 N.FMi.1.kp N.FMi.2.1 .nil BJ (Aa (pv 1) (Aa Ac (Aa (Aw Dc (pv 3) (pv 4)) Ab))))))
   (Ae (Bj (i:=6) Pj.nd rfl (Or.inl rfl) (Aw Dc (Ah (Jp N T) (ad hr) rfl N.FMi.2.2 N.FMi.1.kp N.FMi.2.1 .nil BJ (Aa (pv 1) (Aa Ac (Aa Ac Ab)))) Ac))
   (Ae (Bf (A_ Bw (Ah (Jp N T) (ad hr) rfl N.FMi.2.2 N.FMi.1.kp N.FMi.2.1 .nil BJ (Aa (pv 1) (Aa Ac (Aa Ac Ab)))) Ac (BV _)) (Ag (Bj (i:=6) Pj.nd rfl (Or.inl rfl) (Aw Dc (Aw Bs (Aw CP (pv 1) Ac) Ac) Ac))) BR)
   (Ae (Cz (Fe aT ba be CK (Ba hu (pv 0) Al (fun _ _=>rfl)) (Aa (Bv (Aa (pv 2) (Aa (pv 6) (Aa (pv 4) (Aa (pv 5) Ab))))) Ab)))
   (Ag (Ax (Bv (Aa Al (Aa (BK (Ay (K:=K) rfl) (BK Bt (Ba hu (pv 0) Al (fun _ _=>rfl)) (pv 2) (fun _ _=>rfl)) Ac (fun _ _=>rfl)) (Aa (pv 6) (Aa (pv 4) (Aa (pv 5) Ab))))))))))))))),?_⟩
  have hx:=id I.h
  obtain ⟨kvs,g1,g2,y1,y2,y3,y4,y5,y6,y7⟩:=hx.dp
  obtain ⟨vk,k1,k2⟩:=hx.k
  obtain ⟨vb,b1,b2⟩:=hx.b
  obtain ⟨vd,d1,d2,d3⟩:=hx.d
  have lk:=k2.length
  have xs:=I.k.sb x (al hxb)
  have g:=CQ.k (k:=Sum.inr "ranks") g1
  rw [y3] at g
  have gb:=CQ.k (k:=Sum.inr "boards") g1
  rw [y2] at gb
  have gd:=CQ.k (k:=Sum.inr "details") g1
  rw [y5] at gd
  have gl:=CQ.k (k:=Sum.inr "lines") g1
  rw [y7] at gl
  have ld:ds0.length=ls0.length:=by
   have:=d2
   rw [e1,e2] at this
   simpa using this
  rw [e1,e2,gy ld] at d3
  obtain ⟨vd0,ud,rfl,_,hud⟩:=Gh d3
  obtain ⟨⟨Td,rfl,hTd⟩,ts,hL,hts⟩:=hud
  have lts:l0.length=ts.length:=hts.length
  obtain ⟨yb,hyb,Tb,rfl,hTb⟩:=B_ b2 hxb
  refine ⟨_,rfl,_,rfl,A.p,_,rfl,g,A.k,_,rfl,ja (.inl k1),c,40709,_,rfl,(by show (0:Int)<((vk.length:Nat):Int); omega),by decide,by decide,fun u u0 u1=>?_⟩
  obtain ⟨j,hj⟩:=cq u0
  subst hj
  obtain ⟨rr,hrr⟩:∃ x,S.rk[j]? = some x:=⟨_,ae (by omega)⟩
  obtain ⟨yr,hyr,Tr,rfl,hTr⟩:=B_ k2 hrr
  refine ⟨_,rfl,A.p,_,rfl,gb,_,rfl,A.p,_,rfl,gd,_,rfl,A.d,_,_,_,rfl,rfl,ja d1,Qk vd0 (V.ref Td),Td,_,_,_,rfl,rfl,ja hTd,Aj (j:=0) rfl,A.b,_,_,_,rfl,rfl,ja b1,Aj hyb,Tb,_,_,_,rfl,rfl,ja hTb,Aj (j:=1) rfl,?_⟩
  refine ⟨_,rfl,_,rfl,c,18149,_,rfl,(by show (0:Int)<((x.2:Nat):Int); omega),by decide,by decide,fun lw lw0 lw1=>?_⟩
  refine ⟨_,rfl,_,rfl,_,rfl,_,rfl,_,_,rfl,rfl,c,13499,_,rfl,(by show (0:Int)<((x.2:Nat):Int) - lw; omega),by decide,by decide,fun hd hd0 hd1=>⟨_,_,rfl,rfl,?_⟩⟩
  show Df 5 (V.int (lw+hd)) _ _ _
  generalize ehi:lw+hd=hi
  refine ⟨_,rfl,c,57089,25,rfl,by decide,by decide,by decide,fun sh sh0 sh1=>⟨_,_,rfl,rfl,?_⟩⟩
  show Df 6 (V.int (sh - 12)) _ _ _
  obtain ⟨sv,es⟩:∃ sv,sh - 12=sv:=⟨_,rfl⟩
  rw [es]
  refine ⟨_,rfl,c,17681,4,rfl,by decide,by decide,by decide,fun z z0 z1=>⟨rfl,_,rfl,Bd (fun _=>?_) (fun _=>?_)⟩⟩
  ·refine ⟨_,rfl,_,_,rfl,rfl,⟨by decide,by decide⟩,_,_,rfl,rfl,(by show (0:Int)<401; decide),_,_,rfl,rfl,?_⟩
   show Df 6 (V.int (c / 5 % 401 - 200)) _ _ _
   obtain ⟨sw,ew⟩:∃ sw,c / 5 % 401 - 200=sw:=⟨_,rfl⟩
   rw [ew]
   refine ⟨_,rfl,A.p,_,rfl,gl,.inl ⟨rfl,_,ja hL⟩,_,rfl,_,rfl,_,rfl,_,rfl,by show 4<=sizeLine; decide,fun T5 hT5=>?_⟩
   have s5:=Av (o:=HO.tup [V.int (j:Nat),.int sw,.int lw,.int hi]) hT5
   have t5:TupAt (upd H T5 (HO.tup [V.int (j:Nat),.int sw,.int lw,.int hi])) (ZK ⟨j,sw,lw,hi⟩) (.ref T5):=⟨T5,rfl,Af⟩
   generalize upd H T5 (HO.tup [V.int (j:Nat),.int sw,.int lw,.int hi])=H5 at s5 t5 ⊢
   have h5:=(I.h.mono s5).Zc e1 e2 (s5 _ _ hL) t5
   refine ⟨L,ts,_,rfl,rfl,s5 _ _ hL,BP (by omega),?_⟩
   generalize upd H5 L _=H6 at h5 ⊢
   obtain ⟨kvs6,g16,_,_,_,u3,_⟩:=h5.dp
   obtain ⟨vk6,k16,k26⟩:=h5.k
   have gk:=CQ.k (k:=Sum.inr "ranks") g16
   rw [u3] at gk
   obtain ⟨yr6,hyr6,Tr6,rfl,hTr6⟩:=B_ k26 hrr
   refine ⟨_,rfl,A.p,_,rfl,gk,_,rfl,A.k,_,_,_,rfl,rfl,ja k16,Aj hyr6,Tr6,_,_,_,rfl,rfl,ja hTr6,Aj (j:=0) rfl,_,rfl,_,rfl,_,rfl,by show 5<=sizeLine; decide,fun T6 hT6=>?_⟩
   exact q ⟨"line",rr.1,[.int sw,.int lw,.int hi]⟩ _ _ _ _ _ (h5.mono (Av hT6)) rfl ⟨T6,rfl,Af⟩ (I.k.line I.F.f I.b e1 e2 hxb hT h4 hrr (by omega) (by omega) (by omega) (by omega) lw0) (bt (dL _) (af.mp hxb).1)
  ·refine ⟨_,rfl,A.p,_,rfl,gl,.inl ⟨rfl,_,ja hL⟩,_,rfl,_,rfl,_,rfl,_,rfl,by show 4<=sizeLine; decide,fun T5 hT5=>?_⟩
   have s5:=Av (o:=HO.tup [V.int (j:Nat),.int sv,.int lw,.int hi]) hT5
   have t5:TupAt (upd H T5 (HO.tup [V.int (j:Nat),.int sv,.int lw,.int hi])) (ZK ⟨j,sv,lw,hi⟩) (.ref T5):=⟨T5,rfl,Af⟩
   generalize upd H T5 (HO.tup [V.int (j:Nat),.int sv,.int lw,.int hi])=H5 at s5 t5 ⊢
   have h5:=(I.h.mono s5).Zc e1 e2 (s5 _ _ hL) t5
   refine ⟨L,ts,_,rfl,rfl,s5 _ _ hL,BP (by omega),?_⟩
   generalize upd H5 L _=H6 at h5 ⊢
   obtain ⟨kvs6,g16,_,_,_,u3,_⟩:=h5.dp
   obtain ⟨vk6,k16,k26⟩:=h5.k
   have gk:=CQ.k (k:=Sum.inr "ranks") g16
   rw [u3] at gk
   obtain ⟨yr6,hyr6,Tr6,rfl,hTr6⟩:=B_ k26 hrr
   refine ⟨_,rfl,A.p,_,rfl,gk,_,rfl,A.k,_,_,_,rfl,rfl,ja k16,Aj hyr6,Tr6,_,_,_,rfl,rfl,ja hTr6,Aj (j:=0) rfl,_,rfl,_,rfl,_,rfl,by show 5<=sizeLine; decide,fun T6 hT6=>?_⟩
   exact q ⟨"line",rr.1,[.int sv,.int lw,.int hi]⟩ _ _ _ _ _ (h5.mono (Av hT6)) rfl ⟨T6,rfl,Af⟩ (I.k.line I.F.f I.b e1 e2 hxb hT h4 hrr (by omega) (by omega) (by omega) (by omega) lw0) (bt (dL _) (af.mp hxb).1)
noncomputable def aJ (K:PySem.W.Frag) (aB aP aM:Addr):Sp:=fun vs H Q _=>∃ (H0:Hp) (A:Kq) (S:Pl) (Cs:List Addr) (lo:V) (bb:Str) (c:Int),vs=[.ref A.p,.str (Eb bb S.rows.length),.int c]/\M_ K aB aP aM H0 H A S Cs lo bb/\1<=S.bs.length/\(S.ks.filter fun r=>decide (V.str r.w=V.str "coupler")).length<12/\J3 K aB aP aM bb H0 A S Q
theorem Tq:BX ["_law_plan_here","_law_name_here","_law_cell","_law_one","_law_other","_law_shift"] ["_law_plan_here","_law_name_here","_law_cell"] (Ai ig):=Cj
include N T in
theorem Z8:BW P w K mg base Br 2 aD.fLc aD.dLc ["_law_plan_here","_law_name_here","_law_cell"] (aJ K aB aP aM):=by
 refine N.FLc.1.ok Tq (fun vs H Q E h=>?_) (fun cdv A outer s H vs Q E hr h=>?_)
 ·obtain ⟨H0,A,S,Cs,lo,bb,c,rfl,_⟩:=h
  rfl
 ·obtain ⟨H0,A,S,Cs,lo,bb,c,rfl,I,hb1,h12,q⟩:=h
  have hu:=FJ hr
  refine ⟨_,(Ae (Bj (i:=3) Tq.nd rfl (Or.inl rfl) (Ah (Jp N T) (ad hr) rfl N.FMi.2.2 N.FMi.1.kp N.FMi.2.1 .nil BJ (Aa (pv 2) (Aa Ac (Aa (Ak Az rfl T.len ar (Aa (Ba hu (pv 0) Al (fun _ _=>rfl)) Ab)) Ab)))))
   (Ae (Bj (i:=4) Tq.nd rfl (Or.inl rfl) (Ah (Jp N T) (ad hr) rfl N.FMi.2.2 N.FMi.1.kp N.FMi.2.1 .nil BJ (Aa (pv 2) (Aa Ac (Aa (Ak Az rfl T.len ar (Aa (Ba hu (pv 0) Al (fun _ _=>rfl)) Ab)) Ab)))))
   (Ae (Bj (i:=5) Tq.nd rfl (Or.inl rfl) (Aw Dc (Ah (Jp N T) (ad hr) rfl N.FMi.2.2 N.FMi.1.kp N.FMi.2.1 .nil BJ (Aa (pv 2) (Aa Ac (Aa Ac Ab)))) Ac))
   (Ae (Bf (A_ Bw (Ah (Jp N T) (ad hr) rfl N.FMi.2.2 N.FMi.1.kp N.FMi.2.1 .nil BJ (Aa (pv 2) (Aa Ac (Aa Ac Ab)))) Ac (BV _)) (Ag (Bj (i:=5) Tq.nd rfl (Or.inl rfl) (Aw Dc (Aw Bs (Aw CP (pv 2) Ac) Ac) Ac))) BR)
   (Ae (Cz (Fe aT ba be CK (Ba hu (pv 0) Al (fun _ _=>rfl)) (Aa (Bv (Aa Al (Aa (pv 1) Ab))) Ab)))
   (Ae (Cz (Fe aT ba be CK (Ba hu (pv 0) Al (fun _ _=>rfl)) (Aa (Bv (Aa (pv 3) (Aa (pv 4) (Aa (pv 5) Ab)))) Ab)))
   (Ag (Ax (Bv (Aa Al (Aa (pv 1) (Aa (BK (Ay (K:=K) rfl) (BK Bt (Ba hu (pv 0) Al (fun _ _=>rfl)) (pv 3) (fun _ _=>rfl)) Ac (fun _ _=>rfl)) (Aa (BK (Ay (K:=K) rfl) (BK Bt (Ba hu (pv 0) Al (fun _ _=>rfl)) (pv 4) (fun _ _=>rfl)) Ac (fun _ _=>rfl)) (Aa (pv 5) Ab)))))))))))))),?_⟩
  have hx:=id I.h
  obtain ⟨kvs,g1,g2,y1,y2,y3,y4,y5,y6,y7⟩:=hx.dp
  obtain ⟨vb,b1,b2⟩:=hx.b
  obtain ⟨vn,n1,n2⟩:=hx.n
  have lb:=b2.length
  have ln:=n2.length
  have lk:=I.k.lk
  have lr:=I.l
  have gb:=CQ.k (k:=Sum.inr "boards") g1
  rw [y2] at gb
  have g:=CQ.k (k:=Sum.inr "knobs") g1
  rw [y4] at g
  refine ⟨_,rfl,_,rfl,A.p,_,rfl,gb,A.b,_,rfl,ja (.inl b1),c,52501,_,rfl,(by show (0:Int)<((vb.length:Nat):Int); omega),by decide,by decide,fun u u0 u1=>?_⟩
  obtain ⟨b,hb⟩:=cq u0
  subst hb
  obtain ⟨x1,hxb⟩:∃ x,S.bs[b]? = some x:=⟨_,ae (by omega)⟩
  have nx1:=I.k.gq I.b hxb
  refine ⟨_,rfl,_,rfl,A.p,_,rfl,gb,A.b,_,rfl,ja (.inl b1),c,65003,_,rfl,(by show (0:Int)<((vb.length:Nat):Int); omega),by decide,by decide,fun u' u0' u1'=>?_⟩
  obtain ⟨b',hb'⟩:=cq u0'
  subst hb'
  obtain ⟨x2,hxb'⟩:∃ x,S.bs[b']? = some x:=⟨_,ae (by omega)⟩
  have nx2:=I.k.gq I.b hxb'
  refine ⟨_,rfl,c,31547,13,rfl,by decide,by decide,by decide,fun sh sh0 sh1=>⟨_,_,rfl,rfl,?_⟩⟩
  show Df 5 (V.int (sh - 6)) _ _ _
  obtain ⟨sv,es⟩:∃ sv,sh - 6=sv:=⟨_,rfl⟩
  rw [es]
  refine ⟨_,rfl,c,44623,4,rfl,by decide,by decide,by decide,fun z z0 z1=>⟨rfl,_,rfl,Bd (fun _=>?_) (fun _=>?_)⟩⟩
  ·refine ⟨_,rfl,_,_,rfl,rfl,⟨by decide,by decide⟩,_,_,rfl,rfl,(by show (0:Int)<121; decide),_,_,rfl,rfl,?_⟩
   show Df 5 (V.int (c / 7 % 121 - 60)) _ _ _
   obtain ⟨sw,ew⟩:∃ sw,c / 7 % 121 - 60=sw:=⟨_,rfl⟩
   rw [ew]
   refine ⟨_,rfl,A.p,_,rfl,g,.inl ⟨rfl,_,ja n1⟩,_,rfl,by show 2<=sizeLine; decide,fun T3 hT3=>?_⟩
   have s3:=Av (o:=HO.tup [V.str "coupler",.str (Eb bb S.rows.length)]) hT3
   have t3:TupAt (upd H T3 (HO.tup [V.str "coupler",.str (Eb bb S.rows.length)])) (Y8 ⟨"coupler",Eb bb S.rows.length,[.str x1.1,.str x2.1,.int sw]⟩) (.ref T3):=⟨T3,rfl,Af⟩
   generalize upd H T3 (HO.tup [V.str "coupler",.str (Eb bb S.rows.length)])=H3 at s3 t3 ⊢
   have h3:=(hx.mono s3).Vx (s3 _ _ n1) t3
   refine ⟨A.n,vn,_,rfl,rfl,s3 _ _ n1,BP (by omega),?_⟩
   generalize upd H3 A.n _=H4 at h3 ⊢
   obtain ⟨kvs4,g14,_,_,w2,_,_,w5,_,w7⟩:=h3.dp
   obtain ⟨vd,d1,d2,d3⟩:=h3.d
   have gd:=CQ.k (k:=Sum.inr "details") g14
   rw [w5] at gd
   refine ⟨_,rfl,A.p,_,rfl,gd,.inl ⟨rfl,_,ja d1⟩,_,rfl,_,rfl,_,rfl,by show 3<=sizeLine; decide,fun T5 hT5=>?_⟩
   have s5:=Av (o:=HO.tup [V.int (b:Nat),.int (b':Nat),.int sw]) hT5
   have t5:Hg (upd H4 T5 (HO.tup [V.int (b:Nat),.int (b':Nat),.int sw])) (.coup b b' sw,[]) (.ref T5):=⟨T5,rfl,Af⟩
   generalize upd H4 T5 (HO.tup [V.int (b:Nat),.int (b':Nat),.int sw])=H5 at s5 t5 ⊢
   have h5:=(h3.mono s5).VM (s5 _ _ d1) t5 (fun L' hL'=>nomatch hL')
   have ld3:vd.length<=100:=by
    have ld:=d3.length
    rw [gz] at ld
    have:S.ds.length=S.ks.length:=I.k.pd.length.symm
    have:vd.length<=S.ds.length:=by
     rw [← ld]
     exact iq _ _
    omega
   refine ⟨A.d,vd,_,rfl,rfl,s5 _ _ d1,BP (by omega),?_⟩
   generalize upd H5 A.d _=H6 at h5 ⊢
   obtain ⟨kvs6,g16,_,_,u2,_⟩:=h5.dp
   obtain ⟨vb6,b16,b26⟩:=h5.b
   have gb:=CQ.k (k:=Sum.inr "boards") g16
   rw [u2] at gb
   obtain ⟨yb,hyb,Tb,rfl,hTb⟩:=B_ b26 hxb
   obtain ⟨yb',hyb',Tb',rfl,hTb'⟩:=B_ b26 hxb'
   refine ⟨_,rfl,_,rfl,A.p,_,rfl,gb,_,rfl,A.b,_,_,_,rfl,rfl,ja b16,Aj hyb,Tb,_,_,_,rfl,rfl,ja hTb,Aj (j:=0) rfl,_,rfl,A.p,_,rfl,gb,_,rfl,A.b,_,_,_,rfl,rfl,ja b16,Aj hyb',Tb',_,_,_,rfl,rfl,ja hTb',Aj (j:=0) rfl,_,rfl,by show 5<=sizeLine; decide,fun T6 hT6=>?_⟩
   exact q ⟨"coupler",Eb bb S.rows.length,[.str x1.1,.str x2.1,.int sw]⟩ _ _ _ _ _ (h5.mono (Av hT6)) rfl ⟨T6,rfl,Af⟩ (I.k.WY (by omega) rfl ⟨rfl,x1,x2,hxb,hxb',rfl⟩ (I.k.bl.Qj I.F.f (Fj I.b _) (I.k.fb (by omega)) (I.k.fr (by omega)) (I.k.fk (by omega)) h12 (n:=x1.2) (m:=x2.2) nx1 (al hxb) nx2 (al hxb') (by omega) (by omega)) (.inl rfl)) hb1
  ·refine ⟨_,rfl,A.p,_,rfl,g,.inl ⟨rfl,_,ja n1⟩,_,rfl,by show 2<=sizeLine; decide,fun T3 hT3=>?_⟩
   have s3:=Av (o:=HO.tup [V.str "coupler",.str (Eb bb S.rows.length)]) hT3
   have t3:TupAt (upd H T3 (HO.tup [V.str "coupler",.str (Eb bb S.rows.length)])) (Y8 ⟨"coupler",Eb bb S.rows.length,[.str x1.1,.str x2.1,.int sv]⟩) (.ref T3):=⟨T3,rfl,Af⟩
   generalize upd H T3 (HO.tup [V.str "coupler",.str (Eb bb S.rows.length)])=H3 at s3 t3 ⊢
   have h3:=(hx.mono s3).Vx (s3 _ _ n1) t3
   refine ⟨A.n,vn,_,rfl,rfl,s3 _ _ n1,BP (by omega),?_⟩
   generalize upd H3 A.n _=H4 at h3 ⊢
   obtain ⟨kvs4,g14,_,_,w2,_,_,w5,_,w7⟩:=h3.dp
   obtain ⟨vd,d1,d2,d3⟩:=h3.d
   have gd:=CQ.k (k:=Sum.inr "details") g14
   rw [w5] at gd
   refine ⟨_,rfl,A.p,_,rfl,gd,.inl ⟨rfl,_,ja d1⟩,_,rfl,_,rfl,_,rfl,by show 3<=sizeLine; decide,fun T5 hT5=>?_⟩
   have s5:=Av (o:=HO.tup [V.int (b:Nat),.int (b':Nat),.int sv]) hT5
   have t5:Hg (upd H4 T5 (HO.tup [V.int (b:Nat),.int (b':Nat),.int sv])) (.coup b b' sv,[]) (.ref T5):=⟨T5,rfl,Af⟩
   generalize upd H4 T5 (HO.tup [V.int (b:Nat),.int (b':Nat),.int sv])=H5 at s5 t5 ⊢
   have h5:=(h3.mono s5).VM (s5 _ _ d1) t5 (fun L' hL'=>nomatch hL')
   have ld3:vd.length<=100:=by
    have ld:=d3.length
    rw [gz] at ld
    have:S.ds.length=S.ks.length:=I.k.pd.length.symm
    have:vd.length<=S.ds.length:=by
     rw [← ld]
     exact iq _ _
    omega
   refine ⟨A.d,vd,_,rfl,rfl,s5 _ _ d1,BP (by omega),?_⟩
   generalize upd H5 A.d _=H6 at h5 ⊢
   obtain ⟨kvs6,g16,_,_,u2,_⟩:=h5.dp
   obtain ⟨vb6,b16,b26⟩:=h5.b
   have gb:=CQ.k (k:=Sum.inr "boards") g16
   rw [u2] at gb
   obtain ⟨yb,hyb,Tb,rfl,hTb⟩:=B_ b26 hxb
   obtain ⟨yb',hyb',Tb',rfl,hTb'⟩:=B_ b26 hxb'
   refine ⟨_,rfl,_,rfl,A.p,_,rfl,gb,_,rfl,A.b,_,_,_,rfl,rfl,ja b16,Aj hyb,Tb,_,_,_,rfl,rfl,ja hTb,Aj (j:=0) rfl,_,rfl,A.p,_,rfl,gb,_,rfl,A.b,_,_,_,rfl,rfl,ja b16,Aj hyb',Tb',_,_,_,rfl,rfl,ja hTb',Aj (j:=0) rfl,_,rfl,by show 5<=sizeLine; decide,fun T6 hT6=>?_⟩
   exact q ⟨"coupler",Eb bb S.rows.length,[.str x1.1,.str x2.1,.int sv]⟩ _ _ _ _ _ (h5.mono (Av hT6)) rfl ⟨T6,rfl,Af⟩ (I.k.WY (by omega) rfl ⟨rfl,x1,x2,hxb,hxb',rfl⟩ (I.k.bl.Qj I.F.f (Fj I.b _) (I.k.fb (by omega)) (I.k.fr (by omega)) (I.k.fk (by omega)) h12 (n:=x1.2) (m:=x2.2) nx1 (al hxb) nx2 (al hxb') (by omega) (by omega)) (.inl rfl)) hb1
noncomputable def ZM (K:PySem.W.Frag) (aB aP aM:Addr):Sp:=fun vs H Q _=>∃ (H0:Hp) (A:Kq) (S:Pl) (Cs:List Addr) (lo:V) (bb:Str) (c:Int),vs=[.ref A.p,.int c]/\M_ K aB aP aM H0 H A S Cs lo bb/\0<(S.ks.filter fun r=>decide (V.str r.w=V.str "stop")).length/\S.ch.length<12/\1<=S.bs.length/\J3 K aB aP aM bb H0 A S Q
theorem S9:BX ["_law_plan_here","_law_cell","_law_stops","_law_chosen","_law_k","_law_one"] ["_law_plan_here","_law_cell"] (Ai cX):=Cj
include N T in
theorem bj:BW P w K mg base Br 2 aD.fLt aD.dLt ["_law_plan_here","_law_cell"] (ZM K aB aP aM):=by
 refine N.FLt.1.ok S9 (fun vs H Q E h=>?_) (fun cdv A outer s H vs Q E hr h=>?_)
 ·obtain ⟨H0,A,S,Cs,lo,bb,c,rfl,_⟩:=h
  rfl
 ·obtain ⟨H0,A,S,Cs,lo,bb,c,rfl,I,hs0,h12,hb1,q⟩:=h
  have hu:=FJ hr
  refine ⟨_,(Ae (Qi (i:=2) S9.nd rfl rfl rfl (Bg (osc:=Ai cX) (N:=["_law_plan_here","_law_cell","_law_stops","_law_chosen","_law_k","_law_one"]) rfl rfl (by decide +kernel)) (GK rfl T.range (Aa (Ak Az rfl T.len ar (Aa (Ba hu (pv 0) Al (fun _ _=>rfl)) Ab)) Ab)) (fun _ _ _ _=>(Mq (A_ Bw (BK (Ay (K:=K) rfl) (BK (Ei (K:=K) rfl) (Ba hu (pv 1) Al (fun _ _=>rfl)) (pv 0) (fun _ _=>rfl)) Ac (fun _ _=>rfl)) Al (BV _)))) (fun _ _ _ _=>(pv 0)))
   (Ae (Bj (i:=3) S9.nd rfl (Or.inl rfl) (Bh Ab))
   (Ae (Ez PassesOwn.never rfl (GK rfl T.range (Aa (Aw CT Ac (Ah (Jp N T) (ad hr) rfl N.FMi.2.2 N.FMi.1.kp N.FMi.2.1 .nil BJ (Aa (pv 1) (Aa Ac (Aa Ac Ab))))) Ab)) (Cu (i:=4) S9.nd rfl (Or.inl rfl)) (Ae (Bj (i:=5) S9.nd rfl (Or.inl rfl) (BK Bt (pv 2) (Ah (Jp N T) (ad hr) rfl N.FMi.2.2 N.FMi.1.kp N.FMi.2.1 .nil BJ (Aa (Aw CT (Aw CP (pv 1) Ac) (Aw Gv (pv 4) (pv 4))) (Aa Ac (Aa (Ak Az rfl T.len ar (Aa (pv 2) Ab)) Ab)))) (fun _ _=>rfl)))
   (Ag (Bf (A_ Fb (pv 5) (pv 3) rfl) (Ag (Cz (Fe aT ba be CK (pv 3) (Aa (pv 5) Ab)))) BR))))
   (Ae (Cz (Fe aT ba be CK (Ba hu (pv 0) Al (fun _ _=>rfl)) (Aa (pv 3) Ab)))
   (Ag (Ax (Dw Hm rfl T.tuple ft (Aa (Aw Eu (Bh (Aa Al Ab)) (Bx rfl (Bg (osc:=Ai cX) (N:=["_law_plan_here","_law_cell","_law_stops","_law_chosen","_law_k","_law_one"]) rfl rfl (by decide +kernel)) (CN (pv 3)) (fun _ _ _ _=>Ce) (fun _ _ _ _=>(BK (Ay (K:=K) rfl) (BK (Ei (K:=K) rfl) (Ba hu (pv 1) Al (fun _ _=>rfl)) (pv 0) (fun _ _=>rfl)) Ac (fun _ _=>rfl))))) Ab)))))))),?_⟩
  have hx:=id I.h
  obtain ⟨kvs,g1,g2,y1,y2,y3,y4,y5,y6,y7⟩:=hx.dp
  obtain ⟨vn,n1,n2⟩:=hx.n
  have ln:S.ks.length=vn.length:=n2.length
  have lk:=I.k.lk
  have lr:=I.l
  have g:=CQ.k (k:=Sum.inr "knobs") g1
  rw [y4] at g
  have sp:=R1 hs0
  refine ⟨_,rfl,A.p,_,rfl,g,A.n,_,rfl,ja (.inl n1),_,rfl,by omega,by omega,?_⟩
  refine QG (lo:=0) (n:=vn.length) (fun i=>WM S.ks i.toNat) (fun i=>.int i) (BP (by omega)) (fun i hi H' hs R k=>?_) (fun i hi _ H' hs R k=>⟨_,rfl,k H' (Am.refl H')⟩) (fun D1 H1 hD1 s1 hl1=>?_)
  ·have g':=CQ.k (k:=Sum.inr "knobs") (hs _ _ g1)
   rw [y4] at g'
   obtain ⟨kr,hkr⟩:∃ x,S.ks[i]? = some x:=⟨_,ae (by omega)⟩
   obtain ⟨yn,hyn,Tn,rfl,hTn⟩:=B_ n2 hkr
   refine ⟨_,rfl,A.p,_,rfl,g',_,rfl,A.n,_,_,_,rfl,rfl,ja (hs _ _ n1),(by rw [iA]; exact Aj hyn),Tn,_,_,_,rfl,rfl,ja (hs _ _ hTn),Aj (j:=0) rfl,rfl,_,rfl,?_⟩
   have:=k H' (Am.refl H')
   unfold WM at this
   rw [iA,eD,hkr] at this
   exact this
  have e1:((((List.range vn.length).map fun (i:Nat)=>(0:Int)+(i:Int)).filter fun i=>WM S.ks i.toNat).map fun i=>V.int i)=Pu (Js S.ks):=by
   unfold Js Pu
   rw [← ln,ef,bX]
   have:(fun i:Int=>WM S.ks i.toNat) ∘ (fun i:Nat=>(0:Int)+(i:Int))=WM S.ks:=by
    funext i
    show WM S.ks ((0:Int)+(i:Int)).toNat=_
    rw [iA,eD]
   rw [this]
   refine fq fun i _=>?_
   show V.int (0+(i:Int))=_
   rw [iA]
  rw [e1] at hl1
  have lst:(Js S.ks).length<=S.ks.length:=by
   unfold Js
   exact bi (ee _ _) (by rw [gX]; exact am _)
  refine ⟨Bl (by simp),fun D2 hD2=>?_⟩
  have old:=(I.h.mono s1).old hD2
  have s2:=Av (o:=HO.lst []) hD2
  have l2:upd H1 D2 (HO.lst []) D2=some (.lst (Pu [])):=Af
  generalize upd H1 D2 (HO.lst [])=H2 at s2 l2 ⊢
  refine ⟨_,rfl,c,69623,3,rfl,by decide,by decide,by decide,fun m m0 m1=>⟨_,_,rfl,rfl,_,rfl,by omega,by omega,?_⟩⟩
  obtain ⟨mn,emn⟩:=cq (by omega:0<=1+m)
  refine JM (lo:=0) (n:=(1+m).toNat) (fun i σ H4=>Am H1 H4/\∃ (ch:List Nat) (v4 v5:Option V),H4 D2=some (.lst (Pu ch))/\ch.Nodup/\(∀ x∈ch,x∈Js S.ks)/\ch.length<=i/\(0<i->ch ≠ [])/\σ=[some (.ref A.p),some (.int c),some (.ref D1),some (.ref D2),v4,v5]) ⟨s2,[],_,_,l2,ge,(fun _ z=>nomatch z),am _,(fun z=>absurd z (by omega)),rfl⟩ ?_ ?_
  ·rintro i σ H4 hi ⟨s4,ch,v4,v5,hd,nd,hin,hlc,hne,rfl⟩
   have hi4:i<4:=by omega
   have hl4:=s4 _ _ hl1
   have esz:((Pu (Js S.ks)).length:Nat)=(Js S.ks).length:=ag ..
   refine ⟨_,rfl,_,rfl,_,_,rfl,rfl,⟨by decide,by decide⟩,_,rfl,_,rfl,_,_,rfl,rfl,.inl ⟨by omega,by omega⟩,_,_,rfl,rfl,_,rfl,D1,_,rfl,ja (.inl hl4),_,48281,_,rfl,(by show (0:Int)<(((Pu (Js S.ks)).length:Nat):Int); omega),by decide,by decide,fun z z0 z1=>?_⟩
   obtain ⟨j,hj⟩:=cq z0
   subst hj
   obtain ⟨on,hon⟩:∃ x,(Js S.ks)[j]? = some x:=⟨_,ae (by omega)⟩
   have hon':(Pu (Js S.ks))[j]? = some (V.int (on:Nat)):=by rw [bo,hon]; rfl
   refine ⟨D1,_,_,_,rfl,rfl,ja hl4,Aj hon',?_⟩
   refine ⟨_,rfl,_,rfl,D2,_,rfl,ja (.inl hd),rfl,TF _,_,rfl,?_⟩
   rw [V4]
   by_cases hm:on∈ch
   ·rw [decide_eq_true hm]
    exact Cp ⟨s4,ch,_,_,hd,nd,hin,by omega,fun _ z=>(by rw [z] at hm; exact nomatch hm),rfl⟩
   ·rw [decide_eq_false hm]
    refine Dg ⟨_,rfl,.inl ⟨rfl,_,ja hd⟩,_,rfl,D2,_,_,rfl,rfl,hd,BP (by rw [ag]; omega),?_⟩
    refine ⟨Dz s4 hD2,ch++[on],_,_,?_,?_,fun x hx=>?_,by simp; omega,fun _=>by simp,rfl⟩
    ·rw [Af]
     unfold Pu
     rw [cS]
     rfl
    ·exact List.nodup_append.mpr ⟨nd,by simp,fun x hx y hy z=>hm (by rw [← List.mem_singleton.mp hy,← z]; exact hx)⟩
    ·rcases cb.mp hx with z | z
     ·exact hin x z
     ·rw [av.mp z]
      exact al hon
  ·rintro σ H4 ⟨s4,ch,v4,v5,hd,nd,hin,hlc,hne,rfl⟩
   have h4:=I.h.mono (s1.trans s4)
   obtain ⟨kvs4,g14,_,_,_,_,_,_,u6,_⟩:=h4.dp
   have gs:=CQ.k (k:=Sum.inr "steps") g14
   rw [u6] at gs
   have lcs:Cs.length=S.ch.length:=h4.c.length
   obtain ⟨i0,cc,rfl⟩:∃ i0 cc,ch=i0::cc:=by
    cases ch with
    | nil=>exact absurd rfl (hne (by omega))
    | cons a b=>exact ⟨a,b,rfl⟩
   have h5:=h4.Em (C:=D2) (l:=i0::cc) hd old.2
   have hd5:upd H4 A.s (HO.lst (Cs.map V.ref++[.ref D2])) D2=some (.lst (Pu (i0::cc))):=by
    rw [Aq fun z=>old.2 (by rw [z]; simp)]
    exact hd
   refine ⟨_,rfl,A.p,_,rfl,gs,.inl ⟨rfl,_,ja h4.s⟩,_,rfl,A.s,_,_,rfl,rfl,h4.s,BP (by rw [ag]; omega),?_⟩
   generalize upd H4 A.s (HO.lst (Cs.map V.ref++[.ref D2]))=H5 at h5 hd5 ⊢
   refine ⟨by show 1<=sizeLine; decide,fun p6 hp6=>?_⟩
   obtain ⟨H6,eqH,s6,l6⟩:=Bo (o:=HO.lst [V.str "step"]) hp6
   rw [eqH]
   have h6:=h5.mono s6
   have hS6:Dh K H6 D2 (Pu (i0::cc)):=.inl (.inl (s6 _ _ hd5))
   obtain ⟨kvs6,g16,_,_,_,_,u4,_⟩:=h6.dp
   obtain ⟨vn6,n16,n26⟩:=h6.n
   refine ⟨_,rfl,D2,rfl,⟨_,hS6⟩,DY (K:=K) (xs:=Pu (i0::cc)) (fun _=>true) (jB S.ks) hS6 (BP (by rw [ag]; omega)) (fun y hy H' hs R k=>k H' (Am.refl H')) (fun y hy _ H' hs R k=>?_) (fun D7 H7 hD7 s7 hl7=>?_)⟩
   ·obtain ⟨i,hi,rfl⟩:=aS.mp hy
    obtain ⟨kr,hkr,_⟩:=Np (hin i hi)
    obtain ⟨yn,hyn,Tn,rfl,hTn⟩:=B_ n26 hkr
    have g':=CQ.k (k:=Sum.inr "knobs") (hs _ _ g16)
    rw [u4] at g'
    refine ⟨_,rfl,A.p,_,rfl,g',_,rfl,A.n,_,_,_,rfl,rfl,ja (hs _ _ n16),Aj hyn,Tn,_,_,_,rfl,rfl,ja (hs _ _ hTn),Aj (j:=1) rfl,?_⟩
    have:=k H' (Am.refl H')
    unfold jB at this
    dsimp only at this
    rw [eD,Pb hkr] at this
    exact this
   rw [ax.mpr (fun _ _=>rfl)] at hl7
   have e7:(Pu (i0::cc)).map (jB S.ks)=V.str (Ji S.ks i0)::(cc.map (Ji S.ks)).map V.str:=by
    unfold Pu
    rw [bX,cK,bX]
    rfl
   rw [e7] at hl7
   refine ⟨p6,D7,_,_,rfl,rfl,s7 _ _ l6,hl7,by (show 1+((cc.map (Ji S.ks)).map V.str).length+1<=sizeLine); rw [List.length_map,List.length_map]; simp only [List.length_cons] at hlc; exact Bl (by omega),fun p8 hp8=>?_⟩
   have s8:=Av (o:=HO.lst ([V.str "step"]++(V.str (Ji S.ks i0)::(cc.map (Ji S.ks)).map V.str))) hp8
   refine ⟨p8,_,rfl,.inl ⟨.inl (.inl Af),fun T9 hT9=>?_⟩⟩
   have s9:=Av (o:=HO.tup ([V.str "step"]++(V.str (Ji S.ks i0)::(cc.map (Ji S.ks)).map V.str))) hT9
   exact q ⟨"step",Ji S.ks i0,(cc.map (Ji S.ks)).map V.str⟩ _ _ _ _ _ (h6.mono (s7.trans (s8.trans s9))) rfl ⟨T9,rfl,Af⟩ (I.k.step I.F.mT I.b nd (by omega) (fun i hi=>Np (hin i hi)) h12) hb1
theorem Q4 {c:TT} {t u:TS} {D:Ends} {σ:St} {H:Hp} (C:Bool->Hp->Prop) (hc:∀ Q:Bool->Hp->Prop,(∀ H1,C true H1->Q true H1)->(∀ H1,C false H1->Q false H1)->c σ H Q) (ht:∀ H1,C true H1->t { D with nx:=u D } σ H1) (hu:∀ H1,C false H1->u D σ H1):Vg (Uk c t Ud) u D σ H :=
 hc _ (fun H1 h=>by rw [if_pos rfl]; exact ht H1 h) (fun H1 h=>by rw [if_neg cr]; exact hu H1 h)
noncomputable def cj (K:PySem.W.Frag) (aB aP aM:Addr):Sp:=fun vs H Q _=>∃ (H0:Hp) (A:Kq) (S:Pl) (Cs:List Addr) (lo:V) (bb:Str) (c:Int),vs=[.ref A.p,.str (Eb bb S.rows.length),.int c]/\M_ K aB aP aM H0 H A S Cs lo bb/\J3 K aB aP aM bb H0 A S Q/\∀ H',Am H H'->1<=S.bs.length->Q .non H'
theorem YX:BX ["_law_plan_here","_law_name_here","_law_cell","_law_way","_law_at"] ["_law_plan_here","_law_name_here","_law_cell"] (Ai jG):=Cj
include N T in
theorem dG:BW P w K mg base Br 3 aD.fLr aD.dLr ["_law_plan_here","_law_name_here","_law_cell"] (cj K aB aP aM):=by
 refine N.FLr.1.ok YX (fun vs H Q E h=>?_) (fun cdv A outer s H vs Q E hr h=>?_)
 ·obtain ⟨H0,A,S,Cs,lo,bb,c,rfl,_⟩:=h
  rfl
 ·obtain ⟨H0,A,S,Cs,lo,bb,c,rfl,I,q,qn⟩:=h
  have hu:=FJ hr
  refine ⟨_,(Ae (Bj (i:=3) YX.nd rfl (Or.inl rfl) (Ah (Jp N T) (ad hr) rfl N.FMi.2.2 N.FMi.1.kp N.FMi.2.1 .nil BJ (Aa (pv 2) (Aa Ac (Aa Ac Ab)))))
   (Ae (Bf (A_ (Lp (iL hu)) (Ba hu (pv 0) Al (fun _ _=>rfl)) (Bh Ab) (BV _)) (Ag (Ax (Ah (ZQ N T) (ad hr) rfl N.FLb.2.2 N.FLb.1.kp N.FLb.2.1 .nil BJ (Aa (pv 0) (Aa (pv 1) (Aa (pv 2) Ab)))))) BR)
   (Ae (Bf (PW.pt (GF (A_ (Lp (iL hu)) (Ba hu (pv 0) Al (fun _ _=>rfl)) (Bh Ab) (BV _)) (Fi (PW.pt (Eg (A_ Bw (pv 3) Ac (BV _)) (Ea (A_ FP (Ak Az rfl T.len ar (Aa (Ba hu (pv 0) Al (fun _ _=>rfl)) Ab)) Ac (BV _)))))))) (Ag (Ax (Ah (aH N T) (ad hr) rfl N.FLk.2.2 N.FLk.1.kp N.FLk.2.1 .nil BJ (Aa (pv 0) (Aa (pv 1) (Aa (pv 2) Ab)))))) BR)
   (Ae (Bf (PW.pt (Eg (A_ Bw (pv 3) Ac (BV _)) (Ea (A_ FP (Ak Az rfl T.len ar (Aa (Ba hu (pv 0) Al (fun _ _=>rfl)) Ab)) Ac (BV _))))) (Ag (Ax (Ah (ZQ N T) (ad hr) rfl N.FLb.2.2 N.FLb.1.kp N.FLb.2.1 .nil BJ (Aa (pv 0) (Aa (pv 1) (Aa (pv 2) Ab)))))) BR)
   (Ae (Bf (PW.pt (Eg (A_ FP (pv 3) Ac (BV _)) (Eg (A_ QL (Ba hu (pv 0) Al (fun _ _=>rfl)) DX (BV _)) (Ea (A_ FP (Ak Az rfl T.len ar (Aa (Ba hu (pv 0) Al (fun _ _=>rfl)) Ab)) Ac (BV _)))))) (Ag (Ax (Ah (cM N T) (ad hr) rfl N.FLl.2.2 N.FLl.1.kp N.FLl.2.1 .nil BJ (Aa (pv 0) (Aa (pv 2) Ab))))) BR)
   (Ae (Bf (PW.pt (Eg (A_ FP (pv 3) Ac (BV _)) (Ea (A_ FP (Ah (Z2 N T) (ad hr) rfl N.FMa.2.2 N.FMa.1.kp N.FMa.2.1 .nil BJ (Aa (pv 0) (Aa Al Ab))) Ac (BV _))))) (Ag (Ax (Ah (Z3 N T) (ad hr) rfl N.FLs.2.2 N.FLs.1.kp N.FLs.2.1 .nil BJ (Aa (pv 0) (Aa (pv 1) (Aa (pv 2) Ab)))))) BR)
   (Ae (Bf (PW.pt (Eg (A_ Bw (pv 3) Ac (BV _)) (Ea (A_ FP (Ah (Z2 N T) (ad hr) rfl N.FMa.2.2 N.FMa.1.kp N.FMa.2.1 .nil BJ (Aa (pv 0) (Aa Al Ab))) Ac (BV _))))) (Ae (Bj (i:=4) YX.nd rfl (Or.inl rfl) (Ah (Jp N T) (ad hr) rfl N.FMi.2.2 N.FMi.1.kp N.FMi.2.1 .nil BJ (Aa (pv 2) (Aa Ac (Aa (Ak Az rfl T.len ar (Aa (Ba hu (pv 0) Al (fun _ _=>rfl)) Ab)) Ab)))))
   (Ae (Cz (Fe aT ba be CK (Ba hu (pv 0) Al (fun _ _=>rfl)) (Aa (Bv (Aa Al (Aa (pv 1) Ab))) Ab)))
   (Ae (Cz (Fe aT ba be CK (Ba hu (pv 0) Al (fun _ _=>rfl)) (Aa (pv 4) Ab)))
   (Ag (Ax (Bv (Aa Al (Aa (pv 1) (Aa (BK (Ay (K:=K) rfl) (BK Bt (Ba hu (pv 0) Al (fun _ _=>rfl)) (pv 4) (fun _ _=>rfl)) Ac (fun _ _=>rfl)) Ab))))))))) BR)
   (Ae (Bf (PW.pt (Eg (A_ Bw (pv 3) Ac (BV _)) (Eg (A_ Ug (Ah (Z2 N T) (ad hr) rfl N.FMa.2.2 N.FMa.1.kp N.FMa.2.1 .nil BJ (Aa (pv 0) (Aa Al Ab))) Ac (BV _)) (Ea (A_ FP (Ak Az rfl T.len ar (Aa (Ba hu (pv 0) Al (fun _ _=>rfl)) Ab)) Ac (BV _)))))) (Ag (Ax (Ah (bj N T) (ad hr) rfl N.FLt.2.2 N.FLt.1.kp N.FLt.2.1 .nil BJ (Aa (pv 0) (Aa (pv 2) Ab))))) BR)
   (Ae (Bf (A_ FP (Ah (Z2 N T) (ad hr) rfl N.FMa.2.2 N.FMa.1.kp N.FMa.2.1 .nil BJ (Aa (pv 0) (Aa Al Ab))) Ac (BV _)) (Ag (Ax (Ah (Z8 N T) (ad hr) rfl N.FLc.2.2 N.FLc.1.kp N.FLc.2.1 .nil BJ (Aa (pv 0) (Aa (pv 1) (Aa (pv 2) Ab)))))) BR)
   (Ag (Ax DX))))))))))),?_⟩
  have lr:=I.l
  have lk:=I.k.lk
  have up:∀ {H1:Hp},Am H H1->M_ K aB aP aM H0 H1 A S Cs lo bb:=fun s1=>⟨I.h.mono s1,I.k,I.b,I.l,I.F⟩
  refine ⟨_,rfl,c,48271,12,rfl,by decide,by decide,by decide,fun way w0 w1=>?_⟩
  dsimp only [Df]
  refine Q4 (fun b H1=>Am H H1/\(b=true->S.bs.length<5)/\(b=false->1<=S.bs.length)) (fun Q' qt qf=>?_) (fun H1 hC=>?_) (fun H1 hC=>?_)
  ·obtain ⟨kvs,g1,g2,y1,y2,y3,y4,y5,y6,y7⟩:=I.h.dp
   obtain ⟨vb,b1,b2⟩:=I.h.b
   have lb:S.bs.length=vb.length:=b2.length
   have gb:=CQ.k (k:=Sum.inr "boards") g1
   rw [y2] at gb
   refine ⟨_,rfl,A.p,_,rfl,gb,Bl (by simp),fun E1 hE1=>?_⟩
   have s1:=Av (o:=HO.lst []) hE1
   have l1:upd H E1 (HO.lst []) E1=some (.lst []):=Af
   refine ⟨A.b,E1,_,rfl,rfl,ja (s1 _ _ b1),ja l1,_,rfl,?_⟩
   cases vb with
   | nil=>exact qt _ ⟨s1,fun _=>by rw [lb]; decide,fun z=>nomatch z⟩
   | cons a b'=>exact qf _ ⟨s1,(fun z=>nomatch z),fun _=>by rw [lb]; simp⟩
  ·exact ⟨_,rfl,_,rfl,_,rfl,H0,A,S,Cs,lo,bb,c,rfl,up hC.1,hC.2.1 rfl,q⟩
  have s1:=hC.1
  have hb1:=hC.2.2 rfl
  clear hC
  refine Q4 (fun b H2=>Am H H2/\(b=true->S.rk.length<12)/\(b=false->1<=S.rk.length)) (fun Q' qt qf=>?_) (fun H2 hC=>?_) (fun H2 hC=>?_)
  ·obtain ⟨kvs,g1,g2,y1,y2,y3,y4,y5,y6,y7⟩:=(I.h.mono s1).dp
   obtain ⟨vb,b1,b2⟩:=(I.h.mono s1).k
   have lb:S.rk.length=vb.length:=b2.length
   have gb:=CQ.k (k:=Sum.inr "ranks") g1
   rw [y3] at gb
   refine ⟨_,rfl,A.p,_,rfl,gb,Bl (by simp),fun E1 hE1=>?_⟩
   have s2:=Av (o:=HO.lst []) hE1
   have l1:upd H1 E1 (HO.lst []) E1=some (.lst []):=Af
   refine ⟨A.k,E1,_,rfl,rfl,ja (s2 _ _ b1),ja l1,_,rfl,?_⟩
   have gb2:=CQ.k (k:=Sum.inr "ranks") (s2 _ _ g1)
   rw [y3] at gb2
   cases vb with
   | nil=>exact qt _ ⟨s1.trans s2,fun _=>by rw [lb]; decide,fun z=>nomatch z⟩
   | cons a b' =>
    have h1r:1<=S.rk.length:=by rw [lb]; simp
    refine ⟨_,rfl,rfl,_,rfl,Bd (fun _=>?_) (fun _=>qf _ ⟨s1.trans s2,(fun z=>nomatch z),fun _=>h1r⟩)⟩
    refine ⟨_,rfl,A.p,_,rfl,gb2,A.k,_,rfl,ja (.inl (s2 _ _ b1)),_,_,rfl,rfl,_,rfl,?_⟩
    by_cases hh:S.rk.length<12
    ·rw [decide_eq_true (by rw [← lb]; omega:((((a::b').length:Nat):Int))<12)]
     exact qt _ ⟨s1.trans s2,fun _=>hh,fun z=>nomatch z⟩
    ·rw [decide_eq_false (by rw [← lb]; omega:¬ ((((a::b').length:Nat):Int))<12)]
     exact qf _ ⟨s1.trans s2,(fun z=>nomatch z),fun _=>h1r⟩
  ·exact ⟨_,rfl,_,rfl,_,rfl,H0,A,S,Cs,lo,bb,c,rfl,up hC.1,hC.2.1 rfl,hb1,q⟩
  have s2:=hC.1
  have hr1:=hC.2.2 rfl
  clear hC s1
  refine Q4 (fun b H3=>Am H H3/\(b=true->S.bs.length<5)) (fun Q' qt qf=>?_) (fun H3 hC=>?_) (fun H3 hC=>?_)
  ·obtain ⟨kvs,g1,g2,y1,y2,y3,y4,y5,y6,y7⟩:=(I.h.mono s2).dp
   obtain ⟨vb,b1,b2⟩:=(I.h.mono s2).b
   have lb:S.bs.length=vb.length:=b2.length
   have gb:=CQ.k (k:=Sum.inr "boards") g1
   rw [y2] at gb
   refine ⟨_,rfl,rfl,_,rfl,Bd (fun _=>?_) (fun _=>qf _ ⟨s2,fun z=>nomatch z⟩)⟩
   refine ⟨_,rfl,A.p,_,rfl,gb,A.b,_,rfl,ja (.inl b1),_,_,rfl,rfl,_,rfl,?_⟩
   by_cases hh:S.bs.length<5
   ·rw [decide_eq_true (by rw [← lb]; omega:((vb.length:Nat):Int)<5)]
    exact qt _ ⟨s2,fun _=>hh⟩
   ·rw [decide_eq_false (by rw [← lb]; omega:¬ ((vb.length:Nat):Int)<5)]
    exact qf _ ⟨s2,fun z=>nomatch z⟩
  ·exact ⟨_,rfl,_,rfl,_,rfl,H0,A,S,Cs,lo,bb,c,rfl,up hC.1,hC.2 rfl,q⟩
  have s3:=hC.1
  clear hC s2
  refine Q4 (fun b H4=>Am H H4/\(b=true->∃ ds0 b L x ls0 l0,S.ds=ds0++[Dt.stop b L]/\S.ls=ls0++[l0]/\lo=V.ref L/\S.bs[b]? = some x/\Tl S.rows x.1 l0.length/\l0.length<4)) (fun Q' qt qf=>?_) (fun H4 hC=>?_) (fun H4 hC=>?_)
  ·obtain ⟨kvs,g1,g2,y1,y2,y3,y4,y5,y6,y7⟩:=(I.h.mono s3).dp
   have gb:=CQ.k (k:=Sum.inr "lines") g1
   rw [y7] at gb
   refine ⟨_,rfl,_,_,rfl,rfl,_,rfl,Bd (fun _=>?_) (fun _=>qf _ ⟨s3,fun z=>nomatch z⟩)⟩
   refine ⟨_,rfl,A.p,_,rfl,gb,?_⟩
   refine ⟨rfl,_,rfl,?_⟩
   rcases I.k.op with rfl | ⟨ds0,b,L,x,ls0,l0,e1,e2,rfl,hx,hT⟩
   ·exact Cp (qf _ ⟨s3,fun z=>nomatch z⟩)
   obtain ⟨vd,d1,d2,d3⟩:=(I.h.mono s3).d
   have ld:ds0.length=ls0.length:=by
    have:=d2
    rw [e1,e2] at this
    simpa using this
   rw [e1,e2,gy ld] at d3
   obtain ⟨vd0,ud,rfl,_,hud⟩:=Gh d3
   obtain ⟨_,ts,hL,hts⟩:=hud
   have lts:l0.length=ts.length:=hts.length
   refine Dg ⟨_,rfl,A.p,_,rfl,gb,L,_,rfl,ja (.inl hL),_,_,rfl,rfl,_,rfl,?_⟩
   by_cases hh:l0.length<4
   ·rw [decide_eq_true (by omega:((ts.length:Nat):Int)<4)]
    exact qt _ ⟨s3,fun _=>⟨ds0,b,L,x,ls0,l0,e1,e2,rfl,hx,hT,hh⟩⟩
   ·rw [decide_eq_false (by omega:¬ ((ts.length:Nat):Int)<4)]
    exact qf _ ⟨s3,fun z=>nomatch z⟩
  ·obtain ⟨s4,hC⟩:=hC
   obtain ⟨ds0,b,L,x,ls0,l0,e1,e2,rfl,hx,hT,hh⟩:=hC rfl
   exact ⟨_,rfl,_,rfl,H0,A,S,Cs,bb,c,ds0,b,L,x,ls0,l0,rfl,up s4,e1,e2,hx,hT,hh,hr1,q⟩
  have s4:=hC.1
  clear hC s3
  refine Q4 (fun b H5=>Am H H5/\(b=true->(S.ks.filter fun r=>decide (V.str r.w=V.str "stop")).length<24)) (fun Q' qt qf=>?_) (fun H5 hC=>?_) (fun H5 hC=>?_)
  ·refine ⟨_,rfl,_,_,rfl,rfl,_,rfl,Bd (fun _=>?_) (fun _=>qf _ ⟨s4,fun z=>nomatch z⟩)⟩
   refine ⟨_,rfl,H0,A,S,Cs,lo,"stop",rfl,I.h.mono s4,by omega,fun H9 s9=>⟨_,_,rfl,rfl,_,rfl,?_⟩⟩
   by_cases hh:(S.ks.filter fun r=>decide (V.str r.w=V.str "stop")).length<24
   ·rw [decide_eq_true (by omega:(((S.ks.filter fun r=>decide (V.str r.w=V.str "stop")).length:Nat):Int)<24)]
    exact qt _ ⟨s4.trans s9,fun _=>hh⟩
   ·rw [decide_eq_false (by omega:¬ (((S.ks.filter fun r=>decide (V.str r.w=V.str "stop")).length:Nat):Int)<24)]
    exact qf _ ⟨s4.trans s9,fun z=>nomatch z⟩
  ·exact ⟨_,rfl,_,rfl,_,rfl,H0,A,S,Cs,lo,bb,c,rfl,up hC.1,hb1,hC.2 rfl,q⟩
  have s5:=hC.1
  clear hC s4
  refine Q4 (fun b H6=>Am H H6/\(b=true->(S.ks.filter fun r=>decide (V.str r.w=V.str "mute")).length<5)) (fun Q' qt qf=>?_) (fun H6 hC=>?_) (fun H6 hC=>?_)
  ·refine ⟨_,rfl,rfl,_,rfl,Bd (fun _=>?_) (fun _=>qf _ ⟨s5,fun z=>nomatch z⟩)⟩
   refine ⟨_,rfl,H0,A,S,Cs,lo,"mute",rfl,I.h.mono s5,by omega,fun H9 s9=>⟨_,_,rfl,rfl,_,rfl,?_⟩⟩
   by_cases hh:(S.ks.filter fun r=>decide (V.str r.w=V.str "mute")).length<5
   ·rw [decide_eq_true (by omega:(((S.ks.filter fun r=>decide (V.str r.w=V.str "mute")).length:Nat):Int)<5)]
    exact qt _ ⟨s5.trans s9,fun _=>hh⟩
   ·rw [decide_eq_false (by omega:¬ (((S.ks.filter fun r=>decide (V.str r.w=V.str "mute")).length:Nat):Int)<5)]
    exact qf _ ⟨s5.trans s9,fun z=>nomatch z⟩
  ·obtain ⟨s6,hm5⟩:=hC
   have hm5:=hm5 rfl
   have hx:=I.h.mono s6
   obtain ⟨kvs,g1,g2,y1,y2,y3,y4,y5,y6,y7⟩:=hx.dp
   obtain ⟨vb,b1,b2⟩:=hx.b
   obtain ⟨vn,n1,n2⟩:=hx.n
   have lb:S.bs.length=vb.length:=b2.length
   have ln:S.ks.length=vn.length:=n2.length
   have gb:=CQ.k (k:=Sum.inr "boards") g1
   rw [y2] at gb
   have g:=CQ.k (k:=Sum.inr "knobs") g1
   rw [y4] at g
   refine ⟨_,rfl,_,rfl,A.p,_,rfl,gb,A.b,_,rfl,ja (.inl b1),c,50021,_,rfl,(by show (0:Int)<((vb.length:Nat):Int); omega),by decide,by decide,fun u u0 u1=>?_⟩
   obtain ⟨b,hb⟩:=cq u0
   subst hb
   obtain ⟨x1,hxb⟩:∃ x,S.bs[b]? = some x:=⟨_,ae (by omega)⟩
   have nx1:=I.k.gq I.b hxb
   refine ⟨_,rfl,A.p,_,rfl,g,.inl ⟨rfl,_,ja n1⟩,_,rfl,by show 2<=sizeLine; decide,fun T3 hT3=>?_⟩
   have s3:=Av (o:=HO.tup [V.str "mute",.str (Eb bb S.rows.length)]) hT3
   have t3:TupAt (upd H6 T3 (HO.tup [V.str "mute",.str (Eb bb S.rows.length)])) (Y8 ⟨"mute",Eb bb S.rows.length,[.str x1.1]⟩) (.ref T3):=⟨T3,rfl,Af⟩
   generalize upd H6 T3 (HO.tup [V.str "mute",.str (Eb bb S.rows.length)])=H7 at s3 t3 ⊢
   have h3:=(hx.mono s3).Vx (s3 _ _ n1) t3
   refine ⟨A.n,vn,_,rfl,rfl,s3 _ _ n1,BP (by omega),?_⟩
   generalize upd H7 A.n _=H8 at h3 ⊢
   obtain ⟨kvs4,g14,_,_,w2,_,_,w5,_,w7⟩:=h3.dp
   obtain ⟨vd,d1,d2,d3⟩:=h3.d
   have gd:=CQ.k (k:=Sum.inr "details") g14
   rw [w5] at gd
   have h5:=h3.VM d1 (x:=.mute b) (v:=.int (b:Nat)) rfl (fun L' hL'=>nomatch hL')
   have ld3:vd.length<=100:=by
    have ld:=d3.length
    rw [gz] at ld
    have:S.ds.length=S.ks.length:=I.k.pd.length.symm
    have:vd.length<=S.ds.length:=by
     rw [← ld]
     exact iq _ _
    omega
   refine ⟨_,rfl,A.p,_,rfl,gd,.inl ⟨rfl,_,ja d1⟩,_,rfl,A.d,vd,_,rfl,rfl,d1,BP (by omega),?_⟩
   generalize upd H8 A.d _=H9 at h5 ⊢
   obtain ⟨kvs6,g16,_,_,u2,_⟩:=h5.dp
   obtain ⟨vb6,b16,b26⟩:=h5.b
   have gb:=CQ.k (k:=Sum.inr "boards") g16
   rw [u2] at gb
   obtain ⟨yb,hyb,Tb,rfl,hTb⟩:=B_ b26 hxb
   refine ⟨_,rfl,_,rfl,A.p,_,rfl,gb,_,rfl,A.b,_,_,_,rfl,rfl,ja b16,Aj hyb,Tb,_,_,_,rfl,rfl,ja hTb,Aj (j:=0) rfl,by show 3<=sizeLine; decide,fun T6 hT6=>?_⟩
   exact q ⟨"mute",Eb bb S.rows.length,[.str x1.1]⟩ _ _ _ _ _ (h5.mono (Av hT6)) rfl ⟨T6,rfl,Af⟩ (I.k.WY (by omega) rfl ⟨rfl,x1,hxb,rfl⟩ (I.k.bl.plain I.F.f (.inr rfl) (Fj I.b _) (I.k.fb (by omega)) (I.k.fr (by omega)) (I.k.fk (by omega)) (by show _<5; exact hm5) (n:=x1.2) nx1 (List.mem_of_getElem? hxb)) (.inl rfl)) hb1
  have s6:=hC.1
  clear hC s5
  refine Q4 (fun b H7=>Am H H7/\(b=true->0<(S.ks.filter fun r=>decide (V.str r.w=V.str "stop")).length/\S.ch.length<12)) (fun Q' qt qf=>?_) (fun H7 hC=>?_) (fun H7 hC=>?_)
  ·refine ⟨_,rfl,rfl,_,rfl,Bd (fun _=>?_) (fun _=>qf _ ⟨s6,fun z=>nomatch z⟩)⟩
   refine ⟨_,rfl,H0,A,S,Cs,lo,"stop",rfl,I.h.mono s6,by omega,fun H9 s9=>⟨_,_,rfl,rfl,_,rfl,Bd (fun h0=>?_) (fun _=>qf _ ⟨s6.trans s9,fun z=>nomatch z⟩)⟩⟩
   have h0':=of_decide_eq_true h0
   have hx:=I.h.mono (s6.trans s9)
   obtain ⟨kvs,g1,g2,y1,y2,y3,y4,y5,y6,y7⟩:=hx.dp
   have g:=CQ.k (k:=Sum.inr "steps") g1
   rw [y6] at g
   have lc:Cs.length=S.ch.length:=hx.c.length
   refine ⟨_,rfl,A.p,_,rfl,g,A.s,_,rfl,ja (.inl hx.s),_,_,rfl,rfl,_,rfl,?_⟩
   by_cases hh:S.ch.length<12
   ·rw [decide_eq_true (by rw [ag]; omega:(((Cs.map V.ref).length:Nat):Int)<12)]
    exact qt _ ⟨s6.trans s9,fun _=>⟨by omega,hh⟩⟩
   ·rw [decide_eq_false (by rw [ag]; omega:¬ (((Cs.map V.ref).length:Nat):Int)<12)]
    exact qf _ ⟨s6.trans s9,fun z=>nomatch z⟩
  ·exact ⟨_,rfl,_,rfl,H0,A,S,Cs,lo,bb,c,rfl,up hC.1,(hC.2 rfl).1,(hC.2 rfl).2,hb1,q⟩
  have s7:=hC.1
  clear hC s6
  refine Q4 (fun b H8=>Am H H8/\(b=true->(S.ks.filter fun r=>decide (V.str r.w=V.str "coupler")).length<12)) (fun Q' qt qf=>?_) (fun H8 hC=>?_) (fun H8 hC=>?_)
  ·refine ⟨_,rfl,H0,A,S,Cs,lo,"coupler",rfl,I.h.mono s7,by omega,fun H9 s9=>⟨_,_,rfl,rfl,_,rfl,?_⟩⟩
   by_cases hh:(S.ks.filter fun r=>decide (V.str r.w=V.str "coupler")).length<12
   ·rw [decide_eq_true (by omega:(((S.ks.filter fun r=>decide (V.str r.w=V.str "coupler")).length:Nat):Int)<12)]
    exact qt _ ⟨s7.trans s9,fun _=>hh⟩
   ·rw [decide_eq_false (by omega:¬ (((S.ks.filter fun r=>decide (V.str r.w=V.str "coupler")).length:Nat):Int)<12)]
    exact qf _ ⟨s7.trans s9,fun z=>nomatch z⟩
  ·exact ⟨_,rfl,_,rfl,_,rfl,H0,A,S,Cs,lo,bb,c,rfl,up hC.1,hb1,hC.2 rfl,q⟩
  exact qn _ hC.1 hb1
noncomputable def Zq (rows:List R):Prop:=∀ r,rows[0]? = some r->r.w=("board" : Str)
theorem Qz {K:PySem.W.Frag} {aB aP aM:Addr} {rows:List R} {bs:List (Str × Nat)} {rk:List (Str × Nat × Int)} {ks:List R} {ls:List (List Ln)} {sts:List Nat} {r:R} (h:Zq rows) (bl:Gk K aB aP aM (rows++[r]) bs rk ks ls sts) (hb:1<=bs.length):Zq (rows++[r]):=by
 cases rows with
 | nil =>
  intro r2 e
  cases e
  refine Classical.byContradiction fun hw=>?_
  have ok:=bl.ok (fun _=>r) [V.non] rfl
  have eb:=ok.eb
  rw [dS,if_neg (by intro z; exact hw (V.str.inj (of_decide_eq_true z)))] at eb
  have:bs.length=0:=by have:=congrArg List.length eb; simpa using this.symm
  omega
 | cons a l=>exact h
structure Lk (K:PySem.W.Frag) (aB aP aM:Addr) (H0 H:Hp) (A:Kq) (S:Pl) (Cs:List Addr):Prop where
 h:∃ lo,Bk H0 H A S Cs lo
 k:∃ bb lo,Gp bb/\Ef K aB aP aM bb S lo
 b1:1<=S.bs.length
 l:S.rows.length<=61
 f0:Zq S.rows
noncomputable def ZD (K:PySem.W.Frag) (aB aP aM:Addr):Sp:=fun vs H Q _=>∃ (a:Addr) (st:Nat) (ns:List Int),vs=[.ref a,.int (st:Nat)]/\Dh K H a (ns.map V.int)/\ns.length<=1000000/\gB K aB aP aM/\∀ (A:Kq) (S:Pl) (Cs:List Addr) H',Lk K aB aP aM H H' A S Cs->Q (.ref A.p) H'
theorem T8:BX ["_law_script","_law_start","_law_plan_here","_law_base_here","_law_cell","_law_row_here"] ["_law_script","_law_start"] (Ai jq):=Cj
include N T in
theorem dq:BW P w K mg base Br 4 aD.fLp aD.dLp ["_law_script","_law_start"] (ZD K aB aP aM):=by
 refine N.FLp.1.ok T8 (fun vs H Q E h=>?_) (fun cdv A outer s H vs Q E hr h=>?_)
 ·obtain ⟨a,st,ns,rfl,_⟩:=h
  rfl
 ·obtain ⟨a,st,ns,rfl,hS,hz,F,q⟩:=h
  have hu:=FJ hr
  refine ⟨_,(@Ae _ _ _ _ _ (@CJ _ _ _ _ _ _ 2 T8.nd rfl (Or.inl rfl) (@Ql _ _ _ _ _ (@Ex _ _ _ _ _ _ _ _ _ Al (@Bh _ _ _ _ Ab) (@Ex _ _ _ _ _ _ _ _ _ Al (@Bh _ _ _ _ Ab) (@Ex _ _ _ _ _ _ _ _ _ Al (@Bh _ _ _ _ Ab) (@Ex _ _ _ _ _ _ _ _ _ Al (@Bh _ _ _ _ Ab) (@Ex _ _ _ _ _ _ _ _ _ Al (@Bh _ _ _ _ Ab) (@Ex _ _ _ _ _ _ _ _ _ Al (@Bh _ _ _ _ Ab) (@Ex _ _ _ _ _ _ _ _ _ Al DX QR))))))) rfl rfl (List.cons_ne_nil _ _) (by decide)) rfl (Or.inl rfl))
   (Ae (Bj (i:=3) T8.nd rfl (Or.inl rfl) (Ah (aQ N T) (ad hr) rfl N.FBb.2.2 N.FBb.1.kp N.FBb.2.1 .nil BJ (Aa (Ah (aW N T) (ad hr) rfl N.FCe.2.2 N.FCe.1.kp N.FCe.2.1 .nil BJ (Aa (pv 0) (Aa Ac Ab))) Ab)))
   (Ae (Ez PassesOwn.never rfl (CN (Aw Eu (Cr HR (pv 0) (DG (pv 1)) (DG (Aw CT (pv 1) Ac))) (Bh (Aa (Ah (aW N T) (ad hr) rfl N.FCe.2.2 N.FCe.1.kp N.FCe.2.1 .nil BJ (Aa (pv 0) (Aa Ac Ab))) Ab)))) (Cu (i:=4) T8.nd rfl (Or.inl rfl)) (Ae (Bj (i:=5) T8.nd rfl (Or.inl rfl) (Ah (dG N T) (ad hr) rfl N.FLr.2.2 N.FLr.1.kp N.FLr.2.1 .nil BJ (Aa (pv 2) (Aa (Ah (bU N T) (ad hr) rfl N.FNn.2.2 N.FNn.1.kp N.FNn.2.1 .nil BJ (Aa (pv 3) (Aa (Ak Az rfl T.len ar (Aa (Ba hu (pv 2) Al (fun _ _=>rfl)) Ab)) Ab))) (Aa (pv 4) Ab)))))
   (Ag (Bf (A_ QL (pv 5) DX (BV _)) (Ae (Cz (Fe aT ba be CK (Ba hu (pv 2) Al (fun _ _=>rfl)) (Aa (pv 5) Ab)))
   (Ag (Bf (A_ Fb (BK (Ay (K:=K) rfl) (pv 5) Ac (fun _ _=>rfl)) (Bv (Aa Al (Aa Al Ab))) rfl) (Ag (Mm hu (pv 2) Al DX rfl)) BR))) BR))))
   (Ag (Ax (pv 2)))))),?_⟩
  intro p hp
  obtain ⟨H1,eqH,s0,e0⟩:=Bo (o:=HO.dK []) hp
  rw [eqH]
  refine ⟨Bl (by simp),fun a1 h1=>?_⟩
  obtain ⟨H2,eqH,s1,e1⟩:=Bo (o:=HO.lst []) h1
  rw [eqH]
  refine ⟨Bl (by simp),fun a2 h2=>?_⟩
  obtain ⟨H3,eqH,s2,e2⟩:=Bo (o:=HO.lst []) h2
  rw [eqH]
  refine ⟨Bl (by simp),fun a3 h3=>?_⟩
  obtain ⟨H4,eqH,s3,e3⟩:=Bo (o:=HO.lst []) h3
  rw [eqH]
  refine ⟨Bl (by simp),fun a4 h4=>?_⟩
  obtain ⟨H5,eqH,s4,e4⟩:=Bo (o:=HO.lst []) h4
  rw [eqH]
  refine ⟨Bl (by simp),fun a5 h5=>?_⟩
  obtain ⟨H6,eqH,s5,e5⟩:=Bo (o:=HO.lst []) h5
  rw [eqH]
  refine ⟨Bl (by simp),fun a6 h6=>?_⟩
  obtain ⟨H7,eqH,s6,e6⟩:=Bo (o:=HO.lst []) h6
  rw [eqH]
  have n12:a1 ≠ a2:=Ao e1 h2
  have n13:a1 ≠ a3:=Ao (s2 _ _ e1) h3
  have n14:a1 ≠ a4:=Ao (s3 _ _ (s2 _ _ e1)) h4
  have n15:a1 ≠ a5:=Ao (s4 _ _ (s3 _ _ (s2 _ _ e1))) h5
  have n16:a1 ≠ a6:=Ao (s5 _ _ (s4 _ _ (s3 _ _ (s2 _ _ e1)))) h6
  have n23:a2 ≠ a3:=Ao e2 h3
  have n24:a2 ≠ a4:=Ao (s3 _ _ e2) h4
  have n25:a2 ≠ a5:=Ao (s4 _ _ (s3 _ _ e2)) h5
  have n26:a2 ≠ a6:=Ao (s5 _ _ (s4 _ _ (s3 _ _ e2))) h6
  have n34:a3 ≠ a4:=Ao e3 h4
  have n35:a3 ≠ a5:=Ao (s4 _ _ e3) h5
  have n36:a3 ≠ a6:=Ao (s5 _ _ (s4 _ _ e3)) h6
  have n45:a4 ≠ a5:=Ao e4 h5
  have n46:a4 ≠ a6:=Ao (s5 _ _ e4) h6
  have n56:a5 ≠ a6:=Ao e5 h6
  have s07:Am H H7:=s0.trans (s1.trans (s2.trans (s3.trans (s4.trans (s5.trans s6)))))
  have hN:=Bk.new s07 hp (s0.free h1) (s0.free (s1.free h2)) (s0.free (s1.free (s2.free h3))) (s0.free (s1.free (s2.free (s3.free h4)))) (s0.free (s1.free (s2.free (s3.free (s4.free h5))))) (s0.free (s1.free (s2.free (s3.free (s4.free (s5.free h6)))))) (s6 _ _ (s5 _ _ (s4 _ _ (s3 _ _ (s2 _ _ (s1 _ _ (e0))))))) (s6 _ _ (s5 _ _ (s4 _ _ (s3 _ _ (s2 _ _ (e1)))))) (s6 _ _ (s5 _ _ (s4 _ _ (s3 _ _ (e2))))) (s6 _ _ (s5 _ _ (s4 _ _ (e3)))) (s6 _ _ (s5 _ _ (e4))) (s6 _ _ (e5)) e6 (by simp [n12,n13,n14,n15,n16,n23,n24,n25,n26,n34,n35,n36,n45,n46,n56])
  refine ⟨s6 _ _ (s5 _ _ (s4 _ _ (s3 _ _ (s2 _ _ (s1 _ _ (e0)))))),JS a1 a2 a3 a4 a5 a6,rfl,(by show 7<=15; decide),?_⟩
  generalize upd H7 p _=H8 at hN ⊢
  have hS8:=hN.sm.seq hS
  refine ⟨_,rfl,a,0,ns,rfl,hS8,fun i0=>⟨i0,rfl,fun bb hbb=>?_⟩⟩
  obtain ⟨ms,ems,lms⟩:=K6 ns (lo:=(st:Int)) (hi:=(st:Int)+60) (by omega) (by omega)
  refine ⟨_,rfl,_,rfl,_,rfl,_,rfl,_,_,rfl,rfl,_,rfl,a,_,rfl,hS8,fun p8 hp8=>?_⟩
  have t8:=Av (o:=HO.lst (Cv (ns.map V.int) (some (st:Int)) (some ((st:Int)+60)))) hp8
  have l8:upd H8 p8 (HO.lst (Cv (ns.map V.int) (some (st:Int)) (some ((st:Int)+60)))) p8=_:=Af
  generalize upd H8 p8 (HO.lst (Cv (ns.map V.int) (some (st:Int)) (some ((st:Int)+60))))=H9 at t8 l8 ⊢
  rw [ems] at l8
  refine ⟨_,rfl,a,0,ns,rfl,t8.seq hS8,fun i1=>⟨by show 1<=sizeLine; decide,fun p9 hp9=>?_⟩⟩
  obtain ⟨H10,eqH,t9,l9⟩:=Bo (o:=HO.lst [V.int i1]) hp9
  rw [eqH]
  refine ⟨p8,p9,_,_,rfl,rfl,t9 _ _ l8,l9,Bl (by rw [List.length_map]; show ms.length+1<=1000; omega),fun p10 hp10=>?_⟩
  have ecs:ms.map V.int++[V.int i1]=(ms++[i1]).map V.int:=by rw [cS]; rfl
  rw [ecs]
  obtain ⟨H11,eqH,t10,l10⟩:=Bo (o:=HO.lst ((ms++[i1]).map V.int)) hp10
  rw [eqH]
  have t811:Am H8 H11:=t8.trans (t9.trans t10)
  have lcs:(ms++[i1]).length<=61:=by rw [aE,cE]; omega
  have lc1:1<=(ms++[i1]).length:=by rw [aE,cE]; omega
  generalize ms++[i1]=cs at l10 lcs lc1 ⊢
  have o10:∀ {b:Addr} {u:HO},H8 b=some u->b ≠ p10:=fun {b u} e=>Ao (t9 _ _ (t8 _ _ e)) hp10
  obtain ⟨kv8,q8,_⟩:=hN.dp
  obtain ⟨_,q81,_⟩:=hN.r
  obtain ⟨_,q82,_⟩:=hN.b
  obtain ⟨_,q83,_⟩:=hN.k
  obtain ⟨_,q84,_⟩:=hN.n
  obtain ⟨_,q85,_⟩:=hN.d
  have h11:=(hN.mono t811).stand l10 (o10 q8) (fun b hb=>by
   simp only [List.mem_cons] at hb
   rcases hb with rfl | rfl | rfl | rfl | rfl | rfl | z
   ·exact o10 q81
   ·exact o10 q82
   ·exact o10 q83
   ·exact o10 q84
   ·exact o10 q85
   ·exact o10 hN.s
   ·exact nomatch z)
  have hz10:H p10=none:=hN.sm.free (t8.free (t9.free hp10))
  have hS11:Dh K H11 p10 (cs.map V.int):=.inl (.inl l10)
  refine ⟨p10,rfl,⟨_,hS11⟩,Iz (K:=K) (a:=p10) (xs:=cs.map V.int) (fun i σ H4=>∃ (S:Pl) (Cs:List Addr) (lo:V),Bk (upd H p10 (.lst (cs.map V.int))) H4 ⟨p,a1,a2,a3,a4,a5,a6⟩ S Cs lo/\Ef K aB aP aM bb S lo/\S.rows.length<=i/\(0<i->1<=S.bs.length)/\Zq S.rows/\∃ v4 v5,σ=[some (.ref a),some (.int (st:Int)),some (.ref p),some (.str bb),v4,v5])
   ⟨_,_,_,h11,Ef.new bb,am _,(fun z=>absurd z (by omega)),(fun r e=>nomatch e),_,_,rfl⟩ (fun i σ H4 _ h=>?_) ?_ ?_⟩
  ·obtain ⟨S,Cs,lo,hl,_⟩:=h
   exact .inl (.inl (hl.sm _ _ Af))
  ·rintro i x σ H4 hx ⟨S,Cs,lo,h4,k4,lr,hb4,f4,v4,v5,rfl⟩
   rw [bo] at hx
   obtain ⟨c,hc,rfl⟩:=de.mp hx
   have hi:i<cs.length:=(af.mp hc).1
   obtain ⟨kvs,g1,g2,y1,y2,y3,y4,y5,y6,y7⟩:=h4.dp
   obtain ⟨vr,r1,r2⟩:=h4.r
   have lr2:S.rows.length=vr.length:=r2.length
   have gr:=CQ.k (k:=Sum.inr "rows") g1
   rw [y1] at gr
   refine ⟨_,rfl,_,rfl,_,rfl,p,_,rfl,gr,a1,_,rfl,ja (.inl r1),bb,vr.length,rfl,hbb.1,by omega,_,rfl,_,⟨p,a1,a2,a3,a4,a5,a6⟩,S,Cs,lo,bb,c,by rw [lr2]; rfl,⟨h4,k4,hbb,by omega,F⟩,?_,?_⟩
   ·intro r y S' Cs' lo' H5 hA hrows hT hk hb'
    obtain ⟨T5,rfl,hT5⟩:=hT
    obtain ⟨kvs5,g15,g25,u1,_,_,_,_,_,u7⟩:=hA.dp
    obtain ⟨vr5,r15,r25⟩:=hA.r
    have lr5:S'.rows.length=vr5.length:=r25.length
    have gr5:=CQ.k (k:=Sum.inr "rows") g15
    rw [u1] at gr5
    have hB:=hA.gn r15 (r:=r) (v:=.ref T5) ⟨T5,rfl,hT5⟩
    have eS:({ S' with rows:=S'.rows++[r] }:Pl) = { S' with rows:=S.rows++[r] }:=by rw [hrows]
    rw [eS] at hB
    have hT6:upd H5 a1 (HO.lst (vr5++[.ref T5])) T5=some (.tup r.v):=by
     rw [Aq (Nr hT5 r15 (by intro z; cases z))]
     exact hT5
    have lr':S'.rows.length=S.rows.length:=by rw [hrows]
    refine ⟨_,rfl,rfl,_,rfl,Dg ⟨_,rfl,p,_,rfl,gr5,.inl ⟨rfl,_,ja r15⟩,_,rfl,a1,vr5,_,rfl,rfl,r15,BP (by omega),?_⟩⟩
    generalize upd H5 a1 (HO.lst (vr5++[.ref T5]))=H6 at hB hT6 ⊢
    refine ⟨_,rfl,T5,_,_,_,rfl,rfl,ja hT6,Aj (j:=0) rfl,by show 2<=sizeLine; decide,fun q2 hq2=>?_⟩
    have s7:=Av (o:=HO.tup [V.str "stop",.str "line"]) hq2
    have l7:upd H6 q2 (HO.tup [V.str "stop",.str "line"]) q2=some (.tup [V.str "stop",.str "line"]):=Af
    generalize upd H6 q2 (HO.tup [V.str "stop",.str "line"])=H7' at s7 l7 ⊢
    have hB7:=hB.mono s7
    refine ⟨q2,_,rfl,.inr (.inl (.inl l7)),rfl,rfl,_,rfl,?_⟩
    by_cases hw:r.w = "stop" \/ r.w = "line"
    ·rw [(fH r.w).mpr hw]
     have elo:iz r lo'=lo':=if_pos hw
     rw [elo] at hk
     exact Cp ⟨_,_,_,hB7,hk,by simp; omega,(fun _=>hb'),Qz f4 hk.bl hb',_,_,rfl⟩
    ·rw [(ed _).mp fun z=>hw ((fH r.w).mp z)]
     have elo:iz r lo'=.non:=if_neg hw
     rw [elo] at hk
     obtain ⟨kvs7',g17,g27,_⟩:=hB7.dp
     refine Dg ⟨_,rfl,p,_,rfl,Oz.k (k:=Sum.inr "lines") g17 (BP (by omega)),?_⟩
     exact ⟨_,_,_,hB7.Zi g17 .non,hk,by simp; omega,(fun _=>hb'),Qz f4 hk.bl hb',_,_,rfl⟩
   ·intro H5 s5 hb5
    refine ⟨_,rfl,rfl,_,rfl,Cp ?_⟩
    exact ⟨S,Cs,lo,h4.mono s5,k4,by omega,(fun _=>hb5),f4,_,_,rfl⟩
  ·rintro σ H4 ⟨S,Cs,lo,h4,k4,lr,hb4,f4,v4,v5,rfl⟩
   rw [ag] at lr hb4
   exact ⟨_,rfl,q _ S Cs H4 ⟨⟨lo,h4.weak hz10⟩,⟨bb,lo,hbb,k4⟩,hb4 (by omega),by omega,f4⟩⟩
theorem pick {xs:List V} (c:Int) (n:Nat) (hn:xs.length=n) (h0:0<n):∃ v,v∈xs/\P0 xs (c % (n:Int))=some v:=by
 have a0:0<=c % (n:Int):=dn _ (by omega)
 have a1:c % (n:Int)<n:=df _ (by omega)
 have hj:(c % (n:Int)).toNat<xs.length:=by omega
 refine ⟨xs[(c % (n:Int)).toNat],eh hj,?_⟩
 have:=Aj (xs:=xs) (ae hj)
 rwa [Int.toNat_of_nonneg a0] at this
theorem LK {t:Str} (h:¬ isNm t):¬ Jt (.str t):=fun ⟨u,e,g⟩=>by cases e; exact h g
theorem Pr {a:Addr}:¬ Jt (.ref a):=fun ⟨u,e,g⟩=>by cases e
theorem R7 {i:Int}:¬ Jt (.int i):=fun ⟨u,e,g⟩=>by cases e
theorem Ye {b:Bool}:¬ Jt (.bl b):=fun ⟨u,e,g⟩=>by cases e
theorem S6:¬ Jt .non:=fun ⟨u,e,g⟩=>by cases e
theorem Ej {t:Str} (h:t.length<=1000/\t.cps.toList.all (fun c=>decide (c<128))=true):Tx t:=⟨h.1,fun c hc=>of_decide_eq_true (cw.mp h.2 c hc)⟩
theorem Jf {t:Str} (h:t.length=0 \/ 8<t.length \/ t.cps.toList.any (fun c=>decide (c<97))=true):¬ isNm t:=fun n=>by
 rcases h with h | h | h
 ·have:=n.1; omega
 ·have:=n.2.1; omega
 ·obtain ⟨c,hc,e⟩:=fw.mp h
  have:=n.2.2 c hc
  have:=of_decide_eq_true e
  omega
noncomputable def dI:Sp:=fun vs H Q _=>∃ (c:Int),vs=[.int c]/\∀ v H',Am H H'->DK H' v->¬ Jt v->Q v H'
theorem cu:BX ["_law_cell","_law_some"] ["_law_cell"] (Ai g_):=Cj
include N T in
theorem ZZ:BW P w K mg base Br 1 aD.fOn aD.dOn ["_law_cell"] dI:=by
 refine N.FOn.1.ok cu (fun vs H Q E h=>?_) (fun cdv A outer s H vs Q E hr h=>?_)
 ·obtain ⟨c,rfl,_⟩:=h
  rfl
 ·obtain ⟨c,rfl,q⟩:=h
  refine ⟨_,(@Ae _ _ _ _ _ (@CJ _ _ _ _ _ _ 1 cu.nd rfl (Or.inl rfl) (@Bh _ _ _ _ (@Ar _ _ _ _ _ rfl Al (@Ar _ _ _ _ _ rfl Al (@Ar _ _ _ _ _ rfl Al (@Ar _ _ _ _ _ rfl Al (@Ar _ _ _ _ _ rfl Al (@Ar _ _ _ _ _ rfl DX (@Ar _ _ _ _ _ rfl Ac (@Ar _ _ _ _ _ rfl (@Bh _ _ _ _ (@Ar _ _ _ _ _ rfl Al Ab)) (@Ar _ _ _ _ _ rfl (@Bv _ _ _ _ _ (@Ar _ _ _ _ _ rfl Al Ab)) (@Ar _ _ _ _ _ rfl Ek Ab))))))))))) rfl (Or.inl rfl)) (@Ag _ _ _ (@Ax _ _ _ _ (@BK _ _ _ _ _ _ _ Bt (pv 1) (Aw Bs (pv 0) Ac) (fun _ _=>rfl))))),?_⟩
  refine ⟨by show 1<=sizeLine; decide,fun L hL=>?_⟩
  obtain ⟨H1,eqH,s1,l1⟩:=Bo (o:=HO.lst [V.str "a"]) hL
  rw [eqH]
  refine ⟨by show 1<=sizeLine; decide,fun T1 hT1=>?_⟩
  obtain ⟨H2,eqH,s2,l2⟩:=Bo (o:=HO.tup [V.str "a"]) hT1
  rw [eqH]
  refine ⟨by show 10<=sizeLine; decide,fun D hD=>?_⟩
  generalize eX:[V.str "",.str "abcdefghi",.str "Great",.str "a1",.str "a b",.non,.int 5,.ref L,.ref T1,.bl true]=X
  obtain ⟨H3,eqH,s3,l3⟩:=Bo (o:=HO.lst X) hD
  rw [eqH]
  have hX:∀ v∈X,DK H3 v/\¬ Jt v:=fun v hv=>by
   rw [← eX] at hv
   simp only [List.mem_cons,List.not_mem_nil,or_false] at hv
   rcases hv with rfl | rfl | rfl | rfl | rfl | rfl | rfl | rfl | rfl | rfl
   ·exact ⟨.str (Ej (by decide +kernel)),LK (Jf (by decide +kernel))⟩
   ·exact ⟨.str (Ej (by decide +kernel)),LK (Jf (by decide +kernel))⟩
   ·exact ⟨.str (Ej (by decide +kernel)),LK (Jf (by decide +kernel))⟩
   ·exact ⟨.str (Ej (by decide +kernel)),LK (Jf (by decide +kernel))⟩
   ·exact ⟨.str (Ej (by decide +kernel)),LK (Jf (by decide +kernel))⟩
   ·exact ⟨.non,S6⟩
   ·exact ⟨.int _,R7⟩
   ·exact ⟨.lst (s3 _ _ (s2 _ _ l1)),Pr⟩
   ·exact ⟨.tup (s3 _ _ l2),Pr⟩
   ·exact ⟨.bl _,Ye⟩
  obtain ⟨v,hv,ha⟩:=pick (xs:=X) c 10 (by rw [← eX]; rfl) (by decide)
  refine ⟨_,rfl,_,rfl,_,_,rfl,rfl,(by show (0:Int)<10; decide),D,_,_,v,rfl,rfl,ja l3,ha,?_⟩
  exact q v H3 (s1.trans (s2.trans s3)) (hX v hv).1 (hX v hv).2
noncomputable def Z9:Sp:=fun vs H Q _=>∃ (lo hi c:Int),vs=[.int lo,.int hi,.int c]/\lo.natAbs.log2<1920/\Tx (Str.ofString (toString lo))/\∀ v H',Am H H'->DK H' v->inB lo hi v=false->Q v H'
theorem Zv:BX ["_law_low","_law_high","_law_cell","_law_far"] ["_law_low","_law_high","_law_cell"] (Ai gZ):=Cj
include N T in
theorem Zg:BW P w K mg base Br 1 aD.fBy aD.dBy ["_law_low","_law_high","_law_cell"] Z9:=by
 refine N.FBy.1.ok Zv (fun vs H Q E h=>?_) (fun cdv A outer s H vs Q E hr h=>?_)
 ·obtain ⟨lo,hi,c,rfl,_⟩:=h
  rfl
 ·obtain ⟨lo,hi,c,rfl,h19,htx,q⟩:=h
  refine ⟨_,(@Ae _ _ _ _ _ (@CJ _ _ _ _ _ _ 3 Zv.nd rfl (Or.inl rfl) (Aw Bs (Aw CP (pv 2) Ac) (Aw JN Ac Ac)) rfl (Or.inl rfl)) (@Ag _ _ _ (@Ax _ _ _ _ (@BK _ _ _ _ _ _ _ Bt (@Bh _ _ _ _ (@Ar _ _ _ _ _ rfl (Aw Dc (pv 0) Ac) (@Ar _ _ _ _ _ rfl (Aw CT (pv 1) Ac) (@Ar _ _ _ _ _ rfl (Aw Dc (Aw Dc (pv 0) Ac) (pv 3)) (@Ar _ _ _ _ _ rfl (Aw CT (Aw CT (pv 1) Ac) (pv 3)) (@Ar _ _ _ _ _ rfl Ek (@Ar _ _ _ _ _ rfl DX (@Ar _ _ _ _ _ rfl (Dw Ma rfl T.str fe (@Ar _ _ _ _ _ rfl (pv 0) Ab)) Ab)))))))) (Aw Bs (pv 2) Ac) (fun _ _=>rfl))))),?_⟩
  refine ⟨_,rfl,_,_,rfl,rfl,⟨by decide,by decide⟩,_,_,rfl,rfl,⟨by decide,by decide,by decide⟩,_,_,rfl,rfl,(by show (0:Int)<10 ^ (30:Int).toNat; decide),?_⟩
  have f0:0<=c / 7 % 10 ^ (30:Int).toNat:=dn _ (by decide)
  show Df 3 (V.int (c / 7 % 10 ^ (30:Int).toNat)) _ _ _
  generalize c / 7 % 10 ^ (30:Int).toNat=far at f0
  refine ⟨_,rfl,_,_,rfl,rfl,_,rfl,_,_,rfl,rfl,_,rfl,_,_,rfl,rfl,_,rfl,_,_,rfl,rfl,_,rfl,_,_,rfl,rfl,_,rfl,_,_,rfl,rfl,_,rfl,lo,rfl,h19,by show 7<=sizeLine; decide,fun D hD=>?_⟩
  generalize eX:[V.int (lo - 1),.int (hi+1),.int (lo - 1 - far),.int (hi+1+far),.bl true,.non,.str (Str.ofString (toString lo))]=X
  obtain ⟨H3,eqH,s3,l3⟩:=Bo (o:=HO.lst X) hD
  rw [eqH]
  have inF:∀ i:Int,(i<lo \/ hi<i)->inB lo hi (.int i)=false:=fun i h=>by
   show (decide (lo<=i) && decide (i<=hi))=false
   rcases h with h | h
   ·rw [decide_eq_false (by omega)]; rfl
   ·rw [decide_eq_false (p:=i<=hi) (by omega),Bool.and_false]
  have hX:∀ v∈X,DK H3 v/\inB lo hi v=false:=fun v hv=>by
   rw [← eX] at hv
   simp only [List.mem_cons,List.not_mem_nil,or_false] at hv
   rcases hv with rfl | rfl | rfl | rfl | rfl | rfl | rfl
   ·exact ⟨.int _,inF _ (.inl (by omega))⟩
   ·exact ⟨.int _,inF _ (.inr (by omega))⟩
   ·exact ⟨.int _,inF _ (.inl (by omega))⟩
   ·exact ⟨.int _,inF _ (.inr (by omega))⟩
   ·exact ⟨.bl _,rfl⟩
   ·exact ⟨.non,rfl⟩
   ·exact ⟨.str htx,rfl⟩
  obtain ⟨v,hv,ha⟩:=pick (xs:=X) c 7 (by rw [← eX]; rfl) (by decide)
  refine ⟨_,rfl,_,_,rfl,rfl,(by show (0:Int)<7; decide),D,_,_,v,rfl,rfl,ja l3,ha,?_⟩
  exact q v H3 s3 (hX v hv).1 (hX v hv).2
theorem Lg {xs:List V} {k:Nat} (h:k<=xs.length):Cv xs none (some (k:Int))=xs.take k:=by
 unfold Cv
 rw [HT.DR,HT.Ew,io h]
 rfl
theorem Jg {xs:List V} {k:Nat}:Cv xs (some (k:Int)) none=xs.drop k:=by
 unfold Cv
 rw [HT.DR,HT.Ew]
 by_cases h:k<=xs.length
 ·rw [io h,dt (by rw [gi]; omega)]
 ·rw [Nat.min_eq_right (by omega),iS,List.take_zero,List.drop_of_length_le (by omega)]
theorem TJ {xs:List V} {k:Nat} {v:V} (h:k<xs.length):xs.take k++[v]++xs.drop (k+1)=xs.set k v:=by
 rw [eI,List.singleton_append,List.set_eq_take_append_cons_drop,if_pos h]
noncomputable def Vf (K:PySem.W.Frag):Sp:=fun vs H Q _=>∃ (a:Addr) (xs:List V) (k:Nat) (v:V),vs=[.ref a,.int (k:Nat),v]/\H a=some (.tup xs)/\1<=k/\k<xs.length/\xs.length<=200/\∀ D H',Am H H'->H' D=some (.tup (xs.set k v))->Q (.ref D) H'
theorem jP:BX ["_law_row_here","_law_at","_law_part"] ["_law_row_here","_law_at","_law_part"] (Ai iU):=Cj
include N T in
theorem U6:BW P w K mg base Br 1 aD.fPu aD.dPu ["_law_row_here","_law_at","_law_part"] (Vf K):=by
 refine N.FPu.1.ok jP (fun vs H Q E h=>?_) (fun cdv A outer s H vs Q E hr h=>?_)
 ·obtain ⟨a,xs,k,v,rfl,_⟩:=h
  rfl
 ·obtain ⟨a,xs,k,v,rfl,ha,h1,hk,hl,q⟩:=h
  refine ⟨_,(@Ag _ _ _ (@Ax _ _ _ _ (Aw HS (Aw HS (Cr Gi (pv 0) Dv (DG (pv 1))) (@Bv _ _ _ _ _ (@Ar _ _ _ _ _ rfl (pv 2) Ab))) (Cr Gi (pv 0) (DG (Aw CT (pv 1) Ac)) Dv)))),?_⟩
  have hS:Fq K H a xs:=.inl (.inl ha)
  have c1:Cv xs none (some (k:Int))=xs.take k:=Lg (by omega)
  have c2:Cv xs (some ((k:Int)+1)) none=xs.drop (k+1):=Jg (k:=k+1)
  refine ⟨_,rfl,_,rfl,_,rfl,a,xs,rfl,hS,(fun z=>?_),fun p1 hp1=>?_⟩
  ·rw [HT.DR] at z
   have:=z.2
   omega
  rw [c1]
  obtain ⟨H1,eqH,s1,l1⟩:=Bo (o:=HO.tup (xs.take k)) hp1
  rw [eqH]
  refine ⟨_,rfl,by show 1<=sizeLine; decide,fun p2 hp2=>?_⟩
  obtain ⟨H2,eqH,s2,l2⟩:=Bo (o:=HO.tup [v]) hp2
  rw [eqH]
  have lt:(xs.take k).length=k:=by rw [bq]; omega
  refine ⟨p1,p2,xs.take k,[v],rfl,rfl,ja (s2 _ _ l1),ja l2,(fun z=>by rw [z] at lt; simp at lt; omega),Bl (by rw [lt]; simp; omega),(fun z=>nomatch z),fun _ p3 hp3=>?_⟩
  obtain ⟨H3,eqH,s3,l3⟩:=Bo (o:=HO.tup (xs.take k++[v])) hp3
  rw [eqH]
  have s03:=s1.trans (s2.trans s3)
  refine ⟨_,rfl,_,rfl,_,_,rfl,rfl,_,rfl,a,xs,rfl,ja (s03 _ _ ha),(fun z=>?_),fun p4 hp4=>?_⟩
  ·have z1:=z.1
   rw [show ((k:Int)+1)=((k+1:Nat):Int) by omega,HT.DR] at z1
   omega
  rw [c2]
  obtain ⟨H4,eqH,s4,l4⟩:=Bo (o:=HO.tup (xs.drop (k+1))) hp4
  rw [eqH]
  have s04:=s03.trans s4
  have e:=TJ (v:=v) hk
  refine ⟨p3,p4,_,_,rfl,rfl,ja (s4 _ _ l3),ja l4,(fun z=>by simp at z),Bl (by simp; omega),(fun z=>?_),fun _ p5 hp5=>?_⟩
  ·rw [z,dQ] at e
   exact q p3 H4 s04 (by rw [← e]; exact s4 _ _ l3)
  ·rw [e]
   exact q p5 _ (s04.trans (Av hp5)) Af
end
end K10
end PartK10n
section PartK10p
set_option maxHeartbeats 4000000
namespace K10
open PySem L2 Og
section
variable {K:PySem.W.Frag} {aB aP aM:Addr} {ρ:V->R} {us:List V} {H:Hp}
theorem Rk {a b c d:Int} {l:List Value} (h:Vals [V.int a,.int b] l) (g:Vals [V.int c,.int d] l):a=c/\b=d:=by
 cases h with
 | cons h1 h2 =>
  cases h2 with
  | cons h3 h4 =>
   cases g with
   | cons g1 g2 =>
    cases g2 with
    | cons g3 g4 =>
     obtain ⟨t1,e1⟩:=h1
     obtain ⟨t2,e2⟩:=g1
     obtain ⟨t3,e3⟩:=h3
     obtain ⟨t4,e4⟩:=g3
     rw [e1] at e2
     rw [e3] at e4
     cases e2
     cases e4
     exact ⟨rfl,rfl⟩
theorem KTup.cL {p:Addr} {a b c d:Int} (h:KTup K p [.int a,.int b]) (g:KTup K p [.int c,.int d]):a=c/\b=d:=by
 obtain ⟨o1,i1,n1,a1,a2,a3,a4,a5⟩:=h
 obtain ⟨o2,i2,n2,b1,b2,b3,b4,b5⟩:=g
 rw [a1] at b1
 cases b1
 rw [a3] at b3
 cases b3
 exact Rk a5 b5
theorem Ol {y:Str} {x:V} {lo hi:Int} (h:∃ a,PySem.W.nsIn K aB y=some (some (.ref a))/\KTup K a [.int lo,.int hi]) (hx:inB lo hi x=false):¬ D_ K aB ρ us x y true:=by
 obtain ⟨a,h1,h2⟩:=h
 rintro (⟨lo',hi',a',g1,g2,g3⟩ | ⟨g1,_⟩ | ⟨g1,_⟩)
 ·rw [h1] at g1
  cases g1
  obtain ⟨rfl,rfl⟩:=KTup.cL h2 g2
  rw [hx] at g3
  cases g3
 ·rw [h1] at g1; cases g1
 ·rw [h1] at g1; cases g1
theorem Q6 {y:Str} {x:V} (h:PySem.W.nsIn K aB y=some none) (hy:¬ y = "new") (hx:¬ GD ρ us y x):¬ D_ K aB ρ us x y true:=by
 rintro (⟨lo',hi',a',g1,g2,g3⟩ | ⟨_,g1,_⟩ | ⟨_,_,g3⟩)
 ·rw [h] at g1; cases g1
 ·exact hy g1
 ·exact hx (g3.mp rfl)
theorem Yp {x:V} (h:PySem.W.nsIn K aB "new" = some none) (hx:∃ w∈named,GD ρ us w x):¬ D_ K aB ρ us x "new" true:=by
 rintro (⟨lo',hi',a',g1,g2,g3⟩ | ⟨_,_,g3⟩ | ⟨_,g1,_⟩)
 ·rw [h] at g1; cases g1
 ·obtain ⟨w,hw,h1⟩:=hx
  exact (g3.mp rfl).2 w hw h1
 ·exact g1 rfl
theorem Vv {y:Str} {x0 x:V} {t:Str} (h:Dm K aB ρ us (.str t) y) (hx:¬ Jt x):¬ D_ K aB ρ us x y true:=by
 have hn:PySem.W.nsIn K aB y=some none:=by
  rcases h with ⟨i,lo,hi,b,e,_⟩ | ⟨h1,_⟩ | ⟨h1,_⟩
  ·cases e
  ·exact h1
  ·exact h1
 rintro (⟨lo',hi',a',g1,g2,g3⟩ | ⟨_,_,g3⟩ | ⟨_,_,g3⟩)
 ·rw [hn] at g1; cases g1
 ·exact hx (g3.mp rfl).1
 ·obtain ⟨t,e,g,_⟩:=g3.mp rfl
  exact hx ⟨t,e,g⟩
theorem HW {r:R} (ok:Dn K aB aP aM ρ us r):∀ x∈V.str r.nm::r.rest,DK H x:=fun x hx=>by
 rcases ok with ok | ok
 ·obtain ⟨ap,ps,hn,hap,hlen,hps,hok⟩:=ok.parts
  obtain ⟨i,hi,rfl⟩:=dc hx
  exact Ng (hok i _ (ps[i]'(by omega)) (ae hi) (ae _))
 ·obtain ⟨ts,ets,nd,h24,hts⟩:=ok.ts
  rw [ets] at hx
  obtain ⟨t,ht,rfl⟩:=aS.mp hx
  exact .str (hts t ht).1.tx
theorem Io {r:R} (ok:Dn K aB aP aM ρ us r):(V.str r.nm::r.rest).length<=24:=by
 rcases ok with ok | ok
 ·obtain ⟨ap,ps,hn,hap,hlen,hps,hok⟩:=ok.parts
  omega
 ·obtain ⟨ts,ets,nd,h24,hts⟩:=ok.ts
  rw [ets,ag]
  exact h24
theorem QH {r:R} {T:Addr} {xs:List V} (ok:El K aB aP aM ρ us r) (ah:GX ρ us) (hT:H T=some (.tup (.str r.w::xs))) (hx:xs.length<=100) (od:∀ x∈xs,DK H x)
  (no:∀ (ap:Addr) (ps:List Str),PySem.W.nsIn K aP r.w=some (some (.ref ap))->KTup K ap (ps.map V.str)->(V.str r.nm::r.rest).length=ps.length->(∀ (i:Nat) x y,(V.str r.nm::r.rest)[i]? = some x->ps[i]? = some y->Dm K aB ρ us x y)->¬ S8 K aB ρ us xs ps):Eo K aB aP aM H ρ us (.ref T) false:=by
 obtain ⟨ap,ps,hn,hap,hlen,hps,hok⟩:=ok.parts
 have n:=no ap ps hn hap hlen hok
 have ix:∀ y∈ps,∃ x,Dm K aB ρ us x y:=fun y hy=>by
  obtain ⟨i,hi,rfl⟩:=dc hy
  exact ⟨(V.str r.nm::r.rest)[i]'(by omega),hok i _ _ (ae _) (ae hi)⟩
 refine .bad (pk:=some ps) hT ⟨hx,od,fun ps' e x hx y hy=>?_,fun _ ps' e h=>?_,fun _=>.inr ⟨ap,ps,rfl,hn,hap,hps⟩⟩ ah ?_
 ·cases e
  obtain ⟨x0,h0⟩:=ix y hy
  exact OD h0 x
 ·cases e
  exact absurd h n
 ·rintro (⟨e,_⟩ | ⟨_,ps',e,h,_⟩)
  ·exact ok.ns e
  ·cases e
   exact n h
theorem Ni {r:R} {T:Addr} {xs:List V} (ok:SN K aM ρ us r) (ah:GX ρ us) (hT:H T=some (.tup (.str r.w::xs))) (hx:xs.length<=100) (od:∀ x∈xs,DK H x) (no:¬ Uv ρ us xs):Eo K aB aP aM H ρ us (.ref T) false:=by
 refine .bad (pk:=none) hT ⟨hx,od,(fun _ e=>nomatch e),(fun hw=>?_),fun hn=>absurd ok.w hn⟩ ah ?_
 ·rw [ok.w] at hw
  exact absurd hw (by decide +kernel)
 ·rintro (⟨_,h⟩ | ⟨h,_⟩)
  ·exact no h
  ·exact h ok.w
theorem Lq {r:R} {T:Addr} {xs:List V} (ok:El K aB aP aM ρ us r) (ah:GX ρ us) (hT:H T=some (.tup (.str r.w::xs))) (hx:xs.length<=100) (od:∀ x∈xs,DK H x) (hl:xs.length ≠ (V.str r.nm::r.rest).length):Eo K aB aP aM H ρ us (.ref T) false :=
 QH ok ah hT hx od fun _ _ _ _ e _ h=>hl (h.1.trans e.symm)
theorem G4 {r:R} {T:Addr} {x:V} (ok:Dn K aB aP aM ρ us r) (ah:GX ρ us) (hT:H T=some (.tup (.str r.w::(V.str r.nm::r.rest++[x])))) (ox:DK H x) (hx:r.w = "step"->∀ t,x=.str t->t∈JZ r \/ ¬ (isNm t/\Hi ρ us "stop" t=true)):Eo K aB aP aM H ρ us (.ref T) false:=by
 have hl:=Io ok
 have od:∀ y∈V.str r.nm::r.rest++[x],DK H y:=fun y hy=>by
  rcases cb.mp hy with h | h
  ·exact HW ok y h
  ·rw [av.mp h]; exact ox
 have hl1:(V.str r.nm::r.rest++[x]).length=(V.str r.nm::r.rest).length+1:=by simp
 rcases ok with ok | ok
 ·exact Lq ok ah hT (by omega) od (by omega)
 ·refine Ni ok ah hT (by omega) od fun ⟨_,ts,e,nd,h⟩=>?_
  obtain ⟨ts0,e0,nd0,_,h0⟩:=ok.ts
  obtain ⟨t1,t2,rfl,e1,e2⟩:=List.append_eq_map_iff.mp e
  obtain ⟨t,rfl⟩:∃ t,t2=[t]:=by
   have:t2.length=1:=by rw [← ag (f:=V.str),e2]; rfl
   exact List.length_eq_one_iff.mp this
  have ex:x=.str t:=(List.cons.inj e2).1.symm
  rcases hx ok.w t ex with g | g
  ·have:t∈t1:=by
    rw [Hc e1.symm] at g
    exact g
   have nd2:=fi.mp nd
   exact nd2.2.2 t this t (av.mpr rfl) rfl
  ·exact g (h t (br _ (av.mpr rfl)))
theorem Jw {r:R} {T:Addr} {x:V} {i:Nat} (ok:El K aB aP aM ρ us r) (ah:GX ρ us) (hi:i<(V.str r.nm::r.rest).length) (hT:H T=some (.tup (.str r.w::(V.str r.nm::r.rest).set i x))) (ox:DK H x)
  (no:∀ (ap:Addr) (ps:List Str) (y:Str),PySem.W.nsIn K aP r.w=some (some (.ref ap))->KTup K ap (ps.map V.str)->ps[i]? = some y->Dm K aB ρ us (V.str r.nm::r.rest)[i] y->¬ D_ K aB ρ us x y true):Eo K aB aP aM H ρ us (.ref T) false:=by
 have hl:=Io (.inl ok)
 refine QH ok ah hT (by rw [gE]; omega) (fun y hy=>?_) fun ap ps g1 g2 g3 g4 h=>?_
 ·rcases List.mem_or_eq_of_mem_set hy with h | rfl
  ·exact HW (.inl ok) y h
  ·exact ox
 ·have hp:i<ps.length:=by omega
  exact no ap ps ps[i] g1 g2 (ae hp) (g4 i _ _ (ae hi) (ae hp)) (h.2 i x _ (eJ hi) (ae hp))
theorem Gw {y:Str} {x:V} {lo hi:Int} (h:∃ a,PySem.W.nsIn K aB y=some (some (.ref a))/\KTup K a [.int lo,.int hi]) (p:D_ K aB ρ us x y true):∃ i:Int,x=.int i/\lo<=i/\i<=hi:=by
 cases hx:inB lo hi x with
 | false=>exact absurd p (Ol h hx)
 | true =>
  cases x with
  | int i =>
   have h2:(decide (lo<=i) && decide (i<=hi))=true:=hx
   rw [fv] at h2
   exact ⟨i,rfl,of_decide_eq_true h2.1,of_decide_eq_true h2.2⟩
  | _=>cases hx
theorem Ja {y:Str} {lo hi:Int} (h:∃ a,PySem.W.nsIn K aB y=some (some (.ref a))/\KTup K a [.int lo,.int hi]) (x:V):∃ b,D_ K aB ρ us x y b:=by
 obtain ⟨a,h1,h2⟩:=h
 exact ⟨_,.inl ⟨lo,hi,a,h1,h2,rfl⟩⟩
theorem Uo {y:Str} (h:PySem.W.nsIn K aB y=some none) (hy:¬ y = "new") (x:V):∃ b,D_ K aB ρ us x y b:=by
 by_cases e:GD ρ us y x
 ·exact ⟨true,.inr (.inr ⟨h,hy,⟨fun _=>e,fun _=>rfl⟩⟩)⟩
 ·exact ⟨false,.inr (.inr ⟨h,hy,⟨fun z=>(nomatch z),fun z=>absurd z e⟩⟩)⟩
theorem WR {y:Str} {x:V} (h:PySem.W.nsIn K aB y=some none) (hy:¬ y = "new") (p:D_ K aB ρ us x y true):GD ρ us y x:=Classical.byContradiction fun n=>Q6 h hy n p
theorem Ij (F:JG K aB aP aM) {T:Addr} {x1 x2 x3 x4:V} (ah:GX ρ us) (hT:H T=some (.tup [.str "line",x1,x2,x3,x4])) (od:∀ x∈[x1,x2,x3,x4],DK H x) (hc:∃ cnt,Hn ρ us cnt)
  (no:∀ sh lo hi:Int,x2=.int sh->x3=.int lo->x4=.int hi->GD ρ us "rank" x1->-200<=sh->sh<=200->0<=lo->lo<=60->0<=hi->hi<=60->¬ L_ ρ us lo hi):Eo K aB aP aM H ρ us (.ref T) false:=by
 obtain ⟨ap,hn,hap⟩:=F.pL
 obtain ⟨cnt,hcnt⟩:=hc
 have hap2:KTup K ap ((["rank","shift","low","high"]:List Str).map V.str):=hap
 have hInt:S8 K aB ρ us [x1,x2,x3,x4] ["rank","shift","low","high"]->∃ sh lo hi:Int,x2=.int sh/\x3=.int lo/\x4=.int hi/\GD ρ us "rank" x1 /\ -200<=sh/\sh<=200/\0<=lo/\lo<=60/\0<=hi/\hi<=60:=fun h=>by
  have p0:=WR F.bR (by decide +kernel) (h.2 0 x1 "rank" rfl rfl)
  obtain ⟨sh,e1,b1,b2⟩:=Gw F.bS (h.2 1 x2 "shift" rfl rfl)
  obtain ⟨lo,e2,b3,b4⟩:=Gw F.bLo (h.2 2 x3 "low" rfl rfl)
  obtain ⟨hi,e3,b5,b6⟩:=Gw F.bHi (h.2 3 x4 "high" rfl rfl)
  exact ⟨sh,lo,hi,e1,e2,e3,p0,b1,b2,b3,b4,b5,b6⟩
 refine .bad (pk:=some ["rank","shift","low","high"]) hT ⟨by simp,od,fun ps' e x hx y hy=>?_,fun _ ps' e h=>?_,fun _=>.inr ⟨ap,_,rfl,hn,hap2,by simp⟩⟩ ah ?_
 ·cases e
  simp only [List.mem_cons,List.not_mem_nil,or_false] at hy
  rcases hy with rfl | rfl | rfl | rfl
  ·exact Uo F.bR (by decide +kernel) x
  ·exact Ja F.bS x
  ·exact Ja F.bLo x
  ·exact Ja F.bHi x
 ·cases e
  obtain ⟨sh,lo,hi,rfl,rfl,rfl,_⟩:=hInt h
  exact ⟨x1,sh,lo,hi,cnt,rfl,hcnt⟩
 ·rintro (⟨e,_⟩ | ⟨_,ps',e,h,hl⟩)
  ·exact absurd e (by decide +kernel)
  ·cases e
   obtain ⟨sh,lo,hi,rfl,rfl,rfl,g⟩:=hInt h
   obtain ⟨nm,sh',lo',hi',e2,st⟩:=hl rfl
   cases e2
   exact no _ _ _ rfl rfl rfl g.1 g.2.1 g.2.2.1 g.2.2.2.1 g.2.2.2.2.1 g.2.2.2.2.2.1 g.2.2.2.2.2.2 st
theorem JC {w:Str} {ap:Addr} {ps qs:List Str} (h:∃ a,PySem.W.nsIn K aP w=some (some (.ref a))/\KTup K a (qs.map V.str)) (hn:PySem.W.nsIn K aP w=some (some (.ref ap))) (hk:KTup K ap (ps.map V.str)):ps=qs:=by
 obtain ⟨a,h1,h2⟩:=h
 rw [h1] at hn
 cases hn
 exact KTup.bf hk h2
theorem SQ (F:JG K aB aP aM) {w:Str} (hw:w∈named) {ap:Addr} {ps:List Str} (hn:PySem.W.nsIn K aP w=some (some (.ref ap))) (hk:KTup K ap (ps.map V.str)):ps[0]? = some ("new" : Str):=by
 simp only [List.mem_cons,List.not_mem_nil,or_false] at hw
 rcases hw with rfl | rfl | rfl | rfl | rfl
 ·rw [JC (qs:=["new","keys"]) F.f.pB hn hk]; rfl
 ·rw [JC (qs:=["new","pipes","wind"]) F.pR hn hk]; rfl
 ·rw [JC (qs:=["new","board"]) F.f.pS hn hk]; rfl
 ·rw [JC (qs:=["new","board","board","leap"]) F.f.pC hn hk]; rfl
 ·rw [JC (qs:=["new","board"]) F.f.pM hn hk]; rfl
theorem Sx (F:JG K aB aP aM) {r:R} (hw:r.w∈named) (ok:Dn K aB aP aM ρ us r):isNm r.nm/\∀ w∈named,Hi ρ us w r.nm=false:=by
 rcases ok with ok | ok
 ·obtain ⟨ap,ps,hn,hap,hlen,hps,hok⟩:=ok.parts
  have h:=hok 0 _ _ rfl (SQ F hw hn hap)
  rcases h with ⟨i,lo,hi,b,e,_⟩ | ⟨_,_,t,e,h3,h4⟩ | ⟨_,h2,_⟩
  ·cases e
  ·cases e
   exact ⟨h3,h4⟩
  ·exact absurd rfl h2
 ·rw [ok.w] at hw
  exact absurd hw (by decide +kernel)
theorem Wb (F:JG K aB aP aM) (ok:∀ (i:Nat) v,us[i]? = some v->Dn K aB aP aM ρ (us.take i) (ρ v)) {i j:Nat} {a b:V} (hi:us[i]? = some a) (hj:us[j]? = some b) (wa:(ρ a).w∈named) (wb:(ρ b).w∈named) (e:(ρ a).nm=(ρ b).nm):i=j:=by
 have key:∀ {i j:Nat} {a b:V},us[i]? = some a->us[j]? = some b->(ρ a).w∈named->(ρ b).w∈named->(ρ a).nm=(ρ b).nm->i<j->False:=fun {i j a b} hi hj wa wb e hl=>by
  have h:=(Sx F wb (ok j b hj)).2 _ wa
  have:Hi ρ (us.take j) (ρ a).w (ρ b).nm=true:=FQ.mpr ⟨a,al (i:=i) (by rw [fE,if_pos hl]; exact hi),rfl,e⟩
  rw [h] at this
  cases this
 rcases Nat.lt_trichotomy i j with h | h | h
 ·exact (key hi hj wa wb e h).elim
 ·exact h
 ·exact (key hj hi wb wa e.symm h).elim
end
section
variable {P:Program} {w:World} {K:PySem.W.Frag} {mg:Str->Option Value} {base:Heap} {C cN cO c0 c1 c2 c3 c4 c5 c6 c7 c8 c9 c10 c11 c12 c13 aN aK aB aP aM:Addr} {aD:Ad}
variable (N:jC K mg C cN cO c0 c1 c2 c3 c4 c5 c6 c7 c8 c9 c10 c11 c12 c13 aD) (T:Txt K w.params mg C cN cO c0 c1 c2 c3 c4 c5 c6 c7 c8 c9 c10 c11 c12 c13 aN aK aB aP aM)
structure Mr (K:PySem.W.Frag) (aB aP aM:Addr) (H:Hp) (ρ:V->R) (us:List V) (r:R) (T:Addr):Prop where
 F:JG K aB aP aM
 ok:Dn K aB aP aM ρ us r
 ah:GX ρ us
 hT:H T=some (.tup r.v)
 wd:lC r.w
theorem Mr.mono {K:PySem.W.Frag} {aB aP aM:Addr} {H H':Hp} {ρ:V->R} {us:List V} {r:R} {T:Addr} (s:Am H H') (h:Mr K aB aP aM H ρ us r T):Mr K aB aP aM H' ρ us r T:=⟨h.F,h.ok,h.ah,s _ _ h.hT,h.wd⟩
theorem Mr.two {K:PySem.W.Frag} {aB aP aM:Addr} {H:Hp} {ρ:V->R} {us:List V} {r:R} {T:Addr} (h:Mr K aB aP aM H ρ us r T) (hw:¬ r.w = "step"):El K aB aP aM ρ us r:=h.ok.resolve_right fun z=>hw z.w
theorem E_ {K:PySem.W.Frag} {aB aP aM:Addr} {ρ:V->R} {us:List V} {r:R} {qs:List Str} (ok:El K aB aP aM ρ us r) (h:∃ a,PySem.W.nsIn K aP r.w=some (some (.ref a))/\KTup K a (qs.map V.str)):r.rest.length+1=qs.length:=by
 obtain ⟨ap,ps,hn,hap,hlen,hps,hok⟩:=ok.parts
 rw [JC h hn hap] at hlen
 simpa using hlen
theorem Il {K:PySem.W.Frag} {aB aP aM:Addr} {H:Hp} {ρ:V->R} {us:List V} {r:R} {D:Addr} {v:V} {k:Nat} {y:Str} {qs:List Str} {lo hi:Int} (ok:El K aB aP aM ρ us r) (ah:GX ρ us) (h:∃ a,PySem.W.nsIn K aP r.w=some (some (.ref a))/\KTup K a (qs.map V.str)) (hq:qs[k]? = some y) (hb:∃ a,PySem.W.nsIn K aB y=some (some (.ref a))/\KTup K a [.int lo,.int hi]) (hD:H D=some (.tup (r.v.set (k+1) v))) (ov:DK H v) (nv:inB lo hi v=false):Eo K aB aP aM H ρ us (.ref D) false:=by
 have hl:=E_ ok h
 have hk:=(af.mp hq).1
 refine Jw (i:=k) ok ah (by rw [aI]; omega) hD ov fun ap ps y' g1 g2 g3 _=>?_
 rw [JC h g1 g2,hq] at g3
 cases g3
 exact Ol hb nv
noncomputable def ZF (K:PySem.W.Frag) (aB aP aM:Addr):Sp:=fun vs H Q _=>∃ (pl:V) (T:Addr) (r:R) (us:List V) (ρ:V->R) (c:Int),vs=[pl,.ref T,.int c]/\Mr K aB aP aM H ρ us r T/\∀ D H',Am H H'->Eo K aB aP aM H' ρ us (.ref D) false->Q (.ref D) H'
theorem eO:BX ["_law_plan_here","_law_row_here","_law_cell","_law_at"] ["_law_plan_here","_law_row_here","_law_cell"] (Ai jM):=Cj
include N T in
theorem bD:BW P w K mg base Br 2 aD.fBn aD.dBn ["_law_plan_here","_law_row_here","_law_cell"] (ZF K aB aP aM):=by
 refine N.FBn.1.ok eO (fun vs H Q E h=>?_) (fun cdv A outer s H vs Q E hr h=>?_)
 ·obtain ⟨pl,Ta,r,us,ρ,c,rfl,_⟩:=h
  rfl
 ·obtain ⟨pl,Ta,r,us,ρ,c,rfl,A1,q⟩:=h
  refine ⟨_,(@Ae _ _ _ _ _ (@Bf _ _ _ _ _ _ _ _ (A_ Bw (@BK _ _ _ _ _ _ _ (Ay (K:=K) rfl) (pv 1) Ac (fun _ _=>rfl)) Al (BV _)) (@Ag _ _ _ (@Ax _ _ _ _ (Ah (U6 N T) (ad hr) rfl N.FPu.2.2 N.FPu.1.kp N.FPu.2.1 .nil BJ (@Ar _ _ _ _ _ rfl (pv 1) (@Ar _ _ _ _ _ rfl Ac (@Ar _ _ _ _ _ rfl (Ah (Zg N T) (ad hr) rfl N.FBy.2.2 N.FBy.1.kp N.FBy.2.1 .nil BJ (@Ar _ _ _ _ _ rfl Ac (@Ar _ _ _ _ _ rfl Ac (@Ar _ _ _ _ _ rfl (pv 2) Ab)))) Ab)))))) BR) (@Ae _ _ _ _ _ (@Bf _ _ _ _ _ _ _ _ (A_ Bw (@BK _ _ _ _ _ _ _ (Ay (K:=K) rfl) (pv 1) Ac (fun _ _=>rfl)) Al (BV _)) (@Ae _ _ _ _ _ (@CJ _ _ _ _ _ _ 3 eO.nd rfl (Or.inl rfl) (Aw CT Ac (Aw Bs (Aw CP (pv 2) Ac) Ac)) rfl (Or.inl rfl)) (@Ag _ _ _ (@Ax _ _ _ _ (Ah (U6 N T) (ad hr) rfl N.FPu.2.2 N.FPu.1.kp N.FPu.2.1 .nil BJ (@Ar _ _ _ _ _ rfl (pv 1) (@Ar _ _ _ _ _ rfl (pv 3) (@Ar _ _ _ _ _ rfl (Ah (Zg N T) (ad hr) rfl N.FBy.2.2 N.FBy.1.kp N.FBy.2.1 .nil BJ (@Ar _ _ _ _ _ rfl (@BK _ _ _ _ _ _ _ Bt (@Bh _ _ _ _ (@Ar _ _ _ _ _ rfl Ac (@Ar _ _ _ _ _ rfl Ac Ab))) (Aw Dc (pv 3) Ac) (fun _ _=>rfl)) (@Ar _ _ _ _ _ rfl (@BK _ _ _ _ _ _ _ Bt (@Bh _ _ _ _ (@Ar _ _ _ _ _ rfl Ac (@Ar _ _ _ _ _ rfl (Aw JN Ac Ac) Ab))) (Aw Dc (pv 3) Ac) (fun _ _=>rfl)) (@Ar _ _ _ _ _ rfl (pv 2) Ab)))) Ab))))))) BR) (@Ae _ _ _ _ _ (@Bf _ _ _ _ _ _ _ _ (A_ Bw (@BK _ _ _ _ _ _ _ (Ay (K:=K) rfl) (pv 1) Ac (fun _ _=>rfl)) Al (BV _)) (@Ag _ _ _ (@Ax _ _ _ _ (Ah (U6 N T) (ad hr) rfl N.FPu.2.2 N.FPu.1.kp N.FPu.2.1 .nil BJ (@Ar _ _ _ _ _ rfl (pv 1) (@Ar _ _ _ _ _ rfl Ac (@Ar _ _ _ _ _ rfl (Ah (Zg N T) (ad hr) rfl N.FBy.2.2 N.FBy.1.kp N.FBy.2.1 .nil BJ (@Ar _ _ _ _ _ rfl (Ld JQ Ac) (@Ar _ _ _ _ _ rfl Ac (@Ar _ _ _ _ _ rfl (pv 2) Ab)))) Ab)))))) BR) (@Ae _ _ _ _ _ (@Bf _ _ _ _ _ _ _ _ (A_ Bw (@BK _ _ _ _ _ _ _ (Ay (K:=K) rfl) (pv 1) Ac (fun _ _=>rfl)) Al (BV _)) (@Ae _ _ _ _ _ (@Bf _ _ _ _ _ _ _ _ (A_ Bw (Aw Bs (Aw CP (pv 2) Ac) Ac) Ac (BV _)) (@Ag _ _ _ (@Ax _ _ _ _ (Ah (U6 N T) (ad hr) rfl N.FPu.2.2 N.FPu.1.kp N.FPu.2.1 .nil BJ (@Ar _ _ _ _ _ rfl (pv 1) (@Ar _ _ _ _ _ rfl Ac (@Ar _ _ _ _ _ rfl (Ah (Zg N T) (ad hr) rfl N.FBy.2.2 N.FBy.1.kp N.FBy.2.1 .nil BJ (@Ar _ _ _ _ _ rfl (Ld JQ Ac) (@Ar _ _ _ _ _ rfl Ac (@Ar _ _ _ _ _ rfl (pv 2) Ab)))) Ab)))))) BR) (@Ae _ _ _ _ _ (@Bf _ _ _ _ _ _ _ _ (A_ Bw (Aw Bs (Aw CP (pv 2) Ac) Ac) Ac (BV _)) (@Ag _ _ _ (@Ax _ _ _ _ (Ah (U6 N T) (ad hr) rfl N.FPu.2.2 N.FPu.1.kp N.FPu.2.1 .nil BJ (@Ar _ _ _ _ _ rfl (pv 1) (@Ar _ _ _ _ _ rfl Ac (@Ar _ _ _ _ _ rfl (Ah (Zg N T) (ad hr) rfl N.FBy.2.2 N.FBy.1.kp N.FBy.2.1 .nil BJ (@Ar _ _ _ _ _ rfl Ac (@Ar _ _ _ _ _ rfl (@BK _ _ _ _ _ _ _ (Ay (K:=K) rfl) (pv 1) Ac (fun _ _=>rfl)) (@Ar _ _ _ _ _ rfl (pv 2) Ab)))) Ab)))))) BR) (@Ag _ _ _ (@Ax _ _ _ _ (Ah (U6 N T) (ad hr) rfl N.FPu.2.2 N.FPu.1.kp N.FPu.2.1 .nil BJ (@Ar _ _ _ _ _ rfl (pv 1) (@Ar _ _ _ _ _ rfl Ac (@Ar _ _ _ _ _ rfl (@BK _ _ _ _ _ _ _ Bt (@Bh _ _ _ _ (@Ar _ _ _ _ _ rfl (Aw Dc (@BK _ _ _ _ _ _ _ (Ay (K:=K) rfl) (pv 1) Ac (fun _ _=>rfl)) Ac) (@Ar _ _ _ _ _ rfl Ac (@Ar _ _ _ _ _ rfl (Aw CT Ac (Aw Bs (Aw CP (pv 2) Ac) (Aw JN Ac Ac))) (@Ar _ _ _ _ _ rfl Ek (@Ar _ _ _ _ _ rfl DX (@Ar _ _ _ _ _ rfl Al Ab))))))) (Aw Bs (pv 2) Ac) (fun _ _=>rfl)) Ab)))))))) BR) (@Ag _ _ _ (@Ax _ _ _ _ (Aw HS (pv 1) (@Bv _ _ _ _ _ (@Ar _ _ _ _ _ rfl Ac Ab))))))))),?_⟩
  have hT:=A1.hT
  have h0:P0 r.v ((0:Nat):Int)=some (.str r.w):=Aj (j:=0) rfl
  have t1:Tx (Str.ofString (toString (1:Int))):=Ej (by decide +kernel)
  have t0:Tx (Str.ofString (toString (0:Int))):=Ej (by decide +kernel)
  have t60:Tx (Str.ofString (toString (-60:Int))):=Ej (by decide +kernel)
  have t200:Tx (Str.ofString (toString (-200:Int))):=Ej (by decide +kernel)
  have hl0:=Io A1.ok
  have hlv:r.v.length=(V.str r.nm::r.rest).length+1:=rfl
  have hlw:r.v.length=r.rest.length+2:=rfl
  rcases A1.wd with e | e | e | e | e | e | e
  ·have ok:=A1.two (by rw [e]; decide +kernel)
   have hp:∃ a,PySem.W.nsIn K aP r.w=some (some (.ref a))/\KTup K a ((["new","keys"]:List Str).map V.str):=by rw [e]; exact A1.F.f.pB
   have hl:r.rest.length+1=2:=E_ ok hp
   refine ⟨_,rfl,Ta,_,_,_,rfl,rfl,ja hT,h0,rfl,_,rfl,Bd (fun _=>?_) (fun z=>absurd (decide_eq_true (congrArg V.str e)) z)⟩
   refine ⟨_,rfl,_,rfl,1,61,c,rfl,by decide,t1,fun v H1 s1 ov nv=>⟨Ta,r.v,2,v,rfl,s1 _ _ hT,by decide,by omega,by omega,fun D H2 s2 hD=>?_⟩⟩
   exact q D H2 (s1.trans s2) (Il (k:=1) ok A1.ah hp rfl A1.F.f.bK hD (ov.mono s2) nv)
  ·have ok:=A1.two (by rw [e]; decide +kernel)
   have hp:∃ a,PySem.W.nsIn K aP r.w=some (some (.ref a))/\KTup K a ((["new","pipes","wind"]:List Str).map V.str):=by rw [e]; exact A1.F.pR
   have hl:r.rest.length+1=3:=E_ ok hp
   refine ⟨_,rfl,Ta,_,_,_,rfl,rfl,ja hT,h0,rfl,_,rfl,Bd (fun z=>absurd ((V.str.inj (of_decide_eq_true z)).symm.trans e) (by decide +kernel)) (fun _=>?_)⟩
   refine ⟨_,rfl,Ta,_,_,_,rfl,rfl,ja hT,h0,rfl,_,rfl,Bd (fun _=>?_) (fun z=>absurd (decide_eq_true (congrArg V.str e)) z)⟩
   refine ⟨_,rfl,_,_,rfl,rfl,⟨by decide,by decide⟩,_,_,rfl,rfl,(by show (0:Int)<2; decide),_,_,rfl,rfl,?_⟩
   have m0:c / 3 % 2=0 \/ c / 3 % 2=1:=by omega
   rcases m0 with em | em
   ·rw [em]
    refine ⟨_,rfl,_,rfl,by show 2<=sizeLine; decide,fun L1 hL1=>?_⟩
    obtain ⟨H1,eqH,s1,l1⟩:=Bo (o:=HO.lst [V.int 1,.int 0]) hL1
    rw [eqH]
    refine ⟨_,rfl,_,_,rfl,rfl,L1,_,_,.int 1,rfl,rfl,ja l1,Aj (j:=0) rfl,_,_,rfl,rfl,⟨by decide,by decide,by decide⟩,by show 2<=sizeLine; decide,fun L2 hL2=>?_⟩
    obtain ⟨H2,eqH,s2,l2⟩:=Bo (o:=HO.lst [V.int 97,.int (10 ^ (9:Int).toNat)]) hL2
    rw [eqH]
    refine ⟨_,rfl,_,_,rfl,rfl,L2,_,_,.int 97,rfl,rfl,ja l2,Aj (j:=0) rfl,?_⟩
    refine ⟨_,rfl,1,97,c,rfl,by decide,t1,fun v H3 s3 ov nv=>⟨Ta,r.v,2,v,rfl,s3 _ _ (s2 _ _ (s1 _ _ hT)),by decide,by omega,by omega,fun D H4 s4 hD=>?_⟩⟩
    exact q D H4 (s1.trans (s2.trans (s3.trans s4))) (Il (k:=1) ok A1.ah hp rfl A1.F.bP hD (ov.mono s4) nv)
   ·rw [em]
    refine ⟨_,rfl,_,rfl,by show 2<=sizeLine; decide,fun L1 hL1=>?_⟩
    obtain ⟨H1,eqH,s1,l1⟩:=Bo (o:=HO.lst [V.int 1,.int 0]) hL1
    rw [eqH]
    refine ⟨_,rfl,_,_,rfl,rfl,L1,_,_,.int 0,rfl,rfl,ja l1,Aj (j:=1) rfl,_,_,rfl,rfl,⟨by decide,by decide,by decide⟩,by show 2<=sizeLine; decide,fun L2 hL2=>?_⟩
    obtain ⟨H2,eqH,s2,l2⟩:=Bo (o:=HO.lst [V.int 97,.int (10 ^ (9:Int).toNat)]) hL2
    rw [eqH]
    refine ⟨_,rfl,_,_,rfl,rfl,L2,_,_,.int 1000000000,rfl,rfl,ja l2,Aj (j:=1) rfl,?_⟩
    refine ⟨_,rfl,0,1000000000,c,rfl,by decide,t0,fun v H3 s3 ov nv=>⟨Ta,r.v,3,v,rfl,s3 _ _ (s2 _ _ (s1 _ _ hT)),by decide,by omega,by omega,fun D H4 s4 hD=>?_⟩⟩
    exact q D H4 (s1.trans (s2.trans (s3.trans s4))) (Il (k:=2) ok A1.ah hp rfl A1.F.bW hD (ov.mono s4) nv)
  ·refine ⟨_,rfl,Ta,_,_,_,rfl,rfl,ja hT,h0,rfl,_,rfl,Bd (fun z=>absurd ((V.str.inj (of_decide_eq_true z)).symm.trans e) (by decide +kernel)) (fun _=>?_)⟩
   refine ⟨_,rfl,Ta,_,_,_,rfl,rfl,ja hT,h0,rfl,_,rfl,Bd (fun z=>absurd ((V.str.inj (of_decide_eq_true z)).symm.trans e) (by decide +kernel)) (fun _=>?_)⟩
   refine ⟨_,rfl,Ta,_,_,_,rfl,rfl,ja hT,h0,rfl,_,rfl,Bd (fun z=>absurd ((V.str.inj (of_decide_eq_true z)).symm.trans e) (by decide +kernel)) (fun _=>?_)⟩
   refine ⟨_,rfl,Ta,_,_,_,rfl,rfl,ja hT,h0,rfl,_,rfl,Bd (fun z=>absurd ((V.str.inj (of_decide_eq_true z)).symm.trans e) (by decide +kernel)) (fun _=>?_)⟩
   refine ⟨_,rfl,by show 1<=sizeLine; decide,fun p1 hp1=>?_⟩
   obtain ⟨H1,eqH,s1,l1⟩:=Bo (o:=HO.tup [V.int 1]) hp1
   rw [eqH]
   refine ⟨Ta,p1,r.v,[.int 1],rfl,rfl,ja (s1 _ _ hT),ja l1,(fun z=>nomatch z),Bl (by rw [hlv]; simp at hl0 ⊢; omega),(fun z=>nomatch z),fun _ D hD=>?_⟩
   have s2:=Av (o:=HO.tup (r.v++[V.int 1])) hD
   exact q D _ (s1.trans s2) (G4 A1.ok A1.ah Af (.int 1) fun _ t z=>nomatch z)
  ·have ok:=A1.two (by rw [e]; decide +kernel)
   have hp:∃ a,PySem.W.nsIn K aP r.w=some (some (.ref a))/\KTup K a ((["new","board","board","leap"]:List Str).map V.str):=by rw [e]; exact A1.F.f.pC
   have hl:r.rest.length+1=4:=E_ ok hp
   refine ⟨_,rfl,Ta,_,_,_,rfl,rfl,ja hT,h0,rfl,_,rfl,Bd (fun z=>absurd ((V.str.inj (of_decide_eq_true z)).symm.trans e) (by decide +kernel)) (fun _=>?_)⟩
   refine ⟨_,rfl,Ta,_,_,_,rfl,rfl,ja hT,h0,rfl,_,rfl,Bd (fun z=>absurd ((V.str.inj (of_decide_eq_true z)).symm.trans e) (by decide +kernel)) (fun _=>?_)⟩
   refine ⟨_,rfl,Ta,_,_,_,rfl,rfl,ja hT,h0,rfl,_,rfl,Bd (fun _=>?_) (fun z=>absurd (decide_eq_true (congrArg V.str e)) z)⟩
   refine ⟨_,rfl,_,rfl,_,rfl,-60,60,c,rfl,by decide,t60,fun v H1 s1 ov nv=>⟨Ta,r.v,4,v,rfl,s1 _ _ hT,by decide,by omega,by omega,fun D H2 s2 hD=>?_⟩⟩
   exact q D H2 (s1.trans s2) (Il (k:=3) ok A1.ah hp rfl A1.F.f.bL hD (ov.mono s2) nv)
  ·refine ⟨_,rfl,Ta,_,_,_,rfl,rfl,ja hT,h0,rfl,_,rfl,Bd (fun z=>absurd ((V.str.inj (of_decide_eq_true z)).symm.trans e) (by decide +kernel)) (fun _=>?_)⟩
   refine ⟨_,rfl,Ta,_,_,_,rfl,rfl,ja hT,h0,rfl,_,rfl,Bd (fun z=>absurd ((V.str.inj (of_decide_eq_true z)).symm.trans e) (by decide +kernel)) (fun _=>?_)⟩
   refine ⟨_,rfl,Ta,_,_,_,rfl,rfl,ja hT,h0,rfl,_,rfl,Bd (fun z=>absurd ((V.str.inj (of_decide_eq_true z)).symm.trans e) (by decide +kernel)) (fun _=>?_)⟩
   refine ⟨_,rfl,Ta,_,_,_,rfl,rfl,ja hT,h0,rfl,_,rfl,Bd (fun z=>absurd ((V.str.inj (of_decide_eq_true z)).symm.trans e) (by decide +kernel)) (fun _=>?_)⟩
   refine ⟨_,rfl,by show 1<=sizeLine; decide,fun p1 hp1=>?_⟩
   obtain ⟨H1,eqH,s1,l1⟩:=Bo (o:=HO.tup [V.int 1]) hp1
   rw [eqH]
   refine ⟨Ta,p1,r.v,[.int 1],rfl,rfl,ja (s1 _ _ hT),ja l1,(fun z=>nomatch z),Bl (by rw [hlv]; simp at hl0 ⊢; omega),(fun z=>nomatch z),fun _ D hD=>?_⟩
   have s2:=Av (o:=HO.tup (r.v++[V.int 1])) hD
   exact q D _ (s1.trans s2) (G4 A1.ok A1.ah Af (.int 1) fun _ t z=>nomatch z)
  ·have ok:=A1.two (by rw [e]; decide +kernel)
   have hp:∃ a,PySem.W.nsIn K aP r.w=some (some (.ref a))/\KTup K a ((["rank","shift","low","high"]:List Str).map V.str):=by rw [e]; exact A1.F.pL
   have hl:r.rest.length+1=4:=E_ ok hp
   refine ⟨_,rfl,Ta,_,_,_,rfl,rfl,ja hT,h0,rfl,_,rfl,Bd (fun z=>absurd ((V.str.inj (of_decide_eq_true z)).symm.trans e) (by decide +kernel)) (fun _=>?_)⟩
   refine ⟨_,rfl,Ta,_,_,_,rfl,rfl,ja hT,h0,rfl,_,rfl,Bd (fun z=>absurd ((V.str.inj (of_decide_eq_true z)).symm.trans e) (by decide +kernel)) (fun _=>?_)⟩
   refine ⟨_,rfl,Ta,_,_,_,rfl,rfl,ja hT,h0,rfl,_,rfl,Bd (fun z=>absurd ((V.str.inj (of_decide_eq_true z)).symm.trans e) (by decide +kernel)) (fun _=>?_)⟩
   refine ⟨_,rfl,Ta,_,_,_,rfl,rfl,ja hT,h0,rfl,_,rfl,Bd (fun _=>?_) (fun z=>absurd (decide_eq_true (congrArg V.str e)) z)⟩
   obtain ⟨cnt,v0,sh,lo,hi,bd,rs,er,hcn,h4,hv0,hw0,hr0,hle,hk0⟩:=(ok.line e).ex
   have ev:r.v=[.str "line",.str r.nm,.int sh,.int lo,.int hi]:=by show V.str r.w::V.str r.nm::r.rest=_; rw [e,er]
   have onm:∀ {H5:Hp},DK H5 (.str r.nm):=fun {H5}=>HW A1.ok _ bv
   refine ⟨_,rfl,_,_,rfl,rfl,⟨by decide,by decide⟩,_,_,rfl,rfl,(by show (0:Int)<3; decide),rfl,_,rfl,Bd (fun _=>?_) (fun _=>?_)⟩
   ·refine ⟨_,rfl,_,rfl,_,rfl,-200,200,c,rfl,by decide,t200,fun v H1 s1 ov nv=>⟨Ta,r.v,2,v,rfl,s1 _ _ hT,by decide,by omega,by omega,fun D H2 s2 hD=>?_⟩⟩
    exact q D H2 (s1.trans s2) (Il (k:=1) ok A1.ah hp rfl A1.F.bS hD (ov.mono s2) nv)
   refine ⟨_,rfl,_,_,rfl,rfl,⟨by decide,by decide⟩,_,_,rfl,rfl,(by show (0:Int)<3; decide),rfl,_,rfl,Bd (fun _=>?_) (fun _=>?_)⟩
   ·refine ⟨_,rfl,_,rfl,Ta,_,_,.int hi,rfl,rfl,ja hT,Aj (j:=4) (by rw [ev]; rfl),?_⟩
    refine ⟨_,rfl,0,hi,c,rfl,by decide,t0,fun v H1 s1 ov nv=>⟨Ta,r.v,3,v,rfl,s1 _ _ hT,by decide,by omega,by omega,fun D H2 s2 hD=>?_⟩⟩
    rw [ev] at hD
    refine q D H2 (s1.trans s2) (Ij A1.F A1.ah hD (fun x hx=>?_) ⟨cnt,hcn⟩ fun sh2 lo2 hi2 e2 e3 e4 _ _ _ b3 b4 b5 b6 st=>?_)
    ·simp only [List.mem_cons,List.not_mem_nil,or_false] at hx
     rcases hx with rfl | rfl | rfl | rfl
     ·exact onm
     ·exact .int _
     ·exact ov.mono s2
     ·exact .int _
    ·subst e3
     cases e4
     obtain ⟨_,_,_,_,_,_,_,_,_,hle2,_⟩:=st
     have:(decide ((0:Int)<=lo2) && decide (lo2<=hi))=false:=nv
     rw [decide_eq_true b3,decide_eq_true hle2] at this
     cases this
   ·refine ⟨_,rfl,_,rfl,Ta,_,_,V.int lo,rfl,rfl,ja hT,Aj (j:=3) (by rw [ev]; rfl),?_⟩
    refine ⟨_,_,rfl,rfl,?_⟩
    refine ⟨_,rfl,_,_,rfl,rfl,⟨by decide,by decide⟩,_,_,rfl,rfl,⟨by decide,by decide,by decide⟩,_,_,rfl,rfl,(by show (0:Int)<10 ^ (30:Int).toNat; decide),_,_,rfl,rfl,by show 6<=sizeLine; decide,fun D1 hD1=>?_⟩
    have f0:0<=c / 21 % 10 ^ (30:Int).toNat:=dn _ (by decide)
    generalize c / 21 % 10 ^ (30:Int).toNat=far at f0 ⊢
    generalize eX:[V.int (lo - 1),.int 61,.int (61+far),.bl true,.non,.str "5"]=X
    obtain ⟨H1,eqH,s1,l1⟩:=Bo (o:=HO.lst X) hD1
    rw [eqH]
    have hX:∀ v∈X,DK H1 v/\∀ i:Int,v=.int i->i<lo \/ 60<i:=fun v hv=>by
     rw [← eX] at hv
     simp only [List.mem_cons,List.not_mem_nil,or_false] at hv
     rcases hv with rfl | rfl | rfl | rfl | rfl | rfl
     ·exact ⟨.int _,fun i z=>.inl (by cases z; omega)⟩
     ·exact ⟨.int _,fun i z=>.inr (by cases z; omega)⟩
     ·exact ⟨.int _,fun i z=>.inr (by cases z; omega)⟩
     ·exact ⟨.bl _,fun i z=>nomatch z⟩
     ·exact ⟨.non,fun i z=>nomatch z⟩
     ·exact ⟨.str (Ej (by decide +kernel)),fun i z=>nomatch z⟩
    obtain ⟨v,hv,ha⟩:=pick (xs:=X) c 6 (by rw [← eX]; rfl) (by decide)
    refine ⟨_,rfl,_,_,rfl,rfl,(by show (0:Int)<6; decide),D1,_,_,v,rfl,rfl,ja l1,ha,?_⟩
    refine ⟨Ta,r.v,4,v,rfl,s1 _ _ hT,by decide,by omega,by omega,fun D H2 s2 hD=>?_⟩
    rw [ev] at hD
    refine q D H2 (s1.trans s2) (Ij A1.F A1.ah hD (fun x hx=>?_) ⟨cnt,hcn⟩ fun sh2 lo2 hi2 e2 e3 e4 _ _ _ b3 b4 b5 b6 st=>?_)
    ·simp only [List.mem_cons,List.not_mem_nil,or_false] at hx
     rcases hx with rfl | rfl | rfl | rfl
     ·exact onm
     ·exact .int _
     ·exact .int _
     ·exact (hX _ hv).1.mono s2
    ·cases e3
     obtain ⟨_,_,_,_,_,_,_,_,_,hle2,_⟩:=st
     have:=(hX v hv).2 hi2 e4
     omega
  ·refine ⟨_,rfl,Ta,_,_,_,rfl,rfl,ja hT,h0,rfl,_,rfl,Bd (fun z=>absurd ((V.str.inj (of_decide_eq_true z)).symm.trans e) (by decide +kernel)) (fun _=>?_)⟩
   refine ⟨_,rfl,Ta,_,_,_,rfl,rfl,ja hT,h0,rfl,_,rfl,Bd (fun z=>absurd ((V.str.inj (of_decide_eq_true z)).symm.trans e) (by decide +kernel)) (fun _=>?_)⟩
   refine ⟨_,rfl,Ta,_,_,_,rfl,rfl,ja hT,h0,rfl,_,rfl,Bd (fun z=>absurd ((V.str.inj (of_decide_eq_true z)).symm.trans e) (by decide +kernel)) (fun _=>?_)⟩
   refine ⟨_,rfl,Ta,_,_,_,rfl,rfl,ja hT,h0,rfl,_,rfl,Bd (fun z=>absurd ((V.str.inj (of_decide_eq_true z)).symm.trans e) (by decide +kernel)) (fun _=>?_)⟩
   refine ⟨_,rfl,by show 1<=sizeLine; decide,fun p1 hp1=>?_⟩
   obtain ⟨H1,eqH,s1,l1⟩:=Bo (o:=HO.tup [V.int 1]) hp1
   rw [eqH]
   refine ⟨Ta,p1,r.v,[.int 1],rfl,rfl,ja (s1 _ _ hT),ja l1,(fun z=>nomatch z),Bl (by rw [hlv]; simp at hl0 ⊢; omega),(fun z=>nomatch z),fun _ D hD=>?_⟩
   have s2:=Av (o:=HO.tup (r.v++[V.int 1])) hD
   exact q D _ (s1.trans s2) (G4 A1.ok A1.ah Af (.int 1) fun _ t z=>nomatch z)
structure Xe (ρ:V->R) (us:List V) (S:Pl):Prop where
 r:∀ x∈S.rk,isNm x.1/\Hi ρ us "board" x.1=false
 b:∀ x∈S.bs,isNm x.1/\Hi ρ us "rank" x.1=false/\Hi ρ us "stop" x.1=false
 nb:Hi ρ us "board" "nobodyhe" = false
 ns:Hi ρ us "stop" "nobodyhe" = false
 b0:∃ b,S.bs[0]? = some b/\Hi ρ us "board" b.1=true
 lr:S.rk.length<=12
 lb:S.bs.length<=5
theorem My {ρ:V->R} {us:List V} {w t:Str} (h:Hi ρ us w t=false):¬ GD ρ us w (.str t):=fun ⟨u,e,_,g⟩=>by
 cases e
 rw [h] at g
 cases g
theorem Ie {ρ:V->R} {us:List V} {w:Str} {x:V} (h:¬ Jt x):¬ GD ρ us w x:=fun ⟨u,e,g,_⟩=>h ⟨u,e,g⟩
theorem Mf {K:PySem.W.Frag} {aB aP aM:Addr} {H:Hp} {ρ:V->R} {us:List V} {r:R} {D:Addr} {v:V} {k:Nat} {qs:List Str} (F:JG K aB aP aM) (ok:El K aB aP aM ρ us r) (ah:GX ρ us) (h:∃ a,PySem.W.nsIn K aP r.w=some (some (.ref a))/\KTup K a (qs.map V.str)) (hq:qs[k]? = some ("board" : Str)) (hD:H D=some (.tup (r.v.set (k+1) v))) (ov:DK H v) (nv:¬ GD ρ us "board" v):Eo K aB aP aM H ρ us (.ref D) false:=by
 have hl:=E_ ok h
 have hk:=(af.mp hq).1
 refine Jw (i:=k) ok ah (by rw [aI]; omega) hD ov fun ap ps y' g1 g2 g3 _=>?_
 rw [JC h g1 g2,hq] at g3
 cases g3
 exact Q6 F.f.bB (by decide +kernel) nv
theorem Qf {K:PySem.W.Frag} {aB aP aM:Addr} {H:Hp} {ρ:V->R} {us:List V} {r:R} {D:Addr} {t:Str} (F:JG K aB aP aM) (hw:r.w∈named) (ok:El K aB aP aM ρ us r) (ah:GX ρ us) (hD:H D=some (.tup (r.v.set 1 (.str t)))) (ht:isNm t) (nv:Hi ρ us "board" t=true):Eo K aB aP aM H ρ us (.ref D) false:=by
 refine Jw (i:=0) ok ah (by simp) hD (.str ht.tx) fun ap ps y' g1 g2 g3 _=>?_
 rw [SQ F hw g1 g2] at g3
 cases g3
 exact Yp F.f.bN ⟨"board",by decide +kernel,t,rfl,ht,nv⟩
noncomputable def bz (K:PySem.W.Frag) (aB aP aM:Addr):Sp:=fun vs H Q _=>∃ (H0:Hp) (A:Kq) (S:Pl) (Cs:List Addr) (lo:V) (T:Addr) (r:R) (us:List V) (ρ:V->R) (c:Int),vs=[.ref A.p,.ref T,.int c]/\Bk H0 H A S Cs lo/\Mr K aB aP aM H ρ us r T/\Xe ρ us S/\∀ D H',Am H H'->Eo K aB aP aM H' ρ us (.ref D) false->Q (.ref D) H'
theorem YL:BX ["_law_plan_here","_law_row_here","_law_cell","_law_names","_law_name_here"] ["_law_plan_here","_law_row_here","_law_cell"] (Ai ZS):=Cj
include N T in
theorem ZR:BW P w K mg base Br 2 aD.fBm aD.dBm ["_law_plan_here","_law_row_here","_law_cell"] (bz K aB aP aM):=by
 refine N.FBm.1.ok YL (fun vs H Q E h=>?_) (fun cdv A outer s H vs Q E hr h=>?_)
 ·obtain ⟨H0,A,S,Cs,lo,Ta,r,us,ρ,c,rfl,_⟩:=h
  rfl
 ·obtain ⟨H0,A,S,Cs,lo,Ta,r,us,ρ,c,rfl,h,A1,M,q⟩:=h
  have hu:=FJ hr
  refine ⟨_,(@Ae _ _ _ _ _ (@CJ _ _ _ _ _ _ 3 YL.nd rfl (Or.inl rfl) (Aw Eu (Bx rfl (Bg (osc:=Ai ZS) (N:=["_law_plan_here","_law_row_here","_law_cell","_law_names","_law_name_here"]) rfl rfl (by decide +kernel)) (CN (Ba hu (pv 0) Al (fun _ _=>rfl))) (fun _ _ _ _=>Ce) (fun _ _ _ _=>(@BK _ _ _ _ _ _ _ (Ay (K:=K) rfl) (pv 0) Ac (fun _ _=>rfl)))) (@Bh _ _ _ _ (@Ar _ _ _ _ _ rfl Al Ab))) rfl (Or.inl rfl)) (@Ae _ _ _ _ _ (@CJ _ _ _ _ _ _ 4 YL.nd rfl (Or.inl rfl) (@BK _ _ _ _ _ _ _ Bt (Aw Eu (pv 3) (@Bh _ _ _ _ (@Ar _ _ _ _ _ rfl Al (@Ar _ _ _ _ _ rfl Ac (@Ar _ _ _ _ _ rfl DX (@Ar _ _ _ _ _ rfl (@Bh _ _ _ _ (@Ar _ _ _ _ _ rfl Al Ab)) Ab)))))) (Aw Bs (Aw CP (pv 2) Ac) (Aw CT (Ak Az rfl T.len ar (@Ar _ _ _ _ _ rfl (pv 3) Ab)) Ac)) (fun _ _=>rfl)) rfl (Or.inl rfl)) (@Ae _ _ _ _ _ (@Bf _ _ _ _ _ _ _ _ (A_ Bw (@BK _ _ _ _ _ _ _ (Ay (K:=K) rfl) (pv 1) Ac (fun _ _=>rfl)) Al (BV _)) (@Ag _ _ _ (@Ax _ _ _ _ (Ah (U6 N T) (ad hr) rfl N.FPu.2.2 N.FPu.1.kp N.FPu.2.1 .nil BJ (@Ar _ _ _ _ _ rfl (pv 1) (@Ar _ _ _ _ _ rfl Ac (@Ar _ _ _ _ _ rfl (@BK _ _ _ _ _ _ _ Bt (Bx rfl (Bg (osc:=Ai ZS) (N:=["_law_plan_here","_law_row_here","_law_cell","_law_names","_law_name_here"]) rfl rfl (by decide +kernel)) (CN (Ba hu (pv 0) Al (fun _ _=>rfl))) (fun _ _ _ _=>Ce) (fun _ _ _ _=>(@BK _ _ _ _ _ _ _ (Ay (K:=K) rfl) (pv 0) Ac (fun _ _=>rfl)))) (Aw Bs (Aw CP (pv 2) Ac) (Ak Az rfl T.len ar (@Ar _ _ _ _ _ rfl (Ba hu (pv 0) Al (fun _ _=>rfl)) Ab))) (fun _ _=>rfl)) Ab)))))) BR) (@Ae _ _ _ _ _ (@Bf _ _ _ _ _ _ _ _ (A_ Lh (@BK _ _ _ _ _ _ _ (Ay (K:=K) rfl) (pv 1) Ac (fun _ _=>rfl)) (@Bv _ _ _ _ _ (@Ar _ _ _ _ _ rfl Al (@Ar _ _ _ _ _ rfl Al Ab))) rfl) (@Ag _ _ _ (@Ax _ _ _ _ (Ah (U6 N T) (ad hr) rfl N.FPu.2.2 N.FPu.1.kp N.FPu.2.1 .nil BJ (@Ar _ _ _ _ _ rfl (pv 1) (@Ar _ _ _ _ _ rfl Ac (@Ar _ _ _ _ _ rfl (pv 4) Ab)))))) BR) (@Ae _ _ _ _ _ (@Bf _ _ _ _ _ _ _ _ (A_ Bw (@BK _ _ _ _ _ _ _ (Ay (K:=K) rfl) (pv 1) Ac (fun _ _=>rfl)) Al (BV _)) (@Ag _ _ _ (@Ax _ _ _ _ (Ah (U6 N T) (ad hr) rfl N.FPu.2.2 N.FPu.1.kp N.FPu.2.1 .nil BJ (@Ar _ _ _ _ _ rfl (pv 1) (@Ar _ _ _ _ _ rfl (Aw CT Ac (Aw Bs (Aw CP (pv 2) Ac) Ac)) (@Ar _ _ _ _ _ rfl (pv 4) Ab)))))) BR) (@Ae _ _ _ _ _ (@Bf _ _ _ _ _ _ _ _ (A_ Bw (@BK _ _ _ _ _ _ _ (Ay (K:=K) rfl) (pv 1) Ac (fun _ _=>rfl)) Al (BV _)) (@Ag _ _ _ (@Ax _ _ _ _ (Aw HS (pv 1) (@Bv _ _ _ _ _ (@Ar _ _ _ _ _ rfl (@BK _ _ _ _ _ _ _ Bt (@Bh _ _ _ _ (@Ar _ _ _ _ _ rfl (@BK _ _ _ _ _ _ _ (Ay (K:=K) rfl) (pv 1) Ac (fun _ _=>rfl)) (@Ar _ _ _ _ _ rfl (@BK _ _ _ _ _ _ _ (Ay (K:=K) rfl) (@BK _ _ _ _ _ _ _ (Ei (K:=K) rfl) (Ba hu (pv 0) Al (fun _ _=>rfl)) Ac (fun _ _=>rfl)) Ac (fun _ _=>rfl)) (@Ar _ _ _ _ _ rfl Al (@Ar _ _ _ _ _ rfl Ac (@Ar _ _ _ _ _ rfl DX Ab)))))) (Aw Bs (Aw CP (pv 2) Ac) Ac) (fun _ _=>rfl)) Ab))))) BR) (@Ag _ _ _ (@Ax _ _ _ _ (Ah (U6 N T) (ad hr) rfl N.FPu.2.2 N.FPu.1.kp N.FPu.2.1 .nil BJ (@Ar _ _ _ _ _ rfl (pv 1) (@Ar _ _ _ _ _ rfl Ac (@Ar _ _ _ _ _ rfl (@BK _ _ _ _ _ _ _ (Ay (K:=K) rfl) (@BK _ _ _ _ _ _ _ (Ei (K:=K) rfl) (Ba hu (pv 0) Al (fun _ _=>rfl)) Ac (fun _ _=>rfl)) Ac (fun _ _=>rfl)) Ab)))))))))))),?_⟩
  obtain ⟨kvs,g1,g2,y1,y2,y3,y4,y5,y6,y7⟩:=h.dp
  obtain ⟨vk,c1,c2⟩:=h.k
  obtain ⟨vb,b1,b2⟩:=h.b
  have gk:=CQ.k (k:=Sum.inr "ranks") g1
  rw [y3] at gk
  have gb:=CQ.k (k:=Sum.inr "boards") g1
  rw [y2] at gb
  have lr:=M.lr
  have lb:=M.lb
  have lk:=c2.length
  have lb2:=b2.length
  have hS:Dh K H A.k vk:=.inl (.inl c1)
  have hT:=A1.hT
  have hl0:=Io A1.ok
  have hlw:r.v.length=r.rest.length+2:=rfl
  refine ⟨_,rfl,A.p,_,rfl,gk,A.k,rfl,⟨_,hS⟩,DY (K:=K) (xs:=vk) (fun _=>true) (Jq H 0) hS (BP (by omega)) (fun y hy Hx hs R kk=>kk Hx (Am.refl Hx)) (fun y hy _ Hx hs R kk=>?_) (fun D1 H1 hD1 s1 l1=>?_)⟩
  ·obtain ⟨b,_,hx'⟩:=Cm c2 hy
   have e:=Dk hx' 0
   obtain ⟨T0,rfl,hT0⟩:=hx'.mono hs
   refine ⟨_,rfl,T0,_,_,_,rfl,rfl,ja hT0,Aj (j:=0) rfl,?_⟩
   have:=kk Hx (Am.refl Hx)
   rw [e] at this
   exact this
  rw [ax.mpr (fun _ _=>rfl),Ig 0 c2] at l1
  generalize eN:(S.rk.map fun a=>(dj a).getD 0 V.non)=N0 at l1
  have hN0:∀ v∈N0,∃ x∈S.rk,v=.str x.1:=fun v hv=>by
   rw [← eN] at hv
   obtain ⟨x,hx,rfl⟩:=aS.mp hv
   exact ⟨x,hx,rfl⟩
  have lN0:N0.length<=12:=by rw [← eN,ag]; exact lr
  refine ⟨by show 1<=sizeLine; decide,fun p2 hp2=>?_⟩
  obtain ⟨H2,eqH,s2,l2⟩:=Bo (o:=HO.lst [V.str "nobodyhe"]) hp2
  rw [eqH]
  refine ⟨D1,p2,_,_,rfl,rfl,s2 _ _ l1,l2,Bl (by simp; omega),fun p3 hp3=>?_⟩
  obtain ⟨H3,eqH,s3,l3⟩:=Bo (o:=HO.lst (N0++[V.str "nobodyhe"])) hp3
  rw [eqH]
  refine ⟨_,rfl,by show 1<=sizeLine; decide,fun p4 hp4=>?_⟩
  obtain ⟨H4,eqH,s4,l4⟩:=Bo (o:=HO.lst [V.str "a"]) hp4
  rw [eqH]
  refine ⟨by show 4<=sizeLine; decide,fun p5 hp5=>?_⟩
  obtain ⟨H5,eqH,s5,l5⟩:=Bo (o:=HO.lst [V.str "",.int 5,.non,.ref p4]) hp5
  rw [eqH]
  refine ⟨p3,p5,_,_,rfl,rfl,s5 _ _ (s4 _ _ l3),l5,Bl (by simp; omega),fun p6 hp6=>?_⟩
  generalize eX:N0++[V.str "nobodyhe"]++[V.str "",.int 5,.non,.ref p4]=X
  obtain ⟨H6,eqH,s6,l6⟩:=Bo (o:=HO.lst X) hp6
  rw [eqH]
  have s46:=s4.trans (s5.trans s6)
  have s06:=s1.trans (s2.trans (s3.trans s46))
  have lX:X.length=(N0++[V.str "nobodyhe"]).length+4:=by rw [← eX,aE (bs:=[V.str "",.int 5,.non,.ref p4])]; rfl
  obtain ⟨nv,hnv,ha⟩:=pick (xs:=X) (c / 5) ((N0++[V.str "nobodyhe"]).length+4) lX (by omega)
  refine ⟨_,rfl,_,_,rfl,rfl,⟨by decide,by decide⟩,_,rfl,p3,_,rfl,ja (.inl (s46 _ _ l3)),_,_,rfl,rfl,_,_,rfl,rfl,?_,p6,_,_,nv,rfl,rfl,ja l6,ha,?_⟩
  ·show (0:Int)<(((N0++[V.str "nobodyhe"]).length:Nat):Int)+4
   omega
  have hX:DK H6 nv/\¬ GD ρ us "board" nv:=by
   rw [← eX] at hnv
   rcases cb.mp hnv with hh | hh
   ·rcases cb.mp hh with hh | hh
    ·obtain ⟨x,hx,rfl⟩:=hN0 nv hh
     exact ⟨.str (M.r x hx).1.tx,My (M.r x hx).2⟩
    ·rw [av.mp hh]
     exact ⟨.str (Ej (by decide +kernel)),My M.nb⟩
   ·simp only [List.mem_cons,List.not_mem_nil,or_false] at hh
    rcases hh with rfl | rfl | rfl | rfl
    ·exact ⟨.str (Ej (by decide +kernel)),Ie (LK (Jf (by decide +kernel)))⟩
    ·exact ⟨.int _,Ie R7⟩
    ·exact ⟨.non,Ie S6⟩
    ·exact ⟨.lst (s6 _ _ (s5 _ _ l4)),Ie Pr⟩
  clear ha hnv
  have hT6:=s06 _ _ hT
  have h0:P0 r.v ((0:Nat):Int)=some (.str r.w):=Aj (j:=0) rfl
  obtain ⟨bb0,hb0,tb0⟩:=M.b0
  have nb0:=M.b bb0 (al hb0)
  have gb6:=CQ.k (k:=Sum.inr "boards") (s06 _ _ g1)
  rw [y2] at gb6
  rcases A1.wd with e | e | e | e | e | e | e
  ·have ok:=A1.two (by rw [e]; decide +kernel)
   have hp:∃ a,PySem.W.nsIn K aP r.w=some (some (.ref a))/\KTup K a ((["new","keys"]:List Str).map V.str):=by rw [e]; exact A1.F.f.pB
   have hl:r.rest.length+1=2:=E_ ok hp
   refine ⟨_,rfl,Ta,_,_,_,rfl,rfl,ja hT6,h0,rfl,_,rfl,Bd (fun z=>absurd ((V.str.inj (of_decide_eq_true z)).symm.trans e) (by decide +kernel)) (fun _=>?_)⟩
   refine ⟨_,rfl,Ta,_,_,_,rfl,rfl,ja hT6,h0,by show 2<=sizeLine; decide,fun q2 hq2=>?_⟩
   obtain ⟨H7,eqH,s7,l7⟩:=Bo (o:=HO.tup [V.str "stop",.str "mute"]) hq2
   rw [eqH]
   refine ⟨q2,_,rfl,.inr (.inl (.inl l7)),rfl,rfl,_,rfl,?_⟩
   have ei:inV (.str r.w) [V.str "stop",.str "mute"]=false:=by rw [e]; decide +kernel
   rw [ei]
   have hT7:=s7 _ _ hT6
   have s07:=s06.trans s7
   refine Cp ?_
   refine ⟨_,rfl,Ta,_,_,_,rfl,rfl,ja hT7,h0,rfl,_,rfl,Bd (fun z=>absurd ((V.str.inj (of_decide_eq_true z)).symm.trans e) (by decide +kernel)) (fun _=>?_)⟩
   refine ⟨_,rfl,Ta,_,_,_,rfl,rfl,ja hT7,h0,rfl,_,rfl,Bd (fun z=>absurd ((V.str.inj (of_decide_eq_true z)).symm.trans e) (by decide +kernel)) (fun _=>?_)⟩
   obtain ⟨vb0,hvb0,hb0'⟩:=B_ b2 hb0
   obtain ⟨T0,rfl,hT0⟩:=hb0'.mono s07
   have gb7:=CQ.k (k:=Sum.inr "boards") (s07 _ _ g1)
   rw [y2] at gb7
   refine ⟨_,rfl,_,rfl,A.p,_,rfl,gb7,A.b,_,_,.ref T0,rfl,rfl,ja (s07 _ _ b1),Aj (j:=0) hvb0,T0,_,_,_,rfl,rfl,ja hT0,Aj (j:=0) rfl,?_⟩
   refine ⟨Ta,r.v,1,.str bb0.1,rfl,hT7,by decide,by omega,by omega,fun D H8 s8 hD=>?_⟩
   exact q D H8 (s07.trans s8) (Qf A1.F (by rw [e]; decide +kernel) ok A1.ah hD nb0.1 tb0)
  ·have ok:=A1.two (by rw [e]; decide +kernel)
   have hp:∃ a,PySem.W.nsIn K aP r.w=some (some (.ref a))/\KTup K a ((["new","pipes","wind"]:List Str).map V.str):=by rw [e]; exact A1.F.pR
   have hl:r.rest.length+1=3:=E_ ok hp
   refine ⟨_,rfl,Ta,_,_,_,rfl,rfl,ja hT6,h0,rfl,_,rfl,Bd (fun z=>absurd ((V.str.inj (of_decide_eq_true z)).symm.trans e) (by decide +kernel)) (fun _=>?_)⟩
   refine ⟨_,rfl,Ta,_,_,_,rfl,rfl,ja hT6,h0,by show 2<=sizeLine; decide,fun q2 hq2=>?_⟩
   obtain ⟨H7,eqH,s7,l7⟩:=Bo (o:=HO.tup [V.str "stop",.str "mute"]) hq2
   rw [eqH]
   refine ⟨q2,_,rfl,.inr (.inl (.inl l7)),rfl,rfl,_,rfl,?_⟩
   have ei:inV (.str r.w) [V.str "stop",.str "mute"]=false:=by rw [e]; decide +kernel
   rw [ei]
   have hT7:=s7 _ _ hT6
   have s07:=s06.trans s7
   refine Cp ?_
   refine ⟨_,rfl,Ta,_,_,_,rfl,rfl,ja hT7,h0,rfl,_,rfl,Bd (fun z=>absurd ((V.str.inj (of_decide_eq_true z)).symm.trans e) (by decide +kernel)) (fun _=>?_)⟩
   refine ⟨_,rfl,Ta,_,_,_,rfl,rfl,ja hT7,h0,rfl,_,rfl,Bd (fun z=>absurd ((V.str.inj (of_decide_eq_true z)).symm.trans e) (by decide +kernel)) (fun _=>?_)⟩
   obtain ⟨vb0,hvb0,hb0'⟩:=B_ b2 hb0
   obtain ⟨T0,rfl,hT0⟩:=hb0'.mono s07
   have gb7:=CQ.k (k:=Sum.inr "boards") (s07 _ _ g1)
   rw [y2] at gb7
   refine ⟨_,rfl,_,rfl,A.p,_,rfl,gb7,A.b,_,_,.ref T0,rfl,rfl,ja (s07 _ _ b1),Aj (j:=0) hvb0,T0,_,_,_,rfl,rfl,ja hT0,Aj (j:=0) rfl,?_⟩
   refine ⟨Ta,r.v,1,.str bb0.1,rfl,hT7,by decide,by omega,by omega,fun D H8 s8 hD=>?_⟩
   exact q D H8 (s07.trans s8) (Qf A1.F (by rw [e]; decide +kernel) ok A1.ah hD nb0.1 tb0)
  ·have ok:=A1.two (by rw [e]; decide +kernel)
   have hp:∃ a,PySem.W.nsIn K aP r.w=some (some (.ref a))/\KTup K a ((["new","board"]:List Str).map V.str):=by rw [e]; exact A1.F.f.pS
   have hl:r.rest.length+1=2:=E_ ok hp
   refine ⟨_,rfl,Ta,_,_,_,rfl,rfl,ja hT6,h0,rfl,_,rfl,Bd (fun z=>absurd ((V.str.inj (of_decide_eq_true z)).symm.trans e) (by decide +kernel)) (fun _=>?_)⟩
   refine ⟨_,rfl,Ta,_,_,_,rfl,rfl,ja hT6,h0,by show 2<=sizeLine; decide,fun q2 hq2=>?_⟩
   obtain ⟨H7,eqH,s7,l7⟩:=Bo (o:=HO.tup [V.str "stop",.str "mute"]) hq2
   rw [eqH]
   refine ⟨q2,_,rfl,.inr (.inl (.inl l7)),rfl,rfl,_,rfl,?_⟩
   have ei:inV (.str r.w) [V.str "stop",.str "mute"]=true:=by rw [e]; decide +kernel
   rw [ei]
   have hT7:=s7 _ _ hT6
   have s07:=s06.trans s7
   refine Dg ?_
   refine ⟨_,rfl,_,rfl,Ta,r.v,2,nv,rfl,hT7,by decide,by omega,by omega,fun D H8 s8 hD=>?_⟩
   exact q D H8 (s07.trans s8) (Mf (k:=1) A1.F ok A1.ah hp rfl hD ((hX.1.mono s7).mono s8) hX.2)
  ·have ok:=A1.two (by rw [e]; decide +kernel)
   have hp:∃ a,PySem.W.nsIn K aP r.w=some (some (.ref a))/\KTup K a ((["new","board","board","leap"]:List Str).map V.str):=by rw [e]; exact A1.F.f.pC
   have hl:r.rest.length+1=4:=E_ ok hp
   refine ⟨_,rfl,Ta,_,_,_,rfl,rfl,ja hT6,h0,rfl,_,rfl,Bd (fun z=>absurd ((V.str.inj (of_decide_eq_true z)).symm.trans e) (by decide +kernel)) (fun _=>?_)⟩
   refine ⟨_,rfl,Ta,_,_,_,rfl,rfl,ja hT6,h0,by show 2<=sizeLine; decide,fun q2 hq2=>?_⟩
   obtain ⟨H7,eqH,s7,l7⟩:=Bo (o:=HO.tup [V.str "stop",.str "mute"]) hq2
   rw [eqH]
   refine ⟨q2,_,rfl,.inr (.inl (.inl l7)),rfl,rfl,_,rfl,?_⟩
   have ei:inV (.str r.w) [V.str "stop",.str "mute"]=false:=by rw [e]; decide +kernel
   rw [ei]
   have hT7:=s7 _ _ hT6
   have s07:=s06.trans s7
   refine Cp ?_
   refine ⟨_,rfl,Ta,_,_,_,rfl,rfl,ja hT7,h0,rfl,_,rfl,Bd (fun _=>?_) (fun z=>absurd (decide_eq_true (congrArg V.str e)) z)⟩
   have m0:c / 3 % 2=0 \/ c / 3 % 2=1:=by omega
   refine ⟨_,rfl,_,rfl,_,_,rfl,rfl,⟨by decide,by decide⟩,_,_,rfl,rfl,(by show (0:Int)<2; decide),_,_,rfl,rfl,_,rfl,?_⟩
   rcases m0 with em | em
   ·rw [em]
    refine ⟨Ta,r.v,2,nv,rfl,hT7,by decide,by omega,by omega,fun D H8 s8 hD=>?_⟩
    exact q D H8 (s07.trans s8) (Mf (k:=1) A1.F ok A1.ah hp rfl hD ((hX.1.mono s7).mono s8) hX.2)
   ·rw [em]
    refine ⟨Ta,r.v,3,nv,rfl,hT7,by decide,by omega,by omega,fun D H8 s8 hD=>?_⟩
    exact q D H8 (s07.trans s8) (Mf (k:=2) A1.F ok A1.ah hp rfl hD ((hX.1.mono s7).mono s8) hX.2)
  ·have ok:=A1.two (by rw [e]; decide +kernel)
   have hp:∃ a,PySem.W.nsIn K aP r.w=some (some (.ref a))/\KTup K a ((["new","board"]:List Str).map V.str):=by rw [e]; exact A1.F.f.pM
   have hl:r.rest.length+1=2:=E_ ok hp
   refine ⟨_,rfl,Ta,_,_,_,rfl,rfl,ja hT6,h0,rfl,_,rfl,Bd (fun z=>absurd ((V.str.inj (of_decide_eq_true z)).symm.trans e) (by decide +kernel)) (fun _=>?_)⟩
   refine ⟨_,rfl,Ta,_,_,_,rfl,rfl,ja hT6,h0,by show 2<=sizeLine; decide,fun q2 hq2=>?_⟩
   obtain ⟨H7,eqH,s7,l7⟩:=Bo (o:=HO.tup [V.str "stop",.str "mute"]) hq2
   rw [eqH]
   refine ⟨q2,_,rfl,.inr (.inl (.inl l7)),rfl,rfl,_,rfl,?_⟩
   have ei:inV (.str r.w) [V.str "stop",.str "mute"]=true:=by rw [e]; decide +kernel
   rw [ei]
   have hT7:=s7 _ _ hT6
   have s07:=s06.trans s7
   refine Dg ?_
   refine ⟨_,rfl,_,rfl,Ta,r.v,2,nv,rfl,hT7,by decide,by omega,by omega,fun D H8 s8 hD=>?_⟩
   exact q D H8 (s07.trans s8) (Mf (k:=1) A1.F ok A1.ah hp rfl hD ((hX.1.mono s7).mono s8) hX.2)
  ·have ok:=A1.two (by rw [e]; decide +kernel)
   have hp:∃ a,PySem.W.nsIn K aP r.w=some (some (.ref a))/\KTup K a ((["rank","shift","low","high"]:List Str).map V.str):=by rw [e]; exact A1.F.pL
   have hl:r.rest.length+1=4:=E_ ok hp
   refine ⟨_,rfl,Ta,_,_,_,rfl,rfl,ja hT6,h0,rfl,_,rfl,Bd (fun _=>?_) (fun z=>absurd (decide_eq_true (congrArg V.str e)) z)⟩
   obtain ⟨cnt,v0,sh,lo2,hi,bd,rs,er,hcn,h4,hv0,hw0,hr0,hle,hk0⟩:=(ok.line e).ex
   have ev:r.v=[.str "line",.str r.nm,.int sh,.int lo2,.int hi]:=by show V.str r.w::V.str r.nm::r.rest=_; rw [e,er]
   have hSb:Dh K H6 A.b vb:=.inl (.inl (s06 _ _ b1))
   refine ⟨_,rfl,_,rfl,A.p,_,rfl,gb6,A.b,rfl,⟨_,hSb⟩,DY (K:=K) (xs:=vb) (fun _=>true) (Jq H 0) hSb (BP (by omega)) (fun y hy Hx hs R kk=>kk Hx (Am.refl Hx)) (fun y hy _ Hx hs R kk=>?_) (fun D7 H7 hD7 s7 l7=>?_)⟩
   ·obtain ⟨b,_,hx'⟩:=Cm b2 hy
    have e:=Dk hx' 0
    obtain ⟨T0,rfl,hT0⟩:=(hx'.mono s06).mono hs
    refine ⟨_,rfl,T0,_,_,_,rfl,rfl,ja hT0,Aj (j:=0) rfl,?_⟩
    have:=kk Hx (Am.refl Hx)
    rw [e] at this
    exact this
   rw [ax.mpr (fun _ _=>rfl),Ig 0 b2] at l7
   have gb7:=CQ.k (k:=Sum.inr "boards") (s7 _ _ (s06 _ _ g1))
   rw [y2] at gb7
   have lbp:0<S.bs.length:=(af.mp hb0).1
   obtain ⟨nv2,hnv2,ha2⟩:=pick (xs:=S.bs.map fun a=>(bV a).getD 0 V.non) (c / 5) vb.length (by rw [ag]; exact lb2) (by omega)
   refine ⟨_,rfl,_,_,rfl,rfl,⟨by decide,by decide⟩,_,rfl,A.p,_,rfl,gb7,A.b,_,rfl,.inl (ja (s7 _ _ (s06 _ _ b1))),_,_,rfl,rfl,?_,D7,_,_,nv2,rfl,rfl,ja l7,ha2,?_⟩
   ·show (0:Int)<((vb.length:Nat):Int)
    omega
   obtain ⟨x,hx,rfl⟩:=aS.mp hnv2
   refine ⟨Ta,r.v,1,.str x.1,rfl,s7 _ _ hT6,by decide,by omega,by omega,fun D H8 s8 hD=>?_⟩
   rw [ev] at hD
   refine q D H8 (s06.trans (s7.trans s8)) (Ij A1.F A1.ah hD (fun x2 hx2=>?_) ⟨cnt,hcn⟩ fun sh2 lo3 hi2 _ _ _ ht _ _ _ _ _ _ _=>My (M.b x hx).2.1 ht)
   simp only [List.mem_cons,List.not_mem_nil,or_false] at hx2
   rcases hx2 with rfl | rfl | rfl | rfl
   ·exact .str (M.b x hx).1.tx
   ·exact .int _
   ·exact .int _
   ·exact .int _
  ·refine ⟨_,rfl,Ta,_,_,_,rfl,rfl,ja hT6,h0,rfl,_,rfl,Bd (fun z=>absurd ((V.str.inj (of_decide_eq_true z)).symm.trans e) (by decide +kernel)) (fun _=>?_)⟩
   refine ⟨_,rfl,Ta,_,_,_,rfl,rfl,ja hT6,h0,by show 2<=sizeLine; decide,fun q2 hq2=>?_⟩
   obtain ⟨H7,eqH,s7,l7⟩:=Bo (o:=HO.tup [V.str "stop",.str "mute"]) hq2
   rw [eqH]
   refine ⟨q2,_,rfl,.inr (.inl (.inl l7)),rfl,rfl,_,rfl,?_⟩
   have ei:inV (.str r.w) [V.str "stop",.str "mute"]=false:=by rw [e]; decide +kernel
   rw [ei]
   have hT7:=s7 _ _ hT6
   have s07:=s06.trans s7
   refine Cp ?_
   refine ⟨_,rfl,Ta,_,_,_,rfl,rfl,ja hT7,h0,rfl,_,rfl,Bd (fun z=>absurd ((V.str.inj (of_decide_eq_true z)).symm.trans e) (by decide +kernel)) (fun _=>?_)⟩
   refine ⟨_,rfl,Ta,_,_,_,rfl,rfl,ja hT7,h0,rfl,_,rfl,Bd (fun _=>?_) (fun z=>absurd (decide_eq_true (congrArg V.str e)) z)⟩
   obtain ⟨vb0,hvb0,hb0'⟩:=B_ b2 hb0
   obtain ⟨T0,rfl,hT0⟩:=hb0'.mono s07
   have gb7:=CQ.k (k:=Sum.inr "boards") (s07 _ _ g1)
   rw [y2] at gb7
   refine ⟨_,rfl,_,rfl,Ta,_,_,_,rfl,rfl,ja hT7,Aj (j:=1) rfl,_,rfl,A.p,_,rfl,gb7,A.b,_,_,.ref T0,rfl,rfl,ja (s07 _ _ b1),Aj (j:=0) hvb0,T0,_,_,_,rfl,rfl,ja hT0,Aj (j:=0) rfl,by show 5<=sizeLine; decide,fun p8 hp8=>?_⟩
   generalize eY:[V.str r.nm,.str bb0.1,.str "nobodyhe",.int 7,.non]=Y
   obtain ⟨H8,eqH,s8,l8⟩:=Bo (o:=HO.lst Y) hp8
   rw [eqH]
   have hY:∀ v∈Y,DK H8 v/\∀ t,v=.str t->t∈JZ r \/ ¬ (isNm t/\Hi ρ us "stop" t=true):=fun v hv=>by
    rw [← eY] at hv
    simp only [List.mem_cons,List.not_mem_nil,or_false] at hv
    rcases hv with rfl | rfl | rfl | rfl | rfl
    ·exact ⟨HW A1.ok _ bv,fun t z=>.inl (by cases z; exact bv)⟩
    ·exact ⟨.str nb0.1.tx,fun t z=>.inr fun g=>by cases z; rw [nb0.2.2] at g; exact nomatch g.2⟩
    ·exact ⟨.str (Ej (by decide +kernel)),fun t z=>.inr fun g=>by cases z; rw [M.ns] at g; exact nomatch g.2⟩
    ·exact ⟨.int _,fun t z=>nomatch z⟩
    ·exact ⟨.non,fun t z=>nomatch z⟩
   obtain ⟨x,hx,ha2⟩:=pick (xs:=Y) (c / 5) 5 (by rw [← eY]; rfl) (by decide)
   refine ⟨_,rfl,_,_,rfl,rfl,⟨by decide,by decide⟩,_,_,rfl,rfl,(by show (0:Int)<5; decide),p8,_,_,x,rfl,rfl,ja l8,ha2,by show 1<=sizeLine; decide,fun p9 hp9=>?_⟩
   obtain ⟨H9,eqH,s9,l9⟩:=Bo (o:=HO.tup [x]) hp9
   rw [eqH]
   refine ⟨Ta,p9,r.v,[x],rfl,rfl,ja (s9 _ _ (s8 _ _ hT7)),ja l9,(fun z=>nomatch z),Bl (by rw [hlw]; simp at hl0 ⊢; omega),(fun z=>nomatch z),fun _ D hD=>?_⟩
   have s10:=Av (o:=HO.tup (r.v++[x])) hD
   exact q D _ (s07.trans (s8.trans (s9.trans s10))) (G4 A1.ok A1.ah Af ((hY x hx).1.mono (s9.trans s10)) fun _=>(hY x hx).2)
theorem m_ {K:PySem.W.Frag}:PySem.W.kitOne K (.type "NoneType") (.type "tuple")=some false:=by kernel_rfl
theorem mz {K:PySem.W.Frag}:PySem.W.kitOne K (.type "list") (.type "tuple")=some false:=by kernel_rfl
theorem mG {K:PySem.W.Frag}:PySem.W.kitOne K (.type "str") (.type "tuple")=some false:=by kernel_rfl
theorem nC {K:PySem.W.Frag}:PySem.W.kitOne K (.type "int") (.type "tuple")=some false:=by kernel_rfl
theorem m6 {K:PySem.W.Frag}:PySem.W.kitOne K (.type "bool") (.type "tuple")=some false:=by kernel_rfl
theorem mV {K:PySem.W.Frag}:PySem.W.kitOne K (.type "dict") (.type "tuple")=some false:=by kernel_rfl
structure KW (K:PySem.W.Frag) (aP:Addr):Prop where
 w1:PySem.W.nsIn K aP "Board" = some none
 w2:PySem.W.nsIn K aP "bell" = some none
 w3:PySem.W.nsIn K aP "" = some none
theorem KZ {K:PySem.W.Frag} {aB aP aM:Addr} {H:Hp} {ρ:V->R} {us:List V} {D:Addr} {w:Str} {xs:List V} (ah:GX ρ us) (hD:H D=some (.tup (.str w::xs))) (hn:PySem.W.nsIn K aP w=some none) (h1:¬ w = "step") (h2:¬ w = "line") (hx:xs.length<=100) (od:∀ x∈xs,DK H x):Eo K aB aP aM H ρ us (.ref D) false:=by
 refine .bad (pk:=none) hD ⟨hx,od,(fun _ e=>nomatch e),(fun _ _ e=>nomatch e),fun _=>.inl ⟨rfl,hn,h2⟩⟩ ah ?_
 rintro (⟨e,_⟩ | ⟨_,ps,e,_⟩)
 ·exact h1 e
 ·cases e
theorem Su {Q:Bool->Hp->Prop} {b:Bool} {H:Hp} (qt:Q true H) (qf:Q false H):Q b H:=by
 cases b
 ·exact qf
 ·exact qt
theorem YD {c:TT} {t u:TS} {D:Ends} {σ:St} {H:Hp} (hc:∀ Q:Bool->Hp->Prop,Q true H->Q false H->c σ H Q) (ht:t { D with nx:=u D } σ H) (hu:u D σ H):Vg (Uk c t Ud) u D σ H :=
 Q4 (fun _ H2=>H2=H) (fun Q a b=>hc Q (a H rfl) (b H rfl)) (fun _ e=>by rw [e]; exact ht) (fun _ e=>by rw [e]; exact hu)
noncomputable def Zf (K:PySem.W.Frag) (aB aP aM:Addr):Sp:=fun vs H Q _=>∃ (H0:Hp) (A:Kq) (S:Pl) (Cs:List Addr) (lo:V) (T:Addr) (r:R) (vr:List V) (ρ:V->R) (k:Nat) (c:Int),vs=[.ref A.p,.int (k:Nat),.int c]/\Bk H0 H A S Cs lo/\H A.r=some (.lst vr)/\vr[k]? = some (.ref T)/\Rows H ρ (vr.take k)/\Mr K aB aP aM H ρ (vr.take k) r T/\(0<k->Xe ρ (vr.take k) S)/\S.rk.length<=12/\(∀ x∈S.rk,isNm x.1)/\KW K aP/\∀ v H',Am H H'->Eo K aB aP aM H' ρ (vr.take k) v false->Q v H'
theorem V6:BX ["_law_plan_here","_law_place","_law_cell","_law_row_here","_law_way","_law_some"] ["_law_plan_here","_law_place","_law_cell"] (Ai fJ):=Cj
include N T in
theorem dD:BW P w K mg base Br 3 aD.fBr aD.dBr ["_law_plan_here","_law_place","_law_cell"] (Zf K aB aP aM):=by
 refine N.FBr.1.ok V6 (fun vs H Q E h=>?_) (fun cdv A outer s H vs Q E hr h=>?_)
 ·obtain ⟨H0,A,S,Cs,lo,Ta,r,vr,ρ,k,c,rfl,_⟩:=h
  rfl
 ·obtain ⟨H0,A,S,Cs,lo,Ta,r,vr,ρ,k,c,rfl,h,hvr,hk,hR,A1,M,lr,nR,W,q⟩:=h
  have hu:=FJ hr
  refine ⟨_,(@Ae _ _ _ _ _ (@CJ _ _ _ _ _ _ 3 V6.nd rfl (Or.inl rfl) (@BK _ _ _ _ _ _ _ (Ei (K:=K) rfl) (Ba hu (pv 0) Al (fun _ _=>rfl)) (pv 1) (fun _ _=>rfl)) rfl (Or.inl rfl)) (@Ae _ _ _ _ _ (@CJ _ _ _ _ _ _ 4 V6.nd rfl (Or.inl rfl) (Aw Bs (pv 2) Ac) rfl (Or.inl rfl)) (@Ae _ _ _ _ _ (@CJ _ _ _ _ _ _ 5 V6.nd rfl (Or.inl rfl) (Aw CP (pv 2) Ac) rfl (Or.inl rfl)) (@Ae _ _ _ _ _ (@Bf _ _ _ _ _ _ _ _ (A_ Bw (pv 4) Ac (BV _)) (@Ag _ _ _ (@Ax _ _ _ _ (@BK _ _ _ _ _ _ _ Bt (@Bh _ _ _ _ (@Ar _ _ _ _ _ rfl DX (@Ar _ _ _ _ _ rfl (Dw FT rfl T.list dv (@Ar _ _ _ _ _ rfl (pv 3) Ab)) (@Ar _ _ _ _ _ rfl Al (@Ar _ _ _ _ _ rfl Ac (@Ar _ _ _ _ _ rfl (@Bv _ _ _ _ _ Ab) (@Ar _ _ _ _ _ rfl Ek (@Ar _ _ _ _ _ rfl (@Bv _ _ _ _ _ (@Ar _ _ _ _ _ rfl (@BK _ _ _ _ _ _ _ (Ay (K:=K) rfl) (pv 3) Ac (fun _ _=>rfl)) Ab)) (@Ar _ _ _ _ _ rfl (@Ql _ _ _ _ _ (@Ex _ _ _ _ _ _ _ _ _ (@BK _ _ _ _ _ _ _ (Ay (K:=K) rfl) (pv 3) Ac (fun _ _=>rfl)) Ac QR) rfl rfl (by intro h; cases h) (by decide)) Ab))))))))) (Aw Bs (pv 5) Ac) (fun _ _=>rfl)))) BR) (@Ae _ _ _ _ _ (@Bf _ _ _ _ _ _ _ _ (A_ Bw (pv 4) Ac (BV _)) (@Ag _ _ _ (@Ax _ _ _ _ (Aw HS (@Bv _ _ _ _ _ (@Ar _ _ _ _ _ rfl (@BK _ _ _ _ _ _ _ Bt (@Bh _ _ _ _ (@Ar _ _ _ _ _ rfl Al (@Ar _ _ _ _ _ rfl Al (@Ar _ _ _ _ _ rfl Al (@Ar _ _ _ _ _ rfl Ac (@Ar _ _ _ _ _ rfl DX (@Ar _ _ _ _ _ rfl (@Bv _ _ _ _ _ (@Ar _ _ _ _ _ rfl Al Ab)) Ab))))))) (Aw Bs (pv 5) Ac) (fun _ _=>rfl)) Ab)) (Cr Gi (pv 3) (DG Ac) Dv)))) BR) (@Ae _ _ _ _ _ (@Bf _ _ _ _ _ _ _ _ (A_ Bw (pv 4) Ac (BV _)) (@Ag _ _ _ (@Ax _ _ _ _ (Aw HS (pv 3) (@Bv _ _ _ _ _ (@Ar _ _ _ _ _ rfl (Aw Bs (pv 5) Ac) Ab))))) BR) (@Ae _ _ _ _ _ (@Bf _ _ _ _ _ _ _ _ (PW.pt (Eg (A_ Bw (pv 4) Ac (BV _)) (Ea (A_ Ku (@BK _ _ _ _ _ _ _ (Ay (K:=K) rfl) (pv 3) Ac (fun _ _=>rfl)) Al (BV _))))) (@Ag _ _ _ (@Ax _ _ _ _ (Cr Gi (pv 3) Dv (DG (Ld JQ Ac))))) BR) (@Ae _ _ _ _ _ (@Bf _ _ _ _ _ _ _ _ (PW.pt (Eg (A_ FP (pv 4) Ac (BV _)) (Ea (A_ Fb (@BK _ _ _ _ _ _ _ (Ay (K:=K) rfl) (pv 3) Ac (fun _ _=>rfl)) (@Bv _ _ _ _ _ (@Ar _ _ _ _ _ rfl Al (@Ar _ _ _ _ _ rfl Al Ab))) rfl)))) (@Ag _ _ _ (@Ax _ _ _ _ (Ah (U6 N T) (ad hr) rfl N.FPu.2.2 N.FPu.1.kp N.FPu.2.1 .nil BJ (@Ar _ _ _ _ _ rfl (pv 3) (@Ar _ _ _ _ _ rfl Ac (@Ar _ _ _ _ _ rfl (Ah (ZZ N T) (ad hr) rfl N.FOn.2.2 N.FOn.1.kp N.FOn.2.1 .nil BJ (@Ar _ _ _ _ _ rfl (pv 5) Ab)) Ab)))))) BR) (@Ae _ _ _ _ _ (@Bf _ _ _ _ _ _ _ _ (PW.pt (Eg (A_ Bw (pv 4) Ac (BV _)) (Ea (A_ Ug (pv 1) Ac (BV _))))) (@Ag _ _ _ (@Ax _ _ _ _ (Ah (ZR N T) (ad hr) rfl N.FBm.2.2 N.FBm.1.kp N.FBm.2.1 .nil BJ (@Ar _ _ _ _ _ rfl (pv 0) (@Ar _ _ _ _ _ rfl (pv 3) (@Ar _ _ _ _ _ rfl (pv 5) Ab)))))) BR) (@Ae _ _ _ _ _ (@Bf _ _ _ _ _ _ _ _ (PW.pt (Eg (A_ Bw (pv 4) Ac (BV _)) (Eg (A_ Ug (pv 1) Ac (BV _)) (Ea (A_ Fb (@BK _ _ _ _ _ _ _ (Ay (K:=K) rfl) (@BK _ _ _ _ _ _ _ (Ei (K:=K) rfl) (Ba hu (pv 0) Al (fun _ _=>rfl)) (Aw Dc (pv 1) Ac) (fun _ _=>rfl)) Ac (fun _ _=>rfl)) (@Bv _ _ _ _ _ (@Ar _ _ _ _ _ rfl Al (@Ar _ _ _ _ _ rfl Al Ab))) rfl))))) (@Ag _ _ _ (@Ax _ _ _ _ (@Bv _ _ _ _ _ (@Ar _ _ _ _ _ rfl Al (@Ar _ _ _ _ _ rfl (@BK _ _ _ _ _ _ _ Bt (Aw Eu (Bx rfl (Bg (osc:=Ai fJ) (N:=["_law_plan_here","_law_place","_law_cell","_law_row_here","_law_way","_law_some"]) rfl rfl (by decide +kernel)) (CN (Ba hu (pv 0) Al (fun _ _=>rfl))) (fun _ _ _ _=>Ce) (fun _ _ _ _=>(@BK _ _ _ _ _ _ _ (Ay (K:=K) rfl) (pv 0) Ac (fun _ _=>rfl)))) (@Bh _ _ _ _ (@Ar _ _ _ _ _ rfl Al Ab))) Ac (fun _ _=>rfl)) (@Ar _ _ _ _ _ rfl Ac (@Ar _ _ _ _ _ rfl Ac (@Ar _ _ _ _ _ rfl Ac Ab)))))))) BR) (@Ag _ _ _ (@Ax _ _ _ _ (Ah (bD N T) (ad hr) rfl N.FBn.2.2 N.FBn.1.kp N.FBn.2.1 .nil BJ (@Ar _ _ _ _ _ rfl (pv 0) (@Ar _ _ _ _ _ rfl (pv 3) (@Ar _ _ _ _ _ rfl (pv 5) Ab)))))))))))))))),?_⟩
  obtain ⟨kvs,g1,g2,y1,y2,y3,y4,y5,y6,y7⟩:=h.dp
  have gr:=CQ.k (k:=Sum.inr "rows") g1
  rw [y1] at gr
  have hT:=A1.hT
  have hl0:=Io A1.ok
  have hlw:r.v.length=r.rest.length+2:=rfl
  have hl1:r.rest.length+1<=24:=hl0
  have h0:P0 r.v ((0:Nat):Int)=some (.str r.w):=Aj (j:=0) rfl
  refine ⟨_,rfl,A.p,_,rfl,gr,_,rfl,A.r,_,_,.ref Ta,rfl,rfl,ja hvr,Aj hk,?_⟩
  refine ⟨_,rfl,_,_,rfl,rfl,(by show (0:Int)<8; decide),?_⟩
  refine ⟨_,rfl,_,_,rfl,rfl,⟨by decide,by decide⟩,?_⟩
  dsimp only [Df]
  have w0:0<=c % 8:=dn _ (by decide)
  have w1:c % 8<8:=df _ (by decide)
  refine YD (fun Q' qt qf=>⟨_,rfl,rfl,_,rfl,Su qt qf⟩) ?_ ?_
  ·refine ⟨_,rfl,Ta,r.v,rfl,.inr (.inl (.inl hT)),fun L hL=>?_⟩
   obtain ⟨H1,eqH,s1,l1⟩:=Bo (o:=HO.lst r.v) hL
   rw [eqH]
   refine ⟨by show 0<=sizeLine; decide,fun p2 hp2=>?_⟩
   obtain ⟨H2,eqH,s2,l2⟩:=Bo (o:=HO.tup []) hp2
   rw [eqH]
   refine ⟨_,rfl,Ta,_,_,_,rfl,rfl,ja (s2 _ _ (s1 _ _ hT)),h0,by show 1<=sizeLine; decide,fun p3 hp3=>?_⟩
   obtain ⟨H3,eqH,s3,l3⟩:=Bo (o:=HO.tup [V.str r.w]) hp3
   rw [eqH]
   have s03:=s1.trans (s2.trans s3)
   intro p4 hp4
   have s4:=Av (o:=HO.dK []) hp4
   refine ⟨_,rfl,Ta,_,_,_,rfl,rfl,ja (s4 _ _ (s03 _ _ hT)),h0,Af,[(Sum.inr r.w,.int 1)],rfl,by show 1<=15; decide,?_⟩
   generalize eH:upd (upd H3 p4 _) p4 _=H4
   have s5:Am H3 H4:=by
    rw [← eH]
    intro b o e
    rw [Aq (Ao e hp4),Aq (Ao e hp4)]
    exact e
   have l4:∃ kvs,H4 p4=some (.dK kvs):=by rw [← eH]; exact ⟨_,Af⟩
   clear eH s4
   refine ⟨by show 8<=sizeLine; decide,fun p5 hp5=>?_⟩
   generalize eX:[V.non,.ref L,.str "board",.int 5,.ref p2,.bl true,.ref p3,.ref p4]=X
   obtain ⟨H5,eqH,s6,l5⟩:=Bo (o:=HO.lst X) hp5
   rw [eqH]
   have s36:=s5.trans s6
   have s06:=s03.trans s36
   have hX:∀ v∈X,Eo K aB aP aM H5 ρ (vr.take k) v false:=fun v hv=>by
    rw [← eX] at hv
    simp only [List.mem_cons,List.not_mem_nil,or_false] at hv
    rcases hv with rfl | rfl | rfl | rfl | rfl | rfl | rfl | rfl
    ·exact .kind .non m_
    ·exact .kind (.lst (s36 _ _ (s3 _ _ (s2 _ _ l1)))) mz
    ·exact .kind (.str _) mG
    ·exact .kind (.int _) nC
    ·exact .nil (s36 _ _ (s3 _ _ l2))
    ·exact .kind (.bl _) m6
    ·rcases A1.ok with ok | ok
     ·exact Lq ok A1.ah (s36 _ _ l3) (by simp) (fun x hx=>nomatch hx) (by simp)
     ·exact Ni ok A1.ah (s36 _ _ l3) (by simp) (fun x hx=>nomatch hx) (fun z=>z.1 rfl)
    ·obtain ⟨kvs,l4⟩:=l4
     exact .kind (.dK (s6 _ _ l4)) mV
   obtain ⟨x,hx,ha⟩:=pick (xs:=X) (c / 8) 8 (by rw [← eX]; rfl) (by decide)
   refine ⟨_,rfl,_,_,rfl,rfl,(by show (0:Int)<8; decide),p5,_,_,x,rfl,rfl,ja l5,ha,?_⟩
   exact q x H5 s06 (hX x hx)
  refine YD (fun Q' qt qf=>⟨_,rfl,rfl,_,rfl,Su qt qf⟩) ?_ ?_
  ·refine ⟨by show 1<=sizeLine; decide,fun p1 hp1=>?_⟩
   obtain ⟨H1,eqH,s1,l1⟩:=Bo (o:=HO.tup [V.str "board"]) hp1
   rw [eqH]
   refine ⟨by show 6<=sizeLine; decide,fun p2 hp2=>?_⟩
   generalize eX:[V.str "Board",.str "bell",.str "",.int 3,.non,.ref p1]=X
   obtain ⟨H2,eqH,s2,l2⟩:=Bo (o:=HO.lst X) hp2
   rw [eqH]
   obtain ⟨x,hx,ha⟩:=pick (xs:=X) (c / 8) 6 (by rw [← eX]; rfl) (by decide)
   refine ⟨_,rfl,_,_,rfl,rfl,(by show (0:Int)<6; decide),p2,_,_,x,rfl,rfl,ja l2,ha,by show 1<=sizeLine; decide,fun p3 hp3=>?_⟩
   obtain ⟨H3,eqH,s3,l3⟩:=Bo (o:=HO.tup [x]) hp3
   rw [eqH]
   have s03:=s1.trans (s2.trans s3)
   have c2:Cv r.v (some (1:Int)) none=V.str r.nm::r.rest:=Jg (k:=1)
   refine ⟨_,rfl,_,rfl,Ta,r.v,rfl,ja (s03 _ _ hT),(fun z=>?_),fun p4 hp4=>?_⟩
   ·have z1:=z.1
    rw [show (1:Int)=((1:Nat):Int) from rfl,HT.DR] at z1
    omega
   rw [c2]
   obtain ⟨H4,eqH,s4,l4⟩:=Bo (o:=HO.tup (V.str r.nm::r.rest)) hp4
   rw [eqH]
   refine ⟨p3,p4,[x],_,rfl,rfl,ja (s4 _ _ l3),ja l4,(fun z=>nomatch z),Bl (by simp at hl0 ⊢; omega),(fun z=>nomatch z),fun _ D hD=>?_⟩
   have s5:=Av (o:=HO.tup (x::V.str r.nm::r.rest)) hD
   have l5:upd H4 D (HO.tup (x::V.str r.nm::r.rest)) D=some (.tup (x::V.str r.nm::r.rest)):=Af
   show Q (.ref D) (upd H4 D (HO.tup (x::V.str r.nm::r.rest)))
   generalize upd H4 D (HO.tup (x::V.str r.nm::r.rest))=H5 at s5 l5 ⊢
   have s15:=s2.trans (s3.trans (s4.trans s5))
   refine q _ H5 (s1.trans s15) ?_
   have od:∀ y∈V.str r.nm::r.rest,DK H5 y:=HW A1.ok
   rw [← eX] at hx
   simp only [List.mem_cons,List.not_mem_nil,or_false] at hx
   rcases hx with rfl | rfl | rfl | rfl | rfl | rfl
   ·exact KZ A1.ah l5 W.w1 (by decide +kernel) (by decide +kernel) (by omega) od
   ·exact KZ A1.ah l5 W.w2 (by decide +kernel) (by decide +kernel) (by omega) od
   ·exact KZ A1.ah l5 W.w3 (by decide +kernel) (by decide +kernel) (by omega) od
   ·exact .odd l5 (.int _) rfl
   ·exact .odd l5 .non rfl
   ·exact .odd l5 (.tup (s15 _ _ l1)) rfl
  refine YD (fun Q' qt qf=>⟨_,rfl,rfl,_,rfl,Su qt qf⟩) ?_ ?_
  ·refine ⟨_,rfl,_,rfl,_,_,rfl,rfl,(by show (0:Int)<5; decide),by show 1<=sizeLine; decide,fun p1 hp1=>?_⟩
   generalize eH:upd H p1 _=H1
   have s1:Am H H1:=by rw [← eH]; exact Av hp1
   have l1:H1 p1=some (.tup [V.int (c / 8 % 5)]):=by rw [← eH]; exact Af
   clear eH
   refine ⟨Ta,p1,r.v,[.int (c / 8 % 5)],rfl,rfl,ja (s1 _ _ hT),ja l1,(fun z=>nomatch z),Bl (by rw [hlw]; simp at hl0 ⊢; omega),(fun z=>nomatch z),fun _ D hD=>?_⟩
   have s2:=Av (o:=HO.tup (r.v++[V.int (c / 8 % 5)])) hD
   exact q _ _ (s1.trans s2) (G4 A1.ok A1.ah Af (.int _) fun _ t z=>nomatch z)
  refine Q4 (fun b H2=>Am H H2/\(b=true->¬ r.w = "step")) (fun Q' qt qf=>?_) (fun H2 hC=>?_) (fun H2 hC=>?_)
  ·refine ⟨_,rfl,rfl,_,rfl,Bd (fun _=>?_) (fun _=>qf _ ⟨Am.refl _,fun z=>nomatch z⟩)⟩
   refine ⟨_,rfl,Ta,_,_,_,rfl,rfl,ja hT,h0,rfl,_,rfl,?_⟩
   by_cases hw:r.w = "step"
   ·rw [hw]
    exact qf _ ⟨Am.refl _,fun z=>nomatch z⟩
   ·have e3:decide (V.str r.w=V.str "step")=false:=decide_eq_false fun z=>hw (V.str.inj z)
    rw [e3]
    exact qt _ ⟨Am.refl _,fun _=>hw⟩
  ·have s1:=hC.1
   have ok:=A1.two (hC.2 rfl)
   clear hC
   have hT1:=s1 _ _ hT
   have em:HT.Du r.v.length r.v.length (some (-1))=r.v.length - 1:=by
    show (if (-1:Int)<0 then ((-1:Int)+(r.v.length:Int)).toNat else min (-1:Int).toNat r.v.length)=_
    rw [if_pos (by decide)]
    omega
   have ec:Cv r.v none (some (-1))=.str r.w::(V.str r.nm::r.rest).take r.rest.length:=by
    unfold Cv
    rw [em,HT.Ew]
    show (r.v.drop 0).take (r.rest.length+2 - 1 - 0)=_
    rfl
   refine ⟨_,rfl,_,rfl,_,rfl,Ta,r.v,rfl,ja hT1,(fun z=>?_),fun D hD=>?_⟩
   ·have z1:=z.2
    rw [em] at z1
    omega
   rw [ec]
   have s2:=Av (o:=HO.tup (.str r.w::(V.str r.nm::r.rest).take r.rest.length)) hD
   exact q _ _ (s1.trans s2) (Lq ok A1.ah Af (by rw [bq]; omega) (fun x hx=>HW A1.ok x (ck hx)) (by rw [bq,aI]; omega))
  have s3:=hC.1
  clear hC
  refine Q4 (fun b H3=>Am H H3/\(b=true->¬ r.w = "line" /\ ¬ r.w = "step")) (fun Q' qt qf=>?_) (fun H3 hC=>?_) (fun H3 hC=>?_)
  ·refine ⟨_,rfl,_,_,rfl,rfl,_,rfl,Bd (fun _=>?_) (fun _=>qf _ ⟨s3,fun z=>nomatch z⟩)⟩
   refine ⟨_,rfl,Ta,_,_,_,rfl,rfl,ja (s3 _ _ hT),h0,by show 2<=sizeLine; decide,fun q2 hq2=>?_⟩
   obtain ⟨H7,eqH,s7,l7⟩:=Bo (o:=HO.tup [V.str "line",.str "step"]) hq2
   rw [eqH]
   refine ⟨q2,_,rfl,.inr (.inl (.inl l7)),rfl,rfl,_,rfl,?_⟩
   by_cases hw:r.w = "line" \/ r.w = "step"
   ·have e3:inV (.str r.w) [V.str "line",.str "step"]=true:=by rcases hw with e | e <;> rw [e] <;> decide +kernel
    rw [e3]
    exact qf _ ⟨s3.trans s7,fun z=>nomatch z⟩
   ·have e3:inV (.str r.w) [V.str "line",.str "step"]=false:=by
     rcases A1.wd with e | e | e | e | e | e | e
     ·rw [e]; decide +kernel
     ·rw [e]; decide +kernel
     ·rw [e]; decide +kernel
     ·rw [e]; decide +kernel
     ·rw [e]; decide +kernel
     ·exact absurd (.inl e) hw
     ·exact absurd (.inr e) hw
    rw [e3]
    exact qt _ ⟨s3.trans s7,fun _=>⟨fun z=>hw (.inl z),fun z=>hw (.inr z)⟩⟩
  ·have s1:=hC.1
   have ok:=A1.two (hC.2 rfl).2
   clear hC
   refine ⟨_,rfl,_,rfl,c / 8,rfl,fun v H4 s4 ov nv=>⟨Ta,r.v,1,v,rfl,s4 _ _ (s1 _ _ hT),by decide,by omega,by omega,fun D H5 s5 hD=>?_⟩⟩
   exact q _ H5 (s1.trans (s4.trans s5)) (Jw (i:=0) ok A1.ah (by simp) hD (ov.mono s5) fun _ _ y' _ _ _ g=>Vv (x0:=v) g nv)
  have s4:=hC.1
  clear hC
  refine Q4 (fun b H4=>H4=H3/\(b=true->0<k)) (fun Q' qt qf=>?_) (fun H4 hC=>?_) (fun H4 hC=>?_)
  ·refine ⟨_,rfl,rfl,_,rfl,Bd (fun _=>?_) (fun _=>qf _ ⟨rfl,fun z=>nomatch z⟩)⟩
   refine ⟨_,rfl,_,_,rfl,rfl,_,rfl,?_⟩
   by_cases hk0:0<k
   ·rw [decide_eq_true (by omega:(0:Int)<(k:Int))]
    exact qt _ ⟨rfl,fun _=>hk0⟩
   ·rw [decide_eq_false (by omega:¬ (0:Int)<(k:Int))]
    exact qf _ ⟨rfl,fun z=>nomatch z⟩
  ·obtain ⟨rfl,hk0⟩:=hC
   exact ⟨_,rfl,_,rfl,_,rfl,H0,A,S,Cs,lo,Ta,r,_,ρ,c / 8,rfl,h.mono s4,A1.mono s4,M (hk0 rfl),fun D H5 s5 hrow=>q _ H5 (s4.trans s5) hrow⟩
  obtain ⟨rfl,_⟩:=hC
  refine Q4 (fun b H5=>Am H H5/\(b=true->0<k/\∃ vp,(vr.take k)[k - 1]? = some vp/\¬ (ρ vp).w = "stop" /\ ¬ (ρ vp).w = "line")) (fun Q' qt qf=>?_) (fun H5 hC=>?_) (fun H5 hC=>?_)
  ·refine ⟨_,rfl,rfl,_,rfl,Bd (fun _=>?_) (fun _=>qf _ ⟨s4,fun z=>nomatch z⟩)⟩
   refine ⟨_,rfl,_,_,rfl,rfl,_,rfl,Bd (fun z=>?_) (fun _=>qf _ ⟨s4,fun z=>nomatch z⟩)⟩
   have hk0:0<k:=by have:=of_decide_eq_true z; omega
   have hkl:k<vr.length:=(af.mp hk).1
   obtain ⟨vp,hvp⟩:∃ vp,vr[k - 1]? = some vp:=⟨_,ae (by omega)⟩
   have hvp2:(vr.take k)[k - 1]? = some vp:=by rw [fE,if_pos (by omega)]; exact hvp
   obtain ⟨Tp,rfl,hTp⟩:=(hR.mono s4) vp (al hvp2)
   have gr4:=CQ.k (k:=Sum.inr "rows") (s4 _ _ g1)
   rw [y1] at gr4
   have ek:(k:Int) - 1=((k - 1:Nat):Int):=by omega
   refine ⟨_,rfl,A.p,_,rfl,gr4,_,rfl,_,_,rfl,rfl,A.r,_,_,.ref Tp,rfl,rfl,ja (s4 _ _ hvr),by rw [ek]; exact Aj hvp,Tp,_,_,_,rfl,rfl,ja hTp,Aj (j:=0) rfl,by show 2<=sizeLine; decide,fun q2 hq2=>?_⟩
   have s7:=Av (o:=HO.tup [V.str "stop",.str "line"]) hq2
   refine ⟨q2,[V.str "stop",.str "line"],rfl,.inr (.inl (.inl Af)),rfl,rfl,_,rfl,?_⟩
   by_cases hw:(ρ (.ref Tp)).w = "stop" \/ (ρ (.ref Tp)).w = "line"
   ·rw [(fH _).mpr hw]
    exact qf _ ⟨s4.trans s7,fun z=>nomatch z⟩
   ·rw [(ed _).mp fun z=>hw ((fH _).mp z)]
    exact qt _ ⟨s4.trans s7,fun _=>⟨hk0,_,hvp2,fun z=>hw (.inl z),fun z=>hw (.inr z)⟩⟩
  ·have s5:=hC.1
   obtain ⟨hk0,vp,hvp,nw1,nw2⟩:=hC.2 rfl
   clear hC
   have hkl:k<vr.length:=(af.mp hk).1
   have lus:(vr.take k).length=k:=by rw [bq]; omega
   have hL:Hn ρ (vr.take k) 0:=⟨fun j hj=>absurd hj (fR _),by omega,vp,by rw [lus]; exact hvp,nw2⟩
   obtain ⟨vk,c1,c2⟩:=h.k
   have lk:=c2.length
   have gk:=CQ.k (k:=Sum.inr "ranks") (s5 _ _ g1)
   rw [y3] at gk
   have hS:Dh K H5 A.k vk:=.inl (.inl (s5 _ _ c1))
   refine ⟨_,rfl,A.p,_,rfl,gk,A.k,rfl,⟨_,hS⟩,DY (K:=K) (xs:=vk) (fun _=>true) (Jq H 0) hS (BP (by omega)) (fun y hy Hx hs R kk=>kk Hx (Am.refl Hx)) (fun y hy _ Hx hs R kk=>?_) (fun D1 H6 hD1 s6 l1=>?_)⟩
   ·obtain ⟨b,_,hx'⟩:=Cm c2 hy
    have e:=Dk hx' 0
    obtain ⟨T0,rfl,hT0⟩:=(hx'.mono s5).mono hs
    refine ⟨_,rfl,T0,_,_,_,rfl,rfl,ja hT0,Aj (j:=0) rfl,?_⟩
    have:=kk Hx (Am.refl Hx)
    rw [e] at this
    exact this
   rw [ax.mpr (fun _ _=>rfl),Ig 0 c2] at l1
   generalize eN:(S.rk.map fun a=>(dj a).getD 0 V.non)=N0 at l1
   have hN0:∀ v∈N0,∃ x∈S.rk,v=.str x.1:=fun v hv=>by
    rw [← eN] at hv
    obtain ⟨x,hx,rfl⟩:=aS.mp hv
    exact ⟨x,hx,rfl⟩
   have lN0:N0.length<=12:=by rw [← eN,ag]; exact lr
   refine ⟨by show 1<=sizeLine; decide,fun p2 hp2=>?_⟩
   obtain ⟨H7,eqH,s7,l2⟩:=Bo (o:=HO.lst [V.str "nobodyhe"]) hp2
   rw [eqH]
   refine ⟨D1,p2,_,_,rfl,rfl,s7 _ _ l1,l2,Bl (by simp; omega),fun p3 hp3=>?_⟩
   obtain ⟨H8,eqH,s8,l3⟩:=Bo (o:=HO.lst (N0++[V.str "nobodyhe"])) hp3
   rw [eqH]
   obtain ⟨x,hx,ox⟩:∃ x,(N0++[V.str "nobodyhe"])[0]? = some x/\∀ {H9:Hp},DK H9 x:=by
    cases N0 with
    | nil=>exact ⟨_,rfl,.str (Ej (by decide +kernel))⟩
    | cons a l =>
     obtain ⟨y,hy,e⟩:=hN0 a bv
     refine ⟨a,rfl,?_⟩
     rw [e]
     exact .str (nR y hy).tx
   refine ⟨p3,_,_,x,rfl,rfl,ja l3,Aj (j:=0) hx,by show 5<=sizeLine; decide,fun D hD=>?_⟩
   refine q _ _ (s5.trans (s6.trans (s7.trans (s8.trans (Av hD))))) (Ij A1.F A1.ah Af (fun x2 hx2=>?_) ⟨0,hL⟩ fun sh2 lo3 hi2 _ _ _ _ _ _ _ _ _ _ st=>?_)
   ·simp only [List.mem_cons,List.not_mem_nil,or_false] at hx2
    rcases hx2 with rfl | rfl | rfl | rfl
    ·exact ox
    ·exact .int _
    ·exact .int _
    ·exact .int _
   ·obtain ⟨cnt,v1,_,_,hc1,_,hv1,hw1,_⟩:=st
    have:cnt=0:=Ia hc1 hL
    subst this
    rw [lus] at hv1
    have hv2:(vr.take k)[k - 1]? = some v1:=hv1
    rw [hvp] at hv2
    cases hv2
    exact nw1 hw1
  have s5:=hC.1
  clear hC
  exact ⟨_,rfl,_,rfl,_,rfl,.ref A.p,Ta,r,_,ρ,c / 8,rfl,A1.mono s5,fun D H6 s6 hrow=>q _ H6 (s5.trans s6) hrow⟩
theorem m7 {K:PySem.W.Frag}:PySem.W.kitOne K (.type "NoneType") (.type "list")=some false:=by kernel_rfl
theorem my {K:PySem.W.Frag}:PySem.W.kitOne K (.type "tuple") (.type "list")=some false:=by kernel_rfl
theorem mY {K:PySem.W.Frag}:PySem.W.kitOne K (.type "str") (.type "list")=some false:=by kernel_rfl
theorem mj {K:PySem.W.Frag}:PySem.W.kitOne K (.type "int") (.type "list")=some false:=by kernel_rfl
theorem mZ {K:PySem.W.Frag}:PySem.W.kitOne K (.type "dict") (.type "list")=some false:=by kernel_rfl
theorem Ka {α β γ:Type} {F:α->β->Prop} {G:β->γ->Prop} {E:α->γ->Prop} (k:∀ a v y,F a v->G v y->E a y):∀ {l:List α} {vs:List β} {ys:List γ},Paired F l vs->Paired G vs ys->Paired E l ys
 | [],_,_,h,g=>by cases h; cases g; exact .nil
 | a::l,_,_,h,g=>by
  cases h with
  | cons h1 h2 =>
   cases g with
   | cons g1 g2=>exact .cons (k _ _ _ h1 g1) (Ka k h2 g2)
noncomputable def Zr (K:PySem.W.Frag) (aB aP aM:Addr):Sp:=fun vs H Q _=>∃ (H0:Hp) (A:Kq) (S:Pl) (Cs:List Addr) (lo:V) (vr:List V) (c:Int),vs=[.ref A.p,.int c]/\Bk H0 H A S Cs lo/\H A.r=some (.lst vr)/\1<=vr.length/\vr.length<=61/\S.rk.length<=12 /\
 (∀ (H':Hp) (D:Addr) (ys:List V),H' D=some (.lst ys)->Paired (fun (r:R) v=>TupAt H' r.v v) (S.rk.map Fp) ys->S.rk ≠ []->Hh K aB aP aM H' (.ref D) .non)/\∀ v H',Am H H'->Hh K aB aP aM H' v .non->Q v H'
theorem V5:BX ["_law_plan_here","_law_cell","_law_rows","_law_ranks","_law_some"] ["_law_plan_here","_law_cell"] (Ai fP):=Cj
include N T in
theorem d7:BW P w K mg base Br 1 aD.fNo aD.dNo ["_law_plan_here","_law_cell"] (Zr K aB aP aM):=by
 refine N.FNo.1.ok V5 (fun vs H Q E h=>?_) (fun cdv A outer s H vs Q E hr h=>?_)
 ·obtain ⟨H0,A,S,Cs,lo,vr,c,rfl,_⟩:=h
  rfl
 ·obtain ⟨H0,A,S,Cs,lo,vr,c,rfl,h,hvr,v1,v61,lr,hrk,q⟩:=h
  have hu:=FJ hr
  refine ⟨_,(@Ae _ _ _ _ _ (@CJ _ _ _ _ _ _ 2 V5.nd rfl (Or.inl rfl) (Ba hu (pv 0) Al (fun _ _=>rfl)) rfl (Or.inl rfl)) (@Ae _ _ _ _ _ (Qi (i:=3) V5.nd rfl rfl rfl (Bg (osc:=Ai fP) (N:=["_law_plan_here","_law_cell","_law_rows","_law_ranks","_law_some"]) rfl rfl (by decide +kernel)) (CN (Ba hu (pv 0) Al (fun _ _=>rfl))) (fun _ _ _ _=>Ce) (fun _ _ _ _=>(@Bv _ _ _ _ _ (@Ar _ _ _ _ _ rfl Al (@Ar _ _ _ _ _ rfl (@BK _ _ _ _ _ _ _ (Ay (K:=K) rfl) (pv 0) Ac (fun _ _=>rfl)) (@Ar _ _ _ _ _ rfl (@BK _ _ _ _ _ _ _ (Ay (K:=K) rfl) (pv 0) Ac (fun _ _=>rfl)) (@Ar _ _ _ _ _ rfl (@BK _ _ _ _ _ _ _ (Ay (K:=K) rfl) (pv 0) Ac (fun _ _=>rfl)) Ab))))))) (@Ae _ _ _ _ _ (@CJ _ _ _ _ _ _ 4 V5.nd rfl (Or.inl rfl) (@Bh _ _ _ _ (@Ar _ _ _ _ _ rfl (Dw Hm rfl T.tuple ft (@Ar _ _ _ _ _ rfl (pv 2) Ab)) (@Ar _ _ _ _ _ rfl DX (@Ar _ _ _ _ _ rfl (@Bh _ _ _ _ Ab) (@Ar _ _ _ _ _ rfl NP (@Ar _ _ _ _ _ rfl Al (@Ar _ _ _ _ _ rfl (Ak Az rfl T.len ar (@Ar _ _ _ _ _ rfl (pv 2) Ab)) (@Ar _ _ _ _ _ rfl (Aw Eu (pv 2) (Aw Pa (@Bh _ _ _ _ (@Ar _ _ _ _ _ rfl (@BK _ _ _ _ _ _ _ Bt (pv 2) Ac (fun _ _=>rfl)) Ab)) (Aw Dc Ac (Ak Az rfl T.len ar (@Ar _ _ _ _ _ rfl (pv 2) Ab))))) (@Ar _ _ _ _ _ rfl (Aw Pa (@Bh _ _ _ _ (@Ar _ _ _ _ _ rfl DX Ab)) Ac) Ab))))))))) rfl (Or.inl rfl)) (@Ae _ _ _ _ _ (@Bf _ _ _ _ _ _ _ _ (PW.pt (Eg (A_ Bw (Aw Bs (pv 1) Ac) Ac (BV _)) (Ea (A_ (Sd (iL hu)) (pv 3) (@Bh _ _ _ _ Ab) (BV _))))) (@Ag _ _ _ (@Ax _ _ _ _ (pv 3))) BR) (@Ag _ _ _ (@Ax _ _ _ _ (@BK _ _ _ _ _ _ _ Bt (pv 4) (Aw Bs (pv 1) Ac) (fun _ _=>rfl)))))))),?_⟩
  obtain ⟨kvs,g1,g2,y1,y2,y3,y4,y5,y6,y7⟩:=h.dp
  obtain ⟨vk,c1,c2⟩:=h.k
  have lk:=c2.length
  have gr:=CQ.k (k:=Sum.inr "rows") g1
  rw [y1] at gr
  have gk:=CQ.k (k:=Sum.inr "ranks") g1
  rw [y3] at gk
  have hS:Dh K H A.k vk:=.inl (.inl c1)
  refine ⟨_,rfl,A.p,_,rfl,gr,?_⟩
  refine ⟨_,rfl,A.p,_,rfl,gk,A.k,rfl,⟨_,hS⟩,J9 (K:=K) (xs:=vk) (fun _=>true) (fun v=>[.str "rank",Jq H 0 v,Jq H 1 v,Jq H 2 v]) hS (BP (by omega)) (fun y hy Hx hs R kk=>kk Hx (Am.refl Hx)) (fun y hy _ Hx hs R kk=>?_) (fun D1 H1 ys hD1 s1 l1 pr=>?_)⟩
  ·obtain ⟨b,_,hx'⟩:=Cm c2 hy
   have e0:=Dk hx' 0
   have e1:=Dk hx' 1
   have e2:=Dk hx' 2
   obtain ⟨T0,rfl,hT0⟩:=hx'.mono hs
   refine ⟨_,rfl,T0,_,_,_,rfl,rfl,ja hT0,Aj (j:=0) rfl,_,rfl,T0,_,_,_,rfl,rfl,ja hT0,Aj (j:=1) rfl,_,rfl,T0,_,_,_,rfl,rfl,ja hT0,Aj (j:=2) rfl,by show 4<=sizeLine; decide,fun T1 hT1=>kk _ _ (Av hT1) ⟨T1,rfl,?_⟩⟩
   rw [e0,e1,e2]
   exact Af
  rw [ax.mpr (fun _ _=>rfl)] at pr
  have pr2:Paired (fun (r:R) v=>TupAt H1 r.v v) (S.rk.map Fp) ys:=DN Fp (Ka (fun a v y f g=>by
   rw [Dk f 0,Dk f 1,Dk f 2] at g
   exact g) c2 pr)
  clear pr
  have hv1:=s1 _ _ hvr
  refine ⟨_,rfl,A.r,vr,rfl,.inl ⟨.inl (.inl hv1),fun T2 hT2=>?_⟩⟩
  obtain ⟨H2,eqH,s2,l2⟩:=Bo (o:=HO.tup vr) hT2
  rw [eqH]
  refine ⟨by show 0<=sizeLine; decide,fun p3 hp3=>?_⟩
  obtain ⟨H3,eqH,s3,l3⟩:=Bo (o:=HO.lst []) hp3
  rw [eqH]
  refine fun p4 hp4=>?_
  obtain ⟨H4,eqH,s4,l4⟩:=Bo (o:=HO.dK []) hp4
  rw [eqH]
  have s14:=s2.trans (s3.trans s4)
  have hv4:=s14 _ _ hv1
  obtain ⟨v0,hv0⟩:∃ v0,vr[0]? = some v0:=⟨_,ae (by omega)⟩
  refine ⟨_,rfl,A.r,vr,rfl,ja (.inl hv4),_,rfl,_,rfl,A.r,_,_,v0,rfl,rfl,ja hv4,Aj (j:=0) hv0,by show 1<=sizeLine; decide,fun p5 hp5=>?_⟩
  obtain ⟨H5,eqH,s5,l5⟩:=Bo (o:=HO.lst [v0]) hp5
  rw [eqH]
  have hv5:=s5 _ _ hv4
  have e151:(151 - (vr.length:Int)).toNat=151 - vr.length:=by omega
  refine ⟨_,rfl,A.r,vr,rfl,ja (.inl hv5),_,_,rfl,rfl,p5,151 - (vr.length:Int),[v0],rfl,rfl,l5,by omega,by omega,Bl (by rw [e151]; simp; omega),fun p6 hp6=>?_⟩
  have lW:(List.replicate (151 - (vr.length:Int)).toNat [v0]).flatten.length=151 - vr.length:=by rw [e151,len_rep]; simp
  generalize (List.replicate (151 - (vr.length:Int)).toNat [v0]).flatten=W at lW ⊢
  obtain ⟨H6,eqH,s6,l6⟩:=Bo (o:=HO.lst W) hp6
  rw [eqH]
  refine ⟨A.r,p6,vr,W,rfl,rfl,s6 _ _ hv5,l6,Bl (by omega),fun p7 hp7=>?_⟩
  obtain ⟨H7,eqH,s7,l7⟩:=Bo (o:=HO.lst (vr++W)) hp7
  rw [eqH]
  refine ⟨by show 1<=sizeLine; decide,fun p8 hp8=>?_⟩
  obtain ⟨H8,eqH,s8,l8⟩:=Bo (o:=HO.lst [V.non]) hp8
  rw [eqH]
  refine ⟨p8,151,[V.non],rfl,rfl,l8,by decide,by decide,by show 1 * 151<=sizeLine; decide,fun p9 hp9=>?_⟩
  have lY:(List.replicate (151:Int).toNat [V.non]).flatten.length=151:=by rw [len_rep]; rfl
  generalize (List.replicate (151:Int).toNat [V.non]).flatten=Y at lY ⊢
  obtain ⟨H9,eqH,s9,l9⟩:=Bo (o:=HO.lst Y) hp9
  rw [eqH]
  refine ⟨by show 8<=sizeLine; decide,fun pa hpa=>?_⟩
  generalize eX:[V.ref T2,.non,.ref p3,.ref p4,.str "board a 1",.int (vr.length:Nat),.ref p7,.ref p9]=X
  obtain ⟨Ha,eqH,sa,la⟩:=Bo (o:=HO.lst X) hpa
  rw [eqH]
  have s8a:=s9.trans sa
  have s7a:=s8.trans s8a
  have s4a:=s5.trans (s6.trans (s7.trans s7a))
  have s1a:=s14.trans s4a
  have hX:∀ v∈X,Hh K aB aP aM Ha v .non:=fun v hv=>by
   rw [← eX] at hv
   simp only [List.mem_cons,List.not_mem_nil,or_false] at hv
   rcases hv with rfl | rfl | rfl | rfl | rfl | rfl | rfl | rfl
   ·exact .kind (.tup ((s3.trans (s4.trans s4a)) _ _ l2)) my
   ·exact .kind .non m7
   ·exact .long ((s4.trans s4a) _ _ l3) (.inl rfl) (by simp)
   ·exact .kind (.dK (s4a _ _ l4)) mZ
   ·exact .kind (.str _) mY
   ·exact .kind (.int _) mj
   ·exact .long (s7a _ _ l7) (.inr (by rw [aE,lW]; omega)) (by rw [aE,lW]; omega)
   ·exact .long (sa _ _ l9) (.inr (by omega)) (by omega)
  have lys:S.rk.length=ys.length:=by have:=pr2.length; rwa [ag] at this
  dsimp only [Df]
  refine Q4 (fun b H2=>Am Ha H2/\(b=true->S.rk ≠ [])) (fun Q' qt qf=>?_) (fun Hb hC=>?_) (fun Hb hC=>?_)
  ·refine ⟨_,rfl,_,_,rfl,rfl,(by show (0:Int)<9; decide),rfl,_,rfl,Bd (fun _=>?_) (fun _=>qf _ ⟨Am.refl _,fun z=>nomatch z⟩)⟩
   refine ⟨_,rfl,Bl (by simp),fun E1 hE1=>?_⟩
   have sb:=Av (o:=HO.lst []) hE1
   refine ⟨D1,E1,ys,rfl,rfl,ja (sb _ _ (s1a _ _ l1)),ja Af,_,rfl,?_⟩
   cases ys with
   | nil=>exact qf _ ⟨sb,fun z=>nomatch z⟩
   | cons y ys=>exact qt _ ⟨sb,fun _ z=>by rw [z] at lys; cases lys⟩
  ·exact ⟨_,rfl,q _ _ (s1.trans (s1a.trans hC.1)) (hrk Hb D1 ys (hC.1 _ _ (s1a _ _ l1)) (BL (s1a.trans hC.1) pr2) (hC.2 rfl))⟩
  ·obtain ⟨x,hx,ha⟩:=pick (xs:=X) c 8 (by rw [← eX]; rfl) (by decide)
   exact ⟨_,rfl,_,rfl,_,_,rfl,rfl,(by show (0:Int)<8; decide),pa,_,_,x,rfl,rfl,ja (hC.1 _ _ la),ha,q x _ (s1.trans (s1a.trans hC.1)) ((hX x hx).mono hC.1)⟩
end
end K10
end PartK10p
section PartK10u
set_option maxHeartbeats 4000000
namespace K10
open PySem L2 Og
section
variable {K:PySem.W.Frag} {aB aP aM:Addr}
theorem N8 (F:JG K aB aP aM) {rk:List (Str × Nat × Int)} (hx:∀ x∈rk,isNm x.1/\1<=x.2.1/\x.2.1<=97/\0<=x.2.2/\x.2.2<=1000000000) (nd:(rk.map (·.1)).Nodup) (l12:rk.length<=12):∀ n,n<=rk.length->Gk K aB aP aM ((rk.take n).map Fp) [] (rk.take n) [] [] []
 | 0,_=>Gk.nil
 | n+1,hn=>by
  have h:=N8 F hx nd l12 n (by omega)
  have hm:=hx rk[n] (eh (by omega))
  have e:rk.take (n+1)=rk.take n++[rk[n]]:=(List.take_append_getElem (by omega)).symm
  rw [e,cS]
  refine h.rank F (t:=rk[n].1) (n:=rk[n].2.1) (wi:=rk[n].2.2) hm.1 (fun _ z=>nomatch z) (fun r hr z=>?_) (fun _ z=>nomatch z) (by rw [bq]; omega) hm.2.1 hm.2.2.1 hm.2.2.2.1 hm.2.2.2.2
  obtain ⟨i,hi,er⟩:=dc hr
  rw [bq] at hi
  rw [List.getElem_take] at er
  have h1:(rk.map (·.1))[i]'(by rw [ag]; omega)=(rk.map (·.1))[n]'(by rw [ag]; omega):=by
   rw [fz,fz,er]
   exact z
  exact List.pairwise_iff_getElem.mp nd i n (by rw [ag]; omega) (by rw [ag]; omega) (by omega) h1
theorem Rp (F:JG K aB aP aM) {rk:List (Str × Nat × Int)} (hx:∀ x∈rk,isNm x.1/\1<=x.2.1/\x.2.1<=97/\0<=x.2.2/\x.2.2<=1000000000) (nd:(rk.map (·.1)).Nodup) (l12:rk.length<=12) (H:Hp) (D:Addr) (ys:List V) (hD:H D=some (.lst ys)) (hp:Paired (fun (r:R) v=>TupAt H r.v v) (rk.map Fp) ys) (h0:rk ≠ []):Hh K aB aP aM H (.ref D) .non:=by
 have bl:=N8 F hx nd l12 rk.length (am _)
 rw [eg] at bl
 have em:=Mt hp
 have O:=bl.ok (Kp H) ys em
 have hl:ys.length=rk.length:=by rw [← hp.length,ag]
 have hR:Rows H (Kp H) ys:=fun v hv=>by
  obtain ⟨r,_,hr⟩:=Cm hp hv
  rw [Mg hr]
  exact hr
 have h1:1<=rk.length:=by
  cases rk with
  | nil=>exact absurd rfl h0
  | cons a l=>simp
 refine .none hD (by omega) (by omega) hR (fun i v hv=>?_) ?_
 ·refine Qp (O.ok i v hv) (hR v (al hv)) (GX.take (Mh F O.Ua O.ok))
 ·have:=O.eb
  rw [iO,ip] at this
  exact this
theorem J7 (F:JG K aB aP aM) {rows:List R} {bs:List (Str × Nat)} {rk:List (Str × Nat × Int)} {ks:List R} {ls:List (List Ln)} {sts:List Nat} (bl:Gk K aB aP aM rows bs rk ks ls sts) {ρ:V->R} {us:List V} (em:us.map ρ=rows) {w1 w2 t:Str} (h1:w1∈named) (h2:w2∈named) (hne:¬ w1=w2) (ht:∃ v∈us,(ρ v).w=w1/\(ρ v).nm=t) (k:Nat):Hi ρ (us.take k) w2 t=false:=by
 have O:=bl.ok ρ us em
 rw [← ed,FQ]
 rintro ⟨v,hv,hw,hn⟩
 obtain ⟨u,hu,hw1,hn1⟩:=ht
 obtain ⟨i,hi⟩:=fT (ck hv)
 obtain ⟨j,hj⟩:=fT hu
 have:=Wb F O.ok hi hj (by rw [hw]; exact h2) (by rw [hw1]; exact h1) (hn.trans hn1.symm)
 subst this
 rw [hi] at hj
 cases hj
 exact hne (hw1.symm.trans hw)
theorem JT (F:JG K aB aP aM) {rows:List R} {bs:List (Str × Nat)} {rk:List (Str × Nat × Int)} {ks:List R} {ls:List (List Ln)} {sts:List Nat} (bl:Gk K aB aP aM rows bs rk ks ls sts) {ρ:V->R} {us:List V} (em:us.map ρ=rows):∀ x∈rk,isNm x.1/\1<=x.2.1/\x.2.1<=97/\0<=x.2.2/\x.2.2<=1000000000:=fun x hx=>by
 have O:=bl.ok ρ us em
 obtain ⟨v,hv,e⟩:=O.U9 hx
 obtain ⟨i,hi⟩:=fT hv
 have ok3:=O.ok i v hi
 rw [e] at ok3
 have nm:=(Sx F (by show ("rank" : Str)∈named; decide +kernel) ok3).1
 rcases ok3 with ok | ok
 ·obtain ⟨ap,ps,hn,hap,hlen,hps,hok⟩:=ok.parts
  have eps:=JC (qs:=["new","pipes","wind"]) F.pR hn hap
  subst eps
  obtain ⟨i1,e1,b1,b2⟩:=Gw F.bP (Kd (hok 1 _ _ rfl rfl))
  obtain ⟨i2,e2,b3,b4⟩:=Gw F.bW (Kd (hok 2 _ _ rfl rfl))
  cases e1
  cases e2
  exact ⟨nm,by omega,by omega,b3,b4⟩
 ·exact absurd ok.w (by show ¬ ("rank" : Str) = "step"; decide +kernel)
theorem Lf {b:Str} (hb:Gp b) {k:Nat} (hk:k<61):¬ Eb b k = "nobodyhe":=fun e=>by
 unfold Eb at e
 by_cases h:26<=k
 ·rw [if_pos h] at e
  have h2:k / 26 * 5 % 26=5 \/ k / 26 * 5 % 26=10:=by
   have hq:k / 26=1 \/ k / 26=2:=by omega
   rcases hq with q | q
   ·exact .inl (by rw [q])
   ·exact .inr (by rw [q])
  have e2:=congrArg (fun s:Str=>s.cps.toList.getLast?) e
  have e3:("nobodyhe" : Str).cps.toList.getLast? = some 101:=by decide +kernel
  have e4:((b++Ry (k % 26))++Ry (k / 26 * 5 % 26)).cps.toList.getLast? = some (97+k / 26 * 5 % 26):=by
   show ((b++Ry (k % 26)).cps ++ #[97+k / 26 * 5 % 26]).toList.getLast? = _
   simp
  have e5:=e4.symm.trans (e2.trans e3)
  have:=Option.some.inj e5
  omega
 ·rw [if_neg h] at e
  have e2:=congrArg Str.length e
  rw [len_app,Ip] at e2
  have e8:("nobodyhe" : Str).length=8:=by decide +kernel
  have:=hb.1
  omega
theorem We (F:JG K aB aP aM) {bb:Str} {S:Pl} {lo:V} (hbb:Gp bb) (P:Ef K aB aP aM bb S lo) (l61:S.rows.length<=61) (f0:Zq S.rows) (b1:1<=S.bs.length) {ρ:V->R} {us:List V} (em:us.map ρ=S.rows) {k:Nat} (hk:0<k) (hkl:k<us.length):Xe ρ (us.take k) S:=by
 have O:=P.bl.ok ρ us em
 have hb:∀ x∈S.bs,∃ v∈us,(ρ v).w = "board" /\ (ρ v).nm=x.1:=fun x hx=>by
  obtain ⟨v,hv,e⟩:=O.Tc hx
  exact ⟨v,hv,by rw [e],by rw [e]⟩
 have hr:∀ x∈S.rk,∃ v∈us,(ρ v).w = "rank" /\ (ρ v).nm=x.1:=fun x hx=>by
  obtain ⟨v,hv,e⟩:=O.U9 hx
  exact ⟨v,hv,by rw [e],by rw [e]⟩
 have bnm:∀ x∈S.bs,isNm x.1:=fun x hx=>by
  obtain ⟨i,_,e⟩:=P.nb x hx
  rw [e]
  exact Fj hbb i
 refine ⟨fun x hx=>⟨(JT F P.bl em x hx).1,J7 F P.bl em (by decide +kernel) (by decide +kernel) (by decide +kernel) (hr x hx) k⟩,fun x hx=>⟨bnm x hx,J7 F P.bl em (by decide +kernel) (by decide +kernel) (by decide +kernel) (hb x hx) k,J7 F P.bl em (by decide +kernel) (by decide +kernel) (by decide +kernel) (hb x hx) k⟩,?_,?_,?_,P.r12,P.b5⟩
 ·rw [← ed,FQ]
  rintro ⟨v,hv,hw,hn⟩
  obtain ⟨b,hb,e⟩:=O.Tj (ck hv) hw
  obtain ⟨i,hi,e2⟩:=P.nb b hb
  rw [← e] at hn
  exact Lf hbb (ay hi l61) (e2.symm.trans hn)
 ·rw [← ed,FQ]
  rintro ⟨v,hv,hw,hn⟩
  have hm:=O.Qw (ck hv) (JP (.inl hw))
  obtain ⟨i,hi,e2⟩:=P.nk _ hm
  exact Lf hbb (ay hi l61) (e2.symm.trans hn)
 ·obtain ⟨v0,hv0⟩:∃ v0,us[0]? = some v0:=⟨_,ae (by omega)⟩
  have hw:(ρ v0).w = "board":=f0 _ (by rw [← em,bo,hv0]; rfl)
  have eb:=O.eb
  have hus:us=v0::us.drop 1:=by
   cases us with
   | nil=>cases hv0
   | cons a l=>cases hv0; rfl
  rw [hus,dS,if_pos (decide_eq_true (congrArg V.str hw)),cK] at eb
  cases hbs:S.bs with
  | nil=>rw [hbs] at b1; exact absurd b1 (by decide)
  | cons b l2 =>
   rw [hbs,cK] at eb
   have e:=(List.cons.inj eb).1
   exact ⟨b,rfl,FQ.mpr ⟨v0,al (i:=0) (by rw [fE,if_pos hk]; exact hv0),hw,by rw [e]⟩⟩
theorem Vd (F:JG K aB aP aM) {rows:List R} {bs:List (Str × Nat)} {rk:List (Str × Nat × Int)} {ks:List R} {ls:List (List Ln)} {sts:List Nat} (bl:Gk K aB aP aM rows bs rk ks ls sts) {H:Hp} {ρ:V->R} {us:List V} (em:us.map ρ=rows) (hR:Rows H ρ us) {k:Nat} {T:Addr} (hk:us[k]? = some (.ref T)):Mr K aB aP aM H ρ (us.take k) (ρ (.ref T)) T:=by
 have O:=bl.ok ρ us em
 have hm:=al hk
 obtain ⟨T2,e2,hT⟩:=hR _ hm
 cases e2
 exact ⟨F,O.ok k _ hk,(Mh F O.Ua O.ok).take,hT,bl.wd _ (by rw [← em]; exact ce hm)⟩
theorem Ox (F:JG K aB aP aM) {rows:List R} {bs:List (Str × Nat)} {rk:List (Str × Nat × Int)} {ks:List R} {ls:List (List Ln)} {sts:List Nat} (bl:Gk K aB aP aM rows bs rk ks ls sts) {H:Hp} {ρ:V->R} {us X:List V} (em:us.map ρ=rows) (hR:Rows H ρ us) {p:Addr} (hX:H p=some (.lst X)) (hl:X.length<=150) {k:Nat} (e:X.take k=us.take k) {v:V} (hv:X[k]? = some v) (bad:Eo K aB aP aM H ρ (us.take k) v false):Hh K aB aP aM H (.ref p) (.int (k:Nat)):=by
 have O:=bl.ok ρ us em
 refine .row hX hl (by rw [e]; exact fun u hu=>hR u (ck hu)) (fun i u hi hu=>?_) hv (by rw [e]; exact bad)
 have e1:X.take i=us.take i:=by
  have:=congrArg (List.take i) e
  rwa [List.take_take,List.take_take,io (fm hi)] at this
 have e2:us[i]? = some u:=by
  have:(X.take k)[i]? = (us.take k)[i]?:=by rw [e]
  rw [fE,fE,if_pos hi,if_pos hi] at this
  rw [← this]
  exact hu
 rw [e1]
 exact Qp (O.ok i u e2) (hR u (al e2)) (Mh F O.Ua O.ok).take
end
section
variable {P:Program} {w:World} {K:PySem.W.Frag} {mg:Str->Option Value} {base:Heap} {C cN cO c0 c1 c2 c3 c4 c5 c6 c7 c8 c9 c10 c11 c12 c13 aN aK aB aP aM:Addr} {aD:Ad}
variable (N:jC K mg C cN cO c0 c1 c2 c3 c4 c5 c6 c7 c8 c9 c10 c11 c12 c13 aD) (T:Txt K w.params mg C cN cO c0 c1 c2 c3 c4 c5 c6 c7 c8 c9 c10 c11 c12 c13 aN aK aB aP aM)
noncomputable abbrev Vw:List Str:=["row_list","board_list","rank_list","knob_rows","board_numbers","rank_numbers","knob_numbers","key_places","pipe_places","knob_lines","step_sets"]
theorem En:∀ m∈meths,∀ f∈Vw,¬ m=f:=by decide +kernel
theorem Q9 {rk:List (Str × Nat × Int)} {ρ:V->R} {us:List V} {P1:Nat->V->Prop} (h:∀ (i:Nat) v,us[i]? = some v->(ρ v).w = "line"->P1 i v/\∃ u∈us.take i,Hf (ρ u).w=true):(linesOf rk (us.map ρ)).length=(us.filter (fun v=>Hf (ρ v).w)).length:=by
 have key:∀ n,n<=us.length->(linesOf rk ((us.take n).map ρ)).length=((us.take n).filter (fun v=>Hf (ρ v).w)).length:=by
  intro n
  induction n with
  | zero=>intro _; rfl
  | succ n ih =>
   intro hn
   have hx:=ae (l:=us) (i:=n) (by omega)
   rw [fh,hx,cS]
   show (linesOf rk ((us.take n).map ρ++[ρ us[n]])).length=((us.take n++[us[n]]).filter _).length
   rw [Cw,fA,aE,← ih (by omega)]
   unfold Do
   by_cases hk:Hf (ρ us[n]).w=true
   ·rw [if_pos hk,dS,if_pos hk]
    simp
   ·rw [if_neg hk,dS,if_neg hk]
    by_cases hl:(ρ us[n]).w = "line"
    ·rw [if_pos hl]
     obtain ⟨_,u,hu,hku⟩:=h n _ hx hl
     obtain ⟨a,z,e⟩:=Fw (Nf (rk:=rk) ⟨ρ u,ce hu,hku⟩)
     rw [e,HN]
     simp
    ·rw [if_neg hl]
     simp
 have:=key us.length (am _)
 rw [eg] at this
 exact this
noncomputable def dX (K:PySem.W.Frag) (aB aP aM C:Addr):Sp:=fun vs H Q _=>∃ (x dx p:Addr) (us:List V) (ρ:V->R) (bs:List (Str × Nat)) (rk:List (Str × Nat × Int)) (ks:List R),vs=[.ref x,.ref p]/\H x=some (.ins C dx [])/\H p=some (.lst us)/\Rows H ρ us/\iD K aB aP aM ρ us bs rk ks/\∀ H',Sw C H' x us bs rk ks (linesOf rk (us.map ρ)) ((us.filter (pw ρ "step")).map fun v=>stN ks (ρ v))->(∀ H'',SX p H' H''->Sw C H'' x us bs rk ks (linesOf rk (us.map ρ)) ((us.filter (pw ρ "step")).map fun v=>stN ks (ρ v)))->SX x H H'->Q .non H'
theorem iu:BX ["self","rows"] ["self","rows"] (Ai Um):=Cj
include N T in
theorem ZV:BW P w K mg base Br 9 aD.fOi aD.dOi ["self","rows"] (dX K aB aP aM C):=by
 refine N.FOi.1.ok iu (fun vs H Q E h=>?_) (fun cdv A outer s H vs Q E hr h=>?_)
 ·obtain ⟨x,dx,p,us,ρ,bs,rk,ks,rfl,_⟩:=h
  rfl
 ·obtain ⟨x,dx,p,us,ρ,bs,rk,ks,rfl,hx,hp,hR,O,q⟩:=h
  refine ⟨_,(Ae (Cz (Ah (bI N T) (ad hr) rfl N.FCk.2.2 N.FCk.1.kp N.FCk.2.1 .nil BJ (Aa (pv 1) Ab)))
   (Ae (Fo (pv 0) (Dw FT rfl T.list dv (Aa (pv 1) Ab)) rfl)
   (Ae (Fo (pv 0) (Bx rfl (Bg (osc:=Ai Um) (N:=["self","rows"]) rfl rfl (by decide +kernel)) (CN (Ah (Jj N T) (ad hr) rfl N.FRo.2.2 N.FRo.1.kp N.FRo.2.1 .nil BJ (Aa (pv 1) (Aa Al Ab)))) (fun _ _ _ _=>Ce) (fun _ _ _ _=>(Bv (Aa (BK (Ay (K:=K) rfl) (pv 0) Ac (fun _ _=>rfl)) (Aa (BK (Ay (K:=K) rfl) (pv 0) Ac (fun _ _=>rfl)) Ab))))) rfl)
   (Ae (Fo (pv 0) (Bx rfl (Bg (osc:=Ai Um) (N:=["self","rows"]) rfl rfl (by decide +kernel)) (CN (Ah (Jj N T) (ad hr) rfl N.FRo.2.2 N.FRo.1.kp N.FRo.2.1 .nil BJ (Aa (pv 1) (Aa Al Ab)))) (fun _ _ _ _=>Ce) (fun _ _ _ _=>(Bv (Aa (BK (Ay (K:=K) rfl) (pv 0) Ac (fun _ _=>rfl)) (Aa (BK (Ay (K:=K) rfl) (pv 0) Ac (fun _ _=>rfl)) (Aa (BK (Ay (K:=K) rfl) (pv 0) Ac (fun _ _=>rfl)) Ab)))))) rfl)
   (Ae (Fo (pv 0) (Bx rfl (Bg (osc:=Ai Um) (N:=["self","rows"]) rfl rfl (by decide +kernel)) (CN (pv 1)) (fun _ _ _ _=>(Mq (A_ (J2 (K:=K) rfl) (BK (Ay (K:=K) rfl) (pv 0) Ac (fun _ _=>rfl)) (Be (v:=.ref aK) rfl T.mK rfl) rfl))) (fun _ _ _ _=>(pv 0))) rfl)
   (Ae (Fo (pv 0) (Ah (cW N T) (ad hr) rfl N.FNu.2.2 N.FNu.1.kp N.FNu.2.1 .nil BJ (Aa (Bx rfl (Bg (osc:=Ai Um) (N:=["self","rows"]) rfl rfl (by decide +kernel)) (CN (G9 (pv 0) rfl)) (fun _ _ _ _=>Ce) (fun _ _ _ _=>(BK (Ay (K:=K) rfl) (pv 0) Ac (fun _ _=>rfl)))) Ab)) rfl)
   (Ae (Fo (pv 0) (Ah (cW N T) (ad hr) rfl N.FNu.2.2 N.FNu.1.kp N.FNu.2.1 .nil BJ (Aa (Bx rfl (Bg (osc:=Ai Um) (N:=["self","rows"]) rfl rfl (by decide +kernel)) (CN (G9 (pv 0) rfl)) (fun _ _ _ _=>Ce) (fun _ _ _ _=>(BK (Ay (K:=K) rfl) (pv 0) Ac (fun _ _=>rfl)))) Ab)) rfl)
   (Ae (Fo (pv 0) (Ah (cW N T) (ad hr) rfl N.FNu.2.2 N.FNu.1.kp N.FNu.2.1 .nil BJ (Aa (Bx rfl (Bg (osc:=Ai Um) (N:=["self","rows"]) rfl rfl (by decide +kernel)) (CN (G9 (pv 0) rfl)) (fun _ _ _ _=>Ce) (fun _ _ _ _=>(BK (Ay (K:=K) rfl) (pv 0) Ac (fun _ _=>rfl)))) Ab)) rfl)
   (Ae (Fo (pv 0) (Ah (dC N T) (ad hr) rfl N.FPl.2.2 N.FPl.1.kp N.FPl.2.1 .nil BJ (Aa (G9 (pv 0) rfl) Ab)) rfl)
   (Ae (Fo (pv 0) (Ah (dC N T) (ad hr) rfl N.FPl.2.2 N.FPl.1.kp N.FPl.2.1 .nil BJ (Aa (G9 (pv 0) rfl) Ab)) rfl)
   (Ae (Fo (pv 0) (Ah (fC N T) (ad hr) rfl N.FLi.2.2 N.FLi.1.kp N.FLi.2.1 .nil BJ (Aa (pv 1) (Aa (G9 (pv 0) rfl) Ab))) rfl)
   (Ag (Fo (pv 0) (Bx rfl (Bg (osc:=Ai Um) (N:=["self","rows"]) rfl rfl (by decide +kernel)) (CN (Ah (Jj N T) (ad hr) rfl N.FRo.2.2 N.FRo.1.kp N.FRo.2.1 .nil BJ (Aa (pv 1) (Aa Al Ab)))) (fun _ _ _ _=>Ce) (fun _ _ _ _=>(Ah (bQ N T) (ad hr) rfl N.FSs.2.2 N.FSs.1.kp N.FSs.2.1 .nil BJ (Aa (pv 0) (Aa (V0 (K:=K) rfl (pv 1) rfl) Ab))))) rfl))))))))))))),?_⟩
  have hlen:=O.len
  obtain ⟨ur,hur⟩:∃ ur,us.filter (pw ρ "rank")=ur:=⟨_,rfl⟩
  have er:ur.map ρ=rk.map Fp:=by rw [← hur]; exact O.er
  have lr:ur.length=rk.length:=by have:=congrArg List.length er; simpa using this
  have inR:∀ {v},v∈ur->v∈us:=fun {v} hv=>by rw [← hur] at hv; exact (bE.mp hv).1
  have ofR:∀ {v},v∈ur->∃ b∈rk,ρ v=Fp b:=fun {v} hv=>by
   have:ρ v∈rk.map Fp:=by rw [← er]; exact ce hv
   obtain ⟨b,hb,e⟩:=aS.mp this
   exact ⟨b,hb,e.symm⟩
  obtain ⟨ub,hub⟩:∃ ub,us.filter (pw ρ "board")=ub:=⟨_,rfl⟩
  obtain ⟨uk,huk⟩:∃ uk,us.filter (fun v=>Hf (ρ v).w)=uk:=⟨_,rfl⟩
  have eb:ub.map ρ=bs.map Gq:=by rw [← hub]; exact O.eb
  have ek:uk.map ρ=ks:=by rw [← huk]; exact O.ek
  have lb:ub.length=bs.length:=by have:=congrArg List.length eb; simpa using this
  have lku:uk.length=ks.length:=by have:=congrArg List.length ek; simpa using this
  have inB:∀ {v},v∈ub->v∈us:=fun {v} hv=>by rw [← hub] at hv; exact (bE.mp hv).1
  have inKn:∀ {v},v∈uk->v∈us:=fun {v} hv=>by rw [← huk] at hv; exact (bE.mp hv).1
  have ofB:∀ {v},v∈ub->∃ b∈bs,ρ v=Gq b:=fun {v} hv=>by
   have:ρ v∈bs.map Gq:=by rw [← eb]; exact ce hv
   obtain ⟨b,hb,e⟩:=aS.mp this
   exact ⟨b,hb,e.symm⟩
  have l1us:1<=us.length:=by
   have h1:=O.b0
   have h2:ub.length<=us.length:=by rw [← hub]; exact ee _ _
   omega
  refine ⟨_,rfl,p,us,ρ,rfl,hp,hR,l1us,by omega,O.ok,?_,fun H1 s1=>?_⟩
  ·rw [hub]
   cases ub with
   | nil =>
    have:=O.b0
    simp at lb
    omega
   | cons a b=>rfl
  have c1:SX x H H1:=SX.of s1
  have x1:=s1 _ _ hx
  refine ⟨_,rfl,p,_,rfl,ja (.inl (s1 _ _ hp)),fun l1 hl1=>?_⟩
  have nl1:l1 ≠ p:=Ne.symm (Ao (s1 _ _ hp) hl1)
  obtain ⟨H2,eqH,s2,rw2⟩:=Bo (o:=HO.lst us) hl1
  rw [eqH]
  refine ⟨_,rfl,x,C,dx,_,rfl,s2 _ _ x1,T.cl,T.n_row_list,(by show 0<1000; decide),?_⟩
  have c2:SX x H _:=(c1.trans (SX.of s2)).trans (SX.up (o:=HO.ins C dx (Bm "row_list" (.ref l1) [])))
  have x2:upd H2 x (HO.ins C dx (Bm "row_list" (.ref l1) [])) x=_:=Af
  have rw3:=(SX.up (o:=HO.ins C dx (Bm "row_list" (.ref l1) [])):SX x H2 _).lst (s2 _ _ x1) rw2
  generalize upd H2 x (HO.ins C dx (Bm "row_list" (.ref l1) []))=H3 at c2 x2 rw3 ⊢
  have c0:=c2
  replace hR:Rows H3 ρ us:=fun v hv=>c2.tup hx (hR v hv)
  replace hp:=c2.lst hx hp
  clear c2
  replace hx:=x2
  have c2:SX x H3 H3:=SX.of (Am.refl _)
  have R3:Rows H3 ρ us:=fun v hv=>c2.tup hx (hR v hv)
  refine ⟨_,rfl,p,_,"board",ρ,rfl,c2.lst hx hp,R3,by omega,fun D4 H4 hD4 s4 hl4=>?_⟩
  rw [hub] at hl4
  have hS4:Dh K H4 D4 ub:=.inl (.inl hl4)
  refine ⟨D4,rfl,⟨_,hS4⟩,J9 (K:=K) (xs:=ub) (fun _=>true) (fun v=>[.str (ρ v).nm,(ρ v).rest.getD 0 .non]) hS4 (BP (by have:=O.b5; omega)) (fun y hy H' hs R k=>k H' (Am.refl H')) (fun y hy _ H' hs R k=>?_) (fun D5 H5 bvs hD5 s5 hl5 hb5=>?_)⟩
  ·obtain ⟨b,_,e⟩:=ofB hy
   have hT:=(R3 y (inB hy)).mono (s4.trans hs)
   rw [e] at hT k
   obtain ⟨T0,rfl,hT⟩:=hT
   exact ⟨_,rfl,T0,_,_,_,rfl,rfl,ja hT,Aj (j:=1) rfl,_,rfl,T0,_,_,_,rfl,rfl,ja hT,Aj (j:=2) rfl,by show 2<=sizeLine; decide,fun T6 hT6=>k _ _ (Av hT6) ⟨T6,rfl,Af⟩⟩
  rw [ax.mpr (fun _ _=>rfl)] at hb5
  have hb5':Paired (fun b y=>TupAt H5 (bV b) y) bs bvs:=by
   have h1:=DN (F:=fun (r:R) y=>TupAt H5 [.str r.nm,r.rest.getD 0 .non] y) ρ hb5
   rw [eb] at h1
   exact F_ Gq h1
  clear hb5
  refine ⟨_,rfl,x,C,dx,_,rfl,s5 _ _ (s4 _ _ x2),T.cl,T.n_board_list,Nat.lt_of_le_of_lt (CG _ _ _) (by show 1<1000; decide),?_⟩
  have u6:SX x H5 _:=SX.up (o:=HO.ins C dx (Bm "board_list" (.ref D5) (Bm "row_list" (.ref l1) [])))
  have x5:=s5 _ _ (s4 _ _ x2)
  have c6:=(c2.trans (SX.of (s4.trans s5))).trans u6
  have x6:upd H5 x (HO.ins C dx (Bm "board_list" (.ref D5) (Bm "row_list" (.ref l1) []))) x=_:=Af
  have hl6:=u6.lst x5 hl5
  have hb6:=u6.pair x5 hb5'
  generalize upd H5 x (HO.ins C dx (Bm "board_list" (.ref D5) (Bm "row_list" (.ref l1) [])))=H6 at c6 x6 hl6 hb6 ⊢
  clear u6
  have R6:Rows H6 ρ us:=fun v hv=>c6.tup hx (hR v hv)
  refine ⟨_,rfl,p,_,"rank",ρ,rfl,c6.lst hx hp,R6,by omega,fun D7 H7 hD7 s7 hl7=>?_⟩
  rw [hur] at hl7
  have hS7:Dh K H7 D7 ur:=.inl (.inl hl7)
  refine ⟨D7,rfl,⟨_,hS7⟩,J9 (K:=K) (xs:=ur) (fun _=>true) (fun v=>[.str (ρ v).nm,(ρ v).rest.getD 0 .non,(ρ v).rest.getD 1 .non]) hS7 (BP (by have:=O.nr; omega)) (fun y hy H' hs R k=>k H' (Am.refl H')) (fun y hy _ H' hs R k=>?_) (fun D8 H8 rvs hD8 s8 hl8 hr8=>?_)⟩
  ·obtain ⟨b,_,e⟩:=ofR hy
   have hT:=(R6 y (inR hy)).mono (s7.trans hs)
   rw [e] at hT k
   obtain ⟨T0,rfl,hT⟩:=hT
   exact ⟨_,rfl,T0,_,_,_,rfl,rfl,ja hT,Aj (j:=1) rfl,_,rfl,T0,_,_,_,rfl,rfl,ja hT,Aj (j:=2) rfl,_,rfl,T0,_,_,_,rfl,rfl,ja hT,Aj (j:=3) rfl,by show 3<=sizeLine; decide,fun T6 hT6=>k _ _ (Av hT6) ⟨T6,rfl,Af⟩⟩
  rw [ax.mpr (fun _ _=>rfl)] at hr8
  have hr8':Paired (fun (a:Th) y=>TupAt H8 (tV a) y) (rk.map Y_) rvs:=by
   have h1:=DN (F:=fun (r:R) y=>TupAt H8 [.str r.nm,r.rest.getD 0 .non,r.rest.getD 1 .non] y) ρ hr8
   rw [er] at h1
   exact DN (F:=fun (a:Th) y=>TupAt H8 (tV a) y) Y_ (F_ Fp h1)
  clear hr8
  refine ⟨_,rfl,x,C,dx,_,rfl,s8 _ _ (s7 _ _ x6),T.cl,T.n_rank_list,Nat.lt_of_le_of_lt (Nat.le_trans (CG _ _ _) (Nat.succ_le_succ (CG _ _ _))) (by show 2<1000; decide),?_⟩
  have s68:=s7.trans s8
  have x8:=s68 _ _ x6
  have c8:=c6.trans (SX.of s68)
  have hl8b:=s68 _ _ hl6
  have hb8:=BL s68 hb6
  have u9:SX x H8 _:=SX.up (o:=HO.ins C dx (Bm "rank_list" (.ref D8) (Bm "board_list" (.ref D5) (Bm "row_list" (.ref l1) []))))
  have x9:upd H8 x (HO.ins C dx (Bm "rank_list" (.ref D8) (Bm "board_list" (.ref D5) (Bm "row_list" (.ref l1) [])))) x=_:=Af
  have c9:=c8.trans u9
  have bl9:=u9.lst x8 hl8b
  have bp9:=u9.pair x8 hb8
  have rl9:=u9.lst x8 hl8
  have rp9:=u9.pair x8 hr8'
  generalize hf9:Bm "rank_list" (.ref D8) (Bm "board_list" (.ref D5) (Bm "row_list" (.ref l1) []))=f9 at x9 c9 bl9 bp9 rl9 rp9 u9 ⊢
  generalize upd H8 x (HO.ins C dx f9)=H9 at x9 c9 bl9 bp9 rl9 rp9 ⊢
  have n9:f9.length<=3:=by rw [← hf9]; exact bi (CG _ _ _) (cf (bi (CG _ _ _) (cf (CG _ _ _))))
  have lb9:f9.lookup ("board_list" : Str)=some (.ref D5):=by rw [← hf9,An,if_neg (by decide +kernel),An,if_pos rfl]
  have lw9:f9.lookup ("row_list" : Str)=some (.ref l1):=by rw [← hf9,An,if_neg (by decide +kernel),An,if_neg (by decide +kernel),An,if_pos rfl]
  have lr9:f9.lookup ("rank_list" : Str)=some (.ref D8):=by rw [← hf9,An,if_pos rfl]
  have no9:∀ m∈meths,f9.lookup m=none:=fun m hm=>by
   rw [← hf9,An,if_neg (En m hm _ (by decide +kernel)),An,if_neg (En m hm _ (by decide +kernel)),An,if_neg (En m hm _ (by decide +kernel))]
   rfl
  clear u9 hf9
  have R9:Rows H9 ρ us:=fun v hv=>c9.tup hx (hR v hv)
  have hS9:Dh K H9 p us:=.inl (.inl (c9.lst hx hp))
  refine ⟨_,rfl,p,rfl,⟨_,hS9⟩,DY (K:=K) (xs:=us) (fun v=>Hf (ρ v).w) id hS9 (BP (by omega)) (fun y hy H' hs R k=>?_) (fun y hy _ H' hs R k=>⟨_,rfl,k H' (Am.refl H')⟩) (fun D10 H10 hD10 s10 hl10=>?_)⟩
  ·obtain ⟨T0,rfl,hT⟩:=(R9.mono hs) y hy
   exact ⟨_,rfl,T0,_,_,_,rfl,rfl,ja hT,Aj (j:=0) rfl,aK,_,rfl,.inr (T.tK.sq _),rfl,rfl,_,rfl,k H' (Am.refl H')⟩
  rw [hG,huk] at hl10
  refine ⟨_,rfl,x,C,dx,_,rfl,s10 _ _ x9,T.cl,T.n_knob_rows,by omega,?_⟩
  have x10:=s10 _ _ x9
  have u11:SX x H10 _:=SX.up (o:=HO.ins C dx (Bm "knob_rows" (.ref D10) f9))
  have x11:upd H10 x (HO.ins C dx (Bm "knob_rows" (.ref D10) f9)) x=_:=Af
  have c11:=(c9.trans (SX.of s10)).trans u11
  have bl11:=u11.lst x10 (s10 _ _ bl9)
  have bp11:=u11.pair x10 (BL s10 bp9)
  have rl11:=u11.lst x10 (s10 _ _ rl9)
  have rp11:=u11.pair x10 (BL s10 rp9)
  have kr11:=u11.lst x10 hl10
  generalize upd H10 x (HO.ins C dx (Bm "knob_rows" (.ref D10) f9))=H11 at x11 c11 bl11 bp11 rl11 rp11 kr11 ⊢
  clear u11
  have hul:=bp11.length
  have hS11:Dh K H11 D5 bvs:=.inl (.inl bl11)
  refine ⟨_,rfl,x,C,dx,_,_,rfl,x11,T.cl,T.n_board_list,(by rw [An,if_neg (by decide +kernel)]; exact lb9),D5,rfl,⟨_,hS11⟩,DY (K:=K) (xs:=bvs) (fun _=>true) (Jq H11 0) hS11 (BP (by have:=O.b5; omega)) (fun y hy H' hs R k=>k H' (Am.refl H')) (fun y hy _ H' hs R k=>?_) (fun D12 H12 hD12 s12 hl12=>?_)⟩
  ·obtain ⟨b,_,hx'⟩:=Cm bp11 hy
   have e:=Dk hx' 0
   obtain ⟨T0,rfl,hT⟩:=hx'.mono hs
   refine ⟨_,rfl,T0,_,_,_,rfl,rfl,ja hT,Aj (j:=0) rfl,?_⟩
   have:=k H' (Am.refl H')
   rw [e] at this
   exact this
  rw [ax.mpr (fun _ _=>rfl),Ig 0 bp11] at hl12
  have e12:(bs.map fun b=>(bV b).getD 0 V.non)=(bs.map (·.1)).map V.str:=by
   rw [bX]
   rfl
  rw [e12] at hl12
  refine ⟨D12,_,rfl,hl12,by rw [ag]; have:=O.b5; omega,O.nb,fun D13 kvs H13 hD13 s13 hl13 hv13 hw13=>?_⟩
  have s1113:=s12.trans s13
  have x13:=s1113 _ _ x11
  refine ⟨_,rfl,x,C,dx,_,rfl,x13,T.cl,T.n_board_numbers,bt (CG _ _ _) (by omega),?_⟩
  have u14:SX x H13 _:=SX.up (o:=HO.ins C dx (Bm "board_numbers" (.ref D13) (Bm "knob_rows" (.ref D10) f9)))
  have x14:upd H13 x (HO.ins C dx (Bm "board_numbers" (.ref D13) (Bm "knob_rows" (.ref D10) f9))) x=_:=Af
  have c14:=(c11.trans (SX.of s1113)).trans u14
  have bl14:=u14.lst x13 (s1113 _ _ bl11)
  have bp14:=u14.pair x13 (BL s1113 bp11)
  have rl14:=u14.lst x13 (s1113 _ _ rl11)
  have rp14:=u14.pair x13 (BL s1113 rp11)
  have kr14:=u14.lst x13 (s1113 _ _ kr11)
  have bn14:=u14.dk x13 hl13
  generalize upd H13 x (HO.ins C dx (Bm "board_numbers" (.ref D13) (Bm "knob_rows" (.ref D10) f9)))=H14 at x14 c14 bl14 bp14 rl14 rp14 kr14 bn14 ⊢
  clear u14
  have hrl:=rp14.length
  rw [ag] at hrl
  have hS14:Dh K H14 D8 rvs:=.inl (.inl rl14)
  refine ⟨_,rfl,x,C,dx,_,_,rfl,x14,T.cl,T.n_rank_list,(by rw [An,if_neg (by decide +kernel),An,if_neg (by decide +kernel)]; exact lr9),D8,rfl,⟨_,hS14⟩,DY (K:=K) (xs:=rvs) (fun _=>true) (Jq H14 0) hS14 (BP (by have:=O.nr; omega)) (fun y hy H' hs R k=>k H' (Am.refl H')) (fun y hy _ H' hs R k=>?_) (fun D15 H15 hD15 s15 hl15=>?_)⟩
  ·obtain ⟨b,_,hx'⟩:=Cm rp14 hy
   have e:=Dk hx' 0
   obtain ⟨T0,rfl,hT⟩:=hx'.mono hs
   refine ⟨_,rfl,T0,_,_,_,rfl,rfl,ja hT,Aj (j:=0) rfl,?_⟩
   have:=k H' (Am.refl H')
   rw [e] at this
   exact this
  rw [ax.mpr (fun _ _=>rfl),Ig 0 rp14] at hl15
  have e15:((rk.map Y_).map fun b=>(tV b).getD 0 V.non)=(rk.map (·.1)).map V.str:=by
   rw [bX,bX]
   rfl
  rw [e15] at hl15
  refine ⟨D15,_,rfl,hl15,by rw [ag]; have:=O.nr; omega,O.nrr,fun D16 kvs16 H16 hD16 s16 hl16 hv16 hw16=>?_⟩
  have s1416:=s15.trans s16
  have x16:=s1416 _ _ x14
  refine ⟨_,rfl,x,C,dx,_,rfl,x16,T.cl,T.n_rank_numbers,bt (bi (CG _ _ _) (cf (CG _ _ _))) (by omega),?_⟩
  have u17:SX x H16 _:=SX.up (o:=HO.ins C dx (Bm "rank_numbers" (.ref D16) (Bm "board_numbers" (.ref D13) (Bm "knob_rows" (.ref D10) f9))))
  have x17:upd H16 x (HO.ins C dx (Bm "rank_numbers" (.ref D16) (Bm "board_numbers" (.ref D13) (Bm "knob_rows" (.ref D10) f9)))) x=_:=Af
  have c17:=(c14.trans (SX.of s1416)).trans u17
  have bl17:=u17.lst x16 (s1416 _ _ bl14)
  have bp17:=u17.pair x16 (BL s1416 bp14)
  have rl17:=u17.lst x16 (s1416 _ _ rl14)
  have rp17:=u17.pair x16 (BL s1416 rp14)
  have kr17:=u17.lst x16 (s1416 _ _ kr14)
  have bn17:=u17.dk x16 (s1416 _ _ bn14)
  have rn17:=u17.dk x16 hl16
  generalize hf17:Bm "rank_numbers" (.ref D16) (Bm "board_numbers" (.ref D13) (Bm "knob_rows" (.ref D10) f9))=f17 at x17 c17 bl17 bp17 rl17 rp17 kr17 bn17 rn17 u17 ⊢
  generalize upd H16 x (HO.ins C dx f17)=H17 at x17 c17 bl17 bp17 rl17 rp17 kr17 bn17 rn17 ⊢
  have n17:f17.length<=6:=by rw [← hf17]; exact bi (CG _ _ _) (cf (bi (CG _ _ _) (cf (bi (CG _ _ _) (cf n9)))))
  have lb17:f17.lookup ("board_list" : Str)=some (.ref D5):=by rw [← hf17,An,if_neg (by decide +kernel),An,if_neg (by decide +kernel),An,if_neg (by decide +kernel)]; exact lb9
  have lw17:f17.lookup ("row_list" : Str)=some (.ref l1):=by rw [← hf17,An,if_neg (by decide +kernel),An,if_neg (by decide +kernel),An,if_neg (by decide +kernel)]; exact lw9
  have lr17:f17.lookup ("rank_list" : Str)=some (.ref D8):=by rw [← hf17,An,if_neg (by decide +kernel),An,if_neg (by decide +kernel),An,if_neg (by decide +kernel)]; exact lr9
  have lrn17:f17.lookup ("rank_numbers" : Str)=some (.ref D16):=by rw [← hf17,An,if_pos rfl]
  have lbn17:f17.lookup ("board_numbers" : Str)=some (.ref D13):=by rw [← hf17,An,if_neg (by decide +kernel),An,if_pos rfl]
  have lkr17:f17.lookup ("knob_rows" : Str)=some (.ref D10):=by rw [← hf17,An,if_neg (by decide +kernel),An,if_neg (by decide +kernel),An,if_pos rfl]
  have no17:∀ m∈meths,f17.lookup m=none:=fun m hm=>by
   rw [← hf17,An,if_neg (En m hm _ (by decide +kernel)),An,if_neg (En m hm _ (by decide +kernel)),An,if_neg (En m hm _ (by decide +kernel))]
   exact no9 m hm
  clear u17 hf17
  have hS17:Dh K H17 D10 uk:=.inl (.inl kr17)
  have R17:Rows H17 ρ us:=fun v hv=>c17.tup hx (hR v hv)
  refine ⟨_,rfl,x,C,dx,_,_,rfl,x17,T.cl,T.n_knob_rows,lkr17,D10,rfl,⟨_,hS17⟩,DY (K:=K) (xs:=uk) (fun _=>true) (fun v=>.str (ρ v).nm) hS17 (BP (by have:=O.nk; omega)) (fun y hy H' hs R k=>k H' (Am.refl H')) (fun y hy _ H' hs R k=>?_) (fun D18 H18 hD18 s18 hl18=>?_)⟩
  ·obtain ⟨T0,rfl,hT⟩:=(R17.mono hs) y (inKn hy)
   exact ⟨_,rfl,T0,_,_,_,rfl,rfl,ja hT,Aj (j:=1) rfl,k H' (Am.refl H')⟩
  rw [ax.mpr (fun _ _=>rfl)] at hl18
  have e18:(uk.map fun v=>V.str (ρ v).nm)=(ks.map (·.nm)).map V.str:=by
   rw [← ek,bX,bX]
   rfl
  rw [e18] at hl18
  refine ⟨D18,_,rfl,hl18,by rw [ag]; have:=O.nk; omega,O.nn,fun D19 kvs19 H19 hD19 s19 hl19 hv19 hw19=>?_⟩
  have s1719:=s18.trans s19
  have x19:=s1719 _ _ x17
  refine ⟨_,rfl,x,C,dx,_,rfl,x19,T.cl,T.n_knob_numbers,by omega,?_⟩
  have u20:SX x H19 _:=SX.up (o:=HO.ins C dx (Bm "knob_numbers" (.ref D19) f17))
  have x20:upd H19 x (HO.ins C dx (Bm "knob_numbers" (.ref D19) f17)) x=_:=Af
  have c20:=(c17.trans (SX.of s1719)).trans u20
  have bl20:=u20.lst x19 (s1719 _ _ bl17)
  have bp20:=u20.pair x19 (BL s1719 bp17)
  have rl20:=u20.lst x19 (s1719 _ _ rl17)
  have rp20:=u20.pair x19 (BL s1719 rp17)
  have kr20:=u20.lst x19 (s1719 _ _ kr17)
  have kn20:=u20.dk x19 hl19
  have bn20:=u20.dk x19 (s1719 _ _ bn17)
  have rn20:=u20.dk x19 (s1719 _ _ rn17)
  generalize upd H19 x (HO.ins C dx (Bm "knob_numbers" (.ref D19) f17))=H20 at x20 c20 bl20 bp20 rl20 rp20 kr20 bn20 rn20 kn20 ⊢
  clear u20
  refine ⟨_,rfl,x,C,dx,_,_,rfl,x20,T.cl,T.n_board_list,(by rw [An,if_neg (by decide +kernel)]; exact lb17),D5,bs.map jZ,bvs,rfl,bl20,DN (F:=fun (a:Th) y=>TupAt H20 (tV a) y) jZ bp20,(by rw [List.length_map]; have:=O.b5; omega),(fun a ha=>by obtain ⟨b,hb,rfl⟩:=List.mem_map.mp ha; have:=O.sz b hb; show b.2<=97; omega),fun D21 pvs H21 hD21 s21 hl21 hp21=>?_⟩
  have e21:(bs.map jZ).map tN=bs:=by
   rw [bX]
   exact hG bs
  rw [e21] at hp21
  have x21:=s21 _ _ x20
  refine ⟨_,rfl,x,C,dx,_,rfl,x21,T.cl,T.n_key_places,bt (CG _ _ _) (by omega),?_⟩
  have u22:SX x H21 _:=SX.up (o:=HO.ins C dx (Bm "key_places" (.ref D21) (Bm "knob_numbers" (.ref D19) f17)))
  have x22:upd H21 x (HO.ins C dx (Bm "key_places" (.ref D21) (Bm "knob_numbers" (.ref D19) f17))) x=_:=Af
  have c22:=(c20.trans (SX.of s21)).trans u22
  have bl22:=u22.lst x21 (s21 _ _ bl20)
  have bp22:=u22.pair x21 (BL s21 bp20)
  have rl22:=u22.lst x21 (s21 _ _ rl20)
  have rp22:=u22.pair x21 (BL s21 rp20)
  have kr22:=u22.lst x21 (s21 _ _ kr20)
  have kn22:=u22.dk x21 (s21 _ _ kn20)
  have bn22:=u22.dk x21 (s21 _ _ bn20)
  have rn22:=u22.dk x21 (s21 _ _ rn20)
  have kp22:=u22.lst x21 hl21
  have kq22:=u22.pair x21 hp21
  generalize upd H21 x (HO.ins C dx (Bm "key_places" (.ref D21) (Bm "knob_numbers" (.ref D19) f17)))=H22 at x22 c22 bl22 bp22 rl22 rp22 kr22 bn22 rn22 kp22 kq22 kn22 ⊢
  clear u22
  refine ⟨_,rfl,x,C,dx,_,_,rfl,x22,T.cl,T.n_rank_list,(by rw [An,if_neg (by decide +kernel),An,if_neg (by decide +kernel)]; exact lr17),D8,rk.map Y_,rvs,rfl,rl22,rp22,(by rw [ag]; exact O.nr),(fun a ha=>by obtain ⟨r,hr,rfl⟩:=aS.mp ha; exact O.nz r hr),fun D23 qvs H23 hD23 s23 hl23 hp23=>?_⟩
  have e23:(rk.map Y_).map tN=rk.map lg:=by
   rw [bX]
   rfl
  rw [e23] at hp23
  have x23:=s23 _ _ x22
  refine ⟨_,rfl,x,C,dx,_,rfl,x23,T.cl,T.n_pipe_places,bt (bi (CG _ _ _) (cf (CG _ _ _))) (by omega),?_⟩
  have u24:SX x H23 _:=SX.up (o:=HO.ins C dx (Bm "pipe_places" (.ref D23) (Bm "key_places" (.ref D21) (Bm "knob_numbers" (.ref D19) f17))))
  have x24:upd H23 x (HO.ins C dx (Bm "pipe_places" (.ref D23) (Bm "key_places" (.ref D21) (Bm "knob_numbers" (.ref D19) f17)))) x=_:=Af
  have c24:=(c22.trans (SX.of s23)).trans u24
  have bl24:=u24.lst x23 (s23 _ _ bl22)
  have bp24:=u24.pair x23 (BL s23 bp22)
  have kr24:=u24.lst x23 (s23 _ _ kr22)
  have rl24:=u24.lst x23 (s23 _ _ rl22)
  have rp24:=u24.pair x23 (BL s23 rp22)
  have pp24:=u24.lst x23 hl23
  have pq24:=u24.pair x23 hp23
  have kn24:=u24.dk x23 (s23 _ _ kn22)
  have bn24:=u24.dk x23 (s23 _ _ bn22)
  have rn24:=u24.dk x23 (s23 _ _ rn22)
  have kp24:=u24.lst x23 (s23 _ _ kp22)
  have kq24:=u24.pair x23 (BL s23 kq22)
  generalize hf24:Bm "pipe_places" (.ref D23) (Bm "key_places" (.ref D21) (Bm "knob_numbers" (.ref D19) f17))=f24 at x24 c24 bl24 bp24 kr24 rl24 rp24 pp24 pq24 bn24 rn24 kp24 kq24 u24 kn24 ⊢
  generalize upd H23 x (HO.ins C dx f24)=H24 at x24 c24 bl24 bp24 kr24 rl24 rp24 pp24 pq24 bn24 rn24 kp24 kq24 kn24 ⊢
  have n24:f24.length<=9:=by rw [← hf24]; exact bi (CG _ _ _) (cf (bi (CG _ _ _) (cf (bi (CG _ _ _) (cf n17)))))
  have old24:∀ {f:Str} {v:V},¬ f = "pipe_places"->¬ f = "key_places"->¬ f = "knob_numbers"->f17.lookup f=some v->f24.lookup f=some v:=fun h1 h2 h3 h=>by
   rw [← hf24,An,if_neg h1,An,if_neg h2,An,if_neg h3]; exact h
  have lb24:=old24 (by decide +kernel) (by decide +kernel) (by decide +kernel) lb17
  have lbn24:=old24 (by decide +kernel) (by decide +kernel) (by decide +kernel) lbn17
  have lw24:=old24 (by decide +kernel) (by decide +kernel) (by decide +kernel) lw17
  have lkn24:f24.lookup ("knob_numbers" : Str)=some (.ref D19):=by rw [← hf24,An,if_neg (by decide +kernel),An,if_neg (by decide +kernel),An,if_pos rfl]
  have lr24:=old24 (by decide +kernel) (by decide +kernel) (by decide +kernel) lr17
  have lpp24:f24.lookup ("pipe_places" : Str)=some (.ref D23):=by rw [← hf24,An,if_pos rfl]
  have lrn24:=old24 (by decide +kernel) (by decide +kernel) (by decide +kernel) lrn17
  have lkr24:=old24 (by decide +kernel) (by decide +kernel) (by decide +kernel) lkr17
  have lkp24:f24.lookup ("key_places" : Str)=some (.ref D21):=by rw [← hf24,An,if_neg (by decide +kernel),An,if_pos rfl]
  have no24:∀ m∈meths,f24.lookup m=none:=fun m hm=>by
   rw [← hf24,An,if_neg (En m hm _ (by decide +kernel)),An,if_neg (En m hm _ (by decide +kernel)),An,if_neg (En m hm _ (by decide +kernel))]
   exact no17 m hm
  clear u24 hf24 old24
  have R24:Rows H24 ρ us:=fun v hv=>c24.tup hx (hR v hv)
  refine ⟨_,rfl,_,rfl,x,C,dx,_,_,rfl,x24,T.cl,T.n_rank_numbers,lrn24,p,D16,us,ρ,rk,kvs16,rfl,c24.lst hx hp,R24,by omega,rn24,(fun i r hr=>hv16 i r.1 (by rw [bo,hr]; rfl)),O.nrr,O.ln,fun D25 H25 hD25 s25 hl25=>?_⟩
  have x25:=s25 _ _ x24
  refine ⟨_,rfl,x,C,dx,_,rfl,x25,T.cl,T.n_knob_lines,by omega,?_⟩
  have u26:SX x H25 _:=SX.up (o:=HO.ins C dx (Bm "knob_lines" (.ref D25) f24))
  have x26:upd H25 x (HO.ins C dx (Bm "knob_lines" (.ref D25) f24)) x=_:=Af
  have c26:=(c24.trans (SX.of s25)).trans u26
  have bl26:=u26.lst x25 (s25 _ _ bl24)
  have bp26:=u26.pair x25 (BL s25 bp24)
  have kr26:=u26.lst x25 (s25 _ _ kr24)
  have rl26:=u26.lst x25 (s25 _ _ rl24)
  have rp26:=u26.pair x25 (BL s25 rp24)
  have pp26:=u26.lst x25 (s25 _ _ pp24)
  have pq26:=u26.pair x25 (BL s25 pq24)
  have ln26:=hl25.sx u26 x25
  have kn26:=u26.dk x25 (s25 _ _ kn24)
  have bn26:=u26.dk x25 (s25 _ _ bn24)
  have rn26:=u26.dk x25 (s25 _ _ rn24)
  have kp26:=u26.lst x25 (s25 _ _ kp24)
  have kq26:=u26.pair x25 (BL s25 kq24)
  generalize upd H25 x (HO.ins C dx (Bm "knob_lines" (.ref D25) f24))=H26 at x26 c26 bl26 bp26 kr26 rl26 rp26 pp26 pq26 ln26 bn26 rn26 kp26 kq26 kn26 ⊢
  clear u26
  have R26:Rows H26 ρ us:=fun v hv=>c26.tup hx (hR v hv)
  refine ⟨_,rfl,p,_,"step",ρ,rfl,c26.lst hx hp,R26,by omega,fun D27 H27 hD27 s27 hl27=>?_⟩
  have kn27:=s27 _ _ kn26
  have x27:=s27 _ _ x26
  have hS27:Dh K H27 D27 (us.filter (pw ρ "step")):=.inl (.inl hl27)
  have lus:(us.filter (pw ρ "step")).length<=us.length:=ee _ _
  refine ⟨D27,rfl,⟨_,hS27⟩,DY (K:=K) (xs:=us.filter (pw ρ "step")) (fun _=>true) (fun v=>.int (stN ks (ρ v):Nat)) hS27 (BP (by omega)) (fun y hy H' hs R k=>k H' (Am.refl H')) (fun y hy _ H' hs R k=>?_) (fun D28 H28 hD28 s28 hl28=>?_)⟩
  ·obtain ⟨hyu,hyw⟩:=bE.mp hy
   obtain ⟨ts,ets,t24,tin⟩:=O.st y hyu (V.str.inj (of_decide_eq_true hyw))
   obtain ⟨T0,rfl,hT⟩:=((R26.mono s27).mono hs) y hyu
   refine ⟨_,rfl,_,rfl,x,C,dx,_,_,rfl,hs _ _ x27,T.cl,T.n_knob_numbers,(by rw [An,if_neg (by decide +kernel)]; exact lkn24),T0,D19,ρ (.ref T0),kvs19,ks.map (·.nm),ts,rfl,hT,hs _ _ kn27,ets,t24,(by rw [ag]; have:=O.nk; omega),hv19,tin,fun H3 s3=>?_⟩
   have e:Wd.mk (ts.map fun t=>(ks.map (·.nm)).idxOf t)=stN ks (ρ (.ref T0)):=by unfold stN; rw [Hc ets]
   rw [e]
   exact k H3 s3
  rw [ax.mpr (fun _ _=>rfl)] at hl28
  have s2628:=s27.trans s28
  have x28:=s2628 _ _ x26
  refine ⟨_,rfl,x,C,dx,_,rfl,x28,T.cl,T.n_step_sets,bt (CG _ _ _) (by omega),?_⟩
  have u29:SX x H28 _:=SX.up (o:=HO.ins C dx (Bm "step_sets" (.ref D28) (Bm "knob_lines" (.ref D25) f24)))
  have old:∀ {f:Str},¬ f = "step_sets"->¬ f = "knob_lines"->(Bm "step_sets" (.ref D28) (Bm "knob_lines" (.ref D25) f24)).lookup f=f24.lookup f:=fun h1 h2=>by rw [An,if_neg h1,An,if_neg h2]
  have es:((us.filter (pw ρ "step")).map fun v=>V.int (stN ks (ρ v):Nat))=(((us.filter (pw ρ "step")).map fun v=>stN ks (ρ v)).map fun n:Nat=>V.int (n:Int)):=by rw [bX]; rfl
  rw [es] at hl28
  have hpF:=u29.lst x28 (s2628 _ _ (c26.lst hx hp))
  have nx:x ≠ p:=fun z=>by rw [z,hp] at hx; cases hx
  have n5:D5 ≠ p:=Ne.symm (Ao (s4 _ _ hp) hD5)
  have n8:D8 ≠ p:=Ne.symm (Ao (s7 _ _ (c6.lst hx hp)) hD8)
  have n10:D10 ≠ p:=Ne.symm (Ao (c9.lst hx hp) hD10)
  have n21:D21 ≠ p:=Ne.symm (Ao (c20.lst hx hp) hD21)
  have n23:D23 ≠ p:=Ne.symm (Ao (c22.lst hx hp) hD23)
  have n28:D28 ≠ p:=Ne.symm (Ao (s27 _ _ (c26.lst hx hp)) hD28)
  suffices key:∀ H'',SX p (upd H28 x _) H''->Sw C H'' x us bs rk ks (linesOf rk (us.map ρ)) ((us.filter (pw ρ "step")).map fun v=>stN ks (ρ v)) from q _ (key _ SX.refl) key  (c0.trans ((c26.trans (SX.of s2628)).trans u29))
  intro H'' sp
  refine ⟨⟨⟨⟨dx,_,D5,D13,D21,D10,bvs,pvs,uk,kvs,sp _ _ Af nx,(old (by decide +kernel) (by decide +kernel)).trans lb24,(old (by decide +kernel) (by decide +kernel)).trans lbn24,(old (by decide +kernel) (by decide +kernel)).trans lkp24,(old (by decide +kernel) (by decide +kernel)).trans lkr24,
   fun m hm=>(old (En m hm _ (by decide +kernel)) (En m hm _ (by decide +kernel))).trans (no24 m hm),sp _ _ (u29.lst x28 (s2628 _ _ bl26)) n5,JD sp hpF (u29.pair x28 (BL s2628 bp26)),QQ sp hpF (u29.dk x28 (s2628 _ _ bn26)),fun i b hb=>hv13 i b.1 (by rw [bo,hb]; rfl),sp _ _ (u29.lst x28 (s2628 _ _ kp26)) n21,JD sp hpF (u29.pair x28 (BL s2628 kq26)),sp _ _ (u29.lst x28 (s2628 _ _ kr26)) n10,?_⟩,O.b5,O.sz,by have:=O.nk; omega⟩,⟨dx,_,D8,D16,D23,D25,rvs,qvs,kvs16,sp _ _ Af nx,(old (by decide +kernel) (by decide +kernel)).trans lr24,(old (by decide +kernel) (by decide +kernel)).trans lrn24,(old (by decide +kernel) (by decide +kernel)).trans lpp24,(by rw [An,if_neg (by decide +kernel),An,if_pos rfl]),sp _ _ (u29.lst x28 (s2628 _ _ rl26)) n8,JD sp hpF (u29.pair x28 (BL s2628 rp26)),QQ sp hpF (u29.dk x28 (s2628 _ _ rn26)),(fun i r hr=>hv16 i r.1 (by rw [bo,hr]; rfl)),sp _ _ (u29.lst x28 (s2628 _ _ pp26)) n23,JD sp hpF (u29.pair x28 (BL s2628 pq26)),((ln26.mono s2628).sx u29 x28).sp sp hpF⟩,O.nr,O.nz,?_⟩,dx,_,l1,D19,D28,kvs19,sp _ _ Af nx,(old (by decide +kernel) (by decide +kernel)).trans lw24,(old (by decide +kernel) (by decide +kernel)).trans lkn24,(by rw [An,if_pos rfl]),sp _ _ (u29.lst x28 (s2628 _ _ (c26.lst hx rw3))) nl1,QQ sp hpF (u29.dk x28 (s2628 _ _ kn26)),hv19,hw19,sp _ _ (u29.lst x28 hl28) n28,D13,kvs,(old (by decide +kernel) (by decide +kernel)).trans lbn24,QQ sp hpF (u29.dk x28 (s2628 _ _ bn26)),hw13⟩
  case refine_2=>rw [Q9 O.ln,← ek,ag,huk]
  rw [← ek]
  refine DN (F:=fun (r:R) y=>TupAt _ r.v y) ρ ?_
  have R29:Rows _ ρ uk:=fun v hv=>S_ sp hpF (u29.tup x28 ((R26.mono s2628) v (inKn hv)))
  generalize H''=H29 at R29 ⊢
  have key:∀ l:List V,(∀ v∈l,TupAt H29 (ρ v).v v)->Paired (fun v y=>TupAt H29 (ρ v).v y) l l:=by
   intro l
   induction l with
   | nil=>intro _; exact .nil
   | cons a b ih=>intro h; exact .cons (h a (bv ..)) (ih fun v hv=>h v (bg _ hv))
  exact key uk R29
noncomputable def Q5 (K:PySem.W.Frag):Sp:=fun vs H Q _=>∃ (a:Addr) (ns:List Int),vs=[.ref a]/\Dh K H a (ns.map V.int)/\ns.length<=63/\∀ H',Q (.bl true) H'
theorem Lk.mono {K:PySem.W.Frag} {aB aP aM:Addr} {H0 H H':Hp} {A:Kq} {S:Pl} {Cs:List Addr} (s:Am H H') (h:Lk K aB aP aM H0 H A S Cs):Lk K aB aP aM H0 H' A S Cs:=by
 obtain ⟨lo,hA⟩:=h.h
 exact ⟨⟨lo,hA.mono s⟩,h.k,h.b1,h.l,h.f0⟩
theorem Lk.org {K:PySem.W.Frag} {aB aP aM:Addr} {H0 H:Hp} {A:Kq} {S:Pl} {Cs:List Addr} (h:Lk K aB aP aM H0 H A S Cs) {vs:List V} (hv:Paired (fun (r:R) v=>TupAt H r.v v) S.rows vs):Rows H (Kp H) vs/\iD K aB aP aM (Kp H) vs S.bs S.rk S.ks/\linesOf S.rk (vs.map (Kp H))=S.ls/\((vs.filter (pw (Kp H) "step")).map fun v=>stN S.ks (Kp H v))=S.ch.map Wd.mk:=by
 obtain ⟨bb,lo,hbb,k⟩:=h.k
 have:=h.l
 have:=k.lk
 exact k.bl.fin hv h.b1 k.b5 (fun b hb=>(k.sb b hb).2) k.r12 (fun r hr=>(k.sr r hr).2) (by omega) k.db k.dr k.dk (by omega)
theorem Kg:BX ["_law_script","_law_plan_here","_law_rows","_law_cell","_law_place","_law_spoilt","_law_later"] ["_law_script"] (Ai MT):=Cj
theorem aY {c:TT} {t t2 u:TS} {D:Ends} {σ:St} {H:Hp} (P:St->Hp->Prop) (h1:∀ D':Ends,(∀ σ' H',P σ' H'->D'.nx σ' H')->Uk c t t2 D' σ H) (h2:∀ σ' H',P σ' H'->u D σ' H'):Vg (Uk c t t2) u D σ H:=h1 { D with nx:=u D } h2
theorem gN {i:Nat} {v:V} {σ:St} {H:Hp} {Q:St->Hp->Prop} (h:Q (σ.set i (some v)) H):Df i v σ H Q:=h
theorem Yc {f:Addr} {fd:FuncData} (F:Dr K "law" "law" MT f fd) (N:jC K mg C cN cO c0 c1 c2 c3 c4 c5 c6 c7 c8 c9 c10 c11 c12 c13 aD) (T:Txt K w.params mg C cN cO c0 c1 c2 c3 c4 c5 c6 c7 c8 c9 c10 c11 c12 c13 aN aK aB aP aM) (F0:gB K aB aP aM) (W0:KW K aP):BW P w K mg base Br 12 f fd ["_law_script"] (Q5 K):=by
 refine F.ok Kg (fun vs H Q E h=>?_) (fun cdv A outer s H vs Q E hr h=>?_)
 ·obtain ⟨a,ns,rfl,_⟩:=h
  rfl
 ·obtain ⟨a,ns,rfl,hS,hlen,q⟩:=h
  have hu:=FJ hr
  refine ⟨_,(@Ae _ _ _ _ _ (@CJ _ _ _ _ _ _ 1 Kg.nd rfl (Or.inl rfl) (Ah (dq N T) (ad hr) rfl N.FLp.2.2 N.FLp.1.kp N.FLp.2.1 .nil BJ (@Ar _ _ _ _ _ rfl (pv 0) (@Ar _ _ _ _ _ rfl Ac Ab))) rfl (Or.inl rfl)) (@Ae _ _ _ _ _ (@CJ _ _ _ _ _ _ 2 Kg.nd rfl (Or.inl rfl) (Ba hu (pv 1) Al (fun _ _=>rfl)) rfl (Or.inl rfl)) (@Ae _ _ _ _ _ (Ez PassesOwn.never rfl (CN (Aw Eu (Cr HR (pv 0) (DG Ac) (DG Ac)) (@Bh _ _ _ _ (@Ar _ _ _ _ _ rfl (Ak Az rfl T.len ar (@Ar _ _ _ _ _ rfl (pv 0) Ab)) Ab)))) (Cu (i:=3) Kg.nd rfl (Or.inl rfl)) (@Ae _ _ _ _ _ (@CJ _ _ _ _ _ _ 4 Kg.nd rfl (Or.inl rfl) (Ah (Jp N T) (ad hr) rfl N.FMi.2.2 N.FMi.1.kp N.FMi.2.1 .nil BJ (@Ar _ _ _ _ _ rfl (pv 3) (@Ar _ _ _ _ _ rfl Ac (@Ar _ _ _ _ _ rfl (Ak Az rfl T.len ar (@Ar _ _ _ _ _ rfl (pv 2) Ab)) Ab)))) rfl (Or.inl rfl)) (@Ae _ _ _ _ _ (@CJ _ _ _ _ _ _ 5 Kg.nd rfl (Or.inl rfl) (Aw Eu (Aw Eu (Cr HR (pv 2) Dv (DG (pv 4))) (@Bh _ _ _ _ (@Ar _ _ _ _ _ rfl (Ah (dD N T) (ad hr) rfl N.FBr.2.2 N.FBr.1.kp N.FBr.2.1 .nil BJ (@Ar _ _ _ _ _ rfl (pv 1) (@Ar _ _ _ _ _ rfl (pv 4) (@Ar _ _ _ _ _ rfl (pv 3) Ab)))) Ab))) (Cr HR (pv 2) (DG (Aw CT (pv 4) Ac)) Dv)) rfl (Or.inl rfl)) (@Ae _ _ _ _ _ (@Bf _ _ _ _ _ _ _ _ (PW.pt (Eg (A_ Bw (Aw Bs (Aw CP (pv 3) Ac) Ac) Ac (BV _)) (Ea (A_ FP (Aw CT (pv 4) Ac) (Ak Az rfl T.len ar (@Ar _ _ _ _ _ rfl (pv 2) Ab)) (BV _))))) (@Ae _ _ _ _ _ (@CJ _ _ _ _ _ _ 6 Kg.nd rfl (Or.inl rfl) (Aw CT (Aw CT (pv 4) Ac) (Ah (Jp N T) (ad hr) rfl N.FMi.2.2 N.FMi.1.kp N.FMi.2.1 .nil BJ (@Ar _ _ _ _ _ rfl (pv 3) (@Ar _ _ _ _ _ rfl Ac (@Ar _ _ _ _ _ rfl (Aw Dc (Aw Dc (Ak Az rfl T.len ar (@Ar _ _ _ _ _ rfl (pv 2) Ab)) (pv 4)) Ac) Ab))))) rfl (Or.inl rfl)) (@Ag _ _ _ (Vo (pv 5) (pv 6) (@BK _ _ _ _ _ _ _ Bt (@Bh _ _ _ _ (@Ar _ _ _ _ _ rfl DX (@Ar _ _ _ _ _ rfl (@BK _ _ _ _ _ _ _ Bt (pv 2) Ac (fun _ _=>rfl)) Ab))) (Aw Bs (Aw CP (pv 3) Ac) Ac) (fun _ _=>rfl)) rfl))) BR) (@Ae _ _ _ _ _ (@Bf _ _ _ _ _ _ _ _ (PW.pt (GF (Di (Ed (Ah (ZJ N T) (ad hr) rfl N.FRf.2.2 N.FRf.1.kp N.FRf.2.1 .nil BJ (@Ar _ _ _ _ _ rfl (pv 5) (@Ar _ _ _ _ _ rfl (pv 4) Ab))))) (Fi (Di (Ed (Ah (ZJ N T) (ad hr) rfl N.FRf.2.2 N.FRf.1.kp N.FRf.2.1 .nil BJ (@Ar _ _ _ _ _ rfl (Ah (d7 N T) (ad hr) rfl N.FNo.2.2 N.FNo.1.kp N.FNo.2.1 .nil BJ (@Ar _ _ _ _ _ rfl (pv 1) (@Ar _ _ _ _ _ rfl (Aw CP (pv 3) Ac) Ab))) (@Ar _ _ _ _ _ rfl DX Ab)))))))) (@Ag _ _ _ (@Ax _ _ _ _ Ek)) BR) (@Ag _ _ _ (@Bf _ _ _ _ _ _ _ _ (A_ (Nu 1 (bt (im (by decide:2<=64) _) hr.units)) (U3 (Wh N.FOi.2.2 (ZV N T) (ad hr) rfl T.mC N.FOi.2.1 .nil BJ (@Ar _ _ _ _ _ rfl (Dw FT rfl T.list dv (@Ar _ _ _ _ _ rfl (pv 2) Ab)) Ab)) T.cl N.FOw.2.2 (cz N T) (ad hr) N.FOw.2.1 .nil BJ) (pv 2) (BV _)) (@Ag _ _ _ (@Ax _ _ _ _ Ek)) BR))))))) (@Ag _ _ _ (@Ax _ _ _ _ Ek))))),?_⟩
  refine ⟨_,rfl,a,2,ns,rfl,hS,by omega,F0,fun A S Cs H1 P1=>?_⟩
  obtain ⟨lo,hA⟩:=P1.h
  obtain ⟨kvs,g1,g2,y1,y2,y3,y4,_⟩:=hA.dp
  obtain ⟨vr,r1,r2⟩:=hA.r
  obtain ⟨bb,lo',hbb,kk⟩:=P1.k
  have hb1:=P1.b1
  have l61:=P1.l
  have lvr:S.rows.length=vr.length:=r2.length
  have gr:=CQ.k (k:=Sum.inr "rows") g1
  rw [y1] at gr
  have em:=Mt r2
  have hR:Rows H1 (Kp H1) vr:=fun v hv=>by
   obtain ⟨r,_,hr⟩:=Cm r2 hv
   rw [Mg hr]
   exact hr
  have O:=kk.bl.ok (Kp H1) vr em
  have lv1:1<=vr.length:=by
   cases vr with
   | nil =>
    have:=O.eb
    have h0:S.bs.length=0:=by have:=congrArg List.length this; simpa using this.symm
    omega
   | cons a l=>simp
  refine ⟨_,rfl,A.p,_,rfl,gr,?_⟩
  have sH1:Am H H1:=hA.sm
  obtain ⟨ms,ems,lms⟩:=K6 ns (lo:=2) (hi:=10) (by omega) (by omega)
  refine ⟨_,rfl,_,rfl,_,rfl,a,_,rfl,sH1.seq hS,fun p10 hp10=>?_⟩
  have t10:=Av (o:=HO.lst (Cv (ns.map V.int) (some 2) (some 10))) hp10
  have l10:upd H1 p10 (HO.lst (Cv (ns.map V.int) (some 2) (some 10))) p10=_:=Af
  generalize upd H1 p10 (HO.lst (Cv (ns.map V.int) (some 2) (some 10)))=H10 at t10 l10 ⊢
  rw [ems] at l10
  refine ⟨_,rfl,a,_,rfl,.inl ((sH1.trans t10).seq hS),by show 1<=sizeLine; decide,fun p11 hp11=>?_⟩
  obtain ⟨H11,eqH,t11,l11⟩:=Bo (o:=HO.lst [V.int (((ns.map V.int).length:Nat):Int)]) hp11
  rw [eqH]
  refine ⟨p10,p11,_,_,rfl,rfl,t11 _ _ l10,l11,Bl (by rw [List.length_map]; show ms.length+1<=1000; omega),fun p12 hp12=>?_⟩
  obtain ⟨cs,ecs⟩:∃ cs:List Int,ms.map V.int++[V.int (((ns.map V.int).length:Nat):Int)]=cs.map V.int:=⟨ms++[(((ns.map V.int).length:Nat):Int)],by rw [cS]; rfl⟩
  rw [ecs]
  obtain ⟨H12,eqH,t12,l12⟩:=Bo (o:=HO.lst (cs.map V.int)) hp12
  rw [eqH]
  have s112:Am H1 H12:=t10.trans (t11.trans t12)
  have hS12:Dh K H12 p12 (cs.map V.int):=.inl (.inl l12)
  refine ⟨p12,rfl,⟨_,hS12⟩,Iz (K:=K) (a:=p12) (xs:=cs.map V.int) (fun i σ H'=>Am H12 H'/\∃ v3 v4 v5 v6,σ=[some (.ref a),some (.ref A.p),some (.ref A.r),v3,v4,v5,v6]) ⟨Am.refl _,_,_,_,_,rfl⟩ (fun i σ H' _ h=>h.1.seq hS12) ?_ ?_⟩
  ·rintro i y σ H13 hy ⟨s13',v3,v4,v5,v6,rfl⟩
   obtain ⟨c,hc,rfl⟩:=aS.mp (al hy)
   have s1a:=s112.trans s13'
   have F2:=F0.f
   refine ⟨_,rfl,_,rfl,A.r,vr,rfl,ja (.inl (s1a _ _ r1)),c,50111,(vr.length:Int),rfl,by omega,by decide,by decide,fun z z0 z1=>?_⟩
   obtain ⟨k,rfl⟩:∃ k:Nat,z=(k:Int):=⟨z.toNat,by omega⟩
   have hkl:k<vr.length:=by omega
   obtain ⟨Ta,hk⟩:∃ Ta,vr[k]? = some (.ref Ta):=by
    obtain ⟨T2,e2,_⟩:=hR vr[k] (eh hkl)
    exact ⟨T2,by rw [ae hkl,e2]⟩
   have c1:Cv vr none (some (k:Int))=vr.take k:=Lg (by omega)
   have c2:Cv vr (some ((k:Int)+1)) none=vr.drop (k+1):=Jg (k:=k+1)
   refine ⟨_,rfl,_,rfl,_,rfl,A.r,vr,rfl,ja (s1a _ _ r1),fun p14 hp14=>?_⟩
   rw [c1]
   obtain ⟨H14,eqH,s14,l14⟩:=Bo (o:=HO.lst (vr.take k)) hp14
   rw [eqH]
   have s1b:=s1a.trans s14
   refine ⟨_,rfl,_,rfl,_,rfl,H,A,S,Cs,lo,Ta,_,vr,Kp H1,k,c,rfl,hA.mono s1b,s1b _ _ r1,hk,(fun u hu=>(hR.mono s1b) u (ck hu)),Vd F2 kk.bl em (hR.mono s1b) hk,(fun h0=>We F2 hbb kk l61 P1.f0 hb1 em h0 hkl),kk.r12,(fun x hx=>(JT F2 kk.bl em x hx).1),W0,fun v H15 s15 bad=>?_⟩
   refine ⟨by show 1<=sizeLine; decide,fun p16 hp16=>?_⟩
   obtain ⟨H16,eqH,s16,l16⟩:=Bo (o:=HO.lst [v]) hp16
   rw [eqH]
   refine ⟨p14,p16,_,_,rfl,rfl,s16 _ _ (s15 _ _ l14),l16,Bl (by simp; omega),fun p17 hp17=>?_⟩
   obtain ⟨H17,eqH,s17,l17⟩:=Bo (o:=HO.lst (vr.take k++[v])) hp17
   rw [eqH]
   have s1c:=s1b.trans (s15.trans (s16.trans s17))
   refine ⟨_,rfl,_,rfl,_,_,rfl,rfl,_,rfl,A.r,vr,rfl,ja (s1c _ _ r1),fun p18 hp18=>?_⟩
   rw [c2]
   obtain ⟨H18,eqH,s18,l18⟩:=Bo (o:=HO.lst (vr.drop (k+1))) hp18
   rw [eqH]
   refine ⟨p17,p18,_,_,rfl,rfl,s18 _ _ l17,l18,Bl (by simp; omega),fun p19 hp19=>?_⟩
   rw [TJ hkl]
   have s19:=Av (o:=HO.lst (vr.set k v)) hp19
   have l19:upd H18 p19 (HO.lst (vr.set k v)) p19=some (.lst (vr.set k v)):=Af
   have n19:H13 p19=none:=s14.free (s15.free (s16.free (s17.free (s18.free hp19))))
   generalize upd H18 p19 (HO.lst (vr.set k v))=H19 at s19 l19 ⊢
   have n15:H15 p19=none:=s16.free (s17.free (s18.free hp19))
   have s159:Am H15 H19:=s16.trans (s17.trans (s18.trans s19))
   have tk0:(vr.set k v).take k=vr.take k:=List.take_set_of_le (am _)
   have at0:(vr.set k v)[k]? = some v:=eJ hkl
   have hb9:Eo K aB aP aM H19 (Kp H1) (vr.take k) v false:=bad.mono s159
   refine gN (i:=5) ?_
   dsimp only
   refine aY (fun σ' H'=>Am H15 H'/\(∃ X,H' p19=some (.lst X)/\X.take k=vr.take k/\X[k]? = some v/\X.length=vr.length)/\∃ v6,σ'=[some (.ref a),some (.ref A.p),some (.ref A.r),some (.int c),some (.int (k:Nat)),some (.ref p19),v6]) (fun D' hD'=>?_) (fun σ' H' h=>?_)
   ·have s1d:Am H1 H19:=s1c.trans (s18.trans s19)
    refine ⟨_,rfl,_,_,rfl,rfl,⟨by decide,by decide⟩,_,_,rfl,rfl,(by show (0:Int)<2; decide),rfl,_,rfl,Bd (fun _=>?_) (fun _=>hD' _ _ ⟨s159,⟨_,l19,tk0,at0,by rw [List.length_set]⟩,_,rfl⟩)⟩
    refine ⟨_,rfl,_,_,rfl,rfl,_,rfl,A.r,vr,rfl,ja (.inl (s1d _ _ r1)),_,_,rfl,rfl,_,rfl,Bd (fun z=>?_) (fun _=>hD' _ _ ⟨s159,⟨_,l19,tk0,at0,by rw [gE]⟩,_,rfl⟩)⟩
    have hk1:k+1<vr.length:=by have:=of_decide_eq_true z; omega
    refine ⟨_,rfl,_,_,rfl,rfl,_,rfl,_,rfl,A.r,vr,rfl,ja (.inl (s1d _ _ r1)),_,rfl,_,_,rfl,rfl,_,_,rfl,rfl,c,50119,(vr.length:Int) - (k:Int) - 1,rfl,by omega,by decide,by decide,fun z2 z20 z21=>?_⟩
    refine ⟨_,_,rfl,rfl,?_⟩
    obtain ⟨v0,hv0⟩:∃ v0,vr[0]? = some v0:=⟨_,ae (by omega)⟩
    refine ⟨_,rfl,A.r,_,_,v0,rfl,rfl,ja (s1d _ _ r1),Aj (j:=0) hv0,by show 2<=sizeLine; decide,fun p20 hp20=>?_⟩
    obtain ⟨H20,eqH,s20,l20⟩:=Bo (o:=HO.lst [V.non,v0]) hp20
    rw [eqH]
    obtain ⟨x,hx,ha⟩:=pick (xs:=[V.non,v0]) (c / 6) 2 rfl (by decide)
    refine ⟨_,rfl,_,_,rfl,rfl,⟨by decide,by decide⟩,_,_,rfl,rfl,(by show (0:Int)<2; decide),p20,_,_,x,rfl,rfl,ja l20,ha,_,rfl,_,rfl,p19,_,_,rfl,rfl,s20 _ _ l19,?_,?_,?_,hD' _ _ ⟨?_,⟨_,Af,?_,?_,?_⟩,_,rfl⟩⟩
    ·show (0:Int)<=(k:Int)+1+z2
     omega
    ·show (k:Int)+1+z2<(((vr.set k v).length:Nat):Int)
     rw [gE]
     omega
    ·show (k:Int)+1+z2<2 ^ 62
     omega
    ·intro b o e
     rw [Aq (Ao e n15)]
     exact s20 _ _ (s159 _ _ e)
    ·show ((vr.set k v).set ((k:Int)+1+z2).toNat x).take k=_
     rw [List.take_set_of_le (by omega)]
     exact tk0
    ·show ((vr.set k v).set ((k:Int)+1+z2).toNat x)[k]? = _
     rw [fS (by omega)]
     exact at0
    ·rw [gE,gE]
   ·obtain ⟨s15',⟨X,lX,tkX,atX,lnX⟩,v6',rfl⟩:=h
    have s1e:Am H1 H':=s1b.trans (s15.trans s15')
    have s13e:Am H13 H':=s14.trans (s15.trans s15')
    refine ⟨_,rfl,_,rfl,.ref p19,.int (k:Nat),rfl,Ox F2 kk.bl em (hR.mono s1e) lX (by omega) tkX atX (bad.mono s15'),fun H21 s21=>?_⟩
    have s1f:=s1e.trans s21
    refine ⟨_,rfl,Cp ?_⟩
    refine ⟨_,rfl,_,rfl,_,_,rfl,rfl,⟨by decide,by decide⟩,H,A,S,Cs,lo,vr,c / 5,rfl,hA.mono s1f,s1f _ _ r1,lv1,by omega,kk.r12,(fun H5 D5 ys5=>Rp F2 (JT F2 kk.bl em) kk.dr kk.r12 H5 D5 ys5),fun v7 H22 s22 rf=>?_⟩
    refine ⟨v7,.non,rfl,rf,fun H23 s23=>?_⟩
    refine ⟨_,rfl,Cp ?_⟩
    have s1g:=s1f.trans (s22.trans s23)
    have P2:=P1.mono s1g
    have rA:=s1g _ _ r1
    refine ⟨_,rfl,A.r,vr,rfl,ja (.inl rA),fun L hL=>?_⟩
    obtain ⟨H24,eqH,s24,l24⟩:=Bo (o:=HO.lst vr) hL
    rw [eqH]
    have t24:=BL (s1g.trans s24) r2
    obtain ⟨R2,O2,eL,eS⟩:=(P2.mono s24).org t24
    intro x dx nx ndx nex
    have sx:Am H24 (upd (upd H24 dx (.own x)) x (.ins C dx [])):=fun b o e=>by
     rw [Aq (Ao e nx),Aq (Ao e ndx)]
     exact e
    refine ⟨x,dx,L,vr,Kp H24,S.bs,S.rk,S.ks,rfl,Af,sx _ _ l24,R2.mono sx,O2,fun H3 OA _ SXh=>⟨rfl,?_⟩⟩
    have s243:Am H24 H3:=fun b o e=>SXh b o (sx b o e) (Ao e nx)
    clear SXh sx nx ndx nex
    obtain ⟨⟨dy,fs,bl,bn,kp,kr,bvs,pvs,uvs,kvs9,h1,l1,l2',l3,l4,lm,_⟩,_⟩:=id OA.o.o
    have s233:=s24.trans s243
    refine ⟨x,dy,fs,rfl,h1,lm _ (by decide +kernel),x,vr,S.bs,S.rk,S.ks,_,_,rfl,OA,fun D4 H4 hD4 s4 l4'=>?_⟩
    have s1h:=s1g.trans (s233.trans s4)
    refine ⟨_,rfl,D4,A.r,rfl,rfl,.inr ⟨D4,A.r,_,_,rfl,rfl,.inl ⟨l4',s1h _ _ r1⟩,Oa (BL s1h r2) (BL s1h r2) kk.bl.parts⟩,_,rfl,Cp ?_⟩
    exact ⟨s13'.trans (s13e.trans (s21.trans (s22.trans (s23.trans (s233.trans s4))))),_,_,_,_,rfl⟩
  ·rintro σ H' ⟨_,v3,v4,v5,v6,rfl⟩
   exact q _
end
end K10
end PartK10u
section PartK10z
set_option maxHeartbeats 4000000
theorem UL1 {α:Type} {us:List α} (h:us.length=1):∃ a,us=[a]:=match us,h with | [a],_=>⟨a,rfl⟩
theorem UL2 {α:Type} {us:List α} (h:us.length=2):∃ a b,us=[a,b]:=match us,h with | [a,b],_=>⟨a,b,rfl⟩
theorem UL3 {α:Type} {us:List α} (h:us.length=3):∃ a b c,us=[a,b,c]:=match us,h with | [a,b,c],_=>⟨a,b,c,rfl⟩
theorem UL4 {α:Type} {us:List α} (h:us.length=4):∃ a b c d,us=[a,b,c,d]:=match us,h with | [a,b,c,d],_=>⟨a,b,c,d,rfl⟩
theorem UL5 {α:Type} {us:List α} (h:us.length=5):∃ a b c d e,us=[a,b,c,d,e]:=match us,h with | [a,b,c,d,e],_=>⟨a,b,c,d,e,rfl⟩
namespace K10
open PySem L2 Og
section
variable {K:W.Frag}
noncomputable abbrev DA (K:W.Frag) (x:Str) (st:Stmt) (f:Addr):Prop:=W.nsIn K mainGlobals x=some (some (.ref f))/\∃ fd,Dr K x x st f fd
noncomputable abbrev MA (K:W.Frag) (C:Addr) (x q:Str) (st:Stmt) (f:Addr):Prop:=W.findIn K (.ref C) x=some (some (.ref f))/\W.isFn K (.ref f)=true/\∃ fd,Dr K x q st f fd
theorem G6 {x q:Str} {st:Stmt} {f:Addr} {fd:FuncData} {ps:List Str} (F:Dr K x q st f fd) (hl:ps.length=1:=by rfl) (h:∀ (kV doc pm:Value) (an:Option Addr) (cdv ct:Value) (u:Value),bindArgs (W.fnOf x q (Fd st) (EY st) (Ai st) .none kV doc pm an cdv ct) ⟨[u],[]⟩=pure (ps.zip [u]):=by intros; rfl):Binds K fd ps []:=F.binds fun kV doc pm an cdv ct us hu=>by obtain ⟨u,rfl⟩:=UL1 (hu.trans hl); exact h kV doc pm an cdv ct u
theorem FW {x q:Str} {st:Stmt} {f:Addr} {fd:FuncData} {ps:List Str} (F:Dr K x q st f fd) (hl:ps.length=2:=by rfl) (h:∀ (kV doc pm:Value) (an:Option Addr) (cdv ct:Value) (u v:Value),bindArgs (W.fnOf x q (Fd st) (EY st) (Ai st) .none kV doc pm an cdv ct) ⟨[u,v],[]⟩=pure (ps.zip [u,v]):=by intros; rfl):Binds K fd ps []:=F.binds fun kV doc pm an cdv ct us hu=>by obtain ⟨u,v,rfl⟩:=UL2 (hu.trans hl); exact h kV doc pm an cdv ct u v
theorem Hz {x q:Str} {st:Stmt} {f:Addr} {fd:FuncData} {ps:List Str} (F:Dr K x q st f fd) (hl:ps.length=3:=by rfl) (h:∀ (kV doc pm:Value) (an:Option Addr) (cdv ct:Value) (u v a:Value),bindArgs (W.fnOf x q (Fd st) (EY st) (Ai st) .none kV doc pm an cdv ct) ⟨[u,v,a],[]⟩=pure (ps.zip [u,v,a]):=by intros; rfl):Binds K fd ps []:=F.binds fun kV doc pm an cdv ct us hu=>by obtain ⟨u,v,a,rfl⟩:=UL3 (hu.trans hl); exact h kV doc pm an cdv ct u v a
end
theorem Xh {l:W.OpenLaw} {w:World} {K:W.Frag} {h:Heap} {mg:Str->Option Value} {fa:Addr} (X:K.In h) (G:h.Ns mainGlobals mg) (hfa:mg "law" = some (.ref fa))
  {C cN cO c0 c1 c2 c3 c4 c5 c6 c7 c8 c9 c10 c11 c12 c13 aN aK aB aP aM p1 p2 p3 p4 p5 p6 b1 b2 b3 b4 b5 b6 b7 fWh fMd fNm fRo fTo fWi fPa fHp fCl fIk fSb fIs fWm fHr fIr fCk fNu fPl fLi fSs fMy fSt fCe fLw fMi fNn fBb fMa fLb fLk fLs fLl fLc fLt fLr fLp fOn fBy fPu fBn fBm fBr fKi fRf fNo fOi fOb fBk fOp fOw fOr fOs fOm fOy fOz fXi fZ:Addr} {odZ anZ:Option Addr} {slZ:Array (Option Value)} {ocZ kVZ dcZ pmZ cdZ ctZ:Value}
  {tLET tML tMR tMLn tMB tm1 tm2 tm3 tm4 tm5 tm6 ttN_0 ttN_1 ttN_2 ttN_3 ttN_4 ttK_0 ttK_1 ttK_2 ttp1_0 ttp1_1 ttp2_0 ttp2_1 ttp3_0 ttp3_1 ttp4_0 ttp4_1 ttp4_2 ttp4_3 ttp5_0 ttp5_1 ttp5_2 ttp6_0 ttp6_1 ttp6_2 ttp6_3 ttb1_0 ttb1_1 ttb2_0 ttb2_1 ttb3_0 ttb3_1 ttb4_0 ttb4_1 ttb5_0 ttb5_1 ttb6_0 ttb6_1 ttb7_0 ttb7_1:Tok} {od_N od_K od_p1 od_p2 od_p3 od_p4 od_p5 od_p6 od_b1 od_b2 od_b3 od_b4 od_b5 od_b6 od_b7:Option Addr} {sl_N sl_K sl_p1 sl_p2 sl_p3 sl_p4 sl_p5 sl_p6 sl_b1 sl_b2 sl_b3 sl_b4 sl_b5 sl_b6 sl_b7:Array (Option Value)} {n_N n_K n_p1 n_p2 n_p3 n_p4 n_p5 n_p6 n_b1 n_b2 n_b3 n_b4 n_b5 n_b6 n_b7 nB nP nM:Nat} {eB eP eM:Array DictEntry}
  (FWh:DA K "is_whole" iB fWh)
  (FMd:DA K "is_made_of" Z1 fMd)
  (FNm:DA K "is_name" gW fNm)
  (FRo:DA K "rows_of" fL fRo)
  (FTo:DA K "is_told" Za fTo)
  (FWi:DA K "is_within" jy fWi)
  (FPa:DA K "is_part" di fPa)
  (FHp:DA K "has_parts" dW fHp)
  (FCl:DA K "count_of_last_lines" gD fCl)
  (FIk:DA K "is_key_of" fV fIk)
  (FSb:DA K "stands_behind_stop" iQ fSb)
  (FIs:DA K "is_step" ak fIs)
  (FWm:DA K "is_well_made" gP fWm)
  (FHr:DA K "has_room" jQ fHr)
  (FIr:DA K "is_row" jj fIr)
  (FCk:DA K "check_rows" i_ fCk)
  (FNu:DA K "numbers_of" iY fNu)
  (FPl:DA K "places_of" fY fPl)
  (FLi:DA K "lines_by_knob" jr fLi)
  (FSs:DA K "set_of_step" fQ fSs)
  (FMy:DA K "may_be_member" iT fMy)
  (FSt:DA K "set_of" fc fSt)
  (FCe:DA K "_law_cell_at" gj fCe)
  (FLw:DA K "_law_whole" jR fLw)
  (FMi:DA K "_law_mix" jT fMi)
  (FNn:DA K "_law_name" jc fNn)
  (FBb:DA K "_law_base" jF fBb)
  (FMa:DA K "_law_many" fG fMa)
  (FLb:DA K "_law_board" jW fLb)
  (FLk:DA K "_law_rank" ik fLk)
  (FLs:DA K "_law_stop" jD fLs)
  (FLl:DA K "_law_line" iM fLl)
  (FLc:DA K "_law_coupler" ig fLc)
  (FLt:DA K "_law_step" cX fLt)
  (FLr:DA K "_law_row" jG fLr)
  (FLp:DA K "_law_plan" jq fLp)
  (FOn:DA K "_law_odd_name" g_ fOn)
  (FBy:DA K "_law_beyond" gZ fBy)
  (FPu:DA K "_law_put" iU fPu)
  (FBn:DA K "_law_bad_numbers" jM fBn)
  (FBm:DA K "_law_bad_names" ZS fBm)
  (FBr:DA K "_law_bad_row" fJ fBr)
  (FKi:DA K "_law_kinds" jl fKi)
  (FRf:DA K "_law_refused" jV fRf)
  (FNo:DA K "_law_none" fP fNo)
  (aZ:W.nsIn K mainGlobals "law" = some (some (.ref fZ)))
  (lZ:K.lookup fZ=some ⟨ocZ,odZ,.func (W.fnOf "law" "law" (Fd MT) (EY MT) (Ai MT) .none kVZ dcZ pmZ anZ cdZ ctZ),slZ⟩) (cZ:W.codeIn K cdZ "law" = true) (kZ:W.keepIn K (.ref fZ)=true)
  (aC:W.nsIn K mainGlobals "Organ" = some (some (.ref C)))
  (FOi:MA K C "__init__" "Organ.__init__" Um fOi)
  (FOb:MA K C "boards" "Organ.boards" km fOb)
  (FBk:MA K C "board_of_knob" "Organ.board_of_knob" kW fBk)
  (FOp:MA K C "coupler" "Organ.coupler" l_ fOp)
  (FOw:MA K C "rows" "Organ.rows" jd fOw)
  (FOr:MA K C "ranks" "Organ.ranks" j6 fOr)
  (FOs:MA K C "stop" "Organ.stop" lF fOs)
  (FOm:MA K C "mute" "Organ.mute" j8 fOm)
  (FOy:MA K C "steps" "Organ.steps" kJ fOy)
  (FOz:MA K C "knobs" "Organ.knobs" lD fOz)
  (xve:W.nsIn K mainGlobals "ValueError" = some none)
  (xmN:W.nsIn K mainGlobals "NoOrgan" = some (some (.ref cN)))
  (xm0:W.nsIn K mainGlobals "NoSet" = some (some (.ref c0)))
  (xm1:W.nsIn K mainGlobals "NoNumber" = some (some (.ref c1)))
  (xm2:W.nsIn K mainGlobals "NoKnob" = some (some (.ref c2)))
  (xm3:W.nsIn K mainGlobals "NoPiston" = some (some (.ref c3)))
  (xm4:W.nsIn K mainGlobals "NoBoard" = some (some (.ref c4)))
  (xm5:W.nsIn K mainGlobals "NoKey" = some (some (.ref c5)))
  (xm6:W.nsIn K mainGlobals "NotHeld" = some (some (.ref c6)))
  (xm7:W.nsIn K mainGlobals "NoStep" = some (some (.ref c7)))
  (xm8:W.nsIn K mainGlobals "NoDeed" = some (some (.ref c8)))
  (xm9:W.nsIn K mainGlobals "NoRoll" = some (some (.ref c9)))
  (xm10:W.nsIn K mainGlobals "NoPlay" = some (some (.ref c10)))
  (xm11:W.nsIn K mainGlobals "TooMany" = some (some (.ref c11)))
  (xm12:W.nsIn K mainGlobals "NoRow" = some (some (.ref c12)))
  (xm13:W.nsIn K mainGlobals "Unknown" = some (some (.ref c13)))
  (xmO:W.nsIn K mainGlobals "OrganError" = some (some (.ref cO)))
  (FXi:MA K cN "__init__" "NoOrgan.__init__" ir fXi)
  (xeO:W.excIn K cO R0 "ValueError.__new__" = true)
  (xbN:Xm K cN cO "at" [c0,c1,c2,c3,c4,c5,c6,c7,c8,c9,c10,c11,c12,c13]=true)
  (pg:W.plainGet K C Str.empty=true)
  (hd:W.hasDictIn K C=true)
  (po:W.plainOver K C=true)
  (sa:W.findIn K (.ref C) "__setattr__" = some (some (.builtin "object.__setattr__")))
  (mkC:W.makesIn K C=true)
  (kc:W.keepIn K (.ref C)=true)
  (n_row_list_:W.findIn K (.ref C) "row_list" = some none)
  (n_board_list_:W.findIn K (.ref C) "board_list" = some none)
  (n_rank_list_:W.findIn K (.ref C) "rank_list" = some none)
  (n_knob_rows_:W.findIn K (.ref C) "knob_rows" = some none)
  (n_board_numbers_:W.findIn K (.ref C) "board_numbers" = some none)
  (n_rank_numbers_:W.findIn K (.ref C) "rank_numbers" = some none)
  (n_knob_numbers_:W.findIn K (.ref C) "knob_numbers" = some none)
  (n_key_places_:W.findIn K (.ref C) "key_places" = some none)
  (n_pipe_places_:W.findIn K (.ref C) "pipe_places" = some none)
  (n_knob_lines_:W.findIn K (.ref C) "knob_lines" = some none)
  (n_step_sets_:W.findIn K (.ref C) "step_sets" = some none)
  (zlen:W.nsIn K mainGlobals "len" = some none)
  (zisinstance:W.nsIn K mainGlobals "isinstance" = some none)
  (zint:W.nsIn K mainGlobals "int" = some none)
  (zbool:W.nsIn K mainGlobals "bool" = some none)
  (zstr:W.nsIn K mainGlobals "str" = some none)
  (zlist:W.nsIn K mainGlobals "list" = some none)
  (ztuple:W.nsIn K mainGlobals "tuple" = some none)
  (zall:W.nsIn K mainGlobals "all" = some none)
  (zany:W.nsIn K mainGlobals "any" = some none)
  (zsum:W.nsIn K mainGlobals "sum" = some none)
  (zrange:W.nsIn K mainGlobals "range" = some none)
  (zzip:W.nsIn K mainGlobals "zip" = some none)
  (zenumerate:W.nsIn K mainGlobals "enumerate" = some none)
  (zmax:W.nsIn K mainGlobals "max" = some none)
  (zreversed:W.nsIn K mainGlobals "reversed" = some none)
  (zset:W.nsIn K mainGlobals "set" = some none)
  (zLET:W.nsIn K mainGlobals "LETTERS" = some (some (.str letters tLET)))
  (zML:W.nsIn K mainGlobals "MOST_LETTERS" = some (some (.int 8 tML)))
  (zMR:W.nsIn K mainGlobals "MOST_ROWS" = some (some (.int 150 tMR)))
  (zMLn:W.nsIn K mainGlobals "MOST_LINES" = some (some (.int 4 tMLn)))
  (zMB:W.nsIn K mainGlobals "MEMBERS_BELOW" = some (some (.int 1200 tMB)))
  (rN:W.nsIn K mainGlobals "NAMED" = some (some (.ref aN)))
  (rK:W.nsIn K mainGlobals "KNOBS" = some (some (.ref aK)))
  (rB:W.nsIn K mainGlobals "BOUNDS" = some (some (.ref aB)))
  (rP:W.nsIn K mainGlobals "PARTS" = some (some (.ref aP)))
  (rM:W.nsIn K mainGlobals "MOST_OF" = some (some (.ref aM)))
  (dB:K.lookup aB=some ⟨.type "dict",none,.dict eB nB,#[]⟩)
  (kB:W.KeysLit w.params eB.toList)
  (oB:(aB == sysModules)=false)
  (dP:K.lookup aP=some ⟨.type "dict",none,.dict eP nP,#[]⟩)
  (kP:W.KeysLit w.params eP.toList)
  (oP:(aP == sysModules)=false)
  (dM:K.lookup aM=some ⟨.type "dict",none,.dict eM nM,#[]⟩)
  (kM:W.KeysLit w.params eM.toList)
  (oM:(aM == sysModules)=false)
  (qp1:W.nsIn K aP "board" = some (some (.ref p1)))
  (qp2:W.nsIn K aP "stop" = some (some (.ref p2)))
  (qp3:W.nsIn K aP "mute" = some (some (.ref p3)))
  (qp4:W.nsIn K aP "coupler" = some (some (.ref p4)))
  (qp5:W.nsIn K aP "rank" = some (some (.ref p5)))
  (qp6:W.nsIn K aP "line" = some (some (.ref p6)))
  (qb1:W.nsIn K aB "keys" = some (some (.ref b1)))
  (qb2:W.nsIn K aB "leap" = some (some (.ref b2)))
  (qb3:W.nsIn K aB "pipes" = some (some (.ref b3)))
  (qb4:W.nsIn K aB "wind" = some (some (.ref b4)))
  (qb5:W.nsIn K aB "shift" = some (some (.ref b5)))
  (qb6:W.nsIn K aB "low" = some (some (.ref b6)))
  (qb7:W.nsIn K aB "high" = some (some (.ref b7)))
  (qw1:W.nsIn K aP "Board" = some none)
  (qw2:W.nsIn K aP "bell" = some none)
  (qw3:W.nsIn K aP "" = some none)
  (qn:W.nsIn K aB "new" = some none)
  (qb:W.nsIn K aB "board" = some none)
  (qr:W.nsIn K aB "rank" = some none)
  (ql:W.nsIn K aM "line" = some none)
  (qm1:W.nsIn K aM "board" = some (some (.int 5 tm1)))
  (qm2:W.nsIn K aM "stop" = some (some (.int 24 tm2)))
  (qm3:W.nsIn K aM "coupler" = some (some (.int 12 tm3)))
  (qm4:W.nsIn K aM "mute" = some (some (.int 5 tm4)))
  (qm5:W.nsIn K aM "rank" = some (some (.int 12 tm5)))
  (qm6:W.nsIn K aM "step" = some (some (.int 12 tm6)))
  (uN:K.lookup aN=some ⟨.type "tuple",od_N,.seq #[.str "board" ttN_0,.str "rank" ttN_1,.str "stop" ttN_2,.str "coupler" ttN_3,.str "mute" ttN_4] n_N,sl_N⟩)
  (uK:K.lookup aK=some ⟨.type "tuple",od_K,.seq #[.str "stop" ttK_0,.str "coupler" ttK_1,.str "mute" ttK_2] n_K,sl_K⟩)
  (up1:K.lookup p1=some ⟨.type "tuple",od_p1,.seq #[.str "new" ttp1_0,.str "keys" ttp1_1] n_p1,sl_p1⟩)
  (up2:K.lookup p2=some ⟨.type "tuple",od_p2,.seq #[.str "new" ttp2_0,.str "board" ttp2_1] n_p2,sl_p2⟩)
  (up3:K.lookup p3=some ⟨.type "tuple",od_p3,.seq #[.str "new" ttp3_0,.str "board" ttp3_1] n_p3,sl_p3⟩)
  (up4:K.lookup p4=some ⟨.type "tuple",od_p4,.seq #[.str "new" ttp4_0,.str "board" ttp4_1,.str "board" ttp4_2,.str "leap" ttp4_3] n_p4,sl_p4⟩)
  (up5:K.lookup p5=some ⟨.type "tuple",od_p5,.seq #[.str "new" ttp5_0,.str "pipes" ttp5_1,.str "wind" ttp5_2] n_p5,sl_p5⟩)
  (up6:K.lookup p6=some ⟨.type "tuple",od_p6,.seq #[.str "rank" ttp6_0,.str "shift" ttp6_1,.str "low" ttp6_2,.str "high" ttp6_3] n_p6,sl_p6⟩)
  (ub1:K.lookup b1=some ⟨.type "tuple",od_b1,.seq #[.int (1) ttb1_0,.int (61) ttb1_1] n_b1,sl_b1⟩)
  (ub2:K.lookup b2=some ⟨.type "tuple",od_b2,.seq #[.int (-60) ttb2_0,.int (60) ttb2_1] n_b2,sl_b2⟩)
  (ub3:K.lookup b3=some ⟨.type "tuple",od_b3,.seq #[.int (1) ttb3_0,.int (97) ttb3_1] n_b3,sl_b3⟩)
  (ub4:K.lookup b4=some ⟨.type "tuple",od_b4,.seq #[.int (0) ttb4_0,.int (1000000000) ttb4_1] n_b4,sl_b4⟩)
  (ub5:K.lookup b5=some ⟨.type "tuple",od_b5,.seq #[.int (-200) ttb5_0,.int (200) ttb5_1] n_b5,sl_b5⟩)
  (ub6:K.lookup b6=some ⟨.type "tuple",od_b6,.seq #[.int (0) ttb6_0,.int (60) ttb6_1] n_b6,sl_b6⟩)
  (ub7:K.lookup b7=some ⟨.type "tuple",od_b7,.seq #[.int (0) ttb7_0,.int (60) ttb7_1] n_b7,sl_b7⟩)
  : ∃ fd:FuncData,(∀ (s:Shared) (v:Value),BindsTo s fd ⟨[v],[]⟩ [("_law_script",v)])/\∀ base:Heap,K.In base->base.Ns mainGlobals mg->BW l.prog w K mg base Br 12 fa fd ["_law_script"] (Q5 K):=by
 refine Classical.byContradiction fun hng=>?_
 obtain ⟨aWh,dWh,FWh⟩:=FWh
 obtain ⟨aMd,dMd,FMd⟩:=FMd
 obtain ⟨aNm,dNm,FNm⟩:=FNm
 obtain ⟨aRo,dRo,FRo⟩:=FRo
 obtain ⟨aTo,dTo,FTo⟩:=FTo
 obtain ⟨aWi,dWi,FWi⟩:=FWi
 obtain ⟨aPa,dPa,FPa⟩:=FPa
 obtain ⟨aHp,dHp,FHp⟩:=FHp
 obtain ⟨aCl,dCl,FCl⟩:=FCl
 obtain ⟨aIk,dIk,FIk⟩:=FIk
 obtain ⟨aSb,dSb,FSb⟩:=FSb
 obtain ⟨aIs,dIs,FIs⟩:=FIs
 obtain ⟨aWm,dWm,FWm⟩:=FWm
 obtain ⟨aHr,dHr,FHr⟩:=FHr
 obtain ⟨aIr,dIr,FIr⟩:=FIr
 obtain ⟨aCk,dCk,FCk⟩:=FCk
 obtain ⟨aNu,dNu,FNu⟩:=FNu
 obtain ⟨aPl,dPl,FPl⟩:=FPl
 obtain ⟨aLi,dLi,FLi⟩:=FLi
 obtain ⟨aSs,dSs,FSs⟩:=FSs
 obtain ⟨aMy,dMy,FMy⟩:=FMy
 obtain ⟨aSt,dSt,FSt⟩:=FSt
 obtain ⟨aCe,dCe,FCe⟩:=FCe
 obtain ⟨aLw,dLw,FLw⟩:=FLw
 obtain ⟨aMi,dMi,FMi⟩:=FMi
 obtain ⟨aNn,dNn,FNn⟩:=FNn
 obtain ⟨aBb,dBb,FBb⟩:=FBb
 obtain ⟨aMa,dMa,FMa⟩:=FMa
 obtain ⟨aLb,dLb,FLb⟩:=FLb
 obtain ⟨aLk,dLk,FLk⟩:=FLk
 obtain ⟨aLs,dLs,FLs⟩:=FLs
 obtain ⟨aLl,dLl,FLl⟩:=FLl
 obtain ⟨aLc,dLc,FLc⟩:=FLc
 obtain ⟨aLt,dLt,FLt⟩:=FLt
 obtain ⟨aLr,dLr,FLr⟩:=FLr
 obtain ⟨aLp,dLp,FLp⟩:=FLp
 obtain ⟨aOn,dOn,FOn⟩:=FOn
 obtain ⟨aBy,dBy,FBy⟩:=FBy
 obtain ⟨aPu,dPu,FPu⟩:=FPu
 obtain ⟨aBn,dBn,FBn⟩:=FBn
 obtain ⟨aBm,dBm,FBm⟩:=FBm
 obtain ⟨aBr,dBr,FBr⟩:=FBr
 obtain ⟨aKi,dKi,FKi⟩:=FKi
 obtain ⟨aRf,dRf,FRf⟩:=FRf
 obtain ⟨aNo,dNo,FNo⟩:=FNo
 obtain ⟨aOi,iOi,dOi,FOi⟩:=FOi
 obtain ⟨aOb,iOb,dOb,FOb⟩:=FOb
 obtain ⟨aBk,iBk,dBk,FBk⟩:=FBk
 obtain ⟨aOp,iOp,dOp,FOp⟩:=FOp
 obtain ⟨aOw,iOw,dOw,FOw⟩:=FOw
 obtain ⟨aOr,iOr,dOr,FOr⟩:=FOr
 obtain ⟨aOs,iOs,dOs,FOs⟩:=FOs
 obtain ⟨aOm,iOm,dOm,FOm⟩:=FOm
 obtain ⟨aOy,iOy,dOy,FOy⟩:=FOy
 obtain ⟨aOz,iOz,dOz,FOz⟩:=FOz
 obtain ⟨aXi,iXi,dXi,FXi⟩:=FXi
 refine hng ?_
 have e:=hfa.symm.trans (W.mg_of X G aZ)
 cases e
 have FZ:=QB (st:=MT) lZ cZ kZ
 have gN:KTup K aN [.str "board",.str "rank",.str "stop",.str "coupler",.str "mute"]:=(⟨_,_,_,uN,rfl,rfl,by show 5<=sizeLine; decide,.cons ⟨_,rfl⟩ (.cons ⟨_,rfl⟩ (.cons ⟨_,rfl⟩ (.cons ⟨_,rfl⟩ (.cons ⟨_,rfl⟩ (.nil)))))⟩)
 have gK:KTup K aK [.str "stop",.str "coupler",.str "mute"]:=(⟨_,_,_,uK,rfl,rfl,by show 3<=sizeLine; decide,.cons ⟨_,rfl⟩ (.cons ⟨_,rfl⟩ (.cons ⟨_,rfl⟩ (.nil)))⟩)
 have gp1:KTup K p1 [.str "new",.str "keys"]:=(⟨_,_,_,up1,rfl,rfl,by show 2<=sizeLine; decide,.cons ⟨_,rfl⟩ (.cons ⟨_,rfl⟩ (.nil))⟩)
 have gp2:KTup K p2 [.str "new",.str "board"]:=(⟨_,_,_,up2,rfl,rfl,by show 2<=sizeLine; decide,.cons ⟨_,rfl⟩ (.cons ⟨_,rfl⟩ (.nil))⟩)
 have gp3:KTup K p3 [.str "new",.str "board"]:=(⟨_,_,_,up3,rfl,rfl,by show 2<=sizeLine; decide,.cons ⟨_,rfl⟩ (.cons ⟨_,rfl⟩ (.nil))⟩)
 have gp4:KTup K p4 [.str "new",.str "board",.str "board",.str "leap"]:=(⟨_,_,_,up4,rfl,rfl,by show 4<=sizeLine; decide,.cons ⟨_,rfl⟩ (.cons ⟨_,rfl⟩ (.cons ⟨_,rfl⟩ (.cons ⟨_,rfl⟩ (.nil))))⟩)
 have gp5:KTup K p5 [.str "new",.str "pipes",.str "wind"]:=(⟨_,_,_,up5,rfl,rfl,by show 3<=sizeLine; decide,.cons ⟨_,rfl⟩ (.cons ⟨_,rfl⟩ (.cons ⟨_,rfl⟩ (.nil)))⟩)
 have gp6:KTup K p6 [.str "rank",.str "shift",.str "low",.str "high"]:=(⟨_,_,_,up6,rfl,rfl,by show 4<=sizeLine; decide,.cons ⟨_,rfl⟩ (.cons ⟨_,rfl⟩ (.cons ⟨_,rfl⟩ (.cons ⟨_,rfl⟩ (.nil))))⟩)
 have gb1:KTup K b1 [.int (1),.int (61)]:=(⟨_,_,_,ub1,rfl,rfl,by show 2<=sizeLine; decide,.cons ⟨_,rfl⟩ (.cons ⟨_,rfl⟩ (.nil))⟩)
 have gb2:KTup K b2 [.int (-60),.int (60)]:=(⟨_,_,_,ub2,rfl,rfl,by show 2<=sizeLine; decide,.cons ⟨_,rfl⟩ (.cons ⟨_,rfl⟩ (.nil))⟩)
 have gb3:KTup K b3 [.int (1),.int (97)]:=(⟨_,_,_,ub3,rfl,rfl,by show 2<=sizeLine; decide,.cons ⟨_,rfl⟩ (.cons ⟨_,rfl⟩ (.nil))⟩)
 have gb4:KTup K b4 [.int (0),.int (1000000000)]:=(⟨_,_,_,ub4,rfl,rfl,by show 2<=sizeLine; decide,.cons ⟨_,rfl⟩ (.cons ⟨_,rfl⟩ (.nil))⟩)
 have gb5:KTup K b5 [.int (-200),.int (200)]:=(⟨_,_,_,ub5,rfl,rfl,by show 2<=sizeLine; decide,.cons ⟨_,rfl⟩ (.cons ⟨_,rfl⟩ (.nil))⟩)
 have gb6:KTup K b6 [.int (0),.int (60)]:=(⟨_,_,_,ub6,rfl,rfl,by show 2<=sizeLine; decide,.cons ⟨_,rfl⟩ (.cons ⟨_,rfl⟩ (.nil))⟩)
 have gb7:KTup K b7 [.int (0),.int (60)]:=(⟨_,_,_,ub7,rfl,rfl,by show 2<=sizeLine; decide,.cons ⟨_,rfl⟩ (.cons ⟨_,rfl⟩ (.nil))⟩)
 have F2:JG K aB aP aM:=⟨⟨⟨_,qp1,gp1⟩,⟨_,qp2,gp2⟩,⟨_,qp3,gp3⟩,⟨_,qp4,gp4⟩,⟨_,qb1,gb1⟩,⟨_,qb2,gb2⟩,qn,qb,⟨_,qm1⟩,⟨_,qm2⟩,⟨_,qm3⟩,⟨_,qm4⟩⟩,⟨_,qp5,gp5⟩,⟨_,qp6,gp6⟩,⟨_,qb3,gb3⟩,⟨_,qb4,gb4⟩,⟨_,qb5,gb5⟩,⟨_,qb6,gb6⟩,⟨_,qb7,gb7⟩,qr,⟨_,qm5⟩,ql⟩
 have F0:gB K aB aP aM:=⟨F2,⟨_,qm6⟩⟩
 have T:Txt K w.params mg C cN cO c0 c1 c2 c3 c4 c5 c6 c7 c8 c9 c10 c11 c12 c13 aN aK aB aP aM:=⟨W.mg_none_of X G zlen,W.mg_none_of X G zisinstance,W.mg_none_of X G zint,W.mg_none_of X G zbool,W.mg_none_of X G zstr,W.mg_none_of X G zlist,W.mg_none_of X G ztuple,W.mg_none_of X G zall,W.mg_none_of X G zany,W.mg_none_of X G zsum,W.mg_none_of X G zrange,W.mg_none_of X G zzip,W.mg_none_of X G zenumerate,W.mg_none_of X G zmax,W.mg_none_of X G zreversed,W.mg_none_of X G zset,⟨_,W.mg_of X G zLET⟩,⟨_,W.mg_of X G zML⟩,⟨_,W.mg_of X G zMR⟩,⟨_,W.mg_of X G zMLn⟩,⟨_,W.mg_of X G zMB⟩,W.mg_of X G rN,W.mg_of X G rK,W.mg_of X G rB,W.mg_of X G rP,W.mg_of X G rM,gN,gK,⟨⟨_,_,dB,kB⟩,oB⟩,⟨⟨_,_,dP,kP⟩,oP⟩,⟨⟨_,_,dM,kM⟩,oM⟩,⟨pg,hd,po,sa⟩,W.mg_of X G aC,W.mg_none_of X G xve,W.mg_of X G xmN,W.mg_of X G xm0,W.mg_of X G xm1,W.mg_of X G xm2,W.mg_of X G xm3,W.mg_of X G xm4,W.mg_of X G xm5,W.mg_of X G xm6,W.mg_of X G xm7,W.mg_of X G xm8,W.mg_of X G xm9,W.mg_of X G xm10,W.mg_of X G xm11,W.mg_of X G xm12,W.mg_of X G xm13,W.mg_of X G xmO,xeO,n_row_list_,n_board_list_,n_rank_list_,n_knob_rows_,n_board_numbers_,n_rank_numbers_,n_knob_numbers_,n_key_places_,n_pipe_places_,n_knob_lines_,n_step_sets_⟩
 have N:jC K mg C cN cO c0 c1 c2 c3 c4 c5 c6 c7 c8 c9 c10 c11 c12 c13 ⟨fWh,fMd,fNm,fRo,fTo,fWi,fPa,fHp,fCl,fIk,fSb,fIs,fWm,fHr,fIr,fCk,fNu,fPl,fLi,fSs,fMy,fSt,fCe,fLw,fMi,fNn,fBb,fMa,fLb,fLk,fLs,fLl,fLc,fLt,fLr,fLp,fOn,fBy,fPu,fBn,fBm,fBr,fKi,fRf,fNo,fOi,fOb,fBk,fOp,fOw,fOr,fOs,fOm,fOy,fOz,fXi,_,_,_,_,_,_,_,_,_,_,_,_,_,_,_,_,_,_,_,_,_,_,_,_,_,_,_,_,_,_,_,_,_,_,_,_,_,_,_,_,_,_,_,_,_,_,_,_,_,_,_,_,_,_,_,_⟩:=⟨⟨FWh,(G6 FWh),W.mg_of X G aWh⟩,⟨FMd,(Hz FMd),W.mg_of X G aMd⟩,⟨FNm,(G6 FNm),W.mg_of X G aNm⟩,⟨FRo,(FW FRo),W.mg_of X G aRo⟩,⟨FTo,(Hz FTo),W.mg_of X G aTo⟩,⟨FWi,(FW FWi),W.mg_of X G aWi⟩,⟨FPa,(Hz FPa),W.mg_of X G aPa⟩,⟨FHp,(FW FHp),W.mg_of X G aHp⟩,⟨FCl,(G6 FCl),W.mg_of X G aCl⟩,⟨FIk,(Hz FIk),W.mg_of X G aIk⟩,⟨FSb,(FW FSb),W.mg_of X G aSb⟩,⟨FIs,(FW FIs),W.mg_of X G aIs⟩,⟨FWm,(FW FWm),W.mg_of X G aWm⟩,⟨FHr,(FW FHr),W.mg_of X G aHr⟩,⟨FIr,(FW FIr),W.mg_of X G aIr⟩,⟨FCk,(G6 FCk),W.mg_of X G aCk⟩,⟨FNu,(G6 FNu),W.mg_of X G aNu⟩,⟨FPl,(G6 FPl),W.mg_of X G aPl⟩,⟨FLi,(FW FLi),W.mg_of X G aLi⟩,⟨FSs,(FW FSs),W.mg_of X G aSs⟩,⟨FMy,(G6 FMy),W.mg_of X G aMy⟩,⟨FSt,(G6 FSt),W.mg_of X G aSt⟩,⟨FCe,(FW FCe),W.mg_of X G aCe⟩,⟨FLw,(G6 FLw),W.mg_of X G aLw⟩,⟨FMi,(Hz FMi),W.mg_of X G aMi⟩,⟨FNn,(FW FNn),W.mg_of X G aNn⟩,⟨FBb,(G6 FBb),W.mg_of X G aBb⟩,⟨FMa,(FW FMa),W.mg_of X G aMa⟩,⟨FLb,(Hz FLb),W.mg_of X G aLb⟩,⟨FLk,(Hz FLk),W.mg_of X G aLk⟩,⟨FLs,(Hz FLs),W.mg_of X G aLs⟩,⟨FLl,(FW FLl),W.mg_of X G aLl⟩,⟨FLc,(Hz FLc),W.mg_of X G aLc⟩,⟨FLt,(FW FLt),W.mg_of X G aLt⟩,⟨FLr,(Hz FLr),W.mg_of X G aLr⟩,⟨FLp,(FW FLp),W.mg_of X G aLp⟩,⟨FOn,(G6 FOn),W.mg_of X G aOn⟩,⟨FBy,(Hz FBy),W.mg_of X G aBy⟩,⟨FPu,(Hz FPu),W.mg_of X G aPu⟩,⟨FBn,(Hz FBn),W.mg_of X G aBn⟩,⟨FBm,(Hz FBm),W.mg_of X G aBm⟩,⟨FBr,(Hz FBr),W.mg_of X G aBr⟩,⟨FKi,(G6 FKi),W.mg_of X G aKi⟩,⟨FRf,(FW FRf),W.mg_of X G aRf⟩,⟨FNo,(FW FNo),W.mg_of X G aNo⟩,⟨FOi,(FW FOi),⟨mkC,aOi,iOi,kc⟩⟩,⟨FOb,(G6 FOb),⟨aOb,iOb,FOb.kp⟩⟩,⟨FBk,(FW FBk),⟨aBk,iBk,FBk.kp⟩⟩,⟨FOp,(FW FOp),⟨aOp,iOp,FOp.kp⟩⟩,⟨FOw,(G6 FOw),⟨aOw,iOw,FOw.kp⟩⟩,⟨FOr,(G6 FOr),⟨aOr,iOr,FOr.kp⟩⟩,⟨FOs,(FW FOs),⟨aOs,iOs,FOs.kp⟩⟩,⟨FOm,(FW FOm),⟨aOm,iOm,FOm.kp⟩⟩,⟨FOy,(G6 FOy),⟨aOy,iOy,FOy.kp⟩⟩,⟨FOz,(G6 FOz),⟨aOz,iOz,FOz.kp⟩⟩,⟨FXi,(FW FXi)⟩,fu.of xbN aXi (beq_iff_eq.mp iXi)⟩
 exact ⟨W.fnOf "law" "law" (Fd MT) (EY MT) (Ai MT) .none kVZ dcZ pmZ anZ cdZ ctZ,fun s v=>.of_eq rfl,fun base _ _=>Yc FZ N T F0 ⟨qw1,qw2,qw3⟩⟩
theorem walk {l:W.OpenLaw} {q:Program} {loose:List Str} {XP:(Str->Option Value)->Heap->Prop} {YP:World->Heap->Prop} {d:DefRec} {K:Params->W.Frag} (hn:l.most=some 63) (hdf:d.params.defaults=[])
  (hY:∀ (w:World) (h:Heap),YP w h->(K w.params).In h)
  (F:∀ (w:World) (mg:Str->Option Value) (fa:Addr) (h:Heap),(K w.params).In h->h.Ns mainGlobals mg->mg d.name=some (.ref fa) ->
   ∃ fd:FuncData,(∀ (s:Shared) (u:Value),BindsTo s fd ⟨[u],[]⟩ [("_law_script",u)])/\∀ base:Heap,(K w.params).In base->base.Ns mainGlobals mg->BW l.prog w (K w.params) mg base Br 12 fa fd ["_law_script"] (Q5 (K w.params))) :
  W.WalkO q loose XP YP l.row.toRowW d [] (fun f vs=>PySem.call f vs) :=
 L2.V_ (n:=63) (k:=12) (x:="_law_script") (CX:=fun _=>Br) (sp:=fun w=>Q5 (K w.params)) hn (by decide) hdf ⟨rfl,by decide,by decide⟩ hY F (fun _ _ a ns hl _ hS=>⟨a,ns,rfl,hS,hl,fun _=>rfl⟩) fun _ _ _ _ _ z=>z
end K10
open PySem PySem.W PyProof.Rows
noncomputable def PySem.W.Fast.tw4531079945468606056:Unit:=()
noncomputable def PySem.W.Fast.tw1417353269539289204:Unit:=()
noncomputable def PySem.W.Fast.tw15822526661953843979:Unit:=()
noncomputable def PySem.W.Fast.tw4454516402166224261:Unit:=()
noncomputable def PySem.W.Fast.tw11340437271568054152:Unit:=()
noncomputable def PySem.W.Fast.tw15731772004984960102:Unit:=()
noncomputable def PySem.W.Fast.tw12646086241217642950:Unit:=()
noncomputable def PySem.W.Fast.tw2740912764059000468:Unit:=()
noncomputable def PySem.W.Fast.tw18391215464928570408:Unit:=()
noncomputable def PySem.W.Fast.tw5290953549423813896:Unit:=()
noncomputable def PySem.W.Fast.tw1233222970737538753:Unit:=()
noncomputable def PySem.W.Fast.tw1342334820647232772:Unit:=()
noncomputable def PySem.W.Fast.tw7555670999477137909:Unit:=()
noncomputable def PySem.W.Fast.tw9449737208842831897:Unit:=()
noncomputable def PySem.W.Fast.tw16605382424822330016:Unit:=()
noncomputable def PySem.W.Fast.tw14556995398655424416:Unit:=()
noncomputable def PySem.W.Fast.tw16824378875581570354:Unit:=()
noncomputable def PySem.W.Fast.tw16698761685332982408:Unit:=()
noncomputable def PySem.W.Fast.tw9922799779284779211:Unit:=()
noncomputable def PySem.W.Fast.tw7745357006387643573:Unit:=()
noncomputable def PySem.W.Fast.tw17055373281365208232:Unit:=()
noncomputable def PySem.W.Fast.tw5286098344098631335:Unit:=()
noncomputable def PySem.W.Fast.tw10262405030126929343:Unit:=()
noncomputable def PySem.W.Fast.tw11919140911682000589:Unit:=()
noncomputable def PySem.W.Fast.tw1090574671288103164:Unit:=()
noncomputable def PySem.W.Fast.tw1826434817416421701:Unit:=()
noncomputable def PySem.W.Fast.tw825776470036252987:Unit:=()
noncomputable def PySem.W.Fast.tw6604577288232933515:Unit:=()
noncomputable def PySem.W.Fast.tw3079880701906096594:Unit:=()
noncomputable def PySem.W.Fast.tw10164779601278827303:Unit:=()
noncomputable def PySem.W.Fast.tw10164810896741859794:Unit:=()
noncomputable def PySem.W.Fast.tw1049777656649981110:Unit:=()
noncomputable def PySem.W.Fast.tw13051939954544603144:Unit:=()
noncomputable def PySem.W.Fast.tw15585372530528411638:Unit:=()
noncomputable def PySem.W.Fast.tw14988498394772115075:Unit:=()
noncomputable def PySem.W.Fast.tw10616112260499451025:Unit:=()
noncomputable def PySem.W.Fast.tw4345934094302314741:Unit:=()
noncomputable def PySem.W.Fast.tw1744975245994117627:Unit:=()
noncomputable def PySem.W.Fast.tw14356501769042062730:Unit:=()
noncomputable def PySem.W.Fast.tw474916815067450330:Unit:=()
noncomputable def PySem.W.Fast.tw575918309614221165:Unit:=()
noncomputable def PySem.W.Fast.tw4490098522202782485:Unit:=()
noncomputable def PySem.W.Fast.tw5407928666119983977:Unit:=()
noncomputable def PySem.W.Fast.tw1672270302930090528:Unit:=()
noncomputable def PySem.W.Fast.tw747636883192033463:Unit:=()
noncomputable def PySem.W.Fast.tw15903833963902993560:Unit:=()
noncomputable def PySem.W.Fast.tw14797777551379895018:Unit:=()
noncomputable def PySem.W.Fast.tw18097489344936834889:Unit:=()
noncomputable def PySem.W.Fast.tw6009949037150178226:Unit:=()
noncomputable def PySem.W.Fast.tw14623204197441859520:Unit:=()
noncomputable def PySem.W.Fast.tw5224551735624392642:Unit:=()
noncomputable def PySem.W.Fast.tw8613024591312446870:Unit:=()
noncomputable def PySem.W.Fast.tw13081637159572933695:Unit:=()
noncomputable def PySem.W.Fast.tw4914082324122028447:Unit:=()
noncomputable def PySem.W.Fast.tw1954803195737273653:Unit:=()
noncomputable def PySem.W.Fast.tw15719320429344956740:Unit:=()
noncomputable def PySem.W.Fast.tw11467011779908402120:Unit:=()
noncomputable def PySem.W.Fast.tw10216906148174589899:Unit:=()
noncomputable def PySem.W.Fast.tw1325365558621939757:Unit:=()
noncomputable def PySem.W.Fast.tw1736961947676583640:Unit:=()
noncomputable def PySem.W.Fast.tw6227613024821605841:Unit:=()
noncomputable def PySem.W.Fast.tw9903623931352959160:Unit:=()
noncomputable def PySem.W.Fast.tw4528492777955151653:Unit:=()
noncomputable def PySem.W.Fast.tw6380941433668578565:Unit:=()
noncomputable def PySem.W.Fast.tw14530036361088544735:Unit:=()
noncomputable def PySem.W.Fast.tw11418263582835824038:Unit:=()
noncomputable def PySem.W.Fast.tw12829232687200229261:Unit:=()
noncomputable def PySem.W.Fast.tw18044745210904304351:Unit:=()
noncomputable def PySem.W.Fast.tw986179829245823210:Unit:=()
noncomputable def PySem.W.Fast.tw1276015937737235072:Unit:=()
noncomputable def PySem.W.Fast.tw7320879272556506434:Unit:=()
noncomputable def PySem.W.Fast.tw8632315987686343345:Unit:=()
noncomputable def PySem.W.Fast.tw8271335126323395360:Unit:=()
noncomputable def PySem.W.Fast.tw12809259208301962739:Unit:=()
noncomputable def PySem.W.Fast.tw18444283267131423653:Unit:=()
noncomputable def PySem.W.Fast.tw9555445193199512804:Unit:=()
noncomputable def PySem.W.Fast.tw860596889838827241:Unit:=()
noncomputable def PySem.W.Fast.tw6722012102554646182:Unit:=()
noncomputable def PySem.W.Fast.tw150181766572588980:Unit:=()
noncomputable def PySem.W.Fast.tw11780459775867559885:Unit:=()
noncomputable def PySem.W.Fast.tw11054165650877397045:Unit:=()
noncomputable def PySem.W.Fast.tw15388448453474997892:Unit:=()
noncomputable def PySem.W.Fast.tw17132441443881696822:Unit:=()
noncomputable def PySem.W.Fast.tw10583316522898636260:Unit:=()
noncomputable def PySem.W.Fast.tw2101887600056426153:Unit:=()
noncomputable def PySem.W.Fast.tw15527134577940386449:Unit:=()
noncomputable def PySem.W.Fast.tw2565818899736863250:Unit:=()
noncomputable def PySem.W.Fast.tw6605061737323221228:Unit:=()
noncomputable def PySem.W.Fast.tw3479233042327282164:Unit:=()
noncomputable def PySem.W.Fast.tw2702296577511989455:Unit:=()
noncomputable def PySem.W.Fast.tw6790375397201941447:Unit:=()
noncomputable def PySem.W.Fast.tw7897987493451275120:Unit:=()
noncomputable def PySem.W.Fast.tw17364923083753498580:Unit:=()
noncomputable def PySem.W.Fast.tw10176813808398876514:Unit:=()
noncomputable def PySem.W.Fast.tw13412085490628294357:Unit:=()
noncomputable def PySem.W.Fast.tw1167000090740225283:Unit:=()
noncomputable def PySem.W.Fast.tw1897276791569138603:Unit:=()
noncomputable def PySem.W.Fast.tw5075601119345372951:Unit:=()
noncomputable def PySem.W.Fast.tw2383459968280855684:Unit:=()
noncomputable def PySem.W.Fast.tw2793959809155839678:Unit:=()
noncomputable def PySem.W.Fast.tw2491792755228554214:Unit:=()
noncomputable def PySem.W.Fast.tw9499632336294969959:Unit:=()
noncomputable def PySem.W.Fast.tw3748793074555945342:Unit:=()
noncomputable def PySem.W.Fast.tw13392759593657692141:Unit:=()
noncomputable def PySem.W.Fast.tw876528994906803609:Unit:=()
noncomputable def PySem.W.Fast.tw15318939410036046260:Unit:=()
noncomputable def PySem.W.Fast.tw4512563626999067917:Unit:=()
set_option maxRecDepth 100000 in
set_option maxHeartbeats 0 in
theorem PySem.Challenge.cw_windchest_k10_rows_refused_holds : PySem.Challenge.rw_windchest_k10_rows_refused.Holds := by
 w_on; o_law; k_head; (case hw=>w_witness2)
 k_fill
 refine K10.walk (l:=PySem.Challenge.rw_windchest_k10_rows_refused) rfl rfl (fun w h Y=>PySem.W.kIn_of Y) ?F
 case F =>
  intro w mg fa h KX G hmg
  refine' K10.Xh KX G hmg ?_ ?_ ?_ ?_ ?_ ?_ ?_ ?_ ?_ ?_ ?_ ?_ ?_ ?_ ?_ ?_ ?_ ?_ ?_ ?_ ?_ ?_ ?_ ?_ ?_ ?_ ?_ ?_ ?_ ?_ ?_ ?_ ?_ ?_ ?_ ?_ ?_ ?_ ?_ ?_ ?_ ?_ ?_ ?_ ?_ ?_ ?_ ?_ ?_ ?_ ?_ ?_ ?_ ?_ ?_ ?_ ?_ ?_ ?_ ?_ ?_ ?_ ?_ ?_ ?_ ?_ ?_ ?_ ?_ ?_ ?_ ?_ ?_ ?_ ?_ ?_ ?_ ?_ ?_ ?_ ?_ ?_ ?_ ?_ ?_ ?_ ?_ ?_ ?_ ?_ ?_ ?_ ?_ ?_ ?_ ?_ ?_ ?_ ?_ ?_ ?_ ?_ ?_ ?_ ?_ ?_ ?_ ?_ ?_ ?_ ?_ ?_ ?_ ?_ ?_ ?_ ?_ ?_ ?_ ?_ ?_ ?_ ?_ ?_ ?_ ?_ ?_ ?_ ?_ ?_ ?_ ?_ ?_ ?_ ?_ ?_ ?_ ?_ ?_ ?_ ?_ ?_ ?_ ?_ ?_ ?_ ?_ ?_ ?_ ?_ ?_ ?_ ?_ ?_ ?_ ?_ ?_ ?_ ?_ ?_ ?_ ?_ ?_ ?_ ?_ ?_ ?_ ?_ ?_ ?_ ?_ ?_ ?_
  all_goals first | (k_is; done) | (refine' ⟨?a,_,L2.QB ?l ?c ?k⟩; (case a=>k_is); (case l=>k_is); (case c=>k_is); case k=>k_is) | (refine' ⟨?a,?i,_,L2.QB ?l ?c ?k⟩; (case a=>k_is); (case i=>k_is); (case l=>k_is); (case c=>k_is); case k=>k_is) | (k_keys; done) | decide | kernel_rfl! | skip
end PartK10z
