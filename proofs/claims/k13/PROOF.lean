import PyProof.Rows.All
import Wide.All
import OpenK.AllK
import Wide.FinOn
import Lean
import PyProof.EqAt
import PyProof.EqKinds
import PyProof.TupleCall
import PyProof.ZipIter
import PyProof.WalksEnum
import PyProof.EnumMake
import PyProof.NeKinds
import KE.KDictList
import PyProof.Rows.SetFrom
import PyProof.StrWalks
import PyProof.CollectWalk
import PyProof.Rows.SortWalk
import PyProof.Rows.BitMore
import PyProof.Rows.IntCalls
import KE.KRevIter
import PyProof.SetRoads
import OpenK.KTop
import PyProof.Rows.StrWeight2
import PyProof.SumWalk
import PyProof.SliceList
import PyProof.FactsAll.subtypes_4
import PyProof.StationsW
import PyProof.NsDelKeeps
import PyProof.Rows.StrClose
import PyProof.Rows.CatFin
import PyProof.SeqI3
import PyProof.Rows.StrCase
import PyProof.PureStr
import PyProof.Conv_int
import PyProof.StrLawsIn
import PyProof.MeetsStr2
import PyProof.StrLawsChain
import PyProof.MeetsStr
import PyProof.CallStr
import PyProof.Rows.ReprOcc
import PyProof.IsRules
import PySem.Challenge.RW_windchest_k13_organ_texts_refused
abbrev vSP:=PySem.Value->PySem.Shared->Prop
def ae:=@List.length_map
def af:=@List.getElem?_eq_getElem
def ag:=@PyProof.Rows.boot_isinstance
def ai:=@List.getElem?_eq_some_iff
def al:=@List.mem_of_getElem?
def ar:=@Nat.le_refl
def av:=@List.mem_cons_self
def ax:=@List.mem_singleton
def ay:=@List.mem_map
def aE:=@List.length_append
def aI:=@List.mem_cons_of_mem
def aS:=@List.length_cons
def aT:=@PySem.boot_len
def ba:=@List.mem_append
def be:=@List.mem_append_right
def bg:=@List.map_map
def bi:=@List.filter_eq_self
def bo:=@PySem.F.plainAttrs_str
def bp:=@Nat.le_trans
def bq:=@List.mem_cons
def br:=@List.getElem?_map
def bt:=@Nat.lt_of_lt_of_le
def bv:=@List.length_singleton
def bE:=@PySem.F.plainAttrs_list
def bX:=@PySem.F.slot_list_append
def cb:=@PySem.F.type_list_append
def ce:=@List.map_append
def cf:=@List.mem_map_of_mem
def ci:=@Nat.ne_of_lt
def ck:=@Nat.lt_of_le_of_lt
def cq:=@List.mem_filter
def cr:=@List.mem_append_left
def cw:=@List.all_eq_true
def cy:=@Bool.false_ne_true
def cE:=@List.length_take
def cK:=@Nat.succ_le_succ
def cS:=@List.map_cons
def dc:=@Nat.zero_le
def de:=@Int.eq_ofNat_of_zero_le
def df:=@PySem.F.slot_str_join
def dn:=@PySem.F.type_str_join
def dt:=@List.getElem?_append_right
def dv:=@List.size_toArray
def dA:=@List.getElem_of_mem
def dE:=@Bool.eq_iff_iff
def dL:=@List.append_assoc
def dQ:=@Bool.false_and
def dS:=@List.filter_cons
def ee:=@Option.map_eq_some_iff
def ef:=@List.take_of_length_le
def eg:=@List.append_nil
def eh:=@List.length_replicate
def ej:=@PyProof.Rows.boot_all
def eD:=@PyProof.Rows.boot_str
def eI:=@Bool.and_eq_true
def eJ:=@Int.toNat_natCast
def eR:=@List.getElem?_cons_succ
def fe:=@Int.emod_lt_of_pos
def ff:=@List.filter_map
def fg:=@List.cons_ne_nil
def fh:=@List.replicate_succ
def fi:=@List.map_congr_left
def fm:=@Option.isSome_iff_exists
def fo:=@List.getElem?_eq_none
def fq:=@List.mem_of_mem_take
def ft:=@PyProof.Rows.boot_list
def fv:=@List.getElem?_append_left
def fw:=@Nat.le_of_lt
def fz:=@List.length_filter_le
def fA:=@Int.emod_nonneg
def fE:=@List.length_drop
def fF:=@Bool.not_eq_true
def fI:=@List.take_append_of_le_length
def fN:=@List.mem_iff_getElem
def fR:=@Nat.lt_irrefl
def fS:=@List.length_range
def fT:=@List.nil_append
def gc:=@PySem.F.slot_str_split
def ge:=@PySem.F.type_str_split
def gg:=@List.take_length
def gi:=@List.any_eq_true
def gp:=@PyProof.Rows.boot_any
def gu:=@List.mem_range
def gx:=@List.length_dropLast
def gy:=@List.flatten_cons
def gz:=@List.take_add_one
def gE:=@List.append_cancel_left
def gI:=@Bool.true_and
def gL:=@PyProof.Rows.boot_tuple
def gS:=@List.getElem_mem
def gT:=@List.getElem_map
def gX:=@List.getElem?_set_self
def hG:=@List.filter_append
def hU:=@List.nodup_cons
def hV:=@List.of_mem_zip
def hW:=@PyProof.Rows.boot_int
def hZ:=@List.nodup_append
def ia:=@List.getElem?_set_ne
def ib:=@Bool.and_false
def ic:=@List.nodup_nil
def ii:=@List.lookup_cons
def ij:=@List.map_id
def im:=@Nat.ne_of_gt
def io:=@List.sum_eq_zero_iff_forall_eq_nat
def ip:=@Nat.not_lt_zero
def iq:=@List.zip_append
def iA:=@List.length_zip
def iE:=@Int.natAbs_natCast
def iF:=@PySem.F.slot_dict_getitem.lookup
def iL:=@PyProof.Rows.boot_bool
def iN:=@Nat.le_succ
def iO:=@Nat.lt_succ_of_lt
def iP:=@List.ext_getElem?
def iS:=@Bool.not_eq_true'
def iX:=@List.getElem?_zipWith
def ja:=@Nat.sub_self
def jp:=@Nat.lt_succ_self
def jv:=@List.reverse_reverse
def jI:=@List.dropLast_subset
def jS:=@List.any_cons
def ke:=@Option.map_some
def kg:=@List.length_nil
def ki:=@List.foldl_cons
def kn:=@Nat.add_le_add_left
def ko:=@Nat.min_eq_left
def kq:=@List.map_eq_nil_iff
def kt:=@Nat.min_le_left
def ku:=@List.length_set
def kx:=@Nat.le_of_eq
def ky:=@Int.zero_add
def kz:=@List.count_eq_zero
def kA:=@Nat.zero_add
def kC:=@List.all_map
def kD:=@List.getElem?_take
def kF:=@List.foldl_append
def kG:=@Nat.le_succ_of_le
def kH:=@Bool.false_or
def kK:=@List.all_cons
def kL:=@List.map_take
def kN:=@List.sum_cons
def kQ:=@List.mem_flatMap
def kR:=@List.not_mem_nil
def kS:=@List.map_nil
def kT:=@List.any_map
theorem kU {p q r:Prop} (h:p):(p∨q)∨r:=.inl (.inl h)
local macro_rules | `(tactic| omega) => `(tactic| lia)
set_option Elab.async false
set_option linter.all false
set_option maxRecDepth 100000
namespace L2
open PySem PySem.Spec PyProof.Rows
noncomputable abbrev Key:=Sum Int Str
noncomputable def Mf:Key->Value->Bool
 | .inl k,v=>Value.isInt k v
 | .inr x,v=>Value.isStrOf x v
noncomputable def my (w:World):Key->Int
 | .inl k=>hashInt k
 | .inr x=>hashStr w x
theorem DN:∀ {k:Key} {v:Value},Mf k v=true->(∃ i t,k=Sum.inl i/\v=Value.int i t) \/ (∃ x t,k=Sum.inr x/\v=Value.str x t)
 | .inl i,v,h=>by
  obtain⟨t,e⟩:=Value.isInt_shape (k:=i) (v:=v) h
  exact .inl ⟨i,t,rfl,e⟩
 | .inr x,v,h=>by
  obtain⟨t,e⟩:=Value.isStrOf_shape (x:=x) (v:=v) h
  exact .inr ⟨x,t,rfl,e⟩
theorem UV (i:Int) (t:Tok):Mf (.inl i) (.int i t)=true:=by simp[Mf,Value.isInt]
theorem T8 (x:Str) (t:Tok):Mf (.inr x) (.str x t)=true:=by simp[Mf,Value.isStrOf]
theorem bY (a b:Int):decide ((Sum.inl a:Key)=Sum.inl b)=(a == b):=by
 by_cases e:a=b
 ·subst e;simp
 ·have h:¬ (Sum.inl a:Key)=Sum.inl b:=λq=>e (Sum.inl.inj q)
  rw[decide_eq_false h]
  exact (beq_eq_false_iff_ne.mpr e).symm
theorem Z1 (a b:Str):decide ((Sum.inr a:Key)=Sum.inr b)=decide (a=b):=by
 by_cases e:a=b
 ·subst e;simp
 ·have h:¬ (Sum.inr a:Key)=Sum.inr b:=λq=>e (Sum.inr.inj q)
  rw[decide_eq_false h,decide_eq_false e]
theorem Z5 (a:Int) (b:Str):decide ((Sum.inl a:Key)=Sum.inr b)=false:=decide_eq_false (λq=>nomatch q)
theorem dF (a:Str) (b:Int):decide ((Sum.inr a:Key)=Sum.inl b)=false:=decide_eq_false (λq=>nomatch q)
noncomputable def DR (prog:Program) (w:World):PySem.KeyKind prog w Key where
 is:=Mf
 hash:=my w
 inj:=λv a b ha hb=>by
  rcases DN ha with⟨i,t,rfl,rfl⟩ | ⟨x,t,rfl,rfl⟩
  ·rcases DN hb with⟨j,u,rfl,e⟩ | ⟨y,u,rfl,e⟩
   ·injection e with e1 _;rw[e1]
   ·exact nomatch e
  ·rcases DN hb with⟨j,u,rfl,e⟩ | ⟨y,u,rfl,e⟩
   ·exact nomatch e
   ·injection e with e1 _;rw[e1]
 byValue:=λk v h=>by
  rcases DN h with⟨i,t,rfl,rfl⟩ | ⟨x,t,rfl,rfl⟩ <;> rfl
 pyHash:=λhv h=>by
  rcases DN hv with⟨i,t,rfl,rfl⟩ | ⟨x,t,rfl,rfl⟩
  ·exact wpAny_pyHash_int h
  ·exact wpAny_pyHash_str h
 eqBool:=λhu hv h=>by
  rcases DN hu with⟨i,t,rfl,rfl⟩ | ⟨x,t,rfl,rfl⟩
  ·rcases DN hv with⟨j,u,rfl,rfl⟩ | ⟨y,u,rfl,rfl⟩
   ·rw[bY] at h;exact wpAny_eqBool_int h
   ·rw[Z5] at h;exact SeqAt.EqAt.int_str i t y u _ _ _ _ h
  ·rcases DN hv with⟨j,u,rfl,rfl⟩ | ⟨y,u,rfl,rfl⟩
   ·rw[dF] at h;exact SeqAt.EqAt.str_int x t j u _ _ _ _ h
   ·rw[Z1] at h;exact wpAny_eqBool_str h
 «strs»:=λk x t v h=>by
  rcases DN h with⟨i,u,rfl,e⟩ | ⟨y,u,rfl,e⟩
  ·exact nomatch e
  ·injection e with e1 _
   subst e1
   cases v <;> rfl
theorem Oj (prog:Program) (w:World) (i:Int) (t:Tok):(DR prog w).is (.inl i) (.int i t)=true:=UV i t
theorem O6 (prog:Program) (w:World) (x:Str) (t:Tok):(DR prog w).is (.inr x) (.str x t)=true:=T8 x t
inductive V where
 | non | bl (b:Bool) | int (i:Int) | str (x:Str) | byt (b:Array UInt8) | flt (b:UInt64) | ref (a:Addr) | ty (n:String)
 deriving DecidableEq
noncomputable def RelV:V->Value->Prop
 | .non,u=>u=Value.none
 | .bl b,u=>u=Value.bool b
 | .int i,u=>∃ t,u=Value.int i t
 | .str x,u=>∃ t,u=Value.str x t
 | .byt b,u=>∃ t,u=Value.bytes b t
 | .flt b,u=>∃ t,u=Value.float b t
 | .ref a,u=>u=Value.ref a
 | .ty n,u=>u=Value.type n
noncomputable abbrev Vals:List V->List Value->Prop:=Paired RelV
theorem Vals.length {xs:List V} {us:List Value} (r:Vals xs us):xs.length=us.length:=Paired.length r
theorem Vals.get:∀ {xs:List V} {us:List Value} {i:Nat} {x:V},Vals xs us->xs[i]? = some x->∃ u,us[i]? = some u/\RelV x u
 | _,_,_,_,.nil,e=>by simp at e
 | _,_,0,_,.cons r _,e=>by simp at e;subst e;exact⟨_,rfl,r⟩
 | _,_,i+1,x,.cons _ t,e=>by
  obtain⟨u,h1,h2⟩:=Vals.get (i:=i) (x:=x) t (by simpa using e)
  exact⟨u,by simpa using h1,h2⟩
theorem Vals.set {x:V} {u:Value} (r:RelV x u):∀ {xs:List V} {us:List Value} (i:Nat),Vals xs us->Vals (xs.set i x) (us.set i u)
 | _,_,_,.nil=>.nil
 | _,_,0,.cons _ t=>.cons r t
 | _,_,i+1,.cons q t=>.cons q (Vals.set r i t)
theorem Vals.append:∀ {xs ys:List V} {us ws:List Value},Vals xs us->Vals ys ws->Vals (xs++ys) (us++ws)
 | _,_,_,_,.nil,s=>s
 | _,_,_,_,.cons r t,s=>.cons r (Vals.append t s)
theorem Vals.take:∀ {xs:List V} {us:List Value} (n:Nat),Vals xs us->Vals (xs.take n) (us.take n)
 | _,_,0,_=>.nil
 | _,_,_+1,.nil=>.nil
 | _,_,n+1,.cons r t=>.cons r (Vals.take n t)
theorem Vals.drop:∀ {xs:List V} {us:List Value} (n:Nat),Vals xs us->Vals (xs.drop n) (us.drop n)
 | _,_,0,r=>r
 | _,_,_+1,.nil=>.nil
 | _,_,n+1,.cons _ t=>Vals.drop n t
noncomputable def Gr:Option V->Option Value->Prop
 | some v,some u=>RelV v u
 | none,none=>True
 | _,_=>False
noncomputable def KV {κ:Type}:List (κ × V)->List (κ × Value)->Prop:=Paired λ(p:κ × V) (q:κ × Value)=>p.1=q.1/\RelV p.2 q.2
noncomputable def kV:Key->V
 | .inl i=>.int i
 | .inr x=>.str x
inductive HO where
 | lst (xs:List V)
 | tup (xs:List V)
 | dK (a8:List (Key × V)) | dT (a8:List (List Key × V))
 | set (S:Int->Bool) (n:Nat)
 | ins (C dx:Addr) (fs:List (Str × V))
 | own (x:Addr)
 | xd (fs:List (Str × V))
 | met (f x:Addr)
 | rng (lo hi:Int)
 | frz (o:Obj) (u:HO)
 | tbl (ps:Array Value)
 | ext (φ:Heap->Prop)
noncomputable abbrev Hp:=Addr->Option HO
noncomputable def upd (H:Hp) (a:Addr) (o:HO):Hp:=λb=>if b=a then some o else H b
theorem Af {H:Hp} {a:Addr} {o:HO}:upd H a o a=some o:=by unfold upd;rw[if_pos rfl]
theorem Ao {H:Hp} {a b:Addr} {o:HO} (h:b ≠ a):upd H a o b=H b:=by unfold upd;rw[if_neg h]
theorem Oz {H:Hp} {a b:Addr} {o u:HO} (h:H a=some o) (h':H b=some u) (d:o ≠ u):a ≠ b:=by
 intro e;subst e;rw[h] at h';exact d (Option.some.inj h')
theorem Al {H:Hp} {a b:Addr} {o:HO} (h:H a=some o) (h':H b=none):a ≠ b:=by
 intro e;subst e;rw[h] at h';cases h'
section
variable (P:Program) (w:World)
noncomputable def Bt (H:Hp) (h:Heap) (a:Addr):HO->Prop
 | .lst xs=>xs.length<=sizeLine/\∃ (its:List Value) (n:Nat),Vals xs its/\h.get? a=some { cls:=.type "list",data:=.seq its.toArray n }
 | .tup xs=>xs.length<=sizeLine/\∃ its:List Value,Vals xs its/\IsTup h a its.toArray
 | .dK a8=>a8.length<=sizeLine/\(a == sysModules)=false/\∃ vs,KV a8 vs/\h.DictOf (DR P w) a vs
 | .dT a8=>a8.length<=sizeLine/\(a == sysModules)=false/\∃ xs:List (List Key × Addr × Value),
   Paired (λ(p:List Key × V) (q:List Key × Addr × Value)=>p.1=q.1/\H q.2.1=some (.tup (p.1.map kV))/\RelV p.2 q.2.2) a8 xs /\
   ∃ o es ep,h.get? a=some o/\o.ExactDict/\o.data=.dict es ep/\es.toList=xs.map (entryOfKey (tupleKind (DR P w)))/\(xs.map (·.1)).Nodup
 | .set S n=>h.SetOf (intKind P w) a S n
 | .ins C dx fs=>H dx=some (.own a)/\fs.length<=1000/\dx ≠ a/\h.get? a=some (W.instObj C dx) /\
   ∃ mA,h.Ns1 dx mA/\(∀ f,Gr (fs.lookup f) (mA f))/\PySem.Within mA (fs.map (·.1))
 | .own _=>∃ o,h.get? a=some o
 | .xd fs=>∃ mA,h.Ns1 a mA/\∀ f,Gr (fs.lookup f) (mA f)
 | .rng lo hi=>∃ t u v,h.get? a=some { cls:=.type "range",data:=.fields #[.int lo t,.int hi u,.int 1 v] }
 | .frz o u=>h.get? a=some o/\Bt H h a u
 | .tbl ps=>h.get? a=some { cls:=.none,data:=.fields ps }
 | .met f x=>h.get? a=some (W.methodObj (.ref f) (.ref x))
 | .ext φ=>φ h/\(∃ o,h.get? a=some o)/\∀ h1 h2:Heap,φ h1->(∀ o,h1.get? a=some o->h2.get? a=some o)->φ h2
noncomputable def Fd (H:Hp) (h:Heap):Prop:=∀ a o,H a=some o->Bt P w H h a o
end
section
variable {P:Program} {w:World} {H H':Hp} {h h':Heap} {a:Addr} {o:HO}
theorem Bt.lt (x:Bt P w H h a o):a<h.objs.size:=by
 cases o with
 | lst xs=>obtain⟨_,_,_,_,e⟩:=x;exact Heap.lt_size e
 | tup xs=>obtain⟨_,_,_,p⟩:=x;exact p.lt
 | dK a8=>obtain⟨_,_,_,_,o,_,_,e,_⟩:=x;exact Heap.lt_size e
 | dT a8=>obtain⟨_,_,_,_,o,_,_,e,_⟩:=x;exact Heap.lt_size e
 | set S n=>obtain⟨o,_,_,_,e,_⟩:=x;exact Heap.lt_size e
 | ins C dx fs=>obtain⟨_,_,_,e,_⟩:=x;exact Heap.lt_size e
 | own y=>obtain⟨_,e⟩:=x;exact Heap.lt_size e
 | xd fs=>obtain⟨_,⟨_,_,_,e,_⟩,_⟩:=x;exact Heap.lt_size e
 | rng lo hi=>obtain⟨_,_,_,e⟩:=x;exact Heap.lt_size e
 | frz ob u=>obtain⟨e,_⟩:=x;exact Heap.lt_size e
 | tbl ps=>exact Heap.lt_size (show h.get? a=some _ from x)
 | met f y=>exact Heap.lt_size (show h.get? a=some _ from x)
 | ext φ=>obtain⟨_,⟨_,e⟩,_⟩:=x;exact Heap.lt_size e
theorem Paired.Gq {α β:Type} {F G:α->β->Prop}:∀ {l₁:List α} {l₂:List β},Paired F l₁ l₂->(∀ a b,F a b->G a b)->Paired G l₁ l₂
 | _,_,.nil,_=>.nil
 | _,_,.cons r t,f=>.cons (f _ _ r) (Paired.Gq t f)
theorem Bt.stay (x:Bt P w H h a o) (k:∀ b u,(b=a \/ H b=some (.own a))->h.get? b=some u->h'.get? b=some u)
  (ho:∀ b,H b=some (.own a)->H' b=some (.own a)) (ht:∀ b xs,H b=some (.tup xs)->H' b=some (.tup xs)):Bt P w H' h' a o:=by
 induction o with
 | lst xs=>obtain⟨z,its,n,r,e⟩:=x;exact⟨z,its,n,r,k _ _ (.inl rfl) e⟩
 | tup xs=>obtain⟨z,its,r,ob,e,c⟩:=x;exact⟨z,its,r,ob,k _ _ (.inl rfl) e,c⟩
 | dK a8=>obtain⟨z,y,vs,r,ob,es,ep,e,c⟩:=x;exact⟨z,y,vs,r,ob,es,ep,k _ _ (.inl rfl) e,c⟩
 | dT a8 =>
  obtain⟨z,y,xs,r,ob,es,ep,e,c⟩:=x
  exact⟨z,y,xs,Paired.Gq r λp q z=>⟨z.1,ht _ _ z.2.1,z.2.2⟩,ob,es,ep,k _ _ (.inl rfl) e,c⟩
 | set S n=>obtain⟨ob,es,ep,t,e,c⟩:=x;exact⟨ob,es,ep,t,k _ _ (.inl rfl) e,c⟩
 | ins C dx fs =>
  obtain⟨d,z,ne,e,mA,⟨od,es,ep,e2,c⟩,r⟩:=x
  exact⟨ho _ d,z,ne,k _ _ (.inl rfl) e,mA,⟨od,es,ep,k _ _ (.inr d) e2,c⟩,r⟩
 | own y=>obtain⟨ob,e⟩:=x;exact⟨ob,k _ _ (.inl rfl) e⟩
 | xd fs=>obtain⟨mA,⟨od,es,ep,e,c⟩,r⟩:=x;exact⟨mA,⟨od,es,ep,k _ _ (.inl rfl) e,c⟩,r⟩
 | rng lo hi=>obtain⟨t,u,v,e⟩:=x;exact⟨t,u,v,k _ _ (.inl rfl) e⟩
 | frz ob u ih=>obtain⟨e,q⟩:=x;exact⟨k _ _ (.inl rfl) e,ih q⟩
 | tbl ps =>
  have e:h.get? a=some { cls:=.none,data:=.fields ps }:=x
  show h'.get? a=some { cls:=.none,data:=.fields ps }
  exact k a _ (.inl rfl) e
 | met f y =>
  have e:h.get? a=some (W.methodObj (.ref f) (.ref y)):=x
  show h'.get? a=some (W.methodObj (.ref f) (.ref y))
  exact k a _ (.inl rfl) e
 | ext φ=>obtain⟨p,⟨o,e⟩,st⟩:=x;exact⟨st _ _ p λo q=>k _ _ (.inl rfl) q,⟨o,k _ _ (.inl rfl) e⟩,st⟩
theorem Fd.lt (x:Fd P w H h) (e:H a=some o):a<h.objs.size:=(x a o e).lt
theorem Fd.fresh (x:Fd P w H h) (e:h.objs.size<=a):H a=none:=by
 cases q:H a with
 | none=>rfl
 | some u=>exact absurd (bt (x.lt q) e) (fR _)
theorem Fd.kept (x:Fd P w H h) (k:∀ b u,h.get? b=some u->h'.get? b=some u):Fd P w H h':=λa o e =>
 (x a o e).stay (λb u _ q=>k b u q) (λ_ q=>q) λ_ _ q=>q
theorem Fd.laid (x:Fd P w H h) (k:∀ b u,h.get? b=some u->h'.get? b=some u) (hp:h.objs.size<=a) (new:Bt P w (upd H a o) h' a o):Fd P w (upd H a o) h':=λb u e=>by
 have hn:=x.fresh hp
 by_cases hb:b=a
 ·subst hb;rw[Af] at e;cases e;exact new
 ·rw[Ao hb] at e
  exact (x b u e).stay (λc v _ q=>k c v q) (λc q=>by rw[Ao (Al q hn)];exact q) λc xs q=>by rw[Ao (Al q hn)];exact q
end
noncomputable def Rd (H:Hp) (a:Addr) (u:HO):Prop:=H a=some u \/ ∃ o,H a=some (.frz o u)
theorem Rd.ok {P:Program} {w:World} {H:Hp} {h:Heap} {a:Addr} {u:HO} (r:Rd H a u) (x:Fd P w H h):Bt P w H h a u:=by
 rcases r with r | ⟨o,r⟩
 ·exact x a u r
 ·obtain⟨_,q⟩:=x a _ r
  exact q
noncomputable def jA:Option HO->Prop
 | some (.lst _)=>True
 | some (.dK _)=>True
 | some (.dT _)=>True
 | some (.set _ _)=>True
 | some (.ins _ _ _)=>True
 | some (.ext _)=>True
 | _=>False
section
variable {P:Program} {w:World} {H:Hp} {h h':Heap} {x e:Addr} {o':HO}
theorem Fd.write (ok:Fd P w H h) (mu:jA (H x)) (he:e=x \/ H e=some (.own x)) (k:∀ b u,b ≠ e->h.get? b=some u->h'.get? b=some u) (xy:∃ u,h'.get? e=some u)
  (new:Bt P w (upd H x o') h' x o'):Fd P w (upd H x o') h':=λb u q=>by
 have nown:∀ c y,H c=some (.own y)->c ≠ x:=λc y r z=>by subst z;rw[r] at mu;exact mu
 have ntup:∀ c xs,H c=some (.tup xs)->c ≠ x:=λc xs r z=>by subst z;rw[r] at mu;exact mu
 by_cases hb:b=x
 ·subst hb;rw[Af] at q;cases q;exact new
 ·rw[Ao hb] at q
  by_cases hbe:b=e
  ·have q':H b=some (.own x):=by
    rcases he with z | z
    ·exact absurd (hbe.trans z) hb
    ·rw[hbe];exact z
   rw[q] at q';cases q'
   obtain⟨v,hv⟩:=xy
   exact⟨v,by rw[hbe];exact hv⟩
  ·refine (ok b u q).stay (λc v hc r=>k c v ?_ r) (λc r=>by rw[Ao (nown c b r)];exact r) λc xs r=>by rw[Ao (ntup c xs r)];exact r
   rcases hc with rfl | hc
   ·exact hbe
   ·rintro rfl
    rcases he with z | z
    ·exact nown c b hc z
    ·rw[hc] at z;cases z;exact hb rfl
end
structure Un (fs ex:List Addr) (H H':Hp) (h h':Heap):Prop where
 keep:∀ b o,h.get? b=some o->H b=none->b ∉ fs->b ∉ ex->h'.get? b=some o
 slot:∀ b o,h.get? b=some o->H b=none->b∈fs->b ∉ ex->∃ sl,h'.get? b=some { o with slots:=sl }
 free:∀ b o,h.get? b=some o->H b=none->b ∉ ex->H' b=none
 there:∀ b o,h.get? b=some o->b ∉ ex->∃ o',h'.get? b=some o'
 tups:∀ b xs,H b=some (.tup xs)->H' b=some (.tup xs)
 frzs:∀ b o u,H b=some (.frz o u)->H' b=some (.frz o u)
 tbls:∀ b ps,H b=some (.tbl ps)->∃ more,H' b=some (.tbl (ps++more))
section
variable {fs SZ ex EQ:List Addr} {H H1 H2:Hp} {h h1 h2 h':Heap} {a x e:Addr} {o:HO}
theorem Un.any (u:Un fs ex H H1 h h1) {b:Addr} {ob:Obj} (q:h.get? b=some ob) (n:H b=none) (hx:b ∉ ex):∃ sl,h1.get? b=some { ob with slots:=sl }:=by
 by_cases hb:b∈fs
 ·exact u.slot b ob q n hb hx
 ·exact⟨ob.slots,u.keep b ob q n hb hx⟩
theorem Un.kept (k:∀ b u,h.get? b=some u->h'.get? b=some u):Un fs ex H H h h' :=
 ⟨λb ob q _ _ _=>k b ob q,λb ob q _ _ _=>⟨ob.slots,k b ob q⟩,λ_ _ _ n _=>n,λb ob q _=>⟨ob,k b ob q⟩,λ_ _ q=>q,λ_ _ _ q=>q,λ_ ps q=>⟨#[],by rw[q];simp⟩⟩
theorem Un.refl:Un fs ex H H h h:=Un.kept λ_ _ q=>q
theorem Un.laid (k:∀ b u,h.get? b=some u->h'.get? b=some u) (hp:h.objs.size<=a) (hn:H a=none):Un fs ex H (upd H a o) h h' where
 keep:=λb u q _ _ _=>k b u q
 slot:=λb u q _ _ _=>⟨u.slots,k b u q⟩
 free:=λb u q n _=>by rw[Ao (ci (bt (Heap.lt_size q) hp))];exact n
 there:=λb u q _=>⟨u,k b u q⟩
 tups:=λb xs q=>by rw[Ao (Al q hn)];exact q
 frzs:=λb u xs q=>by rw[Ao (Al q hn)];exact q
 tbls:=λb ps q=>⟨#[],by rw[Ao (Al q hn),q];simp⟩
theorem Un.write (mu:jA (H x)) (he:e=x \/ H e=some (.own x)) (k:∀ b u,b ≠ e->h.get? b=some u->h'.get? b=some u) (xy:∃ u,h'.get? e=some u):Un fs ex H (upd H x o) h h':=by
 have hx:∀ b,H b=none->b ≠ x:=λb n z=>by subst z;rw[n] at mu;exact mu
 have hb:∀ b,H b=none->b ≠ e:=λb n z=>by
  subst z
  rcases he with r | r
  ·exact hx b n r
  ·rw[n] at r;cases r
 have hm:∀ b u,H b=some u->¬ jA (some u)->b ≠ x:=λb u q nm z=>by subst z;rw[q] at mu;exact nm mu
 refine⟨λb u q n _ _=>k b u (hb b n) q,λb u q n _ _=>⟨u.slots,k b u (hb b n) q⟩,λb u q n _=>by rw[Ao (hx b n)];exact n,λb u q _=>?_,
  λb xs q=>by rw[Ao (hm b _ q λz=>z)];exact q,λb u xs q=>by rw[Ao (hm b _ q λz=>z)];exact q,λb ps q=>⟨#[],by rw[Ao (hm b _ q λz=>z),q];simp⟩⟩
 by_cases hbe:b=e
 ·subst hbe;exact xy
 ·exact⟨u,k b u hbe q⟩
end
noncomputable def lJ (h:Heap) (H:Hp):List Addr:=(List.range h.objs.size).filter λa=>(H a).isSome
noncomputable def Nz (h:Heap) (H:Hp):Heap:=W.hideAll h (lJ h H)
theorem U7 (h:Heap) (H:Hp):(Nz h H).objs.size=h.objs.size:=W.hideAll_size _ _
theorem W5 {h:Heap} {H:Hp} {b:Addr} {o:Obj} (e:h.get? b=some o) (n:H b=none):(Nz h H).get? b=some o :=
 W.hideAll_get _ e λhm=>by
  have q:(H b).isSome=true:=(cq.mp hm).2
  rw[n] at q;simp at q
theorem Xv {h:Heap} {H:Hp} {b:Addr} {o:Obj} (e:(Nz h H).get? b=some o):h.get? b=some o/\H b=none:=by
 have e':h.get? b=some o:=W.of_hideAll (lJ h H) e
 refine⟨e',?_⟩
 cases q:H b with
 | none=>rfl
 | some x =>
  have hm:b∈lJ h H:=List.mem_filter.mpr ⟨List.mem_range.mpr (Heap.lt_size e'),by simp[q]⟩
  have z:(Nz h H).get? b=none:=W.hideAll_none (lJ h H) hm
  rw[z] at e;cases e
noncomputable def Xx (g h:Heap) (L:Addr):List (Addr × Obj):=(List.range h.objs.size).filterMap λa=>if a=L \/ (g.get? a).isSome=true then none else (h.get? a).map λo=>(a,o)
noncomputable def rest (g h:Heap) (L d:Addr):List (Addr × Obj):=(Xx g h L).filter λp=>decide (p.1 ≠ d)
structure Mod (K:W.Frag) (mg:Str->Option Value) (base:Heap):Prop where
 kin:K.In base
 glob:base.Ns mainGlobals mg
 blt:∃ mb,base.Ns builtinsNs mb/\∀ x:Str,x ≠ "__name__"->mb x=bootBuiltins x
 nolimit:base.NoLimit
structure Cx where
 prog:Program
 w:World
 K:W.Frag
 mg:Str->Option Value
 base:Heap
 A:Around
 N:List Str
 s₀:Shared
 H₀:Hp
 env:Env
 outer:List Env
 stack:List Env
 ex:List Addr
 fn:Str->Bool
 calm:Bool
 pn:List (Addr × Obj)
 xe:Value->Shared->Prop
noncomputable def frs (l:List Env):List Addr:=l.filterMap (·.frame)
noncomputable abbrev Cx.fs (X:Cx):List Addr:=frs X.outer
noncomputable def pY (sc:Scope) (x:Str):Prop:=sc.names.lookup x=some .local \/ sc.names.lookup x=some .cell \/ sc.names.lookup x=some .free
noncomputable def Loc (sc:Scope) (x:Str):Prop:=sc.names.lookup x=some .local \/ sc.names.lookup x=some .cell
noncomputable def Look (env:Env) (h:Heap) (m:Str->Option Value) (x:Str) (u:Value):Prop :=
 (env.kindOf x=some .local/\m x=some u) \/ ((env.kindOf x=some .cell \/ env.kindOf x=some .free)/\∃ c,env.cells.lookup x=some c/\h.IsCell c (some u))
structure Cx.Ok (X:Cx):Prop where
 mod:Mod X.K X.mg X.base
 kind:X.env.scope.kind=.function
 glob:X.env.globals=mainGlobals
 blt:X.env.builtins=builtinsNs
 above:X.s₀.heap.objs.size<=X.env.locals
 inj:∀ x y c,X.env.cells.lookup x=some c->X.env.cells.lookup y=some c->x=y
 has:∀ x,(X.env.kindOf x=some .cell \/ X.env.kindOf x=some .free)->∃ c,X.env.cells.lookup x=some c
 cab:∀ x c,X.fn x=true->X.env.cells.lookup x=some c->X.s₀.heap.objs.size<=c
 hd:X.calm=true->X.A.handled=none
 frames:X.A.frames=some X.stack
 stk:X.stack=X.outer \/ (X.stack=X.env::X.outer/\X.env.frame=some X.env.locals)
 exf:∀ b∈X.ex,b ≠ X.env.locals/\∀ x c,X.env.cells.lookup x=some c->c ≠ b
 bs:∀ b o,X.base.get? b=some o->X.s₀.heap.get? b=some o/\X.H₀ b=none
 bsz:X.base.objs.size<=X.s₀.heap.objs.size
 noex:∀ b o,X.base.get? b=some o->b ∉ X.ex
 exfs:∀ b∈X.ex,b ∉ X.fs
 I_:X.s₀.heap.FunFrames X.base X.outer
 frf:∀ b∈X.fs,X.H₀ b=none
structure Inv (X:Cx) (a7:List (Addr × Obj)) (σ:List (Option V)) (H:Hp) (s:Shared):Prop where
 ok:X.Ok
 os:s.os=X.s₀.os
 bare:AllBare s.gens
 base:Un X.fs X.ex X.H₀ H X.s₀.heap s.heap
 loc:∃ m,s.heap.Ns X.env.locals m/\∀ (i:Nat) (x:Str) (v:V),X.N[i]? = some x->σ[i]? = some (some v)->pY X.env.scope x->∃ u,RelV v u/\Look X.env s.heap m x u
 cell:∀ x c,X.env.cells.lookup x=some c->∃ v,s.heap.IsCell c v
 free:H X.env.locals=none
 freeC:∀ x c,X.env.cells.lookup x=some c->H c=none
 pin:∀ p∈X.pn++a7,s.heap.get? p.1=some p.2/\H p.1=none/\p.1 ≠ X.env.locals/\p.1 ∉ X.fs/\∀ v,p.2.data ≠ .cell v
 hok:Fd X.prog X.w H s.heap
 len:σ.length=X.N.length
section
variable {X:Cx} {a7:List (Addr × Obj)} {σ:List (Option V)} {H H':Hp} {s:Shared} {h':Heap}
theorem Cx.Ok.mz (ok:X.Ok) {b:Addr} {o:Obj} (e:X.base.get? b=some o):b ∉ X.fs:=λhb=>by
 have:=(ok.I_.mem hb).1
 rw[e] at this;cases this
theorem Inv.bs (I:Inv X a7 σ H s):∀ b o,X.base.get? b=some o->s.heap.get? b=some o/\H b=none:=λb o e =>
 ⟨I.base.keep b o (I.ok.bs b o e).1 (I.ok.bs b o e).2 (I.ok.mz e) (I.ok.noex b o e),I.base.free b o (I.ok.bs b o e).1 (I.ok.bs b o e).2 (I.ok.noex b o e)⟩
theorem Inv.bk (I:Inv X a7 σ H s):∀ b o,X.base.get? b=some o->s.heap.get? b=some o:=λb o e=>(I.bs b o e).1
theorem Inv.mod (I:Inv X a7 σ H s):Mod X.K X.mg X.base:=I.ok.mod
theorem Inv.Gv (I:Inv X a7 σ H s):X.K.In s.heap:=I.ok.mod.kin.keeps I.bk
theorem Inv.lt (I:Inv X a7 σ H s):X.env.locals<s.heap.objs.size:=let ⟨_,hn,_⟩:=I.loc;hn.lt
theorem Inv.sz (I:Inv X a7 σ H s):X.s₀.heap.objs.size<=s.heap.objs.size:=bp I.ok.above (fw I.lt)
theorem Inv.lu (I:Inv X a7 σ H s) {a:Addr} (h:s.heap.objs.size<=a):a ∉ X.fs:=λhb=>by
 obtain⟨_,o,ho,_⟩:=I.ok.I_.mem hb
 exact absurd (bt (Heap.lt_size ho) (bp I.sz h)) (fR _)
theorem Inv.Yj (I:Inv X a7 σ H s):∀ x c,X.env.cells.lookup x=some c->c ≠ X.env.locals:=λx c e z=>by
 obtain⟨v,o,ho,hd⟩:=I.cell x c e
 obtain⟨m,⟨o',es,ep,si,Fs,_⟩,_⟩:=I.loc
 rw[z,si] at ho;cases ho;rw[Fs] at hd;cases hd
theorem Inv.I_ (I:Inv X a7 σ H s):s.heap.FunFrames X.base X.outer:=by
 have all:∀ (l:List Env),(∀ b∈frs l,b∈X.fs)->X.s₀.heap.FunFrames X.base l->s.heap.FunFrames X.base l:=by
  intro l
  induction l with
  | nil=>intro _ _;trivial
  | cons env r ih =>
   intro hs hl
   obtain⟨hk,⟨L,o,hf,hn,ho,hd⟩,hr⟩:=hl
   have hL:L∈X.fs:=hs L (by unfold frs;rw[List.filterMap_cons,hf];exact List.mem_cons_self)
   obtain⟨sl,e⟩:=I.base.slot L o ho (I.ok.frf L hL) hL λz=>I.ok.exfs L z hL
   exact⟨hk,⟨L,_,hf,hn,e,hd⟩,ih (λb hb=>hs b (by unfold frs;rw[List.filterMap_cons,hf];exact List.mem_cons_of_mem _ hb)) hr⟩
 exact all X.outer (λ_ hb=>hb) I.ok.I_
theorem Inv.stack (I:Inv X a7 σ H s):s.heap.FunFrames X.base X.stack:=by
 rcases I.ok.stk with e | ⟨e,hf⟩
 ·rw[e];exact I.I_
 ·rw[e]
  obtain⟨m,hn,_⟩:=I.loc
  refine .cons (by rw[I.ok.kind];decide) hf hn ?_ I.I_
  exact Heap.get?_none_of_le (bp I.ok.bsz I.ok.above)
theorem Inv.Nj (I:Inv X a7 σ H s):∀ b∈frs X.stack,b∈X.env.locals::X.fs:=λb hb=>by
 rcases I.ok.stk with e | ⟨e,hf⟩
 ·rw[e] at hb;exact aI _ hb
 ·rw[e] at hb
  unfold frs at hb
  rw[List.filterMap_cons,hf] at hb
  exact hb
theorem Inv.IW (I:Inv X a7 σ H s):∀ b∈frs X.stack,H b=none:=λb hb=>by
 rcases bq.mp (I.Nj b hb) with e | hb
 ·rw[e];exact I.free
 ·obtain⟨_,o,ho,_⟩:=I.ok.I_.mem hb
  exact I.base.free b o ho (I.ok.frf b hb) λz=>I.ok.exfs b z hb
theorem Inv.step {g':Array GenState} {t':Nat} {d':Drawn} {ch:List Addr} (I:Inv X a7 σ H s)
  (rp:∀ b∈ch,(b∈X.ex \/ X.s₀.heap.objs.size<=b)/\b ≠ X.env.locals/\(∀ x c,X.env.cells.lookup x=some c->c ≠ b)/\∀ p∈X.pn++a7,p.1 ≠ b)
  (keep:∀ b o,b ≠ X.env.locals->b ∉ X.fs->b ∉ ch->s.heap.get? b=some o->H b=none->h'.get? b=some o)
  (slot:∀ b o,b ≠ X.env.locals->b∈X.fs->b ∉ ch->s.heap.get? b=some o->H b=none->∃ sl,h'.get? b=some { o with slots:=sl }) (free:∀ b o,b ∉ ch->s.heap.get? b=some o->H b=none->H' b=none)
  (there:∀ b o,b ∉ ch->s.heap.get? b=some o->∃ o',h'.get? b=some o')
  (tups:∀ b xs,H b=some (.tup xs)->H' b=some (.tup xs)) (frzs:∀ b o u,H b=some (.frz o u)->H' b=some (.frz o u)) (tbls:∀ b ps,H b=some (.tbl ps)->∃ more,H' b=some (.tbl (ps++more)))
  (ns:∀ m,s.heap.Ns X.env.locals m->h'.Ns X.env.locals m) (hok:Fd X.prog X.w H' h') (hg:AllBare g') :
  Inv X a7 σ H' { s with heap:=h',gens:=g',drawn:=d',toks:=t' }:=by
 have neL:∀ b o,X.s₀.heap.get? b=some o->b ≠ X.env.locals:=λb o e=>ci (bt (Heap.lt_size e) I.ok.above)
 have neC:∀ b o,X.s₀.heap.get? b=some o->b ∉ X.ex->b ∉ ch:=λb o e hx hb=>by
  rcases (rp b hb).1 with z | z
  ·exact hx z
  ·exact absurd (bt (Heap.lt_size e) z) (fR _)
 have cellK:∀ x c,X.env.cells.lookup x=some c->∀ v,s.heap.IsCell c v->h'.IsCell c v:=λx c e v ⟨o,ho,hd⟩=>by
  have nch:c ∉ ch:=λz=>(rp c z).2.2.1 x c e rfl
  by_cases hc:c∈X.fs
  ·obtain⟨sl,q⟩:=slot c o (I.Yj x c e) hc nch ho (I.freeC x c e)
   exact⟨_,q,hd⟩
  ·exact⟨o,keep c o (I.Yj x c e) hc nch ho (I.freeC x c e),hd⟩
 refine⟨I.ok,I.os,hg,⟨λb o e n hb hx=>?_,λb o e n hb hx=>?_,λb o e n hx=>?_,λb o e hx=>?_,λb xs e=>tups b xs (I.base.tups b xs e),λb o xs e=>frzs b o xs (I.base.frzs b o xs e),λb ps e=>?_⟩,?_,λx c e=>?_,?_,λx c e=>?_,λp hp=>?_,hok,I.len⟩
 ·exact keep b o (neL b o e) hb (neC b o e hx) (I.base.keep b o e n hb hx) (I.base.free b o e n hx)
 ·obtain⟨sl,e1⟩:=I.base.slot b o e n hb hx
  obtain⟨ug,e2⟩:=slot b _ (neL b o e) hb (neC b o e hx) e1 (I.base.free b o e n hx)
  exact⟨ug,e2⟩
 ·obtain⟨o',e1⟩:=I.base.there b o e hx
  exact free b o' (neC b o e hx) e1 (I.base.free b o e n hx)
 ·obtain⟨o',e1⟩:=I.base.there b o e hx
  exact there b o' (neC b o e hx) e1
 ·obtain⟨m1,e1⟩:=I.base.tbls b ps e
  obtain⟨m2,e2⟩:=tbls b _ e1
  exact⟨m1++m2,by rw[e2,Array.append_assoc]⟩
 ·obtain⟨m,hn,hl⟩:=I.loc
  refine⟨m,ns m hn,λi x v e1 e2 e3=>?_⟩
  obtain⟨u,r,l⟩:=hl i x v e1 e2 e3
  refine⟨u,r,?_⟩
  rcases l with l | ⟨k,c,e,z⟩
  ·exact .inl l
  ·exact .inr ⟨k,c,e,cellK x c e _ z⟩
 ·obtain⟨v,z⟩:=I.cell x c e
  exact⟨v,cellK x c e v z⟩
 ·obtain⟨m,⟨o,_,_,ho,_⟩,_⟩:=I.loc
  exact free _ o (λz=>(rp _ z).2.1 rfl) ho I.free
 ·obtain⟨v,o,ho,hd⟩:=I.cell x c e
  exact free c o (λz=>(rp c z).2.2.1 x c e rfl) ho (I.freeC x c e)
 ·obtain⟨e,n,ne,nf,d⟩:=I.pin p hp
  have nch:p.1 ∉ ch:=λz=>(rp p.1 z).2.2.2 p hp rfl
  exact⟨keep p.1 p.2 ne nf nch e n,free p.1 p.2 nch e n,ne,nf,d⟩
theorem Inv.un {t':Nat} (I:Inv X a7 σ H s) (u:Un X.fs [] H H' s.heap h') (hok:Fd X.prog X.w H' h'):Inv X a7 σ H' { s with heap:=h',toks:=t' }:=by
 obtain⟨m,⟨o,es,ep,ho,r⟩,_⟩:=id I.loc
 obtain⟨sl,hL⟩:=u.any ho I.free (by simp)
 exact I.step (g':=s.gens) (d':=s.drawn) (ch:=[]) (λ_ z=>nomatch z) (λb o _ hb _ e n=>u.keep b o e n hb (by simp)) (λb o _ hb _ e n=>u.slot b o e n hb (by simp)) (λb o _ e n=>u.free b o e n (by simp)) (λb o _ e=>u.there b o e (by simp)) u.tups u.frzs u.tbls (λm' hm=>by
  obtain⟨o',es',BQ,si,r'⟩:=hm
  rw[ho] at si;cases si
  exact⟨_,es',BQ,hL,r'⟩) hok I.bare
theorem Inv.call {g':Array GenState} {t':Nat} {d':Drawn} {ch:List Addr} (I:Inv X a7 σ H s) (u:Un (frs X.stack) ch H H' s.heap h') (hok:Fd X.prog X.w H' h') (hg:AllBare g')
  (rp:∀ b∈ch,(b∈X.ex \/ X.s₀.heap.objs.size<=b)/\b ≠ X.env.locals/\(∀ x c,X.env.cells.lookup x=some c->c ≠ b)/\∀ p∈X.pn++a7,p.1 ≠ b) :
  Inv X a7 σ H' { s with heap:=h',gens:=g',drawn:=d',toks:=t' }:=by
 obtain⟨m,⟨o,es,ep,ho,r⟩,_⟩:=id I.loc
 obtain⟨sl,hL⟩:=u.any ho I.free λz=>(rp _ z).2.1 rfl
 exact I.step (ch:=ch) rp (λb o hL hb hc e n=>u.keep b o e n (λz=>(bq.mp (I.Nj b z)).elim hL hb) hc) (λb o _ _ hc e n=>u.any e n hc) (λb o hc e n=>u.free b o e n hc) (λb o hc e=>u.there b o e hc) u.tups u.frzs u.tbls (λm' hm=>by
  obtain⟨o',es',BQ,si,r'⟩:=hm
  rw[ho] at si;cases si
  exact⟨_,es',BQ,hL,r'⟩) hok hg
theorem Inv.turned {t':Nat} {it:Addr} (I:Inv X a7 σ H s) (k:∀ b o,b ≠ it->s.heap.get? b=some o->h'.get? b=some o) (hn:H it=none) (hL:it ≠ X.env.locals)
  (h1:it∈X.ex \/ X.s₀.heap.objs.size<=it) (h2:∀ x c,X.env.cells.lookup x=some c->c ≠ it) (h3:∀ p∈X.pn++a7,p.1 ≠ it):Inv X a7 σ H { s with heap:=h',toks:=t' }:=by
 have nit:∀ b u,H b=some u->b ≠ it:=λb u e z=>by rw[z,hn] at e;cases e
 refine I.step (g':=s.gens) (d':=s.drawn) (ch:=[it]) (λb hb=>?_) (λb o _ _ hc e _=>k b o (λz=>hc (by simp[z])) e) (λb o _ _ hc e _=>⟨o.slots,k b o (λz=>hc (by simp[z])) e⟩) (λ_ _ _ _ n=>n)
  (λb o hc e=>⟨o,k b o (λz=>hc (by simp[z])) e⟩) (λ_ _ e=>e) (λ_ _ _ e=>e) (λb ps e=>⟨#[],by rw[e];simp⟩) (λm hm=>?_) (λb u e=>?_) I.bare
 ·have e:b=it:=by simpa using hb
  subst e
  exact⟨h1,hL,h2,h3⟩
 ·obtain⟨o,es,ep,ho,r⟩:=hm
  exact⟨o,es,ep,k _ o (Ne.symm hL) ho,r⟩
 ·refine (I.hok b u e).stay (λc v hc q=>k c v ?_ q) (λ_ q=>q) λ_ _ q=>q
  rcases hc with z | z
  ·rw[z];exact nit b u e
  ·exact nit c _ z
theorem Inv.tok (I:Inv X a7 σ H s) (t:Nat):Inv X a7 σ H { s with toks:=t }:=I.un (h':=s.heap) (t':=t) Un.refl I.hok
theorem Inv.kept {t':Nat} (I:Inv X a7 σ H s) (k:∀ b u,s.heap.get? b=some u->h'.get? b=some u):Inv X a7 σ H { s with heap:=h',toks:=t' }:=I.un (Un.kept k) (I.hok.kept k)
theorem Inv.laid {a:Addr} {o:HO} {t':Nat} (I:Inv X a7 σ H s) (k:∀ b u,s.heap.get? b=some u->h'.get? b=some u) (hp:s.heap.objs.size<=a) (new:Bt X.prog X.w (upd H a o) h' a o) :
  Inv X a7 σ (upd H a o) { s with heap:=h',toks:=t' }:=I.un (Un.laid k hp (I.hok.fresh hp)) (I.hok.laid k hp new)
theorem Inv.write {x e:Addr} {o:HO} {t':Nat} (I:Inv X a7 σ H s) (mu:jA (H x)) (he:e=x \/ H e=some (.own x)) (k:∀ b u,b ≠ e->s.heap.get? b=some u->h'.get? b=some u) (xy:∃ u,h'.get? e=some u)
  (new:Bt X.prog X.w (upd H x o) h' x o):Inv X a7 σ (upd H x o) { s with heap:=h',toks:=t' }:=I.un (Un.write mu he k xy) (I.hok.write mu he k xy new)
theorem Inv.R0 {uO:List (Addr × Obj)} (I:Inv X a7 σ H s) (h:∀ p∈uO,s.heap.get? p.1=some p.2/\H p.1=none/\p.1 ≠ X.env.locals/\p.1 ∉ X.fs/\∀ v,p.2.data ≠ .cell v):Inv X uO σ H s :=
 ⟨I.ok,I.os,I.bare,I.base,I.loc,I.cell,I.free,I.freeC,λp hp=>(ba.mp hp).elim (λz=>I.pin p (cr _ z)) (h p),I.hok,I.len⟩
theorem LK {N:List Str} (hN:N.Nodup) {i j:Nat} {x:Str} (a:N[i]? = some x) (b:N[j]? = some x):i=j:=by
 obtain⟨h1,e1⟩:=ai.mp a
 obtain⟨h2,e2⟩:=ai.mp b
 exact (List.getElem_inj hN).mp (e1.trans e2.symm)
theorem Jh {M:Model} {A:Around} {E:vSP} {i:Nat} {x:Str} {v:V} {u:Value} {Q:Unit->Shared->Prop} (I:Inv X a7 σ H s) (hN:X.N.Nodup) (hi:X.N[i]? = some x) (hx:Loc X.env.scope x) (r:RelV v u)
  (h:∀ s',Inv X a7 (σ.set i (some v)) H s'->(∃ a,Heap.SameBut a s.heap s'.heap/\(a=X.env.locals \/ X.env.cells.lookup x=some a))->Q () s') (hf:X.fn x=true \/ X.env.scope.names.lookup x=some .local:=by first | exact .inl rfl | exact .inr rfl | assumption):wpAny M A (storeName X.env x u) Q E s:=by
 obtain⟨m,hn,hl⟩:=id I.loc
 have hcls:(X.env.scope.kind == .class || (X.env.scope.kind == .module && X.env.locals != X.env.globals))=false:=by rw[I.ok.kind];rfl
 have hiσ:i<σ.length:=by rw[I.len];exact (ai.mp hi).1
 have Yj:=I.Yj
 have tracked:∀ {a:Addr} {h':Heap},(∃ o,s.heap.get? a=some o/\H a=none)->Heap.SameBut a s.heap h'->Fd X.prog X.w H h':=λ{a h'} ha hs b ob e=>by
  obtain⟨_,_,hfree⟩:=ha
  refine (I.hok b ob e).stay (λc w' hc q=>(hs.2 c ?_).trans q) (λ_ q=>q) λ_ _ q=>q
  rintro rfl
  rcases hc with rfl | hc
  ·rw[hfree] at e;cases e
  ·rw[hfree] at hc;cases hc
 rcases hx with hk | hk
 ·refine wpAny_storeName_local hk hn (λh' wP hs=>?_) hcls
  obtain⟨oL,_,_,JI,_⟩:=id hn
  refine h _ ⟨I.ok,I.os,I.bare,⟨λb o e n hb hx=>?_,λb o e n hb hx=>?_,I.base.free,λb o e hx=>?_,I.base.tups,I.base.frzs,I.base.tbls⟩,⟨_,wP,λj y v' e1 e2 e3=>?_⟩,λy c e=>?_,I.free,I.freeC,λp hp=>?_,tracked ⟨oL,JI,I.free⟩ hs,by simpa using I.len⟩ ⟨_,hs,.inl rfl⟩
  ·exact (hs.2 b (ci (bt (Heap.lt_size e) I.ok.above))).trans (I.base.keep b o e n hb hx)
  ·obtain⟨sl,e1⟩:=I.base.slot b o e n hb hx
   exact⟨sl,(hs.2 b (ci (bt (Heap.lt_size e) I.ok.above))).trans e1⟩
  ·obtain⟨o',e1⟩:=I.base.there b o e hx
   exact⟨o',(hs.2 b (ci (bt (Heap.lt_size e) I.ok.above))).trans e1⟩
  ·by_cases hj:j=i
   ·subst hj
    rw[hi] at e1;cases e1
    rw[gX hiσ] at e2
    cases e2
    exact⟨u,r,.inl ⟨hk,by simp⟩⟩
   ·rw[ia (Ne.symm hj)] at e2
    obtain⟨u',r',q⟩:=hl j y v' e1 e2 e3
    refine⟨u',r',?_⟩
    rcases q with⟨k,e⟩ | ⟨k,c,e,z⟩
    ·refine .inl ⟨k,?_⟩
     have:y ≠ x:=λe=>hj (LK hN e1 (e ▸ hi))
     simp[this,e]
    ·exact .inr ⟨k,c,e,z.sameBut hs (Yj y c e)⟩
  ·obtain⟨w',z⟩:=I.cell y c e
   exact⟨w',z.sameBut hs (Yj y c e)⟩
  ·obtain⟨e,n,ne,nf,d⟩:=I.pin p hp
   exact⟨(hs.2 p.1 ne).trans e,n,ne,nf,d⟩
 ·have Cb:X.fn x=true:=by
   rcases hf with z | z
   ·exact z
   ·rw[z] at hk;cases hk
  obtain⟨c,hc⟩:=I.ok.has x (.inl hk)
  obtain⟨w',z⟩:=I.cell x c hc
  refine wpAny_storeName_cell I.ok.kind hk hc z (λh' hc' hs=>?_)
  obtain⟨oc,IL,Fu⟩:=id z
  refine h { s with heap:=h' } ⟨I.ok,I.os,I.bare,⟨λb o e n hb hx=>?_,λb o e n hb hx=>?_,I.base.free,λb o e hx=>?_,I.base.tups,I.base.frzs,I.base.tbls⟩,⟨m,hn.sameBut hs (Ne.symm (Yj x c hc)),λj y v' e1 e2 e3=>?_⟩,λy c' e=>?_,I.free,I.freeC,λp hp=>?_,tracked ⟨oc,IL,I.freeC x c hc⟩ hs,by simpa using I.len⟩ ⟨c,hs,.inr hc⟩
  ·exact (hs.2 b (ci (bt (Heap.lt_size e) (I.ok.cab x c Cb hc)))).trans (I.base.keep b o e n hb hx)
  ·obtain⟨sl,e1⟩:=I.base.slot b o e n hb hx
   exact⟨sl,(hs.2 b (ci (bt (Heap.lt_size e) (I.ok.cab x c Cb hc)))).trans e1⟩
  ·obtain⟨o',e1⟩:=I.base.there b o e hx
   exact⟨o',(hs.2 b (ci (bt (Heap.lt_size e) (I.ok.cab x c Cb hc)))).trans e1⟩
  ·by_cases hj:j=i
   ·subst hj
    rw[hi] at e1;cases e1
    rw[gX hiσ] at e2
    cases e2
    exact⟨u,r,.inr ⟨.inl hk,c,hc,hc'⟩⟩
   ·rw[ia (Ne.symm hj)] at e2
    obtain⟨u',r',q⟩:=hl j y v' e1 e2 e3
    refine⟨u',r',?_⟩
    rcases q with q | ⟨k,c',e,z'⟩
    ·exact .inl q
    ·refine .inr ⟨k,c',e,z'.sameBut hs ?_⟩
     rintro rfl
     exact hj (LK hN e1 (I.ok.inj _ _ _ e hc ▸ hi))
  ·by_cases hcc:c'=c
   ·subst hcc;exact⟨_,hc'⟩
   ·obtain⟨w2,z2⟩:=I.cell y c' e
    exact⟨w2,z2.sameBut hs hcc⟩
  ·obtain⟨e,n,ne,nf,d⟩:=I.pin p hp
   refine⟨(hs.2 p.1 ?_).trans e,n,ne,nf,d⟩
   intro q
   rw[q,IL] at e
   have q':oc=p.2:=Option.some.inj e
   exact d w' (by rw[<-q'];exact Fu)
theorem La {M:Model} {A:Around} {E:vSP} {i:Nat} {x:Str} {v:V} {u:Value} {Q:Unit->Shared->Prop} (I:Inv X a7 σ H s) (hN:X.N.Nodup) (hi:X.N[i]? = some x) (hx:Loc X.env.scope x) (r:RelV v u)
  (h:∀ s',Inv X a7 (σ.set i (some v)) H s'->Q () s') (hf:X.fn x=true \/ X.env.scope.names.lookup x=some .local:=by first | exact .inl rfl | exact .inr rfl | assumption):wpAny M A (storeName X.env x u) Q E s :=
 Jh I hN hi hx r (λs' I' _=>h s' I') hf
theorem Inv.call' {s':Shared} {ch:List Addr} (I:Inv X a7 σ H s) (ho:s'.os=s.os) (u:Un (frs X.stack) ch H H' s.heap s'.heap) (hok:Fd X.prog X.w H' s'.heap) (hg:AllBare s'.gens)
  (rp:∀ b∈ch,(b∈X.ex \/ X.s₀.heap.objs.size<=b)/\b ≠ X.env.locals/\(∀ x c,X.env.cells.lookup x=some c->c ≠ b)/\∀ p∈X.pn++a7,p.1 ≠ b):Inv X a7 σ H' s':=by
 obtain⟨h',g',d',t',o'⟩:=s'
 have e:o'=s.os:=ho
 subst e
 exact I.call (g':=g') (t':=t') (d':=d') u hok hg rp
end
noncomputable abbrev XK:=Value->Option Addr->Hp->Prop
noncomputable abbrev St:=List (Option V)
noncomputable abbrev VK:=V->Hp->Prop
noncomputable abbrev TE:=St->Hp->VK->Prop
noncomputable abbrev TT:=St->Hp->(Bool->Hp->Prop)->Prop
noncomputable abbrev TA:=St->Hp->(List V->Hp->Prop)->Prop
structure Ends where
 nx:St->Hp->Prop
 rt:VK
 bk:St->Hp->Prop:=λ_ _=>False
 ct:St->Hp->Prop:=λ_ _=>False
noncomputable abbrev TS:=Ends->St->Hp->Prop
noncomputable def EP (X:Cx) (a7:List (Addr × Obj)) (σ:St) (Q:VK) (u:Value) (s':Shared):Prop:=∃ v H',Inv X a7 σ H' s'/\RelV v u/\Q v H'
noncomputable def TP (X:Cx) (a7:List (Addr × Obj)) (σ:St) (Q:Bool->Hp->Prop) (b:Bool) (s':Shared):Prop:=∃ H',Inv X a7 σ H' s'/\Q b H'
noncomputable def AP (X:Cx) (a7:List (Addr × Obj)) (σ:St) (Q:List V->Hp->Prop) (us:List Value) (s':Shared):Prop:=∃ vs H',Inv X a7 σ H' s'/\Vals vs us/\Q vs H'
noncomputable def SP (X:Cx) (a7:List (Addr × Obj)) (D:Ends) (f:Flow) (s':Shared):Prop :=
 match f with
 | .next=>∃ σ' H',Inv X a7 σ' H' s'/\D.nx σ' H'
 | .brk=>∃ σ' H',Inv X a7 σ' H' s'/\D.bk σ' H'
 | .cont=>∃ σ' H',Inv X a7 σ' H' s'/\D.ct σ' H'
 | .ret u=>∃ v σ' H',Inv X a7 σ' H' s'/\RelV v u/\D.rt v H'
noncomputable def PE (X:Cx) (e:Expr) (t:TE):Prop :=
 ∀ (a7:List (Addr × Obj)) (s:Shared) (σ:St) (H:Hp) (Q:VK),Inv X a7 σ H s->t σ H Q->wpAny (model X.prog X.w) X.A (eval e X.env) (EP X a7 σ Q) X.xe s
noncomputable def PT (X:Cx) (e:Expr) (t:TT):Prop :=
 ∀ (a7:List (Addr × Obj)) (s:Shared) (σ:St) (H:Hp) (Q:Bool->Hp->Prop),Inv X a7 σ H s->t σ H Q->wpAny (model X.prog X.w) X.A (isTrue e X.env (eval e X.env)) (TP X a7 σ Q) X.xe s
noncomputable def PW (X:Cx) (e:Expr) (t:TT):Prop :=
 ∀ (mh:Sem Value) (a7:List (Addr × Obj)) (s:Shared) (σ:St) (H:Hp) (Q:Bool->Hp->Prop),Inv X a7 σ H s->t σ H Q->wpAny (model X.prog X.w) X.A (isTrue e X.env mh) (TP X a7 σ Q) X.xe s
theorem PW.pt {X:Cx} {e:Expr} {t:TT} (h:PW X e t):PT X e t:=h _
noncomputable def PA (X:Cx) (es:List Expr) (t:TA):Prop :=
 ∀ (pos:Pos) (a7:List (Addr × Obj)) (s:Shared) (σ:St) (H:Hp) (Q:List V->Hp->Prop),Inv X a7 σ H s->t σ H Q->wpAny (model X.prog X.w) X.A (spliced (backTo pos (starEach es X.env))) (AP X a7 σ Q) X.xe s
noncomputable def PS (X:Cx) (st:Stmt) (t:TS):Prop :=
 ∀ (a7:List (Addr × Obj)) (s:Shared) (σ:St) (H:Hp) (D:Ends),Inv X a7 σ H s->t D σ H->wpAny (model X.prog X.w) X.A (exec st X.env) (SP X a7 D) X.xe s
noncomputable def Oa (X:Cx) (st:List Stmt) (t:TS):Prop :=
 ∀ (a7:List (Addr × Obj)) (s:Shared) (σ:St) (H:Hp) (D:Ends),Inv X a7 σ H s->t D σ H->wpAny (model X.prog X.w) X.A (execs st X.env) (SP X a7 D) X.xe s
theorem CW {α:Type} {t:Sem α} {Q Q':α->Shared->Prop} {M:Model} {A:Around} {E:vSP} {s:Shared} (h:wpAny M A t Q E s) (hQ:∀ a s,Q a s->Q' a s):wpAny M A t Q' E s:=wpAny_mono h hQ λ_ _ x=>x
section
variable {X:Cx}
noncomputable def fQ (i:Nat):TE:=λσ H Q=>∃ v,σ[i]? = some (some v)/\Q v H
noncomputable def tC (v:V):TE:=λ_ H Q=>Q v H
theorem bc {i:Nat} {x:Str} {pos:Pos} (hN:X.N[i]? = some x) (hv:pY X.env.scope x) (hd:(x == ("__debug__" : Str))=false:=by decide) (lI:(x == ("__classdict__" : Str))=false:=by decide):PE X (.Name x pos) (fQ i):=by
 intro a7 s σ H Q I h
 obtain⟨v,e,h⟩:=h
 obtain⟨m,hn,hl⟩:=I.loc
 obtain⟨u,r,l⟩:=hl i x v hN e hv
 have fin:EP X a7 σ Q u s:=⟨v,H,I,r,h⟩
 rcases l with⟨hk,hm⟩ | ⟨hk,c,hc,hcell⟩
 ·exact wpAny_Name (wpAny_loadName_local I.ok.kind hk hn hm fin) hd
 ·rcases hk with hk | hk
  ·exact wpAny_Name (wpAny_loadName_cell I.ok.kind hk hc hcell fin) hd
  ·exact wpAny_Name (wpAny_loadName_free I.ok.kind hk hc hcell fin lI) hd
theorem Ac {i j pos}:PE X (.Constant (.int i) j pos) (tC (.int i)):=λ_ _ _ H _ I h=>wpAny_Constant_int ⟨.int i,H,I.tok _,⟨_,rfl⟩,h⟩
theorem Et {b j pos}:PE X (.Constant (.bool b) j pos) (tC (.bl b)):=λ_ _ _ H _ I h=>Constant_bool ⟨.bl b,H,I,rfl,h⟩
theorem FQ {j pos}:PE X (.Constant .none j pos) (tC .non):=λ_ _ _ H _ I h=>Constant_none ⟨.non,H,I,rfl,h⟩
theorem An {x j pos}:PE X (.Constant (.str x) j pos) (tC (.str x)):=λ_ _ _ H _ I h=>Calls.Constant_str ⟨.str x,H,I.tok _,⟨_,rfl⟩,h⟩
noncomputable def Gl (X:Cx) (x:Str):Prop:=X.env.kindOf x=some .globalImplicit
theorem G4 {E:vSP} {a7:List (Addr × Obj)} {s:Shared} {σ:St} {H:Hp} {x:Str} {u:Value} {pos:Pos} {Q:vSP} (I:Inv X a7 σ H s) (hg:Gl X x) (hm:X.mg x=some u) (h:Q u s)
  (hd:(x == ("__debug__" : Str))=false:=by decide):wpAny (model X.prog X.w) X.A (eval (.Name x pos) X.env) Q E s :=
 Calls.Name_function_global I.ok.kind hg (Calls.loadGlobal_global (by rw[I.ok.glob];exact I.mod.glob.keeps I.bk) hm h) hd
theorem Im {E:vSP} {a7:List (Addr × Obj)} {s:Shared} {σ:St} {H:Hp} {x:Str} {u:Value} {pos:Pos} {Q:vSP} (I:Inv X a7 σ H s) (hg:Gl X x) (hm:X.mg x=none) (hv:bootBuiltins x=some u) (h:Q u s)
  (hn:x ≠ "__name__":=by decide) (hd:(x == ("__debug__" : Str))=false:=by decide):wpAny (model X.prog X.w) X.A (eval (.Name x pos) X.env) Q E s:=by
 obtain⟨mb,h1,h2⟩:=I.mod.blt
 exact Calls.Name_function_global I.ok.kind hg (Calls.loadGlobal_builtin (by rw[I.ok.glob];exact I.mod.glob.keeps I.bk) hm (by rw[I.ok.blt];exact h1.keeps I.bk) ((h2 x hn).trans hv) h) hd
theorem Bc {x:Str} {v:V} {u:Value} {pos:Pos} (hg:Gl X x) (hm:X.mg x=some u) (r:RelV v u) (hd:(x == ("__debug__" : Str))=false:=by decide):PE X (.Name x pos) (tC v) :=
 λ_ _ _ H _ I h=>G4 I hg hm ⟨v,H,I,r,h⟩ hd
theorem Ci {x:Str} {v:V} {u:Value} {pos:Pos} (hg:Gl X x) (hm:X.mg x=none) (hv:bootBuiltins x=some u) (r:RelV v u) (hn:x ≠ "__name__":=by decide) (hd:(x == ("__debug__" : Str))=false:=by decide):PE X (.Name x pos) (tC v) :=
 λ_ _ _ H _ I h=>Im I hg hm hv ⟨v,H,I,r,h⟩ hn hd
variable {a b:Expr} {ta tb:TE} {pos:Pos}
noncomputable def PC (X:Cx) (op:CmpOp) (a b:Expr) (t:TE):Prop :=
 ∀ (a7:List (Addr × Obj)) (s:Shared) (σ:St) (H:Hp) (Q:VK),Inv X a7 σ H s->t σ H Q ->
  wpAny (model X.prog X.w) X.A (eval a X.env) (λv s₁=>wpAny (model X.prog X.w) X.A (eval b X.env) (λu s₂=>wpAny (model X.prog X.w) X.A (compareOp op v u) (EP X a7 σ Q) X.xe s₂) X.xe s₁) X.xe s
noncomputable def tB (t:TE):TT:=λσ H Q=>t σ H λx H1=>∃ c,x=.bl c/\Q c H1
theorem M5 {op:CmpOp} {t:TE} (h:PC X op a b t) (h1:behindInMarks op b=false:=by first | exact nobehind _ (by decide) (by decide) | rfl):PE X (.Compare a [op] [b] pos) t:=λa7 s σ H Q I hw=>wpAny_Compare1 (h a7 s σ H Q I hw) h1
theorem V8 {op:CmpOp} {t:TE} (h:PC X op a b t) (h1:behindInMarks op b=false:=by first | exact nobehind _ (by decide) (by decide) | rfl):PT X (.Compare a [op] [b] pos) (tB t):=by
 intro a7 s σ H Q I hw
 refine wpAny_isTrue_Compare1 (CW (h a7 s σ H _ I hw) λv s1 h1=>CW h1 λu s2 h2=>CW h2 λc s3 ⟨x,H1,I1,r1,q1⟩=>?_) h1
 obtain⟨d,rfl,q⟩:=q1
 cases r1
 exact wpAny_truthy_bool ⟨H1,I1,q⟩
theorem C_ {e:Expr} {t:TE} (h:PE X e t) (he:∀ mh,isTrue e X.env mh=(do let v <-mh;standAt e.pos;holding [v] (truthy v)):=by intro _;rfl):PT X e (tB t):=by
 intro a7 s σ H Q I hw
 refine isTrue_plain (CW (h a7 s σ H _ I hw) λv s1 ⟨x,H1,I1,r1,q1⟩=>?_) (he _)
 obtain⟨d,rfl,q⟩:=q1
 cases r1
 exact wpAny_truthy_bool ⟨H1,I1,q⟩
variable {tA AJ:TT} {rest:List Expr}
noncomputable def m9 (t u:TT):TT:=λσ H Q=>t σ H λc H1=>if c=true then u σ H1 Q else Q false H1
noncomputable def q_ (t u:TT):TT:=λσ H Q=>t σ H λc H1=>if c=true then Q true H1 else u σ H1 Q
noncomputable def nC (t:TT):TT:=λσ H Q=>t σ H λc H1=>Q (!c) H1
theorem Gx (ha:PT X a tA):PW X (.BoolOp .And [a] pos) tA:=by
 intro wh a7 s σ H Q I h
 refine isTrue_and (CW (ha a7 s σ H Q I h) λc s1 e=>?_)
 cases c with
 | true=>exact isTrue_and_nil e
 | false=>exact e
theorem FW (ha:PT X a tA):PW X (.BoolOp .Or [a] pos) tA:=by
 intro wh a7 s σ H Q I h
 refine isTrue_or (CW (ha a7 s σ H Q I h) λc s1 e=>?_)
 cases c with
 | false=>exact isTrue_or_nil e
 | true=>exact e
theorem Gw (ha:PT X a tA) (hb:PW X (.BoolOp .And (b::rest) pos) AJ):PW X (.BoolOp .And (a::b::rest) pos) (m9 tA AJ):=by
 intro wh a7 s σ H Q I h
 refine isTrue_and (CW (ha a7 s σ H _ I h) λc s1 f7=>?_)
 obtain⟨H1,I1,q1⟩:=f7
 cases c with
 | true=>exact hb wh a7 s1 σ H1 Q I1 q1
 | false=>exact⟨H1,I1,q1⟩
theorem GQ (ha:PT X a tA) (hb:PW X (.BoolOp .Or (b::rest) pos) AJ):PW X (.BoolOp .Or (a::b::rest) pos) (q_ tA AJ):=by
 intro wh a7 s σ H Q I h
 refine isTrue_or (CW (ha a7 s σ H _ I h) λc s1 f7=>?_)
 obtain⟨H1,I1,q1⟩:=f7
 cases c with
 | true=>exact⟨H1,I1,q1⟩
 | false=>exact hb wh a7 s1 σ H1 Q I1 q1
theorem Cp (ha:PT X a tA):PT X (.UnaryOp .Not a pos) (nC tA):=by
 intro a7 s σ H Q I h
 exact isTrue_not (ha a7 s σ H (λc H1=>Q (!c) H1) I h)
noncomputable def iV (ta tb:TE):TE:=λσ H Q=>ta σ H λx H1=>∃ c,x=.bl c/\if c=true then tb σ H1 Q else Q (.bl false) H1
noncomputable def mD (ta tb:TE):TE:=λσ H Q=>ta σ H λx H1=>∃ c,x=.bl c/\if c=true then Q (.bl true) H1 else tb σ H1 Q
noncomputable def ju (ta:TE):TE:=λσ H Q=>ta σ H λx H1=>∃ c,x=.bl c/\Q (.bl (!c)) H1
theorem By {op} {t:TE} (h:PE X a t):PE X (.BoolOp op [a] pos) t:=λa7 s σ H Q I hw=>BoolOp_one (h a7 s σ H Q I hw)
theorem CQ (ha:PE X a ta) (hb:PE X (.BoolOp .And (b::rest) pos) tb):PE X (.BoolOp .And (a::b::rest) pos) (iV ta tb):=by
 intro a7 s σ H Q I h
 refine BoolOp_and (CW (ha a7 s σ H _ I h) λv s1 f7=>?_)
 obtain⟨x,H1,I1,r1,q1⟩:=f7
 obtain⟨c,rfl,q1⟩:=q1
 cases r1
 refine wpAny_truthy_bool ?_
 cases c with
 | true=>exact hb a7 s1 σ H1 Q I1 q1
 | false=>exact⟨.bl false,H1,I1,rfl,q1⟩
theorem Y4 (ha:PE X a ta) (hb:PE X (.BoolOp .Or (b::rest) pos) tb):PE X (.BoolOp .Or (a::b::rest) pos) (mD ta tb):=by
 intro a7 s σ H Q I h
 refine BoolOp_or (CW (ha a7 s σ H _ I h) λv s1 f7=>?_)
 obtain⟨x,H1,I1,r1,q1⟩:=f7
 obtain⟨c,rfl,q1⟩:=q1
 cases r1
 refine wpAny_truthy_bool ?_
 cases c with
 | false=>exact hb a7 s1 σ H1 Q I1 q1
 | true=>exact⟨.bl true,H1,I1,rfl,q1⟩
theorem Jx (ha:PE X a ta):PE X (.UnaryOp .Not a pos) (ju ta):=by
 intro a7 s σ H Q I h
 refine UnaryOp_ (CW (ha a7 s σ H _ I h) λv s1 f7=>?_)
 obtain⟨x,H1,I1,r1,q1⟩:=f7
 obtain⟨c,rfl,q1⟩:=q1
 cases r1
 exact not_of (wpAny_truthy_bool ⟨.bl (!c),H1,I1,rfl,q1⟩)
noncomputable def uA (t:TT) (ta tb:TE):TE:=λσ H Q=>t σ H λc H1=>if c=true then ta σ H1 Q else tb σ H1 Q
theorem Od {c:Expr} (hc:PT X c tA) (ha:PE X a ta) (hb:PE X b tb):PE X (.IfExp c a b pos) (uA tA ta tb):=by
 intro a7 s σ H Q I h
 refine wpAny_IfExp (CW (hc a7 s σ H _ I h) λd s1 f7=>?_)
 obtain⟨H1,I1,q1⟩:=f7
 cases d with
 | true=>exact ha a7 s1 σ H1 Q I1 q1
 | false=>exact hb a7 s1 σ H1 Q I1 q1
end
noncomputable def Dg (K:W.Frag) (H:Hp) (a:Addr) (xs:List V):Prop :=
 Rd H a (.lst xs) \/
  ∃ (o:Obj) (its:Array Value) (n:Nat),K.lookup a=some o/\o.cls=.type "list" /\ o.dict=none/\o.data=.seq its n/\its.size<=sizeLine/\Vals xs its.toList
noncomputable def Ga (K:W.Frag) (H:Hp) (a:Addr) (xs:List V):Prop :=
 Rd H a (.tup xs) \/
  ∃ (o:Obj) (its:Array Value) (n:Nat),K.lookup a=some o/\o.cls=.type "tuple" /\ o.data=.seq its n/\its.size<=sizeLine/\Vals xs its.toList
noncomputable def oV:Value->Option V
 | .none=>some .non
 | .bool b=>some (.bl b)
 | .int i _=>some (.int i)
 | .str x _=>some (.str x)
 | .bytes b _=>some (.byt b)
 | .float b _=>some (.flt b)
 | .ref a=>some (.ref a)
 | .type n=>some (.ty n)
 | _=>none
theorem RelV.abs {x:V} {u:Value} (r:RelV x u):oV u=some x:=by
 cases x with
 | non=>cases r;rfl
 | bl _=>cases r;rfl
 | int _=>obtain⟨t,rfl⟩:=r;rfl
 | str _=>obtain⟨t,rfl⟩:=r;rfl
 | byt _=>obtain⟨t,rfl⟩:=r;rfl
 | flt _=>obtain⟨t,rfl⟩:=r;rfl
 | ref _=>cases r;rfl
 | ty _=>cases r;rfl
theorem RelV.inj {x y:V} {u:Value} (r:RelV x u) (q:RelV y u):x=y:=Option.some.inj (r.abs.symm.trans q.abs)
theorem Vals.inj:∀ {xs ys:List V} {us:List Value},Vals xs us->Vals ys us->xs=ys
 | _,_,_,.nil,.nil=>rfl
 | _,_,_,.cons r t,.cons r' t'=>by rw[r.inj r',Vals.inj t t']
section
variable {X:Cx} {a7:List (Addr × Obj)} {σ:St} {H:Hp} {s:Shared} {a:Addr} {xs ys:List V}
theorem Inv.list (I:Inv X a7 σ H s) (h:Dg X.K H a xs):∃ its:List Value,Vals xs its/\PlainL s.heap a its.toArray/\xs.length<=sizeLine:=by
 rcases h with h | ⟨o,its,n,hk,hc,hd,hs,hz,r⟩
 ·obtain⟨z,its,n,r,e⟩:=h.ok I.hok
  exact⟨its,r,⟨_,n,e,rfl,rfl,rfl⟩,z⟩
 ·refine⟨its.toList,r,⟨o,n,I.Gv a o hk,hc,hd,by simpa using hs⟩,?_⟩
  have e:=r.length
  simp only[Array.length_toList] at e
  omega
theorem Inv.tuple (I:Inv X a7 σ H s) (h:Ga X.K H a xs):∃ its:List Value,Vals xs its/\IsTup s.heap a its.toArray/\xs.length<=sizeLine:=by
 rcases h with h | ⟨o,its,n,hk,hc,hs,hz,r⟩
 ·obtain⟨z,its,r,p⟩:=h.ok I.hok
  exact⟨its,r,p,z⟩
 ·refine⟨its.toList,r,⟨o,I.Gv a o hk,hc,n,by simpa using hs⟩,?_⟩
  have e:=r.length
  simp only[Array.length_toList] at e
  omega
theorem Inv.QC (I:Inv X a7 σ H s) (h:Dg X.K H a xs) (h':Dg X.K H a ys):xs=ys:=by
 obtain⟨its,r,⟨o,n,e,_,_,d⟩,_⟩:=I.list h
 obtain⟨its',r',⟨o',n',e',_,_,d'⟩,_⟩:=I.list h'
 rw[e] at e';cases e'
 rw[d] at d'
 injection d' with d1 _
 have:its=its':=by simpa using congrArg Array.toList d1
 subst this
 exact r.inj r'
theorem Inv.Jt (I:Inv X a7 σ H s) (h:Ga X.K H a xs) (h':Ga X.K H a ys):xs=ys:=by
 obtain⟨its,r,⟨o,e,_,n,d⟩,_⟩:=I.tuple h
 obtain⟨its',r',⟨o',e',_,n',d'⟩,_⟩:=I.tuple h'
 rw[e] at e';cases e'
 rw[d] at d'
 injection d' with d1 _
 have:its=its':=by simpa using congrArg Array.toList d1
 subst this
 exact r.inj r'
end
noncomputable abbrev Cx.wish (X:Cx) (E:vSP):Cx:={ X with xe:=E }
noncomputable abbrev Cx.dO (X:Cx):Cx:=X.wish λ_ _=>False
theorem Cx.Ok.wish {X:Cx} (ok:X.Ok) (E:vSP):(X.wish E).Ok :=
 ⟨ok.mod,ok.kind,ok.glob,ok.blt,ok.above,ok.inj,ok.has,ok.cab,ok.hd,ok.frames,ok.stk,ok.exf,ok.bs,ok.bsz,ok.noex,ok.exfs,ok.I_,ok.frf⟩
theorem Cx.Ok.HR {X:Cx} {E:vSP} (ok:(X.wish E).Ok):X.Ok :=
 ⟨ok.mod,ok.kind,ok.glob,ok.blt,ok.above,ok.inj,ok.has,ok.cab,ok.hd,ok.frames,ok.stk,ok.exf,ok.bs,ok.bsz,ok.noex,ok.exfs,ok.I_,ok.frf⟩
section
variable {X:Cx} {a7:List (Addr × Obj)} {σ:St} {H:Hp} {s:Shared} {E:vSP}
theorem Inv.wish (I:Inv X a7 σ H s) (E:vSP):Inv (X.wish E) a7 σ H s:=⟨I.ok.wish E,I.os,I.bare,I.base,I.loc,I.cell,I.free,I.freeC,I.pin,I.hok,I.len⟩
theorem Inv.HR (I:Inv (X.wish E) a7 σ H s):Inv X a7 σ H s:=⟨I.ok.HR,I.os,I.bare,I.base,I.loc,I.cell,I.free,I.freeC,I.pin,I.hok,I.len⟩
theorem SP.HR {D:Ends} {f:Flow} {s':Shared} (h:SP (X.wish E) a7 D f s'):SP X a7 D f s':=by
 cases f with
 | next=>obtain⟨σ',H',I,q⟩:=h;exact⟨σ',H',I.HR,q⟩
 | brk=>obtain⟨σ',H',I,q⟩:=h;exact⟨σ',H',I.HR,q⟩
 | cont=>obtain⟨σ',H',I,q⟩:=h;exact⟨σ',H',I.HR,q⟩
 | ret u=>obtain⟨v,σ',H',I,r,q⟩:=h;exact⟨v,σ',H',I.HR,r,q⟩
theorem Oa.dO {st:List Stmt} {t:TS} (h:Oa X.dO st t):Oa X st t:=λa7 s σ H D I hw =>
 wpAny_mono (h a7 s σ H D (I.wish _) hw) (λ_ _ q=>q.HR) λ_ _ z=>False.elim z
end
section
variable {X:Cx} {st:Stmt} {rest:List Stmt} {t u:TS} {e:Expr} {te:TE} {pos:Pos}
noncomputable def Y8:TS:=λD σ H=>D.nx σ H
noncomputable def aO (t u:TS):TS:=λD σ H=>t { D with nx:=u D } σ H
theorem BV:Oa X [] Y8:=λ_ _ σ H _ I h=>wpAny_execs_nil ⟨σ,H,I,h⟩
theorem Ae (h1:PS X st t) (h2:Oa X rest u):Oa X (st::rest) (aO t u):=by
 intro a7 s σ H D I h
 refine wpAny_execs_cons (CW (h1 a7 s σ H { D with nx:=u D } I h) λf s1 q=>?_)
 cases f with
 | next =>
  obtain⟨σ',H',I',q⟩:=q
  exact h2 a7 s1 σ' H' D I' q
 | ret v=>exact q
 | brk=>exact q
 | cont=>exact q
theorem Ag (h1:PS X st t):Oa X [st] t:=by
 intro a7 s σ H D I h
 refine wpAny_execs_cons (CW (h1 a7 s σ H D I h) λf s1 q=>?_)
 cases f with
 | next=>exact wpAny_execs_nil q
 | ret v=>exact q
 | brk=>exact q
 | cont=>exact q
noncomputable def cF:TS:=λD σ H=>D.bk σ H
theorem WM:PS X (.Break pos) cF:=λ_ _ σ H _ I h=>wpAny_Break ⟨σ,H,I,h⟩
theorem Inv.quiet {a7:List (Addr × Obj)} {σ:St} {H:Hp} {s:Shared} (I:Inv X a7 σ H s):interactive X.env=false:=by simp[interactive,I.ok.kind]
noncomputable def Yx (te:TE):TS:=λD σ H=>te σ H λ_ H1=>D.nx σ H1
theorem Cv (he:PE X e te) (hs:swapsWith e none pos.line X.env=pure false:=by rfl):PS X (.Expr e pos) (Yx te):=by
 intro a7 s σ H D I h
 exact wpAny_Expr_any (CW (he a7 s σ H _ I h) λv s1 ⟨x,H1,I1,r1,q1⟩=>⟨σ,H1,I1,q1⟩) I.quiet hs
noncomputable def qi (te:TE):TS:=λD σ H=>te σ H D.rt
theorem Ar (he:PE X e te):PS X (.Return (some e) pos) (qi te):=by
 intro a7 s σ H D I h
 exact wpAny_Return_some (CW (he a7 s σ H _ I h) λv s1 ⟨x,H1,I1,r1,q1⟩=>⟨x,σ,H1,I1,r1,q1⟩)
noncomputable def Xe (c:TT) (t u:TS):TS:=λD σ H=>c σ H λb H1=>if b=true then t D σ H1 else u D σ H1
theorem Bj {c:Expr} {a b:List Stmt} {tc:TT} (hc:PT X c tc) (ha:Oa X a t) (hb:Oa X b u):PS X (.If c a b pos) (Xe tc t u):=by
 intro a7 s σ H D I h
 refine wpAny_If (CW (hc a7 s σ H _ I h) λd s1 f7=>?_)
 obtain⟨H1,I1,q1⟩:=f7
 cases d with
 | true=>exact ha a7 s1 σ H1 D I1 q1
 | false=>exact hb a7 s1 σ H1 D I1 q1
noncomputable def bU:TS:=λ_ _ _=>False
theorem Gh:PS X st bU:=λ_ _ _ _ _ _ h=>h.elim
end
noncomputable abbrev TG:=V->St->Hp->(St->Hp->Prop)->Prop
noncomputable abbrev cR:=List V->St->Hp->(St->Hp->Prop)->Prop
noncomputable def PG (X:Cx) (wH:Expr) (t:TG):Prop :=
 ∀ (a7:List (Addr × Obj)) (s:Shared) (σ:St) (H:Hp) (v:V) (u:Value) (Q:St->Hp->Prop),Inv X a7 σ H s->RelV v u->t v σ H Q ->
  wpAny (model X.prog X.w) X.A (assign wH X.env u) (λ_ s'=>∃ σ' H',Inv X a7 σ' H' s'/\Q σ' H') X.xe s
noncomputable def lO (X:Cx) (ts:List Expr) (t:cR):Prop :=
 ∀ (a7:List (Addr × Obj)) (s:Shared) (σ:St) (H:Hp) (vs:List V) (us:List Value) (Q:St->Hp->Prop),Inv X a7 σ H s->Vals vs us->t vs σ H Q ->
  wpAny (model X.prog X.w) X.A (assignInOrder ((assignEach ts X.env).map (·.2)) us) (λ_ s'=>∃ σ' H',Inv X a7 σ' H' s'/\Q σ' H') X.xe s
section
variable {X:Cx} {pos:Pos}
noncomputable def Dw (i:Nat):TG:=λv σ H Q=>Q (σ.set i (some v)) H
theorem Cr {i:Nat} {x:Str} (hN:X.N.Nodup) (hi:X.N[i]? = some x) (hx:Loc X.env.scope x) (hf:X.fn x=true \/ X.env.scope.names.lookup x=some .local:=by first | exact .inl rfl | exact .inr rfl | assumption):PG X (.Name x pos) (Dw i):=by
 intro a7 s σ H v u Q I r h
 exact wpAny_assign_Name (La I hN hi hx r (λs' I'=>⟨_,H,I',h⟩) hf)
noncomputable def X5:cR:=λvs σ H Q=>vs=[]/\Q σ H
noncomputable def Kp (t:TG) (u:cR):cR:=λvs σ H Q=>∃ v r,vs=v::r/\t v σ H λσ' H'=>u r σ' H' Q
theorem JS:lO X [] X5:=by
 intro a7 s σ H vs us Q I r h
 obtain⟨e,h⟩:=h
 subst e
 cases r
 exact assignInOrder_nil ⟨σ,H,I,h⟩
theorem Dy {e:Expr} {es:List Expr} {t:TG} {u:cR} (h1:PG X e t) (h2:lO X es u)
  (hs:(assignEach (e::es) X.env).map (·.2)=assign e X.env::(assignEach es X.env).map (·.2):=by rfl):lO X (e::es) (Kp t u):=by
 intro a7 s σ H vs us Q I r h
 obtain⟨v,vr,e1,h⟩:=h
 subst e1
 cases r with
 | cons r rr =>
  rw[hs]
  refine assignInOrder_cons (CW (h1 a7 s σ H _ _ _ I r h) λ_ s1 f7=>?_)
  obtain⟨σ1,H1,I1,q1⟩:=f7
  exact h2 a7 s1 σ1 H1 _ _ Q I1 rr q1
noncomputable def YW (K:W.Frag) (n:Nat) (t:cR):TG:=λv σ H Q=>∃ a xs,v=.ref a/\Ga K H a xs/\xs.length=n/\t xs σ H Q
theorem Kz {es:List Expr} {k:Nat} {t:cR} {n:Nat} (hc:X.calm=true) (h:lO X es t)
  (hn:(assignEach es X.env).length=n:=by rfl) (hst:(assignEach es X.env).findIdx? (·.1)=none:=by rfl):PG X (.Tuple es k pos) (YW X.K n t):=by
 intro a7 s σ H v u Q I r hw
 obtain⟨a,xs,e1,hq,hl,hw⟩:=hw
 subst e1
 cases r
 obtain⟨its,rv,ht,hz⟩:=I.tuple hq
 refine assign_Tuple_tuple (I.ok.hd hc) ht (by simp[hn,<-hl,rv.length]) hst λh' hx=>?_
 have I1:Inv X a7 σ H { s with heap:=h' }:=I.kept (t':=s.toks) λb o e=>hx b o (ci (Heap.lt_size e)) e
 exact h a7 _ σ H xs _ Q I1 (by simpa using rv) hw
noncomputable def cM (te:TE) (g:TG):TS:=λD σ H=>te σ H λx H1=>g x σ H1 D.nx
theorem Bf {i:Nat} {x:Str} {e:Expr} {te:TE} {i3:Pos} (hN:X.N.Nodup) (hi:X.N[i]? = some x) (hx:Loc X.env.scope x) (he:PE X e te) (hs:swapsWith e (some (.Name x i3)) pos.line X.env=pure false:=by rfl) (hf:X.fn x=true \/ X.env.scope.names.lookup x=some .local:=by first | exact .inl rfl | exact .inr rfl | assumption) :
  PS X (.Assign [.Name x i3] e pos) (cM te (Dw i)):=by
 intro a7 s σ H D I h
 refine wpAny_Assign_Name (CW (he a7 s σ H _ I h) λv s1 ⟨y,H1,I1,r1,q1⟩=>?_) hs
 exact La I1 hN hi hx r1 (λs2 I2=>⟨_,H1,I2,q1⟩) hf
end
section
variable {X:Cx} {pos:Pos}
end
structure It where
 go:Nat->Hp->Prop
 yld:Nat->Hp->V->Hp->Prop
 stop:Nat->Hp->Prop
noncomputable def G7 (X:Cx) (a7:List (Addr × Obj)) (H:Hp) (b:Addr):Prop :=
 H b=none/\b ≠ X.env.locals/\b ∉ X.fs/\(b∈X.ex \/ X.s₀.heap.objs.size<=b)/\(∀ x c,X.env.cells.lookup x=some c->c ≠ b)/\∀ p∈X.pn++a7,p.1 ≠ b
theorem Inv.NB {X:Cx} {a7:List (Addr × Obj)} {σ:St} {H H':Hp} {s:Shared} {b:Addr} (I:Inv X a7 σ H s) (hb:s.heap.objs.size<=b) (hn:H' b=none):G7 X a7 H' b:=by
 refine⟨hn,im (bt I.lt hb),I.lu hb,.inr (bp I.sz hb),λx c e z=>?_,λp hp z=>?_⟩
 ·obtain⟨v,q⟩:=I.cell x c e
  exact absurd (bt q.lt (by rw[z];exact hb)) (fR _)
 ·exact absurd (bt (Heap.lt_size (I.pin p hp).1) (by rw[z];exact hb)) (fR _)
structure Turn (P:Program) (w:World) (K:W.Frag) (tg:Expr) (J:It) (fp:List Addr) (it:Addr) (tn:Nat->Heap->Prop):Prop where
 mem:it∈fp
 obj:∀ i h,tn i h->∀ b∈fp,∃ o,h.get? b=some o/\∀ v,o.data ≠ .cell v
 keep:∀ i h h',tn i h->(∀ b∈fp,∀ o,h.get? b=some o->h'.get? b=some o)->tn i h'
 item:∀ (X:Cx),X.prog=P->X.w=w->X.K=K->X.calm=true->∀ (i:Nat) (a7:List (Addr × Obj)) (s:Shared) (σ:St) (H:Hp) (E:vSP),Inv X a7 σ H s->(∀ b∈fp,G7 X a7 H b)->tn i s.heap->J.go i H ->
  wpAny (model P w) X.A (pyNext (.ref it)) (λr s1=>∃ u,r=some u /\
   wpAny (model P w) X.A (letOwnedTupleGo tg (.ref it) u) (λ_ s2=>∃ x H',Inv X a7 σ H' s2/\RelV x u/\J.yld i H x H'/\tn (i+1) s2.heap/\∀ b∈fp,H' b=none) E s1) E s
 done:∀ (X:Cx),X.prog=P->X.w=w->X.K=K->X.calm=true->∀ (i:Nat) (a7:List (Addr × Obj)) (s:Shared) (σ:St) (H:Hp) (E:vSP),Inv X a7 σ H s->(∀ b∈fp,G7 X a7 H b)->tn i s.heap->J.stop i H ->
  wpAny (model P w) X.A (pyNext (.ref it)) (λr s1=>r=none/\Inv X a7 σ H s1) E s
 self:∀ (A:Around) (i:Nat) (s:Shared) (Q:vSP) (E:vSP),tn i s.heap->Q (.ref it) s->wpAny (model P w) A (pyIter (.ref it)) Q E s
noncomputable abbrev TI:=St->Hp->(It->Hp->Prop)->Prop
noncomputable def PIE (X:Cx) (a7:List (Addr × Obj)) (σ:St) (tg:Expr) (R:It->Hp->Prop) (xQ:Value) (s2:Shared):Prop :=
 ∃ (it:Addr) (fp:List Addr) (tn:Nat->Heap->Prop) (J:It) (H':Hp),xQ=.ref it/\Inv X a7 σ H' s2/\Turn X.prog X.w X.K tg J fp it tn/\tn 0 s2.heap/\(∀ b∈fp,G7 X a7 H' b)/\R J H'
noncomputable def PI (X:Cx) (tg iter:Expr) (wi:TI):Prop :=
 ∀ (a7:List (Addr × Obj)) (s:Shared) (σ:St) (H:Hp) (R:It->Hp->Prop),Inv X a7 σ H s->wi σ H R ->
  wpAny (model X.prog X.w) X.A (eval iter X.env) (λv s1=>wpAny (model X.prog X.w) X.A (pyIter v) (PIE X a7 σ tg R) X.xe s1) X.xe s
theorem Ol {M:Model} {A:Around} {E:vSP} {s:Shared} {tg:Expr} {it:Addr} {u:Value} {o:Obj} {n:String} {vs:Array Value} {Q:Unit->Shared->Prop} (ho:s.heap.get? it=some o) (hc:o.cls=.type n) (hd:o.data=.fields vs)
  (hn:["enumerate","zip","dict_itemiterator","dict_reverseitemiterator","odict_iterator","itertools.zip_longest","itertools.pairwise"].contains n=false) (hQ:Q () s):wpAny M A (letOwnedTupleGo tg (.ref it) u) Q E s:=by
 unfold letOwnedTupleGo
 cases tg <;> first
  | exact wpAny_pure hQ
  | (cases u <;> first
    | exact wpAny_pure hQ
    | (refine wpAny_bind (wpAny_load ho ?_)
       rw[hc,hd]
       show wpAny M A (if (["enumerate","zip","dict_itemiterator","dict_reverseitemiterator","odict_iterator","itertools.zip_longest","itertools.pairwise"].contains n && vs[0]? == some (rawInt _))=true then _ else _) Q E s
       rw[if_neg (by intro h;rw[hn,dQ] at h;cases h)]
       exact wpAny_pure hQ))
noncomputable def az (K:W.Frag) (a:Addr):It :=
 ⟨λi H=>∃ xs x,Dg K H a xs/\xs[i]? = some x,λi H x H'=>H'=H/\∀ xs,Dg K H a xs->xs[i]? = some x,λi H=>∃ xs,Dg K H a xs/\xs.length<=i⟩
noncomputable def nR (K:W.Frag) (a:Addr):It :=
 ⟨λi H=>∃ xs x,Ga K H a xs/\xs[i]? = some x,λi H x H'=>H'=H/\∀ xs,Ga K H a xs->xs[i]? = some x,λi H=>∃ xs,Ga K H a xs/\xs.length<=i⟩
noncomputable def Zj (lo:Int) (n:Nat):It:=⟨λi _=>i<n,λi H x H'=>H'=H/\x=.int (lo+i),λi _=>n<=i⟩
theorem Tz {P:Program} {w:World} {K:W.Frag} {tg:Expr} (a it:Addr):Turn P w K tg (az K a) [it] it (λi h=>h.IsListIter it a i) where
 mem:=by simp
 obj:=λi h st b hb=>by
  have e:b=it:=by simpa using hb
  subst e
  obtain⟨o,e,c,d⟩:=st
  exact⟨o,e,λv z=>by rw[d] at z;cases z⟩
 keep:=λi h h' st k=>st.at λo e=>k it (by simp) o e
 item:=by
  intro X hP hw hK hc i a7 s σ H E I hf st hg
  subst hP hw hK
  obtain⟨xs,x,hq,hx⟩:=hg
  obtain⟨its,rv,p,hz⟩:=I.list hq
  obtain⟨u,hu,ru⟩:=rv.get hx
  obtain⟨f0,f1,f2,f3,f4,f5⟩:=hf it (by simp)
  refine wpAny_pyNext_list_item st p.isList (x:=u) (by simpa using hu) λh' ot sb=>?_
  have I1:Inv X a7 σ H { s with heap:=h' }:=I.turned (t':=s.toks) (λb o hb e=>(sb.2 b hb).trans e) f0 f1 f3 f4 f5
  obtain⟨o,e,c,d⟩:=id ot
  exact⟨u,rfl,Ol (s:={ s with heap:=h' }) e c d (by decide) ⟨x,H,I1,ru,⟨rfl,λys hy=>by rw[I.QC hy hq];exact hx⟩,ot,λb hb=>(hf b hb).1⟩⟩
 done:=by
  intro X hP hw hK hc i a7 s σ H E I hf st hg
  subst hP hw hK
  obtain⟨xs,hq,hx⟩:=hg
  obtain⟨its,rv,p,hz⟩:=I.list hq
  obtain⟨f0,f1,f2,f3,f4,f5⟩:=hf it (by simp)
  have hl:=rv.length
  exact wpAny_pyNext_list_end (I.ok.hd hc) st p.isList (by simp;omega) λh' eb=>⟨rfl,I.turned (t':=s.toks) (λb o hb e=>eb b o hb e) f0 f1 f3 f4 f5⟩
 self:=λ_ _ _ _ _ st h=>wpAny_pyIter_listiter st h
theorem Qn {P:Program} {w:World} {K:W.Frag} {tg:Expr} (a it:Addr):Turn P w K tg (nR K a) [it] it (λi h=>h.IsTupleIter it a i) where
 mem:=by simp
 obj:=λi h st b hb=>by
  have e:b=it:=by simpa using hb
  subst e
  obtain⟨o,e,c,d⟩:=st
  exact⟨o,e,λv z=>by rw[d] at z;cases z⟩
 keep:=λi h h' st k=>st.at λo e=>k it (by simp) o e
 item:=by
  intro X hP hw hK hc i a7 s σ H E I hf st hg
  subst hP hw hK
  obtain⟨xs,x,hq,hx⟩:=hg
  obtain⟨its,rv,p,hz⟩:=I.tuple hq
  obtain⟨u,hu,ru⟩:=rv.get hx
  obtain⟨f0,f1,f2,f3,f4,f5⟩:=hf it (by simp)
  refine wpAny_pyNext_tuple_item st (show s.heap.IsTuple a its.toArray from p) (x:=u) (by simpa using hu) λh' ot sb=>?_
  have I1:Inv X a7 σ H { s with heap:=h' }:=I.turned (t':=s.toks) (λb o hb e=>(sb.2 b hb).trans e) f0 f1 f3 f4 f5
  obtain⟨o,e,c,d⟩:=id ot
  exact⟨u,rfl,Ol (s:={ s with heap:=h' }) e c d (by decide) ⟨x,H,I1,ru,⟨rfl,λys hy=>by rw[I.Jt hy hq];exact hx⟩,ot,λb hb=>(hf b hb).1⟩⟩
 done:=by
  intro X hP hw hK hc i a7 s σ H E I hf st hg
  subst hP hw hK
  obtain⟨xs,hq,hx⟩:=hg
  obtain⟨its,rv,p,hz⟩:=I.tuple hq
  obtain⟨f0,f1,f2,f3,f4,f5⟩:=hf it (by simp)
  have hl:=rv.length
  exact wpAny_pyNext_tuple_end (I.ok.hd hc) st (show s.heap.IsTuple a its.toArray from p) (by simp;omega) λh' eb=>⟨rfl,I.turned (t':=s.toks) (λb o hb e=>eb b o hb e) f0 f1 f3 f4 f5⟩
 self:=λ_ _ _ _ _ st h=>wpAny_pyIter_tupleiter st h
theorem Q8 {P:Program} {w:World} {K:W.Frag} {tg:Expr} (it:Addr) (lo:Int) (n:Nat):Turn P w K tg (Zj lo n) [it] it (λi h=>IsRangeIter h it (lo+(i:Nat) * 1) ((n:Int) - (i:Nat)) 1) where
 mem:=by simp
 obj:=λi h st b hb=>by
  have e:b=it:=by simpa using hb
  subst e
  exact⟨_,st,λv z=>by
   have z':Data.fields _=Data.cell v:=z
   cases z'⟩
 keep:=λi h h' st k=>k it (by simp) _ st
 item:=by
  intro X hP hw hK hc i a7 s σ H E I hf st hg
  subst hP hw hK
  obtain⟨f0,f1,f2,f3,f4,f5⟩:=hf it (by simp)
  have W:=Walks.range (prog:=X.prog) (w:=X.w) (I.ok.hd hc) it lo 1 n
  refine W.item i s _ _ hg st λv h' tk hv ot kk=>?_
  obtain⟨t,rfl⟩:=hv
  have I1:Inv X a7 σ H { s with heap:=h',toks:=tk }:=I.turned (λb o hb e=>kk b o (by simpa using hb) e) f0 f1 f3 f4 f5
  refine⟨_,rfl,Ol (s:={ s with heap:=h',toks:=tk }) (n:="range_iterator") ot rfl rfl (by decide) ⟨.int (lo+i),H,I1,⟨t,?_⟩,⟨rfl,rfl⟩,ot,λb hb=>(hf b hb).1⟩⟩
  rw[Int.mul_one]
 done:=by
  intro X hP hw hK hc i a7 s σ H E I hf st hg
  subst hP hw hK
  obtain⟨f0,f1,f2,f3,f4,f5⟩:=hf it (by simp)
  exact wpAny_pyNext_range_end (I.ok.hd hc) st (by have:n<=i:=hg;omega) λh' eb=>⟨rfl,I.turned (t':=s.toks) (λb o hb e=>eb b o hb e) f0 f1 f3 f4 f5⟩
 self:=λ_ _ _ _ _ st h=>wpAny_pyIter_rangeiter st h
section
variable {X:Cx} {tg:Expr}
noncomputable def jW (K:W.Frag) (tl:TE):TI:=λσ H R=>tl σ H λx H1=>∃ a,x=.ref a/\(∃ xs,Dg K H1 a xs)/\R (az K a) H1
noncomputable def qG (K:W.Frag) (tl:TE):TI:=λσ H R=>tl σ H λx H1=>∃ a,x=.ref a/\(∃ xs,Ga K H1 a xs)/\R (nR K a) H1
theorem B_ {l:Expr} {tl:TE} (hl:PE X l tl):PI X tg l (jW X.K tl):=by
 intro a7 s σ H R I h
 refine CW (hl a7 s σ H _ I h) λv s1 f7=>?_
 obtain⟨x,H1,I1,r1,q1⟩:=f7
 obtain⟨a,e,⟨xs,hq⟩,q⟩:=q1
 subst e
 cases r1
 obtain⟨its,rv,p,hz⟩:=I1.list hq
 refine wpAny_pyIter_list p.isList ?_
 refine⟨s1.heap.objs.size,[s1.heap.objs.size],_,_,H1,rfl,I1.kept (t':=s1.toks) λb o e=>Heap.get?_push_of_some _ e,Tz a _,⟨_,Heap.get?_push_size _ rfl,rfl,rfl⟩,λb hb=>?_,q⟩
 have e:b=s1.heap.objs.size:=by simpa using hb
 subst e
 exact I1.NB (ar _) (I1.hok.fresh (ar _))
theorem Js {l:Expr} {tl:TE} (hl:PE X l tl):PI X tg l (qG X.K tl):=by
 intro a7 s σ H R I h
 refine CW (hl a7 s σ H _ I h) λv s1 f7=>?_
 obtain⟨x,H1,I1,r1,q1⟩:=f7
 obtain⟨a,e,⟨xs,hq⟩,q⟩:=q1
 subst e
 cases r1
 obtain⟨its,rv,p,hz⟩:=I1.tuple hq
 refine wpAny_pyIter_tuple (show s1.heap.IsTuple a its.toArray from p) ?_
 refine⟨s1.heap.objs.size,[s1.heap.objs.size],_,_,H1,rfl,I1.kept (t':=s1.toks) λb o e=>Heap.get?_push_of_some _ e,Qn a _,⟨_,Heap.get?_push_size _ rfl,rfl,rfl⟩,λb hb=>?_,q⟩
 have e:b=s1.heap.objs.size:=by simpa using hb
 subst e
 exact I1.NB (ar _) (I1.hok.fresh (ar _))
theorem Vh {a7:List (Addr × Obj)} {σ:St} {H:Hp} {s:Shared} {R:It->Hp->Prop} {E:vSP} {lo hi:Int} {t u v:Tok} {tk:Nat} (I:Inv X a7 σ H s) (h1 : -(2 ^ 62)<=lo) (h2:lo<2 ^ 62) (h3 : -(2 ^ 62)<=hi) (h4:hi<2 ^ 62)
  (q:R (Zj lo (hi - lo).toNat) H):wpAny (model X.prog X.w) X.A (pyIter (.ref s.heap.objs.size)) (PIE X a7 σ tg R) E { s with heap:=s.heap.push { cls:=.type "range",data:=.fields #[.int lo t,.int hi u,.int 1 v] },toks:=tk }:=by
 refine wpAny_pyIter_range (IsRange.new ..) (small_one h1 h2 h3 h4) ?_
 have I1:Inv X a7 σ H { s with heap:=s.heap.push { cls:=.type "range",data:=.fields #[.int lo t,.int hi u,.int 1 v] },toks:=tk }:=I.kept λb o e=>Heap.get?_push_of_some _ e
 refine⟨(s.heap.push { cls:=.type "range",data:=.fields #[.int lo t,.int hi u,.int 1 v] }).objs.size,[(s.heap.push { cls:=.type "range",data:=.fields #[.int lo t,.int hi u,.int 1 v] }).objs.size],_,_,H,rfl,
  I1.kept (t':=tk) λb o e=>Heap.get?_push_of_some _ e,Q8 _ lo (hi - lo).toNat,?_,λb hb=>?_,q⟩
 ·have e1:lo+((0:Nat):Int) * 1=lo:=by simp
  have e2:(((hi - lo).toNat:Nat):Int) - ((0:Nat):Int)=Builtin.Range.rangeSize lo hi 1:=by rw[rangeSize_one];split <;> omega
  show IsRangeIter _ _ (lo+((0:Nat):Int) * 1) ((((hi - lo).toNat:Nat):Int) - ((0:Nat):Int)) 1
  rw[e1,e2]
  exact Heap.get?_push_size _ rfl
 ·have e:b=(s.heap.push { cls:=.type "range",data:=.fields #[.int lo t,.int hi u,.int 1 v] }).objs.size:=by simpa using hb
  subst e
  exact I1.NB (ar _) (I1.hok.fresh (ar _))
noncomputable def kI (ta:TA):TI:=λσ H R=>ta σ H λvs H1=>∃ j:Int,vs=[.int j] /\ -(2 ^ 62)<=j/\j<2 ^ 62/\R (Zj 0 j.toNat) H1
theorem Gg {a:Expr} {ta:TA} {p pos:Pos} (hg:Gl X "range") (hm:X.mg "range" = none) (ha:PA X [a] ta) (hs:starEach [a] X.env=[(false,eval a X.env)]:=by rfl):PI X tg (.Call (.Name "range" p) [a] [] pos) (kI ta):=by
 intro a7 s σ H R I h
 refine Call_ (Im I hg hm boot_range (PyProof.Rows.callWith_type1 (CW (ha pos a7 s σ H _ I h) λus s1 ⟨vs,H1,I1,r1,q1⟩=>?_) hs rfl))
 obtain⟨j,e,q1,q2,q⟩:=q1
 subst e
 cases r1 with
 | cons r rr =>
  cases rr
  obtain⟨t,rfl⟩:=r
  exact call_range_1 (Vh I1 (by omega) (by omega) q1 q2 (by simpa using q))
noncomputable def mq (wi:TI) (g:TG) (tb:TS):TS:=λD σ H=>wi σ H λJ H1=>∃ W:Nat->Nat->St->Hp->Prop,(∃ m,W 0 m σ H1)/\∀ i m σ H,W i m σ H ->
 (J.stop i H/\D.nx σ H) \/ (J.go i H/\∃ N:St->Hp->Prop,(∀ σ' H',N σ' H'->∃ m',m'<m/\W (i+1) m' σ' H')/\∀ x H',J.yld i H x H'->g x σ H' λσ2 H2=>tb { D with nx:=N,ct:=N,bk:=D.nx } σ2 H2)
noncomputable def Jv (fp:List Addr) (h:Heap):List (Addr × Obj):=fp.filterMap λb=>(h.get? b).map λo=>(b,o)
theorem Ex {fp:List Addr} {h:Heap} {b:Addr} {o:Obj} (hb:b∈fp) (e:h.get? b=some o):(b,o)∈Jv fp h:=List.mem_filterMap.mpr ⟨b,hb,by rw[e];rfl⟩
theorem Um {fp:List Addr} {h:Heap} {p:Addr × Obj} (hp:p∈Jv fp h):p.1∈fp/\h.get? p.1=some p.2:=by
 obtain⟨b,hb,e⟩:=List.mem_filterMap.mp hp
 cases q:h.get? b with
 | none=>rw[q] at e;cases e
 | some o =>
  rw[q] at e
  have e':(b,o)=p:=Option.some.inj e
  subst e'
  exact⟨hb,q⟩
theorem Inv.pinned {a7:List (Addr × Obj)} {σ:St} {H:Hp} {s:Shared} {fp:List Addr} (I:Inv X a7 σ H s) (hf:∀ b∈fp,G7 X a7 H b) (ho:∀ b∈fp,∃ o,s.heap.get? b=some o/\∀ v,o.data ≠ .cell v):Inv X (a7++Jv fp s.heap) σ H s :=
 I.R0 λp hp=>(ba.mp hp).elim (λz=>I.pin p (be _ z)) λz=>by
  obtain⟨hb,e⟩:=Um z
  obtain⟨f0,f1,f2,_⟩:=hf p.1 hb
  obtain⟨o,e',d⟩:=ho p.1 hb
  rw[e] at e';cases e'
  exact⟨e,f0,f1,f2,d⟩
theorem Inv.HQ {a7 pl:List (Addr × Obj)} {σ:St} {H:Hp} {s:Shared} (I:Inv X (a7++pl) σ H s):Inv X a7 σ H s:=I.R0 λp hp=>I.pin p (be _ (cr _ hp))
theorem Fb {iter:Expr} {body:List Stmt} {wi:TI} {g:TG} {tb:TS} {pos:Pos} (hp:PassesOwn (model X.prog X.w) X.A X.env X.xe) (hc:X.calm=true) (hi:PI X tg iter wi) (hg:PG X tg g) (hb:Oa X body tb)
  (hs:∀ x,foldedSetIterable iter X.env x=pure x:=by intro _;rfl):PS X (.For tg iter body [] pos) (mq wi g tb):=by
 intro a7 s σ H D I h
 refine wpAny_For (CW (hi a7 s σ H _ I h) λv s1 h1=>CW h1 λxQ s2 h2=>?_) hs
 obtain⟨it,fp,tn,J,H2,e,I2,T,qB,f2,W,⟨m0,w0⟩,pi⟩:=h2
 subst e
 have stat:∀ {H':Hp},(∀ b∈fp,H' b=none)->∀ b∈fp,G7 X a7 H' b:=λhn b hb=>⟨hn b hb,(f2 b hb).2⟩
 refine codeAny_forLoop_any (λn s'=>∃ i σ' H',Inv X a7 σ' H' s'/\tn i s'.heap/\(∀ b∈fp,H' b=none)/\W i n σ' H') ?_ m0 ⟨0,σ,H2,I2,qB,λb hb=>(f2 b hb).1,w0⟩
 rintro n s3 ⟨i,σ3,H3,I3,st3,G',w3⟩
 rcases pi i n σ3 H3 w3 with⟨stop,qn⟩ | ⟨go,N,hN,step⟩
 ·refine wpAny_passesOwn hp (CW (T.done X rfl rfl rfl hc i a7 s3 σ3 H3 X.xe I3 (stat G') st3 stop) λr s4 ⟨hr,I4⟩=>?_)
  subst hr
  exact wpAny_execs_nil ⟨σ3,H3,I4,qn⟩
 ·refine wpAny_passesOwn hp (CW (T.item X rfl rfl rfl hc i a7 s3 σ3 H3 X.xe I3 (stat G') st3 go) λr s4 ⟨u,hr,h4⟩=>?_)
  subst hr
  refine wpAny_passesOwn hp (CW h4 λ_ s5 f7=>?_)
  obtain⟨x,H5,I5,r5,y5,Da,OZ⟩:=f7
  have RF:=I5.pinned (stat OZ) (T.obj _ _ Da)
  refine wpAny_passesOwn hp (CW (hg _ s5 σ3 H5 x u _ RF r5 (step x H5 y5)) λ_ s6 f7=>?_)
  obtain⟨σ6,H6,I6,q6⟩:=f7
  refine wpAny_passesOwn hp (CW (hb _ s6 σ6 H6 _ I6 q6) λf s7 q7=>?_)
  have again:∀ {σ7:St} {H7:Hp},Inv X (a7++Jv fp s5.heap) σ7 H7 s7->N σ7 H7->∃ m,m<n/\∃ i σ' H',Inv X a7 σ' H' s7/\tn i s7.heap/\(∀ b∈fp,H' b=none)/\W i m σ' H':=λ{σ7 H7} I7 n7=>by
   obtain⟨m',hm,w7⟩:=hN σ7 H7 n7
   refine⟨m',hm,i+1,σ7,H7,I7.HQ,T.keep _ _ _ Da λb hb o e=>(I7.pin (b,o) (be _ (be _ (Ex hb e)))).1,λb hb=>?_,w7⟩
   obtain⟨o,e,d⟩:=T.obj _ _ Da b hb
   exact (I7.pin (b,o) (be _ (be _ (Ex hb e)))).2.1
  cases f with
  | next=>obtain⟨σ7,H7,I7,n7⟩:=q7;exact again I7 n7
  | cont=>obtain⟨σ7,H7,I7,n7⟩:=q7;exact again I7 n7
  | brk=>obtain⟨σ7,H7,I7,q7⟩:=q7;exact⟨σ7,H7,I7.HQ,q7⟩
  | ret v=>obtain⟨x7,σ7,H7,I7,r7,q7⟩:=q7;exact⟨x7,σ7,H7,I7.HQ,r7,q7⟩
end
theorem Jb {K:W.Frag} {a:Addr} {xs:List V} {g:TG} {tb:TS} {D:Ends} {σ:St} {H:Hp} (Pv:Nat->St->Hp->Prop) (h0:Pv 0 σ H) (hl:∀ i σ H,i<=xs.length->Pv i σ H->Dg K H a xs)
  (hs:∀ i x σ H,xs[i]? = some x->Pv i σ H->g x σ H λσ2 H2=>tb { D with nx:=Pv (i+1),ct:=Pv (i+1),bk:=D.nx } σ2 H2) (hd:∀ σ H,Pv xs.length σ H->D.nx σ H) :
  ∃ W:Nat->Nat->St->Hp->Prop,(∃ m,W 0 m σ H)/\∀ i m σ H,W i m σ H ->
   ((az K a).stop i H/\D.nx σ H) \/ ((az K a).go i H/\∃ N:St->Hp->Prop,(∀ σ' H',N σ' H'->∃ m',m'<m/\W (i+1) m' σ' H')/\∀ x H',(az K a).yld i H x H'->g x σ H' λσ2 H2=>tb { D with nx:=N,ct:=N,bk:=D.nx } σ2 H2):=by
 refine⟨λi m σ H=>m=xs.length - i/\i<=xs.length/\Pv i σ H,⟨xs.length,by simp,Nat.zero_le _,h0⟩,?_⟩
 rintro i m σ H ⟨rfl,hi,p⟩
 have q:=hl i σ H hi p
 by_cases hlt:i<xs.length
 ·refine .inr ⟨⟨xs,xs[i],q,by simp[hlt]⟩,Pv (i+1),λσ' H' p'=>⟨xs.length - (i+1),by omega,rfl,hlt,p'⟩,λx H' y=>?_⟩
  obtain⟨e,y⟩:=y
  subst e
  exact hs i x σ _ (y xs q) p
 ·have e:i=xs.length:=by omega
  subst e
  exact .inl ⟨⟨xs,q,ar _⟩,hd σ H p⟩
theorem Jl {lo:Int} {n:Nat} {g:TG} {tb:TS} {D:Ends} {σ:St} {H:Hp} (Pv:Nat->St->Hp->Prop) (h0:Pv 0 σ H)
  (hs:∀ i σ H,i<n->Pv i σ H->g (.int (lo+i)) σ H λσ2 H2=>tb { D with nx:=Pv (i+1),ct:=Pv (i+1),bk:=D.nx } σ2 H2) (hd:∀ σ H,Pv n σ H->D.nx σ H) :
  ∃ W:Nat->Nat->St->Hp->Prop,(∃ m,W 0 m σ H)/\∀ i m σ H,W i m σ H ->
   ((Zj lo n).stop i H/\D.nx σ H) \/ ((Zj lo n).go i H/\∃ N:St->Hp->Prop,(∀ σ' H',N σ' H'->∃ m',m'<m/\W (i+1) m' σ' H')/\∀ x H',(Zj lo n).yld i H x H'->g x σ H' λσ2 H2=>tb { D with nx:=N,ct:=N,bk:=D.nx } σ2 H2):=by
 refine⟨λi m σ H=>m=n - i/\i<=n/\Pv i σ H,⟨n,by simp,Nat.zero_le _,h0⟩,?_⟩
 rintro i m σ H ⟨rfl,hi,p⟩
 by_cases hlt:i<n
 ·refine .inr ⟨hlt,Pv (i+1),λσ' H' p'=>⟨n - (i+1),by omega,rfl,hlt,p'⟩,λx H' y=>?_⟩
  obtain⟨e,y⟩:=y
  subst e y
  exact hs i σ _ hlt p
 ·have e:i=n:=by omega
  subst e
  exact .inl ⟨ar _,hd σ H p⟩
noncomputable abbrev R2:=V->V->Hp->VK->Prop
noncomputable def HN (X:Cx) (f:Value->Value->Sem Value) (r:R2):Prop :=
 ∀ (a7:List (Addr × Obj)) (s:Shared) (σ:St) (H:Hp) (x y:V) (v u:Value) (Q:VK),Inv X a7 σ H s->RelV x v->RelV y u->r x y H Q ->
  wpAny (model X.prog X.w) X.A (f v u) (EP X a7 σ Q) X.xe s
noncomputable def pH (X:Cx) (f:Value->Sem Value) (r:V->Hp->VK->Prop):Prop :=
 ∀ (a7:List (Addr × Obj)) (s:Shared) (σ:St) (H:Hp) (x:V) (v:Value) (Q:VK),Inv X a7 σ H s->RelV x v->r x H Q ->
  wpAny (model X.prog X.w) X.A (f v) (EP X a7 σ Q) X.xe s
noncomputable def Fx (X:Cx) (f:Value) (r:List V->Hp->VK->Prop):Prop :=
 ∀ (a7:List (Addr × Obj)) (s:Shared) (σ:St) (H:Hp) (xs:List V) (us:List Value) (Q:VK),Inv X a7 σ H s->Vals xs us->r xs H Q ->
  wpAny (model X.prog X.w) X.A (call f us) (EP X a7 σ Q) X.xe s
noncomputable def qg (X:Cx) (r:V->Hp->(Bool->Hp->Prop)->Prop):Prop :=
 ∀ (a7:List (Addr × Obj)) (s:Shared) (σ:St) (H:Hp) (x:V) (v:Value) (Q:Bool->Hp->Prop),Inv X a7 σ H s->RelV x v->r x H Q ->
  wpAny (model X.prog X.w) X.A (truthy v) (TP X a7 σ Q) X.xe s
noncomputable def eV (r:R2) (ta tb:TE):TE:=λσ H Q=>ta σ H λx H1=>tb σ H1 λy H2=>r x y H2 Q
noncomputable def tU (r:V->Hp->VK->Prop) (ta:TE):TE:=λσ H Q=>ta σ H λx H1=>r x H1 Q
noncomputable def rI (C:Int->Int->Prop) (g:Int->Int->V):R2:=λx y H Q=>∃ i j,x=.int i/\y=.int j/\C i j/\Q (g i j) H
noncomputable def X4 (g:Int->Int->V):R2:=λx y H Q=>∃ i j,x=.int i/\y=.int j/\Q (g i j) H
noncomputable def rU (g:Int->V):V->Hp->VK->Prop:=λx H Q=>∃ i,x=.int i/\Q (g i) H
section
variable {X:Cx} {a b c:Expr} {ta tb tc:TE} {pos:Pos}
theorem aU (ha:PE X a ta) (hb:PE X b tb) {a7:List (Addr × Obj)} {s:Shared} {σ:St} {H:Hp} {R:V->V->Hp->Prop} (I:Inv X a7 σ H s)
  (h:ta σ H λx H1=>tb σ H1 λy H2=>R x y H2) {Q:vSP} {f:Value->Value->Sem Value}
  (hf:∀ v u s2 x y H2,Inv X a7 σ H2 s2->RelV x v->RelV y u->R x y H2->wpAny (model X.prog X.w) X.A (f v u) Q X.xe s2) :
  wpAny (model X.prog X.w) X.A (eval a X.env) (λv s₁=>wpAny (model X.prog X.w) X.A (eval b X.env) (λu s₂=>wpAny (model X.prog X.w) X.A (f v u) Q X.xe s₂) X.xe s₁) X.xe s:=by
 refine CW (ha a7 s σ H _ I h) λv s1 f7=>?_
 obtain⟨x,H1,I1,r1,q1⟩:=f7
 refine CW (hb a7 s1 σ H1 _ I1 q1) λu s2 f7=>?_
 obtain⟨y,H2,I2,r2,q2⟩:=f7
 exact hf v u s2 x y H2 I2 r1 r2 q2
theorem BJ {op:Operator} {r:R2} (ho:HN X (binaryOp op) r) (ha:PE X a ta) (hb:PE X b tb):PE X (.BinOp a op b pos) (eV r ta tb):=by
 intro a7 s σ H Q I h
 exact wpAny_BinOp (aU ha hb I h λv u s2 x y H2 I2 rx ry q=>ho a7 s2 σ H2 x y v u Q I2 rx ry q)
theorem J4 {op:UnaryOp} {r:V->Hp->VK->Prop} (ho:pH X (unaryOp op) r) (ha:PE X a ta):PE X (.UnaryOp op a pos) (tU r ta):=by
 intro a7 s σ H Q I h
 exact UnaryOp_ (CW (ha a7 s σ H _ I h) λv s1 ⟨x,H1,I1,r1,q1⟩=>ho a7 s1 σ H1 x v Q I1 r1 q1)
theorem fJ {f:Value->Value->Sem Value} {C:Int->Int->Prop} {g:Int->Int->Int}
  (rule:∀ (i j:Int) (t u:Tok) (s:Shared) (Q:vSP) (E:vSP),C i j->Q (.int (g i j) s.toks) { s with toks:=s.toks+1 }->wpAny (model X.prog X.w) X.A (f (.int i t) (.int j u)) Q E s) :
  HN X f (rI C λi j=>.int (g i j)):=by
 intro a7 s σ H x y v u Q I rx ry h
 obtain⟨i,j,rfl,rfl,hc,q⟩:=h
 obtain⟨t,rfl⟩:=rx
 obtain⟨t',rfl⟩:=ry
 exact rule i j t t' s _ _ hc ⟨.int (g i j),H,I.tok _,⟨_,rfl⟩,q⟩
theorem bh {f:Value->Value->Sem Value} {g:Int->Int->Int}
  (rule:∀ (i j:Int) (t u:Tok) (s:Shared) (Q:vSP) (E:vSP),Q (.int (g i j) s.toks) { s with toks:=s.toks+1 }->wpAny (model X.prog X.w) X.A (f (.int i t) (.int j u)) Q E s) :
  HN X f (X4 λi j=>.int (g i j)):=by
 intro a7 s σ H x y v u Q I rx ry h
 obtain⟨i,j,rfl,rfl,q⟩:=h
 obtain⟨t,rfl⟩:=rx
 obtain⟨t',rfl⟩:=ry
 exact rule i j t t' s _ _ ⟨.int (g i j),H,I.tok _,⟨_,rfl⟩,q⟩
theorem Yp {f:Value->Value->Sem Value} {g:Int->Int->Bool}
  (rule:∀ (i j:Int) (t u:Tok) (s:Shared) (Q:vSP) (E:vSP),Q (.bool (g i j)) s->wpAny (model X.prog X.w) X.A (f (.int i t) (.int j u)) Q E s) :
  HN X f (X4 λi j=>.bl (g i j)):=by
 intro a7 s σ H x y v u Q I rx ry h
 obtain⟨i,j,rfl,rfl,q⟩:=h
 obtain⟨t,rfl⟩:=rx
 obtain⟨t',rfl⟩:=ry
 exact rule i j t t' s _ _ ⟨.bl (g i j),H,I,rfl,q⟩
noncomputable def qY (i j:Int):Prop:=0<j/\j<1073741824
noncomputable def fV (i j:Int):Prop:=0<=j/\j<=1000000/\i.natAbs<2 ^ 64
noncomputable def bJ (i j:Int):Prop:=(-(2 ^ 64)<i/\i<2 ^ 64) \/ (-(2 ^ 64)<j/\j<2 ^ 64)
theorem bJ.ok {i j:Int} (h:bJ i j):IntMulOk i j:=by
 rcases h with⟨h1,h2⟩ | ⟨h1,h2⟩
 ·exact .of_left (intBits_le_64 h1 h2)
 ·exact .of_right (intBits_le_64 h1 h2)
theorem Dc:HN X (binaryOp .Add) (X4 λi j=>.int (i+j)):=bh λ_ _ _ _ _ _ _ q=>add_int q
theorem Ft:HN X (binaryOp .Sub) (X4 λi j=>.int (i - j)):=bh λ_ _ _ _ _ _ _ q=>sub_int q
theorem Hk:HN X (binaryOp .Mult) (rI bJ λi j=>.int (i * j)):=fJ λ_ _ _ _ _ _ _ hc q=>mul_int q hc.ok
theorem Ej:HN X (binaryOp .FloorDiv) (rI qY λi j=>.int (i / j)):=fJ λi j _ _ _ _ _ hc q=>by
 have h1:(0:Int)<j:=hc.1
 have h2:j<1073741824:=hc.2
 exact floordiv_int (by omega) (by rw[Int.fdiv_eq_ediv_of_nonneg i (by omega)];exact q) (.inl (PyProof.noPylong_small (by omega)))
theorem DX:HN X (binaryOp .Mod) (rI (λ_ j=>0<j) λi j=>.int (i % j)):=fJ λi j _ _ _ _ _ hc q=>by
 have h1:(0:Int)<j:=hc
 exact mod_int' (by omega) (by rw[Int.fmod_eq_emod_of_nonneg i (by omega)];exact q)
theorem Q4:HN X (binaryOp .Pow) (rI fV λi j=>.int (i ^ j.toNat)):=fJ λ_ _ _ _ _ _ _ hc q=>pow_int_small hc.1 hc.2.1 hc.2.2 q
theorem Z8:HN X (binaryOp .LShift) (rI fV λi j=>.int (i * 2 ^ j.toNat)):=fJ λ_ _ _ _ _ _ _ hc q=>lshift_int_small hc.1 hc.2.1 hc.2.2 q
theorem dY:HN X (binaryOp .BitOr) (X4 λi j=>.int (Builtin.bitOr i j)):=bh λ_ _ _ _ _ _ _ q=>or_int q
theorem tQ {f:Value->Sem Value} {g:Int->Int}
  (rule:∀ (i:Int) (t:Tok) (s:Shared) (Q:vSP) (E:vSP),Q (.int (g i) s.toks) { s with toks:=s.toks+1 }->wpAny (model X.prog X.w) X.A (f (.int i t)) Q E s) :
  pH X f (rU λi=>.int (g i)):=by
 intro a7 s σ H x v Q I rx h
 obtain⟨i,rfl,q⟩:=h
 obtain⟨t,rfl⟩:=rx
 exact rule i t s _ _ ⟨.int (g i),H,I.tok _,⟨_,rfl⟩,q⟩
theorem Hg:pH X (unaryOp .USub) (rU λi=>.int (-i)):=tQ λ_ _ _ _ _ q=>neg_int q
end
noncomputable def jo:V->V->Bool
 | .non,.non=>true | .non,.int _=>true | .int _,.non=>true | .non,.bl _=>true | .bl _,.non=>true | .non,.str _=>true | .str _,.non=>true
 | .int _,.int _=>true | .bl _,.bl _=>true | .str _,.str _=>true | .byt _,.byt _=>true
 | .int _,.str _=>true | .str _,.int _=>true | .bl _,.str _=>true | .str _,.bl _=>true
 | _,_=>false
noncomputable def tO:R2:=λx y H Q=>jo x y=true/\Q (.bl (decide (x=y))) H
noncomputable def tX:R2:=λx y H Q=>jo x y=true/\Q (.bl (!decide (x=y))) H
theorem Rp {i j:Int}:decide (V.int i=V.int j)=(i == j):=by
 rw[dE]
 simp
theorem Vs {i j:Bool}:decide (V.bl i=V.bl j)=(i == j):=by
 rw[dE]
 simp
theorem H_ {i j:Str}:decide (V.str i=V.str j)=(i == j):=by
 rw[dE]
 simp
theorem Rq {i j:Array UInt8}:decide (V.byt i=V.byt j)=(i.toList == j.toList):=by
 rw[dE]
 cases i
 cases j
 simp
section
variable {X:Cx} {a b c:Expr} {ta tb tc:TE} {pos:Pos}
theorem Bq {a7:List (Addr × Obj)} {σ:St} {H:Hp} {s:Shared} {Q:VK} {k k':Bool} (I:Inv X a7 σ H s) (q:Q (.bl k) H) (e:k=k'):EP X a7 σ Q (.bool k') s:=by
 subst e
 exact⟨.bl k,H,I,rfl,q⟩
theorem DQ:HN X (compareOp .Eq) tO:=by
 intro a7 s σ H x y v u Q I rx ry h
 obtain⟨hs,q⟩:=h
 cases x with
 | non =>
  cases rx
  cases y with
  | non=>cases ry;exact PySem.EqNone.eq_none_none (Bq I q (by simp))
  | bl j=>cases ry;exact PySem.EqNone.eq_none_bool (Bq I q (by simp))
  | int j=>obtain⟨t',rfl⟩:=ry;exact PySem.EqNone.eq_none_int (Bq I q (by simp))
  | str j=>obtain⟨t',rfl⟩:=ry;exact PySem.EqNone.eq_none_str (Bq I q (by simp))
  | _=>exact absurd (show false=true from hs) Bool.false_ne_true
 | bl i =>
  cases rx
  cases y with
  | non=>cases ry;exact PySem.EqNone.eq_bool_none (Bq I q (by simp))
  | bl j=>cases ry;exact eq_bool (Bq I q Vs)
  | str j=>obtain⟨t',rfl⟩:=ry;exact PySem.EqMixed.eq_bool_str (Bq I q (by simp))
  | _=>exact absurd (show false=true from hs) Bool.false_ne_true
 | int i =>
  obtain⟨t,rfl⟩:=rx
  cases y with
  | non=>cases ry;exact PySem.EqNone.eq_int_none (Bq I q (by simp))
  | int j=>obtain⟨t',rfl⟩:=ry;exact eq_int (Bq I q Rp)
  | str j=>obtain⟨t',rfl⟩:=ry;exact PySem.EqMixed.eq_int_str (Bq I q (by simp))
  | _=>exact absurd (show false=true from hs) Bool.false_ne_true
 | str i =>
  obtain⟨t,rfl⟩:=rx
  cases y with
  | non=>cases ry;exact PySem.EqNone.eq_str_none (Bq I q (by simp))
  | bl j=>cases ry;exact PySem.EqMixed.eq_str_bool (Bq I q (by simp))
  | int j=>obtain⟨t',rfl⟩:=ry;exact PySem.EqMixed.eq_str_int (Bq I q (by simp))
  | str j=>obtain⟨t',rfl⟩:=ry;exact eq_str (Bq I q H_)
  | _=>exact absurd (show false=true from hs) Bool.false_ne_true
 | byt i =>
  obtain⟨t,rfl⟩:=rx
  cases y with
  | byt j=>obtain⟨t',rfl⟩:=ry;exact W.eq_bytes (Bq I q Rq)
  | _=>exact absurd (show false=true from hs) Bool.false_ne_true
 | _=>cases y <;> exact absurd (show false=true from hs) Bool.false_ne_true
theorem OJ:HN X (compareOp .NotEq) tX:=by
 intro a7 s σ H x y v u Q I rx ry h
 obtain⟨hs,q⟩:=h
 cases x with
 | non =>
  cases rx
  cases y with
  | non=>cases ry;exact PySem.EqNone.ne_none_none (Bq I q (by simp))
  | bl j=>cases ry;exact PySem.EqNone.ne_none_bool (Bq I q (by simp))
  | int j=>obtain⟨t',rfl⟩:=ry;exact PySem.EqNone.ne_none_int (Bq I q (by simp))
  | str j=>obtain⟨t',rfl⟩:=ry;exact PySem.EqNone.ne_none_str (Bq I q (by simp))
  | _=>exact absurd (show false=true from hs) Bool.false_ne_true
 | bl i =>
  cases rx
  cases y with
  | non=>cases ry;exact PySem.EqNone.ne_bool_none (Bq I q (by simp))
  | bl j=>cases ry;exact ne_bool (Bq I q (congrArg not Vs))
  | str j=>obtain⟨t',rfl⟩:=ry;exact PySem.EqMixed.ne_bool_str (Bq I q (by simp))
  | _=>exact absurd (show false=true from hs) Bool.false_ne_true
 | int i =>
  obtain⟨t,rfl⟩:=rx
  cases y with
  | non=>cases ry;exact PySem.EqNone.ne_int_none (Bq I q (by simp))
  | int j=>obtain⟨t',rfl⟩:=ry;exact ne_int (Bq I q (congrArg not Rp))
  | str j=>obtain⟨t',rfl⟩:=ry;exact PySem.EqMixed.ne_int_str (Bq I q (by simp))
  | _=>exact absurd (show false=true from hs) Bool.false_ne_true
 | str i =>
  obtain⟨t,rfl⟩:=rx
  cases y with
  | non=>cases ry;exact PySem.EqNone.ne_str_none (Bq I q (by simp))
  | bl j=>cases ry;exact PySem.EqMixed.ne_str_bool (Bq I q (by simp))
  | int j=>obtain⟨t',rfl⟩:=ry;exact PySem.EqMixed.ne_str_int (Bq I q (by simp))
  | str j=>obtain⟨t',rfl⟩:=ry;exact ne_str (Bq I q (congrArg not H_))
  | _=>exact absurd (show false=true from hs) Bool.false_ne_true
 | byt i =>
  obtain⟨t,rfl⟩:=rx
  cases y with
  | byt j=>obtain⟨t',rfl⟩:=ry;exact W.ne_bytes (Bq I q (congrArg not Rq))
  | _=>exact absurd (show false=true from hs) Bool.false_ne_true
 | _=>cases y <;> exact absurd (show false=true from hs) Bool.false_ne_true
theorem Fj:HN X (compareOp .Lt) (X4 λi j=>.bl (decide (i<j))):=Yp λ_ _ _ _ _ _ _ q=>lt_int q
theorem FJ:HN X (compareOp .LtE) (X4 λi j=>.bl (decide (i<=j))):=Yp λ_ _ _ _ _ _ _ q=>le_int q
theorem jV:HN X (compareOp .Gt) (X4 λi j=>.bl (decide (j<i))):=Yp λ_ _ _ _ _ _ _ q=>gt_int q
theorem R8:HN X (compareOp .GtE) (X4 λi j=>.bl (decide (j<=i))):=Yp λ_ _ _ _ _ _ _ q=>ge_int q
theorem Je:HN X (compareOp .In) (λx y H Q=>∃ i j,x=.str i/\y=.str j/\Q (.bl (!(Builtin.Str.occurrences j i 0 j.length 1).isEmpty)) H):=by
 intro a7 s σ H x y v u Q I rx ry h
 obtain⟨i,j,rfl,rfl,q⟩:=h
 obtain⟨t,rfl⟩:=rx
 obtain⟨t',rfl⟩:=ry
 exact in_str (Bq I q rfl)
theorem WY:HN X (compareOp .Is) (λx y H Q=>y=.non/\Q (.bl (decide (x=.non))) H):=by
 intro a7 s σ H x y v u Q I rx ry h
 obtain⟨rfl,q⟩:=h
 cases ry
 refine is_none_gen (Bq I q ?_)
 cases x <;> first
  | (cases rx;rfl)
  | (obtain⟨t,rfl⟩:=rx;rfl)
theorem Sq:HN X (compareOp .IsNot) (λx y H Q=>y=.non/\Q (.bl (!decide (x=.non))) H):=by
 intro a7 s σ H x y v u Q I rx ry h
 obtain⟨rfl,q⟩:=h
 cases ry
 refine isnot_none_gen (Bq I q ?_)
 cases x <;> first
  | (cases rx;rfl)
  | (obtain⟨t,rfl⟩:=rx;rfl)
theorem BZ (b:Expr) {op:CmpOp} (h:op ≠ .In:=by decide) (h2:op ≠ .NotIn:=by decide):behindInMarks op b=false:=by
 have e1:(op == CmpOp.In)=false:=by cases op <;> first | rfl | exact absurd rfl h
 have e2:(op == CmpOp.NotIn)=false:=by cases op <;> first | rfl | exact absurd rfl h2
 cases b <;> simp[behindInMarks,e1,e2]
theorem DY {op:CmpOp} {r:R2} (ho:HN X (compareOp op) r) (ha:PE X a ta) (hb:PE X b tb) (hm:behindInMarks op b=false):PE X (.Compare a [op] [b] pos) (eV r ta tb):=by
 intro a7 s σ H Q I h
 exact wpAny_Compare1 (aU ha hb I h λv u s2 x y H2 I2 rx ry q=>ho a7 s2 σ H2 x y v u Q I2 rx ry q) hm
noncomputable def ZW (t:TE):TT:=λσ H Q=>t σ H λx H'=>∃ k,x=.bl k/\Q k H'
theorem BR {op:CmpOp} {r:R2} (ho:HN X (compareOp op) r) (ha:PE X a ta) (hb:PE X b tb) (hm:behindInMarks op b=false):PT X (.Compare a [op] [b] pos) (ZW (eV r ta tb)):=by
 intro a7 s σ H Q I h
 refine wpAny_isTrue_Compare1 (CW (ha a7 s σ H _ I h) λv s1 ⟨x,H1,I1,r1,q1⟩=>CW (hb a7 s1 σ H1 _ I1 q1) λu s2 ⟨y,H2,I2,r2,q2⟩ =>
  CW (ho a7 s2 σ H2 x y v u _ I2 r1 r2 q2) λc s3 ⟨z,H3,I3,r3,k,e,q3⟩=>?_) hm
 subst e
 cases r3
 exact wpAny_truthy_bool ⟨H3,I3,q3⟩
noncomputable def Wv (r r':R2) (ta tb tc:TE):TE:=λσ H Q=>ta σ H λx H1=>tb σ H1 λy H2=>r x y H2 λz H3=>∃ k,z=.bl k /\
 (if k=true then tc σ H3 λw' H4=>r' y w' H4 Q else Q (.bl false) H3)
theorem Gk {op wC:CmpOp} {r r':R2} (ho:HN X (compareOp op) r) (si:HN X (compareOp wC) r') (ha:PE X a ta) (hb:PE X b tb) (hc:PE X c tc)
  (hm:lastMarks [op,wC] [b,c]=false:=by with_unfolding_all rfl):PE X (.Compare a [op,wC] [b,c] pos) (Wv r r' ta tb tc):=by
 intro a7 s σ H Q I h
 refine Compare_chain (CW (ha a7 s σ H _ I h) λv s1 ⟨x,H1,I1,r1,q1⟩=>chain_link (CW (hb a7 s1 σ H1 _ I1 q1) λu s2 ⟨y,H2,I2,r2,q2⟩ =>
  CW (ho a7 s2 σ H2 x y v u _ I2 r1 r2 q2) λd s3 ⟨z,H3,I3,r3,k,e,q3⟩=>?_)) hm
 subst e
 cases r3
 refine wpAny_truthy_bool ?_
 cases k with
 | false=>exact ite_ff ⟨.bl false,H3,I3,rfl,q3⟩
 | true=>exact ite_tt (chain_last (CW (hc a7 s3 σ H3 _ I3 q3) λw' s4 ⟨z',H4,I4,r4,q4⟩=>si a7 s4 σ H4 y z' u w' Q I4 r2 r4 q4))
theorem Ou {op wC:CmpOp} {r r':R2} (ho:HN X (compareOp op) r) (si:HN X (compareOp wC) r') (ha:PE X a ta) (hb:PE X b tb) (hc:PE X c tc)
  (hm:lastMarks [op,wC] [b,c]=false:=by with_unfolding_all rfl):PT X (.Compare a [op,wC] [b,c] pos) (ZW (Wv r r' ta tb tc)):=by
 intro a7 s σ H Q I h
 refine isTrue_chain (CW (ha a7 s σ H _ I h) λv s1 ⟨x,H1,I1,r1,q1⟩=>test_link (CW (hb a7 s1 σ H1 _ I1 q1) λu s2 ⟨y,H2,I2,r2,q2⟩ =>
  CW (ho a7 s2 σ H2 x y v u _ I2 r1 r2 q2) λd s3 ⟨z,H3,I3,r3,k,e,q3⟩=>?_)) hm
 subst e
 cases r3
 refine wpAny_truthy_bool ?_
 cases k with
 | false =>
  obtain⟨k',e',q'⟩:=q3
  cases e'
  exact ite_ff ⟨H3,I3,q'⟩
 | true =>
  refine ite_tt (test_last (CW (hc a7 s3 σ H3 _ I3 q3) λw' s4 ⟨z',H4,I4,r4,q4⟩=>CW (si a7 s4 σ H4 y z' u w' _ I4 r2 r4 q4) λd' s5 f7=>?_))
  obtain⟨z2,H5,I5,r5,k2,e2,q5⟩:=f7
  subst e2
  cases r5
  exact wpAny_truthy_bool ⟨H5,I5,q5⟩
noncomputable def jD (K:W.Frag) (x:V) (H:Hp) (k:Bool):Prop :=
 match x with
 | .non=>k=false
 | .bl b=>k=b
 | .int i=>k=(i != 0)
 | .str y=>y.length<=sizeLine/\k=((y.length:Int) != 0)
 | .byt y=>y.size<=sizeLine/\k=((y.size:Int) != 0)
 | .ref p=>(∃ xs,Dg K H p xs/\k = !xs.isEmpty) \/ (∃ xs,Ga K H p xs/\k = !xs.isEmpty) \/ ∃ a8,H p=some (.dK a8)/\k = !a8.isEmpty
 | _=>False
theorem Q6 {κ:Type} {a8:List (κ × V)} {vs:List (κ × Value)} (r:KV a8 vs):(!vs.isEmpty) = !a8.isEmpty:=by
 cases r <;> rfl
theorem K_ {xs:List V} {its:List Value} (r:Vals xs its):(!its.toArray.isEmpty) = !xs.isEmpty:=by
 cases r <;> simp
theorem Jw:(sizeLine:Nat)<2 ^ 63:=by rw[sizeLine_eq];decide
theorem cL:qg X (λx H Q=>∃ k,jD X.K x H k/\Q k H):=by
 intro a7 s σ H x v Q I rx h
 obtain⟨k,e,q⟩:=h
 have hl:=Jw
 have hs:sizeLine=16777216:=sizeLine_eq
 cases x with
 | non =>
  cases rx
  have e':k=false:=e
  subst e'
  exact truthy_none ⟨H,I,q⟩
 | bl b =>
  cases rx
  have e':k=b:=e
  subst e'
  exact wpAny_truthy_bool ⟨H,I,q⟩
 | int i =>
  obtain⟨t,rfl⟩:=rx
  have e':k=(i != 0):=e
  subst e'
  exact PySem.P.truthy_int ⟨H,I,q⟩
 | str y =>
  obtain⟨t,rfl⟩:=rx
  obtain⟨hy,e'⟩:y.length<=sizeLine/\k=((y.length:Int) != 0):=e
  subst e'
  exact PySem.P.truthy_str (by omega) ⟨H,I.tok _,q⟩
 | byt y =>
  obtain⟨t,rfl⟩:=rx
  obtain⟨hy,e'⟩:y.size<=sizeLine/\k=((y.size:Int) != 0):=e
  subst e'
  exact W.truthy_bytes (by omega) ⟨H,I.tok _,q⟩
 | ref p =>
  cases rx
  have e':(∃ xs,Dg X.K H p xs/\k = !xs.isEmpty) \/ (∃ xs,Ga X.K H p xs/\k = !xs.isEmpty) \/ ∃ a8,H p=some (.dK a8)/\k = !a8.isEmpty:=e
  rcases e' with⟨xs,hx,e'⟩ | ⟨xs,hx,e'⟩ | ⟨a8,hx,e'⟩
  ·subst e'
   obtain⟨its,r,pl,hz⟩:=I.list hx
   have hlen:=r.length
   exact wpAny_truthy_list pl.isList (by simp only[List.size_toArray];omega) ⟨H,I.tok _,by rw[K_ r];exact q⟩
  ·subst e'
   obtain⟨its,r,pl,hz⟩:=I.tuple hx
   have hlen:=r.length
   exact truthy_tuple pl (by simp only[List.size_toArray];omega) ⟨H,I.tok _,by rw[K_ r];exact q⟩
  ·subst e'
   obtain⟨hz,hS,vs,r,m⟩:a8.length<=sizeLine/\(p == sysModules)=false/\∃ vs,KV a8 vs/\s.heap.DictOf (DR X.prog X.w) p vs:=I.hok p _ hx
   have hlen:a8.length=vs.length:=Paired.length r
   exact wpAny_truthy_dict hS m (by omega) ⟨H,I.tok _,by rw[Q6 r];exact q⟩
 | _=>exact (show False from e).elim
theorem Pz (ha:PE X a ta) (he:∀ mh,isTrue a X.env mh=(do let v <-mh;standAt a.pos;holding [v] (truthy v))) :
  PT X a (λσ H Q=>ta σ H λx H'=>∃ k,jD X.K x H' k/\Q k H'):=by
 intro a7 s σ H Q I h
 exact isTrue_plain (CW (ha a7 s σ H _ I h) λv s1 ⟨x,H1,I1,r1,q1⟩=>cL a7 s1 σ H1 x v Q I1 r1 q1) (he _)
theorem CZ:HN X (binaryOp .Add) (λx y H Q=>∃ i j,x=.str i/\y=.str j/\i.length+j.length<=sizeLine/\Q (.str (i++j)) H):=by
 intro a7 s σ H x y v u Q I rx ry h
 obtain⟨i,j,rfl,rfl,hz,q⟩:=h
 obtain⟨t,rfl⟩:=rx
 obtain⟨t',rfl⟩:=ry
 exact add_str (λt' tk=>⟨.str (i++j),H,I.tok _,⟨_,rfl⟩,q⟩) hz
theorem vals1 {x:V} {us:List Value} (r:Vals [x] us):∃ u,us=[u]/\RelV x u:=by
 cases r with
 | cons r1 r2=>cases r2;exact⟨_,rfl,r1⟩
end
structure Qh (h:Heap) (x dx C:Addr) (mA:Str->Option Value):Prop where
 obj:h.get? x=some (W.instObj C dx)
 ns:h.Ns1 dx mA
 ne:dx ≠ x
theorem MT {h:Heap} {dx:Addr} {mA:Str->Option Value} (n:h.Ns1 dx mA):∃ od,h.get? dx=some od/\∀ name,W.lookIn name od=some (mA name):=by
 obtain⟨o,es,ep,ho,hd,hk,_,hm⟩:=n
 refine⟨o,ho,λname=>?_⟩
 have e:=hm name
 unfold nsFind findBy at e
 rw[<-Array.find?_toList] at e
 unfold W.lookIn
 rw[hd]
 dsimp only
 split
 ·rename_i y q
  rw[q] at e
  exact congrArg some e
 ·rename_i q
  rw[q] at e
  have a:es.toList.any (·.refKey)=false:=by
   rw[List.any_eq_false]
   intro y hy
   obtain⟨z,t,hkey⟩:=hk y (Array.mem_toList_iff.mp hy)
   simp[DictEntry.refKey,hkey]
  have a':¬ es.toList.any (·.refKey)=true:=by rw[a];exact cy
  rw[if_neg a']
  exact congrArg some e
theorem Qh.look {h:Heap} {x dx C:Addr} {mA:Str->Option Value} (I:Qh h x dx C mA):∃ od,W.InstAt h x (W.instObj C dx) C (some od)/\∀ name,W.lookIn name od=some (mA name) :=
 let ⟨od,ho,hl⟩:=MT I.ns
 ⟨od,⟨I.obj,rfl,rfl,ho⟩,hl⟩
section
variable {prog:Program} {w:World} {A:Around} {E:vSP} {s:Shared} {K:W.Frag} {x dx C f:Addr} {mA:Str->Option Value} {name:Str} {v:Value}
theorem Xq {pj:Bool} {Q:vSP} (X:K.In s.heap) (I:Qh s.heap x dx C mA) (hg:W.plainGet K C name=true) (hh:W.hasDictIn K C=true)
  (ha:W.findIn K (.ref C) name=some none) (hv:mA name=some v) (hv':W.handedIn v=true) (h:Q v { s with toks:=s.toks+1 }) :
  wpAny (model prog w) A (getAttr (.ref x) name pj) Q E s:=by
 obtain⟨od,J,hl⟩:=I.look
 exact W.get_value X J (W.plainGet_of hg).1 (W.findObj_own hh ha rfl (by rw[hl,hv])) hv' h
theorem Vi {pl:Sem Bool} {Q:Value × List Value->Shared->Prop} (X:K.In s.heap) (I:Qh s.heap x dx C mA) (hg:W.plainGet K C name=true)
  (hf:W.findIn K (.ref C) name=some (some (.ref f))) (ht:W.isFn K (.ref f)=true) (hv:mA name=none) (h:Q (.ref f,[.ref x]) s) :
  wpAny (model prog w) A (getMethod (.ref x) name pl) Q E s:=by
 obtain⟨od,J,hl⟩:=I.look
 exact W.method_fn X J (W.plainGet_of hg).1 (W.plainGet_of hg).2 hf (beq_iff_eq.mp ht) (by show (W.lookIn name od).map (·.isSome)=some false;rw[hl,hv];rfl) h
theorem Xu {ns:List Str} {Q:Unit->Shared->Prop} (X:K.In s.heap) (I:Qh s.heap x dx C mA)
  (hs:W.findIn K (.ref C) "__setattr__" = some (some (.builtin "object.__setattr__"))) (hp:W.plainOver K C=true) (ht:W.takerIn K C name=some none) (hh:W.hasDictIn K C=true)
  (hw:PySem.Within mA ns) (hsz:ns.length<=sizeLine)
  (h:∀ h',Qh h' x dx C (λy=>if y=name then some v else mA y)->Heap.SameBut dx s.heap h'->Q () { s with heap:=h',toks:=s.toks+2 }) :
  wpAny (model prog w) A (setAttr (.ref x) name v) Q E s:=by
 obtain⟨od,J,hl⟩:=I.look
 refine W.set_plain X J hs (W.osa_open (s:={ s with toks:=s.toks+1 }) (r:=none) X J hp ht λb=>?_)
 obtain⟨cd,hc,Fs⟩:=W.any_some hh
 have hx:s.heap.get? x=some ⟨.ref C,some dx,.plain,#[]⟩:=I.obj
 refine wpAny_bind (wpAny_pure (wpAny_bind (wpAny_bind (wpAny_loadPart hx (wpAny_bind (W.Looks.here (s:={ s with toks:=s.toks+1 }) (W.looks_clsIn X hc) ?_))))))
 rw[Fs]
 refine wpAny_pure (a:=some dx) (wpAny_bind (wpAny_pure (wpAny_bind ?_)))
 refine wpAny_nsSet1 (s:={ s with toks:=s.toks+1 }) I.ns λh' As hs2=>?_
 obtain⟨oD,MV,VQ,DT,Db,sK⟩:=As.count (PySem.Within.cons name v hw)
 refine wpAny_bind (wpAny_lookBehind DT (by rw[Db];exact pastItsLine_dict (bp sK (by rw[aS];omega))) ?_)
 exact wpAny_pure (h _ ⟨(hs2.2 _ (Ne.symm I.ne)).trans I.obj,As,I.ne⟩ hs2)
theorem Wr {R:Result->Shared->Prop} {vs:List Value} {kw:List (Str × Value)} (X:K.In s.heap) (hm:W.makesIn K C=true)
  (hi:W.findIn K (.ref C) "__init__" = some (some (.ref f))) (hf:W.typeIn K (.ref f)=some (.type "function"))
  (h:codeAny (model prog w) (A.under (.builtin "type.__call__" ⟨.ref C::vs,kw⟩)) (.call (.ref f) ⟨.ref (s.heap.objs.size+1)::vs,kw⟩) (W.InitBack (s.heap.objs.size+1) R)
   { s with heap:=(s.heap.push W.emptyDict).push (W.instObj C s.heap.objs.size) }) :
  codeAny (model prog w) A (.call (.ref C) ⟨vs,kw⟩) R s:=by
 obtain⟨hh,g,d,t,os⟩:=s
 exact W.make_core (W.makes_of X hm) (W.looks_findIn X hi) (λself=>W.bind_fn X self hf) (.inl rfl) h
end
noncomputable def Bl (f:Str) (v:V):List (Str × V)->List (Str × V)
 | []=>[(f,v)]
 | (g,x)::r=>if g=f then (g,v)::r else (g,x)::Bl f v r
theorem Am (f g:Str) (v:V):∀ fs:List (Str × V),(Bl f v fs).lookup g=if g=f then some v else fs.lookup g
 | []=>by
  show List.lookup g [(f,v)]=_
  by_cases h:g=f
  ·have hb:(g == f)=true:=beq_iff_eq.mpr h
   simp only[List.lookup,hb,if_pos h]
  ·have hb:(g == f)=false:=beq_eq_false_iff_ne.mpr h
   simp only[List.lookup,hb,if_neg h]
 | (k,x)::r=>by
  have ih:=Am f g v r
  rw[show Bl f v ((k,x)::r)=(if k=f then (k,v)::r else (k,x)::Bl f v r) from rfl]
  by_cases hk:k=f
  ·rw[if_pos hk]
   by_cases h:g=k
   ·have hb:(g == k)=true:=beq_iff_eq.mpr h
    simp only[List.lookup,hb,if_pos (h.trans hk)]
   ·have hb:(g == k)=false:=beq_eq_false_iff_ne.mpr h
    simp only[List.lookup,hb,if_neg (λe:g=f=>h (e.trans hk.symm))]
  ·rw[if_neg hk]
   by_cases h:g=k
   ·have hb:(g == k)=true:=beq_iff_eq.mpr h
    simp only[List.lookup,hb,if_neg (λe:g=f=>hk (h.symm.trans e))]
   ·have hb:(g == k)=false:=beq_eq_false_iff_ne.mpr h
    simp only[List.lookup,hb]
    exact ih
theorem Jr (f:Str) (v:V):∀ fs:List (Str × V),f∈(Bl f v fs).map (·.1)/\∀ g,g∈fs.map (·.1)->g∈(Bl f v fs).map (·.1)
 | []=>⟨by simp[Bl],λg h=>by simp at h⟩
 | (k,x)::r=>by
  obtain⟨i1,i2⟩:=Jr f v r
  rw[show Bl f v ((k,x)::r)=(if k=f then (k,v)::r else (k,x)::Bl f v r) from rfl]
  by_cases hk:k=f
  ·rw[if_pos hk]
   subst hk
   exact⟨by simp,λg h=>by simpa using h⟩
  ·rw[if_neg hk]
   refine⟨?_,λg h=>?_⟩
   ·rw[cS]
    exact aI _ i1
   ·rw[cS] at h |-
    rcases bq.mp h with e | e
    ·exact bq.mpr (.inl e)
    ·exact aI _ (i2 g e)
theorem Jz (f:Str) (v:V):∀ fs:List (Str × V),(Bl f v fs).length<=fs.length+1
 | []=>by simp[Bl]
 | (k,x)::r=>by
  have ih:=Jz f v r
  rw[show Bl f v ((k,x)::r)=(if k=f then (k,v)::r else (k,x)::Bl f v r) from rfl]
  by_cases hk:k=f
  ·rw[if_pos hk,aS,aS];omega
  ·rw[if_neg hk,aS,aS];omega
theorem Gr.some_of {v:V} {o:Option Value} (r:Gr (some v) o):∃ u,o=some u/\RelV v u:=by
 cases o with
 | none=>exact (show False from r).elim
 | some u=>exact⟨u,rfl,r⟩
theorem Gr.none_of {o:Option Value} (r:Gr none o):o=none:=by
 cases o with
 | none=>rfl
 | some u=>exact (show False from r).elim
theorem Ly {v:V} {u:Value} (r:RelV v u):W.handedIn u=true:=by
 cases v with
 | non=>cases (show u=Value.none from r);rfl
 | bl b=>cases (show u=Value.bool b from r);rfl
 | int i=>obtain⟨t,e⟩:=(show ∃ t,u=Value.int i t from r);cases e;rfl
 | str x=>obtain⟨t,e⟩:=(show ∃ t,u=Value.str x t from r);cases e;rfl
 | byt b=>obtain⟨t,e⟩:=(show ∃ t,u=Value.bytes b t from r);cases e;rfl
 | flt b=>obtain⟨t,e⟩:=(show ∃ t,u=Value.float b t from r);cases e;rfl
 | ref a=>cases (show u=Value.ref a from r);rfl
 | ty n=>cases (show u=Value.type n from r);rfl
section
variable {P:Program} {w:World} {H H':Hp} {h h':Heap} {a C dx:Addr} {fs SZ:List (Str × V)}
theorem KJ (hok:Fd P w H h) (e:H a=some (.ins C dx fs)):∃ mA,Qh h a dx C mA/\(∀ f,Gr (fs.lookup f) (mA f))/\PySem.Within mA (fs.map (·.1))/\fs.length<=1000/\H dx=some (.own a):=by
 obtain⟨d,z,ne,ob,mA,n,r,q⟩:=(show Bt P w H h a (.ins C dx fs) from hok a _ e)
 exact⟨mA,⟨ob,n,ne⟩,r,q,z,d⟩
end
structure XF (K:W.Frag) (C:Addr):Prop where
 pg:W.plainGet K C Str.empty=true
 hd:W.hasDictIn K C=true
 po:W.plainOver K C=true
 sa:W.findIn K (.ref C) "__setattr__" = some (some (.builtin "object.__setattr__"))
theorem XF.get {K:W.Frag} {C:Addr} (c:XF K C) (f:Str):W.plainGet K C f=true:=c.pg
noncomputable def DP (K:W.Frag) (C:Addr) (f:Str):Prop:=W.findIn K (.ref C) f=some none
theorem DP.taker {K:W.Frag} {C:Addr} {f:Str} (n:DP K C f):W.takerIn K C f=some none:=by
 unfold W.takerIn
 rw[show W.findIn K (.ref C) f=some none from n]
 rfl
structure tW (K:W.Frag) (C:Addr) (f:Str) (v:V) (u:Value):Prop where
 at_:W.findIn K (.ref C) f=some (some u)
 rel:RelV v u
 get:W.specialIn K u "__get__" = some none
 cp:W.copiedNames.contains f=false
structure Meth (K:W.Frag) (C:Addr) (m:Str) (f:Addr):Prop where
 at_:W.findIn K (.ref C) m=some (some (.ref f))
 fn:W.isFn K (.ref f)=true
 kp:W.keepIn K (.ref f)=true
section
variable {X:Cx} {a7:List (Addr × Obj)} {σ:St} {H:Hp} {s:Shared} {a C dx:Addr} {fs:List (Str × V)} {f:Str} {v:V} {A:Around} {E:vSP}
theorem Qj {b:Bool} {Q:vSP} (I:Inv X a7 σ H s) (e:H a=some (.ins C dx fs)) (c:XF X.K C) (n:DP X.K C f) (l:fs.lookup f=some v)
  (h:∀ u s',Inv X a7 σ H s'->RelV v u->Q u s'):wpAny (model X.prog X.w) A (getAttr (.ref a) f b) Q E s:=by
 obtain⟨mA,O,r,_,_,_⟩:=KJ I.hok e
 obtain⟨u,hu,ru⟩:=Gr.some_of (v:=v) (o:=mA f) (by rw[<-l];exact r f)
 exact Xq I.Gv O (c.get f) c.hd n hu (Ly ru) (h u _ (I.tok _) ru)
theorem Q0 {m:Str} {g:Addr} {pl:Sem Bool} {Q:Value × List Value->Shared->Prop} (I:Inv X a7 σ H s) (e:H a=some (.ins C dx fs)) (c:XF X.K C) (k:Meth X.K C m g) (l:fs.lookup m=none)
  (h:Q (.ref g,[.ref a]) s):wpAny (model X.prog X.w) A (getMethod (.ref a) m pl) Q E s:=by
 obtain⟨mA,O,r,_,_,_⟩:=KJ I.hok e
 have hn:mA m=none:=Gr.none_of (by rw[<-l];exact r m)
 exact Vi I.Gv O (c.get m) k.at_ k.fn hn h
theorem RW {y:V} {u:Value} {Q:Unit->Shared->Prop} (I:Inv X a7 σ H s) (e:H a=some (.ins C dx fs)) (c:XF X.K C) (n:DP X.K C f) (hl:fs.length<1000) (ry:RelV y u)
  (h:∀ s',Inv X a7 σ (upd H a (.ins C dx (Bl f y fs))) s'->Q () s'):wpAny (model X.prog X.w) A (setAttr (.ref a) f u) Q E s:=by
 obtain⟨mA,O,r,wi,_,ho⟩:=KJ I.hok e
 have hz:(fs.map (·.1)).length<=sizeLine:=by rw[ae,sizeLine_eq];omega
 refine Xu I.Gv O c.sa c.po n.taker c.hd wi hz λh' O' sb=>h _ ?_
 have hd:∃ o,h'.get? dx=some o:=let ⟨o,_,_,e',_⟩:=O'.ns;⟨o,e'⟩
 refine I.write (x:=a) (e:=dx) (by rw[e];exact True.intro) (.inr ho) (λb q hb z=>(sb.2 b hb).trans z) hd ?_
 refine⟨by rw[Ao O.ne];exact ho,?_,O.ne,O'.obj,_,O'.ns,λg=>?_,λg hg=>?_⟩
 ·have:=Jz f y fs;omega
 ·show Gr ((Bl f y fs).lookup g) (if g=f then some u else mA g)
  rw[Am]
  by_cases q:g=f
  ·rw[if_pos q,if_pos q];exact ry
  ·rw[if_neg q,if_neg q];exact r g
 ·by_cases q:g=f
  ·rw[q];exact (Jr f y fs).1
  ·refine (Jr f y fs).2 g (wi g λz=>hg ?_)
   show (if g=f then some u else mA g)=none
   rw[if_neg q];exact z
theorem Inv.made (I:Inv X a7 σ H s):Inv X a7 σ (upd (upd H s.heap.objs.size (.own (s.heap.objs.size+1))) (s.heap.objs.size+1) (.ins C s.heap.objs.size []))
  { s with heap:=(s.heap.push W.emptyDict).push (W.instObj C s.heap.objs.size) }:=by
 have e1:(s.heap.push W.emptyDict).get? s.heap.objs.size=some W.emptyDict:=Heap.get?_push_size s.heap rfl
 have e2:((s.heap.push W.emptyDict).push (W.instObj C s.heap.objs.size)).get? (s.heap.objs.size+1)=some (W.instObj C s.heap.objs.size):=by
  have:=Heap.get?_push_size (s.heap.push W.emptyDict) (o:=W.instObj C s.heap.objs.size) rfl
  rwa [Heap.size_push] at this
 have e3:(s.heap.push W.emptyDict).Ns s.heap.objs.size (λ_=>none):=⟨W.emptyDict,#[],_,e1,rfl,(λe he=>absurd he (by simp)),λ_=>rfl⟩
 have I1:=I.laid (a:=s.heap.objs.size) (o:=.own (s.heap.objs.size+1)) (h':=s.heap.push W.emptyDict) (t':=s.toks) (λb u q=>Heap.get?_push_of_some _ q) (ar _) ⟨_,e1⟩
 refine I1.laid (a:=s.heap.objs.size+1) (o:=.ins C s.heap.objs.size []) (t':=s.toks) (λb u q=>Heap.get?_push_of_some _ q) (kx (Heap.size_push _ _)) ?_
 have ne:s.heap.objs.size ≠ s.heap.objs.size+1:=ci (jp _)
 refine⟨by rw[Ao ne,Af],dc _,ne,e2,λ_=>none,(Heap.Ns1.of_empty e3).at λo q=>Heap.get?_push_of_some _ q,λ_=>True.intro,λy hy=>absurd rfl hy⟩
theorem R7 {prog:Program} {w:World} {env:Env} {e:Expr} {f:Str} {pos:Pos} {s:Shared} {Q:vSP} (hb:attributeBase e f env (eval e env)=eval e env)
  (h:wpAny (model prog w) A (eval e env) (λo s₁=>wpAny (model prog w) A (getAttr o f true) Q E s₁) E s):wpAny (model prog w) A (eval (.Attribute e f pos) env) Q E s :=
 Attribute_any_ h (by rw[arm_eval_Attribute,hb])
end
noncomputable def gD (K:W.Frag) (ta:TE) (f:Str):TE:=λσ H Q=>ta σ H λx H1=>∃ a C dx fs v,x=.ref a/\H1 a=some (.ins C dx fs)/\XF K C/\DP K C f/\fs.lookup f=some v/\Q v H1
noncomputable def nY (K:W.Frag) (ta tv:TE) (f:Str):TS:=λD σ H=>tv σ H λy H1=>ta σ H1 λx H2=>∃ a C dx fs,x=.ref a/\H2 a=some (.ins C dx fs)/\XF K C/\DP K C f/\fs.length<1000 /\
 D.nx σ (upd H2 a (.ins C dx (Bl f y fs)))
section
variable {X:Cx} {o e value:Expr} {f:Str} {pos i3 oi:Pos} {ta tv:TE}
theorem Ht (he:PE X e ta) (hb:attributeBase e f X.env (eval e X.env)=eval e X.env):PE X (.Attribute e f pos) (gD X.K ta f):=by
 intro a7 s σ H Q I h
 refine R7 hb (CW (he a7 s σ H _ I h) λu s1 f7=>?_)
 obtain⟨x,H1,I1,rx,a,C,dx,fs,v,ex,ea,c,n,l,q⟩:=f7
 subst ex
 obtain rfl:u=Value.ref a:=rx
 exact Qj I1 ea c n l λu' s2 I2 ru=>⟨v,H1,I2,ru,q⟩
theorem Fw (ha:PE X o ta) (hv:PE X value tv) (hs:swapsWith value (some (.Attribute o f i3)) pos.line X.env=pure false):PS X (.Assign [.Attribute o f i3] value pos) (nY X.K ta tv f):=by
 intro a7 s σ H D I h
 refine plainObj_wpAny_Assign_Attribute (CW (hv a7 s σ H _ I h) λu s1 ⟨y,H1,I1,ry,q⟩=>CW (ha a7 s1 σ H1 _ I1 q) λov s2 ⟨x,H2,I2,rx,a,C,dx,fs,ex,ea,c,n,l,q2⟩=>?_) hs
 subst ex
 obtain rfl:ov=Value.ref a:=rx
 exact RW I2 ea c n l ry λs3 I3=>⟨σ,_,I3,q2⟩
end
section
variable {X:Cx} {a7:List (Addr × Obj)} {σ:St} {H:Hp} {s:Shared} {A:Around} {E:vSP} {Q:vSP} {c:Value} {b:Bool}
inductive Gu (K:W.Frag) (H:Hp):V->Value->Prop where
 | non:Gu K H .non (.type "NoneType")
 | bl (x:Bool):Gu K H (.bl x) (.type "bool")
 | int (i:Int):Gu K H (.int i) (.type "int")
 | str (x:Str):Gu K H (.str x) (.type "str")
 | flt (x:UInt64):Gu K H (.flt x) (.type "float")
 | lst {a:Addr} {xs:List V} (e:H a=some (.lst xs)):Gu K H (.ref a) (.type "list")
 | frz {a:Addr} {o:Obj} {xs:List V} (e:H a=some (.frz o (.lst xs))):Gu K H (.ref a) (.type "list")
 | tup {a:Addr} {xs:List V} (e:H a=some (.tup xs)):Gu K H (.ref a) (.type "tuple")
 | dK {a:Addr} {a8:List (Key × V)} (e:H a=some (.dK a8)):Gu K H (.ref a) (.type "dict")
 | dT {a:Addr} {a8:List (List Key × V)} (e:H a=some (.dT a8)):Gu K H (.ref a) (.type "dict")
 | ins {a C dx:Addr} {fs:List (Str × V)} (e:H a=some (.ins C dx fs)) (cl:XF K C) (ha:W.findIn K (.ref C) "__class__" = some (some (.builtin "object.__class__")))
   (hn:W.specialIn K (.builtin "object.__class__") "__get__" = some (some (.builtin "getset_descriptor.__get__"))) (AM:W.takesIn K (.builtin "object.__class__")=some true)
   (hm:W.mroIn K C (.type "object")=some true):Gu K H (.ref a) (.ref C)
theorem U6 {x:V} {u t:Value} (I:Inv X a7 σ H s) (rx:RelV x u) (ty:Gu X.K H x t) (e:W.kitOne X.K t c=some b) (h:∀ tk,Q (.bool b) { s with toks:=tk }) :
  wpAny (model X.prog X.w) A (call (.builtin "isinstance") [u,c]) Q E s:=by
 cases ty with
 | non=>cases (show u=Value.none from rx);exact W.kia_one W.kitx_none I.Gv True.intro e (λz=>nomatch z) h
 | bl y=>cases (show u=Value.bool y from rx);exact W.kia_one W.kitx_bool I.Gv True.intro e (λz=>nomatch z) h
 | int i=>obtain⟨t,q⟩:=(show ∃ t,u=Value.int i t from rx);cases q;exact W.kia_one W.kitx_int I.Gv True.intro e (λz=>nomatch z) h
 | str y=>obtain⟨t,q⟩:=(show ∃ t,u=Value.str y t from rx);cases q;exact W.kia_one W.kitx_str I.Gv True.intro e (λz=>nomatch z) h
 | flt y=>obtain⟨t,q⟩:=(show ∃ t,u=Value.float y t from rx);cases q;exact W.kia_one W.kitx_float I.Gv True.intro e (λz=>nomatch z) h
 | @lst a xs ea =>
  cases (show u=Value.ref a from rx)
  obtain⟨_,_,n,_,h1⟩:=(show Bt X.prog X.w H s.heap a (.lst xs) from I.hok a _ ea)
  exact W.kia_one W.kitx_list I.Gv ⟨_,h1,rfl⟩ e (λz=>nomatch z) h
 | @frz a ob xs ea =>
  cases (show u=Value.ref a from rx)
  obtain⟨_,_,_,n,_,h1⟩:=(show Bt X.prog X.w H s.heap a (.frz ob (.lst xs)) from I.hok a _ ea)
  exact W.kia_one W.kitx_list I.Gv ⟨_,h1,rfl⟩ e (λz=>nomatch z) h
 | @tup a xs ea =>
  cases (show u=Value.ref a from rx)
  obtain⟨_,_,_,p⟩:=(show Bt X.prog X.w H s.heap a (.tup xs) from I.hok a _ ea)
  obtain⟨o,h1,h2,_⟩:=p
  exact W.kia_one W.kitx_tuple I.Gv ⟨o,h1,h2⟩ e (λz=>nomatch z) h
 | @dK a a8 ea =>
  cases (show u=Value.ref a from rx)
  obtain⟨_,_,vs,_,p⟩:=(show Bt X.prog X.w H s.heap a (.dK a8) from I.hok a _ ea)
  obtain⟨o,es,ep,h1,h2,_⟩:=p
  exact W.kia_one W.kitx_dict I.Gv ⟨o,h1,h2.1⟩ e (λz=>nomatch z) h
 | @dT a a8 ea =>
  cases (show u=Value.ref a from rx)
  obtain⟨_,_,xs,_,o,es,ep,h1,h2,_⟩:=(show Bt X.prog X.w H s.heap a (.dT a8) from I.hok a _ ea)
  exact W.kia_one W.kitx_dict I.Gv ⟨o,h1,h2.1⟩ e (λz=>nomatch z) h
 | @ins a C dx fs ea cl ha hn AM hm =>
  cases (show u=Value.ref a from rx)
  obtain⟨mA,O,_⟩:=KJ I.hok ea
  obtain⟨od,J,_⟩:=O.look
  exact W.kia_one (W.kitx_own (cl.get _) cl.hd ha hn AM hm) I.Gv J e (λz=>nomatch z) h
end
structure Ba (k:Nat) (A:Around):Prop where
 hd:A.handled=none
 dp:A.depth+3 * k+5<recursionLimit
 un:A.units+16 * k+200<cLine
theorem Ba.mono {j k:Nat} {A:Around} (r:Ba k A) (h:j<=k):Ba j A:=⟨r.hd,by have:=r.dp;omega,by have:=r.un;omega⟩
theorem ad {k j:Nat} {A:Around} (r:Ba k A) (h:j<=k:=by decide):Ba j A:=r.mono h
theorem Ba.deeper {k:Nat} {A:Around} (r:Ba (k+1) A) (env:Env):Ba k (A.deeper env) :=
 ⟨r.hd,by have:=r.dp;show A.depth+1+3 * k+5<_;omega,by have:=r.un;show A.units+3+16 * k+200<_;omega⟩
theorem RG {A:Around} {C:Addr} {us:List Value} {kw:List (Str × Value)}:(A.under (.builtin "type.__call__" ⟨.ref C::us,kw⟩)).depth=A.depth+1:=by
 first | rfl | simp[Around.under,Code.weight,Code.isCreation,Code.isGuard,Code.isCaller,Code.frames,Code.isFrame,guardIds]
theorem Qk {A:Around} {C:Addr} {us:List Value} {kw:List (Str × Value)}:(A.under (.builtin "type.__call__" ⟨.ref C::us,kw⟩)).units=A.units+1:=by
 first | rfl | simp[Around.under,Code.cUnits,Code.frames,Code.isFrame]
theorem Ba.make {k:Nat} {A:Around} (r:Ba (k+1) A) (C:Addr) (us:List Value) (kw:List (Str × Value)):Ba k (A.under (.builtin "type.__call__" ⟨.ref C::us,kw⟩)) :=
 ⟨r.hd,by have:=r.dp;rw[RG];omega,by have:=r.un;rw[Qk];omega⟩
theorem Ba.depth {k:Nat} {A:Around} (r:Ba k A):A.depth<recursionLimit:=by have:=r.dp;omega
theorem Ba.units {k:Nat} {A:Around} (r:Ba k A):A.units+64<cLine:=by have:=r.un;omega
noncomputable def jX:TA:=λ_ H Q=>Q [] H
noncomputable def Zo (ta:TE) (tr:TA):TA:=λσ H Q=>ta σ H λx H1=>tr σ H1 λxs H2=>Q (x::xs) H2
section
variable {X:Cx} {e:Expr} {es:List Expr} {te:TE} {t:TA} {pos:Pos}
theorem Ab:PA X [] jX:=λ_ _ _ _ H Q I h=>Calls.spliced_nil ⟨[],H,I,.nil,h⟩
theorem Aa (ha:PE X e te) (hr:PA X es t) (hs:starEach (e::es) X.env=(false,eval e X.env)::starEach es X.env:=by rfl):PA X (e::es) (Zo te t):=by
 intro pos a7 s σ H Q I h
 rw[hs]
 show wpAny _ _ (spliced ((false,eval e X.env)::backTo pos (starEach es X.env))) _ _ s
 refine Calls.spliced_cons (CW (ha a7 s σ H _ I h) λu s1 f7=>?_)
 obtain⟨x,H1,I1,r1,q1⟩:=f7
 exact CW (hr pos a7 s1 σ H1 _ I1 q1) λus s2 ⟨xs,H2,I2,r2,q2⟩=>⟨x::xs,H2,I2,.cons r1 r2,q2⟩
noncomputable def pK (t:TA):TE:=λσ H Q=>t σ H λxs H1=>xs.length<=sizeLine/\∀ p,H1 p=none->Q (.ref p) (upd H1 p (.tup xs))
noncomputable def pX (t:TA):TE:=λσ H Q=>t σ H λxs H1=>xs.length<=sizeLine/\∀ p,H1 p=none->Q (.ref p) (upd H1 p (.lst xs))
theorem DW {x1} (h:PA X es t):PE X (.Tuple es x1 pos) (pK t):=by
 intro a7 s σ H Q I hq
 refine wpAny_Tuple_spliced (CW (h pos a7 s σ H _ I hq) λus s1 ⟨xs,H1,I1,r,z,q⟩=>⟨by rw[<-r.length];exact z,?_⟩)
 have hf:H1 s1.heap.objs.size=none:=I1.hok.fresh (ar _)
 refine⟨.ref s1.heap.objs.size,upd H1 s1.heap.objs.size (.tup xs),I1.laid (t':=s1.toks) (λb u e=>Heap.get?_push_of_some _ e) (ar _) ?_,rfl,q _ hf⟩
 exact⟨z,us,r,⟨_,Heap.get?_push_size _ rfl,rfl,_,rfl⟩⟩
theorem Bo (h:PA X es t):PE X (.List es pos) (pX t):=by
 intro a7 s σ H Q I hq
 refine wpAny_List_spliced (CW (h pos a7 s σ H _ I hq) λus s1 ⟨xs,H1,I1,r,z,q⟩=>⟨by rw[<-r.length];exact z,?_⟩)
 have hf:H1 s1.heap.objs.size=none:=I1.hok.fresh (ar _)
 refine⟨.ref s1.heap.objs.size,upd H1 s1.heap.objs.size (.lst xs),I1.laid (t':=s1.toks) (λb u e=>Heap.get?_push_of_some _ e) (ar _) ?_,rfl,q _ hf⟩
 exact⟨z,us,0,r,Heap.get?_push_size _ rfl⟩
end
noncomputable abbrev Sp:=List V->Hp->VK->XK->Prop
noncomputable abbrev QZ:=List Env->Hp->Shared->XK->Value->Shared->Prop
structure Np (P:Program) (w:World) (K:W.Frag) (mg:Str->Option Value) (base:Heap) (A:Around) (outer:List Env) (s:Shared) (H:Hp):Prop where
 frames:A.frames=some outer
 mod:Mod K mg base
 bs:∀ b o,base.get? b=some o->s.heap.get? b=some o/\H b=none
 bsz:base.objs.size<=s.heap.objs.size
 I_:s.heap.FunFrames base outer
 frf:∀ b∈frs outer,H b=none
 hok:Fd P w H s.heap
 bare:AllBare s.gens
noncomputable def CE (outer:List Env) (P:Program) (w:World) (H:Hp) (s:Shared) (Q:VK) (u:Value) (s':Shared):Prop :=
 ∃ v H',s'.os=s.os/\AllBare s'.gens/\Un (frs outer) [] H H' s.heap s'.heap/\Fd P w H' s'.heap/\RelV v u/\Q v H'
noncomputable def CR (CX:QZ) (outer:List Env) (P:Program) (w:World) (H:Hp) (s:Shared) (Q:VK) (E:XK) (r:Result) (s':Shared):Prop :=
 match r with
 | .ok (.ret u)=>CE outer P w H s Q u s'
 | .ok _=>False
 | .error e=>CX outer H s E e s'
structure A_ (P:Program) (w:World) (K:W.Frag) (mg:Str->Option Value) (base:Heap) (CX:QZ) (k:Nat) (f:Addr) (fd:FuncData) (ps:List Str) (sp:Sp):Prop where
 len:∀ vs H Q E,sp vs H Q E->vs.length=ps.length
 run:∀ (A:Around) (outer:List Env) (s:Shared) (H:Hp) (args:Args) (us:List Value) (vs:List V) (Q:VK) (E:XK),Ba k A->Np P w K mg base A outer s H->BindsTo s fd args (ps.zip us)->Vals vs us->sp vs H Q E ->
  codeAny (model P w) A (.call (.ref f) args) (CR CX outer P w H s Q E) s
theorem Np.make {P:Program} {w:World} {K:W.Frag} {mg:Str->Option Value} {base:Heap} {A:Around} {outer:List Env} {s:Shared} {H:Hp} (e:Np P w K mg base A outer s H) (C:Addr) (us:List Value) (kw:List (Str × Value)) :
  Np P w K mg base (A.under (.builtin "type.__call__" ⟨.ref C::us,kw⟩)) outer s H:=⟨by first | exact e.frames | (simpa [Around.under,Code.envs,Code.isFrame,pushEnvs] using e.frames),e.mod,e.bs,e.bsz,e.I_,e.frf,e.hok,e.bare⟩
section
variable {X:Cx} {a7:List (Addr × Obj)} {σ:St} {H:Hp} {s s':Shared}
theorem Inv.env0 (I:Inv X a7 σ H s):Np X.prog X.w X.K X.mg X.base X.A X.stack s H :=
 ⟨I.ok.frames,I.ok.mod,I.bs,bp I.ok.bsz I.sz,I.stack,I.IW,I.hok,I.bare⟩
theorem Inv.after {Q:VK} {u:Value} (I:Inv X a7 σ H s) (h:CE X.stack X.prog X.w H s Q u s'):EP X a7 σ Q u s':=by
 obtain⟨v,H',os,bare,un,hok,r,q⟩:=h
 obtain⟨hh,g,d,t,vD⟩:=s'
 obtain rfl:vD=s.os:=os
 exact⟨v,H',I.call (h':=hh) (g':=g) (d':=d) (t':=t) (ch:=[]) un hok bare (λb z=>absurd z (by simp)),r,q⟩
end
noncomputable def V3 (sp:Sp) (i4:List V) (E:XK) (t:TA):TE:=λσ H Q=>t σ H λvs H1=>sp (vs++i4) H1 Q E
noncomputable def jk (C:Addr) (m:Str) (sp:Sp) (i4:List V) (E:XK) (ta:TE) (t:TA):TE:=λσ H Q=>ta σ H λx H1=>∃ a dx fs,x=.ref a/\H1 a=some (.ins C dx fs)/\fs.lookup m=none /\
 t σ H1 λvs H2=>sp (x::(vs++i4)) H2 Q E
noncomputable def gF (C:Addr) (sp:Sp) (i4:List V) (E:XK) (t:TA):TE:=λσ H Q=>t σ H λvs H1=>∀ x dx,H1 x=none->H1 dx=none->dx ≠ x ->
 sp (.ref x::(vs++i4)) (upd (upd H1 dx (.own x)) x (.ins C dx [])) (λv H2=>v=.non/\Q (.ref x) H2) E
noncomputable def Binds (K:W.Frag) (fd:FuncData) (ps:List Str) (ds:List Value):Prop :=
 ∀ (s:Shared) (us:List Value),K.In s.heap->(us++ds).length=ps.length->BindsTo s fd ⟨us,[]⟩ (ps.zip (us++ds))
theorem Binds.all {K:W.Frag} {fd:FuncData} {ps:List Str} (h:∀ us:List Value,us.length=ps.length->bindArgs fd ⟨us,[]⟩=pure (ps.zip us)):Binds K fd ps []:=λs us _ hl=>by
 rw[eg] at hl |-
 exact .of_eq (h us hl)
noncomputable def Hw (CX:QZ) (X:Cx) (E:XK):Prop:=∀ (a7:List (Addr × Obj)) (σ:St) (H:Hp) (s:Shared) (e:Value) (s':Shared),Inv X a7 σ H s->CX X.stack H s E e s'->X.xe e s'
section
variable {X:Cx} {CX:QZ} {k:Nat} {f C:Addr} {fd:FuncData} {ps:List Str} {sp:Sp} {i4:List V} {ds:List Value} {E:XK} {x m:Str} {p pos li:Pos} {e o:Expr} {es:List Expr} {ta:TE} {t:TA}
theorem VH {a7:List (Addr × Obj)} {σ:St} {H:Hp} {s:Shared} {Q:VK} {us:List Value} {vs:List V} (F:A_ X.prog X.w X.K X.mg X.base CX k f fd ps sp) (hr:Ba k X.A) (hb:Binds X.K fd ps ds) (hd:Vals i4 ds) (hx:Hw CX X E)
  (I:Inv X a7 σ H s) (r:Vals vs us) (h:sp (vs++i4) H Q E):wpAny (model X.prog X.w) X.A (call (.ref f) us) (EP X a7 σ Q) X.xe s:=by
 have r2:Vals (vs++i4) (us++ds):=r.append hd
 have hl:(us++ds).length=ps.length:=by rw[<-r2.length];exact F.len _ _ _ _ h
 refine wpAny_call (codeAny_mono (F.run X.A X.stack s H ⟨us,[]⟩ (us++ds) (vs++i4) Q E hr I.env0 (hb s us I.Gv hl) r2 h) λr s' hq=>?_)
 cases r with
 | error e=>exact hx a7 σ H s e s' I hq
 | ok fl =>
  cases fl with
  | ret u=>exact I.after hq
  | next=>exact False.elim hq
  | brk=>exact False.elim hq
  | cont=>exact False.elim hq
theorem Ai (F:A_ X.prog X.w X.K X.mg X.base CX k f fd ps sp) (hr:Ba k X.A) (hg:Gl X x) (hm:X.mg x=some (.ref f)) (hk:W.keepIn X.K (.ref f)=true) (hb:Binds X.K fd ps ds) (hd:Vals i4 ds) (hx:Hw CX X E)
  (ha:PA X (e::es) t) (qS:(x == ("__debug__" : Str))=false:=by decide) (he:starEach (e::es) X.env=(false,eval e X.env)::starEach es X.env:=by rfl) (hpl:(backTo pos (starEach es X.env)).any (·.1)=false:=by rfl) :
  PE X (.Call (.Name x p) (e::es) [] pos) (V3 sp i4 E t):=by
 intro a7 s σ H Q I h
 refine wpAny_Call_Name_kw (G4 I hg hm ?_ qS)
 refine W.callWith_K (h₀:=X.base) I.ok.mod.kin hk (CW (ha pos a7 s σ H _ I h) λus s1 ⟨vs,H1,I1,r,q⟩=>⟨I1.Gv,?_⟩) he hpl
 exact VH F hr hb hd hx I1 r q
theorem Ox {pl:Sem Bool} (he:PE X o ta) (c:XF X.K C) (hm:Meth X.K C m f) (F:A_ X.prog X.w X.K X.mg X.base CX k f fd ps sp) (hr:Ba k X.A) (hb:Binds X.K fd ps ds) (hd:Vals i4 ds) (hx:Hw CX X E)
  (ht:eval (.Call (.Attribute o m li) [] [] pos) X.env=(do
   let ov <-eval o X.env
   standAt li.atName
   let (f,first) <-holding [ov] (getMethod ov m pl)
   callWith pos f first (backTo pos (starEach [] X.env)) (backToKw pos (keywordEach [] X.env))):=by rfl) :
  PE X (.Call (.Attribute o m li) [] [] pos) (jk C m sp i4 E ta jX):=by
 intro a7 s σ H Q I h
 refine W.methodCall_KW (pl:=pl) (CW (he a7 s σ H _ I h) λu s1 ⟨x,H1,I1,rx,a,dx,fs,ex,ea,l,q⟩=>?_) ht
 subst ex
 obtain rfl:u=Value.ref a:=rx
 refine Q0 I1 ea c hm l ?_
 exact W.callWith_K0 (first:=[.ref a]) I1.Gv hm.kp (VH (us:=[.ref a]) (vs:=[.ref a]) F hr hb hd hx I1 (.cons rfl .nil) q)
structure Mk (K:W.Frag) (C f:Addr):Prop where
 makes:W.makesIn K C=true
 init:W.findIn K (.ref C) "__init__" = some (some (.ref f))
 fn:W.isFn K (.ref f)=true
 kp:W.keepIn K (.ref C)=true
theorem Vq {a7:List (Addr × Obj)} {σ:St} {H:Hp} {s:Shared} {Q:VK} {us:List Value} {vs:List V} (M:Mk X.K C f) (F:A_ X.prog X.w X.K X.mg X.base CX k f fd ps sp) (hr:Ba (k+1) X.A) (hb:Binds X.K fd ps ds) (hd:Vals i4 ds)
  (hx:Hw CX X E) (I:Inv X a7 σ H s) (r:Vals vs us)
  (h:∀ x dx,H x=none->H dx=none->dx ≠ x->sp (.ref x::(vs++i4)) (upd (upd H dx (.own x)) x (.ins C dx [])) (λv H2=>v=.non/\Q (.ref x) H2) E) :
  wpAny (model X.prog X.w) X.A (call (.ref C) us) (EP X a7 σ Q) X.xe s:=by
 have hq:=h (s.heap.objs.size+1) s.heap.objs.size (I.hok.fresh (iN _)) (I.hok.fresh (ar _)) (ci (jp _))
 have I2:=Inv.made (C:=C) I
 have r2:Vals (V.ref (s.heap.objs.size+1)::(vs++i4)) (Value.ref (s.heap.objs.size+1)::(us++ds)):=.cons rfl (r.append hd)
 have hl:(Value.ref (s.heap.objs.size+1)::us++ds).length=ps.length:=by
  have e:=r2.length
  rw[F.len _ _ _ _ hq] at e
  exact e.symm
 refine wpAny_call (Wr (f:=f) I.Gv M.makes M.init (beq_iff_eq.mp M.fn) (codeAny_mono (F.run _ X.stack _ _ ⟨Value.ref (s.heap.objs.size+1)::us,[]⟩ (Value.ref (s.heap.objs.size+1)::(us++ds)) _ _ E (hr.make C us [])
  (I2.env0.make C us []) (hb _ (Value.ref (s.heap.objs.size+1)::us) I2.Gv hl) r2 hq) λr s' sA=>?_))
 cases r with
 | error e=>exact hx a7 σ _ _ e s' I2 sA
 | ok fl =>
  cases fl with
  | ret u =>
   obtain⟨v,H',I3,rv,ev,q3⟩:=I2.after sA
   subst ev
   exact⟨rv,⟨V.ref (s.heap.objs.size+1),H',I3,rfl,q3⟩⟩
  | next=>exact False.elim sA
  | brk=>exact False.elim sA
  | cont=>exact False.elim sA
theorem My (M:Mk X.K C f) (F:A_ X.prog X.w X.K X.mg X.base CX k f fd ps sp) (hr:Ba (k+1) X.A) (hg:Gl X x) (hm:X.mg x=some (.ref C)) (hb:Binds X.K fd ps ds) (hd:Vals i4 ds) (hx:Hw CX X E)
  (ha:PA X (e::es) t) (qS:(x == ("__debug__" : Str))=false:=by decide) (he:starEach (e::es) X.env=(false,eval e X.env)::starEach es X.env:=by rfl) (hpl:(backTo pos (starEach es X.env)).any (·.1)=false:=by rfl) :
  PE X (.Call (.Name x p) (e::es) [] pos) (gF C sp i4 E t):=by
 intro a7 s σ H Q I h
 refine wpAny_Call_Name_kw (G4 I hg hm ?_ qS)
 refine W.callWith_K (h₀:=X.base) I.ok.mod.kin M.kp (CW (ha pos a7 s σ H _ I h) λus s1 ⟨vs,H1,I1,r,q⟩=>⟨I1.Gv,?_⟩) he hpl
 exact Vq M F hr hb hd hx I1 r q
end
section
variable {X:Cx} {CX:QZ} {k:Nat} {f C:Addr} {fd:FuncData} {ps ks:List Str} {sp:Sp} {E:XK} {x m:Str} {p pos li UF:Pos} {e o:Expr} {es:List Expr} {V':List Keyword} {te ta:TE} {t tk:TA} {nm:Option Str}
variable {g:List Value->List Value->List Value} {gV:List V->List V->List V}
end
structure BL (N P:List Str) (sc:Scope):Prop where
 kind:sc.kind=.function
 co:sc.isCoroutine=false
 gen:sc.isGenerator=false
 nd:N.Nodup
 pre:N.take P.length=P
 par:∀ x∈P,sc.names.lookup x=some .local \/ sc.names.lookup x=some .cell
 nofree:∀ y∈sc.names,y.2 ≠ .free
theorem CT {N P:List Str} {sc:Scope} (a:sc.kind=.function:=by rfl) (b:sc.isCoroutine=false:=by rfl) (c:sc.isGenerator=false:=by rfl) (d:N.Nodup:=by decide +kernel) (e:N.take P.length=P:=by rfl) (f:∀ x∈P,sc.names.lookup x=some .local \/ sc.names.lookup x=some .cell:=by decide +kernel) (g:∀ y∈sc.names,y.2 ≠ .free:=by decide +kernel):BL N P sc:=⟨a,b,c,d,e,f,g⟩
theorem Ml {kindOf:Str->Option NameKind} {x:Str}:∀ {binds:List (Str × Value)} {m:Str->Option Value},(∀ v,(x,v) ∉ binds)->bindL kindOf binds m x=m x
 | [],_,_=>rfl
 | (n,v)::r,m,h=>by
  unfold bindL
  rw[Ml λw hw=>h w (aI _ hw)]
  split
  ·have:x ≠ n:=by rintro rfl;exact h v av
   simp[this]
  ·rfl
theorem L_ {kindOf:Str->Option NameKind} {x:Str}:∀ {binds:List (Str × Value)} {m:Str->Option Value},(∀ v,(x,v) ∉ binds)->bindC kindOf binds m x=m x
 | [],_,_=>rfl
 | (n,v)::r,m,h=>by
  unfold bindC
  rw[L_ λw hw=>h w (aI _ hw)]
  split
  ·rfl
  ·have:x ≠ n:=by rintro rfl;exact h v av
   simp[this]
theorem Mg {kindOf:Str->Option NameKind} {x:Str} {v:Value}:∀ {P:List Str} {vs:List Value} {i:Nat} {m:Str->Option Value},P.Nodup->P[i]? = some x->vs[i]? = some v->kindOf x=some .local ->
  bindL kindOf (P.zip vs) m x=some v
 | [],_,_,_,_,h,_,_=>by simp at h
 | _::_,[],_,_,_,_,h,_=>by simp at h
 | p::P,w::vs,0,m,nd,h1,h2,hk=>by
  simp at h1 h2;subst h1;subst h2
  show bindL kindOf ((p,w)::P.zip vs) m p=_
  unfold bindL
  rw[Ml λv hv=>(hU.mp nd).1 (hV hv).1,if_pos hk]
  simp
 | p::P,w::vs,i+1,m,nd,h1,h2,hk=>by
  show bindL kindOf ((p,w)::P.zip vs) m x=_
  unfold bindL
  exact Mg (i:=i) (List.nodup_cons.mp nd).2 (by simpa using h1) (by simpa using h2) hk
theorem Ma {kindOf:Str->Option NameKind} {x:Str} {v:Value}:∀ {P:List Str} {vs:List Value} {i:Nat} {m:Str->Option Value},P.Nodup->P[i]? = some x->vs[i]? = some v->kindOf x ≠ some .local ->
  bindC kindOf (P.zip vs) m x=some v
 | [],_,_,_,_,h,_,_=>by simp at h
 | _::_,[],_,_,_,_,h,_=>by simp at h
 | p::P,w::vs,0,m,nd,h1,h2,hk=>by
  simp at h1 h2;subst h1;subst h2
  show bindC kindOf ((p,w)::P.zip vs) m p=_
  unfold bindC
  rw[L_ λv hv=>(hU.mp nd).1 (hV hv).1,if_neg hk]
  simp
 | p::P,w::vs,i+1,m,nd,h1,h2,hk=>by
  show bindC kindOf ((p,w)::P.zip vs) m x=_
  unfold bindC
  exact Ma (i:=i) (List.nodup_cons.mp nd).2 (by simpa using h1) (by simpa using h2) hk
noncomputable def start (N:List Str) (vs:List V):St:=vs.map some++List.replicate (N.length - vs.length) none
noncomputable def K8 (CX:QZ) (P:Program) (w:World) (K:W.Frag) (mg:Str->Option Value) (base:Heap) (N:List Str) (qual:Str) (scope:Scope) (f:Addr) (cd:Value) (A:Around) (outer:List Env) (s:Shared) (H:Hp) (E:XK):Cx where
 prog:=P
 w:=w
 K:=K
 mg:=mg
 base:=base
 A:=A.deeper (envOfC qual scope s.heap.objs.size f cd)
 N:=N
 s₀:=s
 H₀:=H
 env:=envOfC qual scope s.heap.objs.size f cd
 outer:=outer
 stack:=envOfC qual scope s.heap.objs.size f cd::outer
 ex:=[]
 calm:=true
 fn:=λ_=>true
 pn:=[]
 xe:=λe s'=>wpAny (model P w) (A.deeper (envOfC qual scope s.heap.objs.size f cd)) (leaving (envOfC qual scope s.heap.objs.size f cd) e) (λ_ ul=>CX outer H s E e ul) (λe' ul=>CX outer H s E e' ul) s'
theorem Pn {sc:Scope} {n:Nat} {x:Str} (h:sc.names.lookup x=some .cell):∃ c,(cellsFrom n sc.names []).lookup x=some c:=by
 have q:=W.cellsFrom_some sc.names n [] (.inl h)
 exact fm.mp q
theorem Mq {CX:QZ} {P:Program} {w:World} {K:W.Frag} {mg:Str->Option Value} {base:Heap} {N ps:List Str} {qual:Str} {scope:Scope} {f:Addr} {cd:Value} {A:Around} {outer:List Env} {s s1:Shared} {H:Hp} {E:XK} {us:List Value} {vs:List V}
  (S:BL N ps scope) (hd:A.handled=none) (e0:Np P w K mg base A outer s H) (hl:vs.length=ps.length) (r:Vals vs us)
  (x:InCallC s s.heap.objs.size (bindL (envOfC qual scope s.heap.objs.size f cd).kindOf (ps.zip us) λ_=>none) (cellsFrom (s.heap.objs.size+1) scope.names []) (bindC (envOfC qual scope s.heap.objs.size f cd).kindOf (ps.zip us) λ_=>none) s1) :
  Inv (K8 CX P w K mg base N qual scope f cd A outer s H E) [] (start N vs) H s1:=by
 have hpl:ps.length<=N.length:=by have:=congrArg List.length S.pre;rw[cE] at this;omega
 obtain⟨h1,tk,rfl,hk⟩:=x.done
 have noA:∀ b:Addr,b ∉ (K8 CX P w K mg base N qual scope f cd A outer s H E).ex:=λb z=>absurd (show b∈([]:List Addr) from z) (by simp)
 refine⟨⟨e0.mod,S.kind,rfl,rfl,ar _,λy z c h1 h2=>?_,λy hy=>?_,λy c _ h=>?_,λ_=>hd,Around.frames_deeper e0.frames,.inr ⟨rfl,rfl⟩,λb z=>absurd z (noA b),e0.bs,e0.bsz,λb _ _=>noA b,λb z=>absurd z (noA b),e0.I_,e0.frf⟩,
  rfl,e0.bare,Un.kept hk,⟨_,x.toInCall.ns,λi y v h1 h2 h3=>?_⟩,λy c h=>⟨_,x.cell y c h⟩,e0.hok.fresh (Nat.le_refl _),λy c h=>?_,λp hp=>absurd (show p∈([]:List (Addr × Obj)) from hp) (by simp),e0.hok.kept hk,?_⟩
 ·exact name_of_addr x.apart (PySem.mem_of_lookup h1) (PySem.mem_of_lookup h2)
 ·have hy:scope.names.lookup y=some .cell \/ scope.names.lookup y=some .free:=hy
  rcases hy with hy | hy
  ·exact Pn hy
  ·exact absurd rfl (S.nofree _ (PySem.mem_of_lookup hy))
 ·exact fw (x.above y c (PySem.mem_of_lookup h))
 ·have hi:i<vs.length:=by
   unfold start at h2
   by_cases hi:i<vs.length
   ·exact hi
   ·rw[List.getElem?_append_right (by simpa using hi)] at h2
    rw[List.getElem?_replicate] at h2
    split at h2 <;> cases h2
  have ha:vs[i]? = some v:=by
   unfold start at h2
   rw[List.getElem?_append_left (by simpa using hi),List.getElem?_map] at h2
   cases e:vs[i]? with
   | none=>rw[e] at h2;cases h2
   | some a=>rw[e] at h2;cases h2;rfl
  obtain⟨u,hu,rv⟩:=r.get ha
  have hp:ps[i]? = some y:=by
   rw[<-S.pre,List.getElem?_take_of_lt (by omega)];exact h1
  have ndP:ps.Nodup:=by rw[<-S.pre];exact S.nd.sublist (List.take_sublist _ _)
  refine⟨u,rv,?_⟩
  rcases S.par y (al hp) with k | k
  ·exact .inl ⟨k,Mg ndP hp hu k⟩
  ·obtain⟨c,e⟩:=Pn (n:=s.heap.objs.size+1) k
   refine .inr ⟨.inl k,c,e,?_⟩
   have q:=x.cell y c e
   rw[Ma ndP hp hu (by show scope.names.lookup y ≠ _;rw[k];decide)] at q
   exact q
 ·exact e0.hok.fresh (fw (x.above y c (PySem.mem_of_lookup h)))
 ·unfold start
  show _=N.length
  rw[aE,ae,eh]
  omega
theorem ZX {CX:QZ} {P:Program} {w:World} {K:W.Frag} {mg:Str->Option Value} {base:Heap} {k:Nat} {f:Addr} {name qual:Str} {params:Arguments} {body:List Stmt} {scope:Scope} {dV kV i6 pm b9 ct oc:Value} {an od:Option Addr}
  {rh:Array (Option Value)} {N ps:List Str} {sp:Sp} (lk:K.lookup f=some ⟨oc,od,.func (W.fnOf name qual params body scope dV kV i6 pm an b9 ct),rh⟩) (lI:W.codeIn K b9 qual=true) (S:BL N ps scope)
  (len:∀ vs H Q E,sp vs H Q E->vs.length=ps.length)
  (i7:∀ (A:Around) (outer:List Env) (s:Shared) (H:Hp) (vs:List V) (Q:VK) (E:XK),Ba k (A.deeper (envOfC qual scope s.heap.objs.size f b9))->sp vs H Q E ->
   ∃ t,Oa (K8 CX P w K mg base N qual scope f b9 A outer s H E) body t/\t { nx:=λ_ H'=>Q .non H',rt:=Q } (start N vs) H) :
  A_ P w K mg base CX (k+1) f (W.fnOf name qual params body scope dV kV i6 pm an b9 ct) ps sp:=by
 refine⟨len,λA outer s H args us vs Q E hr e0 hb r hsp=>?_⟩
 have hl:=len _ _ _ _ hsp
 have KX:K.In s.heap:=e0.mod.kin.keeps λb o e=>(e0.bs b o e).1
 have lim:s.heap.NoLimit:=e0.mod.nolimit.keeps λb o e=>(e0.bs b o e).1
 have hkind:∀ y∈ps.zip us,scope.names.lookup y.1=some .local \/ (scope.names.lookup y.1=some .cell/\((cellsFrom (s.heap.objs.size+1) scope.names []).lookup y.1).isSome=true):=λ⟨n,v⟩ hy=>by
  rcases S.par n (hV hy).1 with q | q
  ·exact .inl q
  ·exact .inr ⟨q,W.cellsFrom_some _ _ _ (.inl q)⟩
 refine codeAny_call_function hr.depth (KX _ _ lk) rfl S.co S.gen rfl (W.codeRec_of KX lI) (hb _ _ _ _ ?_)
 refine wpAny_newFunctionEnv_cells S.kind hkind λenv he s1 x=>?_
 subst he
 refine⟨lim.keeps x.toInCall.keep,codeAny_func ?_⟩
 obtain⟨t,ht,hq⟩:=i7 A outer s H vs Q E (hr.deeper _) hsp
 have I:Inv (K8 CX P w K mg base N qual scope f b9 A outer s H E) [] (start N vs) H s1:=Mq S hr.hd e0 hl r x
 refine wpAny_mono (ht [] s1 (start N vs) H _ I hq) (λfl s' hs=>?_) λe s' hs=>hs
 have fin:∀ {σ':St} {H':Hp} {v:V} {u:Value},Inv (K8 CX P w K mg base N qual scope f b9 A outer s H E) [] σ' H' s'->RelV v u->Q v H'->CE outer P w H s Q u s' :=
  λ{σ' H' v u} J rv q=>⟨v,H',J.os,J.bare,J.base,J.hok,rv,q⟩
 cases fl with
 | ret u =>
  obtain⟨v,σ',H',J,rv,q⟩:=hs
  exact fin J rv q
 | next =>
  obtain⟨σ',H',J,q⟩:=hs
  exact fin (v:=V.non) (u:=Value.none) J rfl q
 | brk =>
  obtain⟨_,_,_,q⟩:=hs
  exact False.elim q
 | cont =>
  obtain⟨_,_,_,q⟩:=hs
  exact False.elim q
section
variable {X:Cx} {x:Str} {p pos:Pos} {e:Expr} {es:List Expr} {t:TA} {id T:String} {r:List V->Hp->VK->Prop}
noncomputable def sI (r:List V->Hp->VK->Prop) (t:TA):TE:=λσ H Q=>t σ H λvs H1=>r vs H1 Q
theorem Aj (hc:Fx X (.builtin id) r) (hg:Gl X x) (hm:X.mg x=none) (hv:bootBuiltins x=some (.builtin id)) (ha:PA X (e::es) t) (hn:x ≠ "__name__":=by decide) (qS:(x == ("__debug__" : Str))=false:=by decide)
  (he:starEach (e::es) X.env=(false,eval e X.env)::starEach es X.env:=by rfl) (hpl:(backTo pos (starEach es X.env)).any (·.1)=false:=by rfl):PE X (.Call (.Name x p) (e::es) [] pos) (sI r t):=by
 intro a7 s σ H Q I h
 refine wpAny_Call_Name_kw (Im I hg hm hv ?_ hn qS)
 exact PyProof.Rows.callWith_builtin1 (CW (ha pos a7 s σ H _ I h) λus s1 ⟨vs,H1,I1,r1,q1⟩=>hc a7 s1 σ H1 vs us Q I1 r1 q1) he hpl
theorem Dv (hc:Fx X (.type T) r) (hg:Gl X x) (hm:X.mg x=none) (hv:bootBuiltins x=some (.type T)) (ha:PA X (e::es) t) (hn:x ≠ "__name__":=by decide) (qS:(x == ("__debug__" : Str))=false:=by decide)
  (he:starEach (e::es) X.env=(false,eval e X.env)::starEach es X.env:=by rfl) (hpl:(backTo pos (starEach es X.env)).any (·.1)=false:=by rfl):PE X (.Call (.Name x p) (e::es) [] pos) (sI r t):=by
 intro a7 s σ H Q I h
 refine wpAny_Call_Name_kw (Im I hg hm hv ?_ hn qS)
 exact PyProof.Rows.callWith_type1 (CW (ha pos a7 s σ H _ I h) λus s1 ⟨vs,H1,I1,r1,q1⟩=>hc a7 s1 σ H1 vs us Q I1 r1 q1) he hpl
end
section
variable {κ:Type} [DecidableEq κ]
noncomputable def Cq (a8:List (κ × V)) (k:κ):Option V:=(a8.find? λkv=>decide (kv.1=k)).map (·.2)
noncomputable def putK (a8:List (κ × V)) (k:κ) (v:V):List (κ × V) :=
 if (a8.any λkv=>decide (kv.1=k))=true then a8.map (λkv=>if kv.1=k then (kv.1,v) else kv) else a8++[(k,v)]
noncomputable def sO (a8:List (κ × V)) (k:κ):List (κ × V):=a8.filter λkv=>decide (kv.1 ≠ k)
theorem Vr {k:κ}:Cq ([]:List (κ × V)) k=none:=rfl
theorem Du {p:κ × V} {r:List (κ × V)} {k:κ} (e:p.1=k):Cq (p::r) k=some p.2:=by simp[Cq,List.find?_cons,e]
theorem Dr {p:κ × V} {r:List (κ × V)} {k:κ} (e:¬ p.1=k):Cq (p::r) k=Cq r k:=by simp[Cq,List.find?_cons,e]
theorem Hv (k:κ):∀ a8:List (κ × V),(a8.any λkv=>decide (kv.1=k))=(Cq a8 k).isSome
 | []=>rfl
 | p::r=>by
  rw[jS]
  by_cases e:p.1=k
  ·simp only[Du e,decide_eq_true e,Bool.true_or,Option.isSome_some]
  ·rw[Dr e,decide_eq_false e,kH];exact Hv k r
theorem Py (k j:κ) (y:V):∀ a8:List (κ × V),Cq (a8.map λkv=>if kv.1=k then (kv.1,y) else kv) j=(Cq a8 j).map λx=>if j=k then y else x
 | []=>rfl
 | p::r=>by
  have ih:=Py k j y r
  rw[cS]
  by_cases h:p.1=k
  ·rw[if_pos h]
   by_cases e:p.1=j
   ·rw[Du (p:=(p.1,y)) e,Du e,ke,if_pos (e.symm.trans h)]
   ·rw[Dr (p:=(p.1,y)) e,Dr e,ih]
  ·rw[if_neg h]
   by_cases e:p.1=j
   ·rw[Du (p:=p) e,Du e,ke,if_neg (λz=>h (e.trans z))]
   ·rw[Dr (p:=p) e,Dr e,ih]
theorem Lz (k j:κ) (y:V):∀ a8:List (κ × V),Cq a8 k=none->Cq (a8++[(k,y)]) j=if j=k then some y else Cq a8 j
 | [],_=>by
  by_cases e:k=j
  ·rw[if_pos e.symm];exact Du (p:=(k,y)) e
  ·rw[if_neg (λz=>e z.symm)];exact Dr (p:=(k,y)) e
 | p::r,hn=>by
  rw[List.cons_append]
  have hk:¬ p.1=k:=λz=>by rw[Du z] at hn;cases hn
  rw[Dr hk] at hn
  have ih:=Lz k j y r hn
  by_cases e:p.1=j
  ·rw[Du e,Du e,if_neg (λz=>hk (e.trans z))]
  ·rw[Dr e,Dr e,ih]
theorem Bb (a8:List (κ × V)) (k j:κ) (y:V):Cq (putK a8 k y) j=if j=k then some y else Cq a8 j:=by
 unfold putK
 by_cases a:(a8.any λkv=>decide (kv.1=k))=true
 ·rw[if_pos a,Py]
  rw[Hv] at a
  by_cases e:j=k
  ·obtain⟨x,hx⟩:=fm.mp a
   rw[if_pos e,e,hx,ke,if_pos rfl]
  ·rw[if_neg e]
   cases Cq a8 j with
   | none=>rfl
   | some x=>rw[ke,if_neg e]
 ·rw[if_neg a]
  refine Lz k j y a8 ?_
  rw[Hv] at a
  cases q:Cq a8 k with
  | none=>rfl
  | some x=>rw[q] at a;exact (a rfl).elim
theorem CP (a8:List (κ × V)) (k:κ) (v:V):(putK a8 k v).length<=a8.length+1:=by
 unfold putK
 split
 ·rw[ae];omega
 ·rw[aE,aS,kg];omega
theorem Gr.Ua {o:Option V} {u:Option Value} (r:Gr o u):o.isSome=u.isSome:=by
 cases o with
 | none=>cases u with
  | none=>rfl
  | some _=>exact (show False from r).elim
 | some _=>cases u with
  | none=>exact (show False from r).elim
  | some _=>rfl
theorem KV.val {a8:List (κ × V)} {vs:List (κ × Value)} (r:KV a8 vs) (k:κ):Gr (Cq a8 k) (valueAt vs k):=by
 unfold KV at r
 induction r with
 | nil=>exact True.intro
 | @cons p q ps qs h t ih =>
  obtain⟨h1,h2⟩:=h
  by_cases e:p.1=k
  ·have e':q.1=k:=h1.symm.trans e
   have b:valueAt (q::qs) k=some q.2:=by simp[valueAt,List.find?_cons,e']
   rw[Du e,b];exact h2
  ·have e':¬ q.1=k:=λz=>e (h1.trans z)
   have b:valueAt (q::qs) k=valueAt qs k:=by simp[valueAt,List.find?_cons,e']
   rw[Dr e,b];exact ih
theorem KV.any {a8:List (κ × V)} {vs:List (κ × Value)} (r:KV a8 vs) (k:κ):(a8.any λkv=>decide (kv.1=k))=vs.any λkv=>decide (kv.1=k):=by
 unfold KV at r
 induction r with
 | nil=>rfl
 | cons h t ih=>rw[jS,jS,ih,h.1]
theorem KV.repl {a8:List (κ × V)} {vs:List (κ × Value)} (r:KV a8 vs) (k:κ) {y:V} {u:Value} (ry:RelV y u) :
  KV (a8.map λkv=>if kv.1=k then (kv.1,y) else kv) (vs.map λkv=>if kv.1=k then (kv.1,u) else kv):=by
 unfold KV at r |-
 induction r with
 | nil=>exact .nil
 | @cons p q ps qs h t ih =>
  rw[cS,cS]
  refine .cons ?_ ih
  obtain⟨h1,h2⟩:=h
  by_cases e:p.1=k
  ·rw[if_pos e,if_pos (h1.symm.trans e)];exact⟨h1,ry⟩
  ·rw[if_neg e,if_neg (λz=>e (h1.trans z))];exact⟨h1,h2⟩
theorem KV.put {a8:List (κ × V)} {vs:List (κ × Value)} (r:KV a8 vs) (k:κ) {y:V} {u:Value} (ry:RelV y u):KV (putK a8 k y) (stored vs k u):=by
 unfold putK stored
 rw[r.any k]
 by_cases e:(vs.any λkv=>decide (kv.1=k))=true
 ·rw[if_pos e,if_pos e];exact r.repl k ry
 ·rw[if_neg e,if_neg e];exact Paired.snoc r ⟨rfl,ry⟩
theorem KV.length {a8:List (κ × V)} {vs:List (κ × Value)} (r:KV a8 vs):a8.length=vs.length:=Paired.length r
end
theorem S9 {P:Program} {w:World} {k:Key} {u:Value} (r:RelV (kV k) u):(DR P w).is k u=true:=by
 cases k with
 | inl i=>obtain⟨t,e⟩:=(show ∃ t,u=Value.int i t from r);subst e;exact Oj P w i t
 | inr x=>obtain⟨t,e⟩:=(show ∃ t,u=Value.str x t from r);subst e;exact O6 P w x t
theorem Mj {P:Program} {w:World}:∀ {ks:List Key} {us:List Value},Vals (ks.map kV) us->ItemsAre (DR P w) ks us
 | [],_,r=>by rw[kS] at r;cases r;exact .nil
 | k::ks,_,r=>by
  rw[cS] at r
  cases r with
  | cons h t=>exact .cons (S9 h) (Mj t)
noncomputable abbrev KT (H:Hp):List (List Key × V)->List (List Key × Addr × Value)->Prop:=Paired λp q=>p.1=q.1/\H q.2.1=some (.tup (p.1.map kV))/\RelV p.2 q.2.2
theorem KT.val {H:Hp} {a8:List (List Key × V)} {xs:List (List Key × Addr × Value)} (r:KT H a8 xs) (k:List Key):Gr (Cq a8 k) ((atKey xs k).map (·.2)):=by
 induction r with
 | nil=>exact True.intro
 | @cons p q ps qs h t ih =>
  obtain⟨h1,_,h2⟩:=h
  by_cases e:p.1=k
  ·have e':q.1=k:=h1.symm.trans e
   have b:atKey (q::qs) k=some q.2:=by simp[atKey,List.find?_cons,e']
   rw[Du e,b];exact h2
  ·have e':¬ q.1=k:=λz=>e (h1.trans z)
   have b:atKey (q::qs) k=atKey qs k:=by simp[atKey,List.find?_cons,e']
   rw[Dr e,b];exact ih
theorem KT.repl {H:Hp} {a8:List (List Key × V)} {xs:List (List Key × Addr × Value)} (r:KT H a8 xs) (k:List Key) {y:V} {u:Value} (ry:RelV y u) :
  KT H (a8.map λkv=>if kv.1=k then (kv.1,y) else kv) (xs.map (putAt k u)):=by
 induction r with
 | nil=>exact .nil
 | @cons p q ps qs h t ih =>
  rw[cS,cS]
  refine .cons ?_ ih
  obtain⟨h1,h2,h3⟩:=h
  unfold putAt
  by_cases e:p.1=k
  ·rw[if_pos e,if_pos (h1.symm.trans e)];exact⟨h1,h2,ry⟩
  ·rw[if_neg e,if_neg (λz=>e (h1.trans z))];exact⟨h1,h2,h3⟩
theorem KT.put {H:Hp} {a8:List (List Key × V)} {xs:List (List Key × Addr × Value)} (r:KT H a8 xs) (k:List Key) {b:Addr} {y:V} {u:Value} (hb:H b=some (.tup (k.map kV))) (ry:RelV y u) :
  KT H (putK a8 k y) (storedH xs k b u):=by
 have e:(a8.any λkv=>decide (kv.1=k))=(atKey xs k).isSome:=by
  rw[Hv,(r.val k).Ua,Option.isSome_map]
 unfold putK storedH
 rw[e]
 by_cases q:(atKey xs k).isSome=true
 ·rw[if_pos q,if_pos q];exact r.repl k ry
 ·rw[if_neg q,if_neg q];exact Paired.snoc r ⟨rfl,hb,ry⟩
theorem KT.keeps {H H':Hp} {a8:List (List Key × V)} {xs:List (List Key × Addr × Value)} (r:KT H a8 xs) (ht:∀ b ys,H b=some (.tup ys)->H' b=some (.tup ys)):KT H' a8 xs :=
 Paired.Gq r λ_ _ z=>⟨z.1,ht _ _ z.2.1,z.2.2⟩
section
variable {P:Program} {w:World} {H:Hp} {h:Heap} {a:Addr}
theorem ZS {u:HO} (ok:Fd P w H h) (e:Rd H a u):Bt P w H h a u:=e.ok ok
theorem VB {a8:List (Key × V)} (ok:Fd P w H h) (e:Rd H a (.dK a8)):a8.length<=sizeLine/\(a == sysModules)=false/\∃ vs,KV a8 vs/\h.DictOf (DR P w) a vs :=
 show Bt P w H h a (.dK a8) from ZS ok e
theorem Y9 {a8:List (Key × V)} (ok:Fd P w H h) (e:H a=some (.dK a8)):a8.length<=sizeLine/\(a == sysModules)=false/\∃ vs,KV a8 vs/\h.DictOf (DR P w) a vs:=VB ok (.inl e)
theorem Qt {ks:List Key} (ok:Fd P w H h) (e:H a=some (.tup (ks.map kV))):(tupleKind (DR P w)).is h ks a:=by
 obtain⟨_,its,r,o,h1,h2,n,h3⟩:=(show Bt P w H h a (.tup (ks.map kV)) from ok a _ e)
 exact⟨o,its.toArray,n,h1,h2,h3,by simpa using Mj r⟩
theorem U9 {a8:List (List Key × V)} (ok:Fd P w H h) (e:Rd H a (.dT a8)):a8.length<=sizeLine/\(a == sysModules)=false /\
  ∃ xs,KT H a8 xs/\h.DictOfH (tupleKind (DR P w)) a xs:=by
 obtain⟨z,y,xs,r,o,es,ep,h1,h2,h3,h4,h5⟩:=(show Bt P w H h a (.dT a8) from ZS ok e)
 refine⟨z,y,xs,r,o,es,ep,h1,h2,h3,h4,λx hx=>?_,h5⟩
 have all:∀ {l:List (List Key × V)} {m:List (List Key × Addr × Value)},KT H l m->∀ x∈m,(tupleKind (DR P w)).is h x.1 x.2.1:=by
  intro l m q
  induction q with
  | nil=>intro x hx;exact nomatch hx
  | @cons p q ps qs hq t ih =>
   intro x hx
   rcases bq.mp hx with e | hx
   ·subst e
    exact Qt ok (by rw[<-hq.1];exact hq.2.1)
   ·exact ih x hx
 exact all r x hx
theorem j5 {a8:List (List Key × V)} (ok:Fd P w H h) (e:H a=some (.dT a8)):a8.length<=sizeLine/\(a == sysModules)=false /\
  ∃ xs,KT H a8 xs/\h.DictOfH (tupleKind (DR P w)) a xs:=U9 ok (.inl e)
end
noncomputable def Cz (H:Hp) (a:Addr) (y:V) (r:Option V):Prop :=
 (∃ a8 k,Rd H a (.dK a8)/\y=kV k/\r=Cq a8 k) \/ ∃ a8 k b,Rd H a (.dT a8)/\y=.ref b/\H b=some (.tup (k.map kV))/\r=Cq a8 k
noncomputable def RX (H:Hp) (a:Addr) (y v:V) (H':Hp):Prop :=
 (∃ a8 k,H a=some (.dK a8)/\y=kV k/\a8.length<sizeLine/\H'=upd H a (.dK (putK a8 k v))) \/
 ∃ a8 k b,H a=some (.dT a8)/\y=.ref b/\H b=some (.tup (k.map kV))/\a8.length<sizeLine/\H'=upd H a (.dT (putK a8 k v))
theorem Cz.k {H:Hp} {a:Addr} {a8:List (Key × V)} {k:Key} (e:H a=some (.dK a8)):Cz H a (kV k) (Cq a8 k):=.inl ⟨a8,k,.inl e,rfl,rfl⟩
theorem RX.k {H:Hp} {a:Addr} {a8:List (Key × V)} {k:Key} {v:V} (e:H a=some (.dK a8)) (hl:a8.length<sizeLine):RX H a (kV k) v (upd H a (.dK (putK a8 k v))):=.inl ⟨a8,k,e,rfl,hl,rfl⟩
section
variable {X:Cx} {a7:List (Addr × Obj)} {σ:St} {H:Hp} {s:Shared} {a:Addr} {y v:V} {u r:Value} {o:Option V} {A:Around} {E:vSP}
theorem Inv.big (I:Inv X a7 σ H s):sysModules<s.heap.objs.size:=by
 have h:mainGlobals<s.heap.objs.size:=(I.mod.glob.keeps I.bk).lt
 exact Nat.lt_trans (by decide) h
theorem Tp {Q:vSP} (hu:A.units+1<cLine) (I:Inv X a7 σ H s) (g:Cz H a y (some v)) (ry:RelV y u) (h:∀ w' s',Inv X a7 σ H s'->RelV v w'->Q w' s') :
  wpAny (model X.prog X.w) A (getItem (.ref a) u) Q E s:=by
 rcases g with⟨a8,k,e,ey,l⟩ | ⟨a8,k,b,e,ey,eb,l⟩
 ·subst ey
  obtain⟨z,hd,vs,rel,dd⟩:=VB I.hok e
  obtain⟨w',hw,oj⟩:=Gr.some_of (v:=v) (o:=valueAt vs k) (by rw[l];exact rel.val k)
  exact wpAny_getItem_of (S9 ry) dd.mapOf hw (h w' _ (I.tok _) oj)
 ·subst ey
  cases (show u=Value.ref b from ry)
  obtain⟨z,hd,xs,rel,dd⟩:=U9 I.hok e
  obtain⟨w',hw,oj⟩:=Gr.some_of (v:=v) (o:=(atKey xs k).map (·.2)) (by rw[l];exact rel.val k)
  obtain⟨p,hp,ti⟩:=ee.mp hw
  refine wpAny_getItem_heap (tupleKind_room_in1 hu) (Qt I.hok eb) dd hp ?_
  rw[ti]
  exact h w' _ (I.tok _) oj
theorem NQ {h':Heap} {t':Nat} {ob:HO} (I:Inv X a7 σ H s) (mu:jA (H a)) (hs:Heap.SameBut a s.heap h') (he:∃ q,h'.get? a=some q) (new:Bt X.prog X.w (upd H a ob) h' a ob) :
  Inv X a7 σ (upd H a ob) { s with heap:=h',toks:=t' } :=
 I.write (x:=a) (e:=a) mu (.inl rfl) (λb q hb z=>(hs.2 b hb).trans z) he new
theorem Wl {P:Program} {w:World} {H':Hp} {h':Heap} {a8:List (Key × V)} {vs:List (Key × Value)} (z:a8.length<=sizeLine) (hd:(a == sysModules)=false) (rel:KV a8 vs) (dd:h'.DictOf (DR P w) a vs) :
  Bt P w H' h' a (.dK a8):=⟨z,hd,vs,rel,dd⟩
theorem Uw {H':Hp} {Q:Unit->Shared->Prop} (hu:A.units+1<cLine) (I:Inv X a7 σ H s) (g:RX H a y v H') (ry:RelV y u) (rv:RelV v r) (h:∀ s',Inv X a7 σ H' s'->Q () s') :
  wpAny (model X.prog X.w) A (setItem (.ref a) u r) Q E s:=by
 rcases g with⟨a8,k,e,ey,l,eH⟩ | ⟨a8,k,b,e,ey,eb,l,eH⟩
 ·subst ey eH
  obtain⟨z,hd,vs,rel,dd⟩:=Y9 I.hok e
  have hz:vs.length<=sizeLine:=by rw[<-rel.length];exact z
  have hl:(putK a8 k v).length<=sizeLine:=by have:=CP a8 k v;omega
  refine wpAny_setItem_pairs (hsz:=hz) (S9 ry) dd λh' uX hs=>h _ ?_
  have he:∃ q,h'.get? a=some q:=let ⟨q,_,_,hq,_⟩:=uX;⟨q,hq⟩
  exact NQ I (by rw[e];exact True.intro) hs he (Wl hl hd (rel.put k rv) uX)
 ·subst ey eH
  cases (show u=Value.ref b from ry)
  obtain⟨z,hd,xs,rel,dd⟩:=j5 I.hok e
  have hz:xs.length<=sizeLine:=by rw[<-Paired.length rel];exact z
  have hl:(putK a8 k v).length<=sizeLine:=by have:=CP a8 k v;omega
  refine wpAny_setItem_heap (hsz:=hz) (tupleKind_room_in1 hu) (Qt I.hok eb) dd λh' uX hs=>h _ ?_
  obtain⟨q,es,ep,hq,h2,h3,h4,_,h5⟩:=uX
  refine NQ I (by rw[e];exact True.intro) hs ⟨q,hq⟩ ⟨hl,hd,_,(rel.put k eb rv).keeps λc ys ec=>?_,q,es,ep,hq,h2,h3,h4,h5⟩
  rw[Ao (Oz ec e (λz=>nomatch z))]
  exact ec
end
section
variable {X:Cx} {a7:List (Addr × Obj)} {σ:St} {H:Hp} {s:Shared} {a:Addr} {a8:List (Key × V)} {k:Key} {u:Value} {A:Around} {E:vSP}
end
noncomputable def Z3 (i:Expr):Prop:=∀ ov iv,subscripted i false ov iv=operate [ov,iv] (getItem ov iv)
theorem Ru {prog:Program} {w:World} {A:Around} {E:vSP} {s:Shared} {env:Env} {value slice:Expr} {pos:Pos} {T id:String} {Q:vSP}
  (hl:typeLookup (.type T) "__getitem__" = pure (some (.builtin id))) (hs:Z3 slice)
  (h:wpAny (model prog w) A (eval value env) (λo s₁=>wpAny (model prog w) A (eval slice env) (λi s₂=>s₂.TypeIs o T/\wpAny (model prog w) A (getItem o i) Q E s₂) E s₁) E s) :
  wpAny (model prog w) A (eval (.Subscript value slice pos) env) Q E s:=by
 refine Subscript_ (wpAny_mono h (λo s₁ h₁=>wpAny_mono h₁ (λi s₂ h₂=>?_) λ_ _ x=>x) λ_ _ x=>x)
 obtain⟨hT,h₂⟩:=h₂
 unfold subscriptTail
 refine wpAny_bind ?_
 rw[getitemInPython_of_ne hT.not_modules]
 refine wpAny_bind (wpAny_specialOf hT hl ?_)
 have fin:wpAny (model prog w) A (subscripted slice false o i) (λr s₃=>wpAny (model prog w) A (letTemporaryGo value o r >>= λ_=>pure r) Q E s₃) E s₂:=by
  rw[hs o i]
  exact wpAny_operating (wpAny_mono h₂ (λr s₃ h₃=>wpAny_bind (wpAny_letTemporaryGo (wpAny_pure h₃))) λ_ _ x=>x)
 first
  | exact wpAny_pure (wpAny_bind fin)
  | exact wpAny_bind (wpAny_pure (wpAny_bind fin))
  | exact wpAny_bind fin
theorem QQ {X:Cx} {a7:List (Addr × Obj)} {σ:St} {H:Hp} {s:Shared} {a:Addr} {y:V} {o:Option V} (I:Inv X a7 σ H s) (g:Cz H a y o):s.TypeIs (.ref a) "dict":=by
 rcases g with⟨a8,k,e,_,_⟩ | ⟨a8,k,b,e,_,_,_⟩
 ·obtain⟨_,_,vs,_,dd⟩:=VB I.hok e
  exact dd.typeIs
 ·obtain⟨_,_,xs,_,dd⟩:=U9 I.hok e
  exact dd.typeIs
noncomputable def dX (td ty:TE):TE:=λσ H Q=>td σ H λx H1=>ty σ H1 λy H2=>∃ a v,x=.ref a/\Cz H2 a y (some v)/\Q v H2
noncomputable def iw (td ty tv:TE):TS:=λD σ H=>tv σ H λv H1=>td σ H1 λx H2=>ty σ H2 λy H3=>∃ a H4,x=.ref a/\RX H3 a y v H4/\D.nx σ H4
section
variable {X:Cx} {o i e value:Expr} {pos i3 oi:Pos} {td ty tv:TE}
theorem Be (hu:X.A.units+1<cLine) (ho:PE X o td) (hi:PE X i ty) (hs:Z3 i):PE X (.Subscript o i pos) (dX td ty):=by
 intro a7 s σ H Q I h
 refine Ru iF hs (CW (ho a7 s σ H _ I h) λu s1 ⟨x,H1,I1,rx,q1⟩=>CW (hi a7 s1 σ H1 _ I1 q1) λiv s2 f7=>?_)
 obtain⟨y,H2,I2,ry,a,v,ex,g,q2⟩:=f7
 subst ex
 obtain rfl:u=Value.ref a:=rx
 exact⟨QQ I2 g,Tp hu I2 g ry λw' s3 I3 oj=>⟨v,H2,I3,oj,q2⟩⟩
theorem Nh (hu:X.A.units+1<cLine) (ho:PE X o td) (hi:PE X i ty) (hv:PE X value tv) (hs:swapsWith value (some (.Subscript o i i3)) pos.line X.env=pure false) :
  PS X (.Assign [.Subscript o i i3] value pos) (iw td ty tv):=by
 intro a7 s σ H D I h
 refine wpAny_Assign_Subscript (CW (hv a7 s σ H _ I h) λr s1 ⟨v,H1,I1,rv,q1⟩=>CW (ho a7 s1 σ H1 _ I1 q1) λu s2 ⟨x,H2,I2,rx,q2⟩=>CW (hi a7 s2 σ H2 _ I2 q2) λiv s3 ⟨y,H3,I3,ry,a,H4,ex,g,q3⟩=>?_) hs
 subst ex
 obtain rfl:u=Value.ref a:=rx
 exact Uw hu I3 g ry rv λs4 I4=>⟨σ,H4,I4,q3⟩
end
theorem QM {P:Program} {w:World} {H:Hp} (h:Heap) (hb:sysModules<h.objs.size):Bt P w H (h.push { cls:=.type "dict",data:=.dict #[] }) h.objs.size (.dK []) :=
 ⟨dc _,beq_eq_false_iff_ne.mpr (Ne.symm (ci hb)),[],.nil,Heap.DictOf.new h⟩
noncomputable def bu:TE:=λ_ H Q=>∀ p,H p=none->Q (.ref p) (upd H p (.dK []))
section
variable {X:Cx} {pos:Pos}
theorem WD:PE X (.Dict [] [] pos) bu:=λa7 s σ H Q I h =>
 wpAny_Dict_empty ⟨.ref s.heap.objs.size,_,I.laid (a:=s.heap.objs.size) (o:=.dK []) (t':=s.toks) (λ_ _ q=>Heap.get?_push_of_some _ q) (ar _) (QM s.heap I.big),rfl,h _ (I.hok.fresh (ar _))⟩
end
noncomputable def RT:List (TE × TE)->St->Hp->(List (V × V)->Hp->Prop)->Prop
 | [],_,H,Q=>Q [] H
 | (tk,tv)::r,σ,H,Q=>tk σ H λx H1=>tv σ H1 λy H2=>RT r σ H2 λps H3=>Q ((x,y)::ps) H3
noncomputable abbrev VV:List (V × V)->List (Value × Value)->Prop:=Paired λp q=>RelV p.1 q.1/\RelV p.2 q.2
noncomputable def lY (X:Cx) (pos:Pos) (ow:List (Option Expr)) (md:List Expr) (ux:List (TE × TE)):Prop :=
 ∀ (a7:List (Addr × Obj)) (s:Shared) (σ:St) (H:Hp) (Q:List (V × V)->Hp->Prop),Inv X a7 σ H s->RT ux σ H Q ->
  wpAny (model X.prog X.w) X.A (evalPairs (pairTrees ow md X.env pos)) (λvs s'=>∃ ps H',Inv X a7 σ H' s'/\VV ps vs/\Q ps H') X.xe s
theorem Rf {X:Cx} {pos:Pos}:lY X pos [] [] []:=λa7 s σ H Q I h=>pairTrees_nil_walk ⟨[],H,I,.nil,h⟩
theorem FN {X:Cx} {pos:Pos} {k v:Expr} {ks:List (Option Expr)} {vs:List Expr} {tk tv:TE} {ux:List (TE × TE)} (hk:PE X k tk) (hv:PE X v tv) (hr:lY X pos ks vs ux) :
  lY X pos (some k::ks) (v::vs) ((tk,tv)::ux):=λa7 s σ H Q I h =>
 pairTrees_cons_walk (CW (hk a7 s σ H _ I h) λu s1 ⟨x,H1,I1,rx,q1⟩=>CW (hv a7 s1 σ H1 _ I1 q1) λw2 s2 ⟨y,H2,I2,ry,q2⟩ =>
  CW (hr a7 s2 σ H2 _ I2 q2) λws s3 ⟨ps,H3,I3,rel,q3⟩=>⟨(x,y)::ps,H3,I3,.cons ⟨rx,ry⟩ rel,q3⟩)
noncomputable def Di (a8 more:List (Key × V)):List (Key × V):=more.foldl (λd6 kv=>putK d6 kv.1 kv.2) a8
theorem KV.merge:∀ {more:List (Key × V)} {rs:List (Key × Value)} {a8:List (Key × V)} {vs:List (Key × Value)},KV more rs->KV a8 vs->KV (Di a8 more) (merged vs rs):=by
 intro more rs a8 vs r
 unfold KV at r
 induction r generalizing a8 vs with
 | nil=>intro q;exact q
 | @cons p q ps qs h t ih =>
  intro r0
  have e:KV (putK a8 p.1 p.2) (stored vs q.1 q.2):=by
   have:=r0.put p.1 h.2
   rw[<-h.1];exact this
  exact ih e
theorem Ih:∀ (more a8:List (Key × V)),(Di a8 more).length<=a8.length+more.length
 | [],a8=>by show a8.length<=a8.length+0;omega
 | p::r,a8=>by
  have h1:=Ih r (putK a8 p.1 p.2)
  have h2:=CP a8 p.1 p.2
  show (Di (putK a8 p.1 p.2) r).length<=_
  rw[aS];omega
theorem Ke {P:Program} {w:World}:∀ {a8:List (Key × V)} {ws:List (Value × Value)},VV (a8.map λkv=>(kV kv.1,kv.2)) ws->∃ rs,Carries (DR P w) ws rs/\KV a8 rs
 | [],_,r=>by rw[kS] at r;cases r;exact⟨[],True.intro,.nil⟩
 | p::a8,_,r=>by
  rw[cS] at r
  cases r with
  | @cons a b as bs h t =>
   obtain⟨rs,c,q⟩:=Ke (P:=P) (w:=w) t
   obtain⟨b1,b2⟩:=b
   exact⟨(p.1,b2)::rs,⟨S9 h.1,rfl,c⟩,.cons ⟨rfl,h.2⟩ q⟩
noncomputable def fD (ux:List (TE × TE)):TE:=λσ H Q=>∀ p,H p=none->RT ux σ (upd H p (.dK [])) λps H2=>H2 p=some (.dK [])/\∃ a8:List (Key × V),ps=a8.map (λkv=>(kV kv.1,kv.2))/\a8.length<=15/\Q (.ref p) (upd H2 p (.dK (Di [] a8)))
theorem Rj {X:Cx} {pos:Pos} {ow:List (Option Expr)} {md:List Expr} {ux:List (TE × TE)} (h:lY X pos ow md ux) (hall:ow.all (·.isSome)=true) (hl:ow.length=md.length) (h0:ow ≠ [])
  (OL:ow.length<=15):PE X (.Dict ow md pos) (fD ux):=by
 intro a7 s σ H Q I q
 have hn:=I.hok.fresh (ar s.heap.objs.size)
 have I1:=I.laid (a:=s.heap.objs.size) (o:=.dK []) (h':=s.heap.push { cls:=.type "dict",data:=.dict #[] }) (t':=s.toks) (λ_ _ q=>Heap.get?_push_of_some _ q) (ar _) (QM s.heap I.big)
 refine wpAny_Dict_walk (knd:=DR X.prog X.w) hall hl h0 OL (CW (h a7 _ σ _ _ I1 (q _ hn)) λws s2 f7=>?_)
 obtain⟨ps,H2,I2,rel,e,a8,ep,lk,q2⟩:=f7
 subst ep
 obtain⟨rs,c,rk⟩:=Ke (P:=X.prog) (w:=X.w) rel
 obtain⟨z,hd,X2,r0,dd⟩:=Y9 I2.hok e
 cases r0
 refine⟨rs,c,dd,λh' uX hs=>⟨.ref s.heap.objs.size,_,?_,rfl,q2⟩⟩
 have hz:(Di [] a8).length<=sizeLine:=by
  have h1:=Ih a8 []
  rw[kg] at h1
  rw[sizeLine_eq];omega
 have he:∃ q,h'.get? s.heap.objs.size=some q:=let ⟨q,_,_,hq,_⟩:=uX;⟨q,hq⟩
 exact NQ I2 (by rw[e];exact True.intro) hs he (Wl hz hd (rk.merge .nil) uX)
section
variable {X:Cx} {a7:List (Addr × Obj)} {σ:St} {H:Hp} {s:Shared} {a:Addr} {y d:V} {u r:Value} {o:Option V} {A:Around} {E:vSP}
end
section
variable {X:Cx} {o e f:Expr} {li i5:Pos} {td ty tx:TE}
end
section
variable {X:Cx} {a7:List (Addr × Obj)} {σ:St} {H:Hp} {s:Shared} {a:Addr} {a8:List (Key × V)} {A:Around} {E:vSP}
end
section
variable {X:Cx} {a7:List (Addr × Obj)} {σ:St} {H:Hp} {s:Shared} {a:Addr} {y:V} {u:Value} {A:Around} {E:vSP}
end
end L2
namespace HT
open PySem PyProof.Rows
section
open PySem.SeqAt
open PySem.AutoSeq1 (wpAny_loadPart')
open PySem.MeetsSeq PySem.MeetsSeq2 PySem.MeetsSeq3
end
section
variable {prog:Program} {w:World} {A:Around} {E:vSP} {s:Shared}
noncomputable def Ds (n d:Nat):Option Int->Nat
 | none=>d
 | some v=>if v<0 then (v+(n:Int)).toNat else min v.toNat n
theorem El (n d:Nat):Ds n d none=d:=rfl
theorem Dl (n d k:Nat):Ds n d (some (k:Int))=min k n:=by
 show (if (k:Int)<0 then ((k:Int)+(n:Int)).toNat else min (k:Int).toNat n)=min k n
 rw[if_neg (by omega),eJ]
theorem ao (n d:Nat) (hd:d<=n) (o:Option Int):Ds n d o<=n:=by
 cases o with
 | none=>exact hd
 | some v =>
  show (if v<0 then (v+(n:Int)).toNat else min v.toNat n)<=n
  by_cases hv:v<0
  ·rw[if_pos hv];omega
  ·rw[if_neg hv];exact Nat.min_le_right _ _
theorem Tc (v:Int) (n d:Nat):(if v<0 then max (v+(n:Int)) 0 else min v (n:Int))=((Ds n d (some v):Nat):Int):=by
 show (if v<0 then max (v+(n:Int)) 0 else min v (n:Int))=(((if v<0 then (v+(n:Int)).toNat else min v.toNat n):Nat):Int)
 by_cases hv:v<0
 ·simp only[if_pos hv];omega
 ·simp only[if_neg hv];omega
theorem RD (lo hi:Option Int) (n:Nat):Builtin.Slice.sliceAdjust lo hi 1 (n:Int)=(((Ds n 0 lo:Nat):Int),((Ds n n hi:Nat):Int)):=by
 have h1:¬ ((1:Int)<0):=by omega
 unfold Builtin.Slice.sliceAdjust
 simp only[h1,if_false]
 refine Prod.ext ?_ ?_
 ·cases lo with
  | none=>rfl
  | some v=>exact Tc v n 0
 ·cases hi with
  | none=>rfl
  | some v=>exact Tc v n n
theorem RK (i j:Nat):Builtin.Slice.slicePlaces (i:Int) (j:Int) 1=j - i:=by
 unfold Builtin.Slice.slicePlaces
 have h1:(1:Int) > 0:=by omega
 simp only[h1,if_true,Int.ediv_one]
 split <;> omega
theorem Ku {v:Value} {o:Option Int} {Q:Option Int->Shared->Prop} (p:IsPart v o) (h:Q o s):wpAny (model prog w) A (Builtin.Slice.slicePartIndex v) Q E s:=by
 cases p with
 | none=>exact slicePart_none h
 | int i t=>exact slicePart_int h
theorem Jo {sl:Addr} {vl vu:Value} {lo hi:Option Int} {n:Nat} {Q:Int × Int × Nat->Shared->Prop} (hs:s.heap.IsSliceOf sl vl vu .none) (pl:IsPart vl lo) (pu:IsPart vu hi)
  (h:Q (((Ds n 0 lo:Nat):Int),1,Ds n n hi - Ds n 0 lo) s):wpAny (model prog w) A (Builtin.Slice.sliceApplied (.ref sl) (pure (n:Int))) Q E s:=by
 obtain⟨os,yL,F',AH⟩:=id hs
 unfold Builtin.Slice.sliceApplied Builtin.Slice.sliceFields
 refine wpAny_bind (wpAny_bind (wpAny_field yL AH (x:=vl) rfl (wpAny_bind (wpAny_field yL AH (x:=vu) rfl (wpAny_bind (wpAny_field yL AH (x:=.none) rfl (wpAny_pure ?_)))))))
 refine wpAny_bind (slicePart_none ?_)
 show wpAny _ _ (if ((1:Int) == 0)=true then _ else _) _ _ s
 rw[if_neg (by decide)]
 refine wpAny_bind (Ku pl (wpAny_bind (Ku pu (wpAny_bind (wpAny_pure ?_)))))
 show wpAny _ _ (match Builtin.Slice.sliceAdjust lo hi 1 (n:Int) with | (lo,hi)=>pure (lo,(1:Int),Builtin.Slice.slicePlaces lo hi 1)) _ _ s
 rw[RD lo hi n]
 show wpAny _ _ (pure (((Ds n 0 lo:Nat):Int),(1:Int),Builtin.Slice.slicePlaces ((Ds n 0 lo:Nat):Int) ((Ds n n hi:Nat):Int) 1)) _ _ s
 rw[RK]
 exact wpAny_pure h
theorem Wj (xs:Array Value) (i k:Nat):((List.range k).filterMap λ(m:Nat)=>xs[((i:Int)+(m:Int) * 1).toNat]?).toArray=((xs.toList.drop i).take k).toArray:=by
 have e:(λ(m:Nat)=>xs[((i:Int)+(m:Int) * 1).toNat]?)=λm=>xs[i+m]?:=by
  funext m
  have:((i:Int)+(m:Int) * 1).toNat=i+m:=by omega
  rw[this]
 rw[e]
 have:=pick_run xs i k
 rw[List.filterMap_map] at this
 have e2:((λx=>xs[x]?) ∘ λx=>i+x)=λm=>xs[i+m]?:=rfl
 rw[e2] at this
 rw[this]
theorem JX {t sl:Addr} {a9:Array Value} {vl vu:Value} {lo hi:Option Int} {Q:vSP} (ht:IsTup s.heap t a9) (hs:s.heap.IsSliceOf sl vl vu .none) (pl:IsPart vl lo) (pu:IsPart vu hi)
  (hw:¬ (Ds a9.size 0 lo=0/\Ds a9.size a9.size hi=a9.size))
  (h:Q (.ref s.heap.objs.size) { s with heap:=s.heap.push { cls:=.type "tuple",data:=.seq ((a9.toList.drop (Ds a9.size 0 lo)).take (Ds a9.size a9.size hi - Ds a9.size 0 lo)).toArray } })
  (hsz:a9.size<=sizeLine):wpAny (model prog w) A (getItem (.ref t) (.ref sl)) Q E s:=by
 have htake:sizeOk (.seq ((a9.toList.drop (Ds a9.size 0 lo)).take (Ds a9.size a9.size hi - Ds a9.size 0 lo)).toArray):=by
  show ((a9.toList.drop (Ds a9.size 0 lo)).take (Ds a9.size a9.size hi - Ds a9.size 0 lo)).toArray.size<=sizeLine
  rw[dv,cE,fE,Array.length_toList]
  omega
 have hj:Ds a9.size a9.size hi<=a9.size:=ao _ _ (ar _) hi
 obtain⟨os,yL,F',AH⟩:=id hs
 have hTs:s.TypeIs (.ref sl) "slice":=⟨os,yL,F'⟩
 unfold getItem
 try with_reducible refine wpAny_holding ?_
 first | refine wpAny_bind (wpAny_pure ?_) | skip
 refine wpAny_bind (wpAny_sequenceKey ht.typeIs (by decide) ?_)
 refine wpAny_bind (wpAny_callSpecial?_slot (name:=Str.ofString "__getitem__") ht.typeIs PyProof.Rows.slot_tuple_getitem
  (wpAny_call_entry PyProof.Rows.slot_tuple_getitem ht.typeIs entry_tuple_getitem ?_ (args_tuple_getitem _ _)))
 show wpAny _ _ (Builtin.Tuple.tupleItemsOf (.ref t) >>= _) _ _ s
 refine wpAny_bind (tupleItemsOf_ ht ?_)
 refine wpAny_bind (wpAny_typeOf hTs ?_)
 rw[if_pos (by decide)]
 refine wpAny_bind (Jo hs pl pu ?_)
 have hno:¬ ((((Ds a9.size 0 lo:Nat):Int) == 0 && (1:Int) == 1 && (Ds a9.size a9.size hi - Ds a9.size 0 lo) == a9.size)=true):=by
  intro q
  rw[eI,eI] at q
  have q1:((Ds a9.size 0 lo:Nat):Int)=0:=eq_of_beq q.1.1
  have q2:Ds a9.size a9.size hi - Ds a9.size 0 lo=a9.size:=eq_of_beq q.2
  exact hw ⟨by omega,by omega⟩
 show wpAny _ _ (if (((Ds a9.size 0 lo:Nat):Int) == 0 && (1:Int) == 1 && (Ds a9.size a9.size hi - Ds a9.size 0 lo) == a9.size)=true then _ else _) _ _ s
 rw[if_neg hno,Wj]
 first
  | exact wpAny_bind (m:=Builtin.Tuple.tupleExact _) (wpAny_newObj_type (wpAny_pure ⟨_,rfl,wpAny_pure h⟩) htake)
  | exact wpAny_bind (m:=Builtin.Tuple.tupleExact _) (wpAny_newObj_type (wpAny_bind (wpAny_pure (wpAny_pure ⟨_,rfl,wpAny_pure h⟩))) htake)
  | exact wpAny_bind (wpAny_bind (m:=Builtin.Tuple.tupleExact _) (wpAny_newObj_type (wpAny_pure (wpAny_pure ⟨_,rfl,wpAny_pure h⟩)) htake))
  | exact wpAny_bind (wpAny_bind (m:=Builtin.Tuple.tupleExact _) (wpAny_newObj_type (wpAny_pure ⟨_,rfl,wpAny_pure h⟩) htake))
end
end HT
namespace L2
open PySem PySem.Spec PyProof.Rows
noncomputable abbrev TO:=St->Hp->(Option Int->Hp->Prop)->Prop
noncomputable def PO (X:Cx) (e:Option Expr) (t:TO):Prop :=
 ∀ (a7:List (Addr × Obj)) (s:Shared) (σ:St) (H:Hp) (Q:Option Int->Hp->Prop),Inv X a7 σ H s->t σ H Q ->
  wpAny (model X.prog X.w) X.A (evalPart e X.env) (λu s'=>∃ o H',Inv X a7 σ H' s'/\IsPart u o/\Q o H') X.xe s
noncomputable def Xn:TO:=λ_ H Q=>Q none H
noncomputable def jT (t:TE):TO:=λσ H Q=>t σ H λx H1=>∃ i,x=.int i/\Q (some i) H1
section
variable {X:Cx} {e:Expr} {te:TE} {lo hi:Option Expr} {tl th:TO} {pos p2:Pos}
theorem Dj:PO X none Xn:=by
 intro a7 s σ H Q I h
 rw[evalPart_none]
 exact wpAny_pure ⟨none,H,I,.none,h⟩
theorem Cu (h:PE X e te):PO X (some e) (jT te):=by
 intro a7 s σ H Q I hw
 rw[evalPart_some]
 refine CW (h a7 s σ H _ I hw) λu s1 f7=>?_
 obtain⟨x,H1,I1,r1,q1⟩:=f7
 obtain⟨i,rfl,q⟩:=q1
 obtain⟨t,rfl⟩:=r1
 exact⟨some i,H1,I1,.int i t,q⟩
noncomputable def lA (X:Cx) (r:V->Option Int->Option Int->Hp->VK->Prop):Prop :=
 ∀ (a7:List (Addr × Obj)) (s:Shared) (σ:St) (H:Hp) (x:V) (v vl vu:Value) (lo hi:Option Int) (sl:Addr) (Q:VK),Inv X a7 σ H s->RelV x v->s.heap.IsSliceOf sl vl vu .none->IsPart vl lo->IsPart vu hi->r x lo hi H Q ->
  ∃ T id,typeLookup (.type T) "__getitem__" = pure (some (.builtin id))/\s.TypeIs v T/\wpAny (model X.prog X.w) X.A (getItem v (.ref sl)) (EP X a7 σ Q) X.xe s
noncomputable def tG (r:V->Option Int->Option Int->Hp->VK->Prop) (te:TE) (tl th:TO):TE:=λσ H Q=>te σ H λx H1=>tl σ H1 λl H2=>th σ H2 λu H3=>r x l u H3 Q
theorem Cg {r:V->Option Int->Option Int->Hp->VK->Prop} (hr:lA X r) (he:PE X e te) (hl:PO X lo tl) (hu:PO X hi th):PE X (.Subscript e (.Slice lo hi none p2) pos) (tG r te tl th):=by
 intro a7 s σ H Q I h
 refine Subscript_ (CW (he a7 s σ H _ I h) λv s1 f7=>?_)
 obtain⟨x,H1,I1,r1,q1⟩:=f7
 refine wpAny_Slice (CW (hl a7 s1 σ H1 _ I1 q1) λvl s2 ⟨l,H2,I2,pl,q2⟩=>CW (hu a7 s2 σ H2 _ I2 q2) λvu s3 f7=>?_)
 obtain⟨u,H3,I3,pu,q3⟩:=f7
 rw[evalPart_none]
 refine wpAny_pure ?_
 have I4:Inv X a7 σ H3 { s3 with heap:=s3.heap.push { cls:=.type "slice",data:=.fields #[vl,vu,.none] } }:=I3.kept (t':=s3.toks) λb ob q=>Heap.get?_push_of_some _ q
 obtain⟨T,id,hT,ht,hg⟩:=hr a7 { s3 with heap:=s3.heap.push { cls:=.type "slice",data:=.fields #[vl,vu,.none] } } σ H3 x v vl vu l u s3.heap.objs.size Q I4 r1 (Heap.IsSliceOf.new ..) pl pu q3
 show wpAny (model X.prog X.w) X.A (subscriptTail e (.Slice lo hi none p2) v (.ref s3.heap.objs.size)) (EP X a7 σ Q) X.xe { s3 with heap:=s3.heap.push { cls:=.type "slice",data:=.fields #[vl,vu,.none] } }
 exact tail_any (ops:=[.ref s3.heap.objs.size,v]) ht hT hg (by with_unfolding_all rfl)
noncomputable def Cm (xs:List V) (lo hi:Option Int):List V:=(xs.drop (HT.Ds xs.length 0 lo)).take (HT.Ds xs.length xs.length hi - HT.Ds xs.length 0 lo)
theorem J2 (xs:List V) (lo hi:Option Int):(Cm xs lo hi).length<=xs.length:=by
 unfold Cm
 rw[cE,fE]
 omega
noncomputable def oA (K:W.Frag):V->Option Int->Option Int->Hp->VK->Prop:=λx lo hi H Q=>∃ a xs,x=.ref a/\Ga K H a xs /\
 ¬ (HT.Ds xs.length 0 lo=0/\HT.Ds xs.length xs.length hi=xs.length)/\∀ p,H p=none->Q (.ref p) (upd H p (.tup (Cm xs lo hi)))
theorem K5:lA X (oA X.K):=by
 intro a7 s σ H x v vl vu lo hi sl Q I rx hs pl pu h
 obtain⟨a,xs,rfl,hx,hw,q⟩:=h
 cases rx
 obtain⟨its,r,ht,hz⟩:=I.tuple hx
 have hlen:its.toArray.size=xs.length:=by rw[dv];exact r.length.symm
 refine⟨"tuple",_,PyProof.Rows.slot_tuple_getitem.lookup,ht.typeIs,?_⟩
 refine HT.JX ht hs pl pu (by rw[hlen];exact hw) ?_ (by rw[hlen];exact hz)
 rw[hlen]
 refine⟨.ref s.heap.objs.size,_,I.laid (t':=s.toks) (o:=.tup (Cm xs lo hi)) (λb ob q=>Heap.get?_push_of_some _ q) (ar _) ?_,rfl,q _ (I.hok.fresh (ar _))⟩
 exact⟨bp (J2 xs lo hi) hz,_,(r.drop (HT.Ds xs.length 0 lo)).take (HT.Ds xs.length xs.length hi - HT.Ds xs.length 0 lo),IsTup.new _ _⟩
end
noncomputable def YT (n:Nat) (i:Int):Option Nat:=if 0<=i then (if i<n then some i.toNat else none) else if -(n:Int)<=i then some (i+n).toNat else none
noncomputable def QX {α:Type} (xs:List α) (i:Int):Option α:=(YT xs.length i).bind λj=>xs[j]?
theorem XH {n:Nat} {i:Int} {j:Nat} (h:YT n i=some j):seqIndex? i n=some j/\j<n /\ -(n:Int)<=i/\i<n:=by
 unfold YT at h
 by_cases h0:0<=i
 ·rw[if_pos h0] at h
  by_cases h1:i<n
  ·rw[if_pos h1] at h
   have e:i.toNat=j:=Option.some.inj h
   exact⟨by rw[seqIndex_of h0 h1,e],by omega,by omega,h1⟩
  ·rw[if_neg h1] at h;cases h
 ·rw[if_neg h0] at h
  by_cases h1 : -(n:Int)<=i
  ·rw[if_pos h1] at h
   have e:(i+n).toNat=j:=Option.some.inj h
   exact⟨by rw[seqIndex_neg (by omega) h1,e],by omega,h1,by omega⟩
  ·rw[if_neg h1] at h;cases h
theorem N8 {α:Type} {xs:List α} {i:Int} {v:α} (h:QX xs i=some v):∃ j,seqIndex? i xs.length=some j/\xs[j]? = some v/\j<xs.length /\ -(xs.length:Int)<=i/\i<xs.length:=by
 unfold QX at h
 cases e:YT xs.length i with
 | none=>rw[e] at h;cases h
 | some j =>
  rw[e] at h
  obtain⟨h1,h2,h3,h4⟩:=XH e
  exact⟨j,h1,h,h2,h3,h4⟩
theorem Aq {α:Type} {xs:List α} {j:Nat} {v:α} (h:xs[j]? = some v):QX xs (j:Int)=some v:=by
 have hj:j<xs.length:=(ai.mp h).1
 have e:YT xs.length (j:Int)=some j:=by
  unfold YT
  rw[if_pos (by omega),if_pos (by omega)];simp
 unfold QX;rw[e];exact h
theorem Vv {α:Type} (xs:List α) (v:α):QX (xs++[v]) (-1)=some v:=by
 have hl:(xs++[v]).length=xs.length+1:=by simp
 have e:YT (xs++[v]).length (-1)=some xs.length:=by
  unfold YT
  rw[hl,if_neg (by decide),if_pos (by omega)]
  congr 1
  omega
 unfold QX
 rw[e]
 show (xs++[v])[xs.length]? = some v
 simp
noncomputable def Yc (b:Expr):Prop:=∀ o i,subscripted b false o i=operate [o,i] (getItem o i)
noncomputable def dJ (X:Cx) (r:R2):Prop :=
 ∀ (value slice:Expr) (a7:List (Addr × Obj)) (s:Shared) (σ:St) (H:Hp) (x y:V) (v u:Value) (Q:VK),Inv X a7 σ H s->RelV x v->RelV y u->r x y H Q ->
  subscripted slice false v u=operate [v,u] (getItem v u)->wpAny (model X.prog X.w) X.A (subscriptTail value slice v u) (EP X a7 σ Q) X.xe s
noncomputable def dR (X:Cx) (id:String) (r:V->List V->Hp->VK->Prop):Prop :=
 ∀ (a7:List (Addr × Obj)) (s:Shared) (σ:St) (H:Hp) (x:V) (xs:List V) (v:Value) (us:List Value) (Q:VK),Inv X a7 σ H s->RelV x v->Vals xs us->r x xs H Q ->
  wpAny (model X.prog X.w) X.A (call (.builtin id) (v::us)) (EP X a7 σ Q) X.xe s
section
variable {X:Cx} {a b:Expr} {ta tb:TE} {pos:Pos}
theorem BW {r:R2} (hr:dJ X r) (ha:PE X a ta) (hb:PE X b tb) (hs:Yc b):PE X (.Subscript a b pos) (eV r ta tb):=by
 intro a7 s σ H Q I h
 exact Subscript_ (aU ha hb I h λv u s2 x y H2 I2 rx ry q=>hr a b a7 s2 σ H2 x y v u Q I2 rx ry q (hs _ _))
noncomputable def fc (K:W.Frag):R2:=λx y H Q=>∃ p xs i v,x=.ref p/\y=.int i/\Dg K H p xs/\QX xs i=some v/\Q v H
noncomputable def gH (K:W.Frag):R2:=λx y H Q=>∃ p xs i v,x=.ref p/\y=.int i/\Ga K H p xs/\QX xs i=some v/\Q v H
noncomputable def oG:R2:=λx y H Q=>∃ z i c,x=.str z/\y=.int i/\z.length<=sizeLine/\QX z.cps.toList i=some c/\Q (.str ⟨#[c]⟩) H
theorem Cj:dJ X (fc X.K):=by
 intro value slice a7 s σ H x y v u Q I rx ry h hs
 obtain⟨p,xs,i,z,rfl,rfl,hq,he,q⟩:=h
 cases rx
 obtain⟨t,rfl⟩:=ry
 obtain⟨its,r,pl,hz⟩:=I.list hq
 obtain⟨j,h1,h2,h3,h4,h5⟩:=N8 he
 obtain⟨w,ew,oj⟩:=r.get h2
 have hl:=r.length
 have hn:=Jw
 have fin:EP X a7 σ Q w s:=⟨z,H,I,oj,q⟩
 by_cases h0:0<=i
 ·have hj:i.toNat=j:=by
   rw[seqIndex_of h0 h5] at h1
   exact Option.some.inj h1
  exact item_listR pl.isList h0 (by omega) (by rw[hj];simpa using ew) fin hs
 ·have hj:(i+(its.toArray.size:Int)).toNat=j:=by
   rw[seqIndex_neg (by omega) h4] at h1
   rw[dv,<-hl]
   exact Option.some.inj h1
  exact subscriptTail_builtinR (x:=w) pl.isList.typeIs slot_list_getitem.lookup
   (wpAny_getItem_list_neg (Q:=λr s'=>r=w/\EP X a7 σ Q r s') pl.isList (by omega) (by rw[List.size_toArray] <;> omega) (by omega) (by rw[hj];simpa using ew) ⟨rfl,fin⟩) hs
theorem cH:dJ X (gH X.K):=by
 intro value slice a7 s σ H x y v u Q I rx ry h hs
 obtain⟨p,xs,i,z,rfl,rfl,hq,he,q⟩:=h
 cases rx
 obtain⟨t,rfl⟩:=ry
 obtain⟨its,r,pl,hz⟩:=I.tuple hq
 obtain⟨j,h1,h2,h3,h4,h5⟩:=N8 he
 obtain⟨w,ew,oj⟩:=r.get h2
 have hl:=r.length
 have hn:=Jw
 have fin:EP X a7 σ Q w s:=⟨z,H,I,oj,q⟩
 exact subscriptTail_builtinR (x:=w) pl.typeIs slot_tuple_getitem.lookup
  (getItem_tuple (j:=j) (Q:=λr s'=>r=w/\EP X a7 σ Q r s') pl (by omega) (by omega) (by rw[List.size_toArray,<-hl];exact h1) (by simpa using ew) ⟨rfl,fin⟩) hs
theorem Qo:dJ X oG:=by
 intro value slice a7 s σ H x y v u Q I rx ry h hs
 obtain⟨z,i,c,rfl,rfl,hz,he,q⟩:=h
 obtain⟨t,rfl⟩:=rx
 obtain⟨t',rfl⟩:=ry
 obtain⟨j,h1,h2,h3,h4,h5⟩:=N8 he
 have hl:z.cps.toList.length=z.length:=by simp[Str.length]
 rw[hl] at h1 h4 h5
 have hn:=Jw
 exact tail_any (typeIs_str s z t) slot_str_getitem.lookup (getItem_str (c:=c) (by
  have e1:decide (i < -(2 ^ 63:Int))=false:=decide_eq_false (by omega)
  have e2:decide (i ≥ 2 ^ 63)=false:=decide_eq_false (by omega)
  rw[e1,e2,Bool.or_false]) (by rw[h1];simpa using h2) ⟨.str ⟨#[c]⟩,H,I.tok _,⟨_,rfl⟩,q⟩) hs
theorem Ni (lo hi:Option Int) (n:Nat):(sliceBounds lo hi none n).1=((HT.Ds n 0 lo:Nat):Int)/\(sliceBounds lo hi none n).2.1=((HT.Ds n n hi:Nat):Int)/\(sliceBounds lo hi none n).2.2=1:=by
 refine⟨?_,?_,rfl⟩
 ·cases lo with
  | none=>simp[sliceBounds,HT.Ds]
  | some i =>
   simp only[sliceBounds,HT.Ds,Option.getD_none,show (1:Int) > 0 by decide,if_true]
   by_cases h:i<0
   ·simp only[h,if_true] <;> omega
   ·simp only[h,if_false] <;> omega
 ·cases hi with
  | none=>simp[sliceBounds,HT.Ds]
  | some i =>
   simp only[sliceBounds,HT.Ds,Option.getD_none,show (1:Int) > 0 by decide,if_true]
   by_cases h:i<0
   ·simp only[h,if_true] <;> omega
   ·simp only[h,if_false] <;> omega
theorem Lp (its:List Value) (lo hi:Option Int):slicePick its.toArray lo hi none=((its.drop (HT.Ds its.length 0 lo)).take (HT.Ds its.length its.length hi - HT.Ds its.length 0 lo)).toArray:=by
 obtain⟨h1,h2,h3⟩:=Ni lo hi its.toArray.size
 unfold slicePick
 rw[h1,h2,h3]
 simp only[sliceRange_one,pick_run,List.size_toArray] <;> rfl
noncomputable def nZ (K:W.Frag):V->Option Int->Option Int->Hp->VK->Prop:=λx lo hi H Q=>∃ a xs,x=.ref a/\Dg K H a xs/\∀ p,H p=none->Q (.ref p) (upd H p (.lst (Cm xs lo hi)))
theorem Ey:lA X (nZ X.K):=by
 intro a7 s σ H x v vl vu lo hi sl Q I rx hs pl pu h
 obtain⟨a,xs,rfl,hx,q⟩:=h
 cases rx
 obtain⟨its,r,ht,hz⟩:=I.list hx
 have hlen:=r.length
 refine⟨"list",_,slot_list_getitem.lookup,ht.isList.typeIs,?_⟩
 refine wpAny_getItem_list_slice ht.isList hs pl pu .none (by simp) ?_ (by rw[List.size_toArray] <;> omega)
 rw[Lp,<-hlen]
 refine⟨.ref s.heap.objs.size,_,I.laid (t':=s.toks) (o:=.lst (Cm xs lo hi)) (λb ob q=>Heap.get?_push_of_some _ q) (ar _) ?_,rfl,q _ (I.hok.fresh (ar _))⟩
 exact⟨bp (J2 xs lo hi) hz,_,0,(r.drop (HT.Ds xs.length 0 lo)).take (HT.Ds xs.length xs.length hi - HT.Ds xs.length 0 lo),Heap.get?_push_size _ rfl⟩
noncomputable def GK:V->Bool
 | .non=>true
 | .bl _=>true
 | .int _=>true
 | .str _=>true
 | _=>false
noncomputable def T_:V->V->Bool
 | .non,.non=>true
 | .bl a,.bl b=>a == b
 | .bl a,.int b=>(if a then 1 else 0) == b
 | .int a,.bl b=>a == (if b then 1 else 0)
 | .int a,.int b=>a == b
 | .str a,.str b=>a == b
 | _,_=>false
theorem RV {A:Around} {s:Shared} {y x:V} {u v:Value} (ry:RelV y u) (rx:RelV x v) (fy:GK y=true) (fx:GK x=true):SeqAt.EqAt A s u v (T_ y x):=by
 cases y with
 | non =>
  cases ry
  cases x with
  | non=>cases rx;exact SeqAt.EqAt.same _
  | bl b=>cases rx;exact SeqAt.EqAt.none_bool b
  | int b=>obtain⟨t,rfl⟩:=rx;exact SeqAt.EqAt.none_int b t
  | str b=>obtain⟨t,rfl⟩:=rx;exact SeqAt.EqAt.none_str b t
  | _=>exact absurd (show false=true from fx) Bool.false_ne_true
 | bl a =>
  cases ry
  cases x with
  | non=>cases rx;exact SeqAt.EqAt.bool_none a
  | bl b=>cases rx;exact SeqAt.EqAt.bool_bool a b
  | int b=>obtain⟨t,rfl⟩:=rx;exact SeqAt.EqAt.bool_int a b t
  | str b=>obtain⟨t,rfl⟩:=rx;exact SeqAt.EqAt.bool_str a b t
  | _=>exact absurd (show false=true from fx) Bool.false_ne_true
 | int a =>
  obtain⟨t',rfl⟩:=ry
  cases x with
  | non=>cases rx;exact SeqAt.EqAt.int_none a t'
  | bl b=>cases rx;exact SeqAt.EqAt.int_bool a t' b
  | int b=>obtain⟨t,rfl⟩:=rx;exact SeqAt.EqAt.int_int a t' b t
  | str b=>obtain⟨t,rfl⟩:=rx;exact SeqAt.EqAt.int_str a t' b t
  | _=>exact absurd (show false=true from fx) Bool.false_ne_true
 | str a =>
  obtain⟨t',rfl⟩:=ry
  cases x with
  | non=>cases rx;exact SeqAt.EqAt.str_none a t'
  | bl b=>cases rx;exact SeqAt.EqAt.str_bool a t' b
  | int b=>obtain⟨t,rfl⟩:=rx;exact SeqAt.EqAt.str_int a t' b t
  | str b=>obtain⟨t,rfl⟩:=rx;exact SeqAt.EqAt.str_str a t' b t
  | _=>exact absurd (show false=true from fx) Bool.false_ne_true
 | _=>exact absurd (show false=true from fy) Bool.false_ne_true
noncomputable def Qz (x:V) (u:Value):Bool:=match u with
 | .none=>T_ .non x
 | .bool b=>T_ (.bl b) x
 | .int i _=>T_ (.int i) x
 | .str z _=>T_ (.str z) x
 | _=>false
theorem Vz {x y:V} {u:Value} (r:RelV y u) (f:GK y=true):Qz x u=T_ y x:=by
 cases y with
 | non=>cases r;rfl
 | bl b=>cases r;rfl
 | int i=>obtain⟨t,rfl⟩:=r;rfl
 | str z=>obtain⟨t,rfl⟩:=r;rfl
 | _=>exact absurd (show false=true from f) Bool.false_ne_true
theorem JN {x:V}:∀ {xs:List V} {us:List Value},Vals xs us->xs.all GK=true->us.any (Qz x)=xs.any λy=>T_ y x
 | _,_,.nil,_=>rfl
 | y::xs,u::us,.cons r t,f=>by
  rw[kK,eI] at f
  rw[jS,jS,Vz r f.1,JN t f.2]
theorem Hu {A:Around} {s:Shared} {x:V} {v:Value} (rx:RelV x v) (fx:GK x=true):∀ {xs:List V} {us:List Value},Vals xs us->xs.all GK=true->∀ u∈us,SeqAt.EqAt A s u v (Qz x u)
 | _,_,.nil,_=>λu hu=>by cases hu
 | y::xs,u::us,.cons r t,f=>λu' hu=>by
  rw[kK,eI] at f
  rcases bq.mp hu with rfl | hu
  ·rw[Vz r f.1];exact RV r rx f.1 fx
  ·exact Hu rx fx t f.2 u' hu
noncomputable def inV (x:V) (xs:List V):Bool:=xs.any λy=>T_ y x
noncomputable def o7 (K:W.Frag) (neg:Bool):R2:=λx y H Q=>∃ p xs,y=.ref p/\(Dg K H p xs \/ Ga K H p xs)/\GK x=true/\xs.all GK=true/\Q (.bl (if neg then !inV x xs else inV x xs)) H
theorem Tg:HN X (compareOp .In) (o7 X.K false):=by
 intro a7 s σ H x y v u Q I rx ry h
 obtain⟨p,xs,rfl,hq,fx,fs,q⟩:=h
 cases ry
 rcases hq with hq | hq
 ·obtain⟨its,r,pl,hz⟩:=I.list hq
  refine SeqAt.in_listAt (Qz x) pl.isList (λw hw=>Hu rx fx r fs w (by simpa using hw)) ⟨.bl _,H,I,rfl,?_⟩
  rw[show its.toArray.any (Qz x)=its.any (Qz x) by simp,JN r fs]
  exact q
 ·obtain⟨its,r,pl,hz⟩:=I.tuple hq
  refine SeqAt.in_tupleAt (Qz x) pl (λw hw=>Hu rx fx r fs w (by simpa using hw)) ⟨.bl _,H,I,rfl,?_⟩
  rw[show its.toArray.any (Qz x)=its.any (Qz x) by simp,JN r fs]
  exact q
theorem JM:HN X (compareOp .NotIn) (o7 X.K true):=by
 intro a7 s σ H x y v u Q I rx ry h
 obtain⟨p,xs,rfl,hq,fx,fs,q⟩:=h
 cases ry
 rcases hq with hq | hq
 ·obtain⟨its,r,pl,hz⟩:=I.list hq
  refine SeqAt.notIn_listAt (Qz x) pl.isList (λw hw=>Hu rx fx r fs w (by simpa using hw)) ⟨.bl _,H,I,rfl,?_⟩
  rw[show its.toArray.any (Qz x)=its.any (Qz x) by simp,JN r fs]
  exact q
 ·obtain⟨its,r,pl,hz⟩:=I.tuple hq
  refine SeqAt.notIn_tupleAt (Qz x) pl (λw hw=>Hu rx fx r fs w (by simpa using hw)) ⟨.bl _,H,I,rfl,?_⟩
  rw[show its.toArray.any (Qz x)=its.any (Qz x) by simp,JN r fs]
  exact q
theorem Ay:Fx X (.builtin "len") (λxs H Q=>∃ p ys,xs=[.ref p]/\(Dg X.K H p ys \/ Ga X.K H p ys)/\Q (.int ys.length) H):=by
 intro a7 s σ H xs us Q I r h
 obtain⟨p,ys,rfl,hq,q⟩:=h
 obtain⟨u,rfl,rx⟩:=vals1 r
 cases rx
 have hn:=Jw
 rcases hq with hq | hq
 ·obtain⟨its,r',pl,hz⟩:=I.list hq
  have hlen:=r'.length
  exact Calls.call_len_list pl.isList (by simp only[List.size_toArray] <;> omega) ⟨.int ys.length,H,I.tok _,⟨s.toks+1,by rw[List.size_toArray,hlen]⟩,q⟩
 ·obtain⟨its,r',pl,hz⟩:=I.tuple hq
  have hlen:=r'.length
  exact len_tuple pl (by simp only[List.size_toArray] <;> omega) ⟨.int ys.length,H,I.tok _,⟨s.toks+1,by rw[List.size_toArray,hlen]⟩,q⟩
theorem Gz:Fx X (.builtin "len") (λxs H Q=>∃ z,xs=[.str z]/\z.length<=sizeLine/\Q (.int z.length) H):=by
 intro a7 s σ H xs us Q I r h
 obtain⟨z,rfl,hz,q⟩:=h
 obtain⟨u,rfl,t,rfl⟩:=vals1 r
 have hn:=Jw
 exact len_str (by omega) ⟨.int z.length,H,I.tok _,⟨_,rfl⟩,q⟩
theorem G_:Fx X (.type "list") (λxs H Q=>∃ p ys,xs=[.ref p]/\(Dg X.K H p ys \/ Ga X.K H p ys)/\∀ l,H l=none->Q (.ref l) (upd H l (.lst ys))):=by
 intro a7 s σ H xs us Q I r h
 obtain⟨p,ys,rfl,hq,q⟩:=h
 obtain⟨u,rfl,rx⟩:=vals1 r
 cases rx
 have fin:∀ (its:List Value),Vals ys its->ys.length<=sizeLine->∀ (h':Heap) (c':Nat),(∀ b o',s.heap.get? b=some o'->h'.get? b=some o') ->
   h'.get? s.heap.objs.size=some { cls:=.type "list",dict:=none,data:=.seq its.toArray c',slots:=#[] }->EP X a7 σ Q (.ref s.heap.objs.size) { s with heap:=h' }:=λits r' hz h' c' kp e =>
  ⟨.ref s.heap.objs.size,_,I.laid (t':=s.toks) kp (Nat.le_refl _) (show Bt X.prog X.w _ h' _ (.lst ys) from ⟨hz,its,c',r',e⟩),rfl,q _ (I.hok.fresh (Nat.le_refl _))⟩
 rcases hq with hq | hq
 ·obtain⟨its,r',pl,hz⟩:=I.list hq
  have hlen:=r'.length
  obtain⟨o,ho,hc,n,hd⟩:=pl.isList
  exact call_list_seq p (.inl rfl) ho hc hd (λh' c' kp e=>fin its r' hz h' c' kp e) (by simp only[List.size_toArray] <;> omega)
 ·obtain⟨its,r',pl,hz⟩:=I.tuple hq
  have hlen:=r'.length
  obtain⟨o,ho,hc,n,hd⟩:=pl
  exact call_list_seq p (.inr rfl) ho hc hd (λh' c' kp e=>fin its r' hz h' c' kp e) (by simp only[List.size_toArray] <;> omega)
theorem Ik:Fx X (.type "tuple") (λxs H Q=>∃ p ys,xs=[.ref p]/\((Dg X.K H p ys/\∀ l,H l=none->Q (.ref l) (upd H l (.tup ys))) \/ (Ga X.K H p ys/\Q (.ref p) H))):=by
 intro a7 s σ H xs us Q I r h
 obtain⟨p,ys,rfl,h⟩:=h
 obtain⟨u,rfl,rx⟩:=vals1 r
 cases rx
 rcases h with⟨hq,q⟩ | ⟨hq,q⟩
 ·obtain⟨its,r',pl,hz⟩:=I.list hq
  have hlen:=r'.length
  refine call_tuple_list pl.isList (λh' kp=>?_) (by simp only[List.size_toArray] <;> omega)
  have I1:Inv X a7 σ H { s with heap:=h' }:=I.kept (t':=s.toks) kp
  have I2:Inv X a7 σ (upd H h'.objs.size (.tup ys)) { s with heap:=h'.push { cls:=.type "tuple",data:=.seq its.toArray } } :=
   I1.laid (t':=s.toks) (λb o e=>Heap.get?_push_of_some _ e) (Nat.le_refl _) (show Bt X.prog X.w _ _ _ (.tup ys) from ⟨hz,its,r',IsTup.new _ _⟩)
  exact⟨.ref h'.objs.size,_,I2,rfl,q _ (I1.hok.fresh (ar _))⟩
 ·obtain⟨its,r',pl,hz⟩:=I.tuple hq
  exact call_tuple_same pl ⟨.ref p,H,I,rfl,q⟩
noncomputable def pN (K:W.Frag) (T:String) (x:V) (H:Hp):Prop:=match x with
 | .str _=>T = "str"
 | .int _=>T = "int"
 | .ref p=>(T = "list" /\ ∃ xs,Dg K H p xs) \/ (T = "tuple" /\ ∃ o,K.lookup p=some o/\o.cls=.type "tuple" /\ o.dict=none) \/
   (T = "dict" /\ ((∃ a8,H p=some (.dK a8)) \/ ∃ a8,H p=some (.dT a8))) \/ (T = "set" /\ ∃ S n,H p=some (.set S n))
 | _=>False
theorem Vm {a7:List (Addr × Obj)} {σ:St} {H:Hp} {s:Shared} {T:String} {x:V} {v:Value} (I:Inv X a7 σ H s) (r:RelV x v) (ty:pN X.K T x H) :
  s.TypeIs v T/\∀ a,v=.ref a->∃ ob,s.heap.get? a=some ob/\ob.dict=none:=by
 cases x with
 | str z =>
  obtain⟨t,rfl⟩:=r
  cases (show T = "str" from ty)
  exact⟨typeIs_str s z t,λ_ e=>nomatch e⟩
 | int i =>
  obtain⟨t,rfl⟩:=r
  cases (show T = "int" from ty)
  exact⟨typeIs_int s i t,λ_ e=>nomatch e⟩
 | ref p =>
  cases r
  rcases ty with⟨rfl,xs,hq⟩ | ⟨rfl,o,hk,hc,hd⟩ | ⟨rfl,hk⟩ | ⟨rfl,S,n,hk⟩
  ·obtain⟨its,_,pl,_⟩:=I.list hq
   refine⟨pl.isList.typeIs,λa e=>?_⟩
   cases e
   obtain⟨o,n,e,c,hd,_⟩:=pl
   exact⟨o,e,hd⟩
  ·refine⟨⟨o,I.Gv p o hk,hc⟩,λa e=>?_⟩
   cases e
   exact⟨o,I.Gv _ o hk,hd⟩
  ·have z:∃ o,s.heap.get? p=some o/\o.ExactDict:=by
    rcases hk with⟨a8,hk⟩ | ⟨a8,hk⟩
    ·obtain⟨_,_,_,_,o,_,_,e,ex,_⟩:=I.hok p _ hk
     exact⟨o,e,ex⟩
    ·obtain⟨_,_,_,_,o,_,_,e,ex,_⟩:=I.hok p _ hk
     exact⟨o,e,ex⟩
   obtain⟨o,e,ex⟩:=z
   refine⟨⟨o,e,ex.1⟩,λa e2=>?_⟩
   cases e2
   exact⟨o,e,ex.2.1⟩
  ·obtain⟨o,_,_,_,e,ex,_⟩:=I.hok p _ hk
   refine⟨⟨o,e,ex.1⟩,λa e2=>?_⟩
   cases e2
   exact⟨o,e,ex.2.1⟩
 | _=>exact False.elim ty
noncomputable def n_ (K:W.Frag) (T:String) (r:V->List V->Hp->VK->Prop) (to:TE):TE:=λσ H Q=>to σ H λx H1=>pN K T x H1/\r x [] H1 Q
noncomputable def uI (K:W.Frag) (T:String) (r:V->List V->Hp->VK->Prop) (to:TE) (t:TA):TE:=λσ H Q=>to σ H λx H1=>pN K T x H1/\t σ H1 λxs H2=>r x xs H2 Q
variable {o e:Expr} {es:List Expr} {to:TE} {t:TA} {name:Str} {li i5:Pos} {T id:String} {r:V->List V->Hp->VK->Prop}
theorem cA (pa:PlainAttrs T) (slot:Slot T name id) (sT:typeOf (.builtin id)=pure (.type "method_descriptor")) (hm:dR X id r) (ho:PE X o to)
  (hbase:attributeBase o name X.env (eval o X.env)=eval o X.env:=by rfl) (oy:(li.endLine == i5.line)=true:=by rfl):PE X (.Call (.Attribute o name li) [] [] i5) (n_ X.K T r to):=by
 intro a7 s σ H Q I h
 refine wpAny_Call_method0_late hbase oy (CW (ho a7 s σ H _ I h) λv s1 f7=>?_)
 obtain⟨x,H1,I1,r1,ty,q1⟩:=f7
 obtain⟨h1,h2⟩:=Vm I1 r1 ty
 exact⟨T,id,pa,slot,sT,h1,h2,Calls.callWith_builtin rfl (PySem.evalArgs_none (hm a7 s1 σ H1 x [] v [] Q I1 r1 .nil q1))⟩
theorem CV (pa:PlainAttrs T) (slot:Slot T name id) (sT:typeOf (.builtin id)=pure (.type "method_descriptor")) (hm:dR X id r) (ho:PE X o to) (ha:PA X (e::es) t)
  (hbase:attributeBase o name X.env (eval o X.env)=eval o X.env:=by rfl)
  (BB:((backTo i5 (starEach (e::es) X.env)).all (λx=>!x.1) && (backToKw i5 (keywordEach [] X.env)).all (λx=>x.1.isSome)
   && decide ((e::es).length+([]:List Keyword).length+(if ([]:List Keyword).isEmpty then 0 else 1)<30))=true:=by rfl)
  (oy:(li.endLine == i5.line)=true:=by rfl) (hs:starEach (e::es) X.env=(false,eval e X.env)::starEach es X.env:=by rfl) (xk:(backTo i5 (starEach es X.env)).any (·.1)=false:=by rfl) :
  PE X (.Call (.Attribute o name li) (e::es) [] i5) (uI X.K T r to t):=by
 intro a7 s σ H Q I h
 refine wpAny_Call_method_late hbase BB oy rfl (CW (ho a7 s σ H _ I h) λv s1 f7=>?_)
 obtain⟨x,H1,I1,r1,ty,q1⟩:=f7
 obtain⟨h1,h2⟩:=Vm I1 r1 ty
 refine⟨T,id,pa,slot,sT,h1,h2,?_⟩
 have hA:=ha i5 a7 s1 σ H1 _ I1 q1
 rw[hs] at hA |-
 refine Calls.callWith_builtin (by show (false || (backTo i5 (starEach es X.env)).any (·.1))=false;rw[xk] <;> rfl) (Calls.evalArgs_plain ?_)
 exact CW hA λus s2 ⟨vs,H2,I2,r2,q2⟩=>hm a7 s2 σ H2 x vs v us Q I2 r1 r2 q2
end
noncomputable def tE (X:Cx) (id:String) (r:V->List V->Hp->VK->Prop):Prop :=
 ∀ (a7:List (Addr × Obj)) (s:Shared) (σ:St) (H:Hp) (x:V) (xs:List V) (v:Value) (us:List Value) (Q:VK),Inv X a7 σ H s->RelV x v->Vals xs us->r x xs H Q ->
  wpAny (model X.prog X.w) X.A (call (.builtin id) (v::us)) (EP X a7 σ Q) X.xe s
theorem Vals.one:∀ {x:V} {us:List Value},Vals [x] us->∃ u,us=[u]/\RelV x u:=λh=>by cases h with | cons r t=>cases t;exact⟨_,rfl,r⟩
theorem Vals.two:∀ {x y:V} {us:List Value},Vals [x,y] us->∃ u v,us=[u,v]/\RelV x u/\RelV y v:=λh=>by cases h with | cons r t=>cases t with | cons q t=>cases t;exact⟨_,_,rfl,r,q⟩
theorem Vals.zero:∀ {us:List Value},Vals [] us->us=[]
 | _,.nil=>rfl
theorem Vals.rep {xs:List V} {us:List Value} (h:Vals xs us):∀ k:Nat,Vals (List.replicate k xs).flatten (List.replicate k us).flatten
 | 0=>.nil
 | k+1=>by
  rw[fh,fh,gy,gy]
  exact Vals.append h (Vals.rep h k)
theorem foldl_rep (its:List Value):∀ (k:Nat) (d6:List Value),
  List.foldl (λx1 x2=>x1++x2) d6.toArray (List.replicate k its.toArray)=(d6++(List.replicate k its).flatten).toArray
 | 0,d6=>by simp
 | k+1,d6=>by
  have e:d6.toArray++its.toArray=(d6++its).toArray:=by simp
  have e2:(d6++its)++(List.replicate k its).flatten=d6++(List.replicate (k+1) its).flatten:=by
   rw[fh,gy,dL]
  rw[<-e2,<-foldl_rep its k (d6++its),<-e,fh,ki]
section
variable {X:Cx} {a7:List (Addr × Obj)} {σ:St} {H:Hp} {s:Shared} {l b:Addr} {xs ys zs:List V}
theorem Inv.Z7 {its its':List Value} {n:Nat} {f:Array Value->Array Value} {t':Nat} (I:Inv X a7 σ H s) (hH:H l=some (.lst xs))
  (e:s.heap.get? l=some { cls:=.type "list",data:=.seq its.toArray n }) (hf:f its.toArray=its'.toArray) (hv:Vals ys its') (hz:ys.length<=sizeLine) :
  Inv X a7 σ (upd H l (.lst ys)) { s with heap:=s.heap.update l (Obj.mapSeq f),toks:=t' }:=by
 have q:=PySem.IsL.update e f
 rw[hf] at q
 refine I.write (x:=l) (e:=l) (by rw[hH];exact trivial) (.inl rfl) (λb' u hb hu=>(Heap.get?_update_other s.heap (Obj.mapSeq f) (Ne.symm hb)).trans hu) ⟨_,q⟩ ?_
 exact⟨hz,its',_,hv,q⟩
theorem Inv.Ue {its:List Value} {t':Nat} (I:Inv X a7 σ H s) (hv:Vals ys its) (hz:ys.length<=sizeLine) :
  Inv X a7 σ (upd H s.heap.objs.size (.lst ys)) { s with heap:=s.heap.push { cls:=.type "list",data:=.seq its.toArray },toks:=t' } :=
 I.laid (λ_ _ q=>Heap.get?_push_of_some _ q) (ar _) ⟨hz,its,0,hv,Heap.get?_push_size _ rfl⟩
theorem Inv.fresh (I:Inv X a7 σ H s):H s.heap.objs.size=none:=I.hok.fresh (ar _)
theorem Inv.Ql (I:Inv X a7 σ H s) (hH:H l=some (.lst xs)):xs.length<=sizeLine/\∃ (its:List Value) (n:Nat),Vals xs its/\xs.length=its.length/\s.heap.get? l=some { cls:=.type "list",data:=.seq its.toArray n }:=by
 obtain⟨z,its,n,r,e⟩:=I.hok l _ hH
 exact⟨z,its,n,r,r.length,e⟩
theorem P0 {n:Nat} (h:n<=sizeLine):Builtin.List.listTooLong n=false:=by
 unfold Builtin.List.listTooLong
 exact decide_eq_false (by omega)
end
section
variable {X:Cx}
noncomputable def Yn:V->List V->Hp->VK->Prop:=λx vs H Q=>∃ l xs y,x=.ref l/\vs=[y]/\H l=some (.lst xs)/\xs.length<sizeLine/\Q .non (upd H l (.lst (xs++[y])))
theorem Bv:tE X "list.append" Yn:=by
 intro a7 s σ H x vs v us Q I rx rv h
 obtain⟨l,xs,y,rfl,rfl,hH,hz,q⟩:=h
 cases rx
 obtain⟨u,rfl,ru⟩:=rv.one
 obtain⟨z,its,n,r,hl,e⟩:=I.Ql hH
 refine call_meets F.slot_list_append ⟨_,e,rfl⟩ F.entry_list_append (F.args_list_append_2 _ _) (PySem.list_append l its.toArray n u (by rw[dv];omega)) ⟨e,?_⟩
 refine⟨.non,_,I.Z7 (its':=its++[u]) hH e (by simp) (r.append (.cons ru .nil)) ?_,rfl,q⟩
 rw[aE,bv]
 omega
noncomputable def Xi:V->List V->Hp->VK->Prop:=λx vs H Q=>∃ l b xs zs,x=.ref l/\vs=[.ref b]/\H l=some (.lst xs)/\H b=some (.lst zs)/\xs.length+zs.length<=sizeLine/\Q .non (upd H l (.lst (xs++zs)))
theorem Uy:tE X "list.extend" Xi:=by
 intro a7 s σ H x vs v us Q I rx rv h
 obtain⟨l,b,xs,zs,rfl,rfl,hH,hB,hz,q⟩:=h
 cases rx
 obtain⟨u,rfl,ru⟩:=rv.one
 cases ru
 obtain⟨z,its,n,r,hl,e⟩:=I.Ql hH
 obtain⟨z2,oo,n2,r2,hl2,e2⟩:=I.Ql hB
 have hsz:its.toArray.size+oo.toArray.size<=sizeLine:=by rw[dv,dv];omega
 have hlong:¬ (!its.toArray.isEmpty && Builtin.List.listTooLong (its.toArray.size+oo.toArray.size))=true:=by
  rw[P0 hsz,ib]
  exact cy
 refine call_meets F.slot_list_extend ⟨_,e,rfl⟩ F.entry_list_extend (F.args_list_extend_2 _ _)
  (AutoSeq1.list_extend_list_list_0 l its.toArray n b oo.toArray n2 hlong (by rw[dv];omega) (by omega)) ⟨e,e2,?_⟩
 refine⟨.non,_,I.Z7 (its':=its++oo) hH e (by simp) (r.append r2) ?_,rfl,q⟩
 rw[aE]
 omega
noncomputable def mG:R2:=λx y H Q=>∃ l b xs zs,x=.ref l/\y=.ref b/\H l=some (.lst xs)/\H b=some (.lst zs)/\xs.length+zs.length<=sizeLine/\∀ p,H p=none->Q (.ref p) (upd H p (.lst (xs++zs)))
theorem Ef:HN X (binaryOp .Add) mG:=by
 intro a7 s σ H x y v u Q I rx ry h
 obtain⟨l,b,xs,zs,rfl,rfl,hH,hB,hz,q⟩:=h
 cases rx
 cases ry
 obtain⟨z,its,n,r,hl,e⟩:=I.Ql hH
 obtain⟨z2,oo,n2,r2,hl2,e2⟩:=I.Ql hB
 refine PySem.P.add_list e e2 ?_ (by rw[dv,dv];omega)
 have ea:its.toArray++oo.toArray=(its++oo).toArray:=by simp
 rw[ea]
 exact⟨.ref _,_,I.Ue (t':=s.toks) (r.append r2) (by rw[aE];omega),rfl,q _ I.fresh⟩
noncomputable def oY:R2:=λx y H Q=>∃ l k xs,x=.ref l/\y=.int k/\H l=some (.lst xs) /\ -(2 ^ 63)<=k/\k<2 ^ 63/\xs.length * k.toNat<=sizeLine /\
 ∀ p,H p=none->Q (.ref p) (upd H p (.lst (List.replicate k.toNat xs).flatten))
theorem len_rep {α:Type} (xs:List α) (k:Nat):(List.replicate k xs).flatten.length=k * xs.length:=by
 induction k with
 | zero=>simp
 | succ k ih=>rw[fh,gy,aE,ih,Nat.succ_mul,Nat.add_comm]
theorem W4:HN X (binaryOp .Mult) oY:=by
 intro a7 s σ H x y v u Q I rx ry h
 obtain⟨l,k,xs,rfl,rfl,hH,h1,h2,hz,q⟩:=h
 cases rx
 obtain⟨t,rfl⟩:=ry
 obtain⟨z,its,n,r,hl,e⟩:=I.Ql hH
 have hlen:its.toArray.size * k.toNat<=sizeLine:=by rw[dv,<-hl];exact hz
 have hcap:¬ its.toArray.size * k.toNat > (2 ^ 63 - 1) / 8:=by
  have:(sizeLine:Nat)<=(2 ^ 63 - 1) / 8:=by decide
  omega
 have hfit:¬ (!Builtin.List.listFitsIndex k)=true:=by
  rw[fitsIndex_both h1 h2]
  exact cy
 have hlong:¬ Builtin.List.listTooLong (its.toArray.size * k.toNat)=true:=by
  rw[P0 hlen]
  exact cy
 have hnew:List.foldl (λx1 x2=>x1++x2) #[] (List.replicate (if its.toArray.isEmpty=true then 0 else k.toNat) its.toArray)=(List.replicate k.toNat its).flatten.toArray:=by
  have f0:∀ m:Nat,List.foldl (λx1 x2=>x1++x2) #[] (List.replicate m its.toArray)=(List.replicate m its).flatten.toArray:=λm=>by
   have:=foldl_rep its m []
   rw[fT] at this
   exact this
  rw[f0]
  cases its with
  | nil=>simp
  | cons a r'=>rw[if_neg (by simp)]
 refine wpAny_binaryOp_repeat_ref (T:="list") (U:="int") (by decide) ⟨_,e,rfl⟩ (λs'=>typeIs_int s' k t) noFill_list_mul F.fills_int_mul F.slot_int_rmul repeat_list F.slot_int_index.lookup
  (call_meets F.slot_int_rmul (typeIs_int s k t) F.entry_int_rmul (F.args_int_rmul_2 _ _) (int___rmul___int_list k t l its.toArray n)
   ⟨e,rfl,⟨_,e,rfl⟩,call_meets F.slot_list_mul ⟨_,e,rfl⟩ F.entry_list_mul (F.args_list_mul_2 _ _) (AutoListH.list___mul___list_int_3 l its.toArray n k t hfit hcap hlong) ⟨e,?_⟩⟩)
 rw[hnew]
 exact⟨.ref _,_,I.Ue (t':=s.toks) (r.rep k.toNat) (by rw[len_rep,Nat.mul_comm];exact hz),rfl,q _ I.fresh⟩
end
section
variable {prog:Program} {w:World} {A:Around} {E:vSP} {s:Shared}
end
section
variable {X:Cx}
end
end L2
namespace Att
open PySem PySem.W PySem.Calls PyProof.Rows
theorem KC {P:Params} {h:Heap}:∀ (ns:List Int) (vs:List Value),WellAll P h vs (ns.map WData.int)->IntsAre vs ns:=by
 intro ns
 induction ns with
 | nil =>
  intro vs w
  rw[kS] at w
  cases w
  exact .nil
 | cons n ns ih =>
  intro vs w
  rw[cS] at w
  cases w with
  | cons a b =>
   cases a
   exact .cons _ _ (ih _ b)
theorem Uu {l:OpenLaw} {n:Nat} (hn:l.most=some n) {P:Params} {h:Heap} {args:List WData} {wU:List Value}
  (uf:l.row.toRowW.claim.pre args=true) (hwl:WellAll P h wU args) :
  ∃ a vs ns,wU=[Value.ref a]/\args=[WData.list (ns.map WData.int)]/\h.get? a=some { cls:=.type "list",data:=.seq vs.toArray }/\IntsAre vs ns/\ns.length<=n:=by
 have hsh:WShape.hasAll [] args [.list .int]=true:=(pre_splitW uf).1
 have hc:l.pre.holds [] { args:=args }=true:=(pre_splitW uf).2
 obtain⟨d,r,rfl,h1,h2⟩:=hasAllW_cons hsh
 obtain rfl:=hasAllW_nil h2
 obtain⟨xs,rfl,h3⟩:=hasW_list h1
 obtain⟨ns,rfl⟩:=items_int h3
 have hlen:ns.length<=n:=by
  unfold OpenLaw.pre at hc
  have h4:(WTm.not (.lt (.lit (.int (n:Int))) (.len (.arg 0)))).holds [] { args:=[.list (ns.map .int)] }=true:=by
   have h4:=(holds_andW hc).1
   rw[hn] at h4
   exact h4
  have h5:=condW_of h4 (w_not (w_lt w_lit (w_len_list (w_arg rfl))))
  rw[ae] at h5
  refine Nat.le_of_not_lt λq=>?_
  have q':(n:Int)<((ns.length:Nat):Int):=by omega
  first
   | (rw[decide_eq_true q'] at h5;exact absurd h5 (by decide))
   | (simp at h5;omega)
 cases hwl with
 | cons w1 w2 =>
  cases w2
  cases w1 with
  | list ho hall=>exact⟨_,_,ns,rfl,rfl,ho,KC ns _ hall,hlen⟩
theorem UJ (l:OpenLaw) (args:List WData):l.row.toRowW.claim.post args (.bool true) args=true :=
 postW_of (r:=l.row.toRowW) (X:=(true == true))
  (show WShape.has [] (.bool true) .bool=true by first | rfl | decide | simp[WShape.has,WShape.arms,WShape.armsAll])
  (show (WTm.eq .res (.lit (.bool true))).value [] { args:=args,res:=some (.bool true),after:=args }=some (.bool (true == true)) from w_eq_bool (w_res rfl) w_lit) rfl
theorem O4 {l:OpenLaw} {n:Nat} {q:Program} {nE:List Str} {XP:(Str->Option Value)->Heap->Prop} {YP:World->Heap->Prop} {d:DefRec}
  (hn:l.most=some n) (zP:d.params.defaults=[])
  (call:∀ (w:World) (s₀ s₁:Shared) (mg mb:Str->Option Value) (fa:Addr) (o:Obj) (pm cd i6:Value) (a:Addr) (vs:List Value) (ns:List Int),
   Ground q nE [] XP w s₀ mg mb s₁.heap->YP w s₁.heap ->
   s₁.heap.get? fa=some o->o.data=.func (docDef d.name d.params d.body d.scope pm cd i6)->s₁.heap.CodeRec cd d.name->mg d.name=some (.ref fa) ->
   s₁.heap.get? a=some { cls:=.type "list",data:=.seq vs.toArray }->IntsAre vs ns->ns.length<=n->s₁.gens = #[] ->
   codeAny (model l.prog w) callerA (.call (.ref fa) ⟨[.ref a],[]⟩) (λr s'=>r=.ok (.ret (.bool true))/\OldK s₁.heap s'.heap/\s'.os=s₁.os/\AllBare s'.gens) s₁) :
  WalkO q nE XP YP l.row.toRowW d [] (λf vs=>PySem.call f vs):=by
 intro w s₀ s₁ mg mb G Y fa o pm cd i6 dV kV ho hd lI hD CI hg args wU as uf UR WV hwl wD
 obtain rfl:dV=.none:=Dflts.none hD zP
 obtain rfl:kV=.none:=Dflts.noKw hD
 obtain⟨a,vs,ns,rfl,rfl,vU,sM,hlen⟩:=Uu hn uf hwl
 refine enter_call (codeAny_mono (call w s₀ s₁ mg mb fa o pm cd i6 a vs ns G Y ho (fd_plain hd) lI CI vU sM hlen hg) λr s' hq=>?_)
 obtain⟨rfl,h2,h3,h4⟩:=hq
 exact⟨.inl ⟨.bool true,.bool true,[],rfl,λ_=>rfl,.bool true,UJ l _,λ_=>⟨List.Pairwise.nil,λ_ hm=>(nomatch hm)⟩⟩,h2,h3,h4⟩
section
variable {prog:Program} {w:World} {A:Around} {E:vSP} {s:Shared} {K:Frag}
end
end Att
namespace L2
open PySem PySem.Spec PyProof.Rows
theorem Lw:∀ {vs:List Value} {ns:List Int},IntsAre vs ns->Vals (ns.map V.int) vs
 | _,_,.nil=>.nil
 | _,_,.cons n t h=>.cons ⟨t,rfl⟩ (Lw h)
noncomputable def Only (H:Hp):Prop:=∀ b,H b=none \/ ∃ o xs,H b=some (.frz o (.lst xs))
theorem V_ {P:Program} {w:World} {K:W.Frag} {mg mb:Str->Option Value} {CX:QZ} {k:Nat} {fa a:Addr} {fd:FuncData} {x:Str} {sp:Sp} {s₁:Shared} {vs:List Value} {ns:List Int}
  (KX:K.In s₁.heap) (hns:s₁.heap.Ns mainGlobals mg) (hb:s₁.heap.Ns builtinsNs mb) (rg:∀ x:Str,x ≠ "__name__"->mb x=bootBuiltins x) (Cc:s₁.heap.NoLimit) (hg:s₁.gens = #[])
  (ha:s₁.heap.get? a=some { cls:=.type "list",data:=.seq vs.toArray }) (hi:IntsAre vs ns) (hl:ns.length<=sizeLine) (hr:Ba k callerA)
  (F:∀ base:Heap,K.In base->base.Ns mainGlobals mg->A_ P w K mg base CX k fa fd [x] sp) (yx:∀ (s:Shared) (u:Value),BindsTo s fd ⟨[u],[]⟩ [(x,u)])
  (hsp:∀ H:Hp,Only H->Dg K H a (ns.map V.int)->sp [.ref a] H (λv _=>v=.bl true) λ_ _ _=>False)
  (FB:∀ H e s',CX [] H s₁ (λ_ _ _=>False) e s'->False) :
  codeAny (model P w) callerA (.call (.ref fa) ⟨[.ref a],[]⟩) (λr s'=>r=.ok (.ret (.bool true))/\OldK s₁.heap s'.heap/\s'.os=s₁.os/\AllBare s'.gens) s₁:=by
 have rv:=Lw hi
 have B4:=hi.length
 have core:∀ H:Hp,Only H->Dg K H a (ns.map V.int)->Fd P w H s₁.heap->(∀ b,H b ≠ none->b=a)->(H a ≠ none->K.lookup a=none) ->
   codeAny (model P w) callerA (.call (.ref fa) ⟨[.ref a],[]⟩) (λr s'=>r=.ok (.ret (.bool true))/\OldK s₁.heap s'.heap/\s'.os=s₁.os/\AllBare s'.gens) s₁:=by
  intro H hO hS hok hA hK
  have base_of:∀ {b:Addr} {o:Obj},s₁.heap.get? b=some o->H b=none->(Nz s₁.heap H).get? b=some o:=λe n=>W5 e n
  have noA:∀ {b:Addr} {o:Obj} {es:Array DictEntry} {ep:Nat},s₁.heap.get? b=some o->o.data=.dict es ep->H b=none:=λ{b o es ep} e d=>by
   cases q:H b with
   | none=>rfl
   | some u =>
    have e':b=a:=hA b (by rw[q];simp)
    subst e'
    rw[ha] at e;cases e
    have d':Data.seq vs.toArray _=Data.dict es ep:=d
    cases d'
  have nsK:∀ {b:Addr} {m:Str->Option Value},s₁.heap.Ns b m->(Nz s₁.heap H).Ns b m:=λ{b m} ⟨o,es,ep,e,d,r⟩=>⟨o,es,ep,base_of e (noA e d),d,r⟩
  have hKb:K.In (Nz s₁.heap H):=λb o e=>base_of (KX b o e) (by
   cases q:H b with
   | none=>rfl
   | some u =>
    have e':b=a:=hA b (by rw[q];simp)
    subst e'
    rw[hK (by rw[q];simp)] at e;cases e)
  have hM:Mod K mg (Nz s₁.heap H):=⟨hKb,nsK hns,⟨mb,nsK hb,rg⟩,let ⟨mc,h1,h2⟩:=Cc;⟨mc,nsK h1,h2⟩⟩
  have e0:Np P w K mg (Nz s₁.heap H) callerA [] s₁ H:=⟨rfl,hM,λb o e=>Xv e,Nat.le_of_eq (U7 _ _),trivial,λb hb=>absurd (show b∈([]:List Addr) from hb) (by simp),hok,.of_eq hg⟩
  refine codeAny_mono ((F _ hKb (nsK hns)).run callerA [] s₁ H ⟨[.ref a],[]⟩ [.ref a] [.ref a] _ _ hr e0 (yx s₁ (.ref a)) (.cons rfl .nil) (hsp H hO hS)) λr s' h=>?_
  cases r with
  | error e=>exact (FB H e s' h).elim
  | ok fl =>
   cases fl with
   | next=>exact False.elim h
   | brk=>exact False.elim h
   | cont=>exact False.elim h
   | ret u =>
    obtain⟨v,H',os,bare,un,EA,r',q⟩:=h
    have q':v=.bl true:=q
    subst q'
    obtain rfl:u=Value.bool true:=r'
    refine⟨rfl,OldK.of_keep λb o e=>?_,os,bare⟩
    cases q:H b with
    | none=>exact un.keep b o e q (by intro z;exact absurd (show b∈([]:List Addr) from z) (by simp)) (by simp)
    | some u =>
     rcases hO b with z | ⟨ob,xs,z⟩
     ·rw[q] at z;cases z
     ·have z2:=un.frzs b ob _ z
      obtain⟨e1,_⟩:=hok b _ z
      obtain⟨e2,_⟩:=EA b _ z2
      rw[e] at e1;cases e1
      exact e2
 cases hk:K.lookup a with
 | some o =>
  have e:=KX a o hk
  rw[ha] at e
  cases e
  refine core (λ_=>none) (λ_=>.inl rfl) (.inr ⟨_,vs.toArray,_,hk,rfl,rfl,rfl,by rw[List.size_toArray,B4];exact hl,by simpa using rv⟩) (λb u z=>by have z':(none:Option HO)=some u:=z;cases z') (λb z=>absurd rfl z) λz=>absurd rfl z
 | none =>
  refine core (λb=>if b=a then some (.frz { cls:=.type "list",data:=.seq vs.toArray } (.lst (ns.map V.int))) else none) (λb=>?_) (.inl (.inr ⟨{ cls:=.type "list",data:=.seq vs.toArray },if_pos rfl⟩)) (λb u z=>?_) (λb z=>?_) λ_=>hk
  ·by_cases hb:b=a
   ·exact .inr ⟨_,_,if_pos hb⟩
   ·exact .inl (if_neg hb)
  ·by_cases hb:b=a
   ·have z':=(if_pos hb).symm.trans z
    cases z'
    subst hb
    exact⟨ha,by rw[ae];exact hl,vs,_,rv,ha⟩
   ·have z':=(if_neg hb).symm.trans z
    cases z'
  ·by_cases hb:b=a
   ·exact hb
   ·exact absurd (if_neg hb) z
theorem YG {l:W.OpenLaw} {n k:Nat} {q:Program} {nE:List Str} {XP:(Str->Option Value)->Heap->Prop} {YP:World->Heap->Prop} {d:DefRec} {K:Params->W.Frag} {CX:World->QZ} {sp:World->Sp} {x:Str}
  (hn:l.most=some n) (As:n<=sizeLine) (zP:d.params.defaults=[]) (hr:Ba k callerA)
  (hY:∀ (w:World) (h:Heap),YP w h->(K w.params).In h)
  (F:∀ (w:World) (mg:Str->Option Value) (fa:Addr) (h:Heap),(K w.params).In h->h.Ns mainGlobals mg->mg d.name=some (.ref fa) ->
   ∃ fd:FuncData,(∀ (s:Shared) (u:Value),BindsTo s fd ⟨[u],[]⟩ [(x,u)]) /\
    ∀ base:Heap,(K w.params).In base->base.Ns mainGlobals mg->A_ l.prog w (K w.params) mg base (CX w) k fa fd [x] (sp w))
  (hsp:∀ (w:World) (H:Hp) (a:Addr) (ns:List Int),ns.length<=n->Only H->Dg (K w.params) H a (ns.map V.int)->sp w [.ref a] H (λv _=>v=.bl true) λ_ _ _=>False)
  (FB:∀ (w:World) (H:Hp) (s:Shared) (e:Value) (s':Shared),CX w [] H s (λ_ _ _=>False) e s'->False) :
  W.WalkO q nE XP YP l.row.toRowW d [] (λf vs=>PySem.call f vs):=by
 refine Att.O4 hn zP λw s₀ s₁ mg mb fa o pm cd i6 a vs ns G Y ho hd lI CI vU sM hlen hg=>?_
 have KX:=hY w _ Y
 obtain⟨fd,hb,hF⟩:=F w mg fa _ KX G.T.g CI
 exact V_ KX G.T.g G.T.b G.T.builtins G.T.nolimit hg vU sM (bp hlen As) hr hF hb (λH hO hS=>hsp w H a ns hlen hO hS) λH e s'=>FB w H s₁ e s'
noncomputable def inClass (s:Stmt) (j:Nat):Stmt:=match s with
 | .ClassDef _ _ _ body _ _ _ _ _ _ _=>body.getD j (.Pass ⟨0,0,0,0⟩)
 | _=>.Pass ⟨0,0,0,0⟩
noncomputable def Fe (s:Stmt):Arguments:=match s with
 | .FunctionDef _ a _ _ _ _ _ _ _ _=>a
 | _=>{ posonlyargs:=[],args:=[],vararg:=none,kwonlyargs:=[],kw_defaults:=[],kwarg:=none,defaults:=[] }
noncomputable def Dz (s:Stmt):List Stmt:=match s with
 | .FunctionDef _ _ b _ _ _ _ _ _ _=>b
 | _=>[]
noncomputable def Ah (s:Stmt):Scope:=match s with
 | .FunctionDef _ _ _ _ _ _ sc _ _ _=>sc
 | _=>{ kind:=.function,names:=[],isGenerator:=false,isCoroutine:=false }
noncomputable abbrev Bh:QZ:=λ_ _ _ _ _ _=>False
noncomputable abbrev E0:XK:=λ_ _ _=>False
theorem Az {X:Cx}:Hw Bh X E0:=λ_ _ _ _ _ _ _ h=>h.elim
structure Dm (K:W.Frag) (x qual:Str) (st:Stmt) (f:Addr) (fd:FuncData):Prop where
 ex:∃ (oc:Value) (od:Option Addr) (kV i6 pm:Value) (an:Option Addr) (b9 ct:Value) (rh:Array (Option Value)),
  fd=W.fnOf x qual (Fe st) (Dz st) (Ah st) .none kV i6 pm an b9 ct/\K.lookup f=some ⟨oc,od,.func fd,rh⟩/\W.codeIn K b9 qual=true
 kp:W.keepIn K (.ref f)=true
section
variable {P:Program} {w:World} {K:W.Frag} {mg:Str->Option Value} {base:Heap}
theorem Dm.ok {x qual:Str} {st:Stmt} {f:Addr} {fd:FuncData} {N ps:List Str} {k:Nat} {sp:Sp} (F:Dm K x qual st f fd) (S:BL N ps (Ah st)) (len:∀ vs H Q E,sp vs H Q E->vs.length=ps.length)
  (i7:∀ (b9:Value) (A:Around) (outer:List Env) (s:Shared) (H:Hp) (vs:List V) (Q:VK) (E:XK),Ba k (A.deeper (envOfC qual (Ah st) s.heap.objs.size f b9))->sp vs H Q E ->
   ∃ t,Oa (K8 Bh P w K mg base N qual (Ah st) f b9 A outer s H E).dO (Dz st) t/\t { nx:=λ_ H'=>Q .non H',rt:=Q } (start N vs) H):A_ P w K mg base Bh (k+1) f fd ps sp:=by
 obtain⟨oc,od,kV,i6,pm,an,b9,ct,rh,rfl,lk,lI⟩:=F.ex
 refine ZX lk lI S len λA outer s H vs Q E hr hsp=>?_
 obtain⟨t,h,q⟩:=i7 b9 A outer s H vs Q E hr hsp
 exact⟨t,h.dO,q⟩
theorem Dm.binds {x qual:Str} {st:Stmt} {f:Addr} {fd:FuncData} {ps:List Str} (F:Dm K x qual st f fd)
  (h:∀ (kV i6 pm:Value) (an:Option Addr) (b9 ct:Value) (us:List Value),us.length=ps.length->bindArgs (W.fnOf x qual (Fe st) (Dz st) (Ah st) .none kV i6 pm an b9 ct) ⟨us,[]⟩=pure (ps.zip us)):Binds K fd ps []:=by
 obtain⟨oc,od,kV,i6,pm,an,b9,ct,rh,rfl,lk,lI⟩:=F.ex
 exact .all (h kV i6 pm an b9 ct)
theorem Qy {x qual:Str} {st:Stmt} {f:Addr} {oc:Value} {od an:Option Addr} {rh:Array (Option Value)} {kV i6 pm b9 ct:Value} (l:K.lookup f=some ⟨oc,od,.func (W.fnOf x qual (Fe st) (Dz st) (Ah st) .none kV i6 pm an b9 ct),rh⟩)
  (c:W.codeIn K b9 qual=true) (k:W.keepIn K (.ref f)=true):Dm K x qual st f (W.fnOf x qual (Fe st) (Dz st) (Ah st) .none kV i6 pm an b9 ct):=⟨⟨oc,od,kV,i6,pm,an,b9,ct,rh,rfl,l,c⟩,k⟩
end
theorem Gf {A:Around} {k:Nat} (hr:Ba k A):A.units+1<cLine:=ck (kn (by decide:1<=64) _) hr.units
theorem Av {n:Nat} (h:n<=1000):n<sizeLine:=ck h (by decide)
section
variable {X:Cx}
theorem pv (i:Nat) {x:Str} {pos:Pos} (hN:X.N[i]? = some x:=by rfl) (hv:pY X.env.scope x:=by first | exact Or.inl rfl | exact Or.inr (Or.inl rfl) | exact Or.inr (Or.inr rfl)) (hd:(x == ("__debug__" : Str))=false:=by decide)
  (lI:(x == ("__classdict__" : Str))=false:=by decide):PE X (.Name x pos) (fQ i):=bc hN hv hd lI
end
theorem Ce {A B:Prop} (h:B):if false=true then A else B:=by
 rw[if_neg cy]
 exact h
theorem De {A B:Prop} (h:A):if true=true then A else B:=by
 rw[if_pos rfl]
 exact h
theorem Br {c A B:Prop} [Decidable c] (h1:c->A) (h2:¬ c->B):if c then A else B:=by
 by_cases h:c
 ·rw[if_pos h]
  exact h1 h
 ·rw[if_neg h]
  exact h2 h
theorem W7 {c A B:Prop} [Decidable c] (hc:c) (h:B):if (!decide c)=true then A else B:=by
 rw[decide_eq_true hc]
 exact Ce h
noncomputable def Ak (H H':Hp):Prop:=∀ b o,H b=some o->H' b=some o
theorem Ak.refl (H:Hp):Ak H H:=λ_ _ h=>h
theorem Ak.trans {H H1 H2:Hp} (a:Ak H H1) (b:Ak H1 H2):Ak H H2:=λc o h=>b c o (a c o h)
theorem Ak.free {H H':Hp} (e:Ak H H') {l:Addr} (h:H' l=Option.none):H l=Option.none:=by
 cases q:H l with
 | none=>rfl
 | some o =>
  rw[e l o q] at h
  cases h
theorem Ak.seq {K:W.Frag} {H H':Hp} {a:Addr} {xs:List V} (e:Ak H H') (h:Dg K H a xs):Dg K H' a xs:=by
 rcases h with (h | ⟨o,h⟩) | h
 ·exact .inl (.inl (e _ _ h))
 ·exact .inl (.inr ⟨o,e _ _ h⟩)
 ·exact .inr h
section
variable {X:Cx}
end
section
variable {κ:Type} [DecidableEq κ]
theorem S_:∀ {l:List κ} {k:κ},l.Nodup->¬ k∈l->(l++[k]).Nodup
 | [],k,_,_=>by simp
 | a::r,k,h,hk=>by
  obtain⟨h1,h2⟩:=hU.mp h
  show (a::(r++[k])).Nodup
  refine hU.mpr ⟨λm=>?_,S_ h2 λm=>hk (bq.mpr (Or.inr m))⟩
  rcases ba.mp m with q | q
  ·exact h1 q
  ·exact hk (bq.mpr (Or.inl (ax.mp q).symm))
end
section
variable {prog:Program} {w:World} {A:Around} {E:vSP} {s:Shared}
theorem Kd {it a:Addr} {i:Nat} {a9:Array Value} {x:Value} {Q:vSP} (j:s.heap.IsTupleIter it a i) (ht:s.heap.IsTuple a a9) (hx:a9[i]? = some x)
  (q:∀ h',h'.IsTupleIter it a (i+1)->Heap.SameBut it s.heap h'->Q x { s with heap:=h' }):wpAny (model prog w) A (Builtin.SmallTypes.nextOf (.ref it)) Q E s:=by
 have j0:=j
 obtain⟨o,e,c,d⟩:=j
 obtain⟨oa,ea,_,n,da⟩:=ht
 unfold Builtin.SmallTypes.nextOf
 refine wpAny_bind (wpAny_callSpecial?_slot (name:=Str.ofString "__next__") j0.typeIs F.slot_tuple_iterator_next (wpAny_call_entry F.slot_tuple_iterator_next j0.typeIs F.entry_tuple_iterator_next ?_ (F.args_tuple_iterator_next_1 _)))
 refine (show wpAny _ _ (field (.ref it) 0 >>= _) _ _ s from wpAny_bind (wpAny_field e d (x:=.ref a) rfl ?_))
 refine (show wpAny _ _ (if (Value.ref a == Value.none)=true then _ else _) _ _ s from ?_)
 rw[if_neg (by exact cy)]
 refine (show wpAny _ _ (field (.ref it) 1 >>= _) _ _ s from wpAny_bind (wpAny_field e d (x:=.int i 0) rfl ?_))
 refine (show wpAny _ _ (seqItems? (.ref a) >>= _) _ _ s from wpAny_bind (wpAny_seqItems ea da ?_))
 simp only[Int.toNat_natCast,hx]
 exact wpAny_bind (wpAny_setField e d (by simp) (wpAny_pure ⟨x,rfl,wpAny_pure (q _ ⟨_,Heap.get?_update_self _ e (Obj.isFreed_of_fields (Obj.data_mapFields d _)),(Obj.cls_mapFields ..).trans c,by rw[Obj.data_mapFields d];simp[rawInt]⟩ (Heap.SameBut.update ..))⟩))
theorem Kq {it a:Addr} {i:Nat} {a9:Array Value} {Q:vSP} (hh:A.handled=none) (j:s.heap.IsTupleIter it a i) (ht:s.heap.IsTuple a a9) (hx:a9[i]? = none)
  (q:∀ h' e,Heap.ExtBut it s.heap h'->(∃ o,h'.get? e=some o/\o.cls=.type "StopIteration")->E (.ref e) { s with heap:=h' }):wpAny (model prog w) A (Builtin.SmallTypes.nextOf (.ref it)) Q E s:=by
 have j0:=j
 obtain⟨o,e,c,d⟩:=j
 obtain⟨oa,ea,_,n,da⟩:=ht
 unfold Builtin.SmallTypes.nextOf
 refine wpAny_bind (wpAny_callSpecial?_slot (name:=Str.ofString "__next__") j0.typeIs F.slot_tuple_iterator_next (wpAny_call_entry F.slot_tuple_iterator_next j0.typeIs F.entry_tuple_iterator_next ?_ (F.args_tuple_iterator_next_1 _)))
 refine (show wpAny _ _ (field (.ref it) 0 >>= _) _ _ s from wpAny_bind (wpAny_field e d (x:=.ref a) rfl ?_))
 refine (show wpAny _ _ (if (Value.ref a == Value.none)=true then _ else _) _ _ s from ?_)
 rw[if_neg (by exact cy)]
 refine (show wpAny _ _ (field (.ref it) 1 >>= _) _ _ s from wpAny_bind (wpAny_field e d (x:=.int i 0) rfl ?_))
 refine (show wpAny _ _ (seqItems? (.ref a) >>= _) _ _ s from wpAny_bind (wpAny_seqItems ea da ?_))
 simp only[Int.toNat_natCast,hx]
 refine wpAny_bind (wpAny_rule (wpAny_bind (wpAny_setField e d (by simp) (show wpAny _ _ (newExc (.type "StopIteration") [] >>= _) _ _ _ from wpAny_bind ?_))))
 simp only[newExc,newTuple]
 refine wpAny_bind (wpAny_newObj_type (wpAny_bind (m:=firstArgMember _ _) (wpAny_of_eq (a:=Value.none) (by first | rfl | (simp only[firstArgMember];rfl)) (wpAny_newObj_type ?_ (by size_fits)))) (by size_fits))
 simp only[raiseNew]
 refine wpAny_bind (wpAny_handled ?_)
 first | rw[show A.in1.handled=none from hh] | rw[hh]
 exact wpAny_bind (wpAny_pure (wpAny_throw (q _ _ (((Heap.SameBut.update ..).extBut.push _).push _) ⟨_,Heap.get?_push_size _ rfl,rfl⟩)))
theorem U0 {z TI TO i1 i2 a1 a2:Addr} {k:Nat} {xs ys:Array Value} {x y a b:Value} {Q:vSP} (D:ZipApart z TI TO i1 i2 a1 a2)
  (hz:IsZip s.heap z TI TO .none) (hI:IsPair s.heap TI (.ref i1) (.ref i2)) (hO:IsPair s.heap TO a b)
  (j1:s.heap.IsTupleIter i1 a1 k) (j2:s.heap.IsTupleIter i2 a2 k) (t1:s.heap.IsTuple a1 xs) (t2:s.heap.IsTuple a2 ys) (hx:xs[k]? = some x) (hy:ys[k]? = some y)
  (q:∀ h',IsZip h' z TI TO (rawInt s.heap.objs.size)->IsPair h' TO x y->h'.IsTupleIter i1 a1 (k+1)->h'.IsTupleIter i2 a2 (k+1)->IsPair h' s.heap.objs.size x y->h'.objs.size=s.heap.objs.size+1 ->
   (∀ c o,c ≠ z->c ≠ TO->c ≠ i1->c ≠ i2->s.heap.get? c=some o->h'.get? c=some o)->Q (.ref s.heap.objs.size) { s with heap:=h' }) :
  wpAny (model prog w) A (Builtin.«zip.__next__» ⟨[.ref z],[]⟩) (λfin s'=>∃ v,fin=.done (.ret v)/\Q v s') E s:=by
 refine (show wpAny _ _ (field (.ref z) 2 >>= _) _ _ _ from wpAny_bind (wpAny_field hz rfl (x:=.bool false) rfl (show wpAny _ _ (field (.ref z) 3 >>= _) _ _ _ from wpAny_bind (wpAny_field hz rfl (x:=.ref TI) rfl (wpAny_bind (wpAny_seqItems hI rfl ?_))))))
 refine (show wpAny _ _ (Builtin.SmallTypes.ownedTupleIsFree (.ref z) >>= _) _ _ _ from wpAny_bind ?_)
 unfold Builtin.SmallTypes.ownedTupleIsFree
 refine wpAny_bind (wpAny_field hz rfl (x:=.none) rfl (wpAny_pure ?_))
 simp only[if_true]
 refine wpAny_bind (wpAny_rule (wpAny_bind (wpAny_field hz rfl (x:=.ref TO) rfl (wpAny_bind (wpAny_setField_rec hz (by simp) λh1 z1 s1=>?_)))))
 have y1:IsZip h1 z TI TO .ellipsis:=z1
 refine wpAny_bind ?_
 simp only[List.zipIdx_cons,List.zipIdx_nil,List.forIn_cons,List.forIn_nil]
 refine wpAny_bind (wpAny_bind (wpAny_onRaise (show wpAny _ _ (Builtin.SmallTypes.nextOf (.ref i1) >>= _) _ _ _ from wpAny_bind (Kd (j1.at λo e=>s1.extBut _ _ D.i1z e) (t1.at λo e=>s1.extBut _ _ D.l1z e) hx λh2 n1 s2=>wpAny_pure ?_))))
 have o2:IsPair h2 TO a b:=s2.extBut _ _ D.TOi1 (s1.extBut _ _ D.TOz hO)
 refine wpAny_bind (wpAny_seqItems o2 rfl (wpAny_bind (wpAny_updateSeq_pair o2 λh3 p3 s3=>?_)))
 have o3:IsPair h3 TO x b:=p3
 refine wpAny_bind (wpAny_letGo (wpAny_pure ?_))
 refine wpAny_bind (wpAny_bind (wpAny_onRaise (show wpAny _ _ (Builtin.SmallTypes.nextOf (.ref i2) >>= _) _ _ _ from wpAny_bind (Kd (j2.at λo e=>s3.extBut _ _ D.TOi2.symm (s2.extBut _ _ D.i12.symm (s1.extBut _ _ D.i2z e)))
  (t2.at λo e=>s3.extBut _ _ D.l2TO (s2.extBut _ _ D.l2i1 (s1.extBut _ _ D.l2z e))) hy λh4 n2 s4=>wpAny_pure ?_))))
 have o4:IsPair h4 TO x b:=s4.extBut _ _ D.TOi2 o3
 refine wpAny_bind (wpAny_seqItems o4 rfl (wpAny_bind (wpAny_updateSeq_pair o4 λh5 p5 s5=>?_)))
 have o5:IsPair h5 TO x y:=p5
 refine wpAny_bind (wpAny_letGo (wpAny_pure (wpAny_pure (wpAny_bind (wpAny_seqItems o5 rfl (wpAny_bind (wpAny_newTuple ?_)))))))
 have zs:h5.objs.size=s.heap.objs.size:=by rw[s5.1,s4.1,s3.1,s2.1,s1.1]
 have y5:IsZip h5 z TI TO .ellipsis:=s5.extBut _ _ D.TOz.symm (s4.extBut _ _ D.i2z.symm (s3.extBut _ _ D.TOz.symm (s2.extBut _ _ D.i1z.symm y1)))
 have k5:∀ c o,c ≠ z->c ≠ TO->c ≠ i1->c ≠ i2->s.heap.get? c=some o->h5.get? c=some o:=λc o c1 c2 c3 c4 e=>s5.extBut _ _ c2 (s4.extBut _ _ c4 (s3.extBut _ _ c2 (s2.extBut _ _ c3 (s1.extBut _ _ c1 e))))
 have m1:h5.IsTupleIter i1 a1 (k+1):=n1.at λo e=>s5.extBut _ _ D.TOi1.symm (s4.extBut _ _ D.i12 (s3.extBut _ _ D.TOi1.symm e))
 have m2:h5.IsTupleIter i2 a2 (k+1):=n2.at λo e=>s5.extBut _ _ D.TOi2.symm e
 have lz:z<h5.objs.size:=Heap.lt_size y5
 refine (show wpAny _ _ (Builtin.SmallTypes.ownedTupleHandOut (.ref z) (.ref h5.objs.size) >>= _) _ _ _ from wpAny_bind ?_)
 unfold Builtin.SmallTypes.ownedTupleHandOut
 have y6:IsZip (h5.push { cls:=.type "tuple",data:=.seq #[x,y] }) z TI TO .ellipsis:=Heap.get?_push_of_some _ y5
 refine wpAny_bind (wpAny_setField_rec y6 (by simp) λh7 p7 s7=>?_)
 have y7:IsZip h7 z TI TO (rawInt h5.objs.size):=p7
 refine wpAny_setField_rec y7 (by simp) λh8 p8 s8=>?_
 have y8:IsZip h8 z TI TO (rawInt h5.objs.size):=p8
 have up:∀ c o,c ≠ z->h5.get? c=some o->h8.get? c=some o:=λc o c1 e=>s8.extBut _ _ c1 (s7.extBut _ _ c1 (Heap.get?_push_of_some _ e))
 have t8:IsPair h8 h5.objs.size x y:=s8.extBut _ _ (im lz) (s7.extBut _ _ (im lz) (Heap.get?_push_size _ rfl))
 have z8:h8.objs.size=h5.objs.size+1:=by rw[s8.1,s7.1,Heap.size_push]
 rw[zs] at y8 t8 z8
 refine wpAny_pure ⟨_,rfl,?_⟩
 show Q (.ref h5.objs.size) _
 rw[zs]
 exact q h8 y8 (up _ _ D.TOz o5) (m1.at λo e=>up _ o D.i1z e) (m2.at λo e=>up _ o D.i2z e) t8 z8 λc o c1 c2 c3 c4 e=>up c o c1 (k5 c o c1 c2 c3 c4 e)
theorem VR {z TI TO i1 i2 a1 a2:Addr} {k:Nat} {xs:Array Value} {a b:Value} {Q:Fin->Shared->Prop} (hh:A.handled=none) (D:ZipApart z TI TO i1 i2 a1 a2)
  (hz:IsZip s.heap z TI TO .none) (hI:IsPair s.heap TI (.ref i1) (.ref i2)) (hO:IsPair s.heap TO a b)
  (j1:s.heap.IsTupleIter i1 a1 k) (t1:s.heap.IsTuple a1 xs) (hx:xs[k]? = none)
  (q:∀ h' e,(∀ c o,c ≠ z->c ≠ TO->c ≠ i1->c ≠ i2->s.heap.get? c=some o->h'.get? c=some o)->(∃ o,h'.get? e=some o/\o.cls=.type "StopIteration")->E (.ref e) { s with heap:=h' }) :
  wpAny (model prog w) A (Builtin.«zip.__next__» ⟨[.ref z],[]⟩) Q E s:=by
 refine (show wpAny _ _ (field (.ref z) 2 >>= _) _ _ _ from wpAny_bind (wpAny_field hz rfl (x:=.bool false) rfl (show wpAny _ _ (field (.ref z) 3 >>= _) _ _ _ from wpAny_bind (wpAny_field hz rfl (x:=.ref TI) rfl (wpAny_bind (wpAny_seqItems hI rfl ?_))))))
 refine (show wpAny _ _ (Builtin.SmallTypes.ownedTupleIsFree (.ref z) >>= _) _ _ _ from wpAny_bind ?_)
 unfold Builtin.SmallTypes.ownedTupleIsFree
 refine wpAny_bind (wpAny_field hz rfl (x:=.none) rfl (wpAny_pure ?_))
 simp only[if_true]
 refine wpAny_bind (wpAny_rule (wpAny_bind (wpAny_field hz rfl (x:=.ref TO) rfl (wpAny_bind (wpAny_setField_rec hz (by simp) λh1 z1 s1=>?_)))))
 have y1:IsZip h1 z TI TO .ellipsis:=z1
 refine wpAny_bind ?_
 simp only[List.zipIdx_cons,List.zipIdx_nil,List.forIn_cons,List.forIn_nil]
 refine wpAny_bind (wpAny_bind (wpAny_onRaise (show wpAny _ _ (Builtin.SmallTypes.nextOf (.ref i1) >>= _) _ _ _ from wpAny_bind (Kq hh (j1.at λo e=>s1.extBut _ _ D.i1z e) (t1.at λo e=>s1.extBut _ _ D.l1z e) hx λh2 x s2 hx2=>?_))))
 obtain⟨ox,ex,cx⟩:=hx2
 have y2:IsZip h2 z TI TO .ellipsis:=s2 _ _ D.i1z.symm y1
 have nz:x ≠ z:=λu=>by subst u;rw[y2] at ex;cases ex;simp at cx
 exact wpAny_setField_rec y2 (by simp) λh3 _ s3=>q h3 x (λc o c1 _ c3 _ e=>s3.extBut _ _ c1 (s2 _ _ c3 (s1.extBut _ _ c1 e))) ⟨ox,s3.extBut _ _ nz ex,cx⟩
end
noncomputable abbrev lg (h:Heap) (a1:Addr):Heap:=h.push { cls:=.type "tuple_iterator",data:=.fields #[.ref a1,.int 0 0] }
noncomputable abbrev lC (h:Heap) (a1 a2:Addr):Heap:=(lg h a1).push { cls:=.type "tuple_iterator",data:=.fields #[.ref a2,.int 0 0] }
noncomputable abbrev lH (h:Heap) (a1 a2:Addr):Heap:=(lC h a1 a2).push { cls:=.type "tuple",data:=.seq #[.ref h.objs.size,.ref (lg h a1).objs.size] }
noncomputable abbrev lR (h:Heap) (a1 a2:Addr):Heap:=(lH h a1 a2).push { cls:=.type "tuple",data:=.seq #[.none,.none] }
noncomputable abbrev dD (h:Heap) (a1 a2:Addr):Heap:=(lR h a1 a2).push { cls:=.type "zip",data:=.fields #[.none,.bool false,.bool false,.ref (lC h a1 a2).objs.size,.ref (lH h a1 a2).objs.size] }
theorem W3 (a1 a2:Addr) (xs ys:Array Value):Meets (Builtin.«zip.__new__» ⟨[.type "zip",.ref a1,.ref a2],[]⟩) (λ_ R s=>s.heap.IsTuple a1 xs/\s.heap.IsTuple a2 ys /\
   R (.ok (.ret (.ref (lR s.heap a1 a2).objs.size))) { s with heap:=dD s.heap a1 a2 }) :=
 .of_wp λprog w A R s h=>by
  obtain⟨hp,g,d,tk,os⟩:=s
  obtain⟨t1,t2,h⟩:=h
  have yH:=sub_zip
  have u1:Heap.IsTuple (Shared.heap ⟨hp,g,d,tk,os⟩) a1 xs:=t1
  have u2:Heap.IsTuple (Shared.heap ⟨hp.push { cls:=.type "tuple_iterator",data:=.fields #[.ref a1,.int 0 0] },g,d,tk,os⟩) a2 ys:=Heap.IsTuple.at t2 λo e=>Heap.get?_push_of_some _ e
  wp_walk using wpAny_pyIter_tuple u1,wpAny_pyIter_tuple u2
  exact⟨_,rfl,h⟩
section
variable {prog:Program} {w:World} {A:Around} {E:vSP} {s:Shared}
theorem Uh {a1 a2:Addr} {xs ys:Array Value} {Q:vSP} (t1:s.heap.IsTuple a1 xs) (t2:s.heap.IsTuple a2 ys)
  (q:∀ h' n,n=s.heap.objs.size->IsZip h' (n+4) (n+2) (n+3) .none->IsPair h' (n+2) (.ref n) (.ref (n+1))->IsPair h' (n+3) .none .none->h'.IsTupleIter n a1 0->h'.IsTupleIter (n+1) a2 0->h'.objs.size=n+5 ->
   (∀ c o,s.heap.get? c=some o->h'.get? c=some o)->Q (.ref (n+4)) { s with heap:=h' }):wpAny (model prog w) A (call (.type "zip") [.ref a1,.ref a2]) Q E s:=by
 refine callType_new F.called_zip (by decide) (F.typeCall_zip_2 _ _) (F.newCall_zip_2 _ _) (λobj=>F.args_object_init_3 obj _ _) F.entry_zip_new (W3 a1 a2 xs ys) ⟨t1,t2,?_⟩
 have z1:(lg s.heap a1).objs.size=s.heap.objs.size+1:=Heap.size_push ..
 have z2:(lC s.heap a1 a2).objs.size=s.heap.objs.size+2:=by rw[Heap.size_push,z1]
 have z3:(lH s.heap a1 a2).objs.size=s.heap.objs.size+3:=by rw[Heap.size_push,z2]
 have z4:(lR s.heap a1 a2).objs.size=s.heap.objs.size+4:=by rw[Heap.size_push,z3]
 have z5:(dD s.heap a1 a2).objs.size=s.heap.objs.size+5:=by rw[Heap.size_push,z4]
 have g5:(dD s.heap a1 a2).get? (lR s.heap a1 a2).objs.size=some _:=Heap.get?_push_size _ rfl
 have g4:(dD s.heap a1 a2).get? (lH s.heap a1 a2).objs.size=some _:=Heap.get?_push_of_some _ (Heap.get?_push_size _ rfl)
 have g3:(dD s.heap a1 a2).get? (lC s.heap a1 a2).objs.size=some _:=Heap.get?_push_of_some _ (Heap.get?_push_of_some _ (Heap.get?_push_size _ rfl))
 have g2:(dD s.heap a1 a2).get? (lg s.heap a1).objs.size=some _:=Heap.get?_push_of_some _ (Heap.get?_push_of_some _ (Heap.get?_push_of_some _ (Heap.get?_push_size _ rfl)))
 have g1:(dD s.heap a1 a2).get? s.heap.objs.size=some _:=Heap.get?_push_of_some _ (Heap.get?_push_of_some _ (Heap.get?_push_of_some _ (Heap.get?_push_of_some _ (Heap.get?_push_size _ rfl))))
 refine (show _/\_ from ?_)
 rw[z2,z3,z4] at g5
 rw[z1,z2] at g3
 rw[z3] at g4
 rw[z1] at g2
 rw[z4]
 exact⟨⟨_,g5,rfl⟩,q _ _ rfl g5 g3 g4 ⟨_,g1,rfl,rfl⟩ ⟨_,g2,rfl,rfl⟩ z5 λc o e=>Heap.get?_push_of_some _ (Heap.get?_push_of_some _ (Heap.get?_push_of_some _ (Heap.get?_push_of_some _ (Heap.get?_push_of_some _ e))))⟩
end
noncomputable def Dd (env:Env):List (Str × NameKind)->List (Str × Addr)->List (Str × Addr)
 | [],d6=>d6
 | (n,k)::r,d6=>if k == .free then (match env.cells.lookup n with | some a=>Dd env r ((n,a)::d6) | none=>Dd env r d6) else Dd env r d6
theorem JD {scope:Scope} {env:Env} (h:∀ y∈scope.names,y.2=.free->∃ c,env.cells.lookup y.1=some c):closureFor scope env=pure (Dd env scope.names []):=by
 unfold closureFor
 have key:∀ (l:List (Str × NameKind)) (d6:List (Str × Addr)),(∀ y∈l,y.2=.free->∃ c,env.cells.lookup y.1=some c) ->
   (forIn l d6 λ(x:Str × NameKind) (cs:List (Str × Addr))=>(match x with | (name,kind)=>if (kind == NameKind.free)=true then (do let a <-cellOf env name;pure (ForInStep.yield ((name,a)::cs))) else pure (ForInStep.yield cs):Sem (ForInStep (List (Str × Addr)))))=(pure (Dd env l d6):Sem _):=by
  intro l
  induction l with
  | nil=>intro d6 _;rfl
  | cons x r ih =>
   intro d6 hl
   obtain⟨n,k⟩:=x
   rw[List.forIn_cons]
   unfold Dd
   by_cases hk:(k == NameKind.free)=true
   ·obtain⟨c,hc⟩:=hl (n,k) List.mem_cons_self (by simpa using hk)
    have hc':env.cells.lookup n=some c:=hc
    have e:cellOf env n=pure c:=by unfold cellOf;rw[hc']
    simp only[hk,if_true,e,hc']
    exact ih _ λy hy=>hl y (aI _ hy)
   ·simp only[hk]
    exact ih _ λy hy=>hl y (aI _ hy)
 have:=key scope.names [] h
 exact (congrArg (λ(m:Sem (List (Str × Addr)))=>m >>= λz=>pure z) this).trans rfl
theorem Gp (env:Env):∀ (l:List (Str × NameKind)) (d6:List (Str × Addr)) (y:Str) (c:Addr),(Dd env l d6).lookup y=some c->d6.lookup y=some c \/ env.cells.lookup y=some c
 | [],_,_,_,h=>.inl h
 | (n,k)::r,d6,y,c,h=>by
  unfold Dd at h
  split at h
  ·split at h
   ·rename_i a ha
    rcases Gp env r _ y c h with z | z
    ·rw[ii] at z
     split at z
     ·rename_i e
      cases z
      have e':y=n:=by simpa using e
      subst e'
      exact .inr ha
     ·exact .inl z
    ·exact .inr z
   ·exact Gp env r _ y c h
  ·exact Gp env r _ y c h
theorem Hz (env:Env):∀ (l:List (Str × NameKind)) (d6:List (Str × Addr)) (y:Str),(d6.lookup y).isSome=true->((Dd env l d6).lookup y).isSome=true
 | [],_,_,h=>h
 | (n,k)::r,d6,y,h=>by
  unfold Dd
  split
  ·split
   ·refine Hz env r _ y ?_
    rw[ii]
    split
    ·rfl
    ·exact h
   ·exact Hz env r _ y h
  ·exact Hz env r _ y h
theorem Eu (env:Env):∀ (l:List (Str × NameKind)) (d6:List (Str × Addr)) (y:Str),(y,NameKind.free)∈l->(env.cells.lookup y).isSome=true->((Dd env l d6).lookup y).isSome=true
 | [],_,_,h,_=>nomatch h
 | (n,k)::r,d6,y,h,hc=>by
  unfold Dd
  rcases bq.mp h with e | h
  ·obtain⟨e1,e2⟩:=Prod.mk.inj e
   subst e1
   subst e2
   rw[if_pos (by decide)]
   split
   ·refine Hz env r _ y ?_
    rw[ii]
    simp
   ·rename_i e
    rw[e] at hc
    cases hc
  ·split
   ·split
    ·exact Eu env r _ y h hc
    ·exact Eu env r _ y h hc
   ·exact Eu env r _ y h hc
noncomputable def Il (x:Str) (N:List Str):List Str:=N.map λy=>if y=x then "" else y
noncomputable def Cd (X:Cx) (x:Str) (scope:Scope) (C:Addr) (s₀:Shared) (H₀:Hp) (fp:List Addr):Cx where
 prog:=X.prog
 w:=X.w
 K:=X.K
 mg:=X.mg
 base:=X.base
 A:=X.A
 N:=x::Il x X.N
 s₀:=s₀
 H₀:=H₀
 env:=compEnvC scope (Dd X.env scope.names []) C X.env
 outer:=X.stack
 stack:=X.stack
 ex:=fp
 fn:=λ_=>false
 calm:=X.calm
 pn:=[]
 xe:=λ_ _=>False
theorem Fv (env:Env) (y:Str):∀ names:List (Str × NameKind),
  (names.map λ(n,k)=>if (k == NameKind.free && env.scope.kind == .function && env.kindOf n == some .cell) then (n,NameKind.cell) else (n,k)).lookup y =
   (names.lookup y).map λk=>if (k == NameKind.free && env.scope.kind == .function && env.kindOf y == some .cell) then NameKind.cell else k
 | []=>rfl
 | (n,k)::r=>by
  have ih:=Fv env y r
  rw[cS]
  show List.lookup y ((if (k == NameKind.free && env.scope.kind == .function && env.kindOf n == some .cell)=true then (n,NameKind.cell) else (n,k))::_)=_
  have e0:(if (k == NameKind.free && env.scope.kind == .function && env.kindOf n == some .cell)=true then (n,NameKind.cell) else (n,k))=(n,if (k == NameKind.free && env.scope.kind == .function && env.kindOf n == some .cell)=true then NameKind.cell else k):=by split <;> rfl
  rw[e0,ii,ii]
  cases hx:y == n with
  | true =>
   have e:y=n:=by simpa using hx
   subst e
   rfl
  | false=>exact ih
structure Gn (X:Cx) (x:Str) (scope:Scope):Prop where
 kind:scope.kind=.function
 nocell:∀ y∈scope.names,y.2 ≠ .cell
 names:∀ y∈scope.names,y.2=.local->scope.names.lookup y.1=some .local
 loc:scope.names.lookup x=some .local
 free:∀ y∈scope.names,y.2=.free->X.env.kindOf y.1=some .cell \/ X.env.kindOf y.1=some .free
 nd:(x::Il x X.N).Nodup
 only:∀ y∈Il x X.N,scope.names.lookup y ≠ some .local
 noE:scope.names.lookup ("" : Str)=none
section
variable {X:Cx} {a7:List (Addr × Obj)} {σ:St} {H:Hp} {s:Shared} {x:Str} {scope:Scope} {fp:List Addr} {C:Addr}
theorem Qi {h':Heap} {tk:Nat} {m:Str->Option Value} (I:Inv X a7 σ H s) (S:Gn X x scope) (hf:∀ b∈fp,G7 X a7 H b) (hlt:∀ b∈fp,b<s.heap.objs.size) (hC:s.heap.objs.size<=C) (hn:h'.Ns C m)
  (hk:∀ b o,s.heap.get? b=some o->h'.get? b=some o):Inv (Cd X x scope C s H fp) [] (none::σ) H { s with heap:=h',toks:=tk }:=by
 have cl:∀ y c,(Dd X.env scope.names []).lookup y=some c->X.env.cells.lookup y=some c:=λy c e=>by
  rcases Gp X.env scope.names [] y c e with z | z
  ·cases z
  ·exact z
 have cellK:∀ c v,s.heap.IsCell c v->h'.IsCell c v:=λc v ⟨o,ho,hd⟩=>⟨o,hk c o ho,hd⟩
 have look:∀ y,(Cd X x scope C s H fp).env.scope.names.lookup y=(scope.names.lookup y).map λk=>if (k == NameKind.free && X.env.scope.kind == .function && X.env.kindOf y == some .cell) then NameKind.cell else k:=λy=>Fv X.env y scope.names
 refine⟨⟨I.ok.mod,S.kind,I.ok.glob,I.ok.blt,hC,λy z c e1 e2=>I.ok.inj y z c (cl y c e1) (cl z c e2),λy hy=>?_,λy c e _=>(by cases e),λh=>I.ok.hd h,I.ok.frames,.inl rfl,λb hb=>?_,I.bs,bp I.ok.bsz I.sz,λb o e hb=>?_,λb hb ng=>?_,I.stack,I.IW⟩,
  rfl,I.bare,Un.kept hk,⟨m,hn,λi y v h1 h2 h3=>?_⟩,λy c e=>?_,I.hok.fresh hC,λy c e=>I.freeC y c (cl y c e),λp hp=>absurd (show p∈([]:List (Addr × Obj)) from hp) (by simp),I.hok.kept hk,?_⟩
 ·-- every cell of the block is there
  have hy':(Cd X x scope C s H fp).env.scope.names.lookup y=some .cell \/ (Cd X x scope C s H fp).env.scope.names.lookup y=some .free:=hy
  rw[look y] at hy'
  cases e:scope.names.lookup y with
  | none=>rw[e] at hy';rcases hy' with z | z <;> cases z
  | some k =>
   have hm:=PySem.mem_of_lookup e
   have hfree:k=.free:=by
    rw[e] at hy'
    cases k with
    | free=>rfl
    | cell=>exact absurd rfl (S.nocell _ hm)
    | _=>rcases hy' with z | z <;> simp at z
   subst hfree
   obtain⟨c,hc⟩:=I.ok.has y (S.free _ hm rfl)
   exact fm.mp (Eu X.env scope.names [] y hm (by rw[hc];rfl))
 ·obtain⟨f0,f1,f2,f3,f4,f5⟩:=hf b hb
  exact⟨ci (bt (hlt b hb) hC),λy c e=>f4 y c (cl y c e)⟩
 ·obtain⟨f0,f1,f2,f3,f4,f5⟩:=hf b hb
  rcases f3 with z | z
  ·exact I.ok.noex b o e z
  ·exact absurd (bt (Heap.lt_size e) (bp I.ok.bsz z)) (fR _)
 ·obtain⟨f0,f1,f2,f3,f4,f5⟩:=hf b hb
  rcases bq.mp (I.Nj b ng) with e | e
  ·exact f1 e
  ·exact f2 e
 ·cases i with
  | zero =>
   have h2':(some none:Option (Option V))=some (some v):=h2
   cases h2'
  | succ i =>
   have h1':(Il x X.N)[i]? = some y:=h1
   have h2':σ[i]? = some (some v):=h2
   have hmem:y∈Il x X.N:=al h1'
   unfold Il at h1'
   rw[br] at h1'
   cases e0:X.N[i]? with
   | none=>rw[e0] at h1';cases h1'
   | some y0 =>
    rw[e0] at h1'
    have h1'':(if y0=x then ("" : Str) else y0)=y:=Option.some.inj h1'
    have h3':(Cd X x scope C s H fp).env.scope.names.lookup y=some .local \/ (Cd X x scope C s H fp).env.scope.names.lookup y=some .cell \/ (Cd X x scope C s H fp).env.scope.names.lookup y=some .free:=h3
    rw[look y] at h3'
    have hy0:y0=y:=by
     by_cases q:y0=x
     ·rw[if_pos q] at h1''
      rw[<-h1'',S.noE] at h3'
      rcases h3' with z | z | z <;> cases z
     ·rw[if_neg q] at h1''
      exact h1''
    subst hy0
    cases e:scope.names.lookup y0 with
    | none=>rw[e] at h3';rcases h3' with z | z | z <;> cases z
    | some k =>
     have hm:=PySem.mem_of_lookup e
     have hfree:k=.free:=by
      rw[e] at h3'
      cases k with
      | free=>rfl
      | cell=>exact absurd rfl (S.nocell _ hm)
      | «local»=>exact absurd e (S.only y0 hmem)
      | _=>rcases h3' with z | z | z <;> simp at z
     subst hfree
     have kd:=S.free _ hm rfl
     obtain⟨m0,wb,CU⟩:=I.loc
     obtain⟨u,r,l⟩:=CU i y0 v e0 h2' (by rcases kd with z | z;exact .inr (.inl z);exact .inr (.inr z))
     refine⟨u,r,.inr ⟨?_,?_⟩⟩
     ·have tI:(Cd X x scope C s H fp).env.scope.names.lookup y0=some (if (NameKind.free == NameKind.free && X.env.scope.kind == .function && X.env.kindOf y0 == some .cell) then NameKind.cell else NameKind.free):=by
       rw[look y0,e];rfl
      by_cases c:(NameKind.free == NameKind.free && X.env.scope.kind == .function && X.env.kindOf y0 == some .cell)=true
      ·rw[if_pos c] at tI;exact .inl tI
      ·rw[if_neg c] at tI;exact .inr tI
     ·rcases l with⟨lk,_⟩ | ⟨_,c,hc,hcell⟩
      ·exfalso
       rcases kd with z | z <;> (rw[show X.env.kindOf y0=some NameKind.local from lk] at z;cases z)
      ·obtain⟨c',hc'⟩:=fm.mp (Eu X.env scope.names [] y0 hm (by rw[hc];rfl))
       have:=cl y0 c' hc'
       rw[hc] at this
       cases this
       exact⟨c,hc',cellK c _ hcell⟩
 ·obtain⟨v,z⟩:=I.cell y c (cl y c e)
  exact⟨v,cellK c v z⟩
 ·show (none::σ).length=(x::Il x X.N).length
  simp[Il,I.len]
end
noncomputable def QS (X:Cx) (i9:List Expr) (t:TT):Prop :=
 ∀ (a7:List (Addr × Obj)) (s:Shared) (σ:St) (H:Hp) (Q:Bool->Hp->Prop),Inv X a7 σ H s->t σ H Q ->
  wpAny (model X.prog X.w) X.A (forIn i9 true λc r=>if r=true then do let ok <-isTrue c X.env (eval c X.env);pure (ForInStep.yield ok) else pure (ForInStep.yield r)) (TP X a7 σ Q) X.xe s
noncomputable def Yk:TT:=λ_ H Q=>Q true H
theorem CK {X:Cx}:QS X [] Yk:=λ_ _ _ H _ I h=>wpAny_tests_nil ⟨H,I,h⟩
theorem M6 {X:Cx} {c:Expr} {t:TT} (h:PT X c t):QS X [c] t:=λa7 s σ H Q I q=>wpAny_tests_one (h a7 s σ H Q I q)
noncomputable def G3 (J:It) (σ:St) (H1:Hp) (Q:VK) (tt:TT) (te:TE):Prop:=∀ D,H1 D=none->∃ W:Nat->Nat->List V->Hp->Prop,(∃ m,W 0 m [] (upd H1 D (.lst [])))/\∀ i m ys H2,W i m ys H2 ->
 (J.stop i H2/\Q (.ref D) H2) \/ (J.go i H2/\∀ x H3,J.yld i H2 x H3->tt (some x::σ) H3 λb H4 =>
  if b=true then te (some x::σ) H4 λy H5=>H5 D=some (.lst ys)/\ys.length<sizeLine/\∃ m',m'<m/\W (i+1) m' (ys++[y]) (upd H5 D (.lst (ys++[y])))
  else ∃ m',m'<m/\W (i+1) m' ys H4)
noncomputable def Zk (wi:TI) (tt:TT) (te:TE):TE:=λσ H Q=>wi σ H λJ H1=>G3 J σ H1 Q tt te
theorem Q9 {α:Type} {t:Sem α} {Q Q':α->Shared->Prop} {M:Model} {A:Around} {E:vSP} {s:Shared} (h:wpAny M A t Q (λ_ _=>False) s) (hQ:∀ a s,Q a s->Q' a s):wpAny M A t Q' E s:=wpAny_mono h hQ λ_ _ x=>x.elim
theorem Inv.sameBut {X:Cx} {a7:List (Addr × Obj)} {σ:St} {H:Hp} {s:Shared} {h':Heap} {C:Addr} (I:Inv X a7 σ H s) (f:G7 X a7 H C) (sb:Heap.SameBut C s.heap h'):Inv X a7 σ H { s with heap:=h' } :=
 I.turned (t':=s.toks) (λb o hb e=>(sb.2 b hb).trans e) f.1 f.2.1 f.2.2.2.1 f.2.2.2.2.1 f.2.2.2.2.2
section
variable {X:Cx} {x:Str} {scope:Scope}
theorem K9 {px pos:Pos} {iter k6:Expr} {i9:List Expr} {tt:TT} {te:TE} {a7:List (Addr × Obj)} {σ:St} {s2:Shared} {H2:Hp} {it:Addr} {fp:List Addr} {tn:Nat->Heap->Prop} {J:It} {E:vSP}
  {RR:Value->Addr->Result->Shared->Prop} {Q:VK}
  (hc:X.calm=true) (S:Gn X x scope) (ht:∀ C s₀ H₀ fp,QS (Cd X x scope C s₀ H₀ fp) i9 tt) (he:∀ C s₀ H₀ fp,PE (Cd X x scope C s₀ H₀ fp) k6 te)
  (I2:Inv X a7 σ H2 s2) (T:Turn X.prog X.w X.K (.Name x px) J fp it tn) (qB:tn 0 s2.heap) (f2:∀ b∈fp,G7 X a7 H2 b)
  (q:∀ D,H2 D=none->∃ W:Nat->Nat->List V->Hp->Prop,(∃ m,W 0 m [] (upd H2 D (.lst [])))/\∀ i m ys H2,W i m ys H2 ->
   (J.stop i H2/\Q (.ref D) H2) \/ (J.go i H2/\∀ x H3,J.yld i H2 x H3->tt (some x::σ) H3 λb H4 =>
    if b=true then te (some x::σ) H4 λy H5=>H5 D=some (.lst ys)/\ys.length<sizeLine/\∃ m',m'<m/\W (i+1) m' (ys++[y]) (upd H5 D (.lst (ys++[y])))
    else ∃ m',m'<m/\W (i+1) m' ys H4))
  (EW:∀ D C s' H' m,s'.heap.Ns C m->G7 X a7 H' C->Inv X a7 σ H' s'->Q (.ref D) H'->RR (.ref D) C (.ok .next) s') :
  wpAny (model X.prog X.w) X.A (newList []) (λd6 s₃=>wpAny (model X.prog X.w) X.A (newFunctionEnv scope X.env.globals (Dd X.env scope.names []) [] X.env.qual none .none (some X.env)) (λrX s₄ =>
   codeAny (model X.prog X.w) X.A (.compStart (.ListComp k6 [⟨.Name x px,iter,i9,0⟩] scope pos) 0 (.ref it) d6 { rX with scope:=relabel scope X.env }) (RR d6 rX.locals) s₄) E s₃) E s2:=by
 refine wpAny_newObj_type (wpAny_newFunctionEnv S.nocell (by intro y hy;simp at hy) (λh₁ vZ vm=>?_) S.kind)
 have I3:=I2.Ue (its:=[]) (ys:=[]) (t':=s2.toks) .nil (dc _)
 have hD0:H2 s2.heap.objs.size=none:=I2.fresh
 obtain⟨W,⟨m0,w0⟩,pi⟩:=q _ hD0
 generalize hs3:({ s2 with heap:=s2.heap.push { cls:=.type "list",data:=.seq ([]:List Value).toArray },toks:=s2.toks }:Shared)=s3 at I3
 have e3:s3.heap=s2.heap.push { cls:=.type "list",data:=.seq ([]:List Value).toArray }:=by rw[<-hs3]
 have hlt:∀ b∈fp,b<s2.heap.objs.size:=λb hb=>let ⟨_,e,_⟩:=T.obj _ _ qB b hb;Heap.lt_size e
 have hlt3:∀ b∈fp,b<s3.heap.objs.size:=λb hb=>by rw[e3,Heap.size_push];exact iO (hlt b hb)
 have f3:∀ b∈fp,G7 X a7 (upd H2 s2.heap.objs.size (.lst [])) b:=λb hb=>⟨by rw[Ao (ci (hlt b hb))];exact (f2 b hb).1,(f2 b hb).2⟩
 have hk1:∀ b o,s3.heap.get? b=some o->h₁.get? b=some o:=λb o e=>by
  have hne:b ≠ s3.heap.objs.size:=ci (Heap.lt_size e)
  rw[e3] at e hne
  exact vm.extBut b o hne (Heap.get?_push_of_some _ e)
 have hC:s3.heap.objs.size=(s2.heap.push { cls:=.type "list",data:=.seq ([]:List Value).toArray }).objs.size:=by rw[e3]
 have hns:h₁.Ns s3.heap.objs.size (λx=>([]:List (Str × Value)).reverse.lookup x):=by rw[hC];exact vZ
 have st3:tn 0 h₁:=T.keep _ _ _ qB λb hb o e=>hk1 b o (by rw[e3];exact Heap.get?_push_of_some _ e)
 have hDC:s2.heap.objs.size ≠ s3.heap.objs.size:=by rw[e3,Heap.size_push];exact ci (jp _)
 have start:∀ tk,Inv (Cd X x scope s3.heap.objs.size s3 (upd H2 s2.heap.objs.size (.lst [])) fp) [] (none::σ) (upd H2 s2.heap.objs.size (.lst [])) { s3 with heap:=h₁,toks:=tk }:=λtk =>
  Qi I3 S f3 hlt3 (ar _) hns hk1
 generalize hX:Cd X x scope s3.heap.objs.size s3 (upd H2 s2.heap.objs.size (.lst [])) fp=X' at start
 have eA:X'.A=X.A:=by rw[<-hX];rfl
 have eP:X'.prog=X.prog:=by rw[<-hX];rfl
 have eW:X'.w=X.w:=by rw[<-hX];rfl
 have eK:X'.K=X.K:=by rw[<-hX];rfl
 have eC:X'.env.locals=s3.heap.objs.size:=by rw[<-hX];rfl
 have loop:∀ tk,codeAny (model X.prog X.w) X.A (.compLoop (.ListComp k6 [⟨.Name x px,iter,i9,0⟩] scope pos) 0 (.ref it) (.ref s2.heap.objs.size) (compEnvC scope (Dd X.env scope.names []) s3.heap.objs.size X.env))
   (RR (.ref s2.heap.objs.size) s3.heap.objs.size) { s3 with heap:=h₁,toks:=tk }:=by
  intro tk
  subst hX
  refine codeAny_compLoop_tests (λn s'=>∃ i ys v0 H',Inv (Cd X x scope s3.heap.objs.size s3 (upd H2 s2.heap.objs.size (.lst [])) fp) [] (v0::σ) H' s'/\tn i s'.heap/\(∀ b∈fp,H' b=none)/\W i n ys H') ?_ m0
   ⟨0,[],none,_,start tk,st3,λb hb=>(f3 b hb).1,w0⟩
  rintro n s4 ⟨i,ys,v0,H4,I4,zQ,zz,w4⟩
  have stat:∀ {H':Hp},(∀ b∈fp,H' b=none)->∀ b∈fp,G7 (Cd X x scope s3.heap.objs.size s3 (upd H2 s2.heap.objs.size (.lst [])) fp) [] H' b:=λhn b hb=>by
   refine⟨hn b hb,(I4.ok.exf b hb).1,I4.ok.exfs b hb,.inl hb,(I4.ok.exf b hb).2,λp hp=>absurd (show p∈([]:List (Addr × Obj)) from hp) (by simp)⟩
  rcases pi i n ys H4 w4 with⟨stop,qn⟩ | ⟨go,step⟩
  ·refine CW (T.done (Cd X x scope s3.heap.objs.size s3 (upd H2 s2.heap.objs.size (.lst [])) fp) rfl rfl rfl hc i [] s4 (v0::σ) H4 _ I4 (stat zz) zQ stop) λr s5 ⟨hr,I5⟩=>?_
   subst hr
   obtain⟨m,hn,_⟩:=I5.loc
   refine EW _ _ s5 H4 m hn (I3.NB (ar _) I5.free) (I3.call' (s':=s5) (ch:=fp) I5.os I5.base I5.hok I5.bare (λb hb=>?_)) qn
   obtain⟨_,g1,_,g3,g4,g5⟩:=f3 b hb
   exact⟨g3,g1,g4,g5⟩
  ·refine CW (T.item (Cd X x scope s3.heap.objs.size s3 (upd H2 s2.heap.objs.size (.lst [])) fp) rfl rfl rfl hc i [] s4 (v0::σ) H4 _ I4 (stat zz) zQ go) λr s5 ⟨u,hr,h5⟩=>?_
   subst hr
   intro Γ p hΓ
   obtain⟨xv,H6,I6,r6,y6,wM,E8⟩:=h5 Γ p hΓ
   refine (?_:wpAny _ _ _ _ _ _) Γ p hΓ
   have EL:=I6.pinned (stat E8) (T.obj _ _ wM)
   have hloc:(Cd X x scope s3.heap.objs.size s3 (upd H2 s2.heap.objs.size (.lst [])) fp).env.scope.names.lookup x=some .local:=lookup_relabel_local S.loc
   have again:∀ {s7:Shared} {H7:Hp} {uQ:List V},Inv (Cd X x scope s3.heap.objs.size s3 (upd H2 s2.heap.objs.size (.lst [])) fp) ([]++Jv fp s5.heap) (some xv::σ) H7 s7->(∃ m',m'<n/\W (i+1) m' uQ H7) ->
     ∃ m,m<n/\∃ i ys v0 H',Inv (Cd X x scope s3.heap.objs.size s3 (upd H2 s2.heap.objs.size (.lst [])) fp) [] (v0::σ) H' s7/\tn i s7.heap/\(∀ b∈fp,H' b=none)/\W i m ys H':=λ{s7 H7 uQ} I7 hw=>by
    obtain⟨m',hm,w7⟩:=hw
    refine⟨m',hm,i+1,uQ,some xv,H7,I7.HQ,T.keep _ _ _ wM λb hb o e=>(I7.pin (b,o) (be _ (be _ (Ex hb e)))).1,λb hb=>?_,w7⟩
    obtain⟨o,e,d⟩:=T.obj _ _ wM b hb
    exact (I7.pin (b,o) (be _ (be _ (Ex hb e)))).2.1
   refine wpAny_assign_Name (La (X:=Cd X x scope s3.heap.objs.size s3 (upd H2 s2.heap.objs.size (.lst [])) fp) (i:=0) EL S.nd rfl (.inl hloc) r6 (λs7 I7=>?_) (.inr hloc))
   refine Q9 (ht _ _ _ _ _ s7 (some xv::σ) H6 _ I7 (step xv H6 y6)) λb s8 f7=>?_
   obtain⟨H8,I8,q8⟩:=f7
   cases b with
   | false =>
    rw[if_neg cy] at q8 |-
    exact again I8 q8
   | true =>
    rw[if_pos rfl] at q8 |-
    refine Q9 (he _ _ _ _ _ s8 (some xv::σ) H8 _ I8 q8) λy s9 f7=>?_
    obtain⟨yv,H9,I9,r9,CY,BG,q9⟩:=f7
    refine Q9 (Bv (X:=Cd X x scope s3.heap.objs.size s3 (upd H2 s2.heap.objs.size (.lst [])) fp) _ s9 (some xv::σ) H9 (.ref s2.heap.objs.size) [yv] (.ref s2.heap.objs.size) [y] (λ_ H'=>H'=upd H9 s2.heap.objs.size (.lst (ys++[yv]))) I9 rfl (.cons r9 .nil)
     ⟨_,ys,yv,rfl,rfl,CY,BG,rfl⟩) λ_ se ⟨_,uy,C6,_,FA⟩=>?_
    subst FA
    exact again C6 q9
 have key:=λtk=>codeAny_compStart_list (R:=RR (.ref s2.heap.objs.size) s3.heap.objs.size) (loop tk) (T.self X.A 0 { s3 with heap:=h₁,toks:=tk } (λCF s'=>codeAny (model X.prog X.w) X.A (.compLoop (.ListComp k6 [⟨.Name x px,iter,i9,0⟩] scope pos) 0 CF (.ref s2.heap.objs.size) (compEnvC scope (Dd X.env scope.names []) s3.heap.objs.size X.env)) (RR (.ref s2.heap.objs.size) s3.heap.objs.size) s') _ st3 (loop tk))
 subst hs3
 exact key _
theorem Bp {px pos:Pos} {iter k6:Expr} {i9:List Expr} {wi:TI} {tt:TT} {te:TE} (hc:X.calm=true) (S:Gn X x scope) (hi:PI X (.Name x px) iter wi)
  (ht:∀ C s₀ H₀ fp,QS (Cd X x scope C s₀ H₀ fp) i9 tt) (he:∀ C s₀ H₀ fp,PE (Cd X x scope C s₀ H₀ fp) k6 te) (hs:∀ x,foldedSetIterable iter X.env x=pure x:=by intro _;rfl) :
  PE X (.ListComp k6 [⟨.Name x px,iter,i9,0⟩] scope pos) (Zk wi tt te):=by
 intro a7 s σ H Q I h
 rw[eval_ListComp]
 refine wpAny_comprehension_free (use:=none) (cl:=Dd X.env scope.names []) rfl hs (JD λy hy hk=>I.ok.has y.1 (S.free y hy hk)) S.kind S.names (CW (hi a7 s σ H _ I h) λv s1 h1=>CW h1 λxQ s2 h2=>?_)
 obtain⟨it,fp,tn,J,H2,e,I2,T,qB,f2,q⟩:=h2
 subst e
 refine K9 (RR:=λd6 C=>compPost (model X.prog X.w) X.A X.xe none (EP X a7 σ Q) d6 C) (Q:=Q) hc S ht he I2 T qB f2 q ?_
 intro D C s' H' m hn hf hI hq
 exact⟨m,hn,λh' sb=>⟨.ref D,H',hI.sameBut hf sb,rfl,hq⟩⟩
theorem Xy {i:Nat} {y:Str} {px py pos yJ:Pos} {iter k6:Expr} {i9:List Expr} {wi:TI} {tt:TT} {te:TE} (hN:X.N.Nodup) (hi':X.N[i]? = some y) (hy:X.env.scope.names.lookup y=some .local) (hc:X.calm=true) (S:Gn X x scope) (hi:PI X (.Name x px) iter wi)
  (ht:∀ C s₀ H₀ fp,QS (Cd X x scope C s₀ H₀ fp) i9 tt) (he:∀ C s₀ H₀ fp,PE (Cd X x scope C s₀ H₀ fp) k6 te) (OS:swapsWith (.ListComp k6 [⟨.Name x px,iter,i9,0⟩] scope pos) (some (.Name y py)) yJ.line X.env=pure true:=by rfl) (hs:∀ x,foldedSetIterable iter X.env x=pure x:=by intro _;rfl) :
  PS X (.Assign [.Name y py] (.ListComp k6 [⟨.Name x px,iter,i9,0⟩] scope pos) yJ) (cM (Zk wi tt te) (Dw i)):=by
 intro a7 s σ H D' I h
 rw[exec_Assign_Name_used _ _ _ _ OS]
 refine wpAny_bind (wpAny_standAt (wpAny_bind ?_))
 show wpAny _ X.A (do let _ <-comprehension (.ListComp k6 [⟨.Name x px,iter,i9,0⟩] scope pos) scope X.env _ (newList []) false (eval iter X.env) (some (assign (.Name y py) X.env))) _ _ s
 refine wpAny_bind (wpAny_mono (wpAny_comprehension_free (use:=some (assign (.Name y py) X.env)) (cl:=Dd X.env scope.names []) (Q:=λ_ s'=>SP X a7 D' .next s') rfl hs (JD λy hy hk=>I.ok.has y.1 (S.free y hy hk)) S.kind S.names
  (CW (hi a7 s σ H _ I h) λv s1 h1=>CW h1 λxQ s2 h2=>?_)) (λ_ s' hq=>wpAny_pure (wpAny_pure hq)) λ_ _ e=>e)
 obtain⟨it,fp,tn,J,H2,e,I2,T,qB,f2,q⟩:=h2
 subst e
 refine K9 (RR:=λd6 C=>compPost (model X.prog X.w) X.A X.xe (some (assign (.Name y py) X.env)) (λ_ s'=>SP X a7 D' .next s') d6 C) (Q:=λx H1=>Dw i x σ H1 D'.nx) hc S ht he I2 T qB f2 q ?_
 intro D C s' H' m hn hf hI hq
 show wpAny _ X.A (assign (.Name y py) X.env (.ref D)) _ _ _
 refine wpAny_assign_Name (Jh hI hN hi' (.inl hy) (v:=.ref D) rfl (λs6 I6 rp=>?_) (.inr hy))
 obtain⟨a,sb,ha⟩:=rp
 have hCa:C ≠ a:=by
  rcases ha with z | z
  ·rw[z];exact hf.2.1
  ·exact Ne.symm (hf.2.2.2.2.1 y a z)
 exact⟨m,hn.sameBut sb hCa,λh' KM=>⟨_,H',I6.sameBut hf KM,hq⟩⟩
end
section
variable {σ:St} {H1:Hp} {Q:VK} {tt:TT} {te:TE}
theorem Gb {J:It} {xs:List V} (p:V->Bool) (f:V->V) (hz:xs.length<sizeLine)
  (DI:∀ i H x,Ak H1 H->xs[i]? = some x->J.go i H) (hy:∀ i H y H',Ak H1 H->i<xs.length->J.yld i H y H'->H'=H/\xs[i]? = some y) (sL:∀ H,Ak H1 H->J.stop xs.length H)
  (ht:∀ x∈xs,∀ H,Ak H1 H->∀ R:Bool->Hp->Prop,(∀ H',Ak H H'->R (p x) H')->tt (some x::σ) H R)
  (he:∀ x∈xs,p x=true->∀ H,Ak H1 H->∀ R:VK,(∀ H',Ak H H'->R (f x) H')->te (some x::σ) H R)
  (hq:∀ D H,H1 D=none->Ak H1 H->H D=some (.lst ((xs.filter p).map f))->Q (.ref D) H):G3 J σ H1 Q tt te:=by
 intro D hD
 have s0:Ak H1 (upd H1 D (.lst [])):=λb o e=>by rw[Ao (Al e hD)];exact e
 refine⟨λi m ys H=>m=xs.length - i/\i<=xs.length/\ys=((xs.take i).filter p).map f/\H D=some (.lst ys)/\Ak H1 H,⟨xs.length,by simp,Nat.zero_le _,by simp,Af,s0⟩,?_⟩
 rintro i m ys H ⟨rfl,hi,rfl,hd,hs⟩
 by_cases hlt:i<xs.length
 ·obtain⟨x,hx⟩:∃ x,xs[i]? = some x:=⟨xs[i],by simp[hlt]⟩
  refine .inr ⟨DI i H x hs hx,λy H3 A1=>?_⟩
  obtain⟨rfl,hy'⟩:=hy i H y H3 hs hlt A1
  rw[hx] at hy'
  cases hy'
  have hm:x∈xs:=al hx
  have hlen:(((xs.take i).filter p).map f).length<sizeLine:=by
   rw[ae]
   refine ck (fz _ _) (ck ?_ hz)
   rw[cE];omega
  refine ht x hm _ hs _ λH4 s4=>?_
  by_cases hp:p x=true
  ·rw[if_pos hp]
   refine he x hm hp H4 (hs.trans s4) _ λH5 s5=>?_
   refine⟨s5 _ _ (s4 _ _ hd),hlen,xs.length - (i+1),by omega,rfl,hlt,?_,Af,λb o e=>?_⟩
   ·rw[take_succ_filter p xs i x hx,if_pos hp,ce];rfl
   ·rw[Ao (Al e hD)];exact s5 _ _ (s4 _ _ (hs _ _ e))
  ·rw[if_neg hp]
   refine⟨xs.length - (i+1),by omega,rfl,hlt,?_,s4 _ _ hd,hs.trans s4⟩
   rw[take_succ_filter p xs i x hx,if_neg hp,eg]
 ·have e:i=xs.length:=by omega
  subst e
  rw[gg] at hd
  exact .inl ⟨sL H hs,hq D H hD hs hd⟩
theorem Qm {lo:Int} {n:Nat} (p:Int->Bool) (f:Int->V) (hz:n<sizeLine)
  (ht:∀ i:Nat,i<n->∀ H,Ak H1 H->∀ R:Bool->Hp->Prop,(∀ H',Ak H H'->R (p (lo+i)) H')->tt (some (.int (lo+i))::σ) H R)
  (he:∀ i:Nat,i<n->p (lo+i)=true->∀ H,Ak H1 H->∀ R:VK,(∀ H',Ak H H'->R (f (lo+i)) H')->te (some (.int (lo+i))::σ) H R)
  (hq:∀ D H,H1 D=none->Ak H1 H->H D=some (.lst ((((List.range n).map λ(i:Nat)=>lo+(i:Int)).filter p).map f))->Q (.ref D) H):G3 (Zj lo n) σ H1 Q tt te:=by
 let g:V->Int:=λv=>match v with | .int i=>i | _=>0
 have hxs:∀ i:Nat,i<n->((List.range n).map λ(i:Nat)=>V.int (lo+(i:Int)))[i]? = some (.int (lo+i)):=λi hi=>by simp[hi]
 refine Gb (xs:=(List.range n).map λ(i:Nat)=>V.int (lo+(i:Int))) (λv=>p (g v)) (λv=>f (g v)) (by simpa using hz) (λi H x _ hx=>?_) (λi H y H' _ hi hy=>?_) (λH _=>?_) (λx hx=>?_) (λx hx=>?_) (λD H h1 h2 h3=>?_)
 ·have:i<((List.range n).map λ(i:Nat)=>V.int (lo+(i:Int))).length:=(ai.mp hx).1
  show i<n
  simpa using this
 ·have hi':i<n:=by simpa using hi
  obtain⟨e1,e2⟩:=hy
  subst e2
  exact⟨e1,hxs i hi'⟩
 ·show n<=_
  simp
 ·obtain⟨i,hi,rfl⟩:=ay.mp hx
  exact ht i (gu.mp hi)
 ·obtain⟨i,hi,rfl⟩:=ay.mp hx
  exact he i (gu.mp hi)
 ·refine hq D H h1 h2 ?_
  rw[h3,ff,bg,ff,bg]
  rfl
noncomputable def lG (z:Str):It:=⟨λi _=>i<z.cps.size,λi H x H'=>H'=H/\∃ c,z.cps[i]? = some c/\x=.str ⟨#[c]⟩,λi _=>z.cps.size<=i⟩
theorem Wq {P:Program} {w:World} {K:W.Frag} {tg:Expr} {z:Str} {t0:Tok} {it:Addr} {ty:String} (sT:ty = "str_ascii_iterator" \/ ty = "str_iterator"):Turn P w K tg (lG z) [it] it (λi h=>h.IsStrIter it ty z t0 i) where
 mem:=by simp
 obj:=λi h st b hb=>by
  have e:b=it:=by simpa using hb
  subst e
  obtain⟨o,ho,hc,hd⟩:=st
  exact⟨o,ho,λv q=>by rw[hd] at q;cases q⟩
 keep:=λi h h' st k=>let ⟨o,ho,r⟩:=st;⟨o,k it (by simp) o ho,r⟩
 item:=by
  intro X hP hw hK hc i a7 s σ H E I hf st hg
  subst hP hw hK
  obtain⟨f0,f1,f2,f3,f4,f5⟩:=hf it (by simp)
  have hg':i<z.cps.size:=hg
  have hx:z.cps[i]? = some z.cps[i]:=Array.getElem?_eq_getElem hg'
  have fin:∀ h',h'.IsStrIter it ty z t0 (i+1)->Heap.SameBut it s.heap h'->∃ u,some (Value.str ⟨#[z.cps[i]]⟩ s.toks)=some u /\
    wpAny (model X.prog X.w) X.A (letOwnedTupleGo tg (.ref it) u) (λ_ s2=>∃ x H',Inv X a7 σ H' s2/\RelV x u/\(lG z).yld i H x H'/\s2.heap.IsStrIter it ty z t0 (i+1)/\∀ b∈[it],H' b=none) E { s with heap:=h',toks:=s.toks+1 }:=λh' ot sb=>by
   have I1:Inv X a7 σ H { s with heap:=h',toks:=s.toks+1 }:=I.turned (λb o hb e=>(sb.2 b hb).trans e) f0 f1 f3 f4 f5
   obtain⟨o,e,c,d⟩:=id ot
   refine⟨_,rfl,Ol (s:={ s with heap:=h',toks:=s.toks+1 }) e c d (by rcases sT with rfl | rfl <;> decide) ⟨.str ⟨#[z.cps[i]]⟩,H,I1,⟨_,rfl⟩,⟨rfl,_,hx,rfl⟩,ot,λb hb=>(hf b hb).1⟩⟩
  rcases sT with rfl | rfl
  ·exact wpAny_pyNext_ascii_item st hx fin
  ·exact wpAny_pyNext_wide_item st hx fin
 done:=by
  intro X hP hw hK hc i a7 s σ H E I hf st hg
  subst hP hw hK
  obtain⟨f0,f1,f2,f3,f4,f5⟩:=hf it (by simp)
  have hx:z.cps[i]? = none:=by
   have hg':z.cps.size<=i:=hg
   simpa using hg'
  rcases sT with rfl | rfl
  ·exact wpAny_pyNext_ascii_end (I.ok.hd hc) st hx λh' eb=>⟨rfl,I.turned (t':=s.toks) (λb o hb e=>eb b o hb e) f0 f1 f3 f4 f5⟩
  ·exact wpAny_pyNext_wide_end (I.ok.hd hc) st hx λh' eb=>⟨rfl,I.turned (t':=s.toks) (λb o hb e=>eb b o hb e) f0 f1 f3 f4 f5⟩
 self:=λA i s Q E st h=>by
  rcases sT with rfl | rfl
  ·exact wpAny_pyIter_striter_ascii st h
  ·exact wpAny_pyIter_striter_wide st h
end
section
variable {X:Cx} {tg:Expr}
noncomputable def oJ (tl:TE):TI:=λσ H R=>tl σ H λx H1=>∃ z,x=.str z/\R (lG z) H1
theorem Qu {l:Expr} {tl:TE} (hl:PE X l tl):PI X tg l (oJ tl):=by
 intro a7 s σ H R I h
 refine CW (hl a7 s σ H _ I h) λv s1 f7=>?_
 obtain⟨x,H1,I1,r1,q1⟩:=f7
 obtain⟨z,e,q⟩:=q1
 subst e
 obtain⟨t,rfl⟩:=r1
 have fin:∀ ty,(ty = "str_ascii_iterator" \/ ty = "str_iterator")->PIE X a7 σ tg R (.ref s1.heap.objs.size) { s1 with heap:=s1.heap.push { cls:=.type ty,data:=.fields #[.str z t,.int 0 0] } }:=λty sT=>by
  refine⟨s1.heap.objs.size,[s1.heap.objs.size],_,_,H1,rfl,I1.kept (t':=s1.toks) λb o e=>Heap.get?_push_of_some _ e,Wq (z:=z) (t0:=t) sT,⟨_,Heap.get?_push_size _ rfl,rfl,rfl⟩,λb hb=>?_,q⟩
  have e:b=s1.heap.objs.size:=by simpa using hb
  subst e
  exact I1.NB (ar _) (I1.hok.fresh (ar _))
 cases ha:z.cps.all (· < 128)
 ·exact wpAny_pyIter_wide ha (fin _ (.inr rfl))
 ·exact wpAny_pyIter_ascii ha (fin _ (.inl rfl))
end
section
variable {σ:St} {H1:Hp} {Q:VK} {tt:TT} {te:TE}
noncomputable def sgn (c:Nat):V:=.str ⟨#[c]⟩
theorem Km {z:Str} (p:Nat->Bool) (f:Nat->V) (hz:z.length<sizeLine)
  (ht:∀ c∈z.cps.toList,∀ H,Ak H1 H->∀ R:Bool->Hp->Prop,(∀ H',Ak H H'->R (p c) H')->tt (some (sgn c)::σ) H R)
  (he:∀ c∈z.cps.toList,p c=true->∀ H,Ak H1 H->∀ R:VK,(∀ H',Ak H H'->R (f c) H')->te (some (sgn c)::σ) H R)
  (hq:∀ D H,H1 D=none->Ak H1 H->H D=some (.lst ((z.cps.toList.filter p).map f))->Q (.ref D) H):G3 (lG z) σ H1 Q tt te:=by
 let g:V->Nat:=λv=>match v with | .str y=>y.cps.getD 0 0 | _=>0
 refine Gb (xs:=z.cps.toList.map sgn) (λv=>p (g v)) (λv=>f (g v)) (by simpa [Str.length] using hz) (λi H x _ hx=>?_) (λi H y H' _ hi hy=>?_) (λH _=>?_) (λx hx=>?_) (λx hx=>?_) (λD H h1 h2 h3=>?_)
 ·have:i<(z.cps.toList.map sgn).length:=(ai.mp hx).1
  show i<z.cps.size
  simpa using this
 ·obtain⟨e1,c,hc,rfl⟩:=hy
  refine⟨e1,?_⟩
  rw[br,Array.getElem?_toList,hc];rfl
 ·show z.cps.size<=_
  simp
 ·obtain⟨c,hc,rfl⟩:=ay.mp hx
  exact ht c hc
 ·obtain⟨c,hc,rfl⟩:=ay.mp hx
  exact he c hc
 ·refine hq D H h1 h2 ?_
  rw[h3,ff,bg]
  rfl
end
section
variable {X:Cx}
theorem range_all (bs:List Bool):((List.range bs.length).all λi=>(bs[i]?).getD true)=bs.all id:=by
 rw[dE,cw,cw]
 constructor
 ·intro h b hb
  obtain⟨i,hi,e⟩:=fN.mp hb
  have:=h i (gu.mpr hi)
  rw[af hi,e] at this
  exact this
 ·intro h i hi
  have hi':=gu.mp hi
  rw[af hi']
  exact h _ (gS hi')
theorem FP (hc:X.calm=true):Fx X (.builtin "all") (λxs H Q=>∃ (p:Addr) (bs:List Bool),xs=[V.ref p]/\Dg X.K H p (bs.map V.bl)/\Q (.bl (bs.all id)) H):=by
 intro a7 s σ H xs us Q I r h
 obtain⟨p,bs,rfl,hp,q⟩:=h
 obtain⟨u,rfl,ru⟩:=vals1 r
 cases ru
 obtain⟨its,rv,pl,hz⟩:=I.list hp
 have hlen:bs.length=its.length:=by have:=rv.length;rw[ae] at this;exact this
 have hlt:p<s.heap.objs.size:=by obtain⟨_,e,_⟩:=pl.isList;exact Heap.lt_size e
 refine call_all_walk (wpAny_pyIter_list pl.isList ?_)
 refine⟨s.heap.objs.size,[s.heap.objs.size,p],[s.heap.objs.size],its.toArray.size,_,_,λi=>(bs[i]?).getD true,rfl,Walks.list (A:=X.A.in1) (I.ok.hd hc) _ p (ci hlt) its.toArray,
  ⟨⟨_,Heap.get?_push_size _ rfl,rfl,rfl⟩,pl.isList.push _⟩,λi v s' Q' E' hP hQ=>?_,λh' tk hk=>?_⟩
 ·have yd:its[i]? = some v:=by simpa using hP
  have hi:i<its.length:=(ai.mp yd).1
  have hb:bs[i]? = some bs[i]:=by simp[hlen,hi]
  obtain⟨u,hu,ru⟩:=rv.get (i:=i) (x:=.bl bs[i]) (by rw[br,hb];rfl)
  rw[yd] at hu
  cases hu
  cases ru
  dsimp only at hQ
  rw[hb] at hQ
  exact wpAny_truthy_bool hQ
 ·have e:((List.range its.toArray.size).all λi=>(bs[i]?).getD true)=bs.all id:=by rw[dv,<-hlen];exact range_all bs
  rw[e]
  refine⟨.bl (bs.all id),H,I.kept (t':=tk) λb o eb=>hk b o (λhm=>?_) (Heap.get?_push_of_some _ eb),rfl,q⟩
  rw[ax.mp hm] at eb
  exact fR _ (Heap.lt_size eb)
theorem Bs:Fx X (.builtin "isinstance") (λxs H Q=>∃ x T t b,xs=[x,V.ty T]/\Gu X.K H x t/\W.kitOne X.K t (.type T)=some b/\Q (.bl b) H):=by
 intro a7 s σ H xs us Q I r h
 obtain⟨x,T,t,b,rfl,ty,e,q⟩:=h
 obtain⟨u,v,rfl,ru,rv⟩:=Vals.two r
 cases rv
 exact U6 I ru ty e λtk=>⟨.bl b,H,I.tok _,rfl,q⟩
theorem aY:lA X (λx lo hi H Q=>∃ z,x=.str z/\z.length<=sizeLine/\Q (.str (Txt.slice z lo hi)) H):=by
 intro a7 s σ H x v vl vu lo hi sl Q I rx hs pl pu h
 obtain⟨z,rfl,hz,q⟩:=h
 obtain⟨t,rfl⟩:=rx
 refine⟨"str",_,F.slot_str_getitem.lookup,typeIs_str _ _ _,?_⟩
 have fin:∀ t' k,EP X a7 σ Q (.str (Txt.slice z lo hi) t') { s with toks:=k }:=λt' k=>⟨.str _,H,I.tok _,⟨_,rfl⟩,q⟩
 cases pl with
 | none =>
  cases pu with
  | none=>exact wpAny_getItem_str_slice (l:=none) (u:=none) (st:=none) hs rfl (post_val_or_str ⟨bp (Txt.slice_le z _ _) hz,fin⟩)
  | int j uj=>exact wpAny_getItem_str_slice (l:=none) (u:=some (j,uj)) (st:=none) hs rfl (post_val_or_str ⟨bp (Txt.slice_le z _ _) hz,fin⟩)
 | int i ui =>
  cases pu with
  | none=>exact wpAny_getItem_str_slice (l:=some (i,ui)) (u:=none) (st:=none) hs rfl (post_val_or_str ⟨bp (Txt.slice_le z _ _) hz,fin⟩)
  | int j uj=>exact wpAny_getItem_str_slice (l:=some (i,ui)) (u:=some (j,uj)) (st:=none) hs rfl (post_val_or_str ⟨bp (Txt.slice_le z _ _) hz,fin⟩)
theorem RL:HN X (binaryOp .Mult) (λx y H Q=>∃ z n,x=.str z/\y=.int n/\MulOk z n/\Q (.str (Txt.mul z n)) H):=by
 intro a7 s σ H x y v u Q I rx ry h
 obtain⟨z,n,rfl,rfl,hok,q⟩:=h
 obtain⟨t,rfl⟩:=rx
 obtain⟨t',rfl⟩:=ry
 exact SB.mul hok λt' k=>⟨.str _,H,I.tok _,⟨_,rfl⟩,q⟩
end
noncomputable def Ro (x:Str) (scope osc:Scope) (N:List Str):Bool :=
 (scope.kind == .function) && scope.names.all (λy=>y.2 != .cell) && scope.names.all (λy=>y.2 != .local || scope.names.lookup y.1 == some .local) && (scope.names.lookup x == some .local) &&
 scope.names.all (λy=>y.2 != .free || osc.names.lookup y.1 == some .cell || osc.names.lookup y.1 == some .free) && decide ((x::Il x N).Nodup) && (Il x N).all (λy=>scope.names.lookup y != some .local) && (scope.names.lookup ("" : Str) == none)
theorem Bd {X:Cx} {x:Str} {scope osc:Scope} {N:List Str} (FF:X.env.scope=osc) (hN:X.N=N) (h:Ro x scope osc N=true):Gn X x scope:=by
 unfold Ro at h
 simp only[Bool.and_eq_true] at h
 obtain⟨⟨⟨⟨⟨⟨⟨h1,h2⟩,h3⟩,h4⟩,h5⟩,h6⟩,h7⟩,h8⟩:=h
 rw[cw] at h2 h3 h5 h7
 have kd:∀ y,X.env.kindOf y=osc.names.lookup y:=λy=>by rw[<-FF];rfl
 refine⟨by simpa using h1,λy hy=>by simpa using h2 y hy,λy hy e=>?_,by simpa using h4,λy hy e=>?_,by rw[hN];exact of_decide_eq_true h6,λy hy=>?_,by simpa using h8⟩
 ·have:=h3 y hy
  rw[e] at this
  simpa using this
 ·have:=h5 y hy
  rw[e] at this
  rw[kd]
  simpa using this
 ·rw[hN] at hy
  simpa using h7 y hy
section
variable {X:Cx} {a7:List (Addr × Obj)} {σ:St} {H:Hp} {s:Shared} {h':Heap}
theorem Inv.PX {ch:List Addr} {a:Addr} {o:HO} {t':Nat} (I:Inv X a7 σ H s) (hf:∀ b∈ch,G7 X a7 H b) (k:∀ b u,b ∉ ch->s.heap.get? b=some u->h'.get? b=some u) (hp:s.heap.objs.size<=a)
  (new:Bt X.prog X.w (upd H a o) h' a o):Inv X a7 σ (upd H a o) { s with heap:=h',toks:=t' }:=by
 have hn:H a=none:=I.hok.fresh hp
 have up:∀ b u,H b=some u->upd H a o b=some u:=λb u e=>by rw[Ao (Al e hn)];exact e
 refine I.step (g':=s.gens) (d':=s.drawn) (ch:=ch) (λb hb=>?_) (λb u _ _ hc e _=>k b u hc e) (λb u _ _ hc e _=>⟨u.slots,k b u hc e⟩) (λb u _ e n=>?_)
  (λb u hc e=>⟨u,k b u hc e⟩) (λb xs e=>up _ _ e) (λb u x e=>up _ _ e) (λb ps e=>⟨#[],by rw[up _ _ e];simp⟩) (λm hm=>?_) (λb u e=>?_) I.bare
 ·obtain⟨f0,f1,f2,f3,f4,f5⟩:=hf b hb
  exact⟨f3,f1,f4,f5⟩
 ·rw[Ao (ci (bt (Heap.lt_size e) hp))]
  exact n
 ·obtain⟨u,es,ep,ho,r⟩:=hm
  exact⟨u,es,ep,k _ u (λz=>(hf _ z).2.1 rfl) ho,r⟩
 ·by_cases hb:b=a
  ·subst hb
   rw[Af] at e
   cases e
   exact new
  ·rw[Ao hb] at e
   refine (I.hok b u e).stay (λc v hc q=>k c v (λz=>?_) q) (λ_ q=>up _ _ q) λ_ _ q=>up _ _ q
   have z1:=(hf c z).1
   rcases hc with hc | hc
   ·rw[hc,e] at z1
    cases z1
   ·rw[hc] at z1
    cases z1
theorem Inv.Rz {ch:List Addr} {t':Nat} (I:Inv X a7 σ H s) (hf:∀ b∈ch,G7 X a7 H b) (k:∀ b u,b ∉ ch->s.heap.get? b=some u->h'.get? b=some u):Inv X a7 σ H { s with heap:=h',toks:=t' }:=by
 refine I.step (g':=s.gens) (d':=s.drawn) (ch:=ch) (λb hb=>?_) (λb u _ _ hc e _=>k b u hc e) (λb u _ _ hc e _=>⟨u.slots,k b u hc e⟩) (λb u _ e n=>n)
  (λb u hc e=>⟨u,k b u hc e⟩) (λb xs e=>e) (λb u x e=>e) (λb ps e=>⟨#[],by rw[e];simp⟩) (λm hm=>?_) (λb u e=>?_) I.bare
 ·obtain⟨f0,f1,f2,f3,f4,f5⟩:=hf b hb
  exact⟨f3,f1,f4,f5⟩
 ·obtain⟨u,es,ep,ho,r⟩:=hm
  exact⟨u,es,ep,k _ u (λz=>(hf _ z).2.1 rfl) ho,r⟩
 ·refine (I.hok b u e).stay (λc v hc q=>k c v (λz=>?_) q) (λ_ q=>q) λ_ _ q=>q
  have z1:=(hf c z).1
  rcases hc with hc | hc
  ·rw[hc,e] at z1
   cases z1
  ·rw[hc] at z1
   cases z1
end
noncomputable def j4 (K:W.Frag) (a:Addr):It :=
 ⟨λi H=>∃ xs x,Dg K H a xs/\xs[i]? = some x,λi H v H'=>∃ T,H T=none/\v=.ref T/\∀ xs,Dg K H a xs->∃ x,xs[i]? = some x/\H'=upd H T (.tup [.int (i:Int),x]),λi H=>∃ xs,Dg K H a xs/\xs.length<=i⟩
noncomputable def qP (K:W.Frag) (a b:Addr):It :=
 ⟨λi H=>∃ xs ys x y,Ga K H a xs/\Ga K H b ys/\xs[i]? = some x/\ys[i]? = some y,λi H v H'=>∃ T,H T=none/\v=.ref T/\∀ xs ys,Ga K H a xs->Ga K H b ys->∃ x y,xs[i]? = some x/\ys[i]? = some y/\H'=upd H T (.tup [x,y]),
  λi H=>∃ xs,Ga K H a xs/\xs.length<=i⟩
theorem U4 {P:Program} {w:World} {K:W.Frag} {es:List Expr} {k1:Nat} {pos:Pos} (a e it:Addr) (hne:e ≠ it) :
  Turn P w K (.Tuple es k1 pos) (j4 K a) [e,it] e (λi h=>(∃ old,IsEnum h e it i old)/\h.IsListIter it a i) where
 mem:=by simp
 obj:=λi h st b hb=>by
  obtain⟨⟨old,he⟩,o,ho,c,d⟩:=st
  rcases bq.mp hb with rfl | hb
  ·exact⟨_,he,λv z=>by
    have z':Data.fields _=Data.cell v:=z
    cases z'⟩
  ·have q:b=it:=by simpa using hb
   subst q
   exact⟨o,ho,λv z=>by rw[d] at z;cases z⟩
 keep:=λi h h' st k=>by
  obtain⟨⟨old,he⟩,hi⟩:=st
  exact⟨⟨old,k e (by simp) _ he⟩,hi.at λo q=>k it (by simp) o q⟩
 item:=by
  intro X hP hw hK hc i a7 s σ H E I hf st hg
  subst hP hw hK
  obtain⟨xs,x,hq,hx⟩:=hg
  obtain⟨its,rv,p,hz⟩:=I.list hq
  obtain⟨u,hu,ru⟩:=rv.get hx
  obtain⟨⟨old,he⟩,hi⟩:=st
  refine wpAny_pyNext_enum_item he hi p.isList (x:=u) (by simpa using hu) hne λh1 n1 n2 n3 n4 n5=>?_
  refine⟨_,rfl,wpAny_letOwnedTupleGo_enum (s:={ s with heap:=h1,toks:=s.toks+1 }) n1 λh2 m1 m2=>?_⟩
  have hT:s.heap.objs.size ≠ e:=im (Heap.lt_size he)
  have hI:s.heap.objs.size ≠ it:=by obtain⟨_,q,_⟩:=hi;exact im (Heap.lt_size q)
  have fr:H s.heap.objs.size=none:=I.hok.fresh (ar _)
  have nw:Bt X.prog X.w (upd H s.heap.objs.size (.tup [.int (i:Int),x])) h2 s.heap.objs.size (.tup [.int (i:Int),x]) :=
   ⟨by show 2<=sizeLine;decide,[.int i s.toks,u],.cons ⟨_,rfl⟩ (.cons ru .nil),_,m2.extBut _ _ hT n3,rfl,_,rfl⟩
  refine⟨.ref s.heap.objs.size,_,I.PX (t':=s.toks+1) (ch:=[e,it]) hf (λb o hb q=>?_) (ar _) nw,rfl,⟨_,fr,rfl,λys hy=>⟨x,by rw[I.QC hy hq];exact hx,rfl⟩⟩,⟨⟨u,?_⟩,n2.at λo q=>m2.extBut _ _ (Ne.symm hne) q⟩,λb hb=>?_⟩
  ·exact m2.extBut _ _ (λz=>hb (by simp[z])) (n5 b o (λz=>hb (by simp[z])) (λz=>hb (by simp[z])) q)
  ·have e1:((i:Int)+1)=((i+1:Nat):Int):=by omega
   rw[<-e1]
   exact m1
  ·have ng:=hb
   rcases bq.mp hb with rfl | hb
   ·rw[Ao (Ne.symm hT)]
    exact (hf _ ng).1
   ·have q:b=it:=by simpa using hb
    subst q
    rw[Ao (Ne.symm hI)]
    exact (hf _ ng).1
 done:=by
  intro X hP hw hK hc i a7 s σ H E I hf st hg
  subst hP hw hK
  obtain⟨xs,hq,hx⟩:=hg
  obtain⟨its,rv,p,hz⟩:=I.list hq
  obtain⟨⟨old,he⟩,hi⟩:=st
  have hl:=rv.length
  exact wpAny_pyNext_enum_end (I.ok.hd hc) he hi p.isList (by simp;omega) λh1 eb=>⟨rfl,I.Rz (t':=s.toks) (ch:=[e,it]) hf λb o hb q=>eb b o (λz=>hb (by simp[z])) q⟩
 self:=λ_ _ _ _ _ st h=>by
  obtain⟨⟨old,he⟩,_⟩:=st
  exact wpAny_pyIter_enum he h
theorem WN {n a b:Nat} (ha:a<n) (hb:b<n):ZipApart (n+4) (n+2) (n+3) n (n+1) a b:=by
 constructor <;> (refine (show @Ne Nat _ _ from ?_);omega)
theorem aq {n b:Nat} {P:Nat->Prop} (h0:P n) (h1:P (n+1)) (h2:P (n+2)) (h3:P (n+3)) (h4:P (n+4)) (hb:b∈[n,n+1,n+2,n+3,n+4]):P b:=by
 simp at hb
 rcases hb with rfl | rfl | rfl | rfl | rfl <;> assumption
theorem Uz {P:Program} {w:World} {K:W.Frag} {es:List Expr} {k1:Nat} {pos:Pos} (a b n:Nat) (ha:a<n) (hb:b<n) :
  Turn P w K (.Tuple es k1 pos) (qP K a b) [n,n+1,n+2,n+3,n+4] (n+4) (λi h=>IsZip h (n+4) (n+2) (n+3) .none/\IsPair h (n+2) (.ref n) (.ref (n+1))/\(∃ x y,IsPair h (n+3) x y)/\h.IsTupleIter n a i/\h.IsTupleIter (n+1) b i) where
 mem:=by simp
 obj:=λi h st c hc=>by
  obtain⟨hz,hI,⟨x,y,hO⟩,⟨o1,e1,_,d1⟩,⟨o2,e2,_,d2⟩⟩:=st
  refine aq (P:=λc=>∃ o,h.get? c=some o/\∀ v,o.data ≠ .cell v) ⟨_,e1,λv z=>?_⟩ ⟨_,e2,λv z=>?_⟩ ⟨_,hI,λv z=>?_⟩ ⟨_,hO,λv z=>?_⟩ ⟨_,hz,λv z=>?_⟩ hc
  ·rw[d1] at z;cases z
  ·rw[d2] at z;cases z
  ·have z':Data.seq _ _=Data.cell v:=z
   cases z'
  ·have z':Data.seq _ _=Data.cell v:=z
   cases z'
  ·have z':Data.fields _=Data.cell v:=z
   cases z'
 keep:=λi h h' st k=>by
  obtain⟨hz,hI,⟨x,y,hO⟩,j1,j2⟩:=st
  exact⟨k _ (by simp) _ hz,k _ (by simp) _ hI,⟨x,y,k _ (by simp) _ hO⟩,j1.at λo q=>k _ (by simp) o q,j2.at λo q=>k _ (by simp) o q⟩
 item:=by
  intro X hP hw hK hc i a7 s σ H E I hf st hg
  subst hP hw hK
  obtain⟨xs,ys,x,y,q1,q2,hx,hy⟩:=hg
  obtain⟨za,r1,p1,_⟩:=I.tuple q1
  obtain⟨DB,r2,p2,_⟩:=I.tuple q2
  obtain⟨u,hu,ru⟩:=r1.get hx
  obtain⟨v,hv,rv⟩:=r2.get hy
  obtain⟨hz,hI,⟨x0,y0,hO⟩,j1,j2⟩:=st
  have D:=WN ha hb
  have hT:s.TypeIs (.ref (n+4)) "zip":=⟨_,hz,rfl⟩
  have sz:n+4<s.heap.objs.size:=Heap.lt_size hz
  unfold pyNext
  refine wpAny_bind (wpAny_attempt (wpAny_callSpecial?_slot (name:=Str.ofString "__next__") hT F.slot_zip_next (wpAny_call_entry F.slot_zip_next hT F.entry_zip_next
   (U0 D hz hI hO j1 j2 (show s.heap.IsTuple a za.toArray from p1) (show s.heap.IsTuple b DB.toArray from p2) (x:=u) (y:=v) (by simpa using hu) (by simpa using hv) λh1 n1 n2 n3 n4 n5 n6 n7=>wpAny_pure ?_) (F.args_zip_next_1 _))))
  refine⟨_,rfl,wpAny_letOwnedTupleGo_zip (s:={ s with heap:=h1 }) n1 λh2 m1 m2=>?_⟩
  have fr:H s.heap.objs.size=none:=I.hok.fresh (ar _)
  have nw:Bt X.prog X.w (upd H s.heap.objs.size (.tup [x,y])) h2 s.heap.objs.size (.tup [x,y]) :=
   ⟨by show 2<=sizeLine;decide,[u,v],.cons ru (.cons rv .nil),_,m2.extBut _ _ (Nat.ne_of_gt sz) n5,rfl,_,rfl⟩
  have hI2:IsPair h1 (n+2) (.ref n) (.ref (n+1)):=n7 _ _ D.TIz D.TITO D.TIi1 D.TIi2 hI
  refine⟨.ref s.heap.objs.size,_,I.PX (t':=s.toks) (ch:=[n,n+1,n+2,n+3,n+4]) hf (λc o hc q=>?_) (ar _) nw,rfl,⟨_,fr,rfl,λWU uQ h1 h2=>⟨x,y,by rw[I.Jt h1 q1];exact hx,by rw[I.Jt h2 q2];exact hy,rfl⟩⟩,
   ⟨m1,m2.extBut _ _ D.TIz hI2,⟨u,v,m2.extBut _ _ D.TOz n2⟩,n3.at λo q=>m2.extBut _ _ D.i1z q,n4.at λo q=>m2.extBut _ _ D.i2z q⟩,λc hc=>?_⟩
  ·have z:∀ d,d∈[n,n+1,n+2,n+3,n+4]->c ≠ d:=λd hd q=>hc (q ▸ hd)
   exact m2.extBut _ _ (z _ (by simp)) (n7 c o (z _ (by simp)) (z _ (by simp)) (z _ (by simp)) (z _ (by simp)) q)
  ·rw[Ao ?_]
   ·exact (hf c hc).1
   ·have lt:c<=n+4:=aq (P:=λc=>c<=n+4) (by omega) (by omega) (by omega) (by omega) (ar _) hc
    exact ci (ck lt sz)
 done:=by
  intro X hP hw hK hc i a7 s σ H E I hf st hg
  subst hP hw hK
  obtain⟨xs,q1,hx⟩:=hg
  obtain⟨za,r1,p1,_⟩:=I.tuple q1
  obtain⟨hz,hI,⟨x0,y0,hO⟩,j1,j2⟩:=st
  have D:=WN ha hb
  have hT:s.TypeIs (.ref (n+4)) "zip":=⟨_,hz,rfl⟩
  have hl:=r1.length
  unfold pyNext
  refine wpAny_bind (wpAny_attempt (wpAny_callSpecial?_slot (name:=Str.ofString "__next__") hT F.slot_zip_next (wpAny_call_entry F.slot_zip_next hT F.entry_zip_next
   (VR (I.ok.hd hc) D hz hI hO j1 (show s.heap.IsTuple a za.toArray from p1) (by simp;omega) λh1 x k1 hx1=>?_) (F.args_zip_next_1 _))))
  obtain⟨o,ho,Nl⟩:=hx1
  refine wpAny_bind (wpAny_isInstance (T:="StopIteration") (b:=true) ⟨o,ho,Nl⟩ isSubtype_stop (wpAny_pure ?_))
  refine⟨rfl,I.Rz (t':=s.toks) (ch:=[n,n+1,n+2,n+3,n+4]) hf λc o hc q=>?_⟩
  have z:∀ d,d∈[n,n+1,n+2,n+3,n+4]->c ≠ d:=λd hd q=>hc (q ▸ hd)
  exact k1 c o (z _ (by simp)) (z _ (by simp)) (z _ (by simp)) (z _ (by simp)) q
 self:=λ_ _ _ _ _ st h=>wpAny_pyIter_zip st.1 h
section
variable {X:Cx} {es:List Expr} {k1:Nat} {oi:Pos}
noncomputable def iD (K:W.Frag) (ta:TA):TI:=λσ H R=>ta σ H λvs H1=>∃ a,vs=[.ref a]/\(∃ xs,Dg K H1 a xs)/\R (j4 K a) H1
noncomputable def qe (K:W.Frag) (ta:TA):TI:=λσ H R=>ta σ H λvs H1=>∃ a b,vs=[.ref a,.ref b]/\(∃ xs,Ga K H1 a xs)/\(∃ ys,Ga K H1 b ys)/\R (qP K a b) H1
theorem KY {l:Expr} {ta:TA} {p pos:Pos} (hg:Gl X "enumerate") (hm:X.mg "enumerate" = none) (ha:PA X [l] ta) (hs:starEach [l] X.env=[(false,eval l X.env)]:=by rfl) :
  PI X (.Tuple es k1 oi) (.Call (.Name "enumerate" p) [l] [] pos) (iD X.K ta):=by
 intro a7 s σ H R I h
 refine Call_ (Im I hg hm boot_enumerate (PyProof.Rows.callWith_type1 (CW (ha pos a7 s σ H _ I h) λus s1 ⟨vs,H1,I1,r1,q1⟩=>?_) hs rfl))
 obtain⟨a,e,⟨xs,hq⟩,q⟩:=q1
 subst e
 obtain⟨u,rfl,ru⟩:=vals1 r1
 cases ru
 obtain⟨its,rv,pl,hz⟩:=I1.list hq
 refine call_enumerate_list pl.isList λh1 n1 n2 n3 n4=>?_
 refine wpAny_pyIter_enum (s:={ s1 with heap:=h1 }) n1 ?_
 refine⟨_,[s1.heap.objs.size+1,s1.heap.objs.size],_,_,H1,rfl,I1.kept (t':=s1.toks) n4,U4 a _ _ (Nat.succ_ne_self _),⟨⟨_,n1⟩,n2⟩,λb hb=>?_,q⟩
 have lt:s1.heap.objs.size<=b:=by
  rcases bq.mp hb with rfl | hb
  ·exact iN _
  ·exact kx ((ax.mp hb).symm)
 exact I1.NB lt (I1.hok.fresh lt)
theorem Ry {x y:Expr} {ta:TA} {p pos:Pos} (hg:Gl X "zip") (hm:X.mg "zip" = none) (ha:PA X [x,y] ta) (hs:starEach [x,y] X.env=[(false,eval x X.env),(false,eval y X.env)]:=by rfl) (hs2:starEach [y] X.env=[(false,eval y X.env)]:=by rfl) :
  PI X (.Tuple es k1 oi) (.Call (.Name "zip" p) [x,y] [] pos) (qe X.K ta):=by
 intro a7 s σ H R I h
 refine Call_ (Im I hg hm boot_zip (PyProof.Rows.callWith_type1 (CW (ha pos a7 s σ H _ I h) λus s1 ⟨vs,H1,I1,r1,q1⟩=>?_) (by rw[hs,hs2]) (by rw[hs2];rfl)))
 obtain⟨a,b,e,⟨xs,q1⟩,⟨ys,q2⟩,q⟩:=q1
 subst e
 obtain⟨u,v,rfl,ru,rv⟩:=Vals.two r1
 cases ru
 cases rv
 obtain⟨za,r1,p1,_⟩:=I1.tuple q1
 obtain⟨DB,r2,p2,_⟩:=I1.tuple q2
 refine Uh (show s1.heap.IsTuple a za.toArray from p1) (show s1.heap.IsTuple b DB.toArray from p2) λh1 n hn n1 n2 n3 n4 n5 n6 n7=>?_
 refine wpAny_pyIter_zip (s:={ s1 with heap:=h1 }) n1 ?_
 have la:a<n:=by rw[hn];exact p1.lt
 have lb:b<n:=by rw[hn];exact p2.lt
 refine⟨_,[n,n+1,n+2,n+3,n+4],_,_,H1,rfl,I1.kept (t':=s1.toks) n7,Uz a b n la lb,⟨n1,n2,⟨_,_,n3⟩,n4,n5⟩,λc hc=>?_,q⟩
 have lt:s1.heap.objs.size<=c:=by
  rw[<-hn]
  exact aq (P:=λc=>n<=c) (by omega) (by omega) (by omega) (by omega) (by omega) hc
 exact I1.NB lt (I1.hok.fresh lt)
end
theorem Ym {prog:Program} {w:World} {A:Around} {R:Result->Shared->Prop} {s:Shared} {k6 tg iter:Expr} {i9:List Expr} {scope:Scope} {pos:Pos} {it d6:Value} {env:Env} (J:Nat->Shared->Prop) {E:vSP} (hE:E=notedBy (model prog w) A env λe s'=>R (.error e) s')
  (pi:∀ n s,J n s->wpAny (model prog w) A (pyNext it) (λr s1=>match r with
   | none=>R (.ok .next) s1
   | some v=>wpAny (model prog w) A (letOwnedTupleGo tg it v) (λ_ s2=>wpAny (model prog w) A (assign tg env v) (λ_ s3 =>
     wpAny (model prog w) A (forIn i9 true λc r=>if r=true then do let ok <-isTrue c env (eval c env);pure (ForInStep.yield ok) else pure (ForInStep.yield r)) (λok s4 =>
      if ok=true then wpAny (model prog w) A (eval k6 env) (λx s5=>wpAny (model prog w) A (call (.builtin "list.append") [d6,x]) (λ_ s6=>∃ m,m<n/\J m s6) E s5) E s4
      else ∃ m,m<n/\J m s4) E s3) E s2) E s1) E s) (n:Nat) (h:J n s) :
  codeAny (model prog w) A (.compLoop (.ListComp k6 [⟨tg,iter,i9,0⟩] scope pos) 0 it d6 env) R s:=by
 subst hE
 refine codeAny_loop rfl J (λn s hJ=>(show wpAny _ A ((compTurn (.ListComp k6 [⟨tg,iter,i9,0⟩] scope pos) 0 it d6 env).onRaise (λx=>do noteFrame x env;theTreesLotGoes x)) _ _ s from wpAny_noted ?_)) n h
 rw[compTurn_list]
 refine wpAny_bind (wpAny_standAt (wpAny_bind (wpAny_mono (pi n s hJ) (λr s1 h1=>?_) λ_ _ q=>q)))
 cases r with
 | none=>exact wpAny_pure h1
 | some v =>
  refine wpAny_bind (wpAny_mono h1 (λ_ s2 h2=>wpAny_bind (wpAny_mono h2 (λ_ s3 h3=>wpAny_bind (wpAny_mono h3 (λok s4 h4=>?_) λ_ _ q=>q)) λ_ _ q=>q)) λ_ _ q=>q)
  cases ok with
  | false=>exact wpAny_pure ⟨rfl,h4⟩
  | true=>exact wpAny_bind (wpAny_bind (wpAny_mono h4 (λx s5 h5=>wpAny_bind (wpAny_mono h5 (λ_ s6 h6=>wpAny_pure (wpAny_pure ⟨rfl,h6⟩)) λ_ _ q=>q)) λ_ _ q=>q))
noncomputable def Bm (X:Cx) (x z:Str) (scope:Scope) (C:Addr) (s₀:Shared) (H₀:Hp) (fp:List Addr):Cx where
 prog:=X.prog
 w:=X.w
 K:=X.K
 mg:=X.mg
 base:=X.base
 A:=X.A
 N:=x::z::X.N
 s₀:=s₀
 H₀:=H₀
 env:=compEnvC scope (Dd X.env scope.names []) C X.env
 outer:=X.stack
 stack:=X.stack
 ex:=fp
 fn:=λ_=>false
 calm:=X.calm
 pn:=[]
 xe:=λ_ _=>False
structure Ew (X:Cx) (x z:Str) (scope:Scope):Prop where
 kind:scope.kind=.function
 nocell:∀ y∈scope.names,y.2 ≠ .cell
 names:∀ y∈scope.names,y.2=.local->scope.names.lookup y.1=some .local
 loc:scope.names.lookup x=some .local
 loz:scope.names.lookup z=some .local
 free:∀ y∈scope.names,y.2=.free->X.env.kindOf y.1=some .cell \/ X.env.kindOf y.1=some .free
 nd:(x::z::X.N).Nodup
 only:∀ y∈X.N,scope.names.lookup y ≠ some .local
section
variable {X:Cx} {a7:List (Addr × Obj)} {σ:St} {H:Hp} {s:Shared} {x z:Str} {scope:Scope} {fp:List Addr} {C:Addr}
theorem Ph {h':Heap} {tk:Nat} {m:Str->Option Value} (I:Inv X a7 σ H s) (S:Ew X x z scope) (hf:∀ b∈fp,G7 X a7 H b) (hlt:∀ b∈fp,b<s.heap.objs.size) (hC:s.heap.objs.size<=C) (hn:h'.Ns C m)
  (hk:∀ b o,s.heap.get? b=some o->h'.get? b=some o):Inv (Bm X x z scope C s H fp) [] (none::none::σ) H { s with heap:=h',toks:=tk }:=by
 have cl:∀ y c,(Dd X.env scope.names []).lookup y=some c->X.env.cells.lookup y=some c:=λy c e=>by
  rcases Gp X.env scope.names [] y c e with z | z
  ·cases z
  ·exact z
 have cellK:∀ c v,s.heap.IsCell c v->h'.IsCell c v:=λc v ⟨o,ho,hd⟩=>⟨o,hk c o ho,hd⟩
 have look:∀ y,(Bm X x z scope C s H fp).env.scope.names.lookup y=(scope.names.lookup y).map λk=>if (k == NameKind.free && X.env.scope.kind == .function && X.env.kindOf y == some .cell) then NameKind.cell else k:=λy=>Fv X.env y scope.names
 refine⟨⟨I.ok.mod,S.kind,I.ok.glob,I.ok.blt,hC,λy z c e1 e2=>I.ok.inj y z c (cl y c e1) (cl z c e2),λy hy=>?_,λy c e _=>(by cases e),λh=>I.ok.hd h,I.ok.frames,.inl rfl,λb hb=>?_,I.bs,bp I.ok.bsz I.sz,λb o e hb=>?_,λb hb ng=>?_,I.stack,I.IW⟩,
  rfl,I.bare,Un.kept hk,⟨m,hn,λi y v h1 h2 h3=>?_⟩,λy c e=>?_,I.hok.fresh hC,λy c e=>I.freeC y c (cl y c e),λp hp=>absurd (show p∈([]:List (Addr × Obj)) from hp) (by simp),I.hok.kept hk,?_⟩
 ·have hy':(Bm X x z scope C s H fp).env.scope.names.lookup y=some .cell \/ (Bm X x z scope C s H fp).env.scope.names.lookup y=some .free:=hy
  rw[look y] at hy'
  cases e:scope.names.lookup y with
  | none=>rw[e] at hy';rcases hy' with z | z <;> cases z
  | some k =>
   have hm:=PySem.mem_of_lookup e
   have hfree:k=.free:=by
    rw[e] at hy'
    cases k with
    | free=>rfl
    | cell=>exact absurd rfl (S.nocell _ hm)
    | _=>rcases hy' with z | z <;> simp at z
   subst hfree
   obtain⟨c,hc⟩:=I.ok.has y (S.free _ hm rfl)
   exact fm.mp (Eu X.env scope.names [] y hm (by rw[hc];rfl))
 ·obtain⟨f0,f1,f2,f3,f4,f5⟩:=hf b hb
  exact⟨ci (bt (hlt b hb) hC),λy c e=>f4 y c (cl y c e)⟩
 ·obtain⟨f0,f1,f2,f3,f4,f5⟩:=hf b hb
  rcases f3 with z | z
  ·exact I.ok.noex b o e z
  ·exact absurd (bt (Heap.lt_size e) (bp I.ok.bsz z)) (fR _)
 ·obtain⟨f0,f1,f2,f3,f4,f5⟩:=hf b hb
  rcases bq.mp (I.Nj b ng) with e | e
  ·exact f1 e
  ·exact f2 e
 ·match i,h1,h2 with
  | 0,h1,h2 =>
   have h2':(some none:Option (Option V))=some (some v):=h2
   cases h2'
  | 1,h1,h2 =>
   have h2':(some none:Option (Option V))=some (some v):=h2
   cases h2'
  | i+2,h1,h2 =>
   have e0:X.N[i]? = some y:=h1
   have h2':σ[i]? = some (some v):=h2
   have hmem:y∈X.N:=al e0
   have h3':(Bm X x z scope C s H fp).env.scope.names.lookup y=some .local \/ (Bm X x z scope C s H fp).env.scope.names.lookup y=some .cell \/ (Bm X x z scope C s H fp).env.scope.names.lookup y=some .free:=h3
   rw[look y] at h3'
   cases e:scope.names.lookup y with
   | none=>rw[e] at h3';rcases h3' with z | z | z <;> cases z
   | some k =>
    have hm:=PySem.mem_of_lookup e
    have hfree:k=.free:=by
     rw[e] at h3'
     cases k with
     | free=>rfl
     | cell=>exact absurd rfl (S.nocell _ hm)
     | «local»=>exact absurd e (S.only y hmem)
     | _=>rcases h3' with z | z | z <;> simp at z
    subst hfree
    have kd:=S.free _ hm rfl
    obtain⟨m0,wb,CU⟩:=I.loc
    obtain⟨u,r,l⟩:=CU i y v e0 h2' (by rcases kd with z | z;exact .inr (.inl z);exact .inr (.inr z))
    refine⟨u,r,.inr ⟨?_,?_⟩⟩
    ·have tI:(Bm X x z scope C s H fp).env.scope.names.lookup y=some (if (NameKind.free == NameKind.free && X.env.scope.kind == .function && X.env.kindOf y == some .cell) then NameKind.cell else NameKind.free):=by
      rw[look y,e];rfl
     by_cases c:(NameKind.free == NameKind.free && X.env.scope.kind == .function && X.env.kindOf y == some .cell)=true
     ·rw[if_pos c] at tI;exact .inl tI
     ·rw[if_neg c] at tI;exact .inr tI
    ·rcases l with⟨lk,_⟩ | ⟨_,c,hc,hcell⟩
     ·exfalso
      rcases kd with z | z <;> (rw[show X.env.kindOf y=some NameKind.local from lk] at z;cases z)
     ·obtain⟨c',hc'⟩:=fm.mp (Eu X.env scope.names [] y hm (by rw[hc];rfl))
      have:=cl y c' hc'
      rw[hc] at this
      cases this
      exact⟨c,hc',cellK c _ hcell⟩
 ·obtain⟨v,z⟩:=I.cell y c (cl y c e)
  exact⟨v,cellK c v z⟩
 ·show (none::none::σ).length=(x::z::X.N).length
  simp[I.len]
end
noncomputable def Nt (J:It) (σ:St) (H1:Hp) (Q:VK) (g:TG) (tt:TT) (te:TE):Prop:=∀ D,H1 D=none->∃ W:Nat->Nat->List V->Hp->Prop,(∃ m,W 0 m [] (upd H1 D (.lst [])))/\∀ i m ys H2,W i m ys H2 ->
 (J.stop i H2/\Q (.ref D) H2) \/ (J.go i H2/\∀ x H3,J.yld i H2 x H3->∀ v0 v1,g x (v0::v1::σ) H3 λσ' OQ=>(∃ w0 w1,σ'=w0::w1::σ)/\tt σ' OQ λb H4 =>
  if b=true then te σ' H4 λy H5=>H5 D=some (.lst ys)/\ys.length<sizeLine/\∃ m',m'<m/\W (i+1) m' (ys++[y]) (upd H5 D (.lst (ys++[y])))
  else ∃ m',m'<m/\W (i+1) m' ys H4)
noncomputable def V2 (wi:TI) (g:TG) (tt:TT) (te:TE):TE:=λσ H Q=>wi σ H λJ H1=>Nt J σ H1 Q g tt te
section
variable {X:Cx} {x z:Str} {scope:Scope}
theorem Oq {tg:Expr} {pos:Pos} {iter k6:Expr} {i9:List Expr} {g:TG} {tt:TT} {te:TE} {a7:List (Addr × Obj)} {σ:St} {s2:Shared} {H2:Hp} {it:Addr} {fp:List Addr} {tn:Nat->Heap->Prop} {J:It} {E:vSP}
  {RR:Value->Addr->Result->Shared->Prop} {Q:VK}
  (hc:X.calm=true) (S:Ew X x z scope) (hg:∀ C s₀ H₀ fp,PG (Bm X x z scope C s₀ H₀ fp) tg g) (ht:∀ C s₀ H₀ fp,QS (Bm X x z scope C s₀ H₀ fp) i9 tt) (he:∀ C s₀ H₀ fp,PE (Bm X x z scope C s₀ H₀ fp) k6 te)
  (I2:Inv X a7 σ H2 s2) (T:Turn X.prog X.w X.K tg J fp it tn) (qB:tn 0 s2.heap) (f2:∀ b∈fp,G7 X a7 H2 b) (q:Nt J σ H2 Q g tt te)
  (EW:∀ D C s' H' m,s'.heap.Ns C m->G7 X a7 H' C->Inv X a7 σ H' s'->Q (.ref D) H'->RR (.ref D) C (.ok .next) s') :
  wpAny (model X.prog X.w) X.A (newList []) (λd6 s₃=>wpAny (model X.prog X.w) X.A (newFunctionEnv scope X.env.globals (Dd X.env scope.names []) [] X.env.qual none .none (some X.env)) (λrX s₄ =>
   codeAny (model X.prog X.w) X.A (.compStart (.ListComp k6 [⟨tg,iter,i9,0⟩] scope pos) 0 (.ref it) d6 { rX with scope:=relabel scope X.env }) (RR d6 rX.locals) s₄) E s₃) E s2:=by
 refine wpAny_newObj_type (wpAny_newFunctionEnv S.nocell (by intro y hy;simp at hy) (λh₁ vZ vm=>?_) S.kind)
 have I3:=I2.Ue (its:=[]) (ys:=[]) (t':=s2.toks) .nil (dc _)
 have hD0:H2 s2.heap.objs.size=none:=I2.fresh
 obtain⟨W,⟨m0,w0⟩,pi⟩:=q _ hD0
 generalize hs3:({ s2 with heap:=s2.heap.push { cls:=.type "list",data:=.seq ([]:List Value).toArray },toks:=s2.toks }:Shared)=s3 at I3
 have e3:s3.heap=s2.heap.push { cls:=.type "list",data:=.seq ([]:List Value).toArray }:=by rw[<-hs3]
 have hlt:∀ b∈fp,b<s2.heap.objs.size:=λb hb=>let ⟨_,e,_⟩:=T.obj _ _ qB b hb;Heap.lt_size e
 have hlt3:∀ b∈fp,b<s3.heap.objs.size:=λb hb=>by rw[e3,Heap.size_push];exact iO (hlt b hb)
 have f3:∀ b∈fp,G7 X a7 (upd H2 s2.heap.objs.size (.lst [])) b:=λb hb=>⟨by rw[Ao (ci (hlt b hb))];exact (f2 b hb).1,(f2 b hb).2⟩
 have hk1:∀ b o,s3.heap.get? b=some o->h₁.get? b=some o:=λb o e=>by
  have hne:b ≠ s3.heap.objs.size:=ci (Heap.lt_size e)
  rw[e3] at e hne
  exact vm.extBut b o hne (Heap.get?_push_of_some _ e)
 have hC:s3.heap.objs.size=(s2.heap.push { cls:=.type "list",data:=.seq ([]:List Value).toArray }).objs.size:=by rw[e3]
 have hns:h₁.Ns s3.heap.objs.size (λx=>([]:List (Str × Value)).reverse.lookup x):=by rw[hC];exact vZ
 have st3:tn 0 h₁:=T.keep _ _ _ qB λb hb o e=>hk1 b o (by rw[e3];exact Heap.get?_push_of_some _ e)
 have start:∀ tk,Inv (Bm X x z scope s3.heap.objs.size s3 (upd H2 s2.heap.objs.size (.lst [])) fp) [] (none::none::σ) (upd H2 s2.heap.objs.size (.lst [])) { s3 with heap:=h₁,toks:=tk }:=λtk =>
  Ph I3 S f3 hlt3 (ar _) hns hk1
 have loop:∀ tk,codeAny (model X.prog X.w) X.A (.compLoop (.ListComp k6 [⟨tg,iter,i9,0⟩] scope pos) 0 (.ref it) (.ref s2.heap.objs.size) (compEnvC scope (Dd X.env scope.names []) s3.heap.objs.size X.env))
   (RR (.ref s2.heap.objs.size) s3.heap.objs.size) { s3 with heap:=h₁,toks:=tk }:=by
  intro tk
  refine Ym (λn s'=>∃ i ys v0 v1 H',Inv (Bm X x z scope s3.heap.objs.size s3 (upd H2 s2.heap.objs.size (.lst [])) fp) [] (v0::v1::σ) H' s'/\tn i s'.heap/\(∀ b∈fp,H' b=none)/\W i n ys H') rfl ?_ m0
   ⟨0,[],none,none,_,start tk,st3,λb hb=>(f3 b hb).1,w0⟩
  rintro n s4 ⟨i,ys,v0,v1,H4,I4,zQ,zz,w4⟩
  have stat:∀ {H':Hp},(∀ b∈fp,H' b=none)->∀ b∈fp,G7 (Bm X x z scope s3.heap.objs.size s3 (upd H2 s2.heap.objs.size (.lst [])) fp) [] H' b:=λhn b hb=>by
   refine⟨hn b hb,(I4.ok.exf b hb).1,I4.ok.exfs b hb,.inl hb,(I4.ok.exf b hb).2,λp hp=>absurd (show p∈([]:List (Addr × Obj)) from hp) (by simp)⟩
  rcases pi i n ys H4 w4 with⟨stop,qn⟩ | ⟨go,step⟩
  ·refine CW (T.done (Bm X x z scope s3.heap.objs.size s3 (upd H2 s2.heap.objs.size (.lst [])) fp) rfl rfl rfl hc i [] s4 (v0::v1::σ) H4 _ I4 (stat zz) zQ stop) λr s5 ⟨hr,I5⟩=>?_
   subst hr
   obtain⟨m,hn,_⟩:=I5.loc
   refine EW _ _ s5 H4 m hn (I3.NB (ar _) I5.free) (I3.call' (s':=s5) (ch:=fp) I5.os I5.base I5.hok I5.bare (λb hb=>?_)) qn
   obtain⟨_,g1,_,g3,g4,g5⟩:=f3 b hb
   exact⟨g3,g1,g4,g5⟩
  ·refine CW (T.item (Bm X x z scope s3.heap.objs.size s3 (upd H2 s2.heap.objs.size (.lst [])) fp) rfl rfl rfl hc i [] s4 (v0::v1::σ) H4 _ I4 (stat zz) zQ go) λr s5 ⟨u,hr,h5⟩=>?_
   subst hr
   refine CW h5 λ_ s6 h6=>?_
   obtain⟨xv,H6,I6,r6,y6,wM,E8⟩:=h6
   have EL:=I6.pinned (stat E8) (T.obj _ _ wM)
   have again:∀ {s7:Shared} {H7:Hp} {uQ:List V} {w0 w1:Option V},Inv (Bm X x z scope s3.heap.objs.size s3 (upd H2 s2.heap.objs.size (.lst [])) fp) ([]++Jv fp s6.heap) (w0::w1::σ) H7 s7->(∃ m',m'<n/\W (i+1) m' uQ H7) ->
     ∃ m,m<n/\∃ i ys v0 v1 H',Inv (Bm X x z scope s3.heap.objs.size s3 (upd H2 s2.heap.objs.size (.lst [])) fp) [] (v0::v1::σ) H' s7/\tn i s7.heap/\(∀ b∈fp,H' b=none)/\W i m ys H':=λ{s7 H7 uQ w0 w1} I7 hw=>by
    obtain⟨m',hm,w7⟩:=hw
    refine⟨m',hm,i+1,uQ,w0,w1,H7,I7.HQ,T.keep _ _ _ wM λb hb o e=>(I7.pin (b,o) (be _ (be _ (Ex hb e)))).1,λb hb=>?_,w7⟩
    obtain⟨o,e,d⟩:=T.obj _ _ wM b hb
    exact (I7.pin (b,o) (be _ (be _ (Ex hb e)))).2.1
   refine Q9 (hg _ _ _ _ _ s6 (v0::v1::σ) H6 xv u _ EL r6 (step xv H6 y6 v0 v1)) λ_ s7 ⟨σ7,H7,I7,⟨w0,w1,e7⟩,q7⟩=>?_
   subst e7
   refine Q9 (ht _ _ _ _ _ s7 (w0::w1::σ) H7 _ I7 q7) λb s8 f7=>?_
   obtain⟨H8,I8,q8⟩:=f7
   cases b with
   | false =>
    rw[if_neg cy] at q8 |-
    exact again I8 q8
   | true =>
    rw[if_pos rfl] at q8 |-
    refine Q9 (he _ _ _ _ _ s8 (w0::w1::σ) H8 _ I8 q8) λy s9 f7=>?_
    obtain⟨yv,H9,I9,r9,CY,BG,q9⟩:=f7
    refine Q9 (Bv (X:=Bm X x z scope s3.heap.objs.size s3 (upd H2 s2.heap.objs.size (.lst [])) fp) _ s9 (w0::w1::σ) H9 (.ref s2.heap.objs.size) [yv] (.ref s2.heap.objs.size) [y] (λ_ H'=>H'=upd H9 s2.heap.objs.size (.lst (ys++[yv]))) I9 rfl (.cons r9 .nil)
     ⟨_,ys,yv,rfl,rfl,CY,BG,rfl⟩) λ_ se ⟨_,uy,C6,_,FA⟩=>?_
    subst FA
    exact again C6 q9
 have key:=λtk=>codeAny_compStart_list (R:=RR (.ref s2.heap.objs.size) s3.heap.objs.size) (loop tk) (T.self X.A 0 { s3 with heap:=h₁,toks:=tk } (λCF s'=>codeAny (model X.prog X.w) X.A (.compLoop (.ListComp k6 [⟨tg,iter,i9,0⟩] scope pos) 0 CF (.ref s2.heap.objs.size) (compEnvC scope (Dd X.env scope.names []) s3.heap.objs.size X.env)) (RR (.ref s2.heap.objs.size) s3.heap.objs.size) s') _ st3 (loop tk))
 subst hs3
 exact key _
theorem XD {tg:Expr} {pos:Pos} {iter k6:Expr} {i9:List Expr} {wi:TI} {g:TG} {tt:TT} {te:TE} (hc:X.calm=true) (S:Ew X x z scope) (hi:PI X tg iter wi) (hg:∀ C s₀ H₀ fp,PG (Bm X x z scope C s₀ H₀ fp) tg g)
  (ht:∀ C s₀ H₀ fp,QS (Bm X x z scope C s₀ H₀ fp) i9 tt) (he:∀ C s₀ H₀ fp,PE (Bm X x z scope C s₀ H₀ fp) k6 te) (hs:∀ x,foldedSetIterable iter X.env x=pure x:=by intro _;rfl) :
  PE X (.ListComp k6 [⟨tg,iter,i9,0⟩] scope pos) (V2 wi g tt te):=by
 intro a7 s σ H Q I h
 rw[eval_ListComp]
 refine wpAny_comprehension_free (use:=none) (cl:=Dd X.env scope.names []) rfl hs (JD λy hy hk=>I.ok.has y.1 (S.free y hy hk)) S.kind S.names (CW (hi a7 s σ H _ I h) λv s1 h1=>CW h1 λxQ s2 h2=>?_)
 obtain⟨it,fp,tn,J,H2,e,I2,T,qB,f2,q⟩:=h2
 subst e
 refine Oq (RR:=λd6 C=>compPost (model X.prog X.w) X.A X.xe none (EP X a7 σ Q) d6 C) (Q:=Q) hc S hg ht he I2 T qB f2 q ?_
 intro D C s' H' m hn hf hI hq
 exact⟨m,hn,λh' sb=>⟨.ref D,H',hI.sameBut hf sb,rfl,hq⟩⟩
end
open PySem PySem.Spec PySem.Calls PyProof.Rows
theorem Ak.tup {K:W.Frag} {H H':Hp} {a:Addr} {xs:List V} (e:Ak H H') (h:Ga K H a xs):Ga K H' a xs:=by
 rcases h with (h | ⟨o,h⟩) | h
 ·exact .inl (.inl (e _ _ h))
 ·exact .inl (.inr ⟨o,e _ _ h⟩)
 ·exact .inr h
noncomputable def TupAt (H:Hp) (zs:List V) (y:V):Prop:=∃ T,y=.ref T/\H T=some (.tup zs)
theorem TupAt.mono {H H':Hp} {zs:List V} {y:V} (s:Ak H H') (h:TupAt H zs y):TupAt H' zs y:=let ⟨T,e,q⟩:=h;⟨T,e,s _ _ q⟩
theorem TupAt.upd {H:Hp} {zs ys ws:List V} {y:V} {D:Addr} (h:TupAt H zs y) (hD:H D=some (.lst ys)):TupAt (upd H D (.lst ws)) zs y:=by
 obtain⟨T,e,q⟩:=h
 refine⟨T,e,?_⟩
 rw[Ao λz=>by rw[z,hD] at q;cases q]
 exact q
theorem BP {α:Type} {H:Hp} {f:α->List V} {l:List α} {vs ys ws:List V} {D:Addr} (h:Paired (λa y=>TupAt H (f a) y) l vs) (hD:H D=some (.lst ys)):Paired (λa y=>TupAt (upd H D (.lst ws)) (f a) y) l vs:=Paired.Gq h λ_ _ q=>q.upd hD
theorem Ax {α:Type} {H H':Hp} {f:α->List V} {l:List α} {vs:List V} (s:Ak H H') (h:Paired (λa y=>TupAt H (f a) y) l vs):Paired (λa y=>TupAt H' (f a) y) l vs:=Paired.Gq h λ_ _ q=>q.mono s
noncomputable def Oo (x z:Str) (scope osc:Scope) (N:List Str):Bool :=
 (scope.kind == .function) && scope.names.all (λy=>y.2 != .cell && (y.2 != .local || scope.names.lookup y.1 == some .local) && (y.2 != .free || osc.names.lookup y.1 == some .cell || osc.names.lookup y.1 == some .free)) && (scope.names.lookup x == some .local) && (scope.names.lookup z == some .local) &&
 decide ((x::z::N).Nodup) && N.all (λy=>scope.names.lookup y != some .local)
theorem Kv {X:Cx} {x z:Str} {scope osc:Scope} {N:List Str} (FF:X.env.scope=osc) (hN:X.N=N) (h:Oo x z scope osc N=true):Ew X x z scope:=by
 unfold Oo at h
 simp only[Bool.and_eq_true] at h
 obtain⟨⟨⟨⟨⟨h1,h2⟩,h3⟩,h3'⟩,h4⟩,h5⟩:=h
 rw[cw] at h2 h5
 have kind:∀ y,X.env.kindOf y=osc.names.lookup y:=λy=>by show X.env.scope.names.lookup y=_;rw[FF]
 refine⟨by simpa using h1,λy hy=>?_,λy hy hk=>?_,by simpa using h3,by simpa using h3',λy hy hk=>?_,by rw[hN];exact of_decide_eq_true h4,λy hy=>?_⟩
 ·have:=h2 y hy
  simp only[Bool.and_eq_true,bne_iff_ne] at this
  exact this.1.1
 ·have:=h2 y hy
  simp only[Bool.and_eq_true] at this
  simpa [hk] using this.1.2
 ·have:=h2 y hy
  simp only[Bool.and_eq_true] at this
  rw[kind]
  simpa [hk] using this.2
 ·have:=h5 y (by rw[<-hN];exact hy)
  simpa using this
section
variable {X:Cx} {x z:Str} {scope:Scope}
theorem Yl {px pz pos:Pos} {k:Nat} {C:Addr} {s₀:Shared} {H₀:Hp} {fp:List Addr} (hc:X.calm=true) (S:Ew X x z scope) :
  PG (Bm X x z scope C s₀ H₀ fp) (.Tuple [.Name x px,.Name z pz] k pos) (YW X.K 2 (Kp (Dw 0) (Kp (Dw 1) X5))):=by
 have l1:(Bm X x z scope C s₀ H₀ fp).env.scope.names.lookup x=some .local:=lookup_relabel_local S.loc
 have l2:(Bm X x z scope C s₀ H₀ fp).env.scope.names.lookup z=some .local:=lookup_relabel_local S.loz
 exact Kz (X:=Bm X x z scope C s₀ H₀ fp) (n:=2) hc (Dy (Cr (X:=Bm X x z scope C s₀ H₀ fp) (i:=0) S.nd rfl (.inl l1) (.inr l1)) (Dy (Cr (X:=Bm X x z scope C s₀ H₀ fp) (i:=1) S.nd rfl (.inl l2) (.inr l2)) JS))
theorem Tf {px pz oi:Pos} {k:Nat} {pos:Pos} {iter k6:Expr} {i9:List Expr} {wi:TI} {tt:TT} {te:TE} (hc:X.calm=true) (S:Ew X x z scope) (hi:PI X (.Tuple [.Name x px,.Name z pz] k oi) iter wi)
  (ht:∀ C s₀ H₀ fp,QS (Bm X x z scope C s₀ H₀ fp) i9 tt) (he:∀ C s₀ H₀ fp,PE (Bm X x z scope C s₀ H₀ fp) k6 te) (hs:∀ x,foldedSetIterable iter X.env x=pure x:=by intro _;rfl) :
  PE X (.ListComp k6 [⟨.Tuple [.Name x px,.Name z pz] k oi,iter,i9,0⟩] scope pos) (V2 wi (YW X.K 2 (Kp (Dw 0) (Kp (Dw 1) X5))) tt te) :=
 XD hc S hi (λ_ _ _ _=>Yl hc S) ht he hs
end
section
variable {σ:St} {H1:Hp} {Q:VK} {tt:TT} {te:TE}
theorem Dk {K:W.Frag} {a:Addr} {xs:List V} (p:V->Bool) (f:V->V) (hl:Dg K H1 a xs) (hz:xs.length<sizeLine)
  (ht:∀ x∈xs,∀ H,Ak H1 H->∀ R:Bool->Hp->Prop,(∀ H',Ak H H'->R (p x) H')->tt (some x::σ) H R)
  (he:∀ x∈xs,p x=true->∀ H,Ak H1 H->∀ R:VK,(∀ H',Ak H H'->R (f x) H')->te (some x::σ) H R)
  (hq:∀ D H,H1 D=none->Ak H1 H->H D=some (.lst ((xs.filter p).map f))->Q (.ref D) H):G3 (az K a) σ H1 Q tt te :=
 Gb p f hz (λi H x hs hx=>⟨xs,x,hs.seq hl,hx⟩) (λi H y H' hs _ hy=>⟨hy.1,hy.2 xs (hs.seq hl)⟩) (λH hs=>⟨xs,hs.seq hl,ar _⟩) ht he hq
theorem Mw {J:It} {xs:List V} (p:V->Bool) (f:V->List V) (hz:xs.length<sizeLine)
  (DI:∀ i H x,Ak H1 H->xs[i]? = some x->J.go i H) (hy:∀ i H y H',Ak H1 H->i<xs.length->J.yld i H y H'->H'=H/\xs[i]? = some y) (sL:∀ H,Ak H1 H->J.stop xs.length H)
  (ht:∀ x∈xs,∀ H,Ak H1 H->∀ R:Bool->Hp->Prop,(∀ H',Ak H H'->R (p x) H')->tt (some x::σ) H R)
  (he:∀ x∈xs,p x=true->∀ H,Ak H1 H->∀ R:VK,(∀ y H',Ak H H'->TupAt H' (f x) y->R y H')->te (some x::σ) H R)
  (hq:∀ D H ys,H1 D=none->Ak H1 H->H D=some (.lst ys)->Paired (λx y=>TupAt H (f x) y) (xs.filter p) ys->Q (.ref D) H):G3 J σ H1 Q tt te:=by
 intro D hD
 have s0:Ak H1 (upd H1 D (.lst [])):=λb o e=>by rw[Ao (Al e hD)];exact e
 refine⟨λi m ys H=>m=xs.length - i/\i<=xs.length/\H D=some (.lst ys)/\Paired (λx y=>TupAt H (f x) y) ((xs.take i).filter p) ys/\Ak H1 H,⟨xs.length,by simp,Nat.zero_le _,Af,by simpa using Paired.nil,s0⟩,?_⟩
 rintro i m ys H ⟨rfl,hi,hd,hp,hs⟩
 by_cases hlt:i<xs.length
 ·obtain⟨x,hx⟩:∃ x,xs[i]? = some x:=⟨xs[i],by simp[hlt]⟩
  refine .inr ⟨DI i H x hs hx,λy H3 A1=>?_⟩
  obtain⟨rfl,hy'⟩:=hy i H y H3 hs hlt A1
  rw[hx] at hy'
  cases hy'
  have hm:x∈xs:=al hx
  have hlen:ys.length<sizeLine:=by
   rw[<-hp.length]
   refine ck (fz _ _) (ck ?_ hz)
   rw[cE];omega
  refine ht x hm _ hs _ λH4 s4=>?_
  by_cases hpx:p x=true
  ·rw[if_pos hpx]
   refine he x hm hpx H4 (hs.trans s4) _ λy H5 s5 hφ=>?_
   refine⟨s5 _ _ (s4 _ _ hd),hlen,xs.length - (i+1),by omega,rfl,hlt,Af,?_,λb o e=>?_⟩
   ·rw[take_succ_filter p xs i x hx,if_pos hpx]
    exact (BP (Ax (s4.trans s5) hp) (s5 _ _ (s4 _ _ hd))).snoc (hφ.upd (s5 _ _ (s4 _ _ hd)))
   ·rw[Ao (Al e hD)];exact s5 _ _ (s4 _ _ (hs _ _ e))
  ·rw[if_neg hpx]
   refine⟨xs.length - (i+1),by omega,rfl,hlt,s4 _ _ hd,?_,hs.trans s4⟩
   rw[take_succ_filter p xs i x hx,if_neg hpx,eg]
   exact Ax s4 hp
 ·have e:i=xs.length:=by omega
  subst e
  rw[gg] at hp
  exact .inl ⟨sL H hs,hq D H ys hD hs hd hp⟩
theorem JV {K:W.Frag} {a:Addr} {xs:List V} (p:V->Bool) (f:V->List V) (hl:Dg K H1 a xs) (hz:xs.length<sizeLine)
  (ht:∀ x∈xs,∀ H,Ak H1 H->∀ R:Bool->Hp->Prop,(∀ H',Ak H H'->R (p x) H')->tt (some x::σ) H R)
  (he:∀ x∈xs,p x=true->∀ H,Ak H1 H->∀ R:VK,(∀ y H',Ak H H'->TupAt H' (f x) y->R y H')->te (some x::σ) H R)
  (hq:∀ D H ys,H1 D=none->Ak H1 H->H D=some (.lst ys)->Paired (λx y=>TupAt H (f x) y) (xs.filter p) ys->Q (.ref D) H):G3 (az K a) σ H1 Q tt te :=
 Mw p f hz (λi H x hs hx=>⟨xs,x,hs.seq hl,hx⟩) (λi H y H' hs _ hy=>⟨hy.1,hy.2 xs (hs.seq hl)⟩) (λH hs=>⟨xs,hs.seq hl,ar _⟩) ht he hq
theorem Mz {α β:Type} {F:α->β->Prop} (g:Nat->α):∀ {n:Nat} {l:List α} {ys:List β},Paired F l ys->l=(List.range n).map g->Paired (λi y=>F (g i) y) (List.range n) ys:=by
 intro n
 have key:∀ (js:List Nat) (ys:List β),Paired F (js.map g) ys->Paired (λi y=>F (g i) y) js ys:=by
  intro js
  induction js with
  | nil=>intro ys h;cases h;exact .nil
  | cons j js ih =>
   intro ys h
   cases h with
   | cons a b=>exact .cons a (ih _ b)
 intro l ys h e
 subst e
 exact key _ _ h
theorem UW {n:Nat} (f:Nat->List V) (hz:n<sizeLine)
  (he:∀ i:Nat,i<n->∀ H,Ak H1 H->∀ R:VK,(∀ y H',Ak H H'->TupAt H' (f i) y->R y H')->te (some (.int (i:Int))::σ) H R)
  (hq:∀ D H ys,H1 D=none->Ak H1 H->H D=some (.lst ys)->Paired (λi y=>TupAt H (f i) y) (List.range n) ys->Q (.ref D) H):G3 (Zj 0 n) σ H1 Q Yk te:=by
 let g:V->Nat:=λv=>match v with | .int i=>i.toNat | _=>0
 have hxs:∀ i:Nat,i<n->((List.range n).map λ(i:Nat)=>V.int (i:Int))[i]? = some (.int i):=λi hi=>by simp[hi]
 refine Mw (xs:=(List.range n).map λ(i:Nat)=>V.int (i:Int)) (λ_=>true) (λv=>f (g v)) (by simpa using hz) (λi H x _ hx=>?_) (λi H y H' _ hi hy=>?_) (λH _=>?_) (λx hx H hs R k=>k H (Ak.refl H)) (λx hx _ H hs R k=>?_) (λD H ys h1 h2 h3 h4=>?_)
 ·have:i<((List.range n).map λ(i:Nat)=>V.int (i:Int)).length:=(ai.mp hx).1
  show i<n
  simpa using this
 ·obtain⟨e1,e2⟩:=hy
  have hi':i<n:=by simpa using hi
  refine⟨e1,?_⟩
  rw[hxs i hi',e2,ky]
 ·show n<=_
  simp
 ·obtain⟨i,hi,rfl⟩:=ay.mp hx
  exact he i (gu.mp hi) H hs R k
 ·rw[bi.mpr (λ_ _=>rfl)] at h4
  exact hq D H ys h1 h2 h3 (Mz (F:=λx y=>TupAt H (f (g x)) y) (λi=>V.int (i:Int)) h4 rfl)
theorem Oi {K:W.Frag} {a b:Addr} {xs ys:List V} (f:V->V->V) (hx:Ga K H1 a xs) (hy:Ga K H1 b ys) (hl:xs.length=ys.length) (hz:xs.length<sizeLine)
  (he:∀ (i:Nat) x y,xs[i]? = some x->ys[i]? = some y->∀ H,Ak H1 H->∀ R:VK,(∀ H',Ak H H'->R (f x y) H')->te (some x::some y::σ) H R)
  (hq:∀ D H,H1 D=none->Ak H1 H->H D=some (.lst (List.zipWith f xs ys))->Q (.ref D) H):Nt (qP K a b) σ H1 Q (YW K 2 (Kp (Dw 0) (Kp (Dw 1) X5))) Yk te:=by
 intro D hD
 have s0:Ak H1 (upd H1 D (.lst [])):=λb o e=>by rw[Ao (Al e hD)];exact e
 refine⟨λi m zs H=>m=xs.length - i/\i<=xs.length/\zs=(List.zipWith f xs ys).take i/\H D=some (.lst zs)/\Ak H1 H,⟨xs.length,by simp,Nat.zero_le _,by simp,Af,s0⟩,?_⟩
 rintro i m zs H ⟨rfl,hi,rfl,hd,hs⟩
 have hzl:(List.zipWith f xs ys).length=xs.length:=by rw[List.length_zipWith];omega
 by_cases hlt:i<xs.length
 ·have ex:xs[i]? = some xs[i]:=af hlt
  have ey:ys[i]? = some ys[i]:=af (hl ▸ hlt)
  refine .inr ⟨⟨xs,ys,_,_,hs.tup hx,hs.tup hy,ex,ey⟩,λv H3 hv v0 v1=>?_⟩
  obtain⟨T,hT,rfl,hv⟩:=hv
  obtain⟨x,y,qx,qy,rfl⟩:=hv xs ys (hs.tup hx) (hs.tup hy)
  have s3:Ak H (upd H T (.tup [x,y])):=λb o e=>by rw[Ao (Al e hT)];exact e
  refine⟨T,[x,y],rfl,kU Af,rfl,x,[y],rfl,y,[],rfl,rfl,⟨_,_,rfl⟩,?_⟩
  unfold Yk
  dsimp only
  rw[if_pos rfl]
  refine he i x y qx qy _ (hs.trans s3) _ λH5 s5=>?_
  refine⟨s5 _ _ (s3 _ _ hd),?_,xs.length - (i+1),by omega,rfl,hlt,?_,Af,λb o e=>?_⟩
  ·rw[cE,hzl]
   omega
  ·rw[gz,iX,qx,qy]
   rfl
  ·rw[Ao (Al e hD)]
   exact s5 _ _ (s3 _ _ (hs _ _ e))
 ·have e:i=xs.length:=by omega
  subst e
  rw[<-hzl,gg] at hd
  exact .inl ⟨⟨xs,hs.tup hx,ar _⟩,hq D H hD hs hd⟩
end
theorem Hb {K:W.Frag} {a:Addr} {xs:List V} {g:TG} {tb:TS} {D:Ends} {σ:St} {H:Hp} (Pv:Nat->St->Hp->Prop) (h0:Pv 0 σ H) (hl:∀ i σ H,i<=xs.length->Pv i σ H->Dg K H a xs)
  (hb:∀ (i:Nat) x σ H T,xs[i]? = some x->Pv i σ H->H T=none->g (.ref T) σ (upd H T (.tup [.int (i:Int),x])) λσ' H'=>tb { D with nx:=Pv (i+1),ct:=Pv (i+1),bk:=D.nx } σ' H')
  (hn:∀ σ H,Pv xs.length σ H->D.nx σ H):∃ W:Nat->Nat->St->Hp->Prop,(∃ m,W 0 m σ H)/\∀ i m σ H,W i m σ H ->
   ((j4 K a).stop i H/\D.nx σ H) \/ ((j4 K a).go i H/\∃ N:St->Hp->Prop,(∀ σ H,N σ H->∃ m',m'<m/\W (i+1) m' σ H)/\∀ x H',(j4 K a).yld i H x H'->g x σ H' λσ' qE=>tb { D with nx:=N,ct:=N,bk:=D.nx } σ' qE):=by
 refine⟨λi m σ H=>m=xs.length - i/\i<=xs.length/\Pv i σ H,⟨_,rfl,dc _,h0⟩,?_⟩
 rintro i m σ H ⟨rfl,hi,hp⟩
 by_cases hlt:i<xs.length
 ·refine .inr ⟨⟨xs,_,hl i σ H hi hp,af hlt⟩,Pv (i+1),λσ' H' h=>⟨xs.length - (i+1),by omega,rfl,hlt,h⟩,λv H' hv=>?_⟩
  obtain⟨T,hT,rfl,hv⟩:=hv
  obtain⟨x,qx,rfl⟩:=hv xs (hl i σ H hi hp)
  exact hb i x σ H T qx hp hT
 ·have e:i=xs.length:=by omega
  subst e
  exact .inl ⟨⟨xs,hl _ σ H hi hp,ar _⟩,hn σ H hp⟩
structure Iz (K:W.Frag) (C:Addr):Prop where
 ga:W.findIn K (.ref C) "__getattribute__" = some (some (.builtin "BaseException.__getattribute__"))
 gt:W.findIn K (.ref C) "__getattr__" = some none
 mb:W.mroIn K C (.type "BaseException")=some true
 hd:W.hasDictIn K C=true
 ca:W.findIn K (.ref C) "__class__" = some (some (.builtin "object.__class__"))
 cg:W.specialIn K (.builtin "object.__class__") "__get__" = some (some (.builtin "getset_descriptor.__get__"))
 ct:W.takesIn K (.builtin "object.__class__")=some true
 mo:W.mroIn K C (.type "object")=some true
section
variable {prog:Program} {w:World} {A:Around} {E:vSP} {s:Shared} {K:W.Frag} {x C:Addr} {ox:Obj} {od:Option Obj} {name:Str} {tk:Tok} {R:Result->Shared->Prop}
theorem WR:builtinKind "BaseException.__getattribute__" = some .slot:=by decide +kernel
theorem Tt:splitId "BaseException.__getattribute__" = some ("BaseException","__getattribute__"):=by decide +kernel
theorem Lr (X:K.In s.heap) (I:W.InstAt s.heap x ox C od) (c:Iz K C)
  (h:wpAny (model prog w) A.in1 (Builtin.«object.__getattribute__» ⟨[.ref x,.str name tk],[]⟩) (λfin s'=>match fin with | Fin.done f=>R (.ok f) s' | Fin.again c'=>c'.quiet=true/\codeAny (model prog w) A c' R s') (λe s'=>R (.error e) s') s) :
  codeAny (model prog w) A (.call (.builtin "BaseException.__getattribute__") ⟨[.ref x,.str name tk],[]⟩) R s:=by
 have sub:W.Looks (model prog w) s.heap (isInstance (.ref x) (.type "BaseException")) true:=I.type.andThen (W.looks_mroIn X c.mb)
 exact codeAny_call_builtin PySem.F.attrBase_ValueError.ga.plain PySem.F.entry_bexc_ga (@W.check_slot (model prog w) _ _ s "BaseException.__getattribute__" "BaseException" "__getattribute__" (.ref x) [.str name tk] [] _ WR Tt sub (PySem.F.args_bexc_ga _ _) h)
theorem Uq {v:Value} (X:K.In s.heap) (I:W.InstAt s.heap x ox C od) (c:Iz K C) (hf:W.findObj K C od name=some (.value v)) (h:R (.ok (.ret v)) s) :
  codeAny (model prog w) A (.call (.builtin "BaseException.__getattribute__") ⟨[.ref x,.str name tk],[]⟩) R s:=by
 refine Lr X I c ?_
 obtain⟨hh,g,d,t,os⟩:=s
 have L0:=I.type (M:=model prog w)
 have L1:=W.looks_find (M:=model prog w) X I hf
 unfold Builtin.«object.__getattribute__»
 exact wpAny_bind (wpAny_pure (wpAny_bind (wpAny_pure (wpAny_bind (L0.at (wpAny_bind (L1.at (wpAny_pure h))))))))
theorem Up (X:K.In s.heap) (I:W.InstAt s.heap x ox C od) (c:Iz K C) (h:R (.ok (.ret (.ref C))) s) :
  codeAny (model prog w) A (.call (.builtin "BaseException.__getattribute__") ⟨[.ref x,.str "__class__" tk],[]⟩) R s:=by
 have hf:W.findObj K C od "__class__" = some (.bind (.builtin "getset_descriptor.__get__") (.builtin "object.__class__")):=by
  obtain⟨cd,hc,_⟩:=W.any_some c.hd
  unfold W.findObj
  rw[hc,Option.bind_some,c.ca,Option.bind_some]
  simp[c.cg,c.ct]
 refine Lr X I c ?_
 obtain⟨hh,g,d,t,os⟩:=s
 have L0:=I.type (M:=model prog w)
 have L1:=W.looks_find (M:=model prog w) X I hf
 unfold Builtin.«object.__getattribute__»
 refine wpAny_bind (wpAny_pure (wpAny_bind (wpAny_pure (wpAny_bind (L0.at (wpAny_bind (L1.at ?_)))))))
 show wpAny _ _ (holding [Value.builtin "object.__class__"] (call (.builtin "getset_descriptor.__get__") [.builtin "object.__class__",.ref x,.ref C]) >>= ret) _ _ _
 exact wpAny_bind (wpAny_holding (wpAny_call (W.class_get (ox:=ox) (od:=od) X I c.mo (wpAny_pure h))))
theorem rW {fill pj:Bool} {Q:vSP} {v:Value} (X:K.In s.heap) (I:W.InstAt s.heap x ox C od) (c:Iz K C) (hh:W.handedIn v=true)
  (hc:∀ (A:Around) (R:Result->Shared->Prop),R (.ok (.ret v)) s->codeAny (model prog w) A (.call (.builtin "BaseException.__getattribute__") ⟨[.ref x,.str name tk],[]⟩) R s) (h:Q v s) :
  wpAny (model prog w) A (getAttrBy (.ref x) (.str name tk) fill pj) Q E s:=by
 have L0:=I.type (M:=model prog w)
 have L1:=W.looks_findIn (M:=model prog w) X c.ga
 have L2:=W.looks_findIn (M:=model prog w) X c.gt
 have hx2:(Value.builtin "BaseException.__getattribute__" == Value.builtin "object.__getattribute__")=false:=by decide +kernel
 have hx0:(pj && onTheHeap (Value.builtin "BaseException.__getattribute__"))=false:=by cases pj <;> rfl
 obtain⟨hp,g,d,t,os⟩:=s
 unfold getAttrBy
 refine wpAny_holding (wpAny_bind (L0.at (wpAny_bind (L1.at ?_))))
 show wpAny _ _ (if (onTheHeap (Value.ref C) && Value.builtin "BaseException.__getattribute__" == Value.builtin "object.__getattribute__")=true then _ else _) _ _ _
 rw[if_neg (by rw[hx2,ib];exact cy)]
 unfold getAttrByItsOwn hookBefore
 rw[if_pos (show onTheHeap (Value.ref C)=true from rfl)]
 refine wpAny_bind (L2.at (wpAny_bind (wpAny_attempt (wpAny_holding ?_))))
 unfold callGetattribute
 rw[if_neg (by rw[hx0];exact cy)]
 unfold boundAndCalled
 refine wpAny_bind (wpAny_of_eq (PySem.F.attrBase_ValueError.ga.bind (.ref x)) ?_)
 refine wpAny_call (hc _ _ ?_)
 show wpAny _ _ (handedOut v) _ _ _
 rw[W.handedOut_of hh]
 exact wpAny_pure h
theorem ou {pj:Bool} {Q:vSP} {v:Value} (X:K.In s.heap) (I:W.InstAt s.heap x ox C od) (c:Iz K C) (hf:W.findObj K C od name=some (.value v)) (hh:W.handedIn v=true) (h:Q v { s with toks:=s.toks+1 }) :
  wpAny (model prog w) A (getAttr (.ref x) name pj) Q E s:=by
 unfold getAttr
 exact wpAny_bind (wpAny_mkText (rW (s:={ s with toks:=s.toks+1 }) X I c hh (λA R q=>Uq (s:={ s with toks:=s.toks+1 }) X I c hf q) h))
theorem aW {Q:Option Value->Shared->Prop} (X:K.In s.heap) (I:W.InstAt s.heap x ox C od) (c:Iz K C) (h:Q (some (.ref C)) { s with toks:=s.toks+1 }) :
  wpAny (model prog w) A (getAttr? (.ref x) "__class__") Q E s:=by
 unfold getAttr? getAttrBy?
 exact wpAny_bind (wpAny_mkText (wpAny_bind (wpAny_attempt (rW (s:={ s with toks:=s.toks+1 }) X I c rfl (λA R q=>Up (s:={ s with toks:=s.toks+1 }) X I c q) (wpAny_pure h)))))
theorem Vc (c:Iz K C):W.KitX K (.ref x) (.ref C) (λh=>W.InstAt h x ox C od) where
 ty:=λ_ _ _ I=>I.type
 it:=λ_ _ X _=>by
  obtain⟨Rs,sK,_⟩:=W.any_some c.hd
  unfold W.clsIn at sK
  split at sK
  ·rename_i c' d' cd' ug ho
   intro A' Q' E' s' k q
   unfold isType loadHead
   exact wpAny_bind (wpAny_loadPart (k _ _ (X _ _ ho)) (wpAny_pure q))
  ·cases sK
 ne:=λh tp dd its n sl X AL=>by
  obtain⟨Rs,sK,_⟩:=W.any_some c.hd
  refine Bool.eq_false_iff.mpr λq=>?_
  have e:C=tp:=Value.ref.inj (beq_iff_eq.mp q)
  subst e
  unfold W.clsIn at sK
  split at sK
  ·rename_i c' d' cd' ug ho
   have z:=(X _ _ ho).symm.trans AL
   cases z
  ·cases sK
 ca:=λX I k=>aW X I c k
end
noncomputable abbrev U8:List Value:=[.type "ValueError",.type "Exception",.type "BaseException",.type "object"]
noncomputable def Iu (K:W.Frag) (C:Addr):Bool:=match K.lookup C with
 | some ⟨.type "type",_,.cls cd,sl⟩=>(match cd.mro,sl.toList with
  | .ref D::bm,[_,_,_,_,some (.builtin n),_]=>(D == C) && ((n == "ValueError.__new__") && ((!cd.hasDel) && W.tailIn K U8 bm))
  | _,_=>false)
 | _=>false
theorem N5 {K:W.Frag} {h:Heap} {C:Addr} (X:K.In h) (q:Iu K C=true) :
  ∃ bm N nm qn bs hdct sn sub ab col dd k0 k1 k2 k3 k5,h.get? C=some (excClassObj nm qn C N bs bm hdct sn sub ab col dd k0 k1 k2 k3 k5 "ValueError.__new__")/\OwnTail h U8 bm:=by
 unfold Iu at q
 split at q
 ·rename_i dd cd sl look
  split at q
  ·rename_i D bm k0 k1 k2 k3 n k5 e1 e2
   simp only[Bool.and_eq_true,beq_iff_eq,Bool.not_eq_true'] at q
   obtain⟨q1,q2,q3,q4⟩:=q
   obtain⟨nm,bs,mro,ns,qn,hd,sn,sub,ab,col,del⟩:=cd
   dsimp only at e1 q3
   subst e1 q3 q1 q2
   obtain⟨l⟩:=sl
   simp only at e2
   subst e2
   exact⟨bm,ns,nm,qn,bs,hd,sn,sub,ab,col,dd,k0,k1,k2,k3,k5,X _ _ look,W.tail_of_in X q4⟩
  ·cases q
 ·cases q
section
variable {prog:Program} {w:World} {A:Around} {E:vSP} {K:W.Frag} {C:Addr} {h:Heap} {g:Array GenState} {d:Drawn} {t:Nat} {os:OsState}
noncomputable def newX (h:Heap) (C:Addr) (rest:List Value):Heap:=(h.push { cls:=.type "tuple",data:=.seq rest.toArray }).push { cls:=.ref C,data:=.fields #[.ref h.objs.size,.none,.none,.none,.bool false,.none] }
theorem Pk (h:Heap) (C:Addr) (rest:List Value):(newX h C rest).get? (h.objs.size+1)=some { cls:=.ref C,data:=.fields #[.ref h.objs.size,.none,.none,.none,.bool false,.none] }:=by
 unfold newX
 have:=Heap.get?_push_size (h.push { cls:=.type "tuple",data:=.seq rest.toArray }) (o:={ cls:=.ref C,data:=.fields #[.ref h.objs.size,.none,.none,.none,.bool false,.none] }) rfl
 rwa [Heap.size_push] at this
theorem Hx (h:Heap) (C:Addr) (rest:List Value):∀ b o,h.get? b=some o->(newX h C rest).get? b=some o:=λ_ _ e=>Heap.get?_push_of_some _ (Heap.get?_push_of_some _ e)
theorem Lh {rest:List Value} {init:Value} {Q:Fin->Shared->Prop} (X:K.In h) (q:Iu K C=true) (hi:W.findIn K (.ref C) "__init__" = some (some init)) (g9:rest.length<=sizeLine)
  (hb:∀ self,W.Looks (model prog w) (newX h C rest) (bindSpecial init self) (init,[self]))
  (k:wpAny (model prog w) A (call init (.ref (h.objs.size+1)::rest)) (λr s'=>r=.none/\Q (.done (.ret (.ref (h.objs.size+1)))) s') E ⟨newX h C rest,g,d,t,os⟩) :
  wpAny (model prog w) A (Builtin.«type.__call__» ⟨.ref C::rest,[]⟩) Q E ⟨h,g,d,t,os⟩:=by
 obtain⟨bm,N,nm,qn,bs,hdct,sn,sub,ab,col,dd,k0,k1,k2,k3,k5,hC,T⟩:=N5 X q
 have Fn:=PySem.F.excBase_ValueError
 repeat (first | with_reducible refine wpAny_loadPart_at hC ?_ | with_reducible refine wpAny_madeBy_exc hC ?_ | wp_step)
 refine codeAny_call_builtin_code (Code.quiet_builtin _ Fn.quiet) (wpAny_check_new_subU Fn (by decide) T hC ?_)
 refine codeAny_exc_new_subU Fn (by decide) Fn T hC ?_ g9
 show wpAny _ _ _ _ _ _
 have xS:=Pk h C rest
 have IC:=Hx h C rest _ _ hC
 unfold newX at xS IC
 have hcC:(Value.ref C::bm).contains (.ref C)=true:=by simp
 unfold isInstance
 repeat (first | with_reducible refine wpAny_loadPart_at xS ?_ | (with_reducible refine wpAny_isSubtype_exc IC ?_;rw[hcC]) | wp_step)
 show wpAny _ _ (typeLookup (.ref C) _) _ _ _
 have L:=W.looks_findIn (M:=model prog w) (h:=newX h C rest) (X.keeps (Hx h C rest)) hi
 refine L.at (wpAny_holding (wpAny_bind ((hb _).at (wpAny_bind (wpAny_mono k (λr s' z=>?_) λ_ _ e=>e)))))
 obtain⟨e,z⟩:=z
 subst e
 refine wpAny_pure ?_
 exact wpAny_pure z
theorem Wi {rest:List Value} {init:Value} {R:Result->Shared->Prop} (X:K.In h) (q:Iu K C=true) (hi:W.findIn K (.ref C) "__init__" = some (some init)) (g9:rest.length<=sizeLine)
  (hb:∀ self,W.Looks (model prog w) (newX h C rest) (bindSpecial init self) (init,[self]))
  (k:∀ A',A'=A.under (.builtin "type.__call__" ⟨.ref C::rest,[]⟩)->wpAny (model prog w) A' (call init (.ref (h.objs.size+1)::rest)) (λr s'=>r=.none/\R (.ok (.ret (.ref (h.objs.size+1)))) s') (λe s'=>R (.error e) s') ⟨newX h C rest,g,d,t,os⟩) :
  codeAny (model prog w) A (.call (.ref C) ⟨rest,[]⟩) R ⟨h,g,d,t,os⟩:=by
 obtain⟨bm,N,nm,qn,bs,hdct,sn,sub,ab,col,dd,k0,k1,k2,k3,k5,hC,T⟩:=N5 X q
 have f1:=tc_lookup
 have f2:=tc_bind (.ref C)
 have hT:(⟨h,g,d,t,os⟩:Shared).TypeIs (.ref C) "type":=⟨_,hC,rfl⟩
 refine codeAny_of_tree ?_
 show wpAny _ _ (callAny (.ref C) _) _ _ _
 repeat (any_goals (first | assumption | with_reducible refine wpAny_loadPart_at hC ?_ | wp_step))
 refine⟨rfl,?_⟩
 refine codeAny_call_builtin_at (Code.quiet_builtin _ (by decide +kernel)) entry_typeCall (wpAny_check_type_call_sub hC (Lh X q hi g9 hb ?_))
 refine wpAny_mono (k _ ?_) (λr s' z=>z) λ_ _ z=>z
 rfl
end
noncomputable def Jg (x C:Addr) (od:Option Addr):HO:=.ext λh=>∃ (d:Data) (sl:Array (Option Value)),h.get? x=some ⟨.ref C,od,d,sl⟩/\W.notCls ⟨.ref C,od,d,sl⟩=true
noncomputable def V6 (dx:Addr) (fs:List (Str × V)):HO:=.ext λh=>∃ mA,h.Ns1 dx mA/\∀ f,Gr (fs.lookup f) (mA f)
section
variable {P:Program} {w:World} {H H':Hp} {h:Heap} {x C dx:Addr} {od:Option Addr} {fs:List (Str × V)}
theorem Xr {d:Data} {sl:Array (Option Value)} (e:h.get? x=some ⟨.ref C,od,d,sl⟩) (n:W.notCls ⟨.ref C,od,d,sl⟩=true):Bt P w H h x (Jg x C od) :=
 ⟨⟨d,sl,e,n⟩,⟨_,e⟩,λ_ _ ⟨d,sl,e,n⟩ k=>⟨d,sl,k _ e,n⟩⟩
theorem cY {mA:Str->Option Value} (n:h.Ns1 dx mA) (r:∀ f,Gr (fs.lookup f) (mA f)):Bt P w H h dx (V6 dx fs) :=
 ⟨⟨mA,n,r⟩,(let ⟨o,_,_,e,_⟩:=n;⟨o,e⟩),λ_ _ ⟨mA,⟨o,es,ep,e,c⟩,r⟩ k=>⟨mA,⟨o,es,ep,k o e,c⟩,r⟩⟩
inductive Hi (H:Hp) (x C:Addr):List (Str × V)->Prop where
 | bare (e:H x=some (Jg x C none)):Hi H x C []
 | full {dx:Addr} {fs:List (Str × V)} (e:H x=some (Jg x C (some dx))) (d:H dx=some (V6 dx fs)):Hi H x C fs
theorem Hi.same (i:Hi H x C fs) (s:Ak H H'):Hi H' x C fs:=by
 cases i with
 | bare e=>exact .bare (s _ _ e)
 | full e d=>exact .full (s _ _ e) (s _ _ d)
theorem QJ (hok:Fd P w H h) (i:Hi H x C fs):∃ ox od,W.InstAt h x ox C od/\∀ f v,fs.lookup f=some v->∃ o u,od=some o/\W.lookIn f o=some (some u)/\RelV v u:=by
 cases i with
 | bare e =>
  obtain⟨⟨d,sl,e1,n⟩,_,_⟩:=(show Bt P w H h x (Jg x C none) from hok x _ e)
  exact⟨_,none,⟨e1,rfl,n,trivial⟩,λf v q=>by simp at q⟩
 | @full dx fs e d =>
  obtain⟨⟨d',sl,e1,n⟩,_,_⟩:=(show Bt P w H h x (Jg x C (some dx)) from hok x _ e)
  obtain⟨⟨mA,n2,r⟩,_,_⟩:=(show Bt P w H h dx (V6 dx fs) from hok dx _ d)
  obtain⟨o,ho,hl⟩:=MT n2
  refine⟨_,some o,⟨e1,rfl,n,ho⟩,λf v q=>?_⟩
  obtain⟨u,hu,ru⟩:=Gr.some_of (v:=v) (o:=mA f) (by rw[<-q];exact r f)
  exact⟨o,u,rfl,by rw[hl,hu],ru⟩
end
section
variable {P:Program} {w:World} {X:Cx} {a7:List (Addr × Obj)} {σ:St} {H:Hp} {s:Shared} {h':Heap} {a:Addr} {o:HO}
theorem Fd.jz {h h':Heap} (x:Fd P w H h) (k:∀ b u,h.get? b=some u->h'.get? b=some u) (hn:H a=none) (new:Bt P w (upd H a o) h' a o):Fd P w (upd H a o) h':=λb u e=>by
 by_cases hb:b=a
 ·subst hb;rw[Af] at e;cases e;exact new
 ·rw[Ao hb] at e
  exact (x b u e).stay (λc v _ q=>k c v q) (λc q=>by rw[Ao (Al q hn)];exact q) λc xs q=>by rw[Ao (Al q hn)];exact q
theorem Fd.none_of {h:Heap} (x:Fd P w H h) (e:h.get? a=none):H a=none:=by
 cases q:H a with
 | none=>rfl
 | some u =>
  exfalso
  obtain⟨o,ho⟩:∃ o,h.get? a=some o:=by
   have z:=x a u q
   cases u with
   | lst xs=>obtain⟨_,_,_,_,e⟩:=z;exact⟨_,e⟩
   | tup xs=>obtain⟨_,_,_,o,e,_⟩:=z;exact⟨_,e⟩
   | dK a8=>obtain⟨_,_,_,_,o,_,_,e,_⟩:=z;exact⟨_,e⟩
   | dT a8=>obtain⟨_,_,_,_,o,_,_,e,_⟩:=z;exact⟨_,e⟩
   | set S n=>obtain⟨o,_,_,_,e,_⟩:=z;exact⟨_,e⟩
   | ins C dx fs=>obtain⟨_,_,_,e,_⟩:=z;exact⟨_,e⟩
   | own y=>obtain⟨_,e⟩:=z;exact⟨_,e⟩
   | xd fs=>obtain⟨_,⟨_,_,_,e,_⟩,_⟩:=z;exact⟨_,e⟩
   | rng lo hi=>obtain⟨_,_,_,e⟩:=z;exact⟨_,e⟩
   | frz ob u=>obtain⟨e,_⟩:=z;exact⟨_,e⟩
   | tbl ps=>exact⟨_,(show h.get? a=some _ from z)⟩
   | met f y=>exact⟨_,(show h.get? a=some _ from z)⟩
   | ext φ=>obtain⟨_,⟨_,e⟩,_⟩:=z;exact⟨_,e⟩
  rw[e] at ho;cases ho
end
theorem X_ {K:W.Frag} {h:Heap} {C:Addr} (X:K.In h) (q:W.excIn K C U8 "ValueError.__new__" = true) :
  ∃ bm N nm qn bs hdct sn sub ab col dd k0 k1 k2 k3 k5 mN,h.get? C=some (excClassObj nm qn C N bs bm hdct sn sub ab col dd k0 k1 k2 k3 k5 "ValueError.__new__")/\h.Ns N mN/\mN "__init__" = none/\OwnTail h U8 bm:=by
 unfold W.excIn at q
 split at q
 ·rename_i dd cd sl ho
  split at q
  ·rename_i C' bm k0 k1 k2 k3 n k5 hm hs
   simp only[Bool.and_eq_true,beq_iff_eq,Bool.not_eq_true'] at q
   obtain⟨⟨⟨⟨⟨rfl,rfl⟩,yw⟩,ht⟩,hok⟩,DV⟩:=q
   obtain⟨nm,bs,mro,ns,qn,hd,sn,sub,ab,col,del⟩:=cd
   dsimp only at hm yw hok DV
   subst hm yw
   have hsl:sl = #[k0,k1,k2,k3,some (.builtin "ValueError.__new__"),k5]:=by
    obtain⟨l⟩:=sl
    simp only at hs
    rw[hs]
   subst hsl
   exact⟨bm,ns,nm,qn,bs,hd,sn,sub,ab,col,dd,k0,k1,k2,k3,k5,_,X _ _ ho,.of_isNs (W.isNs_of_in X hok),W.nsMap_none_of_in X hok DV,W.tail_of_in X ht⟩
  ·cases q
 ·cases q
section
variable {X:Cx} {C:Addr} {x:Str} {e:Expr} {es:List Expr} {t:TA} {p pos:Pos}
end
noncomputable def cU:V->Option Value
 | .ref a=>some (.ref a)
 | .ty n=>some (.type n)
 | _=>none
theorem Qf {X:Cx}:Fx X (.builtin "isinstance") (λxs H Q=>∃ x C fs c cv b,xs=[V.ref x,c]/\Hi H x C fs/\Iz X.K C/\cU c=some cv/\W.kitOne X.K (.ref C) cv=some b/\Q (.bl b) H):=by
 intro a7 s σ H xs us Q I r h
 obtain⟨x,C,fs,c,cv,b,rfl,ie,xc,hc,e,q⟩:=h
 obtain⟨u,v,rfl,ru,rv⟩:=Vals.two r
 cases ru
 have ev:v=cv:=by
  cases c with
  | ref a=>cases hc;exact rv
  | ty n=>cases hc;exact rv
  | _=>simp[cU] at hc
 subst ev
 obtain⟨ox,od,J,_⟩:=QJ I.hok ie
 exact W.kia_one (Vc xc) I.Gv J e (λz=>nomatch z) λtk=>⟨.bl b,H,I.tok _,rfl,q⟩
section
variable {X:Cx} {e:Expr} {f:Str} {pos:Pos} {ta:TE}
noncomputable def ZL (K:W.Frag) (ta:TE) (f:Str):TE:=λσ H Q=>ta σ H λy H1=>∃ x C fs v,y=.ref x/\Hi H1 x C fs/\Iz K C/\DP K C f/\fs.lookup f=some v/\Q v H1
theorem Xj (he:PE X e ta) (hb:attributeBase e f X.env (eval e X.env)=eval e X.env):PE X (.Attribute e f pos) (ZL X.K ta f):=by
 intro a7 s σ H Q I h
 refine R7 hb (CW (he a7 s σ H _ I h) λu s1 f7=>?_)
 obtain⟨y,H1,I1,ry,x,C,fs,v,ey,ie,xc,na,l,q⟩:=f7
 subst ey
 obtain rfl:u=Value.ref x:=ry
 obtain⟨ox,od,J,hl⟩:=QJ I1.hok ie
 obtain⟨o,u',rfl,hu,ru⟩:=hl f v l
 exact ou I1.Gv J xc (W.findObj_own xc.hd na rfl hu) (Ly ru) ⟨v,H1,I1.tok _,ru,q⟩
end
noncomputable def JZ:List Value->List Value
 | .ref _::r=>JZ r
 | l=>l
theorem J6 (self:Value):∀ l:List Value,refuseLoop self "__setattr__" l=refuseLoop self "__setattr__" (JZ l)
 | []=>rfl
 | v::r=>by
  cases v with
  | ref c=>rw[refuseLoop_ref];exact J6 self r
  | _=>rfl
structure au (K:W.Frag) (C:Addr):Prop where
 sa:W.findIn K (.ref C) "__setattr__" = some (some (.builtin "object.__setattr__"))
 mro:∃ cd,W.clsIn K C=some cd/\JZ cd.mro=U8/\cd.hasDict=true
section
variable {prog:Program} {w:World} {A:Around} {E:vSP} {s:Shared} {K:W.Frag} {x C:Addr} {name:Str} {v:Value} {R:Result->Shared->Prop} {d:Data} {sl:Array (Option Value)}
open PySem.Builtin PySem.Builtin.ObjectAttr in
theorem Yq {tk:Tok} (X:K.In s.heap) (hx:s.heap.get? x=some ⟨.ref C,none,d,sl⟩) (nc:W.notCls ⟨.ref C,none,d,sl⟩=true) (c:Iz K C) (S:au K C) (na:DP K C name)
  (h:∀ h' yX,h'.Ns1 s.heap.objs.size (λy=>if y=name then some v else none)->h'.get? x=some ⟨.ref C,some s.heap.objs.size,d,sl⟩->(∀ b o,b ≠ x->s.heap.get? b=some o->h'.get? b=some o)->R (.ok (.ret .none)) { s with heap:=h',toks:=yX }) :
  codeAny (model prog w) A (.call (.builtin "object.__setattr__") ⟨[.ref x,.str name tk,v],[]⟩) R s:=by
 have SF:=PySem.F.store_object
 obtain⟨cd,hc,ho,KS⟩:=S.mro
 have I:W.InstAt s.heap x ⟨.ref C,none,d,sl⟩ C none:=⟨hx,rfl,nc,trivial⟩
 have sub:W.Looks (model prog w) s.heap (isInstance (.ref x) (.type "object")) true:=I.type.andThen (W.looks_mroIn X c.mo)
 refine codeAny_call_builtin SF.slot.plain SF.entry (@W.check_slot (model prog w) _ _ s "object.__setattr__" "object" "__setattr__" (.ref x) [.str name tk,v] [] _ SF.kind SF.split sub (SF.args (.ref x) (.str name tk) v) ?_)
 have hm:W.Looks (model prog w) s.heap (mroOf (.ref C)) cd.mro:=(W.looks_clsIn X hc).andThen .now
 have L3:W.Looks (model prog w) s.heap (storeTaker? none) none:=.now
 have na':W.findIn K (.ref C) name=some none:=na
 rw[W.osa_eq,refuse_eq]
 refine wpAny_bind (wpAny_bind (I.type.here (wpAny_bind (hm.here ?_))))
 rw[J6,ho,PySem.F.store_ValueError.passes]
 refine wpAny_pure (wpAny_bind (I.type.here (wpAny_bind ((W.looks_findIn X na').here (wpAny_bind (L3.here ?_))))))
 show wpAny _ _ (storeInOwnDict (.ref x) (.ref C) (.str name tk) name v _) _ _ _
 refine wpAny_bind (wpAny_pure (wpAny_bind (wpAny_bind (wpAny_loadPart hx (wpAny_bind ((W.looks_clsIn X hc).here ?_))))))
 rw[KS]
 have hx1:(s.heap.push { cls:=.type "dict",data:=.dict #[] }).get? x=some ⟨.ref C,none,d,sl⟩:=Heap.get?_push_of_some _ hx
 have hxs:x ≠ s.heap.objs.size:=ci (Heap.lt_size hx)
 rw[if_neg (by decide)]
 dsimp only
 rw[if_neg (by simp[typeHasDict])]
 have notc:∀ c,d ≠ .cls c:=λc z=>by subst z;cases nc
 split
 ·rename_i c
  exact absurd rfl (notc c)
 refine wpAny_bind (wpAny_alloc' ?_)
 refine wpAny_bind (wpAny_update' hx1 ?_)
 refine wpAny_pure ?_
 have hx2:((s.heap.push { cls:=.type "dict",data:=.dict #[] }).update x λo=>{ o with dict:=some s.heap.objs.size }).get? x=some ⟨.ref C,some s.heap.objs.size,d,sl⟩ :=
  Heap.get?_update_self _ hx1 (by cases d <;> first | rfl | exact (Heap.get?_some_iff.mp hx).2)
 have hgd:((s.heap.push { cls:=.type "dict",data:=.dict #[] }).update x λo=>{ o with dict:=some s.heap.objs.size }).get? s.heap.objs.size=some { cls:=.type "dict",data:=.dict #[] } :=
  (Heap.get?_update_ne _ _ _ _ hxs.symm).trans (Heap.get?_push_at rfl rfl)
 have hnd:((s.heap.push { cls:=.type "dict",data:=.dict #[] }).update x λo=>{ o with dict:=some s.heap.objs.size }).Ns s.heap.objs.size (λ_=>none) :=
  ⟨_,#[],_,hgd,rfl,λe he=>absurd he (by simp),λ_=>rfl⟩
 show wpAny _ _ (storeInDict s.heap.objs.size (.str name tk) name v) _ _ _
 unfold storeInDict newKeyGuard
 refine wpAny_bind (wpAny_pure (wpAny_bind (wpAny_nsSet1 (Heap.Ns1.of_empty hnd) λh' wP hs=>?_)))
 obtain⟨oD,MV,VQ,DT,Db,sK⟩:=wP.count (PySem.Within.cons name v PySem.Within.nil)
 refine wpAny_bind (wpAny_lookBehind DT (by rw[Db];exact pastItsLine_dict (bp sK (by rw[aS,kg,sizeLine_eq];omega))) ?_)
 refine wpAny_pure (h h' _ wP ((hs.2 x hxs).trans hx2) λb o hb e=>?_)
 exact (hs.2 b (ci (Heap.lt_size e))).trans ((Heap.get?_update_ne _ _ _ _ hb).trans (Heap.get?_push_of_some _ e))
end
section
variable {X:Cx} {a7:List (Addr × Obj)} {σ:St} {H:Hp} {s:Shared} {h':Heap} {x C dx:Addr} {f:Str} {y:V} {u:Value}
end
section
variable {X:Cx} {o value:Expr} {f:Str} {pos i3:Pos} {ta tv:TE}
end
section
variable {X:Cx} {C f:Addr} {fd:FuncData} {ps:List Str} {sp:Sp} {k:Nat} {x:Str} {e:Expr} {es:List Expr} {t:TA} {p pos:Pos}
end
theorem QD {x:V} (h:GK x=true):T_ x x=true:=by
 cases x with
 | non=>rfl
 | bl b=>simp[T_]
 | int i=>simp[T_]
 | str z=>simp[T_]
 | _=>exact absurd (show false=true from h) Bool.false_ne_true
section
variable {X:Cx}
theorem Hr {xs:List V} {us:List Value} {j:Nat} (r:Vals xs us) (hj:j<us.length):RelV (xs.getD j .non) us[j]:=by
 have hl:=r.length
 have hx:xs[j]? = some xs[j]:=by simp[hl,hj]
 obtain⟨u,hu,ru⟩:=r.get hx
 rw[af hj] at hu
 cases hu
 have e:xs.getD j .non=xs[j]:=by simp[hl,hj]
 rw[e]
 exact ru
end
end L2
namespace Wd
noncomputable def mk (l:List Nat):Nat:=l.foldl (λs n=>s ||| 2 ^ n) 0
noncomputable def len (n:Nat):Nat:=if n=0 then 0 else n.log2+1
noncomputable def mem (n:Nat):List Nat:=(List.range (len n)).filter n.testBit
noncomputable def mv (n:Nat) (k:Int) (c:Nat):Nat:=(if 0<k then n * 2 ^ k.toNat else n / 2 ^ (-k).toNat) % 2 ^ c
noncomputable def stay (l:List Nat) (k:Int) (c:Nat):List Nat:=l.filter λn=>decide (0<=(n:Int)+k) && decide ((n:Int)+k<c)
theorem Xw (l:List Nat) (n:Nat):mk (l++[n])=mk l ||| 2 ^ n:=by
 unfold mk;rw[List.foldl_append];rfl
end Wd
namespace L2
open PySem PySem.Spec PySem.Calls PyProof.Rows
section
variable {X:Cx} {es:List Expr} {k1:Nat} {oi:Pos}
end
theorem X8 (a b:Nat):Builtin.bitOr (a:Int) (b:Int)=((a ||| b:Nat):Int):=by
 have h1:¬ 0<=Builtin.bitNot (a:Int):=by unfold Builtin.bitNot;omega
 have h2:¬ 0<=Builtin.bitNot (b:Int):=by unfold Builtin.bitNot;omega
 have nn:∀ x:Int,Builtin.bitNot (Builtin.bitNot x)=x:=λx=>by unfold Builtin.bitNot;omega
 unfold Builtin.bitOr
 rw[bitAnd_nn h1 h2,nn,nn,nn]
 simp
theorem V0 (k:Nat):(2:Int) ^ k=((2 ^ k:Nat):Int):=by simp
end L2
namespace Wd
open PySem
noncomputable abbrev Xl (xs:Array Nat):Prop:=xs.toList.Pairwise (· < ·)
theorem Qg {xs:Array Nat} (r:Xl xs) {i k:Nat} (h:i<k) (hk:k<xs.size):xs.getD i 0<xs.getD k 0:=by
 have hi:i<xs.size:=Nat.lt_trans h hk
 have:=(List.pairwise_iff_getElem.mp r) i k (by simpa using hi) (by simpa using hk) h
 simpa [Array.getD,hi,hk] using this
structure Cut (xs:Array Nat) (j p:Nat):Prop where
 le:p<=xs.size
 lo:∀ i,i<p->xs.getD i 0<j
 hi:∀ i,p<=i->i<xs.size->j<=xs.getD i 0
theorem Kf {xs:Array Nat} (r:Xl xs) (j:Nat):∀ (fuel lo hi:Nat),hi<=xs.size->hi - lo<=fuel->lo<=hi->(∀ i,i<lo->xs.getD i 0<j)->(∀ i,hi<=i->i<xs.size->j<=xs.getD i 0)->Cut xs j (SetTable.below.go xs j fuel lo hi)
 | 0,lo,hi,h1,h2,h3,a,b=>by
  have e:lo=hi:=by omega
  subst e
  exact⟨h1,a,b⟩
 | fuel+1,lo,hi,h1,h2,h3,a,b=>by
  unfold SetTable.below.go
  split
  ·rename_i hlt
   have hm:(lo+hi) / 2<xs.size:=by omega
   have e:xs.getD ((lo+hi) / 2) j=xs.getD ((lo+hi) / 2) 0:=by simp[Array.getD,hm]
   dsimp only
   rw[e]
   by_cases hj:xs.getD ((lo+hi) / 2) 0<j
   ·rw[if_pos hj]
    refine Kf r j fuel ((lo+hi) / 2+1) hi h1 (by omega) (by omega) (λi hi'=>?_) b
    by_cases q:i=(lo+hi) / 2
    ·rw[q];exact hj
    ·have:=Qg r (i:=i) (k:=(lo+hi) / 2) (by omega) hm
     omega
   ·rw[if_neg hj]
    refine Kf r j fuel lo ((lo+hi) / 2) (by omega) (by omega) (by omega) a λi hi' hs=>?_
    by_cases q:i=(lo+hi) / 2
    ·rw[q];omega
    ·have:=Qg r (i:=(lo+hi) / 2) (k:=i) (by omega) hs
     omega
  ·have e:lo=hi:=by omega
   subst e
   exact⟨h1,a,b⟩
theorem MP {xs:Array Nat} (r:Xl xs) (j:Nat):Cut xs j (SetTable.below xs j) :=
 Kf r j xs.size 0 xs.size (ar _) (by omega) (dc _) (λi h=>absurd h (ip _)) (λi h1 h2=>absurd h2 (by omega))
theorem Q7 {xs:Array Nat} {j:Nat} (r:Xl xs) (h:xs[SetTable.below xs j]? ≠ some j):j ∉ xs.toList:=λhm=>by
 have c:=MP r j
 obtain⟨i,hi,e⟩:=fN.mp hm
 have hi':i<xs.size:=by simpa using hi
 have ei:xs.getD i 0=j:=by simpa [Array.getD,hi'] using e
 have h1:SetTable.below xs j<=i:=by
  rcases Nat.lt_or_ge i (SetTable.below xs j) with q | q
  ·have:=c.lo i q;omega
  ·exact q
 have h2:SetTable.below xs j<xs.size:=ck h1 hi'
 have h3:=c.hi _ (ar _) h2
 have h4:SetTable.below xs j=i:=by
  rcases Nat.lt_or_ge (SetTable.below xs j) i with q | q
  ·have:=Qg r q hi';omega
  ·omega
 refine h ?_
 have e':xs[i]=j:=by simpa [Array.getD,hi'] using ei
 rw[h4,Array.getElem?_eq_getElem hi',e']
theorem Qp {xs:Array Nat} {j:Nat} (r:Xl xs) (h:xs[SetTable.below xs j]? ≠ some j):Xl (SetTable.insertAt xs (SetTable.below xs j) j):=by
 have c:=MP r j
 have nm:=Q7 r h
 show (SetTable.insertAt xs (SetTable.below xs j) j).toList.Pairwise _
 rw[SetTable.toList_insertAt,List.pairwise_append,List.pairwise_cons]
 have lt1:∀ a∈xs.toList.take (SetTable.below xs j),a<j:=λa ha=>by
  obtain⟨i,hi,e⟩:=fN.mp ha
  rw[cE] at hi
  have hi2:i<xs.size:=by simp at hi;omega
  have:=c.lo i (by omega)
  simp[Array.getD,hi2] at this
  rw[List.getElem_take] at e
  rw[<-e]
  simpa using this
 have lt2:∀ a∈xs.toList.drop (SetTable.below xs j),j<a:=λa ha=>by
  obtain⟨i,hi,e⟩:=fN.mp ha
  rw[fE] at hi
  have hi2:SetTable.below xs j+i<xs.size:=by simp at hi;omega
  have:=c.hi (SetTable.below xs j+i) (Nat.le_add_right _ _) hi2
  simp[Array.getD,hi2] at this
  rw[List.getElem_drop] at e
  have hle:j<=a:=by rw[<-e];simpa using this
  have hne:j ≠ a:=λz=>nm (by rw[z];exact List.mem_of_mem_drop ha)
  omega
 exact⟨r.sublist (List.take_sublist _ _),⟨lt2,r.sublist (List.drop_sublist _ _)⟩,λa ha b hb=>by
  rcases bq.mp hb with e | hb
  ·rw[e];exact lt1 a ha
  ·have:=lt1 a ha;have:=lt2 b hb;omega⟩
theorem U3 {t:SetTable} {j:Nat} (h:∀ i,t.slot j ≠ .live i):t.place[SetTable.below t.place j]? ≠ some j:=λe=>by
 refine h (SetTable.below t.place j) ?_
 unfold SetTable.slot
 dsimp only
 rw[e]
 simp
theorem Ij (t:SetTable) (p:SetTable.Probe):(t.advance p).dummy=p.dummy:=by
 unfold SetTable.advance
 split <;> rfl
theorem JB {t:SetTable} {f:Nat->Int} {h:Int}:∀ (fuel:Nat) (p:SetTable.Probe) (j:Nat) (dm:Option Nat),(∀ d,p.dummy=some d->t.slot d=.dummy)->SetTable.probe.go t f h fuel p=some (.empty j dm) ->
  t.slot j=.empty/\∀ d,dm=some d->t.slot d=.dummy
 | 0,p,j,dm,hd,e=>by unfold SetTable.probe.go at e;cases e
 | fuel+1,p,j,dm,hd,e=>by
  unfold SetTable.probe.go at e
  split at e
  ·rename_i hs
   cases e
   exact⟨hs,hd⟩
  ·rename_i hs
   refine JB fuel _ j dm (λd q=>?_) e
   rw[Ij] at q
   cases q
   exact hs
  ·split at e
   ·cases e
   ·refine JB fuel _ j dm (λd q=>?_) e
    rw[Ij] at q
    exact hd d q
theorem UG {t:SetTable} {h:Int} {j:Nat} {d:Bool} (e:t.freeSlot h=some (j,d)):∀ i,t.slot j ≠ .live i:=by
 unfold SetTable.freeSlot at e
 split at e
 ·rename_i j' dm q
  unfold SetTable.probe at q
  obtain⟨h1,h2⟩:=JB _ _ _ _ (λd hd=>by simp[SetTable.probeStart] at hd) q
  cases dm with
  | none=>cases e;intro i z;rw[show (none:Option Nat).getD j'=j' from rfl,h1] at z;cases z
  | some d' =>
   cases e
   intro i z
   rw[show (some d').getD j'=d' from rfl,h2 d' rfl] at z
   cases z
 ·cases e
structure Good (t:SetTable) (led:Bool):Prop where
 led:t.led=led
 ris:t.plain=true->Xl t.place
theorem Qe (led:Bool):Good (.fresh 0 0 led) led:=⟨rfl,λ_=>by simp[SetTable.fresh,Xl]⟩
theorem HD {t:SetTable} {led:Bool} (g:Good t led) (n:Nat):Good (t.standIn n) led:=⟨g.led,λh=>by simp[SetTable.standIn] at h⟩
theorem Yb {t:SetTable} {led:Bool} (g:Good t led) (n:Nat):Good (t.orStandIn n) led:=by
 unfold SetTable.orStandIn
 split
 ·exact g
 ·exact HD g n
theorem V1 {t:SetTable} {led:Bool} (g:Good t led) (es:Array (Int × Value)) (h:Int) (x:Value):Good (layNew t es h x).2.1 led:=by
 unfold layNew
 split
 ·rename_i slot wd e
  refine Yb (t:=(t.put slot).1) ⟨g.led,λhp=>?_⟩ _
  exact Qp (g.ris hp) (U3 (UG e))
 ·exact HD g _
theorem Ux {DF vg yg:Nat} {led plain:Bool} {hs:Array Int} {t:SetTable} {o:Array Nat} (e:SetTable.laid DF vg yg led plain hs=some (t,o)):Good t led/\t.plain=plain:=by
 unfold SetTable.laid at e
 simp only[Option.bind_eq_bind,Option.bind_eq_some_iff] at e
 obtain⟨GV,_,e⟩:=e
 cases e
 refine⟨⟨rfl,λ_=>?_⟩,rfl⟩
 show List.Pairwise _ ((List.map _ _).toArray).toList
 rw[List.pairwise_map,List.pairwise_filterMap]
 refine List.pairwise_lt_range.imp λ{a b} hab x hx y hy=>?_
 obtain⟨u,_,rfl⟩:=ee.mp hx
 obtain⟨v,_,rfl⟩:=ee.mp hy
 exact hab
theorem Q_ {t:SetTable} {led:Bool} (g:Good t led) (es:Array (Int × Value)) (n:Nat):Good (relayAll t es n).2.1 led:=by
 unfold relayAll
 split
 ·rename_i t' order e
  dsimp only
  split
  ·have:=Ux e
   rw[g.led] at this
   exact this.1
  ·exact HD g _
 ·exact HD g _
open PySem PySem.Spec PyProof.Rows
noncomputable def m8 (prog:Program) (w:World) (h:Heap) (a:Addr) (led:Bool) (σ:List Int):Prop :=
 ∃ es ep t,h.get? a=some { cls:=.type "set",dict:=none,data:=.set es ep t }/\ElemsOf (intKind prog w) es.toList/\(∀ k,k∈σ ↔ ∃ e∈es.toList,(intKind prog w).is k e.2=true)/\es.size=σ.length/\σ.Nodup /\
  σ.length<scanBound/\t.fits es.size=true/\Good t led
section
variable {prog:Program} {w:World} {A:Around} {E:vSP} {s:Shared} {a:Addr} {led:Bool} {σ:List Int} {k:Int} {tk:Tok}
theorem S6 {h:Heap} {es es':Array (Int × Value)} {ep:Nat} {t t':SetTable} (ho:h.get? a=some { cls:=.type "set",dict:=none,data:=.set es ep t }) :
  (h.update a (Obj.putSet es' t')).get? a=some { cls:=.type "set",dict:=none,data:=.set es' (ep+1) t' } :=
 (Heap.get?_update_self (Obj.putSet es' t') ho (by rw[putSet_of es' t' rfl];rfl)).trans (by rw[putSet_of es' t' rfl])
end
section
variable {prog:Program} {w:World} {A:Around} {R:Result->Shared->Prop} {I:Addr} {fp wr:List Addr} {G:Array GenState->Array GenState->Prop} {n:Nat} {P:Nat->Value->Prop} {St:Nat->Shared->Prop} {led:Bool}
end
section
variable {prog:Program} {w:World} {A:Around} {E:vSP} {s:Shared}
noncomputable abbrev Es (w:World):Bool:=!w.params.followText "set-order"
theorem iT (a:Value) {Q1:vSP} (h:Q1 (.ref s.heap.objs.size) { s with heap:=s.heap.push { cls:=.type "set",dict:=none,data:=.set #[] 0 (.fresh 0 0 (Es w)) } }) :
  codeAny (model prog w) A (.call (.builtin "set.__new__") ⟨[.type "set",a],[]⟩) (wants Q1 E) s:=by
 refine codeAny_of_tree ?_
 show wpAny _ A.in1 (do checkBuiltinCall "set.__new__" ⟨[.type "set",a],[]⟩;again (.builtin "set.__new__" ⟨[.type "set",a],[]⟩)) _ _ s
 refine wpAny_bind (wpAny_of_eq (F.newCall_set_1 a) (wpAny_pure ⟨plainId_quiet F.plain_set_new _,codeAny_builtin F.entry_set_new ?_⟩))
 rw[Around.under_plainId F.plain_set_new _]
 unfold Builtin.«set.__new__» Builtin.Frozenset.newClass
 have yH:=sub_set_self
 obtain⟨hp,g,d,tk,os⟩:=s
 dsimp only
 wp_walk
 refine wpAny_askSetting (wpAny_pure ?_)
 dsimp only
 simp only[newObj]
 exact wpAny_bind (wpAny_alloc (wpAny_pure (wpAny_pure h)))
end
section
variable {M:Model} {A:Around} {E:vSP}
end
inductive Way (w:World) (a:Addr) (es:Array (Int × Value)) (ep:Nat) (t:SetTable) (h:Heap):(Nat->Value)->List Value->List Addr->Prop where
 | text (hb:w.params.followText "set-order" = true):Way w a es ep t h (λ_=>rawInt 0) ((pickOrder (w.params.setOrder a ep) es).toList.map (·.2)) []
 | drawn {tp:Addr} {ps:List Nat} (hb:w.params.followText "set-order" = false) (hp:ps.Perm (List.range es.size)) (ht:∃ n,h.get? tp=some { cls:=.type "tuple",data:=.seq (ps.map λ(i:Nat)=>rawInt i).toArray n }) :
   Way w a es ep t h (λ_=>.ref tp) (ps.map λi=>(es.getD i (0,.none)).2) [tp]
 | plain (hb:w.params.followText "set-order" = false) (hd:(!t.plain && decide (es.size > 1))=false) (hl:t.led=true) (hr:Xl t.place) (hs:t.place.size=es.size) :
   Way w a es ep t h (λi=>rawInt (if i=0 then 0 else t.place.getD (i - 1) 0+1:Nat)) (es.toList.map (·.2)) []
section
variable {prog:Program} {w:World} {A:Around} {E:vSP} {s:Shared} {a it:Addr} {es:Array (Int × Value)} {ep:Nat} {t:SetTable} {first:Nat->Value} {vs:List Value} {more:List Addr}
end
end Wd
section PartSetJ
set_option maxHeartbeats 1000000
namespace Wd
open PySem PySem.Spec PyProof.Rows
section
variable {prog:Program} {w:World} {A:Around} {E:vSP} {s:Shared} {a:Addr} {σ:List Int}
end
set_option maxHeartbeats 1000000
section
variable {prog:Program} {w:World} {A:Around} {E:vSP} {s:Shared} {a:Addr} {σ:List Int}
end
end Wd
end PartSetJ
namespace L2
open PySem PySem.Spec PyProof.Rows
noncomputable def uH (P:Program) (w:World) (a:Addr) (τ:List Int):HO:=.ext λh=>Wd.m8 P w h a (Wd.Es w) τ
section
variable {X:Cx} {a7:List (Addr × Obj)} {σ:St} {H:Hp} {s:Shared} {h':Heap} {a:Addr} {o:HO}
end
section
variable {X:Cx}
end
section
variable {prog:Program} {w:World} {A:Around} {E:vSP} {s:Shared} {r l:Addr}
end
section
variable {X:Cx} {p1 p2 q1 q2:Pos} {e:Expr} {te:TE}
end
noncomputable def j8 (K:W.Frag) (a:Addr) (xs:List V):It :=
 ⟨λi H=>Dg K H a xs/\i<xs.length,λi H x H'=>H'=H/\xs[xs.length - 1 - i]? = some x,λi H=>Dg K H a xs/\i=xs.length⟩
theorem Vb {P:Program} {w:World} {K:W.Frag} {tg:Expr} (a it:Addr) (xs:List V):Turn P w K tg (j8 K a xs) [it] it (λi h=>h.IsRevIter it a ((xs.length:Int) - 1 - (i:Nat))) where
 mem:=by simp
 obj:=λi h st b hb=>by
  have e:b=it:=by simpa using hb
  subst e
  obtain⟨o,e,c,d⟩:=st
  exact⟨o,e,λv z=>by rw[d] at z;cases z⟩
 keep:=λi h h' st k=>st.at λo e=>k it (by simp) o e
 item:=by
  intro X hP hw hK hc i a7 s σ H E I hf st hg
  subst hP hw hK
  obtain⟨hq,hlt⟩:=hg
  obtain⟨its,rv,p,hz⟩:=I.list hq
  have hx:xs[xs.length - 1 - i]? = some (xs[xs.length - 1 - i]'(by omega)):=af (by omega)
  obtain⟨u,hu,ru⟩:=rv.get hx
  obtain⟨f0,f1,f2,f3,f4,f5⟩:=hf it (by simp)
  have e:(xs.length:Int) - 1 - ((i:Nat):Int)=((xs.length - 1 - i:Nat):Int):=by omega
  rw[e] at st
  refine wpAny_pyNext_rev_item st p.isList (x:=u) (by simpa using hu) λh' ot sb=>?_
  have I1:Inv X a7 σ H { s with heap:=h' }:=I.turned (t':=s.toks) (λb o hb e=>(sb.2 b hb).trans e) f0 f1 f3 f4 f5
  have e2:((xs.length - 1 - i:Nat):Int) - 1=(xs.length:Int) - 1 - ((i+1:Nat):Int):=by omega
  rw[e2] at ot
  obtain⟨o,eo,c,d⟩:=id ot
  exact⟨u,rfl,Ol (s:={ s with heap:=h' }) eo c d (by decide) ⟨_,H,I1,ru,⟨rfl,hx⟩,ot,λb hb=>(hf b hb).1⟩⟩
 done:=by
  intro X hP hw hK hc i a7 s σ H E I hf st hg
  subst hP hw hK
  obtain⟨hq,rfl⟩:=hg
  obtain⟨f0,f1,f2,f3,f4,f5⟩:=hf it (by simp)
  have e:(xs.length:Int) - 1 - ((xs.length:Nat):Int) = -1:=by omega
  rw[e] at st
  exact wpAny_pyNext_rev_end (I.ok.hd hc) st λh' eb=>⟨rfl,I.turned (t':=s.toks) (λb o hb e=>eb b o hb e) f0 f1 f3 f4 f5⟩
 self:=λ_ _ _ _ _ st h=>wpAny_pyIter_revIter st h
section
variable {X:Cx} {tg:Expr}
noncomputable def pW (K:W.Frag) (ta:TA):TI:=λσ H R=>ta σ H λvs H1=>∃ a xs,vs=[.ref a]/\Dg K H1 a xs/\R (j8 K a xs) H1
theorem cB {l:Expr} {ta:TA} {p pos:Pos} (hg:Gl X "reversed") (hm:X.mg "reversed" = none) (ha:PA X [l] ta) (hs:starEach [l] X.env=[(false,eval l X.env)]:=by rfl):PI X tg (.Call (.Name "reversed" p) [l] [] pos) (pW X.K ta):=by
 intro a7 s σ H R I h
 refine Call_ (Im I hg hm PyProof.Rows.boot_reversed (PyProof.Rows.callWith_type1 (CW (ha pos a7 s σ H _ I h) λus s1 ⟨vs,H1,I1,r1,q1⟩=>?_) hs rfl))
 obtain⟨a,xs,e,hq,q⟩:=q1
 subst e
 obtain⟨u,rfl,ru⟩:=vals1 r1
 cases ru
 obtain⟨its,rv,pl,hz⟩:=I1.list hq
 refine call_reversed_list pl.isList ?_
 have hit:(s1.heap.push (revObj a ((its.toArray.size:Int) - 1))).IsRevIter s1.heap.objs.size a ((its.toArray.size:Int) - 1):=⟨_,Heap.get?_push_size _ rfl,rfl,rfl⟩
 refine wpAny_pyIter_revIter (s:={ s1 with heap:=s1.heap.push (revObj a ((its.toArray.size:Int) - 1)) }) hit ?_
 refine⟨s1.heap.objs.size,[s1.heap.objs.size],_,_,H1,rfl,I1.kept (t':=s1.toks) λb o e=>Heap.get?_push_of_some _ e,Vb a _ xs,?_,λb hb=>?_,q⟩
 ·have hl:=rv.length
  have e2:((its.toArray.size:Nat):Int) - 1=(xs.length:Int) - 1 - ((0:Nat):Int):=by
   rw[dv]
   omega
  show (s1.heap.push (revObj a ((its.toArray.size:Int) - 1))).IsRevIter s1.heap.objs.size a ((xs.length:Int) - 1 - ((0:Nat):Int))
  rw[<-e2]
  exact hit
 ·have e:b=s1.heap.objs.size:=by simpa using hb
  subst e
  exact I1.NB (ar _) (I1.hok.fresh (ar _))
theorem Yr {K:W.Frag} {a:Addr} {xs:List V} {g:TG} {tb:TS} {D:Ends} {σ:St} {H:Hp} (Pv:Nat->St->Hp->Prop) (h0:Pv 0 σ H) (hl:∀ i σ H,i<=xs.length->Pv i σ H->Dg K H a xs)
  (hs:∀ i x σ H,i<xs.length->xs[xs.length - 1 - i]? = some x->Pv i σ H->g x σ H λσ2 H2=>tb { D with nx:=Pv (i+1),ct:=Pv (i+1),bk:=D.nx } σ2 H2) (hd:∀ σ H,Pv xs.length σ H->D.nx σ H) :
  ∃ W:Nat->Nat->St->Hp->Prop,(∃ m,W 0 m σ H)/\∀ i m σ H,W i m σ H ->
   ((j8 K a xs).stop i H/\D.nx σ H) \/ ((j8 K a xs).go i H/\∃ N:St->Hp->Prop,(∀ σ' H',N σ' H'->∃ m',m'<m/\W (i+1) m' σ' H')/\∀ x H',(j8 K a xs).yld i H x H'->g x σ H' λσ2 H2=>tb { D with nx:=N,ct:=N,bk:=D.nx } σ2 H2):=by
 refine⟨λi m σ H=>m=xs.length - i/\i<=xs.length/\Pv i σ H,⟨xs.length,by simp,Nat.zero_le _,h0⟩,?_⟩
 rintro i m σ H ⟨rfl,hi,p⟩
 have q:=hl i σ H hi p
 by_cases hlt:i<xs.length
 ·refine .inr ⟨⟨q,hlt⟩,Pv (i+1),λσ' H' p'=>⟨xs.length - (i+1),by omega,rfl,by omega,p'⟩,?_⟩
  rintro x H' ⟨rfl,hx⟩
  exact hs i x σ H' hlt hx p
 ·have e:i=xs.length:=by omega
  subst e
  exact .inl ⟨⟨q,rfl⟩,hd σ H p⟩
end
open PySem PySem.Spec PySem.Calls PyProof.Rows
section
variable {X:Cx}
theorem range_any (bs:List Bool):((List.range bs.length).any λi=>(bs[i]?).getD false)=bs.any id:=by
 rw[dE,gi,gi]
 constructor
 ·rintro⟨i,hi,e⟩
  have hi':=gu.mp hi
  rw[af hi'] at e
  exact⟨_,gS hi',e⟩
 ·rintro⟨b,hb,e⟩
  obtain⟨i,hi,q⟩:=fN.mp hb
  refine⟨i,gu.mpr hi,?_⟩
  rw[af hi,q]
  exact e
theorem Hq (hc:X.calm=true):Fx X (.builtin "any") (λxs H Q=>∃ (p:Addr) (bs:List Bool),xs=[V.ref p]/\Dg X.K H p (bs.map V.bl)/\Q (.bl (bs.any id)) H):=by
 intro a7 s σ H xs us Q I r h
 obtain⟨p,bs,rfl,hp,q⟩:=h
 obtain⟨u,rfl,ru⟩:=vals1 r
 cases ru
 obtain⟨its,rv,pl,hz⟩:=I.list hp
 have hlen:bs.length=its.length:=by have:=rv.length;rw[ae] at this;exact this
 have hlt:p<s.heap.objs.size:=by obtain⟨_,e,_⟩:=pl.isList;exact Heap.lt_size e
 refine call_any_walk (wpAny_pyIter_list pl.isList ?_)
 refine⟨s.heap.objs.size,[s.heap.objs.size,p],[s.heap.objs.size],its.toArray.size,_,_,λi=>(bs[i]?).getD false,rfl,Walks.list (A:=X.A.in1) (I.ok.hd hc) _ p (ci hlt) its.toArray,
  ⟨⟨_,Heap.get?_push_size _ rfl,rfl,rfl⟩,pl.isList.push _⟩,λi v s' Q' E' hP hQ=>?_,λh' tk hk=>?_⟩
 ·have yd:its[i]? = some v:=by simpa using hP
  have hi:i<its.length:=(ai.mp yd).1
  have hb:bs[i]? = some bs[i]:=by simp[hlen,hi]
  obtain⟨u,hu,ru⟩:=rv.get (i:=i) (x:=.bl bs[i]) (by rw[br,hb];rfl)
  rw[yd] at hu
  cases hu
  cases ru
  dsimp only at hQ
  rw[hb] at hQ
  exact wpAny_truthy_bool hQ
 ·have e:((List.range its.toArray.size).any λi=>(bs[i]?).getD false)=bs.any id:=by rw[dv,<-hlen];exact range_any bs
  rw[e]
  refine⟨.bl (bs.any id),H,I.kept (t':=tk) λb o eb=>hk b o (λhm=>?_) (Heap.get?_push_of_some _ eb),rfl,q⟩
  rw[ax.mp hm] at eb
  exact fR _ (Heap.lt_size eb)
theorem QL:∀ {ts:List Str} {its:List Value},Vals (ts.map V.str) its->∃ l:List (Str × Tok),its=strValues l/\l.map (·.1)=ts
 | [],_,h=>by
  cases h
  exact⟨[],rfl,rfl⟩
 | t::ts,_,h=>by
  cases h with
  | cons a b =>
   obtain⟨k,rfl⟩:=a
   obtain⟨l,rfl,rfl⟩:=QL b
   exact⟨(t,k)::l,rfl,rfl⟩
theorem Eh:dR X "str.join" (λx xs H Q=>∃ (z:Str) (p:Addr) (ts:List Str),x=V.str z/\xs=[V.ref p]/\Dg X.K H p (ts.map V.str)/\JoinOk z ts=true/\Q (.str (Txt.join z ts)) H):=by
 intro a7 s σ H x xs v us Q I rx r h
 obtain⟨z,p,ts,rfl,rfl,hp,hj,q⟩:=h
 obtain⟨t,rfl⟩:=rx
 obtain⟨w,rfl,oj⟩:=Vals.one r
 cases oj
 obtain⟨its,rv,pl,hz⟩:=I.list hp
 obtain⟨l,rfl,el⟩:=QL rv
 exact SC.join pl.isList el hj λt' k=>⟨.str _,H,I.tok _,⟨_,rfl⟩,q⟩
structure KDict (K:W.Frag) (P:Params) (a:Addr):Prop where
 is:∃ es n,K.lookup a=some ⟨.type "dict",none,.dict es n,#[]⟩/\W.KeysLit P es.toList
 lo:(a == sysModules)=false
noncomputable def iR (K:W.Frag) (P:Params) (td ty:TE):TE:=λσ H Q=>td σ H λx H1=>ty σ H1 λy H2=>∃ a z v u,x=.ref a/\y=.str z/\KDict K P a/\W.nsIn K a z=some (some u)/\RelV v u/\Q v H2
noncomputable def gj (K:W.Frag) (P:Params) (neg:Bool) (ty td:TE):TE:=λσ H Q=>ty σ H λy H1=>td σ H1 λx H2=>∃ a z r,x=.ref a/\y=.str z/\KDict K P a/\W.nsIn K a z=some r/\Q (.bl (if neg then !r.isSome else r.isSome)) H2
variable {o i:Expr} {pos:Pos} {td ty:TE}
theorem Hy (ho:PE X o td) (hi:PE X i ty) (hs:Z3 i):PE X (.Subscript o i pos) (iR X.K X.w.params td ty):=by
 intro a7 s σ H Q I h
 refine Ru iF hs (CW (ho a7 s σ H _ I h) λu s1 ⟨x,H1,I1,rx,q1⟩=>CW (hi a7 s1 σ H1 _ I1 q1) λiv s2 f7=>?_)
 obtain⟨y,H2,I2,ry,a,z,v,w,ex,ey,kd,hw,oj,q2⟩:=f7
 subst ex ey
 cases rx
 obtain⟨t,rfl⟩:=ry
 obtain⟨⟨es,n,hl,hk⟩,lo⟩:=kd
 have hm:=W.mapOf_K (prog:=X.prog) I2.Gv hl hk
 exact⟨hm.typeIs,wpAny_getItem_of (strKind_is X.prog X.w z t) hm (W.find_K hl hw) ⟨v,H2,I2.tok _,oj,q2⟩⟩
theorem M9 (hi:PE X i ty) (ho:PE X o td):PC X .In i o (gj X.K X.w.params false ty td):=by
 intro a7 s σ H Q I h
 refine CW (hi a7 s σ H _ I h) λiv s1 ⟨y,H1,I1,ry,q1⟩=>CW (ho a7 s1 σ H1 _ I1 q1) λu s2 f7=>?_
 obtain⟨x,H2,I2,rx,a,z,r,ex,ey,kd,hw,q2⟩:=f7
 subst ex ey
 cases rx
 obtain⟨t,rfl⟩:=ry
 obtain⟨⟨es,n,hl,hk⟩,lo⟩:=kd
 refine wpAny_in_of (strKind_is X.prog X.w z t) lo (W.mapOf_K (prog:=X.prog) I2.Gv hl hk) ?_
 rw[W.find_K hl hw]
 exact⟨.bl r.isSome,H2,I2.tok _,rfl,q2⟩
theorem Mr (hi:PE X i ty) (ho:PE X o td):PC X .NotIn i o (gj X.K X.w.params true ty td):=by
 intro a7 s σ H Q I h
 refine CW (hi a7 s σ H _ I h) λiv s1 ⟨y,H1,I1,ry,q1⟩=>CW (ho a7 s1 σ H1 _ I1 q1) λu s2 f7=>?_
 obtain⟨x,H2,I2,rx,a,z,r,ex,ey,kd,hw,q2⟩:=f7
 subst ex ey
 cases rx
 obtain⟨t,rfl⟩:=ry
 obtain⟨⟨es,n,hl,hk⟩,lo⟩:=kd
 refine wpAny_notIn_of (strKind_is X.prog X.w z t) lo (W.mapOf_K (prog:=X.prog) I2.Gv hl hk) ?_
 rw[W.find_K hl hw]
 exact⟨.bl (!r.isSome),H2,I2.tok _,rfl,q2⟩
end
section
variable {X:Cx} {e st:Expr} {lo hi:Option Expr} {te ts:TE} {tl th:TO} {p2 pos:Pos}
end
end L2
namespace Og
open PySem L2
theorem BK {X:Cx} {K:W.Frag} (h:X.K=K):dJ X (gH K):=h ▸ cH
theorem Hm {X:Cx} {K:W.Frag} (h:X.K=K):dJ X (fc K):=h ▸ Cj
theorem Kr {X:Cx} {K:W.Frag} (h:X.K=K):HN X (compareOp .In) (o7 K false):=h ▸ Tg
structure R where
 w:Str
 nm:Str
 rest:List V
noncomputable abbrev R.v (r:R):List V:=.str r.w :: .str r.nm::r.rest
noncomputable def isNm (z:Str):Prop:=1<=z.length/\z.length<=8/\∀ c∈z.cps.toList,97<=c/\c<=122
noncomputable def Rows (H:Hp) (ρ:V->R) (vs:List V):Prop:=∀ v∈vs,TupAt H (ρ v).v v
theorem Rows.mono {H H':Hp} {ρ:V->R} {vs:List V} (s:Ak H H') (h:Rows H ρ vs):Rows H' ρ vs:=λv hv=>(h v hv).mono s
theorem Rows.sub {H:Hp} {ρ:V->R} {vs us:List V} (h:Rows H ρ vs) (hs:∀ v∈us,v∈vs):Rows H ρ us:=λv hv=>h v (hs v hv)
noncomputable abbrev pw (ρ:V->R) (w:Str) (v:V):Bool:=decide (V.str (ρ v).w=V.str w)
noncomputable abbrev pn (ρ:V->R) (t:Str) (v:V):Bool:=decide (V.str (ρ v).nm=V.str t)
noncomputable def Mp (ρ:V->R) (vs:List V) (w t:Str):Bool:=(vs.filter (pw ρ w)).any (pn ρ t)
noncomputable def KTup (K:W.Frag) (a:Addr) (xs:List V):Prop:=∃ (o:Obj) (its:Array Value) (n:Nat),K.lookup a=some o/\o.cls=.type "tuple" /\ o.data=.seq its n/\its.size<=sizeLine/\Vals xs its.toList
theorem KTup.sq {K:W.Frag} {a:Addr} {xs:List V} (h:KTup K a xs) (H:Hp):Ga K H a xs:=.inr h
noncomputable abbrev named:List Str:=["board","rank","stop","coupler","mute"]
noncomputable def EY (K:W.Frag) (aB:Addr) (ρ:V->R) (vs:List V) (x:V) (part:Str):Prop :=
 (∃ (i lo hi:Int) (b:Addr),x=.int i/\W.nsIn K aB part=some (some (.ref b))/\KTup K b [.int lo,.int hi]/\lo<=i/\i<=hi) \/
 (W.nsIn K aB part=some none/\part = "new" /\ ∃ t,x=.str t/\isNm t/\∀ w∈named,Mp ρ vs w t=false) \/
 (W.nsIn K aB part=some none/\¬ part = "new" /\ ∃ t,x=.str t/\isNm t/\Mp ρ vs part t=true)
structure MN (K:W.Frag) (aB aP aM:Addr) (ρ:V->R) (vs:List V) (r:R):Prop where
 ns:¬ r.w = "step"
 nl:¬ r.w = "line"
 parts:∃ (ap:Addr) (ps:List Str),W.nsIn K aP r.w=some (some (.ref ap))/\KTup K ap (ps.map V.str)/\(V.str r.nm::r.rest).length=ps.length/\ps.length<=10 /\
  ∀ (i:Nat) x y,(V.str r.nm::r.rest)[i]? = some x->ps[i]? = some y->EY K aB ρ vs x y
 room:∃ (m:Int) (t:Tok),W.nsIn K aM r.w=some (some (.int m t))/\(((vs.filter (pw ρ r.w)).length:Nat):Int)<m
noncomputable def letters:Str:="abcdefghijklmnopqrstuvwxyz"
noncomputable abbrev Rk (y:Str) (c:Nat):Bool:=!(Builtin.Str.occurrences y ⟨#[c]⟩ 0 y.length 1).isEmpty
theorem Nk:∀ c<128,Rk letters c=decide (97<=c/\c<=122):=by decide +kernel
theorem Aw {H:Hp} {p:Addr} {o:HO} (h:H p=none):Ak H (upd H p o):=λb u e=>by rw[Ao (Al e h)];exact e
theorem CN {H:Hp} {p:Addr} {o:HO} (h:H p=none):∃ H',upd H p o=H'/\Ak H H'/\H' p=some o:=⟨_,rfl,Aw h,Af⟩
theorem Bx {n:Nat} (h:n<=1000):n<=sizeLine:=fw (Av h)
theorem ty_int {K:W.Frag}:W.kitOne K (.type "int") (.type "int")=some true:=by kernel_rfl
theorem Zb {K:W.Frag}:W.kitOne K (.type "int") (.type "bool")=some false:=by kernel_rfl
theorem Pq {K:W.Frag}:W.kitOne K (.type "list") (.type "list")=some true:=by kernel_rfl
theorem PQ {K:W.Frag}:W.kitOne K (.type "tuple") (.type "tuple")=some true:=by kernel_rfl
theorem J9 {K:W.Frag}:W.kitOne K (.type "str") (.type "str")=some true:=by kernel_rfl
theorem Lb (vs:List V) (n:Nat) (h:n<=vs.length):Cm vs none (some (n:Int))=vs.take n:=by
 unfold Cm
 have e1:HT.Ds vs.length 0 none=0:=rfl
 have e2:HT.Ds vs.length vs.length (some (n:Int))=n:=by
  rw[HT.Dl]
  omega
 rw[e1,e2]
 simp
theorem GZ {α:Type} (p:α->Bool) (l:List α):(l.filter p).length<=l.length:=fz _ _
noncomputable abbrev bV (b:Str × Nat):List V:=[.str b.1,.int (b.2:Nat)]
noncomputable abbrev G5 (b:Str × Nat):R:=⟨"board",b.1,[.int (b.2:Nat)]⟩
noncomputable abbrev qV (q:Nat × Nat):List V:=[.int (q.1:Nat),.int (q.2:Nat)]
noncomputable def Sg (bs:List (Str × Nat)):List (Nat × Nat):=bs.zipIdx.flatMap λp=>(List.range p.1.2).map λe=>(p.2,e)
theorem VP (bs:List (Str × Nat)) (b:Str × Nat):Sg (bs++[b])=Sg bs++(List.range b.2).map λe=>(bs.length,e):=by
 unfold Sg
 rw[List.zipIdx_append]
 simp
theorem Pg {bs:List (Str × Nat)} {i:Nat} {b:Str × Nat} (h:bs[i]? = some b):Sg (bs.take (i+1))=Sg (bs.take i)++(List.range b.2).map λe=>(i,e):=by
 have hi:i<bs.length:=(ai.mp h).1
 rw[gz,h]
 show Sg (bs.take i++[b])=_
 rw[VP,cE,ko (by omega)]
theorem Yu (bs:List (Str × Nat)) (M:Nat):(∀ b∈bs,b.2<=M)->(Sg bs).length<=bs.length * M:=by
 intro h
 have key:∀ i,i<=bs.length->(Sg (bs.take i)).length<=i * M:=by
  intro i
  induction i with
  | zero=>intro _;simp[Sg]
  | succ i ih =>
   intro hi
   have hlt:i<bs.length:=by omega
   rw[Pg (af hlt),aE,ae,fS]
   have h1:=ih (by omega)
   have h2:=h bs[i] (gS hlt)
   have:(i+1) * M=i * M+M:=by rw[Nat.add_mul,Nat.one_mul]
   omega
 have:=key bs.length (ar _)
 rw[gg] at this
 exact this
theorem Dn {α β:Type} {F:α->β->Prop} {l:List α} {vs:List β} (h:Paired F l vs):∀ {v},v∈vs->∃ a∈l,F a v:=by
 induction h with
 | nil=>intro v hv;cases hv
 | cons a b ih =>
  intro v hv
  rcases bq.mp hv with rfl | hv
  ·exact⟨_,av ..,a⟩
  ·obtain⟨x,hx,q⟩:=ih hv
   exact⟨x,aI _ hx,q⟩
theorem CJ {α β:Type} {F:α->β->Prop} {l:List α} {vs:List β} (h:Paired F l vs):∀ {i:Nat} {a},l[i]? = some a->∃ v,vs[i]? = some v/\F a v:=by
 induction h with
 | nil=>intro i a ha;simp at ha
 | cons x y ih =>
  intro i a ha
  cases i with
  | zero =>
   simp at ha
   subst ha
   exact⟨_,rfl,x⟩
  | succ i=>exact ih (by simpa using ha)
theorem PJ {α β:Type} {F:α->β->Prop} {l:List α} {vs:List β} (h:Paired F l vs):∀ {i:Nat} {v},vs[i]? = some v->∃ a,l[i]? = some a/\F a v:=by
 induction h with
 | nil=>intro i a ha;simp at ha
 | cons x y ih =>
  intro i a ha
  cases i with
  | zero =>
   simp at ha
   subst ha
   exact⟨_,rfl,x⟩
  | succ i=>exact ih (by simpa using ha)
theorem CG {α β:Type} {F:α->β->Prop} {l l':List α} {vs HE:List β} (h:Paired F l vs) (h':Paired F l' HE):Paired F (l++l') (vs++HE):=by
 induction h with
 | nil=>exact h'
 | cons x y ih=>exact .cons x ih
theorem Dh {α β γ:Type} {F:γ->β->Prop} (g:α->γ) {l:List α} {vs:List β} (h:Paired (λa v=>F (g a) v) l vs):Paired F (l.map g) vs:=by
 induction h with
 | nil=>exact .nil
 | cons x y ih=>exact .cons x ih
theorem GX {α β γ:Type} {F:γ->β->Prop} (g:α->γ):∀ {l:List α} {vs:List β},Paired F (l.map g) vs->Paired (λa v=>F (g a) v) l vs
 | [],_,h=>by cases h;exact .nil
 | a::l,_,h=>by
  cases h with
  | cons x y=>exact .cons x (GX g y)
noncomputable def Us (H:Hp) (k:Nat):V->V
 | .ref T=>match H T with
  | some (.tup xs)=>xs.getD k .non
  | _=>.non
 | _=>.non
theorem JT {H:Hp} {zs:List V} {v:V} (h:TupAt H zs v) (k:Nat):Us H k v=zs.getD k .non:=by
 obtain⟨T,rfl,e⟩:=h
 show (match H T with | some (.tup xs)=>xs.getD k V.non | _=>V.non)=_
 rw[e]
theorem TV {α:Type} {H:Hp} {g:α->List V} (k:Nat) {l:List α} {vs:List V} (h:Paired (λa v=>TupAt H (g a) v) l vs):vs.map (Us H k)=l.map λa=>(g a).getD k .non:=by
 induction h with
 | nil=>rfl
 | cons x y ih=>rw[cS,cS,ih,JT x]
noncomputable def SX (x:Addr) (H H':Hp):Prop:=∀ b o,H b=some o->b ≠ x->H' b=some o
theorem SX.trans {x:Addr} {H H1 H2:Hp} (a:SX x H H1) (b:SX x H1 H2):SX x H H2:=λc o h n=>b c o (a c o h n) n
theorem SX.refl {x:Addr} {H:Hp}:SX x H H:=λ_ _ h _=>h
theorem SX.of {x:Addr} {H H':Hp} (s:Ak H H'):SX x H H':=λb o h _=>s b o h
theorem SX.up {x:Addr} {H:Hp} {o:HO}:SX x H (upd H x o):=λb u h n=>by rw[Ao n];exact h
theorem SX.tup {x:Addr} {H H':Hp} {zs:List V} {y:V} {C dx:Addr} {fs:List (Str × V)} (s:SX x H H') (hx:H x=some (.ins C dx fs)) (h:TupAt H zs y):TupAt H' zs y:=by
 obtain⟨T,e,q⟩:=h
 exact⟨T,e,s _ _ q λz=>by rw[z,hx] at q;cases q⟩
theorem SX.pair {α:Type} {x:Addr} {H H':Hp} {f:α->List V} {l:List α} {vs:List V} {C dx:Addr} {fs:List (Str × V)} (s:SX x H H') (hx:H x=some (.ins C dx fs)) (h:Paired (λa y=>TupAt H (f a) y) l vs):Paired (λa y=>TupAt H' (f a) y) l vs:=Paired.Gq h λ_ _ q=>s.tup hx q
theorem SX.lst {x a:Addr} {H H':Hp} {xs:List V} {C dx:Addr} {fs:List (Str × V)} (s:SX x H H') (hx:H x=some (.ins C dx fs)) (h:H a=some (.lst xs)):H' a=some (.lst xs):=s _ _ h λz=>by rw[z,hx] at h;cases h
theorem SX.dk {x a:Addr} {H H':Hp} {a8:List (Key × V)} {C dx:Addr} {fs:List (Str × V)} (s:SX x H H') (hx:H x=some (.ins C dx fs)) (h:H a=some (.dK a8)):H' a=some (.dK a8):=s _ _ h λz=>by rw[z,hx] at h;cases h
noncomputable abbrev meths:List Str:=["ranks","pipe_count","pipe","rank_of","board_of_knob","boards","key_count","key","board_of","coupler","knobs","knob_number","board_number","stop","mute","steps","rows"]
structure jJ (C:Addr) (H:Hp) (x:Addr) (bs:List (Str × Nat)) (ks:List R):Prop where
 ob:∃ (dx:Addr) (fs:List (Str × V)) (bl bn kp kr:Addr) (uS xb JU:List V) (a8:List (Key × V)),H x=some (.ins C dx fs)/\fs.lookup ("board_list" : Str)=some (.ref bl)/\fs.lookup ("board_numbers" : Str)=some (.ref bn)/\fs.lookup ("key_places" : Str)=some (.ref kp)/\fs.lookup ("knob_rows" : Str)=some (.ref kr) /\
  (∀ m∈meths,fs.lookup m=none)/\H bl=some (.lst uS)/\Paired (λb y=>TupAt H (bV b) y) bs uS/\H bn=some (.dK a8)/\(∀ (i:Nat) b,bs[i]? = some b->Cq a8 (Sum.inr b.1)=some (.int (i:Nat))) /\
  H kp=some (.lst xb)/\Paired (λq y=>TupAt H (qV q) y) (Sg bs) xb/\H kr=some (.lst JU)/\Paired (λ(r:R) y=>TupAt H r.v y) ks JU
 nb:bs.length<=5
 sz:∀ b∈bs,b.2<=61
 nk:ks.length<=200
open PySem L2 PyProof.Rows
inductive Kb where
 | cp (i j:Nat) (s:Int)
 | pl (w:Str) (i:Nat)
noncomputable def Kb.w:Kb->Str
 | .cp _ _ _=>"coupler"
 | .pl w _=>w
noncomputable def Kb.v:Kb->List V
 | .cp i j s=>[.str "coupler",.int (i:Nat),.int (j:Nat),.int s]
 | .pl w i=>[.str w,.int (i:Nat)]
noncomputable def Kb.ok (n:Nat):Kb->Prop
 | .cp i j s=>i<n/\j<n /\ -60<=s/\s<=60
 | .pl w i=>i<n/\(w = "mute" \/ w = "stop")
noncomputable def SM (w:Str):Nat:=if w = "coupler" then 12 else if w = "mute" then 5 else 24
structure KF (K:W.Frag) (aB aP aM:Addr):Prop where
 pB:∃ a,W.nsIn K aP "board" = some (some (.ref a))/\KTup K a (["new","keys"].map λs:String=>V.str s)
 pS:∃ a,W.nsIn K aP "stop" = some (some (.ref a))/\KTup K a (["new","board"].map λs:String=>V.str s)
 pM:∃ a,W.nsIn K aP "mute" = some (some (.ref a))/\KTup K a (["new","board"].map λs:String=>V.str s)
 pC:∃ a,W.nsIn K aP "coupler" = some (some (.ref a))/\KTup K a (["new","board","board","leap"].map λs:String=>V.str s)
 bK:∃ a,W.nsIn K aB "keys" = some (some (.ref a))/\KTup K a [.int 1,.int 61]
 bL:∃ a,W.nsIn K aB "leap" = some (some (.ref a))/\KTup K a [.int (-60),.int 60]
 bN:W.nsIn K aB "new" = some none
 bB:W.nsIn K aB "board" = some none
 mB:∃ t,W.nsIn K aM "board" = some (some (.int 5 t))
 mS:∃ t,W.nsIn K aM "stop" = some (some (.int 24 t))
 mC:∃ t,W.nsIn K aM "coupler" = some (some (.int 12 t))
 mM:∃ t,W.nsIn K aM "mute" = some (some (.int 5 t))
noncomputable def Lf (H:Hp):V->R
 | .ref T=>match H T with
  | some (.tup (.str w :: .str n::r))=>⟨w,n,r⟩
  | _=>⟨"","",[]⟩
 | _=>⟨"","",[]⟩
theorem Nx {H:Hp} {r:R} {v:V} (h:TupAt H r.v v):Lf H v=r:=by
 obtain⟨T,rfl,e⟩:=h
 show (match H T with | some (.tup (.str w :: .str n::r))=>(⟨w,n,r⟩:R) | _=>⟨"","",[]⟩)=r
 rw[e]
theorem Nv {H:Hp} {rs:List R} {vs:List V} (h:Paired (λ(r:R) v=>TupAt H r.v v) rs vs):vs.map (Lf H)=rs:=by
 induction h with
 | nil=>rfl
 | cons x y ih=>rw[cS,ih,Nx x]
theorem Bu (f:Str) (v:V):∀ l:List (Str × V),(Bl f v l).length<=l.length+1
 | []=>ar _
 | p::r=>by
  unfold Bl
  split
  ·simp
  ·have:=Bu f v r
   simp only[List.length_cons]
   omega
noncomputable abbrev Ig (s:Str):Bool:=inV (.str s) [.str "stop",.str "coupler",.str "mute"]
structure uL (K:W.Frag) (aB aP aM:Addr) (ρ:V->R) (us:List V) (bs:List (Str × Nat)) (ks:List R):Prop where
 kinds:∀ v∈us,(ρ v).w = "board" \/ (ρ v).w = "stop" \/ (ρ v).w = "coupler" \/ (ρ v).w = "mute"
 eb:(us.filter (pw ρ "board")).map ρ=bs.map G5
 ek:(us.filter (λv=>Ig (ρ v).w)).map ρ=ks
 b0:1<=bs.length
 b5:bs.length<=5
 sz:∀ b∈bs,b.2<=61
 nk:ks.length<=100
 nb:(bs.map (·.1)).Nodup
 nn:(ks.map (·.nm)).Nodup
 len:us.length<=105
 ok:∀ (i:Nat) v,us[i]? = some v->MN K aB aP aM ρ (us.take i) (ρ v)
noncomputable def Hn (ρ:V->R) (vs:List V):List (Str × Str):=vs.map λv=>((ρ v).w,(ρ v).nm)
noncomputable abbrev Te (wn:List (Str × Str)) (w t:Str):Bool:=(wn.filter λp=>decide (p.1=w)).any λp=>decide (p.2=t)
noncomputable abbrev Vk (wn:List (Str × Str)) (w:Str):Nat:=(wn.filter λp=>decide (p.1=w)).length
theorem H_ (a b:Str):decide (V.str a=V.str b)=decide (a=b):=by
 rw[dE,decide_eq_true_eq,decide_eq_true_eq]
 exact⟨V.str.inj,congrArg V.str⟩
theorem Jp (ρ:V->R) (vs:List V) (w t:Str):Mp ρ vs w t=Te (Hn ρ vs) w t:=by
 unfold Mp Hn
 show _=((vs.map λv=>((ρ v).w,(ρ v).nm)).filter λp=>decide (p.1=w)).any λp=>decide (p.2=t)
 rw[ff,kT]
 have e1:pw ρ w=(λp:Str × Str=>decide (p.1=w)) ∘ λv=>((ρ v).w,(ρ v).nm):=by
  funext v
  exact H_ _ _
 have e2:pn ρ t=(λp:Str × Str=>decide (p.2=t)) ∘ λv=>((ρ v).w,(ρ v).nm):=by
  funext v
  exact H_ _ _
 rw[e1,e2]
theorem Ir (ρ:V->R) (vs:List V) (w:Str):(vs.filter (pw ρ w)).length=Vk (Hn ρ vs) w:=by
 unfold Hn
 show _=((vs.map λv=>((ρ v).w,(ρ v).nm)).filter λp=>decide (p.1=w)).length
 rw[ff,ae]
 have e1:pw ρ w=(λp:Str × Str=>decide (p.1=w)) ∘ λv=>((ρ v).w,(ρ v).nm):=by
  funext v
  exact H_ _ _
 rw[e1]
section
variable {K:W.Frag} {aB aP aM:Addr} {ρ:V->R} {vs:List V} {wn:List (Str × Str)} {t:Str}
theorem Jd (F:KF K aB aP aM) (e:Hn ρ vs=wn) (ht:isNm t) (h:∀ w∈named,Te wn w t=false):EY K aB ρ vs (.str t) "new" :=
 .inr (.inl ⟨F.bN,rfl,_,rfl,ht,λw hw=>by rw[Jp,e];exact h w hw⟩)
theorem Io (F:KF K aB aP aM) (e:Hn ρ vs=wn) (ht:isNm t) (h:Te wn "board" t=true):EY K aB ρ vs (.str t) "board" :=
 .inr (.inr ⟨F.bB,by decide +kernel,_,rfl,ht,by rw[Jp,e];exact h⟩)
theorem Uk (F:KF K aB aP aM) (e:Hn ρ vs=wn) (ht:isNm t) (h:∀ w∈named,Te wn w t=false) (hc:Vk wn "board" < 5) {n:Nat} (h1:1<=n) (h2:n<=61):MN K aB aP aM ρ vs (G5 (t,n)):=by
 obtain⟨ap,g1,g2⟩:=F.pB
 obtain⟨ab,g3,g4⟩:=F.bK
 obtain⟨tk,g5⟩:=F.mB
 refine⟨by show ¬ ("board" : Str) = "step";decide +kernel,by show ¬ ("board" : Str) = "line";decide +kernel,⟨ap,["new","keys"],g1,g2,rfl,by decide,λj x y hx hy=>?_⟩,⟨5,tk,g5,?_⟩⟩
 ·match j,hx,hy with
  | 0,hx,hy =>
   cases (Option.some.inj hx)
   cases (Option.some.inj hy)
   exact Jd F e ht h
  | 1,hx,hy =>
   cases (Option.some.inj hx)
   cases (Option.some.inj hy)
   exact .inl ⟨_,1,61,ab,rfl,g3,g4,by omega,by omega⟩
  | j+2,hx,hy=>simp at hy
 ·rw[Ir,e]
  show ((Vk wn "board" : Nat):Int)<5
  omega
theorem O3 (F:KF K aB aP aM) (e:Hn ρ vs=wn) (ht:isNm t) (h:∀ w∈named,Te wn w t=false) (hc:Vk wn "coupler" < 12) {a b:Str} (ha:isNm a) (tj:Te wn "board" a=true) (hb:isNm b) (ng:Te wn "board" b=true) {s:Int} (h1 : -60<=s) (h2:s<=60):MN K aB aP aM ρ vs ⟨"coupler",t,[.str a,.str b,.int s]⟩:=by
 obtain⟨ap,g1,g2⟩:=F.pC
 obtain⟨ab,g3,g4⟩:=F.bL
 obtain⟨tk,g5⟩:=F.mC
 refine⟨by show ¬ ("coupler" : Str) = "step";decide +kernel,by show ¬ ("coupler" : Str) = "line";decide +kernel,⟨ap,["new","board","board","leap"],g1,g2,rfl,by decide,λj x y hx hy=>?_⟩,⟨12,tk,g5,?_⟩⟩
 ·match j,hx,hy with
  | 0,hx,hy =>
   cases (Option.some.inj hx)
   cases (Option.some.inj hy)
   exact Jd F e ht h
  | 1,hx,hy =>
   cases (Option.some.inj hx)
   cases (Option.some.inj hy)
   exact Io F e ha tj
  | 2,hx,hy =>
   cases (Option.some.inj hx)
   cases (Option.some.inj hy)
   exact Io F e hb ng
  | 3,hx,hy =>
   cases (Option.some.inj hx)
   cases (Option.some.inj hy)
   exact .inl ⟨_,-60,60,ab,rfl,g3,g4,h1,h2⟩
  | j+4,hx,hy=>simp at hy
 ·rw[Ir,e]
  show ((Vk wn "coupler" : Nat):Int)<12
  omega
end
open PySem L2
noncomputable def mV (bs:List (Str × Nat)) (j1 j2:Nat) (s:Int) (qd:Nat × Nat) (z2:Nat):V :=
 if qd.1=j1/\0<=(qd.2:Int)+s/\(qd.2:Int)+s<z2 then .int ((((bs.take j2).map (·.2)).sum:Nat)+((qd.2:Int)+s)) else .non
noncomputable def gl (bs:List (Str × Nat)):Kb->Nat->Option Nat
 | .cp j1 j2 s,i=>match (Sg bs)[i]?,bs[j2]? with
  | some qd,some b2=>match mV bs j1 j2 s qd b2.2 with
   | .int v=>some v.toNat
   | _=>none
  | _,_=>none
 | .pl _ _,_=>none
noncomputable def stp (bs:List (Str × Nat)) (So:List Kb) (D:Nat) (i j:Nat):Prop:=∃ k z,D.testBit k=true/\So[k]? = some z/\gl bs z i=some j
inductive m6 (st:Nat->Nat->Prop) (hd:Nat->Prop):Nat->Prop
 | one {i j:Nat}:hd i->st i j->m6 st hd j
 | more {i j:Nat}:m6 st hd i->st i j->m6 st hd j
open PySem L2 PyProof.Rows
noncomputable abbrev Th:=Str × Nat × List V
noncomputable abbrev tV (a:Th):List V:=.str a.1 :: .int (a.2.1:Nat)::a.2.2
noncomputable abbrev tN (a:Th):Str × Nat:=(a.1,a.2.1)
noncomputable abbrev dN (r:Str × Nat × Int):Th:=(r.1,r.2.1,[.int r.2.2])
noncomputable abbrev o6 (b:Str × Nat):Th:=(b.1,b.2,[])
noncomputable abbrev qp (r:Str × Nat × Int):Str × Nat:=(r.1,r.2.1)
noncomputable abbrev HJ (r:Str × Nat × Int):R:=⟨"rank",r.1,[.int (r.2.1:Nat),.int r.2.2]⟩
structure Ln where
 r:Nat
 sh:Int
 lo:Int
 hi:Int
noncomputable abbrev jM (l:Ln):List V:=[.int (l.r:Nat),.int l.sh,.int l.lo,.int l.hi]
noncomputable def HW (H:Hp) (l:List Ln) (v:V):Prop:=∃ (A:Addr) (ts:List V),v=.ref A/\H A=some (.lst ts)/\Paired (λx y=>TupAt H (jM x) y) l ts
noncomputable def TY (H:Hp) (D:Addr) (ls:List (List Ln)):Prop:=∃ lv,H D=some (.lst lv)/\Paired (λl v=>HW H l v) ls lv
theorem HW.mono {H H':Hp} {l:List Ln} {v:V} (s:Ak H H') (h:HW H l v):HW H' l v:=by
 obtain⟨A,ts,e,h1,h2⟩:=h
 exact⟨A,ts,e,s _ _ h1,Ax s h2⟩
structure aH (C:Addr) (H:Hp) (x:Addr) (bs:List (Str × Nat)) (rk:List (Str × Nat × Int)) (ks:List R) (ls:List (List Ln)):Prop where
 o:jJ C H x bs ks
 r:∃ (dx:Addr) (fs:List (Str × V)) (rl rn pp kl:Addr) (uP xb:List V) (a8:List (Key × V)),H x=some (.ins C dx fs)/\fs.lookup ("rank_list" : Str)=some (.ref rl)/\fs.lookup ("rank_numbers" : Str)=some (.ref rn)/\fs.lookup ("pipe_places" : Str)=some (.ref pp)/\fs.lookup ("knob_lines" : Str)=some (.ref kl) /\
  H rl=some (.lst uP)/\Paired (λ(a:Th) y=>TupAt H (tV a) y) (rk.map dN) uP/\H rn=some (.dK a8)/\(∀ (i:Nat) r,rk[i]? = some r->Cq a8 (Sum.inr r.1)=some (.int (i:Nat))) /\
  H pp=some (.lst xb)/\Paired (λq y=>TupAt H (qV q) y) (Sg (rk.map qp)) xb/\TY H kl ls
 nr:rk.length<=12
 nz:∀ r∈rk,r.2.1<=97
 nl:ls.length=ks.length
structure J3 (ρ:V->R) (us:List V) (i:Nat):Prop where
 all:∀ j,j<i->∃ v,us[us.length - 1 - j]? = some v/\(ρ v).w = "line"
 lt:i<us.length
 no:∃ v,us[us.length - 1 - i]? = some v/\¬ (ρ v).w = "line"
noncomputable def bM (r:R):Int:=match r.rest with
 | [.int m]=>m
 | _=>0
noncomputable abbrev keyOf (ρ:V->R) (us:List V) (bd:Str) (n:Int):Bool:=(us.filter (pw ρ "board")).any λv=>pn ρ bd v && decide (n<bM (ρ v))
structure Ny (ρ:V->R) (us:List V) (ro:R):Prop where
 ex:∃ (cnt:Nat) (v:V) (sh lo hi:Int) (bd:Str) (rs:List V),ro.rest=[.int sh,.int lo,.int hi]/\J3 ρ us cnt/\cnt<4/\us[us.length - 1 - cnt]? = some v/\(ρ v).w = "stop" /\ (ρ v).rest=.str bd::rs/\lo<=hi/\keyOf ρ us bd hi=true
noncomputable abbrev Df (ρ:V->R) (us:List V):Prop:=∀ v∈us,(ρ v).w = "board"->∃ m,(ρ v).rest=[.int m]
structure HX (K:W.Frag) (aB aP aM:Addr) (ρ:V->R) (vs:List V) (r:R):Prop where
 ns:¬ r.w = "step"
 parts:∃ (ap:Addr) (ps:List Str),W.nsIn K aP r.w=some (some (.ref ap))/\KTup K ap (ps.map V.str)/\(V.str r.nm::r.rest).length=ps.length/\ps.length<=10 /\
  ∀ (i:Nat) x y,(V.str r.nm::r.rest)[i]? = some x->ps[i]? = some y->EY K aB ρ vs x y
 room:(r.w = "line" /\ W.nsIn K aM r.w=some none) \/ ∃ (m:Int) (t:Tok),W.nsIn K aM r.w=some (some (.int m t))/\(((vs.filter (pw ρ r.w)).length:Nat):Int)<m
 line:r.w = "line"->Ny ρ vs r
 YX:Df ρ vs
noncomputable def lnOf (rk:List (Str × Nat × Int)) (r:R):Ln:=match r.rest with
 | [.int sh,.int lo,.int hi]=>⟨(rk.map (·.1)).idxOf r.nm,sh,lo,hi⟩
 | _=>⟨0,0,0,0⟩
noncomputable def putL (d6:List (List Ln)) (l:Ln):List (List Ln):=match d6.getLast? with
 | some z=>d6.dropLast++[z++[l]]
 | none=>[]
noncomputable def Do (rk:List (Str × Nat × Int)) (d6:List (List Ln)) (r:R):List (List Ln):=if Ig r.w=true then d6++[[]] else if r.w = "line" then putL d6 (lnOf rk r) else d6
noncomputable def linesOf (rk:List (Str × Nat × Int)) (rs:List R):List (List Ln):=rs.foldl (Do rk) []
theorem DK (rk:List (Str × Nat × Int)) (rs:List R) (r:R):linesOf rk (rs++[r])=Do rk (linesOf rk rs) r:=by
 unfold linesOf
 rw[kF]
 rfl
theorem Ia (d6:List (List Ln)) (z:List Ln) (l:Ln):putL (d6++[z]) l=d6++[z++[l]]:=by
 unfold putL
 rw[List.getLast?_concat,List.dropLast_concat]
structure uJ (K:W.Frag) (aB aP aM:Addr) (ρ:V->R) (us:List V) (bs:List (Str × Nat)) (rk:List (Str × Nat × Int)) (ks:List R):Prop where
 kinds:∀ v∈us,(ρ v).w = "board" \/ (ρ v).w = "rank" \/ (ρ v).w = "line" \/ (ρ v).w = "stop" \/ (ρ v).w = "coupler" \/ (ρ v).w = "mute"
 eb:(us.filter (pw ρ "board")).map ρ=bs.map G5
 er:(us.filter (pw ρ "rank")).map ρ=rk.map HJ
 ek:(us.filter (λv=>Ig (ρ v).w)).map ρ=ks
 ln:∀ (i:Nat) v,us[i]? = some v->(ρ v).w = "line"->(∃ (j:Nat) (r:Str × Nat × Int) (sh lo hi:Int),rk[j]? = some r/\r.1=(ρ v).nm/\(ρ v).rest=[.int sh,.int lo,.int hi])/\∃ u∈us.take i,Ig (ρ u).w=true
 b0:1<=bs.length
 b5:bs.length<=5
 sz:∀ b∈bs,b.2<=61
 nr:rk.length<=12
 nz:∀ r∈rk,r.2.1<=97
 nk:ks.length<=100
 nb:(bs.map (·.1)).Nodup
 nrr:(rk.map (·.1)).Nodup
 nn:(ks.map (·.nm)).Nodup
 len:us.length<=150
 ok:∀ (i:Nat) v,us[i]? = some v->HX K aB aP aM ρ (us.take i) (ρ v)
end Og
namespace Ws
open PySem PySem.Spec PyProof.Rows Wd
noncomputable def JH (prog:Program) (w:World) (h:Heap) (a:Addr) (led:Bool) (σ:List Str):Prop :=
 ∃ es ep t,h.get? a=some { cls:=.type "set",dict:=none,data:=.set es ep t }/\ElemsOf (strKind prog w) es.toList/\(∀ k,k∈σ ↔ ∃ e∈es.toList,(strKind prog w).is k e.2=true)/\es.size=σ.length/\σ.Nodup /\
  σ.length<scanBound/\t.fits es.size=true/\Good t led
noncomputable def Ei (σ:List Str) (k:Str):List Str:=if k∈σ then σ else σ++[k]
section
variable {prog:Program} {w:World} {A:Around} {E:vSP} {s:Shared} {a:Addr} {led:Bool} {σ:List Str} {k:Str} {tk:Tok}
theorem dw {Q:Bool->Shared->Prop} (hS:JH prog w s.heap a led σ) (room:σ.length+1<scanBound)
  (h:∀ b h',Heap.SameBut a s.heap h'->JH prog w h' a led (Ei σ k)->Q b { s with heap:=h' }):wpAny (model prog w) A (setAddHashed a (.str k tk) ((strKind prog w).hash k)) Q E s:=by
 obtain⟨es,ep,t,ho,AR,hmem,hn,nd,hb,hf,g⟩:=hS
 have hkey:(strKind prog w).is k (.str k tk)=true:=strKind_is _ _ _ _
 have hbe:es.size<scanBound:=by rw[hn];exact hb
 unfold setAddHashed setAddHashedIn
 refine wpAny_holding (wpAny_bind (wpAny_setState_of ho rfl hf ?_))
 dsimp only
 rw[byScan_of rfl hbe AR,if_pos rfl]
 unfold setAddByScan
 refine wpAny_bind (wpAny_bind (wpAny_rule (wpAny_bind (wpAny_setScan_of hkey ho rfl hf AR ?_))))
 cases hr:List.findIdx? (λe=>(strKind prog w).is k e.2) es.toList with
 | some j =>
  obtain⟨hj,MI,_⟩:=List.findIdx?_eq_some_iff_getElem.mp hr
  have hk:k∈σ:=(hmem k).mpr ⟨_,gS hj,MI⟩
  refine wpAny_pure (wpAny_pure ?_)
  have:=h false s.heap (Heap.SameBut.refl a s.heap) (by unfold Ei;rw[if_pos hk];exact⟨es,ep,t,ho,AR,hmem,hn,nd,hb,hf,g⟩)
  exact this
 | none =>
  have hk:k ∉ σ:=λq=>by
   obtain⟨e,he,hp⟩:=(hmem k).mp q
   have:=List.findIdx?_eq_none_iff.mp hr e he
   rw[hp] at this
   cases this
  dsimp only
  have ny:=layNew_perm t es ((strKind prog w).hash k) (.str k tk)
  have qa:=layNew_fits t es ((strKind prog w).hash k) (.str k tk)
  have qh:=V1 g es ((strKind prog w).hash k) (.str k tk)
  generalize layNew t es ((strKind prog w).hash k) (.str k tk)=L at ny qa qh |-
  obtain⟨g0,t1,wd,B0⟩:=L
  dsimp only at ny qa qh |-
  rw[Array.toList_push] at ny
  have hel1:ElemsOf (strKind prog w) g0.toList:=(AR.push hkey rfl).perm ny
  have sz1:g0.size=(σ++[k]).length:=by
   have:=ny.length_eq
   simp only[List.length_append,Array.length_toList,List.length_singleton] at this
   simp only[List.length_append,List.length_singleton]
   omega
  have mem1:∀ k',k'∈σ++[k] ↔ ∃ e∈g0.toList,(strKind prog w).is k' e.2=true:=λk'=>by
   have:=mem_push_iff (knd:=strKind prog w) (S:=λk'=>decide (k'∈σ)) hkey (λk'=>by rw[decide_eq_true_eq];exact hmem k') ny k'
   rw[<-this]
   simp
  have nd1:(σ++[k]).Nodup:=List.nodup_append.mpr ⟨nd,by simp,λx hx y hy=>by
   rw[ax.mp hy]
   intro q
   exact hk (q ▸ hx)⟩
  have hb1:(σ++[k]).length<scanBound:=by simp only[List.length_append,List.length_singleton];exact room
  have hb1':g0.size<scanBound:=by rw[sz1];exact hb1
  have fin:∀ (uh:Array (Int × Value)) (t2:SetTable) (EF:Nat) (h2:Heap),Heap.SameBut a s.heap h2->h2.get? a=some { cls:=.type "set",dict:=none,data:=.set uh EF t2 }->uh.toList.Perm g0.toList->t2.fits uh.size=true->Good t2 led ->
    Q true { s with heap:=h2 }:=λuh t2 EF h2 sb e2 p2 f2 g2=>by
   refine h true h2 sb ?_
   unfold Ei
   rw[if_neg hk]
   refine⟨uh,EF,t2,e2,hel1.perm p2,λk'=>(mem1 k').trans ⟨λ⟨e,he,q⟩=>⟨e,p2.mem_iff.mpr he,q⟩,λ⟨e,he,q⟩=>⟨e,p2.mem_iff.mp he,q⟩⟩,?_,nd1,hb1,f2,g2⟩
   rw[<-Array.length_toList,p2.length_eq,Array.length_toList,sz1]
  have tail:∀ (t2:SetTable),t2.fits g0.size=true->Good t2 led->wpAny (model prog w) A (do
    storeSet a g0 t2
    if (!wd && t2.tooFull)=true then do
      (match (relayAll t2 g0 (SetTable.grown g0.size)).2.2 with | true=>rule "set.scan.the-table-gave-way" | false=>pure ())
      storeSet a (relayAll t2 g0 (SetTable.grown g0.size)).1 (relayAll t2 g0 (SetTable.grown g0.size)).2.1
      pure (some true)
     else pure (some true)) (λr s'=>match r with | some b=>Q b s' | none=>False) E s:=λt2 f2 g2=>by
   refine wpAny_bind (wpAny_storeSet_of ho rfl ?_ (fits_of_scanBound hb1'))
   have HL:=Heap.SameBut.update s.heap a (Obj.putSet g0 t2)
   have e1:=S6 (es':=g0) (t':=t2) ho
   split
   ·have hp:=relayAll_perm t2 g0 (SetTable.grown g0.size)
    have hq:=relayAll_fits t2 g0 (SetTable.grown g0.size)
    have hg:=Q_ g2 g0 (SetTable.grown g0.size)
    generalize relayAll t2 g0 (SetTable.grown g0.size)=R at hp hq hg |-
    obtain⟨uh,t3,gv⟩:=R
    dsimp only at hp hq hg |-
    have hb2:uh.size<scanBound:=by rw[<-Array.length_toList,hp.length_eq,Array.length_toList];exact hb1'
    have last:wpAny (model prog w) A (do storeSet a uh t3;pure (some true)) (λr s'=>match r with | some b=>Q b s' | none=>False) E { s with heap:=s.heap.update a (Obj.putSet g0 t2) }:=by
     refine wpAny_bind (wpAny_storeSet_of e1 rfl ?_ (fits_of_scanBound hb2))
     exact wpAny_pure (fin uh t3 _ _ (HL.trans (Heap.SameBut.update _ a _)) (S6 e1) hp hq hg)
    cases gv
    ·exact wpAny_bind (wpAny_pure last)
    ·exact wpAny_bind (wpAny_rule last)
   ·exact wpAny_pure (fin g0 t2 _ _ HL e1 (List.Perm.refl _) f2 g2)
  have tail':∀ (t2:SetTable),t2.fits g0.size=true->Good t2 led->wpAny (model prog w) A (do
    storeSet a g0 t2
    if (!wd && t2.tooFull)=true then do
      (match (relayAll t2 g0 (SetTable.grown g0.size)).2.2 with | true=>rule "set.scan.the-table-gave-way" | false=>pure ())
      storeSet a (relayAll t2 g0 (SetTable.grown g0.size)).1 (relayAll t2 g0 (SetTable.grown g0.size)).2.1
      pure (some true)
     else pure (some true)) (λr s'=>wpAny (model prog w) A (match r with | some added=>pure added | none=>setAddHashedIn a (.str k tk) ((strKind prog w).hash k) 99999) Q E s') E s:=λt2 f2 g2 =>
   wpAny_mono (tail t2 f2 g2) (λr s' q=>by
    cases r with
    | none=>exact q.elim
    | some b=>exact wpAny_pure q) λ_ _ e=>e
  have mid:wpAny (model prog w) A (do
    let byValue <-if t1.plain then hashByValue 8 (.str k tk) else pure true
    let t2:=if byValue=true then t1 else { t1 with plain:=false }
    storeSet a g0 t2
    if (!wd && t2.tooFull)=true then do
      (match (relayAll t2 g0 (SetTable.grown g0.size)).2.2 with | true=>rule "set.scan.the-table-gave-way" | false=>pure ())
      storeSet a (relayAll t2 g0 (SetTable.grown g0.size)).1 (relayAll t2 g0 (SetTable.grown g0.size)).2.1
      pure (some true)
     else pure (some true)) (λr s'=>wpAny (model prog w) A (match r with | some added=>pure added | none=>setAddHashedIn a (.str k tk) ((strKind prog w).hash k) 99999) Q E s') E s:=by
   split
   ·rw[hashByValue_scannable 8 rfl]
    exact wpAny_bind (wpAny_pure (tail' { t1 with plain:=false } qa ⟨qh.led,λh=>by cases h⟩))
   ·exact wpAny_bind (wpAny_pure (tail' t1 qa qh))
  cases B0
  ·exact wpAny_bind (wpAny_pure mid)
  ·exact wpAny_bind (wpAny_rule mid)
end
inductive StrsAre:List Value->List Str->Prop
 | nil:StrsAre [] []
 | cons (z:Str) (t:Tok) {us:List Value} {zs:List Str}:StrsAre us zs->StrsAre (.str z t::us) (z::zs)
theorem StrsAre.length:∀ {us:List Value} {zs:List Str},StrsAre us zs->us.length=zs.length
 | _,_,.nil=>rfl
 | _,_,.cons z t r=>congrArg (· + 1) r.length
theorem StrsAre.Va:∀ {us:List Value} {zs:List Str},StrsAre us zs->∀ (i:Nat) (v:Value),us[i]? = some v->∃ t,v=.str (zs.getD i "") t
 | _,_,.nil,i,v,h=>by simp at h
 | _,_,.cons z t r,0,v,h=>by simp at h;exact⟨t,h.symm⟩
 | _,_,.cons z t r,i+1,v,h=>by
  have h':_:=h
  rw[eR] at h'
  obtain⟨t',e⟩:=r.Va i v h'
  exact⟨t',by rw[e];rfl⟩
theorem JH.keep {prog:Program} {w:World} {h h':Heap} {a:Addr} {led:Bool} {σ:List Str} (g:JH prog w h a led σ) (k:∀ o,h.get? a=some o->h'.get? a=some o):JH prog w h' a led σ :=
 let ⟨es,ep,t,e,r⟩:=g;⟨es,ep,t,k _ e,r⟩
theorem Wk (σ:List Str) (k:Str):(Ei σ k).length<=σ.length+1:=by
 unfold Ei
 split
 ·omega
 ·simp
theorem Jm:∀ (ns:List Str) (σ:List Str),(ns.foldl Ei σ).length<=σ.length+ns.length
 | [],σ=>by simp
 | k::ns,σ=>by
  have h1:=Jm ns (Ei σ k)
  have h2:=Wk σ k
  simp only[List.foldl_cons,List.length_cons]
  omega
section
variable {prog:Program} {w:World} {A:Around} {R:Result->Shared->Prop} {I:Addr} {fp wr:List Addr} {G:Array GenState->Array GenState->Prop} {n:Nat} {P:Nat->Value->Prop} {St:Nat->Shared->Prop} {led:Bool}
theorem aG (W:WalksS prog w A.in1 I fp wr G n P St) (S:Addr) (IQ:S ∉ fp) (ns:List Str) (hn:ns.length=n) (rV:∀ i v,P i v->∃ t,v=.str (ns.getD i "") t) (hb:n+1<scanBound) :
  ∀ (k i:Nat) (s:Shared),n - i=k->i<=n->St i s->JH prog w s.heap S led ((ns.take i).foldl Ei []) ->
   (∀ s',Moved (S::wr) G s s'->JH prog w s'.heap S led (ns.foldl Ei [])->R (.ok (.ret .none)) s')->codeAny (model prog w) A (.builtin "set.update.loop" ⟨[.ref S,.ref I],[]⟩) R s:=by
 have nw:S ∉ wr:=λz=>IQ (W.sub _ z)
 have up:∀ b∈wr,b∈S::wr:=λb z=>aI _ z
 intro k
 induction k with
 | zero =>
  intro i s hk hi st g hR
  obtain rfl:i=n:=by omega
  refine codeAny_builtin F.entry_set_update_loop ?_
  rw[Around.under_plainId F.plain_set_update_loop _]
  refine wpAny_bind (W.done s _ _ st λs' m=>wpAny_pure (hR s' (m.mono up) ?_))
  rw[ef (by omega)] at g
  exact g.keep λo e=>m.heap S o nw e
 | succ k ih =>
  intro i s hk hi st g hR
  have lt:i<n:=by omega
  refine codeAny_builtin F.entry_set_update_loop ?_
  rw[Around.under_plainId F.plain_set_update_loop _]
  refine wpAny_bind (W.item i s _ _ lt st λv s' p ot m=>?_)
  obtain⟨t,rfl⟩:=rV i v p
  have g':=g.keep (h':=s'.heap) λo e=>m.heap S o nw e
  refine wpAny_bind (wpAny_holding (wpAny_holding (wpAny_bind ((strKind prog w).pyHash (k:=ns.getD i "") (strKind_is _ _ _ _) ?_))))
  have room:((ns.take i).foldl Ei []).length+1<scanBound:=by
   have:=Jm (ns.take i) []
   rw[cE] at this
   simp at this
   omega
  have tk:ns.take (i+1)=ns.take i++[ns.getD i ""]:=by
   have hl:i<ns.length:=by omega
   rw[gz,af hl]
   simp[hl]
  refine dw (s:={ s' with toks:=s'.toks+1 }) g' room λb h' sb g2=>?_
  have g3:JH prog w h' S led ((ns.take (i+1)).foldl Ei []):=by
   rw[tk,kF]
   exact g2
  refine wpAny_pure ⟨plainId_quiet F.plain_set_update_loop _,ih (i+1) _ (by omega) lt (W.frame _ s' _ _ ot (iN _) λb hb o e=>?_) g3 λul m2 g4=>?_⟩
  ·rw[sb.2 b (λz:b=S=>IQ (z ▸ hb))]
   exact e
  ·refine hR ul (Moved.trans W.gtrans ((m.mono up).then_heap (iN _) λb o hb e=>?_) m2) g4
   rw[sb.2 b (λz:b=S=>hb (by rw[z];exact av))]
   exact e
end
section
variable {prog:Program} {w:World} {A:Around} {E:vSP} {s:Shared}
theorem XN (h:Heap):JH prog w (h.push { cls:=.type "set",dict:=none,data:=.set #[] 0 (.fresh 0 0 (Es w)) }) h.objs.size (Es w) [] :=
 ⟨#[],0,_,Heap.get?_push_size _ rfl,λe he=>by simp at he,λk=>by simp,rfl,.nil,by decide,by rfl,Qe _⟩
set_option maxHeartbeats 4000000 in
theorem ir {l:Addr} {a9:Array Value} {ns:List Str} {Q:vSP} (hh:A.handled=none) (hl:s.heap.IsTuple l a9) (hi:StrsAre a9.toList ns) (hb:ns.length+1<scanBound)
  (h:∀ h' tk,JH prog w h' s.heap.objs.size (Es w) (ns.foldl Ei [])->(∀ b o,s.heap.get? b=some o->h'.get? b=some o)->Q (.ref s.heap.objs.size) { s with heap:=h',toks:=tk }) :
  wpAny (model prog w) A (call (.type "set") [.ref l]) Q E s:=by
 obtain⟨c,tl,xJ⟩:=F.called_set.mro
 have He:=F.called_set.made
 have yH:=F.called_set.sub
 have hlen:a9.size=ns.length:=by rw[<-StrsAre.length hi];simp
 refine wpAny_call (codeAny_of_tree ?_)
 show wpAny _ _ (callAny (.type "set") _) _ _ _
 refine wpAny_pure ⟨Code.quiet_builtin _ (by decide +kernel),codeAny_builtin F.entry_type_call ?_⟩
 rw[Around.under_plain (weight_type_call_type "set" [.ref l] []) rfl]
 have h1:=F.called_set.notType
 have h2:=F.called_set.canCreate
 have XV:=F.typeCall_set_1 (.ref l)
 repeat (any_goals (first | assumption | wp_step))
 refine codeAny_mono (iT (.ref l) (E:=E) (Q1:=λobj s1=>obj=.ref s.heap.objs.size/\s1 = { s with heap:=s.heap.push { cls:=.type "set",dict:=none,data:=.set #[] 0 (.fresh 0 0 (Es w)) } }) ⟨rfl,rfl⟩) λr s1 hr=>?_
 rcases r with e | fl
 ·exact hr
 obtain⟨obj,rfl,hr⟩:∃ obj,fl=.ret obj/\(obj=.ref s.heap.objs.size/\s1 = { s with heap:=s.heap.push { cls:=.type "set",dict:=none,data:=.set #[] 0 (.fresh 0 0 (Es w)) } }):=by
  cases fl with
  | ret v=>exact⟨v,rfl,hr⟩
  | _=>exact hr.elim
 obtain⟨rfl,rfl⟩:=hr
 have hS:(s.heap.push { cls:=.type "set",dict:=none,data:=.set #[] 0 (.fresh 0 0 (Es w)) }).get? s.heap.objs.size=some { cls:=.type "set",dict:=none,data:=.set #[] 0 (.fresh 0 0 (Es w)) }:=Heap.get?_push_size _ rfl
 have hT:Shared.TypeIs { s with heap:=s.heap.push { cls:=.type "set",dict:=none,data:=.set #[] 0 (.fresh 0 0 (Es w)) } } (.ref s.heap.objs.size) "set":=⟨_,hS,rfl⟩
 have XY:=F.called_set.init.lookup
 have Ap:=F.called_set.init.bind (.ref s.heap.objs.size)
 repeat (any_goals (first | assumption | wp_step))
 refine codeAny_mono (codeAny_call_builtin (R:=wants (λr s2=>r=.none/\∃ h' tk,s2 = { s with heap:=h',toks:=tk }/\JH prog w h' s.heap.objs.size (Es w) (ns.foldl Ei [])/\∀ b o,s.heap.get? b=some o->h'.get? b=some o) E)
  F.called_set.init.plain F.entry_set_init (check_set_init_1 hT ?_)) λr2 s2 tf=>?_
 ·obtain⟨ol,IM,JJ,nl,HZ⟩:=hl
  obtain⟨ME,xO,GH,vx⟩:=ol
  simp only at JJ HZ
  subst JJ;subst HZ
  have hol':(s.heap.push { cls:=.type "set",dict:=none,data:=.set #[] 0 (.fresh 0 0 (Es w)) }).get? l=some { cls:=.type "tuple",dict:=xO,data:=.seq a9 nl,slots:=vx }:=Heap.get?_push_of_some _ IM
  have K2:=F.sub_tuple_set
  have NU:=F.sub_tuple_frozenset
  have hne:(Value.type "tuple" == Value.type "dict")=false:=by decide
  have hl1:(s.heap.push { cls:=.type "set",dict:=none,data:=.set #[] 0 (.fresh 0 0 (Es w)) }).IsTuple l a9:=⟨_,hol',rfl,nl,rfl⟩
  unfold Builtin.«set.__init__» noKeywords Builtin.Frozenset.updateFrom
  generalize hPI:pyIter=PI
  wp_walk
  subst hPI
  refine wpAny_pyIter_tuple hl1 (wpAny_bind (wpAny_runValue ?_))
  have lS:l<s.heap.objs.size:=Heap.lt_size IM
  have h3:A.in1.in1.in1.handled=none:=by simp[hh]
  have nI:l ≠ (s.heap.push { cls:=.type "set",dict:=none,data:=.set #[] 0 (.fresh 0 0 (Es w)) }).objs.size:=by
   rw[Heap.size_push]
   exact ci (iO lS)
  have nf:s.heap.objs.size ∉ [(s.heap.push { cls:=.type "set",dict:=none,data:=.set #[] 0 (.fresh 0 0 (Es w)) }).objs.size,l]:=by
   rw[Heap.size_push]
   intro z
   rcases bq.mp z with q | q
   ·exact absurd q (ci (jp _))
   ·exact absurd (ax.mp q) (im lS)
  refine aG ((Walks.tuple h3 _ l nI a9).toS) s.heap.objs.size nf ns hlen.symm (λi v hv=>StrsAre.Va hi i v (by rw[Array.getElem?_toList];exact hv)) (by rw[hlen];exact hb) (a9.size - 0) 0 _ rfl (dc _)
   ⟨⟨_,Heap.get?_push_size _ rfl,rfl,rfl⟩,(hl1.push _)⟩ ((XN s.heap).keep λo e=>Heap.get?_push_of_some _ e) λs' m g=>?_
  obtain⟨h',g',d',yX,vD⟩:=s'
  obtain rfl:g'=s.gens:=m.gens
  obtain rfl:d'=s.drawn:=m.drawn
  obtain rfl:vD=s.os:=m.os
  show wpAny _ _ _ _ _ _
  refine wpAny_pure ?_
  show wpAny _ _ (ret Value.none) _ _ _
  refine wpAny_pure ⟨rfl,h',yX,rfl,g,λb o e=>?_⟩
  have b1:=Heap.lt_size e
  refine m.heap b o (λz=>?_) (Heap.get?_push_of_some _ (Heap.get?_push_of_some _ e))
  rcases bq.mp z with q | q
  ·exact absurd q (ci b1)
  ·have:=ax.mp q
   rw[Heap.size_push] at this
   exact absurd this (ci (iO b1))
 ·rcases r2 with e | fl2
  ·exact tf
  obtain⟨r,rfl,tf⟩:∃ r,fl2=.ret r/\(r=.none/\∃ h' tk,s2 = { s with heap:=h',toks:=tk }/\JH prog w h' s.heap.objs.size (Es w) (ns.foldl Ei [])/\∀ b o,s.heap.get? b=some o->h'.get? b=some o):=by
   cases fl2 with
   | ret v=>exact⟨v,rfl,tf⟩
   | _=>exact tf.elim
  obtain⟨rfl,h',tk,rfl,g,hk⟩:=tf
  repeat (any_goals (first | assumption | wp_step))
  exact h _ _ g hk
end
end Ws
namespace L2
open PySem PySem.Spec PyProof.Rows
noncomputable def Mu (P:Program) (w:World) (a:Addr) (τ:List Str):HO:=.ext λh=>Ws.JH P w h a (Wd.Es w) τ
theorem Wo {P:Program} {w:World} {H:Hp} {h:Heap} {a:Addr} {τ:List Str} (g:Ws.JH P w h a (Wd.Es w) τ):Bt P w H h a (Mu P w a τ) :=
 ⟨g,(let ⟨_,_,_,e,_⟩:=g;⟨_,e⟩),λ_ _ g k=>g.keep k⟩
theorem Ms:∀ {ts:List Str} {us:List Value},Vals (ts.map V.str) us->Ws.StrsAre us ts
 | [],_,r=>by cases r;exact .nil
 | n::ns,_,r=>by
  cases r with
  | cons r t =>
   obtain⟨tk,rfl⟩:=r
   exact .cons n tk (Ms t)
section
variable {X:Cx}
theorem Mh (hc:X.calm=true):Fx X (.type "set") (λxs H Q=>∃ (l:Addr) (ts:List Str),xs=[V.ref l]/\Ga X.K H l (ts.map V.str)/\ts.length<=1000/\∀ p,H p=none->Q (.ref p) (upd H p (Mu X.prog X.w p (ts.foldl Ws.Ei [])))):=by
 intro a7 s σ H xs us Q I r h
 obtain⟨l,ts,rfl,hl,hz,q⟩:=h
 obtain⟨u,rfl,ru⟩:=vals1 r
 cases ru
 obtain⟨its,rv,pl,_⟩:=I.tuple hl
 have hn:H s.heap.objs.size=none:=I.hok.fresh (ar _)
 refine Ws.ir (I.ok.hd hc) pl (by simpa using Ms rv) (by unfold scanBound;omega) λh' tk g k=>?_
 exact⟨.ref s.heap.objs.size,_,I.laid (t':=tk) k (ar _) (Wo g),rfl,q _ hn⟩
theorem Ii:Fx X (.builtin "len") (λxs H Q=>∃ (a:Addr) (τ:List Str),xs=[V.ref a]/\H a=some (Mu X.prog X.w a τ)/\Q (.int (τ.length:Nat)) H):=by
 intro a7 s σ H xs us Q I r h
 obtain⟨a,τ,rfl,ha,q⟩:=h
 obtain⟨u,rfl,ru⟩:=vals1 r
 cases ru
 obtain⟨⟨es,ep,t,e1,e2,e3,e4,e5,e6,e7,e8⟩,_,_⟩:=(show Bt X.prog X.w H s.heap a (Mu X.prog X.w a τ) from I.hok a _ ha)
 unfold scanBound at e6
 refine call_len_set e1 ⟨rfl,rfl,rfl⟩ rfl e7 (by omega) ⟨.int ((es.size:Nat):Int),H,I.tok _,⟨_,rfl⟩,?_⟩
 rw[e4]
 exact q
end
theorem Jj:∀ (ts τ:List Str),(τ++ts).Nodup->(ts.foldl Ws.Ei τ)=τ++ts
 | [],τ,_=>(eg _).symm
 | t::ts,τ,h=>by
  have hn:t ∉ τ:=λz=>by
   rw[hZ] at h
   exact h.2.2 t z t (av ..) rfl
  rw[ki]
  have e:Ws.Ei τ t=τ++[t]:=by unfold Ws.Ei;rw[if_neg hn]
  rw[e,Jj ts (τ++[t]) (by rw[dL];exact h),dL]
  rfl
section
variable {X:Cx}
end
section
variable {σ:St} {H1:Hp} {Q:VK} {tt:TT} {te:TE}
theorem JR {K:W.Frag} {a:Addr} {xs:List V} (p:V->Bool) (f:V->V) (hl:Ga K H1 a xs) (hz:xs.length<sizeLine)
  (ht:∀ x∈xs,∀ H,Ak H1 H->∀ R:Bool->Hp->Prop,(∀ H',Ak H H'->R (p x) H')->tt (some x::σ) H R)
  (he:∀ x∈xs,p x=true->∀ H,Ak H1 H->∀ R:VK,(∀ H',Ak H H'->R (f x) H')->te (some x::σ) H R)
  (hq:∀ D H,H1 D=none->Ak H1 H->H D=some (.lst ((xs.filter p).map f))->Q (.ref D) H):G3 (nR K a) σ H1 Q tt te :=
 Gb p f hz (λi H x hs hx=>⟨xs,x,hs.tup hl,hx⟩) (λi H y H' hs _ hy=>⟨hy.1,hy.2 xs (hs.tup hl)⟩) (λH hs=>⟨xs,hs.tup hl,ar _⟩) ht he hq
end
end L2
namespace Og
open PySem L2
theorem Yo {X:Cx} {K:W.Frag} {e:Expr} {f:Str} {pos:Pos} {ta:TE} (hK:X.K=K) (he:PE X e ta) (hb:attributeBase e f X.env (eval e X.env)=eval e X.env):PE X (.Attribute e f pos) (gD K ta f):=by
 rw[<-hK]
 exact Ht he hb
structure Vt (K:W.Frag) (aM:Addr) (ρ:V->R) (vs:List V) (r:R):Prop where
 w:r.w = "step"
 ts:∃ ts:List Str,V.str r.nm::r.rest=ts.map V.str/\ts.Nodup/\ts.length<=24/\∀ t∈ts,isNm t/\Mp ρ vs "stop" t=true
 room:∃ (m:Int) (t:Tok),W.nsIn K aM r.w=some (some (.int m t))/\(((vs.filter (pw ρ r.w)).length:Nat):Int)<m
noncomputable abbrev Ea (K:W.Frag) (aB aP aM:Addr) (ρ:V->R) (vs:List V) (r:R):Prop:=HX K aB aP aM ρ vs r \/ Vt K aM ρ vs r
theorem Ea.room {K:W.Frag} {aB aP aM:Addr} {ρ:V->R} {vs:List V} {r:R} (h:Ea K aB aP aM ρ vs r):W.nsIn K aM r.w=some none \/ ∃ (m:Int) (t:Tok),W.nsIn K aM r.w=some (some (.int m t))/\(((vs.filter (pw ρ r.w)).length:Nat):Int)<m :=
 h.elim (λh=>h.room.elim (λz=>.inl z.2) .inr) (λh=>.inr h.room)
noncomputable def NP (r:R):List Str:=(V.str r.nm::r.rest).map λv=>match v with | .str t=>t | _=>""
theorem Ju {r:R} {ts:List Str} (h:V.str r.nm::r.rest=ts.map V.str):NP r=ts:=by
 unfold NP
 rw[h,bg]
 exact ij ts
noncomputable def stN (ks:List R) (r:R):Nat:=Wd.mk ((NP r).map λt=>(ks.map (·.nm)).idxOf t)
structure mJ (K:W.Frag) (aB aP aM:Addr) (ρ:V->R) (us:List V) (bs:List (Str × Nat)) (rk:List (Str × Nat × Int)) (ks:List R):Prop where
 eb:(us.filter (pw ρ "board")).map ρ=bs.map G5
 er:(us.filter (pw ρ "rank")).map ρ=rk.map HJ
 ek:(us.filter (λv=>Ig (ρ v).w)).map ρ=ks
 ln:∀ (i:Nat) v,us[i]? = some v->(ρ v).w = "line"->(∃ (j:Nat) (r:Str × Nat × Int) (sh lo hi:Int),rk[j]? = some r/\r.1=(ρ v).nm/\(ρ v).rest=[.int sh,.int lo,.int hi])/\∃ u∈us.take i,Ig (ρ u).w=true
 st:∀ v∈us,(ρ v).w = "step"->∃ ts:List Str,V.str (ρ v).nm::(ρ v).rest=ts.map V.str/\ts.length<=24/\∀ t∈ts,t∈ks.map (·.nm)
 b0:1<=bs.length
 b5:bs.length<=5
 sz:∀ b∈bs,b.2<=61
 nr:rk.length<=12
 nz:∀ r∈rk,r.2.1<=97
 nk:ks.length<=100
 nb:(bs.map (·.1)).Nodup
 nrr:(rk.map (·.1)).Nodup
 nn:(ks.map (·.nm)).Nodup
 len:us.length<=150
 ok:∀ (i:Nat) v,us[i]? = some v->Ea K aB aP aM ρ (us.take i) (ρ v)
structure Q3 (C:Addr) (H:Hp) (x:Addr) (us:List V) (bs:List (Str × Nat)) (rk:List (Str × Nat × Int)) (ks:List R) (ls:List (List Ln)) (f':List Nat):Prop where
 o:aH C H x bs rk ks ls
 m:∃ (dx:Addr) (fs:List (Str × V)) (rl kd ss:Addr) (a8:List (Key × V)),H x=some (.ins C dx fs)/\fs.lookup ("row_list" : Str)=some (.ref rl)/\fs.lookup ("knob_numbers" : Str)=some (.ref kd)/\fs.lookup ("step_sets" : Str)=some (.ref ss) /\
  H rl=some (.lst us)/\H kd=some (.dK a8)/\(∀ (i:Nat) t,(ks.map (·.nm))[i]? = some t->Cq a8 (Sum.inr t)=some (.int (i:Nat)))/\(∀ t,t ∉ ks.map (·.nm)->Cq a8 (Sum.inr t)=none)/\H ss=some (.lst (f'.map λn:Nat=>V.int (n:Int))) /\
  ∃ (bn:Addr) (kb:List (Key × V)),fs.lookup ("board_numbers" : Str)=some (.ref bn)/\H bn=some (.dK kb)/\∀ t,t ∉ bs.map (·.1)->Cq kb (Sum.inr t)=none
noncomputable def Ep (p:Addr) (H:Hp) (D:Addr) (ls:List (List Ln)):Prop:=∃ lv,H D=some (.lst lv)/\D ≠ p/\Paired (λl v=>HW H l v/\v ≠ .ref p) ls lv
theorem Ep.mono {p:Addr} {H H':Hp} {D:Addr} {ls:List (List Ln)} (s:Ak H H') (h:Ep p H D ls):Ep p H' D ls:=by
 obtain⟨lv,h1,h2,h3⟩:=h
 exact⟨lv,s _ _ h1,h2,Paired.Gq h3 λ_ _ q=>⟨q.1.mono s,q.2⟩⟩
theorem Ep.sx {p x C dx:Addr} {fs:List (Str × V)} {H H':Hp} {D:Addr} {ls:List (List Ln)} (h:Ep p H D ls) (s:SX x H H') (hx:H x=some (.ins C dx fs)):Ep p H' D ls:=by
 obtain⟨lv,h1,h2,h3⟩:=h
 refine⟨lv,s.lst hx h1,h2,Paired.Gq h3 λ_ _ q=>⟨?_,q.2⟩⟩
 obtain⟨A,ts,e,h4,h5⟩:=q.1
 exact⟨A,ts,e,s.lst hx h4,s.pair hx h5⟩
theorem Wu {p:Addr} {H H':Hp} {us zs:List V} {y:V} (s:SX p H H') (hp:H p=some (.lst us)) (h:TupAt H zs y):TupAt H' zs y:=by
 obtain⟨T,rfl,e⟩:=h
 exact⟨T,rfl,s _ _ e λz=>by rw[z,hp] at e;cases e⟩
theorem JL {α:Type} {f:α->List V} {p:Addr} {H H':Hp} {us vs:List V} {l:List α} (s:SX p H H') (hp:H p=some (.lst us)) (h:Paired (λa y=>TupAt H (f a) y) l vs):Paired (λa y=>TupAt H' (f a) y) l vs:=Paired.Gq h λ_ _ q=>Wu s hp q
theorem TF {p a:Addr} {H H':Hp} {us:List V} {a8:List (Key × V)} (s:SX p H H') (hp:H p=some (.lst us)) (h:H a=some (.dK a8)):H' a=some (.dK a8):=s _ _ h λz=>by rw[z,hp] at h;cases h
theorem Ep.sp {p:Addr} {H H':Hp} {us:List V} {D:Addr} {ls:List (List Ln)} (h:Ep p H D ls) (s:SX p H H') (hp:H p=some (.lst us)):TY H' D ls:=by
 obtain⟨lv,h1,h2,h3⟩:=h
 refine⟨lv,s _ _ h1 h2,Paired.Gq h3 λ_ v q=>?_⟩
 obtain⟨⟨A,ts,rfl,h4,h5⟩,hn⟩:=q
 exact⟨A,ts,rfl,s _ _ h4 (λz=>hn (by rw[z])),JL s hp h5⟩
end Og
namespace L2
open PySem PySem.Spec PyProof.Rows
noncomputable def Dp:Nat->Hp->V->V->Prop
 | 0,_,x,y=>x=y/\GK x=true
 | n+1,H,x,y=>(x=y/\GK x=true) \/ ∃ a b xs ys,x=V.ref a/\y=V.ref b/\((H a=some (.lst xs)/\H b=some (.lst ys)) \/ (H a=some (.tup xs)/\H b=some (.tup ys)))/\Paired (Dp n H) xs ys
theorem Ng {n:Nat} {H:Hp} {x:V} (h:GK x=true):Dp n H x x:=by
 cases n with
 | zero=>exact⟨rfl,h⟩
 | succ n=>exact .inl ⟨rfl,h⟩
theorem Ez {R:V->V->Prop}:∀ {xs ys:List V},Paired R xs ys->∀ j,j<xs.length->R (xs.getD j .non) (ys.getD j .non)
 | _,_,.nil,j,h=>absurd h (ip _)
 | _,_,.cons a b,0,_=>a
 | _,_,.cons a b,j+1,h=>Ez b j (Nat.lt_of_succ_lt_succ h)
section
variable {X:Cx} {a7:List (Addr × Obj)} {σ:St} {H:Hp} {s:Shared}
theorem KQ (I:Inv X a7 σ H s):∀ (n:Nat) (A:Around) (x y:V) (u v:Value),A.units+n<cLine->Dp n H x y->RelV x u->RelV y v->SeqAt.EqAt A s u v true
 | 0,A,x,y,u,v,hu,h,rx,ry=>by
  obtain⟨rfl,hf⟩:=h
  have:=RV (A:=A) (s:=s) rx ry hf hf
  rw[QD hf] at this
  exact this
 | n+1,A,x,y,u,v,hu,h,rx,ry=>by
  rcases h with⟨rfl,hf⟩ | ⟨a,b,xs,ys,rfl,rfl,hab,p⟩
  ·have:=RV (A:=A) (s:=s) rx ry hf hf
   rw[QD hf] at this
   exact this
  ·cases rx
   cases ry
   by_cases hne:a=b
   ·subst hne
    exact SeqAt.EqAt.same _
   ·refine SeqAt.EqAt.of_refs hne ?_
    have pl:=p.length
    rcases hab with⟨ha,hb⟩ | ⟨ha,hb⟩
    ·obtain⟨i1,r1,p1,_⟩:=I.list (show Dg X.K H a xs from .inl (.inl ha))
     obtain⟨i2,r2,p2,_⟩:=I.list (show Dg X.K H b ys from .inl (.inl hb))
     have l1:=r1.length
     have l2:=r2.length
     have h:=SeqAt.RcAt.lists (A:=A) (e:=λ_=>true) p1.isList p2.isList (by simp;omega) (by omega) (λj h1 h2=>by
      have h1':j<i1.length:=by simpa using h1
      have h2':j<i2.length:=by simpa using h2
      simp only[List.getElem_toArray]
      exact KQ I n A.in1 _ _ _ _ (by show A.units+1+n<cLine;omega) (Ez p j (by omega)) (Hr r1 h1') (Hr r2 h2'))
     have e:((List.range i1.toArray.size).all λ_=>true)=true:=cw.mpr λ_ _=>rfl
     rw[e] at h
     exact h
    ·obtain⟨i1,r1,p1,_⟩:=I.tuple (show Ga X.K H a xs from .inl (.inl ha))
     obtain⟨i2,r2,p2,_⟩:=I.tuple (show Ga X.K H b ys from .inl (.inl hb))
     have l1:=r1.length
     have l2:=r2.length
     have h:=SeqAt.RcAt.tuples (A:=A) (e:=λ_=>true) p1 p2 (by omega) (λj h1 h2=>by
      have h1':j<i1.length:=by simpa using h1
      have h2':j<i2.length:=by simpa using h2
      simp only[List.getElem_toArray]
      exact KQ I n A.in1 _ _ _ _ (by show A.units+1+n<cLine;omega) (Ez p j (by omega)) (Hr r1 h1') (Hr r2 h2'))
     have e:((List.range (min i1.toArray.size i2.toArray.size)).all λ_=>true)=true:=cw.mpr λ_ _=>rfl
     have e2:(i1.toArray.size == i2.toArray.size)=true:=beq_iff_eq.mpr (by simp;omega)
     rw[e,e2] at h
     exact h
end
section
variable {X:Cx}
theorem QF (n:Nat) (hu:X.A.units+(n+1)<cLine):HN X (compareOp .NotEq) (λx y H Q=>∃ a b,x=V.ref a/\y=V.ref b/\Dp (n+1) H x y/\Q (.bl false) H):=by
 intro a7 s σ H x y v u Q I rx ry h
 obtain⟨a,b,rfl,rfl,h,k⟩:=h
 rcases h with⟨_,hf⟩ | ⟨a',b',xs,ys,ea,eb,hab,p⟩
 ·cases hf
 cases ea
 cases eb
 cases rx
 cases ry
 have pl:=p.length
 rcases hab with⟨ha,hb⟩ | ⟨ha,hb⟩
 ·obtain⟨i1,r1,p1,_⟩:=I.list (show Dg X.K H a xs from .inl (.inl ha))
  obtain⟨i2,r2,p2,_⟩:=I.list (show Dg X.K H b ys from .inl (.inl hb))
  have l1:=r1.length
  have l2:=r2.length
  refine SeqAt.RcNeAt.lists (e:=λ_=>true) p1.isList p2.isList (by simp;omega) (by omega) (λj h1 h2=>by
   have h1':j<i1.length:=by simpa using h1
   have h2':j<i2.length:=by simpa using h2
   simp only[List.getElem_toArray]
   exact KQ I n X.A.in1 _ _ _ _ (by show X.A.units+1+n<cLine;omega) (Ez p j (by omega)) (Hr r1 h1') (Hr r2 h2')) _ _ _ _ ⟨.bl false,H,I,?_,k⟩
  have e:((List.range i1.toArray.size).all λ_=>true)=true:=cw.mpr λ_ _=>rfl
  rw[e]
  exact rfl
 ·obtain⟨i1,r1,p1,_⟩:=I.tuple (show Ga X.K H a xs from .inl (.inl ha))
  obtain⟨i2,r2,p2,_⟩:=I.tuple (show Ga X.K H b ys from .inl (.inl hb))
  have l1:=r1.length
  have l2:=r2.length
  refine SeqAt.RcNeAt.tuples (e:=λ_=>true) p1 p2 (by omega) (λj h1 h2=>by
   have h1':j<i1.length:=by simpa using h1
   have h2':j<i2.length:=by simpa using h2
   simp only[List.getElem_toArray]
   exact KQ I n X.A.in1 _ _ _ _ (by show X.A.units+1+n<cLine;omega) (Ez p j (by omega)) (Hr r1 h1') (Hr r2 h2')) _ _ _ _ ⟨.bl false,H,I,?_,k⟩
  have e:((List.range (min i1.toArray.size i2.toArray.size)).all λ_=>true)=true:=cw.mpr λ_ _=>rfl
  have e2:(i1.toArray.size == i2.toArray.size)=true:=beq_iff_eq.mpr (by simp;omega)
  rw[e,e2]
  exact rfl
end
open PySem PySem.Spec PySem.Calls PyProof.Rows
noncomputable def Z4 (h:Heap) (x T C:Addr) (od:Option Addr) (fl:Value):Prop :=
 ∃ (vs ts:Array Value) (sl:Array (Option Value)) (oT:Obj),h.get? x=some ⟨.ref C,od,.fields vs,sl⟩/\vs[1]? = some (.ref T)/\T ≠ x/\h.get? T=some oT/\oT.data=.fields ts/\ts[3]? = some fl
structure Mv (fs:List Addr) (x T:Addr) (h h':Heap):Prop where
 keep:∀ b o,h.get? b=some o->b ≠ x->b ≠ T->b ∉ fs->h'.get? b=some o
 any:∀ b o,h.get? b=some o->b ≠ x->b ≠ T->∃ sl,h'.get? b=some { o with slots:=sl }
section
variable {M:Model} {A:Around} {E:vSP} {s:Shared} {base:Heap} {env:Env} {outer:List Env} {L x T C:Addr} {od:Option Addr} {Q:Unit->Shared->Prop}
theorem LR {vs:Array Value} {sl:Array (Option Value)} {head:Value} {uo:Bool} (hfr:A.frames=some (env::outer)) (hl:s.heap.FunFrames base (env::outer)) (hf:env.frame=some L)
  (he:s.heap.get? x=some ⟨.ref C,od,.fields vs,sl⟩) (hsz:1<vs.size)
  (h:∀ h' T',Z4 h' x T' C od (rawInt L)->Mv (frs (env::outer)) x x s.heap h'->s.heap.get? T'=none->Q () { s with heap:=h' }) :
  wpAny M A (do let a <-frameOf env;let pl <-entryPlaceOf L uo;let b <-EntryCells.newEntry head a .none (rawInt L) .none pl;setField (.ref x) 1 b) Q E s:=by
 have hene:x ∉ (env::outer).filterMap (·.frame):=λhm=>by
  obtain⟨_,o,ho,xI⟩:=hl.mem hm
  rw[he] at ho;injection ho with ho;subst ho;exact xI vs rfl
 refine wpAny_bind (wpAny_frameOf_fun hfr hl hf λh₁ AD=>?_)
 refine wpAny_bind (wpAny_entryPlaceOf λpl hpl=>?_)
 unfold EntryCells.newEntry newFields
 refine wpAny_bind (wpAny_newObj_type ?_ (hpl.sizeOk5 _ _ _ _ _))
 have he₁:h₁.get? x=some ⟨.ref C,od,.fields vs,sl⟩:=(AD.2.1 x hene).trans he
 have GN:=Heap.get?_push_of_some (h:=h₁) { cls:=.type "traceback",dict:=none,data:=.fields ([head,.ref L,.none,rawInt L,.none]++(if pl.isEmpty then List.replicate 6 Value.none else pl)).toArray } he₁
 refine wpAny_setField GN rfl hsz ?_
 have hTe:h₁.objs.size ≠ x:=im (Heap.lt_size he₁)
 have R':=Obj.data_mapFields (o:=⟨.ref C,od,.fields vs,sl⟩) rfl (·.setIfInBounds 1 (Value.ref h₁.objs.size))
 have Pm:=Heap.get?_update_self (Obj.mapFields (·.setIfInBounds 1 (Value.ref h₁.objs.size))) GN (Obj.isFreed_of_fields R')
 have Lu:=(Heap.get?_update_other (h₁.push { cls:=.type "traceback",dict:=none,data:=.fields ([head,.ref L,.none,rawInt L,.none]++(if pl.isEmpty then List.replicate 6 Value.none else pl)).toArray })
  (Obj.mapFields (·.setIfInBounds 1 (Value.ref h₁.objs.size))) (Ne.symm hTe)).trans (Heap.get?_push_size h₁ rfl)
 refine h _ h₁.objs.size ⟨_,_,sl,_,Pm,by simp[hsz],hTe,Lu,rfl,by first | (simp;done) | (rcases hpl with rfl | ⟨_,_,_,_,_,_,_,rfl⟩ <;> simp)⟩ ⟨λb o hb hx _ hn=>?_,λb o hb hx _=>?_⟩ ?_
 ·rw[Heap.get?_update_other _ _ (Ne.symm hx)]
  exact Heap.get?_push_of_some _ ((AD.2.1 b hn).trans hb)
 ·obtain⟨ug,hs⟩:=AD.2.2 b o hb
  rw[Heap.get?_update_other _ _ (Ne.symm hx)]
  exact⟨ug,Heap.get?_push_of_some _ hs⟩
 ·refine Heap.get?_none_of_le ?_
  rw[AD.1]
  exact ar _
theorem Q5 {vs:Array Value} {sl:Array (Option Value)} (hfr:A.frames=some (env::outer)) (hl:s.heap.FunFrames base (env::outer)) (hf:env.frame=some L)
  (he:s.heap.get? x=some ⟨.ref C,od,.fields vs,sl⟩) (h1:vs[1]? = some .none)
  (h:∀ h' T',Z4 h' x T' C od (rawInt L)->Mv (frs (env::outer)) x x s.heap h'->s.heap.get? T'=none->Q () { s with heap:=h' }):wpAny M A (noteFrame (.ref x) env) Q E s:=by
 unfold noteFrame
 simp only[hf]
 refine wpAny_bind (wpAny_field he rfl h1 ?_)
 rw[if_neg (by decide)]
 exact LR hfr hl hf he (Array.getElem?_eq_some_iff.mp h1).1 h
theorem Rw (hfr:A.frames=some (env::outer)) (hl:s.heap.FunFrames base (env::outer)) (hf:env.frame=some L) (hy:Z4 s.heap x T C od .none)
  (h:∀ h' T',Z4 h' x T' C od (rawInt L)->Mv (frs (env::outer)) x T s.heap h'->s.heap.get? T'=none->Q () { s with heap:=h' }):wpAny M A (noteFrame (.ref x) env) Q E s:=by
 obtain⟨vs,ts,sl,oT,he,h1,hTe,hT,vf,h3⟩:=hy
 have hsz3:=(Array.getElem?_eq_some_iff.mp h3).1
 unfold noteFrame
 simp only[hf]
 refine wpAny_bind (wpAny_field he rfl h1 ?_)
 rw[if_pos (show (Value.ref T != Value.none)=true from by simp)]
 refine wpAny_bind (wpAny_field hT vf h3 ?_)
 rw[if_neg (show ¬ ((Value.none == rawInt L)=true) from by simp[rawInt])]
 refine wpAny_bind (wpAny_setField hT vf hsz3 ?_)
 have other:∀ b,b ≠ T->(s.heap.update T (Obj.mapFields (·.setIfInBounds 3 Value.none))).get? b=s.heap.get? b:=λb hb=>Heap.get?_update_other _ _ (Ne.symm hb)
 have zJ:=Heap.get?_update_self (Obj.mapFields (·.setIfInBounds 3 Value.none)) hT (Obj.isFreed_of_fields (Obj.data_mapFields vf _))
 have noRecord:∀ b o,s.heap.get? b=some o->(∀ vs,o.data ≠ .fields vs)->b ≠ T:=λb o hb xI q=>by
  rw[q,hT] at hb;injection hb with hb;subst hb;exact xI ts vf
 refine LR (s:={ s with heap:=s.heap.update T (Obj.mapFields (·.setIfInBounds 3 Value.none)) }) hfr (hl.of_keeps λb o hb xI=>⟨o,(other b (noRecord b o hb xI)).trans hb,rfl⟩) hf ((other x (Ne.symm hTe)).trans he) (Array.getElem?_eq_some_iff.mp h1).1 λh' T' y m n=>?_
 have nT:T' ≠ T:=λz=>by
  subst z
  have n':(s.heap.update T' (Obj.mapFields (·.setIfInBounds 3 Value.none))).get? T'=none:=n
  rw[zJ] at n';cases n'
 exact h h' T' y ⟨λb o hb hx ht hn=>m.keep b o ((other b ht).trans hb) hx hx hn,λb o hb hx ht=>m.any b o ((other b ht).trans hb) hx hx⟩ ((other T' nT).symm.trans n)
theorem GC {fl:Value} (hy:Z4 s.heap x T C od fl) (h:∀ h',Z4 h' x T C od .none->Mv [] x T s.heap h'->Q () { s with heap:=h' }):wpAny M A (setFlight (.ref x) none) Q E s:=by
 obtain⟨vs,ts,sl,oT,he,h1,hTe,hT,vf,h3⟩:=hy
 have hsz3:3<ts.size:=(Array.getElem?_eq_some_iff.mp h3).1
 have other:∀ b,b ≠ T->(s.heap.update T (Obj.mapFields (·.setIfInBounds 3 ((none:Option Addr).elim Value.none λf=>rawInt f)))).get? b=s.heap.get? b :=
  λb hb=>Heap.get?_update_other _ _ (Ne.symm hb)
 unfold setFlight
 refine wpAny_bind (wpAny_field he rfl h1 ?_)
 rw[if_pos (show (Value.ref T != Value.none)=true from by simp)]
 refine wpAny_setField hT vf hsz3 (h _ ?_ ⟨λb o hb _ ht _=>(other b ht).trans hb,λb o hb _ ht=>⟨o.slots,(other b ht).trans hb⟩⟩)
 exact⟨vs,_,sl,_,(other x (Ne.symm hTe)).trans he,h1,hTe,Heap.get?_update_self _ hT (Obj.isFreed_of_fields (Obj.data_mapFields vf _)),Obj.data_mapFields vf _,by simp[hsz3]⟩
end
section
variable {P:Program} {w:World} {fs:List Addr} {H H':Hp} {h h1 h2 h3:Heap} {x T T':Addr}
theorem Qs {h:Heap} {b y:Addr} {o:Obj} (e:h.get? b=some o) (n:h.get? y=none):b ≠ y:=λz=>by
 rw[z,n] at e
 cases e
theorem Fd.mv (k:Fd P w H h) (m:Mv fs x T h h1) (hx:H x=none) (hT:H T=none) (hf:∀ b∈fs,H b=none):Fd P w H h1:=λb u e=>by
 have ne:∀ c,H c ≠ none->c ≠ x/\c ≠ T/\c ∉ fs:=λc q=>⟨λz=>q (z ▸ hx),λz=>q (z ▸ hT),λz=>q (hf c z)⟩
 refine (k b u e).stay (λc v hc q=>?_) (λ_ q=>q) λ_ _ q=>q
 have hq:H c ≠ none:=by
  rcases hc with z | z
  ·rw[z,e];simp
  ·rw[z];simp
 obtain⟨a1,a2,a3⟩:=ne c hq
 exact m.keep c v q a1 a2 a3
theorem Un.mv {gs:List Addr} (u:Un gs [] H H' h h1) (m:Mv fs x T h1 h2) (hx:h.get? x=none) (hT:h.get? T=none) (hf:∀ b∈fs,b ∉ gs->h.get? b=none):Un gs [] H H' h h2:=by
 have ne:∀ b o,h.get? b=some o->b ≠ x/\b ≠ T:=λb o e=>⟨Qs e hx,Qs e hT⟩
 refine⟨λb o e n hb og=>?_,λb o e n hb og=>?_,u.free,λb o e og=>?_,u.tups,u.frzs,u.tbls⟩
 ·obtain⟨a1,a2⟩:=ne b o e
  refine m.keep b o (u.keep b o e n hb og) a1 a2 λz=>?_
  have:=hf b z hb
  rw[e] at this;cases this
 ·obtain⟨a1,a2⟩:=ne b o e
  obtain⟨sl,e1⟩:=u.slot b o e n hb og
  obtain⟨ug,e2⟩:=m.any b _ e1 a1 a2
  exact⟨ug,e2⟩
 ·obtain⟨a1,a2⟩:=ne b o e
  obtain⟨o',e1⟩:=u.there b o e og
  obtain⟨sl,e2⟩:=m.any b o' e1 a1 a2
  exact⟨_,e2⟩
end
noncomputable def S7 (P:Program) (w:World):QZ:=λouter H s E e s'=>∃ (x T C:Addr) (od:Option Addr) (H':Hp),e=.ref x/\s'.os=s.os/\AllBare s'.gens/\Z4 s'.heap x T C od .none/\s.heap.get? x=none/\s.heap.get? T=none /\
 H' x=none/\H' T=none/\Fd P w H' s'.heap/\Un (frs outer) [] H H' s.heap s'.heap/\E (.ref C) od H'
section
variable {X:Cx} {C:Addr} {x:Str} {e:Expr} {es:List Expr} {t:TA} {np i5 pos:Pos} {E:XK}
end
theorem Pa {prog:Program} {w:World} {A:Around} {E:vSP} {s:Shared} {K:W.Frag} {x C O:Addr} {od:Option Addr} {d:Data} {sl:Array (Option Value)} {b:Bool} {Q:Bool->Shared->Prop}
  (X:K.In s.heap) (he:s.heap.get? x=some ⟨.ref C,od,d,sl⟩) (q:W.excIn K O U8 "ValueError.__new__" = true) (hm:W.mroIn K C (.ref O)=some b) (h:Q b s):wpAny (model prog w) A (excMatches (.ref x) (.ref O)) Q E s:=by
 obtain⟨bm,N,nm,qn,bs,hdct,sn,sub,ab,col,dd,k0,k1,k2,k3,k5,mN,hC,hN,DV,TL⟩:=X_ X q
 have hbase:bm.contains (.type "BaseException")=true:=TL.hasType (by decide)
 have hcB:(Value.ref O::bm).contains (.type "BaseException")=true:=by rw[List.contains_cons,hbase,Bool.or_true]
 have L:=W.looks_mroIn (M:=model prog w) X hm
 have f:=tc_notTuple
 obtain⟨hp,g,dr,tk,os⟩:=s
 unfold excMatches
 repeat (first | with_reducible refine wpAny_loadPart_at he ?_ | with_reducible refine wpAny_loadPart_at hC ?_ | (with_reducible refine wpAny_isSubtype_exc hC ?_;rw[hcB]) | with_reducible refine L.at ?_ | wp_step)
 cases b <;> (wp_walk;exact h)
theorem Un.adopt {gs:List Addr} {H1 H2:Hp} {h h':Heap} {x:Addr} {o:HO} (u:Un gs [] H1 H2 h h') (hx:h.get? x=none) (hn:H2 x=none):Un gs [] H1 (upd H2 x o) h h' :=
 ⟨u.keep,u.slot,λb ob e n hb=>by rw[Ao (Qs e hx)];exact u.free b ob e n hb,u.there,λb xs e=>by rw[Ao (Al (u.tups b xs e) hn)];exact u.tups b xs e,
  λb ob v e=>by rw[Ao (Al (u.frzs b ob v e) hn)];exact u.frzs b ob v e,λb ps e=>by
   obtain⟨more,e1⟩:=u.tbls b ps e
   exact⟨more,by rw[Ao (Al e1 hn)];exact e1⟩⟩
noncomputable abbrev Cx.inX (X:Cx) (x:Addr):Cx:={ X with A:=X.A.mark (some (.ref x)),calm:=false }
section
variable {X:Cx} {a7:List (Addr × Obj)} {σ:St} {H:Hp} {s:Shared}
theorem Inv.inX (I:Inv X a7 σ H s) (x:Addr):Inv (X.inX x) a7 σ H s :=
 ⟨⟨I.ok.mod,I.ok.kind,I.ok.glob,I.ok.blt,I.ok.above,I.ok.inj,I.ok.has,I.ok.cab,(λz=>nomatch z),I.ok.frames,I.ok.stk,I.ok.exf,I.ok.bs,I.ok.bsz,I.ok.noex,I.ok.exfs,I.ok.I_,I.ok.frf⟩,
  I.os,I.bare,I.base,I.loc,I.cell,I.free,I.freeC,I.pin,I.hok,I.len⟩
theorem Inv.YC {x:Addr} (ok:X.Ok) (I:Inv (X.inX x) a7 σ H s):Inv X a7 σ H s:=⟨ok,I.os,I.bare,I.base,I.loc,I.cell,I.free,I.freeC,I.pin,I.hok,I.len⟩
theorem name_goes {M:Model} {A:Around} {E:vSP} {i:Nat} {n:Str} {pos:Pos} {Q:Unit->Shared->Prop} (I:Inv X a7 σ H s) (hN:X.N.Nodup) (hi:X.N[i]? = some n) (hk:X.env.kindOf n=some .local)
  (h:∀ s',Inv X a7 (σ.set i none) H s'->Q () s'):wpAny M A (do bindName X.env n .none;unbindBehindTheSuite X.env n pos) Q E s:=by
 obtain⟨m,hn,hl⟩:=id I.loc
 have hcls:(X.env.scope.kind == .class || (X.env.scope.kind == .module && X.env.locals != X.env.globals))=false:=by rw[I.ok.kind];rfl
 have hiσ:i<σ.length:=by rw[I.len];exact (ai.mp hi).1
 refine wpAny_nameGoes_keeps hk hn hcls λh' v wP hs=>h _ ?_
 obtain⟨oL,_,_,JI,_⟩:=id hn
 have nL:∀ b o,X.s₀.heap.get? b=some o->b ≠ X.env.locals:=λb o e=>ci (bt (Heap.lt_size e) I.ok.above)
 have tracked:Fd X.prog X.w H h':=λb ob e=>by
  refine (I.hok b ob e).stay (λc w' hc q=>(hs.2 c ?_).trans q) (λ_ q=>q) λ_ _ q=>q
  rintro rfl
  have hfree:=I.free
  rcases hc with rfl | hc
  ·rw[hfree] at e;cases e
  ·rw[hfree] at hc;cases hc
 refine⟨I.ok,I.os,I.bare,⟨λb o e n hb hx=>?_,λb o e n hb hx=>?_,I.base.free,λb o e hx=>?_,I.base.tups,I.base.frzs,I.base.tbls⟩,⟨_,wP,λj y v' e1 e2 e3=>?_⟩,λy c e=>?_,I.free,I.freeC,λp hp=>?_,tracked,by simpa using I.len⟩
 ·exact (hs.2 b (nL b o e)).trans (I.base.keep b o e n hb hx)
 ·obtain⟨sl,e1⟩:=I.base.slot b o e n hb hx
  exact⟨sl,(hs.2 b (nL b o e)).trans e1⟩
 ·obtain⟨o',e1⟩:=I.base.there b o e hx
  exact⟨o',(hs.2 b (nL b o e)).trans e1⟩
 ·by_cases hj:j=i
  ·subst hj
   rw[gX hiσ] at e2
   cases e2
  ·rw[ia (Ne.symm hj)] at e2
   obtain⟨u',r',q⟩:=hl j y v' e1 e2 e3
   refine⟨u',r',?_⟩
   rcases q with⟨k,e⟩ | ⟨k,c,e,z⟩
   ·refine .inl ⟨k,?_⟩
    have:y ≠ n:=λe=>hj (LK hN e1 (e ▸ hi))
    simp[this,e]
   ·exact .inr ⟨k,c,e,z.sameBut hs (I.Yj y c e)⟩
 ·obtain⟨w',z⟩:=I.cell y c e
  exact⟨w',z.sameBut hs (I.Yj y c e)⟩
 ·obtain⟨e,n,ne,nf,d⟩:=I.pin p hp
  exact⟨(hs.2 p.1 ne).trans e,n,ne,nf,d⟩
end
noncomputable def Ends.drop (D:Ends) (i:Nat):Ends:={ nx:=λσ H=>D.nx (σ.set i none) H,rt:=D.rt,bk:=λσ H=>D.bk (σ.set i none) H,ct:=λσ H=>D.ct (σ.set i none) H }
section
variable {X:Cx} {k i:Nat} {f O:Addr} {fd:FuncData} {ps:List Str} {sp:Sp} {i4:List V} {ds:List Value} {fx cn n:Str} {p np i5 FO hpos pos:Pos} {e:Expr} {es:List Expr} {t:TA} {b0:Stmt} {pV:List Stmt} {ts:TS}
end
structure J5 (k:Nat) (A:Around):Prop where
 dp:A.depth+3 * k+5<recursionLimit
 un:A.units+16 * k+200<cLine
theorem J5.deeper {k:Nat} {A:Around} (r:J5 (k+1) A) (env:Env):J5 k (A.deeper env) :=
 ⟨by have:=r.dp;show A.depth+1+3 * k+5<_;omega,by have:=r.un;show A.units+3+16 * k+200<_;omega⟩
structure O_ (P:Program) (w:World) (K:W.Frag) (mg:Str->Option Value) (base:Heap) (CX:QZ) (k:Nat) (f:Addr) (fd:FuncData) (ps:List Str) (sp:Sp):Prop where
 len:∀ vs H Q E,sp vs H Q E->vs.length=ps.length
 run:∀ (A:Around) (outer:List Env) (s:Shared) (H:Hp) (args:Args) (us:List Value) (vs:List V) (Q:VK) (E:XK),J5 k A->Np P w K mg base A outer s H->BindsTo s fd args (ps.zip us)->Vals vs us->sp vs H Q E ->
  codeAny (model P w) A (.call (.ref f) args) (CR CX outer P w H s Q E) s
noncomputable abbrev Rv (CX:QZ) (P:Program) (w:World) (K:W.Frag) (mg:Str->Option Value) (base:Heap) (N:List Str) (qual:Str) (scope:Scope) (f:Addr) (cd:Value) (A:Around) (outer:List Env) (s:Shared) (H:Hp) (E:XK):Cx :=
 { K8 CX P w K mg base N qual scope f cd A outer s H E with calm:=false }
theorem Inv.j_ {X:Cx} {a7:List (Addr × Obj)} {σ:St} {H:Hp} {s:Shared} {A':Around} {QU:vSP} (I:Inv X a7 σ H s) (hf:A'.frames=some X.stack):Inv { X with A:=A',calm:=false,xe:=QU } a7 σ H s :=
 ⟨⟨I.ok.mod,I.ok.kind,I.ok.glob,I.ok.blt,I.ok.above,I.ok.inj,I.ok.has,I.ok.cab,(λz=>nomatch z),hf,I.ok.stk,I.ok.exf,I.ok.bs,I.ok.bsz,I.ok.noex,I.ok.exfs,I.ok.I_,I.ok.frf⟩,
  I.os,I.bare,I.base,I.loc,I.cell,I.free,I.freeC,I.pin,I.hok,I.len⟩
theorem bC {CX:QZ} {P:Program} {w:World} {K:W.Frag} {mg:Str->Option Value} {base:Heap} {k:Nat} {f:Addr} {name qual:Str} {params:Arguments} {body:List Stmt} {scope:Scope} {dV kV i6 pm b9 ct oc:Value} {an od:Option Addr}
  {rh:Array (Option Value)} {N ps:List Str} {sp:Sp} (lk:K.lookup f=some ⟨oc,od,.func (W.fnOf name qual params body scope dV kV i6 pm an b9 ct),rh⟩) (lI:W.codeIn K b9 qual=true) (S:BL N ps scope)
  (len:∀ vs H Q E,sp vs H Q E->vs.length=ps.length)
  (i7:∀ (A:Around) (outer:List Env) (s:Shared) (H:Hp) (vs:List V) (Q:VK) (E:XK),J5 k (A.deeper (envOfC qual scope s.heap.objs.size f b9))->sp vs H Q E ->
   ∃ t,Oa (Rv CX P w K mg base N qual scope f b9 A outer s H E) body t/\t { nx:=λ_ H'=>Q .non H',rt:=Q } (start N vs) H) :
  O_ P w K mg base CX (k+1) f (W.fnOf name qual params body scope dV kV i6 pm an b9 ct) ps sp:=by
 refine⟨len,λA outer s H args us vs Q E hr e0 hb r hsp=>?_⟩
 have hl:=len _ _ _ _ hsp
 have KX:K.In s.heap:=e0.mod.kin.keeps λb o e=>(e0.bs b o e).1
 have lim:s.heap.NoLimit:=e0.mod.nolimit.keeps λb o e=>(e0.bs b o e).1
 have hkind:∀ y∈ps.zip us,scope.names.lookup y.1=some .local \/ (scope.names.lookup y.1=some .cell/\((cellsFrom (s.heap.objs.size+1) scope.names []).lookup y.1).isSome=true):=λ⟨n,v⟩ hy=>by
  rcases S.par n (hV hy).1 with q | q
  ·exact .inl q
  ·exact .inr ⟨q,W.cellsFrom_some _ _ _ (.inl q)⟩
 refine codeAny_call_function (by have:=hr.dp;omega) (KX _ _ lk) rfl S.co S.gen rfl (W.codeRec_of KX lI) (hb _ _ _ _ ?_)
 refine wpAny_newFunctionEnv_cells S.kind hkind λenv he s1 x=>?_
 subst he
 refine⟨lim.keeps x.toInCall.keep,codeAny_func ?_⟩
 obtain⟨t,ht,hq⟩:=i7 A outer s H vs Q E (hr.deeper _) hsp
 have e0':Np P w K mg base { A with handled:=none } outer s H:=⟨e0.frames,e0.mod,e0.bs,e0.bsz,e0.I_,e0.frf,e0.hok,e0.bare⟩
 have I0:Inv (K8 CX P w K mg base N qual scope f b9 { A with handled:=none } outer s H E) [] (start N vs) H s1:=Mq S rfl e0' hl r x
 have I:Inv (Rv CX P w K mg base N qual scope f b9 A outer s H E) [] (start N vs) H s1:=I0.j_ (Around.frames_deeper e0.frames)
 refine wpAny_mono (ht [] s1 (start N vs) H _ I hq) (λfl s' hs=>?_) λe s' hs=>hs
 have fin:∀ {σ':St} {H':Hp} {v:V} {u:Value},Inv (Rv CX P w K mg base N qual scope f b9 A outer s H E) [] σ' H' s'->RelV v u->Q v H'->CE outer P w H s Q u s' :=
  λ{σ' H' v u} J rv q=>⟨v,H',J.os,J.bare,J.base,J.hok,rv,q⟩
 cases fl with
 | ret u =>
  obtain⟨v,σ',H',J,rv,q⟩:=hs
  exact fin J rv q
 | next =>
  obtain⟨σ',H',J,q⟩:=hs
  exact fin (v:=V.non) (u:=Value.none) J rfl q
 | brk =>
  obtain⟨_,_,_,q⟩:=hs
  exact False.elim q
 | cont =>
  obtain⟨_,_,_,q⟩:=hs
  exact False.elim q
section
variable {P:Program} {w:World} {K:W.Frag} {mg:Str->Option Value} {base:Heap}
theorem Dm.tR {x qual:Str} {st:Stmt} {f:Addr} {fd:FuncData} {N ps:List Str} {k:Nat} {sp:Sp} (F:Dm K x qual st f fd) (S:BL N ps (Ah st)) (len:∀ vs H Q E,sp vs H Q E->vs.length=ps.length)
  (i7:∀ (b9:Value) (A:Around) (outer:List Env) (s:Shared) (H:Hp) (vs:List V) (Q:VK) (E:XK),J5 k (A.deeper (envOfC qual (Ah st) s.heap.objs.size f b9))->sp vs H Q E ->
   ∃ t,Oa (Rv Bh P w K mg base N qual (Ah st) f b9 A outer s H E).dO (Dz st) t/\t { nx:=λ_ H'=>Q .non H',rt:=Q } (start N vs) H):O_ P w K mg base Bh (k+1) f fd ps sp:=by
 obtain⟨oc,od,kV,i6,pm,an,b9,ct,rh,rfl,lk,lI⟩:=F.ex
 refine bC lk lI S len λA outer s H vs Q E hr hsp=>?_
 obtain⟨t,h,q⟩:=i7 b9 A outer s H vs Q E hr hsp
 exact⟨t,h.dO,q⟩
theorem Dm.oN {x qual:Str} {st:Stmt} {f:Addr} {fd:FuncData} {N ps:List Str} {k:Nat} {sp:Sp} (F:Dm K x qual st f fd) (S:BL N ps (Ah st)) (len:∀ vs H Q E,sp vs H Q E->vs.length=ps.length)
  (i7:∀ (b9:Value) (A:Around) (outer:List Env) (s:Shared) (H:Hp) (vs:List V) (Q:VK) (E:XK),Ba k (A.deeper (envOfC qual (Ah st) s.heap.objs.size f b9))->sp vs H Q E ->
   ∃ t,Oa (K8 (S7 P w) P w K mg base N qual (Ah st) f b9 A outer s H E) (Dz st) t/\t { nx:=λ_ H'=>Q .non H',rt:=Q } (start N vs) H):A_ P w K mg base (S7 P w) (k+1) f fd ps sp:=by
 obtain⟨oc,od,kV,i6,pm,an,b9,ct,rh,rfl,lk,lI⟩:=F.ex
 refine ZX lk lI S len λA outer s H vs Q E hr hsp=>?_
 obtain⟨t,h,q⟩:=i7 b9 A outer s H vs Q E hr hsp
 exact⟨t,h,q⟩
end
section
variable {X:Cx} {CX:QZ} {k:Nat} {f:Addr} {fd:FuncData} {ps:List Str} {sp:Sp} {i4:List V} {ds:List Value} {E:XK} {x:Str} {p pos:Pos} {e:Expr} {es:List Expr} {t:TA}
theorem Wt (F:O_ X.prog X.w X.K X.mg X.base CX k f fd ps sp) (hr:J5 k X.A) (hg:Gl X x) (hm:X.mg x=some (.ref f)) (hk:W.keepIn X.K (.ref f)=true) (hb:Binds X.K fd ps ds) (hd:Vals i4 ds) (hx:Hw CX X E)
  (ha:PA X (e::es) t) (qS:(x == ("__debug__" : Str))=false:=by decide) (he:starEach (e::es) X.env=(false,eval e X.env)::starEach es X.env:=by rfl) (hpl:(backTo pos (starEach es X.env)).any (·.1)=false:=by rfl) :
  PE X (.Call (.Name x p) (e::es) [] pos) (V3 sp i4 E t):=by
 intro a7 s σ H Q I h
 refine wpAny_Call_Name_kw (G4 I hg hm ?_ qS)
 refine W.callWith_K (h₀:=X.base) I.ok.mod.kin hk (CW (ha pos a7 s σ H _ I h) λus s1 ⟨vs,H1,I1,r,h1⟩=>⟨I1.Gv,?_⟩) he hpl
 have r2:Vals (vs++i4) (us++ds):=r.append hd
 have hl:(us++ds).length=ps.length:=by rw[<-r2.length];exact F.len _ _ _ _ h1
 refine wpAny_call (codeAny_mono (F.run X.A X.stack s1 H1 ⟨us,[]⟩ (us++ds) (vs++i4) Q E hr I1.env0 (hb s1 us I1.Gv hl) r2 h1) λr s' hq=>?_)
 cases r with
 | error e=>exact hx a7 σ H1 s1 e s' I1 hq
 | ok fl =>
  cases fl with
  | ret u=>exact I1.after hq
  | next=>exact False.elim hq
  | brk=>exact False.elim hq
  | cont=>exact False.elim hq
end
theorem Un.oh {fs gs:List Addr} {H H1 H2:Hp} {h h1 h2:Heap} (a:Un fs [] H H1 h h1) (b:Un gs [] H1 H2 h1 h2) (hs:∀ x∈gs,x∈fs \/ h.get? x=none):Un fs [] H H2 h h2 where
 keep:=λc o q n hc hx=>by
  have hg:c ∉ gs:=λz=>by
   rcases hs c z with e | e
   ·exact hc e
   ·rw[q] at e;cases e
  exact b.keep c o (a.keep c o q n hc hx) (a.free c o q n hx) hg hx
 slot:=λc o q n hc hx=>by
  obtain⟨sl,e⟩:=a.slot c o q n hc hx
  obtain⟨ug,e'⟩:=b.any e (a.free c o q n hx) hx
  exact⟨ug,e'⟩
 free:=λc o q n hx=>by
  obtain⟨o',e⟩:=a.there c o q hx
  exact b.free c o' e (a.free c o q n hx) hx
 there:=λc o q hx=>by
  obtain⟨o',e⟩:=a.there c o q hx
  exact b.there c o' e hx
 tups:=λc xs q=>b.tups c xs (a.tups c xs q)
 frzs:=λc o u q=>b.frzs c o u (a.frzs c o u q)
 tbls:=λc ps q=>by
  obtain⟨m1,e1⟩:=a.tbls c ps q
  obtain⟨m2,e2⟩:=b.tbls c _ e1
  exact⟨m1++m2,by rw[e2,Array.append_assoc]⟩
theorem TX {P:Program} {w:World} {K:W.Frag} {mg:Str->Option Value} {base:Heap} {N:List Str} {qual:Str} {scope:Scope} {f:Addr} {cd:Value} {A:Around} {outer:List Env} {s:Shared} {H:Hp} {E:XK} :
  Hw (S7 P w) (K8 (S7 P w) P w K mg base N qual scope f cd A outer s H E) E:=by
 rintro a7 σ H1 s1 e s' I ⟨x,T,C,od,H2,rfl,os,bare,y,nx,nT,hx2,rL,pe,xr,q⟩
 have gone:∀ b,s1.heap.get? b=none->s.heap.get? b=none:=λb e=>by
  cases z:s.heap.get? b with
  | none=>rfl
  | some o =>
   obtain⟨o',e'⟩:=I.base.there b o z (by show b ∉ ([]:List Addr);simp)
   rw[e] at e';cases e'
 have os1:s1.os=s.os:=I.os
 obtain⟨h1,g,dr,tk,vD⟩:=s'
 obtain rfl:vD=s1.os:=os
 have I2:=I.call (h':=h1) (g':=g) (d':=dr) (t':=tk) (ch:=[]) xr pe bare (λb z=>absurd z (by simp))
 have hfr:(A.deeper (envOfC qual scope s.heap.objs.size f cd)).frames=some (envOfC qual scope s.heap.objs.size f cd::outer):=I.ok.frames
 have hff:h1.FunFrames base (envOfC qual scope s.heap.objs.size f cd::outer):=I2.stack
 have frees:∀ b∈frs (envOfC qual scope s.heap.objs.size f cd::outer),H2 b=none:=I2.IW
 have fsN:∀ b∈frs (envOfC qual scope s.heap.objs.size f cd::outer),b∈frs outer \/ s.heap.get? b=none:=λb hb=>by
  rcases List.mem_cons.mp (show b∈s.heap.objs.size::frs outer from hb) with z | z
  ·rw[z];exact .inr (Heap.get?_none_of_le (ar _))
  ·exact .inl z
 have u0:Un (frs outer) [] H H1 s.heap s1.heap:=I.base
 have u2:Un (frs outer) [] H H2 s.heap h1:=u0.oh (show Un (frs (envOfC qual scope s.heap.objs.size f cd::outer)) [] H1 H2 s1.heap h1 from xr) fsN
 show wpAny (model P w) (A.deeper (envOfC qual scope s.heap.objs.size f cd)) (leaving (envOfC qual scope s.heap.objs.size f cd) (.ref x)) _ _ _
 unfold leaving
 refine wpAny_bind (Rw (s:=⟨h1,g,dr,tk,s1.os⟩) (L:=s.heap.objs.size) hfr hff rfl y λh3 T3 y3 m3 n3=>?_)
 refine GC (s:=⟨h3,g,dr,tk,s1.os⟩) y3 λh4 y4 m4=>?_
 have nT3:s.heap.get? T3=none:=by
  cases z:s.heap.get? T3 with
  | none=>rfl
  | some o =>
   obtain⟨o',e'⟩:=u2.there T3 o z (by simp)
   have n3':h1.get? T3=none:=n3
   rw[n3'] at e';cases e'
 have hT3:H2 T3=none:=pe.none_of n3
 have fs2:∀ b∈frs (envOfC qual scope s.heap.objs.size f cd::outer),b ∉ frs outer->s.heap.get? b=none:=λb hb hn=>(fsN b hb).resolve_left hn
 have u3:=u2.mv m3 (gone x nx) (gone T nT) fs2
 have u4:=u3.mv m4 (gone x nx) nT3 (λ_ z=>nomatch z)
 have k3:Fd P w H2 h3:=Fd.mv (P:=P) (w:=w) pe m3 hx2 rL frees
 have k4:Fd P w H2 h4:=k3.mv m4 hx2 hT3 (λ_ z=>nomatch z)
 exact⟨x,T3,C,od,H2,rfl,os1,bare,y4,gone x nx,nT3,hx2,hT3,k4,u4,q⟩
noncomputable def dh (td ty tv:TE):TS:=λD σ H=>tv σ H λv H1=>td σ H1 λx H2=>ty σ H2 λy H3=>∃ a xs,∃ k:Int,x=.ref a/\y=.int k/\H3 a=some (.lst xs)/\0<=k/\k<xs.length/\k<2 ^ 62/\D.nx σ (upd H3 a (.lst (xs.set k.toNat v)))
section
variable {X:Cx} {o i value:Expr} {td ty tv:TE} {pos i3:Pos}
theorem Xz (ho:PE X o td) (hi:PE X i ty) (hv:PE X value tv) (hs:swapsWith value (some (.Subscript o i i3)) pos.line X.env=pure false):PS X (.Assign [.Subscript o i i3] value pos) (dh td ty tv):=by
 intro a7 s σ H D I h
 refine wpAny_Assign_Subscript (CW (hv a7 s σ H _ I h) λr s1 ⟨v,H1,I1,rv,q1⟩=>CW (ho a7 s1 σ H1 _ I1 q1) λu s2 ⟨x,H2,I2,rx,q2⟩=>CW (hi a7 s2 σ H2 _ I2 q2) λiv s3 ⟨y,H3,I3,ry,a,xs,k,ex,ey,ha,k0,k1,k2,q3⟩=>?_) hs
 subst ex ey
 cases rx
 obtain⟨t,rfl⟩:=ry
 obtain⟨z,its,n,w,hl,e⟩:=I3.Ql ha
 refine W.ki_setAt (n:=n) e k0 (by omega) (by rw[List.size_toArray];omega) ⟨σ,_,I3.Z7 (its':=its.set k.toNat r) (t':=s3.toks) ha e (by simp) (w.set rv _) (by rw[List.length_set];exact z),q3⟩
end
section
variable {X:Cx} {k i:Nat} {f O:Addr} {fd:FuncData} {ps:List Str} {sp:Sp} {i4:List V} {ds:List Value} {fx cn n:Str} {p np i5 FO hpos pos:Pos} {e:Expr} {es:List Expr} {t:TA} {b0:Stmt} {pV:List Stmt} {ts:TS}
end
noncomputable abbrev XR:=Value->Option Addr->St->Hp->Prop
noncomputable def XT (X:Cx) (a7:List (Addr × Obj)) (ER:XR) (e:Value) (s':Shared):Prop:=∃ σ H1 s1,Inv X a7 σ H1 s1/\S7 X.prog X.w X.stack H1 s1 (λC od H2=>ER C od σ H2) e s'
noncomputable def rJ (X:Cx) (ER:XR) (st:Stmt) (t:TS):Prop :=
 ∀ (a7:List (Addr × Obj)) (s:Shared) (σ:St) (H:Hp) (D:Ends),Inv X a7 σ H s->t D σ H->wpAny (model X.prog X.w) X.A (exec st X.env) (SP X a7 D) (XT X a7 ER) s
noncomputable def kE (X:Cx) (ER:XR) (st:List Stmt) (t:TS):Prop :=
 ∀ (a7:List (Addr × Obj)) (s:Shared) (σ:St) (H:Hp) (D:Ends),Inv X a7 σ H s->t D σ H->wpAny (model X.prog X.w) X.A (execs st X.env) (SP X a7 D) (XT X a7 ER) s
noncomputable def PET (X:Cx) (ER:XR) (e:Expr) (t:TE):Prop :=
 ∀ (a7:List (Addr × Obj)) (s:Shared) (σ:St) (H:Hp) (Q:VK),Inv X a7 σ H s->t σ H Q->wpAny (model X.prog X.w) X.A (eval e X.env) (EP X a7 σ Q) (XT X a7 ER) s
section
variable {X:Cx} {ER:XR} {st:Stmt} {f':List Stmt} {t u:TS} {pos:Pos}
theorem Vf (h1:rJ X ER st t):kE X ER [st] t:=by
 intro a7 s σ H D I h
 refine wpAny_execs_cons (CW (h1 a7 s σ H D I h) λf s1 q=>?_)
 cases f with
 | next=>exact wpAny_execs_nil q
 | brk=>exact q
 | cont=>exact q
 | ret u=>exact q
theorem W0 {e:Expr} {te:TE} (he:PET X ER e te) (hs:swapsWith e none pos.line X.env=pure false:=by rfl):rJ X ER (.Expr e pos) (Yx te):=by
 intro a7 s σ H D I h
 exact wpAny_Expr_any (CW (he a7 s σ H _ I h) λv s1 ⟨x,H1,I1,r1,q1⟩=>⟨σ,H1,I1,q1⟩) I.quiet hs
end
section
variable {X:Cx} {ER:XR} {k:Nat} {f C:Addr} {fd:FuncData} {ps:List Str} {sp:Sp} {i4:List V} {ds:List Value} {x m:Str} {p pos li:Pos} {e o:Expr} {es:List Expr} {ta:TE} {t:TA}
theorem Xg {a7:List (Addr × Obj)} {σ:St} {H:Hp} {s:Shared} {Q:VK} {us:List Value} {vs:List V} (F:A_ X.prog X.w X.K X.mg X.base (S7 X.prog X.w) k f fd ps sp) (hr:Ba k X.A) (hb:Binds X.K fd ps ds) (hd:Vals i4 ds)
  (I:Inv X a7 σ H s) (r:Vals vs us) (h:sp (vs++i4) H Q (λC od H2=>ER C od σ H2)):wpAny (model X.prog X.w) X.A (call (.ref f) us) (EP X a7 σ Q) (XT X a7 ER) s:=by
 have r2:Vals (vs++i4) (us++ds):=r.append hd
 have hl:(us++ds).length=ps.length:=by rw[<-r2.length];exact F.len _ _ _ _ h
 refine wpAny_call (codeAny_mono (F.run X.A X.stack s H ⟨us,[]⟩ (us++ds) (vs++i4) Q _ hr I.env0 (hb s us I.Gv hl) r2 h) λr s' hq=>?_)
 cases r with
 | error e=>exact⟨σ,H,s,I,hq⟩
 | ok fl =>
  cases fl with
  | ret u=>exact I.after hq
  | next=>exact False.elim hq
  | brk=>exact False.elim hq
  | cont=>exact False.elim hq
end
noncomputable def qR (K:W.Frag) (O:Addr) (i:Nat) (ts:TS) (D:Ends):XR:=λC od σ H2=>∃ Ca,C=.ref Ca/\W.mroIn K Ca (.ref O)=some true/\∀ x,H2 x=none->ts (D.drop i) (σ.set i (some (.ref x))) (upd H2 x (Jg x Ca od))
noncomputable def eO (K:W.Frag) (tb:XR->TS) (O:Addr) (i:Nat) (ts:TS):TS:=λD σ H=>tb (qR K O i ts D) D σ H
section
variable {X:Cx} {i:Nat} {O:Addr} {cn n:Str} {np hpos pos:Pos} {body:List Stmt} {b0:Stmt} {pV:List Stmt} {ts:TS} {tb:XR->TS}
theorem Yd (hb:∀ ER,kE X ER body (tb ER)) (UI:Gl X cn) (QI:X.mg cn=some (.ref O)) (qO:W.excIn X.K O U8 "ValueError.__new__" = true) (hN:X.N.Nodup) (hi:X.N[i]? = some n) (wD:X.env.scope.names.lookup n=some .local)
  (hs:∀ x,Oa (X.inX x) (b0::pV) ts) (B5:X.xe=λ_ _=>False:=by rfl) (hst:X.stack=X.env::X.outer:=by rfl) (D0:X.env.frame=some X.env.locals:=by rfl) (Tk:(cn == ("__debug__" : Str))=false:=by decide) :
  PS X (.Try body [.ExceptHandler (some (.Name cn np)) (some n) (b0::pV) hpos] [] [] pos) (eO X.K tb O i ts):=by
 intro a7 s₀ σ₀ H₀ D I₀ h₀
 refine wpAny_Try_except (wpAny_mono (hb _ a7 s₀ σ₀ H₀ D I₀ h₀) (λfl s' q=>?_) λe' s' q=>?_)
 ·cases fl with
  | next=>exact wpAny_execs_nil q
  | brk=>exact q
  | cont=>exact q
  | ret u=>exact q
 ·obtain⟨σ,H1,s1,I1,x,T,C,od,H2,rfl,os,bare,y,nx,nT,hx2,rL,pe,xr,Ca,eC,xJ,ml⟩:=q
  cases eC
  obtain⟨h1,g,dr,tk,vD⟩:=s'
  obtain rfl:vD=s1.os:=os
  have I2:Inv X a7 σ H2 ⟨h1,g,dr,tk,s1.os⟩:=I1.call (h':=h1) (g':=g) (d':=dr) (t':=tk) (ch:=[]) xr pe bare (λb z=>absurd z (by simp))
  have hfr:=I1.ok.frames
  have hff:=I2.stack
  rw[hst] at hfr hff
  refine Rw (s:=⟨h1,g,dr,tk,s1.os⟩) hfr hff D0 y λh3 T3 y3 m3 n3=>?_
  refine GC (s:=⟨h3,g,dr,tk,s1.os⟩) y3 λh4 y4 m4=>?_
  have nT3:s1.heap.get? T3=none:=by
   cases z:s1.heap.get? T3 with
   | none=>rfl
   | some o =>
    obtain⟨o',e'⟩:=xr.there T3 o z (by simp)
    have n3':h1.get? T3=none:=n3
    rw[n3'] at e';cases e'
  have hT3:H2 T3=none:=pe.none_of n3
  have m3':Mv (frs X.stack) x T h1 h3:=by rw[hst];exact m3
  have u3:=xr.mv m3' nx nT (λb z z'=>absurd z z')
  have u4:=u3.mv m4 nx nT3 (λ_ z=>nomatch z)
  have k3:Fd X.prog X.w H2 h3:=pe.mv m3' hx2 rL I2.IW
  have k4:Fd X.prog X.w H2 h4:=k3.mv m4 hx2 hT3 (λ_ z=>nomatch z)
  have I4:Inv X a7 σ H2 ⟨h4,g,dr,tk,s1.os⟩:=I1.call (h':=h4) (g':=g) (d':=dr) (t':=tk) (ch:=[]) u4 k4 bare (λb z=>absurd z (by simp))
  refine wpAny_handleBy_cons (codeAny_handlers_test (G4 (I4.inX x) UI QI ?_ Tk)) (by intro q;cases q)
  obtain⟨ws,wt,sl,oT,ex,_⟩:=id y4
  refine Pa (s:=⟨h4,g,dr,tk,s1.os⟩) I4.Gv ex qO xJ ?_
  refine codeAny_handlers_suite_as (GC (s:=⟨h4,g,dr,tk,s1.os⟩) y4 λh5 y5 m5=>?_)
  have u5:=(u4.mv m5 nx nT3 (λ_ z=>nomatch z)).adopt (o:=Jg x C od) nx hx2
  obtain⟨WO,VZ,XI,XA,On,_⟩:=id y5
  have k5:Fd X.prog X.w (upd H2 x (Jg x C od)) h5:=(k4.mv m5 hx2 hT3 (λ_ z=>nomatch z)).jz (λ_ _ e=>e) hx2 (Xr On rfl)
  have I5:Inv X a7 σ (upd H2 x (Jg x C od)) ⟨h5,g,dr,tk,s1.os⟩:=I1.call (h':=h5) (g':=g) (d':=dr) (t':=tk) (ch:=[]) u5 k5 bare (λb z=>absurd z (by simp))
  refine Jh (s:=⟨h5,g,dr,tk,s1.os⟩) I5 hN hi (.inl wD) (show RelV (.ref x) (.ref x) from rfl) (λs6 I6 _=>?_) (.inr wD)
  refine wpAny_mono (hs x a7 s6 _ _ _ (I6.inX x) (ml x hx2)) (λfl s7 h7=>?_) λe' s7 h7=>?_
  ·cases fl with
   | next=>obtain⟨σ',H',J,qq⟩:=h7;exact name_goes (J.YC I1.ok) hN hi wD λs8 J8=>⟨_,_,J8,qq⟩
   | brk=>obtain⟨σ',H',J,qq⟩:=h7;exact name_goes (J.YC I1.ok) hN hi wD λs8 J8=>⟨_,_,J8,qq⟩
   | cont=>obtain⟨σ',H',J,qq⟩:=h7;exact name_goes (J.YC I1.ok) hN hi wD λs8 J8=>⟨_,_,J8,qq⟩
   | ret u=>obtain⟨v,σ',H',J,rv,qq⟩:=h7;exact name_goes (J.YC I1.ok) hN hi wD λs8 J8=>⟨_,_,_,J8,rv,qq⟩
  ·have GS:X.xe e' s7:=h7
   rw[B5] at GS
   exact GS.elim
end
theorem Bk {X:Cx} {K:W.Frag} (hK:X.K=K):Fx X (.builtin "isinstance") (λxs H Q=>∃ x C fs c cv b,xs=[V.ref x,c]/\Hi H x C fs/\Iz K C/\cU c=some cv/\W.kitOne K (.ref C) cv=some b/\Q (.bl b) H):=by
 rw[<-hK]
 exact Qf
end L2
namespace Og
open PySem L2 PyProof.Rows
theorem cP:∀ n<26,letters.cps.toList[n]? = some (97+n):=by decide +kernel
theorem RQ {i:Int} (h0:0<=i) (h1:i<26):QX letters.cps.toList i=some (97+i.toNat):=by
 have h:=Aq (cP i.toNat (by omega))
 have e:((i.toNat:Nat):Int)=i:=by omega
 rw[e] at h
 exact h
theorem Xm:(("" : Str)).cps = #[]:=by decide +kernel
variable {K:W.Frag}
structure Sx (K:W.Frag) (aB aP aM:Addr):Prop where
 f:KF K aB aP aM
 pR:∃ a,W.nsIn K aP "rank" = some (some (.ref a))/\KTup K a (["new","pipes","wind"].map λs:String=>V.str s)
 pL:∃ a,W.nsIn K aP "line" = some (some (.ref a))/\KTup K a (["rank","shift","low","high"].map λs:String=>V.str s)
 bP:∃ a,W.nsIn K aB "pipes" = some (some (.ref a))/\KTup K a [.int 1,.int 97]
 bW:∃ a,W.nsIn K aB "wind" = some (some (.ref a))/\KTup K a [.int 0,.int 1000000000]
 bS:∃ a,W.nsIn K aB "shift" = some (some (.ref a))/\KTup K a [.int (-200),.int 200]
 bLo:∃ a,W.nsIn K aB "low" = some (some (.ref a))/\KTup K a [.int 0,.int 60]
 bHi:∃ a,W.nsIn K aB "high" = some (some (.ref a))/\KTup K a [.int 0,.int 60]
 bR:W.nsIn K aB "rank" = some none
 mR:∃ t,W.nsIn K aM "rank" = some (some (.int 12 t))
 mL:W.nsIn K aM "line" = some none
section
variable {aB aP aM:Addr} {ρ:V->R} {vs:List V} {wn:List (Str × Str)} {t:Str}
theorem SJ {r:R} (h:MN K aB aP aM ρ vs r) (hb:Df ρ vs):HX K aB aP aM ρ vs r:=⟨h.ns,h.parts,.inr h.room,λz=>absurd z h.nl,hb⟩
theorem Uj (F:KF K aB aP aM) {wd:Str} (hw:wd = "stop" \/ wd = "mute") (e:Hn ρ vs=wn) (ht:isNm t) (h:∀ w∈named,Te wn w t=false) (hc:Vk wn wd<SM wd) {a:Str} (ha:isNm a) (tj:Te wn "board" a=true):MN K aB aP aM ρ vs ⟨wd,t,[.str a]⟩:=by
 have parts:∀ (j:Nat) x (y:Str),[V.str t,.str a][j]? = some x->(["new","board"]:List Str)[j]? = some y->EY K aB ρ vs x y:=λj x y hx hy=>by
  match j,hx,hy with
  | 0,hx,hy =>
   cases (Option.some.inj hx)
   cases (Option.some.inj hy)
   exact Jd F e ht h
  | 1,hx,hy =>
   cases (Option.some.inj hx)
   cases (Option.some.inj hy)
   exact Io F e ha tj
  | j+2,hx,hy=>simp at hy
 have hcnt:=Ir ρ vs wd
 rw[e] at hcnt
 rcases hw with rfl | rfl
 ·obtain⟨ap,g1,g2⟩:=F.pS
  obtain⟨tk,g5⟩:=F.mS
  have hm:SM "stop" = 24:=by decide +kernel
  refine⟨by show ¬ ("stop" : Str) = "step";decide +kernel,by show ¬ ("stop" : Str) = "line";decide +kernel,⟨ap,["new","board"],g1,g2,rfl,by decide,parts⟩,⟨24,tk,g5,?_⟩⟩
  show (((vs.filter (pw ρ "stop")).length:Nat):Int)<24
  omega
 ·obtain⟨ap,g1,g2⟩:=F.pM
  obtain⟨tk,g5⟩:=F.mM
  have hm:SM "mute" = 5:=by decide +kernel
  refine⟨by show ¬ ("mute" : Str) = "step";decide +kernel,by show ¬ ("mute" : Str) = "line";decide +kernel,⟨ap,["new","board"],g1,g2,rfl,by decide,parts⟩,⟨5,tk,g5,?_⟩⟩
  show (((vs.filter (pw ρ "mute")).length:Nat):Int)<5
  omega
theorem Uo (F:Sx K aB aP aM) (e:Hn ρ vs=wn) (ht:isNm t) (h:∀ w∈named,Te wn w t=false) (hc:Vk wn "rank" < 12) {n:Nat} {wi:Int} (h1:1<=n) (h2:n<=97) (h3:0<=wi) (h4:wi<=1000000000) (hb:Df ρ vs):HX K aB aP aM ρ vs (HJ (t,n,wi)):=by
 obtain⟨ap,g1,g2⟩:=F.pR
 obtain⟨ab,g3,g4⟩:=F.bP
 obtain⟨aw,g6,g7⟩:=F.bW
 obtain⟨tk,g5⟩:=F.mR
 refine⟨by show ¬ ("rank" : Str) = "step";decide +kernel,⟨ap,["new","pipes","wind"],g1,g2,rfl,by decide,λj x y hx hy=>?_⟩,.inr ⟨12,tk,g5,?_⟩,λz=>absurd z (by show ¬ ("rank" : Str) = "line";decide +kernel),hb⟩
 ·match j,hx,hy with
  | 0,hx,hy =>
   cases (Option.some.inj hx)
   cases (Option.some.inj hy)
   exact Jd F.f e ht h
  | 1,hx,hy =>
   cases (Option.some.inj hx)
   cases (Option.some.inj hy)
   exact .inl ⟨((n:Nat):Int),1,97,ab,rfl,g3,g4,by omega,by omega⟩
  | 2,hx,hy =>
   cases (Option.some.inj hx)
   cases (Option.some.inj hy)
   exact .inl ⟨_,0,1000000000,aw,rfl,g6,g7,h3,h4⟩
  | j+3,hx,hy=>simp at hy
 ·rw[Ir,e]
  show ((Vk wn "rank" : Nat):Int)<12
  omega
theorem Tq (F:Sx K aB aP aM) (e:Hn ρ vs=wn) (ht:isNm t) (h:Te wn "rank" t=true) {sh lo hi:Int} (b1 : -200<=sh) (b2:sh<=200) (b3:0<=lo) (b4:lo<=60) (b5:0<=hi) (b6:hi<=60) (hb:Df ρ vs) (hl:Ny ρ vs ⟨"line",t,[.int sh,.int lo,.int hi]⟩):HX K aB aP aM ρ vs ⟨"line",t,[.int sh,.int lo,.int hi]⟩:=by
 obtain⟨ap,g1,g2⟩:=F.pL
 obtain⟨a1,g3,g4⟩:=F.bS
 obtain⟨a2,g5,g6⟩:=F.bLo
 obtain⟨a3,g7,g8⟩:=F.bHi
 refine⟨by show ¬ ("line" : Str) = "step";decide +kernel,⟨ap,["rank","shift","low","high"],g1,g2,rfl,by decide,λj x y hx hy=>?_⟩,.inl ⟨rfl,F.mL⟩,λ_=>hl,hb⟩
 match j,hx,hy with
 | 0,hx,hy =>
  cases (Option.some.inj hx)
  cases (Option.some.inj hy)
  exact .inr (.inr ⟨F.bR,by decide +kernel,_,rfl,ht,by rw[Jp,e];exact h⟩)
 | 1,hx,hy =>
  cases (Option.some.inj hx)
  cases (Option.some.inj hy)
  exact .inl ⟨_,-200,200,a1,rfl,g3,g4,b1,b2⟩
 | 2,hx,hy =>
  cases (Option.some.inj hx)
  cases (Option.some.inj hy)
  exact .inl ⟨_,0,60,a2,rfl,g5,g6,b3,b4⟩
 | 3,hx,hy =>
  cases (Option.some.inj hx)
  cases (Option.some.inj hy)
  exact .inl ⟨_,0,60,a3,rfl,g7,g8,b5,b6⟩
 | j+4,hx,hy=>simp at hy
end
structure uG (K:W.Frag) (aB aP aM:Addr) (ρ:V->R) (us:List V) (bs:List (Str × Nat)) (rk:List (Str × Nat × Int)) (ks:List R):Prop where
 kinds:∀ v∈us,(ρ v).w = "board" \/ (ρ v).w = "rank" \/ (ρ v).w = "line" \/ (ρ v).w = "stop" \/ (ρ v).w = "coupler" \/ (ρ v).w = "mute"
 eb:(us.filter (pw ρ "board")).map ρ=bs.map G5
 er:(us.filter (pw ρ "rank")).map ρ=rk.map HJ
 ek:(us.filter (λv=>Ig (ρ v).w)).map ρ=ks
 ln:∀ (i:Nat) v,us[i]? = some v->(ρ v).w = "line"->(∃ (j:Nat) (r:Str × Nat × Int) (sh lo hi:Int),rk[j]? = some r/\r.1=(ρ v).nm/\(ρ v).rest=[.int sh,.int lo,.int hi])/\∃ u∈us.take i,Ig (ρ u).w=true
 ok:∀ (i:Nat) v,us[i]? = some v->HX K aB aP aM ρ (us.take i) (ρ v)
section
variable {aB aP aM:Addr} {ρ:V->R} {us:List V} {v:V} {bs AW:List (Str × Nat)} {rk wq:List (Str × Nat × Int)} {ks DM:List R}
theorem KN {w t:Str}:Mp ρ us w t=true ↔ ∃ v∈us,(ρ v).w=w/\(ρ v).nm=t:=by
 unfold Mp
 rw[gi]
 constructor
 ·rintro⟨v,hv,hn⟩
  obtain⟨h1,h2⟩:=cq.mp hv
  exact⟨v,h1,V.str.inj (of_decide_eq_true h2),V.str.inj (of_decide_eq_true hn)⟩
 ·rintro⟨v,hv,h1,h2⟩
  exact⟨v,cq.mpr ⟨hv,decide_eq_true (congrArg V.str h1)⟩,decide_eq_true (congrArg V.str h2)⟩
theorem Kg {w:Str} (h:w = "stop" \/ w = "coupler" \/ w = "mute"):Ig w=true:=by rcases h with rfl | rfl | rfl <;> decide +kernel
theorem K3 {p:V->Bool} (h:p v=true):(us++[v]).filter p=us.filter p++[v]:=by
 rw[hG,dS,if_pos h]
 rfl
theorem D_ {p:V->Bool} (h:p v=false):(us++[v]).filter p=us.filter p:=by
 rw[hG,dS,if_neg (by rw[h];decide)]
 simp
end
structure uM (K:W.Frag) (aB aP aM:Addr) (rows:List R) (bs:List (Str × Nat)) (rk:List (Str × Nat × Int)) (ks:List R) (ls:List (List Ln)):Prop where
 ok:∀ (ρ:V->R) (us:List V),us.map ρ=rows->uG K aB aP aM ρ us bs rk ks
 ln0:ks=[]->∀ wq,linesOf wq rows=[]
 ln:linesOf rk rows=ls
section
variable {aB aP aM:Addr} {rows:List R} {bs:List (Str × Nat)} {rk:List (Str × Nat × Int)} {ks:List R} {ls:List (List Ln)}
theorem JP {ρ:V->R} {us:List V} {r:R} (e:us.map ρ=rows++[r]):∃ mx v,us=mx++[v]/\mx.map ρ=rows/\ρ v=r:=by
 obtain⟨a,b,rfl,h1,h2⟩:=List.map_eq_append_iff.mp e
 obtain⟨v,l,rfl,h3,h4⟩:=List.map_eq_cons_iff.mp h2
 rw[kq.mp h4]
 exact⟨a,v,rfl,h1,h3⟩
noncomputable def Tl (rows:List R) (bd:Str) (cnt:Nat):Prop:=∃ (r0:List R) (st:R) (lr:List R),rows=r0++st::lr/\st.w = "stop" /\ st.rest=[.str bd]/\lr.length=cnt/\∀ r∈lr,r.w = "line"
theorem Tl.stop (rows:List R) (t bd:Str):Tl (rows++[⟨"stop",t,[.str bd]⟩]) bd 0:=⟨rows,_,[],rfl,rfl,rfl,rfl,λ_ h=>nomatch h⟩
theorem Tl.line {bd:Str} {cnt:Nat} {r:R} (h:Tl rows bd cnt) (hw:r.w = "line"):Tl (rows++[r]) bd (cnt+1):=by
 obtain⟨r0,st,lr,rfl,h1,h2,h3,h4⟩:=h
 refine⟨r0,st,lr++[r],by simp,h1,h2,by simp[h3],λx hx=>?_⟩
 rcases ba.mp hx with g | g
 ·exact h4 x g
 ·rw[ax.mp g]
  exact hw
end
variable {K:W.Frag}
structure Iw (K:W.Frag) (aB aP aM:Addr) (ρ:V->R) (us:List V) (bs:List (Str × Nat)) (rk:List (Str × Nat × Int)) (ks:List R):Prop where
 eb:(us.filter (pw ρ "board")).map ρ=bs.map G5
 er:(us.filter (pw ρ "rank")).map ρ=rk.map HJ
 ek:(us.filter (λv=>Ig (ρ v).w)).map ρ=ks
 ln:∀ (i:Nat) v,us[i]? = some v->(ρ v).w = "line"->(∃ (j:Nat) (r:Str × Nat × Int) (sh lo hi:Int),rk[j]? = some r/\r.1=(ρ v).nm/\(ρ v).rest=[.int sh,.int lo,.int hi])/\∃ u∈us.take i,Ig (ρ u).w=true
 ok:∀ (i:Nat) v,us[i]? = some v->Ea K aB aP aM ρ (us.take i) (ρ v)
section
variable {aB aP aM:Addr} {ρ:V->R} {us:List V} {v:V} {bs AW:List (Str × Nat)} {rk wq:List (Str × Nat × Int)} {ks DM:List R}
theorem Iw.nil:Iw K aB aP aM ρ [] [] [] []:=⟨rfl,rfl,rfl,(λi v h=>by simp at h),(λi v h=>by simp at h)⟩
theorem Iw.ZD (h:Iw K aB aP aM ρ us bs rk ks) (hv:v∈us) (hw:(ρ v).w = "board"):∃ b∈bs,G5 b=ρ v:=by
 have:ρ v∈(us.filter (pw ρ "board")).map ρ:=cf (cq.mpr ⟨hv,decide_eq_true (congrArg V.str hw)⟩)
 rw[h.eb] at this
 exact ay.mp this
theorem Iw.jU (h:Iw K aB aP aM ρ us bs rk ks) (hv:v∈us) (hw:(ρ v).w = "rank"):∃ b∈rk,HJ b=ρ v:=by
 have:ρ v∈(us.filter (pw ρ "rank")).map ρ:=cf (cq.mpr ⟨hv,decide_eq_true (congrArg V.str hw)⟩)
 rw[h.er] at this
 exact ay.mp this
theorem Iw.Wn (h:Iw K aB aP aM ρ us bs rk ks) (hv:v∈us) (hw:Ig (ρ v).w=true):ρ v∈ks:=by
 have:ρ v∈(us.filter (λv=>Ig (ρ v).w)).map ρ:=cf (cq.mpr ⟨hv,hw⟩)
 rw[h.ek] at this
 exact this
theorem Iw.YX (h:Iw K aB aP aM ρ us bs rk ks):Df ρ us:=λv hv hw=>by
 obtain⟨b,_,e⟩:=h.ZD hv hw
 exact⟨_,by rw[<-e]⟩
theorem Iw.Zn (h:Iw K aB aP aM ρ us bs rk ks) {b:Str × Nat} (hb:b∈bs):∃ v∈us,ρ v=G5 b:=by
 have:G5 b∈(us.filter (pw ρ "board")).map ρ:=by rw[h.eb];exact cf hb
 obtain⟨v,hv,e⟩:=ay.mp this
 exact⟨v,(cq.mp hv).1,e⟩
theorem Iw.jj (h:Iw K aB aP aM ρ us bs rk ks) {r:Str × Nat × Int} (hr:r∈rk):∃ v∈us,ρ v=HJ r:=by
 have:HJ r∈(us.filter (pw ρ "rank")).map ρ:=by rw[h.er];exact cf hr
 obtain⟨v,hv,e⟩:=ay.mp this
 exact⟨v,(cq.mp hv).1,e⟩
theorem Iw.Qd (h:Iw K aB aP aM ρ us bs rk ks) {b:Str × Nat} (hb:b∈bs):Te (Hn ρ us) "board" b.1=true:=by
 obtain⟨v,hv,e⟩:=h.Zn hb
 rw[<-Jp,KN]
 exact⟨v,hv,by rw[e],by rw[e]⟩
theorem Iw.Zy (h:Iw K aB aP aM ρ us bs rk ks) {r:Str × Nat × Int} (hr:r∈rk):Te (Hn ρ us) "rank" r.1=true:=by
 obtain⟨v,hv,e⟩:=h.jj hr
 rw[<-Jp,KN]
 exact⟨v,hv,by rw[e],by rw[e]⟩
theorem Iw.fresh (h:Iw K aB aP aM ρ us bs rk ks) {t:Str} (hb:∀ b∈bs,b.1 ≠ t) (hr:∀ r∈rk,r.1 ≠ t) (hk:∀ k∈ks,k.nm ≠ t):∀ w∈named,Te (Hn ρ us) w t=false:=by
 intro w hw
 rw[<-Jp,<-fF,KN]
 rintro⟨v,hv,uT,hn⟩
 simp only[List.mem_cons,List.mem_singleton,List.not_mem_nil,or_false] at hw
 rcases hw with rfl | rfl | rfl | rfl | rfl
 ·obtain⟨b,ng,e⟩:=h.ZD hv uT
  exact hb b ng (by rw[<-hn,<-e])
 ·obtain⟨b,ng,e⟩:=h.jU hv uT
  exact hr b ng (by rw[<-hn,<-e])
 ·exact hk _ (h.Wn hv (Kg (.inl uT))) hn
 ·exact hk _ (h.Wn hv (Kg (.inr (.inl uT)))) hn
 ·exact hk _ (h.Wn hv (Kg (.inr (.inr uT)))) hn
theorem Iw.jG (h:Iw K aB aP aM ρ us bs rk ks):Vk (Hn ρ us) "board" = bs.length:=by
 rw[<-Ir,<-ae (f:=ρ),h.eb,ae]
theorem Iw.km (h:Iw K aB aP aM ρ us bs rk ks):Vk (Hn ρ us) "rank" = rk.length:=by
 rw[<-Ir,<-ae (f:=ρ),h.er,ae]
theorem Iw.Zc (h:Iw K aB aP aM ρ us bs rk ks) {w:Str} (hw:w = "stop" \/ w = "coupler" \/ w = "mute"):Vk (Hn ρ us) w=(ks.filter λr=>decide (V.str r.w=V.str w)).length:=by
 rw[<-Ir,<-h.ek,ff,ae,List.filter_filter]
 refine congrArg List.length (List.filter_congr λv _=>?_)
 show pw ρ w v=(pw ρ w v && Ig (ρ v).w)
 by_cases e:(ρ v).w=w
 ·rw[Kg (by rw[e];exact hw),Bool.and_true]
 ·have:pw ρ w v=false:=decide_eq_false λz=>e (V.str.inj z)
  rw[this,dQ]
theorem Iw.snoc (h:Iw K aB aP aM ρ us bs rk ks)
  (eb:((us++[v]).filter (pw ρ "board")).map ρ=AW.map G5) (er:((us++[v]).filter (pw ρ "rank")).map ρ=wq.map HJ) (ek:((us++[v]).filter (λv=>Ig (ρ v).w)).map ρ=DM)
  (hr:∀ (j:Nat) r,rk[j]? = some r->wq[j]? = some r)
  (hl:(ρ v).w = "line"->(∃ (j:Nat) (r:Str × Nat × Int) (sh lo hi:Int),wq[j]? = some r/\r.1=(ρ v).nm/\(ρ v).rest=[.int sh,.int lo,.int hi])/\∃ u∈us,Ig (ρ u).w=true)
  (ok:Ea K aB aP aM ρ us (ρ v)):Iw K aB aP aM ρ (us++[v]) AW wq DM:=by
 have at_:∀ {i:Nat} {u:V},(us++[v])[i]? = some u->us[i]? = some u/\(us++[v]).take i=us.take i \/ u=v/\(us++[v]).take i=us:=λ{i u} hi=>by
  by_cases hlt:i<us.length
  ·rw[fv hlt] at hi
   exact .inl ⟨hi,fI (fw hlt)⟩
  ·have h2:=(ai.mp hi).1
   rw[aE,bv] at h2
   have hil:i=us.length:=by omega
   subst hil
   rw[dt (ar _),ja] at hi
   exact .inr ⟨(Option.some.inj hi).symm,by rw[fI (ar _),gg]⟩
 refine⟨eb,er,ek,λi u hi hw=>?_,λi u hi=>?_⟩
 ·rcases at_ hi with⟨h1,h2⟩ | ⟨rfl,h2⟩
  ·rw[h2]
   obtain⟨⟨j,r,sh,lo,hi',g1,g2,g3⟩,g4⟩:=h.ln i u h1 hw
   exact⟨⟨j,r,sh,lo,hi',hr j r g1,g2,g3⟩,g4⟩
  ·rw[h2]
   exact hl hw
 ·rcases at_ hi with⟨h1,h2⟩ | ⟨rfl,h2⟩
  ·rw[h2]
   exact h.ok i u h1
  ·rw[h2]
   exact ok
end
theorem RN {rk:List (Str × Nat × Int)} {x:Str × Nat × Int}:∀ {rows:List R},(∀ r∈rows,r.w = "line"->r.nm∈rk.map (·.1))->linesOf (rk++[x]) rows=linesOf rk rows:=by
 have key:∀ (rows:List R),(∀ r∈rows,r.w = "line"->r.nm∈rk.map (·.1))->∀ d6,rows.foldl (Do (rk++[x])) d6=rows.foldl (Do rk) d6:=by
  intro rows
  induction rows with
  | nil=>intro _ _;rfl
  | cons r rs ih =>
   intro h d6
   have e:Do (rk++[x]) d6 r=Do rk d6 r:=by
    unfold Do
    by_cases h1:Ig r.w=true
    ·rw[if_pos h1,if_pos h1]
    ·rw[if_neg h1,if_neg h1]
     by_cases h2:r.w = "line"
     ·rw[if_pos h2,if_pos h2]
      have hm:=h r (av ..) h2
      have:lnOf (rk++[x]) r=lnOf rk r:=by
       unfold lnOf
       rw[ce,List.idxOf_append,if_pos hm]
      rw[this]
     ·rw[if_neg h2,if_neg h2]
   show rs.foldl _ (Do (rk++[x]) d6 r)=rs.foldl _ (Do rk d6 r)
   rw[e]
   exact ih (λr hr=>h r (aI _ hr)) _
 exact λ{rows} h=>key rows h []
theorem Vu {ks:List R} {k r:R} (h:∀ t∈NP r,t∈ks.map (·.nm)):stN (ks++[k]) r=stN ks r:=by
 unfold stN
 refine congrArg Wd.mk (fi λt ht=>?_)
 rw[ce,List.idxOf_append,if_pos (h t ht)]
noncomputable abbrev X3 (r:R):Bool:=decide (V.str r.w=V.str "step")
noncomputable def jC (w:Str):Prop:=w = "board" \/ w = "rank" \/ w = "stop" \/ w = "coupler" \/ w = "mute" \/ w = "line" \/ w = "step"
structure HY (K:W.Frag) (aB aP aM:Addr) (rows:List R) (bs:List (Str × Nat)) (rk:List (Str × Nat × Int)) (ks:List R) (ls:List (List Ln)) (f':List Nat):Prop where
 ok:∀ (ρ:V->R) (us:List V),us.map ρ=rows->Iw K aB aP aM ρ us bs rk ks
 ln:linesOf rk rows=ls
 st:(rows.filter X3).map (stN ks)=f'
 lm:∀ r∈rows,r.w = "line"->r.nm∈rk.map (·.1)
 sm:∀ r∈rows,r.w = "step"->∃ ts:List Str,V.str r.nm::r.rest=ts.map V.str/\ts.length<=24/\∀ t∈ts,t∈ks.map (·.nm)
 wd:∀ r∈rows,jC r.w
 pk:∀ r∈rows,(∀ i:Int,V.int i∈r.rest->i.natAbs<10 ^ 12)/\r.rest.length<=24
section
variable {aB aP aM:Addr} {rows:List R} {bs:List (Str × Nat)} {rk:List (Str × Nat × Int)} {ks:List R} {ls:List (List Ln)} {f':List Nat}
theorem HY.nil:HY K aB aP aM [] [] [] [] [] []:=⟨λρ us e=>by rw[kq.mp e];exact Iw.nil,rfl,rfl,(λ_ z=>nomatch z),(λ_ z=>nomatch z),(λ_ z=>nomatch z),(λ_ z=>nomatch z)⟩
theorem Sd {r:R} (h:r.w ≠ "step"):(rows++[r]).filter X3=rows.filter X3:=by
 rw[hG,dS,if_neg (by intro z;exact h (V.str.inj (of_decide_eq_true z)))]
 simp
theorem Ge {r:R} {Q:R->Prop} (h:∀ r∈rows,Q r) (hr:Q r):∀ x∈rows++[r],Q x:=λx hx=>by
 rcases ba.mp hx with z | z
 ·exact h x z
 ·rw[ax.mp z]
  exact hr
theorem HY.W8 (F:Sx K aB aP aM) (h:HY K aB aP aM rows bs rk ks ls f') {t:Str} {n:Nat} (ht:isNm t) (hf:∀ b∈bs,b.1 ≠ t) (hr:∀ r∈rk,r.1 ≠ t) (hk:∀ k∈ks,k.nm ≠ t) (hb:bs.length<5) (h1:1<=n) (h2:n<=61):HY K aB aP aM (rows++[G5 (t,n)]) (bs++[(t,n)]) rk ks ls f':=by
 refine⟨λρ us e=>?_,?_,?_,Ge h.lm (λz=>absurd z (by show ¬ ("board" : Str) = "line";decide +kernel)),Ge h.sm (λz=>absurd z (by show ¬ ("board" : Str) = "step";decide +kernel)),Ge h.wd (.inl rfl),Ge h.pk ⟨(λi hi=>by simp only[G5,List.mem_cons,List.not_mem_nil,or_false,V.int.injEq,reduceCtorEq,false_or] at hi;omega),by show 1<=24;decide⟩⟩
 ·obtain⟨mx,v,rfl,e',hv⟩:=JP e
  have O:=h.ok ρ mx e'
  refine O.snoc ?_ ?_ ?_ (λ_ _ h=>h) (λz=>absurd (hv ▸ z) (by show ¬ ("board" : Str) = "line";decide +kernel)) ?_
  ·rw[K3 (by unfold pw;rw[hv];exact decide_eq_true rfl),List.map_append,O.eb,List.map_append,List.map_singleton,hv]
   rfl
  ·rw[D_ (by unfold pw;rw[hv];show decide (V.str "board" = V.str "rank")=false;decide +kernel),O.er]
  ·rw[D_ (by rw[hv];show Ig "board" = false;decide +kernel),O.ek]
  ·rw[hv]
   exact .inl (SJ (Uk F.f rfl ht (O.fresh hf hr hk) (by rw[O.jG];exact hb) h1 h2) O.YX)
 ·rw[DK,h.ln]
  rfl
 ·rw[Sd (by show ¬ ("board" : Str) = "step";decide +kernel)]
  exact h.st
theorem HY.rank (F:Sx K aB aP aM) (h:HY K aB aP aM rows bs rk ks ls f') {t:Str} {n:Nat} {wi:Int} (ht:isNm t) (hf:∀ b∈bs,b.1 ≠ t) (hr:∀ r∈rk,r.1 ≠ t) (hk:∀ k∈ks,k.nm ≠ t) (hc:rk.length<12) (h1:1<=n) (h2:n<=97) (h3:0<=wi) (h4:wi<=1000000000):HY K aB aP aM (rows++[HJ (t,n,wi)]) bs (rk++[(t,n,wi)]) ks ls f':=by
 have lm':∀ r∈rows,r.w = "line"->r.nm∈(rk++[(t,n,wi)]).map (·.1):=λr hr z=>by
  rw[ce]
  exact cr _ (h.lm r hr z)
 refine⟨λρ us e=>?_,?_,?_,Ge lm' (λz=>absurd z (by show ¬ ("rank" : Str) = "line";decide +kernel)),Ge h.sm (λz=>absurd z (by show ¬ ("rank" : Str) = "step";decide +kernel)),Ge h.wd (.inr (.inl rfl)),Ge h.pk ⟨(λi hi=>by simp only[HJ,List.mem_cons,List.not_mem_nil,or_false,V.int.injEq,reduceCtorEq,false_or] at hi;omega),by show 2<=24;decide⟩⟩
 ·obtain⟨mx,v,rfl,e',hv⟩:=JP e
  have O:=h.ok ρ mx e'
  refine O.snoc ?_ ?_ ?_ (λj r h=>by rw[List.getElem?_append_left (List.getElem?_eq_some_iff.mp h).1];exact h) (λz=>absurd (hv ▸ z) (by show ¬ ("rank" : Str) = "line";decide +kernel)) ?_
  ·rw[D_ (by unfold pw;rw[hv];show decide (V.str "rank" = V.str "board")=false;decide +kernel),O.eb]
  ·rw[K3 (by unfold pw;rw[hv];exact decide_eq_true rfl),List.map_append,O.er,List.map_append,List.map_singleton,hv]
   rfl
  ·rw[D_ (by rw[hv];show Ig "rank" = false;decide +kernel),O.ek]
  ·rw[hv]
   exact .inl (Uo F rfl ht (O.fresh hf hr hk) (by rw[O.km];exact hc) h1 h2 h3 h4 O.YX)
 ·rw[DK,RN h.lm,h.ln]
  rfl
 ·rw[Sd (by show ¬ ("rank" : Str) = "step";decide +kernel)]
  exact h.st
theorem HY.Zu (h:HY K aB aP aM rows bs rk ks ls f') {r:R} (hw:r.w = "stop" \/ r.w = "coupler" \/ r.w = "mute") (hpk:(∀ i:Int,V.int i∈r.rest->i.natAbs<10 ^ 12)/\r.rest.length<=24) (hr:∀ (ρ:V->R) (us:List V),us.map ρ=rows->MN K aB aP aM ρ us r):HY K aB aP aM (rows++[r]) bs rk (ks++[r]) (ls++[[]]) f':=by
 have hK:=Kg hw
 have sm':∀ r'∈rows,r'.w = "step"->∃ ts:List Str,V.str r'.nm::r'.rest=ts.map V.str/\ts.length<=24/\∀ t∈ts,t∈(ks++[r]).map (·.nm):=λr' hr' z=>by
  obtain⟨ts,g1,g2,g3⟩:=h.sm r' hr' z
  exact⟨ts,g1,g2,λt ht=>by rw[ce];exact cr _ (g3 t ht)⟩
 refine⟨λρ us e=>?_,?_,?_,Ge h.lm (λz=>?_),Ge sm' (λz=>?_),Ge h.wd (hw.elim (λz=>.inr (.inr (.inl z))) (λz=>z.elim (λz=>.inr (.inr (.inr (.inl z)))) (λz=>.inr (.inr (.inr (.inr (.inl z))))))),Ge h.pk hpk⟩
 ·obtain⟨mx,v,rfl,e',hv⟩:=JP e
  have O:=h.ok ρ mx e'
  refine O.snoc ?_ ?_ ?_ (λ_ _ h=>h) (λz=>?_) ?_
  ·rw[D_ (by unfold pw;rw[hv];rcases hw with e | e | e <;> rw[e] <;> decide +kernel),O.eb]
  ·rw[D_ (by unfold pw;rw[hv];rcases hw with e | e | e <;> rw[e] <;> decide +kernel),O.er]
  ·rw[K3 (by rw[hv];exact hK),ce,O.ek,List.map_singleton,hv]
  ·rw[hv] at z
   rcases hw with e | e | e <;> rw[e] at z <;> exact absurd z (by decide +kernel)
  ·rw[hv]
   exact .inl (SJ (hr ρ mx e') O.YX)
 ·rw[DK,h.ln]
  unfold Do
  rw[if_pos hK]
 ·rw[Sd (by rcases hw with e | e | e <;> rw[e] <;> decide +kernel),<-h.st]
  refine fi λr' hr'=>Vu λt ht=>?_
  obtain⟨g1,g2⟩:=cq.mp hr'
  obtain⟨ts,g3,_,g5⟩:=h.sm r' g1 (V.str.inj (of_decide_eq_true g2))
  rw[Ju g3] at ht
  exact g5 t ht
 ·rcases hw with e | e | e <;> rw[e] at z <;> exact absurd z (by decide +kernel)
 ·rcases hw with e | e | e <;> rw[e] at z <;> exact absurd z (by decide +kernel)
theorem HY.SQ (F:Sx K aB aP aM) (h:HY K aB aP aM rows bs rk ks ls f') {t a b:Str} {n m:Nat} {s:Int} (ht:isNm t) (hb:∀ b∈bs,b.1 ≠ t) (hr:∀ r∈rk,r.1 ≠ t) (hk:∀ k∈ks,k.nm ≠ t) (hc:(ks.filter λr=>decide (V.str r.w=V.str "coupler")).length<12) (ha:isNm a) (tj:(a,n)∈bs) (hb1:isNm b) (ng:(b,m)∈bs) (h1 : -60<=s) (h2:s<=60) :
  HY K aB aP aM (rows++[⟨"coupler",t,[.str a,.str b,.int s]⟩]) bs rk (ks++[⟨"coupler",t,[.str a,.str b,.int s]⟩]) (ls++[[]]) f' :=
 h.Zu (.inr (.inl rfl)) ⟨(λi hi=>by simp only[List.mem_cons,List.not_mem_nil,or_false,V.int.injEq,reduceCtorEq,false_or] at hi;omega),by show 3<=24;decide⟩ λρ us e=>by
  have O:=h.ok ρ us e
  exact O3 F.f rfl ht (O.fresh hb hr hk) (by rw[O.Zc (.inr (.inl rfl))];exact hc) ha (O.Qd tj) hb1 (O.Qd ng) h1 h2
theorem HY.plain (F:Sx K aB aP aM) (h:HY K aB aP aM rows bs rk ks ls f') {wd t a:Str} {n:Nat} (hw:wd = "stop" \/ wd = "mute") (ht:isNm t) (hb:∀ b∈bs,b.1 ≠ t) (hr:∀ r∈rk,r.1 ≠ t) (hk:∀ k∈ks,k.nm ≠ t) (hc:(ks.filter λr=>decide (V.str r.w=V.str wd)).length<SM wd) (ha:isNm a) (tj:(a,n)∈bs) :
  HY K aB aP aM (rows++[⟨wd,t,[.str a]⟩]) bs rk (ks++[⟨wd,t,[.str a]⟩]) (ls++[[]]) f':=by
 have hw3:wd = "stop" \/ wd = "coupler" \/ wd = "mute":=by rcases hw with e | e;exact .inl e;exact .inr (.inr e)
 exact h.Zu hw3 ⟨(λi hi=>by rcases List.mem_cons.mp hi with e | e <;> cases e),by show 1<=24;decide⟩ λρ us e=>by
  have O:=h.ok ρ us e
  exact Uj F.f hw rfl ht (O.fresh hb hr hk) (by rw[O.Zc hw3];exact hc) ha (O.Qd tj)
theorem HY.line (F:Sx K aB aP aM) {l0:List Ln} (h:HY K aB aP aM rows bs rk ks (ls++[l0]) f') {bd:Str} {cnt:Nat} (T:Tl rows bd cnt) (hc:cnt<4) {j n m:Nat} {t:Str} {wi sh lo hi:Int} (hj:rk[j]? = some (t,m,wi)) (hnd:(rk.map (·.1)).Nodup) (ht:isNm t) (OP:(bd,n)∈bs) (hle:lo<=hi) (hn:hi<(n:Int)) (b1 : -200<=sh) (b2:sh<=200) (b3:0<=lo) (b6:hi<=60) :
  HY K aB aP aM (rows++[⟨"line",t,[.int sh,.int lo,.int hi]⟩]) bs rk ks (ls++[l0++[⟨j,sh,lo,hi⟩]]) f':=by
 obtain⟨r0,st,lr,er,g1,g2,g3,g4⟩:=T
 have nK:Ig "line" = false:=by decide +kernel
 refine⟨λρ us e=>?_,?_,?_,Ge h.lm (λ_=>List.mem_map.mpr ⟨_,List.mem_of_getElem? hj,rfl⟩),Ge h.sm (λz=>absurd z (by show ¬ ("line" : Str) = "step";decide +kernel)),Ge h.wd (.inr (.inr (.inr (.inr (.inr (.inl rfl)))))),Ge h.pk ⟨(λi hi=>by simp only[List.mem_cons,List.not_mem_nil,or_false,V.int.injEq,reduceCtorEq,false_or] at hi;omega),by show 3<=24;decide⟩⟩
 ·obtain⟨mx,v,rfl,e',hv⟩:=JP e
  have O:=h.ok ρ mx e'
  obtain⟨u0,u1,eu,m1,m2⟩:=List.map_eq_append_iff.mp (e'.trans er)
  obtain⟨sv,lv,e1,m3,m4⟩:=List.map_eq_cons_iff.mp m2
  subst e1
  have hsv:sv∈mx:=by rw[eu];simp
  have hlv:lv.length=cnt:=by rw[<-g3,<-m4,ae]
  have hus:mx.length=u0.length+(cnt+1):=by rw[eu,aE,aS,hlv]
  refine O.snoc ?_ ?_ ?_ (λ_ _ h=>h) (λ_=>⟨⟨j,_,sh,lo,hi,hj,by rw[hv],by rw[hv]⟩,sv,hsv,by rw[m3,g1];decide +kernel⟩) ?_
  ·rw[D_ (by unfold pw;rw[hv];show decide (V.str "line" = V.str "board")=false;decide +kernel),O.eb]
  ·rw[D_ (by unfold pw;rw[hv];show decide (V.str "line" = V.str "rank")=false;decide +kernel),O.er]
  ·rw[D_ (by rw[hv];exact nK),O.ek]
  ·rw[hv]
   have hst:mx[mx.length - 1 - cnt]? = some sv:=by
    have:mx.length - 1 - cnt=u0.length:=by omega
    rw[this,eu,dt (ar _),ja]
    rfl
   refine .inl ?_
   refine Tq F rfl ht (O.Zy (al hj)) b1 b2 b3 (by omega) (by omega) b6 O.YX ⟨cnt,sv,sh,lo,hi,bd,[],rfl,⟨λi hi'=>?_,by omega,sv,hst,by rw[m3,g1];decide +kernel⟩,hc,hst,by rw[m3,g1],by rw[m3,g2],hle,?_⟩
   ·have hi2:cnt - 1 - i<lv.length:=by omega
    refine⟨lv[cnt - 1 - i],?_,?_⟩
    ·have:mx.length - 1 - i=u0.length+((cnt - 1 - i)+1):=by omega
     rw[this,eu,dt (Nat.le_add_right _ _),Nat.add_sub_cancel_left,eR]
     exact af hi2
    ·refine g4 _ ?_
     rw[<-m4]
     exact cf (gS hi2)
   ·obtain⟨u,hu,uz⟩:=O.Zn OP
    rw[gi]
    refine⟨u,cq.mpr ⟨hu,?_⟩,?_⟩
    ·unfold pw
     rw[uz]
     exact decide_eq_true rfl
    ·show (pn ρ bd u && decide (hi<bM (ρ u)))=true
     unfold pn
     rw[uz,eI]
     exact⟨decide_eq_true rfl,decide_eq_true hn⟩
 ·rw[DK,h.ln]
  unfold Do
  rw[if_neg (by show ¬ Ig "line" = true;rw[nK];decide),if_pos rfl,Ia]
  have NH:=(ai.mp hj).1
  have:(rk.map (·.1)).idxOf t=j:=by
   have hl:j<(rk.map (·.1)).length:=by rw[ae];exact NH
   have e2:(rk.map (·.1))[j]=t:=by
    rw[gT]
    have:=(ai.mp hj).2
    rw[this]
   rw[<-e2]
   exact hnd.idxOf_getElem j hl
  show ls++[l0++[⟨(rk.map (·.1)).idxOf t,sh,lo,hi⟩]]=_
  rw[this]
 ·rw[Sd (by show ¬ ("line" : Str) = "step";decide +kernel)]
  exact h.st
theorem HY.step (h:HY K aB aP aM rows bs rk ks ls f') (hM:∃ t,W.nsIn K aM "step" = some (some (.int 12 t))) {t0:Str} {ts:List Str} (nd:(t0::ts).Nodup) (rj:(t0::ts).length<=24) (ml:∀ t∈t0::ts,isNm t/\∃ k∈ks,k.w = "stop" /\ k.nm=t) (hc:f'.length<12):HY K aB aP aM (rows++[⟨"step",t0,ts.map V.str⟩]) bs rk ks ls (f'++[Wd.mk ((t0::ts).map λt=>(ks.map (·.nm)).idxOf t)]):=by
 have e0:V.str t0::ts.map V.str=(t0::ts).map V.str:=rfl
 have hin:∀ t∈t0::ts,t∈ks.map (·.nm):=λt ht=>by
  obtain⟨_,k,hk,_,rfl⟩:=ml t ht
  exact cf hk
 refine⟨λρ us e=>?_,?_,?_,Ge h.lm (λz=>absurd z (by show ¬ ("step" : Str) = "line";decide +kernel)),Ge h.sm (λ_=>⟨t0::ts,e0,rj,hin⟩),Ge h.wd (.inr (.inr (.inr (.inr (.inr (.inr rfl)))))),Ge h.pk ⟨(λi hi=>by obtain⟨t,_,e⟩:=List.mem_map.mp hi;cases e),by show (ts.map V.str).length<=24;rw[List.length_map];rw[List.length_cons] at rj;omega⟩⟩
 ·obtain⟨mx,v,rfl,e',hv⟩:=JP e
  have O:=h.ok ρ mx e'
  refine O.snoc ?_ ?_ ?_ (λ_ _ h=>h) (λz=>absurd (hv ▸ z) (by show ¬ ("step" : Str) = "line";decide +kernel)) ?_
  ·rw[D_ (by unfold pw;rw[hv];show decide (V.str "step" = V.str "board")=false;decide +kernel),O.eb]
  ·rw[D_ (by unfold pw;rw[hv];show decide (V.str "step" = V.str "rank")=false;decide +kernel),O.er]
  ·rw[D_ (by rw[hv];show Ig "step" = false;decide +kernel),O.ek]
  ·rw[hv]
   obtain⟨tk,hM⟩:=hM
   refine .inr ⟨rfl,⟨t0::ts,e0,nd,rj,λt ht=>?_⟩,12,tk,hM,?_⟩
   ·obtain⟨g1,k,g2,g3,g4⟩:=ml t ht
    refine⟨g1,KN.mpr ?_⟩
    rw[<-O.ek] at g2
    obtain⟨u,g5,rfl⟩:=ay.mp g2
    exact⟨u,(cq.mp g5).1,g3,g4⟩
   ·have:(mx.filter (pw ρ "step")).length=f'.length:=by
     rw[<-h.st,ae,<-e',ff,ae]
     rfl
    show (((mx.filter (pw ρ "step")).length:Nat):Int)<12
    omega
 ·rw[DK,h.ln]
  rfl
 ·rw[hG,ce,h.st]
  have e1:([(⟨"step",t0,ts.map V.str⟩:R)]).filter X3=[⟨"step",t0,ts.map V.str⟩]:=rfl
  rw[e1]
  show f'++[stN ks _]=_
  unfold stN
  rw[Ju (r:=⟨"step",t0,ts.map V.str⟩) e0]
theorem HY.fin {H:Hp} {vs:List V} (h:HY K aB aP aM rows bs rk ks ls f') (hv:Paired (λ(r:R) v=>TupAt H r.v v) rows vs) (b0:1<=bs.length) (b5:bs.length<=5) (sz:∀ b∈bs,b.2<=61) (nr:rk.length<=12) (nz:∀ r∈rk,r.2.1<=97) (nk:ks.length<=100) (nb:(bs.map (·.1)).Nodup) (nrr:(rk.map (·.1)).Nodup) (nn:(ks.map (·.nm)).Nodup) (len:rows.length<=150) :
  Rows H (Lf H) vs/\mJ K aB aP aM (Lf H) vs bs rk ks/\linesOf rk (vs.map (Lf H))=ls/\((vs.filter (pw (Lf H) "step")).map λv=>stN ks (Lf H v))=f':=by
 have em:=Nv hv
 have O:=h.ok (Lf H) vs em
 have hR:Rows H (Lf H) vs:=λv hv'=>by
  obtain⟨r,_,hr⟩:=Dn hv hv'
  rw[Nx hr]
  exact hr
 refine⟨hR,⟨O.eb,O.er,O.ek,O.ln,λv hv' hw=>?_,b0,b5,sz,nr,nz,nk,nb,nrr,nn,by rw[<-hv.length];exact len,O.ok⟩,by rw[em];exact h.ln,?_⟩
 ·refine h.sm (Lf H v) ?_ hw
  rw[<-em]
  exact cf hv'
 ·rw[<-h.st,<-em,ff,bg]
  rfl
end
noncomputable def Ib (b:Str):Prop:=b.length<=6/\∀ c∈b.cps.toList,97<=c/\c<=122
theorem Ib.nil:Ib "":=⟨by decide,by rw[Xm];exact λ_ h=>nomatch h⟩
theorem Ka (a b:Str):(a++b).cps.toList=a.cps.toList++b.cps.toList:=by
 show (a.cps++b.cps).toList=_
 simp
theorem len_app (a b:Str):(a++b).length=a.length+b.length:=by
 show (a.cps++b.cps).size=a.cps.size+b.cps.size
 simp
noncomputable def Yg (n:Nat):Str:=⟨#[97+n]⟩
theorem KZ (n:Nat):(Yg n).length=1:=rfl
theorem Ib.snoc {b:Str} {n m:Nat} (h:b.length<=m/\∀ c∈b.cps.toList,97<=c/\c<=122) (hn:n<26):(b++Yg n).length<=m+1/\∀ c∈(b++Yg n).cps.toList,97<=c/\c<=122:=by
 refine⟨by rw[len_app,KZ];omega,λc hc=>?_⟩
 rw[Ka] at hc
 rcases ba.mp hc with h' | h'
 ·exact h.2 c h'
 ·have:c=97+n:=by simpa [Yg] using h'
  omega
noncomputable def Ec (b:Str) (k:Nat):Str:=if 26<=k then b++Yg (k % 26)++Yg (k / 26 * 5 % 26) else b++Yg (k % 26)
theorem GR {b:Str} (h:Ib b) (k:Nat):isNm (Ec b k):=by
 have g1:=Ib.snoc h (Nat.mod_lt k (by decide:0<26))
 have g2:=Ib.snoc g1 (Nat.mod_lt (k / 26 * 5) (by decide:0<26))
 unfold Ec
 split
 ·exact⟨by rw[len_app,KZ];omega,by have:=g2.1;omega,g2.2⟩
 ·exact⟨by rw[len_app,KZ];omega,by have:=g1.1;omega,g1.2⟩
theorem NT {b:Str} {k l:Nat} (hk:k<78) (hl:l<78) (h:Ec b k=Ec b l):k=l:=by
 have h1:=congrArg (λs:Str=>s.cps.toList) h
 have h2:∀ k,(Ec b k).cps.toList=b.cps.toList++(if 26<=k then [97+k % 26,97+k / 26 * 5 % 26] else [97+k % 26]):=λk=>by
  unfold Ec
  split
  ·rw[Ka,Ka,dL]
   rfl
  ·rw[Ka]
   rfl
 rw[h2,h2] at h1
 have h3:=gE h1
 by_cases e1:26<=k
 ·by_cases e2:26<=l
  ·rw[if_pos e1,if_pos e2] at h3
   injection h3 with h4 h5
   injection h5 with h6 _
   omega
  ·rw[if_pos e1,if_neg e2] at h3
   injection h3 with h4 h5
   cases h5
 ·by_cases e2:26<=l
  ·rw[if_neg e1,if_pos e2] at h3
   injection h3 with h4 h5
   cases h5
  ·rw[if_neg e1,if_neg e2] at h3
   injection h3 with h4 h5
   omega
open PySem L2
structure MK where
 p:Addr
 r:Addr
 b:Addr
 k:Addr
 n:Addr
 d:Addr
 s:Addr
inductive Dt where
 | stop (b:Nat) (L:Addr)
 | coup (a b:Nat) (s:Int)
 | mute (b:Nat)
noncomputable def Dt.L:Dt->List Addr
 | .stop _ L=>[L]
 | _=>[]
structure Pl where
 rows:List R
 bs:List (Str × Nat)
 rk:List (Str × Nat × Int)
 ks:List R
 ls:List (List Ln)
 ds:List Dt
 ch:List (List Nat)
noncomputable abbrev Pl.Ls (S:Pl):List Addr:=S.ds.flatMap Dt.L
noncomputable def RC (H:Hp) (L:Addr) (l:List Ln):Prop:=∃ ts,H L=some (.lst ts)/\Paired (λ(y:Ln) z=>TupAt H (jM y) z) l ts
noncomputable def Ie (H:Hp) (x:Dt × List Ln) (v:V):Prop:=match x.1 with
 | .stop b L=>TupAt H [.int (b:Nat),.ref L] v/\RC H L x.2
 | .coup a b s=>TupAt H [.int (a:Nat),.int (b:Nat),.int s] v
 | .mute b=>v=.int (b:Nat)
noncomputable abbrev qD (r:Str × Nat × Int):List V:=[.str r.1,.int (r.2.1:Nat),.int r.2.2]
noncomputable abbrev dW (r:R):List V:=[.str r.w,.str r.nm]
structure Bg (H0 H:Hp) (A:MK) (S:Pl) (Cs:List Addr) (lo:V):Prop where
 dp:∃ a8:List (Key × V),H A.p=some (.dK a8)/\a8.length<=7/\Cq a8 (Sum.inr "rows")=some (.ref A.r)/\Cq a8 (Sum.inr "boards")=some (.ref A.b)/\Cq a8 (Sum.inr "ranks")=some (.ref A.k)/\Cq a8 (Sum.inr "knobs")=some (.ref A.n)/\Cq a8 (Sum.inr "details")=some (.ref A.d)/\Cq a8 (Sum.inr "steps")=some (.ref A.s)/\Cq a8 (Sum.inr "lines")=some lo
 nd:(A.r::A.b::A.k::A.n::A.d::A.s::(S.Ls++Cs)).Nodup
 sm:Ak H0 H
 f0:H0 A.p=none
 fr:∀ a∈A.r::A.b::A.k::A.n::A.d::A.s::S.Ls,H0 a=none
 r:∃ vs,H A.r=some (.lst vs)/\Paired (λ(r:R) v=>TupAt H r.v v) S.rows vs
 b:∃ vs,H A.b=some (.lst vs)/\Paired (λb v=>TupAt H (bV b) v) S.bs vs
 k:∃ vs,H A.k=some (.lst vs)/\Paired (λr v=>TupAt H (qD r) v) S.rk vs
 n:∃ vs,H A.n=some (.lst vs)/\Paired (λ(r:R) v=>TupAt H (dW r) v) S.ks vs
 d:∃ vs,H A.d=some (.lst vs)/\S.ds.length=S.ls.length/\Paired (Ie H) (S.ds.zip S.ls) vs
 s:H A.s=some (.lst (Cs.map V.ref))
 c:Paired (λC (l:List Nat)=>H C=some (.lst (l.map λn:Nat=>V.int (n:Int)))) Cs S.ch
section
variable {H0 H H':Hp} {A:MK} {S:Pl} {Cs:List Addr} {lo:V}
theorem RC.mono {L:Addr} {l:List Ln} (s:Ak H H') (h:RC H L l):RC H' L l:=by
 obtain⟨ts,h1,h2⟩:=h
 exact⟨ts,s _ _ h1,Ax s h2⟩
theorem Ie.mono {x:Dt × List Ln} {v:V} (s:Ak H H') (h:Ie H x v):Ie H' x v:=by
 obtain⟨d,l⟩:=x
 cases d with
 | stop b L=>exact⟨h.1.mono s,h.2.mono s⟩
 | coup a b t=>exact TupAt.mono s h
 | mute b=>exact h
theorem RC.put {a L:Addr} {l:List Ln} {xs ys:List V} (h:RC H L l) (ha:H a=some (.lst xs)) (hn:L ≠ a):RC (upd H a (.lst ys)) L l:=by
 obtain⟨ts,h1,h2⟩:=h
 exact⟨ts,by rw[Ao hn];exact h1,BP h2 ha⟩
theorem Ie.put {a:Addr} {x:Dt × List Ln} {v:V} {xs ys:List V} (h:Ie H x v) (ha:H a=some (.lst xs)) (hn:∀ L∈x.1.L,L ≠ a):Ie (upd H a (.lst ys)) x v:=by
 obtain⟨d,l⟩:=x
 cases d with
 | stop b L=>exact⟨h.1.upd ha,h.2.put ha (hn L (ax.mpr rfl))⟩
 | coup a' b t=>exact TupAt.upd h ha
 | mute b=>exact h
theorem Ie.dict {a:Addr} {x:Dt × List Ln} {v:V} {k1 k2:List (Key × V)} (h:Ie H x v) (s:SX a H (upd H a (.dK k2))) (ha:H a=some (.dK k1)):Ie (upd H a (.dK k2)) x v:=by
 have tp:∀ {zs:List V} {y:V},TupAt H zs y->TupAt (upd H a (.dK k2)) zs y:=λ{zs y} h=>by
  obtain⟨T,rfl,e⟩:=h
  exact⟨T,rfl,s _ _ e λz=>by rw[z,ha] at e;cases e⟩
 obtain⟨d,l⟩:=x
 cases d with
 | stop b L =>
  obtain⟨h1,ts,h2,h3⟩:=h
  exact⟨tp h1,ts,s _ _ h2 (λz=>by rw[z,ha] at h2;cases h2),Paired.Gq h3 λ_ _ q=>tp q⟩
 | coup a' b t=>exact tp h
 | mute b=>exact h
theorem Bg.mono (s:Ak H H') (h:Bg H0 H A S Cs lo):Bg H0 H' A S Cs lo:=by
 obtain⟨a8,g1,g2⟩:=h.dp
 obtain⟨v1,r1,r2⟩:=h.r
 obtain⟨v2,b1,b2⟩:=h.b
 obtain⟨v3,k1,k2⟩:=h.k
 obtain⟨v4,n1,n2⟩:=h.n
 obtain⟨v5,d1,d2,d3⟩:=h.d
 exact⟨⟨a8,s _ _ g1,g2⟩,h.nd,h.sm.trans s,h.f0,h.fr,⟨v1,s _ _ r1,Ax s r2⟩,⟨v2,s _ _ b1,Ax s b2⟩,⟨v3,s _ _ k1,Ax s k2⟩,⟨v4,s _ _ n1,Ax s n2⟩,⟨v5,s _ _ d1,d2,Paired.Gq d3 λ_ _ q=>q.mono s⟩,s _ _ h.s,Paired.Gq h.c λ_ _ q=>s _ _ q⟩
theorem Dq {a:Addr} {o:HO} (s:Ak H0 H) (h:H0 a=none):Ak H0 (upd H a o):=λb u e=>by
 rw[Ao (Al e h)]
 exact s _ _ e
theorem JC {a:Addr} {xs ys:List V} {a8:List (Key × V)} {p:Addr} (hp:H p=some (.dK a8)) (ha:H a=some (.lst xs)):upd H a (.lst ys) p=some (.dK a8):=by
 rw[Ao λz=>by rw[z,ha] at hp;cases hp]
 exact hp
theorem a_ {x:Dt × List Ln} (hx:x∈S.ds.zip S.ls) {L:Addr} (hL:L∈x.1.L):L∈S.Ls:=kQ.mpr ⟨x.1,(hV hx).1,hL⟩
theorem G9 {α β:Type} {F:α->β->Prop}:∀ {l:List α} {z:α} {vs:List β},Paired F (l++[z]) vs->∃ us u,vs=us++[u]/\Paired F l us/\F z u
 | [],z,_,h=>by
  cases h with
  | cons x y=>cases y;exact⟨[],_,rfl,.nil,x⟩
 | a::l,z,_,h=>by
  cases h with
  | cons x y =>
   obtain⟨us,u,rfl,h1,h2⟩:=G9 y
   exact⟨_::us,u,rfl,.cons x h1,h2⟩
theorem IV {α β:Type} {F G:α->β->Prop}:∀ {l:List α} {vs:List β},Paired F l vs->(∀ a b,a∈l->F a b->G a b)->Paired G l vs
 | [],_,h,_=>by cases h;exact .nil
 | a::l,_,h,k=>by
  cases h with
  | cons x y=>exact .cons (k _ _ (av ..) x) (IV y λa b hb=>k a b (aI _ hb))
theorem Bg.dput {a:Addr} {xs ys:List V} (h:Bg H0 H A S Cs lo) (ha:H a=some (.lst xs)) (hn:a ∉ S.Ls) {vs:List V} (p:Paired (Ie H) (S.ds.zip S.ls) vs):Paired (Ie (upd H a (.lst ys))) (S.ds.zip S.ls) vs :=
 IV p λx v hx q=>q.put ha λL hL z=>hn (z ▸ a_ hx hL)
theorem Bg.RM {a:Addr} {ys:List V} (h:Bg H0 H A S Cs lo) (hn:a ∉ Cs):Paired (λC (l:List Nat)=>upd H a (.lst ys) C=some (.lst (l.map λn:Nat=>V.int (n:Int)))) Cs S.ch :=
 IV h.c λC l hC q=>by rw[Ao (λz:C=a=>hn (z ▸ hC))];exact q
theorem Bg.sJ (h:Bg H0 H A S Cs lo):A.r ≠ A.b:=by
 have z:=h.nd
 simp only[List.nodup_cons,List.mem_cons,not_or] at z
 obtain⟨⟨z1,z2,z3,z4,z5,_⟩,⟨y2,y3,y4,y5,_⟩,⟨x3,x4,x5,_⟩,⟨w4,w5,_⟩,⟨v5,_⟩,_⟩:=z
 exact z1
theorem Bg.sX (h:Bg H0 H A S Cs lo):A.r ≠ A.k:=by
 have z:=h.nd
 simp only[List.nodup_cons,List.mem_cons,not_or] at z
 obtain⟨⟨z1,z2,z3,z4,z5,_⟩,⟨y2,y3,y4,y5,_⟩,⟨x3,x4,x5,_⟩,⟨w4,w5,_⟩,⟨v5,_⟩,_⟩:=z
 exact z2
theorem Bg.rD (h:Bg H0 H A S Cs lo):A.r ≠ A.n:=by
 have z:=h.nd
 simp only[List.nodup_cons,List.mem_cons,not_or] at z
 obtain⟨⟨z1,z2,z3,z4,z5,_⟩,⟨y2,y3,y4,y5,_⟩,⟨x3,x4,x5,_⟩,⟨w4,w5,_⟩,⟨v5,_⟩,_⟩:=z
 exact z3
theorem Bg.rO (h:Bg H0 H A S Cs lo):A.r ≠ A.d:=by
 have z:=h.nd
 simp only[List.nodup_cons,List.mem_cons,not_or] at z
 obtain⟨⟨z1,z2,z3,z4,z5,_⟩,⟨y2,y3,y4,y5,_⟩,⟨x3,x4,x5,_⟩,⟨w4,w5,_⟩,⟨v5,_⟩,_⟩:=z
 exact z4
theorem Bg.rT (h:Bg H0 H A S Cs lo):A.r ≠ A.s:=by
 have z:=h.nd
 simp only[List.nodup_cons,List.mem_cons,not_or] at z
 obtain⟨⟨z1,z2,z3,z4,z5,_⟩,⟨y2,y3,y4,y5,_⟩,⟨x3,x4,x5,_⟩,⟨w4,w5,_⟩,⟨v5,_⟩,_⟩:=z
 exact z5
theorem Bg.rH (h:Bg H0 H A S Cs lo):A.b ≠ A.k:=by
 have z:=h.nd
 simp only[List.nodup_cons,List.mem_cons,not_or] at z
 obtain⟨⟨z1,z2,z3,z4,z5,_⟩,⟨y2,y3,y4,y5,_⟩,⟨x3,x4,x5,_⟩,⟨w4,w5,_⟩,⟨v5,_⟩,_⟩:=z
 exact y2
theorem Bg.rF (h:Bg H0 H A S Cs lo):A.b ≠ A.n:=by
 have z:=h.nd
 simp only[List.nodup_cons,List.mem_cons,not_or] at z
 obtain⟨⟨z1,z2,z3,z4,z5,_⟩,⟨y2,y3,y4,y5,_⟩,⟨x3,x4,x5,_⟩,⟨w4,w5,_⟩,⟨v5,_⟩,_⟩:=z
 exact y3
theorem Bg.sG (h:Bg H0 H A S Cs lo):A.b ≠ A.d:=by
 have z:=h.nd
 simp only[List.nodup_cons,List.mem_cons,not_or] at z
 obtain⟨⟨z1,z2,z3,z4,z5,_⟩,⟨y2,y3,y4,y5,_⟩,⟨x3,x4,x5,_⟩,⟨w4,w5,_⟩,⟨v5,_⟩,_⟩:=z
 exact y4
theorem Bg.sY (h:Bg H0 H A S Cs lo):A.b ≠ A.s:=by
 have z:=h.nd
 simp only[List.nodup_cons,List.mem_cons,not_or] at z
 obtain⟨⟨z1,z2,z3,z4,z5,_⟩,⟨y2,y3,y4,y5,_⟩,⟨x3,x4,x5,_⟩,⟨w4,w5,_⟩,⟨v5,_⟩,_⟩:=z
 exact y5
theorem Bg.rE (h:Bg H0 H A S Cs lo):A.k ≠ A.n:=by
 have z:=h.nd
 simp only[List.nodup_cons,List.mem_cons,not_or] at z
 obtain⟨⟨z1,z2,z3,z4,z5,_⟩,⟨y2,y3,y4,y5,_⟩,⟨x3,x4,x5,_⟩,⟨w4,w5,_⟩,⟨v5,_⟩,_⟩:=z
 exact x3
theorem Bg.sS (h:Bg H0 H A S Cs lo):A.k ≠ A.d:=by
 have z:=h.nd
 simp only[List.nodup_cons,List.mem_cons,not_or] at z
 obtain⟨⟨z1,z2,z3,z4,z5,_⟩,⟨y2,y3,y4,y5,_⟩,⟨x3,x4,x5,_⟩,⟨w4,w5,_⟩,⟨v5,_⟩,_⟩:=z
 exact x4
theorem Bg.sy (h:Bg H0 H A S Cs lo):A.k ≠ A.s:=by
 have z:=h.nd
 simp only[List.nodup_cons,List.mem_cons,not_or] at z
 obtain⟨⟨z1,z2,z3,z4,z5,_⟩,⟨y2,y3,y4,y5,_⟩,⟨x3,x4,x5,_⟩,⟨w4,w5,_⟩,⟨v5,_⟩,_⟩:=z
 exact x5
theorem Bg.rQ (h:Bg H0 H A S Cs lo):A.n ≠ A.d:=by
 have z:=h.nd
 simp only[List.nodup_cons,List.mem_cons,not_or] at z
 obtain⟨⟨z1,z2,z3,z4,z5,_⟩,⟨y2,y3,y4,y5,_⟩,⟨x3,x4,x5,_⟩,⟨w4,w5,_⟩,⟨v5,_⟩,_⟩:=z
 exact w4
theorem Bg.tD (h:Bg H0 H A S Cs lo):A.n ≠ A.s:=by
 have z:=h.nd
 simp only[List.nodup_cons,List.mem_cons,not_or] at z
 obtain⟨⟨z1,z2,z3,z4,z5,_⟩,⟨y2,y3,y4,y5,_⟩,⟨x3,x4,x5,_⟩,⟨w4,w5,_⟩,⟨v5,_⟩,_⟩:=z
 exact w5
theorem Bg.su (h:Bg H0 H A S Cs lo):A.d ≠ A.s:=by
 have z:=h.nd
 simp only[List.nodup_cons,List.mem_cons,not_or] at z
 obtain⟨⟨z1,z2,z3,z4,z5,_⟩,⟨y2,y3,y4,y5,_⟩,⟨x3,x4,x5,_⟩,⟨w4,w5,_⟩,⟨v5,_⟩,_⟩:=z
 exact v5
theorem Bg.sZ (h:Bg H0 H A S Cs lo):A.r ∉ S.Ls++Cs:=by
 have z:=h.nd
 simp only[List.nodup_cons] at z
 have e:=z.1
 intro c
 exact e (by simp only[List.mem_cons];simp only[c,or_true])
theorem Bg.qu (h:Bg H0 H A S Cs lo):A.b ∉ S.Ls++Cs:=by
 have z:=h.nd
 simp only[List.nodup_cons] at z
 have e:=z.2.1
 intro c
 exact e (by simp only[List.mem_cons];simp only[c,or_true])
theorem Bg.rG (h:Bg H0 H A S Cs lo):A.k ∉ S.Ls++Cs:=by
 have z:=h.nd
 simp only[List.nodup_cons] at z
 have e:=z.2.2.1
 intro c
 exact e (by simp only[List.mem_cons];simp only[c,or_true])
theorem Bg.rA (h:Bg H0 H A S Cs lo):A.n ∉ S.Ls++Cs:=by
 have z:=h.nd
 simp only[List.nodup_cons] at z
 have e:=z.2.2.2.1
 intro c
 exact e (by simp only[List.mem_cons];simp only[c,or_true])
theorem Bg.rR (h:Bg H0 H A S Cs lo):A.d ∉ S.Ls++Cs:=by
 have z:=h.nd
 simp only[List.nodup_cons] at z
 have e:=z.2.2.2.2.1
 intro c
 exact e (by simp only[List.mem_cons];simp only[c,or_true])
theorem Bg.rm (h:Bg H0 H A S Cs lo):A.s ∉ S.Ls++Cs:=by
 have z:=h.nd
 simp only[List.nodup_cons] at z
 exact z.2.2.2.2.2.1
theorem Bg.l_ (h:Bg H0 H A S Cs lo) {vs:List V} (ha:H A.r=some (.lst vs)) {r:R} {v:V} (hv:TupAt H r.v v):Bg H0 (upd H A.r (.lst (vs++[v]))) A { S with rows:=S.rows++[r] } Cs lo:=by
 obtain⟨a8,g1,g2⟩:=h.dp
 obtain⟨vr,r1,r2⟩:=h.r
 obtain⟨vb,b1,b2⟩:=h.b
 obtain⟨vk,k1,k2⟩:=h.k
 obtain⟨vn,n1,n2⟩:=h.n
 obtain⟨vd,d1,d2,d3⟩:=h.d
 have hm:=h.sZ
 obtain rfl:vr=vs:=HO.lst.inj (Option.some.inj (r1.symm.trans ha))
 have hp:=r2
 exact⟨⟨a8,JC g1 ha,g2⟩,h.nd,Dq h.sm (h.fr _ (by simp)),h.f0,h.fr,⟨vr++[v],Af,CG (BP hp ha) (.cons (hv.upd ha) .nil)⟩,⟨vb,by rw[Ao (Ne.symm h.sJ)];exact b1,BP b2 ha⟩,⟨vk,by rw[Ao (Ne.symm h.sX)];exact k1,BP k2 ha⟩,⟨vn,by rw[Ao (Ne.symm h.rD)];exact n1,BP n2 ha⟩,⟨vd,by rw[Ao (Ne.symm h.rO)];exact d1,d2,h.dput ha (λz=>hm (List.mem_append_left _ z)) d3⟩,by rw[Ao (Ne.symm h.rT)];exact h.s,h.RM (λz=>hm (List.mem_append_right _ z))⟩
theorem Bg.nU (h:Bg H0 H A S Cs lo) {vs:List V} (ha:H A.b=some (.lst vs)) {r:Str × Nat} {v:V} (hv:TupAt H (bV r) v):Bg H0 (upd H A.b (.lst (vs++[v]))) A { S with bs:=S.bs++[r] } Cs lo:=by
 obtain⟨a8,g1,g2⟩:=h.dp
 obtain⟨vr,r1,r2⟩:=h.r
 obtain⟨vb,b1,b2⟩:=h.b
 obtain⟨vk,k1,k2⟩:=h.k
 obtain⟨vn,n1,n2⟩:=h.n
 obtain⟨vd,d1,d2,d3⟩:=h.d
 have hm:=h.qu
 obtain rfl:vb=vs:=HO.lst.inj (Option.some.inj (b1.symm.trans ha))
 have hp:=b2
 exact⟨⟨a8,JC g1 ha,g2⟩,h.nd,Dq h.sm (h.fr _ (by simp)),h.f0,h.fr,⟨vr,by rw[Ao h.sJ];exact r1,BP r2 ha⟩,⟨vb++[v],Af,CG (BP hp ha) (.cons (hv.upd ha) .nil)⟩,⟨vk,by rw[Ao (Ne.symm h.rH)];exact k1,BP k2 ha⟩,⟨vn,by rw[Ao (Ne.symm h.rF)];exact n1,BP n2 ha⟩,⟨vd,by rw[Ao (Ne.symm h.sG)];exact d1,d2,h.dput ha (λz=>hm (List.mem_append_left _ z)) d3⟩,by rw[Ao (Ne.symm h.sY)];exact h.s,h.RM (λz=>hm (List.mem_append_right _ z))⟩
theorem Bg.qN (h:Bg H0 H A S Cs lo) {vs:List V} (ha:H A.k=some (.lst vs)) {r:Str × Nat × Int} {v:V} (hv:TupAt H (qD r) v):Bg H0 (upd H A.k (.lst (vs++[v]))) A { S with rk:=S.rk++[r] } Cs lo:=by
 obtain⟨a8,g1,g2⟩:=h.dp
 obtain⟨vr,r1,r2⟩:=h.r
 obtain⟨vb,b1,b2⟩:=h.b
 obtain⟨vk,k1,k2⟩:=h.k
 obtain⟨vn,n1,n2⟩:=h.n
 obtain⟨vd,d1,d2,d3⟩:=h.d
 have hm:=h.rG
 obtain rfl:vk=vs:=HO.lst.inj (Option.some.inj (k1.symm.trans ha))
 have hp:=k2
 exact⟨⟨a8,JC g1 ha,g2⟩,h.nd,Dq h.sm (h.fr _ (by simp)),h.f0,h.fr,⟨vr,by rw[Ao h.sX];exact r1,BP r2 ha⟩,⟨vb,by rw[Ao h.rH];exact b1,BP b2 ha⟩,⟨vk++[v],Af,CG (BP hp ha) (.cons (hv.upd ha) .nil)⟩,⟨vn,by rw[Ao (Ne.symm h.rE)];exact n1,BP n2 ha⟩,⟨vd,by rw[Ao (Ne.symm h.sS)];exact d1,d2,h.dput ha (λz=>hm (List.mem_append_left _ z)) d3⟩,by rw[Ao (Ne.symm h.sy)];exact h.s,h.RM (λz=>hm (List.mem_append_right _ z))⟩
theorem Bg.YZ (h:Bg H0 H A S Cs lo) {vs:List V} (ha:H A.n=some (.lst vs)) {r:R} {v:V} (hv:TupAt H (dW r) v):Bg H0 (upd H A.n (.lst (vs++[v]))) A { S with ks:=S.ks++[r] } Cs lo:=by
 obtain⟨a8,g1,g2⟩:=h.dp
 obtain⟨vr,r1,r2⟩:=h.r
 obtain⟨vb,b1,b2⟩:=h.b
 obtain⟨vk,k1,k2⟩:=h.k
 obtain⟨vn,n1,n2⟩:=h.n
 obtain⟨vd,d1,d2,d3⟩:=h.d
 have hm:=h.rA
 obtain rfl:vn=vs:=HO.lst.inj (Option.some.inj (n1.symm.trans ha))
 have hp:=n2
 exact⟨⟨a8,JC g1 ha,g2⟩,h.nd,Dq h.sm (h.fr _ (by simp)),h.f0,h.fr,⟨vr,by rw[Ao h.rD];exact r1,BP r2 ha⟩,⟨vb,by rw[Ao h.rF];exact b1,BP b2 ha⟩,⟨vk,by rw[Ao h.rE];exact k1,BP k2 ha⟩,⟨vn++[v],Af,CG (BP hp ha) (.cons (hv.upd ha) .nil)⟩,⟨vd,by rw[Ao (Ne.symm h.rQ)];exact d1,d2,h.dput ha (λz=>hm (List.mem_append_left _ z)) d3⟩,by rw[Ao (Ne.symm h.tD)];exact h.s,h.RM (λz=>hm (List.mem_append_right _ z))⟩
theorem Rg (S:Pl) (x:Dt) (l:List (List Ln)):({ S with ds:=S.ds++[x],ls:=l }:Pl).Ls=S.Ls++x.L:=by
 show (S.ds++[x]).flatMap Dt.L=_
 rw[List.flatMap_append]
 simp
theorem Bg.Xd (h:Bg H0 H A S Cs lo) {vs:List V} (ha:H A.d=some (.lst vs)) {x:Dt} {v:V} (hv:Ie H (x,[]) v) (hL:∀ L∈x.L,H0 L=none/\L ∉ A.r::A.b::A.k::A.n::A.d::A.s::(S.Ls++Cs)):Bg H0 (upd H A.d (.lst (vs++[v]))) A { S with ds:=S.ds++[x],ls:=S.ls++[[]] } Cs lo:=by
 obtain⟨a8,g1,g2⟩:=h.dp
 obtain⟨vr,r1,r2⟩:=h.r
 obtain⟨vb,b1,b2⟩:=h.b
 obtain⟨vk,k1,k2⟩:=h.k
 obtain⟨vn,n1,n2⟩:=h.n
 obtain⟨vd,d1,d2,d3⟩:=h.d
 have hm:=h.rR
 obtain rfl:vd=vs:=HO.lst.inj (Option.some.inj (d1.symm.trans ha))
 refine⟨⟨a8,JC g1 ha,g2⟩,?_,Dq h.sm (h.fr _ (by simp)),h.f0,?_,⟨vr,by rw[Ao h.rO];exact r1,BP r2 ha⟩,⟨vb,by rw[Ao h.sG];exact b1,BP b2 ha⟩,⟨vk,by rw[Ao h.sS];exact k1,BP k2 ha⟩,⟨vn,by rw[Ao h.rQ];exact n1,BP n2 ha⟩,⟨vd++[v],Af,by simp[d2],?_⟩,by rw[Ao (Ne.symm h.su)];exact h.s,h.RM (λz=>hm (List.mem_append_right _ z))⟩
 ·rw[Rg]
  have nd:=h.nd
  cases x with
  | stop b L =>
   have oz:=(hL L (ax.mpr rfl)).2
   have e:(A.r::A.b::A.k::A.n::A.d::A.s::(S.Ls++Dt.L (.stop b L)++Cs)).Perm (L::(A.r::A.b::A.k::A.n::A.d::A.s::(S.Ls++Cs))):=by
    show (([A.r,A.b,A.k,A.n,A.d,A.s]++(S.Ls++[L]++Cs)):List Addr).Perm (L::([A.r,A.b,A.k,A.n,A.d,A.s]++(S.Ls++Cs)))
    have e1:([A.r,A.b,A.k,A.n,A.d,A.s]++(S.Ls++[L]++Cs):List Addr)=([A.r,A.b,A.k,A.n,A.d,A.s]++S.Ls)++L::Cs:=by simp
    have e2:([A.r,A.b,A.k,A.n,A.d,A.s]++(S.Ls++Cs):List Addr)=([A.r,A.b,A.k,A.n,A.d,A.s]++S.Ls)++Cs:=by simp
    rw[e1,e2]
    exact List.perm_middle
   exact e.nodup_iff.mpr (hU.mpr ⟨oz,nd⟩)
  | coup a b t =>
   show (A.r::A.b::A.k::A.n::A.d::A.s::(S.Ls++[]++Cs)).Nodup
   rw[eg]
   exact nd
  | mute b =>
   show (A.r::A.b::A.k::A.n::A.d::A.s::(S.Ls++[]++Cs)).Nodup
   rw[eg]
   exact nd
 ·rw[Rg]
  intro a tj
  have:a∈A.r::A.b::A.k::A.n::A.d::A.s::S.Ls \/ a∈x.L:=by
   simp only[List.mem_cons,List.mem_append] at tj |-
   rcases tj with z | z | z | z | z | z | z | z
   ·exact .inl (.inl z)
   ·exact .inl (.inr (.inl z))
   ·exact .inl (.inr (.inr (.inl z)))
   ·exact .inl (.inr (.inr (.inr (.inl z))))
   ·exact .inl (.inr (.inr (.inr (.inr (.inl z)))))
   ·exact .inl (.inr (.inr (.inr (.inr (.inr (.inl z))))))
   ·exact .inl (.inr (.inr (.inr (.inr (.inr (.inr z))))))
   ·exact .inr z
  rcases this with z | z
  ·exact h.fr a z
  ·exact (hL a z).1
 ·rw[iq d2]
  refine CG (h.dput ha (λz=>hm (cr _ z)) d3) (.cons (hv.put ha λL oz z=>?_) .nil)
  exact (hL L oz).2 (by rw[z];simp)
theorem Bg.Ei (h:Bg H0 H A S Cs lo) {C:Addr} {l:List Nat} (hC:H C=some (.lst (l.map λn:Nat=>V.int (n:Int)))) (hn:C ∉ A.r::A.b::A.k::A.n::A.d::A.s::(S.Ls++Cs)):Bg H0 (upd H A.s (.lst (Cs.map V.ref++[.ref C]))) A { S with ch:=S.ch++[l] } (Cs++[C]) lo:=by
 obtain⟨a8,g1,g2⟩:=h.dp
 obtain⟨vr,r1,r2⟩:=h.r
 obtain⟨vb,b1,b2⟩:=h.b
 obtain⟨vk,k1,k2⟩:=h.k
 obtain⟨vn,n1,n2⟩:=h.n
 obtain⟨vd,d1,d2,d3⟩:=h.d
 have hm:=h.rm
 have ha:=h.s
 refine⟨⟨a8,JC g1 ha,g2⟩,?_,Dq h.sm (h.fr _ (by simp)),h.f0,h.fr,⟨vr,by rw[Ao h.rT];exact r1,BP r2 ha⟩,⟨vb,by rw[Ao h.sY];exact b1,BP b2 ha⟩,⟨vk,by rw[Ao h.sy];exact k1,BP k2 ha⟩,⟨vn,by rw[Ao h.tD];exact n1,BP n2 ha⟩,⟨vd,by rw[Ao h.su];exact d1,d2,h.dput ha (λz=>hm (List.mem_append_left _ z)) d3⟩,by rw[List.map_append];exact Af,CG (h.RM (λz=>hm (List.mem_append_right _ z))) (.cons (by rw[Ao λz=>hn (by rw[z];simp)];exact hC) .nil)⟩
 show (A.r::A.b::A.k::A.n::A.d::A.s::(S.Ls++(Cs++[C]))).Nodup
 have e:(A.r::A.b::A.k::A.n::A.d::A.s::(S.Ls++(Cs++[C]))).Perm (C::(A.r::A.b::A.k::A.n::A.d::A.s::(S.Ls++Cs))):=by
  rw[<-dL]
  exact List.perm_append_singleton C (A.r::A.b::A.k::A.n::A.d::A.s::(S.Ls++Cs))
 exact e.nodup_iff.mpr (hU.mpr ⟨hn,h.nd⟩)
theorem Bg.jN (h:Bg H0 H A S Cs lo) {b:Nat} {L:Addr} {mI:List Dt} {mf:List (List Ln)} {l0:List Ln} {x:Ln} {v:V} {ts:List V} (e1:S.ds=mI++[.stop b L]) (e2:S.ls=mf++[l0]) (hL:H L=some (.lst ts)) (hv:TupAt H (jM x) v):Bg H0 (upd H L (.lst (ts++[v]))) A { S with ls:=mf++[l0++[x]] } Cs lo:=by
 obtain⟨a8,g1,g2⟩:=h.dp
 obtain⟨vr,r1,r2⟩:=h.r
 obtain⟨vb,b1,b2⟩:=h.b
 obtain⟨vk,k1,k2⟩:=h.k
 obtain⟨vn,n1,n2⟩:=h.n
 obtain⟨vd,d1,d2,d3⟩:=h.d
 have ha:=hL
 have hmem:L∈S.Ls:=List.mem_flatMap.mpr ⟨.stop b L,by rw[e1];simp,List.mem_singleton.mpr rfl⟩
 have nr:A.r ≠ L:=λz=>h.sZ (z ▸ cr _ hmem)
 have nb:A.b ≠ L:=λz=>h.qu (z ▸ cr _ hmem)
 have nk:A.k ≠ L:=λz=>h.rG (z ▸ cr _ hmem)
 have nn:A.n ≠ L:=λz=>h.rA (z ▸ cr _ hmem)
 have ndd:A.d ≠ L:=λz=>h.rR (z ▸ cr _ hmem)
 have ns:A.s ≠ L:=λz=>h.rm (z ▸ cr _ hmem)
 have hnd:(S.Ls++Cs).Nodup:=by
  have z:=h.nd
  simp only[List.nodup_cons] at z
  exact z.2.2.2.2.2.2
 have hLs:S.Ls=mI.flatMap Dt.L++[L]:=by
  show S.ds.flatMap Dt.L=_
  rw[e1,List.flatMap_append]
  rfl
 have hC:L ∉ Cs:=λz=>(hZ.mp hnd).2.2 L hmem L z rfl
 have h0:L ∉ mI.flatMap Dt.L:=λz=>by
  have:=(hZ.mp hnd).1
  rw[hLs] at this
  exact (hZ.mp this).2.2 L z L (ax.mpr rfl) rfl
 have ld:mI.length=mf.length:=by
  have:=d2
  rw[e1,e2] at this
  simpa using this
 rw[e1,e2,iq ld] at d3
 obtain⟨ED,u,rfl,p0,hu⟩:=G9 d3
 refine⟨⟨a8,JC g1 ha,g2⟩,h.nd,Dq h.sm (h.fr _ (by simp only[List.mem_cons];simp only[hmem,or_true])),h.f0,h.fr,⟨vr,by rw[Ao nr];exact r1,BP r2 ha⟩,⟨vb,by rw[Ao nb];exact b1,BP b2 ha⟩,⟨vk,by rw[Ao nk];exact k1,BP k2 ha⟩,⟨vn,by rw[Ao nn];exact n1,BP n2 ha⟩,⟨_,by rw[Ao ndd];exact d1,?_,?_⟩,by rw[Ao ns];exact h.s,h.RM hC⟩
 ·show S.ds.length=(mf++[l0++[x]]).length
  rw[e1]
  simp[ld]
 ·show Paired _ (S.ds.zip (mf++[l0++[x]])) _
  rw[e1,iq ld]
  refine CG (IV p0 λy w hy q=>q.put ha λL' oz z=>h0 (z ▸ kQ.mpr ⟨y.1,(hV hy).1,oz⟩)) (.cons ?_ .nil)
  obtain⟨q1,vI,q2,q3⟩:=hu
  obtain rfl:vI=ts:=HO.lst.inj (Option.some.inj (q2.symm.trans hL))
  exact⟨q1.upd ha,vI++[v],Af,CG (BP q3 ha) (.cons (hv.upd ha) .nil)⟩
theorem Vw {a8:List (Key × V)} {k:Key} {v w:V} (h:Cq a8 k=some w):(putK a8 k v).length=a8.length:=by
 unfold putK
 rw[if_pos (by rw[Hv,h];rfl),ae]
theorem Bg.fY (h:Bg H0 H A S Cs lo) {a8:List (Key × V)} (hp:H A.p=some (.dK a8)) (v:V):Bg H0 (upd H A.p (.dK (putK a8 (Sum.inr "lines") v))) A S Cs v:=by
 obtain⟨uw,g1,g2,y1,y2,y3,y4,y5,y6,y7⟩:=h.dp
 obtain rfl:uw=a8:=HO.dK.inj (Option.some.inj (g1.symm.trans hp))
 obtain⟨vr,r1,r2⟩:=h.r
 obtain⟨vb,b1,b2⟩:=h.b
 obtain⟨vk,k1,k2⟩:=h.k
 obtain⟨vn,n1,n2⟩:=h.n
 obtain⟨vd,d1,d2,d3⟩:=h.d
 have sx:SX A.p H (upd H A.p (.dK (putK uw (Sum.inr "lines") v))):=SX.up
 have tp:∀ {zs:List V} {y:V},TupAt H zs y->TupAt (upd H A.p (.dK (putK uw (Sum.inr "lines") v))) zs y:=λ{zs y} h=>by
  obtain⟨T,rfl,e⟩:=h
  exact⟨T,rfl,sx _ _ e λz=>by rw[z,hp] at e;cases e⟩
 have lt:∀ {a:Addr} {xs:List V},H a=some (.lst xs)->upd H A.p (.dK (putK uw (Sum.inr "lines") v)) a=some (.lst xs):=λ{a xs} h=>sx _ _ h λz=>by rw[z,hp] at h;cases h
 refine⟨⟨_,Af,by rw[Vw y7];exact g2,?_,?_,?_,?_,?_,?_,?_⟩,h.nd,Dq h.sm h.f0,h.f0,h.fr,⟨vr,lt r1,Paired.Gq r2 λ_ _ q=>tp q⟩,⟨vb,lt b1,Paired.Gq b2 λ_ _ q=>tp q⟩,⟨vk,lt k1,Paired.Gq k2 λ_ _ q=>tp q⟩,⟨vn,lt n1,Paired.Gq n2 λ_ _ q=>tp q⟩,⟨vd,lt d1,d2,Paired.Gq d3 λ_ _ q=>q.dict sx hp⟩,lt h.s,Paired.Gq h.c λ_ _ q=>lt q⟩
 ·rw[Bb,if_neg (by decide +kernel)];exact y1
 ·rw[Bb,if_neg (by decide +kernel)];exact y2
 ·rw[Bb,if_neg (by decide +kernel)];exact y3
 ·rw[Bb,if_neg (by decide +kernel)];exact y4
 ·rw[Bb,if_neg (by decide +kernel)];exact y5
 ·rw[Bb,if_neg (by decide +kernel)];exact y6
 ·rw[Bb,if_pos rfl]
end
variable {K:W.Frag} {aB aP aM:Addr}
noncomputable def WK (bs:List (Str × Nat)) (r:R):Dt->Prop
 | .stop b _=>r.w = "stop" /\ ∃ x,bs[b]? = some x/\r.rest=[.str x.1]
 | .coup a b s=>r.w = "coupler" /\ ∃ x y,bs[a]? = some x/\bs[b]? = some y/\r.rest=[.str x.1,.str y.1,.int s]
 | .mute b=>r.w = "mute" /\ ∃ x,bs[b]? = some x/\r.rest=[.str x.1]
structure Ed (K:W.Frag) (aB aP aM:Addr) (base:Str) (S:Pl) (lo:V):Prop where
 bl:HY K aB aP aM S.rows S.bs S.rk S.ks S.ls (S.ch.map Wd.mk)
 nb:∀ x∈S.bs,∃ i,i<S.rows.length/\x.1=Ec base i
 nr:∀ x∈S.rk,∃ i,i<S.rows.length/\x.1=Ec base i
 nk:∀ x∈S.ks,∃ i,i<S.rows.length/\x.nm=Ec base i
 db:(S.bs.map (·.1)).Nodup
 dr:(S.rk.map (·.1)).Nodup
 dk:(S.ks.map (·.nm)).Nodup
 b5:S.bs.length<=5
 sb:∀ x∈S.bs,1<=x.2/\x.2<=61
 r12:S.rk.length<=12
 sr:∀ x∈S.rk,1<=x.2.1/\x.2.1<=97
 lk:S.ks.length<=S.rows.length
 pd:Paired (WK S.bs) S.ks S.ds
 ch:∀ l∈S.ch,l.Nodup/\∀ i∈l,∃ k,S.ks[i]? = some k/\k.w = "stop"
 op:lo=.non \/ ∃ mI b L x mf l0,S.ds=mI++[.stop b L]/\S.ls=mf++[l0]/\lo=.ref L/\S.bs[b]? = some x/\Tl S.rows x.1 l0.length
noncomputable abbrev mZ (r:R) (lo:V):V:=if r.w = "stop" \/ r.w = "line" then lo else .non
noncomputable def K6 (K:W.Frag) (aB aP aM:Addr) (base:Str) (H0:Hp) (A:MK) (S:Pl) (Q:V->Hp->Prop):Prop :=
 ∀ (r:R) (y:V) (S':Pl) (IJ:List Addr) (rd:V) (H':Hp),Bg H0 H' A S' IJ rd->S'.rows=S.rows->TupAt H' r.v y->Ed K aB aP aM base { S' with rows:=S.rows++[r] } (mZ r rd)->1<=S'.bs.length->Q y H'
section
variable {base:Str} {S:Pl} {lo:V}
theorem Ed.fb (h:Ed K aB aP aM base S lo) (hl:S.rows.length<77):∀ x∈S.bs,x.1 ≠ Ec base S.rows.length:=λx hx z=>by
 obtain⟨i,hi,e⟩:=h.nb x hx
 have:=NT (by omega) (by omega) (e.symm.trans z)
 omega
theorem Ed.fr (h:Ed K aB aP aM base S lo) (hl:S.rows.length<77):∀ x∈S.rk,x.1 ≠ Ec base S.rows.length:=λx hx z=>by
 obtain⟨i,hi,e⟩:=h.nr x hx
 have:=NT (by omega) (by omega) (e.symm.trans z)
 omega
theorem Ed.fk (h:Ed K aB aP aM base S lo) (hl:S.rows.length<77):∀ x∈S.ks,x.nm ≠ Ec base S.rows.length:=λx hx z=>by
 obtain⟨i,hi,e⟩:=h.nk x hx
 have:=NT (by omega) (by omega) (e.symm.trans z)
 omega
theorem Gs {α:Type} {f:α->Str} {l:List α} {n:Nat} (h:∀ x∈l,∃ i,i<n/\f x=Ec base i):∀ x∈l,∃ i,i<n+1/\f x=Ec base i:=λx hx=>by
 obtain⟨i,h1,h2⟩:=h x hx
 exact⟨i,by omega,h2⟩
theorem Qa {α:Type} {f:α->Str} {l:List α} {n:Nat} {a:α} (h:∀ x∈l,∃ i,i<n/\f x=Ec base i) (ha:f a=Ec base n):∀ x∈l++[a],∃ i,i<n+1/\f x=Ec base i:=λx hx=>by
 rcases ba.mp hx with z | z
 ·exact Gs h x z
 ·rw[ax.mp z]
  exact⟨n,by omega,ha⟩
theorem WP {α:Type} {f:α->Str} {l:List α} {a:α} (h:(l.map f).Nodup) (hf:∀ x∈l,f x ≠ f a):((l++[a]).map f).Nodup:=by
 rw[ce]
 refine List.nodup_append.mpr ⟨h,by simp,λx hx y hy z=>?_⟩
 obtain⟨w,hw,rfl⟩:=ay.mp hx
 have hy':y=f a:=by simpa using hy
 exact hf w hw (z.trans hy')
theorem WK.grow {bs:List (Str × Nat)} {x:Str × Nat} {r:R} {d:Dt} (h:WK bs r d):WK (bs++[x]) r d:=by
 have g:∀ {i:Nat} {z:Str × Nat},bs[i]? = some z->(bs++[x])[i]? = some z:=λ{i z} h=>by
  rw[fv (ai.mp h).1]
  exact h
 cases d with
 | stop b L =>
  obtain⟨h1,z,h2,h3⟩:=h
  exact⟨h1,z,g h2,h3⟩
 | coup a b s =>
  obtain⟨h1,y,z,h2,h3,h4⟩:=h
  exact⟨h1,y,z,g h2,g h3,h4⟩
 | mute b =>
  obtain⟨h1,z,h2,h3⟩:=h
  exact⟨h1,z,g h2,h3⟩
theorem Ed.W8 (F:Sx K aB aP aM) (hb:Ib base) (h:Ed K aB aP aM base S lo) (hl:S.rows.length<77) (h5:S.bs.length<5) {n:Nat} (h1:1<=n) (h2:n<=61):Ed K aB aP aM base { S with bs:=S.bs++[(Ec base S.rows.length,n)],rows:=S.rows++[G5 (Ec base S.rows.length,n)] } .non:=by
 have el:(S.rows++[G5 (Ec base S.rows.length,n)]).length=S.rows.length+1:=by simp
 refine⟨h.bl.W8 F (GR hb _) (h.fb hl) (h.fr hl) (h.fk hl) h5 h1 h2,?_,?_,?_,WP h.db (h.fb hl),h.dr,h.dk,by simp;omega,λx hx=>?_,h.r12,h.sr,?_,Paired.Gq h.pd λ_ _ q=>q.grow,h.ch,.inl rfl⟩
 ·show ∀ x∈S.bs++_,∃ i,i<_/\_
  rw[el]
  exact Qa (f:=λx:Str × Nat=>x.1) h.nb rfl
 ·show ∀ x∈S.rk,∃ i,i<_/\_
  rw[el]
  exact Gs (f:=λx:Str × Nat × Int=>x.1) h.nr
 ·show ∀ x∈S.ks,∃ i,i<_/\_
  rw[el]
  exact Gs (f:=λx:R=>x.nm) h.nk
 ·rcases ba.mp hx with z | z
  ·exact h.sb x z
  ·rw[ax.mp z]
   exact⟨h1,h2⟩
 ·show S.ks.length<=_
  rw[el]
  have:=h.lk
  omega
theorem Ed.rank (F:Sx K aB aP aM) (hb:Ib base) (h:Ed K aB aP aM base S lo) (hl:S.rows.length<77) (tm:S.rk.length<12) {n:Nat} {wi:Int} (h1:1<=n) (h2:n<=97) (h3:0<=wi) (h4:wi<=1000000000):Ed K aB aP aM base { S with rk:=S.rk++[(Ec base S.rows.length,n,wi)],rows:=S.rows++[HJ (Ec base S.rows.length,n,wi)] } .non:=by
 have el:(S.rows++[HJ (Ec base S.rows.length,n,wi)]).length=S.rows.length+1:=by simp
 refine⟨h.bl.rank F (GR hb _) (h.fb hl) (h.fr hl) (h.fk hl) tm h1 h2 h3 h4,?_,?_,?_,h.db,WP h.dr (h.fr hl),h.dk,h.b5,h.sb,by simp;omega,λx hx=>?_,?_,h.pd,h.ch,.inl rfl⟩
 ·show ∀ x∈S.bs,∃ i,i<_/\_
  rw[el]
  exact Gs (f:=λx:Str × Nat=>x.1) h.nb
 ·show ∀ x∈S.rk++_,∃ i,i<_/\_
  rw[el]
  exact Qa (f:=λx:Str × Nat × Int=>x.1) h.nr rfl
 ·show ∀ x∈S.ks,∃ i,i<_/\_
  rw[el]
  exact Gs (f:=λx:R=>x.nm) h.nk
 ·rcases ba.mp hx with z | z
  ·exact h.sr x z
  ·rw[ax.mp z]
   exact⟨h1,h2⟩
 ·show S.ks.length<=_
  rw[el]
  have:=h.lk
  omega
theorem Ed.Xk (h:Ed K aB aP aM base S lo) (hl:S.rows.length<77) {r:R} {d:Dt} {rd:V} (hn:r.nm=Ec base S.rows.length) (hd:WK S.bs r d) (hB:HY K aB aP aM (S.rows++[r]) S.bs S.rk (S.ks++[r]) (S.ls++[[]]) (S.ch.map Wd.mk))
  (QO:rd=.non \/ ∃ b L x,d=.stop b L/\rd=.ref L/\S.bs[b]? = some x/\Tl (S.rows++[r]) x.1 0):Ed K aB aP aM base { S with ks:=S.ks++[r],ls:=S.ls++[[]],ds:=S.ds++[d],rows:=S.rows++[r] } rd:=by
 have el:(S.rows++[r]).length=S.rows.length+1:=by simp
 refine⟨hB,?_,?_,?_,h.db,h.dr,WP h.dk (λx hx=>by rw[hn];exact h.fk hl x hx),h.b5,h.sb,h.r12,h.sr,?_,CG h.pd (.cons hd .nil),λl oQ=>?_,?_⟩
 ·show ∀ x∈S.bs,∃ i,i<_/\_
  rw[el]
  exact Gs (f:=λx:Str × Nat=>x.1) h.nb
 ·show ∀ x∈S.rk,∃ i,i<_/\_
  rw[el]
  exact Gs (f:=λx:Str × Nat × Int=>x.1) h.nr
 ·show ∀ x∈S.ks++_,∃ i,i<_/\_
  rw[el]
  exact Qa (f:=λx:R=>x.nm) h.nk hn
 ·show (S.ks++[r]).length<=_
  rw[el]
  have:=h.lk
  simp
  omega
 ·obtain⟨g1,g2⟩:=h.ch l oQ
  refine⟨g1,λi hi=>?_⟩
  obtain⟨k,g3,g4⟩:=g2 i hi
  exact⟨k,by rw[fv (ai.mp g3).1];exact g3,g4⟩
 ·rcases QO with z | ⟨b,L,x,rfl,g1,g2,g3⟩
  ·exact .inl z
  ·exact .inr ⟨S.ds,b,L,x,S.ls,[],rfl,rfl,g1,g2,g3⟩
theorem Ed.line (F:Sx K aB aP aM) (hb:Ib base) (h:Ed K aB aP aM base S lo) {mI:List Dt} {b:Nat} {L:Addr} {x:Str × Nat} {mf:List (List Ln)} {l0:List Ln} (e1:S.ds=mI++[.stop b L]) (e2:S.ls=mf++[l0]) (hx:S.bs[b]? = some x) (hT:Tl S.rows x.1 l0.length) (h4:l0.length<4)
  {j:Nat} {r:Str × Nat × Int} {sh lw hi:Int} (hj:S.rk[j]? = some r) (hle:lw<=hi) (hn:hi<(x.2:Int)) (b1 : -200<=sh) (b2:sh<=200) (b3:0<=lw):Ed K aB aP aM base { S with ls:=mf++[l0++[⟨j,sh,lw,hi⟩]],rows:=S.rows++[⟨"line",r.1,[.int sh,.int lw,.int hi]⟩] } (.ref L):=by
 have el:(S.rows++[(⟨"line",r.1,[.int sh,.int lw,.int hi]⟩:R)]).length=S.rows.length+1:=by simp
 have hxs:=h.sb x (al hx)
 have hB:=h.bl
 rw[e2] at hB
 have ht:isNm r.1:=by
  obtain⟨i,_,e⟩:=h.nr r (al hj)
  rw[e]
  exact GR hb i
 refine⟨hB.line F hT h4 (m:=r.2.1) (wi:=r.2.2) hj h.dr ht (n:=x.2) (al hx) hle hn b1 b2 b3 (by omega),?_,?_,?_,h.db,h.dr,h.dk,h.b5,h.sb,h.r12,h.sr,?_,h.pd,h.ch,.inr ⟨mI,b,L,x,mf,_,e1,rfl,rfl,hx,?_⟩⟩
 ·show ∀ x∈S.bs,∃ i,i<_/\_
  rw[el]
  exact Gs (f:=λx:Str × Nat=>x.1) h.nb
 ·show ∀ x∈S.rk,∃ i,i<_/\_
  rw[el]
  exact Gs (f:=λx:Str × Nat × Int=>x.1) h.nr
 ·show ∀ x∈S.ks,∃ i,i<_/\_
  rw[el]
  exact Gs (f:=λx:R=>x.nm) h.nk
 ·show S.ks.length<=_
  rw[el]
  have:=h.lk
  omega
 ·rw[aE,bv]
  exact hT.line rfl
theorem bZ {ks:List R} (nd:(ks.map (·.nm)).Nodup) {i:Nat} {k:R} (h:ks[i]? = some k):(ks.map (·.nm)).idxOf k.nm=i:=by
 have hi:i<(ks.map (·.nm)).length:=by rw[ae];exact (ai.mp h).1
 have e:(ks.map (·.nm))[i]=k.nm:=by
  rw[gT]
  exact congrArg (·.nm) (ai.mp h).2
 rw[<-e]
 exact nd.idxOf_getElem i hi
noncomputable def Jy (ks:List R) (i:Nat):Str:=((ks[i]?).map (·.nm)).getD ""
theorem RP {ks:List R} {i:Nat} {k:R} (h:ks[i]? = some k):Jy ks i=k.nm:=by unfold Jy;rw[h];rfl
theorem Ed.step (hM:∃ t,W.nsIn K aM "step" = some (some (.int 12 t))) (hb:Ib base) (h:Ed K aB aP aM base S lo) {i0:Nat} {c:List Nat} (nd:(i0::c).Nodup) (rj:(i0::c).length<=24) (hc:∀ i∈i0::c,∃ k,S.ks[i]? = some k/\k.w = "stop") (tm:S.ch.length<12) :
  Ed K aB aP aM base { S with ch:=S.ch++[i0::c],rows:=S.rows++[⟨"step",Jy S.ks i0,(c.map (Jy S.ks)).map V.str⟩] } .non:=by
 have el:(S.rows++[(⟨"step",Jy S.ks i0,(c.map (Jy S.ks)).map V.str⟩:R)]).length=S.rows.length+1:=by simp
 have ix:∀ i∈i0::c,(S.ks.map (·.nm)).idxOf (Jy S.ks i)=i:=λi hi=>by
  obtain⟨k,g1,_⟩:=hc i hi
  rw[RP g1]
  exact bZ h.dk g1
 have hB:=h.bl.step (t0:=Jy S.ks i0) (ts:=c.map (Jy S.ks)) hM ?_ (by simpa using rj) ?_ (by rw[List.length_map];exact tm)
 ·have e3:((Jy S.ks i0::c.map (Jy S.ks)).map λt=>(S.ks.map (·.nm)).idxOf t)=i0::c:=by
   show (((i0::c).map (Jy S.ks)).map λt=>(S.ks.map (·.nm)).idxOf t)=_
   rw[bg]
   have:(i0::c).map ((λt=>(S.ks.map (·.nm)).idxOf t) ∘ Jy S.ks)=(i0::c).map id:=fi λi hi=>ix i hi
   rw[this,ij]
  rw[e3] at hB
  refine⟨by show HY _ _ _ _ _ _ _ _ _ ((S.ch++[i0::c]).map Wd.mk);rw[List.map_append];exact hB,?_,?_,?_,h.db,h.dr,h.dk,h.b5,h.sb,h.r12,h.sr,?_,h.pd,λl hl=>?_,.inl rfl⟩
  ·show ∀ x∈S.bs,∃ i,i<_/\_
   rw[el]
   exact Gs (f:=λx:Str × Nat=>x.1) h.nb
  ·show ∀ x∈S.rk,∃ i,i<_/\_
   rw[el]
   exact Gs (f:=λx:Str × Nat × Int=>x.1) h.nr
  ·show ∀ x∈S.ks,∃ i,i<_/\_
   rw[el]
   exact Gs (f:=λx:R=>x.nm) h.nk
  ·show S.ks.length<=_
   rw[el]
   have:=h.lk
   omega
  ·rcases ba.mp hl with z | z
   ·exact h.ch l z
   ·rw[ax.mp z]
    exact⟨nd,hc⟩
 ·show ((i0::c).map (Jy S.ks)).Nodup
  refine List.Pairwise.of_map (S:=(· ≠ ·)) (λt=>(S.ks.map (·.nm)).idxOf t) (λa b h e=>h (by rw[e])) ?_
  rw[bg]
  have:(i0::c).map ((λt=>(S.ks.map (·.nm)).idxOf t) ∘ Jy S.ks)=(i0::c).map id:=fi λi hi=>ix i hi
  rw[this,ij]
  exact nd
 ·intro t ht
  obtain⟨i,hi,rfl⟩:=List.mem_map.mp (show t∈(i0::c).map (Jy S.ks) from ht)
  obtain⟨k,g1,g2⟩:=hc i hi
  rw[RP g1]
  obtain⟨m,_,e⟩:=h.nk k (al g1)
  exact⟨by rw[e];exact GR hb m,k,al g1,g2,rfl⟩
theorem Hc {α β:Type} {F:α->β->Prop}:∀ {l:List α} {vs:List β},Paired F l vs->∀ a∈l,∃ b∈vs,F a b
 | [],_,h,a,ha=>nomatch ha
 | x::l,_,h,a,ha=>by
  cases h with
  | cons z y =>
   rcases bq.mp ha with rfl | h'
   ·exact⟨_,av ..,z⟩
   ·obtain⟨b,hb,e⟩:=Hc y a h'
    exact⟨b,aI _ hb,e⟩
theorem Bg.old {H0 H:Hp} {A:MK} {S:Pl} {Cs:List Addr} {lo:V} (h:Bg H0 H A S Cs lo) {L:Addr} (hL:H L=none):H0 L=none/\L ∉ A.r::A.b::A.k::A.n::A.d::A.s::(S.Ls++Cs):=by
 refine⟨h.sm.free hL,λhm=>?_⟩
 have key:∃ o,H L=some o:=by
  obtain⟨vd,d1,d2,d3⟩:=h.d
  simp only[List.mem_cons,List.mem_append] at hm
  rcases hm with rfl | rfl | rfl | rfl | rfl | rfl | z | z
  ·obtain⟨v,e,_⟩:=h.r
   exact⟨_,e⟩
  ·obtain⟨v,e,_⟩:=h.b
   exact⟨_,e⟩
  ·obtain⟨v,e,_⟩:=h.k
   exact⟨_,e⟩
  ·obtain⟨v,e,_⟩:=h.n
   exact⟨_,e⟩
  ·exact⟨_,d1⟩
  ·exact⟨_,h.s⟩
  ·obtain⟨d,hd,oz⟩:=kQ.mp z
   obtain⟨i,hi,e⟩:=dA hd
   have hz:(d,S.ls[i]'(by omega))∈S.ds.zip S.ls:=by
    refine fN.mpr ⟨i,by rw[iA];omega,?_⟩
    rw[List.getElem_zip,e]
   obtain⟨v,_,q⟩:=Hc d3 _ hz
   cases d with
   | stop b L1 =>
    obtain rfl:=ax.mp oz
    obtain⟨_,ts,e,_⟩:=q
    exact⟨_,e⟩
   | coup a b s=>exact nomatch oz
   | mute b=>exact nomatch oz
  ·obtain⟨l,_,q⟩:=Hc h.c _ z
   exact⟨_,q⟩
 obtain⟨o,e⟩:=key
 rw[hL] at e
 cases e
theorem Ed.nj {K:W.Frag} {aB aP aM:Addr} {bb:Str} {S:Pl} {lo:V} (h:Ed K aB aP aM bb S lo) (hb:Ib bb) {i:Nat} {x:Str × Nat} (hx:S.bs[i]? = some x):isNm x.1:=by
 obtain⟨m,_,e⟩:=h.nb x (al hx)
 rw[e]
 exact GR hb m
noncomputable abbrev RJ (l:List Nat):List V:=l.map λn:Nat=>V.int (n:Int)
theorem We (l:List Nat):(RJ l).all GK=true:=cw.mpr λv hv=>by
 obtain⟨n,_,rfl⟩:=ay.mp hv
 rfl
theorem YD (j:Nat) (js:List Nat):inV (.int (j:Nat)) (RJ js)=decide (j∈js):=by
 rw[dE,decide_eq_true_eq]
 unfold inV
 rw[gi]
 constructor
 ·rintro⟨y,hy,e⟩
  obtain⟨n,hn,rfl⟩:=ay.mp hy
  have e':(((n:Nat):Int) == ((j:Nat):Int))=true:=e
  have e2:((n:Nat):Int)=(j:Nat):=eq_of_beq e'
  have:n=j:=by omega
  subst this
  exact hn
 ·intro h
  exact⟨_,List.mem_map_of_mem h,by show (((j:Nat):Int) == ((j:Nat):Int))=true;exact beq_self_eq_true _⟩
noncomputable def YJ (ks:List R) (i:Nat):Bool:=match ks[i]? with
 | some k=>decide (V.str k.w=V.str "stop")
 | none=>false
noncomputable def J_ (ks:List R):List Nat:=(List.range ks.length).filter (YJ ks)
theorem Ov {ks:List R} {i:Nat} (h:i∈J_ ks):∃ k,ks[i]? = some k/\k.w = "stop":=by
 have h2:=(cq.mp h).2
 unfold YJ at h2
 split at h2
 ·exact⟨_,by assumption,V.str.inj (of_decide_eq_true h2)⟩
 ·cases h2
theorem V4 {ks:List R} (h:0<(ks.filter λr=>decide (V.str r.w=V.str "stop")).length):0<(J_ ks).length:=by
 obtain⟨r,hr⟩:=List.exists_mem_of_length_pos h
 obtain⟨h1,h2⟩:=cq.mp hr
 obtain⟨i,hi,e⟩:=dA h1
 refine List.length_pos_of_mem (a:=i) (cq.mpr ⟨gu.mpr hi,?_⟩)
 unfold YJ
 rw[af hi,e]
 exact h2
noncomputable def pD (ks:List R):V->V
 | .int i=>.str (Jy ks i.toNat)
 | _=>.non
theorem Mx (ns:List Int) {lo hi:Int} (h0:0<=lo) (h1:lo<=hi):∃ ms:List Int,Cm (ns.map V.int) (some lo) (some hi)=ms.map V.int/\(ms.length:Int)<=hi - lo:=by
 obtain⟨a,rfl⟩:=de h0
 obtain⟨b,rfl⟩:=Int.eq_ofNat_of_zero_le (show 0<=hi by omega)
 unfold Cm
 refine⟨(ns.drop (HT.Ds (ns.map V.int).length 0 (some (a:Int)))).take (HT.Ds (ns.map V.int).length (ns.map V.int).length (some (b:Int)) - HT.Ds (ns.map V.int).length 0 (some (a:Int))),?_,?_⟩
 ·rw[<-List.map_drop,<-kL]
 ·rw[cE,fE,HT.Dl,HT.Dl]
  omega
noncomputable abbrev Jf (a1 a2 a3 a4 a5 a6:Addr):List (Key × V):=[(Sum.inr "rows",.ref a1),(Sum.inr "boards",.ref a2),(Sum.inr "ranks",.ref a3),(Sum.inr "knobs",.ref a4),(Sum.inr "details",.ref a5),(Sum.inr "steps",.ref a6),(Sum.inr "lines",.non)]
theorem Bg.new {H H7:Hp} {p a1 a2 a3 a4 a5 a6:Addr} (s:Ak H H7) (f0:H p=none) (f1:H a1=none) (f2:H a2=none) (f3:H a3=none) (f4:H a4=none) (f5:H a5=none) (f6:H a6=none) (e0:H7 p=some (.dK []))
  (e1:H7 a1=some (.lst [])) (e2:H7 a2=some (.lst [])) (e3:H7 a3=some (.lst [])) (e4:H7 a4=some (.lst [])) (e5:H7 a5=some (.lst [])) (e6:H7 a6=some (.lst [])) (nd:[a1,a2,a3,a4,a5,a6].Nodup) :
  Bg H (upd H7 p (.dK (Di [] (Jf a1 a2 a3 a4 a5 a6)))) ⟨p,a1,a2,a3,a4,a5,a6⟩ ⟨[],[],[],[],[],[],[]⟩ [] .non:=by
 have lt:∀ {a:Addr},H7 a=some (.lst [])->upd H7 p (.dK (Di [] (Jf a1 a2 a3 a4 a5 a6))) a=some (.lst []):=λ{a} h=>by
  rw[Ao (Oz h e0 (by intro z;cases z))]
  exact h
 have em:Di [] (Jf a1 a2 a3 a4 a5 a6)=putK (putK (putK (putK (putK (putK (putK [] (Sum.inr ("rows" : Str):Key) (.ref a1)) (Sum.inr ("boards" : Str):Key) (.ref a2)) (Sum.inr ("ranks" : Str):Key) (.ref a3)) (Sum.inr ("knobs" : Str):Key) (.ref a4)) (Sum.inr ("details" : Str):Key) (.ref a5)) (Sum.inr ("steps" : Str):Key) (.ref a6)) (Sum.inr ("lines" : Str):Key) .non:=by
  simp only[Di,Jf,List.foldl_cons,List.foldl_nil]
 have w0:Cq (Di [] (Jf a1 a2 a3 a4 a5 a6)) (Sum.inr ("rows" : Str):Key)=some (.ref a1):=by
  rw[em,Bb,if_neg (by decide +kernel),Bb,if_neg (by decide +kernel),Bb,if_neg (by decide +kernel),Bb,if_neg (by decide +kernel),Bb,if_neg (by decide +kernel),Bb,if_neg (by decide +kernel),Bb,if_pos rfl]
 have w1:Cq (Di [] (Jf a1 a2 a3 a4 a5 a6)) (Sum.inr ("boards" : Str):Key)=some (.ref a2):=by
  rw[em,Bb,if_neg (by decide +kernel),Bb,if_neg (by decide +kernel),Bb,if_neg (by decide +kernel),Bb,if_neg (by decide +kernel),Bb,if_neg (by decide +kernel),Bb,if_pos rfl]
 have w2:Cq (Di [] (Jf a1 a2 a3 a4 a5 a6)) (Sum.inr ("ranks" : Str):Key)=some (.ref a3):=by
  rw[em,Bb,if_neg (by decide +kernel),Bb,if_neg (by decide +kernel),Bb,if_neg (by decide +kernel),Bb,if_neg (by decide +kernel),Bb,if_pos rfl]
 have w3:Cq (Di [] (Jf a1 a2 a3 a4 a5 a6)) (Sum.inr ("knobs" : Str):Key)=some (.ref a4):=by
  rw[em,Bb,if_neg (by decide +kernel),Bb,if_neg (by decide +kernel),Bb,if_neg (by decide +kernel),Bb,if_pos rfl]
 have w4:Cq (Di [] (Jf a1 a2 a3 a4 a5 a6)) (Sum.inr ("details" : Str):Key)=some (.ref a5):=by
  rw[em,Bb,if_neg (by decide +kernel),Bb,if_neg (by decide +kernel),Bb,if_pos rfl]
 have w5:Cq (Di [] (Jf a1 a2 a3 a4 a5 a6)) (Sum.inr ("steps" : Str):Key)=some (.ref a6):=by
  rw[em,Bb,if_neg (by decide +kernel),Bb,if_pos rfl]
 have w6:Cq (Di [] (Jf a1 a2 a3 a4 a5 a6)) (Sum.inr ("lines" : Str):Key)=some (.non):=by
  rw[em,Bb,if_pos rfl]
 have w7:(Di [] (Jf a1 a2 a3 a4 a5 a6)).length<=7:=by
  rw[em]
  refine bp (CP _ _ _) (cK ?_)
  refine bp (CP _ _ _) (cK ?_)
  refine bp (CP _ _ _) (cK ?_)
  refine bp (CP _ _ _) (cK ?_)
  refine bp (CP _ _ _) (cK ?_)
  refine bp (CP _ _ _) (cK ?_)
  exact CP _ _ _
 refine⟨⟨_,Af,w7,w0,w1,w2,w3,w4,w5,w6⟩,nd,Dq s f0,f0,?_,⟨[],lt e1,.nil⟩,⟨[],lt e2,.nil⟩,⟨[],lt e3,.nil⟩,⟨[],lt e4,.nil⟩,⟨[],lt e5,rfl,.nil⟩,lt e6,.nil⟩
 intro a ha
 simp only[List.mem_cons] at ha
 rcases ha with rfl | rfl | rfl | rfl | rfl | rfl | z
 ·exact f1
 ·exact f2
 ·exact f3
 ·exact f4
 ·exact f5
 ·exact f6
 ·exact nomatch z
theorem Ed.new (bb:Str):Ed K aB aP aM bb ⟨[],[],[],[],[],[],[]⟩ .non :=
 ⟨HY.nil,(λ_ z=>nomatch z),(λ_ z=>nomatch z),(λ_ z=>nomatch z),ic,ic,ic,dc _,(λ_ z=>nomatch z),dc _,(λ_ z=>nomatch z),ar _,.nil,(λ_ z=>nomatch z),.inl rfl⟩
theorem Bg.stand {H0 H:Hp} {A:MK} {S:Pl} {Cs:List Addr} {lo:V} {q:Addr} {o:HO} (h:Bg H0 H A S Cs lo) (hq:H q=some o) (hp:A.p ≠ q) (hn:∀ a∈A.r::A.b::A.k::A.n::A.d::A.s::S.Ls,a ≠ q):Bg (upd H0 q o) H A S Cs lo:=by
 refine⟨h.dp,h.nd,λb u e=>?_,by rw[Ao hp];exact h.f0,λa ha=>by rw[Ao (hn a ha)];exact h.fr a ha,h.r,h.b,h.k,h.n,h.d,h.s,h.c⟩
 by_cases z:b=q
 ·subst z
  rw[Af] at e
  rw[hq,<-e]
 ·rw[Ao z] at e
  exact h.sm _ _ e
theorem Bg.weak {H0 H:Hp} {A:MK} {S:Pl} {Cs:List Addr} {lo:V} {q:Addr} {o:HO} (h:Bg (upd H0 q o) H A S Cs lo) (h0:H0 q=none):Bg H0 H A S Cs lo:=by
 have s0:Ak H0 (upd H0 q o):=Aw h0
 exact⟨h.dp,h.nd,s0.trans h.sm,s0.free h.f0,λa ha=>s0.free (h.fr a ha),h.r,h.b,h.k,h.n,h.d,h.s,h.c⟩
theorem qm (z:Str):inV (.str z) [.str "stop",.str "line"]=true ↔ z = "stop" \/ z = "line":=by
 unfold inV
 simp[T_]
 constructor
 ·rintro (h | h)
  ·exact .inl h.symm
  ·exact .inr h.symm
 ·rintro (h | h)
  ·exact .inl h.symm
  ·exact .inr h.symm
end
noncomputable def dU (x:V):Prop:=(∃ t,x=.str t) \/ ∃ i,x=.int i
theorem dU.flat {x:V} (h:dU x):GK x=true:=by
 rcases h with⟨t,rfl⟩ | ⟨i,rfl⟩ <;> rfl
theorem Pb {H:Hp}:∀ {l:List V},(∀ x∈l,dU x)->Paired (Dp 0 H) l l
 | [],_=>.nil
 | x::l,h=>.cons ⟨rfl,(h x (av ..)).flat⟩ (Pb λy hy=>h y (aI _ hy))
theorem O8 {α:Type} {H:Hp} {f:α->List V}:∀ {l:List α} {xs ys:List V},Paired (λa y=>TupAt H (f a) y) l xs->Paired (λa y=>TupAt H (f a) y) l ys->(∀ a∈l,∀ x∈f a,dU x)->Paired (Dp 1 H) xs ys
 | [],_,_,h1,h2,_=>by
  cases h1
  cases h2
  exact .nil
 | a::l,_,_,h1,h2,hp=>by
  cases h1 with
  | cons p q =>
   cases h2 with
   | cons p' q' =>
    obtain⟨T,rfl,e⟩:=p
    obtain⟨T',rfl,e'⟩:=p'
    exact .cons (.inr ⟨T,T',_,_,rfl,rfl,.inr ⟨e,e'⟩,Pb (hp a (av ..))⟩) (O8 q q' λb hb=>hp b (aI _ hb))
noncomputable def uE (H:Hp) (vs:List V):Prop:=∀ v∈vs,∃ (T:Addr) (xs:List V),v=.ref T/\H T=some (.tup xs)/\∀ x∈xs,dU x
variable {K:W.Frag} {aB aP aM:Addr}
noncomputable def Oe (rows:List R):V->R
 | .int i=>(rows[i.toNat]?).getD ⟨"","",[]⟩
 | _=>⟨"","",[]⟩
theorem HY.parts {rows:List R} {bs:List (Str × Nat)} {rk:List (Str × Nat × Int)} {ks:List R} {ls:List (List Ln)} {f':List Nat} (h:HY K aB aP aM rows bs rk ks ls f'):∀ r∈rows,∀ x∈r.v,dU x:=by
 have em:((List.range rows.length).map λi:Nat=>V.int (i:Int)).map (Oe rows)=rows:=by
  rw[bg]
  refine iP λi=>?_
  rw[br]
  by_cases hi:i<rows.length
  ·rw[List.getElem?_range hi,af hi]
   show some (Oe rows (V.int (i:Int)))=_
   show some ((rows[((i:Nat):Int).toNat]?).getD ⟨"","",[]⟩)=_
   rw[eJ,af hi]
   rfl
  ·rw[fo (by rw[fS];omega),fo (by omega)]
   rfl
 have O:=h.ok (Oe rows) _ em
 intro r hr
 rw[<-em] at hr
 obtain⟨v,hv,rfl⟩:=ay.mp hr
 obtain⟨i,hi,e⟩:=dA hv
 have ok:=O.ok i v (by rw[af hi,e])
 generalize Oe rows v=r at ok |-
 intro x hx
 rcases List.mem_cons.mp (show x∈V.str r.w::(V.str r.nm::r.rest) from hx) with rfl | hx
 ·exact .inl ⟨_,rfl⟩
 rcases ok with ok | ok
 ·obtain⟨ap,ps,_,_,hlen,_,oI⟩:=ok.parts
  obtain⟨j,hj,e⟩:=dA hx
  have hp:=oI j x ps[j] (by rw[af hj,e]) (af (by omega))
  rcases hp with⟨i,_,_,_,rfl,_⟩ | hp
  ·exact .inr ⟨_,rfl⟩
  ·rcases hp with⟨_,_,t,rfl,_⟩ | ⟨_,_,t,rfl,_⟩
   ·exact .inl ⟨t,rfl⟩
   ·exact .inl ⟨t,rfl⟩
 ·obtain⟨ts,lj,_⟩:=ok.ts
  rw[lj] at hx
  obtain⟨t,_,rfl⟩:=ay.mp hx
  exact .inl ⟨t,rfl⟩
end Og
namespace L2
open PySem PySem.Spec PyProof.Rows
section
variable {X:Cx}
end
open PySem PySem.Spec PySem.Calls PySem.Builtin PySem.Builtin.Str PyProof.Rows
section
variable {X:Cx}
theorem Wf:dR X "str.upper" (λx xs H Q=>∃ z,x=V.str z/\xs=[]/\z.length<=1000/\(∀ c∈z.cps.toList,c<128)/\Q (.str ⟨z.cps.map up1⟩) H):=by
 intro a7 s σ H x xs v us Q I rx r h
 obtain⟨z,rfl,rfl,hl,hA,q⟩:=h
 obtain⟨t,rfl⟩:=rx
 have hus:=r.zero
 subst hus
 have e:=placed_single z (λ_ c=>Unicode.upperOf c) up1 λi c hc=>upperOf_ascii c (hA c (al hc))
 have hfit:Builtin.Str.tooLong (placed z λ_ c=>Unicode.upperOf c).size=false:=by
  rw[e,Array.size_map]
  show decide (z.length > sizeLine)=false
  exact decide_eq_false (Nat.not_lt.mpr (bp hl (by decide)))
 refine call_gives F.slot_str_upper (typeIs_str _ _ _) F.entry_str_upper (F.args_str_upper_1 _) (gives_str_upper z t hfit) ?_
 rw[e]
 exact⟨fit_le (by rw[<-e];exact hfit),.str _,H,I.tok _,⟨_,rfl⟩,q⟩
end
end L2
namespace Og
open PySem L2
noncomputable def Tx (t:Str):Prop:=t.length<=1000/\∀ c∈t.cps.toList,c<128
theorem isNm.tx {t:Str} (h:isNm t):Tx t:=⟨by have:=h.2.1;omega,λc hc=>by have:=h.2.2 c hc;omega⟩
inductive Eo (H:Hp):V->Prop where
 | non:Eo H .non
 | bl (b:Bool):Eo H (.bl b)
 | int (i:Int):Eo H (.int i)
 | lst {a:Addr} {xs:List V} (h:H a=some (.lst xs)):Eo H (.ref a)
 | tup {a:Addr} {xs:List V} (h:H a=some (.tup xs)):Eo H (.ref a)
 | str {t:Str} (h:Tx t):Eo H (.str t)
theorem Eo.mono {H H':Hp} {v:V} (s:Ak H H') (h:Eo H v):Eo H' v:=by
 cases h with
 | non=>exact .non
 | bl b=>exact .bl b
 | int i=>exact .int i
 | lst h=>exact .lst (s _ _ h)
 | tup h=>exact .tup (s _ _ h)
 | str h=>exact .str h
noncomputable def Ri (K:W.Frag) (C:Addr):Bool:=(W.findIn K (.ref C) "__getattribute__" == some (some (.builtin "BaseException.__getattribute__"))) && (W.findIn K (.ref C) "__getattr__" == some none) &&
 (W.mroIn K C (.type "BaseException") == some true) && W.hasDictIn K C && (W.findIn K (.ref C) "__class__" == some (some (.builtin "object.__class__"))) &&
 (W.specialIn K (.builtin "object.__class__") "__get__" == some (some (.builtin "getset_descriptor.__get__"))) && (W.takesIn K (.builtin "object.__class__") == some true) && (W.mroIn K C (.type "object") == some true) && W.keepIn K (.ref C)
theorem QG {K:W.Frag} {C:Addr} (h:Ri K C=true):Iz K C/\W.keepIn K (.ref C)=true:=by
 simp only[Ri,Bool.and_eq_true,beq_iff_eq] at h
 obtain⟨⟨⟨⟨⟨⟨⟨⟨h1,h2⟩,h3⟩,h4⟩,h5⟩,h6⟩,h7⟩,h8⟩,h9⟩:=h
 exact⟨⟨h1,h2,h3,h4,h5,h6,h7,h8⟩,h9⟩
noncomputable def rY (K:W.Frag) (C cO:Addr) (ds:List Addr):Bool :=
 Ri K C && (W.kitOne K (.ref C) (.ref C) == some true) && (W.kitOne K (.ref C) (.type "ValueError") == some true) && (W.kitAny K (.ref C) (ds.map Value.ref) == some false) && (ds.all λD=>W.kitOne K (.ref C) (.ref D) == some false) &&
 W.excIn K C U8 "ValueError.__new__" && (W.mroIn K C (.ref cO) == some true)
structure Rc (K:W.Frag) (C cO:Addr) (ds:List Addr):Prop where
 xc:Iz K C
 kp:W.keepIn K (.ref C)=true
 k0:W.kitOne K (.ref C) (.ref C)=some true
 kv:W.kitOne K (.ref C) (.type "ValueError")=some true
 ka:W.kitAny K (.ref C) (ds.map Value.ref)=some false
 kf:∀ D∈ds,W.kitOne K (.ref C) (.ref D)=some false
 ex:W.excIn K C U8 "ValueError.__new__" = true
 mro:W.mroIn K C (.ref cO)=some true
noncomputable abbrev bj:List Str:=["__init__","draw","pull","push","store","press","cancel","shoe","drawn","knobs","step"]
structure iW (Cy:Addr) (H:Hp) (y x:Addr) (dr sh:Nat) (sd:Addr):Prop where
 ex:∃ dy fs,H y=some (.ins Cy dy fs)/\fs.lookup ("organ" : Str)=some (.ref x)/\fs.lookup ("drawn_set" : Str)=some (.int (dr:Nat))/\fs.lookup ("shoe_step" : Str)=some (.int (sh:Nat))/\fs.lookup ("stored" : Str)=some (.ref sd)/\fs.length<=4/\∀ m∈bj,fs.lookup m=none
structure tW (C Cy:Addr) (Ho H:Hp) (y x:Addr) (us:List V) (bs:List (Str × Nat)) (rk:List (Str × Nat × Int)) (ks:List R) (ls:List (List Ln)) (f':List Nat) (dr sh:Nat) (sd:Addr):Prop where
 o:Q3 C Ho x us bs rk ks ls f'
 s:Ak Ho H
 n:Ho y=none
 c:iW Cy H y x dr sh sd
end Og
namespace L2
open PySem PySem.Spec PySem.Calls PyProof.Rows
noncomputable def Hh (x C:Addr) (od:Option Addr):HO:=.ext λh=>∃ (vs:Array Value) (sl:Array (Option Value)),h.get? x=some ⟨.ref C,od,.fields vs,sl⟩/\vs[1]? = some .none
section
variable {P:Program} {w:World} {H:Hp} {h:Heap} {x C:Addr} {od:Option Addr}
theorem Sw {vs:Array Value} {sl:Array (Option Value)} (e:h.get? x=some ⟨.ref C,od,.fields vs,sl⟩) (n:vs[1]? = some .none):Bt P w H h x (Hh x C od) :=
 ⟨⟨vs,sl,e,n⟩,⟨_,e⟩,λ_ _ ⟨d,sl,e,n⟩ k=>⟨d,sl,k _ e,n⟩⟩
end
section
variable {X:Cx} {a7:List (Addr × Obj)} {σ:St} {H:Hp} {s:Shared} {h':Heap} {x C dx:Addr} {f:Str} {y:V} {u:Value}
theorem Inv.gW {t':Nat} {vs:Array Value} {sl:Array (Option Value)} (I:Inv X a7 σ H s) (e:H x=some (Hh x C none)) (hd:s.heap.objs.size=dx) (hn:h'.Ns1 dx (λz=>if z=f then some u else none)) (hx:h'.get? x=some ⟨.ref C,some dx,.fields vs,sl⟩) (nc:vs[1]? = some .none)
  (hk:∀ b o,b ≠ x->s.heap.get? b=some o->h'.get? b=some o) (ry:RelV y u):Inv X a7 σ (upd (upd H dx (V6 dx [(f,y)])) x (Hh x C (some dx))) { s with heap:=h',toks:=t' }:=by
 have hdn:H dx=none:=I.hok.fresh (kx hd)
 have hdx:dx ≠ x:=λz=>by rw[z,e] at hdn;cases hdn
 have nx:∀ b,H b=none->b ≠ x:=λb n z=>by rw[z,e] at n;cases n
 have nd:∀ b o,s.heap.get? b=some o->b ≠ dx:=λb o q z=>by
  have:=Heap.lt_size q
  rw[z,<-hd] at this
  exact fR _ this
 have ndH:∀ b o,H b=some o->b ≠ dx:=λb o q=>Al q hdn
 have nxH:∀ b o,H b=some o->o ≠ Hh x C none->b ≠ x:=λb o q ne z=>by rw[z,e] at q;exact ne (Option.some.inj q).symm
 have oth:∀ b,b ≠ x->b ≠ dx->upd (upd H dx (V6 dx [(f,y)])) x (Hh x C (some dx)) b=H b:=λb h1 h2=>by rw[Ao h1,Ao h2]
 refine I.un ⟨λb o q n _ _=>hk b o (nx b n) q,λb o q n _ _=>⟨o.slots,hk b o (nx b n) q⟩,λb o q n _=>by rw[oth b (nx b n) (nd b o q)];exact n,λb o q _=>?_,λb xs q=>?_,λb o u q=>?_,λb ps q=>⟨#[],?_⟩⟩ λb o q=>?_
 ·by_cases hb:b=x
  ·subst hb;exact⟨_,hx⟩
  ·exact⟨o,hk b o hb q⟩
 ·rw[oth b (nxH b _ q (by intro z;cases z)) (ndH b _ q)];exact q
 ·rw[oth b (nxH b _ q (by intro z;cases z)) (ndH b _ q)];exact q
 ·rw[oth b (nxH b _ q (by intro z;cases z)) (ndH b _ q),q];simp
 ·by_cases hb:b=x
  ·subst hb;rw[Af] at q;cases q;exact Sw hx nc
  ·rw[Ao hb] at q
   by_cases hb2:b=dx
   ·subst hb2
    rw[Af] at q
    cases q
    refine cY hn λg=>?_
    show Gr (List.lookup g [(f,y)]) (if g=f then some u else none)
    by_cases hg:g=f
    ·subst hg
     simp only[List.lookup,beq_self_eq_true,if_true]
     exact ry
    ·have hg':(g == f)=false:=beq_eq_false_iff_ne.mpr hg
     simp only[List.lookup,hg',if_neg hg]
     exact True.intro
   ·rw[Ao hb2] at q
    have own:∀ c,H c=some (.own b)->c ≠ x:=λc qc=>nxH c _ qc (by intro z;cases z)
    refine (I.hok b o q).stay (λc v hc qc=>hk c v ?_ qc) (λc qc=>by rw[oth c (own c qc) (ndH c _ qc)];exact qc) λc xs qc=>by rw[oth c (nxH c _ qc (by intro z;cases z)) (ndH c _ qc)];exact qc
    rcases hc with z | z
    ·rw[z];exact hb
    ·exact own c z
end
section
variable {X:Cx} {o value:Expr} {f:Str} {pos i3:Pos} {ta tv:TE}
noncomputable def aJ (K:W.Frag) (ta tv:TE) (f:Str):TS:=λD σ H=>tv σ H λy H1=>ta σ H1 λz H2=>∃ x C,z=.ref x/\H2 x=some (Hh x C none)/\Iz K C/\au K C/\DP K C f /\
 ∀ dx,H2 dx=none->dx ≠ x->D.nx σ (upd (upd H2 dx (V6 dx [(f,y)])) x (Hh x C (some dx)))
theorem Vp (ha:PE X o ta) (hv:PE X value tv) (hs:swapsWith value (some (.Attribute o f i3)) pos.line X.env=pure false):PS X (.Assign [.Attribute o f i3] value pos) (aJ X.K ta tv f):=by
 intro a7 s σ H D I h
 refine plainObj_wpAny_Assign_Attribute (CW (hv a7 s σ H _ I h) λu s1 ⟨y,H1,I1,ry,q⟩=>CW (ha a7 s1 σ H1 _ I1 q) λov s2 ⟨z,H2,I2,rz,x,C,ez,ea,c,S,n,q2⟩=>?_) hs
 subst ez
 obtain rfl:ov=Value.ref x:=rz
 obtain⟨⟨vs,sl,e1,nc⟩,_,_⟩:=(show Bt X.prog X.w H2 s2.heap x (Hh x C none) from I2.hok x _ ea)
 have J:W.InstAt s2.heap x ⟨.ref C,none,.fields vs,sl⟩ C none:=⟨e1,rfl,rfl,trivial⟩
 refine W.set_plain I2.Gv J S.sa (Yq (s:={ s2 with toks:=s2.toks+1 }) I2.Gv e1 rfl c S n λh' yX hn hx hk=>?_)
 have I3:=I2.gW (t':=yX) (f:=f) (y:=y) (u:=u) ea rfl hn hx nc hk ry
 have hdn:H2 s2.heap.objs.size=none:=I2.hok.fresh (ar _)
 have hdx:s2.heap.objs.size ≠ x:=λz=>by rw[z,ea] at hdn;cases hdn
 exact⟨σ,_,I3,q2 _ hdn hdx⟩
end
noncomputable def W9 (K:W.Frag) (C:Addr) (f:Str):Sp:=λvs H Q _=>∃ x v,vs=[.ref x,v]/\H x=some (Hh x C none)/\∀ dx,H dx=none->dx ≠ x->Q .non (upd (upd H dx (V6 dx [(f,v)])) x (Hh x C (some dx)))
noncomputable def del (H:Hp) (x:Addr):Hp:=λb=>if b=x then none else H b
theorem Jq {H:Hp} {x b:Addr} (h:b ≠ x):del H x b=H b:=if_neg h
theorem Ja {H:Hp} {x:Addr}:del H x x=none:=if_pos rfl
noncomputable def Y7 (X:Cx) (C:Addr) (E:XK):Prop:=∀ (a7:List (Addr × Obj)) (σ:St) (H1 H3:Hp) (s1 s3:Shared) (x dx:Addr),Inv X a7 σ H1 s1->s1.heap.get? x=none->Inv X a7 σ H3 s3->H3 x=some (Hh x C (some dx))->E (.ref C) (some dx) (del H3 x)->X.xe (.ref x) s3
theorem JQ {P:Program} {w:World} {K:W.Frag} {mg:Str->Option Value} {base:Heap} {N:List Str} {qual:Str} {scope:Scope} {f:Addr} {cd:Value} {A:Around} {outer:List Env} {s:Shared} {H:Hp} {E:XK} {C:Addr} :
  Y7 (K8 (S7 P w) P w K mg base N qual scope f cd A outer s H E) C E:=by
 intro a7 σ H1 H3 s1 s3 x dx I1 hx1 I Go q
 have gone:∀ b,s1.heap.get? b=none->s.heap.get? b=none:=λb e=>by
  cases z:s.heap.get? b with
  | none=>rfl
  | some o =>
   obtain⟨o',e'⟩:=I1.base.there b o z (by show b ∉ ([]:List Addr);simp)
   rw[e] at e';cases e'
 have hxs:s.heap.get? x=none:=gone x hx1
 obtain⟨⟨vs,sl,he,hv⟩,_,_⟩:=(show Bt P w H3 s3.heap x (Hh x C (some dx)) from I.hok x _ Go)
 have frees:∀ b∈frs (envOfC qual scope s.heap.objs.size f cd::outer),del H3 x b=none:=λb hb=>by
  by_cases hbx:b=x
  ·rw[hbx];exact Ja
  ·rw[Jq hbx];exact I.IW b hb
 have hfr:(A.deeper (envOfC qual scope s.heap.objs.size f cd)).frames=some (envOfC qual scope s.heap.objs.size f cd::outer):=I.ok.frames
 have hff:s3.heap.FunFrames base (envOfC qual scope s.heap.objs.size f cd::outer):=I.stack
 have nT:∀ b o,H3 b=some o->(∀ z,o ≠ Hh z C (some dx))->del H3 x b=some o:=λb o e n=>by
  by_cases hbx:b=x
  ·rw[hbx,Go] at e
   exact absurd (Option.some.inj e).symm (n x)
  ·rw[Jq hbx];exact e
 have hok1:Fd P w (del H3 x) s3.heap:=λb o e=>by
  by_cases hbx:b=x
  ·rw[hbx,Ja] at e;cases e
  rw[Jq hbx] at e
  exact (I.hok b o e).stay (λc v _ q=>q) (λc qc=>nT c _ qc (λz=>by intro q;cases q)) λc xs qc=>nT c _ qc (λz=>by intro q;cases q)
 have u00:Un (frs outer) [] H H3 s.heap s3.heap:=I.base
 have u0:Un (frs outer) [] H (del H3 x) s.heap s3.heap:=by
  refine⟨u00.keep,u00.slot,λb o e n hb=>?_,u00.there,λb xs e=>?_,λb o u e=>?_,λb ps e=>?_⟩
  ·by_cases hbx:b=x
   ·rw[hbx];exact Ja
   ·rw[Jq hbx];exact u00.free b o e n hb
  ·exact nT b _ (u00.tups b xs e) (λz=>by intro q;cases q)
  ·exact nT b _ (u00.frzs b o u e) (λz=>by intro q;cases q)
  ·obtain⟨more,e1⟩:=u00.tbls b ps e
   exact⟨more,nT b _ e1 (λz=>by intro q;cases q)⟩
 have fsN:∀ b∈frs (envOfC qual scope s.heap.objs.size f cd::outer),b ∉ frs outer->s.heap.get? b=none:=λb hb hn=>by
  rcases List.mem_cons.mp (show b∈s.heap.objs.size::frs outer from hb) with z | z
  ·rw[z];exact Heap.get?_none_of_le (ar _)
  ·exact absurd z hn
 have hx0:del H3 x x=none:=Ja
 show wpAny (model P w) (A.deeper (envOfC qual scope s.heap.objs.size f cd)) (leaving (envOfC qual scope s.heap.objs.size f cd) (.ref x)) _ _ _
 unfold leaving
 refine wpAny_bind (Q5 (s:=s3) (L:=s.heap.objs.size) hfr hff rfl he hv λh2 T y m n=>?_)
 refine GC (s:={ s3 with heap:=h2 }) y λh3 y3 m3=>?_
 have nT3:s.heap.get? T=none:=by
  cases z:s.heap.get? T with
  | none=>rfl
  | some o =>
   obtain⟨o',e'⟩:=u0.there T o z (by simp)
   have n3':s3.heap.get? T=none:=n
   rw[n3'] at e';cases e'
 have hT1:del H3 x T=none:=hok1.none_of n
 have hokB:Fd P w (del H3 x) h2:=hok1.mv m hx0 hx0 frees
 have hokC:Fd P w (del H3 x) h3:=hokB.mv m3 hx0 hT1 (λ_ z=>nomatch z)
 have uB:Un (frs outer) [] H (del H3 x) s.heap h2:=u0.mv m hxs hxs fsN
 have uC:Un (frs outer) [] H (del H3 x) s.heap h3:=uB.mv m3 hxs nT3 (λ_ z=>nomatch z)
 exact⟨x,T,C,some dx,del H3 x,rfl,I.os,I.bare,y3,hxs,nT3,hx0,hT1,hokC,uC,q⟩
section
variable {X:Cx} {C f:Addr} {fd:FuncData} {ps:List Str} {k:Nat} {fn x:Str} {e:Expr} {t:TA} {np i5 pos:Pos} {E:XK}
noncomputable def Ye (C:Addr) (fn:Str) (E:XK) (t:TA):TS:=λ_ σ H=>t σ H λvs H1=>∃ v,vs=[v]/\∀ dx H4,H1 dx=none->Ak H1 H4->H4 dx=some (V6 dx [(fn,v)])->E (.ref C) (some dx) H4
theorem HF {M:Model} {A:Around} {E:vSP} {env:Env} {nm q:Str} {C N:Addr} {bs bm:List Value} {hdct:Bool} {sn:List Str} {sub:List Value} {ab:Bool} {col:Option Bool} {dd:Option Addr} {k0 k1 k2 k3 k5:Option Value} {newId:String} {s:Shared} {x:Sem Value} {Q:Flow->Shared->Prop} (hbase:bm.contains (.type "BaseException")=true) (hh:A.handled=none)
  (h:wpAny M A x (λv s₁=>∃ e od vs sl,v=.ref e/\s₁.heap.get? C=some (excClassObj nm q C N bs bm hdct sn sub ab col dd k0 k1 k2 k3 k5 newId) /\
   s₁.heap.get? e=some ⟨.ref C,od,.fields vs,sl⟩/\vs[1]? = some .none/\E (.ref e) s₁) E s) :
  wpAny M A (raiseStmt env (some x) none) Q E s:=by
 have hcB:(Value.ref C::bm).contains (.type "BaseException")=true:=by rw[List.contains_cons,hbase,Bool.or_true]
 unfold raiseStmt
 refine wpAny_bind (wpAny_mono h (λv s₁ h₁=>?_) λ_ _ x=>x)
 obtain⟨e,od,vs,sl,rfl,hC,he,NM,hE⟩:=h₁
 obtain⟨hp,g,d,tk,os⟩:=s₁
 repeat (first | with_reducible refine wpAny_loadPart_at he ?_ | with_reducible refine wpAny_loadPart_at hC ?_ | (with_reducible refine wpAny_isSubtype_exc hC ?_;rw[hcB]) | wp_step)
 rw[NM]
 refine wpAny_pure ?_
 rw[if_neg (by decide)]
 exact wpAny_pure (wpAny_raiseNew_none hh hE)
theorem KH {prog:Program} {w:World} {A:Around} {E:vSP} {s:Shared} {env:Env} {nm q:Str} {C N:Addr} {bs bm:List Value} {hdct:Bool} {sn:List Str} {sub:List Value} {ab:Bool} {col:Option Bool} {dd:Option Addr} {k0 k1 k2 k3 k5:Option Value} {newId:String} {e:Expr} {pos:Pos} {Q:Flow->Shared->Prop} (hbase:bm.contains (.type "BaseException")=true) (hh:A.handled=none)
  (h:wpAny (model prog w) A (eval e env) (λv s₁=>∃ x od vs sl,v=.ref x/\s₁.heap.get? C=some (excClassObj nm q C N bs bm hdct sn sub ab col dd k0 k1 k2 k3 k5 newId) /\
   s₁.heap.get? x=some ⟨.ref C,od,.fields vs,sl⟩/\vs[1]? = some .none/\E (.ref x) s₁) E s) :
  wpAny (model prog w) A (exec (.Raise (some e) none pos) env) Q E s:=by
 rw[arm_exec_Raise]
 first
  | exact wpAny_bind (wpAny_standAt (HF hbase hh (wpAny_bind (wpAny_mono h (λv s₃ h₃=>wpAny_bind (wpAny_standAt (wpAny_pure h₃))) λ_ _ x=>x))))
  | (simp only[evalOpt,Option.map];exact wpAny_bind (wpAny_standAt (HF hbase hh (wpAny_bind (wpAny_mono h (λv s₃ h₃=>wpAny_bind (wpAny_standAt (wpAny_pure h₃))) λ_ _ x=>x)))))
theorem IK (q:Iu X.K C=true) (hi:W.findIn X.K (.ref C) "__init__" = some (some (.ref f))) (hf:W.typeIn X.K (.ref f)=some (.type "function")) (kp:W.keepIn X.K (.ref C)=true)
  (F:A_ X.prog X.w X.K X.mg X.base Bh k f fd ps (W9 X.K C fn)) (hr:Ba (k+1) X.A) (hb:Binds X.K fd ps []) (hg:Gl X x) (hm:X.mg x=some (.ref C)) (hc:X.calm=true) (hl:Y7 X C E) (ha:PA X [e] t)
  (qS:(x == ("__debug__" : Str))=false:=by decide) (he:starEach [e] X.env=(false,eval e X.env)::starEach [] X.env:=by rfl) (hpl:(backTo i5 (starEach [] X.env)).any (·.1)=false:=by rfl) :
  PS X (.Raise (some (.Call (.Name x np) [e] [] i5)) none pos) (Ye C fn E t):=by
 intro a7 s σ H D I h
 obtain⟨bm,N,nm,qn,bs,hdct,sn,sub,ab,col,dd,k0,k1,k2,k3,k5,SV,TL⟩:=N5 I.ok.mod.kin q
 have hbase:bm.contains (.type "BaseException")=true:=TL.hasType (by decide)
 refine KH (C:=C) (nm:=nm) (q:=qn) (N:=N) (bs:=bs) (bm:=bm) (hdct:=hdct) (sn:=sn) (sub:=sub) (ab:=ab) (col:=col) (dd:=dd) (k0:=k0) (k1:=k1) (k2:=k2) (k3:=k3) (k5:=k5) (newId:="ValueError.__new__") hbase (I.ok.hd hc) ?_
 refine wpAny_Call_Name_kw (G4 I hg hm ?_ qS)
 refine W.callWith_K (h₀:=X.base) I.ok.mod.kin kp (CW (ha i5 a7 s σ H _ I h) λus s1 ⟨vs,H1,I1,r,v,ev,q1⟩=>⟨I1.Gv,?_⟩) he hpl
 subst ev
 have hz':us.length<=sizeLine:=by
  rw[<-r.length]
  exact Nat.le_of_lt (Av (by show 1<=1000;decide))
 have I2:=I1.laid (a:=s1.heap.objs.size+1) (o:=Hh (s1.heap.objs.size+1) C none) (h':=newX s1.heap C us) (t':=s1.toks) (Hx _ _ _) (iN _) (Sw (Pk _ _ _) rfl)
 have hn:H1 (s1.heap.objs.size+1)=none:=I1.hok.fresh (iN _)
 have hx1:s1.heap.get? (s1.heap.objs.size+1)=none:=Heap.get?_none_of_le (iN _)
 have hsp:W9 X.K C fn (V.ref (s1.heap.objs.size+1)::[v]) (upd H1 (s1.heap.objs.size+1) (Hh (s1.heap.objs.size+1) C none)) (λv' H3=>v'=.non/\∃ dx,H3 (s1.heap.objs.size+1)=some (Hh (s1.heap.objs.size+1) C (some dx))/\E (.ref C) (some dx) (del H3 (s1.heap.objs.size+1))) E0:=by
  refine⟨_,_,rfl,Af,λdx hdx hne=>⟨rfl,dx,Af,?_⟩⟩
  rw[Ao hne] at hdx
  refine q1 dx _ hdx (λb o eb=>?_) ?_
  ·have hb1:b ≠ s1.heap.objs.size+1:=Al eb hn
   have hb2:b ≠ dx:=Al eb hdx
   rw[Jq hb1,Ao hb1,Ao hb2,Ao hb1]
   exact eb
  ·rw[Jq hne,Ao hne]
   exact Af
 have r2:Vals (V.ref (s1.heap.objs.size+1)::[v]) (Value.ref (s1.heap.objs.size+1)::us):=.cons rfl r
 have hl2:(Value.ref (s1.heap.objs.size+1)::us++[]).length=ps.length:=by
  have e:=r2.length
  rw[F.len _ _ _ _ hsp] at e
  rw[eg]
  exact e.symm
 have kin:=I1.Gv
 have NI:=I1
 obtain⟨hh,g,d,tk,os⟩:=s1
 refine wpAny_call (Wi kin q hi hz' (λself=>W.bind_fn (kin.keeps (Hx _ _ _)) self hf) λA' eA=>?_)
 subst eA
 have rg:=hb _ (Value.ref (hh.objs.size+1)::us) I2.Gv hl2
 rw[eg] at rg
 refine wpAny_call (codeAny_mono (F.run _ X.stack _ _ ⟨Value.ref (hh.objs.size+1)::us,[]⟩ (Value.ref (hh.objs.size+1)::us) _ _ E0 (hr.make C us []) (I2.env0.make C us []) rg r2 hsp) λr s' sA=>?_)
 cases r with
 | error e=>exact False.elim sA
 | ok fl =>
  cases fl with
  | ret u =>
   obtain⟨v',H',I3,rv,ev,dx,g1,g2⟩:=I2.after sA
   subst ev
   obtain⟨⟨vs,sl,he,hv⟩,_,_⟩:=(show Bt X.prog X.w H' s'.heap _ (Hh (hh.objs.size+1) C (some dx)) from I3.hok _ _ g1)
   obtain⟨YO,N',VI,WE,AW,JO,YN,UA,WJ,TB,uX,X0,YE,XU,WG,WA,XW,XZ⟩:=N5 I3.Gv q
   refine⟨rv,_,some dx,vs,sl,rfl,?_,he,hv,hl a7 σ _ _ _ _ _ dx NI hx1 I3 g1 g2⟩
   exact I3.bk _ _ SV
  | next=>exact False.elim sA
  | brk=>exact False.elim sA
  | cont=>exact False.elim sA
end
section
variable {X:Cx} {ER:XR} {k:Nat} {f C:Addr} {fd:FuncData} {ps:List Str} {sp:Sp} {i4:List V} {ds:List Value} {x:Str} {p pos:Pos} {e:Expr} {es:List Expr} {t:TA}
end
end L2
namespace Og
open PySem L2
noncomputable def Zw (K:W.Frag) (C:Addr) (a:Str):Bool:=(W.findIn K (.ref C) "__setattr__" == some (some (.builtin "object.__setattr__"))) && ((W.clsIn K C).any λcd=>(JZ cd.mro == U8) && cd.hasDict) &&
 (W.findIn K (.ref C) a == some none) && Iu K C
noncomputable def aj (K:W.Frag) (C cO:Addr) (a:Str) (ds:List Addr):Bool :=
 Ri K C && (W.kitOne K (.ref C) (.ref C) == some true) && (W.kitOne K (.ref C) (.type "ValueError") == some true) && (ds.all λD=>W.kitOne K (.ref C) (.ref D) == some false) && (W.mroIn K C (.ref cO) == some true) && Zw K C a
structure lE (K:W.Frag) (C cO f:Addr) (a:Str) (ds:List Addr):Prop where
 xc:Iz K C
 kp:W.keepIn K (.ref C)=true
 k0:W.kitOne K (.ref C) (.ref C)=some true
 kv:W.kitOne K (.ref C) (.type "ValueError")=some true
 kf:∀ D∈ds,W.kitOne K (.ref C) (.ref D)=some false
 mro:W.mroIn K C (.ref cO)=some true
 inI:Iu K C=true
 init:W.findIn K (.ref C) "__init__" = some (some (.ref f))
 fn:W.typeIn K (.ref f)=some (.type "function")
 set:au K C
 na:DP K C a
theorem lE.of {K:W.Frag} {C cO f:Addr} {a:Str} {ds:List Addr} (h:aj K C cO a ds=true) (hi:W.findIn K (.ref C) "__init__" = some (some (.ref f))) (hf:W.typeIn K (.ref f)=some (.type "function")):lE K C cO f a ds:=by
 unfold aj Zw at h
 simp only[Bool.and_eq_true,beq_iff_eq,List.all_eq_true] at h
 obtain⟨⟨⟨⟨⟨a1,a2⟩,a3⟩,a4⟩,a5⟩,⟨⟨b1,b2⟩,b3⟩,b4⟩:=h
 obtain⟨cd,hc,b5⟩:=W.any_some b2
 simp only[Bool.and_eq_true,beq_iff_eq] at b5
 exact⟨(QG a1).1,(QG a1).2,a2,a3,a4,a5,b4,hi,hf,⟨b1,cd,hc,b5.1,b5.2⟩,b3⟩
structure kJ (K:W.Frag) (aB aP:Addr) (ρ:V->R) (vs:List V) (r:R):Prop where
 ns:¬ r.w = "step"
 parts:∃ (ap:Addr) (ps:List Str),W.nsIn K aP r.w=some (some (.ref ap))/\KTup K ap (ps.map V.str)/\(V.str r.nm::r.rest).length=ps.length/\ps.length<=10 /\
  ∀ (i:Nat) x y,(V.str r.nm::r.rest)[i]? = some x->ps[i]? = some y->EY K aB ρ vs x y
 line:r.w = "line"->Ny ρ vs r
 YX:Df ρ vs
structure jd (ρ:V->R) (vs:List V) (r:R):Prop where
 w:r.w = "step"
 ts:∃ ts:List Str,V.str r.nm::r.rest=ts.map V.str/\ts.Nodup/\ts.length<=24/\∀ t∈ts,isNm t/\Mp ρ vs "stop" t=true
noncomputable abbrev dg (K:W.Frag) (aB aP:Addr) (ρ:V->R) (vs:List V) (r:R):Prop:=kJ K aB aP ρ vs r \/ jd ρ vs r
structure jf (ρ:V->R) (vs:List V):Prop where
 ex:∃ cnt v,J3 ρ vs cnt/\4<=cnt/\vs[vs.length - 1 - cnt]? = some v/\(ρ v).w = "stop"
structure YL (K:W.Frag) (aB aP:Addr) (ρ:V->R) (vs:List V) (r:R):Prop where
 w:r.w = "line"
 parts:∃ (ap:Addr) (ps:List Str),W.nsIn K aP r.w=some (some (.ref ap))/\KTup K ap (ps.map V.str)/\(V.str r.nm::r.rest).length=ps.length/\ps.length<=10 /\
  ∀ (i:Nat) x y,(V.str r.nm::r.rest)[i]? = some x->ps[i]? = some y->EY K aB ρ vs x y
 full:jf ρ vs
 YX:Df ρ vs
noncomputable abbrev SN (K:W.Frag) (aM:Addr) (ρ:V->R) (vs:List V) (w:Str) (b:Bool):Prop:=(b=true/\W.nsIn K aM w=some none) \/ ∃ (m:Int) (t:Tok),W.nsIn K aM w=some (some (.int m t))/\b=decide ((((vs.filter (pw ρ w)).length:Nat):Int)<m)
noncomputable abbrev bI (K:W.Frag) (aB aP aM:Addr) (ρ:V->R) (vs:List V) (r:R) (b:Bool):Prop:=(b=false/\YL K aB aP ρ vs r) \/ (dg K aB aP ρ vs r/\SN K aM ρ vs r.w b)
inductive Zg (K:W.Frag) (aB aP aM:Addr) (H:Hp) (p:Addr):V->Prop where
 | long {us:List V} (h:H p=some (.lst us)) (hl:us.length=0 \/ 150<us.length) (hs:us.length<=1000):Zg K aB aP aM H p .non
 | row {us:List V} {ρ:V->R} {k:Nat} (h:H p=some (.lst us)) (hl:us.length<=150) (hR:Rows H ρ (us.take (k+1))) (ok:∀ (i:Nat) v,i<k->us[i]? = some v->bI K aB aP aM ρ (us.take i) (ρ v) true)
  {v:V} (hv:us[k]? = some v) (bad:bI K aB aP aM ρ (us.take k) (ρ v) false):Zg K aB aP aM H p (.int (k:Nat))
section
variable {K:W.Frag} {aB aP aM:Addr} {ρ:V->R} {vs:List V} {wn:List (Str × Str)} {t:Str} {rows:List R} {bs:List (Str × Nat)} {rk:List (Str × Nat × Int)} {ks:List R} {ls:List (List Ln)} {f':List Nat}
noncomputable abbrev nO (K:W.Frag) (aB aP aM:Addr) (rows:List R) (r:R):Prop:=∀ (ρ:V->R) (us:List V),us.map ρ=rows->bI K aB aP aM ρ us r false
end
end Og
namespace PySem
open Sem (wp)
namespace F
theorem JF:typeLookup (.type "str") "__int__" = pure none:=by rw[typeLookup_type,builtinLookup_eq_fast];kernel_rfl
theorem HB:typeLookup (.type "str") "__index__" = pure none:=by rw[typeLookup_type,builtinLookup_eq_fast];kernel_rfl
theorem G8:typeLookup (.type "str") "__trunc__" = pure none:=by rw[typeLookup_type,builtinLookup_eq_fast];kernel_rfl
end F
noncomputable def Er (c:Nat):Prop:=48<=c/\c<=57
theorem VG {p:Nat->Bool} {l:List Nat} (h:∀ c∈l,p c=false):l.dropWhile p=l:=by
 cases l with
 | nil=>rfl
 | cons a r=>rw[List.dropWhile_cons,if_neg (by rw[h a av];exact cy)]
theorem K7 {g:Array Nat × Bool->Nat->Option (Array Nat × Bool)} (hg:∀ ds b c,Er c->g (ds,b) c=some (ds.push (c - 48),true)):∀ (l:List Nat) (ds:Array Nat) (b:Bool),(∀ c∈l,Er c)->l ≠ [] ->
  List.foldlM g (ds,b) l=some (ds++(l.map (· - 48)).toArray,true)
 | [],_,_,_,h=>absurd rfl h
 | [c],ds,b,h,_=>by
  rw[List.foldlM_cons,hg ds b c (h c (by simp))]
  simp
 | c::e::r,ds,b,h,_=>by
  rw[List.foldlM_cons,hg ds b c (h c (by simp))]
  show List.foldlM g (ds.push (c - 48),true) (e::r)=_
  rw[K7 hg (e::r) _ _ (λx hx=>h x (List.mem_cons_of_mem _ hx)) (by simp)]
  simp
theorem Fl {c:Nat} (h:Er c):c=48 \/ c=49 \/ c=50 \/ c=51 \/ c=52 \/ c=53 \/ c=54 \/ c=55 \/ c=56 \/ c=57:=by
 unfold Er at h
 omega
noncomputable def Ek (l:List Nat):Nat:=l.foldl (λa d=>a * 10+(d - 48)) 0
theorem QB (c:Nat) (r:List Nat):Array.foldl (λd6 d=>d6 * 10+d) 0 (#[]++(List.map (λx=>x - 48) (c::r)).toArray)=Ek (c::r):=by
 unfold Ek
 rw[<-Array.foldl_toList]
 simp[List.foldl_map]
set_option maxHeartbeats 8000000 in
theorem Li (z:Str) (u:Tok) (c:Nat) (r:List Nat) (hl:z.cps.toList=c::r) (hc:49<=c/\c<=57) (hr:∀ c∈r,Er c) (h1:z.cps.all (· < 128)=true) (h0:z.cps.toList.takeWhile (· != 0)=z.cps.toList) (h2:r.length<=600) :
  Meets (Builtin.«int.__new__» ⟨[.type "int",.str z u],[]⟩) (Made.int ((Ek (c::r):Nat):Int)).spec :=
 Meets.of_wp λprog w A R s hs=>by
  obtain⟨hp,g,d,tk,os⟩:=s
  have f1:=F.conv_sub_int
  have f2:=F.madeHere_int
  have hT:(⟨hp,g,d,tk,os⟩:Shared).TypeIs (.str z u) "str":=rfl
  have f3:=F.JF
  have f4:=F.HB
  have f5:=F.G8
  repeat (any_goals (first | assumption | wp_step))
  rw[if_pos h1,h0,hl,if_pos (by simp only[List.length_cons];omega)]
  refine wpAny_bind (wpAny_pure ?_)
  dsimp only
  have hall:∀ x∈c::r,Er x:=λx hx=>by
   rcases bq.mp hx with rfl | hx
   ·exact⟨by omega,by omega⟩
   ·exact hr x hx
  have hallr:∀ x∈(c::r).reverse,Er x:=λx hx=>hall x (List.mem_reverse.mp hx)
  have hv:=QB c r
  have hz:((#[]:Array Nat)++(List.map (λx=>x - 48) (c::r)).toArray).size=r.length+1:=by simp
  generalize hX:Ek (c::r)=X at hs hv
  have hcc:c=49 \/ c=50 \/ c=51 \/ c=52 \/ c=53 \/ c=54 \/ c=55 \/ c=56 \/ c=57:=by omega
  rcases hcc with rfl | rfl | rfl | rfl | rfl | rfl | rfl | rfl | rfl
  all_goals
   conv=>arg 3;arg 2;whnf
   rw[VG (l:=_::r) (λx hx=>by rcases Fl (hall x hx) with rfl | rfl | rfl | rfl | rfl | rfl | rfl | rfl | rfl | rfl <;> rfl)]
   rw[VG (l:=(_::r).reverse) (λx hx=>by rcases Fl (hallr x hx) with rfl | rfl | rfl | rfl | rfl | rfl | rfl | rfl | rfl | rfl <;> rfl)]
   rw[jv]
   conv=>arg 3;arg 2;arg 2;whnf
   rw[K7 (λds b c hc=>by rcases Fl hc with rfl | rfl | rfl | rfl | rfl | rfl | rfl | rfl | rfl | rfl <;> rfl) (_::r) #[] false hall (by simp)]
   dsimp only
   rw[if_pos rfl]
   dsimp only
   rw[if_neg (by simp),if_neg (by rw[hz];simp;omega)]
   rw[if_neg (by simp)]
   dsimp only
   rw[hv,if_neg Bool.false_ne_true,if_pos (by simp)]
   repeat (any_goals (first | assumption | wp_step))
   all_goals exact⟨_,rfl,hs⟩
set_option maxHeartbeats 8000000 in
theorem Le (z:Str) (u:Tok) (c:Nat) (r:List Nat) (hl:z.cps.toList=45::c::r) (hc:49<=c/\c<=57) (hr:∀ c∈r,Er c) (h1:z.cps.all (· < 128)=true) (h0:z.cps.toList.takeWhile (· != 0)=z.cps.toList) (h2:r.length<=600) :
  Meets (Builtin.«int.__new__» ⟨[.type "int",.str z u],[]⟩) (Made.int (-((Ek (c::r):Nat):Int))).spec :=
 Meets.of_wp λprog w A R s hs=>by
  obtain⟨hp,g,d,tk,os⟩:=s
  have f1:=F.conv_sub_int
  have f2:=F.madeHere_int
  have hT:(⟨hp,g,d,tk,os⟩:Shared).TypeIs (.str z u) "str":=rfl
  have f3:=F.JF
  have f4:=F.HB
  have f5:=F.G8
  repeat (any_goals (first | assumption | wp_step))
  rw[if_pos h1,h0,hl,if_pos (by simp only[List.length_cons];omega)]
  refine wpAny_bind (wpAny_pure ?_)
  dsimp only
  have hall:∀ x∈c::r,Er x:=λx hx=>by
   rcases bq.mp hx with rfl | hx
   ·exact⟨by omega,by omega⟩
   ·exact hr x hx
  have hallr:∀ x∈(c::r).reverse,Er x:=λx hx=>hall x (List.mem_reverse.mp hx)
  have hv:=QB c r
  have hz:((#[]:Array Nat)++(List.map (λx=>x - 48) (c::r)).toArray).size=r.length+1:=by simp
  generalize hX:Ek (c::r)=X at hs hv
  have hcc:c=49 \/ c=50 \/ c=51 \/ c=52 \/ c=53 \/ c=54 \/ c=55 \/ c=56 \/ c=57:=by omega
  rcases hcc with rfl | rfl | rfl | rfl | rfl | rfl | rfl | rfl | rfl
  all_goals
   conv=>arg 3;arg 2;whnf
   rw[VG (l:=(_::r).reverse) (λx hx=>by rcases Fl (hallr x hx) with rfl | rfl | rfl | rfl | rfl | rfl | rfl | rfl | rfl | rfl <;> rfl)]
   rw[jv]
   conv=>arg 3;arg 2;arg 2;whnf
   rw[K7 (λds b c hc=>by rcases Fl hc with rfl | rfl | rfl | rfl | rfl | rfl | rfl | rfl | rfl | rfl <;> rfl) (_::r) #[] false hall (by simp)]
   dsimp only
   rw[if_pos rfl]
   dsimp only
   rw[if_neg (by simp),if_neg (by rw[hz];simp;omega)]
   rw[if_neg (by simp)]
   dsimp only
   rw[hv,if_pos rfl,if_pos (by simp)]
   repeat (any_goals (first | assumption | wp_step))
   all_goals exact⟨_,rfl,hs⟩
end PySem
namespace L2
open PySem PySem.Spec PySem.Calls PyProof.Rows
section
variable {X:Cx}
theorem Lx:dR X "str.startswith" (λx xs H Q=>∃ z y,x=V.str z/\xs=[V.str y]/\Q (.bl (Txt.startswith z y)) H):=by
 intro a7 s σ H x xs v us Q I rx r h
 obtain⟨z,y,rfl,rfl,q⟩:=h
 obtain⟨t,rfl⟩:=rx
 obtain⟨w,rfl,oj⟩:=Vals.one r
 obtain⟨u,rfl⟩:=oj
 exact call_gives F.slot_str_startswith (typeIs_str _ _ _) F.entry_str_startswith (F.args_str_startswith_2 _ _) (gives_str_startswith z y t u) ⟨.bl _,H,I,rfl,q⟩
theorem Ld:Fx X (.type "int") (λxs H Q=>∃ z i,xs=[V.str z]/\(∀ u,Meets (Builtin.«int.__new__» ⟨[.type "int",.str z u],[]⟩) (Made.int i).spec)/\Q (.int i) H):=by
 intro a7 s σ H xs us Q I r h
 obtain⟨z,i,rfl,g,q⟩:=h
 obtain⟨u,rfl,t,rfl⟩:=vals1 r
 exact call_int_1 (g t) (show (Made.int i).post _ s from ⟨rfl,.int i,H,I.tok _,⟨_,rfl⟩,q⟩)
end
theorem Hd (z:Str) (c:Nat):Txt.startswith z ⟨#[c]⟩=(z.cps.toList.head? == some c):=by
 unfold Txt.startswith
 rw[dE,eI,decide_eq_true_eq,StrLaws.subAt_one z c 0,beq_iff_eq,List.head?_eq_getElem?]
theorem Ud {z:Str} (h:1<=z.cps.toList.length):(Txt.slice z (some 1) none).cps.toList=z.cps.toList.drop 1:=by
 have hl:z.length=z.cps.toList.length:=by simp[Str.length]
 rw[slice_from_eq (x:=z) (i:=1) (b:=(z.length:Int)) (by decide) (by omega) rfl]
 rw[List.toList_toArray]
 refine ef ?_
 rw[fE]
 omega
end L2
namespace PySem
open Sem (wp)
set_option maxRecDepth 100000 in
set_option maxHeartbeats 4000000 in
theorem Ky (z:Str) (u:Tok) (hl:z.cps.toList=[48]) (h1:z.cps.all (· < 128)=true):Meets (Builtin.«int.__new__» ⟨[.type "int",.str z u],[]⟩) (Made.int 0).spec :=
 Meets.of_wp λprog w A R s hs=>by
  obtain⟨hp,g,d,tk,os⟩:=s
  have f1:=F.conv_sub_int
  have f2:=F.madeHere_int
  have hT:(⟨hp,g,d,tk,os⟩:Shared).TypeIs (.str z u) "str":=rfl
  have f3:=F.JF
  have f4:=F.HB
  have f5:=F.G8
  repeat (any_goals (first | assumption | wp_step))
  rw[if_pos h1,hl]
  split <;> rename_i hq
  all_goals
   conv at hq=>lhs;whnf
   injection hq
  rename_i hq
  have e:(0:Int)=_:=(show (0:Int)=_ from hq)
  subst e
  rw[if_pos (by rfl)]
  repeat (any_goals (first | assumption | wp_step))
  all_goals exact⟨_,rfl,hs⟩
end PySem
namespace Nm
open PySem (Ek Er)
noncomputable def dig (c:Nat):Bool:=decide (48<=c) && decide (c<=57)
noncomputable def En (l:List Nat):List Nat:=if l.head? == some 45 then l.drop 1 else l
noncomputable def JG (l:List Nat):Bool:=decide (l=[48]) || (decide (1<=(En l).length) && decide ((En l).length<=12) && (En l).all dig && !((En l).head? == some 48))
theorem NZ {c:Nat}:dig c=true ↔ Er c:=by simp[dig,Er]
noncomputable def Ui (m:Nat):List Nat:=if h:m=0 then [] else Ui (m / 10)++[48+m % 10]
termination_by m
decreasing_by omega
theorem Fq:Ui 0=[]:=by rw[Ui];rfl
theorem F_ {m:Nat} (h:m ≠ 0):Ui m=Ui (m / 10)++[48+m % 10]:=by
 rw[Ui,dif_neg h]
theorem Nr:∀ (m:Nat) (c:Nat),c∈Ui m->Er c:=by
 intro m
 induction m using Nat.strongRecOn with
 | ind m ih =>
  intro c hc
  by_cases h:m=0
  ·rw[h,Fq] at hc;cases hc
  ·rw[F_ h] at hc
   rcases ba.mp hc with hc | hc
   ·exact ih (m / 10) (by omega) c hc
   ·rw[ax.mp hc]
    unfold Er
    omega
theorem Jc:∀ (m:Nat),m ≠ 0->∃ c r,Ui m=c::r/\49<=c/\c<=57:=by
 intro m
 induction m using Nat.strongRecOn with
 | ind m ih =>
  intro h
  rw[F_ h]
  by_cases h10:m / 10=0
  ·rw[h10,Fq]
   exact⟨48+m % 10,[],rfl,by omega,by omega⟩
  ·obtain⟨c,r,e,h1,h2⟩:=ih (m / 10) (by omega) h10
   exact⟨c,r++[48+m % 10],by rw[e];rfl,h1,h2⟩
theorem Rx:∀ (k m:Nat),m<10 ^ k->(Ui m).length<=k
 | 0,m,h=>by
  have:m=0:=by simpa using h
  rw[this,Fq]
  exact ar _
 | k+1,m,h=>by
  by_cases h0:m=0
  ·rw[h0,Fq];exact dc _
  ·rw[F_ h0,aE]
   have:m / 10<10 ^ k:=by
    rw[Nat.pow_succ] at h
    omega
   have:=Rx k (m / 10) this
   simp only[List.length_cons,List.length_nil]
   omega
theorem Jk (a:List Nat) (d:Nat):Ek (a++[d])=Ek a * 10+(d - 48):=by
 unfold Ek
 rw[kF]
 rfl
theorem NK:∀ m:Nat,Ek (Ui m)=m:=by
 intro m
 induction m using Nat.strongRecOn with
 | ind m ih =>
  by_cases h:m=0
  ·rw[h,Fq];rfl
  ·rw[F_ h,Jk,ih (m / 10) (by omega)]
   omega
noncomputable def mag (m:Nat):List Nat:=if m=0 then [48] else Ui m
noncomputable def wr (n:Int):List Nat:=(if n<0 then [45] else [])++mag n.natAbs
theorem R_ {m c:Nat} (h:c∈mag m):Er c:=by
 unfold mag at h
 split at h
 ·rw[List.mem_singleton.mp h];unfold Er;omega
 ·exact Nr m c h
theorem Rr {m:Nat} (h:m<10 ^ 12):1<=(mag m).length/\(mag m).length<=12:=by
 unfold mag
 split
 ·simp
 ·rename_i h0
  obtain⟨c,r,e,_⟩:=Jc m h0
  refine⟨by rw[e];simp,Rx 12 m h⟩
theorem WF {n:Int} {c:Nat} (h:c∈wr n):c=45 \/ Er c:=by
 unfold wr at h
 rcases ba.mp h with h | h
 ·split at h
  ·exact .inl (ax.mp h)
  ·cases h
 ·exact .inr (R_ h)
theorem Qw {n:Int} (h:n.natAbs<10 ^ 12):1<=(wr n).length/\(wr n).length<=13:=by
 have:=Rr h
 unfold wr
 rw[aE]
 split <;> simp <;> omega
theorem W6 {n:Int} (h:0<n):∃ c r,wr n=c::r/\49<=c/\c<=57/\∀ x∈r,Er x:=by
 have h0:n.natAbs ≠ 0:=by omega
 obtain⟨c,r,e,h1,h2⟩:=Jc n.natAbs h0
 refine⟨c,r,?_,h1,h2,λx hx=>Nr n.natAbs x (by rw[e];exact aI _ hx)⟩
 unfold wr mag
 rw[if_neg (by omega),if_neg h0,e]
 rfl
theorem V9 {n:Int} (h:n<0):∃ c r,wr n=45::c::r/\49<=c/\c<=57/\∀ x∈r,Er x:=by
 have h0:n.natAbs ≠ 0:=by omega
 obtain⟨c,r,e,h1,h2⟩:=Jc n.natAbs h0
 refine⟨c,r,?_,h1,h2,λx hx=>Nr n.natAbs x (by rw[e];exact aI _ hx)⟩
 unfold wr mag
 rw[if_pos h,if_neg h0,e]
 rfl
theorem Wm {l r:List Nat} {c:Nat} (hf:En l=c::r) (h1:49<=c) (h2:c<=57) (hr:∀ x∈r,Er x) (hl:r.length<=11):JG l=true:=by
 unfold JG
 rw[hf,Bool.or_eq_true]
 refine .inr ?_
 rw[eI,eI,eI]
 refine⟨⟨⟨decide_eq_true (by simp),decide_eq_true (by simp;omega)⟩,?_⟩,?_⟩
 ·rw[cw]
  intro x hx
  rcases bq.mp hx with rfl | hx
  ·exact NZ.mpr ⟨by omega,by omega⟩
  ·exact NZ.mpr (hr x hx)
 ·simp
  omega
theorem Ww {n:Int} (h:n.natAbs<10 ^ 12):JG (wr n)=true:=by
 have hm:=Rr h
 rcases Int.lt_trichotomy n 0 with hn | hn | hn
 ·obtain⟨c,r,e,h1,h2,hr⟩:=V9 hn
  have el:(wr n).length=(mag n.natAbs).length+1:=by unfold wr;rw[if_pos hn];simp
  rw[e] at el
  rw[e]
  refine Wm (c:=c) (r:=r) rfl h1 h2 hr ?_
  simp only[List.length_cons] at el
  omega
 ·subst hn;rfl
 ·obtain⟨c,r,e,h1,h2,hr⟩:=W6 hn
  have el:(wr n).length=(mag n.natAbs).length:=by unfold wr;rw[if_neg (by omega)];simp
  rw[e] at el
  rw[e]
  refine Wm (c:=c) (r:=r) ?_ h1 h2 hr ?_
  ·unfold En
   rw[if_neg]
   simp
   omega
  ·simp only[List.length_cons] at el
   omega
theorem VJ {r:List Nat} {c:Nat} (hc:dig c=false) (Kn:c ≠ 45):JG (c::r)=false:=by
 have hne:c::r ≠ [48]:=λz=>by
  injection z with z _
  rw[z] at hc
  cases hc
 have hf:En (c::r)=c::r:=by
  unfold En
  rw[if_neg]
  simp[Kn]
 unfold JG
 rw[decide_eq_false hne,kH,hf]
 have:(c::r).all dig=false:=by
  rw[kK,hc,dQ]
 rw[this,ib,dQ]
end Nm
namespace L2
open PySem PySem.Spec PySem.Calls PyProof.Rows
theorem Mi:∀ (l:List Str) (k:Nat),Vals (l.map V.str) (strsFrom k l)
 | [],_=>.nil
 | _::l,k=>.cons ⟨_,rfl⟩ (Mi l (k+1))
section
variable {X:Cx}
theorem Gm:dR X "str.split" (λx xs H Q=>∃ z y,x=V.str z/\xs=[V.str y]/\(y.length == 0)=false/\z.length<=sizeLine/\(Txt.split z y).length<=sizeLine/\∀ p,H p=none->Q (.ref p) (upd H p (.lst ((Txt.split z y).map V.str)))):=by
 intro a7 s σ H x xs v us Q I rx r h
 obtain⟨z,y,rfl,rfl,hy,hz,hn,q⟩:=h
 obtain⟨t,rfl⟩:=rx
 obtain⟨w,rfl,oj⟩:=Vals.one r
 obtain⟨u,rfl⟩:=oj
 have fin:Txt.split z y=[z]->listOfItself z t X.A (wants (EP X a7 σ Q) X.xe) s:=λe=>by
  have q':=q _ I.fresh
  rw[e] at q'
  exact⟨.ref s.heap.objs.size,_,I.Ue (t':=s.toks) (ys:=[.str z]) (its:=[.str z t]) (.cons ⟨t,rfl⟩ .nil) (show 1<=sizeLine by decide),rfl,q'⟩
 cases h1:(decide (z.length<y.length) || decide (Builtin.Str.strKind z<Builtin.Str.strKind y)) with
 | true=>exact call_meets F.slot_str_split (typeIs_str _ _ _) F.entry_str_split (F.args_str_split_2 _ _) (meets_str_split_cannot_occur z y t u h1) (fin (if_pos h1))
 | false =>
  have e0:Txt.split z y=if (Builtin.Str.occurrences z y 0 z.length (z.length+1)).isEmpty=true then [z] else Builtin.Str.partsBetween z (Builtin.Str.occurrences z y 0 z.length (z.length+1)) y.length:=if_neg (ne_true_of_eq_false h1)
  cases hf:(Builtin.Str.occurrences z y 0 z.length (z.length+1)).isEmpty with
  | true=>exact call_meets F.slot_str_split (typeIs_str _ _ _) F.entry_str_split (F.args_str_split_2 _ _) (meets_str_split_not_found z y t u h1 hy hf) (fin (e0.trans (if_pos hf)))
  | false =>
   have e1:=e0.trans (if_neg (ne_true_of_eq_false hf))
   rw[e1] at hn q
   refine call_meets F.slot_str_split (typeIs_str _ _ _) F.entry_str_split (F.args_str_split_2 _ _) (meets_str_split_sep z y t u h1 hy hf hz hn) ?_
   exact⟨.ref s.heap.objs.size,_,I.Ue (Mi _ _) (by rw[ae];exact hn),rfl,q _ I.fresh⟩
theorem Tu:Fx X (.type "str") (λxs H Q=>(∃ z,xs=[.str z]/\Q (.str z) H) \/ ∃ i,xs=[.int i]/\i.natAbs.log2<1920/\Q (.str (toString i)) H):=by
 intro a7 s σ H xs us Q I r h
 rcases h with⟨z,rfl,q⟩ | ⟨i,rfl,hz,q⟩
 ·obtain⟨u,rfl,t,rfl⟩:=vals1 r
  exact PySem.P.str_of_str ⟨.str _,H,I,⟨_,rfl⟩,q⟩
 ·obtain⟨u,rfl,t,rfl⟩:=vals1 r
  exact PySem.P.str_of_int hz ⟨.str _,H,I.tok _,⟨_,rfl⟩,q⟩
end
noncomputable def jL (s:List Nat):List (List Nat)->List Nat
 | []=>[]
 | [x]=>x
 | x::y::r=>x++(s++jL s (y::r))
theorem Eb (y:Str):∀ ps:List Str,(Str.join y ps).cps.toList=jL y.cps.toList (ps.map λp=>p.cps.toList)
 | []=>rfl
 | [p]=>rfl
 | p::q::r=>by
  show ((p++y++Str.join y (q::r)):Str).cps.toList=_
  rw[Str.cps_append,Str.cps_append,Array.toList_append,Array.toList_append,Eb y (q::r),dL]
  rfl
theorem d_ {c:Nat}:∀ {p q a b:List Nat},c ∉ p->c ∉ q->p++c::a=q++c::b->p=q/\a=b
 | [],[],a,b,_,_,h=>⟨rfl,(List.cons.inj h).2⟩
 | [],x::q,a,b,_,hq,h=>absurd (bq.mpr (.inl (List.cons.inj h).1)) hq
 | x::p,[],a,b,hp,_,h=>absurd (bq.mpr (.inl (List.cons.inj h).1.symm)) hp
 | x::p,y::q,a,b,hp,hq,h=>by
  obtain⟨e1,e2⟩:=List.cons.inj h
  obtain⟨e3,e4⟩:=d_ (λz=>hp (aI _ z)) (λz=>hq (aI _ z)) e2
  exact⟨by rw[e1,e3],e4⟩
theorem Wy {c:Nat} {s:List Nat}:∀ {ps qs:List (List Nat)},ps ≠ []->qs ≠ []->(∀ p∈ps,c ∉ p)->(∀ p∈qs,c ∉ p)->jL (c::s) ps=jL (c::s) qs->ps=qs
 | [],_,h,_,_,_,_=>absurd rfl h
 | _,[],_,h,_,_,_=>absurd rfl h
 | [p],[q],_,_,_,_,h=>by rw[show p=q from h]
 | [p],q::q'::r,_,_,hp,_,h=>absurd (show c∈p from by rw[show p=q++(c::s++jL (c::s) (q'::r)) from h];simp) (hp p List.mem_cons_self)
 | p::p'::r,[q],_,_,_,hq,h=>absurd (show c∈q from by rw[<-show p++(c::s++jL (c::s) (p'::r))=q from h];simp) (hq q List.mem_cons_self)
 | p::p'::r,q::q'::r',_,_,hp,hq,h=>by
  obtain⟨e1,e2⟩:=d_ (hp p av) (hq q av) h
  have e3:=gE e2
  rw[e1,Wy (by simp) (by simp) (λx hx=>hp x (List.mem_cons_of_mem _ hx)) (λx hx=>hq x (List.mem_cons_of_mem _ hx)) e3]
theorem O7 {c:Nat} {s:List Nat} (hs:c ∉ s):∀ ps:List (List Nat),ps ≠ []->(jL (c::s) ps).count c+1=ps.length+(ps.map (List.count c)).sum
 | [],h=>absurd rfl h
 | [p],_=>by simp[jL];omega
 | p::q::r,_=>by
  have ih:=O7 hs (q::r) (by simp)
  have e0:s.count c=0:=kz.mpr hs
  show (p++(c::s++jL (c::s) (q::r))).count c+1=_
  rw[List.count_append,List.count_append,List.count_cons_self,e0]
  rw[aS,cS,kN]
  omega
theorem Zf {c:Nat} {s:List Nat} (hs:c ∉ s):∀ (ps:List (List Nat)),(∀ p∈ps,c ∉ p)->∀ i,(jL (c::s) ps)[i]? = some c->((jL (c::s) ps).drop i).take (s.length+1)=c::s
 | [],_,i,h=>by simp[jL] at h
 | [p],hp,i,h=>absurd (al h) (hp p av)
 | p::q::r,hp,i,h=>by
  have h':(p++(c::s++jL (c::s) (q::r)))[i]? = some c:=h
  show ((p++(c::s++jL (c::s) (q::r))).drop i).take (s.length+1)=c::s
  by_cases h1:i<p.length
  ·rw[fv h1] at h'
   exact absurd (al h') (hp p av)
  rw[dt (by omega)] at h'
  rw[List.drop_append,List.drop_eq_nil_of_le (by omega),fT]
  by_cases h2:i - p.length<(c::s).length
  ·rw[fv h2] at h'
   cases e:i - p.length with
   | zero =>
    rw[List.drop_zero,List.take_append,List.take_of_length_le (by simp)]
    simp
   | succ k =>
    rw[e,eR] at h'
    exact absurd (al h') hs
  ·rw[dt (by omega)] at h'
   rw[List.drop_append,List.drop_eq_nil_of_le (by omega),fT]
   exact Zf hs (q::r) (λx hx=>hp x (aI _ hx)) _ h'
section
open Builtin.Str StrLaws
variable {z y:Str} {c:Nat} {s:List Nat}
theorem Kl (hy:y.cps.toList=c::s) {n i k:Nat} (h:At z y n i) (hk:k<s.length+1):z.cps.toList[i+k]? = (c::s)[k]?:=by
 have h2:=h.2
 rw[subAt_eq] at h2
 have e:=eq_of_beq h2
 have hl:y.length=s.length+1:=by
  show y.cps.size=_
  rw[<-Array.length_toList,hy]
  rfl
 rw[hl,hy] at e
 rw[<-e,List.getElem?_take_of_lt hk,List.getElem?_drop]
theorem U_ (hy:y.cps.toList=c::s) (hs:c ∉ s) {n i j:Nat} (hi:At z y n i) (hj:At z y n j) (h:i<j):i+y.length<=j:=by
 have hl:y.length=s.length+1:=by
  show y.cps.size=_
  rw[<-Array.length_toList,hy]
  rfl
 refine Nat.le_of_not_lt λhlt=>hs ?_
 have h1:=Kl hy hj (k:=0) (by omega)
 have h2:=Kl hy hi (k:=j - i) (by omega)
 rw[show i+(j - i)=j+0 by omega,h1] at h2
 obtain⟨m,hm⟩:∃ m,j - i=m+1:=⟨j - i - 1,by omega⟩
 rw[hm,eR,List.getElem?_cons_zero] at h2
 exact al h2.symm
theorem Gy (hy:y.cps.toList=c::s) (hs:c ∉ s) (hi nt:Nat) (p:Nat->Bool) (hp:∀ i,p i=true ↔ At z y hi i):∀ (l:List Nat) (st:Array Nat × Nat),l.Pairwise (· < ·)->(∀ i∈l,At z y hi i->st.snd<=i)->st.fst.size+l.length<=nt->(forIn l st (occBody z y hi nt)).run.fst.toList=st.fst.toList++l.filter p
 | [],st,_,_,_=>by
  rw[List.filter_nil,eg]
  rfl
 | a::l,st,hw,hf,hz=>by
  obtain⟨h1,h2⟩:=List.pairwise_cons.mp hw
  rw[aS] at hz
  rw[List.forIn_cons]
  unfold occBody
  by_cases hc:At z y hi a
  ·rw[if_pos ⟨⟨⟨by omega,hf a av hc⟩,hc.1⟩,hc.2⟩,dS,if_pos ((hp a).mpr hc)]
   have ih:=Gy hy hs hi nt p hp l (st.fst.push a,a+y.length) h2 (λi hi' hat=>U_ hy hs hc hat (h1 i hi')) (by rw[Array.size_push];omega)
   show (forIn l (st.fst.push a,a+y.length) (occBody z y hi nt)).run.fst.toList=_
   rw[ih,Array.toList_push,dL]
   rfl
  ·rw[if_neg (λh=>hc ⟨h.1.2,h.2⟩),dS,if_neg (λh=>hc ((hp a).mp h))]
   exact Gy hy hs hi nt p hp l (st.fst,st.snd) h2 (λi hi'=>hf i (List.mem_cons_of_mem _ hi')) (by show st.fst.size+l.length<=nt;omega)
theorem count_at (c:Nat):∀ l:List Nat,((List.range l.length).filter λi=>decide (l[i]? = some c)).length=l.count c
 | []=>rfl
 | a::l=>by
  rw[aS,List.range_succ_eq_map,dS,ff,List.count_cons,<-count_at c l]
  have e:((λi=>decide ((a::l)[i]? = some c)) ∘ Nat.succ)=λi=>decide (l[i]? = some c):=by
   funext i
   show decide ((a::l)[i+1]? = some c)=_
   rw[eR]
  rw[e]
  by_cases h:a=c
  ·subst h
   rw[if_pos (by simp),List.length_cons,List.length_map,if_pos (by simp)]
  ·rw[if_neg (by simp[h]),List.length_map,if_neg (by simp[h])]
   rfl
theorem QK:∀ {a b:List Str},a.map (λp:Str=>p.cps.toList)=b.map (λp:Str=>p.cps.toList)->a=b:=λ{a}=>by
 induction a with
 | nil=>intro b h;cases b with | nil=>rfl | cons x r=>cases h
 | cons x a ih =>
  intro b h
  cases b with
  | nil=>cases h
  | cons x' b =>
   obtain⟨e1,e2⟩:=List.cons.inj h
   rw[Str.ext' (Array.toList_inj.mp e1),ih e2]
theorem Fo (hy:y.cps.toList=c::s) (hs:c ∉ s) (hk:strKind y=1) {ps:List Str} (hn:ps ≠ []) (hp:∀ p∈ps,c ∉ p.cps.toList):Txt.split (Str.join y ps) y=ps:=by
 obtain⟨z,ez⟩:∃ z,Str.join y ps=z:=⟨_,rfl⟩
 rw[ez]
 have eL:z.cps.toList=jL (c::s) (ps.map λp=>p.cps.toList):=by rw[<-ez,Eb,hy]
 have hp':∀ p∈ps.map (λp:Str=>p.cps.toList),c ∉ p:=λp h=>by
  obtain⟨q,hq,rfl⟩:=ay.mp h
  exact hp q hq
 have hl:y.length=s.length+1:=by
  show y.cps.size=_
  rw[<-Array.length_toList,hy]
  rfl
 have zl:z.length=z.cps.toList.length:=(Array.length_toList ..).symm
 have hat:∀ i,At z y z.length i ↔ z.cps.toList[i]? = some c:=λi=>by
  constructor
  ·intro h
   have:=Kl hy h (k:=0) (by omega)
   exact this
  ·intro h
   have h2:(z.cps.toList.drop i).take (s.length+1)=c::s:=by
    rw[eL] at h |-
    exact Zf hs _ hp' i h
   refine⟨?_,by rw[subAt_eq,hl,h2,hy,beq_self_eq_true]⟩
   have:=congrArg List.length h2
   rw[cE,fE,aS] at this
   omega
 have hocc:occurrences z y 0 z.length (z.length+1)=(List.range (z.length+1)).filter λi=>decide (z.cps.toList[i]? = some c):=by
  rw[occ_eq,Nat.sub_zero,<-List.range_eq_range']
  exact Gy hy hs z.length (z.length+1) _ (λi=>by rw[decide_eq_true_eq];exact (hat i).symm) _ (#[],0) List.pairwise_lt_range (λ_ _ _=>dc _) (by rw[fS];exact kx (kA _))
 have hcnt:(occurrences z y 0 z.length (z.length+1)).length=z.cps.toList.count c:=by
  rw[hocc,List.range_succ,List.filter_append,List.length_append,zl,count_at,List.filter_cons,if_neg (by simp)]
  rfl
 have hk1:¬ strKind z<strKind y:=by
  rw[hk]
  unfold Builtin.Str.strKind
  split
  ·omega
  ·split <;> omega
 have hq:(Txt.split z y).length=z.cps.toList.count c+1:=by
  unfold Txt.split
  by_cases h1:(decide (z.length<y.length) || decide (strKind z<strKind y))=true
  ·rw[if_pos h1]
   have h0:z.cps.toList.count c=0:=kz.mpr λhm=>by
    obtain⟨i,hi⟩:=List.getElem?_of_mem hm
    have:=((hat i).mpr hi).1
    rw[decide_eq_false hk1,Bool.or_false,decide_eq_true_eq] at h1
    omega
   rw[h0]
   rfl
  ·rw[if_neg h1]
   by_cases h2:(occurrences z y 0 z.length (z.length+1)).isEmpty=true
   ·rw[if_pos h2,<-hcnt,List.isEmpty_iff.mp h2]
    rfl
   ·rw[if_neg h2,length_partsBetween,hcnt]
 have hj:Str.join y (Txt.split z y)=z:=join_split z y
 have qn:Txt.split z y ≠ []:=λe=>by rw[e] at hq;simp at hq
 generalize Txt.split z y=qs at hq hj qn
 have eQ:z.cps.toList=jL (c::s) (qs.map λp=>p.cps.toList):=by rw[<-hj,Eb,hy]
 have Bz:=O7 hs (qs.map λp:Str=>p.cps.toList) (by simpa using qn)
 rw[<-eQ,ae] at Bz
 have h0:((qs.map λp:Str=>p.cps.toList).map (List.count c)).sum=0:=by omega
 have hqc:∀ p∈qs.map (λp:Str=>p.cps.toList),c ∉ p:=λp h=>by
  have:p.count c=0:=io.mp h0 _ (cf h)
  exact kz.mp this
 have:=Wy (by simpa using hn) (by simpa using qn) hp' hqc (eL.symm.trans eQ)
 exact (QK this).symm
end
theorem Sy (d:Nat) (h:d<10):(Nat.digitChar d).toNat=48+d:=by
 obtain rfl | rfl | rfl | rfl | rfl | rfl | rfl | rfl | rfl | rfl:d=0 \/ d=1 \/ d=2 \/ d=3 \/ d=4 \/ d=5 \/ d=6 \/ d=7 \/ d=8 \/ d=9:=by omega
 all_goals rfl
theorem QW:∀ (fuel n:Nat) (ds:List Char),n<fuel->(Nat.toDigitsCore 10 fuel n ds).map Char.toNat=Nm.mag n++ds.map Char.toNat
 | 0,n,ds,h=>absurd h (by omega)
 | fuel+1,n,ds,h=>by
  unfold Nat.toDigitsCore
  dsimp only
  by_cases h0:n / 10=0
  ·rw[if_pos h0,cS,Sy _ (by omega)]
   unfold Nm.mag
   by_cases hn:n=0
   ·subst hn
    rfl
   ·rw[if_neg hn,Nm.F_ hn,h0,Nm.Fq]
    rfl
  ·rw[if_neg h0,QW fuel (n / 10) _ (by omega),cS,Sy _ (by omega)]
   unfold Nm.mag
   rw[if_neg h0,if_neg (by omega:¬ n=0),Nm.F_ (by omega:n ≠ 0),dL]
   rfl
theorem Px (n:Nat):(Nat.repr n).toList.map Char.toNat=Nm.mag n:=by
 have:=QW (n+1) n [] (by omega)
 rw[kS,eg] at this
 rw[<-this]
 simp[Nat.repr,Nat.toDigits]
theorem str_int (i:Int):(Str.ofString (toString i)).cps.toList=Nm.wr i:=by
 rw[Str.ofString_eq_toList]
 show (toString i).toList.map Char.toNat=_
 cases i with
 | ofNat n =>
  show (Nat.repr n).toList.map Char.toNat=_
  rw[Px]
  unfold Nm.wr
  rw[if_neg (Int.not_lt.mpr (Int.natCast_nonneg n):¬ (Int.ofNat n<0))]
  rfl
 | negSucc n =>
  show ("-" ++ Nat.repr (n+1)).toList.map Char.toNat=_
  rw[String.toList_append,ce,Px]
  unfold Nm.wr
  rw[if_pos (by omega)]
  rfl
end L2
namespace Og
open PySem L2
noncomputable def M8:Str:="0123456789"
structure qF (K:W.Frag) (C:Addr):Prop where
 ha:W.findIn K (.ref C) "__class__" = some (some (.builtin "object.__class__"))
 hn:W.specialIn K (.builtin "object.__class__") "__get__" = some (some (.builtin "getset_descriptor.__get__"))
 ht:W.takesIn K (.builtin "object.__class__")=some true
 hm:W.mroIn K C (.type "object")=some true
 k0:W.kitOne K (.ref C) (.ref C)=some true
noncomputable abbrev LL (z:Str):List Nat:=z.cps.toList
theorem E_ (z:Str):z.length=(LL z).length:=by simp[Str.length,LL]
theorem Nb {z y:Str} (h:LL z=LL y):z=y:=by
 obtain⟨a⟩:=z
 obtain⟨b⟩:=y
 have:a=b:=Array.toList_inj.mp h
 rw[this]
theorem YS (c:Nat):Rk M8 c=Nm.dig c:=by
 unfold Rk
 rw[StrLaws.found_one,dE,decide_eq_true_eq]
 have e:M8.cps.toList=[48,49,50,51,52,53,54,55,56,57]:=by decide
 rw[e]
 simp only[Nm.dig,List.mem_cons,List.not_mem_nil,or_false,Bool.and_eq_true,decide_eq_true_eq]
 omega
noncomputable def OD (x:V):Prop:=(∃ t,x=.str t/\isNm t) \/ ∃ i:Int,x=.int i/\i.natAbs<10 ^ 12
noncomputable def Kw:V->Str
 | .str t=>t
 | .int i=>Str.ofString (toString i)
 | _=>""
theorem RZ {x:V} (h:OD x):∀ c∈LL (Kw x),c ≠ 32/\c ≠ 59/\c<128:=λc hc=>by
 rcases h with⟨t,rfl,h⟩ | ⟨i,rfl,h⟩
 ·have:=h.2.2 c hc
  omega
 ·have hc':c∈Nm.wr i:=by rw[<-str_int];exact hc
  rcases Nm.WF hc' with e | e
  ·omega
  ·unfold Er at e
   omega
theorem WX {x:V} (h:OD x):1<=(LL (Kw x)).length/\(LL (Kw x)).length<=13:=by
 rcases h with⟨t,rfl,h⟩ | ⟨i,rfl,h⟩
 ·have h1:=h.1
  have h2:=h.2.1
  rw[E_] at h1 h2
  exact⟨h1,by show (LL t).length<=13;omega⟩
 ·have:=Nm.Qw h
  rw[<-str_int] at this
  exact this
theorem PN {t:Str} (h:isNm t):Nm.JG (LL t)=false:=by
 have h1:=h.1
 rw[E_] at h1
 cases e:LL t with
 | nil=>rw[e] at h1;cases h1
 | cons c r =>
  have:=h.2.2 c (by show c∈LL t;rw[e];exact List.mem_cons_self)
  refine Nm.VJ ?_ (by omega)
  unfold Nm.dig
  rw[decide_eq_false (show ¬ c<=57 by omega),Bool.and_false]
noncomputable def Bw (vs:List V):Str:=Str.join " " (vs.map Kw)
noncomputable def Kh (rows:List (List V)):Str:=Str.join "; " (rows.map Bw)
theorem Gi (y:Str):∀ ps:List Str,(Str.join y ps).length<=(ps.map (·.length)).sum+y.length * ps.length
 | []=>dc _
 | [p]=>by
  show p.length<=_
  simp
 | p::q::r=>by
  have ih:=Gi y (q::r)
  have e:(Str.join y (p::q::r)).length=p.length+y.length+(Str.join y (q::r)).length:=by
   show ((p++y++Str.join y (q::r)):Str).length=_
   rw[E_,E_ p,E_ y,E_ (Str.join y (q::r))]
   show (((p++y++Str.join y (q::r)):Str).cps.toList).length=_
   rw[Str.cps_append,Str.cps_append,Array.toList_append,Array.toList_append,aE,aE]
  rw[e,cS,kN,aS,Nat.mul_succ]
  omega
theorem Iv (M:Nat):∀ l:List Nat,(∀ n∈l,n<=M)->l.sum<=M * l.length
 | [],_=>dc _
 | a::l,h=>by
  have:=Iv M l λn hn=>h n (aI _ hn)
  have:=h a av
  rw[kN,aS,Nat.mul_succ]
  omega
theorem TJ {vs:List V} (h:∀ x∈vs,OD x):((vs.map Kw).map (·.length)).sum<=13 * vs.length:=by
 have:=Iv 13 ((vs.map Kw).map (·.length)) λn hn=>by
  obtain⟨t,ht,rfl⟩:=ay.mp hn
  obtain⟨x,hx,rfl⟩:=ay.mp ht
  show (Kw x).length<=13
  rw[E_]
  exact (WX (h x hx)).2
 rw[ae,ae] at this
 exact this
theorem Hl {vs:List V} (h:∀ x∈vs,OD x) (hl:vs.length<=30):(Bw vs).length<=420:=by
 have h1:=Gi " " (vs.map Kw)
 have h2:=TJ h
 have h3:(" " : Str).length=1:=by decide +kernel
 rw[h3,ae] at h1
 show (Str.join " " (vs.map Kw)).length<=420
 omega
theorem Nq {vs:List V} (h:∀ x∈vs,OD x):59 ∉ LL (Bw vs):=λhc=>by
 rcases (PyProof.Rows.mem_join " " 59 (vs.map Kw)).mp hc with⟨t,ht,e⟩ | ⟨_,e⟩
 ·obtain⟨x,hx,rfl⟩:=ay.mp ht
  exact absurd rfl (RZ (h x hx) 59 e).2.1
 ·exact absurd e (by decide +kernel)
theorem K4 {vs:List V} (h:∀ x∈vs,OD x) (hn:vs ≠ []):Txt.split (Bw vs) " " = vs.map Kw :=
 Fo (c:=32) (s:=[]) (by decide +kernel) (λz=>nomatch z) (by decide +kernel) (by simpa using hn) λp hp=>by
  obtain⟨x,hx,rfl⟩:=ay.mp hp
  exact λhc=>absurd rfl (RZ (h x hx) 32 hc).1
theorem K1 {rows:List (List V)} (h:∀ r∈rows,∀ x∈r,OD x) (hn:rows ≠ []):Txt.split (Kh rows) "; " = rows.map Bw :=
 Fo (c:=59) (s:=[32]) (by decide +kernel) (by decide) (by decide +kernel) (by simpa using hn) λp hp=>by
  obtain⟨r,hr,rfl⟩:=ay.mp hp
  exact Nq (h r hr)
theorem PL {rows:List (List V)} (h:∀ r∈rows,∀ x∈r,OD x) (hl:∀ r∈rows,r.length<=30):((rows.map Bw).map (·.length)).sum<=420 * rows.length:=by
 have:=Iv 420 ((rows.map Bw).map (·.length)) λn hn=>by
  obtain⟨t,ht,rfl⟩:=ay.mp hn
  obtain⟨x,hx,rfl⟩:=ay.mp ht
  exact Hl (h x hx) (hl x hx)
 rw[ae,ae] at this
 exact this
theorem Ot {rows:List (List V)} (h:∀ r∈rows,∀ x∈r,OD x) (hl:∀ r∈rows,r.length<=30) (hn:rows.length<=150):(Kh rows).length<=64000:=by
 have h1:=Gi "; " (rows.map Bw)
 have h2:=PL h hl
 have h3:("; " : Str).length=2:=by decide +kernel
 rw[h3,ae] at h1
 show (Str.join "; " (rows.map Bw)).length<=64000
 omega
theorem Qx {vs:List V} (h:∀ x∈vs,OD x) (hl:vs.length<=30):JoinOk " " (vs.map Kw)=true:=by
 refine PyProof.Rows.joinOk_of_weight ?_ (by decide +kernel)
 have:=TJ h
 rw[ae]
 omega
theorem RB {rows:List (List V)} (h:∀ r∈rows,∀ x∈r,OD x) (hl:∀ r∈rows,r.length<=30) (hn:rows.length<=150):JoinOk "; " (rows.map Bw)=true:=by
 refine PyProof.Rows.joinOk_of_weight ?_ (by decide +kernel)
 have:=PL h hl
 rw[ae]
 omega
theorem Fi (y:Str) (ps:List Str):Txt.join y ps=Str.join y ps:=StrLaws.glued_eq_join y ps
noncomputable def qQ (z:Str) (i:Int):Prop:=∀ u:Tok,PySem.Meets (Builtin.«int.__new__» ⟨[.type "int",.str z u],[]⟩) (PySem.Made.int i).spec
theorem o8 {z:Str} {n:Int} (h:LL z=Nm.wr n) (hn:n.natAbs<10 ^ 12):qQ z n:=λu=>by
 have hz:=Nm.Qw hn
 rw[<-h] at hz
 have small:∀ c∈LL z,c<128/\c ≠ 0:=λc hc=>by
  rw[h] at hc
  rcases Nm.WF hc with e | e
  ·omega
  ·unfold Er at e;omega
 have h1:z.cps.all (· < 128)=true:=by
  rw[<-Array.all_toList,cw]
  exact λc hc=>decide_eq_true (small c hc).1
 have h0:z.cps.toList.takeWhile (· != 0)=z.cps.toList:=by
  have key:∀ l:List Nat,(∀ c∈l,c ≠ 0)->l.takeWhile (· != 0)=l:=by
   intro l
   induction l with
   | nil=>intro _;rfl
   | cons a l ih =>
    intro hl
    rw[List.takeWhile_cons,if_pos (by simpa using hl a List.mem_cons_self),ih λc hc=>hl c (List.mem_cons_of_mem _ hc)]
  exact key _ λc hc=>(small c hc).2
 rcases Int.lt_trichotomy n 0 with hneg | hzero | hpos
 ·obtain⟨c,r,e,a1,a2,hr⟩:=Nm.V9 hneg
  have hl:z.cps.toList=45::c::r:=h.trans e
  have hv:Ek (c::r)=n.natAbs:=by
   have:=Nm.NK n.natAbs
   unfold Nm.wr Nm.mag at e
   rw[if_pos hneg,if_neg (by omega)] at e
   injection e with _ e
   rw[<-e]
   exact this
  have g:=Le z u c r hl ⟨a1,a2⟩ hr h1 h0 (by rw[show LL z=_ from hl] at hz;simp only[List.length_cons] at hz;omega)
  have en:(-((Ek (c::r):Nat):Int))=n:=by
   have hv':Ek (c::r)=n.natAbs:=hv
   rw[hv']
   omega
  rw[en] at g
  exact g
 ·subst hzero
  exact Ky z u h h1
 ·obtain⟨c,r,e,a1,a2,hr⟩:=Nm.W6 hpos
  have hl:z.cps.toList=c::r:=h.trans e
  have hv:Ek (c::r)=n.natAbs:=by
   have:=Nm.NK n.natAbs
   unfold Nm.wr Nm.mag at e
   rw[if_neg (by omega),if_neg (by omega)] at e
   rw[<-show Nm.Ui n.natAbs=c::r from e]
   exact this
  have g:=Li z u c r hl ⟨a1,a2⟩ hr h1 h0 (by rw[show LL z=_ from hl] at hz;simp only[List.length_cons] at hz;omega)
  have en:((Ek (c::r):Nat):Int)=n:=by
   rw[hv]
   omega
  rw[en] at g
  exact g
theorem PK (m:Nat):Ek (Nm.mag m)=m:=by
 unfold Nm.mag
 by_cases h:m=0
 ·rw[if_pos h,h]
  rfl
 ·rw[if_neg h]
  exact Nm.NK m
theorem Z_ {i j:Int} (h:Nm.wr i=Nm.wr j):i=j:=by
 have hd:∀ m:Nat,∃ c r,Nm.mag m=c::r/\48<=c:=λm=>by
  cases e:Nm.mag m with
  | nil =>
   unfold Nm.mag at e
   by_cases h0:m=0
   ·rw[if_pos h0] at e
    cases e
   ·rw[if_neg h0] at e
    obtain⟨c,r,e2,_⟩:=Nm.Jc m h0
    rw[e2] at e
    cases e
  | cons c r =>
   have:=Nm.R_ (m:=m) (c:=c) (by rw[e];exact av)
   exact⟨c,r,rfl,this.1⟩
 obtain⟨c,r,e1,h1⟩:=hd i.natAbs
 obtain⟨c',r',e2,h2⟩:=hd j.natAbs
 have key:Nm.mag i.natAbs=Nm.mag j.natAbs->i.natAbs=j.natAbs:=λe=>by
  have:=congrArg Ek e
  rw[PK,PK] at this
  exact this
 unfold Nm.wr at h
 by_cases hi:i<0
 ·by_cases hj:j<0
  ·rw[if_pos hi,if_pos hj] at h
   have:=key (gE h)
   omega
  ·rw[if_pos hi,if_neg hj,e2] at h
   have:=(List.cons.inj h).1
   omega
 ·by_cases hj:j<0
  ·rw[if_neg hi,if_pos hj,e1] at h
   have:=(List.cons.inj h).1
   omega
  ·rw[if_neg hi,if_neg hj] at h
   have:=key (gE h)
   omega
theorem aQ {i:Int} (h:i.natAbs<10 ^ 12):i.natAbs.log2<1920:=by
 by_cases h0:i.natAbs=0
 ·rw[h0]
  decide
 ·have:i.natAbs<2 ^ 40:=bt h (by decide)
  have:=(Nat.log2_lt h0).mpr this
  omega
theorem snoc_ind {P:List Nat->Prop} (h0:P []) (h1:∀ a d,P a->P (a++[d])) (l:List Nat):P l:=by
 have key:∀ r:List Nat,P r.reverse:=λr=>by
  induction r with
  | nil=>exact h0
  | cons d r ih =>
   rw[List.reverse_cons]
   exact h1 _ _ ih
 have:=key l.reverse
 rw[jv] at this
 exact this
theorem YF:∀ l:List Nat,(∀ c∈l,Er c)->Ek l<10 ^ l.length:=by
 refine snoc_ind (λ_=>by decide) λa d ih h=>?_
 ·skip
  have h1:=ih λc hc=>h c (cr _ hc)
  have h2:=h d (be _ av)
  unfold Er at h2
  rw[Nm.Jk,aE,bv,Nat.pow_succ]
  omega
theorem Wa:∀ l:List Nat,l ≠ []->(∀ c∈l,Er c)->l.head? ≠ some 48->Nm.Ui (Ek l)=l/\1<=Ek l:=by
 refine snoc_ind (λh=>absurd rfl h) λa d ih _ h hh=>?_
 ·skip
  have h2:=h d (be _ av)
  unfold Er at h2
  rw[Nm.Jk]
  by_cases ha:a=[]
  ·subst ha
   have h48:d ≠ 48:=λe=>hh (by rw[e];rfl)
   have e0:Ek []=0:=rfl
   rw[e0,Nat.zero_mul,Nat.zero_add,Nm.F_ (by omega),show (d - 48) / 10=0 by omega,Nm.Fq,show 48+(d - 48) % 10=d by omega]
   exact⟨rfl,by omega⟩
  ·have VW:a.head? ≠ some 48:=λe=>hh (by cases a with | nil=>exact absurd rfl ha | cons x r=>exact e)
   obtain⟨e1,e2⟩:=ih ha (λc hc=>h c (cr _ hc)) VW
   rw[Nm.F_ (by omega),show (Ek a * 10+(d - 48)) / 10=Ek a by omega,e1,show 48+(Ek a * 10+(d - 48)) % 10=d by omega]
   exact⟨rfl,by omega⟩
theorem N7 {l:List Nat} (h:Nm.JG l=true):∃ n:Int,l=Nm.wr n/\n.natAbs<10 ^ 12:=by
 unfold Nm.JG at h
 rw[Bool.or_eq_true] at h
 rcases h with h | h
 ·exact⟨0,of_decide_eq_true h,by decide⟩
 ·simp only[Bool.and_eq_true,decide_eq_true_eq,List.all_eq_true] at h
  obtain⟨⟨⟨h1,h2⟩,h3⟩,h4⟩:=h
  have hd:∀ c∈Nm.En l,Er c:=λc hc=>Nm.NZ.mp (h3 c hc)
  have hh:(Nm.En l).head? ≠ some 48:=λe=>by rw[e] at h4;cases h4
  obtain⟨e1,e2⟩:=Wa (Nm.En l) (λe=>by rw[e] at h1;cases h1) hd hh
  have hb:=YF (Nm.En l) hd
  have hb2:Ek (Nm.En l)<10 ^ 12:=bt hb (Nat.pow_le_pow_right (by decide) h2)
  have em:Nm.mag (Ek (Nm.En l))=Nm.En l:=by
   unfold Nm.mag
   rw[if_neg (by omega)]
   exact e1
  by_cases hs:(l.head? == some 45)=true
  ·refine⟨-((Ek (Nm.En l):Nat):Int),?_,by rw[Int.natAbs_neg,iE];exact hb2⟩
   unfold Nm.wr
   rw[if_pos (by omega),Int.natAbs_neg,iE,em]
   unfold Nm.En
   rw[if_pos hs]
   cases l with
   | nil=>cases hs
   | cons c r =>
    have:c=45:=by simpa using hs
    rw[this]
    rfl
  ·refine⟨((Ek (Nm.En l):Nat):Int),?_,by rw[iE];exact hb2⟩
   unfold Nm.wr
   rw[if_neg (by omega),iE,em]
   unfold Nm.En
   rw[if_neg hs]
   rfl
noncomputable def rdW (z:Str):V:=if h:Nm.JG (LL z)=true then .int (N7 h).choose else .str z
theorem M4 {z:Str} (h:Nm.JG (LL z)=true):∃ n:Int,rdW z=.int n/\LL z=Nm.wr n/\n.natAbs<10 ^ 12:=⟨(N7 h).choose,dif_pos h,(N7 h).choose_spec.1,(N7 h).choose_spec.2⟩
theorem G6 {z:Str} (h:Nm.JG (LL z)=false):rdW z=.str z:=dif_neg (by rw[h];exact cy)
theorem dH {x:V} (h:OD x):rdW (Kw x)=x:=by
 rcases h with⟨t,rfl,h⟩ | ⟨i,rfl,h⟩
 ·exact G6 (PN h)
 ·have e:LL (Kw (.int i))=Nm.wr i:=str_int i
  obtain⟨n,e1,e2,_⟩:=M4 (z:=Kw (.int i)) (by rw[e];exact Nm.Ww h)
  rw[e1,Z_ (e2.symm.trans e)]
noncomputable def rdT (z:Str):List V:=(Txt.split z " ").map rdW
end Og
namespace L2
open PySem PySem.Spec PyProof.Rows
section
variable {X:Cx} {o e f:Expr} {li i5:Pos} {td ty tx:TE}
end
theorem Ck {X:Cx} {x:Str} {e:Expr} {te:TE} {i3 pos:Pos} (i:Nat) (hN:X.N.Nodup) (hi:X.N[i]? = some x) (hx:Loc X.env.scope x) (he:PE X e te) (hs:swapsWith e (some (.Name x i3)) pos.line X.env=pure false) (hf:X.fn x=true \/ X.env.scope.names.lookup x=some .local) :
  PS X (.Assign [.Name x i3] e pos) (cM te (Dw i)):=Bf hN hi hx he hs hf
theorem BX {X:Cx} {e:Expr} {es:List Expr} {te:TE} {t:TA} (h:starEach (e::es) X.env=(false,eval e X.env)::starEach es X.env) (he:PE X e te) (ht:PA X es t):PA X (e::es) (Zo te t):=Aa he ht h
open PySem PySem.Spec PySem.Calls PyProof.Rows
section
variable {X:Cx}
end
section
variable {X:Cx}
end
open PySem PySem.Spec PyProof.Rows
section
variable {X:Cx} {a7:List (Addr × Obj)} {σ:St} {H:Hp} {s:Shared} {x z:Str} {scope:Scope} {fp:List Addr} {C:Addr}
end
section
variable {X:Cx} {x z:Str} {scope:Scope}
end
section
variable {X:Cx} {x z:Str} {scope:Scope}
end
open PySem PySem.Spec PySem.Calls PyProof.Rows
theorem Mm {X:Cx} (hu:X.A.units<cLine):HN X (compareOp .Eq) (λx y H Q=>∃ p q xs,x=V.ref p/\y=V.ref q/\Dg X.K H p xs/\Dg X.K H q []/\Q (.bl xs.isEmpty) H):=by
 intro a7 s σ H x y v u Q I rx ry h
 obtain⟨p,q,xs,rfl,rfl,hp,hq,k⟩:=h
 cases rx
 cases ry
 obtain⟨its,r,pl,hz⟩:=I.list hp
 obtain⟨oo,r2,IS,YR⟩:=I.list hq
 have l1:=r.length
 cases r2
 cases xs with
 | nil =>
  cases r
  refine SeqAt.RcAt.lists (e:=λ_=>true) pl.isList IS.isList rfl hu (λj h1 h2=>?_) _ _ _ _ ⟨.bl _,H,I,rfl,k⟩
  exact absurd h1 (ip _)
 | cons a b =>
  refine SeqAt.RcAt.lists_lengths pl.isList IS.isList (by simp;intro z;rw[z] at l1;simp at l1) hu _ _ _ _ ⟨.bl _,H,I,rfl,k⟩
end L2
namespace Og
open PySem L2
variable {K:W.Frag} {aB aP aM:Addr}
theorem VF {w:Str} (h:jC w):isNm w:=by
 rcases h with rfl | rfl | rfl | rfl | rfl | rfl | rfl <;> (unfold isNm;decide +kernel)
theorem HY.tu {rows:List R} {bs:List (Str × Nat)} {rk:List (Str × Nat × Int)} {ks:List R} {ls:List (List Ln)} {f':List Nat} (h:HY K aB aP aM rows bs rk ks ls f'):∀ r∈rows,(∀ x∈r.v,OD x)/\r.v.length<=30:=by
 have em:((List.range rows.length).map λi:Nat=>V.int (i:Int)).map (Oe rows)=rows:=by
  rw[bg]
  refine iP λi=>?_
  rw[br]
  by_cases hi:i<rows.length
  ·rw[List.getElem?_range hi,af hi]
   show some (Oe rows (V.int (i:Int)))=_
   show some ((rows[((i:Nat):Int).toNat]?).getD ⟨"","",[]⟩)=_
   rw[eJ,af hi]
   rfl
  ·rw[fo (by rw[fS];omega),fo (by omega)]
   rfl
 have O:=h.ok (Oe rows) _ em
 intro r hr
 have GG:=h.wd r hr
 have hpk:=h.pk r hr
 refine⟨?_,by show r.rest.length+1+1<=30;omega⟩
 rw[<-em] at hr
 obtain⟨v,hv,rfl⟩:=ay.mp hr
 obtain⟨i,hi,e⟩:=dA hv
 have ok:=O.ok i v (by rw[af hi,e])
 generalize Oe rows v=r at ok GG hpk |-
 intro x hx
 rcases List.mem_cons.mp (show x∈V.str r.w::(V.str r.nm::r.rest) from hx) with rfl | hx
 ·exact .inl ⟨_,rfl,VF GG⟩
 rcases ok with ok | ok
 ·obtain⟨ap,ps,_,_,hlen,_,oI⟩:=ok.parts
  obtain⟨j,hj,e⟩:=dA hx
  have hp:=oI j x ps[j] (by rw[af hj,e]) (af (by omega))
  rcases hp with⟨i,_,_,_,rfl,_⟩ | hp
  ·exact .inr ⟨_,rfl,hpk.1 _ ((bq.mp hx).resolve_left λe=>by cases e)⟩
  ·rcases hp with⟨_,_,t,rfl,hn,_⟩ | ⟨_,_,t,rfl,hn,_⟩
   ·exact .inl ⟨t,rfl,hn⟩
   ·exact .inl ⟨t,rfl,hn⟩
 ·obtain⟨ts,lj,_,_,ml⟩:=ok.ts
  rw[lj] at hx
  obtain⟨t,ht,rfl⟩:=ay.mp hx
  exact .inl ⟨t,rfl,(ml t ht).1⟩
end Og
namespace L2
open PySem PySem.Spec PySem.Calls PyProof.Rows
section
variable {X:Cx} {ER:XR} {k:Nat} {f:Addr} {fd:FuncData} {ps:List Str} {sp:Sp} {i4:List V} {ds:List Value} {x:Str} {p pos:Pos} {e:Expr} {es:List Expr} {t:TA}
noncomputable def cu (sp:Sp) (i4:List V) (ER:XR) (t:TA):TE:=λσ H Q=>V3 sp i4 (λC od H2=>ER C od σ H2) t σ H Q
theorem Wh (F:A_ X.prog X.w X.K X.mg X.base (S7 X.prog X.w) k f fd ps sp) (hr:Ba k X.A) (hg:Gl X x) (hm:X.mg x=some (.ref f)) (hk:W.keepIn X.K (.ref f)=true) (hb:Binds X.K fd ps ds) (hd:Vals i4 ds)
  (ha:PA X (e::es) t) (B5:X.xe=λ_ _=>False) (qS:(x == ("__debug__" : Str))=false:=by decide) (he:starEach (e::es) X.env=(false,eval e X.env)::starEach es X.env:=by rfl) (hpl:(backTo pos (starEach es X.env)).any (·.1)=false:=by rfl) :
  PET X ER (.Call (.Name x p) (e::es) [] pos) (cu sp i4 ER t):=by
 intro a7 s σ H Q I h
 refine wpAny_Call_Name_kw (G4 I hg hm ?_ qS)
 refine W.callWith_K (h₀:=X.base) I.ok.mod.kin hk (wpAny_mono (ha pos a7 s σ H _ I h) (λus s1 ⟨vs,H1,I1,r,q⟩=>⟨I1.Gv,?_⟩) λe s' z=>?_) he hpl
 ·exact Xg F hr hb hd I1 r q
 ·rw[B5] at z
  exact z.elim
end
noncomputable def Cw (c d:Nat):List Nat->Nat
 | []=>0
 | [_]=>0
 | a::b::l=>(if a=c/\b=d then 1 else 0)+Cw c d (b::l)
section
variable {c d:Nat}
theorem Ug (h:c ≠ d) (l:List Nat):Cw c d (d::l)=Cw c d l:=by
 cases l with
 | nil=>rfl
 | cons b l =>
  show (if d=c/\b=d then 1 else 0)+Cw c d (b::l)=_
  rw[if_neg λz=>h z.1.symm,kA]
theorem Rn (a:Nat) (l:List Nat):Cw c d l<=Cw c d (a::l):=by
 cases l with
 | nil=>exact ar _
 | cons b l=>exact Nat.le_add_left _ _
theorem Hs (h:c ≠ d) (b:List Nat):∀ a:List Nat,Cw c d (a++c::d::b)=Cw c d a+1+Cw c d b
 | []=>by
  show (if c=c/\d=d then 1 else 0)+Cw c d (d::b)=0+1+Cw c d b
  rw[if_pos ⟨rfl,rfl⟩,Ug h]
 | [x]=>by
  have ih:=Hs h b []
  show (if x=c/\c=d then 1 else 0)+Cw c d (c::d::b)=0+1+Cw c d b
  rw[if_neg λz=>h z.2,kA]
  exact ih
 | x::y::a=>by
  have ih:=Hs h b (y::a)
  show (if x=c/\y=d then 1 else 0)+Cw c d (y::a++c::d::b)=(if x=c/\y=d then 1 else 0)+Cw c d (y::a)+1+Cw c d b
  rw[ih]
  omega
theorem Rt (h:c ≠ d):∀ ps:List (List Nat),ps ≠ []->Cw c d (jL [c,d] ps)+1=ps.length+(ps.map (Cw c d)).sum
 | [],z=>absurd rfl z
 | [p],_=>by simp[jL];omega
 | p::q::r,_=>by
  have ih:=Rt h (q::r) (by simp)
  show Cw c d (p++c::d::jL [c,d] (q::r))+1=_
  rw[Hs h,aS,cS,kN]
  omega
theorem gn (h:c ≠ d):∀ {p q a b:List Nat},Cw c d p=0->Cw c d q=0->p++c::d::a=q++c::d::b->p=q/\a=b
 | [],[],a,b,_,_,e=>⟨rfl,(List.cons.inj (List.cons.inj e).2).2⟩
 | [],[x],a,b,_,_,e=>absurd (List.cons.inj (List.cons.inj e).2).1.symm h
 | [],x::y::q,a,b,_,hq,e=>by
  obtain⟨e1,e2⟩:=List.cons.inj e
  have e3:=(List.cons.inj e2).1
  have:Cw c d (x::y::q)=1+Cw c d (y::q):=by
   show (if x=c/\y=d then 1 else 0)+_=_
   rw[if_pos ⟨e1.symm,e3.symm⟩]
  omega
 | [x],[],a,b,_,_,e=>absurd (List.cons.inj (List.cons.inj e).2).1 h
 | x::y::p,[],a,b,hp,_,e=>by
  obtain⟨e1,e2⟩:=List.cons.inj e
  have e3:=(List.cons.inj e2).1
  have:Cw c d (x::y::p)=1+Cw c d (y::p):=by
   show (if x=c/\y=d then 1 else 0)+_=_
   rw[if_pos ⟨e1,e3⟩]
  omega
 | x::p,y::q,a,b,hp,hq,e=>by
  obtain⟨e1,e2⟩:=List.cons.inj e
  have h1:=Rn (c:=c) (d:=d) x p
  have h2:=Rn (c:=c) (d:=d) y q
  obtain⟨e3,e4⟩:=gn h (p:=p) (q:=q) (by omega) (by omega) e2
  exact⟨by rw[e1,e3],e4⟩
theorem S8 (h:c ≠ d):∀ {ps qs:List (List Nat)},ps ≠ []->qs ≠ []->(∀ p∈ps,Cw c d p=0)->(∀ p∈qs,Cw c d p=0)->jL [c,d] ps=jL [c,d] qs->ps=qs
 | [],_,z,_,_,_,_=>absurd rfl z
 | _,[],_,z,_,_,_=>absurd rfl z
 | [p],[q],_,_,_,_,e=>by rw[show p=q from e]
 | [p],q::q'::r,_,_,hp,_,e=>by
  have h1:=hp p av
  rw[show p=q++c::d::jL [c,d] (q'::r) from e,Hs h] at h1
  omega
 | p::p'::r,[q],_,_,_,hq,e=>by
  have h1:=hq q av
  rw[<-show p++c::d::jL [c,d] (p'::r)=q from e,Hs h] at h1
  omega
 | p::p'::r,q::q'::r',_,_,hp,hq,e=>by
  obtain⟨e1,e2⟩:=gn h (hp p av) (hq q av) e
  rw[e1,S8 h (by simp) (by simp) (λx hx=>hp x (List.mem_cons_of_mem _ hx)) (λx hx=>hq x (List.mem_cons_of_mem _ hx)) e2]
theorem MF (c d:Nat):∀ l:List Nat,((List.range l.length).filter λi=>decide (l[i]? = some c/\l[i+1]? = some d)).length=Cw c d l
 | []=>rfl
 | [a]=>by
  rw[show (List.range [a].length)=[0] from rfl,List.filter_cons,if_neg (by simp)]
  rfl
 | a::b::l=>by
  have ih:=MF c d (b::l)
  rw[aS,List.range_succ_eq_map,dS,ff]
  have e:((λi=>decide ((a::b::l)[i]? = some c/\(a::b::l)[i+1]? = some d)) ∘ Nat.succ)=λi=>decide ((b::l)[i]? = some c/\(b::l)[i+1]? = some d):=by
   funext i
   show decide ((a::b::l)[i+1]? = some c/\(a::b::l)[i+1+1]? = some d)=_
   rw[eR,eR]
  rw[e]
  show _=(if a=c/\b=d then 1 else 0)+Cw c d (b::l)
  by_cases hh:a=c/\b=d
  ·rw[if_pos (by simp[hh.1,hh.2]),List.length_cons,List.length_map,ih,if_pos hh]
   omega
  ·rw[if_neg (by simpa using hh),List.length_map,ih,if_neg hh]
   omega
open Builtin.Str StrLaws
theorem Oc {y:Str} (hy:y.cps.toList=[c,d]) (lI:c ≠ d) (hk:Builtin.Str.strKind y=1) {ps:List Str} (hn:ps ≠ []) (hp:∀ p∈ps,Cw c d p.cps.toList=0):Txt.split (Str.join y ps) y=ps:=by
 obtain⟨z,ez⟩:∃ z,Str.join y ps=z:=⟨_,rfl⟩
 rw[ez]
 have hs:c ∉ [d]:=by simpa using lI
 have eL:z.cps.toList=jL [c,d] (ps.map λp=>p.cps.toList):=by rw[<-ez,Eb,hy]
 have hp':∀ p∈ps.map (λp:Str=>p.cps.toList),Cw c d p=0:=λp h=>by
  obtain⟨q,hq,rfl⟩:=ay.mp h
  exact hp q hq
 have hl:y.length=2:=by
  show y.cps.size=_
  rw[<-Array.length_toList,hy]
  rfl
 have zl:z.length=z.cps.toList.length:=(Array.length_toList ..).symm
 have hat:∀ i,At z y z.length i ↔ z.cps.toList[i]? = some c/\z.cps.toList[i+1]? = some d:=λi=>by
  constructor
  ·intro h
   exact⟨Kl hy h (k:=0) (by simp),Kl hy h (k:=1) (by simp)⟩
  ·rintro⟨h1,h2⟩
   have l2:=(ai.mp h2).1
   refine⟨by omega,?_⟩
   rw[subAt_eq,hl,hy]
   have e:(z.cps.toList.drop i).take 2=[c,d]:=by
    rw[List.drop_eq_getElem_cons (by omega),List.drop_eq_getElem_cons (by omega)]
    rw[af (by omega)] at h1 h2
    rw[List.take_succ_cons,List.take_succ_cons,List.take_zero,Option.some.inj h1,Option.some.inj h2]
   rw[e,beq_self_eq_true]
 have hocc:occurrences z y 0 z.length (z.length+1)=(List.range (z.length+1)).filter λi=>decide (z.cps.toList[i]? = some c/\z.cps.toList[i+1]? = some d):=by
  rw[occ_eq,Nat.sub_zero,<-List.range_eq_range']
  exact Gy hy hs z.length (z.length+1) _ (λi=>by rw[decide_eq_true_eq];exact (hat i).symm) _ (#[],0) List.pairwise_lt_range (λ_ _ _=>dc _) (by rw[fS];exact kx (kA _))
 have hcnt:(occurrences z y 0 z.length (z.length+1)).length=Cw c d z.cps.toList:=by
  rw[hocc,List.range_succ,List.filter_append,List.length_append,zl,MF,List.filter_cons,if_neg (by simp)]
  rfl
 have hk1:¬ Builtin.Str.strKind z<Builtin.Str.strKind y:=by
  rw[hk]
  unfold Builtin.Str.strKind
  split
  ·omega
  ·split <;> omega
 have hq:(Txt.split z y).length=Cw c d z.cps.toList+1:=by
  unfold Txt.split
  by_cases h1:(decide (z.length<y.length) || decide (Builtin.Str.strKind z<Builtin.Str.strKind y))=true
  ·rw[if_pos h1]
   rw[decide_eq_false hk1,Bool.or_false,decide_eq_true_eq] at h1
   have h0:Cw c d z.cps.toList=0:=by
    rw[zl,hl] at h1
    cases e:z.cps.toList with
    | nil=>rfl
    | cons a r =>
     cases r with
     | nil=>rfl
     | cons b r=>rw[e] at h1;simp at h1;omega
   rw[h0]
   rfl
  ·rw[if_neg h1]
   by_cases h2:(occurrences z y 0 z.length (z.length+1)).isEmpty=true
   ·rw[if_pos h2,<-hcnt,List.isEmpty_iff.mp h2]
    rfl
   ·rw[if_neg h2,length_partsBetween,hcnt]
 have hj:Str.join y (Txt.split z y)=z:=join_split z y
 have qn:Txt.split z y ≠ []:=λe=>by rw[e] at hq;simp at hq
 generalize Txt.split z y=qs at hq hj qn
 have eQ:z.cps.toList=jL [c,d] (qs.map λp=>p.cps.toList):=by rw[<-hj,Eb,hy]
 have Bz:=Rt lI (qs.map λp:Str=>p.cps.toList) (by simpa using qn)
 rw[<-eQ,ae] at Bz
 have h0:((qs.map λp:Str=>p.cps.toList).map (Cw c d)).sum=0:=by omega
 have hqc:∀ p∈qs.map (λp:Str=>p.cps.toList),Cw c d p=0:=λp h=>io.mp h0 _ (cf h)
 have:=S8 lI (by simpa using hn) (by simpa using qn) hp' hqc (eL.symm.trans eQ)
 exact (QK this).symm
end
end L2
namespace Og
open PySem L2
theorem Qv (c:Nat):∀ ps:List (List Nat),(∀ p∈ps,p.length<=(jL [c] ps).length)/\ps.length<=(jL [c] ps).length+1
 | []=>⟨λp h=>(kR h).elim,dc _⟩
 | [p]=>⟨λq h=>by rw[List.mem_singleton.mp h];exact Nat.le_refl _,by simp⟩
 | p::q::r=>by
  obtain⟨h1,h2⟩:=Qv c (q::r)
  have e:(jL [c] (p::q::r)).length=p.length+(1+(jL [c] (q::r)).length):=by
   show (p++([c]++jL [c] (q::r))).length=_
   rw[aE,aE]
   rfl
  rw[e]
  refine⟨λx hx=>?_,by rw[aS];omega⟩
  rcases bq.mp hx with rfl | hx
  ·omega
  ·have:=h1 x hx
   omega
theorem split_len (z:Str):(Txt.split z " ").length<=z.length+1/\∀ p∈Txt.split z " ",p.length<=z.length:=by
 have hj:Str.join " " (Txt.split z " ")=z:=StrLaws.join_split z " "
 have e:LL z=jL [32] ((Txt.split z " ").map λp=>p.cps.toList):=by
  have:=Eb " " (Txt.split z " ")
  rw[hj] at this
  exact this
 obtain⟨h1,h2⟩:=Qv 32 ((Txt.split z " ").map λp=>p.cps.toList)
 rw[<-e,ae,<-E_] at h2
 refine⟨h2,λp hp=>?_⟩
 have:=h1 _ (cf hp)
 rw[<-e,<-E_] at this
 rw[E_ p]
 exact this
theorem Ss {vs:List V} (h:∀ x∈vs,OD x) (hn:vs ≠ []):rdT (Bw vs)=vs:=by
 unfold rdT
 rw[K4 h hn,bg]
 have:vs.map (rdW ∘ Kw)=vs.map id:=fi λx hx=>dH (h x hx)
 rw[this,ij]
noncomputable def rdX:V->List V
 | .str z=>rdT z
 | _=>[]
end Og
section PartK13a
set_option maxHeartbeats 4000000
namespace K13
open PySem L2 Og
noncomputable def top (i:Nat):Stmt:=PySem.Challenge.pw_windchest_k13_organ_texts_refused.main.body.getD i (.Pass ⟨0,0,0,0⟩)
noncomputable abbrev nW:Stmt:=top 23
noncomputable abbrev dI:Stmt:=top 24
noncomputable abbrev nq:Stmt:=top 25
noncomputable abbrev lQ:Stmt:=top 35
noncomputable abbrev fP:Stmt:=top 36
noncomputable abbrev pJ:Stmt:=top 37
noncomputable abbrev jy:Stmt:=top 38
noncomputable abbrev jm:Stmt:=top 39
noncomputable abbrev pP:Stmt:=top 40
noncomputable abbrev lU:Stmt:=top 41
noncomputable abbrev mH:Stmt:=top 42
noncomputable abbrev gM:Stmt:=top 43
noncomputable abbrev oW:Stmt:=top 44
noncomputable abbrev pq:Stmt:=top 45
noncomputable abbrev mQ:Stmt:=top 46
noncomputable abbrev ni:Stmt:=top 47
noncomputable abbrev nu:Stmt:=top 54
noncomputable abbrev lM:Stmt:=top 55
noncomputable abbrev oF:Stmt:=top 56
noncomputable abbrev lL:Stmt:=top 57
noncomputable abbrev qj:Stmt:=top 50
noncomputable abbrev lN:Stmt:=top 51
noncomputable abbrev pF:Stmt:=top 26
noncomputable abbrev m_:Stmt:=top 27
noncomputable abbrev o_:Stmt:=top 60
noncomputable abbrev lD:Stmt:=top 61
noncomputable abbrev ik:Stmt:=top 62
noncomputable abbrev lV:Stmt:=top 63
noncomputable abbrev lB:Stmt:=top 64
noncomputable abbrev oH:Stmt:=top 66
noncomputable abbrev mU:Stmt:=top 67
noncomputable abbrev pI:Stmt:=top 68
noncomputable abbrev nA:Stmt:=top 69
noncomputable abbrev p_:Stmt:=top 70
noncomputable abbrev lK:Stmt:=top 71
noncomputable abbrev mX:Stmt:=top 72
noncomputable abbrev mj:Stmt:=top 73
noncomputable abbrev mW:Stmt:=top 74
noncomputable abbrev oE:Stmt:=top 75
noncomputable abbrev qJ:Stmt:=top 76
noncomputable abbrev gJ:Stmt:=top 77
noncomputable abbrev qH:Stmt:=top 78
noncomputable abbrev qM:Stmt:=top 79
noncomputable abbrev qT:Stmt:=top 80
noncomputable abbrev pQ:Stmt:=top 81
noncomputable abbrev qL:Stmt:=top 82
noncomputable abbrev oO:Stmt:=top 83
noncomputable abbrev Ve:Stmt:=inClass (top 58) 0
noncomputable abbrev rZ:Stmt:=inClass (top 58) 2
noncomputable abbrev sW:Stmt:=inClass (top 58) 13
noncomputable abbrev qz:Stmt:=inClass (top 58) 15
noncomputable abbrev qZ:Stmt:=inClass (top 58) 1
noncomputable abbrev qw:Stmt:=inClass (top 58) 3
noncomputable abbrev sU:Stmt:=inClass (top 58) 14
noncomputable abbrev sE:Stmt:=inClass (top 58) 16
noncomputable abbrev sH:Stmt:=inClass (top 58) 17
noncomputable abbrev rC:Stmt:=inClass (top 58) 4
noncomputable abbrev m7:Stmt:=inClass (top 16) 0
noncomputable abbrev Nf:Stmt:=top 84
structure Txt (K:W.Frag) (P:Params) (mg:Str->Option Value) (C cN cO c0 c1 c2 c3 c4 c5 c6 c7 c8 c9 lP kX ll ma aN aK aB aP aM:Addr):Prop where
 len:mg "len" = none
 isin:mg "isinstance" = none
 int:mg "int" = none
 bool:mg "bool" = none
 str:mg "str" = none
 list:mg "list" = none
 tuple:mg "tuple" = none
 all:mg "all" = none
 any:mg "any" = none
 sum:mg "sum" = none
 range:mg "range" = none
 zip:mg "zip" = none
 enumerate:mg "enumerate" = none
 max:mg "max" = none
 reversed:mg "reversed" = none
 set:mg "set" = none
 letters:∃ t,mg "LETTERS" = some (.str letters t)
 mostL:∃ t,mg "MOST_LETTERS" = some (.int 8 t)
 mostR:∃ t,mg "MOST_ROWS" = some (.int 150 t)
 mostLn:∃ t,mg "MOST_LINES" = some (.int 4 t)
 fig:∃ t,mg "FIGURES" = some (.str M8 t)
 mostF:∃ t,mg "MOST_FIGURES" = some (.int 12 t)
 clI:qF K C
 below:∃ t,mg "MEMBERS_BELOW" = some (.int 1200 t)
 mN:mg "NAMED" = some (.ref aN)
 mK:mg "KNOBS" = some (.ref aK)
 mB:mg "BOUNDS" = some (.ref aB)
 mP:mg "PARTS" = some (.ref aP)
 mM:mg "MOST_OF" = some (.ref aM)
 tN:KTup K aN (named.map V.str)
 tK:KTup K aK [.str "stop",.str "coupler",.str "mute"]
 dB:KDict K P aB
 dP:KDict K P aP
 dM:KDict K P aM
 cl:XF K C
 mC:mg "Organ" = some (.ref C)
 verr:mg "ValueError" = none
 mNO:mg "NoOrgan" = some (.ref cN)
 mx0:mg "NoSet" = some (.ref c0)
 mx1:mg "NoNumber" = some (.ref c1)
 mx2:mg "NoKnob" = some (.ref c2)
 mx3:mg "NoPiston" = some (.ref c3)
 mx4:mg "NoBoard" = some (.ref c4)
 mx5:mg "NoKey" = some (.ref c5)
 mx6:mg "NotHeld" = some (.ref c6)
 mx7:mg "NoStep" = some (.ref c7)
 mx8:mg "NoDeed" = some (.ref c8)
 mx9:mg "NoRoll" = some (.ref c9)
 mx10:mg "NoPlay" = some (.ref lP)
 mx11:mg "TooMany" = some (.ref kX)
 mx12:mg "NoRow" = some (.ref ll)
 mx13:mg "Unknown" = some (.ref ma)
 mOE:mg "OrganError" = some (.ref cO)
 exO:W.excIn K cO U8 "ValueError.__new__" = true
 n_row_list:DP K C "row_list"
 n_board_list:DP K C "board_list"
 n_rank_list:DP K C "rank_list"
 n_knob_rows:DP K C "knob_rows"
 n_board_numbers:DP K C "board_numbers"
 n_rank_numbers:DP K C "rank_numbers"
 n_knob_numbers:DP K C "knob_numbers"
 n_key_places:DP K C "key_places"
 n_pipe_places:DP K C "pipe_places"
 n_knob_lines:DP K C "knob_lines"
 n_step_sets:DP K C "step_sets"
set_option genInjectivity false in
set_option genSizeOf false in
set_option genSizeOfSpec false in
structure Ad where
 (fWh fMd fNm fRo fTo fWi fPa fHp fCl fIk fSb fIs fWm fHr fIr fCk fNu fPl fLi fSs fMy fSt fIn fNf fRp fRr fRg fSr fSg fCe fLw fMi fNn fBb fMa fLb fLk fLs fLl fLc fLt fLr fLp fBp fKi fRf fNo fOi fOb fBk fOp fOw fOr fOs fOm fOy fOz fXi:Addr)
 (dWh dMd dNm dRo dTo dWi dPa dHp dCl dIk dSb dIs dWm dHr dIr dCk dNu dPl dLi dSs dMy dSt dIn dNf dRp dRr dRg dSr dSg dCe dLw dMi dNn dBb dMa dLb dLk dLs dLl dLc dLt dLr dLp dBp dKi dRf dNo dOi dOb dBk dOp dOw dOr dOs dOm dOy dOz dXi:FuncData)
structure qW (K:W.Frag) (mg:Str->Option Value) (C cN cO c0 c1 c2 c3 c4 c5 c6 c7 c8 c9 lP kX ll ma:Addr) (aD:Ad):Prop where
 FWh:Dm K "is_whole" "is_whole" nW aD.fWh aD.dWh∧Binds K aD.dWh ["thing"] []∧mg "is_whole" = some (.ref aD.fWh)
 FMd:Dm K "is_made_of" "is_made_of" dI aD.fMd aD.dMd∧Binds K aD.dMd ["text","signs","most"] []∧mg "is_made_of" = some (.ref aD.fMd)
 FNm:Dm K "is_name" "is_name" nq aD.fNm aD.dNm∧Binds K aD.dNm ["thing"] []∧mg "is_name" = some (.ref aD.fNm)
 FRo:Dm K "rows_of" "rows_of" lQ aD.fRo aD.dRo∧Binds K aD.dRo ["rows","word"] []∧mg "rows_of" = some (.ref aD.fRo)
 FTo:Dm K "is_told" "is_told" fP aD.fTo aD.dTo∧Binds K aD.dTo ["rows","word","thing"] []∧mg "is_told" = some (.ref aD.fTo)
 FWi:Dm K "is_within" "is_within" pJ aD.fWi aD.dWi∧Binds K aD.dWi ["thing","bounds"] []∧mg "is_within" = some (.ref aD.fWi)
 FPa:Dm K "is_part" "is_part" jy aD.fPa aD.dPa∧Binds K aD.dPa ["thing","part","ahead"] []∧mg "is_part" = some (.ref aD.fPa)
 FHp:Dm K "has_parts" "has_parts" jm aD.fHp aD.dHp∧Binds K aD.dHp ["row","ahead"] []∧mg "has_parts" = some (.ref aD.fHp)
 FCl:Dm K "count_of_last_lines" "count_of_last_lines" pP aD.fCl aD.dCl∧Binds K aD.dCl ["rows"] []∧mg "count_of_last_lines" = some (.ref aD.fCl)
 FIk:Dm K "is_key_of" "is_key_of" lU aD.fIk aD.dIk∧Binds K aD.dIk ["number","board","ahead"] []∧mg "is_key_of" = some (.ref aD.fIk)
 FSb:Dm K "stands_behind_stop" "stands_behind_stop" mH aD.fSb aD.dSb∧Binds K aD.dSb ["line","ahead"] []∧mg "stands_behind_stop" = some (.ref aD.fSb)
 FIs:Dm K "is_step" "is_step" gM aD.fIs aD.dIs∧Binds K aD.dIs ["row","ahead"] []∧mg "is_step" = some (.ref aD.fIs)
 FWm:Dm K "is_well_made" "is_well_made" oW aD.fWm aD.dWm∧Binds K aD.dWm ["row","ahead"] []∧mg "is_well_made" = some (.ref aD.fWm)
 FHr:Dm K "has_room" "has_room" pq aD.fHr aD.dHr∧Binds K aD.dHr ["word","ahead"] []∧mg "has_room" = some (.ref aD.fHr)
 FIr:Dm K "is_row" "is_row" mQ aD.fIr aD.dIr∧Binds K aD.dIr ["thing","ahead"] []∧mg "is_row" = some (.ref aD.fIr)
 FCk:Dm K "check_rows" "check_rows" ni aD.fCk aD.dCk∧Binds K aD.dCk ["rows"] []∧mg "check_rows" = some (.ref aD.fCk)
 FNu:Dm K "numbers_of" "numbers_of" nu aD.fNu aD.dNu∧Binds K aD.dNu ["names"] []∧mg "numbers_of" = some (.ref aD.fNu)
 FPl:Dm K "places_of" "places_of" lM aD.fPl aD.dPl∧Binds K aD.dPl ["things"] []∧mg "places_of" = some (.ref aD.fPl)
 FLi:Dm K "lines_by_knob" "lines_by_knob" oF aD.fLi aD.dLi∧Binds K aD.dLi ["rows","rank_numbers"] []∧mg "lines_by_knob" = some (.ref aD.fLi)
 FSs:Dm K "set_of_step" "set_of_step" lL aD.fSs aD.dSs∧Binds K aD.dSs ["row","knob_numbers"] []∧mg "set_of_step" = some (.ref aD.fSs)
 FMy:Dm K "may_be_member" "may_be_member" qj aD.fMy aD.dMy∧Binds K aD.dMy ["thing"] []∧mg "may_be_member" = some (.ref aD.fMy)
 FSt:Dm K "set_of" "set_of" lN aD.fSt aD.dSt∧Binds K aD.dSt ["numbers"] []∧mg "set_of" = some (.ref aD.fSt)
 FIn:Dm K "is_number" "is_number" pF aD.fIn aD.dIn∧Binds K aD.dIn ["thing"] []∧mg "is_number" = some (.ref aD.fIn)
 FNf:Dm K "number_of" "number_of" m_ aD.fNf aD.dNf∧Binds K aD.dNf ["text"] []∧mg "number_of" = some (.ref aD.fNf)
 FRp:Dm K "read_part" "read_part" o_ aD.fRp aD.dRp∧Binds K aD.dRp ["part"] []∧mg "read_part" = some (.ref aD.fRp)
 FRr:Dm K "read_row" "read_row" lD aD.fRr aD.dRr∧Binds K aD.dRr ["text"] []∧mg "read_row" = some (.ref aD.fRr)
 FRg:Dm K "read_organ" "read_organ" ik aD.fRg aD.dRg∧Binds K aD.dRg ["text"] []∧mg "read_organ" = some (.ref aD.fRg)
 FSr:Dm K "show_row" "show_row" lV aD.fSr aD.dSr∧Binds K aD.dSr ["row"] []∧mg "show_row" = some (.ref aD.fSr)
 FSg:Dm K "show_organ" "show_organ" lB aD.fSg aD.dSg∧Binds K aD.dSg ["organ"] []∧mg "show_organ" = some (.ref aD.fSg)
 FCe:Dm K "_law_cell_at" "_law_cell_at" oH aD.fCe aD.dCe∧Binds K aD.dCe ["_law_script","_law_k"] []∧mg "_law_cell_at" = some (.ref aD.fCe)
 FLw:Dm K "_law_whole" "_law_whole" mU aD.fLw aD.dLw∧Binds K aD.dLw ["_law_found"] []∧mg "_law_whole" = some (.ref aD.fLw)
 FMi:Dm K "_law_mix" "_law_mix" pI aD.fMi aD.dMi∧Binds K aD.dMi ["_law_cell","_law_by","_law_many_here"] []∧mg "_law_mix" = some (.ref aD.fMi)
 FNn:Dm K "_law_name" "_law_name" nA aD.fNn aD.dNn∧Binds K aD.dNn ["_law_base_here","_law_k"] []∧mg "_law_name" = some (.ref aD.fNn)
 FBb:Dm K "_law_base" "_law_base" p_ aD.fBb aD.dBb∧Binds K aD.dBb ["_law_cell"] []∧mg "_law_base" = some (.ref aD.fBb)
 FMa:Dm K "_law_many" "_law_many" lK aD.fMa aD.dMa∧Binds K aD.dMa ["_law_plan_here","_law_word"] []∧mg "_law_many" = some (.ref aD.fMa)
 FLb:Dm K "_law_board" "_law_board" mX aD.fLb aD.dLb∧Binds K aD.dLb ["_law_plan_here","_law_name_here","_law_cell"] []∧mg "_law_board" = some (.ref aD.fLb)
 FLk:Dm K "_law_rank" "_law_rank" mj aD.fLk aD.dLk∧Binds K aD.dLk ["_law_plan_here","_law_name_here","_law_cell"] []∧mg "_law_rank" = some (.ref aD.fLk)
 FLs:Dm K "_law_stop" "_law_stop" mW aD.fLs aD.dLs∧Binds K aD.dLs ["_law_plan_here","_law_name_here","_law_cell"] []∧mg "_law_stop" = some (.ref aD.fLs)
 FLl:Dm K "_law_line" "_law_line" oE aD.fLl aD.dLl∧Binds K aD.dLl ["_law_plan_here","_law_cell"] []∧mg "_law_line" = some (.ref aD.fLl)
 FLc:Dm K "_law_coupler" "_law_coupler" qJ aD.fLc aD.dLc∧Binds K aD.dLc ["_law_plan_here","_law_name_here","_law_cell"] []∧mg "_law_coupler" = some (.ref aD.fLc)
 FLt:Dm K "_law_step" "_law_step" gJ aD.fLt aD.dLt∧Binds K aD.dLt ["_law_plan_here","_law_cell"] []∧mg "_law_step" = some (.ref aD.fLt)
 FLr:Dm K "_law_row" "_law_row" qH aD.fLr aD.dLr∧Binds K aD.dLr ["_law_plan_here","_law_name_here","_law_cell"] []∧mg "_law_row" = some (.ref aD.fLr)
 FLp:Dm K "_law_plan" "_law_plan" qM aD.fLp aD.dLp∧Binds K aD.dLp ["_law_script","_law_start"] []∧mg "_law_plan" = some (.ref aD.fLp)
 FBp:Dm K "_law_bad_piece" "_law_bad_piece" qT aD.fBp aD.dBp∧Binds K aD.dBp ["_law_piece","_law_cell"] []∧mg "_law_bad_piece" = some (.ref aD.fBp)
 FKi:Dm K "_law_kinds" "_law_kinds" pQ aD.fKi aD.dKi∧Binds K aD.dKi ["_law_e"] []∧mg "_law_kinds" = some (.ref aD.fKi)
 FRf:Dm K "_law_refused" "_law_refused" qL aD.fRf aD.dRf∧Binds K aD.dRf ["_law_text","_law_due"] []∧mg "_law_refused" = some (.ref aD.fRf)
 FNo:Dm K "_law_none" "_law_none" oO aD.fNo aD.dNo∧Binds K aD.dNo ["_law_text","_law_cell"] []∧mg "_law_none" = some (.ref aD.fNo)
 FOi:Dm K "__init__" "Organ.__init__" Ve aD.fOi aD.dOi∧Binds K aD.dOi ["self","rows"] []∧Mk K C aD.fOi
 FOb:Dm K "boards" "Organ.boards" rZ aD.fOb aD.dOb∧Binds K aD.dOb ["self"] []∧Meth K C "boards" aD.fOb
 FBk:Dm K "board_of_knob" "Organ.board_of_knob" sW aD.fBk aD.dBk∧Binds K aD.dBk ["self","knob"] []∧Meth K C "board_of_knob" aD.fBk
 FOp:Dm K "coupler" "Organ.coupler" qz aD.fOp aD.dOp∧Binds K aD.dOp ["self","knob"] []∧Meth K C "coupler" aD.fOp
 FOw:Dm K "rows" "Organ.rows" qZ aD.fOw aD.dOw∧Binds K aD.dOw ["self"] []∧Meth K C "rows" aD.fOw
 FOr:Dm K "ranks" "Organ.ranks" qw aD.fOr aD.dOr∧Binds K aD.dOr ["self"] []∧Meth K C "ranks" aD.fOr
 FOs:Dm K "stop" "Organ.stop" sU aD.fOs aD.dOs∧Binds K aD.dOs ["self","knob"] []∧Meth K C "stop" aD.fOs
 FOm:Dm K "mute" "Organ.mute" sE aD.fOm aD.dOm∧Binds K aD.dOm ["self","knob"] []∧Meth K C "mute" aD.fOm
 FOy:Dm K "steps" "Organ.steps" sH aD.fOy aD.dOy∧Binds K aD.dOy ["self"] []∧Meth K C "steps" aD.fOy
 FOz:Dm K "knobs" "Organ.knobs" rC aD.fOz aD.dOz∧Binds K aD.dOz ["self"] []∧Meth K C "knobs" aD.fOz
 FXi:Dm K "__init__" "NoOrgan.__init__" m7 aD.fXi aD.dXi∧Binds K aD.dXi ["self","at"] []
 rN:lE K cN cO aD.fXi "at" [c0,c1,c2,c3,c4,c5,c6,c7,c8,c9,lP,kX,ll,ma]
section
variable {P:Program} {w:World} {K:W.Frag} {mg:Str->Option Value} {base:Heap} {C cN cO c0 c1 c2 c3 c4 c5 c6 c7 c8 c9 lP kX ll ma aN aK aB aP aM:Addr} {aD:Ad}
variable (N:qW K mg C cN cO c0 c1 c2 c3 c4 c5 c6 c7 c8 c9 lP kX ll ma aD) (T:Txt K w.params mg C cN cO c0 c1 c2 c3 c4 c5 c6 c7 c8 c9 lP kX ll ma aN aK aB aP aM)
noncomputable def Vj:Sp:=λvs H Q _=>∃ i:Int,vs=[.int i]/\Q (.bl true) H
theorem gZ:BL ["thing"] ["thing"] (Ah nW):=CT
include N T in
theorem Zi:A_ P w K mg base Bh 1 aD.fWh aD.dWh ["thing"] Vj:=by
 refine N.FWh.1.ok gZ (λvs H Q E h=>?_) (λb9 A outer s H vs Q E hr h=>?_)
 ·obtain⟨i,rfl,_⟩:=h
  rfl
 ·obtain⟨i,rfl,q⟩:=h
  refine⟨_,(Ag (Ar (CQ (Aj Bs rfl T.isin ag (Aa (pv 0) (Aa (Ci (v:=.ty "int") rfl T.int hW rfl) Ab))) (By (Jx (Aj Bs rfl T.isin ag (Aa (pv 0) (Aa (Ci (v:=.ty "bool") rfl T.bool iL rfl) Ab)))))))),?_⟩
  refine⟨_,rfl,_,"int",_,_,rfl,.int i,ty_int,_,rfl,De ?_⟩
  exact⟨_,rfl,_,"bool",_,_,rfl,.int i,Zb,_,rfl,q⟩
noncomputable def jg:Sp:=λvs H Q _=>∃ z:Str,vs=[.str z,.str letters,.int 8]/\isNm z/\∀ H',Ak H H'->Q (.bl true) H'
theorem aV:BL ["text","signs","most"] ["text","signs","most"] (Ah dI):=CT
include N T in
theorem d9:A_ P w K mg base Bh 1 aD.fMd aD.dMd ["text","signs","most"] jg:=by
 refine N.FMd.1.ok aV (λvs H Q E h=>?_) (λb9 A outer s H vs Q E hr h=>?_)
 ·obtain⟨z,rfl,_⟩:=h
  rfl
 ·obtain⟨z,rfl,hz,q⟩:=h
  refine⟨_,(Ag (Ar (CQ (Gk FJ FJ Ac (Aj Gz rfl T.len aT (Aa (pv 0) Ab)) (pv 2)) (By (Aj (FP rfl) rfl T.all ej (Aa (Bp rfl (Bd (osc:=Ah dI) (N:=["text","signs","most"]) rfl rfl (by decide +kernel)) (Qu (pv 0)) (λ_ _ _ _=>CK) (λ_ _ _ _=>(DY Je (pv 0) (pv 2) rfl))) Ab)))))),?_⟩
  have hzl:z.length<sizeLine:=Av (by have:=hz.2.1;omega)
  refine⟨_,rfl,z,rfl,fw hzl,_,_,rfl,rfl,_,rfl,?_⟩
  refine Br (λh1=>?_) (λh1=>absurd (decide_eq_true (by have:=hz.1;omega)) h1)
  refine⟨_,rfl,_,_,rfl,rfl,_,rfl,?_⟩
  refine Br (λh2=>?_) (λh2=>absurd (decide_eq_true (by have:=hz.2.1;omega)) h2)
  refine⟨_,rfl,z,rfl,Km (λ_=>true) (λc=>.bl (Rk letters c)) hzl (λc hc H' hs R k=>k H' (Ak.refl H')) (λc hc _ H' hs R k=>⟨_,rfl,_,rfl,_,_,rfl,rfl,k H' (Ak.refl H')⟩) (λD H' hD hs hl=>?_)⟩
  refine⟨D,z.cps.toList.map (Rk letters),rfl,.inl (.inl ?_),?_⟩
  ·rw[hl,bi.mpr (λ_ _=>rfl),bg]
   rfl
  ·have e:(z.cps.toList.map (Rk letters)).all id=true:=by
    rw[kC,cw]
    intro c hc
    have:=hz.2.2 c hc
    show Rk letters c=true
    rw[Nk c (by omega)]
    exact decide_eq_true this
   rw[e]
   exact q H' hs
noncomputable def cX:Sp:=λvs H Q _=>∃ z:Str,vs=[.str z]/\isNm z/\∀ H',Ak H H'->Q (.bl true) H'
theorem eE:BL ["thing"] ["thing"] (Ah nq):=CT
include N T in
theorem Yz:A_ P w K mg base Bh 2 aD.fNm aD.dNm ["thing"] cX:=by
 refine N.FNm.1.ok eE (λvs H Q E h=>?_) (λb9 A outer s H vs Q E hr h=>?_)
 ·obtain⟨z,rfl,_⟩:=h
  rfl
 ·obtain⟨z,rfl,hz,q⟩:=h
  obtain⟨sB,wI⟩:=T.letters
  obtain⟨zn,C3⟩:=T.mostL
  refine⟨_,(Ag (Ar (CQ (Aj Bs rfl T.isin ag (Aa (pv 0) (Aa (Ci (v:=.ty "str") rfl T.str eD rfl) Ab))) (By (Ai (d9 N T) (ad hr) rfl N.FMd.2.2 N.FMd.1.kp N.FMd.2.1 .nil Az (Aa (pv 0) (Aa (Bc (v:=.str letters) rfl wI ⟨sB,rfl⟩) (Aa (Bc (v:=.int 8) rfl C3 ⟨zn,rfl⟩) Ab)))))))),?_⟩
  refine⟨_,rfl,_,"str",_,_,rfl,.str z,J9,_,rfl,De ?_⟩
  exact⟨_,rfl,z,rfl,hz,q⟩
noncomputable def N_:Sp:=λvs H Q _=>∃ (p:Addr) (us:List V) (w:Str) (ρ:V->R),vs=[.ref p,.str w]/\H p=some (.lst us)/\Rows H ρ us/\us.length<=500/\∀ D H',H D=none->Ak H H'->H' D=some (.lst (us.filter (pw ρ w)))->Q (.ref D) H'
theorem pU:BL ["rows","word"] ["rows","word"] (Ah lQ):=CT
include N T in
theorem J1:A_ P w K mg base Bh 1 aD.fRo aD.dRo ["rows","word"] N_:=by
 refine N.FRo.1.ok pU (λvs H Q E h=>?_) (λb9 A outer s H vs Q E hr h=>?_)
 ·obtain⟨p,us,w,ρ,rfl,_⟩:=h
  rfl
 ·obtain⟨p,us,w,ρ,rfl,hp,hR,hl,q⟩:=h
  refine⟨_,(Ag (Ar (Bp rfl (Bd (osc:=Ah lQ) (N:=["rows","word"]) rfl rfl (by decide +kernel)) (B_ (pv 0)) (λ_ _ _ _=>(M6 (BR DQ (BW (BK (K:=K) rfl) (pv 0) Ac (λ_ _=>rfl)) (pv 2) (BZ _)))) (λ_ _ _ _=>(pv 0))))),?_⟩
  have hS:Dg K H p us:=.inl (.inl hp)
  refine⟨_,rfl,p,rfl,⟨_,hS⟩,Dk (K:=K) (xs:=us) (pw ρ w) id hS (Av (by omega)) (λx hx H' hs R k=>?_) (λx hx _ H' hs R k=>⟨_,rfl,k H' (Ak.refl H')⟩) (λD H' hD hs oQ=>?_)⟩
  ·obtain⟨T0,rfl,hT⟩:=(hR x hx).mono hs
   exact⟨_,rfl,T0,_,_,_,rfl,rfl,kU hT,Aq (j:=0) rfl,_,rfl,rfl,_,rfl,k H' (Ak.refl H')⟩
  ·rw[ij] at oQ
   exact q D H' hD hs oQ
noncomputable def Z0:Sp:=λvs H Q _=>∃ (p:Addr) (us:List V) (w t:Str) (ρ:V->R),vs=[.ref p,.str w,.str t]/\H p=some (.lst us)/\Rows H ρ us/\us.length<=500/\isNm t/\∀ H',Ak H H'->Q (.bl (Mp ρ us w t)) H'
theorem eN:BL ["rows","word","thing"] ["rows","word","thing"] (Ah fP):=CT
include N T in
theorem Y6:A_ P w K mg base Bh 3 aD.fTo aD.dTo ["rows","word","thing"] Z0:=by
 refine N.FTo.1.ok eN (λvs H Q E h=>?_) (λb9 A outer s H vs Q E hr h=>?_)
 ·obtain⟨p,us,w,t,ρ,rfl,_⟩:=h
  rfl
 ·obtain⟨p,us,w,t,ρ,rfl,hp,hR,hl,ht,q⟩:=h
  refine⟨_,(Ag (Ar (CQ (Ai (Yz N T) (ad hr) rfl N.FNm.2.2 N.FNm.1.kp N.FNm.2.1 .nil Az (Aa (pv 2) Ab)) (By (Aj (Hq rfl) rfl T.any gp (Aa (Bp rfl (Bd (osc:=Ah fP) (N:=["rows","word","thing"]) rfl rfl (by decide +kernel)) (B_ (Ai (J1 N T) (ad hr) rfl N.FRo.2.2 N.FRo.1.kp N.FRo.2.1 .nil Az (Aa (pv 0) (Aa (pv 1) Ab)))) (λ_ _ _ _=>CK) (λ_ _ _ _=>(DY DQ (BW (BK (K:=K) rfl) (pv 0) Ac (λ_ _=>rfl)) (pv 3) (BZ _)))) Ab)))))),?_⟩
  refine⟨_,rfl,t,rfl,ht,λH1 s1=>⟨_,rfl,De ?_⟩⟩
  refine⟨_,rfl,_,rfl,p,us,w,ρ,rfl,s1 _ _ hp,hR.mono s1,hl,λD H2 hD s2 hl2=>?_⟩
  have hS:Dg K H2 D (us.filter (pw ρ w)):=.inl (.inl hl2)
  refine⟨D,rfl,⟨_,hS⟩,Dk (K:=K) (xs:=us.filter (pw ρ w)) (λ_=>true) (λv=>.bl (pn ρ t v)) hS (Av (by have:=GZ (pw ρ w) us;omega)) (λx hx H' hs R k=>k H' (Ak.refl H')) (λx hx _ H' hs R k=>?_) (λD3 H3 AY s3 sk=>?_)⟩
  ·obtain⟨T0,rfl,hT⟩:=(((hR.mono s1).mono s2).mono hs) x (cq.mp hx).1
   exact⟨_,rfl,T0,_,_,_,rfl,rfl,kU hT,Aq (j:=1) rfl,_,rfl,rfl,k H' (Ak.refl H')⟩
  ·refine⟨D3,(us.filter (pw ρ w)).map (pn ρ t),rfl,.inl (.inl ?_),?_⟩
   ·rw[sk,bi.mpr (λ_ _=>rfl),bg]
    rfl
   ·have e:((us.filter (pw ρ w)).map (pn ρ t)).any id=Mp ρ us w t:=by
     rw[kT]
     rfl
    rw[e]
    exact q H3 ((s1.trans s2).trans s3)
noncomputable def jq (K:W.Frag):Sp:=λvs H Q _=>∃ (i lo hi:Int) (b:Addr),vs=[.int i,.ref b]/\KTup K b [.int lo,.int hi]/\lo<=i/\i<=hi/\Q (.bl true) H
theorem eU:BL ["thing","bounds"] ["thing","bounds"] (Ah pJ):=CT
include N T in
theorem iC:A_ P w K mg base Bh 2 aD.fWi aD.dWi ["thing","bounds"] (jq K):=by
 refine N.FWi.1.ok eU (λvs H Q E h=>?_) (λb9 A outer s H vs Q E hr h=>?_)
 ·obtain⟨i,lo,hi,b,rfl,_⟩:=h
  rfl
 ·obtain⟨i,lo,hi,b,rfl,hb,h1,h2,q⟩:=h
  refine⟨_,(Ag (Ar (CQ (Ai (Zi N T) (ad hr) rfl N.FWh.2.2 N.FWh.1.kp N.FWh.2.1 .nil Az (Aa (pv 0) Ab)) (By (Gk FJ FJ (BW (BK (K:=K) rfl) (pv 1) Ac (λ_ _=>rfl)) (pv 0) (BW (BK (K:=K) rfl) (pv 1) Ac (λ_ _=>rfl))))))),?_⟩
  refine⟨_,rfl,i,rfl,_,rfl,De ?_⟩
  refine⟨_,rfl,b,_,_,_,rfl,rfl,hb.sq _,Aq (j:=0) rfl,_,rfl,_,_,rfl,rfl,_,rfl,?_⟩
  refine Br (λ_=>?_) (λz=>absurd (decide_eq_true h1) z)
  refine⟨_,rfl,b,_,_,_,rfl,rfl,hb.sq _,Aq (j:=1) rfl,_,_,rfl,rfl,?_⟩
  show Q (.bl (decide (i<=hi))) H
  rw[decide_eq_true h2]
  exact q
noncomputable def gU (K:W.Frag) (aB:Addr):Sp:=λvs H Q _=>∃ (x:V) (part:Str) (p:Addr) (us:List V) (ρ:V->R),vs=[x,.str part,.ref p]/\H p=some (.lst us)/\Rows H ρ us/\us.length<=500/\EY K aB ρ us x part/\∀ H',Ak H H'->Q (.bl true) H'
theorem jn:BL ["thing","part","ahead"] ["thing","part","ahead"] (Ah jy):=CT
include N T in
theorem kY:A_ P w K mg base Bh 4 aD.fPa aD.dPa ["thing","part","ahead"] (gU K aB):=by
 refine N.FPa.1.ok jn (λvs H Q E h=>?_) (λb9 A outer s H vs Q E hr h=>?_)
 ·obtain⟨x,part,p,us,ρ,rfl,_⟩:=h
  rfl
 ·obtain⟨x,part,p,us,ρ,rfl,hp,hR,hl,hok,q⟩:=h
  refine⟨_,(Ae (Bj (V8 (M9 (pv 1) (Bc (v:=.ref aB) rfl T.mB rfl))) (Ag (Ar (Ai (iC N T) (ad hr) rfl N.FWi.2.2 N.FWi.1.kp N.FWi.2.1 .nil Az (Aa (pv 0) (Aa (Hy (Bc (v:=.ref aB) rfl T.mB rfl) (pv 1) (λ_ _=>rfl)) Ab))))) BV)
   (Ae (Bj (BR DQ (pv 1) An (BZ _)) (Ag (Ar (CQ (Ai (Yz N T) (ad hr) rfl N.FNm.2.2 N.FNm.1.kp N.FNm.2.1 .nil Az (Aa (pv 0) Ab)) (By (Jx (Aj (Hq rfl) rfl T.any gp (Aa (Bp rfl (Bd (osc:=Ah jy) (N:=["thing","part","ahead"]) rfl rfl (by decide +kernel)) (Js (Bc (v:=.ref aN) rfl T.mN rfl)) (λ_ _ _ _=>CK) (λ_ _ _ _=>(Ai (Y6 N T) (ad hr) rfl N.FTo.2.2 N.FTo.1.kp N.FTo.2.1 .nil Az (Aa (pv 3) (Aa (pv 0) (Aa (pv 1) Ab)))))) Ab))))))) BV)
   (Ag (Ar (Ai (Y6 N T) (ad hr) rfl N.FTo.2.2 N.FTo.1.kp N.FTo.2.1 .nil Az (Aa (pv 2) (Aa (pv 1) (Aa (pv 0) Ab)))))))),?_⟩
  rcases hok with⟨i,lo,hi,b,rfl,hn,hb,h1,h2⟩ | ⟨hn,rfl,t,rfl,ht,hno⟩ | ⟨hn,hne,t,rfl,ht,wf⟩
  ·refine⟨_,rfl,aB,part,_,rfl,rfl,T.dB,hn,_,rfl,De ?_⟩
   exact⟨_,rfl,_,rfl,aB,part,.ref b,_,rfl,rfl,T.dB,hn,rfl,i,lo,hi,b,rfl,hb,h1,h2,q H (Ak.refl H)⟩
  ·refine⟨_,rfl,aB,_,_,rfl,rfl,T.dB,hn,_,rfl,Ce ?_⟩
   refine⟨_,rfl,rfl,_,rfl,De ?_⟩
   refine⟨_,rfl,t,rfl,ht,λH1 s1=>⟨_,rfl,De ?_⟩⟩
   have hS:Ga K H1 aN (named.map V.str):=T.tN.sq _
   refine⟨aN,rfl,⟨_,hS⟩,Gb (xs:=named.map V.str) (λ_=>true) (λ_=>.bl false) (by show 5<sizeLine;decide) (λi H2 x hs hx=>⟨_,x,hs.tup hS,hx⟩) (λi H2 y H3 hs _ hy=>⟨hy.1,hy.2 _ (hs.tup hS)⟩) (λH2 hs=>⟨_,hs.tup hS,Nat.le_refl _⟩)
    (λx hx H' hs R k=>k H' (Ak.refl H')) (λx hx _ H' hs R k=>?_) (λD H2 hD s2 hl2=>?_)⟩
   ·obtain⟨w0,G2,rfl⟩:=ay.mp hx
    refine⟨_,rfl,_,rfl,_,rfl,p,us,w0,t,ρ,rfl,hs _ _ (s1 _ _ hp),(hR.mono s1).mono hs,hl,ht,λqE ul=>?_⟩
    rw[hno w0 G2]
    exact k qE ul
   ·refine⟨D,[false,false,false,false,false],rfl,kU hl2,_,rfl,?_⟩
    exact q H2 (s1.trans s2)
  ·refine⟨_,rfl,aB,_,_,rfl,rfl,T.dB,hn,_,rfl,Ce ?_⟩
   refine⟨_,rfl,rfl,_,rfl,?_⟩
   refine Br (λz=>absurd (V.str.inj (of_decide_eq_true z)) hne) (λ_=>?_)
   refine⟨_,rfl,_,rfl,_,rfl,p,us,part,t,ρ,rfl,hp,hR,hl,ht,λH' hs=>?_⟩
   rw[wf]
   exact q H' hs
noncomputable def eF (K:W.Frag) (aB aP:Addr):Sp:=λvs H Q _=>∃ (r p:Addr) (w:Str) (xs:List V) (us:List V) (ρ:V->R) (ap:Addr) (ps:List Str),vs=[.ref r,.ref p]/\H r=some (.tup (.str w::xs))/\H p=some (.lst us)/\Rows H ρ us/\us.length<=500 /\
 W.nsIn K aP w=some (some (.ref ap))/\KTup K ap (ps.map V.str)/\xs.length=ps.length/\ps.length<=10/\(∀ (i:Nat) x y,xs[i]? = some x->ps[i]? = some y->EY K aB ρ us x y)/\∀ H',Ak H H'->Q (.bl true) H'
theorem Yt:BL ["row","ahead","parts"] ["row","ahead"] (Ah jm):=CT
include N T in
theorem fX:A_ P w K mg base Bh 5 aD.fHp aD.dHp ["row","ahead"] (eF K aB aP):=by
 refine N.FHp.1.ok Yt (λvs H Q E h=>?_) (λb9 A outer s H vs Q E hr h=>?_)
 ·obtain⟨r,p,w,xs,us,ρ,ap,ps,rfl,_⟩:=h
  rfl
 ·obtain⟨r,p,w,xs,us,ρ,ap,ps,rfl,hr0,hp,hR,hl,hn,nh,hlen,oI,hok,q⟩:=h
  refine⟨_,(Ae (Bf (i:=2) Yt.nd rfl (Or.inl rfl) (Hy (Bc (v:=.ref aP) rfl T.mP rfl) (BW (BK (K:=K) rfl) (pv 0) Ac (λ_ _=>rfl)) (λ_ _=>rfl)))
   (Ae (Bj (BR OJ (Aj Ay rfl T.len aT (Aa (pv 0) Ab)) (BJ Dc Ac (Aj Ay rfl T.len aT (Aa (pv 2) Ab))) (BZ _)) (Ag (Ar Et)) BV)
   (Ag (Ar (Aj (FP rfl) rfl T.all ej (Aa (Tf rfl (Kv (osc:=Ah jm) (N:=["row","ahead","parts"]) rfl rfl (by decide +kernel)) (Ry rfl T.zip (Aa (Cg K5 (pv 0) (Cu Ac) Dj) (Aa (pv 2) Ab))) (λ_ _ _ _=>CK) (λ_ _ _ _=>(Ai (kY N T) (ad hr) rfl N.FPa.2.2 N.FPa.1.kp N.FPa.2.1 .nil Az (Aa (pv 0) (Aa (pv 1) (Aa (pv 3) Ab)))))) Ab)))))),?_⟩
  refine⟨_,rfl,r,_,_,_,rfl,rfl,kU hr0,Aq (j:=0) rfl,aP,w,.ref ap,_,rfl,rfl,T.dP,hn,rfl,?_⟩
  refine⟨_,rfl,r,_,rfl,.inr (.inl (.inl hr0)),_,rfl,ap,_,rfl,.inr (nh.sq _),_,_,rfl,rfl,rfl,_,rfl,?_⟩
  refine Br (λz=>?_) (λ_=>?_)
  ·exfalso
   have e:(((V.str w::xs).length:Nat):Int)=1+(((ps.map V.str).length:Nat):Int):=by
    rw[aS,ae,hlen]
    omega
   rw[e] at z
   simp at z
  ·have hcut:Cm (V.str w::xs) (some 1) none=xs:=by
    unfold Cm
    have e1:HT.Ds (V.str w::xs).length 0 (some ((1:Nat):Int))=1:=by rw[HT.Dl,aS];omega
    have e1':HT.Ds (V.str w::xs).length 0 (some (1:Int))=1:=e1
    rw[e1',HT.El,List.drop_succ_cons,List.drop_zero]
    exact ef (by rw[aS];omega)
   refine⟨_,rfl,_,rfl,r,_,rfl,kU hr0,(λz=>?_),λp2 ti=>?_⟩
   ·have e1:HT.Ds (V.str w::xs).length 0 (some ((1:Nat):Int))=1:=by rw[HT.Dl,aS];omega
    have:=z.1.symm.trans e1
    cases this
   rw[hcut]
   obtain⟨H2,d0,s2,a2⟩:=CN (o:=HO.tup xs) ti
   rw[d0]
   have h1:Ga K H2 p2 xs:=.inl (.inl a2)
   refine⟨_,rfl,p2,ap,rfl,⟨_,h1⟩,⟨_,nh.sq _⟩,Oi (K:=K) (xs:=xs) (ys:=ps.map V.str) (λ_ _=>.bl true) h1 (nh.sq _) (by rw[ae];exact hlen) (Av (by omega)) (λi x y hx hy H3 s3 R k=>?_) (λD H3 hD s3 sk=>?_)⟩
   ·rw[br] at hy
    obtain⟨part,sN,rfl⟩:=ee.mp hy
    exact⟨_,rfl,_,rfl,_,rfl,x,part,p,us,ρ,rfl,s3 _ _ (s2 _ _ hp),(hR.mono s2).mono s3,hl,hok i x part hx sN,λH4 s4=>k H4 s4⟩
   ·have e:List.zipWith (λ_ _=>V.bl true) xs (ps.map V.str)=(List.replicate xs.length true).map V.bl:=by
     rw[List.map_replicate]
     refine iP λi=>?_
     rw[iX]
     by_cases hi:i<xs.length
     ·rw[af hi,af (by rw[ae];omega),af (by rw[eh];exact hi)]
      simp
     ·rw[fo (by omega),fo (l:=List.replicate _ _) (by rw[eh];omega)]
    rw[e] at sk
    refine⟨D,List.replicate xs.length true,rfl,kU sk,?_⟩
    have e2:(List.replicate xs.length true).all id=true:=by simp
    rw[e2]
    exact q H3 (s2.trans s3)
noncomputable def cI:Sp:=λvs H Q _=>∃ (p:Addr) (us:List V) (ρ:V->R) (c:Nat),vs=[.ref p]/\H p=some (.lst us)/\Rows H ρ us/\us.length<=500/\J3 ρ us c/\Q (.int (c:Nat)) H
theorem Yi:BL ["rows","count","row"] ["rows"] (Ah pP):=CT
include N T in
theorem Zr:A_ P w K mg base Bh 1 aD.fCl aD.dCl ["rows"] cI:=by
 refine N.FCl.1.ok Yi (λvs H Q E h=>?_) (λb9 A outer s H vs Q E hr h=>?_)
 ·obtain⟨p,us,ρ,c,rfl,_⟩:=h
  rfl
 ·obtain⟨p,us,ρ,c,rfl,hp,hR,hl,hc,q⟩:=h
  refine⟨_,(Ae (Bf (i:=1) Yi.nd rfl (Or.inl rfl) Ac)
   (Ae (Fb PassesOwn.never rfl (cB rfl T.reversed (Aa (pv 0) Ab)) (Cr (i:=2) Yi.nd rfl (Or.inl rfl)) (Ae (Bj (BR OJ (BW (BK (K:=K) rfl) (pv 2) Ac (λ_ _=>rfl)) An (BZ _)) (Ag WM) BV)
   (Ag (Bf (i:=1) Yi.nd rfl (Or.inl rfl) (BJ Dc (pv 1) Ac)))))
   (Ag (Ar (pv 1))))),?_⟩
  have hS:Dg K H p us:=.inl (.inl hp)
  refine⟨_,rfl,p,us,rfl,hS,Yr (K:=K) (a:=p) (xs:=us) (λi σ H4=>H4=H/\i<=c/\∃ v2,σ=[some (.ref p),some (.int (i:Nat)),v2]) ⟨rfl,dc _,_,rfl⟩ (λi σ H4 _ h=>by rw[h.1];exact hS) ?_ ?_⟩
  ·rintro i x σ H4 hi hx ⟨rfl,Mc,v2,rfl⟩
   obtain⟨r,rfl,hr0⟩:=hR x (al hx)
   refine⟨_,rfl,r,_,_,_,rfl,rfl,kU hr0,Aq (j:=0) rfl,rfl,_,rfl,?_⟩
   by_cases e:(ρ (.ref r)).w = "line"
   ·have hne:i ≠ c:=λz=>by
     obtain⟨v,hv,hno⟩:=hc.no
     rw[<-z,hx] at hv
     cases hv
     exact hno e
    refine W7 (congrArg V.str e) ?_
    exact⟨_,rfl,_,_,rfl,rfl,rfl,by omega,_,rfl⟩
   ·have EB:i=c:=by
     refine Classical.byContradiction λz=>?_
     obtain⟨v,hv,wf⟩:=hc.all i (by omega)
     rw[hx] at hv
     cases hv
     exact e wf
    subst EB
    rw[decide_eq_false λz=>e (V.str.inj z)]
    refine De ?_
    exact⟨_,rfl,q⟩
  ·rintro σ H4 ⟨rfl,Mc,v2,rfl⟩
   have:=hc.lt
   omega
noncomputable def cW:Sp:=λvs H Q _=>∃ (n:Int) (bd:Str) (p:Addr) (us:List V) (ρ:V->R),vs=[.int n,.str bd,.ref p]/\H p=some (.lst us)/\Rows H ρ us/\us.length<=500/\Df ρ us/\∀ H',Ak H H'->Q (.bl (keyOf ρ us bd n)) H'
theorem mF:BL ["number","board","ahead"] ["number","board","ahead"] (Ah lU):=CT
include N T in
theorem ZG:A_ P w K mg base Bh 2 aD.fIk aD.dIk ["number","board","ahead"] cW:=by
 refine N.FIk.1.ok mF (λvs H Q E h=>?_) (λb9 A outer s H vs Q E hr h=>?_)
 ·obtain⟨n,bd,p,us,ρ,rfl,_⟩:=h
  rfl
 ·obtain⟨n,bd,p,us,ρ,rfl,hp,hR,hl,hB,q⟩:=h
  refine⟨_,(Ag (Ar (Aj (Hq rfl) rfl T.any gp (Aa (Bp rfl (Bd (osc:=Ah lU) (N:=["number","board","ahead"]) rfl rfl (by decide +kernel)) (B_ (Ai (J1 N T) (ad hr) rfl N.FRo.2.2 N.FRo.1.kp N.FRo.2.1 .nil Az (Aa (pv 2) (Aa An Ab)))) (λ_ _ _ _=>CK) (λ_ _ _ _=>(CQ (DY DQ (BW (BK (K:=K) rfl) (pv 0) Ac (λ_ _=>rfl)) (pv 2) (BZ _)) (By (DY Fj (pv 1) (BW (BK (K:=K) rfl) (pv 0) Ac (λ_ _=>rfl)) (BZ _)))))) Ab)))),?_⟩
  refine⟨_,rfl,p,us,"board",ρ,rfl,hp,hR,hl,λD H2 hD s2 hl2=>?_⟩
  have hS:Dg K H2 D (us.filter (pw ρ "board")):=.inl (.inl hl2)
  refine⟨D,rfl,⟨_,hS⟩,Dk (K:=K) (xs:=us.filter (pw ρ "board")) (λ_=>true) (λv=>.bl (pn ρ bd v && decide (n<bM (ρ v)))) hS (Av (by have:=GZ (pw ρ "board") us;omega)) (λx hx H' hs R k=>k H' (Ak.refl H')) (λx hx _ H' hs R k=>?_) (λD3 H3 AY s3 sk=>?_)⟩
  ·have og:=cq.mp hx
   obtain⟨m,em⟩:=hB x og.1 (V.str.inj (of_decide_eq_true og.2))
   have hz:bM (ρ x)=m:=by unfold bM;rw[em]
   have hT:=((hR.mono s2).mono hs) x og.1
   have kk:=k H' (Ak.refl H')
   rw[hz] at kk
   obtain⟨T0,rfl,hT⟩:=hT
   have kk:R (.bl (decide (V.str (ρ (.ref T0)).nm=V.str bd) && decide (n<m))) H':=kk
   have hT':H' T0=some (.tup (.str (ρ (.ref T0)).w :: .str (ρ (.ref T0)).nm::(ρ (.ref T0)).rest)):=hT
   rw[em] at hT'
   refine⟨_,rfl,T0,_,_,_,rfl,rfl,kU hT',Aq (j:=1) rfl,_,rfl,rfl,_,rfl,?_⟩
   refine Br (λg=>?_) (λg=>?_)
   ·rw[g,gI] at kk
    exact⟨_,rfl,_,rfl,T0,_,_,_,rfl,rfl,kU hT',Aq (j:=2) rfl,_,_,rfl,rfl,kk⟩
   ·rw[(fF _).mp g,dQ] at kk
    exact kk
  ·refine⟨D3,(us.filter (pw ρ "board")).map (λv=>pn ρ bd v && decide (n<bM (ρ v))),rfl,.inl (.inl ?_),?_⟩
   ·rw[sk,bi.mpr (λ_ _=>rfl),bg]
    rfl
   ·have e:((us.filter (pw ρ "board")).map (λv=>pn ρ bd v && decide (n<bM (ρ v)))).any id=keyOf ρ us bd n:=by
     rw[kT]
     rfl
    rw[e]
    exact q H3 (s2.trans s3)
noncomputable def ig:Sp:=λvs H Q _=>∃ (r p:Addr) (ro:R) (us:List V) (ρ:V->R),vs=[.ref r,.ref p]/\H r=some (.tup ro.v)/\H p=some (.lst us)/\Rows H ρ us/\us.length<=500/\Ny ρ us ro/\Df ρ us/\∀ H',Ak H H'->Q (.bl true) H'
theorem Ur:BL ["line","ahead","count","row"] ["line","ahead"] (Ah mH):=CT
include N T in
theorem gf:A_ P w K mg base Bh 3 aD.fSb aD.dSb ["line","ahead"] ig:=by
 refine N.FSb.1.ok Ur (λvs H Q E h=>?_) (λb9 A outer s H vs Q E hr h=>?_)
 ·obtain⟨r,p,ro,us,ρ,rfl,_⟩:=h
  rfl
 ·obtain⟨r,p,ro,us,ρ,rfl,hr0,hp,hR,hl,hL,hB,q⟩:=h
  obtain⟨wa,wT⟩:=T.mostLn
  refine⟨_,(Ae (Bf (i:=2) Ur.nd rfl (Or.inl rfl) (Ai (Zr N T) (ad hr) rfl N.FCl.2.2 N.FCl.1.kp N.FCl.2.1 .nil Az (Aa (pv 1) Ab)))
   (Ae (Bf (i:=3) Ur.nd rfl (Or.inl rfl) (BW Cj (pv 1) (BJ Ft (BJ Ft (Aj Ay rfl T.len aT (Aa (pv 1) Ab)) Ac) (pv 2)) (λ_ _=>rfl)))
   (Ae (Bj (PW.pt (GQ (BR OJ (BW (BK (K:=K) rfl) (pv 3) Ac (λ_ _=>rfl)) An (BZ _)) (FW (BR R8 (pv 2) (Bc (v:=.int 4) rfl wT ⟨wa,rfl⟩) (BZ _))))) (Ag (Ar Et)) BV)
   (Ag (Ar (CQ (DY FJ (BW (BK (K:=K) rfl) (pv 0) Ac (λ_ _=>rfl)) (BW (BK (K:=K) rfl) (pv 0) Ac (λ_ _=>rfl)) (BZ _)) (By (Ai (ZG N T) (ad hr) rfl N.FIk.2.2 N.FIk.1.kp N.FIk.2.1 .nil Az (Aa (BW (BK (K:=K) rfl) (pv 0) Ac (λ_ _=>rfl)) (Aa (BW (BK (K:=K) rfl) (pv 3) Ac (λ_ _=>rfl)) (Aa (pv 1) Ab))))))))))),?_⟩
  obtain⟨cnt,v,sh,lo,hi,bd,rs,er,hc,h4,hv,hw,g9,hle,hk⟩:=hL.ex
  have hr1:H r=some (.tup [.str ro.w,.str ro.nm,.int sh,.int lo,.int hi]):=by rw[hr0,<-er]
  obtain⟨r2,rfl,tf⟩:=hR v (al hv)
  have hr2':H r2=some (.tup (.str (ρ (.ref r2)).w :: .str (ρ (.ref r2)).nm :: .str bd::rs)):=by rw[tf,<-g9]
  have hlt:=hc.lt
  have ei:((us.length:Nat):Int) - 1 - ((cnt:Nat):Int)=((us.length - 1 - cnt:Nat):Int):=by omega
  have hS:Dg K H p us:=.inl (.inl hp)
  refine⟨_,rfl,p,us,ρ,cnt,rfl,hp,hR,hl,hc,?_⟩
  refine⟨_,rfl,_,rfl,p,us,rfl,.inl hS,_,_,rfl,rfl,_,rfl,_,_,rfl,rfl,p,us,_,_,rfl,rfl,hS,(by rw[ei];exact Aq hv),?_⟩
  refine⟨_,rfl,r2,_,_,_,rfl,rfl,kU hr2',Aq (j:=0) rfl,rfl,_,rfl,W7 (congrArg V.str hw) ?_⟩
  refine⟨_,rfl,_,_,rfl,rfl,_,rfl,?_⟩
  refine Br (λz=>?_) (λ_=>?_)
  ·have:=of_decide_eq_true z
   omega
  refine⟨_,rfl,r,_,_,_,rfl,rfl,kU hr1,Aq (j:=3) rfl,_,rfl,r,_,_,_,rfl,rfl,kU hr1,Aq (j:=4) rfl,_,_,rfl,rfl,_,rfl,?_⟩
  refine Br (λ_=>?_) (λz=>absurd (decide_eq_true hle) z)
  refine⟨_,rfl,r,_,_,_,rfl,rfl,kU hr1,Aq (j:=4) rfl,_,rfl,r2,_,_,_,rfl,rfl,kU hr2',Aq (j:=2) rfl,_,rfl,hi,bd,p,us,ρ,rfl,hp,hR,hl,hB,λH' s'=>?_⟩
  rw[hk]
  exact q H' s'
noncomputable def kW:Sp:=λvs H Q _=>∃ (r p:Addr) (ro:R) (us:List V) (ρ:V->R) (ts:List Str),vs=[.ref r,.ref p]/\H r=some (.tup ro.v)/\H p=some (.lst us)/\Rows H ρ us/\us.length<=500/\V.str ro.nm::ro.rest=ts.map V.str/\ts.Nodup/\ts.length<=24/\(∀ t∈ts,isNm t/\Mp ρ us "stop" t=true)/\∀ H',Ak H H'->Q (.bl true) H'
theorem Yh:BL ["row","ahead","names"] ["row","ahead"] (Ah gM):=CT
include N T in
theorem gC:A_ P w K mg base Bh 5 aD.fIs aD.dIs ["row","ahead"] kW:=by
 refine N.FIs.1.ok Yh (λvs H Q E h=>?_) (λb9 A outer s H vs Q E hr h=>?_)
 ·obtain⟨r,p,ro,us,ρ,ts,rfl,_⟩:=h
  rfl
 ·obtain⟨r,p,ro,us,ρ,ts,rfl,hr0,hp,hR,hl,lj,nd,rj,ml,q⟩:=h
  refine⟨_,(Ae (Bf (i:=2) Yh.nd rfl (Or.inl rfl) (Cg K5 (pv 0) (Cu Ac) Dj))
   (Ae (Bj (PW.pt (GQ (BR DQ (Aj Ay rfl T.len aT (Aa (pv 2) Ab)) Ac (BZ _)) (FW (Cp (C_ (Aj (FP rfl) rfl T.all ej (Aa (Bp rfl (Bd (osc:=Ah gM) (N:=["row","ahead","names"]) rfl rfl (by decide +kernel)) (Js (pv 2)) (λ_ _ _ _=>CK) (λ_ _ _ _=>(Ai (Y6 N T) (ad hr) rfl N.FTo.2.2 N.FTo.1.kp N.FTo.2.1 .nil Az (Aa (pv 2) (Aa An (Aa (pv 0) Ab)))))) Ab))))))) (Ag (Ar Et)) BV)
   (Ag (Ar (DY DQ (Aj Ii rfl T.len aT (Aa (Dv (Mh rfl) rfl T.set PyProof.Rows.boot_set (Aa (pv 2) Ab)) Ab)) (Aj Ay rfl T.len aT (Aa (pv 2) Ab)) (BZ _)))))),?_⟩
  have hv:ro.v=V.str ro.w::ts.map V.str:=by
   show V.str ro.w::(V.str ro.nm::ro.rest)=_
   rw[lj]
  rw[hv] at hr0
  have tne:1<=ts.length:=by
   cases ts with
   | nil=>cases lj
   | cons a b=>exact cK (dc _)
  have hcut:Cm (V.str ro.w::ts.map V.str) (some 1) none=ts.map V.str:=by
   unfold Cm
   have e1:HT.Ds (V.str ro.w::ts.map V.str).length 0 (some 1)=1:=by
    rw[show (some (1:Int))=some ((1:Nat):Int) from rfl,HT.Dl]
    simp
   rw[e1,HT.El]
   simp
   exact ef (by rw[ae];exact ar _)
  refine⟨_,rfl,_,rfl,r,_,rfl,kU hr0,?_,λn0 wb=>?_⟩
  ·rintro⟨z,_⟩
   have e1:HT.Ds (V.str ro.w::ts.map V.str).length 0 (some 1)=1:=by
    rw[show (some (1:Int))=some ((1:Nat):Int) from rfl,HT.Dl]
    simp
   rw[e1] at z
   cases z
  rw[hcut]
  obtain⟨H1,d0,s1,a1⟩:=CN (o:=HO.tup (ts.map V.str)) wb
  rw[d0]
  have hT:Ga K H1 n0 (ts.map V.str):=.inl (.inl a1)
  have ltm:(ts.map V.str).length=ts.length:=ae ..
  refine⟨_,rfl,n0,_,rfl,.inr hT,rfl,_,rfl,Br (λz=>?_) (λ_=>?_)⟩
  ·exfalso
   have:=V.int.inj (of_decide_eq_true z)
   omega
  refine⟨_,rfl,n0,rfl,⟨_,hT⟩,JR (K:=K) (xs:=ts.map V.str) (λ_=>true) (λ_=>.bl true) hT (Av (by omega)) (λx hx H' hs R k=>k H' (Ak.refl H')) (λx hx _ H' hs R k=>?_) (λD H2 hD s2 hl2=>?_)⟩
  ·obtain⟨z,hz,rfl⟩:=ay.mp hx
   obtain⟨z1,z2⟩:=ml z hz
   refine⟨_,rfl,_,rfl,p,us,"stop",z,ρ,rfl,hs _ _ (s1 _ _ hp),(hR.mono s1).mono hs,hl,z1,λH3 s3=>?_⟩
   rw[z2]
   exact k H3 s3
  ·refine⟨D,List.replicate ts.length true,rfl,.inl (.inl ?_),_,rfl,?_⟩
   ·rw[hl2,bi.mpr (λ_ _=>rfl),bg]
    congr 2
    refine iP λi=>?_
    rw[br,br,List.getElem?_replicate]
    by_cases hi:i<ts.length
    ·rw[af hi,if_pos hi]
     rfl
    ·rw[fo (by omega),if_neg hi]
     rfl
   have ea:(List.replicate ts.length true).all id=true:=by simp
   rw[ea]
   refine Ce ?_
   have rL:=s2 _ _ a1
   refine⟨_,rfl,n0,ts,rfl,kU rL,by omega,λS hS=>?_⟩
   have s3:=Aw (o:=Mu P w S (ts.foldl Ws.Ei [])) hS
   refine⟨S,_,rfl,Af,_,rfl,n0,_,rfl,.inr (.inl (.inl (s3 _ _ rL))),rfl,?_⟩
   have e:ts.foldl Ws.Ei []=ts:=(Jj ts [] (by rw[fT];exact nd)).trans (fT _)
   have e2:decide (V.int (((ts.foldl Ws.Ei []).length:Nat):Int)=V.int (((ts.map V.str).length:Nat):Int))=true:=decide_eq_true (by rw[e,ltm])
   rw[e2]
   exact q _ (s1.trans (s2.trans s3))
noncomputable def dC (K:W.Frag) (aB aP aM:Addr):Sp:=λvs H Q _=>∃ (r p:Addr) (ro:R) (us:List V) (ρ:V->R),vs=[.ref r,.ref p]/\H r=some (.tup ro.v)/\H p=some (.lst us)/\Rows H ρ us/\us.length<=500/\Ea K aB aP aM ρ us ro/\∀ H',Ak H H'->Q (.bl true) H'
theorem dq:BL ["row","ahead"] ["row","ahead"] (Ah oW):=CT
include N T in
theorem jE:A_ P w K mg base Bh 6 aD.fWm aD.dWm ["row","ahead"] (dC K aB aP aM):=by
 refine N.FWm.1.ok dq (λvs H Q E h=>?_) (λb9 A outer s H vs Q E hr h=>?_)
 ·obtain⟨r,p,ro,us,ρ,rfl,_⟩:=h
  rfl
 ·obtain⟨r,p,ro,us,ρ,rfl,hr0,hp,hR,hl,TN,q⟩:=h
  refine⟨_,(Ae (Bj (BR DQ (BW (BK (K:=K) rfl) (pv 0) Ac (λ_ _=>rfl)) An (BZ _)) (Ag (Ar (Ai (gC N T) (ad hr) rfl N.FIs.2.2 N.FIs.1.kp N.FIs.2.1 .nil Az (Aa (pv 0) (Aa (pv 1) Ab))))) BV)
   (Ae (Bj (BR DQ (BW (BK (K:=K) rfl) (pv 0) Ac (λ_ _=>rfl)) An (BZ _)) (Ag (Ar (CQ (Ai (fX N T) (ad hr) rfl N.FHp.2.2 N.FHp.1.kp N.FHp.2.1 .nil Az (Aa (pv 0) (Aa (pv 1) Ab))) (By (Ai (gf N T) (ad hr) rfl N.FSb.2.2 N.FSb.1.kp N.FSb.2.1 .nil Az (Aa (pv 0) (Aa (pv 1) Ab))))))) BV)
   (Ag (Ar (CQ (M5 (M9 (BW (BK (K:=K) rfl) (pv 0) Ac (λ_ _=>rfl)) (Bc (v:=.ref aP) rfl T.mP rfl))) (By (Ai (fX N T) (ad hr) rfl N.FHp.2.2 N.FHp.1.kp N.FHp.2.1 .nil Az (Aa (pv 0) (Aa (pv 1) Ab))))))))),?_⟩
  refine⟨_,rfl,r,_,_,_,rfl,rfl,kU hr0,Aq (j:=0) rfl,rfl,_,rfl,?_⟩
  rcases TN with ok | ok
  case inr =>
   obtain⟨ts,lj,nd,rj,ml⟩:=ok.ts
   refine Br (λ_=>?_) (λz=>absurd (decide_eq_true (congrArg V.str ok.w)) z)
   exact⟨_,rfl,_,rfl,r,p,ro,us,ρ,ts,rfl,hr0,hp,hR,hl,lj,nd,rj,ml,q⟩
  obtain⟨ap,ps,hn,nh,hlen,oI,hok⟩:=ok.parts
  refine Br (λz=>absurd (V.str.inj (of_decide_eq_true z)) ok.ns) (λ_=>?_)
  refine⟨_,rfl,r,_,_,_,rfl,rfl,kU hr0,Aq (j:=0) rfl,rfl,_,rfl,?_⟩
  refine Br (λz=>?_) (λ_=>?_)
  ·have oy:=ok.line (V.str.inj (of_decide_eq_true z))
   refine⟨_,rfl,_,rfl,r,p,ro.w,_,us,ρ,ap,ps,rfl,hr0,hp,hR,hl,hn,nh,hlen,oI,hok,λH1 s1=>⟨_,rfl,De ?_⟩⟩
   exact⟨_,rfl,_,rfl,r,p,ro,us,ρ,rfl,s1 _ _ hr0,s1 _ _ hp,hR.mono s1,hl,oy,ok.YX,λH2 s2=>q H2 (s1.trans s2)⟩
  refine⟨_,rfl,r,_,_,_,rfl,rfl,kU hr0,Aq (j:=0) rfl,aP,_,_,rfl,rfl,T.dP,hn,_,rfl,De ?_⟩
  exact⟨_,rfl,_,rfl,r,p,ro.w,_,us,ρ,ap,ps,rfl,hr0,hp,hR,hl,hn,nh,hlen,oI,hok,q⟩
noncomputable def iQ (K:W.Frag) (aM:Addr):Sp:=λvs H Q _=>∃ (p:Addr) (w:Str) (us:List V) (ρ:V->R),vs=[.str w,.ref p]/\H p=some (.lst us)/\Rows H ρ us/\us.length<=500/\(W.nsIn K aM w=some none \/ ∃ (m:Int) (t:Tok),W.nsIn K aM w=some (some (.int m t))/\(((us.filter (pw ρ w)).length:Nat):Int)<m)/\∀ H',Ak H H'->Q (.bl true) H'
theorem eG:BL ["word","ahead"] ["word","ahead"] (Ah pq):=CT
include N T in
theorem jZ:A_ P w K mg base Bh 2 aD.fHr aD.dHr ["word","ahead"] (iQ K aM):=by
 refine N.FHr.1.ok eG (λvs H Q E h=>?_) (λb9 A outer s H vs Q E hr h=>?_)
 ·obtain⟨p,w,us,ρ,rfl,_⟩:=h
  rfl
 ·obtain⟨p,w,us,ρ,rfl,hp,hR,hl,hroom,q⟩:=h
  refine⟨_,(Ag (Ar (Y4 (M5 (Mr (pv 0) (Bc (v:=.ref aM) rfl T.mM rfl))) (By (DY Fj (Aj Ay rfl T.len aT (Aa (Ai (J1 N T) (ad hr) rfl N.FRo.2.2 N.FRo.1.kp N.FRo.2.1 .nil Az (Aa (pv 1) (Aa (pv 0) Ab))) Ab)) (Hy (Bc (v:=.ref aM) rfl T.mM rfl) (pv 0) (λ_ _=>rfl)) (BZ _)))))),?_⟩
  rcases hroom with hn | ⟨m,t,hn,hm⟩
  ·refine⟨_,rfl,aM,w,_,rfl,rfl,T.dM,hn,_,rfl,De ?_⟩
   exact q H (Ak.refl H)
  refine⟨_,rfl,aM,w,_,rfl,rfl,T.dM,hn,_,rfl,Ce ?_⟩
  refine⟨_,rfl,_,rfl,p,us,w,ρ,rfl,hp,hR,hl,λD H2 hD s2 hl2=>?_⟩
  refine⟨D,_,rfl,kU (.inl hl2),_,rfl,aM,w,.int m,_,rfl,rfl,T.dM,hn,⟨t,rfl⟩,_,_,rfl,rfl,?_⟩
  show Q (.bl (decide ((((us.filter (pw ρ w)).length:Nat):Int)<m))) H2
  rw[decide_eq_true hm]
  exact q H2 s2
noncomputable def eZ (K:W.Frag) (aB aP aM:Addr):Sp:=dC K aB aP aM
theorem iJ:BL ["thing","ahead"] ["thing","ahead"] (Ah mQ):=CT
include N T in
theorem iY:A_ P w K mg base Bh 7 aD.fIr aD.dIr ["thing","ahead"] (eZ K aB aP aM):=by
 refine N.FIr.1.ok iJ (λvs H Q E h=>?_) (λb9 A outer s H vs Q E hr h=>?_)
 ·obtain⟨r,p,ro,us,ρ,rfl,_⟩:=h
  rfl
 ·obtain⟨r,p,ro,us,ρ,rfl,hr0,hp,hR,hl,ok,q⟩:=h
  refine⟨_,(Ae (Bj (PW.pt (GQ (Cp (C_ (Aj Bs rfl T.isin ag (Aa (pv 0) (Aa (Ci (v:=.ty "tuple") rfl T.tuple gL rfl) Ab))))) (GQ (BR DQ (Aj Ay rfl T.len aT (Aa (pv 0) Ab)) Ac (BZ _)) (FW (Cp (C_ (Aj Bs rfl T.isin ag (Aa (BW (BK (K:=K) rfl) (pv 0) Ac (λ_ _=>rfl)) (Aa (Ci (v:=.ty "str") rfl T.str eD rfl) Ab))))))))) (Ag (Ar Et)) BV)
   (Ag (Ar (CQ (Ai (jE N T) (ad hr) rfl N.FWm.2.2 N.FWm.1.kp N.FWm.2.1 .nil Az (Aa (pv 0) (Aa (pv 1) Ab))) (By (Ai (jZ N T) (ad hr) rfl N.FHr.2.2 N.FHr.1.kp N.FHr.2.1 .nil Az (Aa (BW (BK (K:=K) rfl) (pv 0) Ac (λ_ _=>rfl)) (Aa (pv 1) Ab)))))))),?_⟩
  have hroom:W.nsIn K aM ro.w=some none \/ ∃ (m:Int) (t:Tok),W.nsIn K aM ro.w=some (some (.int m t))/\(((us.filter (pw ρ ro.w)).length:Nat):Int)<m:=Ea.room ok
  refine⟨_,rfl,_,"tuple",_,_,rfl,.tup hr0,PQ,_,rfl,Ce ?_⟩
  refine⟨_,rfl,r,_,rfl,.inr (.inl (.inl hr0)),rfl,_,rfl,?_⟩
  refine Br (λz=>?_) (λ_=>?_)
  ·exfalso
   have:=of_decide_eq_true z
   have:=V.int.inj this
   simp at this
   omega
  refine⟨_,rfl,r,_,_,_,rfl,rfl,kU hr0,Aq (j:=0) rfl,_,"str",_,_,rfl,.str _,J9,_,rfl,Ce ?_⟩
  refine⟨_,rfl,_,rfl,r,p,ro,us,ρ,rfl,hr0,hp,hR,hl,ok,λH1 s1=>⟨_,rfl,De ?_⟩⟩
  exact⟨_,rfl,r,_,_,_,rfl,rfl,kU (s1 _ _ hr0),Aq (j:=0) rfl,_,rfl,p,ro.w,us,ρ,rfl,s1 _ _ hp,hR.mono s1,hl,hroom,λH2 s2=>q H2 (s1.trans s2)⟩
noncomputable def d7 (K:W.Frag) (aB aP aM:Addr):Sp:=λvs H Q _=>∃ (p:Addr) (us:List V) (ρ:V->R),vs=[.ref p]/\H p=some (.lst us)/\Rows H ρ us/\1<=us.length/\us.length<=150/\(∀ (i:Nat) v,us[i]? = some v->Ea K aB aP aM ρ (us.take i) (ρ v))/\(us.filter (pw ρ "board")).isEmpty=false/\∀ H',Ak H H'->Q .non H'
theorem Ut:BL ["rows","at","row"] ["rows"] (Ah ni):=CT
include N T in
theorem gA:A_ P w K mg base Bh 8 aD.fCk aD.dCk ["rows"] (d7 K aB aP aM):=by
 refine N.FCk.1.ok Ut (λvs H Q E h=>?_) (λb9 A outer s H vs Q E hr h=>?_)
 ·obtain⟨p,us,ρ,rfl,_⟩:=h
  rfl
 ·obtain⟨p,us,ρ,rfl,hp,hR,h1,h2,hok,hb,q⟩:=h
  obtain⟨zc,CS⟩:=T.mostR
  refine⟨_,(Ae (Bj (PW.pt (GQ (Cp (C_ (Aj Bs rfl T.isin ag (Aa (pv 0) (Aa (Ci (v:=.ty "list") rfl T.list ft rfl) Ab))))) (FW (Cp (Ou FJ FJ Ac (Aj Ay rfl T.len aT (Aa (pv 0) Ab)) (Bc (v:=.int 150) rfl CS ⟨zc,rfl⟩)))))) (Ag Gh) BV)
   (Ae (Fb PassesOwn.never rfl (KY rfl T.enumerate (Aa (pv 0) Ab)) (Kz rfl (Dy (Cr (i:=1) Ut.nd rfl (Or.inl rfl)) (Dy (Cr (i:=2) Ut.nd rfl (Or.inl rfl)) JS))) (Ag (Bj (Cp (C_ (Ai (iY N T) (ad hr) rfl N.FIr.2.2 N.FIr.1.kp N.FIr.2.1 .nil Az (Aa (pv 2) (Aa (Cg Ey (pv 0) Dj (Cu (pv 1))) Ab))))) (Ag Gh) BV)))
   (Ag (Bj (Cp (Pz (Ai (J1 N T) (ad hr) rfl N.FRo.2.2 N.FRo.1.kp N.FRo.2.1 .nil Az (Aa (pv 0) (Aa An Ab))) (λ_=>rfl))) (Ag Gh) BV)))),?_⟩
  have hS:Dg K H p us:=.inl (.inl hp)
  refine⟨_,rfl,_,"list",_,_,rfl,.lst hp,Pq,_,rfl,Ce ?_⟩
  refine⟨_,rfl,p,_,rfl,.inl hS,_,_,rfl,rfl,_,rfl,?_⟩
  refine Br (λ_=>?_) (λz=>absurd (decide_eq_true (by omega)) z)
  refine⟨_,_,rfl,rfl,_,rfl,?_⟩
  have e150:decide ((us.length:Int)<=150)=true:=decide_eq_true (by omega)
  rw[e150]
  refine Ce ?_
  refine⟨_,rfl,p,rfl,⟨_,hS⟩,Hb (K:=K) (a:=p) (xs:=us) (λi σ H4=>Ak H H4/\∃ v1 v2,σ=[some (.ref p),v1,v2]) ⟨Ak.refl H,_,_,rfl⟩ (λi σ H4 _ h=>h.1.seq hS) ?_ ?_⟩
  ·rintro i x σ H4 T0 hx ⟨s4,v1,v2,rfl⟩ hT
   have s5:=Aw (o:=HO.tup [.int (i:Int),x]) hT
   refine⟨T0,_,rfl,kU Af,rfl,_,_,rfl,_,_,rfl,rfl,?_⟩
   generalize upd H4 T0 (HO.tup [.int (i:Int),x])=H5 at s5 |-
   have sj:=s4.trans s5
   have hi:i<us.length:=(ai.mp hx).1
   obtain⟨r,rfl,hr0⟩:=(hR.mono sj) x (al hx)
   refine⟨_,rfl,_,rfl,_,rfl,_,rfl,p,_,rfl,sj.seq hS,λp6 vF=>?_⟩
   have s6:=Aw (o:=HO.lst (Cm us none (some (i:Int)))) vF
   have a6:upd H5 p6 (HO.lst (Cm us none (some (i:Int)))) p6=_:=Af
   generalize upd H5 p6 (HO.lst (Cm us none (some (i:Int))))=H6 at s6 a6 |-
   rw[Lb us i (by omega)] at a6
   have qo:=sj.trans s6
   refine⟨r,p6,ρ (.ref r),us.take i,ρ,rfl,s6 _ _ hr0,a6,(hR.mono qo).sub λv hv=>fq hv,by rw[cE];omega,hok i _ hx,λH7 s7=>⟨_,rfl,Ce ?_⟩⟩
   exact⟨qo.trans s7,_,_,rfl⟩
  ·rintro σ H4 ⟨s4,v1,v2,rfl⟩
   refine⟨_,rfl,p,us,"board",ρ,rfl,s4 _ _ hp,hR.mono s4,by omega,λD H5 hD s5 xu=>?_⟩
   refine⟨_,.inl ⟨_,kU xu,rfl⟩,?_⟩
   rw[hb]
   exact Ce (q H5 (s4.trans s5))
noncomputable def gY:Sp:=λvs H Q _=>∃ (p:Addr) (ts:List Str),vs=[.ref p]/\H p=some (.lst (ts.map V.str))/\ts.length<=300/\ts.Nodup/\∀ D (a8:List (Key × V)) H',H D=none->Ak H H'->H' D=some (.dK a8)->(∀ (i:Nat) t,ts[i]? = some t->Cq a8 (Sum.inr t)=some (.int (i:Nat)))->(∀ t,t ∉ ts->Cq a8 (Sum.inr t)=none)->Q (.ref D) H'
theorem YB:BL ["names","numbers","number","name"] ["names"] (Ah nu):=CT
include N T in
theorem fK:A_ P w K mg base Bh 1 aD.fNu aD.dNu ["names"] gY:=by
 refine N.FNu.1.ok YB (λvs H Q E h=>?_) (λb9 A outer s H vs Q E hr h=>?_)
 ·obtain⟨p,ts,rfl,_⟩:=h
  rfl
 ·obtain⟨p,ts,rfl,hp,hl,nd,q⟩:=h
  have hu:=Gf hr
  refine⟨_,(Ae (Bf (i:=1) YB.nd rfl (Or.inl rfl) WD)
   (Ae (Fb PassesOwn.never rfl (KY rfl T.enumerate (Aa (pv 0) Ab)) (Kz rfl (Dy (Cr (i:=2) YB.nd rfl (Or.inl rfl)) (Dy (Cr (i:=3) YB.nd rfl (Or.inl rfl)) JS))) (Ag (Nh hu (pv 1) (pv 3) (pv 2) rfl)))
   (Ag (Ar (pv 1))))),?_⟩
  intro D hD
  have s0:=Aw (o:=HO.dK []) hD
  have hS:Dg K H p (ts.map V.str):=.inl (.inl hp)
  refine⟨_,rfl,p,rfl,⟨_,s0.seq hS⟩,Hb (K:=K) (a:=p) (xs:=ts.map V.str) (λi σ H4=>Ak H H4/\∃ (a8:List (Key × V)),H4 D=some (.dK a8)/\a8.length<=i/\(∀ (j:Nat) t,j<i->ts[j]? = some t->Cq a8 (Sum.inr t)=some (.int (j:Nat)))/\(∀ t,t ∉ ts->Cq a8 (Sum.inr t)=none)/\∃ v2 v3,σ=[some (.ref p),some (.ref D),v2,v3])
   ⟨s0,[],Af,ar _,λj t hj=>absurd hj (ip _),λt _=>Vr,_,_,rfl⟩ (λi σ H4 _ h=>h.1.seq hS) ?_ ?_⟩
  ·rintro i x σ H4 T0 hx ⟨s4,a8,hd,hk,hv,CD,v2,v3,rfl⟩ hT
   rw[br] at hx
   obtain⟨t,ht,rfl⟩:=ee.mp hx
   have hi:i<ts.length:=(ai.mp ht).1
   have s5:=Aw (o:=HO.tup [.int (i:Int),.str t]) hT
   refine⟨T0,_,rfl,kU Af,rfl,_,_,rfl,_,_,rfl,rfl,?_⟩
   generalize upd H4 T0 (HO.tup [.int (i:Int),.str t])=H5 at s5 |-
   refine⟨_,rfl,_,rfl,_,rfl,D,_,rfl,RX.k (k:=Sum.inr t) (s5 _ _ hd) (Av (by omega)),?_⟩
   refine⟨λb u e=>?_,putK a8 (Sum.inr t) (.int (i:Int)),Af,bp (CP _ _ _) (by omega),λj t' hj sF=>?_,λt' sF=>(by rw[Bb,if_neg λz=>sF (by rw[Sum.inr.inj z];exact al ht)];exact CD t' sF),_,_,rfl⟩
   ·rw[Ao (Al e hD)]
    exact s5 _ _ (s4 _ _ e)
   ·rw[Bb]
    by_cases e:t'=t
    ·subst e
     have:j=i:=by
      obtain⟨h1,e1⟩:=ai.mp sF
      obtain⟨h2,e2⟩:=ai.mp ht
      exact (List.getElem_inj nd).mp (e1.trans e2.symm)
     subst this
     rw[if_pos rfl]
    ·rw[if_neg λz=>e (Sum.inr.inj z)]
     refine hv j t' ?_ sF
     rcases Nat.lt_succ_iff_lt_or_eq.mp hj with z | z
     ·exact z
     ·subst z
      rw[ht] at sF
      exact absurd (Option.some.inj sF).symm e
  ·rintro σ H4 ⟨s4,a8,hd,hk,hv,CD,v2,v3,rfl⟩
   refine⟨_,rfl,q D a8 H4 hD s4 hd (λi t ht=>hv i t ?_ ht) CD⟩
   rw[ae]
   exact (ai.mp ht).1
theorem kh {n:Nat} (h:n<=3000):n<sizeLine:=ck h (by decide)
noncomputable def iI:Sp:=λvs H Q _=>∃ (p:Addr) (as:List Th) (us:List V),vs=[.ref p]/\H p=some (.lst us)/\Paired (λ(a:Th) y=>TupAt H (tV a) y) as us/\as.length<=12/\(∀ a∈as,a.2.1<=97)/\∀ D ys H',H D=none->Ak H H'->H' D=some (.lst ys)->Paired (λq y=>TupAt H' (qV q) y) (Sg (as.map tN)) ys->Q (.ref D) H'
theorem Xh:BL ["things","places","number","thing"] ["things"] (Ah lM):=CT
include N T in
theorem fU:A_ P w K mg base Bh 1 aD.fPl aD.dPl ["things"] iI:=by
 refine N.FPl.1.ok Xh (λvs H Q E h=>?_) (λb9 A outer s H vs Q E hr h=>?_)
 ·obtain⟨p,as,us,rfl,_⟩:=h
  rfl
 ·obtain⟨p,as,us,rfl,hp,hb,hl,hz,q⟩:=h
  refine⟨_,(Ae (Bf (i:=1) Xh.nd rfl (Or.inl rfl) (Bo Ab))
   (Ae (Fb PassesOwn.never rfl (KY rfl T.enumerate (Aa (pv 0) Ab)) (Kz rfl (Dy (Cr (i:=2) Xh.nd rfl (Or.inr rfl)) (Dy (Cr (i:=3) Xh.nd rfl (Or.inl rfl)) JS))) (Ag (Cv (CV bE PySem.F.slot_list_extend PySem.F.type_list_extend Uy (pv 1) (Aa (Bp rfl (Bd (osc:=Ah lM) (N:=["things","places","number","thing"]) rfl rfl (by decide +kernel)) (Gg rfl T.range (Aa (BW (BK (K:=K) rfl) (pv 3) Ac (λ_ _=>rfl)) Ab)) (λ_ _ _ _=>CK) (λ_ _ _ _=>(DW (Aa (pv 3) (Aa (pv 0) Ab))))) Ab)))))
   (Ag (Ar (pv 1))))),?_⟩
  refine⟨Bx (by simp),λD hD=>?_⟩
  have s0:=Aw (o:=HO.lst []) hD
  have hS:Dg K H p us:=.inl (.inl hp)
  have IY:=hb.length
  refine⟨_,rfl,p,rfl,⟨_,s0.seq hS⟩,Hb (K:=K) (a:=p) (xs:=us) (λi σ H4=>Ak H H4/\∃ ys,H4 D=some (.lst ys)/\Paired (λq y=>TupAt H4 (qV q) y) (Sg ((as.map tN).take i)) ys/\∃ v2 v3,σ=[some (.ref p),some (.ref D),v2,v3])
   ⟨s0,[],Af,.nil,_,_,rfl⟩ (λi σ H4 _ h=>h.1.seq hS) ?_ ?_⟩
  ·rintro i x σ H4 T0 hx ⟨s4,ys,hd,pf,v2,v3,rfl⟩ hT
   obtain⟨b,Ap,k7⟩:=PJ hb hx
   have hi:i<as.length:=(ai.mp Ap).1
   have N4:=hz b (al Ap)
   have hbi':(as.map tN)[i]? = some (tN b):=by rw[br,Ap];rfl
   have s5:=Aw (o:=HO.tup [.int (i:Int),x]) hT
   refine⟨T0,_,rfl,kU Af,rfl,_,_,rfl,_,_,rfl,rfl,?_⟩
   generalize upd H4 T0 (HO.tup [.int (i:Int),x])=H5 at s5 |-
   obtain⟨r,rfl,hr0⟩:=k7.mono (s4.trans s5)
   have p5:=Ax s5 pf
   have d5:=s5 _ _ hd
   refine⟨_,rfl,.inl ⟨rfl,_,kU d5⟩,_,rfl,r,_,_,_,rfl,rfl,kU hr0,Aq (j:=1) rfl,_,rfl,by omega,by omega,?_⟩
   rw[eJ]
   refine UW (n:=b.2.1) (λe=>qV (i,e)) (Av (by omega)) (λe he H6 s6 R k=>?_) (λD6 H6 zs LH s6 AA GY=>?_)
   ·refine⟨_,rfl,_,rfl,by show 2<=sizeLine;decide,λT6 hT6=>?_⟩
    exact k _ _ (Aw hT6) ⟨T6,rfl,Af⟩
   ·have ly:=(Ax s6 p5).length
    have lz:=GY.length
    have lp:=Yu ((as.map tN).take i) 97 λb hb=>by
     obtain⟨a,ha,rfl⟩:=ay.mp (fq hb)
     exact hz a ha
    rw[cE,ae] at lp
    rw[fS] at lz
    have:min i as.length * 97<=12 * 97:=Nat.mul_le_mul_right _ (by omega)
    refine⟨D,D6,ys,zs,rfl,rfl,s6 _ _ d5,AA,fw (kh (by omega)),?_⟩
    refine⟨λb u e=>?_,ys++zs,Af,?_,_,_,rfl⟩
    ·rw[Ao (Al e hD)]
     exact s6 _ _ (s5 _ _ (s4 _ _ e))
    ·rw[Pg hbi']
     exact CG (BP (Ax s6 p5) (s6 _ _ d5)) (Dh (F:=λq y=>TupAt _ (qV q) y) (λe=>(i,e)) (BP GY (s6 _ _ d5)))
  ·rintro σ H4 ⟨s4,ys,hd,pf,v2,v3,rfl⟩
   rw[<-IY,ef (by rw[ae];exact ar _)] at pf
   exact⟨_,rfl,q D ys H4 hD s4 hd pf⟩
theorem R1 {α:Type} (l:List α) (x:α):QX (l++[x]) (-1)=some x:=by
 unfold QX YT
 rw[if_neg (by decide),if_pos (by rw[aE,bv];omega)]
 show (l++[x])[(-1+(((l++[x]).length:Nat):Int)).toNat]? = some x
 have e:(-1+(((l++[x]).length:Nat):Int)).toNat=l.length:=by
  rw[aE,bv]
  omega
 rw[e,dt (ar _),ja]
 rfl
theorem Ko {H:Hp} {l:List Ln} {v:V} {A:Addr} {xs ys:List V} (h:HW H l v) (hA:H A=some (.lst xs)) (hv:v ≠ .ref A):HW (upd H A (.lst ys)) l v:=by
 obtain⟨B,ts,rfl,h1,h2⟩:=h
 have:B ≠ A:=λz=>hv (by rw[z])
 exact⟨B,ts,rfl,by rw[Ao this];exact h1,BP h2 hA⟩
theorem GD {α β:Type} {F G:α->β->Prop}:∀ {l:List α} {vs:List β},Paired F l vs->(∀ a b,b∈vs->F a b->G a b)->Paired G l vs
 | [],_,h,_=>by cases h;exact .nil
 | a::l,_,h,k=>by
  cases h with
  | cons x y=>exact .cons (k _ _ (av ..) x) (GD y λa b hb=>k a b (aI _ hb))
theorem JW {α β:Type} {F:α->β->Prop}:∀ {l:List α} {z:α} {vs:List β},Paired F (l++[z]) vs->∃ us u,vs=us++[u]/\Paired F l us/\F z u
 | [],z,_,h=>by
  cases h with
  | cons x y=>cases y;exact⟨[],_,rfl,.nil,x⟩
 | a::l,z,_,h=>by
  cases h with
  | cons x y =>
   obtain⟨us,u,rfl,h1,h2⟩:=JW y
   exact⟨_::us,u,rfl,.cons x h1,h2⟩
theorem GF {α:Type} {l:List α} (h:l ≠ []):∃ a z,l=a++[z]:=⟨l.dropLast,l.getLast h,(List.dropLast_concat_getLast h).symm⟩
theorem Om {rk:List (Str × Nat × Int)}:∀ {rs:List R},(∃ r∈rs,Ig r.w=true)->linesOf rk rs ≠ []:=by
 have key:∀ (n:Nat) (rs:List R),rs.length=n->(∃ r∈rs,Ig r.w=true)->linesOf rk rs ≠ []:=by
  intro n
  induction n with
  | zero =>
   rintro rs hl ⟨r,hr,_⟩
   cases rs with
   | nil=>cases hr
   | cons a b=>cases hl
  | succ n ih =>
   rintro rs hl ⟨r,hr,hk⟩
   obtain⟨a,z,rfl⟩:=GF (l:=rs) (by intro e;rw[e] at hl;cases hl)
   rw[DK]
   rw[aE,bv] at hl
   unfold Do
   by_cases hz:Ig z.w=true
   ·rw[if_pos hz]
    simp
   ·rw[if_neg hz]
    have hr':r∈a:=by
     rcases ba.mp hr with h | h
     ·exact h
     ·rw[ax.mp h] at hk
      exact absurd hk hz
    have II:=ih a (by omega) ⟨r,hr',hk⟩
    split
    ·obtain⟨b,y,e⟩:=GF II
     rw[e,Ia]
     simp
    ·exact II
 exact λ{rs} h=>key rs.length rs rfl h
noncomputable def kO:Sp:=λvs H Q _=>∃ (p d:Addr) (us:List V) (ρ:V->R) (rk:List (Str × Nat × Int)) (a8:List (Key × V)),vs=[.ref p,.ref d]/\H p=some (.lst us)/\Rows H ρ us/\us.length<=500/\H d=some (.dK a8)/\(∀ (i:Nat) r,rk[i]? = some r->Cq a8 (Sum.inr r.1)=some (.int (i:Nat)))/\(rk.map (·.1)).Nodup /\
 (∀ (i:Nat) v,us[i]? = some v->(ρ v).w = "line"->(∃ (j:Nat) (r:Str × Nat × Int) (sh lo hi:Int),rk[j]? = some r/\r.1=(ρ v).nm/\(ρ v).rest=[.int sh,.int lo,.int hi])/\∃ u∈us.take i,Ig (ρ u).w=true)/\∀ D H',H D=none->Ak H H'->Ep p H' D (linesOf rk (us.map ρ))->Q (.ref D) H'
theorem b_ {rk:List (Str × Nat × Int)} {j:Nat} {r:Str × Nat × Int} (nd:(rk.map (·.1)).Nodup) (h:rk[j]? = some r):(rk.map (·.1)).idxOf r.1=j:=by
 have hj:j<(rk.map (·.1)).length:=by rw[ae];exact (ai.mp h).1
 have e:(rk.map (·.1))[j]=r.1:=by
  rw[gT]
  exact congrArg (·.1) (ai.mp h).2
 rw[<-e]
 exact List.Nodup.idxOf_getElem nd j hj
theorem Zz:BL ["rows","rank_numbers","lines","row"] ["rows","rank_numbers"] (Ah oF):=CT
include N T in
theorem h_:A_ P w K mg base Bh 1 aD.fLi aD.dLi ["rows","rank_numbers"] kO:=by
 refine N.FLi.1.ok Zz (λvs H Q E h=>?_) (λb9 A outer s H vs Q E hr h=>?_)
 ·obtain⟨p,d,us,ρ,rk,a8,rfl,_⟩:=h
  rfl
 ·obtain⟨p,d,us,ρ,rk,a8,rfl,hp,hR,hl,TR,rV,hnd,xn,q⟩:=h
  have hu:=Gf hr
  refine⟨_,(Ae (Bf (i:=2) Zz.nd rfl (Or.inl rfl) (Bo Ab))
   (Ae (Fb PassesOwn.never rfl (B_ (pv 0)) (Cr (i:=3) Zz.nd rfl (Or.inl rfl)) (Ae (Bj (BR (Kr (K:=K) rfl) (BW (BK (K:=K) rfl) (pv 3) Ac (λ_ _=>rfl)) (Bc (v:=.ref aK) rfl T.mK rfl) rfl) (Ag (Cv (CV bE bX cb Bv (pv 2) (Aa (Bo Ab) Ab)))) BV)
   (Ag (Bj (BR DQ (BW (BK (K:=K) rfl) (pv 3) Ac (λ_ _=>rfl)) An (BZ _)) (Ag (Cv (CV bE bX cb Bv (BW (Hm (K:=K) rfl) (pv 2) (J4 Hg Ac) (λ_ _=>rfl)) (Aa (DW (Aa (Be hu (pv 1) (BW (BK (K:=K) rfl) (pv 3) Ac (λ_ _=>rfl)) (λ_ _=>rfl)) (Aa (BW (BK (K:=K) rfl) (pv 3) Ac (λ_ _=>rfl)) (Aa (BW (BK (K:=K) rfl) (pv 3) Ac (λ_ _=>rfl)) (Aa (BW (BK (K:=K) rfl) (pv 3) Ac (λ_ _=>rfl)) Ab))))) Ab)))) BV))))
   (Ag (Ar (pv 2))))),?_⟩
  refine⟨Bx (by simp),λD hD=>?_⟩
  have s0:=Aw (o:=HO.lst []) hD
  have hS:Dg K H p us:=.inl (.inl hp)
  refine⟨_,rfl,p,rfl,⟨_,s0.seq hS⟩,Jb (K:=K) (a:=p) (xs:=us) (λi σ H4=>Ak H H4/\∃ lv,H4 D=some (.lst lv)/\Paired (λl v=>HW H4 l v) (linesOf rk ((us.take i).map ρ)) lv/\lv.Nodup/\(∀ v∈lv,v ≠ .ref D)/\(∀ v∈lv,∃ A,v=.ref A/\H A=none)/\lv.length<=i/\(∀ l∈linesOf rk ((us.take i).map ρ),l.length<=i)/\∃ v3,σ=[some (.ref p),some (.ref d),some (.ref D),v3])
   ⟨s0,[],Af,.nil,ic,(λv hv=>nomatch hv),(λv hv=>nomatch hv),ar _,(λl hl=>nomatch hl),_,rfl⟩ (λi σ H4 _ h=>h.1.seq hS) ?_ ?_⟩
  ·rintro i x σ H4 hx ⟨s4,lv,hd,pf,nd,hne,xp,hlv,xt,v3,rfl⟩
   have hm:=al hx
   have hi:i<us.length:=(ai.mp hx).1
   obtain⟨r,rfl,hr0⟩:=(hR.mono s4) x hm
   have etake:(us.take (i+1)).map ρ=(us.take i).map ρ++[ρ (.ref r)]:=by
    rw[gz,hx,ce]
    rfl
   have est:linesOf rk ((us.take (i+1)).map ρ)=Do rk (linesOf rk ((us.take i).map ρ)) (ρ (.ref r)):=by rw[etake,DK]
   have lvl:(linesOf rk ((us.take i).map ρ)).length=lv.length:=pf.length
   by_cases hk:Ig (ρ (.ref r)).w=true
   ·have xx:¬ (ρ (.ref r)).w = "line":=λz=>by rw[z] at hk;exact absurd hk (by decide +kernel)
    have est2:linesOf rk ((us.take (i+1)).map ρ)=linesOf rk ((us.take i).map ρ)++[[]]:=by rw[est];unfold Do;rw[if_pos hk]
    refine⟨_,rfl,r,_,_,_,rfl,rfl,kU hr0,Aq (j:=0) rfl,aK,_,rfl,.inr (T.tK.sq _),rfl,rfl,_,rfl,?_⟩
    refine Br (λ_=>?_) (λz=>absurd hk z)
    refine⟨_,rfl,.inl ⟨rfl,_,kU hd⟩,Bx (by simp),λp5 sR=>?_⟩
    obtain⟨H5,d0,s5,u5⟩:=CN (o:=HO.lst []) sR
    rw[d0]
    have hd5:=s5 _ _ hd
    refine⟨D,lv,_,rfl,rfl,hd5,Av (by omega),?_⟩
    have hrD:r ≠ D:=Oz (s5 _ _ hr0) hd5 (by intro z;cases z)
    have hpD:p5 ≠ D:=λz=>by rw[z,hd] at sR;cases sR
    refine⟨_,rfl,r,_,_,_,rfl,rfl,kU (by rw[Ao hrD];exact s5 _ _ hr0),Aq (j:=0) rfl,rfl,_,rfl,?_⟩
    refine Br (λz=>absurd (V.str.inj (of_decide_eq_true z)) xx) (λ_=>?_)
    refine⟨λb u e=>?_,lv++[.ref p5],Af,?_,?_,?_,?_,by simp;omega,?_,_,rfl⟩
    ·rw[Ao (Al e hD)]
     exact s5 _ _ (s4 _ _ e)
    ·rw[est2]
     refine CG (GD pf λl v hv h=>Ko (h.mono s5) hd5 (hne v hv)) (.cons ⟨p5,[],rfl,by rw[Ao hpD];exact u5,.nil⟩ .nil)
    ·refine S_ nd λhm=>?_
     obtain⟨l,_,hA⟩:=Dn pf hm
     obtain⟨A,ts,e,h1,_⟩:=hA
     cases e
     rw[h1] at sR
     cases sR
    ·intro v hv
     rcases ba.mp hv with h | h
     ·exact hne v h
     ·rw[ax.mp h]
      intro z
      exact hpD (V.ref.inj z)
    ·intro v hv
     rcases ba.mp hv with h | h
     ·exact xp v h
     ·exact⟨p5,ax.mp h,s4.free sR⟩
    ·intro l oQ
     rw[est2] at oQ
     rcases ba.mp oQ with h | h
     ·exact kG (xt l h)
     ·rw[ax.mp h]
      exact dc _
   ·refine⟨_,rfl,r,_,_,_,rfl,rfl,kU hr0,Aq (j:=0) rfl,aK,_,rfl,.inr (T.tK.sq _),rfl,rfl,_,rfl,?_⟩
    refine Br (λz=>absurd z hk) (λ_=>?_)
    refine⟨_,rfl,r,_,_,_,rfl,rfl,kU hr0,Aq (j:=0) rfl,rfl,_,rfl,?_⟩
    by_cases hwl:(ρ (.ref r)).w = "line"
    ·refine Br (λ_=>?_) (λz=>absurd (decide_eq_true (congrArg V.str hwl)) z)
     obtain⟨⟨j,rr,sh,lo,hi',hj,y',g9⟩,u,hu,BS⟩:=xn i _ hx hwl
     have hne0:linesOf rk ((us.take i).map ρ) ≠ []:=Om ⟨ρ u,cf hu,BS⟩
     obtain⟨ac,z,AB⟩:=GF hne0
     rw[AB] at pf
     obtain⟨GB,v,rfl,Dx,hz⟩:=JW pf
     obtain⟨A,ts,rfl,hA,AL⟩:=hz
     have est2:linesOf rk ((us.take (i+1)).map ρ)=ac++[z++[⟨j,sh,lo,hi'⟩]]:=by
      rw[est]
      unfold Do
      rw[if_neg hk,if_pos hwl,AB,Ia]
      unfold lnOf
      rw[g9,<-y',b_ hnd hj]
     have hr1:H4 r=some (.tup [.str (ρ (.ref r)).w,.str (ρ (.ref r)).nm,.int sh,.int lo,.int hi']):=by rw[hr0,<-g9]
     have g:=Cz.k (k:=Sum.inr rr.1) (s4 _ _ TR)
     rw[rV j rr hj,y'] at g
     have hAD:A ≠ D:=λe=>hne (.ref A) (by simp) (by rw[e])
     have hzl:z.length<=i:=xt z (by rw[AB];simp)
     have WZ:=AL.length
     refine⟨_,rfl,_,rfl,D,_,_,_,rfl,rfl,kU hd,R1 GB (V.ref A),.inl ⟨rfl,_,kU hA⟩,_,rfl,_,rfl,r,_,_,_,rfl,rfl,kU hr1,Aq (j:=1) rfl,d,_,rfl,g,_,rfl,r,_,_,_,rfl,rfl,kU hr1,Aq (j:=2) rfl,_,rfl,r,_,_,_,rfl,rfl,kU hr1,Aq (j:=3) rfl,_,rfl,r,_,_,_,rfl,rfl,kU hr1,Aq (j:=4) rfl,by show 4<=sizeLine;decide,λT5 mw=>?_⟩
     obtain⟨H5,d0,s5,u5⟩:=CN (o:=HO.tup [.int (j:Nat),.int sh,.int lo,.int hi']) mw
     rw[d0]
     have BE:=s5 _ _ hA
     have hTA:T5 ≠ A:=λe=>by rw[e,hA] at mw;cases mw
     have hdj:D ≠ A:=λe=>hAD e.symm
     obtain⟨nd1,_,yP⟩:=hZ.mp nd
     refine⟨A,ts,_,rfl,rfl,BE,Av (by omega),?_⟩
     refine⟨λb u e=>?_,GB++[.ref A],by rw[Ao hdj];exact s5 _ _ hd,?_,nd,hne,xp,by omega,?_,_,rfl⟩
     ·obtain⟨A',eA,LV⟩:=xp (.ref A) (by simp)
      cases eA
      rw[Ao (Al e LV)]
      exact s5 _ _ (s4 _ _ e)
     ·rw[est2]
      refine CG (GD Dx λl v hv h=>Ko (h.mono s5) BE (λe=>yP v hv _ (ax.mpr rfl) e)) (.cons ⟨A,ts++[.ref T5],rfl,Af,CG (BP (Ax s5 AL) BE) (.cons ⟨T5,rfl,by rw[Ao hTA];exact u5⟩ .nil)⟩ .nil)
     ·intro l oQ
      rw[est2] at oQ
      rcases ba.mp oQ with h | h
      ·exact kG (xt l (by rw[AB];exact cr _ h))
      ·rw[ax.mp h,aE,bv]
       omega
    ·refine Br (λz=>absurd (V.str.inj (of_decide_eq_true z)) hwl) (λ_=>?_)
     have est2:linesOf rk ((us.take (i+1)).map ρ)=linesOf rk ((us.take i).map ρ):=by rw[est];unfold Do;rw[if_neg hk,if_neg hwl]
     rw[<-est2] at pf xt
     exact⟨s4,lv,hd,pf,nd,hne,xp,by omega,λl oQ=>kG (xt l oQ),_,rfl⟩
  ·rintro σ H4 ⟨s4,lv,hd,pf,nd,hne,xp,hlv,xt,v3,rfl⟩
   rw[gg] at pf
   have hDp:D ≠ p:=Ne.symm (Al hp hD)
   refine⟨_,rfl,q D H4 hD s4 ⟨lv,hd,hDp,GD pf λl v hv h=>⟨h,λz=>?_⟩⟩⟩
   obtain⟨A,e,hA⟩:=xp v hv
   rw[e] at z
   rw[V.ref.inj z,hp] at hA
   cases hA
noncomputable abbrev nV (l:List Nat):List V:=l.map λn:Nat=>V.int (n:Int)
noncomputable def dz:Sp:=λvs H Q _=>∃ i:Int,vs=[.int i]/\Q (.bl (decide (0<=i) && decide (i<1200))) H
theorem oK:BL ["thing"] ["thing"] (Ah qj):=CT
include N T in
theorem fW:A_ P w K mg base Bh 2 aD.fMy aD.dMy ["thing"] dz:=by
 refine N.FMy.1.ok oK (λvs H Q E h=>?_) (λb9 A outer s H vs Q E hr h=>?_)
 ·obtain⟨i,rfl,_⟩:=h
  rfl
 ·obtain⟨i,rfl,q⟩:=h
  obtain⟨EX,MQ⟩:=T.below
  refine⟨_,(Ag (Ar (CQ (Ai (Zi N T) (ad hr) rfl N.FWh.2.2 N.FWh.1.kp N.FWh.2.1 .nil Az (Aa (pv 0) Ab)) (By (Gk FJ Fj Ac (pv 0) (Bc (v:=.int 1200) rfl MQ ⟨EX,rfl⟩)))))),?_⟩
  refine⟨_,rfl,i,rfl,_,rfl,De ?_⟩
  refine⟨_,rfl,_,_,rfl,rfl,_,rfl,?_⟩
  refine Br (λh1=>?_) (λh1=>?_)
  ·rw[h1,gI] at q
   exact⟨_,_,rfl,rfl,q⟩
  ·rw[(fF _).mp h1,dQ] at q
   exact q
noncomputable def iz:Sp:=λvs H Q _=>∃ (p:Addr) (l:List Nat),vs=[.ref p]/\H p=some (.lst (nV l))/\l.length<=500/\(∀ n∈l,n<1200)/\∀ H',Ak H H'->Q (.int (Wd.mk l:Nat)) H'
theorem jc (l:List Nat) (n:Nat):Builtin.bitOr ((Wd.mk l:Nat):Int) (1 * 2 ^ ((n:Nat):Int).toNat)=((Wd.mk (l++[n]):Nat):Int):=by
 rw[Int.one_mul,eJ,V0,X8,Wd.Xw]
theorem Xf:BL ["numbers","some","number"] ["numbers"] (Ah lN):=CT
include N T in
theorem fC:A_ P w K mg base Bh 3 aD.fSt aD.dSt ["numbers"] iz:=by
 refine N.FSt.1.ok Xf (λvs H Q E h=>?_) (λb9 A outer s H vs Q E hr h=>?_)
 ·obtain⟨p,l,rfl,_⟩:=h
  rfl
 ·obtain⟨p,l,rfl,hp,hz,hb,q⟩:=h
  refine⟨_,(Ae (Bj (PW.pt (GQ (Cp (C_ (Aj Bs rfl T.isin ag (Aa (pv 0) (Aa (Ci (v:=.ty "list") rfl T.list ft rfl) Ab))))) (FW (Cp (C_ (Aj (FP rfl) rfl T.all ej (Aa (Bp rfl (Bd (osc:=Ah lN) (N:=["numbers","some","number"]) rfl rfl (by decide +kernel)) (B_ (pv 0)) (λ_ _ _ _=>CK) (λ_ _ _ _=>(Ai (fW N T) (ad hr) rfl N.FMy.2.2 N.FMy.1.kp N.FMy.2.1 .nil Az (Aa (pv 0) Ab)))) Ab))))))) (Ag Gh) BV)
   (Ae (Bf (i:=1) Xf.nd rfl (Or.inl rfl) Ac)
   (Ae (Fb PassesOwn.never rfl (B_ (pv 0)) (Cr (i:=2) Xf.nd rfl (Or.inl rfl)) (Ag (Bf (i:=1) Xf.nd rfl (Or.inl rfl) (BJ dY (pv 1) (BJ Z8 Ac (pv 2))))))
   (Ag (Ar (pv 1)))))),?_⟩
  have hS:Dg K H p (nV l):=.inl (.inl hp)
  refine⟨_,rfl,_,"list",_,_,rfl,.lst hp,Pq,_,rfl,Ce ?_⟩
  have hzl:(nV l).length<sizeLine:=Av (by simp;omega)
  refine⟨_,rfl,p,rfl,⟨_,hS⟩,Dk (K:=K) (xs:=nV l) (λ_=>true) (λ_=>.bl true) hS hzl (λx hx H' hs R k=>k H' (Ak.refl H')) (λx hx _ H' hs R k=>?_) (λD H' hD hs hl=>?_)⟩
  ·obtain⟨n,hn,rfl⟩:=ay.mp hx
   refine⟨_,rfl,(n:Int),rfl,?_⟩
   have e:(decide ((0:Int)<=(n:Int)) && decide ((n:Int)<1200))=true:=by
    have:=hb n hn
    simp
    omega
   rw[e]
   exact k H' (Ak.refl H')
  ·refine⟨D,(nV l).map λ_=>true,rfl,.inl (.inl ?_),?_⟩
   ·rw[hl,bi.mpr (λ_ _=>rfl)]
    simp
   ·have e:((nV l).map λ_=>true).all id=true:=by simp
    rw[e]
    refine⟨_,rfl,Ce ?_⟩
    refine⟨_,rfl,p,rfl,⟨_,hs.seq hS⟩,Jb (K:=K) (a:=p) (xs:=nV l) (λi σ H4=>H4=H'/\∃ v2,σ=[some (.ref p),some (.int (Wd.mk (l.take i):Nat)),v2]) ⟨rfl,_,rfl⟩ (λi σ H4 _ h=>by rw[h.1];exact hs.seq hS) ?_ ?_⟩
    ·rintro i y σ H4 hi ⟨rfl,v2,rfl⟩
     rw[br] at hi
     obtain⟨n,hn,rfl⟩:=ee.mp hi
     have wP:=hb n (al hn)
     refine⟨_,rfl,_,rfl,_,_,rfl,rfl,⟨by omega,by omega,by decide⟩,_,_,rfl,rfl,?_⟩
     refine⟨rfl,some (.int (n:Int)),?_⟩
     dsimp only
     rw[jc,gz,hn]
     rfl
    ·rintro σ H4 ⟨rfl,v2,rfl⟩
     have el:l.take (nV l).length=l:=List.take_of_length_le (by simp)
     rw[el]
     exact⟨_,rfl,q _ hs⟩
noncomputable def sV (pc:List Str):V->V
 | .str t=>.int (pc.idxOf t:Nat)
 | _=>.non
theorem Uv {pc:List Str} {t:Str} (h:t∈pc):pc[pc.idxOf t]? = some t:=by
 rw[af (List.idxOf_lt_length_of_mem h),List.getElem_idxOf]
noncomputable def gB:Sp:=λvs H Q _=>∃ (r kd:Addr) (ro:R) (a8:List (Key × V)) (pc ts:List Str),vs=[.ref r,.ref kd]/\H r=some (.tup ro.v)/\H kd=some (.dK a8)/\V.str ro.nm::ro.rest=ts.map V.str/\ts.length<=24/\pc.length<=300/\(∀ (i:Nat) t,pc[i]? = some t->Cq a8 (Sum.inr t)=some (.int (i:Nat)))/\(∀ t∈ts,t∈pc)/\∀ H',Ak H H'->Q (.int (Wd.mk (ts.map λt=>pc.idxOf t):Nat)) H'
theorem nH:BL ["row","knob_numbers"] ["row","knob_numbers"] (Ah lL):=CT
include N T in
theorem eY:A_ P w K mg base Bh 4 aD.fSs aD.dSs ["row","knob_numbers"] gB:=by
 refine N.FSs.1.ok nH (λvs H Q E h=>?_) (λb9 A outer s H vs Q E hr h=>?_)
 ·obtain⟨r,kd,ro,a8,pc,ts,rfl,_⟩:=h
  rfl
 ·obtain⟨r,kd,ro,a8,pc,ts,rfl,hr0,NL,lj,rj,y',rV,hin,q⟩:=h
  have hu:=Gf hr
  refine⟨_,(Ag (Ar (Ai (fC N T) (ad hr) rfl N.FSt.2.2 N.FSt.1.kp N.FSt.2.1 .nil Az (Aa (Bp rfl (Bd (osc:=Ah lL) (N:=["row","knob_numbers"]) rfl rfl (by decide +kernel)) (Js (Cg K5 (pv 0) (Cu Ac) Dj)) (λ_ _ _ _=>CK) (λ_ _ _ _=>(Be hu (pv 2) (pv 0) (λ_ _=>rfl)))) Ab)))),?_⟩
  have hv:ro.v=V.str ro.w::ts.map V.str:=by
   show V.str ro.w::(V.str ro.nm::ro.rest)=_
   rw[lj]
  rw[hv] at hr0
  have e1:HT.Ds (V.str ro.w::ts.map V.str).length 0 (some 1)=1:=by
   rw[show (some (1:Int))=some ((1:Nat):Int) from rfl,HT.Dl]
   simp
  have hcut:Cm (V.str ro.w::ts.map V.str) (some 1) none=ts.map V.str:=by
   unfold Cm
   rw[e1,HT.El]
   simp
   exact ef (by rw[ae];exact ar _)
  refine⟨_,rfl,_,rfl,r,_,rfl,kU hr0,?_,λn0 wb=>?_⟩
  ·rintro⟨z,_⟩
   rw[e1] at z
   cases z
  rw[hcut]
  obtain⟨H1,d0,s1,a1⟩:=CN (o:=HO.tup (ts.map V.str)) wb
  rw[d0]
  have hT:Ga K H1 n0 (ts.map V.str):=.inl (.inl a1)
  have ltm:(ts.map V.str).length=ts.length:=ae ..
  refine⟨n0,rfl,⟨_,hT⟩,JR (K:=K) (xs:=ts.map V.str) (λ_=>true) (sV pc) hT (Av (by omega)) (λx hx H' hs R k=>k H' (Ak.refl H')) (λx hx _ H' hs R k=>?_) (λD H2 hD s2 hl2=>?_)⟩
  ·obtain⟨t,ht,rfl⟩:=ay.mp hx
   have g:=Cz.k (k:=Sum.inr t) (hs _ _ (s1 _ _ NL))
   rw[rV _ t (Uv (hin t ht))] at g
   exact⟨_,rfl,_,rfl,kd,_,rfl,g,k H' (Ak.refl H')⟩
  ·rw[bi.mpr (λ_ _=>rfl),bg] at hl2
   have e2:ts.map (sV pc ∘ V.str)=nV (ts.map λt=>pc.idxOf t):=by
    unfold nV
    rw[bg]
    rfl
   rw[e2] at hl2
   refine⟨D,_,rfl,hl2,by rw[ae];omega,λn hn=>?_,λH3 s3=>q H3 (s1.trans (s2.trans s3))⟩
   obtain⟨t,ht,rfl⟩:=ay.mp hn
   have:=List.idxOf_lt_length_of_mem (hin t ht)
   omega
noncomputable def ZK:Sp:=λvs H Q _=>∃ z:Str,vs=[.str z,.str letters,.int 8]/\Tx z/\∀ b H',Ak H H'->(b=true ↔ isNm z)->Q (.bl b) H'
include N T in
theorem cz:A_ P w K mg base Bh 1 aD.fMd aD.dMd ["text","signs","most"] ZK:=by
 refine N.FMd.1.ok aV (λvs H Q E h=>?_) (λb9 A outer s H vs Q E hr h=>?_)
 ·obtain⟨z,rfl,_⟩:=h
  rfl
 ·obtain⟨z,rfl,hz,q⟩:=h
  refine⟨_,(Ag (Ar (CQ (Gk FJ FJ Ac (Aj Gz rfl T.len aT (Aa (pv 0) Ab)) (pv 2)) (By (Aj (FP rfl) rfl T.all ej (Aa (Bp rfl (Bd (osc:=Ah dI) (N:=["text","signs","most"]) rfl rfl (by decide +kernel)) (Qu (pv 0)) (λ_ _ _ _=>CK) (λ_ _ _ _=>(DY Je (pv 0) (pv 2) rfl))) Ab)))))),?_⟩
  have hzl:z.length<sizeLine:=Av hz.1
  have no:¬ isNm z->Q (.bl false) H:=λh=>q false H (Ak.refl H) ⟨λz=>(nomatch z),λz=>absurd z h⟩
  refine⟨_,rfl,z,rfl,fw hzl,_,_,rfl,rfl,_,rfl,?_⟩
  refine Br (λh1=>?_) (λh1=>⟨_,rfl,Ce (no λc=>h1 (decide_eq_true (by have:=c.1;omega)))⟩)
  refine⟨_,rfl,_,_,rfl,rfl,_,rfl,?_⟩
  refine Br (λh2=>?_) (λh2=>no λc=>h2 (decide_eq_true (by have:=c.2.1;omega)))
  refine⟨_,rfl,z,rfl,Km (λ_=>true) (λc=>.bl (Rk letters c)) hzl (λc hc H' hs R k=>k H' (Ak.refl H')) (λc hc _ H' hs R k=>⟨_,rfl,_,rfl,_,_,rfl,rfl,k H' (Ak.refl H')⟩) (λD H' hD hs hl=>?_)⟩
  refine⟨D,z.cps.toList.map (Rk letters),rfl,.inl (.inl ?_),q _ H' hs ?_⟩
  ·rw[hl,bi.mpr (λ_ _=>rfl),bg]
   rfl
  ·rw[kC,cw]
   have b1:1<=z.length:=by have:=of_decide_eq_true h1;omega
   have b2:z.length<=8:=by have:=of_decide_eq_true h2;omega
   constructor
   ·intro h
    refine⟨b1,b2,λc hc=>?_⟩
    have e:Rk letters c=true:=h c hc
    rw[Nk c (hz.2 c hc)] at e
    exact of_decide_eq_true e
   ·intro h c hc
    show Rk letters c=true
    rw[Nk c (hz.2 c hc)]
    exact decide_eq_true (h.2.2 c hc)
theorem pA {K:W.Frag}:W.kitOne K (.type "int") (.type "str")=some false:=by kernel_rfl
theorem oX {K:W.Frag}:W.kitOne K (.type "bool") (.type "str")=some false:=by kernel_rfl
theorem qX {K:W.Frag}:W.kitOne K (.type "NoneType") (.type "str")=some false:=by kernel_rfl
theorem nQ {K:W.Frag}:W.kitOne K (.type "list") (.type "str")=some false:=by kernel_rfl
theorem pZ {K:W.Frag}:W.kitOne K (.type "tuple") (.type "str")=some false:=by kernel_rfl
noncomputable def isStr:V->Bool
 | .str _=>true
 | _=>false
theorem WQ (K:W.Frag) {H:Hp} {v:V} (h:Eo H v):∃ n,Gu K H v (.type n)/\W.kitOne K (.type n) (.type "str")=some (isStr v):=by
 cases h with
 | non=>exact⟨_,.non,qX⟩
 | bl b=>exact⟨_,.bl b,oX⟩
 | int i=>exact⟨_,.int i,pA⟩
 | lst h=>exact⟨_,.lst h,nQ⟩
 | tup h=>exact⟨_,.tup h,pZ⟩
 | str h=>exact⟨_,.str _,J9⟩
noncomputable def Z2 (v:V):Prop:=∃ t,v=.str t/\isNm t
noncomputable def Vd:Sp:=λvs H Q _=>∃ v:V,vs=[v]/\Eo H v/\∀ b H',Ak H H'->(b=true ↔ Z2 v)->Q (.bl b) H'
include N T in
theorem Wx:A_ P w K mg base Bh 2 aD.fNm aD.dNm ["thing"] Vd:=by
 refine N.FNm.1.ok eE (λvs H Q E h=>?_) (λb9 A outer s H vs Q E hr h=>?_)
 ·obtain⟨v,rfl,_⟩:=h
  rfl
 ·obtain⟨v,rfl,hv,q⟩:=h
  obtain⟨sB,wI⟩:=T.letters
  obtain⟨zn,C3⟩:=T.mostL
  refine⟨_,(Ag (Ar (CQ (Aj Bs rfl T.isin ag (Aa (pv 0) (Aa (Ci (v:=.ty "str") rfl T.str eD rfl) Ab))) (By (Ai (cz N T) (ad hr) rfl N.FMd.2.2 N.FMd.1.kp N.FMd.2.1 .nil Az (Aa (pv 0) (Aa (Bc (v:=.str letters) rfl wI ⟨sB,rfl⟩) (Aa (Bc (v:=.int 8) rfl C3 ⟨zn,rfl⟩) Ab)))))))),?_⟩
  obtain⟨n,e1,e2⟩:=WQ K hv
  refine⟨_,rfl,_,"str",_,_,rfl,e1,e2,_,rfl,?_⟩
  cases hv with
  | str h =>
   refine De ⟨_,rfl,_,rfl,h,λb H' s hb=>q b H' s (hb.trans ⟨λz=>⟨_,rfl,z⟩,λ⟨t,e,z⟩=>by cases e;exact z⟩)⟩
  | _=>exact Ce (q false H (Ak.refl H) ⟨λz=>(nomatch z),λ⟨t,e,z⟩=>(nomatch e)⟩)
theorem jB (K:W.Frag) {H:Hp} {v:V} (h:Eo H v):∃ n,Gu K H v (.type n)/\W.kitOne K (.type n) (.type "int")=some (match v with | .int _=>true | .bl _=>true | _=>false)/\W.kitOne K (.type n) (.type "bool")=some (match v with | .bl _=>true | _=>false):=by
 cases h with
 | non=>exact⟨_,.non,by kernel_rfl,by kernel_rfl⟩
 | bl b=>exact⟨_,.bl b,by kernel_rfl,by kernel_rfl⟩
 | int i=>exact⟨_,.int i,by kernel_rfl,by kernel_rfl⟩
 | lst h=>exact⟨_,.lst h,by kernel_rfl,by kernel_rfl⟩
 | tup h=>exact⟨_,.tup h,by kernel_rfl,by kernel_rfl⟩
 | str h=>exact⟨_,.str _,by kernel_rfl,by kernel_rfl⟩
noncomputable def tH:V->Bool
 | .int _=>true
 | _=>false
noncomputable def Zx:Sp:=λvs H Q _=>∃ v:V,vs=[v]/\Eo H v/\Q (.bl (tH v)) H
include N T in
theorem bz:A_ P w K mg base Bh 1 aD.fWh aD.dWh ["thing"] Zx:=by
 refine N.FWh.1.ok gZ (λvs H Q E h=>?_) (λb9 A outer s H vs Q E hr h=>?_)
 ·obtain⟨v,rfl,_⟩:=h
  rfl
 ·obtain⟨v,rfl,hv,q⟩:=h
  refine⟨_,(Ag (Ar (CQ (Aj Bs rfl T.isin ag (Aa (pv 0) (Aa (Ci (v:=.ty "int") rfl T.int hW rfl) Ab))) (By (Jx (Aj Bs rfl T.isin ag (Aa (pv 0) (Aa (Ci (v:=.ty "bool") rfl T.bool iL rfl) Ab)))))))),?_⟩
  obtain⟨n,e1,e2,e3⟩:=jB K hv
  refine⟨_,rfl,_,"int",_,_,rfl,e1,e2,_,rfl,?_⟩
  cases hv with
  | int i=>exact De ⟨_,rfl,_,"bool",_,_,rfl,e1,e3,_,rfl,q⟩
  | bl b=>exact De ⟨_,rfl,_,"bool",_,_,rfl,e1,e3,_,rfl,q⟩
  | _=>exact Ce q
noncomputable def Lg (ρ:V->R) (us:List V) (w:Str) (v:V):Prop:=∃ t,v=.str t/\isNm t/\Mp ρ us w t=true
noncomputable def Vn:Sp:=λvs H Q _=>∃ (p:Addr) (us:List V) (w:Str) (v:V) (ρ:V->R),vs=[.ref p,.str w,v]/\H p=some (.lst us)/\Rows H ρ us/\us.length<=500/\Eo H v/\∀ b H',Ak H H'->(b=true ↔ Lg ρ us w v)->Q (.bl b) H'
include N T in
theorem VM:A_ P w K mg base Bh 3 aD.fTo aD.dTo ["rows","word","thing"] Vn:=by
 refine N.FTo.1.ok eN (λvs H Q E h=>?_) (λb9 A outer s H vs Q E hr h=>?_)
 ·obtain⟨p,us,w,v,ρ,rfl,_⟩:=h
  rfl
 ·obtain⟨p,us,w,v,ρ,rfl,hp,hR,hl,hv,q⟩:=h
  refine⟨_,(Ag (Ar (CQ (Ai (Wx N T) (ad hr) rfl N.FNm.2.2 N.FNm.1.kp N.FNm.2.1 .nil Az (Aa (pv 2) Ab)) (By (Aj (Hq rfl) rfl T.any gp (Aa (Bp rfl (Bd (osc:=Ah fP) (N:=["rows","word","thing"]) rfl rfl (by decide +kernel)) (B_ (Ai (J1 N T) (ad hr) rfl N.FRo.2.2 N.FRo.1.kp N.FRo.2.1 .nil Az (Aa (pv 0) (Aa (pv 1) Ab)))) (λ_ _ _ _=>CK) (λ_ _ _ _=>(DY DQ (BW (BK (K:=K) rfl) (pv 0) Ac (λ_ _=>rfl)) (pv 3) (BZ _)))) Ab)))))),?_⟩
  refine⟨_,rfl,v,rfl,hv,λb H1 s1 hb=>⟨_,rfl,?_⟩⟩
  refine Br (λe=>?_) (λe=>q false H1 s1 ⟨λz=>(nomatch z),λ⟨t,e1,e2,_⟩=>absurd (hb.mpr ⟨t,e1,e2⟩) e⟩)
  obtain⟨t,rfl,ht⟩:=hb.mp e
  refine⟨_,rfl,_,rfl,p,us,w,ρ,rfl,s1 _ _ hp,hR.mono s1,hl,λD H2 hD s2 hl2=>?_⟩
  have hS:Dg K H2 D (us.filter (pw ρ w)):=.inl (.inl hl2)
  refine⟨D,rfl,⟨_,hS⟩,Dk (K:=K) (xs:=us.filter (pw ρ w)) (λ_=>true) (λv=>.bl (pn ρ t v)) hS (Av (by have:=GZ (pw ρ w) us;omega)) (λx hx H' hs R k=>k H' (Ak.refl H')) (λx hx _ H' hs R k=>?_) (λD3 H3 AY s3 sk=>?_)⟩
  ·obtain⟨T0,rfl,hT⟩:=(((hR.mono s1).mono s2).mono hs) x (cq.mp hx).1
   exact⟨_,rfl,T0,_,_,_,rfl,rfl,kU hT,Aq (j:=1) rfl,_,rfl,rfl,k H' (Ak.refl H')⟩
  ·refine⟨D3,(us.filter (pw ρ w)).map (pn ρ t),rfl,.inl (.inl ?_),?_⟩
   ·rw[sk,bi.mpr (λ_ _=>rfl),bg]
    rfl
   ·have e:((us.filter (pw ρ w)).map (pn ρ t)).any id=Mp ρ us w t:=by
     rw[kT]
     rfl
    rw[e]
    exact q _ H3 ((s1.trans s2).trans s3) ⟨λz=>⟨t,rfl,ht,z⟩,λ⟨t',e1,_,e3⟩=>by cases e1;exact e3⟩
noncomputable def inB (lo hi:Int):V->Bool
 | .int i=>decide (lo<=i) && decide (i<=hi)
 | _=>false
noncomputable def ZP (K:W.Frag):Sp:=λvs H Q _=>∃ (v:V) (lo hi:Int) (b:Addr),vs=[v,.ref b]/\KTup K b [.int lo,.int hi]/\Eo H v/\Q (.bl (inB lo hi v)) H
include N T in
theorem bG:A_ P w K mg base Bh 2 aD.fWi aD.dWi ["thing","bounds"] (ZP K):=by
 refine N.FWi.1.ok eU (λvs H Q E h=>?_) (λb9 A outer s H vs Q E hr h=>?_)
 ·obtain⟨v,lo,hi,b,rfl,_⟩:=h
  rfl
 ·obtain⟨v,lo,hi,b,rfl,hb,hv,q⟩:=h
  refine⟨_,(Ag (Ar (CQ (Ai (bz N T) (ad hr) rfl N.FWh.2.2 N.FWh.1.kp N.FWh.2.1 .nil Az (Aa (pv 0) Ab)) (By (Gk FJ FJ (BW (BK (K:=K) rfl) (pv 1) Ac (λ_ _=>rfl)) (pv 0) (BW (BK (K:=K) rfl) (pv 1) Ac (λ_ _=>rfl))))))),?_⟩
  refine⟨_,rfl,v,rfl,hv,_,rfl,?_⟩
  cases hv with
  | int i =>
   refine De ⟨_,rfl,b,_,_,_,rfl,rfl,hb.sq _,Aq (j:=0) rfl,_,rfl,_,_,rfl,rfl,_,rfl,?_⟩
   refine Br (λe=>?_) (λe=>?_)
   ·refine⟨_,rfl,b,_,_,_,rfl,rfl,hb.sq _,Aq (j:=1) rfl,_,_,rfl,rfl,?_⟩
    have q':Q (.bl (decide (lo<=i) && decide (i<=hi))) H:=q
    rw[e,gI] at q'
    exact q'
   ·have q':Q (.bl (decide (lo<=i) && decide (i<=hi))) H:=q
    rw[(fF _).mp e,dQ] at q'
    exact q'
  | _=>exact Ce q
noncomputable def Gj (K:W.Frag) (aB:Addr) (ρ:V->R) (vs:List V) (x:V) (part:Str) (b:Bool):Prop :=
 (∃ (lo hi:Int) (a:Addr),W.nsIn K aB part=some (some (.ref a))/\KTup K a [.int lo,.int hi]/\b=inB lo hi x) \/
 (W.nsIn K aB part=some none/\part = "new" /\ (b=true ↔ Z2 x/\∀ w∈named,¬ Lg ρ vs w x)) \/
 (W.nsIn K aB part=some none/\¬ part = "new" /\ (b=true ↔ Lg ρ vs part x))
noncomputable def Yy (K:W.Frag) (aB:Addr):Sp:=λvs H Q _=>∃ (x:V) (part:Str) (p:Addr) (us:List V) (ρ:V->R) (b:Bool),vs=[x,.str part,.ref p]/\H p=some (.lst us)/\Rows H ρ us/\us.length<=500/\Eo H x/\Gj K aB ρ us x part b/\∀ H',Ak H H'->Q (.bl b) H'
include N T in
theorem bw:A_ P w K mg base Bh 4 aD.fPa aD.dPa ["thing","part","ahead"] (Yy K aB):=by
 refine N.FPa.1.ok jn (λvs H Q E h=>?_) (λb9 A outer s H vs Q E hr h=>?_)
 ·obtain⟨x,part,p,us,ρ,bb,rfl,_⟩:=h
  rfl
 ·obtain⟨x,part,p,us,ρ,bb,rfl,hp,hR,hl,hx,hok,q⟩:=h
  refine⟨_,(Ae (Bj (V8 (M9 (pv 1) (Bc (v:=.ref aB) rfl T.mB rfl))) (Ag (Ar (Ai (bG N T) (ad hr) rfl N.FWi.2.2 N.FWi.1.kp N.FWi.2.1 .nil Az (Aa (pv 0) (Aa (Hy (Bc (v:=.ref aB) rfl T.mB rfl) (pv 1) (λ_ _=>rfl)) Ab))))) BV)
   (Ae (Bj (BR DQ (pv 1) An (BZ _)) (Ag (Ar (CQ (Ai (Wx N T) (ad hr) rfl N.FNm.2.2 N.FNm.1.kp N.FNm.2.1 .nil Az (Aa (pv 0) Ab)) (By (Jx (Aj (Hq rfl) rfl T.any gp (Aa (Bp rfl (Bd (osc:=Ah jy) (N:=["thing","part","ahead"]) rfl rfl (by decide +kernel)) (Js (Bc (v:=.ref aN) rfl T.mN rfl)) (λ_ _ _ _=>CK) (λ_ _ _ _=>(Ai (VM N T) (ad hr) rfl N.FTo.2.2 N.FTo.1.kp N.FTo.2.1 .nil Az (Aa (pv 3) (Aa (pv 0) (Aa (pv 1) Ab)))))) Ab))))))) BV)
   (Ag (Ar (Ai (VM N T) (ad hr) rfl N.FTo.2.2 N.FTo.1.kp N.FTo.2.1 .nil Az (Aa (pv 2) (Aa (pv 1) (Aa (pv 0) Ab)))))))),?_⟩
  rcases hok with⟨lo,hi,a,hn,ha,rfl⟩ | ⟨hn,rfl,hb⟩ | ⟨hn,hne,hb⟩
  ·refine⟨_,rfl,aB,part,_,rfl,rfl,T.dB,hn,_,rfl,De ?_⟩
   exact⟨_,rfl,_,rfl,aB,part,.ref a,_,rfl,rfl,T.dB,hn,rfl,x,lo,hi,a,rfl,ha,hx,q H (Ak.refl H)⟩
  ·refine⟨_,rfl,aB,_,_,rfl,rfl,T.dB,hn,_,rfl,Ce ?_⟩
   refine⟨_,rfl,rfl,_,rfl,De ?_⟩
   refine⟨_,rfl,x,rfl,hx,λb1 H1 s1 hb1=>⟨_,rfl,?_⟩⟩
   refine Br (λe=>?_) (λe=>?_)
   ·have y':=hb1.mp e
    obtain⟨t,rfl,ht⟩:=id y'
    have hS:Ga K H1 aN (named.map V.str):=T.tN.sq _
    refine⟨aN,rfl,⟨_,hS⟩,Gb (xs:=named.map V.str) (λ_=>true) (λv=>.bl (match v with | .str w=>Mp ρ us w t | _=>false)) (by show 5<sizeLine;decide) (λi H2 x hs hx=>⟨_,x,hs.tup hS,hx⟩) (λi H2 y H3 hs _ hy=>⟨hy.1,hy.2 _ (hs.tup hS)⟩) (λH2 hs=>⟨_,hs.tup hS,Nat.le_refl _⟩)
     (λx hx H' hs R k=>k H' (Ak.refl H')) (λx hx _ H' hs R k=>?_) (λD H2 hD s2 hl2=>?_)⟩
    ·obtain⟨w0,G2,rfl⟩:=ay.mp hx
     refine⟨_,rfl,_,rfl,_,rfl,p,us,w0,.str t,ρ,rfl,hs _ _ (s1 _ _ hp),(hR.mono s1).mono hs,hl,.str ht.tx,λb3 qE ul Md=>?_⟩
     have e3:b3=Mp ρ us w0 t:=by
      rw[dE,Md]
      exact⟨λ⟨t',e1,_,e2⟩=>by cases e1;exact e2,λz=>⟨t,rfl,ht,z⟩⟩
     rw[e3]
     exact k qE ul
    ·refine⟨D,named.map λw=>Mp ρ us w t,rfl,kU hl2,_,rfl,?_⟩
     have e4:(!(named.map λw=>Mp ρ us w t).any id)=bb:=by
      rw[dE,hb,iS,List.any_eq_false]
      constructor
      ·intro h
       refine⟨⟨t,rfl,ht⟩,λw hw ⟨t',e1,_,e2⟩=>?_⟩
       cases e1
       exact h _ (cf hw) e2
      ·rintro⟨_,h⟩ v hv z
       obtain⟨w,hw,rfl⟩:=ay.mp hv
       exact h w hw ⟨t,rfl,ht,z⟩
     rw[e4]
     exact q H2 (s1.trans s2)
   ·have eb:bb=false:=by
     rw[Bool.eq_false_iff]
     exact λz=>e (hb1.mpr (hb.mp z).1)
    have:=q H1 s1
    rw[eb] at this
    exact this
  ·refine⟨_,rfl,aB,_,_,rfl,rfl,T.dB,hn,_,rfl,Ce ?_⟩
   refine⟨_,rfl,rfl,_,rfl,?_⟩
   refine Br (λz=>absurd (V.str.inj (of_decide_eq_true z)) hne) (λ_=>?_)
   refine⟨_,rfl,_,rfl,_,rfl,p,us,part,x,ρ,rfl,hp,hR,hl,hx,λb1 H' hs hb1=>?_⟩
   have:b1=bb:=by rw[dE,hb1,hb]
   rw[this]
   exact q H' hs
noncomputable def Xp (K:W.Frag) (aB:Addr) (ρ:V->R) (us xs:List V) (ps:List Str):Prop:=xs.length=ps.length/\∀ (i:Nat) x y,xs[i]? = some x->ps[i]? = some y->Gj K aB ρ us x y true
noncomputable def pfB (K:W.Frag) (aB:Addr) (ρ:V->R) (us:List V) (x:V):V->Bool
 | .str y=>@ite Bool (Gj K aB ρ us x y true) (Classical.propDecidable _) true false
 | _=>false
theorem Zt {K:W.Frag} {aB:Addr} {ρ:V->R} {us:List V} {x:V} {y:Str} (h:Gj K aB ρ us x y true):pfB K aB ρ us x (.str y)=true:=if_pos h
theorem fO {K:W.Frag} {aB:Addr} {ρ:V->R} {us:List V} {x:V} {y:Str} (h:¬ Gj K aB ρ us x y true):pfB K aB ρ us x (.str y)=false:=if_neg h
theorem Vo {K:W.Frag} {aB:Addr} {ρ:V->R} {us:List V} {x:V} {y:Str} (h:∃ b,Gj K aB ρ us x y b):Gj K aB ρ us x y (pfB K aB ρ us x (.str y)):=by
 by_cases e:Gj K aB ρ us x y true
 ·rw[Zt e]
  exact e
 ·rw[fO e]
  obtain⟨b,hb⟩:=h
  cases b with
  | true=>exact absurd hb e
  | false=>exact hb
noncomputable def Zd (K:W.Frag) (aB aP:Addr):Sp:=λvs H Q _=>∃ (r p:Addr) (w:Str) (xs:List V) (us:List V) (ρ:V->R) (ap:Addr) (ps:List Str),vs=[.ref r,.ref p]/\H r=some (.tup (.str w::xs))/\H p=some (.lst us)/\Rows H ρ us/\us.length<=500 /\
 W.nsIn K aP w=some (some (.ref ap))/\KTup K ap (ps.map V.str)/\ps.length<=10/\(∀ x∈xs,Eo H x)/\(∀ x∈xs,∀ y∈ps,∃ b,Gj K aB ρ us x y b)/\∀ b H',Ak H H'->(b=true ↔ Xp K aB ρ us xs ps)->Q (.bl b) H'
include N T in
theorem cQ:A_ P w K mg base Bh 5 aD.fHp aD.dHp ["row","ahead"] (Zd K aB aP):=by
 refine N.FHp.1.ok Yt (λvs H Q E h=>?_) (λb9 A outer s H vs Q E hr h=>?_)
 ·obtain⟨r,p,w,xs,us,ρ,ap,ps,rfl,_⟩:=h
  rfl
 ·obtain⟨r,p,w,xs,us,ρ,ap,ps,rfl,hr0,hp,hR,hl,hn,nh,oI,BO,hok,q⟩:=h
  refine⟨_,(Ae (Bf (i:=2) Yt.nd rfl (Or.inl rfl) (Hy (Bc (v:=.ref aP) rfl T.mP rfl) (BW (BK (K:=K) rfl) (pv 0) Ac (λ_ _=>rfl)) (λ_ _=>rfl)))
   (Ae (Bj (BR OJ (Aj Ay rfl T.len aT (Aa (pv 0) Ab)) (BJ Dc Ac (Aj Ay rfl T.len aT (Aa (pv 2) Ab))) (BZ _)) (Ag (Ar Et)) BV)
   (Ag (Ar (Aj (FP rfl) rfl T.all ej (Aa (Tf rfl (Kv (osc:=Ah jm) (N:=["row","ahead","parts"]) rfl rfl (by decide +kernel)) (Ry rfl T.zip (Aa (Cg K5 (pv 0) (Cu Ac) Dj) (Aa (pv 2) Ab))) (λ_ _ _ _=>CK) (λ_ _ _ _=>(Ai (bw N T) (ad hr) rfl N.FPa.2.2 N.FPa.1.kp N.FPa.2.1 .nil Az (Aa (pv 0) (Aa (pv 1) (Aa (pv 3) Ab)))))) Ab)))))),?_⟩
  refine⟨_,rfl,r,_,_,_,rfl,rfl,kU hr0,Aq (j:=0) rfl,aP,w,.ref ap,_,rfl,rfl,T.dP,hn,rfl,?_⟩
  refine⟨_,rfl,r,_,rfl,.inr (.inl (.inl hr0)),_,rfl,ap,_,rfl,.inr (nh.sq _),_,_,rfl,rfl,rfl,_,rfl,?_⟩
  by_cases hlen:xs.length=ps.length
  case neg =>
   refine Br (λ_=>?_) (λz=>?_)
   ·exact q false H (Ak.refl H) ⟨λz=>(nomatch z),λz=>absurd z.1 hlen⟩
   ·exfalso
    refine z ?_
    rw[iS]
    refine decide_eq_false λe=>hlen ?_
    have:=V.int.inj e
    rw[aS,ae] at this
    omega
  refine Br (λz=>?_) (λ_=>?_)
  ·exfalso
   have e:(((V.str w::xs).length:Nat):Int)=1+(((ps.map V.str).length:Nat):Int):=by
    rw[aS,ae,hlen]
    omega
   rw[e] at z
   simp at z
  ·have hcut:Cm (V.str w::xs) (some 1) none=xs:=by
    unfold Cm
    have e1:HT.Ds (V.str w::xs).length 0 (some ((1:Nat):Int))=1:=by rw[HT.Dl,aS];omega
    have e1':HT.Ds (V.str w::xs).length 0 (some (1:Int))=1:=e1
    rw[e1',HT.El,List.drop_succ_cons,List.drop_zero]
    exact ef (by rw[aS];omega)
   refine⟨_,rfl,_,rfl,r,_,rfl,kU hr0,(λz=>?_),λp2 ti=>?_⟩
   ·have e1:HT.Ds (V.str w::xs).length 0 (some ((1:Nat):Int))=1:=by rw[HT.Dl,aS];omega
    have:=z.1.symm.trans e1
    cases this
   rw[hcut]
   obtain⟨H2,d0,s2,a2⟩:=CN (o:=HO.tup xs) ti
   rw[d0]
   have h1:Ga K H2 p2 xs:=.inl (.inl a2)
   refine⟨_,rfl,p2,ap,rfl,⟨_,h1⟩,⟨_,nh.sq _⟩,Oi (K:=K) (xs:=xs) (ys:=ps.map V.str) (λx y=>.bl (pfB K aB ρ us x y)) h1 (nh.sq _) (by rw[ae];exact hlen) (Av (by omega)) (λi x y hx hy H3 s3 R k=>?_) (λD H3 hD s3 sk=>?_)⟩
   ·rw[br] at hy
    obtain⟨part,sN,rfl⟩:=ee.mp hy
    have GI:=al hx
    exact⟨_,rfl,_,rfl,_,rfl,x,part,p,us,ρ,_,rfl,s3 _ _ (s2 _ _ hp),(hR.mono s2).mono s3,hl,(BO x GI).mono (s2.trans s3),Vo (hok x GI part (al sN)),λH4 s4=>k H4 s4⟩
   ·have e:List.zipWith (λx y=>V.bl (pfB K aB ρ us x y)) xs (ps.map V.str)=(List.zipWith (λx y=>pfB K aB ρ us x y) xs (ps.map V.str)).map V.bl:=by
     rw[List.map_zipWith]
    rw[e] at sk
    refine⟨D,List.zipWith (λx y=>pfB K aB ρ us x y) xs (ps.map V.str),rfl,kU sk,q _ H3 (s2.trans s3) ?_⟩
    rw[cw]
    constructor
    ·intro h
     refine⟨hlen,λi x y hx hy=>?_⟩
     have hz:(List.zipWith (λx y=>pfB K aB ρ us x y) xs (ps.map V.str))[i]? = some (pfB K aB ρ us x (.str y)):=by
      rw[iX,hx,br,hy]
      rfl
     have hb:pfB K aB ρ us x (.str y)=true:=h _ (al hz)
     have:=Vo (hok x (al hx) y (al hy))
     rw[hb] at this
     exact this
    ·rintro⟨_,h⟩ b hb
     obtain⟨i,hi,rfl⟩:=dA hb
     rw[List.length_zipWith] at hi
     have hi1:i<xs.length:=by omega
     have hi2:i<ps.length:=by rw[ae] at hi;omega
     rw[List.getElem_zipWith]
     show pfB K aB ρ us xs[i] (ps.map V.str)[i]=true
     rw[gT]
     exact Zt (h i _ _ (af hi1) (af hi2))
noncomputable def Sh (ρ:V->R) (us:List V) (lo hi:Int):Prop:=∃ (cnt:Nat) (v:V) (bd:Str) (rs:List V),J3 ρ us cnt/\cnt<4/\us[us.length - 1 - cnt]? = some v/\(ρ v).w = "stop" /\ (ρ v).rest=.str bd::rs/\lo<=hi/\keyOf ρ us bd hi=true
theorem LC {ρ:V->R} {us:List V} {i j:Nat} (h:J3 ρ us i) (g:J3 ρ us j):i=j:=by
 refine Classical.byContradiction λn=>?_
 rcases Nat.lt_or_gt_of_ne n with e | e
 ·obtain⟨v,h1,h2⟩:=h.no
  obtain⟨u,g1,g2⟩:=g.all i e
  rw[h1] at g1
  cases g1
  exact h2 g2
 ·obtain⟨v,h1,h2⟩:=g.no
  obtain⟨u,g1,g2⟩:=h.all j e
  rw[h1] at g1
  cases g1
  exact h2 g2
noncomputable def Zq:Sp:=λvs H Q _=>∃ (r p:Addr) (w nm:V) (sh lo hi:Int) (us:List V) (ρ:V->R) (cnt:Nat),vs=[.ref r,.ref p]/\H r=some (.tup [w,nm,.int sh,.int lo,.int hi])/\H p=some (.lst us)/\Rows H ρ us/\us.length<=500/\J3 ρ us cnt/\(∀ v∈us,(ρ v).w = "stop"->∃ bd rs,(ρ v).rest=.str bd::rs)/\Df ρ us/\∀ b H',Ak H H'->(b=true ↔ Sh ρ us lo hi)->Q (.bl b) H'
include N T in
theorem cV:A_ P w K mg base Bh 3 aD.fSb aD.dSb ["line","ahead"] Zq:=by
 refine N.FSb.1.ok Ur (λvs H Q E h=>?_) (λb9 A outer s H vs Q E hr h=>?_)
 ·obtain⟨r,p,w,nm,sh,lo,hi,us,ρ,cnt,rfl,_⟩:=h
  rfl
 ·obtain⟨r,p,w,nm,sh,lo,hi,us,ρ,cnt,rfl,hr1,hp,hR,hl,hc,hst,hB,q⟩:=h
  obtain⟨wa,wT⟩:=T.mostLn
  refine⟨_,(Ae (Bf (i:=2) Ur.nd rfl (Or.inl rfl) (Ai (Zr N T) (ad hr) rfl N.FCl.2.2 N.FCl.1.kp N.FCl.2.1 .nil Az (Aa (pv 1) Ab)))
   (Ae (Bf (i:=3) Ur.nd rfl (Or.inl rfl) (BW Cj (pv 1) (BJ Ft (BJ Ft (Aj Ay rfl T.len aT (Aa (pv 1) Ab)) Ac) (pv 2)) (λ_ _=>rfl)))
   (Ae (Bj (PW.pt (GQ (BR OJ (BW (BK (K:=K) rfl) (pv 3) Ac (λ_ _=>rfl)) An (BZ _)) (FW (BR R8 (pv 2) (Bc (v:=.int 4) rfl wT ⟨wa,rfl⟩) (BZ _))))) (Ag (Ar Et)) BV)
   (Ag (Ar (CQ (DY FJ (BW (BK (K:=K) rfl) (pv 0) Ac (λ_ _=>rfl)) (BW (BK (K:=K) rfl) (pv 0) Ac (λ_ _=>rfl)) (BZ _)) (By (Ai (ZG N T) (ad hr) rfl N.FIk.2.2 N.FIk.1.kp N.FIk.2.1 .nil Az (Aa (BW (BK (K:=K) rfl) (pv 0) Ac (λ_ _=>rfl)) (Aa (BW (BK (K:=K) rfl) (pv 3) Ac (λ_ _=>rfl)) (Aa (pv 1) Ab))))))))))),?_⟩
  have hS:Dg K H p us:=.inl (.inl hp)
  obtain⟨v,hv,xx⟩:=hc.no
  obtain⟨r2,rfl,tf⟩:=hR v (al hv)
  have hlt:=hc.lt
  have ei:((us.length:Nat):Int) - 1 - ((cnt:Nat):Int)=((us.length - 1 - cnt:Nat):Int):=by omega
  have no:(∀ (wm:Nat) v' (bd:Str) (rs:List V),wm=cnt->us[us.length - 1 - cnt]? = some v'->(ρ v').w = "stop"->(ρ v').rest=.str bd::rs->cnt<4->lo<=hi->keyOf ρ us bd hi=true->False)->∀ H',Ak H H'->Q (.bl false) H':=λh H' s=>q false H' s ⟨λz=>(nomatch z),λ⟨wm,v',bd,rs,g1,g2,g3,g4,g5,g6,g7⟩=>by
   have e:=LC g1 hc
   subst e
   exact (h _ v' bd rs rfl g3 g4 g5 g2 g6 g7).elim⟩
  refine⟨_,rfl,p,us,ρ,cnt,rfl,hp,hR,hl,hc,?_⟩
  refine⟨_,rfl,_,rfl,p,us,rfl,.inl hS,_,_,rfl,rfl,_,rfl,_,_,rfl,rfl,p,us,_,_,rfl,rfl,hS,(by rw[ei];exact Aq hv),?_⟩
  refine⟨_,rfl,r2,_,_,_,rfl,rfl,kU tf,Aq (j:=0) rfl,rfl,_,rfl,?_⟩
  by_cases hw:(ρ (.ref r2)).w = "stop"
  case neg =>
   refine Br (λ_=>?_) (λz=>absurd (by rw[decide_eq_false λe=>hw (V.str.inj e)];rfl) z)
   exact no (λ_ v' _ _ _ g3 g4 _ _ _ _=>by rw[hv] at g3;cases g3;exact hw g4) H (Ak.refl H)
  refine W7 (congrArg V.str hw) ?_
  refine⟨_,rfl,_,_,rfl,rfl,_,rfl,?_⟩
  refine Br (λz=>?_) (λz=>?_)
  ·have h4:=of_decide_eq_true z
   exact no (λ_ _ _ _ _ _ _ _ g _ _=>by omega) H (Ak.refl H)
  have h4:cnt<4:=Classical.byContradiction λg=>z (decide_eq_true (by omega))
  obtain⟨bd,rs,g9⟩:=hst _ (al hv) hw
  have hr2':H r2=some (.tup (.str (ρ (.ref r2)).w :: .str (ρ (.ref r2)).nm :: .str bd::rs)):=by rw[tf,<-g9]
  refine⟨_,rfl,r,_,_,_,rfl,rfl,kU hr1,Aq (j:=3) rfl,_,rfl,r,_,_,_,rfl,rfl,kU hr1,Aq (j:=4) rfl,_,_,rfl,rfl,_,rfl,?_⟩
  refine Br (λhle=>?_) (λhle=>no (λ_ _ _ _ _ _ _ _ _ g _=>hle (decide_eq_true g)) H (Ak.refl H))
  refine⟨_,rfl,r,_,_,_,rfl,rfl,kU hr1,Aq (j:=4) rfl,_,rfl,r2,_,_,_,rfl,rfl,kU hr2',Aq (j:=2) rfl,_,rfl,hi,bd,p,us,ρ,rfl,hp,hR,hl,hB,λH' s'=>?_⟩
  refine q _ H' s' ⟨λg=>⟨cnt,_,bd,rs,hc,h4,hv,hw,g9,of_decide_eq_true hle,g⟩,λ⟨wm,v',Wp,X9,g1,g2,g3,g4,g5,g6,g7⟩=>?_⟩
  have e:=LC g1 hc
  subst e
  rw[hv] at g3
  cases g3
  rw[g9] at g5
  cases g5
  exact g7
theorem Oh:∀ (ns:List Str) (σ:List Str),(ns.foldl Ws.Ei σ).length=σ.length+ns.length->σ.Nodup->(σ++ns).Nodup
 | [],σ,_,h=>by rw[eg];exact h
 | k::ns,σ,hl,h=>by
  rw[ki] at hl
  have h2:=Ws.Jm ns (Ws.Ei σ k)
  rw[aS] at hl
  by_cases hk:k∈σ
  ·have e:Ws.Ei σ k=σ:=if_pos hk
   rw[e] at hl h2
   omega
  ·have e:Ws.Ei σ k=σ++[k]:=if_neg hk
   rw[e] at hl
   have nd:(σ++[k]).Nodup:=List.nodup_append.mpr ⟨h,by simp,λa ha b hb=>by rw[List.mem_singleton.mp hb];exact λz=>hk (z ▸ ha)⟩
   have:=Oh ns (σ++[k]) (by rw[hl,aE,bv];omega) nd
   rw[dL] at this
   exact this
noncomputable def Wb (ρ:V->R) (us xs:List V):Prop:=xs ≠ []/\∃ ts:List Str,xs=ts.map V.str/\ts.Nodup/\∀ t∈ts,isNm t/\Mp ρ us "stop" t=true
noncomputable def toF (ρ:V->R) (us:List V) (w:Str) (x:V):Bool:=@ite Bool (Lg ρ us w x) (Classical.propDecidable _) true false
theorem N6 {ρ:V->R} {us:List V} {w:Str} {x:V}:toF ρ us w x=true ↔ Lg ρ us w x:=by
 unfold toF
 by_cases h:Lg ρ us w x
 ·rw[if_pos h];exact⟨λ_=>h,λ_=>rfl⟩
 ·rw[if_neg h];exact⟨λz=>(nomatch z),λz=>absurd z h⟩
noncomputable def ZV:Sp:=λvs H Q _=>∃ (r p:Addr) (wd:V) (xs us:List V) (ρ:V->R),vs=[.ref r,.ref p]/\H r=some (.tup (wd::xs))/\H p=some (.lst us)/\Rows H ρ us/\us.length<=500/\xs.length<=100/\(∀ x∈xs,Eo H x)/\∀ b H',Ak H H'->(b=true ↔ Wb ρ us xs)->Q (.bl b) H'
include N T in
theorem aX:A_ P w K mg base Bh 5 aD.fIs aD.dIs ["row","ahead"] ZV:=by
 refine N.FIs.1.ok Yh (λvs H Q E h=>?_) (λb9 A outer s H vs Q E hr h=>?_)
 ·obtain⟨r,p,wd,xs,us,ρ,rfl,_⟩:=h
  rfl
 ·obtain⟨r,p,wd,xs,us,ρ,rfl,hr0,hp,hR,hl,hxl,BO,q⟩:=h
  refine⟨_,(Ae (Bf (i:=2) Yh.nd rfl (Or.inl rfl) (Cg K5 (pv 0) (Cu Ac) Dj))
   (Ae (Bj (PW.pt (GQ (BR DQ (Aj Ay rfl T.len aT (Aa (pv 2) Ab)) Ac (BZ _)) (FW (Cp (C_ (Aj (FP rfl) rfl T.all ej (Aa (Bp rfl (Bd (osc:=Ah gM) (N:=["row","ahead","names"]) rfl rfl (by decide +kernel)) (Js (pv 2)) (λ_ _ _ _=>CK) (λ_ _ _ _=>(Ai (VM N T) (ad hr) rfl N.FTo.2.2 N.FTo.1.kp N.FTo.2.1 .nil Az (Aa (pv 2) (Aa An (Aa (pv 0) Ab)))))) Ab))))))) (Ag (Ar Et)) BV)
   (Ag (Ar (DY DQ (Aj Ii rfl T.len aT (Aa (Dv (Mh rfl) rfl T.set PyProof.Rows.boot_set (Aa (pv 2) Ab)) Ab)) (Aj Ay rfl T.len aT (Aa (pv 2) Ab)) (BZ _)))))),?_⟩
  have e1:HT.Ds (wd::xs).length 0 (some 1)=1:=by
   rw[show (some (1:Int))=some ((1:Nat):Int) from rfl,HT.Dl]
   simp
  have hcut:Cm (wd::xs) (some 1) none=xs:=by
   unfold Cm
   rw[e1,HT.El]
   simp
  refine⟨_,rfl,_,rfl,r,_,rfl,kU hr0,?_,λn0 wb=>?_⟩
  ·rintro⟨z,_⟩
   rw[e1] at z
   cases z
  rw[hcut]
  obtain⟨H1,d0,s1,a1⟩:=CN (o:=HO.tup xs) wb
  rw[d0]
  have hT:Ga K H1 n0 xs:=.inl (.inl a1)
  refine⟨_,rfl,n0,_,rfl,.inr hT,rfl,_,rfl,Br (λz=>?_) (λz=>?_)⟩
  ·have h0:=V.int.inj (of_decide_eq_true z)
   exact q false H1 s1 ⟨λz=>(nomatch z),λz=>absurd (List.length_eq_zero_iff.mp (by omega)) z.1⟩
  have hne:xs ≠ []:=λe=>z (decide_eq_true (by rw[e];rfl))
  refine⟨_,rfl,n0,rfl,⟨_,hT⟩,JR (K:=K) (xs:=xs) (λ_=>true) (λx=>.bl (toF ρ us "stop" x)) hT (Av (by omega)) (λx hx H' hs R k=>k H' (Ak.refl H')) (λx hx _ H' hs R k=>?_) (λD H2 hD s2 hl2=>?_)⟩
  ·refine⟨_,rfl,_,rfl,p,us,"stop",x,ρ,rfl,hs _ _ (s1 _ _ hp),(hR.mono s1).mono hs,hl,(BO x hx).mono (s1.trans hs),λb H3 s3 hb=>?_⟩
   have:b=toF ρ us "stop" x:=by rw[dE,hb,N6]
   rw[this]
   exact k H3 s3
  ·refine⟨D,xs.map (toF ρ us "stop"),rfl,.inl (.inl ?_),_,rfl,?_⟩
   ·rw[hl2,bi.mpr (λ_ _=>rfl),bg]
    rfl
   refine Br (λha=>?_) (λha=>?_)
   ·have U2:¬ (xs.map (toF ρ us "stop")).all id=true:=by
     rw[iS] at ha
     rw[ha]
     exact cy
    refine q false H2 (s1.trans s2) ⟨λz=>(nomatch z),λ⟨_,ts,lj,_,ml⟩=>absurd ?_ U2⟩
    rw[kC,cw]
    intro x hx
    rw[lj] at hx
    obtain⟨t,ht,rfl⟩:=ay.mp hx
    exact N6.mpr ⟨t,rfl,(ml t ht).1,(ml t ht).2⟩
   have hall:∀ x∈xs,Lg ρ us "stop" x:=λx hx=>by
    have:(xs.map (toF ρ us "stop")).all id=true:=by
     rw[iS,Bool.not_eq_false] at ha
     exact ha
    rw[kC,cw] at this
    exact N6.mp (this x hx)
   obtain⟨ts,lj,ml⟩:∃ ts:List Str,xs=ts.map V.str/\∀ t∈ts,isNm t/\Mp ρ us "stop" t=true:=by
    have:∀ l:List V,(∀ x∈l,Lg ρ us "stop" x)->∃ ts:List Str,l=ts.map V.str/\∀ t∈ts,isNm t/\Mp ρ us "stop" t=true:=λl=>by
     induction l with
     | nil=>exact λ_=>⟨[],rfl,λ_ h=>nomatch h⟩
     | cons x l ih =>
      intro h
      obtain⟨t,rfl,h1,h2⟩:=h x (av ..)
      obtain⟨ts,rfl,h3⟩:=ih λy hy=>h y (aI _ hy)
      refine⟨t::ts,rfl,λt' sF=>?_⟩
      rcases bq.mp sF with rfl | z
      ·exact⟨h1,h2⟩
      ·exact h3 t' z
    exact this xs hall
   have rL:=s2 _ _ a1
   rw[lj] at rL
   have hlt:ts.length<=100:=by rw[lj,ae] at hxl;exact hxl
   refine⟨_,rfl,n0,ts,rfl,kU rL,by omega,λS hS=>?_⟩
   have s3:=Aw (o:=Mu P w S (ts.foldl Ws.Ei [])) hS
   refine⟨S,_,rfl,Af,_,rfl,n0,_,rfl,.inr (.inl (.inl (s3 _ _ rL))),rfl,?_⟩
   refine q _ _ (s1.trans (s2.trans s3)) ?_
   rw[decide_eq_true_eq]
   constructor
   ·intro h
    have h':=V.int.inj h
    rw[ae] at h'
    have nd:=Oh ts [] (by rw[kg,kA];omega) ic
    rw[fT] at nd
    exact⟨hne,ts,lj,nd,ml⟩
   ·rintro⟨_,vI,zU,nd,_⟩
    have e:vI=ts:=by
     rw[lj] at zU
     exact ((List.map_inj_right (λa b h=>V.str.inj h)).mp zU).symm
    subst e
    have e2:vI.foldl Ws.Ei []=vI:=(Jj vI [] (by rw[fT];exact nd)).trans (fT _)
    rw[e2,ae]
noncomputable def nJ (K:W.Frag) (aP:Addr) (w:Str) (pk:Option (List Str)):Prop:=(pk=none/\W.nsIn K aP w=some none/\¬ w = "line") \/ ∃ ap ps,pk=some ps/\W.nsIn K aP w=some (some (.ref ap))/\KTup K ap (ps.map V.str)/\ps.length<=10
noncomputable def jx (ρ:V->R) (us xs:List V):Prop:=∃ (nm:V) (sh lo hi:Int),xs=[nm,.int sh,.int lo,.int hi]/\Sh ρ us lo hi
noncomputable def XC (K:W.Frag) (aB:Addr) (ρ:V->R) (us:List V) (w:Str) (xs:List V) (pk:Option (List Str)):Prop:=(w = "step" /\ Wb ρ us xs) \/ (¬ w = "step" /\ ∃ ps,pk=some ps/\Xp K aB ρ us xs ps/\(w = "line"->jx ρ us xs))
structure T7 (K:W.Frag) (aB aP:Addr) (H:Hp) (ρ:V->R) (us:List V) (w:Str) (xs:List V) (pk:Option (List Str)):Prop where
 xl:xs.length<=100
 od:∀ x∈xs,Eo H x
 tot:∀ ps,pk=some ps->∀ x∈xs,∀ y∈ps,∃ b,Gj K aB ρ us x y b
 ln:w = "line"->∀ ps,pk=some ps->Xp K aB ρ us xs ps->∃ (nm:V) (sh lo hi:Int) (cnt:Nat),xs=[nm,.int sh,.int lo,.int hi]/\J3 ρ us cnt
 ps:¬ w = "step"->nJ K aP w pk
theorem T7.mono {K:W.Frag} {aB aP:Addr} {H H':Hp} {ρ:V->R} {us:List V} {w:Str} {xs:List V} {pk:Option (List Str)} (s:Ak H H') (h:T7 K aB aP H ρ us w xs pk):T7 K aB aP H' ρ us w xs pk:=⟨h.xl,λx hx=>(h.od x hx).mono s,h.tot,h.ln,h.ps⟩
structure HS (ρ:V->R) (us:List V):Prop where
 st:∀ v∈us,(ρ v).w = "stop"->∃ bd rs,(ρ v).rest=.str bd::rs
 bd:Df ρ us
noncomputable def ZF (K:W.Frag) (aB aP:Addr):Sp:=λvs H Q _=>∃ (r p:Addr) (wd:Str) (xs us:List V) (ρ:V->R) (pk:Option (List Str)),vs=[.ref r,.ref p]/\H r=some (.tup (.str wd::xs))/\H p=some (.lst us)/\Rows H ρ us/\us.length<=500/\T7 K aB aP H ρ us wd xs pk/\HS ρ us/\∀ b H',Ak H H'->(b=true ↔ XC K aB ρ us wd xs pk)->Q (.bl b) H'
include N T in
theorem bA:A_ P w K mg base Bh 6 aD.fWm aD.dWm ["row","ahead"] (ZF K aB aP):=by
 refine N.FWm.1.ok dq (λvs H Q E h=>?_) (λb9 A outer s H vs Q E hr h=>?_)
 ·obtain⟨r,p,wd,xs,us,ρ,pk,rfl,_⟩:=h
  rfl
 ·obtain⟨r,p,wd,xs,us,ρ,pk,rfl,hr0,hp,hR,hl,tq,ah,q⟩:=h
  refine⟨_,(Ae (Bj (BR DQ (BW (BK (K:=K) rfl) (pv 0) Ac (λ_ _=>rfl)) An (BZ _)) (Ag (Ar (Ai (aX N T) (ad hr) rfl N.FIs.2.2 N.FIs.1.kp N.FIs.2.1 .nil Az (Aa (pv 0) (Aa (pv 1) Ab))))) BV)
   (Ae (Bj (BR DQ (BW (BK (K:=K) rfl) (pv 0) Ac (λ_ _=>rfl)) An (BZ _)) (Ag (Ar (CQ (Ai (cQ N T) (ad hr) rfl N.FHp.2.2 N.FHp.1.kp N.FHp.2.1 .nil Az (Aa (pv 0) (Aa (pv 1) Ab))) (By (Ai (cV N T) (ad hr) rfl N.FSb.2.2 N.FSb.1.kp N.FSb.2.1 .nil Az (Aa (pv 0) (Aa (pv 1) Ab))))))) BV)
   (Ag (Ar (CQ (M5 (M9 (BW (BK (K:=K) rfl) (pv 0) Ac (λ_ _=>rfl)) (Bc (v:=.ref aP) rfl T.mP rfl))) (By (Ai (cQ N T) (ad hr) rfl N.FHp.2.2 N.FHp.1.kp N.FHp.2.1 .nil Az (Aa (pv 0) (Aa (pv 1) Ab))))))))),?_⟩
  refine⟨_,rfl,r,_,_,_,rfl,rfl,kU hr0,Aq (j:=0) rfl,rfl,_,rfl,?_⟩
  refine Br (λe=>?_) (λe=>?_)
  ·have hw:=V.str.inj (of_decide_eq_true e)
   refine⟨_,rfl,_,rfl,r,p,_,xs,us,ρ,rfl,hr0,hp,hR,hl,tq.xl,tq.od,λb H1 s1 hb=>q b H1 s1 (hb.trans ⟨λz=>.inl ⟨hw,z⟩,λz=>z.elim (·.2) λz=>absurd hw z.1⟩)⟩
  have hns:¬ wd = "step":=λz=>e (decide_eq_true (by rw[z]))
  refine⟨_,rfl,r,_,_,_,rfl,rfl,kU hr0,Aq (j:=0) rfl,rfl,_,rfl,?_⟩
  rcases tq.ps hns with⟨e0,hn,xx⟩ | ⟨ap,ps,e0,hn,nh,oI⟩
  ·refine Br (λz=>absurd (V.str.inj (of_decide_eq_true z)) xx) (λ_=>?_)
   refine⟨_,rfl,r,_,_,_,rfl,rfl,kU hr0,Aq (j:=0) rfl,aP,_,_,rfl,rfl,T.dP,hn,_,rfl,Ce ?_⟩
   exact q false H (Ak.refl H) ⟨λz=>(nomatch z),λz=>z.elim (λz=>absurd z.1 hns) λ⟨_,ps,e,_⟩=>by rw[e0] at e;cases e⟩
  have tot:=tq.tot ps e0
  refine Br (λz=>?_) (λz=>?_)
  ·have hw:=V.str.inj (of_decide_eq_true z)
   refine⟨_,rfl,_,rfl,r,p,wd,xs,us,ρ,ap,ps,rfl,hr0,hp,hR,hl,hn,nh,oI,tq.od,tot,λb H1 s1 hb=>⟨_,rfl,?_⟩⟩
   refine Br (λe1=>?_) (λe1=>q false H1 s1 ⟨λz=>(nomatch z),λz=>z.elim (λz=>absurd z.1 hns) λ⟨_,xo,e,h,_⟩=>by rw[e0] at e;cases e;exact absurd (hb.mpr h) e1⟩)
   have hh:=hb.mp e1
   obtain⟨nm,sh,lo,hi,cnt,ex,hc⟩:=tq.ln hw ps e0 hh
   have hr1:H1 r=some (.tup [.str wd,nm,.int sh,.int lo,.int hi]):=by rw[s1 _ _ hr0,ex]
   refine⟨_,rfl,_,rfl,r,p,_,nm,sh,lo,hi,us,ρ,cnt,rfl,hr1,s1 _ _ hp,hR.mono s1,hl,hc,ah.st,ah.bd,λb2 H2 s2 hb2=>q b2 H2 (s1.trans s2) (hb2.trans ⟨λz=>.inr ⟨hns,ps,e0,hh,λ_=>⟨nm,sh,lo,hi,ex,z⟩⟩,λz=>z.elim (λz=>absurd z.1 hns) λ⟨_,xo,e,h,g⟩=>?_⟩)⟩
   obtain⟨VI,YA,rd,hi',EQ,st⟩:=g hw
   rw[ex] at EQ
   cases EQ
   exact st
  ·have xx:¬ wd = "line":=λe=>z (decide_eq_true (by rw[e]))
   refine⟨_,rfl,r,_,_,_,rfl,rfl,kU hr0,Aq (j:=0) rfl,aP,_,_,rfl,rfl,T.dP,hn,_,rfl,De ?_⟩
   exact⟨_,rfl,_,rfl,r,p,wd,xs,us,ρ,ap,ps,rfl,hr0,hp,hR,hl,hn,nh,oI,tq.od,tot,λb H1 s1 hb=>q b H1 s1 (hb.trans ⟨λz=>.inr ⟨hns,ps,e0,z,λe=>absurd e xx⟩,λz=>z.elim (λz=>absurd z.1 hns) λ⟨_,xo,e,h,_⟩=>by rw[e0] at e;cases e;exact h⟩)⟩
inductive Fy (K:W.Frag) (aB aP aM:Addr) (H:Hp) (ρ:V->R) (us:List V):V->Bool->Prop where
 | kind {x:V} {n:String} (t:Gu K H x (.type n)) (h:W.kitOne K (.type n) (.type "tuple")=some false):Fy K aB aP aM H ρ us x false
 | nil {r:Addr} (h:H r=some (.tup [])):Fy K aB aP aM H ρ us (.ref r) false
 | odd {r:Addr} {y:V} {ys:List V} (h:H r=some (.tup (y::ys))) (o:Eo H y) (s:isStr y=false):Fy K aB aP aM H ρ us (.ref r) false
 | bad {r:Addr} {w:Str} {xs:List V} {pk:Option (List Str)} (h:H r=some (.tup (.str w::xs))) (t:T7 K aB aP H ρ us w xs pk) (a:HS ρ us) (n:¬ XC K aB ρ us w xs pk):Fy K aB aP aM H ρ us (.ref r) false
 | good {r:Addr} {w:Str} {xs:List V} {pk:Option (List Str)} {b:Bool} (h:H r=some (.tup (.str w::xs))) (t:T7 K aB aP H ρ us w xs pk) (a:HS ρ us) (n:XC K aB ρ us w xs pk) (m:SN K aM ρ us w b):Fy K aB aP aM H ρ us (.ref r) b
theorem Nu {K:W.Frag} {H H':Hp} {x:V} {T:Value} (h:Gu K H x T) (s:Ak H H'):Gu K H' x T:=by
 cases h with
 | non=>exact .non
 | bl b=>exact .bl b
 | int i=>exact .int i
 | str z=>exact .str z
 | flt z=>exact .flt z
 | lst e=>exact .lst (s _ _ e)
 | frz e=>exact .frz (s _ _ e)
 | tup e=>exact .tup (s _ _ e)
 | dK e=>exact .dK (s _ _ e)
 | dT e=>exact .dT (s _ _ e)
 | ins e a b c d f=>exact .ins (s _ _ e) a b c d f
theorem Fy.mono {K:W.Frag} {aB aP aM:Addr} {H H':Hp} {ρ:V->R} {us:List V} {x:V} {b:Bool} (s:Ak H H') (h:Fy K aB aP aM H ρ us x b):Fy K aB aP aM H' ρ us x b:=by
 cases h with
 | kind t h=>exact .kind (Nu t s) h
 | nil h=>exact .nil (s _ _ h)
 | odd h o e=>exact .odd (s _ _ h) (o.mono s) e
 | bad h t a n=>exact .bad (s _ _ h) (t.mono s) a n
 | good h t a n m=>exact .good (s _ _ h) (t.mono s) a n m
noncomputable def ZZ (K:W.Frag) (aB aP aM:Addr):Sp:=λvs H Q _=>∃ (x:V) (p:Addr) (us:List V) (ρ:V->R) (b:Bool),vs=[x,.ref p]/\H p=some (.lst us)/\Rows H ρ us/\us.length<=500/\Fy K aB aP aM H ρ us x b/\∀ H',Ak H H'->Q (.bl b) H'
noncomputable def ZM (K:W.Frag) (aM:Addr):Sp:=λvs H Q _=>∃ (p:Addr) (w:Str) (us:List V) (ρ:V->R) (b:Bool),vs=[.str w,.ref p]/\H p=some (.lst us)/\Rows H ρ us/\us.length<=500/\SN K aM ρ us w b/\∀ H',Ak H H'->Q (.bl b) H'
include N T in
theorem ak:A_ P w K mg base Bh 2 aD.fHr aD.dHr ["word","ahead"] (ZM K aM):=by
 refine N.FHr.1.ok eG (λvs H Q E h=>?_) (λb9 A outer s H vs Q E hr h=>?_)
 ·obtain⟨p,w,us,ρ,b,rfl,_⟩:=h
  rfl
 ·obtain⟨p,w,us,ρ,b,rfl,hp,hR,hl,hroom,q⟩:=h
  refine⟨_,(Ag (Ar (Y4 (M5 (Mr (pv 0) (Bc (v:=.ref aM) rfl T.mM rfl))) (By (DY Fj (Aj Ay rfl T.len aT (Aa (Ai (J1 N T) (ad hr) rfl N.FRo.2.2 N.FRo.1.kp N.FRo.2.1 .nil Az (Aa (pv 1) (Aa (pv 0) Ab))) Ab)) (Hy (Bc (v:=.ref aM) rfl T.mM rfl) (pv 0) (λ_ _=>rfl)) (BZ _)))))),?_⟩
  rcases hroom with⟨rfl,hn⟩ | ⟨m,t,hn,hm⟩
  ·refine⟨_,rfl,aM,w,_,rfl,rfl,T.dM,hn,_,rfl,De ?_⟩
   exact q H (Ak.refl H)
  refine⟨_,rfl,aM,w,_,rfl,rfl,T.dM,hn,_,rfl,Ce ?_⟩
  refine⟨_,rfl,_,rfl,p,us,w,ρ,rfl,hp,hR,hl,λD H2 hD s2 hl2=>?_⟩
  refine⟨D,_,rfl,kU (.inl hl2),_,rfl,aM,w,.int m,_,rfl,rfl,T.dM,hn,⟨t,rfl⟩,_,_,rfl,rfl,?_⟩
  show Q (.bl (decide ((((us.filter (pw ρ w)).length:Nat):Int)<m))) H2
  rw[<-hm]
  exact q H2 s2
include N T in
theorem bQ:A_ P w K mg base Bh 7 aD.fIr aD.dIr ["thing","ahead"] (ZZ K aB aP aM):=by
 refine N.FIr.1.ok iJ (λvs H Q E h=>?_) (λb9 A outer s H vs Q E hr h=>?_)
 ·obtain⟨x,p,us,ρ,b,rfl,_⟩:=h
  rfl
 ·obtain⟨x,p,us,ρ,b,rfl,hp,hR,hl,rv,q⟩:=h
  refine⟨_,(Ae (Bj (PW.pt (GQ (Cp (C_ (Aj Bs rfl T.isin ag (Aa (pv 0) (Aa (Ci (v:=.ty "tuple") rfl T.tuple gL rfl) Ab))))) (GQ (BR DQ (Aj Ay rfl T.len aT (Aa (pv 0) Ab)) Ac (BZ _)) (FW (Cp (C_ (Aj Bs rfl T.isin ag (Aa (BW (BK (K:=K) rfl) (pv 0) Ac (λ_ _=>rfl)) (Aa (Ci (v:=.ty "str") rfl T.str eD rfl) Ab))))))))) (Ag (Ar Et)) BV)
   (Ag (Ar (CQ (Ai (bA N T) (ad hr) rfl N.FWm.2.2 N.FWm.1.kp N.FWm.2.1 .nil Az (Aa (pv 0) (Aa (pv 1) Ab))) (By (Ai (ak N T) (ad hr) rfl N.FHr.2.2 N.FHr.1.kp N.FHr.2.1 .nil Az (Aa (BW (BK (K:=K) rfl) (pv 0) Ac (λ_ _=>rfl)) (Aa (pv 1) Ab)))))))),?_⟩
  have tup:∀ {r:Addr} {y:V} {ys:List V},H r=some (.tup (y::ys))->((((y::ys).length:Nat):Int) ≠ 0):=λ{r y ys} _=>by rw[aS];omega
  cases rv with
  | kind t h=>exact⟨_,rfl,_,"tuple",_,_,rfl,t,h,_,rfl,De (q H (Ak.refl H))⟩
  | @nil r h =>
   refine⟨_,rfl,_,"tuple",_,_,rfl,.tup h,PQ,_,rfl,Ce ?_⟩
   exact⟨_,rfl,r,_,rfl,.inr (.inl (.inl h)),rfl,_,rfl,Br (λ_=>q H (Ak.refl H)) (λz=>absurd (decide_eq_true rfl) z)⟩
  | @odd r y ys h od e =>
   refine⟨_,rfl,_,"tuple",_,_,rfl,.tup h,PQ,_,rfl,Ce ?_⟩
   refine⟨_,rfl,r,_,rfl,.inr (.inl (.inl h)),rfl,_,rfl,Br (λz=>absurd (V.int.inj (of_decide_eq_true z)) (tup h)) (λ_=>?_)⟩
   obtain⟨n,t1,t2⟩:=WQ K od
   rw[e] at t2
   exact⟨_,rfl,r,_,_,_,rfl,rfl,kU h,Aq (j:=0) rfl,_,"str",_,_,rfl,t1,t2,_,rfl,De (q H (Ak.refl H))⟩
  | @bad r w xs pk h t a n =>
   refine⟨_,rfl,_,"tuple",_,_,rfl,.tup h,PQ,_,rfl,Ce ?_⟩
   refine⟨_,rfl,r,_,rfl,.inr (.inl (.inl h)),rfl,_,rfl,Br (λz=>absurd (V.int.inj (of_decide_eq_true z)) (tup h)) (λ_=>?_)⟩
   refine⟨_,rfl,r,_,_,_,rfl,rfl,kU h,Aq (j:=0) rfl,_,"str",_,_,rfl,.str _,J9,_,rfl,Ce ?_⟩
   refine⟨_,rfl,_,rfl,r,p,w,xs,us,ρ,pk,rfl,h,hp,hR,hl,t,a,λb H1 s1 hb=>⟨_,rfl,Br (λe=>absurd (hb.mp e) n) (λ_=>q H1 s1)⟩⟩
  | @good r w xs pk b h t a n m =>
   refine⟨_,rfl,_,"tuple",_,_,rfl,.tup h,PQ,_,rfl,Ce ?_⟩
   refine⟨_,rfl,r,_,rfl,.inr (.inl (.inl h)),rfl,_,rfl,Br (λz=>absurd (V.int.inj (of_decide_eq_true z)) (tup h)) (λ_=>?_)⟩
   refine⟨_,rfl,r,_,_,_,rfl,rfl,kU h,Aq (j:=0) rfl,_,"str",_,_,rfl,.str _,J9,_,rfl,Ce ?_⟩
   refine⟨_,rfl,_,rfl,r,p,w,xs,us,ρ,pk,rfl,h,hp,hR,hl,t,a,λb1 H1 s1 hb=>⟨_,rfl,Br (λ_=>?_) (λe=>absurd (hb.mpr n) e)⟩⟩
   exact⟨_,rfl,r,_,_,_,rfl,rfl,kU (s1 _ _ h),Aq (j:=0) rfl,_,rfl,p,w,us,ρ,b,rfl,s1 _ _ hp,hR.mono s1,hl,m,λH2 s2=>q H2 (s1.trans s2)⟩
theorem mY:BL ["self","at"] ["self","at"] (Ah m7):=CT
include N T in
theorem Za:A_ P w K mg base Bh 1 aD.fXi aD.dXi ["self","at"] (W9 K cN "at"):=by
 refine N.FXi.1.ok mY (λvs H Q E h=>?_) (λb9 A outer s H vs Q E hr h=>?_)
 ·obtain⟨x,v,rfl,_⟩:=h
  rfl
 ·obtain⟨x,v,rfl,hx,q⟩:=h
  refine⟨_,(Ag (Vp (pv 0) (pv 1) rfl)),?_⟩
  exact⟨_,rfl,_,rfl,x,cN,rfl,hx,N.rN.xc,N.rN.set,N.rN.na,q⟩
theorem U5 {X:Cx} {f':List Stmt}:Oa X f' (λ_ _ _=>False):=λ_ _ _ _ _ _ h=>h.elim
inductive Lq (K:W.Frag) (aB aP aM:Addr) (H:Hp):V->V->Prop where
 | kind {x:V} {n:String} (t:Gu K H x (.type n)) (h:W.kitOne K (.type n) (.type "list")=some false):Lq K aB aP aM H x .non
 | long {p:Addr} {us:List V} (h:H p=some (.lst us)) (hl:us.length=0 \/ 150<us.length) (hs:us.length<=1000):Lq K aB aP aM H (.ref p) .non
 | row {p:Addr} {us:List V} {ρ:V->R} {k:Nat} (h:H p=some (.lst us)) (hl:us.length<=150) (hR:Rows H ρ (us.take k)) (ok:∀ (i:Nat) v,i<k->us[i]? = some v->Fy K aB aP aM H ρ (us.take i) v true)
  {v:V} (hv:us[k]? = some v) (bad:Fy K aB aP aM H ρ (us.take k) v false):Lq K aB aP aM H (.ref p) (.int (k:Nat))
 | none {p:Addr} {us:List V} {ρ:V->R} (h:H p=some (.lst us)) (h1:1<=us.length) (hl:us.length<=150) (hR:Rows H ρ us) (ok:∀ (i:Nat) v,us[i]? = some v->Fy K aB aP aM H ρ (us.take i) v true)
  (nb:us.filter (pw ρ "board")=[]):Lq K aB aP aM H (.ref p) .non
theorem Lq.mono {K:W.Frag} {aB aP aM:Addr} {H H':Hp} {x at_:V} (s:Ak H H') (h:Lq K aB aP aM H x at_):Lq K aB aP aM H' x at_:=by
 cases h with
 | kind t h=>exact .kind (Nu t s) h
 | long h hl hs=>exact .long (s _ _ h) hl hs
 | row h hl hR ok hv bad=>exact .row (s _ _ h) hl (hR.mono s) (λi v hi hv=>(ok i v hi hv).mono s) hv (bad.mono s)
 | none h h1 hl hR ok nb=>exact .none (s _ _ h) h1 hl (hR.mono s) (λi v hv=>(ok i v hv).mono s) nb
noncomputable def Zv (K:W.Frag) (aB aP aM cN:Addr):Sp:=λvs H Q E=>∃ (x at_:V),vs=[x]/\Lq K aB aP aM H x at_/\∀ dx H4,Ak H H4->H4 dx=some (V6 dx [("at",at_)])->E (.ref cN) (some dx) H4
include N T in
theorem bx:A_ P w K mg base (S7 P w) 8 aD.fCk aD.dCk ["rows"] (Zv K aB aP aM cN):=by
 refine N.FCk.1.oN Ut (λvs H Q E h=>?_) (λb9 A outer s H vs Q E hr h=>?_)
 ·obtain⟨x0,at_,rfl,_⟩:=h
  rfl
 ·obtain⟨x0,at_,rfl,ra,q⟩:=h
  obtain⟨zc,CS⟩:=T.mostR
  refine⟨_,(Ae (Bj (PW.pt (GQ (Cp (C_ (Aj Bs rfl T.isin ag (Aa (pv 0) (Aa (Ci (v:=.ty "list") rfl T.list ft rfl) Ab))))) (FW (Cp (Ou FJ FJ Ac (Aj Ay rfl T.len aT (Aa (pv 0) Ab)) (Bc (v:=.int 150) rfl CS ⟨zc,rfl⟩)))))) (Ag (IK N.rN.inI N.rN.init N.rN.fn N.rN.kp (Za N T) (ad hr) N.FXi.2 rfl T.mNO rfl JQ (Aa FQ Ab))) BV)
   (Ae (Fb PassesOwn.leaving rfl (KY rfl T.enumerate (Aa (pv 0) Ab)) (Kz rfl (Dy (Cr (i:=1) Ut.nd rfl (Or.inl rfl)) (Dy (Cr (i:=2) Ut.nd rfl (Or.inl rfl)) JS))) (Ag (Bj (Cp (C_ (Ai (bQ N T) (ad hr) rfl N.FIr.2.2 N.FIr.1.kp N.FIr.2.1 .nil Az (Aa (pv 2) (Aa (Cg Ey (pv 0) Dj (Cu (pv 1))) Ab))))) (Ag (IK N.rN.inI N.rN.init N.rN.fn N.rN.kp (Za N T) (ad hr) N.FXi.2 rfl T.mNO rfl JQ (Aa (pv 1) Ab))) BV)))
   (Ag (Bj (Cp (Pz (Ai (J1 N T) (ad hr) rfl N.FRo.2.2 N.FRo.1.kp N.FRo.2.1 .nil Az (Aa (pv 0) (Aa An Ab))) (λ_=>rfl))) (Ag (IK N.rN.inI N.rN.init N.rN.fn N.rN.kp (Za N T) (ad hr) N.FXi.2 rfl T.mNO rfl JQ (Aa FQ Ab))) BV)))),?_⟩
  cases ra with
  | kind t h=>exact⟨_,rfl,_,"list",_,_,rfl,t,h,_,rfl,De ⟨_,rfl,λdx H4 _ s e=>q dx H4 s e⟩⟩
  | @long p us hp hl hs =>
   have hS:Dg K H p us:=.inl (.inl hp)
   refine⟨_,rfl,_,"list",_,_,rfl,.lst hp,Pq,_,rfl,Ce ?_⟩
   refine⟨_,rfl,p,_,rfl,.inl hS,_,_,rfl,rfl,_,rfl,?_⟩
   refine Br (λh1=>?_) (λ_=>?_)
   ·refine⟨_,_,rfl,rfl,_,rfl,?_⟩
    have e150:decide ((us.length:Int)<=150)=false:=decide_eq_false (by have:=of_decide_eq_true h1;omega)
    rw[e150]
    exact De ⟨_,rfl,λdx H4 _ s e=>q dx H4 s e⟩
   ·exact⟨_,rfl,De ⟨_,rfl,λdx H4 _ s e=>q dx H4 s e⟩⟩
  | @row p us ρ k hp hl hR ok v hv bad =>
   have hS:Dg K H p us:=.inl (.inl hp)
   have hk:k<us.length:=(ai.mp hv).1
   refine⟨_,rfl,_,"list",_,_,rfl,.lst hp,Pq,_,rfl,Ce ?_⟩
   refine⟨_,rfl,p,_,rfl,.inl hS,_,_,rfl,rfl,_,rfl,?_⟩
   refine Br (λ_=>?_) (λz=>absurd (decide_eq_true (by omega)) z)
   refine⟨_,_,rfl,rfl,_,rfl,?_⟩
   have e150:decide ((us.length:Int)<=150)=true:=decide_eq_true (by omega)
   rw[e150]
   refine Ce ?_
   refine⟨_,rfl,p,rfl,⟨_,hS⟩,Hb (K:=K) (a:=p) (xs:=us) (λi σ H4=>Ak H H4/\i<=k/\∃ v1 v2,σ=[some (.ref p),v1,v2]) ⟨Ak.refl H,dc _,_,_,rfl⟩ (λi σ H4 _ h=>h.1.seq hS) ?_ ?_⟩
   ·rintro i x σ H4 T0 hx ⟨s4,SG,v1,v2,rfl⟩ hT
    have s5:=Aw (o:=HO.tup [.int (i:Int),x]) hT
    refine⟨T0,_,rfl,kU Af,rfl,_,_,rfl,_,_,rfl,rfl,?_⟩
    generalize upd H4 T0 (HO.tup [.int (i:Int),x])=H5 at s5 |-
    have sj:=s4.trans s5
    have hi:i<us.length:=(ai.mp hx).1
    refine⟨_,rfl,_,rfl,_,rfl,_,rfl,p,_,rfl,sj.seq hS,λp6 vF=>?_⟩
    have s6:=Aw (o:=HO.lst (Cm us none (some (i:Int)))) vF
    have a6:upd H5 p6 (HO.lst (Cm us none (some (i:Int)))) p6=_:=Af
    generalize upd H5 p6 (HO.lst (Cm us none (some (i:Int))))=H6 at s6 a6 |-
    rw[Lb us i (by omega)] at a6
    have qo:=sj.trans s6
    have hRi:Rows H6 ρ (us.take i):=(hR.mono qo).sub λv hv=>by
     rw[show us.take i=(us.take k).take i by rw[List.take_take,Nat.min_eq_left (by omega)]] at hv
     exact fq hv
    by_cases e:i=k
    ·subst e
     rw[hx] at hv
     cases hv
     refine⟨_,p6,us.take i,ρ,false,rfl,a6,hRi,by rw[cE];omega,bad.mono qo,λH7 s7=>⟨_,rfl,De ?_⟩⟩
     exact⟨_,rfl,_,rfl,λdx H8 _ s8 e8=>q dx H8 ((qo.trans s7).trans s8) e8⟩
    ·refine⟨x,p6,us.take i,ρ,true,rfl,a6,hRi,by rw[cE];omega,(ok i _ (by omega) hx).mono qo,λH7 s7=>⟨_,rfl,Ce ?_⟩⟩
     exact⟨qo.trans s7,by omega,_,_,rfl⟩
   ·rintro σ H4 ⟨s4,SG,v1,v2,rfl⟩
    omega
  | @none p us ρ hp h1 hl hR ok nb =>
   have hS:Dg K H p us:=.inl (.inl hp)
   refine⟨_,rfl,_,"list",_,_,rfl,.lst hp,Pq,_,rfl,Ce ?_⟩
   refine⟨_,rfl,p,_,rfl,.inl hS,_,_,rfl,rfl,_,rfl,?_⟩
   refine Br (λ_=>?_) (λz=>absurd (decide_eq_true (by omega)) z)
   refine⟨_,_,rfl,rfl,_,rfl,?_⟩
   have e150:decide ((us.length:Int)<=150)=true:=decide_eq_true (by omega)
   rw[e150]
   refine Ce ?_
   refine⟨_,rfl,p,rfl,⟨_,hS⟩,Hb (K:=K) (a:=p) (xs:=us) (λi σ H4=>Ak H H4/\∃ v1 v2,σ=[some (.ref p),v1,v2]) ⟨Ak.refl H,_,_,rfl⟩ (λi σ H4 _ h=>h.1.seq hS) ?_ ?_⟩
   ·rintro i x σ H4 T0 hx ⟨s4,v1,v2,rfl⟩ hT
    have s5:=Aw (o:=HO.tup [.int (i:Int),x]) hT
    refine⟨T0,_,rfl,kU Af,rfl,_,_,rfl,_,_,rfl,rfl,?_⟩
    generalize upd H4 T0 (HO.tup [.int (i:Int),x])=H5 at s5 |-
    have sj:=s4.trans s5
    have hi:i<us.length:=(ai.mp hx).1
    refine⟨_,rfl,_,rfl,_,rfl,_,rfl,p,_,rfl,sj.seq hS,λp6 vF=>?_⟩
    have s6:=Aw (o:=HO.lst (Cm us none (some (i:Int)))) vF
    have a6:upd H5 p6 (HO.lst (Cm us none (some (i:Int)))) p6=_:=Af
    generalize upd H5 p6 (HO.lst (Cm us none (some (i:Int))))=H6 at s6 a6 |-
    rw[Lb us i (by omega)] at a6
    have qo:=sj.trans s6
    refine⟨x,p6,us.take i,ρ,true,rfl,a6,(hR.mono qo).sub λv hv=>fq hv,by rw[cE];omega,(ok i _ hx).mono qo,λH7 s7=>⟨_,rfl,Ce ?_⟩⟩
    exact⟨qo.trans s7,_,_,rfl⟩
   ·rintro σ H4 ⟨s4,v1,v2,rfl⟩
    refine⟨_,rfl,p,us,"board",ρ,rfl,s4 _ _ hp,hR.mono s4,by omega,λD H5 hD s5 xu=>?_⟩
    rw[nb] at xu
    refine⟨_,.inl ⟨_,kU xu,rfl⟩,?_⟩
    exact De ⟨_,rfl,λdx H6 _ s6 e6=>q dx H6 ((s4.trans s5).trans s6) e6⟩
noncomputable def Zh (K:W.Frag) (aB aP aM cN:Addr):Sp:=λvs H Q E=>∃ (x:Addr) (y at_:V),vs=[.ref x,y]/\Lq K aB aP aM H y at_/\∀ dx H4,Ak H H4->H4 dx=some (V6 dx [("at",at_)])->E (.ref cN) (some dx) H4
theorem i_:BL ["self","rows"] ["self","rows"] (Ah Ve):=CT
include N T in
theorem aL:A_ P w K mg base (S7 P w) 9 aD.fOi aD.dOi ["self","rows"] (Zh K aB aP aM cN):=by
 have GCkR:A_ P w K mg base (S7 P w) 8 aD.fCk aD.dCk ["rows"] (Zv K aB aP aM cN):=bx N T
 refine N.FOi.1.oN i_ (λvs H Q E h=>?_) (λb9 A outer s H vs Q E hr h=>?_)
 ·obtain⟨x,y,at_,rfl,_⟩:=h
  rfl
 ·obtain⟨x,y,at_,rfl,ra,q⟩:=h
  refine⟨_,(Ae (Cv (Ai GCkR (ad hr) rfl N.FCk.2.2 N.FCk.1.kp N.FCk.2.1 .nil TX (Aa (pv 1) Ab))) U5),?_⟩
  exact⟨_,rfl,y,at_,rfl,ra,q⟩
end
set_option maxHeartbeats 4000000
section
variable {K:W.Frag} {aB aP aM:Addr} {ρ:V->R} {us:List V} {H:Hp}
theorem PP:∀ {ps qs:List Str} {l:List Value},Vals (ps.map V.str) l->Vals (qs.map V.str) l->ps=qs
 | [],[],_,_,_=>rfl
 | [],q::qs,l,h,g=>by cases h;cases g
 | p::ps,[],l,h,g=>by cases g;cases h
 | p::ps,q::qs,l,h,g=>by
  cases h with
  | cons a b =>
   cases g with
   | cons c d =>
    obtain⟨t,e1⟩:=a
    obtain⟨t',e2⟩:=c
    rw[e1] at e2
    cases e2
    rw[PP b d]
theorem KTup.nD {a:Addr} {ps qs:List Str} (h:KTup K a (ps.map V.str)) (g:KTup K a (qs.map V.str)):ps=qs:=by
 obtain⟨o1,i1,n1,a1,a2,a3,a4,a5⟩:=h
 obtain⟨o2,i2,n2,b1,b2,b3,b4,b5⟩:=g
 rw[a1] at b1
 cases b1
 rw[a3] at b3
 cases b3
 exact PP a5 b5
theorem Vg {x:V} {y:Str} (h:EY K aB ρ us x y):Gj K aB ρ us x y true:=by
 rcases h with⟨i,lo,hi,b,rfl,h1,h2,h3,h4⟩ | ⟨h1,h2,t,rfl,h3,h4⟩ | ⟨h1,h2,t,rfl,h3,h4⟩
 ·exact .inl ⟨lo,hi,b,h1,h2,by show true=(decide (lo<=i) && decide (i<=hi));rw[decide_eq_true h3,decide_eq_true h4];rfl⟩
 ·refine .inr (.inl ⟨h1,h2,⟨λ_=>⟨⟨t,rfl,h3⟩,λw hw ⟨t',e,_,g⟩=>?_⟩,λ_=>rfl⟩⟩)
  cases e
  rw[h4 w hw] at g
  cases g
 ·exact .inr (.inr ⟨h1,h2,⟨λ_=>⟨t,rfl,h3,h4⟩,λ_=>rfl⟩⟩)
theorem Ow {x0:V} {y:Str} (h:EY K aB ρ us x0 y) (x:V):∃ b,Gj K aB ρ us x y b:=by
 rcases h with⟨i,lo,hi,b,rfl,h1,h2,h3,h4⟩ | ⟨h1,h2,t,rfl,h3,h4⟩ | ⟨h1,h2,t,rfl,h3,h4⟩
 ·exact⟨_,.inl ⟨lo,hi,b,h1,h2,rfl⟩⟩
 ·by_cases e:Z2 x/\∀ w∈named,¬ Lg ρ us w x
  ·exact⟨true,.inr (.inl ⟨h1,h2,⟨λ_=>e,λ_=>rfl⟩⟩)⟩
  ·exact⟨false,.inr (.inl ⟨h1,h2,⟨λz=>(nomatch z),λz=>absurd z e⟩⟩)⟩
 ·by_cases e:Lg ρ us y x
  ·exact⟨true,.inr (.inr ⟨h1,h2,⟨λ_=>e,λ_=>rfl⟩⟩)⟩
  ·exact⟨false,.inr (.inr ⟨h1,h2,⟨λz=>(nomatch z),λz=>absurd z e⟩⟩)⟩
theorem Vl {x:V} {y:Str} (h:EY K aB ρ us x y):Eo H x:=by
 rcases h with⟨i,lo,hi,b,rfl,_⟩ | ⟨_,_,t,rfl,h3,_⟩ | ⟨_,_,t,rfl,h3,_⟩
 ·exact .int i
 ·exact .str h3.tx
 ·exact .str h3.tx
theorem X7 {r:R} {v:V} (h:Ea K aB aP aM ρ us r) (ht:TupAt H r.v v) (ah:HS ρ us):Fy K aB aP aM H ρ us v true:=by
 obtain⟨T,rfl,hT⟩:=ht
 have room:=Ea.room h
 have rB:SN K aM ρ us r.w true:=by
  rcases room with z | ⟨m,t,z,hm⟩
  ·exact .inl ⟨rfl,z⟩
  ·exact .inr ⟨m,t,z,(decide_eq_true hm).symm⟩
 rcases h with ok | ok
 ·obtain⟨ap,ps,hn,nh,hlen,oI,hok⟩:=ok.parts
  have ix:∀ y∈ps,∃ x,EY K aB ρ us x y:=λy hy=>by
   obtain⟨i,hi,rfl⟩:=dA hy
   exact⟨(V.str r.nm::r.rest)[i]'(by omega),hok i _ _ (af _) (af hi)⟩
  have iy:∀ x∈V.str r.nm::r.rest,Eo H x:=λx hx=>by
   obtain⟨i,hi,rfl⟩:=dA hx
   exact Vl (hok i _ (ps[i]'(by omega)) (af hi) (af _))
  refine .good (pk:=some ps) hT ⟨by omega,iy,λxo e x hx y hy=>?_,λhw _ _ _=>?_,λ_=>.inr ⟨ap,ps,rfl,hn,nh,oI⟩⟩ ah (.inr ⟨ok.ns,ps,rfl,⟨hlen,λi x y hx hy=>Vg (hok i x y hx hy)⟩,λhw=>?_⟩) rB
  ·cases e
   obtain⟨x0,h0⟩:=ix y hy
   exact Ow h0 x
  ·obtain⟨cnt,v,sh,lo,hi,bd,rs,er,hc,_⟩:=(ok.line hw).ex
   exact⟨_,sh,lo,hi,cnt,by rw[er],hc⟩
  ·obtain⟨cnt,v,sh,lo,hi,bd,rs,er,hc,h4,hv,A2,hr,hle,hk⟩:=(ok.line hw).ex
   exact⟨_,sh,lo,hi,by rw[er],cnt,v,bd,rs,hc,h4,hv,A2,hr,hle,hk⟩
 ·obtain⟨ts,lj,nd,rj,ml⟩:=ok.ts
  refine .good (pk:=none) hT ⟨by rw[lj,ae];omega,λx hx=>?_,(λ_ e=>nomatch e),(λhw=>?_),λhn=>absurd ok.w hn⟩ ah (.inl ⟨ok.w,?_,ts,lj,nd,ml⟩) rB
  ·rw[lj] at hx
   obtain⟨t,ht,rfl⟩:=ay.mp hx
   exact .str (ml t ht).1.tx
  ·rw[ok.w] at hw
   exact absurd hw (by decide +kernel)
  ·exact fg _ _
theorem XJ (F:Sx K aB aP aM) (hb:Df ρ us) (ok:∀ (i:Nat) v,us[i]? = some v->Ea K aB aP aM ρ (us.take i) (ρ v)):HS ρ us:=by
 refine⟨λv hv hw=>?_,hb⟩
 obtain⟨i,hi⟩:=List.getElem?_of_mem hv
 rcases ok i v hi with h | h
 ·obtain⟨ap,ps,hn,nh,hlen,oI,hok⟩:=h.parts
  obtain⟨a2,g1,g2⟩:=F.f.pS
  rw[hw,g1] at hn
  cases hn
  have g3:KTup K ap ((["new","board"]:List Str).map V.str):=g2
  have eps:ps=(["new","board"]:List Str):=KTup.nD nh g3
  subst eps
  have hl:(ρ v).rest.length=1:=by
   rw[aS] at hlen
   have:(["new","board"]:List Str).length=2:=rfl
   omega
  obtain⟨x,hx⟩:∃ x,(ρ v).rest=[x]:=List.length_eq_one_iff.mp hl
  have hp:=hok 1 x "board" (by rw[hx];rfl) rfl
  rcases hp with⟨_,_,_,b,_,g,_⟩ | ⟨_,e,_⟩ | ⟨_,_,t,rfl,_⟩
  ·rw[F.f.bB] at g
   cases g
  ·exact absurd e (by decide +kernel)
  ·exact⟨t,[],hx⟩
 ·rw[h.w] at hw
  exact absurd hw (by decide +kernel)
theorem HS.take {n:Nat} (h:HS ρ us):HS ρ (us.take n):=⟨λv hv=>h.st v (fq hv),λv hv=>h.bd v (fq hv)⟩
end
section
variable {P:Program} {w:World} {K:W.Frag} {mg:Str->Option Value} {base:Heap} {C cN cO c0 c1 c2 c3 c4 c5 c6 c7 c8 c9 lP kX ll ma aN aK aB aP aM:Addr} {aD:Ad}
variable (N:qW K mg C cN cO c0 c1 c2 c3 c4 c5 c6 c7 c8 c9 lP kX ll ma aD) (T:Txt K w.params mg C cN cO c0 c1 c2 c3 c4 c5 c6 c7 c8 c9 lP kX ll ma aN aK aB aP aM)
noncomputable abbrev Vx:List V:=[.bl true,.bl true]++List.replicate 14 (.bl false)
noncomputable def gq (cN:Addr):Sp:=λvs H Q _=>∃ (ex:Addr) (fs:List (Str × V)),vs=[.ref ex]/\Hi H ex cN fs/\∀ D H',Ak H H'->H' D=some (.lst Vx)->Q (.ref D) H'
theorem W_:BL ["_law_e","_law_some"] ["_law_e"] (Ah pQ):=CT
include N T in
theorem gP:O_ P w K mg base Bh 1 aD.fKi aD.dKi ["_law_e"] (gq cN):=by
 refine N.FKi.1.tR W_ (λvs H Q E h=>?_) (λb9 A outer s H vs Q E hr h=>?_)
 ·obtain⟨ex,fs,rfl,_⟩:=h
  rfl
 ·obtain⟨ex,fs,rfl,ie,q⟩:=h
  refine⟨_,(@Ae _ _ _ _ _ (@Ck _ _ _ _ _ _ 1 W_.nd rfl (Or.inl rfl) (@Bo _ _ _ _ (@BX _ _ _ _ _ rfl (Aj (Bk (K:=K) rfl) rfl T.isin ag (@BX _ _ _ _ _ rfl (pv 0) (@BX _ _ _ _ _ rfl (Bc (v:=.ref cN) rfl T.mNO rfl) Ab))) (@BX _ _ _ _ _ rfl (Aj (Bk (K:=K) rfl) rfl T.isin ag (@BX _ _ _ _ _ rfl (pv 0) (@BX _ _ _ _ _ rfl (Ci (v:=.ty "ValueError") rfl T.verr PyProof.Rows.Boot.«ValueError» rfl) Ab))) (@BX _ _ _ _ _ rfl (Aj (Bk (K:=K) rfl) rfl T.isin ag (@BX _ _ _ _ _ rfl (pv 0) (@BX _ _ _ _ _ rfl (Bc (v:=.ref c0) rfl T.mx0 rfl) Ab))) (@BX _ _ _ _ _ rfl (Aj (Bk (K:=K) rfl) rfl T.isin ag (@BX _ _ _ _ _ rfl (pv 0) (@BX _ _ _ _ _ rfl (Bc (v:=.ref c1) rfl T.mx1 rfl) Ab))) Ab))))) rfl (Or.inl rfl)) (@Ae _ _ _ _ _ (@Ck _ _ _ _ _ _ 1 W_.nd rfl (Or.inl rfl) (BJ Ef (pv 1) (@Bo _ _ _ _ (@BX _ _ _ _ _ rfl (Aj (Bk (K:=K) rfl) rfl T.isin ag (@BX _ _ _ _ _ rfl (pv 0) (@BX _ _ _ _ _ rfl (Bc (v:=.ref c2) rfl T.mx2 rfl) Ab))) (@BX _ _ _ _ _ rfl (Aj (Bk (K:=K) rfl) rfl T.isin ag (@BX _ _ _ _ _ rfl (pv 0) (@BX _ _ _ _ _ rfl (Bc (v:=.ref c3) rfl T.mx3 rfl) Ab))) (@BX _ _ _ _ _ rfl (Aj (Bk (K:=K) rfl) rfl T.isin ag (@BX _ _ _ _ _ rfl (pv 0) (@BX _ _ _ _ _ rfl (Bc (v:=.ref c4) rfl T.mx4 rfl) Ab))) (@BX _ _ _ _ _ rfl (Aj (Bk (K:=K) rfl) rfl T.isin ag (@BX _ _ _ _ _ rfl (pv 0) (@BX _ _ _ _ _ rfl (Bc (v:=.ref c5) rfl T.mx5 rfl) Ab))) Ab)))))) rfl (Or.inl rfl)) (@Ae _ _ _ _ _ (@Ck _ _ _ _ _ _ 1 W_.nd rfl (Or.inl rfl) (BJ Ef (pv 1) (@Bo _ _ _ _ (@BX _ _ _ _ _ rfl (Aj (Bk (K:=K) rfl) rfl T.isin ag (@BX _ _ _ _ _ rfl (pv 0) (@BX _ _ _ _ _ rfl (Bc (v:=.ref c6) rfl T.mx6 rfl) Ab))) (@BX _ _ _ _ _ rfl (Aj (Bk (K:=K) rfl) rfl T.isin ag (@BX _ _ _ _ _ rfl (pv 0) (@BX _ _ _ _ _ rfl (Bc (v:=.ref c7) rfl T.mx7 rfl) Ab))) (@BX _ _ _ _ _ rfl (Aj (Bk (K:=K) rfl) rfl T.isin ag (@BX _ _ _ _ _ rfl (pv 0) (@BX _ _ _ _ _ rfl (Bc (v:=.ref c8) rfl T.mx8 rfl) Ab))) (@BX _ _ _ _ _ rfl (Aj (Bk (K:=K) rfl) rfl T.isin ag (@BX _ _ _ _ _ rfl (pv 0) (@BX _ _ _ _ _ rfl (Bc (v:=.ref c9) rfl T.mx9 rfl) Ab))) Ab)))))) rfl (Or.inl rfl)) (@Ae _ _ _ _ _ (@Ck _ _ _ _ _ _ 1 W_.nd rfl (Or.inl rfl) (BJ Ef (pv 1) (@Bo _ _ _ _ (@BX _ _ _ _ _ rfl (Aj (Bk (K:=K) rfl) rfl T.isin ag (@BX _ _ _ _ _ rfl (pv 0) (@BX _ _ _ _ _ rfl (Bc (v:=.ref lP) rfl T.mx10 rfl) Ab))) (@BX _ _ _ _ _ rfl (Aj (Bk (K:=K) rfl) rfl T.isin ag (@BX _ _ _ _ _ rfl (pv 0) (@BX _ _ _ _ _ rfl (Bc (v:=.ref kX) rfl T.mx11 rfl) Ab))) (@BX _ _ _ _ _ rfl (Aj (Bk (K:=K) rfl) rfl T.isin ag (@BX _ _ _ _ _ rfl (pv 0) (@BX _ _ _ _ _ rfl (Bc (v:=.ref ll) rfl T.mx12 rfl) Ab))) (@BX _ _ _ _ _ rfl (Aj (Bk (K:=K) rfl) rfl T.isin ag (@BX _ _ _ _ _ rfl (pv 0) (@BX _ _ _ _ _ rfl (Bc (v:=.ref ma) rfl T.mx13 rfl) Ab))) Ab)))))) rfl (Or.inl rfl)) (@Ag _ _ _ (@Ar _ _ _ _ (pv 1))))))),?_⟩
  refine⟨_,rfl,ex,cN,_,_,_,_,rfl,ie,N.rN.xc,rfl,N.rN.k0,_,rfl,ex,cN,_,_,_,_,rfl,ie,N.rN.xc,rfl,N.rN.kv,_,rfl,ex,cN,_,_,_,_,rfl,ie,N.rN.xc,rfl,N.rN.kf c0 (by simp),_,rfl,ex,cN,_,_,_,_,rfl,ie,N.rN.xc,rfl,N.rN.kf c1 (by simp),by show 4<=sizeLine;decide,λT1 hT1=>?_⟩
  generalize eH:upd H T1 _=H1
  have s1:Ak H H1:=by rw[<-eH];exact Aw hT1
  have t1:H1 T1=some (.lst ([.bl true,.bl true]++List.replicate 2 (.bl false))):=by rw[<-eH];exact Af
  clear eH
  have yT:=ie.same s1
  refine⟨_,rfl,_,rfl,ex,cN,_,_,_,_,rfl,yT,N.rN.xc,rfl,N.rN.kf c2 (by simp),_,rfl,ex,cN,_,_,_,_,rfl,yT,N.rN.xc,rfl,N.rN.kf c3 (by simp),_,rfl,ex,cN,_,_,_,_,rfl,yT,N.rN.xc,rfl,N.rN.kf c4 (by simp),_,rfl,ex,cN,_,_,_,_,rfl,yT,N.rN.xc,rfl,N.rN.kf c5 (by simp),by show 4<=sizeLine;decide,λJA B9=>?_⟩
  generalize eH:upd H1 JA _=H2x
  have s2x:Ak H1 H2x:=by rw[<-eH];exact Aw B9
  have t2x:H2x JA=some (.lst (List.replicate 4 (.bl false))):=by rw[<-eH];exact Af
  clear eH
  refine⟨_,_,_,_,rfl,rfl,s2x _ _ t1,t2x,Bx (by decide),λT2 rL=>?_⟩
  generalize eH:upd H2x T2 _=H2
  have s2:Ak H1 H2:=by rw[<-eH];exact s2x.trans (Aw rL)
  have t2:H2 T2=some (.lst ([.bl true,.bl true]++List.replicate 6 (.bl false))):=by rw[<-eH];exact Af
  clear eH
  have yu:=yT.same s2
  refine⟨_,rfl,_,rfl,ex,cN,_,_,_,_,rfl,yu,N.rN.xc,rfl,N.rN.kf c6 (by simp),_,rfl,ex,cN,_,_,_,_,rfl,yu,N.rN.xc,rfl,N.rN.kf c7 (by simp),_,rfl,ex,cN,_,_,_,_,rfl,yu,N.rN.xc,rfl,N.rN.kf c8 (by simp),_,rfl,ex,cN,_,_,_,_,rfl,yu,N.rN.xc,rfl,N.rN.kf c9 (by simp),by show 4<=sizeLine;decide,λGT DD=>?_⟩
  generalize eH:upd H2 GT _=H3x
  have s3x:Ak H2 H3x:=by rw[<-eH];exact Aw DD
  have t3x:H3x GT=some (.lst (List.replicate 4 (.bl false))):=by rw[<-eH];exact Af
  clear eH
  refine⟨_,_,_,_,rfl,rfl,s3x _ _ t2,t3x,Bx (by decide),λT3 hT3=>?_⟩
  generalize eH:upd H3x T3 _=H3
  have s3:Ak H2 H3:=by rw[<-eH];exact s3x.trans (Aw hT3)
  have t3:H3 T3=some (.lst ([.bl true,.bl true]++List.replicate 10 (.bl false))):=by rw[<-eH];exact Af
  clear eH
  have yq:=yu.same s3
  refine⟨_,rfl,_,rfl,ex,cN,_,_,_,_,rfl,yq,N.rN.xc,rfl,N.rN.kf lP (by simp),_,rfl,ex,cN,_,_,_,_,rfl,yq,N.rN.xc,rfl,N.rN.kf kX (by simp),_,rfl,ex,cN,_,_,_,_,rfl,yq,N.rN.xc,rfl,N.rN.kf ll (by simp),_,rfl,ex,cN,_,_,_,_,rfl,yq,N.rN.xc,rfl,N.rN.kf ma (by simp),by show 4<=sizeLine;decide,λJY BD=>?_⟩
  generalize eH:upd H3 JY _=H4x
  have s4x:Ak H3 H4x:=by rw[<-eH];exact Aw BD
  have t4x:H4x JY=some (.lst (List.replicate 4 (.bl false))):=by rw[<-eH];exact Af
  clear eH
  refine⟨_,_,_,_,rfl,rfl,s4x _ _ t3,t4x,Bx (by decide),λT4 VX=>?_⟩
  generalize eH:upd H4x T4 _=H4
  have s4:Ak H3 H4:=by rw[<-eH];exact s4x.trans (Aw VX)
  have t4:H4 T4=some (.lst ([.bl true,.bl true]++List.replicate 14 (.bl false))):=by rw[<-eH];exact Af
  clear eH
  have Yf:=yq.same s4
  exact⟨_,rfl,q T4 H4 (s1.trans (s2.trans (s3.trans s4))) t4⟩
noncomputable def gQ (K:W.Frag):Sp:=λvs H Q _=>∃ (a:Addr) (k:Nat) (ns:List Int),vs=[.ref a,.int (k:Nat)]/\Dg K H a (ns.map V.int)/\∀ i:Int,Q (.int i) H
theorem nF:BL ["_law_script","_law_k"] ["_law_script","_law_k"] (Ah oH):=CT
include N T in
theorem je:A_ P w K mg base Bh 1 aD.fCe aD.dCe ["_law_script","_law_k"] (gQ K):=by
 refine N.FCe.1.ok nF (λvs H Q E h=>?_) (λb9 A outer s H vs Q E hr h=>?_)
 ·obtain⟨a,k,ns,rfl,_⟩:=h
  rfl
 ·obtain⟨a,k,ns,rfl,hS,q⟩:=h
  refine⟨_,(Ae (Bj (BR Fj (pv 1) (Aj Ay rfl T.len aT (Aa (pv 0) Ab)) (BZ _)) (Ag (Ar (BW Cj (pv 0) (pv 1) (λ_ _=>rfl)))) BV)
   (Ag (Ar Ac))),?_⟩
  refine⟨_,rfl,_,rfl,a,_,rfl,.inl hS,_,_,rfl,rfl,_,rfl,?_⟩
  refine Br (λh1=>?_) (λ_=>q 0)
  have hlt:k<ns.length:=by have:=of_decide_eq_true h1;rw[ae] at this;omega
  exact⟨_,rfl,_,rfl,a,_,_,.int ns[k],rfl,rfl,hS,Aq (by rw[br,af hlt];rfl),q _⟩
theorem qC:BL ["_law_found"] ["_law_found"] (Ah mU):=CT
include N T in
theorem d8:A_ P w K mg base Bh 1 aD.fLw aD.dLw ["_law_found"] Vj:=by
 refine N.FLw.1.ok qC (λvs H Q E h=>?_) (λb9 A outer s H vs Q E hr h=>?_)
 ·obtain⟨i,rfl,_⟩:=h
  rfl
 ·obtain⟨i,rfl,q⟩:=h
  refine⟨_,(Ag (Ar (CQ (Aj Bs rfl T.isin ag (Aa (pv 0) (Aa (Ci (v:=.ty "int") rfl T.int hW rfl) Ab))) (By (Jx (Aj Bs rfl T.isin ag (Aa (pv 0) (Aa (Ci (v:=.ty "bool") rfl T.bool iL rfl) Ab)))))))),?_⟩
  refine⟨_,rfl,_,"int",_,_,rfl,.int i,ty_int,_,rfl,De ?_⟩
  exact⟨_,rfl,_,"bool",_,_,rfl,.int i,Zb,_,rfl,q⟩
noncomputable def M7:Sp:=λvs H Q _=>∃ (c b m:Int),vs=[.int c,.int b,.int m]/\0<m/\0<=b/\b<1000003/\∀ z:Int,0<=z->z<m->Q (.int z) H
theorem Ul:BL ["_law_cell","_law_by","_law_many_here","_law_digits","_law_turn","_law_one","_law_two"] ["_law_cell","_law_by","_law_many_here"] (Ah pI):=CT
include N T in
theorem J7:A_ P w K mg base Bh 1 aD.fMi aD.dMi ["_law_cell","_law_by","_law_many_here"] M7:=by
 refine N.FMi.1.ok Ul (λvs H Q E h=>?_) (λb9 A outer s H vs Q E hr h=>?_)
 ·obtain⟨c,b,m,rfl,_⟩:=h
  rfl
 ·obtain⟨c,b,m,rfl,hm,Y1,hb1,q⟩:=h
  refine⟨_,(Ae (Bj (BR R8 (pv 0) (BJ Q4 Ac Ac) (BZ _)) (Ae (Bf (i:=3) Ul.nd rfl (Or.inl rfl) (BJ Ej (pv 0) Ac))
   (Ae (Fb PassesOwn.never rfl (Gg rfl T.range (Aa (BJ DX (BJ Dc (pv 1) (BJ DX (pv 0) Ac)) Ac) Ab)) (Cr (i:=4) Ul.nd rfl (Or.inl rfl)) (Ag (Bf (i:=3) Ul.nd rfl (Or.inl rfl) (BJ Ej (pv 3) Ac))))
   (Ag (Ar (BJ DX (BJ DX (pv 3) Ac) (pv 2)))))) BV)
   (Ae (Bf (i:=5) Ul.nd rfl (Or.inl rfl) (BJ DX (BJ Hk (BJ Dc (BJ DX (pv 0) Ac) (pv 1)) Ac) Ac))
   (Ae (Bf (i:=6) Ul.nd rfl (Or.inl rfl) (BJ DX (BJ Dc (BJ Hk (pv 5) (pv 5)) (pv 1)) Ac))
   (Ag (Ar (BJ DX (BJ Ej (BJ Dc (BJ Hk (pv 6) Ac) (BJ DX (BJ Hk (pv 6) (pv 5)) Ac)) Ac) (pv 2))))))),?_⟩
  refine⟨_,rfl,_,_,rfl,rfl,⟨by decide,by decide,by decide⟩,_,_,rfl,rfl,_,rfl,?_⟩
  refine Br (λh1=>?_) (λh1=>?_)
  ·refine⟨_,rfl,_,_,rfl,rfl,⟨by decide,by decide⟩,?_⟩
   have e29:0<=(b+c % 10080) % 71/\(b+c % 10080) % 71<71:=⟨fA _ (by decide),fe _ (by decide)⟩
   refine⟨_,rfl,_,rfl,_,_,rfl,rfl,(by show (0:Int)<10080;decide),_,_,rfl,rfl,_,_,rfl,rfl,(by show (0:Int)<71;decide),_,rfl,by show -(2 ^ 62)<=(b+c % 10080) % 71;omega,by show (b+c % 10080) % 71<2 ^ 62;omega,Jl (lo:=0) (n:=((b+c % 10080) % 71).toNat) (λi σ H4=>H4=H/\∃ (z:Int) (v4:Option V),σ=[some (.int c),some (.int b),some (.int m),some (.int z),v4,none,none]) ⟨rfl,_,_,rfl⟩ ?_ ?_⟩
   ·rintro i σ H4 hi ⟨rfl,z,v4,rfl⟩
    exact⟨_,rfl,_,_,rfl,rfl,⟨by decide,by decide⟩,rfl,_,_,rfl⟩
   ·rintro σ H4 ⟨rfl,z,v4,rfl⟩
    exact⟨_,rfl,_,_,rfl,rfl,(by show (0:Int)<1000003;decide),_,rfl,_,_,rfl,rfl,hm,q _ (Int.emod_nonneg _ (by omega)) (Int.emod_lt_of_pos _ hm)⟩
  ·have c0:0<=c % 1000003/\c % 1000003<1000003:=⟨fA _ (by decide),fe _ (by decide)⟩
   refine⟨_,rfl,_,_,rfl,rfl,(by show (0:Int)<1000003;decide),_,rfl,_,_,rfl,rfl,_,_,rfl,rfl,.inr ⟨by decide,by decide⟩,_,_,rfl,rfl,(by show (0:Int)<2147483647;decide),?_⟩
   have o0:0<=(c % 1000003+b) * 48271 % 2147483647/\(c % 1000003+b) * 48271 % 2147483647<2147483647:=⟨fA _ (by decide),fe _ (by decide)⟩
   show Dw 5 (V.int ((c % 1000003+b) * 48271 % 2147483647)) _ _ _
   generalize (c % 1000003+b) * 48271 % 2147483647=one at o0
   refine⟨_,rfl,_,rfl,_,_,rfl,rfl,.inl ⟨by omega,by omega⟩,_,rfl,_,_,rfl,rfl,_,_,rfl,rfl,(by show (0:Int)<2147483629;decide),?_⟩
   have t0:0<=(one * one+b) % 2147483629/\(one * one+b) % 2147483629<2147483629:=⟨fA _ (by decide),fe _ (by decide)⟩
   show Dw 6 (V.int ((one * one+b) % 2147483629)) _ _ _
   generalize (one * one+b) % 2147483629=two at t0
   exact⟨_,rfl,_,_,rfl,rfl,.inl ⟨by omega,by omega⟩,_,rfl,_,rfl,_,_,rfl,rfl,.inl ⟨by omega,by omega⟩,_,_,rfl,rfl,(by show (0:Int)<2147483587;decide),_,_,rfl,rfl,_,_,rfl,rfl,⟨by decide,by decide⟩,_,rfl,_,_,rfl,rfl,hm,q _ (Int.emod_nonneg _ (by omega)) (Int.emod_lt_of_pos _ hm)⟩
noncomputable def iK:Sp:=λvs H Q _=>∃ (b:Str) (k:Nat),vs=[.str b,.int (k:Nat)]/\b.length<=6/\k<1000/\Q (.str (Ec b k)) H
theorem Xo:BL ["_law_base_here","_law_k","_law_letters","_law_name_here"] ["_law_base_here","_law_k"] (Ah nA):=CT
include N T in
theorem iu:A_ P w K mg base Bh 1 aD.fNn aD.dNn ["_law_base_here","_law_k"] iK:=by
 refine N.FNn.1.ok Xo (λvs H Q E h=>?_) (λb9 A outer s H vs Q E hr h=>?_)
 ·obtain⟨b,k,rfl,_⟩:=h
  rfl
 ·obtain⟨b,k,rfl,hb,hk,q⟩:=h
  refine⟨_,(Ae (Bf (i:=2) Xo.nd rfl (Or.inl rfl) An)
   (Ae (Bf (i:=3) Xo.nd rfl (Or.inl rfl) (BJ CZ (pv 0) (BW Qo (pv 2) (BJ DX (pv 1) Ac) (λ_ _=>rfl))))
   (Ae (Bj (BR R8 (pv 1) Ac (BZ _)) (Ag (Bf (i:=3) Xo.nd rfl (Or.inl rfl) (BJ CZ (pv 3) (BW Qo (pv 2) (BJ DX (BJ Hk (BJ Ej (pv 1) Ac) Ac) Ac) (λ_ _=>rfl))))) BV)
   (Ag (Ar (pv 3)))))),?_⟩
  have m0:0<=(k:Int) % 26:=fA _ (by decide)
  have m1:(k:Int) % 26<26:=fe _ (by decide)
  have n0:0<=(k:Int) / 26 * 5 % 26:=fA _ (by decide)
  have n1:(k:Int) / 26 * 5 % 26<26:=fe _ (by decide)
  have em:(((k:Int) % 26).toNat)=k % 26:=by omega
  have en:(((k:Int) / 26 * 5 % 26).toNat)=k / 26 * 5 % 26:=by omega
  refine⟨_,rfl,_,rfl,_,rfl,_,_,rfl,rfl,(by show (0:Int)<26;decide),letters,_,_,rfl,rfl,Bx (by decide +kernel),RQ m0 m1,_,_,rfl,rfl,Bx (by show b.length+1<=1000;omega),?_⟩
  have l1:(b++Yg (k % 26)).length<=7:=by rw[len_app,KZ];omega
  refine⟨_,rfl,_,_,rfl,rfl,_,rfl,?_⟩
  refine Br (λh1=>?_) (λh1=>?_)
  ·have xi:26<=k:=by have:=of_decide_eq_true h1;omega
   refine⟨_,rfl,_,rfl,_,rfl,_,_,rfl,rfl,⟨by decide,by decide⟩,_,_,rfl,rfl,.inr ⟨by decide,by decide⟩,_,_,rfl,rfl,(by show (0:Int)<26;decide),letters,_,_,rfl,rfl,Bx (by decide +kernel),RQ n0 n1,_,_,rfl,rfl,Bx (by show (b++Yg ((k:Int) % 26).toNat).length+1<=1000;rw[em];omega),?_⟩
   unfold Ec at q
   rw[if_pos xi,<-em,<-en] at q
   exact⟨_,rfl,q⟩
  ·have xi:¬ 26<=k:=λz=>h1 (decide_eq_true (by omega))
   unfold Ec at q
   rw[if_neg xi,<-em] at q
   exact⟨_,rfl,q⟩
noncomputable def jH:Sp:=λvs H Q _=>∃ (c:Int),vs=[.int c]/\∀ b:Str,Ib b->Q (.str b) H
theorem WW:BL ["_law_cell","_law_letters","_law_base_here","_law_k"] ["_law_cell"] (Ah p_):=CT
include N T in
theorem iH:A_ P w K mg base Bh 1 aD.fBb aD.dBb ["_law_cell"] jH:=by
 refine N.FBb.1.ok WW (λvs H Q E h=>?_) (λb9 A outer s H vs Q E hr h=>?_)
 ·obtain⟨c,rfl,_⟩:=h
  rfl
 ·obtain⟨c,rfl,q⟩:=h
  refine⟨_,(Ae (Bf (i:=1) WW.nd rfl (Or.inl rfl) An)
   (Ae (Bf (i:=2) WW.nd rfl (Or.inl rfl) An)
   (Ae (Fb PassesOwn.never rfl (Gg rfl T.range (Aa (BJ DX (pv 0) Ac) Ab)) (Cr (i:=3) WW.nd rfl (Or.inl rfl)) (Ag (Bf (i:=2) WW.nd rfl (Or.inl rfl) (BJ CZ (pv 2) (BW Qo (pv 1) (BJ DX (BJ Dc (BJ Ej (pv 0) Ac) (BJ Hk (BJ Hk (pv 3) (pv 3)) Ac)) Ac) (λ_ _=>rfl))))))
   (Ag (Ar (pv 2)))))),?_⟩
  have m0:0<=c % 7:=fA _ (by decide)
  have m1:c % 7<7:=fe _ (by decide)
  refine⟨_,rfl,_,_,rfl,rfl,(by show (0:Int)<7;decide),_,rfl,by show -(2 ^ 62)<=c % 7;omega,by show c % 7<2 ^ 62;omega,Jl (lo:=0) (n:=(c % 7).toNat) (λi σ H4=>H4=H/\∃ (b:Str) (v3:Option V),(b.length<=i/\∀ c∈b.cps.toList,97<=c/\c<=122)/\σ=[some (.int c),some (.str letters),some (.str b),v3]) ⟨rfl,"",_,⟨by decide,Ib.nil.2⟩,rfl⟩ ?_ ?_⟩
  ·rintro i σ H4 hi ⟨rfl,b,v3,hb,rfl⟩
   have n0:0<=(c / 6+(0+(i:Nat)) * (0+(i:Nat)) * 7) % 26:=fA _ (by decide)
   have n1:(c / 6+(0+(i:Nat)) * (0+(i:Nat)) * 7) % 26<26:=fe _ (by decide)
   have hb1:=hb.1
   refine⟨_,rfl,_,rfl,_,rfl,_,_,rfl,rfl,⟨by decide,by decide⟩,_,rfl,_,rfl,_,_,rfl,rfl,.inl ⟨by omega,by omega⟩,_,_,rfl,rfl,.inr ⟨by decide,by decide⟩,_,_,rfl,rfl,_,_,rfl,rfl,(by show (0:Int)<26;decide),letters,_,_,rfl,rfl,Bx (by decide +kernel),RQ n0 n1,_,_,rfl,rfl,Bx (by show b.length+1<=1000;omega),?_⟩
   exact⟨rfl,_,_,Ib.snoc hb (n:=((c / 6+(0+(i:Nat)) * (0+(i:Nat)) * 7) % 26).toNat) (by omega),rfl⟩
  ·rintro σ H4 ⟨rfl,b,v3,hb,rfl⟩
   exact⟨_,rfl,q b ⟨by have:=hb.1;omega,hb.2⟩⟩
noncomputable def cJ (C:Addr):Sp:=λvs H Q _=>∃ (x:Addr) (us:List V) (bs:List (Str × Nat)) (rk:List (Str × Nat × Int)) (ks:List R) (ls:List (List Ln)) (f':List Nat),vs=[.ref x]/\Q3 C H x us bs rk ks ls f'/\∀ D H',H D=none->Ak H H'->H' D=some (.lst us)->Q (.ref D) H'
theorem mO:BL ["self"] ["self"] (Ah qZ):=CT
include N T in
theorem Zm:A_ P w K mg base Bh 1 aD.fOw aD.dOw ["self"] (cJ C):=by
 refine N.FOw.1.ok mO (λvs H Q E h=>?_) (λb9 A outer s H vs Q E hr h=>?_)
 ·obtain⟨x,us,bs,rk,ks,ls,f',rfl,_⟩:=h
  rfl
 ·obtain⟨x,us,bs,rk,ks,ls,f',rfl,O,q⟩:=h
  refine⟨_,(Ag (Ar (Dv G_ rfl T.list ft (Aa (Ht (pv 0) rfl) Ab)))),?_⟩
  obtain⟨_,dx,fs,rl,kd,ss,a8,h1,l1,l2,l3,h2,h3,h4,h5,h6,_⟩:=id O
  exact⟨_,rfl,x,C,dx,_,_,rfl,h1,T.cl,T.n_row_list,l1,rl,us,rfl,kU (.inl h2),λl hl=>q l _ hl (Aw hl) Af⟩
structure lW (K:W.Frag) (aB aP aM:Addr):Prop where
 f:Sx K aB aP aM
 mT:∃ t,W.nsIn K aM "step" = some (some (.int 12 t))
structure O9 (K:W.Frag) (aB aP aM:Addr) (H0 H:Hp) (A:MK) (S:Pl) (Cs:List Addr) (lo:V) (base:Str):Prop where
 h:Bg H0 H A S Cs lo
 k:Ed K aB aP aM base S lo
 b:Ib base
 l:S.rows.length<70
 F:lW K aB aP aM
theorem GJ {α:Type} {F:α->V->Prop} {p:α->Bool} {q:V->Bool}:∀ {l:List α} {vs:List V},Paired F l vs->(∀ a v,F a v->q v=p a)->(vs.filter q).length=(l.filter p).length
 | [],_,h,_=>by cases h;rfl
 | a::l,_,h,k=>by
  cases h with
  | cons x y =>
   have ih:=GJ y k
   rw[dS,dS,k _ _ x]
   cases p a
   ·exact ih
   ·show _+1=_+1
    rw[ih]
noncomputable def jr:Sp:=λvs H Q _=>∃ (H0:Hp) (A:MK) (S:Pl) (Cs:List Addr) (lo:V) (wd:Str),vs=[.ref A.p,.str wd]/\Bg H0 H A S Cs lo/\S.ks.length<=100/\∀ H',Ak H H'->Q (.int ((S.ks.filter λr=>decide (V.str r.w=V.str wd)).length:Nat)) H'
theorem qU:BL ["_law_plan_here","_law_word"] ["_law_plan_here","_law_word"] (Ah lK):=CT
include N T in
theorem jl:A_ P w K mg base Bh 1 aD.fMa aD.dMa ["_law_plan_here","_law_word"] jr:=by
 refine N.FMa.1.ok qU (λvs H Q E h=>?_) (λb9 A outer s H vs Q E hr h=>?_)
 ·obtain⟨H0,A,S,Cs,lo,wd,rfl,_⟩:=h
  rfl
 ·obtain⟨H0,A,S,Cs,lo,wd,rfl,h,hl,q⟩:=h
  have hu:=Gf hr
  refine⟨_,(Ag (Ar (Aj Ay rfl T.len aT (Aa (Bp rfl (Bd (osc:=Ah lK) (N:=["_law_plan_here","_law_word"]) rfl rfl (by decide +kernel)) (B_ (Be hu (pv 0) An (λ_ _=>rfl))) (λ_ _ _ _=>(M6 (BR DQ (BW (BK (K:=K) rfl) (pv 0) Ac (λ_ _=>rfl)) (pv 2) (BZ _)))) (λ_ _ _ _=>(pv 0))) Ab)))),?_⟩
  obtain⟨a8,g1,g2,y1,y2,y3,y4,y5,y6,y7⟩:=h.dp
  obtain⟨vn,n1,n2⟩:=h.n
  have g:=Cz.k (k:=Sum.inr "knobs") g1
  rw[y4] at g
  have hS:Dg K H A.n vn:=.inl (.inl n1)
  have ln:=n2.length
  refine⟨_,rfl,A.p,_,rfl,g,A.n,rfl,⟨_,hS⟩,Dk (K:=K) (xs:=vn) (λv=>decide (Us H 0 v=.str wd)) id hS (Av (by omega)) (λx hx H' hs R k=>?_) (λx hx _ H' hs R k=>⟨_,rfl,k H' (Ak.refl H')⟩) (λD H' hD hs oQ=>?_)⟩
  ·obtain⟨b,_,og⟩:=Dn n2 hx
   have e:=JT og 0
   obtain⟨T0,rfl,hT⟩:=og.mono hs
   refine⟨_,rfl,T0,_,_,_,rfl,rfl,kU hT,Aq (j:=0) rfl,_,rfl,rfl,_,rfl,?_⟩
   have:=k H' (Ak.refl H')
   rw[e] at this
   exact this
  ·rw[ij] at oQ
   refine⟨D,_,rfl,kU (.inl oQ),?_⟩
   have e:=GJ (p:=λr:R=>decide (V.str r.w=V.str wd)) (q:=λv=>decide (Us H 0 v=.str wd)) n2 (λa v hv=>by rw[JT hv 0];rfl)
   rw[e]
   exact q H' hs
noncomputable def iB (K:W.Frag) (aB aP aM:Addr):Sp:=λvs H Q _=>∃ (H0:Hp) (A:MK) (S:Pl) (Cs:List Addr) (lo:V) (bb:Str) (c:Int),vs=[.ref A.p,.str (Ec bb S.rows.length),.int c]/\O9 K aB aP aM H0 H A S Cs lo bb/\S.bs.length<5/\K6 K aB aP aM bb H0 A S Q
theorem oZ {α:Type} {a b c d:α} {z:Int} (h0:0<=z) (h1:z<4):∃ x,QX [a,b,c,d] z=some x/\(x=a \/ x=b \/ x=c \/ x=d):=by
 have:z=0 \/ z=1 \/ z=2 \/ z=3:=by omega
 rcases this with rfl | rfl | rfl | rfl
 ·exact⟨a,rfl,.inl rfl⟩
 ·exact⟨b,rfl,.inr (.inl rfl)⟩
 ·exact⟨c,rfl,.inr (.inr (.inl rfl))⟩
 ·exact⟨d,rfl,.inr (.inr (.inr rfl))⟩
theorem iU:BL ["_law_plan_here","_law_name_here","_law_cell","_law_keys"] ["_law_plan_here","_law_name_here","_law_cell"] (Ah mX):=CT
include N T in
theorem jw:A_ P w K mg base Bh 2 aD.fLb aD.dLb ["_law_plan_here","_law_name_here","_law_cell"] (iB K aB aP aM):=by
 refine N.FLb.1.ok iU (λvs H Q E h=>?_) (λb9 A outer s H vs Q E hr h=>?_)
 ·obtain⟨H0,A,S,Cs,lo,bb,c,rfl,_⟩:=h
  rfl
 ·obtain⟨H0,A,S,Cs,lo,bb,c,rfl,I,h5,q⟩:=h
  have hu:=Gf hr
  refine⟨_,(Ae (Bf (i:=3) iU.nd rfl (Or.inl rfl) (BJ Dc Ac (Ai (J7 N T) (ad hr) rfl N.FMi.2.2 N.FMi.1.kp N.FMi.2.1 .nil Az (Aa (pv 2) (Aa Ac (Aa (BW Cj (Bo (Aa Ac (Aa Ac (Aa Ac (Aa Ac Ab))))) (Ai (J7 N T) (ad hr) rfl N.FMi.2.2 N.FMi.1.kp N.FMi.2.1 .nil Az (Aa (pv 2) (Aa Ac (Aa Ac Ab)))) (λ_ _=>rfl)) Ab))))))
   (Ae (Cv (CV bE bX cb Bv (Be hu (pv 0) An (λ_ _=>rfl)) (Aa (DW (Aa (pv 1) (Aa (pv 3) Ab))) Ab)))
   (Ag (Ar (DW (Aa An (Aa (pv 1) (Aa (pv 3) Ab)))))))),?_⟩
  have hx:=id I.h
  obtain⟨a8,g1,g2,y1,y2,y3,y4,y5,y6,y7⟩:=hx.dp
  refine⟨_,rfl,by show 4<=sizeLine;decide,λp1 re=>?_⟩
  have s1:=Aw (o:=HO.lst [V.int 61,.int 12,.int 12,.int 5]) re
  have l1:upd H p1 (HO.lst [V.int 61,.int 12,.int 12,.int 5]) p1=some (.lst [V.int 61,.int 12,.int 12,.int 5]):=Af
  refine⟨_,rfl,c,44621,4,rfl,by decide,by decide,by decide,λz z0 z1=>?_⟩
  obtain⟨x,DZ,xR⟩:=oZ (a:=V.int 61) (b:=.int 12) (c:=.int 12) (d:=.int 5) z0 z1
  obtain⟨m,rfl,m1,m2⟩:∃ m:Int,x=.int m/\0<m/\m<=61:=by
   rcases xR with rfl | rfl | rfl | rfl
   ·exact⟨_,rfl,by decide,by decide⟩
   ·exact⟨_,rfl,by decide,by decide⟩
   ·exact⟨_,rfl,by decide,by decide⟩
   ·exact⟨_,rfl,by decide,by decide⟩
  refine⟨p1,_,_,_,rfl,rfl,kU l1,DZ,c,31541,m,rfl,m1,by decide,by decide,λu u0 u1=>?_⟩
  refine⟨_,_,rfl,rfl,?_⟩
  generalize upd H p1 (HO.lst [V.int 61,.int 12,.int 12,.int 5])=H1 at s1 l1 |-
  obtain⟨n,hn⟩:=de (by omega:0<=1+u)
  show Dw 3 (V.int (1+u)) _ _ _
  rw[hn]
  have h1:=I.h.mono s1
  obtain⟨vb,b1,b2⟩:=h1.b
  have lb:=b2.length
  have g:=Cz.k (k:=Sum.inr "boards") (s1 _ _ g1)
  rw[y2] at g
  refine⟨_,rfl,A.p,_,rfl,g,.inl ⟨rfl,_,kU b1⟩,_,rfl,_,rfl,by show 2<=sizeLine;decide,λT5 mw=>?_⟩
  have s5:=Aw (o:=HO.tup [V.str (Ec bb S.rows.length),.int (n:Nat)]) mw
  have t5:TupAt (upd H1 T5 (HO.tup [V.str (Ec bb S.rows.length),.int (n:Nat)])) (bV (Ec bb S.rows.length,n)) (.ref T5):=⟨T5,rfl,Af⟩
  generalize upd H1 T5 (HO.tup [V.str (Ec bb S.rows.length),.int (n:Nat)])=H5 at s5 t5 |-
  have xK:=(h1.mono s5).nU (s5 _ _ b1) t5
  refine⟨A.b,vb,_,rfl,rfl,s5 _ _ b1,Av (by omega),?_⟩
  generalize upd H5 A.b _=H6 at xK |-
  refine⟨_,rfl,_,rfl,by show 3<=sizeLine;decide,λT6 hT6=>?_⟩
  exact q (G5 (Ec bb S.rows.length,n)) _ _ _ _ _ (xK.mono (Aw hT6)) rfl ⟨T6,rfl,Af⟩ (I.k.W8 I.F.f I.b (by have:=I.l;omega) h5 (by omega) (by omega)) (by simp)
noncomputable def dZ (K:W.Frag) (aB aP aM:Addr):Sp:=λvs H Q _=>∃ (H0:Hp) (A:MK) (S:Pl) (Cs:List Addr) (lo:V) (bb:Str) (c:Int),vs=[.ref A.p,.str (Ec bb S.rows.length),.int c]/\O9 K aB aP aM H0 H A S Cs lo bb/\S.rk.length<12/\1<=S.bs.length/\K6 K aB aP aM bb H0 A S Q
theorem bT:BL ["_law_plan_here","_law_name_here","_law_cell","_law_pipes","_law_wind"] ["_law_plan_here","_law_name_here","_law_cell"] (Ah mj):=CT
include N T in
theorem ji:A_ P w K mg base Bh 2 aD.fLk aD.dLk ["_law_plan_here","_law_name_here","_law_cell"] (dZ K aB aP aM):=by
 refine N.FLk.1.ok bT (λvs H Q E h=>?_) (λb9 A outer s H vs Q E hr h=>?_)
 ·obtain⟨H0,A,S,Cs,lo,bb,c,rfl,_⟩:=h
  rfl
 ·obtain⟨H0,A,S,Cs,lo,bb,c,rfl,I,tm,hb1,q⟩:=h
  have hu:=Gf hr
  refine⟨_,(Ae (Bf (i:=3) bT.nd rfl (Or.inl rfl) (BJ Dc Ac (Ai (J7 N T) (ad hr) rfl N.FMi.2.2 N.FMi.1.kp N.FMi.2.1 .nil Az (Aa (pv 2) (Aa Ac (Aa (BW Cj (Bo (Aa Ac (Aa Ac (Aa Ac (Aa Ac Ab))))) (Ai (J7 N T) (ad hr) rfl N.FMi.2.2 N.FMi.1.kp N.FMi.2.1 .nil Az (Aa (pv 2) (Aa Ac (Aa Ac Ab)))) (λ_ _=>rfl)) Ab))))))
   (Ae (Bf (i:=4) bT.nd rfl (Or.inl rfl) (BW Cj (Bo (Aa (Ai (J7 N T) (ad hr) rfl N.FMi.2.2 N.FMi.1.kp N.FMi.2.1 .nil Az (Aa (pv 2) (Aa Ac (Aa Ac Ab)))) (Aa (BJ DX (BJ Ej (pv 2) Ac) (BJ Dc (BJ Q4 Ac Ac) Ac)) (Aa Ac (Aa (BJ Q4 Ac Ac) Ab))))) (Ai (J7 N T) (ad hr) rfl N.FMi.2.2 N.FMi.1.kp N.FMi.2.1 .nil Az (Aa (pv 2) (Aa Ac (Aa Ac Ab)))) (λ_ _=>rfl)))
   (Ae (Cv (CV bE bX cb Bv (Be hu (pv 0) An (λ_ _=>rfl)) (Aa (DW (Aa (pv 1) (Aa (pv 3) (Aa (pv 4) Ab)))) Ab)))
   (Ag (Ar (DW (Aa An (Aa (pv 1) (Aa (pv 3) (Aa (pv 4) Ab)))))))))),?_⟩
  have hx:=id I.h
  obtain⟨a8,g1,g2,y1,y2,y3,y4,y5,y6,y7⟩:=hx.dp
  refine⟨_,rfl,by show 4<=sizeLine;decide,λp1 re=>?_⟩
  have s1:=Aw (o:=HO.lst [V.int 97,.int 24,.int 24,.int 6]) re
  have l1:upd H p1 (HO.lst [V.int 97,.int 24,.int 24,.int 6]) p1=some (.lst [V.int 97,.int 24,.int 24,.int 6]):=Af
  refine⟨_,rfl,c,27437,4,rfl,by decide,by decide,by decide,λz z0 z1=>?_⟩
  obtain⟨x,DZ,xR⟩:=oZ (a:=V.int 97) (b:=.int 24) (c:=.int 24) (d:=.int 6) z0 z1
  obtain⟨m,rfl,m1,m2⟩:∃ m:Int,x=.int m/\0<m/\m<=97:=by
   rcases xR with rfl | rfl | rfl | rfl
   ·exact⟨_,rfl,by decide,by decide⟩
   ·exact⟨_,rfl,by decide,by decide⟩
   ·exact⟨_,rfl,by decide,by decide⟩
   ·exact⟨_,rfl,by decide,by decide⟩
  refine⟨p1,_,_,_,rfl,rfl,kU l1,DZ,c,55051,m,rfl,m1,by decide,by decide,λu u0 u1=>?_⟩
  refine⟨_,_,rfl,rfl,?_⟩
  generalize upd H p1 (HO.lst [V.int 97,.int 24,.int 24,.int 6])=H1 at s1 l1 |-
  obtain⟨n,hn⟩:=de (by omega:0<=1+u)
  show Dw 3 (V.int (1+u)) _ _ _
  rw[hn]
  have e3:0<=c / 3 % (10 ^ (9:Int).toNat+1)/\c / 3 % (10 ^ (9:Int).toNat+1)<=1000000000:=by
   have e:(10:Int) ^ (9:Int).toNat+1=1000000001:=by decide
   rw[e]
   omega
  have e9:(10:Int) ^ (9:Int).toNat=1000000000:=by decide
  refine⟨_,rfl,c,61001,10,rfl,by decide,by decide,by decide,λr1 Xt XG=>⟨_,rfl,_,_,rfl,rfl,⟨by decide,by decide⟩,_,_,rfl,rfl,⟨by decide,by decide,by decide⟩,_,_,rfl,rfl,_,_,rfl,rfl,(by show (0:Int)<10 ^ (9:Int).toNat+1;decide),_,_,rfl,rfl,⟨by decide,by decide,by decide⟩,by show 4<=sizeLine;decide,λp2 ti=>?_⟩⟩
  dsimp only at ti |-
  generalize c / 3 % (10 ^ (9:Int).toNat+1)=w2 at e3 |-
  generalize (10:Int) ^ (9:Int).toNat=w4 at e9 |-
  have s2:=Aw (o:=HO.lst [V.int r1,.int w2,.int 0,.int w4]) ti
  have l2:upd H1 p2 (HO.lst [V.int r1,.int w2,.int 0,.int w4]) p2=some (.lst [V.int r1,.int w2,.int 0,.int w4]):=Af
  refine⟨_,rfl,c,39119,4,rfl,by decide,by decide,by decide,λz' UH KG=>?_⟩
  obtain⟨x',E5,BN⟩:=oZ (a:=V.int r1) (b:=.int w2) (c:=.int 0) (d:=.int w4) UH KG
  obtain⟨wi,rfl,NC,OE⟩:∃ m:Int,x'=.int m/\0<=m/\m<=1000000000:=by
   rcases BN with rfl | rfl | rfl | rfl
   ·exact⟨_,rfl,by omega,by omega⟩
   ·exact⟨_,rfl,by omega,by omega⟩
   ·exact⟨_,rfl,by decide,by decide⟩
   ·exact⟨_,rfl,by omega,by omega⟩
  refine⟨p2,_,_,_,rfl,rfl,kU l2,E5,?_⟩
  generalize upd H1 p2 (HO.lst [V.int r1,.int w2,.int 0,.int w4])=H2 at s2 l2 |-
  have h1:=(I.h.mono s1).mono s2
  obtain⟨vb,b1,b2⟩:=h1.k
  have lb:=b2.length
  have g:=Cz.k (k:=Sum.inr "ranks") (s2 _ _ (s1 _ _ g1))
  rw[y3] at g
  refine⟨_,rfl,A.p,_,rfl,g,.inl ⟨rfl,_,kU b1⟩,_,rfl,_,rfl,_,rfl,by show 3<=sizeLine;decide,λT5 mw=>?_⟩
  have s5:=Aw (o:=HO.tup [V.str (Ec bb S.rows.length),.int (n:Nat),.int wi]) mw
  have t5:TupAt (upd H2 T5 (HO.tup [V.str (Ec bb S.rows.length),.int (n:Nat),.int wi])) (qD (Ec bb S.rows.length,n,wi)) (.ref T5):=⟨T5,rfl,Af⟩
  generalize upd H2 T5 (HO.tup [V.str (Ec bb S.rows.length),.int (n:Nat),.int wi])=H5 at s5 t5 |-
  have xK:=(h1.mono s5).qN (s5 _ _ b1) t5
  refine⟨A.k,vb,_,rfl,rfl,s5 _ _ b1,Av (by omega),?_⟩
  generalize upd H5 A.k _=H6 at xK |-
  refine⟨_,rfl,_,rfl,_,rfl,by show 4<=sizeLine;decide,λT6 hT6=>?_⟩
  exact q (HJ (Ec bb S.rows.length,n,wi)) _ _ _ _ _ (xK.mono (Aw hT6)) rfl ⟨T6,rfl,Af⟩ (I.k.rank I.F.f I.b (by have:=I.l;omega) tm (by omega) (by omega) NC OE) hb1
noncomputable def fB (K:W.Frag) (aB aP aM:Addr):Sp:=λvs H Q _=>∃ (H0:Hp) (A:MK) (S:Pl) (Cs:List Addr) (lo:V) (bb:Str) (c:Int),vs=[.ref A.p,.str (Ec bb S.rows.length),.int c]/\O9 K aB aP aM H0 H A S Cs lo bb/\1<=S.bs.length/\(S.ks.filter λr=>decide (V.str r.w=V.str "stop")).length<24/\K6 K aB aP aM bb H0 A S Q
theorem fG:BL ["_law_plan_here","_law_name_here","_law_cell","_law_at"] ["_law_plan_here","_law_name_here","_law_cell"] (Ah mW):=CT
include N T in
theorem gO:A_ P w K mg base Bh 2 aD.fLs aD.dLs ["_law_plan_here","_law_name_here","_law_cell"] (fB K aB aP aM):=by
 refine N.FLs.1.ok fG (λvs H Q E h=>?_) (λb9 A outer s H vs Q E hr h=>?_)
 ·obtain⟨H0,A,S,Cs,lo,bb,c,rfl,_⟩:=h
  rfl
 ·obtain⟨H0,A,S,Cs,lo,bb,c,rfl,I,hb1,rj,q⟩:=h
  have hu:=Gf hr
  refine⟨_,(Ae (Bf (i:=3) fG.nd rfl (Or.inl rfl) (Ai (J7 N T) (ad hr) rfl N.FMi.2.2 N.FMi.1.kp N.FMi.2.1 .nil Az (Aa (pv 2) (Aa Ac (Aa (Aj Ay rfl T.len aT (Aa (Be hu (pv 0) An (λ_ _=>rfl)) Ab)) Ab)))))
   (Ae (Nh hu (pv 0) An (Bo Ab) rfl)
   (Ae (Cv (CV bE bX cb Bv (Be hu (pv 0) An (λ_ _=>rfl)) (Aa (DW (Aa An (Aa (pv 1) Ab))) Ab)))
   (Ae (Cv (CV bE bX cb Bv (Be hu (pv 0) An (λ_ _=>rfl)) (Aa (DW (Aa (pv 3) (Aa (Be hu (pv 0) An (λ_ _=>rfl)) Ab))) Ab)))
   (Ag (Ar (DW (Aa An (Aa (pv 1) (Aa (BW (BK (K:=K) rfl) (BW Cj (Be hu (pv 0) An (λ_ _=>rfl)) (pv 3) (λ_ _=>rfl)) Ac (λ_ _=>rfl)) Ab)))))))))),?_⟩
  have hx:=id I.h
  obtain⟨a8,g1,g2,y1,y2,y3,y4,y5,y6,y7⟩:=hx.dp
  obtain⟨vb,b1,b2⟩:=hx.b
  have lb:=b2.length
  have g:=Cz.k (k:=Sum.inr "boards") g1
  rw[y2] at g
  refine⟨_,rfl,_,rfl,A.p,_,rfl,g,A.b,_,rfl,kU (.inl b1),c,60013,_,rfl,(by show (0:Int)<((vb.length:Nat):Int);omega),by decide,by decide,λu u0 u1=>?_⟩
  obtain⟨b,hb⟩:=de u0
  subst hb
  have hbl:b<S.bs.length:=by omega
  obtain⟨x,k7⟩:∃ x,S.bs[b]? = some x:=⟨_,af hbl⟩
  refine⟨Bx (by simp),λL hL=>?_⟩
  have old:=I.h.old hL
  obtain⟨H1,d0,s1,l1⟩:=CN (o:=HO.lst []) hL
  rw[d0]
  have h1:=(I.h.mono s1).fY (s1 _ _ g1) (.ref L)
  have l2:upd H1 A.p (HO.dK (putK a8 (Sum.inr "lines") (.ref L))) L=some (.lst []):=by rw[Ao (Oz l1 (s1 _ _ g1) (by intro z;cases z))];exact l1
  refine⟨_,rfl,A.p,_,rfl,RX.k (k:=Sum.inr "lines") (s1 _ _ g1) (Av (by omega)),?_⟩
  generalize upd H1 A.p _=H2 at h1 l2 |-
  obtain⟨VE,Lo,_,_,z2,_,z4,z5,_,z7⟩:=h1.dp
  obtain⟨vn,n1,n2⟩:=h1.n
  have ln:=n2.length
  have lk:=I.k.lk
  have lr:=I.l
  have g:=Cz.k (k:=Sum.inr "knobs") Lo
  rw[z4] at g
  refine⟨_,rfl,A.p,_,rfl,g,.inl ⟨rfl,_,kU n1⟩,_,rfl,by show 2<=sizeLine;decide,λT3 hT3=>?_⟩
  have s3:=Aw (o:=HO.tup [V.str "stop",.str (Ec bb S.rows.length)]) hT3
  have t3:TupAt (upd H2 T3 (HO.tup [V.str "stop",.str (Ec bb S.rows.length)])) (dW ⟨"stop",Ec bb S.rows.length,[.str x.1]⟩) (.ref T3):=⟨T3,rfl,Af⟩
  generalize upd H2 T3 (HO.tup [V.str "stop",.str (Ec bb S.rows.length)])=H3 at s3 t3 |-
  have l3:=s3 _ _ l2
  have h3:=(h1.mono s3).YZ (s3 _ _ n1) t3
  have l4:upd H3 A.n (HO.lst (vn++[.ref T3])) L=some (.lst []):=by
   rw[Ao λz=>old.2 (by rw[z];simp)]
   exact l3
  refine⟨A.n,vn,_,rfl,rfl,s3 _ _ n1,Av (by omega),?_⟩
  generalize upd H3 A.n (HO.lst (vn++[.ref T3]))=H4 at h3 l4 |-
  obtain⟨tP,sP,_,_,w2,_,_,w5,_,w7⟩:=h3.dp
  obtain⟨vd,d1,d2,d3⟩:=h3.d
  have ld:=d3.length
  have L4:=I.k.pd.length
  have gd:=Cz.k (k:=Sum.inr "details") sP
  rw[w5] at gd
  have gl:=Cz.k (k:=Sum.inr "lines") sP
  rw[w7] at gl
  refine⟨_,rfl,A.p,_,rfl,gd,.inl ⟨rfl,_,kU d1⟩,_,rfl,_,rfl,A.p,_,rfl,gl,by show 2<=sizeLine;decide,λT5 mw=>?_⟩
  have s5:=Aw (o:=HO.tup [V.int (b:Nat),.ref L]) mw
  have t5:Ie (upd H4 T5 (HO.tup [V.int (b:Nat),.ref L])) (.stop b L,[]) (.ref T5):=⟨⟨T5,rfl,Af⟩,[],s5 _ _ l4,.nil⟩
  generalize upd H4 T5 (HO.tup [V.int (b:Nat),.ref L])=H5 at s5 t5 |-
  have h5:=(h3.mono s5).Xd (s5 _ _ d1) t5 (λL' oz=>by rw[ax.mp oz];exact old)
  have ld3:vd.length<=100:=by
   rw[iA] at ld
   show vd.length<=100
   have:S.ds.length=S.ks.length:=L4.symm
   have:vd.length<=S.ds.length:=by
    rw[<-ld]
    exact kt _ _
   omega
  refine⟨A.d,vd,_,rfl,rfl,s5 _ _ d1,Av (by omega),?_⟩
  generalize upd H5 A.d _=H6 at h5 |-
  obtain⟨rb,rc,_,_,u2,_⟩:=h5.dp
  obtain⟨B1,ua,uq⟩:=h5.b
  have gb:=Cz.k (k:=Sum.inr "boards") rc
  rw[u2] at gb
  obtain⟨yb,tJ,Tb,rfl,ue⟩:=CJ uq k7
  refine⟨_,rfl,_,rfl,A.p,_,rfl,gb,_,rfl,A.b,_,_,_,rfl,rfl,kU ua,Aq tJ,Tb,_,_,_,rfl,rfl,kU ue,Aq (j:=0) rfl,by show 3<=sizeLine;decide,λT6 hT6=>?_⟩
  refine q ⟨"stop",Ec bb S.rows.length,[.str x.1]⟩ _ _ _ _ _ (h5.mono (Aw hT6)) rfl ⟨T6,rfl,Af⟩ (I.k.Xk (by omega) rfl ⟨rfl,x,k7,rfl⟩ (I.k.bl.plain I.F.f (.inl rfl) (GR I.b _) (I.k.fb (by omega)) (I.k.fr (by omega)) (I.k.fk (by omega)) (by show _<24;exact rj) (n:=x.2) ?_ (List.mem_of_getElem? k7)) (.inr ⟨b,L,x,rfl,rfl,k7,Tl.stop _ _ _⟩)) hb1
  obtain⟨m,_,e⟩:=I.k.nb x (al k7)
  rw[e]
  exact GR I.b m
noncomputable def gG (K:W.Frag) (aB aP aM:Addr):Sp:=λvs H Q _=>∃ (H0:Hp) (A:MK) (S:Pl) (Cs:List Addr) (bb:Str) (c:Int) (mI:List Dt) (b:Nat) (L:Addr) (x:Str × Nat) (mf:List (List Ln)) (l0:List Ln),vs=[.ref A.p,.int c]/\O9 K aB aP aM H0 H A S Cs (.ref L) bb/\S.ds=mI++[.stop b L]/\S.ls=mf++[l0]/\S.bs[b]? = some x/\Tl S.rows x.1 l0.length/\l0.length<4/\1<=S.rk.length/\K6 K aB aP aM bb H0 A S Q
theorem Ra:BL ["_law_plan_here","_law_cell","_law_at","_law_keys","_law_low","_law_high","_law_shift"] ["_law_plan_here","_law_cell"] (Ah oE):=CT
include N T in
theorem jP:A_ P w K mg base Bh 2 aD.fLl aD.dLl ["_law_plan_here","_law_cell"] (gG K aB aP aM):=by
 refine N.FLl.1.ok Ra (λvs H Q E h=>?_) (λb9 A outer s H vs Q E hr h=>?_)
 ·obtain⟨H0,A,S,Cs,bb,c,mI,b,L,x,mf,l0,rfl,_⟩:=h
  rfl
 ·obtain⟨H0,A,S,Cs,bb,c,mI,b,L,x,mf,l0,rfl,I,e1,e2,k7,hT,h4,hr1,q⟩:=h
  have hu:=Gf hr
  refine⟨_,(Ae (Bf (i:=2) Ra.nd rfl (Or.inl rfl) (Ai (J7 N T) (ad hr) rfl N.FMi.2.2 N.FMi.1.kp N.FMi.2.1 .nil Az (Aa (pv 1) (Aa Ac (Aa (Aj Ay rfl T.len aT (Aa (Be hu (pv 0) An (λ_ _=>rfl)) Ab)) Ab)))))
   (Ae (Bf (i:=3) Ra.nd rfl (Or.inl rfl) (BW (BK (K:=K) rfl) (BW (Hm (K:=K) rfl) (Be hu (pv 0) An (λ_ _=>rfl)) (BW (BK (K:=K) rfl) (BW (Hm (K:=K) rfl) (Be hu (pv 0) An (λ_ _=>rfl)) (J4 Hg Ac) (λ_ _=>rfl)) Ac (λ_ _=>rfl)) (λ_ _=>rfl)) Ac (λ_ _=>rfl)))
   (Ae (Bf (i:=4) Ra.nd rfl (Or.inl rfl) (Ai (J7 N T) (ad hr) rfl N.FMi.2.2 N.FMi.1.kp N.FMi.2.1 .nil Az (Aa (pv 1) (Aa Ac (Aa (pv 3) Ab)))))
   (Ae (Bf (i:=5) Ra.nd rfl (Or.inl rfl) (BJ Dc (pv 4) (Ai (J7 N T) (ad hr) rfl N.FMi.2.2 N.FMi.1.kp N.FMi.2.1 .nil Az (Aa (pv 1) (Aa Ac (Aa (BJ Ft (pv 3) (pv 4)) Ab))))))
   (Ae (Bf (i:=6) Ra.nd rfl (Or.inl rfl) (BJ Ft (Ai (J7 N T) (ad hr) rfl N.FMi.2.2 N.FMi.1.kp N.FMi.2.1 .nil Az (Aa (pv 1) (Aa Ac (Aa Ac Ab)))) Ac))
   (Ae (Bj (BR DQ (Ai (J7 N T) (ad hr) rfl N.FMi.2.2 N.FMi.1.kp N.FMi.2.1 .nil Az (Aa (pv 1) (Aa Ac (Aa Ac Ab)))) Ac (BZ _)) (Ag (Bf (i:=6) Ra.nd rfl (Or.inl rfl) (BJ Ft (BJ DX (BJ Ej (pv 1) Ac) Ac) Ac))) BV)
   (Ae (Cv (CV bE bX cb Bv (Be hu (pv 0) An (λ_ _=>rfl)) (Aa (DW (Aa (pv 2) (Aa (pv 6) (Aa (pv 4) (Aa (pv 5) Ab))))) Ab)))
   (Ag (Ar (DW (Aa An (Aa (BW (BK (K:=K) rfl) (BW Cj (Be hu (pv 0) An (λ_ _=>rfl)) (pv 2) (λ_ _=>rfl)) Ac (λ_ _=>rfl)) (Aa (pv 6) (Aa (pv 4) (Aa (pv 5) Ab))))))))))))))),?_⟩
  have hx:=id I.h
  obtain⟨a8,g1,g2,y1,y2,y3,y4,y5,y6,y7⟩:=hx.dp
  obtain⟨vk,k1,k2⟩:=hx.k
  obtain⟨vb,b1,b2⟩:=hx.b
  obtain⟨vd,d1,d2,d3⟩:=hx.d
  have lk:=k2.length
  have xs:=I.k.sb x (al k7)
  have g:=Cz.k (k:=Sum.inr "ranks") g1
  rw[y3] at g
  have gb:=Cz.k (k:=Sum.inr "boards") g1
  rw[y2] at gb
  have gd:=Cz.k (k:=Sum.inr "details") g1
  rw[y5] at gd
  have gl:=Cz.k (k:=Sum.inr "lines") g1
  rw[y7] at gl
  have ld:mI.length=mf.length:=by
   have:=d2
   rw[e1,e2] at this
   simpa using this
  rw[e1,e2,iq ld] at d3
  obtain⟨ED,ud,rfl,_,FS⟩:=G9 d3
  obtain⟨⟨Td,rfl,LU⟩,ts,hL,ml⟩:=FS
  have lts:l0.length=ts.length:=ml.length
  obtain⟨yb,tJ,Tb,rfl,ue⟩:=CJ b2 k7
  refine⟨_,rfl,_,rfl,A.p,_,rfl,g,A.k,_,rfl,kU (.inl k1),c,40709,_,rfl,(by show (0:Int)<((vk.length:Nat):Int);omega),by decide,by decide,λu u0 u1=>?_⟩
  obtain⟨j,hj⟩:=de u0
  subst hj
  obtain⟨rr,zM⟩:∃ x,S.rk[j]? = some x:=⟨_,af (by omega)⟩
  obtain⟨yr,Xs,Tr,rfl,WS⟩:=CJ k2 zM
  refine⟨_,rfl,A.p,_,rfl,gb,_,rfl,A.p,_,rfl,gd,_,rfl,A.d,_,_,_,rfl,rfl,kU d1,R1 ED (V.ref Td),Td,_,_,_,rfl,rfl,kU LU,Aq (j:=0) rfl,A.b,_,_,_,rfl,rfl,kU b1,Aq tJ,Tb,_,_,_,rfl,rfl,kU ue,Aq (j:=1) rfl,?_⟩
  refine⟨_,rfl,_,rfl,c,18149,_,rfl,(by show (0:Int)<((x.2:Nat):Int);omega),by decide,by decide,λlw IB WB=>?_⟩
  refine⟨_,rfl,_,rfl,_,rfl,_,rfl,_,_,rfl,rfl,c,13499,_,rfl,(by show (0:Int)<((x.2:Nat):Int) - lw;omega),by decide,by decide,λhd YY WI=>⟨_,_,rfl,rfl,?_⟩⟩
  show Dw 5 (V.int (lw+hd)) _ _ _
  generalize ehi:lw+hd=hi
  refine⟨_,rfl,c,57089,25,rfl,by decide,by decide,by decide,λsh RA Op=>⟨_,_,rfl,rfl,?_⟩⟩
  show Dw 6 (V.int (sh - 12)) _ _ _
  obtain⟨sv,es⟩:∃ sv,sh - 12=sv:=⟨_,rfl⟩
  rw[es]
  refine⟨_,rfl,c,17681,4,rfl,by decide,by decide,by decide,λz z0 z1=>⟨rfl,_,rfl,Br (λ_=>?_) (λ_=>?_)⟩⟩
  ·refine⟨_,rfl,_,_,rfl,rfl,⟨by decide,by decide⟩,_,_,rfl,rfl,(by show (0:Int)<401;decide),_,_,rfl,rfl,?_⟩
   show Dw 6 (V.int (c / 5 % 401 - 200)) _ _ _
   obtain⟨sw,ew⟩:∃ sw,c / 5 % 401 - 200=sw:=⟨_,rfl⟩
   rw[ew]
   refine⟨_,rfl,A.p,_,rfl,gl,.inl ⟨rfl,_,kU hL⟩,_,rfl,_,rfl,_,rfl,_,rfl,by show 4<=sizeLine;decide,λT5 mw=>?_⟩
   have s5:=Aw (o:=HO.tup [V.int (j:Nat),.int sw,.int lw,.int hi]) mw
   have t5:TupAt (upd H T5 (HO.tup [V.int (j:Nat),.int sw,.int lw,.int hi])) (jM ⟨j,sw,lw,hi⟩) (.ref T5):=⟨T5,rfl,Af⟩
   generalize upd H T5 (HO.tup [V.int (j:Nat),.int sw,.int lw,.int hi])=H5 at s5 t5 |-
   have h5:=(I.h.mono s5).jN e1 e2 (s5 _ _ hL) t5
   refine⟨L,ts,_,rfl,rfl,s5 _ _ hL,Av (by omega),?_⟩
   generalize upd H5 L _=H6 at h5 |-
   obtain⟨rb,rc,_,_,_,u3,_⟩:=h5.dp
   obtain⟨PF,Fc,B'⟩:=h5.k
   have gk:=Cz.k (k:=Sum.inr "ranks") rc
   rw[u3] at gk
   obtain⟨OM,wG,C9,rfl,xa⟩:=CJ B' zM
   refine⟨_,rfl,A.p,_,rfl,gk,_,rfl,A.k,_,_,_,rfl,rfl,kU Fc,Aq wG,C9,_,_,_,rfl,rfl,kU xa,Aq (j:=0) rfl,_,rfl,_,rfl,_,rfl,by show 5<=sizeLine;decide,λT6 hT6=>?_⟩
   exact q ⟨"line",rr.1,[.int sw,.int lw,.int hi]⟩ _ _ _ _ _ (h5.mono (Aw hT6)) rfl ⟨T6,rfl,Af⟩ (I.k.line I.F.f I.b e1 e2 k7 hT h4 zM (by omega) (by omega) (by omega) (by omega) IB) (ck (dc _) (ai.mp k7).1)
  ·refine⟨_,rfl,A.p,_,rfl,gl,.inl ⟨rfl,_,kU hL⟩,_,rfl,_,rfl,_,rfl,_,rfl,by show 4<=sizeLine;decide,λT5 mw=>?_⟩
   have s5:=Aw (o:=HO.tup [V.int (j:Nat),.int sv,.int lw,.int hi]) mw
   have t5:TupAt (upd H T5 (HO.tup [V.int (j:Nat),.int sv,.int lw,.int hi])) (jM ⟨j,sv,lw,hi⟩) (.ref T5):=⟨T5,rfl,Af⟩
   generalize upd H T5 (HO.tup [V.int (j:Nat),.int sv,.int lw,.int hi])=H5 at s5 t5 |-
   have h5:=(I.h.mono s5).jN e1 e2 (s5 _ _ hL) t5
   refine⟨L,ts,_,rfl,rfl,s5 _ _ hL,Av (by omega),?_⟩
   generalize upd H5 L _=H6 at h5 |-
   obtain⟨rb,rc,_,_,_,u3,_⟩:=h5.dp
   obtain⟨PF,Fc,B'⟩:=h5.k
   have gk:=Cz.k (k:=Sum.inr "ranks") rc
   rw[u3] at gk
   obtain⟨OM,wG,C9,rfl,xa⟩:=CJ B' zM
   refine⟨_,rfl,A.p,_,rfl,gk,_,rfl,A.k,_,_,_,rfl,rfl,kU Fc,Aq wG,C9,_,_,_,rfl,rfl,kU xa,Aq (j:=0) rfl,_,rfl,_,rfl,_,rfl,by show 5<=sizeLine;decide,λT6 hT6=>?_⟩
   exact q ⟨"line",rr.1,[.int sv,.int lw,.int hi]⟩ _ _ _ _ _ (h5.mono (Aw hT6)) rfl ⟨T6,rfl,Af⟩ (I.k.line I.F.f I.b e1 e2 k7 hT h4 zM (by omega) (by omega) (by omega) (by omega) IB) (ck (dc _) (ai.mp k7).1)
noncomputable def jb (K:W.Frag) (aB aP aM:Addr):Sp:=λvs H Q _=>∃ (H0:Hp) (A:MK) (S:Pl) (Cs:List Addr) (lo:V) (bb:Str) (c:Int),vs=[.ref A.p,.str (Ec bb S.rows.length),.int c]/\O9 K aB aP aM H0 H A S Cs lo bb/\1<=S.bs.length/\(S.ks.filter λr=>decide (V.str r.w=V.str "coupler")).length<12/\K6 K aB aP aM bb H0 A S Q
theorem V7:BL ["_law_plan_here","_law_name_here","_law_cell","_law_one","_law_other","_law_shift"] ["_law_plan_here","_law_name_here","_law_cell"] (Ah qJ):=CT
include N T in
theorem kj:A_ P w K mg base Bh 2 aD.fLc aD.dLc ["_law_plan_here","_law_name_here","_law_cell"] (jb K aB aP aM):=by
 refine N.FLc.1.ok V7 (λvs H Q E h=>?_) (λb9 A outer s H vs Q E hr h=>?_)
 ·obtain⟨H0,A,S,Cs,lo,bb,c,rfl,_⟩:=h
  rfl
 ·obtain⟨H0,A,S,Cs,lo,bb,c,rfl,I,hb1,tm,q⟩:=h
  have hu:=Gf hr
  refine⟨_,(Ae (Bf (i:=3) V7.nd rfl (Or.inl rfl) (Ai (J7 N T) (ad hr) rfl N.FMi.2.2 N.FMi.1.kp N.FMi.2.1 .nil Az (Aa (pv 2) (Aa Ac (Aa (Aj Ay rfl T.len aT (Aa (Be hu (pv 0) An (λ_ _=>rfl)) Ab)) Ab)))))
   (Ae (Bf (i:=4) V7.nd rfl (Or.inl rfl) (Ai (J7 N T) (ad hr) rfl N.FMi.2.2 N.FMi.1.kp N.FMi.2.1 .nil Az (Aa (pv 2) (Aa Ac (Aa (Aj Ay rfl T.len aT (Aa (Be hu (pv 0) An (λ_ _=>rfl)) Ab)) Ab)))))
   (Ae (Bf (i:=5) V7.nd rfl (Or.inl rfl) (BJ Ft (Ai (J7 N T) (ad hr) rfl N.FMi.2.2 N.FMi.1.kp N.FMi.2.1 .nil Az (Aa (pv 2) (Aa Ac (Aa Ac Ab)))) Ac))
   (Ae (Bj (BR DQ (Ai (J7 N T) (ad hr) rfl N.FMi.2.2 N.FMi.1.kp N.FMi.2.1 .nil Az (Aa (pv 2) (Aa Ac (Aa Ac Ab)))) Ac (BZ _)) (Ag (Bf (i:=5) V7.nd rfl (Or.inl rfl) (BJ Ft (BJ DX (BJ Ej (pv 2) Ac) Ac) Ac))) BV)
   (Ae (Cv (CV bE bX cb Bv (Be hu (pv 0) An (λ_ _=>rfl)) (Aa (DW (Aa An (Aa (pv 1) Ab))) Ab)))
   (Ae (Cv (CV bE bX cb Bv (Be hu (pv 0) An (λ_ _=>rfl)) (Aa (DW (Aa (pv 3) (Aa (pv 4) (Aa (pv 5) Ab)))) Ab)))
   (Ag (Ar (DW (Aa An (Aa (pv 1) (Aa (BW (BK (K:=K) rfl) (BW Cj (Be hu (pv 0) An (λ_ _=>rfl)) (pv 3) (λ_ _=>rfl)) Ac (λ_ _=>rfl)) (Aa (BW (BK (K:=K) rfl) (BW Cj (Be hu (pv 0) An (λ_ _=>rfl)) (pv 4) (λ_ _=>rfl)) Ac (λ_ _=>rfl)) (Aa (pv 5) Ab)))))))))))))),?_⟩
  have hx:=id I.h
  obtain⟨a8,g1,g2,y1,y2,y3,y4,y5,y6,y7⟩:=hx.dp
  obtain⟨vb,b1,b2⟩:=hx.b
  obtain⟨vn,n1,n2⟩:=hx.n
  have lb:=b2.length
  have ln:=n2.length
  have lk:=I.k.lk
  have lr:=I.l
  have gb:=Cz.k (k:=Sum.inr "boards") g1
  rw[y2] at gb
  have g:=Cz.k (k:=Sum.inr "knobs") g1
  rw[y4] at g
  refine⟨_,rfl,_,rfl,A.p,_,rfl,gb,A.b,_,rfl,kU (.inl b1),c,52501,_,rfl,(by show (0:Int)<((vb.length:Nat):Int);omega),by decide,by decide,λu u0 u1=>?_⟩
  obtain⟨b,hb⟩:=de u0
  subst hb
  obtain⟨x1,k7⟩:∃ x,S.bs[b]? = some x:=⟨_,af (by omega)⟩
  have AS:=I.k.nj I.b k7
  refine⟨_,rfl,_,rfl,A.p,_,rfl,gb,A.b,_,rfl,kU (.inl b1),c,65003,_,rfl,(by show (0:Int)<((vb.length:Nat):Int);omega),by decide,by decide,λu' PU YV=>?_⟩
  obtain⟨b',ng⟩:=de PU
  subst ng
  obtain⟨x2,pb⟩:∃ x,S.bs[b']? = some x:=⟨_,af (by omega)⟩
  have HV:=I.k.nj I.b pb
  refine⟨_,rfl,c,31547,13,rfl,by decide,by decide,by decide,λsh RA Op=>⟨_,_,rfl,rfl,?_⟩⟩
  show Dw 5 (V.int (sh - 6)) _ _ _
  obtain⟨sv,es⟩:∃ sv,sh - 6=sv:=⟨_,rfl⟩
  rw[es]
  refine⟨_,rfl,c,44623,4,rfl,by decide,by decide,by decide,λz z0 z1=>⟨rfl,_,rfl,Br (λ_=>?_) (λ_=>?_)⟩⟩
  ·refine⟨_,rfl,_,_,rfl,rfl,⟨by decide,by decide⟩,_,_,rfl,rfl,(by show (0:Int)<121;decide),_,_,rfl,rfl,?_⟩
   show Dw 5 (V.int (c / 7 % 121 - 60)) _ _ _
   obtain⟨sw,ew⟩:∃ sw,c / 7 % 121 - 60=sw:=⟨_,rfl⟩
   rw[ew]
   refine⟨_,rfl,A.p,_,rfl,g,.inl ⟨rfl,_,kU n1⟩,_,rfl,by show 2<=sizeLine;decide,λT3 hT3=>?_⟩
   have s3:=Aw (o:=HO.tup [V.str "coupler",.str (Ec bb S.rows.length)]) hT3
   have t3:TupAt (upd H T3 (HO.tup [V.str "coupler",.str (Ec bb S.rows.length)])) (dW ⟨"coupler",Ec bb S.rows.length,[.str x1.1,.str x2.1,.int sw]⟩) (.ref T3):=⟨T3,rfl,Af⟩
   generalize upd H T3 (HO.tup [V.str "coupler",.str (Ec bb S.rows.length)])=H3 at s3 t3 |-
   have h3:=(hx.mono s3).YZ (s3 _ _ n1) t3
   refine⟨A.n,vn,_,rfl,rfl,s3 _ _ n1,Av (by omega),?_⟩
   generalize upd H3 A.n _=H4 at h3 |-
   obtain⟨tP,sP,_,_,w2,_,_,w5,_,w7⟩:=h3.dp
   obtain⟨vd,d1,d2,d3⟩:=h3.d
   have gd:=Cz.k (k:=Sum.inr "details") sP
   rw[w5] at gd
   refine⟨_,rfl,A.p,_,rfl,gd,.inl ⟨rfl,_,kU d1⟩,_,rfl,_,rfl,_,rfl,by show 3<=sizeLine;decide,λT5 mw=>?_⟩
   have s5:=Aw (o:=HO.tup [V.int (b:Nat),.int (b':Nat),.int sw]) mw
   have t5:Ie (upd H4 T5 (HO.tup [V.int (b:Nat),.int (b':Nat),.int sw])) (.coup b b' sw,[]) (.ref T5):=⟨T5,rfl,Af⟩
   generalize upd H4 T5 (HO.tup [V.int (b:Nat),.int (b':Nat),.int sw])=H5 at s5 t5 |-
   have h5:=(h3.mono s5).Xd (s5 _ _ d1) t5 (λL' oz=>nomatch oz)
   have ld3:vd.length<=100:=by
    have ld:=d3.length
    rw[iA] at ld
    have:S.ds.length=S.ks.length:=I.k.pd.length.symm
    have:vd.length<=S.ds.length:=by
     rw[<-ld]
     exact kt _ _
    omega
   refine⟨A.d,vd,_,rfl,rfl,s5 _ _ d1,Av (by omega),?_⟩
   generalize upd H5 A.d _=H6 at h5 |-
   obtain⟨rb,rc,_,_,u2,_⟩:=h5.dp
   obtain⟨B1,ua,uq⟩:=h5.b
   have gb:=Cz.k (k:=Sum.inr "boards") rc
   rw[u2] at gb
   obtain⟨yb,tJ,Tb,rfl,ue⟩:=CJ uq k7
   obtain⟨KO,v9,EH,rfl,wg⟩:=CJ uq pb
   refine⟨_,rfl,_,rfl,A.p,_,rfl,gb,_,rfl,A.b,_,_,_,rfl,rfl,kU ua,Aq tJ,Tb,_,_,_,rfl,rfl,kU ue,Aq (j:=0) rfl,_,rfl,A.p,_,rfl,gb,_,rfl,A.b,_,_,_,rfl,rfl,kU ua,Aq v9,EH,_,_,_,rfl,rfl,kU wg,Aq (j:=0) rfl,_,rfl,by show 5<=sizeLine;decide,λT6 hT6=>?_⟩
   exact q ⟨"coupler",Ec bb S.rows.length,[.str x1.1,.str x2.1,.int sw]⟩ _ _ _ _ _ (h5.mono (Aw hT6)) rfl ⟨T6,rfl,Af⟩ (I.k.Xk (by omega) rfl ⟨rfl,x1,x2,k7,pb,rfl⟩ (I.k.bl.SQ I.F.f (GR I.b _) (I.k.fb (by omega)) (I.k.fr (by omega)) (I.k.fk (by omega)) tm (n:=x1.2) (m:=x2.2) AS (al k7) HV (al pb) (by omega) (by omega)) (.inl rfl)) hb1
  ·refine⟨_,rfl,A.p,_,rfl,g,.inl ⟨rfl,_,kU n1⟩,_,rfl,by show 2<=sizeLine;decide,λT3 hT3=>?_⟩
   have s3:=Aw (o:=HO.tup [V.str "coupler",.str (Ec bb S.rows.length)]) hT3
   have t3:TupAt (upd H T3 (HO.tup [V.str "coupler",.str (Ec bb S.rows.length)])) (dW ⟨"coupler",Ec bb S.rows.length,[.str x1.1,.str x2.1,.int sv]⟩) (.ref T3):=⟨T3,rfl,Af⟩
   generalize upd H T3 (HO.tup [V.str "coupler",.str (Ec bb S.rows.length)])=H3 at s3 t3 |-
   have h3:=(hx.mono s3).YZ (s3 _ _ n1) t3
   refine⟨A.n,vn,_,rfl,rfl,s3 _ _ n1,Av (by omega),?_⟩
   generalize upd H3 A.n _=H4 at h3 |-
   obtain⟨tP,sP,_,_,w2,_,_,w5,_,w7⟩:=h3.dp
   obtain⟨vd,d1,d2,d3⟩:=h3.d
   have gd:=Cz.k (k:=Sum.inr "details") sP
   rw[w5] at gd
   refine⟨_,rfl,A.p,_,rfl,gd,.inl ⟨rfl,_,kU d1⟩,_,rfl,_,rfl,_,rfl,by show 3<=sizeLine;decide,λT5 mw=>?_⟩
   have s5:=Aw (o:=HO.tup [V.int (b:Nat),.int (b':Nat),.int sv]) mw
   have t5:Ie (upd H4 T5 (HO.tup [V.int (b:Nat),.int (b':Nat),.int sv])) (.coup b b' sv,[]) (.ref T5):=⟨T5,rfl,Af⟩
   generalize upd H4 T5 (HO.tup [V.int (b:Nat),.int (b':Nat),.int sv])=H5 at s5 t5 |-
   have h5:=(h3.mono s5).Xd (s5 _ _ d1) t5 (λL' oz=>nomatch oz)
   have ld3:vd.length<=100:=by
    have ld:=d3.length
    rw[iA] at ld
    have:S.ds.length=S.ks.length:=I.k.pd.length.symm
    have:vd.length<=S.ds.length:=by
     rw[<-ld]
     exact kt _ _
    omega
   refine⟨A.d,vd,_,rfl,rfl,s5 _ _ d1,Av (by omega),?_⟩
   generalize upd H5 A.d _=H6 at h5 |-
   obtain⟨rb,rc,_,_,u2,_⟩:=h5.dp
   obtain⟨B1,ua,uq⟩:=h5.b
   have gb:=Cz.k (k:=Sum.inr "boards") rc
   rw[u2] at gb
   obtain⟨yb,tJ,Tb,rfl,ue⟩:=CJ uq k7
   obtain⟨KO,v9,EH,rfl,wg⟩:=CJ uq pb
   refine⟨_,rfl,_,rfl,A.p,_,rfl,gb,_,rfl,A.b,_,_,_,rfl,rfl,kU ua,Aq tJ,Tb,_,_,_,rfl,rfl,kU ue,Aq (j:=0) rfl,_,rfl,A.p,_,rfl,gb,_,rfl,A.b,_,_,_,rfl,rfl,kU ua,Aq v9,EH,_,_,_,rfl,rfl,kU wg,Aq (j:=0) rfl,_,rfl,by show 5<=sizeLine;decide,λT6 hT6=>?_⟩
   exact q ⟨"coupler",Ec bb S.rows.length,[.str x1.1,.str x2.1,.int sv]⟩ _ _ _ _ _ (h5.mono (Aw hT6)) rfl ⟨T6,rfl,Af⟩ (I.k.Xk (by omega) rfl ⟨rfl,x1,x2,k7,pb,rfl⟩ (I.k.bl.SQ I.F.f (GR I.b _) (I.k.fb (by omega)) (I.k.fr (by omega)) (I.k.fk (by omega)) tm (n:=x1.2) (m:=x2.2) AS (al k7) HV (al pb) (by omega) (by omega)) (.inl rfl)) hb1
noncomputable def e_ (K:W.Frag) (aB aP aM:Addr):Sp:=λvs H Q _=>∃ (H0:Hp) (A:MK) (S:Pl) (Cs:List Addr) (lo:V) (bb:Str) (c:Int),vs=[.ref A.p,.int c]/\O9 K aB aP aM H0 H A S Cs lo bb/\0<(S.ks.filter λr=>decide (V.str r.w=V.str "stop")).length/\S.ch.length<12/\1<=S.bs.length/\K6 K aB aP aM bb H0 A S Q
theorem W2:BL ["_law_plan_here","_law_cell","_law_stops","_law_chosen","_law_k","_law_one"] ["_law_plan_here","_law_cell"] (Ah gJ):=CT
include N T in
theorem gm:A_ P w K mg base Bh 2 aD.fLt aD.dLt ["_law_plan_here","_law_cell"] (e_ K aB aP aM):=by
 refine N.FLt.1.ok W2 (λvs H Q E h=>?_) (λb9 A outer s H vs Q E hr h=>?_)
 ·obtain⟨H0,A,S,Cs,lo,bb,c,rfl,_⟩:=h
  rfl
 ·obtain⟨H0,A,S,Cs,lo,bb,c,rfl,I,MB,tm,hb1,q⟩:=h
  have hu:=Gf hr
  refine⟨_,(Ae (Xy (i:=2) W2.nd rfl rfl rfl (Bd (osc:=Ah gJ) (N:=["_law_plan_here","_law_cell","_law_stops","_law_chosen","_law_k","_law_one"]) rfl rfl (by decide +kernel)) (Gg rfl T.range (Aa (Aj Ay rfl T.len aT (Aa (Be hu (pv 0) An (λ_ _=>rfl)) Ab)) Ab)) (λ_ _ _ _=>(M6 (BR DQ (BW (BK (K:=K) rfl) (BW (Hm (K:=K) rfl) (Be hu (pv 1) An (λ_ _=>rfl)) (pv 0) (λ_ _=>rfl)) Ac (λ_ _=>rfl)) An (BZ _)))) (λ_ _ _ _=>(pv 0)))
   (Ae (Bf (i:=3) W2.nd rfl (Or.inl rfl) (Bo Ab))
   (Ae (Fb PassesOwn.never rfl (Gg rfl T.range (Aa (BJ Dc Ac (Ai (J7 N T) (ad hr) rfl N.FMi.2.2 N.FMi.1.kp N.FMi.2.1 .nil Az (Aa (pv 1) (Aa Ac (Aa Ac Ab))))) Ab)) (Cr (i:=4) W2.nd rfl (Or.inl rfl)) (Ae (Bf (i:=5) W2.nd rfl (Or.inl rfl) (BW Cj (pv 2) (Ai (J7 N T) (ad hr) rfl N.FMi.2.2 N.FMi.1.kp N.FMi.2.1 .nil Az (Aa (BJ Dc (BJ Ej (pv 1) Ac) (BJ Hk (pv 4) (pv 4))) (Aa Ac (Aa (Aj Ay rfl T.len aT (Aa (pv 2) Ab)) Ab)))) (λ_ _=>rfl)))
   (Ag (Bj (BR JM (pv 5) (pv 3) rfl) (Ag (Cv (CV bE bX cb Bv (pv 3) (Aa (pv 5) Ab)))) BV))))
   (Ae (Cv (CV bE bX cb Bv (Be hu (pv 0) An (λ_ _=>rfl)) (Aa (pv 3) Ab)))
   (Ag (Ar (Dv Ik rfl T.tuple gL (Aa (BJ Ef (Bo (Aa An Ab)) (Bp rfl (Bd (osc:=Ah gJ) (N:=["_law_plan_here","_law_cell","_law_stops","_law_chosen","_law_k","_law_one"]) rfl rfl (by decide +kernel)) (B_ (pv 3)) (λ_ _ _ _=>CK) (λ_ _ _ _=>(BW (BK (K:=K) rfl) (BW (Hm (K:=K) rfl) (Be hu (pv 1) An (λ_ _=>rfl)) (pv 0) (λ_ _=>rfl)) Ac (λ_ _=>rfl))))) Ab)))))))),?_⟩
  have hx:=id I.h
  obtain⟨a8,g1,g2,y1,y2,y3,y4,y5,y6,y7⟩:=hx.dp
  obtain⟨vn,n1,n2⟩:=hx.n
  have ln:S.ks.length=vn.length:=n2.length
  have lk:=I.k.lk
  have lr:=I.l
  have g:=Cz.k (k:=Sum.inr "knobs") g1
  rw[y4] at g
  have sp:=V4 MB
  refine⟨_,rfl,A.p,_,rfl,g,A.n,_,rfl,kU (.inl n1),_,rfl,by omega,by omega,?_⟩
  refine Qm (lo:=0) (n:=vn.length) (λi=>YJ S.ks i.toNat) (λi=>.int i) (Av (by omega)) (λi hi H' hs R k=>?_) (λi hi _ H' hs R k=>⟨_,rfl,k H' (Ak.refl H')⟩) (λD1 H1 CM s1 hl1=>?_)
  ·have g':=Cz.k (k:=Sum.inr "knobs") (hs _ _ g1)
   rw[y4] at g'
   obtain⟨kr,hkr⟩:∃ x,S.ks[i]? = some x:=⟨_,af (by omega)⟩
   obtain⟨yn,DC,Tn,rfl,zJ⟩:=CJ n2 hkr
   refine⟨_,rfl,A.p,_,rfl,g',_,rfl,A.n,_,_,_,rfl,rfl,kU (hs _ _ n1),(by rw[ky];exact Aq DC),Tn,_,_,_,rfl,rfl,kU (hs _ _ zJ),Aq (j:=0) rfl,rfl,_,rfl,?_⟩
   have:=k H' (Ak.refl H')
   unfold YJ at this
   rw[ky,eJ,hkr] at this
   exact this
  have e1:((((List.range vn.length).map λ(i:Nat)=>(0:Int)+(i:Int)).filter λi=>YJ S.ks i.toNat).map λi=>V.int i)=RJ (J_ S.ks):=by
   unfold J_ RJ
   rw[<-ln,ff,bg]
   have:(λi:Int=>YJ S.ks i.toNat) ∘ (λi:Nat=>(0:Int)+(i:Int))=YJ S.ks:=by
    funext i
    show YJ S.ks ((0:Int)+(i:Int)).toNat=_
    rw[ky,eJ]
   rw[this]
   refine fi λi _=>?_
   show V.int (0+(i:Int))=_
   rw[ky]
  rw[e1] at hl1
  have lst:(J_ S.ks).length<=S.ks.length:=by
   unfold J_
   exact bp (fz _ _) (by rw[fS];exact ar _)
  refine⟨Bx (by simp),λD2 zL=>?_⟩
  have old:=(I.h.mono s1).old zL
  have s2:=Aw (o:=HO.lst []) zL
  have l2:upd H1 D2 (HO.lst []) D2=some (.lst (RJ [])):=Af
  generalize upd H1 D2 (HO.lst [])=H2 at s2 l2 |-
  refine⟨_,rfl,c,69623,3,rfl,by decide,by decide,by decide,λm m0 m1=>⟨_,_,rfl,rfl,_,rfl,by omega,by omega,?_⟩⟩
  obtain⟨mn,XE⟩:=de (by omega:0<=1+m)
  refine Jl (lo:=0) (n:=(1+m).toNat) (λi σ H4=>Ak H1 H4/\∃ (ch:List Nat) (v4 v5:Option V),H4 D2=some (.lst (RJ ch))/\ch.Nodup/\(∀ x∈ch,x∈J_ S.ks)/\ch.length<=i/\(0<i->ch ≠ [])/\σ=[some (.ref A.p),some (.int c),some (.ref D1),some (.ref D2),v4,v5]) ⟨s2,[],_,_,l2,ic,(λ_ z=>nomatch z),ar _,(λz=>absurd z (by omega)),rfl⟩ ?_ ?_
  ·rintro i σ H4 hi ⟨s4,ch,v4,v5,hd,nd,hin,IR,hne,rfl⟩
   have hi4:i<4:=by omega
   have y9:=s4 _ _ hl1
   have esz:((RJ (J_ S.ks)).length:Nat)=(J_ S.ks).length:=ae ..
   refine⟨_,rfl,_,rfl,_,_,rfl,rfl,⟨by decide,by decide⟩,_,rfl,_,rfl,_,_,rfl,rfl,.inl ⟨by omega,by omega⟩,_,_,rfl,rfl,_,rfl,D1,_,rfl,kU (.inl y9),_,48281,_,rfl,(by show (0:Int)<(((RJ (J_ S.ks)).length:Nat):Int);omega),by decide,by decide,λz z0 z1=>?_⟩
   obtain⟨j,hj⟩:=de z0
   subst hj
   obtain⟨on,IA⟩:∃ x,(J_ S.ks)[j]? = some x:=⟨_,af (by omega)⟩
   have hon':(RJ (J_ S.ks))[j]? = some (V.int (on:Nat)):=by rw[br,IA];rfl
   refine⟨D1,_,_,_,rfl,rfl,kU y9,Aq hon',?_⟩
   refine⟨_,rfl,_,rfl,D2,_,rfl,kU (.inl hd),rfl,We _,_,rfl,?_⟩
   rw[YD]
   by_cases hm:on∈ch
   ·rw[decide_eq_true hm]
    exact Ce ⟨s4,ch,_,_,hd,nd,hin,by omega,λ_ z=>(by rw[z] at hm;exact nomatch hm),rfl⟩
   ·rw[decide_eq_false hm]
    refine De ⟨_,rfl,.inl ⟨rfl,_,kU hd⟩,_,rfl,D2,_,_,rfl,rfl,hd,Av (by rw[ae];omega),?_⟩
    refine⟨Dq s4 zL,ch++[on],_,_,?_,?_,λx hx=>?_,by simp;omega,λ_=>by simp,rfl⟩
    ·rw[Af]
     unfold RJ
     rw[ce]
     rfl
    ·exact List.nodup_append.mpr ⟨nd,by simp,λx hx y hy z=>hm (by rw[<-List.mem_singleton.mp hy,<-z];exact hx)⟩
    ·rcases ba.mp hx with z | z
     ·exact hin x z
     ·rw[ax.mp z]
      exact al IA
  ·rintro σ H4 ⟨s4,ch,v4,v5,hd,nd,hin,IR,hne,rfl⟩
   have h4:=I.h.mono (s1.trans s4)
   obtain⟨tP,sP,_,_,_,_,_,_,u6,_⟩:=h4.dp
   have gs:=Cz.k (k:=Sum.inr "steps") sP
   rw[u6] at gs
   have lcs:Cs.length=S.ch.length:=h4.c.length
   obtain⟨i0,cc,rfl⟩:∃ i0 cc,ch=i0::cc:=by
    cases ch with
    | nil=>exact absurd rfl (hne (by omega))
    | cons a b=>exact⟨a,b,rfl⟩
   have h5:=h4.Ei (C:=D2) (l:=i0::cc) hd old.2
   have hd5:upd H4 A.s (HO.lst (Cs.map V.ref++[.ref D2])) D2=some (.lst (RJ (i0::cc))):=by
    rw[Ao λz=>old.2 (by rw[z];simp)]
    exact hd
   refine⟨_,rfl,A.p,_,rfl,gs,.inl ⟨rfl,_,kU h4.s⟩,_,rfl,A.s,_,_,rfl,rfl,h4.s,Av (by rw[ae];omega),?_⟩
   generalize upd H4 A.s (HO.lst (Cs.map V.ref++[.ref D2]))=H5 at h5 hd5 |-
   refine⟨by show 1<=sizeLine;decide,λp6 vF=>?_⟩
   obtain⟨H6,d0,s6,l6⟩:=CN (o:=HO.lst [V.str "step"]) vF
   rw[d0]
   have h6:=h5.mono s6
   have hS6:Dg K H6 D2 (RJ (i0::cc)):=.inl (.inl (s6 _ _ hd5))
   obtain⟨rb,rc,_,_,_,_,u4,_⟩:=h6.dp
   obtain⟨YI,n16,n26⟩:=h6.n
   refine⟨_,rfl,D2,rfl,⟨_,hS6⟩,Dk (K:=K) (xs:=RJ (i0::cc)) (λ_=>true) (pD S.ks) hS6 (Av (by rw[ae];omega)) (λy hy H' hs R k=>k H' (Ak.refl H')) (λy hy _ H' hs R k=>?_) (λD7 H7 NS s7 xA=>?_)⟩
   ·obtain⟨i,hi,rfl⟩:=ay.mp hy
    obtain⟨kr,hkr,_⟩:=Ov (hin i hi)
    obtain⟨yn,DC,Tn,rfl,zJ⟩:=CJ n26 hkr
    have g':=Cz.k (k:=Sum.inr "knobs") (hs _ _ rc)
    rw[u4] at g'
    refine⟨_,rfl,A.p,_,rfl,g',_,rfl,A.n,_,_,_,rfl,rfl,kU (hs _ _ n16),Aq DC,Tn,_,_,_,rfl,rfl,kU (hs _ _ zJ),Aq (j:=1) rfl,?_⟩
    have:=k H' (Ak.refl H')
    unfold pD at this
    dsimp only at this
    rw[eJ,RP hkr] at this
    exact this
   rw[bi.mpr (λ_ _=>rfl)] at xA
   have e7:(RJ (i0::cc)).map (pD S.ks)=V.str (Jy S.ks i0)::(cc.map (Jy S.ks)).map V.str:=by
    unfold RJ
    rw[bg,cS,bg]
    rfl
   rw[e7] at xA
   refine⟨p6,D7,_,_,rfl,rfl,s7 _ _ l6,xA,by (show 1+((cc.map (Jy S.ks)).map V.str).length+1<=sizeLine);rw[List.length_map,List.length_map];simp only[List.length_cons] at IR;exact Bx (by omega),λp8 zh=>?_⟩
   have s8:=Aw (o:=HO.lst ([V.str "step"]++(V.str (Jy S.ks i0)::(cc.map (Jy S.ks)).map V.str))) zh
   refine⟨p8,_,rfl,.inl ⟨.inl (.inl Af),λT9 N2=>?_⟩⟩
   have s9:=Aw (o:=HO.tup ([V.str "step"]++(V.str (Jy S.ks i0)::(cc.map (Jy S.ks)).map V.str))) N2
   exact q ⟨"step",Jy S.ks i0,(cc.map (Jy S.ks)).map V.str⟩ _ _ _ _ _ (h6.mono (s7.trans (s8.trans s9))) rfl ⟨T9,rfl,Af⟩ (I.k.step I.F.mT I.b nd (by omega) (λi hi=>Ov (hin i hi)) tm) hb1
theorem Y0 {c:TT} {t u:TS} {D:Ends} {σ:St} {H:Hp} (C:Bool->Hp->Prop) (hc:∀ Q:Bool->Hp->Prop,(∀ H1,C true H1->Q true H1)->(∀ H1,C false H1->Q false H1)->c σ H Q) (ht:∀ H1,C true H1->t { D with nx:=u D } σ H1) (hu:∀ H1,C false H1->u D σ H1):aO (Xe c t Y8) u D σ H :=
 hc _ (λH1 h=>by rw[if_pos rfl];exact ht H1 h) (λH1 h=>by rw[if_neg cy];exact hu H1 h)
noncomputable def fM (K:W.Frag) (aB aP aM:Addr):Sp:=λvs H Q _=>∃ (H0:Hp) (A:MK) (S:Pl) (Cs:List Addr) (lo:V) (bb:Str) (c:Int),vs=[.ref A.p,.str (Ec bb S.rows.length),.int c]/\O9 K aB aP aM H0 H A S Cs lo bb/\K6 K aB aP aM bb H0 A S Q/\∀ H',Ak H H'->1<=S.bs.length->Q .non H'
theorem cC:BL ["_law_plan_here","_law_name_here","_law_cell","_law_way","_law_at"] ["_law_plan_here","_law_name_here","_law_cell"] (Ah qH):=CT
include N T in
theorem jY:A_ P w K mg base Bh 3 aD.fLr aD.dLr ["_law_plan_here","_law_name_here","_law_cell"] (fM K aB aP aM):=by
 refine N.FLr.1.ok cC (λvs H Q E h=>?_) (λb9 A outer s H vs Q E hr h=>?_)
 ·obtain⟨H0,A,S,Cs,lo,bb,c,rfl,_⟩:=h
  rfl
 ·obtain⟨H0,A,S,Cs,lo,bb,c,rfl,I,q,qn⟩:=h
  have hu:=Gf hr
  refine⟨_,(Ae (Bf (i:=3) cC.nd rfl (Or.inl rfl) (Ai (J7 N T) (ad hr) rfl N.FMi.2.2 N.FMi.1.kp N.FMi.2.1 .nil Az (Aa (pv 2) (Aa Ac (Aa Ac Ab)))))
   (Ae (Bj (BR (Mm (Nat.lt_of_succ_lt hu)) (Be hu (pv 0) An (λ_ _=>rfl)) (Bo Ab) (BZ _)) (Ag (Ar (Ai (jw N T) (ad hr) rfl N.FLb.2.2 N.FLb.1.kp N.FLb.2.1 .nil Az (Aa (pv 0) (Aa (pv 1) (Aa (pv 2) Ab)))))) BV)
   (Ae (Bj (PW.pt (GQ (BR (Mm (Nat.lt_of_succ_lt hu)) (Be hu (pv 0) An (λ_ _=>rfl)) (Bo Ab) (BZ _)) (FW (PW.pt (Gw (BR DQ (pv 3) Ac (BZ _)) (Gx (BR Fj (Aj Ay rfl T.len aT (Aa (Be hu (pv 0) An (λ_ _=>rfl)) Ab)) Ac (BZ _)))))))) (Ag (Ar (Ai (ji N T) (ad hr) rfl N.FLk.2.2 N.FLk.1.kp N.FLk.2.1 .nil Az (Aa (pv 0) (Aa (pv 1) (Aa (pv 2) Ab)))))) BV)
   (Ae (Bj (PW.pt (Gw (BR DQ (pv 3) Ac (BZ _)) (Gx (BR Fj (Aj Ay rfl T.len aT (Aa (Be hu (pv 0) An (λ_ _=>rfl)) Ab)) Ac (BZ _))))) (Ag (Ar (Ai (jw N T) (ad hr) rfl N.FLb.2.2 N.FLb.1.kp N.FLb.2.1 .nil Az (Aa (pv 0) (Aa (pv 1) (Aa (pv 2) Ab)))))) BV)
   (Ae (Bj (PW.pt (Gw (BR Fj (pv 3) Ac (BZ _)) (Gw (BR Sq (Be hu (pv 0) An (λ_ _=>rfl)) FQ (BZ _)) (Gx (BR Fj (Aj Ay rfl T.len aT (Aa (Be hu (pv 0) An (λ_ _=>rfl)) Ab)) Ac (BZ _)))))) (Ag (Ar (Ai (jP N T) (ad hr) rfl N.FLl.2.2 N.FLl.1.kp N.FLl.2.1 .nil Az (Aa (pv 0) (Aa (pv 2) Ab))))) BV)
   (Ae (Bj (PW.pt (Gw (BR Fj (pv 3) Ac (BZ _)) (Gx (BR Fj (Ai (jl N T) (ad hr) rfl N.FMa.2.2 N.FMa.1.kp N.FMa.2.1 .nil Az (Aa (pv 0) (Aa An Ab))) Ac (BZ _))))) (Ag (Ar (Ai (gO N T) (ad hr) rfl N.FLs.2.2 N.FLs.1.kp N.FLs.2.1 .nil Az (Aa (pv 0) (Aa (pv 1) (Aa (pv 2) Ab)))))) BV)
   (Ae (Bj (PW.pt (Gw (BR DQ (pv 3) Ac (BZ _)) (Gx (BR Fj (Ai (jl N T) (ad hr) rfl N.FMa.2.2 N.FMa.1.kp N.FMa.2.1 .nil Az (Aa (pv 0) (Aa An Ab))) Ac (BZ _))))) (Ae (Bf (i:=4) cC.nd rfl (Or.inl rfl) (Ai (J7 N T) (ad hr) rfl N.FMi.2.2 N.FMi.1.kp N.FMi.2.1 .nil Az (Aa (pv 2) (Aa Ac (Aa (Aj Ay rfl T.len aT (Aa (Be hu (pv 0) An (λ_ _=>rfl)) Ab)) Ab)))))
   (Ae (Cv (CV bE bX cb Bv (Be hu (pv 0) An (λ_ _=>rfl)) (Aa (DW (Aa An (Aa (pv 1) Ab))) Ab)))
   (Ae (Cv (CV bE bX cb Bv (Be hu (pv 0) An (λ_ _=>rfl)) (Aa (pv 4) Ab)))
   (Ag (Ar (DW (Aa An (Aa (pv 1) (Aa (BW (BK (K:=K) rfl) (BW Cj (Be hu (pv 0) An (λ_ _=>rfl)) (pv 4) (λ_ _=>rfl)) Ac (λ_ _=>rfl)) Ab))))))))) BV)
   (Ae (Bj (PW.pt (Gw (BR DQ (pv 3) Ac (BZ _)) (Gw (BR jV (Ai (jl N T) (ad hr) rfl N.FMa.2.2 N.FMa.1.kp N.FMa.2.1 .nil Az (Aa (pv 0) (Aa An Ab))) Ac (BZ _)) (Gx (BR Fj (Aj Ay rfl T.len aT (Aa (Be hu (pv 0) An (λ_ _=>rfl)) Ab)) Ac (BZ _)))))) (Ag (Ar (Ai (gm N T) (ad hr) rfl N.FLt.2.2 N.FLt.1.kp N.FLt.2.1 .nil Az (Aa (pv 0) (Aa (pv 2) Ab))))) BV)
   (Ae (Bj (BR Fj (Ai (jl N T) (ad hr) rfl N.FMa.2.2 N.FMa.1.kp N.FMa.2.1 .nil Az (Aa (pv 0) (Aa An Ab))) Ac (BZ _)) (Ag (Ar (Ai (kj N T) (ad hr) rfl N.FLc.2.2 N.FLc.1.kp N.FLc.2.1 .nil Az (Aa (pv 0) (Aa (pv 1) (Aa (pv 2) Ab)))))) BV)
   (Ag (Ar FQ))))))))))),?_⟩
  have lr:=I.l
  have lk:=I.k.lk
  have up:∀ {H1:Hp},Ak H H1->O9 K aB aP aM H0 H1 A S Cs lo bb:=λs1=>⟨I.h.mono s1,I.k,I.b,I.l,I.F⟩
  refine⟨_,rfl,c,48271,12,rfl,by decide,by decide,by decide,λWC w0 w1=>?_⟩
  dsimp only[Dw]
  refine Y0 (λb H1=>Ak H H1/\(b=true->S.bs.length<5)/\(b=false->1<=S.bs.length)) (λQ' qt qf=>?_) (λH1 hC=>?_) (λH1 hC=>?_)
  ·obtain⟨a8,g1,g2,y1,y2,y3,y4,y5,y6,y7⟩:=I.h.dp
   obtain⟨vb,b1,b2⟩:=I.h.b
   have lb:S.bs.length=vb.length:=b2.length
   have gb:=Cz.k (k:=Sum.inr "boards") g1
   rw[y2] at gb
   refine⟨_,rfl,A.p,_,rfl,gb,Bx (by simp),λE1 Ct=>?_⟩
   have s1:=Aw (o:=HO.lst []) Ct
   have l1:upd H E1 (HO.lst []) E1=some (.lst []):=Af
   refine⟨A.b,E1,_,rfl,rfl,kU (s1 _ _ b1),kU l1,_,rfl,?_⟩
   cases vb with
   | nil=>exact qt _ ⟨s1,λ_=>by rw[lb];decide,λz=>nomatch z⟩
   | cons a b'=>exact qf _ ⟨s1,(λz=>nomatch z),λ_=>by rw[lb];simp⟩
  ·exact⟨_,rfl,_,rfl,_,rfl,H0,A,S,Cs,lo,bb,c,rfl,up hC.1,hC.2.1 rfl,q⟩
  have s1:=hC.1
  have hb1:=hC.2.2 rfl
  clear hC
  refine Y0 (λb H2=>Ak H H2/\(b=true->S.rk.length<12)/\(b=false->1<=S.rk.length)) (λQ' qt qf=>?_) (λH2 hC=>?_) (λH2 hC=>?_)
  ·obtain⟨a8,g1,g2,y1,y2,y3,y4,y5,y6,y7⟩:=(I.h.mono s1).dp
   obtain⟨vb,b1,b2⟩:=(I.h.mono s1).k
   have lb:S.rk.length=vb.length:=b2.length
   have gb:=Cz.k (k:=Sum.inr "ranks") g1
   rw[y3] at gb
   refine⟨_,rfl,A.p,_,rfl,gb,Bx (by simp),λE1 Ct=>?_⟩
   have s2:=Aw (o:=HO.lst []) Ct
   have l1:upd H1 E1 (HO.lst []) E1=some (.lst []):=Af
   refine⟨A.k,E1,_,rfl,rfl,kU (s2 _ _ b1),kU l1,_,rfl,?_⟩
   have gb2:=Cz.k (k:=Sum.inr "ranks") (s2 _ _ g1)
   rw[y3] at gb2
   cases vb with
   | nil=>exact qt _ ⟨s1.trans s2,λ_=>by rw[lb];decide,λz=>nomatch z⟩
   | cons a b' =>
    have h1r:1<=S.rk.length:=by rw[lb];simp
    refine⟨_,rfl,rfl,_,rfl,Br (λ_=>?_) (λ_=>qf _ ⟨s1.trans s2,(λz=>nomatch z),λ_=>h1r⟩)⟩
    refine⟨_,rfl,A.p,_,rfl,gb2,A.k,_,rfl,kU (.inl (s2 _ _ b1)),_,_,rfl,rfl,_,rfl,?_⟩
    by_cases hh:S.rk.length<12
    ·rw[decide_eq_true (by rw[<-lb];omega:((((a::b').length:Nat):Int))<12)]
     exact qt _ ⟨s1.trans s2,λ_=>hh,λz=>nomatch z⟩
    ·rw[decide_eq_false (by rw[<-lb];omega:¬ ((((a::b').length:Nat):Int))<12)]
     exact qf _ ⟨s1.trans s2,(λz=>nomatch z),λ_=>h1r⟩
  ·exact⟨_,rfl,_,rfl,_,rfl,H0,A,S,Cs,lo,bb,c,rfl,up hC.1,hC.2.1 rfl,hb1,q⟩
  have s2:=hC.1
  have hr1:=hC.2.2 rfl
  clear hC s1
  refine Y0 (λb H3=>Ak H H3/\(b=true->S.bs.length<5)) (λQ' qt qf=>?_) (λH3 hC=>?_) (λH3 hC=>?_)
  ·obtain⟨a8,g1,g2,y1,y2,y3,y4,y5,y6,y7⟩:=(I.h.mono s2).dp
   obtain⟨vb,b1,b2⟩:=(I.h.mono s2).b
   have lb:S.bs.length=vb.length:=b2.length
   have gb:=Cz.k (k:=Sum.inr "boards") g1
   rw[y2] at gb
   refine⟨_,rfl,rfl,_,rfl,Br (λ_=>?_) (λ_=>qf _ ⟨s2,λz=>nomatch z⟩)⟩
   refine⟨_,rfl,A.p,_,rfl,gb,A.b,_,rfl,kU (.inl b1),_,_,rfl,rfl,_,rfl,?_⟩
   by_cases hh:S.bs.length<5
   ·rw[decide_eq_true (by rw[<-lb];omega:((vb.length:Nat):Int)<5)]
    exact qt _ ⟨s2,λ_=>hh⟩
   ·rw[decide_eq_false (by rw[<-lb];omega:¬ ((vb.length:Nat):Int)<5)]
    exact qf _ ⟨s2,λz=>nomatch z⟩
  ·exact⟨_,rfl,_,rfl,_,rfl,H0,A,S,Cs,lo,bb,c,rfl,up hC.1,hC.2 rfl,q⟩
  have s3:=hC.1
  clear hC s2
  refine Y0 (λb H4=>Ak H H4/\(b=true->∃ mI b L x mf l0,S.ds=mI++[Dt.stop b L]/\S.ls=mf++[l0]/\lo=V.ref L/\S.bs[b]? = some x/\Tl S.rows x.1 l0.length/\l0.length<4)) (λQ' qt qf=>?_) (λH4 hC=>?_) (λH4 hC=>?_)
  ·obtain⟨a8,g1,g2,y1,y2,y3,y4,y5,y6,y7⟩:=(I.h.mono s3).dp
   have gb:=Cz.k (k:=Sum.inr "lines") g1
   rw[y7] at gb
   refine⟨_,rfl,_,_,rfl,rfl,_,rfl,Br (λ_=>?_) (λ_=>qf _ ⟨s3,λz=>nomatch z⟩)⟩
   refine⟨_,rfl,A.p,_,rfl,gb,?_⟩
   refine⟨rfl,_,rfl,?_⟩
   rcases I.k.op with rfl | ⟨mI,b,L,x,mf,l0,e1,e2,rfl,hx,hT⟩
   ·exact Ce (qf _ ⟨s3,λz=>nomatch z⟩)
   obtain⟨vd,d1,d2,d3⟩:=(I.h.mono s3).d
   have ld:mI.length=mf.length:=by
    have:=d2
    rw[e1,e2] at this
    simpa using this
   rw[e1,e2,iq ld] at d3
   obtain⟨ED,ud,rfl,_,FS⟩:=G9 d3
   obtain⟨_,ts,hL,ml⟩:=FS
   have lts:l0.length=ts.length:=ml.length
   refine De ⟨_,rfl,A.p,_,rfl,gb,L,_,rfl,kU (.inl hL),_,_,rfl,rfl,_,rfl,?_⟩
   by_cases hh:l0.length<4
   ·rw[decide_eq_true (by omega:((ts.length:Nat):Int)<4)]
    exact qt _ ⟨s3,λ_=>⟨mI,b,L,x,mf,l0,e1,e2,rfl,hx,hT,hh⟩⟩
   ·rw[decide_eq_false (by omega:¬ ((ts.length:Nat):Int)<4)]
    exact qf _ ⟨s3,λz=>nomatch z⟩
  ·obtain⟨s4,hC⟩:=hC
   obtain⟨mI,b,L,x,mf,l0,e1,e2,rfl,hx,hT,hh⟩:=hC rfl
   exact⟨_,rfl,_,rfl,H0,A,S,Cs,bb,c,mI,b,L,x,mf,l0,rfl,up s4,e1,e2,hx,hT,hh,hr1,q⟩
  have s4:=hC.1
  clear hC s3
  refine Y0 (λb H5=>Ak H H5/\(b=true->(S.ks.filter λr=>decide (V.str r.w=V.str "stop")).length<24)) (λQ' qt qf=>?_) (λH5 hC=>?_) (λH5 hC=>?_)
  ·refine⟨_,rfl,_,_,rfl,rfl,_,rfl,Br (λ_=>?_) (λ_=>qf _ ⟨s4,λz=>nomatch z⟩)⟩
   refine⟨_,rfl,H0,A,S,Cs,lo,"stop",rfl,I.h.mono s4,by omega,λH9 s9=>⟨_,_,rfl,rfl,_,rfl,?_⟩⟩
   by_cases hh:(S.ks.filter λr=>decide (V.str r.w=V.str "stop")).length<24
   ·rw[decide_eq_true (by omega:(((S.ks.filter λr=>decide (V.str r.w=V.str "stop")).length:Nat):Int)<24)]
    exact qt _ ⟨s4.trans s9,λ_=>hh⟩
   ·rw[decide_eq_false (by omega:¬ (((S.ks.filter λr=>decide (V.str r.w=V.str "stop")).length:Nat):Int)<24)]
    exact qf _ ⟨s4.trans s9,λz=>nomatch z⟩
  ·exact⟨_,rfl,_,rfl,_,rfl,H0,A,S,Cs,lo,bb,c,rfl,up hC.1,hb1,hC.2 rfl,q⟩
  have s5:=hC.1
  clear hC s4
  refine Y0 (λb H6=>Ak H H6/\(b=true->(S.ks.filter λr=>decide (V.str r.w=V.str "mute")).length<5)) (λQ' qt qf=>?_) (λH6 hC=>?_) (λH6 hC=>?_)
  ·refine⟨_,rfl,rfl,_,rfl,Br (λ_=>?_) (λ_=>qf _ ⟨s5,λz=>nomatch z⟩)⟩
   refine⟨_,rfl,H0,A,S,Cs,lo,"mute",rfl,I.h.mono s5,by omega,λH9 s9=>⟨_,_,rfl,rfl,_,rfl,?_⟩⟩
   by_cases hh:(S.ks.filter λr=>decide (V.str r.w=V.str "mute")).length<5
   ·rw[decide_eq_true (by omega:(((S.ks.filter λr=>decide (V.str r.w=V.str "mute")).length:Nat):Int)<5)]
    exact qt _ ⟨s5.trans s9,λ_=>hh⟩
   ·rw[decide_eq_false (by omega:¬ (((S.ks.filter λr=>decide (V.str r.w=V.str "mute")).length:Nat):Int)<5)]
    exact qf _ ⟨s5.trans s9,λz=>nomatch z⟩
  ·obtain⟨s6,Bn⟩:=hC
   have Bn:=Bn rfl
   have hx:=I.h.mono s6
   obtain⟨a8,g1,g2,y1,y2,y3,y4,y5,y6,y7⟩:=hx.dp
   obtain⟨vb,b1,b2⟩:=hx.b
   obtain⟨vn,n1,n2⟩:=hx.n
   have lb:S.bs.length=vb.length:=b2.length
   have ln:S.ks.length=vn.length:=n2.length
   have gb:=Cz.k (k:=Sum.inr "boards") g1
   rw[y2] at gb
   have g:=Cz.k (k:=Sum.inr "knobs") g1
   rw[y4] at g
   refine⟨_,rfl,_,rfl,A.p,_,rfl,gb,A.b,_,rfl,kU (.inl b1),c,50021,_,rfl,(by show (0:Int)<((vb.length:Nat):Int);omega),by decide,by decide,λu u0 u1=>?_⟩
   obtain⟨b,hb⟩:=de u0
   subst hb
   obtain⟨x1,k7⟩:∃ x,S.bs[b]? = some x:=⟨_,af (by omega)⟩
   have AS:=I.k.nj I.b k7
   refine⟨_,rfl,A.p,_,rfl,g,.inl ⟨rfl,_,kU n1⟩,_,rfl,by show 2<=sizeLine;decide,λT3 hT3=>?_⟩
   have s3:=Aw (o:=HO.tup [V.str "mute",.str (Ec bb S.rows.length)]) hT3
   have t3:TupAt (upd H6 T3 (HO.tup [V.str "mute",.str (Ec bb S.rows.length)])) (dW ⟨"mute",Ec bb S.rows.length,[.str x1.1]⟩) (.ref T3):=⟨T3,rfl,Af⟩
   generalize upd H6 T3 (HO.tup [V.str "mute",.str (Ec bb S.rows.length)])=H7 at s3 t3 |-
   have h3:=(hx.mono s3).YZ (s3 _ _ n1) t3
   refine⟨A.n,vn,_,rfl,rfl,s3 _ _ n1,Av (by omega),?_⟩
   generalize upd H7 A.n _=H8 at h3 |-
   obtain⟨tP,sP,_,_,w2,_,_,w5,_,w7⟩:=h3.dp
   obtain⟨vd,d1,d2,d3⟩:=h3.d
   have gd:=Cz.k (k:=Sum.inr "details") sP
   rw[w5] at gd
   have h5:=h3.Xd d1 (x:=.mute b) (v:=.int (b:Nat)) rfl (λL' oz=>nomatch oz)
   have ld3:vd.length<=100:=by
    have ld:=d3.length
    rw[iA] at ld
    have:S.ds.length=S.ks.length:=I.k.pd.length.symm
    have:vd.length<=S.ds.length:=by
     rw[<-ld]
     exact kt _ _
    omega
   refine⟨_,rfl,A.p,_,rfl,gd,.inl ⟨rfl,_,kU d1⟩,_,rfl,A.d,vd,_,rfl,rfl,d1,Av (by omega),?_⟩
   generalize upd H8 A.d _=H9 at h5 |-
   obtain⟨rb,rc,_,_,u2,_⟩:=h5.dp
   obtain⟨B1,ua,uq⟩:=h5.b
   have gb:=Cz.k (k:=Sum.inr "boards") rc
   rw[u2] at gb
   obtain⟨yb,tJ,Tb,rfl,ue⟩:=CJ uq k7
   refine⟨_,rfl,_,rfl,A.p,_,rfl,gb,_,rfl,A.b,_,_,_,rfl,rfl,kU ua,Aq tJ,Tb,_,_,_,rfl,rfl,kU ue,Aq (j:=0) rfl,by show 3<=sizeLine;decide,λT6 hT6=>?_⟩
   exact q ⟨"mute",Ec bb S.rows.length,[.str x1.1]⟩ _ _ _ _ _ (h5.mono (Aw hT6)) rfl ⟨T6,rfl,Af⟩ (I.k.Xk (by omega) rfl ⟨rfl,x1,k7,rfl⟩ (I.k.bl.plain I.F.f (.inr rfl) (GR I.b _) (I.k.fb (by omega)) (I.k.fr (by omega)) (I.k.fk (by omega)) (by show _<5;exact Bn) (n:=x1.2) AS (List.mem_of_getElem? k7)) (.inl rfl)) hb1
  have s6:=hC.1
  clear hC s5
  refine Y0 (λb H7=>Ak H H7/\(b=true->0<(S.ks.filter λr=>decide (V.str r.w=V.str "stop")).length/\S.ch.length<12)) (λQ' qt qf=>?_) (λH7 hC=>?_) (λH7 hC=>?_)
  ·refine⟨_,rfl,rfl,_,rfl,Br (λ_=>?_) (λ_=>qf _ ⟨s6,λz=>nomatch z⟩)⟩
   refine⟨_,rfl,H0,A,S,Cs,lo,"stop",rfl,I.h.mono s6,by omega,λH9 s9=>⟨_,_,rfl,rfl,_,rfl,Br (λh0=>?_) (λ_=>qf _ ⟨s6.trans s9,λz=>nomatch z⟩)⟩⟩
   have W':=of_decide_eq_true h0
   have hx:=I.h.mono (s6.trans s9)
   obtain⟨a8,g1,g2,y1,y2,y3,y4,y5,y6,y7⟩:=hx.dp
   have g:=Cz.k (k:=Sum.inr "steps") g1
   rw[y6] at g
   have lc:Cs.length=S.ch.length:=hx.c.length
   refine⟨_,rfl,A.p,_,rfl,g,A.s,_,rfl,kU (.inl hx.s),_,_,rfl,rfl,_,rfl,?_⟩
   by_cases hh:S.ch.length<12
   ·rw[decide_eq_true (by rw[ae];omega:(((Cs.map V.ref).length:Nat):Int)<12)]
    exact qt _ ⟨s6.trans s9,λ_=>⟨by omega,hh⟩⟩
   ·rw[decide_eq_false (by rw[ae];omega:¬ (((Cs.map V.ref).length:Nat):Int)<12)]
    exact qf _ ⟨s6.trans s9,λz=>nomatch z⟩
  ·exact⟨_,rfl,_,rfl,H0,A,S,Cs,lo,bb,c,rfl,up hC.1,(hC.2 rfl).1,(hC.2 rfl).2,hb1,q⟩
  have s7:=hC.1
  clear hC s6
  refine Y0 (λb H8=>Ak H H8/\(b=true->(S.ks.filter λr=>decide (V.str r.w=V.str "coupler")).length<12)) (λQ' qt qf=>?_) (λH8 hC=>?_) (λH8 hC=>?_)
  ·refine⟨_,rfl,H0,A,S,Cs,lo,"coupler",rfl,I.h.mono s7,by omega,λH9 s9=>⟨_,_,rfl,rfl,_,rfl,?_⟩⟩
   by_cases hh:(S.ks.filter λr=>decide (V.str r.w=V.str "coupler")).length<12
   ·rw[decide_eq_true (by omega:(((S.ks.filter λr=>decide (V.str r.w=V.str "coupler")).length:Nat):Int)<12)]
    exact qt _ ⟨s7.trans s9,λ_=>hh⟩
   ·rw[decide_eq_false (by omega:¬ (((S.ks.filter λr=>decide (V.str r.w=V.str "coupler")).length:Nat):Int)<12)]
    exact qf _ ⟨s7.trans s9,λz=>nomatch z⟩
  ·exact⟨_,rfl,_,rfl,_,rfl,H0,A,S,Cs,lo,bb,c,rfl,up hC.1,hb1,hC.2 rfl,q⟩
  exact qn _ hC.1 hb1
noncomputable def lF (rows:List R):Prop:=∀ r,rows[0]? = some r->r.w=("board" : Str)
theorem Rm {K:W.Frag} {aB aP aM:Addr} {rows:List R} {bs:List (Str × Nat)} {rk:List (Str × Nat × Int)} {ks:List R} {ls:List (List Ln)} {f':List Nat} {r:R} (h:lF rows) (bl:HY K aB aP aM (rows++[r]) bs rk ks ls f') (hb:1<=bs.length):lF (rows++[r]):=by
 cases rows with
 | nil =>
  intro r2 e
  cases e
  refine Classical.byContradiction λhw=>?_
  have ok:=bl.ok (λ_=>r) [V.non] rfl
  have eb:=ok.eb
  rw[dS,if_neg (by intro z;exact hw (V.str.inj (of_decide_eq_true z)))] at eb
  have:bs.length=0:=by have:=congrArg List.length eb;simpa using this.symm
  omega
 | cons a l=>exact h
structure Ks (K:W.Frag) (aB aP aM:Addr) (H0 H:Hp) (A:MK) (S:Pl) (Cs:List Addr):Prop where
 h:∃ lo,Bg H0 H A S Cs lo
 k:∃ bb lo,Ib bb/\Ed K aB aP aM bb S lo
 b1:1<=S.bs.length
 l:S.rows.length<=61
 f0:lF S.rows
noncomputable def j9 (K:W.Frag) (aB aP aM:Addr):Sp:=λvs H Q _=>∃ (a:Addr) (st:Nat) (ns:List Int),vs=[.ref a,.int (st:Nat)]/\Dg K H a (ns.map V.int)/\ns.length<=1000000/\lW K aB aP aM/\∀ (A:MK) (S:Pl) (Cs:List Addr) H',Ks K aB aP aM H H' A S Cs->Q (.ref A.p) H'
theorem WT:BL ["_law_script","_law_start","_law_plan_here","_law_base_here","_law_cell","_law_row_here"] ["_law_script","_law_start"] (Ah qM):=CT
include N T in
theorem g_:A_ P w K mg base Bh 4 aD.fLp aD.dLp ["_law_script","_law_start"] (j9 K aB aP aM):=by
 refine N.FLp.1.ok WT (λvs H Q E h=>?_) (λb9 A outer s H vs Q E hr h=>?_)
 ·obtain⟨a,st,ns,rfl,_⟩:=h
  rfl
 ·obtain⟨a,st,ns,rfl,hS,hz,F,q⟩:=h
  have hu:=Gf hr
  refine⟨_,(@Ae _ _ _ _ _ (@Ck _ _ _ _ _ _ 2 WT.nd rfl (Or.inl rfl) (@Rj _ _ _ _ _ (@FN _ _ _ _ _ _ _ _ _ An (@Bo _ _ _ _ Ab) (@FN _ _ _ _ _ _ _ _ _ An (@Bo _ _ _ _ Ab) (@FN _ _ _ _ _ _ _ _ _ An (@Bo _ _ _ _ Ab) (@FN _ _ _ _ _ _ _ _ _ An (@Bo _ _ _ _ Ab) (@FN _ _ _ _ _ _ _ _ _ An (@Bo _ _ _ _ Ab) (@FN _ _ _ _ _ _ _ _ _ An (@Bo _ _ _ _ Ab) (@FN _ _ _ _ _ _ _ _ _ An FQ Rf))))))) rfl rfl (fg _ _) (by decide)) rfl (Or.inl rfl))
   (Ae (Bf (i:=3) WT.nd rfl (Or.inl rfl) (Ai (iH N T) (ad hr) rfl N.FBb.2.2 N.FBb.1.kp N.FBb.2.1 .nil Az (Aa (Ai (je N T) (ad hr) rfl N.FCe.2.2 N.FCe.1.kp N.FCe.2.1 .nil Az (Aa (pv 0) (Aa Ac Ab))) Ab)))
   (Ae (Fb PassesOwn.never rfl (B_ (BJ Ef (Cg Ey (pv 0) (Cu (pv 1)) (Cu (BJ Dc (pv 1) Ac))) (Bo (Aa (Ai (je N T) (ad hr) rfl N.FCe.2.2 N.FCe.1.kp N.FCe.2.1 .nil Az (Aa (pv 0) (Aa Ac Ab))) Ab)))) (Cr (i:=4) WT.nd rfl (Or.inl rfl)) (Ae (Bf (i:=5) WT.nd rfl (Or.inl rfl) (Ai (jY N T) (ad hr) rfl N.FLr.2.2 N.FLr.1.kp N.FLr.2.1 .nil Az (Aa (pv 2) (Aa (Ai (iu N T) (ad hr) rfl N.FNn.2.2 N.FNn.1.kp N.FNn.2.1 .nil Az (Aa (pv 3) (Aa (Aj Ay rfl T.len aT (Aa (Be hu (pv 2) An (λ_ _=>rfl)) Ab)) Ab))) (Aa (pv 4) Ab)))))
   (Ag (Bj (BR Sq (pv 5) FQ (BZ _)) (Ae (Cv (CV bE bX cb Bv (Be hu (pv 2) An (λ_ _=>rfl)) (Aa (pv 5) Ab)))
   (Ag (Bj (BR JM (BW (BK (K:=K) rfl) (pv 5) Ac (λ_ _=>rfl)) (DW (Aa An (Aa An Ab))) rfl) (Ag (Nh hu (pv 2) An FQ rfl)) BV))) BV))))
   (Ag (Ar (pv 2)))))),?_⟩
  intro p hp
  obtain⟨H1,d0,s0,e0⟩:=CN (o:=HO.dK []) hp
  rw[d0]
  refine⟨Bx (by simp),λa1 h1=>?_⟩
  obtain⟨H2,d0,s1,e1⟩:=CN (o:=HO.lst []) h1
  rw[d0]
  refine⟨Bx (by simp),λa2 h2=>?_⟩
  obtain⟨H3,d0,s2,e2⟩:=CN (o:=HO.lst []) h2
  rw[d0]
  refine⟨Bx (by simp),λa3 h3=>?_⟩
  obtain⟨H4,d0,s3,e3⟩:=CN (o:=HO.lst []) h3
  rw[d0]
  refine⟨Bx (by simp),λa4 h4=>?_⟩
  obtain⟨H5,d0,s4,e4⟩:=CN (o:=HO.lst []) h4
  rw[d0]
  refine⟨Bx (by simp),λa5 h5=>?_⟩
  obtain⟨H6,d0,s5,e5⟩:=CN (o:=HO.lst []) h5
  rw[d0]
  refine⟨Bx (by simp),λa6 h6=>?_⟩
  obtain⟨H7,d0,s6,e6⟩:=CN (o:=HO.lst []) h6
  rw[d0]
  have n12:a1 ≠ a2:=Al e1 h2
  have n13:a1 ≠ a3:=Al (s2 _ _ e1) h3
  have n14:a1 ≠ a4:=Al (s3 _ _ (s2 _ _ e1)) h4
  have n15:a1 ≠ a5:=Al (s4 _ _ (s3 _ _ (s2 _ _ e1))) h5
  have n16:a1 ≠ a6:=Al (s5 _ _ (s4 _ _ (s3 _ _ (s2 _ _ e1)))) h6
  have n23:a2 ≠ a3:=Al e2 h3
  have n24:a2 ≠ a4:=Al (s3 _ _ e2) h4
  have n25:a2 ≠ a5:=Al (s4 _ _ (s3 _ _ e2)) h5
  have n26:a2 ≠ a6:=Al (s5 _ _ (s4 _ _ (s3 _ _ e2))) h6
  have n34:a3 ≠ a4:=Al e3 h4
  have n35:a3 ≠ a5:=Al (s4 _ _ e3) h5
  have n36:a3 ≠ a6:=Al (s5 _ _ (s4 _ _ e3)) h6
  have n45:a4 ≠ a5:=Al e4 h5
  have n46:a4 ≠ a6:=Al (s5 _ _ e4) h6
  have n56:a5 ≠ a6:=Al e5 h6
  have s07:Ak H H7:=s0.trans (s1.trans (s2.trans (s3.trans (s4.trans (s5.trans s6)))))
  have hN:=Bg.new s07 hp (s0.free h1) (s0.free (s1.free h2)) (s0.free (s1.free (s2.free h3))) (s0.free (s1.free (s2.free (s3.free h4)))) (s0.free (s1.free (s2.free (s3.free (s4.free h5))))) (s0.free (s1.free (s2.free (s3.free (s4.free (s5.free h6)))))) (s6 _ _ (s5 _ _ (s4 _ _ (s3 _ _ (s2 _ _ (s1 _ _ (e0))))))) (s6 _ _ (s5 _ _ (s4 _ _ (s3 _ _ (s2 _ _ (e1)))))) (s6 _ _ (s5 _ _ (s4 _ _ (s3 _ _ (e2))))) (s6 _ _ (s5 _ _ (s4 _ _ (e3)))) (s6 _ _ (s5 _ _ (e4))) (s6 _ _ (e5)) e6 (by simp[n12,n13,n14,n15,n16,n23,n24,n25,n26,n34,n35,n36,n45,n46,n56])
  refine⟨s6 _ _ (s5 _ _ (s4 _ _ (s3 _ _ (s2 _ _ (s1 _ _ (e0)))))),Jf a1 a2 a3 a4 a5 a6,rfl,(by show 7<=15;decide),?_⟩
  generalize upd H7 p _=H8 at hN |-
  have Ch:=hN.sm.seq hS
  refine⟨_,rfl,a,0,ns,rfl,Ch,λi0=>⟨i0,rfl,λbb rg=>?_⟩⟩
  obtain⟨ms,A9,KU⟩:=Mx ns (lo:=(st:Int)) (hi:=(st:Int)+60) (by omega) (by omega)
  refine⟨_,rfl,_,rfl,_,rfl,_,rfl,_,_,rfl,rfl,_,rfl,a,_,rfl,Ch,λp8 zh=>?_⟩
  have t8:=Aw (o:=HO.lst (Cm (ns.map V.int) (some (st:Int)) (some ((st:Int)+60)))) zh
  have l8:upd H8 p8 (HO.lst (Cm (ns.map V.int) (some (st:Int)) (some ((st:Int)+60)))) p8=_:=Af
  generalize upd H8 p8 (HO.lst (Cm (ns.map V.int) (some (st:Int)) (some ((st:Int)+60))))=H9 at t8 l8 |-
  rw[A9] at l8
  refine⟨_,rfl,a,0,ns,rfl,t8.seq Ch,λi1=>⟨by show 1<=sizeLine;decide,λp9 EM=>?_⟩⟩
  obtain⟨uy,d0,t9,l9⟩:=CN (o:=HO.lst [V.int i1]) EM
  rw[d0]
  refine⟨p8,p9,_,_,rfl,rfl,t9 _ _ l8,l9,Bx (by rw[List.length_map];show ms.length+1<=1000;omega),λsD rS=>?_⟩
  have ecs:ms.map V.int++[V.int i1]=(ms++[i1]).map V.int:=by rw[ce];rfl
  rw[ecs]
  obtain⟨vW,d0,vc,l10⟩:=CN (o:=HO.lst ((ms++[i1]).map V.int)) rS
  rw[d0]
  have t811:Ak H8 vW:=t8.trans (t9.trans vc)
  have lcs:(ms++[i1]).length<=61:=by rw[aE,bv];omega
  have lc1:1<=(ms++[i1]).length:=by rw[aE,bv];omega
  generalize ms++[i1]=cs at l10 lcs lc1 |-
  have o10:∀ {b:Addr} {u:HO},H8 b=some u->b ≠ sD:=λ{b u} e=>Al (t9 _ _ (t8 _ _ e)) rS
  obtain⟨W1,q8,_⟩:=hN.dp
  obtain⟨_,VA,_⟩:=hN.r
  obtain⟨_,Ki,_⟩:=hN.b
  obtain⟨_,VC,_⟩:=hN.k
  obtain⟨_,P8,_⟩:=hN.n
  obtain⟨_,Kj,_⟩:=hN.d
  have RU:=(hN.mono t811).stand l10 (o10 q8) (λb hb=>by
   simp only[List.mem_cons] at hb
   rcases hb with rfl | rfl | rfl | rfl | rfl | rfl | z
   ·exact o10 VA
   ·exact o10 Ki
   ·exact o10 VC
   ·exact o10 P8
   ·exact o10 Kj
   ·exact o10 hN.s
   ·exact nomatch z)
  have hz10:H sD=none:=hN.sm.free (t8.free (t9.free rS))
  have hS11:Dg K vW sD (cs.map V.int):=.inl (.inl l10)
  refine⟨sD,rfl,⟨_,hS11⟩,Jb (K:=K) (a:=sD) (xs:=cs.map V.int) (λi σ H4=>∃ (S:Pl) (Cs:List Addr) (lo:V),Bg (upd H sD (.lst (cs.map V.int))) H4 ⟨p,a1,a2,a3,a4,a5,a6⟩ S Cs lo/\Ed K aB aP aM bb S lo/\S.rows.length<=i/\(0<i->1<=S.bs.length)/\lF S.rows/\∃ v4 v5,σ=[some (.ref a),some (.int (st:Int)),some (.ref p),some (.str bb),v4,v5])
   ⟨_,_,_,RU,Ed.new bb,ar _,(λz=>absurd z (by omega)),(λr e=>nomatch e),_,_,rfl⟩ (λi σ H4 _ h=>?_) ?_ ?_⟩
  ·obtain⟨S,Cs,lo,hl,_⟩:=h
   exact .inl (.inl (hl.sm _ _ Af))
  ·rintro i x σ H4 hx ⟨S,Cs,lo,h4,k4,lr,F4,f4,v4,v5,rfl⟩
   rw[br] at hx
   obtain⟨c,hc,rfl⟩:=ee.mp hx
   have hi:i<cs.length:=(ai.mp hc).1
   obtain⟨a8,g1,g2,y1,y2,y3,y4,y5,y6,y7⟩:=h4.dp
   obtain⟨vr,r1,r2⟩:=h4.r
   have lr2:S.rows.length=vr.length:=r2.length
   have gr:=Cz.k (k:=Sum.inr "rows") g1
   rw[y1] at gr
   refine⟨_,rfl,_,rfl,_,rfl,p,_,rfl,gr,a1,_,rfl,kU (.inl r1),bb,vr.length,rfl,rg.1,by omega,_,rfl,_,⟨p,a1,a2,a3,a4,a5,a6⟩,S,Cs,lo,bb,c,by rw[lr2];rfl,⟨h4,k4,rg,by omega,F⟩,?_,?_⟩
   ·intro r y S' IJ rd H5 hA uU hT hk ng
    obtain⟨T5,rfl,mw⟩:=hT
    obtain⟨Mb,Pp,YU,u1,_,_,_,_,_,u7⟩:=hA.dp
    obtain⟨AU,AI,Uf⟩:=hA.r
    have lr5:S'.rows.length=AU.length:=Uf.length
    have IP:=Cz.k (k:=Sum.inr "rows") Pp
    rw[u1] at IP
    have hB:=hA.l_ AI (r:=r) (v:=.ref T5) ⟨T5,rfl,mw⟩
    have eS:({ S' with rows:=S'.rows++[r] }:Pl) = { S' with rows:=S.rows++[r] }:=by rw[uU]
    rw[eS] at hB
    have hT6:upd H5 a1 (HO.lst (AU++[.ref T5])) T5=some (.tup r.v):=by
     rw[Ao (Oz mw AI (by intro z;cases z))]
     exact mw
    have lr':S'.rows.length=S.rows.length:=by rw[uU]
    refine⟨_,rfl,rfl,_,rfl,De ⟨_,rfl,p,_,rfl,IP,.inl ⟨rfl,_,kU AI⟩,_,rfl,a1,AU,_,rfl,rfl,AI,Av (by omega),?_⟩⟩
    generalize upd H5 a1 (HO.lst (AU++[.ref T5]))=H6 at hB hT6 |-
    refine⟨_,rfl,T5,_,_,_,rfl,rfl,kU hT6,Aq (j:=0) rfl,by show 2<=sizeLine;decide,λq2 DS=>?_⟩
    have s7:=Aw (o:=HO.tup [V.str "stop",.str "line"]) DS
    have l7:upd H6 q2 (HO.tup [V.str "stop",.str "line"]) q2=some (.tup [V.str "stop",.str "line"]):=Af
    generalize upd H6 q2 (HO.tup [V.str "stop",.str "line"])=H7' at s7 l7 |-
    have BM:=hB.mono s7
    refine⟨q2,_,rfl,.inr (.inl (.inl l7)),rfl,rfl,_,rfl,?_⟩
    by_cases hw:r.w = "stop" \/ r.w = "line"
    ·rw[(qm r.w).mpr hw]
     have elo:mZ r rd=rd:=if_pos hw
     rw[elo] at hk
     exact Ce ⟨_,_,_,BM,hk,by simp;omega,(λ_=>ng),Rm f4 hk.bl ng,_,_,rfl⟩
    ·rw[(fF _).mp λz=>hw ((qm r.w).mp z)]
     have elo:mZ r rd=.non:=if_neg hw
     rw[elo] at hk
     obtain⟨GE,Ic,WH,_⟩:=BM.dp
     refine De ⟨_,rfl,p,_,rfl,RX.k (k:=Sum.inr "lines") Ic (Av (by omega)),?_⟩
     exact⟨_,_,_,BM.fY Ic .non,hk,by simp;omega,(λ_=>ng),Rm f4 hk.bl ng,_,_,rfl⟩
   ·intro H5 s5 xY
    refine⟨_,rfl,rfl,_,rfl,Ce ?_⟩
    exact⟨S,Cs,lo,h4.mono s5,k4,by omega,(λ_=>xY),f4,_,_,rfl⟩
  ·rintro σ H4 ⟨S,Cs,lo,h4,k4,lr,F4,f4,v4,v5,rfl⟩
   rw[ae] at lr F4
   exact⟨_,rfl,q _ S Cs H4 ⟨⟨lo,h4.weak hz10⟩,⟨bb,lo,rg,k4⟩,F4 (by omega),by omega,f4⟩⟩
noncomputable def ZQ:Sp:=λvs H Q _=>∃ z:Str,vs=[.str z,.str M8,.int 12]/\z.length<=1000/\∀ H',Ak H H'->Q (.bl (decide (1<=(LL z).length) && decide ((LL z).length<=12) && (LL z).all Nm.dig)) H'
include N T in
theorem b8:A_ P w K mg base Bh 1 aD.fMd aD.dMd ["text","signs","most"] ZQ:=by
 refine N.FMd.1.ok aV (λvs H Q E h=>?_) (λb9 A outer s H vs Q E hr h=>?_)
 ·obtain⟨z,rfl,_⟩:=h
  rfl
 ·obtain⟨z,rfl,hz,q⟩:=h
  refine⟨_,(Ag (Ar (CQ (Gk FJ FJ Ac (Aj Gz rfl T.len aT (Aa (pv 0) Ab)) (pv 2)) (By (Aj (FP rfl) rfl T.all ej (Aa (Bp rfl (Bd (osc:=Ah dI) (N:=["text","signs","most"]) rfl rfl (by decide +kernel)) (Qu (pv 0)) (λ_ _ _ _=>CK) (λ_ _ _ _=>(DY Je (pv 0) (pv 2) rfl))) Ab)))))),?_⟩
  have hzl:z.length<sizeLine:=Av hz
  have hl:=E_ z
  refine⟨_,rfl,z,rfl,fw hzl,_,_,rfl,rfl,_,rfl,?_⟩
  refine Br (λh1=>?_) (λh1=>?_)
  ·have h1':1<=(LL z).length:=by have:=of_decide_eq_true h1;omega
   rw[decide_eq_true h1'] at q
   refine⟨_,rfl,_,_,rfl,rfl,_,rfl,?_⟩
   refine Br (λh2=>?_) (λh2=>?_)
   ·have h2':(LL z).length<=12:=by have:=of_decide_eq_true h2;omega
    rw[decide_eq_true h2',gI,gI] at q
    refine⟨_,rfl,z,rfl,Km (λ_=>true) (λc=>.bl (Rk M8 c)) hzl (λc hc H' hs R k=>k H' (Ak.refl H')) (λc hc _ H' hs R k=>⟨_,rfl,_,rfl,_,_,rfl,rfl,k H' (Ak.refl H')⟩) (λD H' hD hs hl2=>?_)⟩
    refine⟨D,z.cps.toList.map (Rk M8),rfl,.inl (.inl ?_),?_⟩
    ·rw[hl2,bi.mpr (λ_ _=>rfl),bg]
     rfl
    ·have:=q H' hs
     rw[kC]
     have e:(id ∘ Rk M8)=Nm.dig:=funext YS
     rw[e]
     exact this
   ·have h2':¬ (LL z).length<=12:=λe=>h2 (decide_eq_true (by omega))
    have:=q H (Ak.refl H)
    rw[decide_eq_false h2',gI,dQ] at this
    exact this
  ·have h1':¬ 1<=(LL z).length:=λe=>h1 (decide_eq_true (by omega))
   refine⟨_,rfl,?_⟩
   have:=q H (Ak.refl H)
   rw[decide_eq_false h1',dQ,dQ] at this
   exact Ce this
noncomputable def bO:Sp:=λvs H Q _=>∃ z:Str,vs=[.str z]/\z.length<=1000/\∀ H',Ak H H'->Q (.bl (Nm.JG (LL z))) H'
theorem k_:BL ["thing","figures"] ["thing"] (Ah pF):=CT
include N T in
theorem ZR:A_ P w K mg base Bh 2 aD.fIn aD.dIn ["thing"] bO:=by
 refine N.FIn.1.ok k_ (λvs H Q E h=>?_) (λb9 A outer s H vs Q E hr h=>?_)
 ·obtain⟨z,rfl,_⟩:=h
  rfl
 ·obtain⟨z,rfl,hz,q⟩:=h
  obtain⟨tF,hF⟩:=T.fig
  obtain⟨tM,hM⟩:=T.mostF
  refine⟨_,(Ae (Bj (Cp (C_ (Aj Bs rfl T.isin ag (Aa (pv 0) (Aa (Ci (v:=.ty "str") rfl T.str eD rfl) Ab))))) (Ag (Ar Et)) BV)
   (Ae (Bj (BR DQ (pv 0) An (BZ _)) (Ag (Ar Et)) BV)
   (Ae (Bf (i:=1) k_.nd rfl (Or.inl rfl) (Od (C_ (CV bo PySem.F.slot_str_startswith PySem.F.type_str_startswith Lx (pv 0) (Aa An Ab))) (Cg aY (pv 0) (Cu Ac) Dj) (pv 0)))
   (Ag (Ar (CQ (Ai (b8 N T) (ad hr) rfl N.FMd.2.2 N.FMd.1.kp N.FMd.2.1 .nil Az (Aa (pv 1) (Aa (Bc (v:=.str M8) rfl hF ⟨tF,rfl⟩) (Aa (Bc (v:=.int 12) rfl hM ⟨tM,rfl⟩) Ab)))) (By (Jx (CV bo PySem.F.slot_str_startswith PySem.F.type_str_startswith Lx (pv 1) (Aa An Ab)))))))))),?_⟩
  refine⟨_,rfl,_,"str",_,_,rfl,.str z,J9,_,rfl,Ce ?_⟩
  refine⟨_,rfl,rfl,_,rfl,?_⟩
  refine Br (λh0=>?_) (λh0=>?_)
  ·have e:z = "0":=by injection of_decide_eq_true h0
   have q0:=q H (Ak.refl H)
   rw[e] at q0
   exact q0
  ·have Ix:¬ LL z=[48]:=λe=>h0 (decide_eq_true (congrArg V.str (Nb (y:="0") e)))
   refine⟨_,rfl,rfl,z,_,rfl,rfl,_,rfl,?_⟩
   rw[show Txt.startswith z "-" = _ from Hd z 45]
   refine Br (λhs=>?_) (λhs=>?_)
   ·have hne:1<=(LL z).length:=by
     cases hzl:LL z with
     | nil=>rw[show z.cps.toList=[] from hzl] at hs;cases hs
     | cons a r=>simp
    refine⟨_,rfl,_,rfl,z,rfl,fw (Av hz),?_⟩
    have hf:LL (Txt.slice z (some 1) none)=Nm.En (LL z):=(Ud hne).trans (by unfold Nm.En;rw[if_pos hs])
    have hl:((Txt.slice z (some 1) none):Str).length<=1000:=bp (Txt.slice_le z _ _) hz
    refine⟨_,rfl,(Txt.slice z (some 1) none),rfl,hl,λH1 s1=>?_⟩
    refine⟨_,rfl,?_⟩
    have q1:=q H1 s1
    have nv:Nm.JG (LL z)=(decide (LL z=[48]) || (decide (1<=(LL (Txt.slice z (some 1) none)).length) && decide ((LL (Txt.slice z (some 1) none)).length<=12) && (LL (Txt.slice z (some 1) none)).all Nm.dig && !((LL (Txt.slice z (some 1) none)).head? == some 48))):=by
     unfold Nm.JG
     rw[<-hf]
    rw[nv,decide_eq_false Ix,kH] at q1
    refine Br (λhb=>?_) (λhb=>?_)
    ·refine⟨_,rfl,rfl,(Txt.slice z (some 1) none),_,rfl,rfl,_,rfl,?_⟩
     rw[hb,gI] at q1
     rw[show Txt.startswith (Txt.slice z (some 1) none) "0" = _ from Hd (Txt.slice z (some 1) none) 48]
     exact q1
    ·rw[(fF _).mp hb,dQ] at q1
     exact q1
   ·refine⟨_,rfl,?_⟩
    have hf:LL z=Nm.En (LL z):=by unfold Nm.En;rw[if_neg hs]
    have hl:(z:Str).length<=1000:=hz
    refine⟨_,rfl,z,rfl,hl,λH1 s1=>?_⟩
    refine⟨_,rfl,?_⟩
    have q1:=q H1 s1
    have nv:Nm.JG (LL z)=(decide (LL z=[48]) || (decide (1<=(LL z).length) && decide ((LL z).length<=12) && (LL z).all Nm.dig && !((LL z).head? == some 48))):=by
     unfold Nm.JG
     rw[<-hf]
    rw[nv,decide_eq_false Ix,kH] at q1
    refine Br (λhb=>?_) (λhb=>?_)
    ·refine⟨_,rfl,rfl,z,_,rfl,rfl,_,rfl,?_⟩
     rw[hb,gI] at q1
     rw[show Txt.startswith z "0" = _ from Hd z 48]
     exact q1
    ·rw[(fF _).mp hb,dQ] at q1
     exact q1
noncomputable def rdXs:V->V
 | .str z=>rdW z
 | v=>v
noncomputable def dj:Sp:=λvs H Q _=>∃ (z:Str) (n:Int),vs=[.str z]/\LL z=Nm.wr n/\n.natAbs<10 ^ 12/\∀ H',Ak H H'->Q (.int n) H'
noncomputable def di:Sp:=λvs H Q _=>∃ z:Str,vs=[.str z]/\z.length<=1000/\∀ H',Ak H H'->Q (rdW z) H'
theorem oU:BL ["text"] ["text"] (Ah m_):=CT
include N T in
theorem il:A_ P w K mg base Bh 3 aD.fNf aD.dNf ["text"] dj:=by
 refine N.FNf.1.ok oU (λvs H Q E h=>?_) (λb9 A outer s H vs Q E hr h=>?_)
 ·obtain⟨z,n,rfl,_⟩:=h
  rfl
 ·obtain⟨z,n,rfl,hz,hn,q⟩:=h
  refine⟨_,(Ae (Bj (Cp (C_ (Ai (ZR N T) (ad hr) rfl N.FIn.2.2 N.FIn.1.kp N.FIn.2.1 .nil Az (Aa (pv 0) Ab)))) (Ag Gh) BV)
   (Ag (Ar (Dv Ld rfl T.int hW (Aa (pv 0) Ab))))),?_⟩
  have hl:=Nm.Qw hn
  rw[<-hz,<-E_] at hl
  refine⟨_,rfl,z,rfl,by omega,λH1 s1=>?_⟩
  rw[hz,Nm.Ww hn]
  refine⟨_,rfl,Ce ?_⟩
  exact⟨_,rfl,z,n,rfl,o8 hz hn,q H1 s1⟩
theorem qI:BL ["part"] ["part"] (Ah o_):=CT
include N T in
theorem gR:A_ P w K mg base Bh 4 aD.fRp aD.dRp ["part"] di:=by
 refine N.FRp.1.ok qI (λvs H Q E h=>?_) (λb9 A outer s H vs Q E hr h=>?_)
 ·obtain⟨z,rfl,_⟩:=h
  rfl
 ·obtain⟨z,rfl,hz,q⟩:=h
  refine⟨_,(Ag (Ar (Od (C_ (Ai (ZR N T) (ad hr) rfl N.FIn.2.2 N.FIn.1.kp N.FIn.2.1 .nil Az (Aa (pv 0) Ab))) (Ai (il N T) (ad hr) rfl N.FNf.2.2 N.FNf.1.kp N.FNf.2.1 .nil Az (Aa (pv 0) Ab)) (pv 0)))),?_⟩
  refine⟨_,rfl,z,rfl,hz,λH1 s1=>?_⟩
  cases hb:Nm.JG (LL z) with
  | true =>
   obtain⟨n,e,ez,hn⟩:=M4 hb
   rw[e] at q
   exact⟨_,rfl,De ⟨_,rfl,z,n,rfl,ez,hn,λH2 s2=>q H2 (s1.trans s2)⟩⟩
  | false =>
   rw[G6 hb] at q
   exact⟨_,rfl,Ce ⟨_,rfl,q H1 s1⟩⟩
noncomputable def aR (K:W.Frag):Sp:=λvs H Q _=>∃ z:Str,vs=[.str z]/\z.length<=900/\∀ (Ta:Addr) H',H Ta=none->Ak H H'->H' Ta=some (.tup (rdT z))->Q (.ref Ta) H'
noncomputable def jh (K:W.Frag):Sp:=λvs H Q _=>∃ (Ta:Addr) (xs:List V),vs=[.ref Ta]/\H Ta=some (.tup xs)/\(∀ x∈xs,OD x)/\xs.length<=30/\∀ H',Ak H H'->Q (.str (Bw xs)) H'
theorem pO:BL ["text"] ["text"] (Ah lD):=CT
include N T in
theorem Ze:A_ P w K mg base Bh 5 aD.fRr aD.dRr ["text"] (aR K):=by
 refine N.FRr.1.ok pO (λvs H Q E h=>?_) (λb9 A outer s H vs Q E hr h=>?_)
 ·obtain⟨z,rfl,_⟩:=h
  rfl
 ·obtain⟨z,rfl,hz,q⟩:=h
  refine⟨_,(Ag (Ar (Dv Ik rfl T.tuple gL (Aa (Bp rfl (Bd (osc:=Ah lD) (N:=["text"]) rfl rfl (by decide +kernel)) (B_ (CV bo gc ge Gm (pv 0) (Aa An Ab))) (λ_ _ _ _=>CK) (λ_ _ _ _=>(Ai (gR N T) (ad hr) rfl N.FRp.2.2 N.FRp.1.kp N.FRp.2.1 .nil Az (Aa (pv 0) Ab)))) Ab)))),?_⟩
  obtain⟨h1,h2⟩:=split_len z
  refine⟨_,rfl,rfl,z," ",rfl,rfl,by decide +kernel,Nat.le_trans hz (by show 900<=sizeLine;decide),Nat.le_trans (show (Txt.split z " ").length<=1000 by omega) (by show 1000<=sizeLine;decide),λp1 re=>?_⟩
  have ed:rdT z=((Txt.split z " ").map V.str).map rdXs:=by
   unfold rdT
   rw[bg]
   rfl
  rw[ed] at q
  generalize Txt.split z " " = ps at h1 h2 q |-
  obtain⟨H1,d0,s1,l1⟩:=CN (o:=HO.lst (ps.map V.str)) re
  rw[d0]
  have hS:Dg K H1 p1 (ps.map V.str):=.inl (.inl l1)
  refine⟨p1,rfl,⟨_,hS⟩,Dk (K:=K) (xs:=ps.map V.str) (λ_=>true) rdXs hS (Av (by rw[ae];omega)) (λy hy H' hs R k=>k H' (Ak.refl H')) (λy hy _ H' hs R k=>?_) (λD H2 hD s2 hl2=>?_)⟩
  ·obtain⟨t,ht,rfl⟩:=ay.mp hy
   have:=h2 t ht
   exact⟨_,rfl,t,rfl,by omega,λH3 s3=>k H3 s3⟩
  rw[bi.mpr (λ_ _=>rfl)] at hl2
  refine⟨D,_,rfl,.inl ⟨.inl (.inl hl2),λTa IU=>?_⟩⟩
  exact q Ta _ (s1.free (s2.free IU)) (s1.trans (s2.trans (Aw IU))) Af
theorem nG:BL ["row"] ["row"] (Ah lV):=CT
include N T in
theorem iZ:A_ P w K mg base Bh 1 aD.fSr aD.dSr ["row"] (jh K):=by
 refine N.FSr.1.ok nG (λvs H Q E h=>?_) (λb9 A outer s H vs Q E hr h=>?_)
 ·obtain⟨Ta,xs,rfl,_⟩:=h
  rfl
 ·obtain⟨Ta,xs,rfl,hT,hok,hl,q⟩:=h
  refine⟨_,(Ag (Ar (CV bo df dn Eh An (Aa (Bp rfl (Bd (osc:=Ah lV) (N:=["row"]) rfl rfl (by decide +kernel)) (Js (pv 0)) (λ_ _ _ _=>CK) (λ_ _ _ _=>(Dv Tu rfl T.str eD (Aa (pv 0) Ab)))) Ab)))),?_⟩
  have hS:Ga K H Ta xs:=.inl (.inl hT)
  refine⟨rfl,_,rfl,Ta,rfl,⟨_,hS⟩,JR (K:=K) (xs:=xs) (λ_=>true) (λv=>.str (Kw v)) hS (Av (by omega)) (λy hy H' hs R k=>k H' (Ak.refl H')) (λy hy _ H' hs R k=>?_) (λD H2 hD s2 hl2=>?_)⟩
  ·rcases hok y hy with⟨t,rfl,h⟩ | ⟨i,rfl,h⟩
   ·exact⟨_,rfl,.inl ⟨t,rfl,k H' (Ak.refl H')⟩⟩
   ·exact⟨_,rfl,.inr ⟨i,rfl,aQ h,k H' (Ak.refl H')⟩⟩
  rw[bi.mpr (λ_ _=>rfl)] at hl2
  have e2:xs.map (λv=>V.str (Kw v))=(xs.map Kw).map V.str:=by rw[bg];rfl
  rw[e2] at hl2
  refine⟨" ",D,xs.map Kw,rfl,rfl,kU hl2,Qx hok hl,?_⟩
  rw[Fi]
  exact q H2 s2
noncomputable abbrev YM:List Str:=["row_list","board_list","rank_list","knob_rows","board_numbers","rank_numbers","knob_numbers","key_places","pipe_places","knob_lines","step_sets"]
theorem Eg:∀ m∈meths,∀ f∈YM,¬ m=f:=by decide +kernel
theorem UL {rk:List (Str × Nat × Int)} {ρ:V->R} {us:List V} {P1:Nat->V->Prop} (h:∀ (i:Nat) v,us[i]? = some v->(ρ v).w = "line"->P1 i v/\∃ u∈us.take i,Ig (ρ u).w=true):(linesOf rk (us.map ρ)).length=(us.filter (λv=>Ig (ρ v).w)).length:=by
 have key:∀ n,n<=us.length->(linesOf rk ((us.take n).map ρ)).length=((us.take n).filter (λv=>Ig (ρ v).w)).length:=by
  intro n
  induction n with
  | zero=>intro _;rfl
  | succ n ih =>
   intro hn
   have hx:=af (l:=us) (i:=n) (by omega)
   rw[gz,hx,ce]
   show (linesOf rk ((us.take n).map ρ++[ρ us[n]])).length=((us.take n++[us[n]]).filter _).length
   rw[DK,hG,aE,<-ih (by omega)]
   unfold Do
   by_cases hk:Ig (ρ us[n]).w=true
   ·rw[if_pos hk,dS,if_pos hk]
    simp
   ·rw[if_neg hk,dS,if_neg hk]
    by_cases hl:(ρ us[n]).w = "line"
    ·rw[if_pos hl]
     obtain⟨_,u,hu,BS⟩:=h n _ hx hl
     obtain⟨a,z,e⟩:=GF (Om (rk:=rk) ⟨ρ u,cf hu,BS⟩)
     rw[e,Ia]
     simp
    ·rw[if_neg hl]
     simp
 have:=key us.length (ar _)
 rw[gg] at this
 exact this
noncomputable def bf (K:W.Frag) (aB aP aM C:Addr):Sp:=λvs H Q _=>∃ (x dx p:Addr) (us:List V) (ρ:V->R) (bs:List (Str × Nat)) (rk:List (Str × Nat × Int)) (ks:List R),vs=[.ref x,.ref p]/\H x=some (.ins C dx [])/\H p=some (.lst us)/\Rows H ρ us/\mJ K aB aP aM ρ us bs rk ks/\∀ H',Q3 C H' x us bs rk ks (linesOf rk (us.map ρ)) ((us.filter (pw ρ "step")).map λv=>stN ks (ρ v))->(∀ qE,SX p H' qE->Q3 C qE x us bs rk ks (linesOf rk (us.map ρ)) ((us.filter (pw ρ "step")).map λv=>stN ks (ρ v)))->SX x H H'->Q .non H'
theorem o9:BL ["self","rows"] ["self","rows"] (Ah Ve):=CT
include N T in
theorem Y_:A_ P w K mg base Bh 9 aD.fOi aD.dOi ["self","rows"] (bf K aB aP aM C):=by
 refine N.FOi.1.ok o9 (λvs H Q E h=>?_) (λb9 A outer s H vs Q E hr h=>?_)
 ·obtain⟨x,dx,p,us,ρ,bs,rk,ks,rfl,_⟩:=h
  rfl
 ·obtain⟨x,dx,p,us,ρ,bs,rk,ks,rfl,hx,hp,hR,O,q⟩:=h
  refine⟨_,(Ae (Cv (Ai (gA N T) (ad hr) rfl N.FCk.2.2 N.FCk.1.kp N.FCk.2.1 .nil Az (Aa (pv 1) Ab)))
   (Ae (Fw (pv 0) (Dv G_ rfl T.list ft (Aa (pv 1) Ab)) rfl)
   (Ae (Fw (pv 0) (Bp rfl (Bd (osc:=Ah Ve) (N:=["self","rows"]) rfl rfl (by decide +kernel)) (B_ (Ai (J1 N T) (ad hr) rfl N.FRo.2.2 N.FRo.1.kp N.FRo.2.1 .nil Az (Aa (pv 1) (Aa An Ab)))) (λ_ _ _ _=>CK) (λ_ _ _ _=>(DW (Aa (BW (BK (K:=K) rfl) (pv 0) Ac (λ_ _=>rfl)) (Aa (BW (BK (K:=K) rfl) (pv 0) Ac (λ_ _=>rfl)) Ab))))) rfl)
   (Ae (Fw (pv 0) (Bp rfl (Bd (osc:=Ah Ve) (N:=["self","rows"]) rfl rfl (by decide +kernel)) (B_ (Ai (J1 N T) (ad hr) rfl N.FRo.2.2 N.FRo.1.kp N.FRo.2.1 .nil Az (Aa (pv 1) (Aa An Ab)))) (λ_ _ _ _=>CK) (λ_ _ _ _=>(DW (Aa (BW (BK (K:=K) rfl) (pv 0) Ac (λ_ _=>rfl)) (Aa (BW (BK (K:=K) rfl) (pv 0) Ac (λ_ _=>rfl)) (Aa (BW (BK (K:=K) rfl) (pv 0) Ac (λ_ _=>rfl)) Ab)))))) rfl)
   (Ae (Fw (pv 0) (Bp rfl (Bd (osc:=Ah Ve) (N:=["self","rows"]) rfl rfl (by decide +kernel)) (B_ (pv 1)) (λ_ _ _ _=>(M6 (BR (Kr (K:=K) rfl) (BW (BK (K:=K) rfl) (pv 0) Ac (λ_ _=>rfl)) (Bc (v:=.ref aK) rfl T.mK rfl) rfl))) (λ_ _ _ _=>(pv 0))) rfl)
   (Ae (Fw (pv 0) (Ai (fK N T) (ad hr) rfl N.FNu.2.2 N.FNu.1.kp N.FNu.2.1 .nil Az (Aa (Bp rfl (Bd (osc:=Ah Ve) (N:=["self","rows"]) rfl rfl (by decide +kernel)) (B_ (Ht (pv 0) rfl)) (λ_ _ _ _=>CK) (λ_ _ _ _=>(BW (BK (K:=K) rfl) (pv 0) Ac (λ_ _=>rfl)))) Ab)) rfl)
   (Ae (Fw (pv 0) (Ai (fK N T) (ad hr) rfl N.FNu.2.2 N.FNu.1.kp N.FNu.2.1 .nil Az (Aa (Bp rfl (Bd (osc:=Ah Ve) (N:=["self","rows"]) rfl rfl (by decide +kernel)) (B_ (Ht (pv 0) rfl)) (λ_ _ _ _=>CK) (λ_ _ _ _=>(BW (BK (K:=K) rfl) (pv 0) Ac (λ_ _=>rfl)))) Ab)) rfl)
   (Ae (Fw (pv 0) (Ai (fK N T) (ad hr) rfl N.FNu.2.2 N.FNu.1.kp N.FNu.2.1 .nil Az (Aa (Bp rfl (Bd (osc:=Ah Ve) (N:=["self","rows"]) rfl rfl (by decide +kernel)) (B_ (Ht (pv 0) rfl)) (λ_ _ _ _=>CK) (λ_ _ _ _=>(BW (BK (K:=K) rfl) (pv 0) Ac (λ_ _=>rfl)))) Ab)) rfl)
   (Ae (Fw (pv 0) (Ai (fU N T) (ad hr) rfl N.FPl.2.2 N.FPl.1.kp N.FPl.2.1 .nil Az (Aa (Ht (pv 0) rfl) Ab)) rfl)
   (Ae (Fw (pv 0) (Ai (fU N T) (ad hr) rfl N.FPl.2.2 N.FPl.1.kp N.FPl.2.1 .nil Az (Aa (Ht (pv 0) rfl) Ab)) rfl)
   (Ae (Fw (pv 0) (Ai (h_ N T) (ad hr) rfl N.FLi.2.2 N.FLi.1.kp N.FLi.2.1 .nil Az (Aa (pv 1) (Aa (Ht (pv 0) rfl) Ab))) rfl)
   (Ag (Fw (pv 0) (Bp rfl (Bd (osc:=Ah Ve) (N:=["self","rows"]) rfl rfl (by decide +kernel)) (B_ (Ai (J1 N T) (ad hr) rfl N.FRo.2.2 N.FRo.1.kp N.FRo.2.1 .nil Az (Aa (pv 1) (Aa An Ab)))) (λ_ _ _ _=>CK) (λ_ _ _ _=>(Ai (eY N T) (ad hr) rfl N.FSs.2.2 N.FSs.1.kp N.FSs.2.1 .nil Az (Aa (pv 0) (Aa (Yo (K:=K) rfl (pv 1) rfl) Ab))))) rfl))))))))))))),?_⟩
  have hlen:=O.len
  obtain⟨ur,Bi⟩:∃ ur,us.filter (pw ρ "rank")=ur:=⟨_,rfl⟩
  have er:ur.map ρ=rk.map HJ:=by rw[<-Bi];exact O.er
  have lr:ur.length=rk.length:=by have:=congrArg List.length er;simpa using this
  have inR:∀ {v},v∈ur->v∈us:=λ{v} hv=>by rw[<-Bi] at hv;exact (cq.mp hv).1
  have ofR:∀ {v},v∈ur->∃ b∈rk,ρ v=HJ b:=λ{v} hv=>by
   have:ρ v∈rk.map HJ:=by rw[<-er];exact cf hv
   obtain⟨b,hb,e⟩:=ay.mp this
   exact⟨b,hb,e.symm⟩
  obtain⟨ub,uz⟩:∃ ub,us.filter (pw ρ "board")=ub:=⟨_,rfl⟩
  obtain⟨uk,AG⟩:∃ uk,us.filter (λv=>Ig (ρ v).w)=uk:=⟨_,rfl⟩
  have eb:ub.map ρ=bs.map G5:=by rw[<-uz];exact O.eb
  have ek:uk.map ρ=ks:=by rw[<-AG];exact O.ek
  have lb:ub.length=bs.length:=by have:=congrArg List.length eb;simpa using this
  have lku:uk.length=ks.length:=by have:=congrArg List.length ek;simpa using this
  have inB:∀ {v},v∈ub->v∈us:=λ{v} hv=>by rw[<-uz] at hv;exact (cq.mp hv).1
  have inKn:∀ {v},v∈uk->v∈us:=λ{v} hv=>by rw[<-AG] at hv;exact (cq.mp hv).1
  have ofB:∀ {v},v∈ub->∃ b∈bs,ρ v=G5 b:=λ{v} hv=>by
   have:ρ v∈bs.map G5:=by rw[<-eb];exact cf hv
   obtain⟨b,hb,e⟩:=ay.mp this
   exact⟨b,hb,e.symm⟩
  have l1us:1<=us.length:=by
   have h1:=O.b0
   have h2:ub.length<=us.length:=by rw[<-uz];exact fz _ _
   omega
  refine⟨_,rfl,p,us,ρ,rfl,hp,hR,l1us,by omega,O.ok,?_,λH1 s1=>?_⟩
  ·rw[uz]
   cases ub with
   | nil =>
    have:=O.b0
    simp at lb
    omega
   | cons a b=>rfl
  have c1:SX x H H1:=SX.of s1
  have x1:=s1 _ _ hx
  refine⟨_,rfl,p,_,rfl,kU (.inl (s1 _ _ hp)),λl1 hl1=>?_⟩
  have nl1:l1 ≠ p:=Ne.symm (Al (s1 _ _ hp) hl1)
  obtain⟨H2,d0,s2,Re⟩:=CN (o:=HO.lst us) hl1
  rw[d0]
  refine⟨_,rfl,x,C,dx,_,rfl,s2 _ _ x1,T.cl,T.n_row_list,(by show 0<1000;decide),?_⟩
  have c2:SX x H _:=(c1.trans (SX.of s2)).trans (SX.up (o:=HO.ins C dx (Bl "row_list" (.ref l1) [])))
  have x2:upd H2 x (HO.ins C dx (Bl "row_list" (.ref l1) [])) x=_:=Af
  have IT:=(SX.up (o:=HO.ins C dx (Bl "row_list" (.ref l1) [])):SX x H2 _).lst (s2 _ _ x1) Re
  generalize upd H2 x (HO.ins C dx (Bl "row_list" (.ref l1) []))=H3 at c2 x2 IT |-
  have c0:=c2
  replace hR:Rows H3 ρ us:=λv hv=>c2.tup hx (hR v hv)
  replace hp:=c2.lst hx hp
  clear c2
  replace hx:=x2
  have c2:SX x H3 H3:=SX.of (Ak.refl _)
  have R3:Rows H3 ρ us:=λv hv=>c2.tup hx (hR v hv)
  refine⟨_,rfl,p,_,"board",ρ,rfl,c2.lst hx hp,R3,by omega,λD4 H4 HC s4 y9=>?_⟩
  rw[uz] at y9
  have hS4:Dg K H4 D4 ub:=.inl (.inl y9)
  refine⟨D4,rfl,⟨_,hS4⟩,JV (K:=K) (xs:=ub) (λ_=>true) (λv=>[.str (ρ v).nm,(ρ v).rest.getD 0 .non]) hS4 (Av (by have:=O.b5;omega)) (λy hy H' hs R k=>k H' (Ak.refl H')) (λy hy _ H' hs R k=>?_) (λD5 H5 uS AO s5 xu xY=>?_)⟩
  ·obtain⟨b,_,e⟩:=ofB hy
   have hT:=(R3 y (inB hy)).mono (s4.trans hs)
   rw[e] at hT k
   obtain⟨T0,rfl,hT⟩:=hT
   exact⟨_,rfl,T0,_,_,_,rfl,rfl,kU hT,Aq (j:=1) rfl,_,rfl,T0,_,_,_,rfl,rfl,kU hT,Aq (j:=2) rfl,by show 2<=sizeLine;decide,λT6 hT6=>k _ _ (Aw hT6) ⟨T6,rfl,Af⟩⟩
  rw[bi.mpr (λ_ _=>rfl)] at xY
  have hb5':Paired (λb y=>TupAt H5 (bV b) y) bs uS:=by
   have h1:=Dh (F:=λ(r:R) y=>TupAt H5 [.str r.nm,r.rest.getD 0 .non] y) ρ xY
   rw[eb] at h1
   exact GX G5 h1
  clear xY
  refine⟨_,rfl,x,C,dx,_,rfl,s5 _ _ (s4 _ _ x2),T.cl,T.n_board_list,Nat.lt_of_le_of_lt (Bu _ _ _) (by show 1<1000;decide),?_⟩
  have u6:SX x H5 _:=SX.up (o:=HO.ins C dx (Bl "board_list" (.ref D5) (Bl "row_list" (.ref l1) [])))
  have x5:=s5 _ _ (s4 _ _ x2)
  have c6:=(c2.trans (SX.of (s4.trans s5))).trans u6
  have x6:upd H5 x (HO.ins C dx (Bl "board_list" (.ref D5) (Bl "row_list" (.ref l1) []))) x=_:=Af
  have AA:=u6.lst x5 xu
  have GA:=u6.pair x5 hb5'
  generalize upd H5 x (HO.ins C dx (Bl "board_list" (.ref D5) (Bl "row_list" (.ref l1) [])))=H6 at c6 x6 AA GA |-
  clear u6
  have R6:Rows H6 ρ us:=λv hv=>c6.tup hx (hR v hv)
  refine⟨_,rfl,p,_,"rank",ρ,rfl,c6.lst hx hp,R6,by omega,λD7 H7 NS s7 xA=>?_⟩
  rw[Bi] at xA
  have hS7:Dg K H7 D7 ur:=.inl (.inl xA)
  refine⟨D7,rfl,⟨_,hS7⟩,JV (K:=K) (xs:=ur) (λ_=>true) (λv=>[.str (ρ v).nm,(ρ v).rest.getD 0 .non,(ρ v).rest.getD 1 .non]) hS7 (Av (by have:=O.nr;omega)) (λy hy H' hs R k=>k H' (Ak.refl H')) (λy hy _ H' hs R k=>?_) (λD8 H8 uP NG s8 KB DH=>?_)⟩
  ·obtain⟨b,_,e⟩:=ofR hy
   have hT:=(R6 y (inR hy)).mono (s7.trans hs)
   rw[e] at hT k
   obtain⟨T0,rfl,hT⟩:=hT
   exact⟨_,rfl,T0,_,_,_,rfl,rfl,kU hT,Aq (j:=1) rfl,_,rfl,T0,_,_,_,rfl,rfl,kU hT,Aq (j:=2) rfl,_,rfl,T0,_,_,_,rfl,rfl,kU hT,Aq (j:=3) rfl,by show 3<=sizeLine;decide,λT6 hT6=>k _ _ (Aw hT6) ⟨T6,rfl,Af⟩⟩
  rw[bi.mpr (λ_ _=>rfl)] at DH
  have hr8':Paired (λ(a:Th) y=>TupAt H8 (tV a) y) (rk.map dN) uP:=by
   have h1:=Dh (F:=λ(r:R) y=>TupAt H8 [.str r.nm,r.rest.getD 0 .non,r.rest.getD 1 .non] y) ρ DH
   rw[er] at h1
   exact Dh (F:=λ(a:Th) y=>TupAt H8 (tV a) y) dN (GX HJ h1)
  clear DH
  refine⟨_,rfl,x,C,dx,_,rfl,s8 _ _ (s7 _ _ x6),T.cl,T.n_rank_list,Nat.lt_of_le_of_lt (Nat.le_trans (Bu _ _ _) (Nat.succ_le_succ (Bu _ _ _))) (by show 2<1000;decide),?_⟩
  have AN:=s7.trans s8
  have x8:=AN _ _ x6
  have c8:=c6.trans (SX.of AN)
  have EG:=AN _ _ AA
  have Nc:=Ax AN GA
  have u9:SX x H8 _:=SX.up (o:=HO.ins C dx (Bl "rank_list" (.ref D8) (Bl "board_list" (.ref D5) (Bl "row_list" (.ref l1) []))))
  have x9:upd H8 x (HO.ins C dx (Bl "rank_list" (.ref D8) (Bl "board_list" (.ref D5) (Bl "row_list" (.ref l1) [])))) x=_:=Af
  have c9:=c8.trans u9
  have Cf:=u9.lst x8 EG
  have F5:=u9.pair x8 Nc
  have F8:=u9.lst x8 KB
  have E7:=u9.pair x8 hr8'
  generalize hf9:Bl "rank_list" (.ref D8) (Bl "board_list" (.ref D5) (Bl "row_list" (.ref l1) []))=f9 at x9 c9 Cf F5 F8 E7 u9 |-
  generalize upd H8 x (HO.ins C dx f9)=H9 at x9 c9 Cf F5 F8 E7 |-
  have n9:f9.length<=3:=by rw[<-hf9];exact bp (Bu _ _ _) (cK (bp (Bu _ _ _) (cK (Bu _ _ _))))
  have lb9:f9.lookup ("board_list" : Str)=some (.ref D5):=by rw[<-hf9,Am,if_neg (by decide +kernel),Am,if_pos rfl]
  have lw9:f9.lookup ("row_list" : Str)=some (.ref l1):=by rw[<-hf9,Am,if_neg (by decide +kernel),Am,if_neg (by decide +kernel),Am,if_pos rfl]
  have lr9:f9.lookup ("rank_list" : Str)=some (.ref D8):=by rw[<-hf9,Am,if_pos rfl]
  have no9:∀ m∈meths,f9.lookup m=none:=λm hm=>by
   rw[<-hf9,Am,if_neg (Eg m hm _ (by decide +kernel)),Am,if_neg (Eg m hm _ (by decide +kernel)),Am,if_neg (Eg m hm _ (by decide +kernel))]
   rfl
  clear u9 hf9
  have R9:Rows H9 ρ us:=λv hv=>c9.tup hx (hR v hv)
  have hS9:Dg K H9 p us:=.inl (.inl (c9.lst hx hp))
  refine⟨_,rfl,p,rfl,⟨_,hS9⟩,Dk (K:=K) (xs:=us) (λv=>Ig (ρ v).w) id hS9 (Av (by omega)) (λy hy H' hs R k=>?_) (λy hy _ H' hs R k=>⟨_,rfl,k H' (Ak.refl H')⟩) (λpE uy FY se zH=>?_)⟩
  ·obtain⟨T0,rfl,hT⟩:=(R9.mono hs) y hy
   exact⟨_,rfl,T0,_,_,_,rfl,rfl,kU hT,Aq (j:=0) rfl,aK,_,rfl,.inr (T.tK.sq _),rfl,rfl,_,rfl,k H' (Ak.refl H')⟩
  rw[ij,AG] at zH
  refine⟨_,rfl,x,C,dx,_,rfl,se _ _ x9,T.cl,T.n_knob_rows,by omega,?_⟩
  have zK:=se _ _ x9
  have u11:SX x uy _:=SX.up (o:=HO.ins C dx (Bl "knob_rows" (.ref pE) f9))
  have x11:upd uy x (HO.ins C dx (Bl "knob_rows" (.ref pE) f9)) x=_:=Af
  have kX:=(c9.trans (SX.of se)).trans u11
  have wN:=u11.lst zK (se _ _ Cf)
  have r8:=u11.pair zK (Ax se F5)
  have xH:=u11.lst zK (se _ _ F8)
  have yU:=u11.pair zK (Ax se E7)
  have zS:=u11.lst zK zH
  generalize upd uy x (HO.ins C dx (Bl "knob_rows" (.ref pE) f9))=vW at x11 kX wN r8 xH yU zS |-
  clear u11
  have IY:=r8.length
  have hS11:Dg K vW D5 uS:=.inl (.inl wN)
  refine⟨_,rfl,x,C,dx,_,_,rfl,x11,T.cl,T.n_board_list,(by rw[Am,if_neg (by decide +kernel)];exact lb9),D5,rfl,⟨_,hS11⟩,Dk (K:=K) (xs:=uS) (λ_=>true) (Us vW 0) hS11 (Av (by have:=O.b5;omega)) (λy hy H' hs R k=>k H' (Ak.refl H')) (λy hy _ H' hs R k=>?_) (λLN xM ON zZ wx=>?_)⟩
  ·obtain⟨b,_,og⟩:=Dn r8 hy
   have e:=JT og 0
   obtain⟨T0,rfl,hT⟩:=og.mono hs
   refine⟨_,rfl,T0,_,_,_,rfl,rfl,kU hT,Aq (j:=0) rfl,?_⟩
   have:=k H' (Ak.refl H')
   rw[e] at this
   exact this
  rw[bi.mpr (λ_ _=>rfl),TV 0 r8] at wx
  have e12:(bs.map λb=>(bV b).getD 0 V.non)=(bs.map (·.1)).map V.str:=by
   rw[bg]
   rfl
  rw[e12] at wx
  refine⟨LN,_,rfl,wx,by rw[ae];have:=O.b5;omega,O.nb,λtz a8 uc OC A8 EN CA C0=>?_⟩
  have me:=zZ.trans A8
  have vR:=me _ _ x11
  refine⟨_,rfl,x,C,dx,_,rfl,vR,T.cl,T.n_board_numbers,ck (Bu _ _ _) (by omega),?_⟩
  have u14:SX x uc _:=SX.up (o:=HO.ins C dx (Bl "board_numbers" (.ref tz) (Bl "knob_rows" (.ref pE) f9)))
  have x14:upd uc x (HO.ins C dx (Bl "board_numbers" (.ref tz) (Bl "knob_rows" (.ref pE) f9))) x=_:=Af
  have HP:=(kX.trans (SX.of me)).trans u14
  have yF:=u14.lst vR (me _ _ wN)
  have yR:=u14.pair vR (Ax me r8)
  have we:=u14.lst vR (me _ _ xH)
  have sC:=u14.pair vR (Ax me yU)
  have yO:=u14.lst vR (me _ _ zS)
  have yE:=u14.dk vR EN
  generalize upd uc x (HO.ins C dx (Bl "board_numbers" (.ref tz) (Bl "knob_rows" (.ref pE) f9)))=u8 at x14 HP yF yR we sC yO yE |-
  clear u14
  have HI:=sC.length
  rw[ae] at HI
  have hS14:Dg K u8 D8 uP:=.inl (.inl we)
  refine⟨_,rfl,x,C,dx,_,_,rfl,x14,T.cl,T.n_rank_list,(by rw[Am,if_neg (by decide +kernel),Am,if_neg (by decide +kernel)];exact lr9),D8,rfl,⟨_,hS14⟩,Dk (K:=K) (xs:=uP) (λ_=>true) (Us u8 0) hS14 (Av (by have:=O.nr;omega)) (λy hy H' hs R k=>k H' (Ak.refl H')) (λy hy _ H' hs R k=>?_) (λPD HG OK uW wE=>?_)⟩
  ·obtain⟨b,_,og⟩:=Dn sC hy
   have e:=JT og 0
   obtain⟨T0,rfl,hT⟩:=og.mono hs
   refine⟨_,rfl,T0,_,_,_,rfl,rfl,kU hT,Aq (j:=0) rfl,?_⟩
   have:=k H' (Ak.refl H')
   rw[e] at this
   exact this
  rw[bi.mpr (λ_ _=>rfl),TV 0 sC] at wE
  have e15:((rk.map dN).map λb=>(tV b).getD 0 V.non)=(rk.map (·.1)).map V.str:=by
   rw[bg,bg]
   rfl
  rw[e15] at wE
  refine⟨PD,_,rfl,wE,by rw[ae];have:=O.nr;omega,O.nrr,λxz ve tw M1 wL C4 xT OU=>?_⟩
  have k8:=uW.trans wL
  have uY:=k8 _ _ x14
  refine⟨_,rfl,x,C,dx,_,rfl,uY,T.cl,T.n_rank_numbers,ck (bp (Bu _ _ _) (cK (Bu _ _ _))) (by omega),?_⟩
  have u17:SX x tw _:=SX.up (o:=HO.ins C dx (Bl "rank_numbers" (.ref xz) (Bl "board_numbers" (.ref tz) (Bl "knob_rows" (.ref pE) f9))))
  have x17:upd tw x (HO.ins C dx (Bl "rank_numbers" (.ref xz) (Bl "board_numbers" (.ref tz) (Bl "knob_rows" (.ref pE) f9)))) x=_:=Af
  have AQ:=(HP.trans (SX.of k8)).trans u17
  have vi:=u17.lst uY (k8 _ _ yF)
  have vh:=u17.pair uY (Ax k8 yR)
  have w9:=u17.lst uY (k8 _ _ we)
  have wl:=u17.pair uY (Ax k8 sC)
  have ut:=u17.lst uY (k8 _ _ yO)
  have wV:=u17.dk uY (k8 _ _ yE)
  have vP:=u17.dk uY C4
  generalize hf17:Bl "rank_numbers" (.ref xz) (Bl "board_numbers" (.ref tz) (Bl "knob_rows" (.ref pE) f9))=f17 at x17 AQ vi vh w9 wl ut wV vP u17 |-
  generalize upd tw x (HO.ins C dx f17)=Fk at x17 AQ vi vh w9 wl ut wV vP |-
  have n17:f17.length<=6:=by rw[<-hf17];exact bp (Bu _ _ _) (cK (bp (Bu _ _ _) (cK (bp (Bu _ _ _) (cK n9)))))
  have lb17:f17.lookup ("board_list" : Str)=some (.ref D5):=by rw[<-hf17,Am,if_neg (by decide +kernel),Am,if_neg (by decide +kernel),Am,if_neg (by decide +kernel)];exact lb9
  have lw17:f17.lookup ("row_list" : Str)=some (.ref l1):=by rw[<-hf17,Am,if_neg (by decide +kernel),Am,if_neg (by decide +kernel),Am,if_neg (by decide +kernel)];exact lw9
  have lr17:f17.lookup ("rank_list" : Str)=some (.ref D8):=by rw[<-hf17,Am,if_neg (by decide +kernel),Am,if_neg (by decide +kernel),Am,if_neg (by decide +kernel)];exact lr9
  have lrn17:f17.lookup ("rank_numbers" : Str)=some (.ref xz):=by rw[<-hf17,Am,if_pos rfl]
  have lbn17:f17.lookup ("board_numbers" : Str)=some (.ref tz):=by rw[<-hf17,Am,if_neg (by decide +kernel),Am,if_pos rfl]
  have lkr17:f17.lookup ("knob_rows" : Str)=some (.ref pE):=by rw[<-hf17,Am,if_neg (by decide +kernel),Am,if_neg (by decide +kernel),Am,if_pos rfl]
  have no17:∀ m∈meths,f17.lookup m=none:=λm hm=>by
   rw[<-hf17,Am,if_neg (Eg m hm _ (by decide +kernel)),Am,if_neg (Eg m hm _ (by decide +kernel)),Am,if_neg (Eg m hm _ (by decide +kernel))]
   exact no9 m hm
  clear u17 hf17
  have hS17:Dg K Fk pE uk:=.inl (.inl ut)
  have R17:Rows Fk ρ us:=λv hv=>AQ.tup hx (hR v hv)
  refine⟨_,rfl,x,C,dx,_,_,rfl,x17,T.cl,T.n_knob_rows,lkr17,pE,rfl,⟨_,hS17⟩,Dk (K:=K) (xs:=uk) (λ_=>true) (λv=>.str (ρ v).nm) hS17 (Av (by have:=O.nk;omega)) (λy hy H' hs R k=>k H' (Ak.refl H')) (λy hy _ H' hs R k=>?_) (λSW DE PM zu vz=>?_)⟩
  ·obtain⟨T0,rfl,hT⟩:=(R17.mono hs) y (inKn hy)
   exact⟨_,rfl,T0,_,_,_,rfl,rfl,kU hT,Aq (j:=1) rfl,k H' (Ak.refl H')⟩
  rw[bi.mpr (λ_ _=>rfl)] at vz
  have e18:(uk.map λv=>V.str (ρ v).nm)=(ks.map (·.nm)).map V.str:=by
   rw[<-ek,bg,bg]
   rfl
  rw[e18] at vz
  refine⟨SW,_,rfl,vz,by rw[ae];have:=O.nk;omega,O.nn,λrq va yC OV AT FM yt Fm=>?_⟩
  have i8:=zu.trans AT
  have um:=i8 _ _ x17
  refine⟨_,rfl,x,C,dx,_,rfl,um,T.cl,T.n_knob_numbers,by omega,?_⟩
  have u20:SX x yC _:=SX.up (o:=HO.ins C dx (Bl "knob_numbers" (.ref rq) f17))
  have x20:upd yC x (HO.ins C dx (Bl "knob_numbers" (.ref rq) f17)) x=_:=Af
  have DO:=(AQ.trans (SX.of i8)).trans u20
  have ww:=u20.lst um (i8 _ _ vi)
  have vp:=u20.pair um (Ax i8 vh)
  have zI:=u20.lst um (i8 _ _ w9)
  have zO:=u20.pair um (Ax i8 wl)
  have yQ:=u20.lst um (i8 _ _ ut)
  have zv:=u20.dk um FM
  have xF:=u20.dk um (i8 _ _ wV)
  have zr:=u20.dk um (i8 _ _ vP)
  generalize upd yC x (HO.ins C dx (Bl "knob_numbers" (.ref rq) f17))=H20 at x20 DO ww vp zI zO yQ xF zr zv |-
  clear u20
  refine⟨_,rfl,x,C,dx,_,_,rfl,x20,T.cl,T.n_board_list,(by rw[Am,if_neg (by decide +kernel)];exact lb17),D5,bs.map o6,uS,rfl,ww,Dh (F:=λ(a:Th) y=>TupAt H20 (tV a) y) o6 vp,(by rw[List.length_map];have:=O.b5;omega),(λa ha=>by obtain⟨b,hb,rfl⟩:=List.mem_map.mp ha;have:=O.sz b hb;show b.2<=97;omega),λuv xb AC DU ri A7 xD=>?_⟩
  have e21:(bs.map o6).map tN=bs:=by
   rw[bg]
   exact ij bs
  rw[e21] at xD
  have so:=ri _ _ x20
  refine⟨_,rfl,x,C,dx,_,rfl,so,T.cl,T.n_key_places,ck (Bu _ _ _) (by omega),?_⟩
  have u22:SX x AC _:=SX.up (o:=HO.ins C dx (Bl "key_places" (.ref uv) (Bl "knob_numbers" (.ref rq) f17)))
  have x22:upd AC x (HO.ins C dx (Bl "key_places" (.ref uv) (Bl "knob_numbers" (.ref rq) f17))) x=_:=Af
  have A6:=(DO.trans (SX.of ri)).trans u22
  have zt:=u22.lst so (ri _ _ ww)
  have zF:=u22.pair so (Ax ri vp)
  have wA:=u22.lst so (ri _ _ zI)
  have xh:=u22.pair so (Ax ri zO)
  have xU:=u22.lst so (ri _ _ yQ)
  have yD:=u22.dk so (ri _ _ zv)
  have yc:=u22.dk so (ri _ _ xF)
  have zY:=u22.dk so (ri _ _ zr)
  have xE:=u22.lst so A7
  have ze:=u22.pair so xD
  generalize upd AC x (HO.ins C dx (Bl "key_places" (.ref uv) (Bl "knob_numbers" (.ref rq) f17)))=ML at x22 A6 zt zF wA xh xU yc zY xE ze yD |-
  clear u22
  refine⟨_,rfl,x,C,dx,_,_,rfl,x22,T.cl,T.n_rank_list,(by rw[Am,if_neg (by decide +kernel),Am,if_neg (by decide +kernel)];exact lr17),D8,rk.map dN,uP,rfl,wA,xh,(by rw[ae];exact O.nr),(λa ha=>by obtain⟨r,hr,rfl⟩:=ay.mp ha;exact O.nz r hr),λxw NY zo C8 s23 F6 ye=>?_⟩
  have e23:(rk.map dN).map tN=rk.map qp:=by
   rw[bg]
   rfl
  rw[e23] at ye
  have qv:=s23 _ _ x22
  refine⟨_,rfl,x,C,dx,_,rfl,qv,T.cl,T.n_pipe_places,ck (bp (Bu _ _ _) (cK (Bu _ _ _))) (by omega),?_⟩
  have u24:SX x zo _:=SX.up (o:=HO.ins C dx (Bl "pipe_places" (.ref xw) (Bl "key_places" (.ref uv) (Bl "knob_numbers" (.ref rq) f17))))
  have x24:upd zo x (HO.ins C dx (Bl "pipe_places" (.ref xw) (Bl "key_places" (.ref uv) (Bl "knob_numbers" (.ref rq) f17)))) x=_:=Af
  have zW:=(A6.trans (SX.of s23)).trans u24
  have wY:=u24.lst qv (s23 _ _ zt)
  have vO:=u24.pair qv (Ax s23 zF)
  have vJ:=u24.lst qv (s23 _ _ xU)
  have vo:=u24.lst qv (s23 _ _ wA)
  have vG:=u24.pair qv (Ax s23 xh)
  have vA:=u24.lst qv F6
  have xg:=u24.pair qv ye
  have wF:=u24.dk qv (s23 _ _ yD)
  have vv:=u24.dk qv (s23 _ _ yc)
  have uu:=u24.dk qv (s23 _ _ zY)
  have vK:=u24.lst qv (s23 _ _ xE)
  have vC:=u24.pair qv (Ax s23 ze)
  generalize hf24:Bl "pipe_places" (.ref xw) (Bl "key_places" (.ref uv) (Bl "knob_numbers" (.ref rq) f17))=f24 at x24 zW wY vO vJ vo vG vA xg vv uu vK vC u24 wF |-
  generalize upd zo x (HO.ins C dx f24)=IZ at x24 zW wY vO vJ vo vG vA xg vv uu vK vC wF |-
  have n24:f24.length<=9:=by rw[<-hf24];exact bp (Bu _ _ _) (cK (bp (Bu _ _ _) (cK (bp (Bu _ _ _) (cK n17)))))
  have old24:∀ {f:Str} {v:V},¬ f = "pipe_places"->¬ f = "key_places"->¬ f = "knob_numbers"->f17.lookup f=some v->f24.lookup f=some v:=λh1 h2 h3 h=>by
   rw[<-hf24,Am,if_neg h1,Am,if_neg h2,Am,if_neg h3];exact h
  have F9:=old24 (by decide +kernel) (by decide +kernel) (by decide +kernel) lb17
  have uR:=old24 (by decide +kernel) (by decide +kernel) (by decide +kernel) lbn17
  have BC:=old24 (by decide +kernel) (by decide +kernel) (by decide +kernel) lw17
  have lkn24:f24.lookup ("knob_numbers" : Str)=some (.ref rq):=by rw[<-hf24,Am,if_neg (by decide +kernel),Am,if_neg (by decide +kernel),Am,if_pos rfl]
  have FI:=old24 (by decide +kernel) (by decide +kernel) (by decide +kernel) lr17
  have lpp24:f24.lookup ("pipe_places" : Str)=some (.ref xw):=by rw[<-hf24,Am,if_pos rfl]
  have uZ:=old24 (by decide +kernel) (by decide +kernel) (by decide +kernel) lrn17
  have zC:=old24 (by decide +kernel) (by decide +kernel) (by decide +kernel) lkr17
  have lkp24:f24.lookup ("key_places" : Str)=some (.ref uv):=by rw[<-hf24,Am,if_neg (by decide +kernel),Am,if_pos rfl]
  have no24:∀ m∈meths,f24.lookup m=none:=λm hm=>by
   rw[<-hf24,Am,if_neg (Eg m hm _ (by decide +kernel)),Am,if_neg (Eg m hm _ (by decide +kernel)),Am,if_neg (Eg m hm _ (by decide +kernel))]
   exact no17 m hm
  clear u24 hf24 old24
  have R24:Rows IZ ρ us:=λv hv=>zW.tup hx (hR v hv)
  refine⟨_,rfl,_,rfl,x,C,dx,_,_,rfl,x24,T.cl,T.n_rank_numbers,uZ,p,xz,us,ρ,rk,ve,rfl,zW.lst hx hp,R24,by omega,uu,(λi r hr=>xT i r.1 (by rw[br,hr];rfl)),O.nrr,O.ln,λxC Au QA oC B8=>?_⟩
  have qk:=oC _ _ x24
  refine⟨_,rfl,x,C,dx,_,rfl,qk,T.cl,T.n_knob_lines,by omega,?_⟩
  have u26:SX x Au _:=SX.up (o:=HO.ins C dx (Bl "knob_lines" (.ref xC) f24))
  have x26:upd Au x (HO.ins C dx (Bl "knob_lines" (.ref xC) f24)) x=_:=Af
  have vL:=(zW.trans (SX.of oC)).trans u26
  have yY:=u26.lst qk (oC _ _ wY)
  have zf:=u26.pair qk (Ax oC vO)
  have zV:=u26.lst qk (oC _ _ vJ)
  have ym:=u26.lst qk (oC _ _ vo)
  have yW:=u26.pair qk (Ax oC vG)
  have xN:=u26.lst qk (oC _ _ vA)
  have zi:=u26.pair qk (Ax oC xg)
  have zB:=B8.sx u26 qk
  have w8:=u26.dk qk (oC _ _ wF)
  have vT:=u26.dk qk (oC _ _ vv)
  have zG:=u26.dk qk (oC _ _ uu)
  have xX:=u26.lst qk (oC _ _ vK)
  have zm:=u26.pair qk (Ax oC vC)
  generalize upd Au x (HO.ins C dx (Bl "knob_lines" (.ref xC) f24))=A0 at x26 vL yY zf zV ym yW xN zi zB vT zG xX zm w8 |-
  clear u26
  have R26:Rows A0 ρ us:=λv hv=>vL.tup hx (hR v hv)
  refine⟨_,rfl,p,_,"step",ρ,rfl,vL.lst hx hp,R26,by omega,λG0 Ps Sz yz E6=>?_⟩
  have EE:=yz _ _ w8
  have NE:=yz _ _ x26
  have hS27:Dg K Ps G0 (us.filter (pw ρ "step")):=.inl (.inl E6)
  have lus:(us.filter (pw ρ "step")).length<=us.length:=fz _ _
  refine⟨G0,rfl,⟨_,hS27⟩,Dk (K:=K) (xs:=us.filter (pw ρ "step")) (λ_=>true) (λv=>.int (stN ks (ρ v):Nat)) hS27 (Av (by omega)) (λy hy H' hs R k=>k H' (Ak.refl H')) (λy hy _ H' hs R k=>?_) (λAV ID F1 NN vq=>?_)⟩
  ·obtain⟨HK,Sm⟩:=cq.mp hy
   obtain⟨ts,lj,To,NJ⟩:=O.st y HK (V.str.inj (of_decide_eq_true Sm))
   obtain⟨T0,rfl,hT⟩:=((R26.mono yz).mono hs) y HK
   refine⟨_,rfl,_,rfl,x,C,dx,_,_,rfl,hs _ _ NE,T.cl,T.n_knob_numbers,(by rw[Am,if_neg (by decide +kernel)];exact lkn24),T0,rq,ρ (.ref T0),va,ks.map (·.nm),ts,rfl,hT,hs _ _ EE,lj,To,(by rw[ae];have:=O.nk;omega),yt,NJ,λH3 s3=>?_⟩
   have e:Wd.mk (ts.map λt=>(ks.map (·.nm)).idxOf t)=stN ks (ρ (.ref T0)):=by unfold stN;rw[Ju lj]
   rw[e]
   exact k H3 s3
  rw[bi.mpr (λ_ _=>rfl)] at vq
  have f8:=yz.trans NN
  have nX:=f8 _ _ x26
  refine⟨_,rfl,x,C,dx,_,rfl,nX,T.cl,T.n_step_sets,ck (Bu _ _ _) (by omega),?_⟩
  have u29:SX x ID _:=SX.up (o:=HO.ins C dx (Bl "step_sets" (.ref AV) (Bl "knob_lines" (.ref xC) f24)))
  have old:∀ {f:Str},¬ f = "step_sets"->¬ f = "knob_lines"->(Bl "step_sets" (.ref AV) (Bl "knob_lines" (.ref xC) f24)).lookup f=f24.lookup f:=λh1 h2=>by rw[Am,if_neg h1,Am,if_neg h2]
  have es:((us.filter (pw ρ "step")).map λv=>V.int (stN ks (ρ v):Nat))=(((us.filter (pw ρ "step")).map λv=>stN ks (ρ v)).map λn:Nat=>V.int (n:Int)):=by rw[bg];rfl
  rw[es] at vq
  have sQ:=u29.lst nX (f8 _ _ (vL.lst hx hp))
  have nx:x ≠ p:=λz=>by rw[z,hp] at hx;cases hx
  have n5:D5 ≠ p:=Ne.symm (Al (s4 _ _ hp) AO)
  have n8:D8 ≠ p:=Ne.symm (Al (s7 _ _ (c6.lst hx hp)) NG)
  have n10:pE ≠ p:=Ne.symm (Al (c9.lst hx hp) FY)
  have n21:uv ≠ p:=Ne.symm (Al (DO.lst hx hp) DU)
  have n23:xw ≠ p:=Ne.symm (Al (A6.lst hx hp) C8)
  have n28:AV ≠ p:=Ne.symm (Al (yz _ _ (vL.lst hx hp)) F1)
  suffices key:∀ qE,SX p (upd ID x _) qE->Q3 C qE x us bs rk ks (linesOf rk (us.map ρ)) ((us.filter (pw ρ "step")).map λv=>stN ks (ρ v)) from q _ (key _ SX.refl) key  (c0.trans ((vL.trans (SX.of f8)).trans u29))
  intro qE sp
  refine⟨⟨⟨⟨dx,_,D5,tz,uv,pE,uS,xb,uk,a8,sp _ _ Af nx,(old (by decide +kernel) (by decide +kernel)).trans F9,(old (by decide +kernel) (by decide +kernel)).trans uR,(old (by decide +kernel) (by decide +kernel)).trans lkp24,(old (by decide +kernel) (by decide +kernel)).trans zC,
   λm hm=>(old (Eg m hm _ (by decide +kernel)) (Eg m hm _ (by decide +kernel))).trans (no24 m hm),sp _ _ (u29.lst nX (f8 _ _ yY)) n5,JL sp sQ (u29.pair nX (Ax f8 zf)),TF sp sQ (u29.dk nX (f8 _ _ vT)),λi b hb=>CA i b.1 (by rw[br,hb];rfl),sp _ _ (u29.lst nX (f8 _ _ xX)) n21,JL sp sQ (u29.pair nX (Ax f8 zm)),sp _ _ (u29.lst nX (f8 _ _ zV)) n10,?_⟩,O.b5,O.sz,by have:=O.nk;omega⟩,⟨dx,_,D8,xz,xw,xC,uP,NY,ve,sp _ _ Af nx,(old (by decide +kernel) (by decide +kernel)).trans FI,(old (by decide +kernel) (by decide +kernel)).trans uZ,(old (by decide +kernel) (by decide +kernel)).trans lpp24,(by rw[Am,if_neg (by decide +kernel),Am,if_pos rfl]),sp _ _ (u29.lst nX (f8 _ _ ym)) n8,JL sp sQ (u29.pair nX (Ax f8 yW)),TF sp sQ (u29.dk nX (f8 _ _ zG)),(λi r hr=>xT i r.1 (by rw[br,hr];rfl)),sp _ _ (u29.lst nX (f8 _ _ xN)) n23,JL sp sQ (u29.pair nX (Ax f8 zi)),((zB.mono f8).sx u29 nX).sp sp sQ⟩,O.nr,O.nz,?_⟩,dx,_,l1,rq,AV,va,sp _ _ Af nx,(old (by decide +kernel) (by decide +kernel)).trans BC,(old (by decide +kernel) (by decide +kernel)).trans lkn24,(by rw[Am,if_pos rfl]),sp _ _ (u29.lst nX (f8 _ _ (vL.lst hx IT))) nl1,TF sp sQ (u29.dk nX (f8 _ _ w8)),yt,Fm,sp _ _ (u29.lst nX vq) n28,tz,a8,(old (by decide +kernel) (by decide +kernel)).trans uR,TF sp sQ (u29.dk nX (f8 _ _ vT)),C0⟩
  case refine_2=>rw[UL O.ln,<-ek,ae,AG]
  rw[<-ek]
  refine Dh (F:=λ(r:R) y=>TupAt _ r.v y) ρ ?_
  have R29:Rows _ ρ uk:=λv hv=>Wu sp sQ (u29.tup nX ((R26.mono f8) v (inKn hv)))
  generalize qE=H29 at R29 |-
  have key:∀ l:List V,(∀ v∈l,TupAt H29 (ρ v).v v)->Paired (λv y=>TupAt H29 (ρ v).v y) l l:=by
   intro l
   induction l with
   | nil=>intro _;exact .nil
   | cons a b ih=>intro h;exact .cons (h a (av ..)) (ih λv hv=>h v (aI _ hv))
  exact key uk R29
theorem Hj {α β:Type} {F G:α->β->Prop}:∀ {l:List α} {vs:List β},Paired F l vs->(∀ a v,a∈l->F a v->G a v)->Paired G l vs
 | [],_,h,_=>by
  cases h
  exact .nil
 | a::l,_,h,f=>by
  cases h with
  | cons x y=>exact .cons (f _ _ av x) (Hj y λa v ha=>f a v (aI _ ha))
theorem Ff {α β γ:Type} {F:β->γ->Prop} (f:α->β):∀ {l:List α} {vs:List γ},Paired F (l.map f) vs->Paired (λa v=>F (f a) v) l vs
 | [],_,h=>by
  cases h
  exact .nil
 | a::l,_,h=>by
  cases h with
  | cons x y=>exact .cons x (Ff f y)
noncomputable abbrev KD (rows:List R):List (List V):=rows.map λr=>r.v
noncomputable def Lk (rows:List R):Prop:=(∀ r∈rows,(∀ x∈r.v,OD x)/\r.v.length<=30)/\rows.length<=150
theorem Lk.p {rows:List R} (h:Lk rows):∀ r∈KD rows,∀ x∈r,OD x:=λr hr=>by
 obtain⟨q,hq,rfl⟩:=ay.mp hr
 exact (h.1 q hq).1
theorem Lk.l {rows:List R} (h:Lk rows):∀ r∈KD rows,r.length<=30:=λr hr=>by
 obtain⟨q,hq,rfl⟩:=ay.mp hr
 exact (h.1 q hq).2
theorem Lk.n {rows:List R} (h:Lk rows):(KD rows).length<=150:=by rw[ae];exact h.2
noncomputable def iG (K:W.Frag) (C:Addr):Sp:=λvs H Q _=>∃ (x:Addr) (us:List V) (bs:List (Str × Nat)) (rk:List (Str × Nat × Int)) (ks:List R) (ls:List (List Ln)) (f':List Nat) (rows:List R),vs=[.ref x]/\Q3 C H x us bs rk ks ls f'/\Paired (λ(r:R) v=>TupAt H r.v v) rows us/\Lk rows/\∀ H',Ak H H'->Q (.str (Kh (KD rows))) H'
theorem ph:BL ["organ"] ["organ"] (Ah lB):=CT
include N T in
theorem iM:A_ P w K mg base Bh 2 aD.fSg aD.dSg ["organ"] (iG K C):=by
 refine N.FSg.1.ok ph (λvs H Q E h=>?_) (λb9 A outer s H vs Q E hr h=>?_)
 ·obtain⟨x,us,bs,rk,ks,ls,f',rows,rfl,_⟩:=h
  rfl
 ·obtain⟨x,us,bs,rk,ks,ls,f',rows,rfl,O,AX,ok,q⟩:=h
  refine⟨_,(Ag (Ar (CV bo df dn Eh An (Aa (Bp rfl (Bd (osc:=Ah lB) (N:=["organ"]) rfl rfl (by decide +kernel)) (B_ (Ox (pv 0) T.cl N.FOw.2.2 (Zm N T) (ad hr) N.FOw.2.1 .nil Az)) (λ_ _ _ _=>CK) (λ_ _ _ _=>(Ai (iZ N T) (ad hr) rfl N.FSr.2.2 N.FSr.1.kp N.FSr.2.1 .nil Az (Aa (pv 0) Ab)))) Ab)))),?_⟩
  obtain⟨⟨⟨dx,fs,_,_,_,_,_,_,_,_,h1,_,_,_,_,lm,_⟩,_⟩,_⟩:=id O.o
  have hl:us.length=rows.length:=AX.length.symm
  have hn:=ok.2
  refine⟨rfl,_,rfl,x,dx,fs,rfl,h1,lm _ (by decide +kernel),x,us,bs,rk,ks,ls,f',rfl,O,λD1 H1 CM s1 hl1=>?_⟩
  have hS:Dg K H1 D1 us:=.inl (.inl hl1)
  have zw:=Ax s1 AX
  refine⟨D1,rfl,⟨_,hS⟩,Dk (K:=K) (xs:=us) (λ_=>true) (λv=>.str (Bw (Lf H1 v).v)) hS (Av (by omega)) (λy hy H' hs R k=>k H' (Ak.refl H')) (λy hy _ H' hs R k=>?_) (λD H2 hD s2 hl2=>?_)⟩
  ·obtain⟨r,hr,ht⟩:=Dn zw hy
   have er:=Nx ht
   obtain⟨Ta,rfl,hT⟩:=ht.mono hs
   refine⟨_,rfl,Ta,r.v,rfl,hT,(ok.1 r hr).1,(ok.1 r hr).2,λH3 s3=>?_⟩
   have kk:=k H3 s3
   rw[er] at kk
   exact kk
  have e2:(us.filter λ_=>true).map (λv=>V.str (Bw (Lf H1 v).v))=((KD rows).map Bw).map V.str:=by
   rw[bi.mpr (λ_ _=>rfl),<-Nv zw,bg,bg,bg]
   rfl
  rw[e2] at hl2
  refine⟨"; ",D,(KD rows).map Bw,rfl,rfl,kU hl2,RB ok.p ok.l ok.n,?_⟩
  rw[Fi]
  exact q H2 (s1.trans s2)
noncomputable def jQ (K:W.Frag) (aB aP aM:Addr) (rows:List R) (bs:List (Str × Nat)) (rk:List (Str × Nat × Int)) (ks:List R) (ls:List (List Ln)) (f':List Nat):Prop:=∀ (H:Hp) (vs:List V),Paired (λ(r:R) v=>TupAt H r.v v) rows vs->Rows H (Lf H) vs/\mJ K aB aP aM (Lf H) vs bs rk ks/\linesOf rk (vs.map (Lf H))=ls/\((vs.filter (pw (Lf H) "step")).map λv=>stN ks (Lf H v))=f'
noncomputable def du (K:W.Frag) (aB aP aM C:Addr):Sp:=λvs H Q _=>∃ (rows:List R) (bs:List (Str × Nat)) (rk:List (Str × Nat × Int)) (ks:List R) (ls:List (List Ln)) (f':List Nat),vs=[.str (Kh (KD rows))]/\jQ K aB aP aM rows bs rk ks ls f'/\Lk rows/\rows ≠ []/\∀ (x:Addr) (us:List V) H',Ak H H'->Q3 C H' x us bs rk ks ls f'->Paired (λ(r:R) v=>TupAt H' r.v v) rows us->Q (.ref x) H'
theorem fu:BL ["text"] ["text"] (Ah ik):=CT
include N T in
theorem jt:A_ P w K mg base Bh 11 aD.fRg aD.dRg ["text"] (du K aB aP aM C):=by
 refine N.FRg.1.ok fu (λvs H Q E h=>?_) (λb9 A outer s H vs Q E hr h=>?_)
 ·obtain⟨rows,bs,rk,ks,ls,f',rfl,_⟩:=h
  rfl
 ·obtain⟨rows,bs,rk,ks,ls,f',rfl,fin,ok,hne,q⟩:=h
  have hrOi1:Ba 10 _:=hr
  refine⟨_,(Ae (Bj (Cp (C_ (Aj Bs rfl T.isin ag (Aa (pv 0) (Aa (Ci (v:=.ty "str") rfl T.str eD rfl) Ab))))) (Ag Gh) BV)
   (Ag (Ar (My N.FOi.2.2 (Y_ N T) hrOi1 rfl T.mC N.FOi.2.1 .nil Az (Aa (Bp rfl (Bd (osc:=Ah ik) (N:=["text"]) rfl rfl (by decide +kernel)) (B_ (CV bo gc ge Gm (pv 0) (Aa An Ab))) (λ_ _ _ _=>CK) (λ_ _ _ _=>(Ai (Ze N T) (ad hr) rfl N.FRr.2.2 N.FRr.1.kp N.FRr.2.1 .nil Az (Aa (pv 0) Ab)))) Ab))))),?_⟩
  have hn:=ok.2
  have hne2:KD rows ≠ []:=by simpa using hne
  have sp:=K1 ok.p hne2
  refine⟨_,rfl,_,"str",_,_,rfl,.str _,J9,_,rfl,Ce ?_⟩
  refine⟨_,rfl,rfl,Kh (KD rows),"; ",rfl,rfl,by decide +kernel,Nat.le_trans (Ot ok.p ok.l ok.n) (by show 64000<=sizeLine;decide),(by rw[sp,List.length_map,List.length_map];exact Nat.le_trans hn (by show 150<=sizeLine;decide)),λp1 re=>?_⟩
  rw[sp]
  obtain⟨H1,d0,s1,l1⟩:=CN (o:=HO.lst (((KD rows).map Bw).map V.str)) re
  rw[d0]
  have hS:Dg K H1 p1 (((KD rows).map Bw).map V.str):=.inl (.inl l1)
  have ln:(((KD rows).map Bw).map V.str).length=rows.length:=by rw[ae,ae,ae]
  have em:((KD rows).map Bw).map V.str=rows.map λr=>V.str (Bw r.v):=by rw[bg,bg];rfl
  refine⟨p1,rfl,⟨_,hS⟩,JV (K:=K) (xs:=((KD rows).map Bw).map V.str) (λ_=>true) rdX hS (Av (by omega)) (λy hy H' hs R k=>k H' (Ak.refl H')) (λy hy _ H' hs R k=>?_) (λD H2 ys hD s2 hl2 P2=>?_)⟩
  ·rw[em] at hy
   obtain⟨r,hr,rfl⟩:=ay.mp hy
   have hrn:r.v ≠ []:=fg _ _
   have HI:=Hl (ok.1 r hr).1 (ok.1 r hr).2
   exact⟨_,rfl,Bw r.v,rfl,by omega,λTa H3 _ s3 hT=>k _ H3 s3 ⟨Ta,rfl,hT⟩⟩
  rw[bi.mpr (λ_ _=>rfl),em] at P2
  have P3:Paired (λ(r:R) v=>TupAt H2 r.v v) rows ys:=by
   have:=Ff (F:=λ(x:V) y=>TupAt H2 (rdX x) y) (λr:R=>V.str (Bw r.v)) P2
   exact Hj this λr v hr h=>by
    have h':TupAt H2 (rdT (Bw r.v)) v:=h
    rw[Ss (ok.1 r hr).1 (fg _ _)] at h'
    exact h'
  obtain⟨R2,O2,eL,eS⟩:=fin H2 ys P3
  intro x dx nx xq DL
  have sx:Ak H2 (upd (upd H2 dx (.own x)) x (.ins C dx [])):=λb o e=>by
   rw[Ao (Al e nx),Ao (Al e xq)]
   exact e
  refine⟨x,dx,D,ys,Lf H2,bs,rk,ks,rfl,Af,sx _ _ hl2,R2.mono sx,O2,λH3 OA zd AK=>⟨rfl,?_⟩⟩
  rw[eL,eS] at OA
  have s23:Ak H2 H3:=λb o e=>AK b o (sx b o e) (Al e nx)
  exact q x ys H3 (s1.trans (s2.trans s23)) OA (Ax s23 P3)
noncomputable def GP (K:W.Frag) (aB aP aM:Addr) (H:Hp) (x at_:V):Prop:=(∃ n:String,Gu K H x (.type n)/\W.kitOne K (.type n) (.type "str")=some false/\at_=.non) \/ ∃ (z:Str) (ps:List Str),x=.str z/\Txt.split z "; " = ps/\(at_=.non \/ ∃ k:Nat,at_=.int (k:Nat))/\z.length<=200000/\ps.length<=900/\(∀ p∈ps,p.length<=900)/\∀ (H':Hp) (D:Addr) (us:List V),Ak H H'->H' D=some (.lst us)->Paired (λp v=>TupAt H' (rdT p) v) ps us->Lq K aB aP aM H' (.ref D) at_
theorem GP.mono {K:W.Frag} {aB aP aM:Addr} {H H2:Hp} {x at_:V} (s:Ak H H2) (h:GP K aB aP aM H x at_):GP K aB aP aM H2 x at_:=by
 rcases h with⟨n,t,h⟩ | ⟨z,ps,e1,e2,e6,e3,e4,e5,f⟩
 ·exact .inl ⟨n,Nu t s,h⟩
 ·exact .inr ⟨z,ps,e1,e2,e6,e3,e4,e5,λH' D us s'=>f H' D us (s.trans s')⟩
noncomputable def Y5 (K:W.Frag) (aB aP aM cN:Addr):Sp:=λvs H Q E=>∃ (x at_:V),vs=[x]/\GP K aB aP aM H x at_/\∀ dx H4,Ak H H4->H4 dx=some (V6 dx [("at",at_)])->E (.ref cN) (some dx) H4
include N T in
theorem bF:A_ P w K mg base (S7 P w) 11 aD.fRg aD.dRg ["text"] (Y5 K aB aP aM cN):=by
 have GOiR:A_ P w K mg base (S7 P w) 9 aD.fOi aD.dOi ["self","rows"] (Zh K aB aP aM cN):=aL N T
 refine N.FRg.1.oN fu (λvs H Q E h=>?_) (λb9 A outer s H vs Q E hr h=>?_)
 ·obtain⟨x0,at_,rfl,_⟩:=h
  rfl
 ·obtain⟨x0,at_,rfl,ra,q⟩:=h
  have hrOi1:Ba 10 _:=hr
  refine⟨_,(Ae (Bj (Cp (C_ (Aj Bs rfl T.isin ag (Aa (pv 0) (Aa (Ci (v:=.ty "str") rfl T.str eD rfl) Ab))))) (Ag (IK N.rN.inI N.rN.init N.rN.fn N.rN.kp (Za N T) (ad hr) N.FXi.2 rfl T.mNO rfl JQ (Aa FQ Ab))) BV)
   (Ag (Ar (My N.FOi.2.2 GOiR hrOi1 rfl T.mC N.FOi.2.1 .nil TX (Aa (Bp rfl (Bd (osc:=Ah ik) (N:=["text"]) rfl rfl (by decide +kernel)) (B_ (CV bo gc ge Gm (pv 0) (Aa An Ab))) (λ_ _ _ _=>CK) (λ_ _ _ _=>(Ai (Ze N T) (ad hr) rfl N.FRr.2.2 N.FRr.1.kp N.FRr.2.1 .nil Az (Aa (pv 0) Ab)))) Ab))))),?_⟩
  rcases ra with⟨n,t,hk,rfl⟩ | ⟨z,ps,rfl,sp,_,hz,hn,hp,f⟩
  ·exact⟨_,rfl,_,"str",_,_,rfl,t,hk,_,rfl,De ⟨_,rfl,λdx H4 _ s e=>q dx H4 s e⟩⟩
  refine⟨_,rfl,_,"str",_,_,rfl,.str _,J9,_,rfl,Ce ?_⟩
  refine⟨_,rfl,rfl,z,"; ",rfl,rfl,by decide +kernel,Nat.le_trans hz (by show 200000<=sizeLine;decide),(by rw[sp];exact Nat.le_trans hn (by show 900<=sizeLine;decide)),λp1 re=>?_⟩
  rw[sp]
  obtain⟨H1,d0,s1,l1⟩:=CN (o:=HO.lst (ps.map V.str)) re
  rw[d0]
  have hS:Dg K H1 p1 (ps.map V.str):=.inl (.inl l1)
  refine⟨p1,rfl,⟨_,hS⟩,JV (K:=K) (xs:=ps.map V.str) (λ_=>true) rdX hS (Av (by rw[ae];omega)) (λy hy H' hs R k=>k H' (Ak.refl H')) (λy hy _ H' hs R k=>?_) (λD H2 ys hD s2 hl2 P2=>?_)⟩
  ·obtain⟨t,ht,rfl⟩:=ay.mp hy
   exact⟨_,rfl,t,rfl,hp t ht,λTa H3 _ s3 hT=>k _ H3 s3 ⟨Ta,rfl,hT⟩⟩
  rw[bi.mpr (λ_ _=>rfl)] at P2
  have P3:Paired (λp v=>TupAt H2 (rdT p) v) ps ys:=Ff (F:=λ(x:V) y=>TupAt H2 (rdX x) y) V.str P2
  have hR:=f H2 D ys (s1.trans s2) hl2 P3
  intro x dx nx xq DL
  have sx:Ak H2 (upd (upd H2 dx (.own x)) x (.ins C dx [])):=λb o e=>by
   rw[Ao (Al e nx),Ao (Al e xq)]
   exact e
  exact⟨x,.ref D,at_,rfl,hR.mono sx,λd4 H4 s4 e4=>q d4 H4 ((s1.trans s2).trans (sx.trans s4)) e4⟩
theorem Yw {k:Nat} {A:Around} (r:Ba k A) (h:Option Value):J5 k (A.mark h):=⟨r.dp,r.un⟩
theorem VD {X:Cx} {K:W.Frag} {e:Expr} {f:Str} {pos:Pos} {ta:TE} (hK:X.K=K) (he:PE X e ta) (hb:attributeBase e f X.env (eval e X.env)=eval e X.env):PE X (.Attribute e f pos) (ZL K ta f):=by
 rw[<-hK]
 exact Xj he hb
theorem VN {H:Hp} {b:Bool}:∀ n:Nat,Paired (Dp 0 H) (List.replicate n (V.bl b)) (List.replicate n (V.bl b))
 | 0=>.nil
 | n+1=>.cons (Ng rfl) (VN n)
theorem aa {K:W.Frag} {aB aP aM:Addr} {H:Hp} {x v:V} (h:GP K aB aP aM H x v):v=.non \/ ∃ k:Nat,v=.int (k:Nat):=by
 rcases h with⟨n,t,h,e⟩ | ⟨z,ps,e1,e2,e6,_⟩
 ·exact .inl e
 ·exact e6
noncomputable def jK (K:W.Frag) (aB aP aM:Addr):Sp:=λvs H Q _=>∃ (x at_:V),vs=[x,at_]/\GP K aB aP aM H x at_/\∀ H',Ak H H'->Q (.bl true) H'
theorem Tw:BL ["_law_text","_law_due","_law_kinds_here","_law_at","_law_e"] ["_law_text","_law_due"] (Ah qL):=CT
include N T in
theorem jR:A_ P w K mg base Bh 12 aD.fRf aD.dRf ["_law_text","_law_due"] (jK K aB aP aM):=by
 have GRgR:A_ P w K mg base (S7 P w) 11 aD.fRg aD.dRg ["text"] (Y5 K aB aP aM cN):=bF N T
 refine N.FRf.1.ok Tw (λvs H Q E h=>?_) (λb9 A outer s H vs Q E hr h=>?_)
 ·obtain⟨x,at_,rfl,_⟩:=h
  rfl
 ·obtain⟨x0,at_,rfl,ra,q⟩:=h
  refine⟨_,(@Ae _ _ _ _ _ (@Ck _ _ _ _ _ _ 2 Tw.nd rfl (Or.inl rfl) (@Bo _ _ _ _ Ab) rfl (Or.inl rfl)) (@Ae _ _ _ _ _ (@Ck _ _ _ _ _ _ 3 Tw.nd rfl (Or.inl rfl) (J4 Hg Ac) rfl (Or.inl rfl)) (@Ae _ _ _ _ _ (Yd (λER=>(Vf (W0 (Wh GRgR (ad hr) rfl N.FRg.2.2 N.FRg.1.kp N.FRg.2.1 .nil (@BX _ _ _ _ _ rfl (pv 0) Ab) rfl)))) rfl T.mOE T.exO Tw.nd (i:=4) rfl rfl (λx=>(@Ae _ _ _ _ _ (@Ck _ _ _ _ _ _ 2 Tw.nd rfl (Or.inl rfl) (Wt (gP N T) (Yw (ad hr) _) rfl N.FKi.2.2 N.FKi.1.kp N.FKi.2.1 .nil Az (@BX _ _ _ _ _ rfl (pv 4) Ab)) rfl (Or.inl rfl)) (@Ag _ _ _ (@Bj _ _ _ _ _ _ _ _ (C_ (Aj (Bk (K:=K) rfl) rfl T.isin ag (@BX _ _ _ _ _ rfl (pv 4) (@BX _ _ _ _ _ rfl (Bc (v:=.ref cN) rfl T.mNO rfl) Ab)))) (@Ag _ _ _ (@Ck _ _ _ _ _ _ 3 Tw.nd rfl (Or.inl rfl) (VD (K:=K) rfl (pv 4) rfl) rfl (Or.inl rfl))) BV))))) (@Ae _ _ _ _ _ (@Bj _ _ _ _ _ _ _ _ (BR (QF 0 (ck (kn (by decide:1<=64) _) hr.units)) (pv 2) (BJ Ef (@Bo _ _ _ _ (@BX _ _ _ _ _ rfl Et (@BX _ _ _ _ _ rfl Et Ab))) (BJ W4 (@Bo _ _ _ _ (@BX _ _ _ _ _ rfl Et Ab)) Ac)) (BZ _)) (@Ag _ _ _ (@Ar _ _ _ _ Et)) BV) (@Ae _ _ _ _ _ (@Bj _ _ _ _ _ _ _ _ (BR WY (pv 1) FQ (BZ _)) (@Ag _ _ _ (@Ar _ _ _ _ (DY WY (pv 3) FQ (BZ _)))) BV) (@Ag _ _ _ (@Ar _ _ _ _ (CQ (Ai (d8 N T) (ad hr) rfl N.FLw.2.2 N.FLw.1.kp N.FLw.2.1 .nil Az (@BX _ _ _ _ _ rfl (pv 3) Ab)) (By (DY DQ (pv 3) (pv 1) (BZ _))))))))))),?_⟩
  refine⟨Bx (by simp),λpT K0=>?_⟩
  have s1:=Aw (o:=HO.lst []) K0
  generalize upd H pT (HO.lst [])=H1 at s1 |-
  refine⟨_,rfl,?_⟩
  have s2:=s1
  refine⟨_,rfl,x0,at_,rfl,ra.mono s2,λd4 H4 s4 e4=>⟨cN,rfl,N.rN.mro,λex hex=>?_⟩⟩
  have s5:=Aw (o:=Jg ex cN (some d4)) hex
  have x5:upd H4 ex (Jg ex cN (some d4)) ex=some (Jg ex cN (some d4)):=Af
  generalize upd H4 ex (Jg ex cN (some d4))=H5 at s5 x5 |-
  have ie:Hi H5 ex cN [("at",at_)]:=.full x5 (s5 _ _ e4)
  have sj:=(s2.trans s4).trans s5
  refine⟨_,rfl,ex,_,rfl,ie,λp6 H6 s6 l6=>?_⟩
  have IH:=ie.same s6
  have qo:=sj.trans s6
  refine⟨_,rfl,ex,cN,_,_,_,_,rfl,IH,N.rN.xc,rfl,N.rN.k0,_,rfl,De ?_⟩
  refine⟨_,rfl,ex,cN,_,_,rfl,IH,N.rN.xc,N.rN.na,rfl,?_⟩
  refine⟨_,rfl,by show 2<=sizeLine;decide,λp7 RS=>?_⟩
  obtain⟨H7,d0,s7,l7⟩:=CN (o:=HO.lst [V.bl true,.bl true]) RS
  rw[d0]
  refine⟨by show 1<=sizeLine;decide,λp8 zh=>?_⟩
  obtain⟨H8,d0,s8,l8⟩:=CN (o:=HO.lst [V.bl false]) zh
  rw[d0]
  refine⟨p8,14,_,rfl,rfl,l8,by decide,by decide,by show 1 * 14<=sizeLine;decide,λp9 EM=>?_⟩
  have er:(List.replicate (14:Int).toNat [V.bl false]).flatten=List.replicate 14 (V.bl false):=rfl
  rw[er]
  obtain⟨H9,d0,s9,l9⟩:=CN (o:=HO.lst (List.replicate 14 (V.bl false))) EM
  rw[d0]
  refine⟨p7,p9,_,_,rfl,rfl,s9 _ _ (s8 _ _ l7),l9,by show 16<=sizeLine;decide,λpa A3=>?_⟩
  obtain⟨Ha,d0,sa,la⟩:=CN (o:=HO.lst Vx) A3
  rw[d0]
  have IE:=(s7.trans (s8.trans (s9.trans sa)))
  have GL:=qo.trans IE
  refine⟨p6,pa,rfl,rfl,.inr ⟨p6,pa,_,_,rfl,rfl,.inl ⟨IE _ _ l6,la⟩,.cons (Ng rfl) (.cons (Ng rfl) (VN 14))⟩,_,rfl,Ce ?_⟩
  refine⟨_,rfl,rfl,_,rfl,?_⟩
  rcases aa ra with rfl | ⟨k,rfl⟩
  ·refine De ⟨_,rfl,rfl,q _ GL⟩
  ·refine Ce ?_
   refine⟨_,rfl,_,rfl,_,rfl,De ?_⟩
   refine⟨_,rfl,_,rfl,rfl,?_⟩
   have e1:decide (V.int (k:Nat)=V.int (k:Nat))=true:=decide_eq_true rfl
   rw[e1]
   exact q _ GL
end
set_option maxHeartbeats 4000000
section
variable {K:W.Frag} {aB aP aM:Addr} {ρ:V->R} {us:List V} {H:Hp}
theorem R4 {r:R} {T:Addr} {xs:List V} (ok:HX K aB aP aM ρ us r) (ah:HS ρ us) (hT:H T=some (.tup (.str r.w::xs))) (hx:xs.length<=100) (od:∀ x∈xs,Eo H x)
  (no:∀ (ap:Addr) (ps:List Str),W.nsIn K aP r.w=some (some (.ref ap))->KTup K ap (ps.map V.str)->(V.str r.nm::r.rest).length=ps.length->(∀ (i:Nat) x y,(V.str r.nm::r.rest)[i]? = some x->ps[i]? = some y->EY K aB ρ us x y)->¬ Xp K aB ρ us xs ps):Fy K aB aP aM H ρ us (.ref T) false:=by
 obtain⟨ap,ps,hn,nh,hlen,oI,hok⟩:=ok.parts
 have n:=no ap ps hn nh hlen hok
 have ix:∀ y∈ps,∃ x,EY K aB ρ us x y:=λy hy=>by
  obtain⟨i,hi,rfl⟩:=dA hy
  exact⟨(V.str r.nm::r.rest)[i]'(by omega),hok i _ _ (af _) (af hi)⟩
 refine .bad (pk:=some ps) hT ⟨hx,od,λxo e x hx y hy=>?_,λ_ xo e h=>?_,λ_=>.inr ⟨ap,ps,rfl,hn,nh,oI⟩⟩ ah ?_
 ·cases e
  obtain⟨x0,h0⟩:=ix y hy
  exact Ow h0 x
 ·cases e
  exact absurd h n
 ·rintro (⟨e,_⟩ | ⟨_,xo,e,h,_⟩)
  ·exact ok.ns e
  ·cases e
   exact n h
theorem Pj {r:R} {T:Addr} {xs:List V} (ok:Vt K aM ρ us r) (ah:HS ρ us) (hT:H T=some (.tup (.str r.w::xs))) (hx:xs.length<=100) (od:∀ x∈xs,Eo H x) (no:¬ Wb ρ us xs):Fy K aB aP aM H ρ us (.ref T) false:=by
 refine .bad (pk:=none) hT ⟨hx,od,(λ_ e=>nomatch e),(λhw=>?_),λhn=>absurd ok.w hn⟩ ah ?_
 ·rw[ok.w] at hw
  exact absurd hw (by decide +kernel)
 ·rintro (⟨_,h⟩ | ⟨h,_⟩)
  ·exact no h
  ·exact h ok.w
theorem X6 {r:R} {T:Addr} {xs:List V} (ok:HX K aB aP aM ρ us r) (ah:HS ρ us) (hT:H T=some (.tup (.str r.w::xs))) (hx:xs.length<=100) (od:∀ x∈xs,Eo H x) (hl:xs.length ≠ (V.str r.nm::r.rest).length):Fy K aB aP aM H ρ us (.ref T) false :=
 R4 ok ah hT hx od λ_ _ _ _ e _ h=>hl (h.1.trans e.symm)
end
set_option maxHeartbeats 4000000
noncomputable def DG (K:W.Frag) (a:Addr) (L:List Str):Bool:=match K.lookup a with
 | some ⟨_,_,.dict es _,_⟩=>es.toList.all λe=>(L.any λs=>e.key.isStr s) && !e.refKey
 | _=>false
theorem isStr_inj {v:Value} {s t:Str} (h:v.isStr s=true) (g:v.isStr t=true):s=t:=by
 cases v with
 | str x tok =>
  have e1:x=s:=eq_of_beq h
  have e2:x=t:=eq_of_beq g
  exact e1.symm.trans e2
 | _=>cases h
theorem TQ {K:W.Frag} {a:Addr} {L:List Str} (h:DG K a L=true) {w:Str} (hw:w ∉ L):W.nsIn K a w=some none:=by
 unfold DG at h
 unfold W.nsIn
 split at h
 ·next _ _ es _ _ e =>
  simp only[e]
  rw[cw] at h
  have h1:List.find? (λx=>x.key.isStr w) es.toList=none:=List.find?_eq_none.mpr λe he g=>by
   have:=h e he
   rw[eI,gi] at this
   obtain⟨⟨s,hs,hs2⟩,_⟩:=this
   exact hw (isStr_inj hs2 g ▸ hs)
  rw[h1]
  have h2:¬ (es.toList.any λx=>x.refKey)=true:=λg=>by
   obtain⟨e,he,g⟩:=gi.mp g
   have:=h e he
   rw[eI,g] at this
   cases this.2
  show (if (es.toList.any λx=>x.refKey)=true then none else some none)=some none
  rw[if_neg h2]
 ·cases h
section
variable {K:W.Frag} {aB aP aM:Addr} {ρ:V->R} {us:List V} {H:Hp}
theorem bD {y t:Str} (h:Gj K aB ρ us (.str t) y true):isNm t:=by
 rcases h with⟨rd,hi',a',g1,g2,g3⟩ | ⟨_,_,g3⟩ | ⟨_,_,g3⟩
 ·cases g3
 ·obtain⟨t',e,h⟩:=(g3.mp rfl).1
  cases e
  exact h
 ·obtain⟨t',e,g,_⟩:=g3.mp rfl
  cases e
  exact g
theorem XQ {r:R} {T:Addr} {xs:List V} {t:Str} (ok:Ea K aB aP aM ρ us r) (ah:HS ρ us) (hT:H T=some (.tup (.str r.w::xs))) (hx:xs.length<=100) (od:∀ x∈xs,Eo H x) (ht:V.str t∈xs) (hn:¬ isNm t):Fy K aB aP aM H ρ us (.ref T) false:=by
 rcases ok with ok | ok
 ·refine R4 ok ah hT hx od λap ps _ _ _ _ h=>?_
  obtain⟨i,hi,e⟩:=dA ht
  have hp:i<ps.length:=by rw[<-h.1];exact hi
  have:=h.2 i _ ps[i] (af hi) (af hp)
  rw[e] at this
  exact hn (bD this)
 ·refine Pj ok ah hT hx od λ⟨_,ts,e,_,h⟩=>?_
  rw[e] at ht
  obtain⟨t',sF,e'⟩:=ay.mp ht
  cases e'
  exact hn (h _ sF).1
theorem Tj {r:R} {T:Addr} (ok:Ea K aB aP aM ρ us r) (ah:HS ρ us) (hT:H T=some (.tup [.str r.w])):Fy K aB aP aM H ρ us (.ref T) false:=by
 rcases ok with ok | ok
 ·exact X6 ok ah hT (Nat.zero_le _) (λ_ h=>nomatch h) (by simp)
 ·exact Pj ok ah hT (dc _) (λ_ h=>nomatch h) λh=>h.1 rfl
theorem QH {D:Addr} {w:Str} {xs:List V} (ah:HS ρ us) (hD:H D=some (.tup (.str w::xs))) (hn:W.nsIn K aP w=some none) (h1:¬ w = "step") (h2:¬ w = "line") (hx:xs.length<=100) (od:∀ x∈xs,Eo H x):Fy K aB aP aM H ρ us (.ref D) false:=by
 refine .bad (pk:=none) hD ⟨hx,od,(λ_ e=>nomatch e),(λ_ _ e=>nomatch e),λ_=>.inl ⟨rfl,hn,h2⟩⟩ ah ?_
 rintro (⟨e,_⟩ | ⟨_,ps,e,_⟩)
 ·exact h1 e
 ·cases e
end
noncomputable abbrev Fz:List Str:=["board","rank","stop","line","coupler","mute"]
noncomputable def HH (K:W.Frag) (aB aP aM:Addr) (r:R) (z:Str):Prop:=z.length<=900/\Cw 59 32 (LL z)=0/\∀ (ρ:V->R) (us:List V) (H:Hp) (T:Addr),Ea K aB aP aM ρ us r->HS ρ us->H T=some (.tup (rdT z))->Fy K aB aP aM H ρ us (.ref T) false
theorem Em {c d:Nat}:∀ {l:List Nat},c ∉ l->Cw c d l=0
 | [],_=>rfl
 | [_],_=>rfl
 | a::b::l,h=>by
  show (if a=c/\b=d then 1 else 0)+Cw c d (b::l)=0
  rw[if_neg λz=>h (by rw[z.1];exact av),Em λz=>h (aI _ z)]
theorem QR {c d:Nat} (lI:c ≠ d):∀ {l:List Nat},c ∉ l->Cw c d (l++[c])=0
 | [],_=>rfl
 | [a],h=>by
  show (if a=c/\c=d then 1 else 0)+0=0
  rw[if_neg λz=>lI z.2]
 | a::b::l,h=>by
  show (if a=c/\b=d then 1 else 0)+Cw c d (b::l++[c])=0
  rw[if_neg λz=>h (by rw[z.1];exact av),QR lI λz=>h (aI _ z)]
theorem QT {z:Str} {qs:List Str} (e:LL z=jL [32] (qs.map λp=>LL p)) (hn:qs ≠ []) (h:∀ p∈qs,∀ c∈LL p,c ≠ 32/\c<128):rdT z=qs.map rdW:=by
 have ez:z=Str.join " " qs:=Nb (e.trans (Eb " " qs).symm)
 unfold rdT
 rw[ez,Fo (c:=32) (s:=[]) (by decide +kernel) (by simp) (by decide +kernel) hn λp hp hc=>(h p hp 32 hc).1 rfl]
theorem cD {H:Hp} {z:Str} (h:Tx z):Eo H (rdW z):=by
 cases hb:Nm.JG (LL z) with
 | true =>
  obtain⟨n,e,_⟩:=M4 hb
  rw[e]
  exact .int n
 | false =>
  rw[G6 hb]
  exact .str h
theorem Fg {K:W.Frag} {aB aP aM:Addr} (hP:DG K aP Fz=true) {r:R} (hw:jC r.w) {z q0:Str} {qs:List Str} (e:LL z=jL [32] ((q0::qs).map λp=>LL p)) (h:∀ p∈q0::qs,∀ c∈LL p,c ≠ 32/\c<128) (hq:qs.length<=100) (hz:z.length<=900) (vS:Cw 59 32 (LL z)=0)
  (hc:(q0=r.w/\((∃ t∈qs,Nm.JG (LL t)=false/\¬ isNm t) \/ qs=[])) \/ (Nm.JG (LL q0)=false/\q0 ∉ Fz/\q0 ≠ "step")):HH K aB aP aM r z:=by
 refine⟨hz,vS,λρ us H T ok ah hT=>?_⟩
 rw[QT e (fg _ _) h,cS] at hT
 have hl:=(Qv 32 ((q0::qs).map λp=>LL p)).1
 rw[<-e,<-E_] at hl
 have od:∀ x∈qs.map rdW,Eo H x:=λx hx=>by
  obtain⟨p,hp,rfl⟩:=ay.mp hx
  have h2:=hl _ (cf (aI _ hp))
  rw[<-E_] at h2
  exact cD ⟨by omega,λc hc=>(h p (aI _ hp) c hc).2⟩
 have hxl:(qs.map rdW).length<=100:=by rw[ae];exact hq
 rcases hc with⟨rfl,g⟩ | ⟨g1,g2,g3⟩
 ·rw[G6 (PN (VF hw))] at hT
  rcases g with⟨t,ht,t1,t2⟩ | rfl
  ·have:=cf (f:=rdW) ht
   rw[G6 t1] at this
   exact XQ ok ah hT hxl od this t2
  ·exact Tj ok ah hT
 ·rw[G6 g1] at hT
  exact QH ah hT (TQ hP g2) g3 (λz=>g2 (by rw[z];simp)) hxl od
theorem JK (s y:List Nat):∀ {ps:List (List Nat)},ps ≠ []->jL s (ps++[y])=jL s ps++(s++y)
 | [],h=>absurd rfl h
 | [p],_=>rfl
 | p::q::r,_=>by
  show p++(s++jL s (q::r++[y]))=(p++(s++jL s (q::r)))++(s++y)
  rw[JK s y (ps:=q::r) (by simp)]
  simp[List.append_assoc]
theorem Ip {s:List Nat} {c:Nat}:∀ {ps:List (List Nat)},c∈jL s ps->c∈s \/ ∃ p∈ps,c∈p
 | [],h=>(kR h).elim
 | [p],h=>.inr ⟨p,av,h⟩
 | p::q::r,h=>by
  have h:c∈p++(s++jL s (q::r)):=h
  rcases ba.mp h with h | h
  ·exact .inr ⟨p,av,h⟩
  ·rcases ba.mp h with h | h
   ·exact .inl h
   ·rcases Ip h with h | ⟨p',hp,h⟩
    ·exact .inl h
    ·exact .inr ⟨p',aI _ hp,h⟩
theorem Wg (f:Nat->Nat) (s:List Nat):∀ ps:List (List Nat),(jL s ps).map f=jL (s.map f) (ps.map λp=>p.map f)
 | []=>rfl
 | [p]=>rfl
 | p::q::r=>by
  show (p++(s++jL s (q::r))).map f=p.map f++(s.map f++jL (s.map f) ((q::r).map λp=>p.map f))
  rw[ce,ce,Wg f s (q::r)]
noncomputable def inter:List Str->List Str
 | []=>[]
 | [p]=>[p]
 | p::q::r=>p :: "" :: inter (q::r)
theorem MJ:∀ ps:List Str,(inter ps).length<=2 * ps.length
 | []=>ar _
 | [p]=>by simp[inter]
 | p::q::r=>by
  have:=MJ (q::r)
  show (inter (q::r)).length+1+1<=_
  simp only[List.length_cons] at this |-
  omega
theorem Mt {t:Str}:∀ {ps:List Str},t∈inter ps->t = "" \/ t∈ps
 | [],h=>(kR h).elim
 | [p],h=>.inr h
 | p::q::r,h=>by
  rcases bq.mp h with h | h
  ·exact .inr (by rw[h];exact av)
  ·rcases bq.mp h with h | h
   ·exact .inl h
   ·rcases Mt h with h | h
    ·exact .inl h
    ·exact .inr (aI _ h)
theorem O1:∀ ps:List Str,jL [32,32] (ps.map λp=>LL p)=jL [32] ((inter ps).map λp=>LL p)
 | []=>rfl
 | [p]=>rfl
 | p::q::r=>by
  have ih:=O1 (q::r)
  have hne:(inter (q::r)).map (λp=>LL p) ≠ []:=by
   cases r with
   | nil=>simp[inter]
   | cons a b=>simp[inter]
  show LL p++([32,32]++jL [32,32] ((q::r).map λp=>LL p))=jL [32] (LL p::LL "" :: (inter (q::r)).map λp=>LL p)
  rw[ih]
  cases hi:(inter (q::r)).map λp=>LL p with
  | nil=>exact absurd hi hne
  | cons a b=>rfl
section
end
set_option maxHeartbeats 4000000
theorem app_list (a b:Str):LL (a++b)=LL a++LL b:=PyProof.Rows.cps_toList_append a b
theorem XM {l:List Nat} {c:Nat} (hc:c∈l.drop 1) (hd:Nm.dig c=false):Nm.JG l=false:=by
 have h1:¬ l=[48]:=λe=>by rw[e] at hc;cases hc
 have h2:c∈Nm.En l:=by
  unfold Nm.En
  split
  ·exact hc
  ·exact List.mem_of_mem_drop hc
 have h3:(Nm.En l).all Nm.dig=false:=by
  rw[<-fF,cw]
  exact λh=>by
   have:=h c h2
   rw[hd] at this
   cases this
 unfold Nm.JG
 rw[decide_eq_false h1,h3,ib,dQ]
 rfl
theorem Ob {c:Nat} {l:List Nat} (h:c ≠ 45) (hd:Nm.dig c=false):Nm.JG (c::l)=false:=by
 have e:Nm.En (c::l)=c::l:=by
  unfold Nm.En
  rw[if_neg]
  simpa using h
 have h1:¬ c::l=[48]:=λe=>by
  rw[(List.cons.inj e).1] at hd
  cases hd
 unfold Nm.JG
 rw[e,decide_eq_false h1,kK,hd,dQ,ib,dQ]
 rfl
theorem V5 {c:Nat} {l:List Nat}:Nm.JG (48::c::l)=false:=by
 have e:Nm.En (48::c::l)=48::c::l:=rfl
 unfold Nm.JG
 rw[e,decide_eq_false (by simp)]
 simp
theorem M_ {t:Str} {c:Nat} (hc:c∈LL t) (h:c<97):¬ isNm t:=λn=>by
 have:=n.2.2 c hc
 omega
structure Gd (r:R):Prop where
 p:∀ x∈r.v,OD x
 l:r.v.length<=30
 w:jC r.w
noncomputable abbrev tS (r:R):List Str:=r.v.map Kw
noncomputable abbrev tT (r:R):List Str:=(V.str r.nm::r.rest).map Kw
noncomputable abbrev mL (ps:List Str):List (List Nat):=ps.map λp=>LL p
section
variable {K:W.Frag} {aB aP aM:Addr} {r:R} {z:Str}
theorem Ji (r:R):LL (Bw r.v)=jL [32] (mL (tS r)):=Eb " " (r.v.map Kw)
theorem Gd.sg (g:Gd r):∀ p∈tS r,∀ c∈LL p,c ≠ 32/\c ≠ 59/\c<128:=λp hp c hc=>by
 obtain⟨x,hx,rfl⟩:=ay.mp hp
 exact RZ (g.p x hx) c hc
theorem Gd.ln (g:Gd r):∀ p∈tS r,1<=(LL p).length/\(LL p).length<=13:=λp hp=>by
 obtain⟨x,hx,rfl⟩:=ay.mp hp
 exact WX (g.p x hx)
theorem Gd.YK (g:Gd r):59 ∉ LL (Bw r.v):=Nq g.p
theorem Gd.len (g:Gd r):(LL (Bw r.v)).length<=420:=by rw[<-E_];exact Hl g.p g.l
theorem Gd.n (g:Gd r):(tT r).length<=29:=by
 have:=g.l
 rw[ae]
 have e:r.v.length=(V.str r.nm::r.rest).length+1:=rfl
 omega
theorem Gd.pG (g:Gd r):∀ p∈tT r,∀ c∈LL p,c ≠ 32/\c ≠ 59/\c<128:=λp hp=>g.sg p (aI _ hp)
theorem Vy (hP:DG K aP Fz=true) (g:Gd r) {y:Str} (hy:∀ c∈LL y,c ≠ 32/\c ≠ 59/\c<128) (hl:(LL y).length<=10) (h1:Nm.JG (LL y)=false) (h2:¬ isNm y) (e:LL z=LL (Bw r.v)++32::LL y):HH K aB aP aM r z:=by
 have hz:=g.len
 refine Fg hP g.w (q0:=r.w) (qs:=tT r++[y]) ?_ ?_ ?_ ?_ (Em ?_) (.inl ⟨rfl,.inl ⟨y,be _ av,h1,h2⟩⟩)
 ·rw[e,Ji]
  have:=JK [32] (LL y) (ps:=mL (tS r)) (fg _ _)
  rw[show (r.w::(tT r++[y])).map (λp=>LL p)=mL (tS r)++[LL y] by simp[mL,tS,tT,List.map_append];rfl,this]
  rfl
 ·intro p hp c hc
  have:p∈tS r++[y]:=hp
  rcases ba.mp this with h | h
  ·exact⟨(g.sg p h c hc).1,(g.sg p h c hc).2.2⟩
  ·rw[ax.mp h] at hc
   exact⟨(hy c hc).1,(hy c hc).2.2⟩
 ·rw[aE,bv]
  have:=g.n
  omega
 ·rw[E_,e,aE,aS]
  omega
 ·rw[e]
  intro h
  rcases ba.mp h with h | h
  ·exact g.YK h
  ·rcases bq.mp h with h | h
   ·cases h
   ·exact (hy 59 h).2.1 rfl
theorem Wc (hP:DG K aP Fz=true) (g:Gd r) (e:LL z=32::LL (Bw r.v)):HH K aB aP aM r z:=by
 have hz:=g.len
 refine Fg hP g.w (q0:="") (qs:=tS r) ?_ ?_ ?_ ?_ (Em ?_) (.inr ⟨by decide +kernel,by decide +kernel,by decide +kernel⟩)
 ·rw[e,Ji]
  rfl
 ·intro p hp c hc
  rcases bq.mp hp with h | h
  ·rw[h] at hc
   cases hc
  ·exact⟨(g.sg p h c hc).1,(g.sg p h c hc).2.2⟩
 ·rw[ae]
  have:=g.l
  omega
 ·rw[E_,e,aS]
  omega
 ·rw[e]
  intro h
  rcases bq.mp h with h | h
  ·cases h
  ·exact g.YK h
theorem WL (hP:DG K aP Fz=true) (g:Gd r):HH K aB aP aM r r.w:=by
 have hm:r.w∈tS r:=av
 have:=(g.ln _ hm).2
 refine Fg hP g.w (q0:=r.w) (qs:=[]) rfl ?_ (dc _) (by rw[E_];omega) (Em λh=>(g.sg _ hm 59 h).2.1 rfl) (.inl ⟨rfl,.inr rfl⟩)
 intro p hp c hc
 rw[ax.mp hp] at hc
 exact⟨(g.sg _ hm c hc).1,(g.sg _ hm c hc).2.2⟩
theorem dG (hP:DG K aP Fz=true) (g:Gd r):HH K aB aP aM r "":=by
 refine Fg hP g.w (q0:="") (qs:=[]) rfl ?_ (dc _) (by decide +kernel) rfl (.inr ⟨by decide +kernel,by decide +kernel,by decide +kernel⟩)
 intro p hp c hc
 rw[ax.mp hp] at hc
 cases hc
theorem S5 (hP:DG K aP Fz=true) (g:Gd r) {y:Str} (hy:∀ c∈LL y,c ≠ 32/\c<128) (h1:Nm.JG (LL y)=false) (h2:¬ isNm y) (hl:z.length<=900) (vS:Cw 59 32 (LL z)=0) (e:LL z=jL [32] (mL ((tS r).dropLast++[y]))):HH K aB aP aM r z:=by
 have ed:(tS r).dropLast=r.w::(tT r).dropLast:=rfl
 refine Fg hP g.w (q0:=r.w) (qs:=(tT r).dropLast++[y]) ?_ ?_ ?_ hl vS (.inl ⟨rfl,.inl ⟨y,be _ av,h1,h2⟩⟩)
 ·rw[e,ed]
  rfl
 ·intro p hp c hc
  have:p∈(tS r).dropLast++[y]:=hp
  rcases ba.mp this with h | h
  ·have:=g.sg p (jI _ h) c hc
   exact⟨this.1,this.2.2⟩
  ·rw[ax.mp h] at hc
   exact hy c hc
 ·rw[aE,bv,gx]
  have:=g.n
  omega
theorem aA (hP:DG K aP Fz=true) (g:Gd r) (hl:z.length<=900) (e:LL z=jL [32,32] (mL (tS r))):HH K aB aP aM r z:=by
 have e2:=e.trans (O1 (tS r))
 have ei:inter (tS r)=r.w :: "" :: inter (tT r):=rfl
 rw[ei] at e2
 have hm:∀ p∈r.w :: "" :: inter (tT r),p = "" \/ p∈tS r:=λp hp=>by
  rw[<-ei] at hp
  exact Mt hp
 refine Fg hP g.w (q0:=r.w) (qs:="" :: inter (tT r)) e2 ?_ ?_ hl (Em ?_) (.inl ⟨rfl,.inl ⟨"",av,by decide +kernel,λh=>absurd h.1 (by decide +kernel)⟩⟩)
 ·intro p hp c hc
  rcases hm p hp with h | h
  ·rw[h] at hc
   cases hc
  ·exact⟨(g.sg p h c hc).1,(g.sg p h c hc).2.2⟩
 ·have h1:=MJ (tT r)
  have h2:=g.n
  rw[aS]
  omega
 ·rw[e]
  intro h
  rcases Ip h with h | ⟨p,hp,h⟩
  ·simp at h
  ·obtain⟨q,hq,rfl⟩:=ay.mp hp
   exact (g.sg q hq 59 h).2.1 rfl
theorem YQ (hP:DG K aP Fz=true) (g:Gd r) (hl:z.length<=900) (e:LL z=LL "bell " ++ jL [32] (mL (tT r))):HH K aB aP aM r z:=by
 have eb:LL "bell " = LL "bell" ++ [32]:=by decide +kernel
 have hb:∀ c∈LL "bell",c ≠ 32/\c ≠ 59/\c<128:=by decide +kernel
 refine Fg hP g.w (q0:="bell") (qs:=tT r) ?_ ?_ ?_ hl (Em ?_) (.inr ⟨by decide +kernel,by decide +kernel,by decide +kernel⟩)
 ·rw[e,eb,dL]
  rfl
 ·intro p hp c hc
  rcases bq.mp hp with h | h
  ·rw[h] at hc
   exact⟨(hb c hc).1,(hb c hc).2.2⟩
  ·exact⟨(g.pG p h c hc).1,(g.pG p h c hc).2.2⟩
 ·have:=g.n
  omega
 ·rw[e,eb]
  intro h
  rcases ba.mp h with h | h
  ·revert h
   decide +kernel
  ·rcases Ip h with h | ⟨p,hp,h⟩
   ·simp at h
   ·obtain⟨q,hq,rfl⟩:=ay.mp hp
    exact (g.pG q hq 59 h).2.1 rfl
theorem Yv {w:Str} (h:jC w):∃ c l,LL w=c::l/\97<=c/\c<=122:=by
 have n:=VF h
 have h1:=n.1
 rw[E_] at h1
 cases e:LL w with
 | nil=>rw[e] at h1;cases h1
 | cons c l =>
  have:=n.2.2 c (by show c∈LL w;rw[e];exact List.mem_cons_self)
  exact⟨c,l,rfl,this⟩
theorem Z9 (hP:DG K aP Fz=true) (g:Gd r) {s:Nat} (hs:s=9 \/ s=44) (hl:z.length<=900) (e:LL z=jL [s] (mL (tS r))):HH K aB aP aM r z:=by
 have e1:LL z=LL r.w++s::jL [s] (mL (tT r)):=e
 have hs2:s ≠ 32/\s ≠ 59/\s<97:=by omega
 have hm:∀ c∈LL z,c ≠ 32/\c ≠ 59/\c<128:=λc hc=>by
  rw[e] at hc
  rcases Ip hc with h | ⟨p,hp,h⟩
  ·rw[ax.mp h]
   omega
  ·obtain⟨q,hq,rfl⟩:=ay.mp hp
   exact g.sg q hq c h
 have hsz:s∈LL z:=by rw[e1];exact be _ av
 have hno:∀ w:Str,(∀ c∈LL w,97<=c)->z ≠ w:=λw h ez=>by
  rw[ez] at hsz
  have:=h s hsz
  omega
 obtain⟨c,l,ec,hc⟩:=Yv g.w
 refine Fg hP g.w (q0:=z) (qs:=[]) rfl ?_ (dc _) hl (Em λh=>(hm 59 h).2.1 rfl) (.inr ⟨?_,?_,hno _ (by decide +kernel)⟩)
 ·intro p hp c hc
  rw[ax.mp hp] at hc
  exact⟨(hm c hc).1,(hm c hc).2.2⟩
 ·rw[e1,ec]
  refine Ob (by omega) ?_
  unfold Nm.dig
  rw[decide_eq_false (p:=c<=57) (by omega),ib]
 ·intro h
  simp only[List.mem_cons,List.not_mem_nil,or_false] at h
  rcases h with h | h | h | h | h | h <;> exact hno _ (by decide +kernel) h
theorem fH (hP:DG K aP Fz=true) (g:Gd r) (e:z=⟨(Bw r.v).cps.map PyProof.Rows.up1⟩):HH K aB aP aM r z:=by
 have el:LL z=(LL (Bw r.v)).map PyProof.Rows.up1:=by rw[e];exact Array.toList_map ..
 have hu:∀ c,c ≠ 32->c ≠ 59->c<128->PyProof.Rows.up1 c ≠ 32/\PyProof.Rows.up1 c ≠ 59/\PyProof.Rows.up1 c<128:=λc h1 h2 h3=>by
  unfold PyProof.Rows.up1
  split <;> omega
 obtain⟨w',uT,A2⟩:∃ w':Str,LL w'=(LL r.w).map PyProof.Rows.up1/\(Nm.JG (LL w')=false/\w' ∉ Fz/\w' ≠ "step"):=by
  refine⟨⟨r.w.cps.map PyProof.Rows.up1⟩,Array.toList_map ..,?_⟩
  rcases g.w with h | h | h | h | h | h | h <;> (rw[h];decide +kernel)
 have hus:∀ q∈tT r,∃ q':Str,LL q'=(LL q).map PyProof.Rows.up1:=λq _=>⟨⟨q.cps.map PyProof.Rows.up1⟩,Array.toList_map ..⟩
 refine Fg hP g.w (q0:=w') (qs:=(tT r).map λq=>⟨q.cps.map PyProof.Rows.up1⟩) ?_ ?_ ?_ ?_ (Em ?_) (.inr A2)
 ·have e3:(mL (tS r)).map (λp=>p.map PyProof.Rows.up1)=(w'::(tT r).map λq=>(⟨q.cps.map PyProof.Rows.up1⟩:Str)).map λp=>LL p:=by
   show (LL r.w).map PyProof.Rows.up1::(mL (tT r)).map (λp=>p.map PyProof.Rows.up1)=LL w'::_
   rw[uT]
   generalize tT r=qs
   refine congrArg (List.cons _) ?_
   rw[bg,bg]
   exact fi λq _=>(Array.toList_map ..).symm
  rw[el,Ji,Wg,e3]
  rfl
 ·intro p hp c hc
  have:∃ q∈tS r,c∈(LL q).map PyProof.Rows.up1:=by
   rcases bq.mp hp with h | h
   ·exact⟨r.w,av,by rw[h,uT] at hc;exact hc⟩
   ·obtain⟨q,hq,rfl⟩:=ay.mp h
    exact⟨q,aI _ hq,by rw[<-Array.toList_map] ;exact hc⟩
  obtain⟨q,hq,h⟩:=this
  obtain⟨d,hd,rfl⟩:=ay.mp h
  have s:=g.sg q hq d hd
  have:=hu d s.1 s.2.1 s.2.2
  exact⟨this.1,this.2.2⟩
 ·rw[ae]
  have:=g.n
  omega
 ·rw[E_,el,ae]
  have:=g.len
  omega
 ·rw[el]
  intro h
  obtain⟨d,hd,h⟩:=ay.mp h
  rw[Ji] at hd
  rcases Ip hd with h2 | ⟨p,hp,h2⟩
  ·rw[ax.mp h2] at h
   revert h
   decide +kernel
  ·obtain⟨q,hq,rfl⟩:=ay.mp hp
   have s:=g.sg q hq d h2
   exact (hu d s.1 s.2.1 s.2.2).2.1 h
end
section
end
section
variable {P:Program} {w:World} {K:W.Frag} {mg:Str->Option Value} {base:Heap} {C cN cO c0 c1 c2 c3 c4 c5 c6 c7 c8 c9 lP kX ll ma aN aK aB aP aM:Addr} {aD:Ad}
variable (N:qW K mg C cN cO c0 c1 c2 c3 c4 c5 c6 c7 c8 c9 lP kX ll ma aD) (T:Txt K w.params mg C cN cO c0 c1 c2 c3 c4 c5 c6 c7 c8 c9 lP kX ll ma aN aK aB aP aM)
theorem pick {xs:List V} (c:Int) (n:Nat) (hn:xs.length=n) (h0:0<n):∃ v,v∈xs/\QX xs (c % (n:Int))=some v:=by
 have a0:0<=c % (n:Int):=fA _ (by omega)
 have a1:c % (n:Int)<n:=fe _ (by omega)
 have hj:(c % (n:Int)).toNat<xs.length:=by omega
 refine⟨xs[(c % (n:Int)).toNat],gS hj,?_⟩
 have:=Aq (xs:=xs) (af hj)
 rwa [Int.toNat_of_nonneg a0] at this
theorem Z6 (l:List V) (x:V):Cm (l++[x]) none (some (-1))=l:=by
 have e:HT.Ds (l++[x]).length (l++[x]).length (some (-1))=l.length:=by
  unfold HT.Ds
  simp
  omega
 unfold Cm
 rw[e,HT.El]
 simp
theorem gw (x:V) (l:List V):Cm (x::l) (some 1) none=l:=by
 have e1:HT.Ds (x::l).length 0 (some 1)=1:=by
  rw[show (some (1:Int))=some ((1:Nat):Int) from rfl,HT.Dl]
  simp
 unfold Cm
 rw[e1,HT.El]
 simp
theorem ZC {ps:List Str} (h:∀ p∈ps,p.length<=20) (hn:ps.length<=40):(ps.map (·.length)).sum<=20 * ps.length:=by
 have:=Iv 20 (ps.map (·.length)) λn hn=>by
  obtain⟨p,hp,rfl⟩:=ay.mp hn
  exact h p hp
 rwa [ae] at this
theorem Kc {sep:Str} (hs:sep.length<=16) {ps:List Str} (h:∀ p∈ps,p.length<=20) (hn:ps.length<=40):JoinOk sep ps=true:=by
 have:=ZC h hn
 exact PyProof.Rows.joinOk_of_weight (by omega) hs
theorem KR {sep:Str} (hs:sep.length<=2) {ps:List Str} (h:∀ p∈ps,p.length<=20) (hn:ps.length<=40):(Str.join sep ps).length<=880:=by
 have h1:=ZC h hn
 have h2:=Gi sep ps
 have h3:sep.length * ps.length<=2 * ps.length:=Nat.mul_le_mul_right _ hs
 omega
section
variable {K:W.Frag} {aB aP aM:Addr} {r:R} {z:Str}
theorem Gd.ZJ (g:Gd r):∀ p∈tS r,p.length<=20:=λp hp=>by
 have:=(g.ln p hp).2
 rw[E_]
 omega
theorem Gd.dl (g:Gd r):∃ y0,tS r=(tS r).dropLast++[y0]/\y0∈tS r/\(tS r).dropLast ≠ []:=by
 have hne:tS r ≠ []:=fg _ _
 exact⟨(tS r).getLast hne,(List.dropLast_concat_getLast hne).symm,List.getLast_mem hne,fg _ _⟩
theorem P_ (hP:DG K aP Fz=true) (g:Gd r) {y:Str} (hy:∀ c∈LL y,c ≠ 32/\c ≠ 59/\c<128) (h1:Nm.JG (LL y)=false) (h2:¬ isNm y) (hl:y.length<=20):JoinOk " " ((tS r).dropLast++[y])=true/\HH K aB aP aM r (Str.join " " ((tS r).dropLast++[y])):=by
 have hm:∀ p∈(tS r).dropLast++[y],p.length<=20:=λp hp=>by
  rcases ba.mp hp with h | h
  ·exact g.ZJ p (jI _ h)
  ·rw[ax.mp h]
   exact hl
 have hn:((tS r).dropLast++[y]).length<=40:=by
  rw[aE,gx,ae,bv]
  have:=g.l
  omega
 have e:LL (Str.join " " ((tS r).dropLast++[y]))=jL [32] (mL ((tS r).dropLast++[y])):=Eb " " ((tS r).dropLast++[y])
 have hz:=KR (sep:=" ") (by decide +kernel) hm hn
 refine⟨Kc (by decide +kernel) hm hn,S5 hP g (λc hc=>⟨(hy c hc).1,(hy c hc).2.2⟩) h1 h2 (by omega) (Em ?_) e⟩
 intro h
 rw[e] at h
 rcases Ip h with h | ⟨p,hp,h⟩
 ·simp at h
 ·obtain⟨q,hq,rfl⟩:=ay.mp hp
  rcases ba.mp hq with h3 | h3
  ·exact (g.sg q (jI _ h3) 59 h).2.1 rfl
  ·rw[ax.mp h3] at h
   exact (hy 59 h).2.1 rfl
theorem O5 (hP:DG K aP Fz=true) (g:Gd r) {t:Str} {s:Nat} (et:LL t=[s]) (hs:s=59 \/ s=10):HH K aB aP aM r (Bw r.v++t):=by
 obtain⟨y0,ey,hy0,hd⟩:=g.dl
 have e1:LL (Bw r.v++t)=LL (Bw r.v)++[s]:=by rw[app_list,et]
 have e2:LL (y0++t)=LL y0++[s]:=by rw[app_list,et]
 have xn:=g.ln y0 hy0
 refine S5 hP g (y:=y0++t) (λc hc=>?_) ?_ (M_ (c:=s) (by rw[e2];exact be _ av) (by omega)) ?_ ?_ ?_
 ·rw[e2] at hc
  rcases ba.mp hc with h | h
  ·exact⟨(g.sg y0 hy0 c h).1,(g.sg y0 hy0 c h).2.2⟩
  ·rw[ax.mp h]
   omega
 ·rw[e2]
  refine XM (c:=s) ?_ ?_
  ·rw[List.drop_append_of_le_length xn.1]
   exact be _ av
  ·rcases hs with rfl | rfl <;> decide
 ·rw[E_,e1,aE]
  have:=g.len
  show _+1<=900
  omega
 ·rw[e1]
  rcases hs with rfl | rfl
  ·exact QR (by decide) g.YK
  ·refine Em λh=>?_
   rcases ba.mp h with h | h
   ·exact g.YK h
   ·simp at h
 ·have e3:mL (tS r)=mL (tS r).dropLast++[LL y0]:=by
   have:=congrArg mL ey
   rw[this]
   exact ce
  rw[e1,Ji,e3,JK _ _ (by simpa [mL] using hd),show mL ((tS r).dropLast++[y0++t])=mL (tS r).dropLast++[LL (y0++t)] from List.map_append,JK _ _ (by simpa [mL] using hd),e2]
  simp[List.append_assoc]
theorem M3 (hP:DG K aP Fz=true) (g:Gd r) {y0:Str} (hy0:y0∈tS r) {t:Str} {s:Nat} (et:LL t=[s]) (hs:s=48 \/ s=43):JoinOk " " ((tS r).dropLast++[t++y0])=true/\HH K aB aP aM r (Str.join " " ((tS r).dropLast++[t++y0])):=by
 have e2:LL (t++y0)=s::LL y0:=by rw[app_list,et];rfl
 have xn:=g.ln y0 hy0
 refine P_ hP g (λc hc=>?_) ?_ (M_ (c:=s) (by rw[e2];exact av) (by omega)) (by rw[E_,e2,aS];omega)
 ·rw[e2] at hc
  rcases bq.mp hc with h | h
  ·omega
  ·exact g.sg y0 hy0 c h
 ·rw[e2]
  rcases hs with rfl | rfl
  ·cases h:LL y0 with
   | nil=>rw[h] at xn;exact absurd xn.1 (by decide)
   | cons a l=>exact V5
  ·exact Ob (by decide) (by decide)
theorem R5 (hP:DG K aP Fz=true) (g:Gd r) {t:Str} {s:Nat} (et:LL t=[s]) (hs:s=9 \/ s=44):JoinOk t (tS r)=true/\HH K aB aP aM r (Str.join t (tS r)):=by
 have h40:(tS r).length<=40:=by rw[ae];have:=g.l;omega
 have tl:t.length=1:=by rw[E_,et];rfl
 have hz:=KR (sep:=t) (by omega) g.ZJ h40
 refine⟨Kc (by omega) g.ZJ h40,Z9 hP g hs (by omega) ?_⟩
 rw[show LL (Str.join t (tS r))=_ from Eb t (tS r),show t.cps.toList=[s] from et]
theorem Rh (hP:DG K aP Fz=true) (g:Gd r):JoinOk "  " (tS r)=true/\HH K aB aP aM r (Str.join "  " (tS r)):=by
 have h40:(tS r).length<=40:=by rw[ae];have:=g.l;omega
 have hz:=KR (sep:="  ") (by decide +kernel) g.ZJ h40
 exact⟨Kc (by decide +kernel) g.ZJ h40,aA hP g (by omega) (Eb "  " (tS r))⟩
theorem VL (hP:DG K aP Fz=true) (g:Gd r):JoinOk " " (tT r)=true/\(Str.join " " (tT r)).length<=880/\HH K aB aP aM r ("bell " ++ Str.join " " (tT r)):=by
 have h40:(tT r).length<=40:=by have:=g.n;omega
 have hT:∀ p∈tT r,p.length<=20:=λp hp=>g.ZJ p (aI _ hp)
 have hz:=KR (sep:=" ") (by decide +kernel) hT h40
 have eb:(LL "bell ").length=5:=by decide +kernel
 have e:=app_list "bell " (Str.join " " (tT r))
 refine⟨Kc (by decide +kernel) hT h40,hz,YQ hP g (by rw[E_,e,aE,eb,<-E_];omega) ?_⟩
 rw[e]
 exact congrArg (LL "bell " ++ ·) (Eb " " (tT r))
end
noncomputable def jO (K:W.Frag) (aB aP aM:Addr):Sp:=λvs H Q _=>∃ (r:R) (c:Int),vs=[.str (Bw r.v),.int c]/\Gd r/\DG K aP Fz=true/\∀ z H',Ak H H'->HH K aB aP aM r z->Q (.str z) H'
theorem Wz:BL ["_law_piece","_law_cell","_law_parts","_law_some"] ["_law_piece","_law_cell"] (Ah qT):=CT
include N T in
theorem j7:A_ P w K mg base Bh 1 aD.fBp aD.dBp ["_law_piece","_law_cell"] (jO K aB aP aM):=by
 refine N.FBp.1.ok Wz (λvs H Q E h=>?_) (λb9 A outer s H vs Q E hr h=>?_)
 ·obtain⟨r,c,rfl,_⟩:=h
  rfl
 ·obtain⟨r,c,rfl,g,hP,q⟩:=h
  refine⟨_,(@Ae _ _ _ _ _ (@Ck _ _ _ _ _ _ 2 Wz.nd rfl (Or.inl rfl) (CV bo gc ge Gm (pv 0) (@BX _ _ _ _ _ rfl An Ab)) rfl (Or.inl rfl)) (@Ae _ _ _ _ _ (@Ck _ _ _ _ _ _ 3 Wz.nd rfl (Or.inl rfl) (@Bo _ _ _ _ (@BX _ _ _ _ _ rfl (BJ CZ (pv 0) An) (@BX _ _ _ _ _ rfl (BJ CZ An (pv 0)) (@BX _ _ _ _ _ rfl (@BW _ _ _ _ _ _ _ Cj (pv 2) Ac (λ_ _=>rfl)) (@BX _ _ _ _ _ rfl An (@BX _ _ _ _ _ rfl (cA bo PySem.F.slot_str_upper PySem.F.type_str_upper Wf (pv 0)) (@BX _ _ _ _ _ rfl (BJ CZ (pv 0) An) (@BX _ _ _ _ _ rfl (BJ CZ (pv 0) An) (@BX _ _ _ _ _ rfl (BJ CZ (pv 0) An) Ab))))))))) rfl (Or.inl rfl)) (@Ae _ _ _ _ _ (@Ck _ _ _ _ _ _ 3 Wz.nd rfl (Or.inl rfl) (BJ Ef (pv 3) (@Bo _ _ _ _ (@BX _ _ _ _ _ rfl (CV bo df dn Eh An (@BX _ _ _ _ _ rfl (pv 2) Ab)) (@BX _ _ _ _ _ rfl (CV bo df dn Eh An (@BX _ _ _ _ _ rfl (BJ Ef (Cg Ey (pv 2) Dj (Cu (J4 Hg Ac))) (@Bo _ _ _ _ (@BX _ _ _ _ _ rfl (BJ CZ An (@BW _ _ _ _ _ _ _ Cj (pv 2) (J4 Hg Ac) (λ_ _=>rfl))) Ab))) Ab)) (@BX _ _ _ _ _ rfl (CV bo df dn Eh An (@BX _ _ _ _ _ rfl (BJ Ef (Cg Ey (pv 2) Dj (Cu (J4 Hg Ac))) (@Bo _ _ _ _ (@BX _ _ _ _ _ rfl (BJ CZ An (@BW _ _ _ _ _ _ _ Cj (pv 2) (J4 Hg Ac) (λ_ _=>rfl))) Ab))) Ab)) Ab))))) rfl (Or.inl rfl)) (@Ae _ _ _ _ _ (@Ck _ _ _ _ _ _ 3 Wz.nd rfl (Or.inl rfl) (BJ Ef (pv 3) (@Bo _ _ _ _ (@BX _ _ _ _ _ rfl (BJ CZ An (CV bo df dn Eh An (@BX _ _ _ _ _ rfl (Cg Ey (pv 2) (Cu Ac) Dj) Ab))) (@BX _ _ _ _ _ rfl (CV bo df dn Eh An (@BX _ _ _ _ _ rfl (pv 2) Ab)) (@BX _ _ _ _ _ rfl (CV bo df dn Eh An (@BX _ _ _ _ _ rfl (pv 2) Ab)) Ab))))) rfl (Or.inl rfl)) (@Ae _ _ _ _ _ (Cv (CV bE bX cb Bv (pv 3) (@BX _ _ _ _ _ rfl (CV bo df dn Eh An (@BX _ _ _ _ _ rfl (BJ Ef (Cg Ey (pv 2) Dj (Cu (J4 Hg Ac))) (@Bo _ _ _ _ (@BX _ _ _ _ _ rfl An Ab))) Ab)) Ab))) (@Ag _ _ _ (@Ar _ _ _ _ (@BW _ _ _ _ _ _ _ Cj (pv 3) (BJ DX (pv 1) Ac) (λ_ _=>rfl))))))))),?_⟩
  have sp:Txt.split (Bw r.v) " " = tS r:=K4 g.p (fg _ _)
  have hl:=Hl g.p g.l
  have UB:=g.l
  refine⟨_,rfl,rfl,Bw r.v," ",rfl,rfl,by decide +kernel,Nat.le_trans hl (by show 420<=sizeLine;decide),(by rw[sp,List.length_map];exact Nat.le_trans UB (by show 30<=sizeLine;decide)),λp1 re=>?_⟩
  rw[sp]
  generalize eT:(tS r).map V.str=X1
  obtain⟨H1,d0,s1,l1⟩:=CN (o:=HO.lst X1) re
  rw[d0]
  have big:∀ n:Nat,n<=1000->n<=sizeLine:=λn h=>Nat.le_trans h (by show 1000<=sizeLine;decide)
  have hA:∀ c∈(Bw r.v).cps.toList,c<128:=λc hc=>by
   have hc:c∈LL (Bw r.v):=hc
   rw[Ji] at hc
   rcases Ip hc with h | ⟨p,hp,h⟩
   ·rw[ax.mp h];decide
   ·obtain⟨q,hq,rfl⟩:=ay.mp hp
    exact (g.sg q hq c h).2.2
  have x0:QX X1 ((0:Nat):Int)=some (.str r.w):=Aq (j:=0) (by rw[<-eT];rfl)
  refine⟨_,rfl,_,_,rfl,rfl,big _ (show (Bw r.v).length+1<=1000 by omega),?_⟩
  refine⟨_,rfl,_,_,rfl,rfl,big _ (show 1+(Bw r.v).length<=1000 by omega),?_⟩
  refine⟨_,rfl,p1,_,_,_,rfl,rfl,kU l1,x0,?_⟩
  obtain⟨y0,ey,hy0,hd⟩:=g.dl
  have B7:=congrArg (List.map V.str) ey
  rw[ce] at B7
  have cm:Cm X1 none (some (-1))=((tS r).dropLast).map V.str:=by
   rw[<-eT,B7]
   exact Z6 _ _
  have am:QX X1 (-1)=some (.str y0):=by
   rw[<-eT,B7]
   exact Vv _ _
  have c1:Cm X1 (some 1) none=(tT r).map V.str:=by
   rw[<-eT]
   exact gw _ _
  refine⟨_,rfl,rfl,_,rfl,rfl,by omega,hA,?_⟩
  refine⟨_,rfl,_,_,rfl,rfl,big _ (show (Bw r.v).length+3<=1000 by omega),?_⟩
  refine⟨_,rfl,_,_,rfl,rfl,big _ (show (Bw r.v).length+1<=1000 by omega),?_⟩
  refine⟨_,rfl,_,_,rfl,rfl,big _ (show (Bw r.v).length+1<=1000 by omega),?_⟩
  refine⟨by show 8<=sizeLine;decide,λD1 CM=>?_⟩
  generalize eXa:([V.str (Bw r.v ++ " "),V.str (" " ++ Bw r.v),V.str r.w,V.str "",V.str ⟨(Bw r.v).cps.map PyProof.Rows.up1⟩,V.str (Bw r.v ++ " 07"),V.str (Bw r.v ++ ";"),V.str (Bw r.v ++ "\n")]:List V)=Xa
  obtain⟨H2,d0,s2,l2⟩:=CN (o:=HO.lst Xa) CM
  rw[d0]
  refine⟨_,rfl,?_⟩
  have sqP:∀ H',Ak H1 H'->Dg K H' p1 ((tS r).map V.str):=λH' s=>.inl (.inl (by rw[eT];exact s _ _ l1))
  refine⟨rfl,_,rfl,"  ",p1,tS r,rfl,rfl,sqP _ s2,(Rh (aB:=aB) (aM:=aM) hP g).1,?_⟩
  rw[Fi]
  have t2:=s2
  have u2:=Ak.refl H2
  refine⟨rfl,_,rfl,_,rfl,_,rfl,p1,_,rfl,kU (t2 _ _ l1),λq2 DS=>?_⟩
  rw[cm]
  obtain⟨H3,d0,s3,l3⟩:=CN (o:=HO.lst (((tS r).dropLast).map V.str)) DS
  rw[d0]
  have t3:=t2.trans s3
  refine⟨_,rfl,_,rfl,p1,_,_,_,rfl,rfl,kU (t3 _ _ l1),am,?_⟩
  refine⟨_,_,rfl,rfl,big _ (show 1+y0.length<=1000 by have:=g.ZJ y0 hy0;omega),?_⟩
  refine⟨by show 1<=sizeLine;decide,λa3 TC=>?_⟩
  obtain⟨H4,d0,s4,l4⟩:=CN (o:=HO.lst ([V.str ("0" ++ y0)])) TC
  rw[d0]
  have t4:=t3.trans s4
  refine⟨q2,a3,_,_,rfl,rfl,s4 _ _ l3,l4,big _ (by rw[ae,gx,ae,bv];omega),λc4 S3=>?_⟩
  obtain⟨H5,d0,s5,l5⟩:=CN (o:=HO.lst (((tS r).dropLast).map V.str++[V.str ("0" ++ y0)])) S3
  rw[d0]
  have t5:=t4.trans s5
  refine⟨" ",c4,(tS r).dropLast++[("0" ++ y0)],rfl,rfl,kU (by rw[ce];exact l5),(M3 (aB:=aB) (aM:=aM) hP g hy0 (t:="0") (s:=48) (by decide +kernel) (.inl rfl)).1,?_⟩
  rw[Fi]
  refine⟨rfl,_,rfl,_,rfl,_,rfl,p1,_,rfl,kU (t5 _ _ l1),λq5 L6=>?_⟩
  rw[cm]
  obtain⟨H6,d0,s6,l6⟩:=CN (o:=HO.lst (((tS r).dropLast).map V.str)) L6
  rw[d0]
  have t6:=t5.trans s6
  refine⟨_,rfl,_,rfl,p1,_,_,_,rfl,rfl,kU (t6 _ _ l1),am,?_⟩
  refine⟨_,_,rfl,rfl,big _ (show 1+y0.length<=1000 by have:=g.ZJ y0 hy0;omega),?_⟩
  refine⟨by show 1<=sizeLine;decide,λa6 Ll=>?_⟩
  obtain⟨H7,d0,s7,l7⟩:=CN (o:=HO.lst ([V.str ("+" ++ y0)])) Ll
  rw[d0]
  have t7:=t6.trans s7
  refine⟨q5,a6,_,_,rfl,rfl,s7 _ _ l6,l7,big _ (by rw[ae,gx,ae,bv];omega),λc7 LB=>?_⟩
  obtain⟨H8,d0,s8,l8⟩:=CN (o:=HO.lst (((tS r).dropLast).map V.str++[V.str ("+" ++ y0)])) LB
  rw[d0]
  have t8:=t7.trans s8
  refine⟨" ",c7,(tS r).dropLast++[("+" ++ y0)],rfl,rfl,kU (by rw[ce];exact l8),(M3 (aB:=aB) (aM:=aM) hP g hy0 (t:="+") (s:=43) (by decide +kernel) (.inr rfl)).1,?_⟩
  rw[Fi]
  refine⟨by show 3<=sizeLine;decide,λD2 zL=>?_⟩
  generalize eXb:([V.str (Str.join "  " (tS r)),V.str (Str.join " " ((tS r).dropLast++["0" ++ y0])),V.str (Str.join " " ((tS r).dropLast++["+" ++ y0]))]:List V)=Xb
  obtain⟨H9,d0,s9,l9⟩:=CN (o:=HO.lst (Xb)) zL
  rw[d0]
  have t9:=t8.trans s9
  have lb:Xb.length=3:=by rw[<-eXb];rfl
  have la:Xa.length=8:=by rw[<-eXa];rfl
  have v1:Ak H2 H9:=by exact ((((((s3.trans s4).trans s5).trans s6).trans s7).trans s8).trans s9)
  refine⟨D1,D2,_,_,rfl,rfl,v1 _ _ l2,l9,big _ (by omega),λD3 AY=>?_⟩
  obtain⟨uy,d0,se,l10⟩:=CN (o:=HO.lst (Xa++Xb)) AY
  rw[d0]
  have vc:=t9.trans se
  refine⟨_,rfl,?_⟩
  refine⟨rfl,_,rfl,_,rfl,p1,_,rfl,kU (vc _ _ l1),λq6 OY=>?_⟩
  rw[c1]
  obtain⟨vW,d0,IX,C1⟩:=CN (o:=HO.lst ((tT r).map V.str)) OY
  rw[d0]
  have xB:=vc.trans IX
  obtain⟨j1,j2,j3⟩:=VL (aB:=aB) (aM:=aM) hP g
  refine⟨" ",q6,tT r,rfl,rfl,kU C1,j1,?_⟩
  rw[Fi]
  refine⟨_,_,rfl,rfl,big _ (show 5+(Str.join " " (tT r)).length<=1000 by omega),?_⟩
  have k1:=R5 (aB:=aB) (aM:=aM) hP g (t:="\t") (s:=9) (by decide +kernel) (.inl rfl)
  have k2:=R5 (aB:=aB) (aM:=aM) hP g (t:=",") (s:=44) (by decide +kernel) (.inr rfl)
  refine⟨rfl,_,rfl,"\t",p1,tS r,rfl,rfl,sqP _ xB,k1.1,?_⟩
  rw[Fi]
  refine⟨rfl,_,rfl,",",p1,tS r,rfl,rfl,sqP _ xB,k2.1,?_⟩
  rw[Fi]
  refine⟨by show 3<=sizeLine;decide,λD4 HC=>?_⟩
  generalize eXc:([V.str ("bell " ++ Str.join " " (tT r)),V.str (Str.join "\t" (tS r)),V.str (Str.join "," (tS r))]:List V)=Xc
  obtain⟨xM,d0,zZ,BU⟩:=CN (o:=HO.lst (Xc)) HC
  rw[d0]
  have AF:=xB.trans zZ
  have lc:Xc.length=3:=by rw[<-eXc];rfl
  refine⟨D3,D4,_,_,rfl,rfl,zZ _ _ (IX _ _ l10),BU,big _ (by rw[aE];omega),λD5 AO=>?_⟩
  obtain⟨uc,d0,A8,IN⟩:=CN (o:=HO.lst ((Xa++Xb)++Xc)) AO
  rw[d0]
  have IF:=AF.trans A8
  have Jn:=P_ (aB:=aB) (aM:=aM) hP g (y:="-0") (by decide +kernel) (by decide +kernel) (M_ (c:=45) (by decide +kernel) (by decide)) (by decide +kernel)
  refine⟨_,rfl,.inl ⟨rfl,_,kU IN⟩,?_⟩
  refine⟨rfl,_,rfl,_,rfl,_,rfl,p1,_,rfl,kU (IF _ _ l1),λPw E9=>?_⟩
  rw[cm]
  obtain⟨u8,d0,s14,l14⟩:=CN (o:=HO.lst (((tS r).dropLast).map V.str)) E9
  rw[d0]
  have S0:=IF.trans s14
  refine⟨by show 1<=sizeLine;decide,λL7 F7=>?_⟩
  obtain⟨HG,d0,uW,VT⟩:=CN (o:=HO.lst ([V.str "-0"])) F7
  rw[d0]
  have MY:=S0.trans uW
  refine⟨Pw,L7,_,_,rfl,rfl,uW _ _ l14,VT,big _ (by rw[ae,gx,ae,bv];omega),λNO EU=>?_⟩
  obtain⟨tw,d0,wL,FD⟩:=CN (o:=HO.lst (((tS r).dropLast).map V.str++[V.str "-0"])) EU
  rw[d0]
  have SS:=MY.trans wL
  refine⟨" ",NO,(tS r).dropLast++[("-0" : Str)],rfl,rfl,kU (by rw[ce];exact FD),Jn.1,?_⟩
  rw[Fi]
  have w5:Ak uc tw:=(s14.trans uW).trans wL
  have e0:Ak H tw:=s1.trans SS
  have f5:H D5=none:=(s1.trans AF).free AO
  refine⟨D5,_,_,rfl,rfl,w5 _ _ IN,Av (by rw[aE,aE];omega),?_⟩
  generalize eXX:Xa++Xb++Xc++[V.str (Str.join " " ((tS r).dropLast++[("-0" : Str)]))]=XX
  have lx:XX.length=15:=by rw[<-eXX,aE,aE,aE,la,lb,lc];rfl
  have lf:upd tw D5 (HO.lst XX) D5=some (.lst XX):=Af
  have sf:Ak H (upd tw D5 (HO.lst XX)):=Dq e0 f5
  generalize upd tw D5 (HO.lst XX)=Hf at lf sf |-
  have hX:∀ v∈XX,∃ z,v=V.str z/\HH K aB aP aM r z:=λv hv=>by
   rw[<-eXX] at hv
   rcases ba.mp hv with hv | hv
   ·rcases ba.mp hv with hv | hv
    ·rcases ba.mp hv with hv | hv
     ·rw[<-eXa] at hv
      simp only[List.mem_cons,List.not_mem_nil,or_false] at hv
      rcases hv with rfl | rfl | rfl | rfl | rfl | rfl | rfl | rfl
      ·exact⟨_,rfl,Vy hP g (y:="") (by decide +kernel) (by decide +kernel) (by decide +kernel) (λh=>absurd h.1 (by decide +kernel)) (by rw[app_list];exact congrArg (LL (Bw r.v) ++ ·) (by decide +kernel:LL " " = 32::LL ""))⟩
      ·exact⟨_,rfl,Wc hP g (by rw[app_list];exact congrArg (· ++ LL (Bw r.v)) (by decide +kernel:LL " " = [32]))⟩
      ·exact⟨_,rfl,WL hP g⟩
      ·exact⟨_,rfl,dG hP g⟩
      ·exact⟨_,rfl,fH hP g rfl⟩
      ·exact⟨_,rfl,Vy hP g (y:="07") (by decide +kernel) (by decide +kernel) (by decide +kernel) (M_ (c:=48) (by decide +kernel) (by decide)) (by rw[app_list];exact congrArg (LL (Bw r.v) ++ ·) (by decide +kernel:LL " 07" = 32::LL "07"))⟩
      ·exact⟨_,rfl,O5 hP g (t:=";") (s:=59) (by decide +kernel) (.inl rfl)⟩
      ·exact⟨_,rfl,O5 hP g (t:="\n") (s:=10) (by decide +kernel) (.inr rfl)⟩
     ·rw[<-eXb] at hv
      simp only[List.mem_cons,List.not_mem_nil,or_false] at hv
      rcases hv with rfl | rfl | rfl
      ·exact⟨_,rfl,(Rh hP g).2⟩
      ·exact⟨_,rfl,(M3 hP g hy0 (t:="0") (s:=48) (by decide +kernel) (.inl rfl)).2⟩
      ·exact⟨_,rfl,(M3 hP g hy0 (t:="+") (s:=43) (by decide +kernel) (.inr rfl)).2⟩
    ·rw[<-eXc] at hv
     simp only[List.mem_cons,List.not_mem_nil,or_false] at hv
     rcases hv with rfl | rfl | rfl
     ·exact⟨_,rfl,j3⟩
     ·exact⟨_,rfl,k1.2⟩
     ·exact⟨_,rfl,k2.2⟩
   ·rw[ax.mp hv]
    exact⟨_,rfl,Jn.2⟩
  obtain⟨v,hv,ha⟩:=pick (xs:=XX) c 15 lx (by decide)
  obtain⟨z,rfl,hb⟩:=hX v hv
  refine⟨_,rfl,_,rfl,_,_,rfl,rfl,(by show (0:Int)<15;decide),D5,_,_,.str z,rfl,rfl,kU lf,ha,?_⟩
  exact q z Hf sf hb
theorem tL {K:W.Frag}:W.kitOne K (.type "NoneType") (.type "str")=some false:=by kernel_rfl
theorem tY {K:W.Frag}:W.kitOne K (.type "tuple") (.type "str")=some false:=by kernel_rfl
theorem uF {K:W.Frag}:W.kitOne K (.type "list") (.type "str")=some false:=by kernel_rfl
theorem tZ {K:W.Frag}:W.kitOne K (.type "int") (.type "str")=some false:=by kernel_rfl
theorem uD {K:W.Frag}:W.kitOne K (.type "bool") (.type "str")=some false:=by kernel_rfl
theorem t_ {K:W.Frag}:W.kitOne K (.type "dict") (.type "str")=some false:=by kernel_rfl
theorem Pu {K:W.Frag} {aB aP aM:Addr} {H:Hp} {z:Str} {p:Str} (hp:p.length<=900) (e:Txt.split z "; " = List.replicate 151 p) (hz:z.length<=200000):GP K aB aP aM H (.str z) .non:=by
 refine .inr ⟨z,_,rfl,e,.inl rfl,hz,by rw[eh];decide,λq hq=>by rw[List.eq_of_mem_replicate hq];exact hp,λH' D us _ hD pr=>?_⟩
 have l:=pr.length
 rw[eh] at l
 exact .long hD (.inr (by omega)) (by omega)
theorem Ub {z p:Str} (vS:59 ∉ LL p) (e:LL z=jL [59,32] (List.replicate 151 (LL p))):Txt.split z "; " = List.replicate 151 p:=by
 have ez:z=Str.join "; " (List.replicate 151 p):=Nb (e.trans (by rw[show LL (Str.join "; " (List.replicate 151 p))=_ from Eb "; " _,List.map_replicate];rfl))
 rw[ez]
 exact Fo (c:=59) (s:=[32]) (by decide +kernel) (by simp) (by decide +kernel) (by simp) λq hq=>by rw[List.eq_of_mem_replicate hq];exact vS
theorem Pr (x:Array Nat):∀ (n:Nat) (a:Array Nat),((List.replicate n x).foldl (· ++ ·) a).toList=a.toList++(List.replicate n x.toList).flatten
 | 0,a=>by simp
 | n+1,a=>by
  rw[fh,ki,Pr x n,Array.toList_append,fh,gy,dL]
theorem XS:LL (Txt.mul "; " 150)=(List.replicate 150 [59,32]).flatten:=by
 unfold Txt.mul
 rw[if_neg (by decide),if_neg (by decide +kernel)]
 have:=Pr ("; " : Str).cps 150 #[]
 rw[show ("; " : Str).cps.toList=[59,32] by decide +kernel] at this
 exact this
theorem Sv (s:List Nat):∀ n,jL s (List.replicate (n+1) [])=(List.replicate n s).flatten
 | 0=>rfl
 | n+1=>by
  show []++(s++jL s (List.replicate (n+1) []))=_
  rw[Sv s n,fh (n:=n),gy]
  rfl
theorem YH {p:Str} (hp:p.length<=900):((List.replicate 151 p).map (·.length)).sum<=900 * 151:=by
 have:=Iv 900 ((List.replicate 151 p).map (·.length)) λn hn=>by
  obtain⟨q,hq,rfl⟩:=ay.mp hn
  rw[List.eq_of_mem_replicate hq]
  exact hp
 rwa [ae,eh] at this
theorem PB {p:Str} (hp:p.length<=900):JoinOk "; " (List.replicate 151 p)=true/\(Str.join "; " (List.replicate 151 p)).length<=200000:=by
 have h1:=YH hp
 have h2:=Gi "; " (List.replicate 151 p)
 have e2:("; " : Str).length=2:=by decide +kernel
 rw[e2,eh] at h2
 exact⟨PyProof.Rows.joinOk_of_weight (by rw[eh];omega) (by decide +kernel),by omega⟩
theorem cT:MulOk "; " 150:=⟨by decide,λ_ _=>by decide +kernel,λ_ _=>by decide +kernel⟩
theorem Qq {p:Str} (vS:59 ∉ LL p):Txt.split (Str.join "; " (List.replicate 151 p)) "; " = List.replicate 151 p :=
 Fo (c:=59) (s:=[32]) (by decide +kernel) (by simp) (by decide +kernel) (by simp) λq hq=>by rw[List.eq_of_mem_replicate hq];exact vS
theorem Qc:("board great 61" : Str).length<=900:=by decide +kernel
theorem qK {K:W.Frag} {aB aP aM:Addr} {H:Hp}:GP K aB aP aM H (.str (Str.join "; " (List.replicate 151 ("board great 61" : Str)))) .non:=Pu Qc (Qq (by decide +kernel)) (PB Qc).2
theorem oR {K:W.Frag} {aB aP aM:Addr} {H:Hp}:GP K aB aP aM H (.str (Txt.mul "; " 150)) .non :=
 Pu (p:="") (by decide +kernel) (Ub (by decide +kernel) (XS.trans (Sv [59,32] 150).symm)) (bp (PyProof.Rows.len_mul_leN (L:=2) (N:=150) (by decide +kernel) (by decide)) (by decide))
theorem aF:(List.replicate (151:Int).toNat [V.str "board great 61"]).flatten=(List.replicate 151 ("board great 61" : Str)).map V.str:=by
 rw[List.flatten_replicate_singleton,List.map_replicate]
 rfl
noncomputable def gh (K:W.Frag) (aB aP aM:Addr):Sp:=λvs H Q _=>∃ (t:Str) (c:Int),vs=[.str t,.int c]/\∀ v H',Ak H H'->GP K aB aP aM H' v .non->Q v H'
theorem fL:BL ["_law_text","_law_cell","_law_some"] ["_law_text","_law_cell"] (Ah oO):=CT
include N T in
theorem fj:A_ P w K mg base Bh 1 aD.fNo aD.dNo ["_law_text","_law_cell"] (gh K aB aP aM):=by
 refine N.FNo.1.ok fL (λvs H Q E h=>?_) (λb9 A outer s H vs Q E hr h=>?_)
 ·obtain⟨t,c,rfl,_⟩:=h
  rfl
 ·obtain⟨t,c,rfl,q⟩:=h
  refine⟨_,(@Ae _ _ _ _ _ (@Ck _ _ _ _ _ _ 2 fL.nd rfl (Or.inl rfl) (@Bo _ _ _ _ (@BX _ _ _ _ _ rfl FQ (@BX _ _ _ _ _ rfl Ac (@BX _ _ _ _ _ rfl Et (@BX _ _ _ _ _ rfl (@Bo _ _ _ _ (@BX _ _ _ _ _ rfl (pv 0) Ab)) (@BX _ _ _ _ _ rfl (@DW _ _ _ _ _ (@BX _ _ _ _ _ rfl (pv 0) Ab)) (@BX _ _ _ _ _ rfl (@Rj _ _ _ _ _ (@FN _ _ _ _ _ _ _ _ _ (pv 0) Ac Rf) rfl rfl (by intro h;cases h) (by decide)) (@BX _ _ _ _ _ rfl (CV bo df dn Eh An (@BX _ _ _ _ _ rfl (BJ W4 (@Bo _ _ _ _ (@BX _ _ _ _ _ rfl An Ab)) Ac) Ab)) (@BX _ _ _ _ _ rfl (BJ RL An Ac) Ab))))))))) rfl (Or.inl rfl)) (@Ag _ _ _ (@Ar _ _ _ _ (@BW _ _ _ _ _ _ _ Cj (pv 2) (BJ DX (pv 1) Ac) (λ_ _=>rfl))))),?_⟩
  refine⟨_,rfl,by show 1<=sizeLine;decide,λp1 re=>?_⟩
  obtain⟨H1,d0,s1,l1⟩:=CN (o:=HO.lst [V.str t]) re
  rw[d0]
  refine⟨_,rfl,by show 1<=sizeLine;decide,λp2 ti=>?_⟩
  obtain⟨H2,d0,s2,l2⟩:=CN (o:=HO.tup [V.str t]) ti
  rw[d0]
  refine λp3 GW=>⟨_,rfl,Af,[(Sum.inr t,V.int 1)],rfl,by show 1<=15;decide,?_⟩
  generalize Di [] [(Sum.inr t,V.int 1)]=kv
  have s3:Ak H2 (upd (upd H2 p3 (.dK [])) p3 (.dK kv)):=λb o e=>by
   rw[Ao (Al e GW),Ao (Al e GW)]
   exact e
  have l3:upd (upd H2 p3 (.dK [])) p3 (.dK kv) p3=some (.dK kv):=Af
  generalize upd (upd H2 p3 (.dK [])) p3 (.dK kv)=H3 at s3 l3 |-
  refine⟨rfl,by show 1<=sizeLine;decide,λp4 S1=>?_⟩
  obtain⟨H4,d0,s4,l4⟩:=CN (o:=HO.lst [V.str "board great 61"]) S1
  rw[d0]
  refine⟨p4,151,_,rfl,rfl,l4,by decide,by decide,by show 1 * 151<=sizeLine;decide,λp5 sR=>?_⟩
  have e5:=aF
  have h6:∀ H',GP K aB aP aM H' (.str (Str.join "; " (List.replicate 151 ("board great 61" : Str)))) .non:=λH'=>qK
  have h7:∀ H',GP K aB aP aM H' (.str (Txt.mul "; " 150)) .non:=λH'=>oR
  have j6:=(PB Qc).1
  rw[e5]
  generalize List.replicate 151 ("board great 61" : Str)=rs at h6 j6 |-
  obtain⟨H5,d0,s5,l5⟩:=CN (o:=HO.lst (rs.map V.str)) sR
  rw[d0]
  refine⟨"; ",p5,rs,rfl,rfl,kU l5,j6,?_⟩
  rw[Fi]
  refine⟨_,_,rfl,rfl,cT,?_⟩
  generalize Txt.mul "; " 150=z7 at h7 |-
  generalize Str.join "; " rs=z6 at h6 |-
  refine⟨by show 8<=sizeLine;decide,λpa A3=>?_⟩
  generalize eX:[V.non,.int 5,.bl true,.ref p1,.ref p2,.ref p3,.str z6,.str z7]=X
  obtain⟨Ha,d0,sa,la⟩:=CN (o:=HO.lst X) A3
  rw[d0]
  have s3a:Ak H3 Ha:=s4.trans (s5.trans sa)
  have JE:=s3.trans s3a
  have AE:=s2.trans JE
  have hX:∀ v∈X,GP K aB aP aM Ha v .non:=λv hv=>by
   rw[<-eX] at hv
   simp only[List.mem_cons,List.not_mem_nil,or_false] at hv
   rcases hv with rfl | rfl | rfl | rfl | rfl | rfl | rfl | rfl
   ·exact .inl ⟨_,.non,tL,rfl⟩
   ·exact .inl ⟨_,.int _,tZ,rfl⟩
   ·exact .inl ⟨_,.bl _,uD,rfl⟩
   ·exact .inl ⟨_,.lst (AE _ _ l1),uF,rfl⟩
   ·exact .inl ⟨_,.tup (JE _ _ l2),tY,rfl⟩
   ·exact .inl ⟨_,.dK (s3a _ _ l3),t_,rfl⟩
   ·exact h6 _
   ·exact h7 _
  obtain⟨x,hx,ha⟩:=pick (xs:=X) c 8 (by rw[<-eX];rfl) (by decide)
  exact⟨_,rfl,_,rfl,_,_,rfl,rfl,(by show (0:Int)<8;decide),pa,_,_,x,rfl,rfl,kU la,ha,q x _ (s1.trans AE) (hX x hx)⟩
end
set_option maxHeartbeats 4000000
section
variable {K:W.Frag} {aB aP aM:Addr}
noncomputable def rhoD (H:Hp) (rows:List R):V->R
 | .int j=>(rows[j.toNat]?).getD ⟨"","",[]⟩
 | v=>Lf H v
theorem Ys (H:Hp) (rows:List R) (k:Nat):((List.range' k (rows.length - k)).map λj:Nat=>V.int (j:Int)).map (rhoD H rows)=rows.drop k:=by
 refine List.ext_getElem (by simp) λi h1 h2=>?_
 rw[gT,gT,List.getElem_range',List.getElem_drop]
 rw[fE] at h2
 show (rows[(((k+1 * i:Nat):Int)).toNat]?).getD ⟨"","",[]⟩=rows[k+i]
 rw[eJ,Nat.one_mul,af (by omega)]
 rfl
theorem J0 {α β:Type} {F:α->β->Prop}:∀ {l:List α} {vs:List β} (k:Nat),Paired F l vs->Paired F (l.take k) (vs.take k)
 | _,_,0,_=>.nil
 | _,_,_+1,.nil=>.nil
 | _,_,k+1,.cons x y=>.cons x (J0 k y)
theorem Su (F:Sx K aB aP aM) {rows:List R} {bs:List (Str × Nat)} {rk:List (Str × Nat × Int)} {ks:List R} {ls:List (List Ln)} {f':List Nat} (bl:HY K aB aP aM rows bs rk ks ls f') (QV:Lk rows) {qs:List Str} {k:Nat} (hk:k<=rows.length) (hq:qs.length<=150) (hlen:∀ p∈qs,p.length<=900) (hcnt:∀ p∈qs,Cw 59 32 (LL p)=0) (AM:qs.take k=((KD rows).map Bw).take k) {z:Str} (hz:qs[k]? = some z)
  (bad:∀ (ρ:V->R) (us:List V) (H:Hp) (T:Addr),(∀ r,rows[k]? = some r->Ea K aB aP aM ρ us r)->HS ρ us->H T=some (.tup (rdT z))->Fy K aB aP aM H ρ us (.ref T) false) {H:Hp}:GP K aB aP aM H (.str (Str.join "; " qs)) (.int (k:Nat)):=by
 have hkq:k<qs.length:=(ai.mp hz).1
 have hn:qs ≠ []:=λe=>by rw[e] at hkq;exact absurd hkq (ip _)
 have hs:(qs.map (·.length)).sum<=900 * qs.length:=by
  have:=Iv 900 (qs.map (·.length)) λn hn=>by
   obtain⟨p,hp,rfl⟩:=ay.mp hn
   exact hlen p hp
  rwa [ae] at this
 have hj:=Gi "; " qs
 have e2:("; " : Str).length=2:=by decide +kernel
 rw[e2] at hj
 refine .inr ⟨_,qs,rfl,Oc (c:=59) (d:=32) (by decide +kernel) (by decide) (by decide +kernel) hn hcnt,.inr ⟨k,rfl⟩,by omega,by omega,hlen,λH' D X _ hD pr=>?_⟩
 have lX:=pr.length
 have P1:Paired (λ(r:R) v=>TupAt H' r.v v) (rows.take k) (X.take k):=by
  have h1:=J0 k pr
  rw[AM,<-kL] at h1
  have h2:(KD rows).take k=KD (rows.take k):=kL.symm
  rw[h2,bg] at h1
  exact Hj (Ff (F:=λp v=>TupAt H' (rdT p) v) (λr:R=>Bw r.v) h1) λr v hr h=>by
   rw[Ss (QV.1 r (fq hr)).1 (fg _ _)] at h
   exact h
 have lT:(X.take k).length=k:=by rw[cE];omega
 obtain⟨us,BI⟩:∃ us,us=X.take k++(List.range' k (rows.length - k)).map λj:Nat=>V.int (j:Int):=⟨_,rfl⟩
 have tk:∀ i,i<=k->us.take i=X.take i:=λi hi=>by
  rw[BI,fI (by omega),List.take_take,ko hi]
 have rr:∀ v∈X.take k,rhoD H' rows v=Lf H' v:=λv hv=>by
  obtain⟨r,_,T0,rfl,_⟩:=Dn P1 hv
  rfl
 have em:us.map (rhoD H' rows)=rows:=by
  rw[BI,ce,Ys,fi rr,Nv P1,List.take_append_drop]
 have O:=bl.ok (rhoD H' rows) us em
 have A:=XJ F O.YX O.ok
 have at_:∀ v∈X.take k,TupAt H' (rhoD H' rows v).v v:=λv hv=>by
  obtain⟨r,_,hr⟩:=Dn P1 hv
  rw[rr v hv,Nx hr]
  exact hr
 have get:∀ i,i<k->us[i]? = X[i]?:=λi hi=>by
  have h1:(us.take k)[i]? = (X.take k)[i]?:=by rw[tk k (ar _)]
  rw[kD,kD,if_pos hi,if_pos hi] at h1
  exact h1
 obtain⟨v,hv,Tv,rfl,hT⟩:=CJ pr hz
 refine .row (ρ:=rhoD H' rows) hD (by omega) at_ (λi u hi hu=>?_) hv ?_
 ·have h1:=O.ok i u (by rw[get i hi];exact hu)
  rw[tk i (fw hi)] at h1
  have h2:=A.take (n:=i)
  rw[tk i (fw hi)] at h2
  exact X7 h1 (at_ u (al (i:=i) (by rw[kD,if_pos hi];exact hu))) h2
 ·have h2:=A.take (n:=k)
  rw[tk k (ar _)] at h2
  refine bad _ _ _ _ (λr hr=>?_) h2 hT
  have hkr:k<rows.length:=(ai.mp hr).1
  have hu:us[k]? = some (V.int ((k:Nat):Int)):=by
   rw[BI,dt (by omega),lT,ja,br,List.getElem?_range' (by omega)]
   simp
  have h1:=O.ok k _ hu
  rw[tk k (ar _)] at h1
  have e:rhoD H' rows (V.int ((k:Nat):Int))=r:=by
   show (rows[((k:Nat):Int).toNat]?).getD ⟨"","",[]⟩=r
   rw[eJ,hr]
   rfl
  rw[e] at h1
  exact h1
theorem UT (hP:DG K aP Fz=true) {ρ:V->R} {us:List V} {H:Hp} {T:Addr} (ah:HS ρ us) (hT:H T=some (.tup (rdT ""))):Fy K aB aP aM H ρ us (.ref T) false:=by
 have e:rdT "" = [V.str ""]:=by
  have:=QT (z:="") (qs:=[""]) rfl (by simp) (by decide +kernel)
  rw[this]
  exact congrArg (λx=>[x]) (G6 (by decide +kernel))
 rw[e] at hT
 exact QH ah hT (TQ hP (by decide +kernel)) (by decide +kernel) (by decide +kernel) (dc _) (λ_ h=>nomatch h)
end
section
end
section
variable {P:Program} {w:World} {K:W.Frag} {mg:Str->Option Value} {base:Heap} {C cN cO c0 c1 c2 c3 c4 c5 c6 c7 c8 c9 lP kX ll ma aN aK aB aP aM:Addr} {aD:Ad}
variable (N:qW K mg C cN cO c0 c1 c2 c3 c4 c5 c6 c7 c8 c9 lP kX ll ma aD) (T:Txt K w.params mg C cN cO c0 c1 c2 c3 c4 c5 c6 c7 c8 c9 lP kX ll ma aN aK aB aP aM)
noncomputable def Rb (K:W.Frag):Sp:=λvs H Q _=>∃ (a:Addr) (ns:List Int),vs=[.ref a]/\Dg K H a (ns.map V.int)/\ns.length<=63/\∀ H',Q (.bl true) H'
theorem Ks.QV {K:W.Frag} {aB aP aM:Addr} {H0 H:Hp} {A:MK} {S:Pl} {Cs:List Addr} (h:Ks K aB aP aM H0 H A S Cs):Lk S.rows:=by
 obtain⟨bb,lo,rg,k⟩:=h.k
 exact⟨k.bl.tu,by have:=h.l;omega⟩
theorem Ks.ne {K:W.Frag} {aB aP aM:Addr} {H0 H:Hp} {A:MK} {S:Pl} {Cs:List Addr} (h:Ks K aB aP aM H0 H A S Cs):S.rows ≠ []:=λe=>by
 obtain⟨bb,lo,rg,k⟩:=h.k
 have O:=k.bl.ok (λ_=>⟨"","",[]⟩) [] (by rw[e];rfl)
 have eb:=O.eb
 have:S.bs.length=0:=by have:=congrArg List.length eb;simpa using this.symm
 have:=h.b1
 omega
theorem Ks.fin {K:W.Frag} {aB aP aM:Addr} {H0 H:Hp} {A:MK} {S:Pl} {Cs:List Addr} (h:Ks K aB aP aM H0 H A S Cs):jQ K aB aP aM S.rows S.bs S.rk S.ks S.ls (S.ch.map Wd.mk):=λH vs hv=>by
 obtain⟨bb,lo,rg,k⟩:=h.k
 have:=h.l
 have:=k.lk
 exact k.bl.fin hv h.b1 k.b5 (λb hb=>(k.sb b hb).2) k.r12 (λr hr=>(k.sr r hr).2) (by omega) k.db k.dr k.dk (by omega)
theorem LQ:BL ["_law_script","_law_plan_here","_law_text","_law_pieces","_law_cell","_law_place","_law_spoilt"] ["_law_script"] (Ah Nf):=CT
theorem Ti {xs:List V} {k:Nat} (h:k<=xs.length):Cm xs none (some (k:Int))=xs.take k:=by
 unfold Cm
 rw[HT.Dl,HT.El,ko h]
 rfl
theorem Uc {xs:List V} {k:Nat}:Cm xs (some (k:Int)) none=xs.drop k:=by
 unfold Cm
 rw[HT.Dl,HT.El]
 by_cases h:k<=xs.length
 ·rw[ko h,ef (by rw[fE];omega)]
 ·rw[Nat.min_eq_right (by omega),ja,List.take_zero,List.drop_of_length_le (by omega)]
theorem cG {α:Type} {xs:List α} {k:Nat} {v:α} (h:k<xs.length):xs.take k++[v]++xs.drop (k+1)=xs.set k v:=by
 rw[dL,List.singleton_append,List.set_eq_take_append_cons_drop,if_pos h]
theorem jF {c:TT} {t t2 u:TS} {D:Ends} {σ:St} {H:Hp} (P:St->Hp->Prop) (h1:∀ D':Ends,(∀ σ' H',P σ' H'->D'.nx σ' H')->Xe c t t2 D' σ H) (h2:∀ σ' H',P σ' H'->u D σ' H'):aO (Xe c t t2) u D σ H:=h1 { D with nx:=u D } h2
theorem gN {i:Nat} {v:V} {σ:St} {H:Hp} {Q:St->Hp->Prop} (h:Q (σ.set i (some v)) H):Dw i v σ H Q:=h
theorem cj {f:Addr} {fd:FuncData} (F:Dm K "law" "law" Nf f fd) (N:qW K mg C cN cO c0 c1 c2 c3 c4 c5 c6 c7 c8 c9 lP kX ll ma aD) (T:Txt K w.params mg C cN cO c0 c1 c2 c3 c4 c5 c6 c7 c8 c9 lP kX ll ma aN aK aB aP aM) (F0:lW K aB aP aM) (hP:DG K aP Fz=true):A_ P w K mg base Bh 13 f fd ["_law_script"] (Rb K):=by
 refine F.ok LQ (λvs H Q E h=>?_) (λb9 A outer s H vs Q E hr h=>?_)
 ·obtain⟨a,ns,rfl,_⟩:=h
  rfl
 ·obtain⟨a,ns,rfl,hS,hlen,q⟩:=h
  have hu:=Gf hr
  refine⟨_,(@Ae _ _ _ _ _ (@Ck _ _ _ _ _ _ 1 LQ.nd rfl (Or.inl rfl) (Ai (g_ N T) (ad hr) rfl N.FLp.2.2 N.FLp.1.kp N.FLp.2.1 .nil Az (@BX _ _ _ _ _ rfl (pv 0) (@BX _ _ _ _ _ rfl Ac Ab))) rfl (Or.inl rfl)) (@Ae _ _ _ _ _ (@Ck _ _ _ _ _ _ 2 LQ.nd rfl (Or.inl rfl) (Ai (iM N T) (ad hr) rfl N.FSg.2.2 N.FSg.1.kp N.FSg.2.1 .nil Az (@BX _ _ _ _ _ rfl (My N.FOi.2.2 (Y_ N T) (ad hr) rfl T.mC N.FOi.2.1 .nil Az (@BX _ _ _ _ _ rfl (Dv G_ rfl T.list ft (@BX _ _ _ _ _ rfl (Be hu (pv 1) An (λ_ _=>rfl)) Ab)) Ab)) Ab)) rfl (Or.inl rfl)) (@Ae _ _ _ _ _ (@Ck _ _ _ _ _ _ 3 LQ.nd rfl (Or.inl rfl) (CV bo gc ge Gm (pv 2) (@BX _ _ _ _ _ rfl An Ab)) rfl (Or.inl rfl)) (@Ae _ _ _ _ _ (Fb PassesOwn.never rfl (B_ (BJ Ef (Cg Ey (pv 0) (Cu Ac) (Cu Ac)) (@Bo _ _ _ _ (@BX _ _ _ _ _ rfl (Aj Ay rfl T.len aT (@BX _ _ _ _ _ rfl (pv 0) Ab)) Ab)))) (Cr (i:=4) LQ.nd rfl (Or.inl rfl)) (@Ae _ _ _ _ _ (@Ck _ _ _ _ _ _ 5 LQ.nd rfl (Or.inl rfl) (Ai (J7 N T) (ad hr) rfl N.FMi.2.2 N.FMi.1.kp N.FMi.2.1 .nil Az (@BX _ _ _ _ _ rfl (pv 4) (@BX _ _ _ _ _ rfl Ac (@BX _ _ _ _ _ rfl (Aj Ay rfl T.len aT (@BX _ _ _ _ _ rfl (pv 3) Ab)) Ab)))) rfl (Or.inl rfl)) (@Ae _ _ _ _ _ (@Ck _ _ _ _ _ _ 6 LQ.nd rfl (Or.inl rfl) (BJ Ef (BJ Ef (Cg Ey (pv 3) Dj (Cu (pv 5))) (@Bo _ _ _ _ (@BX _ _ _ _ _ rfl (Ai (j7 N T) (ad hr) rfl N.FBp.2.2 N.FBp.1.kp N.FBp.2.1 .nil Az (@BX _ _ _ _ _ rfl (@BW _ _ _ _ _ _ _ Cj (pv 3) (pv 5) (λ_ _=>rfl)) (@BX _ _ _ _ _ rfl (pv 4) Ab))) Ab))) (Cg Ey (pv 3) (Cu (BJ Dc (pv 5) Ac)) Dj)) rfl (Or.inl rfl)) (@Ae _ _ _ _ _ (@Bj _ _ _ _ _ _ _ _ (PW.pt (Gw (BR DQ (BJ DX (BJ Ej (pv 4) Ac) Ac) Ac (BZ _)) (Gx (BR Fj (BJ Dc (pv 5) Ac) (Aj Ay rfl T.len aT (@BX _ _ _ _ _ rfl (pv 3) Ab)) (BZ _))))) (@Ag _ _ _ (Xz (pv 6) (BJ Dc (BJ Dc (pv 5) Ac) (Ai (J7 N T) (ad hr) rfl N.FMi.2.2 N.FMi.1.kp N.FMi.2.1 .nil Az (@BX _ _ _ _ _ rfl (pv 4) (@BX _ _ _ _ _ rfl Ac (@BX _ _ _ _ _ rfl (BJ Ft (BJ Ft (Aj Ay rfl T.len aT (@BX _ _ _ _ _ rfl (pv 3) Ab)) (pv 5)) Ac) Ab))))) An rfl)) BV) (@Ae _ _ _ _ _ (@Bj _ _ _ _ _ _ _ _ (PW.pt (GQ (Cp (C_ (Ai (jR N T) (ad hr) rfl N.FRf.2.2 N.FRf.1.kp N.FRf.2.1 .nil Az (@BX _ _ _ _ _ rfl (CV bo df dn Eh An (@BX _ _ _ _ _ rfl (pv 6) Ab)) (@BX _ _ _ _ _ rfl (pv 5) Ab))))) (FW (Cp (C_ (Ai (jR N T) (ad hr) rfl N.FRf.2.2 N.FRf.1.kp N.FRf.2.1 .nil Az (@BX _ _ _ _ _ rfl (Ai (fj N T) (ad hr) rfl N.FNo.2.2 N.FNo.1.kp N.FNo.2.1 .nil Az (@BX _ _ _ _ _ rfl (pv 2) (@BX _ _ _ _ _ rfl (BJ Ej (pv 4) Ac) Ab))) (@BX _ _ _ _ _ rfl FQ Ab)))))))) (@Ag _ _ _ (@Ar _ _ _ _ Et)) BV) (@Ag _ _ _ (@Bj _ _ _ _ _ _ _ _ (PW.pt (GQ (Cp (C_ (Ai (jR N T) (ad hr) rfl N.FRf.2.2 N.FRf.1.kp N.FRf.2.1 .nil Az (@BX _ _ _ _ _ rfl (BJ CZ (pv 2) An) (@BX _ _ _ _ _ rfl (Aj Ay rfl T.len aT (@BX _ _ _ _ _ rfl (pv 3) Ab)) Ab))))) (FW (BR (QF 1 (ck (kn (by decide:2<=64) _) hr.units)) (Ox (Ai (jt N T) (ad hr) rfl N.FRg.2.2 N.FRg.1.kp N.FRg.2.1 .nil Az (@BX _ _ _ _ _ rfl (pv 2) Ab)) T.cl N.FOw.2.2 (Zm N T) (ad hr) N.FOw.2.1 .nil Az) (Be hu (pv 1) An (λ_ _=>rfl)) (BZ _))))) (@Ag _ _ _ (@Ar _ _ _ _ Et)) BV))))))) (@Ag _ _ _ (@Ar _ _ _ _ Et)))))),?_⟩
  refine⟨_,rfl,a,2,ns,rfl,hS,by omega,F0,λA S Cs H1 P1=>?_⟩
  obtain⟨lo,hA⟩:=P1.h
  obtain⟨a8,g1,g2,y1,y2,y3,y4,_⟩:=hA.dp
  obtain⟨vr,r1,r2⟩:=hA.r
  obtain⟨bb,rd,rg,kk⟩:=P1.k
  have QV:=P1.QV
  have hne:=P1.ne
  have Mn:=P1.l
  have sH1:Ak H H1:=hA.sm
  have gr:=Cz.k (k:=Sum.inr "rows") g1
  rw[y1] at gr
  refine⟨_,rfl,A.p,_,rfl,gr,A.r,vr,rfl,kU (.inl r1),λL hL=>?_⟩
  obtain⟨H2,d0,s2,l2⟩:=CN (o:=HO.lst vr) hL
  rw[d0]
  have t2:=Ax s2 r2
  obtain⟨R2,O2,eL,eS⟩:=P1.fin H2 vr t2
  intro x dx nx xq DL
  have sx:Ak H2 (upd (upd H2 dx (.own x)) x (.ins C dx [])):=λb o e=>by
   rw[Ao (Al e nx),Ao (Al e xq)]
   exact e
  refine⟨x,dx,L,vr,Lf H2,S.bs,S.rk,S.ks,rfl,Af,sx _ _ l2,R2.mono sx,O2,λH3 OA zd AK=>⟨rfl,?_⟩⟩
  rw[eL,eS] at OA
  have s23:Ak H2 H3:=λb o e=>AK b o (sx b o e) (Al e nx)
  clear AK sx nx xq DL R2 O2 zd
  have t3:=Ax s23 t2
  refine⟨x,vr,S.bs,S.rk,S.ks,S.ls,_,S.rows,rfl,OA,t3,QV,λH4 Sr=>?_⟩
  have s14:Ak H1 H4:=s2.trans (s23.trans Sr)
  have hne2:KD S.rows ≠ []:=by simpa using hne
  have sp:=K1 QV.p hne2
  have lT:=Ot QV.p QV.l QV.n
  refine⟨_,rfl,rfl,Kh (KD S.rows),"; ",rfl,rfl,by decide +kernel,Nat.le_trans lT (by show 64000<=sizeLine;decide),(by rw[sp,List.length_map,List.length_map];exact Nat.le_trans Mn (by show 61<=sizeLine;decide)),λp5 sR=>?_⟩
  rw[sp]
  obtain⟨ps,eps⟩:∃ ps,ps=(KD S.rows).map Bw:=⟨_,rfl⟩
  rw[<-eps]
  have lps:ps.length=S.rows.length:=by rw[eps,ae,ae]
  obtain⟨H5,d0,s5,l5⟩:=CN (o:=HO.lst (ps.map V.str)) sR
  rw[d0]
  have uW:=s14.trans s5
  have HM:=sH1.trans uW
  obtain⟨ms,A9,KU⟩:=Mx ns (lo:=2) (hi:=10) (by omega) (by omega)
  refine⟨_,rfl,_,rfl,_,rfl,a,_,rfl,HM.seq hS,λsD rS=>?_⟩
  have vc:=Aw (o:=HO.lst (Cm (ns.map V.int) (some 2) (some 10))) rS
  have l10:upd H5 sD (HO.lst (Cm (ns.map V.int) (some 2) (some 10))) sD=_:=Af
  generalize upd H5 sD (HO.lst (Cm (ns.map V.int) (some 2) (some 10)))=uy at vc l10 |-
  rw[A9] at l10
  refine⟨_,rfl,a,_,rfl,.inl ((HM.trans vc).seq hS),by show 1<=sizeLine;decide,λOI B2=>?_⟩
  obtain⟨vW,d0,xB,C1⟩:=CN (o:=HO.lst [V.int (((ns.map V.int).length:Nat):Int)]) B2
  rw[d0]
  refine⟨sD,OI,_,_,rfl,rfl,xB _ _ l10,C1,Bx (by rw[List.length_map];show ms.length+1<=1000;omega),λBA Fh=>?_⟩
  obtain⟨cs,ecs⟩:∃ cs:List Int,ms.map V.int++[V.int (((ns.map V.int).length:Nat):Int)]=cs.map V.int:=⟨ms++[(((ns.map V.int).length:Nat):Int)],by rw[ce];rfl⟩
  rw[ecs]
  obtain⟨xM,d0,AF,BU⟩:=CN (o:=HO.lst (cs.map V.int)) Fh
  rw[d0]
  have s5c:Ak H5 xM:=vc.trans (xB.trans AF)
  have hS12:Dg K xM BA (cs.map V.int):=.inl (.inl BU)
  have pg:∀ q∈ps,q.length<=900/\Cw 59 32 (LL q)=0:=λq hq=>by
   rw[eps] at hq
   obtain⟨xs,hxs,rfl⟩:=ay.mp hq
   have:=Hl (QV.p xs hxs) (QV.l xs hxs)
   exact⟨by omega,Em (Nq (QV.p xs hxs))⟩
  have mYl:(ps.map V.str).length=ps.length:=ae _
  refine⟨BA,rfl,⟨_,hS12⟩,Jb (K:=K) (a:=BA) (xs:=cs.map V.int) (λi σ H'=>Ak xM H'/\∃ v4 v5 v6,σ=[some (.ref a),some (.ref A.p),some (.str (Kh (KD S.rows))),some (.ref p5),v4,v5,v6]) ⟨Ak.refl _,_,_,_,rfl⟩ (λi σ H' _ h=>h.1.seq hS12) ?_ ?_⟩
  ·rintro i y σ uc hy ⟨zj,v4,v5,v6,rfl⟩
   obtain⟨c,hc,rfl⟩:=ay.mp (al hy)
   have GM:=s5c.trans zj
   have AE:=uW.trans GM
   have F2:=F0.f
   have Fa:=GM _ _ l5
   have n1:1<=ps.length:=by
    cases hr0:S.rows with
    | nil=>exact absurd hr0 hne
    | cons r0 rs0=>rw[lps,hr0];simp
   refine⟨_,rfl,_,rfl,p5,_,rfl,kU (.inl Fa),c,50111,(((ps.map V.str).length:Nat):Int),rfl,by omega,by decide,by decide,λz z0 z1=>?_⟩
   obtain⟨k,rfl⟩:∃ k:Nat,z=(k:Int):=⟨z.toNat,by omega⟩
   have hkl:k<ps.length:=by omega
   obtain⟨r,hr0⟩:∃ r,S.rows[k]? = some r:=⟨_,af (by omega)⟩
   have Co:=al hr0
   have gd:Gd r:=⟨(QV.1 r Co).1,(QV.1 r Co).2,kk.bl.wd r Co⟩
   have hpk:ps[k]? = some (Bw r.v):=by rw[eps,br,br,hr0];rfl
   have c1:Cm (ps.map V.str) none (some (k:Int))=(ps.take k).map V.str:=by rw[Ti (by omega),kL]
   have c2:Cm (ps.map V.str) (some ((k:Int)+1)) none=(ps.drop (k+1)).map V.str:=by rw[show ((k:Int)+1)=((k+1:Nat):Int) from rfl,Uc,List.map_drop]
   refine⟨_,rfl,_,rfl,_,rfl,p5,_,rfl,kU Fa,λz9 CH=>?_⟩
   rw[c1]
   have v8:=Aw (o:=HO.lst ((ps.take k).map V.str)) CH
   have l14:upd uc z9 (HO.lst ((ps.take k).map V.str)) z9=some (.lst ((ps.take k).map V.str)):=Af
   generalize upd uc z9 (HO.lst ((ps.take k).map V.str))=u8 at v8 l14 |-
   have AZ:=v8 _ _ Fa
   refine⟨_,rfl,_,rfl,p5,_,_,.str (Bw r.v),rfl,rfl,kU AZ,Aq (by rw[br,hpk];rfl),_,rfl,r,c,rfl,gd,hP,λzb HG xZ bad=>?_⟩
   refine⟨by show 1<=sizeLine;decide,λNV FX=>?_⟩
   obtain⟨tw,d0,wL,FD⟩:=CN (o:=HO.lst [V.str zb]) FX
   rw[d0]
   refine⟨z9,NV,_,_,rfl,rfl,wL _ _ (xZ _ _ l14),FD,Bx (by simp;omega),λOO A4=>?_⟩
   obtain⟨Fk,d0,S2,L5⟩:=CN (o:=HO.lst ((ps.take k).map V.str++[V.str zb])) A4
   rw[d0]
   have wJ:=xZ.trans (wL.trans S2)
   refine⟨_,rfl,_,rfl,_,_,rfl,rfl,_,rfl,p5,_,rfl,kU (wJ _ _ AZ),λNR EJ=>?_⟩
   rw[c2]
   obtain⟨DE,d0,zu,Nd⟩:=CN (o:=HO.lst ((ps.drop (k+1)).map V.str)) EJ
   rw[d0]
   refine⟨OO,NR,_,_,rfl,rfl,zu _ _ L5,Nd,Bx (by simp;omega),λuV yl=>?_⟩
   have e19:(ps.take k).map V.str++[V.str zb]++(ps.drop (k+1)).map V.str=(ps.set k zb).map V.str:=by
    rw[<-cG hkl,ce,ce]
    rfl
   rw[e19]
   have AT:=Aw (o:=HO.lst ((ps.set k zb).map V.str)) yl
   have l19:upd DE uV (HO.lst ((ps.set k zb).map V.str)) uV=some (.lst ((ps.set k zb).map V.str)):=Af
   have n14:u8 uV=none:=wJ.free (zu.free yl)
   generalize upd DE uV (HO.lst ((ps.set k zb).map V.str))=yC at AT l19 |-
   have s149:Ak u8 yC:=wJ.trans (zu.trans AT)
   have tk0:(ps.set k zb).take k=ps.take k:=List.take_set_of_le (ar _)
   have at0:(ps.set k zb)[k]? = some zb:=gX hkl
   have in0:∀ q∈ps.set k zb,q∈ps \/ q=zb \/ q = "":=λq hq=>by
    rcases List.mem_or_eq_of_mem_set hq with h | h
    ·exact .inl h
    ·exact .inr (.inl h)
   have G1:=s149 _ _ AZ
   refine gN (i:=6) ?_
   dsimp only
   refine jF (λσ' H'=>Ak u8 H'/\(∃ qs:List Str,H' uV=some (.lst (qs.map V.str))/\qs.take k=ps.take k/\qs[k]? = some zb/\qs.length=ps.length/\∀ q∈qs,q∈ps \/ q=zb \/ q = "")/\σ'=[some (.ref a),some (.ref A.p),some (.str (Kh (KD S.rows))),some (.ref p5),some (.int c),some (.int (k:Nat)),some (.ref uV)]) (λD' HA=>?_) (λσ' H' h=>?_)
   ·have zA:=HA _ _ ⟨s149,⟨_,l19,tk0,at0,by rw[ku],in0⟩,rfl⟩
    refine⟨_,rfl,_,_,rfl,rfl,⟨by decide,by decide⟩,_,_,rfl,rfl,(by show (0:Int)<2;decide),rfl,_,rfl,Br (λ_=>?_) (λ_=>zA)⟩
    refine⟨_,rfl,_,_,rfl,rfl,_,rfl,p5,_,rfl,kU (.inl G1),_,_,rfl,rfl,_,rfl,Br (λz=>?_) (λ_=>zA)⟩
    have hk1:k+1<ps.length:=by have:=of_decide_eq_true z;omega
    refine⟨_,rfl,_,rfl,_,_,rfl,rfl,_,rfl,_,rfl,p5,_,rfl,kU (.inl G1),_,rfl,_,_,rfl,rfl,_,_,rfl,rfl,c,50119,(((ps.map V.str).length:Nat):Int) - (k:Int) - 1,rfl,by omega,by decide,by decide,λz2 XB Ya=>?_⟩
    refine⟨_,_,rfl,rfl,?_⟩
    refine⟨uV,_,_,rfl,rfl,l19,?_,?_,?_,HA _ _ ⟨?_,⟨(ps.set k zb).set ((k:Int)+1+z2).toNat "",?_,?_,?_,?_,?_⟩,rfl⟩⟩
    ·show (0:Int)<=(k:Int)+1+z2
     omega
    ·show (k:Int)+1+z2<((((ps.set k zb).map V.str).length:Nat):Int)
     rw[ae,ku]
     omega
    ·show (k:Int)+1+z2<2 ^ 62
     omega
    ·intro b o e
     rw[Ao (Al e n14)]
     exact s149 _ _ e
    ·rw[Af]
     simp only[List.map_set]
    ·rw[List.take_set_of_le (by omega)]
     exact tk0
    ·rw[ia (by omega)]
     exact at0
    ·rw[ku,ku]
    ·intro q hq
     rcases List.mem_or_eq_of_mem_set hq with h | h
     ·exact in0 q h
     ·exact .inr (.inr h)
   ·obtain⟨EV,⟨qs,lq,UX,Sf,XO,UP⟩,rfl⟩:=h
    have hq9:∀ q∈qs,q.length<=900/\Cw 59 32 (LL q)=0:=λq hq=>by
     rcases UP q hq with h | rfl | rfl
     ·exact pg q h
     ·exact⟨bad.1,bad.2.1⟩
     ·exact⟨by decide +kernel,rfl⟩
    have sum9:(qs.map (·.length)).sum<=900 * qs.length:=by
     have:=Iv 900 (qs.map (·.length)) λn hn=>by
      obtain⟨p,hp,rfl⟩:=ay.mp hn
      exact (hq9 p hp).1
     rwa [ae] at this
    refine⟨rfl,_,rfl,"; ",uV,qs,rfl,rfl,kU lq,PyProof.Rows.joinOk_of_weight (by omega) (by decide +kernel),?_⟩
    rw[Fi]
    refine⟨_,rfl,.str (Str.join "; " qs),.int (k:Nat),rfl,Su F2 kk.bl QV (by omega) (by omega) (λq hq=>(hq9 q hq).1) (λq hq=>(hq9 q hq).2) (by rw[UX,eps]) Sf (λρ us H' T' g1 g2 g3=>bad.2.2 ρ us H' T' (g1 r hr0) g2 g3),λAC ri=>?_⟩
    refine⟨_,rfl,Ce ?_⟩
    refine⟨_,rfl,_,rfl,_,_,rfl,rfl,⟨by decide,by decide⟩,_,_,rfl,λv7 ML LA rf=>?_⟩
    refine⟨v7,.non,rfl,rf,λzo EC=>?_⟩
    refine⟨_,rfl,Ce ?_⟩
    have s143:Ak u8 zo:=EV.trans (ri.trans (LA.trans EC))
    have Qr:=s143 _ _ AZ
    refine⟨_,rfl,_,_,rfl,rfl,Nat.le_trans (show (Kh (KD S.rows)).length+2<=64002 by omega) (by show 64002<=sizeLine;decide),?_⟩
    have eT:Kh (KD S.rows) ++ "; " = Str.join "; " (ps++[("" : Str)]):=by
     refine Nb ?_
     rw[app_list,show LL (Str.join "; " (ps++[("" : Str)]))=_ from Eb "; " (ps++[("" : Str)]),List.map_append]
     have h1:LL (Kh (KD S.rows))=jL ("; " : Str).cps.toList (ps.map λp=>p.cps.toList):=by rw[eps];exact Eb "; " _
     have h2:=JK ("; " : Str).cps.toList [] (ps:=ps.map λp=>p.cps.toList) (λe=>by rw[kq] at e;rw[e] at n1;exact absurd n1 (by decide))
     rw[h1]
     refine Eq.trans ?_ h2.symm
     rw[eg]
    rw[eT]
    refine⟨_,rfl,p5,_,rfl,kU (.inl Qr),.str (Str.join "; " (ps++[("" : Str)])),.int (S.rows.length:Nat),(by rw[mYl,lps];rfl),Su F2 kk.bl QV (ar _) (by rw[aE,bv];omega) (λq hq=>?_) (λq hq=>?_) (by rw[<-lps,fI (ar _),eps]) (z:="") (by rw[<-lps,dt (ar _),ja];rfl) (λρ us H' T' _ g2 g3=>UT hP g2 g3),λIZ LZ=>?_⟩
    ·rcases ba.mp hq with h | h
     ·exact (pg q h).1
     ·rw[ax.mp h]
      decide +kernel
    ·rcases ba.mp hq with h | h
     ·exact (pg q h).2
     ·rw[ax.mp h]
      rfl
    refine⟨_,rfl,Ce ?_⟩
    refine⟨_,rfl,S.rows,S.bs,S.rk,S.ks,S.ls,_,rfl,P1.fin,QV,hne,λx2 SI Au oC OX AX=>?_⟩
    obtain⟨⟨⟨OW,SE,_,_,_,_,_,_,_,_,xR,_,_,_,_,SK,_⟩,_⟩,_⟩:=id OX.o
    refine⟨x2,OW,SE,rfl,xR,SK _ (by decide +kernel),x2,SI,_,_,_,_,_,rfl,OX,λD6 A0 LH GU Nw=>?_⟩
    have s13f:Ak uc A0:=v8.trans (s143.trans (LZ.trans (oC.trans GU)))
    have CB:=AE.trans s13f
    have Iy:=Cz.k (k:=Sum.inr "rows") (CB _ _ g1)
    rw[y1] at Iy
    refine⟨_,rfl,A.p,_,rfl,Iy,D6,A.r,rfl,rfl,.inr ⟨D6,A.r,_,_,rfl,rfl,.inl ⟨Nw,CB _ _ r1⟩,O8 (Ax GU AX) (Ax CB r2) kk.bl.parts⟩,_,rfl,Ce ?_⟩
    exact⟨zj.trans s13f,_,_,_,rfl⟩
  ·rintro σ H' ⟨_,v4,v5,v6,rfl⟩
   exact q _
end
end K13
end PartK13a
section PartK13z
set_option maxHeartbeats 4000000
theorem UL1 {α:Type} {us:List α} (h:us.length=1):∃ a,us=[a]:=match us,h with | [a],_=>⟨a,rfl⟩
theorem UL2 {α:Type} {us:List α} (h:us.length=2):∃ a b,us=[a,b]:=match us,h with | [a,b],_=>⟨a,b,rfl⟩
theorem UL3 {α:Type} {us:List α} (h:us.length=3):∃ a b c,us=[a,b,c]:=match us,h with | [a,b,c],_=>⟨a,b,c,rfl⟩
theorem UL4 {α:Type} {us:List α} (h:us.length=4):∃ a b c d,us=[a,b,c,d]:=match us,h with | [a,b,c,d],_=>⟨a,b,c,d,rfl⟩
theorem UL5 {α:Type} {us:List α} (h:us.length=5):∃ a b c d e,us=[a,b,c,d,e]:=match us,h with | [a,b,c,d,e],_=>⟨a,b,c,d,e,rfl⟩
namespace K13
open PySem L2 Og
section
variable {K:W.Frag}
noncomputable abbrev DA (K:W.Frag) (x:Str) (st:Stmt) (f:Addr):Prop:=W.nsIn K mainGlobals x=some (some (.ref f))/\∃ fd,Dm K x x st f fd
noncomputable abbrev MA (K:W.Frag) (C:Addr) (x q:Str) (st:Stmt) (f:Addr):Prop:=W.findIn K (.ref C) x=some (some (.ref f))/\W.isFn K (.ref f)=true/\∃ fd,Dm K x q st f fd
theorem Fp {x q:Str} {st:Stmt} {f:Addr} {fd:FuncData} {ps:List Str} (F:Dm K x q st f fd) (hl:ps.length=1:=by rfl) (h:∀ (kV i6 pm:Value) (an:Option Addr) (b9 ct:Value) (u:Value),bindArgs (W.fnOf x q (Fe st) (Dz st) (Ah st) .none kV i6 pm an b9 ct) ⟨[u],[]⟩=pure (ps.zip [u]):=by intros;rfl):Binds K fd ps []:=F.binds λkV i6 pm an b9 ct us hu=>by obtain⟨u,rfl⟩:=UL1 (hu.trans hl);exact h kV i6 pm an b9 ct u
theorem FT {x q:Str} {st:Stmt} {f:Addr} {fd:FuncData} {ps:List Str} (F:Dm K x q st f fd) (hl:ps.length=2:=by rfl) (h:∀ (kV i6 pm:Value) (an:Option Addr) (b9 ct:Value) (u v:Value),bindArgs (W.fnOf x q (Fe st) (Dz st) (Ah st) .none kV i6 pm an b9 ct) ⟨[u,v],[]⟩=pure (ps.zip [u,v]):=by intros;rfl):Binds K fd ps []:=F.binds λkV i6 pm an b9 ct us hu=>by obtain⟨u,v,rfl⟩:=UL2 (hu.trans hl);exact h kV i6 pm an b9 ct u v
theorem Lj {x q:Str} {st:Stmt} {f:Addr} {fd:FuncData} {ps:List Str} (F:Dm K x q st f fd) (hl:ps.length=3:=by rfl) (h:∀ (kV i6 pm:Value) (an:Option Addr) (b9 ct:Value) (u v a:Value),bindArgs (W.fnOf x q (Fe st) (Dz st) (Ah st) .none kV i6 pm an b9 ct) ⟨[u,v,a],[]⟩=pure (ps.zip [u,v,a]):=by intros;rfl):Binds K fd ps []:=F.binds λkV i6 pm an b9 ct us hu=>by obtain⟨u,v,a,rfl⟩:=UL3 (hu.trans hl);exact h kV i6 pm an b9 ct u v a
end
theorem bH {l:W.OpenLaw} {w:World} {K:W.Frag} {h:Heap} {mg:Str->Option Value} {fa:Addr} (X:K.In h) (G:h.Ns mainGlobals mg) (Sl:mg "law" = some (.ref fa))
  {C cN cO c0 c1 c2 c3 c4 c5 c6 c7 c8 c9 lP kX ll ma aN aK aB aP aM p1 p2 p3 p4 p5 p6 b1 b2 b3 b4 b5 b6 b7 fWh fMd fNm fRo fTo fWi fPa fHp fCl fIk fSb fIs fWm fHr fIr fCk fNu fPl fLi fSs fMy fSt fIn fNf fRp fRr fRg fSr fSg fCe fLw fMi fNn fBb fMa fLb fLk fLs fLl fLc fLt fLr fLp fBp fKi fRf fNo fOi fOb fBk fOp fOw fOr fOs fOm fOy fOz fXi fZ:Addr} {TM HU:Option Addr} {TW:Array (Option Value)} {OB IG Iq GO Ev Gc:Value}
  {sB zn zc E2 EX B3 L8 KI J' N0 SR RO P6 zX xV yZ yy yV yh yM zq xj wu wS wO vM vN vV vB vH xf wo vj wv wz wQ vw wy vt wj wX wW vy wR wK xm vX wk wB wZ vY wc:Tok} {ES FR zR xP yk zD yI xW zE yi yo yK yA yp yf:Option Addr} {FH B6 zy zT yS zN ya zp zk xG yG xL yB yj zx:Array (Option Value)} {P5 P7 ET FL D9 CO Ee E3 FV BY CL F3 C7 FC FE nB nP nM:Nat} {eB eP eM:Array DictEntry}
  (FWh:DA K "is_whole" nW fWh)
  (FMd:DA K "is_made_of" dI fMd)
  (FNm:DA K "is_name" nq fNm)
  (FRo:DA K "rows_of" lQ fRo)
  (FTo:DA K "is_told" fP fTo)
  (FWi:DA K "is_within" pJ fWi)
  (FPa:DA K "is_part" jy fPa)
  (FHp:DA K "has_parts" jm fHp)
  (FCl:DA K "count_of_last_lines" pP fCl)
  (FIk:DA K "is_key_of" lU fIk)
  (FSb:DA K "stands_behind_stop" mH fSb)
  (FIs:DA K "is_step" gM fIs)
  (FWm:DA K "is_well_made" oW fWm)
  (FHr:DA K "has_room" pq fHr)
  (FIr:DA K "is_row" mQ fIr)
  (FCk:DA K "check_rows" ni fCk)
  (FNu:DA K "numbers_of" nu fNu)
  (FPl:DA K "places_of" lM fPl)
  (FLi:DA K "lines_by_knob" oF fLi)
  (FSs:DA K "set_of_step" lL fSs)
  (FMy:DA K "may_be_member" qj fMy)
  (FSt:DA K "set_of" lN fSt)
  (FIn:DA K "is_number" pF fIn)
  (FNf:DA K "number_of" m_ fNf)
  (FRp:DA K "read_part" o_ fRp)
  (FRr:DA K "read_row" lD fRr)
  (FRg:DA K "read_organ" ik fRg)
  (FSr:DA K "show_row" lV fSr)
  (FSg:DA K "show_organ" lB fSg)
  (FCe:DA K "_law_cell_at" oH fCe)
  (FLw:DA K "_law_whole" mU fLw)
  (FMi:DA K "_law_mix" pI fMi)
  (FNn:DA K "_law_name" nA fNn)
  (FBb:DA K "_law_base" p_ fBb)
  (FMa:DA K "_law_many" lK fMa)
  (FLb:DA K "_law_board" mX fLb)
  (FLk:DA K "_law_rank" mj fLk)
  (FLs:DA K "_law_stop" mW fLs)
  (FLl:DA K "_law_line" oE fLl)
  (FLc:DA K "_law_coupler" qJ fLc)
  (FLt:DA K "_law_step" gJ fLt)
  (FLr:DA K "_law_row" qH fLr)
  (FLp:DA K "_law_plan" qM fLp)
  (FBp:DA K "_law_bad_piece" qT fBp)
  (FKi:DA K "_law_kinds" pQ fKi)
  (FRf:DA K "_law_refused" qL fRf)
  (FNo:DA K "_law_none" oO fNo)
  (aZ:W.nsIn K mainGlobals "law" = some (some (.ref fZ)))
  (lZ:K.lookup fZ=some ⟨OB,TM,.func (W.fnOf "law" "law" (Fe Nf) (Dz Nf) (Ah Nf) .none IG Iq GO HU Ev Gc),TW⟩) (cZ:W.codeIn K Ev "law" = true) (kZ:W.keepIn K (.ref fZ)=true)
  (aC:W.nsIn K mainGlobals "Organ" = some (some (.ref C)))
  (FOi:MA K C "__init__" "Organ.__init__" Ve fOi)
  (FOb:MA K C "boards" "Organ.boards" rZ fOb)
  (FBk:MA K C "board_of_knob" "Organ.board_of_knob" sW fBk)
  (FOp:MA K C "coupler" "Organ.coupler" qz fOp)
  (FOw:MA K C "rows" "Organ.rows" qZ fOw)
  (FOr:MA K C "ranks" "Organ.ranks" qw fOr)
  (FOs:MA K C "stop" "Organ.stop" sU fOs)
  (FOm:MA K C "mute" "Organ.mute" sE fOm)
  (FOy:MA K C "steps" "Organ.steps" sH fOy)
  (FOz:MA K C "knobs" "Organ.knobs" rC fOz)
  (No:W.nsIn K mainGlobals "ValueError" = some none)
  (Lm:W.nsIn K mainGlobals "NoOrgan" = some (some (.ref cN)))
  (N9:W.nsIn K mainGlobals "NoSet" = some (some (.ref c0)))
  (LJ:W.nsIn K mainGlobals "NoNumber" = some (some (.ref c1)))
  (Pi:W.nsIn K mainGlobals "NoKnob" = some (some (.ref c2)))
  (Pt:W.nsIn K mainGlobals "NoPiston" = some (some (.ref c3)))
  (UO:W.nsIn K mainGlobals "NoBoard" = some (some (.ref c4)))
  (QE:W.nsIn K mainGlobals "NoKey" = some (some (.ref c5)))
  (LW:W.nsIn K mainGlobals "NotHeld" = some (some (.ref c6)))
  (UC:W.nsIn K mainGlobals "NoStep" = some (some (.ref c7)))
  (LY:W.nsIn K mainGlobals "NoDeed" = some (some (.ref c8)))
  (M2:W.nsIn K mainGlobals "NoRoll" = some (some (.ref c9)))
  (BH:W.nsIn K mainGlobals "NoPlay" = some (some (.ref lP)))
  (EK:W.nsIn K mainGlobals "TooMany" = some (some (.ref kX)))
  (C2:W.nsIn K mainGlobals "NoRow" = some (some (.ref ll)))
  (EI:W.nsIn K mainGlobals "Unknown" = some (some (.ref ma)))
  (Mo:W.nsIn K mainGlobals "OrganError" = some (some (.ref cO)))
  (FXi:MA K cN "__init__" "NoOrgan.__init__" m7 fXi)
  (LD:W.excIn K cO U8 "ValueError.__new__" = true)
  (Of:aj K cN cO "at" [c0,c1,c2,c3,c4,c5,c6,c7,c8,c9,lP,kX,ll,ma]=true)
  (pg:W.plainGet K C Str.empty=true)
  (hd:W.hasDictIn K C=true)
  (po:W.plainOver K C=true)
  (sa:W.findIn K (.ref C) "__setattr__" = some (some (.builtin "object.__setattr__")))
  (Pd:W.makesIn K C=true)
  (kc:W.keepIn K (.ref C)=true)
  (om:W.findIn K (.ref C) "row_list" = some none)
  (mr:W.findIn K (.ref C) "board_list" = some none)
  (nN:W.findIn K (.ref C) "rank_list" = some none)
  (nS:W.findIn K (.ref C) "knob_rows" = some none)
  (i':W.findIn K (.ref C) "board_numbers" = some none)
  (lh:W.findIn K (.ref C) "rank_numbers" = some none)
  (k9:W.findIn K (.ref C) "knob_numbers" = some none)
  (mm:W.findIn K (.ref C) "key_places" = some none)
  (mi:W.findIn K (.ref C) "pipe_places" = some none)
  (mE:W.findIn K (.ref C) "knob_lines" = some none)
  (oe:W.findIn K (.ref C) "step_sets" = some none)
  (FU:W.nsIn K mainGlobals "len" = some none)
  (oq:W.nsIn K mainGlobals "isinstance" = some none)
  (FG:W.nsIn K mainGlobals "int" = some none)
  (zg:W.nsIn K mainGlobals "bool" = some none)
  (BF:W.nsIn K mainGlobals "str" = some none)
  (yN:W.nsIn K mainGlobals "list" = some none)
  (vQ:W.nsIn K mainGlobals "tuple" = some none)
  (DJ:W.nsIn K mainGlobals "all" = some none)
  (A5:W.nsIn K mainGlobals "any" = some none)
  (C5:W.nsIn K mainGlobals "sum" = some none)
  (vE:W.nsIn K mainGlobals "range" = some none)
  (CC:W.nsIn K mainGlobals "zip" = some none)
  (oS:W.nsIn K mainGlobals "enumerate" = some none)
  (Cn:W.nsIn K mainGlobals "max" = some none)
  (qA:W.nsIn K mainGlobals "reversed" = some none)
  (EO:W.nsIn K mainGlobals "set" = some none)
  (FK:W.nsIn K mainGlobals "LETTERS" = some (some (.str letters sB)))
  (Po:W.nsIn K mainGlobals "MOST_LETTERS" = some (some (.int 8 zn)))
  (MR:W.nsIn K mainGlobals "MOST_ROWS" = some (some (.int 150 zc)))
  (EZ:W.nsIn K mainGlobals "MOST_LINES" = some (some (.int 4 E2)))
  (E4:W.nsIn K mainGlobals "FIGURES" = some (some (.str M8 B3)))
  (Si:W.nsIn K mainGlobals "MOST_FIGURES" = some (some (.int 12 L8)))
  (MU:W.findIn K (.ref C) "__class__" = some (some (.builtin "object.__class__")))
  (P9:W.specialIn K (.builtin "object.__class__") "__get__" = some (some (.builtin "getset_descriptor.__get__")))
  (OG:W.takesIn K (.builtin "object.__class__")=some true)
  (VO:W.mroIn K C (.type "object")=some true)
  (U1:W.kitOne K (.ref C) (.ref C)=some true)
  (UN:W.nsIn K mainGlobals "MEMBERS_BELOW" = some (some (.int 1200 EX)))
  (rN:W.nsIn K mainGlobals "NAMED" = some (some (.ref aN)))
  (rK:W.nsIn K mainGlobals "KNOBS" = some (some (.ref aK)))
  (rB:W.nsIn K mainGlobals "BOUNDS" = some (some (.ref aB)))
  (rP:W.nsIn K mainGlobals "PARTS" = some (some (.ref aP)))
  (rM:W.nsIn K mainGlobals "MOST_OF" = some (some (.ref aM)))
  (dB:K.lookup aB=some ⟨.type "dict",none,.dict eB nB,#[]⟩)
  (kB:W.KeysLit w.params eB.toList)
  (oB:(aB == sysModules)=false)
  (dP:K.lookup aP=some ⟨.type "dict",none,.dict eP nP,#[]⟩)
  (kP:W.KeysLit w.params eP.toList)
  (oP:(aP == sysModules)=false)
  (dM:K.lookup aM=some ⟨.type "dict",none,.dict eM nM,#[]⟩)
  (kM:W.KeysLit w.params eM.toList)
  (oM:(aM == sysModules)=false)
  (SH:W.nsIn K aP "board" = some (some (.ref p1)))
  (Sj:W.nsIn K aP "stop" = some (some (.ref p2)))
  (MO:W.nsIn K aP "mute" = some (some (.ref p3)))
  (UU:W.nsIn K aP "coupler" = some (some (.ref p4)))
  (O0:W.nsIn K aP "rank" = some (some (.ref p5)))
  (KA:W.nsIn K aP "line" = some (some (.ref p6)))
  (NA:W.nsIn K aB "keys" = some (some (.ref b1)))
  (LX:W.nsIn K aB "leap" = some (some (.ref b2)))
  (UQ:W.nsIn K aB "pipes" = some (some (.ref b3)))
  (KL:W.nsIn K aB "wind" = some (some (.ref b4)))
  (RE:W.nsIn K aB "shift" = some (some (.ref b5)))
  (UD:W.nsIn K aB "low" = some (some (.ref b6)))
  (OT:W.nsIn K aB "high" = some (some (.ref b7)))
  (VY:DG K aP Fz=true)
  (qn:W.nsIn K aB "new" = some none)
  (qb:W.nsIn K aB "board" = some none)
  (qr:W.nsIn K aB "rank" = some none)
  (ql:W.nsIn K aM "line" = some none)
  (MG:W.nsIn K aM "board" = some (some (.int 5 KI)))
  (MD:W.nsIn K aM "stop" = some (some (.int 24 J')))
  (M0:W.nsIn K aM "coupler" = some (some (.int 12 N0)))
  (U':W.nsIn K aM "mute" = some (some (.int 5 SR)))
  (Sa:W.nsIn K aM "rank" = some (some (.int 12 RO)))
  (PY:W.nsIn K aM "step" = some (some (.int 12 P6)))
  (uN:K.lookup aN=some ⟨.type "tuple",ES,.seq #[.str "board" zX,.str "rank" xV,.str "stop" yZ,.str "coupler" yy,.str "mute" yV] P5,FH⟩)
  (uK:K.lookup aK=some ⟨.type "tuple",FR,.seq #[.str "stop" yh,.str "coupler" yM,.str "mute" zq] P7,B6⟩)
  (up1:K.lookup p1=some ⟨.type "tuple",zR,.seq #[.str "new" xj,.str "keys" wu] ET,zy⟩)
  (PH:K.lookup p2=some ⟨.type "tuple",xP,.seq #[.str "new" wS,.str "board" wO] FL,zT⟩)
  (TH:K.lookup p3=some ⟨.type "tuple",yk,.seq #[.str "new" vM,.str "board" vN] D9,yS⟩)
  (Nn:K.lookup p4=some ⟨.type "tuple",zD,.seq #[.str "new" vV,.str "board" vB,.str "board" vH,.str "leap" xf] CO,zN⟩)
  (LO:K.lookup p5=some ⟨.type "tuple",yI,.seq #[.str "new" wo,.str "pipes" vj,.str "wind" wv] Ee,ya⟩)
  (QN:K.lookup p6=some ⟨.type "tuple",xW,.seq #[.str "rank" wz,.str "shift" wQ,.str "low" vw,.str "high" wy] E3,zp⟩)
  (QY:K.lookup b1=some ⟨.type "tuple",zE,.seq #[.int (1) vt,.int (61) wj] FV,zk⟩)
  (SY:K.lookup b2=some ⟨.type "tuple",yi,.seq #[.int (-60) wX,.int (60) wW] BY,xG⟩)
  (NF:K.lookup b3=some ⟨.type "tuple",yo,.seq #[.int (1) vy,.int (97) wR] CL,yG⟩)
  (PR:K.lookup b4=some ⟨.type "tuple",yK,.seq #[.int (0) wK,.int (1000000000) xm] F3,xL⟩)
  (Sb:K.lookup b5=some ⟨.type "tuple",yA,.seq #[.int (-200) vX,.int (200) wk] C7,yB⟩)
  (VU:K.lookup b6=some ⟨.type "tuple",yp,.seq #[.int (0) wB,.int (60) wZ] FC,yj⟩)
  (Ts:K.lookup b7=some ⟨.type "tuple",yf,.seq #[.int (0) vY,.int (60) wc] FE,zx⟩)
  : ∃ fd:FuncData,(∀ (s:Shared) (v:Value),BindsTo s fd ⟨[v],[]⟩ [("_law_script",v)])/\∀ base:Heap,K.In base->base.Ns mainGlobals mg->A_ l.prog w K mg base Bh 13 fa fd ["_law_script"] (Rb K):=by
 refine Classical.byContradiction λLv=>?_
 obtain⟨TU,dWh,FWh⟩:=FWh
 obtain⟨Rl,dMd,FMd⟩:=FMd
 obtain⟨M',dNm,FNm⟩:=FNm
 obtain⟨N3,dRo,FRo⟩:=FRo
 obtain⟨UE,dTo,FTo⟩:=FTo
 obtain⟨P',dWi,FWi⟩:=FWi
 obtain⟨ND,dPa,FPa⟩:=FPa
 obtain⟨Sc,dHp,FHp⟩:=FHp
 obtain⟨Qb,dCl,FCl⟩:=FCl
 obtain⟨Pf,dIk,FIk⟩:=FIk
 obtain⟨LF,dSb,FSb⟩:=FSb
 obtain⟨K',dIs,FIs⟩:=FIs
 obtain⟨PZ,dWm,FWm⟩:=FWm
 obtain⟨RY,dHr,FHr⟩:=FHr
 obtain⟨LP,dIr,FIr⟩:=FIr
 obtain⟨Pe,dCk,FCk⟩:=FCk
 obtain⟨LS,dNu,FNu⟩:=FNu
 obtain⟨SD,dPl,FPl⟩:=FPl
 obtain⟨P4,dLi,FLi⟩:=FLi
 obtain⟨TD,dSs,FSs⟩:=FSs
 obtain⟨RH,dMy,FMy⟩:=FMy
 obtain⟨Oy,dSt,FSt⟩:=FSt
 obtain⟨Sk,dIn,FIn⟩:=FIn
 obtain⟨TK,dNf,FNf⟩:=FNf
 obtain⟨LG,dRp,FRp⟩:=FRp
 obtain⟨SL,dRr,FRr⟩:=FRr
 obtain⟨SA,dRg,FRg⟩:=FRg
 obtain⟨Me,dSr,FSr⟩:=FSr
 obtain⟨Os,dSg,FSg⟩:=FSg
 obtain⟨N1,dCe,FCe⟩:=FCe
 obtain⟨OR,dLw,FLw⟩:=FLw
 obtain⟨QP,dMi,FMi⟩:=FMi
 obtain⟨MM,dNn,FNn⟩:=FNn
 obtain⟨KP,dBb,FBb⟩:=FBb
 obtain⟨S4,dMa,FMa⟩:=FMa
 obtain⟨KW,dLb,FLb⟩:=FLb
 obtain⟨OH,dLk,FLk⟩:=FLk
 obtain⟨LM,dLs,FLs⟩:=FLs
 obtain⟨Lc,dLl,FLl⟩:=FLl
 obtain⟨Pc,dLc,FLc⟩:=FLc
 obtain⟨MZ,dLt,FLt⟩:=FLt
 obtain⟨UM,dLr,FLr⟩:=FLr
 obtain⟨MC,dLp,FLp⟩:=FLp
 obtain⟨PV,dBp,FBp⟩:=FBp
 obtain⟨UK,dKi,FKi⟩:=FKi
 obtain⟨MX,dRf,FRf⟩:=FRf
 obtain⟨SO,dNo,FNo⟩:=FNo
 obtain⟨MS,Kk,dOi,FOi⟩:=FOi
 obtain⟨Na,Kx,dOb,FOb⟩:=FOb
 obtain⟨Sn,NX,dBk,FBk⟩:=FBk
 obtain⟨L9,Q2,dOp,FOp⟩:=FOp
 obtain⟨UY,RI,dOw,FOw⟩:=FOw
 obtain⟨Kt,MW,dOr,FOr⟩:=FOr
 obtain⟨Se,VS,dOs,FOs⟩:=FOs
 obtain⟨SU,UZ,dOm,FOm⟩:=FOm
 obtain⟨US,MH,dOy,FOy⟩:=FOy
 obtain⟨OF,TZ,dOz,FOz⟩:=FOz
 obtain⟨LI,NW,dXi,FXi⟩:=FXi
 refine Lv ?_
 have e:=Sl.symm.trans (W.mg_of X G aZ)
 cases e
 have FZ:=Qy (st:=Nf) lZ cZ kZ
 have gN:KTup K aN [.str "board",.str "rank",.str "stop",.str "coupler",.str "mute"]:=(⟨_,_,_,uN,rfl,rfl,by show 5<=sizeLine;decide,.cons ⟨_,rfl⟩ (.cons ⟨_,rfl⟩ (.cons ⟨_,rfl⟩ (.cons ⟨_,rfl⟩ (.cons ⟨_,rfl⟩ (.nil)))))⟩)
 have gK:KTup K aK [.str "stop",.str "coupler",.str "mute"]:=(⟨_,_,_,uK,rfl,rfl,by show 3<=sizeLine;decide,.cons ⟨_,rfl⟩ (.cons ⟨_,rfl⟩ (.cons ⟨_,rfl⟩ (.nil)))⟩)
 have gp1:KTup K p1 [.str "new",.str "keys"]:=(⟨_,_,_,up1,rfl,rfl,by show 2<=sizeLine;decide,.cons ⟨_,rfl⟩ (.cons ⟨_,rfl⟩ (.nil))⟩)
 have gp2:KTup K p2 [.str "new",.str "board"]:=(⟨_,_,_,PH,rfl,rfl,by show 2<=sizeLine;decide,.cons ⟨_,rfl⟩ (.cons ⟨_,rfl⟩ (.nil))⟩)
 have gp3:KTup K p3 [.str "new",.str "board"]:=(⟨_,_,_,TH,rfl,rfl,by show 2<=sizeLine;decide,.cons ⟨_,rfl⟩ (.cons ⟨_,rfl⟩ (.nil))⟩)
 have gp4:KTup K p4 [.str "new",.str "board",.str "board",.str "leap"]:=(⟨_,_,_,Nn,rfl,rfl,by show 4<=sizeLine;decide,.cons ⟨_,rfl⟩ (.cons ⟨_,rfl⟩ (.cons ⟨_,rfl⟩ (.cons ⟨_,rfl⟩ (.nil))))⟩)
 have gp5:KTup K p5 [.str "new",.str "pipes",.str "wind"]:=(⟨_,_,_,LO,rfl,rfl,by show 3<=sizeLine;decide,.cons ⟨_,rfl⟩ (.cons ⟨_,rfl⟩ (.cons ⟨_,rfl⟩ (.nil)))⟩)
 have gp6:KTup K p6 [.str "rank",.str "shift",.str "low",.str "high"]:=(⟨_,_,_,QN,rfl,rfl,by show 4<=sizeLine;decide,.cons ⟨_,rfl⟩ (.cons ⟨_,rfl⟩ (.cons ⟨_,rfl⟩ (.cons ⟨_,rfl⟩ (.nil))))⟩)
 have gb1:KTup K b1 [.int (1),.int (61)]:=(⟨_,_,_,QY,rfl,rfl,by show 2<=sizeLine;decide,.cons ⟨_,rfl⟩ (.cons ⟨_,rfl⟩ (.nil))⟩)
 have gb2:KTup K b2 [.int (-60),.int (60)]:=(⟨_,_,_,SY,rfl,rfl,by show 2<=sizeLine;decide,.cons ⟨_,rfl⟩ (.cons ⟨_,rfl⟩ (.nil))⟩)
 have gb3:KTup K b3 [.int (1),.int (97)]:=(⟨_,_,_,NF,rfl,rfl,by show 2<=sizeLine;decide,.cons ⟨_,rfl⟩ (.cons ⟨_,rfl⟩ (.nil))⟩)
 have gb4:KTup K b4 [.int (0),.int (1000000000)]:=(⟨_,_,_,PR,rfl,rfl,by show 2<=sizeLine;decide,.cons ⟨_,rfl⟩ (.cons ⟨_,rfl⟩ (.nil))⟩)
 have gb5:KTup K b5 [.int (-200),.int (200)]:=(⟨_,_,_,Sb,rfl,rfl,by show 2<=sizeLine;decide,.cons ⟨_,rfl⟩ (.cons ⟨_,rfl⟩ (.nil))⟩)
 have gb6:KTup K b6 [.int (0),.int (60)]:=(⟨_,_,_,VU,rfl,rfl,by show 2<=sizeLine;decide,.cons ⟨_,rfl⟩ (.cons ⟨_,rfl⟩ (.nil))⟩)
 have gb7:KTup K b7 [.int (0),.int (60)]:=(⟨_,_,_,Ts,rfl,rfl,by show 2<=sizeLine;decide,.cons ⟨_,rfl⟩ (.cons ⟨_,rfl⟩ (.nil))⟩)
 have F2:Sx K aB aP aM:=⟨⟨⟨_,SH,gp1⟩,⟨_,Sj,gp2⟩,⟨_,MO,gp3⟩,⟨_,UU,gp4⟩,⟨_,NA,gb1⟩,⟨_,LX,gb2⟩,qn,qb,⟨_,MG⟩,⟨_,MD⟩,⟨_,M0⟩,⟨_,U'⟩⟩,⟨_,O0,gp5⟩,⟨_,KA,gp6⟩,⟨_,UQ,gb3⟩,⟨_,KL,gb4⟩,⟨_,RE,gb5⟩,⟨_,UD,gb6⟩,⟨_,OT,gb7⟩,qr,⟨_,Sa⟩,ql⟩
 have F0:lW K aB aP aM:=⟨F2,⟨_,PY⟩⟩
 have T:Txt K w.params mg C cN cO c0 c1 c2 c3 c4 c5 c6 c7 c8 c9 lP kX ll ma aN aK aB aP aM:=⟨W.mg_none_of X G FU,W.mg_none_of X G oq,W.mg_none_of X G FG,W.mg_none_of X G zg,W.mg_none_of X G BF,W.mg_none_of X G yN,W.mg_none_of X G vQ,W.mg_none_of X G DJ,W.mg_none_of X G A5,W.mg_none_of X G C5,W.mg_none_of X G vE,W.mg_none_of X G CC,W.mg_none_of X G oS,W.mg_none_of X G Cn,W.mg_none_of X G qA,W.mg_none_of X G EO,⟨_,W.mg_of X G FK⟩,⟨_,W.mg_of X G Po⟩,⟨_,W.mg_of X G MR⟩,⟨_,W.mg_of X G EZ⟩,⟨_,W.mg_of X G E4⟩,⟨_,W.mg_of X G Si⟩,⟨MU,P9,OG,VO,U1⟩,⟨_,W.mg_of X G UN⟩,W.mg_of X G rN,W.mg_of X G rK,W.mg_of X G rB,W.mg_of X G rP,W.mg_of X G rM,gN,gK,⟨⟨_,_,dB,kB⟩,oB⟩,⟨⟨_,_,dP,kP⟩,oP⟩,⟨⟨_,_,dM,kM⟩,oM⟩,⟨pg,hd,po,sa⟩,W.mg_of X G aC,W.mg_none_of X G No,W.mg_of X G Lm,W.mg_of X G N9,W.mg_of X G LJ,W.mg_of X G Pi,W.mg_of X G Pt,W.mg_of X G UO,W.mg_of X G QE,W.mg_of X G LW,W.mg_of X G UC,W.mg_of X G LY,W.mg_of X G M2,W.mg_of X G BH,W.mg_of X G EK,W.mg_of X G C2,W.mg_of X G EI,W.mg_of X G Mo,LD,om,mr,nN,nS,i',lh,k9,mm,mi,mE,oe⟩
 have N:qW K mg C cN cO c0 c1 c2 c3 c4 c5 c6 c7 c8 c9 lP kX ll ma ⟨fWh,fMd,fNm,fRo,fTo,fWi,fPa,fHp,fCl,fIk,fSb,fIs,fWm,fHr,fIr,fCk,fNu,fPl,fLi,fSs,fMy,fSt,fIn,fNf,fRp,fRr,fRg,fSr,fSg,fCe,fLw,fMi,fNn,fBb,fMa,fLb,fLk,fLs,fLl,fLc,fLt,fLr,fLp,fBp,fKi,fRf,fNo,fOi,fOb,fBk,fOp,fOw,fOr,fOs,fOm,fOy,fOz,fXi,_,_,_,_,_,_,_,_,_,_,_,_,_,_,_,_,_,_,_,_,_,_,_,_,_,_,_,_,_,_,_,_,_,_,_,_,_,_,_,_,_,_,_,_,_,_,_,_,_,_,_,_,_,_,_,_,_,_⟩:=⟨⟨FWh,(Fp FWh),W.mg_of X G TU⟩,⟨FMd,(Lj FMd),W.mg_of X G Rl⟩,⟨FNm,(Fp FNm),W.mg_of X G M'⟩,⟨FRo,(FT FRo),W.mg_of X G N3⟩,⟨FTo,(Lj FTo),W.mg_of X G UE⟩,⟨FWi,(FT FWi),W.mg_of X G P'⟩,⟨FPa,(Lj FPa),W.mg_of X G ND⟩,⟨FHp,(FT FHp),W.mg_of X G Sc⟩,⟨FCl,(Fp FCl),W.mg_of X G Qb⟩,⟨FIk,(Lj FIk),W.mg_of X G Pf⟩,⟨FSb,(FT FSb),W.mg_of X G LF⟩,⟨FIs,(FT FIs),W.mg_of X G K'⟩,⟨FWm,(FT FWm),W.mg_of X G PZ⟩,⟨FHr,(FT FHr),W.mg_of X G RY⟩,⟨FIr,(FT FIr),W.mg_of X G LP⟩,⟨FCk,(Fp FCk),W.mg_of X G Pe⟩,⟨FNu,(Fp FNu),W.mg_of X G LS⟩,⟨FPl,(Fp FPl),W.mg_of X G SD⟩,⟨FLi,(FT FLi),W.mg_of X G P4⟩,⟨FSs,(FT FSs),W.mg_of X G TD⟩,⟨FMy,(Fp FMy),W.mg_of X G RH⟩,⟨FSt,(Fp FSt),W.mg_of X G Oy⟩,⟨FIn,(Fp FIn),W.mg_of X G Sk⟩,⟨FNf,(Fp FNf),W.mg_of X G TK⟩,⟨FRp,(Fp FRp),W.mg_of X G LG⟩,⟨FRr,(Fp FRr),W.mg_of X G SL⟩,⟨FRg,(Fp FRg),W.mg_of X G SA⟩,⟨FSr,(Fp FSr),W.mg_of X G Me⟩,⟨FSg,(Fp FSg),W.mg_of X G Os⟩,⟨FCe,(FT FCe),W.mg_of X G N1⟩,⟨FLw,(Fp FLw),W.mg_of X G OR⟩,⟨FMi,(Lj FMi),W.mg_of X G QP⟩,⟨FNn,(FT FNn),W.mg_of X G MM⟩,⟨FBb,(Fp FBb),W.mg_of X G KP⟩,⟨FMa,(FT FMa),W.mg_of X G S4⟩,⟨FLb,(Lj FLb),W.mg_of X G KW⟩,⟨FLk,(Lj FLk),W.mg_of X G OH⟩,⟨FLs,(Lj FLs),W.mg_of X G LM⟩,⟨FLl,(FT FLl),W.mg_of X G Lc⟩,⟨FLc,(Lj FLc),W.mg_of X G Pc⟩,⟨FLt,(FT FLt),W.mg_of X G MZ⟩,⟨FLr,(Lj FLr),W.mg_of X G UM⟩,⟨FLp,(FT FLp),W.mg_of X G MC⟩,⟨FBp,(FT FBp),W.mg_of X G PV⟩,⟨FKi,(Fp FKi),W.mg_of X G UK⟩,⟨FRf,(FT FRf),W.mg_of X G MX⟩,⟨FNo,(FT FNo),W.mg_of X G SO⟩,⟨FOi,(FT FOi),⟨Pd,MS,Kk,kc⟩⟩,⟨FOb,(Fp FOb),⟨Na,Kx,FOb.kp⟩⟩,⟨FBk,(FT FBk),⟨Sn,NX,FBk.kp⟩⟩,⟨FOp,(FT FOp),⟨L9,Q2,FOp.kp⟩⟩,⟨FOw,(Fp FOw),⟨UY,RI,FOw.kp⟩⟩,⟨FOr,(Fp FOr),⟨Kt,MW,FOr.kp⟩⟩,⟨FOs,(FT FOs),⟨Se,VS,FOs.kp⟩⟩,⟨FOm,(FT FOm),⟨SU,UZ,FOm.kp⟩⟩,⟨FOy,(Fp FOy),⟨US,MH,FOy.kp⟩⟩,⟨FOz,(Fp FOz),⟨OF,TZ,FOz.kp⟩⟩,⟨FXi,(FT FXi)⟩,lE.of Of LI (beq_iff_eq.mp NW)⟩
 exact⟨W.fnOf "law" "law" (Fe Nf) (Dz Nf) (Ah Nf) .none IG Iq GO HU Ev Gc,λs v=>.of_eq rfl,λbase _ _=>cj FZ N T F0 VY⟩
theorem walk {l:W.OpenLaw} {q:Program} {nE:List Str} {XP:(Str->Option Value)->Heap->Prop} {YP:World->Heap->Prop} {d:DefRec} {K:Params->W.Frag} (hn:l.most=some 63) (zP:d.params.defaults=[])
  (hY:∀ (w:World) (h:Heap),YP w h->(K w.params).In h)
  (F:∀ (w:World) (mg:Str->Option Value) (fa:Addr) (h:Heap),(K w.params).In h->h.Ns mainGlobals mg->mg d.name=some (.ref fa) ->
   ∃ fd:FuncData,(∀ (s:Shared) (u:Value),BindsTo s fd ⟨[u],[]⟩ [("_law_script",u)])/\∀ base:Heap,(K w.params).In base->base.Ns mainGlobals mg->A_ l.prog w (K w.params) mg base Bh 13 fa fd ["_law_script"] (Rb (K w.params))) :
  W.WalkO q nE XP YP l.row.toRowW d [] (λf vs=>PySem.call f vs) :=
 L2.YG (n:=63) (k:=13) (x:="_law_script") (CX:=λ_=>Bh) (sp:=λw=>Rb (K w.params)) hn (by decide) zP ⟨rfl,by decide,by decide⟩ hY F (λ_ _ a ns hl _ hS=>⟨a,ns,rfl,hS,hl,λ_=>rfl⟩) λ_ _ _ _ _ z=>z
end K13
open PySem PySem.W PyProof.Rows
noncomputable def PySem.W.Fast.tw10318620661369591462:Unit:=()
noncomputable def PySem.W.Fast.tw9881794542312161625:Unit:=()
noncomputable def PySem.W.Fast.tw3393268824137892593:Unit:=()
noncomputable def PySem.W.Fast.tw1760751743891206328:Unit:=()
noncomputable def PySem.W.Fast.tw5118626371332043547:Unit:=()
noncomputable def PySem.W.Fast.tw6519489468596279154:Unit:=()
noncomputable def PySem.W.Fast.tw348233625388272396:Unit:=()
noncomputable def PySem.W.Fast.tw6385456657951596672:Unit:=()
noncomputable def PySem.W.Fast.tw12547402735941194815:Unit:=()
noncomputable def PySem.W.Fast.tw3649695587625104231:Unit:=()
noncomputable def PySem.W.Fast.tw14853176187191748684:Unit:=()
noncomputable def PySem.W.Fast.tw13556274027237461630:Unit:=()
noncomputable def PySem.W.Fast.tw7835426640977598230:Unit:=()
noncomputable def PySem.W.Fast.tw5788612279435595411:Unit:=()
noncomputable def PySem.W.Fast.tw16021262637928745530:Unit:=()
noncomputable def PySem.W.Fast.tw6448249069867413306:Unit:=()
noncomputable def PySem.W.Fast.tw14751598468723979000:Unit:=()
noncomputable def PySem.W.Fast.tw856654008932702060:Unit:=()
noncomputable def PySem.W.Fast.tw13481537003453760817:Unit:=()
noncomputable def PySem.W.Fast.tw14169406569605143213:Unit:=()
noncomputable def PySem.W.Fast.tw3093643992076060899:Unit:=()
noncomputable def PySem.W.Fast.tw16864477462810443994:Unit:=()
noncomputable def PySem.W.Fast.tw2368206137499497173:Unit:=()
noncomputable def PySem.W.Fast.tw9055548253842240581:Unit:=()
noncomputable def PySem.W.Fast.tw11566717307737295011:Unit:=()
noncomputable def PySem.W.Fast.tw14865905817405342395:Unit:=()
noncomputable def PySem.W.Fast.tw15015491815380491562:Unit:=()
noncomputable def PySem.W.Fast.tw8204838376326954687:Unit:=()
noncomputable def PySem.W.Fast.tw17585854575460886997:Unit:=()
noncomputable def PySem.W.Fast.tw4093671851058664536:Unit:=()
noncomputable def PySem.W.Fast.tw14062072646823696652:Unit:=()
noncomputable def PySem.W.Fast.tw15748688861474706972:Unit:=()
noncomputable def PySem.W.Fast.tw4630388187285938118:Unit:=()
noncomputable def PySem.W.Fast.tw14630361800031554374:Unit:=()
noncomputable def PySem.W.Fast.tw13552490084523364079:Unit:=()
noncomputable def PySem.W.Fast.tw18167105078016502161:Unit:=()
noncomputable def PySem.W.Fast.tw11402576678349240577:Unit:=()
noncomputable def PySem.W.Fast.tw76936591801079297:Unit:=()
noncomputable def PySem.W.Fast.tw1246263657166976531:Unit:=()
noncomputable def PySem.W.Fast.tw5185806491065230005:Unit:=()
noncomputable def PySem.W.Fast.tw16222353503356058555:Unit:=()
noncomputable def PySem.W.Fast.tw10826526841171474220:Unit:=()
noncomputable def PySem.W.Fast.tw6746960739259013628:Unit:=()
noncomputable def PySem.W.Fast.tw9335300626841893021:Unit:=()
noncomputable def PySem.W.Fast.tw9107657484002568688:Unit:=()
noncomputable def PySem.W.Fast.tw10971259877811130211:Unit:=()
noncomputable def PySem.W.Fast.tw269751962094735115:Unit:=()
noncomputable def PySem.W.Fast.tw8151505959989740999:Unit:=()
noncomputable def PySem.W.Fast.tw2969130565951980417:Unit:=()
noncomputable def PySem.W.Fast.tw14695753534627410328:Unit:=()
noncomputable def PySem.W.Fast.tw10170023081684118674:Unit:=()
noncomputable def PySem.W.Fast.tw4599453280887922282:Unit:=()
noncomputable def PySem.W.Fast.tw14477152541910056515:Unit:=()
noncomputable def PySem.W.Fast.tw12652160915942589647:Unit:=()
noncomputable def PySem.W.Fast.tw17941642897685366134:Unit:=()
noncomputable def PySem.W.Fast.tw937483250784721114:Unit:=()
noncomputable def PySem.W.Fast.tw437195999607602012:Unit:=()
noncomputable def PySem.W.Fast.tw3067391151468019755:Unit:=()
noncomputable def PySem.W.Fast.tw6569579980857835765:Unit:=()
noncomputable def PySem.W.Fast.tw8312401346080258783:Unit:=()
noncomputable def PySem.W.Fast.tw16569855916535951397:Unit:=()
noncomputable def PySem.W.Fast.tw7898780732987515335:Unit:=()
noncomputable def PySem.W.Fast.tw18283444011389194640:Unit:=()
noncomputable def PySem.W.Fast.tw12264013598607590419:Unit:=()
noncomputable def PySem.W.Fast.tw7464788944691894647:Unit:=()
noncomputable def PySem.W.Fast.tw11804895526548692299:Unit:=()
noncomputable def PySem.W.Fast.tw8854209445665967628:Unit:=()
noncomputable def PySem.W.Fast.tw2924484057773849950:Unit:=()
noncomputable def PySem.W.Fast.tw4406633357930266207:Unit:=()
noncomputable def PySem.W.Fast.tw7996640981321045651:Unit:=()
noncomputable def PySem.W.Fast.tw17621484296701282146:Unit:=()
noncomputable def PySem.W.Fast.tw3374168982560688899:Unit:=()
noncomputable def PySem.W.Fast.tw3787174974285940544:Unit:=()
noncomputable def PySem.W.Fast.tw6172297491019989895:Unit:=()
noncomputable def PySem.W.Fast.tw12409034850110265664:Unit:=()
noncomputable def PySem.W.Fast.tw13671964369219985181:Unit:=()
noncomputable def PySem.W.Fast.tw17062259505297890701:Unit:=()
noncomputable def PySem.W.Fast.tw10102717404087164697:Unit:=()
noncomputable def PySem.W.Fast.tw15044908006579842716:Unit:=()
noncomputable def PySem.W.Fast.tw3939850342185827266:Unit:=()
noncomputable def PySem.W.Fast.tw3670163826013154840:Unit:=()
noncomputable def PySem.W.Fast.tw14083321441230230494:Unit:=()
noncomputable def PySem.W.Fast.tw11900132091668938732:Unit:=()
noncomputable def PySem.W.Fast.tw2243960756301687093:Unit:=()
noncomputable def PySem.W.Fast.tw7953733944835105028:Unit:=()
noncomputable def PySem.W.Fast.tw17215227544860301639:Unit:=()
noncomputable def PySem.W.Fast.tw2383065475365959272:Unit:=()
noncomputable def PySem.W.Fast.tw1956762564383314120:Unit:=()
noncomputable def PySem.W.Fast.tw13673100936140278615:Unit:=()
noncomputable def PySem.W.Fast.tw6707355021898732048:Unit:=()
noncomputable def PySem.W.Fast.tw11344609840904058793:Unit:=()
noncomputable def PySem.W.Fast.tw18268122570993987769:Unit:=()
noncomputable def PySem.W.Fast.tw3910512710438288028:Unit:=()
noncomputable def PySem.W.Fast.tw13808652596589216247:Unit:=()
noncomputable def PySem.W.Fast.tw6844553800978857726:Unit:=()
noncomputable def PySem.W.Fast.tw14104286668639506076:Unit:=()
noncomputable def PySem.W.Fast.tw14164552558311353088:Unit:=()
noncomputable def PySem.W.Fast.tw6156310983222268302:Unit:=()
noncomputable def PySem.W.Fast.tw3033676586937512811:Unit:=()
noncomputable def PySem.W.Fast.tw759593071029632033:Unit:=()
noncomputable def PySem.W.Fast.tw11817310286059729608:Unit:=()
noncomputable def PySem.W.Fast.tw14062059232462750349:Unit:=()
noncomputable def PySem.W.Fast.tw8674539433128184270:Unit:=()
noncomputable def PySem.W.Fast.tw16608061910515385418:Unit:=()
noncomputable def PySem.W.Fast.tw13196380285782666116:Unit:=()
set_option maxRecDepth 100000 in
set_option maxHeartbeats 0 in
theorem PySem.Challenge.cw_windchest_k13_organ_texts_refused_holds : PySem.Challenge.rw_windchest_k13_organ_texts_refused.Holds := by
 w_on; o_law; k_head; (case hw=>w_witness2)
 k_fill
 refine K13.walk (l:=PySem.Challenge.rw_windchest_k13_organ_texts_refused) rfl rfl (fun w h Y=>PySem.W.kIn_of Y) ?F
 case F =>
  intro w mg fa h KX G hmg
  refine' K13.bH KX G hmg ?_ ?_ ?_ ?_ ?_ ?_ ?_ ?_ ?_ ?_ ?_ ?_ ?_ ?_ ?_ ?_ ?_ ?_ ?_ ?_ ?_ ?_ ?_ ?_ ?_ ?_ ?_ ?_ ?_ ?_ ?_ ?_ ?_ ?_ ?_ ?_ ?_ ?_ ?_ ?_ ?_ ?_ ?_ ?_ ?_ ?_ ?_ ?_ ?_ ?_ ?_ ?_ ?_ ?_ ?_ ?_ ?_ ?_ ?_ ?_ ?_ ?_ ?_ ?_ ?_ ?_ ?_ ?_ ?_ ?_ ?_ ?_ ?_ ?_ ?_ ?_ ?_ ?_ ?_ ?_ ?_ ?_ ?_ ?_ ?_ ?_ ?_ ?_ ?_ ?_ ?_ ?_ ?_ ?_ ?_ ?_ ?_ ?_ ?_ ?_ ?_ ?_ ?_ ?_ ?_ ?_ ?_ ?_ ?_ ?_ ?_ ?_ ?_ ?_ ?_ ?_ ?_ ?_ ?_ ?_ ?_ ?_ ?_ ?_ ?_ ?_ ?_ ?_ ?_ ?_ ?_ ?_ ?_ ?_ ?_ ?_ ?_ ?_ ?_ ?_ ?_ ?_ ?_ ?_ ?_ ?_ ?_ ?_ ?_ ?_ ?_ ?_ ?_ ?_ ?_ ?_ ?_ ?_ ?_ ?_ ?_ ?_ ?_ ?_ ?_ ?_ ?_ ?_ ?_ ?_ ?_ ?_ ?_ ?_ ?_ ?_ ?_ ?_ ?_ ?_
  all_goals first | (k_is; done) | (refine' ⟨?a,_,L2.Qy ?l ?c ?k⟩; (case a=>k_is); (case l=>k_is); (case c=>k_is); case k=>k_is) | (refine' ⟨?a,?i,_,L2.Qy ?l ?c ?k⟩; (case a=>k_is); (case i=>k_is); (case l=>k_is); (case c=>k_is); case k=>k_is) | (k_keys; done) | decide | kernel_rfl! | skip
end PartK13z
