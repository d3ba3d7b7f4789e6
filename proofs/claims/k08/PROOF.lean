import PyProof.Rows.All
import Wide.All
import OpenK.AllK
import Wide.FinOn
import Lean
import PyProof.EqAt
import PyProof.EqKinds
import PyProof.TupleCall
import PyProof.ZipIter
import PyProof.WalksEnum
import PyProof.EnumMake
import PyProof.NeKinds
import KE.KDictList
import PyProof.Rows.SetFrom
import PyProof.StrWalks
import PyProof.CollectWalk
import PyProof.Rows.SortWalk
import PyProof.Rows.BitMore
import PyProof.Rows.IntCalls
import KE.KRevIter
import PyProof.SetRoads
import OpenK.KTop
import PyProof.Rows.StrWeight2
import PyProof.SumWalk
import PyProof.SliceList
import PyProof.FactsAll.subtypes_4
import PyProof.Rows.StrClose
import PyProof.Rows.CatFin
import PyProof.SeqI3
import PyProof.IsRules
import PyProof.Rows.StrCase
import PyProof.PureStr
import PySem.Challenge.RW_windchest_k08_keys_and_pipes
local macro_rules | `(tactic| omega) => `(tactic| lia)
set_option Elab.async false
set_option linter.all false
set_option maxRecDepth 100000
namespace L2
open PySem PySem.Spec PyProof.Rows
noncomputable abbrev Key:=Sum Int Str
noncomputable def JW:Key->Value->Bool
 | .inl k,v=>Value.isInt k v
 | .inr x,v=>Value.isStrOf x v
noncomputable def aX (w:World):Key->Int
 | .inl k=>hashInt k
 | .inr x=>hashStr w x
theorem CZ:∀ {k:Key} {v:Value},JW k v=true->(∃ i t,k=Sum.inl i/\v=Value.int i t) \/ (∃ x t,k=Sum.inr x/\v=Value.str x t)
 | .inl i,v,h=>by
  obtain ⟨t,e⟩:=Value.isInt_shape (k:=i) (v:=v) h
  exact .inl ⟨i,t,rfl,e⟩
 | .inr x,v,h=>by
  obtain ⟨t,e⟩:=Value.isStrOf_shape (x:=x) (v:=v) h
  exact .inr ⟨x,t,rfl,e⟩
theorem N5 (i:Int) (t:Tok):JW (.inl i) (.int i t)=true:=by simp [JW,Value.isInt]
theorem Oh (x:Str) (t:Tok):JW (.inr x) (.str x t)=true:=by simp [JW,Value.isStrOf]
theorem VF (a b:Int):decide ((Sum.inl a:Key)=Sum.inl b)=(a == b):=by
 by_cases e:a=b
 ·subst e; simp
 ·have h:¬ (Sum.inl a:Key)=Sum.inl b:=fun q=>e (Sum.inl.inj q)
  rw [decide_eq_false h]
  exact (beq_eq_false_iff_ne.mpr e).symm
theorem Ul (a b:Str):decide ((Sum.inr a:Key)=Sum.inr b)=decide (a=b):=by
 by_cases e:a=b
 ·subst e; simp
 ·have h:¬ (Sum.inr a:Key)=Sum.inr b:=fun q=>e (Sum.inr.inj q)
  rw [decide_eq_false h,decide_eq_false e]
theorem Uw (a:Int) (b:Str):decide ((Sum.inl a:Key)=Sum.inr b)=false:=decide_eq_false (fun q=>nomatch q)
theorem Uc (a:Str) (b:Int):decide ((Sum.inr a:Key)=Sum.inl b)=false:=decide_eq_false (fun q=>nomatch q)
noncomputable def CT (prog:Program) (w:World):PySem.KeyKind prog w Key where
 is:=JW
 hash:=aX w
 inj:=fun v a b ha hb=>by
  rcases CZ ha with ⟨i,t,rfl,rfl⟩ | ⟨x,t,rfl,rfl⟩
  ·rcases CZ hb with ⟨j,u,rfl,e⟩ | ⟨y,u,rfl,e⟩
   ·injection e with e1 _; rw [e1]
   ·exact nomatch e
  ·rcases CZ hb with ⟨j,u,rfl,e⟩ | ⟨y,u,rfl,e⟩
   ·exact nomatch e
   ·injection e with e1 _; rw [e1]
 byValue:=fun k v h=>by
  rcases CZ h with ⟨i,t,rfl,rfl⟩ | ⟨x,t,rfl,rfl⟩ <;> rfl
 pyHash:=fun hv h=>by
  rcases CZ hv with ⟨i,t,rfl,rfl⟩ | ⟨x,t,rfl,rfl⟩
  ·exact wpAny_pyHash_int h
  ·exact wpAny_pyHash_str h
 eqBool:=fun hu hv h=>by
  rcases CZ hu with ⟨i,t,rfl,rfl⟩ | ⟨x,t,rfl,rfl⟩
  ·rcases CZ hv with ⟨j,u,rfl,rfl⟩ | ⟨y,u,rfl,rfl⟩
   ·rw [VF] at h; exact wpAny_eqBool_int h
   ·rw [Uw] at h; exact SeqAt.EqAt.int_str i t y u _ _ _ _ h
  ·rcases CZ hv with ⟨j,u,rfl,rfl⟩ | ⟨y,u,rfl,rfl⟩
   ·rw [Uc] at h; exact SeqAt.EqAt.str_int x t j u _ _ _ _ h
   ·rw [Ul] at h; exact wpAny_eqBool_str h
 «strs»:=fun k x t v h=>by
  rcases CZ h with ⟨i,u,rfl,e⟩ | ⟨y,u,rfl,e⟩
  ·exact nomatch e
  ·injection e with e1 _
   subst e1
   cases v <;> rfl
theorem Kd (prog:Program) (w:World) (i:Int) (t:Tok):(CT prog w).is (.inl i) (.int i t)=true:=N5 i t
theorem Kl (prog:Program) (w:World) (x:Str) (t:Tok):(CT prog w).is (.inr x) (.str x t)=true:=Oh x t
end L2
namespace L2
open PySem PySem.Spec PyProof.Rows
inductive V where
 | non | bl (b:Bool) | int (i:Int) | str (x:Str) | byt (b:Array UInt8) | flt (b:UInt64) | ref (a:Addr) | ty (n:String)
 deriving DecidableEq
noncomputable def RelV:V->Value->Prop
 | .non,u=>u=Value.none
 | .bl b,u=>u=Value.bool b
 | .int i,u=>∃ t,u=Value.int i t
 | .str x,u=>∃ t,u=Value.str x t
 | .byt b,u=>∃ t,u=Value.bytes b t
 | .flt b,u=>∃ t,u=Value.float b t
 | .ref a,u=>u=Value.ref a
 | .ty n,u=>u=Value.type n
noncomputable abbrev Vals:List V->List Value->Prop:=Paired RelV
theorem Vals.length {xs:List V} {us:List Value} (r:Vals xs us):xs.length=us.length:=Paired.length r
theorem Vals.get:∀ {xs:List V} {us:List Value} {i:Nat} {x:V},Vals xs us->xs[i]? = some x->∃ u,us[i]? = some u/\RelV x u
 | _,_,_,_,.nil,e=>by simp at e
 | _,_,0,_,.cons r _,e=>by simp at e; subst e; exact ⟨_,rfl,r⟩
 | _,_,i+1,x,.cons _ t,e=>by
  obtain ⟨u,h1,h2⟩:=Vals.get (i:=i) (x:=x) t (by simpa using e)
  exact ⟨u,by simpa using h1,h2⟩
theorem Vals.append:∀ {xs ys:List V} {us ws:List Value},Vals xs us->Vals ys ws->Vals (xs++ys) (us++ws)
 | _,_,_,_,.nil,s=>s
 | _,_,_,_,.cons r t,s=>.cons r (Vals.append t s)
theorem Vals.take:∀ {xs:List V} {us:List Value} (n:Nat),Vals xs us->Vals (xs.take n) (us.take n)
 | _,_,0,_=>.nil
 | _,_,_+1,.nil=>.nil
 | _,_,n+1,.cons r t=>.cons r (Vals.take n t)
theorem Vals.drop:∀ {xs:List V} {us:List Value} (n:Nat),Vals xs us->Vals (xs.drop n) (us.drop n)
 | _,_,0,r=>r
 | _,_,_+1,.nil=>.nil
 | _,_,n+1,.cons _ t=>Vals.drop n t
noncomputable def Fd:Option V->Option Value->Prop
 | some v,some u=>RelV v u
 | none,none=>True
 | _,_=>False
noncomputable def KV {κ:Type}:List (κ × V)->List (κ × Value)->Prop:=Paired fun (p:κ × V) (q:κ × Value)=>p.1=q.1/\RelV p.2 q.2
noncomputable def kV:Key->V
 | .inl i=>.int i
 | .inr x=>.str x
inductive HO where
 | lst (xs:List V)
 | tup (xs:List V)
 | dK (kvs:List (Key × V)) | dT (kvs:List (List Key × V))
 | set (S:Int->Bool) (n:Nat)
 | ins (C dx:Addr) (fs:List (Str × V))
 | own (x:Addr)
 | xd (fs:List (Str × V))
 | met (f x:Addr)
 | rng (lo hi:Int)
 | frz (o:Obj) (u:HO)
 | tbl (ps:Array Value)
 | ext (φ:Heap->Prop)
noncomputable abbrev Hp:=Addr->Option HO
noncomputable def upd (H:Hp) (a:Addr) (o:HO):Hp:=fun b=>if b=a then some o else H b
theorem Af {H:Hp} {a:Addr} {o:HO}:upd H a o a=some o:=by unfold upd; rw [if_pos rfl]
theorem An {H:Hp} {a b:Addr} {o:HO} (h:b ≠ a):upd H a o b=H b:=by unfold upd; rw [if_neg h]
theorem KN {H:Hp} {a b:Addr} {o u:HO} (h:H a=some o) (h':H b=some u) (d:o ≠ u):a ≠ b:=by
 intro e; subst e; rw [h] at h'; exact d (Option.some.inj h')
theorem Aq {H:Hp} {a b:Addr} {o:HO} (h:H a=some o) (h':H b=none):a ≠ b:=by
 intro e; subst e; rw [h] at h'; cases h'
section
variable (P:Program) (w:World)
noncomputable def CQ (H:Hp) (h:Heap) (a:Addr):HO->Prop
 | .lst xs=>xs.length<=sizeLine/\∃ (its:List Value) (n:Nat),Vals xs its/\h.get? a=some { cls:=.type "list",data:=.seq its.toArray n }
 | .tup xs=>xs.length<=sizeLine/\∃ its:List Value,Vals xs its/\IsTup h a its.toArray
 | .dK kvs=>kvs.length<=sizeLine/\(a == sysModules)=false/\∃ vs,KV kvs vs/\h.DictOf (CT P w) a vs
 | .dT kvs=>kvs.length<=sizeLine/\(a == sysModules)=false/\∃ xs:List (List Key × Addr × Value),
   Paired (fun (p:List Key × V) (q:List Key × Addr × Value)=>p.1=q.1/\H q.2.1=some (.tup (p.1.map kV))/\RelV p.2 q.2.2) kvs xs /\
   ∃ o es ep,h.get? a=some o/\o.ExactDict/\o.data=.dict es ep/\es.toList=xs.map (entryOfKey (tupleKind (CT P w)))/\(xs.map (·.1)).Nodup
 | .set S n=>h.SetOf (intKind P w) a S n
 | .ins C dx fs=>H dx=some (.own a)/\fs.length<=1000/\dx ≠ a/\h.get? a=some (PySem.W.instObj C dx) /\
   ∃ mA,h.Ns1 dx mA/\(∀ f,Fd (fs.lookup f) (mA f))/\PySem.Within mA (fs.map (·.1))
 | .own _=>∃ o,h.get? a=some o
 | .xd fs=>∃ mA,h.Ns1 a mA/\∀ f,Fd (fs.lookup f) (mA f)
 | .rng lo hi=>∃ t u v,h.get? a=some { cls:=.type "range",data:=.fields #[.int lo t,.int hi u,.int 1 v] }
 | .frz o u=>h.get? a=some o/\CQ H h a u
 | .tbl ps=>h.get? a=some { cls:=.none,data:=.fields ps }
 | .met f x=>h.get? a=some (PySem.W.methodObj (.ref f) (.ref x))
 | .ext φ=>φ h/\(∃ o,h.get? a=some o)/\∀ h1 h2:Heap,φ h1->(∀ o,h1.get? a=some o->h2.get? a=some o)->φ h2
noncomputable def G9 (H:Hp) (h:Heap):Prop:=∀ a o,H a=some o->CQ P w H h a o
end
section
variable {P:Program} {w:World} {H H':Hp} {h h':Heap} {a:Addr} {o:HO}
theorem CQ.lt (x:CQ P w H h a o):a<h.objs.size:=by
 cases o with
 | lst xs=>obtain ⟨_,_,_,_,e⟩:=x; exact Heap.lt_size e
 | tup xs=>obtain ⟨_,_,_,p⟩:=x; exact p.lt
 | dK kvs=>obtain ⟨_,_,_,_,o,_,_,e,_⟩:=x; exact Heap.lt_size e
 | dT kvs=>obtain ⟨_,_,_,_,o,_,_,e,_⟩:=x; exact Heap.lt_size e
 | set S n=>obtain ⟨o,_,_,_,e,_⟩:=x; exact Heap.lt_size e
 | ins C dx fs=>obtain ⟨_,_,_,e,_⟩:=x; exact Heap.lt_size e
 | own y=>obtain ⟨_,e⟩:=x; exact Heap.lt_size e
 | xd fs=>obtain ⟨_,⟨_,_,_,e,_⟩,_⟩:=x; exact Heap.lt_size e
 | rng lo hi=>obtain ⟨_,_,_,e⟩:=x; exact Heap.lt_size e
 | frz ob u=>obtain ⟨e,_⟩:=x; exact Heap.lt_size e
 | tbl ps=>exact Heap.lt_size (show h.get? a=some _ from x)
 | met f y=>exact Heap.lt_size (show h.get? a=some _ from x)
 | ext φ=>obtain ⟨_,⟨_,e⟩,_⟩:=x; exact Heap.lt_size e
theorem Paired.Ez {α β:Type} {F G:α->β->Prop}:∀ {l₁:List α} {l₂:List β},Paired F l₁ l₂->(∀ a b,F a b->G a b)->Paired G l₁ l₂
 | _,_,.nil,_=>.nil
 | _,_,.cons r t,f=>.cons (f _ _ r) (Paired.Ez t f)
theorem CQ.stay (x:CQ P w H h a o) (k:∀ b u,(b=a \/ H b=some (.own a))->h.get? b=some u->h'.get? b=some u)
  (ho:∀ b,H b=some (.own a)->H' b=some (.own a)) (ht:∀ b xs,H b=some (.tup xs)->H' b=some (.tup xs)):CQ P w H' h' a o:=by
 induction o with
 | lst xs=>obtain ⟨z,its,n,r,e⟩:=x; exact ⟨z,its,n,r,k _ _ (.inl rfl) e⟩
 | tup xs=>obtain ⟨z,its,r,ob,e,c⟩:=x; exact ⟨z,its,r,ob,k _ _ (.inl rfl) e,c⟩
 | dK kvs=>obtain ⟨z,y,vs,r,ob,es,ep,e,c⟩:=x; exact ⟨z,y,vs,r,ob,es,ep,k _ _ (.inl rfl) e,c⟩
 | dT kvs =>
  obtain ⟨z,y,xs,r,ob,es,ep,e,c⟩:=x
  exact ⟨z,y,xs,Paired.Ez r fun p q z=>⟨z.1,ht _ _ z.2.1,z.2.2⟩,ob,es,ep,k _ _ (.inl rfl) e,c⟩
 | set S n=>obtain ⟨ob,es,ep,t,e,c⟩:=x; exact ⟨ob,es,ep,t,k _ _ (.inl rfl) e,c⟩
 | ins C dx fs =>
  obtain ⟨d,z,ne,e,mA,⟨od,es,ep,e2,c⟩,r⟩:=x
  exact ⟨ho _ d,z,ne,k _ _ (.inl rfl) e,mA,⟨od,es,ep,k _ _ (.inr d) e2,c⟩,r⟩
 | own y=>obtain ⟨ob,e⟩:=x; exact ⟨ob,k _ _ (.inl rfl) e⟩
 | xd fs=>obtain ⟨mA,⟨od,es,ep,e,c⟩,r⟩:=x; exact ⟨mA,⟨od,es,ep,k _ _ (.inl rfl) e,c⟩,r⟩
 | rng lo hi=>obtain ⟨t,u,v,e⟩:=x; exact ⟨t,u,v,k _ _ (.inl rfl) e⟩
 | frz ob u ih=>obtain ⟨e,q⟩:=x; exact ⟨k _ _ (.inl rfl) e,ih q⟩
 | tbl ps =>
  have e:h.get? a=some { cls:=.none,data:=.fields ps }:=x
  show h'.get? a=some { cls:=.none,data:=.fields ps }
  exact k a _ (.inl rfl) e
 | met f y =>
  have e:h.get? a=some (PySem.W.methodObj (.ref f) (.ref y)):=x
  show h'.get? a=some (PySem.W.methodObj (.ref f) (.ref y))
  exact k a _ (.inl rfl) e
 | ext φ=>obtain ⟨p,⟨o,e⟩,st⟩:=x; exact ⟨st _ _ p fun o q=>k _ _ (.inl rfl) q,⟨o,k _ _ (.inl rfl) e⟩,st⟩
theorem G9.lt (x:G9 P w H h) (e:H a=some o):a<h.objs.size:=(x a o e).lt
theorem G9.fresh (x:G9 P w H h) (e:h.objs.size<=a):H a=none:=by
 cases q:H a with
 | none=>rfl
 | some u=>exact absurd (Nat.lt_of_lt_of_le (x.lt q) e) (Nat.lt_irrefl _)
theorem G9.kept (x:G9 P w H h) (k:∀ b u,h.get? b=some u->h'.get? b=some u):G9 P w H h':=fun a o e =>
 (x a o e).stay (fun b u _ q=>k b u q) (fun _ q=>q) fun _ _ q=>q
theorem G9.laid (x:G9 P w H h) (k:∀ b u,h.get? b=some u->h'.get? b=some u) (hp:h.objs.size<=a) (new:CQ P w (upd H a o) h' a o):G9 P w (upd H a o) h':=fun b u e=>by
 have hn:=x.fresh hp
 by_cases hb:b=a
 ·subst hb; rw [Af] at e; cases e; exact new
 ·rw [An hb] at e
  exact (x b u e).stay (fun c v _ q=>k c v q) (fun c q=>by rw [An (Aq q hn)]; exact q) fun c xs q=>by rw [An (Aq q hn)]; exact q
end
noncomputable def Rd (H:Hp) (a:Addr) (u:HO):Prop:=H a=some u \/ ∃ o,H a=some (.frz o u)
theorem Rd.ok {P:Program} {w:World} {H:Hp} {h:Heap} {a:Addr} {u:HO} (r:Rd H a u) (x:G9 P w H h):CQ P w H h a u:=by
 rcases r with r | ⟨o,r⟩
 ·exact x a u r
 ·obtain ⟨_,q⟩:=x a _ r
  exact q
noncomputable def XJ:Option HO->Prop
 | some (.lst _)=>True
 | some (.dK _)=>True
 | some (.dT _)=>True
 | some (.set _ _)=>True
 | some (.ins _ _ _)=>True
 | some (.ext _)=>True
 | _=>False
section
variable {P:Program} {w:World} {H:Hp} {h h':Heap} {x e:Addr} {o':HO}
theorem G9.write (ok:G9 P w H h) (mu:XJ (H x)) (he:e=x \/ H e=some (.own x)) (k:∀ b u,b ≠ e->h.get? b=some u->h'.get? b=some u) (heo:∃ u,h'.get? e=some u)
  (new:CQ P w (upd H x o') h' x o'):G9 P w (upd H x o') h':=fun b u q=>by
 have nown:∀ c y,H c=some (.own y)->c ≠ x:=fun c y r z=>by subst z; rw [r] at mu; exact mu
 have ntup:∀ c xs,H c=some (.tup xs)->c ≠ x:=fun c xs r z=>by subst z; rw [r] at mu; exact mu
 by_cases hb:b=x
 ·subst hb; rw [Af] at q; cases q; exact new
 ·rw [An hb] at q
  by_cases hbe:b=e
  ·have q':H b=some (.own x):=by
    rcases he with z | z
    ·exact absurd (hbe.trans z) hb
    ·rw [hbe]; exact z
   rw [q] at q'; cases q'
   obtain ⟨v,hv⟩:=heo
   exact ⟨v,by rw [hbe]; exact hv⟩
  ·refine (ok b u q).stay (fun c v hc r=>k c v ?_ r) (fun c r=>by rw [An (nown c b r)]; exact r) fun c xs r=>by rw [An (ntup c xs r)]; exact r
   rcases hc with rfl | hc
   ·exact hbe
   ·rintro rfl
    rcases he with z | z
    ·exact nown c b hc z
    ·rw [hc] at z; cases z; exact hb rfl
end
structure Un (fs ex:List Addr) (H H':Hp) (h h':Heap):Prop where
 keep:∀ b o,h.get? b=some o->H b=none->b ∉ fs->b ∉ ex->h'.get? b=some o
 slot:∀ b o,h.get? b=some o->H b=none->b∈fs->b ∉ ex->∃ sl,h'.get? b=some { o with slots:=sl }
 free:∀ b o,h.get? b=some o->H b=none->b ∉ ex->H' b=none
 there:∀ b o,h.get? b=some o->b ∉ ex->∃ o',h'.get? b=some o'
 tups:∀ b xs,H b=some (.tup xs)->H' b=some (.tup xs)
 frzs:∀ b o u,H b=some (.frz o u)->H' b=some (.frz o u)
 tbls:∀ b ps,H b=some (.tbl ps)->∃ more,H' b=some (.tbl (ps++more))
section
variable {fs fs' ex ex':List Addr} {H H1 H2:Hp} {h h1 h2 h':Heap} {a x e:Addr} {o:HO}
theorem Un.any (u:Un fs ex H H1 h h1) {b:Addr} {ob:Obj} (q:h.get? b=some ob) (n:H b=none) (hx:b ∉ ex):∃ sl,h1.get? b=some { ob with slots:=sl }:=by
 by_cases hb:b∈fs
 ·exact u.slot b ob q n hb hx
 ·exact ⟨ob.slots,u.keep b ob q n hb hx⟩
theorem Un.kept (k:∀ b u,h.get? b=some u->h'.get? b=some u):Un fs ex H H h h' :=
 ⟨fun b ob q _ _ _=>k b ob q,fun b ob q _ _ _=>⟨ob.slots,k b ob q⟩,fun _ _ _ n _=>n,fun b ob q _=>⟨ob,k b ob q⟩,fun _ _ q=>q,fun _ _ _ q=>q,fun _ ps q=>⟨#[],by rw [q]; simp⟩⟩
theorem Un.refl:Un fs ex H H h h:=Un.kept fun _ _ q=>q
theorem Un.laid (k:∀ b u,h.get? b=some u->h'.get? b=some u) (hp:h.objs.size<=a) (hn:H a=none):Un fs ex H (upd H a o) h h' where
 keep:=fun b u q _ _ _=>k b u q
 slot:=fun b u q _ _ _=>⟨u.slots,k b u q⟩
 free:=fun b u q n _=>by rw [An (Nat.ne_of_lt (Nat.lt_of_lt_of_le (Heap.lt_size q) hp))]; exact n
 there:=fun b u q _=>⟨u,k b u q⟩
 tups:=fun b xs q=>by rw [An (Aq q hn)]; exact q
 frzs:=fun b u xs q=>by rw [An (Aq q hn)]; exact q
 tbls:=fun b ps q=>⟨#[],by rw [An (Aq q hn),q]; simp⟩
theorem Un.write (mu:XJ (H x)) (he:e=x \/ H e=some (.own x)) (k:∀ b u,b ≠ e->h.get? b=some u->h'.get? b=some u) (heo:∃ u,h'.get? e=some u):Un fs ex H (upd H x o) h h':=by
 have hx:∀ b,H b=none->b ≠ x:=fun b n z=>by subst z; rw [n] at mu; exact mu
 have hb:∀ b,H b=none->b ≠ e:=fun b n z=>by
  subst z
  rcases he with r | r
  ·exact hx b n r
  ·rw [n] at r; cases r
 have hm:∀ b u,H b=some u->¬ XJ (some u)->b ≠ x:=fun b u q nm z=>by subst z; rw [q] at mu; exact nm mu
 refine ⟨fun b u q n _ _=>k b u (hb b n) q,fun b u q n _ _=>⟨u.slots,k b u (hb b n) q⟩,fun b u q n _=>by rw [An (hx b n)]; exact n,fun b u q _=>?_,
  fun b xs q=>by rw [An (hm b _ q fun z=>z)]; exact q,fun b u xs q=>by rw [An (hm b _ q fun z=>z)]; exact q,fun b ps q=>⟨#[],by rw [An (hm b _ q fun z=>z),q]; simp⟩⟩
 by_cases hbe:b=e
 ·subst hbe; exact heo
 ·exact ⟨u,k b u hbe q⟩
end
noncomputable def Zt (h:Heap) (H:Hp):List Addr:=(List.range h.objs.size).filter fun a=>(H a).isSome
noncomputable def Jp (h:Heap) (H:Hp):Heap:=PySem.W.hideAll h (Zt h H)
theorem Ow (h:Heap) (H:Hp):(Jp h H).objs.size=h.objs.size:=PySem.W.hideAll_size _ _
theorem Qm {h:Heap} {H:Hp} {b:Addr} {o:Obj} (e:h.get? b=some o) (n:H b=none):(Jp h H).get? b=some o :=
 PySem.W.hideAll_get _ e fun hm=>by
  have q:(H b).isSome=true:=(List.mem_filter.mp hm).2
  rw [n] at q; simp at q
theorem Rv {h:Heap} {H:Hp} {b:Addr} {o:Obj} (e:(Jp h H).get? b=some o):h.get? b=some o/\H b=none:=by
 have e':h.get? b=some o:=PySem.W.of_hideAll (Zt h H) e
 refine ⟨e',?_⟩
 cases q:H b with
 | none=>rfl
 | some x =>
  have hm:b∈Zt h H:=List.mem_filter.mpr ⟨List.mem_range.mpr (Heap.lt_size e'),by simp [q]⟩
  have z:(Jp h H).get? b=none:=PySem.W.hideAll_none (Zt h H) hm
  rw [z] at e; cases e
noncomputable def Ry (g h:Heap) (L:Addr):List (Addr × Obj):=(List.range h.objs.size).filterMap fun a=>if a=L \/ (g.get? a).isSome=true then none else (h.get? a).map fun o=>(a,o)
noncomputable def rest (g h:Heap) (L d:Addr):List (Addr × Obj):=(Ry g h L).filter fun p=>decide (p.1 ≠ d)
end L2
namespace L2
open PySem PySem.Spec PyProof.Rows
structure Mod (K:PySem.W.Frag) (mg:Str->Option Value) (base:Heap):Prop where
 kin:K.In base
 glob:base.Ns mainGlobals mg
 blt:∃ mb,base.Ns builtinsNs mb/\∀ x:Str,x ≠ "__name__"->mb x=bootBuiltins x
 nolimit:base.NoLimit
structure Cx where
 prog:Program
 w:World
 K:PySem.W.Frag
 mg:Str->Option Value
 base:Heap
 A:Around
 N:List Str
 s₀:Shared
 H₀:Hp
 env:Env
 outer:List Env
 stack:List Env
 ex:List Addr
 fn:Str->Bool
 calm:Bool
 pn:List (Addr × Obj)
 xe:Value->Shared->Prop
noncomputable def frs (l:List Env):List Addr:=l.filterMap (·.frame)
noncomputable abbrev Cx.fs (X:Cx):List Addr:=frs X.outer
noncomputable def Zy (sc:Scope) (x:Str):Prop:=sc.names.lookup x=some .local \/ sc.names.lookup x=some .cell \/ sc.names.lookup x=some .free
noncomputable def Loc (sc:Scope) (x:Str):Prop:=sc.names.lookup x=some .local \/ sc.names.lookup x=some .cell
noncomputable def Look (env:Env) (h:Heap) (m:Str->Option Value) (x:Str) (u:Value):Prop :=
 (env.kindOf x=some .local/\m x=some u) \/ ((env.kindOf x=some .cell \/ env.kindOf x=some .free)/\∃ c,env.cells.lookup x=some c/\h.IsCell c (some u))
structure Cx.Ok (X:Cx):Prop where
 mod:Mod X.K X.mg X.base
 kind:X.env.scope.kind=.function
 glob:X.env.globals=mainGlobals
 blt:X.env.builtins=builtinsNs
 above:X.s₀.heap.objs.size<=X.env.locals
 inj:∀ x y c,X.env.cells.lookup x=some c->X.env.cells.lookup y=some c->x=y
 has:∀ x,(X.env.kindOf x=some .cell \/ X.env.kindOf x=some .free)->∃ c,X.env.cells.lookup x=some c
 cab:∀ x c,X.fn x=true->X.env.cells.lookup x=some c->X.s₀.heap.objs.size<=c
 hd:X.calm=true->X.A.handled=none
 frames:X.A.frames=some X.stack
 stk:X.stack=X.outer \/ (X.stack=X.env::X.outer/\X.env.frame=some X.env.locals)
 exf:∀ b∈X.ex,b ≠ X.env.locals/\∀ x c,X.env.cells.lookup x=some c->c ≠ b
 bs:∀ b o,X.base.get? b=some o->X.s₀.heap.get? b=some o/\X.H₀ b=none
 bsz:X.base.objs.size<=X.s₀.heap.objs.size
 noex:∀ b o,X.base.get? b=some o->b ∉ X.ex
 exfs:∀ b∈X.ex,b ∉ X.fs
 Hv:X.s₀.heap.FunFrames X.base X.outer
 frf:∀ b∈X.fs,X.H₀ b=none
structure Inv (X:Cx) (pins:List (Addr × Obj)) (σ:List (Option V)) (H:Hp) (s:Shared):Prop where
 ok:X.Ok
 os:s.os=X.s₀.os
 bare:AllBare s.gens
 base:Un X.fs X.ex X.H₀ H X.s₀.heap s.heap
 loc:∃ m,s.heap.Ns X.env.locals m/\∀ (i:Nat) (x:Str) (v:V),X.N[i]? = some x->σ[i]? = some (some v)->Zy X.env.scope x->∃ u,RelV v u/\Look X.env s.heap m x u
 cell:∀ x c,X.env.cells.lookup x=some c->∃ v,s.heap.IsCell c v
 free:H X.env.locals=none
 freeC:∀ x c,X.env.cells.lookup x=some c->H c=none
 pin:∀ p∈X.pn++pins,s.heap.get? p.1=some p.2/\H p.1=none/\p.1 ≠ X.env.locals/\p.1 ∉ X.fs/\∀ v,p.2.data ≠ .cell v
 hok:G9 X.prog X.w H s.heap
 len:σ.length=X.N.length
section
variable {X:Cx} {pins:List (Addr × Obj)} {σ:List (Option V)} {H H':Hp} {s:Shared} {h':Heap}
theorem Cx.Ok.bc (ok:X.Ok) {b:Addr} {o:Obj} (e:X.base.get? b=some o):b ∉ X.fs:=fun hb=>by
 have:=(ok.Hv.mem hb).1
 rw [e] at this; cases this
theorem Inv.bs (I:Inv X pins σ H s):∀ b o,X.base.get? b=some o->s.heap.get? b=some o/\H b=none:=fun b o e =>
 ⟨I.base.keep b o (I.ok.bs b o e).1 (I.ok.bs b o e).2 (I.ok.bc e) (I.ok.noex b o e),I.base.free b o (I.ok.bs b o e).1 (I.ok.bs b o e).2 (I.ok.noex b o e)⟩
theorem Inv.bk (I:Inv X pins σ H s):∀ b o,X.base.get? b=some o->s.heap.get? b=some o:=fun b o e=>(I.bs b o e).1
theorem Inv.mod (I:Inv X pins σ H s):Mod X.K X.mg X.base:=I.ok.mod
theorem Inv.Hf (I:Inv X pins σ H s):X.K.In s.heap:=I.ok.mod.kin.keeps I.bk
theorem Inv.lt (I:Inv X pins σ H s):X.env.locals<s.heap.objs.size:=let ⟨_,hn,_⟩:=I.loc; hn.lt
theorem Inv.sz (I:Inv X pins σ H s):X.s₀.heap.objs.size<=s.heap.objs.size:=Nat.le_trans I.ok.above (Nat.le_of_lt I.lt)
theorem Inv.bf (I:Inv X pins σ H s) {a:Addr} (h:s.heap.objs.size<=a):a ∉ X.fs:=fun hb=>by
 obtain ⟨_,o,ho,_⟩:=I.ok.Hv.mem hb
 exact absurd (Nat.lt_of_lt_of_le (Heap.lt_size ho) (Nat.le_trans I.sz h)) (Nat.lt_irrefl _)
theorem Inv.Tz (I:Inv X pins σ H s):∀ x c,X.env.cells.lookup x=some c->c ≠ X.env.locals:=fun x c e z=>by
 obtain ⟨v,o,ho,hd⟩:=I.cell x c e
 obtain ⟨m,⟨o',es,ep,ho',hd',_⟩,_⟩:=I.loc
 rw [z,ho'] at ho; cases ho; rw [hd'] at hd; cases hd
theorem Inv.Hv (I:Inv X pins σ H s):s.heap.FunFrames X.base X.outer:=by
 have all:∀ (l:List Env),(∀ b∈frs l,b∈X.fs)->X.s₀.heap.FunFrames X.base l->s.heap.FunFrames X.base l:=by
  intro l
  induction l with
  | nil=>intro _ _; trivial
  | cons env r ih =>
   intro hs hl
   obtain ⟨hk,⟨L,o,hf,hn,ho,hd⟩,hr⟩:=hl
   have hL:L∈X.fs:=hs L (by unfold frs; rw [List.filterMap_cons,hf]; exact List.mem_cons_self)
   obtain ⟨sl,e⟩:=I.base.slot L o ho (I.ok.frf L hL) hL fun z=>I.ok.exfs L z hL
   exact ⟨hk,⟨L,_,hf,hn,e,hd⟩,ih (fun b hb=>hs b (by unfold frs; rw [List.filterMap_cons,hf]; exact List.mem_cons_of_mem _ hb)) hr⟩
 exact all X.outer (fun _ hb=>hb) I.ok.Hv
theorem Inv.stack (I:Inv X pins σ H s):s.heap.FunFrames X.base X.stack:=by
 rcases I.ok.stk with e | ⟨e,hf⟩
 ·rw [e]; exact I.Hv
 ·rw [e]
  obtain ⟨m,hn,_⟩:=I.loc
  refine .cons (by rw [I.ok.kind]; decide) hf hn ?_ I.Hv
  exact Heap.get?_none_of_le (Nat.le_trans I.ok.bsz I.ok.above)
theorem Inv.Jx (I:Inv X pins σ H s):∀ b∈frs X.stack,b∈X.env.locals::X.fs:=fun b hb=>by
 rcases I.ok.stk with e | ⟨e,hf⟩
 ·rw [e] at hb; exact List.mem_cons_of_mem _ hb
 ·rw [e] at hb
  unfold frs at hb
  rw [List.filterMap_cons,hf] at hb
  exact hb
theorem Inv.J_ (I:Inv X pins σ H s):∀ b∈frs X.stack,H b=none:=fun b hb=>by
 rcases List.mem_cons.mp (I.Jx b hb) with e | hb
 ·rw [e]; exact I.free
 ·obtain ⟨_,o,ho,_⟩:=I.ok.Hv.mem hb
  exact I.base.free b o ho (I.ok.frf b hb) fun z=>I.ok.exfs b z hb
theorem Inv.step {g':Array GenState} {t':Nat} {d':Drawn} {ch:List Addr} (I:Inv X pins σ H s)
  (hch:∀ b∈ch,(b∈X.ex \/ X.s₀.heap.objs.size<=b)/\b ≠ X.env.locals/\(∀ x c,X.env.cells.lookup x=some c->c ≠ b)/\∀ p∈X.pn++pins,p.1 ≠ b)
  (keep:∀ b o,b ≠ X.env.locals->b ∉ X.fs->b ∉ ch->s.heap.get? b=some o->H b=none->h'.get? b=some o)
  (slot:∀ b o,b ≠ X.env.locals->b∈X.fs->b ∉ ch->s.heap.get? b=some o->H b=none->∃ sl,h'.get? b=some { o with slots:=sl }) (free:∀ b o,b ∉ ch->s.heap.get? b=some o->H b=none->H' b=none)
  (there:∀ b o,b ∉ ch->s.heap.get? b=some o->∃ o',h'.get? b=some o')
  (tups:∀ b xs,H b=some (.tup xs)->H' b=some (.tup xs)) (frzs:∀ b o u,H b=some (.frz o u)->H' b=some (.frz o u)) (tbls:∀ b ps,H b=some (.tbl ps)->∃ more,H' b=some (.tbl (ps++more)))
  (ns:∀ m,s.heap.Ns X.env.locals m->h'.Ns X.env.locals m) (hok:G9 X.prog X.w H' h') (hg:AllBare g') :
  Inv X pins σ H' { s with heap:=h',gens:=g',drawn:=d',toks:=t' }:=by
 have neL:∀ b o,X.s₀.heap.get? b=some o->b ≠ X.env.locals:=fun b o e=>Nat.ne_of_lt (Nat.lt_of_lt_of_le (Heap.lt_size e) I.ok.above)
 have neC:∀ b o,X.s₀.heap.get? b=some o->b ∉ X.ex->b ∉ ch:=fun b o e hx hb=>by
  rcases (hch b hb).1 with z | z
  ·exact hx z
  ·exact absurd (Nat.lt_of_lt_of_le (Heap.lt_size e) z) (Nat.lt_irrefl _)
 have cellK:∀ x c,X.env.cells.lookup x=some c->∀ v,s.heap.IsCell c v->h'.IsCell c v:=fun x c e v ⟨o,ho,hd⟩=>by
  have nch:c ∉ ch:=fun z=>(hch c z).2.2.1 x c e rfl
  by_cases hc:c∈X.fs
  ·obtain ⟨sl,q⟩:=slot c o (I.Tz x c e) hc nch ho (I.freeC x c e)
   exact ⟨_,q,hd⟩
  ·exact ⟨o,keep c o (I.Tz x c e) hc nch ho (I.freeC x c e),hd⟩
 refine ⟨I.ok,I.os,hg,⟨fun b o e n hb hx=>?_,fun b o e n hb hx=>?_,fun b o e n hx=>?_,fun b o e hx=>?_,fun b xs e=>tups b xs (I.base.tups b xs e),fun b o xs e=>frzs b o xs (I.base.frzs b o xs e),fun b ps e=>?_⟩,?_,fun x c e=>?_,?_,fun x c e=>?_,fun p hp=>?_,hok,I.len⟩
 ·exact keep b o (neL b o e) hb (neC b o e hx) (I.base.keep b o e n hb hx) (I.base.free b o e n hx)
 ·obtain ⟨sl,e1⟩:=I.base.slot b o e n hb hx
  obtain ⟨sl',e2⟩:=slot b _ (neL b o e) hb (neC b o e hx) e1 (I.base.free b o e n hx)
  exact ⟨sl',e2⟩
 ·obtain ⟨o',e1⟩:=I.base.there b o e hx
  exact free b o' (neC b o e hx) e1 (I.base.free b o e n hx)
 ·obtain ⟨o',e1⟩:=I.base.there b o e hx
  exact there b o' (neC b o e hx) e1
 ·obtain ⟨m1,e1⟩:=I.base.tbls b ps e
  obtain ⟨m2,e2⟩:=tbls b _ e1
  exact ⟨m1++m2,by rw [e2,Array.append_assoc]⟩
 ·obtain ⟨m,hn,hl⟩:=I.loc
  refine ⟨m,ns m hn,fun i x v e1 e2 e3=>?_⟩
  obtain ⟨u,r,l⟩:=hl i x v e1 e2 e3
  refine ⟨u,r,?_⟩
  rcases l with l | ⟨k,c,e,z⟩
  ·exact .inl l
  ·exact .inr ⟨k,c,e,cellK x c e _ z⟩
 ·obtain ⟨v,z⟩:=I.cell x c e
  exact ⟨v,cellK x c e v z⟩
 ·obtain ⟨m,⟨o,_,_,ho,_⟩,_⟩:=I.loc
  exact free _ o (fun z=>(hch _ z).2.1 rfl) ho I.free
 ·obtain ⟨v,o,ho,hd⟩:=I.cell x c e
  exact free c o (fun z=>(hch c z).2.2.1 x c e rfl) ho (I.freeC x c e)
 ·obtain ⟨e,n,ne,nf,d⟩:=I.pin p hp
  have nch:p.1 ∉ ch:=fun z=>(hch p.1 z).2.2.2 p hp rfl
  exact ⟨keep p.1 p.2 ne nf nch e n,free p.1 p.2 nch e n,ne,nf,d⟩
theorem Inv.un {t':Nat} (I:Inv X pins σ H s) (u:Un X.fs [] H H' s.heap h') (hok:G9 X.prog X.w H' h'):Inv X pins σ H' { s with heap:=h',toks:=t' }:=by
 obtain ⟨m,⟨o,es,ep,ho,r⟩,_⟩:=id I.loc
 obtain ⟨sl,hL⟩:=u.any ho I.free (by simp)
 exact I.step (g':=s.gens) (d':=s.drawn) (ch:=[]) (fun _ z=>nomatch z) (fun b o _ hb _ e n=>u.keep b o e n hb (by simp)) (fun b o _ hb _ e n=>u.slot b o e n hb (by simp)) (fun b o _ e n=>u.free b o e n (by simp)) (fun b o _ e=>u.there b o e (by simp)) u.tups u.frzs u.tbls (fun m' hm=>by
  obtain ⟨o',es',ep',ho',r'⟩:=hm
  rw [ho] at ho'; cases ho'
  exact ⟨_,es',ep',hL,r'⟩) hok I.bare
theorem Inv.call {g':Array GenState} {t':Nat} {d':Drawn} {ch:List Addr} (I:Inv X pins σ H s) (u:Un (frs X.stack) ch H H' s.heap h') (hok:G9 X.prog X.w H' h') (hg:AllBare g')
  (hch:∀ b∈ch,(b∈X.ex \/ X.s₀.heap.objs.size<=b)/\b ≠ X.env.locals/\(∀ x c,X.env.cells.lookup x=some c->c ≠ b)/\∀ p∈X.pn++pins,p.1 ≠ b) :
  Inv X pins σ H' { s with heap:=h',gens:=g',drawn:=d',toks:=t' }:=by
 obtain ⟨m,⟨o,es,ep,ho,r⟩,_⟩:=id I.loc
 obtain ⟨sl,hL⟩:=u.any ho I.free fun z=>(hch _ z).2.1 rfl
 exact I.step (ch:=ch) hch (fun b o hL hb hc e n=>u.keep b o e n (fun z=>(List.mem_cons.mp (I.Jx b z)).elim hL hb) hc) (fun b o _ _ hc e n=>u.any e n hc) (fun b o hc e n=>u.free b o e n hc) (fun b o hc e=>u.there b o e hc) u.tups u.frzs u.tbls (fun m' hm=>by
  obtain ⟨o',es',ep',ho',r'⟩:=hm
  rw [ho] at ho'; cases ho'
  exact ⟨_,es',ep',hL,r'⟩) hok hg
theorem Inv.turned {t':Nat} {it:Addr} (I:Inv X pins σ H s) (k:∀ b o,b ≠ it->s.heap.get? b=some o->h'.get? b=some o) (hn:H it=none) (hL:it ≠ X.env.locals)
  (h1:it∈X.ex \/ X.s₀.heap.objs.size<=it) (h2:∀ x c,X.env.cells.lookup x=some c->c ≠ it) (h3:∀ p∈X.pn++pins,p.1 ≠ it):Inv X pins σ H { s with heap:=h',toks:=t' }:=by
 have nit:∀ b u,H b=some u->b ≠ it:=fun b u e z=>by rw [z,hn] at e; cases e
 refine I.step (g':=s.gens) (d':=s.drawn) (ch:=[it]) (fun b hb=>?_) (fun b o _ _ hc e _=>k b o (fun z=>hc (by simp [z])) e) (fun b o _ _ hc e _=>⟨o.slots,k b o (fun z=>hc (by simp [z])) e⟩) (fun _ _ _ _ n=>n)
  (fun b o hc e=>⟨o,k b o (fun z=>hc (by simp [z])) e⟩) (fun _ _ e=>e) (fun _ _ _ e=>e) (fun b ps e=>⟨#[],by rw [e]; simp⟩) (fun m hm=>?_) (fun b u e=>?_) I.bare
 ·have e:b=it:=by simpa using hb
  subst e
  exact ⟨h1,hL,h2,h3⟩
 ·obtain ⟨o,es,ep,ho,r⟩:=hm
  exact ⟨o,es,ep,k _ o (Ne.symm hL) ho,r⟩
 ·refine (I.hok b u e).stay (fun c v hc q=>k c v ?_ q) (fun _ q=>q) fun _ _ q=>q
  rcases hc with z | z
  ·rw [z]; exact nit b u e
  ·exact nit c _ z
theorem Inv.tok (I:Inv X pins σ H s) (t:Nat):Inv X pins σ H { s with toks:=t }:=I.un (h':=s.heap) (t':=t) Un.refl I.hok
theorem Inv.kept {t':Nat} (I:Inv X pins σ H s) (k:∀ b u,s.heap.get? b=some u->h'.get? b=some u):Inv X pins σ H { s with heap:=h',toks:=t' }:=I.un (Un.kept k) (I.hok.kept k)
theorem Inv.laid {a:Addr} {o:HO} {t':Nat} (I:Inv X pins σ H s) (k:∀ b u,s.heap.get? b=some u->h'.get? b=some u) (hp:s.heap.objs.size<=a) (new:CQ X.prog X.w (upd H a o) h' a o) :
  Inv X pins σ (upd H a o) { s with heap:=h',toks:=t' }:=I.un (Un.laid k hp (I.hok.fresh hp)) (I.hok.laid k hp new)
theorem Inv.write {x e:Addr} {o:HO} {t':Nat} (I:Inv X pins σ H s) (mu:XJ (H x)) (he:e=x \/ H e=some (.own x)) (k:∀ b u,b ≠ e->s.heap.get? b=some u->h'.get? b=some u) (heo:∃ u,h'.get? e=some u)
  (new:CQ X.prog X.w (upd H x o) h' x o):Inv X pins σ (upd H x o) { s with heap:=h',toks:=t' }:=I.un (Un.write mu he k heo) (I.hok.write mu he k heo new)
theorem Inv.Mw {pins':List (Addr × Obj)} (I:Inv X pins σ H s) (h:∀ p∈pins',s.heap.get? p.1=some p.2/\H p.1=none/\p.1 ≠ X.env.locals/\p.1 ∉ X.fs/\∀ v,p.2.data ≠ .cell v):Inv X pins' σ H s :=
 ⟨I.ok,I.os,I.bare,I.base,I.loc,I.cell,I.free,I.freeC,fun p hp=>(List.mem_append.mp hp).elim (fun z=>I.pin p (List.mem_append_left _ z)) (h p),I.hok,I.len⟩
theorem K4 {N:List Str} (hN:N.Nodup) {i j:Nat} {x:Str} (a:N[i]? = some x) (b:N[j]? = some x):i=j:=by
 obtain ⟨h1,e1⟩:=List.getElem?_eq_some_iff.mp a
 obtain ⟨h2,e2⟩:=List.getElem?_eq_some_iff.mp b
 exact (List.getElem_inj hN).mp (e1.trans e2.symm)
theorem Jh {M:Model} {A:Around} {E:Value->Shared->Prop} {i:Nat} {x:Str} {v:V} {u:Value} {Q:Unit->Shared->Prop} (I:Inv X pins σ H s) (hN:X.N.Nodup) (hi:X.N[i]? = some x) (hx:Loc X.env.scope x) (r:RelV v u)
  (h:∀ s',Inv X pins (σ.set i (some v)) H s'->(∃ a,Heap.SameBut a s.heap s'.heap/\(a=X.env.locals \/ X.env.cells.lookup x=some a))->Q () s') (hf:X.fn x=true \/ X.env.scope.names.lookup x=some .local:=by first | exact .inl rfl | exact .inr rfl | assumption):wpAny M A (storeName X.env x u) Q E s:=by
 obtain ⟨m,hn,hl⟩:=id I.loc
 have hcls:(X.env.scope.kind == .class || (X.env.scope.kind == .module && X.env.locals != X.env.globals))=false:=by rw [I.ok.kind]; rfl
 have hiσ:i<σ.length:=by rw [I.len]; exact (List.getElem?_eq_some_iff.mp hi).1
 have Tz:=I.Tz
 have tracked:∀ {a:Addr} {h':Heap},(∃ o,s.heap.get? a=some o/\H a=none)->Heap.SameBut a s.heap h'->G9 X.prog X.w H h':=fun {a h'} ha hs b ob e=>by
  obtain ⟨_,_,hfree⟩:=ha
  refine (I.hok b ob e).stay (fun c w' hc q=>(hs.2 c ?_).trans q) (fun _ q=>q) fun _ _ q=>q
  rintro rfl
  rcases hc with rfl | hc
  ·rw [hfree] at e; cases e
  ·rw [hfree] at hc; cases hc
 rcases hx with hk | hk
 ·refine wpAny_storeName_local hk hn (fun h' hn' hs=>?_) hcls
  obtain ⟨oL,_,_,hoL,_⟩:=id hn
  refine h _ ⟨I.ok,I.os,I.bare,⟨fun b o e n hb hx=>?_,fun b o e n hb hx=>?_,I.base.free,fun b o e hx=>?_,I.base.tups,I.base.frzs,I.base.tbls⟩,⟨_,hn',fun j y v' e1 e2 e3=>?_⟩,fun y c e=>?_,I.free,I.freeC,fun p hp=>?_,tracked ⟨oL,hoL,I.free⟩ hs,by simpa using I.len⟩ ⟨_,hs,.inl rfl⟩
  ·exact (hs.2 b (Nat.ne_of_lt (Nat.lt_of_lt_of_le (Heap.lt_size e) I.ok.above))).trans (I.base.keep b o e n hb hx)
  ·obtain ⟨sl,e1⟩:=I.base.slot b o e n hb hx
   exact ⟨sl,(hs.2 b (Nat.ne_of_lt (Nat.lt_of_lt_of_le (Heap.lt_size e) I.ok.above))).trans e1⟩
  ·obtain ⟨o',e1⟩:=I.base.there b o e hx
   exact ⟨o',(hs.2 b (Nat.ne_of_lt (Nat.lt_of_lt_of_le (Heap.lt_size e) I.ok.above))).trans e1⟩
  ·by_cases hj:j=i
   ·subst hj
    rw [hi] at e1; cases e1
    rw [List.getElem?_set_self hiσ] at e2
    cases e2
    exact ⟨u,r,.inl ⟨hk,by simp⟩⟩
   ·rw [List.getElem?_set_ne (Ne.symm hj)] at e2
    obtain ⟨u',r',q⟩:=hl j y v' e1 e2 e3
    refine ⟨u',r',?_⟩
    rcases q with ⟨k,e⟩ | ⟨k,c,e,z⟩
    ·refine .inl ⟨k,?_⟩
     have:y ≠ x:=fun e=>hj (K4 hN e1 (e ▸ hi))
     simp [this,e]
    ·exact .inr ⟨k,c,e,z.sameBut hs (Tz y c e)⟩
  ·obtain ⟨w',z⟩:=I.cell y c e
   exact ⟨w',z.sameBut hs (Tz y c e)⟩
  ·obtain ⟨e,n,ne,nf,d⟩:=I.pin p hp
   exact ⟨(hs.2 p.1 ne).trans e,n,ne,nf,d⟩
 ·have hfn:X.fn x=true:=by
   rcases hf with z | z
   ·exact z
   ·rw [z] at hk; cases hk
  obtain ⟨c,hc⟩:=I.ok.has x (.inl hk)
  obtain ⟨w',z⟩:=I.cell x c hc
  refine wpAny_storeName_cell I.ok.kind hk hc z (fun h' hc' hs=>?_)
  obtain ⟨oc,hoc,hocd⟩:=id z
  refine h { s with heap:=h' } ⟨I.ok,I.os,I.bare,⟨fun b o e n hb hx=>?_,fun b o e n hb hx=>?_,I.base.free,fun b o e hx=>?_,I.base.tups,I.base.frzs,I.base.tbls⟩,⟨m,hn.sameBut hs (Ne.symm (Tz x c hc)),fun j y v' e1 e2 e3=>?_⟩,fun y c' e=>?_,I.free,I.freeC,fun p hp=>?_,tracked ⟨oc,hoc,I.freeC x c hc⟩ hs,by simpa using I.len⟩ ⟨c,hs,.inr hc⟩
  ·exact (hs.2 b (Nat.ne_of_lt (Nat.lt_of_lt_of_le (Heap.lt_size e) (I.ok.cab x c hfn hc)))).trans (I.base.keep b o e n hb hx)
  ·obtain ⟨sl,e1⟩:=I.base.slot b o e n hb hx
   exact ⟨sl,(hs.2 b (Nat.ne_of_lt (Nat.lt_of_lt_of_le (Heap.lt_size e) (I.ok.cab x c hfn hc)))).trans e1⟩
  ·obtain ⟨o',e1⟩:=I.base.there b o e hx
   exact ⟨o',(hs.2 b (Nat.ne_of_lt (Nat.lt_of_lt_of_le (Heap.lt_size e) (I.ok.cab x c hfn hc)))).trans e1⟩
  ·by_cases hj:j=i
   ·subst hj
    rw [hi] at e1; cases e1
    rw [List.getElem?_set_self hiσ] at e2
    cases e2
    exact ⟨u,r,.inr ⟨.inl hk,c,hc,hc'⟩⟩
   ·rw [List.getElem?_set_ne (Ne.symm hj)] at e2
    obtain ⟨u',r',q⟩:=hl j y v' e1 e2 e3
    refine ⟨u',r',?_⟩
    rcases q with q | ⟨k,c',e,z'⟩
    ·exact .inl q
    ·refine .inr ⟨k,c',e,z'.sameBut hs ?_⟩
     rintro rfl
     exact hj (K4 hN e1 (I.ok.inj _ _ _ e hc ▸ hi))
  ·by_cases hcc:c'=c
   ·subst hcc; exact ⟨_,hc'⟩
   ·obtain ⟨w2,z2⟩:=I.cell y c' e
    exact ⟨w2,z2.sameBut hs hcc⟩
  ·obtain ⟨e,n,ne,nf,d⟩:=I.pin p hp
   refine ⟨(hs.2 p.1 ?_).trans e,n,ne,nf,d⟩
   intro q
   rw [q,hoc] at e
   have q':oc=p.2:=Option.some.inj e
   exact d w' (by rw [← q']; exact hocd)
theorem Iu {M:Model} {A:Around} {E:Value->Shared->Prop} {i:Nat} {x:Str} {v:V} {u:Value} {Q:Unit->Shared->Prop} (I:Inv X pins σ H s) (hN:X.N.Nodup) (hi:X.N[i]? = some x) (hx:Loc X.env.scope x) (r:RelV v u)
  (h:∀ s',Inv X pins (σ.set i (some v)) H s'->Q () s') (hf:X.fn x=true \/ X.env.scope.names.lookup x=some .local:=by first | exact .inl rfl | exact .inr rfl | assumption):wpAny M A (storeName X.env x u) Q E s :=
 Jh I hN hi hx r (fun s' I' _=>h s' I') hf
theorem Inv.call' {s':Shared} {ch:List Addr} (I:Inv X pins σ H s) (ho:s'.os=s.os) (u:Un (frs X.stack) ch H H' s.heap s'.heap) (hok:G9 X.prog X.w H' s'.heap) (hg:AllBare s'.gens)
  (hch:∀ b∈ch,(b∈X.ex \/ X.s₀.heap.objs.size<=b)/\b ≠ X.env.locals/\(∀ x c,X.env.cells.lookup x=some c->c ≠ b)/\∀ p∈X.pn++pins,p.1 ≠ b):Inv X pins σ H' s':=by
 obtain ⟨h',g',d',t',o'⟩:=s'
 have e:o'=s.os:=ho
 subst e
 exact I.call (g':=g') (t':=t') (d':=d') u hok hg hch
end
noncomputable abbrev XK:=Value->Option Addr->Hp->Prop
noncomputable abbrev St:=List (Option V)
noncomputable abbrev VK:=V->Hp->Prop
noncomputable abbrev TE:=St->Hp->VK->Prop
noncomputable abbrev TT:=St->Hp->(Bool->Hp->Prop)->Prop
noncomputable abbrev TA:=St->Hp->(List V->Hp->Prop)->Prop
structure Ends where
 nx:St->Hp->Prop
 rt:VK
 bk:St->Hp->Prop:=fun _ _=>False
 ct:St->Hp->Prop:=fun _ _=>False
noncomputable abbrev TS:=Ends->St->Hp->Prop
noncomputable def EP (X:Cx) (pins:List (Addr × Obj)) (σ:St) (Q:VK) (u:Value) (s':Shared):Prop:=∃ v H',Inv X pins σ H' s'/\RelV v u/\Q v H'
noncomputable def TP (X:Cx) (pins:List (Addr × Obj)) (σ:St) (Q:Bool->Hp->Prop) (b:Bool) (s':Shared):Prop:=∃ H',Inv X pins σ H' s'/\Q b H'
noncomputable def AP (X:Cx) (pins:List (Addr × Obj)) (σ:St) (Q:List V->Hp->Prop) (us:List Value) (s':Shared):Prop:=∃ vs H',Inv X pins σ H' s'/\Vals vs us/\Q vs H'
noncomputable def SP (X:Cx) (pins:List (Addr × Obj)) (D:Ends) (f:Flow) (s':Shared):Prop :=
 match f with
 | .next=>∃ σ' H',Inv X pins σ' H' s'/\D.nx σ' H'
 | .brk=>∃ σ' H',Inv X pins σ' H' s'/\D.bk σ' H'
 | .cont=>∃ σ' H',Inv X pins σ' H' s'/\D.ct σ' H'
 | .ret u=>∃ v σ' H',Inv X pins σ' H' s'/\RelV v u/\D.rt v H'
noncomputable def PE (X:Cx) (e:Expr) (t:TE):Prop :=
 ∀ (pins:List (Addr × Obj)) (s:Shared) (σ:St) (H:Hp) (Q:VK),Inv X pins σ H s->t σ H Q->wpAny (model X.prog X.w) X.A (eval e X.env) (EP X pins σ Q) X.xe s
noncomputable def PT (X:Cx) (e:Expr) (t:TT):Prop :=
 ∀ (pins:List (Addr × Obj)) (s:Shared) (σ:St) (H:Hp) (Q:Bool->Hp->Prop),Inv X pins σ H s->t σ H Q->wpAny (model X.prog X.w) X.A (isTrue e X.env (eval e X.env)) (TP X pins σ Q) X.xe s
noncomputable def PW (X:Cx) (e:Expr) (t:TT):Prop :=
 ∀ (whole:Sem Value) (pins:List (Addr × Obj)) (s:Shared) (σ:St) (H:Hp) (Q:Bool->Hp->Prop),Inv X pins σ H s->t σ H Q->wpAny (model X.prog X.w) X.A (isTrue e X.env whole) (TP X pins σ Q) X.xe s
theorem PW.pt {X:Cx} {e:Expr} {t:TT} (h:PW X e t):PT X e t:=h _
noncomputable def PA (X:Cx) (es:List Expr) (t:TA):Prop :=
 ∀ (pos:Pos) (pins:List (Addr × Obj)) (s:Shared) (σ:St) (H:Hp) (Q:List V->Hp->Prop),Inv X pins σ H s->t σ H Q->wpAny (model X.prog X.w) X.A (spliced (backTo pos (starEach es X.env))) (AP X pins σ Q) X.xe s
noncomputable def PS (X:Cx) (st:Stmt) (t:TS):Prop :=
 ∀ (pins:List (Addr × Obj)) (s:Shared) (σ:St) (H:Hp) (D:Ends),Inv X pins σ H s->t D σ H->wpAny (model X.prog X.w) X.A (exec st X.env) (SP X pins D) X.xe s
noncomputable def O6 (X:Cx) (st:List Stmt) (t:TS):Prop :=
 ∀ (pins:List (Addr × Obj)) (s:Shared) (σ:St) (H:Hp) (D:Ends),Inv X pins σ H s->t D σ H->wpAny (model X.prog X.w) X.A (execs st X.env) (SP X pins D) X.xe s
theorem CP {α:Type} {t:Sem α} {Q Q':α->Shared->Prop} {M:Model} {A:Around} {E:Value->Shared->Prop} {s:Shared} (h:wpAny M A t Q E s) (hQ:∀ a s,Q a s->Q' a s):wpAny M A t Q' E s:=wpAny_mono h hQ fun _ _ x=>x
end L2
namespace L2
open PySem PySem.Spec PyProof.Rows
section
variable {X:Cx}
noncomputable def Wq (i:Nat):TE:=fun σ H Q=>∃ v,σ[i]? = some (some v)/\Q v H
noncomputable def tC (v:V):TE:=fun _ H Q=>Q v H
theorem VM {i:Nat} {x:Str} {pos:Pos} (hN:X.N[i]? = some x) (hv:Zy X.env.scope x) (hd:(x == ("__debug__" : Str))=false:=by decide) (hcd:(x == ("__classdict__" : Str))=false:=by decide):PE X (.Name x pos) (Wq i):=by
 intro pins s σ H Q I h
 obtain ⟨v,e,h⟩:=h
 obtain ⟨m,hn,hl⟩:=I.loc
 obtain ⟨u,r,l⟩:=hl i x v hN e hv
 have fin:EP X pins σ Q u s:=⟨v,H,I,r,h⟩
 rcases l with ⟨hk,hm⟩ | ⟨hk,c,hc,hcell⟩
 ·exact wpAny_Name (wpAny_loadName_local I.ok.kind hk hn hm fin) hd
 ·rcases hk with hk | hk
  ·exact wpAny_Name (wpAny_loadName_cell I.ok.kind hk hc hcell fin) hd
  ·exact wpAny_Name (wpAny_loadName_free I.ok.kind hk hc hcell fin hcd) hd
theorem Ad {i j pos}:PE X (.Constant (.int i) j pos) (tC (.int i)):=fun _ _ _ H _ I h=>wpAny_Constant_int ⟨.int i,H,I.tok _,⟨_,rfl⟩,h⟩
theorem Ej {b j pos}:PE X (.Constant (.bool b) j pos) (tC (.bl b)):=fun _ _ _ H _ I h=>Constant_bool ⟨.bl b,H,I,rfl,h⟩
theorem El {j pos}:PE X (.Constant .none j pos) (tC .non):=fun _ _ _ H _ I h=>Constant_none ⟨.non,H,I,rfl,h⟩
theorem Ao {x j pos}:PE X (.Constant (.str x) j pos) (tC (.str x)):=fun _ _ _ H _ I h=>Calls.Constant_str ⟨.str x,H,I.tok _,⟨_,rfl⟩,h⟩
noncomputable def Gl (X:Cx) (x:Str):Prop:=X.env.kindOf x=some .globalImplicit
theorem Jw {E:Value->Shared->Prop} {pins:List (Addr × Obj)} {s:Shared} {σ:St} {H:Hp} {x:Str} {u:Value} {pos:Pos} {Q:Value->Shared->Prop} (I:Inv X pins σ H s) (hg:Gl X x) (hm:X.mg x=some u) (h:Q u s)
  (hd:(x == ("__debug__" : Str))=false:=by decide):wpAny (model X.prog X.w) X.A (eval (.Name x pos) X.env) Q E s :=
 Calls.Name_function_global I.ok.kind hg (Calls.loadGlobal_global (by rw [I.ok.glob]; exact I.mod.glob.keeps I.bk) hm h) hd
theorem G4 {E:Value->Shared->Prop} {pins:List (Addr × Obj)} {s:Shared} {σ:St} {H:Hp} {x:Str} {u:Value} {pos:Pos} {Q:Value->Shared->Prop} (I:Inv X pins σ H s) (hg:Gl X x) (hm:X.mg x=none) (hv:bootBuiltins x=some u) (h:Q u s)
  (hn:x ≠ "__name__":=by decide) (hd:(x == ("__debug__" : Str))=false:=by decide):wpAny (model X.prog X.w) X.A (eval (.Name x pos) X.env) Q E s:=by
 obtain ⟨mb,h1,h2⟩:=I.mod.blt
 exact Calls.Name_function_global I.ok.kind hg (Calls.loadGlobal_builtin (by rw [I.ok.glob]; exact I.mod.glob.keeps I.bk) hm (by rw [I.ok.blt]; exact h1.keeps I.bk) ((h2 x hn).trans hv) h) hd
theorem Cj {x:Str} {v:V} {u:Value} {pos:Pos} (hg:Gl X x) (hm:X.mg x=some u) (r:RelV v u) (hd:(x == ("__debug__" : Str))=false:=by decide):PE X (.Name x pos) (tC v) :=
 fun _ _ _ H _ I h=>Jw I hg hm ⟨v,H,I,r,h⟩ hd
theorem Dk {x:Str} {v:V} {u:Value} {pos:Pos} (hg:Gl X x) (hm:X.mg x=none) (hv:bootBuiltins x=some u) (r:RelV v u) (hn:x ≠ "__name__":=by decide) (hd:(x == ("__debug__" : Str))=false:=by decide):PE X (.Name x pos) (tC v) :=
 fun _ _ _ H _ I h=>G4 I hg hm hv ⟨v,H,I,r,h⟩ hn hd
variable {a b:Expr} {ta tb:TE} {pos:Pos}
noncomputable def PC (X:Cx) (op:CmpOp) (a b:Expr) (t:TE):Prop :=
 ∀ (pins:List (Addr × Obj)) (s:Shared) (σ:St) (H:Hp) (Q:VK),Inv X pins σ H s->t σ H Q ->
  wpAny (model X.prog X.w) X.A (eval a X.env) (fun v s₁=>wpAny (model X.prog X.w) X.A (eval b X.env) (fun u s₂=>wpAny (model X.prog X.w) X.A (compareOp op v u) (EP X pins σ Q) X.xe s₂) X.xe s₁) X.xe s
noncomputable def tB (t:TE):TT:=fun σ H Q=>t σ H fun x H1=>∃ c,x=.bl c/\Q c H1
theorem PN {op:CmpOp} {t:TE} (h:PC X op a b t) (h1:behindInMarks op b=false:=by first | exact nobehind _ (by decide) (by decide) | rfl):PE X (.Compare a [op] [b] pos) t:=fun pins s σ H Q I hw=>wpAny_Compare1 (h pins s σ H Q I hw) h1
theorem Ux {op:CmpOp} {t:TE} (h:PC X op a b t) (h1:behindInMarks op b=false:=by first | exact nobehind _ (by decide) (by decide) | rfl):PT X (.Compare a [op] [b] pos) (tB t):=by
 intro pins s σ H Q I hw
 refine wpAny_isTrue_Compare1 (CP (h pins s σ H _ I hw) fun v s1 h1=>CP h1 fun u s2 h2=>CP h2 fun c s3 ⟨x,H1,I1,r1,q1⟩=>?_) h1
 obtain ⟨d,rfl,q⟩:=q1
 cases r1
 exact wpAny_truthy_bool ⟨H1,I1,q⟩
theorem Cp {e:Expr} {t:TE} (h:PE X e t) (he:∀ whole,isTrue e X.env whole=(do let v ← whole; standAt e.pos; holding [v] (truthy v)):=by intro _; rfl):PT X e (tB t):=by
 intro pins s σ H Q I hw
 refine isTrue_plain (CP (h pins s σ H _ I hw) fun v s1 ⟨x,H1,I1,r1,q1⟩=>?_) (he _)
 obtain ⟨d,rfl,q⟩:=q1
 cases r1
 exact wpAny_truthy_bool ⟨H1,I1,q⟩
variable {tA tB':TT} {rest:List Expr}
noncomputable def bC (t u:TT):TT:=fun σ H Q=>t σ H fun c H1=>if c=true then u σ H1 Q else Q false H1
noncomputable def cX (t u:TT):TT:=fun σ H Q=>t σ H fun c H1=>if c=true then Q true H1 else u σ H1 Q
noncomputable def aU (t:TT):TT:=fun σ H Q=>t σ H fun c H1=>Q (!c) H1
theorem Gf (ha:PT X a tA):PW X (.BoolOp .And [a] pos) tA:=by
 intro wh pins s σ H Q I h
 refine isTrue_and (CP (ha pins s σ H Q I h) fun c s1 e=>?_)
 cases c with
 | true=>exact isTrue_and_nil e
 | false=>exact e
theorem G8 (ha:PT X a tA):PW X (.BoolOp .Or [a] pos) tA:=by
 intro wh pins s σ H Q I h
 refine isTrue_or (CP (ha pins s σ H Q I h) fun c s1 e=>?_)
 cases c with
 | false=>exact isTrue_or_nil e
 | true=>exact e
theorem GQ (ha:PT X a tA) (hb:PW X (.BoolOp .And (b::rest) pos) tB'):PW X (.BoolOp .And (a::b::rest) pos) (bC tA tB'):=by
 intro wh pins s σ H Q I h
 refine isTrue_and (CP (ha pins s σ H _ I h) fun c s1 hq0=>?_)
 obtain ⟨H1,I1,q1⟩:=hq0
 cases c with
 | true=>exact hb wh pins s1 σ H1 Q I1 q1
 | false=>exact ⟨H1,I1,q1⟩
theorem Gq (ha:PT X a tA) (hb:PW X (.BoolOp .Or (b::rest) pos) tB'):PW X (.BoolOp .Or (a::b::rest) pos) (cX tA tB'):=by
 intro wh pins s σ H Q I h
 refine isTrue_or (CP (ha pins s σ H _ I h) fun c s1 hq0=>?_)
 obtain ⟨H1,I1,q1⟩:=hq0
 cases c with
 | true=>exact ⟨H1,I1,q1⟩
 | false=>exact hb wh pins s1 σ H1 Q I1 q1
theorem Cw (ha:PT X a tA):PT X (.UnaryOp .Not a pos) (aU tA):=by
 intro pins s σ H Q I h
 exact isTrue_not (ha pins s σ H (fun c H1=>Q (!c) H1) I h)
noncomputable def Xd (ta tb:TE):TE:=fun σ H Q=>ta σ H fun x H1=>∃ c,x=.bl c/\if c=true then tb σ H1 Q else Q (.bl false) H1
noncomputable def aa (ta tb:TE):TE:=fun σ H Q=>ta σ H fun x H1=>∃ c,x=.bl c/\if c=true then Q (.bl true) H1 else tb σ H1 Q
noncomputable def W3 (ta:TE):TE:=fun σ H Q=>ta σ H fun x H1=>∃ c,x=.bl c/\Q (.bl (!c)) H1
theorem Cq {op} {t:TE} (h:PE X a t):PE X (.BoolOp op [a] pos) t:=fun pins s σ H Q I hw=>BoolOp_one (h pins s σ H Q I hw)
theorem Ck (ha:PE X a ta) (hb:PE X (.BoolOp .And (b::rest) pos) tb):PE X (.BoolOp .And (a::b::rest) pos) (Xd ta tb):=by
 intro pins s σ H Q I h
 refine BoolOp_and (CP (ha pins s σ H _ I h) fun v s1 hq0=>?_)
 obtain ⟨x,H1,I1,r1,q1⟩:=hq0
 obtain ⟨c,rfl,q1⟩:=q1
 cases r1
 refine wpAny_truthy_bool ?_
 cases c with
 | true=>exact hb pins s1 σ H1 Q I1 q1
 | false=>exact ⟨.bl false,H1,I1,rfl,q1⟩
theorem Xq (ha:PE X a ta) (hb:PE X (.BoolOp .Or (b::rest) pos) tb):PE X (.BoolOp .Or (a::b::rest) pos) (aa ta tb):=by
 intro pins s σ H Q I h
 refine BoolOp_or (CP (ha pins s σ H _ I h) fun v s1 hq0=>?_)
 obtain ⟨x,H1,I1,r1,q1⟩:=hq0
 obtain ⟨c,rfl,q1⟩:=q1
 cases r1
 refine wpAny_truthy_bool ?_
 cases c with
 | false=>exact hb pins s1 σ H1 Q I1 q1
 | true=>exact ⟨.bl true,H1,I1,rfl,q1⟩
theorem Mp (ha:PE X a ta):PE X (.UnaryOp .Not a pos) (W3 ta):=by
 intro pins s σ H Q I h
 refine UnaryOp_ (CP (ha pins s σ H _ I h) fun v s1 hq0=>?_)
 obtain ⟨x,H1,I1,r1,q1⟩:=hq0
 obtain ⟨c,rfl,q1⟩:=q1
 cases r1
 exact not_of (wpAny_truthy_bool ⟨.bl (!c),H1,I1,rfl,q1⟩)
noncomputable def dh (t:TT) (ta tb:TE):TE:=fun σ H Q=>t σ H fun c H1=>if c=true then ta σ H1 Q else tb σ H1 Q
theorem KJ {c:Expr} (hc:PT X c tA) (ha:PE X a ta) (hb:PE X b tb):PE X (.IfExp c a b pos) (dh tA ta tb):=by
 intro pins s σ H Q I h
 refine wpAny_IfExp (CP (hc pins s σ H _ I h) fun d s1 hq0=>?_)
 obtain ⟨H1,I1,q1⟩:=hq0
 cases d with
 | true=>exact ha pins s1 σ H1 Q I1 q1
 | false=>exact hb pins s1 σ H1 Q I1 q1
end
end L2
namespace L2
open PySem PySem.Spec PyProof.Rows
noncomputable def Cm (K:PySem.W.Frag) (H:Hp) (a:Addr) (xs:List V):Prop :=
 Rd H a (.lst xs) \/
  ∃ (o:Obj) (its:Array Value) (n:Nat),K.lookup a=some o/\o.cls=.type "list" /\ o.dict=none/\o.data=.seq its n/\its.size<=sizeLine/\Vals xs its.toList
noncomputable def FW (K:PySem.W.Frag) (H:Hp) (a:Addr) (xs:List V):Prop :=
 Rd H a (.tup xs) \/
  ∃ (o:Obj) (its:Array Value) (n:Nat),K.lookup a=some o/\o.cls=.type "tuple" /\ o.data=.seq its n/\its.size<=sizeLine/\Vals xs its.toList
noncomputable def aJ:Value->Option V
 | .none=>some .non
 | .bool b=>some (.bl b)
 | .int i _=>some (.int i)
 | .str x _=>some (.str x)
 | .bytes b _=>some (.byt b)
 | .float b _=>some (.flt b)
 | .ref a=>some (.ref a)
 | .type n=>some (.ty n)
 | _=>none
theorem RelV.abs {x:V} {u:Value} (r:RelV x u):aJ u=some x:=by
 cases x with
 | non=>cases r; rfl
 | bl _=>cases r; rfl
 | int _=>obtain ⟨t,rfl⟩:=r; rfl
 | str _=>obtain ⟨t,rfl⟩:=r; rfl
 | byt _=>obtain ⟨t,rfl⟩:=r; rfl
 | flt _=>obtain ⟨t,rfl⟩:=r; rfl
 | ref _=>cases r; rfl
 | ty _=>cases r; rfl
theorem RelV.inj {x y:V} {u:Value} (r:RelV x u) (q:RelV y u):x=y:=Option.some.inj (r.abs.symm.trans q.abs)
theorem Vals.inj:∀ {xs ys:List V} {us:List Value},Vals xs us->Vals ys us->xs=ys
 | _,_,_,.nil,.nil=>rfl
 | _,_,_,.cons r t,.cons r' t'=>by rw [r.inj r',Vals.inj t t']
section
variable {X:Cx} {pins:List (Addr × Obj)} {σ:St} {H:Hp} {s:Shared} {a:Addr} {xs ys:List V}
theorem Inv.list (I:Inv X pins σ H s) (h:Cm X.K H a xs):∃ its:List Value,Vals xs its/\PlainL s.heap a its.toArray/\xs.length<=sizeLine:=by
 rcases h with h | ⟨o,its,n,hk,hc,hd,hs,hz,r⟩
 ·obtain ⟨z,its,n,r,e⟩:=h.ok I.hok
  exact ⟨its,r,⟨_,n,e,rfl,rfl,rfl⟩,z⟩
 ·refine ⟨its.toList,r,⟨o,n,I.Hf a o hk,hc,hd,by simpa using hs⟩,?_⟩
  have e:=r.length
  simp only [Array.length_toList] at e
  omega
theorem Inv.tuple (I:Inv X pins σ H s) (h:FW X.K H a xs):∃ its:List Value,Vals xs its/\IsTup s.heap a its.toArray/\xs.length<=sizeLine:=by
 rcases h with h | ⟨o,its,n,hk,hc,hs,hz,r⟩
 ·obtain ⟨z,its,r,p⟩:=h.ok I.hok
  exact ⟨its,r,p,z⟩
 ·refine ⟨its.toList,r,⟨o,I.Hf a o hk,hc,n,by simpa using hs⟩,?_⟩
  have e:=r.length
  simp only [Array.length_toList] at e
  omega
theorem Inv.Ka (I:Inv X pins σ H s) (h:Cm X.K H a xs) (h':Cm X.K H a ys):xs=ys:=by
 obtain ⟨its,r,⟨o,n,e,_,_,d⟩,_⟩:=I.list h
 obtain ⟨its',r',⟨o',n',e',_,_,d'⟩,_⟩:=I.list h'
 rw [e] at e'; cases e'
 rw [d] at d'
 injection d' with d1 _
 have:its=its':=by simpa using congrArg Array.toList d1
 subst this
 exact r.inj r'
theorem Inv.Hm (I:Inv X pins σ H s) (h:FW X.K H a xs) (h':FW X.K H a ys):xs=ys:=by
 obtain ⟨its,r,⟨o,e,_,n,d⟩,_⟩:=I.tuple h
 obtain ⟨its',r',⟨o',e',_,n',d'⟩,_⟩:=I.tuple h'
 rw [e] at e'; cases e'
 rw [d] at d'
 injection d' with d1 _
 have:its=its':=by simpa using congrArg Array.toList d1
 subst this
 exact r.inj r'
end
noncomputable abbrev Cx.wish (X:Cx) (E:Value->Shared->Prop):Cx:={ X with xe:=E }
noncomputable abbrev Cx.Zu (X:Cx):Cx:=X.wish fun _ _=>False
theorem Cx.Ok.wish {X:Cx} (ok:X.Ok) (E:Value->Shared->Prop):(X.wish E).Ok :=
 ⟨ok.mod,ok.kind,ok.glob,ok.blt,ok.above,ok.inj,ok.has,ok.cab,ok.hd,ok.frames,ok.stk,ok.exf,ok.bs,ok.bsz,ok.noex,ok.exfs,ok.Hv,ok.frf⟩
theorem Cx.Ok.GF {X:Cx} {E:Value->Shared->Prop} (ok:(X.wish E).Ok):X.Ok :=
 ⟨ok.mod,ok.kind,ok.glob,ok.blt,ok.above,ok.inj,ok.has,ok.cab,ok.hd,ok.frames,ok.stk,ok.exf,ok.bs,ok.bsz,ok.noex,ok.exfs,ok.Hv,ok.frf⟩
section
variable {X:Cx} {pins:List (Addr × Obj)} {σ:St} {H:Hp} {s:Shared} {E:Value->Shared->Prop}
theorem Inv.wish (I:Inv X pins σ H s) (E:Value->Shared->Prop):Inv (X.wish E) pins σ H s:=⟨I.ok.wish E,I.os,I.bare,I.base,I.loc,I.cell,I.free,I.freeC,I.pin,I.hok,I.len⟩
theorem Inv.GF (I:Inv (X.wish E) pins σ H s):Inv X pins σ H s:=⟨I.ok.GF,I.os,I.bare,I.base,I.loc,I.cell,I.free,I.freeC,I.pin,I.hok,I.len⟩
theorem SP.GF {D:Ends} {f:Flow} {s':Shared} (h:SP (X.wish E) pins D f s'):SP X pins D f s':=by
 cases f with
 | next=>obtain ⟨σ',H',I,q⟩:=h; exact ⟨σ',H',I.GF,q⟩
 | brk=>obtain ⟨σ',H',I,q⟩:=h; exact ⟨σ',H',I.GF,q⟩
 | cont=>obtain ⟨σ',H',I,q⟩:=h; exact ⟨σ',H',I.GF,q⟩
 | ret u=>obtain ⟨v,σ',H',I,r,q⟩:=h; exact ⟨v,σ',H',I.GF,r,q⟩
theorem O6.Zu {st:List Stmt} {t:TS} (h:O6 X.Zu st t):O6 X st t:=fun pins s σ H D I hw =>
 wpAny_mono (h pins s σ H D (I.wish _) hw) (fun _ _ q=>q.GF) fun _ _ z=>False.elim z
end
section
variable {X:Cx} {st:Stmt} {rest:List Stmt} {t u:TS} {e:Expr} {te:TE} {pos:Pos}
noncomputable def S7:TS:=fun D σ H=>D.nx σ H
noncomputable def ZQ (t u:TS):TS:=fun D σ H=>t { D with nx:=u D } σ H
theorem Bc:O6 X [] S7:=fun _ _ σ H _ I h=>wpAny_execs_nil ⟨σ,H,I,h⟩
theorem Ae (h1:PS X st t) (h2:O6 X rest u):O6 X (st::rest) (ZQ t u):=by
 intro pins s σ H D I h
 refine wpAny_execs_cons (CP (h1 pins s σ H { D with nx:=u D } I h) fun f s1 q=>?_)
 cases f with
 | next =>
  obtain ⟨σ',H',I',q⟩:=q
  exact h2 pins s1 σ' H' D I' q
 | ret v=>exact q
 | brk=>exact q
 | cont=>exact q
theorem Ag (h1:PS X st t):O6 X [st] t:=by
 intro pins s σ H D I h
 refine wpAny_execs_cons (CP (h1 pins s σ H D I h) fun f s1 q=>?_)
 cases f with
 | next=>exact wpAny_execs_nil q
 | ret v=>exact q
 | brk=>exact q
 | cont=>exact q
noncomputable def UJ:TS:=fun D σ H=>D.bk σ H
theorem Qv:PS X (.Break pos) UJ:=fun _ _ σ H _ I h=>wpAny_Break ⟨σ,H,I,h⟩
theorem Inv.quiet {pins:List (Addr × Obj)} {σ:St} {H:Hp} {s:Shared} (I:Inv X pins σ H s):interactive X.env=false:=by simp [interactive,I.ok.kind]
noncomputable def Wr (te:TE):TS:=fun D σ H=>te σ H fun _ H1=>D.nx σ H1
theorem Ci (he:PE X e te) (hs:swapsWith e none pos.line X.env=pure false:=by rfl):PS X (.Expr e pos) (Wr te):=by
 intro pins s σ H D I h
 exact wpAny_Expr_any (CP (he pins s σ H _ I h) fun v s1 ⟨x,H1,I1,r1,q1⟩=>⟨σ,H1,I1,q1⟩) I.quiet hs
noncomputable def aW (te:TE):TS:=fun D σ H=>te σ H D.rt
theorem Ay (he:PE X e te):PS X (.Return (some e) pos) (aW te):=by
 intro pins s σ H D I h
 exact wpAny_Return_some (CP (he pins s σ H _ I h) fun v s1 ⟨x,H1,I1,r1,q1⟩=>⟨x,σ,H1,I1,r1,q1⟩)
noncomputable def Xm (c:TT) (t u:TS):TS:=fun D σ H=>c σ H fun b H1=>if b=true then t D σ H1 else u D σ H1
theorem Bq {c:Expr} {a b:List Stmt} {tc:TT} (hc:PT X c tc) (ha:O6 X a t) (hb:O6 X b u):PS X (.If c a b pos) (Xm tc t u):=by
 intro pins s σ H D I h
 refine wpAny_If (CP (hc pins s σ H _ I h) fun d s1 hq0=>?_)
 obtain ⟨H1,I1,q1⟩:=hq0
 cases d with
 | true=>exact ha pins s1 σ H1 D I1 q1
 | false=>exact hb pins s1 σ H1 D I1 q1
noncomputable def Uh:TS:=fun _ _ _=>False
theorem HJ:PS X st Uh:=fun _ _ _ _ _ _ h=>h.elim
end
noncomputable abbrev TG:=V->St->Hp->(St->Hp->Prop)->Prop
noncomputable abbrev Ut:=List V->St->Hp->(St->Hp->Prop)->Prop
noncomputable def PG (X:Cx) (target:Expr) (t:TG):Prop :=
 ∀ (pins:List (Addr × Obj)) (s:Shared) (σ:St) (H:Hp) (v:V) (u:Value) (Q:St->Hp->Prop),Inv X pins σ H s->RelV v u->t v σ H Q ->
  wpAny (model X.prog X.w) X.A (assign target X.env u) (fun _ s'=>∃ σ' H',Inv X pins σ' H' s'/\Q σ' H') X.xe s
noncomputable def Zv (X:Cx) (ts:List Expr) (t:Ut):Prop :=
 ∀ (pins:List (Addr × Obj)) (s:Shared) (σ:St) (H:Hp) (vs:List V) (us:List Value) (Q:St->Hp->Prop),Inv X pins σ H s->Vals vs us->t vs σ H Q ->
  wpAny (model X.prog X.w) X.A (assignInOrder ((assignEach ts X.env).map (·.2)) us) (fun _ s'=>∃ σ' H',Inv X pins σ' H' s'/\Q σ' H') X.xe s
section
variable {X:Cx} {pos:Pos}
noncomputable def DR (i:Nat):TG:=fun v σ H Q=>Q (σ.set i (some v)) H
theorem CK {i:Nat} {x:Str} (hN:X.N.Nodup) (hi:X.N[i]? = some x) (hx:Loc X.env.scope x) (hf:X.fn x=true \/ X.env.scope.names.lookup x=some .local:=by first | exact .inl rfl | exact .inr rfl | assumption):PG X (.Name x pos) (DR i):=by
 intro pins s σ H v u Q I r h
 exact wpAny_assign_Name (Iu I hN hi hx r (fun s' I'=>⟨_,H,I',h⟩) hf)
noncomputable def RK:Ut:=fun vs σ H Q=>vs=[]/\Q σ H
noncomputable def Iw (t:TG) (u:Ut):Ut:=fun vs σ H Q=>∃ v r,vs=v::r/\t v σ H fun σ' H'=>u r σ' H' Q
theorem Ia:Zv X [] RK:=by
 intro pins s σ H vs us Q I r h
 obtain ⟨e,h⟩:=h
 subst e
 cases r
 exact assignInOrder_nil ⟨σ,H,I,h⟩
theorem Ec {e:Expr} {es:List Expr} {t:TG} {u:Ut} (h1:PG X e t) (h2:Zv X es u)
  (hs:(assignEach (e::es) X.env).map (·.2)=assign e X.env::(assignEach es X.env).map (·.2):=by rfl):Zv X (e::es) (Iw t u):=by
 intro pins s σ H vs us Q I r h
 obtain ⟨v,vr,e1,h⟩:=h
 subst e1
 cases r with
 | cons r rr =>
  rw [hs]
  refine assignInOrder_cons (CP (h1 pins s σ H _ _ _ I r h) fun _ s1 hq0=>?_)
  obtain ⟨σ1,H1,I1,q1⟩:=hq0
  exact h2 pins s1 σ1 H1 _ _ Q I1 rr q1
noncomputable def RQ (K:PySem.W.Frag) (n:Nat) (t:Ut):TG:=fun v σ H Q=>∃ a xs,v=.ref a/\FW K H a xs/\xs.length=n/\t xs σ H Q
theorem J7 {es:List Expr} {k:Nat} {t:Ut} {n:Nat} (hc:X.calm=true) (h:Zv X es t)
  (hn:(assignEach es X.env).length=n:=by rfl) (hst:(assignEach es X.env).findIdx? (·.1)=none:=by rfl):PG X (.Tuple es k pos) (RQ X.K n t):=by
 intro pins s σ H v u Q I r hw
 obtain ⟨a,xs,e1,hq,hl,hw⟩:=hw
 subst e1
 cases r
 obtain ⟨its,rv,ht,hz⟩:=I.tuple hq
 refine assign_Tuple_tuple (I.ok.hd hc) ht (by simp [hn,← hl,rv.length]) hst fun h' hx=>?_
 have I1:Inv X pins σ H { s with heap:=h' }:=I.kept (t':=s.toks) fun b o e=>hx b o (Nat.ne_of_lt (Heap.lt_size e)) e
 exact h pins _ σ H xs _ Q I1 (by simpa using rv) hw
noncomputable def VH (te:TE) (g:TG):TS:=fun D σ H=>te σ H fun x H1=>g x σ H1 D.nx
theorem Ba {i:Nat} {x:Str} {e:Expr} {te:TE} {pos':Pos} (hN:X.N.Nodup) (hi:X.N[i]? = some x) (hx:Loc X.env.scope x) (he:PE X e te) (hs:swapsWith e (some (.Name x pos')) pos.line X.env=pure false:=by rfl) (hf:X.fn x=true \/ X.env.scope.names.lookup x=some .local:=by first | exact .inl rfl | exact .inr rfl | assumption) :
  PS X (.Assign [.Name x pos'] e pos) (VH te (DR i)):=by
 intro pins s σ H D I h
 refine wpAny_Assign_Name (CP (he pins s σ H _ I h) fun v s1 ⟨y,H1,I1,r1,q1⟩=>?_) hs
 exact Iu I1 hN hi hx r1 (fun s2 I2=>⟨_,H1,I2,q1⟩) hf
end
section
variable {X:Cx} {pos:Pos}
end
structure It where
 go:Nat->Hp->Prop
 yld:Nat->Hp->V->Hp->Prop
 stop:Nat->Hp->Prop
noncomputable def Fl (X:Cx) (pins:List (Addr × Obj)) (H:Hp) (b:Addr):Prop :=
 H b=none/\b ≠ X.env.locals/\b ∉ X.fs/\(b∈X.ex \/ X.s₀.heap.objs.size<=b)/\(∀ x c,X.env.cells.lookup x=some c->c ≠ b)/\∀ p∈X.pn++pins,p.1 ≠ b
theorem Inv.Jr {X:Cx} {pins:List (Addr × Obj)} {σ:St} {H H':Hp} {s:Shared} {b:Addr} (I:Inv X pins σ H s) (hb:s.heap.objs.size<=b) (hn:H' b=none):Fl X pins H' b:=by
 refine ⟨hn,Nat.ne_of_gt (Nat.lt_of_lt_of_le I.lt hb),I.bf hb,.inr (Nat.le_trans I.sz hb),fun x c e z=>?_,fun p hp z=>?_⟩
 ·obtain ⟨v,q⟩:=I.cell x c e
  exact absurd (Nat.lt_of_lt_of_le q.lt (by rw [z]; exact hb)) (Nat.lt_irrefl _)
 ·exact absurd (Nat.lt_of_lt_of_le (Heap.lt_size (I.pin p hp).1) (by rw [z]; exact hb)) (Nat.lt_irrefl _)
structure Turn (P:Program) (w:World) (K:PySem.W.Frag) (tg:Expr) (J:It) (fp:List Addr) (it:Addr) (tn:Nat->Heap->Prop):Prop where
 mem:it∈fp
 obj:∀ i h,tn i h->∀ b∈fp,∃ o,h.get? b=some o/\∀ v,o.data ≠ .cell v
 keep:∀ i h h',tn i h->(∀ b∈fp,∀ o,h.get? b=some o->h'.get? b=some o)->tn i h'
 item:∀ (X:Cx),X.prog=P->X.w=w->X.K=K->X.calm=true->∀ (i:Nat) (pins:List (Addr × Obj)) (s:Shared) (σ:St) (H:Hp) (E:Value->Shared->Prop),Inv X pins σ H s->(∀ b∈fp,Fl X pins H b)->tn i s.heap->J.go i H ->
  wpAny (model P w) X.A (pyNext (.ref it)) (fun r s1=>∃ u,r=some u /\
   wpAny (model P w) X.A (letOwnedTupleGo tg (.ref it) u) (fun _ s2=>∃ x H',Inv X pins σ H' s2/\RelV x u/\J.yld i H x H'/\tn (i+1) s2.heap/\∀ b∈fp,H' b=none) E s1) E s
 done:∀ (X:Cx),X.prog=P->X.w=w->X.K=K->X.calm=true->∀ (i:Nat) (pins:List (Addr × Obj)) (s:Shared) (σ:St) (H:Hp) (E:Value->Shared->Prop),Inv X pins σ H s->(∀ b∈fp,Fl X pins H b)->tn i s.heap->J.stop i H ->
  wpAny (model P w) X.A (pyNext (.ref it)) (fun r s1=>r=none/\Inv X pins σ H s1) E s
 self:∀ (A:Around) (i:Nat) (s:Shared) (Q:Value->Shared->Prop) (E:Value->Shared->Prop),tn i s.heap->Q (.ref it) s->wpAny (model P w) A (pyIter (.ref it)) Q E s
noncomputable abbrev TI:=St->Hp->(It->Hp->Prop)->Prop
noncomputable def PIE (X:Cx) (pins:List (Addr × Obj)) (σ:St) (tg:Expr) (R:It->Hp->Prop) (itv:Value) (s2:Shared):Prop :=
 ∃ (it:Addr) (fp:List Addr) (tn:Nat->Heap->Prop) (J:It) (H':Hp),itv=.ref it/\Inv X pins σ H' s2/\Turn X.prog X.w X.K tg J fp it tn/\tn 0 s2.heap/\(∀ b∈fp,Fl X pins H' b)/\R J H'
noncomputable def PI (X:Cx) (tg iter:Expr) (wi:TI):Prop :=
 ∀ (pins:List (Addr × Obj)) (s:Shared) (σ:St) (H:Hp) (R:It->Hp->Prop),Inv X pins σ H s->wi σ H R ->
  wpAny (model X.prog X.w) X.A (eval iter X.env) (fun v s1=>wpAny (model X.prog X.w) X.A (pyIter v) (PIE X pins σ tg R) X.xe s1) X.xe s
theorem Ku {M:Model} {A:Around} {E:Value->Shared->Prop} {s:Shared} {tg:Expr} {it:Addr} {u:Value} {o:Obj} {n:String} {vs:Array Value} {Q:Unit->Shared->Prop} (ho:s.heap.get? it=some o) (hc:o.cls=.type n) (hd:o.data=.fields vs)
  (hn:["enumerate","zip","dict_itemiterator","dict_reverseitemiterator","odict_iterator","itertools.zip_longest","itertools.pairwise"].contains n=false) (hQ:Q () s):wpAny M A (letOwnedTupleGo tg (.ref it) u) Q E s:=by
 unfold letOwnedTupleGo
 cases tg <;> first
  | exact wpAny_pure hQ
  | (cases u <;> first
    | exact wpAny_pure hQ
    | (refine wpAny_bind (wpAny_load ho ?_)
       rw [hc,hd]
       show wpAny M A (if (["enumerate","zip","dict_itemiterator","dict_reverseitemiterator","odict_iterator","itertools.zip_longest","itertools.pairwise"].contains n && vs[0]? == some (rawInt _))=true then _ else _) Q E s
       rw [if_neg (by intro h; rw [hn,Bool.false_and] at h; cases h)]
       exact wpAny_pure hQ))
noncomputable def Uv (K:PySem.W.Frag) (a:Addr):It :=
 ⟨fun i H=>∃ xs x,Cm K H a xs/\xs[i]? = some x,fun i H x H'=>H'=H/\∀ xs,Cm K H a xs->xs[i]? = some x,fun i H=>∃ xs,Cm K H a xs/\xs.length<=i⟩
noncomputable def bM (K:PySem.W.Frag) (a:Addr):It :=
 ⟨fun i H=>∃ xs x,FW K H a xs/\xs[i]? = some x,fun i H x H'=>H'=H/\∀ xs,FW K H a xs->xs[i]? = some x,fun i H=>∃ xs,FW K H a xs/\xs.length<=i⟩
noncomputable def SJ (lo:Int) (n:Nat):It:=⟨fun i _=>i<n,fun i H x H'=>H'=H/\x=.int (lo+i),fun i _=>n<=i⟩
theorem Nk {P:Program} {w:World} {K:PySem.W.Frag} {tg:Expr} (a it:Addr):Turn P w K tg (Uv K a) [it] it (fun i h=>h.IsListIter it a i) where
 mem:=by simp
 obj:=fun i h st b hb=>by
  have e:b=it:=by simpa using hb
  subst e
  obtain ⟨o,e,c,d⟩:=st
  exact ⟨o,e,fun v z=>by rw [d] at z; cases z⟩
 keep:=fun i h h' st k=>st.at fun o e=>k it (by simp) o e
 item:=by
  intro X hP hw hK hc i pins s σ H E I hf st hg
  subst hP hw hK
  obtain ⟨xs,x,hq,hx⟩:=hg
  obtain ⟨its,rv,p,hz⟩:=I.list hq
  obtain ⟨u,hu,ru⟩:=rv.get hx
  obtain ⟨f0,f1,f2,f3,f4,f5⟩:=hf it (by simp)
  refine wpAny_pyNext_list_item st p.isList (x:=u) (by simpa using hu) fun h' st' sb=>?_
  have I1:Inv X pins σ H { s with heap:=h' }:=I.turned (t':=s.toks) (fun b o hb e=>(sb.2 b hb).trans e) f0 f1 f3 f4 f5
  obtain ⟨o,e,c,d⟩:=id st'
  exact ⟨u,rfl,Ku (s:={ s with heap:=h' }) e c d (by decide) ⟨x,H,I1,ru,⟨rfl,fun ys hy=>by rw [I.Ka hy hq]; exact hx⟩,st',fun b hb=>(hf b hb).1⟩⟩
 done:=by
  intro X hP hw hK hc i pins s σ H E I hf st hg
  subst hP hw hK
  obtain ⟨xs,hq,hx⟩:=hg
  obtain ⟨its,rv,p,hz⟩:=I.list hq
  obtain ⟨f0,f1,f2,f3,f4,f5⟩:=hf it (by simp)
  have hl:=rv.length
  exact wpAny_pyNext_list_end (I.ok.hd hc) st p.isList (by simp; omega) fun h' eb=>⟨rfl,I.turned (t':=s.toks) (fun b o hb e=>eb b o hb e) f0 f1 f3 f4 f5⟩
 self:=fun _ _ _ _ _ st h=>wpAny_pyIter_listiter st h
theorem MT {P:Program} {w:World} {K:PySem.W.Frag} {tg:Expr} (a it:Addr):Turn P w K tg (bM K a) [it] it (fun i h=>h.IsTupleIter it a i) where
 mem:=by simp
 obj:=fun i h st b hb=>by
  have e:b=it:=by simpa using hb
  subst e
  obtain ⟨o,e,c,d⟩:=st
  exact ⟨o,e,fun v z=>by rw [d] at z; cases z⟩
 keep:=fun i h h' st k=>st.at fun o e=>k it (by simp) o e
 item:=by
  intro X hP hw hK hc i pins s σ H E I hf st hg
  subst hP hw hK
  obtain ⟨xs,x,hq,hx⟩:=hg
  obtain ⟨its,rv,p,hz⟩:=I.tuple hq
  obtain ⟨u,hu,ru⟩:=rv.get hx
  obtain ⟨f0,f1,f2,f3,f4,f5⟩:=hf it (by simp)
  refine wpAny_pyNext_tuple_item st (show s.heap.IsTuple a its.toArray from p) (x:=u) (by simpa using hu) fun h' st' sb=>?_
  have I1:Inv X pins σ H { s with heap:=h' }:=I.turned (t':=s.toks) (fun b o hb e=>(sb.2 b hb).trans e) f0 f1 f3 f4 f5
  obtain ⟨o,e,c,d⟩:=id st'
  exact ⟨u,rfl,Ku (s:={ s with heap:=h' }) e c d (by decide) ⟨x,H,I1,ru,⟨rfl,fun ys hy=>by rw [I.Hm hy hq]; exact hx⟩,st',fun b hb=>(hf b hb).1⟩⟩
 done:=by
  intro X hP hw hK hc i pins s σ H E I hf st hg
  subst hP hw hK
  obtain ⟨xs,hq,hx⟩:=hg
  obtain ⟨its,rv,p,hz⟩:=I.tuple hq
  obtain ⟨f0,f1,f2,f3,f4,f5⟩:=hf it (by simp)
  have hl:=rv.length
  exact wpAny_pyNext_tuple_end (I.ok.hd hc) st (show s.heap.IsTuple a its.toArray from p) (by simp; omega) fun h' eb=>⟨rfl,I.turned (t':=s.toks) (fun b o hb e=>eb b o hb e) f0 f1 f3 f4 f5⟩
 self:=fun _ _ _ _ _ st h=>wpAny_pyIter_tupleiter st h
theorem Mi {P:Program} {w:World} {K:PySem.W.Frag} {tg:Expr} (it:Addr) (lo:Int) (n:Nat):Turn P w K tg (SJ lo n) [it] it (fun i h=>IsRangeIter h it (lo+(i:Nat) * 1) ((n:Int) - (i:Nat)) 1) where
 mem:=by simp
 obj:=fun i h st b hb=>by
  have e:b=it:=by simpa using hb
  subst e
  exact ⟨_,st,fun v z=>by
   have z':Data.fields _=Data.cell v:=z
   cases z'⟩
 keep:=fun i h h' st k=>k it (by simp) _ st
 item:=by
  intro X hP hw hK hc i pins s σ H E I hf st hg
  subst hP hw hK
  obtain ⟨f0,f1,f2,f3,f4,f5⟩:=hf it (by simp)
  have W:=Walks.range (prog:=X.prog) (w:=X.w) (I.ok.hd hc) it lo 1 n
  refine W.item i s _ _ hg st fun v h' tk hv st' kk=>?_
  obtain ⟨t,rfl⟩:=hv
  have I1:Inv X pins σ H { s with heap:=h',toks:=tk }:=I.turned (fun b o hb e=>kk b o (by simpa using hb) e) f0 f1 f3 f4 f5
  refine ⟨_,rfl,Ku (s:={ s with heap:=h',toks:=tk }) (n:="range_iterator") st' rfl rfl (by decide) ⟨.int (lo+i),H,I1,⟨t,?_⟩,⟨rfl,rfl⟩,st',fun b hb=>(hf b hb).1⟩⟩
  rw [Int.mul_one]
 done:=by
  intro X hP hw hK hc i pins s σ H E I hf st hg
  subst hP hw hK
  obtain ⟨f0,f1,f2,f3,f4,f5⟩:=hf it (by simp)
  exact wpAny_pyNext_range_end (I.ok.hd hc) st (by have:n<=i:=hg; omega) fun h' eb=>⟨rfl,I.turned (t':=s.toks) (fun b o hb e=>eb b o hb e) f0 f1 f3 f4 f5⟩
 self:=fun _ _ _ _ _ st h=>wpAny_pyIter_rangeiter st h
end L2
namespace L2
open PySem PySem.Spec PyProof.Rows
section
variable {X:Cx} {tg:Expr}
noncomputable def Yn (K:PySem.W.Frag) (tl:TE):TI:=fun σ H R=>tl σ H fun x H1=>∃ a,x=.ref a/\(∃ xs,Cm K H1 a xs)/\R (Uv K a) H1
noncomputable def Zz (K:PySem.W.Frag) (tl:TE):TI:=fun σ H R=>tl σ H fun x H1=>∃ a,x=.ref a/\(∃ xs,FW K H1 a xs)/\R (bM K a) H1
theorem Bl {l:Expr} {tl:TE} (hl:PE X l tl):PI X tg l (Yn X.K tl):=by
 intro pins s σ H R I h
 refine CP (hl pins s σ H _ I h) fun v s1 hq0=>?_
 obtain ⟨x,H1,I1,r1,q1⟩:=hq0
 obtain ⟨a,e,⟨xs,hq⟩,q⟩:=q1
 subst e
 cases r1
 obtain ⟨its,rv,p,hz⟩:=I1.list hq
 refine wpAny_pyIter_list p.isList ?_
 refine ⟨s1.heap.objs.size,[s1.heap.objs.size],_,_,H1,rfl,I1.kept (t':=s1.toks) fun b o e=>Heap.get?_push_of_some _ e,Nk a _,⟨_,Heap.get?_push_size _ rfl,rfl,rfl⟩,fun b hb=>?_,q⟩
 have e:b=s1.heap.objs.size:=by simpa using hb
 subst e
 exact I1.Jr (Nat.le_refl _) (I1.hok.fresh (Nat.le_refl _))
theorem Lz {l:Expr} {tl:TE} (hl:PE X l tl):PI X tg l (Zz X.K tl):=by
 intro pins s σ H R I h
 refine CP (hl pins s σ H _ I h) fun v s1 hq0=>?_
 obtain ⟨x,H1,I1,r1,q1⟩:=hq0
 obtain ⟨a,e,⟨xs,hq⟩,q⟩:=q1
 subst e
 cases r1
 obtain ⟨its,rv,p,hz⟩:=I1.tuple hq
 refine wpAny_pyIter_tuple (show s1.heap.IsTuple a its.toArray from p) ?_
 refine ⟨s1.heap.objs.size,[s1.heap.objs.size],_,_,H1,rfl,I1.kept (t':=s1.toks) fun b o e=>Heap.get?_push_of_some _ e,MT a _,⟨_,Heap.get?_push_size _ rfl,rfl,rfl⟩,fun b hb=>?_,q⟩
 have e:b=s1.heap.objs.size:=by simpa using hb
 subst e
 exact I1.Jr (Nat.le_refl _) (I1.hok.fresh (Nat.le_refl _))
theorem Qj {pins:List (Addr × Obj)} {σ:St} {H:Hp} {s:Shared} {R:It->Hp->Prop} {E:Value->Shared->Prop} {lo hi:Int} {t u v:Tok} {tk:Nat} (I:Inv X pins σ H s) (h1 : -(2 ^ 62)<=lo) (h2:lo<2 ^ 62) (h3 : -(2 ^ 62)<=hi) (h4:hi<2 ^ 62)
  (q:R (SJ lo (hi - lo).toNat) H):wpAny (model X.prog X.w) X.A (pyIter (.ref s.heap.objs.size)) (PIE X pins σ tg R) E { s with heap:=s.heap.push { cls:=.type "range",data:=.fields #[.int lo t,.int hi u,.int 1 v] },toks:=tk }:=by
 refine wpAny_pyIter_range (IsRange.new ..) (small_one h1 h2 h3 h4) ?_
 have I1:Inv X pins σ H { s with heap:=s.heap.push { cls:=.type "range",data:=.fields #[.int lo t,.int hi u,.int 1 v] },toks:=tk }:=I.kept fun b o e=>Heap.get?_push_of_some _ e
 refine ⟨(s.heap.push { cls:=.type "range",data:=.fields #[.int lo t,.int hi u,.int 1 v] }).objs.size,[(s.heap.push { cls:=.type "range",data:=.fields #[.int lo t,.int hi u,.int 1 v] }).objs.size],_,_,H,rfl,
  I1.kept (t':=tk) fun b o e=>Heap.get?_push_of_some _ e,Mi _ lo (hi - lo).toNat,?_,fun b hb=>?_,q⟩
 ·have e1:lo+((0:Nat):Int) * 1=lo:=by simp
  have e2:(((hi - lo).toNat:Nat):Int) - ((0:Nat):Int)=Builtin.Range.rangeSize lo hi 1:=by rw [rangeSize_one]; split <;> omega
  show IsRangeIter _ _ (lo+((0:Nat):Int) * 1) ((((hi - lo).toNat:Nat):Int) - ((0:Nat):Int)) 1
  rw [e1,e2]
  exact Heap.get?_push_size _ rfl
 ·have e:b=(s.heap.push { cls:=.type "range",data:=.fields #[.int lo t,.int hi u,.int 1 v] }).objs.size:=by simpa using hb
  subst e
  exact I1.Jr (Nat.le_refl _) (I1.hok.fresh (Nat.le_refl _))
noncomputable def YS (ta:TA):TI:=fun σ H R=>ta σ H fun vs H1=>∃ j:Int,vs=[.int j] /\ -(2 ^ 62)<=j/\j<2 ^ 62/\R (SJ 0 j.toNat) H1
theorem FN {a:Expr} {ta:TA} {p pos:Pos} (hg:Gl X "range") (hm:X.mg "range" = none) (ha:PA X [a] ta) (hs:starEach [a] X.env=[(false,eval a X.env)]:=by rfl):PI X tg (.Call (.Name "range" p) [a] [] pos) (YS ta):=by
 intro pins s σ H R I h
 refine Call_ (G4 I hg hm boot_range (PyProof.Rows.callWith_type1 (CP (ha pos pins s σ H _ I h) fun us s1 ⟨vs,H1,I1,r1,q1⟩=>?_) hs rfl))
 obtain ⟨j,e,q1,q2,q⟩:=q1
 subst e
 cases r1 with
 | cons r rr =>
  cases rr
  obtain ⟨t,rfl⟩:=r
  exact call_range_1 (Qj I1 (by omega) (by omega) q1 q2 (by simpa using q))
noncomputable def bD (wi:TI) (g:TG) (tb:TS):TS:=fun D σ H=>wi σ H fun J H1=>∃ W:Nat->Nat->St->Hp->Prop,(∃ m,W 0 m σ H1)/\∀ i m σ H,W i m σ H ->
 (J.stop i H/\D.nx σ H) \/ (J.go i H/\∃ N:St->Hp->Prop,(∀ σ' H',N σ' H'->∃ m',m'<m/\W (i+1) m' σ' H')/\∀ x H',J.yld i H x H'->g x σ H' fun σ2 H2=>tb { D with nx:=N,ct:=N,bk:=D.nx } σ2 H2)
noncomputable def Hi (fp:List Addr) (h:Heap):List (Addr × Obj):=fp.filterMap fun b=>(h.get? b).map fun o=>(b,o)
theorem Ea {fp:List Addr} {h:Heap} {b:Addr} {o:Obj} (hb:b∈fp) (e:h.get? b=some o):(b,o)∈Hi fp h:=List.mem_filterMap.mpr ⟨b,hb,by rw [e]; rfl⟩
theorem Nj {fp:List Addr} {h:Heap} {p:Addr × Obj} (hp:p∈Hi fp h):p.1∈fp/\h.get? p.1=some p.2:=by
 obtain ⟨b,hb,e⟩:=List.mem_filterMap.mp hp
 cases q:h.get? b with
 | none=>rw [q] at e; cases e
 | some o =>
  rw [q] at e
  have e':(b,o)=p:=Option.some.inj e
  subst e'
  exact ⟨hb,q⟩
theorem Inv.pinned {pins:List (Addr × Obj)} {σ:St} {H:Hp} {s:Shared} {fp:List Addr} (I:Inv X pins σ H s) (hf:∀ b∈fp,Fl X pins H b) (ho:∀ b∈fp,∃ o,s.heap.get? b=some o/\∀ v,o.data ≠ .cell v):Inv X (pins++Hi fp s.heap) σ H s :=
 I.Mw fun p hp=>(List.mem_append.mp hp).elim (fun z=>I.pin p (List.mem_append_right _ z)) fun z=>by
  obtain ⟨hb,e⟩:=Nj z
  obtain ⟨f0,f1,f2,_⟩:=hf p.1 hb
  obtain ⟨o,e',d⟩:=ho p.1 hb
  rw [e] at e'; cases e'
  exact ⟨e,f0,f1,f2,d⟩
theorem Inv.GX {pins pl:List (Addr × Obj)} {σ:St} {H:Hp} {s:Shared} (I:Inv X (pins++pl) σ H s):Inv X pins σ H s:=I.Mw fun p hp=>I.pin p (List.mem_append_right _ (List.mem_append_left _ hp))
theorem Du {iter:Expr} {body:List Stmt} {wi:TI} {g:TG} {tb:TS} {pos:Pos} (hp:PassesOwn (model X.prog X.w) X.A X.env X.xe) (hc:X.calm=true) (hi:PI X tg iter wi) (hg:PG X tg g) (hb:O6 X body tb)
  (hs:∀ x,foldedSetIterable iter X.env x=pure x:=by intro _; rfl):PS X (.For tg iter body [] pos) (bD wi g tb):=by
 intro pins s σ H D I h
 refine wpAny_For (CP (hi pins s σ H _ I h) fun v s1 h1=>CP h1 fun itv s2 h2=>?_) hs
 obtain ⟨it,fp,tn,J,H2,e,I2,T,st2,f2,W,⟨m0,w0⟩,turn⟩:=h2
 subst e
 have stat:∀ {H':Hp},(∀ b∈fp,H' b=none)->∀ b∈fp,Fl X pins H' b:=fun hn b hb=>⟨hn b hb,(f2 b hb).2⟩
 refine codeAny_forLoop_any (fun n s'=>∃ i σ' H',Inv X pins σ' H' s'/\tn i s'.heap/\(∀ b∈fp,H' b=none)/\W i n σ' H') ?_ m0 ⟨0,σ,H2,I2,st2,fun b hb=>(f2 b hb).1,w0⟩
 rintro n s3 ⟨i,σ3,H3,I3,st3,fr3,w3⟩
 rcases turn i n σ3 H3 w3 with ⟨stop,qn⟩ | ⟨go,N,hN,step⟩
 ·refine wpAny_passesOwn hp (CP (T.done X rfl rfl rfl hc i pins s3 σ3 H3 X.xe I3 (stat fr3) st3 stop) fun r s4 ⟨hr,I4⟩=>?_)
  subst hr
  exact wpAny_execs_nil ⟨σ3,H3,I4,qn⟩
 ·refine wpAny_passesOwn hp (CP (T.item X rfl rfl rfl hc i pins s3 σ3 H3 X.xe I3 (stat fr3) st3 go) fun r s4 ⟨u,hr,h4⟩=>?_)
  subst hr
  refine wpAny_passesOwn hp (CP h4 fun _ s5 hq0=>?_)
  obtain ⟨x,H5,I5,r5,y5,st5,fr5⟩:=hq0
  have I5':=I5.pinned (stat fr5) (T.obj _ _ st5)
  refine wpAny_passesOwn hp (CP (hg _ s5 σ3 H5 x u _ I5' r5 (step x H5 y5)) fun _ s6 hq0=>?_)
  obtain ⟨σ6,H6,I6,q6⟩:=hq0
  refine wpAny_passesOwn hp (CP (hb _ s6 σ6 H6 _ I6 q6) fun f s7 q7=>?_)
  have again:∀ {σ7:St} {H7:Hp},Inv X (pins++Hi fp s5.heap) σ7 H7 s7->N σ7 H7->∃ m,m<n/\∃ i σ' H',Inv X pins σ' H' s7/\tn i s7.heap/\(∀ b∈fp,H' b=none)/\W i m σ' H':=fun {σ7 H7} I7 n7=>by
   obtain ⟨m',hm,w7⟩:=hN σ7 H7 n7
   refine ⟨m',hm,i+1,σ7,H7,I7.GX,T.keep _ _ _ st5 fun b hb o e=>(I7.pin (b,o) (List.mem_append_right _ (List.mem_append_right _ (Ea hb e)))).1,fun b hb=>?_,w7⟩
   obtain ⟨o,e,d⟩:=T.obj _ _ st5 b hb
   exact (I7.pin (b,o) (List.mem_append_right _ (List.mem_append_right _ (Ea hb e)))).2.1
  cases f with
  | next=>obtain ⟨σ7,H7,I7,n7⟩:=q7; exact again I7 n7
  | cont=>obtain ⟨σ7,H7,I7,n7⟩:=q7; exact again I7 n7
  | brk=>obtain ⟨σ7,H7,I7,q7⟩:=q7; exact ⟨σ7,H7,I7.GX,q7⟩
  | ret v=>obtain ⟨x7,σ7,H7,I7,r7,q7⟩:=q7; exact ⟨x7,σ7,H7,I7.GX,r7,q7⟩
end
theorem Ek {K:PySem.W.Frag} {a:Addr} {xs:List V} {g:TG} {tb:TS} {D:Ends} {σ:St} {H:Hp} (Pv:Nat->St->Hp->Prop) (h0:Pv 0 σ H) (hl:∀ i σ H,i<=xs.length->Pv i σ H->Cm K H a xs)
  (hs:∀ i x σ H,xs[i]? = some x->Pv i σ H->g x σ H fun σ2 H2=>tb { D with nx:=Pv (i+1),ct:=Pv (i+1),bk:=D.nx } σ2 H2) (hd:∀ σ H,Pv xs.length σ H->D.nx σ H) :
  ∃ W:Nat->Nat->St->Hp->Prop,(∃ m,W 0 m σ H)/\∀ i m σ H,W i m σ H ->
   ((Uv K a).stop i H/\D.nx σ H) \/ ((Uv K a).go i H/\∃ N:St->Hp->Prop,(∀ σ' H',N σ' H'->∃ m',m'<m/\W (i+1) m' σ' H')/\∀ x H',(Uv K a).yld i H x H'->g x σ H' fun σ2 H2=>tb { D with nx:=N,ct:=N,bk:=D.nx } σ2 H2):=by
 refine ⟨fun i m σ H=>m=xs.length - i/\i<=xs.length/\Pv i σ H,⟨xs.length,by simp,Nat.zero_le _,h0⟩,?_⟩
 rintro i m σ H ⟨rfl,hi,p⟩
 have q:=hl i σ H hi p
 by_cases hlt:i<xs.length
 ·refine .inr ⟨⟨xs,xs[i],q,by simp [hlt]⟩,Pv (i+1),fun σ' H' p'=>⟨xs.length - (i+1),by omega,rfl,hlt,p'⟩,fun x H' y=>?_⟩
  obtain ⟨e,y⟩:=y
  subst e
  exact hs i x σ _ (y xs q) p
 ·have e:i=xs.length:=by omega
  subst e
  exact .inl ⟨⟨xs,q,Nat.le_refl _⟩,hd σ H p⟩
theorem Hq {lo:Int} {n:Nat} {g:TG} {tb:TS} {D:Ends} {σ:St} {H:Hp} (Pv:Nat->St->Hp->Prop) (h0:Pv 0 σ H)
  (hs:∀ i σ H,i<n->Pv i σ H->g (.int (lo+i)) σ H fun σ2 H2=>tb { D with nx:=Pv (i+1),ct:=Pv (i+1),bk:=D.nx } σ2 H2) (hd:∀ σ H,Pv n σ H->D.nx σ H) :
  ∃ W:Nat->Nat->St->Hp->Prop,(∃ m,W 0 m σ H)/\∀ i m σ H,W i m σ H ->
   ((SJ lo n).stop i H/\D.nx σ H) \/ ((SJ lo n).go i H/\∃ N:St->Hp->Prop,(∀ σ' H',N σ' H'->∃ m',m'<m/\W (i+1) m' σ' H')/\∀ x H',(SJ lo n).yld i H x H'->g x σ H' fun σ2 H2=>tb { D with nx:=N,ct:=N,bk:=D.nx } σ2 H2):=by
 refine ⟨fun i m σ H=>m=n - i/\i<=n/\Pv i σ H,⟨n,by simp,Nat.zero_le _,h0⟩,?_⟩
 rintro i m σ H ⟨rfl,hi,p⟩
 by_cases hlt:i<n
 ·refine .inr ⟨hlt,Pv (i+1),fun σ' H' p'=>⟨n - (i+1),by omega,rfl,hlt,p'⟩,fun x H' y=>?_⟩
  obtain ⟨e,y⟩:=y
  subst e y
  exact hs i σ _ hlt p
 ·have e:i=n:=by omega
  subst e
  exact .inl ⟨Nat.le_refl _,hd σ H p⟩
end L2
namespace L2
open PySem PySem.Spec PyProof.Rows
noncomputable abbrev R2:=V->V->Hp->VK->Prop
noncomputable def GC (X:Cx) (f:Value->Value->Sem Value) (r:R2):Prop :=
 ∀ (pins:List (Addr × Obj)) (s:Shared) (σ:St) (H:Hp) (x y:V) (v u:Value) (Q:VK),Inv X pins σ H s->RelV x v->RelV y u->r x y H Q ->
  wpAny (model X.prog X.w) X.A (f v u) (EP X pins σ Q) X.xe s
noncomputable def cB (X:Cx) (f:Value->Sem Value) (r:V->Hp->VK->Prop):Prop :=
 ∀ (pins:List (Addr × Obj)) (s:Shared) (σ:St) (H:Hp) (x:V) (v:Value) (Q:VK),Inv X pins σ H s->RelV x v->r x H Q ->
  wpAny (model X.prog X.w) X.A (f v) (EP X pins σ Q) X.xe s
noncomputable def Fp (X:Cx) (f:Value) (r:List V->Hp->VK->Prop):Prop :=
 ∀ (pins:List (Addr × Obj)) (s:Shared) (σ:St) (H:Hp) (xs:List V) (us:List Value) (Q:VK),Inv X pins σ H s->Vals xs us->r xs H Q ->
  wpAny (model X.prog X.w) X.A (call f us) (EP X pins σ Q) X.xe s
noncomputable def aL (X:Cx) (r:V->Hp->(Bool->Hp->Prop)->Prop):Prop :=
 ∀ (pins:List (Addr × Obj)) (s:Shared) (σ:St) (H:Hp) (x:V) (v:Value) (Q:Bool->Hp->Prop),Inv X pins σ H s->RelV x v->r x H Q ->
  wpAny (model X.prog X.w) X.A (truthy v) (TP X pins σ Q) X.xe s
noncomputable def Ww (r:R2) (ta tb:TE):TE:=fun σ H Q=>ta σ H fun x H1=>tb σ H1 fun y H2=>r x y H2 Q
noncomputable def dw (r:V->Hp->VK->Prop) (ta:TE):TE:=fun σ H Q=>ta σ H fun x H1=>r x H1 Q
noncomputable def rI (C:Int->Int->Prop) (g:Int->Int->V):R2:=fun x y H Q=>∃ i j,x=.int i/\y=.int j/\C i j/\Q (g i j) H
noncomputable def Rm (g:Int->Int->V):R2:=fun x y H Q=>∃ i j,x=.int i/\y=.int j/\Q (g i j) H
noncomputable def rU (g:Int->V):V->Hp->VK->Prop:=fun x H Q=>∃ i,x=.int i/\Q (g i) H
section
variable {X:Cx} {a b c:Expr} {ta tb tc:TE} {pos:Pos}
theorem VR (ha:PE X a ta) (hb:PE X b tb) {pins:List (Addr × Obj)} {s:Shared} {σ:St} {H:Hp} {R:V->V->Hp->Prop} (I:Inv X pins σ H s)
  (h:ta σ H fun x H1=>tb σ H1 fun y H2=>R x y H2) {Q:Value->Shared->Prop} {f:Value->Value->Sem Value}
  (hf:∀ v u s2 x y H2,Inv X pins σ H2 s2->RelV x v->RelV y u->R x y H2->wpAny (model X.prog X.w) X.A (f v u) Q X.xe s2) :
  wpAny (model X.prog X.w) X.A (eval a X.env) (fun v s₁=>wpAny (model X.prog X.w) X.A (eval b X.env) (fun u s₂=>wpAny (model X.prog X.w) X.A (f v u) Q X.xe s₂) X.xe s₁) X.xe s:=by
 refine CP (ha pins s σ H _ I h) fun v s1 hq0=>?_
 obtain ⟨x,H1,I1,r1,q1⟩:=hq0
 refine CP (hb pins s1 σ H1 _ I1 q1) fun u s2 hq0=>?_
 obtain ⟨y,H2,I2,r2,q2⟩:=hq0
 exact hf v u s2 x y H2 I2 r1 r2 q2
theorem BW {op:Operator} {r:R2} (ho:GC X (binaryOp op) r) (ha:PE X a ta) (hb:PE X b tb):PE X (.BinOp a op b pos) (Ww r ta tb):=by
 intro pins s σ H Q I h
 exact wpAny_BinOp (VR ha hb I h fun v u s2 x y H2 I2 rx ry q=>ho pins s2 σ H2 x y v u Q I2 rx ry q)
theorem R5 {op:UnaryOp} {r:V->Hp->VK->Prop} (ho:cB X (unaryOp op) r) (ha:PE X a ta):PE X (.UnaryOp op a pos) (dw r ta):=by
 intro pins s σ H Q I h
 exact UnaryOp_ (CP (ha pins s σ H _ I h) fun v s1 ⟨x,H1,I1,r1,q1⟩=>ho pins s1 σ H1 x v Q I1 r1 q1)
theorem Xa {f:Value->Value->Sem Value} {C:Int->Int->Prop} {g:Int->Int->Int}
  (rule:∀ (i j:Int) (t u:Tok) (s:Shared) (Q:Value->Shared->Prop) (E:Value->Shared->Prop),C i j->Q (.int (g i j) s.toks) { s with toks:=s.toks+1 }->wpAny (model X.prog X.w) X.A (f (.int i t) (.int j u)) Q E s) :
  GC X f (rI C fun i j=>.int (g i j)):=by
 intro pins s σ H x y v u Q I rx ry h
 obtain ⟨i,j,rfl,rfl,hc,q⟩:=h
 obtain ⟨t,rfl⟩:=rx
 obtain ⟨t',rfl⟩:=ry
 exact rule i j t t' s _ _ hc ⟨.int (g i j),H,I.tok _,⟨_,rfl⟩,q⟩
theorem Te {f:Value->Value->Sem Value} {g:Int->Int->Int}
  (rule:∀ (i j:Int) (t u:Tok) (s:Shared) (Q:Value->Shared->Prop) (E:Value->Shared->Prop),Q (.int (g i j) s.toks) { s with toks:=s.toks+1 }->wpAny (model X.prog X.w) X.A (f (.int i t) (.int j u)) Q E s) :
  GC X f (Rm fun i j=>.int (g i j)):=by
 intro pins s σ H x y v u Q I rx ry h
 obtain ⟨i,j,rfl,rfl,q⟩:=h
 obtain ⟨t,rfl⟩:=rx
 obtain ⟨t',rfl⟩:=ry
 exact rule i j t t' s _ _ ⟨.int (g i j),H,I.tok _,⟨_,rfl⟩,q⟩
theorem Rc {f:Value->Value->Sem Value} {g:Int->Int->Bool}
  (rule:∀ (i j:Int) (t u:Tok) (s:Shared) (Q:Value->Shared->Prop) (E:Value->Shared->Prop),Q (.bool (g i j)) s->wpAny (model X.prog X.w) X.A (f (.int i t) (.int j u)) Q E s) :
  GC X f (Rm fun i j=>.bl (g i j)):=by
 intro pins s σ H x y v u Q I rx ry h
 obtain ⟨i,j,rfl,rfl,q⟩:=h
 obtain ⟨t,rfl⟩:=rx
 obtain ⟨t',rfl⟩:=ry
 exact rule i j t t' s _ _ ⟨.bl (g i j),H,I,rfl,q⟩
noncomputable def cC (i j:Int):Prop:=0<j/\j<1073741824
noncomputable def ZL (i j:Int):Prop:=0<=j/\j<=1000000/\i.natAbs<2 ^ 64
noncomputable def Tj (i j:Int):Prop:=(-(2 ^ 64)<i/\i<2 ^ 64) \/ (-(2 ^ 64)<j/\j<2 ^ 64)
theorem Tj.ok {i j:Int} (h:Tj i j):IntMulOk i j:=by
 rcases h with ⟨h1,h2⟩ | ⟨h1,h2⟩
 ·exact .of_left (intBits_le_64 h1 h2)
 ·exact .of_right (intBits_le_64 h1 h2)
theorem Cr:GC X (binaryOp .Add) (Rm fun i j=>.int (i+j)):=Te fun _ _ _ _ _ _ _ q=>add_int q
theorem Fj:GC X (binaryOp .Sub) (Rm fun i j=>.int (i - j)):=Te fun _ _ _ _ _ _ _ q=>sub_int q
theorem Fw:GC X (binaryOp .Mult) (rI Tj fun i j=>.int (i * j)):=Xa fun _ _ _ _ _ _ _ hc q=>mul_int q hc.ok
theorem Dq:GC X (binaryOp .FloorDiv) (rI cC fun i j=>.int (i / j)):=Xa fun i j _ _ _ _ _ hc q=>by
 have h1:(0:Int)<j:=hc.1
 have h2:j<1073741824:=hc.2
 exact floordiv_int (by omega) (by rw [Int.fdiv_eq_ediv_of_nonneg i (by omega)]; exact q) (.inl (PyProof.noPylong_small (by omega)))
theorem Ca:GC X (binaryOp .Mod) (rI (fun _ j=>0<j) fun i j=>.int (i % j)):=Xa fun i j _ _ _ _ _ hc q=>by
 have h1:(0:Int)<j:=hc
 exact mod_int' (by omega) (by rw [Int.fmod_eq_emod_of_nonneg i (by omega)]; exact q)
theorem Jq:GC X (binaryOp .Pow) (rI ZL fun i j=>.int (i ^ j.toNat)):=Xa fun _ _ _ _ _ _ _ hc q=>pow_int_small hc.1 hc.2.1 hc.2.2 q
theorem Up:GC X (binaryOp .LShift) (rI ZL fun i j=>.int (i * 2 ^ j.toNat)):=Xa fun _ _ _ _ _ _ _ hc q=>lshift_int_small hc.1 hc.2.1 hc.2.2 q
theorem Y_:GC X (binaryOp .BitOr) (Rm fun i j=>.int (Builtin.bitOr i j)):=Te fun _ _ _ _ _ _ _ q=>or_int q
theorem d9 {f:Value->Sem Value} {g:Int->Int}
  (rule:∀ (i:Int) (t:Tok) (s:Shared) (Q:Value->Shared->Prop) (E:Value->Shared->Prop),Q (.int (g i) s.toks) { s with toks:=s.toks+1 }->wpAny (model X.prog X.w) X.A (f (.int i t)) Q E s) :
  cB X f (rU fun i=>.int (g i)):=by
 intro pins s σ H x v Q I rx h
 obtain ⟨i,rfl,q⟩:=h
 obtain ⟨t,rfl⟩:=rx
 exact rule i t s _ _ ⟨.int (g i),H,I.tok _,⟨_,rfl⟩,q⟩
theorem Qs:cB X (unaryOp .USub) (rU fun i=>.int (-i)):=d9 fun _ _ _ _ _ q=>neg_int q
end
noncomputable def Xc:V->V->Bool
 | .non,.non=>true | .non,.int _=>true | .int _,.non=>true | .non,.bl _=>true | .bl _,.non=>true | .non,.str _=>true | .str _,.non=>true
 | .int _,.int _=>true | .bl _,.bl _=>true | .str _,.str _=>true | .byt _,.byt _=>true
 | .int _,.str _=>true | .str _,.int _=>true | .bl _,.str _=>true | .str _,.bl _=>true
 | _,_=>false
noncomputable def du:R2:=fun x y H Q=>Xc x y=true/\Q (.bl (decide (x=y))) H
noncomputable def dg:R2:=fun x y H Q=>Xc x y=true/\Q (.bl (!decide (x=y))) H
theorem NQ {i j:Int}:decide (V.int i=V.int j)=(i == j):=by
 rw [Bool.eq_iff_iff]
 simp
theorem QK {i j:Bool}:decide (V.bl i=V.bl j)=(i == j):=by
 rw [Bool.eq_iff_iff]
 simp
theorem Ga {i j:Str}:decide (V.str i=V.str j)=(i == j):=by
 rw [Bool.eq_iff_iff]
 simp
theorem NZ {i j:Array UInt8}:decide (V.byt i=V.byt j)=(i.toList == j.toList):=by
 rw [Bool.eq_iff_iff]
 cases i
 cases j
 simp
section
variable {X:Cx} {a b c:Expr} {ta tb tc:TE} {pos:Pos}
theorem Bo {pins:List (Addr × Obj)} {σ:St} {H:Hp} {s:Shared} {Q:VK} {k k':Bool} (I:Inv X pins σ H s) (q:Q (.bl k) H) (e:k=k'):EP X pins σ Q (.bool k') s:=by
 subst e
 exact ⟨.bl k,H,I,rfl,q⟩
theorem Dd:GC X (compareOp .Eq) du:=by
 intro pins s σ H x y v u Q I rx ry h
 obtain ⟨hs,q⟩:=h
 cases x with
 | non =>
  cases rx
  cases y with
  | non=>cases ry; exact PySem.EqNone.eq_none_none (Bo I q (by simp))
  | bl j=>cases ry; exact PySem.EqNone.eq_none_bool (Bo I q (by simp))
  | int j=>obtain ⟨t',rfl⟩:=ry; exact PySem.EqNone.eq_none_int (Bo I q (by simp))
  | str j=>obtain ⟨t',rfl⟩:=ry; exact PySem.EqNone.eq_none_str (Bo I q (by simp))
  | _=>exact absurd (show false=true from hs) Bool.false_ne_true
 | bl i =>
  cases rx
  cases y with
  | non=>cases ry; exact PySem.EqNone.eq_bool_none (Bo I q (by simp))
  | bl j=>cases ry; exact eq_bool (Bo I q QK)
  | str j=>obtain ⟨t',rfl⟩:=ry; exact PySem.EqMixed.eq_bool_str (Bo I q (by simp))
  | _=>exact absurd (show false=true from hs) Bool.false_ne_true
 | int i =>
  obtain ⟨t,rfl⟩:=rx
  cases y with
  | non=>cases ry; exact PySem.EqNone.eq_int_none (Bo I q (by simp))
  | int j=>obtain ⟨t',rfl⟩:=ry; exact eq_int (Bo I q NQ)
  | str j=>obtain ⟨t',rfl⟩:=ry; exact PySem.EqMixed.eq_int_str (Bo I q (by simp))
  | _=>exact absurd (show false=true from hs) Bool.false_ne_true
 | str i =>
  obtain ⟨t,rfl⟩:=rx
  cases y with
  | non=>cases ry; exact PySem.EqNone.eq_str_none (Bo I q (by simp))
  | bl j=>cases ry; exact PySem.EqMixed.eq_str_bool (Bo I q (by simp))
  | int j=>obtain ⟨t',rfl⟩:=ry; exact PySem.EqMixed.eq_str_int (Bo I q (by simp))
  | str j=>obtain ⟨t',rfl⟩:=ry; exact eq_str (Bo I q Ga)
  | _=>exact absurd (show false=true from hs) Bool.false_ne_true
 | byt i =>
  obtain ⟨t,rfl⟩:=rx
  cases y with
  | byt j=>obtain ⟨t',rfl⟩:=ry; exact PySem.W.eq_bytes (Bo I q NZ)
  | _=>exact absurd (show false=true from hs) Bool.false_ne_true
 | _=>cases y <;> exact absurd (show false=true from hs) Bool.false_ne_true
theorem Mv:GC X (compareOp .NotEq) dg:=by
 intro pins s σ H x y v u Q I rx ry h
 obtain ⟨hs,q⟩:=h
 cases x with
 | non =>
  cases rx
  cases y with
  | non=>cases ry; exact PySem.EqNone.ne_none_none (Bo I q (by simp))
  | bl j=>cases ry; exact PySem.EqNone.ne_none_bool (Bo I q (by simp))
  | int j=>obtain ⟨t',rfl⟩:=ry; exact PySem.EqNone.ne_none_int (Bo I q (by simp))
  | str j=>obtain ⟨t',rfl⟩:=ry; exact PySem.EqNone.ne_none_str (Bo I q (by simp))
  | _=>exact absurd (show false=true from hs) Bool.false_ne_true
 | bl i =>
  cases rx
  cases y with
  | non=>cases ry; exact PySem.EqNone.ne_bool_none (Bo I q (by simp))
  | bl j=>cases ry; exact ne_bool (Bo I q (congrArg not QK))
  | str j=>obtain ⟨t',rfl⟩:=ry; exact PySem.EqMixed.ne_bool_str (Bo I q (by simp))
  | _=>exact absurd (show false=true from hs) Bool.false_ne_true
 | int i =>
  obtain ⟨t,rfl⟩:=rx
  cases y with
  | non=>cases ry; exact PySem.EqNone.ne_int_none (Bo I q (by simp))
  | int j=>obtain ⟨t',rfl⟩:=ry; exact ne_int (Bo I q (congrArg not NQ))
  | str j=>obtain ⟨t',rfl⟩:=ry; exact PySem.EqMixed.ne_int_str (Bo I q (by simp))
  | _=>exact absurd (show false=true from hs) Bool.false_ne_true
 | str i =>
  obtain ⟨t,rfl⟩:=rx
  cases y with
  | non=>cases ry; exact PySem.EqNone.ne_str_none (Bo I q (by simp))
  | bl j=>cases ry; exact PySem.EqMixed.ne_str_bool (Bo I q (by simp))
  | int j=>obtain ⟨t',rfl⟩:=ry; exact PySem.EqMixed.ne_str_int (Bo I q (by simp))
  | str j=>obtain ⟨t',rfl⟩:=ry; exact ne_str (Bo I q (congrArg not Ga))
  | _=>exact absurd (show false=true from hs) Bool.false_ne_true
 | byt i =>
  obtain ⟨t,rfl⟩:=rx
  cases y with
  | byt j=>obtain ⟨t',rfl⟩:=ry; exact PySem.W.ne_bytes (Bo I q (congrArg not NZ))
  | _=>exact absurd (show false=true from hs) Bool.false_ne_true
 | _=>cases y <;> exact absurd (show false=true from hs) Bool.false_ne_true
theorem E_:GC X (compareOp .Lt) (Rm fun i j=>.bl (decide (i<j))):=Rc fun _ _ _ _ _ _ _ q=>lt_int q
theorem Gm:GC X (compareOp .LtE) (Rm fun i j=>.bl (decide (i<=j))):=Rc fun _ _ _ _ _ _ _ q=>le_int q
theorem ZF:GC X (compareOp .Gt) (Rm fun i j=>.bl (decide (j<i))):=Rc fun _ _ _ _ _ _ _ q=>gt_int q
theorem Pq:GC X (compareOp .GtE) (Rm fun i j=>.bl (decide (j<=i))):=Rc fun _ _ _ _ _ _ _ q=>ge_int q
theorem Jb:GC X (compareOp .In) (fun x y H Q=>∃ i j,x=.str i/\y=.str j/\Q (.bl (!(Builtin.Str.occurrences j i 0 j.length 1).isEmpty)) H):=by
 intro pins s σ H x y v u Q I rx ry h
 obtain ⟨i,j,rfl,rfl,q⟩:=h
 obtain ⟨t,rfl⟩:=rx
 obtain ⟨t',rfl⟩:=ry
 exact in_str (Bo I q rfl)
theorem U8:GC X (compareOp .Is) (fun x y H Q=>y=.non/\Q (.bl (decide (x=.non))) H):=by
 intro pins s σ H x y v u Q I rx ry h
 obtain ⟨rfl,q⟩:=h
 cases ry
 refine is_none_gen (Bo I q ?_)
 cases x <;> first
  | (cases rx; rfl)
  | (obtain ⟨t,rfl⟩:=rx; rfl)
theorem M_:GC X (compareOp .IsNot) (fun x y H Q=>y=.non/\Q (.bl (!decide (x=.non))) H):=by
 intro pins s σ H x y v u Q I rx ry h
 obtain ⟨rfl,q⟩:=h
 cases ry
 refine isnot_none_gen (Bo I q ?_)
 cases x <;> first
  | (cases rx; rfl)
  | (obtain ⟨t,rfl⟩:=rx; rfl)
theorem Bd (b:Expr) {op:CmpOp} (h:op ≠ .In:=by decide) (h2:op ≠ .NotIn:=by decide):behindInMarks op b=false:=by
 have e1:(op == CmpOp.In)=false:=by cases op <;> first | rfl | exact absurd rfl h
 have e2:(op == CmpOp.NotIn)=false:=by cases op <;> first | rfl | exact absurd rfl h2
 cases b <;> simp [behindInMarks,e1,e2]
theorem Cy {op:CmpOp} {r:R2} (ho:GC X (compareOp op) r) (ha:PE X a ta) (hb:PE X b tb) (hm:behindInMarks op b=false):PE X (.Compare a [op] [b] pos) (Ww r ta tb):=by
 intro pins s σ H Q I h
 exact wpAny_Compare1 (VR ha hb I h fun v u s2 x y H2 I2 rx ry q=>ho pins s2 σ H2 x y v u Q I2 rx ry q) hm
noncomputable def Ss (t:TE):TT:=fun σ H Q=>t σ H fun x H'=>∃ k,x=.bl k/\Q k H'
theorem Bb {op:CmpOp} {r:R2} (ho:GC X (compareOp op) r) (ha:PE X a ta) (hb:PE X b tb) (hm:behindInMarks op b=false):PT X (.Compare a [op] [b] pos) (Ss (Ww r ta tb)):=by
 intro pins s σ H Q I h
 refine wpAny_isTrue_Compare1 (CP (ha pins s σ H _ I h) fun v s1 ⟨x,H1,I1,r1,q1⟩=>CP (hb pins s1 σ H1 _ I1 q1) fun u s2 ⟨y,H2,I2,r2,q2⟩ =>
  CP (ho pins s2 σ H2 x y v u _ I2 r1 r2 q2) fun c s3 ⟨z,H3,I3,r3,k,e,q3⟩=>?_) hm
 subst e
 cases r3
 exact wpAny_truthy_bool ⟨H3,I3,q3⟩
noncomputable def PJ (r r':R2) (ta tb tc:TE):TE:=fun σ H Q=>ta σ H fun x H1=>tb σ H1 fun y H2=>r x y H2 fun z H3=>∃ k,z=.bl k /\
 (if k=true then tc σ H3 fun w' H4=>r' y w' H4 Q else Q (.bl false) H3)
theorem HS {op op':CmpOp} {r r':R2} (ho:GC X (compareOp op) r) (ho':GC X (compareOp op') r') (ha:PE X a ta) (hb:PE X b tb) (hc:PE X c tc)
  (hm:lastMarks [op,op'] [b,c]=false:=by with_unfolding_all rfl):PE X (.Compare a [op,op'] [b,c] pos) (PJ r r' ta tb tc):=by
 intro pins s σ H Q I h
 refine Compare_chain (CP (ha pins s σ H _ I h) fun v s1 ⟨x,H1,I1,r1,q1⟩=>chain_link (CP (hb pins s1 σ H1 _ I1 q1) fun u s2 ⟨y,H2,I2,r2,q2⟩ =>
  CP (ho pins s2 σ H2 x y v u _ I2 r1 r2 q2) fun d s3 ⟨z,H3,I3,r3,k,e,q3⟩=>?_)) hm
 subst e
 cases r3
 refine wpAny_truthy_bool ?_
 cases k with
 | false=>exact ite_ff ⟨.bl false,H3,I3,rfl,q3⟩
 | true=>exact ite_tt (chain_last (CP (hc pins s3 σ H3 _ I3 q3) fun w' s4 ⟨z',H4,I4,r4,q4⟩=>ho' pins s4 σ H4 y z' u w' Q I4 r2 r4 q4))
theorem QD {op op':CmpOp} {r r':R2} (ho:GC X (compareOp op) r) (ho':GC X (compareOp op') r') (ha:PE X a ta) (hb:PE X b tb) (hc:PE X c tc)
  (hm:lastMarks [op,op'] [b,c]=false:=by with_unfolding_all rfl):PT X (.Compare a [op,op'] [b,c] pos) (Ss (PJ r r' ta tb tc)):=by
 intro pins s σ H Q I h
 refine isTrue_chain (CP (ha pins s σ H _ I h) fun v s1 ⟨x,H1,I1,r1,q1⟩=>test_link (CP (hb pins s1 σ H1 _ I1 q1) fun u s2 ⟨y,H2,I2,r2,q2⟩ =>
  CP (ho pins s2 σ H2 x y v u _ I2 r1 r2 q2) fun d s3 ⟨z,H3,I3,r3,k,e,q3⟩=>?_)) hm
 subst e
 cases r3
 refine wpAny_truthy_bool ?_
 cases k with
 | false =>
  obtain ⟨k',e',q'⟩:=q3
  cases e'
  exact ite_ff ⟨H3,I3,q'⟩
 | true =>
  refine ite_tt (test_last (CP (hc pins s3 σ H3 _ I3 q3) fun w' s4 ⟨z',H4,I4,r4,q4⟩=>CP (ho' pins s4 σ H4 y z' u w' _ I4 r2 r4 q4) fun d' s5 hq0=>?_))
  obtain ⟨z2,H5,I5,r5,k2,e2,q5⟩:=hq0
  subst e2
  cases r5
  exact wpAny_truthy_bool ⟨H5,I5,q5⟩
noncomputable def YQ (K:PySem.W.Frag) (x:V) (H:Hp) (k:Bool):Prop :=
 match x with
 | .non=>k=false
 | .bl b=>k=b
 | .int i=>k=(i != 0)
 | .str y=>y.length<=sizeLine/\k=((y.length:Int) != 0)
 | .byt y=>y.size<=sizeLine/\k=((y.size:Int) != 0)
 | .ref p=>(∃ xs,Cm K H p xs/\k = !xs.isEmpty) \/ (∃ xs,FW K H p xs/\k = !xs.isEmpty) \/ ∃ kvs,H p=some (.dK kvs)/\k = !kvs.isEmpty
 | _=>False
theorem Lh {κ:Type} {kvs:List (κ × V)} {vs:List (κ × Value)} (r:KV kvs vs):(!vs.isEmpty) = !kvs.isEmpty:=by
 cases r <;> rfl
theorem Ii {xs:List V} {its:List Value} (r:Vals xs its):(!its.toArray.isEmpty) = !xs.isEmpty:=by
 cases r <;> simp
theorem G5:(sizeLine:Nat)<2 ^ 63:=by rw [sizeLine_eq]; decide
theorem VL:aL X (fun x H Q=>∃ k,YQ X.K x H k/\Q k H):=by
 intro pins s σ H x v Q I rx h
 obtain ⟨k,e,q⟩:=h
 have hl:=G5
 have hs:sizeLine=16777216:=sizeLine_eq
 cases x with
 | non =>
  cases rx
  have e':k=false:=e
  subst e'
  exact truthy_none ⟨H,I,q⟩
 | bl b =>
  cases rx
  have e':k=b:=e
  subst e'
  exact wpAny_truthy_bool ⟨H,I,q⟩
 | int i =>
  obtain ⟨t,rfl⟩:=rx
  have e':k=(i != 0):=e
  subst e'
  exact PySem.P.truthy_int ⟨H,I,q⟩
 | str y =>
  obtain ⟨t,rfl⟩:=rx
  obtain ⟨hy,e'⟩:y.length<=sizeLine/\k=((y.length:Int) != 0):=e
  subst e'
  exact PySem.P.truthy_str (by omega) ⟨H,I.tok _,q⟩
 | byt y =>
  obtain ⟨t,rfl⟩:=rx
  obtain ⟨hy,e'⟩:y.size<=sizeLine/\k=((y.size:Int) != 0):=e
  subst e'
  exact PySem.W.truthy_bytes (by omega) ⟨H,I.tok _,q⟩
 | ref p =>
  cases rx
  have e':(∃ xs,Cm X.K H p xs/\k = !xs.isEmpty) \/ (∃ xs,FW X.K H p xs/\k = !xs.isEmpty) \/ ∃ kvs,H p=some (.dK kvs)/\k = !kvs.isEmpty:=e
  rcases e' with ⟨xs,hx,e'⟩ | ⟨xs,hx,e'⟩ | ⟨kvs,hx,e'⟩
  ·subst e'
   obtain ⟨its,r,pl,hz⟩:=I.list hx
   have hlen:=r.length
   exact wpAny_truthy_list pl.isList (by simp only [List.size_toArray]; omega) ⟨H,I.tok _,by rw [Ii r]; exact q⟩
  ·subst e'
   obtain ⟨its,r,pl,hz⟩:=I.tuple hx
   have hlen:=r.length
   exact truthy_tuple pl (by simp only [List.size_toArray]; omega) ⟨H,I.tok _,by rw [Ii r]; exact q⟩
  ·subst e'
   obtain ⟨hz,hS,vs,r,m⟩:kvs.length<=sizeLine/\(p == sysModules)=false/\∃ vs,KV kvs vs/\s.heap.DictOf (CT X.prog X.w) p vs:=I.hok p _ hx
   have hlen:kvs.length=vs.length:=Paired.length r
   exact wpAny_truthy_dict hS m (by omega) ⟨H,I.tok _,by rw [Lh r]; exact q⟩
 | _=>exact (show False from e).elim
theorem QJ (ha:PE X a ta) (he:∀ whole,isTrue a X.env whole=(do let v ← whole; standAt a.pos; holding [v] (truthy v))) :
  PT X a (fun σ H Q=>ta σ H fun x H'=>∃ k,YQ X.K x H' k/\Q k H'):=by
 intro pins s σ H Q I h
 exact isTrue_plain (CP (ha pins s σ H _ I h) fun v s1 ⟨x,H1,I1,r1,q1⟩=>VL pins s1 σ H1 x v Q I1 r1 q1) (he _)
theorem Fg:GC X (binaryOp .Add) (fun x y H Q=>∃ i j,x=.str i/\y=.str j/\i.length+j.length<=sizeLine/\Q (.str (i++j)) H):=by
 intro pins s σ H x y v u Q I rx ry h
 obtain ⟨i,j,rfl,rfl,hz,q⟩:=h
 obtain ⟨t,rfl⟩:=rx
 obtain ⟨t',rfl⟩:=ry
 exact add_str (fun t' tk=>⟨.str (i++j),H,I.tok _,⟨_,rfl⟩,q⟩) hz
theorem vals1 {x:V} {us:List Value} (r:Vals [x] us):∃ u,us=[u]/\RelV x u:=by
 cases r with
 | cons r1 r2=>cases r2; exact ⟨_,rfl,r1⟩
end
end L2
namespace L2
open PySem PySem.Spec PyProof.Rows
structure Mj (h:Heap) (x dx C:Addr) (mA:Str->Option Value):Prop where
 obj:h.get? x=some (PySem.W.instObj C dx)
 ns:h.Ns1 dx mA
 ne:dx ≠ x
theorem Np {h:Heap} {dx:Addr} {mA:Str->Option Value} (n:h.Ns1 dx mA):∃ od,h.get? dx=some od/\∀ name,PySem.W.lookIn name od=some (mA name):=by
 obtain ⟨o,es,ep,ho,hd,hk,_,hm⟩:=n
 refine ⟨o,ho,fun name=>?_⟩
 have e:=hm name
 unfold nsFind findBy at e
 rw [← Array.find?_toList] at e
 unfold PySem.W.lookIn
 rw [hd]
 dsimp only
 split
 ·rename_i y q
  rw [q] at e
  exact congrArg some e
 ·rename_i q
  rw [q] at e
  have a:es.toList.any (·.refKey)=false:=by
   rw [List.any_eq_false]
   intro y hy
   obtain ⟨z,t,hkey⟩:=hk y (Array.mem_toList_iff.mp hy)
   simp [DictEntry.refKey,hkey]
  have a':¬ es.toList.any (·.refKey)=true:=by rw [a]; exact Bool.false_ne_true
  rw [if_neg a']
  exact congrArg some e
theorem Mj.look {h:Heap} {x dx C:Addr} {mA:Str->Option Value} (I:Mj h x dx C mA):∃ od,PySem.W.InstAt h x (PySem.W.instObj C dx) C (some od)/\∀ name,PySem.W.lookIn name od=some (mA name) :=
 let ⟨od,ho,hl⟩:=Np I.ns
 ⟨od,⟨I.obj,rfl,rfl,ho⟩,hl⟩
section
variable {prog:Program} {w:World} {A:Around} {E:Value->Shared->Prop} {s:Shared} {K:PySem.W.Frag} {x dx C f:Addr} {mA:Str->Option Value} {name:Str} {v:Value}
theorem Rh {expr:Bool} {Q:Value->Shared->Prop} (X:K.In s.heap) (I:Mj s.heap x dx C mA) (hg:PySem.W.plainGet K C name=true) (hh:PySem.W.hasDictIn K C=true)
  (ha:PySem.W.findIn K (.ref C) name=some none) (hv:mA name=some v) (hv':PySem.W.handedIn v=true) (h:Q v { s with toks:=s.toks+1 }) :
  wpAny (model prog w) A (getAttr (.ref x) name expr) Q E s:=by
 obtain ⟨od,J,hl⟩:=I.look
 exact PySem.W.get_value X J (PySem.W.plainGet_of hg).1 (PySem.W.findObj_own hh ha rfl (by rw [hl,hv])) hv' h
theorem Qd {pl:Sem Bool} {Q:Value × List Value->Shared->Prop} (X:K.In s.heap) (I:Mj s.heap x dx C mA) (hg:PySem.W.plainGet K C name=true)
  (hf:PySem.W.findIn K (.ref C) name=some (some (.ref f))) (ht:PySem.W.isFn K (.ref f)=true) (hv:mA name=none) (h:Q (.ref f,[.ref x]) s) :
  wpAny (model prog w) A (getMethod (.ref x) name pl) Q E s:=by
 obtain ⟨od,J,hl⟩:=I.look
 exact PySem.W.method_fn X J (PySem.W.plainGet_of hg).1 (PySem.W.plainGet_of hg).2 hf (beq_iff_eq.mp ht) (by show (PySem.W.lookIn name od).map (·.isSome)=some false; rw [hl,hv]; rfl) h
theorem Ro {ns:List Str} {Q:Unit->Shared->Prop} (X:K.In s.heap) (I:Mj s.heap x dx C mA)
  (hs:PySem.W.findIn K (.ref C) "__setattr__" = some (some (.builtin "object.__setattr__"))) (hp:PySem.W.plainOver K C=true) (ht:PySem.W.takerIn K C name=some none) (hh:PySem.W.hasDictIn K C=true)
  (hw:PySem.Within mA ns) (hsz:ns.length<=sizeLine)
  (h:∀ h',Mj h' x dx C (fun y=>if y=name then some v else mA y)->Heap.SameBut dx s.heap h'->Q () { s with heap:=h',toks:=s.toks+2 }) :
  wpAny (model prog w) A (setAttr (.ref x) name v) Q E s:=by
 obtain ⟨od,J,hl⟩:=I.look
 refine PySem.W.set_plain X J hs (PySem.W.osa_open (s:={ s with toks:=s.toks+1 }) (r:=none) X J hp ht fun b=>?_)
 obtain ⟨cd,hc,hd'⟩:=PySem.W.any_some hh
 have hx:s.heap.get? x=some ⟨.ref C,some dx,.plain,#[]⟩:=I.obj
 refine wpAny_bind (wpAny_pure (wpAny_bind (wpAny_bind (wpAny_loadPart hx (wpAny_bind (PySem.W.Looks.here (s:={ s with toks:=s.toks+1 }) (PySem.W.looks_clsIn X hc) ?_))))))
 rw [hd']
 refine wpAny_pure (a:=some dx) (wpAny_bind (wpAny_pure (wpAny_bind ?_)))
 refine wpAny_nsSet1 (s:={ s with toks:=s.toks+1 }) I.ns fun h' hn2 hs2=>?_
 obtain ⟨oD,esD,epD,hoD,hdD,hcD⟩:=hn2.count (PySem.Within.cons name v hw)
 refine wpAny_bind (wpAny_lookBehind hoD (by rw [hdD]; exact pastItsLine_dict (Nat.le_trans hcD (by rw [List.length_cons]; omega))) ?_)
 exact wpAny_pure (h _ ⟨(hs2.2 _ (Ne.symm I.ne)).trans I.obj,hn2,I.ne⟩ hs2)
theorem PQ {R:Result->Shared->Prop} {vs:List Value} {kw:List (Str × Value)} (X:K.In s.heap) (hm:PySem.W.makesIn K C=true)
  (hi:PySem.W.findIn K (.ref C) "__init__" = some (some (.ref f))) (hf:PySem.W.typeIn K (.ref f)=some (.type "function"))
  (h:codeAny (model prog w) (A.under (.builtin "type.__call__" ⟨.ref C::vs,kw⟩)) (.call (.ref f) ⟨.ref (s.heap.objs.size+1)::vs,kw⟩) (PySem.W.InitBack (s.heap.objs.size+1) R)
   { s with heap:=(s.heap.push PySem.W.emptyDict).push (PySem.W.instObj C s.heap.objs.size) }) :
  codeAny (model prog w) A (.call (.ref C) ⟨vs,kw⟩) R s:=by
 obtain ⟨hh,g,d,t,os⟩:=s
 exact PySem.W.make_core (PySem.W.makes_of X hm) (PySem.W.looks_findIn X hi) (fun self=>PySem.W.bind_fn X self hf) (.inl rfl) h
end
noncomputable def Bh (f:Str) (v:V):List (Str × V)->List (Str × V)
 | []=>[(f,v)]
 | (g,x)::r=>if g=f then (g,v)::r else (g,x)::Bh f v r
theorem Ai (f g:Str) (v:V):∀ fs:List (Str × V),(Bh f v fs).lookup g=if g=f then some v else fs.lookup g
 | []=>by
  show List.lookup g [(f,v)]=_
  by_cases h:g=f
  ·have hb:(g == f)=true:=beq_iff_eq.mpr h
   simp only [List.lookup,hb,if_pos h]
  ·have hb:(g == f)=false:=beq_eq_false_iff_ne.mpr h
   simp only [List.lookup,hb,if_neg h]
 | (k,x)::r=>by
  have ih:=Ai f g v r
  rw [show Bh f v ((k,x)::r)=(if k=f then (k,v)::r else (k,x)::Bh f v r) from rfl]
  by_cases hk:k=f
  ·rw [if_pos hk]
   by_cases h:g=k
   ·have hb:(g == k)=true:=beq_iff_eq.mpr h
    simp only [List.lookup,hb,if_pos (h.trans hk)]
   ·have hb:(g == k)=false:=beq_eq_false_iff_ne.mpr h
    simp only [List.lookup,hb,if_neg (fun e:g=f=>h (e.trans hk.symm))]
  ·rw [if_neg hk]
   by_cases h:g=k
   ·have hb:(g == k)=true:=beq_iff_eq.mpr h
    simp only [List.lookup,hb,if_neg (fun e:g=f=>hk (h.symm.trans e))]
   ·have hb:(g == k)=false:=beq_eq_false_iff_ne.mpr h
    simp only [List.lookup,hb]
    exact ih
theorem Hr (f:Str) (v:V):∀ fs:List (Str × V),f∈(Bh f v fs).map (·.1)/\∀ g,g∈fs.map (·.1)->g∈(Bh f v fs).map (·.1)
 | []=>⟨by simp [Bh],fun g h=>by simp at h⟩
 | (k,x)::r=>by
  obtain ⟨i1,i2⟩:=Hr f v r
  rw [show Bh f v ((k,x)::r)=(if k=f then (k,v)::r else (k,x)::Bh f v r) from rfl]
  by_cases hk:k=f
  ·rw [if_pos hk]
   subst hk
   exact ⟨by simp,fun g h=>by simpa using h⟩
  ·rw [if_neg hk]
   refine ⟨?_,fun g h=>?_⟩
   ·rw [List.map_cons]
    exact List.mem_cons_of_mem _ i1
   ·rw [List.map_cons] at h ⊢
    rcases List.mem_cons.mp h with e | e
    ·exact List.mem_cons.mpr (.inl e)
    ·exact List.mem_cons_of_mem _ (i2 g e)
theorem Hu (f:Str) (v:V):∀ fs:List (Str × V),(Bh f v fs).length<=fs.length+1
 | []=>by simp [Bh]
 | (k,x)::r=>by
  have ih:=Hu f v r
  rw [show Bh f v ((k,x)::r)=(if k=f then (k,v)::r else (k,x)::Bh f v r) from rfl]
  by_cases hk:k=f
  ·rw [if_pos hk,List.length_cons,List.length_cons]; omega
  ·rw [if_neg hk,List.length_cons,List.length_cons]; omega
theorem Fd.some_of {v:V} {o:Option Value} (r:Fd (some v) o):∃ u,o=some u/\RelV v u:=by
 cases o with
 | none=>exact (show False from r).elim
 | some u=>exact ⟨u,rfl,r⟩
theorem Fd.none_of {o:Option Value} (r:Fd none o):o=none:=by
 cases o with
 | none=>rfl
 | some u=>exact (show False from r).elim
theorem N6 {v:V} {u:Value} (r:RelV v u):PySem.W.handedIn u=true:=by
 cases v with
 | non=>cases (show u=Value.none from r); rfl
 | bl b=>cases (show u=Value.bool b from r); rfl
 | int i=>obtain ⟨t,e⟩:=(show ∃ t,u=Value.int i t from r); cases e; rfl
 | str x=>obtain ⟨t,e⟩:=(show ∃ t,u=Value.str x t from r); cases e; rfl
 | byt b=>obtain ⟨t,e⟩:=(show ∃ t,u=Value.bytes b t from r); cases e; rfl
 | flt b=>obtain ⟨t,e⟩:=(show ∃ t,u=Value.float b t from r); cases e; rfl
 | ref a=>cases (show u=Value.ref a from r); rfl
 | ty n=>cases (show u=Value.type n from r); rfl
section
variable {P:Program} {w:World} {H H':Hp} {h h':Heap} {a C dx:Addr} {fs fs':List (Str × V)}
theorem Ie (hok:G9 P w H h) (e:H a=some (.ins C dx fs)):∃ mA,Mj h a dx C mA/\(∀ f,Fd (fs.lookup f) (mA f))/\PySem.Within mA (fs.map (·.1))/\fs.length<=1000/\H dx=some (.own a):=by
 obtain ⟨d,z,ne,ob,mA,n,r,q⟩:=(show CQ P w H h a (.ins C dx fs) from hok a _ e)
 exact ⟨mA,⟨ob,n,ne⟩,r,q,z,d⟩
end
structure QG (K:PySem.W.Frag) (C:Addr):Prop where
 pg:PySem.W.plainGet K C Str.empty=true
 hd:PySem.W.hasDictIn K C=true
 po:PySem.W.plainOver K C=true
 sa:PySem.W.findIn K (.ref C) "__setattr__" = some (some (.builtin "object.__setattr__"))
theorem QG.get {K:PySem.W.Frag} {C:Addr} (c:QG K C) (f:Str):PySem.W.plainGet K C f=true:=c.pg
noncomputable def DK (K:PySem.W.Frag) (C:Addr) (f:Str):Prop:=PySem.W.findIn K (.ref C) f=some none
theorem DK.taker {K:PySem.W.Frag} {C:Addr} {f:Str} (n:DK K C f):PySem.W.takerIn K C f=some none:=by
 unfold PySem.W.takerIn
 rw [show PySem.W.findIn K (.ref C) f=some none from n]
 rfl
structure Meth (K:PySem.W.Frag) (C:Addr) (m:Str) (f:Addr):Prop where
 at_:PySem.W.findIn K (.ref C) m=some (some (.ref f))
 fn:PySem.W.isFn K (.ref f)=true
 kp:PySem.W.keepIn K (.ref f)=true
section
variable {X:Cx} {pins:List (Addr × Obj)} {σ:St} {H:Hp} {s:Shared} {a C dx:Addr} {fs:List (Str × V)} {f:Str} {v:V} {A:Around} {E:Value->Shared->Prop}
theorem Lx {b:Bool} {Q:Value->Shared->Prop} (I:Inv X pins σ H s) (e:H a=some (.ins C dx fs)) (c:QG X.K C) (n:DK X.K C f) (l:fs.lookup f=some v)
  (h:∀ u s',Inv X pins σ H s'->RelV v u->Q u s'):wpAny (model X.prog X.w) A (getAttr (.ref a) f b) Q E s:=by
 obtain ⟨mA,O,r,_,_,_⟩:=Ie I.hok e
 obtain ⟨u,hu,ru⟩:=Fd.some_of (v:=v) (o:=mA f) (by rw [← l]; exact r f)
 exact Rh I.Hf O (c.get f) c.hd n hu (N6 ru) (h u _ (I.tok _) ru)
theorem JF {m:Str} {g:Addr} {pl:Sem Bool} {Q:Value × List Value->Shared->Prop} (I:Inv X pins σ H s) (e:H a=some (.ins C dx fs)) (c:QG X.K C) (k:Meth X.K C m g) (l:fs.lookup m=none)
  (h:Q (.ref g,[.ref a]) s):wpAny (model X.prog X.w) A (getMethod (.ref a) m pl) Q E s:=by
 obtain ⟨mA,O,r,_,_,_⟩:=Ie I.hok e
 have hn:mA m=none:=Fd.none_of (by rw [← l]; exact r m)
 exact Qd I.Hf O (c.get m) k.at_ k.fn hn h
theorem Mf {y:V} {u:Value} {Q:Unit->Shared->Prop} (I:Inv X pins σ H s) (e:H a=some (.ins C dx fs)) (c:QG X.K C) (n:DK X.K C f) (hl:fs.length<1000) (ry:RelV y u)
  (h:∀ s',Inv X pins σ (upd H a (.ins C dx (Bh f y fs))) s'->Q () s'):wpAny (model X.prog X.w) A (setAttr (.ref a) f u) Q E s:=by
 obtain ⟨mA,O,r,wi,_,ho⟩:=Ie I.hok e
 have hz:(fs.map (·.1)).length<=sizeLine:=by rw [List.length_map,sizeLine_eq]; omega
 refine Ro I.Hf O c.sa c.po n.taker c.hd wi hz fun h' O' sb=>h _ ?_
 have hd:∃ o,h'.get? dx=some o:=let ⟨o,_,_,e',_⟩:=O'.ns; ⟨o,e'⟩
 refine I.write (x:=a) (e:=dx) (by rw [e]; exact True.intro) (.inr ho) (fun b q hb z=>(sb.2 b hb).trans z) hd ?_
 refine ⟨by rw [An O.ne]; exact ho,?_,O.ne,O'.obj,_,O'.ns,fun g=>?_,fun g hg=>?_⟩
 ·have:=Hu f y fs; omega
 ·show Fd ((Bh f y fs).lookup g) (if g=f then some u else mA g)
  rw [Ai]
  by_cases q:g=f
  ·rw [if_pos q,if_pos q]; exact ry
  ·rw [if_neg q,if_neg q]; exact r g
 ·by_cases q:g=f
  ·rw [q]; exact (Hr f y fs).1
  ·refine (Hr f y fs).2 g (wi g fun z=>hg ?_)
   show (if g=f then some u else mA g)=none
   rw [if_neg q]; exact z
theorem Inv.made (I:Inv X pins σ H s):Inv X pins σ (upd (upd H s.heap.objs.size (.own (s.heap.objs.size+1))) (s.heap.objs.size+1) (.ins C s.heap.objs.size []))
  { s with heap:=(s.heap.push PySem.W.emptyDict).push (PySem.W.instObj C s.heap.objs.size) }:=by
 have e1:(s.heap.push PySem.W.emptyDict).get? s.heap.objs.size=some PySem.W.emptyDict:=Heap.get?_push_size s.heap rfl
 have e2:((s.heap.push PySem.W.emptyDict).push (PySem.W.instObj C s.heap.objs.size)).get? (s.heap.objs.size+1)=some (PySem.W.instObj C s.heap.objs.size):=by
  have:=Heap.get?_push_size (s.heap.push PySem.W.emptyDict) (o:=PySem.W.instObj C s.heap.objs.size) rfl
  rwa [Heap.size_push] at this
 have e3:(s.heap.push PySem.W.emptyDict).Ns s.heap.objs.size (fun _=>none):=⟨PySem.W.emptyDict,#[],_,e1,rfl,(fun e he=>absurd he (by simp)),fun _=>rfl⟩
 have I1:=I.laid (a:=s.heap.objs.size) (o:=.own (s.heap.objs.size+1)) (h':=s.heap.push PySem.W.emptyDict) (t':=s.toks) (fun b u q=>Heap.get?_push_of_some _ q) (Nat.le_refl _) ⟨_,e1⟩
 refine I1.laid (a:=s.heap.objs.size+1) (o:=.ins C s.heap.objs.size []) (t':=s.toks) (fun b u q=>Heap.get?_push_of_some _ q) (Nat.le_of_eq (Heap.size_push _ _)) ?_
 have ne:s.heap.objs.size ≠ s.heap.objs.size+1:=Nat.ne_of_lt (Nat.lt_succ_self _)
 refine ⟨by rw [An ne,Af],Nat.zero_le _,ne,e2,fun _=>none,(Heap.Ns1.of_empty e3).at fun o q=>Heap.get?_push_of_some _ q,fun _=>True.intro,fun y hy=>absurd rfl hy⟩
theorem RV {prog:Program} {w:World} {env:Env} {e:Expr} {f:Str} {pos:Pos} {s:Shared} {Q:Value->Shared->Prop} (hb:attributeBase e f env (eval e env)=eval e env)
  (h:wpAny (model prog w) A (eval e env) (fun o s₁=>wpAny (model prog w) A (getAttr o f true) Q E s₁) E s):wpAny (model prog w) A (eval (.Attribute e f pos) env) Q E s :=
 Attribute_any_ h (by rw [arm_eval_Attribute,hb])
end
noncomputable def W8 (K:PySem.W.Frag) (ta:TE) (f:Str):TE:=fun σ H Q=>ta σ H fun x H1=>∃ a C dx fs v,x=.ref a/\H1 a=some (.ins C dx fs)/\QG K C/\DK K C f/\fs.lookup f=some v/\Q v H1
noncomputable def bG (K:PySem.W.Frag) (ta tv:TE) (f:Str):TS:=fun D σ H=>tv σ H fun y H1=>ta σ H1 fun x H2=>∃ a C dx fs,x=.ref a/\H2 a=some (.ins C dx fs)/\QG K C/\DK K C f/\fs.length<1000 /\
 D.nx σ (upd H2 a (.ins C dx (Bh f y fs)))
section
variable {X:Cx} {o e value:Expr} {f:Str} {pos pos' tpos:Pos} {ta tv:TE}
theorem De (he:PE X e ta) (hb:attributeBase e f X.env (eval e X.env)=eval e X.env):PE X (.Attribute e f pos) (W8 X.K ta f):=by
 intro pins s σ H Q I h
 refine RV hb (CP (he pins s σ H _ I h) fun u s1 hq0=>?_)
 obtain ⟨x,H1,I1,rx,a,C,dx,fs,v,ex,ea,c,n,l,q⟩:=hq0
 subst ex
 obtain rfl:u=Value.ref a:=rx
 exact Lx I1 ea c n l fun u' s2 I2 ru=>⟨v,H1,I2,ru,q⟩
theorem Eo (ha:PE X o ta) (hv:PE X value tv) (hs:swapsWith value (some (.Attribute o f pos')) pos.line X.env=pure false):PS X (.Assign [.Attribute o f pos'] value pos) (bG X.K ta tv f):=by
 intro pins s σ H D I h
 refine plainObj_wpAny_Assign_Attribute (CP (hv pins s σ H _ I h) fun u s1 ⟨y,H1,I1,ry,q⟩=>CP (ha pins s1 σ H1 _ I1 q) fun ov s2 ⟨x,H2,I2,rx,a,C,dx,fs,ex,ea,c,n,l,q2⟩=>?_) hs
 subst ex
 obtain rfl:ov=Value.ref a:=rx
 exact Mf I2 ea c n l ry fun s3 I3=>⟨σ,_,I3,q2⟩
end
section
variable {X:Cx} {pins:List (Addr × Obj)} {σ:St} {H:Hp} {s:Shared} {A:Around} {E:Value->Shared->Prop} {Q:Value->Shared->Prop} {c:Value} {b:Bool}
inductive HD (K:PySem.W.Frag) (H:Hp):V->Value->Prop where
 | non:HD K H .non (.type "NoneType")
 | bl (x:Bool):HD K H (.bl x) (.type "bool")
 | int (i:Int):HD K H (.int i) (.type "int")
 | str (x:Str):HD K H (.str x) (.type "str")
 | flt (x:UInt64):HD K H (.flt x) (.type "float")
 | lst {a:Addr} {xs:List V} (e:H a=some (.lst xs)):HD K H (.ref a) (.type "list")
 | frz {a:Addr} {o:Obj} {xs:List V} (e:H a=some (.frz o (.lst xs))):HD K H (.ref a) (.type "list")
 | tup {a:Addr} {xs:List V} (e:H a=some (.tup xs)):HD K H (.ref a) (.type "tuple")
 | dK {a:Addr} {kvs:List (Key × V)} (e:H a=some (.dK kvs)):HD K H (.ref a) (.type "dict")
 | dT {a:Addr} {kvs:List (List Key × V)} (e:H a=some (.dT kvs)):HD K H (.ref a) (.type "dict")
 | ins {a C dx:Addr} {fs:List (Str × V)} (e:H a=some (.ins C dx fs)) (cl:QG K C) (ha:PySem.W.findIn K (.ref C) "__class__" = some (some (.builtin "object.__class__")))
   (hn:PySem.W.specialIn K (.builtin "object.__class__") "__get__" = some (some (.builtin "getset_descriptor.__get__"))) (htk:PySem.W.takesIn K (.builtin "object.__class__")=some true)
   (hm:PySem.W.mroIn K C (.type "object")=some true):HD K H (.ref a) (.ref C)
theorem Ou {x:V} {u t:Value} (I:Inv X pins σ H s) (rx:RelV x u) (ty:HD X.K H x t) (e:PySem.W.kitOne X.K t c=some b) (h:∀ tk,Q (.bool b) { s with toks:=tk }) :
  wpAny (model X.prog X.w) A (call (.builtin "isinstance") [u,c]) Q E s:=by
 cases ty with
 | non=>cases (show u=Value.none from rx); exact PySem.W.kia_one PySem.W.kitx_none I.Hf True.intro e (fun z=>nomatch z) h
 | bl y=>cases (show u=Value.bool y from rx); exact PySem.W.kia_one PySem.W.kitx_bool I.Hf True.intro e (fun z=>nomatch z) h
 | int i=>obtain ⟨t,q⟩:=(show ∃ t,u=Value.int i t from rx); cases q; exact PySem.W.kia_one PySem.W.kitx_int I.Hf True.intro e (fun z=>nomatch z) h
 | str y=>obtain ⟨t,q⟩:=(show ∃ t,u=Value.str y t from rx); cases q; exact PySem.W.kia_one PySem.W.kitx_str I.Hf True.intro e (fun z=>nomatch z) h
 | flt y=>obtain ⟨t,q⟩:=(show ∃ t,u=Value.float y t from rx); cases q; exact PySem.W.kia_one PySem.W.kitx_float I.Hf True.intro e (fun z=>nomatch z) h
 | @lst a xs ea =>
  cases (show u=Value.ref a from rx)
  obtain ⟨_,_,n,_,h1⟩:=(show CQ X.prog X.w H s.heap a (.lst xs) from I.hok a _ ea)
  exact PySem.W.kia_one PySem.W.kitx_list I.Hf ⟨_,h1,rfl⟩ e (fun z=>nomatch z) h
 | @frz a ob xs ea =>
  cases (show u=Value.ref a from rx)
  obtain ⟨_,_,_,n,_,h1⟩:=(show CQ X.prog X.w H s.heap a (.frz ob (.lst xs)) from I.hok a _ ea)
  exact PySem.W.kia_one PySem.W.kitx_list I.Hf ⟨_,h1,rfl⟩ e (fun z=>nomatch z) h
 | @tup a xs ea =>
  cases (show u=Value.ref a from rx)
  obtain ⟨_,_,_,p⟩:=(show CQ X.prog X.w H s.heap a (.tup xs) from I.hok a _ ea)
  obtain ⟨o,h1,h2,_⟩:=p
  exact PySem.W.kia_one PySem.W.kitx_tuple I.Hf ⟨o,h1,h2⟩ e (fun z=>nomatch z) h
 | @dK a kvs ea =>
  cases (show u=Value.ref a from rx)
  obtain ⟨_,_,vs,_,p⟩:=(show CQ X.prog X.w H s.heap a (.dK kvs) from I.hok a _ ea)
  obtain ⟨o,es,ep,h1,h2,_⟩:=p
  exact PySem.W.kia_one PySem.W.kitx_dict I.Hf ⟨o,h1,h2.1⟩ e (fun z=>nomatch z) h
 | @dT a kvs ea =>
  cases (show u=Value.ref a from rx)
  obtain ⟨_,_,xs,_,o,es,ep,h1,h2,_⟩:=(show CQ X.prog X.w H s.heap a (.dT kvs) from I.hok a _ ea)
  exact PySem.W.kia_one PySem.W.kitx_dict I.Hf ⟨o,h1,h2.1⟩ e (fun z=>nomatch z) h
 | @ins a C dx fs ea cl ha hn htk hm =>
  cases (show u=Value.ref a from rx)
  obtain ⟨mA,O,_⟩:=Ie I.hok ea
  obtain ⟨od,J,_⟩:=O.look
  exact PySem.W.kia_one (PySem.W.kitx_own (cl.get _) cl.hd ha hn htk hm) I.Hf J e (fun z=>nomatch z) h
end
end L2
namespace L2
open PySem PySem.Spec PyProof.Rows
structure Be (k:Nat) (A:Around):Prop where
 hd:A.handled=none
 dp:A.depth+3 * k+5<recursionLimit
 un:A.units+16 * k+200<cLine
theorem Be.mono {j k:Nat} {A:Around} (r:Be k A) (h:j<=k):Be j A:=⟨r.hd,by have:=r.dp; omega,by have:=r.un; omega⟩
theorem Be.deeper {k:Nat} {A:Around} (r:Be (k+1) A) (env:Env):Be k (A.deeper env) :=
 ⟨r.hd,by have:=r.dp; show A.depth+1+3 * k+5<_; omega,by have:=r.un; show A.units+3+16 * k+200<_; omega⟩
theorem Le {A:Around} {C:Addr} {us:List Value} {kw:List (Str × Value)}:(A.under (.builtin "type.__call__" ⟨.ref C::us,kw⟩)).depth=A.depth+1:=by
 first | rfl | simp [Around.under,Code.weight,Code.isCreation,Code.isGuard,Code.isCaller,Code.frames,Code.isFrame,guardIds]
theorem Ml {A:Around} {C:Addr} {us:List Value} {kw:List (Str × Value)}:(A.under (.builtin "type.__call__" ⟨.ref C::us,kw⟩)).units=A.units+1:=by
 first | rfl | simp [Around.under,Code.cUnits,Code.frames,Code.isFrame]
theorem Be.make {k:Nat} {A:Around} (r:Be (k+1) A) (C:Addr) (us:List Value) (kw:List (Str × Value)):Be k (A.under (.builtin "type.__call__" ⟨.ref C::us,kw⟩)) :=
 ⟨r.hd,by have:=r.dp; rw [Le]; omega,by have:=r.un; rw [Ml]; omega⟩
theorem Be.depth {k:Nat} {A:Around} (r:Be k A):A.depth<recursionLimit:=by have:=r.dp; omega
theorem Be.units {k:Nat} {A:Around} (r:Be k A):A.units+64<cLine:=by have:=r.un; omega
noncomputable def W5:TA:=fun _ H Q=>Q [] H
noncomputable def Sg (ta:TE) (tr:TA):TA:=fun σ H Q=>ta σ H fun x H1=>tr σ H1 fun xs H2=>Q (x::xs) H2
section
variable {X:Cx} {e:Expr} {es:List Expr} {te:TE} {t:TA} {pos:Pos}
theorem Ab:PA X [] W5:=fun _ _ _ _ H Q I h=>Calls.spliced_nil ⟨[],H,I,.nil,h⟩
theorem Aa (ha:PE X e te) (hr:PA X es t) (hs:starEach (e::es) X.env=(false,eval e X.env)::starEach es X.env:=by rfl):PA X (e::es) (Sg te t):=by
 intro pos pins s σ H Q I h
 rw [hs]
 show wpAny _ _ (spliced ((false,eval e X.env)::backTo pos (starEach es X.env))) _ _ s
 refine Calls.spliced_cons (CP (ha pins s σ H _ I h) fun u s1 hq0=>?_)
 obtain ⟨x,H1,I1,r1,q1⟩:=hq0
 exact CP (hr pos pins s1 σ H1 _ I1 q1) fun us s2 ⟨xs,H2,I2,r2,q2⟩=>⟨x::xs,H2,I2,.cons r1 r2,q2⟩
noncomputable def cA (t:TA):TE:=fun σ H Q=>t σ H fun xs H1=>xs.length<=sizeLine/\∀ p,H1 p=none->Q (.ref p) (upd H1 p (.tup xs))
noncomputable def Z9 (t:TA):TE:=fun σ H Q=>t σ H fun xs H1=>xs.length<=sizeLine/\∀ p,H1 p=none->Q (.ref p) (upd H1 p (.lst xs))
theorem Cd {x1} (h:PA X es t):PE X (.Tuple es x1 pos) (cA t):=by
 intro pins s σ H Q I hq
 refine wpAny_Tuple_spliced (CP (h pos pins s σ H _ I hq) fun us s1 ⟨xs,H1,I1,r,z,q⟩=>⟨by rw [← r.length]; exact z,?_⟩)
 have hf:H1 s1.heap.objs.size=none:=I1.hok.fresh (Nat.le_refl _)
 refine ⟨.ref s1.heap.objs.size,upd H1 s1.heap.objs.size (.tup xs),I1.laid (t':=s1.toks) (fun b u e=>Heap.get?_push_of_some _ e) (Nat.le_refl _) ?_,rfl,q _ hf⟩
 exact ⟨z,us,r,⟨_,Heap.get?_push_size _ rfl,rfl,_,rfl⟩⟩
theorem Bx (h:PA X es t):PE X (.List es pos) (Z9 t):=by
 intro pins s σ H Q I hq
 refine wpAny_List_spliced (CP (h pos pins s σ H _ I hq) fun us s1 ⟨xs,H1,I1,r,z,q⟩=>⟨by rw [← r.length]; exact z,?_⟩)
 have hf:H1 s1.heap.objs.size=none:=I1.hok.fresh (Nat.le_refl _)
 refine ⟨.ref s1.heap.objs.size,upd H1 s1.heap.objs.size (.lst xs),I1.laid (t':=s1.toks) (fun b u e=>Heap.get?_push_of_some _ e) (Nat.le_refl _) ?_,rfl,q _ hf⟩
 exact ⟨z,us,0,r,Heap.get?_push_size _ rfl⟩
end
noncomputable abbrev Sp:=List V->Hp->VK->XK->Prop
noncomputable abbrev QZ:=List Env->Hp->Shared->XK->Value->Shared->Prop
structure MF (P:Program) (w:World) (K:PySem.W.Frag) (mg:Str->Option Value) (base:Heap) (A:Around) (outer:List Env) (s:Shared) (H:Hp):Prop where
 frames:A.frames=some outer
 mod:Mod K mg base
 bs:∀ b o,base.get? b=some o->s.heap.get? b=some o/\H b=none
 bsz:base.objs.size<=s.heap.objs.size
 Hv:s.heap.FunFrames base outer
 frf:∀ b∈frs outer,H b=none
 hok:G9 P w H s.heap
 bare:AllBare s.gens
noncomputable def CE (outer:List Env) (P:Program) (w:World) (H:Hp) (s:Shared) (Q:VK) (u:Value) (s':Shared):Prop :=
 ∃ v H',s'.os=s.os/\AllBare s'.gens/\Un (frs outer) [] H H' s.heap s'.heap/\G9 P w H' s'.heap/\RelV v u/\Q v H'
noncomputable def CR (CX:QZ) (outer:List Env) (P:Program) (w:World) (H:Hp) (s:Shared) (Q:VK) (E:XK) (r:Result) (s':Shared):Prop :=
 match r with
 | .ok (.ret u)=>CE outer P w H s Q u s'
 | .ok _=>False
 | .error e=>CX outer H s E e s'
structure BK (P:Program) (w:World) (K:PySem.W.Frag) (mg:Str->Option Value) (base:Heap) (CX:QZ) (k:Nat) (f:Addr) (fd:FuncData) (ps:List Str) (sp:Sp):Prop where
 len:∀ vs H Q E,sp vs H Q E->vs.length=ps.length
 run:∀ (A:Around) (outer:List Env) (s:Shared) (H:Hp) (args:Args) (us:List Value) (vs:List V) (Q:VK) (E:XK),Be k A->MF P w K mg base A outer s H->BindsTo s fd args (ps.zip us)->Vals vs us->sp vs H Q E ->
  codeAny (model P w) A (.call (.ref f) args) (CR CX outer P w H s Q E) s
theorem MF.make {P:Program} {w:World} {K:PySem.W.Frag} {mg:Str->Option Value} {base:Heap} {A:Around} {outer:List Env} {s:Shared} {H:Hp} (e:MF P w K mg base A outer s H) (C:Addr) (us:List Value) (kw:List (Str × Value)) :
  MF P w K mg base (A.under (.builtin "type.__call__" ⟨.ref C::us,kw⟩)) outer s H:=⟨by first | exact e.frames | (simpa [Around.under,Code.envs,Code.isFrame,pushEnvs] using e.frames),e.mod,e.bs,e.bsz,e.Hv,e.frf,e.hok,e.bare⟩
section
variable {X:Cx} {pins:List (Addr × Obj)} {σ:St} {H:Hp} {s s':Shared}
theorem Inv.env0 (I:Inv X pins σ H s):MF X.prog X.w X.K X.mg X.base X.A X.stack s H :=
 ⟨I.ok.frames,I.ok.mod,I.bs,Nat.le_trans I.ok.bsz I.sz,I.stack,I.J_,I.hok,I.bare⟩
theorem Inv.after {Q:VK} {u:Value} (I:Inv X pins σ H s) (h:CE X.stack X.prog X.w H s Q u s'):EP X pins σ Q u s':=by
 obtain ⟨v,H',os,bare,un,hok,r,q⟩:=h
 obtain ⟨hh,g,d,t,os'⟩:=s'
 obtain rfl:os'=s.os:=os
 exact ⟨v,H',I.call (h':=hh) (g':=g) (d':=d) (t':=t) (ch:=[]) un hok bare (fun b z=>absurd z (by simp)),r,q⟩
end
noncomputable def ZZ (sp:Sp) (dvs:List V) (E:XK) (t:TA):TE:=fun σ H Q=>t σ H fun vs H1=>sp (vs++dvs) H1 Q E
noncomputable def Sw (C:Addr) (m:Str) (sp:Sp) (dvs:List V) (E:XK) (ta:TE) (t:TA):TE:=fun σ H Q=>ta σ H fun x H1=>∃ a dx fs,x=.ref a/\H1 a=some (.ins C dx fs)/\fs.lookup m=none /\
 t σ H1 fun vs H2=>sp (x::(vs++dvs)) H2 Q E
noncomputable def Wv (C:Addr) (sp:Sp) (dvs:List V) (E:XK) (t:TA):TE:=fun σ H Q=>t σ H fun vs H1=>∀ x dx,H1 x=none->H1 dx=none->dx ≠ x ->
 sp (.ref x::(vs++dvs)) (upd (upd H1 dx (.own x)) x (.ins C dx [])) (fun v H2=>v=.non/\Q (.ref x) H2) E
noncomputable def Binds (K:PySem.W.Frag) (fd:FuncData) (ps:List Str) (ds:List Value):Prop :=
 ∀ (s:Shared) (us:List Value),K.In s.heap->(us++ds).length=ps.length->BindsTo s fd ⟨us,[]⟩ (ps.zip (us++ds))
theorem Binds.all {K:PySem.W.Frag} {fd:FuncData} {ps:List Str} (h:∀ us:List Value,us.length=ps.length->bindArgs fd ⟨us,[]⟩=pure (ps.zip us)):Binds K fd ps []:=fun s us _ hl=>by
 rw [List.append_nil] at hl ⊢
 exact .of_eq (h us hl)
noncomputable def Gx (CX:QZ) (X:Cx) (E:XK):Prop:=∀ (pins:List (Addr × Obj)) (σ:St) (H:Hp) (s:Shared) (e:Value) (s':Shared),Inv X pins σ H s->CX X.stack H s E e s'->X.xe e s'
section
variable {X:Cx} {CX:QZ} {k:Nat} {f C:Addr} {fd:FuncData} {ps:List Str} {sp:Sp} {dvs:List V} {ds:List Value} {E:XK} {x m:Str} {p pos apos:Pos} {e o:Expr} {es:List Expr} {ta:TE} {t:TA}
theorem Ma {pins:List (Addr × Obj)} {σ:St} {H:Hp} {s:Shared} {Q:VK} {us:List Value} {vs:List V} (F:BK X.prog X.w X.K X.mg X.base CX k f fd ps sp) (hr:Be k X.A) (hb:Binds X.K fd ps ds) (hd:Vals dvs ds) (hx:Gx CX X E)
  (I:Inv X pins σ H s) (r:Vals vs us) (h:sp (vs++dvs) H Q E):wpAny (model X.prog X.w) X.A (call (.ref f) us) (EP X pins σ Q) X.xe s:=by
 have r2:Vals (vs++dvs) (us++ds):=r.append hd
 have hl:(us++ds).length=ps.length:=by rw [← r2.length]; exact F.len _ _ _ _ h
 refine wpAny_call (codeAny_mono (F.run X.A X.stack s H ⟨us,[]⟩ (us++ds) (vs++dvs) Q E hr I.env0 (hb s us I.Hf hl) r2 h) fun r s' hq=>?_)
 cases r with
 | error e=>exact hx pins σ H s e s' I hq
 | ok fl =>
  cases fl with
  | ret u=>exact I.after hq
  | next=>exact False.elim hq
  | brk=>exact False.elim hq
  | cont=>exact False.elim hq
theorem Aj (F:BK X.prog X.w X.K X.mg X.base CX k f fd ps sp) (hr:Be k X.A) (hg:Gl X x) (hm:X.mg x=some (.ref f)) (hk:PySem.W.keepIn X.K (.ref f)=true) (hb:Binds X.K fd ps ds) (hd:Vals dvs ds) (hx:Gx CX X E)
  (ha:PA X (e::es) t) (hdb:(x == ("__debug__" : Str))=false:=by decide) (he:starEach (e::es) X.env=(false,eval e X.env)::starEach es X.env:=by rfl) (hpl:(backTo pos (starEach es X.env)).any (·.1)=false:=by rfl) :
  PE X (.Call (.Name x p) (e::es) [] pos) (ZZ sp dvs E t):=by
 intro pins s σ H Q I h
 refine wpAny_Call_Name_kw (Jw I hg hm ?_ hdb)
 refine PySem.W.callWith_K (h₀:=X.base) I.ok.mod.kin hk (CP (ha pos pins s σ H _ I h) fun us s1 ⟨vs,H1,I1,r,q⟩=>⟨I1.Hf,?_⟩) he hpl
 exact Ma F hr hb hd hx I1 r q
theorem Er {pl:Sem Bool} (he:PE X o ta) (c:QG X.K C) (hm:Meth X.K C m f) (F:BK X.prog X.w X.K X.mg X.base CX k f fd ps sp) (hr:Be k X.A) (hb:Binds X.K fd ps ds) (hd:Vals dvs ds) (hx:Gx CX X E) (ha:PA X (e::es) t)
  (hst:starEach (e::es) X.env=(false,eval e X.env)::starEach es X.env:=by rfl) (hpl:(backTo pos (starEach es X.env)).any (·.1)=false:=by rfl)
  (ht:eval (.Call (.Attribute o m apos) (e::es) [] pos) X.env=(do
   let ov ← eval o X.env
   standAt apos.atName
   let (f,first) ← holding [ov] (getMethod ov m pl)
   callWith pos f first (backTo pos (starEach (e::es) X.env)) (backToKw pos (keywordEach [] X.env))):=by rfl) :
  PE X (.Call (.Attribute o m apos) (e::es) [] pos) (Sw C m sp dvs E ta t):=by
 intro pins s σ H Q I h
 refine PySem.W.methodCall_KW (pl:=pl) (CP (he pins s σ H _ I h) fun u s1 ⟨x,H1,I1,rx,a,dx,fs,ex,ea,l,q⟩=>?_) ht
 subst ex
 obtain rfl:u=Value.ref a:=rx
 refine JF I1 ea c hm l ?_
 refine PySem.W.callWith_K (first:=[.ref a]) (h₀:=X.base) I.ok.mod.kin hm.kp (CP (ha pos pins s1 σ H1 _ I1 q) fun us s2 ⟨vs,H2,I2,r,q2⟩=>⟨I2.Hf,?_⟩) hst hpl
 exact Ma (us:=.ref a::us) (vs:=.ref a::vs) F hr hb hd hx I2 (.cons rfl r) q2
theorem Pj {pl:Sem Bool} (he:PE X o ta) (c:QG X.K C) (hm:Meth X.K C m f) (F:BK X.prog X.w X.K X.mg X.base CX k f fd ps sp) (hr:Be k X.A) (hb:Binds X.K fd ps ds) (hd:Vals dvs ds) (hx:Gx CX X E)
  (ht:eval (.Call (.Attribute o m apos) [] [] pos) X.env=(do
   let ov ← eval o X.env
   standAt apos.atName
   let (f,first) ← holding [ov] (getMethod ov m pl)
   callWith pos f first (backTo pos (starEach [] X.env)) (backToKw pos (keywordEach [] X.env))):=by rfl) :
  PE X (.Call (.Attribute o m apos) [] [] pos) (Sw C m sp dvs E ta W5):=by
 intro pins s σ H Q I h
 refine PySem.W.methodCall_KW (pl:=pl) (CP (he pins s σ H _ I h) fun u s1 ⟨x,H1,I1,rx,a,dx,fs,ex,ea,l,q⟩=>?_) ht
 subst ex
 obtain rfl:u=Value.ref a:=rx
 refine JF I1 ea c hm l ?_
 exact PySem.W.callWith_K0 (first:=[.ref a]) I1.Hf hm.kp (Ma (us:=[.ref a]) (vs:=[.ref a]) F hr hb hd hx I1 (.cons rfl .nil) q)
structure Mk (K:PySem.W.Frag) (C f:Addr):Prop where
 makes:PySem.W.makesIn K C=true
 init:PySem.W.findIn K (.ref C) "__init__" = some (some (.ref f))
 fn:PySem.W.isFn K (.ref f)=true
 kp:PySem.W.keepIn K (.ref C)=true
theorem O8 {pins:List (Addr × Obj)} {σ:St} {H:Hp} {s:Shared} {Q:VK} {us:List Value} {vs:List V} (M:Mk X.K C f) (F:BK X.prog X.w X.K X.mg X.base CX k f fd ps sp) (hr:Be (k+1) X.A) (hb:Binds X.K fd ps ds) (hd:Vals dvs ds)
  (hx:Gx CX X E) (I:Inv X pins σ H s) (r:Vals vs us)
  (h:∀ x dx,H x=none->H dx=none->dx ≠ x->sp (.ref x::(vs++dvs)) (upd (upd H dx (.own x)) x (.ins C dx [])) (fun v H2=>v=.non/\Q (.ref x) H2) E) :
  wpAny (model X.prog X.w) X.A (call (.ref C) us) (EP X pins σ Q) X.xe s:=by
 have hq:=h (s.heap.objs.size+1) s.heap.objs.size (I.hok.fresh (Nat.le_succ _)) (I.hok.fresh (Nat.le_refl _)) (Nat.ne_of_lt (Nat.lt_succ_self _))
 have I2:=Inv.made (C:=C) I
 have r2:Vals (V.ref (s.heap.objs.size+1)::(vs++dvs)) (Value.ref (s.heap.objs.size+1)::(us++ds)):=.cons rfl (r.append hd)
 have hl:(Value.ref (s.heap.objs.size+1)::us++ds).length=ps.length:=by
  have e:=r2.length
  rw [F.len _ _ _ _ hq] at e
  exact e.symm
 refine wpAny_call (PQ (f:=f) I.Hf M.makes M.init (beq_iff_eq.mp M.fn) (codeAny_mono (F.run _ X.stack _ _ ⟨Value.ref (s.heap.objs.size+1)::us,[]⟩ (Value.ref (s.heap.objs.size+1)::(us++ds)) _ _ E (hr.make C us [])
  (I2.env0.make C us []) (hb _ (Value.ref (s.heap.objs.size+1)::us) I2.Hf hl) r2 hq) fun r s' hq'=>?_))
 cases r with
 | error e=>exact hx pins σ _ _ e s' I2 hq'
 | ok fl =>
  cases fl with
  | ret u =>
   obtain ⟨v,H',I3,rv,ev,q3⟩:=I2.after hq'
   subst ev
   exact ⟨rv,⟨V.ref (s.heap.objs.size+1),H',I3,rfl,q3⟩⟩
  | next=>exact False.elim hq'
  | brk=>exact False.elim hq'
  | cont=>exact False.elim hq'
theorem Rz (M:Mk X.K C f) (F:BK X.prog X.w X.K X.mg X.base CX k f fd ps sp) (hr:Be (k+1) X.A) (hg:Gl X x) (hm:X.mg x=some (.ref C)) (hb:Binds X.K fd ps ds) (hd:Vals dvs ds) (hx:Gx CX X E)
  (ha:PA X (e::es) t) (hdb:(x == ("__debug__" : Str))=false:=by decide) (he:starEach (e::es) X.env=(false,eval e X.env)::starEach es X.env:=by rfl) (hpl:(backTo pos (starEach es X.env)).any (·.1)=false:=by rfl) :
  PE X (.Call (.Name x p) (e::es) [] pos) (Wv C sp dvs E t):=by
 intro pins s σ H Q I h
 refine wpAny_Call_Name_kw (Jw I hg hm ?_ hdb)
 refine PySem.W.callWith_K (h₀:=X.base) I.ok.mod.kin M.kp (CP (ha pos pins s σ H _ I h) fun us s1 ⟨vs,H1,I1,r,q⟩=>⟨I1.Hf,?_⟩) he hpl
 exact O8 M F hr hb hd hx I1 r q
end
section
variable {X:Cx} {CX:QZ} {k:Nat} {f C:Addr} {fd:FuncData} {ps ks:List Str} {sp:Sp} {E:XK} {x m:Str} {p pos apos kpos:Pos} {e o:Expr} {es:List Expr} {kws:List Keyword} {te ta:TE} {t tk:TA} {nm:Option Str}
variable {g:List Value->List Value->List Value} {gV:List V->List V->List V}
end
structure BP (N P:List Str) (sc:Scope):Prop where
 kind:sc.kind=.function
 co:sc.isCoroutine=false
 gen:sc.isGenerator=false
 nd:N.Nodup
 pre:N.take P.length=P
 par:∀ x∈P,sc.names.lookup x=some .local \/ sc.names.lookup x=some .cell
 nofree:∀ y∈sc.names,y.2 ≠ .free
theorem JT {kindOf:Str->Option NameKind} {x:Str}:∀ {binds:List (Str × Value)} {m:Str->Option Value},(∀ v,(x,v) ∉ binds)->bindL kindOf binds m x=m x
 | [],_,_=>rfl
 | (n,v)::r,m,h=>by
  unfold bindL
  rw [JT fun w hw=>h w (List.mem_cons_of_mem _ hw)]
  split
  ·have:x ≠ n:=by rintro rfl; exact h v List.mem_cons_self
   simp [this]
  ·rfl
theorem Je {kindOf:Str->Option NameKind} {x:Str}:∀ {binds:List (Str × Value)} {m:Str->Option Value},(∀ v,(x,v) ∉ binds)->bindC kindOf binds m x=m x
 | [],_,_=>rfl
 | (n,v)::r,m,h=>by
  unfold bindC
  rw [Je fun w hw=>h w (List.mem_cons_of_mem _ hw)]
  split
  ·rfl
  ·have:x ≠ n:=by rintro rfl; exact h v List.mem_cons_self
   simp [this]
theorem Jk {kindOf:Str->Option NameKind} {x:Str} {v:Value}:∀ {P:List Str} {vs:List Value} {i:Nat} {m:Str->Option Value},P.Nodup->P[i]? = some x->vs[i]? = some v->kindOf x=some .local ->
  bindL kindOf (P.zip vs) m x=some v
 | [],_,_,_,_,h,_,_=>by simp at h
 | _::_,[],_,_,_,_,h,_=>by simp at h
 | p::P,w::vs,0,m,nd,h1,h2,hk=>by
  simp at h1 h2; subst h1; subst h2
  show bindL kindOf ((p,w)::P.zip vs) m p=_
  unfold bindL
  rw [JT fun v hv=>(List.nodup_cons.mp nd).1 (List.of_mem_zip hv).1,if_pos hk]
  simp
 | p::P,w::vs,i+1,m,nd,h1,h2,hk=>by
  show bindL kindOf ((p,w)::P.zip vs) m x=_
  unfold bindL
  exact Jk (i:=i) (List.nodup_cons.mp nd).2 (by simpa using h1) (by simpa using h2) hk
theorem Ji {kindOf:Str->Option NameKind} {x:Str} {v:Value}:∀ {P:List Str} {vs:List Value} {i:Nat} {m:Str->Option Value},P.Nodup->P[i]? = some x->vs[i]? = some v->kindOf x ≠ some .local ->
  bindC kindOf (P.zip vs) m x=some v
 | [],_,_,_,_,h,_,_=>by simp at h
 | _::_,[],_,_,_,_,h,_=>by simp at h
 | p::P,w::vs,0,m,nd,h1,h2,hk=>by
  simp at h1 h2; subst h1; subst h2
  show bindC kindOf ((p,w)::P.zip vs) m p=_
  unfold bindC
  rw [Je fun v hv=>(List.nodup_cons.mp nd).1 (List.of_mem_zip hv).1,if_neg hk]
  simp
 | p::P,w::vs,i+1,m,nd,h1,h2,hk=>by
  show bindC kindOf ((p,w)::P.zip vs) m x=_
  unfold bindC
  exact Ji (i:=i) (List.nodup_cons.mp nd).2 (by simpa using h1) (by simpa using h2) hk
noncomputable def start (N:List Str) (vs:List V):St:=vs.map some++List.replicate (N.length - vs.length) none
noncomputable def Nz (CX:QZ) (P:Program) (w:World) (K:PySem.W.Frag) (mg:Str->Option Value) (base:Heap) (N:List Str) (qual:Str) (scope:Scope) (f:Addr) (cd:Value) (A:Around) (outer:List Env) (s:Shared) (H:Hp) (E:XK):Cx where
 prog:=P
 w:=w
 K:=K
 mg:=mg
 base:=base
 A:=A.deeper (envOfC qual scope s.heap.objs.size f cd)
 N:=N
 s₀:=s
 H₀:=H
 env:=envOfC qual scope s.heap.objs.size f cd
 outer:=outer
 stack:=envOfC qual scope s.heap.objs.size f cd::outer
 ex:=[]
 calm:=true
 fn:=fun _=>true
 pn:=[]
 xe:=fun e s'=>wpAny (model P w) (A.deeper (envOfC qual scope s.heap.objs.size f cd)) (leaving (envOfC qual scope s.heap.objs.size f cd) e) (fun _ s''=>CX outer H s E e s'') (fun e' s''=>CX outer H s E e' s'') s'
theorem K8 {sc:Scope} {n:Nat} {x:Str} (h:sc.names.lookup x=some .cell):∃ c,(cellsFrom n sc.names []).lookup x=some c:=by
 have q:=PySem.W.cellsFrom_some sc.names n [] (.inl h)
 exact Option.isSome_iff_exists.mp q
theorem O3 {CX:QZ} {P:Program} {w:World} {K:PySem.W.Frag} {mg:Str->Option Value} {base:Heap} {N ps:List Str} {qual:Str} {scope:Scope} {f:Addr} {cd:Value} {A:Around} {outer:List Env} {s s1:Shared} {H:Hp} {E:XK} {us:List Value} {vs:List V}
  (S:BP N ps scope) (hd:A.handled=none) (e0:MF P w K mg base A outer s H) (hl:vs.length=ps.length) (r:Vals vs us)
  (x:InCallC s s.heap.objs.size (bindL (envOfC qual scope s.heap.objs.size f cd).kindOf (ps.zip us) fun _=>none) (cellsFrom (s.heap.objs.size+1) scope.names []) (bindC (envOfC qual scope s.heap.objs.size f cd).kindOf (ps.zip us) fun _=>none) s1) :
  Inv (Nz CX P w K mg base N qual scope f cd A outer s H E) [] (start N vs) H s1:=by
 have hpl:ps.length<=N.length:=by have:=congrArg List.length S.pre; rw [List.length_take] at this; omega
 obtain ⟨h1,tk,rfl,hk⟩:=x.done
 have noA:∀ b:Addr,b ∉ (Nz CX P w K mg base N qual scope f cd A outer s H E).ex:=fun b z=>absurd (show b∈([]:List Addr) from z) (by simp)
 refine ⟨⟨e0.mod,S.kind,rfl,rfl,Nat.le_refl _,fun y z c h1 h2=>?_,fun y hy=>?_,fun y c _ h=>?_,fun _=>hd,Around.frames_deeper e0.frames,.inr ⟨rfl,rfl⟩,fun b z=>absurd z (noA b),e0.bs,e0.bsz,fun b _ _=>noA b,fun b z=>absurd z (noA b),e0.Hv,e0.frf⟩,
  rfl,e0.bare,Un.kept hk,⟨_,x.toInCall.ns,fun i y v h1 h2 h3=>?_⟩,fun y c h=>⟨_,x.cell y c h⟩,e0.hok.fresh (Nat.le_refl _),fun y c h=>?_,fun p hp=>absurd (show p∈([]:List (Addr × Obj)) from hp) (by simp),e0.hok.kept hk,?_⟩
 ·exact name_of_addr x.apart (PySem.mem_of_lookup h1) (PySem.mem_of_lookup h2)
 ·have hy:scope.names.lookup y=some .cell \/ scope.names.lookup y=some .free:=hy
  rcases hy with hy | hy
  ·exact K8 hy
  ·exact absurd rfl (S.nofree _ (PySem.mem_of_lookup hy))
 ·exact Nat.le_of_lt (x.above y c (PySem.mem_of_lookup h))
 ·have hi:i<vs.length:=by
   unfold start at h2
   by_cases hi:i<vs.length
   ·exact hi
   ·rw [List.getElem?_append_right (by simpa using hi)] at h2
    rw [List.getElem?_replicate] at h2
    split at h2 <;> cases h2
  have ha:vs[i]? = some v:=by
   unfold start at h2
   rw [List.getElem?_append_left (by simpa using hi),List.getElem?_map] at h2
   cases e:vs[i]? with
   | none=>rw [e] at h2; cases h2
   | some a=>rw [e] at h2; cases h2; rfl
  obtain ⟨u,hu,rv⟩:=r.get ha
  have hp:ps[i]? = some y:=by
   rw [← S.pre,List.getElem?_take_of_lt (by omega)]; exact h1
  have ndP:ps.Nodup:=by rw [← S.pre]; exact S.nd.sublist (List.take_sublist _ _)
  refine ⟨u,rv,?_⟩
  rcases S.par y (List.mem_of_getElem? hp) with k | k
  ·exact .inl ⟨k,Jk ndP hp hu k⟩
  ·obtain ⟨c,e⟩:=K8 (n:=s.heap.objs.size+1) k
   refine .inr ⟨.inl k,c,e,?_⟩
   have q:=x.cell y c e
   rw [Ji ndP hp hu (by show scope.names.lookup y ≠ _; rw [k]; decide)] at q
   exact q
 ·exact e0.hok.fresh (Nat.le_of_lt (x.above y c (PySem.mem_of_lookup h)))
 ·unfold start
  show _=N.length
  rw [List.length_append,List.length_map,List.length_replicate]
  omega
theorem X6 {CX:QZ} {P:Program} {w:World} {K:PySem.W.Frag} {mg:Str->Option Value} {base:Heap} {k:Nat} {f:Addr} {name qual:Str} {params:Arguments} {body:List Stmt} {scope:Scope} {dV kV doc pm cdv ct oc:Value} {an od:Option Addr}
  {osl:Array (Option Value)} {N ps:List Str} {sp:Sp} (lk:K.lookup f=some ⟨oc,od,.func (PySem.W.fnOf name qual params body scope dV kV doc pm an cdv ct),osl⟩) (hcd:PySem.W.codeIn K cdv qual=true) (S:BP N ps scope)
  (len:∀ vs H Q E,sp vs H Q E->vs.length=ps.length)
  (hbody:∀ (A:Around) (outer:List Env) (s:Shared) (H:Hp) (vs:List V) (Q:VK) (E:XK),Be k (A.deeper (envOfC qual scope s.heap.objs.size f cdv))->sp vs H Q E ->
   ∃ t,O6 (Nz CX P w K mg base N qual scope f cdv A outer s H E) body t/\t { nx:=fun _ H'=>Q .non H',rt:=Q } (start N vs) H) :
  BK P w K mg base CX (k+1) f (PySem.W.fnOf name qual params body scope dV kV doc pm an cdv ct) ps sp:=by
 refine ⟨len,fun A outer s H args us vs Q E hr e0 hb r hsp=>?_⟩
 have hl:=len _ _ _ _ hsp
 have KX:K.In s.heap:=e0.mod.kin.keeps fun b o e=>(e0.bs b o e).1
 have lim:s.heap.NoLimit:=e0.mod.nolimit.keeps fun b o e=>(e0.bs b o e).1
 have hkind:∀ y∈ps.zip us,scope.names.lookup y.1=some .local \/ (scope.names.lookup y.1=some .cell/\((cellsFrom (s.heap.objs.size+1) scope.names []).lookup y.1).isSome=true):=fun ⟨n,v⟩ hy=>by
  rcases S.par n (List.of_mem_zip hy).1 with q | q
  ·exact .inl q
  ·exact .inr ⟨q,PySem.W.cellsFrom_some _ _ _ (.inl q)⟩
 refine codeAny_call_function hr.depth (KX _ _ lk) rfl S.co S.gen rfl (PySem.W.codeRec_of KX hcd) (hb _ _ _ _ ?_)
 refine wpAny_newFunctionEnv_cells S.kind hkind fun env he s1 x=>?_
 subst he
 refine ⟨lim.keeps x.toInCall.keep,codeAny_func ?_⟩
 obtain ⟨t,ht,hq⟩:=hbody A outer s H vs Q E (hr.deeper _) hsp
 have I:Inv (Nz CX P w K mg base N qual scope f cdv A outer s H E) [] (start N vs) H s1:=O3 S hr.hd e0 hl r x
 refine wpAny_mono (ht [] s1 (start N vs) H _ I hq) (fun fl s' hs=>?_) fun e s' hs=>hs
 have fin:∀ {σ':St} {H':Hp} {v:V} {u:Value},Inv (Nz CX P w K mg base N qual scope f cdv A outer s H E) [] σ' H' s'->RelV v u->Q v H'->CE outer P w H s Q u s' :=
  fun {σ' H' v u} J rv q=>⟨v,H',J.os,J.bare,J.base,J.hok,rv,q⟩
 cases fl with
 | ret u =>
  obtain ⟨v,σ',H',J,rv,q⟩:=hs
  exact fin J rv q
 | next =>
  obtain ⟨σ',H',J,q⟩:=hs
  exact fin (v:=V.non) (u:=Value.none) J rfl q
 | brk =>
  obtain ⟨_,_,_,q⟩:=hs
  exact False.elim q
 | cont =>
  obtain ⟨_,_,_,q⟩:=hs
  exact False.elim q
end L2
namespace L2
open PySem PySem.Spec PyProof.Rows
section
variable {X:Cx} {x:Str} {p pos:Pos} {e:Expr} {es:List Expr} {t:TA} {id T:String} {r:List V->Hp->VK->Prop}
noncomputable def dO (r:List V->Hp->VK->Prop) (t:TA):TE:=fun σ H Q=>t σ H fun vs H1=>r vs H1 Q
theorem Ax (hc:Fp X (.builtin id) r) (hg:Gl X x) (hm:X.mg x=none) (hv:bootBuiltins x=some (.builtin id)) (ha:PA X (e::es) t) (hn:x ≠ "__name__":=by decide) (hdb:(x == ("__debug__" : Str))=false:=by decide)
  (he:starEach (e::es) X.env=(false,eval e X.env)::starEach es X.env:=by rfl) (hpl:(backTo pos (starEach es X.env)).any (·.1)=false:=by rfl):PE X (.Call (.Name x p) (e::es) [] pos) (dO r t):=by
 intro pins s σ H Q I h
 refine wpAny_Call_Name_kw (G4 I hg hm hv ?_ hn hdb)
 exact PyProof.Rows.callWith_builtin1 (CP (ha pos pins s σ H _ I h) fun us s1 ⟨vs,H1,I1,r1,q1⟩=>hc pins s1 σ H1 vs us Q I1 r1 q1) he hpl
theorem Gd (hc:Fp X (.type T) r) (hg:Gl X x) (hm:X.mg x=none) (hv:bootBuiltins x=some (.type T)) (ha:PA X (e::es) t) (hn:x ≠ "__name__":=by decide) (hdb:(x == ("__debug__" : Str))=false:=by decide)
  (he:starEach (e::es) X.env=(false,eval e X.env)::starEach es X.env:=by rfl) (hpl:(backTo pos (starEach es X.env)).any (·.1)=false:=by rfl):PE X (.Call (.Name x p) (e::es) [] pos) (dO r t):=by
 intro pins s σ H Q I h
 refine wpAny_Call_Name_kw (G4 I hg hm hv ?_ hn hdb)
 exact PyProof.Rows.callWith_type1 (CP (ha pos pins s σ H _ I h) fun us s1 ⟨vs,H1,I1,r1,q1⟩=>hc pins s1 σ H1 vs us Q I1 r1 q1) he hpl
end
end L2
namespace L2
open PySem PySem.Spec PyProof.Rows
section
variable {κ:Type} [DecidableEq κ]
noncomputable def CJ (kvs:List (κ × V)) (k:κ):Option V:=(kvs.find? fun kv=>decide (kv.1=k)).map (·.2)
noncomputable def putK (kvs:List (κ × V)) (k:κ) (v:V):List (κ × V) :=
 if (kvs.any fun kv=>decide (kv.1=k))=true then kvs.map (fun kv=>if kv.1=k then (kv.1,v) else kv) else kvs++[(k,v)]
noncomputable def dC (kvs:List (κ × V)) (k:κ):List (κ × V):=kvs.filter fun kv=>decide (kv.1 ≠ k)
theorem Qh {k:κ}:CJ ([]:List (κ × V)) k=none:=rfl
theorem DQ {p:κ × V} {r:List (κ × V)} {k:κ} (e:p.1=k):CJ (p::r) k=some p.2:=by simp [CJ,List.find?_cons,e]
theorem DX {p:κ × V} {r:List (κ × V)} {k:κ} (e:¬ p.1=k):CJ (p::r) k=CJ r k:=by simp [CJ,List.find?_cons,e]
theorem GR (k:κ):∀ kvs:List (κ × V),(kvs.any fun kv=>decide (kv.1=k))=(CJ kvs k).isSome
 | []=>rfl
 | p::r=>by
  rw [List.any_cons]
  by_cases e:p.1=k
  ·simp only [DQ e,decide_eq_true e,Bool.true_or,Option.isSome_some]
  ·rw [DX e,decide_eq_false e,Bool.false_or]; exact GR k r
theorem Kw (k j:κ) (y:V):∀ kvs:List (κ × V),CJ (kvs.map fun kv=>if kv.1=k then (kv.1,y) else kv) j=(CJ kvs j).map fun x=>if j=k then y else x
 | []=>rfl
 | p::r=>by
  have ih:=Kw k j y r
  rw [List.map_cons]
  by_cases h:p.1=k
  ·rw [if_pos h]
   by_cases e:p.1=j
   ·rw [DQ (p:=(p.1,y)) e,DQ e,Option.map_some,if_pos (e.symm.trans h)]
   ·rw [DX (p:=(p.1,y)) e,DX e,ih]
  ·rw [if_neg h]
   by_cases e:p.1=j
   ·rw [DQ (p:=p) e,DQ e,Option.map_some,if_neg (fun z=>h (e.trans z))]
   ·rw [DX (p:=p) e,DX e,ih]
theorem JZ (k j:κ) (y:V):∀ kvs:List (κ × V),CJ kvs k=none->CJ (kvs++[(k,y)]) j=if j=k then some y else CJ kvs j
 | [],_=>by
  by_cases e:k=j
  ·rw [if_pos e.symm]; exact DQ (p:=(k,y)) e
  ·rw [if_neg (fun z=>e z.symm)]; exact DX (p:=(k,y)) e
 | p::r,hn=>by
  rw [List.cons_append]
  have hk:¬ p.1=k:=fun z=>by rw [DQ z] at hn; cases hn
  rw [DX hk] at hn
  have ih:=JZ k j y r hn
  by_cases e:p.1=j
  ·rw [DQ e,DQ e,if_neg (fun z=>hk (e.trans z))]
  ·rw [DX e,DX e,ih]
theorem BZ (kvs:List (κ × V)) (k j:κ) (y:V):CJ (putK kvs k y) j=if j=k then some y else CJ kvs j:=by
 unfold putK
 by_cases a:(kvs.any fun kv=>decide (kv.1=k))=true
 ·rw [if_pos a,Kw]
  rw [GR] at a
  by_cases e:j=k
  ·obtain ⟨x,hx⟩:=Option.isSome_iff_exists.mp a
   rw [if_pos e,e,hx,Option.map_some,if_pos rfl]
  ·rw [if_neg e]
   cases CJ kvs j with
   | none=>rfl
   | some x=>rw [Option.map_some,if_neg e]
 ·rw [if_neg a]
  refine JZ k j y kvs ?_
  rw [GR] at a
  cases q:CJ kvs k with
  | none=>rfl
  | some x=>rw [q] at a; exact (a rfl).elim
theorem By (kvs:List (κ × V)) (k:κ) (v:V):(putK kvs k v).length<=kvs.length+1:=by
 unfold putK
 split
 ·rw [List.length_map]; omega
 ·rw [List.length_append,List.length_cons,List.length_nil]; omega
theorem Fd.N_ {o:Option V} {u:Option Value} (r:Fd o u):o.isSome=u.isSome:=by
 cases o with
 | none=>cases u with
  | none=>rfl
  | some _=>exact (show False from r).elim
 | some _=>cases u with
  | none=>exact (show False from r).elim
  | some _=>rfl
theorem Fd.getD {o:Option V} {u:Option Value} {d:V} {d':Value} (r:Fd o u) (rd:RelV d d'):RelV (o.getD d) (u.getD d'):=by
 cases o with
 | none=>cases u with
  | none=>exact rd
  | some _=>exact (show False from r).elim
 | some _=>cases u with
  | none=>exact (show False from r).elim
  | some _=>exact r
theorem KV.val {kvs:List (κ × V)} {vs:List (κ × Value)} (r:KV kvs vs) (k:κ):Fd (CJ kvs k) (valueAt vs k):=by
 unfold KV at r
 induction r with
 | nil=>exact True.intro
 | @cons p q ps qs h t ih =>
  obtain ⟨h1,h2⟩:=h
  by_cases e:p.1=k
  ·have e':q.1=k:=h1.symm.trans e
   have b:valueAt (q::qs) k=some q.2:=by simp [valueAt,List.find?_cons,e']
   rw [DQ e,b]; exact h2
  ·have e':¬ q.1=k:=fun z=>e (h1.trans z)
   have b:valueAt (q::qs) k=valueAt qs k:=by simp [valueAt,List.find?_cons,e']
   rw [DX e,b]; exact ih
theorem KV.any {kvs:List (κ × V)} {vs:List (κ × Value)} (r:KV kvs vs) (k:κ):(kvs.any fun kv=>decide (kv.1=k))=vs.any fun kv=>decide (kv.1=k):=by
 unfold KV at r
 induction r with
 | nil=>rfl
 | cons h t ih=>rw [List.any_cons,List.any_cons,ih,h.1]
theorem KV.repl {kvs:List (κ × V)} {vs:List (κ × Value)} (r:KV kvs vs) (k:κ) {y:V} {u:Value} (ry:RelV y u) :
  KV (kvs.map fun kv=>if kv.1=k then (kv.1,y) else kv) (vs.map fun kv=>if kv.1=k then (kv.1,u) else kv):=by
 unfold KV at r ⊢
 induction r with
 | nil=>exact .nil
 | @cons p q ps qs h t ih =>
  rw [List.map_cons,List.map_cons]
  refine .cons ?_ ih
  obtain ⟨h1,h2⟩:=h
  by_cases e:p.1=k
  ·rw [if_pos e,if_pos (h1.symm.trans e)]; exact ⟨h1,ry⟩
  ·rw [if_neg e,if_neg (fun z=>e (h1.trans z))]; exact ⟨h1,h2⟩
theorem KV.put {kvs:List (κ × V)} {vs:List (κ × Value)} (r:KV kvs vs) (k:κ) {y:V} {u:Value} (ry:RelV y u):KV (putK kvs k y) (stored vs k u):=by
 unfold putK stored
 rw [r.any k]
 by_cases e:(vs.any fun kv=>decide (kv.1=k))=true
 ·rw [if_pos e,if_pos e]; exact r.repl k ry
 ·rw [if_neg e,if_neg e]; exact Paired.snoc r ⟨rfl,ry⟩
theorem KV.length {kvs:List (κ × V)} {vs:List (κ × Value)} (r:KV kvs vs):kvs.length=vs.length:=Paired.length r
end
theorem KH {P:Program} {w:World} {k:Key} {u:Value} (r:RelV (kV k) u):(CT P w).is k u=true:=by
 cases k with
 | inl i=>obtain ⟨t,e⟩:=(show ∃ t,u=Value.int i t from r); subst e; exact Kd P w i t
 | inr x=>obtain ⟨t,e⟩:=(show ∃ t,u=Value.str x t from r); subst e; exact Kl P w x t
theorem Ja {P:Program} {w:World}:∀ {ks:List Key} {us:List Value},Vals (ks.map kV) us->ItemsAre (CT P w) ks us
 | [],_,r=>by rw [List.map_nil] at r; cases r; exact .nil
 | k::ks,_,r=>by
  rw [List.map_cons] at r
  cases r with
  | cons h t=>exact .cons (KH h) (Ja t)
noncomputable abbrev KT (H:Hp):List (List Key × V)->List (List Key × Addr × Value)->Prop:=Paired fun p q=>p.1=q.1/\H q.2.1=some (.tup (p.1.map kV))/\RelV p.2 q.2.2
theorem KT.val {H:Hp} {kvs:List (List Key × V)} {xs:List (List Key × Addr × Value)} (r:KT H kvs xs) (k:List Key):Fd (CJ kvs k) ((atKey xs k).map (·.2)):=by
 induction r with
 | nil=>exact True.intro
 | @cons p q ps qs h t ih =>
  obtain ⟨h1,_,h2⟩:=h
  by_cases e:p.1=k
  ·have e':q.1=k:=h1.symm.trans e
   have b:atKey (q::qs) k=some q.2:=by simp [atKey,List.find?_cons,e']
   rw [DQ e,b]; exact h2
  ·have e':¬ q.1=k:=fun z=>e (h1.trans z)
   have b:atKey (q::qs) k=atKey qs k:=by simp [atKey,List.find?_cons,e']
   rw [DX e,b]; exact ih
theorem KT.repl {H:Hp} {kvs:List (List Key × V)} {xs:List (List Key × Addr × Value)} (r:KT H kvs xs) (k:List Key) {y:V} {u:Value} (ry:RelV y u) :
  KT H (kvs.map fun kv=>if kv.1=k then (kv.1,y) else kv) (xs.map (putAt k u)):=by
 induction r with
 | nil=>exact .nil
 | @cons p q ps qs h t ih =>
  rw [List.map_cons,List.map_cons]
  refine .cons ?_ ih
  obtain ⟨h1,h2,h3⟩:=h
  unfold putAt
  by_cases e:p.1=k
  ·rw [if_pos e,if_pos (h1.symm.trans e)]; exact ⟨h1,h2,ry⟩
  ·rw [if_neg e,if_neg (fun z=>e (h1.trans z))]; exact ⟨h1,h2,h3⟩
theorem KT.put {H:Hp} {kvs:List (List Key × V)} {xs:List (List Key × Addr × Value)} (r:KT H kvs xs) (k:List Key) {b:Addr} {y:V} {u:Value} (hb:H b=some (.tup (k.map kV))) (ry:RelV y u) :
  KT H (putK kvs k y) (storedH xs k b u):=by
 have e:(kvs.any fun kv=>decide (kv.1=k))=(atKey xs k).isSome:=by
  rw [GR,(r.val k).N_,Option.isSome_map]
 unfold putK storedH
 rw [e]
 by_cases q:(atKey xs k).isSome=true
 ·rw [if_pos q,if_pos q]; exact r.repl k ry
 ·rw [if_neg q,if_neg q]; exact Paired.snoc r ⟨rfl,hb,ry⟩
theorem KT.keeps {H H':Hp} {kvs:List (List Key × V)} {xs:List (List Key × Addr × Value)} (r:KT H kvs xs) (ht:∀ b ys,H b=some (.tup ys)->H' b=some (.tup ys)):KT H' kvs xs :=
 Paired.Ez r fun _ _ z=>⟨z.1,ht _ _ z.2.1,z.2.2⟩
section
variable {P:Program} {w:World} {H:Hp} {h:Heap} {a:Addr}
theorem Sy {u:HO} (ok:G9 P w H h) (e:Rd H a u):CQ P w H h a u:=e.ok ok
theorem K6 {kvs:List (Key × V)} (ok:G9 P w H h) (e:Rd H a (.dK kvs)):kvs.length<=sizeLine/\(a == sysModules)=false/\∃ vs,KV kvs vs/\h.DictOf (CT P w) a vs :=
 show CQ P w H h a (.dK kvs) from Sy ok e
theorem Sv {kvs:List (Key × V)} (ok:G9 P w H h) (e:H a=some (.dK kvs)):kvs.length<=sizeLine/\(a == sysModules)=false/\∃ vs,KV kvs vs/\h.DictOf (CT P w) a vs:=K6 ok (.inl e)
theorem J6 {ks:List Key} (ok:G9 P w H h) (e:H a=some (.tup (ks.map kV))):(tupleKind (CT P w)).is h ks a:=by
 obtain ⟨_,its,r,o,h1,h2,n,h3⟩:=(show CQ P w H h a (.tup (ks.map kV)) from ok a _ e)
 exact ⟨o,its.toArray,n,h1,h2,h3,by simpa using Ja r⟩
theorem Ks {kvs:List (List Key × V)} (ok:G9 P w H h) (e:Rd H a (.dT kvs)):kvs.length<=sizeLine/\(a == sysModules)=false /\
  ∃ xs,KT H kvs xs/\h.DictOfH (tupleKind (CT P w)) a xs:=by
 obtain ⟨z,y,xs,r,o,es,ep,h1,h2,h3,h4,h5⟩:=(show CQ P w H h a (.dT kvs) from Sy ok e)
 refine ⟨z,y,xs,r,o,es,ep,h1,h2,h3,h4,fun x hx=>?_,h5⟩
 have all:∀ {l:List (List Key × V)} {m:List (List Key × Addr × Value)},KT H l m->∀ x∈m,(tupleKind (CT P w)).is h x.1 x.2.1:=by
  intro l m q
  induction q with
  | nil=>intro x hx; exact nomatch hx
  | @cons p q ps qs hq t ih =>
   intro x hx
   rcases List.mem_cons.mp hx with e | hx
   ·subst e
    exact J6 ok (by rw [← hq.1]; exact hq.2.1)
   ·exact ih x hx
 exact all r x hx
theorem W9 {kvs:List (List Key × V)} (ok:G9 P w H h) (e:H a=some (.dT kvs)):kvs.length<=sizeLine/\(a == sysModules)=false /\
  ∃ xs,KT H kvs xs/\h.DictOfH (tupleKind (CT P w)) a xs:=Ks ok (.inl e)
end
noncomputable def Bs (H:Hp) (a:Addr) (y:V) (r:Option V):Prop :=
 (∃ kvs k,Rd H a (.dK kvs)/\y=kV k/\r=CJ kvs k) \/ ∃ kvs k b,Rd H a (.dT kvs)/\y=.ref b/\H b=some (.tup (k.map kV))/\r=CJ kvs k
noncomputable def Mq (H:Hp) (a:Addr) (y v:V) (H':Hp):Prop :=
 (∃ kvs k,H a=some (.dK kvs)/\y=kV k/\kvs.length<sizeLine/\H'=upd H a (.dK (putK kvs k v))) \/
 ∃ kvs k b,H a=some (.dT kvs)/\y=.ref b/\H b=some (.tup (k.map kV))/\kvs.length<sizeLine/\H'=upd H a (.dT (putK kvs k v))
theorem Bs.k {H:Hp} {a:Addr} {kvs:List (Key × V)} {k:Key} (e:H a=some (.dK kvs)):Bs H a (kV k) (CJ kvs k):=.inl ⟨kvs,k,.inl e,rfl,rfl⟩
theorem Mq.k {H:Hp} {a:Addr} {kvs:List (Key × V)} {k:Key} {v:V} (e:H a=some (.dK kvs)) (hl:kvs.length<sizeLine):Mq H a (kV k) v (upd H a (.dK (putK kvs k v))):=.inl ⟨kvs,k,e,rfl,hl,rfl⟩
section
variable {X:Cx} {pins:List (Addr × Obj)} {σ:St} {H:Hp} {s:Shared} {a:Addr} {y v:V} {u r:Value} {o:Option V} {A:Around} {E:Value->Shared->Prop}
theorem Inv.big (I:Inv X pins σ H s):sysModules<s.heap.objs.size:=by
 have h:mainGlobals<s.heap.objs.size:=(I.mod.glob.keeps I.bk).lt
 exact Nat.lt_trans (by decide) h
theorem Oc {Q:Value->Shared->Prop} (hu:A.units+1<cLine) (I:Inv X pins σ H s) (g:Bs H a y (some v)) (ry:RelV y u) (h:∀ w' s',Inv X pins σ H s'->RelV v w'->Q w' s') :
  wpAny (model X.prog X.w) A (getItem (.ref a) u) Q E s:=by
 rcases g with ⟨kvs,k,e,ey,l⟩ | ⟨kvs,k,b,e,ey,eb,l⟩
 ·subst ey
  obtain ⟨z,hd,vs,rel,dd⟩:=K6 I.hok e
  obtain ⟨w',hw,rw'⟩:=Fd.some_of (v:=v) (o:=valueAt vs k) (by rw [l]; exact rel.val k)
  exact wpAny_getItem_of (KH ry) dd.mapOf hw (h w' _ (I.tok _) rw')
 ·subst ey
  cases (show u=Value.ref b from ry)
  obtain ⟨z,hd,xs,rel,dd⟩:=Ks I.hok e
  obtain ⟨w',hw,rw'⟩:=Fd.some_of (v:=v) (o:=(atKey xs k).map (·.2)) (by rw [l]; exact rel.val k)
  obtain ⟨p,hp,hp2⟩:=Option.map_eq_some_iff.mp hw
  refine wpAny_getItem_heap (tupleKind_room_in1 hu) (J6 I.hok eb) dd hp ?_
  rw [hp2]
  exact h w' _ (I.tok _) rw'
theorem Jm {h':Heap} {t':Nat} {ob:HO} (I:Inv X pins σ H s) (mu:XJ (H a)) (hs:Heap.SameBut a s.heap h') (he:∃ q,h'.get? a=some q) (new:CQ X.prog X.w (upd H a ob) h' a ob) :
  Inv X pins σ (upd H a ob) { s with heap:=h',toks:=t' } :=
 I.write (x:=a) (e:=a) mu (.inl rfl) (fun b q hb z=>(hs.2 b hb).trans z) he new
theorem Pk {P:Program} {w:World} {H':Hp} {h':Heap} {kvs:List (Key × V)} {vs:List (Key × Value)} (z:kvs.length<=sizeLine) (hd:(a == sysModules)=false) (rel:KV kvs vs) (dd:h'.DictOf (CT P w) a vs) :
  CQ P w H' h' a (.dK kvs):=⟨z,hd,vs,rel,dd⟩
theorem Od {H':Hp} {Q:Unit->Shared->Prop} (hu:A.units+1<cLine) (I:Inv X pins σ H s) (g:Mq H a y v H') (ry:RelV y u) (rv:RelV v r) (h:∀ s',Inv X pins σ H' s'->Q () s') :
  wpAny (model X.prog X.w) A (setItem (.ref a) u r) Q E s:=by
 rcases g with ⟨kvs,k,e,ey,l,eH⟩ | ⟨kvs,k,b,e,ey,eb,l,eH⟩
 ·subst ey eH
  obtain ⟨z,hd,vs,rel,dd⟩:=Sv I.hok e
  have hz:vs.length<=sizeLine:=by rw [← rel.length]; exact z
  have hl:(putK kvs k v).length<=sizeLine:=by have:=By kvs k v; omega
  refine wpAny_setItem_pairs (hsz:=hz) (KH ry) dd fun h' dd' hs=>h _ ?_
  have he:∃ q,h'.get? a=some q:=let ⟨q,_,_,hq,_⟩:=dd'; ⟨q,hq⟩
  exact Jm I (by rw [e]; exact True.intro) hs he (Pk hl hd (rel.put k rv) dd')
 ·subst ey eH
  cases (show u=Value.ref b from ry)
  obtain ⟨z,hd,xs,rel,dd⟩:=W9 I.hok e
  have hz:xs.length<=sizeLine:=by rw [← Paired.length rel]; exact z
  have hl:(putK kvs k v).length<=sizeLine:=by have:=By kvs k v; omega
  refine wpAny_setItem_heap (hsz:=hz) (tupleKind_room_in1 hu) (J6 I.hok eb) dd fun h' dd' hs=>h _ ?_
  obtain ⟨q,es,ep,hq,h2,h3,h4,_,h5⟩:=dd'
  refine Jm I (by rw [e]; exact True.intro) hs ⟨q,hq⟩ ⟨hl,hd,_,(rel.put k eb rv).keeps fun c ys ec=>?_,q,es,ep,hq,h2,h3,h4,h5⟩
  rw [An (KN ec e (fun z=>nomatch z))]
  exact ec
end
section
variable {X:Cx} {pins:List (Addr × Obj)} {σ:St} {H:Hp} {s:Shared} {a:Addr} {kvs:List (Key × V)} {k:Key} {u:Value} {A:Around} {E:Value->Shared->Prop}
end
noncomputable def Uj (i:Expr):Prop:=∀ ov iv,subscripted i false ov iv=operate [ov,iv] (getItem ov iv)
theorem M8 {prog:Program} {w:World} {A:Around} {E:Value->Shared->Prop} {s:Shared} {env:Env} {value slice:Expr} {pos:Pos} {T id:String} {Q:Value->Shared->Prop}
  (hl:typeLookup (.type T) "__getitem__" = pure (some (.builtin id))) (hs:Uj slice)
  (h:wpAny (model prog w) A (eval value env) (fun o s₁=>wpAny (model prog w) A (eval slice env) (fun i s₂=>s₂.TypeIs o T/\wpAny (model prog w) A (getItem o i) Q E s₂) E s₁) E s) :
  wpAny (model prog w) A (eval (.Subscript value slice pos) env) Q E s:=by
 refine Subscript_ (wpAny_mono h (fun o s₁ h₁=>wpAny_mono h₁ (fun i s₂ h₂=>?_) fun _ _ x=>x) fun _ _ x=>x)
 obtain ⟨hT,h₂⟩:=h₂
 unfold subscriptTail
 refine wpAny_bind ?_
 rw [getitemInPython_of_ne hT.not_modules]
 refine wpAny_bind (wpAny_specialOf hT hl ?_)
 have fin:wpAny (model prog w) A (subscripted slice false o i) (fun r s₃=>wpAny (model prog w) A (letTemporaryGo value o r >>= fun _=>pure r) Q E s₃) E s₂:=by
  rw [hs o i]
  exact wpAny_operating (wpAny_mono h₂ (fun r s₃ h₃=>wpAny_bind (wpAny_letTemporaryGo (wpAny_pure h₃))) fun _ _ x=>x)
 first
  | exact wpAny_pure (wpAny_bind fin)
  | exact wpAny_bind (wpAny_pure (wpAny_bind fin))
  | exact wpAny_bind fin
theorem K5 {X:Cx} {pins:List (Addr × Obj)} {σ:St} {H:Hp} {s:Shared} {a:Addr} {y:V} {o:Option V} (I:Inv X pins σ H s) (g:Bs H a y o):s.TypeIs (.ref a) "dict":=by
 rcases g with ⟨kvs,k,e,_,_⟩ | ⟨kvs,k,b,e,_,_,_⟩
 ·obtain ⟨_,_,vs,_,dd⟩:=K6 I.hok e
  exact dd.typeIs
 ·obtain ⟨_,_,xs,_,dd⟩:=Ks I.hok e
  exact dd.typeIs
noncomputable def Ze (td ty:TE):TE:=fun σ H Q=>td σ H fun x H1=>ty σ H1 fun y H2=>∃ a v,x=.ref a/\Bs H2 a y (some v)/\Q v H2
noncomputable def Xx (td ty tv:TE):TS:=fun D σ H=>tv σ H fun v H1=>td σ H1 fun x H2=>ty σ H2 fun y H3=>∃ a H4,x=.ref a/\Mq H3 a y v H4/\D.nx σ H4
section
variable {X:Cx} {o i e value:Expr} {pos pos' tpos:Pos} {td ty tv:TE}
theorem BR (hu:X.A.units+1<cLine) (ho:PE X o td) (hi:PE X i ty) (hs:Uj i):PE X (.Subscript o i pos) (Ze td ty):=by
 intro pins s σ H Q I h
 refine M8 PySem.F.slot_dict_getitem.lookup hs (CP (ho pins s σ H _ I h) fun u s1 ⟨x,H1,I1,rx,q1⟩=>CP (hi pins s1 σ H1 _ I1 q1) fun iv s2 hq0=>?_)
 obtain ⟨y,H2,I2,ry,a,v,ex,g,q2⟩:=hq0
 subst ex
 obtain rfl:u=Value.ref a:=rx
 exact ⟨K5 I2 g,Oc hu I2 g ry fun w' s3 I3 rw'=>⟨v,H2,I3,rw',q2⟩⟩
theorem Jt (hu:X.A.units+1<cLine) (ho:PE X o td) (hi:PE X i ty) (hv:PE X value tv) (hs:swapsWith value (some (.Subscript o i pos')) pos.line X.env=pure false) :
  PS X (.Assign [.Subscript o i pos'] value pos) (Xx td ty tv):=by
 intro pins s σ H D I h
 refine wpAny_Assign_Subscript (CP (hv pins s σ H _ I h) fun r s1 ⟨v,H1,I1,rv,q1⟩=>CP (ho pins s1 σ H1 _ I1 q1) fun u s2 ⟨x,H2,I2,rx,q2⟩=>CP (hi pins s2 σ H2 _ I2 q2) fun iv s3 ⟨y,H3,I3,ry,a,H4,ex,g,q3⟩=>?_) hs
 subst ex
 obtain rfl:u=Value.ref a:=rx
 exact Od hu I3 g ry rv fun s4 I4=>⟨σ,H4,I4,q3⟩
end
theorem Kg {P:Program} {w:World} {H:Hp} (h:Heap) (hb:sysModules<h.objs.size):CQ P w H (h.push { cls:=.type "dict",data:=.dict #[] }) h.objs.size (.dK []) :=
 ⟨Nat.zero_le _,beq_eq_false_iff_ne.mpr (Ne.symm (Nat.ne_of_lt hb)),[],.nil,Heap.DictOf.new h⟩
noncomputable def Uz:TE:=fun _ H Q=>∀ p,H p=none->Q (.ref p) (upd H p (.dK []))
section
variable {X:Cx} {pos:Pos}
theorem Pr:PE X (.Dict [] [] pos) Uz:=fun pins s σ H Q I h =>
 wpAny_Dict_empty ⟨.ref s.heap.objs.size,_,I.laid (a:=s.heap.objs.size) (o:=.dK []) (t':=s.toks) (fun _ _ q=>Heap.get?_push_of_some _ q) (Nat.le_refl _) (Kg s.heap I.big),rfl,h _ (I.hok.fresh (Nat.le_refl _))⟩
end
noncomputable def K_:List (TE × TE)->St->Hp->(List (V × V)->Hp->Prop)->Prop
 | [],_,H,Q=>Q [] H
 | (tk,tv)::r,σ,H,Q=>tk σ H fun x H1=>tv σ H1 fun y H2=>K_ r σ H2 fun ps H3=>Q ((x,y)::ps) H3
noncomputable abbrev VV:List (V × V)->List (Value × Value)->Prop:=Paired fun p q=>RelV p.1 q.1/\RelV p.2 q.2
noncomputable def Zr (X:Cx) (pos:Pos) (keys:List (Option Expr)) (values:List Expr) (trs:List (TE × TE)):Prop :=
 ∀ (pins:List (Addr × Obj)) (s:Shared) (σ:St) (H:Hp) (Q:List (V × V)->Hp->Prop),Inv X pins σ H s->K_ trs σ H Q ->
  wpAny (model X.prog X.w) X.A (evalPairs (pairTrees keys values X.env pos)) (fun vs s'=>∃ ps H',Inv X pins σ H' s'/\VV ps vs/\Q ps H') X.xe s
theorem RW {X:Cx} {pos:Pos}:Zr X pos [] [] []:=fun pins s σ H Q I h=>pairTrees_nil_walk ⟨[],H,I,.nil,h⟩
theorem Ei {X:Cx} {pos:Pos} {k v:Expr} {ks:List (Option Expr)} {vs:List Expr} {tk tv:TE} {trs:List (TE × TE)} (hk:PE X k tk) (hv:PE X v tv) (hr:Zr X pos ks vs trs) :
  Zr X pos (some k::ks) (v::vs) ((tk,tv)::trs):=fun pins s σ H Q I h =>
 pairTrees_cons_walk (CP (hk pins s σ H _ I h) fun u s1 ⟨x,H1,I1,rx,q1⟩=>CP (hv pins s1 σ H1 _ I1 q1) fun w2 s2 ⟨y,H2,I2,ry,q2⟩ =>
  CP (hr pins s2 σ H2 _ I2 q2) fun ws s3 ⟨ps,H3,I3,rel,q3⟩=>⟨(x,y)::ps,H3,I3,.cons ⟨rx,ry⟩ rel,q3⟩)
noncomputable def DW (kvs more:List (Key × V)):List (Key × V):=more.foldl (fun acc kv=>putK acc kv.1 kv.2) kvs
theorem KV.merge:∀ {more:List (Key × V)} {rs:List (Key × Value)} {kvs:List (Key × V)} {vs:List (Key × Value)},KV more rs->KV kvs vs->KV (DW kvs more) (merged vs rs):=by
 intro more rs kvs vs r
 unfold KV at r
 induction r generalizing kvs vs with
 | nil=>intro q; exact q
 | @cons p q ps qs h t ih =>
  intro r0
  have e:KV (putK kvs p.1 p.2) (stored vs q.1 q.2):=by
   have:=r0.put p.1 h.2
   rw [← h.1]; exact this
  exact ih e
theorem Gp:∀ (more kvs:List (Key × V)),(DW kvs more).length<=kvs.length+more.length
 | [],kvs=>by show kvs.length<=kvs.length+0; omega
 | p::r,kvs=>by
  have h1:=Gp r (putK kvs p.1 p.2)
  have h2:=By kvs p.1 p.2
  show (DW (putK kvs p.1 p.2) r).length<=_
  rw [List.length_cons]; omega
theorem JC {P:Program} {w:World}:∀ {kvs:List (Key × V)} {ws:List (Value × Value)},VV (kvs.map fun kv=>(kV kv.1,kv.2)) ws->∃ rs,Carries (CT P w) ws rs/\KV kvs rs
 | [],_,r=>by rw [List.map_nil] at r; cases r; exact ⟨[],True.intro,.nil⟩
 | p::kvs,_,r=>by
  rw [List.map_cons] at r
  cases r with
  | @cons a b as bs h t =>
   obtain ⟨rs,c,q⟩:=JC (P:=P) (w:=w) t
   obtain ⟨b1,b2⟩:=b
   exact ⟨(p.1,b2)::rs,⟨KH h.1,rfl,c⟩,.cons ⟨rfl,h.2⟩ q⟩
noncomputable def Xo (trs:List (TE × TE)):TE:=fun σ H Q=>∀ p,H p=none->K_ trs σ (upd H p (.dK [])) fun ps H2=>H2 p=some (.dK [])/\∃ kvs:List (Key × V),ps=kvs.map (fun kv=>(kV kv.1,kv.2))/\kvs.length<=15/\Q (.ref p) (upd H2 p (.dK (DW [] kvs)))
theorem Ru {X:Cx} {pos:Pos} {keys:List (Option Expr)} {values:List Expr} {trs:List (TE × TE)} (h:Zr X pos keys values trs) (hall:keys.all (·.isSome)=true) (hl:keys.length=values.length) (h0:keys ≠ [])
  (h15:keys.length<=15):PE X (.Dict keys values pos) (Xo trs):=by
 intro pins s σ H Q I q
 have hn:=I.hok.fresh (Nat.le_refl s.heap.objs.size)
 have I1:=I.laid (a:=s.heap.objs.size) (o:=.dK []) (h':=s.heap.push { cls:=.type "dict",data:=.dict #[] }) (t':=s.toks) (fun _ _ q=>Heap.get?_push_of_some _ q) (Nat.le_refl _) (Kg s.heap I.big)
 refine wpAny_Dict_walk (knd:=CT X.prog X.w) hall hl h0 h15 (CP (h pins _ σ _ _ I1 (q _ hn)) fun ws s2 hq0=>?_)
 obtain ⟨ps,H2,I2,rel,e,kvs,ep,lk,q2⟩:=hq0
 subst ep
 obtain ⟨rs,c,rk⟩:=JC (P:=X.prog) (w:=X.w) rel
 obtain ⟨z,hd,vs0,r0,dd⟩:=Sv I2.hok e
 cases r0
 refine ⟨rs,c,dd,fun h' dd' hs=>⟨.ref s.heap.objs.size,_,?_,rfl,q2⟩⟩
 have hz:(DW [] kvs).length<=sizeLine:=by
  have h1:=Gp kvs []
  rw [List.length_nil] at h1
  rw [sizeLine_eq]; omega
 have he:∃ q,h'.get? s.heap.objs.size=some q:=let ⟨q,_,_,hq,_⟩:=dd'; ⟨q,hq⟩
 exact Jm I2 (by rw [e]; exact True.intro) hs he (Pk hz hd (rk.merge .nil) dd')
structure M1 (X:Cx) (o:Expr) (m:Str) (apos:Pos) (e:Expr) (cpos:Pos):Prop where
 base:attributeBase o m X.env (eval o X.env)=eval o X.env
 few:((backTo cpos (starEach [e] X.env)).all (fun x=>!x.1) && (backToKw cpos (keywordEach [] X.env)).all (fun x=>x.1.isSome)
  && decide (([e]:List Expr).length+([]:List Keyword).length+(if ([]:List Keyword).isEmpty then 0 else 1)<30))=true
 line:(apos.endLine == cpos.line)=true
 trees:backTo cpos (starEach [e] X.env)=[(false,eval e X.env)]
noncomputable def dI (H:Hp) (a:Addr):Prop:=(∃ kvs,Rd H a (.dK kvs)) \/ ∃ kvs,Rd H a (.dT kvs)
theorem VP {X:Cx} {pins:List (Addr × Obj)} {σ:St} {H:Hp} {s:Shared} {a:Addr} (I:Inv X pins σ H s) (d:dI H a) :
  s.TypeIs (.ref a) "dict" /\ (∀ b,Value.ref a=.ref b->∃ ob,s.heap.get? b=some ob/\ob.dict=none)/\(a == sysModules)=false:=by
 rcases d with ⟨kvs,e⟩ | ⟨kvs,e⟩
 ·obtain ⟨_,hd,vs,_,dd⟩:=K6 I.hok e
  refine ⟨dd.typeIs,fun b q=>?_,hd⟩
  cases q
  obtain ⟨ob,_,_,h1,h2,_⟩:=dd
  exact ⟨ob,h1,h2.2.1⟩
 ·obtain ⟨_,hd,xs,_,dd⟩:=Ks I.hok e
  refine ⟨dd.typeIs,fun b q=>?_,hd⟩
  cases q
  obtain ⟨ob,_,_,h1,h2,_⟩:=dd
  exact ⟨ob,h1,h2.2.1⟩
section
variable {X:Cx} {pins:List (Addr × Obj)} {σ:St} {H:Hp} {s:Shared} {a:Addr} {y d:V} {u r:Value} {o:Option V} {A:Around} {E:Value->Shared->Prop}
theorem Uy {Q:Value->Shared->Prop} (hu:A.units+1<cLine) (I:Inv X pins σ H s) (g:Bs H a y o) (ry:RelV y u) (h:∀ w' s',Inv X pins σ H s'->RelV (o.getD .non) w'->Q w' s') :
  wpAny (model X.prog X.w) A (call (.builtin "dict.get") [.ref a,u]) Q E s:=by
 rcases g with ⟨kvs,k,e,ey,l⟩ | ⟨kvs,k,b,e,ey,eb,l⟩
 ·subst ey
  obtain ⟨z,hd,vs,rel,dd⟩:=K6 I.hok e
  refine call_meetsIn PySem.F.slot_dict_get dd.typeIs PySem.F.entry_dict_get (PySem.F.args_dict_get_2 _ _) (meets_dict_get (CT X.prog X.w) a (KH ry) hd) ⟨_,dd.mapOf,h _ _ (I.tok _) ?_⟩
  rw [l]
  exact (rel.val k).getD rfl
 ·subst ey
  cases (show u=Value.ref b from ry)
  obtain ⟨z,hd,xs,rel,dd⟩:=Ks I.hok e
  refine call_meetsIn PySem.F.slot_dict_get dd.typeIs PySem.F.entry_dict_get (PySem.F.args_dict_get_2 _ _) (meetsH_dict_get (tupleKind (CT X.prog X.w)) a b hd) ⟨tupleKind_room_in1 hu,k,xs,J6 I.hok eb,dd,h _ _ (I.tok _) ?_⟩
  rw [l]
  exact (rel.val k).getD rfl
end
noncomputable def Tt (td ty:TE):TE:=fun σ H Q=>td σ H fun x H1=>∃ a,x=.ref a/\dI H1 a/\ty σ H1 fun y H2=>∃ o,Bs H2 a y o/\Q (o.getD .non) H2
section
variable {X:Cx} {o e f:Expr} {apos cpos:Pos} {td ty tx:TE}
theorem K7 (hu:X.A.units+1<cLine) (ho:PE X o td) (he:PE X e ty) (m:M1 X o "get" apos e cpos):PE X (.Call (.Attribute o "get" apos) [e] [] cpos) (Tt td ty):=by
 intro pins s σ H Q I h
 refine wpAny_Call_method m.base m.few m.line PySem.F.plainAttrs_dict PySem.F.slot_dict_get PySem.F.type_dict_get (CP (ho pins s σ H _ I h) fun u s1 hq0=>?_)
 obtain ⟨x,H1,I1,rx,a,ex,d,q1⟩:=hq0
 subst ex
 obtain rfl:u=Value.ref a:=rx
 obtain ⟨t1,t2,_⟩:=VP I1 d
 refine ⟨t1,t2,?_⟩
 rw [m.trees]
 refine Calls.callWith_builtin rfl (Calls.evalArgs_plain (Calls.spliced_cons (CP (he pins s1 σ H1 _ I1 q1) fun iv s2 ⟨y,H2,I2,ry,ov,g,q2⟩=>Calls.spliced_nil ?_)))
 exact Uy hu I2 g ry fun w' s3 I3 rw'=>⟨_,H2,I3,rw',q2⟩
end
section
variable {X:Cx} {pins:List (Addr × Obj)} {σ:St} {H:Hp} {s:Shared} {a:Addr} {kvs:List (Key × V)} {A:Around} {E:Value->Shared->Prop}
end
section
variable {X:Cx} {pins:List (Addr × Obj)} {σ:St} {H:Hp} {s:Shared} {a:Addr} {y:V} {u:Value} {A:Around} {E:Value->Shared->Prop}
end
end L2
namespace HT
open PySem PyProof.Rows
section
open PySem.SeqAt
open PySem.AutoSeq1 (wpAny_loadPart')
open PySem.MeetsSeq PySem.MeetsSeq2 PySem.MeetsSeq3
end
section
variable {prog:Program} {w:World} {A:Around} {E:Value->Shared->Prop} {s:Shared}
noncomputable def Di (n d:Nat):Option Int->Nat
 | none=>d
 | some v=>if v<0 then (v+(n:Int)).toNat else min v.toNat n
theorem Ih (n d:Nat):Di n d none=d:=rfl
theorem Eu (n d k:Nat):Di n d (some (k:Int))=min k n:=by
 show (if (k:Int)<0 then ((k:Int)+(n:Int)).toNat else min (k:Int).toNat n)=min k n
 rw [if_neg (by omega),Int.toNat_natCast]
theorem Us (n d:Nat) (hd:d<=n) (o:Option Int):Di n d o<=n:=by
 cases o with
 | none=>exact hd
 | some v =>
  show (if v<0 then (v+(n:Int)).toNat else min v.toNat n)<=n
  by_cases hv:v<0
  ·rw [if_pos hv]; omega
  ·rw [if_neg hv]; exact Nat.min_le_right _ _
theorem Mx (v:Int) (n d:Nat):(if v<0 then max (v+(n:Int)) 0 else min v (n:Int))=((Di n d (some v):Nat):Int):=by
 show (if v<0 then max (v+(n:Int)) 0 else min v (n:Int))=(((if v<0 then (v+(n:Int)).toNat else min v.toNat n):Nat):Int)
 by_cases hv:v<0
 ·simp only [if_pos hv]; omega
 ·simp only [if_neg hv]; omega
theorem Mh (lo hi:Option Int) (n:Nat):Builtin.Slice.sliceAdjust lo hi 1 (n:Int)=(((Di n 0 lo:Nat):Int),((Di n n hi:Nat):Int)):=by
 have h1:¬ ((1:Int)<0):=by omega
 unfold Builtin.Slice.sliceAdjust
 simp only [h1,if_false]
 refine Prod.ext ?_ ?_
 ·cases lo with
  | none=>rfl
  | some v=>exact Mx v n 0
 ·cases hi with
  | none=>rfl
  | some v=>exact Mx v n n
theorem MJ (i j:Nat):Builtin.Slice.slicePlaces (i:Int) (j:Int) 1=j - i:=by
 unfold Builtin.Slice.slicePlaces
 have h1:(1:Int) > 0:=by omega
 simp only [h1,if_true,Int.ediv_one]
 split <;> omega
theorem JD {v:Value} {o:Option Int} {Q:Option Int->Shared->Prop} (p:IsPart v o) (h:Q o s):wpAny (model prog w) A (Builtin.Slice.slicePartIndex v) Q E s:=by
 cases p with
 | none=>exact slicePart_none h
 | int i t=>exact slicePart_int h
theorem Hl {sl:Addr} {vl vu:Value} {lo hi:Option Int} {n:Nat} {Q:Int × Int × Nat->Shared->Prop} (hs:s.heap.IsSliceOf sl vl vu .none) (pl:IsPart vl lo) (pu:IsPart vu hi)
  (h:Q (((Di n 0 lo:Nat):Int),1,Di n n hi - Di n 0 lo) s):wpAny (model prog w) A (Builtin.Slice.sliceApplied (.ref sl) (pure (n:Int))) Q E s:=by
 obtain ⟨os,hos,hcs,hds⟩:=id hs
 unfold Builtin.Slice.sliceApplied Builtin.Slice.sliceFields
 refine wpAny_bind (wpAny_bind (wpAny_field hos hds (x:=vl) rfl (wpAny_bind (wpAny_field hos hds (x:=vu) rfl (wpAny_bind (wpAny_field hos hds (x:=.none) rfl (wpAny_pure ?_)))))))
 refine wpAny_bind (slicePart_none ?_)
 show wpAny _ _ (if ((1:Int) == 0)=true then _ else _) _ _ s
 rw [if_neg (by decide)]
 refine wpAny_bind (JD pl (wpAny_bind (JD pu (wpAny_bind (wpAny_pure ?_)))))
 show wpAny _ _ (match Builtin.Slice.sliceAdjust lo hi 1 (n:Int) with | (lo,hi)=>pure (lo,(1:Int),Builtin.Slice.slicePlaces lo hi 1)) _ _ s
 rw [Mh lo hi n]
 show wpAny _ _ (pure (((Di n 0 lo:Nat):Int),(1:Int),Builtin.Slice.slicePlaces ((Di n 0 lo:Nat):Int) ((Di n n hi:Nat):Int) 1)) _ _ s
 rw [MJ]
 exact wpAny_pure h
theorem Qp (xs:Array Value) (i k:Nat):((List.range k).filterMap fun (m:Nat)=>xs[((i:Int)+(m:Int) * 1).toNat]?).toArray=((xs.toList.drop i).take k).toArray:=by
 have e:(fun (m:Nat)=>xs[((i:Int)+(m:Int) * 1).toNat]?)=fun m=>xs[i+m]?:=by
  funext m
  have:((i:Int)+(m:Int) * 1).toNat=i+m:=by omega
  rw [this]
 rw [e]
 have:=pick_run xs i k
 rw [List.filterMap_map] at this
 have e2:((fun x=>xs[x]?) ∘ fun x=>i+x)=fun m=>xs[i+m]?:=rfl
 rw [e2] at this
 rw [this]
theorem Hb {t sl:Addr} {items:Array Value} {vl vu:Value} {lo hi:Option Int} {Q:Value->Shared->Prop} (ht:IsTup s.heap t items) (hs:s.heap.IsSliceOf sl vl vu .none) (pl:IsPart vl lo) (pu:IsPart vu hi)
  (hw:¬ (Di items.size 0 lo=0/\Di items.size items.size hi=items.size))
  (h:Q (.ref s.heap.objs.size) { s with heap:=s.heap.push { cls:=.type "tuple",data:=.seq ((items.toList.drop (Di items.size 0 lo)).take (Di items.size items.size hi - Di items.size 0 lo)).toArray } })
  (hsz:items.size<=sizeLine):wpAny (model prog w) A (getItem (.ref t) (.ref sl)) Q E s:=by
 have htake:sizeOk (.seq ((items.toList.drop (Di items.size 0 lo)).take (Di items.size items.size hi - Di items.size 0 lo)).toArray):=by
  show ((items.toList.drop (Di items.size 0 lo)).take (Di items.size items.size hi - Di items.size 0 lo)).toArray.size<=sizeLine
  rw [List.size_toArray,List.length_take,List.length_drop,Array.length_toList]
  omega
 have hj:Di items.size items.size hi<=items.size:=Us _ _ (Nat.le_refl _) hi
 obtain ⟨os,hos,hcs,hds⟩:=id hs
 have hTs:s.TypeIs (.ref sl) "slice":=⟨os,hos,hcs⟩
 unfold getItem
 try with_reducible refine wpAny_holding ?_
 first | refine wpAny_bind (wpAny_pure ?_) | skip
 refine wpAny_bind (wpAny_sequenceKey ht.typeIs (by decide) ?_)
 refine wpAny_bind (wpAny_callSpecial?_slot (name:=Str.ofString "__getitem__") ht.typeIs PyProof.Rows.slot_tuple_getitem
  (wpAny_call_entry PyProof.Rows.slot_tuple_getitem ht.typeIs entry_tuple_getitem ?_ (args_tuple_getitem _ _)))
 show wpAny _ _ (Builtin.Tuple.tupleItemsOf (.ref t) >>= _) _ _ s
 refine wpAny_bind (tupleItemsOf_ ht ?_)
 refine wpAny_bind (wpAny_typeOf hTs ?_)
 rw [if_pos (by decide)]
 refine wpAny_bind (Hl hs pl pu ?_)
 have hno:¬ ((((Di items.size 0 lo:Nat):Int) == 0 && (1:Int) == 1 && (Di items.size items.size hi - Di items.size 0 lo) == items.size)=true):=by
  intro q
  rw [Bool.and_eq_true,Bool.and_eq_true] at q
  have q1:((Di items.size 0 lo:Nat):Int)=0:=eq_of_beq q.1.1
  have q2:Di items.size items.size hi - Di items.size 0 lo=items.size:=eq_of_beq q.2
  exact hw ⟨by omega,by omega⟩
 show wpAny _ _ (if (((Di items.size 0 lo:Nat):Int) == 0 && (1:Int) == 1 && (Di items.size items.size hi - Di items.size 0 lo) == items.size)=true then _ else _) _ _ s
 rw [if_neg hno,Qp]
 first
  | exact wpAny_bind (m:=Builtin.Tuple.tupleExact _) (wpAny_newObj_type (wpAny_pure ⟨_,rfl,wpAny_pure h⟩) htake)
  | exact wpAny_bind (m:=Builtin.Tuple.tupleExact _) (wpAny_newObj_type (wpAny_bind (wpAny_pure (wpAny_pure ⟨_,rfl,wpAny_pure h⟩))) htake)
  | exact wpAny_bind (wpAny_bind (m:=Builtin.Tuple.tupleExact _) (wpAny_newObj_type (wpAny_pure (wpAny_pure ⟨_,rfl,wpAny_pure h⟩)) htake))
  | exact wpAny_bind (wpAny_bind (m:=Builtin.Tuple.tupleExact _) (wpAny_newObj_type (wpAny_pure ⟨_,rfl,wpAny_pure h⟩) htake))
end
end HT
namespace L2
open PySem PySem.Spec PyProof.Rows
noncomputable abbrev TO:=St->Hp->(Option Int->Hp->Prop)->Prop
noncomputable def PO (X:Cx) (e:Option Expr) (t:TO):Prop :=
 ∀ (pins:List (Addr × Obj)) (s:Shared) (σ:St) (H:Hp) (Q:Option Int->Hp->Prop),Inv X pins σ H s->t σ H Q ->
  wpAny (model X.prog X.w) X.A (evalPart e X.env) (fun u s'=>∃ o H',Inv X pins σ H' s'/\IsPart u o/\Q o H') X.xe s
noncomputable def Q7:TO:=fun _ H Q=>Q none H
noncomputable def YW (t:TE):TO:=fun σ H Q=>t σ H fun x H1=>∃ i,x=.int i/\Q (some i) H1
section
variable {X:Cx} {e:Expr} {te:TE} {lo hi:Option Expr} {tl th:TO} {pos p2:Pos}
theorem Eg:PO X none Q7:=by
 intro pins s σ H Q I h
 rw [evalPart_none]
 exact wpAny_pure ⟨none,H,I,.none,h⟩
theorem Dc (h:PE X e te):PO X (some e) (YW te):=by
 intro pins s σ H Q I hw
 rw [evalPart_some]
 refine CP (h pins s σ H _ I hw) fun u s1 hq0=>?_
 obtain ⟨x,H1,I1,r1,q1⟩:=hq0
 obtain ⟨i,rfl,q⟩:=q1
 obtain ⟨t,rfl⟩:=r1
 exact ⟨some i,H1,I1,.int i t,q⟩
noncomputable def Zw (X:Cx) (r:V->Option Int->Option Int->Hp->VK->Prop):Prop :=
 ∀ (pins:List (Addr × Obj)) (s:Shared) (σ:St) (H:Hp) (x:V) (v vl vu:Value) (lo hi:Option Int) (sl:Addr) (Q:VK),Inv X pins σ H s->RelV x v->s.heap.IsSliceOf sl vl vu .none->IsPart vl lo->IsPart vu hi->r x lo hi H Q ->
  ∃ T id,typeLookup (.type T) "__getitem__" = pure (some (.builtin id))/\s.TypeIs v T/\wpAny (model X.prog X.w) X.A (getItem v (.ref sl)) (EP X pins σ Q) X.xe s
noncomputable def dY (r:V->Option Int->Option Int->Hp->VK->Prop) (te:TE) (tl th:TO):TE:=fun σ H Q=>te σ H fun x H1=>tl σ H1 fun l H2=>th σ H2 fun u H3=>r x l u H3 Q
theorem DG {r:V->Option Int->Option Int->Hp->VK->Prop} (hr:Zw X r) (he:PE X e te) (hl:PO X lo tl) (hu:PO X hi th):PE X (.Subscript e (.Slice lo hi none p2) pos) (dY r te tl th):=by
 intro pins s σ H Q I h
 refine Subscript_ (CP (he pins s σ H _ I h) fun v s1 hq0=>?_)
 obtain ⟨x,H1,I1,r1,q1⟩:=hq0
 refine wpAny_Slice (CP (hl pins s1 σ H1 _ I1 q1) fun vl s2 ⟨l,H2,I2,pl,q2⟩=>CP (hu pins s2 σ H2 _ I2 q2) fun vu s3 hq0=>?_)
 obtain ⟨u,H3,I3,pu,q3⟩:=hq0
 rw [evalPart_none]
 refine wpAny_pure ?_
 have I4:Inv X pins σ H3 { s3 with heap:=s3.heap.push { cls:=.type "slice",data:=.fields #[vl,vu,.none] } }:=I3.kept (t':=s3.toks) fun b ob q=>Heap.get?_push_of_some _ q
 obtain ⟨T,id,hT,ht,hg⟩:=hr pins { s3 with heap:=s3.heap.push { cls:=.type "slice",data:=.fields #[vl,vu,.none] } } σ H3 x v vl vu l u s3.heap.objs.size Q I4 r1 (Heap.IsSliceOf.new ..) pl pu q3
 show wpAny (model X.prog X.w) X.A (subscriptTail e (.Slice lo hi none p2) v (.ref s3.heap.objs.size)) (EP X pins σ Q) X.xe { s3 with heap:=s3.heap.push { cls:=.type "slice",data:=.fields #[vl,vu,.none] } }
 exact tail_any (ops:=[.ref s3.heap.objs.size,v]) ht hT hg (by with_unfolding_all rfl)
noncomputable def Cv (xs:List V) (lo hi:Option Int):List V:=(xs.drop (HT.Di xs.length 0 lo)).take (HT.Di xs.length xs.length hi - HT.Di xs.length 0 lo)
theorem Hs (xs:List V) (lo hi:Option Int):(Cv xs lo hi).length<=xs.length:=by
 unfold Cv
 rw [List.length_take,List.length_drop]
 omega
noncomputable def aV (K:PySem.W.Frag):V->Option Int->Option Int->Hp->VK->Prop:=fun x lo hi H Q=>∃ a xs,x=.ref a/\FW K H a xs /\
 ¬ (HT.Di xs.length 0 lo=0/\HT.Di xs.length xs.length hi=xs.length)/\∀ p,H p=none->Q (.ref p) (upd H p (.tup (Cv xs lo hi)))
theorem Mg:Zw X (aV X.K):=by
 intro pins s σ H x v vl vu lo hi sl Q I rx hs pl pu h
 obtain ⟨a,xs,rfl,hx,hw,q⟩:=h
 cases rx
 obtain ⟨its,r,ht,hz⟩:=I.tuple hx
 have hlen:its.toArray.size=xs.length:=by rw [List.size_toArray]; exact r.length.symm
 refine ⟨"tuple",_,PyProof.Rows.slot_tuple_getitem.lookup,ht.typeIs,?_⟩
 refine HT.Hb ht hs pl pu (by rw [hlen]; exact hw) ?_ (by rw [hlen]; exact hz)
 rw [hlen]
 refine ⟨.ref s.heap.objs.size,_,I.laid (t':=s.toks) (o:=.tup (Cv xs lo hi)) (fun b ob q=>Heap.get?_push_of_some _ q) (Nat.le_refl _) ?_,rfl,q _ (I.hok.fresh (Nat.le_refl _))⟩
 exact ⟨Nat.le_trans (Hs xs lo hi) hz,_,(r.drop (HT.Di xs.length 0 lo)).take (HT.Di xs.length xs.length hi - HT.Di xs.length 0 lo),IsTup.new _ _⟩
end
end L2
namespace L2
open PySem PySem.Spec PyProof.Rows
noncomputable def Tq (n:Nat) (i:Int):Option Nat:=if 0<=i then (if i<n then some i.toNat else none) else if -(n:Int)<=i then some (i+n).toNat else none
noncomputable def Ot {α:Type} (xs:List α) (i:Int):Option α:=(Tq xs.length i).bind fun j=>xs[j]?
theorem Rp {n:Nat} {i:Int} {j:Nat} (h:Tq n i=some j):seqIndex? i n=some j/\j<n /\ -(n:Int)<=i/\i<n:=by
 unfold Tq at h
 by_cases h0:0<=i
 ·rw [if_pos h0] at h
  by_cases h1:i<n
  ·rw [if_pos h1] at h
   have e:i.toNat=j:=Option.some.inj h
   exact ⟨by rw [seqIndex_of h0 h1,e],by omega,by omega,h1⟩
  ·rw [if_neg h1] at h; cases h
 ·rw [if_neg h0] at h
  by_cases h1 : -(n:Int)<=i
  ·rw [if_pos h1] at h
   have e:(i+n).toNat=j:=Option.some.inj h
   exact ⟨by rw [seqIndex_neg (by omega) h1,e],by omega,h1,by omega⟩
  ·rw [if_neg h1] at h; cases h
theorem Ju {α:Type} {xs:List α} {i:Int} {v:α} (h:Ot xs i=some v):∃ j,seqIndex? i xs.length=some j/\xs[j]? = some v/\j<xs.length /\ -(xs.length:Int)<=i/\i<xs.length:=by
 unfold Ot at h
 cases e:Tq xs.length i with
 | none=>rw [e] at h; cases h
 | some j =>
  rw [e] at h
  obtain ⟨h1,h2,h3,h4⟩:=Rp e
  exact ⟨j,h1,h,h2,h3,h4⟩
theorem Al {α:Type} {xs:List α} {j:Nat} {v:α} (h:xs[j]? = some v):Ot xs (j:Int)=some v:=by
 have hj:j<xs.length:=(List.getElem?_eq_some_iff.mp h).1
 have e:Tq xs.length (j:Int)=some j:=by
  unfold Tq
  rw [if_pos (by omega),if_pos (by omega)]; simp
 unfold Ot; rw [e]; exact h
noncomputable def Qy (b:Expr):Prop:=∀ o i,subscripted b false o i=operate [o,i] (getItem o i)
noncomputable def WL (X:Cx) (r:R2):Prop :=
 ∀ (value slice:Expr) (pins:List (Addr × Obj)) (s:Shared) (σ:St) (H:Hp) (x y:V) (v u:Value) (Q:VK),Inv X pins σ H s->RelV x v->RelV y u->r x y H Q ->
  subscripted slice false v u=operate [v,u] (getItem v u)->wpAny (model X.prog X.w) X.A (subscriptTail value slice v u) (EP X pins σ Q) X.xe s
noncomputable def Zq (X:Cx) (id:String) (r:V->List V->Hp->VK->Prop):Prop :=
 ∀ (pins:List (Addr × Obj)) (s:Shared) (σ:St) (H:Hp) (x:V) (xs:List V) (v:Value) (us:List Value) (Q:VK),Inv X pins σ H s->RelV x v->Vals xs us->r x xs H Q ->
  wpAny (model X.prog X.w) X.A (call (.builtin id) (v::us)) (EP X pins σ Q) X.xe s
section
variable {X:Cx} {a b:Expr} {ta tb:TE} {pos:Pos}
theorem BV {r:R2} (hr:WL X r) (ha:PE X a ta) (hb:PE X b tb) (hs:Qy b):PE X (.Subscript a b pos) (Ww r ta tb):=by
 intro pins s σ H Q I h
 exact Subscript_ (VR ha hb I h fun v u s2 x y H2 I2 rx ry q=>hr a b pins s2 σ H2 x y v u Q I2 rx ry q (hs _ _))
noncomputable def Yt (K:PySem.W.Frag):R2:=fun x y H Q=>∃ p xs i v,x=.ref p/\y=.int i/\Cm K H p xs/\Ot xs i=some v/\Q v H
noncomputable def Yv (K:PySem.W.Frag):R2:=fun x y H Q=>∃ p xs i v,x=.ref p/\y=.int i/\FW K H p xs/\Ot xs i=some v/\Q v H
noncomputable def bU:R2:=fun x y H Q=>∃ z i c,x=.str z/\y=.int i/\z.length<=sizeLine/\Ot z.cps.toList i=some c/\Q (.str ⟨#[c]⟩) H
theorem Cg:WL X (Yt X.K):=by
 intro value slice pins s σ H x y v u Q I rx ry h hs
 obtain ⟨p,xs,i,z,rfl,rfl,hq,he,q⟩:=h
 cases rx
 obtain ⟨t,rfl⟩:=ry
 obtain ⟨its,r,pl,hz⟩:=I.list hq
 obtain ⟨j,h1,h2,h3,h4,h5⟩:=Ju he
 obtain ⟨w,ew,rw'⟩:=r.get h2
 have hl:=r.length
 have hn:=G5
 have fin:EP X pins σ Q w s:=⟨z,H,I,rw',q⟩
 by_cases h0:0<=i
 ·have hj:i.toNat=j:=by
   rw [seqIndex_of h0 h5] at h1
   exact Option.some.inj h1
  exact item_listR pl.isList h0 (by omega) (by rw [hj]; simpa using ew) fin hs
 ·have hj:(i+(its.toArray.size:Int)).toNat=j:=by
   rw [seqIndex_neg (by omega) h4] at h1
   rw [List.size_toArray,← hl]
   exact Option.some.inj h1
  exact subscriptTail_builtinR (x:=w) pl.isList.typeIs slot_list_getitem.lookup
   (wpAny_getItem_list_neg (Q:=fun r s'=>r=w/\EP X pins σ Q r s') pl.isList (by omega) (by rw [List.size_toArray] <;> omega) (by omega) (by rw [hj]; simpa using ew) ⟨rfl,fin⟩) hs
theorem U0:WL X (Yv X.K):=by
 intro value slice pins s σ H x y v u Q I rx ry h hs
 obtain ⟨p,xs,i,z,rfl,rfl,hq,he,q⟩:=h
 cases rx
 obtain ⟨t,rfl⟩:=ry
 obtain ⟨its,r,pl,hz⟩:=I.tuple hq
 obtain ⟨j,h1,h2,h3,h4,h5⟩:=Ju he
 obtain ⟨w,ew,rw'⟩:=r.get h2
 have hl:=r.length
 have hn:=G5
 have fin:EP X pins σ Q w s:=⟨z,H,I,rw',q⟩
 exact subscriptTail_builtinR (x:=w) pl.typeIs slot_tuple_getitem.lookup
  (getItem_tuple (j:=j) (Q:=fun r s'=>r=w/\EP X pins σ Q r s') pl (by omega) (by omega) (by rw [List.size_toArray,← hl]; exact h1) (by simpa using ew) ⟨rfl,fin⟩) hs
theorem Lp:WL X bU:=by
 intro value slice pins s σ H x y v u Q I rx ry h hs
 obtain ⟨z,i,c,rfl,rfl,hz,he,q⟩:=h
 obtain ⟨t,rfl⟩:=rx
 obtain ⟨t',rfl⟩:=ry
 obtain ⟨j,h1,h2,h3,h4,h5⟩:=Ju he
 have hl:z.cps.toList.length=z.length:=by simp [Str.length]
 rw [hl] at h1 h4 h5
 have hn:=G5
 exact tail_any (typeIs_str s z t) slot_str_getitem.lookup (getItem_str (c:=c) (by
  have e1:decide (i < -(2 ^ 63:Int))=false:=decide_eq_false (by omega)
  have e2:decide (i ≥ 2 ^ 63)=false:=decide_eq_false (by omega)
  rw [e1,e2,Bool.or_false]) (by rw [h1]; simpa using h2) ⟨.str ⟨#[c]⟩,H,I.tok _,⟨_,rfl⟩,q⟩) hs
theorem J8 (lo hi:Option Int) (n:Nat):(sliceBounds lo hi none n).1=((HT.Di n 0 lo:Nat):Int)/\(sliceBounds lo hi none n).2.1=((HT.Di n n hi:Nat):Int)/\(sliceBounds lo hi none n).2.2=1:=by
 refine ⟨?_,?_,rfl⟩
 ·cases lo with
  | none=>simp [sliceBounds,HT.Di]
  | some i =>
   simp only [sliceBounds,HT.Di,Option.getD_none,show (1:Int) > 0 by decide,if_true]
   by_cases h:i<0
   ·simp only [h,if_true] <;> omega
   ·simp only [h,if_false] <;> omega
 ·cases hi with
  | none=>simp [sliceBounds,HT.Di]
  | some i =>
   simp only [sliceBounds,HT.Di,Option.getD_none,show (1:Int) > 0 by decide,if_true]
   by_cases h:i<0
   ·simp only [h,if_true] <;> omega
   ·simp only [h,if_false] <;> omega
theorem JL (its:List Value) (lo hi:Option Int):slicePick its.toArray lo hi none=((its.drop (HT.Di its.length 0 lo)).take (HT.Di its.length its.length hi - HT.Di its.length 0 lo)).toArray:=by
 obtain ⟨h1,h2,h3⟩:=J8 lo hi its.toArray.size
 unfold slicePick
 rw [h1,h2,h3]
 simp only [sliceRange_one,pick_run,List.size_toArray] <;> rfl
noncomputable def aq (K:PySem.W.Frag):V->Option Int->Option Int->Hp->VK->Prop:=fun x lo hi H Q=>∃ a xs,x=.ref a/\Cm K H a xs/\∀ p,H p=none->Q (.ref p) (upd H p (.lst (Cv xs lo hi)))
theorem Fi:Zw X (aq X.K):=by
 intro pins s σ H x v vl vu lo hi sl Q I rx hs pl pu h
 obtain ⟨a,xs,rfl,hx,q⟩:=h
 cases rx
 obtain ⟨its,r,ht,hz⟩:=I.list hx
 have hlen:=r.length
 refine ⟨"list",_,slot_list_getitem.lookup,ht.isList.typeIs,?_⟩
 refine wpAny_getItem_list_slice ht.isList hs pl pu .none (by simp) ?_ (by rw [List.size_toArray] <;> omega)
 rw [JL,← hlen]
 refine ⟨.ref s.heap.objs.size,_,I.laid (t':=s.toks) (o:=.lst (Cv xs lo hi)) (fun b ob q=>Heap.get?_push_of_some _ q) (Nat.le_refl _) ?_,rfl,q _ (I.hok.fresh (Nat.le_refl _))⟩
 exact ⟨Nat.le_trans (Hs xs lo hi) hz,_,0,(r.drop (HT.Di xs.length 0 lo)).take (HT.Di xs.length xs.length hi - HT.Di xs.length 0 lo),Heap.get?_push_size _ rfl⟩
noncomputable def Dv:V->Bool
 | .non=>true
 | .bl _=>true
 | .int _=>true
 | .str _=>true
 | _=>false
noncomputable def KC:V->V->Bool
 | .non,.non=>true
 | .bl a,.bl b=>a == b
 | .bl a,.int b=>(if a then 1 else 0) == b
 | .int a,.bl b=>a == (if b then 1 else 0)
 | .int a,.int b=>a == b
 | .str a,.str b=>a == b
 | _,_=>false
theorem Lb {A:Around} {s:Shared} {y x:V} {u v:Value} (ry:RelV y u) (rx:RelV x v) (fy:Dv y=true) (fx:Dv x=true):SeqAt.EqAt A s u v (KC y x):=by
 cases y with
 | non =>
  cases ry
  cases x with
  | non=>cases rx; exact SeqAt.EqAt.same _
  | bl b=>cases rx; exact SeqAt.EqAt.none_bool b
  | int b=>obtain ⟨t,rfl⟩:=rx; exact SeqAt.EqAt.none_int b t
  | str b=>obtain ⟨t,rfl⟩:=rx; exact SeqAt.EqAt.none_str b t
  | _=>exact absurd (show false=true from fx) Bool.false_ne_true
 | bl a =>
  cases ry
  cases x with
  | non=>cases rx; exact SeqAt.EqAt.bool_none a
  | bl b=>cases rx; exact SeqAt.EqAt.bool_bool a b
  | int b=>obtain ⟨t,rfl⟩:=rx; exact SeqAt.EqAt.bool_int a b t
  | str b=>obtain ⟨t,rfl⟩:=rx; exact SeqAt.EqAt.bool_str a b t
  | _=>exact absurd (show false=true from fx) Bool.false_ne_true
 | int a =>
  obtain ⟨t',rfl⟩:=ry
  cases x with
  | non=>cases rx; exact SeqAt.EqAt.int_none a t'
  | bl b=>cases rx; exact SeqAt.EqAt.int_bool a t' b
  | int b=>obtain ⟨t,rfl⟩:=rx; exact SeqAt.EqAt.int_int a t' b t
  | str b=>obtain ⟨t,rfl⟩:=rx; exact SeqAt.EqAt.int_str a t' b t
  | _=>exact absurd (show false=true from fx) Bool.false_ne_true
 | str a =>
  obtain ⟨t',rfl⟩:=ry
  cases x with
  | non=>cases rx; exact SeqAt.EqAt.str_none a t'
  | bl b=>cases rx; exact SeqAt.EqAt.str_bool a t' b
  | int b=>obtain ⟨t,rfl⟩:=rx; exact SeqAt.EqAt.str_int a t' b t
  | str b=>obtain ⟨t,rfl⟩:=rx; exact SeqAt.EqAt.str_str a t' b t
  | _=>exact absurd (show false=true from fx) Bool.false_ne_true
 | _=>exact absurd (show false=true from fy) Bool.false_ne_true
noncomputable def KD (x:V) (u:Value):Bool:=match u with
 | .none=>KC .non x
 | .bool b=>KC (.bl b) x
 | .int i _=>KC (.int i) x
 | .str z _=>KC (.str z) x
 | _=>false
theorem J3 {x y:V} {u:Value} (r:RelV y u) (f:Dv y=true):KD x u=KC y x:=by
 cases y with
 | non=>cases r; rfl
 | bl b=>cases r; rfl
 | int i=>obtain ⟨t,rfl⟩:=r; rfl
 | str z=>obtain ⟨t,rfl⟩:=r; rfl
 | _=>exact absurd (show false=true from f) Bool.false_ne_true
theorem HW {x:V}:∀ {xs:List V} {us:List Value},Vals xs us->xs.all Dv=true->us.any (KD x)=xs.any fun y=>KC y x
 | _,_,.nil,_=>rfl
 | y::xs,u::us,.cons r t,f=>by
  rw [List.all_cons,Bool.and_eq_true] at f
  rw [List.any_cons,List.any_cons,J3 r f.1,HW t f.2]
theorem FT {A:Around} {s:Shared} {x:V} {v:Value} (rx:RelV x v) (fx:Dv x=true):∀ {xs:List V} {us:List Value},Vals xs us->xs.all Dv=true->∀ u∈us,SeqAt.EqAt A s u v (KD x u)
 | _,_,.nil,_=>fun u hu=>by cases hu
 | y::xs,u::us,.cons r t,f=>fun u' hu=>by
  rw [List.all_cons,Bool.and_eq_true] at f
  rcases List.mem_cons.mp hu with rfl | hu
  ·rw [J3 r f.1]; exact Lb r rx f.1 fx
  ·exact FT rx fx t f.2 u' hu
noncomputable def inV (x:V) (xs:List V):Bool:=xs.any fun y=>KC y x
noncomputable def aD (K:PySem.W.Frag) (neg:Bool):R2:=fun x y H Q=>∃ p xs,y=.ref p/\(Cm K H p xs \/ FW K H p xs)/\Dv x=true/\xs.all Dv=true/\Q (.bl (if neg then !inV x xs else inV x xs)) H
theorem Oz:GC X (compareOp .In) (aD X.K false):=by
 intro pins s σ H x y v u Q I rx ry h
 obtain ⟨p,xs,rfl,hq,fx,fs,q⟩:=h
 cases ry
 rcases hq with hq | hq
 ·obtain ⟨its,r,pl,hz⟩:=I.list hq
  refine SeqAt.in_listAt (KD x) pl.isList (fun w hw=>FT rx fx r fs w (by simpa using hw)) ⟨.bl _,H,I,rfl,?_⟩
  rw [show its.toArray.any (KD x)=its.any (KD x) by simp,HW r fs]
  exact q
 ·obtain ⟨its,r,pl,hz⟩:=I.tuple hq
  refine SeqAt.in_tupleAt (KD x) pl (fun w hw=>FT rx fx r fs w (by simpa using hw)) ⟨.bl _,H,I,rfl,?_⟩
  rw [show its.toArray.any (KD x)=its.any (KD x) by simp,HW r fs]
  exact q
theorem Fb:GC X (compareOp .NotIn) (aD X.K true):=by
 intro pins s σ H x y v u Q I rx ry h
 obtain ⟨p,xs,rfl,hq,fx,fs,q⟩:=h
 cases ry
 rcases hq with hq | hq
 ·obtain ⟨its,r,pl,hz⟩:=I.list hq
  refine SeqAt.notIn_listAt (KD x) pl.isList (fun w hw=>FT rx fx r fs w (by simpa using hw)) ⟨.bl _,H,I,rfl,?_⟩
  rw [show its.toArray.any (KD x)=its.any (KD x) by simp,HW r fs]
  exact q
 ·obtain ⟨its,r,pl,hz⟩:=I.tuple hq
  refine SeqAt.notIn_tupleAt (KD x) pl (fun w hw=>FT rx fx r fs w (by simpa using hw)) ⟨.bl _,H,I,rfl,?_⟩
  rw [show its.toArray.any (KD x)=its.any (KD x) by simp,HW r fs]
  exact q
theorem BJ:Fp X (.builtin "len") (fun xs H Q=>∃ p ys,xs=[.ref p]/\(Cm X.K H p ys \/ FW X.K H p ys)/\Q (.int ys.length) H):=by
 intro pins s σ H xs us Q I r h
 obtain ⟨p,ys,rfl,hq,q⟩:=h
 obtain ⟨u,rfl,rx⟩:=vals1 r
 cases rx
 have hn:=G5
 rcases hq with hq | hq
 ·obtain ⟨its,r',pl,hz⟩:=I.list hq
  have hlen:=r'.length
  exact Calls.call_len_list pl.isList (by simp only [List.size_toArray] <;> omega) ⟨.int ys.length,H,I.tok _,⟨s.toks+1,by rw [List.size_toArray,hlen]⟩,q⟩
 ·obtain ⟨its,r',pl,hz⟩:=I.tuple hq
  have hlen:=r'.length
  exact len_tuple pl (by simp only [List.size_toArray] <;> omega) ⟨.int ys.length,H,I.tok _,⟨s.toks+1,by rw [List.size_toArray,hlen]⟩,q⟩
theorem HQ:Fp X (.builtin "len") (fun xs H Q=>∃ z,xs=[.str z]/\z.length<=sizeLine/\Q (.int z.length) H):=by
 intro pins s σ H xs us Q I r h
 obtain ⟨z,rfl,hz,q⟩:=h
 obtain ⟨u,rfl,t,rfl⟩:=vals1 r
 have hn:=G5
 exact len_str (by omega) ⟨.int z.length,H,I.tok _,⟨_,rfl⟩,q⟩
theorem G_:Fp X (.type "list") (fun xs H Q=>∃ p ys,xs=[.ref p]/\(Cm X.K H p ys \/ FW X.K H p ys)/\∀ l,H l=none->Q (.ref l) (upd H l (.lst ys))):=by
 intro pins s σ H xs us Q I r h
 obtain ⟨p,ys,rfl,hq,q⟩:=h
 obtain ⟨u,rfl,rx⟩:=vals1 r
 cases rx
 have fin:∀ (its:List Value),Vals ys its->ys.length<=sizeLine->∀ (h':Heap) (c':Nat),(∀ b o',s.heap.get? b=some o'->h'.get? b=some o') ->
   h'.get? s.heap.objs.size=some { cls:=.type "list",dict:=none,data:=.seq its.toArray c',slots:=#[] }->EP X pins σ Q (.ref s.heap.objs.size) { s with heap:=h' }:=fun its r' hz h' c' kp e =>
  ⟨.ref s.heap.objs.size,_,I.laid (t':=s.toks) kp (Nat.le_refl _) (show CQ X.prog X.w _ h' _ (.lst ys) from ⟨hz,its,c',r',e⟩),rfl,q _ (I.hok.fresh (Nat.le_refl _))⟩
 rcases hq with hq | hq
 ·obtain ⟨its,r',pl,hz⟩:=I.list hq
  have hlen:=r'.length
  obtain ⟨o,ho,hc,n,hd⟩:=pl.isList
  exact call_list_seq p (.inl rfl) ho hc hd (fun h' c' kp e=>fin its r' hz h' c' kp e) (by simp only [List.size_toArray] <;> omega)
 ·obtain ⟨its,r',pl,hz⟩:=I.tuple hq
  have hlen:=r'.length
  obtain ⟨o,ho,hc,n,hd⟩:=pl
  exact call_list_seq p (.inr rfl) ho hc hd (fun h' c' kp e=>fin its r' hz h' c' kp e) (by simp only [List.size_toArray] <;> omega)
theorem JP:Fp X (.type "tuple") (fun xs H Q=>∃ p ys,xs=[.ref p]/\((Cm X.K H p ys/\∀ l,H l=none->Q (.ref l) (upd H l (.tup ys))) \/ (FW X.K H p ys/\Q (.ref p) H))):=by
 intro pins s σ H xs us Q I r h
 obtain ⟨p,ys,rfl,h⟩:=h
 obtain ⟨u,rfl,rx⟩:=vals1 r
 cases rx
 rcases h with ⟨hq,q⟩ | ⟨hq,q⟩
 ·obtain ⟨its,r',pl,hz⟩:=I.list hq
  have hlen:=r'.length
  refine call_tuple_list pl.isList (fun h' kp=>?_) (by simp only [List.size_toArray] <;> omega)
  have I1:Inv X pins σ H { s with heap:=h' }:=I.kept (t':=s.toks) kp
  have I2:Inv X pins σ (upd H h'.objs.size (.tup ys)) { s with heap:=h'.push { cls:=.type "tuple",data:=.seq its.toArray } } :=
   I1.laid (t':=s.toks) (fun b o e=>Heap.get?_push_of_some _ e) (Nat.le_refl _) (show CQ X.prog X.w _ _ _ (.tup ys) from ⟨hz,its,r',IsTup.new _ _⟩)
  exact ⟨.ref h'.objs.size,_,I2,rfl,q _ (I1.hok.fresh (Nat.le_refl _))⟩
 ·obtain ⟨its,r',pl,hz⟩:=I.tuple hq
  exact call_tuple_same pl ⟨.ref p,H,I,rfl,q⟩
noncomputable def b8 (K:PySem.W.Frag) (T:String) (x:V) (H:Hp):Prop:=match x with
 | .str _=>T = "str"
 | .int _=>T = "int"
 | .ref p=>(T = "list" /\ ∃ xs,Cm K H p xs) \/ (T = "tuple" /\ ∃ o,K.lookup p=some o/\o.cls=.type "tuple" /\ o.dict=none) \/
   (T = "dict" /\ ((∃ kvs,H p=some (.dK kvs)) \/ ∃ kvs,H p=some (.dT kvs))) \/ (T = "set" /\ ∃ S n,H p=some (.set S n))
 | _=>False
theorem Qw {pins:List (Addr × Obj)} {σ:St} {H:Hp} {s:Shared} {T:String} {x:V} {v:Value} (I:Inv X pins σ H s) (r:RelV x v) (ty:b8 X.K T x H) :
  s.TypeIs v T/\∀ a,v=.ref a->∃ ob,s.heap.get? a=some ob/\ob.dict=none:=by
 cases x with
 | str z =>
  obtain ⟨t,rfl⟩:=r
  cases (show T = "str" from ty)
  exact ⟨typeIs_str s z t,fun _ e=>nomatch e⟩
 | int i =>
  obtain ⟨t,rfl⟩:=r
  cases (show T = "int" from ty)
  exact ⟨typeIs_int s i t,fun _ e=>nomatch e⟩
 | ref p =>
  cases r
  rcases ty with ⟨rfl,xs,hq⟩ | ⟨rfl,o,hk,hc,hd⟩ | ⟨rfl,hk⟩ | ⟨rfl,S,n,hk⟩
  ·obtain ⟨its,_,pl,_⟩:=I.list hq
   refine ⟨pl.isList.typeIs,fun a e=>?_⟩
   cases e
   obtain ⟨o,n,e,c,hd,_⟩:=pl
   exact ⟨o,e,hd⟩
  ·refine ⟨⟨o,I.Hf p o hk,hc⟩,fun a e=>?_⟩
   cases e
   exact ⟨o,I.Hf _ o hk,hd⟩
  ·have z:∃ o,s.heap.get? p=some o/\o.ExactDict:=by
    rcases hk with ⟨kvs,hk⟩ | ⟨kvs,hk⟩
    ·obtain ⟨_,_,_,_,o,_,_,e,ex,_⟩:=I.hok p _ hk
     exact ⟨o,e,ex⟩
    ·obtain ⟨_,_,_,_,o,_,_,e,ex,_⟩:=I.hok p _ hk
     exact ⟨o,e,ex⟩
   obtain ⟨o,e,ex⟩:=z
   refine ⟨⟨o,e,ex.1⟩,fun a e2=>?_⟩
   cases e2
   exact ⟨o,e,ex.2.1⟩
  ·obtain ⟨o,_,_,_,e,ex,_⟩:=I.hok p _ hk
   refine ⟨⟨o,e,ex.1⟩,fun a e2=>?_⟩
   cases e2
   exact ⟨o,e,ex.2.1⟩
 | _=>exact False.elim ty
noncomputable def Z6 (K:PySem.W.Frag) (T:String) (r:V->List V->Hp->VK->Prop) (to:TE):TE:=fun σ H Q=>to σ H fun x H1=>b8 K T x H1/\r x [] H1 Q
noncomputable def dj (K:PySem.W.Frag) (T:String) (r:V->List V->Hp->VK->Prop) (to:TE) (t:TA):TE:=fun σ H Q=>to σ H fun x H1=>b8 K T x H1/\t σ H1 fun xs H2=>r x xs H2 Q
variable {o e:Expr} {es:List Expr} {to:TE} {t:TA} {name:Str} {apos cpos:Pos} {T id:String} {r:V->List V->Hp->VK->Prop}
theorem Tw (pa:PlainAttrs T) (slot:Slot T name id) (hty:typeOf (.builtin id)=pure (.type "method_descriptor")) (hm:Zq X id r) (ho:PE X o to)
  (hbase:attributeBase o name X.env (eval o X.env)=eval o X.env:=by rfl) (hline:(apos.endLine == cpos.line)=true:=by rfl):PE X (.Call (.Attribute o name apos) [] [] cpos) (Z6 X.K T r to):=by
 intro pins s σ H Q I h
 refine wpAny_Call_method0_late hbase hline (CP (ho pins s σ H _ I h) fun v s1 hq0=>?_)
 obtain ⟨x,H1,I1,r1,ty,q1⟩:=hq0
 obtain ⟨h1,h2⟩:=Qw I1 r1 ty
 exact ⟨T,id,pa,slot,hty,h1,h2,Calls.callWith_builtin rfl (PySem.evalArgs_none (hm pins s1 σ H1 x [] v [] Q I1 r1 .nil q1))⟩
theorem Ef (pa:PlainAttrs T) (slot:Slot T name id) (hty:typeOf (.builtin id)=pure (.type "method_descriptor")) (hm:Zq X id r) (ho:PE X o to) (ha:PA X (e::es) t)
  (hbase:attributeBase o name X.env (eval o X.env)=eval o X.env:=by rfl)
  (hfew:((backTo cpos (starEach (e::es) X.env)).all (fun x=>!x.1) && (backToKw cpos (keywordEach [] X.env)).all (fun x=>x.1.isSome)
   && decide ((e::es).length+([]:List Keyword).length+(if ([]:List Keyword).isEmpty then 0 else 1)<30))=true:=by rfl)
  (hline:(apos.endLine == cpos.line)=true:=by rfl) (hs:starEach (e::es) X.env=(false,eval e X.env)::starEach es X.env:=by rfl) (hplain:(backTo cpos (starEach es X.env)).any (·.1)=false:=by rfl) :
  PE X (.Call (.Attribute o name apos) (e::es) [] cpos) (dj X.K T r to t):=by
 intro pins s σ H Q I h
 refine wpAny_Call_method_late hbase hfew hline rfl (CP (ho pins s σ H _ I h) fun v s1 hq0=>?_)
 obtain ⟨x,H1,I1,r1,ty,q1⟩:=hq0
 obtain ⟨h1,h2⟩:=Qw I1 r1 ty
 refine ⟨T,id,pa,slot,hty,h1,h2,?_⟩
 have hA:=ha cpos pins s1 σ H1 _ I1 q1
 rw [hs] at hA ⊢
 refine Calls.callWith_builtin (by show (false || (backTo cpos (starEach es X.env)).any (·.1))=false; rw [hplain] <;> rfl) (Calls.evalArgs_plain ?_)
 exact CP hA fun us s2 ⟨vs,H2,I2,r2,q2⟩=>hm pins s2 σ H2 x vs v us Q I2 r1 r2 q2
end
end L2
namespace L2
open PySem PySem.Spec PyProof.Rows
noncomputable def cT (X:Cx) (id:String) (r:V->List V->Hp->VK->Prop):Prop :=
 ∀ (pins:List (Addr × Obj)) (s:Shared) (σ:St) (H:Hp) (x:V) (xs:List V) (v:Value) (us:List Value) (Q:VK),Inv X pins σ H s->RelV x v->Vals xs us->r x xs H Q ->
  wpAny (model X.prog X.w) X.A (call (.builtin id) (v::us)) (EP X pins σ Q) X.xe s
theorem Vals.one:∀ {x:V} {us:List Value},Vals [x] us->∃ u,us=[u]/\RelV x u
 | _,_,.cons r .nil=>⟨_,rfl,r⟩
theorem Vals.two:∀ {x y:V} {us:List Value},Vals [x,y] us->∃ u v,us=[u,v]/\RelV x u/\RelV y v
 | _,_,_,.cons r (.cons q .nil)=>⟨_,_,rfl,r,q⟩
theorem Vals.zero:∀ {us:List Value},Vals [] us->us=[]
 | _,.nil=>rfl
section
variable {X:Cx} {pins:List (Addr × Obj)} {σ:St} {H:Hp} {s:Shared} {l b:Addr} {xs ys zs:List V}
theorem Inv.Xg {its its':List Value} {n:Nat} {f:Array Value->Array Value} {t':Nat} (I:Inv X pins σ H s) (hH:H l=some (.lst xs))
  (e:s.heap.get? l=some { cls:=.type "list",data:=.seq its.toArray n }) (hf:f its.toArray=its'.toArray) (hv:Vals ys its') (hz:ys.length<=sizeLine) :
  Inv X pins σ (upd H l (.lst ys)) { s with heap:=s.heap.update l (Obj.mapSeq f),toks:=t' }:=by
 have q:=PySem.IsL.update e f
 rw [hf] at q
 refine I.write (x:=l) (e:=l) (by rw [hH]; exact trivial) (.inl rfl) (fun b' u hb hu=>(Heap.get?_update_other s.heap (Obj.mapSeq f) (Ne.symm hb)).trans hu) ⟨_,q⟩ ?_
 exact ⟨hz,its',_,hv,q⟩
theorem Inv.VN {its:List Value} {t':Nat} (I:Inv X pins σ H s) (hv:Vals ys its) (hz:ys.length<=sizeLine) :
  Inv X pins σ (upd H s.heap.objs.size (.lst ys)) { s with heap:=s.heap.push { cls:=.type "list",data:=.seq its.toArray },toks:=t' } :=
 I.laid (fun _ _ q=>Heap.get?_push_of_some _ q) (Nat.le_refl _) ⟨hz,its,0,hv,Heap.get?_push_size _ rfl⟩
theorem Inv.fresh (I:Inv X pins σ H s):H s.heap.objs.size=none:=I.hok.fresh (Nat.le_refl _)
theorem Inv.QT (I:Inv X pins σ H s) (hH:H l=some (.lst xs)):xs.length<=sizeLine/\∃ (its:List Value) (n:Nat),Vals xs its/\xs.length=its.length/\s.heap.get? l=some { cls:=.type "list",data:=.seq its.toArray n }:=by
 obtain ⟨z,its,n,r,e⟩:=I.hok l _ hH
 exact ⟨z,its,n,r,r.length,e⟩
theorem O_ {n:Nat} (h:n<=sizeLine):Builtin.List.listTooLong n=false:=by
 unfold Builtin.List.listTooLong
 exact decide_eq_false (by omega)
end
section
variable {X:Cx}
noncomputable def RL:V->List V->Hp->VK->Prop:=fun x vs H Q=>∃ l xs y,x=.ref l/\vs=[y]/\H l=some (.lst xs)/\xs.length<sizeLine/\Q .non (upd H l (.lst (xs++[y])))
theorem Bu:cT X "list.append" RL:=by
 intro pins s σ H x vs v us Q I rx rv h
 obtain ⟨l,xs,y,rfl,rfl,hH,hz,q⟩:=h
 cases rx
 obtain ⟨u,rfl,ru⟩:=rv.one
 obtain ⟨z,its,n,r,hl,e⟩:=I.QT hH
 refine call_meets F.slot_list_append ⟨_,e,rfl⟩ F.entry_list_append (F.args_list_append_2 _ _) (PySem.list_append l its.toArray n u (by rw [List.size_toArray]; omega)) ⟨e,?_⟩
 refine ⟨.non,_,I.Xg (its':=its++[u]) hH e (by simp) (r.append (.cons ru .nil)) ?_,rfl,q⟩
 rw [List.length_append,List.length_singleton]
 omega
noncomputable def RG:V->List V->Hp->VK->Prop:=fun x vs H Q=>∃ l b xs zs,x=.ref l/\vs=[.ref b]/\H l=some (.lst xs)/\H b=some (.lst zs)/\xs.length+zs.length<=sizeLine/\Q .non (upd H l (.lst (xs++zs)))
theorem Oa:cT X "list.extend" RG:=by
 intro pins s σ H x vs v us Q I rx rv h
 obtain ⟨l,b,xs,zs,rfl,rfl,hH,hB,hz,q⟩:=h
 cases rx
 obtain ⟨u,rfl,ru⟩:=rv.one
 cases ru
 obtain ⟨z,its,n,r,hl,e⟩:=I.QT hH
 obtain ⟨z2,its2,n2,r2,hl2,e2⟩:=I.QT hB
 have hsz:its.toArray.size+its2.toArray.size<=sizeLine:=by rw [List.size_toArray,List.size_toArray]; omega
 have hlong:¬ (!its.toArray.isEmpty && Builtin.List.listTooLong (its.toArray.size+its2.toArray.size))=true:=by
  rw [O_ hsz,Bool.and_false]
  exact Bool.false_ne_true
 refine call_meets F.slot_list_extend ⟨_,e,rfl⟩ F.entry_list_extend (F.args_list_extend_2 _ _)
  (AutoSeq1.list_extend_list_list_0 l its.toArray n b its2.toArray n2 hlong (by rw [List.size_toArray]; omega) (by omega)) ⟨e,e2,?_⟩
 refine ⟨.non,_,I.Xg (its':=its++its2) hH e (by simp) (r.append r2) ?_,rfl,q⟩
 rw [List.length_append]
 omega
noncomputable def b_:R2:=fun x y H Q=>∃ l b xs zs,x=.ref l/\y=.ref b/\H l=some (.lst xs)/\H b=some (.lst zs)/\xs.length+zs.length<=sizeLine/\∀ p,H p=none->Q (.ref p) (upd H p (.lst (xs++zs)))
theorem I_:GC X (binaryOp .Add) b_:=by
 intro pins s σ H x y v u Q I rx ry h
 obtain ⟨l,b,xs,zs,rfl,rfl,hH,hB,hz,q⟩:=h
 cases rx
 cases ry
 obtain ⟨z,its,n,r,hl,e⟩:=I.QT hH
 obtain ⟨z2,its2,n2,r2,hl2,e2⟩:=I.QT hB
 refine PySem.P.add_list e e2 ?_ (by rw [List.size_toArray,List.size_toArray]; omega)
 have ea:its.toArray++its2.toArray=(its++its2).toArray:=by simp
 rw [ea]
 exact ⟨.ref _,_,I.VN (t':=s.toks) (r.append r2) (by rw [List.length_append]; omega),rfl,q _ I.fresh⟩
end
section
variable {prog:Program} {w:World} {A:Around} {E:Value->Shared->Prop} {s:Shared}
end
section
variable {X:Cx}
end
end L2
namespace Att
open PySem PySem.W PySem.Calls PyProof.Rows
theorem Hy {P:Params} {h:Heap}:∀ (ns:List Int) (vs:List Value),WellAll P h vs (ns.map WData.int)->IntsAre vs ns:=by
 intro ns
 induction ns with
 | nil =>
  intro vs w
  rw [List.map_nil] at w
  cases w
  exact .nil
 | cons n ns ih =>
  intro vs w
  rw [List.map_cons] at w
  cases w with
  | cons a b =>
   cases a
   exact .cons _ _ (ih _ b)
theorem Oq {l:OpenLaw} {n:Nat} (hn:l.most=some n) {P:Params} {h:Heap} {args:List WData} {vals:List Value}
  (hpre:l.row.toRowW.claim.pre args=true) (hwl:WellAll P h vals args) :
  ∃ a vs ns,vals=[Value.ref a]/\args=[WData.list (ns.map WData.int)]/\h.get? a=some { cls:=.type "list",data:=.seq vs.toArray }/\IntsAre vs ns/\ns.length<=n:=by
 have hsh:WShape.hasAll [] args [.list .int]=true:=(pre_splitW hpre).1
 have hc:l.pre.holds [] { args:=args }=true:=(pre_splitW hpre).2
 obtain ⟨d,r,rfl,h1,h2⟩:=hasAllW_cons hsh
 obtain rfl:=hasAllW_nil h2
 obtain ⟨xs,rfl,h3⟩:=hasW_list h1
 obtain ⟨ns,rfl⟩:=items_int h3
 have hlen:ns.length<=n:=by
  unfold OpenLaw.pre at hc
  have h4:(WTm.not (.lt (.lit (.int (n:Int))) (.len (.arg 0)))).holds [] { args:=[.list (ns.map .int)] }=true:=by
   have h4:=(holds_andW hc).1
   rw [hn] at h4
   exact h4
  have h5:=condW_of h4 (w_not (w_lt w_lit (w_len_list (w_arg rfl))))
  rw [List.length_map] at h5
  refine Nat.le_of_not_lt fun q=>?_
  have q':(n:Int)<((ns.length:Nat):Int):=by omega
  first
   | (rw [decide_eq_true q'] at h5; exact absurd h5 (by decide))
   | (simp at h5; omega)
 cases hwl with
 | cons w1 w2 =>
  cases w2
  cases w1 with
  | list ho hall=>exact ⟨_,_,ns,rfl,rfl,ho,Hy ns _ hall,hlen⟩
theorem Oe (l:OpenLaw) (args:List WData):l.row.toRowW.claim.post args (.bool true) args=true :=
 postW_of (r:=l.row.toRowW) (X:=(true == true))
  (show WShape.has [] (.bool true) .bool=true by first | rfl | decide | simp [WShape.has,WShape.arms,WShape.armsAll])
  (show (WTm.eq .res (.lit (.bool true))).value [] { args:=args,res:=some (.bool true),after:=args }=some (.bool (true == true)) from w_eq_bool (w_res rfl) w_lit) rfl
theorem K3 {l:OpenLaw} {n:Nat} {q:Program} {loose:List Str} {XP:(Str->Option Value)->Heap->Prop} {YP:World->Heap->Prop} {d:DefRec}
  (hn:l.most=some n) (hdf:d.params.defaults=[])
  (call:∀ (w:World) (s₀ s₁:Shared) (mg mb:Str->Option Value) (fa:Addr) (o:Obj) (pm cd doc:Value) (a:Addr) (vs:List Value) (ns:List Int),
   Ground q loose [] XP w s₀ mg mb s₁.heap->YP w s₁.heap ->
   s₁.heap.get? fa=some o->o.data=.func (docDef d.name d.params d.body d.scope pm cd doc)->s₁.heap.CodeRec cd d.name->mg d.name=some (.ref fa) ->
   s₁.heap.get? a=some { cls:=.type "list",data:=.seq vs.toArray }->IntsAre vs ns->ns.length<=n->s₁.gens = #[] ->
   codeAny (model l.prog w) callerA (.call (.ref fa) ⟨[.ref a],[]⟩) (fun r s'=>r=.ok (.ret (.bool true))/\OldK s₁.heap s'.heap/\s'.os=s₁.os/\AllBare s'.gens) s₁) :
  WalkO q loose XP YP l.row.toRowW d [] (fun f vs=>PySem.call f vs):=by
 intro w s₀ s₁ mg mb G Y fa o pm cd doc dV kV ho hd hcd hD hmg hg args vals as hpre hlay hrd hwl hlo
 obtain rfl:dV=.none:=Dflts.none hD hdf
 obtain rfl:kV=.none:=Dflts.noKw hD
 obtain ⟨a,vs,ns,rfl,rfl,hobj,hints,hlen⟩:=Oq hn hpre hwl
 refine enter_call (codeAny_mono (call w s₀ s₁ mg mb fa o pm cd doc a vs ns G Y ho (fd_plain hd) hcd hmg hobj hints hlen hg) fun r s' hq=>?_)
 obtain ⟨rfl,h2,h3,h4⟩:=hq
 exact ⟨.inl ⟨.bool true,.bool true,[],rfl,fun _=>rfl,.bool true,Oe l _,fun _=>⟨List.Pairwise.nil,fun _ hm=>(nomatch hm)⟩⟩,h2,h3,h4⟩
section
variable {prog:Program} {w:World} {A:Around} {E:Value->Shared->Prop} {s:Shared} {K:Frag}
end
end Att
namespace L2
open PySem PySem.Spec PyProof.Rows
theorem Jf:∀ {vs:List Value} {ns:List Int},IntsAre vs ns->Vals (ns.map V.int) vs
 | _,_,.nil=>.nil
 | _,_,.cons n t h=>.cons ⟨t,rfl⟩ (Jf h)
noncomputable def Only (H:Hp):Prop:=∀ b,H b=none \/ ∃ o xs,H b=some (.frz o (.lst xs))
theorem Qq {P:Program} {w:World} {K:PySem.W.Frag} {mg mb:Str->Option Value} {CX:QZ} {k:Nat} {fa a:Addr} {fd:FuncData} {x:Str} {sp:Sp} {s₁:Shared} {vs:List Value} {ns:List Int}
  (KX:K.In s₁.heap) (hns:s₁.heap.Ns mainGlobals mg) (hb:s₁.heap.Ns builtinsNs mb) (hbb:∀ x:Str,x ≠ "__name__"->mb x=bootBuiltins x) (hlim:s₁.heap.NoLimit) (hg:s₁.gens = #[])
  (ha:s₁.heap.get? a=some { cls:=.type "list",data:=.seq vs.toArray }) (hi:IntsAre vs ns) (hl:ns.length<=sizeLine) (hr:Be k callerA)
  (F:∀ base:Heap,K.In base->base.Ns mainGlobals mg->BK P w K mg base CX k fa fd [x] sp) (hbind:∀ (s:Shared) (u:Value),BindsTo s fd ⟨[u],[]⟩ [(x,u)])
  (hsp:∀ H:Hp,Only H->Cm K H a (ns.map V.int)->sp [.ref a] H (fun v _=>v=.bl true) fun _ _ _=>False)
  (hCX:∀ H e s',CX [] H s₁ (fun _ _ _=>False) e s'->False) :
  codeAny (model P w) callerA (.call (.ref fa) ⟨[.ref a],[]⟩) (fun r s'=>r=.ok (.ret (.bool true))/\OldK s₁.heap s'.heap/\s'.os=s₁.os/\AllBare s'.gens) s₁:=by
 have rv:=Jf hi
 have lenV:=hi.length
 have core:∀ H:Hp,Only H->Cm K H a (ns.map V.int)->G9 P w H s₁.heap->(∀ b,H b ≠ none->b=a)->(H a ≠ none->K.lookup a=none) ->
   codeAny (model P w) callerA (.call (.ref fa) ⟨[.ref a],[]⟩) (fun r s'=>r=.ok (.ret (.bool true))/\OldK s₁.heap s'.heap/\s'.os=s₁.os/\AllBare s'.gens) s₁:=by
  intro H hO hS hok hA hK
  have base_of:∀ {b:Addr} {o:Obj},s₁.heap.get? b=some o->H b=none->(Jp s₁.heap H).get? b=some o:=fun e n=>Qm e n
  have noA:∀ {b:Addr} {o:Obj} {es:Array DictEntry} {ep:Nat},s₁.heap.get? b=some o->o.data=.dict es ep->H b=none:=fun {b o es ep} e d=>by
   cases q:H b with
   | none=>rfl
   | some u =>
    have e':b=a:=hA b (by rw [q]; simp)
    subst e'
    rw [ha] at e; cases e
    have d':Data.seq vs.toArray _=Data.dict es ep:=d
    cases d'
  have nsK:∀ {b:Addr} {m:Str->Option Value},s₁.heap.Ns b m->(Jp s₁.heap H).Ns b m:=fun {b m} ⟨o,es,ep,e,d,r⟩=>⟨o,es,ep,base_of e (noA e d),d,r⟩
  have hKb:K.In (Jp s₁.heap H):=fun b o e=>base_of (KX b o e) (by
   cases q:H b with
   | none=>rfl
   | some u =>
    have e':b=a:=hA b (by rw [q]; simp)
    subst e'
    rw [hK (by rw [q]; simp)] at e; cases e)
  have hM:Mod K mg (Jp s₁.heap H):=⟨hKb,nsK hns,⟨mb,nsK hb,hbb⟩,let ⟨mc,h1,h2⟩:=hlim; ⟨mc,nsK h1,h2⟩⟩
  have e0:MF P w K mg (Jp s₁.heap H) callerA [] s₁ H:=⟨rfl,hM,fun b o e=>Rv e,Nat.le_of_eq (Ow _ _),trivial,fun b hb=>absurd (show b∈([]:List Addr) from hb) (by simp),hok,.of_eq hg⟩
  refine codeAny_mono ((F _ hKb (nsK hns)).run callerA [] s₁ H ⟨[.ref a],[]⟩ [.ref a] [.ref a] _ _ hr e0 (hbind s₁ (.ref a)) (.cons rfl .nil) (hsp H hO hS)) fun r s' h=>?_
  cases r with
  | error e=>exact (hCX H e s' h).elim
  | ok fl =>
   cases fl with
   | next=>exact False.elim h
   | brk=>exact False.elim h
   | cont=>exact False.elim h
   | ret u =>
    obtain ⟨v,H',os,bare,un,hok',r',q⟩:=h
    have q':v=.bl true:=q
    subst q'
    obtain rfl:u=Value.bool true:=r'
    refine ⟨rfl,OldK.of_keep fun b o e=>?_,os,bare⟩
    cases q:H b with
    | none=>exact un.keep b o e q (by intro z; exact absurd (show b∈([]:List Addr) from z) (by simp)) (by simp)
    | some u =>
     rcases hO b with z | ⟨ob,xs,z⟩
     ·rw [q] at z; cases z
     ·have z2:=un.frzs b ob _ z
      obtain ⟨e1,_⟩:=hok b _ z
      obtain ⟨e2,_⟩:=hok' b _ z2
      rw [e] at e1; cases e1
      exact e2
 cases hk:K.lookup a with
 | some o =>
  have e:=KX a o hk
  rw [ha] at e
  cases e
  refine core (fun _=>none) (fun _=>.inl rfl) (.inr ⟨_,vs.toArray,_,hk,rfl,rfl,rfl,by rw [List.size_toArray,lenV]; exact hl,by simpa using rv⟩) (fun b u z=>by have z':(none:Option HO)=some u:=z; cases z') (fun b z=>absurd rfl z) fun z=>absurd rfl z
 | none =>
  refine core (fun b=>if b=a then some (.frz { cls:=.type "list",data:=.seq vs.toArray } (.lst (ns.map V.int))) else none) (fun b=>?_) (.inl (.inr ⟨{ cls:=.type "list",data:=.seq vs.toArray },if_pos rfl⟩)) (fun b u z=>?_) (fun b z=>?_) fun _=>hk
  ·by_cases hb:b=a
   ·exact .inr ⟨_,_,if_pos hb⟩
   ·exact .inl (if_neg hb)
  ·by_cases hb:b=a
   ·have z':=(if_pos hb).symm.trans z
    cases z'
    subst hb
    exact ⟨ha,by rw [List.length_map]; exact hl,vs,_,rv,ha⟩
   ·have z':=(if_neg hb).symm.trans z
    cases z'
  ·by_cases hb:b=a
   ·exact hb
   ·exact absurd (if_neg hb) z
end L2
namespace L2
open PySem PySem.Spec PyProof.Rows
theorem Rg {l:PySem.W.OpenLaw} {n k:Nat} {q:Program} {loose:List Str} {XP:(Str->Option Value)->Heap->Prop} {YP:World->Heap->Prop} {d:DefRec} {K:Params->PySem.W.Frag} {CX:World->QZ} {sp:World->Sp} {x:Str}
  (hn:l.most=some n) (hn2:n<=sizeLine) (hdf:d.params.defaults=[]) (hr:Be k callerA)
  (hY:∀ (w:World) (h:Heap),YP w h->(K w.params).In h)
  (F:∀ (w:World) (mg:Str->Option Value) (fa:Addr) (h:Heap),(K w.params).In h->h.Ns mainGlobals mg->mg d.name=some (.ref fa) ->
   ∃ fd:FuncData,(∀ (s:Shared) (u:Value),BindsTo s fd ⟨[u],[]⟩ [(x,u)]) /\
    ∀ base:Heap,(K w.params).In base->base.Ns mainGlobals mg->BK l.prog w (K w.params) mg base (CX w) k fa fd [x] (sp w))
  (hsp:∀ (w:World) (H:Hp) (a:Addr) (ns:List Int),ns.length<=n->Only H->Cm (K w.params) H a (ns.map V.int)->sp w [.ref a] H (fun v _=>v=.bl true) fun _ _ _=>False)
  (hCX:∀ (w:World) (H:Hp) (s:Shared) (e:Value) (s':Shared),CX w [] H s (fun _ _ _=>False) e s'->False) :
  PySem.W.WalkO q loose XP YP l.row.toRowW d [] (fun f vs=>PySem.call f vs):=by
 refine Att.K3 hn hdf fun w s₀ s₁ mg mb fa o pm cd doc a vs ns G Y ho hd hcd hmg hobj hints hlen hg=>?_
 have KX:=hY w _ Y
 obtain ⟨fd,hb,hF⟩:=F w mg fa _ KX G.T.g hmg
 exact Qq KX G.T.g G.T.b G.T.builtins G.T.nolimit hg hobj hints (Nat.le_trans hlen hn2) hr hF hb (fun H hO hS=>hsp w H a ns hlen hO hS) fun H e s'=>hCX w H s₁ e s'
end L2
namespace L2
open PySem PySem.Spec PyProof.Rows
noncomputable def inClass (s:Stmt) (j:Nat):Stmt:=match s with
 | .ClassDef _ _ _ body _ _ _ _ _ _ _=>body.getD j (.Pass ⟨0,0,0,0⟩)
 | _=>.Pass ⟨0,0,0,0⟩
noncomputable def Aw (s:Stmt):Arguments:=match s with
 | .FunctionDef _ a _ _ _ _ _ _ _ _=>a
 | _=>{ posonlyargs:=[],args:=[],vararg:=none,kwonlyargs:=[],kw_defaults:=[],kwarg:=none,defaults:=[] }
noncomputable def Av (s:Stmt):List Stmt:=match s with
 | .FunctionDef _ _ b _ _ _ _ _ _ _=>b
 | _=>[]
noncomputable def Ac (s:Stmt):Scope:=match s with
 | .FunctionDef _ _ _ _ _ _ sc _ _ _=>sc
 | _=>{ kind:=.function,names:=[],isGenerator:=false,isCoroutine:=false }
noncomputable abbrev Bm:QZ:=fun _ _ _ _ _ _=>False
noncomputable abbrev E0:XK:=fun _ _ _=>False
theorem Az {X:Cx}:Gx Bm X E0:=fun _ _ _ _ _ _ _ h=>h.elim
structure Df (K:PySem.W.Frag) (x qual:Str) (st:Stmt) (f:Addr) (fd:FuncData):Prop where
 ex:∃ (oc:Value) (od:Option Addr) (kV doc pm:Value) (an:Option Addr) (cdv ct:Value) (osl:Array (Option Value)),
  fd=PySem.W.fnOf x qual (Aw st) (Av st) (Ac st) .none kV doc pm an cdv ct/\K.lookup f=some ⟨oc,od,.func fd,osl⟩/\PySem.W.codeIn K cdv qual=true
 kp:PySem.W.keepIn K (.ref f)=true
section
variable {P:Program} {w:World} {K:PySem.W.Frag} {mg:Str->Option Value} {base:Heap}
theorem Df.ok {x qual:Str} {st:Stmt} {f:Addr} {fd:FuncData} {N ps:List Str} {k:Nat} {sp:Sp} (F:Df K x qual st f fd) (S:BP N ps (Ac st)) (len:∀ vs H Q E,sp vs H Q E->vs.length=ps.length)
  (hbody:∀ (cdv:Value) (A:Around) (outer:List Env) (s:Shared) (H:Hp) (vs:List V) (Q:VK) (E:XK),Be k (A.deeper (envOfC qual (Ac st) s.heap.objs.size f cdv))->sp vs H Q E ->
   ∃ t,O6 (Nz Bm P w K mg base N qual (Ac st) f cdv A outer s H E).Zu (Av st) t/\t { nx:=fun _ H'=>Q .non H',rt:=Q } (start N vs) H):BK P w K mg base Bm (k+1) f fd ps sp:=by
 obtain ⟨oc,od,kV,doc,pm,an,cdv,ct,osl,rfl,lk,hcd⟩:=F.ex
 refine X6 lk hcd S len fun A outer s H vs Q E hr hsp=>?_
 obtain ⟨t,h,q⟩:=hbody cdv A outer s H vs Q E hr hsp
 exact ⟨t,h.Zu,q⟩
theorem Df.binds {x qual:Str} {st:Stmt} {f:Addr} {fd:FuncData} {ps:List Str} (F:Df K x qual st f fd)
  (h:∀ (kV doc pm:Value) (an:Option Addr) (cdv ct:Value) (us:List Value),us.length=ps.length->bindArgs (PySem.W.fnOf x qual (Aw st) (Av st) (Ac st) .none kV doc pm an cdv ct) ⟨us,[]⟩=pure (ps.zip us)):Binds K fd ps []:=by
 obtain ⟨oc,od,kV,doc,pm,an,cdv,ct,osl,rfl,lk,hcd⟩:=F.ex
 exact .all (h kV doc pm an cdv ct)
theorem BX {x qual:Str} {st:Stmt} {f:Addr} {oc:Value} {od an:Option Addr} {osl:Array (Option Value)} {kV doc pm cdv ct:Value} (l:K.lookup f=some ⟨oc,od,.func (PySem.W.fnOf x qual (Aw st) (Av st) (Ac st) .none kV doc pm an cdv ct),osl⟩)
  (c:PySem.W.codeIn K cdv qual=true) (k:PySem.W.keepIn K (.ref f)=true):Df K x qual st f (PySem.W.fnOf x qual (Aw st) (Av st) (Ac st) .none kV doc pm an cdv ct):=⟨⟨oc,od,kV,doc,pm,an,cdv,ct,osl,rfl,l,c⟩,k⟩
end
theorem Cz {A:Around} {k:Nat} (hr:Be k A):A.units+1<cLine:=Nat.lt_of_le_of_lt (Nat.add_le_add_left (by decide:1<=64) _) hr.units
theorem Ar {n:Nat} (h:n<=1000):n<sizeLine:=Nat.lt_of_le_of_lt h (by decide)
section
variable {X:Cx}
theorem pv (i:Nat) {x:Str} {pos:Pos} (hN:X.N[i]? = some x:=by rfl) (hv:Zy X.env.scope x:=by first | exact Or.inl rfl | exact Or.inr (Or.inl rfl) | exact Or.inr (Or.inr rfl)) (hd:(x == ("__debug__" : Str))=false:=by decide)
  (hcd:(x == ("__classdict__" : Str))=false:=by decide):PE X (.Name x pos) (Wq i):=VM hN hv hd hcd
end
theorem Dg {A B:Prop} (h:B):if false=true then A else B:=by
 rw [if_neg Bool.false_ne_true]
 exact h
theorem Dy {A B:Prop} (h:A):if true=true then A else B:=by
 rw [if_pos rfl]
 exact h
theorem C_ {c A B:Prop} [Decidable c] (h1:c->A) (h2:¬ c->B):if c then A else B:=by
 by_cases h:c
 ·rw [if_pos h]
  exact h1 h
 ·rw [if_neg h]
  exact h2 h
theorem TV {c A B:Prop} [Decidable c] (hc:c) (h:B):if (!decide c)=true then A else B:=by
 rw [decide_eq_true hc]
 exact Dg h
noncomputable def Am (H H':Hp):Prop:=∀ b o,H b=some o->H' b=some o
theorem Am.refl (H:Hp):Am H H:=fun _ _ h=>h
theorem Am.trans {H H1 H2:Hp} (a:Am H H1) (b:Am H1 H2):Am H H2:=fun c o h=>b c o (a c o h)
theorem Am.free {H H':Hp} (e:Am H H') {l:Addr} (h:H' l=Option.none):H l=Option.none:=by
 cases q:H l with
 | none=>rfl
 | some o =>
  rw [e l o q] at h
  cases h
theorem Am.seq {K:PySem.W.Frag} {H H':Hp} {a:Addr} {xs:List V} (e:Am H H') (h:Cm K H a xs):Cm K H' a xs:=by
 rcases h with (h | ⟨o,h⟩) | h
 ·exact .inl (.inl (e _ _ h))
 ·exact .inl (.inr ⟨o,e _ _ h⟩)
 ·exact .inr h
end L2
namespace L2
open PySem PySem.Spec PyProof.Rows
section
variable {X:Cx}
end
section
variable {κ:Type} [DecidableEq κ]
theorem Nb:∀ {l:List κ} {k:κ},l.Nodup->¬ k∈l->(l++[k]).Nodup
 | [],k,_,_=>by simp
 | a::r,k,h,hk=>by
  obtain ⟨h1,h2⟩:=List.nodup_cons.mp h
  show (a::(r++[k])).Nodup
  refine List.nodup_cons.mpr ⟨fun m=>?_,Nb h2 fun m=>hk (List.mem_cons.mpr (Or.inr m))⟩
  rcases List.mem_append.mp m with q | q
  ·exact h1 q
  ·exact hk (List.mem_cons.mpr (Or.inl (List.mem_singleton.mp q).symm))
end
end L2
namespace L2
open PySem PySem.Spec PyProof.Rows
section
variable {prog:Program} {w:World} {A:Around} {E:Value->Shared->Prop} {s:Shared}
theorem JK {it a:Addr} {i:Nat} {items:Array Value} {x:Value} {Q:Value->Shared->Prop} (j:s.heap.IsTupleIter it a i) (ht:s.heap.IsTuple a items) (hx:items[i]? = some x)
  (q:∀ h',h'.IsTupleIter it a (i+1)->Heap.SameBut it s.heap h'->Q x { s with heap:=h' }):wpAny (model prog w) A (Builtin.SmallTypes.nextOf (.ref it)) Q E s:=by
 have j0:=j
 obtain ⟨o,e,c,d⟩:=j
 obtain ⟨oa,ea,_,n,da⟩:=ht
 unfold Builtin.SmallTypes.nextOf
 refine wpAny_bind (wpAny_callSpecial?_slot (name:=Str.ofString "__next__") j0.typeIs F.slot_tuple_iterator_next (wpAny_call_entry F.slot_tuple_iterator_next j0.typeIs F.entry_tuple_iterator_next ?_ (F.args_tuple_iterator_next_1 _)))
 refine (show wpAny _ _ (field (.ref it) 0 >>= _) _ _ s from wpAny_bind (wpAny_field e d (x:=.ref a) rfl ?_))
 refine (show wpAny _ _ (if (Value.ref a == Value.none)=true then _ else _) _ _ s from ?_)
 rw [if_neg (by exact Bool.false_ne_true)]
 refine (show wpAny _ _ (field (.ref it) 1 >>= _) _ _ s from wpAny_bind (wpAny_field e d (x:=.int i 0) rfl ?_))
 refine (show wpAny _ _ (seqItems? (.ref a) >>= _) _ _ s from wpAny_bind (wpAny_seqItems ea da ?_))
 simp only [Int.toNat_natCast,hx]
 exact wpAny_bind (wpAny_setField e d (by simp) (wpAny_pure ⟨x,rfl,wpAny_pure (q _ ⟨_,Heap.get?_update_self _ e (Obj.isFreed_of_fields (Obj.data_mapFields d _)),(Obj.cls_mapFields ..).trans c,by rw [Obj.data_mapFields d]; simp [rawInt]⟩ (Heap.SameBut.update ..))⟩))
theorem JB {it a:Addr} {i:Nat} {items:Array Value} {Q:Value->Shared->Prop} (hh:A.handled=none) (j:s.heap.IsTupleIter it a i) (ht:s.heap.IsTuple a items) (hx:items[i]? = none)
  (q:∀ h' e,Heap.ExtBut it s.heap h'->(∃ o,h'.get? e=some o/\o.cls=.type "StopIteration")->E (.ref e) { s with heap:=h' }):wpAny (model prog w) A (Builtin.SmallTypes.nextOf (.ref it)) Q E s:=by
 have j0:=j
 obtain ⟨o,e,c,d⟩:=j
 obtain ⟨oa,ea,_,n,da⟩:=ht
 unfold Builtin.SmallTypes.nextOf
 refine wpAny_bind (wpAny_callSpecial?_slot (name:=Str.ofString "__next__") j0.typeIs F.slot_tuple_iterator_next (wpAny_call_entry F.slot_tuple_iterator_next j0.typeIs F.entry_tuple_iterator_next ?_ (F.args_tuple_iterator_next_1 _)))
 refine (show wpAny _ _ (field (.ref it) 0 >>= _) _ _ s from wpAny_bind (wpAny_field e d (x:=.ref a) rfl ?_))
 refine (show wpAny _ _ (if (Value.ref a == Value.none)=true then _ else _) _ _ s from ?_)
 rw [if_neg (by exact Bool.false_ne_true)]
 refine (show wpAny _ _ (field (.ref it) 1 >>= _) _ _ s from wpAny_bind (wpAny_field e d (x:=.int i 0) rfl ?_))
 refine (show wpAny _ _ (seqItems? (.ref a) >>= _) _ _ s from wpAny_bind (wpAny_seqItems ea da ?_))
 simp only [Int.toNat_natCast,hx]
 refine wpAny_bind (wpAny_rule (wpAny_bind (wpAny_setField e d (by simp) (show wpAny _ _ (newExc (.type "StopIteration") [] >>= _) _ _ _ from wpAny_bind ?_))))
 simp only [newExc,newTuple]
 refine wpAny_bind (wpAny_newObj_type (wpAny_bind (m:=firstArgMember _ _) (wpAny_of_eq (a:=Value.none) (by first | rfl | (simp only [firstArgMember]; rfl)) (wpAny_newObj_type ?_ (by size_fits)))) (by size_fits))
 simp only [raiseNew]
 refine wpAny_bind (wpAny_handled ?_)
 first | rw [show A.in1.handled=none from hh] | rw [hh]
 exact wpAny_bind (wpAny_pure (wpAny_throw (q _ _ (((Heap.SameBut.update ..).extBut.push _).push _) ⟨_,Heap.get?_push_size _ rfl,rfl⟩)))
theorem O4 {z TI TO i1 i2 a1 a2:Addr} {k:Nat} {xs ys:Array Value} {x y a b:Value} {Q:Value->Shared->Prop} (D:ZipApart z TI TO i1 i2 a1 a2)
  (hz:IsZip s.heap z TI TO .none) (hI:IsPair s.heap TI (.ref i1) (.ref i2)) (hO:IsPair s.heap TO a b)
  (j1:s.heap.IsTupleIter i1 a1 k) (j2:s.heap.IsTupleIter i2 a2 k) (t1:s.heap.IsTuple a1 xs) (t2:s.heap.IsTuple a2 ys) (hx:xs[k]? = some x) (hy:ys[k]? = some y)
  (q:∀ h',IsZip h' z TI TO (rawInt s.heap.objs.size)->IsPair h' TO x y->h'.IsTupleIter i1 a1 (k+1)->h'.IsTupleIter i2 a2 (k+1)->IsPair h' s.heap.objs.size x y->h'.objs.size=s.heap.objs.size+1 ->
   (∀ c o,c ≠ z->c ≠ TO->c ≠ i1->c ≠ i2->s.heap.get? c=some o->h'.get? c=some o)->Q (.ref s.heap.objs.size) { s with heap:=h' }) :
  wpAny (model prog w) A (Builtin.«zip.__next__» ⟨[.ref z],[]⟩) (fun fin s'=>∃ v,fin=.done (.ret v)/\Q v s') E s:=by
 refine (show wpAny _ _ (field (.ref z) 2 >>= _) _ _ _ from wpAny_bind (wpAny_field hz rfl (x:=.bool false) rfl (show wpAny _ _ (field (.ref z) 3 >>= _) _ _ _ from wpAny_bind (wpAny_field hz rfl (x:=.ref TI) rfl (wpAny_bind (wpAny_seqItems hI rfl ?_))))))
 refine (show wpAny _ _ (Builtin.SmallTypes.ownedTupleIsFree (.ref z) >>= _) _ _ _ from wpAny_bind ?_)
 unfold Builtin.SmallTypes.ownedTupleIsFree
 refine wpAny_bind (wpAny_field hz rfl (x:=.none) rfl (wpAny_pure ?_))
 simp only [if_true]
 refine wpAny_bind (wpAny_rule (wpAny_bind (wpAny_field hz rfl (x:=.ref TO) rfl (wpAny_bind (wpAny_setField_rec hz (by simp) fun h1 z1 s1=>?_)))))
 have y1:IsZip h1 z TI TO .ellipsis:=z1
 refine wpAny_bind ?_
 simp only [List.zipIdx_cons,List.zipIdx_nil,List.forIn_cons,List.forIn_nil]
 refine wpAny_bind (wpAny_bind (wpAny_onRaise (show wpAny _ _ (Builtin.SmallTypes.nextOf (.ref i1) >>= _) _ _ _ from wpAny_bind (JK (j1.at fun o e=>s1.extBut _ _ D.i1z e) (t1.at fun o e=>s1.extBut _ _ D.l1z e) hx fun h2 n1 s2=>wpAny_pure ?_))))
 have o2:IsPair h2 TO a b:=s2.extBut _ _ D.TOi1 (s1.extBut _ _ D.TOz hO)
 refine wpAny_bind (wpAny_seqItems o2 rfl (wpAny_bind (wpAny_updateSeq_pair o2 fun h3 p3 s3=>?_)))
 have o3:IsPair h3 TO x b:=p3
 refine wpAny_bind (wpAny_letGo (wpAny_pure ?_))
 refine wpAny_bind (wpAny_bind (wpAny_onRaise (show wpAny _ _ (Builtin.SmallTypes.nextOf (.ref i2) >>= _) _ _ _ from wpAny_bind (JK (j2.at fun o e=>s3.extBut _ _ D.TOi2.symm (s2.extBut _ _ D.i12.symm (s1.extBut _ _ D.i2z e)))
  (t2.at fun o e=>s3.extBut _ _ D.l2TO (s2.extBut _ _ D.l2i1 (s1.extBut _ _ D.l2z e))) hy fun h4 n2 s4=>wpAny_pure ?_))))
 have o4:IsPair h4 TO x b:=s4.extBut _ _ D.TOi2 o3
 refine wpAny_bind (wpAny_seqItems o4 rfl (wpAny_bind (wpAny_updateSeq_pair o4 fun h5 p5 s5=>?_)))
 have o5:IsPair h5 TO x y:=p5
 refine wpAny_bind (wpAny_letGo (wpAny_pure (wpAny_pure (wpAny_bind (wpAny_seqItems o5 rfl (wpAny_bind (wpAny_newTuple ?_)))))))
 have zs:h5.objs.size=s.heap.objs.size:=by rw [s5.1,s4.1,s3.1,s2.1,s1.1]
 have y5:IsZip h5 z TI TO .ellipsis:=s5.extBut _ _ D.TOz.symm (s4.extBut _ _ D.i2z.symm (s3.extBut _ _ D.TOz.symm (s2.extBut _ _ D.i1z.symm y1)))
 have k5:∀ c o,c ≠ z->c ≠ TO->c ≠ i1->c ≠ i2->s.heap.get? c=some o->h5.get? c=some o:=fun c o c1 c2 c3 c4 e=>s5.extBut _ _ c2 (s4.extBut _ _ c4 (s3.extBut _ _ c2 (s2.extBut _ _ c3 (s1.extBut _ _ c1 e))))
 have m1:h5.IsTupleIter i1 a1 (k+1):=n1.at fun o e=>s5.extBut _ _ D.TOi1.symm (s4.extBut _ _ D.i12 (s3.extBut _ _ D.TOi1.symm e))
 have m2:h5.IsTupleIter i2 a2 (k+1):=n2.at fun o e=>s5.extBut _ _ D.TOi2.symm e
 have lz:z<h5.objs.size:=Heap.lt_size y5
 refine (show wpAny _ _ (Builtin.SmallTypes.ownedTupleHandOut (.ref z) (.ref h5.objs.size) >>= _) _ _ _ from wpAny_bind ?_)
 unfold Builtin.SmallTypes.ownedTupleHandOut
 have y6:IsZip (h5.push { cls:=.type "tuple",data:=.seq #[x,y] }) z TI TO .ellipsis:=Heap.get?_push_of_some _ y5
 refine wpAny_bind (wpAny_setField_rec y6 (by simp) fun h7 p7 s7=>?_)
 have y7:IsZip h7 z TI TO (rawInt h5.objs.size):=p7
 refine wpAny_setField_rec y7 (by simp) fun h8 p8 s8=>?_
 have y8:IsZip h8 z TI TO (rawInt h5.objs.size):=p8
 have up:∀ c o,c ≠ z->h5.get? c=some o->h8.get? c=some o:=fun c o c1 e=>s8.extBut _ _ c1 (s7.extBut _ _ c1 (Heap.get?_push_of_some _ e))
 have t8:IsPair h8 h5.objs.size x y:=s8.extBut _ _ (Nat.ne_of_gt lz) (s7.extBut _ _ (Nat.ne_of_gt lz) (Heap.get?_push_size _ rfl))
 have z8:h8.objs.size=h5.objs.size+1:=by rw [s8.1,s7.1,Heap.size_push]
 rw [zs] at y8 t8 z8
 refine wpAny_pure ⟨_,rfl,?_⟩
 show Q (.ref h5.objs.size) _
 rw [zs]
 exact q h8 y8 (up _ _ D.TOz o5) (m1.at fun o e=>up _ o D.i1z e) (m2.at fun o e=>up _ o D.i2z e) t8 z8 fun c o c1 c2 c3 c4 e=>up c o c1 (k5 c o c1 c2 c3 c4 e)
theorem QB {z TI TO i1 i2 a1 a2:Addr} {k:Nat} {xs:Array Value} {a b:Value} {Q:Fin->Shared->Prop} (hh:A.handled=none) (D:ZipApart z TI TO i1 i2 a1 a2)
  (hz:IsZip s.heap z TI TO .none) (hI:IsPair s.heap TI (.ref i1) (.ref i2)) (hO:IsPair s.heap TO a b)
  (j1:s.heap.IsTupleIter i1 a1 k) (t1:s.heap.IsTuple a1 xs) (hx:xs[k]? = none)
  (q:∀ h' e,(∀ c o,c ≠ z->c ≠ TO->c ≠ i1->c ≠ i2->s.heap.get? c=some o->h'.get? c=some o)->(∃ o,h'.get? e=some o/\o.cls=.type "StopIteration")->E (.ref e) { s with heap:=h' }) :
  wpAny (model prog w) A (Builtin.«zip.__next__» ⟨[.ref z],[]⟩) Q E s:=by
 refine (show wpAny _ _ (field (.ref z) 2 >>= _) _ _ _ from wpAny_bind (wpAny_field hz rfl (x:=.bool false) rfl (show wpAny _ _ (field (.ref z) 3 >>= _) _ _ _ from wpAny_bind (wpAny_field hz rfl (x:=.ref TI) rfl (wpAny_bind (wpAny_seqItems hI rfl ?_))))))
 refine (show wpAny _ _ (Builtin.SmallTypes.ownedTupleIsFree (.ref z) >>= _) _ _ _ from wpAny_bind ?_)
 unfold Builtin.SmallTypes.ownedTupleIsFree
 refine wpAny_bind (wpAny_field hz rfl (x:=.none) rfl (wpAny_pure ?_))
 simp only [if_true]
 refine wpAny_bind (wpAny_rule (wpAny_bind (wpAny_field hz rfl (x:=.ref TO) rfl (wpAny_bind (wpAny_setField_rec hz (by simp) fun h1 z1 s1=>?_)))))
 have y1:IsZip h1 z TI TO .ellipsis:=z1
 refine wpAny_bind ?_
 simp only [List.zipIdx_cons,List.zipIdx_nil,List.forIn_cons,List.forIn_nil]
 refine wpAny_bind (wpAny_bind (wpAny_onRaise (show wpAny _ _ (Builtin.SmallTypes.nextOf (.ref i1) >>= _) _ _ _ from wpAny_bind (JB hh (j1.at fun o e=>s1.extBut _ _ D.i1z e) (t1.at fun o e=>s1.extBut _ _ D.l1z e) hx fun h2 x s2 hx2=>?_))))
 obtain ⟨ox,ex,cx⟩:=hx2
 have y2:IsZip h2 z TI TO .ellipsis:=s2 _ _ D.i1z.symm y1
 have nz:x ≠ z:=fun u=>by subst u; rw [y2] at ex; cases ex; simp at cx
 exact wpAny_setField_rec y2 (by simp) fun h3 _ s3=>q h3 x (fun c o c1 _ c3 _ e=>s3.extBut _ _ c1 (s2 _ _ c3 (s1.extBut _ _ c1 e))) ⟨ox,s3.extBut _ _ nz ex,cx⟩
end
noncomputable abbrev Zx (h:Heap) (a1:Addr):Heap:=h.push { cls:=.type "tuple_iterator",data:=.fields #[.ref a1,.int 0 0] }
noncomputable abbrev Zk (h:Heap) (a1 a2:Addr):Heap:=(Zx h a1).push { cls:=.type "tuple_iterator",data:=.fields #[.ref a2,.int 0 0] }
noncomputable abbrev Zo (h:Heap) (a1 a2:Addr):Heap:=(Zk h a1 a2).push { cls:=.type "tuple",data:=.seq #[.ref h.objs.size,.ref (Zx h a1).objs.size] }
noncomputable abbrev Zn (h:Heap) (a1 a2:Addr):Heap:=(Zo h a1 a2).push { cls:=.type "tuple",data:=.seq #[.none,.none] }
noncomputable abbrev U5 (h:Heap) (a1 a2:Addr):Heap:=(Zn h a1 a2).push { cls:=.type "zip",data:=.fields #[.none,.bool false,.bool false,.ref (Zk h a1 a2).objs.size,.ref (Zo h a1 a2).objs.size] }
theorem Qk (a1 a2:Addr) (xs ys:Array Value):Meets (Builtin.«zip.__new__» ⟨[.type "zip",.ref a1,.ref a2],[]⟩) (fun _ R s=>s.heap.IsTuple a1 xs/\s.heap.IsTuple a2 ys /\
   R (.ok (.ret (.ref (Zn s.heap a1 a2).objs.size))) { s with heap:=U5 s.heap a1 a2 }) :=
 .of_wp fun prog w A R s h=>by
  obtain ⟨hp,g,d,tk,os⟩:=s
  obtain ⟨t1,t2,h⟩:=h
  have hsub:=sub_zip
  have u1:Heap.IsTuple (Shared.heap ⟨hp,g,d,tk,os⟩) a1 xs:=t1
  have u2:Heap.IsTuple (Shared.heap ⟨hp.push { cls:=.type "tuple_iterator",data:=.fields #[.ref a1,.int 0 0] },g,d,tk,os⟩) a2 ys:=Heap.IsTuple.at t2 fun o e=>Heap.get?_push_of_some _ e
  wp_walk using wpAny_pyIter_tuple u1,wpAny_pyIter_tuple u2
  exact ⟨_,rfl,h⟩
section
variable {prog:Program} {w:World} {A:Around} {E:Value->Shared->Prop} {s:Shared}
theorem Nu {a1 a2:Addr} {xs ys:Array Value} {Q:Value->Shared->Prop} (t1:s.heap.IsTuple a1 xs) (t2:s.heap.IsTuple a2 ys)
  (q:∀ h' n,n=s.heap.objs.size->IsZip h' (n+4) (n+2) (n+3) .none->IsPair h' (n+2) (.ref n) (.ref (n+1))->IsPair h' (n+3) .none .none->h'.IsTupleIter n a1 0->h'.IsTupleIter (n+1) a2 0->h'.objs.size=n+5 ->
   (∀ c o,s.heap.get? c=some o->h'.get? c=some o)->Q (.ref (n+4)) { s with heap:=h' }):wpAny (model prog w) A (call (.type "zip") [.ref a1,.ref a2]) Q E s:=by
 refine callType_new F.called_zip (by decide) (F.typeCall_zip_2 _ _) (F.newCall_zip_2 _ _) (fun obj=>F.args_object_init_3 obj _ _) F.entry_zip_new (Qk a1 a2 xs ys) ⟨t1,t2,?_⟩
 have z1:(Zx s.heap a1).objs.size=s.heap.objs.size+1:=Heap.size_push ..
 have z2:(Zk s.heap a1 a2).objs.size=s.heap.objs.size+2:=by rw [Heap.size_push,z1]
 have z3:(Zo s.heap a1 a2).objs.size=s.heap.objs.size+3:=by rw [Heap.size_push,z2]
 have z4:(Zn s.heap a1 a2).objs.size=s.heap.objs.size+4:=by rw [Heap.size_push,z3]
 have z5:(U5 s.heap a1 a2).objs.size=s.heap.objs.size+5:=by rw [Heap.size_push,z4]
 have g5:(U5 s.heap a1 a2).get? (Zn s.heap a1 a2).objs.size=some _:=Heap.get?_push_size _ rfl
 have g4:(U5 s.heap a1 a2).get? (Zo s.heap a1 a2).objs.size=some _:=Heap.get?_push_of_some _ (Heap.get?_push_size _ rfl)
 have g3:(U5 s.heap a1 a2).get? (Zk s.heap a1 a2).objs.size=some _:=Heap.get?_push_of_some _ (Heap.get?_push_of_some _ (Heap.get?_push_size _ rfl))
 have g2:(U5 s.heap a1 a2).get? (Zx s.heap a1).objs.size=some _:=Heap.get?_push_of_some _ (Heap.get?_push_of_some _ (Heap.get?_push_of_some _ (Heap.get?_push_size _ rfl)))
 have g1:(U5 s.heap a1 a2).get? s.heap.objs.size=some _:=Heap.get?_push_of_some _ (Heap.get?_push_of_some _ (Heap.get?_push_of_some _ (Heap.get?_push_of_some _ (Heap.get?_push_size _ rfl))))
 refine (show _/\_ from ?_)
 rw [z2,z3,z4] at g5
 rw [z1,z2] at g3
 rw [z3] at g4
 rw [z1] at g2
 rw [z4]
 exact ⟨⟨_,g5,rfl⟩,q _ _ rfl g5 g3 g4 ⟨_,g1,rfl,rfl⟩ ⟨_,g2,rfl,rfl⟩ z5 fun c o e=>Heap.get?_push_of_some _ (Heap.get?_push_of_some _ (Heap.get?_push_of_some _ (Heap.get?_push_of_some _ (Heap.get?_push_of_some _ e))))⟩
end
end L2
namespace L2
open PySem PySem.Spec PyProof.Rows
noncomputable def Cu (env:Env):List (Str × NameKind)->List (Str × Addr)->List (Str × Addr)
 | [],acc=>acc
 | (n,k)::r,acc=>if k == .free then (match env.cells.lookup n with | some a=>Cu env r ((n,a)::acc) | none=>Cu env r acc) else Cu env r acc
theorem Gw {scope:Scope} {env:Env} (h:∀ y∈scope.names,y.2=.free->∃ c,env.cells.lookup y.1=some c):closureFor scope env=pure (Cu env scope.names []):=by
 unfold closureFor
 have key:∀ (l:List (Str × NameKind)) (acc:List (Str × Addr)),(∀ y∈l,y.2=.free->∃ c,env.cells.lookup y.1=some c) ->
   (forIn l acc fun (x:Str × NameKind) (cs:List (Str × Addr))=>(match x with | (name,kind)=>if (kind == NameKind.free)=true then (do let a ← cellOf env name; pure (ForInStep.yield ((name,a)::cs))) else pure (ForInStep.yield cs):Sem (ForInStep (List (Str × Addr)))))=(pure (Cu env l acc):Sem _):=by
  intro l
  induction l with
  | nil=>intro acc _; rfl
  | cons x r ih =>
   intro acc hl
   obtain ⟨n,k⟩:=x
   rw [List.forIn_cons]
   unfold Cu
   by_cases hk:(k == NameKind.free)=true
   ·obtain ⟨c,hc⟩:=hl (n,k) List.mem_cons_self (by simpa using hk)
    have hc':env.cells.lookup n=some c:=hc
    have e:cellOf env n=pure c:=by unfold cellOf; rw [hc']
    simp only [hk,if_true,e,hc']
    exact ih _ fun y hy=>hl y (List.mem_cons_of_mem _ hy)
   ·simp only [hk]
    exact ih _ fun y hy=>hl y (List.mem_cons_of_mem _ hy)
 have:=key scope.names [] h
 exact (congrArg (fun (m:Sem (List (Str × Addr)))=>m >>= fun z=>pure z) this).trans rfl
theorem FQ (env:Env):∀ (l:List (Str × NameKind)) (acc:List (Str × Addr)) (y:Str) (c:Addr),(Cu env l acc).lookup y=some c->acc.lookup y=some c \/ env.cells.lookup y=some c
 | [],_,_,_,h=>.inl h
 | (n,k)::r,acc,y,c,h=>by
  unfold Cu at h
  split at h
  ·split at h
   ·rename_i a ha
    rcases FQ env r _ y c h with z | z
    ·rw [List.lookup_cons] at z
     split at z
     ·rename_i e
      cases z
      have e':y=n:=by simpa using e
      subst e'
      exact .inr ha
     ·exact .inl z
    ·exact .inr z
   ·exact FQ env r _ y c h
  ·exact FQ env r _ y c h
theorem Ge (env:Env):∀ (l:List (Str × NameKind)) (acc:List (Str × Addr)) (y:Str),(acc.lookup y).isSome=true->((Cu env l acc).lookup y).isSome=true
 | [],_,_,h=>h
 | (n,k)::r,acc,y,h=>by
  unfold Cu
  split
  ·split
   ·refine Ge env r _ y ?_
    rw [List.lookup_cons]
    split
    ·rfl
    ·exact h
   ·exact Ge env r _ y h
  ·exact Ge env r _ y h
theorem EY (env:Env):∀ (l:List (Str × NameKind)) (acc:List (Str × Addr)) (y:Str),(y,NameKind.free)∈l->(env.cells.lookup y).isSome=true->((Cu env l acc).lookup y).isSome=true
 | [],_,_,h,_=>nomatch h
 | (n,k)::r,acc,y,h,hc=>by
  unfold Cu
  rcases List.mem_cons.mp h with e | h
  ·obtain ⟨e1,e2⟩:=Prod.mk.inj e
   subst e1
   subst e2
   rw [if_pos (by decide)]
   split
   ·refine Ge env r _ y ?_
    rw [List.lookup_cons]
    simp
   ·rename_i e
    rw [e] at hc
    cases hc
  ·split
   ·split
    ·exact EY env r _ y h hc
    ·exact EY env r _ y h hc
   ·exact EY env r _ y h hc
end L2
namespace L2
open PySem PySem.Spec PyProof.Rows
noncomputable def Gn (x:Str) (N:List Str):List Str:=N.map fun y=>if y=x then "" else y
noncomputable def B_ (X:Cx) (x:Str) (scope:Scope) (C:Addr) (s₀:Shared) (H₀:Hp) (fp:List Addr):Cx where
 prog:=X.prog
 w:=X.w
 K:=X.K
 mg:=X.mg
 base:=X.base
 A:=X.A
 N:=x::Gn x X.N
 s₀:=s₀
 H₀:=H₀
 env:=compEnvC scope (Cu X.env scope.names []) C X.env
 outer:=X.stack
 stack:=X.stack
 ex:=fp
 fn:=fun _=>false
 calm:=X.calm
 pn:=[]
 xe:=fun _ _=>False
theorem Em (env:Env) (y:Str):∀ names:List (Str × NameKind),
  (names.map fun (n,k)=>if (k == NameKind.free && env.scope.kind == .function && env.kindOf n == some .cell) then (n,NameKind.cell) else (n,k)).lookup y =
   (names.lookup y).map fun k=>if (k == NameKind.free && env.scope.kind == .function && env.kindOf y == some .cell) then NameKind.cell else k
 | []=>rfl
 | (n,k)::r=>by
  have ih:=Em env y r
  rw [List.map_cons]
  show List.lookup y ((if (k == NameKind.free && env.scope.kind == .function && env.kindOf n == some .cell)=true then (n,NameKind.cell) else (n,k))::_)=_
  have e0:(if (k == NameKind.free && env.scope.kind == .function && env.kindOf n == some .cell)=true then (n,NameKind.cell) else (n,k))=(n,if (k == NameKind.free && env.scope.kind == .function && env.kindOf n == some .cell)=true then NameKind.cell else k):=by split <;> rfl
  rw [e0,List.lookup_cons,List.lookup_cons]
  cases hx:y == n with
  | true =>
   have e:y=n:=by simpa using hx
   subst e
   rfl
  | false=>exact ih
structure FJ (X:Cx) (x:Str) (scope:Scope):Prop where
 kind:scope.kind=.function
 nocell:∀ y∈scope.names,y.2 ≠ .cell
 names:∀ y∈scope.names,y.2=.local->scope.names.lookup y.1=some .local
 loc:scope.names.lookup x=some .local
 free:∀ y∈scope.names,y.2=.free->X.env.kindOf y.1=some .cell \/ X.env.kindOf y.1=some .free
 nd:(x::Gn x X.N).Nodup
 only:∀ y∈Gn x X.N,scope.names.lookup y ≠ some .local
 noE:scope.names.lookup ("" : Str)=none
section
variable {X:Cx} {pins:List (Addr × Obj)} {σ:St} {H:Hp} {s:Shared} {x:Str} {scope:Scope} {fp:List Addr} {C:Addr}
theorem Mm {h':Heap} {tk:Nat} {m:Str->Option Value} (I:Inv X pins σ H s) (S:FJ X x scope) (hf:∀ b∈fp,Fl X pins H b) (hlt:∀ b∈fp,b<s.heap.objs.size) (hC:s.heap.objs.size<=C) (hn:h'.Ns C m)
  (hk:∀ b o,s.heap.get? b=some o->h'.get? b=some o):Inv (B_ X x scope C s H fp) [] (none::σ) H { s with heap:=h',toks:=tk }:=by
 have cl:∀ y c,(Cu X.env scope.names []).lookup y=some c->X.env.cells.lookup y=some c:=fun y c e=>by
  rcases FQ X.env scope.names [] y c e with z | z
  ·cases z
  ·exact z
 have cellK:∀ c v,s.heap.IsCell c v->h'.IsCell c v:=fun c v ⟨o,ho,hd⟩=>⟨o,hk c o ho,hd⟩
 have look:∀ y,(B_ X x scope C s H fp).env.scope.names.lookup y=(scope.names.lookup y).map fun k=>if (k == NameKind.free && X.env.scope.kind == .function && X.env.kindOf y == some .cell) then NameKind.cell else k:=fun y=>Em X.env y scope.names
 refine ⟨⟨I.ok.mod,S.kind,I.ok.glob,I.ok.blt,hC,fun y z c e1 e2=>I.ok.inj y z c (cl y c e1) (cl z c e2),fun y hy=>?_,fun y c e _=>(by cases e),fun h=>I.ok.hd h,I.ok.frames,.inl rfl,fun b hb=>?_,I.bs,Nat.le_trans I.ok.bsz I.sz,fun b o e hb=>?_,fun b hb hb'=>?_,I.stack,I.J_⟩,
  rfl,I.bare,Un.kept hk,⟨m,hn,fun i y v h1 h2 h3=>?_⟩,fun y c e=>?_,I.hok.fresh hC,fun y c e=>I.freeC y c (cl y c e),fun p hp=>absurd (show p∈([]:List (Addr × Obj)) from hp) (by simp),I.hok.kept hk,?_⟩
 ·-- every cell of the block is there
  have hy':(B_ X x scope C s H fp).env.scope.names.lookup y=some .cell \/ (B_ X x scope C s H fp).env.scope.names.lookup y=some .free:=hy
  rw [look y] at hy'
  cases e:scope.names.lookup y with
  | none=>rw [e] at hy'; rcases hy' with z | z <;> cases z
  | some k =>
   have hm:=PySem.mem_of_lookup e
   have hfree:k=.free:=by
    rw [e] at hy'
    cases k with
    | free=>rfl
    | cell=>exact absurd rfl (S.nocell _ hm)
    | _=>rcases hy' with z | z <;> simp at z
   subst hfree
   obtain ⟨c,hc⟩:=I.ok.has y (S.free _ hm rfl)
   exact Option.isSome_iff_exists.mp (EY X.env scope.names [] y hm (by rw [hc]; rfl))
 ·obtain ⟨f0,f1,f2,f3,f4,f5⟩:=hf b hb
  exact ⟨Nat.ne_of_lt (Nat.lt_of_lt_of_le (hlt b hb) hC),fun y c e=>f4 y c (cl y c e)⟩
 ·obtain ⟨f0,f1,f2,f3,f4,f5⟩:=hf b hb
  rcases f3 with z | z
  ·exact I.ok.noex b o e z
  ·exact absurd (Nat.lt_of_lt_of_le (Heap.lt_size e) (Nat.le_trans I.ok.bsz z)) (Nat.lt_irrefl _)
 ·obtain ⟨f0,f1,f2,f3,f4,f5⟩:=hf b hb
  rcases List.mem_cons.mp (I.Jx b hb') with e | e
  ·exact f1 e
  ·exact f2 e
 ·cases i with
  | zero =>
   have h2':(some none:Option (Option V))=some (some v):=h2
   cases h2'
  | succ i =>
   have h1':(Gn x X.N)[i]? = some y:=h1
   have h2':σ[i]? = some (some v):=h2
   have hmem:y∈Gn x X.N:=List.mem_of_getElem? h1'
   unfold Gn at h1'
   rw [List.getElem?_map] at h1'
   cases e0:X.N[i]? with
   | none=>rw [e0] at h1'; cases h1'
   | some y0 =>
    rw [e0] at h1'
    have h1'':(if y0=x then ("" : Str) else y0)=y:=Option.some.inj h1'
    have h3':(B_ X x scope C s H fp).env.scope.names.lookup y=some .local \/ (B_ X x scope C s H fp).env.scope.names.lookup y=some .cell \/ (B_ X x scope C s H fp).env.scope.names.lookup y=some .free:=h3
    rw [look y] at h3'
    have hy0:y0=y:=by
     by_cases q:y0=x
     ·rw [if_pos q] at h1''
      rw [← h1'',S.noE] at h3'
      rcases h3' with z | z | z <;> cases z
     ·rw [if_neg q] at h1''
      exact h1''
    subst hy0
    cases e:scope.names.lookup y0 with
    | none=>rw [e] at h3'; rcases h3' with z | z | z <;> cases z
    | some k =>
     have hm:=PySem.mem_of_lookup e
     have hfree:k=.free:=by
      rw [e] at h3'
      cases k with
      | free=>rfl
      | cell=>exact absurd rfl (S.nocell _ hm)
      | «local»=>exact absurd e (S.only y0 hmem)
      | _=>rcases h3' with z | z | z <;> simp at z
     subst hfree
     have kd:=S.free _ hm rfl
     obtain ⟨m0,hn0,hl0⟩:=I.loc
     obtain ⟨u,r,l⟩:=hl0 i y0 v e0 h2' (by rcases kd with z | z; exact .inr (.inl z); exact .inr (.inr z))
     refine ⟨u,r,.inr ⟨?_,?_⟩⟩
     ·have hk':(B_ X x scope C s H fp).env.scope.names.lookup y0=some (if (NameKind.free == NameKind.free && X.env.scope.kind == .function && X.env.kindOf y0 == some .cell) then NameKind.cell else NameKind.free):=by
       rw [look y0,e]; rfl
      by_cases c:(NameKind.free == NameKind.free && X.env.scope.kind == .function && X.env.kindOf y0 == some .cell)=true
      ·rw [if_pos c] at hk'; exact .inl hk'
      ·rw [if_neg c] at hk'; exact .inr hk'
     ·rcases l with ⟨lk,_⟩ | ⟨_,c,hc,hcell⟩
      ·exfalso
       rcases kd with z | z <;> (rw [show X.env.kindOf y0=some NameKind.local from lk] at z; cases z)
      ·obtain ⟨c',hc'⟩:=Option.isSome_iff_exists.mp (EY X.env scope.names [] y0 hm (by rw [hc]; rfl))
       have:=cl y0 c' hc'
       rw [hc] at this
       cases this
       exact ⟨c,hc',cellK c _ hcell⟩
 ·obtain ⟨v,z⟩:=I.cell y c (cl y c e)
  exact ⟨v,cellK c v z⟩
 ·show (none::σ).length=(x::Gn x X.N).length
  simp [Gn,I.len]
end
noncomputable def Ko (X:Cx) (ifs:List Expr) (t:TT):Prop :=
 ∀ (pins:List (Addr × Obj)) (s:Shared) (σ:St) (H:Hp) (Q:Bool->Hp->Prop),Inv X pins σ H s->t σ H Q ->
  wpAny (model X.prog X.w) X.A (forIn ifs true fun c r=>if r=true then do let ok ← isTrue c X.env (eval c X.env); pure (ForInStep.yield ok) else pure (ForInStep.yield r)) (TP X pins σ Q) X.xe s
noncomputable def RT:TT:=fun _ H Q=>Q true H
theorem CG {X:Cx}:Ko X [] RT:=fun _ _ _ H _ I h=>wpAny_tests_nil ⟨H,I,h⟩
theorem J9 {X:Cx} {c:Expr} {t:TT} (h:PT X c t):Ko X [c] t:=fun pins s σ H Q I q=>wpAny_tests_one (h pins s σ H Q I q)
noncomputable def Fe (J:It) (σ:St) (H1:Hp) (Q:VK) (tt:TT) (te:TE):Prop:=∀ D,H1 D=none->∃ W:Nat->Nat->List V->Hp->Prop,(∃ m,W 0 m [] (upd H1 D (.lst [])))/\∀ i m ys H2,W i m ys H2 ->
 (J.stop i H2/\Q (.ref D) H2) \/ (J.go i H2/\∀ x H3,J.yld i H2 x H3->tt (some x::σ) H3 fun b H4 =>
  if b=true then te (some x::σ) H4 fun y H5=>H5 D=some (.lst ys)/\ys.length<sizeLine/\∃ m',m'<m/\W (i+1) m' (ys++[y]) (upd H5 D (.lst (ys++[y])))
  else ∃ m',m'<m/\W (i+1) m' ys H4)
noncomputable def R_ (wi:TI) (tt:TT) (te:TE):TE:=fun σ H Q=>wi σ H fun J H1=>Fe J σ H1 Q tt te
theorem LC {α:Type} {t:Sem α} {Q Q':α->Shared->Prop} {M:Model} {A:Around} {E:Value->Shared->Prop} {s:Shared} (h:wpAny M A t Q (fun _ _=>False) s) (hQ:∀ a s,Q a s->Q' a s):wpAny M A t Q' E s:=wpAny_mono h hQ fun _ _ x=>x.elim
theorem Inv.sameBut {X:Cx} {pins:List (Addr × Obj)} {σ:St} {H:Hp} {s:Shared} {h':Heap} {C:Addr} (I:Inv X pins σ H s) (f:Fl X pins H C) (sb:Heap.SameBut C s.heap h'):Inv X pins σ H { s with heap:=h' } :=
 I.turned (t':=s.toks) (fun b o hb e=>(sb.2 b hb).trans e) f.1 f.2.1 f.2.2.2.1 f.2.2.2.2.1 f.2.2.2.2.2
section
variable {X:Cx} {x:Str} {scope:Scope}
theorem Ij {px pos:Pos} {iter elt:Expr} {ifs:List Expr} {tt:TT} {te:TE} {pins:List (Addr × Obj)} {σ:St} {s2:Shared} {H2:Hp} {it:Addr} {fp:List Addr} {tn:Nat->Heap->Prop} {J:It} {E:Value->Shared->Prop}
  {RR:Value->Addr->Result->Shared->Prop} {Q:VK}
  (hc:X.calm=true) (S:FJ X x scope) (ht:∀ C s₀ H₀ fp,Ko (B_ X x scope C s₀ H₀ fp) ifs tt) (he:∀ C s₀ H₀ fp,PE (B_ X x scope C s₀ H₀ fp) elt te)
  (I2:Inv X pins σ H2 s2) (T:Turn X.prog X.w X.K (.Name x px) J fp it tn) (st2:tn 0 s2.heap) (f2:∀ b∈fp,Fl X pins H2 b)
  (q:∀ D,H2 D=none->∃ W:Nat->Nat->List V->Hp->Prop,(∃ m,W 0 m [] (upd H2 D (.lst [])))/\∀ i m ys H2,W i m ys H2 ->
   (J.stop i H2/\Q (.ref D) H2) \/ (J.go i H2/\∀ x H3,J.yld i H2 x H3->tt (some x::σ) H3 fun b H4 =>
    if b=true then te (some x::σ) H4 fun y H5=>H5 D=some (.lst ys)/\ys.length<sizeLine/\∃ m',m'<m/\W (i+1) m' (ys++[y]) (upd H5 D (.lst (ys++[y])))
    else ∃ m',m'<m/\W (i+1) m' ys H4))
  (hRR:∀ D C s' H' m,s'.heap.Ns C m->Fl X pins H' C->Inv X pins σ H' s'->Q (.ref D) H'->RR (.ref D) C (.ok .next) s') :
  wpAny (model X.prog X.w) X.A (newList []) (fun acc s₃=>wpAny (model X.prog X.w) X.A (newFunctionEnv scope X.env.globals (Cu X.env scope.names []) [] X.env.qual none .none (some X.env)) (fun cenv s₄ =>
   codeAny (model X.prog X.w) X.A (.compStart (.ListComp elt [⟨.Name x px,iter,ifs,0⟩] scope pos) 0 (.ref it) acc { cenv with scope:=relabel scope X.env }) (RR acc cenv.locals) s₄) E s₃) E s2:=by
 refine wpAny_newObj_type (wpAny_newFunctionEnv S.nocell (by intro y hy; simp at hy) (fun h₁ hns₁ hsb₁=>?_) S.kind)
 have I3:=I2.VN (its:=[]) (ys:=[]) (t':=s2.toks) .nil (Nat.zero_le _)
 have hD0:H2 s2.heap.objs.size=none:=I2.fresh
 obtain ⟨W,⟨m0,w0⟩,turn⟩:=q _ hD0
 generalize hs3:({ s2 with heap:=s2.heap.push { cls:=.type "list",data:=.seq ([]:List Value).toArray },toks:=s2.toks }:Shared)=s3 at I3
 have e3:s3.heap=s2.heap.push { cls:=.type "list",data:=.seq ([]:List Value).toArray }:=by rw [← hs3]
 have hlt:∀ b∈fp,b<s2.heap.objs.size:=fun b hb=>let ⟨_,e,_⟩:=T.obj _ _ st2 b hb; Heap.lt_size e
 have hlt3:∀ b∈fp,b<s3.heap.objs.size:=fun b hb=>by rw [e3,Heap.size_push]; exact Nat.lt_succ_of_lt (hlt b hb)
 have f3:∀ b∈fp,Fl X pins (upd H2 s2.heap.objs.size (.lst [])) b:=fun b hb=>⟨by rw [An (Nat.ne_of_lt (hlt b hb))]; exact (f2 b hb).1,(f2 b hb).2⟩
 have hk1:∀ b o,s3.heap.get? b=some o->h₁.get? b=some o:=fun b o e=>by
  have hne:b ≠ s3.heap.objs.size:=Nat.ne_of_lt (Heap.lt_size e)
  rw [e3] at e hne
  exact hsb₁.extBut b o hne (Heap.get?_push_of_some _ e)
 have hC:s3.heap.objs.size=(s2.heap.push { cls:=.type "list",data:=.seq ([]:List Value).toArray }).objs.size:=by rw [e3]
 have hns:h₁.Ns s3.heap.objs.size (fun x=>([]:List (Str × Value)).reverse.lookup x):=by rw [hC]; exact hns₁
 have st3:tn 0 h₁:=T.keep _ _ _ st2 fun b hb o e=>hk1 b o (by rw [e3]; exact Heap.get?_push_of_some _ e)
 have hDC:s2.heap.objs.size ≠ s3.heap.objs.size:=by rw [e3,Heap.size_push]; exact Nat.ne_of_lt (Nat.lt_succ_self _)
 have start:∀ tk,Inv (B_ X x scope s3.heap.objs.size s3 (upd H2 s2.heap.objs.size (.lst [])) fp) [] (none::σ) (upd H2 s2.heap.objs.size (.lst [])) { s3 with heap:=h₁,toks:=tk }:=fun tk =>
  Mm I3 S f3 hlt3 (Nat.le_refl _) hns hk1
 generalize hX:B_ X x scope s3.heap.objs.size s3 (upd H2 s2.heap.objs.size (.lst [])) fp=X' at start
 have eA:X'.A=X.A:=by rw [← hX]; rfl
 have eP:X'.prog=X.prog:=by rw [← hX]; rfl
 have eW:X'.w=X.w:=by rw [← hX]; rfl
 have eK:X'.K=X.K:=by rw [← hX]; rfl
 have eC:X'.env.locals=s3.heap.objs.size:=by rw [← hX]; rfl
 have loop:∀ tk,codeAny (model X.prog X.w) X.A (.compLoop (.ListComp elt [⟨.Name x px,iter,ifs,0⟩] scope pos) 0 (.ref it) (.ref s2.heap.objs.size) (compEnvC scope (Cu X.env scope.names []) s3.heap.objs.size X.env))
   (RR (.ref s2.heap.objs.size) s3.heap.objs.size) { s3 with heap:=h₁,toks:=tk }:=by
  intro tk
  subst hX
  refine codeAny_compLoop_tests (fun n s'=>∃ i ys v0 H',Inv (B_ X x scope s3.heap.objs.size s3 (upd H2 s2.heap.objs.size (.lst [])) fp) [] (v0::σ) H' s'/\tn i s'.heap/\(∀ b∈fp,H' b=none)/\W i n ys H') ?_ m0
   ⟨0,[],none,_,start tk,st3,fun b hb=>(f3 b hb).1,w0⟩
  rintro n s4 ⟨i,ys,v0,H4,I4,st4,fr4,w4⟩
  have stat:∀ {H':Hp},(∀ b∈fp,H' b=none)->∀ b∈fp,Fl (B_ X x scope s3.heap.objs.size s3 (upd H2 s2.heap.objs.size (.lst [])) fp) [] H' b:=fun hn b hb=>by
   refine ⟨hn b hb,(I4.ok.exf b hb).1,I4.ok.exfs b hb,.inl hb,(I4.ok.exf b hb).2,fun p hp=>absurd (show p∈([]:List (Addr × Obj)) from hp) (by simp)⟩
  rcases turn i n ys H4 w4 with ⟨stop,qn⟩ | ⟨go,step⟩
  ·refine CP (T.done (B_ X x scope s3.heap.objs.size s3 (upd H2 s2.heap.objs.size (.lst [])) fp) rfl rfl rfl hc i [] s4 (v0::σ) H4 _ I4 (stat fr4) st4 stop) fun r s5 ⟨hr,I5⟩=>?_
   subst hr
   obtain ⟨m,hn,_⟩:=I5.loc
   refine hRR _ _ s5 H4 m hn (I3.Jr (Nat.le_refl _) I5.free) (I3.call' (s':=s5) (ch:=fp) I5.os I5.base I5.hok I5.bare (fun b hb=>?_)) qn
   obtain ⟨_,g1,_,g3,g4,g5⟩:=f3 b hb
   exact ⟨g3,g1,g4,g5⟩
  ·refine CP (T.item (B_ X x scope s3.heap.objs.size s3 (upd H2 s2.heap.objs.size (.lst [])) fp) rfl rfl rfl hc i [] s4 (v0::σ) H4 _ I4 (stat fr4) st4 go) fun r s5 ⟨u,hr,h5⟩=>?_
   subst hr
   intro Γ p hΓ
   obtain ⟨xv,H6,I6,r6,y6,st6,fr6⟩:=h5 Γ p hΓ
   refine (?_:wpAny _ _ _ _ _ _) Γ p hΓ
   have I6':=I6.pinned (stat fr6) (T.obj _ _ st6)
   have hloc:(B_ X x scope s3.heap.objs.size s3 (upd H2 s2.heap.objs.size (.lst [])) fp).env.scope.names.lookup x=some .local:=lookup_relabel_local S.loc
   have again:∀ {s7:Shared} {H7:Hp} {ys':List V},Inv (B_ X x scope s3.heap.objs.size s3 (upd H2 s2.heap.objs.size (.lst [])) fp) ([]++Hi fp s5.heap) (some xv::σ) H7 s7->(∃ m',m'<n/\W (i+1) m' ys' H7) ->
     ∃ m,m<n/\∃ i ys v0 H',Inv (B_ X x scope s3.heap.objs.size s3 (upd H2 s2.heap.objs.size (.lst [])) fp) [] (v0::σ) H' s7/\tn i s7.heap/\(∀ b∈fp,H' b=none)/\W i m ys H':=fun {s7 H7 ys'} I7 hw=>by
    obtain ⟨m',hm,w7⟩:=hw
    refine ⟨m',hm,i+1,ys',some xv,H7,I7.GX,T.keep _ _ _ st6 fun b hb o e=>(I7.pin (b,o) (List.mem_append_right _ (List.mem_append_right _ (Ea hb e)))).1,fun b hb=>?_,w7⟩
    obtain ⟨o,e,d⟩:=T.obj _ _ st6 b hb
    exact (I7.pin (b,o) (List.mem_append_right _ (List.mem_append_right _ (Ea hb e)))).2.1
   refine wpAny_assign_Name (Iu (X:=B_ X x scope s3.heap.objs.size s3 (upd H2 s2.heap.objs.size (.lst [])) fp) (i:=0) I6' S.nd rfl (.inl hloc) r6 (fun s7 I7=>?_) (.inr hloc))
   refine LC (ht _ _ _ _ _ s7 (some xv::σ) H6 _ I7 (step xv H6 y6)) fun b s8 hq0=>?_
   obtain ⟨H8,I8,q8⟩:=hq0
   cases b with
   | false =>
    rw [if_neg Bool.false_ne_true] at q8 ⊢
    exact again I8 q8
   | true =>
    rw [if_pos rfl] at q8 ⊢
    refine LC (he _ _ _ _ _ s8 (some xv::σ) H8 _ I8 q8) fun y s9 hq0=>?_
    obtain ⟨yv,H9,I9,r9,hD9,hz9,q9⟩:=hq0
    refine LC (Bu (X:=B_ X x scope s3.heap.objs.size s3 (upd H2 s2.heap.objs.size (.lst [])) fp) _ s9 (some xv::σ) H9 (.ref s2.heap.objs.size) [yv] (.ref s2.heap.objs.size) [y] (fun _ H'=>H'=upd H9 s2.heap.objs.size (.lst (ys++[yv]))) I9 rfl (.cons r9 .nil)
     ⟨_,ys,yv,rfl,rfl,hD9,hz9,rfl⟩) fun _ s10 ⟨_,H10,I10,_,e10⟩=>?_
    subst e10
    exact again I10 q9
 have key:=fun tk=>codeAny_compStart_list (R:=RR (.ref s2.heap.objs.size) s3.heap.objs.size) (loop tk) (T.self X.A 0 { s3 with heap:=h₁,toks:=tk } (fun it' s'=>codeAny (model X.prog X.w) X.A (.compLoop (.ListComp elt [⟨.Name x px,iter,ifs,0⟩] scope pos) 0 it' (.ref s2.heap.objs.size) (compEnvC scope (Cu X.env scope.names []) s3.heap.objs.size X.env)) (RR (.ref s2.heap.objs.size) s3.heap.objs.size) s') _ st3 (loop tk))
 subst hs3
 exact key _
theorem Bp {px pos:Pos} {iter elt:Expr} {ifs:List Expr} {wi:TI} {tt:TT} {te:TE} (hc:X.calm=true) (S:FJ X x scope) (hi:PI X (.Name x px) iter wi)
  (ht:∀ C s₀ H₀ fp,Ko (B_ X x scope C s₀ H₀ fp) ifs tt) (he:∀ C s₀ H₀ fp,PE (B_ X x scope C s₀ H₀ fp) elt te) (hs:∀ x,foldedSetIterable iter X.env x=pure x:=by intro _; rfl) :
  PE X (.ListComp elt [⟨.Name x px,iter,ifs,0⟩] scope pos) (R_ wi tt te):=by
 intro pins s σ H Q I h
 rw [eval_ListComp]
 refine wpAny_comprehension_free (use:=none) (cl:=Cu X.env scope.names []) rfl hs (Gw fun y hy hk=>I.ok.has y.1 (S.free y hy hk)) S.kind S.names (CP (hi pins s σ H _ I h) fun v s1 h1=>CP h1 fun itv s2 h2=>?_)
 obtain ⟨it,fp,tn,J,H2,e,I2,T,st2,f2,q⟩:=h2
 subst e
 refine Ij (RR:=fun acc C=>compPost (model X.prog X.w) X.A X.xe none (EP X pins σ Q) acc C) (Q:=Q) hc S ht he I2 T st2 f2 q ?_
 intro D C s' H' m hn hf hI hq
 exact ⟨m,hn,fun h' sb=>⟨.ref D,H',hI.sameBut hf sb,rfl,hq⟩⟩
theorem Jv {i:Nat} {y:Str} {px py pos spos:Pos} {iter elt:Expr} {ifs:List Expr} {wi:TI} {tt:TT} {te:TE} (hN:X.N.Nodup) (hi':X.N[i]? = some y) (hy:X.env.scope.names.lookup y=some .local) (hc:X.calm=true) (S:FJ X x scope) (hi:PI X (.Name x px) iter wi)
  (ht:∀ C s₀ H₀ fp,Ko (B_ X x scope C s₀ H₀ fp) ifs tt) (he:∀ C s₀ H₀ fp,PE (B_ X x scope C s₀ H₀ fp) elt te) (hsw:swapsWith (.ListComp elt [⟨.Name x px,iter,ifs,0⟩] scope pos) (some (.Name y py)) spos.line X.env=pure true:=by rfl) (hs:∀ x,foldedSetIterable iter X.env x=pure x:=by intro _; rfl) :
  PS X (.Assign [.Name y py] (.ListComp elt [⟨.Name x px,iter,ifs,0⟩] scope pos) spos) (VH (R_ wi tt te) (DR i)):=by
 intro pins s σ H D' I h
 rw [exec_Assign_Name_used _ _ _ _ hsw]
 refine wpAny_bind (wpAny_standAt (wpAny_bind ?_))
 show wpAny _ X.A (do let _ ← comprehension (.ListComp elt [⟨.Name x px,iter,ifs,0⟩] scope pos) scope X.env _ (newList []) false (eval iter X.env) (some (assign (.Name y py) X.env))) _ _ s
 refine wpAny_bind (wpAny_mono (wpAny_comprehension_free (use:=some (assign (.Name y py) X.env)) (cl:=Cu X.env scope.names []) (Q:=fun _ s'=>SP X pins D' .next s') rfl hs (Gw fun y hy hk=>I.ok.has y.1 (S.free y hy hk)) S.kind S.names
  (CP (hi pins s σ H _ I h) fun v s1 h1=>CP h1 fun itv s2 h2=>?_)) (fun _ s' hq=>wpAny_pure (wpAny_pure hq)) fun _ _ e=>e)
 obtain ⟨it,fp,tn,J,H2,e,I2,T,st2,f2,q⟩:=h2
 subst e
 refine Ij (RR:=fun acc C=>compPost (model X.prog X.w) X.A X.xe (some (assign (.Name y py) X.env)) (fun _ s'=>SP X pins D' .next s') acc C) (Q:=fun x H1=>DR i x σ H1 D'.nx) hc S ht he I2 T st2 f2 q ?_
 intro D C s' H' m hn hf hI hq
 show wpAny _ X.A (assign (.Name y py) X.env (.ref D)) _ _ _
 refine wpAny_assign_Name (Jh hI hN hi' (.inl hy) (v:=.ref D) rfl (fun s6 I6 hch=>?_) (.inr hy))
 obtain ⟨a,sb,ha⟩:=hch
 have hCa:C ≠ a:=by
  rcases ha with z | z
  ·rw [z]; exact hf.2.1
  ·exact Ne.symm (hf.2.2.2.2.1 y a z)
 exact ⟨m,hn.sameBut sb hCa,fun h' sb'=>⟨_,H',I6.sameBut hf sb',hq⟩⟩
end
end L2
namespace L2
open PySem PySem.Spec PyProof.Rows
section
variable {σ:St} {H1:Hp} {Q:VK} {tt:TT} {te:TE}
theorem GP {J:It} {xs:List V} (p:V->Bool) (f:V->V) (hz:xs.length<sizeLine)
  (hgo:∀ i H x,Am H1 H->xs[i]? = some x->J.go i H) (hy:∀ i H y H',Am H1 H->i<xs.length->J.yld i H y H'->H'=H/\xs[i]? = some y) (hstop:∀ H,Am H1 H->J.stop xs.length H)
  (ht:∀ x∈xs,∀ H,Am H1 H->∀ R:Bool->Hp->Prop,(∀ H',Am H H'->R (p x) H')->tt (some x::σ) H R)
  (he:∀ x∈xs,p x=true->∀ H,Am H1 H->∀ R:VK,(∀ H',Am H H'->R (f x) H')->te (some x::σ) H R)
  (hq:∀ D H,H1 D=none->Am H1 H->H D=some (.lst ((xs.filter p).map f))->Q (.ref D) H):Fe J σ H1 Q tt te:=by
 intro D hD
 have s0:Am H1 (upd H1 D (.lst [])):=fun b o e=>by rw [An (Aq e hD)]; exact e
 refine ⟨fun i m ys H=>m=xs.length - i/\i<=xs.length/\ys=((xs.take i).filter p).map f/\H D=some (.lst ys)/\Am H1 H,⟨xs.length,by simp,Nat.zero_le _,by simp,Af,s0⟩,?_⟩
 rintro i m ys H ⟨rfl,hi,rfl,hd,hs⟩
 by_cases hlt:i<xs.length
 ·obtain ⟨x,hx⟩:∃ x,xs[i]? = some x:=⟨xs[i],by simp [hlt]⟩
  refine .inr ⟨hgo i H x hs hx,fun y H3 hyl=>?_⟩
  obtain ⟨rfl,hy'⟩:=hy i H y H3 hs hlt hyl
  rw [hx] at hy'
  cases hy'
  have hm:x∈xs:=List.mem_of_getElem? hx
  have hlen:(((xs.take i).filter p).map f).length<sizeLine:=by
   rw [List.length_map]
   refine Nat.lt_of_le_of_lt (List.length_filter_le _ _) (Nat.lt_of_le_of_lt ?_ hz)
   rw [List.length_take]; omega
  refine ht x hm _ hs _ fun H4 s4=>?_
  by_cases hp:p x=true
  ·rw [if_pos hp]
   refine he x hm hp H4 (hs.trans s4) _ fun H5 s5=>?_
   refine ⟨s5 _ _ (s4 _ _ hd),hlen,xs.length - (i+1),by omega,rfl,hlt,?_,Af,fun b o e=>?_⟩
   ·rw [take_succ_filter p xs i x hx,if_pos hp,List.map_append]; rfl
   ·rw [An (Aq e hD)]; exact s5 _ _ (s4 _ _ (hs _ _ e))
  ·rw [if_neg hp]
   refine ⟨xs.length - (i+1),by omega,rfl,hlt,?_,s4 _ _ hd,hs.trans s4⟩
   rw [take_succ_filter p xs i x hx,if_neg hp,List.append_nil]
 ·have e:i=xs.length:=by omega
  subst e
  rw [List.take_length] at hd
  exact .inl ⟨hstop H hs,hq D H hD hs hd⟩
theorem Ly {lo:Int} {n:Nat} (p:Int->Bool) (f:Int->V) (hz:n<sizeLine)
  (ht:∀ i:Nat,i<n->∀ H,Am H1 H->∀ R:Bool->Hp->Prop,(∀ H',Am H H'->R (p (lo+i)) H')->tt (some (.int (lo+i))::σ) H R)
  (he:∀ i:Nat,i<n->p (lo+i)=true->∀ H,Am H1 H->∀ R:VK,(∀ H',Am H H'->R (f (lo+i)) H')->te (some (.int (lo+i))::σ) H R)
  (hq:∀ D H,H1 D=none->Am H1 H->H D=some (.lst ((((List.range n).map fun (i:Nat)=>lo+(i:Int)).filter p).map f))->Q (.ref D) H):Fe (SJ lo n) σ H1 Q tt te:=by
 let g:V->Int:=fun v=>match v with | .int i=>i | _=>0
 have hxs:∀ i:Nat,i<n->((List.range n).map fun (i:Nat)=>V.int (lo+(i:Int)))[i]? = some (.int (lo+i)):=fun i hi=>by simp [hi]
 refine GP (xs:=(List.range n).map fun (i:Nat)=>V.int (lo+(i:Int))) (fun v=>p (g v)) (fun v=>f (g v)) (by simpa using hz) (fun i H x _ hx=>?_) (fun i H y H' _ hi hy=>?_) (fun H _=>?_) (fun x hx=>?_) (fun x hx=>?_) (fun D H h1 h2 h3=>?_)
 ·have:i<((List.range n).map fun (i:Nat)=>V.int (lo+(i:Int))).length:=(List.getElem?_eq_some_iff.mp hx).1
  show i<n
  simpa using this
 ·have hi':i<n:=by simpa using hi
  obtain ⟨e1,e2⟩:=hy
  subst e2
  exact ⟨e1,hxs i hi'⟩
 ·show n<=_
  simp
 ·obtain ⟨i,hi,rfl⟩:=List.mem_map.mp hx
  exact ht i (List.mem_range.mp hi)
 ·obtain ⟨i,hi,rfl⟩:=List.mem_map.mp hx
  exact he i (List.mem_range.mp hi)
 ·refine hq D H h1 h2 ?_
  rw [h3,List.filter_map,List.map_map,List.filter_map,List.map_map]
  rfl
noncomputable def Zm (z:Str):It:=⟨fun i _=>i<z.cps.size,fun i H x H'=>H'=H/\∃ c,z.cps[i]? = some c/\x=.str ⟨#[c]⟩,fun i _=>z.cps.size<=i⟩
theorem Px {P:Program} {w:World} {K:PySem.W.Frag} {tg:Expr} {z:Str} {t0:Tok} {it:Addr} {ty:String} (hty:ty = "str_ascii_iterator" \/ ty = "str_iterator"):Turn P w K tg (Zm z) [it] it (fun i h=>h.IsStrIter it ty z t0 i) where
 mem:=by simp
 obj:=fun i h st b hb=>by
  have e:b=it:=by simpa using hb
  subst e
  obtain ⟨o,ho,hc,hd⟩:=st
  exact ⟨o,ho,fun v q=>by rw [hd] at q; cases q⟩
 keep:=fun i h h' st k=>let ⟨o,ho,r⟩:=st; ⟨o,k it (by simp) o ho,r⟩
 item:=by
  intro X hP hw hK hc i pins s σ H E I hf st hg
  subst hP hw hK
  obtain ⟨f0,f1,f2,f3,f4,f5⟩:=hf it (by simp)
  have hg':i<z.cps.size:=hg
  have hx:z.cps[i]? = some z.cps[i]:=Array.getElem?_eq_getElem hg'
  have fin:∀ h',h'.IsStrIter it ty z t0 (i+1)->Heap.SameBut it s.heap h'->∃ u,some (Value.str ⟨#[z.cps[i]]⟩ s.toks)=some u /\
    wpAny (model X.prog X.w) X.A (letOwnedTupleGo tg (.ref it) u) (fun _ s2=>∃ x H',Inv X pins σ H' s2/\RelV x u/\(Zm z).yld i H x H'/\s2.heap.IsStrIter it ty z t0 (i+1)/\∀ b∈[it],H' b=none) E { s with heap:=h',toks:=s.toks+1 }:=fun h' st' sb=>by
   have I1:Inv X pins σ H { s with heap:=h',toks:=s.toks+1 }:=I.turned (fun b o hb e=>(sb.2 b hb).trans e) f0 f1 f3 f4 f5
   obtain ⟨o,e,c,d⟩:=id st'
   refine ⟨_,rfl,Ku (s:={ s with heap:=h',toks:=s.toks+1 }) e c d (by rcases hty with rfl | rfl <;> decide) ⟨.str ⟨#[z.cps[i]]⟩,H,I1,⟨_,rfl⟩,⟨rfl,_,hx,rfl⟩,st',fun b hb=>(hf b hb).1⟩⟩
  rcases hty with rfl | rfl
  ·exact wpAny_pyNext_ascii_item st hx fin
  ·exact wpAny_pyNext_wide_item st hx fin
 done:=by
  intro X hP hw hK hc i pins s σ H E I hf st hg
  subst hP hw hK
  obtain ⟨f0,f1,f2,f3,f4,f5⟩:=hf it (by simp)
  have hx:z.cps[i]? = none:=by
   have hg':z.cps.size<=i:=hg
   simpa using hg'
  rcases hty with rfl | rfl
  ·exact wpAny_pyNext_ascii_end (I.ok.hd hc) st hx fun h' eb=>⟨rfl,I.turned (t':=s.toks) (fun b o hb e=>eb b o hb e) f0 f1 f3 f4 f5⟩
  ·exact wpAny_pyNext_wide_end (I.ok.hd hc) st hx fun h' eb=>⟨rfl,I.turned (t':=s.toks) (fun b o hb e=>eb b o hb e) f0 f1 f3 f4 f5⟩
 self:=fun A i s Q E st h=>by
  rcases hty with rfl | rfl
  ·exact wpAny_pyIter_striter_ascii st h
  ·exact wpAny_pyIter_striter_wide st h
end
section
variable {X:Cx} {tg:Expr}
noncomputable def Z_ (tl:TE):TI:=fun σ H R=>tl σ H fun x H1=>∃ z,x=.str z/\R (Zm z) H1
theorem PB {l:Expr} {tl:TE} (hl:PE X l tl):PI X tg l (Z_ tl):=by
 intro pins s σ H R I h
 refine CP (hl pins s σ H _ I h) fun v s1 hq0=>?_
 obtain ⟨x,H1,I1,r1,q1⟩:=hq0
 obtain ⟨z,e,q⟩:=q1
 subst e
 obtain ⟨t,rfl⟩:=r1
 have fin:∀ ty,(ty = "str_ascii_iterator" \/ ty = "str_iterator")->PIE X pins σ tg R (.ref s1.heap.objs.size) { s1 with heap:=s1.heap.push { cls:=.type ty,data:=.fields #[.str z t,.int 0 0] } }:=fun ty hty=>by
  refine ⟨s1.heap.objs.size,[s1.heap.objs.size],_,_,H1,rfl,I1.kept (t':=s1.toks) fun b o e=>Heap.get?_push_of_some _ e,Px (z:=z) (t0:=t) hty,⟨_,Heap.get?_push_size _ rfl,rfl,rfl⟩,fun b hb=>?_,q⟩
  have e:b=s1.heap.objs.size:=by simpa using hb
  subst e
  exact I1.Jr (Nat.le_refl _) (I1.hok.fresh (Nat.le_refl _))
 cases ha:z.cps.all (· < 128)
 ·exact wpAny_pyIter_wide ha (fin _ (.inr rfl))
 ·exact wpAny_pyIter_ascii ha (fin _ (.inl rfl))
end
section
variable {σ:St} {H1:Hp} {Q:VK} {tt:TT} {te:TE}
noncomputable def sgn (c:Nat):V:=.str ⟨#[c]⟩
theorem Ky {z:Str} (p:Nat->Bool) (f:Nat->V) (hz:z.length<sizeLine)
  (ht:∀ c∈z.cps.toList,∀ H,Am H1 H->∀ R:Bool->Hp->Prop,(∀ H',Am H H'->R (p c) H')->tt (some (sgn c)::σ) H R)
  (he:∀ c∈z.cps.toList,p c=true->∀ H,Am H1 H->∀ R:VK,(∀ H',Am H H'->R (f c) H')->te (some (sgn c)::σ) H R)
  (hq:∀ D H,H1 D=none->Am H1 H->H D=some (.lst ((z.cps.toList.filter p).map f))->Q (.ref D) H):Fe (Zm z) σ H1 Q tt te:=by
 let g:V->Nat:=fun v=>match v with | .str y=>y.cps.getD 0 0 | _=>0
 refine GP (xs:=z.cps.toList.map sgn) (fun v=>p (g v)) (fun v=>f (g v)) (by simpa [Str.length] using hz) (fun i H x _ hx=>?_) (fun i H y H' _ hi hy=>?_) (fun H _=>?_) (fun x hx=>?_) (fun x hx=>?_) (fun D H h1 h2 h3=>?_)
 ·have:i<(z.cps.toList.map sgn).length:=(List.getElem?_eq_some_iff.mp hx).1
  show i<z.cps.size
  simpa using this
 ·obtain ⟨e1,c,hc,rfl⟩:=hy
  refine ⟨e1,?_⟩
  rw [List.getElem?_map,Array.getElem?_toList,hc]; rfl
 ·show z.cps.size<=_
  simp
 ·obtain ⟨c,hc,rfl⟩:=List.mem_map.mp hx
  exact ht c hc
 ·obtain ⟨c,hc,rfl⟩:=List.mem_map.mp hx
  exact he c hc
 ·refine hq D H h1 h2 ?_
  rw [h3,List.filter_map,List.map_map]
  rfl
end
section
variable {X:Cx}
theorem range_all (bs:List Bool):((List.range bs.length).all fun i=>(bs[i]?).getD true)=bs.all id:=by
 rw [Bool.eq_iff_iff,List.all_eq_true,List.all_eq_true]
 constructor
 ·intro h b hb
  obtain ⟨i,hi,e⟩:=List.mem_iff_getElem.mp hb
  have:=h i (List.mem_range.mpr hi)
  rw [List.getElem?_eq_getElem hi,e] at this
  exact this
 ·intro h i hi
  have hi':=List.mem_range.mp hi
  rw [List.getElem?_eq_getElem hi']
  exact h _ (List.getElem_mem hi')
theorem GD (hc:X.calm=true):Fp X (.builtin "all") (fun xs H Q=>∃ (p:Addr) (bs:List Bool),xs=[V.ref p]/\Cm X.K H p (bs.map V.bl)/\Q (.bl (bs.all id)) H):=by
 intro pins s σ H xs us Q I r h
 obtain ⟨p,bs,rfl,hp,q⟩:=h
 obtain ⟨u,rfl,ru⟩:=vals1 r
 cases ru
 obtain ⟨its,rv,pl,hz⟩:=I.list hp
 have hlen:bs.length=its.length:=by have:=rv.length; rw [List.length_map] at this; exact this
 have hlt:p<s.heap.objs.size:=by obtain ⟨_,e,_⟩:=pl.isList; exact Heap.lt_size e
 refine call_all_walk (wpAny_pyIter_list pl.isList ?_)
 refine ⟨s.heap.objs.size,[s.heap.objs.size,p],[s.heap.objs.size],its.toArray.size,_,_,fun i=>(bs[i]?).getD true,rfl,Walks.list (A:=X.A.in1) (I.ok.hd hc) _ p (Nat.ne_of_lt hlt) its.toArray,
  ⟨⟨_,Heap.get?_push_size _ rfl,rfl,rfl⟩,pl.isList.push _⟩,fun i v s' Q' E' hP hQ=>?_,fun h' tk hk=>?_⟩
 ·have hP':its[i]? = some v:=by simpa using hP
  have hi:i<its.length:=(List.getElem?_eq_some_iff.mp hP').1
  have hb:bs[i]? = some bs[i]:=by simp [hlen,hi]
  obtain ⟨u,hu,ru⟩:=rv.get (i:=i) (x:=.bl bs[i]) (by rw [List.getElem?_map,hb]; rfl)
  rw [hP'] at hu
  cases hu
  cases ru
  dsimp only at hQ
  rw [hb] at hQ
  exact wpAny_truthy_bool hQ
 ·have e:((List.range its.toArray.size).all fun i=>(bs[i]?).getD true)=bs.all id:=by rw [List.size_toArray,← hlen]; exact range_all bs
  rw [e]
  refine ⟨.bl (bs.all id),H,I.kept (t':=tk) fun b o eb=>hk b o (fun hm=>?_) (Heap.get?_push_of_some _ eb),rfl,q⟩
  rw [List.mem_singleton.mp hm] at eb
  exact Nat.lt_irrefl _ (Heap.lt_size eb)
theorem CV:Fp X (.builtin "isinstance") (fun xs H Q=>∃ x T t b,xs=[x,V.ty T]/\HD X.K H x t/\PySem.W.kitOne X.K t (.type T)=some b/\Q (.bl b) H):=by
 intro pins s σ H xs us Q I r h
 obtain ⟨x,T,t,b,rfl,ty,e,q⟩:=h
 obtain ⟨u,v,rfl,ru,rv⟩:=Vals.two r
 cases rv
 exact Ou I ru ty e fun tk=>⟨.bl b,H,I.tok _,rfl,q⟩
theorem Ti:Zw X (fun x lo hi H Q=>∃ z,x=.str z/\z.length<=sizeLine/\Q (.str (Txt.slice z lo hi)) H):=by
 intro pins s σ H x v vl vu lo hi sl Q I rx hs pl pu h
 obtain ⟨z,rfl,hz,q⟩:=h
 obtain ⟨t,rfl⟩:=rx
 refine ⟨"str",_,F.slot_str_getitem.lookup,typeIs_str _ _ _,?_⟩
 have fin:∀ t' k,EP X pins σ Q (.str (Txt.slice z lo hi) t') { s with toks:=k }:=fun t' k=>⟨.str _,H,I.tok _,⟨_,rfl⟩,q⟩
 cases pl with
 | none =>
  cases pu with
  | none=>exact wpAny_getItem_str_slice (l:=none) (u:=none) (st:=none) hs rfl (post_val_or_str ⟨Nat.le_trans (Txt.slice_le z _ _) hz,fin⟩)
  | int j uj=>exact wpAny_getItem_str_slice (l:=none) (u:=some (j,uj)) (st:=none) hs rfl (post_val_or_str ⟨Nat.le_trans (Txt.slice_le z _ _) hz,fin⟩)
 | int i ui =>
  cases pu with
  | none=>exact wpAny_getItem_str_slice (l:=some (i,ui)) (u:=none) (st:=none) hs rfl (post_val_or_str ⟨Nat.le_trans (Txt.slice_le z _ _) hz,fin⟩)
  | int j uj=>exact wpAny_getItem_str_slice (l:=some (i,ui)) (u:=some (j,uj)) (st:=none) hs rfl (post_val_or_str ⟨Nat.le_trans (Txt.slice_le z _ _) hz,fin⟩)
end
noncomputable def M7 (x:Str) (scope osc:Scope) (N:List Str):Bool :=
 (scope.kind == .function) && scope.names.all (fun y=>y.2 != .cell) && scope.names.all (fun y=>y.2 != .local || scope.names.lookup y.1 == some .local) && (scope.names.lookup x == some .local) &&
 scope.names.all (fun y=>y.2 != .free || osc.names.lookup y.1 == some .cell || osc.names.lookup y.1 == some .free) && decide ((x::Gn x N).Nodup) && (Gn x N).all (fun y=>scope.names.lookup y != some .local) && (scope.names.lookup ("" : Str) == none)
theorem Bf {X:Cx} {x:Str} {scope osc:Scope} {N:List Str} (hsc:X.env.scope=osc) (hN:X.N=N) (h:M7 x scope osc N=true):FJ X x scope:=by
 unfold M7 at h
 simp only [Bool.and_eq_true] at h
 obtain ⟨⟨⟨⟨⟨⟨⟨h1,h2⟩,h3⟩,h4⟩,h5⟩,h6⟩,h7⟩,h8⟩:=h
 rw [List.all_eq_true] at h2 h3 h5 h7
 have kd:∀ y,X.env.kindOf y=osc.names.lookup y:=fun y=>by rw [← hsc]; rfl
 refine ⟨by simpa using h1,fun y hy=>by simpa using h2 y hy,fun y hy e=>?_,by simpa using h4,fun y hy e=>?_,by rw [hN]; exact of_decide_eq_true h6,fun y hy=>?_,by simpa using h8⟩
 ·have:=h3 y hy
  rw [e] at this
  simpa using this
 ·have:=h5 y hy
  rw [e] at this
  rw [kd]
  simpa using this
 ·rw [hN] at hy
  simpa using h7 y hy
end L2
namespace L2
open PySem PySem.Spec PyProof.Rows
section
variable {X:Cx} {pins:List (Addr × Obj)} {σ:St} {H:Hp} {s:Shared} {h':Heap}
theorem Inv.Kq {ch:List Addr} {a:Addr} {o:HO} {t':Nat} (I:Inv X pins σ H s) (hf:∀ b∈ch,Fl X pins H b) (k:∀ b u,b ∉ ch->s.heap.get? b=some u->h'.get? b=some u) (hp:s.heap.objs.size<=a)
  (new:CQ X.prog X.w (upd H a o) h' a o):Inv X pins σ (upd H a o) { s with heap:=h',toks:=t' }:=by
 have hn:H a=none:=I.hok.fresh hp
 have up:∀ b u,H b=some u->upd H a o b=some u:=fun b u e=>by rw [An (Aq e hn)]; exact e
 refine I.step (g':=s.gens) (d':=s.drawn) (ch:=ch) (fun b hb=>?_) (fun b u _ _ hc e _=>k b u hc e) (fun b u _ _ hc e _=>⟨u.slots,k b u hc e⟩) (fun b u _ e n=>?_)
  (fun b u hc e=>⟨u,k b u hc e⟩) (fun b xs e=>up _ _ e) (fun b u x e=>up _ _ e) (fun b ps e=>⟨#[],by rw [up _ _ e]; simp⟩) (fun m hm=>?_) (fun b u e=>?_) I.bare
 ·obtain ⟨f0,f1,f2,f3,f4,f5⟩:=hf b hb
  exact ⟨f3,f1,f4,f5⟩
 ·rw [An (Nat.ne_of_lt (Nat.lt_of_lt_of_le (Heap.lt_size e) hp))]
  exact n
 ·obtain ⟨u,es,ep,ho,r⟩:=hm
  exact ⟨u,es,ep,k _ u (fun z=>(hf _ z).2.1 rfl) ho,r⟩
 ·by_cases hb:b=a
  ·subst hb
   rw [Af] at e
   cases e
   exact new
  ·rw [An hb] at e
   refine (I.hok b u e).stay (fun c v hc q=>k c v (fun z=>?_) q) (fun _ q=>up _ _ q) fun _ _ q=>up _ _ q
   have z1:=(hf c z).1
   rcases hc with hc | hc
   ·rw [hc,e] at z1
    cases z1
   ·rw [hc] at z1
    cases z1
theorem Inv.NB {ch:List Addr} {t':Nat} (I:Inv X pins σ H s) (hf:∀ b∈ch,Fl X pins H b) (k:∀ b u,b ∉ ch->s.heap.get? b=some u->h'.get? b=some u):Inv X pins σ H { s with heap:=h',toks:=t' }:=by
 refine I.step (g':=s.gens) (d':=s.drawn) (ch:=ch) (fun b hb=>?_) (fun b u _ _ hc e _=>k b u hc e) (fun b u _ _ hc e _=>⟨u.slots,k b u hc e⟩) (fun b u _ e n=>n)
  (fun b u hc e=>⟨u,k b u hc e⟩) (fun b xs e=>e) (fun b u x e=>e) (fun b ps e=>⟨#[],by rw [e]; simp⟩) (fun m hm=>?_) (fun b u e=>?_) I.bare
 ·obtain ⟨f0,f1,f2,f3,f4,f5⟩:=hf b hb
  exact ⟨f3,f1,f4,f5⟩
 ·obtain ⟨u,es,ep,ho,r⟩:=hm
  exact ⟨u,es,ep,k _ u (fun z=>(hf _ z).2.1 rfl) ho,r⟩
 ·refine (I.hok b u e).stay (fun c v hc q=>k c v (fun z=>?_) q) (fun _ q=>q) fun _ _ q=>q
  have z1:=(hf c z).1
  rcases hc with hc | hc
  ·rw [hc,e] at z1
   cases z1
  ·rw [hc] at z1
   cases z1
end
noncomputable def Y6 (K:PySem.W.Frag) (a:Addr):It :=
 ⟨fun i H=>∃ xs x,Cm K H a xs/\xs[i]? = some x,fun i H v H'=>∃ T,H T=none/\v=.ref T/\∀ xs,Cm K H a xs->∃ x,xs[i]? = some x/\H'=upd H T (.tup [.int (i:Int),x]),fun i H=>∃ xs,Cm K H a xs/\xs.length<=i⟩
noncomputable def aY (K:PySem.W.Frag) (a b:Addr):It :=
 ⟨fun i H=>∃ xs ys x y,FW K H a xs/\FW K H b ys/\xs[i]? = some x/\ys[i]? = some y,fun i H v H'=>∃ T,H T=none/\v=.ref T/\∀ xs ys,FW K H a xs->FW K H b ys->∃ x y,xs[i]? = some x/\ys[i]? = some y/\H'=upd H T (.tup [x,y]),
  fun i H=>∃ xs,FW K H a xs/\xs.length<=i⟩
theorem OJ {P:Program} {w:World} {K:PySem.W.Frag} {es:List Expr} {k1:Nat} {pos:Pos} (a e it:Addr) (hne:e ≠ it) :
  Turn P w K (.Tuple es k1 pos) (Y6 K a) [e,it] e (fun i h=>(∃ old,IsEnum h e it i old)/\h.IsListIter it a i) where
 mem:=by simp
 obj:=fun i h st b hb=>by
  obtain ⟨⟨old,he⟩,o,ho,c,d⟩:=st
  rcases List.mem_cons.mp hb with rfl | hb
  ·exact ⟨_,he,fun v z=>by
    have z':Data.fields _=Data.cell v:=z
    cases z'⟩
  ·have q:b=it:=by simpa using hb
   subst q
   exact ⟨o,ho,fun v z=>by rw [d] at z; cases z⟩
 keep:=fun i h h' st k=>by
  obtain ⟨⟨old,he⟩,hi⟩:=st
  exact ⟨⟨old,k e (by simp) _ he⟩,hi.at fun o q=>k it (by simp) o q⟩
 item:=by
  intro X hP hw hK hc i pins s σ H E I hf st hg
  subst hP hw hK
  obtain ⟨xs,x,hq,hx⟩:=hg
  obtain ⟨its,rv,p,hz⟩:=I.list hq
  obtain ⟨u,hu,ru⟩:=rv.get hx
  obtain ⟨⟨old,he⟩,hi⟩:=st
  refine wpAny_pyNext_enum_item he hi p.isList (x:=u) (by simpa using hu) hne fun h1 n1 n2 n3 n4 n5=>?_
  refine ⟨_,rfl,wpAny_letOwnedTupleGo_enum (s:={ s with heap:=h1,toks:=s.toks+1 }) n1 fun h2 m1 m2=>?_⟩
  have hT:s.heap.objs.size ≠ e:=Nat.ne_of_gt (Heap.lt_size he)
  have hI:s.heap.objs.size ≠ it:=by obtain ⟨_,q,_⟩:=hi; exact Nat.ne_of_gt (Heap.lt_size q)
  have fr:H s.heap.objs.size=none:=I.hok.fresh (Nat.le_refl _)
  have nw:CQ X.prog X.w (upd H s.heap.objs.size (.tup [.int (i:Int),x])) h2 s.heap.objs.size (.tup [.int (i:Int),x]) :=
   ⟨by show 2<=sizeLine; decide,[.int i s.toks,u],.cons ⟨_,rfl⟩ (.cons ru .nil),_,m2.extBut _ _ hT n3,rfl,_,rfl⟩
  refine ⟨.ref s.heap.objs.size,_,I.Kq (t':=s.toks+1) (ch:=[e,it]) hf (fun b o hb q=>?_) (Nat.le_refl _) nw,rfl,⟨_,fr,rfl,fun ys hy=>⟨x,by rw [I.Ka hy hq]; exact hx,rfl⟩⟩,⟨⟨u,?_⟩,n2.at fun o q=>m2.extBut _ _ (Ne.symm hne) q⟩,fun b hb=>?_⟩
  ·exact m2.extBut _ _ (fun z=>hb (by simp [z])) (n5 b o (fun z=>hb (by simp [z])) (fun z=>hb (by simp [z])) q)
  ·have e1:((i:Int)+1)=((i+1:Nat):Int):=by omega
   rw [← e1]
   exact m1
  ·have hb':=hb
   rcases List.mem_cons.mp hb with rfl | hb
   ·rw [An (Ne.symm hT)]
    exact (hf _ hb').1
   ·have q:b=it:=by simpa using hb
    subst q
    rw [An (Ne.symm hI)]
    exact (hf _ hb').1
 done:=by
  intro X hP hw hK hc i pins s σ H E I hf st hg
  subst hP hw hK
  obtain ⟨xs,hq,hx⟩:=hg
  obtain ⟨its,rv,p,hz⟩:=I.list hq
  obtain ⟨⟨old,he⟩,hi⟩:=st
  have hl:=rv.length
  exact wpAny_pyNext_enum_end (I.ok.hd hc) he hi p.isList (by simp; omega) fun h1 eb=>⟨rfl,I.NB (t':=s.toks) (ch:=[e,it]) hf fun b o hb q=>eb b o (fun z=>hb (by simp [z])) q⟩
 self:=fun _ _ _ _ _ st h=>by
  obtain ⟨⟨old,he⟩,_⟩:=st
  exact wpAny_pyIter_enum he h
theorem QW {n a b:Nat} (ha:a<n) (hb:b<n):ZipApart (n+4) (n+2) (n+3) n (n+1) a b:=by
 constructor <;> (refine (show @Ne Nat _ _ from ?_); omega)
theorem Uu {n b:Nat} {P:Nat->Prop} (h0:P n) (h1:P (n+1)) (h2:P (n+2)) (h3:P (n+3)) (h4:P (n+4)) (hb:b∈[n,n+1,n+2,n+3,n+4]):P b:=by
 simp at hb
 rcases hb with rfl | rfl | rfl | rfl | rfl <;> assumption
theorem Nm {P:Program} {w:World} {K:PySem.W.Frag} {es:List Expr} {k1:Nat} {pos:Pos} (a b n:Nat) (ha:a<n) (hb:b<n) :
  Turn P w K (.Tuple es k1 pos) (aY K a b) [n,n+1,n+2,n+3,n+4] (n+4) (fun i h=>IsZip h (n+4) (n+2) (n+3) .none/\IsPair h (n+2) (.ref n) (.ref (n+1))/\(∃ x y,IsPair h (n+3) x y)/\h.IsTupleIter n a i/\h.IsTupleIter (n+1) b i) where
 mem:=by simp
 obj:=fun i h st c hc=>by
  obtain ⟨hz,hI,⟨x,y,hO⟩,⟨o1,e1,_,d1⟩,⟨o2,e2,_,d2⟩⟩:=st
  refine Uu (P:=fun c=>∃ o,h.get? c=some o/\∀ v,o.data ≠ .cell v) ⟨_,e1,fun v z=>?_⟩ ⟨_,e2,fun v z=>?_⟩ ⟨_,hI,fun v z=>?_⟩ ⟨_,hO,fun v z=>?_⟩ ⟨_,hz,fun v z=>?_⟩ hc
  ·rw [d1] at z; cases z
  ·rw [d2] at z; cases z
  ·have z':Data.seq _ _=Data.cell v:=z
   cases z'
  ·have z':Data.seq _ _=Data.cell v:=z
   cases z'
  ·have z':Data.fields _=Data.cell v:=z
   cases z'
 keep:=fun i h h' st k=>by
  obtain ⟨hz,hI,⟨x,y,hO⟩,j1,j2⟩:=st
  exact ⟨k _ (by simp) _ hz,k _ (by simp) _ hI,⟨x,y,k _ (by simp) _ hO⟩,j1.at fun o q=>k _ (by simp) o q,j2.at fun o q=>k _ (by simp) o q⟩
 item:=by
  intro X hP hw hK hc i pins s σ H E I hf st hg
  subst hP hw hK
  obtain ⟨xs,ys,x,y,q1,q2,hx,hy⟩:=hg
  obtain ⟨it1,r1,p1,_⟩:=I.tuple q1
  obtain ⟨it2,r2,p2,_⟩:=I.tuple q2
  obtain ⟨u,hu,ru⟩:=r1.get hx
  obtain ⟨v,hv,rv⟩:=r2.get hy
  obtain ⟨hz,hI,⟨x0,y0,hO⟩,j1,j2⟩:=st
  have D:=QW ha hb
  have hT:s.TypeIs (.ref (n+4)) "zip":=⟨_,hz,rfl⟩
  have sz:n+4<s.heap.objs.size:=Heap.lt_size hz
  unfold pyNext
  refine wpAny_bind (wpAny_attempt (wpAny_callSpecial?_slot (name:=Str.ofString "__next__") hT F.slot_zip_next (wpAny_call_entry F.slot_zip_next hT F.entry_zip_next
   (O4 D hz hI hO j1 j2 (show s.heap.IsTuple a it1.toArray from p1) (show s.heap.IsTuple b it2.toArray from p2) (x:=u) (y:=v) (by simpa using hu) (by simpa using hv) fun h1 n1 n2 n3 n4 n5 n6 n7=>wpAny_pure ?_) (F.args_zip_next_1 _))))
  refine ⟨_,rfl,wpAny_letOwnedTupleGo_zip (s:={ s with heap:=h1 }) n1 fun h2 m1 m2=>?_⟩
  have fr:H s.heap.objs.size=none:=I.hok.fresh (Nat.le_refl _)
  have nw:CQ X.prog X.w (upd H s.heap.objs.size (.tup [x,y])) h2 s.heap.objs.size (.tup [x,y]) :=
   ⟨by show 2<=sizeLine; decide,[u,v],.cons ru (.cons rv .nil),_,m2.extBut _ _ (Nat.ne_of_gt sz) n5,rfl,_,rfl⟩
  have hI2:IsPair h1 (n+2) (.ref n) (.ref (n+1)):=n7 _ _ D.TIz D.TITO D.TIi1 D.TIi2 hI
  refine ⟨.ref s.heap.objs.size,_,I.Kq (t':=s.toks) (ch:=[n,n+1,n+2,n+3,n+4]) hf (fun c o hc q=>?_) (Nat.le_refl _) nw,rfl,⟨_,fr,rfl,fun xs' ys' h1 h2=>⟨x,y,by rw [I.Hm h1 q1]; exact hx,by rw [I.Hm h2 q2]; exact hy,rfl⟩⟩,
   ⟨m1,m2.extBut _ _ D.TIz hI2,⟨u,v,m2.extBut _ _ D.TOz n2⟩,n3.at fun o q=>m2.extBut _ _ D.i1z q,n4.at fun o q=>m2.extBut _ _ D.i2z q⟩,fun c hc=>?_⟩
  ·have z:∀ d,d∈[n,n+1,n+2,n+3,n+4]->c ≠ d:=fun d hd q=>hc (q ▸ hd)
   exact m2.extBut _ _ (z _ (by simp)) (n7 c o (z _ (by simp)) (z _ (by simp)) (z _ (by simp)) (z _ (by simp)) q)
  ·rw [An ?_]
   ·exact (hf c hc).1
   ·have lt:c<=n+4:=Uu (P:=fun c=>c<=n+4) (by omega) (by omega) (by omega) (by omega) (Nat.le_refl _) hc
    exact Nat.ne_of_lt (Nat.lt_of_le_of_lt lt sz)
 done:=by
  intro X hP hw hK hc i pins s σ H E I hf st hg
  subst hP hw hK
  obtain ⟨xs,q1,hx⟩:=hg
  obtain ⟨it1,r1,p1,_⟩:=I.tuple q1
  obtain ⟨hz,hI,⟨x0,y0,hO⟩,j1,j2⟩:=st
  have D:=QW ha hb
  have hT:s.TypeIs (.ref (n+4)) "zip":=⟨_,hz,rfl⟩
  have hl:=r1.length
  unfold pyNext
  refine wpAny_bind (wpAny_attempt (wpAny_callSpecial?_slot (name:=Str.ofString "__next__") hT F.slot_zip_next (wpAny_call_entry F.slot_zip_next hT F.entry_zip_next
   (QB (I.ok.hd hc) D hz hI hO j1 (show s.heap.IsTuple a it1.toArray from p1) (by simp; omega) fun h1 x k1 hx1=>?_) (F.args_zip_next_1 _))))
  obtain ⟨o,ho,hco⟩:=hx1
  refine wpAny_bind (wpAny_isInstance (T:="StopIteration") (b:=true) ⟨o,ho,hco⟩ isSubtype_stop (wpAny_pure ?_))
  refine ⟨rfl,I.NB (t':=s.toks) (ch:=[n,n+1,n+2,n+3,n+4]) hf fun c o hc q=>?_⟩
  have z:∀ d,d∈[n,n+1,n+2,n+3,n+4]->c ≠ d:=fun d hd q=>hc (q ▸ hd)
  exact k1 c o (z _ (by simp)) (z _ (by simp)) (z _ (by simp)) (z _ (by simp)) q
 self:=fun _ _ _ _ _ st h=>wpAny_pyIter_zip st.1 h
section
variable {X:Cx} {es:List Expr} {k1:Nat} {tpos:Pos}
noncomputable def XD (K:PySem.W.Frag) (ta:TA):TI:=fun σ H R=>ta σ H fun vs H1=>∃ a,vs=[.ref a]/\(∃ xs,Cm K H1 a xs)/\R (Y6 K a) H1
noncomputable def cM (K:PySem.W.Frag) (ta:TA):TI:=fun σ H R=>ta σ H fun vs H1=>∃ a b,vs=[.ref a,.ref b]/\(∃ xs,FW K H1 a xs)/\(∃ ys,FW K H1 b ys)/\R (aY K a b) H1
theorem J1 {l:Expr} {ta:TA} {p pos:Pos} (hg:Gl X "enumerate") (hm:X.mg "enumerate" = none) (ha:PA X [l] ta) (hs:starEach [l] X.env=[(false,eval l X.env)]:=by rfl) :
  PI X (.Tuple es k1 tpos) (.Call (.Name "enumerate" p) [l] [] pos) (XD X.K ta):=by
 intro pins s σ H R I h
 refine Call_ (G4 I hg hm boot_enumerate (PyProof.Rows.callWith_type1 (CP (ha pos pins s σ H _ I h) fun us s1 ⟨vs,H1,I1,r1,q1⟩=>?_) hs rfl))
 obtain ⟨a,e,⟨xs,hq⟩,q⟩:=q1
 subst e
 obtain ⟨u,rfl,ru⟩:=vals1 r1
 cases ru
 obtain ⟨its,rv,pl,hz⟩:=I1.list hq
 refine call_enumerate_list pl.isList fun h1 n1 n2 n3 n4=>?_
 refine wpAny_pyIter_enum (s:={ s1 with heap:=h1 }) n1 ?_
 refine ⟨_,[s1.heap.objs.size+1,s1.heap.objs.size],_,_,H1,rfl,I1.kept (t':=s1.toks) n4,OJ a _ _ (Nat.succ_ne_self _),⟨⟨_,n1⟩,n2⟩,fun b hb=>?_,q⟩
 have lt:s1.heap.objs.size<=b:=by
  rcases List.mem_cons.mp hb with rfl | hb
  ·exact Nat.le_succ _
  ·exact Nat.le_of_eq ((List.mem_singleton.mp hb).symm)
 exact I1.Jr lt (I1.hok.fresh lt)
theorem RB {x y:Expr} {ta:TA} {p pos:Pos} (hg:Gl X "zip") (hm:X.mg "zip" = none) (ha:PA X [x,y] ta) (hs:starEach [x,y] X.env=[(false,eval x X.env),(false,eval y X.env)]:=by rfl) (hs2:starEach [y] X.env=[(false,eval y X.env)]:=by rfl) :
  PI X (.Tuple es k1 tpos) (.Call (.Name "zip" p) [x,y] [] pos) (cM X.K ta):=by
 intro pins s σ H R I h
 refine Call_ (G4 I hg hm boot_zip (PyProof.Rows.callWith_type1 (CP (ha pos pins s σ H _ I h) fun us s1 ⟨vs,H1,I1,r1,q1⟩=>?_) (by rw [hs,hs2]) (by rw [hs2]; rfl)))
 obtain ⟨a,b,e,⟨xs,q1⟩,⟨ys,q2⟩,q⟩:=q1
 subst e
 obtain ⟨u,v,rfl,ru,rv⟩:=Vals.two r1
 cases ru
 cases rv
 obtain ⟨it1,r1,p1,_⟩:=I1.tuple q1
 obtain ⟨it2,r2,p2,_⟩:=I1.tuple q2
 refine Nu (show s1.heap.IsTuple a it1.toArray from p1) (show s1.heap.IsTuple b it2.toArray from p2) fun h1 n hn n1 n2 n3 n4 n5 n6 n7=>?_
 refine wpAny_pyIter_zip (s:={ s1 with heap:=h1 }) n1 ?_
 have la:a<n:=by rw [hn]; exact p1.lt
 have lb:b<n:=by rw [hn]; exact p2.lt
 refine ⟨_,[n,n+1,n+2,n+3,n+4],_,_,H1,rfl,I1.kept (t':=s1.toks) n7,Nm a b n la lb,⟨n1,n2,⟨_,_,n3⟩,n4,n5⟩,fun c hc=>?_,q⟩
 have lt:s1.heap.objs.size<=c:=by
  rw [← hn]
  exact Uu (P:=fun c=>n<=c) (by omega) (by omega) (by omega) (by omega) (by omega) hc
 exact I1.Jr lt (I1.hok.fresh lt)
end
end L2
namespace L2
open PySem PySem.Spec PyProof.Rows
theorem RC {prog:Program} {w:World} {A:Around} {R:Result->Shared->Prop} {s:Shared} {elt tg iter:Expr} {ifs:List Expr} {scope:Scope} {pos:Pos} {it acc:Value} {env:Env} (J:Nat->Shared->Prop) {E:Value->Shared->Prop} (hE:E=notedBy (model prog w) A env fun e s'=>R (.error e) s')
  (turn:∀ n s,J n s->wpAny (model prog w) A (pyNext it) (fun r s1=>match r with
   | none=>R (.ok .next) s1
   | some v=>wpAny (model prog w) A (letOwnedTupleGo tg it v) (fun _ s2=>wpAny (model prog w) A (assign tg env v) (fun _ s3 =>
     wpAny (model prog w) A (forIn ifs true fun c r=>if r=true then do let ok ← isTrue c env (eval c env); pure (ForInStep.yield ok) else pure (ForInStep.yield r)) (fun ok s4 =>
      if ok=true then wpAny (model prog w) A (eval elt env) (fun x s5=>wpAny (model prog w) A (call (.builtin "list.append") [acc,x]) (fun _ s6=>∃ m,m<n/\J m s6) E s5) E s4
      else ∃ m,m<n/\J m s4) E s3) E s2) E s1) E s) (n:Nat) (h:J n s) :
  codeAny (model prog w) A (.compLoop (.ListComp elt [⟨tg,iter,ifs,0⟩] scope pos) 0 it acc env) R s:=by
 subst hE
 refine codeAny_loop rfl J (fun n s hJ=>(show wpAny _ A ((compTurn (.ListComp elt [⟨tg,iter,ifs,0⟩] scope pos) 0 it acc env).onRaise (fun x=>do noteFrame x env; theTreesLotGoes x)) _ _ s from wpAny_noted ?_)) n h
 rw [compTurn_list]
 refine wpAny_bind (wpAny_standAt (wpAny_bind (wpAny_mono (turn n s hJ) (fun r s1 h1=>?_) fun _ _ q=>q)))
 cases r with
 | none=>exact wpAny_pure h1
 | some v =>
  refine wpAny_bind (wpAny_mono h1 (fun _ s2 h2=>wpAny_bind (wpAny_mono h2 (fun _ s3 h3=>wpAny_bind (wpAny_mono h3 (fun ok s4 h4=>?_) fun _ _ q=>q)) fun _ _ q=>q)) fun _ _ q=>q)
  cases ok with
  | false=>exact wpAny_pure ⟨rfl,h4⟩
  | true=>exact wpAny_bind (wpAny_bind (wpAny_mono h4 (fun x s5 h5=>wpAny_bind (wpAny_mono h5 (fun _ s6 h6=>wpAny_pure (wpAny_pure ⟨rfl,h6⟩)) fun _ _ q=>q)) fun _ _ q=>q))
noncomputable def Bj (X:Cx) (x z:Str) (scope:Scope) (C:Addr) (s₀:Shared) (H₀:Hp) (fp:List Addr):Cx where
 prog:=X.prog
 w:=X.w
 K:=X.K
 mg:=X.mg
 base:=X.base
 A:=X.A
 N:=x::z::X.N
 s₀:=s₀
 H₀:=H₀
 env:=compEnvC scope (Cu X.env scope.names []) C X.env
 outer:=X.stack
 stack:=X.stack
 ex:=fp
 fn:=fun _=>false
 calm:=X.calm
 pn:=[]
 xe:=fun _ _=>False
structure D_ (X:Cx) (x z:Str) (scope:Scope):Prop where
 kind:scope.kind=.function
 nocell:∀ y∈scope.names,y.2 ≠ .cell
 names:∀ y∈scope.names,y.2=.local->scope.names.lookup y.1=some .local
 loc:scope.names.lookup x=some .local
 loz:scope.names.lookup z=some .local
 free:∀ y∈scope.names,y.2=.free->X.env.kindOf y.1=some .cell \/ X.env.kindOf y.1=some .free
 nd:(x::z::X.N).Nodup
 only:∀ y∈X.N,scope.names.lookup y ≠ some .local
section
variable {X:Cx} {pins:List (Addr × Obj)} {σ:St} {H:Hp} {s:Shared} {x z:Str} {scope:Scope} {fp:List Addr} {C:Addr}
theorem Kv {h':Heap} {tk:Nat} {m:Str->Option Value} (I:Inv X pins σ H s) (S:D_ X x z scope) (hf:∀ b∈fp,Fl X pins H b) (hlt:∀ b∈fp,b<s.heap.objs.size) (hC:s.heap.objs.size<=C) (hn:h'.Ns C m)
  (hk:∀ b o,s.heap.get? b=some o->h'.get? b=some o):Inv (Bj X x z scope C s H fp) [] (none::none::σ) H { s with heap:=h',toks:=tk }:=by
 have cl:∀ y c,(Cu X.env scope.names []).lookup y=some c->X.env.cells.lookup y=some c:=fun y c e=>by
  rcases FQ X.env scope.names [] y c e with z | z
  ·cases z
  ·exact z
 have cellK:∀ c v,s.heap.IsCell c v->h'.IsCell c v:=fun c v ⟨o,ho,hd⟩=>⟨o,hk c o ho,hd⟩
 have look:∀ y,(Bj X x z scope C s H fp).env.scope.names.lookup y=(scope.names.lookup y).map fun k=>if (k == NameKind.free && X.env.scope.kind == .function && X.env.kindOf y == some .cell) then NameKind.cell else k:=fun y=>Em X.env y scope.names
 refine ⟨⟨I.ok.mod,S.kind,I.ok.glob,I.ok.blt,hC,fun y z c e1 e2=>I.ok.inj y z c (cl y c e1) (cl z c e2),fun y hy=>?_,fun y c e _=>(by cases e),fun h=>I.ok.hd h,I.ok.frames,.inl rfl,fun b hb=>?_,I.bs,Nat.le_trans I.ok.bsz I.sz,fun b o e hb=>?_,fun b hb hb'=>?_,I.stack,I.J_⟩,
  rfl,I.bare,Un.kept hk,⟨m,hn,fun i y v h1 h2 h3=>?_⟩,fun y c e=>?_,I.hok.fresh hC,fun y c e=>I.freeC y c (cl y c e),fun p hp=>absurd (show p∈([]:List (Addr × Obj)) from hp) (by simp),I.hok.kept hk,?_⟩
 ·have hy':(Bj X x z scope C s H fp).env.scope.names.lookup y=some .cell \/ (Bj X x z scope C s H fp).env.scope.names.lookup y=some .free:=hy
  rw [look y] at hy'
  cases e:scope.names.lookup y with
  | none=>rw [e] at hy'; rcases hy' with z | z <;> cases z
  | some k =>
   have hm:=PySem.mem_of_lookup e
   have hfree:k=.free:=by
    rw [e] at hy'
    cases k with
    | free=>rfl
    | cell=>exact absurd rfl (S.nocell _ hm)
    | _=>rcases hy' with z | z <;> simp at z
   subst hfree
   obtain ⟨c,hc⟩:=I.ok.has y (S.free _ hm rfl)
   exact Option.isSome_iff_exists.mp (EY X.env scope.names [] y hm (by rw [hc]; rfl))
 ·obtain ⟨f0,f1,f2,f3,f4,f5⟩:=hf b hb
  exact ⟨Nat.ne_of_lt (Nat.lt_of_lt_of_le (hlt b hb) hC),fun y c e=>f4 y c (cl y c e)⟩
 ·obtain ⟨f0,f1,f2,f3,f4,f5⟩:=hf b hb
  rcases f3 with z | z
  ·exact I.ok.noex b o e z
  ·exact absurd (Nat.lt_of_lt_of_le (Heap.lt_size e) (Nat.le_trans I.ok.bsz z)) (Nat.lt_irrefl _)
 ·obtain ⟨f0,f1,f2,f3,f4,f5⟩:=hf b hb
  rcases List.mem_cons.mp (I.Jx b hb') with e | e
  ·exact f1 e
  ·exact f2 e
 ·match i,h1,h2 with
  | 0,h1,h2 =>
   have h2':(some none:Option (Option V))=some (some v):=h2
   cases h2'
  | 1,h1,h2 =>
   have h2':(some none:Option (Option V))=some (some v):=h2
   cases h2'
  | i+2,h1,h2 =>
   have e0:X.N[i]? = some y:=h1
   have h2':σ[i]? = some (some v):=h2
   have hmem:y∈X.N:=List.mem_of_getElem? e0
   have h3':(Bj X x z scope C s H fp).env.scope.names.lookup y=some .local \/ (Bj X x z scope C s H fp).env.scope.names.lookup y=some .cell \/ (Bj X x z scope C s H fp).env.scope.names.lookup y=some .free:=h3
   rw [look y] at h3'
   cases e:scope.names.lookup y with
   | none=>rw [e] at h3'; rcases h3' with z | z | z <;> cases z
   | some k =>
    have hm:=PySem.mem_of_lookup e
    have hfree:k=.free:=by
     rw [e] at h3'
     cases k with
     | free=>rfl
     | cell=>exact absurd rfl (S.nocell _ hm)
     | «local»=>exact absurd e (S.only y hmem)
     | _=>rcases h3' with z | z | z <;> simp at z
    subst hfree
    have kd:=S.free _ hm rfl
    obtain ⟨m0,hn0,hl0⟩:=I.loc
    obtain ⟨u,r,l⟩:=hl0 i y v e0 h2' (by rcases kd with z | z; exact .inr (.inl z); exact .inr (.inr z))
    refine ⟨u,r,.inr ⟨?_,?_⟩⟩
    ·have hk':(Bj X x z scope C s H fp).env.scope.names.lookup y=some (if (NameKind.free == NameKind.free && X.env.scope.kind == .function && X.env.kindOf y == some .cell) then NameKind.cell else NameKind.free):=by
      rw [look y,e]; rfl
     by_cases c:(NameKind.free == NameKind.free && X.env.scope.kind == .function && X.env.kindOf y == some .cell)=true
     ·rw [if_pos c] at hk'; exact .inl hk'
     ·rw [if_neg c] at hk'; exact .inr hk'
    ·rcases l with ⟨lk,_⟩ | ⟨_,c,hc,hcell⟩
     ·exfalso
      rcases kd with z | z <;> (rw [show X.env.kindOf y=some NameKind.local from lk] at z; cases z)
     ·obtain ⟨c',hc'⟩:=Option.isSome_iff_exists.mp (EY X.env scope.names [] y hm (by rw [hc]; rfl))
      have:=cl y c' hc'
      rw [hc] at this
      cases this
      exact ⟨c,hc',cellK c _ hcell⟩
 ·obtain ⟨v,z⟩:=I.cell y c (cl y c e)
  exact ⟨v,cellK c v z⟩
 ·show (none::none::σ).length=(x::z::X.N).length
  simp [I.len]
end
noncomputable def Jo (J:It) (σ:St) (H1:Hp) (Q:VK) (g:TG) (tt:TT) (te:TE):Prop:=∀ D,H1 D=none->∃ W:Nat->Nat->List V->Hp->Prop,(∃ m,W 0 m [] (upd H1 D (.lst [])))/\∀ i m ys H2,W i m ys H2 ->
 (J.stop i H2/\Q (.ref D) H2) \/ (J.go i H2/\∀ x H3,J.yld i H2 x H3->∀ v0 v1,g x (v0::v1::σ) H3 fun σ' H3'=>(∃ w0 w1,σ'=w0::w1::σ)/\tt σ' H3' fun b H4 =>
  if b=true then te σ' H4 fun y H5=>H5 D=some (.lst ys)/\ys.length<sizeLine/\∃ m',m'<m/\W (i+1) m' (ys++[y]) (upd H5 D (.lst (ys++[y])))
  else ∃ m',m'<m/\W (i+1) m' ys H4)
noncomputable def Qe (wi:TI) (g:TG) (tt:TT) (te:TE):TE:=fun σ H Q=>wi σ H fun J H1=>Jo J σ H1 Q g tt te
section
variable {X:Cx} {x z:Str} {scope:Scope}
theorem KZ {tg:Expr} {pos:Pos} {iter elt:Expr} {ifs:List Expr} {g:TG} {tt:TT} {te:TE} {pins:List (Addr × Obj)} {σ:St} {s2:Shared} {H2:Hp} {it:Addr} {fp:List Addr} {tn:Nat->Heap->Prop} {J:It} {E:Value->Shared->Prop}
  {RR:Value->Addr->Result->Shared->Prop} {Q:VK}
  (hc:X.calm=true) (S:D_ X x z scope) (hg:∀ C s₀ H₀ fp,PG (Bj X x z scope C s₀ H₀ fp) tg g) (ht:∀ C s₀ H₀ fp,Ko (Bj X x z scope C s₀ H₀ fp) ifs tt) (he:∀ C s₀ H₀ fp,PE (Bj X x z scope C s₀ H₀ fp) elt te)
  (I2:Inv X pins σ H2 s2) (T:Turn X.prog X.w X.K tg J fp it tn) (st2:tn 0 s2.heap) (f2:∀ b∈fp,Fl X pins H2 b) (q:Jo J σ H2 Q g tt te)
  (hRR:∀ D C s' H' m,s'.heap.Ns C m->Fl X pins H' C->Inv X pins σ H' s'->Q (.ref D) H'->RR (.ref D) C (.ok .next) s') :
  wpAny (model X.prog X.w) X.A (newList []) (fun acc s₃=>wpAny (model X.prog X.w) X.A (newFunctionEnv scope X.env.globals (Cu X.env scope.names []) [] X.env.qual none .none (some X.env)) (fun cenv s₄ =>
   codeAny (model X.prog X.w) X.A (.compStart (.ListComp elt [⟨tg,iter,ifs,0⟩] scope pos) 0 (.ref it) acc { cenv with scope:=relabel scope X.env }) (RR acc cenv.locals) s₄) E s₃) E s2:=by
 refine wpAny_newObj_type (wpAny_newFunctionEnv S.nocell (by intro y hy; simp at hy) (fun h₁ hns₁ hsb₁=>?_) S.kind)
 have I3:=I2.VN (its:=[]) (ys:=[]) (t':=s2.toks) .nil (Nat.zero_le _)
 have hD0:H2 s2.heap.objs.size=none:=I2.fresh
 obtain ⟨W,⟨m0,w0⟩,turn⟩:=q _ hD0
 generalize hs3:({ s2 with heap:=s2.heap.push { cls:=.type "list",data:=.seq ([]:List Value).toArray },toks:=s2.toks }:Shared)=s3 at I3
 have e3:s3.heap=s2.heap.push { cls:=.type "list",data:=.seq ([]:List Value).toArray }:=by rw [← hs3]
 have hlt:∀ b∈fp,b<s2.heap.objs.size:=fun b hb=>let ⟨_,e,_⟩:=T.obj _ _ st2 b hb; Heap.lt_size e
 have hlt3:∀ b∈fp,b<s3.heap.objs.size:=fun b hb=>by rw [e3,Heap.size_push]; exact Nat.lt_succ_of_lt (hlt b hb)
 have f3:∀ b∈fp,Fl X pins (upd H2 s2.heap.objs.size (.lst [])) b:=fun b hb=>⟨by rw [An (Nat.ne_of_lt (hlt b hb))]; exact (f2 b hb).1,(f2 b hb).2⟩
 have hk1:∀ b o,s3.heap.get? b=some o->h₁.get? b=some o:=fun b o e=>by
  have hne:b ≠ s3.heap.objs.size:=Nat.ne_of_lt (Heap.lt_size e)
  rw [e3] at e hne
  exact hsb₁.extBut b o hne (Heap.get?_push_of_some _ e)
 have hC:s3.heap.objs.size=(s2.heap.push { cls:=.type "list",data:=.seq ([]:List Value).toArray }).objs.size:=by rw [e3]
 have hns:h₁.Ns s3.heap.objs.size (fun x=>([]:List (Str × Value)).reverse.lookup x):=by rw [hC]; exact hns₁
 have st3:tn 0 h₁:=T.keep _ _ _ st2 fun b hb o e=>hk1 b o (by rw [e3]; exact Heap.get?_push_of_some _ e)
 have start:∀ tk,Inv (Bj X x z scope s3.heap.objs.size s3 (upd H2 s2.heap.objs.size (.lst [])) fp) [] (none::none::σ) (upd H2 s2.heap.objs.size (.lst [])) { s3 with heap:=h₁,toks:=tk }:=fun tk =>
  Kv I3 S f3 hlt3 (Nat.le_refl _) hns hk1
 have loop:∀ tk,codeAny (model X.prog X.w) X.A (.compLoop (.ListComp elt [⟨tg,iter,ifs,0⟩] scope pos) 0 (.ref it) (.ref s2.heap.objs.size) (compEnvC scope (Cu X.env scope.names []) s3.heap.objs.size X.env))
   (RR (.ref s2.heap.objs.size) s3.heap.objs.size) { s3 with heap:=h₁,toks:=tk }:=by
  intro tk
  refine RC (fun n s'=>∃ i ys v0 v1 H',Inv (Bj X x z scope s3.heap.objs.size s3 (upd H2 s2.heap.objs.size (.lst [])) fp) [] (v0::v1::σ) H' s'/\tn i s'.heap/\(∀ b∈fp,H' b=none)/\W i n ys H') rfl ?_ m0
   ⟨0,[],none,none,_,start tk,st3,fun b hb=>(f3 b hb).1,w0⟩
  rintro n s4 ⟨i,ys,v0,v1,H4,I4,st4,fr4,w4⟩
  have stat:∀ {H':Hp},(∀ b∈fp,H' b=none)->∀ b∈fp,Fl (Bj X x z scope s3.heap.objs.size s3 (upd H2 s2.heap.objs.size (.lst [])) fp) [] H' b:=fun hn b hb=>by
   refine ⟨hn b hb,(I4.ok.exf b hb).1,I4.ok.exfs b hb,.inl hb,(I4.ok.exf b hb).2,fun p hp=>absurd (show p∈([]:List (Addr × Obj)) from hp) (by simp)⟩
  rcases turn i n ys H4 w4 with ⟨stop,qn⟩ | ⟨go,step⟩
  ·refine CP (T.done (Bj X x z scope s3.heap.objs.size s3 (upd H2 s2.heap.objs.size (.lst [])) fp) rfl rfl rfl hc i [] s4 (v0::v1::σ) H4 _ I4 (stat fr4) st4 stop) fun r s5 ⟨hr,I5⟩=>?_
   subst hr
   obtain ⟨m,hn,_⟩:=I5.loc
   refine hRR _ _ s5 H4 m hn (I3.Jr (Nat.le_refl _) I5.free) (I3.call' (s':=s5) (ch:=fp) I5.os I5.base I5.hok I5.bare (fun b hb=>?_)) qn
   obtain ⟨_,g1,_,g3,g4,g5⟩:=f3 b hb
   exact ⟨g3,g1,g4,g5⟩
  ·refine CP (T.item (Bj X x z scope s3.heap.objs.size s3 (upd H2 s2.heap.objs.size (.lst [])) fp) rfl rfl rfl hc i [] s4 (v0::v1::σ) H4 _ I4 (stat fr4) st4 go) fun r s5 ⟨u,hr,h5⟩=>?_
   subst hr
   refine CP h5 fun _ s6 h6=>?_
   obtain ⟨xv,H6,I6,r6,y6,st6,fr6⟩:=h6
   have I6':=I6.pinned (stat fr6) (T.obj _ _ st6)
   have again:∀ {s7:Shared} {H7:Hp} {ys':List V} {w0 w1:Option V},Inv (Bj X x z scope s3.heap.objs.size s3 (upd H2 s2.heap.objs.size (.lst [])) fp) ([]++Hi fp s6.heap) (w0::w1::σ) H7 s7->(∃ m',m'<n/\W (i+1) m' ys' H7) ->
     ∃ m,m<n/\∃ i ys v0 v1 H',Inv (Bj X x z scope s3.heap.objs.size s3 (upd H2 s2.heap.objs.size (.lst [])) fp) [] (v0::v1::σ) H' s7/\tn i s7.heap/\(∀ b∈fp,H' b=none)/\W i m ys H':=fun {s7 H7 ys' w0 w1} I7 hw=>by
    obtain ⟨m',hm,w7⟩:=hw
    refine ⟨m',hm,i+1,ys',w0,w1,H7,I7.GX,T.keep _ _ _ st6 fun b hb o e=>(I7.pin (b,o) (List.mem_append_right _ (List.mem_append_right _ (Ea hb e)))).1,fun b hb=>?_,w7⟩
    obtain ⟨o,e,d⟩:=T.obj _ _ st6 b hb
    exact (I7.pin (b,o) (List.mem_append_right _ (List.mem_append_right _ (Ea hb e)))).2.1
   refine LC (hg _ _ _ _ _ s6 (v0::v1::σ) H6 xv u _ I6' r6 (step xv H6 y6 v0 v1)) fun _ s7 ⟨σ7,H7,I7,⟨w0,w1,e7⟩,q7⟩=>?_
   subst e7
   refine LC (ht _ _ _ _ _ s7 (w0::w1::σ) H7 _ I7 q7) fun b s8 hq0=>?_
   obtain ⟨H8,I8,q8⟩:=hq0
   cases b with
   | false =>
    rw [if_neg Bool.false_ne_true] at q8 ⊢
    exact again I8 q8
   | true =>
    rw [if_pos rfl] at q8 ⊢
    refine LC (he _ _ _ _ _ s8 (w0::w1::σ) H8 _ I8 q8) fun y s9 hq0=>?_
    obtain ⟨yv,H9,I9,r9,hD9,hz9,q9⟩:=hq0
    refine LC (Bu (X:=Bj X x z scope s3.heap.objs.size s3 (upd H2 s2.heap.objs.size (.lst [])) fp) _ s9 (w0::w1::σ) H9 (.ref s2.heap.objs.size) [yv] (.ref s2.heap.objs.size) [y] (fun _ H'=>H'=upd H9 s2.heap.objs.size (.lst (ys++[yv]))) I9 rfl (.cons r9 .nil)
     ⟨_,ys,yv,rfl,rfl,hD9,hz9,rfl⟩) fun _ s10 ⟨_,H10,I10,_,e10⟩=>?_
    subst e10
    exact again I10 q9
 have key:=fun tk=>codeAny_compStart_list (R:=RR (.ref s2.heap.objs.size) s3.heap.objs.size) (loop tk) (T.self X.A 0 { s3 with heap:=h₁,toks:=tk } (fun it' s'=>codeAny (model X.prog X.w) X.A (.compLoop (.ListComp elt [⟨tg,iter,ifs,0⟩] scope pos) 0 it' (.ref s2.heap.objs.size) (compEnvC scope (Cu X.env scope.names []) s3.heap.objs.size X.env)) (RR (.ref s2.heap.objs.size) s3.heap.objs.size) s') _ st3 (loop tk))
 subst hs3
 exact key _
theorem Ph {tg:Expr} {pos:Pos} {iter elt:Expr} {ifs:List Expr} {wi:TI} {g:TG} {tt:TT} {te:TE} (hc:X.calm=true) (S:D_ X x z scope) (hi:PI X tg iter wi) (hg:∀ C s₀ H₀ fp,PG (Bj X x z scope C s₀ H₀ fp) tg g)
  (ht:∀ C s₀ H₀ fp,Ko (Bj X x z scope C s₀ H₀ fp) ifs tt) (he:∀ C s₀ H₀ fp,PE (Bj X x z scope C s₀ H₀ fp) elt te) (hs:∀ x,foldedSetIterable iter X.env x=pure x:=by intro _; rfl) :
  PE X (.ListComp elt [⟨tg,iter,ifs,0⟩] scope pos) (Qe wi g tt te):=by
 intro pins s σ H Q I h
 rw [eval_ListComp]
 refine wpAny_comprehension_free (use:=none) (cl:=Cu X.env scope.names []) rfl hs (Gw fun y hy hk=>I.ok.has y.1 (S.free y hy hk)) S.kind S.names (CP (hi pins s σ H _ I h) fun v s1 h1=>CP h1 fun itv s2 h2=>?_)
 obtain ⟨it,fp,tn,J,H2,e,I2,T,st2,f2,q⟩:=h2
 subst e
 refine KZ (RR:=fun acc C=>compPost (model X.prog X.w) X.A X.xe none (EP X pins σ Q) acc C) (Q:=Q) hc S hg ht he I2 T st2 f2 q ?_
 intro D C s' H' m hn hf hI hq
 exact ⟨m,hn,fun h' sb=>⟨.ref D,H',hI.sameBut hf sb,rfl,hq⟩⟩
end
end L2
namespace L2
open PySem PySem.Spec PySem.Calls PyProof.Rows
theorem Am.tup {K:PySem.W.Frag} {H H':Hp} {a:Addr} {xs:List V} (e:Am H H') (h:FW K H a xs):FW K H' a xs:=by
 rcases h with (h | ⟨o,h⟩) | h
 ·exact .inl (.inl (e _ _ h))
 ·exact .inl (.inr ⟨o,e _ _ h⟩)
 ·exact .inr h
noncomputable def TupAt (H:Hp) (zs:List V) (y:V):Prop:=∃ T,y=.ref T/\H T=some (.tup zs)
theorem TupAt.mono {H H':Hp} {zs:List V} {y:V} (s:Am H H') (h:TupAt H zs y):TupAt H' zs y:=let ⟨T,e,q⟩:=h; ⟨T,e,s _ _ q⟩
theorem TupAt.upd {H:Hp} {zs ys ws:List V} {y:V} {D:Addr} (h:TupAt H zs y) (hD:H D=some (.lst ys)):TupAt (upd H D (.lst ws)) zs y:=by
 obtain ⟨T,e,q⟩:=h
 refine ⟨T,e,?_⟩
 rw [An fun z=>by rw [z,hD] at q; cases q]
 exact q
theorem BL {α:Type} {H:Hp} {f:α->List V} {l:List α} {vs ys ws:List V} {D:Addr} (h:Paired (fun a y=>TupAt H (f a) y) l vs) (hD:H D=some (.lst ys)):Paired (fun a y=>TupAt (upd H D (.lst ws)) (f a) y) l vs:=Paired.Ez h fun _ _ q=>q.upd hD
theorem Ah {α:Type} {H H':Hp} {f:α->List V} {l:List α} {vs:List V} (s:Am H H') (h:Paired (fun a y=>TupAt H (f a) y) l vs):Paired (fun a y=>TupAt H' (f a) y) l vs:=Paired.Ez h fun _ _ q=>q.mono s
noncomputable def KQ (x z:Str) (scope osc:Scope) (N:List Str):Bool :=
 (scope.kind == .function) && scope.names.all (fun y=>y.2 != .cell && (y.2 != .local || scope.names.lookup y.1 == some .local) && (y.2 != .free || osc.names.lookup y.1 == some .cell || osc.names.lookup y.1 == some .free)) && (scope.names.lookup x == some .local) && (scope.names.lookup z == some .local) &&
 decide ((x::z::N).Nodup) && N.all (fun y=>scope.names.lookup y != some .local)
theorem LR {X:Cx} {x z:Str} {scope osc:Scope} {N:List Str} (hsc:X.env.scope=osc) (hN:X.N=N) (h:KQ x z scope osc N=true):D_ X x z scope:=by
 unfold KQ at h
 simp only [Bool.and_eq_true] at h
 obtain ⟨⟨⟨⟨⟨h1,h2⟩,h3⟩,h3'⟩,h4⟩,h5⟩:=h
 rw [List.all_eq_true] at h2 h5
 have kind:∀ y,X.env.kindOf y=osc.names.lookup y:=fun y=>by show X.env.scope.names.lookup y=_; rw [hsc]
 refine ⟨by simpa using h1,fun y hy=>?_,fun y hy hk=>?_,by simpa using h3,by simpa using h3',fun y hy hk=>?_,by rw [hN]; exact of_decide_eq_true h4,fun y hy=>?_⟩
 ·have:=h2 y hy
  simp only [Bool.and_eq_true,bne_iff_ne] at this
  exact this.1.1
 ·have:=h2 y hy
  simp only [Bool.and_eq_true] at this
  simpa [hk] using this.1.2
 ·have:=h2 y hy
  simp only [Bool.and_eq_true] at this
  rw [kind]
  simpa [hk] using this.2
 ·have:=h5 y (by rw [← hN]; exact hy)
  simpa using this
section
variable {X:Cx} {x z:Str} {scope:Scope}
theorem Q4 {px pz pos:Pos} {k:Nat} {C:Addr} {s₀:Shared} {H₀:Hp} {fp:List Addr} (hc:X.calm=true) (S:D_ X x z scope) :
  PG (Bj X x z scope C s₀ H₀ fp) (.Tuple [.Name x px,.Name z pz] k pos) (RQ X.K 2 (Iw (DR 0) (Iw (DR 1) RK))):=by
 have l1:(Bj X x z scope C s₀ H₀ fp).env.scope.names.lookup x=some .local:=lookup_relabel_local S.loc
 have l2:(Bj X x z scope C s₀ H₀ fp).env.scope.names.lookup z=some .local:=lookup_relabel_local S.loz
 exact J7 (X:=Bj X x z scope C s₀ H₀ fp) (n:=2) hc (Ec (CK (X:=Bj X x z scope C s₀ H₀ fp) (i:=0) S.nd rfl (.inl l1) (.inr l1)) (Ec (CK (X:=Bj X x z scope C s₀ H₀ fp) (i:=1) S.nd rfl (.inl l2) (.inr l2)) Ia))
theorem RZ {px pz tpos:Pos} {k:Nat} {pos:Pos} {iter elt:Expr} {ifs:List Expr} {wi:TI} {tt:TT} {te:TE} (hc:X.calm=true) (S:D_ X x z scope) (hi:PI X (.Tuple [.Name x px,.Name z pz] k tpos) iter wi)
  (ht:∀ C s₀ H₀ fp,Ko (Bj X x z scope C s₀ H₀ fp) ifs tt) (he:∀ C s₀ H₀ fp,PE (Bj X x z scope C s₀ H₀ fp) elt te) (hs:∀ x,foldedSetIterable iter X.env x=pure x:=by intro _; rfl) :
  PE X (.ListComp elt [⟨.Tuple [.Name x px,.Name z pz] k tpos,iter,ifs,0⟩] scope pos) (Qe wi (RQ X.K 2 (Iw (DR 0) (Iw (DR 1) RK))) tt te) :=
 Ph hc S hi (fun _ _ _ _=>Q4 hc S) ht he hs
end
section
variable {σ:St} {H1:Hp} {Q:VK} {tt:TT} {te:TE}
theorem CN {K:PySem.W.Frag} {a:Addr} {xs:List V} (p:V->Bool) (f:V->V) (hl:Cm K H1 a xs) (hz:xs.length<sizeLine)
  (ht:∀ x∈xs,∀ H,Am H1 H->∀ R:Bool->Hp->Prop,(∀ H',Am H H'->R (p x) H')->tt (some x::σ) H R)
  (he:∀ x∈xs,p x=true->∀ H,Am H1 H->∀ R:VK,(∀ H',Am H H'->R (f x) H')->te (some x::σ) H R)
  (hq:∀ D H,H1 D=none->Am H1 H->H D=some (.lst ((xs.filter p).map f))->Q (.ref D) H):Fe (Uv K a) σ H1 Q tt te :=
 GP p f hz (fun i H x hs hx=>⟨xs,x,hs.seq hl,hx⟩) (fun i H y H' hs _ hy=>⟨hy.1,hy.2 xs (hs.seq hl)⟩) (fun H hs=>⟨xs,hs.seq hl,Nat.le_refl _⟩) ht he hq
theorem JV {J:It} {xs:List V} (p:V->Bool) (f:V->List V) (hz:xs.length<sizeLine)
  (hgo:∀ i H x,Am H1 H->xs[i]? = some x->J.go i H) (hy:∀ i H y H',Am H1 H->i<xs.length->J.yld i H y H'->H'=H/\xs[i]? = some y) (hstop:∀ H,Am H1 H->J.stop xs.length H)
  (ht:∀ x∈xs,∀ H,Am H1 H->∀ R:Bool->Hp->Prop,(∀ H',Am H H'->R (p x) H')->tt (some x::σ) H R)
  (he:∀ x∈xs,p x=true->∀ H,Am H1 H->∀ R:VK,(∀ y H',Am H H'->TupAt H' (f x) y->R y H')->te (some x::σ) H R)
  (hq:∀ D H ys,H1 D=none->Am H1 H->H D=some (.lst ys)->Paired (fun x y=>TupAt H (f x) y) (xs.filter p) ys->Q (.ref D) H):Fe J σ H1 Q tt te:=by
 intro D hD
 have s0:Am H1 (upd H1 D (.lst [])):=fun b o e=>by rw [An (Aq e hD)]; exact e
 refine ⟨fun i m ys H=>m=xs.length - i/\i<=xs.length/\H D=some (.lst ys)/\Paired (fun x y=>TupAt H (f x) y) ((xs.take i).filter p) ys/\Am H1 H,⟨xs.length,by simp,Nat.zero_le _,Af,by simpa using Paired.nil,s0⟩,?_⟩
 rintro i m ys H ⟨rfl,hi,hd,hp,hs⟩
 by_cases hlt:i<xs.length
 ·obtain ⟨x,hx⟩:∃ x,xs[i]? = some x:=⟨xs[i],by simp [hlt]⟩
  refine .inr ⟨hgo i H x hs hx,fun y H3 hyl=>?_⟩
  obtain ⟨rfl,hy'⟩:=hy i H y H3 hs hlt hyl
  rw [hx] at hy'
  cases hy'
  have hm:x∈xs:=List.mem_of_getElem? hx
  have hlen:ys.length<sizeLine:=by
   rw [← hp.length]
   refine Nat.lt_of_le_of_lt (List.length_filter_le _ _) (Nat.lt_of_le_of_lt ?_ hz)
   rw [List.length_take]; omega
  refine ht x hm _ hs _ fun H4 s4=>?_
  by_cases hpx:p x=true
  ·rw [if_pos hpx]
   refine he x hm hpx H4 (hs.trans s4) _ fun y H5 s5 hφ=>?_
   refine ⟨s5 _ _ (s4 _ _ hd),hlen,xs.length - (i+1),by omega,rfl,hlt,Af,?_,fun b o e=>?_⟩
   ·rw [take_succ_filter p xs i x hx,if_pos hpx]
    exact (BL (Ah (s4.trans s5) hp) (s5 _ _ (s4 _ _ hd))).snoc (hφ.upd (s5 _ _ (s4 _ _ hd)))
   ·rw [An (Aq e hD)]; exact s5 _ _ (s4 _ _ (hs _ _ e))
  ·rw [if_neg hpx]
   refine ⟨xs.length - (i+1),by omega,rfl,hlt,s4 _ _ hd,?_,hs.trans s4⟩
   rw [take_succ_filter p xs i x hx,if_neg hpx,List.append_nil]
   exact Ah s4 hp
 ·have e:i=xs.length:=by omega
  subst e
  rw [List.take_length] at hp
  exact .inl ⟨hstop H hs,hq D H ys hD hs hd hp⟩
theorem KR {K:PySem.W.Frag} {a:Addr} {xs:List V} (p:V->Bool) (f:V->List V) (hl:Cm K H1 a xs) (hz:xs.length<sizeLine)
  (ht:∀ x∈xs,∀ H,Am H1 H->∀ R:Bool->Hp->Prop,(∀ H',Am H H'->R (p x) H')->tt (some x::σ) H R)
  (he:∀ x∈xs,p x=true->∀ H,Am H1 H->∀ R:VK,(∀ y H',Am H H'->TupAt H' (f x) y->R y H')->te (some x::σ) H R)
  (hq:∀ D H ys,H1 D=none->Am H1 H->H D=some (.lst ys)->Paired (fun x y=>TupAt H (f x) y) (xs.filter p) ys->Q (.ref D) H):Fe (Uv K a) σ H1 Q tt te :=
 JV p f hz (fun i H x hs hx=>⟨xs,x,hs.seq hl,hx⟩) (fun i H y H' hs _ hy=>⟨hy.1,hy.2 xs (hs.seq hl)⟩) (fun H hs=>⟨xs,hs.seq hl,Nat.le_refl _⟩) ht he hq
theorem J5 {α β:Type} {F:α->β->Prop} (g:Nat->α):∀ {n:Nat} {l:List α} {ys:List β},Paired F l ys->l=(List.range n).map g->Paired (fun i y=>F (g i) y) (List.range n) ys:=by
 intro n
 have key:∀ (js:List Nat) (ys:List β),Paired F (js.map g) ys->Paired (fun i y=>F (g i) y) js ys:=by
  intro js
  induction js with
  | nil=>intro ys h; cases h; exact .nil
  | cons j js ih =>
   intro ys h
   cases h with
   | cons a b=>exact .cons a (ih _ b)
 intro l ys h e
 subst e
 exact key _ _ h
theorem Ov {n:Nat} (f:Nat->List V) (hz:n<sizeLine)
  (he:∀ i:Nat,i<n->∀ H,Am H1 H->∀ R:VK,(∀ y H',Am H H'->TupAt H' (f i) y->R y H')->te (some (.int (i:Int))::σ) H R)
  (hq:∀ D H ys,H1 D=none->Am H1 H->H D=some (.lst ys)->Paired (fun i y=>TupAt H (f i) y) (List.range n) ys->Q (.ref D) H):Fe (SJ 0 n) σ H1 Q RT te:=by
 let g:V->Nat:=fun v=>match v with | .int i=>i.toNat | _=>0
 have hxs:∀ i:Nat,i<n->((List.range n).map fun (i:Nat)=>V.int (i:Int))[i]? = some (.int i):=fun i hi=>by simp [hi]
 refine JV (xs:=(List.range n).map fun (i:Nat)=>V.int (i:Int)) (fun _=>true) (fun v=>f (g v)) (by simpa using hz) (fun i H x _ hx=>?_) (fun i H y H' _ hi hy=>?_) (fun H _=>?_) (fun x hx H hs R k=>k H (Am.refl H)) (fun x hx _ H hs R k=>?_) (fun D H ys h1 h2 h3 h4=>?_)
 ·have:i<((List.range n).map fun (i:Nat)=>V.int (i:Int)).length:=(List.getElem?_eq_some_iff.mp hx).1
  show i<n
  simpa using this
 ·obtain ⟨e1,e2⟩:=hy
  have hi':i<n:=by simpa using hi
  refine ⟨e1,?_⟩
  rw [hxs i hi',e2,Int.zero_add]
 ·show n<=_
  simp
 ·obtain ⟨i,hi,rfl⟩:=List.mem_map.mp hx
  exact he i (List.mem_range.mp hi) H hs R k
 ·rw [List.filter_eq_self.mpr (fun _ _=>rfl)] at h4
  exact hq D H ys h1 h2 h3 (J5 (F:=fun x y=>TupAt H (f (g x)) y) (fun i=>V.int (i:Int)) h4 rfl)
theorem Qu {K:PySem.W.Frag} {a b:Addr} {xs ys:List V} (f:V->V->V) (hx:FW K H1 a xs) (hy:FW K H1 b ys) (hl:xs.length=ys.length) (hz:xs.length<sizeLine)
  (he:∀ (i:Nat) x y,xs[i]? = some x->ys[i]? = some y->∀ H,Am H1 H->∀ R:VK,(∀ H',Am H H'->R (f x y) H')->te (some x::some y::σ) H R)
  (hq:∀ D H,H1 D=none->Am H1 H->H D=some (.lst (List.zipWith f xs ys))->Q (.ref D) H):Jo (aY K a b) σ H1 Q (RQ K 2 (Iw (DR 0) (Iw (DR 1) RK))) RT te:=by
 intro D hD
 have s0:Am H1 (upd H1 D (.lst [])):=fun b o e=>by rw [An (Aq e hD)]; exact e
 refine ⟨fun i m zs H=>m=xs.length - i/\i<=xs.length/\zs=(List.zipWith f xs ys).take i/\H D=some (.lst zs)/\Am H1 H,⟨xs.length,by simp,Nat.zero_le _,by simp,Af,s0⟩,?_⟩
 rintro i m zs H ⟨rfl,hi,rfl,hd,hs⟩
 have hzl:(List.zipWith f xs ys).length=xs.length:=by rw [List.length_zipWith]; omega
 by_cases hlt:i<xs.length
 ·have ex:xs[i]? = some xs[i]:=List.getElem?_eq_getElem hlt
  have ey:ys[i]? = some ys[i]:=List.getElem?_eq_getElem (hl ▸ hlt)
  refine .inr ⟨⟨xs,ys,_,_,hs.tup hx,hs.tup hy,ex,ey⟩,fun v H3 hv v0 v1=>?_⟩
  obtain ⟨T,hT,rfl,hv⟩:=hv
  obtain ⟨x,y,qx,qy,rfl⟩:=hv xs ys (hs.tup hx) (hs.tup hy)
  have s3:Am H (upd H T (.tup [x,y])):=fun b o e=>by rw [An (Aq e hT)]; exact e
  refine ⟨T,[x,y],rfl,.inl (.inl Af),rfl,x,[y],rfl,y,[],rfl,rfl,⟨_,_,rfl⟩,?_⟩
  unfold RT
  dsimp only
  rw [if_pos rfl]
  refine he i x y qx qy _ (hs.trans s3) _ fun H5 s5=>?_
  refine ⟨s5 _ _ (s3 _ _ hd),?_,xs.length - (i+1),by omega,rfl,hlt,?_,Af,fun b o e=>?_⟩
  ·rw [List.length_take,hzl]
   omega
  ·rw [List.take_add_one,List.getElem?_zipWith,qx,qy]
   rfl
  ·rw [An (Aq e hD)]
   exact s5 _ _ (s3 _ _ (hs _ _ e))
 ·have e:i=xs.length:=by omega
  subst e
  rw [← hzl,List.take_length] at hd
  exact .inl ⟨⟨xs,hs.tup hx,Nat.le_refl _⟩,hq D H hD hs hd⟩
end
theorem Iv {K:PySem.W.Frag} {a:Addr} {xs:List V} {g:TG} {tb:TS} {D:Ends} {σ:St} {H:Hp} (Pv:Nat->St->Hp->Prop) (h0:Pv 0 σ H) (hl:∀ i σ H,i<=xs.length->Pv i σ H->Cm K H a xs)
  (hb:∀ (i:Nat) x σ H T,xs[i]? = some x->Pv i σ H->H T=none->g (.ref T) σ (upd H T (.tup [.int (i:Int),x])) fun σ' H'=>tb { D with nx:=Pv (i+1),ct:=Pv (i+1),bk:=D.nx } σ' H')
  (hn:∀ σ H,Pv xs.length σ H->D.nx σ H):∃ W:Nat->Nat->St->Hp->Prop,(∃ m,W 0 m σ H)/\∀ i m σ H,W i m σ H ->
   ((Y6 K a).stop i H/\D.nx σ H) \/ ((Y6 K a).go i H/\∃ N:St->Hp->Prop,(∀ σ H,N σ H->∃ m',m'<m/\W (i+1) m' σ H)/\∀ x H',(Y6 K a).yld i H x H'->g x σ H' fun σ' H''=>tb { D with nx:=N,ct:=N,bk:=D.nx } σ' H''):=by
 refine ⟨fun i m σ H=>m=xs.length - i/\i<=xs.length/\Pv i σ H,⟨_,rfl,Nat.zero_le _,h0⟩,?_⟩
 rintro i m σ H ⟨rfl,hi,hp⟩
 by_cases hlt:i<xs.length
 ·refine .inr ⟨⟨xs,_,hl i σ H hi hp,List.getElem?_eq_getElem hlt⟩,Pv (i+1),fun σ' H' h=>⟨xs.length - (i+1),by omega,rfl,hlt,h⟩,fun v H' hv=>?_⟩
  obtain ⟨T,hT,rfl,hv⟩:=hv
  obtain ⟨x,qx,rfl⟩:=hv xs (hl i σ H hi hp)
  exact hb i x σ H T qx hp hT
 ·have e:i=xs.length:=by omega
  subst e
  exact .inl ⟨⟨xs,hl _ σ H hi hp,Nat.le_refl _⟩,hn σ H hp⟩
end L2
namespace L2
open PySem PySem.Spec PySem.Calls PyProof.Rows
section
variable {prog:Program} {w:World} {A:Around} {E:Value->Shared->Prop} {s:Shared} {K:PySem.W.Frag} {x C:Addr} {ox:Obj} {od:Option Obj} {name:Str} {tk:Tok} {R:Result->Shared->Prop}
end
end L2
namespace L2
open PySem PySem.Spec PySem.Calls PyProof.Rows
section
variable {prog:Program} {w:World} {A:Around} {E:Value->Shared->Prop} {K:PySem.W.Frag} {C:Addr} {h:Heap} {g:Array GenState} {d:Drawn} {t:Nat} {os:OsState}
end
end L2
namespace L2
open PySem PySem.Spec PySem.Calls PyProof.Rows
noncomputable def ZG (x C:Addr) (od:Option Addr):HO:=.ext fun h=>∃ (d:Data) (sl:Array (Option Value)),h.get? x=some ⟨.ref C,od,d,sl⟩/\PySem.W.notCls ⟨.ref C,od,d,sl⟩=true
noncomputable def dq (dx:Addr) (fs:List (Str × V)):HO:=.ext fun h=>∃ mA,h.Ns1 dx mA/\∀ f,Fd (fs.lookup f) (mA f)
section
variable {P:Program} {w:World} {H H':Hp} {h:Heap} {x C dx:Addr} {od:Option Addr} {fs:List (Str × V)}
inductive Sd (H:Hp) (x C:Addr):List (Str × V)->Prop where
 | bare (e:H x=some (ZG x C none)):Sd H x C []
 | full {dx:Addr} {fs:List (Str × V)} (e:H x=some (ZG x C (some dx))) (d:H dx=some (dq dx fs)):Sd H x C fs
end
section
variable {P:Program} {w:World} {X:Cx} {pins:List (Addr × Obj)} {σ:St} {H:Hp} {s:Shared} {h':Heap} {a:Addr} {o:HO}
end
section
variable {X:Cx} {C:Addr} {x:Str} {e:Expr} {es:List Expr} {t:TA} {p pos:Pos}
end
section
variable {X:Cx} {e:Expr} {f:Str} {pos:Pos} {ta:TE}
end
section
variable {prog:Program} {w:World} {A:Around} {E:Value->Shared->Prop} {s:Shared} {K:PySem.W.Frag} {x C:Addr} {name:Str} {v:Value} {R:Result->Shared->Prop} {d:Data} {sl:Array (Option Value)}
end
section
variable {X:Cx} {pins:List (Addr × Obj)} {σ:St} {H:Hp} {s:Shared} {h':Heap} {x C dx:Addr} {f:Str} {y:V} {u:Value}
end
section
variable {X:Cx} {o value:Expr} {f:Str} {pos pos':Pos} {ta tv:TE}
end
section
variable {X:Cx} {C f:Addr} {fd:FuncData} {ps:List Str} {sp:Sp} {k:Nat} {x:Str} {e:Expr} {es:List Expr} {t:TA} {p pos:Pos}
end
theorem Kr {x:V} (h:Dv x=true):KC x x=true:=by
 cases x with
 | non=>rfl
 | bl b=>simp [KC]
 | int i=>simp [KC]
 | str z=>simp [KC]
 | _=>exact absurd (show false=true from h) Bool.false_ne_true
section
variable {X:Cx}
theorem My {xs:List V} {j:Nat} (h:xs.all Dv=true) (hj:j<xs.length):Dv (xs.getD j .non)=true:=by
 have e:xs.getD j .non=xs[j]:=by simp [hj]
 rw [e]
 exact List.all_eq_true.mp h _ (List.getElem_mem hj)
theorem Dr {xs:List V} {us:List Value} {j:Nat} (r:Vals xs us) (hj:j<us.length):RelV (xs.getD j .non) us[j]:=by
 have hl:=r.length
 have hx:xs[j]? = some xs[j]:=by simp [hl,hj]
 obtain ⟨u,hu,ru⟩:=r.get hx
 rw [List.getElem?_eq_getElem hj] at hu
 cases hu
 have e:xs.getD j .non=xs[j]:=by simp [hl,hj]
 rw [e]
 exact ru
end
end L2
namespace Wd
noncomputable def mk (l:List Nat):Nat:=l.foldl (fun s n=>s ||| 2 ^ n) 0
noncomputable def len (n:Nat):Nat:=if n=0 then 0 else n.log2+1
noncomputable def mem (n:Nat):List Nat:=(List.range (len n)).filter n.testBit
noncomputable def stay (l:List Nat) (k:Int) (c:Nat):List Nat:=l.filter fun n=>decide (0<=(n:Int)+k) && decide ((n:Int)+k<c)
theorem Rx (l:List Nat) (n:Nat):mk (l++[n])=mk l ||| 2 ^ n:=by
 unfold mk; rw [List.foldl_append]; rfl
end Wd
namespace L2
open PySem PySem.Spec PySem.Calls PyProof.Rows
section
variable {X:Cx} {es:List Expr} {k1:Nat} {tpos:Pos}
end
theorem Q3 (a b:Nat):Builtin.bitOr (a:Int) (b:Int)=((a ||| b:Nat):Int):=by
 have h1:¬ 0<=Builtin.bitNot (a:Int):=by unfold Builtin.bitNot; omega
 have h2:¬ 0<=Builtin.bitNot (b:Int):=by unfold Builtin.bitNot; omega
 have nn:∀ x:Int,Builtin.bitNot (Builtin.bitNot x)=x:=fun x=>by unfold Builtin.bitNot; omega
 unfold Builtin.bitOr
 rw [bitAnd_nn h1 h2,nn,nn,nn]
 simp
theorem P_ (k:Nat):(2:Int) ^ k=((2 ^ k:Nat):Int):=by simp
end L2
namespace Wd
open PySem
noncomputable abbrev Q_ (xs:Array Nat):Prop:=xs.toList.Pairwise (· < ·)
theorem Ld {xs:Array Nat} (r:Q_ xs) {i k:Nat} (h:i<k) (hk:k<xs.size):xs.getD i 0<xs.getD k 0:=by
 have hi:i<xs.size:=Nat.lt_trans h hk
 have:=(List.pairwise_iff_getElem.mp r) i k (by simpa using hi) (by simpa using hk) h
 simpa [Array.getD,hi,hk] using this
structure Cut (xs:Array Nat) (j p:Nat):Prop where
 le:p<=xs.size
 lo:∀ i,i<p->xs.getD i 0<j
 hi:∀ i,p<=i->i<xs.size->j<=xs.getD i 0
theorem JG {xs:Array Nat} (r:Q_ xs) (j:Nat):∀ (fuel lo hi:Nat),hi<=xs.size->hi - lo<=fuel->lo<=hi->(∀ i,i<lo->xs.getD i 0<j)->(∀ i,hi<=i->i<xs.size->j<=xs.getD i 0)->Cut xs j (SetTable.below.go xs j fuel lo hi)
 | 0,lo,hi,h1,h2,h3,a,b=>by
  have e:lo=hi:=by omega
  subst e
  exact ⟨h1,a,b⟩
 | fuel+1,lo,hi,h1,h2,h3,a,b=>by
  unfold SetTable.below.go
  split
  ·rename_i hlt
   have hm:(lo+hi) / 2<xs.size:=by omega
   have e:xs.getD ((lo+hi) / 2) j=xs.getD ((lo+hi) / 2) 0:=by simp [Array.getD,hm]
   dsimp only
   rw [e]
   by_cases hj:xs.getD ((lo+hi) / 2) 0<j
   ·rw [if_pos hj]
    refine JG r j fuel ((lo+hi) / 2+1) hi h1 (by omega) (by omega) (fun i hi'=>?_) b
    by_cases q:i=(lo+hi) / 2
    ·rw [q]; exact hj
    ·have:=Ld r (i:=i) (k:=(lo+hi) / 2) (by omega) hm
     omega
   ·rw [if_neg hj]
    refine JG r j fuel lo ((lo+hi) / 2) (by omega) (by omega) (by omega) a fun i hi' hs=>?_
    by_cases q:i=(lo+hi) / 2
    ·rw [q]; omega
    ·have:=Ld r (i:=(lo+hi) / 2) (k:=i) (by omega) hs
     omega
  ·have e:lo=hi:=by omega
   subst e
   exact ⟨h1,a,b⟩
theorem Jg {xs:Array Nat} (r:Q_ xs) (j:Nat):Cut xs j (SetTable.below xs j) :=
 JG r j xs.size 0 xs.size (Nat.le_refl _) (by omega) (Nat.zero_le _) (fun i h=>absurd h (Nat.not_lt_zero _)) (fun i h1 h2=>absurd h2 (by omega))
theorem La {xs:Array Nat} {j:Nat} (r:Q_ xs) (h:xs[SetTable.below xs j]? ≠ some j):j ∉ xs.toList:=fun hm=>by
 have c:=Jg r j
 obtain ⟨i,hi,e⟩:=List.mem_iff_getElem.mp hm
 have hi':i<xs.size:=by simpa using hi
 have ei:xs.getD i 0=j:=by simpa [Array.getD,hi'] using e
 have h1:SetTable.below xs j<=i:=by
  rcases Nat.lt_or_ge i (SetTable.below xs j) with q | q
  ·have:=c.lo i q; omega
  ·exact q
 have h2:SetTable.below xs j<xs.size:=Nat.lt_of_le_of_lt h1 hi'
 have h3:=c.hi _ (Nat.le_refl _) h2
 have h4:SetTable.below xs j=i:=by
  rcases Nat.lt_or_ge (SetTable.below xs j) i with q | q
  ·have:=Ld r q hi'; omega
  ·omega
 refine h ?_
 have e':xs[i]=j:=by simpa [Array.getD,hi'] using ei
 rw [h4,Array.getElem?_eq_getElem hi',e']
theorem LQ {xs:Array Nat} {j:Nat} (r:Q_ xs) (h:xs[SetTable.below xs j]? ≠ some j):Q_ (SetTable.insertAt xs (SetTable.below xs j) j):=by
 have c:=Jg r j
 have nm:=La r h
 show (SetTable.insertAt xs (SetTable.below xs j) j).toList.Pairwise _
 rw [SetTable.toList_insertAt,List.pairwise_append,List.pairwise_cons]
 have lt1:∀ a∈xs.toList.take (SetTable.below xs j),a<j:=fun a ha=>by
  obtain ⟨i,hi,e⟩:=List.mem_iff_getElem.mp ha
  rw [List.length_take] at hi
  have hi2:i<xs.size:=by simp at hi; omega
  have:=c.lo i (by omega)
  simp [Array.getD,hi2] at this
  rw [List.getElem_take] at e
  rw [← e]
  simpa using this
 have lt2:∀ a∈xs.toList.drop (SetTable.below xs j),j<a:=fun a ha=>by
  obtain ⟨i,hi,e⟩:=List.mem_iff_getElem.mp ha
  rw [List.length_drop] at hi
  have hi2:SetTable.below xs j+i<xs.size:=by simp at hi; omega
  have:=c.hi (SetTable.below xs j+i) (Nat.le_add_right _ _) hi2
  simp [Array.getD,hi2] at this
  rw [List.getElem_drop] at e
  have hle:j<=a:=by rw [← e]; simpa using this
  have hne:j ≠ a:=fun z=>nm (by rw [z]; exact List.mem_of_mem_drop ha)
  omega
 exact ⟨r.sublist (List.take_sublist _ _),⟨lt2,r.sublist (List.drop_sublist _ _)⟩,fun a ha b hb=>by
  rcases List.mem_cons.mp hb with e | hb
  ·rw [e]; exact lt1 a ha
  ·have:=lt1 a ha; have:=lt2 b hb; omega⟩
theorem Nr {t:SetTable} {j:Nat} (h:∀ i,t.slot j ≠ .live i):t.place[SetTable.below t.place j]? ≠ some j:=fun e=>by
 refine h (SetTable.below t.place j) ?_
 unfold SetTable.slot
 dsimp only
 rw [e]
 simp
theorem Gr (t:SetTable) (p:SetTable.Probe):(t.advance p).dummy=p.dummy:=by
 unfold SetTable.advance
 split <;> rfl
theorem Gy {t:SetTable} {f:Nat->Int} {h:Int}:∀ (fuel:Nat) (p:SetTable.Probe) (j:Nat) (dm:Option Nat),(∀ d,p.dummy=some d->t.slot d=.dummy)->SetTable.probe.go t f h fuel p=some (.empty j dm) ->
  t.slot j=.empty/\∀ d,dm=some d->t.slot d=.dummy
 | 0,p,j,dm,hd,e=>by unfold SetTable.probe.go at e; cases e
 | fuel+1,p,j,dm,hd,e=>by
  unfold SetTable.probe.go at e
  split at e
  ·rename_i hs
   cases e
   exact ⟨hs,hd⟩
  ·rename_i hs
   refine Gy fuel _ j dm (fun d q=>?_) e
   rw [Gr] at q
   cases q
   exact hs
  ·split at e
   ·cases e
   ·refine Gy fuel _ j dm (fun d q=>?_) e
    rw [Gr] at q
    exact hd d q
theorem Oj {t:SetTable} {h:Int} {j:Nat} {d:Bool} (e:t.freeSlot h=some (j,d)):∀ i,t.slot j ≠ .live i:=by
 unfold SetTable.freeSlot at e
 split at e
 ·rename_i j' dm q
  unfold SetTable.probe at q
  obtain ⟨h1,h2⟩:=Gy _ _ _ _ (fun d hd=>by simp [SetTable.probeStart] at hd) q
  cases dm with
  | none=>cases e; intro i z; rw [show (none:Option Nat).getD j'=j' from rfl,h1] at z; cases z
  | some d' =>
   cases e
   intro i z
   rw [show (some d').getD j'=d' from rfl,h2 d' rfl] at z
   cases z
 ·cases e
structure Good (t:SetTable) (led:Bool):Prop where
 led:t.led=led
 ris:t.plain=true->Q_ t.place
theorem Li (led:Bool):Good (.fresh 0 0 led) led:=⟨rfl,fun _=>by simp [SetTable.fresh,Q_]⟩
theorem Ff {t:SetTable} {led:Bool} (g:Good t led) (n:Nat):Good (t.standIn n) led:=⟨g.led,fun h=>by simp [SetTable.standIn] at h⟩
theorem RM {t:SetTable} {led:Bool} (g:Good t led) (n:Nat):Good (t.orStandIn n) led:=by
 unfold SetTable.orStandIn
 split
 ·exact g
 ·exact Ff g n
theorem QL {t:SetTable} {led:Bool} (g:Good t led) (es:Array (Int × Value)) (h:Int) (x:Value):Good (layNew t es h x).2.1 led:=by
 unfold layNew
 split
 ·rename_i slot wd e
  refine RM (t:=(t.put slot).1) ⟨g.led,fun hp=>?_⟩ _
  exact LQ (g.ris hp) (Nr (Oj e))
 ·exact Ff g _
theorem Oi {mask finger moves:Nat} {led plain:Bool} {hs:Array Int} {t:SetTable} {o:Array Nat} (e:SetTable.laid mask finger moves led plain hs=some (t,o)):Good t led/\t.plain=plain:=by
 unfold SetTable.laid at e
 simp only [Option.bind_eq_bind,Option.bind_eq_some_iff] at e
 obtain ⟨owner,_,e⟩:=e
 cases e
 refine ⟨⟨rfl,fun _=>?_⟩,rfl⟩
 show List.Pairwise _ ((List.map _ _).toArray).toList
 rw [List.pairwise_map,List.pairwise_filterMap]
 refine List.pairwise_lt_range.imp fun {a b} hab x hx y hy=>?_
 obtain ⟨u,_,rfl⟩:=Option.map_eq_some_iff.mp hx
 obtain ⟨v,_,rfl⟩:=Option.map_eq_some_iff.mp hy
 exact hab
theorem MP {t:SetTable} {led:Bool} (g:Good t led) (es:Array (Int × Value)) (n:Nat):Good (relayAll t es n).2.1 led:=by
 unfold relayAll
 split
 ·rename_i t' order e
  dsimp only
  split
  ·have:=Oi e
   rw [g.led] at this
   exact this.1
  ·exact Ff g _
 ·exact Ff g _
end Wd
namespace Wd
open PySem PySem.Spec PyProof.Rows
noncomputable def Z7 (prog:Program) (w:World) (h:Heap) (a:Addr) (led:Bool) (σ:List Int):Prop :=
 ∃ es ep t,h.get? a=some { cls:=.type "set",dict:=none,data:=.set es ep t }/\ElemsOf (intKind prog w) es.toList/\(∀ k,k∈σ ↔ ∃ e∈es.toList,(intKind prog w).is k e.2=true)/\es.size=σ.length/\σ.Nodup /\
  σ.length<scanBound/\t.fits es.size=true/\Good t led
section
variable {prog:Program} {w:World} {A:Around} {E:Value->Shared->Prop} {s:Shared} {a:Addr} {led:Bool} {σ:List Int} {k:Int} {tk:Tok}
theorem Mu {h:Heap} {es es':Array (Int × Value)} {ep:Nat} {t t':SetTable} (ho:h.get? a=some { cls:=.type "set",dict:=none,data:=.set es ep t }) :
  (h.update a (Obj.putSet es' t')).get? a=some { cls:=.type "set",dict:=none,data:=.set es' (ep+1) t' } :=
 (Heap.get?_update_self (Obj.putSet es' t') ho (by rw [putSet_of es' t' rfl]; rfl)).trans (by rw [putSet_of es' t' rfl])
end
end Wd
namespace Wd
open PySem PySem.Spec PyProof.Rows
section
variable {prog:Program} {w:World} {A:Around} {R:Result->Shared->Prop} {I:Addr} {fp wr:List Addr} {G:Array GenState->Array GenState->Prop} {n:Nat} {P:Nat->Value->Prop} {St:Nat->Shared->Prop} {led:Bool}
end
section
variable {prog:Program} {w:World} {A:Around} {E:Value->Shared->Prop} {s:Shared}
noncomputable abbrev Dw (w:World):Bool:=!w.params.followText "set-order"
theorem Y4 (a:Value) {Q1:Value->Shared->Prop} (h:Q1 (.ref s.heap.objs.size) { s with heap:=s.heap.push { cls:=.type "set",dict:=none,data:=.set #[] 0 (.fresh 0 0 (Dw w)) } }) :
  codeAny (model prog w) A (.call (.builtin "set.__new__") ⟨[.type "set",a],[]⟩) (wants Q1 E) s:=by
 refine codeAny_of_tree ?_
 show wpAny _ A.in1 (do checkBuiltinCall "set.__new__" ⟨[.type "set",a],[]⟩; again (.builtin "set.__new__" ⟨[.type "set",a],[]⟩)) _ _ s
 refine wpAny_bind (wpAny_of_eq (F.newCall_set_1 a) (wpAny_pure ⟨plainId_quiet F.plain_set_new _,codeAny_builtin F.entry_set_new ?_⟩))
 rw [Around.under_plainId F.plain_set_new _]
 unfold Builtin.«set.__new__» Builtin.Frozenset.newClass
 have hsub:=sub_set_self
 obtain ⟨hp,g,d,tk,os⟩:=s
 dsimp only
 wp_walk
 refine wpAny_askSetting (wpAny_pure ?_)
 dsimp only
 simp only [newObj]
 exact wpAny_bind (wpAny_alloc (wpAny_pure (wpAny_pure h)))
end
end Wd
namespace Wd
open PySem PySem.Spec PyProof.Rows
end Wd
namespace Wd
open PySem PySem.Spec PyProof.Rows
section
variable {M:Model} {A:Around} {E:Value->Shared->Prop}
end
inductive Way (w:World) (a:Addr) (es:Array (Int × Value)) (ep:Nat) (t:SetTable) (h:Heap):(Nat->Value)->List Value->List Addr->Prop where
 | text (hb:w.params.followText "set-order" = true):Way w a es ep t h (fun _=>rawInt 0) ((pickOrder (w.params.setOrder a ep) es).toList.map (·.2)) []
 | drawn {tp:Addr} {ps:List Nat} (hb:w.params.followText "set-order" = false) (hp:ps.Perm (List.range es.size)) (ht:∃ n,h.get? tp=some { cls:=.type "tuple",data:=.seq (ps.map fun (i:Nat)=>rawInt i).toArray n }) :
   Way w a es ep t h (fun _=>.ref tp) (ps.map fun i=>(es.getD i (0,.none)).2) [tp]
 | plain (hb:w.params.followText "set-order" = false) (hd:(!t.plain && decide (es.size > 1))=false) (hl:t.led=true) (hr:Q_ t.place) (hs:t.place.size=es.size) :
   Way w a es ep t h (fun i=>rawInt (if i=0 then 0 else t.place.getD (i - 1) 0+1:Nat)) (es.toList.map (·.2)) []
section
variable {prog:Program} {w:World} {A:Around} {E:Value->Shared->Prop} {s:Shared} {a it:Addr} {es:Array (Int × Value)} {ep:Nat} {t:SetTable} {first:Nat->Value} {vs:List Value} {more:List Addr}
end
end Wd
section PartSetJ
set_option maxHeartbeats 1000000
namespace Wd
open PySem PySem.Spec PyProof.Rows
section
variable {prog:Program} {w:World} {A:Around} {E:Value->Shared->Prop} {s:Shared} {a:Addr} {σ:List Int}
end
end Wd
end PartSetJ
section PartSetK
set_option maxHeartbeats 1000000
namespace Wd
open PySem PySem.Spec PyProof.Rows
section
variable {prog:Program} {w:World} {A:Around} {E:Value->Shared->Prop} {s:Shared} {a:Addr} {σ:List Int}
end
end Wd
end PartSetK
namespace L2
open PySem PySem.Spec PyProof.Rows
noncomputable def dz (P:Program) (w:World) (a:Addr) (τ:List Int):HO:=.ext fun h=>Wd.Z7 P w h a (Wd.Dw w) τ
section
variable {X:Cx} {pins:List (Addr × Obj)} {σ:St} {H:Hp} {s:Shared} {h':Heap} {a:Addr} {o:HO}
end
end L2
namespace L2
open PySem PySem.Spec PyProof.Rows
section
variable {X:Cx}
end
section
variable {prog:Program} {w:World} {A:Around} {E:Value->Shared->Prop} {s:Shared} {r l:Addr}
end
section
variable {X:Cx} {p1 p2 q1 q2:Pos} {e:Expr} {te:TE}
end
end L2
namespace L2
open PySem PySem.Spec PyProof.Rows
noncomputable def Xp (K:PySem.W.Frag) (a:Addr) (xs:List V):It :=
 ⟨fun i H=>Cm K H a xs/\i<xs.length,fun i H x H'=>H'=H/\xs[xs.length - 1 - i]? = some x,fun i H=>Cm K H a xs/\i=xs.length⟩
theorem O9 {P:Program} {w:World} {K:PySem.W.Frag} {tg:Expr} (a it:Addr) (xs:List V):Turn P w K tg (Xp K a xs) [it] it (fun i h=>h.IsRevIter it a ((xs.length:Int) - 1 - (i:Nat))) where
 mem:=by simp
 obj:=fun i h st b hb=>by
  have e:b=it:=by simpa using hb
  subst e
  obtain ⟨o,e,c,d⟩:=st
  exact ⟨o,e,fun v z=>by rw [d] at z; cases z⟩
 keep:=fun i h h' st k=>st.at fun o e=>k it (by simp) o e
 item:=by
  intro X hP hw hK hc i pins s σ H E I hf st hg
  subst hP hw hK
  obtain ⟨hq,hlt⟩:=hg
  obtain ⟨its,rv,p,hz⟩:=I.list hq
  have hx:xs[xs.length - 1 - i]? = some (xs[xs.length - 1 - i]'(by omega)):=List.getElem?_eq_getElem (by omega)
  obtain ⟨u,hu,ru⟩:=rv.get hx
  obtain ⟨f0,f1,f2,f3,f4,f5⟩:=hf it (by simp)
  have e:(xs.length:Int) - 1 - ((i:Nat):Int)=((xs.length - 1 - i:Nat):Int):=by omega
  rw [e] at st
  refine wpAny_pyNext_rev_item st p.isList (x:=u) (by simpa using hu) fun h' st' sb=>?_
  have I1:Inv X pins σ H { s with heap:=h' }:=I.turned (t':=s.toks) (fun b o hb e=>(sb.2 b hb).trans e) f0 f1 f3 f4 f5
  have e2:((xs.length - 1 - i:Nat):Int) - 1=(xs.length:Int) - 1 - ((i+1:Nat):Int):=by omega
  rw [e2] at st'
  obtain ⟨o,eo,c,d⟩:=id st'
  exact ⟨u,rfl,Ku (s:={ s with heap:=h' }) eo c d (by decide) ⟨_,H,I1,ru,⟨rfl,hx⟩,st',fun b hb=>(hf b hb).1⟩⟩
 done:=by
  intro X hP hw hK hc i pins s σ H E I hf st hg
  subst hP hw hK
  obtain ⟨hq,rfl⟩:=hg
  obtain ⟨f0,f1,f2,f3,f4,f5⟩:=hf it (by simp)
  have e:(xs.length:Int) - 1 - ((xs.length:Nat):Int) = -1:=by omega
  rw [e] at st
  exact wpAny_pyNext_rev_end (I.ok.hd hc) st fun h' eb=>⟨rfl,I.turned (t':=s.toks) (fun b o hb e=>eb b o hb e) f0 f1 f3 f4 f5⟩
 self:=fun _ _ _ _ _ st h=>wpAny_pyIter_revIter st h
section
variable {X:Cx} {tg:Expr}
noncomputable def aj (K:PySem.W.Frag) (ta:TA):TI:=fun σ H R=>ta σ H fun vs H1=>∃ a xs,vs=[.ref a]/\Cm K H1 a xs/\R (Xp K a xs) H1
theorem Uq {l:Expr} {ta:TA} {p pos:Pos} (hg:Gl X "reversed") (hm:X.mg "reversed" = none) (ha:PA X [l] ta) (hs:starEach [l] X.env=[(false,eval l X.env)]:=by rfl):PI X tg (.Call (.Name "reversed" p) [l] [] pos) (aj X.K ta):=by
 intro pins s σ H R I h
 refine Call_ (G4 I hg hm PyProof.Rows.boot_reversed (PyProof.Rows.callWith_type1 (CP (ha pos pins s σ H _ I h) fun us s1 ⟨vs,H1,I1,r1,q1⟩=>?_) hs rfl))
 obtain ⟨a,xs,e,hq,q⟩:=q1
 subst e
 obtain ⟨u,rfl,ru⟩:=vals1 r1
 cases ru
 obtain ⟨its,rv,pl,hz⟩:=I1.list hq
 refine call_reversed_list pl.isList ?_
 have hit:(s1.heap.push (revObj a ((its.toArray.size:Int) - 1))).IsRevIter s1.heap.objs.size a ((its.toArray.size:Int) - 1):=⟨_,Heap.get?_push_size _ rfl,rfl,rfl⟩
 refine wpAny_pyIter_revIter (s:={ s1 with heap:=s1.heap.push (revObj a ((its.toArray.size:Int) - 1)) }) hit ?_
 refine ⟨s1.heap.objs.size,[s1.heap.objs.size],_,_,H1,rfl,I1.kept (t':=s1.toks) fun b o e=>Heap.get?_push_of_some _ e,O9 a _ xs,?_,fun b hb=>?_,q⟩
 ·have hl:=rv.length
  have e2:((its.toArray.size:Nat):Int) - 1=(xs.length:Int) - 1 - ((0:Nat):Int):=by
   rw [List.size_toArray]
   omega
  show (s1.heap.push (revObj a ((its.toArray.size:Int) - 1))).IsRevIter s1.heap.objs.size a ((xs.length:Int) - 1 - ((0:Nat):Int))
  rw [← e2]
  exact hit
 ·have e:b=s1.heap.objs.size:=by simpa using hb
  subst e
  exact I1.Jr (Nat.le_refl _) (I1.hok.fresh (Nat.le_refl _))
theorem Q9 {K:PySem.W.Frag} {a:Addr} {xs:List V} {g:TG} {tb:TS} {D:Ends} {σ:St} {H:Hp} (Pv:Nat->St->Hp->Prop) (h0:Pv 0 σ H) (hl:∀ i σ H,i<=xs.length->Pv i σ H->Cm K H a xs)
  (hs:∀ i x σ H,i<xs.length->xs[xs.length - 1 - i]? = some x->Pv i σ H->g x σ H fun σ2 H2=>tb { D with nx:=Pv (i+1),ct:=Pv (i+1),bk:=D.nx } σ2 H2) (hd:∀ σ H,Pv xs.length σ H->D.nx σ H) :
  ∃ W:Nat->Nat->St->Hp->Prop,(∃ m,W 0 m σ H)/\∀ i m σ H,W i m σ H ->
   ((Xp K a xs).stop i H/\D.nx σ H) \/ ((Xp K a xs).go i H/\∃ N:St->Hp->Prop,(∀ σ' H',N σ' H'->∃ m',m'<m/\W (i+1) m' σ' H')/\∀ x H',(Xp K a xs).yld i H x H'->g x σ H' fun σ2 H2=>tb { D with nx:=N,ct:=N,bk:=D.nx } σ2 H2):=by
 refine ⟨fun i m σ H=>m=xs.length - i/\i<=xs.length/\Pv i σ H,⟨xs.length,by simp,Nat.zero_le _,h0⟩,?_⟩
 rintro i m σ H ⟨rfl,hi,p⟩
 have q:=hl i σ H hi p
 by_cases hlt:i<xs.length
 ·refine .inr ⟨⟨q,hlt⟩,Pv (i+1),fun σ' H' p'=>⟨xs.length - (i+1),by omega,rfl,by omega,p'⟩,?_⟩
  rintro x H' ⟨rfl,hx⟩
  exact hs i x σ H' hlt hx p
 ·have e:i=xs.length:=by omega
  subst e
  exact .inl ⟨⟨q,rfl⟩,hd σ H p⟩
end
end L2
namespace L2
open PySem PySem.Spec PySem.Calls PyProof.Rows
section
variable {X:Cx}
theorem range_any (bs:List Bool):((List.range bs.length).any fun i=>(bs[i]?).getD false)=bs.any id:=by
 rw [Bool.eq_iff_iff,List.any_eq_true,List.any_eq_true]
 constructor
 ·rintro ⟨i,hi,e⟩
  have hi':=List.mem_range.mp hi
  rw [List.getElem?_eq_getElem hi'] at e
  exact ⟨_,List.getElem_mem hi',e⟩
 ·rintro ⟨b,hb,e⟩
  obtain ⟨i,hi,q⟩:=List.mem_iff_getElem.mp hb
  refine ⟨i,List.mem_range.mpr hi,?_⟩
  rw [List.getElem?_eq_getElem hi,q]
  exact e
theorem JH (hc:X.calm=true):Fp X (.builtin "any") (fun xs H Q=>∃ (p:Addr) (bs:List Bool),xs=[V.ref p]/\Cm X.K H p (bs.map V.bl)/\Q (.bl (bs.any id)) H):=by
 intro pins s σ H xs us Q I r h
 obtain ⟨p,bs,rfl,hp,q⟩:=h
 obtain ⟨u,rfl,ru⟩:=vals1 r
 cases ru
 obtain ⟨its,rv,pl,hz⟩:=I.list hp
 have hlen:bs.length=its.length:=by have:=rv.length; rw [List.length_map] at this; exact this
 have hlt:p<s.heap.objs.size:=by obtain ⟨_,e,_⟩:=pl.isList; exact Heap.lt_size e
 refine call_any_walk (wpAny_pyIter_list pl.isList ?_)
 refine ⟨s.heap.objs.size,[s.heap.objs.size,p],[s.heap.objs.size],its.toArray.size,_,_,fun i=>(bs[i]?).getD false,rfl,Walks.list (A:=X.A.in1) (I.ok.hd hc) _ p (Nat.ne_of_lt hlt) its.toArray,
  ⟨⟨_,Heap.get?_push_size _ rfl,rfl,rfl⟩,pl.isList.push _⟩,fun i v s' Q' E' hP hQ=>?_,fun h' tk hk=>?_⟩
 ·have hP':its[i]? = some v:=by simpa using hP
  have hi:i<its.length:=(List.getElem?_eq_some_iff.mp hP').1
  have hb:bs[i]? = some bs[i]:=by simp [hlen,hi]
  obtain ⟨u,hu,ru⟩:=rv.get (i:=i) (x:=.bl bs[i]) (by rw [List.getElem?_map,hb]; rfl)
  rw [hP'] at hu
  cases hu
  cases ru
  dsimp only at hQ
  rw [hb] at hQ
  exact wpAny_truthy_bool hQ
 ·have e:((List.range its.toArray.size).any fun i=>(bs[i]?).getD false)=bs.any id:=by rw [List.size_toArray,← hlen]; exact range_any bs
  rw [e]
  refine ⟨.bl (bs.any id),H,I.kept (t':=tk) fun b o eb=>hk b o (fun hm=>?_) (Heap.get?_push_of_some _ eb),rfl,q⟩
  rw [List.mem_singleton.mp hm] at eb
  exact Nat.lt_irrefl _ (Heap.lt_size eb)
theorem Fy (ns:List Int):∀ j,j<=ns.length->preSum (fun i=>(ns[i]?).getD 0) j=(ns.take j).sum
 | 0,_=>rfl
 | j+1,h=>by
  have ih:=Fy ns j (by omega)
  show preSum _ j+(ns[j]?).getD 0=_
  rw [ih,List.take_add_one,List.getElem?_eq_getElem (by omega),List.sum_append]
  simp
theorem QM (M:Int):∀ ns:List Int,(∀ n∈ns,0<=n/\n<=M)->0<=ns.sum/\ns.sum<=ns.length * M
 | [],_=>by simp
 | n::r,h=>by
  have h1:=h n (List.mem_cons_self ..)
  have h2:=QM M r fun x hx=>h x (List.mem_cons_of_mem _ hx)
  have e:((n::r).length:Int) * M=r.length * M+M:=by rw [List.length_cons]; push_cast; rw [Int.add_mul,Int.one_mul]
  rw [e,List.sum_cons]
  omega
theorem Il (hc:X.calm=true):Fp X (.builtin "sum") (fun xs H Q=>∃ (p:Addr) (ns:List Int),xs=[V.ref p]/\Cm X.K H p (ns.map V.int)/\(∀ n∈ns,0<=n/\n<=100000)/\ns.length<=1000/\Q (.int ns.sum) H):=by
 intro pins s σ H xs us Q I r h
 obtain ⟨p,ns,rfl,hp,hb,hl,q⟩:=h
 obtain ⟨u,rfl,ru⟩:=vals1 r
 cases ru
 obtain ⟨its,rv,pl,hz⟩:=I.list hp
 have hlen:ns.length=its.length:=by have:=rv.length; rw [List.length_map] at this; exact this
 have hlt:p<s.heap.objs.size:=by obtain ⟨_,e,_⟩:=pl.isList; exact Heap.lt_size e
 refine call_sum_walk (wpAny_pyIter_list pl.isList ?_)
 refine ⟨s.heap.objs.size,[s.heap.objs.size,p],[s.heap.objs.size],its.toArray.size,_,_,fun i=>(ns[i]?).getD 0,rfl,Walks.list (A:=X.A.in1) (I.ok.hd hc) _ p (Nat.ne_of_lt hlt) its.toArray,
  ⟨⟨_,Heap.get?_push_size _ rfl,rfl,rfl⟩,pl.isList.push _⟩,fun b hb=>?_,fun i v hP=>?_,fun j hj=>?_,fun h' tk t' hk=>?_⟩
 ·rw [Heap.size_push]
  rcases List.mem_cons.mp hb with rfl | hb
  ·exact Nat.lt_succ_self _
  ·rw [List.mem_singleton.mp hb]
   exact Nat.lt_succ_of_lt hlt
 ·have hP':its[i]? = some v:=by simpa using hP
  have hi:i<its.length:=(List.getElem?_eq_some_iff.mp hP').1
  have hb:ns[i]? = some ns[i]:=by simp [hlen,hi]
  obtain ⟨u,hu,ru⟩:=rv.get (i:=i) (x:=.int ns[i]) (by rw [List.getElem?_map,hb]; rfl)
  rw [hP'] at hu
  cases hu
  obtain ⟨t,rfl⟩:=ru
  exact ⟨t,by dsimp only; rw [hb]; rfl⟩
 ·have hj':j<ns.length:=by rw [hlen]; simpa using hj
  rw [Fy ns (j+1) (by omega)]
  have h1:=hb ns[j] (List.getElem_mem hj')
  have h2:=QM 100000 (ns.take (j+1)) fun n hn=>hb n (List.mem_of_mem_take hn)
  have h3:(ns.take (j+1)).length<=1000:=by rw [List.length_take]; omega
  unfold InLong
  dsimp only
  rw [List.getElem?_eq_getElem hj']
  rw [Option.getD_some]
  refine ⟨⟨?_,?_⟩,⟨?_,?_⟩⟩ <;> omega
 ·have e:preSum (fun i=>(ns[i]?).getD 0) its.toArray.size=ns.sum:=by rw [List.size_toArray,← hlen,Fy ns _ (Nat.le_refl _),List.take_length]
  rw [e]
  refine ⟨.int ns.sum,H,I.kept (t':=tk) fun b o eb=>hk b o (fun hm=>?_) (Heap.get?_push_of_some _ eb),⟨_,rfl⟩,q⟩
  rw [List.mem_singleton.mp hm] at eb
  exact Nat.lt_irrefl _ (Heap.lt_size eb)
structure KDict (K:PySem.W.Frag) (P:Params) (a:Addr):Prop where
 is:∃ es n,K.lookup a=some ⟨.type "dict",none,.dict es n,#[]⟩/\PySem.W.KeysLit P es.toList
 lo:(a == sysModules)=false
noncomputable def Wz (K:PySem.W.Frag) (P:Params) (td ty:TE):TE:=fun σ H Q=>td σ H fun x H1=>ty σ H1 fun y H2=>∃ a z v u,x=.ref a/\y=.str z/\KDict K P a/\PySem.W.nsIn K a z=some (some u)/\RelV v u/\Q v H2
noncomputable def ZJ (K:PySem.W.Frag) (P:Params) (neg:Bool) (ty td:TE):TE:=fun σ H Q=>ty σ H fun y H1=>td σ H1 fun x H2=>∃ a z r,x=.ref a/\y=.str z/\KDict K P a/\PySem.W.nsIn K a z=some r/\Q (.bl (if neg then !r.isSome else r.isSome)) H2
variable {o i:Expr} {pos:Pos} {td ty:TE}
theorem Js (ho:PE X o td) (hi:PE X i ty) (hs:Uj i):PE X (.Subscript o i pos) (Wz X.K X.w.params td ty):=by
 intro pins s σ H Q I h
 refine M8 PySem.F.slot_dict_getitem.lookup hs (CP (ho pins s σ H _ I h) fun u s1 ⟨x,H1,I1,rx,q1⟩=>CP (hi pins s1 σ H1 _ I1 q1) fun iv s2 hq0=>?_)
 obtain ⟨y,H2,I2,ry,a,z,v,w,ex,ey,kd,hw,rw',q2⟩:=hq0
 subst ex ey
 cases rx
 obtain ⟨t,rfl⟩:=ry
 obtain ⟨⟨es,n,hl,hk⟩,lo⟩:=kd
 have hm:=PySem.W.mapOf_K (prog:=X.prog) I2.Hf hl hk
 exact ⟨hm.typeIs,wpAny_getItem_of (strKind_is X.prog X.w z t) hm (PySem.W.find_K hl hw) ⟨v,H2,I2.tok _,rw',q2⟩⟩
theorem Qn (hi:PE X i ty) (ho:PE X o td):PC X .In i o (ZJ X.K X.w.params false ty td):=by
 intro pins s σ H Q I h
 refine CP (hi pins s σ H _ I h) fun iv s1 ⟨y,H1,I1,ry,q1⟩=>CP (ho pins s1 σ H1 _ I1 q1) fun u s2 hq0=>?_
 obtain ⟨x,H2,I2,rx,a,z,r,ex,ey,kd,hw,q2⟩:=hq0
 subst ex ey
 cases rx
 obtain ⟨t,rfl⟩:=ry
 obtain ⟨⟨es,n,hl,hk⟩,lo⟩:=kd
 refine wpAny_in_of (strKind_is X.prog X.w z t) lo (PySem.W.mapOf_K (prog:=X.prog) I2.Hf hl hk) ?_
 rw [PySem.W.find_K hl hw]
 exact ⟨.bl r.isSome,H2,I2.tok _,rfl,q2⟩
theorem Ob (hi:PE X i ty) (ho:PE X o td):PC X .NotIn i o (ZJ X.K X.w.params true ty td):=by
 intro pins s σ H Q I h
 refine CP (hi pins s σ H _ I h) fun iv s1 ⟨y,H1,I1,ry,q1⟩=>CP (ho pins s1 σ H1 _ I1 q1) fun u s2 hq0=>?_
 obtain ⟨x,H2,I2,rx,a,z,r,ex,ey,kd,hw,q2⟩:=hq0
 subst ex ey
 cases rx
 obtain ⟨t,rfl⟩:=ry
 obtain ⟨⟨es,n,hl,hk⟩,lo⟩:=kd
 refine wpAny_notIn_of (strKind_is X.prog X.w z t) lo (PySem.W.mapOf_K (prog:=X.prog) I2.Hf hl hk) ?_
 rw [PySem.W.find_K hl hw]
 exact ⟨.bl (!r.isSome),H2,I2.tok _,rfl,q2⟩
end
section
variable {X:Cx} {e st:Expr} {lo hi:Option Expr} {te ts:TE} {tl th:TO} {p2 pos:Pos}
end
end L2
namespace Og
open PySem L2
theorem A_ {X:Cx} {K:PySem.W.Frag} (h:X.K=K):WL X (Yv K):=h ▸ U0
theorem Ds {X:Cx} {K:PySem.W.Frag} (h:X.K=K):WL X (Yt K):=h ▸ Cg
theorem Ip {X:Cx} {K:PySem.W.Frag} (h:X.K=K):GC X (compareOp .In) (aD K false):=h ▸ Oz
structure R where
 w:Str
 nm:Str
 rest:List V
noncomputable abbrev R.v (r:R):List V:=.str r.w :: .str r.nm::r.rest
noncomputable def isNm (z:Str):Prop:=1<=z.length/\z.length<=8/\∀ c∈z.cps.toList,97<=c/\c<=122
noncomputable def Rows (H:Hp) (ρ:V->R) (vs:List V):Prop:=∀ v∈vs,TupAt H (ρ v).v v
theorem Rows.mono {H H':Hp} {ρ:V->R} {vs:List V} (s:Am H H') (h:Rows H ρ vs):Rows H' ρ vs:=fun v hv=>(h v hv).mono s
theorem Rows.sub {H:Hp} {ρ:V->R} {vs us:List V} (h:Rows H ρ vs) (hs:∀ v∈us,v∈vs):Rows H ρ us:=fun v hv=>h v (hs v hv)
noncomputable abbrev pw (ρ:V->R) (w:Str) (v:V):Bool:=decide (V.str (ρ v).w=V.str w)
noncomputable abbrev pn (ρ:V->R) (t:Str) (v:V):Bool:=decide (V.str (ρ v).nm=V.str t)
noncomputable def Qx (ρ:V->R) (vs:List V) (w t:Str):Bool:=(vs.filter (pw ρ w)).any (pn ρ t)
noncomputable def KTup (K:PySem.W.Frag) (a:Addr) (xs:List V):Prop:=∃ (o:Obj) (its:Array Value) (n:Nat),K.lookup a=some o/\o.cls=.type "tuple" /\ o.data=.seq its n/\its.size<=sizeLine/\Vals xs its.toList
theorem KTup.sq {K:PySem.W.Frag} {a:Addr} {xs:List V} (h:KTup K a xs) (H:Hp):FW K H a xs:=.inr h
noncomputable abbrev named:List Str:=["board","rank","stop","coupler","mute"]
noncomputable def Gu (K:PySem.W.Frag) (aB:Addr) (ρ:V->R) (vs:List V) (x:V) (part:Str):Prop :=
 (∃ (i lo hi:Int) (b:Addr),x=.int i/\PySem.W.nsIn K aB part=some (some (.ref b))/\KTup K b [.int lo,.int hi]/\lo<=i/\i<=hi) \/
 (PySem.W.nsIn K aB part=some none/\part = "new" /\ ∃ t,x=.str t/\isNm t/\∀ w∈named,Qx ρ vs w t=false) \/
 (PySem.W.nsIn K aB part=some none/\¬ part = "new" /\ ∃ t,x=.str t/\isNm t/\Qx ρ vs part t=true)
structure JS (K:PySem.W.Frag) (aB aP aM:Addr) (ρ:V->R) (vs:List V) (r:R):Prop where
 ns:¬ r.w = "step"
 nl:¬ r.w = "line"
 parts:∃ (ap:Addr) (ps:List Str),PySem.W.nsIn K aP r.w=some (some (.ref ap))/\KTup K ap (ps.map V.str)/\(V.str r.nm::r.rest).length=ps.length/\ps.length<=10 /\
  ∀ (i:Nat) x y,(V.str r.nm::r.rest)[i]? = some x->ps[i]? = some y->Gu K aB ρ vs x y
 room:∃ (m:Int) (t:Tok),PySem.W.nsIn K aM r.w=some (some (.int m t))/\(((vs.filter (pw ρ r.w)).length:Nat):Int)<m
noncomputable def letters:Str:="abcdefghijklmnopqrstuvwxyz"
noncomputable abbrev RN (y:Str) (c:Nat):Bool:=!(Builtin.Str.occurrences y ⟨#[c]⟩ 0 y.length 1).isEmpty
theorem J0:∀ c<128,RN letters c=decide (97<=c/\c<=122):=by decide +kernel
theorem Ak {H:Hp} {p:Addr} {o:HO} (h:H p=none):Am H (upd H p o):=fun b u e=>by rw [An (Aq e h)]; exact e
theorem Bt {n:Nat} (h:n<=1000):n<=sizeLine:=Nat.le_of_lt (Ar h)
theorem ty_int {K:PySem.W.Frag}:PySem.W.kitOne K (.type "int") (.type "int")=some true:=by kernel_rfl
theorem TQ {K:PySem.W.Frag}:PySem.W.kitOne K (.type "int") (.type "bool")=some false:=by kernel_rfl
theorem TY {K:PySem.W.Frag}:PySem.W.kitOne K (.type "list") (.type "list")=some true:=by kernel_rfl
theorem R1 {K:PySem.W.Frag}:PySem.W.kitOne K (.type "tuple") (.type "tuple")=some true:=by kernel_rfl
theorem PL {K:PySem.W.Frag}:PySem.W.kitOne K (.type "str") (.type "str")=some true:=by kernel_rfl
theorem Fx (vs:List V) (n:Nat) (h:n<=vs.length):Cv vs none (some (n:Int))=vs.take n:=by
 unfold Cv
 have e1:HT.Di vs.length 0 none=0:=rfl
 have e2:HT.Di vs.length vs.length (some (n:Int))=n:=by
  rw [HT.Eu]
  omega
 rw [e1,e2]
 simp
theorem Gs {α:Type} (p:α->Bool) (l:List α):(l.filter p).length<=l.length:=List.length_filter_le _ _
noncomputable abbrev bV (b:Str × Nat):List V:=[.str b.1,.int (b.2:Nat)]
noncomputable abbrev Ft (b:Str × Nat):R:=⟨"board",b.1,[.int (b.2:Nat)]⟩
noncomputable abbrev qV (q:Nat × Nat):List V:=[.int (q.1:Nat),.int (q.2:Nat)]
noncomputable def IW (bs:List (Str × Nat)):List (Nat × Nat):=bs.zipIdx.flatMap fun p=>(List.range p.1.2).map fun e=>(p.2,e)
theorem Pn (bs:List (Str × Nat)) (b:Str × Nat):IW (bs++[b])=IW bs++(List.range b.2).map fun e=>(bs.length,e):=by
 unfold IW
 rw [List.zipIdx_append]
 simp
theorem Ir {bs:List (Str × Nat)} {i:Nat} {b:Str × Nat} (h:bs[i]? = some b):IW (bs.take (i+1))=IW (bs.take i)++(List.range b.2).map fun e=>(i,e):=by
 have hi:i<bs.length:=(List.getElem?_eq_some_iff.mp h).1
 rw [List.take_add_one,h]
 show IW (bs.take i++[b])=_
 rw [Pn,List.length_take,Nat.min_eq_left (by omega)]
theorem Ra (bs:List (Str × Nat)) (M:Nat):(∀ b∈bs,b.2<=M)->(IW bs).length<=bs.length * M:=by
 intro h
 have key:∀ i,i<=bs.length->(IW (bs.take i)).length<=i * M:=by
  intro i
  induction i with
  | zero=>intro _; simp [IW]
  | succ i ih =>
   intro hi
   have hlt:i<bs.length:=by omega
   rw [Ir (List.getElem?_eq_getElem hlt),List.length_append,List.length_map,List.length_range]
   have h1:=ih (by omega)
   have h2:=h bs[i] (List.getElem_mem hlt)
   have:(i+1) * M=i * M+M:=by rw [Nat.add_mul,Nat.one_mul]
   omega
 have:=key bs.length (Nat.le_refl _)
 rw [List.take_length] at this
 exact this
theorem Bw {α β:Type} {F:α->β->Prop} {l:List α} {vs:List β} (h:Paired F l vs):∀ {v},v∈vs->∃ a∈l,F a v:=by
 induction h with
 | nil=>intro v hv; cases hv
 | cons a b ih =>
  intro v hv
  rcases List.mem_cons.mp hv with rfl | hv
  ·exact ⟨_,List.mem_cons_self ..,a⟩
  ·obtain ⟨x,hx,q⟩:=ih hv
   exact ⟨x,List.mem_cons_of_mem _ hx,q⟩
theorem Bk {α β:Type} {F:α->β->Prop} {l:List α} {vs:List β} (h:Paired F l vs):∀ {i:Nat} {a},l[i]? = some a->∃ v,vs[i]? = some v/\F a v:=by
 induction h with
 | nil=>intro i a ha; simp at ha
 | cons x y ih =>
  intro i a ha
  cases i with
  | zero =>
   simp at ha
   subst ha
   exact ⟨_,rfl,x⟩
  | succ i=>exact ih (by simpa using ha)
theorem Kf {α β:Type} {F:α->β->Prop} {l:List α} {vs:List β} (h:Paired F l vs):∀ {i:Nat} {v},vs[i]? = some v->∃ a,l[i]? = some a/\F a v:=by
 induction h with
 | nil=>intro i a ha; simp at ha
 | cons x y ih =>
  intro i a ha
  cases i with
  | zero =>
   simp at ha
   subst ha
   exact ⟨_,rfl,x⟩
  | succ i=>exact ih (by simpa using ha)
theorem Et {α β:Type} {F:α->β->Prop} {l:List α} {vs:List β} (h:Paired F l vs):∀ n:Nat,Paired F (l.take n) (vs.take n):=by
 induction h with
 | nil=>intro n; simp; exact .nil
 | cons x y ih =>
  intro n
  cases n with
  | zero=>exact .nil
  | succ n=>exact .cons x (ih n)
theorem Bv {α β:Type} {F:α->β->Prop} {l l':List α} {vs vs':List β} (h:Paired F l vs) (h':Paired F l' vs'):Paired F (l++l') (vs++vs'):=by
 induction h with
 | nil=>exact h'
 | cons x y ih=>exact .cons x ih
theorem Ce {α β γ:Type} {F:γ->β->Prop} (g:α->γ) {l:List α} {vs:List β} (h:Paired (fun a v=>F (g a) v) l vs):Paired F (l.map g) vs:=by
 induction h with
 | nil=>exact .nil
 | cons x y ih=>exact .cons x ih
theorem Ey {α β γ:Type} {F:γ->β->Prop} (g:α->γ):∀ {l:List α} {vs:List β},Paired F (l.map g) vs->Paired (fun a v=>F (g a) v) l vs
 | [],_,h=>by cases h; exact .nil
 | a::l,_,h=>by
  cases h with
  | cons x y=>exact .cons x (Ey g y)
noncomputable def HB (H:Hp) (k:Nat):V->V
 | .ref T=>match H T with
  | some (.tup xs)=>xs.getD k .non
  | _=>.non
 | _=>.non
theorem DY {H:Hp} {zs:List V} {v:V} (h:TupAt H zs v) (k:Nat):HB H k v=zs.getD k .non:=by
 obtain ⟨T,rfl,e⟩:=h
 show (match H T with | some (.tup xs)=>xs.getD k V.non | _=>V.non)=_
 rw [e]
theorem Eb {α:Type} {H:Hp} {g:α->List V} (k:Nat) {l:List α} {vs:List V} (h:Paired (fun a v=>TupAt H (g a) v) l vs):vs.map (HB H k)=l.map fun a=>(g a).getD k .non:=by
 induction h with
 | nil=>rfl
 | cons x y ih=>rw [List.map_cons,List.map_cons,ih,DY x]
noncomputable def SX (x:Addr) (H H':Hp):Prop:=∀ b o,H b=some o->b ≠ x->H' b=some o
theorem SX.trans {x:Addr} {H H1 H2:Hp} (a:SX x H H1) (b:SX x H1 H2):SX x H H2:=fun c o h n=>b c o (a c o h n) n
theorem SX.refl {x:Addr} {H:Hp}:SX x H H:=fun _ _ h _=>h
theorem SX.of {x:Addr} {H H':Hp} (s:Am H H'):SX x H H':=fun b o h _=>s b o h
theorem SX.up {x:Addr} {H:Hp} {o:HO}:SX x H (upd H x o):=fun b u h n=>by rw [An n]; exact h
theorem SX.tup {x:Addr} {H H':Hp} {zs:List V} {y:V} {C dx:Addr} {fs:List (Str × V)} (s:SX x H H') (hx:H x=some (.ins C dx fs)) (h:TupAt H zs y):TupAt H' zs y:=by
 obtain ⟨T,e,q⟩:=h
 exact ⟨T,e,s _ _ q fun z=>by rw [z,hx] at q; cases q⟩
theorem SX.pair {α:Type} {x:Addr} {H H':Hp} {f:α->List V} {l:List α} {vs:List V} {C dx:Addr} {fs:List (Str × V)} (s:SX x H H') (hx:H x=some (.ins C dx fs)) (h:Paired (fun a y=>TupAt H (f a) y) l vs):Paired (fun a y=>TupAt H' (f a) y) l vs:=Paired.Ez h fun _ _ q=>s.tup hx q
theorem SX.lst {x a:Addr} {H H':Hp} {xs:List V} {C dx:Addr} {fs:List (Str × V)} (s:SX x H H') (hx:H x=some (.ins C dx fs)) (h:H a=some (.lst xs)):H' a=some (.lst xs):=s _ _ h fun z=>by rw [z,hx] at h; cases h
theorem SX.dk {x a:Addr} {H H':Hp} {kvs:List (Key × V)} {C dx:Addr} {fs:List (Str × V)} (s:SX x H H') (hx:H x=some (.ins C dx fs)) (h:H a=some (.dK kvs)):H' a=some (.dK kvs):=s _ _ h fun z=>by rw [z,hx] at h; cases h
noncomputable abbrev meths:List Str:=["ranks","pipe_count","pipe","rank_of","board_of_knob","boards","key_count","key","board_of","coupler","knobs","knob_number","board_number","stop","mute","steps","rows"]
structure Jj (C:Addr) (H:Hp) (x:Addr) (bs:List (Str × Nat)) (ks:List R):Prop where
 ob:∃ (dx:Addr) (fs:List (Str × V)) (bl bn kp kr:Addr) (bvs pvs uvs:List V) (kvs:List (Key × V)),H x=some (.ins C dx fs)/\fs.lookup ("board_list" : Str)=some (.ref bl)/\fs.lookup ("board_numbers" : Str)=some (.ref bn)/\fs.lookup ("key_places" : Str)=some (.ref kp)/\fs.lookup ("knob_rows" : Str)=some (.ref kr) /\
  (∀ m∈meths,fs.lookup m=none)/\H bl=some (.lst bvs)/\Paired (fun b y=>TupAt H (bV b) y) bs bvs/\H bn=some (.dK kvs)/\(∀ (i:Nat) b,bs[i]? = some b->CJ kvs (Sum.inr b.1)=some (.int (i:Nat))) /\
  H kp=some (.lst pvs)/\Paired (fun q y=>TupAt H (qV q) y) (IW bs) pvs/\H kr=some (.lst uvs)/\Paired (fun (r:R) y=>TupAt H r.v y) ks uvs
 nb:bs.length<=5
 sz:∀ b∈bs,b.2<=61
 nk:ks.length<=200
theorem Jj.mono {C:Addr} {H H':Hp} {x:Addr} {bs:List (Str × Nat)} {ks:List R} (s:Am H H') (h:Jj C H x bs ks):Jj C H' x bs ks:=by
 obtain ⟨⟨dx,fs,bl,bn,kp,kr,bvs,pvs,uvs,kvs,h1,l1,l2,l3,l4,lm,h2,h3,h4,h5,h6,h7,h8,h9⟩,a,b,c⟩:=h
 exact ⟨⟨dx,fs,bl,bn,kp,kr,bvs,pvs,uvs,kvs,s _ _ h1,l1,l2,l3,l4,lm,s _ _ h2,Ah s h3,s _ _ h4,h5,s _ _ h6,Ah s h7,s _ _ h8,Ah s h9⟩,a,b,c⟩
end Og
namespace Og
open PySem L2 PyProof.Rows
inductive Kb where
 | cp (i j:Nat) (s:Int)
 | pl (w:Str) (i:Nat)
noncomputable def Kb.w:Kb->Str
 | .cp _ _ _=>"coupler"
 | .pl w _=>w
noncomputable def Kb.v:Kb->List V
 | .cp i j s=>[.str "coupler",.int (i:Nat),.int (j:Nat),.int s]
 | .pl w i=>[.str w,.int (i:Nat)]
noncomputable def Kb.ok (n:Nat):Kb->Prop
 | .cp i j s=>i<n/\j<n /\ -60<=s/\s<=60
 | .pl w i=>i<n/\(w = "mute" \/ w = "stop")
noncomputable def Mr (w:Str):Nat:=if w = "coupler" then 12 else if w = "mute" then 5 else 24
structure KF (K:PySem.W.Frag) (aB aP aM:Addr):Prop where
 pB:∃ a,PySem.W.nsIn K aP "board" = some (some (.ref a))/\KTup K a (["new","keys"].map fun s:String=>V.str s)
 pS:∃ a,PySem.W.nsIn K aP "stop" = some (some (.ref a))/\KTup K a (["new","board"].map fun s:String=>V.str s)
 pM:∃ a,PySem.W.nsIn K aP "mute" = some (some (.ref a))/\KTup K a (["new","board"].map fun s:String=>V.str s)
 pC:∃ a,PySem.W.nsIn K aP "coupler" = some (some (.ref a))/\KTup K a (["new","board","board","leap"].map fun s:String=>V.str s)
 bK:∃ a,PySem.W.nsIn K aB "keys" = some (some (.ref a))/\KTup K a [.int 1,.int 61]
 bL:∃ a,PySem.W.nsIn K aB "leap" = some (some (.ref a))/\KTup K a [.int (-60),.int 60]
 bN:PySem.W.nsIn K aB "new" = some none
 bB:PySem.W.nsIn K aB "board" = some none
 mB:∃ t,PySem.W.nsIn K aM "board" = some (some (.int 5 t))
 mS:∃ t,PySem.W.nsIn K aM "stop" = some (some (.int 24 t))
 mC:∃ t,PySem.W.nsIn K aM "coupler" = some (some (.int 12 t))
 mM:∃ t,PySem.W.nsIn K aM "mute" = some (some (.int 5 t))
noncomputable def K9 (H:Hp):V->R
 | .ref T=>match H T with
  | some (.tup (.str w :: .str n::r))=>⟨w,n,r⟩
  | _=>⟨"","",[]⟩
 | _=>⟨"","",[]⟩
theorem O7 {H:Hp} {r:R} {v:V} (h:TupAt H r.v v):K9 H v=r:=by
 obtain ⟨T,rfl,e⟩:=h
 show (match H T with | some (.tup (.str w :: .str n::r))=>(⟨w,n,r⟩:R) | _=>⟨"","",[]⟩)=r
 rw [e]
theorem RX {H:Hp} {rs:List R} {vs:List V} (h:Paired (fun (r:R) v=>TupAt H r.v v) rs vs):vs.map (K9 H)=rs:=by
 induction h with
 | nil=>rfl
 | cons x y ih=>rw [List.map_cons,ih,O7 x]
theorem Br (f:Str) (v:V):∀ l:List (Str × V),(Bh f v l).length<=l.length+1
 | []=>Nat.le_refl _
 | p::r=>by
  unfold Bh
  split
  ·simp
  ·have:=Br f v r
   simp only [List.length_cons]
   omega
noncomputable abbrev Gk (s:Str):Bool:=inV (.str s) [.str "stop",.str "coupler",.str "mute"]
structure eE (K:PySem.W.Frag) (aB aP aM:Addr) (ρ:V->R) (us:List V) (bs:List (Str × Nat)) (ks:List R):Prop where
 kinds:∀ v∈us,(ρ v).w = "board" \/ (ρ v).w = "stop" \/ (ρ v).w = "coupler" \/ (ρ v).w = "mute"
 eb:(us.filter (pw ρ "board")).map ρ=bs.map Ft
 ek:(us.filter (fun v=>Gk (ρ v).w)).map ρ=ks
 b0:1<=bs.length
 b5:bs.length<=5
 sz:∀ b∈bs,b.2<=61
 nk:ks.length<=100
 nb:(bs.map (·.1)).Nodup
 nn:(ks.map (·.nm)).Nodup
 len:us.length<=105
 ok:∀ (i:Nat) v,us[i]? = some v->JS K aB aP aM ρ (us.take i) (ρ v)
noncomputable def GJ (ρ:V->R) (vs:List V):List (Str × Str):=vs.map fun v=>((ρ v).w,(ρ v).nm)
noncomputable abbrev NT (wn:List (Str × Str)) (w t:Str):Bool:=(wn.filter fun p=>decide (p.1=w)).any fun p=>decide (p.2=t)
noncomputable abbrev QR (wn:List (Str × Str)) (w:Str):Nat:=(wn.filter fun p=>decide (p.1=w)).length
theorem Ga (a b:Str):decide (V.str a=V.str b)=decide (a=b):=by
 rw [Bool.eq_iff_iff,decide_eq_true_eq,decide_eq_true_eq]
 exact ⟨V.str.inj,congrArg V.str⟩
theorem Ho (ρ:V->R) (vs:List V) (w t:Str):Qx ρ vs w t=NT (GJ ρ vs) w t:=by
 unfold Qx GJ
 show _=((vs.map fun v=>((ρ v).w,(ρ v).nm)).filter fun p=>decide (p.1=w)).any fun p=>decide (p.2=t)
 rw [List.filter_map,List.any_map]
 have e1:pw ρ w=(fun p:Str × Str=>decide (p.1=w)) ∘ fun v=>((ρ v).w,(ρ v).nm):=by
  funext v
  exact Ga _ _
 have e2:pn ρ t=(fun p:Str × Str=>decide (p.2=t)) ∘ fun v=>((ρ v).w,(ρ v).nm):=by
  funext v
  exact Ga _ _
 rw [e1,e2]
theorem G7 (ρ:V->R) (vs:List V) (w:Str):(vs.filter (pw ρ w)).length=QR (GJ ρ vs) w:=by
 unfold GJ
 show _=((vs.map fun v=>((ρ v).w,(ρ v).nm)).filter fun p=>decide (p.1=w)).length
 rw [List.filter_map,List.length_map]
 have e1:pw ρ w=(fun p:Str × Str=>decide (p.1=w)) ∘ fun v=>((ρ v).w,(ρ v).nm):=by
  funext v
  exact Ga _ _
 rw [e1]
section
variable {K:PySem.W.Frag} {aB aP aM:Addr} {ρ:V->R} {vs:List V} {wn:List (Str × Str)} {t:Str}
theorem HY (F:KF K aB aP aM) (e:GJ ρ vs=wn) (ht:isNm t) (h:∀ w∈named,NT wn w t=false):Gu K aB ρ vs (.str t) "new" :=
 .inr (.inl ⟨F.bN,rfl,_,rfl,ht,fun w hw=>by rw [Ho,e]; exact h w hw⟩)
theorem G3 (F:KF K aB aP aM) (e:GJ ρ vs=wn) (ht:isNm t) (h:NT wn "board" t=true):Gu K aB ρ vs (.str t) "board" :=
 .inr (.inr ⟨F.bB,by decide +kernel,_,rfl,ht,by rw [Ho,e]; exact h⟩)
theorem Ny (F:KF K aB aP aM) (e:GJ ρ vs=wn) (ht:isNm t) (h:∀ w∈named,NT wn w t=false) (hc:QR wn "board" < 5) {n:Nat} (h1:1<=n) (h2:n<=61):JS K aB aP aM ρ vs (Ft (t,n)):=by
 obtain ⟨ap,g1,g2⟩:=F.pB
 obtain ⟨ab,g3,g4⟩:=F.bK
 obtain ⟨tk,g5⟩:=F.mB
 refine ⟨by show ¬ ("board" : Str) = "step"; decide +kernel,by show ¬ ("board" : Str) = "line"; decide +kernel,⟨ap,["new","keys"],g1,g2,rfl,by decide,fun j x y hx hy=>?_⟩,⟨5,tk,g5,?_⟩⟩
 ·match j,hx,hy with
  | 0,hx,hy =>
   cases (Option.some.inj hx)
   cases (Option.some.inj hy)
   exact HY F e ht h
  | 1,hx,hy =>
   cases (Option.some.inj hx)
   cases (Option.some.inj hy)
   exact .inl ⟨_,1,61,ab,rfl,g3,g4,by omega,by omega⟩
  | j+2,hx,hy=>simp at hy
 ·rw [G7,e]
  show ((QR wn "board" : Nat):Int)<5
  omega
theorem Kz (F:KF K aB aP aM) (e:GJ ρ vs=wn) (ht:isNm t) (h:∀ w∈named,NT wn w t=false) (hc:QR wn "coupler" < 12) {a b:Str} (ha:isNm a) (ha':NT wn "board" a=true) (hb:isNm b) (hb':NT wn "board" b=true) {s:Int} (h1 : -60<=s) (h2:s<=60):JS K aB aP aM ρ vs ⟨"coupler",t,[.str a,.str b,.int s]⟩:=by
 obtain ⟨ap,g1,g2⟩:=F.pC
 obtain ⟨ab,g3,g4⟩:=F.bL
 obtain ⟨tk,g5⟩:=F.mC
 refine ⟨by show ¬ ("coupler" : Str) = "step"; decide +kernel,by show ¬ ("coupler" : Str) = "line"; decide +kernel,⟨ap,["new","board","board","leap"],g1,g2,rfl,by decide,fun j x y hx hy=>?_⟩,⟨12,tk,g5,?_⟩⟩
 ·match j,hx,hy with
  | 0,hx,hy =>
   cases (Option.some.inj hx)
   cases (Option.some.inj hy)
   exact HY F e ht h
  | 1,hx,hy =>
   cases (Option.some.inj hx)
   cases (Option.some.inj hy)
   exact G3 F e ha ha'
  | 2,hx,hy =>
   cases (Option.some.inj hx)
   cases (Option.some.inj hy)
   exact G3 F e hb hb'
  | 3,hx,hy =>
   cases (Option.some.inj hx)
   cases (Option.some.inj hy)
   exact .inl ⟨_,-60,60,ab,rfl,g3,g4,h1,h2⟩
  | j+4,hx,hy=>simp at hy
 ·rw [G7,e]
  show ((QR wn "coupler" : Nat):Int)<12
  omega
end
theorem Q0 (bs:List (Str × Nat)):(IW bs).length=(bs.map (·.2)).sum:=by
 unfold IW
 rw [List.length_flatMap]
 have:(bs.zipIdx.map fun p=>((List.range p.1.2).map fun e=>(p.2,e)).length)=bs.map (·.2):=by
  refine List.ext_getElem? fun i=>?_
  rw [List.getElem?_map,List.getElem?_map,List.getElem?_zipIdx]
  cases bs[i]? <;> simp
 rw [this]
end Og
namespace Og
open PySem L2
noncomputable def az (bs:List (Str × Nat)) (j1 j2:Nat) (s:Int) (qd:Nat × Nat) (z2:Nat):V :=
 if qd.1=j1/\0<=(qd.2:Int)+s/\(qd.2:Int)+s<z2 then .int ((((bs.take j2).map (·.2)).sum:Nat)+((qd.2:Int)+s)) else .non
noncomputable def gl (bs:List (Str × Nat)):Kb->Nat->Option Nat
 | .cp j1 j2 s,i=>match (IW bs)[i]?,bs[j2]? with
  | some qd,some b2=>match az bs j1 j2 s qd b2.2 with
   | .int v=>some v.toNat
   | _=>none
  | _,_=>none
 | .pl _ _,_=>none
noncomputable def stp (bs:List (Str × Nat)) (kbs:List Kb) (D:Nat) (i j:Nat):Prop:=∃ k z,D.testBit k=true/\kbs[k]? = some z/\gl bs z i=some j
inductive bO (st:Nat->Nat->Prop) (hd:Nat->Prop):Nat->Prop
 | one {i j:Nat}:hd i->st i j->bO st hd j
 | more {i j:Nat}:bO st hd i->st i j->bO st hd j
end Og
namespace Og
open PySem L2 PyProof.Rows
noncomputable abbrev Th:=Str × Nat × List V
noncomputable abbrev tV (a:Th):List V:=.str a.1 :: .int (a.2.1:Nat)::a.2.2
noncomputable abbrev tN (a:Th):Str × Nat:=(a.1,a.2.1)
noncomputable abbrev S5 (r:Str × Nat × Int):Th:=(r.1,r.2.1,[.int r.2.2])
noncomputable abbrev WN (b:Str × Nat):Th:=(b.1,b.2,[])
noncomputable abbrev Vd (r:Str × Nat × Int):Str × Nat:=(r.1,r.2.1)
noncomputable abbrev Fz (r:Str × Nat × Int):R:=⟨"rank",r.1,[.int (r.2.1:Nat),.int r.2.2]⟩
structure Ln where
 r:Nat
 sh:Int
 lo:Int
 hi:Int
noncomputable abbrev Y9 (l:Ln):List V:=[.int (l.r:Nat),.int l.sh,.int l.lo,.int l.hi]
noncomputable def F_ (H:Hp) (l:List Ln) (v:V):Prop:=∃ (A:Addr) (ts:List V),v=.ref A/\H A=some (.lst ts)/\Paired (fun x y=>TupAt H (Y9 x) y) l ts
noncomputable def Ha (H:Hp) (D:Addr) (ls:List (List Ln)):Prop:=∃ lv,H D=some (.lst lv)/\Paired (fun l v=>F_ H l v) ls lv
theorem F_.mono {H H':Hp} {l:List Ln} {v:V} (s:Am H H') (h:F_ H l v):F_ H' l v:=by
 obtain ⟨A,ts,e,h1,h2⟩:=h
 exact ⟨A,ts,e,s _ _ h1,Ah s h2⟩
theorem Ha.mono {H H':Hp} {D:Addr} {ls:List (List Ln)} (s:Am H H') (h:Ha H D ls):Ha H' D ls:=by
 obtain ⟨lv,h1,h2⟩:=h
 exact ⟨lv,s _ _ h1,Paired.Ez h2 fun _ _ q=>q.mono s⟩
structure Ex (C:Addr) (H:Hp) (x:Addr) (bs:List (Str × Nat)) (rk:List (Str × Nat × Int)) (ks:List R) (ls:List (List Ln)):Prop where
 o:Jj C H x bs ks
 r:∃ (dx:Addr) (fs:List (Str × V)) (rl rn pp kl:Addr) (rvs pvs:List V) (kvs:List (Key × V)),H x=some (.ins C dx fs)/\fs.lookup ("rank_list" : Str)=some (.ref rl)/\fs.lookup ("rank_numbers" : Str)=some (.ref rn)/\fs.lookup ("pipe_places" : Str)=some (.ref pp)/\fs.lookup ("knob_lines" : Str)=some (.ref kl) /\
  H rl=some (.lst rvs)/\Paired (fun (a:Th) y=>TupAt H (tV a) y) (rk.map S5) rvs/\H rn=some (.dK kvs)/\(∀ (i:Nat) r,rk[i]? = some r->CJ kvs (Sum.inr r.1)=some (.int (i:Nat))) /\
  H pp=some (.lst pvs)/\Paired (fun q y=>TupAt H (qV q) y) (IW (rk.map Vd)) pvs/\Ha H kl ls
 nr:rk.length<=12
 nz:∀ r∈rk,r.2.1<=97
 nl:ls.length=ks.length
theorem Ex.mono {C:Addr} {H H':Hp} {x:Addr} {bs:List (Str × Nat)} {rk:List (Str × Nat × Int)} {ks:List R} {ls:List (List Ln)} (s:Am H H') (h:Ex C H x bs rk ks ls):Ex C H' x bs rk ks ls:=by
 obtain ⟨o,⟨dx,fs,rl,rn,pp,kl,rvs,pvs,kvs,h1,l1,l2,l3,l4,h2,h3,h4,h5,h6,h7,h8⟩,a,b,c⟩:=h
 exact ⟨o.mono s,⟨dx,fs,rl,rn,pp,kl,rvs,pvs,kvs,s _ _ h1,l1,l2,l3,l4,s _ _ h2,Ah s h3,s _ _ h4,h5,s _ _ h6,Ah s h7,h8.mono s⟩,a,b,c⟩
structure SQ (ρ:V->R) (us:List V) (i:Nat):Prop where
 all:∀ j,j<i->∃ v,us[us.length - 1 - j]? = some v/\(ρ v).w = "line"
 lt:i<us.length
 no:∃ v,us[us.length - 1 - i]? = some v/\¬ (ρ v).w = "line"
noncomputable def Vb (r:R):Int:=match r.rest with
 | [.int m]=>m
 | _=>0
noncomputable abbrev keyOf (ρ:V->R) (us:List V) (bd:Str) (n:Int):Bool:=(us.filter (pw ρ "board")).any fun v=>pn ρ bd v && decide (n<Vb (ρ v))
structure MN (ρ:V->R) (us:List V) (ro:R):Prop where
 ex:∃ (cnt:Nat) (v:V) (sh lo hi:Int) (bd:Str) (rs:List V),ro.rest=[.int sh,.int lo,.int hi]/\SQ ρ us cnt/\cnt<4/\us[us.length - 1 - cnt]? = some v/\(ρ v).w = "stop" /\ (ρ v).rest=.str bd::rs/\lo<=hi/\keyOf ρ us bd hi=true
noncomputable abbrev En (ρ:V->R) (us:List V):Prop:=∀ v∈us,(ρ v).w = "board"->∃ m,(ρ v).rest=[.int m]
structure Hn (K:PySem.W.Frag) (aB aP aM:Addr) (ρ:V->R) (vs:List V) (r:R):Prop where
 ns:¬ r.w = "step"
 parts:∃ (ap:Addr) (ps:List Str),PySem.W.nsIn K aP r.w=some (some (.ref ap))/\KTup K ap (ps.map V.str)/\(V.str r.nm::r.rest).length=ps.length/\ps.length<=10 /\
  ∀ (i:Nat) x y,(V.str r.nm::r.rest)[i]? = some x->ps[i]? = some y->Gu K aB ρ vs x y
 room:(r.w = "line" /\ PySem.W.nsIn K aM r.w=some none) \/ ∃ (m:Int) (t:Tok),PySem.W.nsIn K aM r.w=some (some (.int m t))/\(((vs.filter (pw ρ r.w)).length:Nat):Int)<m
 line:r.w = "line"->MN ρ vs r
 Vy:En ρ vs
noncomputable def lnOf (rk:List (Str × Nat × Int)) (r:R):Ln:=match r.rest with
 | [.int sh,.int lo,.int hi]=>⟨(rk.map (·.1)).idxOf r.nm,sh,lo,hi⟩
 | _=>⟨0,0,0,0⟩
noncomputable def putL (acc:List (List Ln)) (l:Ln):List (List Ln):=match acc.getLast? with
 | some z=>acc.dropLast++[z++[l]]
 | none=>[]
noncomputable def DN (rk:List (Str × Nat × Int)) (acc:List (List Ln)) (r:R):List (List Ln):=if Gk r.w=true then acc++[[]] else if r.w = "line" then putL acc (lnOf rk r) else acc
noncomputable def linesOf (rk:List (Str × Nat × Int)) (rs:List R):List (List Ln):=rs.foldl (DN rk) []
theorem CW (rk:List (Str × Nat × Int)) (rs:List R) (r:R):linesOf rk (rs++[r])=DN rk (linesOf rk rs) r:=by
 unfold linesOf
 rw [List.foldl_append]
 rfl
theorem Gb (acc:List (List Ln)) (z:List Ln) (l:Ln):putL (acc++[z]) l=acc++[z++[l]]:=by
 unfold putL
 rw [List.getLast?_concat,List.dropLast_concat]
structure eF (K:PySem.W.Frag) (aB aP aM:Addr) (ρ:V->R) (us:List V) (bs:List (Str × Nat)) (rk:List (Str × Nat × Int)) (ks:List R):Prop where
 kinds:∀ v∈us,(ρ v).w = "board" \/ (ρ v).w = "rank" \/ (ρ v).w = "line" \/ (ρ v).w = "stop" \/ (ρ v).w = "coupler" \/ (ρ v).w = "mute"
 eb:(us.filter (pw ρ "board")).map ρ=bs.map Ft
 er:(us.filter (pw ρ "rank")).map ρ=rk.map Fz
 ek:(us.filter (fun v=>Gk (ρ v).w)).map ρ=ks
 ln:∀ (i:Nat) v,us[i]? = some v->(ρ v).w = "line"->(∃ (j:Nat) (r:Str × Nat × Int) (sh lo hi:Int),rk[j]? = some r/\r.1=(ρ v).nm/\(ρ v).rest=[.int sh,.int lo,.int hi])/\∃ u∈us.take i,Gk (ρ u).w=true
 b0:1<=bs.length
 b5:bs.length<=5
 sz:∀ b∈bs,b.2<=61
 nr:rk.length<=12
 nz:∀ r∈rk,r.2.1<=97
 nk:ks.length<=100
 nb:(bs.map (·.1)).Nodup
 nrr:(rk.map (·.1)).Nodup
 nn:(ks.map (·.nm)).Nodup
 len:us.length<=150
 ok:∀ (i:Nat) v,us[i]? = some v->Hn K aB aP aM ρ (us.take i) (ρ v)
end Og
namespace Ws
open PySem PySem.Spec PyProof.Rows Wd
noncomputable def HR (prog:Program) (w:World) (h:Heap) (a:Addr) (led:Bool) (σ:List Str):Prop :=
 ∃ es ep t,h.get? a=some { cls:=.type "set",dict:=none,data:=.set es ep t }/\ElemsOf (strKind prog w) es.toList/\(∀ k,k∈σ ↔ ∃ e∈es.toList,(strKind prog w).is k e.2=true)/\es.size=σ.length/\σ.Nodup /\
  σ.length<scanBound/\t.fits es.size=true/\Good t led
noncomputable def Eh (σ:List Str) (k:Str):List Str:=if k∈σ then σ else σ++[k]
section
variable {prog:Program} {w:World} {A:Around} {E:Value->Shared->Prop} {s:Shared} {a:Addr} {led:Bool} {σ:List Str} {k:Str} {tk:Tok}
theorem Xk {Q:Bool->Shared->Prop} (hS:HR prog w s.heap a led σ) (room:σ.length+1<scanBound)
  (h:∀ b h',Heap.SameBut a s.heap h'->HR prog w h' a led (Eh σ k)->Q b { s with heap:=h' }):wpAny (model prog w) A (setAddHashed a (.str k tk) ((strKind prog w).hash k)) Q E s:=by
 obtain ⟨es,ep,t,ho,hel,hmem,hn,nd,hb,hf,g⟩:=hS
 have hkey:(strKind prog w).is k (.str k tk)=true:=strKind_is _ _ _ _
 have hbe:es.size<scanBound:=by rw [hn]; exact hb
 unfold setAddHashed setAddHashedIn
 refine wpAny_holding (wpAny_bind (wpAny_setState_of ho rfl hf ?_))
 dsimp only
 rw [byScan_of rfl hbe hel,if_pos rfl]
 unfold setAddByScan
 refine wpAny_bind (wpAny_bind (wpAny_rule (wpAny_bind (wpAny_setScan_of hkey ho rfl hf hel ?_))))
 cases hr:List.findIdx? (fun e=>(strKind prog w).is k e.2) es.toList with
 | some j =>
  obtain ⟨hj,hpj,_⟩:=List.findIdx?_eq_some_iff_getElem.mp hr
  have hk:k∈σ:=(hmem k).mpr ⟨_,List.getElem_mem hj,hpj⟩
  refine wpAny_pure (wpAny_pure ?_)
  have:=h false s.heap (Heap.SameBut.refl a s.heap) (by unfold Eh; rw [if_pos hk]; exact ⟨es,ep,t,ho,hel,hmem,hn,nd,hb,hf,g⟩)
  exact this
 | none =>
  have hk:k ∉ σ:=fun q=>by
   obtain ⟨e,he,hp⟩:=(hmem k).mp q
   have:=List.findIdx?_eq_none_iff.mp hr e he
   rw [hp] at this
   cases this
  dsimp only
  have hperm:=layNew_perm t es ((strKind prog w).hash k) (.str k tk)
  have hfits:=layNew_fits t es ((strKind prog w).hash k) (.str k tk)
  have hgood:=QL g es ((strKind prog w).hash k) (.str k tk)
  generalize layNew t es ((strKind prog w).hash k) (.str k tk)=L at hperm hfits hgood ⊢
  obtain ⟨es1,t1,wd,gave⟩:=L
  dsimp only at hperm hfits hgood ⊢
  rw [Array.toList_push] at hperm
  have hel1:ElemsOf (strKind prog w) es1.toList:=(hel.push hkey rfl).perm hperm
  have sz1:es1.size=(σ++[k]).length:=by
   have:=hperm.length_eq
   simp only [List.length_append,Array.length_toList,List.length_singleton] at this
   simp only [List.length_append,List.length_singleton]
   omega
  have mem1:∀ k',k'∈σ++[k] ↔ ∃ e∈es1.toList,(strKind prog w).is k' e.2=true:=fun k'=>by
   have:=mem_push_iff (knd:=strKind prog w) (S:=fun k'=>decide (k'∈σ)) hkey (fun k'=>by rw [decide_eq_true_eq]; exact hmem k') hperm k'
   rw [← this]
   simp
  have nd1:(σ++[k]).Nodup:=List.nodup_append.mpr ⟨nd,by simp,fun x hx y hy=>by
   rw [List.mem_singleton.mp hy]
   intro q
   exact hk (q ▸ hx)⟩
  have hb1:(σ++[k]).length<scanBound:=by simp only [List.length_append,List.length_singleton]; exact room
  have hb1':es1.size<scanBound:=by rw [sz1]; exact hb1
  have fin:∀ (es2:Array (Int × Value)) (t2:SetTable) (ep2:Nat) (h2:Heap),Heap.SameBut a s.heap h2->h2.get? a=some { cls:=.type "set",dict:=none,data:=.set es2 ep2 t2 }->es2.toList.Perm es1.toList->t2.fits es2.size=true->Good t2 led ->
    Q true { s with heap:=h2 }:=fun es2 t2 ep2 h2 sb e2 p2 f2 g2=>by
   refine h true h2 sb ?_
   unfold Eh
   rw [if_neg hk]
   refine ⟨es2,ep2,t2,e2,hel1.perm p2,fun k'=>(mem1 k').trans ⟨fun ⟨e,he,q⟩=>⟨e,p2.mem_iff.mpr he,q⟩,fun ⟨e,he,q⟩=>⟨e,p2.mem_iff.mp he,q⟩⟩,?_,nd1,hb1,f2,g2⟩
   rw [← Array.length_toList,p2.length_eq,Array.length_toList,sz1]
  have tail:∀ (t2:SetTable),t2.fits es1.size=true->Good t2 led->wpAny (model prog w) A (do
    storeSet a es1 t2
    if (!wd && t2.tooFull)=true then do
      (match (relayAll t2 es1 (SetTable.grown es1.size)).2.2 with | true=>rule "set.scan.the-table-gave-way" | false=>pure ())
      storeSet a (relayAll t2 es1 (SetTable.grown es1.size)).1 (relayAll t2 es1 (SetTable.grown es1.size)).2.1
      pure (some true)
     else pure (some true)) (fun r s'=>match r with | some b=>Q b s' | none=>False) E s:=fun t2 f2 g2=>by
   refine wpAny_bind (wpAny_storeSet_of ho rfl ?_ (fits_of_scanBound hb1'))
   have sb1:=Heap.SameBut.update s.heap a (Obj.putSet es1 t2)
   have e1:=Mu (es':=es1) (t':=t2) ho
   split
   ·have hp:=relayAll_perm t2 es1 (SetTable.grown es1.size)
    have hq:=relayAll_fits t2 es1 (SetTable.grown es1.size)
    have hg:=MP g2 es1 (SetTable.grown es1.size)
    generalize relayAll t2 es1 (SetTable.grown es1.size)=R at hp hq hg ⊢
    obtain ⟨es2,t3,gv⟩:=R
    dsimp only at hp hq hg ⊢
    have hb2:es2.size<scanBound:=by rw [← Array.length_toList,hp.length_eq,Array.length_toList]; exact hb1'
    have last:wpAny (model prog w) A (do storeSet a es2 t3; pure (some true)) (fun r s'=>match r with | some b=>Q b s' | none=>False) E { s with heap:=s.heap.update a (Obj.putSet es1 t2) }:=by
     refine wpAny_bind (wpAny_storeSet_of e1 rfl ?_ (fits_of_scanBound hb2))
     exact wpAny_pure (fin es2 t3 _ _ (sb1.trans (Heap.SameBut.update _ a _)) (Mu e1) hp hq hg)
    cases gv
    ·exact wpAny_bind (wpAny_pure last)
    ·exact wpAny_bind (wpAny_rule last)
   ·exact wpAny_pure (fin es1 t2 _ _ sb1 e1 (List.Perm.refl _) f2 g2)
  have tail':∀ (t2:SetTable),t2.fits es1.size=true->Good t2 led->wpAny (model prog w) A (do
    storeSet a es1 t2
    if (!wd && t2.tooFull)=true then do
      (match (relayAll t2 es1 (SetTable.grown es1.size)).2.2 with | true=>rule "set.scan.the-table-gave-way" | false=>pure ())
      storeSet a (relayAll t2 es1 (SetTable.grown es1.size)).1 (relayAll t2 es1 (SetTable.grown es1.size)).2.1
      pure (some true)
     else pure (some true)) (fun r s'=>wpAny (model prog w) A (match r with | some added=>pure added | none=>setAddHashedIn a (.str k tk) ((strKind prog w).hash k) 99999) Q E s') E s:=fun t2 f2 g2 =>
   wpAny_mono (tail t2 f2 g2) (fun r s' q=>by
    cases r with
    | none=>exact q.elim
    | some b=>exact wpAny_pure q) fun _ _ e=>e
  have mid:wpAny (model prog w) A (do
    let byValue ← if t1.plain then hashByValue 8 (.str k tk) else pure true
    let t2:=if byValue=true then t1 else { t1 with plain:=false }
    storeSet a es1 t2
    if (!wd && t2.tooFull)=true then do
      (match (relayAll t2 es1 (SetTable.grown es1.size)).2.2 with | true=>rule "set.scan.the-table-gave-way" | false=>pure ())
      storeSet a (relayAll t2 es1 (SetTable.grown es1.size)).1 (relayAll t2 es1 (SetTable.grown es1.size)).2.1
      pure (some true)
     else pure (some true)) (fun r s'=>wpAny (model prog w) A (match r with | some added=>pure added | none=>setAddHashedIn a (.str k tk) ((strKind prog w).hash k) 99999) Q E s') E s:=by
   split
   ·rw [hashByValue_scannable 8 rfl]
    exact wpAny_bind (wpAny_pure (tail' { t1 with plain:=false } hfits ⟨hgood.led,fun h=>by cases h⟩))
   ·exact wpAny_bind (wpAny_pure (tail' t1 hfits hgood))
  cases gave
  ·exact wpAny_bind (wpAny_pure mid)
  ·exact wpAny_bind (wpAny_rule mid)
end
inductive StrsAre:List Value->List Str->Prop
 | nil:StrsAre [] []
 | cons (z:Str) (t:Tok) {us:List Value} {zs:List Str}:StrsAre us zs->StrsAre (.str z t::us) (z::zs)
theorem StrsAre.length:∀ {us:List Value} {zs:List Str},StrsAre us zs->us.length=zs.length
 | _,_,.nil=>rfl
 | _,_,.cons z t r=>congrArg (· + 1) r.length
theorem StrsAre.QC:∀ {us:List Value} {zs:List Str},StrsAre us zs->∀ (i:Nat) (v:Value),us[i]? = some v->∃ t,v=.str (zs.getD i "") t
 | _,_,.nil,i,v,h=>by simp at h
 | _,_,.cons z t r,0,v,h=>by simp at h; exact ⟨t,h.symm⟩
 | _,_,.cons z t r,i+1,v,h=>by
  have h':_:=h
  rw [List.getElem?_cons_succ] at h'
  obtain ⟨t',e⟩:=r.QC i v h'
  exact ⟨t',by rw [e]; rfl⟩
theorem HR.keep {prog:Program} {w:World} {h h':Heap} {a:Addr} {led:Bool} {σ:List Str} (g:HR prog w h a led σ) (k:∀ o,h.get? a=some o->h'.get? a=some o):HR prog w h' a led σ :=
 let ⟨es,ep,t,e,r⟩:=g; ⟨es,ep,t,k _ e,r⟩
theorem Qo (σ:List Str) (k:Str):(Eh σ k).length<=σ.length+1:=by
 unfold Eh
 split
 ·omega
 ·simp
theorem JX:∀ (ns:List Str) (σ:List Str),(ns.foldl Eh σ).length<=σ.length+ns.length
 | [],σ=>by simp
 | k::ns,σ=>by
  have h1:=JX ns (Eh σ k)
  have h2:=Qo σ k
  simp only [List.foldl_cons,List.length_cons]
  omega
section
variable {prog:Program} {w:World} {A:Around} {R:Result->Shared->Prop} {I:Addr} {fp wr:List Addr} {G:Array GenState->Array GenState->Prop} {n:Nat} {P:Nat->Value->Prop} {St:Nat->Shared->Prop} {led:Bool}
theorem U_ (W:WalksS prog w A.in1 I fp wr G n P St) (S:Addr) (hSf:S ∉ fp) (ns:List Str) (hn:ns.length=n) (hval:∀ i v,P i v->∃ t,v=.str (ns.getD i "") t) (hb:n+1<scanBound) :
  ∀ (k i:Nat) (s:Shared),n - i=k->i<=n->St i s->HR prog w s.heap S led ((ns.take i).foldl Eh []) ->
   (∀ s',Moved (S::wr) G s s'->HR prog w s'.heap S led (ns.foldl Eh [])->R (.ok (.ret .none)) s')->codeAny (model prog w) A (.builtin "set.update.loop" ⟨[.ref S,.ref I],[]⟩) R s:=by
 have nw:S ∉ wr:=fun z=>hSf (W.sub _ z)
 have up:∀ b∈wr,b∈S::wr:=fun b z=>List.mem_cons_of_mem _ z
 intro k
 induction k with
 | zero =>
  intro i s hk hi st g hR
  obtain rfl:i=n:=by omega
  refine codeAny_builtin F.entry_set_update_loop ?_
  rw [Around.under_plainId F.plain_set_update_loop _]
  refine wpAny_bind (W.done s _ _ st fun s' m=>wpAny_pure (hR s' (m.mono up) ?_))
  rw [List.take_of_length_le (by omega)] at g
  exact g.keep fun o e=>m.heap S o nw e
 | succ k ih =>
  intro i s hk hi st g hR
  have lt:i<n:=by omega
  refine codeAny_builtin F.entry_set_update_loop ?_
  rw [Around.under_plainId F.plain_set_update_loop _]
  refine wpAny_bind (W.item i s _ _ lt st fun v s' p st' m=>?_)
  obtain ⟨t,rfl⟩:=hval i v p
  have g':=g.keep (h':=s'.heap) fun o e=>m.heap S o nw e
  refine wpAny_bind (wpAny_holding (wpAny_holding (wpAny_bind ((strKind prog w).pyHash (k:=ns.getD i "") (strKind_is _ _ _ _) ?_))))
  have room:((ns.take i).foldl Eh []).length+1<scanBound:=by
   have:=JX (ns.take i) []
   rw [List.length_take] at this
   simp at this
   omega
  have tk:ns.take (i+1)=ns.take i++[ns.getD i ""]:=by
   have hl:i<ns.length:=by omega
   rw [List.take_add_one,List.getElem?_eq_getElem hl]
   simp [hl]
  refine Xk (s:={ s' with toks:=s'.toks+1 }) g' room fun b h' sb g2=>?_
  have g3:HR prog w h' S led ((ns.take (i+1)).foldl Eh []):=by
   rw [tk,List.foldl_append]
   exact g2
  refine wpAny_pure ⟨plainId_quiet F.plain_set_update_loop _,ih (i+1) _ (by omega) lt (W.frame _ s' _ _ st' (Nat.le_succ _) fun b hb o e=>?_) g3 fun s'' m2 g4=>?_⟩
  ·rw [sb.2 b (fun z:b=S=>hSf (z ▸ hb))]
   exact e
  ·refine hR s'' (Moved.trans W.gtrans ((m.mono up).then_heap (Nat.le_succ _) fun b o hb e=>?_) m2) g4
   rw [sb.2 b (fun z:b=S=>hb (by rw [z]; exact List.mem_cons_self))]
   exact e
end
section
variable {prog:Program} {w:World} {A:Around} {E:Value->Shared->Prop} {s:Shared}
theorem Rn (h:Heap):HR prog w (h.push { cls:=.type "set",dict:=none,data:=.set #[] 0 (.fresh 0 0 (Dw w)) }) h.objs.size (Dw w) [] :=
 ⟨#[],0,_,Heap.get?_push_size _ rfl,fun e he=>by simp at he,fun k=>by simp,rfl,.nil,by decide,by rfl,Li _⟩
set_option maxHeartbeats 4000000 in
theorem YJ {l:Addr} {items:Array Value} {ns:List Str} {Q:Value->Shared->Prop} (hh:A.handled=none) (hl:s.heap.IsTuple l items) (hi:StrsAre items.toList ns) (hb:ns.length+1<scanBound)
  (h:∀ h' tk,HR prog w h' s.heap.objs.size (Dw w) (ns.foldl Eh [])->(∀ b o,s.heap.get? b=some o->h'.get? b=some o)->Q (.ref s.heap.objs.size) { s with heap:=h',toks:=tk }) :
  wpAny (model prog w) A (call (.type "set") [.ref l]) Q E s:=by
 obtain ⟨c,tl,hmro⟩:=F.called_set.mro
 have hmade:=F.called_set.made
 have hsub:=F.called_set.sub
 have hlen:items.size=ns.length:=by rw [← StrsAre.length hi]; simp
 refine wpAny_call (codeAny_of_tree ?_)
 show wpAny _ _ (callAny (.type "set") _) _ _ _
 refine wpAny_pure ⟨Code.quiet_builtin _ (by decide +kernel),codeAny_builtin F.entry_type_call ?_⟩
 rw [Around.under_plain (weight_type_call_type "set" [.ref l] []) rfl]
 have h1:=F.called_set.notType
 have h2:=F.called_set.canCreate
 have hct:=F.typeCall_set_1 (.ref l)
 repeat (any_goals (first | assumption | wp_step))
 refine codeAny_mono (Y4 (.ref l) (E:=E) (Q1:=fun obj s1=>obj=.ref s.heap.objs.size/\s1 = { s with heap:=s.heap.push { cls:=.type "set",dict:=none,data:=.set #[] 0 (.fresh 0 0 (Dw w)) } }) ⟨rfl,rfl⟩) fun r s1 hr=>?_
 rcases r with e | fl
 ·exact hr
 obtain ⟨obj,rfl,hr⟩:∃ obj,fl=.ret obj/\(obj=.ref s.heap.objs.size/\s1 = { s with heap:=s.heap.push { cls:=.type "set",dict:=none,data:=.set #[] 0 (.fresh 0 0 (Dw w)) } }):=by
  cases fl with
  | ret v=>exact ⟨v,rfl,hr⟩
  | _=>exact hr.elim
 obtain ⟨rfl,rfl⟩:=hr
 have hS:(s.heap.push { cls:=.type "set",dict:=none,data:=.set #[] 0 (.fresh 0 0 (Dw w)) }).get? s.heap.objs.size=some { cls:=.type "set",dict:=none,data:=.set #[] 0 (.fresh 0 0 (Dw w)) }:=Heap.get?_push_size _ rfl
 have hT:Shared.TypeIs { s with heap:=s.heap.push { cls:=.type "set",dict:=none,data:=.set #[] 0 (.fresh 0 0 (Dw w)) } } (.ref s.heap.objs.size) "set":=⟨_,hS,rfl⟩
 have hli:=F.called_set.init.lookup
 have hbi:=F.called_set.init.bind (.ref s.heap.objs.size)
 repeat (any_goals (first | assumption | wp_step))
 refine codeAny_mono (codeAny_call_builtin (R:=wants (fun r s2=>r=.none/\∃ h' tk,s2 = { s with heap:=h',toks:=tk }/\HR prog w h' s.heap.objs.size (Dw w) (ns.foldl Eh [])/\∀ b o,s.heap.get? b=some o->h'.get? b=some o) E)
  F.called_set.init.plain F.entry_set_init (check_set_init_1 hT ?_)) fun r2 s2 hr2=>?_
 ·obtain ⟨ol,hol,hcl,nl,hdl⟩:=hl
  obtain ⟨ocls,odict,odata,oslots⟩:=ol
  simp only at hcl hdl
  subst hcl; subst hdl
  have hol':(s.heap.push { cls:=.type "set",dict:=none,data:=.set #[] 0 (.fresh 0 0 (Dw w)) }).get? l=some { cls:=.type "tuple",dict:=odict,data:=.seq items nl,slots:=oslots }:=Heap.get?_push_of_some _ hol
  have hsls:=F.sub_tuple_set
  have hslf:=F.sub_tuple_frozenset
  have hne:(Value.type "tuple" == Value.type "dict")=false:=by decide
  have hl1:(s.heap.push { cls:=.type "set",dict:=none,data:=.set #[] 0 (.fresh 0 0 (Dw w)) }).IsTuple l items:=⟨_,hol',rfl,nl,rfl⟩
  unfold Builtin.«set.__init__» noKeywords Builtin.Frozenset.updateFrom
  generalize hPI:pyIter=PI
  wp_walk
  subst hPI
  refine wpAny_pyIter_tuple hl1 (wpAny_bind (wpAny_runValue ?_))
  have lS:l<s.heap.objs.size:=Heap.lt_size hol
  have h3:A.in1.in1.in1.handled=none:=by simp [hh]
  have nI:l ≠ (s.heap.push { cls:=.type "set",dict:=none,data:=.set #[] 0 (.fresh 0 0 (Dw w)) }).objs.size:=by
   rw [Heap.size_push]
   exact Nat.ne_of_lt (Nat.lt_succ_of_lt lS)
  have nf:s.heap.objs.size ∉ [(s.heap.push { cls:=.type "set",dict:=none,data:=.set #[] 0 (.fresh 0 0 (Dw w)) }).objs.size,l]:=by
   rw [Heap.size_push]
   intro z
   rcases List.mem_cons.mp z with q | q
   ·exact absurd q (Nat.ne_of_lt (Nat.lt_succ_self _))
   ·exact absurd (List.mem_singleton.mp q) (Nat.ne_of_gt lS)
  refine U_ ((Walks.tuple h3 _ l nI items).toS) s.heap.objs.size nf ns hlen.symm (fun i v hv=>StrsAre.QC hi i v (by rw [Array.getElem?_toList]; exact hv)) (by rw [hlen]; exact hb) (items.size - 0) 0 _ rfl (Nat.zero_le _)
   ⟨⟨_,Heap.get?_push_size _ rfl,rfl,rfl⟩,(hl1.push _)⟩ ((Rn s.heap).keep fun o e=>Heap.get?_push_of_some _ e) fun s' m g=>?_
  obtain ⟨h',g',d',tk',os'⟩:=s'
  obtain rfl:g'=s.gens:=m.gens
  obtain rfl:d'=s.drawn:=m.drawn
  obtain rfl:os'=s.os:=m.os
  show wpAny _ _ _ _ _ _
  refine wpAny_pure ?_
  show wpAny _ _ (ret Value.none) _ _ _
  refine wpAny_pure ⟨rfl,h',tk',rfl,g,fun b o e=>?_⟩
  have b1:=Heap.lt_size e
  refine m.heap b o (fun z=>?_) (Heap.get?_push_of_some _ (Heap.get?_push_of_some _ e))
  rcases List.mem_cons.mp z with q | q
  ·exact absurd q (Nat.ne_of_lt b1)
  ·have:=List.mem_singleton.mp q
   rw [Heap.size_push] at this
   exact absurd this (Nat.ne_of_lt (Nat.lt_succ_of_lt b1))
 ·rcases r2 with e | fl2
  ·exact hr2
  obtain ⟨r,rfl,hr2⟩:∃ r,fl2=.ret r/\(r=.none/\∃ h' tk,s2 = { s with heap:=h',toks:=tk }/\HR prog w h' s.heap.objs.size (Dw w) (ns.foldl Eh [])/\∀ b o,s.heap.get? b=some o->h'.get? b=some o):=by
   cases fl2 with
   | ret v=>exact ⟨v,rfl,hr2⟩
   | _=>exact hr2.elim
  obtain ⟨rfl,h',tk,rfl,g,hk⟩:=hr2
  repeat (any_goals (first | assumption | wp_step))
  exact h _ _ g hk
end
end Ws
namespace L2
open PySem PySem.Spec PyProof.Rows
noncomputable def Km (P:Program) (w:World) (a:Addr) (τ:List Str):HO:=.ext fun h=>Ws.HR P w h a (Wd.Dw w) τ
theorem Qi {P:Program} {w:World} {H:Hp} {h:Heap} {a:Addr} {τ:List Str} (g:Ws.HR P w h a (Wd.Dw w) τ):CQ P w H h a (Km P w a τ) :=
 ⟨g,(let ⟨_,_,_,e,_⟩:=g; ⟨_,e⟩),fun _ _ g k=>g.keep k⟩
theorem Jl:∀ {ts:List Str} {us:List Value},Vals (ts.map V.str) us->Ws.StrsAre us ts
 | [],_,r=>by cases r; exact .nil
 | n::ns,_,r=>by
  cases r with
  | cons r t =>
   obtain ⟨tk,rfl⟩:=r
   exact .cons n tk (Jl t)
section
variable {X:Cx}
theorem Nt (hc:X.calm=true):Fp X (.type "set") (fun xs H Q=>∃ (l:Addr) (ts:List Str),xs=[V.ref l]/\FW X.K H l (ts.map V.str)/\ts.length<=1000/\∀ p,H p=none->Q (.ref p) (upd H p (Km X.prog X.w p (ts.foldl Ws.Eh [])))):=by
 intro pins s σ H xs us Q I r h
 obtain ⟨l,ts,rfl,hl,hz,q⟩:=h
 obtain ⟨u,rfl,ru⟩:=vals1 r
 cases ru
 obtain ⟨its,rv,pl,_⟩:=I.tuple hl
 have hn:H s.heap.objs.size=none:=I.hok.fresh (Nat.le_refl _)
 refine Ws.YJ (I.ok.hd hc) pl (by simpa using Jl rv) (by unfold scanBound; omega) fun h' tk g k=>?_
 exact ⟨.ref s.heap.objs.size,_,I.laid (t':=tk) k (Nat.le_refl _) (Qi g),rfl,q _ hn⟩
theorem JN:Fp X (.builtin "len") (fun xs H Q=>∃ (a:Addr) (τ:List Str),xs=[V.ref a]/\H a=some (Km X.prog X.w a τ)/\Q (.int (τ.length:Nat)) H):=by
 intro pins s σ H xs us Q I r h
 obtain ⟨a,τ,rfl,ha,q⟩:=h
 obtain ⟨u,rfl,ru⟩:=vals1 r
 cases ru
 obtain ⟨⟨es,ep,t,e1,e2,e3,e4,e5,e6,e7,e8⟩,_,_⟩:=(show CQ X.prog X.w H s.heap a (Km X.prog X.w a τ) from I.hok a _ ha)
 unfold scanBound at e6
 refine call_len_set e1 ⟨rfl,rfl,rfl⟩ rfl e7 (by omega) ⟨.int ((es.size:Nat):Int),H,I.tok _,⟨_,rfl⟩,?_⟩
 rw [e4]
 exact q
end
theorem JR:∀ (ts τ:List Str),(τ++ts).Nodup->(ts.foldl Ws.Eh τ)=τ++ts
 | [],τ,_=>(List.append_nil _).symm
 | t::ts,τ,h=>by
  have hn:t ∉ τ:=fun z=>by
   rw [List.nodup_append] at h
   exact h.2.2 t z t (List.mem_cons_self ..) rfl
  rw [List.foldl_cons]
  have e:Ws.Eh τ t=τ++[t]:=by unfold Ws.Eh; rw [if_neg hn]
  rw [e,JR ts (τ++[t]) (by rw [List.append_assoc]; exact h),List.append_assoc]
  rfl
end L2
namespace L2
open PySem PySem.Spec PyProof.Rows
section
variable {X:Cx}
end
end L2
namespace L2
open PySem PySem.Spec PyProof.Rows
section
variable {σ:St} {H1:Hp} {Q:VK} {tt:TT} {te:TE}
theorem Kp {K:PySem.W.Frag} {a:Addr} {xs:List V} (p:V->Bool) (f:V->V) (hl:FW K H1 a xs) (hz:xs.length<sizeLine)
  (ht:∀ x∈xs,∀ H,Am H1 H->∀ R:Bool->Hp->Prop,(∀ H',Am H H'->R (p x) H')->tt (some x::σ) H R)
  (he:∀ x∈xs,p x=true->∀ H,Am H1 H->∀ R:VK,(∀ H',Am H H'->R (f x) H')->te (some x::σ) H R)
  (hq:∀ D H,H1 D=none->Am H1 H->H D=some (.lst ((xs.filter p).map f))->Q (.ref D) H):Fe (bM K a) σ H1 Q tt te :=
 GP p f hz (fun i H x hs hx=>⟨xs,x,hs.tup hl,hx⟩) (fun i H y H' hs _ hy=>⟨hy.1,hy.2 xs (hs.tup hl)⟩) (fun H hs=>⟨xs,hs.tup hl,Nat.le_refl _⟩) ht he hq
end
end L2
namespace Og
open PySem L2
theorem Qz {X:Cx} {K:PySem.W.Frag} {e:Expr} {f:Str} {pos:Pos} {ta:TE} (hK:X.K=K) (he:PE X e ta) (hb:attributeBase e f X.env (eval e X.env)=eval e X.env):PE X (.Attribute e f pos) (W8 K ta f):=by
 rw [← hK]
 exact De he hb
structure Vc (K:PySem.W.Frag) (aM:Addr) (ρ:V->R) (vs:List V) (r:R):Prop where
 w:r.w = "step"
 ts:∃ ts:List Str,V.str r.nm::r.rest=ts.map V.str/\ts.Nodup/\ts.length<=24/\∀ t∈ts,isNm t/\Qx ρ vs "stop" t=true
 room:∃ (m:Int) (t:Tok),PySem.W.nsIn K aM r.w=some (some (.int m t))/\(((vs.filter (pw ρ r.w)).length:Nat):Int)<m
noncomputable abbrev GK (K:PySem.W.Frag) (aB aP aM:Addr) (ρ:V->R) (vs:List V) (r:R):Prop:=Hn K aB aP aM ρ vs r \/ Vc K aM ρ vs r
theorem GK.room {K:PySem.W.Frag} {aB aP aM:Addr} {ρ:V->R} {vs:List V} {r:R} (h:GK K aB aP aM ρ vs r):PySem.W.nsIn K aM r.w=some none \/ ∃ (m:Int) (t:Tok),PySem.W.nsIn K aM r.w=some (some (.int m t))/\(((vs.filter (pw ρ r.w)).length:Nat):Int)<m :=
 h.elim (fun h=>h.room.elim (fun z=>.inl z.2) .inr) (fun h=>.inr h.room)
noncomputable def Jz (r:R):List Str:=(V.str r.nm::r.rest).map fun v=>match v with | .str t=>t | _=>""
theorem Hj {r:R} {ts:List Str} (h:V.str r.nm::r.rest=ts.map V.str):Jz r=ts:=by
 unfold Jz
 rw [h,List.map_map]
 exact List.map_id ts
noncomputable def stN (ks:List R) (r:R):Nat:=Wd.mk ((Jz r).map fun t=>(ks.map (·.nm)).idxOf t)
structure bH (K:PySem.W.Frag) (aB aP aM:Addr) (ρ:V->R) (us:List V) (bs:List (Str × Nat)) (rk:List (Str × Nat × Int)) (ks:List R):Prop where
 eb:(us.filter (pw ρ "board")).map ρ=bs.map Ft
 er:(us.filter (pw ρ "rank")).map ρ=rk.map Fz
 ek:(us.filter (fun v=>Gk (ρ v).w)).map ρ=ks
 ln:∀ (i:Nat) v,us[i]? = some v->(ρ v).w = "line"->(∃ (j:Nat) (r:Str × Nat × Int) (sh lo hi:Int),rk[j]? = some r/\r.1=(ρ v).nm/\(ρ v).rest=[.int sh,.int lo,.int hi])/\∃ u∈us.take i,Gk (ρ u).w=true
 st:∀ v∈us,(ρ v).w = "step"->∃ ts:List Str,V.str (ρ v).nm::(ρ v).rest=ts.map V.str/\ts.length<=24/\∀ t∈ts,t∈ks.map (·.nm)
 b0:1<=bs.length
 b5:bs.length<=5
 sz:∀ b∈bs,b.2<=61
 nr:rk.length<=12
 nz:∀ r∈rk,r.2.1<=97
 nk:ks.length<=100
 nb:(bs.map (·.1)).Nodup
 nrr:(rk.map (·.1)).Nodup
 nn:(ks.map (·.nm)).Nodup
 len:us.length<=150
 ok:∀ (i:Nat) v,us[i]? = some v->GK K aB aP aM ρ (us.take i) (ρ v)
structure J2 (C:Addr) (H:Hp) (x:Addr) (us:List V) (bs:List (Str × Nat)) (rk:List (Str × Nat × Int)) (ks:List R) (ls:List (List Ln)) (sts:List Nat):Prop where
 o:Ex C H x bs rk ks ls
 m:∃ (dx:Addr) (fs:List (Str × V)) (rl kd ss:Addr) (kvs:List (Key × V)),H x=some (.ins C dx fs)/\fs.lookup ("row_list" : Str)=some (.ref rl)/\fs.lookup ("knob_numbers" : Str)=some (.ref kd)/\fs.lookup ("step_sets" : Str)=some (.ref ss) /\
  H rl=some (.lst us)/\H kd=some (.dK kvs)/\(∀ (i:Nat) t,(ks.map (·.nm))[i]? = some t->CJ kvs (Sum.inr t)=some (.int (i:Nat)))/\(∀ t,t ∉ ks.map (·.nm)->CJ kvs (Sum.inr t)=none)/\H ss=some (.lst (sts.map fun n:Nat=>V.int (n:Int))) /\
  ∃ (bn:Addr) (kb:List (Key × V)),fs.lookup ("board_numbers" : Str)=some (.ref bn)/\H bn=some (.dK kb)/\∀ t,t ∉ bs.map (·.1)->CJ kb (Sum.inr t)=none
theorem J2.mono {C:Addr} {H H':Hp} {x:Addr} {us:List V} {bs:List (Str × Nat)} {rk:List (Str × Nat × Int)} {ks:List R} {ls:List (List Ln)} {sts:List Nat} (s:Am H H') (h:J2 C H x us bs rk ks ls sts):J2 C H' x us bs rk ks ls sts:=by
 obtain ⟨o,dx,fs,rl,kd,ss,kvs,h1,l1,l2,l3,h2,h3,h4,h5,h6,bn,kb,h7,h8,h9⟩:=h
 exact ⟨o.mono s,dx,fs,rl,kd,ss,kvs,s _ _ h1,l1,l2,l3,s _ _ h2,s _ _ h3,h4,h5,s _ _ h6,bn,kb,h7,s _ _ h8,h9⟩
noncomputable def Dn (p:Addr) (H:Hp) (D:Addr) (ls:List (List Ln)):Prop:=∃ lv,H D=some (.lst lv)/\D ≠ p/\Paired (fun l v=>F_ H l v/\v ≠ .ref p) ls lv
theorem Dn.mono {p:Addr} {H H':Hp} {D:Addr} {ls:List (List Ln)} (s:Am H H') (h:Dn p H D ls):Dn p H' D ls:=by
 obtain ⟨lv,h1,h2,h3⟩:=h
 exact ⟨lv,s _ _ h1,h2,Paired.Ez h3 fun _ _ q=>⟨q.1.mono s,q.2⟩⟩
theorem Dn.sx {p x C dx:Addr} {fs:List (Str × V)} {H H':Hp} {D:Addr} {ls:List (List Ln)} (h:Dn p H D ls) (s:SX x H H') (hx:H x=some (.ins C dx fs)):Dn p H' D ls:=by
 obtain ⟨lv,h1,h2,h3⟩:=h
 refine ⟨lv,s.lst hx h1,h2,Paired.Ez h3 fun _ _ q=>⟨?_,q.2⟩⟩
 obtain ⟨A,ts,e,h4,h5⟩:=q.1
 exact ⟨A,ts,e,s.lst hx h4,s.pair hx h5⟩
theorem QV {p:Addr} {H H':Hp} {us zs:List V} {y:V} (s:SX p H H') (hp:H p=some (.lst us)) (h:TupAt H zs y):TupAt H' zs y:=by
 obtain ⟨T,rfl,e⟩:=h
 exact ⟨T,rfl,s _ _ e fun z=>by rw [z,hp] at e; cases e⟩
theorem HN {α:Type} {f:α->List V} {p:Addr} {H H':Hp} {us vs:List V} {l:List α} (s:SX p H H') (hp:H p=some (.lst us)) (h:Paired (fun a y=>TupAt H (f a) y) l vs):Paired (fun a y=>TupAt H' (f a) y) l vs:=Paired.Ez h fun _ _ q=>QV s hp q
theorem Ni {p a:Addr} {H H':Hp} {us:List V} {kvs:List (Key × V)} (s:SX p H H') (hp:H p=some (.lst us)) (h:H a=some (.dK kvs)):H' a=some (.dK kvs):=s _ _ h fun z=>by rw [z,hp] at h; cases h
theorem Dn.sp {p:Addr} {H H':Hp} {us:List V} {D:Addr} {ls:List (List Ln)} (h:Dn p H D ls) (s:SX p H H') (hp:H p=some (.lst us)):Ha H' D ls:=by
 obtain ⟨lv,h1,h2,h3⟩:=h
 refine ⟨lv,s _ _ h1 h2,Paired.Ez h3 fun _ v q=>?_⟩
 obtain ⟨⟨A,ts,rfl,h4,h5⟩,hn⟩:=q
 exact ⟨A,ts,rfl,s _ _ h4 (fun z=>hn (by rw [z])),HN s hp h5⟩
end Og
namespace Og
open PySem L2 PyProof.Rows
theorem U4:∀ n<26,letters.cps.toList[n]? = some (97+n):=by decide +kernel
theorem MK {i:Int} (h0:0<=i) (h1:i<26):Ot letters.cps.toList i=some (97+i.toNat):=by
 have h:=Al (U4 i.toNat (by omega))
 have e:((i.toNat:Nat):Int)=i:=by omega
 rw [e] at h
 exact h
theorem Rr:(("" : Str)).cps = #[]:=by decide +kernel
end Og
namespace Og
open PySem L2 PyProof.Rows
variable {K:PySem.W.Frag}
structure O5 (K:PySem.W.Frag) (aB aP aM:Addr):Prop where
 f:KF K aB aP aM
 pR:∃ a,PySem.W.nsIn K aP "rank" = some (some (.ref a))/\KTup K a (["new","pipes","wind"].map fun s:String=>V.str s)
 pL:∃ a,PySem.W.nsIn K aP "line" = some (some (.ref a))/\KTup K a (["rank","shift","low","high"].map fun s:String=>V.str s)
 bP:∃ a,PySem.W.nsIn K aB "pipes" = some (some (.ref a))/\KTup K a [.int 1,.int 97]
 bW:∃ a,PySem.W.nsIn K aB "wind" = some (some (.ref a))/\KTup K a [.int 0,.int 1000000000]
 bS:∃ a,PySem.W.nsIn K aB "shift" = some (some (.ref a))/\KTup K a [.int (-200),.int 200]
 bLo:∃ a,PySem.W.nsIn K aB "low" = some (some (.ref a))/\KTup K a [.int 0,.int 60]
 bHi:∃ a,PySem.W.nsIn K aB "high" = some (some (.ref a))/\KTup K a [.int 0,.int 60]
 bR:PySem.W.nsIn K aB "rank" = some none
 mR:∃ t,PySem.W.nsIn K aM "rank" = some (some (.int 12 t))
 mL:PySem.W.nsIn K aM "line" = some none
section
variable {aB aP aM:Addr} {ρ:V->R} {vs:List V} {wn:List (Str × Str)} {t:Str}
theorem NK {r:R} (h:JS K aB aP aM ρ vs r) (hb:En ρ vs):Hn K aB aP aM ρ vs r:=⟨h.ns,h.parts,.inr h.room,fun z=>absurd z h.nl,hb⟩
theorem Ox (F:KF K aB aP aM) {wd:Str} (hw:wd = "stop" \/ wd = "mute") (e:GJ ρ vs=wn) (ht:isNm t) (h:∀ w∈named,NT wn w t=false) (hc:QR wn wd<Mr wd) {a:Str} (ha:isNm a) (ha':NT wn "board" a=true):JS K aB aP aM ρ vs ⟨wd,t,[.str a]⟩:=by
 have parts:∀ (j:Nat) x (y:Str),[V.str t,.str a][j]? = some x->(["new","board"]:List Str)[j]? = some y->Gu K aB ρ vs x y:=fun j x y hx hy=>by
  match j,hx,hy with
  | 0,hx,hy =>
   cases (Option.some.inj hx)
   cases (Option.some.inj hy)
   exact HY F e ht h
  | 1,hx,hy =>
   cases (Option.some.inj hx)
   cases (Option.some.inj hy)
   exact G3 F e ha ha'
  | j+2,hx,hy=>simp at hy
 have hcnt:=G7 ρ vs wd
 rw [e] at hcnt
 rcases hw with rfl | rfl
 ·obtain ⟨ap,g1,g2⟩:=F.pS
  obtain ⟨tk,g5⟩:=F.mS
  have hm:Mr "stop" = 24:=by decide +kernel
  refine ⟨by show ¬ ("stop" : Str) = "step"; decide +kernel,by show ¬ ("stop" : Str) = "line"; decide +kernel,⟨ap,["new","board"],g1,g2,rfl,by decide,parts⟩,⟨24,tk,g5,?_⟩⟩
  show (((vs.filter (pw ρ "stop")).length:Nat):Int)<24
  omega
 ·obtain ⟨ap,g1,g2⟩:=F.pM
  obtain ⟨tk,g5⟩:=F.mM
  have hm:Mr "mute" = 5:=by decide +kernel
  refine ⟨by show ¬ ("mute" : Str) = "step"; decide +kernel,by show ¬ ("mute" : Str) = "line"; decide +kernel,⟨ap,["new","board"],g1,g2,rfl,by decide,parts⟩,⟨5,tk,g5,?_⟩⟩
  show (((vs.filter (pw ρ "mute")).length:Nat):Int)<5
  omega
theorem Om (F:O5 K aB aP aM) (e:GJ ρ vs=wn) (ht:isNm t) (h:∀ w∈named,NT wn w t=false) (hc:QR wn "rank" < 12) {n:Nat} {wi:Int} (h1:1<=n) (h2:n<=97) (h3:0<=wi) (h4:wi<=1000000000) (hb:En ρ vs):Hn K aB aP aM ρ vs (Fz (t,n,wi)):=by
 obtain ⟨ap,g1,g2⟩:=F.pR
 obtain ⟨ab,g3,g4⟩:=F.bP
 obtain ⟨aw,g6,g7⟩:=F.bW
 obtain ⟨tk,g5⟩:=F.mR
 refine ⟨by show ¬ ("rank" : Str) = "step"; decide +kernel,⟨ap,["new","pipes","wind"],g1,g2,rfl,by decide,fun j x y hx hy=>?_⟩,.inr ⟨12,tk,g5,?_⟩,fun z=>absurd z (by show ¬ ("rank" : Str) = "line"; decide +kernel),hb⟩
 ·match j,hx,hy with
  | 0,hx,hy =>
   cases (Option.some.inj hx)
   cases (Option.some.inj hy)
   exact HY F.f e ht h
  | 1,hx,hy =>
   cases (Option.some.inj hx)
   cases (Option.some.inj hy)
   exact .inl ⟨((n:Nat):Int),1,97,ab,rfl,g3,g4,by omega,by omega⟩
  | 2,hx,hy =>
   cases (Option.some.inj hx)
   cases (Option.some.inj hy)
   exact .inl ⟨_,0,1000000000,aw,rfl,g6,g7,h3,h4⟩
  | j+3,hx,hy=>simp at hy
 ·rw [G7,e]
  show ((QR wn "rank" : Nat):Int)<12
  omega
theorem Nv (F:O5 K aB aP aM) (e:GJ ρ vs=wn) (ht:isNm t) (h:NT wn "rank" t=true) {sh lo hi:Int} (b1 : -200<=sh) (b2:sh<=200) (b3:0<=lo) (b4:lo<=60) (b5:0<=hi) (b6:hi<=60) (hb:En ρ vs) (hl:MN ρ vs ⟨"line",t,[.int sh,.int lo,.int hi]⟩):Hn K aB aP aM ρ vs ⟨"line",t,[.int sh,.int lo,.int hi]⟩:=by
 obtain ⟨ap,g1,g2⟩:=F.pL
 obtain ⟨a1,g3,g4⟩:=F.bS
 obtain ⟨a2,g5,g6⟩:=F.bLo
 obtain ⟨a3,g7,g8⟩:=F.bHi
 refine ⟨by show ¬ ("line" : Str) = "step"; decide +kernel,⟨ap,["rank","shift","low","high"],g1,g2,rfl,by decide,fun j x y hx hy=>?_⟩,.inl ⟨rfl,F.mL⟩,fun _=>hl,hb⟩
 match j,hx,hy with
 | 0,hx,hy =>
  cases (Option.some.inj hx)
  cases (Option.some.inj hy)
  exact .inr (.inr ⟨F.bR,by decide +kernel,_,rfl,ht,by rw [Ho,e]; exact h⟩)
 | 1,hx,hy =>
  cases (Option.some.inj hx)
  cases (Option.some.inj hy)
  exact .inl ⟨_,-200,200,a1,rfl,g3,g4,b1,b2⟩
 | 2,hx,hy =>
  cases (Option.some.inj hx)
  cases (Option.some.inj hy)
  exact .inl ⟨_,0,60,a2,rfl,g5,g6,b3,b4⟩
 | 3,hx,hy =>
  cases (Option.some.inj hx)
  cases (Option.some.inj hy)
  exact .inl ⟨_,0,60,a3,rfl,g7,g8,b5,b6⟩
 | j+4,hx,hy=>simp at hy
end
structure di (K:PySem.W.Frag) (aB aP aM:Addr) (ρ:V->R) (us:List V) (bs:List (Str × Nat)) (rk:List (Str × Nat × Int)) (ks:List R):Prop where
 kinds:∀ v∈us,(ρ v).w = "board" \/ (ρ v).w = "rank" \/ (ρ v).w = "line" \/ (ρ v).w = "stop" \/ (ρ v).w = "coupler" \/ (ρ v).w = "mute"
 eb:(us.filter (pw ρ "board")).map ρ=bs.map Ft
 er:(us.filter (pw ρ "rank")).map ρ=rk.map Fz
 ek:(us.filter (fun v=>Gk (ρ v).w)).map ρ=ks
 ln:∀ (i:Nat) v,us[i]? = some v->(ρ v).w = "line"->(∃ (j:Nat) (r:Str × Nat × Int) (sh lo hi:Int),rk[j]? = some r/\r.1=(ρ v).nm/\(ρ v).rest=[.int sh,.int lo,.int hi])/\∃ u∈us.take i,Gk (ρ u).w=true
 ok:∀ (i:Nat) v,us[i]? = some v->Hn K aB aP aM ρ (us.take i) (ρ v)
section
variable {aB aP aM:Addr} {ρ:V->R} {us:List V} {v:V} {bs bs':List (Str × Nat)} {rk rk':List (Str × Nat × Int)} {ks ks':List R}
theorem IV {w t:Str}:Qx ρ us w t=true ↔ ∃ v∈us,(ρ v).w=w/\(ρ v).nm=t:=by
 unfold Qx
 rw [List.any_eq_true]
 constructor
 ·rintro ⟨v,hv,hn⟩
  obtain ⟨h1,h2⟩:=List.mem_filter.mp hv
  exact ⟨v,h1,V.str.inj (of_decide_eq_true h2),V.str.inj (of_decide_eq_true hn)⟩
 ·rintro ⟨v,hv,h1,h2⟩
  exact ⟨v,List.mem_filter.mpr ⟨hv,decide_eq_true (congrArg V.str h1)⟩,decide_eq_true (congrArg V.str h2)⟩
theorem Im {w:Str} (h:w = "stop" \/ w = "coupler" \/ w = "mute"):Gk w=true:=by rcases h with rfl | rfl | rfl <;> decide +kernel
theorem Ik {p:V->Bool} (h:p v=true):(us++[v]).filter p=us.filter p++[v]:=by
 rw [List.filter_append,List.filter_cons,if_pos h]
 rfl
theorem Dj {p:V->Bool} (h:p v=false):(us++[v]).filter p=us.filter p:=by
 rw [List.filter_append,List.filter_cons,if_neg (by rw [h]; decide)]
 simp
end
structure d_ (K:PySem.W.Frag) (aB aP aM:Addr) (rows:List R) (bs:List (Str × Nat)) (rk:List (Str × Nat × Int)) (ks:List R) (ls:List (List Ln)):Prop where
 ok:∀ (ρ:V->R) (us:List V),us.map ρ=rows->di K aB aP aM ρ us bs rk ks
 ln0:ks=[]->∀ rk',linesOf rk' rows=[]
 ln:linesOf rk rows=ls
section
variable {aB aP aM:Addr} {rows:List R} {bs:List (Str × Nat)} {rk:List (Str × Nat × Int)} {ks:List R} {ls:List (List Ln)}
theorem HH {ρ:V->R} {us:List V} {r:R} (e:us.map ρ=rows++[r]):∃ us' v,us=us'++[v]/\us'.map ρ=rows/\ρ v=r:=by
 obtain ⟨a,b,rfl,h1,h2⟩:=List.map_eq_append_iff.mp e
 obtain ⟨v,l,rfl,h3,h4⟩:=List.map_eq_cons_iff.mp h2
 rw [List.map_eq_nil_iff.mp h4]
 exact ⟨a,v,rfl,h1,h3⟩
noncomputable def Tl (rows:List R) (bd:Str) (cnt:Nat):Prop:=∃ (r0:List R) (st:R) (lr:List R),rows=r0++st::lr/\st.w = "stop" /\ st.rest=[.str bd]/\lr.length=cnt/\∀ r∈lr,r.w = "line"
theorem Tl.stop (rows:List R) (t bd:Str):Tl (rows++[⟨"stop",t,[.str bd]⟩]) bd 0:=⟨rows,_,[],rfl,rfl,rfl,rfl,fun _ h=>nomatch h⟩
theorem Tl.line {bd:Str} {cnt:Nat} {r:R} (h:Tl rows bd cnt) (hw:r.w = "line"):Tl (rows++[r]) bd (cnt+1):=by
 obtain ⟨r0,st,lr,rfl,h1,h2,h3,h4⟩:=h
 refine ⟨r0,st,lr++[r],by simp,h1,h2,by simp [h3],fun x hx=>?_⟩
 rcases List.mem_append.mp hx with g | g
 ·exact h4 x g
 ·rw [List.mem_singleton.mp g]
  exact hw
end
end Og
namespace Og
open PySem L2 PyProof.Rows
variable {K:PySem.W.Frag}
structure G6 (K:PySem.W.Frag) (aB aP aM:Addr) (ρ:V->R) (us:List V) (bs:List (Str × Nat)) (rk:List (Str × Nat × Int)) (ks:List R):Prop where
 eb:(us.filter (pw ρ "board")).map ρ=bs.map Ft
 er:(us.filter (pw ρ "rank")).map ρ=rk.map Fz
 ek:(us.filter (fun v=>Gk (ρ v).w)).map ρ=ks
 ln:∀ (i:Nat) v,us[i]? = some v->(ρ v).w = "line"->(∃ (j:Nat) (r:Str × Nat × Int) (sh lo hi:Int),rk[j]? = some r/\r.1=(ρ v).nm/\(ρ v).rest=[.int sh,.int lo,.int hi])/\∃ u∈us.take i,Gk (ρ u).w=true
 ok:∀ (i:Nat) v,us[i]? = some v->GK K aB aP aM ρ (us.take i) (ρ v)
section
variable {aB aP aM:Addr} {ρ:V->R} {us:List V} {v:V} {bs bs':List (Str × Nat)} {rk rk':List (Str × Nat × Int)} {ks ks':List R}
theorem G6.nil:G6 K aB aP aM ρ [] [] [] []:=⟨rfl,rfl,rfl,(fun i v h=>by simp at h),(fun i v h=>by simp at h)⟩
theorem G6.S8 (h:G6 K aB aP aM ρ us bs rk ks) (hv:v∈us) (hw:(ρ v).w = "board"):∃ b∈bs,Ft b=ρ v:=by
 have:ρ v∈(us.filter (pw ρ "board")).map ρ:=List.mem_map_of_mem (List.mem_filter.mpr ⟨hv,decide_eq_true (congrArg V.str hw)⟩)
 rw [h.eb] at this
 exact List.mem_map.mp this
theorem G6.YL (h:G6 K aB aP aM ρ us bs rk ks) (hv:v∈us) (hw:(ρ v).w = "rank"):∃ b∈rk,Fz b=ρ v:=by
 have:ρ v∈(us.filter (pw ρ "rank")).map ρ:=List.mem_map_of_mem (List.mem_filter.mpr ⟨hv,decide_eq_true (congrArg V.str hw)⟩)
 rw [h.er] at this
 exact List.mem_map.mp this
theorem G6.PK (h:G6 K aB aP aM ρ us bs rk ks) (hv:v∈us) (hw:Gk (ρ v).w=true):ρ v∈ks:=by
 have:ρ v∈(us.filter (fun v=>Gk (ρ v).w)).map ρ:=List.mem_map_of_mem (List.mem_filter.mpr ⟨hv,hw⟩)
 rw [h.ek] at this
 exact this
theorem G6.Vy (h:G6 K aB aP aM ρ us bs rk ks):En ρ us:=fun v hv hw=>by
 obtain ⟨b,_,e⟩:=h.S8 hv hw
 exact ⟨_,by rw [← e]⟩
theorem G6.Sx (h:G6 K aB aP aM ρ us bs rk ks) {b:Str × Nat} (hb:b∈bs):∃ v∈us,ρ v=Ft b:=by
 have:Ft b∈(us.filter (pw ρ "board")).map ρ:=by rw [h.eb]; exact List.mem_map_of_mem hb
 obtain ⟨v,hv,e⟩:=List.mem_map.mp this
 exact ⟨v,(List.mem_filter.mp hv).1,e⟩
theorem G6.XX (h:G6 K aB aP aM ρ us bs rk ks) {r:Str × Nat × Int} (hr:r∈rk):∃ v∈us,ρ v=Fz r:=by
 have:Fz r∈(us.filter (pw ρ "rank")).map ρ:=by rw [h.er]; exact List.mem_map_of_mem hr
 obtain ⟨v,hv,e⟩:=List.mem_map.mp this
 exact ⟨v,(List.mem_filter.mp hv).1,e⟩
theorem G6.L_ (h:G6 K aB aP aM ρ us bs rk ks) {b:Str × Nat} (hb:b∈bs):NT (GJ ρ us) "board" b.1=true:=by
 obtain ⟨v,hv,e⟩:=h.Sx hb
 rw [← Ho,IV]
 exact ⟨v,hv,by rw [e],by rw [e]⟩
theorem G6.U3 (h:G6 K aB aP aM ρ us bs rk ks) {r:Str × Nat × Int} (hr:r∈rk):NT (GJ ρ us) "rank" r.1=true:=by
 obtain ⟨v,hv,e⟩:=h.XX hr
 rw [← Ho,IV]
 exact ⟨v,hv,by rw [e],by rw [e]⟩
theorem G6.fresh (h:G6 K aB aP aM ρ us bs rk ks) {t:Str} (hb:∀ b∈bs,b.1 ≠ t) (hr:∀ r∈rk,r.1 ≠ t) (hk:∀ k∈ks,k.nm ≠ t):∀ w∈named,NT (GJ ρ us) w t=false:=by
 intro w hw
 rw [← Ho,← Bool.not_eq_true,IV]
 rintro ⟨v,hv,hw',hn⟩
 simp only [List.mem_cons,List.mem_singleton,List.not_mem_nil,or_false] at hw
 rcases hw with rfl | rfl | rfl | rfl | rfl
 ·obtain ⟨b,hb',e⟩:=h.S8 hv hw'
  exact hb b hb' (by rw [← hn,← e])
 ·obtain ⟨b,hb',e⟩:=h.YL hv hw'
  exact hr b hb' (by rw [← hn,← e])
 ·exact hk _ (h.PK hv (Im (.inl hw'))) hn
 ·exact hk _ (h.PK hv (Im (.inr (.inl hw')))) hn
 ·exact hk _ (h.PK hv (Im (.inr (.inr hw')))) hn
theorem G6.Xl (h:G6 K aB aP aM ρ us bs rk ks):QR (GJ ρ us) "board" = bs.length:=by
 rw [← G7,← List.length_map (f:=ρ),h.eb,List.length_map]
theorem G6.Yq (h:G6 K aB aP aM ρ us bs rk ks):QR (GJ ρ us) "rank" = rk.length:=by
 rw [← G7,← List.length_map (f:=ρ),h.er,List.length_map]
theorem G6.S_ (h:G6 K aB aP aM ρ us bs rk ks) {w:Str} (hw:w = "stop" \/ w = "coupler" \/ w = "mute"):QR (GJ ρ us) w=(ks.filter fun r=>decide (V.str r.w=V.str w)).length:=by
 rw [← G7,← h.ek,List.filter_map,List.length_map,List.filter_filter]
 refine congrArg List.length (List.filter_congr fun v _=>?_)
 show pw ρ w v=(pw ρ w v && Gk (ρ v).w)
 by_cases e:(ρ v).w=w
 ·rw [Im (by rw [e]; exact hw),Bool.and_true]
 ·have:pw ρ w v=false:=decide_eq_false fun z=>e (V.str.inj z)
  rw [this,Bool.false_and]
theorem G6.snoc (h:G6 K aB aP aM ρ us bs rk ks)
  (eb:((us++[v]).filter (pw ρ "board")).map ρ=bs'.map Ft) (er:((us++[v]).filter (pw ρ "rank")).map ρ=rk'.map Fz) (ek:((us++[v]).filter (fun v=>Gk (ρ v).w)).map ρ=ks')
  (hr:∀ (j:Nat) r,rk[j]? = some r->rk'[j]? = some r)
  (hl:(ρ v).w = "line"->(∃ (j:Nat) (r:Str × Nat × Int) (sh lo hi:Int),rk'[j]? = some r/\r.1=(ρ v).nm/\(ρ v).rest=[.int sh,.int lo,.int hi])/\∃ u∈us,Gk (ρ u).w=true)
  (ok:GK K aB aP aM ρ us (ρ v)):G6 K aB aP aM ρ (us++[v]) bs' rk' ks':=by
 have at_:∀ {i:Nat} {u:V},(us++[v])[i]? = some u->us[i]? = some u/\(us++[v]).take i=us.take i \/ u=v/\(us++[v]).take i=us:=fun {i u} hi=>by
  by_cases hlt:i<us.length
  ·rw [List.getElem?_append_left hlt] at hi
   exact .inl ⟨hi,List.take_append_of_le_length (Nat.le_of_lt hlt)⟩
  ·have h2:=(List.getElem?_eq_some_iff.mp hi).1
   rw [List.length_append,List.length_singleton] at h2
   have hil:i=us.length:=by omega
   subst hil
   rw [List.getElem?_append_right (Nat.le_refl _),Nat.sub_self] at hi
   exact .inr ⟨(Option.some.inj hi).symm,by rw [List.take_append_of_le_length (Nat.le_refl _),List.take_length]⟩
 refine ⟨eb,er,ek,fun i u hi hw=>?_,fun i u hi=>?_⟩
 ·rcases at_ hi with ⟨h1,h2⟩ | ⟨rfl,h2⟩
  ·rw [h2]
   obtain ⟨⟨j,r,sh,lo,hi',g1,g2,g3⟩,g4⟩:=h.ln i u h1 hw
   exact ⟨⟨j,r,sh,lo,hi',hr j r g1,g2,g3⟩,g4⟩
  ·rw [h2]
   exact hl hw
 ·rcases at_ hi with ⟨h1,h2⟩ | ⟨rfl,h2⟩
  ·rw [h2]
   exact h.ok i u h1
  ·rw [h2]
   exact ok
end
theorem Lg {rk:List (Str × Nat × Int)} {x:Str × Nat × Int}:∀ {rows:List R},(∀ r∈rows,r.w = "line"->r.nm∈rk.map (·.1))->linesOf (rk++[x]) rows=linesOf rk rows:=by
 have key:∀ (rows:List R),(∀ r∈rows,r.w = "line"->r.nm∈rk.map (·.1))->∀ acc,rows.foldl (DN (rk++[x])) acc=rows.foldl (DN rk) acc:=by
  intro rows
  induction rows with
  | nil=>intro _ _; rfl
  | cons r rs ih =>
   intro h acc
   have e:DN (rk++[x]) acc r=DN rk acc r:=by
    unfold DN
    by_cases h1:Gk r.w=true
    ·rw [if_pos h1,if_pos h1]
    ·rw [if_neg h1,if_neg h1]
     by_cases h2:r.w = "line"
     ·rw [if_pos h2,if_pos h2]
      have hm:=h r (List.mem_cons_self ..) h2
      have:lnOf (rk++[x]) r=lnOf rk r:=by
       unfold lnOf
       rw [List.map_append,List.idxOf_append,if_pos hm]
      rw [this]
     ·rw [if_neg h2,if_neg h2]
   show rs.foldl _ (DN (rk++[x]) acc r)=rs.foldl _ (DN rk acc r)
   rw [e]
   exact ih (fun r hr=>h r (List.mem_cons_of_mem _ hr)) _
 exact fun {rows} h=>key rows h []
theorem QF {ks:List R} {k r:R} (h:∀ t∈Jz r,t∈ks.map (·.nm)):stN (ks++[k]) r=stN ks r:=by
 unfold stN
 refine congrArg Wd.mk (List.map_congr_left fun t ht=>?_)
 rw [List.map_append,List.idxOf_append,if_pos (h t ht)]
noncomputable abbrev Rq (r:R):Bool:=decide (V.str r.w=V.str "step")
structure Hd (K:PySem.W.Frag) (aB aP aM:Addr) (rows:List R) (bs:List (Str × Nat)) (rk:List (Str × Nat × Int)) (ks:List R) (ls:List (List Ln)) (sts:List Nat):Prop where
 ok:∀ (ρ:V->R) (us:List V),us.map ρ=rows->G6 K aB aP aM ρ us bs rk ks
 ln:linesOf rk rows=ls
 st:(rows.filter Rq).map (stN ks)=sts
 lm:∀ r∈rows,r.w = "line"->r.nm∈rk.map (·.1)
 sm:∀ r∈rows,r.w = "step"->∃ ts:List Str,V.str r.nm::r.rest=ts.map V.str/\ts.length<=24/\∀ t∈ts,t∈ks.map (·.nm)
section
variable {aB aP aM:Addr} {rows:List R} {bs:List (Str × Nat)} {rk:List (Str × Nat × Int)} {ks:List R} {ls:List (List Ln)} {sts:List Nat}
theorem Hd.nil:Hd K aB aP aM [] [] [] [] [] []:=⟨fun ρ us e=>by rw [List.map_eq_nil_iff.mp e]; exact G6.nil,rfl,rfl,(fun _ z=>nomatch z),(fun _ z=>nomatch z)⟩
theorem Ms {r:R} (h:r.w ≠ "step"):(rows++[r]).filter Rq=rows.filter Rq:=by
 rw [List.filter_append,List.filter_cons,if_neg (by intro z; exact h (V.str.inj (of_decide_eq_true z)))]
 simp
theorem JM {r:R} {Q:R->Prop} (h:∀ r∈rows,Q r) (hr:Q r):∀ x∈rows++[r],Q x:=fun x hx=>by
 rcases List.mem_append.mp hx with z | z
 ·exact h x z
 ·rw [List.mem_singleton.mp z]
  exact hr
theorem Hd.Pu (F:O5 K aB aP aM) (h:Hd K aB aP aM rows bs rk ks ls sts) {t:Str} {n:Nat} (ht:isNm t) (hf:∀ b∈bs,b.1 ≠ t) (hr:∀ r∈rk,r.1 ≠ t) (hk:∀ k∈ks,k.nm ≠ t) (hb:bs.length<5) (h1:1<=n) (h2:n<=61):Hd K aB aP aM (rows++[Ft (t,n)]) (bs++[(t,n)]) rk ks ls sts:=by
 refine ⟨fun ρ us e=>?_,?_,?_,JM h.lm (fun z=>absurd z (by show ¬ ("board" : Str) = "line"; decide +kernel)),JM h.sm (fun z=>absurd z (by show ¬ ("board" : Str) = "step"; decide +kernel))⟩
 ·obtain ⟨us',v,rfl,e',hv⟩:=HH e
  have O:=h.ok ρ us' e'
  refine O.snoc ?_ ?_ ?_ (fun _ _ h=>h) (fun z=>absurd (hv ▸ z) (by show ¬ ("board" : Str) = "line"; decide +kernel)) ?_
  ·rw [Ik (by unfold pw; rw [hv]; exact decide_eq_true rfl),List.map_append,O.eb,List.map_append,List.map_singleton,hv]
   rfl
  ·rw [Dj (by unfold pw; rw [hv]; show decide (V.str "board" = V.str "rank")=false; decide +kernel),O.er]
  ·rw [Dj (by rw [hv]; show Gk "board" = false; decide +kernel),O.ek]
  ·rw [hv]
   exact .inl (NK (Ny F.f rfl ht (O.fresh hf hr hk) (by rw [O.Xl]; exact hb) h1 h2) O.Vy)
 ·rw [CW,h.ln]
  rfl
 ·rw [Ms (by show ¬ ("board" : Str) = "step"; decide +kernel)]
  exact h.st
theorem Hd.rank (F:O5 K aB aP aM) (h:Hd K aB aP aM rows bs rk ks ls sts) {t:Str} {n:Nat} {wi:Int} (ht:isNm t) (hf:∀ b∈bs,b.1 ≠ t) (hr:∀ r∈rk,r.1 ≠ t) (hk:∀ k∈ks,k.nm ≠ t) (hc:rk.length<12) (h1:1<=n) (h2:n<=97) (h3:0<=wi) (h4:wi<=1000000000):Hd K aB aP aM (rows++[Fz (t,n,wi)]) bs (rk++[(t,n,wi)]) ks ls sts:=by
 have lm':∀ r∈rows,r.w = "line"->r.nm∈(rk++[(t,n,wi)]).map (·.1):=fun r hr z=>by
  rw [List.map_append]
  exact List.mem_append_left _ (h.lm r hr z)
 refine ⟨fun ρ us e=>?_,?_,?_,JM lm' (fun z=>absurd z (by show ¬ ("rank" : Str) = "line"; decide +kernel)),JM h.sm (fun z=>absurd z (by show ¬ ("rank" : Str) = "step"; decide +kernel))⟩
 ·obtain ⟨us',v,rfl,e',hv⟩:=HH e
  have O:=h.ok ρ us' e'
  refine O.snoc ?_ ?_ ?_ (fun j r h=>by rw [List.getElem?_append_left (List.getElem?_eq_some_iff.mp h).1]; exact h) (fun z=>absurd (hv ▸ z) (by show ¬ ("rank" : Str) = "line"; decide +kernel)) ?_
  ·rw [Dj (by unfold pw; rw [hv]; show decide (V.str "rank" = V.str "board")=false; decide +kernel),O.eb]
  ·rw [Ik (by unfold pw; rw [hv]; exact decide_eq_true rfl),List.map_append,O.er,List.map_append,List.map_singleton,hv]
   rfl
  ·rw [Dj (by rw [hv]; show Gk "rank" = false; decide +kernel),O.ek]
  ·rw [hv]
   exact .inl (Om F rfl ht (O.fresh hf hr hk) (by rw [O.Yq]; exact hc) h1 h2 h3 h4 O.Vy)
 ·rw [CW,Lg h.lm,h.ln]
  rfl
 ·rw [Ms (by show ¬ ("rank" : Str) = "step"; decide +kernel)]
  exact h.st
theorem Hd.TF (h:Hd K aB aP aM rows bs rk ks ls sts) {r:R} (hw:r.w = "stop" \/ r.w = "coupler" \/ r.w = "mute") (hr:∀ (ρ:V->R) (us:List V),us.map ρ=rows->JS K aB aP aM ρ us r):Hd K aB aP aM (rows++[r]) bs rk (ks++[r]) (ls++[[]]) sts:=by
 have hK:=Im hw
 have sm':∀ r'∈rows,r'.w = "step"->∃ ts:List Str,V.str r'.nm::r'.rest=ts.map V.str/\ts.length<=24/\∀ t∈ts,t∈(ks++[r]).map (·.nm):=fun r' hr' z=>by
  obtain ⟨ts,g1,g2,g3⟩:=h.sm r' hr' z
  exact ⟨ts,g1,g2,fun t ht=>by rw [List.map_append]; exact List.mem_append_left _ (g3 t ht)⟩
 refine ⟨fun ρ us e=>?_,?_,?_,JM h.lm (fun z=>?_),JM sm' (fun z=>?_)⟩
 ·obtain ⟨us',v,rfl,e',hv⟩:=HH e
  have O:=h.ok ρ us' e'
  refine O.snoc ?_ ?_ ?_ (fun _ _ h=>h) (fun z=>?_) ?_
  ·rw [Dj (by unfold pw; rw [hv]; rcases hw with e | e | e <;> rw [e] <;> decide +kernel),O.eb]
  ·rw [Dj (by unfold pw; rw [hv]; rcases hw with e | e | e <;> rw [e] <;> decide +kernel),O.er]
  ·rw [Ik (by rw [hv]; exact hK),List.map_append,O.ek,List.map_singleton,hv]
  ·rw [hv] at z
   rcases hw with e | e | e <;> rw [e] at z <;> exact absurd z (by decide +kernel)
  ·rw [hv]
   exact .inl (NK (hr ρ us' e') O.Vy)
 ·rw [CW,h.ln]
  unfold DN
  rw [if_pos hK]
 ·rw [Ms (by rcases hw with e | e | e <;> rw [e] <;> decide +kernel),← h.st]
  refine List.map_congr_left fun r' hr'=>QF fun t ht=>?_
  obtain ⟨g1,g2⟩:=List.mem_filter.mp hr'
  obtain ⟨ts,g3,_,g5⟩:=h.sm r' g1 (V.str.inj (of_decide_eq_true g2))
  rw [Hj g3] at ht
  exact g5 t ht
 ·rcases hw with e | e | e <;> rw [e] at z <;> exact absurd z (by decide +kernel)
 ·rcases hw with e | e | e <;> rw [e] at z <;> exact absurd z (by decide +kernel)
theorem Hd.M6 (F:O5 K aB aP aM) (h:Hd K aB aP aM rows bs rk ks ls sts) {t a b:Str} {n m:Nat} {s:Int} (ht:isNm t) (hb:∀ b∈bs,b.1 ≠ t) (hr:∀ r∈rk,r.1 ≠ t) (hk:∀ k∈ks,k.nm ≠ t) (hc:(ks.filter fun r=>decide (V.str r.w=V.str "coupler")).length<12) (ha:isNm a) (ha':(a,n)∈bs) (hb1:isNm b) (hb':(b,m)∈bs) (h1 : -60<=s) (h2:s<=60) :
  Hd K aB aP aM (rows++[⟨"coupler",t,[.str a,.str b,.int s]⟩]) bs rk (ks++[⟨"coupler",t,[.str a,.str b,.int s]⟩]) (ls++[[]]) sts :=
 h.TF (.inr (.inl rfl)) fun ρ us e=>by
  have O:=h.ok ρ us e
  exact Kz F.f rfl ht (O.fresh hb hr hk) (by rw [O.S_ (.inr (.inl rfl))]; exact hc) ha (O.L_ ha') hb1 (O.L_ hb') h1 h2
theorem Hd.plain (F:O5 K aB aP aM) (h:Hd K aB aP aM rows bs rk ks ls sts) {wd t a:Str} {n:Nat} (hw:wd = "stop" \/ wd = "mute") (ht:isNm t) (hb:∀ b∈bs,b.1 ≠ t) (hr:∀ r∈rk,r.1 ≠ t) (hk:∀ k∈ks,k.nm ≠ t) (hc:(ks.filter fun r=>decide (V.str r.w=V.str wd)).length<Mr wd) (ha:isNm a) (ha':(a,n)∈bs) :
  Hd K aB aP aM (rows++[⟨wd,t,[.str a]⟩]) bs rk (ks++[⟨wd,t,[.str a]⟩]) (ls++[[]]) sts:=by
 have hw3:wd = "stop" \/ wd = "coupler" \/ wd = "mute":=by rcases hw with e | e; exact .inl e; exact .inr (.inr e)
 exact h.TF hw3 fun ρ us e=>by
  have O:=h.ok ρ us e
  exact Ox F.f hw rfl ht (O.fresh hb hr hk) (by rw [O.S_ hw3]; exact hc) ha (O.L_ ha')
theorem Hd.line (F:O5 K aB aP aM) {l0:List Ln} (h:Hd K aB aP aM rows bs rk ks (ls++[l0]) sts) {bd:Str} {cnt:Nat} (T:Tl rows bd cnt) (hc:cnt<4) {j n m:Nat} {t:Str} {wi sh lo hi:Int} (hj:rk[j]? = some (t,m,wi)) (hnd:(rk.map (·.1)).Nodup) (ht:isNm t) (hbd:(bd,n)∈bs) (hle:lo<=hi) (hn:hi<(n:Int)) (b1 : -200<=sh) (b2:sh<=200) (b3:0<=lo) (b6:hi<=60) :
  Hd K aB aP aM (rows++[⟨"line",t,[.int sh,.int lo,.int hi]⟩]) bs rk ks (ls++[l0++[⟨j,sh,lo,hi⟩]]) sts:=by
 obtain ⟨r0,st,lr,er,g1,g2,g3,g4⟩:=T
 have nK:Gk "line" = false:=by decide +kernel
 refine ⟨fun ρ us e=>?_,?_,?_,JM h.lm (fun _=>List.mem_map.mpr ⟨_,List.mem_of_getElem? hj,rfl⟩),JM h.sm (fun z=>absurd z (by show ¬ ("line" : Str) = "step"; decide +kernel))⟩
 ·obtain ⟨us',v,rfl,e',hv⟩:=HH e
  have O:=h.ok ρ us' e'
  obtain ⟨u0,u1,eu,m1,m2⟩:=List.map_eq_append_iff.mp (e'.trans er)
  obtain ⟨sv,lv,e1,m3,m4⟩:=List.map_eq_cons_iff.mp m2
  subst e1
  have hsv:sv∈us':=by rw [eu]; simp
  have hlv:lv.length=cnt:=by rw [← g3,← m4,List.length_map]
  have hus:us'.length=u0.length+(cnt+1):=by rw [eu,List.length_append,List.length_cons,hlv]
  refine O.snoc ?_ ?_ ?_ (fun _ _ h=>h) (fun _=>⟨⟨j,_,sh,lo,hi,hj,by rw [hv],by rw [hv]⟩,sv,hsv,by rw [m3,g1]; decide +kernel⟩) ?_
  ·rw [Dj (by unfold pw; rw [hv]; show decide (V.str "line" = V.str "board")=false; decide +kernel),O.eb]
  ·rw [Dj (by unfold pw; rw [hv]; show decide (V.str "line" = V.str "rank")=false; decide +kernel),O.er]
  ·rw [Dj (by rw [hv]; exact nK),O.ek]
  ·rw [hv]
   have hst:us'[us'.length - 1 - cnt]? = some sv:=by
    have:us'.length - 1 - cnt=u0.length:=by omega
    rw [this,eu,List.getElem?_append_right (Nat.le_refl _),Nat.sub_self]
    rfl
   refine .inl ?_
   refine Nv F rfl ht (O.U3 (List.mem_of_getElem? hj)) b1 b2 b3 (by omega) (by omega) b6 O.Vy ⟨cnt,sv,sh,lo,hi,bd,[],rfl,⟨fun i hi'=>?_,by omega,sv,hst,by rw [m3,g1]; decide +kernel⟩,hc,hst,by rw [m3,g1],by rw [m3,g2],hle,?_⟩
   ·have hi2:cnt - 1 - i<lv.length:=by omega
    refine ⟨lv[cnt - 1 - i],?_,?_⟩
    ·have:us'.length - 1 - i=u0.length+((cnt - 1 - i)+1):=by omega
     rw [this,eu,List.getElem?_append_right (Nat.le_add_right _ _),Nat.add_sub_cancel_left,List.getElem?_cons_succ]
     exact List.getElem?_eq_getElem hi2
    ·refine g4 _ ?_
     rw [← m4]
     exact List.mem_map_of_mem (List.getElem_mem hi2)
   ·obtain ⟨u,hu,hub⟩:=O.Sx hbd
    rw [List.any_eq_true]
    refine ⟨u,List.mem_filter.mpr ⟨hu,?_⟩,?_⟩
    ·unfold pw
     rw [hub]
     exact decide_eq_true rfl
    ·show (pn ρ bd u && decide (hi<Vb (ρ u)))=true
     unfold pn
     rw [hub,Bool.and_eq_true]
     exact ⟨decide_eq_true rfl,decide_eq_true hn⟩
 ·rw [CW,h.ln]
  unfold DN
  rw [if_neg (by show ¬ Gk "line" = true; rw [nK]; decide),if_pos rfl,Gb]
  have hjl:=(List.getElem?_eq_some_iff.mp hj).1
  have:(rk.map (·.1)).idxOf t=j:=by
   have hl:j<(rk.map (·.1)).length:=by rw [List.length_map]; exact hjl
   have e2:(rk.map (·.1))[j]=t:=by
    rw [List.getElem_map]
    have:=(List.getElem?_eq_some_iff.mp hj).2
    rw [this]
   rw [← e2]
   exact hnd.idxOf_getElem j hl
  show ls++[l0++[⟨(rk.map (·.1)).idxOf t,sh,lo,hi⟩]]=_
  rw [this]
 ·rw [Ms (by show ¬ ("line" : Str) = "step"; decide +kernel)]
  exact h.st
theorem Hd.step (h:Hd K aB aP aM rows bs rk ks ls sts) (hM:∃ t,PySem.W.nsIn K aM "step" = some (some (.int 12 t))) {t0:Str} {ts:List Str} (nd:(t0::ts).Nodup) (h24:(t0::ts).length<=24) (hts:∀ t∈t0::ts,isNm t/\∃ k∈ks,k.w = "stop" /\ k.nm=t) (hc:sts.length<12):Hd K aB aP aM (rows++[⟨"step",t0,ts.map V.str⟩]) bs rk ks ls (sts++[Wd.mk ((t0::ts).map fun t=>(ks.map (·.nm)).idxOf t)]):=by
 have e0:V.str t0::ts.map V.str=(t0::ts).map V.str:=rfl
 have hin:∀ t∈t0::ts,t∈ks.map (·.nm):=fun t ht=>by
  obtain ⟨_,k,hk,_,rfl⟩:=hts t ht
  exact List.mem_map_of_mem hk
 refine ⟨fun ρ us e=>?_,?_,?_,JM h.lm (fun z=>absurd z (by show ¬ ("step" : Str) = "line"; decide +kernel)),JM h.sm (fun _=>⟨t0::ts,e0,h24,hin⟩)⟩
 ·obtain ⟨us',v,rfl,e',hv⟩:=HH e
  have O:=h.ok ρ us' e'
  refine O.snoc ?_ ?_ ?_ (fun _ _ h=>h) (fun z=>absurd (hv ▸ z) (by show ¬ ("step" : Str) = "line"; decide +kernel)) ?_
  ·rw [Dj (by unfold pw; rw [hv]; show decide (V.str "step" = V.str "board")=false; decide +kernel),O.eb]
  ·rw [Dj (by unfold pw; rw [hv]; show decide (V.str "step" = V.str "rank")=false; decide +kernel),O.er]
  ·rw [Dj (by rw [hv]; show Gk "step" = false; decide +kernel),O.ek]
  ·rw [hv]
   obtain ⟨tk,hM⟩:=hM
   refine .inr ⟨rfl,⟨t0::ts,e0,nd,h24,fun t ht=>?_⟩,12,tk,hM,?_⟩
   ·obtain ⟨g1,k,g2,g3,g4⟩:=hts t ht
    refine ⟨g1,IV.mpr ?_⟩
    rw [← O.ek] at g2
    obtain ⟨u,g5,rfl⟩:=List.mem_map.mp g2
    exact ⟨u,(List.mem_filter.mp g5).1,g3,g4⟩
   ·have:(us'.filter (pw ρ "step")).length=sts.length:=by
     rw [← h.st,List.length_map,← e',List.filter_map,List.length_map]
     rfl
    show (((us'.filter (pw ρ "step")).length:Nat):Int)<12
    omega
 ·rw [CW,h.ln]
  rfl
 ·rw [List.filter_append,List.map_append,h.st]
  have e1:([(⟨"step",t0,ts.map V.str⟩:R)]).filter Rq=[⟨"step",t0,ts.map V.str⟩]:=rfl
  rw [e1]
  show sts++[stN ks _]=_
  unfold stN
  rw [Hj (r:=⟨"step",t0,ts.map V.str⟩) e0]
theorem Hd.fin {H:Hp} {vs:List V} (h:Hd K aB aP aM rows bs rk ks ls sts) (hv:Paired (fun (r:R) v=>TupAt H r.v v) rows vs) (b0:1<=bs.length) (b5:bs.length<=5) (sz:∀ b∈bs,b.2<=61) (nr:rk.length<=12) (nz:∀ r∈rk,r.2.1<=97) (nk:ks.length<=100) (nb:(bs.map (·.1)).Nodup) (nrr:(rk.map (·.1)).Nodup) (nn:(ks.map (·.nm)).Nodup) (len:rows.length<=150) :
  Rows H (K9 H) vs/\bH K aB aP aM (K9 H) vs bs rk ks/\linesOf rk (vs.map (K9 H))=ls/\((vs.filter (pw (K9 H) "step")).map fun v=>stN ks (K9 H v))=sts:=by
 have em:=RX hv
 have O:=h.ok (K9 H) vs em
 have hR:Rows H (K9 H) vs:=fun v hv'=>by
  obtain ⟨r,_,hr⟩:=Bw hv hv'
  rw [O7 hr]
  exact hr
 refine ⟨hR,⟨O.eb,O.er,O.ek,O.ln,fun v hv' hw=>?_,b0,b5,sz,nr,nz,nk,nb,nrr,nn,by rw [← hv.length]; exact len,O.ok⟩,by rw [em]; exact h.ln,?_⟩
 ·refine h.sm (K9 H v) ?_ hw
  rw [← em]
  exact List.mem_map_of_mem hv'
 ·rw [← h.st,← em,List.filter_map,List.map_map]
  rfl
end
end Og
namespace Og
open PySem L2 PyProof.Rows
noncomputable def Gi (b:Str):Prop:=b.length<=6/\∀ c∈b.cps.toList,97<=c/\c<=122
theorem Gi.nil:Gi "":=⟨by decide,by rw [Rr]; exact fun _ h=>nomatch h⟩
theorem HX (a b:Str):(a++b).cps.toList=a.cps.toList++b.cps.toList:=by
 show (a.cps++b.cps).toList=_
 simp
theorem len_app (a b:Str):(a++b).length=a.length+b.length:=by
 show (a.cps++b.cps).size=a.cps.size+b.cps.size
 simp
noncomputable def Ri (n:Nat):Str:=⟨#[97+n]⟩
theorem Ib (n:Nat):(Ri n).length=1:=rfl
theorem Gi.snoc {b:Str} {n m:Nat} (h:b.length<=m/\∀ c∈b.cps.toList,97<=c/\c<=122) (hn:n<26):(b++Ri n).length<=m+1/\∀ c∈(b++Ri n).cps.toList,97<=c/\c<=122:=by
 refine ⟨by rw [len_app,Ib]; omega,fun c hc=>?_⟩
 rw [HX] at hc
 rcases List.mem_append.mp hc with h' | h'
 ·exact h.2 c h'
 ·have:c=97+n:=by simpa [Ri] using h'
  omega
noncomputable def Dl (b:Str) (k:Nat):Str:=if 26<=k then b++Ri (k % 26)++Ri (k / 26 * 5 % 26) else b++Ri (k % 26)
theorem Dz {b:Str} (h:Gi b) (k:Nat):isNm (Dl b k):=by
 have g1:=Gi.snoc h (Nat.mod_lt k (by decide:0<26))
 have g2:=Gi.snoc g1 (Nat.mod_lt (k / 26 * 5) (by decide:0<26))
 unfold Dl
 split
 ·exact ⟨by rw [len_app,Ib]; omega,by have:=g2.1; omega,g2.2⟩
 ·exact ⟨by rw [len_app,Ib]; omega,by have:=g1.1; omega,g1.2⟩
theorem Jy {b:Str} {k l:Nat} (hk:k<78) (hl:l<78) (h:Dl b k=Dl b l):k=l:=by
 have h1:=congrArg (fun s:Str=>s.cps.toList) h
 have h2:∀ k,(Dl b k).cps.toList=b.cps.toList++(if 26<=k then [97+k % 26,97+k / 26 * 5 % 26] else [97+k % 26]):=fun k=>by
  unfold Dl
  split
  ·rw [HX,HX,List.append_assoc]
   rfl
  ·rw [HX]
   rfl
 rw [h2,h2] at h1
 have h3:=List.append_cancel_left h1
 by_cases e1:26<=k
 ·by_cases e2:26<=l
  ·rw [if_pos e1,if_pos e2] at h3
   injection h3 with h4 h5
   injection h5 with h6 _
   omega
  ·rw [if_pos e1,if_neg e2] at h3
   injection h3 with h4 h5
   cases h5
 ·by_cases e2:26<=l
  ·rw [if_neg e1,if_pos e2] at h3
   injection h3 with h4 h5
   cases h5
  ·rw [if_neg e1,if_neg e2] at h3
   injection h3 with h4 h5
   omega
end Og
namespace L2
open PySem PySem.Spec PyProof.Rows
section
variable {X:Cx}
theorem Pb:Zq X "list.index" (fun x xs H Q=>∃ l ys y j,x=V.ref l/\xs=[y]/\Cm X.K H l ys/\Dv y=true/\ys.all Dv=true/\j<ys.length/\KC (ys.getD j .non) y=true/\(∀ m,m<j->KC (ys.getD m .non) y=false)/\Q (.int (j:Nat)) H):=by
 intro pins s σ H x xs v us Q I rx r h
 obtain ⟨l,ys,y,j,rfl,rfl,hS,fy,fs,hj,hit,hno,q⟩:=h
 obtain ⟨u,rfl,ru⟩:=vals1 r
 cases rx
 obtain ⟨its,rv,pl,hz⟩:=I.list hS
 obtain ⟨⟨cls,dd,data,sl⟩,ho,hc,n,hd⟩:=id pl.isList
 simp only at hc hd
 subst hc hd
 have hlen:=rv.length
 have hb:ys.length<=sizeLine:=hz
 have hline:=G5
 refine call_meets PySem.F.slot_list_index ⟨_,ho,rfl⟩ PySem.F.entry_list_index (PySem.F.args_list_index_2 _ _)
  (SeqAt.list_indexAt l its.toArray n dd sl u (KD y) j (by simpa [← hlen] using hj) (by omega) ?_ ?_) ⟨ho,fun z hz=>FT ru fy rv fs z (by simpa using hz),⟨.int (j:Nat),H,I.tok _,⟨_,rfl⟩,q⟩⟩
 ·have h1:j<its.length:=by omega
  show KD y its[j]=true
  rw [J3 (Dr rv h1) (My fs hj)]
  exact hit
 ·intro m hm hlt
  have h1:m<its.length:=by simpa using hm
  show KD y its[m]=false
  rw [J3 (Dr rv h1) (My fs (by omega))]
  exact hno m hlt
end
end L2
namespace Og
open PySem L2
structure Hh where
 p:Addr
 r:Addr
 b:Addr
 k:Addr
 n:Addr
 d:Addr
 s:Addr
inductive Dt where
 | stop (b:Nat) (L:Addr)
 | coup (a b:Nat) (s:Int)
 | mute (b:Nat)
noncomputable def Dt.L:Dt->List Addr
 | .stop _ L=>[L]
 | _=>[]
structure Pl where
 rows:List R
 bs:List (Str × Nat)
 rk:List (Str × Nat × Int)
 ks:List R
 ls:List (List Ln)
 ds:List Dt
 ch:List (List Nat)
noncomputable abbrev Pl.Ls (S:Pl):List Addr:=S.ds.flatMap Dt.L
noncomputable def Lq (H:Hp) (L:Addr) (l:List Ln):Prop:=∃ ts,H L=some (.lst ts)/\Paired (fun (y:Ln) z=>TupAt H (Y9 y) z) l ts
noncomputable def Gj (H:Hp) (x:Dt × List Ln) (v:V):Prop:=match x.1 with
 | .stop b L=>TupAt H [.int (b:Nat),.ref L] v/\Lq H L x.2
 | .coup a b s=>TupAt H [.int (a:Nat),.int (b:Nat),.int s] v
 | .mute b=>v=.int (b:Nat)
noncomputable abbrev Wc (r:Str × Nat × Int):List V:=[.str r.1,.int (r.2.1:Nat),.int r.2.2]
noncomputable abbrev S9 (r:R):List V:=[.str r.w,.str r.nm]
structure Bg (H0 H:Hp) (A:Hh) (S:Pl) (Cs:List Addr) (lo:V):Prop where
 dp:∃ kvs:List (Key × V),H A.p=some (.dK kvs)/\kvs.length<=7/\CJ kvs (Sum.inr "rows")=some (.ref A.r)/\CJ kvs (Sum.inr "boards")=some (.ref A.b)/\CJ kvs (Sum.inr "ranks")=some (.ref A.k)/\CJ kvs (Sum.inr "knobs")=some (.ref A.n)/\CJ kvs (Sum.inr "details")=some (.ref A.d)/\CJ kvs (Sum.inr "steps")=some (.ref A.s)/\CJ kvs (Sum.inr "lines")=some lo
 nd:(A.r::A.b::A.k::A.n::A.d::A.s::(S.Ls++Cs)).Nodup
 sm:Am H0 H
 f0:H0 A.p=none
 fr:∀ a∈A.r::A.b::A.k::A.n::A.d::A.s::S.Ls,H0 a=none
 r:∃ vs,H A.r=some (.lst vs)/\Paired (fun (r:R) v=>TupAt H r.v v) S.rows vs
 b:∃ vs,H A.b=some (.lst vs)/\Paired (fun b v=>TupAt H (bV b) v) S.bs vs
 k:∃ vs,H A.k=some (.lst vs)/\Paired (fun r v=>TupAt H (Wc r) v) S.rk vs
 n:∃ vs,H A.n=some (.lst vs)/\Paired (fun (r:R) v=>TupAt H (S9 r) v) S.ks vs
 d:∃ vs,H A.d=some (.lst vs)/\S.ds.length=S.ls.length/\Paired (Gj H) (S.ds.zip S.ls) vs
 s:H A.s=some (.lst (Cs.map V.ref))
 c:Paired (fun C (l:List Nat)=>H C=some (.lst (l.map fun n:Nat=>V.int (n:Int)))) Cs S.ch
section
variable {H0 H H':Hp} {A:Hh} {S:Pl} {Cs:List Addr} {lo:V}
theorem Lq.mono {L:Addr} {l:List Ln} (s:Am H H') (h:Lq H L l):Lq H' L l:=by
 obtain ⟨ts,h1,h2⟩:=h
 exact ⟨ts,s _ _ h1,Ah s h2⟩
theorem Gj.mono {x:Dt × List Ln} {v:V} (s:Am H H') (h:Gj H x v):Gj H' x v:=by
 obtain ⟨d,l⟩:=x
 cases d with
 | stop b L=>exact ⟨h.1.mono s,h.2.mono s⟩
 | coup a b t=>exact TupAt.mono s h
 | mute b=>exact h
theorem Lq.put {a L:Addr} {l:List Ln} {xs ys:List V} (h:Lq H L l) (ha:H a=some (.lst xs)) (hn:L ≠ a):Lq (upd H a (.lst ys)) L l:=by
 obtain ⟨ts,h1,h2⟩:=h
 exact ⟨ts,by rw [An hn]; exact h1,BL h2 ha⟩
theorem Gj.put {a:Addr} {x:Dt × List Ln} {v:V} {xs ys:List V} (h:Gj H x v) (ha:H a=some (.lst xs)) (hn:∀ L∈x.1.L,L ≠ a):Gj (upd H a (.lst ys)) x v:=by
 obtain ⟨d,l⟩:=x
 cases d with
 | stop b L=>exact ⟨h.1.upd ha,h.2.put ha (hn L (List.mem_singleton.mpr rfl))⟩
 | coup a' b t=>exact TupAt.upd h ha
 | mute b=>exact h
theorem Gj.dict {a:Addr} {x:Dt × List Ln} {v:V} {k1 k2:List (Key × V)} (h:Gj H x v) (s:SX a H (upd H a (.dK k2))) (ha:H a=some (.dK k1)):Gj (upd H a (.dK k2)) x v:=by
 have tp:∀ {zs:List V} {y:V},TupAt H zs y->TupAt (upd H a (.dK k2)) zs y:=fun {zs y} h=>by
  obtain ⟨T,rfl,e⟩:=h
  exact ⟨T,rfl,s _ _ e fun z=>by rw [z,ha] at e; cases e⟩
 obtain ⟨d,l⟩:=x
 cases d with
 | stop b L =>
  obtain ⟨h1,ts,h2,h3⟩:=h
  exact ⟨tp h1,ts,s _ _ h2 (fun z=>by rw [z,ha] at h2; cases h2),Paired.Ez h3 fun _ _ q=>tp q⟩
 | coup a' b t=>exact tp h
 | mute b=>exact h
theorem Bg.mono (s:Am H H') (h:Bg H0 H A S Cs lo):Bg H0 H' A S Cs lo:=by
 obtain ⟨kvs,g1,g2⟩:=h.dp
 obtain ⟨v1,r1,r2⟩:=h.r
 obtain ⟨v2,b1,b2⟩:=h.b
 obtain ⟨v3,k1,k2⟩:=h.k
 obtain ⟨v4,n1,n2⟩:=h.n
 obtain ⟨v5,d1,d2,d3⟩:=h.d
 exact ⟨⟨kvs,s _ _ g1,g2⟩,h.nd,h.sm.trans s,h.f0,h.fr,⟨v1,s _ _ r1,Ah s r2⟩,⟨v2,s _ _ b1,Ah s b2⟩,⟨v3,s _ _ k1,Ah s k2⟩,⟨v4,s _ _ n1,Ah s n2⟩,⟨v5,s _ _ d1,d2,Paired.Ez d3 fun _ _ q=>q.mono s⟩,s _ _ h.s,Paired.Ez h.c fun _ _ q=>s _ _ q⟩
theorem Dh {a:Addr} {o:HO} (s:Am H0 H) (h:H0 a=none):Am H0 (upd H a o):=fun b u e=>by
 rw [An (Aq e h)]
 exact s _ _ e
theorem Gv {a:Addr} {xs ys:List V} {kvs:List (Key × V)} {p:Addr} (hp:H p=some (.dK kvs)) (ha:H a=some (.lst xs)):upd H a (.lst ys) p=some (.dK kvs):=by
 rw [An fun z=>by rw [z,ha] at hp; cases hp]
 exact hp
theorem Tu {x:Dt × List Ln} (hx:x∈S.ds.zip S.ls) {L:Addr} (hL:L∈x.1.L):L∈S.Ls:=List.mem_flatMap.mpr ⟨x.1,(List.of_mem_zip hx).1,hL⟩
theorem Fo {α β:Type} {F:α->β->Prop}:∀ {l:List α} {z:α} {vs:List β},Paired F (l++[z]) vs->∃ us u,vs=us++[u]/\Paired F l us/\F z u
 | [],z,_,h=>by
  cases h with
  | cons x y=>cases y; exact ⟨[],_,rfl,.nil,x⟩
 | a::l,z,_,h=>by
  cases h with
  | cons x y =>
   obtain ⟨us,u,rfl,h1,h2⟩:=Fo y
   exact ⟨_::us,u,rfl,.cons x h1,h2⟩
theorem Gh {α β:Type} {F G:α->β->Prop}:∀ {l:List α} {vs:List β},Paired F l vs->(∀ a b,a∈l->F a b->G a b)->Paired G l vs
 | [],_,h,_=>by cases h; exact .nil
 | a::l,_,h,k=>by
  cases h with
  | cons x y=>exact .cons (k _ _ (List.mem_cons_self ..) x) (Gh y fun a b hb=>k a b (List.mem_cons_of_mem _ hb))
theorem Bg.dput {a:Addr} {xs ys:List V} (h:Bg H0 H A S Cs lo) (ha:H a=some (.lst xs)) (hn:a ∉ S.Ls) {vs:List V} (p:Paired (Gj H) (S.ds.zip S.ls) vs):Paired (Gj (upd H a (.lst ys))) (S.ds.zip S.ls) vs :=
 Gh p fun x v hx q=>q.put ha fun L hL z=>hn (z ▸ Tu hx hL)
theorem Bg.Lf {a:Addr} {ys:List V} (h:Bg H0 H A S Cs lo) (hn:a ∉ Cs):Paired (fun C (l:List Nat)=>upd H a (.lst ys) C=some (.lst (l.map fun n:Nat=>V.int (n:Int)))) Cs S.ch :=
 Gh h.c fun C l hC q=>by rw [An (fun z:C=a=>hn (z ▸ hC))]; exact q
theorem Bg.dR (h:Bg H0 H A S Cs lo):A.r ≠ A.b:=by
 have z:=h.nd
 simp only [List.nodup_cons,List.mem_cons,not_or] at z
 obtain ⟨⟨z1,z2,z3,z4,z5,_⟩,⟨y2,y3,y4,y5,_⟩,⟨x3,x4,x5,_⟩,⟨w4,w5,_⟩,⟨v5,_⟩,_⟩:=z
 exact z1
theorem Bg.cQ (h:Bg H0 H A S Cs lo):A.r ≠ A.k:=by
 have z:=h.nd
 simp only [List.nodup_cons,List.mem_cons,not_or] at z
 obtain ⟨⟨z1,z2,z3,z4,z5,_⟩,⟨y2,y3,y4,y5,_⟩,⟨x3,x4,x5,_⟩,⟨w4,w5,_⟩,⟨v5,_⟩,_⟩:=z
 exact z2
theorem Bg.cz (h:Bg H0 H A S Cs lo):A.r ≠ A.n:=by
 have z:=h.nd
 simp only [List.nodup_cons,List.mem_cons,not_or] at z
 obtain ⟨⟨z1,z2,z3,z4,z5,_⟩,⟨y2,y3,y4,y5,_⟩,⟨x3,x4,x5,_⟩,⟨w4,w5,_⟩,⟨v5,_⟩,_⟩:=z
 exact z3
theorem Bg.dW (h:Bg H0 H A S Cs lo):A.r ≠ A.d:=by
 have z:=h.nd
 simp only [List.nodup_cons,List.mem_cons,not_or] at z
 obtain ⟨⟨z1,z2,z3,z4,z5,_⟩,⟨y2,y3,y4,y5,_⟩,⟨x3,x4,x5,_⟩,⟨w4,w5,_⟩,⟨v5,_⟩,_⟩:=z
 exact z4
theorem Bg.c7 (h:Bg H0 H A S Cs lo):A.r ≠ A.s:=by
 have z:=h.nd
 simp only [List.nodup_cons,List.mem_cons,not_or] at z
 obtain ⟨⟨z1,z2,z3,z4,z5,_⟩,⟨y2,y3,y4,y5,_⟩,⟨x3,x4,x5,_⟩,⟨w4,w5,_⟩,⟨v5,_⟩,_⟩:=z
 exact z5
theorem Bg.cW (h:Bg H0 H A S Cs lo):A.b ≠ A.k:=by
 have z:=h.nd
 simp only [List.nodup_cons,List.mem_cons,not_or] at z
 obtain ⟨⟨z1,z2,z3,z4,z5,_⟩,⟨y2,y3,y4,y5,_⟩,⟨x3,x4,x5,_⟩,⟨w4,w5,_⟩,⟨v5,_⟩,_⟩:=z
 exact y2
theorem Bg.dX (h:Bg H0 H A S Cs lo):A.b ≠ A.n:=by
 have z:=h.nd
 simp only [List.nodup_cons,List.mem_cons,not_or] at z
 obtain ⟨⟨z1,z2,z3,z4,z5,_⟩,⟨y2,y3,y4,y5,_⟩,⟨x3,x4,x5,_⟩,⟨w4,w5,_⟩,⟨v5,_⟩,_⟩:=z
 exact y3
theorem Bg.cg (h:Bg H0 H A S Cs lo):A.b ≠ A.d:=by
 have z:=h.nd
 simp only [List.nodup_cons,List.mem_cons,not_or] at z
 obtain ⟨⟨z1,z2,z3,z4,z5,_⟩,⟨y2,y3,y4,y5,_⟩,⟨x3,x4,x5,_⟩,⟨w4,w5,_⟩,⟨v5,_⟩,_⟩:=z
 exact y4
theorem Bg.cY (h:Bg H0 H A S Cs lo):A.b ≠ A.s:=by
 have z:=h.nd
 simp only [List.nodup_cons,List.mem_cons,not_or] at z
 obtain ⟨⟨z1,z2,z3,z4,z5,_⟩,⟨y2,y3,y4,y5,_⟩,⟨x3,x4,x5,_⟩,⟨w4,w5,_⟩,⟨v5,_⟩,_⟩:=z
 exact y5
theorem Bg.cO (h:Bg H0 H A S Cs lo):A.k ≠ A.n:=by
 have z:=h.nd
 simp only [List.nodup_cons,List.mem_cons,not_or] at z
 obtain ⟨⟨z1,z2,z3,z4,z5,_⟩,⟨y2,y3,y4,y5,_⟩,⟨x3,x4,x5,_⟩,⟨w4,w5,_⟩,⟨v5,_⟩,_⟩:=z
 exact x3
theorem Bg.dN (h:Bg H0 H A S Cs lo):A.k ≠ A.d:=by
 have z:=h.nd
 simp only [List.nodup_cons,List.mem_cons,not_or] at z
 obtain ⟨⟨z1,z2,z3,z4,z5,_⟩,⟨y2,y3,y4,y5,_⟩,⟨x3,x4,x5,_⟩,⟨w4,w5,_⟩,⟨v5,_⟩,_⟩:=z
 exact x4
theorem Bg.cj (h:Bg H0 H A S Cs lo):A.k ≠ A.s:=by
 have z:=h.nd
 simp only [List.nodup_cons,List.mem_cons,not_or] at z
 obtain ⟨⟨z1,z2,z3,z4,z5,_⟩,⟨y2,y3,y4,y5,_⟩,⟨x3,x4,x5,_⟩,⟨w4,w5,_⟩,⟨v5,_⟩,_⟩:=z
 exact x5
theorem Bg.dD (h:Bg H0 H A S Cs lo):A.n ≠ A.d:=by
 have z:=h.nd
 simp only [List.nodup_cons,List.mem_cons,not_or] at z
 obtain ⟨⟨z1,z2,z3,z4,z5,_⟩,⟨y2,y3,y4,y5,_⟩,⟨x3,x4,x5,_⟩,⟨w4,w5,_⟩,⟨v5,_⟩,_⟩:=z
 exact w4
theorem Bg.dG (h:Bg H0 H A S Cs lo):A.n ≠ A.s:=by
 have z:=h.nd
 simp only [List.nodup_cons,List.mem_cons,not_or] at z
 obtain ⟨⟨z1,z2,z3,z4,z5,_⟩,⟨y2,y3,y4,y5,_⟩,⟨x3,x4,x5,_⟩,⟨w4,w5,_⟩,⟨v5,_⟩,_⟩:=z
 exact w5
theorem Bg.dU (h:Bg H0 H A S Cs lo):A.d ≠ A.s:=by
 have z:=h.nd
 simp only [List.nodup_cons,List.mem_cons,not_or] at z
 obtain ⟨⟨z1,z2,z3,z4,z5,_⟩,⟨y2,y3,y4,y5,_⟩,⟨x3,x4,x5,_⟩,⟨w4,w5,_⟩,⟨v5,_⟩,_⟩:=z
 exact v5
theorem Bg.cR (h:Bg H0 H A S Cs lo):A.r ∉ S.Ls++Cs:=by
 have z:=h.nd
 simp only [List.nodup_cons] at z
 have e:=z.1
 intro c
 exact e (by simp only [List.mem_cons]; simp only [c,or_true])
theorem Bg.cU (h:Bg H0 H A S Cs lo):A.b ∉ S.Ls++Cs:=by
 have z:=h.nd
 simp only [List.nodup_cons] at z
 have e:=z.2.1
 intro c
 exact e (by simp only [List.mem_cons]; simp only [c,or_true])
theorem Bg.cV (h:Bg H0 H A S Cs lo):A.k ∉ S.Ls++Cs:=by
 have z:=h.nd
 simp only [List.nodup_cons] at z
 have e:=z.2.2.1
 intro c
 exact e (by simp only [List.mem_cons]; simp only [c,or_true])
theorem Bg.cP (h:Bg H0 H A S Cs lo):A.n ∉ S.Ls++Cs:=by
 have z:=h.nd
 simp only [List.nodup_cons] at z
 have e:=z.2.2.2.1
 intro c
 exact e (by simp only [List.mem_cons]; simp only [c,or_true])
theorem Bg.dF (h:Bg H0 H A S Cs lo):A.d ∉ S.Ls++Cs:=by
 have z:=h.nd
 simp only [List.nodup_cons] at z
 have e:=z.2.2.2.2.1
 intro c
 exact e (by simp only [List.mem_cons]; simp only [c,or_true])
theorem Bg.dH (h:Bg H0 H A S Cs lo):A.s ∉ S.Ls++Cs:=by
 have z:=h.nd
 simp only [List.nodup_cons] at z
 exact z.2.2.2.2.2.1
theorem Bg.aH (h:Bg H0 H A S Cs lo) {vs:List V} (ha:H A.r=some (.lst vs)) {r:R} {v:V} (hv:TupAt H r.v v):Bg H0 (upd H A.r (.lst (vs++[v]))) A { S with rows:=S.rows++[r] } Cs lo:=by
 obtain ⟨kvs,g1,g2⟩:=h.dp
 obtain ⟨vr,r1,r2⟩:=h.r
 obtain ⟨vb,b1,b2⟩:=h.b
 obtain ⟨vk,k1,k2⟩:=h.k
 obtain ⟨vn,n1,n2⟩:=h.n
 obtain ⟨vd,d1,d2,d3⟩:=h.d
 have hm:=h.cR
 obtain rfl:vr=vs:=HO.lst.inj (Option.some.inj (r1.symm.trans ha))
 have hp:=r2
 exact ⟨⟨kvs,Gv g1 ha,g2⟩,h.nd,Dh h.sm (h.fr _ (by simp)),h.f0,h.fr,⟨vr++[v],Af,Bv (BL hp ha) (.cons (hv.upd ha) .nil)⟩,⟨vb,by rw [An (Ne.symm h.dR)]; exact b1,BL b2 ha⟩,⟨vk,by rw [An (Ne.symm h.cQ)]; exact k1,BL k2 ha⟩,⟨vn,by rw [An (Ne.symm h.cz)]; exact n1,BL n2 ha⟩,⟨vd,by rw [An (Ne.symm h.dW)]; exact d1,d2,h.dput ha (fun z=>hm (List.mem_append_left _ z)) d3⟩,by rw [An (Ne.symm h.c7)]; exact h.s,h.Lf (fun z=>hm (List.mem_append_right _ z))⟩
theorem Bg.bY (h:Bg H0 H A S Cs lo) {vs:List V} (ha:H A.b=some (.lst vs)) {r:Str × Nat} {v:V} (hv:TupAt H (bV r) v):Bg H0 (upd H A.b (.lst (vs++[v]))) A { S with bs:=S.bs++[r] } Cs lo:=by
 obtain ⟨kvs,g1,g2⟩:=h.dp
 obtain ⟨vr,r1,r2⟩:=h.r
 obtain ⟨vb,b1,b2⟩:=h.b
 obtain ⟨vk,k1,k2⟩:=h.k
 obtain ⟨vn,n1,n2⟩:=h.n
 obtain ⟨vd,d1,d2,d3⟩:=h.d
 have hm:=h.cU
 obtain rfl:vb=vs:=HO.lst.inj (Option.some.inj (b1.symm.trans ha))
 have hp:=b2
 exact ⟨⟨kvs,Gv g1 ha,g2⟩,h.nd,Dh h.sm (h.fr _ (by simp)),h.f0,h.fr,⟨vr,by rw [An h.dR]; exact r1,BL r2 ha⟩,⟨vb++[v],Af,Bv (BL hp ha) (.cons (hv.upd ha) .nil)⟩,⟨vk,by rw [An (Ne.symm h.cW)]; exact k1,BL k2 ha⟩,⟨vn,by rw [An (Ne.symm h.dX)]; exact n1,BL n2 ha⟩,⟨vd,by rw [An (Ne.symm h.cg)]; exact d1,d2,h.dput ha (fun z=>hm (List.mem_append_left _ z)) d3⟩,by rw [An (Ne.symm h.cY)]; exact h.s,h.Lf (fun z=>hm (List.mem_append_right _ z))⟩
theorem Bg.cF (h:Bg H0 H A S Cs lo) {vs:List V} (ha:H A.k=some (.lst vs)) {r:Str × Nat × Int} {v:V} (hv:TupAt H (Wc r) v):Bg H0 (upd H A.k (.lst (vs++[v]))) A { S with rk:=S.rk++[r] } Cs lo:=by
 obtain ⟨kvs,g1,g2⟩:=h.dp
 obtain ⟨vr,r1,r2⟩:=h.r
 obtain ⟨vb,b1,b2⟩:=h.b
 obtain ⟨vk,k1,k2⟩:=h.k
 obtain ⟨vn,n1,n2⟩:=h.n
 obtain ⟨vd,d1,d2,d3⟩:=h.d
 have hm:=h.cV
 obtain rfl:vk=vs:=HO.lst.inj (Option.some.inj (k1.symm.trans ha))
 have hp:=k2
 exact ⟨⟨kvs,Gv g1 ha,g2⟩,h.nd,Dh h.sm (h.fr _ (by simp)),h.f0,h.fr,⟨vr,by rw [An h.cQ]; exact r1,BL r2 ha⟩,⟨vb,by rw [An h.cW]; exact b1,BL b2 ha⟩,⟨vk++[v],Af,Bv (BL hp ha) (.cons (hv.upd ha) .nil)⟩,⟨vn,by rw [An (Ne.symm h.cO)]; exact n1,BL n2 ha⟩,⟨vd,by rw [An (Ne.symm h.dN)]; exact d1,d2,h.dput ha (fun z=>hm (List.mem_append_left _ z)) d3⟩,by rw [An (Ne.symm h.cj)]; exact h.s,h.Lf (fun z=>hm (List.mem_append_right _ z))⟩
theorem Bg.RJ (h:Bg H0 H A S Cs lo) {vs:List V} (ha:H A.n=some (.lst vs)) {r:R} {v:V} (hv:TupAt H (S9 r) v):Bg H0 (upd H A.n (.lst (vs++[v]))) A { S with ks:=S.ks++[r] } Cs lo:=by
 obtain ⟨kvs,g1,g2⟩:=h.dp
 obtain ⟨vr,r1,r2⟩:=h.r
 obtain ⟨vb,b1,b2⟩:=h.b
 obtain ⟨vk,k1,k2⟩:=h.k
 obtain ⟨vn,n1,n2⟩:=h.n
 obtain ⟨vd,d1,d2,d3⟩:=h.d
 have hm:=h.cP
 obtain rfl:vn=vs:=HO.lst.inj (Option.some.inj (n1.symm.trans ha))
 have hp:=n2
 exact ⟨⟨kvs,Gv g1 ha,g2⟩,h.nd,Dh h.sm (h.fr _ (by simp)),h.f0,h.fr,⟨vr,by rw [An h.cz]; exact r1,BL r2 ha⟩,⟨vb,by rw [An h.dX]; exact b1,BL b2 ha⟩,⟨vk,by rw [An h.cO]; exact k1,BL k2 ha⟩,⟨vn++[v],Af,Bv (BL hp ha) (.cons (hv.upd ha) .nil)⟩,⟨vd,by rw [An (Ne.symm h.dD)]; exact d1,d2,h.dput ha (fun z=>hm (List.mem_append_left _ z)) d3⟩,by rw [An (Ne.symm h.dG)]; exact h.s,h.Lf (fun z=>hm (List.mem_append_right _ z))⟩
theorem M4 (S:Pl) (x:Dt) (l:List (List Ln)):({ S with ds:=S.ds++[x],ls:=l }:Pl).Ls=S.Ls++x.L:=by
 show (S.ds++[x]).flatMap Dt.L=_
 rw [List.flatMap_append]
 simp
theorem Bg.Rk (h:Bg H0 H A S Cs lo) {vs:List V} (ha:H A.d=some (.lst vs)) {x:Dt} {v:V} (hv:Gj H (x,[]) v) (hL:∀ L∈x.L,H0 L=none/\L ∉ A.r::A.b::A.k::A.n::A.d::A.s::(S.Ls++Cs)):Bg H0 (upd H A.d (.lst (vs++[v]))) A { S with ds:=S.ds++[x],ls:=S.ls++[[]] } Cs lo:=by
 obtain ⟨kvs,g1,g2⟩:=h.dp
 obtain ⟨vr,r1,r2⟩:=h.r
 obtain ⟨vb,b1,b2⟩:=h.b
 obtain ⟨vk,k1,k2⟩:=h.k
 obtain ⟨vn,n1,n2⟩:=h.n
 obtain ⟨vd,d1,d2,d3⟩:=h.d
 have hm:=h.dF
 obtain rfl:vd=vs:=HO.lst.inj (Option.some.inj (d1.symm.trans ha))
 refine ⟨⟨kvs,Gv g1 ha,g2⟩,?_,Dh h.sm (h.fr _ (by simp)),h.f0,?_,⟨vr,by rw [An h.dW]; exact r1,BL r2 ha⟩,⟨vb,by rw [An h.cg]; exact b1,BL b2 ha⟩,⟨vk,by rw [An h.dN]; exact k1,BL k2 ha⟩,⟨vn,by rw [An h.dD]; exact n1,BL n2 ha⟩,⟨vd++[v],Af,by simp [d2],?_⟩,by rw [An (Ne.symm h.dU)]; exact h.s,h.Lf (fun z=>hm (List.mem_append_right _ z))⟩
 ·rw [M4]
  have nd:=h.nd
  cases x with
  | stop b L =>
   have hL':=(hL L (List.mem_singleton.mpr rfl)).2
   have e:(A.r::A.b::A.k::A.n::A.d::A.s::(S.Ls++Dt.L (.stop b L)++Cs)).Perm (L::(A.r::A.b::A.k::A.n::A.d::A.s::(S.Ls++Cs))):=by
    show (([A.r,A.b,A.k,A.n,A.d,A.s]++(S.Ls++[L]++Cs)):List Addr).Perm (L::([A.r,A.b,A.k,A.n,A.d,A.s]++(S.Ls++Cs)))
    have e1:([A.r,A.b,A.k,A.n,A.d,A.s]++(S.Ls++[L]++Cs):List Addr)=([A.r,A.b,A.k,A.n,A.d,A.s]++S.Ls)++L::Cs:=by simp
    have e2:([A.r,A.b,A.k,A.n,A.d,A.s]++(S.Ls++Cs):List Addr)=([A.r,A.b,A.k,A.n,A.d,A.s]++S.Ls)++Cs:=by simp
    rw [e1,e2]
    exact List.perm_middle
   exact e.nodup_iff.mpr (List.nodup_cons.mpr ⟨hL',nd⟩)
  | coup a b t =>
   show (A.r::A.b::A.k::A.n::A.d::A.s::(S.Ls++[]++Cs)).Nodup
   rw [List.append_nil]
   exact nd
  | mute b =>
   show (A.r::A.b::A.k::A.n::A.d::A.s::(S.Ls++[]++Cs)).Nodup
   rw [List.append_nil]
   exact nd
 ·rw [M4]
  intro a ha'
  have:a∈A.r::A.b::A.k::A.n::A.d::A.s::S.Ls \/ a∈x.L:=by
   simp only [List.mem_cons,List.mem_append] at ha' ⊢
   rcases ha' with z | z | z | z | z | z | z | z
   ·exact .inl (.inl z)
   ·exact .inl (.inr (.inl z))
   ·exact .inl (.inr (.inr (.inl z)))
   ·exact .inl (.inr (.inr (.inr (.inl z))))
   ·exact .inl (.inr (.inr (.inr (.inr (.inl z)))))
   ·exact .inl (.inr (.inr (.inr (.inr (.inr (.inl z))))))
   ·exact .inl (.inr (.inr (.inr (.inr (.inr (.inr z))))))
   ·exact .inr z
  rcases this with z | z
  ·exact h.fr a z
  ·exact (hL a z).1
 ·rw [List.zip_append d2]
  refine Bv (h.dput ha (fun z=>hm (List.mem_append_left _ z)) d3) (.cons (hv.put ha fun L hL' z=>?_) .nil)
  exact (hL L hL').2 (by rw [z]; simp)
theorem Bg.Eh (h:Bg H0 H A S Cs lo) {C:Addr} {l:List Nat} (hC:H C=some (.lst (l.map fun n:Nat=>V.int (n:Int)))) (hn:C ∉ A.r::A.b::A.k::A.n::A.d::A.s::(S.Ls++Cs)):Bg H0 (upd H A.s (.lst (Cs.map V.ref++[.ref C]))) A { S with ch:=S.ch++[l] } (Cs++[C]) lo:=by
 obtain ⟨kvs,g1,g2⟩:=h.dp
 obtain ⟨vr,r1,r2⟩:=h.r
 obtain ⟨vb,b1,b2⟩:=h.b
 obtain ⟨vk,k1,k2⟩:=h.k
 obtain ⟨vn,n1,n2⟩:=h.n
 obtain ⟨vd,d1,d2,d3⟩:=h.d
 have hm:=h.dH
 have ha:=h.s
 refine ⟨⟨kvs,Gv g1 ha,g2⟩,?_,Dh h.sm (h.fr _ (by simp)),h.f0,h.fr,⟨vr,by rw [An h.c7]; exact r1,BL r2 ha⟩,⟨vb,by rw [An h.cY]; exact b1,BL b2 ha⟩,⟨vk,by rw [An h.cj]; exact k1,BL k2 ha⟩,⟨vn,by rw [An h.dG]; exact n1,BL n2 ha⟩,⟨vd,by rw [An h.dU]; exact d1,d2,h.dput ha (fun z=>hm (List.mem_append_left _ z)) d3⟩,by rw [List.map_append]; exact Af,Bv (h.Lf (fun z=>hm (List.mem_append_right _ z))) (.cons (by rw [An fun z=>hn (by rw [z]; simp)]; exact hC) .nil)⟩
 show (A.r::A.b::A.k::A.n::A.d::A.s::(S.Ls++(Cs++[C]))).Nodup
 have e:(A.r::A.b::A.k::A.n::A.d::A.s::(S.Ls++(Cs++[C]))).Perm (C::(A.r::A.b::A.k::A.n::A.d::A.s::(S.Ls++Cs))):=by
  rw [← List.append_assoc]
  exact List.perm_append_singleton C (A.r::A.b::A.k::A.n::A.d::A.s::(S.Ls++Cs))
 exact e.nodup_iff.mpr (List.nodup_cons.mpr ⟨hn,h.nd⟩)
theorem Bg.XR (h:Bg H0 H A S Cs lo) {b:Nat} {L:Addr} {ds0:List Dt} {ls0:List (List Ln)} {l0:List Ln} {x:Ln} {v:V} {ts:List V} (e1:S.ds=ds0++[.stop b L]) (e2:S.ls=ls0++[l0]) (hL:H L=some (.lst ts)) (hv:TupAt H (Y9 x) v):Bg H0 (upd H L (.lst (ts++[v]))) A { S with ls:=ls0++[l0++[x]] } Cs lo:=by
 obtain ⟨kvs,g1,g2⟩:=h.dp
 obtain ⟨vr,r1,r2⟩:=h.r
 obtain ⟨vb,b1,b2⟩:=h.b
 obtain ⟨vk,k1,k2⟩:=h.k
 obtain ⟨vn,n1,n2⟩:=h.n
 obtain ⟨vd,d1,d2,d3⟩:=h.d
 have ha:=hL
 have hmem:L∈S.Ls:=List.mem_flatMap.mpr ⟨.stop b L,by rw [e1]; simp,List.mem_singleton.mpr rfl⟩
 have nr:A.r ≠ L:=fun z=>h.cR (z ▸ List.mem_append_left _ hmem)
 have nb:A.b ≠ L:=fun z=>h.cU (z ▸ List.mem_append_left _ hmem)
 have nk:A.k ≠ L:=fun z=>h.cV (z ▸ List.mem_append_left _ hmem)
 have nn:A.n ≠ L:=fun z=>h.cP (z ▸ List.mem_append_left _ hmem)
 have ndd:A.d ≠ L:=fun z=>h.dF (z ▸ List.mem_append_left _ hmem)
 have ns:A.s ≠ L:=fun z=>h.dH (z ▸ List.mem_append_left _ hmem)
 have hnd:(S.Ls++Cs).Nodup:=by
  have z:=h.nd
  simp only [List.nodup_cons] at z
  exact z.2.2.2.2.2.2
 have hLs:S.Ls=ds0.flatMap Dt.L++[L]:=by
  show S.ds.flatMap Dt.L=_
  rw [e1,List.flatMap_append]
  rfl
 have hC:L ∉ Cs:=fun z=>(List.nodup_append.mp hnd).2.2 L hmem L z rfl
 have h0:L ∉ ds0.flatMap Dt.L:=fun z=>by
  have:=(List.nodup_append.mp hnd).1
  rw [hLs] at this
  exact (List.nodup_append.mp this).2.2 L z L (List.mem_singleton.mpr rfl) rfl
 have ld:ds0.length=ls0.length:=by
  have:=d2
  rw [e1,e2] at this
  simpa using this
 rw [e1,e2,List.zip_append ld] at d3
 obtain ⟨vd0,u,rfl,p0,hu⟩:=Fo d3
 refine ⟨⟨kvs,Gv g1 ha,g2⟩,h.nd,Dh h.sm (h.fr _ (by simp only [List.mem_cons]; simp only [hmem,or_true])),h.f0,h.fr,⟨vr,by rw [An nr]; exact r1,BL r2 ha⟩,⟨vb,by rw [An nb]; exact b1,BL b2 ha⟩,⟨vk,by rw [An nk]; exact k1,BL k2 ha⟩,⟨vn,by rw [An nn]; exact n1,BL n2 ha⟩,⟨_,by rw [An ndd]; exact d1,?_,?_⟩,by rw [An ns]; exact h.s,h.Lf hC⟩
 ·show S.ds.length=(ls0++[l0++[x]]).length
  rw [e1]
  simp [ld]
 ·show Paired _ (S.ds.zip (ls0++[l0++[x]])) _
  rw [e1,List.zip_append ld]
  refine Bv (Gh p0 fun y w hy q=>q.put ha fun L' hL' z=>h0 (z ▸ List.mem_flatMap.mpr ⟨y.1,(List.of_mem_zip hy).1,hL'⟩)) (.cons ?_ .nil)
  obtain ⟨q1,ts',q2,q3⟩:=hu
  obtain rfl:ts'=ts:=HO.lst.inj (Option.some.inj (q2.symm.trans hL))
  exact ⟨q1.upd ha,ts'++[v],Af,Bv (BL q3 ha) (.cons (hv.upd ha) .nil)⟩
theorem Qa {kvs:List (Key × V)} {k:Key} {v w:V} (h:CJ kvs k=some w):(putK kvs k v).length=kvs.length:=by
 unfold putK
 rw [if_pos (by rw [GR,h]; rfl),List.length_map]
theorem Bg.YZ (h:Bg H0 H A S Cs lo) {kvs:List (Key × V)} (hp:H A.p=some (.dK kvs)) (v:V):Bg H0 (upd H A.p (.dK (putK kvs (Sum.inr "lines") v))) A S Cs v:=by
 obtain ⟨kvs',g1,g2,y1,y2,y3,y4,y5,y6,y7⟩:=h.dp
 obtain rfl:kvs'=kvs:=HO.dK.inj (Option.some.inj (g1.symm.trans hp))
 obtain ⟨vr,r1,r2⟩:=h.r
 obtain ⟨vb,b1,b2⟩:=h.b
 obtain ⟨vk,k1,k2⟩:=h.k
 obtain ⟨vn,n1,n2⟩:=h.n
 obtain ⟨vd,d1,d2,d3⟩:=h.d
 have sx:SX A.p H (upd H A.p (.dK (putK kvs' (Sum.inr "lines") v))):=SX.up
 have tp:∀ {zs:List V} {y:V},TupAt H zs y->TupAt (upd H A.p (.dK (putK kvs' (Sum.inr "lines") v))) zs y:=fun {zs y} h=>by
  obtain ⟨T,rfl,e⟩:=h
  exact ⟨T,rfl,sx _ _ e fun z=>by rw [z,hp] at e; cases e⟩
 have lt:∀ {a:Addr} {xs:List V},H a=some (.lst xs)->upd H A.p (.dK (putK kvs' (Sum.inr "lines") v)) a=some (.lst xs):=fun {a xs} h=>sx _ _ h fun z=>by rw [z,hp] at h; cases h
 refine ⟨⟨_,Af,by rw [Qa y7]; exact g2,?_,?_,?_,?_,?_,?_,?_⟩,h.nd,Dh h.sm h.f0,h.f0,h.fr,⟨vr,lt r1,Paired.Ez r2 fun _ _ q=>tp q⟩,⟨vb,lt b1,Paired.Ez b2 fun _ _ q=>tp q⟩,⟨vk,lt k1,Paired.Ez k2 fun _ _ q=>tp q⟩,⟨vn,lt n1,Paired.Ez n2 fun _ _ q=>tp q⟩,⟨vd,lt d1,d2,Paired.Ez d3 fun _ _ q=>q.dict sx hp⟩,lt h.s,Paired.Ez h.c fun _ _ q=>lt q⟩
 ·rw [BZ,if_neg (by decide +kernel)]; exact y1
 ·rw [BZ,if_neg (by decide +kernel)]; exact y2
 ·rw [BZ,if_neg (by decide +kernel)]; exact y3
 ·rw [BZ,if_neg (by decide +kernel)]; exact y4
 ·rw [BZ,if_neg (by decide +kernel)]; exact y5
 ·rw [BZ,if_neg (by decide +kernel)]; exact y6
 ·rw [BZ,if_pos rfl]
end
end Og
namespace Og
open PySem L2
variable {K:PySem.W.Frag} {aB aP aM:Addr}
noncomputable def Pg (bs:List (Str × Nat)) (r:R):Dt->Prop
 | .stop b _=>r.w = "stop" /\ ∃ x,bs[b]? = some x/\r.rest=[.str x.1]
 | .coup a b s=>r.w = "coupler" /\ ∃ x y,bs[a]? = some x/\bs[b]? = some y/\r.rest=[.str x.1,.str y.1,.int s]
 | .mute b=>r.w = "mute" /\ ∃ x,bs[b]? = some x/\r.rest=[.str x.1]
structure Dm (K:PySem.W.Frag) (aB aP aM:Addr) (base:Str) (S:Pl) (lo:V):Prop where
 bl:Hd K aB aP aM S.rows S.bs S.rk S.ks S.ls (S.ch.map Wd.mk)
 nb:∀ x∈S.bs,∃ i,i<S.rows.length/\x.1=Dl base i
 nr:∀ x∈S.rk,∃ i,i<S.rows.length/\x.1=Dl base i
 nk:∀ x∈S.ks,∃ i,i<S.rows.length/\x.nm=Dl base i
 db:(S.bs.map (·.1)).Nodup
 dr:(S.rk.map (·.1)).Nodup
 dk:(S.ks.map (·.nm)).Nodup
 b5:S.bs.length<=5
 sb:∀ x∈S.bs,1<=x.2/\x.2<=61
 r12:S.rk.length<=12
 sr:∀ x∈S.rk,1<=x.2.1/\x.2.1<=97
 lk:S.ks.length<=S.rows.length
 pd:Paired (Pg S.bs) S.ks S.ds
 ch:∀ l∈S.ch,l.Nodup/\∀ i∈l,∃ k,S.ks[i]? = some k/\k.w = "stop"
 op:lo=.non \/ ∃ ds0 b L x ls0 l0,S.ds=ds0++[.stop b L]/\S.ls=ls0++[l0]/\lo=.ref L/\S.bs[b]? = some x/\Tl S.rows x.1 l0.length
noncomputable abbrev bz (r:R) (lo:V):V:=if r.w = "stop" \/ r.w = "line" then lo else .non
noncomputable def Iz (K:PySem.W.Frag) (aB aP aM:Addr) (base:Str) (H0:Hp) (A:Hh) (S:Pl) (Q:V->Hp->Prop):Prop :=
 ∀ (r:R) (y:V) (S':Pl) (Cs':List Addr) (lo':V) (H':Hp),Bg H0 H' A S' Cs' lo'->S'.rows=S.rows->TupAt H' r.v y->Dm K aB aP aM base { S' with rows:=S.rows++[r] } (bz r lo')->1<=S'.bs.length->Q y H'
section
variable {base:Str} {S:Pl} {lo:V}
theorem Dm.fb (h:Dm K aB aP aM base S lo) (hl:S.rows.length<77):∀ x∈S.bs,x.1 ≠ Dl base S.rows.length:=fun x hx z=>by
 obtain ⟨i,hi,e⟩:=h.nb x hx
 have:=Jy (by omega) (by omega) (e.symm.trans z)
 omega
theorem Dm.fr (h:Dm K aB aP aM base S lo) (hl:S.rows.length<77):∀ x∈S.rk,x.1 ≠ Dl base S.rows.length:=fun x hx z=>by
 obtain ⟨i,hi,e⟩:=h.nr x hx
 have:=Jy (by omega) (by omega) (e.symm.trans z)
 omega
theorem Dm.fk (h:Dm K aB aP aM base S lo) (hl:S.rows.length<77):∀ x∈S.ks,x.nm ≠ Dl base S.rows.length:=fun x hx z=>by
 obtain ⟨i,hi,e⟩:=h.nk x hx
 have:=Jy (by omega) (by omega) (e.symm.trans z)
 omega
theorem FP {α:Type} {f:α->Str} {l:List α} {n:Nat} (h:∀ x∈l,∃ i,i<n/\f x=Dl base i):∀ x∈l,∃ i,i<n+1/\f x=Dl base i:=fun x hx=>by
 obtain ⟨i,h1,h2⟩:=h x hx
 exact ⟨i,by omega,h2⟩
theorem Lj {α:Type} {f:α->Str} {l:List α} {n:Nat} {a:α} (h:∀ x∈l,∃ i,i<n/\f x=Dl base i) (ha:f a=Dl base n):∀ x∈l++[a],∃ i,i<n+1/\f x=Dl base i:=fun x hx=>by
 rcases List.mem_append.mp hx with z | z
 ·exact FP h x z
 ·rw [List.mem_singleton.mp z]
  exact ⟨n,by omega,ha⟩
theorem Qg {α:Type} {f:α->Str} {l:List α} {a:α} (h:(l.map f).Nodup) (hf:∀ x∈l,f x ≠ f a):((l++[a]).map f).Nodup:=by
 rw [List.map_append]
 refine List.nodup_append.mpr ⟨h,by simp,fun x hx y hy z=>?_⟩
 obtain ⟨w,hw,rfl⟩:=List.mem_map.mp hx
 have hy':y=f a:=by simpa using hy
 exact hf w hw (z.trans hy')
theorem Pg.grow {bs:List (Str × Nat)} {x:Str × Nat} {r:R} {d:Dt} (h:Pg bs r d):Pg (bs++[x]) r d:=by
 have g:∀ {i:Nat} {z:Str × Nat},bs[i]? = some z->(bs++[x])[i]? = some z:=fun {i z} h=>by
  rw [List.getElem?_append_left (List.getElem?_eq_some_iff.mp h).1]
  exact h
 cases d with
 | stop b L =>
  obtain ⟨h1,z,h2,h3⟩:=h
  exact ⟨h1,z,g h2,h3⟩
 | coup a b s =>
  obtain ⟨h1,y,z,h2,h3,h4⟩:=h
  exact ⟨h1,y,z,g h2,g h3,h4⟩
 | mute b =>
  obtain ⟨h1,z,h2,h3⟩:=h
  exact ⟨h1,z,g h2,h3⟩
theorem Dm.Pu (F:O5 K aB aP aM) (hb:Gi base) (h:Dm K aB aP aM base S lo) (hl:S.rows.length<77) (h5:S.bs.length<5) {n:Nat} (h1:1<=n) (h2:n<=61):Dm K aB aP aM base { S with bs:=S.bs++[(Dl base S.rows.length,n)],rows:=S.rows++[Ft (Dl base S.rows.length,n)] } .non:=by
 have el:(S.rows++[Ft (Dl base S.rows.length,n)]).length=S.rows.length+1:=by simp
 refine ⟨h.bl.Pu F (Dz hb _) (h.fb hl) (h.fr hl) (h.fk hl) h5 h1 h2,?_,?_,?_,Qg h.db (h.fb hl),h.dr,h.dk,by simp; omega,fun x hx=>?_,h.r12,h.sr,?_,Paired.Ez h.pd fun _ _ q=>q.grow,h.ch,.inl rfl⟩
 ·show ∀ x∈S.bs++_,∃ i,i<_/\_
  rw [el]
  exact Lj (f:=fun x:Str × Nat=>x.1) h.nb rfl
 ·show ∀ x∈S.rk,∃ i,i<_/\_
  rw [el]
  exact FP (f:=fun x:Str × Nat × Int=>x.1) h.nr
 ·show ∀ x∈S.ks,∃ i,i<_/\_
  rw [el]
  exact FP (f:=fun x:R=>x.nm) h.nk
 ·rcases List.mem_append.mp hx with z | z
  ·exact h.sb x z
  ·rw [List.mem_singleton.mp z]
   exact ⟨h1,h2⟩
 ·show S.ks.length<=_
  rw [el]
  have:=h.lk
  omega
theorem Dm.rank (F:O5 K aB aP aM) (hb:Gi base) (h:Dm K aB aP aM base S lo) (hl:S.rows.length<77) (h12:S.rk.length<12) {n:Nat} {wi:Int} (h1:1<=n) (h2:n<=97) (h3:0<=wi) (h4:wi<=1000000000):Dm K aB aP aM base { S with rk:=S.rk++[(Dl base S.rows.length,n,wi)],rows:=S.rows++[Fz (Dl base S.rows.length,n,wi)] } .non:=by
 have el:(S.rows++[Fz (Dl base S.rows.length,n,wi)]).length=S.rows.length+1:=by simp
 refine ⟨h.bl.rank F (Dz hb _) (h.fb hl) (h.fr hl) (h.fk hl) h12 h1 h2 h3 h4,?_,?_,?_,h.db,Qg h.dr (h.fr hl),h.dk,h.b5,h.sb,by simp; omega,fun x hx=>?_,?_,h.pd,h.ch,.inl rfl⟩
 ·show ∀ x∈S.bs,∃ i,i<_/\_
  rw [el]
  exact FP (f:=fun x:Str × Nat=>x.1) h.nb
 ·show ∀ x∈S.rk++_,∃ i,i<_/\_
  rw [el]
  exact Lj (f:=fun x:Str × Nat × Int=>x.1) h.nr rfl
 ·show ∀ x∈S.ks,∃ i,i<_/\_
  rw [el]
  exact FP (f:=fun x:R=>x.nm) h.nk
 ·rcases List.mem_append.mp hx with z | z
  ·exact h.sr x z
  ·rw [List.mem_singleton.mp z]
   exact ⟨h1,h2⟩
 ·show S.ks.length<=_
  rw [el]
  have:=h.lk
  omega
theorem Dm.Rt (h:Dm K aB aP aM base S lo) (hl:S.rows.length<77) {r:R} {d:Dt} {lo':V} (hn:r.nm=Dl base S.rows.length) (hd:Pg S.bs r d) (hB:Hd K aB aP aM (S.rows++[r]) S.bs S.rk (S.ks++[r]) (S.ls++[[]]) (S.ch.map Wd.mk))
  (hop:lo'=.non \/ ∃ b L x,d=.stop b L/\lo'=.ref L/\S.bs[b]? = some x/\Tl (S.rows++[r]) x.1 0):Dm K aB aP aM base { S with ks:=S.ks++[r],ls:=S.ls++[[]],ds:=S.ds++[d],rows:=S.rows++[r] } lo':=by
 have el:(S.rows++[r]).length=S.rows.length+1:=by simp
 refine ⟨hB,?_,?_,?_,h.db,h.dr,Qg h.dk (fun x hx=>by rw [hn]; exact h.fk hl x hx),h.b5,h.sb,h.r12,h.sr,?_,Bv h.pd (.cons hd .nil),fun l hl'=>?_,?_⟩
 ·show ∀ x∈S.bs,∃ i,i<_/\_
  rw [el]
  exact FP (f:=fun x:Str × Nat=>x.1) h.nb
 ·show ∀ x∈S.rk,∃ i,i<_/\_
  rw [el]
  exact FP (f:=fun x:Str × Nat × Int=>x.1) h.nr
 ·show ∀ x∈S.ks++_,∃ i,i<_/\_
  rw [el]
  exact Lj (f:=fun x:R=>x.nm) h.nk hn
 ·show (S.ks++[r]).length<=_
  rw [el]
  have:=h.lk
  simp
  omega
 ·obtain ⟨g1,g2⟩:=h.ch l hl'
  refine ⟨g1,fun i hi=>?_⟩
  obtain ⟨k,g3,g4⟩:=g2 i hi
  exact ⟨k,by rw [List.getElem?_append_left (List.getElem?_eq_some_iff.mp g3).1]; exact g3,g4⟩
 ·rcases hop with z | ⟨b,L,x,rfl,g1,g2,g3⟩
  ·exact .inl z
  ·exact .inr ⟨S.ds,b,L,x,S.ls,[],rfl,rfl,g1,g2,g3⟩
theorem Dm.line (F:O5 K aB aP aM) (hb:Gi base) (h:Dm K aB aP aM base S lo) {ds0:List Dt} {b:Nat} {L:Addr} {x:Str × Nat} {ls0:List (List Ln)} {l0:List Ln} (e1:S.ds=ds0++[.stop b L]) (e2:S.ls=ls0++[l0]) (hx:S.bs[b]? = some x) (hT:Tl S.rows x.1 l0.length) (h4:l0.length<4)
  {j:Nat} {r:Str × Nat × Int} {sh lw hi:Int} (hj:S.rk[j]? = some r) (hle:lw<=hi) (hn:hi<(x.2:Int)) (b1 : -200<=sh) (b2:sh<=200) (b3:0<=lw):Dm K aB aP aM base { S with ls:=ls0++[l0++[⟨j,sh,lw,hi⟩]],rows:=S.rows++[⟨"line",r.1,[.int sh,.int lw,.int hi]⟩] } (.ref L):=by
 have el:(S.rows++[(⟨"line",r.1,[.int sh,.int lw,.int hi]⟩:R)]).length=S.rows.length+1:=by simp
 have hxs:=h.sb x (List.mem_of_getElem? hx)
 have hB:=h.bl
 rw [e2] at hB
 have ht:isNm r.1:=by
  obtain ⟨i,_,e⟩:=h.nr r (List.mem_of_getElem? hj)
  rw [e]
  exact Dz hb i
 refine ⟨hB.line F hT h4 (m:=r.2.1) (wi:=r.2.2) hj h.dr ht (n:=x.2) (List.mem_of_getElem? hx) hle hn b1 b2 b3 (by omega),?_,?_,?_,h.db,h.dr,h.dk,h.b5,h.sb,h.r12,h.sr,?_,h.pd,h.ch,.inr ⟨ds0,b,L,x,ls0,_,e1,rfl,rfl,hx,?_⟩⟩
 ·show ∀ x∈S.bs,∃ i,i<_/\_
  rw [el]
  exact FP (f:=fun x:Str × Nat=>x.1) h.nb
 ·show ∀ x∈S.rk,∃ i,i<_/\_
  rw [el]
  exact FP (f:=fun x:Str × Nat × Int=>x.1) h.nr
 ·show ∀ x∈S.ks,∃ i,i<_/\_
  rw [el]
  exact FP (f:=fun x:R=>x.nm) h.nk
 ·show S.ks.length<=_
  rw [el]
  have:=h.lk
  omega
 ·rw [List.length_append,List.length_singleton]
  exact hT.line rfl
theorem Vg {ks:List R} (nd:(ks.map (·.nm)).Nodup) {i:Nat} {k:R} (h:ks[i]? = some k):(ks.map (·.nm)).idxOf k.nm=i:=by
 have hi:i<(ks.map (·.nm)).length:=by rw [List.length_map]; exact (List.getElem?_eq_some_iff.mp h).1
 have e:(ks.map (·.nm))[i]=k.nm:=by
  rw [List.getElem_map]
  exact congrArg (·.nm) (List.getElem?_eq_some_iff.mp h).2
 rw [← e]
 exact nd.idxOf_getElem i hi
noncomputable def Ht (ks:List R) (i:Nat):Str:=((ks[i]?).map (·.nm)).getD ""
theorem LK {ks:List R} {i:Nat} {k:R} (h:ks[i]? = some k):Ht ks i=k.nm:=by unfold Ht; rw [h]; rfl
theorem Dm.step (hM:∃ t,PySem.W.nsIn K aM "step" = some (some (.int 12 t))) (hb:Gi base) (h:Dm K aB aP aM base S lo) {i0:Nat} {c:List Nat} (nd:(i0::c).Nodup) (h24:(i0::c).length<=24) (hc:∀ i∈i0::c,∃ k,S.ks[i]? = some k/\k.w = "stop") (h12:S.ch.length<12) :
  Dm K aB aP aM base { S with ch:=S.ch++[i0::c],rows:=S.rows++[⟨"step",Ht S.ks i0,(c.map (Ht S.ks)).map V.str⟩] } .non:=by
 have el:(S.rows++[(⟨"step",Ht S.ks i0,(c.map (Ht S.ks)).map V.str⟩:R)]).length=S.rows.length+1:=by simp
 have ix:∀ i∈i0::c,(S.ks.map (·.nm)).idxOf (Ht S.ks i)=i:=fun i hi=>by
  obtain ⟨k,g1,_⟩:=hc i hi
  rw [LK g1]
  exact Vg h.dk g1
 have hB:=h.bl.step (t0:=Ht S.ks i0) (ts:=c.map (Ht S.ks)) hM ?_ (by simpa using h24) ?_ (by rw [List.length_map]; exact h12)
 ·have e3:((Ht S.ks i0::c.map (Ht S.ks)).map fun t=>(S.ks.map (·.nm)).idxOf t)=i0::c:=by
   show (((i0::c).map (Ht S.ks)).map fun t=>(S.ks.map (·.nm)).idxOf t)=_
   rw [List.map_map]
   have:(i0::c).map ((fun t=>(S.ks.map (·.nm)).idxOf t) ∘ Ht S.ks)=(i0::c).map id:=List.map_congr_left fun i hi=>ix i hi
   rw [this,List.map_id]
  rw [e3] at hB
  refine ⟨by show Hd _ _ _ _ _ _ _ _ _ ((S.ch++[i0::c]).map Wd.mk); rw [List.map_append]; exact hB,?_,?_,?_,h.db,h.dr,h.dk,h.b5,h.sb,h.r12,h.sr,?_,h.pd,fun l hl=>?_,.inl rfl⟩
  ·show ∀ x∈S.bs,∃ i,i<_/\_
   rw [el]
   exact FP (f:=fun x:Str × Nat=>x.1) h.nb
  ·show ∀ x∈S.rk,∃ i,i<_/\_
   rw [el]
   exact FP (f:=fun x:Str × Nat × Int=>x.1) h.nr
  ·show ∀ x∈S.ks,∃ i,i<_/\_
   rw [el]
   exact FP (f:=fun x:R=>x.nm) h.nk
  ·show S.ks.length<=_
   rw [el]
   have:=h.lk
   omega
  ·rcases List.mem_append.mp hl with z | z
   ·exact h.ch l z
   ·rw [List.mem_singleton.mp z]
    exact ⟨nd,hc⟩
 ·show ((i0::c).map (Ht S.ks)).Nodup
  refine List.Pairwise.of_map (S:=(· ≠ ·)) (fun t=>(S.ks.map (·.nm)).idxOf t) (fun a b h e=>h (by rw [e])) ?_
  rw [List.map_map]
  have:(i0::c).map ((fun t=>(S.ks.map (·.nm)).idxOf t) ∘ Ht S.ks)=(i0::c).map id:=List.map_congr_left fun i hi=>ix i hi
  rw [this,List.map_id]
  exact nd
 ·intro t ht
  obtain ⟨i,hi,rfl⟩:=List.mem_map.mp (show t∈(i0::c).map (Ht S.ks) from ht)
  obtain ⟨k,g1,g2⟩:=hc i hi
  rw [LK g1]
  obtain ⟨m,_,e⟩:=h.nk k (List.mem_of_getElem? g1)
  exact ⟨by rw [e]; exact Dz hb m,k,List.mem_of_getElem? g1,g2,rfl⟩
theorem GZ {α β:Type} {F:α->β->Prop}:∀ {l:List α} {vs:List β},Paired F l vs->∀ a∈l,∃ b∈vs,F a b
 | [],_,h,a,ha=>nomatch ha
 | x::l,_,h,a,ha=>by
  cases h with
  | cons z y =>
   rcases List.mem_cons.mp ha with rfl | h'
   ·exact ⟨_,List.mem_cons_self ..,z⟩
   ·obtain ⟨b,hb,e⟩:=GZ y a h'
    exact ⟨b,List.mem_cons_of_mem _ hb,e⟩
theorem Bg.old {H0 H:Hp} {A:Hh} {S:Pl} {Cs:List Addr} {lo:V} (h:Bg H0 H A S Cs lo) {L:Addr} (hL:H L=none):H0 L=none/\L ∉ A.r::A.b::A.k::A.n::A.d::A.s::(S.Ls++Cs):=by
 refine ⟨h.sm.free hL,fun hm=>?_⟩
 have key:∃ o,H L=some o:=by
  obtain ⟨vd,d1,d2,d3⟩:=h.d
  simp only [List.mem_cons,List.mem_append] at hm
  rcases hm with rfl | rfl | rfl | rfl | rfl | rfl | z | z
  ·obtain ⟨v,e,_⟩:=h.r
   exact ⟨_,e⟩
  ·obtain ⟨v,e,_⟩:=h.b
   exact ⟨_,e⟩
  ·obtain ⟨v,e,_⟩:=h.k
   exact ⟨_,e⟩
  ·obtain ⟨v,e,_⟩:=h.n
   exact ⟨_,e⟩
  ·exact ⟨_,d1⟩
  ·exact ⟨_,h.s⟩
  ·obtain ⟨d,hd,hL'⟩:=List.mem_flatMap.mp z
   obtain ⟨i,hi,e⟩:=List.getElem_of_mem hd
   have hz:(d,S.ls[i]'(by omega))∈S.ds.zip S.ls:=by
    refine List.mem_iff_getElem.mpr ⟨i,by rw [List.length_zip]; omega,?_⟩
    rw [List.getElem_zip,e]
   obtain ⟨v,_,q⟩:=GZ d3 _ hz
   cases d with
   | stop b L1 =>
    obtain rfl:=List.mem_singleton.mp hL'
    obtain ⟨_,ts,e,_⟩:=q
    exact ⟨_,e⟩
   | coup a b s=>exact nomatch hL'
   | mute b=>exact nomatch hL'
  ·obtain ⟨l,_,q⟩:=GZ h.c _ z
   exact ⟨_,q⟩
 obtain ⟨o,e⟩:=key
 rw [hL] at e
 cases e
theorem Dm.Z0 {K:PySem.W.Frag} {aB aP aM:Addr} {bb:Str} {S:Pl} {lo:V} (h:Dm K aB aP aM bb S lo) (hb:Gi bb) {i:Nat} {x:Str × Nat} (hx:S.bs[i]? = some x):isNm x.1:=by
 obtain ⟨m,_,e⟩:=h.nb x (List.mem_of_getElem? hx)
 rw [e]
 exact Dz hb m
noncomputable abbrev Lk (l:List Nat):List V:=l.map fun n:Nat=>V.int (n:Int)
theorem QH (l:List Nat):(Lk l).all Dv=true:=List.all_eq_true.mpr fun v hv=>by
 obtain ⟨n,_,rfl⟩:=List.mem_map.mp hv
 rfl
theorem Rf (j:Nat) (js:List Nat):inV (.int (j:Nat)) (Lk js)=decide (j∈js):=by
 rw [Bool.eq_iff_iff,decide_eq_true_eq]
 unfold inV
 rw [List.any_eq_true]
 constructor
 ·rintro ⟨y,hy,e⟩
  obtain ⟨n,hn,rfl⟩:=List.mem_map.mp hy
  have e':(((n:Nat):Int) == ((j:Nat):Int))=true:=e
  have e2:((n:Nat):Int)=(j:Nat):=eq_of_beq e'
  have:n=j:=by omega
  subst this
  exact hn
 ·intro h
  exact ⟨_,List.mem_map_of_mem h,by show (((j:Nat):Int) == ((j:Nat):Int))=true; exact beq_self_eq_true _⟩
noncomputable def RD (ks:List R) (i:Nat):Bool:=match ks[i]? with
 | some k=>decide (V.str k.w=V.str "stop")
 | none=>false
noncomputable def Hw (ks:List R):List Nat:=(List.range ks.length).filter (RD ks)
theorem Kc {ks:List R} {i:Nat} (h:i∈Hw ks):∃ k,ks[i]? = some k/\k.w = "stop":=by
 have h2:=(List.mem_filter.mp h).2
 unfold RD at h2
 split at h2
 ·exact ⟨_,by assumption,V.str.inj (of_decide_eq_true h2)⟩
 ·cases h2
theorem QS {ks:List R} (h:0<(ks.filter fun r=>decide (V.str r.w=V.str "stop")).length):0<(Hw ks).length:=by
 obtain ⟨r,hr⟩:=List.exists_mem_of_length_pos h
 obtain ⟨h1,h2⟩:=List.mem_filter.mp hr
 obtain ⟨i,hi,e⟩:=List.getElem_of_mem h1
 refine List.length_pos_of_mem (a:=i) (List.mem_filter.mpr ⟨List.mem_range.mpr hi,?_⟩)
 unfold RD
 rw [List.getElem?_eq_getElem hi,e]
 exact h2
noncomputable def Z4 (ks:List R):V->V
 | .int i=>.str (Ht ks i.toNat)
 | _=>.non
theorem Jc (ns:List Int) {lo hi:Int} (h0:0<=lo) (h1:lo<=hi):∃ ms:List Int,Cv (ns.map V.int) (some lo) (some hi)=ms.map V.int/\(ms.length:Int)<=hi - lo:=by
 obtain ⟨a,rfl⟩:=Int.eq_ofNat_of_zero_le h0
 obtain ⟨b,rfl⟩:=Int.eq_ofNat_of_zero_le (show 0<=hi by omega)
 unfold Cv
 refine ⟨(ns.drop (HT.Di (ns.map V.int).length 0 (some (a:Int)))).take (HT.Di (ns.map V.int).length (ns.map V.int).length (some (b:Int)) - HT.Di (ns.map V.int).length 0 (some (a:Int))),?_,?_⟩
 ·rw [← List.map_drop,← List.map_take]
 ·rw [List.length_take,List.length_drop,HT.Eu,HT.Eu]
  omega
noncomputable abbrev Hg (a1 a2 a3 a4 a5 a6:Addr):List (Key × V):=[(Sum.inr "rows",.ref a1),(Sum.inr "boards",.ref a2),(Sum.inr "ranks",.ref a3),(Sum.inr "knobs",.ref a4),(Sum.inr "details",.ref a5),(Sum.inr "steps",.ref a6),(Sum.inr "lines",.non)]
theorem Bg.new {H H7:Hp} {p a1 a2 a3 a4 a5 a6:Addr} (s:Am H H7) (f0:H p=none) (f1:H a1=none) (f2:H a2=none) (f3:H a3=none) (f4:H a4=none) (f5:H a5=none) (f6:H a6=none) (e0:H7 p=some (.dK []))
  (e1:H7 a1=some (.lst [])) (e2:H7 a2=some (.lst [])) (e3:H7 a3=some (.lst [])) (e4:H7 a4=some (.lst [])) (e5:H7 a5=some (.lst [])) (e6:H7 a6=some (.lst [])) (nd:[a1,a2,a3,a4,a5,a6].Nodup) :
  Bg H (upd H7 p (.dK (DW [] (Hg a1 a2 a3 a4 a5 a6)))) ⟨p,a1,a2,a3,a4,a5,a6⟩ ⟨[],[],[],[],[],[],[]⟩ [] .non:=by
 have lt:∀ {a:Addr},H7 a=some (.lst [])->upd H7 p (.dK (DW [] (Hg a1 a2 a3 a4 a5 a6))) a=some (.lst []):=fun {a} h=>by
  rw [An (KN h e0 (by intro z; cases z))]
  exact h
 have em:DW [] (Hg a1 a2 a3 a4 a5 a6)=putK (putK (putK (putK (putK (putK (putK [] (Sum.inr ("rows" : Str):Key) (.ref a1)) (Sum.inr ("boards" : Str):Key) (.ref a2)) (Sum.inr ("ranks" : Str):Key) (.ref a3)) (Sum.inr ("knobs" : Str):Key) (.ref a4)) (Sum.inr ("details" : Str):Key) (.ref a5)) (Sum.inr ("steps" : Str):Key) (.ref a6)) (Sum.inr ("lines" : Str):Key) .non:=by
  simp only [DW,Hg,List.foldl_cons,List.foldl_nil]
 have w0:CJ (DW [] (Hg a1 a2 a3 a4 a5 a6)) (Sum.inr ("rows" : Str):Key)=some (.ref a1):=by
  rw [em,BZ,if_neg (by decide +kernel),BZ,if_neg (by decide +kernel),BZ,if_neg (by decide +kernel),BZ,if_neg (by decide +kernel),BZ,if_neg (by decide +kernel),BZ,if_neg (by decide +kernel),BZ,if_pos rfl]
 have w1:CJ (DW [] (Hg a1 a2 a3 a4 a5 a6)) (Sum.inr ("boards" : Str):Key)=some (.ref a2):=by
  rw [em,BZ,if_neg (by decide +kernel),BZ,if_neg (by decide +kernel),BZ,if_neg (by decide +kernel),BZ,if_neg (by decide +kernel),BZ,if_neg (by decide +kernel),BZ,if_pos rfl]
 have w2:CJ (DW [] (Hg a1 a2 a3 a4 a5 a6)) (Sum.inr ("ranks" : Str):Key)=some (.ref a3):=by
  rw [em,BZ,if_neg (by decide +kernel),BZ,if_neg (by decide +kernel),BZ,if_neg (by decide +kernel),BZ,if_neg (by decide +kernel),BZ,if_pos rfl]
 have w3:CJ (DW [] (Hg a1 a2 a3 a4 a5 a6)) (Sum.inr ("knobs" : Str):Key)=some (.ref a4):=by
  rw [em,BZ,if_neg (by decide +kernel),BZ,if_neg (by decide +kernel),BZ,if_neg (by decide +kernel),BZ,if_pos rfl]
 have w4:CJ (DW [] (Hg a1 a2 a3 a4 a5 a6)) (Sum.inr ("details" : Str):Key)=some (.ref a5):=by
  rw [em,BZ,if_neg (by decide +kernel),BZ,if_neg (by decide +kernel),BZ,if_pos rfl]
 have w5:CJ (DW [] (Hg a1 a2 a3 a4 a5 a6)) (Sum.inr ("steps" : Str):Key)=some (.ref a6):=by
  rw [em,BZ,if_neg (by decide +kernel),BZ,if_pos rfl]
 have w6:CJ (DW [] (Hg a1 a2 a3 a4 a5 a6)) (Sum.inr ("lines" : Str):Key)=some (.non):=by
  rw [em,BZ,if_pos rfl]
 have w7:(DW [] (Hg a1 a2 a3 a4 a5 a6)).length<=7:=by
  rw [em]
  refine Nat.le_trans (By _ _ _) (Nat.succ_le_succ ?_)
  refine Nat.le_trans (By _ _ _) (Nat.succ_le_succ ?_)
  refine Nat.le_trans (By _ _ _) (Nat.succ_le_succ ?_)
  refine Nat.le_trans (By _ _ _) (Nat.succ_le_succ ?_)
  refine Nat.le_trans (By _ _ _) (Nat.succ_le_succ ?_)
  refine Nat.le_trans (By _ _ _) (Nat.succ_le_succ ?_)
  exact By _ _ _
 refine ⟨⟨_,Af,w7,w0,w1,w2,w3,w4,w5,w6⟩,nd,Dh s f0,f0,?_,⟨[],lt e1,.nil⟩,⟨[],lt e2,.nil⟩,⟨[],lt e3,.nil⟩,⟨[],lt e4,.nil⟩,⟨[],lt e5,rfl,.nil⟩,lt e6,.nil⟩
 intro a ha
 simp only [List.mem_cons] at ha
 rcases ha with rfl | rfl | rfl | rfl | rfl | rfl | z
 ·exact f1
 ·exact f2
 ·exact f3
 ·exact f4
 ·exact f5
 ·exact f6
 ·exact nomatch z
theorem Dm.new (bb:Str):Dm K aB aP aM bb ⟨[],[],[],[],[],[],[]⟩ .non :=
 ⟨Hd.nil,(fun _ z=>nomatch z),(fun _ z=>nomatch z),(fun _ z=>nomatch z),List.nodup_nil,List.nodup_nil,List.nodup_nil,Nat.zero_le _,(fun _ z=>nomatch z),Nat.zero_le _,(fun _ z=>nomatch z),Nat.le_refl _,.nil,(fun _ z=>nomatch z),.inl rfl⟩
theorem Bg.stand {H0 H:Hp} {A:Hh} {S:Pl} {Cs:List Addr} {lo:V} {q:Addr} {o:HO} (h:Bg H0 H A S Cs lo) (hq:H q=some o) (hp:A.p ≠ q) (hn:∀ a∈A.r::A.b::A.k::A.n::A.d::A.s::S.Ls,a ≠ q):Bg (upd H0 q o) H A S Cs lo:=by
 refine ⟨h.dp,h.nd,fun b u e=>?_,by rw [An hp]; exact h.f0,fun a ha=>by rw [An (hn a ha)]; exact h.fr a ha,h.r,h.b,h.k,h.n,h.d,h.s,h.c⟩
 by_cases z:b=q
 ·subst z
  rw [Af] at e
  rw [hq,← e]
 ·rw [An z] at e
  exact h.sm _ _ e
theorem Bg.weak {H0 H:Hp} {A:Hh} {S:Pl} {Cs:List Addr} {lo:V} {q:Addr} {o:HO} (h:Bg (upd H0 q o) H A S Cs lo) (h0:H0 q=none):Bg H0 H A S Cs lo:=by
 have s0:Am H0 (upd H0 q o):=Ak h0
 exact ⟨h.dp,h.nd,s0.trans h.sm,s0.free h.f0,fun a ha=>s0.free (h.fr a ha),h.r,h.b,h.k,h.n,h.d,h.s,h.c⟩
theorem cu (z:Str):inV (.str z) [.str "stop",.str "line"]=true ↔ z = "stop" \/ z = "line":=by
 unfold inV
 simp [KC]
 constructor
 ·rintro (h | h)
  ·exact .inl h.symm
  ·exact .inr h.symm
 ·rintro (h | h)
  ·exact .inl h.symm
  ·exact .inr h.symm
end
end Og
namespace L2
open PySem PySem.Spec PySem.Calls PyProof.Rows
section
variable {X:Cx}
end
end L2
namespace L2
open PySem PySem.Spec PySem.Calls PyProof.Rows
section
variable {X:Cx}
end
end L2
namespace L2
open PySem PySem.Spec PyProof.Rows
end L2
namespace L2
open PySem PySem.Spec PyProof.Rows
section
variable {X:Cx} {pins:List (Addr × Obj)} {σ:St} {H:Hp} {s:Shared} {x z:Str} {scope:Scope} {fp:List Addr} {C:Addr}
end
section
variable {X:Cx} {x z:Str} {scope:Scope}
end
section
variable {X:Cx} {x z:Str} {scope:Scope}
end
end L2
namespace L2
open PySem PySem.Spec PySem.Calls PyProof.Rows
theorem Hk {X:Cx} (hu:X.A.units<cLine):GC X (compareOp .Eq) (fun x y H Q=>∃ p q xs,x=V.ref p/\y=V.ref q/\Cm X.K H p xs/\Cm X.K H q []/\Q (.bl xs.isEmpty) H):=by
 intro pins s σ H x y v u Q I rx ry h
 obtain ⟨p,q,xs,rfl,rfl,hp,hq,k⟩:=h
 cases rx
 cases ry
 obtain ⟨its,r,pl,hz⟩:=I.list hp
 obtain ⟨its2,r2,pl2,hz2⟩:=I.list hq
 have l1:=r.length
 cases r2
 cases xs with
 | nil =>
  cases r
  refine SeqAt.RcAt.lists (e:=fun _=>true) pl.isList pl2.isList rfl hu (fun j h1 h2=>?_) _ _ _ _ ⟨.bl _,H,I,rfl,k⟩
  exact absurd h1 (Nat.not_lt_zero _)
 | cons a b =>
  refine SeqAt.RcAt.lists_lengths pl.isList pl2.isList (by simp; intro z; rw [z] at l1; simp at l1) hu _ _ _ _ ⟨.bl _,H,I,rfl,k⟩
end L2
namespace L2
open PySem PySem.Spec PyProof.Rows
section
variable {X:Cx} {o e f:Expr} {apos cpos:Pos} {td ty tx:TE}
end
end L2
namespace L2
open PySem PySem.Spec PyProof.Rows
theorem NP {X:Cx} {x:Str} {e:Expr} {te:TE} {pos' pos:Pos} (i:Nat) (hN:X.N.Nodup) (hi:X.N[i]? = some x) (hx:Loc X.env.scope x) (he:PE X e te) (hs:swapsWith e (some (.Name x pos')) pos.line X.env=pure false) (hf:X.fn x=true \/ X.env.scope.names.lookup x=some .local) :
  PS X (.Assign [.Name x pos'] e pos) (VH te (DR i)):=Ba hN hi hx he hs hf
end L2
namespace L2
open PySem PySem.Spec PyProof.Rows
theorem Hz {X:Cx} {e:Expr} {es:List Expr} {te:TE} {t:TA} (h:starEach (e::es) X.env=(false,eval e X.env)::starEach es X.env) (he:PE X e te) (ht:PA X es t):PA X (e::es) (Sg te t):=Aa he ht h
end L2
namespace L2
open PySem PySem.Spec PyProof.Rows
end L2
namespace L2
open PySem PySem.Spec PyProof.Rows
noncomputable def Dp:Nat->Hp->V->V->Prop
 | 0,_,x,y=>x=y/\Dv x=true
 | n+1,H,x,y=>(x=y/\Dv x=true) \/ ∃ a b xs ys,x=V.ref a/\y=V.ref b/\((H a=some (.lst xs)/\H b=some (.lst ys)) \/ (H a=some (.tup xs)/\H b=some (.tup ys)))/\Paired (Dp n H) xs ys
theorem J4 {n:Nat} {H:Hp} {x:V} (h:Dv x=true):Dp n H x x:=by
 cases n with
 | zero=>exact ⟨rfl,h⟩
 | succ n=>exact .inl ⟨rfl,h⟩
theorem Ng {n:Nat} {H:Hp}:∀ {ns:List Int},Paired (Dp n H) (ns.map V.int) (ns.map V.int)
 | []=>.nil
 | _::_=>.cons (J4 rfl) Ng
theorem DP {R:V->V->Prop}:∀ {xs ys:List V},Paired R xs ys->∀ j,j<xs.length->R (xs.getD j .non) (ys.getD j .non)
 | _,_,.nil,j,h=>absurd h (Nat.not_lt_zero _)
 | _,_,.cons a b,0,_=>a
 | _,_,.cons a b,j+1,h=>DP b j (Nat.lt_of_succ_lt_succ h)
section
variable {X:Cx} {pins:List (Addr × Obj)} {σ:St} {H:Hp} {s:Shared}
theorem Gg (I:Inv X pins σ H s):∀ (n:Nat) (A:Around) (x y:V) (u v:Value),A.units+n<cLine->Dp n H x y->RelV x u->RelV y v->SeqAt.EqAt A s u v true
 | 0,A,x,y,u,v,hu,h,rx,ry=>by
  obtain ⟨rfl,hf⟩:=h
  have:=Lb (A:=A) (s:=s) rx ry hf hf
  rw [Kr hf] at this
  exact this
 | n+1,A,x,y,u,v,hu,h,rx,ry=>by
  rcases h with ⟨rfl,hf⟩ | ⟨a,b,xs,ys,rfl,rfl,hab,p⟩
  ·have:=Lb (A:=A) (s:=s) rx ry hf hf
   rw [Kr hf] at this
   exact this
  ·cases rx
   cases ry
   by_cases hne:a=b
   ·subst hne
    exact SeqAt.EqAt.same _
   ·refine SeqAt.EqAt.of_refs hne ?_
    have pl:=p.length
    rcases hab with ⟨ha,hb⟩ | ⟨ha,hb⟩
    ·obtain ⟨i1,r1,p1,_⟩:=I.list (show Cm X.K H a xs from .inl (.inl ha))
     obtain ⟨i2,r2,p2,_⟩:=I.list (show Cm X.K H b ys from .inl (.inl hb))
     have l1:=r1.length
     have l2:=r2.length
     have h:=SeqAt.RcAt.lists (A:=A) (e:=fun _=>true) p1.isList p2.isList (by simp; omega) (by omega) (fun j h1 h2=>by
      have h1':j<i1.length:=by simpa using h1
      have h2':j<i2.length:=by simpa using h2
      simp only [List.getElem_toArray]
      exact Gg I n A.in1 _ _ _ _ (by show A.units+1+n<cLine; omega) (DP p j (by omega)) (Dr r1 h1') (Dr r2 h2'))
     have e:((List.range i1.toArray.size).all fun _=>true)=true:=List.all_eq_true.mpr fun _ _=>rfl
     rw [e] at h
     exact h
    ·obtain ⟨i1,r1,p1,_⟩:=I.tuple (show FW X.K H a xs from .inl (.inl ha))
     obtain ⟨i2,r2,p2,_⟩:=I.tuple (show FW X.K H b ys from .inl (.inl hb))
     have l1:=r1.length
     have l2:=r2.length
     have h:=SeqAt.RcAt.tuples (A:=A) (e:=fun _=>true) p1 p2 (by omega) (fun j h1 h2=>by
      have h1':j<i1.length:=by simpa using h1
      have h2':j<i2.length:=by simpa using h2
      simp only [List.getElem_toArray]
      exact Gg I n A.in1 _ _ _ _ (by show A.units+1+n<cLine; omega) (DP p j (by omega)) (Dr r1 h1') (Dr r2 h2'))
     have e:((List.range (min i1.toArray.size i2.toArray.size)).all fun _=>true)=true:=List.all_eq_true.mpr fun _ _=>rfl
     have e2:(i1.toArray.size == i2.toArray.size)=true:=beq_iff_eq.mpr (by simp; omega)
     rw [e,e2] at h
     exact h
end
section
variable {X:Cx}
theorem P0 (n:Nat) (hu:X.A.units+(n+1)<cLine):GC X (compareOp .Eq) (fun x y H Q=>∃ a b,x=V.ref a/\y=V.ref b/\Dp (n+1) H x y/\Q (.bl true) H):=by
 intro pins s σ H x y v u Q I rx ry h
 obtain ⟨a,b,rfl,rfl,h,k⟩:=h
 rcases h with ⟨_,hf⟩ | ⟨a',b',xs,ys,ea,eb,hab,p⟩
 ·cases hf
 cases ea
 cases eb
 cases rx
 cases ry
 have pl:=p.length
 rcases hab with ⟨ha,hb⟩ | ⟨ha,hb⟩
 ·obtain ⟨i1,r1,p1,_⟩:=I.list (show Cm X.K H a xs from .inl (.inl ha))
  obtain ⟨i2,r2,p2,_⟩:=I.list (show Cm X.K H b ys from .inl (.inl hb))
  have l1:=r1.length
  have l2:=r2.length
  refine SeqAt.eq_listAt (e:=fun _=>true) p1.isList p2.isList (by simp; omega) (by omega) (fun j h1 h2=>by
   have h1':j<i1.length:=by simpa using h1
   have h2':j<i2.length:=by simpa using h2
   simp only [List.getElem_toArray]
   exact Gg I n X.A.in1 _ _ _ _ (by show X.A.units+1+n<cLine; omega) (DP p j (by omega)) (Dr r1 h1') (Dr r2 h2')) ⟨.bl true,H,I,?_,k⟩
  have e:((List.range i1.toArray.size).all fun _=>true)=true:=List.all_eq_true.mpr fun _ _=>rfl
  rw [e]
  exact rfl
 ·obtain ⟨i1,r1,p1,_⟩:=I.tuple (show FW X.K H a xs from .inl (.inl ha))
  obtain ⟨i2,r2,p2,_⟩:=I.tuple (show FW X.K H b ys from .inl (.inl hb))
  have l1:=r1.length
  have l2:=r2.length
  refine SeqAt.eq_tupleAt (e:=fun _=>true) p1 p2 (by omega) (fun j h1 h2=>by
   have h1':j<i1.length:=by simpa using h1
   have h2':j<i2.length:=by simpa using h2
   simp only [List.getElem_toArray]
   exact Gg I n X.A.in1 _ _ _ _ (by show X.A.units+1+n<cLine; omega) (DP p j (by omega)) (Dr r1 h1') (Dr r2 h2')) ⟨.bl true,H,I,?_,k⟩
  have e:((List.range (min i1.toArray.size i2.toArray.size)).all fun _=>true)=true:=List.all_eq_true.mpr fun _ _=>rfl
  have e2:(i1.toArray.size == i2.toArray.size)=true:=beq_iff_eq.mpr (by simp; omega)
  rw [e,e2]
  exact rfl
theorem Qt (n:Nat) (hu:X.A.units+(n+1)<cLine):GC X (compareOp .NotEq) (fun x y H Q=>∃ a b,x=V.ref a/\y=V.ref b/\Dp (n+1) H x y/\Q (.bl false) H):=by
 intro pins s σ H x y v u Q I rx ry h
 obtain ⟨a,b,rfl,rfl,h,k⟩:=h
 rcases h with ⟨_,hf⟩ | ⟨a',b',xs,ys,ea,eb,hab,p⟩
 ·cases hf
 cases ea
 cases eb
 cases rx
 cases ry
 have pl:=p.length
 rcases hab with ⟨ha,hb⟩ | ⟨ha,hb⟩
 ·obtain ⟨i1,r1,p1,_⟩:=I.list (show Cm X.K H a xs from .inl (.inl ha))
  obtain ⟨i2,r2,p2,_⟩:=I.list (show Cm X.K H b ys from .inl (.inl hb))
  have l1:=r1.length
  have l2:=r2.length
  refine SeqAt.RcNeAt.lists (e:=fun _=>true) p1.isList p2.isList (by simp; omega) (by omega) (fun j h1 h2=>by
   have h1':j<i1.length:=by simpa using h1
   have h2':j<i2.length:=by simpa using h2
   simp only [List.getElem_toArray]
   exact Gg I n X.A.in1 _ _ _ _ (by show X.A.units+1+n<cLine; omega) (DP p j (by omega)) (Dr r1 h1') (Dr r2 h2')) _ _ _ _ ⟨.bl false,H,I,?_,k⟩
  have e:((List.range i1.toArray.size).all fun _=>true)=true:=List.all_eq_true.mpr fun _ _=>rfl
  rw [e]
  exact rfl
 ·obtain ⟨i1,r1,p1,_⟩:=I.tuple (show FW X.K H a xs from .inl (.inl ha))
  obtain ⟨i2,r2,p2,_⟩:=I.tuple (show FW X.K H b ys from .inl (.inl hb))
  have l1:=r1.length
  have l2:=r2.length
  refine SeqAt.RcNeAt.tuples (e:=fun _=>true) p1 p2 (by omega) (fun j h1 h2=>by
   have h1':j<i1.length:=by simpa using h1
   have h2':j<i2.length:=by simpa using h2
   simp only [List.getElem_toArray]
   exact Gg I n X.A.in1 _ _ _ _ (by show X.A.units+1+n<cLine; omega) (DP p j (by omega)) (Dr r1 h1') (Dr r2 h2')) _ _ _ _ ⟨.bl false,H,I,?_,k⟩
  have e:((List.range (min i1.toArray.size i2.toArray.size)).all fun _=>true)=true:=List.all_eq_true.mpr fun _ _=>rfl
  have e2:(i1.toArray.size == i2.toArray.size)=true:=beq_iff_eq.mpr (by simp; omega)
  rw [e,e2]
  exact rfl
end
end L2
namespace Og
open PySem L2
noncomputable def dZ (x:V):Prop:=(∃ t,x=.str t) \/ ∃ i,x=.int i
noncomputable def d8 (H:Hp) (vs:List V):Prop:=∀ v∈vs,∃ (T:Addr) (xs:List V),v=.ref T/\H T=some (.tup xs)/\∀ x∈xs,dZ x
variable {K:PySem.W.Frag} {aB aP aM:Addr}
noncomputable def d7 (rows:List R):V->R
 | .int i=>(rows[i.toNat]?).getD ⟨"","",[]⟩
 | _=>⟨"","",[]⟩
end Og
namespace L2
open PySem PySem.Spec PySem.Calls PySem.Builtin PySem.Builtin.Str PyProof.Rows
section
variable {X:Cx}
theorem Qc:Zq X "str.upper" (fun x xs H Q=>∃ z,x=V.str z/\xs=[]/\z.length<=1000/\(∀ c∈z.cps.toList,c<128)/\Q (.str ⟨z.cps.map up1⟩) H):=by
 intro pins s σ H x xs v us Q I rx r h
 obtain ⟨z,rfl,rfl,hl,hA,q⟩:=h
 obtain ⟨t,rfl⟩:=rx
 have hus:=r.zero
 subst hus
 have e:=placed_single z (fun _ c=>Unicode.upperOf c) up1 fun i c hc=>upperOf_ascii c (hA c (List.mem_of_getElem? hc))
 have hfit:Builtin.Str.tooLong (placed z fun _ c=>Unicode.upperOf c).size=false:=by
  rw [e,Array.size_map]
  show decide (z.length > sizeLine)=false
  exact decide_eq_false (Nat.not_lt.mpr (Nat.le_trans hl (by decide)))
 refine call_gives F.slot_str_upper (typeIs_str _ _ _) F.entry_str_upper (F.args_str_upper_1 _) (gives_str_upper z t hfit) ?_
 rw [e]
 exact ⟨fit_le (by rw [← e]; exact hfit),.str _,H,I.tok _,⟨_,rfl⟩,q⟩
end
end L2
namespace Og
open PySem L2
theorem OD (a b:List (Str × Nat)):∃ t,IW (a++b)=IW a++t:=by
 unfold IW
 rw [List.zipIdx_append,List.flatMap_append]
 exact ⟨_,rfl⟩
theorem M5 {bs:List (Str × Nat)} {i n:Nat} {b:Str × Nat} (h:bs[i]? = some b) (hn:n<b.2):(IW bs)[((bs.take i).map (·.2)).sum+n]? = some (i,n):=by
 obtain ⟨t,e⟩:=OD (bs.take (i+1)) (bs.drop (i+1))
 rw [List.take_append_drop] at e
 have hl:=Q0 (bs.take i)
 rw [e,Ir h,List.append_assoc,List.getElem?_append_right (by omega),← hl,Nat.add_sub_cancel_left,List.getElem?_append_left (by rw [List.length_map,List.length_range]; exact hn),List.getElem?_map,List.getElem?_range hn]
 rfl
noncomputable def Tx (t:Str):Prop:=t.length<=1000/\∀ c∈t.cps.toList,c<128
theorem isNm.tx {t:Str} (h:isNm t):Tx t:=⟨by have:=h.2.1; omega,fun c hc=>by have:=h.2.2 c hc; omega⟩
inductive Fv (H:Hp):V->Prop where
 | non:Fv H .non
 | bl (b:Bool):Fv H (.bl b)
 | int (i:Int):Fv H (.int i)
 | lst {a:Addr} {xs:List V} (h:H a=some (.lst xs)):Fv H (.ref a)
 | tup {a:Addr} {xs:List V} (h:H a=some (.tup xs)):Fv H (.ref a)
 | str {t:Str} (h:Tx t):Fv H (.str t)
theorem Fv.mono {H H':Hp} {v:V} (s:Am H H') (h:Fv H v):Fv H' v:=by
 cases h with
 | non=>exact .non
 | bl b=>exact .bl b
 | int i=>exact .int i
 | lst h=>exact .lst (s _ _ h)
 | tup h=>exact .tup (s _ _ h)
 | str h=>exact .str h
noncomputable def Gz (ns:List Str):V->V
 | .str t=>if t∈ns then .int ((ns.idxOf t:Nat):Int) else .non
 | _=>.non
theorem Mt {ns:List Str} {t:Str} (h:t∈ns):ns[ns.idxOf t]? = some t:=by
 have hl:=List.idxOf_lt_length_of_mem h
 rw [List.getElem?_eq_getElem hl,List.getElem_idxOf hl]
theorem IK (a b:Str):KC (.str a) (.str b)=decide (a=b):=by
 show (a == b)=_
 rw [Bool.eq_iff_iff,beq_iff_eq,decide_eq_true_eq]
theorem QX {t:Str}:∀ {ns:List Str} {m:Nat},m<ns.idxOf t->∀ z,ns[m]? = some z->z ≠ t
 | [],m,h,z,hz=>by simp at hz
 | a::ns,m,h,z,hz=>by
  rw [List.idxOf_cons] at h
  by_cases e:a=t
  ·rw [e,beq_self_eq_true] at h
   exact absurd h (Nat.not_lt_zero _)
  ·rw [show (a == t)=false from beq_eq_false_iff_ne.mpr e] at h
   cases m with
   | zero =>
    simp at hz
    rw [← hz]
    exact e
   | succ m =>
    rw [List.getElem?_cons_succ] at hz
    exact QX (Nat.lt_of_succ_lt_succ h) z hz
theorem Pa (ns:List Str) (t:Str):inV (.str t) (ns.map V.str)=decide (t∈ns):=by
 rw [Bool.eq_iff_iff,decide_eq_true_eq]
 unfold inV
 rw [List.any_eq_true]
 constructor
 ·rintro ⟨y,hy,e⟩
  obtain ⟨n,hn,rfl⟩:=List.mem_map.mp hy
  rw [IK] at e
  rw [← of_decide_eq_true e]
  exact hn
 ·intro h
  exact ⟨_,List.mem_map_of_mem h,by rw [IK]; exact decide_eq_true rfl⟩
end Og
section PartK08a
set_option maxHeartbeats 4000000
namespace K08
open PySem L2 Og
noncomputable def top (i:Nat):Stmt:=PySem.Challenge.pw_windchest_k08_keys_and_pipes.main.body.getD i (.Pass ⟨0,0,0,0⟩)
noncomputable abbrev WK:Stmt:=top 8
noncomputable abbrev Su:Stmt:=top 9
noncomputable abbrev Vm:Stmt:=top 10
noncomputable abbrev T4:Stmt:=top 18
noncomputable abbrev Ug:Stmt:=top 19
noncomputable abbrev V8:Stmt:=top 20
noncomputable abbrev Ua:Stmt:=top 21
noncomputable abbrev Vi:Stmt:=top 22
noncomputable abbrev Vw:Stmt:=top 23
noncomputable abbrev Tg:Stmt:=top 24
noncomputable abbrev V1:Stmt:=top 25
noncomputable abbrev VB:Stmt:=top 26
noncomputable abbrev Vv:Stmt:=top 27
noncomputable abbrev Vx:Stmt:=top 28
noncomputable abbrev WR:Stmt:=top 29
noncomputable abbrev V2:Stmt:=top 30
noncomputable abbrev Vr:Stmt:=top 37
noncomputable abbrev VG:Stmt:=top 38
noncomputable abbrev VJ:Stmt:=top 39
noncomputable abbrev Vu:Stmt:=top 40
noncomputable abbrev Ur:Stmt:=top 41
noncomputable abbrev WT:Stmt:=top 33
noncomputable abbrev UG:Stmt:=top 34
noncomputable abbrev V6:Stmt:=top 44
noncomputable abbrev Vn:Stmt:=top 45
noncomputable abbrev Vz:Stmt:=top 46
noncomputable abbrev Vt:Stmt:=top 47
noncomputable abbrev Vp:Stmt:=top 48
noncomputable abbrev U6:Stmt:=top 49
noncomputable abbrev WQ:Stmt:=top 50
noncomputable abbrev WP:Stmt:=top 51
noncomputable abbrev V0:Stmt:=top 52
noncomputable abbrev WF:Stmt:=top 53
noncomputable abbrev WD:Stmt:=top 54
noncomputable abbrev S6:Stmt:=top 55
noncomputable abbrev Vj:Stmt:=top 56
noncomputable abbrev Vk:Stmt:=top 57
noncomputable abbrev Vl:Stmt:=top 58
noncomputable abbrev Ue:Stmt:=top 59
noncomputable abbrev Ud:Stmt:=top 60
noncomputable abbrev V5:Stmt:=top 61
noncomputable abbrev V9:Stmt:=top 62
noncomputable abbrev Tc:Stmt:=top 63
noncomputable abbrev V_:Stmt:=top 64
noncomputable abbrev N7:Stmt:=inClass (top 42) 0
noncomputable abbrev Yw:Stmt:=inClass (top 42) 2
noncomputable abbrev V3:Stmt:=inClass (top 42) 7
noncomputable abbrev WM:Stmt:=inClass (top 42) 8
noncomputable abbrev Xi:Stmt:=inClass (top 42) 13
noncomputable abbrev Zg:Stmt:=inClass (top 42) 15
noncomputable abbrev XH:Stmt:=inClass (top 42) 1
noncomputable abbrev Zc:Stmt:=inClass (top 42) 3
noncomputable abbrev Vq:Stmt:=inClass (top 42) 6
noncomputable abbrev V4:Stmt:=inClass (top 42) 9
noncomputable abbrev V7:Stmt:=inClass (top 42) 10
noncomputable abbrev Vo:Stmt:=inClass (top 42) 11
noncomputable abbrev Vs:Stmt:=inClass (top 42) 12
noncomputable abbrev Yp:Stmt:=inClass (top 42) 14
noncomputable abbrev Xu:Stmt:=inClass (top 42) 16
noncomputable abbrev WW:Stmt:=inClass (top 42) 17
noncomputable abbrev Wf:Stmt:=inClass (top 42) 4
noncomputable abbrev H_:Stmt:=top 65
structure Txt (K:PySem.W.Frag) (P:Params) (mg:Str->Option Value) (C aN aK aB aP aM:Addr):Prop where
 len:mg "len" = none
 isin:mg "isinstance" = none
 int:mg "int" = none
 bool:mg "bool" = none
 str:mg "str" = none
 list:mg "list" = none
 tuple:mg "tuple" = none
 all:mg "all" = none
 any:mg "any" = none
 sum:mg "sum" = none
 range:mg "range" = none
 zip:mg "zip" = none
 enumerate:mg "enumerate" = none
 max:mg "max" = none
 reversed:mg "reversed" = none
 set:mg "set" = none
 letters:∃ t,mg "LETTERS" = some (.str letters t)
 mostL:∃ t,mg "MOST_LETTERS" = some (.int 8 t)
 mostR:∃ t,mg "MOST_ROWS" = some (.int 150 t)
 mostLn:∃ t,mg "MOST_LINES" = some (.int 4 t)
 below:∃ t,mg "MEMBERS_BELOW" = some (.int 1200 t)
 mN:mg "NAMED" = some (.ref aN)
 mK:mg "KNOBS" = some (.ref aK)
 mB:mg "BOUNDS" = some (.ref aB)
 mP:mg "PARTS" = some (.ref aP)
 mM:mg "MOST_OF" = some (.ref aM)
 tN:KTup K aN (named.map V.str)
 tK:KTup K aK [.str "stop",.str "coupler",.str "mute"]
 dB:KDict K P aB
 dP:KDict K P aP
 dM:KDict K P aM
 cl:QG K C
 mC:mg "Organ" = some (.ref C)
 n_row_list:DK K C "row_list"
 n_board_list:DK K C "board_list"
 n_rank_list:DK K C "rank_list"
 n_knob_rows:DK K C "knob_rows"
 n_board_numbers:DK K C "board_numbers"
 n_rank_numbers:DK K C "rank_numbers"
 n_knob_numbers:DK K C "knob_numbers"
 n_key_places:DK K C "key_places"
 n_pipe_places:DK K C "pipe_places"
 n_knob_lines:DK K C "knob_lines"
 n_step_sets:DK K C "step_sets"
structure ao (K:PySem.W.Frag) (mg:Str->Option Value) (C fWh fMd fNm fRo fTo fWi fPa fHp fCl fIk fSb fIs fWm fHr fIr fCk fNu fCa fPl fLi fSs fMy fSt fCe fLw fMi fNn fBb fMa fLb fLk fLs fLl fLc fLt fLr fLp fPq fKy fPj fSp fNr fNs fOd fOi fOb fOk fOo fBk fOp fOw fOr fOq fOe fOv fOu fOj fOs fOm fOy fOz:Addr) (dWh dMd dNm dRo dTo dWi dPa dHp dCl dIk dSb dIs dWm dHr dIr dCk dNu dCa dPl dLi dSs dMy dSt dCe dLw dMi dNn dBb dMa dLb dLk dLs dLl dLc dLt dLr dLp dPq dKy dPj dSp dNr dNs dOd dOi dOb dOk dOo dBk dOp dOw dOr dOq dOe dOv dOu dOj dOs dOm dOy dOz:FuncData):Prop where
 FWh:Df K "is_whole" "is_whole" WK fWh dWh∧Binds K dWh ["thing"] []∧mg "is_whole" = some (.ref fWh)
 FMd:Df K "is_made_of" "is_made_of" Su fMd dMd∧Binds K dMd ["text","signs","most"] []∧mg "is_made_of" = some (.ref fMd)
 FNm:Df K "is_name" "is_name" Vm fNm dNm∧Binds K dNm ["thing"] []∧mg "is_name" = some (.ref fNm)
 FRo:Df K "rows_of" "rows_of" T4 fRo dRo∧Binds K dRo ["rows","word"] []∧mg "rows_of" = some (.ref fRo)
 FTo:Df K "is_told" "is_told" Ug fTo dTo∧Binds K dTo ["rows","word","thing"] []∧mg "is_told" = some (.ref fTo)
 FWi:Df K "is_within" "is_within" V8 fWi dWi∧Binds K dWi ["thing","bounds"] []∧mg "is_within" = some (.ref fWi)
 FPa:Df K "is_part" "is_part" Ua fPa dPa∧Binds K dPa ["thing","part","ahead"] []∧mg "is_part" = some (.ref fPa)
 FHp:Df K "has_parts" "has_parts" Vi fHp dHp∧Binds K dHp ["row","ahead"] []∧mg "has_parts" = some (.ref fHp)
 FCl:Df K "count_of_last_lines" "count_of_last_lines" Vw fCl dCl∧Binds K dCl ["rows"] []∧mg "count_of_last_lines" = some (.ref fCl)
 FIk:Df K "is_key_of" "is_key_of" Tg fIk dIk∧Binds K dIk ["number","board","ahead"] []∧mg "is_key_of" = some (.ref fIk)
 FSb:Df K "stands_behind_stop" "stands_behind_stop" V1 fSb dSb∧Binds K dSb ["line","ahead"] []∧mg "stands_behind_stop" = some (.ref fSb)
 FIs:Df K "is_step" "is_step" VB fIs dIs∧Binds K dIs ["row","ahead"] []∧mg "is_step" = some (.ref fIs)
 FWm:Df K "is_well_made" "is_well_made" Vv fWm dWm∧Binds K dWm ["row","ahead"] []∧mg "is_well_made" = some (.ref fWm)
 FHr:Df K "has_room" "has_room" Vx fHr dHr∧Binds K dHr ["word","ahead"] []∧mg "has_room" = some (.ref fHr)
 FIr:Df K "is_row" "is_row" WR fIr dIr∧Binds K dIr ["thing","ahead"] []∧mg "is_row" = some (.ref fIr)
 FCk:Df K "check_rows" "check_rows" V2 fCk dCk∧Binds K dCk ["rows"] []∧mg "check_rows" = some (.ref fCk)
 FNu:Df K "numbers_of" "numbers_of" Vr fNu dNu∧Binds K dNu ["names"] []∧mg "numbers_of" = some (.ref fNu)
 FCa:Df K "count_in_all" "count_in_all" VG fCa dCa∧Binds K dCa ["things"] []∧mg "count_in_all" = some (.ref fCa)
 FPl:Df K "places_of" "places_of" VJ fPl dPl∧Binds K dPl ["things"] []∧mg "places_of" = some (.ref fPl)
 FLi:Df K "lines_by_knob" "lines_by_knob" Vu fLi dLi∧Binds K dLi ["rows","rank_numbers"] []∧mg "lines_by_knob" = some (.ref fLi)
 FSs:Df K "set_of_step" "set_of_step" Ur fSs dSs∧Binds K dSs ["row","knob_numbers"] []∧mg "set_of_step" = some (.ref fSs)
 FMy:Df K "may_be_member" "may_be_member" WT fMy dMy∧Binds K dMy ["thing"] []∧mg "may_be_member" = some (.ref fMy)
 FSt:Df K "set_of" "set_of" UG fSt dSt∧Binds K dSt ["numbers"] []∧mg "set_of" = some (.ref fSt)
 FCe:Df K "_law_cell_at" "_law_cell_at" V6 fCe dCe∧Binds K dCe ["_law_script","_law_k"] []∧mg "_law_cell_at" = some (.ref fCe)
 FLw:Df K "_law_whole" "_law_whole" Vn fLw dLw∧Binds K dLw ["_law_found"] []∧mg "_law_whole" = some (.ref fLw)
 FMi:Df K "_law_mix" "_law_mix" Vz fMi dMi∧Binds K dMi ["_law_cell","_law_by","_law_many_here"] []∧mg "_law_mix" = some (.ref fMi)
 FNn:Df K "_law_name" "_law_name" Vt fNn dNn∧Binds K dNn ["_law_base_here","_law_k"] []∧mg "_law_name" = some (.ref fNn)
 FBb:Df K "_law_base" "_law_base" Vp fBb dBb∧Binds K dBb ["_law_cell"] []∧mg "_law_base" = some (.ref fBb)
 FMa:Df K "_law_many" "_law_many" U6 fMa dMa∧Binds K dMa ["_law_plan_here","_law_word"] []∧mg "_law_many" = some (.ref fMa)
 FLb:Df K "_law_board" "_law_board" WQ fLb dLb∧Binds K dLb ["_law_plan_here","_law_name_here","_law_cell"] []∧mg "_law_board" = some (.ref fLb)
 FLk:Df K "_law_rank" "_law_rank" WP fLk dLk∧Binds K dLk ["_law_plan_here","_law_name_here","_law_cell"] []∧mg "_law_rank" = some (.ref fLk)
 FLs:Df K "_law_stop" "_law_stop" V0 fLs dLs∧Binds K dLs ["_law_plan_here","_law_name_here","_law_cell"] []∧mg "_law_stop" = some (.ref fLs)
 FLl:Df K "_law_line" "_law_line" WF fLl dLl∧Binds K dLl ["_law_plan_here","_law_cell"] []∧mg "_law_line" = some (.ref fLl)
 FLc:Df K "_law_coupler" "_law_coupler" WD fLc dLc∧Binds K dLc ["_law_plan_here","_law_name_here","_law_cell"] []∧mg "_law_coupler" = some (.ref fLc)
 FLt:Df K "_law_step" "_law_step" S6 fLt dLt∧Binds K dLt ["_law_plan_here","_law_cell"] []∧mg "_law_step" = some (.ref fLt)
 FLr:Df K "_law_row" "_law_row" Vj fLr dLr∧Binds K dLr ["_law_plan_here","_law_name_here","_law_cell"] []∧mg "_law_row" = some (.ref fLr)
 FLp:Df K "_law_plan" "_law_plan" Vk fLp dLp∧Binds K dLp ["_law_script","_law_start"] []∧mg "_law_plan" = some (.ref fLp)
 FPq:Df K "_law_pair" "_law_pair" Vl fPq dPq∧Binds K dPq ["_law_found","_law_at","_law_number_here"] []∧mg "_law_pair" = some (.ref fPq)
 FKy:Df K "_law_key" "_law_key" Ue fKy dKy∧Binds K dKy ["_law_organ","_law_plan_here","_law_at","_law_number_here"] []∧mg "_law_key" = some (.ref fKy)
 FPj:Df K "_law_pipe" "_law_pipe" Ud fPj dPj∧Binds K dPj ["_law_organ","_law_plan_here","_law_at","_law_number_here"] []∧mg "_law_pipe" = some (.ref fPj)
 FSp:Df K "_law_some_pipes" "_law_some_pipes" V5 fSp dSp∧Binds K dSp ["_law_organ","_law_plan_here","_law_cell"] []∧mg "_law_some_pipes" = some (.ref fSp)
 FNr:Df K "_law_number" "_law_number" V9 fNr dNr∧Binds K dNr ["_law_found","_law_names","_law_name_here"] []∧mg "_law_number" = some (.ref fNr)
 FNs:Df K "_law_numbers" "_law_numbers" Tc fNs dNs∧Binds K dNs ["_law_organ","_law_plan_here","_law_name_here"] []∧mg "_law_numbers" = some (.ref fNs)
 FOd:Df K "_law_odd" "_law_odd" V_ fOd dOd∧Binds K dOd ["_law_name_here","_law_cell"] []∧mg "_law_odd" = some (.ref fOd)
 FOi:Df K "__init__" "Organ.__init__" N7 fOi dOi∧Binds K dOi ["self","rows"] []∧Mk K C fOi
 FOb:Df K "boards" "Organ.boards" Yw fOb dOb∧Binds K dOb ["self"] []∧Meth K C "boards" fOb
 FOk:Df K "key" "Organ.key" V3 fOk dOk∧Binds K dOk ["self","board","number"] []∧Meth K C "key" fOk
 FOo:Df K "board_of" "Organ.board_of" WM fOo dOo∧Binds K dOo ["self","key"] []∧Meth K C "board_of" fOo
 FBk:Df K "board_of_knob" "Organ.board_of_knob" Xi fBk dBk∧Binds K dBk ["self","knob"] []∧Meth K C "board_of_knob" fBk
 FOp:Df K "coupler" "Organ.coupler" Zg fOp dOp∧Binds K dOp ["self","knob"] []∧Meth K C "coupler" fOp
 FOw:Df K "rows" "Organ.rows" XH fOw dOw∧Binds K dOw ["self"] []∧Meth K C "rows" fOw
 FOr:Df K "ranks" "Organ.ranks" Zc fOr dOr∧Binds K dOr ["self"] []∧Meth K C "ranks" fOr
 FOq:Df K "pipe_count" "Organ.pipe_count" Vq fOq dOq∧Binds K dOq ["self"] []∧Meth K C "pipe_count" fOq
 FOe:Df K "pipe" "Organ.pipe" V4 fOe dOe∧Binds K dOe ["self","rank","number"] []∧Meth K C "pipe" fOe
 FOv:Df K "rank_of" "Organ.rank_of" V7 fOv dOv∧Binds K dOv ["self","pipe"] []∧Meth K C "rank_of" fOv
 FOu:Df K "board_number" "Organ.board_number" Vo fOu dOu∧Binds K dOu ["self","name"] []∧Meth K C "board_number" fOu
 FOj:Df K "knob_number" "Organ.knob_number" Vs fOj dOj∧Binds K dOj ["self","name"] []∧Meth K C "knob_number" fOj
 FOs:Df K "stop" "Organ.stop" Yp fOs dOs∧Binds K dOs ["self","knob"] []∧Meth K C "stop" fOs
 FOm:Df K "mute" "Organ.mute" Xu fOm dOm∧Binds K dOm ["self","knob"] []∧Meth K C "mute" fOm
 FOy:Df K "steps" "Organ.steps" WW fOy dOy∧Binds K dOy ["self"] []∧Meth K C "steps" fOy
 FOz:Df K "knobs" "Organ.knobs" Wf fOz dOz∧Binds K dOz ["self"] []∧Meth K C "knobs" fOz
section
variable {P:Program} {w:World} {K:PySem.W.Frag} {mg:Str->Option Value} {base:Heap} {C aN aK aB aP aM:Addr} {fWh fMd fNm fRo fTo fWi fPa fHp fCl fIk fSb fIs fWm fHr fIr fCk fNu fCa fPl fLi fSs fMy fSt fCe fLw fMi fNn fBb fMa fLb fLk fLs fLl fLc fLt fLr fLp fPq fKy fPj fSp fNr fNs fOd fOi fOb fOk fOo fBk fOp fOw fOr fOq fOe fOv fOu fOj fOs fOm fOy fOz:Addr} {dWh dMd dNm dRo dTo dWi dPa dHp dCl dIk dSb dIs dWm dHr dIr dCk dNu dCa dPl dLi dSs dMy dSt dCe dLw dMi dNn dBb dMa dLb dLk dLs dLl dLc dLt dLr dLp dPq dKy dPj dSp dNr dNs dOd dOi dOb dOk dOo dBk dOp dOw dOr dOq dOe dOv dOu dOj dOs dOm dOy dOz:FuncData}
variable (N:ao K mg C fWh fMd fNm fRo fTo fWi fPa fHp fCl fIk fSb fIs fWm fHr fIr fCk fNu fCa fPl fLi fSs fMy fSt fCe fLw fMi fNn fBb fMa fLb fLk fLs fLl fLc fLt fLr fLp fPq fKy fPj fSp fNr fNs fOd fOi fOb fOk fOo fBk fOp fOw fOr fOq fOe fOv fOu fOj fOs fOm fOy fOz dWh dMd dNm dRo dTo dWi dPa dHp dCl dIk dSb dIs dWm dHr dIr dCk dNu dCa dPl dLi dSs dMy dSt dCe dLw dMi dNn dBb dMa dLb dLk dLs dLl dLc dLt dLr dLp dPq dKy dPj dSp dNr dNs dOd dOi dOb dOk dOo dBk dOp dOw dOr dOq dOe dOv dOu dOj dOs dOm dOy dOz) (T:Txt K w.params mg C aN aK aB aP aM)
noncomputable def Ke:Sp:=fun vs H Q _=>∃ i:Int,vs=[.int i]/\Q (.bl true) H
theorem bI:BP ["thing"] ["thing"] (Ac WK):=⟨rfl,rfl,rfl,by decide +kernel,rfl,by decide +kernel,by decide +kernel⟩
include N T in
theorem Sq:BK P w K mg base Bm 1 fWh dWh ["thing"] Ke:=by
 refine N.FWh.1.ok bI (fun vs H Q E h=>?_) (fun cdv A outer s H vs Q E hr h=>?_)
 ·obtain ⟨i,rfl,_⟩:=h
  rfl
 ·obtain ⟨i,rfl,q⟩:=h
  refine ⟨_,(Ag (Ay (Ck (Ax CV rfl T.isin PyProof.Rows.boot_isinstance (Aa (pv 0) (Aa (Dk (v:=.ty "int") rfl T.int PyProof.Rows.boot_int rfl) Ab))) (Cq (Mp (Ax CV rfl T.isin PyProof.Rows.boot_isinstance (Aa (pv 0) (Aa (Dk (v:=.ty "bool") rfl T.bool PyProof.Rows.boot_bool rfl) Ab)))))))),?_⟩
  refine ⟨_,rfl,_,"int",_,_,rfl,.int i,ty_int,_,rfl,Dy ?_⟩
  exact ⟨_,rfl,_,"bool",_,_,rfl,.int i,TQ,_,rfl,q⟩
noncomputable def W_:Sp:=fun vs H Q _=>∃ z:Str,vs=[.str z,.str letters,.int 8]/\isNm z/\∀ H',Am H H'->Q (.bl true) H'
theorem ZW:BP ["text","signs","most"] ["text","signs","most"] (Ac Su):=⟨rfl,rfl,rfl,by decide +kernel,rfl,by decide +kernel,by decide +kernel⟩
include N T in
theorem Wh:BK P w K mg base Bm 1 fMd dMd ["text","signs","most"] W_:=by
 refine N.FMd.1.ok ZW (fun vs H Q E h=>?_) (fun cdv A outer s H vs Q E hr h=>?_)
 ·obtain ⟨z,rfl,_⟩:=h
  rfl
 ·obtain ⟨z,rfl,hz,q⟩:=h
  refine ⟨_,(Ag (Ay (Ck (HS Gm Gm Ad (Ax HQ rfl T.len PySem.boot_len (Aa (pv 0) Ab)) (pv 2)) (Cq (Ax (GD rfl) rfl T.all PyProof.Rows.boot_all (Aa (Bp rfl (Bf (osc:=Ac Su) (N:=["text","signs","most"]) rfl rfl (by decide +kernel)) (PB (pv 0)) (fun _ _ _ _=>CG) (fun _ _ _ _=>(Cy Jb (pv 0) (pv 2) rfl))) Ab)))))),?_⟩
  have hzl:z.length<sizeLine:=Ar (by have:=hz.2.1; omega)
  refine ⟨_,rfl,z,rfl,Nat.le_of_lt hzl,_,_,rfl,rfl,_,rfl,?_⟩
  refine C_ (fun h1=>?_) (fun h1=>absurd (decide_eq_true (by have:=hz.1; omega)) h1)
  refine ⟨_,rfl,_,_,rfl,rfl,_,rfl,?_⟩
  refine C_ (fun h2=>?_) (fun h2=>absurd (decide_eq_true (by have:=hz.2.1; omega)) h2)
  refine ⟨_,rfl,z,rfl,Ky (fun _=>true) (fun c=>.bl (RN letters c)) hzl (fun c hc H' hs R k=>k H' (Am.refl H')) (fun c hc _ H' hs R k=>⟨_,rfl,_,rfl,_,_,rfl,rfl,k H' (Am.refl H')⟩) (fun D H' hD hs hl=>?_)⟩
  refine ⟨D,z.cps.toList.map (RN letters),rfl,.inl (.inl ?_),?_⟩
  ·rw [hl,List.filter_eq_self.mpr (fun _ _=>rfl),List.map_map]
   rfl
  ·have e:(z.cps.toList.map (RN letters)).all id=true:=by
    rw [List.all_map,List.all_eq_true]
    intro c hc
    have:=hz.2.2 c hc
    show RN letters c=true
    rw [J0 c (by omega)]
    exact decide_eq_true this
   rw [e]
   exact q H' hs
noncomputable def Vh:Sp:=fun vs H Q _=>∃ z:Str,vs=[.str z]/\isNm z/\∀ H',Am H H'->Q (.bl true) H'
theorem Yu:BP ["thing"] ["thing"] (Ac Vm):=⟨rfl,rfl,rfl,by decide +kernel,rfl,by decide +kernel,by decide +kernel⟩
include N T in
theorem SN:BK P w K mg base Bm 2 fNm dNm ["thing"] Vh:=by
 have GMd:BK P w K mg base Bm 1 fMd dMd ["text","signs","most"] W_:=Wh N T
 refine N.FNm.1.ok Yu (fun vs H Q E h=>?_) (fun cdv A outer s H vs Q E hr h=>?_)
 ·obtain ⟨z,rfl,_⟩:=h
  rfl
 ·obtain ⟨z,rfl,hz,q⟩:=h
  have hrMd:Be 1 _:=hr.mono (by decide)
  obtain ⟨tLET,hLET⟩:=T.letters
  obtain ⟨tML,hML⟩:=T.mostL
  refine ⟨_,(Ag (Ay (Ck (Ax CV rfl T.isin PyProof.Rows.boot_isinstance (Aa (pv 0) (Aa (Dk (v:=.ty "str") rfl T.str PyProof.Rows.boot_str rfl) Ab))) (Cq (Aj GMd hrMd rfl N.FMd.2.2 N.FMd.1.kp N.FMd.2.1 .nil Az (Aa (pv 0) (Aa (Cj (v:=.str letters) rfl hLET ⟨tLET,rfl⟩) (Aa (Cj (v:=.int 8) rfl hML ⟨tML,rfl⟩) Ab)))))))),?_⟩
  refine ⟨_,rfl,_,"str",_,_,rfl,.str z,PL,_,rfl,Dy ?_⟩
  exact ⟨_,rfl,z,rfl,hz,q⟩
noncomputable def N8:Sp:=fun vs H Q _=>∃ (p:Addr) (us:List V) (w:Str) (ρ:V->R),vs=[.ref p,.str w]/\H p=some (.lst us)/\Rows H ρ us/\us.length<=500/\∀ D H',H D=none->Am H H'->H' D=some (.lst (us.filter (pw ρ w)))->Q (.ref D) H'
theorem aQ:BP ["rows","word"] ["rows","word"] (Ac T4):=⟨rfl,rfl,rfl,by decide +kernel,rfl,by decide +kernel,by decide +kernel⟩
include N T in
theorem K1:BK P w K mg base Bm 1 fRo dRo ["rows","word"] N8:=by
 refine N.FRo.1.ok aQ (fun vs H Q E h=>?_) (fun cdv A outer s H vs Q E hr h=>?_)
 ·obtain ⟨p,us,w,ρ,rfl,_⟩:=h
  rfl
 ·obtain ⟨p,us,w,ρ,rfl,hp,hR,hl,q⟩:=h
  refine ⟨_,(Ag (Ay (Bp rfl (Bf (osc:=Ac T4) (N:=["rows","word"]) rfl rfl (by decide +kernel)) (Bl (pv 0)) (fun _ _ _ _=>(J9 (Bb Dd (BV (A_ (K:=K) rfl) (pv 0) Ad (fun _ _=>rfl)) (pv 2) (Bd _)))) (fun _ _ _ _=>(pv 0))))),?_⟩
  have hS:Cm K H p us:=.inl (.inl hp)
  refine ⟨_,rfl,p,rfl,⟨_,hS⟩,CN (K:=K) (xs:=us) (pw ρ w) id hS (Ar (by omega)) (fun x hx H' hs R k=>?_) (fun x hx _ H' hs R k=>⟨_,rfl,k H' (Am.refl H')⟩) (fun D H' hD hs hl'=>?_)⟩
  ·obtain ⟨T0,rfl,hT⟩:=(hR x hx).mono hs
   exact ⟨_,rfl,T0,_,_,_,rfl,rfl,.inl (.inl hT),Al (j:=0) rfl,_,rfl,rfl,_,rfl,k H' (Am.refl H')⟩
  ·rw [List.map_id] at hl'
   exact q D H' hD hs hl'
noncomputable def T8:Sp:=fun vs H Q _=>∃ (p:Addr) (us:List V) (w t:Str) (ρ:V->R),vs=[.ref p,.str w,.str t]/\H p=some (.lst us)/\Rows H ρ us/\us.length<=500/\isNm t/\∀ H',Am H H'->Q (.bl (Qx ρ us w t)) H'
theorem aF:BP ["rows","word","thing"] ["rows","word","thing"] (Ac Ug):=⟨rfl,rfl,rfl,by decide +kernel,rfl,by decide +kernel,by decide +kernel⟩
include N T in
theorem R4:BK P w K mg base Bm 3 fTo dTo ["rows","word","thing"] T8:=by
 have GNm:BK P w K mg base Bm 2 fNm dNm ["thing"] Vh:=SN N T
 have GRo:BK P w K mg base Bm 1 fRo dRo ["rows","word"] N8:=K1 N T
 refine N.FTo.1.ok aF (fun vs H Q E h=>?_) (fun cdv A outer s H vs Q E hr h=>?_)
 ·obtain ⟨p,us,w,t,ρ,rfl,_⟩:=h
  rfl
 ·obtain ⟨p,us,w,t,ρ,rfl,hp,hR,hl,ht,q⟩:=h
  have hrNm:Be 2 _:=hr.mono (by decide)
  have hrRo:Be 1 _:=hr.mono (by decide)
  refine ⟨_,(Ag (Ay (Ck (Aj GNm hrNm rfl N.FNm.2.2 N.FNm.1.kp N.FNm.2.1 .nil Az (Aa (pv 2) Ab)) (Cq (Ax (JH rfl) rfl T.any PyProof.Rows.boot_any (Aa (Bp rfl (Bf (osc:=Ac Ug) (N:=["rows","word","thing"]) rfl rfl (by decide +kernel)) (Bl (Aj GRo hrRo rfl N.FRo.2.2 N.FRo.1.kp N.FRo.2.1 .nil Az (Aa (pv 0) (Aa (pv 1) Ab)))) (fun _ _ _ _=>CG) (fun _ _ _ _=>(Cy Dd (BV (A_ (K:=K) rfl) (pv 0) Ad (fun _ _=>rfl)) (pv 3) (Bd _)))) Ab)))))),?_⟩
  refine ⟨_,rfl,t,rfl,ht,fun H1 s1=>⟨_,rfl,Dy ?_⟩⟩
  refine ⟨_,rfl,_,rfl,p,us,w,ρ,rfl,s1 _ _ hp,hR.mono s1,hl,fun D H2 hD s2 hl2=>?_⟩
  have hS:Cm K H2 D (us.filter (pw ρ w)):=.inl (.inl hl2)
  refine ⟨D,rfl,⟨_,hS⟩,CN (K:=K) (xs:=us.filter (pw ρ w)) (fun _=>true) (fun v=>.bl (pn ρ t v)) hS (Ar (by have:=Gs (pw ρ w) us; omega)) (fun x hx H' hs R k=>k H' (Am.refl H')) (fun x hx _ H' hs R k=>?_) (fun D3 H3 hD3 s3 hl3=>?_)⟩
  ·obtain ⟨T0,rfl,hT⟩:=(((hR.mono s1).mono s2).mono hs) x (List.mem_filter.mp hx).1
   exact ⟨_,rfl,T0,_,_,_,rfl,rfl,.inl (.inl hT),Al (j:=1) rfl,_,rfl,rfl,k H' (Am.refl H')⟩
  ·refine ⟨D3,(us.filter (pw ρ w)).map (pn ρ t),rfl,.inl (.inl ?_),?_⟩
   ·rw [hl3,List.filter_eq_self.mpr (fun _ _=>rfl),List.map_map]
    rfl
   ·have e:((us.filter (pw ρ w)).map (pn ρ t)).any id=Qx ρ us w t:=by
     rw [List.any_map]
     rfl
    rw [e]
    exact q H3 ((s1.trans s2).trans s3)
noncomputable def Y7 (K:PySem.W.Frag):Sp:=fun vs H Q _=>∃ (i lo hi:Int) (b:Addr),vs=[.int i,.ref b]/\KTup K b [.int lo,.int hi]/\lo<=i/\i<=hi/\Q (.bl true) H
theorem cH:BP ["thing","bounds"] ["thing","bounds"] (Ac V8):=⟨rfl,rfl,rfl,by decide +kernel,rfl,by decide +kernel,by decide +kernel⟩
include N T in
theorem X3:BK P w K mg base Bm 2 fWi dWi ["thing","bounds"] (Y7 K):=by
 have GWh:BK P w K mg base Bm 1 fWh dWh ["thing"] Ke:=Sq N T
 refine N.FWi.1.ok cH (fun vs H Q E h=>?_) (fun cdv A outer s H vs Q E hr h=>?_)
 ·obtain ⟨i,lo,hi,b,rfl,_⟩:=h
  rfl
 ·obtain ⟨i,lo,hi,b,rfl,hb,h1,h2,q⟩:=h
  have hrWh:Be 1 _:=hr.mono (by decide)
  refine ⟨_,(Ag (Ay (Ck (Aj GWh hrWh rfl N.FWh.2.2 N.FWh.1.kp N.FWh.2.1 .nil Az (Aa (pv 0) Ab)) (Cq (HS Gm Gm (BV (A_ (K:=K) rfl) (pv 1) Ad (fun _ _=>rfl)) (pv 0) (BV (A_ (K:=K) rfl) (pv 1) Ad (fun _ _=>rfl))))))),?_⟩
  refine ⟨_,rfl,i,rfl,_,rfl,Dy ?_⟩
  refine ⟨_,rfl,b,_,_,_,rfl,rfl,hb.sq _,Al (j:=0) rfl,_,rfl,_,_,rfl,rfl,_,rfl,?_⟩
  refine C_ (fun _=>?_) (fun z=>absurd (decide_eq_true h1) z)
  refine ⟨_,rfl,b,_,_,_,rfl,rfl,hb.sq _,Al (j:=1) rfl,_,_,rfl,rfl,?_⟩
  show Q (.bl (decide (i<=hi))) H
  rw [decide_eq_true h2]
  exact q
noncomputable def Zi (K:PySem.W.Frag) (aB:Addr):Sp:=fun vs H Q _=>∃ (x:V) (part:Str) (p:Addr) (us:List V) (ρ:V->R),vs=[x,.str part,.ref p]/\H p=some (.lst us)/\Rows H ρ us/\us.length<=500/\Gu K aB ρ us x part/\∀ H',Am H H'->Q (.bl true) H'
theorem cL:BP ["thing","part","ahead"] ["thing","part","ahead"] (Ac Ua):=⟨rfl,rfl,rfl,by decide +kernel,rfl,by decide +kernel,by decide +kernel⟩
include N T in
theorem Ys:BK P w K mg base Bm 4 fPa dPa ["thing","part","ahead"] (Zi K aB):=by
 have GNm:BK P w K mg base Bm 2 fNm dNm ["thing"] Vh:=SN N T
 have GTo:BK P w K mg base Bm 3 fTo dTo ["rows","word","thing"] T8:=R4 N T
 have GWi:BK P w K mg base Bm 2 fWi dWi ["thing","bounds"] (Y7 K):=X3 N T
 refine N.FPa.1.ok cL (fun vs H Q E h=>?_) (fun cdv A outer s H vs Q E hr h=>?_)
 ·obtain ⟨x,part,p,us,ρ,rfl,_⟩:=h
  rfl
 ·obtain ⟨x,part,p,us,ρ,rfl,hp,hR,hl,hok,q⟩:=h
  have hrNm:Be 2 _:=hr.mono (by decide)
  have hrTo:Be 3 _:=hr.mono (by decide)
  have hrWi:Be 2 _:=hr.mono (by decide)
  refine ⟨_,(Ae (Bq (Ux (Qn (pv 1) (Cj (v:=.ref aB) rfl T.mB rfl))) (Ag (Ay (Aj GWi hrWi rfl N.FWi.2.2 N.FWi.1.kp N.FWi.2.1 .nil Az (Aa (pv 0) (Aa (Js (Cj (v:=.ref aB) rfl T.mB rfl) (pv 1) (fun _ _=>rfl)) Ab))))) Bc)
   (Ae (Bq (Bb Dd (pv 1) Ao (Bd _)) (Ag (Ay (Ck (Aj GNm hrNm rfl N.FNm.2.2 N.FNm.1.kp N.FNm.2.1 .nil Az (Aa (pv 0) Ab)) (Cq (Mp (Ax (JH rfl) rfl T.any PyProof.Rows.boot_any (Aa (Bp rfl (Bf (osc:=Ac Ua) (N:=["thing","part","ahead"]) rfl rfl (by decide +kernel)) (Lz (Cj (v:=.ref aN) rfl T.mN rfl)) (fun _ _ _ _=>CG) (fun _ _ _ _=>(Aj GTo hrTo rfl N.FTo.2.2 N.FTo.1.kp N.FTo.2.1 .nil Az (Aa (pv 3) (Aa (pv 0) (Aa (pv 1) Ab)))))) Ab))))))) Bc)
   (Ag (Ay (Aj GTo hrTo rfl N.FTo.2.2 N.FTo.1.kp N.FTo.2.1 .nil Az (Aa (pv 2) (Aa (pv 1) (Aa (pv 0) Ab)))))))),?_⟩
  rcases hok with ⟨i,lo,hi,b,rfl,hn,hb,h1,h2⟩ | ⟨hn,rfl,t,rfl,ht,hno⟩ | ⟨hn,hne,t,rfl,ht,hyes⟩
  ·refine ⟨_,rfl,aB,part,_,rfl,rfl,T.dB,hn,_,rfl,Dy ?_⟩
   exact ⟨_,rfl,_,rfl,aB,part,.ref b,_,rfl,rfl,T.dB,hn,rfl,i,lo,hi,b,rfl,hb,h1,h2,q H (Am.refl H)⟩
  ·refine ⟨_,rfl,aB,_,_,rfl,rfl,T.dB,hn,_,rfl,Dg ?_⟩
   refine ⟨_,rfl,rfl,_,rfl,Dy ?_⟩
   refine ⟨_,rfl,t,rfl,ht,fun H1 s1=>⟨_,rfl,Dy ?_⟩⟩
   have hS:FW K H1 aN (named.map V.str):=T.tN.sq _
   refine ⟨aN,rfl,⟨_,hS⟩,GP (xs:=named.map V.str) (fun _=>true) (fun _=>.bl false) (by show 5<sizeLine; decide) (fun i H2 x hs hx=>⟨_,x,hs.tup hS,hx⟩) (fun i H2 y H3 hs _ hy=>⟨hy.1,hy.2 _ (hs.tup hS)⟩) (fun H2 hs=>⟨_,hs.tup hS,Nat.le_refl _⟩)
    (fun x hx H' hs R k=>k H' (Am.refl H')) (fun x hx _ H' hs R k=>?_) (fun D H2 hD s2 hl2=>?_)⟩
   ·obtain ⟨w0,hw0,rfl⟩:=List.mem_map.mp hx
    refine ⟨_,rfl,_,rfl,_,rfl,p,us,w0,t,ρ,rfl,hs _ _ (s1 _ _ hp),(hR.mono s1).mono hs,hl,ht,fun H'' s''=>?_⟩
    rw [hno w0 hw0]
    exact k H'' s''
   ·refine ⟨D,[false,false,false,false,false],rfl,.inl (.inl hl2),_,rfl,?_⟩
    exact q H2 (s1.trans s2)
  ·refine ⟨_,rfl,aB,_,_,rfl,rfl,T.dB,hn,_,rfl,Dg ?_⟩
   refine ⟨_,rfl,rfl,_,rfl,?_⟩
   refine C_ (fun z=>absurd (V.str.inj (of_decide_eq_true z)) hne) (fun _=>?_)
   refine ⟨_,rfl,_,rfl,_,rfl,p,us,part,t,ρ,rfl,hp,hR,hl,ht,fun H' hs=>?_⟩
   rw [hyes]
   exact q H' hs
noncomputable def YC (K:PySem.W.Frag) (aB aP:Addr):Sp:=fun vs H Q _=>∃ (r p:Addr) (w:Str) (xs:List V) (us:List V) (ρ:V->R) (ap:Addr) (ps:List Str),vs=[.ref r,.ref p]/\H r=some (.tup (.str w::xs))/\H p=some (.lst us)/\Rows H ρ us/\us.length<=500 /\
 PySem.W.nsIn K aP w=some (some (.ref ap))/\KTup K ap (ps.map V.str)/\xs.length=ps.length/\ps.length<=10/\(∀ (i:Nat) x y,xs[i]? = some x->ps[i]? = some y->Gu K aB ρ us x y)/\∀ H',Am H H'->Q (.bl true) H'
theorem YB:BP ["row","ahead","parts"] ["row","ahead"] (Ac Vi):=⟨rfl,rfl,rfl,by decide +kernel,rfl,by decide +kernel,by decide +kernel⟩
include N T in
theorem YD:BK P w K mg base Bm 5 fHp dHp ["row","ahead"] (YC K aB aP):=by
 have GPa:BK P w K mg base Bm 4 fPa dPa ["thing","part","ahead"] (Zi K aB):=Ys N T
 refine N.FHp.1.ok YB (fun vs H Q E h=>?_) (fun cdv A outer s H vs Q E hr h=>?_)
 ·obtain ⟨r,p,w,xs,us,ρ,ap,ps,rfl,_⟩:=h
  rfl
 ·obtain ⟨r,p,w,xs,us,ρ,ap,ps,rfl,hr0,hp,hR,hl,hn,hap,hlen,hps,hok,q⟩:=h
  have hrPa:Be 4 _:=hr.mono (by decide)
  refine ⟨_,(Ae (Ba (i:=2) YB.nd rfl (Or.inl rfl) (Js (Cj (v:=.ref aP) rfl T.mP rfl) (BV (A_ (K:=K) rfl) (pv 0) Ad (fun _ _=>rfl)) (fun _ _=>rfl)))
   (Ae (Bq (Bb Mv (Ax BJ rfl T.len PySem.boot_len (Aa (pv 0) Ab)) (BW Cr Ad (Ax BJ rfl T.len PySem.boot_len (Aa (pv 2) Ab))) (Bd _)) (Ag (Ay Ej)) Bc)
   (Ag (Ay (Ax (GD rfl) rfl T.all PyProof.Rows.boot_all (Aa (RZ rfl (LR (osc:=Ac Vi) (N:=["row","ahead","parts"]) rfl rfl (by decide +kernel)) (RB rfl T.zip (Aa (DG Mg (pv 0) (Dc Ad) Eg) (Aa (pv 2) Ab))) (fun _ _ _ _=>CG) (fun _ _ _ _=>(Aj GPa hrPa rfl N.FPa.2.2 N.FPa.1.kp N.FPa.2.1 .nil Az (Aa (pv 0) (Aa (pv 1) (Aa (pv 3) Ab)))))) Ab)))))),?_⟩
  refine ⟨_,rfl,r,_,_,_,rfl,rfl,.inl (.inl hr0),Al (j:=0) rfl,aP,w,.ref ap,_,rfl,rfl,T.dP,hn,rfl,?_⟩
  refine ⟨_,rfl,r,_,rfl,.inr (.inl (.inl hr0)),_,rfl,ap,_,rfl,.inr (hap.sq _),_,_,rfl,rfl,rfl,_,rfl,?_⟩
  refine C_ (fun z=>?_) (fun _=>?_)
  ·exfalso
   have e:(((V.str w::xs).length:Nat):Int)=1+(((ps.map V.str).length:Nat):Int):=by
    rw [List.length_cons,List.length_map,hlen]
    omega
   rw [e] at z
   simp at z
  ·have hcut:Cv (V.str w::xs) (some 1) none=xs:=by
    unfold Cv
    have e1:HT.Di (V.str w::xs).length 0 (some ((1:Nat):Int))=1:=by rw [HT.Eu,List.length_cons]; omega
    have e1':HT.Di (V.str w::xs).length 0 (some (1:Int))=1:=e1
    rw [e1',HT.Ih,List.drop_succ_cons,List.drop_zero]
    exact List.take_of_length_le (by rw [List.length_cons]; omega)
   refine ⟨_,rfl,_,rfl,r,_,rfl,.inl (.inl hr0),(fun z=>?_),fun p2 hp2=>?_⟩
   ·have e1:HT.Di (V.str w::xs).length 0 (some ((1:Nat):Int))=1:=by rw [HT.Eu,List.length_cons]; omega
    have:=z.1.symm.trans e1
    cases this
   rw [hcut]
   have s2:=Ak (o:=HO.tup xs) hp2
   have a2:upd H p2 (HO.tup xs) p2=some (.tup xs):=Af
   generalize upd H p2 (HO.tup xs)=H2 at s2 a2 ⊢
   have h1:FW K H2 p2 xs:=.inl (.inl a2)
   refine ⟨_,rfl,p2,ap,rfl,⟨_,h1⟩,⟨_,hap.sq _⟩,Qu (K:=K) (xs:=xs) (ys:=ps.map V.str) (fun _ _=>.bl true) h1 (hap.sq _) (by rw [List.length_map]; exact hlen) (Ar (by omega)) (fun i x y hx hy H3 s3 R k=>?_) (fun D H3 hD s3 hl3=>?_)⟩
   ·rw [List.getElem?_map] at hy
    obtain ⟨part,hpart,rfl⟩:=Option.map_eq_some_iff.mp hy
    exact ⟨_,rfl,_,rfl,_,rfl,x,part,p,us,ρ,rfl,s3 _ _ (s2 _ _ hp),(hR.mono s2).mono s3,hl,hok i x part hx hpart,fun H4 s4=>k H4 s4⟩
   ·have e:List.zipWith (fun _ _=>V.bl true) xs (ps.map V.str)=(List.replicate xs.length true).map V.bl:=by
     rw [List.map_replicate]
     refine List.ext_getElem? fun i=>?_
     rw [List.getElem?_zipWith]
     by_cases hi:i<xs.length
     ·rw [List.getElem?_eq_getElem hi,List.getElem?_eq_getElem (by rw [List.length_map]; omega),List.getElem?_eq_getElem (by rw [List.length_replicate]; exact hi)]
      simp
     ·rw [List.getElem?_eq_none (by omega),List.getElem?_eq_none (l:=List.replicate _ _) (by rw [List.length_replicate]; omega)]
    rw [e] at hl3
    refine ⟨D,List.replicate xs.length true,rfl,.inl (.inl hl3),?_⟩
    have e2:(List.replicate xs.length true).all id=true:=by simp
    rw [e2]
    exact q H3 (s2.trans s3)
noncomputable def YX:Sp:=fun vs H Q _=>∃ (p:Addr) (us:List V) (ρ:V->R) (c:Nat),vs=[.ref p]/\H p=some (.lst us)/\Rows H ρ us/\us.length<=500/\SQ ρ us c/\Q (.int (c:Nat)) H
theorem Q5:BP ["rows","count","row"] ["rows"] (Ac Vw):=⟨rfl,rfl,rfl,by decide +kernel,rfl,by decide +kernel,by decide +kernel⟩
include N T in
theorem W7:BK P w K mg base Bm 1 fCl dCl ["rows"] YX:=by
 refine N.FCl.1.ok Q5 (fun vs H Q E h=>?_) (fun cdv A outer s H vs Q E hr h=>?_)
 ·obtain ⟨p,us,ρ,c,rfl,_⟩:=h
  rfl
 ·obtain ⟨p,us,ρ,c,rfl,hp,hR,hl,hc,q⟩:=h
  refine ⟨_,(Ae (Ba (i:=1) Q5.nd rfl (Or.inl rfl) Ad)
   (Ae (Du PassesOwn.never rfl (Uq rfl T.reversed (Aa (pv 0) Ab)) (CK (i:=2) Q5.nd rfl (Or.inl rfl)) (Ae (Bq (Bb Mv (BV (A_ (K:=K) rfl) (pv 2) Ad (fun _ _=>rfl)) Ao (Bd _)) (Ag Qv) Bc)
   (Ag (Ba (i:=1) Q5.nd rfl (Or.inl rfl) (BW Cr (pv 1) Ad)))))
   (Ag (Ay (pv 1))))),?_⟩
  have hS:Cm K H p us:=.inl (.inl hp)
  refine ⟨_,rfl,p,us,rfl,hS,Q9 (K:=K) (a:=p) (xs:=us) (fun i σ H4=>H4=H/\i<=c/\∃ v2,σ=[some (.ref p),some (.int (i:Nat)),v2]) ⟨rfl,Nat.zero_le _,_,rfl⟩ (fun i σ H4 _ h=>by rw [h.1]; exact hS) ?_ ?_⟩
  ·rintro i x σ H4 hi hx ⟨rfl,hic,v2,rfl⟩
   obtain ⟨r,rfl,hr0⟩:=hR x (List.mem_of_getElem? hx)
   refine ⟨_,rfl,r,_,_,_,rfl,rfl,.inl (.inl hr0),Al (j:=0) rfl,rfl,_,rfl,?_⟩
   by_cases e:(ρ (.ref r)).w = "line"
   ·have hne:i ≠ c:=fun z=>by
     obtain ⟨v,hv,hno⟩:=hc.no
     rw [← z,hx] at hv
     cases hv
     exact hno e
    refine TV (congrArg V.str e) ?_
    exact ⟨_,rfl,_,_,rfl,rfl,rfl,by omega,_,rfl⟩
   ·have hic':i=c:=by
     refine Classical.byContradiction fun z=>?_
     obtain ⟨v,hv,hyes⟩:=hc.all i (by omega)
     rw [hx] at hv
     cases hv
     exact e hyes
    subst hic'
    rw [decide_eq_false fun z=>e (V.str.inj z)]
    refine Dy ?_
    exact ⟨_,rfl,q⟩
  ·rintro σ H4 ⟨rfl,hic,v2,rfl⟩
   have:=hc.lt
   omega
noncomputable def WX:Sp:=fun vs H Q _=>∃ (n:Int) (bd:Str) (p:Addr) (us:List V) (ρ:V->R),vs=[.int n,.str bd,.ref p]/\H p=some (.lst us)/\Rows H ρ us/\us.length<=500/\En ρ us/\∀ H',Am H H'->Q (.bl (keyOf ρ us bd n)) H'
theorem aA:BP ["number","board","ahead"] ["number","board","ahead"] (Ac Tg):=⟨rfl,rfl,rfl,by decide +kernel,rfl,by decide +kernel,by decide +kernel⟩
include N T in
theorem Wj:BK P w K mg base Bm 2 fIk dIk ["number","board","ahead"] WX:=by
 have GRo:BK P w K mg base Bm 1 fRo dRo ["rows","word"] N8:=K1 N T
 refine N.FIk.1.ok aA (fun vs H Q E h=>?_) (fun cdv A outer s H vs Q E hr h=>?_)
 ·obtain ⟨n,bd,p,us,ρ,rfl,_⟩:=h
  rfl
 ·obtain ⟨n,bd,p,us,ρ,rfl,hp,hR,hl,hB,q⟩:=h
  have hrRo:Be 1 _:=hr.mono (by decide)
  refine ⟨_,(Ag (Ay (Ax (JH rfl) rfl T.any PyProof.Rows.boot_any (Aa (Bp rfl (Bf (osc:=Ac Tg) (N:=["number","board","ahead"]) rfl rfl (by decide +kernel)) (Bl (Aj GRo hrRo rfl N.FRo.2.2 N.FRo.1.kp N.FRo.2.1 .nil Az (Aa (pv 2) (Aa Ao Ab)))) (fun _ _ _ _=>CG) (fun _ _ _ _=>(Ck (Cy Dd (BV (A_ (K:=K) rfl) (pv 0) Ad (fun _ _=>rfl)) (pv 2) (Bd _)) (Cq (Cy E_ (pv 1) (BV (A_ (K:=K) rfl) (pv 0) Ad (fun _ _=>rfl)) (Bd _)))))) Ab)))),?_⟩
  refine ⟨_,rfl,p,us,"board",ρ,rfl,hp,hR,hl,fun D H2 hD s2 hl2=>?_⟩
  have hS:Cm K H2 D (us.filter (pw ρ "board")):=.inl (.inl hl2)
  refine ⟨D,rfl,⟨_,hS⟩,CN (K:=K) (xs:=us.filter (pw ρ "board")) (fun _=>true) (fun v=>.bl (pn ρ bd v && decide (n<Vb (ρ v)))) hS (Ar (by have:=Gs (pw ρ "board") us; omega)) (fun x hx H' hs R k=>k H' (Am.refl H')) (fun x hx _ H' hs R k=>?_) (fun D3 H3 hD3 s3 hl3=>?_)⟩
  ·have hx':=List.mem_filter.mp hx
   obtain ⟨m,em⟩:=hB x hx'.1 (V.str.inj (of_decide_eq_true hx'.2))
   have hz:Vb (ρ x)=m:=by unfold Vb; rw [em]
   have hT:=((hR.mono s2).mono hs) x hx'.1
   have kk:=k H' (Am.refl H')
   rw [hz] at kk
   obtain ⟨T0,rfl,hT⟩:=hT
   have kk:R (.bl (decide (V.str (ρ (.ref T0)).nm=V.str bd) && decide (n<m))) H':=kk
   have hT':H' T0=some (.tup (.str (ρ (.ref T0)).w :: .str (ρ (.ref T0)).nm::(ρ (.ref T0)).rest)):=hT
   rw [em] at hT'
   refine ⟨_,rfl,T0,_,_,_,rfl,rfl,.inl (.inl hT'),Al (j:=1) rfl,_,rfl,rfl,_,rfl,?_⟩
   refine C_ (fun g=>?_) (fun g=>?_)
   ·rw [g,Bool.true_and] at kk
    exact ⟨_,rfl,_,rfl,T0,_,_,_,rfl,rfl,.inl (.inl hT'),Al (j:=2) rfl,_,_,rfl,rfl,kk⟩
   ·rw [(Bool.not_eq_true _).mp g,Bool.false_and] at kk
    exact kk
  ·refine ⟨D3,(us.filter (pw ρ "board")).map (fun v=>pn ρ bd v && decide (n<Vb (ρ v))),rfl,.inl (.inl ?_),?_⟩
   ·rw [hl3,List.filter_eq_self.mpr (fun _ _=>rfl),List.map_map]
    rfl
   ·have e:((us.filter (pw ρ "board")).map (fun v=>pn ρ bd v && decide (n<Vb (ρ v)))).any id=keyOf ρ us bd n:=by
     rw [List.any_map]
     rfl
    rw [e]
    exact q H3 (s2.trans s3)
noncomputable def XF:Sp:=fun vs H Q _=>∃ (r p:Addr) (ro:R) (us:List V) (ρ:V->R),vs=[.ref r,.ref p]/\H r=some (.tup ro.v)/\H p=some (.lst us)/\Rows H ρ us/\us.length<=500/\MN ρ us ro/\En ρ us/\∀ H',Am H H'->Q (.bl true) H'
theorem UT:BP ["line","ahead","count","row"] ["line","ahead"] (Ac V1):=⟨rfl,rfl,rfl,by decide +kernel,rfl,by decide +kernel,by decide +kernel⟩
include N T in
theorem XM:BK P w K mg base Bm 3 fSb dSb ["line","ahead"] XF:=by
 have GCl:BK P w K mg base Bm 1 fCl dCl ["rows"] YX:=W7 N T
 have GIk:BK P w K mg base Bm 2 fIk dIk ["number","board","ahead"] WX:=Wj N T
 refine N.FSb.1.ok UT (fun vs H Q E h=>?_) (fun cdv A outer s H vs Q E hr h=>?_)
 ·obtain ⟨r,p,ro,us,ρ,rfl,_⟩:=h
  rfl
 ·obtain ⟨r,p,ro,us,ρ,rfl,hr0,hp,hR,hl,hL,hB,q⟩:=h
  have hrCl:Be 1 _:=hr.mono (by decide)
  have hrIk:Be 2 _:=hr.mono (by decide)
  obtain ⟨tML4,hML4⟩:=T.mostLn
  refine ⟨_,(Ae (Ba (i:=2) UT.nd rfl (Or.inl rfl) (Aj GCl hrCl rfl N.FCl.2.2 N.FCl.1.kp N.FCl.2.1 .nil Az (Aa (pv 1) Ab)))
   (Ae (Ba (i:=3) UT.nd rfl (Or.inl rfl) (BV Cg (pv 1) (BW Fj (BW Fj (Ax BJ rfl T.len PySem.boot_len (Aa (pv 1) Ab)) Ad) (pv 2)) (fun _ _=>rfl)))
   (Ae (Bq (PW.pt (Gq (Bb Mv (BV (A_ (K:=K) rfl) (pv 3) Ad (fun _ _=>rfl)) Ao (Bd _)) (G8 (Bb Pq (pv 2) (Cj (v:=.int 4) rfl hML4 ⟨tML4,rfl⟩) (Bd _))))) (Ag (Ay Ej)) Bc)
   (Ag (Ay (Ck (Cy Gm (BV (A_ (K:=K) rfl) (pv 0) Ad (fun _ _=>rfl)) (BV (A_ (K:=K) rfl) (pv 0) Ad (fun _ _=>rfl)) (Bd _)) (Cq (Aj GIk hrIk rfl N.FIk.2.2 N.FIk.1.kp N.FIk.2.1 .nil Az (Aa (BV (A_ (K:=K) rfl) (pv 0) Ad (fun _ _=>rfl)) (Aa (BV (A_ (K:=K) rfl) (pv 3) Ad (fun _ _=>rfl)) (Aa (pv 1) Ab))))))))))),?_⟩
  obtain ⟨cnt,v,sh,lo,hi,bd,rs,er,hc,h4,hv,hw,hrest,hle,hk⟩:=hL.ex
  have hr1:H r=some (.tup [.str ro.w,.str ro.nm,.int sh,.int lo,.int hi]):=by rw [hr0,← er]
  obtain ⟨r2,rfl,hr2⟩:=hR v (List.mem_of_getElem? hv)
  have hr2':H r2=some (.tup (.str (ρ (.ref r2)).w :: .str (ρ (.ref r2)).nm :: .str bd::rs)):=by rw [hr2,← hrest]
  have hlt:=hc.lt
  have ei:((us.length:Nat):Int) - 1 - ((cnt:Nat):Int)=((us.length - 1 - cnt:Nat):Int):=by omega
  have hS:Cm K H p us:=.inl (.inl hp)
  refine ⟨_,rfl,p,us,ρ,cnt,rfl,hp,hR,hl,hc,?_⟩
  refine ⟨_,rfl,_,rfl,p,us,rfl,.inl hS,_,_,rfl,rfl,_,rfl,_,_,rfl,rfl,p,us,_,_,rfl,rfl,hS,(by rw [ei]; exact Al hv),?_⟩
  refine ⟨_,rfl,r2,_,_,_,rfl,rfl,.inl (.inl hr2'),Al (j:=0) rfl,rfl,_,rfl,TV (congrArg V.str hw) ?_⟩
  refine ⟨_,rfl,_,_,rfl,rfl,_,rfl,?_⟩
  refine C_ (fun z=>?_) (fun _=>?_)
  ·have:=of_decide_eq_true z
   omega
  refine ⟨_,rfl,r,_,_,_,rfl,rfl,.inl (.inl hr1),Al (j:=3) rfl,_,rfl,r,_,_,_,rfl,rfl,.inl (.inl hr1),Al (j:=4) rfl,_,_,rfl,rfl,_,rfl,?_⟩
  refine C_ (fun _=>?_) (fun z=>absurd (decide_eq_true hle) z)
  refine ⟨_,rfl,r,_,_,_,rfl,rfl,.inl (.inl hr1),Al (j:=4) rfl,_,rfl,r2,_,_,_,rfl,rfl,.inl (.inl hr2'),Al (j:=2) rfl,_,rfl,hi,bd,p,us,ρ,rfl,hp,hR,hl,hB,fun H' s'=>?_⟩
  rw [hk]
  exact q H' s'
noncomputable def YG:Sp:=fun vs H Q _=>∃ (r p:Addr) (ro:R) (us:List V) (ρ:V->R) (ts:List Str),vs=[.ref r,.ref p]/\H r=some (.tup ro.v)/\H p=some (.lst us)/\Rows H ρ us/\us.length<=500/\V.str ro.nm::ro.rest=ts.map V.str/\ts.Nodup/\ts.length<=24/\(∀ t∈ts,isNm t/\Qx ρ us "stop" t=true)/\∀ H',Am H H'->Q (.bl true) H'
theorem Zh:BP ["row","ahead","names"] ["row","ahead"] (Ac VB):=⟨rfl,rfl,rfl,by decide +kernel,rfl,by decide +kernel,by decide +kernel⟩
include N T in
theorem X_:BK P w K mg base Bm 5 fIs dIs ["row","ahead"] YG:=by
 have GTo:BK P w K mg base Bm 3 fTo dTo ["rows","word","thing"] T8:=R4 N T
 refine N.FIs.1.ok Zh (fun vs H Q E h=>?_) (fun cdv A outer s H vs Q E hr h=>?_)
 ·obtain ⟨r,p,ro,us,ρ,ts,rfl,_⟩:=h
  rfl
 ·obtain ⟨r,p,ro,us,ρ,ts,rfl,hr0,hp,hR,hl,ets,nd,h24,hts,q⟩:=h
  have hrTo:Be 3 _:=hr.mono (by decide)
  refine ⟨_,(Ae (Ba (i:=2) Zh.nd rfl (Or.inl rfl) (DG Mg (pv 0) (Dc Ad) Eg))
   (Ae (Bq (PW.pt (Gq (Bb Dd (Ax BJ rfl T.len PySem.boot_len (Aa (pv 2) Ab)) Ad (Bd _)) (G8 (Cw (Cp (Ax (GD rfl) rfl T.all PyProof.Rows.boot_all (Aa (Bp rfl (Bf (osc:=Ac VB) (N:=["row","ahead","names"]) rfl rfl (by decide +kernel)) (Lz (pv 2)) (fun _ _ _ _=>CG) (fun _ _ _ _=>(Aj GTo hrTo rfl N.FTo.2.2 N.FTo.1.kp N.FTo.2.1 .nil Az (Aa (pv 2) (Aa Ao (Aa (pv 0) Ab)))))) Ab))))))) (Ag (Ay Ej)) Bc)
   (Ag (Ay (Cy Dd (Ax JN rfl T.len PySem.boot_len (Aa (Gd (Nt rfl) rfl T.set PyProof.Rows.boot_set (Aa (pv 2) Ab)) Ab)) (Ax BJ rfl T.len PySem.boot_len (Aa (pv 2) Ab)) (Bd _)))))),?_⟩
  have hv:ro.v=V.str ro.w::ts.map V.str:=by
   show V.str ro.w::(V.str ro.nm::ro.rest)=_
   rw [ets]
  rw [hv] at hr0
  have tne:1<=ts.length:=by
   cases ts with
   | nil=>cases ets
   | cons a b=>exact Nat.succ_le_succ (Nat.zero_le _)
  have hcut:Cv (V.str ro.w::ts.map V.str) (some 1) none=ts.map V.str:=by
   unfold Cv
   have e1:HT.Di (V.str ro.w::ts.map V.str).length 0 (some 1)=1:=by
    rw [show (some (1:Int))=some ((1:Nat):Int) from rfl,HT.Eu]
    simp
   rw [e1,HT.Ih]
   simp
   exact List.take_of_length_le (by rw [List.length_map]; exact Nat.le_refl _)
  refine ⟨_,rfl,_,rfl,r,_,rfl,.inl (.inl hr0),?_,fun n0 hn0=>?_⟩
  ·rintro ⟨z,_⟩
   have e1:HT.Di (V.str ro.w::ts.map V.str).length 0 (some 1)=1:=by
    rw [show (some (1:Int))=some ((1:Nat):Int) from rfl,HT.Eu]
    simp
   rw [e1] at z
   cases z
  rw [hcut]
  have s1:=Ak (o:=HO.tup (ts.map V.str)) hn0
  have a1:upd H n0 (HO.tup (ts.map V.str)) n0=some (.tup (ts.map V.str)):=Af
  generalize upd H n0 (HO.tup (ts.map V.str))=H1 at s1 a1 ⊢
  have hT:FW K H1 n0 (ts.map V.str):=.inl (.inl a1)
  have ltm:(ts.map V.str).length=ts.length:=List.length_map ..
  refine ⟨_,rfl,n0,_,rfl,.inr hT,rfl,_,rfl,C_ (fun z=>?_) (fun _=>?_)⟩
  ·exfalso
   have:=V.int.inj (of_decide_eq_true z)
   omega
  refine ⟨_,rfl,n0,rfl,⟨_,hT⟩,Kp (K:=K) (xs:=ts.map V.str) (fun _=>true) (fun _=>.bl true) hT (Ar (by omega)) (fun x hx H' hs R k=>k H' (Am.refl H')) (fun x hx _ H' hs R k=>?_) (fun D H2 hD s2 hl2=>?_)⟩
  ·obtain ⟨z,hz,rfl⟩:=List.mem_map.mp hx
   obtain ⟨z1,z2⟩:=hts z hz
   refine ⟨_,rfl,_,rfl,p,us,"stop",z,ρ,rfl,hs _ _ (s1 _ _ hp),(hR.mono s1).mono hs,hl,z1,fun H3 s3=>?_⟩
   rw [z2]
   exact k H3 s3
  ·refine ⟨D,List.replicate ts.length true,rfl,.inl (.inl ?_),_,rfl,?_⟩
   ·rw [hl2,List.filter_eq_self.mpr (fun _ _=>rfl),List.map_map]
    congr 2
    refine List.ext_getElem? fun i=>?_
    rw [List.getElem?_map,List.getElem?_map,List.getElem?_replicate]
    by_cases hi:i<ts.length
    ·rw [List.getElem?_eq_getElem hi,if_pos hi]
     rfl
    ·rw [List.getElem?_eq_none (by omega),if_neg hi]
     rfl
   have ea:(List.replicate ts.length true).all id=true:=by simp
   rw [ea]
   refine Dg ?_
   have hT2:=s2 _ _ a1
   refine ⟨_,rfl,n0,ts,rfl,.inl (.inl hT2),by omega,fun S hS=>?_⟩
   have s3:=Ak (o:=Km P w S (ts.foldl Ws.Eh [])) hS
   refine ⟨S,_,rfl,Af,_,rfl,n0,_,rfl,.inr (.inl (.inl (s3 _ _ hT2))),rfl,?_⟩
   have e:ts.foldl Ws.Eh []=ts:=(JR ts [] (by rw [List.nil_append]; exact nd)).trans (List.nil_append _)
   have e2:decide (V.int (((ts.foldl Ws.Eh []).length:Nat):Int)=V.int (((ts.map V.str).length:Nat):Int))=true:=decide_eq_true (by rw [e,ltm])
   rw [e2]
   exact q _ (s1.trans (s2.trans s3))
noncomputable def UV (K:PySem.W.Frag) (aB aP aM:Addr):Sp:=fun vs H Q _=>∃ (r p:Addr) (ro:R) (us:List V) (ρ:V->R),vs=[.ref r,.ref p]/\H r=some (.tup ro.v)/\H p=some (.lst us)/\Rows H ρ us/\us.length<=500/\GK K aB aP aM ρ us ro/\∀ H',Am H H'->Q (.bl true) H'
theorem cJ:BP ["row","ahead"] ["row","ahead"] (Ac Vv):=⟨rfl,rfl,rfl,by decide +kernel,rfl,by decide +kernel,by decide +kernel⟩
include N T in
theorem WY:BK P w K mg base Bm 6 fWm dWm ["row","ahead"] (UV K aB aP aM):=by
 have GHp:BK P w K mg base Bm 5 fHp dHp ["row","ahead"] (YC K aB aP):=YD N T
 have GSb:BK P w K mg base Bm 3 fSb dSb ["line","ahead"] XF:=XM N T
 have GIs:BK P w K mg base Bm 5 fIs dIs ["row","ahead"] YG:=X_ N T
 refine N.FWm.1.ok cJ (fun vs H Q E h=>?_) (fun cdv A outer s H vs Q E hr h=>?_)
 ·obtain ⟨r,p,ro,us,ρ,rfl,_⟩:=h
  rfl
 ·obtain ⟨r,p,ro,us,ρ,rfl,hr0,hp,hR,hl,ok3,q⟩:=h
  have hrHp:Be 5 _:=hr.mono (by decide)
  have hrSb:Be 3 _:=hr.mono (by decide)
  have hrIs:Be 5 _:=hr.mono (by decide)
  refine ⟨_,(Ae (Bq (Bb Dd (BV (A_ (K:=K) rfl) (pv 0) Ad (fun _ _=>rfl)) Ao (Bd _)) (Ag (Ay (Aj GIs hrIs rfl N.FIs.2.2 N.FIs.1.kp N.FIs.2.1 .nil Az (Aa (pv 0) (Aa (pv 1) Ab))))) Bc)
   (Ae (Bq (Bb Dd (BV (A_ (K:=K) rfl) (pv 0) Ad (fun _ _=>rfl)) Ao (Bd _)) (Ag (Ay (Ck (Aj GHp hrHp rfl N.FHp.2.2 N.FHp.1.kp N.FHp.2.1 .nil Az (Aa (pv 0) (Aa (pv 1) Ab))) (Cq (Aj GSb hrSb rfl N.FSb.2.2 N.FSb.1.kp N.FSb.2.1 .nil Az (Aa (pv 0) (Aa (pv 1) Ab))))))) Bc)
   (Ag (Ay (Ck (PN (Qn (BV (A_ (K:=K) rfl) (pv 0) Ad (fun _ _=>rfl)) (Cj (v:=.ref aP) rfl T.mP rfl))) (Cq (Aj GHp hrHp rfl N.FHp.2.2 N.FHp.1.kp N.FHp.2.1 .nil Az (Aa (pv 0) (Aa (pv 1) Ab))))))))),?_⟩
  refine ⟨_,rfl,r,_,_,_,rfl,rfl,.inl (.inl hr0),Al (j:=0) rfl,rfl,_,rfl,?_⟩
  rcases ok3 with ok | ok
  case inr =>
   obtain ⟨ts,ets,nd,h24,hts⟩:=ok.ts
   refine C_ (fun _=>?_) (fun z=>absurd (decide_eq_true (congrArg V.str ok.w)) z)
   exact ⟨_,rfl,_,rfl,r,p,ro,us,ρ,ts,rfl,hr0,hp,hR,hl,ets,nd,h24,hts,q⟩
  obtain ⟨ap,ps,hn,hap,hlen,hps,hok⟩:=ok.parts
  refine C_ (fun z=>absurd (V.str.inj (of_decide_eq_true z)) ok.ns) (fun _=>?_)
  refine ⟨_,rfl,r,_,_,_,rfl,rfl,.inl (.inl hr0),Al (j:=0) rfl,rfl,_,rfl,?_⟩
  refine C_ (fun z=>?_) (fun _=>?_)
  ·have hline:=ok.line (V.str.inj (of_decide_eq_true z))
   refine ⟨_,rfl,_,rfl,r,p,ro.w,_,us,ρ,ap,ps,rfl,hr0,hp,hR,hl,hn,hap,hlen,hps,hok,fun H1 s1=>⟨_,rfl,Dy ?_⟩⟩
   exact ⟨_,rfl,_,rfl,r,p,ro,us,ρ,rfl,s1 _ _ hr0,s1 _ _ hp,hR.mono s1,hl,hline,ok.Vy,fun H2 s2=>q H2 (s1.trans s2)⟩
  refine ⟨_,rfl,r,_,_,_,rfl,rfl,.inl (.inl hr0),Al (j:=0) rfl,aP,_,_,rfl,rfl,T.dP,hn,_,rfl,Dy ?_⟩
  exact ⟨_,rfl,_,rfl,r,p,ro.w,_,us,ρ,ap,ps,rfl,hr0,hp,hR,hl,hn,hap,hlen,hps,hok,q⟩
noncomputable def Zf (K:PySem.W.Frag) (aM:Addr):Sp:=fun vs H Q _=>∃ (p:Addr) (w:Str) (us:List V) (ρ:V->R),vs=[.str w,.ref p]/\H p=some (.lst us)/\Rows H ρ us/\us.length<=500/\(PySem.W.nsIn K aM w=some none \/ ∃ (m:Int) (t:Tok),PySem.W.nsIn K aM w=some (some (.int m t))/\(((us.filter (pw ρ w)).length:Nat):Int)<m)/\∀ H',Am H H'->Q (.bl true) H'
theorem bw:BP ["word","ahead"] ["word","ahead"] (Ac Vx):=⟨rfl,rfl,rfl,by decide +kernel,rfl,by decide +kernel,by decide +kernel⟩
include N T in
theorem Zb:BK P w K mg base Bm 2 fHr dHr ["word","ahead"] (Zf K aM):=by
 have GRo:BK P w K mg base Bm 1 fRo dRo ["rows","word"] N8:=K1 N T
 refine N.FHr.1.ok bw (fun vs H Q E h=>?_) (fun cdv A outer s H vs Q E hr h=>?_)
 ·obtain ⟨p,w,us,ρ,rfl,_⟩:=h
  rfl
 ·obtain ⟨p,w,us,ρ,rfl,hp,hR,hl,hroom,q⟩:=h
  have hrRo:Be 1 _:=hr.mono (by decide)
  refine ⟨_,(Ag (Ay (Xq (PN (Ob (pv 0) (Cj (v:=.ref aM) rfl T.mM rfl))) (Cq (Cy E_ (Ax BJ rfl T.len PySem.boot_len (Aa (Aj GRo hrRo rfl N.FRo.2.2 N.FRo.1.kp N.FRo.2.1 .nil Az (Aa (pv 1) (Aa (pv 0) Ab))) Ab)) (Js (Cj (v:=.ref aM) rfl T.mM rfl) (pv 0) (fun _ _=>rfl)) (Bd _)))))),?_⟩
  rcases hroom with hn | ⟨m,t,hn,hm⟩
  ·refine ⟨_,rfl,aM,w,_,rfl,rfl,T.dM,hn,_,rfl,Dy ?_⟩
   exact q H (Am.refl H)
  refine ⟨_,rfl,aM,w,_,rfl,rfl,T.dM,hn,_,rfl,Dg ?_⟩
  refine ⟨_,rfl,_,rfl,p,us,w,ρ,rfl,hp,hR,hl,fun D H2 hD s2 hl2=>?_⟩
  refine ⟨D,_,rfl,.inl (.inl (.inl hl2)),_,rfl,aM,w,.int m,_,rfl,rfl,T.dM,hn,⟨t,rfl⟩,_,_,rfl,rfl,?_⟩
  show Q (.bl (decide ((((us.filter (pw ρ w)).length:Nat):Int)<m))) H2
  rw [decide_eq_true hm]
  exact q H2 s2
noncomputable def Xe (K:PySem.W.Frag) (aB aP aM:Addr):Sp:=UV K aB aP aM
theorem cI:BP ["thing","ahead"] ["thing","ahead"] (Ac WR):=⟨rfl,rfl,rfl,by decide +kernel,rfl,by decide +kernel,by decide +kernel⟩
include N T in
theorem W6:BK P w K mg base Bm 7 fIr dIr ["thing","ahead"] (Xe K aB aP aM):=by
 have GWm:BK P w K mg base Bm 6 fWm dWm ["row","ahead"] (UV K aB aP aM):=WY N T
 have GHr:BK P w K mg base Bm 2 fHr dHr ["word","ahead"] (Zf K aM):=Zb N T
 refine N.FIr.1.ok cI (fun vs H Q E h=>?_) (fun cdv A outer s H vs Q E hr h=>?_)
 ·obtain ⟨r,p,ro,us,ρ,rfl,_⟩:=h
  rfl
 ·obtain ⟨r,p,ro,us,ρ,rfl,hr0,hp,hR,hl,ok,q⟩:=h
  have hrWm:Be 6 _:=hr.mono (by decide)
  have hrHr:Be 2 _:=hr.mono (by decide)
  refine ⟨_,(Ae (Bq (PW.pt (Gq (Cw (Cp (Ax CV rfl T.isin PyProof.Rows.boot_isinstance (Aa (pv 0) (Aa (Dk (v:=.ty "tuple") rfl T.tuple PyProof.Rows.boot_tuple rfl) Ab))))) (Gq (Bb Dd (Ax BJ rfl T.len PySem.boot_len (Aa (pv 0) Ab)) Ad (Bd _)) (G8 (Cw (Cp (Ax CV rfl T.isin PyProof.Rows.boot_isinstance (Aa (BV (A_ (K:=K) rfl) (pv 0) Ad (fun _ _=>rfl)) (Aa (Dk (v:=.ty "str") rfl T.str PyProof.Rows.boot_str rfl) Ab))))))))) (Ag (Ay Ej)) Bc)
   (Ag (Ay (Ck (Aj GWm hrWm rfl N.FWm.2.2 N.FWm.1.kp N.FWm.2.1 .nil Az (Aa (pv 0) (Aa (pv 1) Ab))) (Cq (Aj GHr hrHr rfl N.FHr.2.2 N.FHr.1.kp N.FHr.2.1 .nil Az (Aa (BV (A_ (K:=K) rfl) (pv 0) Ad (fun _ _=>rfl)) (Aa (pv 1) Ab)))))))),?_⟩
  have hroom:PySem.W.nsIn K aM ro.w=some none \/ ∃ (m:Int) (t:Tok),PySem.W.nsIn K aM ro.w=some (some (.int m t))/\(((us.filter (pw ρ ro.w)).length:Nat):Int)<m:=GK.room ok
  refine ⟨_,rfl,_,"tuple",_,_,rfl,.tup hr0,R1,_,rfl,Dg ?_⟩
  refine ⟨_,rfl,r,_,rfl,.inr (.inl (.inl hr0)),rfl,_,rfl,?_⟩
  refine C_ (fun z=>?_) (fun _=>?_)
  ·exfalso
   have:=of_decide_eq_true z
   have:=V.int.inj this
   simp at this
   omega
  refine ⟨_,rfl,r,_,_,_,rfl,rfl,.inl (.inl hr0),Al (j:=0) rfl,_,"str",_,_,rfl,.str _,PL,_,rfl,Dg ?_⟩
  refine ⟨_,rfl,_,rfl,r,p,ro,us,ρ,rfl,hr0,hp,hR,hl,ok,fun H1 s1=>⟨_,rfl,Dy ?_⟩⟩
  exact ⟨_,rfl,r,_,_,_,rfl,rfl,.inl (.inl (s1 _ _ hr0)),Al (j:=0) rfl,_,rfl,p,ro.w,us,ρ,rfl,s1 _ _ hp,hR.mono s1,hl,hroom,fun H2 s2=>q H2 (s1.trans s2)⟩
noncomputable def X8 (K:PySem.W.Frag) (aB aP aM:Addr):Sp:=fun vs H Q _=>∃ (p:Addr) (us:List V) (ρ:V->R),vs=[.ref p]/\H p=some (.lst us)/\Rows H ρ us/\1<=us.length/\us.length<=150/\(∀ (i:Nat) v,us[i]? = some v->GK K aB aP aM ρ (us.take i) (ρ v))/\(us.filter (pw ρ "board")).isEmpty=false/\∀ H',Am H H'->Q .non H'
theorem Ve:BP ["rows","at","row"] ["rows"] (Ac V2):=⟨rfl,rfl,rfl,by decide +kernel,rfl,by decide +kernel,by decide +kernel⟩
include N T in
theorem YM:BK P w K mg base Bm 8 fCk dCk ["rows"] (X8 K aB aP aM):=by
 have GIr:BK P w K mg base Bm 7 fIr dIr ["thing","ahead"] (Xe K aB aP aM):=W6 N T
 have GRo:BK P w K mg base Bm 1 fRo dRo ["rows","word"] N8:=K1 N T
 refine N.FCk.1.ok Ve (fun vs H Q E h=>?_) (fun cdv A outer s H vs Q E hr h=>?_)
 ·obtain ⟨p,us,ρ,rfl,_⟩:=h
  rfl
 ·obtain ⟨p,us,ρ,rfl,hp,hR,h1,h2,hok,hb,q⟩:=h
  have hrIr:Be 7 _:=hr.mono (by decide)
  have hrRo:Be 1 _:=hr.mono (by decide)
  obtain ⟨tMR,hMR⟩:=T.mostR
  refine ⟨_,(Ae (Bq (PW.pt (Gq (Cw (Cp (Ax CV rfl T.isin PyProof.Rows.boot_isinstance (Aa (pv 0) (Aa (Dk (v:=.ty "list") rfl T.list PyProof.Rows.boot_list rfl) Ab))))) (G8 (Cw (QD Gm Gm Ad (Ax BJ rfl T.len PySem.boot_len (Aa (pv 0) Ab)) (Cj (v:=.int 150) rfl hMR ⟨tMR,rfl⟩)))))) (Ag HJ) Bc)
   (Ae (Du PassesOwn.never rfl (J1 rfl T.enumerate (Aa (pv 0) Ab)) (J7 rfl (Ec (CK (i:=1) Ve.nd rfl (Or.inl rfl)) (Ec (CK (i:=2) Ve.nd rfl (Or.inl rfl)) Ia))) (Ag (Bq (Cw (Cp (Aj GIr hrIr rfl N.FIr.2.2 N.FIr.1.kp N.FIr.2.1 .nil Az (Aa (pv 2) (Aa (DG Fi (pv 0) Eg (Dc (pv 1))) Ab))))) (Ag HJ) Bc)))
   (Ag (Bq (Cw (QJ (Aj GRo hrRo rfl N.FRo.2.2 N.FRo.1.kp N.FRo.2.1 .nil Az (Aa (pv 0) (Aa Ao Ab))) (fun _=>rfl))) (Ag HJ) Bc)))),?_⟩
  have hS:Cm K H p us:=.inl (.inl hp)
  refine ⟨_,rfl,_,"list",_,_,rfl,.lst hp,TY,_,rfl,Dg ?_⟩
  refine ⟨_,rfl,p,_,rfl,.inl hS,_,_,rfl,rfl,_,rfl,?_⟩
  refine C_ (fun _=>?_) (fun z=>absurd (decide_eq_true (by omega)) z)
  refine ⟨_,_,rfl,rfl,_,rfl,?_⟩
  have e150:decide ((us.length:Int)<=150)=true:=decide_eq_true (by omega)
  rw [e150]
  refine Dg ?_
  refine ⟨_,rfl,p,rfl,⟨_,hS⟩,Iv (K:=K) (a:=p) (xs:=us) (fun i σ H4=>Am H H4/\∃ v1 v2,σ=[some (.ref p),v1,v2]) ⟨Am.refl H,_,_,rfl⟩ (fun i σ H4 _ h=>h.1.seq hS) ?_ ?_⟩
  ·rintro i x σ H4 T0 hx ⟨s4,v1,v2,rfl⟩ hT
   have s5:=Ak (o:=HO.tup [.int (i:Int),x]) hT
   refine ⟨T0,_,rfl,.inl (.inl Af),rfl,_,_,rfl,_,_,rfl,rfl,?_⟩
   generalize upd H4 T0 (HO.tup [.int (i:Int),x])=H5 at s5 ⊢
   have s05:=s4.trans s5
   have hi:i<us.length:=(List.getElem?_eq_some_iff.mp hx).1
   obtain ⟨r,rfl,hr0⟩:=(hR.mono s05) x (List.mem_of_getElem? hx)
   refine ⟨_,rfl,_,rfl,_,rfl,_,rfl,p,_,rfl,s05.seq hS,fun p6 hp6=>?_⟩
   have s6:=Ak (o:=HO.lst (Cv us none (some (i:Int)))) hp6
   have a6:upd H5 p6 (HO.lst (Cv us none (some (i:Int)))) p6=_:=Af
   generalize upd H5 p6 (HO.lst (Cv us none (some (i:Int))))=H6 at s6 a6 ⊢
   rw [Fx us i (by omega)] at a6
   have s06:=s05.trans s6
   refine ⟨r,p6,ρ (.ref r),us.take i,ρ,rfl,s6 _ _ hr0,a6,(hR.mono s06).sub fun v hv=>List.mem_of_mem_take hv,by rw [List.length_take]; omega,hok i _ hx,fun H7 s7=>⟨_,rfl,Dg ?_⟩⟩
   exact ⟨s06.trans s7,_,_,rfl⟩
  ·rintro σ H4 ⟨s4,v1,v2,rfl⟩
   refine ⟨_,rfl,p,us,"board",ρ,rfl,s4 _ _ hp,hR.mono s4,by omega,fun D H5 hD s5 hl5=>?_⟩
   refine ⟨_,.inl ⟨_,.inl (.inl hl5),rfl⟩,?_⟩
   rw [hb]
   exact Dg (q H5 (s4.trans s5))
noncomputable def Xf:Sp:=fun vs H Q _=>∃ (p:Addr) (ts:List Str),vs=[.ref p]/\H p=some (.lst (ts.map V.str))/\ts.length<=300/\ts.Nodup/\∀ D (kvs:List (Key × V)) H',H D=none->Am H H'->H' D=some (.dK kvs)->(∀ (i:Nat) t,ts[i]? = some t->CJ kvs (Sum.inr t)=some (.int (i:Nat)))->(∀ t,t ∉ ts->CJ kvs (Sum.inr t)=none)->Q (.ref D) H'
theorem Q8:BP ["names","numbers","number","name"] ["names"] (Ac Vr):=⟨rfl,rfl,rfl,by decide +kernel,rfl,by decide +kernel,by decide +kernel⟩
include N T in
theorem Yj:BK P w K mg base Bm 1 fNu dNu ["names"] Xf:=by
 refine N.FNu.1.ok Q8 (fun vs H Q E h=>?_) (fun cdv A outer s H vs Q E hr h=>?_)
 ·obtain ⟨p,ts,rfl,_⟩:=h
  rfl
 ·obtain ⟨p,ts,rfl,hp,hl,nd,q⟩:=h
  have hu:=Cz hr
  refine ⟨_,(Ae (Ba (i:=1) Q8.nd rfl (Or.inl rfl) Pr)
   (Ae (Du PassesOwn.never rfl (J1 rfl T.enumerate (Aa (pv 0) Ab)) (J7 rfl (Ec (CK (i:=2) Q8.nd rfl (Or.inl rfl)) (Ec (CK (i:=3) Q8.nd rfl (Or.inl rfl)) Ia))) (Ag (Jt hu (pv 1) (pv 3) (pv 2) rfl)))
   (Ag (Ay (pv 1))))),?_⟩
  intro D hD
  have s0:=Ak (o:=HO.dK []) hD
  have hS:Cm K H p (ts.map V.str):=.inl (.inl hp)
  refine ⟨_,rfl,p,rfl,⟨_,s0.seq hS⟩,Iv (K:=K) (a:=p) (xs:=ts.map V.str) (fun i σ H4=>Am H H4/\∃ (kvs:List (Key × V)),H4 D=some (.dK kvs)/\kvs.length<=i/\(∀ (j:Nat) t,j<i->ts[j]? = some t->CJ kvs (Sum.inr t)=some (.int (j:Nat)))/\(∀ t,t ∉ ts->CJ kvs (Sum.inr t)=none)/\∃ v2 v3,σ=[some (.ref p),some (.ref D),v2,v3])
   ⟨s0,[],Af,Nat.le_refl _,fun j t hj=>absurd hj (Nat.not_lt_zero _),fun t _=>Qh,_,_,rfl⟩ (fun i σ H4 _ h=>h.1.seq hS) ?_ ?_⟩
  ·rintro i x σ H4 T0 hx ⟨s4,kvs,hd,hk,hv,hv0,v2,v3,rfl⟩ hT
   rw [List.getElem?_map] at hx
   obtain ⟨t,ht,rfl⟩:=Option.map_eq_some_iff.mp hx
   have hi:i<ts.length:=(List.getElem?_eq_some_iff.mp ht).1
   have s5:=Ak (o:=HO.tup [.int (i:Int),.str t]) hT
   refine ⟨T0,_,rfl,.inl (.inl Af),rfl,_,_,rfl,_,_,rfl,rfl,?_⟩
   generalize upd H4 T0 (HO.tup [.int (i:Int),.str t])=H5 at s5 ⊢
   refine ⟨_,rfl,_,rfl,_,rfl,D,_,rfl,Mq.k (k:=Sum.inr t) (s5 _ _ hd) (Ar (by omega)),?_⟩
   refine ⟨fun b u e=>?_,putK kvs (Sum.inr t) (.int (i:Int)),Af,Nat.le_trans (By _ _ _) (by omega),fun j t' hj ht'=>?_,fun t' ht'=>(by rw [BZ,if_neg fun z=>ht' (by rw [Sum.inr.inj z]; exact List.mem_of_getElem? ht)]; exact hv0 t' ht'),_,_,rfl⟩
   ·rw [An (Aq e hD)]
    exact s5 _ _ (s4 _ _ e)
   ·rw [BZ]
    by_cases e:t'=t
    ·subst e
     have:j=i:=by
      obtain ⟨h1,e1⟩:=List.getElem?_eq_some_iff.mp ht'
      obtain ⟨h2,e2⟩:=List.getElem?_eq_some_iff.mp ht
      exact (List.getElem_inj nd).mp (e1.trans e2.symm)
     subst this
     rw [if_pos rfl]
    ·rw [if_neg fun z=>e (Sum.inr.inj z)]
     refine hv j t' ?_ ht'
     rcases Nat.lt_succ_iff_lt_or_eq.mp hj with z | z
     ·exact z
     ·subst z
      rw [ht] at ht'
      exact absurd (Option.some.inj ht').symm e
  ·rintro σ H4 ⟨s4,kvs,hd,hk,hv,hv0,v2,v3,rfl⟩
   refine ⟨_,rfl,q D kvs H4 hD s4 hd (fun i t ht=>hv i t ?_ ht) hv0⟩
   rw [List.length_map]
   exact (List.getElem?_eq_some_iff.mp ht).1
noncomputable def Ub:Sp:=fun vs H Q _=>∃ (p:Addr) (as:List Th) (us:List V),vs=[.ref p]/\H p=some (.lst us)/\Paired (fun (a:Th) y=>TupAt H (tV a) y) as us/\as.length<=500/\(∀ a∈as,a.2.1<=100)/\∀ H',Am H H'->Q (.int ((as.map fun a=>a.2.1).sum:Nat)) H'
theorem Nh:∀ l:List Nat,(l.map fun n:Nat=>(n:Int)).sum=((l.sum:Nat):Int)
 | []=>rfl
 | n::l=>by
  rw [List.map_cons,List.sum_cons,List.sum_cons,Nh l]
  omega
theorem aG:BP ["things"] ["things"] (Ac VG):=⟨rfl,rfl,rfl,by decide +kernel,rfl,by decide +kernel,by decide +kernel⟩
include N T in
theorem R8:BK P w K mg base Bm 1 fCa dCa ["things"] Ub:=by
 refine N.FCa.1.ok aG (fun vs H Q E h=>?_) (fun cdv A outer s H vs Q E hr h=>?_)
 ·obtain ⟨p,as,us,rfl,_⟩:=h
  rfl
 ·obtain ⟨p,as,us,rfl,hp,hb,hl,hz,q⟩:=h
  refine ⟨_,(Ag (Ay (Ax (Il rfl) rfl T.sum PyProof.Rows.boot_sum (Aa (Bp rfl (Bf (osc:=Ac VG) (N:=["things"]) rfl rfl (by decide +kernel)) (Bl (pv 0)) (fun _ _ _ _=>CG) (fun _ _ _ _=>(BV (A_ (K:=K) rfl) (pv 0) Ad (fun _ _=>rfl)))) Ab)))),?_⟩
  have hS:Cm K H p us:=.inl (.inl hp)
  have hul:=hb.length
  refine ⟨_,rfl,p,rfl,⟨_,hS⟩,CN (K:=K) (xs:=us) (fun _=>true) (HB H 1) hS (Ar (by omega)) (fun x hx H' hs R k=>k H' (Am.refl H')) (fun x hx _ H' hs R k=>?_) (fun D H' hD hs hl'=>?_)⟩
  ·obtain ⟨b,_,hx'⟩:=Bw hb hx
   have e:=DY hx' 1
   obtain ⟨T0,rfl,hT⟩:=hx'.mono hs
   refine ⟨_,rfl,T0,_,_,_,rfl,rfl,.inl (.inl hT),Al (j:=1) rfl,?_⟩
   have:=k H' (Am.refl H')
   rw [e] at this
   exact this
  ·rw [List.filter_eq_self.mpr (fun _ _=>rfl),Eb 1 hb] at hl'
   have e:(as.map fun a=>(tV a).getD 1 V.non)=((as.map fun a=>a.2.1).map fun n:Nat=>(n:Int)).map V.int:=by
    rw [List.map_map,List.map_map]
    rfl
   rw [e] at hl'
   refine ⟨D,_,rfl,.inl (.inl hl'),fun n hn=>?_,by simp; omega,?_⟩
   ·obtain ⟨m,hm,rfl⟩:=List.mem_map.mp hn
    obtain ⟨b,hb',rfl⟩:=List.mem_map.mp hm
    have:=hz b hb'
    omega
   ·rw [Nh]
    exact q H' hs
theorem Ye {n:Nat} (h:n<=3000):n<sizeLine:=Nat.lt_of_le_of_lt h (by decide)
noncomputable def XQ:Sp:=fun vs H Q _=>∃ (p:Addr) (as:List Th) (us:List V),vs=[.ref p]/\H p=some (.lst us)/\Paired (fun (a:Th) y=>TupAt H (tV a) y) as us/\as.length<=12/\(∀ a∈as,a.2.1<=97)/\∀ D ys H',H D=none->Am H H'->H' D=some (.lst ys)->Paired (fun q y=>TupAt H' (qV q) y) (IW (as.map tN)) ys->Q (.ref D) H'
theorem RP:BP ["things","places","number","thing"] ["things"] (Ac VJ):=⟨rfl,rfl,rfl,by decide +kernel,rfl,by decide +kernel,by decide +kernel⟩
include N T in
theorem W2:BK P w K mg base Bm 1 fPl dPl ["things"] XQ:=by
 refine N.FPl.1.ok RP (fun vs H Q E h=>?_) (fun cdv A outer s H vs Q E hr h=>?_)
 ·obtain ⟨p,as,us,rfl,_⟩:=h
  rfl
 ·obtain ⟨p,as,us,rfl,hp,hb,hl,hz,q⟩:=h
  refine ⟨_,(Ae (Ba (i:=1) RP.nd rfl (Or.inl rfl) (Bx Ab))
   (Ae (Du PassesOwn.never rfl (J1 rfl T.enumerate (Aa (pv 0) Ab)) (J7 rfl (Ec (CK (i:=2) RP.nd rfl (Or.inr rfl)) (Ec (CK (i:=3) RP.nd rfl (Or.inl rfl)) Ia))) (Ag (Ci (Ef PySem.F.plainAttrs_list PySem.F.slot_list_extend PySem.F.type_list_extend Oa (pv 1) (Aa (Bp rfl (Bf (osc:=Ac VJ) (N:=["things","places","number","thing"]) rfl rfl (by decide +kernel)) (FN rfl T.range (Aa (BV (A_ (K:=K) rfl) (pv 3) Ad (fun _ _=>rfl)) Ab)) (fun _ _ _ _=>CG) (fun _ _ _ _=>(Cd (Aa (pv 3) (Aa (pv 0) Ab))))) Ab)))))
   (Ag (Ay (pv 1))))),?_⟩
  refine ⟨Bt (by simp),fun D hD=>?_⟩
  have s0:=Ak (o:=HO.lst []) hD
  have hS:Cm K H p us:=.inl (.inl hp)
  have hul:=hb.length
  refine ⟨_,rfl,p,rfl,⟨_,s0.seq hS⟩,Iv (K:=K) (a:=p) (xs:=us) (fun i σ H4=>Am H H4/\∃ ys,H4 D=some (.lst ys)/\Paired (fun q y=>TupAt H4 (qV q) y) (IW ((as.map tN).take i)) ys/\∃ v2 v3,σ=[some (.ref p),some (.ref D),v2,v3])
   ⟨s0,[],Af,.nil,_,_,rfl⟩ (fun i σ H4 _ h=>h.1.seq hS) ?_ ?_⟩
  ·rintro i x σ H4 T0 hx ⟨s4,ys,hd,hpr,v2,v3,rfl⟩ hT
   obtain ⟨b,hbi,hxb⟩:=Kf hb hx
   have hi:i<as.length:=(List.getElem?_eq_some_iff.mp hbi).1
   have hb97:=hz b (List.mem_of_getElem? hbi)
   have hbi':(as.map tN)[i]? = some (tN b):=by rw [List.getElem?_map,hbi]; rfl
   have s5:=Ak (o:=HO.tup [.int (i:Int),x]) hT
   refine ⟨T0,_,rfl,.inl (.inl Af),rfl,_,_,rfl,_,_,rfl,rfl,?_⟩
   generalize upd H4 T0 (HO.tup [.int (i:Int),x])=H5 at s5 ⊢
   obtain ⟨r,rfl,hr0⟩:=hxb.mono (s4.trans s5)
   have p5:=Ah s5 hpr
   have d5:=s5 _ _ hd
   refine ⟨_,rfl,.inl ⟨rfl,_,.inl (.inl d5)⟩,_,rfl,r,_,_,_,rfl,rfl,.inl (.inl hr0),Al (j:=1) rfl,_,rfl,by omega,by omega,?_⟩
   rw [Int.toNat_natCast]
   refine Ov (n:=b.2.1) (fun e=>qV (i,e)) (Ar (by omega)) (fun e he H6 s6 R k=>?_) (fun D6 H6 zs hD6 s6 hl6 hz6=>?_)
   ·refine ⟨_,rfl,_,rfl,by show 2<=sizeLine; decide,fun T6 hT6=>?_⟩
    exact k _ _ (Ak hT6) ⟨T6,rfl,Af⟩
   ·have ly:=(Ah s6 p5).length
    have lz:=hz6.length
    have lp:=Ra ((as.map tN).take i) 97 fun b hb=>by
     obtain ⟨a,ha,rfl⟩:=List.mem_map.mp (List.mem_of_mem_take hb)
     exact hz a ha
    rw [List.length_take,List.length_map] at lp
    rw [List.length_range] at lz
    have:min i as.length * 97<=12 * 97:=Nat.mul_le_mul_right _ (by omega)
    refine ⟨D,D6,ys,zs,rfl,rfl,s6 _ _ d5,hl6,Nat.le_of_lt (Ye (by omega)),?_⟩
    refine ⟨fun b u e=>?_,ys++zs,Af,?_,_,_,rfl⟩
    ·rw [An (Aq e hD)]
     exact s6 _ _ (s5 _ _ (s4 _ _ e))
    ·rw [Ir hbi']
     exact Bv (BL (Ah s6 p5) (s6 _ _ d5)) (Ce (F:=fun q y=>TupAt _ (qV q) y) (fun e=>(i,e)) (BL hz6 (s6 _ _ d5)))
  ·rintro σ H4 ⟨s4,ys,hd,hpr,v2,v3,rfl⟩
   rw [← hul,List.take_of_length_le (by rw [List.length_map]; exact Nat.le_refl _)] at hpr
   exact ⟨_,rfl,q D ys H4 hD s4 hd hpr⟩
theorem M9 {α:Type} (l:List α) (x:α):Ot (l++[x]) (-1)=some x:=by
 unfold Ot Tq
 rw [if_neg (by decide),if_pos (by rw [List.length_append,List.length_singleton]; omega)]
 show (l++[x])[(-1+(((l++[x]).length:Nat):Int)).toNat]? = some x
 have e:(-1+(((l++[x]).length:Nat):Int)).toNat=l.length:=by
  rw [List.length_append,List.length_singleton]
  omega
 rw [e,List.getElem?_append_right (Nat.le_refl _),Nat.sub_self]
 rfl
theorem Ig {H:Hp} {l:List Ln} {v:V} {A:Addr} {xs ys:List V} (h:F_ H l v) (hA:H A=some (.lst xs)) (hv:v ≠ .ref A):F_ (upd H A (.lst ys)) l v:=by
 obtain ⟨B,ts,rfl,h1,h2⟩:=h
 have:B ≠ A:=fun z=>hv (by rw [z])
 exact ⟨B,ts,rfl,by rw [An this]; exact h1,BL h2 hA⟩
theorem Ep {α β:Type} {F G:α->β->Prop}:∀ {l:List α} {vs:List β},Paired F l vs->(∀ a b,b∈vs->F a b->G a b)->Paired G l vs
 | [],_,h,_=>by cases h; exact .nil
 | a::l,_,h,k=>by
  cases h with
  | cons x y=>exact .cons (k _ _ (List.mem_cons_self ..) x) (Ep y fun a b hb=>k a b (List.mem_cons_of_mem _ hb))
theorem Hc {α β:Type} {F:α->β->Prop}:∀ {l:List α} {z:α} {vs:List β},Paired F (l++[z]) vs->∃ us u,vs=us++[u]/\Paired F l us/\F z u
 | [],z,_,h=>by
  cases h with
  | cons x y=>cases y; exact ⟨[],_,rfl,.nil,x⟩
 | a::l,z,_,h=>by
  cases h with
  | cons x y =>
   obtain ⟨us,u,rfl,h1,h2⟩:=Hc y
   exact ⟨_::us,u,rfl,.cons x h1,h2⟩
theorem Es {α:Type} {l:List α} (h:l ≠ []):∃ a z,l=a++[z]:=⟨l.dropLast,l.getLast h,(List.dropLast_concat_getLast h).symm⟩
theorem Kh {rk:List (Str × Nat × Int)}:∀ {rs:List R},(∃ r∈rs,Gk r.w=true)->linesOf rk rs ≠ []:=by
 have key:∀ (n:Nat) (rs:List R),rs.length=n->(∃ r∈rs,Gk r.w=true)->linesOf rk rs ≠ []:=by
  intro n
  induction n with
  | zero =>
   rintro rs hl ⟨r,hr,_⟩
   cases rs with
   | nil=>cases hr
   | cons a b=>cases hl
  | succ n ih =>
   rintro rs hl ⟨r,hr,hk⟩
   obtain ⟨a,z,rfl⟩:=Es (l:=rs) (by intro e; rw [e] at hl; cases hl)
   rw [CW]
   rw [List.length_append,List.length_singleton] at hl
   unfold DN
   by_cases hz:Gk z.w=true
   ·rw [if_pos hz]
    simp
   ·rw [if_neg hz]
    have hr':r∈a:=by
     rcases List.mem_append.mp hr with h | h
     ·exact h
     ·rw [List.mem_singleton.mp h] at hk
      exact absurd hk hz
    have ih':=ih a (by omega) ⟨r,hr',hk⟩
    split
    ·obtain ⟨b,y,e⟩:=Es ih'
     rw [e,Gb]
     simp
    ·exact ih'
 exact fun {rs} h=>key rs.length rs rfl h
noncomputable def Wb:Sp:=fun vs H Q _=>∃ (p d:Addr) (us:List V) (ρ:V->R) (rk:List (Str × Nat × Int)) (kvs:List (Key × V)),vs=[.ref p,.ref d]/\H p=some (.lst us)/\Rows H ρ us/\us.length<=500/\H d=some (.dK kvs)/\(∀ (i:Nat) r,rk[i]? = some r->CJ kvs (Sum.inr r.1)=some (.int (i:Nat)))/\(rk.map (·.1)).Nodup /\
 (∀ (i:Nat) v,us[i]? = some v->(ρ v).w = "line"->(∃ (j:Nat) (r:Str × Nat × Int) (sh lo hi:Int),rk[j]? = some r/\r.1=(ρ v).nm/\(ρ v).rest=[.int sh,.int lo,.int hi])/\∃ u∈us.take i,Gk (ρ u).w=true)/\∀ D H',H D=none->Am H H'->Dn p H' D (linesOf rk (us.map ρ))->Q (.ref D) H'
theorem Tv {rk:List (Str × Nat × Int)} {j:Nat} {r:Str × Nat × Int} (nd:(rk.map (·.1)).Nodup) (h:rk[j]? = some r):(rk.map (·.1)).idxOf r.1=j:=by
 have hj:j<(rk.map (·.1)).length:=by rw [List.length_map]; exact (List.getElem?_eq_some_iff.mp h).1
 have e:(rk.map (·.1))[j]=r.1:=by
  rw [List.getElem_map]
  exact congrArg (·.1) (List.getElem?_eq_some_iff.mp h).2
 rw [← e]
 exact List.Nodup.idxOf_getElem nd j hj
theorem T_:BP ["rows","rank_numbers","lines","row"] ["rows","rank_numbers"] (Ac Vu):=⟨rfl,rfl,rfl,by decide +kernel,rfl,by decide +kernel,by decide +kernel⟩
include N T in
theorem Xn:BK P w K mg base Bm 1 fLi dLi ["rows","rank_numbers"] Wb:=by
 refine N.FLi.1.ok T_ (fun vs H Q E h=>?_) (fun cdv A outer s H vs Q E hr h=>?_)
 ·obtain ⟨p,d,us,ρ,rk,kvs,rfl,_⟩:=h
  rfl
 ·obtain ⟨p,d,us,ρ,rk,kvs,rfl,hp,hR,hl,hdk,hval,hnd,hln,q⟩:=h
  have hu:=Cz hr
  refine ⟨_,(Ae (Ba (i:=2) T_.nd rfl (Or.inl rfl) (Bx Ab))
   (Ae (Du PassesOwn.never rfl (Bl (pv 0)) (CK (i:=3) T_.nd rfl (Or.inl rfl)) (Ae (Bq (Bb (Ip (K:=K) rfl) (BV (A_ (K:=K) rfl) (pv 3) Ad (fun _ _=>rfl)) (Cj (v:=.ref aK) rfl T.mK rfl) rfl) (Ag (Ci (Ef PySem.F.plainAttrs_list PySem.F.slot_list_append PySem.F.type_list_append Bu (pv 2) (Aa (Bx Ab) Ab)))) Bc)
   (Ag (Bq (Bb Dd (BV (A_ (K:=K) rfl) (pv 3) Ad (fun _ _=>rfl)) Ao (Bd _)) (Ag (Ci (Ef PySem.F.plainAttrs_list PySem.F.slot_list_append PySem.F.type_list_append Bu (BV (Ds (K:=K) rfl) (pv 2) (R5 Qs Ad) (fun _ _=>rfl)) (Aa (Cd (Aa (BR hu (pv 1) (BV (A_ (K:=K) rfl) (pv 3) Ad (fun _ _=>rfl)) (fun _ _=>rfl)) (Aa (BV (A_ (K:=K) rfl) (pv 3) Ad (fun _ _=>rfl)) (Aa (BV (A_ (K:=K) rfl) (pv 3) Ad (fun _ _=>rfl)) (Aa (BV (A_ (K:=K) rfl) (pv 3) Ad (fun _ _=>rfl)) Ab))))) Ab)))) Bc))))
   (Ag (Ay (pv 2))))),?_⟩
  refine ⟨Bt (by simp),fun D hD=>?_⟩
  have s0:=Ak (o:=HO.lst []) hD
  have hS:Cm K H p us:=.inl (.inl hp)
  refine ⟨_,rfl,p,rfl,⟨_,s0.seq hS⟩,Ek (K:=K) (a:=p) (xs:=us) (fun i σ H4=>Am H H4/\∃ lv,H4 D=some (.lst lv)/\Paired (fun l v=>F_ H4 l v) (linesOf rk ((us.take i).map ρ)) lv/\lv.Nodup/\(∀ v∈lv,v ≠ .ref D)/\(∀ v∈lv,∃ A,v=.ref A/\H A=none)/\lv.length<=i/\(∀ l∈linesOf rk ((us.take i).map ρ),l.length<=i)/\∃ v3,σ=[some (.ref p),some (.ref d),some (.ref D),v3])
   ⟨s0,[],Af,.nil,List.nodup_nil,(fun v hv=>nomatch hv),(fun v hv=>nomatch hv),Nat.le_refl _,(fun l hl=>nomatch hl),_,rfl⟩ (fun i σ H4 _ h=>h.1.seq hS) ?_ ?_⟩
  ·rintro i x σ H4 hx ⟨s4,lv,hd,hpr,nd,hne,hA0,hlv,hll,v3,rfl⟩
   have hm:=List.mem_of_getElem? hx
   have hi:i<us.length:=(List.getElem?_eq_some_iff.mp hx).1
   obtain ⟨r,rfl,hr0⟩:=(hR.mono s4) x hm
   have etake:(us.take (i+1)).map ρ=(us.take i).map ρ++[ρ (.ref r)]:=by
    rw [List.take_add_one,hx,List.map_append]
    rfl
   have est:linesOf rk ((us.take (i+1)).map ρ)=DN rk (linesOf rk ((us.take i).map ρ)) (ρ (.ref r)):=by rw [etake,CW]
   have lvl:(linesOf rk ((us.take i).map ρ)).length=lv.length:=hpr.length
   by_cases hk:Gk (ρ (.ref r)).w=true
   ·have hnl:¬ (ρ (.ref r)).w = "line":=fun z=>by rw [z] at hk; exact absurd hk (by decide +kernel)
    have est2:linesOf rk ((us.take (i+1)).map ρ)=linesOf rk ((us.take i).map ρ)++[[]]:=by rw [est]; unfold DN; rw [if_pos hk]
    refine ⟨_,rfl,r,_,_,_,rfl,rfl,.inl (.inl hr0),Al (j:=0) rfl,aK,_,rfl,.inr (T.tK.sq _),rfl,rfl,_,rfl,?_⟩
    refine C_ (fun _=>?_) (fun z=>absurd hk z)
    refine ⟨_,rfl,.inl ⟨rfl,_,.inl (.inl hd)⟩,Bt (by simp),fun p5 hp5=>?_⟩
    have s5:=Ak (o:=HO.lst []) hp5
    have u5:upd H4 p5 (HO.lst []) p5=some (.lst []):=Af
    generalize upd H4 p5 (HO.lst [])=H5 at s5 u5 ⊢
    have hd5:=s5 _ _ hd
    refine ⟨D,lv,_,rfl,rfl,hd5,Ar (by omega),?_⟩
    have hrD:r ≠ D:=KN (s5 _ _ hr0) hd5 (by intro z; cases z)
    have hpD:p5 ≠ D:=fun z=>by rw [z,hd] at hp5; cases hp5
    refine ⟨_,rfl,r,_,_,_,rfl,rfl,.inl (.inl (by rw [An hrD]; exact s5 _ _ hr0)),Al (j:=0) rfl,rfl,_,rfl,?_⟩
    refine C_ (fun z=>absurd (V.str.inj (of_decide_eq_true z)) hnl) (fun _=>?_)
    refine ⟨fun b u e=>?_,lv++[.ref p5],Af,?_,?_,?_,?_,by simp; omega,?_,_,rfl⟩
    ·rw [An (Aq e hD)]
     exact s5 _ _ (s4 _ _ e)
    ·rw [est2]
     refine Bv (Ep hpr fun l v hv h=>Ig (h.mono s5) hd5 (hne v hv)) (.cons ⟨p5,[],rfl,by rw [An hpD]; exact u5,.nil⟩ .nil)
    ·refine Nb nd fun hm=>?_
     obtain ⟨l,_,hA⟩:=Bw hpr hm
     obtain ⟨A,ts,e,h1,_⟩:=hA
     cases e
     rw [h1] at hp5
     cases hp5
    ·intro v hv
     rcases List.mem_append.mp hv with h | h
     ·exact hne v h
     ·rw [List.mem_singleton.mp h]
      intro z
      exact hpD (V.ref.inj z)
    ·intro v hv
     rcases List.mem_append.mp hv with h | h
     ·exact hA0 v h
     ·exact ⟨p5,List.mem_singleton.mp h,s4.free hp5⟩
    ·intro l hl'
     rw [est2] at hl'
     rcases List.mem_append.mp hl' with h | h
     ·exact Nat.le_succ_of_le (hll l h)
     ·rw [List.mem_singleton.mp h]
      exact Nat.zero_le _
   ·refine ⟨_,rfl,r,_,_,_,rfl,rfl,.inl (.inl hr0),Al (j:=0) rfl,aK,_,rfl,.inr (T.tK.sq _),rfl,rfl,_,rfl,?_⟩
    refine C_ (fun z=>absurd z hk) (fun _=>?_)
    refine ⟨_,rfl,r,_,_,_,rfl,rfl,.inl (.inl hr0),Al (j:=0) rfl,rfl,_,rfl,?_⟩
    by_cases hwl:(ρ (.ref r)).w = "line"
    ·refine C_ (fun _=>?_) (fun z=>absurd (decide_eq_true (congrArg V.str hwl)) z)
     obtain ⟨⟨j,rr,sh,lo,hi',hj,hnm,hrest⟩,u,hu,hku⟩:=hln i _ hx hwl
     have hne0:linesOf rk ((us.take i).map ρ) ≠ []:=Kh ⟨ρ u,List.mem_map_of_mem hu,hku⟩
     obtain ⟨ac,z,eac⟩:=Es hne0
     rw [eac] at hpr
     obtain ⟨lv',v,rfl,hpr',hz⟩:=Hc hpr
     obtain ⟨A,ts,rfl,hA,htp⟩:=hz
     have est2:linesOf rk ((us.take (i+1)).map ρ)=ac++[z++[⟨j,sh,lo,hi'⟩]]:=by
      rw [est]
      unfold DN
      rw [if_neg hk,if_pos hwl,eac,Gb]
      unfold lnOf
      rw [hrest,← hnm,Tv hnd hj]
     have hr1:H4 r=some (.tup [.str (ρ (.ref r)).w,.str (ρ (.ref r)).nm,.int sh,.int lo,.int hi']):=by rw [hr0,← hrest]
     have g:=Bs.k (k:=Sum.inr rr.1) (s4 _ _ hdk)
     rw [hval j rr hj,hnm] at g
     have hAD:A ≠ D:=fun e=>hne (.ref A) (by simp) (by rw [e])
     have hzl:z.length<=i:=hll z (by rw [eac]; simp)
     have htl:=htp.length
     refine ⟨_,rfl,_,rfl,D,_,_,_,rfl,rfl,.inl (.inl hd),M9 lv' (V.ref A),.inl ⟨rfl,_,.inl (.inl hA)⟩,_,rfl,_,rfl,r,_,_,_,rfl,rfl,.inl (.inl hr1),Al (j:=1) rfl,d,_,rfl,g,_,rfl,r,_,_,_,rfl,rfl,.inl (.inl hr1),Al (j:=2) rfl,_,rfl,r,_,_,_,rfl,rfl,.inl (.inl hr1),Al (j:=3) rfl,_,rfl,r,_,_,_,rfl,rfl,.inl (.inl hr1),Al (j:=4) rfl,by show 4<=sizeLine; decide,fun T5 hT5=>?_⟩
     have s5:=Ak (o:=HO.tup [.int (j:Nat),.int sh,.int lo,.int hi']) hT5
     have u5:upd H4 T5 (HO.tup [.int (j:Nat),.int sh,.int lo,.int hi']) T5=some (.tup [.int (j:Nat),.int sh,.int lo,.int hi']):=Af
     generalize upd H4 T5 (HO.tup [.int (j:Nat),.int sh,.int lo,.int hi'])=H5 at s5 u5 ⊢
     have hA5:=s5 _ _ hA
     have hTA:T5 ≠ A:=fun e=>by rw [e,hA] at hT5; cases hT5
     have hdj:D ≠ A:=fun e=>hAD e.symm
     obtain ⟨nd1,_,hdisj⟩:=List.nodup_append.mp nd
     refine ⟨A,ts,_,rfl,rfl,hA5,Ar (by omega),?_⟩
     refine ⟨fun b u e=>?_,lv'++[.ref A],by rw [An hdj]; exact s5 _ _ hd,?_,nd,hne,hA0,by omega,?_,_,rfl⟩
     ·obtain ⟨A',eA,hA'⟩:=hA0 (.ref A) (by simp)
      cases eA
      rw [An (Aq e hA')]
      exact s5 _ _ (s4 _ _ e)
     ·rw [est2]
      refine Bv (Ep hpr' fun l v hv h=>Ig (h.mono s5) hA5 (fun e=>hdisj v hv _ (List.mem_singleton.mpr rfl) e)) (.cons ⟨A,ts++[.ref T5],rfl,Af,Bv (BL (Ah s5 htp) hA5) (.cons ⟨T5,rfl,by rw [An hTA]; exact u5⟩ .nil)⟩ .nil)
     ·intro l hl'
      rw [est2] at hl'
      rcases List.mem_append.mp hl' with h | h
      ·exact Nat.le_succ_of_le (hll l (by rw [eac]; exact List.mem_append_left _ h))
      ·rw [List.mem_singleton.mp h,List.length_append,List.length_singleton]
       omega
    ·refine C_ (fun z=>absurd (V.str.inj (of_decide_eq_true z)) hwl) (fun _=>?_)
     have est2:linesOf rk ((us.take (i+1)).map ρ)=linesOf rk ((us.take i).map ρ):=by rw [est]; unfold DN; rw [if_neg hk,if_neg hwl]
     rw [← est2] at hpr hll
     exact ⟨s4,lv,hd,hpr,nd,hne,hA0,by omega,fun l hl'=>Nat.le_succ_of_le (hll l hl'),_,rfl⟩
  ·rintro σ H4 ⟨s4,lv,hd,hpr,nd,hne,hA0,hlv,hll,v3,rfl⟩
   rw [List.take_length] at hpr
   have hDp:D ≠ p:=Ne.symm (Aq hp hD)
   refine ⟨_,rfl,q D H4 hD s4 ⟨lv,hd,hDp,Ep hpr fun l v hv h=>⟨h,fun z=>?_⟩⟩⟩
   obtain ⟨A,e,hA⟩:=hA0 v hv
   rw [e] at z
   rw [V.ref.inj z,hp] at hA
   cases hA
noncomputable abbrev nV (l:List Nat):List V:=l.map fun n:Nat=>V.int (n:Int)
noncomputable def Wg:Sp:=fun vs H Q _=>∃ i:Int,vs=[.int i]/\Q (.bl (decide (0<=i) && decide (i<1200))) H
theorem bj:BP ["thing"] ["thing"] (Ac WT):=⟨rfl,rfl,rfl,by decide +kernel,rfl,by decide +kernel,by decide +kernel⟩
include N T in
theorem ZV:BK P w K mg base Bm 2 fMy dMy ["thing"] Wg:=by
 have GWh:BK P w K mg base Bm 1 fWh dWh ["thing"] Ke:=Sq N T
 refine N.FMy.1.ok bj (fun vs H Q E h=>?_) (fun cdv A outer s H vs Q E hr h=>?_)
 ·obtain ⟨i,rfl,_⟩:=h
  rfl
 ·obtain ⟨i,rfl,q⟩:=h
  have hrWh:Be 1 _:=hr.mono (by decide)
  obtain ⟨tMB,hMB⟩:=T.below
  refine ⟨_,(Ag (Ay (Ck (Aj GWh hrWh rfl N.FWh.2.2 N.FWh.1.kp N.FWh.2.1 .nil Az (Aa (pv 0) Ab)) (Cq (HS Gm E_ Ad (pv 0) (Cj (v:=.int 1200) rfl hMB ⟨tMB,rfl⟩)))))),?_⟩
  refine ⟨_,rfl,i,rfl,_,rfl,Dy ?_⟩
  refine ⟨_,rfl,_,_,rfl,rfl,_,rfl,?_⟩
  refine C_ (fun h1=>?_) (fun h1=>?_)
  ·rw [h1,Bool.true_and] at q
   exact ⟨_,_,rfl,rfl,q⟩
  ·rw [(Bool.not_eq_true _).mp h1,Bool.false_and] at q
   exact q
noncomputable def Yb:Sp:=fun vs H Q _=>∃ (p:Addr) (l:List Nat),vs=[.ref p]/\H p=some (.lst (nV l))/\l.length<=500/\(∀ n∈l,n<1200)/\∀ H',Am H H'->Q (.int (Wd.mk l:Nat)) H'
theorem Wi (l:List Nat) (n:Nat):Builtin.bitOr ((Wd.mk l:Nat):Int) (1 * 2 ^ ((n:Nat):Int).toNat)=((Wd.mk (l++[n]):Nat):Int):=by
 rw [Int.one_mul,Int.toNat_natCast,P_,Q3,Wd.Rx]
theorem Rw:BP ["numbers","some","number"] ["numbers"] (Ac UG):=⟨rfl,rfl,rfl,by decide +kernel,rfl,by decide +kernel,by decide +kernel⟩
include N T in
theorem W4:BK P w K mg base Bm 3 fSt dSt ["numbers"] Yb:=by
 have GMy:BK P w K mg base Bm 2 fMy dMy ["thing"] Wg:=ZV N T
 refine N.FSt.1.ok Rw (fun vs H Q E h=>?_) (fun cdv A outer s H vs Q E hr h=>?_)
 ·obtain ⟨p,l,rfl,_⟩:=h
  rfl
 ·obtain ⟨p,l,rfl,hp,hz,hb,q⟩:=h
  have hrMy:Be 2 _:=hr.mono (by decide)
  refine ⟨_,(Ae (Bq (PW.pt (Gq (Cw (Cp (Ax CV rfl T.isin PyProof.Rows.boot_isinstance (Aa (pv 0) (Aa (Dk (v:=.ty "list") rfl T.list PyProof.Rows.boot_list rfl) Ab))))) (G8 (Cw (Cp (Ax (GD rfl) rfl T.all PyProof.Rows.boot_all (Aa (Bp rfl (Bf (osc:=Ac UG) (N:=["numbers","some","number"]) rfl rfl (by decide +kernel)) (Bl (pv 0)) (fun _ _ _ _=>CG) (fun _ _ _ _=>(Aj GMy hrMy rfl N.FMy.2.2 N.FMy.1.kp N.FMy.2.1 .nil Az (Aa (pv 0) Ab)))) Ab))))))) (Ag HJ) Bc)
   (Ae (Ba (i:=1) Rw.nd rfl (Or.inl rfl) Ad)
   (Ae (Du PassesOwn.never rfl (Bl (pv 0)) (CK (i:=2) Rw.nd rfl (Or.inl rfl)) (Ag (Ba (i:=1) Rw.nd rfl (Or.inl rfl) (BW Y_ (pv 1) (BW Up Ad (pv 2))))))
   (Ag (Ay (pv 1)))))),?_⟩
  have hS:Cm K H p (nV l):=.inl (.inl hp)
  refine ⟨_,rfl,_,"list",_,_,rfl,.lst hp,TY,_,rfl,Dg ?_⟩
  have hzl:(nV l).length<sizeLine:=Ar (by simp; omega)
  refine ⟨_,rfl,p,rfl,⟨_,hS⟩,CN (K:=K) (xs:=nV l) (fun _=>true) (fun _=>.bl true) hS hzl (fun x hx H' hs R k=>k H' (Am.refl H')) (fun x hx _ H' hs R k=>?_) (fun D H' hD hs hl=>?_)⟩
  ·obtain ⟨n,hn,rfl⟩:=List.mem_map.mp hx
   refine ⟨_,rfl,(n:Int),rfl,?_⟩
   have e:(decide ((0:Int)<=(n:Int)) && decide ((n:Int)<1200))=true:=by
    have:=hb n hn
    simp
    omega
   rw [e]
   exact k H' (Am.refl H')
  ·refine ⟨D,(nV l).map fun _=>true,rfl,.inl (.inl ?_),?_⟩
   ·rw [hl,List.filter_eq_self.mpr (fun _ _=>rfl)]
    simp
   ·have e:((nV l).map fun _=>true).all id=true:=by simp
    rw [e]
    refine ⟨_,rfl,Dg ?_⟩
    refine ⟨_,rfl,p,rfl,⟨_,hs.seq hS⟩,Ek (K:=K) (a:=p) (xs:=nV l) (fun i σ H4=>H4=H'/\∃ v2,σ=[some (.ref p),some (.int (Wd.mk (l.take i):Nat)),v2]) ⟨rfl,_,rfl⟩ (fun i σ H4 _ h=>by rw [h.1]; exact hs.seq hS) ?_ ?_⟩
    ·rintro i y σ H4 hi ⟨rfl,v2,rfl⟩
     rw [List.getElem?_map] at hi
     obtain ⟨n,hn,rfl⟩:=Option.map_eq_some_iff.mp hi
     have hn':=hb n (List.mem_of_getElem? hn)
     refine ⟨_,rfl,_,rfl,_,_,rfl,rfl,⟨by omega,by omega,by decide⟩,_,_,rfl,rfl,?_⟩
     refine ⟨rfl,some (.int (n:Int)),?_⟩
     dsimp only
     rw [Wi,List.take_add_one,hn]
     rfl
    ·rintro σ H4 ⟨rfl,v2,rfl⟩
     have el:l.take (nV l).length=l:=List.take_of_length_le (by simp)
     rw [el]
     exact ⟨_,rfl,q _ hs⟩
noncomputable def dJ (nms:List Str):V->V
 | .str t=>.int (nms.idxOf t:Nat)
 | _=>.non
theorem Ol {nms:List Str} {t:Str} (h:t∈nms):nms[nms.idxOf t]? = some t:=by
 rw [List.getElem?_eq_getElem (List.idxOf_lt_length_of_mem h),List.getElem_idxOf]
noncomputable def XC:Sp:=fun vs H Q _=>∃ (r kd:Addr) (ro:R) (kvs:List (Key × V)) (nms ts:List Str),vs=[.ref r,.ref kd]/\H r=some (.tup ro.v)/\H kd=some (.dK kvs)/\V.str ro.nm::ro.rest=ts.map V.str/\ts.length<=24/\nms.length<=300/\(∀ (i:Nat) t,nms[i]? = some t->CJ kvs (Sum.inr t)=some (.int (i:Nat)))/\(∀ t∈ts,t∈nms)/\∀ H',Am H H'->Q (.int (Wd.mk (ts.map fun t=>nms.idxOf t):Nat)) H'
theorem Z8:BP ["row","knob_numbers"] ["row","knob_numbers"] (Ac Ur):=⟨rfl,rfl,rfl,by decide +kernel,rfl,by decide +kernel,by decide +kernel⟩
include N T in
theorem Yh:BK P w K mg base Bm 4 fSs dSs ["row","knob_numbers"] XC:=by
 have GSt:BK P w K mg base Bm 3 fSt dSt ["numbers"] Yb:=W4 N T
 refine N.FSs.1.ok Z8 (fun vs H Q E h=>?_) (fun cdv A outer s H vs Q E hr h=>?_)
 ·obtain ⟨r,kd,ro,kvs,nms,ts,rfl,_⟩:=h
  rfl
 ·obtain ⟨r,kd,ro,kvs,nms,ts,rfl,hr0,hkd,ets,h24,hnm,hval,hin,q⟩:=h
  have hrSt:Be 3 _:=hr.mono (by decide)
  have hu:=Cz hr
  refine ⟨_,(Ag (Ay (Aj GSt hrSt rfl N.FSt.2.2 N.FSt.1.kp N.FSt.2.1 .nil Az (Aa (Bp rfl (Bf (osc:=Ac Ur) (N:=["row","knob_numbers"]) rfl rfl (by decide +kernel)) (Lz (DG Mg (pv 0) (Dc Ad) Eg)) (fun _ _ _ _=>CG) (fun _ _ _ _=>(BR hu (pv 2) (pv 0) (fun _ _=>rfl)))) Ab)))),?_⟩
  have hv:ro.v=V.str ro.w::ts.map V.str:=by
   show V.str ro.w::(V.str ro.nm::ro.rest)=_
   rw [ets]
  rw [hv] at hr0
  have e1:HT.Di (V.str ro.w::ts.map V.str).length 0 (some 1)=1:=by
   rw [show (some (1:Int))=some ((1:Nat):Int) from rfl,HT.Eu]
   simp
  have hcut:Cv (V.str ro.w::ts.map V.str) (some 1) none=ts.map V.str:=by
   unfold Cv
   rw [e1,HT.Ih]
   simp
   exact List.take_of_length_le (by rw [List.length_map]; exact Nat.le_refl _)
  refine ⟨_,rfl,_,rfl,r,_,rfl,.inl (.inl hr0),?_,fun n0 hn0=>?_⟩
  ·rintro ⟨z,_⟩
   rw [e1] at z
   cases z
  rw [hcut]
  have s1:=Ak (o:=HO.tup (ts.map V.str)) hn0
  have a1:upd H n0 (HO.tup (ts.map V.str)) n0=some (.tup (ts.map V.str)):=Af
  generalize upd H n0 (HO.tup (ts.map V.str))=H1 at s1 a1 ⊢
  have hT:FW K H1 n0 (ts.map V.str):=.inl (.inl a1)
  have ltm:(ts.map V.str).length=ts.length:=List.length_map ..
  refine ⟨n0,rfl,⟨_,hT⟩,Kp (K:=K) (xs:=ts.map V.str) (fun _=>true) (dJ nms) hT (Ar (by omega)) (fun x hx H' hs R k=>k H' (Am.refl H')) (fun x hx _ H' hs R k=>?_) (fun D H2 hD s2 hl2=>?_)⟩
  ·obtain ⟨t,ht,rfl⟩:=List.mem_map.mp hx
   have g:=Bs.k (k:=Sum.inr t) (hs _ _ (s1 _ _ hkd))
   rw [hval _ t (Ol (hin t ht))] at g
   exact ⟨_,rfl,_,rfl,kd,_,rfl,g,k H' (Am.refl H')⟩
  ·rw [List.filter_eq_self.mpr (fun _ _=>rfl),List.map_map] at hl2
   have e2:ts.map (dJ nms ∘ V.str)=nV (ts.map fun t=>nms.idxOf t):=by
    unfold nV
    rw [List.map_map]
    rfl
   rw [e2] at hl2
   refine ⟨D,_,rfl,hl2,by rw [List.length_map]; omega,fun n hn=>?_,fun H3 s3=>q H3 (s1.trans (s2.trans s3))⟩
   obtain ⟨t,ht,rfl⟩:=List.mem_map.mp hn
   have:=List.idxOf_lt_length_of_mem (hin t ht)
   omega
noncomputable abbrev Q6:List Str:=["row_list","board_list","rank_list","knob_rows","board_numbers","rank_numbers","knob_numbers","key_places","pipe_places","knob_lines","step_sets"]
theorem Do:∀ m∈meths,∀ f∈Q6,¬ m=f:=by decide +kernel
theorem Nx {rk:List (Str × Nat × Int)} {ρ:V->R} {us:List V} {P1:Nat->V->Prop} (h:∀ (i:Nat) v,us[i]? = some v->(ρ v).w = "line"->P1 i v/\∃ u∈us.take i,Gk (ρ u).w=true):(linesOf rk (us.map ρ)).length=(us.filter (fun v=>Gk (ρ v).w)).length:=by
 have key:∀ n,n<=us.length->(linesOf rk ((us.take n).map ρ)).length=((us.take n).filter (fun v=>Gk (ρ v).w)).length:=by
  intro n
  induction n with
  | zero=>intro _; rfl
  | succ n ih =>
   intro hn
   have hx:=List.getElem?_eq_getElem (l:=us) (i:=n) (by omega)
   rw [List.take_add_one,hx,List.map_append]
   show (linesOf rk ((us.take n).map ρ++[ρ us[n]])).length=((us.take n++[us[n]]).filter _).length
   rw [CW,List.filter_append,List.length_append,← ih (by omega)]
   unfold DN
   by_cases hk:Gk (ρ us[n]).w=true
   ·rw [if_pos hk,List.filter_cons,if_pos hk]
    simp
   ·rw [if_neg hk,List.filter_cons,if_neg hk]
    by_cases hl:(ρ us[n]).w = "line"
    ·rw [if_pos hl]
     obtain ⟨_,u,hu,hku⟩:=h n _ hx hl
     obtain ⟨a,z,e⟩:=Es (Kh (rk:=rk) ⟨ρ u,List.mem_map_of_mem hu,hku⟩)
     rw [e,Gb]
     simp
    ·rw [if_neg hl]
     simp
 have:=key us.length (Nat.le_refl _)
 rw [List.take_length] at this
 exact this
noncomputable def ZX (K:PySem.W.Frag) (aB aP aM C:Addr):Sp:=fun vs H Q _=>∃ (x dx p:Addr) (us:List V) (ρ:V->R) (bs:List (Str × Nat)) (rk:List (Str × Nat × Int)) (ks:List R),vs=[.ref x,.ref p]/\H x=some (.ins C dx [])/\H p=some (.lst us)/\Rows H ρ us/\bH K aB aP aM ρ us bs rk ks/\∀ H',J2 C H' x us bs rk ks (linesOf rk (us.map ρ)) ((us.filter (pw ρ "step")).map fun v=>stN ks (ρ v))->(∀ H'',SX p H' H''->J2 C H'' x us bs rk ks (linesOf rk (us.map ρ)) ((us.filter (pw ρ "step")).map fun v=>stN ks (ρ v)))->SX x H H'->Q .non H'
theorem Z5:BP ["self","rows"] ["self","rows"] (Ac N7):=⟨rfl,rfl,rfl,by decide +kernel,rfl,by decide +kernel,by decide +kernel⟩
include N T in
theorem We:BK P w K mg base Bm 9 fOi dOi ["self","rows"] (ZX K aB aP aM C):=by
 have GCk:BK P w K mg base Bm 8 fCk dCk ["rows"] (X8 K aB aP aM):=YM N T
 have GRo:BK P w K mg base Bm 1 fRo dRo ["rows","word"] N8:=K1 N T
 have GNu:BK P w K mg base Bm 1 fNu dNu ["names"] Xf:=Yj N T
 have GPl:BK P w K mg base Bm 1 fPl dPl ["things"] XQ:=W2 N T
 have GLi:BK P w K mg base Bm 1 fLi dLi ["rows","rank_numbers"] Wb:=Xn N T
 have GSs:BK P w K mg base Bm 4 fSs dSs ["row","knob_numbers"] XC:=Yh N T
 refine N.FOi.1.ok Z5 (fun vs H Q E h=>?_) (fun cdv A outer s H vs Q E hr h=>?_)
 ·obtain ⟨x,dx,p,us,ρ,bs,rk,ks,rfl,_⟩:=h
  rfl
 ·obtain ⟨x,dx,p,us,ρ,bs,rk,ks,rfl,hx,hp,hR,O,q⟩:=h
  have hrCk:Be 8 _:=hr.mono (by decide)
  have hrRo:Be 1 _:=hr.mono (by decide)
  have hrNu:Be 1 _:=hr.mono (by decide)
  have hrPl:Be 1 _:=hr.mono (by decide)
  have hrLi:Be 1 _:=hr.mono (by decide)
  have hrSs:Be 4 _:=hr.mono (by decide)
  refine ⟨_,(Ae (Ci (Aj GCk hrCk rfl N.FCk.2.2 N.FCk.1.kp N.FCk.2.1 .nil Az (Aa (pv 1) Ab)))
   (Ae (Eo (pv 0) (Gd G_ rfl T.list PyProof.Rows.boot_list (Aa (pv 1) Ab)) rfl)
   (Ae (Eo (pv 0) (Bp rfl (Bf (osc:=Ac N7) (N:=["self","rows"]) rfl rfl (by decide +kernel)) (Bl (Aj GRo hrRo rfl N.FRo.2.2 N.FRo.1.kp N.FRo.2.1 .nil Az (Aa (pv 1) (Aa Ao Ab)))) (fun _ _ _ _=>CG) (fun _ _ _ _=>(Cd (Aa (BV (A_ (K:=K) rfl) (pv 0) Ad (fun _ _=>rfl)) (Aa (BV (A_ (K:=K) rfl) (pv 0) Ad (fun _ _=>rfl)) Ab))))) rfl)
   (Ae (Eo (pv 0) (Bp rfl (Bf (osc:=Ac N7) (N:=["self","rows"]) rfl rfl (by decide +kernel)) (Bl (Aj GRo hrRo rfl N.FRo.2.2 N.FRo.1.kp N.FRo.2.1 .nil Az (Aa (pv 1) (Aa Ao Ab)))) (fun _ _ _ _=>CG) (fun _ _ _ _=>(Cd (Aa (BV (A_ (K:=K) rfl) (pv 0) Ad (fun _ _=>rfl)) (Aa (BV (A_ (K:=K) rfl) (pv 0) Ad (fun _ _=>rfl)) (Aa (BV (A_ (K:=K) rfl) (pv 0) Ad (fun _ _=>rfl)) Ab)))))) rfl)
   (Ae (Eo (pv 0) (Bp rfl (Bf (osc:=Ac N7) (N:=["self","rows"]) rfl rfl (by decide +kernel)) (Bl (pv 1)) (fun _ _ _ _=>(J9 (Bb (Ip (K:=K) rfl) (BV (A_ (K:=K) rfl) (pv 0) Ad (fun _ _=>rfl)) (Cj (v:=.ref aK) rfl T.mK rfl) rfl))) (fun _ _ _ _=>(pv 0))) rfl)
   (Ae (Eo (pv 0) (Aj GNu hrNu rfl N.FNu.2.2 N.FNu.1.kp N.FNu.2.1 .nil Az (Aa (Bp rfl (Bf (osc:=Ac N7) (N:=["self","rows"]) rfl rfl (by decide +kernel)) (Bl (De (pv 0) rfl)) (fun _ _ _ _=>CG) (fun _ _ _ _=>(BV (A_ (K:=K) rfl) (pv 0) Ad (fun _ _=>rfl)))) Ab)) rfl)
   (Ae (Eo (pv 0) (Aj GNu hrNu rfl N.FNu.2.2 N.FNu.1.kp N.FNu.2.1 .nil Az (Aa (Bp rfl (Bf (osc:=Ac N7) (N:=["self","rows"]) rfl rfl (by decide +kernel)) (Bl (De (pv 0) rfl)) (fun _ _ _ _=>CG) (fun _ _ _ _=>(BV (A_ (K:=K) rfl) (pv 0) Ad (fun _ _=>rfl)))) Ab)) rfl)
   (Ae (Eo (pv 0) (Aj GNu hrNu rfl N.FNu.2.2 N.FNu.1.kp N.FNu.2.1 .nil Az (Aa (Bp rfl (Bf (osc:=Ac N7) (N:=["self","rows"]) rfl rfl (by decide +kernel)) (Bl (De (pv 0) rfl)) (fun _ _ _ _=>CG) (fun _ _ _ _=>(BV (A_ (K:=K) rfl) (pv 0) Ad (fun _ _=>rfl)))) Ab)) rfl)
   (Ae (Eo (pv 0) (Aj GPl hrPl rfl N.FPl.2.2 N.FPl.1.kp N.FPl.2.1 .nil Az (Aa (De (pv 0) rfl) Ab)) rfl)
   (Ae (Eo (pv 0) (Aj GPl hrPl rfl N.FPl.2.2 N.FPl.1.kp N.FPl.2.1 .nil Az (Aa (De (pv 0) rfl) Ab)) rfl)
   (Ae (Eo (pv 0) (Aj GLi hrLi rfl N.FLi.2.2 N.FLi.1.kp N.FLi.2.1 .nil Az (Aa (pv 1) (Aa (De (pv 0) rfl) Ab))) rfl)
   (Ag (Eo (pv 0) (Bp rfl (Bf (osc:=Ac N7) (N:=["self","rows"]) rfl rfl (by decide +kernel)) (Bl (Aj GRo hrRo rfl N.FRo.2.2 N.FRo.1.kp N.FRo.2.1 .nil Az (Aa (pv 1) (Aa Ao Ab)))) (fun _ _ _ _=>CG) (fun _ _ _ _=>(Aj GSs hrSs rfl N.FSs.2.2 N.FSs.1.kp N.FSs.2.1 .nil Az (Aa (pv 0) (Aa (Qz (K:=K) rfl (pv 1) rfl) Ab))))) rfl))))))))))))),?_⟩
  have hlen:=O.len
  obtain ⟨ur,hur⟩:∃ ur,us.filter (pw ρ "rank")=ur:=⟨_,rfl⟩
  have er:ur.map ρ=rk.map Fz:=by rw [← hur]; exact O.er
  have lr:ur.length=rk.length:=by have:=congrArg List.length er; simpa using this
  have inR:∀ {v},v∈ur->v∈us:=fun {v} hv=>by rw [← hur] at hv; exact (List.mem_filter.mp hv).1
  have ofR:∀ {v},v∈ur->∃ b∈rk,ρ v=Fz b:=fun {v} hv=>by
   have:ρ v∈rk.map Fz:=by rw [← er]; exact List.mem_map_of_mem hv
   obtain ⟨b,hb,e⟩:=List.mem_map.mp this
   exact ⟨b,hb,e.symm⟩
  obtain ⟨ub,hub⟩:∃ ub,us.filter (pw ρ "board")=ub:=⟨_,rfl⟩
  obtain ⟨uk,huk⟩:∃ uk,us.filter (fun v=>Gk (ρ v).w)=uk:=⟨_,rfl⟩
  have eb:ub.map ρ=bs.map Ft:=by rw [← hub]; exact O.eb
  have ek:uk.map ρ=ks:=by rw [← huk]; exact O.ek
  have lb:ub.length=bs.length:=by have:=congrArg List.length eb; simpa using this
  have lku:uk.length=ks.length:=by have:=congrArg List.length ek; simpa using this
  have inB:∀ {v},v∈ub->v∈us:=fun {v} hv=>by rw [← hub] at hv; exact (List.mem_filter.mp hv).1
  have inKn:∀ {v},v∈uk->v∈us:=fun {v} hv=>by rw [← huk] at hv; exact (List.mem_filter.mp hv).1
  have ofB:∀ {v},v∈ub->∃ b∈bs,ρ v=Ft b:=fun {v} hv=>by
   have:ρ v∈bs.map Ft:=by rw [← eb]; exact List.mem_map_of_mem hv
   obtain ⟨b,hb,e⟩:=List.mem_map.mp this
   exact ⟨b,hb,e.symm⟩
  have l1us:1<=us.length:=by
   have h1:=O.b0
   have h2:ub.length<=us.length:=by rw [← hub]; exact List.length_filter_le _ _
   omega
  refine ⟨_,rfl,p,us,ρ,rfl,hp,hR,l1us,by omega,O.ok,?_,fun H1 s1=>?_⟩
  ·rw [hub]
   cases ub with
   | nil =>
    have:=O.b0
    simp at lb
    omega
   | cons a b=>rfl
  have c1:SX x H H1:=SX.of s1
  have x1:=s1 _ _ hx
  refine ⟨_,rfl,p,_,rfl,.inl (.inl (.inl (s1 _ _ hp))),fun l1 hl1=>?_⟩
  have nl1:l1 ≠ p:=Ne.symm (Aq (s1 _ _ hp) hl1)
  have s2:=Ak (o:=HO.lst us) hl1
  have rw2:upd H1 l1 (HO.lst us) l1=some (.lst us):=Af
  generalize upd H1 l1 (HO.lst us)=H2 at s2 rw2 ⊢
  refine ⟨_,rfl,x,C,dx,_,rfl,s2 _ _ x1,T.cl,T.n_row_list,(by show 0<1000; decide),?_⟩
  have c2:SX x H _:=(c1.trans (SX.of s2)).trans (SX.up (o:=HO.ins C dx (Bh "row_list" (.ref l1) [])))
  have x2:upd H2 x (HO.ins C dx (Bh "row_list" (.ref l1) [])) x=_:=Af
  have rw3:=(SX.up (o:=HO.ins C dx (Bh "row_list" (.ref l1) [])):SX x H2 _).lst (s2 _ _ x1) rw2
  generalize upd H2 x (HO.ins C dx (Bh "row_list" (.ref l1) []))=H3 at c2 x2 rw3 ⊢
  have c0:=c2
  replace hR:Rows H3 ρ us:=fun v hv=>c2.tup hx (hR v hv)
  replace hp:=c2.lst hx hp
  clear c2
  replace hx:=x2
  have c2:SX x H3 H3:=SX.of (Am.refl _)
  have R3:Rows H3 ρ us:=fun v hv=>c2.tup hx (hR v hv)
  refine ⟨_,rfl,p,_,"board",ρ,rfl,c2.lst hx hp,R3,by omega,fun D4 H4 hD4 s4 hl4=>?_⟩
  rw [hub] at hl4
  have hS4:Cm K H4 D4 ub:=.inl (.inl hl4)
  refine ⟨D4,rfl,⟨_,hS4⟩,KR (K:=K) (xs:=ub) (fun _=>true) (fun v=>[.str (ρ v).nm,(ρ v).rest.getD 0 .non]) hS4 (Ar (by have:=O.b5; omega)) (fun y hy H' hs R k=>k H' (Am.refl H')) (fun y hy _ H' hs R k=>?_) (fun D5 H5 bvs hD5 s5 hl5 hb5=>?_)⟩
  ·obtain ⟨b,_,e⟩:=ofB hy
   have hT:=(R3 y (inB hy)).mono (s4.trans hs)
   rw [e] at hT k
   obtain ⟨T0,rfl,hT⟩:=hT
   exact ⟨_,rfl,T0,_,_,_,rfl,rfl,.inl (.inl hT),Al (j:=1) rfl,_,rfl,T0,_,_,_,rfl,rfl,.inl (.inl hT),Al (j:=2) rfl,by show 2<=sizeLine; decide,fun T6 hT6=>k _ _ (Ak hT6) ⟨T6,rfl,Af⟩⟩
  rw [List.filter_eq_self.mpr (fun _ _=>rfl)] at hb5
  have hb5':Paired (fun b y=>TupAt H5 (bV b) y) bs bvs:=by
   have h1:=Ce (F:=fun (r:R) y=>TupAt H5 [.str r.nm,r.rest.getD 0 .non] y) ρ hb5
   rw [eb] at h1
   exact Ey Ft h1
  clear hb5
  refine ⟨_,rfl,x,C,dx,_,rfl,s5 _ _ (s4 _ _ x2),T.cl,T.n_board_list,Nat.lt_of_le_of_lt (Br _ _ _) (by show 1<1000; decide),?_⟩
  have u6:SX x H5 _:=SX.up (o:=HO.ins C dx (Bh "board_list" (.ref D5) (Bh "row_list" (.ref l1) [])))
  have x5:=s5 _ _ (s4 _ _ x2)
  have c6:=(c2.trans (SX.of (s4.trans s5))).trans u6
  have x6:upd H5 x (HO.ins C dx (Bh "board_list" (.ref D5) (Bh "row_list" (.ref l1) []))) x=_:=Af
  have hl6:=u6.lst x5 hl5
  have hb6:=u6.pair x5 hb5'
  generalize upd H5 x (HO.ins C dx (Bh "board_list" (.ref D5) (Bh "row_list" (.ref l1) [])))=H6 at c6 x6 hl6 hb6 ⊢
  clear u6
  have R6:Rows H6 ρ us:=fun v hv=>c6.tup hx (hR v hv)
  refine ⟨_,rfl,p,_,"rank",ρ,rfl,c6.lst hx hp,R6,by omega,fun D7 H7 hD7 s7 hl7=>?_⟩
  rw [hur] at hl7
  have hS7:Cm K H7 D7 ur:=.inl (.inl hl7)
  refine ⟨D7,rfl,⟨_,hS7⟩,KR (K:=K) (xs:=ur) (fun _=>true) (fun v=>[.str (ρ v).nm,(ρ v).rest.getD 0 .non,(ρ v).rest.getD 1 .non]) hS7 (Ar (by have:=O.nr; omega)) (fun y hy H' hs R k=>k H' (Am.refl H')) (fun y hy _ H' hs R k=>?_) (fun D8 H8 rvs hD8 s8 hl8 hr8=>?_)⟩
  ·obtain ⟨b,_,e⟩:=ofR hy
   have hT:=(R6 y (inR hy)).mono (s7.trans hs)
   rw [e] at hT k
   obtain ⟨T0,rfl,hT⟩:=hT
   exact ⟨_,rfl,T0,_,_,_,rfl,rfl,.inl (.inl hT),Al (j:=1) rfl,_,rfl,T0,_,_,_,rfl,rfl,.inl (.inl hT),Al (j:=2) rfl,_,rfl,T0,_,_,_,rfl,rfl,.inl (.inl hT),Al (j:=3) rfl,by show 3<=sizeLine; decide,fun T6 hT6=>k _ _ (Ak hT6) ⟨T6,rfl,Af⟩⟩
  rw [List.filter_eq_self.mpr (fun _ _=>rfl)] at hr8
  have hr8':Paired (fun (a:Th) y=>TupAt H8 (tV a) y) (rk.map S5) rvs:=by
   have h1:=Ce (F:=fun (r:R) y=>TupAt H8 [.str r.nm,r.rest.getD 0 .non,r.rest.getD 1 .non] y) ρ hr8
   rw [er] at h1
   exact Ce (F:=fun (a:Th) y=>TupAt H8 (tV a) y) S5 (Ey Fz h1)
  clear hr8
  refine ⟨_,rfl,x,C,dx,_,rfl,s8 _ _ (s7 _ _ x6),T.cl,T.n_rank_list,Nat.lt_of_le_of_lt (Nat.le_trans (Br _ _ _) (Nat.succ_le_succ (Br _ _ _))) (by show 2<1000; decide),?_⟩
  have s68:=s7.trans s8
  have x8:=s68 _ _ x6
  have c8:=c6.trans (SX.of s68)
  have hl8b:=s68 _ _ hl6
  have hb8:=Ah s68 hb6
  have u9:SX x H8 _:=SX.up (o:=HO.ins C dx (Bh "rank_list" (.ref D8) (Bh "board_list" (.ref D5) (Bh "row_list" (.ref l1) []))))
  have x9:upd H8 x (HO.ins C dx (Bh "rank_list" (.ref D8) (Bh "board_list" (.ref D5) (Bh "row_list" (.ref l1) [])))) x=_:=Af
  have c9:=c8.trans u9
  have bl9:=u9.lst x8 hl8b
  have bp9:=u9.pair x8 hb8
  have rl9:=u9.lst x8 hl8
  have rp9:=u9.pair x8 hr8'
  generalize hf9:Bh "rank_list" (.ref D8) (Bh "board_list" (.ref D5) (Bh "row_list" (.ref l1) []))=f9 at x9 c9 bl9 bp9 rl9 rp9 u9 ⊢
  generalize upd H8 x (HO.ins C dx f9)=H9 at x9 c9 bl9 bp9 rl9 rp9 ⊢
  have n9:f9.length<=3:=by rw [← hf9]; exact Nat.le_trans (Br _ _ _) (Nat.succ_le_succ (Nat.le_trans (Br _ _ _) (Nat.succ_le_succ (Br _ _ _))))
  have lb9:f9.lookup ("board_list" : Str)=some (.ref D5):=by rw [← hf9,Ai,if_neg (by decide +kernel),Ai,if_pos rfl]
  have lw9:f9.lookup ("row_list" : Str)=some (.ref l1):=by rw [← hf9,Ai,if_neg (by decide +kernel),Ai,if_neg (by decide +kernel),Ai,if_pos rfl]
  have lr9:f9.lookup ("rank_list" : Str)=some (.ref D8):=by rw [← hf9,Ai,if_pos rfl]
  have no9:∀ m∈meths,f9.lookup m=none:=fun m hm=>by
   rw [← hf9,Ai,if_neg (Do m hm _ (by decide +kernel)),Ai,if_neg (Do m hm _ (by decide +kernel)),Ai,if_neg (Do m hm _ (by decide +kernel))]
   rfl
  clear u9 hf9
  have R9:Rows H9 ρ us:=fun v hv=>c9.tup hx (hR v hv)
  have hS9:Cm K H9 p us:=.inl (.inl (c9.lst hx hp))
  refine ⟨_,rfl,p,rfl,⟨_,hS9⟩,CN (K:=K) (xs:=us) (fun v=>Gk (ρ v).w) id hS9 (Ar (by omega)) (fun y hy H' hs R k=>?_) (fun y hy _ H' hs R k=>⟨_,rfl,k H' (Am.refl H')⟩) (fun D10 H10 hD10 s10 hl10=>?_)⟩
  ·obtain ⟨T0,rfl,hT⟩:=(R9.mono hs) y hy
   exact ⟨_,rfl,T0,_,_,_,rfl,rfl,.inl (.inl hT),Al (j:=0) rfl,aK,_,rfl,.inr (T.tK.sq _),rfl,rfl,_,rfl,k H' (Am.refl H')⟩
  rw [List.map_id,huk] at hl10
  refine ⟨_,rfl,x,C,dx,_,rfl,s10 _ _ x9,T.cl,T.n_knob_rows,by omega,?_⟩
  have x10:=s10 _ _ x9
  have u11:SX x H10 _:=SX.up (o:=HO.ins C dx (Bh "knob_rows" (.ref D10) f9))
  have x11:upd H10 x (HO.ins C dx (Bh "knob_rows" (.ref D10) f9)) x=_:=Af
  have c11:=(c9.trans (SX.of s10)).trans u11
  have bl11:=u11.lst x10 (s10 _ _ bl9)
  have bp11:=u11.pair x10 (Ah s10 bp9)
  have rl11:=u11.lst x10 (s10 _ _ rl9)
  have rp11:=u11.pair x10 (Ah s10 rp9)
  have kr11:=u11.lst x10 hl10
  generalize upd H10 x (HO.ins C dx (Bh "knob_rows" (.ref D10) f9))=H11 at x11 c11 bl11 bp11 rl11 rp11 kr11 ⊢
  clear u11
  have hul:=bp11.length
  have hS11:Cm K H11 D5 bvs:=.inl (.inl bl11)
  refine ⟨_,rfl,x,C,dx,_,_,rfl,x11,T.cl,T.n_board_list,(by rw [Ai,if_neg (by decide +kernel)]; exact lb9),D5,rfl,⟨_,hS11⟩,CN (K:=K) (xs:=bvs) (fun _=>true) (HB H11 0) hS11 (Ar (by have:=O.b5; omega)) (fun y hy H' hs R k=>k H' (Am.refl H')) (fun y hy _ H' hs R k=>?_) (fun D12 H12 hD12 s12 hl12=>?_)⟩
  ·obtain ⟨b,_,hx'⟩:=Bw bp11 hy
   have e:=DY hx' 0
   obtain ⟨T0,rfl,hT⟩:=hx'.mono hs
   refine ⟨_,rfl,T0,_,_,_,rfl,rfl,.inl (.inl hT),Al (j:=0) rfl,?_⟩
   have:=k H' (Am.refl H')
   rw [e] at this
   exact this
  rw [List.filter_eq_self.mpr (fun _ _=>rfl),Eb 0 bp11] at hl12
  have e12:(bs.map fun b=>(bV b).getD 0 V.non)=(bs.map (·.1)).map V.str:=by
   rw [List.map_map]
   rfl
  rw [e12] at hl12
  refine ⟨D12,_,rfl,hl12,by rw [List.length_map]; have:=O.b5; omega,O.nb,fun D13 kvs H13 hD13 s13 hl13 hv13 hw13=>?_⟩
  have s1113:=s12.trans s13
  have x13:=s1113 _ _ x11
  refine ⟨_,rfl,x,C,dx,_,rfl,x13,T.cl,T.n_board_numbers,Nat.lt_of_le_of_lt (Br _ _ _) (by omega),?_⟩
  have u14:SX x H13 _:=SX.up (o:=HO.ins C dx (Bh "board_numbers" (.ref D13) (Bh "knob_rows" (.ref D10) f9)))
  have x14:upd H13 x (HO.ins C dx (Bh "board_numbers" (.ref D13) (Bh "knob_rows" (.ref D10) f9))) x=_:=Af
  have c14:=(c11.trans (SX.of s1113)).trans u14
  have bl14:=u14.lst x13 (s1113 _ _ bl11)
  have bp14:=u14.pair x13 (Ah s1113 bp11)
  have rl14:=u14.lst x13 (s1113 _ _ rl11)
  have rp14:=u14.pair x13 (Ah s1113 rp11)
  have kr14:=u14.lst x13 (s1113 _ _ kr11)
  have bn14:=u14.dk x13 hl13
  generalize upd H13 x (HO.ins C dx (Bh "board_numbers" (.ref D13) (Bh "knob_rows" (.ref D10) f9)))=H14 at x14 c14 bl14 bp14 rl14 rp14 kr14 bn14 ⊢
  clear u14
  have hrl:=rp14.length
  rw [List.length_map] at hrl
  have hS14:Cm K H14 D8 rvs:=.inl (.inl rl14)
  refine ⟨_,rfl,x,C,dx,_,_,rfl,x14,T.cl,T.n_rank_list,(by rw [Ai,if_neg (by decide +kernel),Ai,if_neg (by decide +kernel)]; exact lr9),D8,rfl,⟨_,hS14⟩,CN (K:=K) (xs:=rvs) (fun _=>true) (HB H14 0) hS14 (Ar (by have:=O.nr; omega)) (fun y hy H' hs R k=>k H' (Am.refl H')) (fun y hy _ H' hs R k=>?_) (fun D15 H15 hD15 s15 hl15=>?_)⟩
  ·obtain ⟨b,_,hx'⟩:=Bw rp14 hy
   have e:=DY hx' 0
   obtain ⟨T0,rfl,hT⟩:=hx'.mono hs
   refine ⟨_,rfl,T0,_,_,_,rfl,rfl,.inl (.inl hT),Al (j:=0) rfl,?_⟩
   have:=k H' (Am.refl H')
   rw [e] at this
   exact this
  rw [List.filter_eq_self.mpr (fun _ _=>rfl),Eb 0 rp14] at hl15
  have e15:((rk.map S5).map fun b=>(tV b).getD 0 V.non)=(rk.map (·.1)).map V.str:=by
   rw [List.map_map,List.map_map]
   rfl
  rw [e15] at hl15
  refine ⟨D15,_,rfl,hl15,by rw [List.length_map]; have:=O.nr; omega,O.nrr,fun D16 kvs16 H16 hD16 s16 hl16 hv16 hw16=>?_⟩
  have s1416:=s15.trans s16
  have x16:=s1416 _ _ x14
  refine ⟨_,rfl,x,C,dx,_,rfl,x16,T.cl,T.n_rank_numbers,Nat.lt_of_le_of_lt (Nat.le_trans (Br _ _ _) (Nat.succ_le_succ (Br _ _ _))) (by omega),?_⟩
  have u17:SX x H16 _:=SX.up (o:=HO.ins C dx (Bh "rank_numbers" (.ref D16) (Bh "board_numbers" (.ref D13) (Bh "knob_rows" (.ref D10) f9))))
  have x17:upd H16 x (HO.ins C dx (Bh "rank_numbers" (.ref D16) (Bh "board_numbers" (.ref D13) (Bh "knob_rows" (.ref D10) f9)))) x=_:=Af
  have c17:=(c14.trans (SX.of s1416)).trans u17
  have bl17:=u17.lst x16 (s1416 _ _ bl14)
  have bp17:=u17.pair x16 (Ah s1416 bp14)
  have rl17:=u17.lst x16 (s1416 _ _ rl14)
  have rp17:=u17.pair x16 (Ah s1416 rp14)
  have kr17:=u17.lst x16 (s1416 _ _ kr14)
  have bn17:=u17.dk x16 (s1416 _ _ bn14)
  have rn17:=u17.dk x16 hl16
  generalize hf17:Bh "rank_numbers" (.ref D16) (Bh "board_numbers" (.ref D13) (Bh "knob_rows" (.ref D10) f9))=f17 at x17 c17 bl17 bp17 rl17 rp17 kr17 bn17 rn17 u17 ⊢
  generalize upd H16 x (HO.ins C dx f17)=H17 at x17 c17 bl17 bp17 rl17 rp17 kr17 bn17 rn17 ⊢
  have n17:f17.length<=6:=by rw [← hf17]; exact Nat.le_trans (Br _ _ _) (Nat.succ_le_succ (Nat.le_trans (Br _ _ _) (Nat.succ_le_succ (Nat.le_trans (Br _ _ _) (Nat.succ_le_succ n9)))))
  have lb17:f17.lookup ("board_list" : Str)=some (.ref D5):=by rw [← hf17,Ai,if_neg (by decide +kernel),Ai,if_neg (by decide +kernel),Ai,if_neg (by decide +kernel)]; exact lb9
  have lw17:f17.lookup ("row_list" : Str)=some (.ref l1):=by rw [← hf17,Ai,if_neg (by decide +kernel),Ai,if_neg (by decide +kernel),Ai,if_neg (by decide +kernel)]; exact lw9
  have lr17:f17.lookup ("rank_list" : Str)=some (.ref D8):=by rw [← hf17,Ai,if_neg (by decide +kernel),Ai,if_neg (by decide +kernel),Ai,if_neg (by decide +kernel)]; exact lr9
  have lrn17:f17.lookup ("rank_numbers" : Str)=some (.ref D16):=by rw [← hf17,Ai,if_pos rfl]
  have lbn17:f17.lookup ("board_numbers" : Str)=some (.ref D13):=by rw [← hf17,Ai,if_neg (by decide +kernel),Ai,if_pos rfl]
  have lkr17:f17.lookup ("knob_rows" : Str)=some (.ref D10):=by rw [← hf17,Ai,if_neg (by decide +kernel),Ai,if_neg (by decide +kernel),Ai,if_pos rfl]
  have no17:∀ m∈meths,f17.lookup m=none:=fun m hm=>by
   rw [← hf17,Ai,if_neg (Do m hm _ (by decide +kernel)),Ai,if_neg (Do m hm _ (by decide +kernel)),Ai,if_neg (Do m hm _ (by decide +kernel))]
   exact no9 m hm
  clear u17 hf17
  have hS17:Cm K H17 D10 uk:=.inl (.inl kr17)
  have R17:Rows H17 ρ us:=fun v hv=>c17.tup hx (hR v hv)
  refine ⟨_,rfl,x,C,dx,_,_,rfl,x17,T.cl,T.n_knob_rows,lkr17,D10,rfl,⟨_,hS17⟩,CN (K:=K) (xs:=uk) (fun _=>true) (fun v=>.str (ρ v).nm) hS17 (Ar (by have:=O.nk; omega)) (fun y hy H' hs R k=>k H' (Am.refl H')) (fun y hy _ H' hs R k=>?_) (fun D18 H18 hD18 s18 hl18=>?_)⟩
  ·obtain ⟨T0,rfl,hT⟩:=(R17.mono hs) y (inKn hy)
   exact ⟨_,rfl,T0,_,_,_,rfl,rfl,.inl (.inl hT),Al (j:=1) rfl,k H' (Am.refl H')⟩
  rw [List.filter_eq_self.mpr (fun _ _=>rfl)] at hl18
  have e18:(uk.map fun v=>V.str (ρ v).nm)=(ks.map (·.nm)).map V.str:=by
   rw [← ek,List.map_map,List.map_map]
   rfl
  rw [e18] at hl18
  refine ⟨D18,_,rfl,hl18,by rw [List.length_map]; have:=O.nk; omega,O.nn,fun D19 kvs19 H19 hD19 s19 hl19 hv19 hw19=>?_⟩
  have s1719:=s18.trans s19
  have x19:=s1719 _ _ x17
  refine ⟨_,rfl,x,C,dx,_,rfl,x19,T.cl,T.n_knob_numbers,by omega,?_⟩
  have u20:SX x H19 _:=SX.up (o:=HO.ins C dx (Bh "knob_numbers" (.ref D19) f17))
  have x20:upd H19 x (HO.ins C dx (Bh "knob_numbers" (.ref D19) f17)) x=_:=Af
  have c20:=(c17.trans (SX.of s1719)).trans u20
  have bl20:=u20.lst x19 (s1719 _ _ bl17)
  have bp20:=u20.pair x19 (Ah s1719 bp17)
  have rl20:=u20.lst x19 (s1719 _ _ rl17)
  have rp20:=u20.pair x19 (Ah s1719 rp17)
  have kr20:=u20.lst x19 (s1719 _ _ kr17)
  have kn20:=u20.dk x19 hl19
  have bn20:=u20.dk x19 (s1719 _ _ bn17)
  have rn20:=u20.dk x19 (s1719 _ _ rn17)
  generalize upd H19 x (HO.ins C dx (Bh "knob_numbers" (.ref D19) f17))=H20 at x20 c20 bl20 bp20 rl20 rp20 kr20 bn20 rn20 kn20 ⊢
  clear u20
  refine ⟨_,rfl,x,C,dx,_,_,rfl,x20,T.cl,T.n_board_list,(by rw [Ai,if_neg (by decide +kernel)]; exact lb17),D5,bs.map WN,bvs,rfl,bl20,Ce (F:=fun (a:Th) y=>TupAt H20 (tV a) y) WN bp20,(by rw [List.length_map]; have:=O.b5; omega),(fun a ha=>by obtain ⟨b,hb,rfl⟩:=List.mem_map.mp ha; have:=O.sz b hb; show b.2<=97; omega),fun D21 pvs H21 hD21 s21 hl21 hp21=>?_⟩
  have e21:(bs.map WN).map tN=bs:=by
   rw [List.map_map]
   exact List.map_id bs
  rw [e21] at hp21
  have x21:=s21 _ _ x20
  refine ⟨_,rfl,x,C,dx,_,rfl,x21,T.cl,T.n_key_places,Nat.lt_of_le_of_lt (Br _ _ _) (by omega),?_⟩
  have u22:SX x H21 _:=SX.up (o:=HO.ins C dx (Bh "key_places" (.ref D21) (Bh "knob_numbers" (.ref D19) f17)))
  have x22:upd H21 x (HO.ins C dx (Bh "key_places" (.ref D21) (Bh "knob_numbers" (.ref D19) f17))) x=_:=Af
  have c22:=(c20.trans (SX.of s21)).trans u22
  have bl22:=u22.lst x21 (s21 _ _ bl20)
  have bp22:=u22.pair x21 (Ah s21 bp20)
  have rl22:=u22.lst x21 (s21 _ _ rl20)
  have rp22:=u22.pair x21 (Ah s21 rp20)
  have kr22:=u22.lst x21 (s21 _ _ kr20)
  have kn22:=u22.dk x21 (s21 _ _ kn20)
  have bn22:=u22.dk x21 (s21 _ _ bn20)
  have rn22:=u22.dk x21 (s21 _ _ rn20)
  have kp22:=u22.lst x21 hl21
  have kq22:=u22.pair x21 hp21
  generalize upd H21 x (HO.ins C dx (Bh "key_places" (.ref D21) (Bh "knob_numbers" (.ref D19) f17)))=H22 at x22 c22 bl22 bp22 rl22 rp22 kr22 bn22 rn22 kp22 kq22 kn22 ⊢
  clear u22
  refine ⟨_,rfl,x,C,dx,_,_,rfl,x22,T.cl,T.n_rank_list,(by rw [Ai,if_neg (by decide +kernel),Ai,if_neg (by decide +kernel)]; exact lr17),D8,rk.map S5,rvs,rfl,rl22,rp22,(by rw [List.length_map]; exact O.nr),(fun a ha=>by obtain ⟨r,hr,rfl⟩:=List.mem_map.mp ha; exact O.nz r hr),fun D23 qvs H23 hD23 s23 hl23 hp23=>?_⟩
  have e23:(rk.map S5).map tN=rk.map Vd:=by
   rw [List.map_map]
   rfl
  rw [e23] at hp23
  have x23:=s23 _ _ x22
  refine ⟨_,rfl,x,C,dx,_,rfl,x23,T.cl,T.n_pipe_places,Nat.lt_of_le_of_lt (Nat.le_trans (Br _ _ _) (Nat.succ_le_succ (Br _ _ _))) (by omega),?_⟩
  have u24:SX x H23 _:=SX.up (o:=HO.ins C dx (Bh "pipe_places" (.ref D23) (Bh "key_places" (.ref D21) (Bh "knob_numbers" (.ref D19) f17))))
  have x24:upd H23 x (HO.ins C dx (Bh "pipe_places" (.ref D23) (Bh "key_places" (.ref D21) (Bh "knob_numbers" (.ref D19) f17)))) x=_:=Af
  have c24:=(c22.trans (SX.of s23)).trans u24
  have bl24:=u24.lst x23 (s23 _ _ bl22)
  have bp24:=u24.pair x23 (Ah s23 bp22)
  have kr24:=u24.lst x23 (s23 _ _ kr22)
  have rl24:=u24.lst x23 (s23 _ _ rl22)
  have rp24:=u24.pair x23 (Ah s23 rp22)
  have pp24:=u24.lst x23 hl23
  have pq24:=u24.pair x23 hp23
  have kn24:=u24.dk x23 (s23 _ _ kn22)
  have bn24:=u24.dk x23 (s23 _ _ bn22)
  have rn24:=u24.dk x23 (s23 _ _ rn22)
  have kp24:=u24.lst x23 (s23 _ _ kp22)
  have kq24:=u24.pair x23 (Ah s23 kq22)
  generalize hf24:Bh "pipe_places" (.ref D23) (Bh "key_places" (.ref D21) (Bh "knob_numbers" (.ref D19) f17))=f24 at x24 c24 bl24 bp24 kr24 rl24 rp24 pp24 pq24 bn24 rn24 kp24 kq24 u24 kn24 ⊢
  generalize upd H23 x (HO.ins C dx f24)=H24 at x24 c24 bl24 bp24 kr24 rl24 rp24 pp24 pq24 bn24 rn24 kp24 kq24 kn24 ⊢
  have n24:f24.length<=9:=by rw [← hf24]; exact Nat.le_trans (Br _ _ _) (Nat.succ_le_succ (Nat.le_trans (Br _ _ _) (Nat.succ_le_succ (Nat.le_trans (Br _ _ _) (Nat.succ_le_succ n17)))))
  have old24:∀ {f:Str} {v:V},¬ f = "pipe_places"->¬ f = "key_places"->¬ f = "knob_numbers"->f17.lookup f=some v->f24.lookup f=some v:=fun h1 h2 h3 h=>by
   rw [← hf24,Ai,if_neg h1,Ai,if_neg h2,Ai,if_neg h3]; exact h
  have lb24:=old24 (by decide +kernel) (by decide +kernel) (by decide +kernel) lb17
  have lbn24:=old24 (by decide +kernel) (by decide +kernel) (by decide +kernel) lbn17
  have lw24:=old24 (by decide +kernel) (by decide +kernel) (by decide +kernel) lw17
  have lkn24:f24.lookup ("knob_numbers" : Str)=some (.ref D19):=by rw [← hf24,Ai,if_neg (by decide +kernel),Ai,if_neg (by decide +kernel),Ai,if_pos rfl]
  have lr24:=old24 (by decide +kernel) (by decide +kernel) (by decide +kernel) lr17
  have lpp24:f24.lookup ("pipe_places" : Str)=some (.ref D23):=by rw [← hf24,Ai,if_pos rfl]
  have lrn24:=old24 (by decide +kernel) (by decide +kernel) (by decide +kernel) lrn17
  have lkr24:=old24 (by decide +kernel) (by decide +kernel) (by decide +kernel) lkr17
  have lkp24:f24.lookup ("key_places" : Str)=some (.ref D21):=by rw [← hf24,Ai,if_neg (by decide +kernel),Ai,if_pos rfl]
  have no24:∀ m∈meths,f24.lookup m=none:=fun m hm=>by
   rw [← hf24,Ai,if_neg (Do m hm _ (by decide +kernel)),Ai,if_neg (Do m hm _ (by decide +kernel)),Ai,if_neg (Do m hm _ (by decide +kernel))]
   exact no17 m hm
  clear u24 hf24 old24
  have R24:Rows H24 ρ us:=fun v hv=>c24.tup hx (hR v hv)
  refine ⟨_,rfl,_,rfl,x,C,dx,_,_,rfl,x24,T.cl,T.n_rank_numbers,lrn24,p,D16,us,ρ,rk,kvs16,rfl,c24.lst hx hp,R24,by omega,rn24,(fun i r hr=>hv16 i r.1 (by rw [List.getElem?_map,hr]; rfl)),O.nrr,O.ln,fun D25 H25 hD25 s25 hl25=>?_⟩
  have x25:=s25 _ _ x24
  refine ⟨_,rfl,x,C,dx,_,rfl,x25,T.cl,T.n_knob_lines,by omega,?_⟩
  have u26:SX x H25 _:=SX.up (o:=HO.ins C dx (Bh "knob_lines" (.ref D25) f24))
  have x26:upd H25 x (HO.ins C dx (Bh "knob_lines" (.ref D25) f24)) x=_:=Af
  have c26:=(c24.trans (SX.of s25)).trans u26
  have bl26:=u26.lst x25 (s25 _ _ bl24)
  have bp26:=u26.pair x25 (Ah s25 bp24)
  have kr26:=u26.lst x25 (s25 _ _ kr24)
  have rl26:=u26.lst x25 (s25 _ _ rl24)
  have rp26:=u26.pair x25 (Ah s25 rp24)
  have pp26:=u26.lst x25 (s25 _ _ pp24)
  have pq26:=u26.pair x25 (Ah s25 pq24)
  have ln26:=hl25.sx u26 x25
  have kn26:=u26.dk x25 (s25 _ _ kn24)
  have bn26:=u26.dk x25 (s25 _ _ bn24)
  have rn26:=u26.dk x25 (s25 _ _ rn24)
  have kp26:=u26.lst x25 (s25 _ _ kp24)
  have kq26:=u26.pair x25 (Ah s25 kq24)
  generalize upd H25 x (HO.ins C dx (Bh "knob_lines" (.ref D25) f24))=H26 at x26 c26 bl26 bp26 kr26 rl26 rp26 pp26 pq26 ln26 bn26 rn26 kp26 kq26 kn26 ⊢
  clear u26
  have R26:Rows H26 ρ us:=fun v hv=>c26.tup hx (hR v hv)
  refine ⟨_,rfl,p,_,"step",ρ,rfl,c26.lst hx hp,R26,by omega,fun D27 H27 hD27 s27 hl27=>?_⟩
  have kn27:=s27 _ _ kn26
  have x27:=s27 _ _ x26
  have hS27:Cm K H27 D27 (us.filter (pw ρ "step")):=.inl (.inl hl27)
  have lus:(us.filter (pw ρ "step")).length<=us.length:=List.length_filter_le _ _
  refine ⟨D27,rfl,⟨_,hS27⟩,CN (K:=K) (xs:=us.filter (pw ρ "step")) (fun _=>true) (fun v=>.int (stN ks (ρ v):Nat)) hS27 (Ar (by omega)) (fun y hy H' hs R k=>k H' (Am.refl H')) (fun y hy _ H' hs R k=>?_) (fun D28 H28 hD28 s28 hl28=>?_)⟩
  ·obtain ⟨hyu,hyw⟩:=List.mem_filter.mp hy
   obtain ⟨ts,ets,t24,tin⟩:=O.st y hyu (V.str.inj (of_decide_eq_true hyw))
   obtain ⟨T0,rfl,hT⟩:=((R26.mono s27).mono hs) y hyu
   refine ⟨_,rfl,_,rfl,x,C,dx,_,_,rfl,hs _ _ x27,T.cl,T.n_knob_numbers,(by rw [Ai,if_neg (by decide +kernel)]; exact lkn24),T0,D19,ρ (.ref T0),kvs19,ks.map (·.nm),ts,rfl,hT,hs _ _ kn27,ets,t24,(by rw [List.length_map]; have:=O.nk; omega),hv19,tin,fun H3 s3=>?_⟩
   have e:Wd.mk (ts.map fun t=>(ks.map (·.nm)).idxOf t)=stN ks (ρ (.ref T0)):=by unfold stN; rw [Hj ets]
   rw [e]
   exact k H3 s3
  rw [List.filter_eq_self.mpr (fun _ _=>rfl)] at hl28
  have s2628:=s27.trans s28
  have x28:=s2628 _ _ x26
  refine ⟨_,rfl,x,C,dx,_,rfl,x28,T.cl,T.n_step_sets,Nat.lt_of_le_of_lt (Br _ _ _) (by omega),?_⟩
  have u29:SX x H28 _:=SX.up (o:=HO.ins C dx (Bh "step_sets" (.ref D28) (Bh "knob_lines" (.ref D25) f24)))
  have old:∀ {f:Str},¬ f = "step_sets"->¬ f = "knob_lines"->(Bh "step_sets" (.ref D28) (Bh "knob_lines" (.ref D25) f24)).lookup f=f24.lookup f:=fun h1 h2=>by rw [Ai,if_neg h1,Ai,if_neg h2]
  have es:((us.filter (pw ρ "step")).map fun v=>V.int (stN ks (ρ v):Nat))=(((us.filter (pw ρ "step")).map fun v=>stN ks (ρ v)).map fun n:Nat=>V.int (n:Int)):=by rw [List.map_map]; rfl
  rw [es] at hl28
  have hpF:=u29.lst x28 (s2628 _ _ (c26.lst hx hp))
  have nx:x ≠ p:=fun z=>by rw [z,hp] at hx; cases hx
  have n5:D5 ≠ p:=Ne.symm (Aq (s4 _ _ hp) hD5)
  have n8:D8 ≠ p:=Ne.symm (Aq (s7 _ _ (c6.lst hx hp)) hD8)
  have n10:D10 ≠ p:=Ne.symm (Aq (c9.lst hx hp) hD10)
  have n21:D21 ≠ p:=Ne.symm (Aq (c20.lst hx hp) hD21)
  have n23:D23 ≠ p:=Ne.symm (Aq (c22.lst hx hp) hD23)
  have n28:D28 ≠ p:=Ne.symm (Aq (s27 _ _ (c26.lst hx hp)) hD28)
  suffices key:∀ H'',SX p (upd H28 x _) H''->J2 C H'' x us bs rk ks (linesOf rk (us.map ρ)) ((us.filter (pw ρ "step")).map fun v=>stN ks (ρ v)) from q _ (key _ SX.refl) key  (c0.trans ((c26.trans (SX.of s2628)).trans u29))
  intro H'' sp
  refine ⟨⟨⟨⟨dx,_,D5,D13,D21,D10,bvs,pvs,uk,kvs,sp _ _ Af nx,(old (by decide +kernel) (by decide +kernel)).trans lb24,(old (by decide +kernel) (by decide +kernel)).trans lbn24,(old (by decide +kernel) (by decide +kernel)).trans lkp24,(old (by decide +kernel) (by decide +kernel)).trans lkr24,
   fun m hm=>(old (Do m hm _ (by decide +kernel)) (Do m hm _ (by decide +kernel))).trans (no24 m hm),sp _ _ (u29.lst x28 (s2628 _ _ bl26)) n5,HN sp hpF (u29.pair x28 (Ah s2628 bp26)),Ni sp hpF (u29.dk x28 (s2628 _ _ bn26)),fun i b hb=>hv13 i b.1 (by rw [List.getElem?_map,hb]; rfl),sp _ _ (u29.lst x28 (s2628 _ _ kp26)) n21,HN sp hpF (u29.pair x28 (Ah s2628 kq26)),sp _ _ (u29.lst x28 (s2628 _ _ kr26)) n10,?_⟩,O.b5,O.sz,by have:=O.nk; omega⟩,⟨dx,_,D8,D16,D23,D25,rvs,qvs,kvs16,sp _ _ Af nx,(old (by decide +kernel) (by decide +kernel)).trans lr24,(old (by decide +kernel) (by decide +kernel)).trans lrn24,(old (by decide +kernel) (by decide +kernel)).trans lpp24,(by rw [Ai,if_neg (by decide +kernel),Ai,if_pos rfl]),sp _ _ (u29.lst x28 (s2628 _ _ rl26)) n8,HN sp hpF (u29.pair x28 (Ah s2628 rp26)),Ni sp hpF (u29.dk x28 (s2628 _ _ rn26)),(fun i r hr=>hv16 i r.1 (by rw [List.getElem?_map,hr]; rfl)),sp _ _ (u29.lst x28 (s2628 _ _ pp26)) n23,HN sp hpF (u29.pair x28 (Ah s2628 pq26)),((ln26.mono s2628).sx u29 x28).sp sp hpF⟩,O.nr,O.nz,?_⟩,dx,_,l1,D19,D28,kvs19,sp _ _ Af nx,(old (by decide +kernel) (by decide +kernel)).trans lw24,(old (by decide +kernel) (by decide +kernel)).trans lkn24,(by rw [Ai,if_pos rfl]),sp _ _ (u29.lst x28 (s2628 _ _ (c26.lst hx rw3))) nl1,Ni sp hpF (u29.dk x28 (s2628 _ _ kn26)),hv19,hw19,sp _ _ (u29.lst x28 hl28) n28,D13,kvs,(old (by decide +kernel) (by decide +kernel)).trans lbn24,Ni sp hpF (u29.dk x28 (s2628 _ _ bn26)),hw13⟩
  case refine_2=>rw [Nx O.ln,← ek,List.length_map,huk]
  rw [← ek]
  refine Ce (F:=fun (r:R) y=>TupAt _ r.v y) ρ ?_
  have R29:Rows _ ρ uk:=fun v hv=>QV sp hpF (u29.tup x28 ((R26.mono s2628) v (inKn hv)))
  generalize H''=H29 at R29 ⊢
  have key:∀ l:List V,(∀ v∈l,TupAt H29 (ρ v).v v)->Paired (fun v y=>TupAt H29 (ρ v).v y) l l:=by
   intro l
   induction l with
   | nil=>intro _; exact .nil
   | cons a b ih=>intro h; exact .cons (h a (List.mem_cons_self ..)) (ih fun v hv=>h v (List.mem_cons_of_mem _ hv))
  exact key uk R29
noncomputable def Xy (K:PySem.W.Frag):Sp:=fun vs H Q _=>∃ (a:Addr) (k:Nat) (ns:List Int),vs=[.ref a,.int (k:Nat)]/\Cm K H a (ns.map V.int)/\∀ i:Int,Q (.int i) H
theorem cD:BP ["_law_script","_law_k"] ["_law_script","_law_k"] (Ac V6):=⟨rfl,rfl,rfl,by decide +kernel,rfl,by decide +kernel,by decide +kernel⟩
include N T in
theorem X4:BK P w K mg base Bm 1 fCe dCe ["_law_script","_law_k"] (Xy K):=by
 refine N.FCe.1.ok cD (fun vs H Q E h=>?_) (fun cdv A outer s H vs Q E hr h=>?_)
 ·obtain ⟨a,k,ns,rfl,_⟩:=h
  rfl
 ·obtain ⟨a,k,ns,rfl,hS,q⟩:=h
  refine ⟨_,(Ae (Bq (Bb E_ (pv 1) (Ax BJ rfl T.len PySem.boot_len (Aa (pv 0) Ab)) (Bd _)) (Ag (Ay (BV Cg (pv 0) (pv 1) (fun _ _=>rfl)))) Bc)
   (Ag (Ay Ad))),?_⟩
  refine ⟨_,rfl,_,rfl,a,_,rfl,.inl hS,_,_,rfl,rfl,_,rfl,?_⟩
  refine C_ (fun h1=>?_) (fun _=>q 0)
  have hlt:k<ns.length:=by have:=of_decide_eq_true h1; rw [List.length_map] at this; omega
  exact ⟨_,rfl,_,rfl,a,_,_,.int ns[k],rfl,rfl,hS,Al (by rw [List.getElem?_map,List.getElem?_eq_getElem hlt]; rfl),q _⟩
theorem bh:BP ["_law_found"] ["_law_found"] (Ac Vn):=⟨rfl,rfl,rfl,by decide +kernel,rfl,by decide +kernel,by decide +kernel⟩
include N T in
theorem M3:BK P w K mg base Bm 1 fLw dLw ["_law_found"] Ke:=by
 refine N.FLw.1.ok bh (fun vs H Q E h=>?_) (fun cdv A outer s H vs Q E hr h=>?_)
 ·obtain ⟨i,rfl,_⟩:=h
  rfl
 ·obtain ⟨i,rfl,q⟩:=h
  refine ⟨_,(Ag (Ay (Ck (Ax CV rfl T.isin PyProof.Rows.boot_isinstance (Aa (pv 0) (Aa (Dk (v:=.ty "int") rfl T.int PyProof.Rows.boot_int rfl) Ab))) (Cq (Mp (Ax CV rfl T.isin PyProof.Rows.boot_isinstance (Aa (pv 0) (Aa (Dk (v:=.ty "bool") rfl T.bool PyProof.Rows.boot_bool rfl) Ab)))))))),?_⟩
  refine ⟨_,rfl,_,"int",_,_,rfl,.int i,ty_int,_,rfl,Dy ?_⟩
  exact ⟨_,rfl,_,"bool",_,_,rfl,.int i,TQ,_,rfl,q⟩
noncomputable def JQ:Sp:=fun vs H Q _=>∃ (c b m:Int),vs=[.int c,.int b,.int m]/\0<m/\0<=b/\b<1000003/\∀ z:Int,0<=z->z<m->Q (.int z) H
theorem Nq:BP ["_law_cell","_law_by","_law_many_here","_law_digits","_law_turn","_law_one","_law_two"] ["_law_cell","_law_by","_law_many_here"] (Ac Vz):=⟨rfl,rfl,rfl,by decide +kernel,rfl,by decide +kernel,by decide +kernel⟩
include N T in
theorem HF:BK P w K mg base Bm 1 fMi dMi ["_law_cell","_law_by","_law_many_here"] JQ:=by
 refine N.FMi.1.ok Nq (fun vs H Q E h=>?_) (fun cdv A outer s H vs Q E hr h=>?_)
 ·obtain ⟨c,b,m,rfl,_⟩:=h
  rfl
 ·obtain ⟨c,b,m,rfl,hm,hb0,hb1,q⟩:=h
  refine ⟨_,(Ae (Bq (Bb Pq (pv 0) (BW Jq Ad Ad) (Bd _)) (Ae (Ba (i:=3) Nq.nd rfl (Or.inl rfl) (BW Dq (pv 0) Ad))
   (Ae (Du PassesOwn.never rfl (FN rfl T.range (Aa (BW Ca (BW Cr (pv 1) (BW Ca (pv 0) Ad)) Ad) Ab)) (CK (i:=4) Nq.nd rfl (Or.inl rfl)) (Ag (Ba (i:=3) Nq.nd rfl (Or.inl rfl) (BW Dq (pv 3) Ad))))
   (Ag (Ay (BW Ca (BW Ca (pv 3) Ad) (pv 2)))))) Bc)
   (Ae (Ba (i:=5) Nq.nd rfl (Or.inl rfl) (BW Ca (BW Fw (BW Cr (BW Ca (pv 0) Ad) (pv 1)) Ad) Ad))
   (Ae (Ba (i:=6) Nq.nd rfl (Or.inl rfl) (BW Ca (BW Cr (BW Fw (pv 5) (pv 5)) (pv 1)) Ad))
   (Ag (Ay (BW Ca (BW Dq (BW Cr (BW Fw (pv 6) Ad) (BW Ca (BW Fw (pv 6) (pv 5)) Ad)) Ad) (pv 2))))))),?_⟩
  refine ⟨_,rfl,_,_,rfl,rfl,⟨by decide,by decide,by decide⟩,_,_,rfl,rfl,_,rfl,?_⟩
  refine C_ (fun h1=>?_) (fun h1=>?_)
  ·refine ⟨_,rfl,_,_,rfl,rfl,⟨by decide,by decide⟩,?_⟩
   have e29:0<=(b+c % 10080) % 71/\(b+c % 10080) % 71<71:=⟨Int.emod_nonneg _ (by decide),Int.emod_lt_of_pos _ (by decide)⟩
   refine ⟨_,rfl,_,rfl,_,_,rfl,rfl,(by show (0:Int)<10080; decide),_,_,rfl,rfl,_,_,rfl,rfl,(by show (0:Int)<71; decide),_,rfl,by show -(2 ^ 62)<=(b+c % 10080) % 71; omega,by show (b+c % 10080) % 71<2 ^ 62; omega,Hq (lo:=0) (n:=((b+c % 10080) % 71).toNat) (fun i σ H4=>H4=H/\∃ (z:Int) (v4:Option V),σ=[some (.int c),some (.int b),some (.int m),some (.int z),v4,none,none]) ⟨rfl,_,_,rfl⟩ ?_ ?_⟩
   ·rintro i σ H4 hi ⟨rfl,z,v4,rfl⟩
    exact ⟨_,rfl,_,_,rfl,rfl,⟨by decide,by decide⟩,rfl,_,_,rfl⟩
   ·rintro σ H4 ⟨rfl,z,v4,rfl⟩
    exact ⟨_,rfl,_,_,rfl,rfl,(by show (0:Int)<1000003; decide),_,rfl,_,_,rfl,rfl,hm,q _ (Int.emod_nonneg _ (by omega)) (Int.emod_lt_of_pos _ hm)⟩
  ·have c0:0<=c % 1000003/\c % 1000003<1000003:=⟨Int.emod_nonneg _ (by decide),Int.emod_lt_of_pos _ (by decide)⟩
   refine ⟨_,rfl,_,_,rfl,rfl,(by show (0:Int)<1000003; decide),_,rfl,_,_,rfl,rfl,_,_,rfl,rfl,.inr ⟨by decide,by decide⟩,_,_,rfl,rfl,(by show (0:Int)<2147483647; decide),?_⟩
   have o0:0<=(c % 1000003+b) * 48271 % 2147483647/\(c % 1000003+b) * 48271 % 2147483647<2147483647:=⟨Int.emod_nonneg _ (by decide),Int.emod_lt_of_pos _ (by decide)⟩
   show DR 5 (V.int ((c % 1000003+b) * 48271 % 2147483647)) _ _ _
   generalize (c % 1000003+b) * 48271 % 2147483647=one at o0
   refine ⟨_,rfl,_,rfl,_,_,rfl,rfl,.inl ⟨by omega,by omega⟩,_,rfl,_,_,rfl,rfl,_,_,rfl,rfl,(by show (0:Int)<2147483629; decide),?_⟩
   have t0:0<=(one * one+b) % 2147483629/\(one * one+b) % 2147483629<2147483629:=⟨Int.emod_nonneg _ (by decide),Int.emod_lt_of_pos _ (by decide)⟩
   show DR 6 (V.int ((one * one+b) % 2147483629)) _ _ _
   generalize (one * one+b) % 2147483629=two at t0
   exact ⟨_,rfl,_,_,rfl,rfl,.inl ⟨by omega,by omega⟩,_,rfl,_,rfl,_,_,rfl,rfl,.inl ⟨by omega,by omega⟩,_,_,rfl,rfl,(by show (0:Int)<2147483587; decide),_,_,rfl,rfl,_,_,rfl,rfl,⟨by decide,by decide⟩,_,rfl,_,_,rfl,rfl,hm,q _ (Int.emod_nonneg _ (by omega)) (Int.emod_lt_of_pos _ hm)⟩
noncomputable def ZK:Sp:=fun vs H Q _=>∃ (b:Str) (k:Nat),vs=[.str b,.int (k:Nat)]/\b.length<=6/\k<1000/\Q (.str (Dl b k)) H
theorem Rj:BP ["_law_base_here","_law_k","_law_letters","_law_name_here"] ["_law_base_here","_law_k"] (Ac Vt):=⟨rfl,rfl,rfl,by decide +kernel,rfl,by decide +kernel,by decide +kernel⟩
include N T in
theorem ZR:BK P w K mg base Bm 1 fNn dNn ["_law_base_here","_law_k"] ZK:=by
 refine N.FNn.1.ok Rj (fun vs H Q E h=>?_) (fun cdv A outer s H vs Q E hr h=>?_)
 ·obtain ⟨b,k,rfl,_⟩:=h
  rfl
 ·obtain ⟨b,k,rfl,hb,hk,q⟩:=h
  refine ⟨_,(Ae (Ba (i:=2) Rj.nd rfl (Or.inl rfl) Ao)
   (Ae (Ba (i:=3) Rj.nd rfl (Or.inl rfl) (BW Fg (pv 0) (BV Lp (pv 2) (BW Ca (pv 1) Ad) (fun _ _=>rfl))))
   (Ae (Bq (Bb Pq (pv 1) Ad (Bd _)) (Ag (Ba (i:=3) Rj.nd rfl (Or.inl rfl) (BW Fg (pv 3) (BV Lp (pv 2) (BW Ca (BW Fw (BW Dq (pv 1) Ad) Ad) Ad) (fun _ _=>rfl))))) Bc)
   (Ag (Ay (pv 3)))))),?_⟩
  have m0:0<=(k:Int) % 26:=Int.emod_nonneg _ (by decide)
  have m1:(k:Int) % 26<26:=Int.emod_lt_of_pos _ (by decide)
  have n0:0<=(k:Int) / 26 * 5 % 26:=Int.emod_nonneg _ (by decide)
  have n1:(k:Int) / 26 * 5 % 26<26:=Int.emod_lt_of_pos _ (by decide)
  have em:(((k:Int) % 26).toNat)=k % 26:=by omega
  have en:(((k:Int) / 26 * 5 % 26).toNat)=k / 26 * 5 % 26:=by omega
  refine ⟨_,rfl,_,rfl,_,rfl,_,_,rfl,rfl,(by show (0:Int)<26; decide),letters,_,_,rfl,rfl,Bt (by decide +kernel),MK m0 m1,_,_,rfl,rfl,Bt (by show b.length+1<=1000; omega),?_⟩
  have l1:(b++Ri (k % 26)).length<=7:=by rw [len_app,Ib]; omega
  refine ⟨_,rfl,_,_,rfl,rfl,_,rfl,?_⟩
  refine C_ (fun h1=>?_) (fun h1=>?_)
  ·have hk26:26<=k:=by have:=of_decide_eq_true h1; omega
   refine ⟨_,rfl,_,rfl,_,rfl,_,_,rfl,rfl,⟨by decide,by decide⟩,_,_,rfl,rfl,.inr ⟨by decide,by decide⟩,_,_,rfl,rfl,(by show (0:Int)<26; decide),letters,_,_,rfl,rfl,Bt (by decide +kernel),MK n0 n1,_,_,rfl,rfl,Bt (by show (b++Ri ((k:Int) % 26).toNat).length+1<=1000; rw [em]; omega),?_⟩
   unfold Dl at q
   rw [if_pos hk26,← em,← en] at q
   exact ⟨_,rfl,q⟩
  ·have hk26:¬ 26<=k:=fun z=>h1 (decide_eq_true (by omega))
   unfold Dl at q
   rw [if_neg hk26,← em] at q
   exact ⟨_,rfl,q⟩
noncomputable def Yo:Sp:=fun vs H Q _=>∃ (c:Int),vs=[.int c]/\∀ b:Str,Gi b->Q (.str b) H
theorem Py:BP ["_law_cell","_law_letters","_law_base_here","_law_k"] ["_law_cell"] (Ac Vp):=⟨rfl,rfl,rfl,by decide +kernel,rfl,by decide +kernel,by decide +kernel⟩
include N T in
theorem X7:BK P w K mg base Bm 1 fBb dBb ["_law_cell"] Yo:=by
 refine N.FBb.1.ok Py (fun vs H Q E h=>?_) (fun cdv A outer s H vs Q E hr h=>?_)
 ·obtain ⟨c,rfl,_⟩:=h
  rfl
 ·obtain ⟨c,rfl,q⟩:=h
  refine ⟨_,(Ae (Ba (i:=1) Py.nd rfl (Or.inl rfl) Ao)
   (Ae (Ba (i:=2) Py.nd rfl (Or.inl rfl) Ao)
   (Ae (Du PassesOwn.never rfl (FN rfl T.range (Aa (BW Ca (pv 0) Ad) Ab)) (CK (i:=3) Py.nd rfl (Or.inl rfl)) (Ag (Ba (i:=2) Py.nd rfl (Or.inl rfl) (BW Fg (pv 2) (BV Lp (pv 1) (BW Ca (BW Cr (BW Dq (pv 0) Ad) (BW Fw (BW Fw (pv 3) (pv 3)) Ad)) Ad) (fun _ _=>rfl))))))
   (Ag (Ay (pv 2)))))),?_⟩
  have m0:0<=c % 7:=Int.emod_nonneg _ (by decide)
  have m1:c % 7<7:=Int.emod_lt_of_pos _ (by decide)
  refine ⟨_,rfl,_,_,rfl,rfl,(by show (0:Int)<7; decide),_,rfl,by show -(2 ^ 62)<=c % 7; omega,by show c % 7<2 ^ 62; omega,Hq (lo:=0) (n:=(c % 7).toNat) (fun i σ H4=>H4=H/\∃ (b:Str) (v3:Option V),(b.length<=i/\∀ c∈b.cps.toList,97<=c/\c<=122)/\σ=[some (.int c),some (.str letters),some (.str b),v3]) ⟨rfl,"",_,⟨by decide,Gi.nil.2⟩,rfl⟩ ?_ ?_⟩
  ·rintro i σ H4 hi ⟨rfl,b,v3,hb,rfl⟩
   have n0:0<=(c / 6+(0+(i:Nat)) * (0+(i:Nat)) * 7) % 26:=Int.emod_nonneg _ (by decide)
   have n1:(c / 6+(0+(i:Nat)) * (0+(i:Nat)) * 7) % 26<26:=Int.emod_lt_of_pos _ (by decide)
   have hb1:=hb.1
   refine ⟨_,rfl,_,rfl,_,rfl,_,_,rfl,rfl,⟨by decide,by decide⟩,_,rfl,_,rfl,_,_,rfl,rfl,.inl ⟨by omega,by omega⟩,_,_,rfl,rfl,.inr ⟨by decide,by decide⟩,_,_,rfl,rfl,_,_,rfl,rfl,(by show (0:Int)<26; decide),letters,_,_,rfl,rfl,Bt (by decide +kernel),MK n0 n1,_,_,rfl,rfl,Bt (by show b.length+1<=1000; omega),?_⟩
   exact ⟨rfl,_,_,Gi.snoc hb (n:=((c / 6+(0+(i:Nat)) * (0+(i:Nat)) * 7) % 26).toNat) (by omega),rfl⟩
  ·rintro σ H4 ⟨rfl,b,v3,hb,rfl⟩
   exact ⟨_,rfl,q b ⟨by have:=hb.1; omega,hb.2⟩⟩
noncomputable def Yl (C:Addr):Sp:=fun vs H Q _=>∃ (x:Addr) (bs:List (Str × Nat)) (rk:List (Str × Nat × Int)) (ks:List R) (ls:List (List Ln)),vs=[.ref x]/\Ex C H x bs rk ks ls/\Q (.int ((IW (rk.map Vd)).length:Nat)) H
theorem cG:BP ["self"] ["self"] (Ac Vq):=⟨rfl,rfl,rfl,by decide +kernel,rfl,by decide +kernel,by decide +kernel⟩
include N T in
theorem XN:BK P w K mg base Bm 1 fOq dOq ["self"] (Yl C):=by
 refine N.FOq.1.ok cG (fun vs H Q E h=>?_) (fun cdv A outer s H vs Q E hr h=>?_)
 ·obtain ⟨x,bs,rk,ks,ls,rfl,_⟩:=h
  rfl
 ·obtain ⟨x,bs,rk,ks,ls,rfl,O,q⟩:=h
  refine ⟨_,(Ag (Ay (Ax BJ rfl T.len PySem.boot_len (Aa (De (pv 0) rfl) Ab)))),?_⟩
  obtain ⟨⟨dx,fs,bl,bn,kp,kr,bvs,pvs,uvs,kvs,h1,l1,l2,l3,l4,lm,h2,h3,h4,h5,h6,h7,h8,h9⟩,ob5,osz,onk⟩:=id O.o
  obtain ⟨dx',fs',rl,rn,pp,kl,rvs,qvs,kvs',g1,m1,m2,m3,m4,g2,g3,g4,g5,g6,g7,lv,g8,g9⟩:=id O.r
  obtain ⟨e1,e2⟩:dx'=dx/\fs'=fs:=by rw [h1] at g1; cases g1; exact ⟨rfl,rfl⟩
  subst e1 e2
  refine ⟨_,rfl,x,C,_,_,_,rfl,h1,T.cl,T.n_pipe_places,m3,pp,qvs,rfl,.inl (.inl (.inl g6)),?_⟩
  rw [← g7.length]
  exact q
structure Zj (K:PySem.W.Frag) (aB aP aM:Addr):Prop where
 f:O5 K aB aP aM
 mT:∃ t,PySem.W.nsIn K aM "step" = some (some (.int 12 t))
structure KY (K:PySem.W.Frag) (aB aP aM:Addr) (H0 H:Hp) (A:Hh) (S:Pl) (Cs:List Addr) (lo:V) (base:Str):Prop where
 h:Bg H0 H A S Cs lo
 k:Dm K aB aP aM base S lo
 b:Gi base
 l:S.rows.length<70
 F:Zj K aB aP aM
theorem Ew {α:Type} {F:α->V->Prop} {p:α->Bool} {q:V->Bool}:∀ {l:List α} {vs:List V},Paired F l vs->(∀ a v,F a v->q v=p a)->(vs.filter q).length=(l.filter p).length
 | [],_,h,_=>by cases h; rfl
 | a::l,_,h,k=>by
  cases h with
  | cons x y =>
   have ih:=Ew y k
   rw [List.filter_cons,List.filter_cons,k _ _ x]
   cases p a
   ·exact ih
   ·show _+1=_+1
    rw [ih]
noncomputable def Xh:Sp:=fun vs H Q _=>∃ (H0:Hp) (A:Hh) (S:Pl) (Cs:List Addr) (lo:V) (wd:Str),vs=[.ref A.p,.str wd]/\Bg H0 H A S Cs lo/\S.ks.length<=100/\∀ H',Am H H'->Q (.int ((S.ks.filter fun r=>decide (V.str r.w=V.str wd)).length:Nat)) H'
theorem bx:BP ["_law_plan_here","_law_word"] ["_law_plan_here","_law_word"] (Ac U6):=⟨rfl,rfl,rfl,by decide +kernel,rfl,by decide +kernel,by decide +kernel⟩
include N T in
theorem Xw:BK P w K mg base Bm 1 fMa dMa ["_law_plan_here","_law_word"] Xh:=by
 refine N.FMa.1.ok bx (fun vs H Q E h=>?_) (fun cdv A outer s H vs Q E hr h=>?_)
 ·obtain ⟨H0,A,S,Cs,lo,wd,rfl,_⟩:=h
  rfl
 ·obtain ⟨H0,A,S,Cs,lo,wd,rfl,h,hl,q⟩:=h
  have hu:=Cz hr
  refine ⟨_,(Ag (Ay (Ax BJ rfl T.len PySem.boot_len (Aa (Bp rfl (Bf (osc:=Ac U6) (N:=["_law_plan_here","_law_word"]) rfl rfl (by decide +kernel)) (Bl (BR hu (pv 0) Ao (fun _ _=>rfl))) (fun _ _ _ _=>(J9 (Bb Dd (BV (A_ (K:=K) rfl) (pv 0) Ad (fun _ _=>rfl)) (pv 2) (Bd _)))) (fun _ _ _ _=>(pv 0))) Ab)))),?_⟩
  obtain ⟨kvs,g1,g2,y1,y2,y3,y4,y5,y6,y7⟩:=h.dp
  obtain ⟨vn,n1,n2⟩:=h.n
  have g:=Bs.k (k:=Sum.inr "knobs") g1
  rw [y4] at g
  have hS:Cm K H A.n vn:=.inl (.inl n1)
  have ln:=n2.length
  refine ⟨_,rfl,A.p,_,rfl,g,A.n,rfl,⟨_,hS⟩,CN (K:=K) (xs:=vn) (fun v=>decide (HB H 0 v=.str wd)) id hS (Ar (by omega)) (fun x hx H' hs R k=>?_) (fun x hx _ H' hs R k=>⟨_,rfl,k H' (Am.refl H')⟩) (fun D H' hD hs hl'=>?_)⟩
  ·obtain ⟨b,_,hx'⟩:=Bw n2 hx
   have e:=DY hx' 0
   obtain ⟨T0,rfl,hT⟩:=hx'.mono hs
   refine ⟨_,rfl,T0,_,_,_,rfl,rfl,.inl (.inl hT),Al (j:=0) rfl,_,rfl,rfl,_,rfl,?_⟩
   have:=k H' (Am.refl H')
   rw [e] at this
   exact this
  ·rw [List.map_id] at hl'
   refine ⟨D,_,rfl,.inl (.inl (.inl hl')),?_⟩
   have e:=Ew (p:=fun r:R=>decide (V.str r.w=V.str wd)) (q:=fun v=>decide (HB H 0 v=.str wd)) n2 (fun a v hv=>by rw [DY hv 0]; rfl)
   rw [e]
   exact q H' hs
noncomputable def ZC (K:PySem.W.Frag) (aB aP aM:Addr):Sp:=fun vs H Q _=>∃ (H0:Hp) (A:Hh) (S:Pl) (Cs:List Addr) (lo:V) (bb:Str) (c:Int),vs=[.ref A.p,.str (Dl bb S.rows.length),.int c]/\KY K aB aP aM H0 H A S Cs lo bb/\S.bs.length<5/\Iz K aB aP aM bb H0 A S Q
theorem bT {α:Type} {a b c d:α} {z:Int} (h0:0<=z) (h1:z<4):∃ x,Ot [a,b,c,d] z=some x/\(x=a \/ x=b \/ x=c \/ x=d):=by
 have:z=0 \/ z=1 \/ z=2 \/ z=3:=by omega
 rcases this with rfl | rfl | rfl | rfl
 ·exact ⟨a,rfl,.inl rfl⟩
 ·exact ⟨b,rfl,.inr (.inl rfl)⟩
 ·exact ⟨c,rfl,.inr (.inr (.inl rfl))⟩
 ·exact ⟨d,rfl,.inr (.inr (.inr rfl))⟩
theorem YT:BP ["_law_plan_here","_law_name_here","_law_cell","_law_keys"] ["_law_plan_here","_law_name_here","_law_cell"] (Ac WQ):=⟨rfl,rfl,rfl,by decide +kernel,rfl,by decide +kernel,by decide +kernel⟩
include N T in
theorem YK:BK P w K mg base Bm 2 fLb dLb ["_law_plan_here","_law_name_here","_law_cell"] (ZC K aB aP aM):=by
 have GMi:BK P w K mg base Bm 1 fMi dMi ["_law_cell","_law_by","_law_many_here"] JQ:=HF N T
 refine N.FLb.1.ok YT (fun vs H Q E h=>?_) (fun cdv A outer s H vs Q E hr h=>?_)
 ·obtain ⟨H0,A,S,Cs,lo,bb,c,rfl,_⟩:=h
  rfl
 ·obtain ⟨H0,A,S,Cs,lo,bb,c,rfl,I,h5,q⟩:=h
  have hrMi:Be 1 _:=hr.mono (by decide)
  have hu:=Cz hr
  refine ⟨_,(Ae (Ba (i:=3) YT.nd rfl (Or.inl rfl) (BW Cr Ad (Aj GMi hrMi rfl N.FMi.2.2 N.FMi.1.kp N.FMi.2.1 .nil Az (Aa (pv 2) (Aa Ad (Aa (BV Cg (Bx (Aa Ad (Aa Ad (Aa Ad (Aa Ad Ab))))) (Aj GMi hrMi rfl N.FMi.2.2 N.FMi.1.kp N.FMi.2.1 .nil Az (Aa (pv 2) (Aa Ad (Aa Ad Ab)))) (fun _ _=>rfl)) Ab))))))
   (Ae (Ci (Ef PySem.F.plainAttrs_list PySem.F.slot_list_append PySem.F.type_list_append Bu (BR hu (pv 0) Ao (fun _ _=>rfl)) (Aa (Cd (Aa (pv 1) (Aa (pv 3) Ab))) Ab)))
   (Ag (Ay (Cd (Aa Ao (Aa (pv 1) (Aa (pv 3) Ab)))))))),?_⟩
  have hx:=id I.h
  obtain ⟨kvs,g1,g2,y1,y2,y3,y4,y5,y6,y7⟩:=hx.dp
  refine ⟨_,rfl,by show 4<=sizeLine; decide,fun p1 hp1=>?_⟩
  have s1:=Ak (o:=HO.lst [V.int 61,.int 12,.int 12,.int 5]) hp1
  have l1:upd H p1 (HO.lst [V.int 61,.int 12,.int 12,.int 5]) p1=some (.lst [V.int 61,.int 12,.int 12,.int 5]):=Af
  refine ⟨_,rfl,c,44621,4,rfl,by decide,by decide,by decide,fun z z0 z1=>?_⟩
  obtain ⟨x,hx4,hx5⟩:=bT (a:=V.int 61) (b:=.int 12) (c:=.int 12) (d:=.int 5) z0 z1
  obtain ⟨m,rfl,m1,m2⟩:∃ m:Int,x=.int m/\0<m/\m<=61:=by
   rcases hx5 with rfl | rfl | rfl | rfl
   ·exact ⟨_,rfl,by decide,by decide⟩
   ·exact ⟨_,rfl,by decide,by decide⟩
   ·exact ⟨_,rfl,by decide,by decide⟩
   ·exact ⟨_,rfl,by decide,by decide⟩
  refine ⟨p1,_,_,_,rfl,rfl,.inl (.inl l1),hx4,c,31541,m,rfl,m1,by decide,by decide,fun u u0 u1=>?_⟩
  refine ⟨_,_,rfl,rfl,?_⟩
  generalize upd H p1 (HO.lst [V.int 61,.int 12,.int 12,.int 5])=H1 at s1 l1 ⊢
  obtain ⟨n,hn⟩:=Int.eq_ofNat_of_zero_le (by omega:0<=1+u)
  show DR 3 (V.int (1+u)) _ _ _
  rw [hn]
  have h1:=I.h.mono s1
  obtain ⟨vb,b1,b2⟩:=h1.b
  have lb:=b2.length
  have g:=Bs.k (k:=Sum.inr "boards") (s1 _ _ g1)
  rw [y2] at g
  refine ⟨_,rfl,A.p,_,rfl,g,.inl ⟨rfl,_,.inl (.inl b1)⟩,_,rfl,_,rfl,by show 2<=sizeLine; decide,fun T5 hT5=>?_⟩
  have s5:=Ak (o:=HO.tup [V.str (Dl bb S.rows.length),.int (n:Nat)]) hT5
  have t5:TupAt (upd H1 T5 (HO.tup [V.str (Dl bb S.rows.length),.int (n:Nat)])) (bV (Dl bb S.rows.length,n)) (.ref T5):=⟨T5,rfl,Af⟩
  generalize upd H1 T5 (HO.tup [V.str (Dl bb S.rows.length),.int (n:Nat)])=H5 at s5 t5 ⊢
  have h5':=(h1.mono s5).bY (s5 _ _ b1) t5
  refine ⟨A.b,vb,_,rfl,rfl,s5 _ _ b1,Ar (by omega),?_⟩
  generalize upd H5 A.b _=H6 at h5' ⊢
  refine ⟨_,rfl,_,rfl,by show 3<=sizeLine; decide,fun T6 hT6=>?_⟩
  exact q (Ft (Dl bb S.rows.length,n)) _ _ _ _ _ (h5'.mono (Ak hT6)) rfl ⟨T6,rfl,Af⟩ (I.k.Pu I.F.f I.b (by have:=I.l; omega) h5 (by omega) (by omega)) (by simp)
noncomputable def ZS (K:PySem.W.Frag) (aB aP aM:Addr):Sp:=fun vs H Q _=>∃ (H0:Hp) (A:Hh) (S:Pl) (Cs:List Addr) (lo:V) (bb:Str) (c:Int),vs=[.ref A.p,.str (Dl bb S.rows.length),.int c]/\KY K aB aP aM H0 H A S Cs lo bb/\S.rk.length<12/\1<=S.bs.length/\Iz K aB aP aM bb H0 A S Q
theorem T7:BP ["_law_plan_here","_law_name_here","_law_cell","_law_pipes","_law_wind"] ["_law_plan_here","_law_name_here","_law_cell"] (Ac WP):=⟨rfl,rfl,rfl,by decide +kernel,rfl,by decide +kernel,by decide +kernel⟩
include N T in
theorem Yk:BK P w K mg base Bm 2 fLk dLk ["_law_plan_here","_law_name_here","_law_cell"] (ZS K aB aP aM):=by
 have GMi:BK P w K mg base Bm 1 fMi dMi ["_law_cell","_law_by","_law_many_here"] JQ:=HF N T
 refine N.FLk.1.ok T7 (fun vs H Q E h=>?_) (fun cdv A outer s H vs Q E hr h=>?_)
 ·obtain ⟨H0,A,S,Cs,lo,bb,c,rfl,_⟩:=h
  rfl
 ·obtain ⟨H0,A,S,Cs,lo,bb,c,rfl,I,h12,hb1,q⟩:=h
  have hrMi:Be 1 _:=hr.mono (by decide)
  have hu:=Cz hr
  refine ⟨_,(Ae (Ba (i:=3) T7.nd rfl (Or.inl rfl) (BW Cr Ad (Aj GMi hrMi rfl N.FMi.2.2 N.FMi.1.kp N.FMi.2.1 .nil Az (Aa (pv 2) (Aa Ad (Aa (BV Cg (Bx (Aa Ad (Aa Ad (Aa Ad (Aa Ad Ab))))) (Aj GMi hrMi rfl N.FMi.2.2 N.FMi.1.kp N.FMi.2.1 .nil Az (Aa (pv 2) (Aa Ad (Aa Ad Ab)))) (fun _ _=>rfl)) Ab))))))
   (Ae (Ba (i:=4) T7.nd rfl (Or.inl rfl) (BV Cg (Bx (Aa (Aj GMi hrMi rfl N.FMi.2.2 N.FMi.1.kp N.FMi.2.1 .nil Az (Aa (pv 2) (Aa Ad (Aa Ad Ab)))) (Aa (BW Ca (BW Dq (pv 2) Ad) (BW Cr (BW Jq Ad Ad) Ad)) (Aa Ad (Aa (BW Jq Ad Ad) Ab))))) (Aj GMi hrMi rfl N.FMi.2.2 N.FMi.1.kp N.FMi.2.1 .nil Az (Aa (pv 2) (Aa Ad (Aa Ad Ab)))) (fun _ _=>rfl)))
   (Ae (Ci (Ef PySem.F.plainAttrs_list PySem.F.slot_list_append PySem.F.type_list_append Bu (BR hu (pv 0) Ao (fun _ _=>rfl)) (Aa (Cd (Aa (pv 1) (Aa (pv 3) (Aa (pv 4) Ab)))) Ab)))
   (Ag (Ay (Cd (Aa Ao (Aa (pv 1) (Aa (pv 3) (Aa (pv 4) Ab)))))))))),?_⟩
  have hx:=id I.h
  obtain ⟨kvs,g1,g2,y1,y2,y3,y4,y5,y6,y7⟩:=hx.dp
  refine ⟨_,rfl,by show 4<=sizeLine; decide,fun p1 hp1=>?_⟩
  have s1:=Ak (o:=HO.lst [V.int 97,.int 24,.int 24,.int 6]) hp1
  have l1:upd H p1 (HO.lst [V.int 97,.int 24,.int 24,.int 6]) p1=some (.lst [V.int 97,.int 24,.int 24,.int 6]):=Af
  refine ⟨_,rfl,c,27437,4,rfl,by decide,by decide,by decide,fun z z0 z1=>?_⟩
  obtain ⟨x,hx4,hx5⟩:=bT (a:=V.int 97) (b:=.int 24) (c:=.int 24) (d:=.int 6) z0 z1
  obtain ⟨m,rfl,m1,m2⟩:∃ m:Int,x=.int m/\0<m/\m<=97:=by
   rcases hx5 with rfl | rfl | rfl | rfl
   ·exact ⟨_,rfl,by decide,by decide⟩
   ·exact ⟨_,rfl,by decide,by decide⟩
   ·exact ⟨_,rfl,by decide,by decide⟩
   ·exact ⟨_,rfl,by decide,by decide⟩
  refine ⟨p1,_,_,_,rfl,rfl,.inl (.inl l1),hx4,c,55051,m,rfl,m1,by decide,by decide,fun u u0 u1=>?_⟩
  refine ⟨_,_,rfl,rfl,?_⟩
  generalize upd H p1 (HO.lst [V.int 97,.int 24,.int 24,.int 6])=H1 at s1 l1 ⊢
  obtain ⟨n,hn⟩:=Int.eq_ofNat_of_zero_le (by omega:0<=1+u)
  show DR 3 (V.int (1+u)) _ _ _
  rw [hn]
  have e3:0<=c / 3 % (10 ^ (9:Int).toNat+1)/\c / 3 % (10 ^ (9:Int).toNat+1)<=1000000000:=by
   have e:(10:Int) ^ (9:Int).toNat+1=1000000001:=by decide
   rw [e]
   omega
  have e9:(10:Int) ^ (9:Int).toNat=1000000000:=by decide
  refine ⟨_,rfl,c,61001,10,rfl,by decide,by decide,by decide,fun r1 r10 r11=>⟨_,rfl,_,_,rfl,rfl,⟨by decide,by decide⟩,_,_,rfl,rfl,⟨by decide,by decide,by decide⟩,_,_,rfl,rfl,_,_,rfl,rfl,(by show (0:Int)<10 ^ (9:Int).toNat+1; decide),_,_,rfl,rfl,⟨by decide,by decide,by decide⟩,by show 4<=sizeLine; decide,fun p2 hp2=>?_⟩⟩
  dsimp only at hp2 ⊢
  generalize c / 3 % (10 ^ (9:Int).toNat+1)=w2 at e3 ⊢
  generalize (10:Int) ^ (9:Int).toNat=w4 at e9 ⊢
  have s2:=Ak (o:=HO.lst [V.int r1,.int w2,.int 0,.int w4]) hp2
  have l2:upd H1 p2 (HO.lst [V.int r1,.int w2,.int 0,.int w4]) p2=some (.lst [V.int r1,.int w2,.int 0,.int w4]):=Af
  refine ⟨_,rfl,c,39119,4,rfl,by decide,by decide,by decide,fun z' z0' z1'=>?_⟩
  obtain ⟨x',hx4',hx5'⟩:=bT (a:=V.int r1) (b:=.int w2) (c:=.int 0) (d:=.int w4) z0' z1'
  obtain ⟨wi,rfl,m1',m2'⟩:∃ m:Int,x'=.int m/\0<=m/\m<=1000000000:=by
   rcases hx5' with rfl | rfl | rfl | rfl
   ·exact ⟨_,rfl,by omega,by omega⟩
   ·exact ⟨_,rfl,by omega,by omega⟩
   ·exact ⟨_,rfl,by decide,by decide⟩
   ·exact ⟨_,rfl,by omega,by omega⟩
  refine ⟨p2,_,_,_,rfl,rfl,.inl (.inl l2),hx4',?_⟩
  generalize upd H1 p2 (HO.lst [V.int r1,.int w2,.int 0,.int w4])=H2 at s2 l2 ⊢
  have h1:=(I.h.mono s1).mono s2
  obtain ⟨vb,b1,b2⟩:=h1.k
  have lb:=b2.length
  have g:=Bs.k (k:=Sum.inr "ranks") (s2 _ _ (s1 _ _ g1))
  rw [y3] at g
  refine ⟨_,rfl,A.p,_,rfl,g,.inl ⟨rfl,_,.inl (.inl b1)⟩,_,rfl,_,rfl,_,rfl,by show 3<=sizeLine; decide,fun T5 hT5=>?_⟩
  have s5:=Ak (o:=HO.tup [V.str (Dl bb S.rows.length),.int (n:Nat),.int wi]) hT5
  have t5:TupAt (upd H2 T5 (HO.tup [V.str (Dl bb S.rows.length),.int (n:Nat),.int wi])) (Wc (Dl bb S.rows.length,n,wi)) (.ref T5):=⟨T5,rfl,Af⟩
  generalize upd H2 T5 (HO.tup [V.str (Dl bb S.rows.length),.int (n:Nat),.int wi])=H5 at s5 t5 ⊢
  have h5':=(h1.mono s5).cF (s5 _ _ b1) t5
  refine ⟨A.k,vb,_,rfl,rfl,s5 _ _ b1,Ar (by omega),?_⟩
  generalize upd H5 A.k _=H6 at h5' ⊢
  refine ⟨_,rfl,_,rfl,_,rfl,by show 4<=sizeLine; decide,fun T6 hT6=>?_⟩
  exact q (Fz (Dl bb S.rows.length,n,wi)) _ _ _ _ _ (h5'.mono (Ak hT6)) rfl ⟨T6,rfl,Af⟩ (I.k.rank I.F.f I.b (by have:=I.l; omega) h12 (by omega) (by omega) m1' m2') hb1
noncomputable def Y0 (K:PySem.W.Frag) (aB aP aM:Addr):Sp:=fun vs H Q _=>∃ (H0:Hp) (A:Hh) (S:Pl) (Cs:List Addr) (lo:V) (bb:Str) (c:Int),vs=[.ref A.p,.str (Dl bb S.rows.length),.int c]/\KY K aB aP aM H0 H A S Cs lo bb/\1<=S.bs.length/\(S.ks.filter fun r=>decide (V.str r.w=V.str "stop")).length<24/\Iz K aB aP aM bb H0 A S Q
theorem Y8:BP ["_law_plan_here","_law_name_here","_law_cell","_law_at"] ["_law_plan_here","_law_name_here","_law_cell"] (Ac V0):=⟨rfl,rfl,rfl,by decide +kernel,rfl,by decide +kernel,by decide +kernel⟩
include N T in
theorem Yz:BK P w K mg base Bm 2 fLs dLs ["_law_plan_here","_law_name_here","_law_cell"] (Y0 K aB aP aM):=by
 have GMi:BK P w K mg base Bm 1 fMi dMi ["_law_cell","_law_by","_law_many_here"] JQ:=HF N T
 refine N.FLs.1.ok Y8 (fun vs H Q E h=>?_) (fun cdv A outer s H vs Q E hr h=>?_)
 ·obtain ⟨H0,A,S,Cs,lo,bb,c,rfl,_⟩:=h
  rfl
 ·obtain ⟨H0,A,S,Cs,lo,bb,c,rfl,I,hb1,h24,q⟩:=h
  have hrMi:Be 1 _:=hr.mono (by decide)
  have hu:=Cz hr
  refine ⟨_,(Ae (Ba (i:=3) Y8.nd rfl (Or.inl rfl) (Aj GMi hrMi rfl N.FMi.2.2 N.FMi.1.kp N.FMi.2.1 .nil Az (Aa (pv 2) (Aa Ad (Aa (Ax BJ rfl T.len PySem.boot_len (Aa (BR hu (pv 0) Ao (fun _ _=>rfl)) Ab)) Ab)))))
   (Ae (Jt hu (pv 0) Ao (Bx Ab) rfl)
   (Ae (Ci (Ef PySem.F.plainAttrs_list PySem.F.slot_list_append PySem.F.type_list_append Bu (BR hu (pv 0) Ao (fun _ _=>rfl)) (Aa (Cd (Aa Ao (Aa (pv 1) Ab))) Ab)))
   (Ae (Ci (Ef PySem.F.plainAttrs_list PySem.F.slot_list_append PySem.F.type_list_append Bu (BR hu (pv 0) Ao (fun _ _=>rfl)) (Aa (Cd (Aa (pv 3) (Aa (BR hu (pv 0) Ao (fun _ _=>rfl)) Ab))) Ab)))
   (Ag (Ay (Cd (Aa Ao (Aa (pv 1) (Aa (BV (A_ (K:=K) rfl) (BV Cg (BR hu (pv 0) Ao (fun _ _=>rfl)) (pv 3) (fun _ _=>rfl)) Ad (fun _ _=>rfl)) Ab)))))))))),?_⟩
  have hx:=id I.h
  obtain ⟨kvs,g1,g2,y1,y2,y3,y4,y5,y6,y7⟩:=hx.dp
  obtain ⟨vb,b1,b2⟩:=hx.b
  have lb:=b2.length
  have g:=Bs.k (k:=Sum.inr "boards") g1
  rw [y2] at g
  refine ⟨_,rfl,_,rfl,A.p,_,rfl,g,A.b,_,rfl,.inl (.inl (.inl b1)),c,60013,_,rfl,(by show (0:Int)<((vb.length:Nat):Int); omega),by decide,by decide,fun u u0 u1=>?_⟩
  obtain ⟨b,hb⟩:=Int.eq_ofNat_of_zero_le u0
  subst hb
  have hbl:b<S.bs.length:=by omega
  obtain ⟨x,hxb⟩:∃ x,S.bs[b]? = some x:=⟨_,List.getElem?_eq_getElem hbl⟩
  refine ⟨Bt (by simp),fun L hL=>?_⟩
  have old:=I.h.old hL
  have s1:=Ak (o:=HO.lst []) hL
  have l1:upd H L (HO.lst []) L=some (.lst []):=Af
  generalize upd H L (HO.lst [])=H1 at s1 l1 ⊢
  have h1:=(I.h.mono s1).YZ (s1 _ _ g1) (.ref L)
  have l2:upd H1 A.p (HO.dK (putK kvs (Sum.inr "lines") (.ref L))) L=some (.lst []):=by rw [An (KN l1 (s1 _ _ g1) (by intro z; cases z))]; exact l1
  refine ⟨_,rfl,A.p,_,rfl,Mq.k (k:=Sum.inr "lines") (s1 _ _ g1) (Ar (by omega)),?_⟩
  generalize upd H1 A.p _=H2 at h1 l2 ⊢
  obtain ⟨kvs2,g12,_,_,z2,_,z4,z5,_,z7⟩:=h1.dp
  obtain ⟨vn,n1,n2⟩:=h1.n
  have ln:=n2.length
  have lk:=I.k.lk
  have lr:=I.l
  have g:=Bs.k (k:=Sum.inr "knobs") g12
  rw [z4] at g
  refine ⟨_,rfl,A.p,_,rfl,g,.inl ⟨rfl,_,.inl (.inl n1)⟩,_,rfl,by show 2<=sizeLine; decide,fun T3 hT3=>?_⟩
  have s3:=Ak (o:=HO.tup [V.str "stop",.str (Dl bb S.rows.length)]) hT3
  have t3:TupAt (upd H2 T3 (HO.tup [V.str "stop",.str (Dl bb S.rows.length)])) (S9 ⟨"stop",Dl bb S.rows.length,[.str x.1]⟩) (.ref T3):=⟨T3,rfl,Af⟩
  generalize upd H2 T3 (HO.tup [V.str "stop",.str (Dl bb S.rows.length)])=H3 at s3 t3 ⊢
  have l3:=s3 _ _ l2
  have h3:=(h1.mono s3).RJ (s3 _ _ n1) t3
  have l4:upd H3 A.n (HO.lst (vn++[.ref T3])) L=some (.lst []):=by
   rw [An fun z=>old.2 (by rw [z]; simp)]
   exact l3
  refine ⟨A.n,vn,_,rfl,rfl,s3 _ _ n1,Ar (by omega),?_⟩
  generalize upd H3 A.n (HO.lst (vn++[.ref T3]))=H4 at h3 l4 ⊢
  obtain ⟨kvs4,g14,_,_,w2,_,_,w5,_,w7⟩:=h3.dp
  obtain ⟨vd,d1,d2,d3⟩:=h3.d
  have ld:=d3.length
  have ld2:=I.k.pd.length
  have gd:=Bs.k (k:=Sum.inr "details") g14
  rw [w5] at gd
  have gl:=Bs.k (k:=Sum.inr "lines") g14
  rw [w7] at gl
  refine ⟨_,rfl,A.p,_,rfl,gd,.inl ⟨rfl,_,.inl (.inl d1)⟩,_,rfl,_,rfl,A.p,_,rfl,gl,by show 2<=sizeLine; decide,fun T5 hT5=>?_⟩
  have s5:=Ak (o:=HO.tup [V.int (b:Nat),.ref L]) hT5
  have t5:Gj (upd H4 T5 (HO.tup [V.int (b:Nat),.ref L])) (.stop b L,[]) (.ref T5):=⟨⟨T5,rfl,Af⟩,[],s5 _ _ l4,.nil⟩
  generalize upd H4 T5 (HO.tup [V.int (b:Nat),.ref L])=H5 at s5 t5 ⊢
  have h5:=(h3.mono s5).Rk (s5 _ _ d1) t5 (fun L' hL'=>by rw [List.mem_singleton.mp hL']; exact old)
  have ld3:vd.length<=100:=by
   rw [List.length_zip] at ld
   show vd.length<=100
   have:S.ds.length=S.ks.length:=ld2.symm
   have:vd.length<=S.ds.length:=by
    rw [← ld]
    exact Nat.min_le_left _ _
   omega
  refine ⟨A.d,vd,_,rfl,rfl,s5 _ _ d1,Ar (by omega),?_⟩
  generalize upd H5 A.d _=H6 at h5 ⊢
  obtain ⟨kvs6,g16,_,_,u2,_⟩:=h5.dp
  obtain ⟨vb6,b16,b26⟩:=h5.b
  have gb:=Bs.k (k:=Sum.inr "boards") g16
  rw [u2] at gb
  obtain ⟨yb,hyb,Tb,rfl,hTb⟩:=Bk b26 hxb
  refine ⟨_,rfl,_,rfl,A.p,_,rfl,gb,_,rfl,A.b,_,_,_,rfl,rfl,.inl (.inl b16),Al hyb,Tb,_,_,_,rfl,rfl,.inl (.inl hTb),Al (j:=0) rfl,by show 3<=sizeLine; decide,fun T6 hT6=>?_⟩
  refine q ⟨"stop",Dl bb S.rows.length,[.str x.1]⟩ _ _ _ _ _ (h5.mono (Ak hT6)) rfl ⟨T6,rfl,Af⟩ (I.k.Rt (by omega) rfl ⟨rfl,x,hxb,rfl⟩ (I.k.bl.plain I.F.f (.inl rfl) (Dz I.b _) (I.k.fb (by omega)) (I.k.fr (by omega)) (I.k.fk (by omega)) (by show _<24; exact h24) (n:=x.2) ?_ (List.mem_of_getElem? hxb)) (.inr ⟨b,L,x,rfl,rfl,hxb,Tl.stop _ _ _⟩)) hb1
  obtain ⟨m,_,e⟩:=I.k.nb x (List.mem_of_getElem? hxb)
  rw [e]
  exact Dz I.b m
noncomputable def Yr (K:PySem.W.Frag) (aB aP aM:Addr):Sp:=fun vs H Q _=>∃ (H0:Hp) (A:Hh) (S:Pl) (Cs:List Addr) (bb:Str) (c:Int) (ds0:List Dt) (b:Nat) (L:Addr) (x:Str × Nat) (ls0:List (List Ln)) (l0:List Ln),vs=[.ref A.p,.int c]/\KY K aB aP aM H0 H A S Cs (.ref L) bb/\S.ds=ds0++[.stop b L]/\S.ls=ls0++[l0]/\S.bs[b]? = some x/\Tl S.rows x.1 l0.length/\l0.length<4/\1<=S.rk.length/\Iz K aB aP aM bb H0 A S Q
theorem Lr:BP ["_law_plan_here","_law_cell","_law_at","_law_keys","_law_low","_law_high","_law_shift"] ["_law_plan_here","_law_cell"] (Ac WF):=⟨rfl,rfl,rfl,by decide +kernel,rfl,by decide +kernel,by decide +kernel⟩
include N T in
theorem Yy:BK P w K mg base Bm 2 fLl dLl ["_law_plan_here","_law_cell"] (Yr K aB aP aM):=by
 have GMi:BK P w K mg base Bm 1 fMi dMi ["_law_cell","_law_by","_law_many_here"] JQ:=HF N T
 refine N.FLl.1.ok Lr (fun vs H Q E h=>?_) (fun cdv A outer s H vs Q E hr h=>?_)
 ·obtain ⟨H0,A,S,Cs,bb,c,ds0,b,L,x,ls0,l0,rfl,_⟩:=h
  rfl
 ·obtain ⟨H0,A,S,Cs,bb,c,ds0,b,L,x,ls0,l0,rfl,I,e1,e2,hxb,hT,h4,hr1,q⟩:=h
  have hrMi:Be 1 _:=hr.mono (by decide)
  have hu:=Cz hr
  refine ⟨_,(Ae (Ba (i:=2) Lr.nd rfl (Or.inl rfl) (Aj GMi hrMi rfl N.FMi.2.2 N.FMi.1.kp N.FMi.2.1 .nil Az (Aa (pv 1) (Aa Ad (Aa (Ax BJ rfl T.len PySem.boot_len (Aa (BR hu (pv 0) Ao (fun _ _=>rfl)) Ab)) Ab)))))
   (Ae (Ba (i:=3) Lr.nd rfl (Or.inl rfl) (BV (A_ (K:=K) rfl) (BV (Ds (K:=K) rfl) (BR hu (pv 0) Ao (fun _ _=>rfl)) (BV (A_ (K:=K) rfl) (BV (Ds (K:=K) rfl) (BR hu (pv 0) Ao (fun _ _=>rfl)) (R5 Qs Ad) (fun _ _=>rfl)) Ad (fun _ _=>rfl)) (fun _ _=>rfl)) Ad (fun _ _=>rfl)))
   (Ae (Ba (i:=4) Lr.nd rfl (Or.inl rfl) (Aj GMi hrMi rfl N.FMi.2.2 N.FMi.1.kp N.FMi.2.1 .nil Az (Aa (pv 1) (Aa Ad (Aa (pv 3) Ab)))))
   (Ae (Ba (i:=5) Lr.nd rfl (Or.inl rfl) (BW Cr (pv 4) (Aj GMi hrMi rfl N.FMi.2.2 N.FMi.1.kp N.FMi.2.1 .nil Az (Aa (pv 1) (Aa Ad (Aa (BW Fj (pv 3) (pv 4)) Ab))))))
   (Ae (Ba (i:=6) Lr.nd rfl (Or.inl rfl) (BW Fj (Aj GMi hrMi rfl N.FMi.2.2 N.FMi.1.kp N.FMi.2.1 .nil Az (Aa (pv 1) (Aa Ad (Aa Ad Ab)))) Ad))
   (Ae (Bq (Bb Dd (Aj GMi hrMi rfl N.FMi.2.2 N.FMi.1.kp N.FMi.2.1 .nil Az (Aa (pv 1) (Aa Ad (Aa Ad Ab)))) Ad (Bd _)) (Ag (Ba (i:=6) Lr.nd rfl (Or.inl rfl) (BW Fj (BW Ca (BW Dq (pv 1) Ad) Ad) Ad))) Bc)
   (Ae (Ci (Ef PySem.F.plainAttrs_list PySem.F.slot_list_append PySem.F.type_list_append Bu (BR hu (pv 0) Ao (fun _ _=>rfl)) (Aa (Cd (Aa (pv 2) (Aa (pv 6) (Aa (pv 4) (Aa (pv 5) Ab))))) Ab)))
   (Ag (Ay (Cd (Aa Ao (Aa (BV (A_ (K:=K) rfl) (BV Cg (BR hu (pv 0) Ao (fun _ _=>rfl)) (pv 2) (fun _ _=>rfl)) Ad (fun _ _=>rfl)) (Aa (pv 6) (Aa (pv 4) (Aa (pv 5) Ab))))))))))))))),?_⟩
  have hx:=id I.h
  obtain ⟨kvs,g1,g2,y1,y2,y3,y4,y5,y6,y7⟩:=hx.dp
  obtain ⟨vk,k1,k2⟩:=hx.k
  obtain ⟨vb,b1,b2⟩:=hx.b
  obtain ⟨vd,d1,d2,d3⟩:=hx.d
  have lk:=k2.length
  have xs:=I.k.sb x (List.mem_of_getElem? hxb)
  have g:=Bs.k (k:=Sum.inr "ranks") g1
  rw [y3] at g
  have gb:=Bs.k (k:=Sum.inr "boards") g1
  rw [y2] at gb
  have gd:=Bs.k (k:=Sum.inr "details") g1
  rw [y5] at gd
  have gl:=Bs.k (k:=Sum.inr "lines") g1
  rw [y7] at gl
  have ld:ds0.length=ls0.length:=by
   have:=d2
   rw [e1,e2] at this
   simpa using this
  rw [e1,e2,List.zip_append ld] at d3
  obtain ⟨vd0,ud,rfl,_,hud⟩:=Fo d3
  obtain ⟨⟨Td,rfl,hTd⟩,ts,hL,hts⟩:=hud
  have lts:l0.length=ts.length:=hts.length
  obtain ⟨yb,hyb,Tb,rfl,hTb⟩:=Bk b2 hxb
  refine ⟨_,rfl,_,rfl,A.p,_,rfl,g,A.k,_,rfl,.inl (.inl (.inl k1)),c,40709,_,rfl,(by show (0:Int)<((vk.length:Nat):Int); omega),by decide,by decide,fun u u0 u1=>?_⟩
  obtain ⟨j,hj⟩:=Int.eq_ofNat_of_zero_le u0
  subst hj
  obtain ⟨rr,hrr⟩:∃ x,S.rk[j]? = some x:=⟨_,List.getElem?_eq_getElem (by omega)⟩
  obtain ⟨yr,hyr,Tr,rfl,hTr⟩:=Bk k2 hrr
  refine ⟨_,rfl,A.p,_,rfl,gb,_,rfl,A.p,_,rfl,gd,_,rfl,A.d,_,_,_,rfl,rfl,.inl (.inl d1),M9 vd0 (V.ref Td),Td,_,_,_,rfl,rfl,.inl (.inl hTd),Al (j:=0) rfl,A.b,_,_,_,rfl,rfl,.inl (.inl b1),Al hyb,Tb,_,_,_,rfl,rfl,.inl (.inl hTb),Al (j:=1) rfl,?_⟩
  refine ⟨_,rfl,_,rfl,c,18149,_,rfl,(by show (0:Int)<((x.2:Nat):Int); omega),by decide,by decide,fun lw lw0 lw1=>?_⟩
  refine ⟨_,rfl,_,rfl,_,rfl,_,rfl,_,_,rfl,rfl,c,13499,_,rfl,(by show (0:Int)<((x.2:Nat):Int) - lw; omega),by decide,by decide,fun hd hd0 hd1=>⟨_,_,rfl,rfl,?_⟩⟩
  show DR 5 (V.int (lw+hd)) _ _ _
  generalize ehi:lw+hd=hi
  refine ⟨_,rfl,c,57089,25,rfl,by decide,by decide,by decide,fun sh sh0 sh1=>⟨_,_,rfl,rfl,?_⟩⟩
  show DR 6 (V.int (sh - 12)) _ _ _
  obtain ⟨sv,es⟩:∃ sv,sh - 12=sv:=⟨_,rfl⟩
  rw [es]
  refine ⟨_,rfl,c,17681,4,rfl,by decide,by decide,by decide,fun z z0 z1=>⟨rfl,_,rfl,C_ (fun _=>?_) (fun _=>?_)⟩⟩
  ·refine ⟨_,rfl,_,_,rfl,rfl,⟨by decide,by decide⟩,_,_,rfl,rfl,(by show (0:Int)<401; decide),_,_,rfl,rfl,?_⟩
   show DR 6 (V.int (c / 5 % 401 - 200)) _ _ _
   obtain ⟨sw,ew⟩:∃ sw,c / 5 % 401 - 200=sw:=⟨_,rfl⟩
   rw [ew]
   refine ⟨_,rfl,A.p,_,rfl,gl,.inl ⟨rfl,_,.inl (.inl hL)⟩,_,rfl,_,rfl,_,rfl,_,rfl,by show 4<=sizeLine; decide,fun T5 hT5=>?_⟩
   have s5:=Ak (o:=HO.tup [V.int (j:Nat),.int sw,.int lw,.int hi]) hT5
   have t5:TupAt (upd H T5 (HO.tup [V.int (j:Nat),.int sw,.int lw,.int hi])) (Y9 ⟨j,sw,lw,hi⟩) (.ref T5):=⟨T5,rfl,Af⟩
   generalize upd H T5 (HO.tup [V.int (j:Nat),.int sw,.int lw,.int hi])=H5 at s5 t5 ⊢
   have h5:=(I.h.mono s5).XR e1 e2 (s5 _ _ hL) t5
   refine ⟨L,ts,_,rfl,rfl,s5 _ _ hL,Ar (by omega),?_⟩
   generalize upd H5 L _=H6 at h5 ⊢
   obtain ⟨kvs6,g16,_,_,_,u3,_⟩:=h5.dp
   obtain ⟨vk6,k16,k26⟩:=h5.k
   have gk:=Bs.k (k:=Sum.inr "ranks") g16
   rw [u3] at gk
   obtain ⟨yr6,hyr6,Tr6,rfl,hTr6⟩:=Bk k26 hrr
   refine ⟨_,rfl,A.p,_,rfl,gk,_,rfl,A.k,_,_,_,rfl,rfl,.inl (.inl k16),Al hyr6,Tr6,_,_,_,rfl,rfl,.inl (.inl hTr6),Al (j:=0) rfl,_,rfl,_,rfl,_,rfl,by show 5<=sizeLine; decide,fun T6 hT6=>?_⟩
   exact q ⟨"line",rr.1,[.int sw,.int lw,.int hi]⟩ _ _ _ _ _ (h5.mono (Ak hT6)) rfl ⟨T6,rfl,Af⟩ (I.k.line I.F.f I.b e1 e2 hxb hT h4 hrr (by omega) (by omega) (by omega) (by omega) lw0) (Nat.lt_of_le_of_lt (Nat.zero_le _) (List.getElem?_eq_some_iff.mp hxb).1)
  ·refine ⟨_,rfl,A.p,_,rfl,gl,.inl ⟨rfl,_,.inl (.inl hL)⟩,_,rfl,_,rfl,_,rfl,_,rfl,by show 4<=sizeLine; decide,fun T5 hT5=>?_⟩
   have s5:=Ak (o:=HO.tup [V.int (j:Nat),.int sv,.int lw,.int hi]) hT5
   have t5:TupAt (upd H T5 (HO.tup [V.int (j:Nat),.int sv,.int lw,.int hi])) (Y9 ⟨j,sv,lw,hi⟩) (.ref T5):=⟨T5,rfl,Af⟩
   generalize upd H T5 (HO.tup [V.int (j:Nat),.int sv,.int lw,.int hi])=H5 at s5 t5 ⊢
   have h5:=(I.h.mono s5).XR e1 e2 (s5 _ _ hL) t5
   refine ⟨L,ts,_,rfl,rfl,s5 _ _ hL,Ar (by omega),?_⟩
   generalize upd H5 L _=H6 at h5 ⊢
   obtain ⟨kvs6,g16,_,_,_,u3,_⟩:=h5.dp
   obtain ⟨vk6,k16,k26⟩:=h5.k
   have gk:=Bs.k (k:=Sum.inr "ranks") g16
   rw [u3] at gk
   obtain ⟨yr6,hyr6,Tr6,rfl,hTr6⟩:=Bk k26 hrr
   refine ⟨_,rfl,A.p,_,rfl,gk,_,rfl,A.k,_,_,_,rfl,rfl,.inl (.inl k16),Al hyr6,Tr6,_,_,_,rfl,rfl,.inl (.inl hTr6),Al (j:=0) rfl,_,rfl,_,rfl,_,rfl,by show 5<=sizeLine; decide,fun T6 hT6=>?_⟩
   exact q ⟨"line",rr.1,[.int sv,.int lw,.int hi]⟩ _ _ _ _ _ (h5.mono (Ak hT6)) rfl ⟨T6,rfl,Af⟩ (I.k.line I.F.f I.b e1 e2 hxb hT h4 hrr (by omega) (by omega) (by omega) (by omega) lw0) (Nat.lt_of_le_of_lt (Nat.zero_le _) (List.getElem?_eq_some_iff.mp hxb).1)
noncomputable def YH (K:PySem.W.Frag) (aB aP aM:Addr):Sp:=fun vs H Q _=>∃ (H0:Hp) (A:Hh) (S:Pl) (Cs:List Addr) (lo:V) (bb:Str) (c:Int),vs=[.ref A.p,.str (Dl bb S.rows.length),.int c]/\KY K aB aP aM H0 H A S Cs lo bb/\1<=S.bs.length/\(S.ks.filter fun r=>decide (V.str r.w=V.str "coupler")).length<12/\Iz K aB aP aM bb H0 A S Q
theorem Qf:BP ["_law_plan_here","_law_name_here","_law_cell","_law_one","_law_other","_law_shift"] ["_law_plan_here","_law_name_here","_law_cell"] (Ac WD):=⟨rfl,rfl,rfl,by decide +kernel,rfl,by decide +kernel,by decide +kernel⟩
include N T in
theorem XS:BK P w K mg base Bm 2 fLc dLc ["_law_plan_here","_law_name_here","_law_cell"] (YH K aB aP aM):=by
 have GMi:BK P w K mg base Bm 1 fMi dMi ["_law_cell","_law_by","_law_many_here"] JQ:=HF N T
 refine N.FLc.1.ok Qf (fun vs H Q E h=>?_) (fun cdv A outer s H vs Q E hr h=>?_)
 ·obtain ⟨H0,A,S,Cs,lo,bb,c,rfl,_⟩:=h
  rfl
 ·obtain ⟨H0,A,S,Cs,lo,bb,c,rfl,I,hb1,h12,q⟩:=h
  have hrMi:Be 1 _:=hr.mono (by decide)
  have hu:=Cz hr
  refine ⟨_,(Ae (Ba (i:=3) Qf.nd rfl (Or.inl rfl) (Aj GMi hrMi rfl N.FMi.2.2 N.FMi.1.kp N.FMi.2.1 .nil Az (Aa (pv 2) (Aa Ad (Aa (Ax BJ rfl T.len PySem.boot_len (Aa (BR hu (pv 0) Ao (fun _ _=>rfl)) Ab)) Ab)))))
   (Ae (Ba (i:=4) Qf.nd rfl (Or.inl rfl) (Aj GMi hrMi rfl N.FMi.2.2 N.FMi.1.kp N.FMi.2.1 .nil Az (Aa (pv 2) (Aa Ad (Aa (Ax BJ rfl T.len PySem.boot_len (Aa (BR hu (pv 0) Ao (fun _ _=>rfl)) Ab)) Ab)))))
   (Ae (Ba (i:=5) Qf.nd rfl (Or.inl rfl) (BW Fj (Aj GMi hrMi rfl N.FMi.2.2 N.FMi.1.kp N.FMi.2.1 .nil Az (Aa (pv 2) (Aa Ad (Aa Ad Ab)))) Ad))
   (Ae (Bq (Bb Dd (Aj GMi hrMi rfl N.FMi.2.2 N.FMi.1.kp N.FMi.2.1 .nil Az (Aa (pv 2) (Aa Ad (Aa Ad Ab)))) Ad (Bd _)) (Ag (Ba (i:=5) Qf.nd rfl (Or.inl rfl) (BW Fj (BW Ca (BW Dq (pv 2) Ad) Ad) Ad))) Bc)
   (Ae (Ci (Ef PySem.F.plainAttrs_list PySem.F.slot_list_append PySem.F.type_list_append Bu (BR hu (pv 0) Ao (fun _ _=>rfl)) (Aa (Cd (Aa Ao (Aa (pv 1) Ab))) Ab)))
   (Ae (Ci (Ef PySem.F.plainAttrs_list PySem.F.slot_list_append PySem.F.type_list_append Bu (BR hu (pv 0) Ao (fun _ _=>rfl)) (Aa (Cd (Aa (pv 3) (Aa (pv 4) (Aa (pv 5) Ab)))) Ab)))
   (Ag (Ay (Cd (Aa Ao (Aa (pv 1) (Aa (BV (A_ (K:=K) rfl) (BV Cg (BR hu (pv 0) Ao (fun _ _=>rfl)) (pv 3) (fun _ _=>rfl)) Ad (fun _ _=>rfl)) (Aa (BV (A_ (K:=K) rfl) (BV Cg (BR hu (pv 0) Ao (fun _ _=>rfl)) (pv 4) (fun _ _=>rfl)) Ad (fun _ _=>rfl)) (Aa (pv 5) Ab)))))))))))))),?_⟩
  have hx:=id I.h
  obtain ⟨kvs,g1,g2,y1,y2,y3,y4,y5,y6,y7⟩:=hx.dp
  obtain ⟨vb,b1,b2⟩:=hx.b
  obtain ⟨vn,n1,n2⟩:=hx.n
  have lb:=b2.length
  have ln:=n2.length
  have lk:=I.k.lk
  have lr:=I.l
  have gb:=Bs.k (k:=Sum.inr "boards") g1
  rw [y2] at gb
  have g:=Bs.k (k:=Sum.inr "knobs") g1
  rw [y4] at g
  refine ⟨_,rfl,_,rfl,A.p,_,rfl,gb,A.b,_,rfl,.inl (.inl (.inl b1)),c,52501,_,rfl,(by show (0:Int)<((vb.length:Nat):Int); omega),by decide,by decide,fun u u0 u1=>?_⟩
  obtain ⟨b,hb⟩:=Int.eq_ofNat_of_zero_le u0
  subst hb
  obtain ⟨x1,hxb⟩:∃ x,S.bs[b]? = some x:=⟨_,List.getElem?_eq_getElem (by omega)⟩
  have nx1:=I.k.Z0 I.b hxb
  refine ⟨_,rfl,_,rfl,A.p,_,rfl,gb,A.b,_,rfl,.inl (.inl (.inl b1)),c,65003,_,rfl,(by show (0:Int)<((vb.length:Nat):Int); omega),by decide,by decide,fun u' u0' u1'=>?_⟩
  obtain ⟨b',hb'⟩:=Int.eq_ofNat_of_zero_le u0'
  subst hb'
  obtain ⟨x2,hxb'⟩:∃ x,S.bs[b']? = some x:=⟨_,List.getElem?_eq_getElem (by omega)⟩
  have nx2:=I.k.Z0 I.b hxb'
  refine ⟨_,rfl,c,31547,13,rfl,by decide,by decide,by decide,fun sh sh0 sh1=>⟨_,_,rfl,rfl,?_⟩⟩
  show DR 5 (V.int (sh - 6)) _ _ _
  obtain ⟨sv,es⟩:∃ sv,sh - 6=sv:=⟨_,rfl⟩
  rw [es]
  refine ⟨_,rfl,c,44623,4,rfl,by decide,by decide,by decide,fun z z0 z1=>⟨rfl,_,rfl,C_ (fun _=>?_) (fun _=>?_)⟩⟩
  ·refine ⟨_,rfl,_,_,rfl,rfl,⟨by decide,by decide⟩,_,_,rfl,rfl,(by show (0:Int)<121; decide),_,_,rfl,rfl,?_⟩
   show DR 5 (V.int (c / 7 % 121 - 60)) _ _ _
   obtain ⟨sw,ew⟩:∃ sw,c / 7 % 121 - 60=sw:=⟨_,rfl⟩
   rw [ew]
   refine ⟨_,rfl,A.p,_,rfl,g,.inl ⟨rfl,_,.inl (.inl n1)⟩,_,rfl,by show 2<=sizeLine; decide,fun T3 hT3=>?_⟩
   have s3:=Ak (o:=HO.tup [V.str "coupler",.str (Dl bb S.rows.length)]) hT3
   have t3:TupAt (upd H T3 (HO.tup [V.str "coupler",.str (Dl bb S.rows.length)])) (S9 ⟨"coupler",Dl bb S.rows.length,[.str x1.1,.str x2.1,.int sw]⟩) (.ref T3):=⟨T3,rfl,Af⟩
   generalize upd H T3 (HO.tup [V.str "coupler",.str (Dl bb S.rows.length)])=H3 at s3 t3 ⊢
   have h3:=(hx.mono s3).RJ (s3 _ _ n1) t3
   refine ⟨A.n,vn,_,rfl,rfl,s3 _ _ n1,Ar (by omega),?_⟩
   generalize upd H3 A.n _=H4 at h3 ⊢
   obtain ⟨kvs4,g14,_,_,w2,_,_,w5,_,w7⟩:=h3.dp
   obtain ⟨vd,d1,d2,d3⟩:=h3.d
   have gd:=Bs.k (k:=Sum.inr "details") g14
   rw [w5] at gd
   refine ⟨_,rfl,A.p,_,rfl,gd,.inl ⟨rfl,_,.inl (.inl d1)⟩,_,rfl,_,rfl,_,rfl,by show 3<=sizeLine; decide,fun T5 hT5=>?_⟩
   have s5:=Ak (o:=HO.tup [V.int (b:Nat),.int (b':Nat),.int sw]) hT5
   have t5:Gj (upd H4 T5 (HO.tup [V.int (b:Nat),.int (b':Nat),.int sw])) (.coup b b' sw,[]) (.ref T5):=⟨T5,rfl,Af⟩
   generalize upd H4 T5 (HO.tup [V.int (b:Nat),.int (b':Nat),.int sw])=H5 at s5 t5 ⊢
   have h5:=(h3.mono s5).Rk (s5 _ _ d1) t5 (fun L' hL'=>nomatch hL')
   have ld3:vd.length<=100:=by
    have ld:=d3.length
    rw [List.length_zip] at ld
    have:S.ds.length=S.ks.length:=I.k.pd.length.symm
    have:vd.length<=S.ds.length:=by
     rw [← ld]
     exact Nat.min_le_left _ _
    omega
   refine ⟨A.d,vd,_,rfl,rfl,s5 _ _ d1,Ar (by omega),?_⟩
   generalize upd H5 A.d _=H6 at h5 ⊢
   obtain ⟨kvs6,g16,_,_,u2,_⟩:=h5.dp
   obtain ⟨vb6,b16,b26⟩:=h5.b
   have gb:=Bs.k (k:=Sum.inr "boards") g16
   rw [u2] at gb
   obtain ⟨yb,hyb,Tb,rfl,hTb⟩:=Bk b26 hxb
   obtain ⟨yb',hyb',Tb',rfl,hTb'⟩:=Bk b26 hxb'
   refine ⟨_,rfl,_,rfl,A.p,_,rfl,gb,_,rfl,A.b,_,_,_,rfl,rfl,.inl (.inl b16),Al hyb,Tb,_,_,_,rfl,rfl,.inl (.inl hTb),Al (j:=0) rfl,_,rfl,A.p,_,rfl,gb,_,rfl,A.b,_,_,_,rfl,rfl,.inl (.inl b16),Al hyb',Tb',_,_,_,rfl,rfl,.inl (.inl hTb'),Al (j:=0) rfl,_,rfl,by show 5<=sizeLine; decide,fun T6 hT6=>?_⟩
   exact q ⟨"coupler",Dl bb S.rows.length,[.str x1.1,.str x2.1,.int sw]⟩ _ _ _ _ _ (h5.mono (Ak hT6)) rfl ⟨T6,rfl,Af⟩ (I.k.Rt (by omega) rfl ⟨rfl,x1,x2,hxb,hxb',rfl⟩ (I.k.bl.M6 I.F.f (Dz I.b _) (I.k.fb (by omega)) (I.k.fr (by omega)) (I.k.fk (by omega)) h12 (n:=x1.2) (m:=x2.2) nx1 (List.mem_of_getElem? hxb) nx2 (List.mem_of_getElem? hxb') (by omega) (by omega)) (.inl rfl)) hb1
  ·refine ⟨_,rfl,A.p,_,rfl,g,.inl ⟨rfl,_,.inl (.inl n1)⟩,_,rfl,by show 2<=sizeLine; decide,fun T3 hT3=>?_⟩
   have s3:=Ak (o:=HO.tup [V.str "coupler",.str (Dl bb S.rows.length)]) hT3
   have t3:TupAt (upd H T3 (HO.tup [V.str "coupler",.str (Dl bb S.rows.length)])) (S9 ⟨"coupler",Dl bb S.rows.length,[.str x1.1,.str x2.1,.int sv]⟩) (.ref T3):=⟨T3,rfl,Af⟩
   generalize upd H T3 (HO.tup [V.str "coupler",.str (Dl bb S.rows.length)])=H3 at s3 t3 ⊢
   have h3:=(hx.mono s3).RJ (s3 _ _ n1) t3
   refine ⟨A.n,vn,_,rfl,rfl,s3 _ _ n1,Ar (by omega),?_⟩
   generalize upd H3 A.n _=H4 at h3 ⊢
   obtain ⟨kvs4,g14,_,_,w2,_,_,w5,_,w7⟩:=h3.dp
   obtain ⟨vd,d1,d2,d3⟩:=h3.d
   have gd:=Bs.k (k:=Sum.inr "details") g14
   rw [w5] at gd
   refine ⟨_,rfl,A.p,_,rfl,gd,.inl ⟨rfl,_,.inl (.inl d1)⟩,_,rfl,_,rfl,_,rfl,by show 3<=sizeLine; decide,fun T5 hT5=>?_⟩
   have s5:=Ak (o:=HO.tup [V.int (b:Nat),.int (b':Nat),.int sv]) hT5
   have t5:Gj (upd H4 T5 (HO.tup [V.int (b:Nat),.int (b':Nat),.int sv])) (.coup b b' sv,[]) (.ref T5):=⟨T5,rfl,Af⟩
   generalize upd H4 T5 (HO.tup [V.int (b:Nat),.int (b':Nat),.int sv])=H5 at s5 t5 ⊢
   have h5:=(h3.mono s5).Rk (s5 _ _ d1) t5 (fun L' hL'=>nomatch hL')
   have ld3:vd.length<=100:=by
    have ld:=d3.length
    rw [List.length_zip] at ld
    have:S.ds.length=S.ks.length:=I.k.pd.length.symm
    have:vd.length<=S.ds.length:=by
     rw [← ld]
     exact Nat.min_le_left _ _
    omega
   refine ⟨A.d,vd,_,rfl,rfl,s5 _ _ d1,Ar (by omega),?_⟩
   generalize upd H5 A.d _=H6 at h5 ⊢
   obtain ⟨kvs6,g16,_,_,u2,_⟩:=h5.dp
   obtain ⟨vb6,b16,b26⟩:=h5.b
   have gb:=Bs.k (k:=Sum.inr "boards") g16
   rw [u2] at gb
   obtain ⟨yb,hyb,Tb,rfl,hTb⟩:=Bk b26 hxb
   obtain ⟨yb',hyb',Tb',rfl,hTb'⟩:=Bk b26 hxb'
   refine ⟨_,rfl,_,rfl,A.p,_,rfl,gb,_,rfl,A.b,_,_,_,rfl,rfl,.inl (.inl b16),Al hyb,Tb,_,_,_,rfl,rfl,.inl (.inl hTb),Al (j:=0) rfl,_,rfl,A.p,_,rfl,gb,_,rfl,A.b,_,_,_,rfl,rfl,.inl (.inl b16),Al hyb',Tb',_,_,_,rfl,rfl,.inl (.inl hTb'),Al (j:=0) rfl,_,rfl,by show 5<=sizeLine; decide,fun T6 hT6=>?_⟩
   exact q ⟨"coupler",Dl bb S.rows.length,[.str x1.1,.str x2.1,.int sv]⟩ _ _ _ _ _ (h5.mono (Ak hT6)) rfl ⟨T6,rfl,Af⟩ (I.k.Rt (by omega) rfl ⟨rfl,x1,x2,hxb,hxb',rfl⟩ (I.k.bl.M6 I.F.f (Dz I.b _) (I.k.fb (by omega)) (I.k.fr (by omega)) (I.k.fk (by omega)) h12 (n:=x1.2) (m:=x2.2) nx1 (List.mem_of_getElem? hxb) nx2 (List.mem_of_getElem? hxb') (by omega) (by omega)) (.inl rfl)) hb1
noncomputable def Wu (K:PySem.W.Frag) (aB aP aM:Addr):Sp:=fun vs H Q _=>∃ (H0:Hp) (A:Hh) (S:Pl) (Cs:List Addr) (lo:V) (bb:Str) (c:Int),vs=[.ref A.p,.int c]/\KY K aB aP aM H0 H A S Cs lo bb/\0<(S.ks.filter fun r=>decide (V.str r.w=V.str "stop")).length/\S.ch.length<12/\1<=S.bs.length/\Iz K aB aP aM bb H0 A S Q
theorem Pz:BP ["_law_plan_here","_law_cell","_law_stops","_law_chosen","_law_k","_law_one"] ["_law_plan_here","_law_cell"] (Ac S6):=⟨rfl,rfl,rfl,by decide +kernel,rfl,by decide +kernel,by decide +kernel⟩
include N T in
theorem Xv:BK P w K mg base Bm 2 fLt dLt ["_law_plan_here","_law_cell"] (Wu K aB aP aM):=by
 have GMi:BK P w K mg base Bm 1 fMi dMi ["_law_cell","_law_by","_law_many_here"] JQ:=HF N T
 refine N.FLt.1.ok Pz (fun vs H Q E h=>?_) (fun cdv A outer s H vs Q E hr h=>?_)
 ·obtain ⟨H0,A,S,Cs,lo,bb,c,rfl,_⟩:=h
  rfl
 ·obtain ⟨H0,A,S,Cs,lo,bb,c,rfl,I,hs0,h12,hb1,q⟩:=h
  have hrMi:Be 1 _:=hr.mono (by decide)
  have hu:=Cz hr
  refine ⟨_,(Ae (Jv (i:=2) Pz.nd rfl rfl rfl (Bf (osc:=Ac S6) (N:=["_law_plan_here","_law_cell","_law_stops","_law_chosen","_law_k","_law_one"]) rfl rfl (by decide +kernel)) (FN rfl T.range (Aa (Ax BJ rfl T.len PySem.boot_len (Aa (BR hu (pv 0) Ao (fun _ _=>rfl)) Ab)) Ab)) (fun _ _ _ _=>(J9 (Bb Dd (BV (A_ (K:=K) rfl) (BV (Ds (K:=K) rfl) (BR hu (pv 1) Ao (fun _ _=>rfl)) (pv 0) (fun _ _=>rfl)) Ad (fun _ _=>rfl)) Ao (Bd _)))) (fun _ _ _ _=>(pv 0)))
   (Ae (Ba (i:=3) Pz.nd rfl (Or.inl rfl) (Bx Ab))
   (Ae (Du PassesOwn.never rfl (FN rfl T.range (Aa (BW Cr Ad (Aj GMi hrMi rfl N.FMi.2.2 N.FMi.1.kp N.FMi.2.1 .nil Az (Aa (pv 1) (Aa Ad (Aa Ad Ab))))) Ab)) (CK (i:=4) Pz.nd rfl (Or.inl rfl)) (Ae (Ba (i:=5) Pz.nd rfl (Or.inl rfl) (BV Cg (pv 2) (Aj GMi hrMi rfl N.FMi.2.2 N.FMi.1.kp N.FMi.2.1 .nil Az (Aa (BW Cr (BW Dq (pv 1) Ad) (BW Fw (pv 4) (pv 4))) (Aa Ad (Aa (Ax BJ rfl T.len PySem.boot_len (Aa (pv 2) Ab)) Ab)))) (fun _ _=>rfl)))
   (Ag (Bq (Bb Fb (pv 5) (pv 3) rfl) (Ag (Ci (Ef PySem.F.plainAttrs_list PySem.F.slot_list_append PySem.F.type_list_append Bu (pv 3) (Aa (pv 5) Ab)))) Bc))))
   (Ae (Ci (Ef PySem.F.plainAttrs_list PySem.F.slot_list_append PySem.F.type_list_append Bu (BR hu (pv 0) Ao (fun _ _=>rfl)) (Aa (pv 3) Ab)))
   (Ag (Ay (Gd JP rfl T.tuple PyProof.Rows.boot_tuple (Aa (BW I_ (Bx (Aa Ao Ab)) (Bp rfl (Bf (osc:=Ac S6) (N:=["_law_plan_here","_law_cell","_law_stops","_law_chosen","_law_k","_law_one"]) rfl rfl (by decide +kernel)) (Bl (pv 3)) (fun _ _ _ _=>CG) (fun _ _ _ _=>(BV (A_ (K:=K) rfl) (BV (Ds (K:=K) rfl) (BR hu (pv 1) Ao (fun _ _=>rfl)) (pv 0) (fun _ _=>rfl)) Ad (fun _ _=>rfl))))) Ab)))))))),?_⟩
  have hx:=id I.h
  obtain ⟨kvs,g1,g2,y1,y2,y3,y4,y5,y6,y7⟩:=hx.dp
  obtain ⟨vn,n1,n2⟩:=hx.n
  have ln:S.ks.length=vn.length:=n2.length
  have lk:=I.k.lk
  have lr:=I.l
  have g:=Bs.k (k:=Sum.inr "knobs") g1
  rw [y4] at g
  have sp:=QS hs0
  refine ⟨_,rfl,A.p,_,rfl,g,A.n,_,rfl,.inl (.inl (.inl n1)),_,rfl,by omega,by omega,?_⟩
  refine Ly (lo:=0) (n:=vn.length) (fun i=>RD S.ks i.toNat) (fun i=>.int i) (Ar (by omega)) (fun i hi H' hs R k=>?_) (fun i hi _ H' hs R k=>⟨_,rfl,k H' (Am.refl H')⟩) (fun D1 H1 hD1 s1 hl1=>?_)
  ·have g':=Bs.k (k:=Sum.inr "knobs") (hs _ _ g1)
   rw [y4] at g'
   obtain ⟨kr,hkr⟩:∃ x,S.ks[i]? = some x:=⟨_,List.getElem?_eq_getElem (by omega)⟩
   obtain ⟨yn,hyn,Tn,rfl,hTn⟩:=Bk n2 hkr
   refine ⟨_,rfl,A.p,_,rfl,g',_,rfl,A.n,_,_,_,rfl,rfl,.inl (.inl (hs _ _ n1)),(by rw [Int.zero_add]; exact Al hyn),Tn,_,_,_,rfl,rfl,.inl (.inl (hs _ _ hTn)),Al (j:=0) rfl,rfl,_,rfl,?_⟩
   have:=k H' (Am.refl H')
   unfold RD at this
   rw [Int.zero_add,Int.toNat_natCast,hkr] at this
   exact this
  have e1:((((List.range vn.length).map fun (i:Nat)=>(0:Int)+(i:Int)).filter fun i=>RD S.ks i.toNat).map fun i=>V.int i)=Lk (Hw S.ks):=by
   unfold Hw Lk
   rw [← ln,List.filter_map,List.map_map]
   have:(fun i:Int=>RD S.ks i.toNat) ∘ (fun i:Nat=>(0:Int)+(i:Int))=RD S.ks:=by
    funext i
    show RD S.ks ((0:Int)+(i:Int)).toNat=_
    rw [Int.zero_add,Int.toNat_natCast]
   rw [this]
   refine List.map_congr_left fun i _=>?_
   show V.int (0+(i:Int))=_
   rw [Int.zero_add]
  rw [e1] at hl1
  have lst:(Hw S.ks).length<=S.ks.length:=by
   unfold Hw
   exact Nat.le_trans (List.length_filter_le _ _) (by rw [List.length_range]; exact Nat.le_refl _)
  refine ⟨Bt (by simp),fun D2 hD2=>?_⟩
  have old:=(I.h.mono s1).old hD2
  have s2:=Ak (o:=HO.lst []) hD2
  have l2:upd H1 D2 (HO.lst []) D2=some (.lst (Lk [])):=Af
  generalize upd H1 D2 (HO.lst [])=H2 at s2 l2 ⊢
  refine ⟨_,rfl,c,69623,3,rfl,by decide,by decide,by decide,fun m m0 m1=>⟨_,_,rfl,rfl,_,rfl,by omega,by omega,?_⟩⟩
  obtain ⟨mn,emn⟩:=Int.eq_ofNat_of_zero_le (by omega:0<=1+m)
  refine Hq (lo:=0) (n:=(1+m).toNat) (fun i σ H4=>Am H1 H4/\∃ (ch:List Nat) (v4 v5:Option V),H4 D2=some (.lst (Lk ch))/\ch.Nodup/\(∀ x∈ch,x∈Hw S.ks)/\ch.length<=i/\(0<i->ch ≠ [])/\σ=[some (.ref A.p),some (.int c),some (.ref D1),some (.ref D2),v4,v5]) ⟨s2,[],_,_,l2,List.nodup_nil,(fun _ z=>nomatch z),Nat.le_refl _,(fun z=>absurd z (by omega)),rfl⟩ ?_ ?_
  ·rintro i σ H4 hi ⟨s4,ch,v4,v5,hd,nd,hin,hlc,hne,rfl⟩
   have hi4:i<4:=by omega
   have hl4:=s4 _ _ hl1
   have esz:((Lk (Hw S.ks)).length:Nat)=(Hw S.ks).length:=List.length_map ..
   refine ⟨_,rfl,_,rfl,_,_,rfl,rfl,⟨by decide,by decide⟩,_,rfl,_,rfl,_,_,rfl,rfl,.inl ⟨by omega,by omega⟩,_,_,rfl,rfl,_,rfl,D1,_,rfl,.inl (.inl (.inl hl4)),_,48281,_,rfl,(by show (0:Int)<(((Lk (Hw S.ks)).length:Nat):Int); omega),by decide,by decide,fun z z0 z1=>?_⟩
   obtain ⟨j,hj⟩:=Int.eq_ofNat_of_zero_le z0
   subst hj
   obtain ⟨on,hon⟩:∃ x,(Hw S.ks)[j]? = some x:=⟨_,List.getElem?_eq_getElem (by omega)⟩
   have hon':(Lk (Hw S.ks))[j]? = some (V.int (on:Nat)):=by rw [List.getElem?_map,hon]; rfl
   refine ⟨D1,_,_,_,rfl,rfl,.inl (.inl hl4),Al hon',?_⟩
   refine ⟨_,rfl,_,rfl,D2,_,rfl,.inl (.inl (.inl hd)),rfl,QH _,_,rfl,?_⟩
   rw [Rf]
   by_cases hm:on∈ch
   ·rw [decide_eq_true hm]
    exact Dg ⟨s4,ch,_,_,hd,nd,hin,by omega,fun _ z=>(by rw [z] at hm; exact nomatch hm),rfl⟩
   ·rw [decide_eq_false hm]
    refine Dy ⟨_,rfl,.inl ⟨rfl,_,.inl (.inl hd)⟩,_,rfl,D2,_,_,rfl,rfl,hd,Ar (by rw [List.length_map]; omega),?_⟩
    refine ⟨Dh s4 hD2,ch++[on],_,_,?_,?_,fun x hx=>?_,by simp; omega,fun _=>by simp,rfl⟩
    ·rw [Af]
     unfold Lk
     rw [List.map_append]
     rfl
    ·exact List.nodup_append.mpr ⟨nd,by simp,fun x hx y hy z=>hm (by rw [← List.mem_singleton.mp hy,← z]; exact hx)⟩
    ·rcases List.mem_append.mp hx with z | z
     ·exact hin x z
     ·rw [List.mem_singleton.mp z]
      exact List.mem_of_getElem? hon
  ·rintro σ H4 ⟨s4,ch,v4,v5,hd,nd,hin,hlc,hne,rfl⟩
   have h4:=I.h.mono (s1.trans s4)
   obtain ⟨kvs4,g14,_,_,_,_,_,_,u6,_⟩:=h4.dp
   have gs:=Bs.k (k:=Sum.inr "steps") g14
   rw [u6] at gs
   have lcs:Cs.length=S.ch.length:=h4.c.length
   obtain ⟨i0,cc,rfl⟩:∃ i0 cc,ch=i0::cc:=by
    cases ch with
    | nil=>exact absurd rfl (hne (by omega))
    | cons a b=>exact ⟨a,b,rfl⟩
   have h5:=h4.Eh (C:=D2) (l:=i0::cc) hd old.2
   have hd5:upd H4 A.s (HO.lst (Cs.map V.ref++[.ref D2])) D2=some (.lst (Lk (i0::cc))):=by
    rw [An fun z=>old.2 (by rw [z]; simp)]
    exact hd
   refine ⟨_,rfl,A.p,_,rfl,gs,.inl ⟨rfl,_,.inl (.inl h4.s)⟩,_,rfl,A.s,_,_,rfl,rfl,h4.s,Ar (by rw [List.length_map]; omega),?_⟩
   generalize upd H4 A.s (HO.lst (Cs.map V.ref++[.ref D2]))=H5 at h5 hd5 ⊢
   refine ⟨by show 1<=sizeLine; decide,fun p6 hp6=>?_⟩
   have s6:=Ak (o:=HO.lst [V.str "step"]) hp6
   have l6:upd H5 p6 (HO.lst [V.str "step"]) p6=some (.lst [V.str "step"]):=Af
   generalize upd H5 p6 (HO.lst [V.str "step"])=H6 at s6 l6 ⊢
   have h6:=h5.mono s6
   have hS6:Cm K H6 D2 (Lk (i0::cc)):=.inl (.inl (s6 _ _ hd5))
   obtain ⟨kvs6,g16,_,_,_,_,u4,_⟩:=h6.dp
   obtain ⟨vn6,n16,n26⟩:=h6.n
   refine ⟨_,rfl,D2,rfl,⟨_,hS6⟩,CN (K:=K) (xs:=Lk (i0::cc)) (fun _=>true) (Z4 S.ks) hS6 (Ar (by rw [List.length_map]; omega)) (fun y hy H' hs R k=>k H' (Am.refl H')) (fun y hy _ H' hs R k=>?_) (fun D7 H7 hD7 s7 hl7=>?_)⟩
   ·obtain ⟨i,hi,rfl⟩:=List.mem_map.mp hy
    obtain ⟨kr,hkr,_⟩:=Kc (hin i hi)
    obtain ⟨yn,hyn,Tn,rfl,hTn⟩:=Bk n26 hkr
    have g':=Bs.k (k:=Sum.inr "knobs") (hs _ _ g16)
    rw [u4] at g'
    refine ⟨_,rfl,A.p,_,rfl,g',_,rfl,A.n,_,_,_,rfl,rfl,.inl (.inl (hs _ _ n16)),Al hyn,Tn,_,_,_,rfl,rfl,.inl (.inl (hs _ _ hTn)),Al (j:=1) rfl,?_⟩
    have:=k H' (Am.refl H')
    unfold Z4 at this
    dsimp only at this
    rw [Int.toNat_natCast,LK hkr] at this
    exact this
   rw [List.filter_eq_self.mpr (fun _ _=>rfl)] at hl7
   have e7:(Lk (i0::cc)).map (Z4 S.ks)=V.str (Ht S.ks i0)::(cc.map (Ht S.ks)).map V.str:=by
    unfold Lk
    rw [List.map_map,List.map_cons,List.map_map]
    rfl
   rw [e7] at hl7
   refine ⟨p6,D7,_,_,rfl,rfl,s7 _ _ l6,hl7,by (show 1+((cc.map (Ht S.ks)).map V.str).length+1<=sizeLine); rw [List.length_map,List.length_map]; simp only [List.length_cons] at hlc; exact Bt (by omega),fun p8 hp8=>?_⟩
   have s8:=Ak (o:=HO.lst ([V.str "step"]++(V.str (Ht S.ks i0)::(cc.map (Ht S.ks)).map V.str))) hp8
   refine ⟨p8,_,rfl,.inl ⟨.inl (.inl Af),fun T9 hT9=>?_⟩⟩
   have s9:=Ak (o:=HO.tup ([V.str "step"]++(V.str (Ht S.ks i0)::(cc.map (Ht S.ks)).map V.str))) hT9
   exact q ⟨"step",Ht S.ks i0,(cc.map (Ht S.ks)).map V.str⟩ _ _ _ _ _ (h6.mono (s7.trans (s8.trans s9))) rfl ⟨T9,rfl,Af⟩ (I.k.step I.F.mT I.b nd (by omega) (fun i hi=>Kc (hin i hi)) h12) hb1
theorem TX {c:TT} {t u:TS} {D:Ends} {σ:St} {H:Hp} (C:Bool->Hp->Prop) (hc:∀ Q:Bool->Hp->Prop,(∀ H1,C true H1->Q true H1)->(∀ H1,C false H1->Q false H1)->c σ H Q) (ht:∀ H1,C true H1->t { D with nx:=u D } σ H1) (hu:∀ H1,C false H1->u D σ H1):ZQ (Xm c t S7) u D σ H :=
 hc _ (fun H1 h=>by rw [if_pos rfl]; exact ht H1 h) (fun H1 h=>by rw [if_neg Bool.false_ne_true]; exact hu H1 h)
noncomputable def Wo (K:PySem.W.Frag) (aB aP aM:Addr):Sp:=fun vs H Q _=>∃ (H0:Hp) (A:Hh) (S:Pl) (Cs:List Addr) (lo:V) (bb:Str) (c:Int),vs=[.ref A.p,.str (Dl bb S.rows.length),.int c]/\KY K aB aP aM H0 H A S Cs lo bb/\Iz K aB aP aM bb H0 A S Q/\∀ H',Am H H'->1<=S.bs.length->Q .non H'
theorem U9:BP ["_law_plan_here","_law_name_here","_law_cell","_law_way","_law_at"] ["_law_plan_here","_law_name_here","_law_cell"] (Ac Vj):=⟨rfl,rfl,rfl,by decide +kernel,rfl,by decide +kernel,by decide +kernel⟩
include N T in
theorem ZP:BK P w K mg base Bm 3 fLr dLr ["_law_plan_here","_law_name_here","_law_cell"] (Wo K aB aP aM):=by
 have GMi:BK P w K mg base Bm 1 fMi dMi ["_law_cell","_law_by","_law_many_here"] JQ:=HF N T
 have GMa:BK P w K mg base Bm 1 fMa dMa ["_law_plan_here","_law_word"] Xh:=Xw N T
 have GLb:BK P w K mg base Bm 2 fLb dLb ["_law_plan_here","_law_name_here","_law_cell"] (ZC K aB aP aM):=YK N T
 have GLk:BK P w K mg base Bm 2 fLk dLk ["_law_plan_here","_law_name_here","_law_cell"] (ZS K aB aP aM):=Yk N T
 have GLs:BK P w K mg base Bm 2 fLs dLs ["_law_plan_here","_law_name_here","_law_cell"] (Y0 K aB aP aM):=Yz N T
 have GLl:BK P w K mg base Bm 2 fLl dLl ["_law_plan_here","_law_cell"] (Yr K aB aP aM):=Yy N T
 have GLc:BK P w K mg base Bm 2 fLc dLc ["_law_plan_here","_law_name_here","_law_cell"] (YH K aB aP aM):=XS N T
 have GLt:BK P w K mg base Bm 2 fLt dLt ["_law_plan_here","_law_cell"] (Wu K aB aP aM):=Xv N T
 refine N.FLr.1.ok U9 (fun vs H Q E h=>?_) (fun cdv A outer s H vs Q E hr h=>?_)
 ·obtain ⟨H0,A,S,Cs,lo,bb,c,rfl,_⟩:=h
  rfl
 ·obtain ⟨H0,A,S,Cs,lo,bb,c,rfl,I,q,qn⟩:=h
  have hrMi:Be 1 _:=hr.mono (by decide)
  have hrMa:Be 1 _:=hr.mono (by decide)
  have hrLb:Be 2 _:=hr.mono (by decide)
  have hrLk:Be 2 _:=hr.mono (by decide)
  have hrLs:Be 2 _:=hr.mono (by decide)
  have hrLl:Be 2 _:=hr.mono (by decide)
  have hrLc:Be 2 _:=hr.mono (by decide)
  have hrLt:Be 2 _:=hr.mono (by decide)
  have hu:=Cz hr
  refine ⟨_,(Ae (Ba (i:=3) U9.nd rfl (Or.inl rfl) (Aj GMi hrMi rfl N.FMi.2.2 N.FMi.1.kp N.FMi.2.1 .nil Az (Aa (pv 2) (Aa Ad (Aa Ad Ab)))))
   (Ae (Bq (Bb (Hk (Nat.lt_of_succ_lt hu)) (BR hu (pv 0) Ao (fun _ _=>rfl)) (Bx Ab) (Bd _)) (Ag (Ay (Aj GLb hrLb rfl N.FLb.2.2 N.FLb.1.kp N.FLb.2.1 .nil Az (Aa (pv 0) (Aa (pv 1) (Aa (pv 2) Ab)))))) Bc)
   (Ae (Bq (PW.pt (Gq (Bb (Hk (Nat.lt_of_succ_lt hu)) (BR hu (pv 0) Ao (fun _ _=>rfl)) (Bx Ab) (Bd _)) (G8 (PW.pt (GQ (Bb Dd (pv 3) Ad (Bd _)) (Gf (Bb E_ (Ax BJ rfl T.len PySem.boot_len (Aa (BR hu (pv 0) Ao (fun _ _=>rfl)) Ab)) Ad (Bd _)))))))) (Ag (Ay (Aj GLk hrLk rfl N.FLk.2.2 N.FLk.1.kp N.FLk.2.1 .nil Az (Aa (pv 0) (Aa (pv 1) (Aa (pv 2) Ab)))))) Bc)
   (Ae (Bq (PW.pt (GQ (Bb Dd (pv 3) Ad (Bd _)) (Gf (Bb E_ (Ax BJ rfl T.len PySem.boot_len (Aa (BR hu (pv 0) Ao (fun _ _=>rfl)) Ab)) Ad (Bd _))))) (Ag (Ay (Aj GLb hrLb rfl N.FLb.2.2 N.FLb.1.kp N.FLb.2.1 .nil Az (Aa (pv 0) (Aa (pv 1) (Aa (pv 2) Ab)))))) Bc)
   (Ae (Bq (PW.pt (GQ (Bb E_ (pv 3) Ad (Bd _)) (GQ (Bb M_ (BR hu (pv 0) Ao (fun _ _=>rfl)) El (Bd _)) (Gf (Bb E_ (Ax BJ rfl T.len PySem.boot_len (Aa (BR hu (pv 0) Ao (fun _ _=>rfl)) Ab)) Ad (Bd _)))))) (Ag (Ay (Aj GLl hrLl rfl N.FLl.2.2 N.FLl.1.kp N.FLl.2.1 .nil Az (Aa (pv 0) (Aa (pv 2) Ab))))) Bc)
   (Ae (Bq (PW.pt (GQ (Bb E_ (pv 3) Ad (Bd _)) (Gf (Bb E_ (Aj GMa hrMa rfl N.FMa.2.2 N.FMa.1.kp N.FMa.2.1 .nil Az (Aa (pv 0) (Aa Ao Ab))) Ad (Bd _))))) (Ag (Ay (Aj GLs hrLs rfl N.FLs.2.2 N.FLs.1.kp N.FLs.2.1 .nil Az (Aa (pv 0) (Aa (pv 1) (Aa (pv 2) Ab)))))) Bc)
   (Ae (Bq (PW.pt (GQ (Bb Dd (pv 3) Ad (Bd _)) (Gf (Bb E_ (Aj GMa hrMa rfl N.FMa.2.2 N.FMa.1.kp N.FMa.2.1 .nil Az (Aa (pv 0) (Aa Ao Ab))) Ad (Bd _))))) (Ae (Ba (i:=4) U9.nd rfl (Or.inl rfl) (Aj GMi hrMi rfl N.FMi.2.2 N.FMi.1.kp N.FMi.2.1 .nil Az (Aa (pv 2) (Aa Ad (Aa (Ax BJ rfl T.len PySem.boot_len (Aa (BR hu (pv 0) Ao (fun _ _=>rfl)) Ab)) Ab)))))
   (Ae (Ci (Ef PySem.F.plainAttrs_list PySem.F.slot_list_append PySem.F.type_list_append Bu (BR hu (pv 0) Ao (fun _ _=>rfl)) (Aa (Cd (Aa Ao (Aa (pv 1) Ab))) Ab)))
   (Ae (Ci (Ef PySem.F.plainAttrs_list PySem.F.slot_list_append PySem.F.type_list_append Bu (BR hu (pv 0) Ao (fun _ _=>rfl)) (Aa (pv 4) Ab)))
   (Ag (Ay (Cd (Aa Ao (Aa (pv 1) (Aa (BV (A_ (K:=K) rfl) (BV Cg (BR hu (pv 0) Ao (fun _ _=>rfl)) (pv 4) (fun _ _=>rfl)) Ad (fun _ _=>rfl)) Ab))))))))) Bc)
   (Ae (Bq (PW.pt (GQ (Bb Dd (pv 3) Ad (Bd _)) (GQ (Bb ZF (Aj GMa hrMa rfl N.FMa.2.2 N.FMa.1.kp N.FMa.2.1 .nil Az (Aa (pv 0) (Aa Ao Ab))) Ad (Bd _)) (Gf (Bb E_ (Ax BJ rfl T.len PySem.boot_len (Aa (BR hu (pv 0) Ao (fun _ _=>rfl)) Ab)) Ad (Bd _)))))) (Ag (Ay (Aj GLt hrLt rfl N.FLt.2.2 N.FLt.1.kp N.FLt.2.1 .nil Az (Aa (pv 0) (Aa (pv 2) Ab))))) Bc)
   (Ae (Bq (Bb E_ (Aj GMa hrMa rfl N.FMa.2.2 N.FMa.1.kp N.FMa.2.1 .nil Az (Aa (pv 0) (Aa Ao Ab))) Ad (Bd _)) (Ag (Ay (Aj GLc hrLc rfl N.FLc.2.2 N.FLc.1.kp N.FLc.2.1 .nil Az (Aa (pv 0) (Aa (pv 1) (Aa (pv 2) Ab)))))) Bc)
   (Ag (Ay El))))))))))),?_⟩
  have lr:=I.l
  have lk:=I.k.lk
  have up:∀ {H1:Hp},Am H H1->KY K aB aP aM H0 H1 A S Cs lo bb:=fun s1=>⟨I.h.mono s1,I.k,I.b,I.l,I.F⟩
  refine ⟨_,rfl,c,48271,12,rfl,by decide,by decide,by decide,fun way w0 w1=>?_⟩
  dsimp only [DR]
  refine TX (fun b H1=>Am H H1/\(b=true->S.bs.length<5)/\(b=false->1<=S.bs.length)) (fun Q' qt qf=>?_) (fun H1 hC=>?_) (fun H1 hC=>?_)
  ·obtain ⟨kvs,g1,g2,y1,y2,y3,y4,y5,y6,y7⟩:=I.h.dp
   obtain ⟨vb,b1,b2⟩:=I.h.b
   have lb:S.bs.length=vb.length:=b2.length
   have gb:=Bs.k (k:=Sum.inr "boards") g1
   rw [y2] at gb
   refine ⟨_,rfl,A.p,_,rfl,gb,Bt (by simp),fun E1 hE1=>?_⟩
   have s1:=Ak (o:=HO.lst []) hE1
   have l1:upd H E1 (HO.lst []) E1=some (.lst []):=Af
   refine ⟨A.b,E1,_,rfl,rfl,.inl (.inl (s1 _ _ b1)),.inl (.inl l1),_,rfl,?_⟩
   cases vb with
   | nil=>exact qt _ ⟨s1,fun _=>by rw [lb]; decide,fun z=>nomatch z⟩
   | cons a b'=>exact qf _ ⟨s1,(fun z=>nomatch z),fun _=>by rw [lb]; simp⟩
  ·exact ⟨_,rfl,_,rfl,_,rfl,H0,A,S,Cs,lo,bb,c,rfl,up hC.1,hC.2.1 rfl,q⟩
  have s1:=hC.1
  have hb1:=hC.2.2 rfl
  clear hC
  refine TX (fun b H2=>Am H H2/\(b=true->S.rk.length<12)/\(b=false->1<=S.rk.length)) (fun Q' qt qf=>?_) (fun H2 hC=>?_) (fun H2 hC=>?_)
  ·obtain ⟨kvs,g1,g2,y1,y2,y3,y4,y5,y6,y7⟩:=(I.h.mono s1).dp
   obtain ⟨vb,b1,b2⟩:=(I.h.mono s1).k
   have lb:S.rk.length=vb.length:=b2.length
   have gb:=Bs.k (k:=Sum.inr "ranks") g1
   rw [y3] at gb
   refine ⟨_,rfl,A.p,_,rfl,gb,Bt (by simp),fun E1 hE1=>?_⟩
   have s2:=Ak (o:=HO.lst []) hE1
   have l1:upd H1 E1 (HO.lst []) E1=some (.lst []):=Af
   refine ⟨A.k,E1,_,rfl,rfl,.inl (.inl (s2 _ _ b1)),.inl (.inl l1),_,rfl,?_⟩
   have gb2:=Bs.k (k:=Sum.inr "ranks") (s2 _ _ g1)
   rw [y3] at gb2
   cases vb with
   | nil=>exact qt _ ⟨s1.trans s2,fun _=>by rw [lb]; decide,fun z=>nomatch z⟩
   | cons a b' =>
    have h1r:1<=S.rk.length:=by rw [lb]; simp
    refine ⟨_,rfl,rfl,_,rfl,C_ (fun _=>?_) (fun _=>qf _ ⟨s1.trans s2,(fun z=>nomatch z),fun _=>h1r⟩)⟩
    refine ⟨_,rfl,A.p,_,rfl,gb2,A.k,_,rfl,.inl (.inl (.inl (s2 _ _ b1))),_,_,rfl,rfl,_,rfl,?_⟩
    by_cases hh:S.rk.length<12
    ·rw [decide_eq_true (by rw [← lb]; omega:((((a::b').length:Nat):Int))<12)]
     exact qt _ ⟨s1.trans s2,fun _=>hh,fun z=>nomatch z⟩
    ·rw [decide_eq_false (by rw [← lb]; omega:¬ ((((a::b').length:Nat):Int))<12)]
     exact qf _ ⟨s1.trans s2,(fun z=>nomatch z),fun _=>h1r⟩
  ·exact ⟨_,rfl,_,rfl,_,rfl,H0,A,S,Cs,lo,bb,c,rfl,up hC.1,hC.2.1 rfl,hb1,q⟩
  have s2:=hC.1
  have hr1:=hC.2.2 rfl
  clear hC s1
  refine TX (fun b H3=>Am H H3/\(b=true->S.bs.length<5)) (fun Q' qt qf=>?_) (fun H3 hC=>?_) (fun H3 hC=>?_)
  ·obtain ⟨kvs,g1,g2,y1,y2,y3,y4,y5,y6,y7⟩:=(I.h.mono s2).dp
   obtain ⟨vb,b1,b2⟩:=(I.h.mono s2).b
   have lb:S.bs.length=vb.length:=b2.length
   have gb:=Bs.k (k:=Sum.inr "boards") g1
   rw [y2] at gb
   refine ⟨_,rfl,rfl,_,rfl,C_ (fun _=>?_) (fun _=>qf _ ⟨s2,fun z=>nomatch z⟩)⟩
   refine ⟨_,rfl,A.p,_,rfl,gb,A.b,_,rfl,.inl (.inl (.inl b1)),_,_,rfl,rfl,_,rfl,?_⟩
   by_cases hh:S.bs.length<5
   ·rw [decide_eq_true (by rw [← lb]; omega:((vb.length:Nat):Int)<5)]
    exact qt _ ⟨s2,fun _=>hh⟩
   ·rw [decide_eq_false (by rw [← lb]; omega:¬ ((vb.length:Nat):Int)<5)]
    exact qf _ ⟨s2,fun z=>nomatch z⟩
  ·exact ⟨_,rfl,_,rfl,_,rfl,H0,A,S,Cs,lo,bb,c,rfl,up hC.1,hC.2 rfl,q⟩
  have s3:=hC.1
  clear hC s2
  refine TX (fun b H4=>Am H H4/\(b=true->∃ ds0 b L x ls0 l0,S.ds=ds0++[Dt.stop b L]/\S.ls=ls0++[l0]/\lo=V.ref L/\S.bs[b]? = some x/\Tl S.rows x.1 l0.length/\l0.length<4)) (fun Q' qt qf=>?_) (fun H4 hC=>?_) (fun H4 hC=>?_)
  ·obtain ⟨kvs,g1,g2,y1,y2,y3,y4,y5,y6,y7⟩:=(I.h.mono s3).dp
   have gb:=Bs.k (k:=Sum.inr "lines") g1
   rw [y7] at gb
   refine ⟨_,rfl,_,_,rfl,rfl,_,rfl,C_ (fun _=>?_) (fun _=>qf _ ⟨s3,fun z=>nomatch z⟩)⟩
   refine ⟨_,rfl,A.p,_,rfl,gb,?_⟩
   refine ⟨rfl,_,rfl,?_⟩
   rcases I.k.op with rfl | ⟨ds0,b,L,x,ls0,l0,e1,e2,rfl,hx,hT⟩
   ·exact Dg (qf _ ⟨s3,fun z=>nomatch z⟩)
   obtain ⟨vd,d1,d2,d3⟩:=(I.h.mono s3).d
   have ld:ds0.length=ls0.length:=by
    have:=d2
    rw [e1,e2] at this
    simpa using this
   rw [e1,e2,List.zip_append ld] at d3
   obtain ⟨vd0,ud,rfl,_,hud⟩:=Fo d3
   obtain ⟨_,ts,hL,hts⟩:=hud
   have lts:l0.length=ts.length:=hts.length
   refine Dy ⟨_,rfl,A.p,_,rfl,gb,L,_,rfl,.inl (.inl (.inl hL)),_,_,rfl,rfl,_,rfl,?_⟩
   by_cases hh:l0.length<4
   ·rw [decide_eq_true (by omega:((ts.length:Nat):Int)<4)]
    exact qt _ ⟨s3,fun _=>⟨ds0,b,L,x,ls0,l0,e1,e2,rfl,hx,hT,hh⟩⟩
   ·rw [decide_eq_false (by omega:¬ ((ts.length:Nat):Int)<4)]
    exact qf _ ⟨s3,fun z=>nomatch z⟩
  ·obtain ⟨s4,hC⟩:=hC
   obtain ⟨ds0,b,L,x,ls0,l0,e1,e2,rfl,hx,hT,hh⟩:=hC rfl
   exact ⟨_,rfl,_,rfl,H0,A,S,Cs,bb,c,ds0,b,L,x,ls0,l0,rfl,up s4,e1,e2,hx,hT,hh,hr1,q⟩
  have s4:=hC.1
  clear hC s3
  refine TX (fun b H5=>Am H H5/\(b=true->(S.ks.filter fun r=>decide (V.str r.w=V.str "stop")).length<24)) (fun Q' qt qf=>?_) (fun H5 hC=>?_) (fun H5 hC=>?_)
  ·refine ⟨_,rfl,_,_,rfl,rfl,_,rfl,C_ (fun _=>?_) (fun _=>qf _ ⟨s4,fun z=>nomatch z⟩)⟩
   refine ⟨_,rfl,H0,A,S,Cs,lo,"stop",rfl,I.h.mono s4,by omega,fun H9 s9=>⟨_,_,rfl,rfl,_,rfl,?_⟩⟩
   by_cases hh:(S.ks.filter fun r=>decide (V.str r.w=V.str "stop")).length<24
   ·rw [decide_eq_true (by omega:(((S.ks.filter fun r=>decide (V.str r.w=V.str "stop")).length:Nat):Int)<24)]
    exact qt _ ⟨s4.trans s9,fun _=>hh⟩
   ·rw [decide_eq_false (by omega:¬ (((S.ks.filter fun r=>decide (V.str r.w=V.str "stop")).length:Nat):Int)<24)]
    exact qf _ ⟨s4.trans s9,fun z=>nomatch z⟩
  ·exact ⟨_,rfl,_,rfl,_,rfl,H0,A,S,Cs,lo,bb,c,rfl,up hC.1,hb1,hC.2 rfl,q⟩
  have s5:=hC.1
  clear hC s4
  refine TX (fun b H6=>Am H H6/\(b=true->(S.ks.filter fun r=>decide (V.str r.w=V.str "mute")).length<5)) (fun Q' qt qf=>?_) (fun H6 hC=>?_) (fun H6 hC=>?_)
  ·refine ⟨_,rfl,rfl,_,rfl,C_ (fun _=>?_) (fun _=>qf _ ⟨s5,fun z=>nomatch z⟩)⟩
   refine ⟨_,rfl,H0,A,S,Cs,lo,"mute",rfl,I.h.mono s5,by omega,fun H9 s9=>⟨_,_,rfl,rfl,_,rfl,?_⟩⟩
   by_cases hh:(S.ks.filter fun r=>decide (V.str r.w=V.str "mute")).length<5
   ·rw [decide_eq_true (by omega:(((S.ks.filter fun r=>decide (V.str r.w=V.str "mute")).length:Nat):Int)<5)]
    exact qt _ ⟨s5.trans s9,fun _=>hh⟩
   ·rw [decide_eq_false (by omega:¬ (((S.ks.filter fun r=>decide (V.str r.w=V.str "mute")).length:Nat):Int)<5)]
    exact qf _ ⟨s5.trans s9,fun z=>nomatch z⟩
  ·obtain ⟨s6,hm5⟩:=hC
   have hm5:=hm5 rfl
   have hx:=I.h.mono s6
   obtain ⟨kvs,g1,g2,y1,y2,y3,y4,y5,y6,y7⟩:=hx.dp
   obtain ⟨vb,b1,b2⟩:=hx.b
   obtain ⟨vn,n1,n2⟩:=hx.n
   have lb:S.bs.length=vb.length:=b2.length
   have ln:S.ks.length=vn.length:=n2.length
   have gb:=Bs.k (k:=Sum.inr "boards") g1
   rw [y2] at gb
   have g:=Bs.k (k:=Sum.inr "knobs") g1
   rw [y4] at g
   refine ⟨_,rfl,_,rfl,A.p,_,rfl,gb,A.b,_,rfl,.inl (.inl (.inl b1)),c,50021,_,rfl,(by show (0:Int)<((vb.length:Nat):Int); omega),by decide,by decide,fun u u0 u1=>?_⟩
   obtain ⟨b,hb⟩:=Int.eq_ofNat_of_zero_le u0
   subst hb
   obtain ⟨x1,hxb⟩:∃ x,S.bs[b]? = some x:=⟨_,List.getElem?_eq_getElem (by omega)⟩
   have nx1:=I.k.Z0 I.b hxb
   refine ⟨_,rfl,A.p,_,rfl,g,.inl ⟨rfl,_,.inl (.inl n1)⟩,_,rfl,by show 2<=sizeLine; decide,fun T3 hT3=>?_⟩
   have s3:=Ak (o:=HO.tup [V.str "mute",.str (Dl bb S.rows.length)]) hT3
   have t3:TupAt (upd H6 T3 (HO.tup [V.str "mute",.str (Dl bb S.rows.length)])) (S9 ⟨"mute",Dl bb S.rows.length,[.str x1.1]⟩) (.ref T3):=⟨T3,rfl,Af⟩
   generalize upd H6 T3 (HO.tup [V.str "mute",.str (Dl bb S.rows.length)])=H7 at s3 t3 ⊢
   have h3:=(hx.mono s3).RJ (s3 _ _ n1) t3
   refine ⟨A.n,vn,_,rfl,rfl,s3 _ _ n1,Ar (by omega),?_⟩
   generalize upd H7 A.n _=H8 at h3 ⊢
   obtain ⟨kvs4,g14,_,_,w2,_,_,w5,_,w7⟩:=h3.dp
   obtain ⟨vd,d1,d2,d3⟩:=h3.d
   have gd:=Bs.k (k:=Sum.inr "details") g14
   rw [w5] at gd
   have h5:=h3.Rk d1 (x:=.mute b) (v:=.int (b:Nat)) rfl (fun L' hL'=>nomatch hL')
   have ld3:vd.length<=100:=by
    have ld:=d3.length
    rw [List.length_zip] at ld
    have:S.ds.length=S.ks.length:=I.k.pd.length.symm
    have:vd.length<=S.ds.length:=by
     rw [← ld]
     exact Nat.min_le_left _ _
    omega
   refine ⟨_,rfl,A.p,_,rfl,gd,.inl ⟨rfl,_,.inl (.inl d1)⟩,_,rfl,A.d,vd,_,rfl,rfl,d1,Ar (by omega),?_⟩
   generalize upd H8 A.d _=H9 at h5 ⊢
   obtain ⟨kvs6,g16,_,_,u2,_⟩:=h5.dp
   obtain ⟨vb6,b16,b26⟩:=h5.b
   have gb:=Bs.k (k:=Sum.inr "boards") g16
   rw [u2] at gb
   obtain ⟨yb,hyb,Tb,rfl,hTb⟩:=Bk b26 hxb
   refine ⟨_,rfl,_,rfl,A.p,_,rfl,gb,_,rfl,A.b,_,_,_,rfl,rfl,.inl (.inl b16),Al hyb,Tb,_,_,_,rfl,rfl,.inl (.inl hTb),Al (j:=0) rfl,by show 3<=sizeLine; decide,fun T6 hT6=>?_⟩
   exact q ⟨"mute",Dl bb S.rows.length,[.str x1.1]⟩ _ _ _ _ _ (h5.mono (Ak hT6)) rfl ⟨T6,rfl,Af⟩ (I.k.Rt (by omega) rfl ⟨rfl,x1,hxb,rfl⟩ (I.k.bl.plain I.F.f (.inr rfl) (Dz I.b _) (I.k.fb (by omega)) (I.k.fr (by omega)) (I.k.fk (by omega)) (by show _<5; exact hm5) (n:=x1.2) nx1 (List.mem_of_getElem? hxb)) (.inl rfl)) hb1
  have s6:=hC.1
  clear hC s5
  refine TX (fun b H7=>Am H H7/\(b=true->0<(S.ks.filter fun r=>decide (V.str r.w=V.str "stop")).length/\S.ch.length<12)) (fun Q' qt qf=>?_) (fun H7 hC=>?_) (fun H7 hC=>?_)
  ·refine ⟨_,rfl,rfl,_,rfl,C_ (fun _=>?_) (fun _=>qf _ ⟨s6,fun z=>nomatch z⟩)⟩
   refine ⟨_,rfl,H0,A,S,Cs,lo,"stop",rfl,I.h.mono s6,by omega,fun H9 s9=>⟨_,_,rfl,rfl,_,rfl,C_ (fun h0=>?_) (fun _=>qf _ ⟨s6.trans s9,fun z=>nomatch z⟩)⟩⟩
   have h0':=of_decide_eq_true h0
   have hx:=I.h.mono (s6.trans s9)
   obtain ⟨kvs,g1,g2,y1,y2,y3,y4,y5,y6,y7⟩:=hx.dp
   have g:=Bs.k (k:=Sum.inr "steps") g1
   rw [y6] at g
   have lc:Cs.length=S.ch.length:=hx.c.length
   refine ⟨_,rfl,A.p,_,rfl,g,A.s,_,rfl,.inl (.inl (.inl hx.s)),_,_,rfl,rfl,_,rfl,?_⟩
   by_cases hh:S.ch.length<12
   ·rw [decide_eq_true (by rw [List.length_map]; omega:(((Cs.map V.ref).length:Nat):Int)<12)]
    exact qt _ ⟨s6.trans s9,fun _=>⟨by omega,hh⟩⟩
   ·rw [decide_eq_false (by rw [List.length_map]; omega:¬ (((Cs.map V.ref).length:Nat):Int)<12)]
    exact qf _ ⟨s6.trans s9,fun z=>nomatch z⟩
  ·exact ⟨_,rfl,_,rfl,H0,A,S,Cs,lo,bb,c,rfl,up hC.1,(hC.2 rfl).1,(hC.2 rfl).2,hb1,q⟩
  have s7:=hC.1
  clear hC s6
  refine TX (fun b H8=>Am H H8/\(b=true->(S.ks.filter fun r=>decide (V.str r.w=V.str "coupler")).length<12)) (fun Q' qt qf=>?_) (fun H8 hC=>?_) (fun H8 hC=>?_)
  ·refine ⟨_,rfl,H0,A,S,Cs,lo,"coupler",rfl,I.h.mono s7,by omega,fun H9 s9=>⟨_,_,rfl,rfl,_,rfl,?_⟩⟩
   by_cases hh:(S.ks.filter fun r=>decide (V.str r.w=V.str "coupler")).length<12
   ·rw [decide_eq_true (by omega:(((S.ks.filter fun r=>decide (V.str r.w=V.str "coupler")).length:Nat):Int)<12)]
    exact qt _ ⟨s7.trans s9,fun _=>hh⟩
   ·rw [decide_eq_false (by omega:¬ (((S.ks.filter fun r=>decide (V.str r.w=V.str "coupler")).length:Nat):Int)<12)]
    exact qf _ ⟨s7.trans s9,fun z=>nomatch z⟩
  ·exact ⟨_,rfl,_,rfl,_,rfl,H0,A,S,Cs,lo,bb,c,rfl,up hC.1,hb1,hC.2 rfl,q⟩
  exact qn _ hC.1 hb1
structure Ed (K:PySem.W.Frag) (aB aP aM:Addr) (H0 H:Hp) (A:Hh) (S:Pl) (Cs:List Addr):Prop where
 h:∃ lo,Bg H0 H A S Cs lo
 k:∃ bb lo,Gi bb/\Dm K aB aP aM bb S lo
 b1:1<=S.bs.length
 l:S.rows.length<=61
noncomputable def Yd (K:PySem.W.Frag) (aB aP aM:Addr):Sp:=fun vs H Q _=>∃ (a:Addr) (st:Nat) (ns:List Int),vs=[.ref a,.int (st:Nat)]/\Cm K H a (ns.map V.int)/\ns.length<=1000000/\Zj K aB aP aM/\∀ (A:Hh) (S:Pl) (Cs:List Addr) H',Ed K aB aP aM H H' A S Cs->Q (.ref A.p) H'
theorem QQ:BP ["_law_script","_law_start","_law_plan_here","_law_base_here","_law_cell","_law_row_here"] ["_law_script","_law_start"] (Ac Vk):=⟨rfl,rfl,rfl,by decide +kernel,rfl,by decide +kernel,by decide +kernel⟩
include N T in
theorem Wy:BK P w K mg base Bm 4 fLp dLp ["_law_script","_law_start"] (Yd K aB aP aM):=by
 have GCe:BK P w K mg base Bm 1 fCe dCe ["_law_script","_law_k"] (Xy K):=X4 N T
 have GBb:BK P w K mg base Bm 1 fBb dBb ["_law_cell"] Yo:=X7 N T
 have GNn:BK P w K mg base Bm 1 fNn dNn ["_law_base_here","_law_k"] ZK:=ZR N T
 have GLr:BK P w K mg base Bm 3 fLr dLr ["_law_plan_here","_law_name_here","_law_cell"] (Wo K aB aP aM):=ZP N T
 refine N.FLp.1.ok QQ (fun vs H Q E h=>?_) (fun cdv A outer s H vs Q E hr h=>?_)
 ·obtain ⟨a,st,ns,rfl,_⟩:=h
  rfl
 ·obtain ⟨a,st,ns,rfl,hS,hz,F,q⟩:=h
  have hrCe:Be 1 _:=hr.mono (by decide)
  have hrBb:Be 1 _:=hr.mono (by decide)
  have hrNn:Be 1 _:=hr.mono (by decide)
  have hrLr:Be 3 _:=hr.mono (by decide)
  have hu:=Cz hr
  refine ⟨_,(@Ae _ _ _ _ _ (@NP _ _ _ _ _ _ 2 QQ.nd rfl (Or.inl rfl) (@Ru _ _ _ _ _ (@Ei _ _ _ _ _ _ _ _ _ Ao (@Bx _ _ _ _ Ab) (@Ei _ _ _ _ _ _ _ _ _ Ao (@Bx _ _ _ _ Ab) (@Ei _ _ _ _ _ _ _ _ _ Ao (@Bx _ _ _ _ Ab) (@Ei _ _ _ _ _ _ _ _ _ Ao (@Bx _ _ _ _ Ab) (@Ei _ _ _ _ _ _ _ _ _ Ao (@Bx _ _ _ _ Ab) (@Ei _ _ _ _ _ _ _ _ _ Ao (@Bx _ _ _ _ Ab) (@Ei _ _ _ _ _ _ _ _ _ Ao El RW))))))) rfl rfl (List.cons_ne_nil _ _) (by decide)) rfl (Or.inl rfl))
   (Ae (Ba (i:=3) QQ.nd rfl (Or.inl rfl) (Aj GBb hrBb rfl N.FBb.2.2 N.FBb.1.kp N.FBb.2.1 .nil Az (Aa (Aj GCe hrCe rfl N.FCe.2.2 N.FCe.1.kp N.FCe.2.1 .nil Az (Aa (pv 0) (Aa Ad Ab))) Ab)))
   (Ae (Du PassesOwn.never rfl (Bl (BW I_ (DG Fi (pv 0) (Dc (pv 1)) (Dc (BW Cr (pv 1) Ad))) (Bx (Aa (Aj GCe hrCe rfl N.FCe.2.2 N.FCe.1.kp N.FCe.2.1 .nil Az (Aa (pv 0) (Aa Ad Ab))) Ab)))) (CK (i:=4) QQ.nd rfl (Or.inl rfl)) (Ae (Ba (i:=5) QQ.nd rfl (Or.inl rfl) (Aj GLr hrLr rfl N.FLr.2.2 N.FLr.1.kp N.FLr.2.1 .nil Az (Aa (pv 2) (Aa (Aj GNn hrNn rfl N.FNn.2.2 N.FNn.1.kp N.FNn.2.1 .nil Az (Aa (pv 3) (Aa (Ax BJ rfl T.len PySem.boot_len (Aa (BR hu (pv 2) Ao (fun _ _=>rfl)) Ab)) Ab))) (Aa (pv 4) Ab)))))
   (Ag (Bq (Bb M_ (pv 5) El (Bd _)) (Ae (Ci (Ef PySem.F.plainAttrs_list PySem.F.slot_list_append PySem.F.type_list_append Bu (BR hu (pv 2) Ao (fun _ _=>rfl)) (Aa (pv 5) Ab)))
   (Ag (Bq (Bb Fb (BV (A_ (K:=K) rfl) (pv 5) Ad (fun _ _=>rfl)) (Cd (Aa Ao (Aa Ao Ab))) rfl) (Ag (Jt hu (pv 2) Ao El rfl)) Bc))) Bc))))
   (Ag (Ay (pv 2)))))),?_⟩
  intro p hp
  have s0:=Ak (o:=HO.dK []) hp
  have e0:upd H p (HO.dK []) p=some (.dK []):=Af
  generalize upd H p (HO.dK [])=H1 at s0 e0 ⊢
  refine ⟨Bt (by simp),fun a1 h1=>?_⟩
  have s1:=Ak (o:=HO.lst []) h1
  have e1:upd H1 a1 (HO.lst []) a1=some (.lst []):=Af
  generalize upd H1 a1 (HO.lst [])=H2 at s1 e1 ⊢
  refine ⟨Bt (by simp),fun a2 h2=>?_⟩
  have s2:=Ak (o:=HO.lst []) h2
  have e2:upd H2 a2 (HO.lst []) a2=some (.lst []):=Af
  generalize upd H2 a2 (HO.lst [])=H3 at s2 e2 ⊢
  refine ⟨Bt (by simp),fun a3 h3=>?_⟩
  have s3:=Ak (o:=HO.lst []) h3
  have e3:upd H3 a3 (HO.lst []) a3=some (.lst []):=Af
  generalize upd H3 a3 (HO.lst [])=H4 at s3 e3 ⊢
  refine ⟨Bt (by simp),fun a4 h4=>?_⟩
  have s4:=Ak (o:=HO.lst []) h4
  have e4:upd H4 a4 (HO.lst []) a4=some (.lst []):=Af
  generalize upd H4 a4 (HO.lst [])=H5 at s4 e4 ⊢
  refine ⟨Bt (by simp),fun a5 h5=>?_⟩
  have s5:=Ak (o:=HO.lst []) h5
  have e5:upd H5 a5 (HO.lst []) a5=some (.lst []):=Af
  generalize upd H5 a5 (HO.lst [])=H6 at s5 e5 ⊢
  refine ⟨Bt (by simp),fun a6 h6=>?_⟩
  have s6:=Ak (o:=HO.lst []) h6
  have e6:upd H6 a6 (HO.lst []) a6=some (.lst []):=Af
  generalize upd H6 a6 (HO.lst [])=H7 at s6 e6 ⊢
  have n12:a1 ≠ a2:=Aq e1 h2
  have n13:a1 ≠ a3:=Aq (s2 _ _ e1) h3
  have n14:a1 ≠ a4:=Aq (s3 _ _ (s2 _ _ e1)) h4
  have n15:a1 ≠ a5:=Aq (s4 _ _ (s3 _ _ (s2 _ _ e1))) h5
  have n16:a1 ≠ a6:=Aq (s5 _ _ (s4 _ _ (s3 _ _ (s2 _ _ e1)))) h6
  have n23:a2 ≠ a3:=Aq e2 h3
  have n24:a2 ≠ a4:=Aq (s3 _ _ e2) h4
  have n25:a2 ≠ a5:=Aq (s4 _ _ (s3 _ _ e2)) h5
  have n26:a2 ≠ a6:=Aq (s5 _ _ (s4 _ _ (s3 _ _ e2))) h6
  have n34:a3 ≠ a4:=Aq e3 h4
  have n35:a3 ≠ a5:=Aq (s4 _ _ e3) h5
  have n36:a3 ≠ a6:=Aq (s5 _ _ (s4 _ _ e3)) h6
  have n45:a4 ≠ a5:=Aq e4 h5
  have n46:a4 ≠ a6:=Aq (s5 _ _ e4) h6
  have n56:a5 ≠ a6:=Aq e5 h6
  have s07:Am H H7:=s0.trans (s1.trans (s2.trans (s3.trans (s4.trans (s5.trans s6)))))
  have hN:=Bg.new s07 hp (s0.free h1) (s0.free (s1.free h2)) (s0.free (s1.free (s2.free h3))) (s0.free (s1.free (s2.free (s3.free h4)))) (s0.free (s1.free (s2.free (s3.free (s4.free h5))))) (s0.free (s1.free (s2.free (s3.free (s4.free (s5.free h6)))))) (s6 _ _ (s5 _ _ (s4 _ _ (s3 _ _ (s2 _ _ (s1 _ _ (e0))))))) (s6 _ _ (s5 _ _ (s4 _ _ (s3 _ _ (s2 _ _ (e1)))))) (s6 _ _ (s5 _ _ (s4 _ _ (s3 _ _ (e2))))) (s6 _ _ (s5 _ _ (s4 _ _ (e3)))) (s6 _ _ (s5 _ _ (e4))) (s6 _ _ (e5)) e6 (by simp [n12,n13,n14,n15,n16,n23,n24,n25,n26,n34,n35,n36,n45,n46,n56])
  refine ⟨s6 _ _ (s5 _ _ (s4 _ _ (s3 _ _ (s2 _ _ (s1 _ _ (e0)))))),Hg a1 a2 a3 a4 a5 a6,rfl,(by show 7<=15; decide),?_⟩
  generalize upd H7 p _=H8 at hN ⊢
  have hS8:=hN.sm.seq hS
  refine ⟨_,rfl,a,0,ns,rfl,hS8,fun i0=>⟨i0,rfl,fun bb hbb=>?_⟩⟩
  obtain ⟨ms,ems,lms⟩:=Jc ns (lo:=(st:Int)) (hi:=(st:Int)+60) (by omega) (by omega)
  refine ⟨_,rfl,_,rfl,_,rfl,_,rfl,_,_,rfl,rfl,_,rfl,a,_,rfl,hS8,fun p8 hp8=>?_⟩
  have t8:=Ak (o:=HO.lst (Cv (ns.map V.int) (some (st:Int)) (some ((st:Int)+60)))) hp8
  have l8:upd H8 p8 (HO.lst (Cv (ns.map V.int) (some (st:Int)) (some ((st:Int)+60)))) p8=_:=Af
  generalize upd H8 p8 (HO.lst (Cv (ns.map V.int) (some (st:Int)) (some ((st:Int)+60))))=H9 at t8 l8 ⊢
  rw [ems] at l8
  refine ⟨_,rfl,a,0,ns,rfl,t8.seq hS8,fun i1=>⟨by show 1<=sizeLine; decide,fun p9 hp9=>?_⟩⟩
  have t9:=Ak (o:=HO.lst [V.int i1]) hp9
  have l9:upd H9 p9 (HO.lst [V.int i1]) p9=some (.lst [V.int i1]):=Af
  generalize upd H9 p9 (HO.lst [V.int i1])=H10 at t9 l9 ⊢
  refine ⟨p8,p9,_,_,rfl,rfl,t9 _ _ l8,l9,Bt (by rw [List.length_map]; show ms.length+1<=1000; omega),fun p10 hp10=>?_⟩
  have ecs:ms.map V.int++[V.int i1]=(ms++[i1]).map V.int:=by rw [List.map_append]; rfl
  rw [ecs]
  have t10:=Ak (o:=HO.lst ((ms++[i1]).map V.int)) hp10
  have l10:upd H10 p10 (HO.lst ((ms++[i1]).map V.int)) p10=some (.lst ((ms++[i1]).map V.int)):=Af
  generalize upd H10 p10 (HO.lst ((ms++[i1]).map V.int))=H11 at t10 l10 ⊢
  have t811:Am H8 H11:=t8.trans (t9.trans t10)
  have lcs:(ms++[i1]).length<=61:=by rw [List.length_append,List.length_singleton]; omega
  have lc1:1<=(ms++[i1]).length:=by rw [List.length_append,List.length_singleton]; omega
  generalize ms++[i1]=cs at l10 lcs lc1 ⊢
  have o10:∀ {b:Addr} {u:HO},H8 b=some u->b ≠ p10:=fun {b u} e=>Aq (t9 _ _ (t8 _ _ e)) hp10
  obtain ⟨kv8,q8,_⟩:=hN.dp
  obtain ⟨_,q81,_⟩:=hN.r
  obtain ⟨_,q82,_⟩:=hN.b
  obtain ⟨_,q83,_⟩:=hN.k
  obtain ⟨_,q84,_⟩:=hN.n
  obtain ⟨_,q85,_⟩:=hN.d
  have h11:=(hN.mono t811).stand l10 (o10 q8) (fun b hb=>by
   simp only [List.mem_cons] at hb
   rcases hb with rfl | rfl | rfl | rfl | rfl | rfl | z
   ·exact o10 q81
   ·exact o10 q82
   ·exact o10 q83
   ·exact o10 q84
   ·exact o10 q85
   ·exact o10 hN.s
   ·exact nomatch z)
  have hz10:H p10=none:=hN.sm.free (t8.free (t9.free hp10))
  have hS11:Cm K H11 p10 (cs.map V.int):=.inl (.inl l10)
  refine ⟨p10,rfl,⟨_,hS11⟩,Ek (K:=K) (a:=p10) (xs:=cs.map V.int) (fun i σ H4=>∃ (S:Pl) (Cs:List Addr) (lo:V),Bg (upd H p10 (.lst (cs.map V.int))) H4 ⟨p,a1,a2,a3,a4,a5,a6⟩ S Cs lo/\Dm K aB aP aM bb S lo/\S.rows.length<=i/\(0<i->1<=S.bs.length)/\∃ v4 v5,σ=[some (.ref a),some (.int (st:Int)),some (.ref p),some (.str bb),v4,v5])
   ⟨_,_,_,h11,Dm.new bb,Nat.le_refl _,(fun z=>absurd z (by omega)),_,_,rfl⟩ (fun i σ H4 _ h=>?_) ?_ ?_⟩
  ·obtain ⟨S,Cs,lo,hl,_⟩:=h
   exact .inl (.inl (hl.sm _ _ Af))
  ·rintro i x σ H4 hx ⟨S,Cs,lo,h4,k4,lr,hb4,v4,v5,rfl⟩
   rw [List.getElem?_map] at hx
   obtain ⟨c,hc,rfl⟩:=Option.map_eq_some_iff.mp hx
   have hi:i<cs.length:=(List.getElem?_eq_some_iff.mp hc).1
   obtain ⟨kvs,g1,g2,y1,y2,y3,y4,y5,y6,y7⟩:=h4.dp
   obtain ⟨vr,r1,r2⟩:=h4.r
   have lr2:S.rows.length=vr.length:=r2.length
   have gr:=Bs.k (k:=Sum.inr "rows") g1
   rw [y1] at gr
   refine ⟨_,rfl,_,rfl,_,rfl,p,_,rfl,gr,a1,_,rfl,.inl (.inl (.inl r1)),bb,vr.length,rfl,hbb.1,by omega,_,rfl,_,⟨p,a1,a2,a3,a4,a5,a6⟩,S,Cs,lo,bb,c,by rw [lr2]; rfl,⟨h4,k4,hbb,by omega,F⟩,?_,?_⟩
   ·intro r y S' Cs' lo' H5 hA hrows hT hk hb'
    obtain ⟨T5,rfl,hT5⟩:=hT
    obtain ⟨kvs5,g15,g25,u1,_,_,_,_,_,u7⟩:=hA.dp
    obtain ⟨vr5,r15,r25⟩:=hA.r
    have lr5:S'.rows.length=vr5.length:=r25.length
    have gr5:=Bs.k (k:=Sum.inr "rows") g15
    rw [u1] at gr5
    have hB:=hA.aH r15 (r:=r) (v:=.ref T5) ⟨T5,rfl,hT5⟩
    have eS:({ S' with rows:=S'.rows++[r] }:Pl) = { S' with rows:=S.rows++[r] }:=by rw [hrows]
    rw [eS] at hB
    have hT6:upd H5 a1 (HO.lst (vr5++[.ref T5])) T5=some (.tup r.v):=by
     rw [An (KN hT5 r15 (by intro z; cases z))]
     exact hT5
    have lr':S'.rows.length=S.rows.length:=by rw [hrows]
    refine ⟨_,rfl,rfl,_,rfl,Dy ⟨_,rfl,p,_,rfl,gr5,.inl ⟨rfl,_,.inl (.inl r15)⟩,_,rfl,a1,vr5,_,rfl,rfl,r15,Ar (by omega),?_⟩⟩
    generalize upd H5 a1 (HO.lst (vr5++[.ref T5]))=H6 at hB hT6 ⊢
    refine ⟨_,rfl,T5,_,_,_,rfl,rfl,.inl (.inl hT6),Al (j:=0) rfl,by show 2<=sizeLine; decide,fun q2 hq2=>?_⟩
    have s7:=Ak (o:=HO.tup [V.str "stop",.str "line"]) hq2
    have l7:upd H6 q2 (HO.tup [V.str "stop",.str "line"]) q2=some (.tup [V.str "stop",.str "line"]):=Af
    generalize upd H6 q2 (HO.tup [V.str "stop",.str "line"])=H7' at s7 l7 ⊢
    have hB7:=hB.mono s7
    refine ⟨q2,_,rfl,.inr (.inl (.inl l7)),rfl,rfl,_,rfl,?_⟩
    by_cases hw:r.w = "stop" \/ r.w = "line"
    ·rw [(cu r.w).mpr hw]
     have elo:bz r lo'=lo':=if_pos hw
     rw [elo] at hk
     exact Dg ⟨_,_,_,hB7,hk,by simp; omega,fun _=>hb',_,_,rfl⟩
    ·rw [(Bool.not_eq_true _).mp fun z=>hw ((cu r.w).mp z)]
     have elo:bz r lo'=.non:=if_neg hw
     rw [elo] at hk
     obtain ⟨kvs7',g17,g27,_⟩:=hB7.dp
     refine Dy ⟨_,rfl,p,_,rfl,Mq.k (k:=Sum.inr "lines") g17 (Ar (by omega)),?_⟩
     exact ⟨_,_,_,hB7.YZ g17 .non,hk,by simp; omega,fun _=>hb',_,_,rfl⟩
   ·intro H5 s5 hb5
    refine ⟨_,rfl,rfl,_,rfl,Dg ?_⟩
    exact ⟨S,Cs,lo,h4.mono s5,k4,by omega,fun _=>hb5,_,_,rfl⟩
  ·rintro σ H4 ⟨S,Cs,lo,h4,k4,lr,hb4,v4,v5,rfl⟩
   rw [List.length_map] at lr hb4
   exact ⟨_,rfl,q _ S Cs H4 ⟨⟨lo,h4.weak hz10⟩,⟨bb,lo,hbb,k4⟩,hb4 (by omega),by omega⟩⟩
noncomputable def X5 (C:Addr):Sp:=fun vs H Q _=>∃ (x:Addr) (bs:List (Str × Nat)) (ks:List R) (j:Nat) (b:Str × Nat) (n:Int),vs=[.ref x,.str b.1,.int n]/\Jj C H x bs ks/\bs[j]? = some b/\∀ H',Am H H'->Q (.int ((((bs.take j).map (·.2)).sum:Nat)+n)) H'
theorem bA:BP ["self","board","number"] ["self","board","number"] (Ac V3):=⟨rfl,rfl,rfl,by decide +kernel,rfl,by decide +kernel,by decide +kernel⟩
include N T in
theorem Wm:BK P w K mg base Bm 2 fOk dOk ["self","board","number"] (X5 C):=by
 have GCa:BK P w K mg base Bm 1 fCa dCa ["things"] Ub:=R8 N T
 refine N.FOk.1.ok bA (fun vs H Q E h=>?_) (fun cdv A outer s H vs Q E hr h=>?_)
 ·obtain ⟨x,bs,ks,j,b,n,rfl,_⟩:=h
  rfl
 ·obtain ⟨x,bs,ks,j,b,n,rfl,O,hb,q⟩:=h
  have hrCa:Be 1 _:=hr.mono (by decide)
  have hu:=Cz hr
  refine ⟨_,(Ag (Ay (BW Cr (Aj GCa hrCa rfl N.FCa.2.2 N.FCa.1.kp N.FCa.2.1 .nil Az (Aa (DG Fi (De (pv 0) rfl) Eg (Dc (BR hu (De (pv 0) rfl) (pv 1) (fun _ _=>rfl)))) Ab)) (pv 2)))),?_⟩
  obtain ⟨⟨dx,fs,bl,bn,kp,kr,bvs,pvs,uvs,kvs,h1,l1,l2,l3,l4,lm,h2,h3,h4,h5,h6,h7,h8,h9⟩,ob5,osz,onk⟩:=id O
  have hj:j<bs.length:=(List.getElem?_eq_some_iff.mp hb).1
  have hl:=h3.length
  have g:=Bs.k (k:=Sum.inr b.1) h4
  rw [h5 j b hb] at g
  refine ⟨_,rfl,x,C,dx,_,_,rfl,h1,T.cl,T.n_board_list,l1,_,rfl,x,C,dx,_,_,rfl,h1,T.cl,T.n_board_numbers,l2,_,rfl,bn,_,rfl,g,_,rfl,bl,bvs,rfl,.inl (.inl h2),fun p6 hp6=>?_⟩
  have s6:=Ak (o:=HO.lst (Cv bvs none (some (j:Int)))) hp6
  have a6:upd H p6 (HO.lst (Cv bvs none (some (j:Int)))) p6=_:=Af
  generalize upd H p6 (HO.lst (Cv bvs none (some (j:Int))))=H6 at s6 a6 ⊢
  rw [Fx bvs j (by omega)] at a6
  refine ⟨p6,(bs.take j).map WN,bvs.take j,rfl,a6,Ce (F:=fun (a:Th) y=>TupAt H6 (tV a) y) WN (Et (Ah s6 h3) j),(by rw [List.length_map,List.length_take]; omega),(fun a ha=>by obtain ⟨b',hb',rfl⟩:=List.mem_map.mp ha; exact Nat.le_trans (osz b' (List.mem_of_mem_take hb')) (by show 61<=100; decide)),fun H7 s7=>?_⟩
  have e7:((bs.take j).map WN).map (fun a=>a.2.1)=(bs.take j).map (·.2):=by
   rw [List.map_map]
   rfl
  rw [e7]
  exact ⟨_,rfl,_,_,rfl,rfl,q H7 (s6.trans s7)⟩
noncomputable def Yi (C:Addr):Sp:=fun vs H Q _=>∃ (x:Addr) (bs:List (Str × Nat)) (ks:List R) (i:Nat) (qd:Nat × Nat),vs=[.ref x,.int (i:Nat)]/\Jj C H x bs ks/\(IW bs)[i]? = some qd/\∀ y,TupAt H (qV qd) y->Q y H
theorem bQ:BP ["self","key"] ["self","key"] (Ac WM):=⟨rfl,rfl,rfl,by decide +kernel,rfl,by decide +kernel,by decide +kernel⟩
include N T in
theorem W0:BK P w K mg base Bm 1 fOo dOo ["self","key"] (Yi C):=by
 refine N.FOo.1.ok bQ (fun vs H Q E h=>?_) (fun cdv A outer s H vs Q E hr h=>?_)
 ·obtain ⟨x,bs,ks,i,qd,rfl,_⟩:=h
  rfl
 ·obtain ⟨x,bs,ks,i,qd,rfl,O,hq,q⟩:=h
  refine ⟨_,(Ag (Ay (BV Cg (De (pv 0) rfl) (pv 1) (fun _ _=>rfl)))),?_⟩
  obtain ⟨⟨dx,fs,bl,bn,kp,kr,bvs,pvs,uvs,kvs,h1,l1,l2,l3,l4,lm,h2,h3,h4,h5,h6,h7,h8,h9⟩,ob5,osz,onk⟩:=id O
  obtain ⟨y,hy,ht⟩:=Bk h7 hq
  exact ⟨_,rfl,x,C,dx,_,_,rfl,h1,T.cl,T.n_key_places,l3,_,rfl,kp,pvs,_,_,rfl,rfl,.inl (.inl h6),Al hy,q y ht⟩
noncomputable def Wt (C:Addr):Sp:=fun vs H Q _=>∃ (x:Addr) (bs:List (Str × Nat)) (rk:List (Str × Nat × Int)) (ks:List R) (ls:List (List Ln)) (j:Nat) (r:Str × Nat × Int) (n:Int),vs=[.ref x,.str r.1,.int n]/\Ex C H x bs rk ks ls/\rk[j]? = some r/\∀ H',Am H H'->Q (.int ((((rk.take j).map (fun r=>r.2.1)).sum:Nat)+n)) H'
theorem au:BP ["self","rank","number"] ["self","rank","number"] (Ac V4):=⟨rfl,rfl,rfl,by decide +kernel,rfl,by decide +kernel,by decide +kernel⟩
include N T in
theorem Wl:BK P w K mg base Bm 2 fOe dOe ["self","rank","number"] (Wt C):=by
 have GCa:BK P w K mg base Bm 1 fCa dCa ["things"] Ub:=R8 N T
 refine N.FOe.1.ok au (fun vs H Q E h=>?_) (fun cdv A outer s H vs Q E hr h=>?_)
 ·obtain ⟨x,bs,rk,ks,ls,j,r,n,rfl,_⟩:=h
  rfl
 ·obtain ⟨x,bs,rk,ks,ls,j,r,n,rfl,O,hb,q⟩:=h
  have hrCa:Be 1 _:=hr.mono (by decide)
  have hu:=Cz hr
  refine ⟨_,(Ag (Ay (BW Cr (Aj GCa hrCa rfl N.FCa.2.2 N.FCa.1.kp N.FCa.2.1 .nil Az (Aa (DG Fi (De (pv 0) rfl) Eg (Dc (BR hu (De (pv 0) rfl) (pv 1) (fun _ _=>rfl)))) Ab)) (pv 2)))),?_⟩
  obtain ⟨⟨dx,fs,bl,bn,kp,kr,bvs,pvs,uvs,kvs,h1,l1,l2,l3,l4,lm,h2,h3,h4,h5,h6,h7,h8,h9⟩,ob5,osz,onk⟩:=id O.o
  obtain ⟨dx',fs',rl,rn,pp,kl,rvs,qvs,kvs',g1,m1,m2,m3,m4,g2,g3,g4,g5,g6,g7,lv,g8,g9⟩:=id O.r
  obtain ⟨e1,e2⟩:dx'=dx/\fs'=fs:=by rw [h1] at g1; cases g1; exact ⟨rfl,rfl⟩
  subst e1 e2
  have hj:j<rk.length:=(List.getElem?_eq_some_iff.mp hb).1
  have hl:=g3.length
  rw [List.length_map] at hl
  have g:=Bs.k (k:=Sum.inr r.1) g4
  rw [g5 j r hb] at g
  refine ⟨_,rfl,x,C,_,_,_,rfl,h1,T.cl,T.n_rank_list,m1,_,rfl,x,C,_,_,_,rfl,h1,T.cl,T.n_rank_numbers,m2,_,rfl,rn,_,rfl,g,_,rfl,rl,rvs,rfl,.inl (.inl g2),fun p6 hp6=>?_⟩
  have s6:=Ak (o:=HO.lst (Cv rvs none (some (j:Int)))) hp6
  have a6:upd H p6 (HO.lst (Cv rvs none (some (j:Int)))) p6=_:=Af
  generalize upd H p6 (HO.lst (Cv rvs none (some (j:Int))))=H6 at s6 a6 ⊢
  rw [Fx rvs j (by omega)] at a6
  refine ⟨p6,(rk.map S5).take j,rvs.take j,rfl,a6,Et (Ah s6 g3) j,(by rw [List.length_take,List.length_map]; have:=O.nr; omega),(fun a ha=>by obtain ⟨r',hr',rfl⟩:=List.mem_map.mp (List.mem_of_mem_take ha); exact Nat.le_trans (O.nz r' hr') (by decide)),fun H7 s7=>?_⟩
  have e7:(((rk.map S5).take j).map fun a=>a.2.1)=(rk.take j).map (fun r=>r.2.1):=by
   rw [← List.map_take,List.map_map]
   rfl
  rw [e7]
  exact ⟨_,rfl,_,_,rfl,rfl,q H7 (s6.trans s7)⟩
noncomputable def Xr (C:Addr):Sp:=fun vs H Q _=>∃ (x:Addr) (bs:List (Str × Nat)) (rk:List (Str × Nat × Int)) (ks:List R) (ls:List (List Ln)) (i:Nat) (qd:Nat × Nat),vs=[.ref x,.int (i:Nat)]/\Ex C H x bs rk ks ls/\(IW (rk.map Vd))[i]? = some qd/\∀ y,TupAt H (qV qd) y->Q y H
theorem Z2:BP ["self","pipe"] ["self","pipe"] (Ac V7):=⟨rfl,rfl,rfl,by decide +kernel,rfl,by decide +kernel,by decide +kernel⟩
include N T in
theorem Wn:BK P w K mg base Bm 1 fOv dOv ["self","pipe"] (Xr C):=by
 refine N.FOv.1.ok Z2 (fun vs H Q E h=>?_) (fun cdv A outer s H vs Q E hr h=>?_)
 ·obtain ⟨x,bs,rk,ks,ls,i,qd,rfl,_⟩:=h
  rfl
 ·obtain ⟨x,bs,rk,ks,ls,i,qd,rfl,O,hq,q⟩:=h
  refine ⟨_,(Ag (Ay (BV Cg (De (pv 0) rfl) (pv 1) (fun _ _=>rfl)))),?_⟩
  obtain ⟨⟨dx,fs,bl,bn,kp,kr,bvs,pvs,uvs,kvs,h1,l1,l2,l3,l4,lm,h2,h3,h4,h5,h6,h7,h8,h9⟩,ob5,osz,onk⟩:=id O.o
  obtain ⟨dx',fs',rl,rn,pp,kl,rvs,qvs,kvs',g1,m1,m2,m3,m4,g2,g3,g4,g5,g6,g7,lv,g8,g9⟩:=id O.r
  obtain ⟨e1,e2⟩:dx'=dx/\fs'=fs:=by rw [h1] at g1; cases g1; exact ⟨rfl,rfl⟩
  subst e1 e2
  obtain ⟨y,hy,ht⟩:=Bk g7 hq
  exact ⟨_,rfl,x,C,_,_,_,rfl,h1,T.cl,T.n_pipe_places,m3,_,rfl,pp,qvs,_,_,rfl,rfl,.inl (.inl g6),Al hy,q y ht⟩
noncomputable def Sh:Sp:=fun vs H Q _=>∃ z:Str,vs=[.str z,.str letters,.int 8]/\Tx z/\∀ b H',Am H H'->(b=true ↔ isNm z)->Q (.bl b) H'
include N T in
theorem Vf:BK P w K mg base Bm 1 fMd dMd ["text","signs","most"] Sh:=by
 refine N.FMd.1.ok ZW (fun vs H Q E h=>?_) (fun cdv A outer s H vs Q E hr h=>?_)
 ·obtain ⟨z,rfl,_⟩:=h
  rfl
 ·obtain ⟨z,rfl,hz,q⟩:=h
  refine ⟨_,(Ag (Ay (Ck (HS Gm Gm Ad (Ax HQ rfl T.len PySem.boot_len (Aa (pv 0) Ab)) (pv 2)) (Cq (Ax (GD rfl) rfl T.all PyProof.Rows.boot_all (Aa (Bp rfl (Bf (osc:=Ac Su) (N:=["text","signs","most"]) rfl rfl (by decide +kernel)) (PB (pv 0)) (fun _ _ _ _=>CG) (fun _ _ _ _=>(Cy Jb (pv 0) (pv 2) rfl))) Ab)))))),?_⟩
  have hzl:z.length<sizeLine:=Ar hz.1
  have no:¬ isNm z->Q (.bl false) H:=fun h=>q false H (Am.refl H) ⟨fun z=>(nomatch z),fun z=>absurd z h⟩
  refine ⟨_,rfl,z,rfl,Nat.le_of_lt hzl,_,_,rfl,rfl,_,rfl,?_⟩
  refine C_ (fun h1=>?_) (fun h1=>⟨_,rfl,Dg (no fun c=>h1 (decide_eq_true (by have:=c.1; omega)))⟩)
  refine ⟨_,rfl,_,_,rfl,rfl,_,rfl,?_⟩
  refine C_ (fun h2=>?_) (fun h2=>no fun c=>h2 (decide_eq_true (by have:=c.2.1; omega)))
  refine ⟨_,rfl,z,rfl,Ky (fun _=>true) (fun c=>.bl (RN letters c)) hzl (fun c hc H' hs R k=>k H' (Am.refl H')) (fun c hc _ H' hs R k=>⟨_,rfl,_,rfl,_,_,rfl,rfl,k H' (Am.refl H')⟩) (fun D H' hD hs hl=>?_)⟩
  refine ⟨D,z.cps.toList.map (RN letters),rfl,.inl (.inl ?_),q _ H' hs ?_⟩
  ·rw [hl,List.filter_eq_self.mpr (fun _ _=>rfl),List.map_map]
   rfl
  ·rw [List.all_map,List.all_eq_true]
   have b1:1<=z.length:=by have:=of_decide_eq_true h1; omega
   have b2:z.length<=8:=by have:=of_decide_eq_true h2; omega
   constructor
   ·intro h
    refine ⟨b1,b2,fun c hc=>?_⟩
    have e:RN letters c=true:=h c hc
    rw [J0 c (hz.2 c hc)] at e
    exact of_decide_eq_true e
   ·intro h c hc
    show RN letters c=true
    rw [J0 c (hz.2 c hc)]
    exact decide_eq_true (h.2.2 c hc)
theorem bJ {K:PySem.W.Frag}:PySem.W.kitOne K (.type "int") (.type "str")=some false:=by kernel_rfl
theorem aR {K:PySem.W.Frag}:PySem.W.kitOne K (.type "bool") (.type "str")=some false:=by kernel_rfl
theorem bF {K:PySem.W.Frag}:PySem.W.kitOne K (.type "NoneType") (.type "str")=some false:=by kernel_rfl
theorem Z1 {K:PySem.W.Frag}:PySem.W.kitOne K (.type "list") (.type "str")=some false:=by kernel_rfl
theorem cN {K:PySem.W.Frag}:PySem.W.kitOne K (.type "tuple") (.type "str")=some false:=by kernel_rfl
noncomputable def isStr:V->Bool
 | .str _=>true
 | _=>false
theorem PP (K:PySem.W.Frag) {H:Hp} {v:V} (h:Fv H v):∃ n,HD K H v (.type n)/\PySem.W.kitOne K (.type n) (.type "str")=some (isStr v):=by
 cases h with
 | non=>exact ⟨_,.non,bF⟩
 | bl b=>exact ⟨_,.bl b,aR⟩
 | int i=>exact ⟨_,.int i,bJ⟩
 | lst h=>exact ⟨_,.lst h,Z1⟩
 | tup h=>exact ⟨_,.tup h,cN⟩
 | str h=>exact ⟨_,.str _,PL⟩
noncomputable def YF (v:V):Prop:=∃ t,v=.str t/\isNm t
noncomputable def PX:Sp:=fun vs H Q _=>∃ v:V,vs=[v]/\Fv H v/\∀ b H',Am H H'->(b=true ↔ YF v)->Q (.bl b) H'
include N T in
theorem Ql:BK P w K mg base Bm 2 fNm dNm ["thing"] PX:=by
 have GMdG:BK P w K mg base Bm 1 fMd dMd ["text","signs","most"] Sh:=Vf N T
 refine N.FNm.1.ok Yu (fun vs H Q E h=>?_) (fun cdv A outer s H vs Q E hr h=>?_)
 ·obtain ⟨v,rfl,_⟩:=h
  rfl
 ·obtain ⟨v,rfl,hv,q⟩:=h
  have hrMdG:Be 1 _:=hr.mono (by decide)
  obtain ⟨tLET,hLET⟩:=T.letters
  obtain ⟨tML,hML⟩:=T.mostL
  refine ⟨_,(Ag (Ay (Ck (Ax CV rfl T.isin PyProof.Rows.boot_isinstance (Aa (pv 0) (Aa (Dk (v:=.ty "str") rfl T.str PyProof.Rows.boot_str rfl) Ab))) (Cq (Aj GMdG hrMdG rfl N.FMd.2.2 N.FMd.1.kp N.FMd.2.1 .nil Az (Aa (pv 0) (Aa (Cj (v:=.str letters) rfl hLET ⟨tLET,rfl⟩) (Aa (Cj (v:=.int 8) rfl hML ⟨tML,rfl⟩) Ab)))))))),?_⟩
  obtain ⟨n,e1,e2⟩:=PP K hv
  refine ⟨_,rfl,_,"str",_,_,rfl,e1,e2,_,rfl,?_⟩
  cases hv with
  | str h =>
   refine Dy ⟨_,rfl,_,rfl,h,fun b H' s hb=>q b H' s (hb.trans ⟨fun z=>⟨_,rfl,z⟩,fun ⟨t,e,z⟩=>by cases e; exact z⟩)⟩
  | _=>exact Dg (q false H (Am.refl H) ⟨fun z=>(nomatch z),fun ⟨t,e,z⟩=>(nomatch e)⟩)
noncomputable def Va (C:Addr):Sp:=fun vs H Q _=>∃ (x:Addr) (us:List V) (bs:List (Str × Nat)) (rk:List (Str × Nat × Int)) (ks:List R) (ls:List (List Ln)) (sts:List Nat) (v:V),vs=[.ref x,v]/\J2 C H x us bs rk ks ls sts/\Fv H v/\(∀ n∈bs.map (·.1),isNm n)/\∀ H',Am H H'->Q (Gz (bs.map (·.1)) v) H'
noncomputable def U7 (C:Addr):Sp:=fun vs H Q _=>∃ (x:Addr) (us:List V) (bs:List (Str × Nat)) (rk:List (Str × Nat × Int)) (ks:List R) (ls:List (List Ln)) (sts:List Nat) (v:V),vs=[.ref x,v]/\J2 C H x us bs rk ks ls sts/\Fv H v/\(∀ n∈ks.map (·.nm),isNm n)/\∀ H',Am H H'->Q (Gz (ks.map (·.nm)) v) H'
theorem Mz {ns:List Str} {v:V} (hn:∀ n∈ns,isNm n) (h:¬ YF v):Gz ns v=.non:=by
 cases v with
 | str t=>exact if_neg fun z=>h ⟨t,rfl,hn t z⟩
 | _=>rfl
theorem valN {ns:List Str} {kvs:List (Key × V)} (h1:∀ (i:Nat) t,ns[i]? = some t->CJ kvs (Sum.inr t)=some (.int (i:Nat))) (h2:∀ t,t ∉ ns->CJ kvs (Sum.inr t)=none) (t:Str):(CJ kvs (Sum.inr t)).getD .non=Gz ns (.str t):=by
 by_cases h:t∈ns
 ·rw [h1 _ t (Mt h)]
  exact (if_pos h).symm
 ·rw [h2 t h]
  exact (if_neg h).symm
theorem Z3:BP ["self","name"] ["self","name"] (Ac Vo):=⟨rfl,rfl,rfl,by decide +kernel,rfl,by decide +kernel,by decide +kernel⟩
include N T in
theorem TJ:BK P w K mg base Bm 3 fOu dOu ["self","name"] (Va C):=by
 have GNmG:BK P w K mg base Bm 2 fNm dNm ["thing"] PX:=Ql N T
 refine N.FOu.1.ok Z3 (fun vs H Q E h=>?_) (fun cdv A outer s H vs Q E hr h=>?_)
 ·obtain ⟨x,us,bs,rk,ks,ls,sts,v,rfl,_⟩:=h
  rfl
 ·obtain ⟨x,us,bs,rk,ks,ls,sts,v,rfl,O,hv,hn,q⟩:=h
  have hrNmG:Be 2 _:=hr.mono (by decide)
  have hu:=Cz hr
  obtain ⟨tLET,hLET⟩:=T.letters
  obtain ⟨tML,hML⟩:=T.mostL
  refine ⟨_,(Ag (Ay (KJ (Cp (Aj GNmG hrNmG rfl N.FNm.2.2 N.FNm.1.kp N.FNm.2.1 .nil Az (Aa (pv 1) Ab))) (K7 hu (De (pv 0) rfl) (pv 1) ⟨rfl,rfl,rfl,rfl⟩) El))),?_⟩
  obtain ⟨O1,dx,fs,rl,kd,ss,kvs,h1,l1,l2,l3,h2,h3,h4,h5,h6,bn,kb,h7,h8,h9⟩:=id O
  obtain ⟨⟨dx',fs',bl,bn',kp,kr,bvs,pvs,uvs,kvs',g1,m1,m2,m3,m4,lm,e2,e3,e4,e5,e6,e7,e8,e9⟩,ob5,osz,onk⟩:=id O1.o
  rw [h1] at g1
  cases g1
  rw [h7] at m2
  cases m2
  rw [h8] at e4
  cases e4
  refine ⟨_,rfl,v,rfl,hv,fun b H1 s1 hb=>⟨_,rfl,?_⟩⟩
  refine C_ (fun z=>?_) (fun z=>?_)
  ·obtain ⟨t,rfl,ht⟩:=hb.mp z
   refine ⟨_,rfl,x,C,dx,_,_,rfl,s1 _ _ h1,T.cl,T.n_board_numbers,h7,bn,rfl,.inl ⟨_,.inl (s1 _ _ h8)⟩,_,rfl,_,Bs.k (k:=Sum.inr t) (s1 _ _ h8),?_⟩
   rw [valN (fun i t ht=>by rw [List.getElem?_map] at ht; obtain ⟨b,hb,rfl⟩:=Option.map_eq_some_iff.mp ht; exact e5 i b hb) h9 t]
   exact q _ s1
  ·have e:=Mz hn fun c=>z (hb.mpr c)
   rw [e] at q
   exact q _ s1
theorem bu:BP ["self","name"] ["self","name"] (Ac Vs):=⟨rfl,rfl,rfl,by decide +kernel,rfl,by decide +kernel,by decide +kernel⟩
include N T in
theorem SM:BK P w K mg base Bm 3 fOj dOj ["self","name"] (U7 C):=by
 have GNmG:BK P w K mg base Bm 2 fNm dNm ["thing"] PX:=Ql N T
 refine N.FOj.1.ok bu (fun vs H Q E h=>?_) (fun cdv A outer s H vs Q E hr h=>?_)
 ·obtain ⟨x,us,bs,rk,ks,ls,sts,v,rfl,_⟩:=h
  rfl
 ·obtain ⟨x,us,bs,rk,ks,ls,sts,v,rfl,O,hv,hn,q⟩:=h
  have hrNmG:Be 2 _:=hr.mono (by decide)
  have hu:=Cz hr
  refine ⟨_,(Ag (Ay (KJ (Cp (Aj GNmG hrNmG rfl N.FNm.2.2 N.FNm.1.kp N.FNm.2.1 .nil Az (Aa (pv 1) Ab))) (K7 hu (De (pv 0) rfl) (pv 1) ⟨rfl,rfl,rfl,rfl⟩) El))),?_⟩
  obtain ⟨O1,dx,fs,rl,kd,ss,kvs,h1,l1,l2,l3,h2,h3,h4,h5,h6,bn,kb,h7,h8,h9⟩:=id O
  refine ⟨_,rfl,v,rfl,hv,fun b H1 s1 hb=>⟨_,rfl,?_⟩⟩
  refine C_ (fun z=>?_) (fun z=>?_)
  ·obtain ⟨t,rfl,ht⟩:=hb.mp z
   refine ⟨_,rfl,x,C,dx,_,_,rfl,s1 _ _ h1,T.cl,T.n_knob_numbers,l2,kd,rfl,.inl ⟨_,.inl (s1 _ _ h3)⟩,_,rfl,_,Bs.k (k:=Sum.inr t) (s1 _ _ h3),?_⟩
   rw [valN h4 h5 t]
   exact q _ s1
  ·have e:=Mz hn fun c=>z (hb.mpr c)
   rw [e] at q
   exact q _ s1
theorem Ed.mono {K:PySem.W.Frag} {aB aP aM:Addr} {H0 H H':Hp} {A:Hh} {S:Pl} {Cs:List Addr} (s:Am H H') (h:Ed K aB aP aM H0 H A S Cs):Ed K aB aP aM H0 H' A S Cs:=by
 obtain ⟨lo,hA⟩:=h.h
 exact ⟨⟨lo,hA.mono s⟩,h.k,h.b1,h.l⟩
noncomputable def Um:Sp:=fun vs H Q _=>∃ (T0:Addr) (a n:Nat),vs=[.ref T0,.int (a:Nat),.int (n:Nat)]/\H T0=some (.tup (qV (a,n)))/\∀ H',Am H H'->Q (.bl true) H'
theorem bZ:BP ["_law_found","_law_at","_law_number_here"] ["_law_found","_law_at","_law_number_here"] (Ac Vl):=⟨rfl,rfl,rfl,by decide +kernel,rfl,by decide +kernel,by decide +kernel⟩
include N T in
theorem R7:BK P w K mg base Bm 2 fPq dPq ["_law_found","_law_at","_law_number_here"] Um:=by
 have GLw:BK P w K mg base Bm 1 fLw dLw ["_law_found"] Ke:=M3 N T
 refine N.FPq.1.ok bZ (fun vs H Q E h=>?_) (fun cdv A outer s H vs Q E hr h=>?_)
 ·obtain ⟨T0,a,n,rfl,_⟩:=h
  rfl
 ·obtain ⟨T0,a,n,rfl,e1,q⟩:=h
  have hrLw:Be 1 _:=hr.mono (by decide)
  have hu:=Cz hr
  refine ⟨_,(Ae (Bq (PW.pt (Gq (Cw (Cp (Ax CV rfl T.isin PyProof.Rows.boot_isinstance (Aa (pv 0) (Aa (Dk (v:=.ty "tuple") rfl T.tuple PyProof.Rows.boot_tuple rfl) Ab))))) (Gq (Bb Mv (Ax BJ rfl T.len PySem.boot_len (Aa (pv 0) Ab)) Ad (Bd _)) (Gq (Cw (Cp (Aj GLw hrLw rfl N.FLw.2.2 N.FLw.1.kp N.FLw.2.1 .nil Az (Aa (BV (A_ (K:=K) rfl) (pv 0) Ad (fun _ _=>rfl)) Ab)))) (G8 (Cw (Cp (Aj GLw hrLw rfl N.FLw.2.2 N.FLw.1.kp N.FLw.2.1 .nil Az (Aa (BV (A_ (K:=K) rfl) (pv 0) Ad (fun _ _=>rfl)) Ab))))))))) (Ag (Ay Ej)) Bc)
   (Ag (Ay (Cy (P0 0 (Nat.lt_of_le_of_lt (Nat.add_le_add_left (by decide:1<=64) _) hr.units)) (pv 0) (Cd (Aa (pv 1) (Aa (pv 2) Ab))) (Bd _))))),?_⟩
  refine ⟨_,rfl,_,"tuple",_,_,rfl,.tup e1,R1,_,rfl,Dg ?_⟩
  refine ⟨_,rfl,T0,_,rfl,.inr (.inl (.inl e1)),rfl,_,rfl,Dg ?_⟩
  refine ⟨_,rfl,T0,_,_,_,rfl,rfl,.inl (.inl e1),Al (j:=0) rfl,_,rfl,_,rfl,Dg ?_⟩
  refine ⟨_,rfl,T0,_,_,_,rfl,rfl,.inl (.inl e1),Al (j:=1) rfl,_,rfl,_,rfl,Dg ?_⟩
  refine ⟨_,rfl,_,rfl,_,rfl,by show 2<=sizeLine; decide,fun T1 hT1=>?_⟩
  have s1:=Ak (o:=HO.tup [V.int (a:Nat),.int (n:Nat)]) hT1
  have t1:upd H T1 (HO.tup [V.int (a:Nat),.int (n:Nat)]) T1=some (.tup [V.int (a:Nat),.int (n:Nat)]):=Af
  generalize upd H T1 (HO.tup [V.int (a:Nat),.int (n:Nat)])=H1 at s1 t1 ⊢
  exact ⟨T0,T1,rfl,rfl,.inr ⟨T0,T1,_,_,rfl,rfl,.inr ⟨s1 _ _ e1,t1⟩,Ng (ns:=[(a:Int),(n:Int)])⟩,q _ s1⟩
theorem Io:∀ l:List Nat,(l.map fun n:Nat=>(n:Int)).sum=((l.sum:Nat):Int)
 | []=>rfl
 | n::l=>by
  rw [List.map_cons,List.sum_cons,List.sum_cons,Io l]
  omega
noncomputable def Wx (K:PySem.W.Frag) (aB aP aM C:Addr):Sp:=fun vs H Q _=>∃ (x:Addr) (H0:Hp) (A:Hh) (S:Pl) (Cs:List Addr) (j n:Nat) (b:Str × Nat),vs=[.ref x,.ref A.p,.int (j:Nat),.int (n:Nat)]/\Ex C H x S.bs S.rk S.ks S.ls/\Ed K aB aP aM H0 H A S Cs/\S.bs[j]? = some b/\n<b.2/\∀ H',Am H H'->Q (.bl true) H'
noncomputable def ZM (K:PySem.W.Frag) (aB aP aM C:Addr):Sp:=fun vs H Q _=>∃ (x:Addr) (H0:Hp) (A:Hh) (S:Pl) (Cs:List Addr) (j n:Nat) (b:Str × Nat × Int),vs=[.ref x,.ref A.p,.int (j:Nat),.int (n:Nat)]/\Ex C H x S.bs S.rk S.ks S.ls/\Ed K aB aP aM H0 H A S Cs/\S.rk[j]? = some b/\n<b.2.1/\∀ H',Am H H'->Q (.bl true) H'
theorem Uo {rk:List (Str × Nat × Int)} {i n:Nat} {b:Str × Nat × Int} (h:rk[i]? = some b) (hn:n<b.2.1):(IW (rk.map Vd))[((rk.take i).map fun r=>r.2.1).sum+n]? = some (i,n):=by
 have:=M5 (bs:=rk.map Vd) (i:=i) (n:=n) (b:=Vd b) (by rw [List.getElem?_map,h]; rfl) hn
 rw [← List.map_take,List.map_map] at this
 exact this
theorem VD:BP ["_law_organ","_law_plan_here","_law_at","_law_number_here","_law_due","_law_found"] ["_law_organ","_law_plan_here","_law_at","_law_number_here"] (Ac Ue):=⟨rfl,rfl,rfl,by decide +kernel,rfl,by decide +kernel,by decide +kernel⟩
include N T in
theorem ZD:BK P w K mg base Bm 3 fKy dKy ["_law_organ","_law_plan_here","_law_at","_law_number_here"] (Wx K aB aP aM C):=by
 have GPq:BK P w K mg base Bm 2 fPq dPq ["_law_found","_law_at","_law_number_here"] Um:=R7 N T
 have GLw:BK P w K mg base Bm 1 fLw dLw ["_law_found"] Ke:=M3 N T
 have GOk:BK P w K mg base Bm 2 fOk dOk ["self","board","number"] (X5 C):=Wm N T
 have GOo:BK P w K mg base Bm 1 fOo dOo ["self","key"] (Yi C):=W0 N T
 refine N.FKy.1.ok VD (fun vs H Q E h=>?_) (fun cdv A outer s H vs Q E hr h=>?_)
 ·obtain ⟨x,H0,A,S,Cs,j,n,b,rfl,_⟩:=h
  rfl
 ·obtain ⟨x,H0,A,S,Cs,j,n,b,rfl,O,F,hj,hn,q⟩:=h
  have hrPq:Be 2 _:=hr.mono (by decide)
  have hrLw:Be 1 _:=hr.mono (by decide)
  have hrOk:Be 2 _:=hr.mono (by decide)
  have hrOo:Be 1 _:=hr.mono (by decide)
  have hu:=Cz hr
  refine ⟨_,(Ae (Ba (i:=4) VD.nd rfl (Or.inl rfl) (BW Cr (Ax (Il rfl) rfl T.sum PyProof.Rows.boot_sum (Aa (Bp rfl (Bf (osc:=Ac Ue) (N:=["_law_organ","_law_plan_here","_law_at","_law_number_here","_law_due","_law_found"]) rfl rfl (by decide +kernel)) (Bl (DG Fi (BR hu (pv 1) Ao (fun _ _=>rfl)) Eg (Dc (pv 2)))) (fun _ _ _ _=>CG) (fun _ _ _ _=>(BV (A_ (K:=K) rfl) (pv 0) Ad (fun _ _=>rfl)))) Ab)) (pv 3)))
   (Ae (Ba (i:=5) VD.nd rfl (Or.inl rfl) (Er (pv 0) T.cl N.FOk.2.2 GOk hrOk N.FOk.2.1 .nil Az (Aa (BV (A_ (K:=K) rfl) (BV (Ds (K:=K) rfl) (BR hu (pv 1) Ao (fun _ _=>rfl)) (pv 2) (fun _ _=>rfl)) Ad (fun _ _=>rfl)) (Aa (pv 3) Ab))))
   (Ag (Ay (Ck (Aj GLw hrLw rfl N.FLw.2.2 N.FLw.1.kp N.FLw.2.1 .nil Az (Aa (pv 5) Ab)) (Ck (Cy Dd (pv 5) (pv 4) (Bd _)) (Cq (Aj GPq hrPq rfl N.FPq.2.2 N.FPq.1.kp N.FPq.2.1 .nil Az (Aa (Er (pv 0) T.cl N.FOo.2.2 GOo hrOo N.FOo.2.1 .nil Az (Aa (pv 4) Ab)) (Aa (pv 2) (Aa (pv 3) Ab))))))))))),?_⟩
  have inst:∀ {H':Hp},Am H H'->∃ dx fs,H' x=some (.ins C dx fs)/\∀ m∈meths,fs.lookup m=none:=fun s'=>by
   obtain ⟨⟨dx,fs,_,_,_,_,_,_,_,_,h1,_,_,_,_,lm,_⟩,_⟩:=(O.mono s').o
   exact ⟨dx,fs,h1,lm⟩
  obtain ⟨lo,hA⟩:=F.h
  obtain ⟨bb,lo',hbb,kk⟩:=F.k
  obtain ⟨kvs,g1,g2,y1,y2,y3,y4,y5,y6,y7⟩:=hA.dp
  have gb:=Bs.k (k:=Sum.inr "boards") g1
  rw [y2] at gb
  obtain ⟨vb,b1,b2⟩:=hA.b
  have lb:=b2.length
  have b5:=kk.b5
  have hjl:j<S.bs.length:=(List.getElem?_eq_some_iff.mp hj).1
  refine ⟨_,rfl,A.p,_,rfl,gb,_,rfl,_,rfl,A.b,vb,rfl,.inl (.inl b1),fun p6 hp6=>?_⟩
  have s6:=Ak (o:=HO.lst (Cv vb none (some (j:Int)))) hp6
  have a6:upd H p6 (HO.lst (Cv vb none (some (j:Int)))) p6=_:=Af
  generalize upd H p6 (HO.lst (Cv vb none (some (j:Int))))=H6 at s6 a6 ⊢
  rw [Fx vb j (by omega)] at a6
  have p6':=Et (Ah s6 b2) j
  have hS6:Cm K H6 p6 (vb.take j):=.inl (.inl a6)
  refine ⟨p6,rfl,⟨_,hS6⟩,CN (K:=K) (xs:=vb.take j) (fun _=>true) (HB H6 1) hS6 (Ar (by rw [List.length_take]; omega)) (fun y hy Hx hs R kk=>kk Hx (Am.refl Hx)) (fun y hy _ Hx hs R kk=>?_) (fun D7 H7 hD7 s7 hl7=>?_)⟩
  ·obtain ⟨b',_,hx'⟩:=Bw p6' hy
   have e:=DY hx' 1
   obtain ⟨T0,rfl,hT⟩:=hx'.mono hs
   refine ⟨_,rfl,T0,_,_,_,rfl,rfl,.inl (.inl hT),Al (j:=1) rfl,?_⟩
   have:=kk Hx (Am.refl Hx)
   rw [e] at this
   exact this
  rw [List.filter_eq_self.mpr (fun _ _=>rfl),Eb 1 p6'] at hl7
  have e7:((S.bs.take j).map fun a=>(bV a).getD 1 V.non)=(((S.bs.take j).map fun a=>a.2).map fun n:Nat=>(n:Int)).map V.int:=by
   rw [List.map_map,List.map_map]
   rfl
  rw [e7] at hl7
  refine ⟨D7,_,rfl,.inl (.inl hl7),fun m hm=>?_,by simp; omega,?_⟩
  ·obtain ⟨m',hm',rfl⟩:=List.mem_map.mp hm
   obtain ⟨b',hb',rfl⟩:=List.mem_map.mp hm'
   have:=kk.sb b' (List.mem_of_mem_take hb')
   omega
  rw [Io]
  refine ⟨_,rfl,_,_,rfl,rfl,?_⟩
  have ei:((((S.bs.take j).map fun a=>a.2).sum:Nat):Int)+((n:Nat):Int)=(((((S.bs.take j).map fun a=>a.2).sum+n:Nat)):Int):=by omega
  show DR 4 (V.int (((((S.bs.take j).map fun a=>a.2).sum:Nat):Int)+((n:Nat):Int))) _ _ _
  rw [ei]
  have s07:=s6.trans s7
  have g7:=Bs.k (k:=Sum.inr "boards") (s07 _ _ g1)
  rw [y2] at g7
  obtain ⟨yb,eb,Tb,rfl,tb⟩:=Bk (Ah s07 b2) hj
  obtain ⟨dx7,fs7,hx7,lm7⟩:=inst s07
  refine ⟨_,rfl,x,dx7,fs7,rfl,hx7,lm7 _ (by decide +kernel),_,rfl,A.p,_,rfl,g7,_,rfl,A.b,vb,_,_,rfl,rfl,.inl (.inl (s07 _ _ b1)),Al eb,Tb,_,_,_,rfl,rfl,.inl (.inl tb),Al (j:=0) rfl,_,rfl,x,_,_,j,b,_,rfl,(O.mono s07).o,hj,fun H8 s8=>?_⟩
  have s08:=s07.trans s8
  rw [ei]
  refine ⟨_,rfl,_,rfl,_,rfl,Dy ?_⟩
  refine ⟨_,rfl,_,rfl,rfl,_,rfl,?_⟩
  rw [decide_eq_true rfl]
  refine Dy ?_
  obtain ⟨dx8,fs8,hx8,lm8⟩:=inst s08
  refine ⟨_,rfl,x,dx8,fs8,rfl,hx8,lm8 _ (by decide +kernel),_,rfl,x,_,_,_,(j,n),rfl,(O.mono s08).o,M5 hj hn,fun y ty=>?_⟩
  obtain ⟨T9,rfl,t9⟩:=ty
  exact ⟨_,rfl,_,rfl,T9,j,n,rfl,t9,fun H9 s9=>q _ (s08.trans s9)⟩
theorem Uk:BP ["_law_organ","_law_plan_here","_law_at","_law_number_here","_law_due","_law_found"] ["_law_organ","_law_plan_here","_law_at","_law_number_here"] (Ac Ud):=⟨rfl,rfl,rfl,by decide +kernel,rfl,by decide +kernel,by decide +kernel⟩
include N T in
theorem Wk:BK P w K mg base Bm 3 fPj dPj ["_law_organ","_law_plan_here","_law_at","_law_number_here"] (ZM K aB aP aM C):=by
 have GPq:BK P w K mg base Bm 2 fPq dPq ["_law_found","_law_at","_law_number_here"] Um:=R7 N T
 have GLw:BK P w K mg base Bm 1 fLw dLw ["_law_found"] Ke:=M3 N T
 have GOe:BK P w K mg base Bm 2 fOe dOe ["self","rank","number"] (Wt C):=Wl N T
 have GOv:BK P w K mg base Bm 1 fOv dOv ["self","pipe"] (Xr C):=Wn N T
 refine N.FPj.1.ok Uk (fun vs H Q E h=>?_) (fun cdv A outer s H vs Q E hr h=>?_)
 ·obtain ⟨x,H0,A,S,Cs,j,n,b,rfl,_⟩:=h
  rfl
 ·obtain ⟨x,H0,A,S,Cs,j,n,b,rfl,O,F,hj,hn,q⟩:=h
  have hrPq:Be 2 _:=hr.mono (by decide)
  have hrLw:Be 1 _:=hr.mono (by decide)
  have hrOe:Be 2 _:=hr.mono (by decide)
  have hrOv:Be 1 _:=hr.mono (by decide)
  have hu:=Cz hr
  refine ⟨_,(Ae (Ba (i:=4) Uk.nd rfl (Or.inl rfl) (BW Cr (Ax (Il rfl) rfl T.sum PyProof.Rows.boot_sum (Aa (Bp rfl (Bf (osc:=Ac Ud) (N:=["_law_organ","_law_plan_here","_law_at","_law_number_here","_law_due","_law_found"]) rfl rfl (by decide +kernel)) (Bl (DG Fi (BR hu (pv 1) Ao (fun _ _=>rfl)) Eg (Dc (pv 2)))) (fun _ _ _ _=>CG) (fun _ _ _ _=>(BV (A_ (K:=K) rfl) (pv 0) Ad (fun _ _=>rfl)))) Ab)) (pv 3)))
   (Ae (Ba (i:=5) Uk.nd rfl (Or.inl rfl) (Er (pv 0) T.cl N.FOe.2.2 GOe hrOe N.FOe.2.1 .nil Az (Aa (BV (A_ (K:=K) rfl) (BV (Ds (K:=K) rfl) (BR hu (pv 1) Ao (fun _ _=>rfl)) (pv 2) (fun _ _=>rfl)) Ad (fun _ _=>rfl)) (Aa (pv 3) Ab))))
   (Ag (Ay (Ck (Aj GLw hrLw rfl N.FLw.2.2 N.FLw.1.kp N.FLw.2.1 .nil Az (Aa (pv 5) Ab)) (Ck (Cy Dd (pv 5) (pv 4) (Bd _)) (Cq (Aj GPq hrPq rfl N.FPq.2.2 N.FPq.1.kp N.FPq.2.1 .nil Az (Aa (Er (pv 0) T.cl N.FOv.2.2 GOv hrOv N.FOv.2.1 .nil Az (Aa (pv 4) Ab)) (Aa (pv 2) (Aa (pv 3) Ab))))))))))),?_⟩
  have inst:∀ {H':Hp},Am H H'->∃ dx fs,H' x=some (.ins C dx fs)/\∀ m∈meths,fs.lookup m=none:=fun s'=>by
   obtain ⟨⟨dx,fs,_,_,_,_,_,_,_,_,h1,_,_,_,_,lm,_⟩,_⟩:=(O.mono s').o
   exact ⟨dx,fs,h1,lm⟩
  obtain ⟨lo,hA⟩:=F.h
  obtain ⟨bb,lo',hbb,kk⟩:=F.k
  obtain ⟨kvs,g1,g2,y1,y2,y3,y4,y5,y6,y7⟩:=hA.dp
  have gb:=Bs.k (k:=Sum.inr "ranks") g1
  rw [y3] at gb
  obtain ⟨vb,b1,b2⟩:=hA.k
  have lb:=b2.length
  have b5:=kk.r12
  have hjl:j<S.rk.length:=(List.getElem?_eq_some_iff.mp hj).1
  refine ⟨_,rfl,A.p,_,rfl,gb,_,rfl,_,rfl,A.k,vb,rfl,.inl (.inl b1),fun p6 hp6=>?_⟩
  have s6:=Ak (o:=HO.lst (Cv vb none (some (j:Int)))) hp6
  have a6:upd H p6 (HO.lst (Cv vb none (some (j:Int)))) p6=_:=Af
  generalize upd H p6 (HO.lst (Cv vb none (some (j:Int))))=H6 at s6 a6 ⊢
  rw [Fx vb j (by omega)] at a6
  have p6':=Et (Ah s6 b2) j
  have hS6:Cm K H6 p6 (vb.take j):=.inl (.inl a6)
  refine ⟨p6,rfl,⟨_,hS6⟩,CN (K:=K) (xs:=vb.take j) (fun _=>true) (HB H6 1) hS6 (Ar (by rw [List.length_take]; omega)) (fun y hy Hx hs R kk=>kk Hx (Am.refl Hx)) (fun y hy _ Hx hs R kk=>?_) (fun D7 H7 hD7 s7 hl7=>?_)⟩
  ·obtain ⟨b',_,hx'⟩:=Bw p6' hy
   have e:=DY hx' 1
   obtain ⟨T0,rfl,hT⟩:=hx'.mono hs
   refine ⟨_,rfl,T0,_,_,_,rfl,rfl,.inl (.inl hT),Al (j:=1) rfl,?_⟩
   have:=kk Hx (Am.refl Hx)
   rw [e] at this
   exact this
  rw [List.filter_eq_self.mpr (fun _ _=>rfl),Eb 1 p6'] at hl7
  have e7:((S.rk.take j).map fun a=>(Wc a).getD 1 V.non)=(((S.rk.take j).map fun a=>a.2.1).map fun n:Nat=>(n:Int)).map V.int:=by
   rw [List.map_map,List.map_map]
   rfl
  rw [e7] at hl7
  refine ⟨D7,_,rfl,.inl (.inl hl7),fun m hm=>?_,by simp; omega,?_⟩
  ·obtain ⟨m',hm',rfl⟩:=List.mem_map.mp hm
   obtain ⟨b',hb',rfl⟩:=List.mem_map.mp hm'
   have:=kk.sr b' (List.mem_of_mem_take hb')
   omega
  rw [Io]
  refine ⟨_,rfl,_,_,rfl,rfl,?_⟩
  have ei:((((S.rk.take j).map fun a=>a.2.1).sum:Nat):Int)+((n:Nat):Int)=(((((S.rk.take j).map fun a=>a.2.1).sum+n:Nat)):Int):=by omega
  show DR 4 (V.int (((((S.rk.take j).map fun a=>a.2.1).sum:Nat):Int)+((n:Nat):Int))) _ _ _
  rw [ei]
  have s07:=s6.trans s7
  have g7:=Bs.k (k:=Sum.inr "ranks") (s07 _ _ g1)
  rw [y3] at g7
  obtain ⟨yb,eb,Tb,rfl,tb⟩:=Bk (Ah s07 b2) hj
  obtain ⟨dx7,fs7,hx7,lm7⟩:=inst s07
  refine ⟨_,rfl,x,dx7,fs7,rfl,hx7,lm7 _ (by decide +kernel),_,rfl,A.p,_,rfl,g7,_,rfl,A.k,vb,_,_,rfl,rfl,.inl (.inl (s07 _ _ b1)),Al eb,Tb,_,_,_,rfl,rfl,.inl (.inl tb),Al (j:=0) rfl,_,rfl,x,_,_,_,_,j,b,_,rfl,(O.mono s07),hj,fun H8 s8=>?_⟩
  have s08:=s07.trans s8
  rw [ei]
  refine ⟨_,rfl,_,rfl,_,rfl,Dy ?_⟩
  refine ⟨_,rfl,_,rfl,rfl,_,rfl,?_⟩
  rw [decide_eq_true rfl]
  refine Dy ?_
  obtain ⟨dx8,fs8,hx8,lm8⟩:=inst s08
  refine ⟨_,rfl,x,dx8,fs8,rfl,hx8,lm8 _ (by decide +kernel),_,rfl,x,_,_,_,_,_,(j,n),rfl,(O.mono s08),Uo hj hn,fun y ty=>?_⟩
  obtain ⟨T9,rfl,t9⟩:=ty
  exact ⟨_,rfl,_,rfl,T9,j,n,rfl,t9,fun H9 s9=>q _ (s08.trans s9)⟩
noncomputable def Yx (K:PySem.W.Frag) (aB aP aM C:Addr):Sp:=fun vs H Q _=>∃ (x:Addr) (H0:Hp) (A:Hh) (S:Pl) (Cs:List Addr) (c:Int),vs=[.ref x,.ref A.p,.int c]/\Ex C H x S.bs S.rk S.ks S.ls/\Ed K aB aP aM H0 H A S Cs/\∀ H',Am H H'->Q (.bl true) H'
theorem three {m:Int} {c:Int} (hm:1<=m) {y:V} (hy:y∈[V.int 0,.int (m - 1),.int (c % m)]):∃ n:Nat,y=.int (n:Nat)/\(n:Int)<m:=by
 have h0:=Int.emod_nonneg c (show m ≠ 0 by omega)
 have h1:=Int.emod_lt_of_pos c (show 0<m by omega)
 simp only [List.mem_cons,List.not_mem_nil,or_false] at hy
 rcases hy with rfl | rfl | rfl
 ·exact ⟨0,rfl,by omega⟩
 ·exact ⟨(m - 1).toNat,by rw [Int.toNat_of_nonneg (by omega)],by omega⟩
 ·exact ⟨(c % m).toNat,by rw [Int.toNat_of_nonneg h0],by omega⟩
theorem Rb:BP ["_law_organ","_law_plan_here","_law_cell","_law_at","_law_pipes","_law_number_here"] ["_law_organ","_law_plan_here","_law_cell"] (Ac V5):=⟨rfl,rfl,rfl,by decide +kernel,rfl,by decide +kernel,by decide +kernel⟩
include N T in
theorem Yc:BK P w K mg base Bm 4 fSp dSp ["_law_organ","_law_plan_here","_law_cell"] (Yx K aB aP aM C):=by
 have GOq:BK P w K mg base Bm 1 fOq dOq ["self"] (Yl C):=XN N T
 have GMi:BK P w K mg base Bm 1 fMi dMi ["_law_cell","_law_by","_law_many_here"] JQ:=HF N T
 have GPj:BK P w K mg base Bm 3 fPj dPj ["_law_organ","_law_plan_here","_law_at","_law_number_here"] (ZM K aB aP aM C):=Wk N T
 refine N.FSp.1.ok Rb (fun vs H Q E h=>?_) (fun cdv A outer s H vs Q E hr h=>?_)
 ·obtain ⟨x,H0,A,S,Cs,c,rfl,_⟩:=h
  rfl
 ·obtain ⟨x,H0,A,S,Cs,c,rfl,O,F,q⟩:=h
  have hrOq:Be 1 _:=hr.mono (by decide)
  have hrMi:Be 1 _:=hr.mono (by decide)
  have hrPj:Be 3 _:=hr.mono (by decide)
  have hu:=Cz hr
  refine ⟨_,(Ae (Bq (Bb (Hk (Nat.lt_of_succ_lt hu)) (BR hu (pv 1) Ao (fun _ _=>rfl)) (Bx Ab) (Bd _)) (Ag (Ay (Cy Dd (Pj (pv 0) T.cl N.FOq.2.2 GOq hrOq N.FOq.2.1 .nil Az) Ad (Bd _)))) Bc)
   (Ae (Ba (i:=3) Rb.nd rfl (Or.inl rfl) (Aj GMi hrMi rfl N.FMi.2.2 N.FMi.1.kp N.FMi.2.1 .nil Az (Aa (pv 2) (Aa Ad (Aa (Ax BJ rfl T.len PySem.boot_len (Aa (BR hu (pv 1) Ao (fun _ _=>rfl)) Ab)) Ab)))))
   (Ae (Ba (i:=4) Rb.nd rfl (Or.inl rfl) (BV (A_ (K:=K) rfl) (BV (Ds (K:=K) rfl) (BR hu (pv 1) Ao (fun _ _=>rfl)) (pv 3) (fun _ _=>rfl)) Ad (fun _ _=>rfl)))
   (Ae (Du PassesOwn.never rfl (Bl (Bx (Aa Ad (Aa (BW Fj (pv 4) Ad) (Aa (BW Ca (BW Dq (pv 2) Ad) (pv 4)) Ab))))) (CK (i:=5) Rb.nd rfl (Or.inl rfl)) (Ag (Bq (Cw (Cp (Aj GPj hrPj rfl N.FPj.2.2 N.FPj.1.kp N.FPj.2.1 .nil Az (Aa (pv 0) (Aa (pv 1) (Aa (pv 3) (Aa (pv 5) Ab))))))) (Ag (Ay Ej)) Bc)))
   (Ag (Ay Ej)))))),?_⟩
  have inst:∀ {H':Hp},Am H H'->∃ dx fs,H' x=some (.ins C dx fs)/\∀ m∈meths,fs.lookup m=none:=fun s'=>by
   obtain ⟨⟨dx,fs,_,_,_,_,_,_,_,_,h1,_,_,_,_,lm,_⟩,_⟩:=(O.mono s').o
   exact ⟨dx,fs,h1,lm⟩
  obtain ⟨lo,hA⟩:=F.h
  obtain ⟨bb,lo',hbb,kk⟩:=F.k
  obtain ⟨kvs,g1,g2,y1,y2,y3,y4,y5,y6,y7⟩:=hA.dp
  have gb:=Bs.k (k:=Sum.inr "ranks") g1
  rw [y3] at gb
  obtain ⟨vb,b1,b2⟩:=hA.k
  have lb:=b2.length
  refine ⟨_,rfl,A.p,_,rfl,gb,Bt (by simp),fun E1 hE1=>?_⟩
  have s1:=Ak (o:=HO.lst []) hE1
  have l1:upd H E1 (HO.lst []) E1=some (.lst []):=Af
  generalize upd H E1 (HO.lst [])=H1 at s1 l1 ⊢
  refine ⟨A.k,E1,_,rfl,rfl,.inl (.inl (s1 _ _ b1)),.inl (.inl l1),_,rfl,?_⟩
  cases vb with
  | nil =>
   refine Dy ?_
   obtain ⟨dx1,fs1,hx1,lm1⟩:=inst s1
   have e:S.rk=[]:=List.eq_nil_of_length_eq_zero lb
   refine ⟨_,rfl,x,dx1,fs1,rfl,hx1,lm1 _ (by decide +kernel),x,_,_,_,_,rfl,O.mono s1,rfl,?_⟩
   rw [e]
   exact q _ s1
  | cons v0 vs0 =>
   refine Dg ?_
   have p0:0<(v0::vs0).length:=Nat.succ_pos _
   generalize v0::vs0=vb at b1 b2 lb p0
   have gb1:=Bs.k (k:=Sum.inr "ranks") (s1 _ _ g1)
   rw [y3] at gb1
   refine ⟨_,rfl,_,rfl,A.p,_,rfl,gb1,A.k,_,rfl,.inl (.inl (.inl (s1 _ _ b1))),c,50047,_,rfl,(by show (0:Int)<((vb.length:Nat):Int); omega),by decide,by decide,fun u u0 u1=>?_⟩
   obtain ⟨j,hj0⟩:=Int.eq_ofNat_of_zero_le u0
   subst hj0
   have hjl:j<S.rk.length:=by omega
   obtain ⟨b,hj⟩:∃ b,S.rk[j]? = some b:=⟨_,List.getElem?_eq_getElem hjl⟩
   have hbz:=kk.sr b (List.mem_of_getElem? hj)
   obtain ⟨yb,eb,Tb,rfl,tb⟩:=Bk (Ah s1 b2) hj
   refine ⟨_,rfl,A.p,_,rfl,gb1,_,rfl,A.k,vb,_,_,rfl,rfl,.inl (.inl (s1 _ _ b1)),Al eb,Tb,_,_,_,rfl,rfl,.inl (.inl tb),Al (j:=1) rfl,?_⟩
   have hm:(1:Int)<=((b.2.1:Nat):Int):=by omega
   refine ⟨_,rfl,_,_,rfl,rfl,_,rfl,_,_,rfl,rfl,⟨by decide,by decide⟩,_,rfl,_,_,rfl,rfl,(by show (0:Int)<((b.2.1:Nat):Int); omega),by show 3<=sizeLine; decide,fun p2 hp2=>?_⟩
   have s2:=Ak (o:=HO.lst [V.int 0,.int (((b.2.1:Nat):Int) - 1),.int (c / 2 % ((b.2.1:Nat):Int))]) hp2
   have l2:upd H1 p2 (HO.lst [V.int 0,.int (((b.2.1:Nat):Int) - 1),.int (c / 2 % ((b.2.1:Nat):Int))]) p2=some (.lst [V.int 0,.int (((b.2.1:Nat):Int) - 1),.int (c / 2 % ((b.2.1:Nat):Int))]):=Af
   generalize upd H1 p2 (HO.lst [V.int 0,.int (((b.2.1:Nat):Int) - 1),.int (c / 2 % ((b.2.1:Nat):Int))])=H2 at s2 l2 ⊢
   have hS2:Cm K H2 p2 [V.int 0,.int (((b.2.1:Nat):Int) - 1),.int (c / 2 % ((b.2.1:Nat):Int))]:=.inl (.inl l2)
   have s02:=s1.trans s2
   refine ⟨p2,rfl,⟨_,hS2⟩,Ek (K:=K) (a:=p2) (xs:=[V.int 0,.int (((b.2.1:Nat):Int) - 1),.int (c / 2 % ((b.2.1:Nat):Int))]) (fun i σ H4=>Am H2 H4/\∃ v5,σ=[some (.ref x),some (.ref A.p),some (.int c),some (.int (j:Nat)),some (.int (b.2.1:Nat)),v5]) ⟨Am.refl _,_,rfl⟩ (fun i σ H4 _ h=>h.1.seq hS2) ?_ ?_⟩
   ·rintro i y σ H4 hy ⟨s4,v5,rfl⟩
    obtain ⟨n,rfl,hn⟩:=three hm (List.mem_of_getElem? hy)
    have s04:=s02.trans s4
    exact ⟨_,rfl,_,rfl,_,rfl,_,rfl,x,H0,A,S,Cs,j,n,b,rfl,O.mono s04,F.mono s04,hj,by omega,fun H6 s6=>⟨_,rfl,Dg ⟨s4.trans s6,_,rfl⟩⟩⟩
   rintro σ H4 ⟨s4,v5,rfl⟩
   exact q _ (s02.trans s4)
noncomputable def Xj:Sp:=fun vs H Q _=>∃ (v:V) (D:Addr) (ns:List Str) (t:Str),vs=[v,.ref D,.str t]/\H D=some (.lst (ns.map V.str))/\v=Gz ns (.str t)/\Q (.bl true) H
theorem Jd (ns:List Str):(ns.map V.str).all Dv=true:=List.all_eq_true.mpr fun v hv=>by
 obtain ⟨n,_,rfl⟩:=List.mem_map.mp hv
 rfl
theorem aO:BP ["_law_found","_law_names","_law_name_here"] ["_law_found","_law_names","_law_name_here"] (Ac V9):=⟨rfl,rfl,rfl,by decide +kernel,rfl,by decide +kernel,by decide +kernel⟩
include N T in
theorem Yg:BK P w K mg base Bm 2 fNr dNr ["_law_found","_law_names","_law_name_here"] Xj:=by
 have GLw:BK P w K mg base Bm 1 fLw dLw ["_law_found"] Ke:=M3 N T
 refine N.FNr.1.ok aO (fun vs H Q E h=>?_) (fun cdv A outer s H vs Q E hr h=>?_)
 ·obtain ⟨v,D,ns,t,rfl,_⟩:=h
  rfl
 ·obtain ⟨v,D,ns,t,rfl,hD,hv,q⟩:=h
  have hrLw:Be 1 _:=hr.mono (by decide)
  have hu:=Cz hr
  refine ⟨_,(Ae (Bq (Bb Fb (pv 2) (pv 1) rfl) (Ag (Ay (Cy U8 (pv 0) El (Bd _)))) Bc)
   (Ag (Ay (Ck (Aj GLw hrLw rfl N.FLw.2.2 N.FLw.1.kp N.FLw.2.1 .nil Az (Aa (pv 0) Ab)) (Cq (Cy Dd (pv 0) (Ef PySem.F.plainAttrs_list PySem.F.slot_list_index PySem.F.type_list_index Pb (pv 1) (Aa (pv 2) Ab)) (Bd _))))))),?_⟩
  have hS:Cm K H D (ns.map V.str):=.inl (.inl hD)
  refine ⟨_,rfl,_,rfl,D,_,rfl,.inl hS,rfl,Jd ns,_,rfl,?_⟩
  rw [Pa]
  by_cases ht:t∈ns
  ·have ev:v=.int ((ns.idxOf t:Nat):Int):=hv.trans (if_pos ht)
   subst ev
   rw [decide_eq_true ht]
   refine Dg ?_
   have hl:=List.idxOf_lt_length_of_mem ht
   refine ⟨_,rfl,_,rfl,_,rfl,Dy ?_⟩
   refine ⟨_,rfl,_,rfl,.inl ⟨rfl,_,hS⟩,_,rfl,D,_,_,ns.idxOf t,rfl,rfl,hS,rfl,Jd ns,by rw [List.length_map]; exact hl,?_,?_,rfl,?_⟩
   ·rw [List.getD_eq_getElem?_getD,List.getElem?_map,Mt ht]
    show KC (.str t) (.str t)=true
    rw [IK]
    exact decide_eq_true rfl
   ·intro m hm
    have hm':m<ns.length:=by omega
    rw [List.getD_eq_getElem?_getD,List.getElem?_map,List.getElem?_eq_getElem hm']
    show KC (.str ns[m]) (.str t)=false
    rw [IK]
    exact decide_eq_false (QX hm _ (List.getElem?_eq_getElem hm'))
   ·rw [decide_eq_true rfl]
    exact q
  ·have ev:v=.non:=hv.trans (if_neg ht)
   subst ev
   rw [decide_eq_false ht]
   refine Dy ?_
   exact ⟨_,rfl,rfl,q⟩
theorem Ed.UW {K:PySem.W.Frag} {aB aP aM:Addr} {H0 H:Hp} {A:Hh} {S:Pl} {Cs:List Addr} (h:Ed K aB aP aM H0 H A S Cs):∀ n∈S.bs.map (·.1),isNm n:=by
 obtain ⟨bb,lo,hbb,k⟩:=h.k
 intro n hn
 obtain ⟨b,hb,rfl⟩:=List.mem_map.mp hn
 obtain ⟨i,_,e⟩:=k.nb b hb
 rw [e]
 exact Dz hbb i
theorem Ed.Tp {K:PySem.W.Frag} {aB aP aM:Addr} {H0 H:Hp} {A:Hh} {S:Pl} {Cs:List Addr} (h:Ed K aB aP aM H0 H A S Cs):∀ n∈S.ks.map (·.nm),isNm n:=by
 obtain ⟨bb,lo,hbb,k⟩:=h.k
 intro n hn
 obtain ⟨b,hb,rfl⟩:=List.mem_map.mp hn
 obtain ⟨i,_,e⟩:=k.nk b hb
 rw [e]
 exact Dz hbb i
theorem Ed.ak {K:PySem.W.Frag} {aB aP aM:Addr} {H0 H:Hp} {A:Hh} {S:Pl} {Cs:List Addr} (h:Ed K aB aP aM H0 H A S Cs):∀ n∈S.rk.map (·.1),isNm n:=by
 obtain ⟨bb,lo,hbb,k⟩:=h.k
 intro n hn
 obtain ⟨b,hb,rfl⟩:=List.mem_map.mp hn
 obtain ⟨i,_,e⟩:=k.nr b hb
 rw [e]
 exact Dz hbb i
noncomputable def Wa (K:PySem.W.Frag) (aB aP aM C:Addr):Sp:=fun vs H Q _=>∃ (x:Addr) (H0:Hp) (A:Hh) (S:Pl) (Cs:List Addr) (us:List V) (ls:List (List Ln)) (sts:List Nat) (t:Str),vs=[.ref x,.ref A.p,.str t]/\J2 C H x us S.bs S.rk S.ks ls sts/\Ed K aB aP aM H0 H A S Cs/\Tx t/\∀ H',Am H H'->Q (.bl true) H'
theorem Ui:BP ["_law_organ","_law_plan_here","_law_name_here","_law_boards","_law_knobs"] ["_law_organ","_law_plan_here","_law_name_here"] (Ac Tc):=⟨rfl,rfl,rfl,by decide +kernel,rfl,by decide +kernel,by decide +kernel⟩
include N T in
theorem Xb:BK P w K mg base Bm 4 fNs dNs ["_law_organ","_law_plan_here","_law_name_here"] (Wa K aB aP aM C):=by
 have GNr:BK P w K mg base Bm 2 fNr dNr ["_law_found","_law_names","_law_name_here"] Xj:=Yg N T
 have GOu:BK P w K mg base Bm 3 fOu dOu ["self","name"] (Va C):=TJ N T
 have GOj:BK P w K mg base Bm 3 fOj dOj ["self","name"] (U7 C):=SM N T
 refine N.FNs.1.ok Ui (fun vs H Q E h=>?_) (fun cdv A outer s H vs Q E hr h=>?_)
 ·obtain ⟨x,H0,A,S,Cs,us,ls,sts,t,rfl,_⟩:=h
  rfl
 ·obtain ⟨x,H0,A,S,Cs,us,ls,sts,t,rfl,O,F,ht,q⟩:=h
  have hrNr:Be 2 _:=hr.mono (by decide)
  have hrOu:Be 3 _:=hr.mono (by decide)
  have hrOj:Be 3 _:=hr.mono (by decide)
  have hu:=Cz hr
  refine ⟨_,(Ae (Jv (i:=3) Ui.nd rfl rfl rfl (Bf (osc:=Ac Tc) (N:=["_law_organ","_law_plan_here","_law_name_here","_law_boards","_law_knobs"]) rfl rfl (by decide +kernel)) (Bl (BR hu (pv 1) Ao (fun _ _=>rfl))) (fun _ _ _ _=>CG) (fun _ _ _ _=>(BV (A_ (K:=K) rfl) (pv 0) Ad (fun _ _=>rfl))))
   (Ae (Jv (i:=4) Ui.nd rfl rfl rfl (Bf (osc:=Ac Tc) (N:=["_law_organ","_law_plan_here","_law_name_here","_law_boards","_law_knobs"]) rfl rfl (by decide +kernel)) (Bl (BR hu (pv 1) Ao (fun _ _=>rfl))) (fun _ _ _ _=>CG) (fun _ _ _ _=>(BV (A_ (K:=K) rfl) (pv 0) Ad (fun _ _=>rfl))))
   (Ae (Bq (Cw (Cp (Aj GNr hrNr rfl N.FNr.2.2 N.FNr.1.kp N.FNr.2.1 .nil Az (Aa (Er (pv 0) T.cl N.FOu.2.2 GOu hrOu N.FOu.2.1 .nil Az (Aa (pv 2) Ab)) (Aa (pv 3) (Aa (pv 2) Ab)))))) (Ag (Ay Ej)) Bc)
   (Ag (Ay (Aj GNr hrNr rfl N.FNr.2.2 N.FNr.1.kp N.FNr.2.1 .nil Az (Aa (Er (pv 0) T.cl N.FOj.2.2 GOj hrOj N.FOj.2.1 .nil Az (Aa (pv 2) Ab)) (Aa (pv 4) (Aa (pv 2) Ab))))))))),?_⟩
  have inst:∀ {H':Hp},Am H H'->∃ dx fs,H' x=some (.ins C dx fs)/\∀ m∈meths,fs.lookup m=none:=fun s'=>by
   obtain ⟨⟨dx,fs,_,_,_,_,_,_,_,_,h1,_,_,_,_,lm,_⟩,_⟩:=(O.mono s').o.o
   exact ⟨dx,fs,h1,lm⟩
  obtain ⟨lo,hA⟩:=F.h
  obtain ⟨bb,lo',hbb,kk⟩:=F.k
  have b5:=kk.b5
  have lk:=kk.lk
  have l61:=F.l
  obtain ⟨kvs,g1,g2,y1,y2,y3,y4,y5,y6,y7⟩:=hA.dp
  have gb:=Bs.k (k:=Sum.inr "boards") g1
  rw [y2] at gb
  obtain ⟨vb,b1,b2⟩:=hA.b
  obtain ⟨vn,n1,n2⟩:=hA.n
  have lb:=b2.length
  have ln:=n2.length
  have s0:Am H H:=Am.refl H
  have hS1:Cm K H A.b vb:=.inl (.inl (s0 _ _ b1))
  refine ⟨_,rfl,A.p,_,rfl,gb,A.b,rfl,⟨_,hS1⟩,CN (K:=K) (xs:=vb) (fun _=>true) (HB H 0) hS1 (Ar (by omega)) (fun y hy Hx hs R kk=>kk Hx (Am.refl Hx)) (fun y hy _ Hx hs R kk=>?_) (fun D1 H1 hD1 s1 hl1=>?_)⟩
  ·obtain ⟨b',_,hx'⟩:=Bw (Ah s0 b2) hy
   have e:=DY hx' 0
   obtain ⟨T0,rfl,hT⟩:=hx'.mono hs
   refine ⟨_,rfl,T0,_,_,_,rfl,rfl,.inl (.inl hT),Al (j:=0) rfl,?_⟩
   have:=kk Hx (Am.refl Hx)
   rw [e] at this
   exact this
  rw [List.filter_eq_self.mpr (fun _ _=>rfl),Eb 0 (Ah s0 b2)] at hl1
  have e1:(S.bs.map fun a=>(bV a).getD 0 V.non)=(S.bs.map (·.1)).map V.str:=by
   rw [List.map_map]
   rfl
  rw [e1] at hl1
  have gn1:=Bs.k (k:=Sum.inr "knobs") (s1 _ _ g1)
  rw [y4] at gn1
  have hS2:Cm K H1 A.n vn:=.inl (.inl (s1 _ _ n1))
  refine ⟨_,rfl,A.p,_,rfl,gn1,A.n,rfl,⟨_,hS2⟩,CN (K:=K) (xs:=vn) (fun _=>true) (HB H1 1) hS2 (Ar (by omega)) (fun y hy Hx hs R kk=>kk Hx (Am.refl Hx)) (fun y hy _ Hx hs R kk=>?_) (fun D2 H2 hD2 s2 hl2=>?_)⟩
  ·obtain ⟨b',_,hx'⟩:=Bw (Ah s1 n2) hy
   have e:=DY hx' 1
   obtain ⟨T0,rfl,hT⟩:=hx'.mono hs
   refine ⟨_,rfl,T0,_,_,_,rfl,rfl,.inl (.inl hT),Al (j:=1) rfl,?_⟩
   have:=kk Hx (Am.refl Hx)
   rw [e] at this
   exact this
  rw [List.filter_eq_self.mpr (fun _ _=>rfl),Eb 1 (Ah s1 n2)] at hl2
  have e2:(S.ks.map fun a=>(S9 a).getD 1 V.non)=(S.ks.map (·.nm)).map V.str:=by
   rw [List.map_map]
   rfl
  rw [e2] at hl2
  have s02:=s1.trans s2
  obtain ⟨dx2,fs2,hx2,lm2⟩:=inst s02
  refine ⟨_,rfl,x,dx2,fs2,rfl,hx2,lm2 _ (by decide +kernel),_,rfl,x,us,_,_,_,_,_,_,rfl,O.mono s02,.str ht,F.UW,fun H3 s3=>?_⟩
  refine ⟨_,rfl,_,rfl,_,D1,_,t,rfl,s3 _ _ (s2 _ _ hl1),rfl,_,rfl,Dg ?_⟩
  have s03:=s02.trans s3
  obtain ⟨dx3,fs3,hx3,lm3⟩:=inst s03
  refine ⟨_,rfl,x,dx3,fs3,rfl,hx3,lm3 _ (by decide +kernel),_,rfl,x,us,_,_,_,_,_,_,rfl,O.mono s03,.str ht,F.Tp,fun H4 s4=>?_⟩
  exact ⟨_,rfl,_,rfl,_,D2,_,t,rfl,s4 _ _ (s3 _ _ hl2),rfl,q _ (s03.trans s4)⟩
theorem Lw {z:Str} (h:1<=z.cps.toList.length):(Txt.slice z (some 1) none).cps.toList=z.cps.toList.drop 1:=by
 have hl:z.length=z.cps.toList.length:=by simp [Str.length]
 rw [PyProof.Rows.slice_from_eq (x:=z) (i:=1) (b:=(z.length:Int)) (by decide) (by omega) rfl]
 rw [List.toList_toArray]
 refine List.take_of_length_le ?_
 rw [List.length_drop]
 omega
theorem Y5 {t:Str} (h:isNm t):Tx ⟨t.cps.map PyProof.Rows.up1⟩:=by
 refine ⟨?_,fun c hc=>?_⟩
 ·show (t.cps.map PyProof.Rows.up1).size<=1000
  rw [Array.size_map]
  have:=h.2.1
  exact Nat.le_trans this (by decide)
 ·have hc':c∈(t.cps.map PyProof.Rows.up1).toList:=hc
  rw [Array.toList_map] at hc'
  obtain ⟨d,hd,rfl⟩:=List.mem_map.mp hc'
  have:=h.2.2 d hd
  unfold PyProof.Rows.up1
  split <;> omega
theorem R0 {t:Str} (h:isNm t):Tx (Txt.slice t (some 1) none):=by
 have h1:1<=t.cps.toList.length:=h.1
 have e:=Lw h1
 refine ⟨?_,fun c hc=>?_⟩
 ·show (Txt.slice t (some 1) none).cps.size<=1000
  rw [← Array.length_toList,e,List.length_drop]
  have:t.cps.toList.length<=8:=h.2.1
  omega
 ·rw [e] at hc
  have:=h.2.2 c (List.mem_of_mem_drop hc)
  omega
theorem a_ {t:Str} (h:isNm t):Tx (t ++ "a"):=by
 refine ⟨?_,fun c hc=>?_⟩
 ·rw [len_app]
  have:=h.2.1
  have:("a" : Str).length=1:=by decide +kernel
  omega
 ·rw [HX] at hc
  rcases List.mem_append.mp hc with h' | h'
  ·have:=h.2.2 c h'
   omega
  ·have:c=97:=by
    have e:("a" : Str).cps.toList=[97]:=by decide +kernel
    rw [e] at h'
    exact List.mem_singleton.mp h'
   omega
theorem Ym {H:Hp} {xs:List V} (hx:xs.length=10) (ho:∀ v∈xs,Fv H v) (c:Int):∃ v,Ot xs (c % 10)=some v/\Fv H v:=by
 have h0:=Int.emod_nonneg c (show (10:Int) ≠ 0 by decide)
 have h1:=Int.emod_lt_of_pos c (show (0:Int)<10 by decide)
 obtain ⟨n,hn⟩:=Int.eq_ofNat_of_zero_le h0
 have hl:n<xs.length:=by omega
 refine ⟨xs[n],?_,ho _ (List.getElem_mem hl)⟩
 rw [hn]
 exact Al (List.getElem?_eq_getElem hl)
noncomputable def Za:Sp:=fun vs H Q _=>∃ (t:Str) (c:Int),vs=[.str t,.int c]/\isNm t/\∀ v H',Am H H'->Fv H' v->Q v H'
theorem Xz:BP ["_law_name_here","_law_cell","_law_some"] ["_law_name_here","_law_cell"] (Ac V_):=⟨rfl,rfl,rfl,by decide +kernel,rfl,by decide +kernel,by decide +kernel⟩
include N T in
theorem Zd:BK P w K mg base Bm 1 fOd dOd ["_law_name_here","_law_cell"] Za:=by
 refine N.FOd.1.ok Xz (fun vs H Q E h=>?_) (fun cdv A outer s H vs Q E hr h=>?_)
 ·obtain ⟨t,c,rfl,_⟩:=h
  rfl
 ·obtain ⟨t,c,rfl,ht,q⟩:=h
  have hu:=Cz hr
  refine ⟨_,(@Ae _ _ _ _ _ (@NP _ _ _ _ _ _ 2 Xz.nd rfl (Or.inl rfl) (@Bx _ _ _ _ (@Hz _ _ _ _ _ rfl El (@Hz _ _ _ _ _ rfl Ad (@Hz _ _ _ _ _ rfl Ej (@Hz _ _ _ _ _ rfl (@Bx _ _ _ _ (@Hz _ _ _ _ _ rfl (pv 0) Ab)) (@Hz _ _ _ _ _ rfl (@Cd _ _ _ _ _ (@Hz _ _ _ _ _ rfl (pv 0) Ab)) (@Hz _ _ _ _ _ rfl (Tw PySem.F.plainAttrs_str PySem.F.slot_str_upper PySem.F.type_str_upper Qc (pv 0)) (@Hz _ _ _ _ _ rfl (BW Fg (pv 0) Ao) (@Hz _ _ _ _ _ rfl (DG Ti (pv 0) (Dc Ad) Eg) (@Hz _ _ _ _ _ rfl Ao (@Hz _ _ _ _ _ rfl (BW Cr Ad (BW Ca (pv 1) (BW Jq Ad Ad))) Ab))))))))))) (by kernel_rfl) (.inl rfl))
   (@Ag _ _ _ (@Ay _ _ _ _ (@BV _ _ _ _ _ _ _ Cg (pv 2) (BW Ca (pv 1) Ad) (fun _ _=>rfl))))),?_⟩
  have l8:=ht.2.1
  have t1:([V.str t]:List V).length<=1000:=by simp
  refine ⟨_,rfl,Bt t1,fun p1 hp1=>?_⟩
  have s1:=Ak (o:=HO.lst [V.str t]) hp1
  have e1:upd H p1 (HO.lst [V.str t]) p1=some (.lst [V.str t]):=Af
  generalize upd H p1 (HO.lst [V.str t])=H1 at s1 e1 ⊢
  refine ⟨_,rfl,Bt t1,fun p2 hp2=>?_⟩
  have s2:=Ak (o:=HO.tup [V.str t]) hp2
  have e2:upd H1 p2 (HO.tup [V.str t]) p2=some (.tup [V.str t]):=Af
  generalize upd H1 p2 (HO.tup [V.str t])=H2 at s2 e2 ⊢
  refine ⟨_,rfl,rfl,t,rfl,rfl,by omega,fun c hc=>(by have:=ht.2.2 c hc; omega),?_⟩
  refine ⟨_,rfl,_,_,rfl,rfl,Bt (by show t.length+1<=1000; omega),?_⟩
  refine ⟨_,rfl,_,rfl,t,rfl,Bt (by omega),?_⟩
  refine ⟨_,rfl,_,_,rfl,rfl,⟨by decide,by decide,by decide⟩,_,_,rfl,rfl,(by show (0:Int)<10 ^ 30; decide),_,_,rfl,rfl,?_⟩
  refine ⟨by show 10<=sizeLine; decide,fun p3 hp3=>?_⟩
  have od:∀ v∈([V.non,.int 0,.bl true,.ref p1,.ref p2,.str ⟨t.cps.map PyProof.Rows.up1⟩,.str (t ++ "a"),.str (Txt.slice t (some 1) none),.str "",.int (1+c % 10 ^ Int.toNat 30)]:List V),Fv H2 v:=by
   intro v hv
   simp only [List.mem_cons,List.not_mem_nil,or_false] at hv
   rcases hv with rfl | rfl | rfl | rfl | rfl | rfl | rfl | rfl | rfl | rfl
   ·exact .non
   ·exact .int _
   ·exact .bl _
   ·exact .lst (s2 _ _ e1)
   ·exact .tup e2
   ·exact .str (Y5 ht)
   ·exact .str (a_ ht)
   ·exact .str (R0 ht)
   ·exact .str ⟨by decide +kernel,fun c hc=>(nomatch (show c∈([]:List Nat) from hc))⟩
   ·exact .int _
  obtain ⟨v,hv,ho⟩:=Ym rfl od c
  have s3:=Ak (o:=HO.lst [V.non,.int 0,.bl true,.ref p1,.ref p2,.str ⟨t.cps.map PyProof.Rows.up1⟩,.str (t ++ "a"),.str (Txt.slice t (some 1) none),.str "",.int (1+c % 10 ^ Int.toNat 30)]) hp3
  exact ⟨_,rfl,_,rfl,_,_,rfl,rfl,(by show (0:Int)<10; decide),p3,_,c % 10,v,rfl,rfl,.inl (.inl Af),hv,q _ _ (s1.trans (s2.trans s3)) (ho.mono s3)⟩
noncomputable def Nf (K:PySem.W.Frag):Sp:=fun vs H Q _=>∃ (a:Addr) (ns:List Int),vs=[.ref a]/\Cm K H a (ns.map V.int)/\ns.length<=63/\∀ H',Q (.bl true) H'
theorem Ed.org {K:PySem.W.Frag} {aB aP aM:Addr} {H0 H:Hp} {A:Hh} {S:Pl} {Cs:List Addr} (h:Ed K aB aP aM H0 H A S Cs) {vs:List V} (hv:Paired (fun (r:R) v=>TupAt H r.v v) S.rows vs):Rows H (K9 H) vs/\bH K aB aP aM (K9 H) vs S.bs S.rk S.ks/\linesOf S.rk (vs.map (K9 H))=S.ls/\((vs.filter (pw (K9 H) "step")).map fun v=>stN S.ks (K9 H v))=S.ch.map Wd.mk:=by
 obtain ⟨bb,lo,hbb,k⟩:=h.k
 have:=h.l
 have:=k.lk
 exact k.bl.fin hv h.b1 k.b5 (fun b hb=>(k.sb b hb).2) k.r12 (fun r hr=>(k.sr r hr).2) (by omega) k.db k.dr k.dk (by omega)
theorem Fq:BP ["_law_script","_law_plan_here","_law_organ","_law_names","_law_name_here","_law_cell","_law_at","_law_keys","_law_number_here","_law_odd_one","_law_found"] ["_law_script"] (Ac H_):=⟨rfl,rfl,rfl,by decide +kernel,rfl,by decide +kernel,by decide +kernel⟩
theorem Oo {K:PySem.W.Frag} {aB aP aM:Addr} {H0 H:Hp} {A:Hh} {S:Pl} {Cs:List Addr} (F:Ed K aB aP aM H0 H A S Cs):∀ n∈(S.bs.map (·.1)++S.rk.map (·.1))++S.ks.map (·.nm),isNm n:=fun n hn=>by
 rcases List.mem_append.mp hn with h | h
 ·rcases List.mem_append.mp h with h | h
  ·exact F.UW n h
  ·exact F.ak n h
 ·exact F.Tp n h
theorem Tf {f:Addr} {fd:FuncData} (F:Df K "law" "law" H_ f fd) (N:ao K mg C fWh fMd fNm fRo fTo fWi fPa fHp fCl fIk fSb fIs fWm fHr fIr fCk fNu fCa fPl fLi fSs fMy fSt fCe fLw fMi fNn fBb fMa fLb fLk fLs fLl fLc fLt fLr fLp fPq fKy fPj fSp fNr fNs fOd fOi fOb fOk fOo fBk fOp fOw fOr fOq fOe fOv fOu fOj fOs fOm fOy fOz dWh dMd dNm dRo dTo dWi dPa dHp dCl dIk dSb dIs dWm dHr dIr dCk dNu dCa dPl dLi dSs dMy dSt dCe dLw dMi dNn dBb dMa dLb dLk dLs dLl dLc dLt dLr dLp dPq dKy dPj dSp dNr dNs dOd dOi dOb dOk dOo dBk dOp dOw dOr dOq dOe dOv dOu dOj dOs dOm dOy dOz) (T:Txt K w.params mg C aN aK aB aP aM) (F0:Zj K aB aP aM):BK P w K mg base Bm 11 f fd ["_law_script"] (Nf K):=by
 have GLp:BK P w K mg base Bm 4 fLp dLp ["_law_script","_law_start"] (Yd K aB aP aM):=Wy N T
 have GOi:BK P w K mg base Bm 9 fOi dOi ["self","rows"] (ZX K aB aP aM C):=We N T
 have GNs:BK P w K mg base Bm 4 fNs dNs ["_law_organ","_law_plan_here","_law_name_here"] (Wa K aB aP aM C):=Xb N T
 have GMi:BK P w K mg base Bm 1 fMi dMi ["_law_cell","_law_by","_law_many_here"] JQ:=HF N T
 have GKy:BK P w K mg base Bm 3 fKy dKy ["_law_organ","_law_plan_here","_law_at","_law_number_here"] (Wx K aB aP aM C):=ZD N T
 have GSp:BK P w K mg base Bm 4 fSp dSp ["_law_organ","_law_plan_here","_law_cell"] (Yx K aB aP aM C):=Yc N T
 have GOd:BK P w K mg base Bm 1 fOd dOd ["_law_name_here","_law_cell"] Za:=Zd N T
 have GOu:BK P w K mg base Bm 3 fOu dOu ["self","name"] (Va C):=TJ N T
 have GOj:BK P w K mg base Bm 3 fOj dOj ["self","name"] (U7 C):=SM N T
 refine F.ok Fq (fun vs H Q E h=>?_) (fun cdv A outer s H vs Q E hr h=>?_)
 ·obtain ⟨a,ns,rfl,_⟩:=h
  rfl
 ·obtain ⟨a,ns,rfl,hS,hlen,q⟩:=h
  have hrLp:Be 4 _:=hr.mono (by decide)
  have hrOi:Be 9 _:=hr.mono (by decide)
  have hrNs:Be 4 _:=hr.mono (by decide)
  have hrMi:Be 1 _:=hr.mono (by decide)
  have hrKy:Be 3 _:=hr.mono (by decide)
  have hrSp:Be 4 _:=hr.mono (by decide)
  have hrOd:Be 1 _:=hr.mono (by decide)
  have hrOu:Be 3 _:=hr.mono (by decide)
  have hrOj:Be 3 _:=hr.mono (by decide)
  have hu:=Cz hr
  refine ⟨_,(Ae (Ba (i:=1) Fq.nd rfl (Or.inl rfl) (Aj GLp hrLp rfl N.FLp.2.2 N.FLp.1.kp N.FLp.2.1 .nil Az (Aa (pv 0) (Aa Ad Ab))))
   (Ae (Ba (i:=2) Fq.nd rfl (Or.inl rfl) (Rz N.FOi.2.2 GOi hr rfl T.mC N.FOi.2.1 .nil Az (Aa (Gd G_ rfl T.list PyProof.Rows.boot_list (Aa (BR hu (pv 1) Ao (fun _ _=>rfl)) Ab)) Ab)))
   (Ae (Ba (i:=3) Fq.nd rfl (Or.inl rfl) (BW I_ (Bp rfl (Bf (osc:=Ac H_) (N:=["_law_script","_law_plan_here","_law_organ","_law_names","_law_name_here","_law_cell","_law_at","_law_keys","_law_number_here","_law_odd_one","_law_found"]) rfl rfl (by decide +kernel)) (Bl (BR hu (pv 1) Ao (fun _ _=>rfl))) (fun _ _ _ _=>CG) (fun _ _ _ _=>(BV (A_ (K:=K) rfl) (pv 0) Ad (fun _ _=>rfl)))) (Bp rfl (Bf (osc:=Ac H_) (N:=["_law_script","_law_plan_here","_law_organ","_law_names","_law_name_here","_law_cell","_law_at","_law_keys","_law_number_here","_law_odd_one","_law_found"]) rfl rfl (by decide +kernel)) (Bl (BR hu (pv 1) Ao (fun _ _=>rfl))) (fun _ _ _ _=>CG) (fun _ _ _ _=>(BV (A_ (K:=K) rfl) (pv 0) Ad (fun _ _=>rfl))))))
   (Ae (Ba (i:=3) Fq.nd rfl (Or.inl rfl) (BW I_ (pv 3) (Bp rfl (Bf (osc:=Ac H_) (N:=["_law_script","_law_plan_here","_law_organ","_law_names","_law_name_here","_law_cell","_law_at","_law_keys","_law_number_here","_law_odd_one","_law_found"]) rfl rfl (by decide +kernel)) (Bl (BR hu (pv 1) Ao (fun _ _=>rfl))) (fun _ _ _ _=>CG) (fun _ _ _ _=>(BV (A_ (K:=K) rfl) (pv 0) Ad (fun _ _=>rfl))))))
   (Ae (Du PassesOwn.never rfl (Bl (pv 3)) (CK (i:=4) Fq.nd rfl (Or.inl rfl)) (Ag (Bq (Cw (Cp (Aj GNs hrNs rfl N.FNs.2.2 N.FNs.1.kp N.FNs.2.1 .nil Az (Aa (pv 2) (Aa (pv 1) (Aa (pv 4) Ab)))))) (Ag (Ay Ej)) Bc)))
   (Ae (Du PassesOwn.never rfl (Bl (BW I_ (DG Fi (pv 0) (Dc Ad) (Dc Ad)) (Bx (Aa (Ax BJ rfl T.len PySem.boot_len (Aa (pv 0) Ab)) Ab)))) (CK (i:=5) Fq.nd rfl (Or.inl rfl)) (Ae (Ba (i:=6) Fq.nd rfl (Or.inl rfl) (Aj GMi hrMi rfl N.FMi.2.2 N.FMi.1.kp N.FMi.2.1 .nil Az (Aa (pv 5) (Aa Ad (Aa (Ax BJ rfl T.len PySem.boot_len (Aa (BR hu (pv 1) Ao (fun _ _=>rfl)) Ab)) Ab)))))
   (Ae (Ba (i:=7) Fq.nd rfl (Or.inl rfl) (BV (A_ (K:=K) rfl) (BV (Ds (K:=K) rfl) (BR hu (pv 1) Ao (fun _ _=>rfl)) (pv 6) (fun _ _=>rfl)) Ad (fun _ _=>rfl)))
   (Ae (Du PassesOwn.never rfl (Bl (Bx (Aa Ad (Aa (BW Fj (pv 7) Ad) (Aa (BW Ca (pv 5) (pv 7)) Ab))))) (CK (i:=8) Fq.nd rfl (Or.inl rfl)) (Ag (Bq (Cw (Cp (Aj GKy hrKy rfl N.FKy.2.2 N.FKy.1.kp N.FKy.2.1 .nil Az (Aa (pv 2) (Aa (pv 1) (Aa (pv 6) (Aa (pv 8) Ab))))))) (Ag (Ay Ej)) Bc)))
   (Ae (Bq (Cw (Cp (Aj GSp hrSp rfl N.FSp.2.2 N.FSp.1.kp N.FSp.2.1 .nil Az (Aa (pv 2) (Aa (pv 1) (Aa (pv 5) Ab)))))) (Ag (Ay Ej)) Bc)
   (Ae (Ba (i:=9) Fq.nd rfl (Or.inl rfl) (Aj GOd hrOd rfl N.FOd.2.2 N.FOd.1.kp N.FOd.2.1 .nil Az (Aa (BV Cg (pv 3) (BW Ca (BW Dq (pv 5) Ad) (Ax BJ rfl T.len PySem.boot_len (Aa (pv 3) Ab))) (fun _ _=>rfl)) (Aa (pv 5) Ab))))
   (Ae (Ba (i:=10) Fq.nd rfl (Or.inl rfl) (Bx (Aa (Er (pv 2) T.cl N.FOu.2.2 GOu hrOu N.FOu.2.1 .nil Az (Aa (pv 9) Ab)) (Aa (Er (pv 2) T.cl N.FOj.2.2 GOj hrOj N.FOj.2.1 .nil Az (Aa (pv 9) Ab)) Ab))))
   (Ag (Bq (Cp (Ax CV rfl T.isin PyProof.Rows.boot_isinstance (Aa (pv 9) (Aa (Dk (v:=.ty "str") rfl T.str PyProof.Rows.boot_str rfl) Ab)))) (Ag (Bq (Cw (Cp (Aj GNs hrNs rfl N.FNs.2.2 N.FNs.1.kp N.FNs.2.1 .nil Az (Aa (pv 2) (Aa (pv 1) (Aa (pv 9) Ab)))))) (Ag (Ay Ej)) Bc)) (Ag (Bq (Bb (Qt 0 (Nat.lt_of_le_of_lt (Nat.add_le_add_left (by decide:1<=64) _) hr.units)) (pv 10) (Bx (Aa El (Aa El Ab))) (Bd _)) (Ag (Ay Ej)) Bc)))))))))))
   (Ag (Ay Ej)))))))),?_⟩
  refine ⟨_,rfl,a,2,ns,rfl,hS,by omega,F0,fun A S Cs H1 P1=>?_⟩
  obtain ⟨lo,hA⟩:=P1.h
  obtain ⟨kvs,g1,g2,y1,y2,y3,y4,_⟩:=hA.dp
  obtain ⟨vr,r1,r2⟩:=hA.r
  obtain ⟨vb,b1,b2⟩:=hA.b
  obtain ⟨vk,k1,k2⟩:=hA.k
  obtain ⟨vn,n1,n2⟩:=hA.n
  have lb:=b2.length
  have lkk:=k2.length
  have ln:=n2.length
  have hb1:=P1.b1
  obtain ⟨bb,lo',hbb,kk⟩:=P1.k
  have b5:=kk.b5
  have r12:=kk.r12
  have lk:=kk.lk
  have l61:=P1.l
  have gr:=Bs.k (k:=Sum.inr "rows") g1
  rw [y1] at gr
  refine ⟨_,rfl,A.p,_,rfl,gr,A.r,vr,rfl,.inl (.inl (.inl r1)),fun L hL=>?_⟩
  have s2:=Ak (o:=HO.lst vr) hL
  have l2:upd H1 L (HO.lst vr) L=some (.lst vr):=Af
  generalize upd H1 L (HO.lst vr)=H2 at s2 l2 ⊢
  have t2:=Ah s2 r2
  obtain ⟨R2,O2,eL,eS⟩:=(P1.mono s2).org t2
  intro x dx nx ndx nex
  have sx:Am H2 (upd (upd H2 dx (.own x)) x (.ins C dx [])):=fun b o e=>by
   rw [An (Aq e nx),An (Aq e ndx)]
   exact e
  refine ⟨x,dx,L,vr,K9 H2,S.bs,S.rk,S.ks,rfl,Af,sx _ _ l2,R2.mono sx,O2,fun H3 OA _ SXh=>⟨rfl,?_⟩⟩
  rw [eL,eS] at OA
  have s23:Am H2 H3:=fun b o e=>SXh b o (sx b o e) (Aq e nx)
  clear SXh sx nx ndx nex R2 O2
  have s13:=s2.trans s23
  have P3:=P1.mono s13
  have inst:∀ {H':Hp},Am H3 H'->∃ dx fs,H' x=some (.ins C dx fs)/\∀ m∈meths,fs.lookup m=none:=fun s'=>by
   obtain ⟨⟨dx,fs,_,_,_,_,_,_,_,_,h1,_,_,_,_,lm,_⟩,_⟩:=(OA.mono s').o.o
   exact ⟨dx,fs,h1,lm⟩
  have gb3:=Bs.k (k:=Sum.inr "boards") (s13 _ _ g1)
  rw [y2] at gb3
  have hS4:Cm K H3 A.b vb:=.inl (.inl (s13 _ _ b1))
  refine ⟨_,rfl,A.p,_,rfl,gb3,A.b,rfl,⟨_,hS4⟩,CN (K:=K) (xs:=vb) (fun _=>true) (HB H3 0) hS4 (Ar (by omega)) (fun y hy Hx hs R kk=>kk Hx (Am.refl Hx)) (fun y hy _ Hx hs R kk=>?_) (fun D4 H4 hD4 s4 hl4=>?_)⟩
  ·obtain ⟨b',_,hx'⟩:=Bw (Ah s13 b2) hy
   have e:=DY hx' 0
   obtain ⟨T0,rfl,hT⟩:=hx'.mono hs
   refine ⟨_,rfl,T0,_,_,_,rfl,rfl,.inl (.inl hT),Al (j:=0) rfl,?_⟩
   have:=kk Hx (Am.refl Hx)
   rw [e] at this
   exact this
  rw [List.filter_eq_self.mpr (fun _ _=>rfl),Eb 0 (Ah s13 b2)] at hl4
  have e4:(S.bs.map fun a=>(bV a).getD 0 V.non)=(S.bs.map (·.1)).map V.str:=by
   rw [List.map_map]
   rfl
  rw [e4] at hl4
  have s14:=s13.trans s4
  have gk4:=Bs.k (k:=Sum.inr "ranks") (s14 _ _ g1)
  rw [y3] at gk4
  have hS5:Cm K H4 A.k vk:=.inl (.inl (s14 _ _ k1))
  refine ⟨_,rfl,A.p,_,rfl,gk4,A.k,rfl,⟨_,hS5⟩,CN (K:=K) (xs:=vk) (fun _=>true) (HB H4 0) hS5 (Ar (by omega)) (fun y hy Hx hs R kk=>kk Hx (Am.refl Hx)) (fun y hy _ Hx hs R kk=>?_) (fun D5 H5 hD5 s5 hl5=>?_)⟩
  ·obtain ⟨b',_,hx'⟩:=Bw (Ah s14 k2) hy
   have e:=DY hx' 0
   obtain ⟨T0,rfl,hT⟩:=hx'.mono hs
   refine ⟨_,rfl,T0,_,_,_,rfl,rfl,.inl (.inl hT),Al (j:=0) rfl,?_⟩
   have:=kk Hx (Am.refl Hx)
   rw [e] at this
   exact this
  rw [List.filter_eq_self.mpr (fun _ _=>rfl),Eb 0 (Ah s14 k2)] at hl5
  have e5:(S.rk.map fun a=>(Wc a).getD 0 V.non)=(S.rk.map (·.1)).map V.str:=by
   rw [List.map_map]
   rfl
  rw [e5] at hl5
  have s15:=s14.trans s5
  refine ⟨D4,D5,_,_,rfl,rfl,s5 _ _ hl4,hl5,Bt (by rw [List.length_map,List.length_map,List.length_map,List.length_map]; omega),fun p6 hp6=>?_⟩
  rw [← List.map_append]
  have t6:=Ak (o:=HO.lst ((S.bs.map (·.1)++S.rk.map (·.1)).map V.str)) hp6
  have l6:upd H5 p6 (HO.lst ((S.bs.map (·.1)++S.rk.map (·.1)).map V.str)) p6=some (.lst ((S.bs.map (·.1)++S.rk.map (·.1)).map V.str)):=Af
  generalize upd H5 p6 (HO.lst ((S.bs.map (·.1)++S.rk.map (·.1)).map V.str))=H6 at t6 l6 ⊢
  have s16:=s15.trans t6
  have gn6:=Bs.k (k:=Sum.inr "knobs") (s16 _ _ g1)
  rw [y4] at gn6
  refine ⟨_,rfl,?_⟩
  have hS7:Cm K H6 A.n vn:=.inl (.inl (s16 _ _ n1))
  refine ⟨_,rfl,A.p,_,rfl,gn6,A.n,rfl,⟨_,hS7⟩,CN (K:=K) (xs:=vn) (fun _=>true) (HB H6 1) hS7 (Ar (by omega)) (fun y hy Hx hs R kk=>kk Hx (Am.refl Hx)) (fun y hy _ Hx hs R kk=>?_) (fun D7 H7 hD7 s7 hl7=>?_)⟩
  ·obtain ⟨b',_,hx'⟩:=Bw (Ah s16 n2) hy
   have e:=DY hx' 1
   obtain ⟨T0,rfl,hT⟩:=hx'.mono hs
   refine ⟨_,rfl,T0,_,_,_,rfl,rfl,.inl (.inl hT),Al (j:=1) rfl,?_⟩
   have:=kk Hx (Am.refl Hx)
   rw [e] at this
   exact this
  rw [List.filter_eq_self.mpr (fun _ _=>rfl),Eb 1 (Ah s16 n2)] at hl7
  have e7:(S.ks.map fun a=>(S9 a).getD 1 V.non)=(S.ks.map (·.nm)).map V.str:=by
   rw [List.map_map]
   rfl
  rw [e7] at hl7
  have s17:=s16.trans s7
  refine ⟨p6,D7,_,_,rfl,rfl,s7 _ _ l6,hl7,Bt (by rw [List.length_map,List.length_map,List.length_append,List.length_map,List.length_map,List.length_map]; omega),fun p8 hp8=>?_⟩
  rw [← List.map_append]
  obtain ⟨al,eal⟩:∃ al,(S.bs.map (·.1)++S.rk.map (·.1))++S.ks.map (·.nm)=al:=⟨_,rfl⟩
  have hal:=Oo P1
  have l1al:1<=al.length:=by rw [← eal,List.length_append,List.length_append,List.length_map]; omega
  rw [eal] at hal ⊢
  have t8:=Ak (o:=HO.lst (al.map V.str)) hp8
  have l8:upd H7 p8 (HO.lst (al.map V.str)) p8=some (.lst (al.map V.str)):=Af
  generalize upd H7 p8 (HO.lst (al.map V.str))=H8 at t8 l8 ⊢
  have s38:Am H3 H8:=s4.trans (s5.trans (t6.trans (s7.trans t8)))
  have hS8:Cm K H8 p8 (al.map V.str):=.inl (.inl l8)
  refine ⟨_,rfl,p8,rfl,⟨_,hS8⟩,Ek (K:=K) (a:=p8) (xs:=al.map V.str) (fun i σ H'=>Am H8 H'/\∃ v4,σ=[some (.ref a),some (.ref A.p),some (.ref x),some (.ref p8),v4,none,none,none,none,none,none]) ⟨Am.refl _,_,rfl⟩ (fun i σ H' _ h=>h.1.seq hS8) ?_ ?_⟩
  ·rintro i y σ H9 hy ⟨s9,v4,rfl⟩
   obtain ⟨t,ht,rfl⟩:=List.mem_map.mp (List.mem_of_getElem? hy)
   have s39:=s38.trans s9
   exact ⟨_,rfl,_,rfl,_,rfl,x,H,A,S,Cs,vr,_,_,t,rfl,OA.mono s39,P3.mono s39,(hal t ht).tx,fun H10 s10=>⟨_,rfl,Dg ⟨s9.trans s10,_,rfl⟩⟩⟩
  rintro σ H9 ⟨s9,v4,rfl⟩
  have s39:=s38.trans s9
  have sH9:Am H H9:=hA.sm.trans (s13.trans s39)
  obtain ⟨ms,ems,lms⟩:=Jc ns (lo:=2) (hi:=22) (by omega) (by omega)
  refine ⟨_,rfl,_,rfl,_,rfl,a,_,rfl,sH9.seq hS,fun p10 hp10=>?_⟩
  have t10:=Ak (o:=HO.lst (Cv (ns.map V.int) (some 2) (some 22))) hp10
  have l10:upd H9 p10 (HO.lst (Cv (ns.map V.int) (some 2) (some 22))) p10=_:=Af
  generalize upd H9 p10 (HO.lst (Cv (ns.map V.int) (some 2) (some 22)))=H10 at t10 l10 ⊢
  rw [ems] at l10
  refine ⟨_,rfl,a,_,rfl,.inl ((sH9.trans t10).seq hS),by show 1<=sizeLine; decide,fun p11 hp11=>?_⟩
  have t11:=Ak (o:=HO.lst [V.int (((ns.map V.int).length:Nat):Int)]) hp11
  have l11:upd H10 p11 (HO.lst [V.int (((ns.map V.int).length:Nat):Int)]) p11=some (.lst [V.int (((ns.map V.int).length:Nat):Int)]):=Af
  generalize upd H10 p11 (HO.lst [V.int (((ns.map V.int).length:Nat):Int)])=H11 at t11 l11 ⊢
  refine ⟨p10,p11,_,_,rfl,rfl,t11 _ _ l10,l11,Bt (by rw [List.length_map]; show ms.length+1<=1000; omega),fun p12 hp12=>?_⟩
  obtain ⟨cs,ecs⟩:∃ cs:List Int,ms.map V.int++[V.int (((ns.map V.int).length:Nat):Int)]=cs.map V.int:=⟨ms++[(((ns.map V.int).length:Nat):Int)],by rw [List.map_append]; rfl⟩
  rw [ecs]
  have t12:=Ak (o:=HO.lst (cs.map V.int)) hp12
  have l12:upd H11 p12 (HO.lst (cs.map V.int)) p12=some (.lst (cs.map V.int)):=Af
  generalize upd H11 p12 (HO.lst (cs.map V.int))=H12 at t12 l12 ⊢
  have s312:Am H3 H12:=s39.trans (t10.trans (t11.trans t12))
  have s812:Am H8 H12:=s9.trans (t10.trans (t11.trans t12))
  have hS12:Cm K H12 p12 (cs.map V.int):=.inl (.inl l12)
  refine ⟨p12,rfl,⟨_,hS12⟩,Ek (K:=K) (a:=p12) (xs:=cs.map V.int) (fun i σ H'=>Am H12 H'/\∃ v5 v6 v7 v8 v9 v10,σ=[some (.ref a),some (.ref A.p),some (.ref x),some (.ref p8),v4,v5,v6,v7,v8,v9,v10]) ⟨Am.refl _,_,_,_,_,_,_,rfl⟩ (fun i σ H' _ h=>h.1.seq hS12) ?_ ?_⟩
  ·rintro i y σ H13 hy ⟨s13',v5,v6,v7,v8,v9,v10,rfl⟩
   obtain ⟨c,hc,rfl⟩:=List.mem_map.mp (List.mem_of_getElem? hy)
   have s3a:=s312.trans s13'
   have s1a:=s13.trans s3a
   have gba:=Bs.k (k:=Sum.inr "boards") (s1a _ _ g1)
   rw [y2] at gba
   refine ⟨_,rfl,_,rfl,A.p,_,rfl,gba,A.b,_,rfl,.inl (.inl (.inl (s1a _ _ b1))),c,50023,_,rfl,(by show (0:Int)<((vb.length:Nat):Int); omega),by decide,by decide,fun u u0 u1=>?_⟩
   obtain ⟨j,hj0⟩:=Int.eq_ofNat_of_zero_le u0
   subst hj0
   have hjl:j<S.bs.length:=by omega
   obtain ⟨b,hj⟩:∃ b,S.bs[j]? = some b:=⟨_,List.getElem?_eq_getElem hjl⟩
   have hbz:=kk.sb b (List.mem_of_getElem? hj)
   obtain ⟨yb,eb,Tb,rfl,tb⟩:=Bk (Ah s1a b2) hj
   refine ⟨_,rfl,A.p,_,rfl,gba,_,rfl,A.b,vb,_,_,rfl,rfl,.inl (.inl (s1a _ _ b1)),Al eb,Tb,_,_,_,rfl,rfl,.inl (.inl tb),Al (j:=1) rfl,?_⟩
   have hm:(1:Int)<=((b.2:Nat):Int):=by omega
   refine ⟨_,rfl,_,_,rfl,rfl,_,rfl,_,rfl,_,_,rfl,rfl,(by show (0:Int)<((b.2:Nat):Int); omega),by show 3<=sizeLine; decide,fun p2 hp2=>?_⟩
   have sq2:=Ak (o:=HO.lst [V.int 0,.int (((b.2:Nat):Int) - 1),.int (c % ((b.2:Nat):Int))]) hp2
   have lq2:upd H13 p2 (HO.lst [V.int 0,.int (((b.2:Nat):Int) - 1),.int (c % ((b.2:Nat):Int))]) p2=some (.lst [V.int 0,.int (((b.2:Nat):Int) - 1),.int (c % ((b.2:Nat):Int))]):=Af
   generalize upd H13 p2 (HO.lst [V.int 0,.int (((b.2:Nat):Int) - 1),.int (c % ((b.2:Nat):Int))])=H14 at sq2 lq2 ⊢
   have hS14:Cm K H14 p2 [V.int 0,.int (((b.2:Nat):Int) - 1),.int (c % ((b.2:Nat):Int))]:=.inl (.inl lq2)
   have s3b:=s3a.trans sq2
   refine ⟨p2,rfl,⟨_,hS14⟩,Ek (K:=K) (a:=p2) (xs:=[V.int 0,.int (((b.2:Nat):Int) - 1),.int (c % ((b.2:Nat):Int))]) (fun i σ H'=>Am H14 H'/\∃ v8,σ=[some (.ref a),some (.ref A.p),some (.ref x),some (.ref p8),v4,some (.int c),some (.int (j:Nat)),some (.int (b.2:Nat)),v8,v9,v10]) ⟨Am.refl _,_,rfl⟩ (fun i σ H' _ h=>h.1.seq hS14) ?_ ?_⟩
   ·rintro i' y' σ H15 hy' ⟨s15',v8',rfl⟩
    obtain ⟨n,rfl,hn⟩:=three hm (List.mem_of_getElem? hy')
    have s3c:=s3b.trans s15'
    exact ⟨_,rfl,_,rfl,_,rfl,_,rfl,x,H,A,S,Cs,j,n,b,rfl,(OA.mono s3c).o,P3.mono s3c,hj,by omega,fun H16 s16'=>⟨_,rfl,Dg ⟨s15'.trans s16',_,rfl⟩⟩⟩
   rintro σ H15 ⟨s15',v8',rfl⟩
   have s3c:=s3b.trans s15'
   refine ⟨_,rfl,_,rfl,_,rfl,x,H,A,S,Cs,c,rfl,(OA.mono s3c).o,P3.mono s3c,fun H16 s16'=>⟨_,rfl,Dg ?_⟩⟩
   have s3d:=s3c.trans s16'
   have s12d:=s13'.trans (sq2.trans (s15'.trans s16'))
   have l8d:=s12d _ _ (s812 _ _ l8)
   have hSd:Cm K H16 p8 (al.map V.str):=.inl (.inl l8d)
   have hidx0:=Int.emod_nonneg (c / 10) (show (((al.map V.str).length:Nat):Int) ≠ 0 by rw [List.length_map]; omega)
   have hidx1:=Int.emod_lt_of_pos (c / 10) (show (0:Int)<(((al.map V.str).length:Nat):Int) by rw [List.length_map]; omega)
   obtain ⟨m,hm0⟩:=Int.eq_ofNat_of_zero_le hidx0
   have hml:m<al.length:=by rw [List.length_map] at hidx1; rw [List.length_map] at hm0; omega
   have hat:Ot (al.map V.str) (c / 10 % (((al.map V.str).length:Nat):Int))=some (.str al[m]):=by
    rw [hm0]
    exact Al (by rw [List.getElem?_map,List.getElem?_eq_getElem hml]; rfl)
   refine ⟨_,rfl,_,rfl,_,_,rfl,rfl,⟨by decide,by decide⟩,_,rfl,p8,_,rfl,.inl hSd,_,_,rfl,rfl,(by show (0:Int)<(((al.map V.str).length:Nat):Int); rw [List.length_map]; omega),p8,_,_,_,rfl,rfl,hSd,hat,_,rfl,_,c,rfl,hal _ (List.getElem_mem hml),fun v H17 s17' ho=>?_⟩
   have s3e:=s3d.trans s17'
   obtain ⟨dxe,fse,hxe,lme⟩:=inst s3e
   refine ⟨_,rfl,x,dxe,fse,rfl,hxe,lme _ (by decide +kernel),_,rfl,x,vr,_,_,_,_,_,v,rfl,OA.mono s3e,ho,P1.UW,fun H18 s18'=>?_⟩
   have s3f:=s3e.trans s18'
   obtain ⟨dxf,fsf,hxf,lmf⟩:=inst s3f
   refine ⟨_,rfl,x,dxf,fsf,rfl,hxf,lmf _ (by decide +kernel),_,rfl,x,vr,_,_,_,_,_,v,rfl,OA.mono s3f,ho.mono s18',P1.Tp,fun H19 s19'=>?_⟩
   refine ⟨by show 2<=sizeLine; decide,fun p20 hp20=>?_⟩
   have t20:=Ak (o:=HO.lst [Gz (S.bs.map (·.1)) v,Gz (S.ks.map (·.nm)) v]) hp20
   have l20:upd H19 p20 (HO.lst [Gz (S.bs.map (·.1)) v,Gz (S.ks.map (·.nm)) v]) p20=some (.lst [Gz (S.bs.map (·.1)) v,Gz (S.ks.map (·.nm)) v]):=Af
   generalize upd H19 p20 (HO.lst [Gz (S.bs.map (·.1)) v,Gz (S.ks.map (·.nm)) v])=H20 at t20 l20 ⊢
   have s3g:=s3f.trans (s19'.trans t20)
   have s12g:=s12d.trans (s17'.trans (s18'.trans (s19'.trans t20)))
   have hog:=ho.mono (s18'.trans (s19'.trans t20))
   obtain ⟨tn,et1,et2⟩:=PP K hog
   refine ⟨_,rfl,_,"str",_,_,rfl,et1,et2,_,rfl,?_⟩
   have nos:isStr v=false->Gz (S.bs.map (·.1)) v=.non/\Gz (S.ks.map (·.nm)) v=.non:=fun h=>by
    cases v with
    | str t=>cases h
    | _=>exact ⟨rfl,rfl⟩
   cases hb:isStr v with
   | true =>
    obtain ⟨t,rfl⟩:∃ t,v=.str t:=by
     cases v with
     | str t=>exact ⟨t,rfl⟩
     | _=>cases hb
    have htx:Tx t:=by
     cases hog with
     | str h=>exact h
    refine Dy ⟨_,rfl,_,rfl,_,rfl,x,H,A,S,Cs,vr,_,_,t,rfl,OA.mono s3g,P3.mono s3g,htx,fun H21 s21=>⟨_,rfl,Dg ?_⟩⟩
    exact ⟨s12g.trans s21,_,_,_,_,_,_,rfl⟩
   | false =>
    obtain ⟨e1,e2⟩:=nos hb
    rw [e1,e2] at l20
    refine Dg ⟨_,rfl,by show 2<=sizeLine; decide,fun p21 hp21=>?_⟩
    have t21:=Ak (o:=HO.lst [V.non,V.non]) hp21
    have l21:upd H20 p21 (HO.lst [V.non,V.non]) p21=some (.lst [V.non,V.non]):=Af
    generalize upd H20 p21 (HO.lst [V.non,V.non])=H21 at t21 l21 ⊢
    refine ⟨p20,p21,rfl,rfl,.inr ⟨p20,p21,_,_,rfl,rfl,.inl ⟨t21 _ _ l20,l21⟩,.cons (J4 rfl) (.cons (J4 rfl) .nil)⟩,_,rfl,Dg ?_⟩
    exact ⟨s12g.trans t21,_,_,_,_,_,_,rfl⟩
  rintro σ H13 ⟨s13',v5,v6,v7,v8,v9,v10,rfl⟩
  exact q H13
end
end K08
end PartK08a
section PartK08z
set_option maxHeartbeats 4000000
theorem UL1 {α:Type} {us:List α} (h:us.length=1):∃ a,us=[a]:=match us,h with | [a],_=>⟨a,rfl⟩
theorem UL2 {α:Type} {us:List α} (h:us.length=2):∃ a b,us=[a,b]:=match us,h with | [a,b],_=>⟨a,b,rfl⟩
theorem UL3 {α:Type} {us:List α} (h:us.length=3):∃ a b c,us=[a,b,c]:=match us,h with | [a,b,c],_=>⟨a,b,c,rfl⟩
theorem UL4 {α:Type} {us:List α} (h:us.length=4):∃ a b c d,us=[a,b,c,d]:=match us,h with | [a,b,c,d],_=>⟨a,b,c,d,rfl⟩
theorem UL5 {α:Type} {us:List α} (h:us.length=5):∃ a b c d e,us=[a,b,c,d,e]:=match us,h with | [a,b,c,d,e],_=>⟨a,b,c,d,e,rfl⟩
namespace K08
open PySem L2 Og
theorem UL {l:PySem.W.OpenLaw} {w:World} {K:PySem.W.Frag} {h:Heap} {mg:Str->Option Value} {fa:Addr} (X:K.In h) (G:h.Ns mainGlobals mg) (hfa:mg "law" = some (.ref fa))
  {C aN aK aB aP aM p1 p2 p3 p4 p5 p6 b1 b2 b3 b4 b5 b6 b7 fWh fMd fNm fRo fTo fWi fPa fHp fCl fIk fSb fIs fWm fHr fIr fCk fNu fCa fPl fLi fSs fMy fSt fCe fLw fMi fNn fBb fMa fLb fLk fLs fLl fLc fLt fLr fLp fPq fKy fPj fSp fNr fNs fOd fOi fOb fOk fOo fBk fOp fOw fOr fOq fOe fOv fOu fOj fOs fOm fOy fOz fZ:Addr} {odWh anWh odMd anMd odNm anNm odRo anRo odTo anTo odWi anWi odPa anPa odHp anHp odCl anCl odIk anIk odSb anSb odIs anIs odWm anWm odHr anHr odIr anIr odCk anCk odNu anNu odCa anCa odPl anPl odLi anLi odSs anSs odMy anMy odSt anSt odCe anCe odLw anLw odMi anMi odNn anNn odBb anBb odMa anMa odLb anLb odLk anLk odLs anLs odLl anLl odLc anLc odLt anLt odLr anLr odLp anLp odPq anPq odKy anKy odPj anPj odSp anSp odNr anNr odNs anNs odOd anOd odOi anOi odOb anOb odOk anOk odOo anOo odBk anBk odOp anOp odOw anOw odOr anOr odOq anOq odOe anOe odOv anOv odOu anOu odOj anOj odOs anOs odOm anOm odOy anOy odOz anOz odZ anZ:Option Addr} {slWh slMd slNm slRo slTo slWi slPa slHp slCl slIk slSb slIs slWm slHr slIr slCk slNu slCa slPl slLi slSs slMy slSt slCe slLw slMi slNn slBb slMa slLb slLk slLs slLl slLc slLt slLr slLp slPq slKy slPj slSp slNr slNs slOd slOi slOb slOk slOo slBk slOp slOw slOr slOq slOe slOv slOu slOj slOs slOm slOy slOz slZ:Array (Option Value)} {ocWh kVWh dcWh pmWh cdWh ctWh ocMd kVMd dcMd pmMd cdMd ctMd ocNm kVNm dcNm pmNm cdNm ctNm ocRo kVRo dcRo pmRo cdRo ctRo ocTo kVTo dcTo pmTo cdTo ctTo ocWi kVWi dcWi pmWi cdWi ctWi ocPa kVPa dcPa pmPa cdPa ctPa ocHp kVHp dcHp pmHp cdHp ctHp ocCl kVCl dcCl pmCl cdCl ctCl ocIk kVIk dcIk pmIk cdIk ctIk ocSb kVSb dcSb pmSb cdSb ctSb ocIs kVIs dcIs pmIs cdIs ctIs ocWm kVWm dcWm pmWm cdWm ctWm ocHr kVHr dcHr pmHr cdHr ctHr ocIr kVIr dcIr pmIr cdIr ctIr ocCk kVCk dcCk pmCk cdCk ctCk ocNu kVNu dcNu pmNu cdNu ctNu ocCa kVCa dcCa pmCa cdCa ctCa ocPl kVPl dcPl pmPl cdPl ctPl ocLi kVLi dcLi pmLi cdLi ctLi ocSs kVSs dcSs pmSs cdSs ctSs ocMy kVMy dcMy pmMy cdMy ctMy ocSt kVSt dcSt pmSt cdSt ctSt ocCe kVCe dcCe pmCe cdCe ctCe ocLw kVLw dcLw pmLw cdLw ctLw ocMi kVMi dcMi pmMi cdMi ctMi ocNn kVNn dcNn pmNn cdNn ctNn ocBb kVBb dcBb pmBb cdBb ctBb ocMa kVMa dcMa pmMa cdMa ctMa ocLb kVLb dcLb pmLb cdLb ctLb ocLk kVLk dcLk pmLk cdLk ctLk ocLs kVLs dcLs pmLs cdLs ctLs ocLl kVLl dcLl pmLl cdLl ctLl ocLc kVLc dcLc pmLc cdLc ctLc ocLt kVLt dcLt pmLt cdLt ctLt ocLr kVLr dcLr pmLr cdLr ctLr ocLp kVLp dcLp pmLp cdLp ctLp ocPq kVPq dcPq pmPq cdPq ctPq ocKy kVKy dcKy pmKy cdKy ctKy ocPj kVPj dcPj pmPj cdPj ctPj ocSp kVSp dcSp pmSp cdSp ctSp ocNr kVNr dcNr pmNr cdNr ctNr ocNs kVNs dcNs pmNs cdNs ctNs ocOd kVOd dcOd pmOd cdOd ctOd ocOi kVOi dcOi pmOi cdOi ctOi ocOb kVOb dcOb pmOb cdOb ctOb ocOk kVOk dcOk pmOk cdOk ctOk ocOo kVOo dcOo pmOo cdOo ctOo ocBk kVBk dcBk pmBk cdBk ctBk ocOp kVOp dcOp pmOp cdOp ctOp ocOw kVOw dcOw pmOw cdOw ctOw ocOr kVOr dcOr pmOr cdOr ctOr ocOq kVOq dcOq pmOq cdOq ctOq ocOe kVOe dcOe pmOe cdOe ctOe ocOv kVOv dcOv pmOv cdOv ctOv ocOu kVOu dcOu pmOu cdOu ctOu ocOj kVOj dcOj pmOj cdOj ctOj ocOs kVOs dcOs pmOs cdOs ctOs ocOm kVOm dcOm pmOm cdOm ctOm ocOy kVOy dcOy pmOy cdOy ctOy ocOz kVOz dcOz pmOz cdOz ctOz ocZ kVZ dcZ pmZ cdZ ctZ:Value}
  {tLET tML tMR tMLn tMB tm1 tm2 tm3 tm4 tm5 tm6 ttN_0 ttN_1 ttN_2 ttN_3 ttN_4 ttK_0 ttK_1 ttK_2 ttp1_0 ttp1_1 ttp2_0 ttp2_1 ttp3_0 ttp3_1 ttp4_0 ttp4_1 ttp4_2 ttp4_3 ttp5_0 ttp5_1 ttp5_2 ttp6_0 ttp6_1 ttp6_2 ttp6_3 ttb1_0 ttb1_1 ttb2_0 ttb2_1 ttb3_0 ttb3_1 ttb4_0 ttb4_1 ttb5_0 ttb5_1 ttb6_0 ttb6_1 ttb7_0 ttb7_1:Tok} {od_N od_K od_p1 od_p2 od_p3 od_p4 od_p5 od_p6 od_b1 od_b2 od_b3 od_b4 od_b5 od_b6 od_b7:Option Addr} {sl_N sl_K sl_p1 sl_p2 sl_p3 sl_p4 sl_p5 sl_p6 sl_b1 sl_b2 sl_b3 sl_b4 sl_b5 sl_b6 sl_b7:Array (Option Value)} {n_N n_K n_p1 n_p2 n_p3 n_p4 n_p5 n_p6 n_b1 n_b2 n_b3 n_b4 n_b5 n_b6 n_b7 nB nP nM:Nat} {eB eP eM:Array DictEntry}
  (aWh:PySem.W.nsIn K mainGlobals "is_whole" = some (some (.ref fWh)))
  (lWh:K.lookup fWh=some ⟨ocWh,odWh,.func (PySem.W.fnOf "is_whole" "is_whole" (Aw WK) (Av WK) (Ac WK) .none kVWh dcWh pmWh anWh cdWh ctWh),slWh⟩) (cWh:PySem.W.codeIn K cdWh "is_whole" = true) (kWh:PySem.W.keepIn K (.ref fWh)=true)
  (aMd:PySem.W.nsIn K mainGlobals "is_made_of" = some (some (.ref fMd)))
  (lMd:K.lookup fMd=some ⟨ocMd,odMd,.func (PySem.W.fnOf "is_made_of" "is_made_of" (Aw Su) (Av Su) (Ac Su) .none kVMd dcMd pmMd anMd cdMd ctMd),slMd⟩) (cMd:PySem.W.codeIn K cdMd "is_made_of" = true) (kMd:PySem.W.keepIn K (.ref fMd)=true)
  (aNm:PySem.W.nsIn K mainGlobals "is_name" = some (some (.ref fNm)))
  (lNm:K.lookup fNm=some ⟨ocNm,odNm,.func (PySem.W.fnOf "is_name" "is_name" (Aw Vm) (Av Vm) (Ac Vm) .none kVNm dcNm pmNm anNm cdNm ctNm),slNm⟩) (cNm:PySem.W.codeIn K cdNm "is_name" = true) (kNm:PySem.W.keepIn K (.ref fNm)=true)
  (aRo:PySem.W.nsIn K mainGlobals "rows_of" = some (some (.ref fRo)))
  (lRo:K.lookup fRo=some ⟨ocRo,odRo,.func (PySem.W.fnOf "rows_of" "rows_of" (Aw T4) (Av T4) (Ac T4) .none kVRo dcRo pmRo anRo cdRo ctRo),slRo⟩) (cRo:PySem.W.codeIn K cdRo "rows_of" = true) (kRo:PySem.W.keepIn K (.ref fRo)=true)
  (aTo:PySem.W.nsIn K mainGlobals "is_told" = some (some (.ref fTo)))
  (lTo:K.lookup fTo=some ⟨ocTo,odTo,.func (PySem.W.fnOf "is_told" "is_told" (Aw Ug) (Av Ug) (Ac Ug) .none kVTo dcTo pmTo anTo cdTo ctTo),slTo⟩) (cTo:PySem.W.codeIn K cdTo "is_told" = true) (kTo:PySem.W.keepIn K (.ref fTo)=true)
  (aWi:PySem.W.nsIn K mainGlobals "is_within" = some (some (.ref fWi)))
  (lWi:K.lookup fWi=some ⟨ocWi,odWi,.func (PySem.W.fnOf "is_within" "is_within" (Aw V8) (Av V8) (Ac V8) .none kVWi dcWi pmWi anWi cdWi ctWi),slWi⟩) (cWi:PySem.W.codeIn K cdWi "is_within" = true) (kWi:PySem.W.keepIn K (.ref fWi)=true)
  (aPa:PySem.W.nsIn K mainGlobals "is_part" = some (some (.ref fPa)))
  (lPa:K.lookup fPa=some ⟨ocPa,odPa,.func (PySem.W.fnOf "is_part" "is_part" (Aw Ua) (Av Ua) (Ac Ua) .none kVPa dcPa pmPa anPa cdPa ctPa),slPa⟩) (cPa:PySem.W.codeIn K cdPa "is_part" = true) (kPa:PySem.W.keepIn K (.ref fPa)=true)
  (aHp:PySem.W.nsIn K mainGlobals "has_parts" = some (some (.ref fHp)))
  (lHp:K.lookup fHp=some ⟨ocHp,odHp,.func (PySem.W.fnOf "has_parts" "has_parts" (Aw Vi) (Av Vi) (Ac Vi) .none kVHp dcHp pmHp anHp cdHp ctHp),slHp⟩) (cHp:PySem.W.codeIn K cdHp "has_parts" = true) (kHp:PySem.W.keepIn K (.ref fHp)=true)
  (aCl:PySem.W.nsIn K mainGlobals "count_of_last_lines" = some (some (.ref fCl)))
  (lCl:K.lookup fCl=some ⟨ocCl,odCl,.func (PySem.W.fnOf "count_of_last_lines" "count_of_last_lines" (Aw Vw) (Av Vw) (Ac Vw) .none kVCl dcCl pmCl anCl cdCl ctCl),slCl⟩) (cCl:PySem.W.codeIn K cdCl "count_of_last_lines" = true) (kCl:PySem.W.keepIn K (.ref fCl)=true)
  (aIk:PySem.W.nsIn K mainGlobals "is_key_of" = some (some (.ref fIk)))
  (lIk:K.lookup fIk=some ⟨ocIk,odIk,.func (PySem.W.fnOf "is_key_of" "is_key_of" (Aw Tg) (Av Tg) (Ac Tg) .none kVIk dcIk pmIk anIk cdIk ctIk),slIk⟩) (cIk:PySem.W.codeIn K cdIk "is_key_of" = true) (kIk:PySem.W.keepIn K (.ref fIk)=true)
  (aSb:PySem.W.nsIn K mainGlobals "stands_behind_stop" = some (some (.ref fSb)))
  (lSb:K.lookup fSb=some ⟨ocSb,odSb,.func (PySem.W.fnOf "stands_behind_stop" "stands_behind_stop" (Aw V1) (Av V1) (Ac V1) .none kVSb dcSb pmSb anSb cdSb ctSb),slSb⟩) (cSb:PySem.W.codeIn K cdSb "stands_behind_stop" = true) (kSb:PySem.W.keepIn K (.ref fSb)=true)
  (aIs:PySem.W.nsIn K mainGlobals "is_step" = some (some (.ref fIs)))
  (lIs:K.lookup fIs=some ⟨ocIs,odIs,.func (PySem.W.fnOf "is_step" "is_step" (Aw VB) (Av VB) (Ac VB) .none kVIs dcIs pmIs anIs cdIs ctIs),slIs⟩) (cIs:PySem.W.codeIn K cdIs "is_step" = true) (kIs:PySem.W.keepIn K (.ref fIs)=true)
  (aWm:PySem.W.nsIn K mainGlobals "is_well_made" = some (some (.ref fWm)))
  (lWm:K.lookup fWm=some ⟨ocWm,odWm,.func (PySem.W.fnOf "is_well_made" "is_well_made" (Aw Vv) (Av Vv) (Ac Vv) .none kVWm dcWm pmWm anWm cdWm ctWm),slWm⟩) (cWm:PySem.W.codeIn K cdWm "is_well_made" = true) (kWm:PySem.W.keepIn K (.ref fWm)=true)
  (aHr:PySem.W.nsIn K mainGlobals "has_room" = some (some (.ref fHr)))
  (lHr:K.lookup fHr=some ⟨ocHr,odHr,.func (PySem.W.fnOf "has_room" "has_room" (Aw Vx) (Av Vx) (Ac Vx) .none kVHr dcHr pmHr anHr cdHr ctHr),slHr⟩) (cHr:PySem.W.codeIn K cdHr "has_room" = true) (kHr:PySem.W.keepIn K (.ref fHr)=true)
  (aIr:PySem.W.nsIn K mainGlobals "is_row" = some (some (.ref fIr)))
  (lIr:K.lookup fIr=some ⟨ocIr,odIr,.func (PySem.W.fnOf "is_row" "is_row" (Aw WR) (Av WR) (Ac WR) .none kVIr dcIr pmIr anIr cdIr ctIr),slIr⟩) (cIr:PySem.W.codeIn K cdIr "is_row" = true) (kIr:PySem.W.keepIn K (.ref fIr)=true)
  (aCk:PySem.W.nsIn K mainGlobals "check_rows" = some (some (.ref fCk)))
  (lCk:K.lookup fCk=some ⟨ocCk,odCk,.func (PySem.W.fnOf "check_rows" "check_rows" (Aw V2) (Av V2) (Ac V2) .none kVCk dcCk pmCk anCk cdCk ctCk),slCk⟩) (cCk:PySem.W.codeIn K cdCk "check_rows" = true) (kCk:PySem.W.keepIn K (.ref fCk)=true)
  (aNu:PySem.W.nsIn K mainGlobals "numbers_of" = some (some (.ref fNu)))
  (lNu:K.lookup fNu=some ⟨ocNu,odNu,.func (PySem.W.fnOf "numbers_of" "numbers_of" (Aw Vr) (Av Vr) (Ac Vr) .none kVNu dcNu pmNu anNu cdNu ctNu),slNu⟩) (cNu:PySem.W.codeIn K cdNu "numbers_of" = true) (kNu:PySem.W.keepIn K (.ref fNu)=true)
  (aCa:PySem.W.nsIn K mainGlobals "count_in_all" = some (some (.ref fCa)))
  (lCa:K.lookup fCa=some ⟨ocCa,odCa,.func (PySem.W.fnOf "count_in_all" "count_in_all" (Aw VG) (Av VG) (Ac VG) .none kVCa dcCa pmCa anCa cdCa ctCa),slCa⟩) (cCa:PySem.W.codeIn K cdCa "count_in_all" = true) (kCa:PySem.W.keepIn K (.ref fCa)=true)
  (aPl:PySem.W.nsIn K mainGlobals "places_of" = some (some (.ref fPl)))
  (lPl:K.lookup fPl=some ⟨ocPl,odPl,.func (PySem.W.fnOf "places_of" "places_of" (Aw VJ) (Av VJ) (Ac VJ) .none kVPl dcPl pmPl anPl cdPl ctPl),slPl⟩) (cPl:PySem.W.codeIn K cdPl "places_of" = true) (kPl:PySem.W.keepIn K (.ref fPl)=true)
  (aLi:PySem.W.nsIn K mainGlobals "lines_by_knob" = some (some (.ref fLi)))
  (lLi:K.lookup fLi=some ⟨ocLi,odLi,.func (PySem.W.fnOf "lines_by_knob" "lines_by_knob" (Aw Vu) (Av Vu) (Ac Vu) .none kVLi dcLi pmLi anLi cdLi ctLi),slLi⟩) (cLi:PySem.W.codeIn K cdLi "lines_by_knob" = true) (kLi:PySem.W.keepIn K (.ref fLi)=true)
  (aSs:PySem.W.nsIn K mainGlobals "set_of_step" = some (some (.ref fSs)))
  (lSs:K.lookup fSs=some ⟨ocSs,odSs,.func (PySem.W.fnOf "set_of_step" "set_of_step" (Aw Ur) (Av Ur) (Ac Ur) .none kVSs dcSs pmSs anSs cdSs ctSs),slSs⟩) (cSs:PySem.W.codeIn K cdSs "set_of_step" = true) (kSs:PySem.W.keepIn K (.ref fSs)=true)
  (aMy:PySem.W.nsIn K mainGlobals "may_be_member" = some (some (.ref fMy)))
  (lMy:K.lookup fMy=some ⟨ocMy,odMy,.func (PySem.W.fnOf "may_be_member" "may_be_member" (Aw WT) (Av WT) (Ac WT) .none kVMy dcMy pmMy anMy cdMy ctMy),slMy⟩) (cMy:PySem.W.codeIn K cdMy "may_be_member" = true) (kMy:PySem.W.keepIn K (.ref fMy)=true)
  (aSt:PySem.W.nsIn K mainGlobals "set_of" = some (some (.ref fSt)))
  (lSt:K.lookup fSt=some ⟨ocSt,odSt,.func (PySem.W.fnOf "set_of" "set_of" (Aw UG) (Av UG) (Ac UG) .none kVSt dcSt pmSt anSt cdSt ctSt),slSt⟩) (cSt:PySem.W.codeIn K cdSt "set_of" = true) (kSt:PySem.W.keepIn K (.ref fSt)=true)
  (aCe:PySem.W.nsIn K mainGlobals "_law_cell_at" = some (some (.ref fCe)))
  (lCe:K.lookup fCe=some ⟨ocCe,odCe,.func (PySem.W.fnOf "_law_cell_at" "_law_cell_at" (Aw V6) (Av V6) (Ac V6) .none kVCe dcCe pmCe anCe cdCe ctCe),slCe⟩) (cCe:PySem.W.codeIn K cdCe "_law_cell_at" = true) (kCe:PySem.W.keepIn K (.ref fCe)=true)
  (aLw:PySem.W.nsIn K mainGlobals "_law_whole" = some (some (.ref fLw)))
  (lLw:K.lookup fLw=some ⟨ocLw,odLw,.func (PySem.W.fnOf "_law_whole" "_law_whole" (Aw Vn) (Av Vn) (Ac Vn) .none kVLw dcLw pmLw anLw cdLw ctLw),slLw⟩) (cLw:PySem.W.codeIn K cdLw "_law_whole" = true) (kLw:PySem.W.keepIn K (.ref fLw)=true)
  (aMi:PySem.W.nsIn K mainGlobals "_law_mix" = some (some (.ref fMi)))
  (lMi:K.lookup fMi=some ⟨ocMi,odMi,.func (PySem.W.fnOf "_law_mix" "_law_mix" (Aw Vz) (Av Vz) (Ac Vz) .none kVMi dcMi pmMi anMi cdMi ctMi),slMi⟩) (cMi:PySem.W.codeIn K cdMi "_law_mix" = true) (kMi:PySem.W.keepIn K (.ref fMi)=true)
  (aNn:PySem.W.nsIn K mainGlobals "_law_name" = some (some (.ref fNn)))
  (lNn:K.lookup fNn=some ⟨ocNn,odNn,.func (PySem.W.fnOf "_law_name" "_law_name" (Aw Vt) (Av Vt) (Ac Vt) .none kVNn dcNn pmNn anNn cdNn ctNn),slNn⟩) (cNn:PySem.W.codeIn K cdNn "_law_name" = true) (kNn:PySem.W.keepIn K (.ref fNn)=true)
  (aBb:PySem.W.nsIn K mainGlobals "_law_base" = some (some (.ref fBb)))
  (lBb:K.lookup fBb=some ⟨ocBb,odBb,.func (PySem.W.fnOf "_law_base" "_law_base" (Aw Vp) (Av Vp) (Ac Vp) .none kVBb dcBb pmBb anBb cdBb ctBb),slBb⟩) (cBb:PySem.W.codeIn K cdBb "_law_base" = true) (kBb:PySem.W.keepIn K (.ref fBb)=true)
  (aMa:PySem.W.nsIn K mainGlobals "_law_many" = some (some (.ref fMa)))
  (lMa:K.lookup fMa=some ⟨ocMa,odMa,.func (PySem.W.fnOf "_law_many" "_law_many" (Aw U6) (Av U6) (Ac U6) .none kVMa dcMa pmMa anMa cdMa ctMa),slMa⟩) (cMa:PySem.W.codeIn K cdMa "_law_many" = true) (kMa:PySem.W.keepIn K (.ref fMa)=true)
  (aLb:PySem.W.nsIn K mainGlobals "_law_board" = some (some (.ref fLb)))
  (lLb:K.lookup fLb=some ⟨ocLb,odLb,.func (PySem.W.fnOf "_law_board" "_law_board" (Aw WQ) (Av WQ) (Ac WQ) .none kVLb dcLb pmLb anLb cdLb ctLb),slLb⟩) (cLb:PySem.W.codeIn K cdLb "_law_board" = true) (kLb:PySem.W.keepIn K (.ref fLb)=true)
  (aLk:PySem.W.nsIn K mainGlobals "_law_rank" = some (some (.ref fLk)))
  (lLk:K.lookup fLk=some ⟨ocLk,odLk,.func (PySem.W.fnOf "_law_rank" "_law_rank" (Aw WP) (Av WP) (Ac WP) .none kVLk dcLk pmLk anLk cdLk ctLk),slLk⟩) (cLk:PySem.W.codeIn K cdLk "_law_rank" = true) (kLk:PySem.W.keepIn K (.ref fLk)=true)
  (aLs:PySem.W.nsIn K mainGlobals "_law_stop" = some (some (.ref fLs)))
  (lLs:K.lookup fLs=some ⟨ocLs,odLs,.func (PySem.W.fnOf "_law_stop" "_law_stop" (Aw V0) (Av V0) (Ac V0) .none kVLs dcLs pmLs anLs cdLs ctLs),slLs⟩) (cLs:PySem.W.codeIn K cdLs "_law_stop" = true) (kLs:PySem.W.keepIn K (.ref fLs)=true)
  (aLl:PySem.W.nsIn K mainGlobals "_law_line" = some (some (.ref fLl)))
  (lLl:K.lookup fLl=some ⟨ocLl,odLl,.func (PySem.W.fnOf "_law_line" "_law_line" (Aw WF) (Av WF) (Ac WF) .none kVLl dcLl pmLl anLl cdLl ctLl),slLl⟩) (cLl:PySem.W.codeIn K cdLl "_law_line" = true) (kLl:PySem.W.keepIn K (.ref fLl)=true)
  (aLc:PySem.W.nsIn K mainGlobals "_law_coupler" = some (some (.ref fLc)))
  (lLc:K.lookup fLc=some ⟨ocLc,odLc,.func (PySem.W.fnOf "_law_coupler" "_law_coupler" (Aw WD) (Av WD) (Ac WD) .none kVLc dcLc pmLc anLc cdLc ctLc),slLc⟩) (cLc:PySem.W.codeIn K cdLc "_law_coupler" = true) (kLc:PySem.W.keepIn K (.ref fLc)=true)
  (aLt:PySem.W.nsIn K mainGlobals "_law_step" = some (some (.ref fLt)))
  (lLt:K.lookup fLt=some ⟨ocLt,odLt,.func (PySem.W.fnOf "_law_step" "_law_step" (Aw S6) (Av S6) (Ac S6) .none kVLt dcLt pmLt anLt cdLt ctLt),slLt⟩) (cLt:PySem.W.codeIn K cdLt "_law_step" = true) (kLt:PySem.W.keepIn K (.ref fLt)=true)
  (aLr:PySem.W.nsIn K mainGlobals "_law_row" = some (some (.ref fLr)))
  (lLr:K.lookup fLr=some ⟨ocLr,odLr,.func (PySem.W.fnOf "_law_row" "_law_row" (Aw Vj) (Av Vj) (Ac Vj) .none kVLr dcLr pmLr anLr cdLr ctLr),slLr⟩) (cLr:PySem.W.codeIn K cdLr "_law_row" = true) (kLr:PySem.W.keepIn K (.ref fLr)=true)
  (aLp:PySem.W.nsIn K mainGlobals "_law_plan" = some (some (.ref fLp)))
  (lLp:K.lookup fLp=some ⟨ocLp,odLp,.func (PySem.W.fnOf "_law_plan" "_law_plan" (Aw Vk) (Av Vk) (Ac Vk) .none kVLp dcLp pmLp anLp cdLp ctLp),slLp⟩) (cLp:PySem.W.codeIn K cdLp "_law_plan" = true) (kLp:PySem.W.keepIn K (.ref fLp)=true)
  (aPq:PySem.W.nsIn K mainGlobals "_law_pair" = some (some (.ref fPq)))
  (lPq:K.lookup fPq=some ⟨ocPq,odPq,.func (PySem.W.fnOf "_law_pair" "_law_pair" (Aw Vl) (Av Vl) (Ac Vl) .none kVPq dcPq pmPq anPq cdPq ctPq),slPq⟩) (cPq:PySem.W.codeIn K cdPq "_law_pair" = true) (kPq:PySem.W.keepIn K (.ref fPq)=true)
  (aKy:PySem.W.nsIn K mainGlobals "_law_key" = some (some (.ref fKy)))
  (lKy:K.lookup fKy=some ⟨ocKy,odKy,.func (PySem.W.fnOf "_law_key" "_law_key" (Aw Ue) (Av Ue) (Ac Ue) .none kVKy dcKy pmKy anKy cdKy ctKy),slKy⟩) (cKy:PySem.W.codeIn K cdKy "_law_key" = true) (kKy:PySem.W.keepIn K (.ref fKy)=true)
  (aPj:PySem.W.nsIn K mainGlobals "_law_pipe" = some (some (.ref fPj)))
  (lPj:K.lookup fPj=some ⟨ocPj,odPj,.func (PySem.W.fnOf "_law_pipe" "_law_pipe" (Aw Ud) (Av Ud) (Ac Ud) .none kVPj dcPj pmPj anPj cdPj ctPj),slPj⟩) (cPj:PySem.W.codeIn K cdPj "_law_pipe" = true) (kPj:PySem.W.keepIn K (.ref fPj)=true)
  (aSp:PySem.W.nsIn K mainGlobals "_law_some_pipes" = some (some (.ref fSp)))
  (lSp:K.lookup fSp=some ⟨ocSp,odSp,.func (PySem.W.fnOf "_law_some_pipes" "_law_some_pipes" (Aw V5) (Av V5) (Ac V5) .none kVSp dcSp pmSp anSp cdSp ctSp),slSp⟩) (cSp:PySem.W.codeIn K cdSp "_law_some_pipes" = true) (kSp:PySem.W.keepIn K (.ref fSp)=true)
  (aNr:PySem.W.nsIn K mainGlobals "_law_number" = some (some (.ref fNr)))
  (lNr:K.lookup fNr=some ⟨ocNr,odNr,.func (PySem.W.fnOf "_law_number" "_law_number" (Aw V9) (Av V9) (Ac V9) .none kVNr dcNr pmNr anNr cdNr ctNr),slNr⟩) (cNr:PySem.W.codeIn K cdNr "_law_number" = true) (kNr:PySem.W.keepIn K (.ref fNr)=true)
  (aNs:PySem.W.nsIn K mainGlobals "_law_numbers" = some (some (.ref fNs)))
  (lNs:K.lookup fNs=some ⟨ocNs,odNs,.func (PySem.W.fnOf "_law_numbers" "_law_numbers" (Aw Tc) (Av Tc) (Ac Tc) .none kVNs dcNs pmNs anNs cdNs ctNs),slNs⟩) (cNs:PySem.W.codeIn K cdNs "_law_numbers" = true) (kNs:PySem.W.keepIn K (.ref fNs)=true)
  (aOd:PySem.W.nsIn K mainGlobals "_law_odd" = some (some (.ref fOd)))
  (lOd:K.lookup fOd=some ⟨ocOd,odOd,.func (PySem.W.fnOf "_law_odd" "_law_odd" (Aw V_) (Av V_) (Ac V_) .none kVOd dcOd pmOd anOd cdOd ctOd),slOd⟩) (cOd:PySem.W.codeIn K cdOd "_law_odd" = true) (kOd:PySem.W.keepIn K (.ref fOd)=true)
  (aZ:PySem.W.nsIn K mainGlobals "law" = some (some (.ref fZ)))
  (lZ:K.lookup fZ=some ⟨ocZ,odZ,.func (PySem.W.fnOf "law" "law" (Aw H_) (Av H_) (Ac H_) .none kVZ dcZ pmZ anZ cdZ ctZ),slZ⟩) (cZ:PySem.W.codeIn K cdZ "law" = true) (kZ:PySem.W.keepIn K (.ref fZ)=true)
  (aC:PySem.W.nsIn K mainGlobals "Organ" = some (some (.ref C)))
  (aOi:PySem.W.findIn K (.ref C) "__init__" = some (some (.ref fOi)))
  (iOi:PySem.W.isFn K (.ref fOi)=true)
  (lOi:K.lookup fOi=some ⟨ocOi,odOi,.func (PySem.W.fnOf "__init__" "Organ.__init__" (Aw N7) (Av N7) (Ac N7) .none kVOi dcOi pmOi anOi cdOi ctOi),slOi⟩) (cOi:PySem.W.codeIn K cdOi "Organ.__init__" = true) (kOi:PySem.W.keepIn K (.ref fOi)=true)
  (aOb:PySem.W.findIn K (.ref C) "boards" = some (some (.ref fOb)))
  (iOb:PySem.W.isFn K (.ref fOb)=true)
  (lOb:K.lookup fOb=some ⟨ocOb,odOb,.func (PySem.W.fnOf "boards" "Organ.boards" (Aw Yw) (Av Yw) (Ac Yw) .none kVOb dcOb pmOb anOb cdOb ctOb),slOb⟩) (cOb:PySem.W.codeIn K cdOb "Organ.boards" = true) (kOb:PySem.W.keepIn K (.ref fOb)=true)
  (aOk:PySem.W.findIn K (.ref C) "key" = some (some (.ref fOk)))
  (iOk:PySem.W.isFn K (.ref fOk)=true)
  (lOk:K.lookup fOk=some ⟨ocOk,odOk,.func (PySem.W.fnOf "key" "Organ.key" (Aw V3) (Av V3) (Ac V3) .none kVOk dcOk pmOk anOk cdOk ctOk),slOk⟩) (cOk:PySem.W.codeIn K cdOk "Organ.key" = true) (kOk:PySem.W.keepIn K (.ref fOk)=true)
  (aOo:PySem.W.findIn K (.ref C) "board_of" = some (some (.ref fOo)))
  (iOo:PySem.W.isFn K (.ref fOo)=true)
  (lOo:K.lookup fOo=some ⟨ocOo,odOo,.func (PySem.W.fnOf "board_of" "Organ.board_of" (Aw WM) (Av WM) (Ac WM) .none kVOo dcOo pmOo anOo cdOo ctOo),slOo⟩) (cOo:PySem.W.codeIn K cdOo "Organ.board_of" = true) (kOo:PySem.W.keepIn K (.ref fOo)=true)
  (aBk:PySem.W.findIn K (.ref C) "board_of_knob" = some (some (.ref fBk)))
  (iBk:PySem.W.isFn K (.ref fBk)=true)
  (lBk:K.lookup fBk=some ⟨ocBk,odBk,.func (PySem.W.fnOf "board_of_knob" "Organ.board_of_knob" (Aw Xi) (Av Xi) (Ac Xi) .none kVBk dcBk pmBk anBk cdBk ctBk),slBk⟩) (cBk:PySem.W.codeIn K cdBk "Organ.board_of_knob" = true) (kBk:PySem.W.keepIn K (.ref fBk)=true)
  (aOp:PySem.W.findIn K (.ref C) "coupler" = some (some (.ref fOp)))
  (iOp:PySem.W.isFn K (.ref fOp)=true)
  (lOp:K.lookup fOp=some ⟨ocOp,odOp,.func (PySem.W.fnOf "coupler" "Organ.coupler" (Aw Zg) (Av Zg) (Ac Zg) .none kVOp dcOp pmOp anOp cdOp ctOp),slOp⟩) (cOp:PySem.W.codeIn K cdOp "Organ.coupler" = true) (kOp:PySem.W.keepIn K (.ref fOp)=true)
  (aOw:PySem.W.findIn K (.ref C) "rows" = some (some (.ref fOw)))
  (iOw:PySem.W.isFn K (.ref fOw)=true)
  (lOw:K.lookup fOw=some ⟨ocOw,odOw,.func (PySem.W.fnOf "rows" "Organ.rows" (Aw XH) (Av XH) (Ac XH) .none kVOw dcOw pmOw anOw cdOw ctOw),slOw⟩) (cOw:PySem.W.codeIn K cdOw "Organ.rows" = true) (kOw:PySem.W.keepIn K (.ref fOw)=true)
  (aOr:PySem.W.findIn K (.ref C) "ranks" = some (some (.ref fOr)))
  (iOr:PySem.W.isFn K (.ref fOr)=true)
  (lOr:K.lookup fOr=some ⟨ocOr,odOr,.func (PySem.W.fnOf "ranks" "Organ.ranks" (Aw Zc) (Av Zc) (Ac Zc) .none kVOr dcOr pmOr anOr cdOr ctOr),slOr⟩) (cOr:PySem.W.codeIn K cdOr "Organ.ranks" = true) (kOr:PySem.W.keepIn K (.ref fOr)=true)
  (aOq:PySem.W.findIn K (.ref C) "pipe_count" = some (some (.ref fOq)))
  (iOq:PySem.W.isFn K (.ref fOq)=true)
  (lOq:K.lookup fOq=some ⟨ocOq,odOq,.func (PySem.W.fnOf "pipe_count" "Organ.pipe_count" (Aw Vq) (Av Vq) (Ac Vq) .none kVOq dcOq pmOq anOq cdOq ctOq),slOq⟩) (cOq:PySem.W.codeIn K cdOq "Organ.pipe_count" = true) (kOq:PySem.W.keepIn K (.ref fOq)=true)
  (aOe:PySem.W.findIn K (.ref C) "pipe" = some (some (.ref fOe)))
  (iOe:PySem.W.isFn K (.ref fOe)=true)
  (lOe:K.lookup fOe=some ⟨ocOe,odOe,.func (PySem.W.fnOf "pipe" "Organ.pipe" (Aw V4) (Av V4) (Ac V4) .none kVOe dcOe pmOe anOe cdOe ctOe),slOe⟩) (cOe:PySem.W.codeIn K cdOe "Organ.pipe" = true) (kOe:PySem.W.keepIn K (.ref fOe)=true)
  (aOv:PySem.W.findIn K (.ref C) "rank_of" = some (some (.ref fOv)))
  (iOv:PySem.W.isFn K (.ref fOv)=true)
  (lOv:K.lookup fOv=some ⟨ocOv,odOv,.func (PySem.W.fnOf "rank_of" "Organ.rank_of" (Aw V7) (Av V7) (Ac V7) .none kVOv dcOv pmOv anOv cdOv ctOv),slOv⟩) (cOv:PySem.W.codeIn K cdOv "Organ.rank_of" = true) (kOv:PySem.W.keepIn K (.ref fOv)=true)
  (aOu:PySem.W.findIn K (.ref C) "board_number" = some (some (.ref fOu)))
  (iOu:PySem.W.isFn K (.ref fOu)=true)
  (lOu:K.lookup fOu=some ⟨ocOu,odOu,.func (PySem.W.fnOf "board_number" "Organ.board_number" (Aw Vo) (Av Vo) (Ac Vo) .none kVOu dcOu pmOu anOu cdOu ctOu),slOu⟩) (cOu:PySem.W.codeIn K cdOu "Organ.board_number" = true) (kOu:PySem.W.keepIn K (.ref fOu)=true)
  (aOj:PySem.W.findIn K (.ref C) "knob_number" = some (some (.ref fOj)))
  (iOj:PySem.W.isFn K (.ref fOj)=true)
  (lOj:K.lookup fOj=some ⟨ocOj,odOj,.func (PySem.W.fnOf "knob_number" "Organ.knob_number" (Aw Vs) (Av Vs) (Ac Vs) .none kVOj dcOj pmOj anOj cdOj ctOj),slOj⟩) (cOj:PySem.W.codeIn K cdOj "Organ.knob_number" = true) (kOj:PySem.W.keepIn K (.ref fOj)=true)
  (aOs:PySem.W.findIn K (.ref C) "stop" = some (some (.ref fOs)))
  (iOs:PySem.W.isFn K (.ref fOs)=true)
  (lOs:K.lookup fOs=some ⟨ocOs,odOs,.func (PySem.W.fnOf "stop" "Organ.stop" (Aw Yp) (Av Yp) (Ac Yp) .none kVOs dcOs pmOs anOs cdOs ctOs),slOs⟩) (cOs:PySem.W.codeIn K cdOs "Organ.stop" = true) (kOs:PySem.W.keepIn K (.ref fOs)=true)
  (aOm:PySem.W.findIn K (.ref C) "mute" = some (some (.ref fOm)))
  (iOm:PySem.W.isFn K (.ref fOm)=true)
  (lOm:K.lookup fOm=some ⟨ocOm,odOm,.func (PySem.W.fnOf "mute" "Organ.mute" (Aw Xu) (Av Xu) (Ac Xu) .none kVOm dcOm pmOm anOm cdOm ctOm),slOm⟩) (cOm:PySem.W.codeIn K cdOm "Organ.mute" = true) (kOm:PySem.W.keepIn K (.ref fOm)=true)
  (aOy:PySem.W.findIn K (.ref C) "steps" = some (some (.ref fOy)))
  (iOy:PySem.W.isFn K (.ref fOy)=true)
  (lOy:K.lookup fOy=some ⟨ocOy,odOy,.func (PySem.W.fnOf "steps" "Organ.steps" (Aw WW) (Av WW) (Ac WW) .none kVOy dcOy pmOy anOy cdOy ctOy),slOy⟩) (cOy:PySem.W.codeIn K cdOy "Organ.steps" = true) (kOy:PySem.W.keepIn K (.ref fOy)=true)
  (aOz:PySem.W.findIn K (.ref C) "knobs" = some (some (.ref fOz)))
  (iOz:PySem.W.isFn K (.ref fOz)=true)
  (lOz:K.lookup fOz=some ⟨ocOz,odOz,.func (PySem.W.fnOf "knobs" "Organ.knobs" (Aw Wf) (Av Wf) (Ac Wf) .none kVOz dcOz pmOz anOz cdOz ctOz),slOz⟩) (cOz:PySem.W.codeIn K cdOz "Organ.knobs" = true) (kOz:PySem.W.keepIn K (.ref fOz)=true)
  (pg:PySem.W.plainGet K C Str.empty=true)
  (hd:PySem.W.hasDictIn K C=true)
  (po:PySem.W.plainOver K C=true)
  (sa:PySem.W.findIn K (.ref C) "__setattr__" = some (some (.builtin "object.__setattr__")))
  (mkC:PySem.W.makesIn K C=true)
  (kc:PySem.W.keepIn K (.ref C)=true)
  (n_row_list_:PySem.W.findIn K (.ref C) "row_list" = some none)
  (n_board_list_:PySem.W.findIn K (.ref C) "board_list" = some none)
  (n_rank_list_:PySem.W.findIn K (.ref C) "rank_list" = some none)
  (n_knob_rows_:PySem.W.findIn K (.ref C) "knob_rows" = some none)
  (n_board_numbers_:PySem.W.findIn K (.ref C) "board_numbers" = some none)
  (n_rank_numbers_:PySem.W.findIn K (.ref C) "rank_numbers" = some none)
  (n_knob_numbers_:PySem.W.findIn K (.ref C) "knob_numbers" = some none)
  (n_key_places_:PySem.W.findIn K (.ref C) "key_places" = some none)
  (n_pipe_places_:PySem.W.findIn K (.ref C) "pipe_places" = some none)
  (n_knob_lines_:PySem.W.findIn K (.ref C) "knob_lines" = some none)
  (n_step_sets_:PySem.W.findIn K (.ref C) "step_sets" = some none)
  (zlen:PySem.W.nsIn K mainGlobals "len" = some none)
  (zisinstance:PySem.W.nsIn K mainGlobals "isinstance" = some none)
  (zint:PySem.W.nsIn K mainGlobals "int" = some none)
  (zbool:PySem.W.nsIn K mainGlobals "bool" = some none)
  (zstr:PySem.W.nsIn K mainGlobals "str" = some none)
  (zlist:PySem.W.nsIn K mainGlobals "list" = some none)
  (ztuple:PySem.W.nsIn K mainGlobals "tuple" = some none)
  (zall:PySem.W.nsIn K mainGlobals "all" = some none)
  (zany:PySem.W.nsIn K mainGlobals "any" = some none)
  (zsum:PySem.W.nsIn K mainGlobals "sum" = some none)
  (zrange:PySem.W.nsIn K mainGlobals "range" = some none)
  (zzip:PySem.W.nsIn K mainGlobals "zip" = some none)
  (zenumerate:PySem.W.nsIn K mainGlobals "enumerate" = some none)
  (zmax:PySem.W.nsIn K mainGlobals "max" = some none)
  (zreversed:PySem.W.nsIn K mainGlobals "reversed" = some none)
  (zset:PySem.W.nsIn K mainGlobals "set" = some none)
  (zLET:PySem.W.nsIn K mainGlobals "LETTERS" = some (some (.str letters tLET)))
  (zML:PySem.W.nsIn K mainGlobals "MOST_LETTERS" = some (some (.int 8 tML)))
  (zMR:PySem.W.nsIn K mainGlobals "MOST_ROWS" = some (some (.int 150 tMR)))
  (zMLn:PySem.W.nsIn K mainGlobals "MOST_LINES" = some (some (.int 4 tMLn)))
  (zMB:PySem.W.nsIn K mainGlobals "MEMBERS_BELOW" = some (some (.int 1200 tMB)))
  (rN:PySem.W.nsIn K mainGlobals "NAMED" = some (some (.ref aN)))
  (rK:PySem.W.nsIn K mainGlobals "KNOBS" = some (some (.ref aK)))
  (rB:PySem.W.nsIn K mainGlobals "BOUNDS" = some (some (.ref aB)))
  (rP:PySem.W.nsIn K mainGlobals "PARTS" = some (some (.ref aP)))
  (rM:PySem.W.nsIn K mainGlobals "MOST_OF" = some (some (.ref aM)))
  (dB:K.lookup aB=some ⟨.type "dict",none,.dict eB nB,#[]⟩)
  (kB:PySem.W.KeysLit w.params eB.toList)
  (oB:(aB == sysModules)=false)
  (dP:K.lookup aP=some ⟨.type "dict",none,.dict eP nP,#[]⟩)
  (kP:PySem.W.KeysLit w.params eP.toList)
  (oP:(aP == sysModules)=false)
  (dM:K.lookup aM=some ⟨.type "dict",none,.dict eM nM,#[]⟩)
  (kM:PySem.W.KeysLit w.params eM.toList)
  (oM:(aM == sysModules)=false)
  (qp1:PySem.W.nsIn K aP "board" = some (some (.ref p1)))
  (qp2:PySem.W.nsIn K aP "stop" = some (some (.ref p2)))
  (qp3:PySem.W.nsIn K aP "mute" = some (some (.ref p3)))
  (qp4:PySem.W.nsIn K aP "coupler" = some (some (.ref p4)))
  (qp5:PySem.W.nsIn K aP "rank" = some (some (.ref p5)))
  (qp6:PySem.W.nsIn K aP "line" = some (some (.ref p6)))
  (qb1:PySem.W.nsIn K aB "keys" = some (some (.ref b1)))
  (qb2:PySem.W.nsIn K aB "leap" = some (some (.ref b2)))
  (qb3:PySem.W.nsIn K aB "pipes" = some (some (.ref b3)))
  (qb4:PySem.W.nsIn K aB "wind" = some (some (.ref b4)))
  (qb5:PySem.W.nsIn K aB "shift" = some (some (.ref b5)))
  (qb6:PySem.W.nsIn K aB "low" = some (some (.ref b6)))
  (qb7:PySem.W.nsIn K aB "high" = some (some (.ref b7)))
  (qn:PySem.W.nsIn K aB "new" = some none)
  (qb:PySem.W.nsIn K aB "board" = some none)
  (qr:PySem.W.nsIn K aB "rank" = some none)
  (ql:PySem.W.nsIn K aM "line" = some none)
  (qm1:PySem.W.nsIn K aM "board" = some (some (.int 5 tm1)))
  (qm2:PySem.W.nsIn K aM "stop" = some (some (.int 24 tm2)))
  (qm3:PySem.W.nsIn K aM "coupler" = some (some (.int 12 tm3)))
  (qm4:PySem.W.nsIn K aM "mute" = some (some (.int 5 tm4)))
  (qm5:PySem.W.nsIn K aM "rank" = some (some (.int 12 tm5)))
  (qm6:PySem.W.nsIn K aM "step" = some (some (.int 12 tm6)))
  (uN:K.lookup aN=some ⟨.type "tuple",od_N,.seq #[.str "board" ttN_0,.str "rank" ttN_1,.str "stop" ttN_2,.str "coupler" ttN_3,.str "mute" ttN_4] n_N,sl_N⟩)
  (uK:K.lookup aK=some ⟨.type "tuple",od_K,.seq #[.str "stop" ttK_0,.str "coupler" ttK_1,.str "mute" ttK_2] n_K,sl_K⟩)
  (up1:K.lookup p1=some ⟨.type "tuple",od_p1,.seq #[.str "new" ttp1_0,.str "keys" ttp1_1] n_p1,sl_p1⟩)
  (up2:K.lookup p2=some ⟨.type "tuple",od_p2,.seq #[.str "new" ttp2_0,.str "board" ttp2_1] n_p2,sl_p2⟩)
  (up3:K.lookup p3=some ⟨.type "tuple",od_p3,.seq #[.str "new" ttp3_0,.str "board" ttp3_1] n_p3,sl_p3⟩)
  (up4:K.lookup p4=some ⟨.type "tuple",od_p4,.seq #[.str "new" ttp4_0,.str "board" ttp4_1,.str "board" ttp4_2,.str "leap" ttp4_3] n_p4,sl_p4⟩)
  (up5:K.lookup p5=some ⟨.type "tuple",od_p5,.seq #[.str "new" ttp5_0,.str "pipes" ttp5_1,.str "wind" ttp5_2] n_p5,sl_p5⟩)
  (up6:K.lookup p6=some ⟨.type "tuple",od_p6,.seq #[.str "rank" ttp6_0,.str "shift" ttp6_1,.str "low" ttp6_2,.str "high" ttp6_3] n_p6,sl_p6⟩)
  (ub1:K.lookup b1=some ⟨.type "tuple",od_b1,.seq #[.int (1) ttb1_0,.int (61) ttb1_1] n_b1,sl_b1⟩)
  (ub2:K.lookup b2=some ⟨.type "tuple",od_b2,.seq #[.int (-60) ttb2_0,.int (60) ttb2_1] n_b2,sl_b2⟩)
  (ub3:K.lookup b3=some ⟨.type "tuple",od_b3,.seq #[.int (1) ttb3_0,.int (97) ttb3_1] n_b3,sl_b3⟩)
  (ub4:K.lookup b4=some ⟨.type "tuple",od_b4,.seq #[.int (0) ttb4_0,.int (1000000000) ttb4_1] n_b4,sl_b4⟩)
  (ub5:K.lookup b5=some ⟨.type "tuple",od_b5,.seq #[.int (-200) ttb5_0,.int (200) ttb5_1] n_b5,sl_b5⟩)
  (ub6:K.lookup b6=some ⟨.type "tuple",od_b6,.seq #[.int (0) ttb6_0,.int (60) ttb6_1] n_b6,sl_b6⟩)
  (ub7:K.lookup b7=some ⟨.type "tuple",od_b7,.seq #[.int (0) ttb7_0,.int (60) ttb7_1] n_b7,sl_b7⟩)
  : ∃ fd:FuncData,(∀ (s:Shared) (v:Value),BindsTo s fd ⟨[v],[]⟩ [("_law_script",v)])/\∀ base:Heap,K.In base->base.Ns mainGlobals mg->BK l.prog w K mg base Bm 11 fa fd ["_law_script"] (Nf K):=by
 have e:=hfa.symm.trans (PySem.W.mg_of X G aZ)
 cases e
 have FWh:=BX (st:=WK) lWh cWh kWh
 have FMd:=BX (st:=Su) lMd cMd kMd
 have FNm:=BX (st:=Vm) lNm cNm kNm
 have FRo:=BX (st:=T4) lRo cRo kRo
 have FTo:=BX (st:=Ug) lTo cTo kTo
 have FWi:=BX (st:=V8) lWi cWi kWi
 have FPa:=BX (st:=Ua) lPa cPa kPa
 have FHp:=BX (st:=Vi) lHp cHp kHp
 have FCl:=BX (st:=Vw) lCl cCl kCl
 have FIk:=BX (st:=Tg) lIk cIk kIk
 have FSb:=BX (st:=V1) lSb cSb kSb
 have FIs:=BX (st:=VB) lIs cIs kIs
 have FWm:=BX (st:=Vv) lWm cWm kWm
 have FHr:=BX (st:=Vx) lHr cHr kHr
 have FIr:=BX (st:=WR) lIr cIr kIr
 have FCk:=BX (st:=V2) lCk cCk kCk
 have FNu:=BX (st:=Vr) lNu cNu kNu
 have FCa:=BX (st:=VG) lCa cCa kCa
 have FPl:=BX (st:=VJ) lPl cPl kPl
 have FLi:=BX (st:=Vu) lLi cLi kLi
 have FSs:=BX (st:=Ur) lSs cSs kSs
 have FMy:=BX (st:=WT) lMy cMy kMy
 have FSt:=BX (st:=UG) lSt cSt kSt
 have FCe:=BX (st:=V6) lCe cCe kCe
 have FLw:=BX (st:=Vn) lLw cLw kLw
 have FMi:=BX (st:=Vz) lMi cMi kMi
 have FNn:=BX (st:=Vt) lNn cNn kNn
 have FBb:=BX (st:=Vp) lBb cBb kBb
 have FMa:=BX (st:=U6) lMa cMa kMa
 have FLb:=BX (st:=WQ) lLb cLb kLb
 have FLk:=BX (st:=WP) lLk cLk kLk
 have FLs:=BX (st:=V0) lLs cLs kLs
 have FLl:=BX (st:=WF) lLl cLl kLl
 have FLc:=BX (st:=WD) lLc cLc kLc
 have FLt:=BX (st:=S6) lLt cLt kLt
 have FLr:=BX (st:=Vj) lLr cLr kLr
 have FLp:=BX (st:=Vk) lLp cLp kLp
 have FPq:=BX (st:=Vl) lPq cPq kPq
 have FKy:=BX (st:=Ue) lKy cKy kKy
 have FPj:=BX (st:=Ud) lPj cPj kPj
 have FSp:=BX (st:=V5) lSp cSp kSp
 have FNr:=BX (st:=V9) lNr cNr kNr
 have FNs:=BX (st:=Tc) lNs cNs kNs
 have FOd:=BX (st:=V_) lOd cOd kOd
 have FOi:=BX (st:=N7) lOi cOi kOi
 have FOb:=BX (st:=Yw) lOb cOb kOb
 have FOk:=BX (st:=V3) lOk cOk kOk
 have FOo:=BX (st:=WM) lOo cOo kOo
 have FBk:=BX (st:=Xi) lBk cBk kBk
 have FOp:=BX (st:=Zg) lOp cOp kOp
 have FOw:=BX (st:=XH) lOw cOw kOw
 have FOr:=BX (st:=Zc) lOr cOr kOr
 have FOq:=BX (st:=Vq) lOq cOq kOq
 have FOe:=BX (st:=V4) lOe cOe kOe
 have FOv:=BX (st:=V7) lOv cOv kOv
 have FOu:=BX (st:=Vo) lOu cOu kOu
 have FOj:=BX (st:=Vs) lOj cOj kOj
 have FOs:=BX (st:=Yp) lOs cOs kOs
 have FOm:=BX (st:=Xu) lOm cOm kOm
 have FOy:=BX (st:=WW) lOy cOy kOy
 have FOz:=BX (st:=Wf) lOz cOz kOz
 have FZ:=BX (st:=H_) lZ cZ kZ
 have bWh:=FWh.binds (ps:=["thing"]) fun _ _ _ _ _ _ us hl=>(by obtain ⟨_,rfl⟩:=UL1 hl;exact rfl)
 have bMd:=FMd.binds (ps:=["text","signs","most"]) fun _ _ _ _ _ _ us hl=>(by obtain ⟨_,_,_,rfl⟩:=UL3 hl;exact rfl)
 have bNm:=FNm.binds (ps:=["thing"]) fun _ _ _ _ _ _ us hl=>(by obtain ⟨_,rfl⟩:=UL1 hl;exact rfl)
 have bRo:=FRo.binds (ps:=["rows","word"]) fun _ _ _ _ _ _ us hl=>(by obtain ⟨_,_,rfl⟩:=UL2 hl;exact rfl)
 have bTo:=FTo.binds (ps:=["rows","word","thing"]) fun _ _ _ _ _ _ us hl=>(by obtain ⟨_,_,_,rfl⟩:=UL3 hl;exact rfl)
 have bWi:=FWi.binds (ps:=["thing","bounds"]) fun _ _ _ _ _ _ us hl=>(by obtain ⟨_,_,rfl⟩:=UL2 hl;exact rfl)
 have bPa:=FPa.binds (ps:=["thing","part","ahead"]) fun _ _ _ _ _ _ us hl=>(by obtain ⟨_,_,_,rfl⟩:=UL3 hl;exact rfl)
 have bHp:=FHp.binds (ps:=["row","ahead"]) fun _ _ _ _ _ _ us hl=>(by obtain ⟨_,_,rfl⟩:=UL2 hl;exact rfl)
 have bCl:=FCl.binds (ps:=["rows"]) fun _ _ _ _ _ _ us hl=>(by obtain ⟨_,rfl⟩:=UL1 hl;exact rfl)
 have bIk:=FIk.binds (ps:=["number","board","ahead"]) fun _ _ _ _ _ _ us hl=>(by obtain ⟨_,_,_,rfl⟩:=UL3 hl;exact rfl)
 have bSb:=FSb.binds (ps:=["line","ahead"]) fun _ _ _ _ _ _ us hl=>(by obtain ⟨_,_,rfl⟩:=UL2 hl;exact rfl)
 have bIs:=FIs.binds (ps:=["row","ahead"]) fun _ _ _ _ _ _ us hl=>(by obtain ⟨_,_,rfl⟩:=UL2 hl;exact rfl)
 have bWm:=FWm.binds (ps:=["row","ahead"]) fun _ _ _ _ _ _ us hl=>(by obtain ⟨_,_,rfl⟩:=UL2 hl;exact rfl)
 have bHr:=FHr.binds (ps:=["word","ahead"]) fun _ _ _ _ _ _ us hl=>(by obtain ⟨_,_,rfl⟩:=UL2 hl;exact rfl)
 have bIr:=FIr.binds (ps:=["thing","ahead"]) fun _ _ _ _ _ _ us hl=>(by obtain ⟨_,_,rfl⟩:=UL2 hl;exact rfl)
 have bCk:=FCk.binds (ps:=["rows"]) fun _ _ _ _ _ _ us hl=>(by obtain ⟨_,rfl⟩:=UL1 hl;exact rfl)
 have bNu:=FNu.binds (ps:=["names"]) fun _ _ _ _ _ _ us hl=>(by obtain ⟨_,rfl⟩:=UL1 hl;exact rfl)
 have bCa:=FCa.binds (ps:=["things"]) fun _ _ _ _ _ _ us hl=>(by obtain ⟨_,rfl⟩:=UL1 hl;exact rfl)
 have bPl:=FPl.binds (ps:=["things"]) fun _ _ _ _ _ _ us hl=>(by obtain ⟨_,rfl⟩:=UL1 hl;exact rfl)
 have bLi:=FLi.binds (ps:=["rows","rank_numbers"]) fun _ _ _ _ _ _ us hl=>(by obtain ⟨_,_,rfl⟩:=UL2 hl;exact rfl)
 have bSs:=FSs.binds (ps:=["row","knob_numbers"]) fun _ _ _ _ _ _ us hl=>(by obtain ⟨_,_,rfl⟩:=UL2 hl;exact rfl)
 have bMy:=FMy.binds (ps:=["thing"]) fun _ _ _ _ _ _ us hl=>(by obtain ⟨_,rfl⟩:=UL1 hl;exact rfl)
 have bSt:=FSt.binds (ps:=["numbers"]) fun _ _ _ _ _ _ us hl=>(by obtain ⟨_,rfl⟩:=UL1 hl;exact rfl)
 have bCe:=FCe.binds (ps:=["_law_script","_law_k"]) fun _ _ _ _ _ _ us hl=>(by obtain ⟨_,_,rfl⟩:=UL2 hl;exact rfl)
 have bLw:=FLw.binds (ps:=["_law_found"]) fun _ _ _ _ _ _ us hl=>(by obtain ⟨_,rfl⟩:=UL1 hl;exact rfl)
 have bMi:=FMi.binds (ps:=["_law_cell","_law_by","_law_many_here"]) fun _ _ _ _ _ _ us hl=>(by obtain ⟨_,_,_,rfl⟩:=UL3 hl;exact rfl)
 have bNn:=FNn.binds (ps:=["_law_base_here","_law_k"]) fun _ _ _ _ _ _ us hl=>(by obtain ⟨_,_,rfl⟩:=UL2 hl;exact rfl)
 have bBb:=FBb.binds (ps:=["_law_cell"]) fun _ _ _ _ _ _ us hl=>(by obtain ⟨_,rfl⟩:=UL1 hl;exact rfl)
 have bMa:=FMa.binds (ps:=["_law_plan_here","_law_word"]) fun _ _ _ _ _ _ us hl=>(by obtain ⟨_,_,rfl⟩:=UL2 hl;exact rfl)
 have bLb:=FLb.binds (ps:=["_law_plan_here","_law_name_here","_law_cell"]) fun _ _ _ _ _ _ us hl=>(by obtain ⟨_,_,_,rfl⟩:=UL3 hl;exact rfl)
 have bLk:=FLk.binds (ps:=["_law_plan_here","_law_name_here","_law_cell"]) fun _ _ _ _ _ _ us hl=>(by obtain ⟨_,_,_,rfl⟩:=UL3 hl;exact rfl)
 have bLs:=FLs.binds (ps:=["_law_plan_here","_law_name_here","_law_cell"]) fun _ _ _ _ _ _ us hl=>(by obtain ⟨_,_,_,rfl⟩:=UL3 hl;exact rfl)
 have bLl:=FLl.binds (ps:=["_law_plan_here","_law_cell"]) fun _ _ _ _ _ _ us hl=>(by obtain ⟨_,_,rfl⟩:=UL2 hl;exact rfl)
 have bLc:=FLc.binds (ps:=["_law_plan_here","_law_name_here","_law_cell"]) fun _ _ _ _ _ _ us hl=>(by obtain ⟨_,_,_,rfl⟩:=UL3 hl;exact rfl)
 have bLt:=FLt.binds (ps:=["_law_plan_here","_law_cell"]) fun _ _ _ _ _ _ us hl=>(by obtain ⟨_,_,rfl⟩:=UL2 hl;exact rfl)
 have bLr:=FLr.binds (ps:=["_law_plan_here","_law_name_here","_law_cell"]) fun _ _ _ _ _ _ us hl=>(by obtain ⟨_,_,_,rfl⟩:=UL3 hl;exact rfl)
 have bLp:=FLp.binds (ps:=["_law_script","_law_start"]) fun _ _ _ _ _ _ us hl=>(by obtain ⟨_,_,rfl⟩:=UL2 hl;exact rfl)
 have bPq:=FPq.binds (ps:=["_law_found","_law_at","_law_number_here"]) fun _ _ _ _ _ _ us hl=>(by obtain ⟨_,_,_,rfl⟩:=UL3 hl;exact rfl)
 have bKy:=FKy.binds (ps:=["_law_organ","_law_plan_here","_law_at","_law_number_here"]) fun _ _ _ _ _ _ us hl=>(by obtain ⟨_,_,_,_,rfl⟩:=UL4 hl;exact rfl)
 have bPj:=FPj.binds (ps:=["_law_organ","_law_plan_here","_law_at","_law_number_here"]) fun _ _ _ _ _ _ us hl=>(by obtain ⟨_,_,_,_,rfl⟩:=UL4 hl;exact rfl)
 have bSp:=FSp.binds (ps:=["_law_organ","_law_plan_here","_law_cell"]) fun _ _ _ _ _ _ us hl=>(by obtain ⟨_,_,_,rfl⟩:=UL3 hl;exact rfl)
 have bNr:=FNr.binds (ps:=["_law_found","_law_names","_law_name_here"]) fun _ _ _ _ _ _ us hl=>(by obtain ⟨_,_,_,rfl⟩:=UL3 hl;exact rfl)
 have bNs:=FNs.binds (ps:=["_law_organ","_law_plan_here","_law_name_here"]) fun _ _ _ _ _ _ us hl=>(by obtain ⟨_,_,_,rfl⟩:=UL3 hl;exact rfl)
 have bOd:=FOd.binds (ps:=["_law_name_here","_law_cell"]) fun _ _ _ _ _ _ us hl=>(by obtain ⟨_,_,rfl⟩:=UL2 hl;exact rfl)
 have bOi:=FOi.binds (ps:=["self","rows"]) fun _ _ _ _ _ _ us hl=>(by obtain ⟨_,_,rfl⟩:=UL2 hl;exact rfl)
 have bOb:=FOb.binds (ps:=["self"]) fun _ _ _ _ _ _ us hl=>(by obtain ⟨_,rfl⟩:=UL1 hl;exact rfl)
 have bOk:=FOk.binds (ps:=["self","board","number"]) fun _ _ _ _ _ _ us hl=>(by obtain ⟨_,_,_,rfl⟩:=UL3 hl;exact rfl)
 have bOo:=FOo.binds (ps:=["self","key"]) fun _ _ _ _ _ _ us hl=>(by obtain ⟨_,_,rfl⟩:=UL2 hl;exact rfl)
 have bBk:=FBk.binds (ps:=["self","knob"]) fun _ _ _ _ _ _ us hl=>(by obtain ⟨_,_,rfl⟩:=UL2 hl;exact rfl)
 have bOp:=FOp.binds (ps:=["self","knob"]) fun _ _ _ _ _ _ us hl=>(by obtain ⟨_,_,rfl⟩:=UL2 hl;exact rfl)
 have bOw:=FOw.binds (ps:=["self"]) fun _ _ _ _ _ _ us hl=>(by obtain ⟨_,rfl⟩:=UL1 hl;exact rfl)
 have bOr:=FOr.binds (ps:=["self"]) fun _ _ _ _ _ _ us hl=>(by obtain ⟨_,rfl⟩:=UL1 hl;exact rfl)
 have bOq:=FOq.binds (ps:=["self"]) fun _ _ _ _ _ _ us hl=>(by obtain ⟨_,rfl⟩:=UL1 hl;exact rfl)
 have bOe:=FOe.binds (ps:=["self","rank","number"]) fun _ _ _ _ _ _ us hl=>(by obtain ⟨_,_,_,rfl⟩:=UL3 hl;exact rfl)
 have bOv:=FOv.binds (ps:=["self","pipe"]) fun _ _ _ _ _ _ us hl=>(by obtain ⟨_,_,rfl⟩:=UL2 hl;exact rfl)
 have bOu:=FOu.binds (ps:=["self","name"]) fun _ _ _ _ _ _ us hl=>(by obtain ⟨_,_,rfl⟩:=UL2 hl;exact rfl)
 have bOj:=FOj.binds (ps:=["self","name"]) fun _ _ _ _ _ _ us hl=>(by obtain ⟨_,_,rfl⟩:=UL2 hl;exact rfl)
 have bOs:=FOs.binds (ps:=["self","knob"]) fun _ _ _ _ _ _ us hl=>(by obtain ⟨_,_,rfl⟩:=UL2 hl;exact rfl)
 have bOm:=FOm.binds (ps:=["self","knob"]) fun _ _ _ _ _ _ us hl=>(by obtain ⟨_,_,rfl⟩:=UL2 hl;exact rfl)
 have bOy:=FOy.binds (ps:=["self"]) fun _ _ _ _ _ _ us hl=>(by obtain ⟨_,rfl⟩:=UL1 hl;exact rfl)
 have bOz:=FOz.binds (ps:=["self"]) fun _ _ _ _ _ _ us hl=>(by obtain ⟨_,rfl⟩:=UL1 hl;exact rfl)
 have gN:KTup K aN [.str "board",.str "rank",.str "stop",.str "coupler",.str "mute"]:=(⟨_,_,_,uN,rfl,rfl,by show 5<=sizeLine; decide,.cons ⟨_,rfl⟩ (.cons ⟨_,rfl⟩ (.cons ⟨_,rfl⟩ (.cons ⟨_,rfl⟩ (.cons ⟨_,rfl⟩ (.nil)))))⟩)
 have gK:KTup K aK [.str "stop",.str "coupler",.str "mute"]:=(⟨_,_,_,uK,rfl,rfl,by show 3<=sizeLine; decide,.cons ⟨_,rfl⟩ (.cons ⟨_,rfl⟩ (.cons ⟨_,rfl⟩ (.nil)))⟩)
 have gp1:KTup K p1 [.str "new",.str "keys"]:=(⟨_,_,_,up1,rfl,rfl,by show 2<=sizeLine; decide,.cons ⟨_,rfl⟩ (.cons ⟨_,rfl⟩ (.nil))⟩)
 have gp2:KTup K p2 [.str "new",.str "board"]:=(⟨_,_,_,up2,rfl,rfl,by show 2<=sizeLine; decide,.cons ⟨_,rfl⟩ (.cons ⟨_,rfl⟩ (.nil))⟩)
 have gp3:KTup K p3 [.str "new",.str "board"]:=(⟨_,_,_,up3,rfl,rfl,by show 2<=sizeLine; decide,.cons ⟨_,rfl⟩ (.cons ⟨_,rfl⟩ (.nil))⟩)
 have gp4:KTup K p4 [.str "new",.str "board",.str "board",.str "leap"]:=(⟨_,_,_,up4,rfl,rfl,by show 4<=sizeLine; decide,.cons ⟨_,rfl⟩ (.cons ⟨_,rfl⟩ (.cons ⟨_,rfl⟩ (.cons ⟨_,rfl⟩ (.nil))))⟩)
 have gp5:KTup K p5 [.str "new",.str "pipes",.str "wind"]:=(⟨_,_,_,up5,rfl,rfl,by show 3<=sizeLine; decide,.cons ⟨_,rfl⟩ (.cons ⟨_,rfl⟩ (.cons ⟨_,rfl⟩ (.nil)))⟩)
 have gp6:KTup K p6 [.str "rank",.str "shift",.str "low",.str "high"]:=(⟨_,_,_,up6,rfl,rfl,by show 4<=sizeLine; decide,.cons ⟨_,rfl⟩ (.cons ⟨_,rfl⟩ (.cons ⟨_,rfl⟩ (.cons ⟨_,rfl⟩ (.nil))))⟩)
 have gb1:KTup K b1 [.int (1),.int (61)]:=(⟨_,_,_,ub1,rfl,rfl,by show 2<=sizeLine; decide,.cons ⟨_,rfl⟩ (.cons ⟨_,rfl⟩ (.nil))⟩)
 have gb2:KTup K b2 [.int (-60),.int (60)]:=(⟨_,_,_,ub2,rfl,rfl,by show 2<=sizeLine; decide,.cons ⟨_,rfl⟩ (.cons ⟨_,rfl⟩ (.nil))⟩)
 have gb3:KTup K b3 [.int (1),.int (97)]:=(⟨_,_,_,ub3,rfl,rfl,by show 2<=sizeLine; decide,.cons ⟨_,rfl⟩ (.cons ⟨_,rfl⟩ (.nil))⟩)
 have gb4:KTup K b4 [.int (0),.int (1000000000)]:=(⟨_,_,_,ub4,rfl,rfl,by show 2<=sizeLine; decide,.cons ⟨_,rfl⟩ (.cons ⟨_,rfl⟩ (.nil))⟩)
 have gb5:KTup K b5 [.int (-200),.int (200)]:=(⟨_,_,_,ub5,rfl,rfl,by show 2<=sizeLine; decide,.cons ⟨_,rfl⟩ (.cons ⟨_,rfl⟩ (.nil))⟩)
 have gb6:KTup K b6 [.int (0),.int (60)]:=(⟨_,_,_,ub6,rfl,rfl,by show 2<=sizeLine; decide,.cons ⟨_,rfl⟩ (.cons ⟨_,rfl⟩ (.nil))⟩)
 have gb7:KTup K b7 [.int (0),.int (60)]:=(⟨_,_,_,ub7,rfl,rfl,by show 2<=sizeLine; decide,.cons ⟨_,rfl⟩ (.cons ⟨_,rfl⟩ (.nil))⟩)
 have F2:O5 K aB aP aM:=⟨⟨⟨_,qp1,gp1⟩,⟨_,qp2,gp2⟩,⟨_,qp3,gp3⟩,⟨_,qp4,gp4⟩,⟨_,qb1,gb1⟩,⟨_,qb2,gb2⟩,qn,qb,⟨_,qm1⟩,⟨_,qm2⟩,⟨_,qm3⟩,⟨_,qm4⟩⟩,⟨_,qp5,gp5⟩,⟨_,qp6,gp6⟩,⟨_,qb3,gb3⟩,⟨_,qb4,gb4⟩,⟨_,qb5,gb5⟩,⟨_,qb6,gb6⟩,⟨_,qb7,gb7⟩,qr,⟨_,qm5⟩,ql⟩
 have F0:Zj K aB aP aM:=⟨F2,⟨_,qm6⟩⟩
 have T:Txt K w.params mg C aN aK aB aP aM:=⟨PySem.W.mg_none_of X G zlen,PySem.W.mg_none_of X G zisinstance,PySem.W.mg_none_of X G zint,PySem.W.mg_none_of X G zbool,PySem.W.mg_none_of X G zstr,PySem.W.mg_none_of X G zlist,PySem.W.mg_none_of X G ztuple,PySem.W.mg_none_of X G zall,PySem.W.mg_none_of X G zany,PySem.W.mg_none_of X G zsum,PySem.W.mg_none_of X G zrange,PySem.W.mg_none_of X G zzip,PySem.W.mg_none_of X G zenumerate,PySem.W.mg_none_of X G zmax,PySem.W.mg_none_of X G zreversed,PySem.W.mg_none_of X G zset,⟨_,PySem.W.mg_of X G zLET⟩,⟨_,PySem.W.mg_of X G zML⟩,⟨_,PySem.W.mg_of X G zMR⟩,⟨_,PySem.W.mg_of X G zMLn⟩,⟨_,PySem.W.mg_of X G zMB⟩,PySem.W.mg_of X G rN,PySem.W.mg_of X G rK,PySem.W.mg_of X G rB,PySem.W.mg_of X G rP,PySem.W.mg_of X G rM,gN,gK,⟨⟨_,_,dB,kB⟩,oB⟩,⟨⟨_,_,dP,kP⟩,oP⟩,⟨⟨_,_,dM,kM⟩,oM⟩,⟨pg,hd,po,sa⟩,PySem.W.mg_of X G aC,n_row_list_,n_board_list_,n_rank_list_,n_knob_rows_,n_board_numbers_,n_rank_numbers_,n_knob_numbers_,n_key_places_,n_pipe_places_,n_knob_lines_,n_step_sets_⟩
 have N:ao K mg C fWh fMd fNm fRo fTo fWi fPa fHp fCl fIk fSb fIs fWm fHr fIr fCk fNu fCa fPl fLi fSs fMy fSt fCe fLw fMi fNn fBb fMa fLb fLk fLs fLl fLc fLt fLr fLp fPq fKy fPj fSp fNr fNs fOd fOi fOb fOk fOo fBk fOp fOw fOr fOq fOe fOv fOu fOj fOs fOm fOy fOz _ _ _ _ _ _ _ _ _ _ _ _ _ _ _ _ _ _ _ _ _ _ _ _ _ _ _ _ _ _ _ _ _ _ _ _ _ _ _ _ _ _ _ _ _ _ _ _ _ _ _ _ _ _ _ _ _ _ _ _ _:=⟨⟨FWh,bWh,PySem.W.mg_of X G aWh⟩,⟨FMd,bMd,PySem.W.mg_of X G aMd⟩,⟨FNm,bNm,PySem.W.mg_of X G aNm⟩,⟨FRo,bRo,PySem.W.mg_of X G aRo⟩,⟨FTo,bTo,PySem.W.mg_of X G aTo⟩,⟨FWi,bWi,PySem.W.mg_of X G aWi⟩,⟨FPa,bPa,PySem.W.mg_of X G aPa⟩,⟨FHp,bHp,PySem.W.mg_of X G aHp⟩,⟨FCl,bCl,PySem.W.mg_of X G aCl⟩,⟨FIk,bIk,PySem.W.mg_of X G aIk⟩,⟨FSb,bSb,PySem.W.mg_of X G aSb⟩,⟨FIs,bIs,PySem.W.mg_of X G aIs⟩,⟨FWm,bWm,PySem.W.mg_of X G aWm⟩,⟨FHr,bHr,PySem.W.mg_of X G aHr⟩,⟨FIr,bIr,PySem.W.mg_of X G aIr⟩,⟨FCk,bCk,PySem.W.mg_of X G aCk⟩,⟨FNu,bNu,PySem.W.mg_of X G aNu⟩,⟨FCa,bCa,PySem.W.mg_of X G aCa⟩,⟨FPl,bPl,PySem.W.mg_of X G aPl⟩,⟨FLi,bLi,PySem.W.mg_of X G aLi⟩,⟨FSs,bSs,PySem.W.mg_of X G aSs⟩,⟨FMy,bMy,PySem.W.mg_of X G aMy⟩,⟨FSt,bSt,PySem.W.mg_of X G aSt⟩,⟨FCe,bCe,PySem.W.mg_of X G aCe⟩,⟨FLw,bLw,PySem.W.mg_of X G aLw⟩,⟨FMi,bMi,PySem.W.mg_of X G aMi⟩,⟨FNn,bNn,PySem.W.mg_of X G aNn⟩,⟨FBb,bBb,PySem.W.mg_of X G aBb⟩,⟨FMa,bMa,PySem.W.mg_of X G aMa⟩,⟨FLb,bLb,PySem.W.mg_of X G aLb⟩,⟨FLk,bLk,PySem.W.mg_of X G aLk⟩,⟨FLs,bLs,PySem.W.mg_of X G aLs⟩,⟨FLl,bLl,PySem.W.mg_of X G aLl⟩,⟨FLc,bLc,PySem.W.mg_of X G aLc⟩,⟨FLt,bLt,PySem.W.mg_of X G aLt⟩,⟨FLr,bLr,PySem.W.mg_of X G aLr⟩,⟨FLp,bLp,PySem.W.mg_of X G aLp⟩,⟨FPq,bPq,PySem.W.mg_of X G aPq⟩,⟨FKy,bKy,PySem.W.mg_of X G aKy⟩,⟨FPj,bPj,PySem.W.mg_of X G aPj⟩,⟨FSp,bSp,PySem.W.mg_of X G aSp⟩,⟨FNr,bNr,PySem.W.mg_of X G aNr⟩,⟨FNs,bNs,PySem.W.mg_of X G aNs⟩,⟨FOd,bOd,PySem.W.mg_of X G aOd⟩,⟨FOi,bOi,⟨mkC,aOi,iOi,kc⟩⟩,⟨FOb,bOb,⟨aOb,iOb,kOb⟩⟩,⟨FOk,bOk,⟨aOk,iOk,kOk⟩⟩,⟨FOo,bOo,⟨aOo,iOo,kOo⟩⟩,⟨FBk,bBk,⟨aBk,iBk,kBk⟩⟩,⟨FOp,bOp,⟨aOp,iOp,kOp⟩⟩,⟨FOw,bOw,⟨aOw,iOw,kOw⟩⟩,⟨FOr,bOr,⟨aOr,iOr,kOr⟩⟩,⟨FOq,bOq,⟨aOq,iOq,kOq⟩⟩,⟨FOe,bOe,⟨aOe,iOe,kOe⟩⟩,⟨FOv,bOv,⟨aOv,iOv,kOv⟩⟩,⟨FOu,bOu,⟨aOu,iOu,kOu⟩⟩,⟨FOj,bOj,⟨aOj,iOj,kOj⟩⟩,⟨FOs,bOs,⟨aOs,iOs,kOs⟩⟩,⟨FOm,bOm,⟨aOm,iOm,kOm⟩⟩,⟨FOy,bOy,⟨aOy,iOy,kOy⟩⟩,⟨FOz,bOz,⟨aOz,iOz,kOz⟩⟩⟩
 exact ⟨PySem.W.fnOf "law" "law" (Aw H_) (Av H_) (Ac H_) .none kVZ dcZ pmZ anZ cdZ ctZ,fun s v=>.of_eq rfl,fun base _ _=>Tf FZ N T F0⟩
theorem walk {l:PySem.W.OpenLaw} {q:Program} {loose:List Str} {XP:(Str->Option Value)->Heap->Prop} {YP:World->Heap->Prop} {d:DefRec} {K:Params->PySem.W.Frag} (hn:l.most=some 63) (hdf:d.params.defaults=[])
  (hY:∀ (w:World) (h:Heap),YP w h->(K w.params).In h)
  (F:∀ (w:World) (mg:Str->Option Value) (fa:Addr) (h:Heap),(K w.params).In h->h.Ns mainGlobals mg->mg d.name=some (.ref fa) ->
   ∃ fd:FuncData,(∀ (s:Shared) (u:Value),BindsTo s fd ⟨[u],[]⟩ [("_law_script",u)])/\∀ base:Heap,(K w.params).In base->base.Ns mainGlobals mg->BK l.prog w (K w.params) mg base Bm 11 fa fd ["_law_script"] (Nf (K w.params))) :
  PySem.W.WalkO q loose XP YP l.row.toRowW d [] (fun f vs=>PySem.call f vs) :=
 L2.Rg (n:=63) (k:=11) (x:="_law_script") (CX:=fun _=>Bm) (sp:=fun w=>Nf (K w.params)) hn (by decide) hdf ⟨rfl,by decide,by decide⟩ hY F (fun _ _ a ns hl _ hS=>⟨a,ns,rfl,hS,hl,fun _=>rfl⟩) fun _ _ _ _ _ z=>z
end K08
open PySem PySem.W PyProof.Rows
noncomputable def PySem.W.Fast.tw10527560571580628401:Unit:=()
noncomputable def PySem.W.Fast.tw15468636785348151335:Unit:=()
noncomputable def PySem.W.Fast.tw10421177323009654545:Unit:=()
noncomputable def PySem.W.Fast.tw15763861735256079860:Unit:=()
noncomputable def PySem.W.Fast.tw1605953120419848066:Unit:=()
noncomputable def PySem.W.Fast.tw12511533731971045416:Unit:=()
noncomputable def PySem.W.Fast.tw1696836048643744594:Unit:=()
noncomputable def PySem.W.Fast.tw6639174785775723599:Unit:=()
noncomputable def PySem.W.Fast.tw13794369908125365105:Unit:=()
noncomputable def PySem.W.Fast.tw10253013228559579776:Unit:=()
noncomputable def PySem.W.Fast.tw6916390489379478911:Unit:=()
noncomputable def PySem.W.Fast.tw5250256837456446081:Unit:=()
noncomputable def PySem.W.Fast.tw10028621169141217926:Unit:=()
noncomputable def PySem.W.Fast.tw16390950380829074635:Unit:=()
noncomputable def PySem.W.Fast.tw498394966769735280:Unit:=()
noncomputable def PySem.W.Fast.tw8227021691412526227:Unit:=()
noncomputable def PySem.W.Fast.tw5360996627584668100:Unit:=()
noncomputable def PySem.W.Fast.tw14774391601853768562:Unit:=()
noncomputable def PySem.W.Fast.tw15737704419380100880:Unit:=()
noncomputable def PySem.W.Fast.tw13097905351385867762:Unit:=()
noncomputable def PySem.W.Fast.tw16151915724278182589:Unit:=()
noncomputable def PySem.W.Fast.tw10747705151710806480:Unit:=()
noncomputable def PySem.W.Fast.tw16400835945217208290:Unit:=()
noncomputable def PySem.W.Fast.tw8983005889763337438:Unit:=()
noncomputable def PySem.W.Fast.tw18079092525071195756:Unit:=()
noncomputable def PySem.W.Fast.tw12679178936343284026:Unit:=()
noncomputable def PySem.W.Fast.tw7787258238427633173:Unit:=()
noncomputable def PySem.W.Fast.tw3729705395431358911:Unit:=()
noncomputable def PySem.W.Fast.tw11666957917037124620:Unit:=()
noncomputable def PySem.W.Fast.tw14011069738443809519:Unit:=()
noncomputable def PySem.W.Fast.tw7798318792349547947:Unit:=()
noncomputable def PySem.W.Fast.tw2673454362785282133:Unit:=()
noncomputable def PySem.W.Fast.tw2058953750520869463:Unit:=()
noncomputable def PySem.W.Fast.tw4622596055954504251:Unit:=()
noncomputable def PySem.W.Fast.tw9583259220144448057:Unit:=()
noncomputable def PySem.W.Fast.tw13829443231220667998:Unit:=()
noncomputable def PySem.W.Fast.tw287940263537846305:Unit:=()
noncomputable def PySem.W.Fast.tw37186108515468181:Unit:=()
noncomputable def PySem.W.Fast.tw2119685934609258817:Unit:=()
noncomputable def PySem.W.Fast.tw2893673812203749229:Unit:=()
noncomputable def PySem.W.Fast.tw13752719480366506922:Unit:=()
noncomputable def PySem.W.Fast.tw16050234200549804703:Unit:=()
noncomputable def PySem.W.Fast.tw15001642849148189834:Unit:=()
noncomputable def PySem.W.Fast.tw3763859937837518400:Unit:=()
noncomputable def PySem.W.Fast.tw1511291447052033688:Unit:=()
noncomputable def PySem.W.Fast.tw15507682305798369327:Unit:=()
noncomputable def PySem.W.Fast.tw5786020482128094789:Unit:=()
noncomputable def PySem.W.Fast.tw1646691740630544570:Unit:=()
noncomputable def PySem.W.Fast.tw731426538295631413:Unit:=()
noncomputable def PySem.W.Fast.tw133647163305958798:Unit:=()
noncomputable def PySem.W.Fast.tw6619665759179968699:Unit:=()
noncomputable def PySem.W.Fast.tw12222385720861575968:Unit:=()
noncomputable def PySem.W.Fast.tw615237342784364367:Unit:=()
noncomputable def PySem.W.Fast.tw12418102910853426680:Unit:=()
noncomputable def PySem.W.Fast.tw653723009923520118:Unit:=()
noncomputable def PySem.W.Fast.tw7446463204500526828:Unit:=()
noncomputable def PySem.W.Fast.tw7712200866918356188:Unit:=()
noncomputable def PySem.W.Fast.tw9093893679551458115:Unit:=()
noncomputable def PySem.W.Fast.tw2302499746798187039:Unit:=()
noncomputable def PySem.W.Fast.tw16639259606430325021:Unit:=()
noncomputable def PySem.W.Fast.tw10392231637104297951:Unit:=()
noncomputable def PySem.W.Fast.tw1416257234740520415:Unit:=()
noncomputable def PySem.W.Fast.tw10601201189298682468:Unit:=()
noncomputable def PySem.W.Fast.tw15682370047265929626:Unit:=()
noncomputable def PySem.W.Fast.tw12335575828742677490:Unit:=()
noncomputable def PySem.W.Fast.tw14426875519474582863:Unit:=()
noncomputable def PySem.W.Fast.tw12244122969966781383:Unit:=()
noncomputable def PySem.W.Fast.tw18307756940321003137:Unit:=()
noncomputable def PySem.W.Fast.tw12845410420933758118:Unit:=()
noncomputable def PySem.W.Fast.tw10511444043035106374:Unit:=()
noncomputable def PySem.W.Fast.tw12552268453475023413:Unit:=()
noncomputable def PySem.W.Fast.tw722886564438470033:Unit:=()
noncomputable def PySem.W.Fast.tw2935963561970111465:Unit:=()
noncomputable def PySem.W.Fast.tw12987962397192502377:Unit:=()
noncomputable def PySem.W.Fast.tw16903760358787379664:Unit:=()
noncomputable def PySem.W.Fast.tw2623782169390557985:Unit:=()
noncomputable def PySem.W.Fast.tw5624810285560400006:Unit:=()
noncomputable def PySem.W.Fast.tw9847165815188890125:Unit:=()
noncomputable def PySem.W.Fast.tw19181221154028004:Unit:=()
noncomputable def PySem.W.Fast.tw13087598812559902886:Unit:=()
set_option maxRecDepth 100000 in
set_option maxHeartbeats 0 in
theorem PySem.Challenge.cw_windchest_k08_keys_and_pipes_holds : PySem.Challenge.rw_windchest_k08_keys_and_pipes.Holds := by
 w_on; o_law; k_head; (case hw=>w_witness2)
 k_fill
 refine K08.walk (l:=PySem.Challenge.rw_windchest_k08_keys_and_pipes) rfl rfl (fun w h Y=>PySem.W.kIn_of Y) ?F
 case F =>
  intro w mg fa h KX G hmg
  refine' K08.UL KX G hmg ?aWh ?lWh ?cWh ?kWh ?aMd ?lMd ?cMd ?kMd ?aNm ?lNm ?cNm ?kNm ?aRo ?lRo ?cRo ?kRo ?aTo ?lTo ?cTo ?kTo ?aWi ?lWi ?cWi ?kWi ?aPa ?lPa ?cPa ?kPa ?aHp ?lHp ?cHp ?kHp ?aCl ?lCl ?cCl ?kCl ?aIk ?lIk ?cIk ?kIk ?aSb ?lSb ?cSb ?kSb ?aIs ?lIs ?cIs ?kIs ?aWm ?lWm ?cWm ?kWm ?aHr ?lHr ?cHr ?kHr ?aIr ?lIr ?cIr ?kIr ?aCk ?lCk ?cCk ?kCk ?aNu ?lNu ?cNu ?kNu ?aCa ?lCa ?cCa ?kCa ?aPl ?lPl ?cPl ?kPl ?aLi ?lLi ?cLi ?kLi ?aSs ?lSs ?cSs ?kSs ?aMy ?lMy ?cMy ?kMy ?aSt ?lSt ?cSt ?kSt ?aCe ?lCe ?cCe ?kCe ?aLw ?lLw ?cLw ?kLw ?aMi ?lMi ?cMi ?kMi ?aNn ?lNn ?cNn ?kNn ?aBb ?lBb ?cBb ?kBb ?aMa ?lMa ?cMa ?kMa ?aLb ?lLb ?cLb ?kLb ?aLk ?lLk ?cLk ?kLk ?aLs ?lLs ?cLs ?kLs ?aLl ?lLl ?cLl ?kLl ?aLc ?lLc ?cLc ?kLc ?aLt ?lLt ?cLt ?kLt ?aLr ?lLr ?cLr ?kLr ?aLp ?lLp ?cLp ?kLp ?aPq ?lPq ?cPq ?kPq ?aKy ?lKy ?cKy ?kKy ?aPj ?lPj ?cPj ?kPj ?aSp ?lSp ?cSp ?kSp ?aNr ?lNr ?cNr ?kNr ?aNs ?lNs ?cNs ?kNs ?aOd ?lOd ?cOd ?kOd ?aZ ?lZ ?cZ ?kZ ?aC ?aOi ?iOi ?lOi ?cOi ?kOi ?aOb ?iOb ?lOb ?cOb ?kOb ?aOk ?iOk ?lOk ?cOk ?kOk ?aOo ?iOo ?lOo ?cOo ?kOo ?aBk ?iBk ?lBk ?cBk ?kBk ?aOp ?iOp ?lOp ?cOp ?kOp ?aOw ?iOw ?lOw ?cOw ?kOw ?aOr ?iOr ?lOr ?cOr ?kOr ?aOq ?iOq ?lOq ?cOq ?kOq ?aOe ?iOe ?lOe ?cOe ?kOe ?aOv ?iOv ?lOv ?cOv ?kOv ?aOu ?iOu ?lOu ?cOu ?kOu ?aOj ?iOj ?lOj ?cOj ?kOj ?aOs ?iOs ?lOs ?cOs ?kOs ?aOm ?iOm ?lOm ?cOm ?kOm ?aOy ?iOy ?lOy ?cOy ?kOy ?aOz ?iOz ?lOz ?cOz ?kOz ?pg ?hd ?po ?sa ?mkC ?kc ?n_row_list_ ?n_board_list_ ?n_rank_list_ ?n_knob_rows_ ?n_board_numbers_ ?n_rank_numbers_ ?n_knob_numbers_ ?n_key_places_ ?n_pipe_places_ ?n_knob_lines_ ?n_step_sets_ ?zlen ?zisinstance ?zint ?zbool ?zstr ?zlist ?ztuple ?zall ?zany ?zsum ?zrange ?zzip ?zenumerate ?zmax ?zreversed ?zset ?zLET ?zML ?zMR ?zMLn ?zMB ?rN ?rK ?rB ?rP ?rM ?dB ?kB ?oB ?dP ?kP ?oP ?dM ?kM ?oM ?qp1 ?qp2 ?qp3 ?qp4 ?qp5 ?qp6 ?qb1 ?qb2 ?qb3 ?qb4 ?qb5 ?qb6 ?qb7 ?qn ?qb ?qr ?ql ?qm1 ?qm2 ?qm3 ?qm4 ?qm5 ?qm6 ?uN ?uK ?up1 ?up2 ?up3 ?up4 ?up5 ?up6 ?ub1 ?ub2 ?ub3 ?ub4 ?ub5 ?ub6 ?ub7
  (case aWh=>k_is)
  (case lWh=>k_is)
  (case cWh=>k_is)
  (case kWh=>k_is)
  (case aMd=>k_is)
  (case lMd=>k_is)
  (case cMd=>k_is)
  (case kMd=>k_is)
  (case aNm=>k_is)
  (case lNm=>k_is)
  (case cNm=>k_is)
  (case kNm=>k_is)
  (case aRo=>k_is)
  (case lRo=>k_is)
  (case cRo=>k_is)
  (case kRo=>k_is)
  (case aTo=>k_is)
  (case lTo=>k_is)
  (case cTo=>k_is)
  (case kTo=>k_is)
  (case aWi=>k_is)
  (case lWi=>k_is)
  (case cWi=>k_is)
  (case kWi=>k_is)
  (case aPa=>k_is)
  (case lPa=>k_is)
  (case cPa=>k_is)
  (case kPa=>k_is)
  (case aHp=>k_is)
  (case lHp=>k_is)
  (case cHp=>k_is)
  (case kHp=>k_is)
  (case aCl=>k_is)
  (case lCl=>k_is)
  (case cCl=>k_is)
  (case kCl=>k_is)
  (case aIk=>k_is)
  (case lIk=>k_is)
  (case cIk=>k_is)
  (case kIk=>k_is)
  (case aSb=>k_is)
  (case lSb=>k_is)
  (case cSb=>k_is)
  (case kSb=>k_is)
  (case aIs=>k_is)
  (case lIs=>k_is)
  (case cIs=>k_is)
  (case kIs=>k_is)
  (case aWm=>k_is)
  (case lWm=>k_is)
  (case cWm=>k_is)
  (case kWm=>k_is)
  (case aHr=>k_is)
  (case lHr=>k_is)
  (case cHr=>k_is)
  (case kHr=>k_is)
  (case aIr=>k_is)
  (case lIr=>k_is)
  (case cIr=>k_is)
  (case kIr=>k_is)
  (case aCk=>k_is)
  (case lCk=>k_is)
  (case cCk=>k_is)
  (case kCk=>k_is)
  (case aNu=>k_is)
  (case lNu=>k_is)
  (case cNu=>k_is)
  (case kNu=>k_is)
  (case aCa=>k_is)
  (case lCa=>k_is)
  (case cCa=>k_is)
  (case kCa=>k_is)
  (case aPl=>k_is)
  (case lPl=>k_is)
  (case cPl=>k_is)
  (case kPl=>k_is)
  (case aLi=>k_is)
  (case lLi=>k_is)
  (case cLi=>k_is)
  (case kLi=>k_is)
  (case aSs=>k_is)
  (case lSs=>k_is)
  (case cSs=>k_is)
  (case kSs=>k_is)
  (case aMy=>k_is)
  (case lMy=>k_is)
  (case cMy=>k_is)
  (case kMy=>k_is)
  (case aSt=>k_is)
  (case lSt=>k_is)
  (case cSt=>k_is)
  (case kSt=>k_is)
  (case aCe=>k_is)
  (case lCe=>k_is)
  (case cCe=>k_is)
  (case kCe=>k_is)
  (case aLw=>k_is)
  (case lLw=>k_is)
  (case cLw=>k_is)
  (case kLw=>k_is)
  (case aMi=>k_is)
  (case lMi=>k_is)
  (case cMi=>k_is)
  (case kMi=>k_is)
  (case aNn=>k_is)
  (case lNn=>k_is)
  (case cNn=>k_is)
  (case kNn=>k_is)
  (case aBb=>k_is)
  (case lBb=>k_is)
  (case cBb=>k_is)
  (case kBb=>k_is)
  (case aMa=>k_is)
  (case lMa=>k_is)
  (case cMa=>k_is)
  (case kMa=>k_is)
  (case aLb=>k_is)
  (case lLb=>k_is)
  (case cLb=>k_is)
  (case kLb=>k_is)
  (case aLk=>k_is)
  (case lLk=>k_is)
  (case cLk=>k_is)
  (case kLk=>k_is)
  (case aLs=>k_is)
  (case lLs=>k_is)
  (case cLs=>k_is)
  (case kLs=>k_is)
  (case aLl=>k_is)
  (case lLl=>k_is)
  (case cLl=>k_is)
  (case kLl=>k_is)
  (case aLc=>k_is)
  (case lLc=>k_is)
  (case cLc=>k_is)
  (case kLc=>k_is)
  (case aLt=>k_is)
  (case lLt=>k_is)
  (case cLt=>k_is)
  (case kLt=>k_is)
  (case aLr=>k_is)
  (case lLr=>k_is)
  (case cLr=>k_is)
  (case kLr=>k_is)
  (case aLp=>k_is)
  (case lLp=>k_is)
  (case cLp=>k_is)
  (case kLp=>k_is)
  (case aPq=>k_is)
  (case lPq=>k_is)
  (case cPq=>k_is)
  (case kPq=>k_is)
  (case aKy=>k_is)
  (case lKy=>k_is)
  (case cKy=>k_is)
  (case kKy=>k_is)
  (case aPj=>k_is)
  (case lPj=>k_is)
  (case cPj=>k_is)
  (case kPj=>k_is)
  (case aSp=>k_is)
  (case lSp=>k_is)
  (case cSp=>k_is)
  (case kSp=>k_is)
  (case aNr=>k_is)
  (case lNr=>k_is)
  (case cNr=>k_is)
  (case kNr=>k_is)
  (case aNs=>k_is)
  (case lNs=>k_is)
  (case cNs=>k_is)
  (case kNs=>k_is)
  (case aOd=>k_is)
  (case lOd=>k_is)
  (case cOd=>k_is)
  (case kOd=>k_is)
  (case aZ=>k_is)
  (case lZ=>k_is)
  (case cZ=>k_is)
  (case kZ=>k_is)
  (case aC=>k_is)
  (case aOi=>k_is)
  (case iOi=>k_is)
  (case lOi=>k_is)
  (case cOi=>k_is)
  (case kOi=>k_is)
  (case aOb=>k_is)
  (case iOb=>k_is)
  (case lOb=>k_is)
  (case cOb=>k_is)
  (case kOb=>k_is)
  (case aOk=>k_is)
  (case iOk=>k_is)
  (case lOk=>k_is)
  (case cOk=>k_is)
  (case kOk=>k_is)
  (case aOo=>k_is)
  (case iOo=>k_is)
  (case lOo=>k_is)
  (case cOo=>k_is)
  (case kOo=>k_is)
  (case aBk=>k_is)
  (case iBk=>k_is)
  (case lBk=>k_is)
  (case cBk=>k_is)
  (case kBk=>k_is)
  (case aOp=>k_is)
  (case iOp=>k_is)
  (case lOp=>k_is)
  (case cOp=>k_is)
  (case kOp=>k_is)
  (case aOw=>k_is)
  (case iOw=>k_is)
  (case lOw=>k_is)
  (case cOw=>k_is)
  (case kOw=>k_is)
  (case aOr=>k_is)
  (case iOr=>k_is)
  (case lOr=>k_is)
  (case cOr=>k_is)
  (case kOr=>k_is)
  (case aOq=>k_is)
  (case iOq=>k_is)
  (case lOq=>k_is)
  (case cOq=>k_is)
  (case kOq=>k_is)
  (case aOe=>k_is)
  (case iOe=>k_is)
  (case lOe=>k_is)
  (case cOe=>k_is)
  (case kOe=>k_is)
  (case aOv=>k_is)
  (case iOv=>k_is)
  (case lOv=>k_is)
  (case cOv=>k_is)
  (case kOv=>k_is)
  (case aOu=>k_is)
  (case iOu=>k_is)
  (case lOu=>k_is)
  (case cOu=>k_is)
  (case kOu=>k_is)
  (case aOj=>k_is)
  (case iOj=>k_is)
  (case lOj=>k_is)
  (case cOj=>k_is)
  (case kOj=>k_is)
  (case aOs=>k_is)
  (case iOs=>k_is)
  (case lOs=>k_is)
  (case cOs=>k_is)
  (case kOs=>k_is)
  (case aOm=>k_is)
  (case iOm=>k_is)
  (case lOm=>k_is)
  (case cOm=>k_is)
  (case kOm=>k_is)
  (case aOy=>k_is)
  (case iOy=>k_is)
  (case lOy=>k_is)
  (case cOy=>k_is)
  (case kOy=>k_is)
  (case aOz=>k_is)
  (case iOz=>k_is)
  (case lOz=>k_is)
  (case cOz=>k_is)
  (case kOz=>k_is)
  (case pg=>k_is)
  (case hd=>k_is)
  (case po=>k_is)
  (case sa=>k_is)
  (case mkC=>k_is)
  (case kc=>k_is)
  (case n_row_list_=>k_is)
  (case n_board_list_=>k_is)
  (case n_rank_list_=>k_is)
  (case n_knob_rows_=>k_is)
  (case n_board_numbers_=>k_is)
  (case n_rank_numbers_=>k_is)
  (case n_knob_numbers_=>k_is)
  (case n_key_places_=>k_is)
  (case n_pipe_places_=>k_is)
  (case n_knob_lines_=>k_is)
  (case n_step_sets_=>k_is)
  (case zlen=>k_is)
  (case zisinstance=>k_is)
  (case zint=>k_is)
  (case zbool=>k_is)
  (case zstr=>k_is)
  (case zlist=>k_is)
  (case ztuple=>k_is)
  (case zall=>k_is)
  (case zany=>k_is)
  (case zsum=>k_is)
  (case zrange=>k_is)
  (case zzip=>k_is)
  (case zenumerate=>k_is)
  (case zmax=>k_is)
  (case zreversed=>k_is)
  (case zset=>k_is)
  (case zLET=>k_is)
  (case zML=>k_is)
  (case zMR=>k_is)
  (case zMLn=>k_is)
  (case zMB=>k_is)
  (case rN=>k_is)
  (case rK=>k_is)
  (case rB=>k_is)
  (case rP=>k_is)
  (case rM=>k_is)
  (case dB=>k_is)
  (case kB=>k_keys)
  (case oB=>decide)
  (case dP=>k_is)
  (case kP=>k_keys)
  (case oP=>decide)
  (case dM=>k_is)
  (case kM=>k_keys)
  (case oM=>decide)
  (case qp1=>k_is)
  (case qp2=>k_is)
  (case qp3=>k_is)
  (case qp4=>k_is)
  (case qp5=>k_is)
  (case qp6=>k_is)
  (case qb1=>k_is)
  (case qb2=>k_is)
  (case qb3=>k_is)
  (case qb4=>k_is)
  (case qb5=>k_is)
  (case qb6=>k_is)
  (case qb7=>k_is)
  (case qn=>k_is)
  (case qb=>k_is)
  (case qr=>k_is)
  (case ql=>k_is)
  (case qm1=>k_is)
  (case qm2=>k_is)
  (case qm3=>k_is)
  (case qm4=>k_is)
  (case qm5=>k_is)
  (case qm6=>k_is)
  (case uN=>k_is)
  (case uK=>k_is)
  (case up1=>k_is)
  (case up2=>k_is)
  (case up3=>k_is)
  (case up4=>k_is)
  (case up5=>k_is)
  (case up6=>k_is)
  (case ub1=>k_is)
  (case ub2=>k_is)
  (case ub3=>k_is)
  (case ub4=>k_is)
  (case ub5=>k_is)
  (case ub6=>k_is)
  (case ub7=>k_is)
end PartK08z
