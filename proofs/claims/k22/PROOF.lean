import PyProof.Rows.All
import Wide.All
import OpenK.AllK
import Wide.FinOn
import Lean
import PyProof.EqAt
import PyProof.EqKinds
import PyProof.TupleCall
import PyProof.ZipIter
import PyProof.WalksEnum
import PyProof.EnumMake
import PyProof.NeKinds
import KE.KDictList
import PyProof.Rows.SetFrom
import PyProof.StrWalks
import PyProof.CollectWalk
import PyProof.Rows.SortWalk
import PyProof.Rows.BitMore
import PyProof.Rows.IntCalls
import KE.KRevIter
import PyProof.SetRoads
import OpenK.KTop
import PyProof.Rows.StrWeight2
import PyProof.SumWalk
import PyProof.SliceList
import PyProof.Rows.StrClose
import PyProof.Rows.CatFin
import KE.KUnpack
import PySem.Challenge.RW_windchest_k22_pipes_that_sound
local macro_rules | `(tactic| omega) => `(tactic| lia)
set_option Elab.async false
set_option linter.all false
set_option maxRecDepth 100000
namespace L2
open PySem PySem.Spec PyProof.Rows
noncomputable abbrev Key:=Sum Int Str
noncomputable def JX:Key->Value->Bool
 | .inl k,v=>Value.isInt k v
 | .inr x,v=>Value.isStrOf x v
noncomputable def iY (w:World):Key->Int
 | .inl k=>hashInt k
 | .inr x=>hashStr w x
theorem CQ:∀ {k:Key} {v:Value},JX k v=true->(∃ i t,k=Sum.inl i/\v=Value.int i t) \/ (∃ x t,k=Sum.inr x/\v=Value.str x t)
 | .inl i,v,h=>by
  obtain ⟨t,e⟩:=Value.isInt_shape (k:=i) (v:=v) h
  exact .inl ⟨i,t,rfl,e⟩
 | .inr x,v,h=>by
  obtain ⟨t,e⟩:=Value.isStrOf_shape (x:=x) (v:=v) h
  exact .inr ⟨x,t,rfl,e⟩
theorem RD (i:Int) (t:Tok):JX (.inl i) (.int i t)=true:=by simp [JX,Value.isInt]
theorem RJ (x:Str) (t:Tok):JX (.inr x) (.str x t)=true:=by simp [JX,Value.isStrOf]
theorem Wt (a b:Int):decide ((Sum.inl a:Key)=Sum.inl b)=(a == b):=by
 by_cases e:a=b
 ·subst e; simp
 ·have h:¬ (Sum.inl a:Key)=Sum.inl b:=fun q=>e (Sum.inl.inj q)
  rw [decide_eq_false h]
  exact (beq_eq_false_iff_ne.mpr e).symm
theorem Yb (a b:Str):decide ((Sum.inr a:Key)=Sum.inr b)=decide (a=b):=by
 by_cases e:a=b
 ·subst e; simp
 ·have h:¬ (Sum.inr a:Key)=Sum.inr b:=fun q=>e (Sum.inr.inj q)
  rw [decide_eq_false h,decide_eq_false e]
theorem Xb (a:Int) (b:Str):decide ((Sum.inl a:Key)=Sum.inr b)=false:=decide_eq_false (fun q=>nomatch q)
theorem Xa (a:Str) (b:Int):decide ((Sum.inr a:Key)=Sum.inl b)=false:=decide_eq_false (fun q=>nomatch q)
noncomputable def CW (prog:Program) (w:World):PySem.KeyKind prog w Key where
 is:=JX
 hash:=iY w
 inj:=fun v a b ha hb=>by
  rcases CQ ha with ⟨i,t,rfl,rfl⟩ | ⟨x,t,rfl,rfl⟩
  ·rcases CQ hb with ⟨j,u,rfl,e⟩ | ⟨y,u,rfl,e⟩
   ·injection e with e1 _; rw [e1]
   ·exact nomatch e
  ·rcases CQ hb with ⟨j,u,rfl,e⟩ | ⟨y,u,rfl,e⟩
   ·exact nomatch e
   ·injection e with e1 _; rw [e1]
 byValue:=fun k v h=>by
  rcases CQ h with ⟨i,t,rfl,rfl⟩ | ⟨x,t,rfl,rfl⟩ <;> rfl
 pyHash:=fun hv h=>by
  rcases CQ hv with ⟨i,t,rfl,rfl⟩ | ⟨x,t,rfl,rfl⟩
  ·exact wpAny_pyHash_int h
  ·exact wpAny_pyHash_str h
 eqBool:=fun hu hv h=>by
  rcases CQ hu with ⟨i,t,rfl,rfl⟩ | ⟨x,t,rfl,rfl⟩
  ·rcases CQ hv with ⟨j,u,rfl,rfl⟩ | ⟨y,u,rfl,rfl⟩
   ·rw [Wt] at h; exact wpAny_eqBool_int h
   ·rw [Xb] at h; exact SeqAt.EqAt.int_str i t y u _ _ _ _ h
  ·rcases CQ hv with ⟨j,u,rfl,rfl⟩ | ⟨y,u,rfl,rfl⟩
   ·rw [Xa] at h; exact SeqAt.EqAt.str_int x t j u _ _ _ _ h
   ·rw [Yb] at h; exact wpAny_eqBool_str h
 «strs»:=fun k x t v h=>by
  rcases CQ h with ⟨i,u,rfl,e⟩ | ⟨y,u,rfl,e⟩
  ·exact nomatch e
  ·injection e with e1 _
   subst e1
   cases v <;> rfl
theorem Mf (prog:Program) (w:World) (i:Int) (t:Tok):(CW prog w).is (.inl i) (.int i t)=true:=RD i t
theorem MN (prog:Program) (w:World) (x:Str) (t:Tok):(CW prog w).is (.inr x) (.str x t)=true:=RJ x t
end L2
namespace L2
open PySem PySem.Spec PyProof.Rows
inductive V where
 | non | bl (b:Bool) | int (i:Int) | str (x:Str) | byt (b:Array UInt8) | flt (b:UInt64) | ref (a:Addr) | ty (n:String)
 deriving DecidableEq
noncomputable def RelV:V->Value->Prop
 | .non,u=>u=Value.none
 | .bl b,u=>u=Value.bool b
 | .int i,u=>∃ t,u=Value.int i t
 | .str x,u=>∃ t,u=Value.str x t
 | .byt b,u=>∃ t,u=Value.bytes b t
 | .flt b,u=>∃ t,u=Value.float b t
 | .ref a,u=>u=Value.ref a
 | .ty n,u=>u=Value.type n
noncomputable abbrev Vals:List V->List Value->Prop:=Paired RelV
theorem Vals.length {xs:List V} {us:List Value} (r:Vals xs us):xs.length=us.length:=Paired.length r
theorem Vals.get:∀ {xs:List V} {us:List Value} {i:Nat} {x:V},Vals xs us->xs[i]? = some x->∃ u,us[i]? = some u/\RelV x u
 | _,_,_,_,.nil,e=>by simp at e
 | _,_,0,_,.cons r _,e=>by simp at e; subst e; exact ⟨_,rfl,r⟩
 | _,_,i+1,x,.cons _ t,e=>by
  obtain ⟨u,h1,h2⟩:=Vals.get (i:=i) (x:=x) t (by simpa using e)
  exact ⟨u,by simpa using h1,h2⟩
theorem Vals.set {x:V} {u:Value} (r:RelV x u):∀ {xs:List V} {us:List Value} (i:Nat),Vals xs us->Vals (xs.set i x) (us.set i u)
 | _,_,_,.nil=>.nil
 | _,_,0,.cons _ t=>.cons r t
 | _,_,i+1,.cons q t=>.cons q (Vals.set r i t)
theorem Vals.append:∀ {xs ys:List V} {us ws:List Value},Vals xs us->Vals ys ws->Vals (xs++ys) (us++ws)
 | _,_,_,_,.nil,s=>s
 | _,_,_,_,.cons r t,s=>.cons r (Vals.append t s)
theorem Vals.take:∀ {xs:List V} {us:List Value} (n:Nat),Vals xs us->Vals (xs.take n) (us.take n)
 | _,_,0,_=>.nil
 | _,_,_+1,.nil=>.nil
 | _,_,n+1,.cons r t=>.cons r (Vals.take n t)
theorem Vals.drop:∀ {xs:List V} {us:List Value} (n:Nat),Vals xs us->Vals (xs.drop n) (us.drop n)
 | _,_,0,r=>r
 | _,_,_+1,.nil=>.nil
 | _,_,n+1,.cons _ t=>Vals.drop n t
noncomputable def GK:Option V->Option Value->Prop
 | some v,some u=>RelV v u
 | none,none=>True
 | _,_=>False
noncomputable def KV {κ:Type}:List (κ × V)->List (κ × Value)->Prop:=Paired fun (p:κ × V) (q:κ × Value)=>p.1=q.1/\RelV p.2 q.2
noncomputable def kV:Key->V
 | .inl i=>.int i
 | .inr x=>.str x
inductive HO where
 | lst (xs:List V)
 | tup (xs:List V)
 | dK (kvs:List (Key × V)) | dT (kvs:List (List Key × V))
 | set (S:Int->Bool) (n:Nat)
 | ins (C dx:Addr) (fs:List (Str × V))
 | own (x:Addr)
 | xd (fs:List (Str × V))
 | met (f x:Addr)
 | rng (lo hi:Int)
 | frz (o:Obj) (u:HO)
 | tbl (ps:Array Value)
 | ext (φ:Heap->Prop)
noncomputable abbrev Hp:=Addr->Option HO
noncomputable def upd (H:Hp) (a:Addr) (o:HO):Hp:=fun b=>if b=a then some o else H b
theorem Ag {H:Hp} {a:Addr} {o:HO}:upd H a o a=some o:=by unfold upd; rw [if_pos rfl]
theorem BP {H:Hp} {a b:Addr} {o:HO} (h:b ≠ a):upd H a o b=H b:=by unfold upd; rw [if_neg h]
theorem WK {H:Hp} {a b:Addr} {o u:HO} (h:H a=some o) (h':H b=some u) (d:o ≠ u):a ≠ b:=by
 intro e; subst e; rw [h] at h'; exact d (Option.some.inj h')
theorem BL {H:Hp} {a b:Addr} {o:HO} (h:H a=some o) (h':H b=none):a ≠ b:=by
 intro e; subst e; rw [h] at h'; cases h'
section
variable (P:Program) (w:World)
noncomputable def CJ (H:Hp) (h:Heap) (a:Addr):HO->Prop
 | .lst xs=>xs.length<=sizeLine/\∃ (its:List Value) (n:Nat),Vals xs its/\h.get? a=some { cls:=.type "list",data:=.seq its.toArray n }
 | .tup xs=>xs.length<=sizeLine/\∃ its:List Value,Vals xs its/\IsTup h a its.toArray
 | .dK kvs=>kvs.length<=sizeLine/\(a == sysModules)=false/\∃ vs,KV kvs vs/\h.DictOf (CW P w) a vs
 | .dT kvs=>kvs.length<=sizeLine/\(a == sysModules)=false/\∃ xs:List (List Key × Addr × Value),
   Paired (fun (p:List Key × V) (q:List Key × Addr × Value)=>p.1=q.1/\H q.2.1=some (.tup (p.1.map kV))/\RelV p.2 q.2.2) kvs xs /\
   ∃ o es ep,h.get? a=some o/\o.ExactDict/\o.data=.dict es ep/\es.toList=xs.map (entryOfKey (tupleKind (CW P w)))/\(xs.map (·.1)).Nodup
 | .set S n=>h.SetOf (intKind P w) a S n
 | .ins C dx fs=>H dx=some (.own a)/\fs.length<=1000/\dx ≠ a/\h.get? a=some (PySem.W.instObj C dx) /\
   ∃ mA,h.Ns1 dx mA/\(∀ f,GK (fs.lookup f) (mA f))/\PySem.Within mA (fs.map (·.1))
 | .own _=>∃ o,h.get? a=some o
 | .xd fs=>∃ mA,h.Ns1 a mA/\∀ f,GK (fs.lookup f) (mA f)
 | .rng lo hi=>∃ t u v,h.get? a=some { cls:=.type "range",data:=.fields #[.int lo t,.int hi u,.int 1 v] }
 | .frz o u=>h.get? a=some o/\CJ H h a u
 | .tbl ps=>h.get? a=some { cls:=.none,data:=.fields ps }
 | .met f x=>h.get? a=some (PySem.W.methodObj (.ref f) (.ref x))
 | .ext φ=>φ h/\(∃ o,h.get? a=some o)/\∀ h1 h2:Heap,φ h1->(∀ o,h1.get? a=some o->h2.get? a=some o)->φ h2
noncomputable def Ha (H:Hp) (h:Heap):Prop:=∀ a o,H a=some o->CJ P w H h a o
end
section
variable {P:Program} {w:World} {H H':Hp} {h h':Heap} {a:Addr} {o:HO}
theorem CJ.lt (x:CJ P w H h a o):a<h.objs.size:=by
 cases o with
 | lst xs=>obtain ⟨_,_,_,_,e⟩:=x; exact Heap.lt_size e
 | tup xs=>obtain ⟨_,_,_,p⟩:=x; exact p.lt
 | dK kvs=>obtain ⟨_,_,_,_,o,_,_,e,_⟩:=x; exact Heap.lt_size e
 | dT kvs=>obtain ⟨_,_,_,_,o,_,_,e,_⟩:=x; exact Heap.lt_size e
 | set S n=>obtain ⟨o,_,_,_,e,_⟩:=x; exact Heap.lt_size e
 | ins C dx fs=>obtain ⟨_,_,_,e,_⟩:=x; exact Heap.lt_size e
 | own y=>obtain ⟨_,e⟩:=x; exact Heap.lt_size e
 | xd fs=>obtain ⟨_,⟨_,_,_,e,_⟩,_⟩:=x; exact Heap.lt_size e
 | rng lo hi=>obtain ⟨_,_,_,e⟩:=x; exact Heap.lt_size e
 | frz ob u=>obtain ⟨e,_⟩:=x; exact Heap.lt_size e
 | tbl ps=>exact Heap.lt_size (show h.get? a=some _ from x)
 | met f y=>exact Heap.lt_size (show h.get? a=some _ from x)
 | ext φ=>obtain ⟨_,⟨_,e⟩,_⟩:=x; exact Heap.lt_size e
theorem Paired.Ek {α β:Type} {F G:α->β->Prop}:∀ {l₁:List α} {l₂:List β},Paired F l₁ l₂->(∀ a b,F a b->G a b)->Paired G l₁ l₂
 | _,_,.nil,_=>.nil
 | _,_,.cons r t,f=>.cons (f _ _ r) (Paired.Ek t f)
theorem CJ.stay (x:CJ P w H h a o) (k:∀ b u,(b=a \/ H b=some (.own a))->h.get? b=some u->h'.get? b=some u)
  (ho:∀ b,H b=some (.own a)->H' b=some (.own a)) (ht:∀ b xs,H b=some (.tup xs)->H' b=some (.tup xs)):CJ P w H' h' a o:=by
 induction o with
 | lst xs=>obtain ⟨z,its,n,r,e⟩:=x; exact ⟨z,its,n,r,k _ _ (.inl rfl) e⟩
 | tup xs=>obtain ⟨z,its,r,ob,e,c⟩:=x; exact ⟨z,its,r,ob,k _ _ (.inl rfl) e,c⟩
 | dK kvs=>obtain ⟨z,y,vs,r,ob,es,ep,e,c⟩:=x; exact ⟨z,y,vs,r,ob,es,ep,k _ _ (.inl rfl) e,c⟩
 | dT kvs =>
  obtain ⟨z,y,xs,r,ob,es,ep,e,c⟩:=x
  exact ⟨z,y,xs,Paired.Ek r fun p q z=>⟨z.1,ht _ _ z.2.1,z.2.2⟩,ob,es,ep,k _ _ (.inl rfl) e,c⟩
 | set S n=>obtain ⟨ob,es,ep,t,e,c⟩:=x; exact ⟨ob,es,ep,t,k _ _ (.inl rfl) e,c⟩
 | ins C dx fs =>
  obtain ⟨d,z,ne,e,mA,⟨od,es,ep,e2,c⟩,r⟩:=x
  exact ⟨ho _ d,z,ne,k _ _ (.inl rfl) e,mA,⟨od,es,ep,k _ _ (.inr d) e2,c⟩,r⟩
 | own y=>obtain ⟨ob,e⟩:=x; exact ⟨ob,k _ _ (.inl rfl) e⟩
 | xd fs=>obtain ⟨mA,⟨od,es,ep,e,c⟩,r⟩:=x; exact ⟨mA,⟨od,es,ep,k _ _ (.inl rfl) e,c⟩,r⟩
 | rng lo hi=>obtain ⟨t,u,v,e⟩:=x; exact ⟨t,u,v,k _ _ (.inl rfl) e⟩
 | frz ob u ih=>obtain ⟨e,q⟩:=x; exact ⟨k _ _ (.inl rfl) e,ih q⟩
 | tbl ps =>
  have e:h.get? a=some { cls:=.none,data:=.fields ps }:=x
  show h'.get? a=some { cls:=.none,data:=.fields ps }
  exact k a _ (.inl rfl) e
 | met f y =>
  have e:h.get? a=some (PySem.W.methodObj (.ref f) (.ref y)):=x
  show h'.get? a=some (PySem.W.methodObj (.ref f) (.ref y))
  exact k a _ (.inl rfl) e
 | ext φ=>obtain ⟨p,⟨o,e⟩,st⟩:=x; exact ⟨st _ _ p fun o q=>k _ _ (.inl rfl) q,⟨o,k _ _ (.inl rfl) e⟩,st⟩
theorem Ha.lt (x:Ha P w H h) (e:H a=some o):a<h.objs.size:=(x a o e).lt
theorem Ha.fresh (x:Ha P w H h) (e:h.objs.size<=a):H a=none:=by
 cases q:H a with
 | none=>rfl
 | some u=>exact absurd (Nat.lt_of_lt_of_le (x.lt q) e) (Nat.lt_irrefl _)
theorem Ha.kept (x:Ha P w H h) (k:∀ b u,h.get? b=some u->h'.get? b=some u):Ha P w H h':=fun a o e =>
 (x a o e).stay (fun b u _ q=>k b u q) (fun _ q=>q) fun _ _ q=>q
theorem Ha.laid (x:Ha P w H h) (k:∀ b u,h.get? b=some u->h'.get? b=some u) (hp:h.objs.size<=a) (new:CJ P w (upd H a o) h' a o):Ha P w (upd H a o) h':=fun b u e=>by
 have hn:=x.fresh hp
 by_cases hb:b=a
 ·subst hb; rw [Ag] at e; cases e; exact new
 ·rw [BP hb] at e
  exact (x b u e).stay (fun c v _ q=>k c v q) (fun c q=>by rw [BP (BL q hn)]; exact q) fun c xs q=>by rw [BP (BL q hn)]; exact q
end
noncomputable def Rd (H:Hp) (a:Addr) (u:HO):Prop:=H a=some u \/ ∃ o,H a=some (.frz o u)
theorem Rd.ok {P:Program} {w:World} {H:Hp} {h:Heap} {a:Addr} {u:HO} (r:Rd H a u) (x:Ha P w H h):CJ P w H h a u:=by
 rcases r with r | ⟨o,r⟩
 ·exact x a u r
 ·obtain ⟨_,q⟩:=x a _ r
  exact q
noncomputable def Zx:Option HO->Prop
 | some (.lst _)=>True
 | some (.dK _)=>True
 | some (.dT _)=>True
 | some (.set _ _)=>True
 | some (.ins _ _ _)=>True
 | some (.ext _)=>True
 | _=>False
section
variable {P:Program} {w:World} {H:Hp} {h h':Heap} {x e:Addr} {o':HO}
theorem Ha.write (ok:Ha P w H h) (mu:Zx (H x)) (he:e=x \/ H e=some (.own x)) (k:∀ b u,b ≠ e->h.get? b=some u->h'.get? b=some u) (heo:∃ u,h'.get? e=some u)
  (new:CJ P w (upd H x o') h' x o'):Ha P w (upd H x o') h':=fun b u q=>by
 have nown:∀ c y,H c=some (.own y)->c ≠ x:=fun c y r z=>by subst z; rw [r] at mu; exact mu
 have ntup:∀ c xs,H c=some (.tup xs)->c ≠ x:=fun c xs r z=>by subst z; rw [r] at mu; exact mu
 by_cases hb:b=x
 ·subst hb; rw [Ag] at q; cases q; exact new
 ·rw [BP hb] at q
  by_cases hbe:b=e
  ·have q':H b=some (.own x):=by
    rcases he with z | z
    ·exact absurd (hbe.trans z) hb
    ·rw [hbe]; exact z
   rw [q] at q'; cases q'
   obtain ⟨v,hv⟩:=heo
   exact ⟨v,by rw [hbe]; exact hv⟩
  ·refine (ok b u q).stay (fun c v hc r=>k c v ?_ r) (fun c r=>by rw [BP (nown c b r)]; exact r) fun c xs r=>by rw [BP (ntup c xs r)]; exact r
   rcases hc with rfl | hc
   ·exact hbe
   ·rintro rfl
    rcases he with z | z
    ·exact nown c b hc z
    ·rw [hc] at z; cases z; exact hb rfl
end
structure Un (fs ex:List Addr) (H H':Hp) (h h':Heap):Prop where
 keep:∀ b o,h.get? b=some o->H b=none->b ∉ fs->b ∉ ex->h'.get? b=some o
 slot:∀ b o,h.get? b=some o->H b=none->b∈fs->b ∉ ex->∃ sl,h'.get? b=some { o with slots:=sl }
 free:∀ b o,h.get? b=some o->H b=none->b ∉ ex->H' b=none
 there:∀ b o,h.get? b=some o->b ∉ ex->∃ o',h'.get? b=some o'
 tups:∀ b xs,H b=some (.tup xs)->H' b=some (.tup xs)
 frzs:∀ b o u,H b=some (.frz o u)->H' b=some (.frz o u)
 tbls:∀ b ps,H b=some (.tbl ps)->∃ more,H' b=some (.tbl (ps++more))
section
variable {fs fs' ex ex':List Addr} {H H1 H2:Hp} {h h1 h2 h':Heap} {a x e:Addr} {o:HO}
theorem Un.any (u:Un fs ex H H1 h h1) {b:Addr} {ob:Obj} (q:h.get? b=some ob) (n:H b=none) (hx:b ∉ ex):∃ sl,h1.get? b=some { ob with slots:=sl }:=by
 by_cases hb:b∈fs
 ·exact u.slot b ob q n hb hx
 ·exact ⟨ob.slots,u.keep b ob q n hb hx⟩
theorem Un.kept (k:∀ b u,h.get? b=some u->h'.get? b=some u):Un fs ex H H h h' :=
 ⟨fun b ob q _ _ _=>k b ob q,fun b ob q _ _ _=>⟨ob.slots,k b ob q⟩,fun _ _ _ n _=>n,fun b ob q _=>⟨ob,k b ob q⟩,fun _ _ q=>q,fun _ _ _ q=>q,fun _ ps q=>⟨#[],by rw [q]; simp⟩⟩
theorem Un.refl:Un fs ex H H h h:=Un.kept fun _ _ q=>q
theorem Un.laid (k:∀ b u,h.get? b=some u->h'.get? b=some u) (hp:h.objs.size<=a) (hn:H a=none):Un fs ex H (upd H a o) h h' where
 keep:=fun b u q _ _ _=>k b u q
 slot:=fun b u q _ _ _=>⟨u.slots,k b u q⟩
 free:=fun b u q n _=>by rw [BP (Nat.ne_of_lt (Nat.lt_of_lt_of_le (Heap.lt_size q) hp))]; exact n
 there:=fun b u q _=>⟨u,k b u q⟩
 tups:=fun b xs q=>by rw [BP (BL q hn)]; exact q
 frzs:=fun b u xs q=>by rw [BP (BL q hn)]; exact q
 tbls:=fun b ps q=>⟨#[],by rw [BP (BL q hn),q]; simp⟩
theorem Un.write (mu:Zx (H x)) (he:e=x \/ H e=some (.own x)) (k:∀ b u,b ≠ e->h.get? b=some u->h'.get? b=some u) (heo:∃ u,h'.get? e=some u):Un fs ex H (upd H x o) h h':=by
 have hx:∀ b,H b=none->b ≠ x:=fun b n z=>by subst z; rw [n] at mu; exact mu
 have hb:∀ b,H b=none->b ≠ e:=fun b n z=>by
  subst z
  rcases he with r | r
  ·exact hx b n r
  ·rw [n] at r; cases r
 have hm:∀ b u,H b=some u->¬ Zx (some u)->b ≠ x:=fun b u q nm z=>by subst z; rw [q] at mu; exact nm mu
 refine ⟨fun b u q n _ _=>k b u (hb b n) q,fun b u q n _ _=>⟨u.slots,k b u (hb b n) q⟩,fun b u q n _=>by rw [BP (hx b n)]; exact n,fun b u q _=>?_,
  fun b xs q=>by rw [BP (hm b _ q fun z=>z)]; exact q,fun b u xs q=>by rw [BP (hm b _ q fun z=>z)]; exact q,fun b ps q=>⟨#[],by rw [BP (hm b _ q fun z=>z),q]; simp⟩⟩
 by_cases hbe:b=e
 ·subst hbe; exact heo
 ·exact ⟨u,k b u hbe q⟩
end
noncomputable def gM (h:Heap) (H:Hp):List Addr:=(List.range h.objs.size).filter fun a=>(H a).isSome
noncomputable def Lp (h:Heap) (H:Hp):Heap:=PySem.W.hideAll h (gM h H)
theorem Q9 (h:Heap) (H:Hp):(Lp h H).objs.size=h.objs.size:=PySem.W.hideAll_size _ _
theorem RQ {h:Heap} {H:Hp} {b:Addr} {o:Obj} (e:h.get? b=some o) (n:H b=none):(Lp h H).get? b=some o :=
 PySem.W.hideAll_get _ e fun hm=>by
  have q:(H b).isSome=true:=(List.mem_filter.mp hm).2
  rw [n] at q; simp at q
theorem Ux {h:Heap} {H:Hp} {b:Addr} {o:Obj} (e:(Lp h H).get? b=some o):h.get? b=some o/\H b=none:=by
 have e':h.get? b=some o:=PySem.W.of_hideAll (gM h H) e
 refine ⟨e',?_⟩
 cases q:H b with
 | none=>rfl
 | some x =>
  have hm:b∈gM h H:=List.mem_filter.mpr ⟨List.mem_range.mpr (Heap.lt_size e'),by simp [q]⟩
  have z:(Lp h H).get? b=none:=PySem.W.hideAll_none (gM h H) hm
  rw [z] at e; cases e
noncomputable def U4 (g h:Heap) (L:Addr):List (Addr × Obj):=(List.range h.objs.size).filterMap fun a=>if a=L \/ (g.get? a).isSome=true then none else (h.get? a).map fun o=>(a,o)
noncomputable def rest (g h:Heap) (L d:Addr):List (Addr × Obj):=(U4 g h L).filter fun p=>decide (p.1 ≠ d)
end L2
namespace L2
open PySem PySem.Spec PyProof.Rows
structure Mod (K:PySem.W.Frag) (mg:Str->Option Value) (base:Heap):Prop where
 kin:K.In base
 glob:base.Ns mainGlobals mg
 blt:∃ mb,base.Ns builtinsNs mb/\∀ x:Str,x ≠ "__name__"->mb x=bootBuiltins x
 nolimit:base.NoLimit
structure Cx where
 prog:Program
 w:World
 K:PySem.W.Frag
 mg:Str->Option Value
 base:Heap
 A:Around
 N:List Str
 s₀:Shared
 H₀:Hp
 env:Env
 outer:List Env
 stack:List Env
 ex:List Addr
 fn:Str->Bool
 calm:Bool
 pn:List (Addr × Obj)
 xe:Value->Shared->Prop
noncomputable def frs (l:List Env):List Addr:=l.filterMap (·.frame)
noncomputable abbrev Cx.fs (X:Cx):List Addr:=frs X.outer
noncomputable def iT (sc:Scope) (x:Str):Prop:=sc.names.lookup x=some .local \/ sc.names.lookup x=some .cell \/ sc.names.lookup x=some .free
noncomputable def Loc (sc:Scope) (x:Str):Prop:=sc.names.lookup x=some .local \/ sc.names.lookup x=some .cell
noncomputable def Look (env:Env) (h:Heap) (m:Str->Option Value) (x:Str) (u:Value):Prop :=
 (env.kindOf x=some .local/\m x=some u) \/ ((env.kindOf x=some .cell \/ env.kindOf x=some .free)/\∃ c,env.cells.lookup x=some c/\h.IsCell c (some u))
structure Cx.Ok (X:Cx):Prop where
 mod:Mod X.K X.mg X.base
 kind:X.env.scope.kind=.function
 glob:X.env.globals=mainGlobals
 blt:X.env.builtins=builtinsNs
 above:X.s₀.heap.objs.size<=X.env.locals
 inj:∀ x y c,X.env.cells.lookup x=some c->X.env.cells.lookup y=some c->x=y
 has:∀ x,(X.env.kindOf x=some .cell \/ X.env.kindOf x=some .free)->∃ c,X.env.cells.lookup x=some c
 cab:∀ x c,X.fn x=true->X.env.cells.lookup x=some c->X.s₀.heap.objs.size<=c
 hd:X.calm=true->X.A.handled=none
 frames:X.A.frames=some X.stack
 stk:X.stack=X.outer \/ (X.stack=X.env::X.outer/\X.env.frame=some X.env.locals)
 exf:∀ b∈X.ex,b ≠ X.env.locals/\∀ x c,X.env.cells.lookup x=some c->c ≠ b
 bs:∀ b o,X.base.get? b=some o->X.s₀.heap.get? b=some o/\X.H₀ b=none
 bsz:X.base.objs.size<=X.s₀.heap.objs.size
 noex:∀ b o,X.base.get? b=some o->b ∉ X.ex
 exfs:∀ b∈X.ex,b ∉ X.fs
 JG:X.s₀.heap.FunFrames X.base X.outer
 frf:∀ b∈X.fs,X.H₀ b=none
structure Inv (X:Cx) (pins:List (Addr × Obj)) (σ:List (Option V)) (H:Hp) (s:Shared):Prop where
 ok:X.Ok
 os:s.os=X.s₀.os
 bare:AllBare s.gens
 base:Un X.fs X.ex X.H₀ H X.s₀.heap s.heap
 loc:∃ m,s.heap.Ns X.env.locals m/\∀ (i:Nat) (x:Str) (v:V),X.N[i]? = some x->σ[i]? = some (some v)->iT X.env.scope x->∃ u,RelV v u/\Look X.env s.heap m x u
 cell:∀ x c,X.env.cells.lookup x=some c->∃ v,s.heap.IsCell c v
 free:H X.env.locals=none
 freeC:∀ x c,X.env.cells.lookup x=some c->H c=none
 pin:∀ p∈X.pn++pins,s.heap.get? p.1=some p.2/\H p.1=none/\p.1 ≠ X.env.locals/\p.1 ∉ X.fs/\∀ v,p.2.data ≠ .cell v
 hok:Ha X.prog X.w H s.heap
 len:σ.length=X.N.length
section
variable {X:Cx} {pins:List (Addr × Obj)} {σ:List (Option V)} {H H':Hp} {s:Shared} {h':Heap}
theorem Cx.Ok.jA (ok:X.Ok) {b:Addr} {o:Obj} (e:X.base.get? b=some o):b ∉ X.fs:=fun hb=>by
 have:=(ok.JG.mem hb).1
 rw [e] at this; cases this
theorem Inv.bs (I:Inv X pins σ H s):∀ b o,X.base.get? b=some o->s.heap.get? b=some o/\H b=none:=fun b o e =>
 ⟨I.base.keep b o (I.ok.bs b o e).1 (I.ok.bs b o e).2 (I.ok.jA e) (I.ok.noex b o e),I.base.free b o (I.ok.bs b o e).1 (I.ok.bs b o e).2 (I.ok.noex b o e)⟩
theorem Inv.bk (I:Inv X pins σ H s):∀ b o,X.base.get? b=some o->s.heap.get? b=some o:=fun b o e=>(I.bs b o e).1
theorem Inv.mod (I:Inv X pins σ H s):Mod X.K X.mg X.base:=I.ok.mod
theorem Inv.H_ (I:Inv X pins σ H s):X.K.In s.heap:=I.ok.mod.kin.keeps I.bk
theorem Inv.lt (I:Inv X pins σ H s):X.env.locals<s.heap.objs.size:=let ⟨_,hn,_⟩:=I.loc; hn.lt
theorem Inv.sz (I:Inv X pins σ H s):X.s₀.heap.objs.size<=s.heap.objs.size:=Nat.le_trans I.ok.above (Nat.le_of_lt I.lt)
theorem Inv.g_ (I:Inv X pins σ H s) {a:Addr} (h:s.heap.objs.size<=a):a ∉ X.fs:=fun hb=>by
 obtain ⟨_,o,ho,_⟩:=I.ok.JG.mem hb
 exact absurd (Nat.lt_of_lt_of_le (Heap.lt_size ho) (Nat.le_trans I.sz h)) (Nat.lt_irrefl _)
theorem Inv.YK (I:Inv X pins σ H s):∀ x c,X.env.cells.lookup x=some c->c ≠ X.env.locals:=fun x c e z=>by
 obtain ⟨v,o,ho,hd⟩:=I.cell x c e
 obtain ⟨m,⟨o',es,ep,ho',hd',_⟩,_⟩:=I.loc
 rw [z,ho'] at ho; cases ho; rw [hd'] at hd; cases hd
theorem Inv.JG (I:Inv X pins σ H s):s.heap.FunFrames X.base X.outer:=by
 have all:∀ (l:List Env),(∀ b∈frs l,b∈X.fs)->X.s₀.heap.FunFrames X.base l->s.heap.FunFrames X.base l:=by
  intro l
  induction l with
  | nil=>intro _ _; trivial
  | cons env r ih =>
   intro hs hl
   obtain ⟨hk,⟨L,o,hf,hn,ho,hd⟩,hr⟩:=hl
   have hL:L∈X.fs:=hs L (by unfold frs; rw [List.filterMap_cons,hf]; exact List.mem_cons_self)
   obtain ⟨sl,e⟩:=I.base.slot L o ho (I.ok.frf L hL) hL fun z=>I.ok.exfs L z hL
   exact ⟨hk,⟨L,_,hf,hn,e,hd⟩,ih (fun b hb=>hs b (by unfold frs; rw [List.filterMap_cons,hf]; exact List.mem_cons_of_mem _ hb)) hr⟩
 exact all X.outer (fun _ hb=>hb) I.ok.JG
theorem Inv.stack (I:Inv X pins σ H s):s.heap.FunFrames X.base X.stack:=by
 rcases I.ok.stk with e | ⟨e,hf⟩
 ·rw [e]; exact I.JG
 ·rw [e]
  obtain ⟨m,hn,_⟩:=I.loc
  refine .cons (by rw [I.ok.kind]; decide) hf hn ?_ I.JG
  exact Heap.get?_none_of_le (Nat.le_trans I.ok.bsz I.ok.above)
theorem Inv.Lf (I:Inv X pins σ H s):∀ b∈frs X.stack,b∈X.env.locals::X.fs:=fun b hb=>by
 rcases I.ok.stk with e | ⟨e,hf⟩
 ·rw [e] at hb; exact List.mem_cons_of_mem _ hb
 ·rw [e] at hb
  unfold frs at hb
  rw [List.filterMap_cons,hf] at hb
  exact hb
theorem Inv.K6 (I:Inv X pins σ H s):∀ b∈frs X.stack,H b=none:=fun b hb=>by
 rcases List.mem_cons.mp (I.Lf b hb) with e | hb
 ·rw [e]; exact I.free
 ·obtain ⟨_,o,ho,_⟩:=I.ok.JG.mem hb
  exact I.base.free b o ho (I.ok.frf b hb) fun z=>I.ok.exfs b z hb
theorem Inv.step {g':Array GenState} {t':Nat} {d':Drawn} {ch:List Addr} (I:Inv X pins σ H s)
  (hch:∀ b∈ch,(b∈X.ex \/ X.s₀.heap.objs.size<=b)/\b ≠ X.env.locals/\(∀ x c,X.env.cells.lookup x=some c->c ≠ b)/\∀ p∈X.pn++pins,p.1 ≠ b)
  (keep:∀ b o,b ≠ X.env.locals->b ∉ X.fs->b ∉ ch->s.heap.get? b=some o->H b=none->h'.get? b=some o)
  (slot:∀ b o,b ≠ X.env.locals->b∈X.fs->b ∉ ch->s.heap.get? b=some o->H b=none->∃ sl,h'.get? b=some { o with slots:=sl }) (free:∀ b o,b ∉ ch->s.heap.get? b=some o->H b=none->H' b=none)
  (there:∀ b o,b ∉ ch->s.heap.get? b=some o->∃ o',h'.get? b=some o')
  (tups:∀ b xs,H b=some (.tup xs)->H' b=some (.tup xs)) (frzs:∀ b o u,H b=some (.frz o u)->H' b=some (.frz o u)) (tbls:∀ b ps,H b=some (.tbl ps)->∃ more,H' b=some (.tbl (ps++more)))
  (ns:∀ m,s.heap.Ns X.env.locals m->h'.Ns X.env.locals m) (hok:Ha X.prog X.w H' h') (hg:AllBare g') :
  Inv X pins σ H' { s with heap:=h',gens:=g',drawn:=d',toks:=t' }:=by
 have neL:∀ b o,X.s₀.heap.get? b=some o->b ≠ X.env.locals:=fun b o e=>Nat.ne_of_lt (Nat.lt_of_lt_of_le (Heap.lt_size e) I.ok.above)
 have neC:∀ b o,X.s₀.heap.get? b=some o->b ∉ X.ex->b ∉ ch:=fun b o e hx hb=>by
  rcases (hch b hb).1 with z | z
  ·exact hx z
  ·exact absurd (Nat.lt_of_lt_of_le (Heap.lt_size e) z) (Nat.lt_irrefl _)
 have cellK:∀ x c,X.env.cells.lookup x=some c->∀ v,s.heap.IsCell c v->h'.IsCell c v:=fun x c e v ⟨o,ho,hd⟩=>by
  have nch:c ∉ ch:=fun z=>(hch c z).2.2.1 x c e rfl
  by_cases hc:c∈X.fs
  ·obtain ⟨sl,q⟩:=slot c o (I.YK x c e) hc nch ho (I.freeC x c e)
   exact ⟨_,q,hd⟩
  ·exact ⟨o,keep c o (I.YK x c e) hc nch ho (I.freeC x c e),hd⟩
 refine ⟨I.ok,I.os,hg,⟨fun b o e n hb hx=>?_,fun b o e n hb hx=>?_,fun b o e n hx=>?_,fun b o e hx=>?_,fun b xs e=>tups b xs (I.base.tups b xs e),fun b o xs e=>frzs b o xs (I.base.frzs b o xs e),fun b ps e=>?_⟩,?_,fun x c e=>?_,?_,fun x c e=>?_,fun p hp=>?_,hok,I.len⟩
 ·exact keep b o (neL b o e) hb (neC b o e hx) (I.base.keep b o e n hb hx) (I.base.free b o e n hx)
 ·obtain ⟨sl,e1⟩:=I.base.slot b o e n hb hx
  obtain ⟨sl',e2⟩:=slot b _ (neL b o e) hb (neC b o e hx) e1 (I.base.free b o e n hx)
  exact ⟨sl',e2⟩
 ·obtain ⟨o',e1⟩:=I.base.there b o e hx
  exact free b o' (neC b o e hx) e1 (I.base.free b o e n hx)
 ·obtain ⟨o',e1⟩:=I.base.there b o e hx
  exact there b o' (neC b o e hx) e1
 ·obtain ⟨m1,e1⟩:=I.base.tbls b ps e
  obtain ⟨m2,e2⟩:=tbls b _ e1
  exact ⟨m1++m2,by rw [e2,Array.append_assoc]⟩
 ·obtain ⟨m,hn,hl⟩:=I.loc
  refine ⟨m,ns m hn,fun i x v e1 e2 e3=>?_⟩
  obtain ⟨u,r,l⟩:=hl i x v e1 e2 e3
  refine ⟨u,r,?_⟩
  rcases l with l | ⟨k,c,e,z⟩
  ·exact .inl l
  ·exact .inr ⟨k,c,e,cellK x c e _ z⟩
 ·obtain ⟨v,z⟩:=I.cell x c e
  exact ⟨v,cellK x c e v z⟩
 ·obtain ⟨m,⟨o,_,_,ho,_⟩,_⟩:=I.loc
  exact free _ o (fun z=>(hch _ z).2.1 rfl) ho I.free
 ·obtain ⟨v,o,ho,hd⟩:=I.cell x c e
  exact free c o (fun z=>(hch c z).2.2.1 x c e rfl) ho (I.freeC x c e)
 ·obtain ⟨e,n,ne,nf,d⟩:=I.pin p hp
  have nch:p.1 ∉ ch:=fun z=>(hch p.1 z).2.2.2 p hp rfl
  exact ⟨keep p.1 p.2 ne nf nch e n,free p.1 p.2 nch e n,ne,nf,d⟩
theorem Inv.un {t':Nat} (I:Inv X pins σ H s) (u:Un X.fs [] H H' s.heap h') (hok:Ha X.prog X.w H' h'):Inv X pins σ H' { s with heap:=h',toks:=t' }:=by
 obtain ⟨m,⟨o,es,ep,ho,r⟩,_⟩:=id I.loc
 obtain ⟨sl,hL⟩:=u.any ho I.free (by simp)
 exact I.step (g':=s.gens) (d':=s.drawn) (ch:=[]) (fun _ z=>nomatch z) (fun b o _ hb _ e n=>u.keep b o e n hb (by simp)) (fun b o _ hb _ e n=>u.slot b o e n hb (by simp)) (fun b o _ e n=>u.free b o e n (by simp)) (fun b o _ e=>u.there b o e (by simp)) u.tups u.frzs u.tbls (fun m' hm=>by
  obtain ⟨o',es',ep',ho',r'⟩:=hm
  rw [ho] at ho'; cases ho'
  exact ⟨_,es',ep',hL,r'⟩) hok I.bare
theorem Inv.call {g':Array GenState} {t':Nat} {d':Drawn} {ch:List Addr} (I:Inv X pins σ H s) (u:Un (frs X.stack) ch H H' s.heap h') (hok:Ha X.prog X.w H' h') (hg:AllBare g')
  (hch:∀ b∈ch,(b∈X.ex \/ X.s₀.heap.objs.size<=b)/\b ≠ X.env.locals/\(∀ x c,X.env.cells.lookup x=some c->c ≠ b)/\∀ p∈X.pn++pins,p.1 ≠ b) :
  Inv X pins σ H' { s with heap:=h',gens:=g',drawn:=d',toks:=t' }:=by
 obtain ⟨m,⟨o,es,ep,ho,r⟩,_⟩:=id I.loc
 obtain ⟨sl,hL⟩:=u.any ho I.free fun z=>(hch _ z).2.1 rfl
 exact I.step (ch:=ch) hch (fun b o hL hb hc e n=>u.keep b o e n (fun z=>(List.mem_cons.mp (I.Lf b z)).elim hL hb) hc) (fun b o _ _ hc e n=>u.any e n hc) (fun b o hc e n=>u.free b o e n hc) (fun b o hc e=>u.there b o e hc) u.tups u.frzs u.tbls (fun m' hm=>by
  obtain ⟨o',es',ep',ho',r'⟩:=hm
  rw [ho] at ho'; cases ho'
  exact ⟨_,es',ep',hL,r'⟩) hok hg
theorem Inv.turned {t':Nat} {it:Addr} (I:Inv X pins σ H s) (k:∀ b o,b ≠ it->s.heap.get? b=some o->h'.get? b=some o) (hn:H it=none) (hL:it ≠ X.env.locals)
  (h1:it∈X.ex \/ X.s₀.heap.objs.size<=it) (h2:∀ x c,X.env.cells.lookup x=some c->c ≠ it) (h3:∀ p∈X.pn++pins,p.1 ≠ it):Inv X pins σ H { s with heap:=h',toks:=t' }:=by
 have nit:∀ b u,H b=some u->b ≠ it:=fun b u e z=>by rw [z,hn] at e; cases e
 refine I.step (g':=s.gens) (d':=s.drawn) (ch:=[it]) (fun b hb=>?_) (fun b o _ _ hc e _=>k b o (fun z=>hc (by simp [z])) e) (fun b o _ _ hc e _=>⟨o.slots,k b o (fun z=>hc (by simp [z])) e⟩) (fun _ _ _ _ n=>n)
  (fun b o hc e=>⟨o,k b o (fun z=>hc (by simp [z])) e⟩) (fun _ _ e=>e) (fun _ _ _ e=>e) (fun b ps e=>⟨#[],by rw [e]; simp⟩) (fun m hm=>?_) (fun b u e=>?_) I.bare
 ·have e:b=it:=by simpa using hb
  subst e
  exact ⟨h1,hL,h2,h3⟩
 ·obtain ⟨o,es,ep,ho,r⟩:=hm
  exact ⟨o,es,ep,k _ o (Ne.symm hL) ho,r⟩
 ·refine (I.hok b u e).stay (fun c v hc q=>k c v ?_ q) (fun _ q=>q) fun _ _ q=>q
  rcases hc with z | z
  ·rw [z]; exact nit b u e
  ·exact nit c _ z
theorem Inv.tok (I:Inv X pins σ H s) (t:Nat):Inv X pins σ H { s with toks:=t }:=I.un (h':=s.heap) (t':=t) Un.refl I.hok
theorem Inv.kept {t':Nat} (I:Inv X pins σ H s) (k:∀ b u,s.heap.get? b=some u->h'.get? b=some u):Inv X pins σ H { s with heap:=h',toks:=t' }:=I.un (Un.kept k) (I.hok.kept k)
theorem Inv.laid {a:Addr} {o:HO} {t':Nat} (I:Inv X pins σ H s) (k:∀ b u,s.heap.get? b=some u->h'.get? b=some u) (hp:s.heap.objs.size<=a) (new:CJ X.prog X.w (upd H a o) h' a o) :
  Inv X pins σ (upd H a o) { s with heap:=h',toks:=t' }:=I.un (Un.laid k hp (I.hok.fresh hp)) (I.hok.laid k hp new)
theorem Inv.write {x e:Addr} {o:HO} {t':Nat} (I:Inv X pins σ H s) (mu:Zx (H x)) (he:e=x \/ H e=some (.own x)) (k:∀ b u,b ≠ e->s.heap.get? b=some u->h'.get? b=some u) (heo:∃ u,h'.get? e=some u)
  (new:CJ X.prog X.w (upd H x o) h' x o):Inv X pins σ (upd H x o) { s with heap:=h',toks:=t' }:=I.un (Un.write mu he k heo) (I.hok.write mu he k heo new)
theorem Inv.Pk {pins':List (Addr × Obj)} (I:Inv X pins σ H s) (h:∀ p∈pins',s.heap.get? p.1=some p.2/\H p.1=none/\p.1 ≠ X.env.locals/\p.1 ∉ X.fs/\∀ v,p.2.data ≠ .cell v):Inv X pins' σ H s :=
 ⟨I.ok,I.os,I.bare,I.base,I.loc,I.cell,I.free,I.freeC,fun p hp=>(List.mem_append.mp hp).elim (fun z=>I.pin p (List.mem_append_left _ z)) (h p),I.hok,I.len⟩
theorem Mi {N:List Str} (hN:N.Nodup) {i j:Nat} {x:Str} (a:N[i]? = some x) (b:N[j]? = some x):i=j:=by
 obtain ⟨h1,e1⟩:=List.getElem?_eq_some_iff.mp a
 obtain ⟨h2,e2⟩:=List.getElem?_eq_some_iff.mp b
 exact (List.getElem_inj hN).mp (e1.trans e2.symm)
theorem Kp {M:Model} {A:Around} {E:Value->Shared->Prop} {i:Nat} {x:Str} {v:V} {u:Value} {Q:Unit->Shared->Prop} (I:Inv X pins σ H s) (hN:X.N.Nodup) (hi:X.N[i]? = some x) (hx:Loc X.env.scope x) (r:RelV v u)
  (h:∀ s',Inv X pins (σ.set i (some v)) H s'->(∃ a,Heap.SameBut a s.heap s'.heap/\(a=X.env.locals \/ X.env.cells.lookup x=some a))->Q () s') (hf:X.fn x=true \/ X.env.scope.names.lookup x=some .local:=by first | exact .inl rfl | exact .inr rfl | assumption):wpAny M A (storeName X.env x u) Q E s:=by
 obtain ⟨m,hn,hl⟩:=id I.loc
 have hcls:(X.env.scope.kind == .class || (X.env.scope.kind == .module && X.env.locals != X.env.globals))=false:=by rw [I.ok.kind]; rfl
 have hiσ:i<σ.length:=by rw [I.len]; exact (List.getElem?_eq_some_iff.mp hi).1
 have YK:=I.YK
 have tracked:∀ {a:Addr} {h':Heap},(∃ o,s.heap.get? a=some o/\H a=none)->Heap.SameBut a s.heap h'->Ha X.prog X.w H h':=fun {a h'} ha hs b ob e=>by
  obtain ⟨_,_,hfree⟩:=ha
  refine (I.hok b ob e).stay (fun c w' hc q=>(hs.2 c ?_).trans q) (fun _ q=>q) fun _ _ q=>q
  rintro rfl
  rcases hc with rfl | hc
  ·rw [hfree] at e; cases e
  ·rw [hfree] at hc; cases hc
 rcases hx with hk | hk
 ·refine wpAny_storeName_local hk hn (fun h' hn' hs=>?_) hcls
  obtain ⟨oL,_,_,hoL,_⟩:=id hn
  refine h _ ⟨I.ok,I.os,I.bare,⟨fun b o e n hb hx=>?_,fun b o e n hb hx=>?_,I.base.free,fun b o e hx=>?_,I.base.tups,I.base.frzs,I.base.tbls⟩,⟨_,hn',fun j y v' e1 e2 e3=>?_⟩,fun y c e=>?_,I.free,I.freeC,fun p hp=>?_,tracked ⟨oL,hoL,I.free⟩ hs,by simpa using I.len⟩ ⟨_,hs,.inl rfl⟩
  ·exact (hs.2 b (Nat.ne_of_lt (Nat.lt_of_lt_of_le (Heap.lt_size e) I.ok.above))).trans (I.base.keep b o e n hb hx)
  ·obtain ⟨sl,e1⟩:=I.base.slot b o e n hb hx
   exact ⟨sl,(hs.2 b (Nat.ne_of_lt (Nat.lt_of_lt_of_le (Heap.lt_size e) I.ok.above))).trans e1⟩
  ·obtain ⟨o',e1⟩:=I.base.there b o e hx
   exact ⟨o',(hs.2 b (Nat.ne_of_lt (Nat.lt_of_lt_of_le (Heap.lt_size e) I.ok.above))).trans e1⟩
  ·by_cases hj:j=i
   ·subst hj
    rw [hi] at e1; cases e1
    rw [List.getElem?_set_self hiσ] at e2
    cases e2
    exact ⟨u,r,.inl ⟨hk,by simp⟩⟩
   ·rw [List.getElem?_set_ne (Ne.symm hj)] at e2
    obtain ⟨u',r',q⟩:=hl j y v' e1 e2 e3
    refine ⟨u',r',?_⟩
    rcases q with ⟨k,e⟩ | ⟨k,c,e,z⟩
    ·refine .inl ⟨k,?_⟩
     have:y ≠ x:=fun e=>hj (Mi hN e1 (e ▸ hi))
     simp [this,e]
    ·exact .inr ⟨k,c,e,z.sameBut hs (YK y c e)⟩
  ·obtain ⟨w',z⟩:=I.cell y c e
   exact ⟨w',z.sameBut hs (YK y c e)⟩
  ·obtain ⟨e,n,ne,nf,d⟩:=I.pin p hp
   exact ⟨(hs.2 p.1 ne).trans e,n,ne,nf,d⟩
 ·have hfn:X.fn x=true:=by
   rcases hf with z | z
   ·exact z
   ·rw [z] at hk; cases hk
  obtain ⟨c,hc⟩:=I.ok.has x (.inl hk)
  obtain ⟨w',z⟩:=I.cell x c hc
  refine wpAny_storeName_cell I.ok.kind hk hc z (fun h' hc' hs=>?_)
  obtain ⟨oc,hoc,hocd⟩:=id z
  refine h { s with heap:=h' } ⟨I.ok,I.os,I.bare,⟨fun b o e n hb hx=>?_,fun b o e n hb hx=>?_,I.base.free,fun b o e hx=>?_,I.base.tups,I.base.frzs,I.base.tbls⟩,⟨m,hn.sameBut hs (Ne.symm (YK x c hc)),fun j y v' e1 e2 e3=>?_⟩,fun y c' e=>?_,I.free,I.freeC,fun p hp=>?_,tracked ⟨oc,hoc,I.freeC x c hc⟩ hs,by simpa using I.len⟩ ⟨c,hs,.inr hc⟩
  ·exact (hs.2 b (Nat.ne_of_lt (Nat.lt_of_lt_of_le (Heap.lt_size e) (I.ok.cab x c hfn hc)))).trans (I.base.keep b o e n hb hx)
  ·obtain ⟨sl,e1⟩:=I.base.slot b o e n hb hx
   exact ⟨sl,(hs.2 b (Nat.ne_of_lt (Nat.lt_of_lt_of_le (Heap.lt_size e) (I.ok.cab x c hfn hc)))).trans e1⟩
  ·obtain ⟨o',e1⟩:=I.base.there b o e hx
   exact ⟨o',(hs.2 b (Nat.ne_of_lt (Nat.lt_of_lt_of_le (Heap.lt_size e) (I.ok.cab x c hfn hc)))).trans e1⟩
  ·by_cases hj:j=i
   ·subst hj
    rw [hi] at e1; cases e1
    rw [List.getElem?_set_self hiσ] at e2
    cases e2
    exact ⟨u,r,.inr ⟨.inl hk,c,hc,hc'⟩⟩
   ·rw [List.getElem?_set_ne (Ne.symm hj)] at e2
    obtain ⟨u',r',q⟩:=hl j y v' e1 e2 e3
    refine ⟨u',r',?_⟩
    rcases q with q | ⟨k,c',e,z'⟩
    ·exact .inl q
    ·refine .inr ⟨k,c',e,z'.sameBut hs ?_⟩
     rintro rfl
     exact hj (Mi hN e1 (I.ok.inj _ _ _ e hc ▸ hi))
  ·by_cases hcc:c'=c
   ·subst hcc; exact ⟨_,hc'⟩
   ·obtain ⟨w2,z2⟩:=I.cell y c' e
    exact ⟨w2,z2.sameBut hs hcc⟩
  ·obtain ⟨e,n,ne,nf,d⟩:=I.pin p hp
   refine ⟨(hs.2 p.1 ?_).trans e,n,ne,nf,d⟩
   intro q
   rw [q,hoc] at e
   have q':oc=p.2:=Option.some.inj e
   exact d w' (by rw [← q']; exact hocd)
theorem JS {M:Model} {A:Around} {E:Value->Shared->Prop} {i:Nat} {x:Str} {v:V} {u:Value} {Q:Unit->Shared->Prop} (I:Inv X pins σ H s) (hN:X.N.Nodup) (hi:X.N[i]? = some x) (hx:Loc X.env.scope x) (r:RelV v u)
  (h:∀ s',Inv X pins (σ.set i (some v)) H s'->Q () s') (hf:X.fn x=true \/ X.env.scope.names.lookup x=some .local:=by first | exact .inl rfl | exact .inr rfl | assumption):wpAny M A (storeName X.env x u) Q E s :=
 Kp I hN hi hx r (fun s' I' _=>h s' I') hf
theorem Inv.call' {s':Shared} {ch:List Addr} (I:Inv X pins σ H s) (ho:s'.os=s.os) (u:Un (frs X.stack) ch H H' s.heap s'.heap) (hok:Ha X.prog X.w H' s'.heap) (hg:AllBare s'.gens)
  (hch:∀ b∈ch,(b∈X.ex \/ X.s₀.heap.objs.size<=b)/\b ≠ X.env.locals/\(∀ x c,X.env.cells.lookup x=some c->c ≠ b)/\∀ p∈X.pn++pins,p.1 ≠ b):Inv X pins σ H' s':=by
 obtain ⟨h',g',d',t',o'⟩:=s'
 have e:o'=s.os:=ho
 subst e
 exact I.call (g':=g') (t':=t') (d':=d') u hok hg hch
end
noncomputable abbrev XK:=Value->Option Addr->Hp->Prop
noncomputable abbrev St:=List (Option V)
noncomputable abbrev VK:=V->Hp->Prop
noncomputable abbrev TE:=St->Hp->VK->Prop
noncomputable abbrev TT:=St->Hp->(Bool->Hp->Prop)->Prop
noncomputable abbrev TA:=St->Hp->(List V->Hp->Prop)->Prop
structure Ends where
 nx:St->Hp->Prop
 rt:VK
 bk:St->Hp->Prop:=fun _ _=>False
 ct:St->Hp->Prop:=fun _ _=>False
noncomputable abbrev TS:=Ends->St->Hp->Prop
noncomputable def EP (X:Cx) (pins:List (Addr × Obj)) (σ:St) (Q:VK) (u:Value) (s':Shared):Prop:=∃ v H',Inv X pins σ H' s'/\RelV v u/\Q v H'
noncomputable def TP (X:Cx) (pins:List (Addr × Obj)) (σ:St) (Q:Bool->Hp->Prop) (b:Bool) (s':Shared):Prop:=∃ H',Inv X pins σ H' s'/\Q b H'
noncomputable def AP (X:Cx) (pins:List (Addr × Obj)) (σ:St) (Q:List V->Hp->Prop) (us:List Value) (s':Shared):Prop:=∃ vs H',Inv X pins σ H' s'/\Vals vs us/\Q vs H'
noncomputable def SP (X:Cx) (pins:List (Addr × Obj)) (D:Ends) (f:Flow) (s':Shared):Prop :=
 match f with
 | .next=>∃ σ' H',Inv X pins σ' H' s'/\D.nx σ' H'
 | .brk=>∃ σ' H',Inv X pins σ' H' s'/\D.bk σ' H'
 | .cont=>∃ σ' H',Inv X pins σ' H' s'/\D.ct σ' H'
 | .ret u=>∃ v σ' H',Inv X pins σ' H' s'/\RelV v u/\D.rt v H'
noncomputable def PE (X:Cx) (e:Expr) (t:TE):Prop :=
 ∀ (pins:List (Addr × Obj)) (s:Shared) (σ:St) (H:Hp) (Q:VK),Inv X pins σ H s->t σ H Q->wpAny (model X.prog X.w) X.A (eval e X.env) (EP X pins σ Q) X.xe s
noncomputable def PT (X:Cx) (e:Expr) (t:TT):Prop :=
 ∀ (pins:List (Addr × Obj)) (s:Shared) (σ:St) (H:Hp) (Q:Bool->Hp->Prop),Inv X pins σ H s->t σ H Q->wpAny (model X.prog X.w) X.A (isTrue e X.env (eval e X.env)) (TP X pins σ Q) X.xe s
noncomputable def PW (X:Cx) (e:Expr) (t:TT):Prop :=
 ∀ (whole:Sem Value) (pins:List (Addr × Obj)) (s:Shared) (σ:St) (H:Hp) (Q:Bool->Hp->Prop),Inv X pins σ H s->t σ H Q->wpAny (model X.prog X.w) X.A (isTrue e X.env whole) (TP X pins σ Q) X.xe s
theorem PW.pt {X:Cx} {e:Expr} {t:TT} (h:PW X e t):PT X e t:=h _
noncomputable def PA (X:Cx) (es:List Expr) (t:TA):Prop :=
 ∀ (pos:Pos) (pins:List (Addr × Obj)) (s:Shared) (σ:St) (H:Hp) (Q:List V->Hp->Prop),Inv X pins σ H s->t σ H Q->wpAny (model X.prog X.w) X.A (spliced (backTo pos (starEach es X.env))) (AP X pins σ Q) X.xe s
noncomputable def PS (X:Cx) (st:Stmt) (t:TS):Prop :=
 ∀ (pins:List (Addr × Obj)) (s:Shared) (σ:St) (H:Hp) (D:Ends),Inv X pins σ H s->t D σ H->wpAny (model X.prog X.w) X.A (exec st X.env) (SP X pins D) X.xe s
noncomputable def QQ (X:Cx) (st:List Stmt) (t:TS):Prop :=
 ∀ (pins:List (Addr × Obj)) (s:Shared) (σ:St) (H:Hp) (D:Ends),Inv X pins σ H s->t D σ H->wpAny (model X.prog X.w) X.A (execs st X.env) (SP X pins D) X.xe s
theorem By {α:Type} {t:Sem α} {Q Q':α->Shared->Prop} {M:Model} {A:Around} {E:Value->Shared->Prop} {s:Shared} (h:wpAny M A t Q E s) (hQ:∀ a s,Q a s->Q' a s):wpAny M A t Q' E s:=wpAny_mono h hQ fun _ _ x=>x
end L2
namespace L2
open PySem PySem.Spec PyProof.Rows
section
variable {X:Cx}
noncomputable def dW (i:Nat):TE:=fun σ H Q=>∃ v,σ[i]? = some (some v)/\Q v H
noncomputable def tC (v:V):TE:=fun _ H Q=>Q v H
theorem Xo {i:Nat} {x:Str} {pos:Pos} (hN:X.N[i]? = some x) (hv:iT X.env.scope x) (hd:(x == ("__debug__" : Str))=false:=by decide) (hcd:(x == ("__classdict__" : Str))=false:=by decide):PE X (.Name x pos) (dW i):=by
 intro pins s σ H Q I h
 obtain ⟨v,e,h⟩:=h
 obtain ⟨m,hn,hl⟩:=I.loc
 obtain ⟨u,r,l⟩:=hl i x v hN e hv
 have fin:EP X pins σ Q u s:=⟨v,H,I,r,h⟩
 rcases l with ⟨hk,hm⟩ | ⟨hk,c,hc,hcell⟩
 ·exact wpAny_Name (wpAny_loadName_local I.ok.kind hk hn hm fin) hd
 ·rcases hk with hk | hk
  ·exact wpAny_Name (wpAny_loadName_cell I.ok.kind hk hc hcell fin) hd
  ·exact wpAny_Name (wpAny_loadName_free I.ok.kind hk hc hcell fin hcd) hd
theorem Ad {i j pos}:PE X (.Constant (.int i) j pos) (tC (.int i)):=fun _ _ _ H _ I h=>wpAny_Constant_int ⟨.int i,H,I.tok _,⟨_,rfl⟩,h⟩
theorem Iv {b j pos}:PE X (.Constant (.bool b) j pos) (tC (.bl b)):=fun _ _ _ H _ I h=>Constant_bool ⟨.bl b,H,I,rfl,h⟩
theorem HD {j pos}:PE X (.Constant .none j pos) (tC .non):=fun _ _ _ H _ I h=>Constant_none ⟨.non,H,I,rfl,h⟩
theorem Bs {x j pos}:PE X (.Constant (.str x) j pos) (tC (.str x)):=fun _ _ _ H _ I h=>Calls.Constant_str ⟨.str x,H,I.tok _,⟨_,rfl⟩,h⟩
noncomputable def Gl (X:Cx) (x:Str):Prop:=X.env.kindOf x=some .globalImplicit
theorem K3 {E:Value->Shared->Prop} {pins:List (Addr × Obj)} {s:Shared} {σ:St} {H:Hp} {x:Str} {u:Value} {pos:Pos} {Q:Value->Shared->Prop} (I:Inv X pins σ H s) (hg:Gl X x) (hm:X.mg x=some u) (h:Q u s)
  (hd:(x == ("__debug__" : Str))=false:=by decide):wpAny (model X.prog X.w) X.A (eval (.Name x pos) X.env) Q E s :=
 Calls.Name_function_global I.ok.kind hg (Calls.loadGlobal_global (by rw [I.ok.glob]; exact I.mod.glob.keeps I.bk) hm h) hd
theorem GR {E:Value->Shared->Prop} {pins:List (Addr × Obj)} {s:Shared} {σ:St} {H:Hp} {x:Str} {u:Value} {pos:Pos} {Q:Value->Shared->Prop} (I:Inv X pins σ H s) (hg:Gl X x) (hm:X.mg x=none) (hv:bootBuiltins x=some u) (h:Q u s)
  (hn:x ≠ "__name__":=by decide) (hd:(x == ("__debug__" : Str))=false:=by decide):wpAny (model X.prog X.w) X.A (eval (.Name x pos) X.env) Q E s:=by
 obtain ⟨mb,h1,h2⟩:=I.mod.blt
 exact Calls.Name_function_global I.ok.kind hg (Calls.loadGlobal_builtin (by rw [I.ok.glob]; exact I.mod.glob.keeps I.bk) hm (by rw [I.ok.blt]; exact h1.keeps I.bk) ((h2 x hn).trans hv) h) hd
theorem Cy {x:Str} {v:V} {u:Value} {pos:Pos} (hg:Gl X x) (hm:X.mg x=some u) (r:RelV v u) (hd:(x == ("__debug__" : Str))=false:=by decide):PE X (.Name x pos) (tC v) :=
 fun _ _ _ H _ I h=>K3 I hg hm ⟨v,H,I,r,h⟩ hd
theorem Ei {x:Str} {v:V} {u:Value} {pos:Pos} (hg:Gl X x) (hm:X.mg x=none) (hv:bootBuiltins x=some u) (r:RelV v u) (hn:x ≠ "__name__":=by decide) (hd:(x == ("__debug__" : Str))=false:=by decide):PE X (.Name x pos) (tC v) :=
 fun _ _ _ H _ I h=>GR I hg hm hv ⟨v,H,I,r,h⟩ hn hd
variable {a b:Expr} {ta tb:TE} {pos:Pos}
noncomputable def PC (X:Cx) (op:CmpOp) (a b:Expr) (t:TE):Prop :=
 ∀ (pins:List (Addr × Obj)) (s:Shared) (σ:St) (H:Hp) (Q:VK),Inv X pins σ H s->t σ H Q ->
  wpAny (model X.prog X.w) X.A (eval a X.env) (fun v s₁=>wpAny (model X.prog X.w) X.A (eval b X.env) (fun u s₂=>wpAny (model X.prog X.w) X.A (compareOp op v u) (EP X pins σ Q) X.xe s₂) X.xe s₁) X.xe s
noncomputable def tB (t:TE):TT:=fun σ H Q=>t σ H fun x H1=>∃ c,x=.bl c/\Q c H1
theorem Tn {op:CmpOp} {t:TE} (h:PC X op a b t) (h1:behindInMarks op b=false:=by first | exact nobehind _ (by decide) (by decide) | rfl):PE X (.Compare a [op] [b] pos) t:=fun pins s σ H Q I hw=>wpAny_Compare1 (h pins s σ H Q I hw) h1
theorem Rj {op:CmpOp} {t:TE} (h:PC X op a b t) (h1:behindInMarks op b=false:=by first | exact nobehind _ (by decide) (by decide) | rfl):PT X (.Compare a [op] [b] pos) (tB t):=by
 intro pins s σ H Q I hw
 refine wpAny_isTrue_Compare1 (By (h pins s σ H _ I hw) fun v s1 h1=>By h1 fun u s2 h2=>By h2 fun c s3 ⟨x,H1,I1,r1,q1⟩=>?_) h1
 obtain ⟨d,rfl,q⟩:=q1
 cases r1
 exact wpAny_truthy_bool ⟨H1,I1,q⟩
theorem FW {e:Expr} {t:TE} (h:PE X e t) (he:∀ whole,isTrue e X.env whole=(do let v ← whole; standAt e.pos; holding [v] (truthy v)):=by intro _; rfl):PT X e (tB t):=by
 intro pins s σ H Q I hw
 refine isTrue_plain (By (h pins s σ H _ I hw) fun v s1 ⟨x,H1,I1,r1,q1⟩=>?_) (he _)
 obtain ⟨d,rfl,q⟩:=q1
 cases r1
 exact wpAny_truthy_bool ⟨H1,I1,q⟩
variable {tA tB':TT} {rest:List Expr}
noncomputable def iV (t u:TT):TT:=fun σ H Q=>t σ H fun c H1=>if c=true then u σ H1 Q else Q false H1
noncomputable def gm (t u:TT):TT:=fun σ H Q=>t σ H fun c H1=>if c=true then Q true H1 else u σ H1 Q
noncomputable def gW (t:TT):TT:=fun σ H Q=>t σ H fun c H1=>Q (!c) H1
theorem Hx (ha:PT X a tA):PW X (.BoolOp .And [a] pos) tA:=by
 intro wh pins s σ H Q I h
 refine isTrue_and (By (ha pins s σ H Q I h) fun c s1 e=>?_)
 cases c with
 | true=>exact isTrue_and_nil e
 | false=>exact e
theorem HJ (ha:PT X a tA):PW X (.BoolOp .Or [a] pos) tA:=by
 intro wh pins s σ H Q I h
 refine isTrue_or (By (ha pins s σ H Q I h) fun c s1 e=>?_)
 cases c with
 | false=>exact isTrue_or_nil e
 | true=>exact e
theorem Ia (ha:PT X a tA) (hb:PW X (.BoolOp .And (b::rest) pos) tB'):PW X (.BoolOp .And (a::b::rest) pos) (iV tA tB'):=by
 intro wh pins s σ H Q I h
 refine isTrue_and (By (ha pins s σ H _ I h) fun c s1 hq0=>?_)
 obtain ⟨H1,I1,q1⟩:=hq0
 cases c with
 | true=>exact hb wh pins s1 σ H1 Q I1 q1
 | false=>exact ⟨H1,I1,q1⟩
theorem JB (ha:PT X a tA) (hb:PW X (.BoolOp .Or (b::rest) pos) tB'):PW X (.BoolOp .Or (a::b::rest) pos) (gm tA tB'):=by
 intro wh pins s σ H Q I h
 refine isTrue_or (By (ha pins s σ H _ I h) fun c s1 hq0=>?_)
 obtain ⟨H1,I1,q1⟩:=hq0
 cases c with
 | true=>exact ⟨H1,I1,q1⟩
 | false=>exact hb wh pins s1 σ H1 Q I1 q1
theorem Dz (ha:PT X a tA):PT X (.UnaryOp .Not a pos) (gW tA):=by
 intro pins s σ H Q I h
 exact isTrue_not (ha pins s σ H (fun c H1=>Q (!c) H1) I h)
noncomputable def aj (ta tb:TE):TE:=fun σ H Q=>ta σ H fun x H1=>∃ c,x=.bl c/\if c=true then tb σ H1 Q else Q (.bl false) H1
noncomputable def iJ (ta tb:TE):TE:=fun σ H Q=>ta σ H fun x H1=>∃ c,x=.bl c/\if c=true then Q (.bl true) H1 else tb σ H1 Q
noncomputable def dN (ta:TE):TE:=fun σ H Q=>ta σ H fun x H1=>∃ c,x=.bl c/\Q (.bl (!c)) H1
theorem Dg {op} {t:TE} (h:PE X a t):PE X (.BoolOp op [a] pos) t:=fun pins s σ H Q I hw=>BoolOp_one (h pins s σ H Q I hw)
theorem Do (ha:PE X a ta) (hb:PE X (.BoolOp .And (b::rest) pos) tb):PE X (.BoolOp .And (a::b::rest) pos) (aj ta tb):=by
 intro pins s σ H Q I h
 refine BoolOp_and (By (ha pins s σ H _ I h) fun v s1 hq0=>?_)
 obtain ⟨x,H1,I1,r1,q1⟩:=hq0
 obtain ⟨c,rfl,q1⟩:=q1
 cases r1
 refine wpAny_truthy_bool ?_
 cases c with
 | true=>exact hb pins s1 σ H1 Q I1 q1
 | false=>exact ⟨.bl false,H1,I1,rfl,q1⟩
theorem aD (ha:PE X a ta) (hb:PE X (.BoolOp .Or (b::rest) pos) tb):PE X (.BoolOp .Or (a::b::rest) pos) (iJ ta tb):=by
 intro pins s σ H Q I h
 refine BoolOp_or (By (ha pins s σ H _ I h) fun v s1 hq0=>?_)
 obtain ⟨x,H1,I1,r1,q1⟩:=hq0
 obtain ⟨c,rfl,q1⟩:=q1
 cases r1
 refine wpAny_truthy_bool ?_
 cases c with
 | false=>exact hb pins s1 σ H1 Q I1 q1
 | true=>exact ⟨.bl true,H1,I1,rfl,q1⟩
theorem Nu (ha:PE X a ta):PE X (.UnaryOp .Not a pos) (dN ta):=by
 intro pins s σ H Q I h
 refine UnaryOp_ (By (ha pins s σ H _ I h) fun v s1 hq0=>?_)
 obtain ⟨x,H1,I1,r1,q1⟩:=hq0
 obtain ⟨c,rfl,q1⟩:=q1
 cases r1
 exact not_of (wpAny_truthy_bool ⟨.bl (!c),H1,I1,rfl,q1⟩)
noncomputable def jr (t:TT) (ta tb:TE):TE:=fun σ H Q=>t σ H fun c H1=>if c=true then ta σ H1 Q else tb σ H1 Q
theorem Tf {c:Expr} (hc:PT X c tA) (ha:PE X a ta) (hb:PE X b tb):PE X (.IfExp c a b pos) (jr tA ta tb):=by
 intro pins s σ H Q I h
 refine wpAny_IfExp (By (hc pins s σ H _ I h) fun d s1 hq0=>?_)
 obtain ⟨H1,I1,q1⟩:=hq0
 cases d with
 | true=>exact ha pins s1 σ H1 Q I1 q1
 | false=>exact hb pins s1 σ H1 Q I1 q1
end
end L2
namespace L2
open PySem PySem.Spec PyProof.Rows
noncomputable def CK (K:PySem.W.Frag) (H:Hp) (a:Addr) (xs:List V):Prop :=
 Rd H a (.lst xs) \/
  ∃ (o:Obj) (its:Array Value) (n:Nat),K.lookup a=some o/\o.cls=.type "list" /\ o.dict=none/\o.data=.seq its n/\its.size<=sizeLine/\Vals xs its.toList
noncomputable def Hc (K:PySem.W.Frag) (H:Hp) (a:Addr) (xs:List V):Prop :=
 Rd H a (.tup xs) \/
  ∃ (o:Obj) (its:Array Value) (n:Nat),K.lookup a=some o/\o.cls=.type "tuple" /\ o.data=.seq its n/\its.size<=sizeLine/\Vals xs its.toList
noncomputable def jK:Value->Option V
 | .none=>some .non
 | .bool b=>some (.bl b)
 | .int i _=>some (.int i)
 | .str x _=>some (.str x)
 | .bytes b _=>some (.byt b)
 | .float b _=>some (.flt b)
 | .ref a=>some (.ref a)
 | .type n=>some (.ty n)
 | _=>none
theorem RelV.abs {x:V} {u:Value} (r:RelV x u):jK u=some x:=by
 cases x with
 | non=>cases r; rfl
 | bl _=>cases r; rfl
 | int _=>obtain ⟨t,rfl⟩:=r; rfl
 | str _=>obtain ⟨t,rfl⟩:=r; rfl
 | byt _=>obtain ⟨t,rfl⟩:=r; rfl
 | flt _=>obtain ⟨t,rfl⟩:=r; rfl
 | ref _=>cases r; rfl
 | ty _=>cases r; rfl
theorem RelV.inj {x y:V} {u:Value} (r:RelV x u) (q:RelV y u):x=y:=Option.some.inj (r.abs.symm.trans q.abs)
theorem Vals.inj:∀ {xs ys:List V} {us:List Value},Vals xs us->Vals ys us->xs=ys
 | _,_,_,.nil,.nil=>rfl
 | _,_,_,.cons r t,.cons r' t'=>by rw [r.inj r',Vals.inj t t']
section
variable {X:Cx} {pins:List (Addr × Obj)} {σ:St} {H:Hp} {s:Shared} {a:Addr} {xs ys:List V}
theorem Inv.list (I:Inv X pins σ H s) (h:CK X.K H a xs):∃ its:List Value,Vals xs its/\PlainL s.heap a its.toArray/\xs.length<=sizeLine:=by
 rcases h with h | ⟨o,its,n,hk,hc,hd,hs,hz,r⟩
 ·obtain ⟨z,its,n,r,e⟩:=h.ok I.hok
  exact ⟨its,r,⟨_,n,e,rfl,rfl,rfl⟩,z⟩
 ·refine ⟨its.toList,r,⟨o,n,I.H_ a o hk,hc,hd,by simpa using hs⟩,?_⟩
  have e:=r.length
  simp only [Array.length_toList] at e
  omega
theorem Inv.tuple (I:Inv X pins σ H s) (h:Hc X.K H a xs):∃ its:List Value,Vals xs its/\IsTup s.heap a its.toArray/\xs.length<=sizeLine:=by
 rcases h with h | ⟨o,its,n,hk,hc,hs,hz,r⟩
 ·obtain ⟨z,its,r,p⟩:=h.ok I.hok
  exact ⟨its,r,p,z⟩
 ·refine ⟨its.toList,r,⟨o,I.H_ a o hk,hc,n,by simpa using hs⟩,?_⟩
  have e:=r.length
  simp only [Array.length_toList] at e
  omega
theorem Inv.Hr (I:Inv X pins σ H s) (h:CK X.K H a xs) (h':CK X.K H a ys):xs=ys:=by
 obtain ⟨its,r,⟨o,n,e,_,_,d⟩,_⟩:=I.list h
 obtain ⟨its',r',⟨o',n',e',_,_,d'⟩,_⟩:=I.list h'
 rw [e] at e'; cases e'
 rw [d] at d'
 injection d' with d1 _
 have:its=its':=by simpa using congrArg Array.toList d1
 subst this
 exact r.inj r'
theorem Inv.Ir (I:Inv X pins σ H s) (h:Hc X.K H a xs) (h':Hc X.K H a ys):xs=ys:=by
 obtain ⟨its,r,⟨o,e,_,n,d⟩,_⟩:=I.tuple h
 obtain ⟨its',r',⟨o',e',_,n',d'⟩,_⟩:=I.tuple h'
 rw [e] at e'; cases e'
 rw [d] at d'
 injection d' with d1 _
 have:its=its':=by simpa using congrArg Array.toList d1
 subst this
 exact r.inj r'
end
noncomputable abbrev Cx.wish (X:Cx) (E:Value->Shared->Prop):Cx:={ X with xe:=E }
noncomputable abbrev Cx.gC (X:Cx):Cx:=X.wish fun _ _=>False
theorem Cx.Ok.wish {X:Cx} (ok:X.Ok) (E:Value->Shared->Prop):(X.wish E).Ok :=
 ⟨ok.mod,ok.kind,ok.glob,ok.blt,ok.above,ok.inj,ok.has,ok.cab,ok.hd,ok.frames,ok.stk,ok.exf,ok.bs,ok.bsz,ok.noex,ok.exfs,ok.JG,ok.frf⟩
theorem Cx.Ok.GJ {X:Cx} {E:Value->Shared->Prop} (ok:(X.wish E).Ok):X.Ok :=
 ⟨ok.mod,ok.kind,ok.glob,ok.blt,ok.above,ok.inj,ok.has,ok.cab,ok.hd,ok.frames,ok.stk,ok.exf,ok.bs,ok.bsz,ok.noex,ok.exfs,ok.JG,ok.frf⟩
section
variable {X:Cx} {pins:List (Addr × Obj)} {σ:St} {H:Hp} {s:Shared} {E:Value->Shared->Prop}
theorem Inv.wish (I:Inv X pins σ H s) (E:Value->Shared->Prop):Inv (X.wish E) pins σ H s:=⟨I.ok.wish E,I.os,I.bare,I.base,I.loc,I.cell,I.free,I.freeC,I.pin,I.hok,I.len⟩
theorem Inv.GJ (I:Inv (X.wish E) pins σ H s):Inv X pins σ H s:=⟨I.ok.GJ,I.os,I.bare,I.base,I.loc,I.cell,I.free,I.freeC,I.pin,I.hok,I.len⟩
theorem SP.GJ {D:Ends} {f:Flow} {s':Shared} (h:SP (X.wish E) pins D f s'):SP X pins D f s':=by
 cases f with
 | next=>obtain ⟨σ',H',I,q⟩:=h; exact ⟨σ',H',I.GJ,q⟩
 | brk=>obtain ⟨σ',H',I,q⟩:=h; exact ⟨σ',H',I.GJ,q⟩
 | cont=>obtain ⟨σ',H',I,q⟩:=h; exact ⟨σ',H',I.GJ,q⟩
 | ret u=>obtain ⟨v,σ',H',I,r,q⟩:=h; exact ⟨v,σ',H',I.GJ,r,q⟩
theorem QQ.gC {st:List Stmt} {t:TS} (h:QQ X.gC st t):QQ X st t:=fun pins s σ H D I hw =>
 wpAny_mono (h pins s σ H D (I.wish _) hw) (fun _ _ q=>q.GJ) fun _ _ z=>False.elim z
end
section
variable {X:Cx} {st:Stmt} {rest:List Stmt} {t u:TS} {e:Expr} {te:TE} {pos:Pos}
noncomputable def Z9:TS:=fun D σ H=>D.nx σ H
noncomputable def fC (t u:TS):TS:=fun D σ H=>t { D with nx:=u D } σ H
theorem Bj:QQ X [] Z9:=fun _ _ σ H _ I h=>wpAny_execs_nil ⟨σ,H,I,h⟩
theorem Ae (h1:PS X st t) (h2:QQ X rest u):QQ X (st::rest) (fC t u):=by
 intro pins s σ H D I h
 refine wpAny_execs_cons (By (h1 pins s σ H { D with nx:=u D } I h) fun f s1 q=>?_)
 cases f with
 | next =>
  obtain ⟨σ',H',I',q⟩:=q
  exact h2 pins s1 σ' H' D I' q
 | ret v=>exact q
 | brk=>exact q
 | cont=>exact q
theorem Af (h1:PS X st t):QQ X [st] t:=by
 intro pins s σ H D I h
 refine wpAny_execs_cons (By (h1 pins s σ H D I h) fun f s1 q=>?_)
 cases f with
 | next=>exact wpAny_execs_nil q
 | ret v=>exact q
 | brk=>exact q
 | cont=>exact q
noncomputable def Wj:TS:=fun D σ H=>D.bk σ H
theorem Rh:PS X (.Break pos) Wj:=fun _ _ σ H _ I h=>wpAny_Break ⟨σ,H,I,h⟩
theorem Inv.quiet {pins:List (Addr × Obj)} {σ:St} {H:Hp} {s:Shared} (I:Inv X pins σ H s):interactive X.env=false:=by simp [interactive,I.ok.kind]
noncomputable def Zi (te:TE):TS:=fun D σ H=>te σ H fun _ H1=>D.nx σ H1
theorem C_ (he:PE X e te) (hs:swapsWith e none pos.line X.env=pure false:=by rfl):PS X (.Expr e pos) (Zi te):=by
 intro pins s σ H D I h
 exact wpAny_Expr_any (By (he pins s σ H _ I h) fun v s1 ⟨x,H1,I1,r1,q1⟩=>⟨σ,H1,I1,q1⟩) I.quiet hs
noncomputable def gk (te:TE):TS:=fun D σ H=>te σ H D.rt
theorem A_ (he:PE X e te):PS X (.Return (some e) pos) (gk te):=by
 intro pins s σ H D I h
 exact wpAny_Return_some (By (he pins s σ H _ I h) fun v s1 ⟨x,H1,I1,r1,q1⟩=>⟨x,σ,H1,I1,r1,q1⟩)
noncomputable def ig (c:TT) (t u:TS):TS:=fun D σ H=>c σ H fun b H1=>if b=true then t D σ H1 else u D σ H1
theorem CT {c:Expr} {a b:List Stmt} {tc:TT} (hc:PT X c tc) (ha:QQ X a t) (hb:QQ X b u):PS X (.If c a b pos) (ig tc t u):=by
 intro pins s σ H D I h
 refine wpAny_If (By (hc pins s σ H _ I h) fun d s1 hq0=>?_)
 obtain ⟨H1,I1,q1⟩:=hq0
 cases d with
 | true=>exact ha pins s1 σ H1 D I1 q1
 | false=>exact hb pins s1 σ H1 D I1 q1
noncomputable def Ww:TS:=fun _ _ _=>False
theorem Gh:PS X st Ww:=fun _ _ _ _ _ _ h=>h.elim
end
noncomputable abbrev TG:=V->St->Hp->(St->Hp->Prop)->Prop
noncomputable abbrev Vq:=List V->St->Hp->(St->Hp->Prop)->Prop
noncomputable def PG (X:Cx) (target:Expr) (t:TG):Prop :=
 ∀ (pins:List (Addr × Obj)) (s:Shared) (σ:St) (H:Hp) (v:V) (u:Value) (Q:St->Hp->Prop),Inv X pins σ H s->RelV v u->t v σ H Q ->
  wpAny (model X.prog X.w) X.A (assign target X.env u) (fun _ s'=>∃ σ' H',Inv X pins σ' H' s'/\Q σ' H') X.xe s
noncomputable def cT (X:Cx) (ts:List Expr) (t:Vq):Prop :=
 ∀ (pins:List (Addr × Obj)) (s:Shared) (σ:St) (H:Hp) (vs:List V) (us:List Value) (Q:St->Hp->Prop),Inv X pins σ H s->Vals vs us->t vs σ H Q ->
  wpAny (model X.prog X.w) X.A (assignInOrder ((assignEach ts X.env).map (·.2)) us) (fun _ s'=>∃ σ' H',Inv X pins σ' H' s'/\Q σ' H') X.xe s
section
variable {X:Cx} {pos:Pos}
noncomputable def Cz (i:Nat):TG:=fun v σ H Q=>Q (σ.set i (some v)) H
theorem Bb {i:Nat} {x:Str} (hN:X.N.Nodup) (hi:X.N[i]? = some x) (hx:Loc X.env.scope x) (hf:X.fn x=true \/ X.env.scope.names.lookup x=some .local:=by first | exact .inl rfl | exact .inr rfl | assumption):PG X (.Name x pos) (Cz i):=by
 intro pins s σ H v u Q I r h
 exact wpAny_assign_Name (JS I hN hi hx r (fun s' I'=>⟨_,H,I',h⟩) hf)
noncomputable def Tp:Vq:=fun vs σ H Q=>vs=[]/\Q σ H
noncomputable def Hm (t:TG) (u:Vq):Vq:=fun vs σ H Q=>∃ v r,vs=v::r/\t v σ H fun σ' H'=>u r σ' H' Q
theorem EY:cT X [] Tp:=by
 intro pins s σ H vs us Q I r h
 obtain ⟨e,h⟩:=h
 subst e
 cases r
 exact assignInOrder_nil ⟨σ,H,I,h⟩
theorem Bh {e:Expr} {es:List Expr} {t:TG} {u:Vq} (h1:PG X e t) (h2:cT X es u)
  (hs:(assignEach (e::es) X.env).map (·.2)=assign e X.env::(assignEach es X.env).map (·.2):=by rfl):cT X (e::es) (Hm t u):=by
 intro pins s σ H vs us Q I r h
 obtain ⟨v,vr,e1,h⟩:=h
 subst e1
 cases r with
 | cons r rr =>
  rw [hs]
  refine assignInOrder_cons (By (h1 pins s σ H _ _ _ I r h) fun _ s1 hq0=>?_)
  obtain ⟨σ1,H1,I1,q1⟩:=hq0
  exact h2 pins s1 σ1 H1 _ _ Q I1 rr q1
noncomputable def S9 (K:PySem.W.Frag) (n:Nat) (t:Vq):TG:=fun v σ H Q=>∃ a xs,v=.ref a/\Hc K H a xs/\xs.length=n/\t xs σ H Q
theorem Fx {es:List Expr} {k:Nat} {t:Vq} {n:Nat} (hc:X.calm=true) (h:cT X es t)
  (hn:(assignEach es X.env).length=n:=by rfl) (hst:(assignEach es X.env).findIdx? (·.1)=none:=by rfl):PG X (.Tuple es k pos) (S9 X.K n t):=by
 intro pins s σ H v u Q I r hw
 obtain ⟨a,xs,e1,hq,hl,hw⟩:=hw
 subst e1
 cases r
 obtain ⟨its,rv,ht,hz⟩:=I.tuple hq
 refine assign_Tuple_tuple (I.ok.hd hc) ht (by simp [hn,← hl,rv.length]) hst fun h' hx=>?_
 have I1:Inv X pins σ H { s with heap:=h' }:=I.kept (t':=s.toks) fun b o e=>hx b o (Nat.ne_of_lt (Heap.lt_size e)) e
 exact h pins _ σ H xs _ Q I1 (by simpa using rv) hw
noncomputable def Wx (te:TE) (g:TG):TS:=fun D σ H=>te σ H fun x H1=>g x σ H1 D.nx
theorem N8 {tg e:Expr} {te:TE} {g:TG} (he:PE X e te) (hg:PG X tg g) (hs:swapsWithSole [tg] e pos.line X.env=pure false:=by rfl) (hw:swappedStores [tg] e X.env=pure none:=by rfl)
  (h1:(assignEach [tg] X.env).map (·.2)=[assign tg X.env]:=by rfl):PS X (.Assign [tg] e pos) (Wx te g):=by
 intro pins s σ H D I h
 refine wpAny_Assign_stores (By (he pins s σ H _ I h) fun v s1 ⟨x,H1,I1,r1,q1⟩=>?_) hs hw
 rw [h1]
 exact By (hg pins s1 σ H1 x v _ I1 r1 q1) fun _ s2 q=>q
theorem BJ {i:Nat} {x:Str} {e:Expr} {te:TE} {pos':Pos} (hN:X.N.Nodup) (hi:X.N[i]? = some x) (hx:Loc X.env.scope x) (he:PE X e te) (hs:swapsWith e (some (.Name x pos')) pos.line X.env=pure false:=by rfl) (hf:X.fn x=true \/ X.env.scope.names.lookup x=some .local:=by first | exact .inl rfl | exact .inr rfl | assumption) :
  PS X (.Assign [.Name x pos'] e pos) (Wx te (Cz i)):=by
 intro pins s σ H D I h
 refine wpAny_Assign_Name (By (he pins s σ H _ I h) fun v s1 ⟨y,H1,I1,r1,q1⟩=>?_) hs
 exact JS I1 hN hi hx r1 (fun s2 I2=>⟨_,H1,I2,q1⟩) hf
end
section
variable {X:Cx} {pos:Pos}
noncomputable def LQ (c:TT) (tb:TS):TS:=fun D σ H=>∃ W:Nat->St->Hp->Prop,(∃ m,W m σ H)/\∀ m σ H,W m σ H ->
 c σ H fun b H1=>if b=true then ∃ N:St->Hp->Prop,(∀ σ' H',N σ' H'->∃ m',m'<m/\W m' σ' H')/\tb { D with nx:=N,ct:=N,bk:=D.nx } σ H1 else D.nx σ H1
theorem Jm {c:Expr} {body:List Stmt} {tc:TT} {tb:TS} (hp:PassesOwn (model X.prog X.w) X.A X.env X.xe) (hc:PT X c tc) (hb:QQ X body tb):PS X (.While c body [] pos) (LQ tc tb):=by
 intro pins s σ H D I h
 obtain ⟨W,⟨m0,w0⟩,turn⟩:=h
 refine wpAny_While (codeAny_whileLoop (fun n s'=>∃ σ' H',Inv X pins σ' H' s'/\W n σ' H') ?_ m0 ⟨σ,H,I,w0⟩)
 rintro n s1 ⟨σ1,H1,I1,w1⟩
 refine wpAny_passesOwn hp (By (hc pins s1 σ1 H1 _ I1 (turn n σ1 H1 w1)) fun b s2 hq0=>?_)
 obtain ⟨H2,I2,q2⟩:=hq0
 cases b with
 | true =>
  obtain ⟨N,hN,q2⟩:=q2
  rw [if_pos rfl]
  refine wpAny_passesOwn hp (By (hb pins s2 σ1 H2 _ I2 q2) fun f s3 q3=>?_)
  cases f with
  | next =>
   obtain ⟨σ3,H3,I3,n3⟩:=q3
   obtain ⟨m',hm,w3⟩:=hN σ3 H3 n3
   exact ⟨m',hm,σ3,H3,I3,w3⟩
  | cont =>
   obtain ⟨σ3,H3,I3,n3⟩:=q3
   obtain ⟨m',hm,w3⟩:=hN σ3 H3 n3
   exact ⟨m',hm,σ3,H3,I3,w3⟩
  | brk=>exact q3
  | ret v=>exact q3
 | false =>
  rw [if_neg Bool.false_ne_true]
  exact wpAny_execs_nil ⟨σ1,H2,I2,q2⟩
end
structure It where
 go:Nat->Hp->Prop
 yld:Nat->Hp->V->Hp->Prop
 stop:Nat->Hp->Prop
noncomputable def Fq (X:Cx) (pins:List (Addr × Obj)) (H:Hp) (b:Addr):Prop :=
 H b=none/\b ≠ X.env.locals/\b ∉ X.fs/\(b∈X.ex \/ X.s₀.heap.objs.size<=b)/\(∀ x c,X.env.cells.lookup x=some c->c ≠ b)/\∀ p∈X.pn++pins,p.1 ≠ b
theorem Inv.J9 {X:Cx} {pins:List (Addr × Obj)} {σ:St} {H H':Hp} {s:Shared} {b:Addr} (I:Inv X pins σ H s) (hb:s.heap.objs.size<=b) (hn:H' b=none):Fq X pins H' b:=by
 refine ⟨hn,Nat.ne_of_gt (Nat.lt_of_lt_of_le I.lt hb),I.g_ hb,.inr (Nat.le_trans I.sz hb),fun x c e z=>?_,fun p hp z=>?_⟩
 ·obtain ⟨v,q⟩:=I.cell x c e
  exact absurd (Nat.lt_of_lt_of_le q.lt (by rw [z]; exact hb)) (Nat.lt_irrefl _)
 ·exact absurd (Nat.lt_of_lt_of_le (Heap.lt_size (I.pin p hp).1) (by rw [z]; exact hb)) (Nat.lt_irrefl _)
structure Turn (P:Program) (w:World) (K:PySem.W.Frag) (tg:Expr) (J:It) (fp:List Addr) (it:Addr) (tn:Nat->Heap->Prop):Prop where
 mem:it∈fp
 obj:∀ i h,tn i h->∀ b∈fp,∃ o,h.get? b=some o/\∀ v,o.data ≠ .cell v
 keep:∀ i h h',tn i h->(∀ b∈fp,∀ o,h.get? b=some o->h'.get? b=some o)->tn i h'
 item:∀ (X:Cx),X.prog=P->X.w=w->X.K=K->X.calm=true->∀ (i:Nat) (pins:List (Addr × Obj)) (s:Shared) (σ:St) (H:Hp) (E:Value->Shared->Prop),Inv X pins σ H s->(∀ b∈fp,Fq X pins H b)->tn i s.heap->J.go i H ->
  wpAny (model P w) X.A (pyNext (.ref it)) (fun r s1=>∃ u,r=some u /\
   wpAny (model P w) X.A (letOwnedTupleGo tg (.ref it) u) (fun _ s2=>∃ x H',Inv X pins σ H' s2/\RelV x u/\J.yld i H x H'/\tn (i+1) s2.heap/\∀ b∈fp,H' b=none) E s1) E s
 done:∀ (X:Cx),X.prog=P->X.w=w->X.K=K->X.calm=true->∀ (i:Nat) (pins:List (Addr × Obj)) (s:Shared) (σ:St) (H:Hp) (E:Value->Shared->Prop),Inv X pins σ H s->(∀ b∈fp,Fq X pins H b)->tn i s.heap->J.stop i H ->
  wpAny (model P w) X.A (pyNext (.ref it)) (fun r s1=>r=none/\Inv X pins σ H s1) E s
 self:∀ (A:Around) (i:Nat) (s:Shared) (Q:Value->Shared->Prop) (E:Value->Shared->Prop),tn i s.heap->Q (.ref it) s->wpAny (model P w) A (pyIter (.ref it)) Q E s
noncomputable abbrev TI:=St->Hp->(It->Hp->Prop)->Prop
noncomputable def PIE (X:Cx) (pins:List (Addr × Obj)) (σ:St) (tg:Expr) (R:It->Hp->Prop) (itv:Value) (s2:Shared):Prop :=
 ∃ (it:Addr) (fp:List Addr) (tn:Nat->Heap->Prop) (J:It) (H':Hp),itv=.ref it/\Inv X pins σ H' s2/\Turn X.prog X.w X.K tg J fp it tn/\tn 0 s2.heap/\(∀ b∈fp,Fq X pins H' b)/\R J H'
noncomputable def PI (X:Cx) (tg iter:Expr) (wi:TI):Prop :=
 ∀ (pins:List (Addr × Obj)) (s:Shared) (σ:St) (H:Hp) (R:It->Hp->Prop),Inv X pins σ H s->wi σ H R ->
  wpAny (model X.prog X.w) X.A (eval iter X.env) (fun v s1=>wpAny (model X.prog X.w) X.A (pyIter v) (PIE X pins σ tg R) X.xe s1) X.xe s
theorem M9 {M:Model} {A:Around} {E:Value->Shared->Prop} {s:Shared} {tg:Expr} {it:Addr} {u:Value} {o:Obj} {n:String} {vs:Array Value} {Q:Unit->Shared->Prop} (ho:s.heap.get? it=some o) (hc:o.cls=.type n) (hd:o.data=.fields vs)
  (hn:["enumerate","zip","dict_itemiterator","dict_reverseitemiterator","odict_iterator","itertools.zip_longest","itertools.pairwise"].contains n=false) (hQ:Q () s):wpAny M A (letOwnedTupleGo tg (.ref it) u) Q E s:=by
 unfold letOwnedTupleGo
 cases tg <;> first
  | exact wpAny_pure hQ
  | (cases u <;> first
    | exact wpAny_pure hQ
    | (refine wpAny_bind (wpAny_load ho ?_)
       rw [hc,hd]
       show wpAny M A (if (["enumerate","zip","dict_itemiterator","dict_reverseitemiterator","odict_iterator","itertools.zip_longest","itertools.pairwise"].contains n && vs[0]? == some (rawInt _))=true then _ else _) Q E s
       rw [if_neg (by intro h; rw [hn,Bool.false_and] at h; cases h)]
       exact wpAny_pure hQ))
noncomputable def W3 (K:PySem.W.Frag) (a:Addr):It :=
 ⟨fun i H=>∃ xs x,CK K H a xs/\xs[i]? = some x,fun i H x H'=>H'=H/\∀ xs,CK K H a xs->xs[i]? = some x,fun i H=>∃ xs,CK K H a xs/\xs.length<=i⟩
noncomputable def jk (K:PySem.W.Frag) (a:Addr):It :=
 ⟨fun i H=>∃ xs x,Hc K H a xs/\xs[i]? = some x,fun i H x H'=>H'=H/\∀ xs,Hc K H a xs->xs[i]? = some x,fun i H=>∃ xs,Hc K H a xs/\xs.length<=i⟩
noncomputable def WP (lo:Int) (n:Nat):It:=⟨fun i _=>i<n,fun i H x H'=>H'=H/\x=.int (lo+i),fun i _=>n<=i⟩
theorem RC {P:Program} {w:World} {K:PySem.W.Frag} {tg:Expr} (a it:Addr):Turn P w K tg (W3 K a) [it] it (fun i h=>h.IsListIter it a i) where
 mem:=by simp
 obj:=fun i h st b hb=>by
  have e:b=it:=by simpa using hb
  subst e
  obtain ⟨o,e,c,d⟩:=st
  exact ⟨o,e,fun v z=>by rw [d] at z; cases z⟩
 keep:=fun i h h' st k=>st.at fun o e=>k it (by simp) o e
 item:=by
  intro X hP hw hK hc i pins s σ H E I hf st hg
  subst hP hw hK
  obtain ⟨xs,x,hq,hx⟩:=hg
  obtain ⟨its,rv,p,hz⟩:=I.list hq
  obtain ⟨u,hu,ru⟩:=rv.get hx
  obtain ⟨f0,f1,f2,f3,f4,f5⟩:=hf it (by simp)
  refine wpAny_pyNext_list_item st p.isList (x:=u) (by simpa using hu) fun h' st' sb=>?_
  have I1:Inv X pins σ H { s with heap:=h' }:=I.turned (t':=s.toks) (fun b o hb e=>(sb.2 b hb).trans e) f0 f1 f3 f4 f5
  obtain ⟨o,e,c,d⟩:=id st'
  exact ⟨u,rfl,M9 (s:={ s with heap:=h' }) e c d (by decide) ⟨x,H,I1,ru,⟨rfl,fun ys hy=>by rw [I.Hr hy hq]; exact hx⟩,st',fun b hb=>(hf b hb).1⟩⟩
 done:=by
  intro X hP hw hK hc i pins s σ H E I hf st hg
  subst hP hw hK
  obtain ⟨xs,hq,hx⟩:=hg
  obtain ⟨its,rv,p,hz⟩:=I.list hq
  obtain ⟨f0,f1,f2,f3,f4,f5⟩:=hf it (by simp)
  have hl:=rv.length
  exact wpAny_pyNext_list_end (I.ok.hd hc) st p.isList (by simp; omega) fun h' eb=>⟨rfl,I.turned (t':=s.toks) (fun b o hb e=>eb b o hb e) f0 f1 f3 f4 f5⟩
 self:=fun _ _ _ _ _ st h=>wpAny_pyIter_listiter st h
theorem OJ {P:Program} {w:World} {K:PySem.W.Frag} {tg:Expr} (a it:Addr):Turn P w K tg (jk K a) [it] it (fun i h=>h.IsTupleIter it a i) where
 mem:=by simp
 obj:=fun i h st b hb=>by
  have e:b=it:=by simpa using hb
  subst e
  obtain ⟨o,e,c,d⟩:=st
  exact ⟨o,e,fun v z=>by rw [d] at z; cases z⟩
 keep:=fun i h h' st k=>st.at fun o e=>k it (by simp) o e
 item:=by
  intro X hP hw hK hc i pins s σ H E I hf st hg
  subst hP hw hK
  obtain ⟨xs,x,hq,hx⟩:=hg
  obtain ⟨its,rv,p,hz⟩:=I.tuple hq
  obtain ⟨u,hu,ru⟩:=rv.get hx
  obtain ⟨f0,f1,f2,f3,f4,f5⟩:=hf it (by simp)
  refine wpAny_pyNext_tuple_item st (show s.heap.IsTuple a its.toArray from p) (x:=u) (by simpa using hu) fun h' st' sb=>?_
  have I1:Inv X pins σ H { s with heap:=h' }:=I.turned (t':=s.toks) (fun b o hb e=>(sb.2 b hb).trans e) f0 f1 f3 f4 f5
  obtain ⟨o,e,c,d⟩:=id st'
  exact ⟨u,rfl,M9 (s:={ s with heap:=h' }) e c d (by decide) ⟨x,H,I1,ru,⟨rfl,fun ys hy=>by rw [I.Ir hy hq]; exact hx⟩,st',fun b hb=>(hf b hb).1⟩⟩
 done:=by
  intro X hP hw hK hc i pins s σ H E I hf st hg
  subst hP hw hK
  obtain ⟨xs,hq,hx⟩:=hg
  obtain ⟨its,rv,p,hz⟩:=I.tuple hq
  obtain ⟨f0,f1,f2,f3,f4,f5⟩:=hf it (by simp)
  have hl:=rv.length
  exact wpAny_pyNext_tuple_end (I.ok.hd hc) st (show s.heap.IsTuple a its.toArray from p) (by simp; omega) fun h' eb=>⟨rfl,I.turned (t':=s.toks) (fun b o hb e=>eb b o hb e) f0 f1 f3 f4 f5⟩
 self:=fun _ _ _ _ _ st h=>wpAny_pyIter_tupleiter st h
theorem NZ {P:Program} {w:World} {K:PySem.W.Frag} {tg:Expr} (it:Addr) (lo:Int) (n:Nat):Turn P w K tg (WP lo n) [it] it (fun i h=>IsRangeIter h it (lo+(i:Nat) * 1) ((n:Int) - (i:Nat)) 1) where
 mem:=by simp
 obj:=fun i h st b hb=>by
  have e:b=it:=by simpa using hb
  subst e
  exact ⟨_,st,fun v z=>by
   have z':Data.fields _=Data.cell v:=z
   cases z'⟩
 keep:=fun i h h' st k=>k it (by simp) _ st
 item:=by
  intro X hP hw hK hc i pins s σ H E I hf st hg
  subst hP hw hK
  obtain ⟨f0,f1,f2,f3,f4,f5⟩:=hf it (by simp)
  have W:=Walks.range (prog:=X.prog) (w:=X.w) (I.ok.hd hc) it lo 1 n
  refine W.item i s _ _ hg st fun v h' tk hv st' kk=>?_
  obtain ⟨t,rfl⟩:=hv
  have I1:Inv X pins σ H { s with heap:=h',toks:=tk }:=I.turned (fun b o hb e=>kk b o (by simpa using hb) e) f0 f1 f3 f4 f5
  refine ⟨_,rfl,M9 (s:={ s with heap:=h',toks:=tk }) (n:="range_iterator") st' rfl rfl (by decide) ⟨.int (lo+i),H,I1,⟨t,?_⟩,⟨rfl,rfl⟩,st',fun b hb=>(hf b hb).1⟩⟩
  rw [Int.mul_one]
 done:=by
  intro X hP hw hK hc i pins s σ H E I hf st hg
  subst hP hw hK
  obtain ⟨f0,f1,f2,f3,f4,f5⟩:=hf it (by simp)
  exact wpAny_pyNext_range_end (I.ok.hd hc) st (by have:n<=i:=hg; omega) fun h' eb=>⟨rfl,I.turned (t':=s.toks) (fun b o hb e=>eb b o hb e) f0 f1 f3 f4 f5⟩
 self:=fun _ _ _ _ _ st h=>wpAny_pyIter_rangeiter st h
end L2
namespace L2
open PySem PySem.Spec PyProof.Rows
section
variable {X:Cx} {tg:Expr}
noncomputable def Z_ (K:PySem.W.Frag) (tl:TE):TI:=fun σ H R=>tl σ H fun x H1=>∃ a,x=.ref a/\(∃ xs,CK K H1 a xs)/\R (W3 K a) H1
noncomputable def jb (K:PySem.W.Frag) (tl:TE):TI:=fun σ H R=>tl σ H fun x H1=>∃ a,x=.ref a/\(∃ xs,Hc K H1 a xs)/\R (jk K a) H1
theorem Bd {l:Expr} {tl:TE} (hl:PE X l tl):PI X tg l (Z_ X.K tl):=by
 intro pins s σ H R I h
 refine By (hl pins s σ H _ I h) fun v s1 hq0=>?_
 obtain ⟨x,H1,I1,r1,q1⟩:=hq0
 obtain ⟨a,e,⟨xs,hq⟩,q⟩:=q1
 subst e
 cases r1
 obtain ⟨its,rv,p,hz⟩:=I1.list hq
 refine wpAny_pyIter_list p.isList ?_
 refine ⟨s1.heap.objs.size,[s1.heap.objs.size],_,_,H1,rfl,I1.kept (t':=s1.toks) fun b o e=>Heap.get?_push_of_some _ e,RC a _,⟨_,Heap.get?_push_size _ rfl,rfl,rfl⟩,fun b hb=>?_,q⟩
 have e:b=s1.heap.objs.size:=by simpa using hb
 subst e
 exact I1.J9 (Nat.le_refl _) (I1.hok.fresh (Nat.le_refl _))
theorem X3 {l:Expr} {tl:TE} (hl:PE X l tl):PI X tg l (jb X.K tl):=by
 intro pins s σ H R I h
 refine By (hl pins s σ H _ I h) fun v s1 hq0=>?_
 obtain ⟨x,H1,I1,r1,q1⟩:=hq0
 obtain ⟨a,e,⟨xs,hq⟩,q⟩:=q1
 subst e
 cases r1
 obtain ⟨its,rv,p,hz⟩:=I1.tuple hq
 refine wpAny_pyIter_tuple (show s1.heap.IsTuple a its.toArray from p) ?_
 refine ⟨s1.heap.objs.size,[s1.heap.objs.size],_,_,H1,rfl,I1.kept (t':=s1.toks) fun b o e=>Heap.get?_push_of_some _ e,OJ a _,⟨_,Heap.get?_push_size _ rfl,rfl,rfl⟩,fun b hb=>?_,q⟩
 have e:b=s1.heap.objs.size:=by simpa using hb
 subst e
 exact I1.J9 (Nat.le_refl _) (I1.hok.fresh (Nat.le_refl _))
theorem R8 {pins:List (Addr × Obj)} {σ:St} {H:Hp} {s:Shared} {R:It->Hp->Prop} {E:Value->Shared->Prop} {lo hi:Int} {t u v:Tok} {tk:Nat} (I:Inv X pins σ H s) (h1 : -(2 ^ 62)<=lo) (h2:lo<2 ^ 62) (h3 : -(2 ^ 62)<=hi) (h4:hi<2 ^ 62)
  (q:R (WP lo (hi - lo).toNat) H):wpAny (model X.prog X.w) X.A (pyIter (.ref s.heap.objs.size)) (PIE X pins σ tg R) E { s with heap:=s.heap.push { cls:=.type "range",data:=.fields #[.int lo t,.int hi u,.int 1 v] },toks:=tk }:=by
 refine wpAny_pyIter_range (IsRange.new ..) (small_one h1 h2 h3 h4) ?_
 have I1:Inv X pins σ H { s with heap:=s.heap.push { cls:=.type "range",data:=.fields #[.int lo t,.int hi u,.int 1 v] },toks:=tk }:=I.kept fun b o e=>Heap.get?_push_of_some _ e
 refine ⟨(s.heap.push { cls:=.type "range",data:=.fields #[.int lo t,.int hi u,.int 1 v] }).objs.size,[(s.heap.push { cls:=.type "range",data:=.fields #[.int lo t,.int hi u,.int 1 v] }).objs.size],_,_,H,rfl,
  I1.kept (t':=tk) fun b o e=>Heap.get?_push_of_some _ e,NZ _ lo (hi - lo).toNat,?_,fun b hb=>?_,q⟩
 ·have e1:lo+((0:Nat):Int) * 1=lo:=by simp
  have e2:(((hi - lo).toNat:Nat):Int) - ((0:Nat):Int)=Builtin.Range.rangeSize lo hi 1:=by rw [rangeSize_one]; split <;> omega
  show IsRangeIter _ _ (lo+((0:Nat):Int) * 1) ((((hi - lo).toNat:Nat):Int) - ((0:Nat):Int)) 1
  rw [e1,e2]
  exact Heap.get?_push_size _ rfl
 ·have e:b=(s.heap.push { cls:=.type "range",data:=.fields #[.int lo t,.int hi u,.int 1 v] }).objs.size:=by simpa using hb
  subst e
  exact I1.J9 (Nat.le_refl _) (I1.hok.fresh (Nat.le_refl _))
noncomputable def bI (ta:TA):TI:=fun σ H R=>ta σ H fun vs H1=>∃ j:Int,vs=[.int j] /\ -(2 ^ 62)<=j/\j<2 ^ 62/\R (WP 0 j.toNat) H1
theorem Cj {a:Expr} {ta:TA} {p pos:Pos} (hg:Gl X "range") (hm:X.mg "range" = none) (ha:PA X [a] ta) (hs:starEach [a] X.env=[(false,eval a X.env)]:=by rfl):PI X tg (.Call (.Name "range" p) [a] [] pos) (bI ta):=by
 intro pins s σ H R I h
 refine Call_ (GR I hg hm boot_range (PyProof.Rows.callWith_type1 (By (ha pos pins s σ H _ I h) fun us s1 ⟨vs,H1,I1,r1,q1⟩=>?_) hs rfl))
 obtain ⟨j,e,q1,q2,q⟩:=q1
 subst e
 cases r1 with
 | cons r rr =>
  cases rr
  obtain ⟨t,rfl⟩:=r
  exact call_range_1 (R8 I1 (by omega) (by omega) q1 q2 (by simpa using q))
noncomputable def ir (wi:TI) (g:TG) (tb:TS):TS:=fun D σ H=>wi σ H fun J H1=>∃ W:Nat->Nat->St->Hp->Prop,(∃ m,W 0 m σ H1)/\∀ i m σ H,W i m σ H ->
 (J.stop i H/\D.nx σ H) \/ (J.go i H/\∃ N:St->Hp->Prop,(∀ σ' H',N σ' H'->∃ m',m'<m/\W (i+1) m' σ' H')/\∀ x H',J.yld i H x H'->g x σ H' fun σ2 H2=>tb { D with nx:=N,ct:=N,bk:=D.nx } σ2 H2)
noncomputable def Ik (fp:List Addr) (h:Heap):List (Addr × Obj):=fp.filterMap fun b=>(h.get? b).map fun o=>(b,o)
theorem Du {fp:List Addr} {h:Heap} {b:Addr} {o:Obj} (hb:b∈fp) (e:h.get? b=some o):(b,o)∈Ik fp h:=List.mem_filterMap.mpr ⟨b,hb,by rw [e]; rfl⟩
theorem RB {fp:List Addr} {h:Heap} {p:Addr × Obj} (hp:p∈Ik fp h):p.1∈fp/\h.get? p.1=some p.2:=by
 obtain ⟨b,hb,e⟩:=List.mem_filterMap.mp hp
 cases q:h.get? b with
 | none=>rw [q] at e; cases e
 | some o =>
  rw [q] at e
  have e':(b,o)=p:=Option.some.inj e
  subst e'
  exact ⟨hb,q⟩
theorem Inv.pinned {pins:List (Addr × Obj)} {σ:St} {H:Hp} {s:Shared} {fp:List Addr} (I:Inv X pins σ H s) (hf:∀ b∈fp,Fq X pins H b) (ho:∀ b∈fp,∃ o,s.heap.get? b=some o/\∀ v,o.data ≠ .cell v):Inv X (pins++Ik fp s.heap) σ H s :=
 I.Pk fun p hp=>(List.mem_append.mp hp).elim (fun z=>I.pin p (List.mem_append_right _ z)) fun z=>by
  obtain ⟨hb,e⟩:=RB z
  obtain ⟨f0,f1,f2,_⟩:=hf p.1 hb
  obtain ⟨o,e',d⟩:=ho p.1 hb
  rw [e] at e'; cases e'
  exact ⟨e,f0,f1,f2,d⟩
theorem Inv.GQ {pins pl:List (Addr × Obj)} {σ:St} {H:Hp} {s:Shared} (I:Inv X (pins++pl) σ H s):Inv X pins σ H s:=I.Pk fun p hp=>I.pin p (List.mem_append_right _ (List.mem_append_left _ hp))
theorem Ci {iter:Expr} {body:List Stmt} {wi:TI} {g:TG} {tb:TS} {pos:Pos} (hp:PassesOwn (model X.prog X.w) X.A X.env X.xe) (hc:X.calm=true) (hi:PI X tg iter wi) (hg:PG X tg g) (hb:QQ X body tb)
  (hs:∀ x,foldedSetIterable iter X.env x=pure x:=by intro _; rfl):PS X (.For tg iter body [] pos) (ir wi g tb):=by
 intro pins s σ H D I h
 refine wpAny_For (By (hi pins s σ H _ I h) fun v s1 h1=>By h1 fun itv s2 h2=>?_) hs
 obtain ⟨it,fp,tn,J,H2,e,I2,T,st2,f2,W,⟨m0,w0⟩,turn⟩:=h2
 subst e
 have stat:∀ {H':Hp},(∀ b∈fp,H' b=none)->∀ b∈fp,Fq X pins H' b:=fun hn b hb=>⟨hn b hb,(f2 b hb).2⟩
 refine codeAny_forLoop_any (fun n s'=>∃ i σ' H',Inv X pins σ' H' s'/\tn i s'.heap/\(∀ b∈fp,H' b=none)/\W i n σ' H') ?_ m0 ⟨0,σ,H2,I2,st2,fun b hb=>(f2 b hb).1,w0⟩
 rintro n s3 ⟨i,σ3,H3,I3,st3,fr3,w3⟩
 rcases turn i n σ3 H3 w3 with ⟨stop,qn⟩ | ⟨go,N,hN,step⟩
 ·refine wpAny_passesOwn hp (By (T.done X rfl rfl rfl hc i pins s3 σ3 H3 X.xe I3 (stat fr3) st3 stop) fun r s4 ⟨hr,I4⟩=>?_)
  subst hr
  exact wpAny_execs_nil ⟨σ3,H3,I4,qn⟩
 ·refine wpAny_passesOwn hp (By (T.item X rfl rfl rfl hc i pins s3 σ3 H3 X.xe I3 (stat fr3) st3 go) fun r s4 ⟨u,hr,h4⟩=>?_)
  subst hr
  refine wpAny_passesOwn hp (By h4 fun _ s5 hq0=>?_)
  obtain ⟨x,H5,I5,r5,y5,st5,fr5⟩:=hq0
  have I5':=I5.pinned (stat fr5) (T.obj _ _ st5)
  refine wpAny_passesOwn hp (By (hg _ s5 σ3 H5 x u _ I5' r5 (step x H5 y5)) fun _ s6 hq0=>?_)
  obtain ⟨σ6,H6,I6,q6⟩:=hq0
  refine wpAny_passesOwn hp (By (hb _ s6 σ6 H6 _ I6 q6) fun f s7 q7=>?_)
  have again:∀ {σ7:St} {H7:Hp},Inv X (pins++Ik fp s5.heap) σ7 H7 s7->N σ7 H7->∃ m,m<n/\∃ i σ' H',Inv X pins σ' H' s7/\tn i s7.heap/\(∀ b∈fp,H' b=none)/\W i m σ' H':=fun {σ7 H7} I7 n7=>by
   obtain ⟨m',hm,w7⟩:=hN σ7 H7 n7
   refine ⟨m',hm,i+1,σ7,H7,I7.GQ,T.keep _ _ _ st5 fun b hb o e=>(I7.pin (b,o) (List.mem_append_right _ (List.mem_append_right _ (Du hb e)))).1,fun b hb=>?_,w7⟩
   obtain ⟨o,e,d⟩:=T.obj _ _ st5 b hb
   exact (I7.pin (b,o) (List.mem_append_right _ (List.mem_append_right _ (Du hb e)))).2.1
  cases f with
  | next=>obtain ⟨σ7,H7,I7,n7⟩:=q7; exact again I7 n7
  | cont=>obtain ⟨σ7,H7,I7,n7⟩:=q7; exact again I7 n7
  | brk=>obtain ⟨σ7,H7,I7,q7⟩:=q7; exact ⟨σ7,H7,I7.GQ,q7⟩
  | ret v=>obtain ⟨x7,σ7,H7,I7,r7,q7⟩:=q7; exact ⟨x7,σ7,H7,I7.GQ,r7,q7⟩
end
theorem Cp {K:PySem.W.Frag} {a:Addr} {xs:List V} {g:TG} {tb:TS} {D:Ends} {σ:St} {H:Hp} (Pv:Nat->St->Hp->Prop) (h0:Pv 0 σ H) (hl:∀ i σ H,i<=xs.length->Pv i σ H->CK K H a xs)
  (hs:∀ i x σ H,xs[i]? = some x->Pv i σ H->g x σ H fun σ2 H2=>tb { D with nx:=Pv (i+1),ct:=Pv (i+1),bk:=D.nx } σ2 H2) (hd:∀ σ H,Pv xs.length σ H->D.nx σ H) :
  ∃ W:Nat->Nat->St->Hp->Prop,(∃ m,W 0 m σ H)/\∀ i m σ H,W i m σ H ->
   ((W3 K a).stop i H/\D.nx σ H) \/ ((W3 K a).go i H/\∃ N:St->Hp->Prop,(∀ σ' H',N σ' H'->∃ m',m'<m/\W (i+1) m' σ' H')/\∀ x H',(W3 K a).yld i H x H'->g x σ H' fun σ2 H2=>tb { D with nx:=N,ct:=N,bk:=D.nx } σ2 H2):=by
 refine ⟨fun i m σ H=>m=xs.length - i/\i<=xs.length/\Pv i σ H,⟨xs.length,by simp,Nat.zero_le _,h0⟩,?_⟩
 rintro i m σ H ⟨rfl,hi,p⟩
 have q:=hl i σ H hi p
 by_cases hlt:i<xs.length
 ·refine .inr ⟨⟨xs,xs[i],q,by simp [hlt]⟩,Pv (i+1),fun σ' H' p'=>⟨xs.length - (i+1),by omega,rfl,hlt,p'⟩,fun x H' y=>?_⟩
  obtain ⟨e,y⟩:=y
  subst e
  exact hs i x σ _ (y xs q) p
 ·have e:i=xs.length:=by omega
  subst e
  exact .inl ⟨⟨xs,q,Nat.le_refl _⟩,hd σ H p⟩
theorem Ie {lo:Int} {n:Nat} {g:TG} {tb:TS} {D:Ends} {σ:St} {H:Hp} (Pv:Nat->St->Hp->Prop) (h0:Pv 0 σ H)
  (hs:∀ i σ H,i<n->Pv i σ H->g (.int (lo+i)) σ H fun σ2 H2=>tb { D with nx:=Pv (i+1),ct:=Pv (i+1),bk:=D.nx } σ2 H2) (hd:∀ σ H,Pv n σ H->D.nx σ H) :
  ∃ W:Nat->Nat->St->Hp->Prop,(∃ m,W 0 m σ H)/\∀ i m σ H,W i m σ H ->
   ((WP lo n).stop i H/\D.nx σ H) \/ ((WP lo n).go i H/\∃ N:St->Hp->Prop,(∀ σ' H',N σ' H'->∃ m',m'<m/\W (i+1) m' σ' H')/\∀ x H',(WP lo n).yld i H x H'->g x σ H' fun σ2 H2=>tb { D with nx:=N,ct:=N,bk:=D.nx } σ2 H2):=by
 refine ⟨fun i m σ H=>m=n - i/\i<=n/\Pv i σ H,⟨n,by simp,Nat.zero_le _,h0⟩,?_⟩
 rintro i m σ H ⟨rfl,hi,p⟩
 by_cases hlt:i<n
 ·refine .inr ⟨hlt,Pv (i+1),fun σ' H' p'=>⟨n - (i+1),by omega,rfl,hlt,p'⟩,fun x H' y=>?_⟩
  obtain ⟨e,y⟩:=y
  subst e y
  exact hs i σ _ hlt p
 ·have e:i=n:=by omega
  subst e
  exact .inl ⟨Nat.le_refl _,hd σ H p⟩
theorem Jr {c:TT} {tb:TS} {D:Ends} {σ:St} {H:Hp} (Pv:St->Hp->Prop) (μ:St->Hp->Nat) (h0:Pv σ H)
  (hs:∀ σ H,Pv σ H->c σ H fun b H1=>if b=true then tb { D with nx:=fun σ' H'=>Pv σ' H'/\μ σ' H'<μ σ H,ct:=fun σ' H'=>Pv σ' H'/\μ σ' H'<μ σ H,bk:=D.nx } σ H1 else D.nx σ H1)
  (mono:∀ σ H Q Q',(∀ b H1,Q b H1->Q' b H1)->c σ H Q->c σ H Q'):LQ c tb D σ H:=by
 refine ⟨fun m σ H=>m=μ σ H/\Pv σ H,⟨_,rfl,h0⟩,?_⟩
 rintro m σ H ⟨rfl,p⟩
 refine mono σ H _ _ (fun b H1 q=>?_) (hs σ H p)
 cases b with
 | true=>exact ⟨_,fun σ' H' ⟨p',l⟩=>⟨_,l,rfl,p'⟩,q⟩
 | false=>exact q
end L2
namespace L2
open PySem PySem.Spec PyProof.Rows
noncomputable abbrev R2:=V->V->Hp->VK->Prop
noncomputable def GF (X:Cx) (f:Value->Value->Sem Value) (r:R2):Prop :=
 ∀ (pins:List (Addr × Obj)) (s:Shared) (σ:St) (H:Hp) (x y:V) (v u:Value) (Q:VK),Inv X pins σ H s->RelV x v->RelV y u->r x y H Q ->
  wpAny (model X.prog X.w) X.A (f v u) (EP X pins σ Q) X.xe s
noncomputable def gq (X:Cx) (f:Value->Sem Value) (r:V->Hp->VK->Prop):Prop :=
 ∀ (pins:List (Addr × Obj)) (s:Shared) (σ:St) (H:Hp) (x:V) (v:Value) (Q:VK),Inv X pins σ H s->RelV x v->r x H Q ->
  wpAny (model X.prog X.w) X.A (f v) (EP X pins σ Q) X.xe s
noncomputable def Ey (X:Cx) (f:Value) (r:List V->Hp->VK->Prop):Prop :=
 ∀ (pins:List (Addr × Obj)) (s:Shared) (σ:St) (H:Hp) (xs:List V) (us:List Value) (Q:VK),Inv X pins σ H s->Vals xs us->r xs H Q ->
  wpAny (model X.prog X.w) X.A (call f us) (EP X pins σ Q) X.xe s
noncomputable def iR (X:Cx) (r:V->Hp->(Bool->Hp->Prop)->Prop):Prop :=
 ∀ (pins:List (Addr × Obj)) (s:Shared) (σ:St) (H:Hp) (x:V) (v:Value) (Q:Bool->Hp->Prop),Inv X pins σ H s->RelV x v->r x H Q ->
  wpAny (model X.prog X.w) X.A (truthy v) (TP X pins σ Q) X.xe s
noncomputable def Y8 (r:R2) (ta tb:TE):TE:=fun σ H Q=>ta σ H fun x H1=>tb σ H1 fun y H2=>r x y H2 Q
noncomputable def jn (r:V->Hp->VK->Prop) (ta:TE):TE:=fun σ H Q=>ta σ H fun x H1=>r x H1 Q
noncomputable def rI (C:Int->Int->Prop) (g:Int->Int->V):R2:=fun x y H Q=>∃ i j,x=.int i/\y=.int j/\C i j/\Q (g i j) H
noncomputable def UV (g:Int->Int->V):R2:=fun x y H Q=>∃ i j,x=.int i/\y=.int j/\Q (g i j) H
noncomputable def rU (g:Int->V):V->Hp->VK->Prop:=fun x H Q=>∃ i,x=.int i/\Q (g i) H
section
variable {X:Cx} {a b c:Expr} {ta tb tc:TE} {pos:Pos}
theorem YS (ha:PE X a ta) (hb:PE X b tb) {pins:List (Addr × Obj)} {s:Shared} {σ:St} {H:Hp} {R:V->V->Hp->Prop} (I:Inv X pins σ H s)
  (h:ta σ H fun x H1=>tb σ H1 fun y H2=>R x y H2) {Q:Value->Shared->Prop} {f:Value->Value->Sem Value}
  (hf:∀ v u s2 x y H2,Inv X pins σ H2 s2->RelV x v->RelV y u->R x y H2->wpAny (model X.prog X.w) X.A (f v u) Q X.xe s2) :
  wpAny (model X.prog X.w) X.A (eval a X.env) (fun v s₁=>wpAny (model X.prog X.w) X.A (eval b X.env) (fun u s₂=>wpAny (model X.prog X.w) X.A (f v u) Q X.xe s₂) X.xe s₁) X.xe s:=by
 refine By (ha pins s σ H _ I h) fun v s1 hq0=>?_
 obtain ⟨x,H1,I1,r1,q1⟩:=hq0
 refine By (hb pins s1 σ H1 _ I1 q1) fun u s2 hq0=>?_
 obtain ⟨y,H2,I2,r2,q2⟩:=hq0
 exact hf v u s2 x y H2 I2 r1 r2 q2
theorem Ay {op:Operator} {r:R2} (ho:GF X (binaryOp op) r) (ha:PE X a ta) (hb:PE X b tb):PE X (.BinOp a op b pos) (Y8 r ta tb):=by
 intro pins s σ H Q I h
 exact wpAny_BinOp (YS ha hb I h fun v u s2 x y H2 I2 rx ry q=>ho pins s2 σ H2 x y v u Q I2 rx ry q)
theorem Mq {op:UnaryOp} {r:V->Hp->VK->Prop} (ho:gq X (unaryOp op) r) (ha:PE X a ta):PE X (.UnaryOp op a pos) (jn r ta):=by
 intro pins s σ H Q I h
 exact UnaryOp_ (By (ha pins s σ H _ I h) fun v s1 ⟨x,H1,I1,r1,q1⟩=>ho pins s1 σ H1 x v Q I1 r1 q1)
theorem Xx {f:Value->Value->Sem Value} {C:Int->Int->Prop} {g:Int->Int->Int}
  (rule:∀ (i j:Int) (t u:Tok) (s:Shared) (Q:Value->Shared->Prop) (E:Value->Shared->Prop),C i j->Q (.int (g i j) s.toks) { s with toks:=s.toks+1 }->wpAny (model X.prog X.w) X.A (f (.int i t) (.int j u)) Q E s) :
  GF X f (rI C fun i j=>.int (g i j)):=by
 intro pins s σ H x y v u Q I rx ry h
 obtain ⟨i,j,rfl,rfl,hc,q⟩:=h
 obtain ⟨t,rfl⟩:=rx
 obtain ⟨t',rfl⟩:=ry
 exact rule i j t t' s _ _ hc ⟨.int (g i j),H,I.tok _,⟨_,rfl⟩,q⟩
theorem Ui {f:Value->Value->Sem Value} {g:Int->Int->Int}
  (rule:∀ (i j:Int) (t u:Tok) (s:Shared) (Q:Value->Shared->Prop) (E:Value->Shared->Prop),Q (.int (g i j) s.toks) { s with toks:=s.toks+1 }->wpAny (model X.prog X.w) X.A (f (.int i t) (.int j u)) Q E s) :
  GF X f (UV fun i j=>.int (g i j)):=by
 intro pins s σ H x y v u Q I rx ry h
 obtain ⟨i,j,rfl,rfl,q⟩:=h
 obtain ⟨t,rfl⟩:=rx
 obtain ⟨t',rfl⟩:=ry
 exact rule i j t t' s _ _ ⟨.int (g i j),H,I.tok _,⟨_,rfl⟩,q⟩
theorem Uv {f:Value->Value->Sem Value} {g:Int->Int->Bool}
  (rule:∀ (i j:Int) (t u:Tok) (s:Shared) (Q:Value->Shared->Prop) (E:Value->Shared->Prop),Q (.bool (g i j)) s->wpAny (model X.prog X.w) X.A (f (.int i t) (.int j u)) Q E s) :
  GF X f (UV fun i j=>.bl (g i j)):=by
 intro pins s σ H x y v u Q I rx ry h
 obtain ⟨i,j,rfl,rfl,q⟩:=h
 obtain ⟨t,rfl⟩:=rx
 obtain ⟨t',rfl⟩:=ry
 exact rule i j t t' s _ _ ⟨.bl (g i j),H,I,rfl,q⟩
noncomputable def jW (i j:Int):Prop:=0<j/\j<1073741824
noncomputable def cJ (i j:Int):Prop:=0<=j/\j<=1000000/\i.natAbs<2 ^ 64
noncomputable def Yd (i j:Int):Prop:=(-(2 ^ 64)<i/\i<2 ^ 64) \/ (-(2 ^ 64)<j/\j<2 ^ 64)
theorem Yd.ok {i j:Int} (h:Yd i j):IntMulOk i j:=by
 rcases h with ⟨h1,h2⟩ | ⟨h1,h2⟩
 ·exact .of_left (intBits_le_64 h1 h2)
 ·exact .of_right (intBits_le_64 h1 h2)
theorem two_pow_nn (k:Nat):(0:Int)<=2 ^ k:=by
 rw [two_pow_cast]
 exact Int.natCast_nonneg _
theorem Bo:GF X (binaryOp .Add) (UV fun i j=>.int (i+j)):=Ui fun _ _ _ _ _ _ _ q=>add_int q
theorem Dw:GF X (binaryOp .Sub) (UV fun i j=>.int (i - j)):=Ui fun _ _ _ _ _ _ _ q=>sub_int q
theorem Je:GF X (binaryOp .Mult) (rI Yd fun i j=>.int (i * j)):=Xx fun _ _ _ _ _ _ _ hc q=>mul_int q hc.ok
theorem Cd:GF X (binaryOp .FloorDiv) (rI jW fun i j=>.int (i / j)):=Xx fun i j _ _ _ _ _ hc q=>by
 have h1:(0:Int)<j:=hc.1
 have h2:j<1073741824:=hc.2
 exact floordiv_int (by omega) (by rw [Int.fdiv_eq_ediv_of_nonneg i (by omega)]; exact q) (.inl (PyProof.noPylong_small (by omega)))
theorem Br:GF X (binaryOp .Mod) (rI (fun _ j=>0<j) fun i j=>.int (i % j)):=Xx fun i j _ _ _ _ _ hc q=>by
 have h1:(0:Int)<j:=hc
 exact mod_int' (by omega) (by rw [Int.fmod_eq_emod_of_nonneg i (by omega)]; exact q)
theorem We:GF X (binaryOp .Pow) (rI cJ fun i j=>.int (i ^ j.toNat)):=Xx fun _ _ _ _ _ _ _ hc q=>pow_int_small hc.1 hc.2.1 hc.2.2 q
theorem Ob:GF X (binaryOp .LShift) (rI cJ fun i j=>.int (i * 2 ^ j.toNat)):=Xx fun _ _ _ _ _ _ _ hc q=>lshift_int_small hc.1 hc.2.1 hc.2.2 q
theorem R4:GF X (binaryOp .RShift) (rI (fun _ j=>0<=j) fun i j=>.int (i / 2 ^ j.toNat)):=Xx fun i j _ _ _ _ _ hc q =>
 rshift_int hc (by rw [Int.fdiv_eq_ediv_of_nonneg i (two_pow_nn _)]; exact q)
theorem RL:GF X (binaryOp .BitAnd) (UV fun i j=>.int (Builtin.bitAnd i j)):=Ui fun _ _ _ _ _ _ _ q=>and_int q
theorem Ox:GF X (binaryOp .BitOr) (UV fun i j=>.int (Builtin.bitOr i j)):=Ui fun _ _ _ _ _ _ _ q=>or_int q
theorem jx {f:Value->Sem Value} {g:Int->Int}
  (rule:∀ (i:Int) (t:Tok) (s:Shared) (Q:Value->Shared->Prop) (E:Value->Shared->Prop),Q (.int (g i) s.toks) { s with toks:=s.toks+1 }->wpAny (model X.prog X.w) X.A (f (.int i t)) Q E s) :
  gq X f (rU fun i=>.int (g i)):=by
 intro pins s σ H x v Q I rx h
 obtain ⟨i,rfl,q⟩:=h
 obtain ⟨t,rfl⟩:=rx
 exact rule i t s _ _ ⟨.int (g i),H,I.tok _,⟨_,rfl⟩,q⟩
theorem Ji:gq X (unaryOp .USub) (rU fun i=>.int (-i)):=jx fun _ _ _ _ _ q=>neg_int q
end
noncomputable def bU:V->V->Bool
 | .non,.non=>true | .non,.int _=>true | .int _,.non=>true | .non,.bl _=>true | .bl _,.non=>true | .non,.str _=>true | .str _,.non=>true
 | .int _,.int _=>true | .bl _,.bl _=>true | .str _,.str _=>true | .byt _,.byt _=>true
 | .int _,.str _=>true | .str _,.int _=>true | .bl _,.str _=>true | .str _,.bl _=>true
 | _,_=>false
noncomputable def ju:R2:=fun x y H Q=>bU x y=true/\Q (.bl (decide (x=y))) H
noncomputable def jo:R2:=fun x y H Q=>bU x y=true/\Q (.bl (!decide (x=y))) H
theorem Pq {i j:Int}:decide (V.int i=V.int j)=(i == j):=by
 rw [Bool.eq_iff_iff]
 simp
theorem SM {i j:Bool}:decide (V.bl i=V.bl j)=(i == j):=by
 rw [Bool.eq_iff_iff]
 simp
theorem Gr {i j:Str}:decide (V.str i=V.str j)=(i == j):=by
 rw [Bool.eq_iff_iff]
 simp
theorem Pz {i j:Array UInt8}:decide (V.byt i=V.byt j)=(i.toList == j.toList):=by
 rw [Bool.eq_iff_iff]
 cases i
 cases j
 simp
section
variable {X:Cx} {a b c:Expr} {ta tb tc:TE} {pos:Pos}
theorem Bt {pins:List (Addr × Obj)} {σ:St} {H:Hp} {s:Shared} {Q:VK} {k k':Bool} (I:Inv X pins σ H s) (q:Q (.bl k) H) (e:k=k'):EP X pins σ Q (.bool k') s:=by
 subst e
 exact ⟨.bl k,H,I,rfl,q⟩
theorem Dj:GF X (compareOp .Eq) ju:=by
 intro pins s σ H x y v u Q I rx ry h
 obtain ⟨hs,q⟩:=h
 cases x with
 | non =>
  cases rx
  cases y with
  | non=>cases ry; exact PySem.EqNone.eq_none_none (Bt I q (by simp))
  | bl j=>cases ry; exact PySem.EqNone.eq_none_bool (Bt I q (by simp))
  | int j=>obtain ⟨t',rfl⟩:=ry; exact PySem.EqNone.eq_none_int (Bt I q (by simp))
  | str j=>obtain ⟨t',rfl⟩:=ry; exact PySem.EqNone.eq_none_str (Bt I q (by simp))
  | _=>exact absurd (show false=true from hs) Bool.false_ne_true
 | bl i =>
  cases rx
  cases y with
  | non=>cases ry; exact PySem.EqNone.eq_bool_none (Bt I q (by simp))
  | bl j=>cases ry; exact eq_bool (Bt I q SM)
  | str j=>obtain ⟨t',rfl⟩:=ry; exact PySem.EqMixed.eq_bool_str (Bt I q (by simp))
  | _=>exact absurd (show false=true from hs) Bool.false_ne_true
 | int i =>
  obtain ⟨t,rfl⟩:=rx
  cases y with
  | non=>cases ry; exact PySem.EqNone.eq_int_none (Bt I q (by simp))
  | int j=>obtain ⟨t',rfl⟩:=ry; exact eq_int (Bt I q Pq)
  | str j=>obtain ⟨t',rfl⟩:=ry; exact PySem.EqMixed.eq_int_str (Bt I q (by simp))
  | _=>exact absurd (show false=true from hs) Bool.false_ne_true
 | str i =>
  obtain ⟨t,rfl⟩:=rx
  cases y with
  | non=>cases ry; exact PySem.EqNone.eq_str_none (Bt I q (by simp))
  | bl j=>cases ry; exact PySem.EqMixed.eq_str_bool (Bt I q (by simp))
  | int j=>obtain ⟨t',rfl⟩:=ry; exact PySem.EqMixed.eq_str_int (Bt I q (by simp))
  | str j=>obtain ⟨t',rfl⟩:=ry; exact eq_str (Bt I q Gr)
  | _=>exact absurd (show false=true from hs) Bool.false_ne_true
 | byt i =>
  obtain ⟨t,rfl⟩:=rx
  cases y with
  | byt j=>obtain ⟨t',rfl⟩:=ry; exact PySem.W.eq_bytes (Bt I q Pz)
  | _=>exact absurd (show false=true from hs) Bool.false_ne_true
 | _=>cases y <;> exact absurd (show false=true from hs) Bool.false_ne_true
theorem G5:GF X (compareOp .NotEq) jo:=by
 intro pins s σ H x y v u Q I rx ry h
 obtain ⟨hs,q⟩:=h
 cases x with
 | non =>
  cases rx
  cases y with
  | non=>cases ry; exact PySem.EqNone.ne_none_none (Bt I q (by simp))
  | bl j=>cases ry; exact PySem.EqNone.ne_none_bool (Bt I q (by simp))
  | int j=>obtain ⟨t',rfl⟩:=ry; exact PySem.EqNone.ne_none_int (Bt I q (by simp))
  | str j=>obtain ⟨t',rfl⟩:=ry; exact PySem.EqNone.ne_none_str (Bt I q (by simp))
  | _=>exact absurd (show false=true from hs) Bool.false_ne_true
 | bl i =>
  cases rx
  cases y with
  | non=>cases ry; exact PySem.EqNone.ne_bool_none (Bt I q (by simp))
  | bl j=>cases ry; exact ne_bool (Bt I q (congrArg not SM))
  | str j=>obtain ⟨t',rfl⟩:=ry; exact PySem.EqMixed.ne_bool_str (Bt I q (by simp))
  | _=>exact absurd (show false=true from hs) Bool.false_ne_true
 | int i =>
  obtain ⟨t,rfl⟩:=rx
  cases y with
  | non=>cases ry; exact PySem.EqNone.ne_int_none (Bt I q (by simp))
  | int j=>obtain ⟨t',rfl⟩:=ry; exact ne_int (Bt I q (congrArg not Pq))
  | str j=>obtain ⟨t',rfl⟩:=ry; exact PySem.EqMixed.ne_int_str (Bt I q (by simp))
  | _=>exact absurd (show false=true from hs) Bool.false_ne_true
 | str i =>
  obtain ⟨t,rfl⟩:=rx
  cases y with
  | non=>cases ry; exact PySem.EqNone.ne_str_none (Bt I q (by simp))
  | bl j=>cases ry; exact PySem.EqMixed.ne_str_bool (Bt I q (by simp))
  | int j=>obtain ⟨t',rfl⟩:=ry; exact PySem.EqMixed.ne_str_int (Bt I q (by simp))
  | str j=>obtain ⟨t',rfl⟩:=ry; exact ne_str (Bt I q (congrArg not Gr))
  | _=>exact absurd (show false=true from hs) Bool.false_ne_true
 | byt i =>
  obtain ⟨t,rfl⟩:=rx
  cases y with
  | byt j=>obtain ⟨t',rfl⟩:=ry; exact PySem.W.ne_bytes (Bt I q (congrArg not Pz))
  | _=>exact absurd (show false=true from hs) Bool.false_ne_true
 | _=>cases y <;> exact absurd (show false=true from hs) Bool.false_ne_true
theorem Gf:GF X (compareOp .Lt) (UV fun i j=>.bl (decide (i<j))):=Uv fun _ _ _ _ _ _ _ q=>lt_int q
theorem Eh:GF X (compareOp .LtE) (UV fun i j=>.bl (decide (i<=j))):=Uv fun _ _ _ _ _ _ _ q=>le_int q
theorem aH:GF X (compareOp .Gt) (UV fun i j=>.bl (decide (j<i))):=Uv fun _ _ _ _ _ _ _ q=>gt_int q
theorem Vv:GF X (compareOp .GtE) (UV fun i j=>.bl (decide (j<=i))):=Uv fun _ _ _ _ _ _ _ q=>ge_int q
theorem QM:GF X (compareOp .In) (fun x y H Q=>∃ i j,x=.str i/\y=.str j/\Q (.bl (!(Builtin.Str.occurrences j i 0 j.length 1).isEmpty)) H):=by
 intro pins s σ H x y v u Q I rx ry h
 obtain ⟨i,j,rfl,rfl,q⟩:=h
 obtain ⟨t,rfl⟩:=rx
 obtain ⟨t',rfl⟩:=ry
 exact in_str (Bt I q rfl)
theorem Kw:GF X (compareOp .IsNot) (fun x y H Q=>y=.non/\Q (.bl (!decide (x=.non))) H):=by
 intro pins s σ H x y v u Q I rx ry h
 obtain ⟨rfl,q⟩:=h
 cases ry
 refine isnot_none_gen (Bt I q ?_)
 cases x <;> first
  | (cases rx; rfl)
  | (obtain ⟨t,rfl⟩:=rx; rfl)
theorem Be (b:Expr) {op:CmpOp} (h:op ≠ .In:=by decide) (h2:op ≠ .NotIn:=by decide):behindInMarks op b=false:=by
 have e1:(op == CmpOp.In)=false:=by cases op <;> first | rfl | exact absurd rfl h
 have e2:(op == CmpOp.NotIn)=false:=by cases op <;> first | rfl | exact absurd rfl h2
 cases b <;> simp [behindInMarks,e1,e2]
theorem Et {op:CmpOp} {r:R2} (ho:GF X (compareOp op) r) (ha:PE X a ta) (hb:PE X b tb) (hm:behindInMarks op b=false):PE X (.Compare a [op] [b] pos) (Y8 r ta tb):=by
 intro pins s σ H Q I h
 exact wpAny_Compare1 (YS ha hb I h fun v u s2 x y H2 I2 rx ry q=>ho pins s2 σ H2 x y v u Q I2 rx ry q) hm
noncomputable def WQ (t:TE):TT:=fun σ H Q=>t σ H fun x H'=>∃ k,x=.bl k/\Q k H'
theorem Ba {op:CmpOp} {r:R2} (ho:GF X (compareOp op) r) (ha:PE X a ta) (hb:PE X b tb) (hm:behindInMarks op b=false):PT X (.Compare a [op] [b] pos) (WQ (Y8 r ta tb)):=by
 intro pins s σ H Q I h
 refine wpAny_isTrue_Compare1 (By (ha pins s σ H _ I h) fun v s1 ⟨x,H1,I1,r1,q1⟩=>By (hb pins s1 σ H1 _ I1 q1) fun u s2 ⟨y,H2,I2,r2,q2⟩ =>
  By (ho pins s2 σ H2 x y v u _ I2 r1 r2 q2) fun c s3 ⟨z,H3,I3,r3,k,e,q3⟩=>?_) hm
 subst e
 cases r3
 exact wpAny_truthy_bool ⟨H3,I3,q3⟩
noncomputable def Rr (r r':R2) (ta tb tc:TE):TE:=fun σ H Q=>ta σ H fun x H1=>tb σ H1 fun y H2=>r x y H2 fun z H3=>∃ k,z=.bl k /\
 (if k=true then tc σ H3 fun w' H4=>r' y w' H4 Q else Q (.bl false) H3)
theorem Hy {op op':CmpOp} {r r':R2} (ho:GF X (compareOp op) r) (ho':GF X (compareOp op') r') (ha:PE X a ta) (hb:PE X b tb) (hc:PE X c tc)
  (hm:lastMarks [op,op'] [b,c]=false:=by with_unfolding_all rfl):PE X (.Compare a [op,op'] [b,c] pos) (Rr r r' ta tb tc):=by
 intro pins s σ H Q I h
 refine Compare_chain (By (ha pins s σ H _ I h) fun v s1 ⟨x,H1,I1,r1,q1⟩=>chain_link (By (hb pins s1 σ H1 _ I1 q1) fun u s2 ⟨y,H2,I2,r2,q2⟩ =>
  By (ho pins s2 σ H2 x y v u _ I2 r1 r2 q2) fun d s3 ⟨z,H3,I3,r3,k,e,q3⟩=>?_)) hm
 subst e
 cases r3
 refine wpAny_truthy_bool ?_
 cases k with
 | false=>exact ite_ff ⟨.bl false,H3,I3,rfl,q3⟩
 | true=>exact ite_tt (chain_last (By (hc pins s3 σ H3 _ I3 q3) fun w' s4 ⟨z',H4,I4,r4,q4⟩=>ho' pins s4 σ H4 y z' u w' Q I4 r2 r4 q4))
theorem Fd {op op':CmpOp} {r r':R2} (ho:GF X (compareOp op) r) (ho':GF X (compareOp op') r') (ha:PE X a ta) (hb:PE X b tb) (hc:PE X c tc)
  (hm:lastMarks [op,op'] [b,c]=false:=by with_unfolding_all rfl):PT X (.Compare a [op,op'] [b,c] pos) (WQ (Rr r r' ta tb tc)):=by
 intro pins s σ H Q I h
 refine isTrue_chain (By (ha pins s σ H _ I h) fun v s1 ⟨x,H1,I1,r1,q1⟩=>test_link (By (hb pins s1 σ H1 _ I1 q1) fun u s2 ⟨y,H2,I2,r2,q2⟩ =>
  By (ho pins s2 σ H2 x y v u _ I2 r1 r2 q2) fun d s3 ⟨z,H3,I3,r3,k,e,q3⟩=>?_)) hm
 subst e
 cases r3
 refine wpAny_truthy_bool ?_
 cases k with
 | false =>
  obtain ⟨k',e',q'⟩:=q3
  cases e'
  exact ite_ff ⟨H3,I3,q'⟩
 | true =>
  refine ite_tt (test_last (By (hc pins s3 σ H3 _ I3 q3) fun w' s4 ⟨z',H4,I4,r4,q4⟩=>By (ho' pins s4 σ H4 y z' u w' _ I4 r2 r4 q4) fun d' s5 hq0=>?_))
  obtain ⟨z2,H5,I5,r5,k2,e2,q5⟩:=hq0
  subst e2
  cases r5
  exact wpAny_truthy_bool ⟨H5,I5,q5⟩
noncomputable def fH (K:PySem.W.Frag) (x:V) (H:Hp) (k:Bool):Prop :=
 match x with
 | .non=>k=false
 | .bl b=>k=b
 | .int i=>k=(i != 0)
 | .str y=>y.length<=sizeLine/\k=((y.length:Int) != 0)
 | .byt y=>y.size<=sizeLine/\k=((y.size:Int) != 0)
 | .ref p=>(∃ xs,CK K H p xs/\k = !xs.isEmpty) \/ (∃ xs,Hc K H p xs/\k = !xs.isEmpty) \/ ∃ kvs,H p=some (.dK kvs)/\k = !kvs.isEmpty
 | _=>False
theorem N6 {κ:Type} {kvs:List (κ × V)} {vs:List (κ × Value)} (r:KV kvs vs):(!vs.isEmpty) = !kvs.isEmpty:=by
 cases r <;> rfl
theorem Ja {xs:List V} {its:List Value} (r:Vals xs its):(!its.toArray.isEmpty) = !xs.isEmpty:=by
 cases r <;> simp
theorem Ih:(sizeLine:Nat)<2 ^ 63:=by rw [sizeLine_eq]; decide
theorem X6:iR X (fun x H Q=>∃ k,fH X.K x H k/\Q k H):=by
 intro pins s σ H x v Q I rx h
 obtain ⟨k,e,q⟩:=h
 have hl:=Ih
 have hs:sizeLine=16777216:=sizeLine_eq
 cases x with
 | non =>
  cases rx
  have e':k=false:=e
  subst e'
  exact truthy_none ⟨H,I,q⟩
 | bl b =>
  cases rx
  have e':k=b:=e
  subst e'
  exact wpAny_truthy_bool ⟨H,I,q⟩
 | int i =>
  obtain ⟨t,rfl⟩:=rx
  have e':k=(i != 0):=e
  subst e'
  exact PySem.P.truthy_int ⟨H,I,q⟩
 | str y =>
  obtain ⟨t,rfl⟩:=rx
  obtain ⟨hy,e'⟩:y.length<=sizeLine/\k=((y.length:Int) != 0):=e
  subst e'
  exact PySem.P.truthy_str (by omega) ⟨H,I.tok _,q⟩
 | byt y =>
  obtain ⟨t,rfl⟩:=rx
  obtain ⟨hy,e'⟩:y.size<=sizeLine/\k=((y.size:Int) != 0):=e
  subst e'
  exact PySem.W.truthy_bytes (by omega) ⟨H,I.tok _,q⟩
 | ref p =>
  cases rx
  have e':(∃ xs,CK X.K H p xs/\k = !xs.isEmpty) \/ (∃ xs,Hc X.K H p xs/\k = !xs.isEmpty) \/ ∃ kvs,H p=some (.dK kvs)/\k = !kvs.isEmpty:=e
  rcases e' with ⟨xs,hx,e'⟩ | ⟨xs,hx,e'⟩ | ⟨kvs,hx,e'⟩
  ·subst e'
   obtain ⟨its,r,pl,hz⟩:=I.list hx
   have hlen:=r.length
   exact wpAny_truthy_list pl.isList (by simp only [List.size_toArray]; omega) ⟨H,I.tok _,by rw [Ja r]; exact q⟩
  ·subst e'
   obtain ⟨its,r,pl,hz⟩:=I.tuple hx
   have hlen:=r.length
   exact truthy_tuple pl (by simp only [List.size_toArray]; omega) ⟨H,I.tok _,by rw [Ja r]; exact q⟩
  ·subst e'
   obtain ⟨hz,hS,vs,r,m⟩:kvs.length<=sizeLine/\(p == sysModules)=false/\∃ vs,KV kvs vs/\s.heap.DictOf (CW X.prog X.w) p vs:=I.hok p _ hx
   have hlen:kvs.length=vs.length:=Paired.length r
   exact wpAny_truthy_dict hS m (by omega) ⟨H,I.tok _,by rw [N6 r]; exact q⟩
 | _=>exact (show False from e).elim
theorem Lx (ha:PE X a ta) (he:∀ whole,isTrue a X.env whole=(do let v ← whole; standAt a.pos; holding [v] (truthy v))) :
  PT X a (fun σ H Q=>ta σ H fun x H'=>∃ k,fH X.K x H' k/\Q k H'):=by
 intro pins s σ H Q I h
 exact isTrue_plain (By (ha pins s σ H _ I h) fun v s1 ⟨x,H1,I1,r1,q1⟩=>X6 pins s1 σ H1 x v Q I1 r1 q1) (he _)
theorem HF:GF X (binaryOp .Add) (fun x y H Q=>∃ i j,x=.str i/\y=.str j/\i.length+j.length<=sizeLine/\Q (.str (i++j)) H):=by
 intro pins s σ H x y v u Q I rx ry h
 obtain ⟨i,j,rfl,rfl,hz,q⟩:=h
 obtain ⟨t,rfl⟩:=rx
 obtain ⟨t',rfl⟩:=ry
 exact add_str (fun t' tk=>⟨.str (i++j),H,I.tok _,⟨_,rfl⟩,q⟩) hz
theorem vals1 {x:V} {us:List Value} (r:Vals [x] us):∃ u,us=[u]/\RelV x u:=by
 cases r with
 | cons r1 r2=>cases r2; exact ⟨_,rfl,r1⟩
theorem vals2 {x y:V} {us:List Value} (r:Vals [x,y] us):∃ u w',us=[u,w']/\RelV x u/\RelV y w':=by
 cases r with
 | cons r1 r2 =>
  cases r2 with
  | cons r3 r4=>cases r4; exact ⟨_,_,rfl,r1,r3⟩
theorem QR (hc:X.calm=true):Ey X (.builtin "max") (fun xs H Q=>∃ i j,xs=[.int i,.int j]/\Q (.int (if j > i then j else i)) H):=by
 intro pins s σ H xs us Q I r h
 obtain ⟨i,j,rfl,q⟩:=h
 obtain ⟨u,w',rfl,⟨t,rfl⟩,⟨t',rfl⟩⟩:=vals2 r
 refine max_two_ints (I.ok.hd hc) fun h' tk k=>⟨_,H,I.kept k,?_,q⟩
 by_cases hj:j > i
 ·rw [if_pos hj,if_pos hj]; exact ⟨_,rfl⟩
 ·rw [if_neg hj,if_neg hj]; exact ⟨_,rfl⟩
theorem QV:Ey X (.type "int") (fun xs H Q=>(∃ i,xs=[.int i]/\Q (.int i) H) \/ ∃ k,xs=[.bl k]/\Q (.int (if k then 1 else 0)) H):=by
 intro pins s σ H xs us Q I r h
 rcases h with ⟨i,rfl,q⟩ | ⟨k,rfl,q⟩
 ·obtain ⟨u,rfl,t,rfl⟩:=vals1 r
  exact call_int_int ⟨.int i,H,I,⟨_,rfl⟩,q⟩
 ·obtain ⟨u,rfl,r1⟩:=vals1 r
  cases r1
  exact call_int_bool ⟨.int (if k then 1 else 0),H,I.tok _,⟨_,rfl⟩,q⟩
end
end L2
namespace L2
open PySem PySem.Spec PyProof.Rows
structure Oc (h:Heap) (x dx C:Addr) (mA:Str->Option Value):Prop where
 obj:h.get? x=some (PySem.W.instObj C dx)
 ns:h.Ns1 dx mA
 ne:dx ≠ x
theorem QW {h:Heap} {dx:Addr} {mA:Str->Option Value} (n:h.Ns1 dx mA):∃ od,h.get? dx=some od/\∀ name,PySem.W.lookIn name od=some (mA name):=by
 obtain ⟨o,es,ep,ho,hd,hk,_,hm⟩:=n
 refine ⟨o,ho,fun name=>?_⟩
 have e:=hm name
 unfold nsFind findBy at e
 rw [← Array.find?_toList] at e
 unfold PySem.W.lookIn
 rw [hd]
 dsimp only
 split
 ·rename_i y q
  rw [q] at e
  exact congrArg some e
 ·rename_i q
  rw [q] at e
  have a:es.toList.any (·.refKey)=false:=by
   rw [List.any_eq_false]
   intro y hy
   obtain ⟨z,t,hkey⟩:=hk y (Array.mem_toList_iff.mp hy)
   simp [DictEntry.refKey,hkey]
  have a':¬ es.toList.any (·.refKey)=true:=by rw [a]; exact Bool.false_ne_true
  rw [if_neg a']
  exact congrArg some e
theorem Oc.look {h:Heap} {x dx C:Addr} {mA:Str->Option Value} (I:Oc h x dx C mA):∃ od,PySem.W.InstAt h x (PySem.W.instObj C dx) C (some od)/\∀ name,PySem.W.lookIn name od=some (mA name) :=
 let ⟨od,ho,hl⟩:=QW I.ns
 ⟨od,⟨I.obj,rfl,rfl,ho⟩,hl⟩
section
variable {prog:Program} {w:World} {A:Around} {E:Value->Shared->Prop} {s:Shared} {K:PySem.W.Frag} {x dx C f:Addr} {mA:Str->Option Value} {name:Str} {v:Value}
theorem Uq {expr:Bool} {Q:Value->Shared->Prop} (X:K.In s.heap) (I:Oc s.heap x dx C mA) (hg:PySem.W.plainGet K C name=true) (hh:PySem.W.hasDictIn K C=true)
  (ha:PySem.W.findIn K (.ref C) name=some none) (hv:mA name=some v) (hv':PySem.W.handedIn v=true) (h:Q v { s with toks:=s.toks+1 }) :
  wpAny (model prog w) A (getAttr (.ref x) name expr) Q E s:=by
 obtain ⟨od,J,hl⟩:=I.look
 exact PySem.W.get_value X J (PySem.W.plainGet_of hg).1 (PySem.W.findObj_own hh ha rfl (by rw [hl,hv])) hv' h
theorem TF {pl:Sem Bool} {Q:Value × List Value->Shared->Prop} (X:K.In s.heap) (I:Oc s.heap x dx C mA) (hg:PySem.W.plainGet K C name=true)
  (hf:PySem.W.findIn K (.ref C) name=some (some (.ref f))) (ht:PySem.W.isFn K (.ref f)=true) (hv:mA name=none) (h:Q (.ref f,[.ref x]) s) :
  wpAny (model prog w) A (getMethod (.ref x) name pl) Q E s:=by
 obtain ⟨od,J,hl⟩:=I.look
 exact PySem.W.method_fn X J (PySem.W.plainGet_of hg).1 (PySem.W.plainGet_of hg).2 hf (beq_iff_eq.mp ht) (by show (PySem.W.lookIn name od).map (·.isSome)=some false; rw [hl,hv]; rfl) h
theorem Uo {ns:List Str} {Q:Unit->Shared->Prop} (X:K.In s.heap) (I:Oc s.heap x dx C mA)
  (hs:PySem.W.findIn K (.ref C) "__setattr__" = some (some (.builtin "object.__setattr__"))) (hp:PySem.W.plainOver K C=true) (ht:PySem.W.takerIn K C name=some none) (hh:PySem.W.hasDictIn K C=true)
  (hw:PySem.Within mA ns) (hsz:ns.length<=sizeLine)
  (h:∀ h',Oc h' x dx C (fun y=>if y=name then some v else mA y)->Heap.SameBut dx s.heap h'->Q () { s with heap:=h',toks:=s.toks+2 }) :
  wpAny (model prog w) A (setAttr (.ref x) name v) Q E s:=by
 obtain ⟨od,J,hl⟩:=I.look
 refine PySem.W.set_plain X J hs (PySem.W.osa_open (s:={ s with toks:=s.toks+1 }) (r:=none) X J hp ht fun b=>?_)
 obtain ⟨cd,hc,hd'⟩:=PySem.W.any_some hh
 have hx:s.heap.get? x=some ⟨.ref C,some dx,.plain,#[]⟩:=I.obj
 refine wpAny_bind (wpAny_pure (wpAny_bind (wpAny_bind (wpAny_loadPart hx (wpAny_bind (PySem.W.Looks.here (s:={ s with toks:=s.toks+1 }) (PySem.W.looks_clsIn X hc) ?_))))))
 rw [hd']
 refine wpAny_pure (a:=some dx) (wpAny_bind (wpAny_pure (wpAny_bind ?_)))
 refine wpAny_nsSet1 (s:={ s with toks:=s.toks+1 }) I.ns fun h' hn2 hs2=>?_
 obtain ⟨oD,esD,epD,hoD,hdD,hcD⟩:=hn2.count (PySem.Within.cons name v hw)
 refine wpAny_bind (wpAny_lookBehind hoD (by rw [hdD]; exact pastItsLine_dict (Nat.le_trans hcD (by rw [List.length_cons]; omega))) ?_)
 exact wpAny_pure (h _ ⟨(hs2.2 _ (Ne.symm I.ne)).trans I.obj,hn2,I.ne⟩ hs2)
theorem Su {R:Result->Shared->Prop} {vs:List Value} {kw:List (Str × Value)} (X:K.In s.heap) (hm:PySem.W.makesIn K C=true)
  (hi:PySem.W.findIn K (.ref C) "__init__" = some (some (.ref f))) (hf:PySem.W.typeIn K (.ref f)=some (.type "function"))
  (h:codeAny (model prog w) (A.under (.builtin "type.__call__" ⟨.ref C::vs,kw⟩)) (.call (.ref f) ⟨.ref (s.heap.objs.size+1)::vs,kw⟩) (PySem.W.InitBack (s.heap.objs.size+1) R)
   { s with heap:=(s.heap.push PySem.W.emptyDict).push (PySem.W.instObj C s.heap.objs.size) }) :
  codeAny (model prog w) A (.call (.ref C) ⟨vs,kw⟩) R s:=by
 obtain ⟨hh,g,d,t,os⟩:=s
 exact PySem.W.make_core (PySem.W.makes_of X hm) (PySem.W.looks_findIn X hi) (fun self=>PySem.W.bind_fn X self hf) (.inl rfl) h
end
noncomputable def Bk (f:Str) (v:V):List (Str × V)->List (Str × V)
 | []=>[(f,v)]
 | (g,x)::r=>if g=f then (g,v)::r else (g,x)::Bk f v r
theorem Ao (f g:Str) (v:V):∀ fs:List (Str × V),(Bk f v fs).lookup g=if g=f then some v else fs.lookup g
 | []=>by
  show List.lookup g [(f,v)]=_
  by_cases h:g=f
  ·have hb:(g == f)=true:=beq_iff_eq.mpr h
   simp only [List.lookup,hb,if_pos h]
  ·have hb:(g == f)=false:=beq_eq_false_iff_ne.mpr h
   simp only [List.lookup,hb,if_neg h]
 | (k,x)::r=>by
  have ih:=Ao f g v r
  rw [show Bk f v ((k,x)::r)=(if k=f then (k,v)::r else (k,x)::Bk f v r) from rfl]
  by_cases hk:k=f
  ·rw [if_pos hk]
   by_cases h:g=k
   ·have hb:(g == k)=true:=beq_iff_eq.mpr h
    simp only [List.lookup,hb,if_pos (h.trans hk)]
   ·have hb:(g == k)=false:=beq_eq_false_iff_ne.mpr h
    simp only [List.lookup,hb,if_neg (fun e:g=f=>h (e.trans hk.symm))]
  ·rw [if_neg hk]
   by_cases h:g=k
   ·have hb:(g == k)=true:=beq_iff_eq.mpr h
    simp only [List.lookup,hb,if_neg (fun e:g=f=>hk (h.symm.trans e))]
   ·have hb:(g == k)=false:=beq_eq_false_iff_ne.mpr h
    simp only [List.lookup,hb]
    exact ih
theorem Ij (f:Str) (v:V):∀ fs:List (Str × V),f∈(Bk f v fs).map (·.1)/\∀ g,g∈fs.map (·.1)->g∈(Bk f v fs).map (·.1)
 | []=>⟨by simp [Bk],fun g h=>by simp at h⟩
 | (k,x)::r=>by
  obtain ⟨i1,i2⟩:=Ij f v r
  rw [show Bk f v ((k,x)::r)=(if k=f then (k,v)::r else (k,x)::Bk f v r) from rfl]
  by_cases hk:k=f
  ·rw [if_pos hk]
   subst hk
   exact ⟨by simp,fun g h=>by simpa using h⟩
  ·rw [if_neg hk]
   refine ⟨?_,fun g h=>?_⟩
   ·rw [List.map_cons]
    exact List.mem_cons_of_mem _ i1
   ·rw [List.map_cons] at h ⊢
    rcases List.mem_cons.mp h with e | e
    ·exact List.mem_cons.mpr (.inl e)
    ·exact List.mem_cons_of_mem _ (i2 g e)
theorem JC (f:Str) (v:V):∀ fs:List (Str × V),(Bk f v fs).length<=fs.length+1
 | []=>by simp [Bk]
 | (k,x)::r=>by
  have ih:=JC f v r
  rw [show Bk f v ((k,x)::r)=(if k=f then (k,v)::r else (k,x)::Bk f v r) from rfl]
  by_cases hk:k=f
  ·rw [if_pos hk,List.length_cons,List.length_cons]; omega
  ·rw [if_neg hk,List.length_cons,List.length_cons]; omega
theorem GK.some_of {v:V} {o:Option Value} (r:GK (some v) o):∃ u,o=some u/\RelV v u:=by
 cases o with
 | none=>exact (show False from r).elim
 | some u=>exact ⟨u,rfl,r⟩
theorem GK.none_of {o:Option Value} (r:GK none o):o=none:=by
 cases o with
 | none=>rfl
 | some u=>exact (show False from r).elim
theorem Qf {v:V} {u:Value} (r:RelV v u):PySem.W.handedIn u=true:=by
 cases v with
 | non=>cases (show u=Value.none from r); rfl
 | bl b=>cases (show u=Value.bool b from r); rfl
 | int i=>obtain ⟨t,e⟩:=(show ∃ t,u=Value.int i t from r); cases e; rfl
 | str x=>obtain ⟨t,e⟩:=(show ∃ t,u=Value.str x t from r); cases e; rfl
 | byt b=>obtain ⟨t,e⟩:=(show ∃ t,u=Value.bytes b t from r); cases e; rfl
 | flt b=>obtain ⟨t,e⟩:=(show ∃ t,u=Value.float b t from r); cases e; rfl
 | ref a=>cases (show u=Value.ref a from r); rfl
 | ty n=>cases (show u=Value.type n from r); rfl
section
variable {P:Program} {w:World} {H H':Hp} {h h':Heap} {a C dx:Addr} {fs fs':List (Str × V)}
theorem JM (hok:Ha P w H h) (e:H a=some (.ins C dx fs)):∃ mA,Oc h a dx C mA/\(∀ f,GK (fs.lookup f) (mA f))/\PySem.Within mA (fs.map (·.1))/\fs.length<=1000/\H dx=some (.own a):=by
 obtain ⟨d,z,ne,ob,mA,n,r,q⟩:=(show CJ P w H h a (.ins C dx fs) from hok a _ e)
 exact ⟨mA,⟨ob,n,ne⟩,r,q,z,d⟩
end
structure Te (K:PySem.W.Frag) (C:Addr):Prop where
 pg:PySem.W.plainGet K C Str.empty=true
 hd:PySem.W.hasDictIn K C=true
 po:PySem.W.plainOver K C=true
 sa:PySem.W.findIn K (.ref C) "__setattr__" = some (some (.builtin "object.__setattr__"))
theorem Te.get {K:PySem.W.Frag} {C:Addr} (c:Te K C) (f:Str):PySem.W.plainGet K C f=true:=c.pg
noncomputable def DY (K:PySem.W.Frag) (C:Addr) (f:Str):Prop:=PySem.W.findIn K (.ref C) f=some none
theorem DY.taker {K:PySem.W.Frag} {C:Addr} {f:Str} (n:DY K C f):PySem.W.takerIn K C f=some none:=by
 unfold PySem.W.takerIn
 rw [show PySem.W.findIn K (.ref C) f=some none from n]
 rfl
structure Meth (K:PySem.W.Frag) (C:Addr) (m:Str) (f:Addr):Prop where
 at_:PySem.W.findIn K (.ref C) m=some (some (.ref f))
 fn:PySem.W.isFn K (.ref f)=true
 kp:PySem.W.keepIn K (.ref f)=true
section
variable {X:Cx} {pins:List (Addr × Obj)} {σ:St} {H:Hp} {s:Shared} {a C dx:Addr} {fs:List (Str × V)} {f:Str} {v:V} {A:Around} {E:Value->Shared->Prop}
theorem Ol {b:Bool} {Q:Value->Shared->Prop} (I:Inv X pins σ H s) (e:H a=some (.ins C dx fs)) (c:Te X.K C) (n:DY X.K C f) (l:fs.lookup f=some v)
  (h:∀ u s',Inv X pins σ H s'->RelV v u->Q u s'):wpAny (model X.prog X.w) A (getAttr (.ref a) f b) Q E s:=by
 obtain ⟨mA,O,r,_,_,_⟩:=JM I.hok e
 obtain ⟨u,hu,ru⟩:=GK.some_of (v:=v) (o:=mA f) (by rw [← l]; exact r f)
 exact Uq I.H_ O (c.get f) c.hd n hu (Qf ru) (h u _ (I.tok _) ru)
theorem JV {m:Str} {g:Addr} {pl:Sem Bool} {Q:Value × List Value->Shared->Prop} (I:Inv X pins σ H s) (e:H a=some (.ins C dx fs)) (c:Te X.K C) (k:Meth X.K C m g) (l:fs.lookup m=none)
  (h:Q (.ref g,[.ref a]) s):wpAny (model X.prog X.w) A (getMethod (.ref a) m pl) Q E s:=by
 obtain ⟨mA,O,r,_,_,_⟩:=JM I.hok e
 have hn:mA m=none:=GK.none_of (by rw [← l]; exact r m)
 exact TF I.H_ O (c.get m) k.at_ k.fn hn h
theorem Ou {y:V} {u:Value} {Q:Unit->Shared->Prop} (I:Inv X pins σ H s) (e:H a=some (.ins C dx fs)) (c:Te X.K C) (n:DY X.K C f) (hl:fs.length<1000) (ry:RelV y u)
  (h:∀ s',Inv X pins σ (upd H a (.ins C dx (Bk f y fs))) s'->Q () s'):wpAny (model X.prog X.w) A (setAttr (.ref a) f u) Q E s:=by
 obtain ⟨mA,O,r,wi,_,ho⟩:=JM I.hok e
 have hz:(fs.map (·.1)).length<=sizeLine:=by rw [List.length_map,sizeLine_eq]; omega
 refine Uo I.H_ O c.sa c.po n.taker c.hd wi hz fun h' O' sb=>h _ ?_
 have hd:∃ o,h'.get? dx=some o:=let ⟨o,_,_,e',_⟩:=O'.ns; ⟨o,e'⟩
 refine I.write (x:=a) (e:=dx) (by rw [e]; exact True.intro) (.inr ho) (fun b q hb z=>(sb.2 b hb).trans z) hd ?_
 refine ⟨by rw [BP O.ne]; exact ho,?_,O.ne,O'.obj,_,O'.ns,fun g=>?_,fun g hg=>?_⟩
 ·have:=JC f y fs; omega
 ·show GK ((Bk f y fs).lookup g) (if g=f then some u else mA g)
  rw [Ao]
  by_cases q:g=f
  ·rw [if_pos q,if_pos q]; exact ry
  ·rw [if_neg q,if_neg q]; exact r g
 ·by_cases q:g=f
  ·rw [q]; exact (Ij f y fs).1
  ·refine (Ij f y fs).2 g (wi g fun z=>hg ?_)
   show (if g=f then some u else mA g)=none
   rw [if_neg q]; exact z
theorem Inv.made (I:Inv X pins σ H s):Inv X pins σ (upd (upd H s.heap.objs.size (.own (s.heap.objs.size+1))) (s.heap.objs.size+1) (.ins C s.heap.objs.size []))
  { s with heap:=(s.heap.push PySem.W.emptyDict).push (PySem.W.instObj C s.heap.objs.size) }:=by
 have e1:(s.heap.push PySem.W.emptyDict).get? s.heap.objs.size=some PySem.W.emptyDict:=Heap.get?_push_size s.heap rfl
 have e2:((s.heap.push PySem.W.emptyDict).push (PySem.W.instObj C s.heap.objs.size)).get? (s.heap.objs.size+1)=some (PySem.W.instObj C s.heap.objs.size):=by
  have:=Heap.get?_push_size (s.heap.push PySem.W.emptyDict) (o:=PySem.W.instObj C s.heap.objs.size) rfl
  rwa [Heap.size_push] at this
 have e3:(s.heap.push PySem.W.emptyDict).Ns s.heap.objs.size (fun _=>none):=⟨PySem.W.emptyDict,#[],_,e1,rfl,(fun e he=>absurd he (by simp)),fun _=>rfl⟩
 have I1:=I.laid (a:=s.heap.objs.size) (o:=.own (s.heap.objs.size+1)) (h':=s.heap.push PySem.W.emptyDict) (t':=s.toks) (fun b u q=>Heap.get?_push_of_some _ q) (Nat.le_refl _) ⟨_,e1⟩
 refine I1.laid (a:=s.heap.objs.size+1) (o:=.ins C s.heap.objs.size []) (t':=s.toks) (fun b u q=>Heap.get?_push_of_some _ q) (Nat.le_of_eq (Heap.size_push _ _)) ?_
 have ne:s.heap.objs.size ≠ s.heap.objs.size+1:=Nat.ne_of_lt (Nat.lt_succ_self _)
 refine ⟨by rw [BP ne,Ag],Nat.zero_le _,ne,e2,fun _=>none,(Heap.Ns1.of_empty e3).at fun o q=>Heap.get?_push_of_some _ q,fun _=>True.intro,fun y hy=>absurd rfl hy⟩
theorem Up {prog:Program} {w:World} {env:Env} {e:Expr} {f:Str} {pos:Pos} {s:Shared} {Q:Value->Shared->Prop} (hb:attributeBase e f env (eval e env)=eval e env)
  (h:wpAny (model prog w) A (eval e env) (fun o s₁=>wpAny (model prog w) A (getAttr o f true) Q E s₁) E s):wpAny (model prog w) A (eval (.Attribute e f pos) env) Q E s :=
 Attribute_any_ h (by rw [arm_eval_Attribute,hb])
end
noncomputable def i_ (K:PySem.W.Frag) (ta:TE) (f:Str):TE:=fun σ H Q=>ta σ H fun x H1=>∃ a C dx fs v,x=.ref a/\H1 a=some (.ins C dx fs)/\Te K C/\DY K C f/\fs.lookup f=some v/\Q v H1
noncomputable def h_ (K:PySem.W.Frag) (ta tv:TE) (f:Str):TS:=fun D σ H=>tv σ H fun y H1=>ta σ H1 fun x H2=>∃ a C dx fs,x=.ref a/\H2 a=some (.ins C dx fs)/\Te K C/\DY K C f/\fs.length<1000 /\
 D.nx σ (upd H2 a (.ins C dx (Bk f y fs)))
section
variable {X:Cx} {o e value:Expr} {f:Str} {pos pos' tpos:Pos} {ta tv:TE}
theorem Ca (he:PE X e ta) (hb:attributeBase e f X.env (eval e X.env)=eval e X.env):PE X (.Attribute e f pos) (i_ X.K ta f):=by
 intro pins s σ H Q I h
 refine Up hb (By (he pins s σ H _ I h) fun u s1 hq0=>?_)
 obtain ⟨x,H1,I1,rx,a,C,dx,fs,v,ex,ea,c,n,l,q⟩:=hq0
 subst ex
 obtain rfl:u=Value.ref a:=rx
 exact Ol I1 ea c n l fun u' s2 I2 ru=>⟨v,H1,I2,ru,q⟩
theorem Er (ha:PE X o ta) (hv:PE X value tv) (hs:swapsWith value (some (.Attribute o f pos')) pos.line X.env=pure false):PS X (.Assign [.Attribute o f pos'] value pos) (h_ X.K ta tv f):=by
 intro pins s σ H D I h
 refine plainObj_wpAny_Assign_Attribute (By (hv pins s σ H _ I h) fun u s1 ⟨y,H1,I1,ry,q⟩=>By (ha pins s1 σ H1 _ I1 q) fun ov s2 ⟨x,H2,I2,rx,a,C,dx,fs,ex,ea,c,n,l,q2⟩=>?_) hs
 subst ex
 obtain rfl:ov=Value.ref a:=rx
 exact Ou I2 ea c n l ry fun s3 I3=>⟨σ,_,I3,q2⟩
end
section
variable {X:Cx} {pins:List (Addr × Obj)} {σ:St} {H:Hp} {s:Shared} {A:Around} {E:Value->Shared->Prop} {Q:Value->Shared->Prop} {c:Value} {b:Bool}
inductive Ib (K:PySem.W.Frag) (H:Hp):V->Value->Prop where
 | non:Ib K H .non (.type "NoneType")
 | bl (x:Bool):Ib K H (.bl x) (.type "bool")
 | int (i:Int):Ib K H (.int i) (.type "int")
 | str (x:Str):Ib K H (.str x) (.type "str")
 | flt (x:UInt64):Ib K H (.flt x) (.type "float")
 | lst {a:Addr} {xs:List V} (e:H a=some (.lst xs)):Ib K H (.ref a) (.type "list")
 | frz {a:Addr} {o:Obj} {xs:List V} (e:H a=some (.frz o (.lst xs))):Ib K H (.ref a) (.type "list")
 | tup {a:Addr} {xs:List V} (e:H a=some (.tup xs)):Ib K H (.ref a) (.type "tuple")
 | dK {a:Addr} {kvs:List (Key × V)} (e:H a=some (.dK kvs)):Ib K H (.ref a) (.type "dict")
 | dT {a:Addr} {kvs:List (List Key × V)} (e:H a=some (.dT kvs)):Ib K H (.ref a) (.type "dict")
 | ins {a C dx:Addr} {fs:List (Str × V)} (e:H a=some (.ins C dx fs)) (cl:Te K C) (ha:PySem.W.findIn K (.ref C) "__class__" = some (some (.builtin "object.__class__")))
   (hn:PySem.W.specialIn K (.builtin "object.__class__") "__get__" = some (some (.builtin "getset_descriptor.__get__"))) (htk:PySem.W.takesIn K (.builtin "object.__class__")=some true)
   (hm:PySem.W.mroIn K C (.type "object")=some true):Ib K H (.ref a) (.ref C)
theorem Q4 {x:V} {u t:Value} (I:Inv X pins σ H s) (rx:RelV x u) (ty:Ib X.K H x t) (e:PySem.W.kitOne X.K t c=some b) (h:∀ tk,Q (.bool b) { s with toks:=tk }) :
  wpAny (model X.prog X.w) A (call (.builtin "isinstance") [u,c]) Q E s:=by
 cases ty with
 | non=>cases (show u=Value.none from rx); exact PySem.W.kia_one PySem.W.kitx_none I.H_ True.intro e (fun z=>nomatch z) h
 | bl y=>cases (show u=Value.bool y from rx); exact PySem.W.kia_one PySem.W.kitx_bool I.H_ True.intro e (fun z=>nomatch z) h
 | int i=>obtain ⟨t,q⟩:=(show ∃ t,u=Value.int i t from rx); cases q; exact PySem.W.kia_one PySem.W.kitx_int I.H_ True.intro e (fun z=>nomatch z) h
 | str y=>obtain ⟨t,q⟩:=(show ∃ t,u=Value.str y t from rx); cases q; exact PySem.W.kia_one PySem.W.kitx_str I.H_ True.intro e (fun z=>nomatch z) h
 | flt y=>obtain ⟨t,q⟩:=(show ∃ t,u=Value.float y t from rx); cases q; exact PySem.W.kia_one PySem.W.kitx_float I.H_ True.intro e (fun z=>nomatch z) h
 | @lst a xs ea =>
  cases (show u=Value.ref a from rx)
  obtain ⟨_,_,n,_,h1⟩:=(show CJ X.prog X.w H s.heap a (.lst xs) from I.hok a _ ea)
  exact PySem.W.kia_one PySem.W.kitx_list I.H_ ⟨_,h1,rfl⟩ e (fun z=>nomatch z) h
 | @frz a ob xs ea =>
  cases (show u=Value.ref a from rx)
  obtain ⟨_,_,_,n,_,h1⟩:=(show CJ X.prog X.w H s.heap a (.frz ob (.lst xs)) from I.hok a _ ea)
  exact PySem.W.kia_one PySem.W.kitx_list I.H_ ⟨_,h1,rfl⟩ e (fun z=>nomatch z) h
 | @tup a xs ea =>
  cases (show u=Value.ref a from rx)
  obtain ⟨_,_,_,p⟩:=(show CJ X.prog X.w H s.heap a (.tup xs) from I.hok a _ ea)
  obtain ⟨o,h1,h2,_⟩:=p
  exact PySem.W.kia_one PySem.W.kitx_tuple I.H_ ⟨o,h1,h2⟩ e (fun z=>nomatch z) h
 | @dK a kvs ea =>
  cases (show u=Value.ref a from rx)
  obtain ⟨_,_,vs,_,p⟩:=(show CJ X.prog X.w H s.heap a (.dK kvs) from I.hok a _ ea)
  obtain ⟨o,es,ep,h1,h2,_⟩:=p
  exact PySem.W.kia_one PySem.W.kitx_dict I.H_ ⟨o,h1,h2.1⟩ e (fun z=>nomatch z) h
 | @dT a kvs ea =>
  cases (show u=Value.ref a from rx)
  obtain ⟨_,_,xs,_,o,es,ep,h1,h2,_⟩:=(show CJ X.prog X.w H s.heap a (.dT kvs) from I.hok a _ ea)
  exact PySem.W.kia_one PySem.W.kitx_dict I.H_ ⟨o,h1,h2.1⟩ e (fun z=>nomatch z) h
 | @ins a C dx fs ea cl ha hn htk hm =>
  cases (show u=Value.ref a from rx)
  obtain ⟨mA,O,_⟩:=JM I.hok ea
  obtain ⟨od,J,_⟩:=O.look
  exact PySem.W.kia_one (PySem.W.kitx_own (cl.get _) cl.hd ha hn htk hm) I.H_ J e (fun z=>nomatch z) h
end
end L2
namespace L2
open PySem PySem.Spec PyProof.Rows
structure BV (k:Nat) (A:Around):Prop where
 hd:A.handled=none
 dp:A.depth+3 * k+5<recursionLimit
 un:A.units+16 * k+200<cLine
theorem BV.mono {j k:Nat} {A:Around} (r:BV k A) (h:j<=k):BV j A:=⟨r.hd,by have:=r.dp; omega,by have:=r.un; omega⟩
theorem BV.deeper {k:Nat} {A:Around} (r:BV (k+1) A) (env:Env):BV k (A.deeper env) :=
 ⟨r.hd,by have:=r.dp; show A.depth+1+3 * k+5<_; omega,by have:=r.un; show A.units+3+16 * k+200<_; omega⟩
theorem Nz {A:Around} {C:Addr} {us:List Value} {kw:List (Str × Value)}:(A.under (.builtin "type.__call__" ⟨.ref C::us,kw⟩)).depth=A.depth+1:=by
 first | rfl | simp [Around.under,Code.weight,Code.isCreation,Code.isGuard,Code.isCaller,Code.frames,Code.isFrame,guardIds]
theorem Nt {A:Around} {C:Addr} {us:List Value} {kw:List (Str × Value)}:(A.under (.builtin "type.__call__" ⟨.ref C::us,kw⟩)).units=A.units+1:=by
 first | rfl | simp [Around.under,Code.cUnits,Code.frames,Code.isFrame]
theorem BV.make {k:Nat} {A:Around} (r:BV (k+1) A) (C:Addr) (us:List Value) (kw:List (Str × Value)):BV k (A.under (.builtin "type.__call__" ⟨.ref C::us,kw⟩)) :=
 ⟨r.hd,by have:=r.dp; rw [Nz]; omega,by have:=r.un; rw [Nt]; omega⟩
theorem BV.depth {k:Nat} {A:Around} (r:BV k A):A.depth<recursionLimit:=by have:=r.dp; omega
theorem BV.units {k:Nat} {A:Around} (r:BV k A):A.units+64<cLine:=by have:=r.un; omega
theorem BV.Wo {k:Nat} {A:Around} (r:BV k A):A.units<cLine:=by have:=r.un; omega
noncomputable def eX:TA:=fun _ H Q=>Q [] H
noncomputable def b_ (ta:TE) (tr:TA):TA:=fun σ H Q=>ta σ H fun x H1=>tr σ H1 fun xs H2=>Q (x::xs) H2
section
variable {X:Cx} {e:Expr} {es:List Expr} {te:TE} {t:TA} {pos:Pos}
theorem Ac:PA X [] eX:=fun _ _ _ _ H Q I h=>Calls.spliced_nil ⟨[],H,I,.nil,h⟩
theorem Aa (ha:PE X e te) (hr:PA X es t) (hs:starEach (e::es) X.env=(false,eval e X.env)::starEach es X.env:=by rfl):PA X (e::es) (b_ te t):=by
 intro pos pins s σ H Q I h
 rw [hs]
 show wpAny _ _ (spliced ((false,eval e X.env)::backTo pos (starEach es X.env))) _ _ s
 refine Calls.spliced_cons (By (ha pins s σ H _ I h) fun u s1 hq0=>?_)
 obtain ⟨x,H1,I1,r1,q1⟩:=hq0
 exact By (hr pos pins s1 σ H1 _ I1 q1) fun us s2 ⟨xs,H2,I2,r2,q2⟩=>⟨x::xs,H2,I2,.cons r1 r2,q2⟩
noncomputable def jQ (t:TA):TE:=fun σ H Q=>t σ H fun xs H1=>xs.length<=sizeLine/\∀ p,H1 p=none->Q (.ref p) (upd H1 p (.tup xs))
noncomputable def iB (t:TA):TE:=fun σ H Q=>t σ H fun xs H1=>xs.length<=sizeLine/\∀ p,H1 p=none->Q (.ref p) (upd H1 p (.lst xs))
theorem Cv {x1} (h:PA X es t):PE X (.Tuple es x1 pos) (jQ t):=by
 intro pins s σ H Q I hq
 refine wpAny_Tuple_spliced (By (h pos pins s σ H _ I hq) fun us s1 ⟨xs,H1,I1,r,z,q⟩=>⟨by rw [← r.length]; exact z,?_⟩)
 have hf:H1 s1.heap.objs.size=none:=I1.hok.fresh (Nat.le_refl _)
 refine ⟨.ref s1.heap.objs.size,upd H1 s1.heap.objs.size (.tup xs),I1.laid (t':=s1.toks) (fun b u e=>Heap.get?_push_of_some _ e) (Nat.le_refl _) ?_,rfl,q _ hf⟩
 exact ⟨z,us,r,⟨_,Heap.get?_push_size _ rfl,rfl,_,rfl⟩⟩
theorem De (h:PA X es t):PE X (.List es pos) (iB t):=by
 intro pins s σ H Q I hq
 refine wpAny_List_spliced (By (h pos pins s σ H _ I hq) fun us s1 ⟨xs,H1,I1,r,z,q⟩=>⟨by rw [← r.length]; exact z,?_⟩)
 have hf:H1 s1.heap.objs.size=none:=I1.hok.fresh (Nat.le_refl _)
 refine ⟨.ref s1.heap.objs.size,upd H1 s1.heap.objs.size (.lst xs),I1.laid (t':=s1.toks) (fun b u e=>Heap.get?_push_of_some _ e) (Nat.le_refl _) ?_,rfl,q _ hf⟩
 exact ⟨z,us,0,r,Heap.get?_push_size _ rfl⟩
end
noncomputable abbrev Sp:=List V->Hp->VK->XK->Prop
noncomputable abbrev Tj:=List Env->Hp->Shared->XK->Value->Shared->Prop
structure N5 (P:Program) (w:World) (K:PySem.W.Frag) (mg:Str->Option Value) (base:Heap) (A:Around) (outer:List Env) (s:Shared) (H:Hp):Prop where
 frames:A.frames=some outer
 mod:Mod K mg base
 bs:∀ b o,base.get? b=some o->s.heap.get? b=some o/\H b=none
 bsz:base.objs.size<=s.heap.objs.size
 JG:s.heap.FunFrames base outer
 frf:∀ b∈frs outer,H b=none
 hok:Ha P w H s.heap
 bare:AllBare s.gens
noncomputable def CE (outer:List Env) (P:Program) (w:World) (H:Hp) (s:Shared) (Q:VK) (u:Value) (s':Shared):Prop :=
 ∃ v H',s'.os=s.os/\AllBare s'.gens/\Un (frs outer) [] H H' s.heap s'.heap/\Ha P w H' s'.heap/\RelV v u/\Q v H'
noncomputable def CR (CX:Tj) (outer:List Env) (P:Program) (w:World) (H:Hp) (s:Shared) (Q:VK) (E:XK) (r:Result) (s':Shared):Prop :=
 match r with
 | .ok (.ret u)=>CE outer P w H s Q u s'
 | .ok _=>False
 | .error e=>CX outer H s E e s'
structure Ax (P:Program) (w:World) (K:PySem.W.Frag) (mg:Str->Option Value) (base:Heap) (CX:Tj) (k:Nat) (f:Addr) (fd:FuncData) (ps:List Str) (sp:Sp):Prop where
 len:∀ vs H Q E,sp vs H Q E->vs.length=ps.length
 run:∀ (A:Around) (outer:List Env) (s:Shared) (H:Hp) (args:Args) (us:List Value) (vs:List V) (Q:VK) (E:XK),BV k A->N5 P w K mg base A outer s H->BindsTo s fd args (ps.zip us)->Vals vs us->sp vs H Q E ->
  codeAny (model P w) A (.call (.ref f) args) (CR CX outer P w H s Q E) s
theorem N5.make {P:Program} {w:World} {K:PySem.W.Frag} {mg:Str->Option Value} {base:Heap} {A:Around} {outer:List Env} {s:Shared} {H:Hp} (e:N5 P w K mg base A outer s H) (C:Addr) (us:List Value) (kw:List (Str × Value)) :
  N5 P w K mg base (A.under (.builtin "type.__call__" ⟨.ref C::us,kw⟩)) outer s H:=⟨by first | exact e.frames | (simpa [Around.under,Code.envs,Code.isFrame,pushEnvs] using e.frames),e.mod,e.bs,e.bsz,e.JG,e.frf,e.hok,e.bare⟩
section
variable {X:Cx} {pins:List (Addr × Obj)} {σ:St} {H:Hp} {s s':Shared}
theorem Inv.env0 (I:Inv X pins σ H s):N5 X.prog X.w X.K X.mg X.base X.A X.stack s H :=
 ⟨I.ok.frames,I.ok.mod,I.bs,Nat.le_trans I.ok.bsz I.sz,I.stack,I.K6,I.hok,I.bare⟩
theorem Inv.after {Q:VK} {u:Value} (I:Inv X pins σ H s) (h:CE X.stack X.prog X.w H s Q u s'):EP X pins σ Q u s':=by
 obtain ⟨v,H',os,bare,un,hok,r,q⟩:=h
 obtain ⟨hh,g,d,t,os'⟩:=s'
 obtain rfl:os'=s.os:=os
 exact ⟨v,H',I.call (h':=hh) (g':=g) (d':=d) (t':=t) (ch:=[]) un hok bare (fun b z=>absurd z (by simp)),r,q⟩
end
noncomputable def dh (sp:Sp) (dvs:List V) (E:XK) (t:TA):TE:=fun σ H Q=>t σ H fun vs H1=>sp (vs++dvs) H1 Q E
noncomputable def V3 (C:Addr) (m:Str) (sp:Sp) (dvs:List V) (E:XK) (ta:TE) (t:TA):TE:=fun σ H Q=>ta σ H fun x H1=>∃ a dx fs,x=.ref a/\H1 a=some (.ins C dx fs)/\fs.lookup m=none /\
 t σ H1 fun vs H2=>sp (x::(vs++dvs)) H2 Q E
noncomputable def fB (C:Addr) (sp:Sp) (dvs:List V) (E:XK) (t:TA):TE:=fun σ H Q=>t σ H fun vs H1=>∀ x dx,H1 x=none->H1 dx=none->dx ≠ x ->
 sp (.ref x::(vs++dvs)) (upd (upd H1 dx (.own x)) x (.ins C dx [])) (fun v H2=>v=.non/\Q (.ref x) H2) E
noncomputable def Binds (K:PySem.W.Frag) (fd:FuncData) (ps:List Str) (ds:List Value):Prop :=
 ∀ (s:Shared) (us:List Value),K.In s.heap->(us++ds).length=ps.length->BindsTo s fd ⟨us,[]⟩ (ps.zip (us++ds))
theorem Binds.all {K:PySem.W.Frag} {fd:FuncData} {ps:List Str} (h:∀ us:List Value,us.length=ps.length->bindArgs fd ⟨us,[]⟩=pure (ps.zip us)):Binds K fd ps []:=fun s us _ hl=>by
 rw [List.append_nil] at hl ⊢
 exact .of_eq (h us hl)
noncomputable def HH (CX:Tj) (X:Cx) (E:XK):Prop:=∀ (pins:List (Addr × Obj)) (σ:St) (H:Hp) (s:Shared) (e:Value) (s':Shared),Inv X pins σ H s->CX X.stack H s E e s'->X.xe e s'
section
variable {X:Cx} {CX:Tj} {k:Nat} {f C:Addr} {fd:FuncData} {ps:List Str} {sp:Sp} {dvs:List V} {ds:List Value} {E:XK} {x m:Str} {p pos apos:Pos} {e o:Expr} {es:List Expr} {ta:TE} {t:TA}
theorem Oo {pins:List (Addr × Obj)} {σ:St} {H:Hp} {s:Shared} {Q:VK} {us:List Value} {vs:List V} (F:Ax X.prog X.w X.K X.mg X.base CX k f fd ps sp) (hr:BV k X.A) (hb:Binds X.K fd ps ds) (hd:Vals dvs ds) (hx:HH CX X E)
  (I:Inv X pins σ H s) (r:Vals vs us) (h:sp (vs++dvs) H Q E):wpAny (model X.prog X.w) X.A (call (.ref f) us) (EP X pins σ Q) X.xe s:=by
 have r2:Vals (vs++dvs) (us++ds):=r.append hd
 have hl:(us++ds).length=ps.length:=by rw [← r2.length]; exact F.len _ _ _ _ h
 refine wpAny_call (codeAny_mono (F.run X.A X.stack s H ⟨us,[]⟩ (us++ds) (vs++dvs) Q E hr I.env0 (hb s us I.H_ hl) r2 h) fun r s' hq=>?_)
 cases r with
 | error e=>exact hx pins σ H s e s' I hq
 | ok fl =>
  cases fl with
  | ret u=>exact I.after hq
  | next=>exact False.elim hq
  | brk=>exact False.elim hq
  | cont=>exact False.elim hq
theorem Ah (F:Ax X.prog X.w X.K X.mg X.base CX k f fd ps sp) (hr:BV k X.A) (hg:Gl X x) (hm:X.mg x=some (.ref f)) (hk:PySem.W.keepIn X.K (.ref f)=true) (hb:Binds X.K fd ps ds) (hd:Vals dvs ds) (hx:HH CX X E)
  (ha:PA X (e::es) t) (hdb:(x == ("__debug__" : Str))=false:=by decide) (he:starEach (e::es) X.env=(false,eval e X.env)::starEach es X.env:=by rfl) (hpl:(backTo pos (starEach es X.env)).any (·.1)=false:=by rfl) :
  PE X (.Call (.Name x p) (e::es) [] pos) (dh sp dvs E t):=by
 intro pins s σ H Q I h
 refine wpAny_Call_Name_kw (K3 I hg hm ?_ hdb)
 refine PySem.W.callWith_K (h₀:=X.base) I.ok.mod.kin hk (By (ha pos pins s σ H _ I h) fun us s1 ⟨vs,H1,I1,r,q⟩=>⟨I1.H_,?_⟩) he hpl
 exact Oo F hr hb hd hx I1 r q
theorem Dp {pl:Sem Bool} (he:PE X o ta) (c:Te X.K C) (hm:Meth X.K C m f) (F:Ax X.prog X.w X.K X.mg X.base CX k f fd ps sp) (hr:BV k X.A) (hb:Binds X.K fd ps ds) (hd:Vals dvs ds) (hx:HH CX X E) (ha:PA X (e::es) t)
  (hst:starEach (e::es) X.env=(false,eval e X.env)::starEach es X.env:=by rfl) (hpl:(backTo pos (starEach es X.env)).any (·.1)=false:=by rfl)
  (ht:eval (.Call (.Attribute o m apos) (e::es) [] pos) X.env=(do
   let ov ← eval o X.env
   standAt apos.atName
   let (f,first) ← holding [ov] (getMethod ov m pl)
   callWith pos f first (backTo pos (starEach (e::es) X.env)) (backToKw pos (keywordEach [] X.env))):=by rfl) :
  PE X (.Call (.Attribute o m apos) (e::es) [] pos) (V3 C m sp dvs E ta t):=by
 intro pins s σ H Q I h
 refine PySem.W.methodCall_KW (pl:=pl) (By (he pins s σ H _ I h) fun u s1 ⟨x,H1,I1,rx,a,dx,fs,ex,ea,l,q⟩=>?_) ht
 subst ex
 obtain rfl:u=Value.ref a:=rx
 refine JV I1 ea c hm l ?_
 refine PySem.W.callWith_K (first:=[.ref a]) (h₀:=X.base) I.ok.mod.kin hm.kp (By (ha pos pins s1 σ H1 _ I1 q) fun us s2 ⟨vs,H2,I2,r,q2⟩=>⟨I2.H_,?_⟩) hst hpl
 exact Oo (us:=.ref a::us) (vs:=.ref a::vs) F hr hb hd hx I2 (.cons rfl r) q2
theorem Eo {pl:Sem Bool} (he:PE X o ta) (c:Te X.K C) (hm:Meth X.K C m f) (F:Ax X.prog X.w X.K X.mg X.base CX k f fd ps sp) (hr:BV k X.A) (hb:Binds X.K fd ps ds) (hd:Vals dvs ds) (hx:HH CX X E)
  (ht:eval (.Call (.Attribute o m apos) [] [] pos) X.env=(do
   let ov ← eval o X.env
   standAt apos.atName
   let (f,first) ← holding [ov] (getMethod ov m pl)
   callWith pos f first (backTo pos (starEach [] X.env)) (backToKw pos (keywordEach [] X.env))):=by rfl) :
  PE X (.Call (.Attribute o m apos) [] [] pos) (V3 C m sp dvs E ta eX):=by
 intro pins s σ H Q I h
 refine PySem.W.methodCall_KW (pl:=pl) (By (he pins s σ H _ I h) fun u s1 ⟨x,H1,I1,rx,a,dx,fs,ex,ea,l,q⟩=>?_) ht
 subst ex
 obtain rfl:u=Value.ref a:=rx
 refine JV I1 ea c hm l ?_
 exact PySem.W.callWith_K0 (first:=[.ref a]) I1.H_ hm.kp (Oo (us:=[.ref a]) (vs:=[.ref a]) F hr hb hd hx I1 (.cons rfl .nil) q)
structure Mk (K:PySem.W.Frag) (C f:Addr):Prop where
 makes:PySem.W.makesIn K C=true
 init:PySem.W.findIn K (.ref C) "__init__" = some (some (.ref f))
 fn:PySem.W.isFn K (.ref f)=true
 kp:PySem.W.keepIn K (.ref C)=true
theorem RX {pins:List (Addr × Obj)} {σ:St} {H:Hp} {s:Shared} {Q:VK} {us:List Value} {vs:List V} (M:Mk X.K C f) (F:Ax X.prog X.w X.K X.mg X.base CX k f fd ps sp) (hr:BV (k+1) X.A) (hb:Binds X.K fd ps ds) (hd:Vals dvs ds)
  (hx:HH CX X E) (I:Inv X pins σ H s) (r:Vals vs us)
  (h:∀ x dx,H x=none->H dx=none->dx ≠ x->sp (.ref x::(vs++dvs)) (upd (upd H dx (.own x)) x (.ins C dx [])) (fun v H2=>v=.non/\Q (.ref x) H2) E) :
  wpAny (model X.prog X.w) X.A (call (.ref C) us) (EP X pins σ Q) X.xe s:=by
 have hq:=h (s.heap.objs.size+1) s.heap.objs.size (I.hok.fresh (Nat.le_succ _)) (I.hok.fresh (Nat.le_refl _)) (Nat.ne_of_lt (Nat.lt_succ_self _))
 have I2:=Inv.made (C:=C) I
 have r2:Vals (V.ref (s.heap.objs.size+1)::(vs++dvs)) (Value.ref (s.heap.objs.size+1)::(us++ds)):=.cons rfl (r.append hd)
 have hl:(Value.ref (s.heap.objs.size+1)::us++ds).length=ps.length:=by
  have e:=r2.length
  rw [F.len _ _ _ _ hq] at e
  exact e.symm
 refine wpAny_call (Su (f:=f) I.H_ M.makes M.init (beq_iff_eq.mp M.fn) (codeAny_mono (F.run _ X.stack _ _ ⟨Value.ref (s.heap.objs.size+1)::us,[]⟩ (Value.ref (s.heap.objs.size+1)::(us++ds)) _ _ E (hr.make C us [])
  (I2.env0.make C us []) (hb _ (Value.ref (s.heap.objs.size+1)::us) I2.H_ hl) r2 hq) fun r s' hq'=>?_))
 cases r with
 | error e=>exact hx pins σ _ _ e s' I2 hq'
 | ok fl =>
  cases fl with
  | ret u =>
   obtain ⟨v,H',I3,rv,ev,q3⟩:=I2.after hq'
   subst ev
   exact ⟨rv,⟨V.ref (s.heap.objs.size+1),H',I3,rfl,q3⟩⟩
  | next=>exact False.elim hq'
  | brk=>exact False.elim hq'
  | cont=>exact False.elim hq'
theorem Vb (M:Mk X.K C f) (F:Ax X.prog X.w X.K X.mg X.base CX k f fd ps sp) (hr:BV (k+1) X.A) (hg:Gl X x) (hm:X.mg x=some (.ref C)) (hb:Binds X.K fd ps ds) (hd:Vals dvs ds) (hx:HH CX X E)
  (ha:PA X (e::es) t) (hdb:(x == ("__debug__" : Str))=false:=by decide) (he:starEach (e::es) X.env=(false,eval e X.env)::starEach es X.env:=by rfl) (hpl:(backTo pos (starEach es X.env)).any (·.1)=false:=by rfl) :
  PE X (.Call (.Name x p) (e::es) [] pos) (fB C sp dvs E t):=by
 intro pins s σ H Q I h
 refine wpAny_Call_Name_kw (K3 I hg hm ?_ hdb)
 refine PySem.W.callWith_K (h₀:=X.base) I.ok.mod.kin M.kp (By (ha pos pins s σ H _ I h) fun us s1 ⟨vs,H1,I1,r,q⟩=>⟨I1.H_,?_⟩) he hpl
 exact RX M F hr hb hd hx I1 r q
end
section
variable {X:Cx} {CX:Tj} {k:Nat} {f C:Addr} {fd:FuncData} {ps ks:List Str} {sp:Sp} {E:XK} {x m:Str} {p pos apos kpos:Pos} {e o:Expr} {es:List Expr} {kws:List Keyword} {te ta:TE} {t tk:TA} {nm:Option Str}
variable {g:List Value->List Value->List Value} {gV:List V->List V->List V}
end
structure Aw (N P:List Str) (sc:Scope):Prop where
 kind:sc.kind=.function
 co:sc.isCoroutine=false
 gen:sc.isGenerator=false
 nd:N.Nodup
 pre:N.take P.length=P
 par:∀ x∈P,sc.names.lookup x=some .local \/ sc.names.lookup x=some .cell
 nofree:∀ y∈sc.names,y.2 ≠ .free
theorem Kh {kindOf:Str->Option NameKind} {x:Str}:∀ {binds:List (Str × Value)} {m:Str->Option Value},(∀ v,(x,v) ∉ binds)->bindL kindOf binds m x=m x
 | [],_,_=>rfl
 | (n,v)::r,m,h=>by
  unfold bindL
  rw [Kh fun w hw=>h w (List.mem_cons_of_mem _ hw)]
  split
  ·have:x ≠ n:=by rintro rfl; exact h v List.mem_cons_self
   simp [this]
  ·rfl
theorem Ko {kindOf:Str->Option NameKind} {x:Str}:∀ {binds:List (Str × Value)} {m:Str->Option Value},(∀ v,(x,v) ∉ binds)->bindC kindOf binds m x=m x
 | [],_,_=>rfl
 | (n,v)::r,m,h=>by
  unfold bindC
  rw [Ko fun w hw=>h w (List.mem_cons_of_mem _ hw)]
  split
  ·rfl
  ·have:x ≠ n:=by rintro rfl; exact h v List.mem_cons_self
   simp [this]
theorem KR {kindOf:Str->Option NameKind} {x:Str} {v:Value}:∀ {P:List Str} {vs:List Value} {i:Nat} {m:Str->Option Value},P.Nodup->P[i]? = some x->vs[i]? = some v->kindOf x=some .local ->
  bindL kindOf (P.zip vs) m x=some v
 | [],_,_,_,_,h,_,_=>by simp at h
 | _::_,[],_,_,_,_,h,_=>by simp at h
 | p::P,w::vs,0,m,nd,h1,h2,hk=>by
  simp at h1 h2; subst h1; subst h2
  show bindL kindOf ((p,w)::P.zip vs) m p=_
  unfold bindL
  rw [Kh fun v hv=>(List.nodup_cons.mp nd).1 (List.of_mem_zip hv).1,if_pos hk]
  simp
 | p::P,w::vs,i+1,m,nd,h1,h2,hk=>by
  show bindL kindOf ((p,w)::P.zip vs) m x=_
  unfold bindL
  exact KR (i:=i) (List.nodup_cons.mp nd).2 (by simpa using h1) (by simpa using h2) hk
theorem Ks {kindOf:Str->Option NameKind} {x:Str} {v:Value}:∀ {P:List Str} {vs:List Value} {i:Nat} {m:Str->Option Value},P.Nodup->P[i]? = some x->vs[i]? = some v->kindOf x ≠ some .local ->
  bindC kindOf (P.zip vs) m x=some v
 | [],_,_,_,_,h,_,_=>by simp at h
 | _::_,[],_,_,_,_,h,_=>by simp at h
 | p::P,w::vs,0,m,nd,h1,h2,hk=>by
  simp at h1 h2; subst h1; subst h2
  show bindC kindOf ((p,w)::P.zip vs) m p=_
  unfold bindC
  rw [Ko fun v hv=>(List.nodup_cons.mp nd).1 (List.of_mem_zip hv).1,if_neg hk]
  simp
 | p::P,w::vs,i+1,m,nd,h1,h2,hk=>by
  show bindC kindOf ((p,w)::P.zip vs) m x=_
  unfold bindC
  exact Ks (i:=i) (List.nodup_cons.mp nd).2 (by simpa using h1) (by simpa using h2) hk
noncomputable def start (N:List Str) (vs:List V):St:=vs.map some++List.replicate (N.length - vs.length) none
noncomputable def Qo (CX:Tj) (P:Program) (w:World) (K:PySem.W.Frag) (mg:Str->Option Value) (base:Heap) (N:List Str) (qual:Str) (scope:Scope) (f:Addr) (cd:Value) (A:Around) (outer:List Env) (s:Shared) (H:Hp) (E:XK):Cx where
 prog:=P
 w:=w
 K:=K
 mg:=mg
 base:=base
 A:=A.deeper (envOfC qual scope s.heap.objs.size f cd)
 N:=N
 s₀:=s
 H₀:=H
 env:=envOfC qual scope s.heap.objs.size f cd
 outer:=outer
 stack:=envOfC qual scope s.heap.objs.size f cd::outer
 ex:=[]
 calm:=true
 fn:=fun _=>true
 pn:=[]
 xe:=fun e s'=>wpAny (model P w) (A.deeper (envOfC qual scope s.heap.objs.size f cd)) (leaving (envOfC qual scope s.heap.objs.size f cd) e) (fun _ s''=>CX outer H s E e s'') (fun e' s''=>CX outer H s E e' s'') s'
theorem M5 {sc:Scope} {n:Nat} {x:Str} (h:sc.names.lookup x=some .cell):∃ c,(cellsFrom n sc.names []).lookup x=some c:=by
 have q:=PySem.W.cellsFrom_some sc.names n [] (.inl h)
 exact Option.isSome_iff_exists.mp q
theorem Qt {CX:Tj} {P:Program} {w:World} {K:PySem.W.Frag} {mg:Str->Option Value} {base:Heap} {N ps:List Str} {qual:Str} {scope:Scope} {f:Addr} {cd:Value} {A:Around} {outer:List Env} {s s1:Shared} {H:Hp} {E:XK} {us:List Value} {vs:List V}
  (S:Aw N ps scope) (hd:A.handled=none) (e0:N5 P w K mg base A outer s H) (hl:vs.length=ps.length) (r:Vals vs us)
  (x:InCallC s s.heap.objs.size (bindL (envOfC qual scope s.heap.objs.size f cd).kindOf (ps.zip us) fun _=>none) (cellsFrom (s.heap.objs.size+1) scope.names []) (bindC (envOfC qual scope s.heap.objs.size f cd).kindOf (ps.zip us) fun _=>none) s1) :
  Inv (Qo CX P w K mg base N qual scope f cd A outer s H E) [] (start N vs) H s1:=by
 have hpl:ps.length<=N.length:=by have:=congrArg List.length S.pre; rw [List.length_take] at this; omega
 obtain ⟨h1,tk,rfl,hk⟩:=x.done
 have noA:∀ b:Addr,b ∉ (Qo CX P w K mg base N qual scope f cd A outer s H E).ex:=fun b z=>absurd (show b∈([]:List Addr) from z) (by simp)
 refine ⟨⟨e0.mod,S.kind,rfl,rfl,Nat.le_refl _,fun y z c h1 h2=>?_,fun y hy=>?_,fun y c _ h=>?_,fun _=>hd,Around.frames_deeper e0.frames,.inr ⟨rfl,rfl⟩,fun b z=>absurd z (noA b),e0.bs,e0.bsz,fun b _ _=>noA b,fun b z=>absurd z (noA b),e0.JG,e0.frf⟩,
  rfl,e0.bare,Un.kept hk,⟨_,x.toInCall.ns,fun i y v h1 h2 h3=>?_⟩,fun y c h=>⟨_,x.cell y c h⟩,e0.hok.fresh (Nat.le_refl _),fun y c h=>?_,fun p hp=>absurd (show p∈([]:List (Addr × Obj)) from hp) (by simp),e0.hok.kept hk,?_⟩
 ·exact name_of_addr x.apart (PySem.mem_of_lookup h1) (PySem.mem_of_lookup h2)
 ·have hy:scope.names.lookup y=some .cell \/ scope.names.lookup y=some .free:=hy
  rcases hy with hy | hy
  ·exact M5 hy
  ·exact absurd rfl (S.nofree _ (PySem.mem_of_lookup hy))
 ·exact Nat.le_of_lt (x.above y c (PySem.mem_of_lookup h))
 ·have hi:i<vs.length:=by
   unfold start at h2
   by_cases hi:i<vs.length
   ·exact hi
   ·rw [List.getElem?_append_right (by simpa using hi)] at h2
    rw [List.getElem?_replicate] at h2
    split at h2 <;> cases h2
  have ha:vs[i]? = some v:=by
   unfold start at h2
   rw [List.getElem?_append_left (by simpa using hi),List.getElem?_map] at h2
   cases e:vs[i]? with
   | none=>rw [e] at h2; cases h2
   | some a=>rw [e] at h2; cases h2; rfl
  obtain ⟨u,hu,rv⟩:=r.get ha
  have hp:ps[i]? = some y:=by
   rw [← S.pre,List.getElem?_take_of_lt (by omega)]; exact h1
  have ndP:ps.Nodup:=by rw [← S.pre]; exact S.nd.sublist (List.take_sublist _ _)
  refine ⟨u,rv,?_⟩
  rcases S.par y (List.mem_of_getElem? hp) with k | k
  ·exact .inl ⟨k,KR ndP hp hu k⟩
  ·obtain ⟨c,e⟩:=M5 (n:=s.heap.objs.size+1) k
   refine .inr ⟨.inl k,c,e,?_⟩
   have q:=x.cell y c e
   rw [Ks ndP hp hu (by show scope.names.lookup y ≠ _; rw [k]; decide)] at q
   exact q
 ·exact e0.hok.fresh (Nat.le_of_lt (x.above y c (PySem.mem_of_lookup h)))
 ·unfold start
  show _=N.length
  rw [List.length_append,List.length_map,List.length_replicate]
  omega
theorem fY {CX:Tj} {P:Program} {w:World} {K:PySem.W.Frag} {mg:Str->Option Value} {base:Heap} {k:Nat} {f:Addr} {name qual:Str} {params:Arguments} {body:List Stmt} {scope:Scope} {dV kV doc pm cdv ct oc:Value} {an od:Option Addr}
  {osl:Array (Option Value)} {N ps:List Str} {sp:Sp} (lk:K.lookup f=some ⟨oc,od,.func (PySem.W.fnOf name qual params body scope dV kV doc pm an cdv ct),osl⟩) (hcd:PySem.W.codeIn K cdv qual=true) (S:Aw N ps scope)
  (len:∀ vs H Q E,sp vs H Q E->vs.length=ps.length)
  (hbody:∀ (A:Around) (outer:List Env) (s:Shared) (H:Hp) (vs:List V) (Q:VK) (E:XK),BV k (A.deeper (envOfC qual scope s.heap.objs.size f cdv))->sp vs H Q E ->
   ∃ t,QQ (Qo CX P w K mg base N qual scope f cdv A outer s H E) body t/\t { nx:=fun _ H'=>Q .non H',rt:=Q } (start N vs) H) :
  Ax P w K mg base CX (k+1) f (PySem.W.fnOf name qual params body scope dV kV doc pm an cdv ct) ps sp:=by
 refine ⟨len,fun A outer s H args us vs Q E hr e0 hb r hsp=>?_⟩
 have hl:=len _ _ _ _ hsp
 have KX:K.In s.heap:=e0.mod.kin.keeps fun b o e=>(e0.bs b o e).1
 have lim:s.heap.NoLimit:=e0.mod.nolimit.keeps fun b o e=>(e0.bs b o e).1
 have hkind:∀ y∈ps.zip us,scope.names.lookup y.1=some .local \/ (scope.names.lookup y.1=some .cell/\((cellsFrom (s.heap.objs.size+1) scope.names []).lookup y.1).isSome=true):=fun ⟨n,v⟩ hy=>by
  rcases S.par n (List.of_mem_zip hy).1 with q | q
  ·exact .inl q
  ·exact .inr ⟨q,PySem.W.cellsFrom_some _ _ _ (.inl q)⟩
 refine codeAny_call_function hr.depth (KX _ _ lk) rfl S.co S.gen rfl (PySem.W.codeRec_of KX hcd) (hb _ _ _ _ ?_)
 refine wpAny_newFunctionEnv_cells S.kind hkind fun env he s1 x=>?_
 subst he
 refine ⟨lim.keeps x.toInCall.keep,codeAny_func ?_⟩
 obtain ⟨t,ht,hq⟩:=hbody A outer s H vs Q E (hr.deeper _) hsp
 have I:Inv (Qo CX P w K mg base N qual scope f cdv A outer s H E) [] (start N vs) H s1:=Qt S hr.hd e0 hl r x
 refine wpAny_mono (ht [] s1 (start N vs) H _ I hq) (fun fl s' hs=>?_) fun e s' hs=>hs
 have fin:∀ {σ':St} {H':Hp} {v:V} {u:Value},Inv (Qo CX P w K mg base N qual scope f cdv A outer s H E) [] σ' H' s'->RelV v u->Q v H'->CE outer P w H s Q u s' :=
  fun {σ' H' v u} J rv q=>⟨v,H',J.os,J.bare,J.base,J.hok,rv,q⟩
 cases fl with
 | ret u =>
  obtain ⟨v,σ',H',J,rv,q⟩:=hs
  exact fin J rv q
 | next =>
  obtain ⟨σ',H',J,q⟩:=hs
  exact fin (v:=V.non) (u:=Value.none) J rfl q
 | brk =>
  obtain ⟨_,_,_,q⟩:=hs
  exact False.elim q
 | cont =>
  obtain ⟨_,_,_,q⟩:=hs
  exact False.elim q
end L2
namespace L2
open PySem PySem.Spec PyProof.Rows
section
variable {X:Cx} {x:Str} {p pos:Pos} {e:Expr} {es:List Expr} {t:TA} {id T:String} {r:List V->Hp->VK->Prop}
noncomputable def jj (r:List V->Hp->VK->Prop) (t:TA):TE:=fun σ H Q=>t σ H fun vs H1=>r vs H1 Q
theorem BX (hc:Ey X (.builtin id) r) (hg:Gl X x) (hm:X.mg x=none) (hv:bootBuiltins x=some (.builtin id)) (ha:PA X (e::es) t) (hn:x ≠ "__name__":=by decide) (hdb:(x == ("__debug__" : Str))=false:=by decide)
  (he:starEach (e::es) X.env=(false,eval e X.env)::starEach es X.env:=by rfl) (hpl:(backTo pos (starEach es X.env)).any (·.1)=false:=by rfl):PE X (.Call (.Name x p) (e::es) [] pos) (jj r t):=by
 intro pins s σ H Q I h
 refine wpAny_Call_Name_kw (GR I hg hm hv ?_ hn hdb)
 exact PyProof.Rows.callWith_builtin1 (By (ha pos pins s σ H _ I h) fun us s1 ⟨vs,H1,I1,r1,q1⟩=>hc pins s1 σ H1 vs us Q I1 r1 q1) he hpl
theorem Dk (hc:Ey X (.type T) r) (hg:Gl X x) (hm:X.mg x=none) (hv:bootBuiltins x=some (.type T)) (ha:PA X (e::es) t) (hn:x ≠ "__name__":=by decide) (hdb:(x == ("__debug__" : Str))=false:=by decide)
  (he:starEach (e::es) X.env=(false,eval e X.env)::starEach es X.env:=by rfl) (hpl:(backTo pos (starEach es X.env)).any (·.1)=false:=by rfl):PE X (.Call (.Name x p) (e::es) [] pos) (jj r t):=by
 intro pins s σ H Q I h
 refine wpAny_Call_Name_kw (GR I hg hm hv ?_ hn hdb)
 exact PyProof.Rows.callWith_type1 (By (ha pos pins s σ H _ I h) fun us s1 ⟨vs,H1,I1,r1,q1⟩=>hc pins s1 σ H1 vs us Q I1 r1 q1) he hpl
end
end L2
namespace L2
open PySem PySem.Spec PyProof.Rows
section
variable {κ:Type} [DecidableEq κ]
noncomputable def Dh (kvs:List (κ × V)) (k:κ):Option V:=(kvs.find? fun kv=>decide (kv.1=k)).map (·.2)
noncomputable def putK (kvs:List (κ × V)) (k:κ) (v:V):List (κ × V) :=
 if (kvs.any fun kv=>decide (kv.1=k))=true then kvs.map (fun kv=>if kv.1=k then (kv.1,v) else kv) else kvs++[(k,v)]
noncomputable def ji (kvs:List (κ × V)) (k:κ):List (κ × V):=kvs.filter fun kv=>decide (kv.1 ≠ k)
theorem DQ {p:κ × V} {r:List (κ × V)} {k:κ} (e:p.1=k):Dh (p::r) k=some p.2:=by simp [Dh,List.find?_cons,e]
theorem DG {p:κ × V} {r:List (κ × V)} {k:κ} (e:¬ p.1=k):Dh (p::r) k=Dh r k:=by simp [Dh,List.find?_cons,e]
theorem Fe (k:κ):∀ kvs:List (κ × V),(kvs.any fun kv=>decide (kv.1=k))=(Dh kvs k).isSome
 | []=>rfl
 | p::r=>by
  rw [List.any_cons]
  by_cases e:p.1=k
  ·simp only [DQ e,decide_eq_true e,Bool.true_or,Option.isSome_some]
  ·rw [DG e,decide_eq_false e,Bool.false_or]; exact Fe k r
theorem MT (k j:κ) (y:V):∀ kvs:List (κ × V),Dh (kvs.map fun kv=>if kv.1=k then (kv.1,y) else kv) j=(Dh kvs j).map fun x=>if j=k then y else x
 | []=>rfl
 | p::r=>by
  have ih:=MT k j y r
  rw [List.map_cons]
  by_cases h:p.1=k
  ·rw [if_pos h]
   by_cases e:p.1=j
   ·rw [DQ (p:=(p.1,y)) e,DQ e,Option.map_some,if_pos (e.symm.trans h)]
   ·rw [DG (p:=(p.1,y)) e,DG e,ih]
  ·rw [if_neg h]
   by_cases e:p.1=j
   ·rw [DQ (p:=p) e,DQ e,Option.map_some,if_neg (fun z=>h (e.trans z))]
   ·rw [DG (p:=p) e,DG e,ih]
theorem Gx (k j:κ) (y:V):∀ kvs:List (κ × V),Dh kvs k=none->Dh (kvs++[(k,y)]) j=if j=k then some y else Dh kvs j
 | [],_=>by
  by_cases e:k=j
  ·rw [if_pos e.symm]; exact DQ (p:=(k,y)) e
  ·rw [if_neg (fun z=>e z.symm)]; exact DG (p:=(k,y)) e
 | p::r,hn=>by
  rw [List.cons_append]
  have hk:¬ p.1=k:=fun z=>by rw [DQ z] at hn; cases hn
  rw [DG hk] at hn
  have ih:=Gx k j y r hn
  by_cases e:p.1=j
  ·rw [DQ e,DQ e,if_neg (fun z=>hk (e.trans z))]
  ·rw [DG e,DG e,ih]
theorem Rb (kvs:List (κ × V)) (k j:κ) (y:V):Dh (putK kvs k y) j=if j=k then some y else Dh kvs j:=by
 unfold putK
 by_cases a:(kvs.any fun kv=>decide (kv.1=k))=true
 ·rw [if_pos a,MT]
  rw [Fe] at a
  by_cases e:j=k
  ·obtain ⟨x,hx⟩:=Option.isSome_iff_exists.mp a
   rw [if_pos e,e,hx,Option.map_some,if_pos rfl]
  ·rw [if_neg e]
   cases Dh kvs j with
   | none=>rfl
   | some x=>rw [Option.map_some,if_neg e]
 ·rw [if_neg a]
  refine Gx k j y kvs ?_
  rw [Fe] at a
  cases q:Dh kvs k with
  | none=>rfl
  | some x=>rw [q] at a; exact (a rfl).elim
theorem Eu (kvs:List (κ × V)) (k:κ) (v:V):(putK kvs k v).length<=kvs.length+1:=by
 unfold putK
 split
 ·rw [List.length_map]; omega
 ·rw [List.length_append,List.length_cons,List.length_nil]; omega
theorem R1 {kvs:List (κ × V)} {k:κ} (v:V) (h:Dh kvs k=none):putK kvs k v=kvs++[(k,v)]:=by
 unfold putK
 rw [Fe,h]
 exact if_neg (by decide)
theorem GK.Il {o:Option V} {u:Option Value} (r:GK o u):o.isSome=u.isSome:=by
 cases o with
 | none=>cases u with
  | none=>rfl
  | some _=>exact (show False from r).elim
 | some _=>cases u with
  | none=>exact (show False from r).elim
  | some _=>rfl
theorem KV.val {kvs:List (κ × V)} {vs:List (κ × Value)} (r:KV kvs vs) (k:κ):GK (Dh kvs k) (valueAt vs k):=by
 unfold KV at r
 induction r with
 | nil=>exact True.intro
 | @cons p q ps qs h t ih =>
  obtain ⟨h1,h2⟩:=h
  by_cases e:p.1=k
  ·have e':q.1=k:=h1.symm.trans e
   have b:valueAt (q::qs) k=some q.2:=by simp [valueAt,List.find?_cons,e']
   rw [DQ e,b]; exact h2
  ·have e':¬ q.1=k:=fun z=>e (h1.trans z)
   have b:valueAt (q::qs) k=valueAt qs k:=by simp [valueAt,List.find?_cons,e']
   rw [DG e,b]; exact ih
theorem KV.any {kvs:List (κ × V)} {vs:List (κ × Value)} (r:KV kvs vs) (k:κ):(kvs.any fun kv=>decide (kv.1=k))=vs.any fun kv=>decide (kv.1=k):=by
 unfold KV at r
 induction r with
 | nil=>rfl
 | cons h t ih=>rw [List.any_cons,List.any_cons,ih,h.1]
theorem KV.repl {kvs:List (κ × V)} {vs:List (κ × Value)} (r:KV kvs vs) (k:κ) {y:V} {u:Value} (ry:RelV y u) :
  KV (kvs.map fun kv=>if kv.1=k then (kv.1,y) else kv) (vs.map fun kv=>if kv.1=k then (kv.1,u) else kv):=by
 unfold KV at r ⊢
 induction r with
 | nil=>exact .nil
 | @cons p q ps qs h t ih =>
  rw [List.map_cons,List.map_cons]
  refine .cons ?_ ih
  obtain ⟨h1,h2⟩:=h
  by_cases e:p.1=k
  ·rw [if_pos e,if_pos (h1.symm.trans e)]; exact ⟨h1,ry⟩
  ·rw [if_neg e,if_neg (fun z=>e (h1.trans z))]; exact ⟨h1,h2⟩
theorem KV.put {kvs:List (κ × V)} {vs:List (κ × Value)} (r:KV kvs vs) (k:κ) {y:V} {u:Value} (ry:RelV y u):KV (putK kvs k y) (stored vs k u):=by
 unfold putK stored
 rw [r.any k]
 by_cases e:(vs.any fun kv=>decide (kv.1=k))=true
 ·rw [if_pos e,if_pos e]; exact r.repl k ry
 ·rw [if_neg e,if_neg e]; exact Paired.snoc r ⟨rfl,ry⟩
theorem KV.length {kvs:List (κ × V)} {vs:List (κ × Value)} (r:KV kvs vs):kvs.length=vs.length:=Paired.length r
end
theorem M6 {P:Program} {w:World} {k:Key} {u:Value} (r:RelV (kV k) u):(CW P w).is k u=true:=by
 cases k with
 | inl i=>obtain ⟨t,e⟩:=(show ∃ t,u=Value.int i t from r); subst e; exact Mf P w i t
 | inr x=>obtain ⟨t,e⟩:=(show ∃ t,u=Value.str x t from r); subst e; exact MN P w x t
theorem KQ {P:Program} {w:World}:∀ {ks:List Key} {us:List Value},Vals (ks.map kV) us->ItemsAre (CW P w) ks us
 | [],_,r=>by rw [List.map_nil] at r; cases r; exact .nil
 | k::ks,_,r=>by
  rw [List.map_cons] at r
  cases r with
  | cons h t=>exact .cons (M6 h) (KQ t)
noncomputable abbrev KT (H:Hp):List (List Key × V)->List (List Key × Addr × Value)->Prop:=Paired fun p q=>p.1=q.1/\H q.2.1=some (.tup (p.1.map kV))/\RelV p.2 q.2.2
theorem KT.val {H:Hp} {kvs:List (List Key × V)} {xs:List (List Key × Addr × Value)} (r:KT H kvs xs) (k:List Key):GK (Dh kvs k) ((atKey xs k).map (·.2)):=by
 induction r with
 | nil=>exact True.intro
 | @cons p q ps qs h t ih =>
  obtain ⟨h1,_,h2⟩:=h
  by_cases e:p.1=k
  ·have e':q.1=k:=h1.symm.trans e
   have b:atKey (q::qs) k=some q.2:=by simp [atKey,List.find?_cons,e']
   rw [DQ e,b]; exact h2
  ·have e':¬ q.1=k:=fun z=>e (h1.trans z)
   have b:atKey (q::qs) k=atKey qs k:=by simp [atKey,List.find?_cons,e']
   rw [DG e,b]; exact ih
theorem KT.repl {H:Hp} {kvs:List (List Key × V)} {xs:List (List Key × Addr × Value)} (r:KT H kvs xs) (k:List Key) {y:V} {u:Value} (ry:RelV y u) :
  KT H (kvs.map fun kv=>if kv.1=k then (kv.1,y) else kv) (xs.map (putAt k u)):=by
 induction r with
 | nil=>exact .nil
 | @cons p q ps qs h t ih =>
  rw [List.map_cons,List.map_cons]
  refine .cons ?_ ih
  obtain ⟨h1,h2,h3⟩:=h
  unfold putAt
  by_cases e:p.1=k
  ·rw [if_pos e,if_pos (h1.symm.trans e)]; exact ⟨h1,h2,ry⟩
  ·rw [if_neg e,if_neg (fun z=>e (h1.trans z))]; exact ⟨h1,h2,h3⟩
theorem KT.put {H:Hp} {kvs:List (List Key × V)} {xs:List (List Key × Addr × Value)} (r:KT H kvs xs) (k:List Key) {b:Addr} {y:V} {u:Value} (hb:H b=some (.tup (k.map kV))) (ry:RelV y u) :
  KT H (putK kvs k y) (storedH xs k b u):=by
 have e:(kvs.any fun kv=>decide (kv.1=k))=(atKey xs k).isSome:=by
  rw [Fe,(r.val k).Il,Option.isSome_map]
 unfold putK storedH
 rw [e]
 by_cases q:(atKey xs k).isSome=true
 ·rw [if_pos q,if_pos q]; exact r.repl k ry
 ·rw [if_neg q,if_neg q]; exact Paired.snoc r ⟨rfl,hb,ry⟩
theorem KT.keeps {H H':Hp} {kvs:List (List Key × V)} {xs:List (List Key × Addr × Value)} (r:KT H kvs xs) (ht:∀ b ys,H b=some (.tup ys)->H' b=some (.tup ys)):KT H' kvs xs :=
 Paired.Ek r fun _ _ z=>⟨z.1,ht _ _ z.2.1,z.2.2⟩
section
variable {P:Program} {w:World} {H:Hp} {h:Heap} {a:Addr}
theorem V4 {u:HO} (ok:Ha P w H h) (e:Rd H a u):CJ P w H h a u:=e.ok ok
theorem Pj {kvs:List (Key × V)} (ok:Ha P w H h) (e:Rd H a (.dK kvs)):kvs.length<=sizeLine/\(a == sysModules)=false/\∃ vs,KV kvs vs/\h.DictOf (CW P w) a vs :=
 show CJ P w H h a (.dK kvs) from V4 ok e
theorem WN {kvs:List (Key × V)} (ok:Ha P w H h) (e:H a=some (.dK kvs)):kvs.length<=sizeLine/\(a == sysModules)=false/\∃ vs,KV kvs vs/\h.DictOf (CW P w) a vs:=Pj ok (.inl e)
theorem K_ {ks:List Key} (ok:Ha P w H h) (e:H a=some (.tup (ks.map kV))):(tupleKind (CW P w)).is h ks a:=by
 obtain ⟨_,its,r,o,h1,h2,n,h3⟩:=(show CJ P w H h a (.tup (ks.map kV)) from ok a _ e)
 exact ⟨o,its.toArray,n,h1,h2,h3,by simpa using KQ r⟩
theorem Pg {kvs:List (List Key × V)} (ok:Ha P w H h) (e:Rd H a (.dT kvs)):kvs.length<=sizeLine/\(a == sysModules)=false /\
  ∃ xs,KT H kvs xs/\h.DictOfH (tupleKind (CW P w)) a xs:=by
 obtain ⟨z,y,xs,r,o,es,ep,h1,h2,h3,h4,h5⟩:=(show CJ P w H h a (.dT kvs) from V4 ok e)
 refine ⟨z,y,xs,r,o,es,ep,h1,h2,h3,h4,fun x hx=>?_,h5⟩
 have all:∀ {l:List (List Key × V)} {m:List (List Key × Addr × Value)},KT H l m->∀ x∈m,(tupleKind (CW P w)).is h x.1 x.2.1:=by
  intro l m q
  induction q with
  | nil=>intro x hx; exact nomatch hx
  | @cons p q ps qs hq t ih =>
   intro x hx
   rcases List.mem_cons.mp hx with e | hx
   ·subst e
    exact K_ ok (by rw [← hq.1]; exact hq.2.1)
   ·exact ih x hx
 exact all r x hx
theorem aY {kvs:List (List Key × V)} (ok:Ha P w H h) (e:H a=some (.dT kvs)):kvs.length<=sizeLine/\(a == sysModules)=false /\
  ∃ xs,KT H kvs xs/\h.DictOfH (tupleKind (CW P w)) a xs:=Pg ok (.inl e)
end
noncomputable def HY (H:Hp) (a:Addr) (y:V) (r:Option V):Prop :=
 (∃ kvs k,Rd H a (.dK kvs)/\y=kV k/\r=Dh kvs k) \/ ∃ kvs k b,Rd H a (.dT kvs)/\y=.ref b/\H b=some (.tup (k.map kV))/\r=Dh kvs k
noncomputable def QJ (H:Hp) (a:Addr) (y v:V) (H':Hp):Prop :=
 (∃ kvs k,H a=some (.dK kvs)/\y=kV k/\kvs.length<sizeLine/\H'=upd H a (.dK (putK kvs k v))) \/
 ∃ kvs k b,H a=some (.dT kvs)/\y=.ref b/\H b=some (.tup (k.map kV))/\kvs.length<sizeLine/\H'=upd H a (.dT (putK kvs k v))
theorem HY.k {H:Hp} {a:Addr} {kvs:List (Key × V)} {k:Key} (e:H a=some (.dK kvs)):HY H a (kV k) (Dh kvs k):=.inl ⟨kvs,k,.inl e,rfl,rfl⟩
theorem QJ.k {H:Hp} {a:Addr} {kvs:List (Key × V)} {k:Key} {v:V} (e:H a=some (.dK kvs)) (hl:kvs.length<sizeLine):QJ H a (kV k) v (upd H a (.dK (putK kvs k v))):=.inl ⟨kvs,k,e,rfl,hl,rfl⟩
section
variable {X:Cx} {pins:List (Addr × Obj)} {σ:St} {H:Hp} {s:Shared} {a:Addr} {y v:V} {u r:Value} {o:Option V} {A:Around} {E:Value->Shared->Prop}
theorem Inv.big (I:Inv X pins σ H s):sysModules<s.heap.objs.size:=by
 have h:mainGlobals<s.heap.objs.size:=(I.mod.glob.keeps I.bk).lt
 exact Nat.lt_trans (by decide) h
theorem Qw {Q:Value->Shared->Prop} (hu:A.units+1<cLine) (I:Inv X pins σ H s) (g:HY H a y (some v)) (ry:RelV y u) (h:∀ w' s',Inv X pins σ H s'->RelV v w'->Q w' s') :
  wpAny (model X.prog X.w) A (getItem (.ref a) u) Q E s:=by
 rcases g with ⟨kvs,k,e,ey,l⟩ | ⟨kvs,k,b,e,ey,eb,l⟩
 ·subst ey
  obtain ⟨z,hd,vs,rel,dd⟩:=Pj I.hok e
  obtain ⟨w',hw,rw'⟩:=GK.some_of (v:=v) (o:=valueAt vs k) (by rw [l]; exact rel.val k)
  exact wpAny_getItem_of (M6 ry) dd.mapOf hw (h w' _ (I.tok _) rw')
 ·subst ey
  cases (show u=Value.ref b from ry)
  obtain ⟨z,hd,xs,rel,dd⟩:=Pg I.hok e
  obtain ⟨w',hw,rw'⟩:=GK.some_of (v:=v) (o:=(atKey xs k).map (·.2)) (by rw [l]; exact rel.val k)
  obtain ⟨p,hp,hp2⟩:=Option.map_eq_some_iff.mp hw
  refine wpAny_getItem_heap (tupleKind_room_in1 hu) (K_ I.hok eb) dd hp ?_
  rw [hp2]
  exact h w' _ (I.tok _) rw'
theorem Ul {Q:Value->Shared->Prop} (hu:A.units+1<cLine) (I:Inv X pins σ H s) (g:HY H a y o) (ry:RelV y u) (h:∀ s',Inv X pins σ H s'->Q (.bool (!o.isSome)) s') :
  wpAny (model X.prog X.w) A (compareOp .NotIn u (.ref a)) Q E s:=by
 rcases g with ⟨kvs,k,e,ey,l⟩ | ⟨kvs,k,b,e,ey,eb,l⟩
 ·subst ey
  obtain ⟨z,hd,vs,rel,dd⟩:=Pj I.hok e
  refine wpAny_notIn_of (M6 ry) hd dd.mapOf ?_
  rw [← (rel.val k).Il,← l]
  exact h _ (I.tok _)
 ·subst ey
  cases (show u=Value.ref b from ry)
  obtain ⟨z,hd,xs,rel,dd⟩:=Pg I.hok e
  refine wpAny_notIn_heap (tupleKind_room_in1 hu) (K_ I.hok eb) hd dd ?_
  have q:=(rel.val k).Il
  rw [Option.isSome_map] at q
  rw [← q,← l]
  exact h _ (I.tok _)
theorem K8 {h':Heap} {t':Nat} {ob:HO} (I:Inv X pins σ H s) (mu:Zx (H a)) (hs:Heap.SameBut a s.heap h') (he:∃ q,h'.get? a=some q) (new:CJ X.prog X.w (upd H a ob) h' a ob) :
  Inv X pins σ (upd H a ob) { s with heap:=h',toks:=t' } :=
 I.write (x:=a) (e:=a) mu (.inl rfl) (fun b q hb z=>(hs.2 b hb).trans z) he new
theorem Tw {P:Program} {w:World} {H':Hp} {h':Heap} {kvs:List (Key × V)} {vs:List (Key × Value)} (z:kvs.length<=sizeLine) (hd:(a == sysModules)=false) (rel:KV kvs vs) (dd:h'.DictOf (CW P w) a vs) :
  CJ P w H' h' a (.dK kvs):=⟨z,hd,vs,rel,dd⟩
theorem QG {H':Hp} {Q:Unit->Shared->Prop} (hu:A.units+1<cLine) (I:Inv X pins σ H s) (g:QJ H a y v H') (ry:RelV y u) (rv:RelV v r) (h:∀ s',Inv X pins σ H' s'->Q () s') :
  wpAny (model X.prog X.w) A (setItem (.ref a) u r) Q E s:=by
 rcases g with ⟨kvs,k,e,ey,l,eH⟩ | ⟨kvs,k,b,e,ey,eb,l,eH⟩
 ·subst ey eH
  obtain ⟨z,hd,vs,rel,dd⟩:=WN I.hok e
  have hz:vs.length<=sizeLine:=by rw [← rel.length]; exact z
  have hl:(putK kvs k v).length<=sizeLine:=by have:=Eu kvs k v; omega
  refine wpAny_setItem_pairs (hsz:=hz) (M6 ry) dd fun h' dd' hs=>h _ ?_
  have he:∃ q,h'.get? a=some q:=let ⟨q,_,_,hq,_⟩:=dd'; ⟨q,hq⟩
  exact K8 I (by rw [e]; exact True.intro) hs he (Tw hl hd (rel.put k rv) dd')
 ·subst ey eH
  cases (show u=Value.ref b from ry)
  obtain ⟨z,hd,xs,rel,dd⟩:=aY I.hok e
  have hz:xs.length<=sizeLine:=by rw [← Paired.length rel]; exact z
  have hl:(putK kvs k v).length<=sizeLine:=by have:=Eu kvs k v; omega
  refine wpAny_setItem_heap (hsz:=hz) (tupleKind_room_in1 hu) (K_ I.hok eb) dd fun h' dd' hs=>h _ ?_
  obtain ⟨q,es,ep,hq,h2,h3,h4,_,h5⟩:=dd'
  refine K8 I (by rw [e]; exact True.intro) hs ⟨q,hq⟩ ⟨hl,hd,_,(rel.put k eb rv).keeps fun c ys ec=>?_,q,es,ep,hq,h2,h3,h4,h5⟩
  rw [BP (WK ec e (fun z=>nomatch z))]
  exact ec
end
section
variable {X:Cx} {pins:List (Addr × Obj)} {σ:St} {H:Hp} {s:Shared} {a:Addr} {kvs:List (Key × V)} {k:Key} {u:Value} {A:Around} {E:Value->Shared->Prop}
end
noncomputable def W2 (i:Expr):Prop:=∀ ov iv,subscripted i false ov iv=operate [ov,iv] (getItem ov iv)
theorem Pu {prog:Program} {w:World} {A:Around} {E:Value->Shared->Prop} {s:Shared} {env:Env} {value slice:Expr} {pos:Pos} {T id:String} {Q:Value->Shared->Prop}
  (hl:typeLookup (.type T) "__getitem__" = pure (some (.builtin id))) (hs:W2 slice)
  (h:wpAny (model prog w) A (eval value env) (fun o s₁=>wpAny (model prog w) A (eval slice env) (fun i s₂=>s₂.TypeIs o T/\wpAny (model prog w) A (getItem o i) Q E s₂) E s₁) E s) :
  wpAny (model prog w) A (eval (.Subscript value slice pos) env) Q E s:=by
 refine Subscript_ (wpAny_mono h (fun o s₁ h₁=>wpAny_mono h₁ (fun i s₂ h₂=>?_) fun _ _ x=>x) fun _ _ x=>x)
 obtain ⟨hT,h₂⟩:=h₂
 unfold subscriptTail
 refine wpAny_bind ?_
 rw [getitemInPython_of_ne hT.not_modules]
 refine wpAny_bind (wpAny_specialOf hT hl ?_)
 have fin:wpAny (model prog w) A (subscripted slice false o i) (fun r s₃=>wpAny (model prog w) A (letTemporaryGo value o r >>= fun _=>pure r) Q E s₃) E s₂:=by
  rw [hs o i]
  exact wpAny_operating (wpAny_mono h₂ (fun r s₃ h₃=>wpAny_bind (wpAny_letTemporaryGo (wpAny_pure h₃))) fun _ _ x=>x)
 first
  | exact wpAny_pure (wpAny_bind fin)
  | exact wpAny_bind (wpAny_pure (wpAny_bind fin))
  | exact wpAny_bind fin
theorem MJ {X:Cx} {pins:List (Addr × Obj)} {σ:St} {H:Hp} {s:Shared} {a:Addr} {y:V} {o:Option V} (I:Inv X pins σ H s) (g:HY H a y o):s.TypeIs (.ref a) "dict":=by
 rcases g with ⟨kvs,k,e,_,_⟩ | ⟨kvs,k,b,e,_,_,_⟩
 ·obtain ⟨_,_,vs,_,dd⟩:=Pj I.hok e
  exact dd.typeIs
 ·obtain ⟨_,_,xs,_,dd⟩:=Pg I.hok e
  exact dd.typeIs
noncomputable def cC (td ty:TE):TE:=fun σ H Q=>td σ H fun x H1=>ty σ H1 fun y H2=>∃ a v,x=.ref a/\HY H2 a y (some v)/\Q v H2
noncomputable def VH (ty td:TE):TE:=fun σ H Q=>ty σ H fun y H1=>td σ H1 fun x H2=>∃ a o,x=.ref a/\HY H2 a y o/\Q (.bl (!o.isSome)) H2
noncomputable def dY (td ty tv:TE):TS:=fun D σ H=>tv σ H fun v H1=>td σ H1 fun x H2=>ty σ H2 fun y H3=>∃ a H4,x=.ref a/\QJ H3 a y v H4/\D.nx σ H4
section
variable {X:Cx} {o i e value:Expr} {pos pos' tpos:Pos} {td ty tv:TE}
theorem Gn (hu:X.A.units+1<cLine) (ho:PE X o td) (hi:PE X i ty) (hs:W2 i):PE X (.Subscript o i pos) (cC td ty):=by
 intro pins s σ H Q I h
 refine Pu PySem.F.slot_dict_getitem.lookup hs (By (ho pins s σ H _ I h) fun u s1 ⟨x,H1,I1,rx,q1⟩=>By (hi pins s1 σ H1 _ I1 q1) fun iv s2 hq0=>?_)
 obtain ⟨y,H2,I2,ry,a,v,ex,g,q2⟩:=hq0
 subst ex
 obtain rfl:u=Value.ref a:=rx
 exact ⟨MJ I2 g,Qw hu I2 g ry fun w' s3 I3 rw'=>⟨v,H2,I3,rw',q2⟩⟩
theorem Qa (hu:X.A.units+1<cLine) (hi:PE X i ty) (ho:PE X o td):PC X .NotIn i o (VH ty td):=by
 intro pins s σ H Q I h
 refine By (hi pins s σ H _ I h) fun iv s1 ⟨y,H1,I1,ry,q1⟩=>By (ho pins s1 σ H1 _ I1 q1) fun u s2 hq0=>?_
 obtain ⟨x,H2,I2,rx,a,ov,ex,g,q2⟩:=hq0
 subst ex
 obtain rfl:u=Value.ref a:=rx
 exact Ul hu I2 g ry fun s3 I3=>⟨.bl (!ov.isSome),H2,I3,rfl,q2⟩
theorem O8 (hu:X.A.units+1<cLine) (ho:PE X o td) (hi:PE X i ty) (hv:PE X value tv) (hs:swapsWith value (some (.Subscript o i pos')) pos.line X.env=pure false) :
  PS X (.Assign [.Subscript o i pos'] value pos) (dY td ty tv):=by
 intro pins s σ H D I h
 refine wpAny_Assign_Subscript (By (hv pins s σ H _ I h) fun r s1 ⟨v,H1,I1,rv,q1⟩=>By (ho pins s1 σ H1 _ I1 q1) fun u s2 ⟨x,H2,I2,rx,q2⟩=>By (hi pins s2 σ H2 _ I2 q2) fun iv s3 ⟨y,H3,I3,ry,a,H4,ex,g,q3⟩=>?_) hs
 subst ex
 obtain rfl:u=Value.ref a:=rx
 exact QG hu I3 g ry rv fun s4 I4=>⟨σ,H4,I4,q3⟩
end
theorem Mw {P:Program} {w:World} {H:Hp} (h:Heap) (hb:sysModules<h.objs.size):CJ P w H (h.push { cls:=.type "dict",data:=.dict #[] }) h.objs.size (.dK []) :=
 ⟨Nat.zero_le _,beq_eq_false_iff_ne.mpr (Ne.symm (Nat.ne_of_lt hb)),[],.nil,Heap.DictOf.new h⟩
noncomputable def Xv:TE:=fun _ H Q=>∀ p,H p=none->Q (.ref p) (upd H p (.dK []))
section
variable {X:Cx} {pos:Pos}
theorem Mj:PE X (.Dict [] [] pos) Xv:=fun pins s σ H Q I h =>
 wpAny_Dict_empty ⟨.ref s.heap.objs.size,_,I.laid (a:=s.heap.objs.size) (o:=.dK []) (t':=s.toks) (fun _ _ q=>Heap.get?_push_of_some _ q) (Nat.le_refl _) (Mw s.heap I.big),rfl,h _ (I.hok.fresh (Nat.le_refl _))⟩
end
noncomputable def Nj:List (TE × TE)->St->Hp->(List (V × V)->Hp->Prop)->Prop
 | [],_,H,Q=>Q [] H
 | (tk,tv)::r,σ,H,Q=>tk σ H fun x H1=>tv σ H1 fun y H2=>Nj r σ H2 fun ps H3=>Q ((x,y)::ps) H3
noncomputable abbrev VV:List (V × V)->List (Value × Value)->Prop:=Paired fun p q=>RelV p.1 q.1/\RelV p.2 q.2
noncomputable def gD (X:Cx) (pos:Pos) (keys:List (Option Expr)) (values:List Expr) (trs:List (TE × TE)):Prop :=
 ∀ (pins:List (Addr × Obj)) (s:Shared) (σ:St) (H:Hp) (Q:List (V × V)->Hp->Prop),Inv X pins σ H s->Nj trs σ H Q ->
  wpAny (model X.prog X.w) X.A (evalPairs (pairTrees keys values X.env pos)) (fun vs s'=>∃ ps H',Inv X pins σ H' s'/\VV ps vs/\Q ps H') X.xe s
theorem VN {X:Cx} {pos:Pos}:gD X pos [] [] []:=fun pins s σ H Q I h=>pairTrees_nil_walk ⟨[],H,I,.nil,h⟩
theorem JT {X:Cx} {pos:Pos} {k v:Expr} {ks:List (Option Expr)} {vs:List Expr} {tk tv:TE} {trs:List (TE × TE)} (hk:PE X k tk) (hv:PE X v tv) (hr:gD X pos ks vs trs) :
  gD X pos (some k::ks) (v::vs) ((tk,tv)::trs):=fun pins s σ H Q I h =>
 pairTrees_cons_walk (By (hk pins s σ H _ I h) fun u s1 ⟨x,H1,I1,rx,q1⟩=>By (hv pins s1 σ H1 _ I1 q1) fun w2 s2 ⟨y,H2,I2,ry,q2⟩ =>
  By (hr pins s2 σ H2 _ I2 q2) fun ws s3 ⟨ps,H3,I3,rel,q3⟩=>⟨(x,y)::ps,H3,I3,.cons ⟨rx,ry⟩ rel,q3⟩)
noncomputable def E_ (kvs more:List (Key × V)):List (Key × V):=more.foldl (fun acc kv=>putK acc kv.1 kv.2) kvs
theorem KV.merge:∀ {more:List (Key × V)} {rs:List (Key × Value)} {kvs:List (Key × V)} {vs:List (Key × Value)},KV more rs->KV kvs vs->KV (E_ kvs more) (merged vs rs):=by
 intro more rs kvs vs r
 unfold KV at r
 induction r generalizing kvs vs with
 | nil=>intro q; exact q
 | @cons p q ps qs h t ih =>
  intro r0
  have e:KV (putK kvs p.1 p.2) (stored vs q.1 q.2):=by
   have:=r0.put p.1 h.2
   rw [← h.1]; exact this
  exact ih e
theorem G9:∀ (more kvs:List (Key × V)),(E_ kvs more).length<=kvs.length+more.length
 | [],kvs=>by show kvs.length<=kvs.length+0; omega
 | p::r,kvs=>by
  have h1:=G9 r (putK kvs p.1 p.2)
  have h2:=Eu kvs p.1 p.2
  show (E_ (putK kvs p.1 p.2) r).length<=_
  rw [List.length_cons]; omega
theorem Jb {P:Program} {w:World}:∀ {kvs:List (Key × V)} {ws:List (Value × Value)},VV (kvs.map fun kv=>(kV kv.1,kv.2)) ws->∃ rs,Carries (CW P w) ws rs/\KV kvs rs
 | [],_,r=>by rw [List.map_nil] at r; cases r; exact ⟨[],True.intro,.nil⟩
 | p::kvs,_,r=>by
  rw [List.map_cons] at r
  cases r with
  | @cons a b as bs h t =>
   obtain ⟨rs,c,q⟩:=Jb (P:=P) (w:=w) t
   obtain ⟨b1,b2⟩:=b
   exact ⟨(p.1,b2)::rs,⟨M6 h.1,rfl,c⟩,.cons ⟨rfl,h.2⟩ q⟩
noncomputable def fO (trs:List (TE × TE)):TE:=fun σ H Q=>∀ p,H p=none->Nj trs σ (upd H p (.dK [])) fun ps H2=>H2 p=some (.dK [])/\∃ kvs:List (Key × V),ps=kvs.map (fun kv=>(kV kv.1,kv.2))/\kvs.length<=15/\Q (.ref p) (upd H2 p (.dK (E_ [] kvs)))
theorem U_ {X:Cx} {pos:Pos} {keys:List (Option Expr)} {values:List Expr} {trs:List (TE × TE)} (h:gD X pos keys values trs) (hall:keys.all (·.isSome)=true) (hl:keys.length=values.length) (h0:keys ≠ [])
  (h15:keys.length<=15):PE X (.Dict keys values pos) (fO trs):=by
 intro pins s σ H Q I q
 have hn:=I.hok.fresh (Nat.le_refl s.heap.objs.size)
 have I1:=I.laid (a:=s.heap.objs.size) (o:=.dK []) (h':=s.heap.push { cls:=.type "dict",data:=.dict #[] }) (t':=s.toks) (fun _ _ q=>Heap.get?_push_of_some _ q) (Nat.le_refl _) (Mw s.heap I.big)
 refine wpAny_Dict_walk (knd:=CW X.prog X.w) hall hl h0 h15 (By (h pins _ σ _ _ I1 (q _ hn)) fun ws s2 hq0=>?_)
 obtain ⟨ps,H2,I2,rel,e,kvs,ep,lk,q2⟩:=hq0
 subst ep
 obtain ⟨rs,c,rk⟩:=Jb (P:=X.prog) (w:=X.w) rel
 obtain ⟨z,hd,vs0,r0,dd⟩:=WN I2.hok e
 cases r0
 refine ⟨rs,c,dd,fun h' dd' hs=>⟨.ref s.heap.objs.size,_,?_,rfl,q2⟩⟩
 have hz:(E_ [] kvs).length<=sizeLine:=by
  have h1:=G9 kvs []
  rw [List.length_nil] at h1
  rw [sizeLine_eq]; omega
 have he:∃ q,h'.get? s.heap.objs.size=some q:=let ⟨q,_,_,hq,_⟩:=dd'; ⟨q,hq⟩
 exact K8 I2 (by rw [e]; exact True.intro) hs he (Tw hz hd (rk.merge .nil) dd')
section
variable {X:Cx} {pins:List (Addr × Obj)} {σ:St} {H:Hp} {s:Shared} {a:Addr} {y d:V} {u r:Value} {o:Option V} {A:Around} {E:Value->Shared->Prop}
end
section
variable {X:Cx} {o e f:Expr} {apos cpos:Pos} {td ty tx:TE}
end
section
variable {X:Cx} {pins:List (Addr × Obj)} {σ:St} {H:Hp} {s:Shared} {a:Addr} {kvs:List (Key × V)} {A:Around} {E:Value->Shared->Prop}
end
section
variable {X:Cx} {pins:List (Addr × Obj)} {σ:St} {H:Hp} {s:Shared} {a:Addr} {y:V} {u:Value} {A:Around} {E:Value->Shared->Prop}
end
end L2
namespace HT
open PySem PyProof.Rows
section
open PySem.SeqAt
open PySem.AutoSeq1 (wpAny_loadPart')
open PySem.MeetsSeq PySem.MeetsSeq2 PySem.MeetsSeq3
end
section
variable {prog:Program} {w:World} {A:Around} {E:Value->Shared->Prop} {s:Shared}
noncomputable def Dr (n d:Nat):Option Int->Nat
 | none=>d
 | some v=>if v<0 then (v+(n:Int)).toNat else min v.toNat n
theorem UL (n d:Nat):Dr n d none=d:=rfl
theorem Lr (n d k:Nat):Dr n d (some (k:Int))=min k n:=by
 show (if (k:Int)<0 then ((k:Int)+(n:Int)).toNat else min (k:Int).toNat n)=min k n
 rw [if_neg (by omega),Int.toNat_natCast]
theorem YT (n d:Nat) (hd:d<=n) (o:Option Int):Dr n d o<=n:=by
 cases o with
 | none=>exact hd
 | some v =>
  show (if v<0 then (v+(n:Int)).toNat else min v.toNat n)<=n
  by_cases hv:v<0
  ·rw [if_pos hv]; omega
  ·rw [if_neg hv]; exact Nat.min_le_right _ _
theorem Pa (v:Int) (n d:Nat):(if v<0 then max (v+(n:Int)) 0 else min v (n:Int))=((Dr n d (some v):Nat):Int):=by
 show (if v<0 then max (v+(n:Int)) 0 else min v (n:Int))=(((if v<0 then (v+(n:Int)).toNat else min v.toNat n):Nat):Int)
 by_cases hv:v<0
 ·simp only [if_pos hv]; omega
 ·simp only [if_neg hv]; omega
theorem NP (lo hi:Option Int) (n:Nat):Builtin.Slice.sliceAdjust lo hi 1 (n:Int)=(((Dr n 0 lo:Nat):Int),((Dr n n hi:Nat):Int)):=by
 have h1:¬ ((1:Int)<0):=by omega
 unfold Builtin.Slice.sliceAdjust
 simp only [h1,if_false]
 refine Prod.ext ?_ ?_
 ·cases lo with
  | none=>rfl
  | some v=>exact Pa v n 0
 ·cases hi with
  | none=>rfl
  | some v=>exact Pa v n n
theorem Ni (i j:Nat):Builtin.Slice.slicePlaces (i:Int) (j:Int) 1=j - i:=by
 unfold Builtin.Slice.slicePlaces
 have h1:(1:Int) > 0:=by omega
 simp only [h1,if_true,Int.ediv_one]
 split <;> omega
theorem Jc {v:Value} {o:Option Int} {Q:Option Int->Shared->Prop} (p:IsPart v o) (h:Q o s):wpAny (model prog w) A (Builtin.Slice.slicePartIndex v) Q E s:=by
 cases p with
 | none=>exact slicePart_none h
 | int i t=>exact slicePart_int h
theorem Im {sl:Addr} {vl vu:Value} {lo hi:Option Int} {n:Nat} {Q:Int × Int × Nat->Shared->Prop} (hs:s.heap.IsSliceOf sl vl vu .none) (pl:IsPart vl lo) (pu:IsPart vu hi)
  (h:Q (((Dr n 0 lo:Nat):Int),1,Dr n n hi - Dr n 0 lo) s):wpAny (model prog w) A (Builtin.Slice.sliceApplied (.ref sl) (pure (n:Int))) Q E s:=by
 obtain ⟨os,hos,hcs,hds⟩:=id hs
 unfold Builtin.Slice.sliceApplied Builtin.Slice.sliceFields
 refine wpAny_bind (wpAny_bind (wpAny_field hos hds (x:=vl) rfl (wpAny_bind (wpAny_field hos hds (x:=vu) rfl (wpAny_bind (wpAny_field hos hds (x:=.none) rfl (wpAny_pure ?_)))))))
 refine wpAny_bind (slicePart_none ?_)
 show wpAny _ _ (if ((1:Int) == 0)=true then _ else _) _ _ s
 rw [if_neg (by decide)]
 refine wpAny_bind (Jc pl (wpAny_bind (Jc pu (wpAny_bind (wpAny_pure ?_)))))
 show wpAny _ _ (match Builtin.Slice.sliceAdjust lo hi 1 (n:Int) with | (lo,hi)=>pure (lo,(1:Int),Builtin.Slice.slicePlaces lo hi 1)) _ _ s
 rw [NP lo hi n]
 show wpAny _ _ (pure (((Dr n 0 lo:Nat):Int),(1:Int),Builtin.Slice.slicePlaces ((Dr n 0 lo:Nat):Int) ((Dr n n hi:Nat):Int) 1)) _ _ s
 rw [Ni]
 exact wpAny_pure h
theorem Sh (xs:Array Value) (i k:Nat):((List.range k).filterMap fun (m:Nat)=>xs[((i:Int)+(m:Int) * 1).toNat]?).toArray=((xs.toList.drop i).take k).toArray:=by
 have e:(fun (m:Nat)=>xs[((i:Int)+(m:Int) * 1).toNat]?)=fun m=>xs[i+m]?:=by
  funext m
  have:((i:Int)+(m:Int) * 1).toNat=i+m:=by omega
  rw [this]
 rw [e]
 have:=pick_run xs i k
 rw [List.filterMap_map] at this
 have e2:((fun x=>xs[x]?) ∘ fun x=>i+x)=fun m=>xs[i+m]?:=rfl
 rw [e2] at this
 rw [this]
theorem Hw {t sl:Addr} {items:Array Value} {vl vu:Value} {lo hi:Option Int} {Q:Value->Shared->Prop} (ht:IsTup s.heap t items) (hs:s.heap.IsSliceOf sl vl vu .none) (pl:IsPart vl lo) (pu:IsPart vu hi)
  (hw:¬ (Dr items.size 0 lo=0/\Dr items.size items.size hi=items.size))
  (h:Q (.ref s.heap.objs.size) { s with heap:=s.heap.push { cls:=.type "tuple",data:=.seq ((items.toList.drop (Dr items.size 0 lo)).take (Dr items.size items.size hi - Dr items.size 0 lo)).toArray } })
  (hsz:items.size<=sizeLine):wpAny (model prog w) A (getItem (.ref t) (.ref sl)) Q E s:=by
 have htake:sizeOk (.seq ((items.toList.drop (Dr items.size 0 lo)).take (Dr items.size items.size hi - Dr items.size 0 lo)).toArray):=by
  show ((items.toList.drop (Dr items.size 0 lo)).take (Dr items.size items.size hi - Dr items.size 0 lo)).toArray.size<=sizeLine
  rw [List.size_toArray,List.length_take,List.length_drop,Array.length_toList]
  omega
 have hj:Dr items.size items.size hi<=items.size:=YT _ _ (Nat.le_refl _) hi
 obtain ⟨os,hos,hcs,hds⟩:=id hs
 have hTs:s.TypeIs (.ref sl) "slice":=⟨os,hos,hcs⟩
 unfold getItem
 try with_reducible refine wpAny_holding ?_
 first | refine wpAny_bind (wpAny_pure ?_) | skip
 refine wpAny_bind (wpAny_sequenceKey ht.typeIs (by decide) ?_)
 refine wpAny_bind (wpAny_callSpecial?_slot (name:=Str.ofString "__getitem__") ht.typeIs PyProof.Rows.slot_tuple_getitem
  (wpAny_call_entry PyProof.Rows.slot_tuple_getitem ht.typeIs entry_tuple_getitem ?_ (args_tuple_getitem _ _)))
 show wpAny _ _ (Builtin.Tuple.tupleItemsOf (.ref t) >>= _) _ _ s
 refine wpAny_bind (tupleItemsOf_ ht ?_)
 refine wpAny_bind (wpAny_typeOf hTs ?_)
 rw [if_pos (by decide)]
 refine wpAny_bind (Im hs pl pu ?_)
 have hno:¬ ((((Dr items.size 0 lo:Nat):Int) == 0 && (1:Int) == 1 && (Dr items.size items.size hi - Dr items.size 0 lo) == items.size)=true):=by
  intro q
  rw [Bool.and_eq_true,Bool.and_eq_true] at q
  have q1:((Dr items.size 0 lo:Nat):Int)=0:=eq_of_beq q.1.1
  have q2:Dr items.size items.size hi - Dr items.size 0 lo=items.size:=eq_of_beq q.2
  exact hw ⟨by omega,by omega⟩
 show wpAny _ _ (if (((Dr items.size 0 lo:Nat):Int) == 0 && (1:Int) == 1 && (Dr items.size items.size hi - Dr items.size 0 lo) == items.size)=true then _ else _) _ _ s
 rw [if_neg hno,Sh]
 first
  | exact wpAny_bind (m:=Builtin.Tuple.tupleExact _) (wpAny_newObj_type (wpAny_pure ⟨_,rfl,wpAny_pure h⟩) htake)
  | exact wpAny_bind (m:=Builtin.Tuple.tupleExact _) (wpAny_newObj_type (wpAny_bind (wpAny_pure (wpAny_pure ⟨_,rfl,wpAny_pure h⟩))) htake)
  | exact wpAny_bind (wpAny_bind (m:=Builtin.Tuple.tupleExact _) (wpAny_newObj_type (wpAny_pure (wpAny_pure ⟨_,rfl,wpAny_pure h⟩)) htake))
  | exact wpAny_bind (wpAny_bind (m:=Builtin.Tuple.tupleExact _) (wpAny_newObj_type (wpAny_pure ⟨_,rfl,wpAny_pure h⟩) htake))
end
end HT
namespace L2
open PySem PySem.Spec PyProof.Rows
noncomputable abbrev TO:=St->Hp->(Option Int->Hp->Prop)->Prop
noncomputable def PO (X:Cx) (e:Option Expr) (t:TO):Prop :=
 ∀ (pins:List (Addr × Obj)) (s:Shared) (σ:St) (H:Hp) (Q:Option Int->Hp->Prop),Inv X pins σ H s->t σ H Q ->
  wpAny (model X.prog X.w) X.A (evalPart e X.env) (fun u s'=>∃ o H',Inv X pins σ H' s'/\IsPart u o/\Q o H') X.xe s
noncomputable def Ve:TO:=fun _ H Q=>Q none H
noncomputable def au (t:TE):TO:=fun σ H Q=>t σ H fun x H1=>∃ i,x=.int i/\Q (some i) H1
section
variable {X:Cx} {e:Expr} {te:TE} {lo hi:Option Expr} {tl th:TO} {pos p2:Pos}
theorem Es:PO X none Ve:=by
 intro pins s σ H Q I h
 rw [evalPart_none]
 exact wpAny_pure ⟨none,H,I,.none,h⟩
theorem Cw (h:PE X e te):PO X (some e) (au te):=by
 intro pins s σ H Q I hw
 rw [evalPart_some]
 refine By (h pins s σ H _ I hw) fun u s1 hq0=>?_
 obtain ⟨x,H1,I1,r1,q1⟩:=hq0
 obtain ⟨i,rfl,q⟩:=q1
 obtain ⟨t,rfl⟩:=r1
 exact ⟨some i,H1,I1,.int i t,q⟩
noncomputable def gJ (X:Cx) (r:V->Option Int->Option Int->Hp->VK->Prop):Prop :=
 ∀ (pins:List (Addr × Obj)) (s:Shared) (σ:St) (H:Hp) (x:V) (v vl vu:Value) (lo hi:Option Int) (sl:Addr) (Q:VK),Inv X pins σ H s->RelV x v->s.heap.IsSliceOf sl vl vu .none->IsPart vl lo->IsPart vu hi->r x lo hi H Q ->
  ∃ T id,typeLookup (.type T) "__getitem__" = pure (some (.builtin id))/\s.TypeIs v T/\wpAny (model X.prog X.w) X.A (getItem v (.ref sl)) (EP X pins σ Q) X.xe s
noncomputable def jq (r:V->Option Int->Option Int->Hp->VK->Prop) (te:TE) (tl th:TO):TE:=fun σ H Q=>te σ H fun x H1=>tl σ H1 fun l H2=>th σ H2 fun u H3=>r x l u H3 Q
theorem Ea {r:V->Option Int->Option Int->Hp->VK->Prop} (hr:gJ X r) (he:PE X e te) (hl:PO X lo tl) (hu:PO X hi th):PE X (.Subscript e (.Slice lo hi none p2) pos) (jq r te tl th):=by
 intro pins s σ H Q I h
 refine Subscript_ (By (he pins s σ H _ I h) fun v s1 hq0=>?_)
 obtain ⟨x,H1,I1,r1,q1⟩:=hq0
 refine wpAny_Slice (By (hl pins s1 σ H1 _ I1 q1) fun vl s2 ⟨l,H2,I2,pl,q2⟩=>By (hu pins s2 σ H2 _ I2 q2) fun vu s3 hq0=>?_)
 obtain ⟨u,H3,I3,pu,q3⟩:=hq0
 rw [evalPart_none]
 refine wpAny_pure ?_
 have I4:Inv X pins σ H3 { s3 with heap:=s3.heap.push { cls:=.type "slice",data:=.fields #[vl,vu,.none] } }:=I3.kept (t':=s3.toks) fun b ob q=>Heap.get?_push_of_some _ q
 obtain ⟨T,id,hT,ht,hg⟩:=hr pins { s3 with heap:=s3.heap.push { cls:=.type "slice",data:=.fields #[vl,vu,.none] } } σ H3 x v vl vu l u s3.heap.objs.size Q I4 r1 (Heap.IsSliceOf.new ..) pl pu q3
 show wpAny (model X.prog X.w) X.A (subscriptTail e (.Slice lo hi none p2) v (.ref s3.heap.objs.size)) (EP X pins σ Q) X.xe { s3 with heap:=s3.heap.push { cls:=.type "slice",data:=.fields #[vl,vu,.none] } }
 exact tail_any (ops:=[.ref s3.heap.objs.size,v]) ht hT hg (by with_unfolding_all rfl)
noncomputable def Eg (xs:List V) (lo hi:Option Int):List V:=(xs.drop (HT.Dr xs.length 0 lo)).take (HT.Dr xs.length xs.length hi - HT.Dr xs.length 0 lo)
theorem Iu (xs:List V) (lo hi:Option Int):(Eg xs lo hi).length<=xs.length:=by
 unfold Eg
 rw [List.length_take,List.length_drop]
 omega
noncomputable def jX (K:PySem.W.Frag):V->Option Int->Option Int->Hp->VK->Prop:=fun x lo hi H Q=>∃ a xs,x=.ref a/\Hc K H a xs /\
 ¬ (HT.Dr xs.length 0 lo=0/\HT.Dr xs.length xs.length hi=xs.length)/\∀ p,H p=none->Q (.ref p) (upd H p (.tup (Eg xs lo hi)))
theorem Xr:gJ X (jX X.K):=by
 intro pins s σ H x v vl vu lo hi sl Q I rx hs pl pu h
 obtain ⟨a,xs,rfl,hx,hw,q⟩:=h
 cases rx
 obtain ⟨its,r,ht,hz⟩:=I.tuple hx
 have hlen:its.toArray.size=xs.length:=by rw [List.size_toArray]; exact r.length.symm
 refine ⟨"tuple",_,PyProof.Rows.slot_tuple_getitem.lookup,ht.typeIs,?_⟩
 refine HT.Hw ht hs pl pu (by rw [hlen]; exact hw) ?_ (by rw [hlen]; exact hz)
 rw [hlen]
 refine ⟨.ref s.heap.objs.size,_,I.laid (t':=s.toks) (o:=.tup (Eg xs lo hi)) (fun b ob q=>Heap.get?_push_of_some _ q) (Nat.le_refl _) ?_,rfl,q _ (I.hok.fresh (Nat.le_refl _))⟩
 exact ⟨Nat.le_trans (Iu xs lo hi) hz,_,(r.drop (HT.Dr xs.length 0 lo)).take (HT.Dr xs.length xs.length hi - HT.Dr xs.length 0 lo),IsTup.new _ _⟩
end
end L2
namespace L2
open PySem PySem.Spec PyProof.Rows
noncomputable def YW (n:Nat) (i:Int):Option Nat:=if 0<=i then (if i<n then some i.toNat else none) else if -(n:Int)<=i then some (i+n).toNat else none
noncomputable def Nv {α:Type} (xs:List α) (i:Int):Option α:=(YW xs.length i).bind fun j=>xs[j]?
theorem VJ {n:Nat} {i:Int} {j:Nat} (h:YW n i=some j):seqIndex? i n=some j/\j<n /\ -(n:Int)<=i/\i<n:=by
 unfold YW at h
 by_cases h0:0<=i
 ·rw [if_pos h0] at h
  by_cases h1:i<n
  ·rw [if_pos h1] at h
   have e:i.toNat=j:=Option.some.inj h
   exact ⟨by rw [seqIndex_of h0 h1,e],by omega,by omega,h1⟩
  ·rw [if_neg h1] at h; cases h
 ·rw [if_neg h0] at h
  by_cases h1 : -(n:Int)<=i
  ·rw [if_pos h1] at h
   have e:(i+n).toNat=j:=Option.some.inj h
   exact ⟨by rw [seqIndex_neg (by omega) h1,e],by omega,h1,by omega⟩
  ·rw [if_neg h1] at h; cases h
theorem LR {α:Type} {xs:List α} {i:Int} {v:α} (h:Nv xs i=some v):∃ j,seqIndex? i xs.length=some j/\xs[j]? = some v/\j<xs.length /\ -(xs.length:Int)<=i/\i<xs.length:=by
 unfold Nv at h
 cases e:YW xs.length i with
 | none=>rw [e] at h; cases h
 | some j =>
  rw [e] at h
  obtain ⟨h1,h2,h3,h4⟩:=VJ e
  exact ⟨j,h1,h,h2,h3,h4⟩
theorem Ai {α:Type} {xs:List α} {j:Nat} {v:α} (h:xs[j]? = some v):Nv xs (j:Int)=some v:=by
 have hj:j<xs.length:=(List.getElem?_eq_some_iff.mp h).1
 have e:YW xs.length (j:Int)=some j:=by
  unfold YW
  rw [if_pos (by omega),if_pos (by omega)]; simp
 unfold Nv; rw [e]; exact h
noncomputable def Vd (b:Expr):Prop:=∀ o i,subscripted b false o i=operate [o,i] (getItem o i)
noncomputable def Yx (X:Cx) (r:R2):Prop :=
 ∀ (value slice:Expr) (pins:List (Addr × Obj)) (s:Shared) (σ:St) (H:Hp) (x y:V) (v u:Value) (Q:VK),Inv X pins σ H s->RelV x v->RelV y u->r x y H Q ->
  subscripted slice false v u=operate [v,u] (getItem v u)->wpAny (model X.prog X.w) X.A (subscriptTail value slice v u) (EP X pins σ Q) X.xe s
noncomputable def fj (X:Cx) (id:String) (r:V->List V->Hp->VK->Prop):Prop :=
 ∀ (pins:List (Addr × Obj)) (s:Shared) (σ:St) (H:Hp) (x:V) (xs:List V) (v:Value) (us:List Value) (Q:VK),Inv X pins σ H s->RelV x v->Vals xs us->r x xs H Q ->
  wpAny (model X.prog X.w) X.A (call (.builtin id) (v::us)) (EP X pins σ Q) X.xe s
section
variable {X:Cx} {a b:Expr} {ta tb:TE} {pos:Pos}
theorem Ar {r:R2} (hr:Yx X r) (ha:PE X a ta) (hb:PE X b tb) (hs:Vd b):PE X (.Subscript a b pos) (Y8 r ta tb):=by
 intro pins s σ H Q I h
 exact Subscript_ (YS ha hb I h fun v u s2 x y H2 I2 rx ry q=>hr a b pins s2 σ H2 x y v u Q I2 rx ry q (hs _ _))
noncomputable def dG (K:PySem.W.Frag):R2:=fun x y H Q=>∃ p xs i v,x=.ref p/\y=.int i/\CK K H p xs/\Nv xs i=some v/\Q v H
noncomputable def Zw (K:PySem.W.Frag):R2:=fun x y H Q=>∃ p xs i v,x=.ref p/\y=.int i/\Hc K H p xs/\Nv xs i=some v/\Q v H
noncomputable def jE:R2:=fun x y H Q=>∃ z i c,x=.str z/\y=.int i/\z.length<=sizeLine/\Nv z.cps.toList i=some c/\Q (.str ⟨#[c]⟩) H
theorem El:Yx X (dG X.K):=by
 intro value slice pins s σ H x y v u Q I rx ry h hs
 obtain ⟨p,xs,i,z,rfl,rfl,hq,he,q⟩:=h
 cases rx
 obtain ⟨t,rfl⟩:=ry
 obtain ⟨its,r,pl,hz⟩:=I.list hq
 obtain ⟨j,h1,h2,h3,h4,h5⟩:=LR he
 obtain ⟨w,ew,rw'⟩:=r.get h2
 have hl:=r.length
 have hn:=Ih
 have fin:EP X pins σ Q w s:=⟨z,H,I,rw',q⟩
 by_cases h0:0<=i
 ·have hj:i.toNat=j:=by
   rw [seqIndex_of h0 h5] at h1
   exact Option.some.inj h1
  exact item_listR pl.isList h0 (by omega) (by rw [hj]; simpa using ew) fin hs
 ·have hj:(i+(its.toArray.size:Int)).toNat=j:=by
   rw [seqIndex_neg (by omega) h4] at h1
   rw [List.size_toArray,← hl]
   exact Option.some.inj h1
  exact subscriptTail_builtinR (x:=w) pl.isList.typeIs slot_list_getitem.lookup
   (wpAny_getItem_list_neg (Q:=fun r s'=>r=w/\EP X pins σ Q r s') pl.isList (by omega) (by rw [List.size_toArray] <;> omega) (by omega) (by rw [hj]; simpa using ew) ⟨rfl,fin⟩) hs
theorem Xq:Yx X (Zw X.K):=by
 intro value slice pins s σ H x y v u Q I rx ry h hs
 obtain ⟨p,xs,i,z,rfl,rfl,hq,he,q⟩:=h
 cases rx
 obtain ⟨t,rfl⟩:=ry
 obtain ⟨its,r,pl,hz⟩:=I.tuple hq
 obtain ⟨j,h1,h2,h3,h4,h5⟩:=LR he
 obtain ⟨w,ew,rw'⟩:=r.get h2
 have hl:=r.length
 have hn:=Ih
 have fin:EP X pins σ Q w s:=⟨z,H,I,rw',q⟩
 exact subscriptTail_builtinR (x:=w) pl.typeIs slot_tuple_getitem.lookup
  (getItem_tuple (j:=j) (Q:=fun r s'=>r=w/\EP X pins σ Q r s') pl (by omega) (by omega) (by rw [List.size_toArray,← hl]; exact h1) (by simpa using ew) ⟨rfl,fin⟩) hs
theorem Ng:Yx X jE:=by
 intro value slice pins s σ H x y v u Q I rx ry h hs
 obtain ⟨z,i,c,rfl,rfl,hz,he,q⟩:=h
 obtain ⟨t,rfl⟩:=rx
 obtain ⟨t',rfl⟩:=ry
 obtain ⟨j,h1,h2,h3,h4,h5⟩:=LR he
 have hl:z.cps.toList.length=z.length:=by simp [Str.length]
 rw [hl] at h1 h4 h5
 have hn:=Ih
 exact tail_any (typeIs_str s z t) slot_str_getitem.lookup (getItem_str (c:=c) (by
  have e1:decide (i < -(2 ^ 63:Int))=false:=decide_eq_false (by omega)
  have e2:decide (i ≥ 2 ^ 63)=false:=decide_eq_false (by omega)
  rw [e1,e2,Bool.or_false]) (by rw [h1]; simpa using h2) ⟨.str ⟨#[c]⟩,H,I.tok _,⟨_,rfl⟩,q⟩) hs
theorem La (lo hi:Option Int) (n:Nat):(sliceBounds lo hi none n).1=((HT.Dr n 0 lo:Nat):Int)/\(sliceBounds lo hi none n).2.1=((HT.Dr n n hi:Nat):Int)/\(sliceBounds lo hi none n).2.2=1:=by
 refine ⟨?_,?_,rfl⟩
 ·cases lo with
  | none=>simp [sliceBounds,HT.Dr]
  | some i =>
   simp only [sliceBounds,HT.Dr,Option.getD_none,show (1:Int) > 0 by decide,if_true]
   by_cases h:i<0
   ·simp only [h,if_true] <;> omega
   ·simp only [h,if_false] <;> omega
 ·cases hi with
  | none=>simp [sliceBounds,HT.Dr]
  | some i =>
   simp only [sliceBounds,HT.Dr,Option.getD_none,show (1:Int) > 0 by decide,if_true]
   by_cases h:i<0
   ·simp only [h,if_true] <;> omega
   ·simp only [h,if_false] <;> omega
theorem J7 (its:List Value) (lo hi:Option Int):slicePick its.toArray lo hi none=((its.drop (HT.Dr its.length 0 lo)).take (HT.Dr its.length its.length hi - HT.Dr its.length 0 lo)).toArray:=by
 obtain ⟨h1,h2,h3⟩:=La lo hi its.toArray.size
 unfold slicePick
 rw [h1,h2,h3]
 simp only [sliceRange_one,pick_run,List.size_toArray] <;> rfl
noncomputable def gZ (K:PySem.W.Frag):V->Option Int->Option Int->Hp->VK->Prop:=fun x lo hi H Q=>∃ a xs,x=.ref a/\CK K H a xs/\∀ p,H p=none->Q (.ref p) (upd H p (.lst (Eg xs lo hi)))
theorem Hd:gJ X (gZ X.K):=by
 intro pins s σ H x v vl vu lo hi sl Q I rx hs pl pu h
 obtain ⟨a,xs,rfl,hx,q⟩:=h
 cases rx
 obtain ⟨its,r,ht,hz⟩:=I.list hx
 have hlen:=r.length
 refine ⟨"list",_,slot_list_getitem.lookup,ht.isList.typeIs,?_⟩
 refine wpAny_getItem_list_slice ht.isList hs pl pu .none (by simp) ?_ (by rw [List.size_toArray] <;> omega)
 rw [J7,← hlen]
 refine ⟨.ref s.heap.objs.size,_,I.laid (t':=s.toks) (o:=.lst (Eg xs lo hi)) (fun b ob q=>Heap.get?_push_of_some _ q) (Nat.le_refl _) ?_,rfl,q _ (I.hok.fresh (Nat.le_refl _))⟩
 exact ⟨Nat.le_trans (Iu xs lo hi) hz,_,0,(r.drop (HT.Dr xs.length 0 lo)).take (HT.Dr xs.length xs.length hi - HT.Dr xs.length 0 lo),Heap.get?_push_size _ rfl⟩
noncomputable def Ew:V->Bool
 | .non=>true
 | .bl _=>true
 | .int _=>true
 | .str _=>true
 | _=>false
noncomputable def Pn:V->V->Bool
 | .non,.non=>true
 | .bl a,.bl b=>a == b
 | .bl a,.int b=>(if a then 1 else 0) == b
 | .int a,.bl b=>a == (if b then 1 else 0)
 | .int a,.int b=>a == b
 | .str a,.str b=>a == b
 | _,_=>false
theorem RM {A:Around} {s:Shared} {y x:V} {u v:Value} (ry:RelV y u) (rx:RelV x v) (fy:Ew y=true) (fx:Ew x=true):SeqAt.EqAt A s u v (Pn y x):=by
 cases y with
 | non =>
  cases ry
  cases x with
  | non=>cases rx; exact SeqAt.EqAt.same _
  | bl b=>cases rx; exact SeqAt.EqAt.none_bool b
  | int b=>obtain ⟨t,rfl⟩:=rx; exact SeqAt.EqAt.none_int b t
  | str b=>obtain ⟨t,rfl⟩:=rx; exact SeqAt.EqAt.none_str b t
  | _=>exact absurd (show false=true from fx) Bool.false_ne_true
 | bl a =>
  cases ry
  cases x with
  | non=>cases rx; exact SeqAt.EqAt.bool_none a
  | bl b=>cases rx; exact SeqAt.EqAt.bool_bool a b
  | int b=>obtain ⟨t,rfl⟩:=rx; exact SeqAt.EqAt.bool_int a b t
  | str b=>obtain ⟨t,rfl⟩:=rx; exact SeqAt.EqAt.bool_str a b t
  | _=>exact absurd (show false=true from fx) Bool.false_ne_true
 | int a =>
  obtain ⟨t',rfl⟩:=ry
  cases x with
  | non=>cases rx; exact SeqAt.EqAt.int_none a t'
  | bl b=>cases rx; exact SeqAt.EqAt.int_bool a t' b
  | int b=>obtain ⟨t,rfl⟩:=rx; exact SeqAt.EqAt.int_int a t' b t
  | str b=>obtain ⟨t,rfl⟩:=rx; exact SeqAt.EqAt.int_str a t' b t
  | _=>exact absurd (show false=true from fx) Bool.false_ne_true
 | str a =>
  obtain ⟨t',rfl⟩:=ry
  cases x with
  | non=>cases rx; exact SeqAt.EqAt.str_none a t'
  | bl b=>cases rx; exact SeqAt.EqAt.str_bool a t' b
  | int b=>obtain ⟨t,rfl⟩:=rx; exact SeqAt.EqAt.str_int a t' b t
  | str b=>obtain ⟨t,rfl⟩:=rx; exact SeqAt.EqAt.str_str a t' b t
  | _=>exact absurd (show false=true from fx) Bool.false_ne_true
 | _=>exact absurd (show false=true from fy) Bool.false_ne_true
noncomputable def Om (x:V) (u:Value):Bool:=match u with
 | .none=>Pn .non x
 | .bool b=>Pn (.bl b) x
 | .int i _=>Pn (.int i) x
 | .str z _=>Pn (.str z) x
 | _=>false
theorem UG {x y:V} {u:Value} (r:RelV y u) (f:Ew y=true):Om x u=Pn y x:=by
 cases y with
 | non=>cases r; rfl
 | bl b=>cases r; rfl
 | int i=>obtain ⟨t,rfl⟩:=r; rfl
 | str z=>obtain ⟨t,rfl⟩:=r; rfl
 | _=>exact absurd (show false=true from f) Bool.false_ne_true
theorem Hh {x:V}:∀ {xs:List V} {us:List Value},Vals xs us->xs.all Ew=true->us.any (Om x)=xs.any fun y=>Pn y x
 | _,_,.nil,_=>rfl
 | y::xs,u::us,.cons r t,f=>by
  rw [List.all_cons,Bool.and_eq_true] at f
  rw [List.any_cons,List.any_cons,UG r f.1,Hh t f.2]
theorem GX {A:Around} {s:Shared} {x:V} {v:Value} (rx:RelV x v) (fx:Ew x=true):∀ {xs:List V} {us:List Value},Vals xs us->xs.all Ew=true->∀ u∈us,SeqAt.EqAt A s u v (Om x u)
 | _,_,.nil,_=>fun u hu=>by cases hu
 | y::xs,u::us,.cons r t,f=>fun u' hu=>by
  rw [List.all_cons,Bool.and_eq_true] at f
  rcases List.mem_cons.mp hu with rfl | hu
  ·rw [UG r f.1]; exact RM r rx f.1 fx
  ·exact GX rx fx t f.2 u' hu
noncomputable def inV (x:V) (xs:List V):Bool:=xs.any fun y=>Pn y x
noncomputable def fu (K:PySem.W.Frag) (neg:Bool):R2:=fun x y H Q=>∃ p xs,y=.ref p/\(CK K H p xs \/ Hc K H p xs)/\Ew x=true/\xs.all Ew=true/\Q (.bl (if neg then !inV x xs else inV x xs)) H
theorem Qu:GF X (compareOp .In) (fu X.K false):=by
 intro pins s σ H x y v u Q I rx ry h
 obtain ⟨p,xs,rfl,hq,fx,fs,q⟩:=h
 cases ry
 rcases hq with hq | hq
 ·obtain ⟨its,r,pl,hz⟩:=I.list hq
  refine SeqAt.in_listAt (Om x) pl.isList (fun w hw=>GX rx fx r fs w (by simpa using hw)) ⟨.bl _,H,I,rfl,?_⟩
  rw [show its.toArray.any (Om x)=its.any (Om x) by simp,Hh r fs]
  exact q
 ·obtain ⟨its,r,pl,hz⟩:=I.tuple hq
  refine SeqAt.in_tupleAt (Om x) pl (fun w hw=>GX rx fx r fs w (by simpa using hw)) ⟨.bl _,H,I,rfl,?_⟩
  rw [show its.toArray.any (Om x)=its.any (Om x) by simp,Hh r fs]
  exact q
theorem Hs:GF X (compareOp .NotIn) (fu X.K true):=by
 intro pins s σ H x y v u Q I rx ry h
 obtain ⟨p,xs,rfl,hq,fx,fs,q⟩:=h
 cases ry
 rcases hq with hq | hq
 ·obtain ⟨its,r,pl,hz⟩:=I.list hq
  refine SeqAt.notIn_listAt (Om x) pl.isList (fun w hw=>GX rx fx r fs w (by simpa using hw)) ⟨.bl _,H,I,rfl,?_⟩
  rw [show its.toArray.any (Om x)=its.any (Om x) by simp,Hh r fs]
  exact q
 ·obtain ⟨its,r,pl,hz⟩:=I.tuple hq
  refine SeqAt.notIn_tupleAt (Om x) pl (fun w hw=>GX rx fx r fs w (by simpa using hw)) ⟨.bl _,H,I,rfl,?_⟩
  rw [show its.toArray.any (Om x)=its.any (Om x) by simp,Hh r fs]
  exact q
theorem Bg:Ey X (.builtin "len") (fun xs H Q=>∃ p ys,xs=[.ref p]/\(CK X.K H p ys \/ Hc X.K H p ys)/\Q (.int ys.length) H):=by
 intro pins s σ H xs us Q I r h
 obtain ⟨p,ys,rfl,hq,q⟩:=h
 obtain ⟨u,rfl,rx⟩:=vals1 r
 cases rx
 have hn:=Ih
 rcases hq with hq | hq
 ·obtain ⟨its,r',pl,hz⟩:=I.list hq
  have hlen:=r'.length
  exact Calls.call_len_list pl.isList (by simp only [List.size_toArray] <;> omega) ⟨.int ys.length,H,I.tok _,⟨s.toks+1,by rw [List.size_toArray,hlen]⟩,q⟩
 ·obtain ⟨its,r',pl,hz⟩:=I.tuple hq
  have hlen:=r'.length
  exact len_tuple pl (by simp only [List.size_toArray] <;> omega) ⟨.int ys.length,H,I.tok _,⟨s.toks+1,by rw [List.size_toArray,hlen]⟩,q⟩
theorem Lg:Ey X (.builtin "len") (fun xs H Q=>∃ z,xs=[.str z]/\z.length<=sizeLine/\Q (.int z.length) H):=by
 intro pins s σ H xs us Q I r h
 obtain ⟨z,rfl,hz,q⟩:=h
 obtain ⟨u,rfl,t,rfl⟩:=vals1 r
 have hn:=Ih
 exact len_str (by omega) ⟨.int z.length,H,I.tok _,⟨_,rfl⟩,q⟩
theorem Dq:Ey X (.type "list") (fun xs H Q=>∃ p ys,xs=[.ref p]/\(CK X.K H p ys \/ Hc X.K H p ys)/\∀ l,H l=none->Q (.ref l) (upd H l (.lst ys))):=by
 intro pins s σ H xs us Q I r h
 obtain ⟨p,ys,rfl,hq,q⟩:=h
 obtain ⟨u,rfl,rx⟩:=vals1 r
 cases rx
 have fin:∀ (its:List Value),Vals ys its->ys.length<=sizeLine->∀ (h':Heap) (c':Nat),(∀ b o',s.heap.get? b=some o'->h'.get? b=some o') ->
   h'.get? s.heap.objs.size=some { cls:=.type "list",dict:=none,data:=.seq its.toArray c',slots:=#[] }->EP X pins σ Q (.ref s.heap.objs.size) { s with heap:=h' }:=fun its r' hz h' c' kp e =>
  ⟨.ref s.heap.objs.size,_,I.laid (t':=s.toks) kp (Nat.le_refl _) (show CJ X.prog X.w _ h' _ (.lst ys) from ⟨hz,its,c',r',e⟩),rfl,q _ (I.hok.fresh (Nat.le_refl _))⟩
 rcases hq with hq | hq
 ·obtain ⟨its,r',pl,hz⟩:=I.list hq
  have hlen:=r'.length
  obtain ⟨o,ho,hc,n,hd⟩:=pl.isList
  exact call_list_seq p (.inl rfl) ho hc hd (fun h' c' kp e=>fin its r' hz h' c' kp e) (by simp only [List.size_toArray] <;> omega)
 ·obtain ⟨its,r',pl,hz⟩:=I.tuple hq
  have hlen:=r'.length
  obtain ⟨o,ho,hc,n,hd⟩:=pl
  exact call_list_seq p (.inr rfl) ho hc hd (fun h' c' kp e=>fin its r' hz h' c' kp e) (by simp only [List.size_toArray] <;> omega)
noncomputable def jN (K:PySem.W.Frag) (T:String) (x:V) (H:Hp):Prop:=match x with
 | .str _=>T = "str"
 | .int _=>T = "int"
 | .ref p=>(T = "list" /\ ∃ xs,CK K H p xs) \/ (T = "tuple" /\ ∃ o,K.lookup p=some o/\o.cls=.type "tuple" /\ o.dict=none) \/
   (T = "dict" /\ ((∃ kvs,H p=some (.dK kvs)) \/ ∃ kvs,H p=some (.dT kvs))) \/ (T = "set" /\ ∃ S n,H p=some (.set S n))
 | _=>False
theorem Rg {pins:List (Addr × Obj)} {σ:St} {H:Hp} {s:Shared} {T:String} {x:V} {v:Value} (I:Inv X pins σ H s) (r:RelV x v) (ty:jN X.K T x H) :
  s.TypeIs v T/\∀ a,v=.ref a->∃ ob,s.heap.get? a=some ob/\ob.dict=none:=by
 cases x with
 | str z =>
  obtain ⟨t,rfl⟩:=r
  cases (show T = "str" from ty)
  exact ⟨typeIs_str s z t,fun _ e=>nomatch e⟩
 | int i =>
  obtain ⟨t,rfl⟩:=r
  cases (show T = "int" from ty)
  exact ⟨typeIs_int s i t,fun _ e=>nomatch e⟩
 | ref p =>
  cases r
  rcases ty with ⟨rfl,xs,hq⟩ | ⟨rfl,o,hk,hc,hd⟩ | ⟨rfl,hk⟩ | ⟨rfl,S,n,hk⟩
  ·obtain ⟨its,_,pl,_⟩:=I.list hq
   refine ⟨pl.isList.typeIs,fun a e=>?_⟩
   cases e
   obtain ⟨o,n,e,c,hd,_⟩:=pl
   exact ⟨o,e,hd⟩
  ·refine ⟨⟨o,I.H_ p o hk,hc⟩,fun a e=>?_⟩
   cases e
   exact ⟨o,I.H_ _ o hk,hd⟩
  ·have z:∃ o,s.heap.get? p=some o/\o.ExactDict:=by
    rcases hk with ⟨kvs,hk⟩ | ⟨kvs,hk⟩
    ·obtain ⟨_,_,_,_,o,_,_,e,ex,_⟩:=I.hok p _ hk
     exact ⟨o,e,ex⟩
    ·obtain ⟨_,_,_,_,o,_,_,e,ex,_⟩:=I.hok p _ hk
     exact ⟨o,e,ex⟩
   obtain ⟨o,e,ex⟩:=z
   refine ⟨⟨o,e,ex.1⟩,fun a e2=>?_⟩
   cases e2
   exact ⟨o,e,ex.2.1⟩
  ·obtain ⟨o,_,_,_,e,ex,_⟩:=I.hok p _ hk
   refine ⟨⟨o,e,ex.1⟩,fun a e2=>?_⟩
   cases e2
   exact ⟨o,e,ex.2.1⟩
 | _=>exact False.elim ty
noncomputable def jD (K:PySem.W.Frag) (T:String) (r:V->List V->Hp->VK->Prop) (to:TE):TE:=fun σ H Q=>to σ H fun x H1=>jN K T x H1/\r x [] H1 Q
noncomputable def jt (K:PySem.W.Frag) (T:String) (r:V->List V->Hp->VK->Prop) (to:TE) (t:TA):TE:=fun σ H Q=>to σ H fun x H1=>jN K T x H1/\t σ H1 fun xs H2=>r x xs H2 Q
variable {o e:Expr} {es:List Expr} {to:TE} {t:TA} {name:Str} {apos cpos:Pos} {T id:String} {r:V->List V->Hp->VK->Prop}
theorem S_ (pa:PlainAttrs T) (slot:Slot T name id) (hty:typeOf (.builtin id)=pure (.type "method_descriptor")) (hm:fj X id r) (ho:PE X o to)
  (hbase:attributeBase o name X.env (eval o X.env)=eval o X.env:=by rfl) (hline:(apos.endLine == cpos.line)=true:=by rfl):PE X (.Call (.Attribute o name apos) [] [] cpos) (jD X.K T r to):=by
 intro pins s σ H Q I h
 refine wpAny_Call_method0_late hbase hline (By (ho pins s σ H _ I h) fun v s1 hq0=>?_)
 obtain ⟨x,H1,I1,r1,ty,q1⟩:=hq0
 obtain ⟨h1,h2⟩:=Rg I1 r1 ty
 exact ⟨T,id,pa,slot,hty,h1,h2,Calls.callWith_builtin rfl (PySem.evalArgs_none (hm pins s1 σ H1 x [] v [] Q I1 r1 .nil q1))⟩
theorem Ep (pa:PlainAttrs T) (slot:Slot T name id) (hty:typeOf (.builtin id)=pure (.type "method_descriptor")) (hm:fj X id r) (ho:PE X o to) (ha:PA X (e::es) t)
  (hbase:attributeBase o name X.env (eval o X.env)=eval o X.env:=by rfl)
  (hfew:((backTo cpos (starEach (e::es) X.env)).all (fun x=>!x.1) && (backToKw cpos (keywordEach [] X.env)).all (fun x=>x.1.isSome)
   && decide ((e::es).length+([]:List Keyword).length+(if ([]:List Keyword).isEmpty then 0 else 1)<30))=true:=by rfl)
  (hline:(apos.endLine == cpos.line)=true:=by rfl) (hs:starEach (e::es) X.env=(false,eval e X.env)::starEach es X.env:=by rfl) (hplain:(backTo cpos (starEach es X.env)).any (·.1)=false:=by rfl) :
  PE X (.Call (.Attribute o name apos) (e::es) [] cpos) (jt X.K T r to t):=by
 intro pins s σ H Q I h
 refine wpAny_Call_method_late hbase hfew hline rfl (By (ho pins s σ H _ I h) fun v s1 hq0=>?_)
 obtain ⟨x,H1,I1,r1,ty,q1⟩:=hq0
 obtain ⟨h1,h2⟩:=Rg I1 r1 ty
 refine ⟨T,id,pa,slot,hty,h1,h2,?_⟩
 have hA:=ha cpos pins s1 σ H1 _ I1 q1
 rw [hs] at hA ⊢
 refine Calls.callWith_builtin (by show (false || (backTo cpos (starEach es X.env)).any (·.1))=false; rw [hplain] <;> rfl) (Calls.evalArgs_plain ?_)
 exact By hA fun us s2 ⟨vs,H2,I2,r2,q2⟩=>hm pins s2 σ H2 x vs v us Q I2 r1 r2 q2
end
end L2
namespace L2
open PySem PySem.Spec PyProof.Rows
noncomputable def jB (X:Cx) (id:String) (r:V->List V->Hp->VK->Prop):Prop :=
 ∀ (pins:List (Addr × Obj)) (s:Shared) (σ:St) (H:Hp) (x:V) (xs:List V) (v:Value) (us:List Value) (Q:VK),Inv X pins σ H s->RelV x v->Vals xs us->r x xs H Q ->
  wpAny (model X.prog X.w) X.A (call (.builtin id) (v::us)) (EP X pins σ Q) X.xe s
theorem Vals.one:∀ {x:V} {us:List Value},Vals [x] us->∃ u,us=[u]/\RelV x u
 | _,_,.cons r .nil=>⟨_,rfl,r⟩
theorem Vals.two:∀ {x y:V} {us:List Value},Vals [x,y] us->∃ u v,us=[u,v]/\RelV x u/\RelV y v
 | _,_,_,.cons r (.cons q .nil)=>⟨_,_,rfl,r,q⟩
theorem Vals.eraseIdx:∀ {xs:List V} {us:List Value} (i:Nat),Vals xs us->Vals (xs.eraseIdx i) (us.eraseIdx i)
 | _,_,_,.nil=>.nil
 | _,_,0,.cons _ t=>t
 | _,_,i+1,.cons r t=>.cons r (Vals.eraseIdx i t)
theorem KN {α:Type}:∀ (l:List α) (i:Nat),(l.eraseIdx i).length<=l.length
 | [],_=>Nat.le_refl _
 | _::_,0=>Nat.le_succ _
 | _::r,i+1=>Nat.succ_le_succ (KN r i)
section
variable {X:Cx} {pins:List (Addr × Obj)} {σ:St} {H:Hp} {s:Shared} {l b:Addr} {xs ys zs:List V}
theorem Inv.XQ {its its':List Value} {n:Nat} {f:Array Value->Array Value} {t':Nat} (I:Inv X pins σ H s) (hH:H l=some (.lst xs))
  (e:s.heap.get? l=some { cls:=.type "list",data:=.seq its.toArray n }) (hf:f its.toArray=its'.toArray) (hv:Vals ys its') (hz:ys.length<=sizeLine) :
  Inv X pins σ (upd H l (.lst ys)) { s with heap:=s.heap.update l (Obj.mapSeq f),toks:=t' }:=by
 have q:=PySem.IsL.update e f
 rw [hf] at q
 refine I.write (x:=l) (e:=l) (by rw [hH]; exact trivial) (.inl rfl) (fun b' u hb hu=>(Heap.get?_update_other s.heap (Obj.mapSeq f) (Ne.symm hb)).trans hu) ⟨_,q⟩ ?_
 exact ⟨hz,its',_,hv,q⟩
theorem Inv.YL {its:List Value} {t':Nat} (I:Inv X pins σ H s) (hv:Vals ys its) (hz:ys.length<=sizeLine) :
  Inv X pins σ (upd H s.heap.objs.size (.lst ys)) { s with heap:=s.heap.push { cls:=.type "list",data:=.seq its.toArray },toks:=t' } :=
 I.laid (fun _ _ q=>Heap.get?_push_of_some _ q) (Nat.le_refl _) ⟨hz,its,0,hv,Heap.get?_push_size _ rfl⟩
theorem Inv.fresh (I:Inv X pins σ H s):H s.heap.objs.size=none:=I.hok.fresh (Nat.le_refl _)
theorem Inv.Qi (I:Inv X pins σ H s) (hH:H l=some (.lst xs)):xs.length<=sizeLine/\∃ (its:List Value) (n:Nat),Vals xs its/\xs.length=its.length/\s.heap.get? l=some { cls:=.type "list",data:=.seq its.toArray n }:=by
 obtain ⟨z,its,n,r,e⟩:=I.hok l _ hH
 exact ⟨z,its,n,r,r.length,e⟩
theorem Rz {n:Nat} (h:n<=sizeLine):Builtin.List.listTooLong n=false:=by
 unfold Builtin.List.listTooLong
 exact decide_eq_false (by omega)
end
section
variable {X:Cx}
noncomputable def VG:V->List V->Hp->VK->Prop:=fun x vs H Q=>∃ l xs y,x=.ref l/\vs=[y]/\H l=some (.lst xs)/\xs.length<sizeLine/\Q .non (upd H l (.lst (xs++[y])))
theorem B_:jB X "list.append" VG:=by
 intro pins s σ H x vs v us Q I rx rv h
 obtain ⟨l,xs,y,rfl,rfl,hH,hz,q⟩:=h
 cases rx
 obtain ⟨u,rfl,ru⟩:=rv.one
 obtain ⟨z,its,n,r,hl,e⟩:=I.Qi hH
 refine call_meets F.slot_list_append ⟨_,e,rfl⟩ F.entry_list_append (F.args_list_append_2 _ _) (PySem.list_append l its.toArray n u (by rw [List.size_toArray]; omega)) ⟨e,?_⟩
 refine ⟨.non,_,I.XQ (its':=its++[u]) hH e (by simp) (r.append (.cons ru .nil)) ?_,rfl,q⟩
 rw [List.length_append,List.length_singleton]
 omega
noncomputable def Vh:V->List V->Hp->VK->Prop:=fun x vs H Q=>∃ l b xs zs,x=.ref l/\vs=[.ref b]/\H l=some (.lst xs)/\H b=some (.lst zs)/\xs.length+zs.length<=sizeLine/\Q .non (upd H l (.lst (xs++zs)))
theorem Qd:jB X "list.extend" Vh:=by
 intro pins s σ H x vs v us Q I rx rv h
 obtain ⟨l,b,xs,zs,rfl,rfl,hH,hB,hz,q⟩:=h
 cases rx
 obtain ⟨u,rfl,ru⟩:=rv.one
 cases ru
 obtain ⟨z,its,n,r,hl,e⟩:=I.Qi hH
 obtain ⟨z2,its2,n2,r2,hl2,e2⟩:=I.Qi hB
 have hsz:its.toArray.size+its2.toArray.size<=sizeLine:=by rw [List.size_toArray,List.size_toArray]; omega
 have hlong:¬ (!its.toArray.isEmpty && Builtin.List.listTooLong (its.toArray.size+its2.toArray.size))=true:=by
  rw [Rz hsz,Bool.and_false]
  exact Bool.false_ne_true
 refine call_meets F.slot_list_extend ⟨_,e,rfl⟩ F.entry_list_extend (F.args_list_extend_2 _ _)
  (AutoSeq1.list_extend_list_list_0 l its.toArray n b its2.toArray n2 hlong (by rw [List.size_toArray]; omega) (by omega)) ⟨e,e2,?_⟩
 refine ⟨.non,_,I.XQ (its':=its++its2) hH e (by simp) (r.append r2) ?_,rfl,q⟩
 rw [List.length_append]
 omega
noncomputable def YC:V->List V->Hp->VK->Prop:=fun x vs H Q=>∃ l xs i k y,x=.ref l/\vs=[.int i]/\H l=some (.lst xs) /\ -(2 ^ 63)<=i/\i<2 ^ 63/\seqIndex? i xs.length=some k/\xs[k]? = some y/\Q y (upd H l (.lst (xs.eraseIdx k)))
theorem UJ:jB X "list.pop" YC:=by
 intro pins s σ H x vs v us Q I rx rv h
 obtain ⟨l,xs,i,k,y,rfl,rfl,hH,h1,h2,hk,hy,q⟩:=h
 cases rx
 obtain ⟨u,rfl,ru⟩:=rv.one
 obtain ⟨t,rfl⟩:=ru
 obtain ⟨z,its,n,r,hl,e⟩:=I.Qi hH
 obtain ⟨w,hw,rw'⟩:=r.get hy
 refine call_meets F.slot_list_pop ⟨_,e,rfl⟩ F.entry_list_pop (F.args_list_pop_2 _ _)
  (MeetsSeq.list_pop_at l its.toArray n i t k w (fitsIndex_both h1 h2) (by rw [List.size_toArray,← hl]; exact hk) (by rw [← Array.getElem?_toList]; exact hw) (by rw [List.size_toArray]; omega)) ⟨e,?_⟩
 refine ⟨y,_,I.XQ (its':=its.eraseIdx k) hH e ?_ (r.eraseIdx k) ?_,rw',q⟩
 ·show its.toArray.eraseIdxIfInBounds k=(its.eraseIdx k).toArray
  rw [List.eraseIdxIfInBounds_toArray]
 ·have:=KN xs k
  omega
noncomputable def gn:R2:=fun x y H Q=>∃ l b xs zs,x=.ref l/\y=.ref b/\H l=some (.lst xs)/\H b=some (.lst zs)/\xs.length+zs.length<=sizeLine/\∀ p,H p=none->Q (.ref p) (upd H p (.lst (xs++zs)))
theorem Nf:GF X (binaryOp .Add) gn:=by
 intro pins s σ H x y v u Q I rx ry h
 obtain ⟨l,b,xs,zs,rfl,rfl,hH,hB,hz,q⟩:=h
 cases rx
 cases ry
 obtain ⟨z,its,n,r,hl,e⟩:=I.Qi hH
 obtain ⟨z2,its2,n2,r2,hl2,e2⟩:=I.Qi hB
 refine PySem.P.add_list e e2 ?_ (by rw [List.size_toArray,List.size_toArray]; omega)
 have ea:its.toArray++its2.toArray=(its++its2).toArray:=by simp
 rw [ea]
 exact ⟨.ref _,_,I.YL (t':=s.toks) (r.append r2) (by rw [List.length_append]; omega),rfl,q _ I.fresh⟩
end
section
variable {prog:Program} {w:World} {A:Around} {E:Value->Shared->Prop} {s:Shared}
end
section
variable {X:Cx}
end
end L2
namespace Att
open PySem PySem.W PySem.Calls PyProof.Rows
theorem JH {P:Params} {h:Heap}:∀ (ns:List Int) (vs:List Value),WellAll P h vs (ns.map WData.int)->IntsAre vs ns:=by
 intro ns
 induction ns with
 | nil =>
  intro vs w
  rw [List.map_nil] at w
  cases w
  exact .nil
 | cons n ns ih =>
  intro vs w
  rw [List.map_cons] at w
  cases w with
  | cons a b =>
   cases a
   exact .cons _ _ (ih _ b)
theorem Q_ {l:OpenLaw} {n:Nat} (hn:l.most=some n) {P:Params} {h:Heap} {args:List WData} {vals:List Value}
  (hpre:l.row.toRowW.claim.pre args=true) (hwl:WellAll P h vals args) :
  ∃ a vs ns,vals=[Value.ref a]/\args=[WData.list (ns.map WData.int)]/\h.get? a=some { cls:=.type "list",data:=.seq vs.toArray }/\IntsAre vs ns/\ns.length<=n:=by
 have hsh:WShape.hasAll [] args [.list .int]=true:=(pre_splitW hpre).1
 have hc:l.pre.holds [] { args:=args }=true:=(pre_splitW hpre).2
 obtain ⟨d,r,rfl,h1,h2⟩:=hasAllW_cons hsh
 obtain rfl:=hasAllW_nil h2
 obtain ⟨xs,rfl,h3⟩:=hasW_list h1
 obtain ⟨ns,rfl⟩:=items_int h3
 have hlen:ns.length<=n:=by
  unfold OpenLaw.pre at hc
  have h4:(WTm.not (.lt (.lit (.int (n:Int))) (.len (.arg 0)))).holds [] { args:=[.list (ns.map .int)] }=true:=by
   have h4:=(holds_andW hc).1
   rw [hn] at h4
   exact h4
  have h5:=condW_of h4 (w_not (w_lt w_lit (w_len_list (w_arg rfl))))
  rw [List.length_map] at h5
  refine Nat.le_of_not_lt fun q=>?_
  have q':(n:Int)<((ns.length:Nat):Int):=by omega
  first
   | (rw [decide_eq_true q'] at h5; exact absurd h5 (by decide))
   | (simp at h5; omega)
 cases hwl with
 | cons w1 w2 =>
  cases w2
  cases w1 with
  | list ho hall=>exact ⟨_,_,ns,rfl,rfl,ho,JH ns _ hall,hlen⟩
theorem Qh (l:OpenLaw) (args:List WData):l.row.toRowW.claim.post args (.bool true) args=true :=
 postW_of (r:=l.row.toRowW) (X:=(true == true))
  (show WShape.has [] (.bool true) .bool=true by first | rfl | decide | simp [WShape.has,WShape.arms,WShape.armsAll])
  (show (WTm.eq .res (.lit (.bool true))).value [] { args:=args,res:=some (.bool true),after:=args }=some (.bool (true == true)) from w_eq_bool (w_res rfl) w_lit) rfl
theorem Lw {l:OpenLaw} {n:Nat} {q:Program} {loose:List Str} {XP:(Str->Option Value)->Heap->Prop} {YP:World->Heap->Prop} {d:DefRec}
  (hn:l.most=some n) (hdf:d.params.defaults=[])
  (call:∀ (w:World) (s₀ s₁:Shared) (mg mb:Str->Option Value) (fa:Addr) (o:Obj) (pm cd doc:Value) (a:Addr) (vs:List Value) (ns:List Int),
   Ground q loose [] XP w s₀ mg mb s₁.heap->YP w s₁.heap ->
   s₁.heap.get? fa=some o->o.data=.func (docDef d.name d.params d.body d.scope pm cd doc)->s₁.heap.CodeRec cd d.name->mg d.name=some (.ref fa) ->
   s₁.heap.get? a=some { cls:=.type "list",data:=.seq vs.toArray }->IntsAre vs ns->ns.length<=n->s₁.gens = #[] ->
   codeAny (model l.prog w) callerA (.call (.ref fa) ⟨[.ref a],[]⟩) (fun r s'=>r=.ok (.ret (.bool true))/\OldK s₁.heap s'.heap/\s'.os=s₁.os/\AllBare s'.gens) s₁) :
  WalkO q loose XP YP l.row.toRowW d [] (fun f vs=>PySem.call f vs):=by
 intro w s₀ s₁ mg mb G Y fa o pm cd doc dV kV ho hd hcd hD hmg hg args vals as hpre hlay hrd hwl hlo
 obtain rfl:dV=.none:=Dflts.none hD hdf
 obtain rfl:kV=.none:=Dflts.noKw hD
 obtain ⟨a,vs,ns,rfl,rfl,hobj,hints,hlen⟩:=Q_ hn hpre hwl
 refine enter_call (codeAny_mono (call w s₀ s₁ mg mb fa o pm cd doc a vs ns G Y ho (fd_plain hd) hcd hmg hobj hints hlen hg) fun r s' hq=>?_)
 obtain ⟨rfl,h2,h3,h4⟩:=hq
 exact ⟨.inl ⟨.bool true,.bool true,[],rfl,fun _=>rfl,.bool true,Qh l _,fun _=>⟨List.Pairwise.nil,fun _ hm=>(nomatch hm)⟩⟩,h2,h3,h4⟩
section
variable {prog:Program} {w:World} {A:Around} {E:Value->Shared->Prop} {s:Shared} {K:Frag}
end
end Att
namespace L2
open PySem PySem.Spec PyProof.Rows
theorem Ke:∀ {vs:List Value} {ns:List Int},IntsAre vs ns->Vals (ns.map V.int) vs
 | _,_,.nil=>.nil
 | _,_,.cons n t h=>.cons ⟨t,rfl⟩ (Ke h)
noncomputable def Only (H:Hp):Prop:=∀ b,H b=none \/ ∃ o xs,H b=some (.frz o (.lst xs))
theorem RV {P:Program} {w:World} {K:PySem.W.Frag} {mg mb:Str->Option Value} {CX:Tj} {k:Nat} {fa a:Addr} {fd:FuncData} {x:Str} {sp:Sp} {s₁:Shared} {vs:List Value} {ns:List Int}
  (KX:K.In s₁.heap) (hns:s₁.heap.Ns mainGlobals mg) (hb:s₁.heap.Ns builtinsNs mb) (hbb:∀ x:Str,x ≠ "__name__"->mb x=bootBuiltins x) (hlim:s₁.heap.NoLimit) (hg:s₁.gens = #[])
  (ha:s₁.heap.get? a=some { cls:=.type "list",data:=.seq vs.toArray }) (hi:IntsAre vs ns) (hl:ns.length<=sizeLine) (hr:BV k callerA)
  (F:∀ base:Heap,K.In base->base.Ns mainGlobals mg->Ax P w K mg base CX k fa fd [x] sp) (hbind:∀ (s:Shared) (u:Value),BindsTo s fd ⟨[u],[]⟩ [(x,u)])
  (hsp:∀ H:Hp,Only H->CK K H a (ns.map V.int)->sp [.ref a] H (fun v _=>v=.bl true) fun _ _ _=>False)
  (hCX:∀ H e s',CX [] H s₁ (fun _ _ _=>False) e s'->False) :
  codeAny (model P w) callerA (.call (.ref fa) ⟨[.ref a],[]⟩) (fun r s'=>r=.ok (.ret (.bool true))/\OldK s₁.heap s'.heap/\s'.os=s₁.os/\AllBare s'.gens) s₁:=by
 have rv:=Ke hi
 have lenV:=hi.length
 have core:∀ H:Hp,Only H->CK K H a (ns.map V.int)->Ha P w H s₁.heap->(∀ b,H b ≠ none->b=a)->(H a ≠ none->K.lookup a=none) ->
   codeAny (model P w) callerA (.call (.ref fa) ⟨[.ref a],[]⟩) (fun r s'=>r=.ok (.ret (.bool true))/\OldK s₁.heap s'.heap/\s'.os=s₁.os/\AllBare s'.gens) s₁:=by
  intro H hO hS hok hA hK
  have base_of:∀ {b:Addr} {o:Obj},s₁.heap.get? b=some o->H b=none->(Lp s₁.heap H).get? b=some o:=fun e n=>RQ e n
  have noA:∀ {b:Addr} {o:Obj} {es:Array DictEntry} {ep:Nat},s₁.heap.get? b=some o->o.data=.dict es ep->H b=none:=fun {b o es ep} e d=>by
   cases q:H b with
   | none=>rfl
   | some u =>
    have e':b=a:=hA b (by rw [q]; simp)
    subst e'
    rw [ha] at e; cases e
    have d':Data.seq vs.toArray _=Data.dict es ep:=d
    cases d'
  have nsK:∀ {b:Addr} {m:Str->Option Value},s₁.heap.Ns b m->(Lp s₁.heap H).Ns b m:=fun {b m} ⟨o,es,ep,e,d,r⟩=>⟨o,es,ep,base_of e (noA e d),d,r⟩
  have hKb:K.In (Lp s₁.heap H):=fun b o e=>base_of (KX b o e) (by
   cases q:H b with
   | none=>rfl
   | some u =>
    have e':b=a:=hA b (by rw [q]; simp)
    subst e'
    rw [hK (by rw [q]; simp)] at e; cases e)
  have hM:Mod K mg (Lp s₁.heap H):=⟨hKb,nsK hns,⟨mb,nsK hb,hbb⟩,let ⟨mc,h1,h2⟩:=hlim; ⟨mc,nsK h1,h2⟩⟩
  have e0:N5 P w K mg (Lp s₁.heap H) callerA [] s₁ H:=⟨rfl,hM,fun b o e=>Ux e,Nat.le_of_eq (Q9 _ _),trivial,fun b hb=>absurd (show b∈([]:List Addr) from hb) (by simp),hok,.of_eq hg⟩
  refine codeAny_mono ((F _ hKb (nsK hns)).run callerA [] s₁ H ⟨[.ref a],[]⟩ [.ref a] [.ref a] _ _ hr e0 (hbind s₁ (.ref a)) (.cons rfl .nil) (hsp H hO hS)) fun r s' h=>?_
  cases r with
  | error e=>exact (hCX H e s' h).elim
  | ok fl =>
   cases fl with
   | next=>exact False.elim h
   | brk=>exact False.elim h
   | cont=>exact False.elim h
   | ret u =>
    obtain ⟨v,H',os,bare,un,hok',r',q⟩:=h
    have q':v=.bl true:=q
    subst q'
    obtain rfl:u=Value.bool true:=r'
    refine ⟨rfl,OldK.of_keep fun b o e=>?_,os,bare⟩
    cases q:H b with
    | none=>exact un.keep b o e q (by intro z; exact absurd (show b∈([]:List Addr) from z) (by simp)) (by simp)
    | some u =>
     rcases hO b with z | ⟨ob,xs,z⟩
     ·rw [q] at z; cases z
     ·have z2:=un.frzs b ob _ z
      obtain ⟨e1,_⟩:=hok b _ z
      obtain ⟨e2,_⟩:=hok' b _ z2
      rw [e] at e1; cases e1
      exact e2
 cases hk:K.lookup a with
 | some o =>
  have e:=KX a o hk
  rw [ha] at e
  cases e
  refine core (fun _=>none) (fun _=>.inl rfl) (.inr ⟨_,vs.toArray,_,hk,rfl,rfl,rfl,by rw [List.size_toArray,lenV]; exact hl,by simpa using rv⟩) (fun b u z=>by have z':(none:Option HO)=some u:=z; cases z') (fun b z=>absurd rfl z) fun z=>absurd rfl z
 | none =>
  refine core (fun b=>if b=a then some (.frz { cls:=.type "list",data:=.seq vs.toArray } (.lst (ns.map V.int))) else none) (fun b=>?_) (.inl (.inr ⟨{ cls:=.type "list",data:=.seq vs.toArray },if_pos rfl⟩)) (fun b u z=>?_) (fun b z=>?_) fun _=>hk
  ·by_cases hb:b=a
   ·exact .inr ⟨_,_,if_pos hb⟩
   ·exact .inl (if_neg hb)
  ·by_cases hb:b=a
   ·have z':=(if_pos hb).symm.trans z
    cases z'
    subst hb
    exact ⟨ha,by rw [List.length_map]; exact hl,vs,_,rv,ha⟩
   ·have z':=(if_neg hb).symm.trans z
    cases z'
  ·by_cases hb:b=a
   ·exact hb
   ·exact absurd (if_neg hb) z
end L2
namespace L2
open PySem PySem.Spec PyProof.Rows
theorem Ur {l:PySem.W.OpenLaw} {n k:Nat} {q:Program} {loose:List Str} {XP:(Str->Option Value)->Heap->Prop} {YP:World->Heap->Prop} {d:DefRec} {K:Params->PySem.W.Frag} {CX:World->Tj} {sp:World->Sp} {x:Str}
  (hn:l.most=some n) (hn2:n<=sizeLine) (hdf:d.params.defaults=[]) (hr:BV k callerA)
  (hY:∀ (w:World) (h:Heap),YP w h->(K w.params).In h)
  (F:∀ (w:World) (mg:Str->Option Value) (fa:Addr) (h:Heap),(K w.params).In h->h.Ns mainGlobals mg->mg d.name=some (.ref fa) ->
   ∃ fd:FuncData,(∀ (s:Shared) (u:Value),BindsTo s fd ⟨[u],[]⟩ [(x,u)]) /\
    ∀ base:Heap,(K w.params).In base->base.Ns mainGlobals mg->Ax l.prog w (K w.params) mg base (CX w) k fa fd [x] (sp w))
  (hsp:∀ (w:World) (H:Hp) (a:Addr) (ns:List Int),ns.length<=n->Only H->CK (K w.params) H a (ns.map V.int)->sp w [.ref a] H (fun v _=>v=.bl true) fun _ _ _=>False)
  (hCX:∀ (w:World) (H:Hp) (s:Shared) (e:Value) (s':Shared),CX w [] H s (fun _ _ _=>False) e s'->False) :
  PySem.W.WalkO q loose XP YP l.row.toRowW d [] (fun f vs=>PySem.call f vs):=by
 refine Att.Lw hn hdf fun w s₀ s₁ mg mb fa o pm cd doc a vs ns G Y ho hd hcd hmg hobj hints hlen hg=>?_
 have KX:=hY w _ Y
 obtain ⟨fd,hb,hF⟩:=F w mg fa _ KX G.T.g hmg
 exact RV KX G.T.g G.T.b G.T.builtins G.T.nolimit hg hobj hints (Nat.le_trans hlen hn2) hr hF hb (fun H hO hS=>hsp w H a ns hlen hO hS) fun H e s'=>hCX w H s₁ e s'
end L2
namespace L2
open PySem PySem.Spec PyProof.Rows
noncomputable def inClass (s:Stmt) (j:Nat):Stmt:=match s with
 | .ClassDef _ _ _ body _ _ _ _ _ _ _=>body.getD j (.Pass ⟨0,0,0,0⟩)
 | _=>.Pass ⟨0,0,0,0⟩
noncomputable def Aq (s:Stmt):Arguments:=match s with
 | .FunctionDef _ a _ _ _ _ _ _ _ _=>a
 | _=>{ posonlyargs:=[],args:=[],vararg:=none,kwonlyargs:=[],kw_defaults:=[],kwarg:=none,defaults:=[] }
noncomputable def An (s:Stmt):List Stmt:=match s with
 | .FunctionDef _ _ b _ _ _ _ _ _ _=>b
 | _=>[]
noncomputable def Ab (s:Stmt):Scope:=match s with
 | .FunctionDef _ _ _ _ _ _ sc _ _ _=>sc
 | _=>{ kind:=.function,names:=[],isGenerator:=false,isCoroutine:=false }
noncomputable abbrev Bf:Tj:=fun _ _ _ _ _ _=>False
noncomputable abbrev E0:XK:=fun _ _ _=>False
theorem Am {X:Cx}:HH Bf X E0:=fun _ _ _ _ _ _ _ h=>h.elim
structure Cr (K:PySem.W.Frag) (x qual:Str) (st:Stmt) (f:Addr) (fd:FuncData):Prop where
 ex:∃ (oc:Value) (od:Option Addr) (kV doc pm:Value) (an:Option Addr) (cdv ct:Value) (osl:Array (Option Value)),
  fd=PySem.W.fnOf x qual (Aq st) (An st) (Ab st) .none kV doc pm an cdv ct/\K.lookup f=some ⟨oc,od,.func fd,osl⟩/\PySem.W.codeIn K cdv qual=true
 kp:PySem.W.keepIn K (.ref f)=true
section
variable {P:Program} {w:World} {K:PySem.W.Frag} {mg:Str->Option Value} {base:Heap}
theorem Cr.ok {x qual:Str} {st:Stmt} {f:Addr} {fd:FuncData} {N ps:List Str} {k:Nat} {sp:Sp} (F:Cr K x qual st f fd) (S:Aw N ps (Ab st)) (len:∀ vs H Q E,sp vs H Q E->vs.length=ps.length)
  (hbody:∀ (cdv:Value) (A:Around) (outer:List Env) (s:Shared) (H:Hp) (vs:List V) (Q:VK) (E:XK),BV k (A.deeper (envOfC qual (Ab st) s.heap.objs.size f cdv))->sp vs H Q E ->
   ∃ t,QQ (Qo Bf P w K mg base N qual (Ab st) f cdv A outer s H E).gC (An st) t/\t { nx:=fun _ H'=>Q .non H',rt:=Q } (start N vs) H):Ax P w K mg base Bf (k+1) f fd ps sp:=by
 obtain ⟨oc,od,kV,doc,pm,an,cdv,ct,osl,rfl,lk,hcd⟩:=F.ex
 refine fY lk hcd S len fun A outer s H vs Q E hr hsp=>?_
 obtain ⟨t,h,q⟩:=hbody cdv A outer s H vs Q E hr hsp
 exact ⟨t,h.gC,q⟩
theorem Cr.binds {x qual:Str} {st:Stmt} {f:Addr} {fd:FuncData} {ps:List Str} (F:Cr K x qual st f fd)
  (h:∀ (kV doc pm:Value) (an:Option Addr) (cdv ct:Value) (us:List Value),us.length=ps.length->bindArgs (PySem.W.fnOf x qual (Aq st) (An st) (Ab st) .none kV doc pm an cdv ct) ⟨us,[]⟩=pure (ps.zip us)):Binds K fd ps []:=by
 obtain ⟨oc,od,kV,doc,pm,an,cdv,ct,osl,rfl,lk,hcd⟩:=F.ex
 exact .all (h kV doc pm an cdv ct)
theorem BR {x qual:Str} {st:Stmt} {f:Addr} {oc:Value} {od an:Option Addr} {osl:Array (Option Value)} {kV doc pm cdv ct:Value} (l:K.lookup f=some ⟨oc,od,.func (PySem.W.fnOf x qual (Aq st) (An st) (Ab st) .none kV doc pm an cdv ct),osl⟩)
  (c:PySem.W.codeIn K cdv qual=true) (k:PySem.W.keepIn K (.ref f)=true):Cr K x qual st f (PySem.W.fnOf x qual (Aq st) (An st) (Ab st) .none kV doc pm an cdv ct):=⟨⟨oc,od,kV,doc,pm,an,cdv,ct,osl,rfl,l,c⟩,k⟩
end
theorem Iw {A:Around} {k:Nat} (hr:BV k A):A.units+1<cLine:=Nat.lt_of_le_of_lt (Nat.add_le_add_left (by decide:1<=64) _) hr.units
theorem Az {n:Nat} (h:n<=1000):n<sizeLine:=Nat.lt_of_le_of_lt h (by decide)
section
variable {X:Cx}
theorem pv (i:Nat) {x:Str} {pos:Pos} (hN:X.N[i]? = some x:=by rfl) (hv:iT X.env.scope x:=by first | exact Or.inl rfl | exact Or.inr (Or.inl rfl) | exact Or.inr (Or.inr rfl)) (hd:(x == ("__debug__" : Str))=false:=by decide)
  (hcd:(x == ("__classdict__" : Str))=false:=by decide):PE X (.Name x pos) (dW i):=Xo hN hv hd hcd
end
theorem Ck {A B:Prop} (h:B):if false=true then A else B:=by
 rw [if_neg Bool.false_ne_true]
 exact h
theorem DN {A B:Prop} (h:A):if true=true then A else B:=by
 rw [if_pos rfl]
 exact h
theorem Df {c A B:Prop} [Decidable c] (h1:c->A) (h2:¬ c->B):if c then A else B:=by
 by_cases h:c
 ·rw [if_pos h]
  exact h1 h
 ·rw [if_neg h]
  exact h2 h
theorem KY {c A B:Prop} [Decidable c] (hc:c) (h:B):if (!decide c)=true then A else B:=by
 rw [decide_eq_true hc]
 exact Ck h
noncomputable def Aj (H H':Hp):Prop:=∀ b o,H b=some o->H' b=some o
theorem Aj.refl (H:Hp):Aj H H:=fun _ _ h=>h
theorem Aj.trans {H H1 H2:Hp} (a:Aj H H1) (b:Aj H1 H2):Aj H H2:=fun c o h=>b c o (a c o h)
theorem Aj.free {H H':Hp} (e:Aj H H') {l:Addr} (h:H' l=Option.none):H l=Option.none:=by
 cases q:H l with
 | none=>rfl
 | some o =>
  rw [e l o q] at h
  cases h
theorem Aj.seq {K:PySem.W.Frag} {H H':Hp} {a:Addr} {xs:List V} (e:Aj H H') (h:CK K H a xs):CK K H' a xs:=by
 rcases h with (h | ⟨o,h⟩) | h
 ·exact .inl (.inl (e _ _ h))
 ·exact .inl (.inr ⟨o,e _ _ h⟩)
 ·exact .inr h
end L2
namespace L2
open PySem PySem.Spec PyProof.Rows
section
variable {X:Cx}
end
section
variable {κ:Type} [DecidableEq κ]
theorem Ph:∀ {l:List κ} {k:κ},l.Nodup->¬ k∈l->(l++[k]).Nodup
 | [],k,_,_=>by simp
 | a::r,k,h,hk=>by
  obtain ⟨h1,h2⟩:=List.nodup_cons.mp h
  show (a::(r++[k])).Nodup
  refine List.nodup_cons.mpr ⟨fun m=>?_,Ph h2 fun m=>hk (List.mem_cons.mpr (Or.inr m))⟩
  rcases List.mem_append.mp m with q | q
  ·exact h1 q
  ·exact hk (List.mem_cons.mpr (Or.inl (List.mem_singleton.mp q).symm))
end
end L2
namespace L2
open PySem PySem.Spec PyProof.Rows
section
variable {prog:Program} {w:World} {A:Around} {E:Value->Shared->Prop} {s:Shared}
theorem Jj {it a:Addr} {i:Nat} {items:Array Value} {x:Value} {Q:Value->Shared->Prop} (j:s.heap.IsTupleIter it a i) (ht:s.heap.IsTuple a items) (hx:items[i]? = some x)
  (q:∀ h',h'.IsTupleIter it a (i+1)->Heap.SameBut it s.heap h'->Q x { s with heap:=h' }):wpAny (model prog w) A (Builtin.SmallTypes.nextOf (.ref it)) Q E s:=by
 have j0:=j
 obtain ⟨o,e,c,d⟩:=j
 obtain ⟨oa,ea,_,n,da⟩:=ht
 unfold Builtin.SmallTypes.nextOf
 refine wpAny_bind (wpAny_callSpecial?_slot (name:=Str.ofString "__next__") j0.typeIs F.slot_tuple_iterator_next (wpAny_call_entry F.slot_tuple_iterator_next j0.typeIs F.entry_tuple_iterator_next ?_ (F.args_tuple_iterator_next_1 _)))
 refine (show wpAny _ _ (field (.ref it) 0 >>= _) _ _ s from wpAny_bind (wpAny_field e d (x:=.ref a) rfl ?_))
 refine (show wpAny _ _ (if (Value.ref a == Value.none)=true then _ else _) _ _ s from ?_)
 rw [if_neg (by exact Bool.false_ne_true)]
 refine (show wpAny _ _ (field (.ref it) 1 >>= _) _ _ s from wpAny_bind (wpAny_field e d (x:=.int i 0) rfl ?_))
 refine (show wpAny _ _ (seqItems? (.ref a) >>= _) _ _ s from wpAny_bind (wpAny_seqItems ea da ?_))
 simp only [Int.toNat_natCast,hx]
 exact wpAny_bind (wpAny_setField e d (by simp) (wpAny_pure ⟨x,rfl,wpAny_pure (q _ ⟨_,Heap.get?_update_self _ e (Obj.isFreed_of_fields (Obj.data_mapFields d _)),(Obj.cls_mapFields ..).trans c,by rw [Obj.data_mapFields d]; simp [rawInt]⟩ (Heap.SameBut.update ..))⟩))
theorem Jt {it a:Addr} {i:Nat} {items:Array Value} {Q:Value->Shared->Prop} (hh:A.handled=none) (j:s.heap.IsTupleIter it a i) (ht:s.heap.IsTuple a items) (hx:items[i]? = none)
  (q:∀ h' e,Heap.ExtBut it s.heap h'->(∃ o,h'.get? e=some o/\o.cls=.type "StopIteration")->E (.ref e) { s with heap:=h' }):wpAny (model prog w) A (Builtin.SmallTypes.nextOf (.ref it)) Q E s:=by
 have j0:=j
 obtain ⟨o,e,c,d⟩:=j
 obtain ⟨oa,ea,_,n,da⟩:=ht
 unfold Builtin.SmallTypes.nextOf
 refine wpAny_bind (wpAny_callSpecial?_slot (name:=Str.ofString "__next__") j0.typeIs F.slot_tuple_iterator_next (wpAny_call_entry F.slot_tuple_iterator_next j0.typeIs F.entry_tuple_iterator_next ?_ (F.args_tuple_iterator_next_1 _)))
 refine (show wpAny _ _ (field (.ref it) 0 >>= _) _ _ s from wpAny_bind (wpAny_field e d (x:=.ref a) rfl ?_))
 refine (show wpAny _ _ (if (Value.ref a == Value.none)=true then _ else _) _ _ s from ?_)
 rw [if_neg (by exact Bool.false_ne_true)]
 refine (show wpAny _ _ (field (.ref it) 1 >>= _) _ _ s from wpAny_bind (wpAny_field e d (x:=.int i 0) rfl ?_))
 refine (show wpAny _ _ (seqItems? (.ref a) >>= _) _ _ s from wpAny_bind (wpAny_seqItems ea da ?_))
 simp only [Int.toNat_natCast,hx]
 refine wpAny_bind (wpAny_rule (wpAny_bind (wpAny_setField e d (by simp) (show wpAny _ _ (newExc (.type "StopIteration") [] >>= _) _ _ _ from wpAny_bind ?_))))
 simp only [newExc,newTuple]
 refine wpAny_bind (wpAny_newObj_type (wpAny_bind (m:=firstArgMember _ _) (wpAny_of_eq (a:=Value.none) (by first | rfl | (simp only [firstArgMember]; rfl)) (wpAny_newObj_type ?_ (by size_fits)))) (by size_fits))
 simp only [raiseNew]
 refine wpAny_bind (wpAny_handled ?_)
 first | rw [show A.in1.handled=none from hh] | rw [hh]
 exact wpAny_bind (wpAny_pure (wpAny_throw (q _ _ (((Heap.SameBut.update ..).extBut.push _).push _) ⟨_,Heap.get?_push_size _ rfl,rfl⟩)))
theorem Q6 {z TI TO i1 i2 a1 a2:Addr} {k:Nat} {xs ys:Array Value} {x y a b:Value} {Q:Value->Shared->Prop} (D:ZipApart z TI TO i1 i2 a1 a2)
  (hz:IsZip s.heap z TI TO .none) (hI:IsPair s.heap TI (.ref i1) (.ref i2)) (hO:IsPair s.heap TO a b)
  (j1:s.heap.IsTupleIter i1 a1 k) (j2:s.heap.IsTupleIter i2 a2 k) (t1:s.heap.IsTuple a1 xs) (t2:s.heap.IsTuple a2 ys) (hx:xs[k]? = some x) (hy:ys[k]? = some y)
  (q:∀ h',IsZip h' z TI TO (rawInt s.heap.objs.size)->IsPair h' TO x y->h'.IsTupleIter i1 a1 (k+1)->h'.IsTupleIter i2 a2 (k+1)->IsPair h' s.heap.objs.size x y->h'.objs.size=s.heap.objs.size+1 ->
   (∀ c o,c ≠ z->c ≠ TO->c ≠ i1->c ≠ i2->s.heap.get? c=some o->h'.get? c=some o)->Q (.ref s.heap.objs.size) { s with heap:=h' }) :
  wpAny (model prog w) A (Builtin.«zip.__next__» ⟨[.ref z],[]⟩) (fun fin s'=>∃ v,fin=.done (.ret v)/\Q v s') E s:=by
 refine (show wpAny _ _ (field (.ref z) 2 >>= _) _ _ _ from wpAny_bind (wpAny_field hz rfl (x:=.bool false) rfl (show wpAny _ _ (field (.ref z) 3 >>= _) _ _ _ from wpAny_bind (wpAny_field hz rfl (x:=.ref TI) rfl (wpAny_bind (wpAny_seqItems hI rfl ?_))))))
 refine (show wpAny _ _ (Builtin.SmallTypes.ownedTupleIsFree (.ref z) >>= _) _ _ _ from wpAny_bind ?_)
 unfold Builtin.SmallTypes.ownedTupleIsFree
 refine wpAny_bind (wpAny_field hz rfl (x:=.none) rfl (wpAny_pure ?_))
 simp only [if_true]
 refine wpAny_bind (wpAny_rule (wpAny_bind (wpAny_field hz rfl (x:=.ref TO) rfl (wpAny_bind (wpAny_setField_rec hz (by simp) fun h1 z1 s1=>?_)))))
 have y1:IsZip h1 z TI TO .ellipsis:=z1
 refine wpAny_bind ?_
 simp only [List.zipIdx_cons,List.zipIdx_nil,List.forIn_cons,List.forIn_nil]
 refine wpAny_bind (wpAny_bind (wpAny_onRaise (show wpAny _ _ (Builtin.SmallTypes.nextOf (.ref i1) >>= _) _ _ _ from wpAny_bind (Jj (j1.at fun o e=>s1.extBut _ _ D.i1z e) (t1.at fun o e=>s1.extBut _ _ D.l1z e) hx fun h2 n1 s2=>wpAny_pure ?_))))
 have o2:IsPair h2 TO a b:=s2.extBut _ _ D.TOi1 (s1.extBut _ _ D.TOz hO)
 refine wpAny_bind (wpAny_seqItems o2 rfl (wpAny_bind (wpAny_updateSeq_pair o2 fun h3 p3 s3=>?_)))
 have o3:IsPair h3 TO x b:=p3
 refine wpAny_bind (wpAny_letGo (wpAny_pure ?_))
 refine wpAny_bind (wpAny_bind (wpAny_onRaise (show wpAny _ _ (Builtin.SmallTypes.nextOf (.ref i2) >>= _) _ _ _ from wpAny_bind (Jj (j2.at fun o e=>s3.extBut _ _ D.TOi2.symm (s2.extBut _ _ D.i12.symm (s1.extBut _ _ D.i2z e)))
  (t2.at fun o e=>s3.extBut _ _ D.l2TO (s2.extBut _ _ D.l2i1 (s1.extBut _ _ D.l2z e))) hy fun h4 n2 s4=>wpAny_pure ?_))))
 have o4:IsPair h4 TO x b:=s4.extBut _ _ D.TOi2 o3
 refine wpAny_bind (wpAny_seqItems o4 rfl (wpAny_bind (wpAny_updateSeq_pair o4 fun h5 p5 s5=>?_)))
 have o5:IsPair h5 TO x y:=p5
 refine wpAny_bind (wpAny_letGo (wpAny_pure (wpAny_pure (wpAny_bind (wpAny_seqItems o5 rfl (wpAny_bind (wpAny_newTuple ?_)))))))
 have zs:h5.objs.size=s.heap.objs.size:=by rw [s5.1,s4.1,s3.1,s2.1,s1.1]
 have y5:IsZip h5 z TI TO .ellipsis:=s5.extBut _ _ D.TOz.symm (s4.extBut _ _ D.i2z.symm (s3.extBut _ _ D.TOz.symm (s2.extBut _ _ D.i1z.symm y1)))
 have k5:∀ c o,c ≠ z->c ≠ TO->c ≠ i1->c ≠ i2->s.heap.get? c=some o->h5.get? c=some o:=fun c o c1 c2 c3 c4 e=>s5.extBut _ _ c2 (s4.extBut _ _ c4 (s3.extBut _ _ c2 (s2.extBut _ _ c3 (s1.extBut _ _ c1 e))))
 have m1:h5.IsTupleIter i1 a1 (k+1):=n1.at fun o e=>s5.extBut _ _ D.TOi1.symm (s4.extBut _ _ D.i12 (s3.extBut _ _ D.TOi1.symm e))
 have m2:h5.IsTupleIter i2 a2 (k+1):=n2.at fun o e=>s5.extBut _ _ D.TOi2.symm e
 have lz:z<h5.objs.size:=Heap.lt_size y5
 refine (show wpAny _ _ (Builtin.SmallTypes.ownedTupleHandOut (.ref z) (.ref h5.objs.size) >>= _) _ _ _ from wpAny_bind ?_)
 unfold Builtin.SmallTypes.ownedTupleHandOut
 have y6:IsZip (h5.push { cls:=.type "tuple",data:=.seq #[x,y] }) z TI TO .ellipsis:=Heap.get?_push_of_some _ y5
 refine wpAny_bind (wpAny_setField_rec y6 (by simp) fun h7 p7 s7=>?_)
 have y7:IsZip h7 z TI TO (rawInt h5.objs.size):=p7
 refine wpAny_setField_rec y7 (by simp) fun h8 p8 s8=>?_
 have y8:IsZip h8 z TI TO (rawInt h5.objs.size):=p8
 have up:∀ c o,c ≠ z->h5.get? c=some o->h8.get? c=some o:=fun c o c1 e=>s8.extBut _ _ c1 (s7.extBut _ _ c1 (Heap.get?_push_of_some _ e))
 have t8:IsPair h8 h5.objs.size x y:=s8.extBut _ _ (Nat.ne_of_gt lz) (s7.extBut _ _ (Nat.ne_of_gt lz) (Heap.get?_push_size _ rfl))
 have z8:h8.objs.size=h5.objs.size+1:=by rw [s8.1,s7.1,Heap.size_push]
 rw [zs] at y8 t8 z8
 refine wpAny_pure ⟨_,rfl,?_⟩
 show Q (.ref h5.objs.size) _
 rw [zs]
 exact q h8 y8 (up _ _ D.TOz o5) (m1.at fun o e=>up _ o D.i1z e) (m2.at fun o e=>up _ o D.i2z e) t8 z8 fun c o c1 c2 c3 c4 e=>up c o c1 (k5 c o c1 c2 c3 c4 e)
theorem Rq {z TI TO i1 i2 a1 a2:Addr} {k:Nat} {xs:Array Value} {a b:Value} {Q:Fin->Shared->Prop} (hh:A.handled=none) (D:ZipApart z TI TO i1 i2 a1 a2)
  (hz:IsZip s.heap z TI TO .none) (hI:IsPair s.heap TI (.ref i1) (.ref i2)) (hO:IsPair s.heap TO a b)
  (j1:s.heap.IsTupleIter i1 a1 k) (t1:s.heap.IsTuple a1 xs) (hx:xs[k]? = none)
  (q:∀ h' e,(∀ c o,c ≠ z->c ≠ TO->c ≠ i1->c ≠ i2->s.heap.get? c=some o->h'.get? c=some o)->(∃ o,h'.get? e=some o/\o.cls=.type "StopIteration")->E (.ref e) { s with heap:=h' }) :
  wpAny (model prog w) A (Builtin.«zip.__next__» ⟨[.ref z],[]⟩) Q E s:=by
 refine (show wpAny _ _ (field (.ref z) 2 >>= _) _ _ _ from wpAny_bind (wpAny_field hz rfl (x:=.bool false) rfl (show wpAny _ _ (field (.ref z) 3 >>= _) _ _ _ from wpAny_bind (wpAny_field hz rfl (x:=.ref TI) rfl (wpAny_bind (wpAny_seqItems hI rfl ?_))))))
 refine (show wpAny _ _ (Builtin.SmallTypes.ownedTupleIsFree (.ref z) >>= _) _ _ _ from wpAny_bind ?_)
 unfold Builtin.SmallTypes.ownedTupleIsFree
 refine wpAny_bind (wpAny_field hz rfl (x:=.none) rfl (wpAny_pure ?_))
 simp only [if_true]
 refine wpAny_bind (wpAny_rule (wpAny_bind (wpAny_field hz rfl (x:=.ref TO) rfl (wpAny_bind (wpAny_setField_rec hz (by simp) fun h1 z1 s1=>?_)))))
 have y1:IsZip h1 z TI TO .ellipsis:=z1
 refine wpAny_bind ?_
 simp only [List.zipIdx_cons,List.zipIdx_nil,List.forIn_cons,List.forIn_nil]
 refine wpAny_bind (wpAny_bind (wpAny_onRaise (show wpAny _ _ (Builtin.SmallTypes.nextOf (.ref i1) >>= _) _ _ _ from wpAny_bind (Jt hh (j1.at fun o e=>s1.extBut _ _ D.i1z e) (t1.at fun o e=>s1.extBut _ _ D.l1z e) hx fun h2 x s2 hx2=>?_))))
 obtain ⟨ox,ex,cx⟩:=hx2
 have y2:IsZip h2 z TI TO .ellipsis:=s2 _ _ D.i1z.symm y1
 have nz:x ≠ z:=fun u=>by subst u; rw [y2] at ex; cases ex; simp at cx
 exact wpAny_setField_rec y2 (by simp) fun h3 _ s3=>q h3 x (fun c o c1 _ c3 _ e=>s3.extBut _ _ c1 (s2 _ _ c3 (s1.extBut _ _ c1 e))) ⟨ox,s3.extBut _ _ nz ex,cx⟩
end
noncomputable abbrev gG (h:Heap) (a1:Addr):Heap:=h.push { cls:=.type "tuple_iterator",data:=.fields #[.ref a1,.int 0 0] }
noncomputable abbrev gP (h:Heap) (a1 a2:Addr):Heap:=(gG h a1).push { cls:=.type "tuple_iterator",data:=.fields #[.ref a2,.int 0 0] }
noncomputable abbrev gH (h:Heap) (a1 a2:Addr):Heap:=(gP h a1 a2).push { cls:=.type "tuple",data:=.seq #[.ref h.objs.size,.ref (gG h a1).objs.size] }
noncomputable abbrev gB (h:Heap) (a1 a2:Addr):Heap:=(gH h a1 a2).push { cls:=.type "tuple",data:=.seq #[.none,.none] }
noncomputable abbrev YQ (h:Heap) (a1 a2:Addr):Heap:=(gB h a1 a2).push { cls:=.type "zip",data:=.fields #[.none,.bool false,.bool false,.ref (gP h a1 a2).objs.size,.ref (gH h a1 a2).objs.size] }
theorem Tt (a1 a2:Addr) (xs ys:Array Value):Meets (Builtin.«zip.__new__» ⟨[.type "zip",.ref a1,.ref a2],[]⟩) (fun _ R s=>s.heap.IsTuple a1 xs/\s.heap.IsTuple a2 ys /\
   R (.ok (.ret (.ref (gB s.heap a1 a2).objs.size))) { s with heap:=YQ s.heap a1 a2 }) :=
 .of_wp fun prog w A R s h=>by
  obtain ⟨hp,g,d,tk,os⟩:=s
  obtain ⟨t1,t2,h⟩:=h
  have hsub:=sub_zip
  have u1:Heap.IsTuple (Shared.heap ⟨hp,g,d,tk,os⟩) a1 xs:=t1
  have u2:Heap.IsTuple (Shared.heap ⟨hp.push { cls:=.type "tuple_iterator",data:=.fields #[.ref a1,.int 0 0] },g,d,tk,os⟩) a2 ys:=Heap.IsTuple.at t2 fun o e=>Heap.get?_push_of_some _ e
  wp_walk using wpAny_pyIter_tuple u1,wpAny_pyIter_tuple u2
  exact ⟨_,rfl,h⟩
section
variable {prog:Program} {w:World} {A:Around} {E:Value->Shared->Prop} {s:Shared}
theorem Qg {a1 a2:Addr} {xs ys:Array Value} {Q:Value->Shared->Prop} (t1:s.heap.IsTuple a1 xs) (t2:s.heap.IsTuple a2 ys)
  (q:∀ h' n,n=s.heap.objs.size->IsZip h' (n+4) (n+2) (n+3) .none->IsPair h' (n+2) (.ref n) (.ref (n+1))->IsPair h' (n+3) .none .none->h'.IsTupleIter n a1 0->h'.IsTupleIter (n+1) a2 0->h'.objs.size=n+5 ->
   (∀ c o,s.heap.get? c=some o->h'.get? c=some o)->Q (.ref (n+4)) { s with heap:=h' }):wpAny (model prog w) A (call (.type "zip") [.ref a1,.ref a2]) Q E s:=by
 refine callType_new F.called_zip (by decide) (F.typeCall_zip_2 _ _) (F.newCall_zip_2 _ _) (fun obj=>F.args_object_init_3 obj _ _) F.entry_zip_new (Tt a1 a2 xs ys) ⟨t1,t2,?_⟩
 have z1:(gG s.heap a1).objs.size=s.heap.objs.size+1:=Heap.size_push ..
 have z2:(gP s.heap a1 a2).objs.size=s.heap.objs.size+2:=by rw [Heap.size_push,z1]
 have z3:(gH s.heap a1 a2).objs.size=s.heap.objs.size+3:=by rw [Heap.size_push,z2]
 have z4:(gB s.heap a1 a2).objs.size=s.heap.objs.size+4:=by rw [Heap.size_push,z3]
 have z5:(YQ s.heap a1 a2).objs.size=s.heap.objs.size+5:=by rw [Heap.size_push,z4]
 have g5:(YQ s.heap a1 a2).get? (gB s.heap a1 a2).objs.size=some _:=Heap.get?_push_size _ rfl
 have g4:(YQ s.heap a1 a2).get? (gH s.heap a1 a2).objs.size=some _:=Heap.get?_push_of_some _ (Heap.get?_push_size _ rfl)
 have g3:(YQ s.heap a1 a2).get? (gP s.heap a1 a2).objs.size=some _:=Heap.get?_push_of_some _ (Heap.get?_push_of_some _ (Heap.get?_push_size _ rfl))
 have g2:(YQ s.heap a1 a2).get? (gG s.heap a1).objs.size=some _:=Heap.get?_push_of_some _ (Heap.get?_push_of_some _ (Heap.get?_push_of_some _ (Heap.get?_push_size _ rfl)))
 have g1:(YQ s.heap a1 a2).get? s.heap.objs.size=some _:=Heap.get?_push_of_some _ (Heap.get?_push_of_some _ (Heap.get?_push_of_some _ (Heap.get?_push_of_some _ (Heap.get?_push_size _ rfl))))
 refine (show _/\_ from ?_)
 rw [z2,z3,z4] at g5
 rw [z1,z2] at g3
 rw [z3] at g4
 rw [z1] at g2
 rw [z4]
 exact ⟨⟨_,g5,rfl⟩,q _ _ rfl g5 g3 g4 ⟨_,g1,rfl,rfl⟩ ⟨_,g2,rfl,rfl⟩ z5 fun c o e=>Heap.get?_push_of_some _ (Heap.get?_push_of_some _ (Heap.get?_push_of_some _ (Heap.get?_push_of_some _ (Heap.get?_push_of_some _ e))))⟩
end
end L2
namespace L2
open PySem PySem.Spec PyProof.Rows
noncomputable def Cq (env:Env):List (Str × NameKind)->List (Str × Addr)->List (Str × Addr)
 | [],acc=>acc
 | (n,k)::r,acc=>if k == .free then (match env.cells.lookup n with | some a=>Cq env r ((n,a)::acc) | none=>Cq env r acc) else Cq env r acc
theorem G_ {scope:Scope} {env:Env} (h:∀ y∈scope.names,y.2=.free->∃ c,env.cells.lookup y.1=some c):closureFor scope env=pure (Cq env scope.names []):=by
 unfold closureFor
 have key:∀ (l:List (Str × NameKind)) (acc:List (Str × Addr)),(∀ y∈l,y.2=.free->∃ c,env.cells.lookup y.1=some c) ->
   (forIn l acc fun (x:Str × NameKind) (cs:List (Str × Addr))=>(match x with | (name,kind)=>if (kind == NameKind.free)=true then (do let a ← cellOf env name; pure (ForInStep.yield ((name,a)::cs))) else pure (ForInStep.yield cs):Sem (ForInStep (List (Str × Addr)))))=(pure (Cq env l acc):Sem _):=by
  intro l
  induction l with
  | nil=>intro acc _; rfl
  | cons x r ih =>
   intro acc hl
   obtain ⟨n,k⟩:=x
   rw [List.forIn_cons]
   unfold Cq
   by_cases hk:(k == NameKind.free)=true
   ·obtain ⟨c,hc⟩:=hl (n,k) List.mem_cons_self (by simpa using hk)
    have hc':env.cells.lookup n=some c:=hc
    have e:cellOf env n=pure c:=by unfold cellOf; rw [hc']
    simp only [hk,if_true,e,hc']
    exact ih _ fun y hy=>hl y (List.mem_cons_of_mem _ hy)
   ·simp only [hk]
    exact ih _ fun y hy=>hl y (List.mem_cons_of_mem _ hy)
 have:=key scope.names [] h
 exact (congrArg (fun (m:Sem (List (Str × Addr)))=>m >>= fun z=>pure z) this).trans rfl
theorem Ff (env:Env):∀ (l:List (Str × NameKind)) (acc:List (Str × Addr)) (y:Str) (c:Addr),(Cq env l acc).lookup y=some c->acc.lookup y=some c \/ env.cells.lookup y=some c
 | [],_,_,_,h=>.inl h
 | (n,k)::r,acc,y,c,h=>by
  unfold Cq at h
  split at h
  ·split at h
   ·rename_i a ha
    rcases Ff env r _ y c h with z | z
    ·rw [List.lookup_cons] at z
     split at z
     ·rename_i e
      cases z
      have e':y=n:=by simpa using e
      subst e'
      exact .inr ha
     ·exact .inl z
    ·exact .inr z
   ·exact Ff env r _ y c h
  ·exact Ff env r _ y c h
theorem Gs (env:Env):∀ (l:List (Str × NameKind)) (acc:List (Str × Addr)) (y:Str),(acc.lookup y).isSome=true->((Cq env l acc).lookup y).isSome=true
 | [],_,_,h=>h
 | (n,k)::r,acc,y,h=>by
  unfold Cq
  split
  ·split
   ·refine Gs env r _ y ?_
    rw [List.lookup_cons]
    split
    ·rfl
    ·exact h
   ·exact Gs env r _ y h
  ·exact Gs env r _ y h
theorem Dv (env:Env):∀ (l:List (Str × NameKind)) (acc:List (Str × Addr)) (y:Str),(y,NameKind.free)∈l->(env.cells.lookup y).isSome=true->((Cq env l acc).lookup y).isSome=true
 | [],_,_,h,_=>nomatch h
 | (n,k)::r,acc,y,h,hc=>by
  unfold Cq
  rcases List.mem_cons.mp h with e | h
  ·obtain ⟨e1,e2⟩:=Prod.mk.inj e
   subst e1
   subst e2
   rw [if_pos (by decide)]
   split
   ·refine Gs env r _ y ?_
    rw [List.lookup_cons]
    simp
   ·rename_i e
    rw [e] at hc
    cases hc
  ·split
   ·split
    ·exact Dv env r _ y h hc
    ·exact Dv env r _ y h hc
   ·exact Dv env r _ y h hc
end L2
namespace L2
open PySem PySem.Spec PyProof.Rows
noncomputable def G7 (x:Str) (N:List Str):List Str:=N.map fun y=>if y=x then "" else y
noncomputable def CG (X:Cx) (x:Str) (scope:Scope) (C:Addr) (s₀:Shared) (H₀:Hp) (fp:List Addr):Cx where
 prog:=X.prog
 w:=X.w
 K:=X.K
 mg:=X.mg
 base:=X.base
 A:=X.A
 N:=x::G7 x X.N
 s₀:=s₀
 H₀:=H₀
 env:=compEnvC scope (Cq X.env scope.names []) C X.env
 outer:=X.stack
 stack:=X.stack
 ex:=fp
 fn:=fun _=>false
 calm:=X.calm
 pn:=[]
 xe:=fun _ _=>False
theorem Em (env:Env) (y:Str):∀ names:List (Str × NameKind),
  (names.map fun (n,k)=>if (k == NameKind.free && env.scope.kind == .function && env.kindOf n == some .cell) then (n,NameKind.cell) else (n,k)).lookup y =
   (names.lookup y).map fun k=>if (k == NameKind.free && env.scope.kind == .function && env.kindOf y == some .cell) then NameKind.cell else k
 | []=>rfl
 | (n,k)::r=>by
  have ih:=Em env y r
  rw [List.map_cons]
  show List.lookup y ((if (k == NameKind.free && env.scope.kind == .function && env.kindOf n == some .cell)=true then (n,NameKind.cell) else (n,k))::_)=_
  have e0:(if (k == NameKind.free && env.scope.kind == .function && env.kindOf n == some .cell)=true then (n,NameKind.cell) else (n,k))=(n,if (k == NameKind.free && env.scope.kind == .function && env.kindOf n == some .cell)=true then NameKind.cell else k):=by split <;> rfl
  rw [e0,List.lookup_cons,List.lookup_cons]
  cases hx:y == n with
  | true =>
   have e:y=n:=by simpa using hx
   subst e
   rfl
  | false=>exact ih
structure Fo (X:Cx) (x:Str) (scope:Scope):Prop where
 kind:scope.kind=.function
 nocell:∀ y∈scope.names,y.2 ≠ .cell
 names:∀ y∈scope.names,y.2=.local->scope.names.lookup y.1=some .local
 loc:scope.names.lookup x=some .local
 free:∀ y∈scope.names,y.2=.free->X.env.kindOf y.1=some .cell \/ X.env.kindOf y.1=some .free
 nd:(x::G7 x X.N).Nodup
 only:∀ y∈G7 x X.N,scope.names.lookup y ≠ some .local
 noE:scope.names.lookup ("" : Str)=none
section
variable {X:Cx} {pins:List (Addr × Obj)} {σ:St} {H:Hp} {s:Shared} {x:Str} {scope:Scope} {fp:List Addr} {C:Addr}
theorem Nh {h':Heap} {tk:Nat} {m:Str->Option Value} (I:Inv X pins σ H s) (S:Fo X x scope) (hf:∀ b∈fp,Fq X pins H b) (hlt:∀ b∈fp,b<s.heap.objs.size) (hC:s.heap.objs.size<=C) (hn:h'.Ns C m)
  (hk:∀ b o,s.heap.get? b=some o->h'.get? b=some o):Inv (CG X x scope C s H fp) [] (none::σ) H { s with heap:=h',toks:=tk }:=by
 have cl:∀ y c,(Cq X.env scope.names []).lookup y=some c->X.env.cells.lookup y=some c:=fun y c e=>by
  rcases Ff X.env scope.names [] y c e with z | z
  ·cases z
  ·exact z
 have cellK:∀ c v,s.heap.IsCell c v->h'.IsCell c v:=fun c v ⟨o,ho,hd⟩=>⟨o,hk c o ho,hd⟩
 have look:∀ y,(CG X x scope C s H fp).env.scope.names.lookup y=(scope.names.lookup y).map fun k=>if (k == NameKind.free && X.env.scope.kind == .function && X.env.kindOf y == some .cell) then NameKind.cell else k:=fun y=>Em X.env y scope.names
 refine ⟨⟨I.ok.mod,S.kind,I.ok.glob,I.ok.blt,hC,fun y z c e1 e2=>I.ok.inj y z c (cl y c e1) (cl z c e2),fun y hy=>?_,fun y c e _=>(by cases e),fun h=>I.ok.hd h,I.ok.frames,.inl rfl,fun b hb=>?_,I.bs,Nat.le_trans I.ok.bsz I.sz,fun b o e hb=>?_,fun b hb hb'=>?_,I.stack,I.K6⟩,
  rfl,I.bare,Un.kept hk,⟨m,hn,fun i y v h1 h2 h3=>?_⟩,fun y c e=>?_,I.hok.fresh hC,fun y c e=>I.freeC y c (cl y c e),fun p hp=>absurd (show p∈([]:List (Addr × Obj)) from hp) (by simp),I.hok.kept hk,?_⟩
 ·-- every cell of the block is there
  have hy':(CG X x scope C s H fp).env.scope.names.lookup y=some .cell \/ (CG X x scope C s H fp).env.scope.names.lookup y=some .free:=hy
  rw [look y] at hy'
  cases e:scope.names.lookup y with
  | none=>rw [e] at hy'; rcases hy' with z | z <;> cases z
  | some k =>
   have hm:=PySem.mem_of_lookup e
   have hfree:k=.free:=by
    rw [e] at hy'
    cases k with
    | free=>rfl
    | cell=>exact absurd rfl (S.nocell _ hm)
    | _=>rcases hy' with z | z <;> simp at z
   subst hfree
   obtain ⟨c,hc⟩:=I.ok.has y (S.free _ hm rfl)
   exact Option.isSome_iff_exists.mp (Dv X.env scope.names [] y hm (by rw [hc]; rfl))
 ·obtain ⟨f0,f1,f2,f3,f4,f5⟩:=hf b hb
  exact ⟨Nat.ne_of_lt (Nat.lt_of_lt_of_le (hlt b hb) hC),fun y c e=>f4 y c (cl y c e)⟩
 ·obtain ⟨f0,f1,f2,f3,f4,f5⟩:=hf b hb
  rcases f3 with z | z
  ·exact I.ok.noex b o e z
  ·exact absurd (Nat.lt_of_lt_of_le (Heap.lt_size e) (Nat.le_trans I.ok.bsz z)) (Nat.lt_irrefl _)
 ·obtain ⟨f0,f1,f2,f3,f4,f5⟩:=hf b hb
  rcases List.mem_cons.mp (I.Lf b hb') with e | e
  ·exact f1 e
  ·exact f2 e
 ·cases i with
  | zero =>
   have h2':(some none:Option (Option V))=some (some v):=h2
   cases h2'
  | succ i =>
   have h1':(G7 x X.N)[i]? = some y:=h1
   have h2':σ[i]? = some (some v):=h2
   have hmem:y∈G7 x X.N:=List.mem_of_getElem? h1'
   unfold G7 at h1'
   rw [List.getElem?_map] at h1'
   cases e0:X.N[i]? with
   | none=>rw [e0] at h1'; cases h1'
   | some y0 =>
    rw [e0] at h1'
    have h1'':(if y0=x then ("" : Str) else y0)=y:=Option.some.inj h1'
    have h3':(CG X x scope C s H fp).env.scope.names.lookup y=some .local \/ (CG X x scope C s H fp).env.scope.names.lookup y=some .cell \/ (CG X x scope C s H fp).env.scope.names.lookup y=some .free:=h3
    rw [look y] at h3'
    have hy0:y0=y:=by
     by_cases q:y0=x
     ·rw [if_pos q] at h1''
      rw [← h1'',S.noE] at h3'
      rcases h3' with z | z | z <;> cases z
     ·rw [if_neg q] at h1''
      exact h1''
    subst hy0
    cases e:scope.names.lookup y0 with
    | none=>rw [e] at h3'; rcases h3' with z | z | z <;> cases z
    | some k =>
     have hm:=PySem.mem_of_lookup e
     have hfree:k=.free:=by
      rw [e] at h3'
      cases k with
      | free=>rfl
      | cell=>exact absurd rfl (S.nocell _ hm)
      | «local»=>exact absurd e (S.only y0 hmem)
      | _=>rcases h3' with z | z | z <;> simp at z
     subst hfree
     have kd:=S.free _ hm rfl
     obtain ⟨m0,hn0,hl0⟩:=I.loc
     obtain ⟨u,r,l⟩:=hl0 i y0 v e0 h2' (by rcases kd with z | z; exact .inr (.inl z); exact .inr (.inr z))
     refine ⟨u,r,.inr ⟨?_,?_⟩⟩
     ·have hk':(CG X x scope C s H fp).env.scope.names.lookup y0=some (if (NameKind.free == NameKind.free && X.env.scope.kind == .function && X.env.kindOf y0 == some .cell) then NameKind.cell else NameKind.free):=by
       rw [look y0,e]; rfl
      by_cases c:(NameKind.free == NameKind.free && X.env.scope.kind == .function && X.env.kindOf y0 == some .cell)=true
      ·rw [if_pos c] at hk'; exact .inl hk'
      ·rw [if_neg c] at hk'; exact .inr hk'
     ·rcases l with ⟨lk,_⟩ | ⟨_,c,hc,hcell⟩
      ·exfalso
       rcases kd with z | z <;> (rw [show X.env.kindOf y0=some NameKind.local from lk] at z; cases z)
      ·obtain ⟨c',hc'⟩:=Option.isSome_iff_exists.mp (Dv X.env scope.names [] y0 hm (by rw [hc]; rfl))
       have:=cl y0 c' hc'
       rw [hc] at this
       cases this
       exact ⟨c,hc',cellK c _ hcell⟩
 ·obtain ⟨v,z⟩:=I.cell y c (cl y c e)
  exact ⟨v,cellK c v z⟩
 ·show (none::σ).length=(x::G7 x X.N).length
  simp [G7,I.len]
end
noncomputable def Ms (X:Cx) (ifs:List Expr) (t:TT):Prop :=
 ∀ (pins:List (Addr × Obj)) (s:Shared) (σ:St) (H:Hp) (Q:Bool->Hp->Prop),Inv X pins σ H s->t σ H Q ->
  wpAny (model X.prog X.w) X.A (forIn ifs true fun c r=>if r=true then do let ok ← isTrue c X.env (eval c X.env); pure (ForInStep.yield ok) else pure (ForInStep.yield r)) (TP X pins σ Q) X.xe s
noncomputable def Vj:TT:=fun _ H Q=>Q true H
theorem CP {X:Cx}:Ms X [] Vj:=fun _ _ _ H _ I h=>wpAny_tests_nil ⟨H,I,h⟩
theorem Ef {X:Cx} {c:Expr} {t:TT} (h:PT X c t):Ms X [c] t:=fun pins s σ H Q I q=>wpAny_tests_one (h pins s σ H Q I q)
noncomputable def Gm (J:It) (σ:St) (H1:Hp) (Q:VK) (tt:TT) (te:TE):Prop:=∀ D,H1 D=none->∃ W:Nat->Nat->List V->Hp->Prop,(∃ m,W 0 m [] (upd H1 D (.lst [])))/\∀ i m ys H2,W i m ys H2 ->
 (J.stop i H2/\Q (.ref D) H2) \/ (J.go i H2/\∀ x H3,J.yld i H2 x H3->tt (some x::σ) H3 fun b H4 =>
  if b=true then te (some x::σ) H4 fun y H5=>H5 D=some (.lst ys)/\ys.length<sizeLine/\∃ m',m'<m/\W (i+1) m' (ys++[y]) (upd H5 D (.lst (ys++[y])))
  else ∃ m',m'<m/\W (i+1) m' ys H4)
noncomputable def V2 (wi:TI) (tt:TT) (te:TE):TE:=fun σ H Q=>wi σ H fun J H1=>Gm J σ H1 Q tt te
theorem Oj {α:Type} {t:Sem α} {Q Q':α->Shared->Prop} {M:Model} {A:Around} {E:Value->Shared->Prop} {s:Shared} (h:wpAny M A t Q (fun _ _=>False) s) (hQ:∀ a s,Q a s->Q' a s):wpAny M A t Q' E s:=wpAny_mono h hQ fun _ _ x=>x.elim
theorem Inv.sameBut {X:Cx} {pins:List (Addr × Obj)} {σ:St} {H:Hp} {s:Shared} {h':Heap} {C:Addr} (I:Inv X pins σ H s) (f:Fq X pins H C) (sb:Heap.SameBut C s.heap h'):Inv X pins σ H { s with heap:=h' } :=
 I.turned (t':=s.toks) (fun b o hb e=>(sb.2 b hb).trans e) f.1 f.2.1 f.2.2.2.1 f.2.2.2.2.1 f.2.2.2.2.2
section
variable {X:Cx} {x:Str} {scope:Scope}
theorem Jl {px pos:Pos} {iter elt:Expr} {ifs:List Expr} {tt:TT} {te:TE} {pins:List (Addr × Obj)} {σ:St} {s2:Shared} {H2:Hp} {it:Addr} {fp:List Addr} {tn:Nat->Heap->Prop} {J:It} {E:Value->Shared->Prop}
  {RR:Value->Addr->Result->Shared->Prop} {Q:VK}
  (hc:X.calm=true) (S:Fo X x scope) (ht:∀ C s₀ H₀ fp,Ms (CG X x scope C s₀ H₀ fp) ifs tt) (he:∀ C s₀ H₀ fp,PE (CG X x scope C s₀ H₀ fp) elt te)
  (I2:Inv X pins σ H2 s2) (T:Turn X.prog X.w X.K (.Name x px) J fp it tn) (st2:tn 0 s2.heap) (f2:∀ b∈fp,Fq X pins H2 b)
  (q:∀ D,H2 D=none->∃ W:Nat->Nat->List V->Hp->Prop,(∃ m,W 0 m [] (upd H2 D (.lst [])))/\∀ i m ys H2,W i m ys H2 ->
   (J.stop i H2/\Q (.ref D) H2) \/ (J.go i H2/\∀ x H3,J.yld i H2 x H3->tt (some x::σ) H3 fun b H4 =>
    if b=true then te (some x::σ) H4 fun y H5=>H5 D=some (.lst ys)/\ys.length<sizeLine/\∃ m',m'<m/\W (i+1) m' (ys++[y]) (upd H5 D (.lst (ys++[y])))
    else ∃ m',m'<m/\W (i+1) m' ys H4))
  (hRR:∀ D C s' H' m,s'.heap.Ns C m->Fq X pins H' C->Inv X pins σ H' s'->Q (.ref D) H'->RR (.ref D) C (.ok .next) s') :
  wpAny (model X.prog X.w) X.A (newList []) (fun acc s₃=>wpAny (model X.prog X.w) X.A (newFunctionEnv scope X.env.globals (Cq X.env scope.names []) [] X.env.qual none .none (some X.env)) (fun cenv s₄ =>
   codeAny (model X.prog X.w) X.A (.compStart (.ListComp elt [⟨.Name x px,iter,ifs,0⟩] scope pos) 0 (.ref it) acc { cenv with scope:=relabel scope X.env }) (RR acc cenv.locals) s₄) E s₃) E s2:=by
 refine wpAny_newObj_type (wpAny_newFunctionEnv S.nocell (by intro y hy; simp at hy) (fun h₁ hns₁ hsb₁=>?_) S.kind)
 have I3:=I2.YL (its:=[]) (ys:=[]) (t':=s2.toks) .nil (Nat.zero_le _)
 have hD0:H2 s2.heap.objs.size=none:=I2.fresh
 obtain ⟨W,⟨m0,w0⟩,turn⟩:=q _ hD0
 generalize hs3:({ s2 with heap:=s2.heap.push { cls:=.type "list",data:=.seq ([]:List Value).toArray },toks:=s2.toks }:Shared)=s3 at I3
 have e3:s3.heap=s2.heap.push { cls:=.type "list",data:=.seq ([]:List Value).toArray }:=by rw [← hs3]
 have hlt:∀ b∈fp,b<s2.heap.objs.size:=fun b hb=>let ⟨_,e,_⟩:=T.obj _ _ st2 b hb; Heap.lt_size e
 have hlt3:∀ b∈fp,b<s3.heap.objs.size:=fun b hb=>by rw [e3,Heap.size_push]; exact Nat.lt_succ_of_lt (hlt b hb)
 have f3:∀ b∈fp,Fq X pins (upd H2 s2.heap.objs.size (.lst [])) b:=fun b hb=>⟨by rw [BP (Nat.ne_of_lt (hlt b hb))]; exact (f2 b hb).1,(f2 b hb).2⟩
 have hk1:∀ b o,s3.heap.get? b=some o->h₁.get? b=some o:=fun b o e=>by
  have hne:b ≠ s3.heap.objs.size:=Nat.ne_of_lt (Heap.lt_size e)
  rw [e3] at e hne
  exact hsb₁.extBut b o hne (Heap.get?_push_of_some _ e)
 have hC:s3.heap.objs.size=(s2.heap.push { cls:=.type "list",data:=.seq ([]:List Value).toArray }).objs.size:=by rw [e3]
 have hns:h₁.Ns s3.heap.objs.size (fun x=>([]:List (Str × Value)).reverse.lookup x):=by rw [hC]; exact hns₁
 have st3:tn 0 h₁:=T.keep _ _ _ st2 fun b hb o e=>hk1 b o (by rw [e3]; exact Heap.get?_push_of_some _ e)
 have hDC:s2.heap.objs.size ≠ s3.heap.objs.size:=by rw [e3,Heap.size_push]; exact Nat.ne_of_lt (Nat.lt_succ_self _)
 have start:∀ tk,Inv (CG X x scope s3.heap.objs.size s3 (upd H2 s2.heap.objs.size (.lst [])) fp) [] (none::σ) (upd H2 s2.heap.objs.size (.lst [])) { s3 with heap:=h₁,toks:=tk }:=fun tk =>
  Nh I3 S f3 hlt3 (Nat.le_refl _) hns hk1
 generalize hX:CG X x scope s3.heap.objs.size s3 (upd H2 s2.heap.objs.size (.lst [])) fp=X' at start
 have eA:X'.A=X.A:=by rw [← hX]; rfl
 have eP:X'.prog=X.prog:=by rw [← hX]; rfl
 have eW:X'.w=X.w:=by rw [← hX]; rfl
 have eK:X'.K=X.K:=by rw [← hX]; rfl
 have eC:X'.env.locals=s3.heap.objs.size:=by rw [← hX]; rfl
 have loop:∀ tk,codeAny (model X.prog X.w) X.A (.compLoop (.ListComp elt [⟨.Name x px,iter,ifs,0⟩] scope pos) 0 (.ref it) (.ref s2.heap.objs.size) (compEnvC scope (Cq X.env scope.names []) s3.heap.objs.size X.env))
   (RR (.ref s2.heap.objs.size) s3.heap.objs.size) { s3 with heap:=h₁,toks:=tk }:=by
  intro tk
  subst hX
  refine codeAny_compLoop_tests (fun n s'=>∃ i ys v0 H',Inv (CG X x scope s3.heap.objs.size s3 (upd H2 s2.heap.objs.size (.lst [])) fp) [] (v0::σ) H' s'/\tn i s'.heap/\(∀ b∈fp,H' b=none)/\W i n ys H') ?_ m0
   ⟨0,[],none,_,start tk,st3,fun b hb=>(f3 b hb).1,w0⟩
  rintro n s4 ⟨i,ys,v0,H4,I4,st4,fr4,w4⟩
  have stat:∀ {H':Hp},(∀ b∈fp,H' b=none)->∀ b∈fp,Fq (CG X x scope s3.heap.objs.size s3 (upd H2 s2.heap.objs.size (.lst [])) fp) [] H' b:=fun hn b hb=>by
   refine ⟨hn b hb,(I4.ok.exf b hb).1,I4.ok.exfs b hb,.inl hb,(I4.ok.exf b hb).2,fun p hp=>absurd (show p∈([]:List (Addr × Obj)) from hp) (by simp)⟩
  rcases turn i n ys H4 w4 with ⟨stop,qn⟩ | ⟨go,step⟩
  ·refine By (T.done (CG X x scope s3.heap.objs.size s3 (upd H2 s2.heap.objs.size (.lst [])) fp) rfl rfl rfl hc i [] s4 (v0::σ) H4 _ I4 (stat fr4) st4 stop) fun r s5 ⟨hr,I5⟩=>?_
   subst hr
   obtain ⟨m,hn,_⟩:=I5.loc
   refine hRR _ _ s5 H4 m hn (I3.J9 (Nat.le_refl _) I5.free) (I3.call' (s':=s5) (ch:=fp) I5.os I5.base I5.hok I5.bare (fun b hb=>?_)) qn
   obtain ⟨_,g1,_,g3,g4,g5⟩:=f3 b hb
   exact ⟨g3,g1,g4,g5⟩
  ·refine By (T.item (CG X x scope s3.heap.objs.size s3 (upd H2 s2.heap.objs.size (.lst [])) fp) rfl rfl rfl hc i [] s4 (v0::σ) H4 _ I4 (stat fr4) st4 go) fun r s5 ⟨u,hr,h5⟩=>?_
   subst hr
   intro Γ p hΓ
   obtain ⟨xv,H6,I6,r6,y6,st6,fr6⟩:=h5 Γ p hΓ
   refine (?_:wpAny _ _ _ _ _ _) Γ p hΓ
   have I6':=I6.pinned (stat fr6) (T.obj _ _ st6)
   have hloc:(CG X x scope s3.heap.objs.size s3 (upd H2 s2.heap.objs.size (.lst [])) fp).env.scope.names.lookup x=some .local:=lookup_relabel_local S.loc
   have again:∀ {s7:Shared} {H7:Hp} {ys':List V},Inv (CG X x scope s3.heap.objs.size s3 (upd H2 s2.heap.objs.size (.lst [])) fp) ([]++Ik fp s5.heap) (some xv::σ) H7 s7->(∃ m',m'<n/\W (i+1) m' ys' H7) ->
     ∃ m,m<n/\∃ i ys v0 H',Inv (CG X x scope s3.heap.objs.size s3 (upd H2 s2.heap.objs.size (.lst [])) fp) [] (v0::σ) H' s7/\tn i s7.heap/\(∀ b∈fp,H' b=none)/\W i m ys H':=fun {s7 H7 ys'} I7 hw=>by
    obtain ⟨m',hm,w7⟩:=hw
    refine ⟨m',hm,i+1,ys',some xv,H7,I7.GQ,T.keep _ _ _ st6 fun b hb o e=>(I7.pin (b,o) (List.mem_append_right _ (List.mem_append_right _ (Du hb e)))).1,fun b hb=>?_,w7⟩
    obtain ⟨o,e,d⟩:=T.obj _ _ st6 b hb
    exact (I7.pin (b,o) (List.mem_append_right _ (List.mem_append_right _ (Du hb e)))).2.1
   refine wpAny_assign_Name (JS (X:=CG X x scope s3.heap.objs.size s3 (upd H2 s2.heap.objs.size (.lst [])) fp) (i:=0) I6' S.nd rfl (.inl hloc) r6 (fun s7 I7=>?_) (.inr hloc))
   refine Oj (ht _ _ _ _ _ s7 (some xv::σ) H6 _ I7 (step xv H6 y6)) fun b s8 hq0=>?_
   obtain ⟨H8,I8,q8⟩:=hq0
   cases b with
   | false =>
    rw [if_neg Bool.false_ne_true] at q8 ⊢
    exact again I8 q8
   | true =>
    rw [if_pos rfl] at q8 ⊢
    refine Oj (he _ _ _ _ _ s8 (some xv::σ) H8 _ I8 q8) fun y s9 hq0=>?_
    obtain ⟨yv,H9,I9,r9,hD9,hz9,q9⟩:=hq0
    refine Oj (B_ (X:=CG X x scope s3.heap.objs.size s3 (upd H2 s2.heap.objs.size (.lst [])) fp) _ s9 (some xv::σ) H9 (.ref s2.heap.objs.size) [yv] (.ref s2.heap.objs.size) [y] (fun _ H'=>H'=upd H9 s2.heap.objs.size (.lst (ys++[yv]))) I9 rfl (.cons r9 .nil)
     ⟨_,ys,yv,rfl,rfl,hD9,hz9,rfl⟩) fun _ s10 ⟨_,H10,I10,_,e10⟩=>?_
    subst e10
    exact again I10 q9
 have key:=fun tk=>codeAny_compStart_list (R:=RR (.ref s2.heap.objs.size) s3.heap.objs.size) (loop tk) (T.self X.A 0 { s3 with heap:=h₁,toks:=tk } (fun it' s'=>codeAny (model X.prog X.w) X.A (.compLoop (.ListComp elt [⟨.Name x px,iter,ifs,0⟩] scope pos) 0 it' (.ref s2.heap.objs.size) (compEnvC scope (Cq X.env scope.names []) s3.heap.objs.size X.env)) (RR (.ref s2.heap.objs.size) s3.heap.objs.size) s') _ st3 (loop tk))
 subst hs3
 exact key _
theorem Bp {px pos:Pos} {iter elt:Expr} {ifs:List Expr} {wi:TI} {tt:TT} {te:TE} (hc:X.calm=true) (S:Fo X x scope) (hi:PI X (.Name x px) iter wi)
  (ht:∀ C s₀ H₀ fp,Ms (CG X x scope C s₀ H₀ fp) ifs tt) (he:∀ C s₀ H₀ fp,PE (CG X x scope C s₀ H₀ fp) elt te) (hs:∀ x,foldedSetIterable iter X.env x=pure x:=by intro _; rfl) :
  PE X (.ListComp elt [⟨.Name x px,iter,ifs,0⟩] scope pos) (V2 wi tt te):=by
 intro pins s σ H Q I h
 rw [eval_ListComp]
 refine wpAny_comprehension_free (use:=none) (cl:=Cq X.env scope.names []) rfl hs (G_ fun y hy hk=>I.ok.has y.1 (S.free y hy hk)) S.kind S.names (By (hi pins s σ H _ I h) fun v s1 h1=>By h1 fun itv s2 h2=>?_)
 obtain ⟨it,fp,tn,J,H2,e,I2,T,st2,f2,q⟩:=h2
 subst e
 refine Jl (RR:=fun acc C=>compPost (model X.prog X.w) X.A X.xe none (EP X pins σ Q) acc C) (Q:=Q) hc S ht he I2 T st2 f2 q ?_
 intro D C s' H' m hn hf hI hq
 exact ⟨m,hn,fun h' sb=>⟨.ref D,H',hI.sameBut hf sb,rfl,hq⟩⟩
theorem Gv {i:Nat} {y:Str} {px py pos spos:Pos} {iter elt:Expr} {ifs:List Expr} {wi:TI} {tt:TT} {te:TE} (hN:X.N.Nodup) (hi':X.N[i]? = some y) (hy:X.env.scope.names.lookup y=some .local) (hc:X.calm=true) (S:Fo X x scope) (hi:PI X (.Name x px) iter wi)
  (ht:∀ C s₀ H₀ fp,Ms (CG X x scope C s₀ H₀ fp) ifs tt) (he:∀ C s₀ H₀ fp,PE (CG X x scope C s₀ H₀ fp) elt te) (hsw:swapsWith (.ListComp elt [⟨.Name x px,iter,ifs,0⟩] scope pos) (some (.Name y py)) spos.line X.env=pure true:=by rfl) (hs:∀ x,foldedSetIterable iter X.env x=pure x:=by intro _; rfl) :
  PS X (.Assign [.Name y py] (.ListComp elt [⟨.Name x px,iter,ifs,0⟩] scope pos) spos) (Wx (V2 wi tt te) (Cz i)):=by
 intro pins s σ H D' I h
 rw [exec_Assign_Name_used _ _ _ _ hsw]
 refine wpAny_bind (wpAny_standAt (wpAny_bind ?_))
 show wpAny _ X.A (do let _ ← comprehension (.ListComp elt [⟨.Name x px,iter,ifs,0⟩] scope pos) scope X.env _ (newList []) false (eval iter X.env) (some (assign (.Name y py) X.env))) _ _ s
 refine wpAny_bind (wpAny_mono (wpAny_comprehension_free (use:=some (assign (.Name y py) X.env)) (cl:=Cq X.env scope.names []) (Q:=fun _ s'=>SP X pins D' .next s') rfl hs (G_ fun y hy hk=>I.ok.has y.1 (S.free y hy hk)) S.kind S.names
  (By (hi pins s σ H _ I h) fun v s1 h1=>By h1 fun itv s2 h2=>?_)) (fun _ s' hq=>wpAny_pure (wpAny_pure hq)) fun _ _ e=>e)
 obtain ⟨it,fp,tn,J,H2,e,I2,T,st2,f2,q⟩:=h2
 subst e
 refine Jl (RR:=fun acc C=>compPost (model X.prog X.w) X.A X.xe (some (assign (.Name y py) X.env)) (fun _ s'=>SP X pins D' .next s') acc C) (Q:=fun x H1=>Cz i x σ H1 D'.nx) hc S ht he I2 T st2 f2 q ?_
 intro D C s' H' m hn hf hI hq
 show wpAny _ X.A (assign (.Name y py) X.env (.ref D)) _ _ _
 refine wpAny_assign_Name (Kp hI hN hi' (.inl hy) (v:=.ref D) rfl (fun s6 I6 hch=>?_) (.inr hy))
 obtain ⟨a,sb,ha⟩:=hch
 have hCa:C ≠ a:=by
  rcases ha with z | z
  ·rw [z]; exact hf.2.1
  ·exact Ne.symm (hf.2.2.2.2.1 y a z)
 exact ⟨m,hn.sameBut sb hCa,fun h' sb'=>⟨_,H',I6.sameBut hf sb',hq⟩⟩
end
end L2
namespace L2
open PySem PySem.Spec PyProof.Rows
section
variable {σ:St} {H1:Hp} {Q:VK} {tt:TT} {te:TE}
theorem Hq {J:It} {xs:List V} (p:V->Bool) (f:V->V) (hz:xs.length<sizeLine)
  (hgo:∀ i H x,Aj H1 H->xs[i]? = some x->J.go i H) (hy:∀ i H y H',Aj H1 H->i<xs.length->J.yld i H y H'->H'=H/\xs[i]? = some y) (hstop:∀ H,Aj H1 H->J.stop xs.length H)
  (ht:∀ x∈xs,∀ H,Aj H1 H->∀ R:Bool->Hp->Prop,(∀ H',Aj H H'->R (p x) H')->tt (some x::σ) H R)
  (he:∀ x∈xs,p x=true->∀ H,Aj H1 H->∀ R:VK,(∀ H',Aj H H'->R (f x) H')->te (some x::σ) H R)
  (hq:∀ D H,H1 D=none->Aj H1 H->H D=some (.lst ((xs.filter p).map f))->Q (.ref D) H):Gm J σ H1 Q tt te:=by
 intro D hD
 have s0:Aj H1 (upd H1 D (.lst [])):=fun b o e=>by rw [BP (BL e hD)]; exact e
 refine ⟨fun i m ys H=>m=xs.length - i/\i<=xs.length/\ys=((xs.take i).filter p).map f/\H D=some (.lst ys)/\Aj H1 H,⟨xs.length,by simp,Nat.zero_le _,by simp,Ag,s0⟩,?_⟩
 rintro i m ys H ⟨rfl,hi,rfl,hd,hs⟩
 by_cases hlt:i<xs.length
 ·obtain ⟨x,hx⟩:∃ x,xs[i]? = some x:=⟨xs[i],by simp [hlt]⟩
  refine .inr ⟨hgo i H x hs hx,fun y H3 hyl=>?_⟩
  obtain ⟨rfl,hy'⟩:=hy i H y H3 hs hlt hyl
  rw [hx] at hy'
  cases hy'
  have hm:x∈xs:=List.mem_of_getElem? hx
  have hlen:(((xs.take i).filter p).map f).length<sizeLine:=by
   rw [List.length_map]
   refine Nat.lt_of_le_of_lt (List.length_filter_le _ _) (Nat.lt_of_le_of_lt ?_ hz)
   rw [List.length_take]; omega
  refine ht x hm _ hs _ fun H4 s4=>?_
  by_cases hp:p x=true
  ·rw [if_pos hp]
   refine he x hm hp H4 (hs.trans s4) _ fun H5 s5=>?_
   refine ⟨s5 _ _ (s4 _ _ hd),hlen,xs.length - (i+1),by omega,rfl,hlt,?_,Ag,fun b o e=>?_⟩
   ·rw [take_succ_filter p xs i x hx,if_pos hp,List.map_append]; rfl
   ·rw [BP (BL e hD)]; exact s5 _ _ (s4 _ _ (hs _ _ e))
  ·rw [if_neg hp]
   refine ⟨xs.length - (i+1),by omega,rfl,hlt,?_,s4 _ _ hd,hs.trans s4⟩
   rw [take_succ_filter p xs i x hx,if_neg hp,List.append_nil]
 ·have e:i=xs.length:=by omega
  subst e
  rw [List.take_length] at hd
  exact .inl ⟨hstop H hs,hq D H hD hs hd⟩
theorem Dy {lo:Int} {n:Nat} (p:Int->Bool) (f:Int->V) (hz:n<sizeLine)
  (ht:∀ i:Nat,i<n->∀ H,Aj H1 H->∀ R:Bool->Hp->Prop,(∀ H',Aj H H'->R (p (lo+i)) H')->tt (some (.int (lo+i))::σ) H R)
  (he:∀ i:Nat,i<n->p (lo+i)=true->∀ H,Aj H1 H->∀ R:VK,(∀ H',Aj H H'->R (f (lo+i)) H')->te (some (.int (lo+i))::σ) H R)
  (hq:∀ D H,H1 D=none->Aj H1 H->H D=some (.lst ((((List.range n).map fun (i:Nat)=>lo+(i:Int)).filter p).map f))->Q (.ref D) H):Gm (WP lo n) σ H1 Q tt te:=by
 let g:V->Int:=fun v=>match v with | .int i=>i | _=>0
 have hxs:∀ i:Nat,i<n->((List.range n).map fun (i:Nat)=>V.int (lo+(i:Int)))[i]? = some (.int (lo+i)):=fun i hi=>by simp [hi]
 refine Hq (xs:=(List.range n).map fun (i:Nat)=>V.int (lo+(i:Int))) (fun v=>p (g v)) (fun v=>f (g v)) (by simpa using hz) (fun i H x _ hx=>?_) (fun i H y H' _ hi hy=>?_) (fun H _=>?_) (fun x hx=>?_) (fun x hx=>?_) (fun D H h1 h2 h3=>?_)
 ·have:i<((List.range n).map fun (i:Nat)=>V.int (lo+(i:Int))).length:=(List.getElem?_eq_some_iff.mp hx).1
  show i<n
  simpa using this
 ·have hi':i<n:=by simpa using hi
  obtain ⟨e1,e2⟩:=hy
  subst e2
  exact ⟨e1,hxs i hi'⟩
 ·show n<=_
  simp
 ·obtain ⟨i,hi,rfl⟩:=List.mem_map.mp hx
  exact ht i (List.mem_range.mp hi)
 ·obtain ⟨i,hi,rfl⟩:=List.mem_map.mp hx
  exact he i (List.mem_range.mp hi)
 ·refine hq D H h1 h2 ?_
  rw [h3,List.filter_map,List.map_map,List.filter_map,List.map_map]
  rfl
noncomputable def gA (z:Str):It:=⟨fun i _=>i<z.cps.size,fun i H x H'=>H'=H/\∃ c,z.cps[i]? = some c/\x=.str ⟨#[c]⟩,fun i _=>z.cps.size<=i⟩
theorem SJ {P:Program} {w:World} {K:PySem.W.Frag} {tg:Expr} {z:Str} {t0:Tok} {it:Addr} {ty:String} (hty:ty = "str_ascii_iterator" \/ ty = "str_iterator"):Turn P w K tg (gA z) [it] it (fun i h=>h.IsStrIter it ty z t0 i) where
 mem:=by simp
 obj:=fun i h st b hb=>by
  have e:b=it:=by simpa using hb
  subst e
  obtain ⟨o,ho,hc,hd⟩:=st
  exact ⟨o,ho,fun v q=>by rw [hd] at q; cases q⟩
 keep:=fun i h h' st k=>let ⟨o,ho,r⟩:=st; ⟨o,k it (by simp) o ho,r⟩
 item:=by
  intro X hP hw hK hc i pins s σ H E I hf st hg
  subst hP hw hK
  obtain ⟨f0,f1,f2,f3,f4,f5⟩:=hf it (by simp)
  have hg':i<z.cps.size:=hg
  have hx:z.cps[i]? = some z.cps[i]:=Array.getElem?_eq_getElem hg'
  have fin:∀ h',h'.IsStrIter it ty z t0 (i+1)->Heap.SameBut it s.heap h'->∃ u,some (Value.str ⟨#[z.cps[i]]⟩ s.toks)=some u /\
    wpAny (model X.prog X.w) X.A (letOwnedTupleGo tg (.ref it) u) (fun _ s2=>∃ x H',Inv X pins σ H' s2/\RelV x u/\(gA z).yld i H x H'/\s2.heap.IsStrIter it ty z t0 (i+1)/\∀ b∈[it],H' b=none) E { s with heap:=h',toks:=s.toks+1 }:=fun h' st' sb=>by
   have I1:Inv X pins σ H { s with heap:=h',toks:=s.toks+1 }:=I.turned (fun b o hb e=>(sb.2 b hb).trans e) f0 f1 f3 f4 f5
   obtain ⟨o,e,c,d⟩:=id st'
   refine ⟨_,rfl,M9 (s:={ s with heap:=h',toks:=s.toks+1 }) e c d (by rcases hty with rfl | rfl <;> decide) ⟨.str ⟨#[z.cps[i]]⟩,H,I1,⟨_,rfl⟩,⟨rfl,_,hx,rfl⟩,st',fun b hb=>(hf b hb).1⟩⟩
  rcases hty with rfl | rfl
  ·exact wpAny_pyNext_ascii_item st hx fin
  ·exact wpAny_pyNext_wide_item st hx fin
 done:=by
  intro X hP hw hK hc i pins s σ H E I hf st hg
  subst hP hw hK
  obtain ⟨f0,f1,f2,f3,f4,f5⟩:=hf it (by simp)
  have hx:z.cps[i]? = none:=by
   have hg':z.cps.size<=i:=hg
   simpa using hg'
  rcases hty with rfl | rfl
  ·exact wpAny_pyNext_ascii_end (I.ok.hd hc) st hx fun h' eb=>⟨rfl,I.turned (t':=s.toks) (fun b o hb e=>eb b o hb e) f0 f1 f3 f4 f5⟩
  ·exact wpAny_pyNext_wide_end (I.ok.hd hc) st hx fun h' eb=>⟨rfl,I.turned (t':=s.toks) (fun b o hb e=>eb b o hb e) f0 f1 f3 f4 f5⟩
 self:=fun A i s Q E st h=>by
  rcases hty with rfl | rfl
  ·exact wpAny_pyIter_striter_ascii st h
  ·exact wpAny_pyIter_striter_wide st h
end
section
variable {X:Cx} {tg:Expr}
noncomputable def gf (tl:TE):TI:=fun σ H R=>tl σ H fun x H1=>∃ z,x=.str z/\R (gA z) H1
theorem Xl {l:Expr} {tl:TE} (hl:PE X l tl):PI X tg l (gf tl):=by
 intro pins s σ H R I h
 refine By (hl pins s σ H _ I h) fun v s1 hq0=>?_
 obtain ⟨x,H1,I1,r1,q1⟩:=hq0
 obtain ⟨z,e,q⟩:=q1
 subst e
 obtain ⟨t,rfl⟩:=r1
 have fin:∀ ty,(ty = "str_ascii_iterator" \/ ty = "str_iterator")->PIE X pins σ tg R (.ref s1.heap.objs.size) { s1 with heap:=s1.heap.push { cls:=.type ty,data:=.fields #[.str z t,.int 0 0] } }:=fun ty hty=>by
  refine ⟨s1.heap.objs.size,[s1.heap.objs.size],_,_,H1,rfl,I1.kept (t':=s1.toks) fun b o e=>Heap.get?_push_of_some _ e,SJ (z:=z) (t0:=t) hty,⟨_,Heap.get?_push_size _ rfl,rfl,rfl⟩,fun b hb=>?_,q⟩
  have e:b=s1.heap.objs.size:=by simpa using hb
  subst e
  exact I1.J9 (Nat.le_refl _) (I1.hok.fresh (Nat.le_refl _))
 cases ha:z.cps.all (· < 128)
 ·exact wpAny_pyIter_wide ha (fin _ (.inr rfl))
 ·exact wpAny_pyIter_ascii ha (fin _ (.inl rfl))
end
section
variable {σ:St} {H1:Hp} {Q:VK} {tt:TT} {te:TE}
noncomputable def sgn (c:Nat):V:=.str ⟨#[c]⟩
theorem R_ {z:Str} (p:Nat->Bool) (f:Nat->V) (hz:z.length<sizeLine)
  (ht:∀ c∈z.cps.toList,∀ H,Aj H1 H->∀ R:Bool->Hp->Prop,(∀ H',Aj H H'->R (p c) H')->tt (some (sgn c)::σ) H R)
  (he:∀ c∈z.cps.toList,p c=true->∀ H,Aj H1 H->∀ R:VK,(∀ H',Aj H H'->R (f c) H')->te (some (sgn c)::σ) H R)
  (hq:∀ D H,H1 D=none->Aj H1 H->H D=some (.lst ((z.cps.toList.filter p).map f))->Q (.ref D) H):Gm (gA z) σ H1 Q tt te:=by
 let g:V->Nat:=fun v=>match v with | .str y=>y.cps.getD 0 0 | _=>0
 refine Hq (xs:=z.cps.toList.map sgn) (fun v=>p (g v)) (fun v=>f (g v)) (by simpa [Str.length] using hz) (fun i H x _ hx=>?_) (fun i H y H' _ hi hy=>?_) (fun H _=>?_) (fun x hx=>?_) (fun x hx=>?_) (fun D H h1 h2 h3=>?_)
 ·have:i<(z.cps.toList.map sgn).length:=(List.getElem?_eq_some_iff.mp hx).1
  show i<z.cps.size
  simpa using this
 ·obtain ⟨e1,c,hc,rfl⟩:=hy
  refine ⟨e1,?_⟩
  rw [List.getElem?_map,Array.getElem?_toList,hc]; rfl
 ·show z.cps.size<=_
  simp
 ·obtain ⟨c,hc,rfl⟩:=List.mem_map.mp hx
  exact ht c hc
 ·obtain ⟨c,hc,rfl⟩:=List.mem_map.mp hx
  exact he c hc
 ·refine hq D H h1 h2 ?_
  rw [h3,List.filter_map,List.map_map]
  rfl
end
section
variable {X:Cx}
theorem range_all (bs:List Bool):((List.range bs.length).all fun i=>(bs[i]?).getD true)=bs.all id:=by
 rw [Bool.eq_iff_iff,List.all_eq_true,List.all_eq_true]
 constructor
 ·intro h b hb
  obtain ⟨i,hi,e⟩:=List.mem_iff_getElem.mp hb
  have:=h i (List.mem_range.mpr hi)
  rw [List.getElem?_eq_getElem hi,e] at this
  exact this
 ·intro h i hi
  have hi':=List.mem_range.mp hi
  rw [List.getElem?_eq_getElem hi']
  exact h _ (List.getElem_mem hi')
theorem Jd (hc:X.calm=true):Ey X (.builtin "all") (fun xs H Q=>∃ (p:Addr) (bs:List Bool),xs=[V.ref p]/\CK X.K H p (bs.map V.bl)/\Q (.bl (bs.all id)) H):=by
 intro pins s σ H xs us Q I r h
 obtain ⟨p,bs,rfl,hp,q⟩:=h
 obtain ⟨u,rfl,ru⟩:=vals1 r
 cases ru
 obtain ⟨its,rv,pl,hz⟩:=I.list hp
 have hlen:bs.length=its.length:=by have:=rv.length; rw [List.length_map] at this; exact this
 have hlt:p<s.heap.objs.size:=by obtain ⟨_,e,_⟩:=pl.isList; exact Heap.lt_size e
 refine call_all_walk (wpAny_pyIter_list pl.isList ?_)
 refine ⟨s.heap.objs.size,[s.heap.objs.size,p],[s.heap.objs.size],its.toArray.size,_,_,fun i=>(bs[i]?).getD true,rfl,Walks.list (A:=X.A.in1) (I.ok.hd hc) _ p (Nat.ne_of_lt hlt) its.toArray,
  ⟨⟨_,Heap.get?_push_size _ rfl,rfl,rfl⟩,pl.isList.push _⟩,fun i v s' Q' E' hP hQ=>?_,fun h' tk hk=>?_⟩
 ·have hP':its[i]? = some v:=by simpa using hP
  have hi:i<its.length:=(List.getElem?_eq_some_iff.mp hP').1
  have hb:bs[i]? = some bs[i]:=by simp [hlen,hi]
  obtain ⟨u,hu,ru⟩:=rv.get (i:=i) (x:=.bl bs[i]) (by rw [List.getElem?_map,hb]; rfl)
  rw [hP'] at hu
  cases hu
  cases ru
  dsimp only at hQ
  rw [hb] at hQ
  exact wpAny_truthy_bool hQ
 ·have e:((List.range its.toArray.size).all fun i=>(bs[i]?).getD true)=bs.all id:=by rw [List.size_toArray,← hlen]; exact range_all bs
  rw [e]
  refine ⟨.bl (bs.all id),H,I.kept (t':=tk) fun b o eb=>hk b o (fun hm=>?_) (Heap.get?_push_of_some _ eb),rfl,q⟩
  rw [List.mem_singleton.mp hm] at eb
  exact Nat.lt_irrefl _ (Heap.lt_size eb)
theorem Dc:Ey X (.builtin "isinstance") (fun xs H Q=>∃ x T t b,xs=[x,V.ty T]/\Ib X.K H x t/\PySem.W.kitOne X.K t (.type T)=some b/\Q (.bl b) H):=by
 intro pins s σ H xs us Q I r h
 obtain ⟨x,T,t,b,rfl,ty,e,q⟩:=h
 obtain ⟨u,v,rfl,ru,rv⟩:=Vals.two r
 cases rv
 exact Q4 I ru ty e fun tk=>⟨.bl b,H,I.tok _,rfl,q⟩
theorem T4:gJ X (fun x lo hi H Q=>∃ z,x=.str z/\z.length<=sizeLine/\Q (.str (Txt.slice z lo hi)) H):=by
 intro pins s σ H x v vl vu lo hi sl Q I rx hs pl pu h
 obtain ⟨z,rfl,hz,q⟩:=h
 obtain ⟨t,rfl⟩:=rx
 refine ⟨"str",_,F.slot_str_getitem.lookup,typeIs_str _ _ _,?_⟩
 have fin:∀ t' k,EP X pins σ Q (.str (Txt.slice z lo hi) t') { s with toks:=k }:=fun t' k=>⟨.str _,H,I.tok _,⟨_,rfl⟩,q⟩
 cases pl with
 | none =>
  cases pu with
  | none=>exact wpAny_getItem_str_slice (l:=none) (u:=none) (st:=none) hs rfl (post_val_or_str ⟨Nat.le_trans (Txt.slice_le z _ _) hz,fin⟩)
  | int j uj=>exact wpAny_getItem_str_slice (l:=none) (u:=some (j,uj)) (st:=none) hs rfl (post_val_or_str ⟨Nat.le_trans (Txt.slice_le z _ _) hz,fin⟩)
 | int i ui =>
  cases pu with
  | none=>exact wpAny_getItem_str_slice (l:=some (i,ui)) (u:=none) (st:=none) hs rfl (post_val_or_str ⟨Nat.le_trans (Txt.slice_le z _ _) hz,fin⟩)
  | int j uj=>exact wpAny_getItem_str_slice (l:=some (i,ui)) (u:=some (j,uj)) (st:=none) hs rfl (post_val_or_str ⟨Nat.le_trans (Txt.slice_le z _ _) hz,fin⟩)
end
noncomputable def PJ (x:Str) (scope osc:Scope) (N:List Str):Bool :=
 (scope.kind == .function) && scope.names.all (fun y=>y.2 != .cell) && scope.names.all (fun y=>y.2 != .local || scope.names.lookup y.1 == some .local) && (scope.names.lookup x == some .local) &&
 scope.names.all (fun y=>y.2 != .free || osc.names.lookup y.1 == some .cell || osc.names.lookup y.1 == some .free) && decide ((x::G7 x N).Nodup) && (G7 x N).all (fun y=>scope.names.lookup y != some .local) && (scope.names.lookup ("" : Str) == none)
theorem BW {X:Cx} {x:Str} {scope osc:Scope} {N:List Str} (hsc:X.env.scope=osc) (hN:X.N=N) (h:PJ x scope osc N=true):Fo X x scope:=by
 unfold PJ at h
 simp only [Bool.and_eq_true] at h
 obtain ⟨⟨⟨⟨⟨⟨⟨h1,h2⟩,h3⟩,h4⟩,h5⟩,h6⟩,h7⟩,h8⟩:=h
 rw [List.all_eq_true] at h2 h3 h5 h7
 have kd:∀ y,X.env.kindOf y=osc.names.lookup y:=fun y=>by rw [← hsc]; rfl
 refine ⟨by simpa using h1,fun y hy=>by simpa using h2 y hy,fun y hy e=>?_,by simpa using h4,fun y hy e=>?_,by rw [hN]; exact of_decide_eq_true h6,fun y hy=>?_,by simpa using h8⟩
 ·have:=h3 y hy
  rw [e] at this
  simpa using this
 ·have:=h5 y hy
  rw [e] at this
  rw [kd]
  simpa using this
 ·rw [hN] at hy
  simpa using h7 y hy
theorem Ky {α:Type} {xs:List α} {i:Int} (h0:0<=i) (h1:i<xs.length):∃ v,Nv xs i=some v/\v∈xs:=by
 have hj:i.toNat<xs.length:=by omega
 refine ⟨xs[i.toNat],?_,List.getElem_mem hj⟩
 have:=Ai (xs:=xs) (j:=i.toNat) (v:=xs[i.toNat]) (by simp [hj])
 have e:((i.toNat:Nat):Int)=i:=by omega
 rw [e] at this
 exact this
end L2
namespace L2
open PySem PySem.Spec PyProof.Rows
section
variable {X:Cx} {pins:List (Addr × Obj)} {σ:St} {H:Hp} {s:Shared} {h':Heap}
theorem Inv.Jp {ch:List Addr} {a:Addr} {o:HO} {t':Nat} (I:Inv X pins σ H s) (hf:∀ b∈ch,Fq X pins H b) (k:∀ b u,b ∉ ch->s.heap.get? b=some u->h'.get? b=some u) (hp:s.heap.objs.size<=a)
  (new:CJ X.prog X.w (upd H a o) h' a o):Inv X pins σ (upd H a o) { s with heap:=h',toks:=t' }:=by
 have hn:H a=none:=I.hok.fresh hp
 have up:∀ b u,H b=some u->upd H a o b=some u:=fun b u e=>by rw [BP (BL e hn)]; exact e
 refine I.step (g':=s.gens) (d':=s.drawn) (ch:=ch) (fun b hb=>?_) (fun b u _ _ hc e _=>k b u hc e) (fun b u _ _ hc e _=>⟨u.slots,k b u hc e⟩) (fun b u _ e n=>?_)
  (fun b u hc e=>⟨u,k b u hc e⟩) (fun b xs e=>up _ _ e) (fun b u x e=>up _ _ e) (fun b ps e=>⟨#[],by rw [up _ _ e]; simp⟩) (fun m hm=>?_) (fun b u e=>?_) I.bare
 ·obtain ⟨f0,f1,f2,f3,f4,f5⟩:=hf b hb
  exact ⟨f3,f1,f4,f5⟩
 ·rw [BP (Nat.ne_of_lt (Nat.lt_of_lt_of_le (Heap.lt_size e) hp))]
  exact n
 ·obtain ⟨u,es,ep,ho,r⟩:=hm
  exact ⟨u,es,ep,k _ u (fun z=>(hf _ z).2.1 rfl) ho,r⟩
 ·by_cases hb:b=a
  ·subst hb
   rw [Ag] at e
   cases e
   exact new
  ·rw [BP hb] at e
   refine (I.hok b u e).stay (fun c v hc q=>k c v (fun z=>?_) q) (fun _ q=>up _ _ q) fun _ _ q=>up _ _ q
   have z1:=(hf c z).1
   rcases hc with hc | hc
   ·rw [hc,e] at z1
    cases z1
   ·rw [hc] at z1
    cases z1
theorem Inv.K5 {ch:List Addr} {t':Nat} (I:Inv X pins σ H s) (hf:∀ b∈ch,Fq X pins H b) (k:∀ b u,b ∉ ch->s.heap.get? b=some u->h'.get? b=some u):Inv X pins σ H { s with heap:=h',toks:=t' }:=by
 refine I.step (g':=s.gens) (d':=s.drawn) (ch:=ch) (fun b hb=>?_) (fun b u _ _ hc e _=>k b u hc e) (fun b u _ _ hc e _=>⟨u.slots,k b u hc e⟩) (fun b u _ e n=>n)
  (fun b u hc e=>⟨u,k b u hc e⟩) (fun b xs e=>e) (fun b u x e=>e) (fun b ps e=>⟨#[],by rw [e]; simp⟩) (fun m hm=>?_) (fun b u e=>?_) I.bare
 ·obtain ⟨f0,f1,f2,f3,f4,f5⟩:=hf b hb
  exact ⟨f3,f1,f4,f5⟩
 ·obtain ⟨u,es,ep,ho,r⟩:=hm
  exact ⟨u,es,ep,k _ u (fun z=>(hf _ z).2.1 rfl) ho,r⟩
 ·refine (I.hok b u e).stay (fun c v hc q=>k c v (fun z=>?_) q) (fun _ q=>q) fun _ _ q=>q
  have z1:=(hf c z).1
  rcases hc with hc | hc
  ·rw [hc,e] at z1
   cases z1
  ·rw [hc] at z1
   cases z1
end
noncomputable def Y7 (K:PySem.W.Frag) (a:Addr):It :=
 ⟨fun i H=>∃ xs x,CK K H a xs/\xs[i]? = some x,fun i H v H'=>∃ T,H T=none/\v=.ref T/\∀ xs,CK K H a xs->∃ x,xs[i]? = some x/\H'=upd H T (.tup [.int (i:Int),x]),fun i H=>∃ xs,CK K H a xs/\xs.length<=i⟩
noncomputable def jJ (K:PySem.W.Frag) (a b:Addr):It :=
 ⟨fun i H=>∃ xs ys x y,Hc K H a xs/\Hc K H b ys/\xs[i]? = some x/\ys[i]? = some y,fun i H v H'=>∃ T,H T=none/\v=.ref T/\∀ xs ys,Hc K H a xs->Hc K H b ys->∃ x y,xs[i]? = some x/\ys[i]? = some y/\H'=upd H T (.tup [x,y]),
  fun i H=>∃ xs,Hc K H a xs/\xs.length<=i⟩
theorem QT {P:Program} {w:World} {K:PySem.W.Frag} {es:List Expr} {k1:Nat} {pos:Pos} (a e it:Addr) (hne:e ≠ it) :
  Turn P w K (.Tuple es k1 pos) (Y7 K a) [e,it] e (fun i h=>(∃ old,IsEnum h e it i old)/\h.IsListIter it a i) where
 mem:=by simp
 obj:=fun i h st b hb=>by
  obtain ⟨⟨old,he⟩,o,ho,c,d⟩:=st
  rcases List.mem_cons.mp hb with rfl | hb
  ·exact ⟨_,he,fun v z=>by
    have z':Data.fields _=Data.cell v:=z
    cases z'⟩
  ·have q:b=it:=by simpa using hb
   subst q
   exact ⟨o,ho,fun v z=>by rw [d] at z; cases z⟩
 keep:=fun i h h' st k=>by
  obtain ⟨⟨old,he⟩,hi⟩:=st
  exact ⟨⟨old,k e (by simp) _ he⟩,hi.at fun o q=>k it (by simp) o q⟩
 item:=by
  intro X hP hw hK hc i pins s σ H E I hf st hg
  subst hP hw hK
  obtain ⟨xs,x,hq,hx⟩:=hg
  obtain ⟨its,rv,p,hz⟩:=I.list hq
  obtain ⟨u,hu,ru⟩:=rv.get hx
  obtain ⟨⟨old,he⟩,hi⟩:=st
  refine wpAny_pyNext_enum_item he hi p.isList (x:=u) (by simpa using hu) hne fun h1 n1 n2 n3 n4 n5=>?_
  refine ⟨_,rfl,wpAny_letOwnedTupleGo_enum (s:={ s with heap:=h1,toks:=s.toks+1 }) n1 fun h2 m1 m2=>?_⟩
  have hT:s.heap.objs.size ≠ e:=Nat.ne_of_gt (Heap.lt_size he)
  have hI:s.heap.objs.size ≠ it:=by obtain ⟨_,q,_⟩:=hi; exact Nat.ne_of_gt (Heap.lt_size q)
  have fr:H s.heap.objs.size=none:=I.hok.fresh (Nat.le_refl _)
  have nw:CJ X.prog X.w (upd H s.heap.objs.size (.tup [.int (i:Int),x])) h2 s.heap.objs.size (.tup [.int (i:Int),x]) :=
   ⟨by show 2<=sizeLine; decide,[.int i s.toks,u],.cons ⟨_,rfl⟩ (.cons ru .nil),_,m2.extBut _ _ hT n3,rfl,_,rfl⟩
  refine ⟨.ref s.heap.objs.size,_,I.Jp (t':=s.toks+1) (ch:=[e,it]) hf (fun b o hb q=>?_) (Nat.le_refl _) nw,rfl,⟨_,fr,rfl,fun ys hy=>⟨x,by rw [I.Hr hy hq]; exact hx,rfl⟩⟩,⟨⟨u,?_⟩,n2.at fun o q=>m2.extBut _ _ (Ne.symm hne) q⟩,fun b hb=>?_⟩
  ·exact m2.extBut _ _ (fun z=>hb (by simp [z])) (n5 b o (fun z=>hb (by simp [z])) (fun z=>hb (by simp [z])) q)
  ·have e1:((i:Int)+1)=((i+1:Nat):Int):=by omega
   rw [← e1]
   exact m1
  ·have hb':=hb
   rcases List.mem_cons.mp hb with rfl | hb
   ·rw [BP (Ne.symm hT)]
    exact (hf _ hb').1
   ·have q:b=it:=by simpa using hb
    subst q
    rw [BP (Ne.symm hI)]
    exact (hf _ hb').1
 done:=by
  intro X hP hw hK hc i pins s σ H E I hf st hg
  subst hP hw hK
  obtain ⟨xs,hq,hx⟩:=hg
  obtain ⟨its,rv,p,hz⟩:=I.list hq
  obtain ⟨⟨old,he⟩,hi⟩:=st
  have hl:=rv.length
  exact wpAny_pyNext_enum_end (I.ok.hd hc) he hi p.isList (by simp; omega) fun h1 eb=>⟨rfl,I.K5 (t':=s.toks) (ch:=[e,it]) hf fun b o hb q=>eb b o (fun z=>hb (by simp [z])) q⟩
 self:=fun _ _ _ _ _ st h=>by
  obtain ⟨⟨old,he⟩,_⟩:=st
  exact wpAny_pyIter_enum he h
theorem Lh {n a b:Nat} (ha:a<n) (hb:b<n):ZipApart (n+4) (n+2) (n+3) n (n+1) a b:=by
 constructor <;> (refine (show @Ne Nat _ _ from ?_); omega)
theorem Q7 {n b:Nat} {P:Nat->Prop} (h0:P n) (h1:P (n+1)) (h2:P (n+2)) (h3:P (n+3)) (h4:P (n+4)) (hb:b∈[n,n+1,n+2,n+3,n+4]):P b:=by
 simp at hb
 rcases hb with rfl | rfl | rfl | rfl | rfl <;> assumption
theorem Qe {P:Program} {w:World} {K:PySem.W.Frag} {es:List Expr} {k1:Nat} {pos:Pos} (a b n:Nat) (ha:a<n) (hb:b<n) :
  Turn P w K (.Tuple es k1 pos) (jJ K a b) [n,n+1,n+2,n+3,n+4] (n+4) (fun i h=>IsZip h (n+4) (n+2) (n+3) .none/\IsPair h (n+2) (.ref n) (.ref (n+1))/\(∃ x y,IsPair h (n+3) x y)/\h.IsTupleIter n a i/\h.IsTupleIter (n+1) b i) where
 mem:=by simp
 obj:=fun i h st c hc=>by
  obtain ⟨hz,hI,⟨x,y,hO⟩,⟨o1,e1,_,d1⟩,⟨o2,e2,_,d2⟩⟩:=st
  refine Q7 (P:=fun c=>∃ o,h.get? c=some o/\∀ v,o.data ≠ .cell v) ⟨_,e1,fun v z=>?_⟩ ⟨_,e2,fun v z=>?_⟩ ⟨_,hI,fun v z=>?_⟩ ⟨_,hO,fun v z=>?_⟩ ⟨_,hz,fun v z=>?_⟩ hc
  ·rw [d1] at z; cases z
  ·rw [d2] at z; cases z
  ·have z':Data.seq _ _=Data.cell v:=z
   cases z'
  ·have z':Data.seq _ _=Data.cell v:=z
   cases z'
  ·have z':Data.fields _=Data.cell v:=z
   cases z'
 keep:=fun i h h' st k=>by
  obtain ⟨hz,hI,⟨x,y,hO⟩,j1,j2⟩:=st
  exact ⟨k _ (by simp) _ hz,k _ (by simp) _ hI,⟨x,y,k _ (by simp) _ hO⟩,j1.at fun o q=>k _ (by simp) o q,j2.at fun o q=>k _ (by simp) o q⟩
 item:=by
  intro X hP hw hK hc i pins s σ H E I hf st hg
  subst hP hw hK
  obtain ⟨xs,ys,x,y,q1,q2,hx,hy⟩:=hg
  obtain ⟨it1,r1,p1,_⟩:=I.tuple q1
  obtain ⟨it2,r2,p2,_⟩:=I.tuple q2
  obtain ⟨u,hu,ru⟩:=r1.get hx
  obtain ⟨v,hv,rv⟩:=r2.get hy
  obtain ⟨hz,hI,⟨x0,y0,hO⟩,j1,j2⟩:=st
  have D:=Lh ha hb
  have hT:s.TypeIs (.ref (n+4)) "zip":=⟨_,hz,rfl⟩
  have sz:n+4<s.heap.objs.size:=Heap.lt_size hz
  unfold pyNext
  refine wpAny_bind (wpAny_attempt (wpAny_callSpecial?_slot (name:=Str.ofString "__next__") hT F.slot_zip_next (wpAny_call_entry F.slot_zip_next hT F.entry_zip_next
   (Q6 D hz hI hO j1 j2 (show s.heap.IsTuple a it1.toArray from p1) (show s.heap.IsTuple b it2.toArray from p2) (x:=u) (y:=v) (by simpa using hu) (by simpa using hv) fun h1 n1 n2 n3 n4 n5 n6 n7=>wpAny_pure ?_) (F.args_zip_next_1 _))))
  refine ⟨_,rfl,wpAny_letOwnedTupleGo_zip (s:={ s with heap:=h1 }) n1 fun h2 m1 m2=>?_⟩
  have fr:H s.heap.objs.size=none:=I.hok.fresh (Nat.le_refl _)
  have nw:CJ X.prog X.w (upd H s.heap.objs.size (.tup [x,y])) h2 s.heap.objs.size (.tup [x,y]) :=
   ⟨by show 2<=sizeLine; decide,[u,v],.cons ru (.cons rv .nil),_,m2.extBut _ _ (Nat.ne_of_gt sz) n5,rfl,_,rfl⟩
  have hI2:IsPair h1 (n+2) (.ref n) (.ref (n+1)):=n7 _ _ D.TIz D.TITO D.TIi1 D.TIi2 hI
  refine ⟨.ref s.heap.objs.size,_,I.Jp (t':=s.toks) (ch:=[n,n+1,n+2,n+3,n+4]) hf (fun c o hc q=>?_) (Nat.le_refl _) nw,rfl,⟨_,fr,rfl,fun xs' ys' h1 h2=>⟨x,y,by rw [I.Ir h1 q1]; exact hx,by rw [I.Ir h2 q2]; exact hy,rfl⟩⟩,
   ⟨m1,m2.extBut _ _ D.TIz hI2,⟨u,v,m2.extBut _ _ D.TOz n2⟩,n3.at fun o q=>m2.extBut _ _ D.i1z q,n4.at fun o q=>m2.extBut _ _ D.i2z q⟩,fun c hc=>?_⟩
  ·have z:∀ d,d∈[n,n+1,n+2,n+3,n+4]->c ≠ d:=fun d hd q=>hc (q ▸ hd)
   exact m2.extBut _ _ (z _ (by simp)) (n7 c o (z _ (by simp)) (z _ (by simp)) (z _ (by simp)) (z _ (by simp)) q)
  ·rw [BP ?_]
   ·exact (hf c hc).1
   ·have lt:c<=n+4:=Q7 (P:=fun c=>c<=n+4) (by omega) (by omega) (by omega) (by omega) (Nat.le_refl _) hc
    exact Nat.ne_of_lt (Nat.lt_of_le_of_lt lt sz)
 done:=by
  intro X hP hw hK hc i pins s σ H E I hf st hg
  subst hP hw hK
  obtain ⟨xs,q1,hx⟩:=hg
  obtain ⟨it1,r1,p1,_⟩:=I.tuple q1
  obtain ⟨hz,hI,⟨x0,y0,hO⟩,j1,j2⟩:=st
  have D:=Lh ha hb
  have hT:s.TypeIs (.ref (n+4)) "zip":=⟨_,hz,rfl⟩
  have hl:=r1.length
  unfold pyNext
  refine wpAny_bind (wpAny_attempt (wpAny_callSpecial?_slot (name:=Str.ofString "__next__") hT F.slot_zip_next (wpAny_call_entry F.slot_zip_next hT F.entry_zip_next
   (Rq (I.ok.hd hc) D hz hI hO j1 (show s.heap.IsTuple a it1.toArray from p1) (by simp; omega) fun h1 x k1 hx1=>?_) (F.args_zip_next_1 _))))
  obtain ⟨o,ho,hco⟩:=hx1
  refine wpAny_bind (wpAny_isInstance (T:="StopIteration") (b:=true) ⟨o,ho,hco⟩ isSubtype_stop (wpAny_pure ?_))
  refine ⟨rfl,I.K5 (t':=s.toks) (ch:=[n,n+1,n+2,n+3,n+4]) hf fun c o hc q=>?_⟩
  have z:∀ d,d∈[n,n+1,n+2,n+3,n+4]->c ≠ d:=fun d hd q=>hc (q ▸ hd)
  exact k1 c o (z _ (by simp)) (z _ (by simp)) (z _ (by simp)) (z _ (by simp)) q
 self:=fun _ _ _ _ _ st h=>wpAny_pyIter_zip st.1 h
section
variable {X:Cx} {es:List Expr} {k1:Nat} {tpos:Pos}
noncomputable def aW (K:PySem.W.Frag) (ta:TA):TI:=fun σ H R=>ta σ H fun vs H1=>∃ a,vs=[.ref a]/\(∃ xs,CK K H1 a xs)/\R (Y7 K a) H1
noncomputable def jM (K:PySem.W.Frag) (ta:TA):TI:=fun σ H R=>ta σ H fun vs H1=>∃ a b,vs=[.ref a,.ref b]/\(∃ xs,Hc K H1 a xs)/\(∃ ys,Hc K H1 b ys)/\R (jJ K a b) H1
theorem JN {l:Expr} {ta:TA} {p pos:Pos} (hg:Gl X "enumerate") (hm:X.mg "enumerate" = none) (ha:PA X [l] ta) (hs:starEach [l] X.env=[(false,eval l X.env)]:=by rfl) :
  PI X (.Tuple es k1 tpos) (.Call (.Name "enumerate" p) [l] [] pos) (aW X.K ta):=by
 intro pins s σ H R I h
 refine Call_ (GR I hg hm boot_enumerate (PyProof.Rows.callWith_type1 (By (ha pos pins s σ H _ I h) fun us s1 ⟨vs,H1,I1,r1,q1⟩=>?_) hs rfl))
 obtain ⟨a,e,⟨xs,hq⟩,q⟩:=q1
 subst e
 obtain ⟨u,rfl,ru⟩:=vals1 r1
 cases ru
 obtain ⟨its,rv,pl,hz⟩:=I1.list hq
 refine call_enumerate_list pl.isList fun h1 n1 n2 n3 n4=>?_
 refine wpAny_pyIter_enum (s:={ s1 with heap:=h1 }) n1 ?_
 refine ⟨_,[s1.heap.objs.size+1,s1.heap.objs.size],_,_,H1,rfl,I1.kept (t':=s1.toks) n4,QT a _ _ (Nat.succ_ne_self _),⟨⟨_,n1⟩,n2⟩,fun b hb=>?_,q⟩
 have lt:s1.heap.objs.size<=b:=by
  rcases List.mem_cons.mp hb with rfl | hb
  ·exact Nat.le_succ _
  ·exact Nat.le_of_eq ((List.mem_singleton.mp hb).symm)
 exact I1.J9 lt (I1.hok.fresh lt)
theorem Vm {x y:Expr} {ta:TA} {p pos:Pos} (hg:Gl X "zip") (hm:X.mg "zip" = none) (ha:PA X [x,y] ta) (hs:starEach [x,y] X.env=[(false,eval x X.env),(false,eval y X.env)]:=by rfl) (hs2:starEach [y] X.env=[(false,eval y X.env)]:=by rfl) :
  PI X (.Tuple es k1 tpos) (.Call (.Name "zip" p) [x,y] [] pos) (jM X.K ta):=by
 intro pins s σ H R I h
 refine Call_ (GR I hg hm boot_zip (PyProof.Rows.callWith_type1 (By (ha pos pins s σ H _ I h) fun us s1 ⟨vs,H1,I1,r1,q1⟩=>?_) (by rw [hs,hs2]) (by rw [hs2]; rfl)))
 obtain ⟨a,b,e,⟨xs,q1⟩,⟨ys,q2⟩,q⟩:=q1
 subst e
 obtain ⟨u,v,rfl,ru,rv⟩:=Vals.two r1
 cases ru
 cases rv
 obtain ⟨it1,r1,p1,_⟩:=I1.tuple q1
 obtain ⟨it2,r2,p2,_⟩:=I1.tuple q2
 refine Qg (show s1.heap.IsTuple a it1.toArray from p1) (show s1.heap.IsTuple b it2.toArray from p2) fun h1 n hn n1 n2 n3 n4 n5 n6 n7=>?_
 refine wpAny_pyIter_zip (s:={ s1 with heap:=h1 }) n1 ?_
 have la:a<n:=by rw [hn]; exact p1.lt
 have lb:b<n:=by rw [hn]; exact p2.lt
 refine ⟨_,[n,n+1,n+2,n+3,n+4],_,_,H1,rfl,I1.kept (t':=s1.toks) n7,Qe a b n la lb,⟨n1,n2,⟨_,_,n3⟩,n4,n5⟩,fun c hc=>?_,q⟩
 have lt:s1.heap.objs.size<=c:=by
  rw [← hn]
  exact Q7 (P:=fun c=>n<=c) (by omega) (by omega) (by omega) (by omega) (by omega) hc
 exact I1.J9 lt (I1.hok.fresh lt)
end
end L2
namespace L2
open PySem PySem.Spec PyProof.Rows
theorem Vg {prog:Program} {w:World} {A:Around} {R:Result->Shared->Prop} {s:Shared} {elt tg iter:Expr} {ifs:List Expr} {scope:Scope} {pos:Pos} {it acc:Value} {env:Env} (J:Nat->Shared->Prop) {E:Value->Shared->Prop} (hE:E=notedBy (model prog w) A env fun e s'=>R (.error e) s')
  (turn:∀ n s,J n s->wpAny (model prog w) A (pyNext it) (fun r s1=>match r with
   | none=>R (.ok .next) s1
   | some v=>wpAny (model prog w) A (letOwnedTupleGo tg it v) (fun _ s2=>wpAny (model prog w) A (assign tg env v) (fun _ s3 =>
     wpAny (model prog w) A (forIn ifs true fun c r=>if r=true then do let ok ← isTrue c env (eval c env); pure (ForInStep.yield ok) else pure (ForInStep.yield r)) (fun ok s4 =>
      if ok=true then wpAny (model prog w) A (eval elt env) (fun x s5=>wpAny (model prog w) A (call (.builtin "list.append") [acc,x]) (fun _ s6=>∃ m,m<n/\J m s6) E s5) E s4
      else ∃ m,m<n/\J m s4) E s3) E s2) E s1) E s) (n:Nat) (h:J n s) :
  codeAny (model prog w) A (.compLoop (.ListComp elt [⟨tg,iter,ifs,0⟩] scope pos) 0 it acc env) R s:=by
 subst hE
 refine codeAny_loop rfl J (fun n s hJ=>(show wpAny _ A ((compTurn (.ListComp elt [⟨tg,iter,ifs,0⟩] scope pos) 0 it acc env).onRaise (fun x=>do noteFrame x env; theTreesLotGoes x)) _ _ s from wpAny_noted ?_)) n h
 rw [compTurn_list]
 refine wpAny_bind (wpAny_standAt (wpAny_bind (wpAny_mono (turn n s hJ) (fun r s1 h1=>?_) fun _ _ q=>q)))
 cases r with
 | none=>exact wpAny_pure h1
 | some v =>
  refine wpAny_bind (wpAny_mono h1 (fun _ s2 h2=>wpAny_bind (wpAny_mono h2 (fun _ s3 h3=>wpAny_bind (wpAny_mono h3 (fun ok s4 h4=>?_) fun _ _ q=>q)) fun _ _ q=>q)) fun _ _ q=>q)
  cases ok with
  | false=>exact wpAny_pure ⟨rfl,h4⟩
  | true=>exact wpAny_bind (wpAny_bind (wpAny_mono h4 (fun x s5 h5=>wpAny_bind (wpAny_mono h5 (fun _ s6 h6=>wpAny_pure (wpAny_pure ⟨rfl,h6⟩)) fun _ _ q=>q)) fun _ _ q=>q))
noncomputable def Bm (X:Cx) (x z:Str) (scope:Scope) (C:Addr) (s₀:Shared) (H₀:Hp) (fp:List Addr):Cx where
 prog:=X.prog
 w:=X.w
 K:=X.K
 mg:=X.mg
 base:=X.base
 A:=X.A
 N:=x::z::X.N
 s₀:=s₀
 H₀:=H₀
 env:=compEnvC scope (Cq X.env scope.names []) C X.env
 outer:=X.stack
 stack:=X.stack
 ex:=fp
 fn:=fun _=>false
 calm:=X.calm
 pn:=[]
 xe:=fun _ _=>False
structure D_ (X:Cx) (x z:Str) (scope:Scope):Prop where
 kind:scope.kind=.function
 nocell:∀ y∈scope.names,y.2 ≠ .cell
 names:∀ y∈scope.names,y.2=.local->scope.names.lookup y.1=some .local
 loc:scope.names.lookup x=some .local
 loz:scope.names.lookup z=some .local
 free:∀ y∈scope.names,y.2=.free->X.env.kindOf y.1=some .cell \/ X.env.kindOf y.1=some .free
 nd:(x::z::X.N).Nodup
 only:∀ y∈X.N,scope.names.lookup y ≠ some .local
section
variable {X:Cx} {pins:List (Addr × Obj)} {σ:St} {H:Hp} {s:Shared} {x z:Str} {scope:Scope} {fp:List Addr} {C:Addr}
theorem Mv {h':Heap} {tk:Nat} {m:Str->Option Value} (I:Inv X pins σ H s) (S:D_ X x z scope) (hf:∀ b∈fp,Fq X pins H b) (hlt:∀ b∈fp,b<s.heap.objs.size) (hC:s.heap.objs.size<=C) (hn:h'.Ns C m)
  (hk:∀ b o,s.heap.get? b=some o->h'.get? b=some o):Inv (Bm X x z scope C s H fp) [] (none::none::σ) H { s with heap:=h',toks:=tk }:=by
 have cl:∀ y c,(Cq X.env scope.names []).lookup y=some c->X.env.cells.lookup y=some c:=fun y c e=>by
  rcases Ff X.env scope.names [] y c e with z | z
  ·cases z
  ·exact z
 have cellK:∀ c v,s.heap.IsCell c v->h'.IsCell c v:=fun c v ⟨o,ho,hd⟩=>⟨o,hk c o ho,hd⟩
 have look:∀ y,(Bm X x z scope C s H fp).env.scope.names.lookup y=(scope.names.lookup y).map fun k=>if (k == NameKind.free && X.env.scope.kind == .function && X.env.kindOf y == some .cell) then NameKind.cell else k:=fun y=>Em X.env y scope.names
 refine ⟨⟨I.ok.mod,S.kind,I.ok.glob,I.ok.blt,hC,fun y z c e1 e2=>I.ok.inj y z c (cl y c e1) (cl z c e2),fun y hy=>?_,fun y c e _=>(by cases e),fun h=>I.ok.hd h,I.ok.frames,.inl rfl,fun b hb=>?_,I.bs,Nat.le_trans I.ok.bsz I.sz,fun b o e hb=>?_,fun b hb hb'=>?_,I.stack,I.K6⟩,
  rfl,I.bare,Un.kept hk,⟨m,hn,fun i y v h1 h2 h3=>?_⟩,fun y c e=>?_,I.hok.fresh hC,fun y c e=>I.freeC y c (cl y c e),fun p hp=>absurd (show p∈([]:List (Addr × Obj)) from hp) (by simp),I.hok.kept hk,?_⟩
 ·have hy':(Bm X x z scope C s H fp).env.scope.names.lookup y=some .cell \/ (Bm X x z scope C s H fp).env.scope.names.lookup y=some .free:=hy
  rw [look y] at hy'
  cases e:scope.names.lookup y with
  | none=>rw [e] at hy'; rcases hy' with z | z <;> cases z
  | some k =>
   have hm:=PySem.mem_of_lookup e
   have hfree:k=.free:=by
    rw [e] at hy'
    cases k with
    | free=>rfl
    | cell=>exact absurd rfl (S.nocell _ hm)
    | _=>rcases hy' with z | z <;> simp at z
   subst hfree
   obtain ⟨c,hc⟩:=I.ok.has y (S.free _ hm rfl)
   exact Option.isSome_iff_exists.mp (Dv X.env scope.names [] y hm (by rw [hc]; rfl))
 ·obtain ⟨f0,f1,f2,f3,f4,f5⟩:=hf b hb
  exact ⟨Nat.ne_of_lt (Nat.lt_of_lt_of_le (hlt b hb) hC),fun y c e=>f4 y c (cl y c e)⟩
 ·obtain ⟨f0,f1,f2,f3,f4,f5⟩:=hf b hb
  rcases f3 with z | z
  ·exact I.ok.noex b o e z
  ·exact absurd (Nat.lt_of_lt_of_le (Heap.lt_size e) (Nat.le_trans I.ok.bsz z)) (Nat.lt_irrefl _)
 ·obtain ⟨f0,f1,f2,f3,f4,f5⟩:=hf b hb
  rcases List.mem_cons.mp (I.Lf b hb') with e | e
  ·exact f1 e
  ·exact f2 e
 ·match i,h1,h2 with
  | 0,h1,h2 =>
   have h2':(some none:Option (Option V))=some (some v):=h2
   cases h2'
  | 1,h1,h2 =>
   have h2':(some none:Option (Option V))=some (some v):=h2
   cases h2'
  | i+2,h1,h2 =>
   have e0:X.N[i]? = some y:=h1
   have h2':σ[i]? = some (some v):=h2
   have hmem:y∈X.N:=List.mem_of_getElem? e0
   have h3':(Bm X x z scope C s H fp).env.scope.names.lookup y=some .local \/ (Bm X x z scope C s H fp).env.scope.names.lookup y=some .cell \/ (Bm X x z scope C s H fp).env.scope.names.lookup y=some .free:=h3
   rw [look y] at h3'
   cases e:scope.names.lookup y with
   | none=>rw [e] at h3'; rcases h3' with z | z | z <;> cases z
   | some k =>
    have hm:=PySem.mem_of_lookup e
    have hfree:k=.free:=by
     rw [e] at h3'
     cases k with
     | free=>rfl
     | cell=>exact absurd rfl (S.nocell _ hm)
     | «local»=>exact absurd e (S.only y hmem)
     | _=>rcases h3' with z | z | z <;> simp at z
    subst hfree
    have kd:=S.free _ hm rfl
    obtain ⟨m0,hn0,hl0⟩:=I.loc
    obtain ⟨u,r,l⟩:=hl0 i y v e0 h2' (by rcases kd with z | z; exact .inr (.inl z); exact .inr (.inr z))
    refine ⟨u,r,.inr ⟨?_,?_⟩⟩
    ·have hk':(Bm X x z scope C s H fp).env.scope.names.lookup y=some (if (NameKind.free == NameKind.free && X.env.scope.kind == .function && X.env.kindOf y == some .cell) then NameKind.cell else NameKind.free):=by
      rw [look y,e]; rfl
     by_cases c:(NameKind.free == NameKind.free && X.env.scope.kind == .function && X.env.kindOf y == some .cell)=true
     ·rw [if_pos c] at hk'; exact .inl hk'
     ·rw [if_neg c] at hk'; exact .inr hk'
    ·rcases l with ⟨lk,_⟩ | ⟨_,c,hc,hcell⟩
     ·exfalso
      rcases kd with z | z <;> (rw [show X.env.kindOf y=some NameKind.local from lk] at z; cases z)
     ·obtain ⟨c',hc'⟩:=Option.isSome_iff_exists.mp (Dv X.env scope.names [] y hm (by rw [hc]; rfl))
      have:=cl y c' hc'
      rw [hc] at this
      cases this
      exact ⟨c,hc',cellK c _ hcell⟩
 ·obtain ⟨v,z⟩:=I.cell y c (cl y c e)
  exact ⟨v,cellK c v z⟩
 ·show (none::none::σ).length=(x::z::X.N).length
  simp [I.len]
end
noncomputable def JK (J:It) (σ:St) (H1:Hp) (Q:VK) (g:TG) (tt:TT) (te:TE):Prop:=∀ D,H1 D=none->∃ W:Nat->Nat->List V->Hp->Prop,(∃ m,W 0 m [] (upd H1 D (.lst [])))/\∀ i m ys H2,W i m ys H2 ->
 (J.stop i H2/\Q (.ref D) H2) \/ (J.go i H2/\∀ x H3,J.yld i H2 x H3->∀ v0 v1,g x (v0::v1::σ) H3 fun σ' H3'=>(∃ w0 w1,σ'=w0::w1::σ)/\tt σ' H3' fun b H4 =>
  if b=true then te σ' H4 fun y H5=>H5 D=some (.lst ys)/\ys.length<sizeLine/\∃ m',m'<m/\W (i+1) m' (ys++[y]) (upd H5 D (.lst (ys++[y])))
  else ∃ m',m'<m/\W (i+1) m' ys H4)
noncomputable def SQ (wi:TI) (g:TG) (tt:TT) (te:TE):TE:=fun σ H Q=>wi σ H fun J H1=>JK J σ H1 Q g tt te
section
variable {X:Cx} {x z:Str} {scope:Scope}
theorem M3 {tg:Expr} {pos:Pos} {iter elt:Expr} {ifs:List Expr} {g:TG} {tt:TT} {te:TE} {pins:List (Addr × Obj)} {σ:St} {s2:Shared} {H2:Hp} {it:Addr} {fp:List Addr} {tn:Nat->Heap->Prop} {J:It} {E:Value->Shared->Prop}
  {RR:Value->Addr->Result->Shared->Prop} {Q:VK}
  (hc:X.calm=true) (S:D_ X x z scope) (hg:∀ C s₀ H₀ fp,PG (Bm X x z scope C s₀ H₀ fp) tg g) (ht:∀ C s₀ H₀ fp,Ms (Bm X x z scope C s₀ H₀ fp) ifs tt) (he:∀ C s₀ H₀ fp,PE (Bm X x z scope C s₀ H₀ fp) elt te)
  (I2:Inv X pins σ H2 s2) (T:Turn X.prog X.w X.K tg J fp it tn) (st2:tn 0 s2.heap) (f2:∀ b∈fp,Fq X pins H2 b) (q:JK J σ H2 Q g tt te)
  (hRR:∀ D C s' H' m,s'.heap.Ns C m->Fq X pins H' C->Inv X pins σ H' s'->Q (.ref D) H'->RR (.ref D) C (.ok .next) s') :
  wpAny (model X.prog X.w) X.A (newList []) (fun acc s₃=>wpAny (model X.prog X.w) X.A (newFunctionEnv scope X.env.globals (Cq X.env scope.names []) [] X.env.qual none .none (some X.env)) (fun cenv s₄ =>
   codeAny (model X.prog X.w) X.A (.compStart (.ListComp elt [⟨tg,iter,ifs,0⟩] scope pos) 0 (.ref it) acc { cenv with scope:=relabel scope X.env }) (RR acc cenv.locals) s₄) E s₃) E s2:=by
 refine wpAny_newObj_type (wpAny_newFunctionEnv S.nocell (by intro y hy; simp at hy) (fun h₁ hns₁ hsb₁=>?_) S.kind)
 have I3:=I2.YL (its:=[]) (ys:=[]) (t':=s2.toks) .nil (Nat.zero_le _)
 have hD0:H2 s2.heap.objs.size=none:=I2.fresh
 obtain ⟨W,⟨m0,w0⟩,turn⟩:=q _ hD0
 generalize hs3:({ s2 with heap:=s2.heap.push { cls:=.type "list",data:=.seq ([]:List Value).toArray },toks:=s2.toks }:Shared)=s3 at I3
 have e3:s3.heap=s2.heap.push { cls:=.type "list",data:=.seq ([]:List Value).toArray }:=by rw [← hs3]
 have hlt:∀ b∈fp,b<s2.heap.objs.size:=fun b hb=>let ⟨_,e,_⟩:=T.obj _ _ st2 b hb; Heap.lt_size e
 have hlt3:∀ b∈fp,b<s3.heap.objs.size:=fun b hb=>by rw [e3,Heap.size_push]; exact Nat.lt_succ_of_lt (hlt b hb)
 have f3:∀ b∈fp,Fq X pins (upd H2 s2.heap.objs.size (.lst [])) b:=fun b hb=>⟨by rw [BP (Nat.ne_of_lt (hlt b hb))]; exact (f2 b hb).1,(f2 b hb).2⟩
 have hk1:∀ b o,s3.heap.get? b=some o->h₁.get? b=some o:=fun b o e=>by
  have hne:b ≠ s3.heap.objs.size:=Nat.ne_of_lt (Heap.lt_size e)
  rw [e3] at e hne
  exact hsb₁.extBut b o hne (Heap.get?_push_of_some _ e)
 have hC:s3.heap.objs.size=(s2.heap.push { cls:=.type "list",data:=.seq ([]:List Value).toArray }).objs.size:=by rw [e3]
 have hns:h₁.Ns s3.heap.objs.size (fun x=>([]:List (Str × Value)).reverse.lookup x):=by rw [hC]; exact hns₁
 have st3:tn 0 h₁:=T.keep _ _ _ st2 fun b hb o e=>hk1 b o (by rw [e3]; exact Heap.get?_push_of_some _ e)
 have start:∀ tk,Inv (Bm X x z scope s3.heap.objs.size s3 (upd H2 s2.heap.objs.size (.lst [])) fp) [] (none::none::σ) (upd H2 s2.heap.objs.size (.lst [])) { s3 with heap:=h₁,toks:=tk }:=fun tk =>
  Mv I3 S f3 hlt3 (Nat.le_refl _) hns hk1
 have loop:∀ tk,codeAny (model X.prog X.w) X.A (.compLoop (.ListComp elt [⟨tg,iter,ifs,0⟩] scope pos) 0 (.ref it) (.ref s2.heap.objs.size) (compEnvC scope (Cq X.env scope.names []) s3.heap.objs.size X.env))
   (RR (.ref s2.heap.objs.size) s3.heap.objs.size) { s3 with heap:=h₁,toks:=tk }:=by
  intro tk
  refine Vg (fun n s'=>∃ i ys v0 v1 H',Inv (Bm X x z scope s3.heap.objs.size s3 (upd H2 s2.heap.objs.size (.lst [])) fp) [] (v0::v1::σ) H' s'/\tn i s'.heap/\(∀ b∈fp,H' b=none)/\W i n ys H') rfl ?_ m0
   ⟨0,[],none,none,_,start tk,st3,fun b hb=>(f3 b hb).1,w0⟩
  rintro n s4 ⟨i,ys,v0,v1,H4,I4,st4,fr4,w4⟩
  have stat:∀ {H':Hp},(∀ b∈fp,H' b=none)->∀ b∈fp,Fq (Bm X x z scope s3.heap.objs.size s3 (upd H2 s2.heap.objs.size (.lst [])) fp) [] H' b:=fun hn b hb=>by
   refine ⟨hn b hb,(I4.ok.exf b hb).1,I4.ok.exfs b hb,.inl hb,(I4.ok.exf b hb).2,fun p hp=>absurd (show p∈([]:List (Addr × Obj)) from hp) (by simp)⟩
  rcases turn i n ys H4 w4 with ⟨stop,qn⟩ | ⟨go,step⟩
  ·refine By (T.done (Bm X x z scope s3.heap.objs.size s3 (upd H2 s2.heap.objs.size (.lst [])) fp) rfl rfl rfl hc i [] s4 (v0::v1::σ) H4 _ I4 (stat fr4) st4 stop) fun r s5 ⟨hr,I5⟩=>?_
   subst hr
   obtain ⟨m,hn,_⟩:=I5.loc
   refine hRR _ _ s5 H4 m hn (I3.J9 (Nat.le_refl _) I5.free) (I3.call' (s':=s5) (ch:=fp) I5.os I5.base I5.hok I5.bare (fun b hb=>?_)) qn
   obtain ⟨_,g1,_,g3,g4,g5⟩:=f3 b hb
   exact ⟨g3,g1,g4,g5⟩
  ·refine By (T.item (Bm X x z scope s3.heap.objs.size s3 (upd H2 s2.heap.objs.size (.lst [])) fp) rfl rfl rfl hc i [] s4 (v0::v1::σ) H4 _ I4 (stat fr4) st4 go) fun r s5 ⟨u,hr,h5⟩=>?_
   subst hr
   refine By h5 fun _ s6 h6=>?_
   obtain ⟨xv,H6,I6,r6,y6,st6,fr6⟩:=h6
   have I6':=I6.pinned (stat fr6) (T.obj _ _ st6)
   have again:∀ {s7:Shared} {H7:Hp} {ys':List V} {w0 w1:Option V},Inv (Bm X x z scope s3.heap.objs.size s3 (upd H2 s2.heap.objs.size (.lst [])) fp) ([]++Ik fp s6.heap) (w0::w1::σ) H7 s7->(∃ m',m'<n/\W (i+1) m' ys' H7) ->
     ∃ m,m<n/\∃ i ys v0 v1 H',Inv (Bm X x z scope s3.heap.objs.size s3 (upd H2 s2.heap.objs.size (.lst [])) fp) [] (v0::v1::σ) H' s7/\tn i s7.heap/\(∀ b∈fp,H' b=none)/\W i m ys H':=fun {s7 H7 ys' w0 w1} I7 hw=>by
    obtain ⟨m',hm,w7⟩:=hw
    refine ⟨m',hm,i+1,ys',w0,w1,H7,I7.GQ,T.keep _ _ _ st6 fun b hb o e=>(I7.pin (b,o) (List.mem_append_right _ (List.mem_append_right _ (Du hb e)))).1,fun b hb=>?_,w7⟩
    obtain ⟨o,e,d⟩:=T.obj _ _ st6 b hb
    exact (I7.pin (b,o) (List.mem_append_right _ (List.mem_append_right _ (Du hb e)))).2.1
   refine Oj (hg _ _ _ _ _ s6 (v0::v1::σ) H6 xv u _ I6' r6 (step xv H6 y6 v0 v1)) fun _ s7 ⟨σ7,H7,I7,⟨w0,w1,e7⟩,q7⟩=>?_
   subst e7
   refine Oj (ht _ _ _ _ _ s7 (w0::w1::σ) H7 _ I7 q7) fun b s8 hq0=>?_
   obtain ⟨H8,I8,q8⟩:=hq0
   cases b with
   | false =>
    rw [if_neg Bool.false_ne_true] at q8 ⊢
    exact again I8 q8
   | true =>
    rw [if_pos rfl] at q8 ⊢
    refine Oj (he _ _ _ _ _ s8 (w0::w1::σ) H8 _ I8 q8) fun y s9 hq0=>?_
    obtain ⟨yv,H9,I9,r9,hD9,hz9,q9⟩:=hq0
    refine Oj (B_ (X:=Bm X x z scope s3.heap.objs.size s3 (upd H2 s2.heap.objs.size (.lst [])) fp) _ s9 (w0::w1::σ) H9 (.ref s2.heap.objs.size) [yv] (.ref s2.heap.objs.size) [y] (fun _ H'=>H'=upd H9 s2.heap.objs.size (.lst (ys++[yv]))) I9 rfl (.cons r9 .nil)
     ⟨_,ys,yv,rfl,rfl,hD9,hz9,rfl⟩) fun _ s10 ⟨_,H10,I10,_,e10⟩=>?_
    subst e10
    exact again I10 q9
 have key:=fun tk=>codeAny_compStart_list (R:=RR (.ref s2.heap.objs.size) s3.heap.objs.size) (loop tk) (T.self X.A 0 { s3 with heap:=h₁,toks:=tk } (fun it' s'=>codeAny (model X.prog X.w) X.A (.compLoop (.ListComp elt [⟨tg,iter,ifs,0⟩] scope pos) 0 it' (.ref s2.heap.objs.size) (compEnvC scope (Cq X.env scope.names []) s3.heap.objs.size X.env)) (RR (.ref s2.heap.objs.size) s3.heap.objs.size) s') _ st3 (loop tk))
 subst hs3
 exact key _
theorem Ra {tg:Expr} {pos:Pos} {iter elt:Expr} {ifs:List Expr} {wi:TI} {g:TG} {tt:TT} {te:TE} (hc:X.calm=true) (S:D_ X x z scope) (hi:PI X tg iter wi) (hg:∀ C s₀ H₀ fp,PG (Bm X x z scope C s₀ H₀ fp) tg g)
  (ht:∀ C s₀ H₀ fp,Ms (Bm X x z scope C s₀ H₀ fp) ifs tt) (he:∀ C s₀ H₀ fp,PE (Bm X x z scope C s₀ H₀ fp) elt te) (hs:∀ x,foldedSetIterable iter X.env x=pure x:=by intro _; rfl) :
  PE X (.ListComp elt [⟨tg,iter,ifs,0⟩] scope pos) (SQ wi g tt te):=by
 intro pins s σ H Q I h
 rw [eval_ListComp]
 refine wpAny_comprehension_free (use:=none) (cl:=Cq X.env scope.names []) rfl hs (G_ fun y hy hk=>I.ok.has y.1 (S.free y hy hk)) S.kind S.names (By (hi pins s σ H _ I h) fun v s1 h1=>By h1 fun itv s2 h2=>?_)
 obtain ⟨it,fp,tn,J,H2,e,I2,T,st2,f2,q⟩:=h2
 subst e
 refine M3 (RR:=fun acc C=>compPost (model X.prog X.w) X.A X.xe none (EP X pins σ Q) acc C) (Q:=Q) hc S hg ht he I2 T st2 f2 q ?_
 intro D C s' H' m hn hf hI hq
 exact ⟨m,hn,fun h' sb=>⟨.ref D,H',hI.sameBut hf sb,rfl,hq⟩⟩
end
end L2
namespace L2
open PySem PySem.Spec PySem.Calls PyProof.Rows
theorem Aj.tup {K:PySem.W.Frag} {H H':Hp} {a:Addr} {xs:List V} (e:Aj H H') (h:Hc K H a xs):Hc K H' a xs:=by
 rcases h with (h | ⟨o,h⟩) | h
 ·exact .inl (.inl (e _ _ h))
 ·exact .inl (.inr ⟨o,e _ _ h⟩)
 ·exact .inr h
noncomputable def TupAt (H:Hp) (zs:List V) (y:V):Prop:=∃ T,y=.ref T/\H T=some (.tup zs)
theorem TupAt.mono {H H':Hp} {zs:List V} {y:V} (s:Aj H H') (h:TupAt H zs y):TupAt H' zs y:=let ⟨T,e,q⟩:=h; ⟨T,e,s _ _ q⟩
theorem TupAt.upd {H:Hp} {zs ys ws:List V} {y:V} {D:Addr} (h:TupAt H zs y) (hD:H D=some (.lst ys)):TupAt (upd H D (.lst ws)) zs y:=by
 obtain ⟨T,e,q⟩:=h
 refine ⟨T,e,?_⟩
 rw [BP fun z=>by rw [z,hD] at q; cases q]
 exact q
theorem CV {α:Type} {H:Hp} {f:α->List V} {l:List α} {vs ys ws:List V} {D:Addr} (h:Paired (fun a y=>TupAt H (f a) y) l vs) (hD:H D=some (.lst ys)):Paired (fun a y=>TupAt (upd H D (.lst ws)) (f a) y) l vs:=Paired.Ek h fun _ _ q=>q.upd hD
theorem Ak {α:Type} {H H':Hp} {f:α->List V} {l:List α} {vs:List V} (s:Aj H H') (h:Paired (fun a y=>TupAt H (f a) y) l vs):Paired (fun a y=>TupAt H' (f a) y) l vs:=Paired.Ek h fun _ _ q=>q.mono s
noncomputable def M_ (x z:Str) (scope osc:Scope) (N:List Str):Bool :=
 (scope.kind == .function) && scope.names.all (fun y=>y.2 != .cell && (y.2 != .local || scope.names.lookup y.1 == some .local) && (y.2 != .free || osc.names.lookup y.1 == some .cell || osc.names.lookup y.1 == some .free)) && (scope.names.lookup x == some .local) && (scope.names.lookup z == some .local) &&
 decide ((x::z::N).Nodup) && N.all (fun y=>scope.names.lookup y != some .local)
theorem Jk {X:Cx} {x z:Str} {scope osc:Scope} {N:List Str} (hsc:X.env.scope=osc) (hN:X.N=N) (h:M_ x z scope osc N=true):D_ X x z scope:=by
 unfold M_ at h
 simp only [Bool.and_eq_true] at h
 obtain ⟨⟨⟨⟨⟨h1,h2⟩,h3⟩,h3'⟩,h4⟩,h5⟩:=h
 rw [List.all_eq_true] at h2 h5
 have kind:∀ y,X.env.kindOf y=osc.names.lookup y:=fun y=>by show X.env.scope.names.lookup y=_; rw [hsc]
 refine ⟨by simpa using h1,fun y hy=>?_,fun y hy hk=>?_,by simpa using h3,by simpa using h3',fun y hy hk=>?_,by rw [hN]; exact of_decide_eq_true h4,fun y hy=>?_⟩
 ·have:=h2 y hy
  simp only [Bool.and_eq_true,bne_iff_ne] at this
  exact this.1.1
 ·have:=h2 y hy
  simp only [Bool.and_eq_true] at this
  simpa [hk] using this.1.2
 ·have:=h2 y hy
  simp only [Bool.and_eq_true] at this
  rw [kind]
  simpa [hk] using this.2
 ·have:=h5 y (by rw [← hN]; exact hy)
  simpa using this
section
variable {X:Cx} {x z:Str} {scope:Scope}
theorem VM {px pz pos:Pos} {k:Nat} {C:Addr} {s₀:Shared} {H₀:Hp} {fp:List Addr} (hc:X.calm=true) (S:D_ X x z scope) :
  PG (Bm X x z scope C s₀ H₀ fp) (.Tuple [.Name x px,.Name z pz] k pos) (S9 X.K 2 (Hm (Cz 0) (Hm (Cz 1) Tp))):=by
 have l1:(Bm X x z scope C s₀ H₀ fp).env.scope.names.lookup x=some .local:=lookup_relabel_local S.loc
 have l2:(Bm X x z scope C s₀ H₀ fp).env.scope.names.lookup z=some .local:=lookup_relabel_local S.loz
 exact Fx (X:=Bm X x z scope C s₀ H₀ fp) (n:=2) hc (Bh (Bb (X:=Bm X x z scope C s₀ H₀ fp) (i:=0) S.nd rfl (.inl l1) (.inr l1)) (Bh (Bb (X:=Bm X x z scope C s₀ H₀ fp) (i:=1) S.nd rfl (.inl l2) (.inr l2)) EY))
theorem PN {px pz tpos:Pos} {k:Nat} {pos:Pos} {iter elt:Expr} {ifs:List Expr} {wi:TI} {tt:TT} {te:TE} (hc:X.calm=true) (S:D_ X x z scope) (hi:PI X (.Tuple [.Name x px,.Name z pz] k tpos) iter wi)
  (ht:∀ C s₀ H₀ fp,Ms (Bm X x z scope C s₀ H₀ fp) ifs tt) (he:∀ C s₀ H₀ fp,PE (Bm X x z scope C s₀ H₀ fp) elt te) (hs:∀ x,foldedSetIterable iter X.env x=pure x:=by intro _; rfl) :
  PE X (.ListComp elt [⟨.Tuple [.Name x px,.Name z pz] k tpos,iter,ifs,0⟩] scope pos) (SQ wi (S9 X.K 2 (Hm (Cz 0) (Hm (Cz 1) Tp))) tt te) :=
 Ra hc S hi (fun _ _ _ _=>VM hc S) ht he hs
end
section
variable {σ:St} {H1:Hp} {Q:VK} {tt:TT} {te:TE}
theorem Bx {K:PySem.W.Frag} {a:Addr} {xs:List V} (p:V->Bool) (f:V->V) (hl:CK K H1 a xs) (hz:xs.length<sizeLine)
  (ht:∀ x∈xs,∀ H,Aj H1 H->∀ R:Bool->Hp->Prop,(∀ H',Aj H H'->R (p x) H')->tt (some x::σ) H R)
  (he:∀ x∈xs,p x=true->∀ H,Aj H1 H->∀ R:VK,(∀ H',Aj H H'->R (f x) H')->te (some x::σ) H R)
  (hq:∀ D H,H1 D=none->Aj H1 H->H D=some (.lst ((xs.filter p).map f))->Q (.ref D) H):Gm (W3 K a) σ H1 Q tt te :=
 Hq p f hz (fun i H x hs hx=>⟨xs,x,hs.seq hl,hx⟩) (fun i H y H' hs _ hy=>⟨hy.1,hy.2 xs (hs.seq hl)⟩) (fun H hs=>⟨xs,hs.seq hl,Nat.le_refl _⟩) ht he hq
theorem Kc {J:It} {xs:List V} (p:V->Bool) (f:V->List V) (hz:xs.length<sizeLine)
  (hgo:∀ i H x,Aj H1 H->xs[i]? = some x->J.go i H) (hy:∀ i H y H',Aj H1 H->i<xs.length->J.yld i H y H'->H'=H/\xs[i]? = some y) (hstop:∀ H,Aj H1 H->J.stop xs.length H)
  (ht:∀ x∈xs,∀ H,Aj H1 H->∀ R:Bool->Hp->Prop,(∀ H',Aj H H'->R (p x) H')->tt (some x::σ) H R)
  (he:∀ x∈xs,p x=true->∀ H,Aj H1 H->∀ R:VK,(∀ y H',Aj H H'->TupAt H' (f x) y->R y H')->te (some x::σ) H R)
  (hq:∀ D H ys,H1 D=none->Aj H1 H->H D=some (.lst ys)->Paired (fun x y=>TupAt H (f x) y) (xs.filter p) ys->Q (.ref D) H):Gm J σ H1 Q tt te:=by
 intro D hD
 have s0:Aj H1 (upd H1 D (.lst [])):=fun b o e=>by rw [BP (BL e hD)]; exact e
 refine ⟨fun i m ys H=>m=xs.length - i/\i<=xs.length/\H D=some (.lst ys)/\Paired (fun x y=>TupAt H (f x) y) ((xs.take i).filter p) ys/\Aj H1 H,⟨xs.length,by simp,Nat.zero_le _,Ag,by simpa using Paired.nil,s0⟩,?_⟩
 rintro i m ys H ⟨rfl,hi,hd,hp,hs⟩
 by_cases hlt:i<xs.length
 ·obtain ⟨x,hx⟩:∃ x,xs[i]? = some x:=⟨xs[i],by simp [hlt]⟩
  refine .inr ⟨hgo i H x hs hx,fun y H3 hyl=>?_⟩
  obtain ⟨rfl,hy'⟩:=hy i H y H3 hs hlt hyl
  rw [hx] at hy'
  cases hy'
  have hm:x∈xs:=List.mem_of_getElem? hx
  have hlen:ys.length<sizeLine:=by
   rw [← hp.length]
   refine Nat.lt_of_le_of_lt (List.length_filter_le _ _) (Nat.lt_of_le_of_lt ?_ hz)
   rw [List.length_take]; omega
  refine ht x hm _ hs _ fun H4 s4=>?_
  by_cases hpx:p x=true
  ·rw [if_pos hpx]
   refine he x hm hpx H4 (hs.trans s4) _ fun y H5 s5 hφ=>?_
   refine ⟨s5 _ _ (s4 _ _ hd),hlen,xs.length - (i+1),by omega,rfl,hlt,Ag,?_,fun b o e=>?_⟩
   ·rw [take_succ_filter p xs i x hx,if_pos hpx]
    exact (CV (Ak (s4.trans s5) hp) (s5 _ _ (s4 _ _ hd))).snoc (hφ.upd (s5 _ _ (s4 _ _ hd)))
   ·rw [BP (BL e hD)]; exact s5 _ _ (s4 _ _ (hs _ _ e))
  ·rw [if_neg hpx]
   refine ⟨xs.length - (i+1),by omega,rfl,hlt,s4 _ _ hd,?_,hs.trans s4⟩
   rw [take_succ_filter p xs i x hx,if_neg hpx,List.append_nil]
   exact Ak s4 hp
 ·have e:i=xs.length:=by omega
  subst e
  rw [List.take_length] at hp
  exact .inl ⟨hstop H hs,hq D H ys hD hs hd hp⟩
theorem Jz {K:PySem.W.Frag} {a:Addr} {xs:List V} (p:V->Bool) (f:V->List V) (hl:CK K H1 a xs) (hz:xs.length<sizeLine)
  (ht:∀ x∈xs,∀ H,Aj H1 H->∀ R:Bool->Hp->Prop,(∀ H',Aj H H'->R (p x) H')->tt (some x::σ) H R)
  (he:∀ x∈xs,p x=true->∀ H,Aj H1 H->∀ R:VK,(∀ y H',Aj H H'->TupAt H' (f x) y->R y H')->te (some x::σ) H R)
  (hq:∀ D H ys,H1 D=none->Aj H1 H->H D=some (.lst ys)->Paired (fun x y=>TupAt H (f x) y) (xs.filter p) ys->Q (.ref D) H):Gm (W3 K a) σ H1 Q tt te :=
 Kc p f hz (fun i H x hs hx=>⟨xs,x,hs.seq hl,hx⟩) (fun i H y H' hs _ hy=>⟨hy.1,hy.2 xs (hs.seq hl)⟩) (fun H hs=>⟨xs,hs.seq hl,Nat.le_refl _⟩) ht he hq
theorem K7 {α β:Type} {F:α->β->Prop} (g:Nat->α):∀ {n:Nat} {l:List α} {ys:List β},Paired F l ys->l=(List.range n).map g->Paired (fun i y=>F (g i) y) (List.range n) ys:=by
 intro n
 have key:∀ (js:List Nat) (ys:List β),Paired F (js.map g) ys->Paired (fun i y=>F (g i) y) js ys:=by
  intro js
  induction js with
  | nil=>intro ys h; cases h; exact .nil
  | cons j js ih =>
   intro ys h
   cases h with
   | cons a b=>exact .cons a (ih _ b)
 intro l ys h e
 subst e
 exact key _ _ h
theorem Kr {n:Nat} (f:Nat->List V) (hz:n<sizeLine)
  (he:∀ i:Nat,i<n->∀ H,Aj H1 H->∀ R:VK,(∀ y H',Aj H H'->TupAt H' (f i) y->R y H')->te (some (.int (i:Int))::σ) H R)
  (hq:∀ D H ys,H1 D=none->Aj H1 H->H D=some (.lst ys)->Paired (fun i y=>TupAt H (f i) y) (List.range n) ys->Q (.ref D) H):Gm (WP 0 n) σ H1 Q Vj te:=by
 let g:V->Nat:=fun v=>match v with | .int i=>i.toNat | _=>0
 have hxs:∀ i:Nat,i<n->((List.range n).map fun (i:Nat)=>V.int (i:Int))[i]? = some (.int i):=fun i hi=>by simp [hi]
 refine Kc (xs:=(List.range n).map fun (i:Nat)=>V.int (i:Int)) (fun _=>true) (fun v=>f (g v)) (by simpa using hz) (fun i H x _ hx=>?_) (fun i H y H' _ hi hy=>?_) (fun H _=>?_) (fun x hx H hs R k=>k H (Aj.refl H)) (fun x hx _ H hs R k=>?_) (fun D H ys h1 h2 h3 h4=>?_)
 ·have:i<((List.range n).map fun (i:Nat)=>V.int (i:Int)).length:=(List.getElem?_eq_some_iff.mp hx).1
  show i<n
  simpa using this
 ·obtain ⟨e1,e2⟩:=hy
  have hi':i<n:=by simpa using hi
  refine ⟨e1,?_⟩
  rw [hxs i hi',e2,Int.zero_add]
 ·show n<=_
  simp
 ·obtain ⟨i,hi,rfl⟩:=List.mem_map.mp hx
  exact he i (List.mem_range.mp hi) H hs R k
 ·rw [List.filter_eq_self.mpr (fun _ _=>rfl)] at h4
  exact hq D H ys h1 h2 h3 (K7 (F:=fun x y=>TupAt H (f (g x)) y) (fun i=>V.int (i:Int)) h4 rfl)
theorem Sv {K:PySem.W.Frag} {a b:Addr} {xs ys:List V} (f:V->V->V) (hx:Hc K H1 a xs) (hy:Hc K H1 b ys) (hl:xs.length=ys.length) (hz:xs.length<sizeLine)
  (he:∀ (i:Nat) x y,xs[i]? = some x->ys[i]? = some y->∀ H,Aj H1 H->∀ R:VK,(∀ H',Aj H H'->R (f x y) H')->te (some x::some y::σ) H R)
  (hq:∀ D H,H1 D=none->Aj H1 H->H D=some (.lst (List.zipWith f xs ys))->Q (.ref D) H):JK (jJ K a b) σ H1 Q (S9 K 2 (Hm (Cz 0) (Hm (Cz 1) Tp))) Vj te:=by
 intro D hD
 have s0:Aj H1 (upd H1 D (.lst [])):=fun b o e=>by rw [BP (BL e hD)]; exact e
 refine ⟨fun i m zs H=>m=xs.length - i/\i<=xs.length/\zs=(List.zipWith f xs ys).take i/\H D=some (.lst zs)/\Aj H1 H,⟨xs.length,by simp,Nat.zero_le _,by simp,Ag,s0⟩,?_⟩
 rintro i m zs H ⟨rfl,hi,rfl,hd,hs⟩
 have hzl:(List.zipWith f xs ys).length=xs.length:=by rw [List.length_zipWith]; omega
 by_cases hlt:i<xs.length
 ·have ex:xs[i]? = some xs[i]:=List.getElem?_eq_getElem hlt
  have ey:ys[i]? = some ys[i]:=List.getElem?_eq_getElem (hl ▸ hlt)
  refine .inr ⟨⟨xs,ys,_,_,hs.tup hx,hs.tup hy,ex,ey⟩,fun v H3 hv v0 v1=>?_⟩
  obtain ⟨T,hT,rfl,hv⟩:=hv
  obtain ⟨x,y,qx,qy,rfl⟩:=hv xs ys (hs.tup hx) (hs.tup hy)
  have s3:Aj H (upd H T (.tup [x,y])):=fun b o e=>by rw [BP (BL e hT)]; exact e
  refine ⟨T,[x,y],rfl,.inl (.inl Ag),rfl,x,[y],rfl,y,[],rfl,rfl,⟨_,_,rfl⟩,?_⟩
  unfold Vj
  dsimp only
  rw [if_pos rfl]
  refine he i x y qx qy _ (hs.trans s3) _ fun H5 s5=>?_
  refine ⟨s5 _ _ (s3 _ _ hd),?_,xs.length - (i+1),by omega,rfl,hlt,?_,Ag,fun b o e=>?_⟩
  ·rw [List.length_take,hzl]
   omega
  ·rw [List.take_add_one,List.getElem?_zipWith,qx,qy]
   rfl
  ·rw [BP (BL e hD)]
   exact s5 _ _ (s3 _ _ (hs _ _ e))
 ·have e:i=xs.length:=by omega
  subst e
  rw [← hzl,List.take_length] at hd
  exact .inl ⟨⟨xs,hs.tup hx,Nat.le_refl _⟩,hq D H hD hs hd⟩
theorem Qx {K:PySem.W.Frag} {a:Addr} {xs:List V} (p:Nat->V->Bool) (f:Nat->V->V) (hx:CK K H1 a xs) (hz:xs.length<sizeLine)
  (ht:∀ (i:Nat) x,xs[i]? = some x->∀ H,Aj H1 H->∀ R:Bool->Hp->Prop,(∀ H',Aj H H'->R (p i x) H')->tt (some (.int (i:Int))::some x::σ) H R)
  (he:∀ (i:Nat) x,xs[i]? = some x->p i x=true->∀ H,Aj H1 H->∀ R:VK,(∀ H',Aj H H'->R (f i x) H')->te (some (.int (i:Int))::some x::σ) H R)
  (hq:∀ D H,H1 D=none->Aj H1 H->H D=some (.lst ((xs.zipIdx.filter fun q=>p q.2 q.1).map fun q=>f q.2 q.1))->Q (.ref D) H):JK (Y7 K a) σ H1 Q (S9 K 2 (Hm (Cz 0) (Hm (Cz 1) Tp))) tt te:=by
 intro D hD
 have s0:Aj H1 (upd H1 D (.lst [])):=fun b o e=>by rw [BP (BL e hD)]; exact e
 refine ⟨fun i m zs H=>m=xs.length - i/\i<=xs.length/\zs=(((xs.zipIdx.take i).filter fun q=>p q.2 q.1).map fun q=>f q.2 q.1)/\H D=some (.lst zs)/\Aj H1 H,⟨xs.length,by simp,Nat.zero_le _,by simp,Ag,s0⟩,?_⟩
 rintro i m zs H ⟨rfl,hi,rfl,hd,hs⟩
 by_cases hlt:i<xs.length
 ·have ex:xs[i]? = some xs[i]:=List.getElem?_eq_getElem hlt
  refine .inr ⟨⟨xs,_,hs.seq hx,ex⟩,fun v H3 hv v0 v1=>?_⟩
  obtain ⟨T,hT,rfl,hv⟩:=hv
  obtain ⟨x,qx,rfl⟩:=hv xs (hs.seq hx)
  have s3:Aj H (upd H T (.tup [.int (i:Int),x])):=fun b o e=>by rw [BP (BL e hT)]; exact e
  have ez:xs.zipIdx[i]? = some (x,i):=by rw [List.getElem?_zipIdx,qx]; simp
  have hlen:(((xs.zipIdx.take i).filter fun q=>p q.2 q.1).map fun q=>f q.2 q.1).length<sizeLine:=by
   rw [List.length_map]
   refine Nat.lt_of_le_of_lt (List.length_filter_le _ _) (Nat.lt_of_le_of_lt ?_ hz)
   rw [List.length_take,List.length_zipIdx]; omega
  refine ⟨T,[.int (i:Int),x],rfl,.inl (.inl Ag),rfl,_,[x],rfl,x,[],rfl,rfl,⟨_,_,rfl⟩,?_⟩
  refine ht i x qx _ (hs.trans s3) _ fun H4 s4=>?_
  by_cases hp:p i x=true
  ·rw [if_pos hp]
   refine he i x qx hp _ (hs.trans (s3.trans s4)) _ fun H5 s5=>?_
   refine ⟨s5 _ _ (s4 _ _ (s3 _ _ hd)),hlen,xs.length - (i+1),by omega,rfl,hlt,?_,Ag,fun b o e=>?_⟩
   ·rw [take_succ_filter (fun q:V × Nat=>p q.2 q.1) xs.zipIdx i (x,i) ez,if_pos hp,List.map_append]
    rfl
   ·rw [BP (BL e hD)]
    exact s5 _ _ (s4 _ _ (s3 _ _ (hs _ _ e)))
  ·rw [if_neg hp]
   refine ⟨xs.length - (i+1),by omega,rfl,hlt,?_,s4 _ _ (s3 _ _ hd),hs.trans (s3.trans s4)⟩
   rw [take_succ_filter (fun q:V × Nat=>p q.2 q.1) xs.zipIdx i (x,i) ez,if_neg hp,List.append_nil]
 ·have e:i=xs.length:=by omega
  subst e
  rw [List.take_of_length_le (by simp)] at hd
  exact .inl ⟨⟨xs,hs.seq hx,Nat.le_refl _⟩,hq D H hD hs hd⟩
end
theorem J2 {K:PySem.W.Frag} {a:Addr} {xs:List V} {g:TG} {tb:TS} {D:Ends} {σ:St} {H:Hp} (Pv:Nat->St->Hp->Prop) (h0:Pv 0 σ H) (hl:∀ i σ H,i<=xs.length->Pv i σ H->CK K H a xs)
  (hb:∀ (i:Nat) x σ H T,xs[i]? = some x->Pv i σ H->H T=none->g (.ref T) σ (upd H T (.tup [.int (i:Int),x])) fun σ' H'=>tb { D with nx:=Pv (i+1),ct:=Pv (i+1),bk:=D.nx } σ' H')
  (hn:∀ σ H,Pv xs.length σ H->D.nx σ H):∃ W:Nat->Nat->St->Hp->Prop,(∃ m,W 0 m σ H)/\∀ i m σ H,W i m σ H ->
   ((Y7 K a).stop i H/\D.nx σ H) \/ ((Y7 K a).go i H/\∃ N:St->Hp->Prop,(∀ σ H,N σ H->∃ m',m'<m/\W (i+1) m' σ H)/\∀ x H',(Y7 K a).yld i H x H'->g x σ H' fun σ' H''=>tb { D with nx:=N,ct:=N,bk:=D.nx } σ' H''):=by
 refine ⟨fun i m σ H=>m=xs.length - i/\i<=xs.length/\Pv i σ H,⟨_,rfl,Nat.zero_le _,h0⟩,?_⟩
 rintro i m σ H ⟨rfl,hi,hp⟩
 by_cases hlt:i<xs.length
 ·refine .inr ⟨⟨xs,_,hl i σ H hi hp,List.getElem?_eq_getElem hlt⟩,Pv (i+1),fun σ' H' h=>⟨xs.length - (i+1),by omega,rfl,hlt,h⟩,fun v H' hv=>?_⟩
  obtain ⟨T,hT,rfl,hv⟩:=hv
  obtain ⟨x,qx,rfl⟩:=hv xs (hl i σ H hi hp)
  exact hb i x σ H T qx hp hT
 ·have e:i=xs.length:=by omega
  subst e
  exact .inl ⟨⟨xs,hl _ σ H hi hp,Nat.le_refl _⟩,hn σ H hp⟩
end L2
namespace L2
open PySem PySem.Spec PySem.Calls PyProof.Rows
section
variable {prog:Program} {w:World} {A:Around} {E:Value->Shared->Prop} {s:Shared} {K:PySem.W.Frag} {x C:Addr} {ox:Obj} {od:Option Obj} {name:Str} {tk:Tok} {R:Result->Shared->Prop}
end
end L2
namespace L2
open PySem PySem.Spec PySem.Calls PyProof.Rows
section
variable {prog:Program} {w:World} {A:Around} {E:Value->Shared->Prop} {K:PySem.W.Frag} {C:Addr} {h:Heap} {g:Array GenState} {d:Drawn} {t:Nat} {os:OsState}
end
end L2
namespace L2
open PySem PySem.Spec PySem.Calls PyProof.Rows
noncomputable def cM (x C:Addr) (od:Option Addr):HO:=.ext fun h=>∃ (d:Data) (sl:Array (Option Value)),h.get? x=some ⟨.ref C,od,d,sl⟩/\PySem.W.notCls ⟨.ref C,od,d,sl⟩=true
noncomputable def jm (dx:Addr) (fs:List (Str × V)):HO:=.ext fun h=>∃ mA,h.Ns1 dx mA/\∀ f,GK (fs.lookup f) (mA f)
section
variable {P:Program} {w:World} {H H':Hp} {h:Heap} {x C dx:Addr} {od:Option Addr} {fs:List (Str × V)}
inductive Wa (H:Hp) (x C:Addr):List (Str × V)->Prop where
 | bare (e:H x=some (cM x C none)):Wa H x C []
 | full {dx:Addr} {fs:List (Str × V)} (e:H x=some (cM x C (some dx))) (d:H dx=some (jm dx fs)):Wa H x C fs
end
section
variable {P:Program} {w:World} {X:Cx} {pins:List (Addr × Obj)} {σ:St} {H:Hp} {s:Shared} {h':Heap} {a:Addr} {o:HO}
end
section
variable {X:Cx} {C:Addr} {x:Str} {e:Expr} {es:List Expr} {t:TA} {p pos:Pos}
end
section
variable {X:Cx} {e:Expr} {f:Str} {pos:Pos} {ta:TE}
end
section
variable {prog:Program} {w:World} {A:Around} {E:Value->Shared->Prop} {s:Shared} {K:PySem.W.Frag} {x C:Addr} {name:Str} {v:Value} {R:Result->Shared->Prop} {d:Data} {sl:Array (Option Value)}
end
section
variable {X:Cx} {pins:List (Addr × Obj)} {σ:St} {H:Hp} {s:Shared} {h':Heap} {x C dx:Addr} {f:Str} {y:V} {u:Value}
end
section
variable {X:Cx} {o value:Expr} {f:Str} {pos pos':Pos} {ta tv:TE}
end
section
variable {X:Cx} {C f:Addr} {fd:FuncData} {ps:List Str} {sp:Sp} {k:Nat} {x:Str} {e:Expr} {es:List Expr} {t:TA} {p pos:Pos}
end
noncomputable def Uu:List V->List V->Bool
 | [],[]=>true
 | x::xs,y::ys=>Pn x y && Uu xs ys
 | _,_=>false
theorem Kq:∀ (xs ys:List V),xs.length=ys.length->((List.range xs.length).all fun j=>Pn (xs.getD j .non) (ys.getD j .non))=Uu xs ys
 | [],[],_=>rfl
 | x::xs,y::ys,h=>by
  have ih:=Kq xs ys (by simpa using h)
  rw [List.length_cons,List.range_succ_eq_map,List.all_cons,List.all_map]
  show (Pn x y && _)=(Pn x y && Uu xs ys)
  rw [← ih]
  rfl
 | [],_::_,h=>by simp at h
 | _::_,[],h=>by simp at h
theorem PK:∀ (xs ys:List V),xs.length ≠ ys.length->Uu xs ys=false
 | [],[],h=>absurd rfl h
 | x::xs,y::ys,h=>by
  show (Pn x y && Uu xs ys)=false
  rw [PK xs ys (fun e=>h (by simp [e])),Bool.and_false]
 | [],_::_,_=>rfl
 | _::_,[],_=>rfl
section
variable {X:Cx}
theorem P_ {xs:List V} {j:Nat} (h:xs.all Ew=true) (hj:j<xs.length):Ew (xs.getD j .non)=true:=by
 have e:xs.getD j .non=xs[j]:=by simp [hj]
 rw [e]
 exact List.all_eq_true.mp h _ (List.getElem_mem hj)
theorem R7 {xs:List V} {us:List Value} {j:Nat} (r:Vals xs us) (hj:j<us.length):RelV (xs.getD j .non) us[j]:=by
 have hl:=r.length
 have hx:xs[j]? = some xs[j]:=by simp [hl,hj]
 obtain ⟨u,hu,ru⟩:=r.get hx
 rw [List.getElem?_eq_getElem hj] at hu
 cases hu
 have e:xs.getD j .non=xs[j]:=by simp [hl,hj]
 rw [e]
 exact ru
noncomputable def jU (K:PySem.W.Frag) (neg:Bool):R2:=fun x y H Q=>∃ p q xs ys,x=.ref p/\y=.ref q/\CK K H p xs/\CK K H q ys/\xs.all Ew=true/\ys.all Ew=true/\Q (.bl (if neg then !Uu xs ys else Uu xs ys)) H
theorem Nm (hu:X.A.units<cLine):GF X (compareOp .NotEq) (jU X.K true):=by
 intro pins s σ H x y v u Q I rx ry h
 obtain ⟨p,q,xs,ys,rfl,rfl,hp,hq,fx,fy,k⟩:=h
 cases rx
 cases ry
 obtain ⟨its,r,pl,hz⟩:=I.list hp
 obtain ⟨its2,r2,pl2,hz2⟩:=I.list hq
 have l1:=r.length
 have l2:=r2.length
 by_cases hl:xs.length=ys.length
 ·refine SeqAt.RcNeAt.lists (e:=fun j=>Pn (xs.getD j .non) (ys.getD j .non)) pl.isList pl2.isList (by simp; omega) hu (fun j h1 h2=>?_) _ _ _ _ ⟨.bl (!Uu xs ys),H,I,?_,k⟩
  ·have h1':j<its.length:=by simpa using h1
   have h2':j<its2.length:=by simpa using h2
   simp only [List.getElem_toArray]
   exact RM (R7 r h1') (R7 r2 h2') (P_ fx (by omega)) (P_ fy (by omega))
  ·rw [List.size_toArray,← l1,Kq xs ys hl]
   exact rfl
 ·refine SeqAt.RcNeAt.lists_lengths pl.isList pl2.isList (by simp; omega) hu _ _ _ _ ⟨.bl (!Uu xs ys),H,I,?_,k⟩
  rw [PK xs ys hl]
  exact rfl
end
end L2
namespace Wd
noncomputable def mk (l:List Nat):Nat:=l.foldl (fun s n=>s ||| 2 ^ n) 0
theorem Qm (l:List Nat):∀ (s i:Nat),(l.foldl (fun s n=>s ||| 2 ^ n) s).testBit i=(s.testBit i || decide (i∈l)):=by
 induction l with
 | nil=>intro s i; simp
 | cons n l ih =>
  intro s i
  rw [List.foldl_cons,ih,Nat.testBit_or,Nat.testBit_two_pow]
  by_cases h:n=i
  ·subst h; simp
  ·have h':¬ i=n:=fun e=>h e.symm
   simp [h,h']
theorem Ig (l:List Nat) (i:Nat):(mk l).testBit i=decide (i∈l):=by
 unfold mk; rw [Qm]; simp
noncomputable def len (n:Nat):Nat:=if n=0 then 0 else n.log2+1
theorem TV {n i:Nat} (h:n.testBit i=true):i<len n:=by
 unfold len
 have h0:n ≠ 0:=by intro e; subst e; simp at h
 rw [if_neg h0]
 have h1:2 ^ i<=n:=Nat.ge_two_pow_of_testBit h
 have h2:i<=n.log2:=(Nat.le_log2 h0).mpr h1
 omega
noncomputable def mem (n:Nat):List Nat:=(List.range (len n)).filter n.testBit
theorem mem_iff {n i:Nat}:i∈mem n ↔ n.testBit i=true:=by
 unfold mem
 rw [List.mem_filter,List.mem_range]
 exact ⟨fun h=>h.2,fun h=>⟨TV h,h⟩⟩
theorem Le {n k:Nat} (h:n<2 ^ k):len n<=k:=by
 unfold len
 split
 ·omega
 ·rename_i h0
  have:n.log2<k:=(Nat.log2_lt h0).mpr h
  omega
noncomputable def mv (n:Nat) (k:Int) (c:Nat):Nat:=(if 0<k then n * 2 ^ k.toNat else n / 2 ^ (-k).toNat) % 2 ^ c
theorem Jq (n:Nat) (k:Int) (c i:Nat):(mv n k c).testBit i=(decide (i<c) && (decide (0<=(i:Int) - k) && n.testBit ((i:Int) - k).toNat)):=by
 unfold mv
 rw [Nat.testBit_mod_two_pow]
 congr 1
 split
 ·rename_i h
  rw [Nat.testBit_mul_two_pow]
  by_cases h1:k.toNat<=i
  ·have e:((i:Int) - k).toNat=i - k.toNat:=by omega
   have e2:(0:Int)<=i - k:=by omega
   rw [decide_eq_true e2,e]; simp [h1]
  ·have e2:¬ (0:Int)<=i - k:=by omega
   rw [decide_eq_false e2]; simp [h1]
 ·rename_i h
  rw [Nat.testBit_div_two_pow]
  have e:((i:Int) - k).toNat=i+(-k).toNat:=by omega
  have e2:(0:Int)<=i - k:=by omega
  rw [decide_eq_true e2,e]; simp
noncomputable def stay (l:List Nat) (k:Int) (c:Nat):List Nat:=l.filter fun n=>decide (0<=(n:Int)+k) && decide ((n:Int)+k<c)
theorem T_ {l:List Nat} (hb:∀ n∈l,n<1200):mk l<2 ^ 1200:=by
 refine Nat.lt_pow_two_of_testBit _ fun i hi=>?_
 rw [Ig]
 exact decide_eq_false fun h=>absurd (hb i h) (by omega)
theorem Uj (l:List Nat) (n:Nat):mk (l++[n])=mk l ||| 2 ^ n:=by
 unfold mk; rw [List.foldl_append]; rfl
end Wd
namespace L2
open PySem PySem.Spec PySem.Calls PyProof.Rows
theorem Px:∀ {xs:List V} {us:List Value},xs.length=us.length->(∀ (j:Nat) x u,xs[j]? = some x->us[j]? = some u->RelV x u)->Vals xs us
 | [],[],_,_=>.nil
 | [],_::_,h,_=>by simp at h
 | _::_,[],h,_=>by simp at h
 | x::xs,u::us,h,f=>.cons (f 0 x u rfl rfl) (Px (by simpa using h) fun j y v hy hv=>f (j+1) y v (by simpa using hy) (by simpa using hv))
noncomputable def R5 (K:PySem.W.Frag) (a b:Addr):It :=
 ⟨fun i H=>∃ xs ys x y,CK K H a xs/\CK K H b ys/\xs[i]? = some x/\ys[i]? = some y,fun i H v H'=>∃ T,H T=none/\v=.ref T/\∀ xs ys,CK K H a xs->CK K H b ys->∃ x y,xs[i]? = some x/\ys[i]? = some y/\H'=upd H T (.tup [x,y]),
  fun i H=>∃ xs ys,CK K H a xs/\CK K H b ys/\(xs.length<=i \/ ys.length<=i)⟩
theorem Qs {P:Program} {w:World} {K:PySem.W.Frag} {es:List Expr} {k1:Nat} {pos:Pos} (a b n:Nat) (ha:a<n) (hb:b<n) :
  Turn P w K (.Tuple es k1 pos) (R5 K a b) [n,n+1,n+2,n+3,n+4] (n+4) (fun i h=>IsZip h (n+4) (n+2) (n+3) .none/\IsPair h (n+2) (.ref n) (.ref (n+1))/\(∃ x y,IsPair h (n+3) x y)/\h.IsListIter n a i/\h.IsListIter (n+1) b i) where
 mem:=by simp
 obj:=fun i h st c hc=>by
  obtain ⟨hz,hI,⟨x,y,hO⟩,⟨o1,e1,_,d1⟩,⟨o2,e2,_,d2⟩⟩:=st
  refine Q7 (P:=fun c=>∃ o,h.get? c=some o/\∀ v,o.data ≠ .cell v) ⟨_,e1,fun v z=>?_⟩ ⟨_,e2,fun v z=>?_⟩ ⟨_,hI,fun v z=>?_⟩ ⟨_,hO,fun v z=>?_⟩ ⟨_,hz,fun v z=>?_⟩ hc
  ·rw [d1] at z; cases z
  ·rw [d2] at z; cases z
  ·have z':Data.seq _ _=Data.cell v:=z
   cases z'
  ·have z':Data.seq _ _=Data.cell v:=z
   cases z'
  ·have z':Data.fields _=Data.cell v:=z
   cases z'
 keep:=fun i h h' st k=>by
  obtain ⟨hz,hI,⟨x,y,hO⟩,j1,j2⟩:=st
  exact ⟨k _ (by simp) _ hz,k _ (by simp) _ hI,⟨x,y,k _ (by simp) _ hO⟩,j1.at fun o q=>k _ (by simp) o q,j2.at fun o q=>k _ (by simp) o q⟩
 item:=by
  intro X hP hw hK hc i pins s σ H E I hf st hg
  subst hP hw hK
  obtain ⟨xs,ys,x,y,q1,q2,hx,hy⟩:=hg
  obtain ⟨it1,r1,p1,_⟩:=I.list q1
  obtain ⟨it2,r2,p2,_⟩:=I.list q2
  obtain ⟨u,hu,ru⟩:=r1.get hx
  obtain ⟨v,hv,rv⟩:=r2.get hy
  obtain ⟨hz,hI,⟨x0,y0,hO⟩,j1,j2⟩:=st
  have D:=Lh ha hb
  have sz:n+4<s.heap.objs.size:=Heap.lt_size hz
  refine wpAny_pyNext_zip_item D hz hI hO j1 j2 p1.isList p2.isList (x:=u) (y:=v) (by simpa using hu) (by simpa using hv) fun h1 n1 n2 n3 n4 n5 n6 n7=>?_
  refine ⟨_,rfl,wpAny_letOwnedTupleGo_zip (s:={ s with heap:=h1 }) n1 fun h2 m1 m2=>?_⟩
  have fr:H s.heap.objs.size=none:=I.hok.fresh (Nat.le_refl _)
  have nw:CJ X.prog X.w (upd H s.heap.objs.size (.tup [x,y])) h2 s.heap.objs.size (.tup [x,y]) :=
   ⟨by show 2<=sizeLine; decide,[u,v],.cons ru (.cons rv .nil),_,m2.extBut _ _ (Nat.ne_of_gt sz) n5,rfl,_,rfl⟩
  have hI2:IsPair h1 (n+2) (.ref n) (.ref (n+1)):=n7 _ _ D.TIz D.TITO D.TIi1 D.TIi2 hI
  refine ⟨.ref s.heap.objs.size,_,I.Jp (t':=s.toks) (ch:=[n,n+1,n+2,n+3,n+4]) hf (fun c o hc q=>?_) (Nat.le_refl _) nw,rfl,⟨_,fr,rfl,fun xs' ys' h1 h2=>⟨x,y,by rw [I.Hr h1 q1]; exact hx,by rw [I.Hr h2 q2]; exact hy,rfl⟩⟩,
   ⟨m1,m2.extBut _ _ D.TIz hI2,⟨u,v,m2.extBut _ _ D.TOz n2⟩,n3.at fun o q=>m2.extBut _ _ D.i1z q,n4.at fun o q=>m2.extBut _ _ D.i2z q⟩,fun c hc=>?_⟩
  ·have z:∀ d,d∈[n,n+1,n+2,n+3,n+4]->c ≠ d:=fun d hd q=>hc (q ▸ hd)
   exact m2.extBut _ _ (z _ (by simp)) (n7 c o (z _ (by simp)) (z _ (by simp)) (z _ (by simp)) (z _ (by simp)) q)
  ·rw [BP ?_]
   ·exact (hf c hc).1
   ·have lt:c<=n+4:=Q7 (P:=fun c=>c<=n+4) (by omega) (by omega) (by omega) (by omega) (Nat.le_refl _) hc
    exact Nat.ne_of_lt (Nat.lt_of_le_of_lt lt sz)
 done:=by
  intro X hP hw hK hc i pins s σ H E I hf st hg
  subst hP hw hK
  obtain ⟨xs,ys,q1,q2,hx⟩:=hg
  obtain ⟨it1,r1,p1,_⟩:=I.list q1
  obtain ⟨it2,r2,p2,_⟩:=I.list q2
  obtain ⟨hz,hI,⟨x0,y0,hO⟩,j1,j2⟩:=st
  have D:=Lh ha hb
  have l1:=r1.length
  have l2:=r2.length
  refine wpAny_pyNext_zip_end (I.ok.hd hc) D hz hI hO j1 j2 p1.isList p2.isList (by rcases hx with h | h; exact .inl (by simp; omega); exact .inr (by simp; omega)) fun h1 k1=>?_
  refine ⟨rfl,I.K5 (t':=s.toks) (ch:=[n,n+1,n+2,n+3,n+4]) hf fun c o hc q=>?_⟩
  have z:∀ d,d∈[n,n+1,n+2,n+3,n+4]->c ≠ d:=fun d hd q=>hc (q ▸ hd)
  exact k1 c o (z _ (by simp)) (z _ (by simp)) (z _ (by simp)) (z _ (by simp)) q
 self:=fun _ _ _ _ _ st h=>wpAny_pyIter_zip st.1 h
section
variable {X:Cx} {es:List Expr} {k1:Nat} {tpos:Pos}
noncomputable def bw (K:PySem.W.Frag) (ta:TA):TI:=fun σ H R=>ta σ H fun vs H1=>∃ a b,vs=[.ref a,.ref b]/\(∃ xs,CK K H1 a xs)/\(∃ ys,CK K H1 b ys)/\R (R5 K a b) H1
theorem U0 {x y:Expr} {ta:TA} {p pos:Pos} (hg:Gl X "zip") (hm:X.mg "zip" = none) (ha:PA X [x,y] ta) (hs:starEach [x,y] X.env=[(false,eval x X.env),(false,eval y X.env)]:=by rfl) (hs2:starEach [y] X.env=[(false,eval y X.env)]:=by rfl) :
  PI X (.Tuple es k1 tpos) (.Call (.Name "zip" p) [x,y] [] pos) (bw X.K ta):=by
 intro pins s σ H R I h
 refine Call_ (GR I hg hm boot_zip (PyProof.Rows.callWith_type1 (By (ha pos pins s σ H _ I h) fun us s1 ⟨vs,H1,I1,r1,q1⟩=>?_) (by rw [hs,hs2]) (by rw [hs2]; rfl)))
 obtain ⟨a,b,e,⟨xs,q1⟩,⟨ys,q2⟩,q⟩:=q1
 subst e
 obtain ⟨u,v,rfl,ru,rv⟩:=Vals.two r1
 cases ru
 cases rv
 obtain ⟨it1,r1,p1,_⟩:=I1.list q1
 obtain ⟨it2,r2,p2,_⟩:=I1.list q2
 have l1:a<s1.heap.objs.size:=by obtain ⟨_,e,_⟩:=p1.isList; exact Heap.lt_size e
 have l2:b<s1.heap.objs.size:=by obtain ⟨_,e,_⟩:=p2.isList; exact Heap.lt_size e
 refine call_zip_2 p1.isList p2.isList fun h1 n1 n2 n3 n4 n5 n6 n7=>?_
 refine wpAny_pyIter_zip (s:={ s1 with heap:=h1 }) n1 ?_
 refine ⟨_,[s1.heap.objs.size,s1.heap.objs.size+1,s1.heap.objs.size+2,s1.heap.objs.size+3,s1.heap.objs.size+4],_,_,H1,rfl,I1.kept (t':=s1.toks) n7,Qs a b s1.heap.objs.size l1 l2,⟨n1,n2,⟨_,_,n3⟩,n4,n5⟩,fun c hc=>?_,q⟩
 have lt:s1.heap.objs.size<=c:=Q7 (P:=fun c=>s1.heap.objs.size<=c) (by omega) (by omega) (by omega) (by omega) (by omega) hc
 exact I1.J9 lt (I1.hok.fresh lt)
theorem S5 {K:PySem.W.Frag} {a b:Addr} {xs ys:List V} {g:TG} {tb:TS} {D:Ends} {σ:St} {H:Hp} (Pv:Nat->St->Hp->Prop) (h0:Pv 0 σ H) (hl:∀ i σ H,i<=xs.length->Pv i σ H->CK K H a xs/\CK K H b ys)
  (hb:∀ (i:Nat) x y σ H T,xs[i]? = some x->ys[i]? = some y->Pv i σ H->H T=none->g (.ref T) σ (upd H T (.tup [x,y])) fun σ' H'=>tb { D with nx:=Pv (i+1),ct:=Pv (i+1),bk:=D.nx } σ' H')
  (hn:∀ i σ H,Pv i σ H->D.nx σ H):∃ W:Nat->Nat->St->Hp->Prop,(∃ m,W 0 m σ H)/\∀ i m σ H,W i m σ H ->
   ((R5 K a b).stop i H/\D.nx σ H) \/ ((R5 K a b).go i H/\∃ N:St->Hp->Prop,(∀ σ H,N σ H->∃ m',m'<m/\W (i+1) m' σ H)/\∀ x H',(R5 K a b).yld i H x H'->g x σ H' fun σ' H''=>tb { D with nx:=N,ct:=N,bk:=D.nx } σ' H''):=by
 refine ⟨fun i m σ H=>m=xs.length - i/\i<=xs.length/\Pv i σ H,⟨_,rfl,Nat.zero_le _,h0⟩,?_⟩
 rintro i m σ H ⟨rfl,hi,hp⟩
 obtain ⟨q1,q2⟩:=hl i σ H hi hp
 by_cases hlt:i<xs.length/\i<ys.length
 ·refine .inr ⟨⟨xs,ys,_,_,q1,q2,List.getElem?_eq_getElem hlt.1,List.getElem?_eq_getElem hlt.2⟩,Pv (i+1),fun σ' H' h=>⟨xs.length - (i+1),by omega,rfl,hlt.1,h⟩,fun v H' hv=>?_⟩
  obtain ⟨T,hT,rfl,hv⟩:=hv
  obtain ⟨x,y,qx,qy,rfl⟩:=hv xs ys q1 q2
  exact hb i x y σ H T qx qy hp hT
 ·exact .inl ⟨⟨xs,ys,q1,q2,by omega⟩,hn i σ H hp⟩
theorem J0 (hc:X.calm=true):Ey X (.type "list") (fun xs H Q=>∃ (a:Addr) (kvs:List (Key × V)) (js:List Int),xs=[V.ref a]/\H a=some (.dK kvs)/\kvs.map (·.1)=js.map Sum.inl/\∀ l,H l=none->Q (.ref l) (upd H l (.lst (js.map V.int)))):=by
 intro pins s σ H xs us Q I r h
 obtain ⟨a,kvs,js,rfl,ha,hj,q⟩:=h
 obtain ⟨u,rfl,ru⟩:=vals1 r
 cases ru
 obtain ⟨hz,lo,vs,rel,o,es,ep,e1,e2,e3,e4,e5,e6⟩:=I.hok a _ ha
 have hl:kvs.length=vs.length:=Paired.length rel
 have hda:s.heap.DictAt (CW X.prog X.w) a vs ep:=⟨o,es,e1,e2,e3,e4,e5,e6⟩
 refine PySem.W.kdl_call (PySem.W.kdl_dict (knd:=CW X.prog X.w) (kvs:=vs) (ep:=ep) lo) (I.ok.hd hc) hda (by omega) ?_
 intro h' tk acc' c' hk hD hacc
 have hjl:js.length=vs.length:=by
  have:=congrArg List.length hj
  rw [List.length_map,List.length_map] at this
  omega
 have hv:Vals (js.map V.int) acc'.toList:=by
  refine Px (by have h1:acc'.toList.length=acc'.size:=Array.length_toList; have h2:=hacc.1; rw [List.length_map]; omega) fun j x u hx hu=>?_
  rw [Array.getElem?_toList] at hu
  obtain ⟨k,y,hk1,hk2⟩:=hacc.2 j u hu
  rw [List.getElem?_map] at hx
  obtain ⟨i,hi,rfl⟩:=Option.map_eq_some_iff.mp hx
  have e1:(kvs.map (·.1))[j]? = some (Sum.inl i):=by rw [hj,List.getElem?_map,hi]; rfl
  rw [List.getElem?_map] at e1
  obtain ⟨kv,hkv,ekv⟩:=Option.map_eq_some_iff.mp e1
  have rel':∀ {l:List (Key × V)} {m:List (Key × Value)},KV l m->∀ {j:Nat} {p q},l[j]? = some p->m[j]? = some q->p.1=q.1:=by
   intro l m h
   unfold KV at h
   induction h with
   | nil=>intro j p q hp; simp at hp
   | cons a b ih =>
    intro j p q hp hq
    cases j with
    | zero =>
     simp at hp hq
     subst hp hq
     exact a.1
    | succ j=>exact ih (by simpa using hp) (by simpa using hq)
  have e2:=rel' rel hkv hk1
  rw [ekv] at e2
  have e3:k=Sum.inl i:=e2.symm
  subst e3
  rcases CQ (show JX (Sum.inl i) u=true from hk2) with ⟨i',t,e,rfl⟩ | ⟨x,t,e,_⟩
  ·cases e
   exact ⟨t,rfl⟩
  ·cases e
 refine ⟨.ref s.heap.objs.size,_,I.laid (t':=tk) (o:=.lst (js.map V.int)) hk (Nat.le_refl _) ⟨by rw [List.length_map]; omega,acc'.toList,c',hv,by simpa using hD⟩,rfl,q _ (I.hok.fresh (Nat.le_refl _))⟩
theorem Mh:fj X "int.bit_length" (fun x xs H Q=>∃ i,x=V.int i/\xs=[]/\Q (.int (Builtin.Int.intBits i)) H):=by
 intro pins s σ H x xs v us Q I rx r h
 obtain ⟨i,rfl,rfl,q⟩:=h
 obtain ⟨t,rfl⟩:=rx
 cases r
 exact PyProof.Rows.call_int_bit_length ⟨.int _,H,I.tok _,⟨_,rfl⟩,q⟩
end
theorem Ld (a b:Nat):Builtin.bitOr (a:Int) (b:Int)=((a ||| b:Nat):Int):=by
 have h1:¬ 0<=Builtin.bitNot (a:Int):=by unfold Builtin.bitNot; omega
 have h2:¬ 0<=Builtin.bitNot (b:Int):=by unfold Builtin.bitNot; omega
 have nn:∀ x:Int,Builtin.bitNot (Builtin.bitNot x)=x:=fun x=>by unfold Builtin.bitNot; omega
 unfold Builtin.bitOr
 rw [bitAnd_nn h1 h2,nn,nn,nn]
 simp
theorem MK (a b:Nat):Builtin.bitAnd (a:Int) (b:Int)=((a &&& b:Nat):Int):=by
 rw [bitAnd_pp (Int.natCast_nonneg a) (Int.natCast_nonneg b)]
 simp
theorem Ip (n:Nat):Builtin.Int.intBits (n:Int)=Wd.len n:=by
 unfold Builtin.Int.intBits Wd.len
 by_cases h:n=0
 ·subst h; rfl
 ·have h':((n:Int) == 0)=false:=by simpa using h
  rw [h',if_neg h]
  simp
theorem Ga (k:Nat):(2:Int) ^ k=((2 ^ k:Nat):Int):=by simp
end L2
namespace Wd
open PySem
noncomputable abbrev Tz (xs:Array Nat):Prop:=xs.toList.Pairwise (· < ·)
theorem K1 {xs:Array Nat} (r:Tz xs) {i k:Nat} (h:i<k) (hk:k<xs.size):xs.getD i 0<xs.getD k 0:=by
 have hi:i<xs.size:=Nat.lt_trans h hk
 have:=(List.pairwise_iff_getElem.mp r) i k (by simpa using hi) (by simpa using hk) h
 simpa [Array.getD,hi,hk] using this
structure Cut (xs:Array Nat) (j p:Nat):Prop where
 le:p<=xs.size
 lo:∀ i,i<p->xs.getD i 0<j
 hi:∀ i,p<=i->i<xs.size->j<=xs.getD i 0
theorem Jx {xs:Array Nat} (r:Tz xs) (j:Nat):∀ (fuel lo hi:Nat),hi<=xs.size->hi - lo<=fuel->lo<=hi->(∀ i,i<lo->xs.getD i 0<j)->(∀ i,hi<=i->i<xs.size->j<=xs.getD i 0)->Cut xs j (SetTable.below.go xs j fuel lo hi)
 | 0,lo,hi,h1,h2,h3,a,b=>by
  have e:lo=hi:=by omega
  subst e
  exact ⟨h1,a,b⟩
 | fuel+1,lo,hi,h1,h2,h3,a,b=>by
  unfold SetTable.below.go
  split
  ·rename_i hlt
   have hm:(lo+hi) / 2<xs.size:=by omega
   have e:xs.getD ((lo+hi) / 2) j=xs.getD ((lo+hi) / 2) 0:=by simp [Array.getD,hm]
   dsimp only
   rw [e]
   by_cases hj:xs.getD ((lo+hi) / 2) 0<j
   ·rw [if_pos hj]
    refine Jx r j fuel ((lo+hi) / 2+1) hi h1 (by omega) (by omega) (fun i hi'=>?_) b
    by_cases q:i=(lo+hi) / 2
    ·rw [q]; exact hj
    ·have:=K1 r (i:=i) (k:=(lo+hi) / 2) (by omega) hm
     omega
   ·rw [if_neg hj]
    refine Jx r j fuel lo ((lo+hi) / 2) (by omega) (by omega) (by omega) a fun i hi' hs=>?_
    by_cases q:i=(lo+hi) / 2
    ·rw [q]; omega
    ·have:=K1 r (i:=(lo+hi) / 2) (k:=i) (by omega) hs
     omega
  ·have e:lo=hi:=by omega
   subst e
   exact ⟨h1,a,b⟩
theorem IW {xs:Array Nat} (r:Tz xs) (j:Nat):Cut xs j (SetTable.below xs j) :=
 Jx r j xs.size 0 xs.size (Nat.le_refl _) (by omega) (Nat.zero_le _) (fun i h=>absurd h (Nat.not_lt_zero _)) (fun i h1 h2=>absurd h2 (by omega))
theorem N_ {xs:Array Nat} {j:Nat} (r:Tz xs) (h:xs[SetTable.below xs j]? ≠ some j):j ∉ xs.toList:=fun hm=>by
 have c:=IW r j
 obtain ⟨i,hi,e⟩:=List.mem_iff_getElem.mp hm
 have hi':i<xs.size:=by simpa using hi
 have ei:xs.getD i 0=j:=by simpa [Array.getD,hi'] using e
 have h1:SetTable.below xs j<=i:=by
  rcases Nat.lt_or_ge i (SetTable.below xs j) with q | q
  ·have:=c.lo i q; omega
  ·exact q
 have h2:SetTable.below xs j<xs.size:=Nat.lt_of_le_of_lt h1 hi'
 have h3:=c.hi _ (Nat.le_refl _) h2
 have h4:SetTable.below xs j=i:=by
  rcases Nat.lt_or_ge (SetTable.below xs j) i with q | q
  ·have:=K1 r q hi'; omega
  ·omega
 refine h ?_
 have e':xs[i]=j:=by simpa [Array.getD,hi'] using ei
 rw [h4,Array.getElem?_eq_getElem hi',e']
theorem Nr {xs:Array Nat} {j:Nat} (r:Tz xs) (h:xs[SetTable.below xs j]? ≠ some j):Tz (SetTable.insertAt xs (SetTable.below xs j) j):=by
 have c:=IW r j
 have nm:=N_ r h
 show (SetTable.insertAt xs (SetTable.below xs j) j).toList.Pairwise _
 rw [SetTable.toList_insertAt,List.pairwise_append,List.pairwise_cons]
 have lt1:∀ a∈xs.toList.take (SetTable.below xs j),a<j:=fun a ha=>by
  obtain ⟨i,hi,e⟩:=List.mem_iff_getElem.mp ha
  rw [List.length_take] at hi
  have hi2:i<xs.size:=by simp at hi; omega
  have:=c.lo i (by omega)
  simp [Array.getD,hi2] at this
  rw [List.getElem_take] at e
  rw [← e]
  simpa using this
 have lt2:∀ a∈xs.toList.drop (SetTable.below xs j),j<a:=fun a ha=>by
  obtain ⟨i,hi,e⟩:=List.mem_iff_getElem.mp ha
  rw [List.length_drop] at hi
  have hi2:SetTable.below xs j+i<xs.size:=by simp at hi; omega
  have:=c.hi (SetTable.below xs j+i) (Nat.le_add_right _ _) hi2
  simp [Array.getD,hi2] at this
  rw [List.getElem_drop] at e
  have hle:j<=a:=by rw [← e]; simpa using this
  have hne:j ≠ a:=fun z=>nm (by rw [z]; exact List.mem_of_mem_drop ha)
  omega
 exact ⟨r.sublist (List.take_sublist _ _),⟨lt2,r.sublist (List.drop_sublist _ _)⟩,fun a ha b hb=>by
  rcases List.mem_cons.mp hb with e | hb
  ·rw [e]; exact lt1 a ha
  ·have:=lt1 a ha; have:=lt2 b hb; omega⟩
theorem Qy {t:SetTable} {j:Nat} (h:∀ i,t.slot j ≠ .live i):t.place[SetTable.below t.place j]? ≠ some j:=fun e=>by
 refine h (SetTable.below t.place j) ?_
 unfold SetTable.slot
 dsimp only
 rw [e]
 simp
theorem Gz (t:SetTable) (p:SetTable.Probe):(t.advance p).dummy=p.dummy:=by
 unfold SetTable.advance
 split <;> rfl
theorem HX {t:SetTable} {f:Nat->Int} {h:Int}:∀ (fuel:Nat) (p:SetTable.Probe) (j:Nat) (dm:Option Nat),(∀ d,p.dummy=some d->t.slot d=.dummy)->SetTable.probe.go t f h fuel p=some (.empty j dm) ->
  t.slot j=.empty/\∀ d,dm=some d->t.slot d=.dummy
 | 0,p,j,dm,hd,e=>by unfold SetTable.probe.go at e; cases e
 | fuel+1,p,j,dm,hd,e=>by
  unfold SetTable.probe.go at e
  split at e
  ·rename_i hs
   cases e
   exact ⟨hs,hd⟩
  ·rename_i hs
   refine HX fuel _ j dm (fun d q=>?_) e
   rw [Gz] at q
   cases q
   exact hs
  ·split at e
   ·cases e
   ·refine HX fuel _ j dm (fun d q=>?_) e
    rw [Gz] at q
    exact hd d q
theorem Ql {t:SetTable} {h:Int} {j:Nat} {d:Bool} (e:t.freeSlot h=some (j,d)):∀ i,t.slot j ≠ .live i:=by
 unfold SetTable.freeSlot at e
 split at e
 ·rename_i j' dm q
  unfold SetTable.probe at q
  obtain ⟨h1,h2⟩:=HX _ _ _ _ (fun d hd=>by simp [SetTable.probeStart] at hd) q
  cases dm with
  | none=>cases e; intro i z; rw [show (none:Option Nat).getD j'=j' from rfl,h1] at z; cases z
  | some d' =>
   cases e
   intro i z
   rw [show (some d').getD j'=d' from rfl,h2 d' rfl] at z
   cases z
 ·cases e
structure Good (t:SetTable) (led:Bool):Prop where
 led:t.led=led
 ris:t.plain=true->Tz t.place
theorem Nx (led:Bool):Good (.fresh 0 0 led) led:=⟨rfl,fun _=>by simp [SetTable.fresh,Tz]⟩
theorem Fp {t:SetTable} {led:Bool} (g:Good t led) (n:Nat):Good (t.standIn n) led:=⟨g.led,fun h=>by simp [SetTable.standIn] at h⟩
theorem Um {t:SetTable} {led:Bool} (g:Good t led) (n:Nat):Good (t.orStandIn n) led:=by
 unfold SetTable.orStandIn
 split
 ·exact g
 ·exact Fp g n
theorem Rk {t:SetTable} {led:Bool} (g:Good t led) (es:Array (Int × Value)) (h:Int) (x:Value):Good (layNew t es h x).2.1 led:=by
 unfold layNew
 split
 ·rename_i slot wd e
  refine Um (t:=(t.put slot).1) ⟨g.led,fun hp=>?_⟩ _
  exact Nr (g.ris hp) (Qy (Ql e))
 ·exact Fp g _
theorem QK {mask finger moves:Nat} {led plain:Bool} {hs:Array Int} {t:SetTable} {o:Array Nat} (e:SetTable.laid mask finger moves led plain hs=some (t,o)):Good t led/\t.plain=plain:=by
 unfold SetTable.laid at e
 simp only [Option.bind_eq_bind,Option.bind_eq_some_iff] at e
 obtain ⟨owner,_,e⟩:=e
 cases e
 refine ⟨⟨rfl,fun _=>?_⟩,rfl⟩
 show List.Pairwise _ ((List.map _ _).toArray).toList
 rw [List.pairwise_map,List.pairwise_filterMap]
 refine List.pairwise_lt_range.imp fun {a b} hab x hx y hy=>?_
 obtain ⟨u,_,rfl⟩:=Option.map_eq_some_iff.mp hx
 obtain ⟨v,_,rfl⟩:=Option.map_eq_some_iff.mp hy
 exact hab
theorem Oi {t:SetTable} {led:Bool} (g:Good t led) (es:Array (Int × Value)) (n:Nat):Good (relayAll t es n).2.1 led:=by
 unfold relayAll
 split
 ·rename_i t' order e
  dsimp only
  split
  ·have:=QK e
   rw [g.led] at this
   exact this.1
  ·exact Fp g _
 ·exact Fp g _
theorem QC {α:Type} [DecidableEq α]:∀ {l m:List α},l.Nodup->(∀ x∈l,x∈m)->m.length<=l.length->l.Perm m
 | [],m,_,_,h=>by
  have:m=[]:=List.eq_nil_of_length_eq_zero (by simpa using h)
  rw [this]
 | a::l,m,nd,hs,h=>by
  obtain ⟨n1,n2⟩:=List.nodup_cons.mp nd
  have ha:=hs a List.mem_cons_self
  have p:=List.perm_cons_erase ha
  have hl:=p.length_eq
  refine (List.Perm.cons a (QC n2 (fun x hx=>?_) ?_)).trans p.symm
  ·have hx':=p.mem_iff.mp (hs x (List.mem_cons_of_mem _ hx))
   rcases List.mem_cons.mp hx' with e | e
   ·exact absurd (e ▸ hx) n1
   ·exact e
  ·simp only [List.length_cons] at hl h
   omega
end Wd
namespace Wd
open PySem PySem.Spec PyProof.Rows
noncomputable def GC (prog:Program) (w:World) (h:Heap) (a:Addr) (led:Bool) (σ:List Int):Prop :=
 ∃ es ep t,h.get? a=some { cls:=.type "set",dict:=none,data:=.set es ep t }/\ElemsOf (intKind prog w) es.toList/\(∀ k,k∈σ ↔ ∃ e∈es.toList,(intKind prog w).is k e.2=true)/\es.size=σ.length/\σ.Nodup /\
  σ.length<scanBound/\t.fits es.size=true/\Good t led
noncomputable def Ed (σ:List Int) (k:Int):List Int:=if k∈σ then σ else σ++[k]
section
variable {prog:Program} {w:World} {A:Around} {E:Value->Shared->Prop} {s:Shared} {a:Addr} {led:Bool} {σ:List Int} {k:Int} {tk:Tok}
theorem O5 {h:Heap} {es es':Array (Int × Value)} {ep:Nat} {t t':SetTable} (ho:h.get? a=some { cls:=.type "set",dict:=none,data:=.set es ep t }) :
  (h.update a (Obj.putSet es' t')).get? a=some { cls:=.type "set",dict:=none,data:=.set es' (ep+1) t' } :=
 (Heap.get?_update_self (Obj.putSet es' t') ho (by rw [putSet_of es' t' rfl]; rfl)).trans (by rw [putSet_of es' t' rfl])
theorem aG {Q:Bool->Shared->Prop} (hS:GC prog w s.heap a led σ) (room:σ.length+1<scanBound)
  (h:∀ b h',Heap.SameBut a s.heap h'->GC prog w h' a led (Ed σ k)->Q b { s with heap:=h' }):wpAny (model prog w) A (setAddHashed a (.int k tk) ((intKind prog w).hash k)) Q E s:=by
 obtain ⟨es,ep,t,ho,hel,hmem,hn,nd,hb,hf,g⟩:=hS
 have hkey:(intKind prog w).is k (.int k tk)=true:=intKind_is _ _ _ _
 have hbe:es.size<scanBound:=by rw [hn]; exact hb
 unfold setAddHashed setAddHashedIn
 refine wpAny_holding (wpAny_bind (wpAny_setState_of ho rfl hf ?_))
 dsimp only
 rw [byScan_of rfl hbe hel,if_pos rfl]
 unfold setAddByScan
 refine wpAny_bind (wpAny_bind (wpAny_rule (wpAny_bind (wpAny_setScan_of hkey ho rfl hf hel ?_))))
 cases hr:List.findIdx? (fun e=>(intKind prog w).is k e.2) es.toList with
 | some j =>
  obtain ⟨hj,hpj,_⟩:=List.findIdx?_eq_some_iff_getElem.mp hr
  have hk:k∈σ:=(hmem k).mpr ⟨_,List.getElem_mem hj,hpj⟩
  refine wpAny_pure (wpAny_pure ?_)
  have:=h false s.heap (Heap.SameBut.refl a s.heap) (by unfold Ed; rw [if_pos hk]; exact ⟨es,ep,t,ho,hel,hmem,hn,nd,hb,hf,g⟩)
  exact this
 | none =>
  have hk:k ∉ σ:=fun q=>by
   obtain ⟨e,he,hp⟩:=(hmem k).mp q
   have:=List.findIdx?_eq_none_iff.mp hr e he
   rw [hp] at this
   cases this
  dsimp only
  have hperm:=layNew_perm t es ((intKind prog w).hash k) (.int k tk)
  have hfits:=layNew_fits t es ((intKind prog w).hash k) (.int k tk)
  have hgood:=Rk g es ((intKind prog w).hash k) (.int k tk)
  generalize layNew t es ((intKind prog w).hash k) (.int k tk)=L at hperm hfits hgood ⊢
  obtain ⟨es1,t1,wd,gave⟩:=L
  dsimp only at hperm hfits hgood ⊢
  rw [Array.toList_push] at hperm
  have hel1:ElemsOf (intKind prog w) es1.toList:=(hel.push hkey rfl).perm hperm
  have sz1:es1.size=(σ++[k]).length:=by
   have:=hperm.length_eq
   simp only [List.length_append,Array.length_toList,List.length_singleton] at this
   simp only [List.length_append,List.length_singleton]
   omega
  have mem1:∀ k',k'∈σ++[k] ↔ ∃ e∈es1.toList,(intKind prog w).is k' e.2=true:=fun k'=>by
   have:=mem_push_iff (knd:=intKind prog w) (S:=fun k'=>decide (k'∈σ)) hkey (fun k'=>by rw [decide_eq_true_eq]; exact hmem k') hperm k'
   rw [← this]
   simp
  have nd1:(σ++[k]).Nodup:=List.nodup_append.mpr ⟨nd,by simp,fun x hx y hy=>by
   rw [List.mem_singleton.mp hy]
   intro q
   exact hk (q ▸ hx)⟩
  have hb1:(σ++[k]).length<scanBound:=by simp only [List.length_append,List.length_singleton]; exact room
  have hb1':es1.size<scanBound:=by rw [sz1]; exact hb1
  have fin:∀ (es2:Array (Int × Value)) (t2:SetTable) (ep2:Nat) (h2:Heap),Heap.SameBut a s.heap h2->h2.get? a=some { cls:=.type "set",dict:=none,data:=.set es2 ep2 t2 }->es2.toList.Perm es1.toList->t2.fits es2.size=true->Good t2 led ->
    Q true { s with heap:=h2 }:=fun es2 t2 ep2 h2 sb e2 p2 f2 g2=>by
   refine h true h2 sb ?_
   unfold Ed
   rw [if_neg hk]
   refine ⟨es2,ep2,t2,e2,hel1.perm p2,fun k'=>(mem1 k').trans ⟨fun ⟨e,he,q⟩=>⟨e,p2.mem_iff.mpr he,q⟩,fun ⟨e,he,q⟩=>⟨e,p2.mem_iff.mp he,q⟩⟩,?_,nd1,hb1,f2,g2⟩
   rw [← Array.length_toList,p2.length_eq,Array.length_toList,sz1]
  have tail:∀ (t2:SetTable),t2.fits es1.size=true->Good t2 led->wpAny (model prog w) A (do
    storeSet a es1 t2
    if (!wd && t2.tooFull)=true then do
      (match (relayAll t2 es1 (SetTable.grown es1.size)).2.2 with | true=>rule "set.scan.the-table-gave-way" | false=>pure ())
      storeSet a (relayAll t2 es1 (SetTable.grown es1.size)).1 (relayAll t2 es1 (SetTable.grown es1.size)).2.1
      pure (some true)
     else pure (some true)) (fun r s'=>match r with | some b=>Q b s' | none=>False) E s:=fun t2 f2 g2=>by
   refine wpAny_bind (wpAny_storeSet_of ho rfl ?_ (fits_of_scanBound hb1'))
   have sb1:=Heap.SameBut.update s.heap a (Obj.putSet es1 t2)
   have e1:=O5 (es':=es1) (t':=t2) ho
   split
   ·have hp:=relayAll_perm t2 es1 (SetTable.grown es1.size)
    have hq:=relayAll_fits t2 es1 (SetTable.grown es1.size)
    have hg:=Oi g2 es1 (SetTable.grown es1.size)
    generalize relayAll t2 es1 (SetTable.grown es1.size)=R at hp hq hg ⊢
    obtain ⟨es2,t3,gv⟩:=R
    dsimp only at hp hq hg ⊢
    have hb2:es2.size<scanBound:=by rw [← Array.length_toList,hp.length_eq,Array.length_toList]; exact hb1'
    have last:wpAny (model prog w) A (do storeSet a es2 t3; pure (some true)) (fun r s'=>match r with | some b=>Q b s' | none=>False) E { s with heap:=s.heap.update a (Obj.putSet es1 t2) }:=by
     refine wpAny_bind (wpAny_storeSet_of e1 rfl ?_ (fits_of_scanBound hb2))
     exact wpAny_pure (fin es2 t3 _ _ (sb1.trans (Heap.SameBut.update _ a _)) (O5 e1) hp hq hg)
    cases gv
    ·exact wpAny_bind (wpAny_pure last)
    ·exact wpAny_bind (wpAny_rule last)
   ·exact wpAny_pure (fin es1 t2 _ _ sb1 e1 (List.Perm.refl _) f2 g2)
  have tail':∀ (t2:SetTable),t2.fits es1.size=true->Good t2 led->wpAny (model prog w) A (do
    storeSet a es1 t2
    if (!wd && t2.tooFull)=true then do
      (match (relayAll t2 es1 (SetTable.grown es1.size)).2.2 with | true=>rule "set.scan.the-table-gave-way" | false=>pure ())
      storeSet a (relayAll t2 es1 (SetTable.grown es1.size)).1 (relayAll t2 es1 (SetTable.grown es1.size)).2.1
      pure (some true)
     else pure (some true)) (fun r s'=>wpAny (model prog w) A (match r with | some added=>pure added | none=>setAddHashedIn a (.int k tk) ((intKind prog w).hash k) 99999) Q E s') E s:=fun t2 f2 g2 =>
   wpAny_mono (tail t2 f2 g2) (fun r s' q=>by
    cases r with
    | none=>exact q.elim
    | some b=>exact wpAny_pure q) fun _ _ e=>e
  have mid:wpAny (model prog w) A (do
    let byValue ← if t1.plain then hashByValue 8 (.int k tk) else pure true
    let t2:=if byValue=true then t1 else { t1 with plain:=false }
    storeSet a es1 t2
    if (!wd && t2.tooFull)=true then do
      (match (relayAll t2 es1 (SetTable.grown es1.size)).2.2 with | true=>rule "set.scan.the-table-gave-way" | false=>pure ())
      storeSet a (relayAll t2 es1 (SetTable.grown es1.size)).1 (relayAll t2 es1 (SetTable.grown es1.size)).2.1
      pure (some true)
     else pure (some true)) (fun r s'=>wpAny (model prog w) A (match r with | some added=>pure added | none=>setAddHashedIn a (.int k tk) ((intKind prog w).hash k) 99999) Q E s') E s:=by
   split
   ·rw [hashByValue_scannable 8 rfl]
    exact wpAny_bind (wpAny_pure (tail' t1 hfits hgood))
   ·exact wpAny_bind (wpAny_pure (tail' t1 hfits hgood))
  cases gave
  ·exact wpAny_bind (wpAny_pure mid)
  ·exact wpAny_bind (wpAny_rule mid)
end
end Wd
namespace Wd
open PySem PySem.Spec PyProof.Rows
theorem GC.keep {prog:Program} {w:World} {h h':Heap} {a:Addr} {led:Bool} {σ:List Int} (g:GC prog w h a led σ) (k:∀ o,h.get? a=some o->h'.get? a=some o):GC prog w h' a led σ :=
 let ⟨es,ep,t,e,r⟩:=g; ⟨es,ep,t,k _ e,r⟩
theorem Hn (σ:List Int) (k:Int):(Ed σ k).length<=σ.length+1:=by
 unfold Ed
 split
 ·omega
 ·simp
theorem Km:∀ (ns:List Int) (σ:List Int),(ns.foldl Ed σ).length<=σ.length+ns.length
 | [],σ=>by simp
 | k::ns,σ=>by
  have h1:=Km ns (Ed σ k)
  have h2:=Hn σ k
  simp only [List.foldl_cons,List.length_cons]
  omega
theorem IK:∀ (ns:List Int) (σ:List Int) (x:Int),x∈ns.foldl Ed σ ↔ x∈σ \/ x∈ns
 | [],σ,x=>by simp
 | k::ns,σ,x=>by
  rw [List.foldl_cons,IK ns (Ed σ k) x]
  unfold Ed
  split
  ·rename_i h
   simp only [List.mem_cons]
   constructor
   ·rintro (q | q)
    ·exact .inl q
    ·exact .inr (.inr q)
   ·rintro (q | q | q)
    ·exact .inl q
    ·exact .inl (q ▸ h)
    ·exact .inr q
  ·simp [or_assoc]
section
variable {prog:Program} {w:World} {A:Around} {R:Result->Shared->Prop} {I:Addr} {fp wr:List Addr} {G:Array GenState->Array GenState->Prop} {n:Nat} {P:Nat->Value->Prop} {St:Nat->Shared->Prop} {led:Bool}
theorem XD (W:WalksS prog w A.in1 I fp wr G n P St) (S:Addr) (hSf:S ∉ fp) (ns:List Int) (hn:ns.length=n) (hval:∀ i v,P i v->∃ t,v=.int (ns.getD i 0) t) (hb:n+1<scanBound) :
  ∀ (k i:Nat) (s:Shared),n - i=k->i<=n->St i s->GC prog w s.heap S led ((ns.take i).foldl Ed []) ->
   (∀ s',Moved (S::wr) G s s'->GC prog w s'.heap S led (ns.foldl Ed [])->R (.ok (.ret .none)) s')->codeAny (model prog w) A (.builtin "set.update.loop" ⟨[.ref S,.ref I],[]⟩) R s:=by
 have nw:S ∉ wr:=fun z=>hSf (W.sub _ z)
 have up:∀ b∈wr,b∈S::wr:=fun b z=>List.mem_cons_of_mem _ z
 intro k
 induction k with
 | zero =>
  intro i s hk hi st g hR
  obtain rfl:i=n:=by omega
  refine codeAny_builtin F.entry_set_update_loop ?_
  rw [Around.under_plainId F.plain_set_update_loop _]
  refine wpAny_bind (W.done s _ _ st fun s' m=>wpAny_pure (hR s' (m.mono up) ?_))
  rw [List.take_of_length_le (by omega)] at g
  exact g.keep fun o e=>m.heap S o nw e
 | succ k ih =>
  intro i s hk hi st g hR
  have lt:i<n:=by omega
  refine codeAny_builtin F.entry_set_update_loop ?_
  rw [Around.under_plainId F.plain_set_update_loop _]
  refine wpAny_bind (W.item i s _ _ lt st fun v s' p st' m=>?_)
  obtain ⟨t,rfl⟩:=hval i v p
  have g':=g.keep (h':=s'.heap) fun o e=>m.heap S o nw e
  refine wpAny_bind (wpAny_holding (wpAny_holding (wpAny_bind ((intKind prog w).pyHash (k:=ns.getD i 0) (intKind_is _ _ _ _) ?_))))
  have room:((ns.take i).foldl Ed []).length+1<scanBound:=by
   have:=Km (ns.take i) []
   rw [List.length_take] at this
   simp at this
   omega
  have tk:ns.take (i+1)=ns.take i++[ns.getD i 0]:=by
   have hl:i<ns.length:=by omega
   rw [List.take_add_one,List.getElem?_eq_getElem hl]
   simp [hl]
  refine aG (s:={ s' with toks:=s'.toks+1 }) g' room fun b h' sb g2=>?_
  have g3:GC prog w h' S led ((ns.take (i+1)).foldl Ed []):=by
   rw [tk,List.foldl_append]
   exact g2
  refine wpAny_pure ⟨plainId_quiet F.plain_set_update_loop _,ih (i+1) _ (by omega) lt (W.frame _ s' _ _ st' (Nat.le_succ _) fun b hb o e=>?_) g3 fun s'' m2 g4=>?_⟩
  ·rw [sb.2 b (fun z:b=S=>hSf (z ▸ hb))]
   exact e
  ·refine hR s'' (Moved.trans W.gtrans ((m.mono up).then_heap (Nat.le_succ _) fun b o hb e=>?_) m2) g4
   rw [sb.2 b (fun z:b=S=>hb (by rw [z]; exact List.mem_cons_self))]
   exact e
end
section
variable {prog:Program} {w:World} {A:Around} {E:Value->Shared->Prop} {s:Shared}
noncomputable abbrev Dd (w:World):Bool:=!w.params.followText "set-order"
theorem Ud (h:Heap):GC prog w (h.push { cls:=.type "set",dict:=none,data:=.set #[] 0 (.fresh 0 0 (Dd w)) }) h.objs.size (Dd w) [] :=
 ⟨#[],0,_,Heap.get?_push_size _ rfl,fun e he=>by simp at he,fun k=>by simp,rfl,.nil,by decide,by rfl,Nx _⟩
theorem cj (a:Value) {Q1:Value->Shared->Prop} (h:Q1 (.ref s.heap.objs.size) { s with heap:=s.heap.push { cls:=.type "set",dict:=none,data:=.set #[] 0 (.fresh 0 0 (Dd w)) } }) :
  codeAny (model prog w) A (.call (.builtin "set.__new__") ⟨[.type "set",a],[]⟩) (wants Q1 E) s:=by
 refine codeAny_of_tree ?_
 show wpAny _ A.in1 (do checkBuiltinCall "set.__new__" ⟨[.type "set",a],[]⟩; again (.builtin "set.__new__" ⟨[.type "set",a],[]⟩)) _ _ s
 refine wpAny_bind (wpAny_of_eq (F.newCall_set_1 a) (wpAny_pure ⟨plainId_quiet F.plain_set_new _,codeAny_builtin F.entry_set_new ?_⟩))
 rw [Around.under_plainId F.plain_set_new _]
 unfold Builtin.«set.__new__» Builtin.Frozenset.newClass
 have hsub:=sub_set_self
 obtain ⟨hp,g,d,tk,os⟩:=s
 dsimp only
 wp_walk
 refine wpAny_askSetting (wpAny_pure ?_)
 dsimp only
 simp only [newObj]
 exact wpAny_bind (wpAny_alloc (wpAny_pure (wpAny_pure h)))
set_option maxHeartbeats 4000000 in
theorem cG {l:Addr} {items:Array Value} {ns:List Int} {Q:Value->Shared->Prop} (hh:A.handled=none) (hl:s.heap.IsList l items) (hi:IntsAre items.toList ns) (hb:ns.length+1<scanBound)
  (h:∀ h' tk,GC prog w h' s.heap.objs.size (Dd w) (ns.foldl Ed [])->(∀ b o,s.heap.get? b=some o->h'.get? b=some o)->Q (.ref s.heap.objs.size) { s with heap:=h',toks:=tk }) :
  wpAny (model prog w) A (call (.type "set") [.ref l]) Q E s:=by
 obtain ⟨c,tl,hmro⟩:=F.called_set.mro
 have hmade:=F.called_set.made
 have hsub:=F.called_set.sub
 have hlen:items.size=ns.length:=by rw [← IntsAre.length hi]; simp
 refine wpAny_call (codeAny_of_tree ?_)
 show wpAny _ _ (callAny (.type "set") _) _ _ _
 refine wpAny_pure ⟨Code.quiet_builtin _ (by decide +kernel),codeAny_builtin F.entry_type_call ?_⟩
 rw [Around.under_plain (weight_type_call_type "set" [.ref l] []) rfl]
 have h1:=F.called_set.notType
 have h2:=F.called_set.canCreate
 have hct:=F.typeCall_set_1 (.ref l)
 repeat (any_goals (first | assumption | wp_step))
 refine codeAny_mono (cj (.ref l) (E:=E) (Q1:=fun obj s1=>obj=.ref s.heap.objs.size/\s1 = { s with heap:=s.heap.push { cls:=.type "set",dict:=none,data:=.set #[] 0 (.fresh 0 0 (Dd w)) } }) ⟨rfl,rfl⟩) fun r s1 hr=>?_
 rcases r with e | fl
 ·exact hr
 obtain ⟨obj,rfl,hr⟩:∃ obj,fl=.ret obj/\(obj=.ref s.heap.objs.size/\s1 = { s with heap:=s.heap.push { cls:=.type "set",dict:=none,data:=.set #[] 0 (.fresh 0 0 (Dd w)) } }):=by
  cases fl with
  | ret v=>exact ⟨v,rfl,hr⟩
  | _=>exact hr.elim
 obtain ⟨rfl,rfl⟩:=hr
 have hS:(s.heap.push { cls:=.type "set",dict:=none,data:=.set #[] 0 (.fresh 0 0 (Dd w)) }).get? s.heap.objs.size=some { cls:=.type "set",dict:=none,data:=.set #[] 0 (.fresh 0 0 (Dd w)) }:=Heap.get?_push_size _ rfl
 have hT:Shared.TypeIs { s with heap:=s.heap.push { cls:=.type "set",dict:=none,data:=.set #[] 0 (.fresh 0 0 (Dd w)) } } (.ref s.heap.objs.size) "set":=⟨_,hS,rfl⟩
 have hli:=F.called_set.init.lookup
 have hbi:=F.called_set.init.bind (.ref s.heap.objs.size)
 repeat (any_goals (first | assumption | wp_step))
 refine codeAny_mono (codeAny_call_builtin (R:=wants (fun r s2=>r=.none/\∃ h' tk,s2 = { s with heap:=h',toks:=tk }/\GC prog w h' s.heap.objs.size (Dd w) (ns.foldl Ed [])/\∀ b o,s.heap.get? b=some o->h'.get? b=some o) E)
  F.called_set.init.plain F.entry_set_init (check_set_init_1 hT ?_)) fun r2 s2 hr2=>?_
 ·obtain ⟨ol,hol,hcl,nl,hdl⟩:=hl
  obtain ⟨ocls,odict,odata,oslots⟩:=ol
  simp only at hcl hdl
  subst hcl; subst hdl
  have hol':(s.heap.push { cls:=.type "set",dict:=none,data:=.set #[] 0 (.fresh 0 0 (Dd w)) }).get? l=some { cls:=.type "list",dict:=odict,data:=.seq items nl,slots:=oslots }:=Heap.get?_push_of_some _ hol
  have hsls:=F.sub_list_set
  have hslf:=F.sub_list_frozenset
  have hne:(Value.type "list" == Value.type "dict")=false:=by decide
  have hl1:(s.heap.push { cls:=.type "set",dict:=none,data:=.set #[] 0 (.fresh 0 0 (Dd w)) }).IsList l items:=⟨_,hol',rfl,nl,rfl⟩
  unfold Builtin.«set.__init__» noKeywords Builtin.Frozenset.updateFrom
  generalize hPI:pyIter=PI
  wp_walk
  subst hPI
  refine wpAny_pyIter_list hl1 (wpAny_bind (wpAny_runValue ?_))
  have lS:l<s.heap.objs.size:=Heap.lt_size hol
  have h3:A.in1.in1.in1.handled=none:=by simp [hh]
  have nI:l ≠ (s.heap.push { cls:=.type "set",dict:=none,data:=.set #[] 0 (.fresh 0 0 (Dd w)) }).objs.size:=by
   rw [Heap.size_push]
   exact Nat.ne_of_lt (Nat.lt_succ_of_lt lS)
  have nf:s.heap.objs.size ∉ [(s.heap.push { cls:=.type "set",dict:=none,data:=.set #[] 0 (.fresh 0 0 (Dd w)) }).objs.size,l]:=by
   rw [Heap.size_push]
   intro z
   rcases List.mem_cons.mp z with q | q
   ·exact absurd q (Nat.ne_of_lt (Nat.lt_succ_self _))
   ·exact absurd (List.mem_singleton.mp q) (Nat.ne_of_gt lS)
  refine XD ((Walks.list h3 _ l nI items).toS) s.heap.objs.size nf ns hlen.symm (fun i v hv=>IntsAre.int_at hi i v (by rw [Array.getElem?_toList]; exact hv)) (by rw [hlen]; exact hb) (items.size - 0) 0 _ rfl (Nat.zero_le _)
   ⟨⟨_,Heap.get?_push_size _ rfl,rfl,rfl⟩,(hl1.push _)⟩ ((Ud s.heap).keep fun o e=>Heap.get?_push_of_some _ e) fun s' m g=>?_
  obtain ⟨h',g',d',tk',os'⟩:=s'
  obtain rfl:g'=s.gens:=m.gens
  obtain rfl:d'=s.drawn:=m.drawn
  obtain rfl:os'=s.os:=m.os
  show wpAny _ _ _ _ _ _
  refine wpAny_pure ?_
  show wpAny _ _ (ret Value.none) _ _ _
  refine wpAny_pure ⟨rfl,h',tk',rfl,g,fun b o e=>?_⟩
  have b1:=Heap.lt_size e
  refine m.heap b o (fun z=>?_) (Heap.get?_push_of_some _ (Heap.get?_push_of_some _ e))
  rcases List.mem_cons.mp z with q | q
  ·exact absurd q (Nat.ne_of_lt b1)
  ·have:=List.mem_singleton.mp q
   rw [Heap.size_push] at this
   exact absurd this (Nat.ne_of_lt (Nat.lt_succ_of_lt b1))
 ·rcases r2 with e | fl2
  ·exact hr2
  obtain ⟨r,rfl,hr2⟩:∃ r,fl2=.ret r/\(r=.none/\∃ h' tk,s2 = { s with heap:=h',toks:=tk }/\GC prog w h' s.heap.objs.size (Dd w) (ns.foldl Ed [])/\∀ b o,s.heap.get? b=some o->h'.get? b=some o):=by
   cases fl2 with
   | ret v=>exact ⟨v,rfl,hr2⟩
   | _=>exact hr2.elim
  obtain ⟨rfl,h',tk,rfl,g,hk⟩:=hr2
  repeat (any_goals (first | assumption | wp_step))
  exact h _ _ g hk
end
end Wd
namespace Wd
open PySem PySem.Spec PyProof.Rows
theorem Fw:Slot "set_iterator" "__next__" "set_iterator.__next__" :=
 .of (owner:="set_iterator") (n:="__next__") (by rw [typeLookup_type,builtinLookup_eq_fast]; kernel_rfl) (by decide +kernel) (by decide +kernel) (by decide +kernel) (by first | exact .inl (by decide +kernel) | exact .inr (by decide +kernel)) (by rw [isSubtype_type]; kernel_rfl)
theorem G6:entryFor table "set_iterator.__next__" = some Builtin.«set_iterator.__next__»:=entryFor_of_tree (by kernel_rfl)
theorem Ho (a:Value):argsOk "set_iterator.__next__" ⟨[a],[]⟩:=by
 unfold argsOk
 kernel_rfl
theorem PL:Slot "set_iterator" "__iter__" "set_iterator.__iter__" :=
 .of (owner:="set_iterator") (n:="__iter__") (by rw [typeLookup_type,builtinLookup_eq_fast]; kernel_rfl) (by decide +kernel) (by decide +kernel) (by decide +kernel) (by first | exact .inl (by decide +kernel) | exact .inr (by decide +kernel)) (by rw [isSubtype_type]; kernel_rfl)
theorem KD:entryFor table "set_iterator.__iter__" = some Builtin.«dict_keyiterator.__iter__»:=entryFor_alias (id':="dict_keyiterator.__iter__") (by kernel_rfl) rfl (by decide +kernel) (by kernel_rfl)
theorem LC (a:Value):argsOk "set_iterator.__iter__" ⟨[a],[]⟩:=by
 unfold argsOk
 kernel_rfl
theorem Ju:entryFor table "set.__iter__" = some Builtin.«frozenset.__iter__»:=entryFor_alias (id':="frozenset.__iter__") (by kernel_rfl) rfl (by decide +kernel) (by kernel_rfl)
end Wd
namespace Wd
open PySem PySem.Spec PyProof.Rows
section
variable {M:Model} {A:Around} {E:Value->Shared->Prop}
theorem Va {src:Source} {n:Nat} {s:Shared} {Q:Nat->Shared->Prop} (hn:n ≠ 0) (h:∀ i d,i<n->Q i { s with drawn:=d }):wpAny M A (choose src n) Q E s :=
 fun _ _ _=>⟨hn,h _ _ (Nat.mod_lt _ (Nat.pos_of_ne_zero hn))⟩
theorem Kz {α:Type}:∀ {l:List α} {i:Nat} {x:α},l[i]? = some x->(x::l.eraseIdx i).Perm l
 | [],_,_,h=>by simp at h
 | a::l,0,x,h=>by
  simp at h
  subst h
  exact List.Perm.refl _
 | a::l,i+1,x,h=>by
  have ih:=Kz (l:=l) (i:=i) (x:=x) (by simpa using h)
  exact (List.Perm.swap a x _).trans (ih.cons a)
theorem My {α:Type}:∀ (n:Nat) (xs:List α) (s:Shared) (Q:List α->Shared->Prop),xs.length=n->(∀ r d,r.Perm xs->Q r { s with drawn:=d })->wpAny M A (drawOrder n xs) Q E s
 | 0,xs,s,Q,hn,h=>by
  have e:xs=[]:=List.eq_nil_of_length_eq_zero hn
  subst e
  exact wpAny_pure (h [] s.drawn (List.Perm.refl _))
 | n+1,[],s,Q,hn,h=>by simp at hn
 | n+1,x::xs,s,Q,hn,h=>by
  unfold drawOrder
  refine wpAny_bind (Va (by simp) fun i d hi=>?_)
  have hx:(x::xs)[i]? = some (x::xs)[i]:=List.getElem?_eq_getElem hi
  rw [hx]
  dsimp only
  have p:=Kz hx
  refine wpAny_bind (My n ((x::xs).eraseIdx i) _ _ (by have:=p.length_eq; simp only [List.length_cons] at this hn ⊢; omega) fun r d2 pr=>?_)
  exact wpAny_pure (h _ d2 ((pr.cons _).trans p))
end
theorem Pb {α:Type} (next:Nat->Nat):∀ (fuel k:Nat) (left:List α) (out:Array α),left.length=fuel->(pickOrder.go next fuel k left out).toList.Perm (out.toList++left)
 | 0,k,left,out,h=>by
  have e:left=[]:=List.eq_nil_of_length_eq_zero h
  subst e
  unfold pickOrder.go
  simp
 | fuel+1,k,left,out,h=>by
  have hi:next k % left.length<left.length:=Nat.mod_lt _ (by omega)
  have hx:left[next k % left.length]? = some left[next k % left.length]:=List.getElem?_eq_getElem hi
  unfold pickOrder.go
  rw [hx]
  dsimp only
  have p:=Kz hx
  refine (Pb next fuel (k+1) _ _ (by have:=p.length_eq; simp only [List.length_cons] at this; omega)).trans ?_
  rw [Array.toList_push,List.append_assoc]
  exact List.Perm.append_left _ p
theorem Ka {α:Type} (next:Nat->Nat) (xs:Array α):(pickOrder next xs).toList.Perm xs.toList:=by
 have:=Pb next xs.size 0 xs.toList #[] (by simp)
 simpa [pickOrder] using this
noncomputable def Dt (first:Value) (i:Nat) (a:Addr) (n ep:Nat):Obj:={ cls:=.type "set_iterator",data:=.fields #[first,rawInt i,.ref a,rawInt n,rawInt ep] }
inductive Way (w:World) (a:Addr) (es:Array (Int × Value)) (ep:Nat) (t:SetTable) (h:Heap):(Nat->Value)->List Value->List Addr->Prop where
 | text (hb:w.params.followText "set-order" = true):Way w a es ep t h (fun _=>rawInt 0) ((pickOrder (w.params.setOrder a ep) es).toList.map (·.2)) []
 | drawn {tp:Addr} {ps:List Nat} (hb:w.params.followText "set-order" = false) (hp:ps.Perm (List.range es.size)) (ht:∃ n,h.get? tp=some { cls:=.type "tuple",data:=.seq (ps.map fun (i:Nat)=>rawInt i).toArray n }) :
   Way w a es ep t h (fun _=>.ref tp) (ps.map fun i=>(es.getD i (0,.none)).2) [tp]
 | plain (hb:w.params.followText "set-order" = false) (hd:(!t.plain && decide (es.size > 1))=false) (hl:t.led=true) (hr:Tz t.place) (hs:t.place.size=es.size) :
   Way w a es ep t h (fun i=>rawInt (if i=0 then 0 else t.place.getD (i - 1) 0+1:Nat)) (es.toList.map (·.2)) []
section
variable {prog:Program} {w:World} {A:Around} {E:Value->Shared->Prop} {s:Shared} {a it:Addr} {es:Array (Int × Value)} {ep:Nat} {t:SetTable} {first:Nat->Value} {vs:List Value} {more:List Addr}
theorem Q8 (hb:w.params.followText "set-order" = true) {Q:Array (Int × Value)->Shared->Prop} (ha:s.heap.get? a=some { cls:=.type "set",dict:=none,data:=.set es ep t }) (hf:t.fits es.size=true)
  (h:Q (pickOrder (w.params.setOrder a ep) es) s):wpAny (model prog w) A (setWalk a) Q E s:=by
 unfold setWalk setsByText
 refine wpAny_bind (wpAny_setState_of ha rfl hf (wpAny_bind (wpAny_bind (wpAny_askSetting (wpAny_pure ?_)))))
 have hb':(model prog w).w.params.followText "set-order" = true:=hb
 dsimp only
 rw [hb',if_pos rfl]
 exact wpAny_bind (wpAny_askSetting (wpAny_pure h))
theorem Kf (hb:w.params.followText "set-order" = true) {slot i:Nat} {Q:Option (Value × Nat)->Shared->Prop} (ha:s.heap.get? a=some { cls:=.type "set",dict:=none,data:=.set es ep t }) (hf:t.fits es.size=true)
  (h:Q (((pickOrder (w.params.setOrder a ep) es)[i]?).map fun e=>(e.2,slot)) s):wpAny (model prog w) A (setNext a slot i ep) Q E s:=by
 unfold setNext setsByText
 refine wpAny_bind (wpAny_setState_of ha rfl hf (wpAny_bind (wpAny_bind (wpAny_askSetting (wpAny_pure ?_)))))
 have hb':(model prog w).w.params.followText "set-order" = true:=hb
 dsimp only
 rw [hb',if_pos rfl,if_neg (by simp)]
 exact wpAny_bind (Q8 hb ha hf (wpAny_pure h))
theorem Jf (hb:w.params.followText "set-order" = false) (hd:(!t.plain && decide (es.size > 1))=false) (hl:t.led=true) {slot i:Nat} {Q:Option (Value × Nat)->Shared->Prop} (ha:s.heap.get? a=some { cls:=.type "set",dict:=none,data:=.set es ep t })
  (hf:t.fits es.size=true) (h:Q (match es[SetTable.below t.place slot]?,t.place[SetTable.below t.place slot]? with | some (_,x),some j=>some (x,j+1) | _,_=>none) s):wpAny (model prog w) A (setNext a slot i ep) Q E s:=by
 unfold setNext setsByText
 refine wpAny_bind (wpAny_setState_of ha rfl hf (wpAny_bind (wpAny_bind (wpAny_askSetting (wpAny_pure ?_)))))
 have hb':(model prog w).w.params.followText "set-order" = false:=hb
 dsimp only
 rw [hb',if_neg (by simp)]
 refine wpAny_ite_split (fun hc=>absurd (show (!t.plain && decide (es.size > 1))=true from hc) (by rw [hd]; simp)) (fun _=>wpAny_bind ?_)
 show wpAny _ _ (if (!t.led && !es.isEmpty)=true then unsupported _ else pure ()) _ _ _
 rw [hl]
 exact wpAny_pure (wpAny_pure h)
theorem NT {place:Nat} {x:Int × Value} {Q:Value->Shared->Prop} (ha:s.heap.get? a=some { cls:=.type "set",dict:=none,data:=.set es ep t }) (hf:t.fits es.size=true) (hx:es[place]? = some x) (h:Q x.2 s) :
  wpAny (model prog w) A (setNextDrawn a place ep) Q E s:=by
 unfold setNextDrawn
 refine wpAny_bind (wpAny_setState_of ha rfl hf ?_)
 dsimp only
 rw [if_neg (by simp),hx]
 exact wpAny_pure h
theorem S7 {first':Value} {i n:Nat} {h:Heap} (first:Value) (hit:h.get? it=some (Dt first i a n ep)) :
  ((h.update it (Obj.mapFields (·.setIfInBounds 0 first'))).update it (Obj.mapFields (·.setIfInBounds 1 (rawInt ((i:Int)+1))))).get? it=some (Dt first' (i+1) a n ep):=by
 have h1:=Heap.get?_update_self (Obj.mapFields (·.setIfInBounds 0 first')) hit rfl
 have h2:=Heap.get?_update_self (Obj.mapFields (·.setIfInBounds 1 (rawInt ((i:Int)+1)))) h1 rfl
 refine h2.trans ?_
 unfold Dt
 simp [Obj.mapFields]
theorem U7 {i n:Nat} {h:Heap} {first:Value} (hit:h.get? it=some (Dt first i a n ep)) :
  (h.update it (Obj.mapFields (·.setIfInBounds 1 (rawInt ((i:Int)+1))))).get? it=some (Dt first (i+1) a n ep):=by
 have h2:=Heap.get?_update_self (Obj.mapFields (·.setIfInBounds 1 (rawInt ((i:Int)+1)))) hit rfl
 refine h2.trans ?_
 unfold Dt
 simp [Obj.mapFields]
theorem below_at {xs:Array Nat} (r:Tz xs) {i:Nat} (h:i<=xs.size):SetTable.below xs (if i=0 then 0 else xs.getD (i - 1) 0+1)=i:=by
 have c:=IW r (if i=0 then 0 else xs.getD (i - 1) 0+1)
 generalize SetTable.below xs (if i=0 then 0 else xs.getD (i - 1) 0+1)=p at c
 by_cases h0:i=0
 ·rw [if_pos h0] at c
  by_cases hp:p=0
  ·omega
  ·have:=c.lo 0 (by omega)
   omega
 ·rw [if_neg h0] at c
  rcases Nat.lt_trichotomy p i with q | q | q
  ·have h1:=c.hi (i - 1) (by omega) (by omega)
   omega
  ·exact q
  ·have h1:=c.lo i q
   have h2:=K1 r (i:=i - 1) (k:=i) (by omega) (by have:=c.le; omega)
   omega
theorem Mx {i:Nat} {v:Value} {Q:Option Value->Shared->Prop} (W:Way w a es ep t s.heap first vs more) (hit:s.heap.get? it=some (Dt (first i) i a es.size ep)) (ha:s.heap.get? a=some { cls:=.type "set",dict:=none,data:=.set es ep t })
  (hf:t.fits es.size=true) (hv:vs[i]? = some v) (hQ:∀ h',h'.get? it=some (Dt (first (i+1)) (i+1) a es.size ep)->Heap.SameBut it s.heap h'->Q (some v) { s with heap:=h' }):wpAny (model prog w) A (pyNext (.ref it)) Q E s:=by
 have hT:s.TypeIs (.ref it) "set_iterator":=⟨_,hit,rfl⟩
 unfold pyNext
 refine wpAny_bind (wpAny_attempt (wpAny_callSpecial?_slot (name:=Str.ofString "__next__") hT Fw (wpAny_call_entry Fw hT G6 ?_ (Ho _))))
 unfold Builtin.«set_iterator.__next__»
 refine wpAny_bind (m:=slotArgs _ _ _) (wpAny_pure (wpAny_bind ?_))
 unfold fieldsOf
 refine wpAny_bind (wpAny_load hit (wpAny_pure ?_))
 refine wpAny_bind (wpAny_setEntries_of ha rfl hf ?_)
 rw [if_neg (by simp)]
 cases W with
 | text hb =>
  dsimp only [rawInt]
  rw [Int.toNat_natCast,Int.toNat_natCast]
  refine wpAny_bind (Kf hb ha hf ?_)
  rw [List.getElem?_map,Array.getElem?_toList] at hv
  obtain ⟨x,hx,rfl⟩:=Option.map_eq_some_iff.mp hv
  rw [hx]
  refine wpAny_bind (wpAny_setField hit rfl (by simp) ?_)
  refine wpAny_bind (wpAny_setField (Heap.get?_update_self _ hit rfl) rfl (by simp) ?_)
  exact wpAny_pure ⟨_,rfl,wpAny_pure (hQ _ (S7 _ hit) ((Heap.SameBut.update ..).trans (Heap.SameBut.update ..)))⟩
 | @drawn tp ps hb hp ht =>
  obtain ⟨n,ht⟩:=ht
  rw [List.getElem?_map] at hv
  obtain ⟨p,hx,rfl⟩:=Option.map_eq_some_iff.mp hv
  have e:((i:Int)).toNat=i:=Int.toNat_natCast i
  have hp':p<es.size:=List.mem_range.mp (hp.mem_iff.mp (List.mem_of_getElem? hx))
  have hes:es[p]? = some (es.getD p (0,.none)):=by simp [Array.getD,hp']
  have hpl:((List.map (fun (i:Nat)=>rawInt i) ps).toArray)[i]? = some (rawInt p):=by
   rw [List.getElem?_toArray,List.getElem?_map,hx]
   rfl
  have sq:∀ (Q':Option (Array Value)->Shared->Prop) (E':Value->Shared->Prop),Q' (some (List.map (fun (i:Nat)=>rawInt i) ps).toArray) s->wpAny (model prog w) A.in1 (seqItems? (.ref tp)) Q' E' s:=fun Q' E' q=>by
   exact wpAny_seqItems ht rfl q
  refine wpAny_bind (sq _ _ ?_)
  dsimp only
  rw [e,hpl]
  dsimp only [rawInt]
  rw [Int.toNat_natCast,Int.toNat_natCast]
  refine wpAny_bind (NT ha hf hes ?_)
  refine wpAny_bind (wpAny_setField hit rfl (by simp) ?_)
  exact wpAny_pure ⟨_,rfl,wpAny_pure (hQ _ (U7 hit) (Heap.SameBut.update ..))⟩
 | plain hb hd hl hr hs =>
  have hi:i<es.size:=by
   have:=(List.getElem?_eq_some_iff.mp hv).1
   simpa using this
  rw [List.getElem?_map,Array.getElem?_toList,Array.getElem?_eq_getElem hi] at hv
  cases hv
  have hb':SetTable.below t.place (if i=0 then 0 else t.place.getD (i - 1) 0+1)=i:=below_at hr (by omega)
  dsimp only [rawInt]
  rw [Int.toNat_natCast,Int.toNat_natCast,Int.toNat_natCast]
  refine wpAny_bind (Jf hb hd hl ha hf ?_)
  rw [hb',Array.getElem?_eq_getElem hi,Array.getElem?_eq_getElem (by omega:i<t.place.size)]
  refine wpAny_bind (wpAny_setField hit rfl (by simp) ?_)
  refine wpAny_bind (wpAny_setField (Heap.get?_update_self _ hit rfl) rfl (by simp) ?_)
  refine wpAny_pure ⟨_,rfl,wpAny_pure (hQ _ ?_ ((Heap.SameBut.update ..).trans (Heap.SameBut.update ..)))⟩
  have e2:t.place.getD i 0=t.place[i]'(by omega):=by simp [Array.getD,(by omega:i<t.place.size)]
  have:=S7 (first':=rawInt ((t.place[i]'(by omega):Nat)+1:Nat)) _ hit
  show _=some (Dt (rawInt ((if i+1=0 then 0 else t.place.getD (i+1 - 1) 0+1:Nat))) (i+1) a es.size ep)
  rw [if_neg (Nat.succ_ne_zero i),Nat.add_sub_cancel,e2]
  exact this
theorem Ny {s0:Shared} {Q:Option Value->Shared->Prop} (hh:A.handled=none) (hQ:∀ h',(∀ b o,s0.heap.get? b=some o->h'.get? b=some o)->Q none { s0 with heap:=h' }) :
  wpAny (model prog w) A.in1 (newExc (.type "StopIteration") [] >>= fun e=>(raiseNew e:Sem Fin)) (fun fin s'=>∃ v,fin=Fin.done (Flow.ret v)/\wpAny (model prog w) A (match (Except.ok (some v):Except Value (Option Value)) with | Except.ok (some v)=>pure (some v) | Except.ok none=>unsupported "iter:the-iterator's-class-has-lost-its-__next__-amid-the-walk" | Except.error e=>do
    if ← isInstance e (.type "StopIteration") then pure none else throw e) Q E s')
   (fun e s'=>wpAny (model prog w) A (match (Except.error e:Except Value (Option Value)) with | Except.ok (some v)=>pure (some v) | Except.ok none=>unsupported "iter:the-iterator's-class-has-lost-its-__next__-amid-the-walk" | Except.error e=>do
    if ← isInstance e (.type "StopIteration") then pure none else throw e) Q E s') s0:=by
 refine wpAny_bind ?_
 simp only [newExc,newTuple]
 refine wpAny_bind (wpAny_newObj_type ?_ (by size_fits))
 refine wpAny_bind (m:=firstArgMember _ _) (wpAny_of_eq (a:=Value.none) (by first | rfl | (simp only [firstArgMember]; rfl)) ?_)
 refine wpAny_newObj_type ?_ (by size_fits)
 simp only [raiseNew]
 refine wpAny_bind (wpAny_handled ?_)
 rw [show A.in1.handled=none from hh]
 refine wpAny_bind (wpAny_pure (wpAny_throw ?_))
 refine wpAny_bind (wpAny_isInstance (T:="StopIteration") (b:=true) ⟨_,Heap.get?_push_size _ rfl,rfl⟩ isSubtype_stop ?_)
 exact wpAny_pure (hQ _ fun b o e=>Heap.get?_push_of_some _ (Heap.get?_push_of_some _ e))
theorem Ly {Q:Option Value->Shared->Prop} (hh:A.handled=none) (W:Way w a es ep t s.heap first vs more) (hit:s.heap.get? it=some (Dt (first es.size) es.size a es.size ep)) (ha:s.heap.get? a=some { cls:=.type "set",dict:=none,data:=.set es ep t })
  (hf:t.fits es.size=true) (hQ:∀ h',(∀ b o,b ≠ it->s.heap.get? b=some o->h'.get? b=some o)->Q none { s with heap:=h' }):wpAny (model prog w) A (pyNext (.ref it)) Q E s:=by
 have hT:s.TypeIs (.ref it) "set_iterator":=⟨_,hit,rfl⟩
 unfold pyNext
 refine wpAny_bind (wpAny_attempt (wpAny_callSpecial?_slot (name:=Str.ofString "__next__") hT Fw (wpAny_call_entry Fw hT G6 ?_ (Ho _))))
 unfold Builtin.«set_iterator.__next__»
 refine wpAny_bind (m:=slotArgs _ _ _) (wpAny_pure (wpAny_bind ?_))
 unfold fieldsOf
 refine wpAny_bind (wpAny_load hit (wpAny_pure ?_))
 refine wpAny_bind (wpAny_setEntries_of ha rfl hf ?_)
 rw [if_neg (by simp)]
 have fin:∀ {f g:Array Value->Array Value} (b:Addr) (o:Obj),b ≠ it->s.heap.get? b=some o->(s.heap.update it (Obj.mapFields f)).get? b=some o:=fun b o hb e=>(Heap.get?_update_other _ _ (Ne.symm hb)).trans e
 cases W with
 | text hb =>
  dsimp only [rawInt]
  rw [Int.toNat_natCast,Int.toNat_natCast]
  refine wpAny_bind (Kf hb ha hf ?_)
  have hx:(pickOrder (w.params.setOrder a ep) es)[es.size]? = none:=by
   have:=(Ka (w.params.setOrder a ep) es).length_eq
   simp only [Array.length_toList] at this
   rw [Array.getElem?_eq_none (by omega)]
  rw [hx]
  refine wpAny_bind (wpAny_setField hit rfl (by simp) (Ny hh fun h' k=>hQ h' fun b o hb e=>k b o ?_))
  exact (Heap.get?_update_other _ _ (Ne.symm hb)).trans e
 | @drawn tp ps hb hp ht =>
  obtain ⟨n,ht⟩:=ht
  have hlen:ps.length=es.size:=by have:=hp.length_eq; simpa using this
  have hpl:((List.map (fun (i:Nat)=>rawInt i) ps).toArray)[((es.size:Nat):Int).toNat]? = none:=by
   rw [Int.toNat_natCast,List.getElem?_toArray,List.getElem?_map,List.getElem?_eq_none (by omega)]
   rfl
  refine wpAny_bind (wpAny_seqItems ht rfl ?_)
  dsimp only
  rw [hpl]
  refine wpAny_bind (wpAny_setField hit rfl (by simp) (wpAny_bind (wpAny_setField (Heap.get?_update_self _ hit rfl) rfl (by simp) (Ny hh fun h' k=>hQ h' fun b o hb e=>k b o ?_))))
  exact (Heap.get?_update_other _ _ (Ne.symm hb)).trans ((Heap.get?_update_other _ _ (Ne.symm hb)).trans e)
 | plain hb hd hl hr hs =>
  have hb':SetTable.below t.place (if es.size=0 then 0 else t.place.getD (es.size - 1) 0+1)=es.size:=below_at hr (by omega)
  dsimp only [rawInt]
  rw [Int.toNat_natCast,Int.toNat_natCast,Int.toNat_natCast]
  refine wpAny_bind (Jf hb hd hl ha hf ?_)
  rw [hb',Array.getElem?_eq_none (Nat.le_refl _)]
  refine wpAny_bind (wpAny_setField hit rfl (by simp) (Ny hh fun h' k=>hQ h' fun b o hb e=>k b o ?_))
  exact (Heap.get?_update_other _ _ (Ne.symm hb)).trans e
end
end Wd
section PartSetJ
set_option maxHeartbeats 1000000
namespace Wd
open PySem PySem.Spec PyProof.Rows
theorem Way.keep {w:World} {a:Addr} {es:Array (Int × Value)} {ep:Nat} {t:SetTable} {h h':Heap} {first:Nat->Value} {vs:List Value} {more:List Addr} (W:Way w a es ep t h first vs more) (k:∀ b∈more,∀ o,h.get? b=some o->h'.get? b=some o):Way w a es ep t h' first vs more:=by
 cases W with
 | text hb=>exact .text hb
 | drawn hb hp ht =>
  obtain ⟨n,ht⟩:=ht
  exact .drawn hb hp ⟨n,k _ (by simp) _ ht⟩
 | plain hb hd hl hr hs=>exact .plain hb hd hl hr hs
theorem Way.perm {w:World} {a:Addr} {es:Array (Int × Value)} {ep:Nat} {t:SetTable} {h:Heap} {first:Nat->Value} {vs:List Value} {more:List Addr} (W:Way w a es ep t h first vs more):vs.Perm (es.toList.map (·.2)):=by
 cases W with
 | text hb=>exact (Ka _ es).map _
 | @drawn tp ps hb hp ht =>
  refine (hp.map _).trans ?_
  have e:(List.range es.size).map (fun i=>(es.getD i (0,Value.none)).2)=es.toList.map (·.2):=by
   refine List.ext_getElem (by simp) fun i h1 h2=>?_
   have hi:i<es.size:=by simpa using h1
   simp [Array.getD,hi]
  rw [e]
 | plain hb hd hl hr hs=>exact List.Perm.refl _
theorem ints_of {prog:Program} {w:World} {es:Array (Int × Value)} {σ:List Int} {vs:List Value} (hel:ElemsOf (intKind prog w) es.toList) (hmem:∀ k,k∈σ ↔ ∃ e∈es.toList,(intKind prog w).is k e.2=true) (hn:es.size=σ.length) (nd:σ.Nodup)
  (p:vs.Perm (es.toList.map (·.2))):IntsAre vs (vs.map numOf)/\(vs.map numOf).Perm σ:=by
 have isI:∀ e∈es.toList,∃ n t,e.2=Value.int n t:=fun e he=>by
  obtain ⟨⟨k,hk,_⟩,_⟩:=hel e he
  obtain ⟨t,q⟩:=Value.isInt_shape (k:=k) (v:=e.2) hk
  exact ⟨k,t,q⟩
 refine ⟨intsAre_map vs fun v hv=>?_,(p.map numOf).trans ?_⟩
 ·obtain ⟨e,he,rfl⟩:=List.mem_map.mp (p.mem_iff.mp hv)
  exact isI e he
 ·refine (QC nd (fun x hx=>?_) (by simp [hn])).symm
  obtain ⟨e,he,hk⟩:=(hmem x).mp hx
  obtain ⟨t,q⟩:=Value.isInt_shape (k:=x) (v:=e.2) hk
  rw [List.map_map]
  refine List.mem_map.mpr ⟨e,he,?_⟩
  show numOf e.2=x
  rw [q]
  rfl
section
variable {prog:Program} {w:World} {A:Around} {E:Value->Shared->Prop} {s:Shared} {a:Addr} {σ:List Int}
theorem Vl {es:Array (Int × Value)} {ep:Nat} {t:SetTable} {Q:Bool->Shared->Prop} (ha:s.heap.get? a=some { cls:=.type "set",dict:=none,data:=.set es ep t }) (hf:t.fits es.size=true)
  (h:Q (!w.params.followText "set-order" && (!t.plain && decide (es.size > 1))) s):wpAny (model prog w) A (setDrawn a) Q E s:=by
 unfold setDrawn setsByText
 exact wpAny_bind (wpAny_setState_of ha rfl hf (wpAny_bind (wpAny_bind (wpAny_askSetting (wpAny_pure (wpAny_pure h))))))
theorem Xc {Q:Value->Shared->Prop} (hS:GC prog w s.heap a (Dd w) σ)
  (h:∀ es ep t d h' it first vs more,s.heap.get? a=some { cls:=.type "set",dict:=none,data:=.set es ep t }->t.fits es.size=true->es.size=σ.length->Way w a es ep t h' first vs more->h'.get? it=some (Dt (first 0) 0 a es.size ep) ->
   (∀ b o,s.heap.get? b=some o->h'.get? b=some o)->s.heap.objs.size<=it->it ∉ more->(∀ b∈more,s.heap.objs.size<=b)->IntsAre vs (vs.map numOf)->(vs.map numOf).Perm σ->Q (.ref it) { s with heap:=h',drawn:=d }) :
  wpAny (model prog w) A (pyIter (.ref a)) Q E s:=by
 obtain ⟨es,ep,t,ha,hel,hmem,hn,nd,hb,hf,g⟩:=hS
 have hT:s.TypeIs (.ref a) "set":=⟨_,ha,rfl⟩
 have sz:es.size<=sizeLine:=by rw [hn]; exact fits_of_scanBound hb
 refine wpAny_pyIter_slot hT F.slot_set_iter (wpAny_call_entry F.slot_set_iter hT Ju ?_ (F.args_set_iter_1 _))
 unfold Builtin.«frozenset.__iter__» Builtin.Frozenset.slot0
 refine wpAny_bind (wpAny_bind (m:=slotArgs _ _ _) (wpAny_pure (wpAny_pure ?_)))
 unfold Builtin.Frozenset.sizeOf
 refine wpAny_bind (wpAny_bind (wpAny_setEntries_of ha rfl hf (wpAny_pure (wpAny_bind (Vl ha hf ?_)))))
 have fits':t.place.size=es.size:=by
  simp only [SetTable.fits,Bool.and_eq_true,beq_iff_eq] at hf
  exact hf.1
 by_cases hd:(!w.params.followText "set-order" && (!t.plain && decide (es.size > 1)))=true
 ·rw [hd]
  have hb0:w.params.followText "set-order" = false:=by simp at hd; exact hd.1
  refine wpAny_bind (My es.size (List.range es.size) _ _ (by simp) fun ps d hp=>?_)
  have hl:ps.length=es.size:=by have:=hp.length_eq; simpa using this
  simp only [newTuple]
  refine wpAny_bind (wpAny_newObj_type ?_ (by show (List.map (fun (i:Nat)=>rawInt i) ps).toArray.size<=sizeLine; simp; omega))
  have ha1:(s.heap.push { cls:=.type "tuple",data:=.seq (ps.map fun (i:Nat)=>rawInt i).toArray }).get? a=some { cls:=.type "set",dict:=none,data:=.set es ep t }:=Heap.get?_push_of_some _ ha
  refine wpAny_bind (m:=setEpoch a) (wpAny_setEpoch_of ha1 rfl hf ?_)
  unfold newFields
  refine wpAny_bind (wpAny_newObj_type ?_ (by size_fits))
  have W:Way w a es ep t ((s.heap.push { cls:=.type "tuple",data:=.seq (ps.map fun (i:Nat)=>rawInt i).toArray }).push (Dt (.ref s.heap.objs.size) 0 a es.size ep)) (fun _=>.ref s.heap.objs.size) (ps.map fun i=>(es.getD i (0,.none)).2) [s.heap.objs.size] :=
   .drawn hb0 hp ⟨0,Heap.get?_push_of_some _ (Heap.get?_push_size _ rfl)⟩
  obtain ⟨i1,i2⟩:=ints_of hel hmem hn nd W.perm
  have e2:(s.heap.push { cls:=.type "tuple",data:=.seq (ps.map fun (i:Nat)=>rawInt i).toArray }).objs.size=s.heap.objs.size+1:=Heap.size_push _ _
  refine wpAny_pure ⟨_,rfl,"set_iterator",_,⟨_,Heap.get?_push_size _ rfl,rfl⟩,Fw.lookup,?_⟩
  refine h es ep t d _ _ _ _ _ ha hf hn W (Heap.get?_push_size _ rfl) (fun b o e=>Heap.get?_push_of_some _ (Heap.get?_push_of_some _ e)) ?_ ?_ (fun b hb=>?_) i1 i2
  ·rw [e2]; exact Nat.le_succ _
  ·rw [e2]
   intro z
   exact absurd (List.mem_singleton.mp z) (Nat.succ_ne_self _)
  ·rw [List.mem_singleton.mp hb]
   exact Nat.le_refl _
 ·have hd':(!w.params.followText "set-order" && (!t.plain && decide (es.size > 1)))=false:=(Bool.not_eq_true _).mp hd
  rw [hd']
  refine wpAny_bind (wpAny_pure ?_)
  refine wpAny_bind (m:=setEpoch a) (wpAny_setEpoch_of ha rfl hf ?_)
  unfold newFields
  refine wpAny_bind (wpAny_newObj_type ?_ (by size_fits))
  refine wpAny_pure ⟨_,rfl,"set_iterator",_,⟨_,Heap.get?_push_size _ rfl,rfl⟩,Fw.lookup,?_⟩
  cases hb0:w.params.followText "set-order" with
  | true =>
   have W:Way w a es ep t (s.heap.push (Dt (rawInt 0) 0 a es.size ep)) (fun _=>rawInt 0) ((pickOrder (w.params.setOrder a ep) es).toList.map (·.2)) []:=.text hb0
   obtain ⟨i1,i2⟩:=ints_of hel hmem hn nd W.perm
   exact h es ep t s.drawn _ _ _ _ _ ha hf hn W (Heap.get?_push_size _ rfl) (fun b o e=>Heap.get?_push_of_some _ e) (Nat.le_refl _) (by simp) (by simp) i1 i2
  | false =>
   rw [hb0] at hd'
   have hd2:(!t.plain && decide (es.size > 1))=false:=hd'
   have hr:Tz t.place:=by
    cases hp:t.plain with
    | true=>exact g.ris hp
    | false =>
     rw [hp] at hd2
     have:es.size<=1:=by simpa using hd2
     show t.place.toList.Pairwise _
     have hl:t.place.toList.length<=1:=by simp; omega
     match hq:t.place.toList,hl with
     | [],_=>exact .nil
     | [x],_=>exact List.pairwise_singleton _ _
     | _::_::_,hl=>simp at hl
   have W:Way w a es ep t (s.heap.push (Dt (rawInt 0) 0 a es.size ep)) (fun i=>rawInt (if i=0 then 0 else t.place.getD (i - 1) 0+1:Nat)) (es.toList.map (·.2)) []:=.plain hb0 hd2 (by rw [g.led]; simp [Dd,hb0]) hr fits'
   obtain ⟨i1,i2⟩:=ints_of hel hmem hn nd W.perm
   exact h es ep t s.drawn _ _ _ _ _ ha hf hn W (Heap.get?_push_size _ rfl) (fun b o e=>Heap.get?_push_of_some _ e) (Nat.le_refl _) (by simp) (by simp) i1 i2
theorem Vp {it:Addr} {first:Value} {i n ep:Nat} {Q:Value->Shared->Prop} (hit:s.heap.get? it=some (Dt first i a n ep)) (h:Q (.ref it) s):wpAny (model prog w) A (pyIter (.ref it)) Q E s:=by
 have hT:s.TypeIs (.ref it) "set_iterator":=⟨_,hit,rfl⟩
 refine wpAny_pyIter_slot hT PL (wpAny_call_entry PL hT KD ?_ (LC _))
 exact wpAny_pure ⟨_,rfl,"set_iterator",_,hT,Fw.lookup,h⟩
theorem Uw (hh:A.handled=none) {it:Addr} {es:Array (Int × Value)} {ep:Nat} {t:SetTable} {first:Nat->Value} {vs:List Value} {more:List Addr} (hf:t.fits es.size=true) (hl:vs.length=es.size) (n1:it ≠ a) (n2:it ∉ more) :
  Walks prog w A it (it::a::more) [it] es.size (fun i v=>vs[i]? = some v) (fun i h=>h.get? it=some (Dt (first i) i a es.size ep)/\h.get? a=some { cls:=.type "set",dict:=none,data:=.set es ep t }/\Way w a es ep t h first vs more) where
 sub:=fun b hb=>by rw [List.mem_singleton.mp hb]; exact List.mem_cons_self
 frame:=fun i h h' ⟨s1,s2,s3⟩ k=>⟨k it List.mem_cons_self _ s1,k a (List.mem_cons_of_mem _ List.mem_cons_self) _ s2,s3.keep fun b hb o e=>k b (List.mem_cons_of_mem _ (List.mem_cons_of_mem _ hb)) o e⟩
 item:=fun i s Q E hi ⟨s1,s2,s3⟩ hQ=>by
  have hv:vs[i]? = some (vs[i]'(by omega)):=List.getElem?_eq_getElem _
  refine Mx s3 s1 s2 hf hv fun h' e sb=>?_
  have:=hQ _ h' s.toks hv ⟨e,(sb.2 a (Ne.symm n1)).trans s2,s3.keep fun b hb o q=>(sb.2 b (fun z=>n2 (z ▸ hb))).trans q⟩ fun b o hb q=>(sb.2 b (fun z=>hb (by rw [z]; simp))).trans q
  exact this
 done:=fun s Q E ⟨s1,s2,s3⟩ hQ=>by
  refine Ly hh s3 s1 s2 hf fun h' k=>?_
  have:=hQ h' s.toks fun b o hb q=>k b o (fun z=>hb (by rw [z]; simp)) q
  exact this
 self:=fun i s Q E ⟨s1,s2,s3⟩ h=>Vp s1 h
theorem Sx {Q:Bool->Shared->Prop} (hT:s.TypeIs (.ref a) "set") (h:Q false s):wpAny (model prog w) A (Builtin.List.listLengthHint (.ref a)) Q E s:=by
 unfold Builtin.List.listLengthHint
 refine wpAny_bind (wpAny_specialOf hT F.slot_set_len.lookup ?_)
 generalize hid:("set.__len__" : String)=id0
 wp_delta
 rw [show splitId id0=some ("set","__len__") from by subst hid; decide +kernel]
 subst hid
 refine wpAny_bind (wpAny_isInstance (T:="set") (b:=true) hT sub_set_self ?_)
 refine wpAny_ite_split (fun hab=>absurd hab (by decide)) (fun _=>wpAny_ite_split (fun _=>wpAny_bind (wpAny_typeOf hT (wpAny_pure h))) (fun hab=>absurd (by decide +kernel) hab))
end
end Wd
end PartSetJ
section PartSetK
set_option maxHeartbeats 1000000
namespace Wd
open PySem PySem.Spec PyProof.Rows
section
variable {prog:Program} {w:World} {A:Around} {E:Value->Shared->Prop} {s:Shared} {a:Addr} {σ:List Int}
theorem Ti {R:Result->Shared->Prop} {S:Addr} {c0:Nat} (hh:A.handled=none) (hS:GC prog w s.heap a (Dd w) σ) (hL:s.heap.get? S=some { cls:=.type "list",data:=.seq #[] c0 })
  (hR:∀ h' tk d acc c,(∀ b o,b ≠ S->s.heap.get? b=some o->h'.get? b=some o)->h'.get? S=some { cls:=.type "list",dict:=none,data:=.seq acc c,slots:=#[] }->(∃ ks,IntsAre acc.toList ks/\ks.Perm σ)->R (.ok (.ret (.ref S))) { s with heap:=h',toks:=tk,drawn:=d }) :
  wpAny (model prog w) A.in1 (Builtin.List.listExtendWith (.ref S) (.ref a) (.ref S))
   (fun fin s'=>match fin with | .done f=>R (.ok f) s' | .again c'=>c'.quiet=true/\codeAny (model prog w) A c' R s') (fun e s'=>R (.error e) s') s:=by
 obtain ⟨es0,ep0,t0,ha0,rest0⟩:=id hS
 have hT:s.TypeIs (.ref a) "set":=⟨_,ha0,rfl⟩
 have nSa:S ≠ a:=fun z=>by rw [z,ha0] at hL; simp at hL
 unfold Builtin.List.listExtendWith
 refine wpAny_bind (wpAny_typeOf (T:="set") hT ?_)
 have h1:Builtin.List.listSameRef (.ref S) (.ref a)=false:=by simp [Builtin.List.listSameRef,nSa]
 have h2:(Value.type "set" == Value.type "list")=false:=by decide
 have h3:(Value.type "set" == Value.type "tuple")=false:=by decide
 simp only [h1,h2,h3,Bool.or_false,Bool.false_eq_true,if_false]
 refine wpAny_bind (Xc hS fun es ep t d h' it first vs more ha hf hn W e0 hk g1 g2 g3 i1 i2=>?_)
 have sz:es.size<=sizeLine:=by
  obtain ⟨_,_,_,_,hb,_⟩:=rest0
  rw [hn]
  exact fits_of_scanBound hb
 have hl:vs.length=es.size:=by have:=i2.length_eq; rw [List.length_map] at this; omega
 have lt:=Heap.lt_size ha
 have ltS:=Heap.lt_size hL
 have nSf:S ∉ it::a::more:=fun z=>by
  rcases List.mem_cons.mp z with q | z
  ·rw [q] at ltS; exact absurd (Nat.lt_of_lt_of_le ltS g1) (Nat.lt_irrefl _)
  rcases List.mem_cons.mp z with q | z
  ·exact nSa q
  ·exact absurd (Nat.lt_of_lt_of_le ltS (g3 _ z)) (Nat.lt_irrefl _)
 have n1:it ≠ a:=fun z=>by rw [← z] at lt; exact absurd (Nat.lt_of_lt_of_le lt g1) (Nat.lt_irrefl _)
 have Wk:=Uw (prog:=prog) (w:=w) (A:=A.in1) (a:=a) (it:=it) (es:=es) (ep:=ep) (t:=t) (first:=first) (vs:=vs) (more:=more) (by simpa using hh) hf hl n1 g2
 have hL1:=hk _ _ hL
 have st0:h'.get? it=some (Dt (first 0) 0 a es.size ep)/\h'.get? a=some { cls:=.type "set",dict:=none,data:=.set es ep t }/\Way w a es ep t h' first vs more:=⟨e0,hk _ _ ha,W⟩
 have key:∀ (h2:Heap) (c1 tk:Nat),(h2.get? it=some (Dt (first 0) 0 a es.size ep)/\h2.get? a=some { cls:=.type "set",dict:=none,data:=.set es ep t }/\Way w a es ep t h2 first vs more)->(∀ b o,b ≠ S->s.heap.get? b=some o->h2.get? b=some o) ->
   h2.get? S=some { cls:=.type "list",data:=.seq #[] c1 }->codeAny (model prog w) A (.builtin "list.extend.loop" ⟨[.ref S,.ref it,.ref S],[]⟩) R { s with heap:=h2,toks:=tk,drawn:=d }:=by
  intro h2 c1 tk st k2 e2
  refine codeAny_extend_loopS Wk.toS sz S nSf (.ref S) es.size 0 _ #[] c1 rfl (Nat.zero_le _) st e2 (ItemsOf.nil _) fun s' acc c m e3 hacc=>?_
  obtain ⟨h3,g',d',tk',os'⟩:=s'
  obtain rfl:g'=s.gens:=m.gens
  obtain rfl:d'=d:=m.drawn
  obtain rfl:os'=s.os:=m.os
  refine hR h3 tk' d' acc c (fun b o hb e=>m.heap b o (fun z=>?_) (k2 b o hb e)) e3 ?_
  ·rcases List.mem_cons.mp z with q | z
   ·exact hb q
   ·have lb:=Heap.lt_size e
    rw [List.mem_singleton.mp z] at lb
    exact absurd (Nat.lt_of_lt_of_le lb g1) (Nat.lt_irrefl _)
  ·have ev:acc.toList=vs:=by
    refine List.ext_getElem? fun j=>?_
    by_cases hj:j<acc.size
    ·have q:acc[j]? = some acc[j]:=Array.getElem?_eq_getElem hj
     rw [Array.getElem?_toList,q,hacc.2 j _ q]
    ·rw [List.getElem?_eq_none (by simp; omega),List.getElem?_eq_none (by rw [hl,← hacc.1]; omega)]
   rw [ev]
   exact ⟨_,i1,i2⟩
 refine wpAny_bind (wpAny_holding (Sx ⟨_,hk _ _ ha,rfl⟩ ?_))
 refine wpAny_ite_split (fun _=>?_) (fun _=>wpAny_pure ⟨plainId_quiet PySem.F.plain_extend_loop _,key _ c0 _ st0 (fun b o _ e=>hk b o e) hL1⟩)
 refine wpAny_bind (wpAny_rule (wpAny_bind ?_))
 show wpAny _ _ (updateSeq S (·.push .none) >>= fun _=>updateSeq S (·.pop)) _ _ _
 refine wpAny_bind (wpAny_updateSeq hL1 rfl ?_)
 have hL2:=Heap.get?_update_self (Obj.mapSeq (·.push Value.none)) hL1 rfl
 refine wpAny_updateSeq (hz:=by seq_fits) hL2 rfl ?_
 have hL3:=Heap.get?_update_self (Obj.mapSeq (·.pop)) hL2 rfl
 have oth:∀ b o,b ≠ S->h'.get? b=some o->((h'.update S (Obj.mapSeq (·.push Value.none))).update S (Obj.mapSeq (·.pop))).get? b=some o:=fun b o hb e=>(Heap.get?_update_other _ _ (Ne.symm hb)).trans ((Heap.get?_update_other _ _ (Ne.symm hb)).trans e)
 refine wpAny_pure ⟨plainId_quiet PySem.F.plain_extend_loop _,key _ _ _ (Wk.frame 0 _ _ st0 fun b hb o e=>oth b o (fun z=>nSf (z ▸ hb)) e) (fun b o hb e=>oth b o hb (hk b o e)) hL3⟩
theorem QX {R:List Value->Shared->Prop} (hh:A.handled=none) (hS:GC prog w s.heap a (Dd w) σ)
  (h:∀ h' tk d acc ks,(∀ b o,s.heap.get? b=some o->h'.get? b=some o)->s.heap.objs.size<h'.objs.size->IntsAre acc ks->ks.Perm σ->R acc { s with heap:=h',toks:=tk,drawn:=d }):wpAny (model prog w) A (collect (.ref a)) R E s:=by
 unfold collect
 refine wpAny_bind (wpAny_runValue (codeAny_builtin PySem.F.entry_proto_collect ?_))
 rw [Around.under_plainId PySem.F.plain_proto_collect _]
 show wpAny _ A.in1 (newList [] >>= fun l=>again (.builtin "list.__iadd__" ⟨[l,.ref a],[]⟩)) _ _ s
 refine wpAny_bind (wpAny_newObj_type (wpAny_pure ⟨plainId_quiet PySem.F.plain_list_iadd _,codeAny_builtin PySem.F.entry_list_iadd ?_⟩))
 rw [Around.under_plainId PySem.F.plain_list_iadd _]
 have e1:(s.heap.push { cls:=.type "list",data:=.seq ([]:List Value).toArray }).get? s.heap.objs.size=some { cls:=.type "list",data:=.seq #[] }:=Heap.get?_push_size _ rfl
 show wpAny _ A.in1 (Builtin.List.listExtendWith (.ref s.heap.objs.size) (.ref a) (.ref s.heap.objs.size)) _ _ _
 have key:=Ti (A:=A) (s:={ s with heap:=s.heap.push { cls:=.type "list",data:=.seq ([]:List Value).toArray } }) (S:=s.heap.objs.size) (R:=fun q s'=>∃ h' tk d acc c,q=.ok (.ret (.ref s.heap.objs.size))/\s' = { s with heap:=h',toks:=tk,drawn:=d } /\
   (∀ b o,s.heap.get? b=some o->h'.get? b=some o)/\h'.get? s.heap.objs.size=some { cls:=.type "list",dict:=none,data:=.seq acc c,slots:=#[] }/\∃ ks,IntsAre acc.toList ks/\ks.Perm σ) hh (hS.keep fun o e=>Heap.get?_push_of_some _ e) e1
  fun h' tk d acc c k e2 hx=>⟨h',tk,d,acc,c,rfl,rfl,fun b o e=>k b o (Nat.ne_of_lt (Heap.lt_size e)) (Heap.get?_push_of_some _ e),e2,hx⟩
 refine wpAny_mono key (fun fin s' x=>?_) fun e s' x=>?_
 ·cases fin with
  | done f =>
   obtain ⟨h',tk,d,acc,c,e,rfl,k,e2,ks,i1,i2⟩:=x
   cases e
   exact wpAny_bind (wpAny_load e2 (wpAny_pure (h h' tk d acc.toList ks k (Heap.lt_size e2) i1 i2)))
  | again c1 =>
   refine ⟨x.1,codeAny_mono x.2 fun q s2 y=>?_⟩
   obtain ⟨h',tk,d,acc,c,rfl,rfl,k,e2,ks,i1,i2⟩:=y
   exact wpAny_bind (wpAny_load e2 (wpAny_pure (h h' tk d acc.toList ks k (Heap.lt_size e2) i1 i2)))
 ·obtain ⟨_,_,_,_,_,e',_⟩:=x
  cases e'
theorem Tg {Q:Value->Shared->Prop} (hh:A.handled=none) (hS:GC prog w s.heap a (Dd w) σ) (h64:σ.length<64)
  (h:∀ D h' tk d out c ns,s.heap.objs.size<=D->(∀ b o,s.heap.get? b=some o->h'.get? b=some o)->h'.get? D=some { cls:=.type "list",data:=.seq out c }->IntsAre out.toList ns->ns.Perm σ->ns.Pairwise (· <= ·)->Q (.ref D) { s with heap:=h',toks:=tk,drawn:=d }) :
  wpAny (model prog w) A (call (.builtin "sorted") [.ref a]) Q E s:=by
 refine Calls.call_function_entry kind_sorted plain_sorted entry_sorted (args_sorted1 _) ?_
 unfold Builtin.«sorted»
 refine wpAny_bind (m:=checkCount "sorted" 1 1 _) (wpAny_pure (wpAny_bind (QX (A:=A.in1) (by simpa using hh) hS fun h' tk d acc ks k lt i1 i2=>?_)))
 have len:acc.length<64:=by rw [IntsAre.length i1,i2.length_eq]; exact h64
 refine wpAny_bind (wpAny_newList ?_ (by rw [sizeLine_eq]; omega))
 have e1:(h'.push (seqObj "list" acc.toArray 0)).get? h'.objs.size=some (seqObj "list" acc.toArray 0):=Heap.get?_push_size _ rfl
 refine wpAny_bind (wpAny_holding (wpAny_call_entry slot_list_sort ⟨_,e1,rfl⟩ entry_list_sort (list_sort_tree e1 i1 len fun out ns a1 a2 a3=>⟨_,rfl,?_⟩) (args_list_sort _)))
 obtain ⟨c,e2⟩:=sortedHeap_at (out:=out) e1
 refine wpAny_pure ⟨_,rfl,h h'.objs.size _ tk d out c ns (Nat.le_of_lt lt) (fun b o e=>?_) e2 a1 (a2.trans i2) a3⟩
 have lb:=Heap.lt_size (k b o e)
 rw [sortedHeap_old (Nat.ne_of_lt lb) (by rw [size_push']; exact Nat.lt_succ_of_lt lb)]
 exact Heap.get?_push_of_some _ (k b o e)
end
end Wd
end PartSetK
namespace L2
open PySem PySem.Spec PyProof.Rows
noncomputable def Vo (P:Program) (w:World) (a:Addr) (τ:List Int):HO:=.ext fun h=>Wd.GC P w h a (Wd.Dd w) τ
theorem Vk {P:Program} {w:World} {H:Hp} {h:Heap} {a:Addr} {τ:List Int} (g:Wd.GC P w h a (Wd.Dd w) τ):CJ P w H h a (Vo P w a τ) :=
 ⟨g,(let ⟨_,_,_,e,_⟩:=g; ⟨_,e⟩),fun _ _ g k=>g.keep k⟩
theorem Kd:∀ {ns:List Int} {us:List Value},Vals (ns.map V.int) us->IntsAre us ns
 | [],_,r=>by cases r; exact .nil
 | n::ns,_,r=>by
  cases r with
  | cons r t =>
   obtain ⟨tk,rfl⟩:=r
   exact .cons n tk (Kd t)
theorem Hb:∀ {ns:List Int} {us:List Value},IntsAre us ns->Vals (ns.map V.int) us
 | _,_,.nil=>.nil
 | _,_,.cons n t r=>.cons ⟨t,rfl⟩ (Hb r)
section
variable {X:Cx} {pins:List (Addr × Obj)} {σ:St} {H:Hp} {s:Shared} {h':Heap} {a:Addr} {o:HO}
theorem Inv.bH {t':Nat} {d':Drawn} (I:Inv X pins σ H s) (k:∀ b u,s.heap.get? b=some u->h'.get? b=some u) (hp:s.heap.objs.size<=a) (new:CJ X.prog X.w (upd H a o) h' a o) :
  Inv X pins σ (upd H a o) { s with heap:=h',drawn:=d',toks:=t' } :=
 I.call (g':=s.gens) (d':=d') (t':=t') (ch:=[]) (Un.laid k hp (I.hok.fresh hp)) (I.hok.laid k hp new) I.bare fun b z=>absurd z (by simp)
theorem TQ (hc:X.calm=true):Ey X (.type "set") (fun xs H Q=>∃ (l:Addr) (ns:List Int),xs=[V.ref l]/\CK X.K H l (ns.map V.int)/\ns.length<=1000/\∀ p,H p=none->Q (.ref p) (upd H p (Vo X.prog X.w p (ns.foldl Wd.Ed [])))):=by
 intro pins s σ H xs us Q I r h
 obtain ⟨l,ns,rfl,hl,hz,q⟩:=h
 obtain ⟨u,rfl,ru⟩:=vals1 r
 cases ru
 obtain ⟨its,rv,pl,_⟩:=I.list hl
 have hn:H s.heap.objs.size=none:=I.hok.fresh (Nat.le_refl _)
 refine Wd.cG (I.ok.hd hc) pl.isList (by simpa using Kd rv) (by unfold scanBound; omega) fun h' tk g k=>?_
 exact ⟨.ref s.heap.objs.size,_,I.laid (t':=tk) k (Nat.le_refl _) (Vk g),rfl,q _ hn⟩
theorem Mg (hc:X.calm=true):Ey X (.builtin "sorted") (fun xs H Q=>∃ (a:Addr) (τ:List Int),xs=[V.ref a]/\H a=some (Vo X.prog X.w a τ)/\τ.length<64/\∀ (p:Addr) (ns:List Int),H p=none->ns.Perm τ->ns.Pairwise (· <= ·)->Q (.ref p) (upd H p (.lst (ns.map V.int)))):=by
 intro pins s σ H xs us Q I r h
 obtain ⟨a,τ,rfl,ha,hz,q⟩:=h
 obtain ⟨u,rfl,ru⟩:=vals1 r
 cases ru
 obtain ⟨g,_,_⟩:=(show CJ X.prog X.w H s.heap a (Vo X.prog X.w a τ) from I.hok a _ ha)
 refine Wd.Tg (I.ok.hd hc) g hz fun D h' tk d out c ns le k e i1 p o=>?_
 have hn:H D=none:=I.hok.fresh le
 have hlen:(ns.map V.int).length<=sizeLine:=by
  rw [List.length_map,p.length_eq,sizeLine_eq]
  omega
 exact ⟨.ref D,_,I.bH (o:=.lst (ns.map V.int)) (t':=tk) (d':=d) k le ⟨hlen,out.toList,c,Hb i1,e⟩,rfl,q D ns hn p o⟩
theorem VD:GF X (binaryOp .LShift) (rI (fun i j=>0<=j/\(Builtin.Int.intBits i:Int)+j<=2 ^ 27) fun i j=>.int (i * 2 ^ j.toNat)):=Xx fun _ _ _ _ _ _ _ hc q=>lshift_int hc.1 hc.2 q
end
end L2
namespace L2
open PySem PySem.Spec PyProof.Rows
section
variable {X:Cx}
end
section
variable {prog:Program} {w:World} {A:Around} {E:Value->Shared->Prop} {s:Shared} {r l:Addr}
end
section
variable {X:Cx} {p1 p2 q1 q2:Pos} {e:Expr} {te:TE}
end
end L2
namespace L2
open PySem PySem.Spec PyProof.Rows
noncomputable def dI (K:PySem.W.Frag) (a:Addr) (xs:List V):It :=
 ⟨fun i H=>CK K H a xs/\i<xs.length,fun i H x H'=>H'=H/\xs[xs.length - 1 - i]? = some x,fun i H=>CK K H a xs/\i=xs.length⟩
theorem Tr {P:Program} {w:World} {K:PySem.W.Frag} {tg:Expr} (a it:Addr) (xs:List V):Turn P w K tg (dI K a xs) [it] it (fun i h=>h.IsRevIter it a ((xs.length:Int) - 1 - (i:Nat))) where
 mem:=by simp
 obj:=fun i h st b hb=>by
  have e:b=it:=by simpa using hb
  subst e
  obtain ⟨o,e,c,d⟩:=st
  exact ⟨o,e,fun v z=>by rw [d] at z; cases z⟩
 keep:=fun i h h' st k=>st.at fun o e=>k it (by simp) o e
 item:=by
  intro X hP hw hK hc i pins s σ H E I hf st hg
  subst hP hw hK
  obtain ⟨hq,hlt⟩:=hg
  obtain ⟨its,rv,p,hz⟩:=I.list hq
  have hx:xs[xs.length - 1 - i]? = some (xs[xs.length - 1 - i]'(by omega)):=List.getElem?_eq_getElem (by omega)
  obtain ⟨u,hu,ru⟩:=rv.get hx
  obtain ⟨f0,f1,f2,f3,f4,f5⟩:=hf it (by simp)
  have e:(xs.length:Int) - 1 - ((i:Nat):Int)=((xs.length - 1 - i:Nat):Int):=by omega
  rw [e] at st
  refine wpAny_pyNext_rev_item st p.isList (x:=u) (by simpa using hu) fun h' st' sb=>?_
  have I1:Inv X pins σ H { s with heap:=h' }:=I.turned (t':=s.toks) (fun b o hb e=>(sb.2 b hb).trans e) f0 f1 f3 f4 f5
  have e2:((xs.length - 1 - i:Nat):Int) - 1=(xs.length:Int) - 1 - ((i+1:Nat):Int):=by omega
  rw [e2] at st'
  obtain ⟨o,eo,c,d⟩:=id st'
  exact ⟨u,rfl,M9 (s:={ s with heap:=h' }) eo c d (by decide) ⟨_,H,I1,ru,⟨rfl,hx⟩,st',fun b hb=>(hf b hb).1⟩⟩
 done:=by
  intro X hP hw hK hc i pins s σ H E I hf st hg
  subst hP hw hK
  obtain ⟨hq,rfl⟩:=hg
  obtain ⟨f0,f1,f2,f3,f4,f5⟩:=hf it (by simp)
  have e:(xs.length:Int) - 1 - ((xs.length:Nat):Int) = -1:=by omega
  rw [e] at st
  exact wpAny_pyNext_rev_end (I.ok.hd hc) st fun h' eb=>⟨rfl,I.turned (t':=s.toks) (fun b o hb e=>eb b o hb e) f0 f1 f3 f4 f5⟩
 self:=fun _ _ _ _ _ st h=>wpAny_pyIter_revIter st h
section
variable {X:Cx} {tg:Expr}
noncomputable def gj (K:PySem.W.Frag) (ta:TA):TI:=fun σ H R=>ta σ H fun vs H1=>∃ a xs,vs=[.ref a]/\CK K H1 a xs/\R (dI K a xs) H1
theorem XS {l:Expr} {ta:TA} {p pos:Pos} (hg:Gl X "reversed") (hm:X.mg "reversed" = none) (ha:PA X [l] ta) (hs:starEach [l] X.env=[(false,eval l X.env)]:=by rfl):PI X tg (.Call (.Name "reversed" p) [l] [] pos) (gj X.K ta):=by
 intro pins s σ H R I h
 refine Call_ (GR I hg hm PyProof.Rows.boot_reversed (PyProof.Rows.callWith_type1 (By (ha pos pins s σ H _ I h) fun us s1 ⟨vs,H1,I1,r1,q1⟩=>?_) hs rfl))
 obtain ⟨a,xs,e,hq,q⟩:=q1
 subst e
 obtain ⟨u,rfl,ru⟩:=vals1 r1
 cases ru
 obtain ⟨its,rv,pl,hz⟩:=I1.list hq
 refine call_reversed_list pl.isList ?_
 have hit:(s1.heap.push (revObj a ((its.toArray.size:Int) - 1))).IsRevIter s1.heap.objs.size a ((its.toArray.size:Int) - 1):=⟨_,Heap.get?_push_size _ rfl,rfl,rfl⟩
 refine wpAny_pyIter_revIter (s:={ s1 with heap:=s1.heap.push (revObj a ((its.toArray.size:Int) - 1)) }) hit ?_
 refine ⟨s1.heap.objs.size,[s1.heap.objs.size],_,_,H1,rfl,I1.kept (t':=s1.toks) fun b o e=>Heap.get?_push_of_some _ e,Tr a _ xs,?_,fun b hb=>?_,q⟩
 ·have hl:=rv.length
  have e2:((its.toArray.size:Nat):Int) - 1=(xs.length:Int) - 1 - ((0:Nat):Int):=by
   rw [List.size_toArray]
   omega
  show (s1.heap.push (revObj a ((its.toArray.size:Int) - 1))).IsRevIter s1.heap.objs.size a ((xs.length:Int) - 1 - ((0:Nat):Int))
  rw [← e2]
  exact hit
 ·have e:b=s1.heap.objs.size:=by simpa using hb
  subst e
  exact I1.J9 (Nat.le_refl _) (I1.hok.fresh (Nat.le_refl _))
theorem Vi {K:PySem.W.Frag} {a:Addr} {xs:List V} {g:TG} {tb:TS} {D:Ends} {σ:St} {H:Hp} (Pv:Nat->St->Hp->Prop) (h0:Pv 0 σ H) (hl:∀ i σ H,i<=xs.length->Pv i σ H->CK K H a xs)
  (hs:∀ i x σ H,i<xs.length->xs[xs.length - 1 - i]? = some x->Pv i σ H->g x σ H fun σ2 H2=>tb { D with nx:=Pv (i+1),ct:=Pv (i+1),bk:=D.nx } σ2 H2) (hd:∀ σ H,Pv xs.length σ H->D.nx σ H) :
  ∃ W:Nat->Nat->St->Hp->Prop,(∃ m,W 0 m σ H)/\∀ i m σ H,W i m σ H ->
   ((dI K a xs).stop i H/\D.nx σ H) \/ ((dI K a xs).go i H/\∃ N:St->Hp->Prop,(∀ σ' H',N σ' H'->∃ m',m'<m/\W (i+1) m' σ' H')/\∀ x H',(dI K a xs).yld i H x H'->g x σ H' fun σ2 H2=>tb { D with nx:=N,ct:=N,bk:=D.nx } σ2 H2):=by
 refine ⟨fun i m σ H=>m=xs.length - i/\i<=xs.length/\Pv i σ H,⟨xs.length,by simp,Nat.zero_le _,h0⟩,?_⟩
 rintro i m σ H ⟨rfl,hi,p⟩
 have q:=hl i σ H hi p
 by_cases hlt:i<xs.length
 ·refine .inr ⟨⟨q,hlt⟩,Pv (i+1),fun σ' H' p'=>⟨xs.length - (i+1),by omega,rfl,by omega,p'⟩,?_⟩
  rintro x H' ⟨rfl,hx⟩
  exact hs i x σ H' hlt hx p
 ·have e:i=xs.length:=by omega
  subst e
  exact .inl ⟨⟨q,rfl⟩,hd σ H p⟩
end
end L2
namespace L2
open PySem PySem.Spec PySem.Calls PyProof.Rows
section
variable {X:Cx}
theorem range_any (bs:List Bool):((List.range bs.length).any fun i=>(bs[i]?).getD false)=bs.any id:=by
 rw [Bool.eq_iff_iff,List.any_eq_true,List.any_eq_true]
 constructor
 ·rintro ⟨i,hi,e⟩
  have hi':=List.mem_range.mp hi
  rw [List.getElem?_eq_getElem hi'] at e
  exact ⟨_,List.getElem_mem hi',e⟩
 ·rintro ⟨b,hb,e⟩
  obtain ⟨i,hi,q⟩:=List.mem_iff_getElem.mp hb
  refine ⟨i,List.mem_range.mpr hi,?_⟩
  rw [List.getElem?_eq_getElem hi,q]
  exact e
theorem JW (hc:X.calm=true):Ey X (.builtin "any") (fun xs H Q=>∃ (p:Addr) (bs:List Bool),xs=[V.ref p]/\CK X.K H p (bs.map V.bl)/\Q (.bl (bs.any id)) H):=by
 intro pins s σ H xs us Q I r h
 obtain ⟨p,bs,rfl,hp,q⟩:=h
 obtain ⟨u,rfl,ru⟩:=vals1 r
 cases ru
 obtain ⟨its,rv,pl,hz⟩:=I.list hp
 have hlen:bs.length=its.length:=by have:=rv.length; rw [List.length_map] at this; exact this
 have hlt:p<s.heap.objs.size:=by obtain ⟨_,e,_⟩:=pl.isList; exact Heap.lt_size e
 refine call_any_walk (wpAny_pyIter_list pl.isList ?_)
 refine ⟨s.heap.objs.size,[s.heap.objs.size,p],[s.heap.objs.size],its.toArray.size,_,_,fun i=>(bs[i]?).getD false,rfl,Walks.list (A:=X.A.in1) (I.ok.hd hc) _ p (Nat.ne_of_lt hlt) its.toArray,
  ⟨⟨_,Heap.get?_push_size _ rfl,rfl,rfl⟩,pl.isList.push _⟩,fun i v s' Q' E' hP hQ=>?_,fun h' tk hk=>?_⟩
 ·have hP':its[i]? = some v:=by simpa using hP
  have hi:i<its.length:=(List.getElem?_eq_some_iff.mp hP').1
  have hb:bs[i]? = some bs[i]:=by simp [hlen,hi]
  obtain ⟨u,hu,ru⟩:=rv.get (i:=i) (x:=.bl bs[i]) (by rw [List.getElem?_map,hb]; rfl)
  rw [hP'] at hu
  cases hu
  cases ru
  dsimp only at hQ
  rw [hb] at hQ
  exact wpAny_truthy_bool hQ
 ·have e:((List.range its.toArray.size).any fun i=>(bs[i]?).getD false)=bs.any id:=by rw [List.size_toArray,← hlen]; exact range_any bs
  rw [e]
  refine ⟨.bl (bs.any id),H,I.kept (t':=tk) fun b o eb=>hk b o (fun hm=>?_) (Heap.get?_push_of_some _ eb),rfl,q⟩
  rw [List.mem_singleton.mp hm] at eb
  exact Nat.lt_irrefl _ (Heap.lt_size eb)
theorem Gg (ns:List Int):∀ j,j<=ns.length->preSum (fun i=>(ns[i]?).getD 0) j=(ns.take j).sum
 | 0,_=>rfl
 | j+1,h=>by
  have ih:=Gg ns j (by omega)
  show preSum _ j+(ns[j]?).getD 0=_
  rw [ih,List.take_add_one,List.getElem?_eq_getElem (by omega),List.sum_append]
  simp
theorem Rv (M:Int):∀ ns:List Int,(∀ n∈ns,0<=n/\n<=M)->0<=ns.sum/\ns.sum<=ns.length * M
 | [],_=>by simp
 | n::r,h=>by
  have h1:=h n (List.mem_cons_self ..)
  have h2:=Rv M r fun x hx=>h x (List.mem_cons_of_mem _ hx)
  have e:((n::r).length:Int) * M=r.length * M+M:=by rw [List.length_cons]; push_cast; rw [Int.add_mul,Int.one_mul]
  rw [e,List.sum_cons]
  omega
theorem Hv (hc:X.calm=true):Ey X (.builtin "sum") (fun xs H Q=>∃ (p:Addr) (ns:List Int),xs=[V.ref p]/\CK X.K H p (ns.map V.int)/\(∀ n∈ns,0<=n/\n<=100000)/\ns.length<=1000/\Q (.int ns.sum) H):=by
 intro pins s σ H xs us Q I r h
 obtain ⟨p,ns,rfl,hp,hb,hl,q⟩:=h
 obtain ⟨u,rfl,ru⟩:=vals1 r
 cases ru
 obtain ⟨its,rv,pl,hz⟩:=I.list hp
 have hlen:ns.length=its.length:=by have:=rv.length; rw [List.length_map] at this; exact this
 have hlt:p<s.heap.objs.size:=by obtain ⟨_,e,_⟩:=pl.isList; exact Heap.lt_size e
 refine call_sum_walk (wpAny_pyIter_list pl.isList ?_)
 refine ⟨s.heap.objs.size,[s.heap.objs.size,p],[s.heap.objs.size],its.toArray.size,_,_,fun i=>(ns[i]?).getD 0,rfl,Walks.list (A:=X.A.in1) (I.ok.hd hc) _ p (Nat.ne_of_lt hlt) its.toArray,
  ⟨⟨_,Heap.get?_push_size _ rfl,rfl,rfl⟩,pl.isList.push _⟩,fun b hb=>?_,fun i v hP=>?_,fun j hj=>?_,fun h' tk t' hk=>?_⟩
 ·rw [Heap.size_push]
  rcases List.mem_cons.mp hb with rfl | hb
  ·exact Nat.lt_succ_self _
  ·rw [List.mem_singleton.mp hb]
   exact Nat.lt_succ_of_lt hlt
 ·have hP':its[i]? = some v:=by simpa using hP
  have hi:i<its.length:=(List.getElem?_eq_some_iff.mp hP').1
  have hb:ns[i]? = some ns[i]:=by simp [hlen,hi]
  obtain ⟨u,hu,ru⟩:=rv.get (i:=i) (x:=.int ns[i]) (by rw [List.getElem?_map,hb]; rfl)
  rw [hP'] at hu
  cases hu
  obtain ⟨t,rfl⟩:=ru
  exact ⟨t,by dsimp only; rw [hb]; rfl⟩
 ·have hj':j<ns.length:=by rw [hlen]; simpa using hj
  rw [Gg ns (j+1) (by omega)]
  have h1:=hb ns[j] (List.getElem_mem hj')
  have h2:=Rv 100000 (ns.take (j+1)) fun n hn=>hb n (List.mem_of_mem_take hn)
  have h3:(ns.take (j+1)).length<=1000:=by rw [List.length_take]; omega
  unfold InLong
  dsimp only
  rw [List.getElem?_eq_getElem hj']
  rw [Option.getD_some]
  refine ⟨⟨?_,?_⟩,⟨?_,?_⟩⟩ <;> omega
 ·have e:preSum (fun i=>(ns[i]?).getD 0) its.toArray.size=ns.sum:=by rw [List.size_toArray,← hlen,Gg ns _ (Nat.le_refl _),List.take_length]
  rw [e]
  refine ⟨.int ns.sum,H,I.kept (t':=tk) fun b o eb=>hk b o (fun hm=>?_) (Heap.get?_push_of_some _ eb),⟨_,rfl⟩,q⟩
  rw [List.mem_singleton.mp hm] at eb
  exact Nat.lt_irrefl _ (Heap.lt_size eb)
theorem MF:∀ {ts:List Str} {its:List Value},Vals (ts.map V.str) its->∃ l:List (Str × Tok),its=strValues l/\l.map (·.1)=ts
 | [],_,h=>by
  cases h
  exact ⟨[],rfl,rfl⟩
 | t::ts,_,h=>by
  cases h with
  | cons a b =>
   obtain ⟨k,rfl⟩:=a
   obtain ⟨l,rfl,rfl⟩:=MF b
   exact ⟨(t,k)::l,rfl,rfl⟩
theorem Ut:fj X "str.join" (fun x xs H Q=>∃ (z:Str) (p:Addr) (ts:List Str),x=V.str z/\xs=[V.ref p]/\CK X.K H p (ts.map V.str)/\JoinOk z ts=true/\Q (.str (Txt.join z ts)) H):=by
 intro pins s σ H x xs v us Q I rx r h
 obtain ⟨z,p,ts,rfl,rfl,hp,hj,q⟩:=h
 obtain ⟨t,rfl⟩:=rx
 obtain ⟨w,rfl,rw'⟩:=Vals.one r
 cases rw'
 obtain ⟨its,rv,pl,hz⟩:=I.list hp
 obtain ⟨l,rfl,el⟩:=MF rv
 exact SC.join pl.isList el hj fun t' k=>⟨.str _,H,I.tok _,⟨_,rfl⟩,q⟩
structure KDict (K:PySem.W.Frag) (P:Params) (a:Addr):Prop where
 is:∃ es n,K.lookup a=some ⟨.type "dict",none,.dict es n,#[]⟩/\PySem.W.KeysLit P es.toList
 lo:(a == sysModules)=false
noncomputable def eZ (K:PySem.W.Frag) (P:Params) (td ty:TE):TE:=fun σ H Q=>td σ H fun x H1=>ty σ H1 fun y H2=>∃ a z v u,x=.ref a/\y=.str z/\KDict K P a/\PySem.W.nsIn K a z=some (some u)/\RelV v u/\Q v H2
noncomputable def Z8 (K:PySem.W.Frag) (P:Params) (neg:Bool) (ty td:TE):TE:=fun σ H Q=>ty σ H fun y H1=>td σ H1 fun x H2=>∃ a z r,x=.ref a/\y=.str z/\KDict K P a/\PySem.W.nsIn K a z=some r/\Q (.bl (if neg then !r.isSome else r.isSome)) H2
variable {o i:Expr} {pos:Pos} {td ty:TE}
theorem Li (ho:PE X o td) (hi:PE X i ty) (hs:W2 i):PE X (.Subscript o i pos) (eZ X.K X.w.params td ty):=by
 intro pins s σ H Q I h
 refine Pu PySem.F.slot_dict_getitem.lookup hs (By (ho pins s σ H _ I h) fun u s1 ⟨x,H1,I1,rx,q1⟩=>By (hi pins s1 σ H1 _ I1 q1) fun iv s2 hq0=>?_)
 obtain ⟨y,H2,I2,ry,a,z,v,w,ex,ey,kd,hw,rw',q2⟩:=hq0
 subst ex ey
 cases rx
 obtain ⟨t,rfl⟩:=ry
 obtain ⟨⟨es,n,hl,hk⟩,lo⟩:=kd
 have hm:=PySem.W.mapOf_K (prog:=X.prog) I2.H_ hl hk
 exact ⟨hm.typeIs,wpAny_getItem_of (strKind_is X.prog X.w z t) hm (PySem.W.find_K hl hw) ⟨v,H2,I2.tok _,rw',q2⟩⟩
theorem Rt (hi:PE X i ty) (ho:PE X o td):PC X .In i o (Z8 X.K X.w.params false ty td):=by
 intro pins s σ H Q I h
 refine By (hi pins s σ H _ I h) fun iv s1 ⟨y,H1,I1,ry,q1⟩=>By (ho pins s1 σ H1 _ I1 q1) fun u s2 hq0=>?_
 obtain ⟨x,H2,I2,rx,a,z,r,ex,ey,kd,hw,q2⟩:=hq0
 subst ex ey
 cases rx
 obtain ⟨t,rfl⟩:=ry
 obtain ⟨⟨es,n,hl,hk⟩,lo⟩:=kd
 refine wpAny_in_of (strKind_is X.prog X.w z t) lo (PySem.W.mapOf_K (prog:=X.prog) I2.H_ hl hk) ?_
 rw [PySem.W.find_K hl hw]
 exact ⟨.bl r.isSome,H2,I2.tok _,rfl,q2⟩
theorem RK (hi:PE X i ty) (ho:PE X o td):PC X .NotIn i o (Z8 X.K X.w.params true ty td):=by
 intro pins s σ H Q I h
 refine By (hi pins s σ H _ I h) fun iv s1 ⟨y,H1,I1,ry,q1⟩=>By (ho pins s1 σ H1 _ I1 q1) fun u s2 hq0=>?_
 obtain ⟨x,H2,I2,rx,a,z,r,ex,ey,kd,hw,q2⟩:=hq0
 subst ex ey
 cases rx
 obtain ⟨t,rfl⟩:=ry
 obtain ⟨⟨es,n,hl,hk⟩,lo⟩:=kd
 refine wpAny_notIn_of (strKind_is X.prog X.w z t) lo (PySem.W.mapOf_K (prog:=X.prog) I2.H_ hl hk) ?_
 rw [PySem.W.find_K hl hw]
 exact ⟨.bl (!r.isSome),H2,I2.tok _,rfl,q2⟩
end
noncomputable def stepV (xs:List V) (lo hi:Option Int) (k:Int):List V:=(sliceRange (sliceBounds lo hi (some k) xs.length).1 (sliceBounds lo hi (some k) xs.length).2.1 (sliceBounds lo hi (some k) xs.length).2.2).filterMap (xs[·]?)
theorem Qn {xs:List V} {lo hi:Option Int} {k:Int} {y:V} (h:y∈stepV xs lo hi k):y∈xs:=by
 obtain ⟨j,_,e⟩:=List.mem_filterMap.mp h
 exact List.mem_of_getElem? e
theorem Qv:∀ {xs:List V} {us:List Value},Vals xs us->∀ js:List Nat,Vals (js.filterMap (xs[·]?)) (js.filterMap (us[·]?)):=by
 intro xs us h js
 induction js with
 | nil=>exact .nil
 | cons j js ih =>
  rw [List.filterMap_cons,List.filterMap_cons]
  by_cases hj:j<xs.length
  ·have ex:xs[j]? = some xs[j]:=List.getElem?_eq_getElem hj
   obtain ⟨u,hu,ru⟩:=h.get ex
   rw [ex,hu]
   exact .cons ru ih
  ·have hl:=h.length
   rw [List.getElem?_eq_none (by omega),List.getElem?_eq_none (by omega)]
   exact ih
noncomputable def cN (K:PySem.W.Frag) (te:TE) (tl th:TO) (ts:TE):TE:=fun σ H Q=>te σ H fun x H1=>tl σ H1 fun lo H2=>th σ H2 fun hi H3=>ts σ H3 fun k H4=>∃ j,k=.int j/\0<j/\∃ a xs,x=.ref a/\CK K H4 a xs/\∀ p,H4 p=none->(stepV xs lo hi j).length<=xs.length->Q (.ref p) (upd H4 p (.lst (stepV xs lo hi j)))
section
variable {X:Cx} {e st:Expr} {lo hi:Option Expr} {te ts:TE} {tl th:TO} {p2 pos:Pos}
theorem LK (he:PE X e te) (hl:PO X lo tl) (hu:PO X hi th) (hst:PE X st ts):PE X (.Subscript e (.Slice lo hi (some st) p2) pos) (cN X.K te tl th ts):=by
 intro pins s σ H Q I h
 refine Subscript_ (By (he pins s σ H _ I h) fun v s1 hq0=>?_)
 obtain ⟨x,H1,I1,r1,q1⟩:=hq0
 refine wpAny_Slice (By (hl pins s1 σ H1 _ I1 q1) fun vl s2 ⟨l,H2,I2,rl,q2⟩=>By (hu pins s2 σ H2 _ I2 q2) fun vu s3 hq0=>?_)
 obtain ⟨u,H3,I3,ru,q3⟩:=hq0
 rw [evalPart_some]
 refine By (hst pins s3 σ H3 _ I3 q3) fun vk s4 hq0=>?_
 obtain ⟨k,H4,I4,rk,j,ek,hj,a,xs,ex,hx,q⟩:=hq0
 subst ek ex
 obtain ⟨t,rfl⟩:=rk
 cases r1
 have I5:Inv X pins σ H4 { s4 with heap:=s4.heap.push { cls:=.type "slice",data:=.fields #[vl,vu,.int j t] } }:=I4.kept (t':=s4.toks) fun b ob q=>Heap.get?_push_of_some _ q
 obtain ⟨its,r,ht,hz⟩:=I5.list hx
 have hlen:=r.length
 show wpAny (model X.prog X.w) X.A (subscriptTail e (.Slice lo hi (some st) p2) (.ref a) (.ref s4.heap.objs.size)) (EP X pins σ Q) X.xe { s4 with heap:=s4.heap.push { cls:=.type "slice",data:=.fields #[vl,vu,.int j t] } }
 refine tail_any (ops:=[.ref a,.ref s4.heap.objs.size]) ht.isList.typeIs slot_list_getitem.lookup ?_ (by with_unfolding_all rfl)
 refine wpAny_getItem_list_slice ht.isList (Heap.IsSliceOf.new ..) rl ru (.int j t) (by intro z; cases z; omega) ?_ (by rw [List.size_toArray] <;> omega)
 have ep:slicePick its.toArray l u (some j)=((sliceRange (sliceBounds l u (some j) xs.length).1 (sliceBounds l u (some j) xs.length).2.1 (sliceBounds l u (some j) xs.length).2.2).filterMap (its[·]?)).toArray:=by
  unfold slicePick
  rw [List.size_toArray,hlen]
  simp only [List.getElem?_toArray]
 have hv:Vals (stepV xs l u j) ((sliceRange (sliceBounds l u (some j) xs.length).1 (sliceBounds l u (some j) xs.length).2.1 (sliceBounds l u (some j) xs.length).2.2).filterMap (its[·]?)):=Qv r _
 have hsz:(stepV xs l u j).length<=xs.length:=by
  have:=slicePick_size_le its.toArray l u (some j)
  rw [ep,List.size_toArray,List.size_toArray,← hv.length] at this
  omega
 rw [ep]
 exact ⟨.ref _,_,I5.laid (t':=s4.toks) (o:=.lst (stepV xs l u j)) (fun b ob q=>Heap.get?_push_of_some _ q) (Nat.le_refl _) ⟨Nat.le_trans hsz hz,_,0,hv,Heap.get?_push_size _ rfl⟩,rfl,q _ (I5.hok.fresh (Nat.le_refl _)) hsz⟩
end
end L2
namespace Og
open PySem L2
theorem Al {X:Cx} {K:PySem.W.Frag} (h:X.K=K):Yx X (Zw K):=h ▸ Xq
theorem Bc {X:Cx} {K:PySem.W.Frag} (h:X.K=K):Yx X (dG K):=h ▸ El
theorem JZ {X:Cx} {K:PySem.W.Frag} (h:X.K=K):GF X (compareOp .In) (fu K false):=h ▸ Qu
theorem Sw {X:Cx} {e:Expr}:PE X e (fun _ _ _=>False):=fun _ _ _ _ _ _ h=>h.elim
structure R where
 w:Str
 nm:Str
 rest:List V
noncomputable abbrev R.v (r:R):List V:=.str r.w :: .str r.nm::r.rest
noncomputable def isNm (z:Str):Prop:=1<=z.length/\z.length<=8/\∀ c∈z.cps.toList,97<=c/\c<=122
noncomputable def Rows (H:Hp) (ρ:V->R) (vs:List V):Prop:=∀ v∈vs,TupAt H (ρ v).v v
theorem Rows.mono {H H':Hp} {ρ:V->R} {vs:List V} (s:Aj H H') (h:Rows H ρ vs):Rows H' ρ vs:=fun v hv=>(h v hv).mono s
theorem Rows.sub {H:Hp} {ρ:V->R} {vs us:List V} (h:Rows H ρ vs) (hs:∀ v∈us,v∈vs):Rows H ρ us:=fun v hv=>h v (hs v hv)
noncomputable abbrev pw (ρ:V->R) (w:Str) (v:V):Bool:=decide (V.str (ρ v).w=V.str w)
noncomputable abbrev pn (ρ:V->R) (t:Str) (v:V):Bool:=decide (V.str (ρ v).nm=V.str t)
noncomputable def V9 (ρ:V->R) (vs:List V) (w t:Str):Bool:=(vs.filter (pw ρ w)).any (pn ρ t)
noncomputable def KTup (K:PySem.W.Frag) (a:Addr) (xs:List V):Prop:=∃ (o:Obj) (its:Array Value) (n:Nat),K.lookup a=some o/\o.cls=.type "tuple" /\ o.data=.seq its n/\its.size<=sizeLine/\Vals xs its.toList
theorem KTup.sq {K:PySem.W.Frag} {a:Addr} {xs:List V} (h:KTup K a xs) (H:Hp):Hc K H a xs:=.inr h
noncomputable abbrev named:List Str:=["board","rank","stop","coupler","mute"]
noncomputable def HS (K:PySem.W.Frag) (aB:Addr) (ρ:V->R) (vs:List V) (x:V) (part:Str):Prop :=
 (∃ (i lo hi:Int) (b:Addr),x=.int i/\PySem.W.nsIn K aB part=some (some (.ref b))/\KTup K b [.int lo,.int hi]/\lo<=i/\i<=hi) \/
 (PySem.W.nsIn K aB part=some none/\part = "new" /\ ∃ t,x=.str t/\isNm t/\∀ w∈named,V9 ρ vs w t=false) \/
 (PySem.W.nsIn K aB part=some none/\¬ part = "new" /\ ∃ t,x=.str t/\isNm t/\V9 ρ vs part t=true)
structure KZ (K:PySem.W.Frag) (aB aP aM:Addr) (ρ:V->R) (vs:List V) (r:R):Prop where
 ns:¬ r.w = "step"
 nl:¬ r.w = "line"
 parts:∃ (ap:Addr) (ps:List Str),PySem.W.nsIn K aP r.w=some (some (.ref ap))/\KTup K ap (ps.map V.str)/\(V.str r.nm::r.rest).length=ps.length/\ps.length<=10 /\
  ∀ (i:Nat) x y,(V.str r.nm::r.rest)[i]? = some x->ps[i]? = some y->HS K aB ρ vs x y
 room:∃ (m:Int) (t:Tok),PySem.W.nsIn K aM r.w=some (some (.int m t))/\(((vs.filter (pw ρ r.w)).length:Nat):Int)<m
noncomputable def letters:Str:="abcdefghijklmnopqrstuvwxyz"
noncomputable abbrev Z7 (y:Str) (c:Nat):Bool:=!(Builtin.Str.occurrences y ⟨#[c]⟩ 0 y.length 1).isEmpty
theorem Ua:∀ c<128,Z7 letters c=decide (97<=c/\c<=122):=by decide +kernel
theorem Av {H:Hp} {p:Addr} {o:HO} (h:H p=none):Aj H (upd H p o):=fun b u e=>by rw [BP (BL e h)]; exact e
theorem Cg {n:Nat} (h:n<=1000):n<=sizeLine:=Nat.le_of_lt (Az h)
theorem ty_int {K:PySem.W.Frag}:PySem.W.kitOne K (.type "int") (.type "int")=some true:=by kernel_rfl
theorem V5 {K:PySem.W.Frag}:PySem.W.kitOne K (.type "int") (.type "bool")=some false:=by kernel_rfl
theorem Vy {K:PySem.W.Frag}:PySem.W.kitOne K (.type "list") (.type "list")=some true:=by kernel_rfl
theorem Z1 {K:PySem.W.Frag}:PySem.W.kitOne K (.type "tuple") (.type "tuple")=some true:=by kernel_rfl
theorem Vw {K:PySem.W.Frag}:PySem.W.kitOne K (.type "str") (.type "str")=some true:=by kernel_rfl
theorem Gj (vs:List V) (n:Nat) (h:n<=vs.length):Eg vs none (some (n:Int))=vs.take n:=by
 unfold Eg
 have e1:HT.Dr vs.length 0 none=0:=rfl
 have e2:HT.Dr vs.length vs.length (some (n:Int))=n:=by
  rw [HT.Lr]
  omega
 rw [e1,e2]
 simp
theorem G8 {α:Type} (p:α->Bool) (l:List α):(l.filter p).length<=l.length:=List.length_filter_le _ _
noncomputable abbrev bV (b:Str × Nat):List V:=[.str b.1,.int (b.2:Nat)]
noncomputable abbrev FQ (b:Str × Nat):R:=⟨"board",b.1,[.int (b.2:Nat)]⟩
noncomputable abbrev qV (q:Nat × Nat):List V:=[.int (q.1:Nat),.int (q.2:Nat)]
noncomputable def Ds (bs:List (Str × Nat)):List (Nat × Nat):=bs.zipIdx.flatMap fun p=>(List.range p.1.2).map fun e=>(p.2,e)
theorem R0 (bs:List (Str × Nat)) (b:Str × Nat):Ds (bs++[b])=Ds bs++(List.range b.2).map fun e=>(bs.length,e):=by
 unfold Ds
 rw [List.zipIdx_append]
 simp
theorem Hi {bs:List (Str × Nat)} {i:Nat} {b:Str × Nat} (h:bs[i]? = some b):Ds (bs.take (i+1))=Ds (bs.take i)++(List.range b.2).map fun e=>(i,e):=by
 have hi:i<bs.length:=(List.getElem?_eq_some_iff.mp h).1
 rw [List.take_add_one,h]
 show Ds (bs.take i++[b])=_
 rw [R0,List.length_take,Nat.min_eq_left (by omega)]
theorem Kv (bs:List (Str × Nat)) (M:Nat):(∀ b∈bs,b.2<=M)->(Ds bs).length<=bs.length * M:=by
 intro h
 have key:∀ i,i<=bs.length->(Ds (bs.take i)).length<=i * M:=by
  intro i
  induction i with
  | zero=>intro _; simp [Ds]
  | succ i ih =>
   intro hi
   have hlt:i<bs.length:=by omega
   rw [Hi (List.getElem?_eq_getElem hlt),List.length_append,List.length_map,List.length_range]
   have h1:=ih (by omega)
   have h2:=h bs[i] (List.getElem_mem hlt)
   have:(i+1) * M=i * M+M:=by rw [Nat.add_mul,Nat.one_mul]
   omega
 have:=key bs.length (Nat.le_refl _)
 rw [List.take_length] at this
 exact this
theorem Cm {α β:Type} {F:α->β->Prop} {l:List α} {vs:List β} (h:Paired F l vs):∀ {v},v∈vs->∃ a∈l,F a v:=by
 induction h with
 | nil=>intro v hv; cases hv
 | cons a b ih =>
  intro v hv
  rcases List.mem_cons.mp hv with rfl | hv
  ·exact ⟨_,List.mem_cons_self ..,a⟩
  ·obtain ⟨x,hx,q⟩:=ih hv
   exact ⟨x,List.mem_cons_of_mem _ hx,q⟩
theorem Bw {α β:Type} {F:α->β->Prop} {l:List α} {vs:List β} (h:Paired F l vs):∀ {i:Nat} {a},l[i]? = some a->∃ v,vs[i]? = some v/\F a v:=by
 induction h with
 | nil=>intro i a ha; simp at ha
 | cons x y ih =>
  intro i a ha
  cases i with
  | zero =>
   simp at ha
   subst ha
   exact ⟨_,rfl,x⟩
  | succ i=>exact ih (by simpa using ha)
theorem Gk {α β:Type} {F:α->β->Prop} {l:List α} {vs:List β} (h:Paired F l vs):∀ {i:Nat} {v},vs[i]? = some v->∃ a,l[i]? = some a/\F a v:=by
 induction h with
 | nil=>intro i a ha; simp at ha
 | cons x y ih =>
  intro i a ha
  cases i with
  | zero =>
   simp at ha
   subst ha
   exact ⟨_,rfl,x⟩
  | succ i=>exact ih (by simpa using ha)
theorem Iz {α β:Type} {F:α->β->Prop} {l:List α} {vs:List β} (h:Paired F l vs):∀ n:Nat,Paired F (l.take n) (vs.take n):=by
 induction h with
 | nil=>intro n; simp; exact .nil
 | cons x y ih =>
  intro n
  cases n with
  | zero=>exact .nil
  | succ n=>exact .cons x (ih n)
theorem Fy {α β:Type} {F:α->β->Prop} {l l':List α} {vs vs':List β} (h:Paired F l vs) (h':Paired F l' vs'):Paired F (l++l') (vs++vs'):=by
 induction h with
 | nil=>exact h'
 | cons x y ih=>exact .cons x ih
theorem Bv {α β γ:Type} {F:γ->β->Prop} (g:α->γ) {l:List α} {vs:List β} (h:Paired (fun a v=>F (g a) v) l vs):Paired F (l.map g) vs:=by
 induction h with
 | nil=>exact .nil
 | cons x y ih=>exact .cons x ih
theorem FT {α β γ:Type} {F:γ->β->Prop} (g:α->γ):∀ {l:List α} {vs:List β},Paired F (l.map g) vs->Paired (fun a v=>F (g a) v) l vs
 | [],_,h=>by cases h; exact .nil
 | a::l,_,h=>by
  cases h with
  | cons x y=>exact .cons x (FT g y)
noncomputable def Jo (H:Hp) (k:Nat):V->V
 | .ref T=>match H T with
  | some (.tup xs)=>xs.getD k .non
  | _=>.non
 | _=>.non
theorem Ft {H:Hp} {zs:List V} {v:V} (h:TupAt H zs v) (k:Nat):Jo H k v=zs.getD k .non:=by
 obtain ⟨T,rfl,e⟩:=h
 show (match H T with | some (.tup xs)=>xs.getD k V.non | _=>V.non)=_
 rw [e]
theorem JR {α:Type} {H:Hp} {g:α->List V} (k:Nat) {l:List α} {vs:List V} (h:Paired (fun a v=>TupAt H (g a) v) l vs):vs.map (Jo H k)=l.map fun a=>(g a).getD k .non:=by
 induction h with
 | nil=>rfl
 | cons x y ih=>rw [List.map_cons,List.map_cons,ih,Ft x]
noncomputable def SX (x:Addr) (H H':Hp):Prop:=∀ b o,H b=some o->b ≠ x->H' b=some o
theorem SX.trans {x:Addr} {H H1 H2:Hp} (a:SX x H H1) (b:SX x H1 H2):SX x H H2:=fun c o h n=>b c o (a c o h n) n
theorem SX.of {x:Addr} {H H':Hp} (s:Aj H H'):SX x H H':=fun b o h _=>s b o h
theorem SX.up {x:Addr} {H:Hp} {o:HO}:SX x H (upd H x o):=fun b u h n=>by rw [BP n]; exact h
theorem SX.tup {x:Addr} {H H':Hp} {zs:List V} {y:V} {C dx:Addr} {fs:List (Str × V)} (s:SX x H H') (hx:H x=some (.ins C dx fs)) (h:TupAt H zs y):TupAt H' zs y:=by
 obtain ⟨T,e,q⟩:=h
 exact ⟨T,e,s _ _ q fun z=>by rw [z,hx] at q; cases q⟩
theorem SX.pair {α:Type} {x:Addr} {H H':Hp} {f:α->List V} {l:List α} {vs:List V} {C dx:Addr} {fs:List (Str × V)} (s:SX x H H') (hx:H x=some (.ins C dx fs)) (h:Paired (fun a y=>TupAt H (f a) y) l vs):Paired (fun a y=>TupAt H' (f a) y) l vs:=Paired.Ek h fun _ _ q=>s.tup hx q
theorem SX.lst {x a:Addr} {H H':Hp} {xs:List V} {C dx:Addr} {fs:List (Str × V)} (s:SX x H H') (hx:H x=some (.ins C dx fs)) (h:H a=some (.lst xs)):H' a=some (.lst xs):=s _ _ h fun z=>by rw [z,hx] at h; cases h
theorem SX.dk {x a:Addr} {H H':Hp} {kvs:List (Key × V)} {C dx:Addr} {fs:List (Str × V)} (s:SX x H H') (hx:H x=some (.ins C dx fs)) (h:H a=some (.dK kvs)):H' a=some (.dK kvs):=s _ _ h fun z=>by rw [z,hx] at h; cases h
noncomputable abbrev meths:List Str:=["ranks","pipe_count","pipe","rank_of","board_of_knob","boards","key_count","key","board_of","coupler","knobs","knob_number","board_number","stop","mute","steps","rows"]
structure DX (C:Addr) (H:Hp) (x:Addr) (bs:List (Str × Nat)) (ks:List R):Prop where
 ob:∃ (dx:Addr) (fs:List (Str × V)) (bl bn kp kr:Addr) (bvs pvs uvs:List V) (kvs:List (Key × V)),H x=some (.ins C dx fs)/\fs.lookup ("board_list" : Str)=some (.ref bl)/\fs.lookup ("board_numbers" : Str)=some (.ref bn)/\fs.lookup ("key_places" : Str)=some (.ref kp)/\fs.lookup ("knob_rows" : Str)=some (.ref kr) /\
  (∀ m∈meths,fs.lookup m=none)/\H bl=some (.lst bvs)/\Paired (fun b y=>TupAt H (bV b) y) bs bvs/\H bn=some (.dK kvs)/\(∀ (i:Nat) b,bs[i]? = some b->Dh kvs (Sum.inr b.1)=some (.int (i:Nat))) /\
  H kp=some (.lst pvs)/\Paired (fun q y=>TupAt H (qV q) y) (Ds bs) pvs/\H kr=some (.lst uvs)/\Paired (fun (r:R) y=>TupAt H r.v y) ks uvs
 nb:bs.length<=5
 sz:∀ b∈bs,b.2<=61
 nk:ks.length<=200
theorem DX.mono {C:Addr} {H H':Hp} {x:Addr} {bs:List (Str × Nat)} {ks:List R} (s:Aj H H') (h:DX C H x bs ks):DX C H' x bs ks:=by
 obtain ⟨⟨dx,fs,bl,bn,kp,kr,bvs,pvs,uvs,kvs,h1,l1,l2,l3,l4,lm,h2,h3,h4,h5,h6,h7,h8,h9⟩,a,b,c⟩:=h
 exact ⟨⟨dx,fs,bl,bn,kp,kr,bvs,pvs,uvs,kvs,s _ _ h1,l1,l2,l3,l4,lm,s _ _ h2,Ak s h3,s _ _ h4,h5,s _ _ h6,Ak s h7,s _ _ h8,Ak s h9⟩,a,b,c⟩
end Og
namespace Og
open PySem L2 PyProof.Rows
noncomputable def Bl (c k:Int):Int:=((c % 1000003+7919 * k * k+k+1) * 48271 % 2147483629) * ((c % 1000003+7919 * k * k+k+1) * 48271 % 2147483629) % 2147483587
inductive Kb where
 | cp (i j:Nat) (s:Int)
 | pl (w:Str) (i:Nat)
noncomputable def Kb.w:Kb->Str
 | .cp _ _ _=>"coupler"
 | .pl w _=>w
noncomputable def Kb.v:Kb->List V
 | .cp i j s=>[.str "coupler",.int (i:Nat),.int (j:Nat),.int s]
 | .pl w i=>[.str w,.int (i:Nat)]
noncomputable def Kb.ok (n:Nat):Kb->Prop
 | .cp i j s=>i<n/\j<n /\ -60<=s/\s<=60
 | .pl w i=>i<n/\(w = "mute" \/ w = "stop")
theorem Kb.wo {n:Nat} {k:Kb} (h:k.ok n):k.w = "stop" \/ k.w = "coupler" \/ k.w = "mute":=by
 cases k with
 | cp i j s=>exact .inr (.inl rfl)
 | pl w i=>rcases h.2 with e | e; exact .inr (.inr e); exact .inl e
theorem Kb.v0 (k:Kb):∃ r,k.v=.str k.w::r:=by cases k <;> exact ⟨_,rfl⟩
noncomputable def Ez (w:Str):Nat:=if w = "coupler" then 12 else if w = "mute" then 5 else 24
noncomputable abbrev GP (w:Str) (z:Kb):Bool:=decide (V.str z.w=V.str w)
structure Nb (n:Nat) (kbs:List Kb):Prop where
 ok:∀ k∈kbs,k.ok n
 room:∀ (i:Nat) k,kbs[i]? = some k->((kbs.take i).filter (GP k.w)).length<Ez k.w
 len:kbs.length<=70
noncomputable def JF (c:Nat->Str) (k:Nat):Kb->R
 | .cp i j s=>⟨"coupler",c (30+k),[.str (c i),.str (c j),.int s]⟩
 | .pl w i=>⟨w,c (30+k),[.str (c i)]⟩
theorem HQ (c:Nat->Str) (k:Nat) (z:Kb):(JF c k z).w=z.w:=by cases z <;> rfl
theorem PB (c:Nat->Str) (k:Nat) (z:Kb):(JF c k z).nm=c (30+k):=by cases z <;> rfl
noncomputable def BZ (c:Nat->Str) (sz:List Nat):List (Str × Nat):=sz.zipIdx.map fun p=>(c p.2,p.1)
noncomputable def CZ (c:Nat->Str) (kbs:List Kb):List R:=kbs.zipIdx.map fun p=>JF c p.2 p.1
theorem DW {c:Nat->Str} {sz:List Nat} {i z:Nat} (h:sz[i]? = some z):(BZ c sz)[i]? = some (c i,z):=by
 unfold BZ
 rw [List.getElem?_map,List.getElem?_zipIdx,h]
 simp
theorem Fj {c:Nat->Str} {sz:List Nat} {i:Nat} {b:Str × Nat} (h:(BZ c sz)[i]? = some b):∃ z,sz[i]? = some z/\b=(c i,z):=by
 have hi:i<(BZ c sz).length:=(List.getElem?_eq_some_iff.mp h).1
 have hi':i<sz.length:=by simpa [BZ] using hi
 refine ⟨sz[i],List.getElem?_eq_getElem hi',?_⟩
 rw [DW (List.getElem?_eq_getElem hi')] at h
 exact (Option.some.inj h).symm
theorem Fi (c:Nat->Str) (sz:List Nat):(BZ c sz).length=sz.length:=by simp [BZ]
theorem Bq (c:Nat->Str) (sz:List Nat):(BZ c sz).map (·.2)=sz:=by
 unfold BZ
 rw [List.map_map]
 refine List.ext_getElem? fun i=>?_
 rw [List.getElem?_map,List.getElem?_zipIdx]
 cases sz[i]? <;> simp
theorem Eb {c:Nat->Str} {kbs:List Kb} {i:Nat} {z:Kb} (h:kbs[i]? = some z):(CZ c kbs)[i]? = some (JF c i z):=by
 unfold CZ
 rw [List.getElem?_map,List.getElem?_zipIdx,h]
 simp
theorem Di {c:Nat->Str} {kbs:List Kb} {i:Nat} {r:R} (h:(CZ c kbs)[i]? = some r):∃ z,kbs[i]? = some z/\r=JF c i z:=by
 have hi:i<(CZ c kbs).length:=(List.getElem?_eq_some_iff.mp h).1
 have hi':i<kbs.length:=by simpa [CZ] using hi
 refine ⟨kbs[i],List.getElem?_eq_getElem hi',?_⟩
 rw [Eb (List.getElem?_eq_getElem hi')] at h
 exact (Option.some.inj h).symm
theorem Hz (c:Nat->Str) (kbs:List Kb):(CZ c kbs).length=kbs.length:=by simp [CZ]
structure KF (K:PySem.W.Frag) (aB aP aM:Addr):Prop where
 pB:∃ a,PySem.W.nsIn K aP "board" = some (some (.ref a))/\KTup K a (["new","keys"].map fun s:String=>V.str s)
 pS:∃ a,PySem.W.nsIn K aP "stop" = some (some (.ref a))/\KTup K a (["new","board"].map fun s:String=>V.str s)
 pM:∃ a,PySem.W.nsIn K aP "mute" = some (some (.ref a))/\KTup K a (["new","board"].map fun s:String=>V.str s)
 pC:∃ a,PySem.W.nsIn K aP "coupler" = some (some (.ref a))/\KTup K a (["new","board","board","leap"].map fun s:String=>V.str s)
 bK:∃ a,PySem.W.nsIn K aB "keys" = some (some (.ref a))/\KTup K a [.int 1,.int 61]
 bL:∃ a,PySem.W.nsIn K aB "leap" = some (some (.ref a))/\KTup K a [.int (-60),.int 60]
 bN:PySem.W.nsIn K aB "new" = some none
 bB:PySem.W.nsIn K aB "board" = some none
 mB:∃ t,PySem.W.nsIn K aM "board" = some (some (.int 5 t))
 mS:∃ t,PySem.W.nsIn K aM "stop" = some (some (.int 24 t))
 mC:∃ t,PySem.W.nsIn K aM "coupler" = some (some (.int 12 t))
 mM:∃ t,PySem.W.nsIn K aM "mute" = some (some (.int 5 t))
noncomputable def UT (H:Hp):V->R
 | .ref T=>match H T with
  | some (.tup (.str w :: .str n::r))=>⟨w,n,r⟩
  | _=>⟨"","",[]⟩
 | _=>⟨"","",[]⟩
theorem Ov {H:Hp} {r:R} {v:V} (h:TupAt H r.v v):UT H v=r:=by
 obtain ⟨T,rfl,e⟩:=h
 show (match H T with | some (.tup (.str w :: .str n::r))=>(⟨w,n,r⟩:R) | _=>⟨"","",[]⟩)=r
 rw [e]
theorem Oz {H:Hp} {rs:List R} {vs:List V} (h:Paired (fun (r:R) v=>TupAt H r.v v) rs vs):vs.map (UT H)=rs:=by
 induction h with
 | nil=>rfl
 | cons x y ih=>rw [List.map_cons,ih,Ov x]
theorem Bu (f:Str) (v:V):∀ l:List (Str × V),(Bk f v l).length<=l.length+1
 | []=>Nat.le_refl _
 | p::r=>by
  unfold Bk
  split
  ·simp
  ·have:=Bu f v r
   simp only [List.length_cons]
   omega
noncomputable abbrev Io (s:Str):Bool:=inV (.str s) [.str "stop",.str "coupler",.str "mute"]
structure j4 (K:PySem.W.Frag) (aB aP aM:Addr) (ρ:V->R) (us:List V) (bs:List (Str × Nat)) (ks:List R):Prop where
 kinds:∀ v∈us,(ρ v).w = "board" \/ (ρ v).w = "stop" \/ (ρ v).w = "coupler" \/ (ρ v).w = "mute"
 eb:(us.filter (pw ρ "board")).map ρ=bs.map FQ
 ek:(us.filter (fun v=>Io (ρ v).w)).map ρ=ks
 b0:1<=bs.length
 b5:bs.length<=5
 sz:∀ b∈bs,b.2<=61
 nk:ks.length<=100
 nb:(bs.map (·.1)).Nodup
 nn:(ks.map (·.nm)).Nodup
 len:us.length<=105
 ok:∀ (i:Nat) v,us[i]? = some v->KZ K aB aP aM ρ (us.take i) (ρ v)
noncomputable def GZ (ρ:V->R) (vs:List V):List (Str × Str):=vs.map fun v=>((ρ v).w,(ρ v).nm)
noncomputable abbrev QB (wn:List (Str × Str)) (w t:Str):Bool:=(wn.filter fun p=>decide (p.1=w)).any fun p=>decide (p.2=t)
noncomputable abbrev Ry (wn:List (Str × Str)) (w:Str):Nat:=(wn.filter fun p=>decide (p.1=w)).length
theorem Gr (a b:Str):decide (V.str a=V.str b)=decide (a=b):=by
 rw [Bool.eq_iff_iff,decide_eq_true_eq,decide_eq_true_eq]
 exact ⟨V.str.inj,congrArg V.str⟩
theorem Ii (ρ:V->R) (vs:List V) (w t:Str):V9 ρ vs w t=QB (GZ ρ vs) w t:=by
 unfold V9 GZ
 show _=((vs.map fun v=>((ρ v).w,(ρ v).nm)).filter fun p=>decide (p.1=w)).any fun p=>decide (p.2=t)
 rw [List.filter_map,List.any_map]
 have e1:pw ρ w=(fun p:Str × Str=>decide (p.1=w)) ∘ fun v=>((ρ v).w,(ρ v).nm):=by
  funext v
  exact Gr _ _
 have e2:pn ρ t=(fun p:Str × Str=>decide (p.2=t)) ∘ fun v=>((ρ v).w,(ρ v).nm):=by
  funext v
  exact Gr _ _
 rw [e1,e2]
theorem HN (ρ:V->R) (vs:List V) (w:Str):(vs.filter (pw ρ w)).length=Ry (GZ ρ vs) w:=by
 unfold GZ
 show _=((vs.map fun v=>((ρ v).w,(ρ v).nm)).filter fun p=>decide (p.1=w)).length
 rw [List.filter_map,List.length_map]
 have e1:pw ρ w=(fun p:Str × Str=>decide (p.1=w)) ∘ fun v=>((ρ v).w,(ρ v).nm):=by
  funext v
  exact Gr _ _
 rw [e1]
section
variable {K:PySem.W.Frag} {aB aP aM:Addr} {ρ:V->R} {vs:List V} {wn:List (Str × Str)} {t:Str}
theorem Ht (F:KF K aB aP aM) (e:GZ ρ vs=wn) (ht:isNm t) (h:∀ w∈named,QB wn w t=false):HS K aB ρ vs (.str t) "new" :=
 .inr (.inl ⟨F.bN,rfl,_,rfl,ht,fun w hw=>by rw [Ii,e]; exact h w hw⟩)
theorem HB (F:KF K aB aP aM) (e:GZ ρ vs=wn) (ht:isNm t) (h:QB wn "board" t=true):HS K aB ρ vs (.str t) "board" :=
 .inr (.inr ⟨F.bB,by decide +kernel,_,rfl,ht,by rw [Ii,e]; exact h⟩)
theorem RG (F:KF K aB aP aM) (e:GZ ρ vs=wn) (ht:isNm t) (h:∀ w∈named,QB wn w t=false) (hc:Ry wn "board" < 5) {n:Nat} (h1:1<=n) (h2:n<=61):KZ K aB aP aM ρ vs (FQ (t,n)):=by
 obtain ⟨ap,g1,g2⟩:=F.pB
 obtain ⟨ab,g3,g4⟩:=F.bK
 obtain ⟨tk,g5⟩:=F.mB
 refine ⟨by show ¬ ("board" : Str) = "step"; decide +kernel,by show ¬ ("board" : Str) = "line"; decide +kernel,⟨ap,["new","keys"],g1,g2,rfl,by decide,fun j x y hx hy=>?_⟩,⟨5,tk,g5,?_⟩⟩
 ·match j,hx,hy with
  | 0,hx,hy =>
   cases (Option.some.inj hx)
   cases (Option.some.inj hy)
   exact Ht F e ht h
  | 1,hx,hy =>
   cases (Option.some.inj hx)
   cases (Option.some.inj hy)
   exact .inl ⟨_,1,61,ab,rfl,g3,g4,by omega,by omega⟩
  | j+2,hx,hy=>simp at hy
 ·rw [HN,e]
  show ((Ry wn "board" : Nat):Int)<5
  omega
theorem Mu (F:KF K aB aP aM) (e:GZ ρ vs=wn) (ht:isNm t) (h:∀ w∈named,QB wn w t=false) (hc:Ry wn "coupler" < 12) {a b:Str} (ha:isNm a) (ha':QB wn "board" a=true) (hb:isNm b) (hb':QB wn "board" b=true) {s:Int} (h1 : -60<=s) (h2:s<=60):KZ K aB aP aM ρ vs ⟨"coupler",t,[.str a,.str b,.int s]⟩:=by
 obtain ⟨ap,g1,g2⟩:=F.pC
 obtain ⟨ab,g3,g4⟩:=F.bL
 obtain ⟨tk,g5⟩:=F.mC
 refine ⟨by show ¬ ("coupler" : Str) = "step"; decide +kernel,by show ¬ ("coupler" : Str) = "line"; decide +kernel,⟨ap,["new","board","board","leap"],g1,g2,rfl,by decide,fun j x y hx hy=>?_⟩,⟨12,tk,g5,?_⟩⟩
 ·match j,hx,hy with
  | 0,hx,hy =>
   cases (Option.some.inj hx)
   cases (Option.some.inj hy)
   exact Ht F e ht h
  | 1,hx,hy =>
   cases (Option.some.inj hx)
   cases (Option.some.inj hy)
   exact HB F e ha ha'
  | 2,hx,hy =>
   cases (Option.some.inj hx)
   cases (Option.some.inj hy)
   exact HB F e hb hb'
  | 3,hx,hy =>
   cases (Option.some.inj hx)
   cases (Option.some.inj hy)
   exact .inl ⟨_,-60,60,ab,rfl,g3,g4,h1,h2⟩
  | j+4,hx,hy=>simp at hy
 ·rw [HN,e]
  show ((Ry wn "coupler" : Nat):Int)<12
  omega
end
theorem Gp {α:Type} {l:List α} (h:∀ (i j:Nat) x,l[i]? = some x->l[j]? = some x->i=j):l.Nodup:=by
 refine List.pairwise_iff_getElem.mpr fun i j hi hj hij e=>?_
 have:=h i j l[i] (List.getElem?_eq_getElem hi) (by rw [e]; exact List.getElem?_eq_getElem hj)
 omega
theorem JL {bs:List (Str × Nat)}:∀ {i a n:Nat},(Ds bs)[i]? = some (a,n)->∃ b,bs[a]? = some b/\n<b.2/\i=((bs.map (·.2)).take a).sum+n:=by
 have key:∀ m,m<=bs.length->∀ {i a n:Nat},(Ds (bs.take m))[i]? = some (a,n)->∃ b,bs[a]? = some b/\n<b.2/\i=((bs.map (·.2)).take a).sum+n:=by
  intro m
  induction m with
  | zero =>
   intro _ i a n h
   simp [Ds] at h
  | succ m ih =>
   intro hm i a n h
   have hlt:m<bs.length:=by omega
   have hb:=List.getElem?_eq_getElem hlt
   rw [Hi hb] at h
   have hlen:(Ds (bs.take m)).length=((bs.map (·.2)).take m).sum:=by
    have g:∀ m,m<=bs.length->(Ds (bs.take m)).length=((bs.map (·.2)).take m).sum:=by
     intro m
     induction m with
     | zero=>intro _; simp [Ds]
     | succ m ih =>
      intro hm
      have hlt:m<bs.length:=by omega
      rw [Hi (List.getElem?_eq_getElem hlt),List.length_append,ih (by omega),List.length_map,List.length_range,List.take_add_one,List.getElem?_map,List.getElem?_eq_getElem hlt,List.sum_append]
      simp
    exact g m (by omega)
   by_cases hi:i<(Ds (bs.take m)).length
   ·rw [List.getElem?_append_left hi] at h
    exact ih (by omega) h
   ·rw [List.getElem?_append_right (by omega),List.getElem?_map] at h
    obtain ⟨e,he,q⟩:=Option.map_eq_some_iff.mp h
    have he':i - (Ds (bs.take m)).length<bs[m].2/\e=i - (Ds (bs.take m)).length:=by
     obtain ⟨h1,h2⟩:=List.getElem?_eq_some_iff.mp he
     rw [List.length_range] at h1
     rw [List.getElem_range] at h2
     exact ⟨h1,h2.symm⟩
    obtain ⟨q1,q2⟩:=Prod.mk.inj q
    subst q1 q2
    refine ⟨bs[m],hb,by omega,?_⟩
    rw [← hlen]
    omega
 intro i a n h
 refine key bs.length (Nat.le_refl _) ?_
 rw [List.take_length]
 exact h
theorem Dm (bs:List (Str × Nat)):(Ds bs).length=(bs.map (·.2)).sum:=by
 unfold Ds
 rw [List.length_flatMap]
 have:(bs.zipIdx.map fun p=>((List.range p.1.2).map fun e=>(p.2,e)).length)=bs.map (·.2):=by
  refine List.ext_getElem? fun i=>?_
  rw [List.getElem?_map,List.getElem?_map,List.getElem?_zipIdx]
  cases bs[i]? <;> simp
 rw [this]
end Og
namespace Og
open PySem L2
noncomputable def Jw (bs:List (Str × Nat)) (j1 j2:Nat) (s:Int) (qd:Nat × Nat) (z2:Nat):V :=
 if qd.1=j1/\0<=(qd.2:Int)+s/\(qd.2:Int)+s<z2 then .int ((((bs.take j2).map (·.2)).sum:Nat)+((qd.2:Int)+s)) else .non
noncomputable def gl (bs:List (Str × Nat)):Kb->Nat->Option Nat
 | .cp j1 j2 s,i=>match (Ds bs)[i]?,bs[j2]? with
  | some qd,some b2=>match Jw bs j1 j2 s qd b2.2 with
   | .int v=>some v.toNat
   | _=>none
  | _,_=>none
 | .pl _ _,_=>none
theorem Ls (l:List Nat):∀ {a b:Nat},a<=b->(l.take a).sum<=(l.take b).sum:=by
 intro a b h
 have e:l.take a=(l.take b).take a:=by rw [List.take_take,Nat.min_eq_left h]
 rw [e]
 have:=congrArg List.sum (List.take_append_drop a (l.take b))
 rw [List.sum_append] at this
 omega
theorem NQ {bs:List (Str × Nat)} {j1 j2 i:Nat} {s:Int} {qd:Nat × Nat} {b2:Str × Nat} (hq:(Ds bs)[i]? = some qd) (hb:bs[j2]? = some b2) :
  (Jw bs j1 j2 s qd b2.2=.non/\gl bs (.cp j1 j2 s) i=none) \/ ∃ j:Nat,Jw bs j1 j2 s qd b2.2=.int (j:Nat)/\gl bs (.cp j1 j2 s) i=some j/\j<(bs.map (·.2)).sum:=by
 have e:gl bs (.cp j1 j2 s) i=match Jw bs j1 j2 s qd b2.2 with | .int v=>some v.toNat | _=>none:=by
  simp only [gl,hq,hb]
 rw [e]
 unfold Jw
 by_cases h:qd.1=j1/\0<=(qd.2:Int)+s/\(qd.2:Int)+s<b2.2
 ·rw [if_pos h]
  obtain ⟨h1,h2,h3⟩:=h
  have hs:((bs.map (·.2)).take (j2+1)).sum=(((bs.take j2).map (·.2)).sum+b2.2):=by
   rw [List.take_add_one,List.getElem?_map,hb,List.sum_append,List.map_take]
   simp
  have hle:((bs.map (·.2)).take (j2+1)).sum<=(bs.map (·.2)).sum:=by
   have:=congrArg List.sum (List.take_append_drop (j2+1) (bs.map (·.2)))
   rw [List.sum_append] at this
   omega
  refine .inr ⟨((((bs.take j2).map (·.2)).sum:Nat)+((qd.2:Int)+s)).toNat,?_,rfl,by omega⟩
  rw [Int.toNat_of_nonneg (by omega)]
 ·rw [if_neg h]
  exact .inl ⟨rfl,rfl⟩
theorem Vs {bs:List (Str × Nat)} {z:Kb} {i j:Nat} (h:gl bs z i=some j):j<(bs.map (·.2)).sum:=by
 cases z with
 | pl w a=>cases h
 | cp j1 j2 s =>
  cases hq:(Ds bs)[i]? with
  | none =>
   simp only [gl,hq] at h
   cases h
  | some qd =>
   cases hb:bs[j2]? with
   | none =>
    simp only [gl,hq,hb] at h
    cases h
   | some b2 =>
    rcases NQ (j1:=j1) (s:=s) hq hb with ⟨_,e⟩ | ⟨j',_,e,lt⟩
    ·rw [e] at h
     cases h
    ·rw [e] at h
     cases h
     exact lt
noncomputable abbrev M4 (z:Kb):Bool:=decide (V.str z.w=V.str "coupler")
theorem WD {bs:List (Str × Nat)} {z:Kb} {i j:Nat} (h:gl bs z i=some j):M4 z=true:=by
 cases z with
 | pl w a=>cases h
 | cp j1 j2 s=>exact decide_eq_true rfl
theorem Py {n:Nat} {z:Kb} (ho:z.ok n) (h:M4 z=true):∃ i j s,z=.cp i j s:=by
 cases z with
 | cp i j s=>exact ⟨i,j,s,rfl⟩
 | pl w i =>
  exfalso
  have h':=V.str.inj (of_decide_eq_true h)
  rcases ho.2 with rfl | rfl
  ·exact absurd h' (by show ¬ ("mute" : Str) = "coupler"; decide +kernel)
  ·exact absurd h' (by show ¬ ("stop" : Str) = "coupler"; decide +kernel)
noncomputable def stp (bs:List (Str × Nat)) (kbs:List Kb) (D:Nat) (i j:Nat):Prop:=∃ k z,D.testBit k=true/\kbs[k]? = some z/\gl bs z i=some j
inductive Fz (st:Nat->Nat->Prop) (hd:Nat->Prop):Nat->Prop
 | one {i j:Nat}:hd i->st i j->Fz st hd j
 | more {i j:Nat}:Fz st hd i->st i j->Fz st hd j
theorem Fz.mono {s1 s2:Nat->Nat->Prop} {h1 h2:Nat->Prop} {j:Nat} (h:Fz s1 h1 j) (hs:∀ i j,s1 i j->s2 i j) (hh:∀ i,h1 i->h2 i):Fz s2 h2 j:=by
 induction h with
 | one a b=>exact .one (hh _ a) (hs _ _ b)
 | more a b ih=>exact .more ih (hs _ _ b)
theorem Fz.iff {st:Nat->Nat->Prop} {h1 h2:Nat->Prop} {j:Nat} (hh:∀ i,h1 i ↔ h2 i):Fz st h1 j ↔ Fz st h2 j:=⟨fun h=>h.mono (fun _ _ z=>z) fun i=>(hh i).mp,fun h=>h.mono (fun _ _ z=>z) fun i=>(hh i).mpr⟩
theorem Fz.none {st:Nat->Nat->Prop} {h:Nat->Prop} {j:Nat} (hh:∀ i,¬ h i):¬ Fz st h j:=fun z=>by
 induction z with
 | one a b=>exact hh _ a
 | more a b ih=>exact ih
theorem Fz.lt {bs:List (Str × Nat)} {kbs:List Kb} {D:Nat} {h:Nat->Prop} {j:Nat} (r:Fz (stp bs kbs D) h j):j<(bs.map (·.2)).sum:=by
 cases r with
 | one a b=>obtain ⟨k,z,_,_,e⟩:=b; exact Vs e
 | more a b=>obtain ⟨k,z,_,_,e⟩:=b; exact Vs e
theorem Fz.all {st:Nat->Nat->Prop} {hd:Nat->Prop} {W:Nat->Prop} (h1:∀ j,W j->Fz st hd j) (h2:∀ i,(hd i \/ W i)->∀ j,st i j->W j) (j:Nat):W j ↔ Fz st hd j:=by
 refine ⟨h1 j,fun h=>?_⟩
 induction h with
 | one a b=>exact h2 _ (.inl a) _ b
 | more a b ih=>exact h2 _ (.inr ih) _ b
theorem Cu:∀ (T:Nat) {l:List Nat},l.Nodup->(∀ x∈l,x<T)->l.length<=T
 | 0,l,_,h=>by
  cases l with
  | nil=>exact Nat.le_refl _
  | cons a l=>exact absurd (h a (List.mem_cons_self ..)) (Nat.not_lt_zero _)
 | T+1,l,nd,h=>by
  have ih:=Cu T (l:=l.erase T) (nd.erase T) fun x hx=>by
   have h1:=h x (List.mem_of_mem_erase hx)
   have h2:x ≠ T:=fun z=>by
    subst z
    exact nd.not_mem_erase hx
   omega
  have:=List.length_erase (a:=T) (l:=l)
  split at this <;> omega
theorem T9 (a b i:Nat):(a ||| b).testBit i=true ↔ a.testBit i=true \/ b.testBit i=true:=by
 rw [Nat.testBit_or,Bool.or_eq_true]
theorem Gw {a b:Nat} (h:∀ i,a.testBit i=true ↔ b.testBit i=true):a=b:=Nat.eq_of_testBit_eq fun i=>Bool.eq_iff_iff.mpr (h i)
end Og
namespace Og
open PySem L2 PyProof.Rows
noncomputable abbrev Th:=Str × Nat × List V
noncomputable abbrev tV (a:Th):List V:=.str a.1 :: .int (a.2.1:Nat)::a.2.2
noncomputable abbrev tN (a:Th):Str × Nat:=(a.1,a.2.1)
noncomputable abbrev S6 (r:Str × Nat × Int):Th:=(r.1,r.2.1,[.int r.2.2])
noncomputable abbrev Zg (b:Str × Nat):Th:=(b.1,b.2,[])
noncomputable abbrev Xe (r:Str × Nat × Int):Str × Nat:=(r.1,r.2.1)
noncomputable abbrev Hg (r:Str × Nat × Int):R:=⟨"rank",r.1,[.int (r.2.1:Nat),.int r.2.2]⟩
structure Ln where
 r:Nat
 sh:Int
 lo:Int
 hi:Int
noncomputable abbrev TX (l:Ln):List V:=[.int (l.r:Nat),.int l.sh,.int l.lo,.int l.hi]
noncomputable def HR (H:Hp) (l:List Ln) (v:V):Prop:=∃ (A:Addr) (ts:List V),v=.ref A/\H A=some (.lst ts)/\Paired (fun x y=>TupAt H (TX x) y) l ts
noncomputable def Fv (H:Hp) (D:Addr) (ls:List (List Ln)):Prop:=∃ lv,H D=some (.lst lv)/\Paired (fun l v=>HR H l v) ls lv
theorem HR.mono {H H':Hp} {l:List Ln} {v:V} (s:Aj H H') (h:HR H l v):HR H' l v:=by
 obtain ⟨A,ts,e,h1,h2⟩:=h
 exact ⟨A,ts,e,s _ _ h1,Ak s h2⟩
theorem Fv.mono {H H':Hp} {D:Addr} {ls:List (List Ln)} (s:Aj H H') (h:Fv H D ls):Fv H' D ls:=by
 obtain ⟨lv,h1,h2⟩:=h
 exact ⟨lv,s _ _ h1,Paired.Ek h2 fun _ _ q=>q.mono s⟩
structure Dn (C:Addr) (H:Hp) (x:Addr) (bs:List (Str × Nat)) (rk:List (Str × Nat × Int)) (ks:List R) (ls:List (List Ln)):Prop where
 o:DX C H x bs ks
 r:∃ (dx:Addr) (fs:List (Str × V)) (rl rn pp kl:Addr) (rvs pvs:List V) (kvs:List (Key × V)),H x=some (.ins C dx fs)/\fs.lookup ("rank_list" : Str)=some (.ref rl)/\fs.lookup ("rank_numbers" : Str)=some (.ref rn)/\fs.lookup ("pipe_places" : Str)=some (.ref pp)/\fs.lookup ("knob_lines" : Str)=some (.ref kl) /\
  H rl=some (.lst rvs)/\Paired (fun (a:Th) y=>TupAt H (tV a) y) (rk.map S6) rvs/\H rn=some (.dK kvs)/\(∀ (i:Nat) r,rk[i]? = some r->Dh kvs (Sum.inr r.1)=some (.int (i:Nat))) /\
  H pp=some (.lst pvs)/\Paired (fun q y=>TupAt H (qV q) y) (Ds (rk.map Xe)) pvs/\Fv H kl ls
 nr:rk.length<=12
 nz:∀ r∈rk,r.2.1<=97
 nl:ls.length=ks.length
theorem Dn.mono {C:Addr} {H H':Hp} {x:Addr} {bs:List (Str × Nat)} {rk:List (Str × Nat × Int)} {ks:List R} {ls:List (List Ln)} (s:Aj H H') (h:Dn C H x bs rk ks ls):Dn C H' x bs rk ks ls:=by
 obtain ⟨o,⟨dx,fs,rl,rn,pp,kl,rvs,pvs,kvs,h1,l1,l2,l3,l4,h2,h3,h4,h5,h6,h7,h8⟩,a,b,c⟩:=h
 exact ⟨o.mono s,⟨dx,fs,rl,rn,pp,kl,rvs,pvs,kvs,s _ _ h1,l1,l2,l3,l4,s _ _ h2,Ak s h3,s _ _ h4,h5,s _ _ h6,Ak s h7,h8.mono s⟩,a,b,c⟩
structure WT (ρ:V->R) (us:List V) (i:Nat):Prop where
 all:∀ j,j<i->∃ v,us[us.length - 1 - j]? = some v/\(ρ v).w = "line"
 lt:i<us.length
 no:∃ v,us[us.length - 1 - i]? = some v/\¬ (ρ v).w = "line"
noncomputable def Xu (r:R):Int:=match r.rest with
 | [.int m]=>m
 | _=>0
noncomputable abbrev keyOf (ρ:V->R) (us:List V) (bd:Str) (n:Int):Bool:=(us.filter (pw ρ "board")).any fun v=>pn ρ bd v && decide (n<Xu (ρ v))
structure Nk (ρ:V->R) (us:List V) (ro:R):Prop where
 ex:∃ (cnt:Nat) (v:V) (sh lo hi:Int) (bd:Str) (rs:List V),ro.rest=[.int sh,.int lo,.int hi]/\WT ρ us cnt/\cnt<4/\us[us.length - 1 - cnt]? = some v/\(ρ v).w = "stop" /\ (ρ v).rest=.str bd::rs/\lo<=hi/\keyOf ρ us bd hi=true
noncomputable abbrev En (ρ:V->R) (us:List V):Prop:=∀ v∈us,(ρ v).w = "board"->∃ m,(ρ v).rest=[.int m]
structure Gi (K:PySem.W.Frag) (aB aP aM:Addr) (ρ:V->R) (vs:List V) (r:R):Prop where
 ns:¬ r.w = "step"
 parts:∃ (ap:Addr) (ps:List Str),PySem.W.nsIn K aP r.w=some (some (.ref ap))/\KTup K ap (ps.map V.str)/\(V.str r.nm::r.rest).length=ps.length/\ps.length<=10 /\
  ∀ (i:Nat) x y,(V.str r.nm::r.rest)[i]? = some x->ps[i]? = some y->HS K aB ρ vs x y
 room:(r.w = "line" /\ PySem.W.nsIn K aM r.w=some none) \/ ∃ (m:Int) (t:Tok),PySem.W.nsIn K aM r.w=some (some (.int m t))/\(((vs.filter (pw ρ r.w)).length:Nat):Int)<m
 line:r.w = "line"->Nk ρ vs r
 ZC:En ρ vs
noncomputable def lnOf (rk:List (Str × Nat × Int)) (r:R):Ln:=match r.rest with
 | [.int sh,.int lo,.int hi]=>⟨(rk.map (·.1)).idxOf r.nm,sh,lo,hi⟩
 | _=>⟨0,0,0,0⟩
noncomputable def putL (acc:List (List Ln)) (l:Ln):List (List Ln):=match acc.getLast? with
 | some z=>acc.dropLast++[z++[l]]
 | none=>[]
noncomputable def FP (rk:List (Str × Nat × Int)) (acc:List (List Ln)) (r:R):List (List Ln):=if Io r.w=true then acc++[[]] else if r.w = "line" then putL acc (lnOf rk r) else acc
noncomputable def linesOf (rk:List (Str × Nat × Int)) (rs:List R):List (List Ln):=rs.foldl (FP rk) []
theorem CN (rk:List (Str × Nat × Int)) (rs:List R) (r:R):linesOf rk (rs++[r])=FP rk (linesOf rk rs) r:=by
 unfold linesOf
 rw [List.foldl_append]
 rfl
theorem Gq (acc:List (List Ln)) (z:List Ln) (l:Ln):putL (acc++[z]) l=acc++[z++[l]]:=by
 unfold putL
 rw [List.getLast?_concat,List.dropLast_concat]
structure gF (K:PySem.W.Frag) (aB aP aM:Addr) (ρ:V->R) (us:List V) (bs:List (Str × Nat)) (rk:List (Str × Nat × Int)) (ks:List R):Prop where
 kinds:∀ v∈us,(ρ v).w = "board" \/ (ρ v).w = "rank" \/ (ρ v).w = "line" \/ (ρ v).w = "stop" \/ (ρ v).w = "coupler" \/ (ρ v).w = "mute"
 eb:(us.filter (pw ρ "board")).map ρ=bs.map FQ
 er:(us.filter (pw ρ "rank")).map ρ=rk.map Hg
 ek:(us.filter (fun v=>Io (ρ v).w)).map ρ=ks
 ln:∀ (i:Nat) v,us[i]? = some v->(ρ v).w = "line"->(∃ (j:Nat) (r:Str × Nat × Int) (sh lo hi:Int),rk[j]? = some r/\r.1=(ρ v).nm/\(ρ v).rest=[.int sh,.int lo,.int hi])/\∃ u∈us.take i,Io (ρ u).w=true
 b0:1<=bs.length
 b5:bs.length<=5
 sz:∀ b∈bs,b.2<=61
 nr:rk.length<=12
 nz:∀ r∈rk,r.2.1<=97
 nk:ks.length<=100
 nb:(bs.map (·.1)).Nodup
 nrr:(rk.map (·.1)).Nodup
 nn:(ks.map (·.nm)).Nodup
 len:us.length<=150
 ok:∀ (i:Nat) v,us[i]? = some v->Gi K aB aP aM ρ (us.take i) (ρ v)
theorem gF.none {K:PySem.W.Frag} {aB aP aM:Addr} {ρ:V->R} {us:List V} {bs:List (Str × Nat)} {rk:List (Str × Nat × Int)} {ks:List R} (h:gF K aB aP aM ρ us bs rk ks):us.filter (pw ρ "step")=[]:=by
 refine List.filter_eq_nil_iff.mpr fun v hv=>?_
 unfold pw
 rcases h.kinds v hv with e | e | e | e | e | e <;> rw [e] <;> decide +kernel
end Og
namespace Og
open PySem L2
noncomputable abbrev Pt:=Nat × Nat
noncomputable def j6 (nx:Pt->Option Pt) (p0:Pt) (ps:List Pt):Prop:=∀ (i:Nat) (p q:Pt),(p0::ps)[i]? = some p->(p0::ps)[i+1]? = some q->nx p=some q
noncomputable def jl (s0 s1 b:Nat):Nat:=if b=0 then s0 else s1
noncomputable def enc (s0:Nat) (p:Pt):Nat:=p.1 * s0+p.2
noncomputable abbrev Way:=Option (Nat × Int)
noncomputable def wy (w0 w1:Way) (b:Nat):Way:=if b=0 then w0 else w1
noncomputable def nxt (s0 s1:Nat) (w0 w1:Way) (p:Pt):Option Pt:=match wy w0 w1 p.1 with
 | none=>none
 | some (g,s)=>if 0<=(p.2:Int)+s/\(p.2:Int)+s<(jl s0 s1 g:Nat) then some (g,((p.2:Int)+s).toNat) else none
structure jz (s0 s1:Nat) (p:Pt):Prop where
 b:p.1<2
 n:p.2<jl s0 s1 p.1
structure jy (kbs:List Kb) (D:Nat) (w0 w1:Way):Prop where
 out:∀ k z,D.testBit k=true->kbs[k]? = some z->∃ j1 j2 s,z=.cp j1 j2 s/\wy w0 w1 j1=some (j2,s)/\j2<2
 back:∀ b g s,b<2->wy w0 w1 b=some (g,s)->∃ k,D.testBit k=true/\kbs[k]? = some (.cp b g s)
end Og
namespace Og
open PySem L2
inductive XR (nx:Pt->Option Pt) (hd:Pt->Prop):Pt->Prop
 | one {p q:Pt}:hd p->nx p=some q->XR nx hd q
 | more {p q:Pt}:XR nx hd p->nx p=some q->XR nx hd q
structure jw (kbs:List Kb) (D:Nat) (w0 w1:Way):Prop where
 out:∀ (k:Nat) (z:Kb),D.testBit k=true->kbs[k]? = some z->(∃ w i,z=.pl w i) \/ ∃ j1 j2 s,z=.cp j1 j2 s/\wy w0 w1 j1=some (j2,s)/\j2<2
 back:∀ b g s,b<2->wy w0 w1 b=some (g,s)->∃ k:Nat,D.testBit k=true/\kbs[k]? = some (.cp b g s)
end Og
namespace L2
open PySem PySem.Spec PySem.Calls PyProof.Rows
section
variable {X:Cx}
end
end L2
namespace L2
open PySem PySem.Spec PySem.Calls PyProof.Rows
section
variable {X:Cx}
end
end L2
namespace Og
open PySem L2 PyProof.Rows
variable {K:PySem.W.Frag}
structure PX (K:PySem.W.Frag) (aB aP aM:Addr):Prop where
 f:KF K aB aP aM
 pR:∃ a,PySem.W.nsIn K aP "rank" = some (some (.ref a))/\KTup K a (["new","pipes","wind"].map fun s:String=>V.str s)
 pL:∃ a,PySem.W.nsIn K aP "line" = some (some (.ref a))/\KTup K a (["rank","shift","low","high"].map fun s:String=>V.str s)
 bP:∃ a,PySem.W.nsIn K aB "pipes" = some (some (.ref a))/\KTup K a [.int 1,.int 97]
 bW:∃ a,PySem.W.nsIn K aB "wind" = some (some (.ref a))/\KTup K a [.int 0,.int 1000000000]
 bS:∃ a,PySem.W.nsIn K aB "shift" = some (some (.ref a))/\KTup K a [.int (-200),.int 200]
 bLo:∃ a,PySem.W.nsIn K aB "low" = some (some (.ref a))/\KTup K a [.int 0,.int 60]
 bHi:∃ a,PySem.W.nsIn K aB "high" = some (some (.ref a))/\KTup K a [.int 0,.int 60]
 bR:PySem.W.nsIn K aB "rank" = some none
 mR:∃ t,PySem.W.nsIn K aM "rank" = some (some (.int 12 t))
 mL:PySem.W.nsIn K aM "line" = some none
section
variable {aB aP aM:Addr} {ρ:V->R} {vs:List V} {wn:List (Str × Str)} {t:Str}
theorem O3 {r:R} (h:KZ K aB aP aM ρ vs r) (hb:En ρ vs):Gi K aB aP aM ρ vs r:=⟨h.ns,h.parts,.inr h.room,fun z=>absurd z h.nl,hb⟩
theorem Qj (F:KF K aB aP aM) {wd:Str} (hw:wd = "stop" \/ wd = "mute") (e:GZ ρ vs=wn) (ht:isNm t) (h:∀ w∈named,QB wn w t=false) (hc:Ry wn wd<Ez wd) {a:Str} (ha:isNm a) (ha':QB wn "board" a=true):KZ K aB aP aM ρ vs ⟨wd,t,[.str a]⟩:=by
 have parts:∀ (j:Nat) x (y:Str),[V.str t,.str a][j]? = some x->(["new","board"]:List Str)[j]? = some y->HS K aB ρ vs x y:=fun j x y hx hy=>by
  match j,hx,hy with
  | 0,hx,hy =>
   cases (Option.some.inj hx)
   cases (Option.some.inj hy)
   exact Ht F e ht h
  | 1,hx,hy =>
   cases (Option.some.inj hx)
   cases (Option.some.inj hy)
   exact HB F e ha ha'
  | j+2,hx,hy=>simp at hy
 have hcnt:=HN ρ vs wd
 rw [e] at hcnt
 rcases hw with rfl | rfl
 ·obtain ⟨ap,g1,g2⟩:=F.pS
  obtain ⟨tk,g5⟩:=F.mS
  have hm:Ez "stop" = 24:=by decide +kernel
  refine ⟨by show ¬ ("stop" : Str) = "step"; decide +kernel,by show ¬ ("stop" : Str) = "line"; decide +kernel,⟨ap,["new","board"],g1,g2,rfl,by decide,parts⟩,⟨24,tk,g5,?_⟩⟩
  show (((vs.filter (pw ρ "stop")).length:Nat):Int)<24
  omega
 ·obtain ⟨ap,g1,g2⟩:=F.pM
  obtain ⟨tk,g5⟩:=F.mM
  have hm:Ez "mute" = 5:=by decide +kernel
  refine ⟨by show ¬ ("mute" : Str) = "step"; decide +kernel,by show ¬ ("mute" : Str) = "line"; decide +kernel,⟨ap,["new","board"],g1,g2,rfl,by decide,parts⟩,⟨5,tk,g5,?_⟩⟩
  show (((vs.filter (pw ρ "mute")).length:Nat):Int)<5
  omega
theorem QH (F:PX K aB aP aM) (e:GZ ρ vs=wn) (ht:isNm t) (h:∀ w∈named,QB wn w t=false) (hc:Ry wn "rank" < 12) {n:Nat} {wi:Int} (h1:1<=n) (h2:n<=97) (h3:0<=wi) (h4:wi<=1000000000) (hb:En ρ vs):Gi K aB aP aM ρ vs (Hg (t,n,wi)):=by
 obtain ⟨ap,g1,g2⟩:=F.pR
 obtain ⟨ab,g3,g4⟩:=F.bP
 obtain ⟨aw,g6,g7⟩:=F.bW
 obtain ⟨tk,g5⟩:=F.mR
 refine ⟨by show ¬ ("rank" : Str) = "step"; decide +kernel,⟨ap,["new","pipes","wind"],g1,g2,rfl,by decide,fun j x y hx hy=>?_⟩,.inr ⟨12,tk,g5,?_⟩,fun z=>absurd z (by show ¬ ("rank" : Str) = "line"; decide +kernel),hb⟩
 ·match j,hx,hy with
  | 0,hx,hy =>
   cases (Option.some.inj hx)
   cases (Option.some.inj hy)
   exact Ht F.f e ht h
  | 1,hx,hy =>
   cases (Option.some.inj hx)
   cases (Option.some.inj hy)
   exact .inl ⟨((n:Nat):Int),1,97,ab,rfl,g3,g4,by omega,by omega⟩
  | 2,hx,hy =>
   cases (Option.some.inj hx)
   cases (Option.some.inj hy)
   exact .inl ⟨_,0,1000000000,aw,rfl,g6,g7,h3,h4⟩
  | j+3,hx,hy=>simp at hy
 ·rw [HN,e]
  show ((Ry wn "rank" : Nat):Int)<12
  omega
theorem Q3 (F:PX K aB aP aM) (e:GZ ρ vs=wn) (ht:isNm t) (h:QB wn "rank" t=true) {sh lo hi:Int} (b1 : -200<=sh) (b2:sh<=200) (b3:0<=lo) (b4:lo<=60) (b5:0<=hi) (b6:hi<=60) (hb:En ρ vs) (hl:Nk ρ vs ⟨"line",t,[.int sh,.int lo,.int hi]⟩):Gi K aB aP aM ρ vs ⟨"line",t,[.int sh,.int lo,.int hi]⟩:=by
 obtain ⟨ap,g1,g2⟩:=F.pL
 obtain ⟨a1,g3,g4⟩:=F.bS
 obtain ⟨a2,g5,g6⟩:=F.bLo
 obtain ⟨a3,g7,g8⟩:=F.bHi
 refine ⟨by show ¬ ("line" : Str) = "step"; decide +kernel,⟨ap,["rank","shift","low","high"],g1,g2,rfl,by decide,fun j x y hx hy=>?_⟩,.inl ⟨rfl,F.mL⟩,fun _=>hl,hb⟩
 match j,hx,hy with
 | 0,hx,hy =>
  cases (Option.some.inj hx)
  cases (Option.some.inj hy)
  exact .inr (.inr ⟨F.bR,by decide +kernel,_,rfl,ht,by rw [Ii,e]; exact h⟩)
 | 1,hx,hy =>
  cases (Option.some.inj hx)
  cases (Option.some.inj hy)
  exact .inl ⟨_,-200,200,a1,rfl,g3,g4,b1,b2⟩
 | 2,hx,hy =>
  cases (Option.some.inj hx)
  cases (Option.some.inj hy)
  exact .inl ⟨_,0,60,a2,rfl,g5,g6,b3,b4⟩
 | 3,hx,hy =>
  cases (Option.some.inj hx)
  cases (Option.some.inj hy)
  exact .inl ⟨_,0,60,a3,rfl,g7,g8,b5,b6⟩
 | j+4,hx,hy=>simp at hy
end
structure HW (K:PySem.W.Frag) (aB aP aM:Addr) (ρ:V->R) (us:List V) (bs:List (Str × Nat)) (rk:List (Str × Nat × Int)) (ks:List R):Prop where
 kinds:∀ v∈us,(ρ v).w = "board" \/ (ρ v).w = "rank" \/ (ρ v).w = "line" \/ (ρ v).w = "stop" \/ (ρ v).w = "coupler" \/ (ρ v).w = "mute"
 eb:(us.filter (pw ρ "board")).map ρ=bs.map FQ
 er:(us.filter (pw ρ "rank")).map ρ=rk.map Hg
 ek:(us.filter (fun v=>Io (ρ v).w)).map ρ=ks
 ln:∀ (i:Nat) v,us[i]? = some v->(ρ v).w = "line"->(∃ (j:Nat) (r:Str × Nat × Int) (sh lo hi:Int),rk[j]? = some r/\r.1=(ρ v).nm/\(ρ v).rest=[.int sh,.int lo,.int hi])/\∃ u∈us.take i,Io (ρ u).w=true
 ok:∀ (i:Nat) v,us[i]? = some v->Gi K aB aP aM ρ (us.take i) (ρ v)
section
variable {aB aP aM:Addr} {ρ:V->R} {us:List V} {v:V} {bs bs':List (Str × Nat)} {rk rk':List (Str × Nat × Int)} {ks ks':List R}
theorem Lb {w t:Str}:V9 ρ us w t=true ↔ ∃ v∈us,(ρ v).w=w/\(ρ v).nm=t:=by
 unfold V9
 rw [List.any_eq_true]
 constructor
 ·rintro ⟨v,hv,hn⟩
  obtain ⟨h1,h2⟩:=List.mem_filter.mp hv
  exact ⟨v,h1,V.str.inj (of_decide_eq_true h2),V.str.inj (of_decide_eq_true hn)⟩
 ·rintro ⟨v,hv,h1,h2⟩
  exact ⟨v,List.mem_filter.mpr ⟨hv,decide_eq_true (congrArg V.str h1)⟩,decide_eq_true (congrArg V.str h2)⟩
theorem HW.nil:HW K aB aP aM ρ [] [] [] []:=⟨(fun _ h=>nomatch h),rfl,rfl,rfl,(fun i v h=>by simp at h),(fun i v h=>by simp at h)⟩
theorem HW.Vx (h:HW K aB aP aM ρ us bs rk ks) (hv:v∈us) (hw:(ρ v).w = "board"):∃ b∈bs,FQ b=ρ v:=by
 have:ρ v∈(us.filter (pw ρ "board")).map ρ:=List.mem_map_of_mem (List.mem_filter.mpr ⟨hv,decide_eq_true (congrArg V.str hw)⟩)
 rw [h.eb] at this
 exact List.mem_map.mp this
theorem HW.fK (h:HW K aB aP aM ρ us bs rk ks) (hv:v∈us) (hw:(ρ v).w = "rank"):∃ b∈rk,Hg b=ρ v:=by
 have:ρ v∈(us.filter (pw ρ "rank")).map ρ:=List.mem_map_of_mem (List.mem_filter.mpr ⟨hv,decide_eq_true (congrArg V.str hw)⟩)
 rw [h.er] at this
 exact List.mem_map.mp this
theorem HW.Ru (h:HW K aB aP aM ρ us bs rk ks) (hv:v∈us) (hw:Io (ρ v).w=true):ρ v∈ks:=by
 have:ρ v∈(us.filter (fun v=>Io (ρ v).w)).map ρ:=List.mem_map_of_mem (List.mem_filter.mpr ⟨hv,hw⟩)
 rw [h.ek] at this
 exact this
theorem HW.ZC (h:HW K aB aP aM ρ us bs rk ks):En ρ us:=fun v hv hw=>by
 obtain ⟨b,_,e⟩:=h.Vx hv hw
 exact ⟨_,by rw [← e]⟩
theorem HW.V_ (h:HW K aB aP aM ρ us bs rk ks) {b:Str × Nat} (hb:b∈bs):∃ v∈us,ρ v=FQ b:=by
 have:FQ b∈(us.filter (pw ρ "board")).map ρ:=by rw [h.eb]; exact List.mem_map_of_mem hb
 obtain ⟨v,hv,e⟩:=List.mem_map.mp this
 exact ⟨v,(List.mem_filter.mp hv).1,e⟩
theorem HW.cR (h:HW K aB aP aM ρ us bs rk ks) {r:Str × Nat × Int} (hr:r∈rk):∃ v∈us,ρ v=Hg r:=by
 have:Hg r∈(us.filter (pw ρ "rank")).map ρ:=by rw [h.er]; exact List.mem_map_of_mem hr
 obtain ⟨v,hv,e⟩:=List.mem_map.mp this
 exact ⟨v,(List.mem_filter.mp hv).1,e⟩
theorem HW.Oa (h:HW K aB aP aM ρ us bs rk ks) {b:Str × Nat} (hb:b∈bs):QB (GZ ρ us) "board" b.1=true:=by
 obtain ⟨v,hv,e⟩:=h.V_ hb
 rw [← Ii,Lb]
 exact ⟨v,hv,by rw [e],by rw [e]⟩
theorem HW.XM (h:HW K aB aP aM ρ us bs rk ks) {r:Str × Nat × Int} (hr:r∈rk):QB (GZ ρ us) "rank" r.1=true:=by
 obtain ⟨v,hv,e⟩:=h.cR hr
 rw [← Ii,Lb]
 exact ⟨v,hv,by rw [e],by rw [e]⟩
theorem J1 {w:Str} (h:w = "stop" \/ w = "coupler" \/ w = "mute"):Io w=true:=by rcases h with rfl | rfl | rfl <;> decide +kernel
theorem HW.fresh (h:HW K aB aP aM ρ us bs rk ks) {t:Str} (hb:∀ b∈bs,b.1 ≠ t) (hr:∀ r∈rk,r.1 ≠ t) (hk:∀ k∈ks,k.nm ≠ t):∀ w∈named,QB (GZ ρ us) w t=false:=by
 intro w hw
 rw [← Ii,← Bool.not_eq_true,Lb]
 rintro ⟨v,hv,hw',hn⟩
 simp only [List.mem_cons,List.mem_singleton,List.not_mem_nil,or_false] at hw
 rcases hw with rfl | rfl | rfl | rfl | rfl
 ·obtain ⟨b,hb',e⟩:=h.Vx hv hw'
  exact hb b hb' (by rw [← hn,← e])
 ·obtain ⟨b,hb',e⟩:=h.fK hv hw'
  exact hr b hb' (by rw [← hn,← e])
 ·exact hk _ (h.Ru hv (J1 (.inl hw'))) hn
 ·exact hk _ (h.Ru hv (J1 (.inr (.inl hw')))) hn
 ·exact hk _ (h.Ru hv (J1 (.inr (.inr hw')))) hn
theorem HW.bT (h:HW K aB aP aM ρ us bs rk ks):Ry (GZ ρ us) "board" = bs.length:=by
 rw [← HN,← List.length_map (f:=ρ),h.eb,List.length_map]
theorem HW.bf (h:HW K aB aP aM ρ us bs rk ks):Ry (GZ ρ us) "rank" = rk.length:=by
 rw [← HN,← List.length_map (f:=ρ),h.er,List.length_map]
theorem HW.Vt (h:HW K aB aP aM ρ us bs rk ks) {w:Str} (hw:w = "stop" \/ w = "coupler" \/ w = "mute"):Ry (GZ ρ us) w=(ks.filter fun r=>decide (V.str r.w=V.str w)).length:=by
 rw [← HN,← h.ek,List.filter_map,List.length_map,List.filter_filter]
 refine congrArg List.length (List.filter_congr fun v _=>?_)
 show pw ρ w v=(pw ρ w v && Io (ρ v).w)
 by_cases e:(ρ v).w=w
 ·rw [J1 (by rw [e]; exact hw),Bool.and_true]
 ·have:pw ρ w v=false:=decide_eq_false fun z=>e (V.str.inj z)
  rw [this,Bool.false_and]
theorem HW.snoc (h:HW K aB aP aM ρ us bs rk ks) (hk:(ρ v).w = "board" \/ (ρ v).w = "rank" \/ (ρ v).w = "line" \/ (ρ v).w = "stop" \/ (ρ v).w = "coupler" \/ (ρ v).w = "mute")
  (eb:((us++[v]).filter (pw ρ "board")).map ρ=bs'.map FQ) (er:((us++[v]).filter (pw ρ "rank")).map ρ=rk'.map Hg) (ek:((us++[v]).filter (fun v=>Io (ρ v).w)).map ρ=ks')
  (hr:∀ (j:Nat) r,rk[j]? = some r->rk'[j]? = some r)
  (hl:(ρ v).w = "line"->(∃ (j:Nat) (r:Str × Nat × Int) (sh lo hi:Int),rk'[j]? = some r/\r.1=(ρ v).nm/\(ρ v).rest=[.int sh,.int lo,.int hi])/\∃ u∈us,Io (ρ u).w=true)
  (ok:Gi K aB aP aM ρ us (ρ v)):HW K aB aP aM ρ (us++[v]) bs' rk' ks':=by
 have at_:∀ {i:Nat} {u:V},(us++[v])[i]? = some u->us[i]? = some u/\(us++[v]).take i=us.take i \/ u=v/\(us++[v]).take i=us:=fun {i u} hi=>by
  by_cases hlt:i<us.length
  ·rw [List.getElem?_append_left hlt] at hi
   exact .inl ⟨hi,List.take_append_of_le_length (Nat.le_of_lt hlt)⟩
  ·have h2:=(List.getElem?_eq_some_iff.mp hi).1
   rw [List.length_append,List.length_singleton] at h2
   have hil:i=us.length:=by omega
   subst hil
   rw [List.getElem?_append_right (Nat.le_refl _),Nat.sub_self] at hi
   exact .inr ⟨(Option.some.inj hi).symm,by rw [List.take_append_of_le_length (Nat.le_refl _),List.take_length]⟩
 refine ⟨fun u hu=>?_,eb,er,ek,fun i u hi hw=>?_,fun i u hi=>?_⟩
 ·rcases List.mem_append.mp hu with h' | h'
  ·exact h.kinds u h'
  ·rw [List.mem_singleton.mp h']
   exact hk
 ·rcases at_ hi with ⟨h1,h2⟩ | ⟨rfl,h2⟩
  ·rw [h2]
   obtain ⟨⟨j,r,sh,lo,hi',g1,g2,g3⟩,g4⟩:=h.ln i u h1 hw
   exact ⟨⟨j,r,sh,lo,hi',hr j r g1,g2,g3⟩,g4⟩
  ·rw [h2]
   exact hl hw
 ·rcases at_ hi with ⟨h1,h2⟩ | ⟨rfl,h2⟩
  ·rw [h2]
   exact h.ok i u h1
  ·rw [h2]
   exact ok
theorem Jy {p:V->Bool} (h:p v=true):(us++[v]).filter p=us.filter p++[v]:=by
 rw [List.filter_append,List.filter_cons,if_pos h]
 rfl
theorem Ej {p:V->Bool} (h:p v=false):(us++[v]).filter p=us.filter p:=by
 rw [List.filter_append,List.filter_cons,if_neg (by rw [h]; decide)]
 simp
end
structure Gy (K:PySem.W.Frag) (aB aP aM:Addr) (rows:List R) (bs:List (Str × Nat)) (rk:List (Str × Nat × Int)) (ks:List R) (ls:List (List Ln)):Prop where
 ok:∀ (ρ:V->R) (us:List V),us.map ρ=rows->HW K aB aP aM ρ us bs rk ks
 ln0:ks=[]->∀ rk',linesOf rk' rows=[]
 ln:linesOf rk rows=ls
section
variable {aB aP aM:Addr} {rows:List R} {bs:List (Str × Nat)} {rk:List (Str × Nat × Int)} {ks:List R} {ls:List (List Ln)}
theorem Gy.nil:Gy K aB aP aM [] [] [] [] []:=⟨fun ρ us e=>by rw [List.map_eq_nil_iff.mp e]; exact HW.nil,fun _ _=>rfl,rfl⟩
theorem JQ {ρ:V->R} {us:List V} {r:R} (e:us.map ρ=rows++[r]):∃ us' v,us=us'++[v]/\us'.map ρ=rows/\ρ v=r:=by
 obtain ⟨a,b,rfl,h1,h2⟩:=List.map_eq_append_iff.mp e
 obtain ⟨v,l,rfl,h3,h4⟩:=List.map_eq_cons_iff.mp h2
 rw [List.map_eq_nil_iff.mp h4]
 exact ⟨a,v,rfl,h1,h3⟩
theorem Gy.cW (F:PX K aB aP aM) (h:Gy K aB aP aM rows bs [] [] []) {t:Str} {n:Nat} (ht:isNm t) (hf:∀ b∈bs,b.1 ≠ t) (hb:bs.length<5) (h1:1<=n) (h2:n<=61):Gy K aB aP aM (rows++[FQ (t,n)]) (bs++[(t,n)]) [] [] []:=by
 refine ⟨fun ρ us e=>?_,fun _ rk'=>?_,?_⟩
 ·obtain ⟨us',v,rfl,e',hv⟩:=JQ e
  have O:=h.ok ρ us' e'
  refine O.snoc (.inl (by rw [hv])) ?_ ?_ ?_ (fun _ _ h=>h) (fun z=>absurd (hv ▸ z) (by show ¬ ("board" : Str) = "line"; decide +kernel)) ?_
  ·rw [Jy (by unfold pw; rw [hv]; exact decide_eq_true rfl),List.map_append,O.eb,List.map_append,List.map_singleton,hv]
   rfl
  ·rw [Ej (by unfold pw; rw [hv]; show decide (V.str "board" = V.str "rank")=false; decide +kernel),O.er]
  ·rw [Ej (by rw [hv]; show Io "board" = false; decide +kernel),O.ek]
  ·rw [hv]
   exact O3 (RG F.f rfl ht (O.fresh hf (fun _ z=>nomatch z) (fun _ z=>nomatch z)) (by rw [O.bT]; exact hb) h1 h2) O.ZC
 ·rw [CN,h.ln0 rfl rk']
  rfl
 ·rw [CN,h.ln0 rfl []]
  rfl
theorem Gy.rank (F:PX K aB aP aM) (h:Gy K aB aP aM rows bs rk [] []) {t:Str} {n:Nat} {wi:Int} (ht:isNm t) (hf:∀ b∈bs,b.1 ≠ t) (hr:∀ r∈rk,r.1 ≠ t) (hc:rk.length<12) (h1:1<=n) (h2:n<=97) (h3:0<=wi) (h4:wi<=1000000000):Gy K aB aP aM (rows++[Hg (t,n,wi)]) bs (rk++[(t,n,wi)]) [] []:=by
 refine ⟨fun ρ us e=>?_,fun _ rk'=>?_,?_⟩
 ·obtain ⟨us',v,rfl,e',hv⟩:=JQ e
  have O:=h.ok ρ us' e'
  refine O.snoc (.inr (.inl (by rw [hv]))) ?_ ?_ ?_ (fun j r h=>by rw [List.getElem?_append_left (List.getElem?_eq_some_iff.mp h).1]; exact h) (fun z=>absurd (hv ▸ z) (by show ¬ ("rank" : Str) = "line"; decide +kernel)) ?_
  ·rw [Ej (by unfold pw; rw [hv]; show decide (V.str "rank" = V.str "board")=false; decide +kernel),O.eb]
  ·rw [Jy (by unfold pw; rw [hv]; exact decide_eq_true rfl),List.map_append,O.er,List.map_append,List.map_singleton,hv]
   rfl
  ·rw [Ej (by rw [hv]; show Io "rank" = false; decide +kernel),O.ek]
  ·rw [hv]
   exact QH F rfl ht (O.fresh hf hr (fun _ z=>nomatch z)) (by rw [O.bf]; exact hc) h1 h2 h3 h4 O.ZC
 ·rw [CN,h.ln0 rfl rk']
  rfl
 ·rw [CN,h.ln0 rfl _]
  rfl
theorem Gy.V8 (h:Gy K aB aP aM rows bs rk ks ls) {r:R} (hw:r.w = "stop" \/ r.w = "coupler" \/ r.w = "mute") (hr:∀ (ρ:V->R) (us:List V),us.map ρ=rows->KZ K aB aP aM ρ us r):Gy K aB aP aM (rows++[r]) bs rk (ks++[r]) (ls++[[]]):=by
 have hK:=J1 hw
 refine ⟨fun ρ us e=>?_,fun z=>by simp at z,?_⟩
 ·obtain ⟨us',v,rfl,e',hv⟩:=JQ e
  have O:=h.ok ρ us' e'
  refine O.snoc (.inr (.inr (.inr (by rw [hv]; exact hw)))) ?_ ?_ ?_ (fun _ _ h=>h) (fun z=>?_) ?_
  ·rw [Ej (by unfold pw; rw [hv]; rcases hw with e | e | e <;> rw [e] <;> decide +kernel),O.eb]
  ·rw [Ej (by unfold pw; rw [hv]; rcases hw with e | e | e <;> rw [e] <;> decide +kernel),O.er]
  ·rw [Jy (by rw [hv]; exact hK),List.map_append,O.ek,List.map_singleton,hv]
  ·rw [hv] at z
   rcases hw with e | e | e <;> rw [e] at z <;> exact absurd z (by decide +kernel)
  ·rw [hv]
   exact O3 (hr ρ us' e') O.ZC
 ·rw [CN,h.ln]
  unfold FP
  rw [if_pos hK]
theorem Gy.Ub (F:PX K aB aP aM) (h:Gy K aB aP aM rows bs rk ks ls) {t a b:Str} {n m:Nat} {s:Int} (ht:isNm t) (hb:∀ b∈bs,b.1 ≠ t) (hr:∀ r∈rk,r.1 ≠ t) (hk:∀ k∈ks,k.nm ≠ t) (hc:(ks.filter fun r=>decide (V.str r.w=V.str "coupler")).length<12) (ha:isNm a) (ha':(a,n)∈bs) (hb1:isNm b) (hb':(b,m)∈bs) (h1 : -60<=s) (h2:s<=60) :
  Gy K aB aP aM (rows++[⟨"coupler",t,[.str a,.str b,.int s]⟩]) bs rk (ks++[⟨"coupler",t,[.str a,.str b,.int s]⟩]) (ls++[[]]) :=
 h.V8 (.inr (.inl rfl)) fun ρ us e=>by
  have O:=h.ok ρ us e
  exact Mu F.f rfl ht (O.fresh hb hr hk) (by rw [O.Vt (.inr (.inl rfl))]; exact hc) ha (O.Oa ha') hb1 (O.Oa hb') h1 h2
theorem Gy.plain (F:PX K aB aP aM) (h:Gy K aB aP aM rows bs rk ks ls) {wd t a:Str} {n:Nat} (hw:wd = "stop" \/ wd = "mute") (ht:isNm t) (hb:∀ b∈bs,b.1 ≠ t) (hr:∀ r∈rk,r.1 ≠ t) (hk:∀ k∈ks,k.nm ≠ t) (hc:(ks.filter fun r=>decide (V.str r.w=V.str wd)).length<Ez wd) (ha:isNm a) (ha':(a,n)∈bs) :
  Gy K aB aP aM (rows++[⟨wd,t,[.str a]⟩]) bs rk (ks++[⟨wd,t,[.str a]⟩]) (ls++[[]]):=by
 have hw3:wd = "stop" \/ wd = "coupler" \/ wd = "mute":=by rcases hw with e | e; exact .inl e; exact .inr (.inr e)
 exact h.V8 hw3 fun ρ us e=>by
  have O:=h.ok ρ us e
  exact Qj F.f hw rfl ht (O.fresh hb hr hk) (by rw [O.Vt hw3]; exact hc) ha (O.Oa ha')
noncomputable def Tl (rows:List R) (bd:Str) (cnt:Nat):Prop:=∃ (r0:List R) (st:R) (lr:List R),rows=r0++st::lr/\st.w = "stop" /\ st.rest=[.str bd]/\lr.length=cnt/\∀ r∈lr,r.w = "line"
theorem Tl.stop (rows:List R) (t bd:Str):Tl (rows++[⟨"stop",t,[.str bd]⟩]) bd 0:=⟨rows,_,[],rfl,rfl,rfl,rfl,fun _ h=>nomatch h⟩
theorem Tl.line {bd:Str} {cnt:Nat} {r:R} (h:Tl rows bd cnt) (hw:r.w = "line"):Tl (rows++[r]) bd (cnt+1):=by
 obtain ⟨r0,st,lr,rfl,h1,h2,h3,h4⟩:=h
 refine ⟨r0,st,lr++[r],by simp,h1,h2,by simp [h3],fun x hx=>?_⟩
 rcases List.mem_append.mp hx with g | g
 ·exact h4 x g
 ·rw [List.mem_singleton.mp g]
  exact hw
theorem Gy.line (F:PX K aB aP aM) {l0:List Ln} (h:Gy K aB aP aM rows bs rk ks (ls++[l0])) {bd:Str} {cnt:Nat} (T:Tl rows bd cnt) (hc:cnt<4) {j n m:Nat} {t:Str} {wi sh lo hi:Int} (hj:rk[j]? = some (t,m,wi)) (hnd:(rk.map (·.1)).Nodup) (ht:isNm t) (hbd:(bd,n)∈bs) (hle:lo<=hi) (hn:hi<(n:Int)) (b1 : -200<=sh) (b2:sh<=200) (b3:0<=lo) (b6:hi<=60) :
  Gy K aB aP aM (rows++[⟨"line",t,[.int sh,.int lo,.int hi]⟩]) bs rk ks (ls++[l0++[⟨j,sh,lo,hi⟩]]):=by
 obtain ⟨r0,st,lr,er,g1,g2,g3,g4⟩:=T
 have nK:Io "line" = false:=by decide +kernel
 refine ⟨fun ρ us e=>?_,fun z=>?_,?_⟩
 ·obtain ⟨us',v,rfl,e',hv⟩:=JQ e
  have O:=h.ok ρ us' e'
  obtain ⟨u0,u1,eu,m1,m2⟩:=List.map_eq_append_iff.mp (e'.trans er)
  obtain ⟨sv,lv,e1,m3,m4⟩:=List.map_eq_cons_iff.mp m2
  subst e1
  have hsv:sv∈us':=by rw [eu]; simp
  have hlv:lv.length=cnt:=by rw [← g3,← m4,List.length_map]
  have hus:us'.length=u0.length+(cnt+1):=by rw [eu,List.length_append,List.length_cons,hlv]
  refine O.snoc (.inr (.inr (.inl (by rw [hv])))) ?_ ?_ ?_ (fun _ _ h=>h) (fun _=>⟨⟨j,_,sh,lo,hi,hj,by rw [hv],by rw [hv]⟩,sv,hsv,by rw [m3,g1]; decide +kernel⟩) ?_
  ·rw [Ej (by unfold pw; rw [hv]; show decide (V.str "line" = V.str "board")=false; decide +kernel),O.eb]
  ·rw [Ej (by unfold pw; rw [hv]; show decide (V.str "line" = V.str "rank")=false; decide +kernel),O.er]
  ·rw [Ej (by rw [hv]; exact nK),O.ek]
  ·rw [hv]
   have hst:us'[us'.length - 1 - cnt]? = some sv:=by
    have:us'.length - 1 - cnt=u0.length:=by omega
    rw [this,eu,List.getElem?_append_right (Nat.le_refl _),Nat.sub_self]
    rfl
   refine Q3 F rfl ht (O.XM (List.mem_of_getElem? hj)) b1 b2 b3 (by omega) (by omega) b6 O.ZC ⟨cnt,sv,sh,lo,hi,bd,[],rfl,⟨fun i hi'=>?_,by omega,sv,hst,by rw [m3,g1]; decide +kernel⟩,hc,hst,by rw [m3,g1],by rw [m3,g2],hle,?_⟩
   ·have hi2:cnt - 1 - i<lv.length:=by omega
    refine ⟨lv[cnt - 1 - i],?_,?_⟩
    ·have:us'.length - 1 - i=u0.length+((cnt - 1 - i)+1):=by omega
     rw [this,eu,List.getElem?_append_right (Nat.le_add_right _ _),Nat.add_sub_cancel_left,List.getElem?_cons_succ]
     exact List.getElem?_eq_getElem hi2
    ·refine g4 _ ?_
     rw [← m4]
     exact List.mem_map_of_mem (List.getElem_mem hi2)
   ·obtain ⟨u,hu,hub⟩:=O.V_ hbd
    rw [List.any_eq_true]
    refine ⟨u,List.mem_filter.mpr ⟨hu,?_⟩,?_⟩
    ·unfold pw
     rw [hub]
     exact decide_eq_true rfl
    ·show (pn ρ bd u && decide (hi<Xu (ρ u)))=true
     unfold pn
     rw [hub,Bool.and_eq_true]
     exact ⟨decide_eq_true rfl,decide_eq_true hn⟩
 ·subst z
  have:=h.ln0 rfl rk
  rw [h.ln] at this
  simp at this
 ·rw [CN,h.ln]
  unfold FP
  rw [if_neg (by show ¬ Io "line" = true; rw [nK]; decide),if_pos rfl,Gq]
  have hjl:=(List.getElem?_eq_some_iff.mp hj).1
  have:(rk.map (·.1)).idxOf t=j:=by
   have hl:j<(rk.map (·.1)).length:=by rw [List.length_map]; exact hjl
   have e2:(rk.map (·.1))[j]=t:=by
    rw [List.getElem_map]
    have:=(List.getElem?_eq_some_iff.mp hj).2
    rw [this]
   rw [← e2]
   exact hnd.idxOf_getElem j hl
  show ls++[l0++[⟨(rk.map (·.1)).idxOf t,sh,lo,hi⟩]]=_
  rw [this]
theorem Gy.fin {H:Hp} {vs:List V} (h:Gy K aB aP aM rows bs rk ks ls) (hv:Paired (fun (r:R) v=>TupAt H r.v v) rows vs) (b0:1<=bs.length) (b5:bs.length<=5) (sz:∀ b∈bs,b.2<=61) (nr:rk.length<=12) (nz:∀ r∈rk,r.2.1<=97) (nk:ks.length<=100) (nb:(bs.map (·.1)).Nodup) (nrr:(rk.map (·.1)).Nodup) (nn:(ks.map (·.nm)).Nodup) (len:rows.length<=150) :
  Rows H (UT H) vs/\gF K aB aP aM (UT H) vs bs rk ks/\linesOf rk (vs.map (UT H))=ls:=by
 have em:=Oz hv
 have O:=h.ok (UT H) vs em
 refine ⟨fun v hv'=>?_,⟨O.kinds,O.eb,O.er,O.ek,O.ln,b0,b5,sz,nr,nz,nk,nb,nrr,nn,by rw [← hv.length]; exact len,O.ok⟩,by rw [em]; exact h.ln⟩
 obtain ⟨r,_,hr⟩:=Cm hv hv'
 rw [Ov hr]
 exact hr
end
end Og
namespace Og
open PySem L2 PyProof.Rows
theorem Uk {a b:Str} (h:a.cps.toList=b.cps.toList):a=b:=by
 cases a; cases b; simp at h; simp [h]
theorem X4:∀ n<26,letters.cps.toList[n]? = some (97+n):=by decide +kernel
theorem Nq {i:Int} (h0:0<=i) (h1:i<26):Nv letters.cps.toList i=some (97+i.toNat):=by
 have h:=Ai (X4 i.toNat (by omega))
 have e:((i.toNat:Nat):Int)=i:=by omega
 rw [e] at h
 exact h
theorem Uh:(("" : Str)).cps = #[]:=by decide +kernel
theorem Ow (cs:List Nat):(Txt.join ("" : Str) (cs.map fun c=>(⟨#[c]⟩:Str))).cps.toList=cs:=by
 have key:∀ (l:List Nat) (acc:Array Nat),((l.map fun c=>(⟨#[c]⟩:Str)).foldl (fun acc p=>acc++("" : Str).cps++p.cps) acc).toList=acc.toList++l:=by
  intro l
  induction l with
  | nil=>intro acc; simp
  | cons c l ih =>
   intro acc
   rw [List.map_cons,List.foldl_cons,ih,Uh]
   simp
 unfold Txt.join Builtin.Str.glued
 cases cs with
 | nil=>decide +kernel
 | cons c l =>
  show (((((c::l).map fun c=>(⟨#[c]⟩:Str)).drop 1)).foldl (fun acc p=>acc++("" : Str).cps++p.cps) #[c]).toList=_
  rw [List.map_cons,List.drop_succ_cons,List.drop_zero,key]
  rfl
theorem N7 {z:Str} {n:Nat} (h:n<=z.length):(Txt.slice z none (some (n:Int))).cps.toList=z.cps.toList.take n:=by
 have hl:z.length=z.cps.toList.length:=by simp [Str.length]
 have e:=beq_iff_eq.mp (slice_closes_to (x:=z) (j:=(n:Int)) ⟨by omega,by omega⟩)
 rw [e,List.toList_toArray]
 simp
theorem Ot {z:Str} {n:Nat} (h:n<=z.length):(Txt.slice z (some (n:Int)) none).cps.toList=z.cps.toList.drop n:=by
 have hl:z.length=z.cps.toList.length:=by simp [Str.length]
 rw [slice_from_eq (x:=z) (i:=(n:Int)) (b:=(z.length:Int)) (by omega) (by omega) rfl,List.toList_toArray,Int.toNat_natCast]
 refine List.take_of_length_le ?_
 rw [List.length_drop]
 omega
noncomputable def OD (c:Int):Nat:=(2+c % 7).toNat
theorem Sd (c:Int):2<=OD c/\OD c<=8:=by unfold OD; omega
noncomputable def Fl (c:Int):List Nat:=(List.range (OD c)).map fun (j:Nat)=>97+(Bl (c / 7) (j:Nat) % 26).toNat
theorem Fg (c:Int):(Fl c).length=OD c:=by simp [Fl]
theorem Pr {c:Int} {x:Nat} (h:x∈Fl c):97<=x/\x<=122:=by
 obtain ⟨j,_,rfl⟩:=List.mem_map.mp h
 have h1:0<=Bl (c / 7) (j:Nat) % 26:=Int.emod_nonneg _ (by decide)
 have h2:Bl (c / 7) (j:Nat) % 26<26:=Int.emod_lt_of_pos _ (by decide)
 omega
noncomputable def NK (c:Int):Nat:=(c / 49 % (2+c % 7 - 1)).toNat
theorem Tv (c:Int):NK c+2<=OD c:=by
 unfold NK OD
 have h1:0<=c / 49 % (2+c % 7 - 1):=Int.emod_nonneg _ (by omega)
 have h2:c / 49 % (2+c % 7 - 1)<2+c % 7 - 1:=Int.emod_lt_of_pos _ (by omega)
 omega
noncomputable def Hl (c:Int) (k:Nat):List Nat:=(Fl c).take (NK c)++[97+k / 26,97+k % 26]++(Fl c).drop (NK c+2)
noncomputable def Ce (c:Int) (k:Nat):Str:=⟨(Hl c k).toArray⟩
theorem YF (c:Int) (k:Nat):(Hl c k).length=OD c:=by
 have:=Tv c
 have:=Fg c
 simp [Hl]
 omega
theorem dU (c:Int) {k:Nat} (h:k<676):isNm (Ce c k):=by
 have:=Sd c
 have e:(Ce c k).length=OD c:=by simp [Ce,Str.length,YF]
 refine ⟨by omega,by omega,fun x hx=>?_⟩
 have hx':x∈Hl c k:=by simpa [Ce] using hx
 unfold Hl at hx'
 rcases List.mem_append.mp hx' with hx' | hx'
 ·rcases List.mem_append.mp hx' with hx' | hx'
  ·exact Pr (List.mem_of_mem_take hx')
  ·have:k / 26<26:=by omega
   have:k % 26<26:=Nat.mod_lt _ (by decide)
   rcases List.mem_cons.mp hx' with rfl | hx'
   ·omega
   ·rw [List.mem_singleton.mp hx']
    omega
 ·exact Pr (List.mem_of_mem_drop hx')
theorem J3 {c:Int} {k l:Nat} (h:Ce c k=Ce c l):k=l:=by
 have h1:Hl c k=Hl c l:=by
  have:=congrArg (fun s:Str=>s.cps.toList) h
  simpa [Ce] using this
 unfold Hl at h1
 rw [List.append_assoc,List.append_assoc] at h1
 have h2:=List.append_cancel_left h1
 have e1:97+k / 26=97+l / 26:=by
  have:=congrArg (fun t=>t.head?) h2
  simpa using this
 have e2:97+k % 26=97+l % 26:=by
  have:=congrArg (fun t=>t[1]?) h2
  simpa using this
 omega
end Og
namespace Og
open PySem L2 PyProof.Rows
theorem T7 {w:Str} (h:w = "stop" \/ w = "coupler" \/ w = "mute"):Dh (E_ [] [(Sum.inr "coupler",V.int 12),(Sum.inr "mute",.int 5),(Sum.inr "stop",.int 24)]) (Sum.inr w:Key)=some (.int (Ez w:Nat)):=by
 rcases h with rfl | rfl | rfl <;> decide +kernel
theorem Nb.snoc {n:Nat} {kbs:List Kb} {k:Kb} (h:∀ z∈kbs,z.ok n) (hr:∀ (i:Nat) z,kbs[i]? = some z->((kbs.take i).filter (GP z.w)).length<Ez z.w) (ho:k.ok n) (hk:(kbs.filter (GP k.w)).length<Ez k.w) :
  (∀ z∈kbs++[k],z.ok n)/\∀ (i:Nat) z,(kbs++[k])[i]? = some z->(((kbs++[k]).take i).filter (GP z.w)).length<Ez z.w:=by
 refine ⟨fun z hz=>?_,fun i z hz=>?_⟩
 ·rcases List.mem_append.mp hz with q | q
  ·exact h z q
  ·rw [List.mem_singleton.mp q]
   exact ho
 ·by_cases hi:i<kbs.length
  ·rw [List.getElem?_append_left hi] at hz
   rw [List.take_append_of_le_length (by omega)]
   exact hr i z hz
  ·have:i=kbs.length:=by
    have:=(List.getElem?_eq_some_iff.mp hz).1
    rw [List.length_append,List.length_singleton] at this
    omega
   subst this
   rw [List.getElem?_append_right (Nat.le_refl _)] at hz
   simp at hz
   subst hz
   rw [List.take_append_of_le_length (Nat.le_refl _),List.take_length]
   exact hk
structure ZG (s:Nat) (pz:List Nat) (l:Ln):Prop where
 r:l.r<pz.length
 lo:0<=l.lo
 le:l.lo<=l.hi
 hi:l.hi<(s:Int)
 s1 : -200<=l.sh
 s2:l.sh<=200
noncomputable abbrev Kl:=Kb × List Ln
noncomputable def Kb.bd:Kb->Nat
 | .cp i _ _=>i
 | .pl _ i=>i
noncomputable def Kb.Wb {n:Nat} {k:Kb} (h:k.ok n):k.bd<n:=by
 cases k with
 | cp i j s=>exact h.1
 | pl w i=>exact h.1
noncomputable def FN (Dx:Addr) (H:Hp) (z:Kl) (y:V):Prop:=∃ ex,TupAt H (z.1.v++ex) y/\((ex=[]/\z.2=[]/\¬ z.1.w = "stop") \/ (z.1.w = "stop" /\ ∃ A ts,ex=[.ref A]/\¬ A=Dx/\H A=some (.lst ts)/\Paired (fun x y=>TupAt H (TX x) y) z.2 ts))
theorem FN.mono {Dx:Addr} {H H':Hp} {z:Kl} {y:V} (s:Aj H H') (h:FN Dx H z y):FN Dx H' z y:=by
 obtain ⟨ex,h1,h2⟩:=h
 refine ⟨ex,h1.mono s,?_⟩
 rcases h2 with h2 | ⟨h3,A,ts,e,hn,ha,hp⟩
 ·exact .inl h2
 ·exact .inr ⟨h3,A,ts,e,hn,s _ _ ha,Ak s hp⟩
theorem FN.upd {Dx:Addr} {H:Hp} {z:Kl} {y:V} {ys ws:List V} (h:FN Dx H z y) (hD:H Dx=some (.lst ys)):FN Dx (upd H Dx (.lst ws)) z y:=by
 obtain ⟨ex,h1,h2⟩:=h
 refine ⟨ex,h1.upd hD,?_⟩
 rcases h2 with h2 | ⟨h3,A,ts,e,hn,ha,hp⟩
 ·exact .inl h2
 ·exact .inr ⟨h3,A,ts,e,hn,by rw [BP hn]; exact ha,CV hp hD⟩
theorem FN.w0 {Dx:Addr} {H:Hp} {z:Kl} {y:V} (h:FN Dx H z y):∃ T r,y=.ref T/\H T=some (.tup (.str z.1.w::r)):=by
 obtain ⟨ex,⟨T,e,ht⟩,_⟩:=h
 obtain ⟨r,e2⟩:=z.1.v0
 rw [e2] at ht
 exact ⟨T,_,e,ht⟩
theorem TJ {Dx:Addr} {H:Hp} {kls:List Kl} {us:List V} (w:Str) (h:Paired (fun z y=>FN Dx H z y) kls us):(us.filter fun v=>decide (Jo H 0 v=V.str w)).length=((kls.map (·.1)).filter (GP w)).length:=by
 induction h with
 | nil=>rfl
 | @cons a b l m x y ih =>
  have e:Jo H 0 b=V.str a.1.w:=by
   obtain ⟨ex,h1,_⟩:=x
   rw [Ft h1 0]
   obtain ⟨r,e⟩:=a.1.v0
   rw [e]
   rfl
  rw [List.map_cons,List.filter_cons,List.filter_cons]
  have e2:decide (Jo H 0 b=V.str w)=GP w a.1:=by rw [e]
  rw [e2]
  cases GP w a.1 <;> simp [ih]
structure Qz (sz pz:List Nat) (kls:List Kl):Prop where
 ok:∀ k∈kls.map (·.1),k.ok sz.length
 room:∀ (i:Nat) k,(kls.map (·.1))[i]? = some k->(((kls.map (·.1)).take i).filter (GP k.w)).length<Ez k.w
 ln:∀ z∈kls,z.2.length<=4/\(∀ x∈z.2,ZG (sz.getD z.1.bd 0) pz x)/\(¬ z.1.w = "stop"->z.2=[])
theorem Qz.nil {sz pz:List Nat}:Qz sz pz []:=⟨(fun _ h=>nomatch h),(fun i k h=>by simp at h),(fun _ h=>nomatch h)⟩
theorem Qz.snoc {sz pz:List Nat} {kls:List Kl} {z:Kl} (h:Qz sz pz kls) (ho:z.1.ok sz.length) (hk:((kls.map (·.1)).filter (GP z.1.w)).length<Ez z.1.w) (hl:z.2.length<=4/\(∀ x∈z.2,ZG (sz.getD z.1.bd 0) pz x)/\(¬ z.1.w = "stop"->z.2=[])):Qz sz pz (kls++[z]):=by
 obtain ⟨a,b⟩:=Nb.snoc h.ok h.room ho hk
 refine ⟨by rw [List.map_append]; exact a,by rw [List.map_append]; exact b,fun x hx=>?_⟩
 rcases List.mem_append.mp hx with g | g
 ·exact h.ln x g
 ·rw [List.mem_singleton.mp g]
  exact hl
end Og
namespace L2
open PySem PySem.Spec PyProof.Rows
end L2
namespace L2
open PySem PySem.Spec PyProof.Rows
section
variable {X:Cx} {pins:List (Addr × Obj)} {σ:St} {H:Hp} {s:Shared} {x z:Str} {scope:Scope} {fp:List Addr} {C:Addr}
end
section
variable {X:Cx} {x z:Str} {scope:Scope}
end
section
variable {X:Cx} {x z:Str} {scope:Scope}
end
end L2
namespace L2
open PySem PySem.Spec PyProof.Rows
section
variable {X:Cx}
noncomputable def je (K:PySem.W.Frag) (n:Nat) (t:Vq):TG:=fun v σ H Q=>∃ a xs,v=.ref a/\CK K H a xs/\xs.length=n/\t xs σ H Q
theorem Wh {es:List Expr} {k} {pos:Pos} {t:Vq} {n:Nat} (hc:X.calm=true) (h:cT X es t)
  (hn:(assignEach es X.env).length=n:=by rfl) (hst:(assignEach es X.env).findIdx? (·.1)=none:=by rfl):PG X (.Tuple es k pos) (je X.K n t):=by
 intro pins s σ H v u Q I r hw
 obtain ⟨a,xs,e1,hq,hl,hw⟩:=hw
 subst e1
 cases r
 obtain ⟨its,rv,p,hz⟩:=I.list hq
 rw [assign_Tuple]
 refine wpAny_bind (wpAny_standAt ?_)
 unfold unpack
 have hlen:(assignEach es X.env).length=its.toArray.size:=by simp [hn,← hl,rv.length]
 rw [hlen,hst]
 refine wpAny_bind (wpAny_holding (PySem.W.kun_itemsOf (I.ok.hd hc) p.isList fun h' hx=>?_))
 have I1:Inv X pins σ H { s with heap:=h' }:=I.kept (t':=s.toks) fun b o e=>hx b o (Nat.ne_of_lt (Heap.lt_size e)) e
 exact h pins _ σ H xs _ Q I1 (by simpa using rv) hw
end
end L2
section PartK22a
set_option maxHeartbeats 4000000
namespace K22
open PySem L2 Og
noncomputable def top (i:Nat):Stmt:=PySem.Challenge.pw_windchest_k22_pipes_that_sound.main.body.getD i (.Pass ⟨0,0,0,0⟩)
noncomputable abbrev ZM:Stmt:=top 8
noncomputable abbrev X7:Stmt:=top 9
noncomputable abbrev Y6:Stmt:=top 10
noncomputable abbrev YZ:Stmt:=top 41
noncomputable abbrev YB:Stmt:=top 42
noncomputable abbrev Yj:Stmt:=top 43
noncomputable abbrev W8:Stmt:=top 44
noncomputable abbrev Wq:Stmt:=top 45
noncomputable abbrev Y4:Stmt:=top 46
noncomputable abbrev Xf:Stmt:=top 47
noncomputable abbrev ZJ:Stmt:=top 48
noncomputable abbrev Yt:Stmt:=top 50
noncomputable abbrev Yl:Stmt:=top 51
noncomputable abbrev Za:Stmt:=top 52
noncomputable abbrev Yg:Stmt:=top 53
noncomputable abbrev Yz:Stmt:=top 56
noncomputable abbrev Wm:Stmt:=top 57
noncomputable abbrev Xp:Stmt:=top 58
noncomputable abbrev ZD:Stmt:=top 59
noncomputable abbrev Zf:Stmt:=top 13
noncomputable abbrev Xm:Stmt:=top 14
noncomputable abbrev Ze:Stmt:=top 15
noncomputable abbrev XH:Stmt:=top 16
noncomputable abbrev Yn:Stmt:=top 17
noncomputable abbrev ZL:Stmt:=top 18
noncomputable abbrev Yo:Stmt:=top 20
noncomputable abbrev WW:Stmt:=top 21
noncomputable abbrev Yu:Stmt:=top 22
noncomputable abbrev ZK:Stmt:=top 23
noncomputable abbrev Yw:Stmt:=top 24
noncomputable abbrev Wz:Stmt:=top 26
noncomputable abbrev Wu:Stmt:=top 27
noncomputable abbrev Yr:Stmt:=top 28
noncomputable abbrev Yv:Stmt:=top 29
noncomputable abbrev ZP:Stmt:=top 30
noncomputable abbrev Xy:Stmt:=top 31
noncomputable abbrev Xg:Stmt:=top 32
noncomputable abbrev Zh:Stmt:=top 33
noncomputable abbrev Yy:Stmt:=top 63
noncomputable abbrev Yq:Stmt:=top 64
noncomputable abbrev ZX:Stmt:=top 65
noncomputable abbrev Zc:Stmt:=top 66
noncomputable abbrev Yc:Stmt:=top 67
noncomputable abbrev X8:Stmt:=top 68
noncomputable abbrev Ys:Stmt:=top 69
noncomputable abbrev Y5:Stmt:=top 70
noncomputable abbrev X_:Stmt:=top 71
noncomputable abbrev Wi:Stmt:=top 72
noncomputable abbrev Yp:Stmt:=top 73
noncomputable abbrev Wy:Stmt:=top 76
noncomputable abbrev Wr:Stmt:=top 74
noncomputable abbrev XX:Stmt:=top 75
noncomputable abbrev ZV:Stmt:=top 78
noncomputable abbrev Wc:Stmt:=top 79
noncomputable abbrev M8:Stmt:=top 80
noncomputable abbrev Zb:Stmt:=top 77
noncomputable abbrev Ws:Stmt:=top 81
noncomputable abbrev Q5:Stmt:=inClass (top 61) 0
noncomputable abbrev ZW:Stmt:=inClass (top 61) 2
noncomputable abbrev ZF:Stmt:=inClass (top 61) 5
noncomputable abbrev ZR:Stmt:=inClass (top 61) 7
noncomputable abbrev Y9:Stmt:=inClass (top 61) 8
noncomputable abbrev Yk:Stmt:=inClass (top 61) 13
noncomputable abbrev ZQ:Stmt:=inClass (top 61) 15
noncomputable abbrev Yh:Stmt:=inClass (top 61) 3
noncomputable abbrev Y0:Stmt:=inClass (top 61) 6
noncomputable abbrev Zd:Stmt:=inClass (top 61) 9
noncomputable abbrev Ym:Stmt:=inClass (top 61) 14
noncomputable abbrev Y_:Stmt:=inClass (top 61) 16
noncomputable abbrev XJ:Stmt:=inClass (top 61) 4
noncomputable abbrev KJ:Stmt:=top 82
structure Txt (K:PySem.W.Frag) (P:Params) (mg:Str->Option Value) (C aN aK aB aP aM:Addr):Prop where
 len:mg "len" = none
 isin:mg "isinstance" = none
 int:mg "int" = none
 bool:mg "bool" = none
 str:mg "str" = none
 list:mg "list" = none
 tuple:mg "tuple" = none
 all:mg "all" = none
 any:mg "any" = none
 sum:mg "sum" = none
 range:mg "range" = none
 zip:mg "zip" = none
 enumerate:mg "enumerate" = none
 max:mg "max" = none
 reversed:mg "reversed" = none
 set:mg "set" = none
 sorted:mg "sorted" = none
 letters:∃ t,mg "LETTERS" = some (.str letters t)
 mostL:∃ t,mg "MOST_LETTERS" = some (.int 8 t)
 mostR:∃ t,mg "MOST_ROWS" = some (.int 150 t)
 mostLn:∃ t,mg "MOST_LINES" = some (.int 4 t)
 below:∃ t,mg "MEMBERS_BELOW" = some (.int 1200 t)
 mN:mg "NAMED" = some (.ref aN)
 mK:mg "KNOBS" = some (.ref aK)
 mB:mg "BOUNDS" = some (.ref aB)
 mP:mg "PARTS" = some (.ref aP)
 mM:mg "MOST_OF" = some (.ref aM)
 tN:KTup K aN (named.map V.str)
 tK:KTup K aK [.str "stop",.str "coupler",.str "mute"]
 dB:KDict K P aB
 dP:KDict K P aP
 dM:KDict K P aM
 cl:Te K C
 mC:mg "Organ" = some (.ref C)
 n_row_list:DY K C "row_list"
 n_board_list:DY K C "board_list"
 n_rank_list:DY K C "rank_list"
 n_knob_rows:DY K C "knob_rows"
 n_board_numbers:DY K C "board_numbers"
 n_rank_numbers:DY K C "rank_numbers"
 n_knob_numbers:DY K C "knob_numbers"
 n_key_places:DY K C "key_places"
 n_pipe_places:DY K C "pipe_places"
 n_knob_lines:DY K C "knob_lines"
 n_step_sets:DY K C "step_sets"
structure jY (K:PySem.W.Frag) (mg:Str->Option Value) (C fWh fMd fNm fRo fTo fWi fPa fHp fCl fIk fSb fWm fHr fIr fCk fNu fCa fPl fLi fMy fSt fHa fMe fSh fUn fLe fDc fHk fWa fCq fMu fUk fSk fNb fLl fBs fBa fSo fCe fLw fMx fBi fNa fSz fLn fKn fKs fRw fSp fWd fDr fHd fGo fCo fSk2 fPi fSd fOi fOb fOc fOk fOo fBk fOp fOr fOq fOe fOs fOm fOz:Addr) (dWh dMd dNm dRo dTo dWi dPa dHp dCl dIk dSb dWm dHr dIr dCk dNu dCa dPl dLi dMy dSt dHa dMe dSh dUn dLe dDc dHk dWa dCq dMu dUk dSk dNb dLl dBs dBa dSo dCe dLw dMx dBi dNa dSz dLn dKn dKs dRw dSp dWd dDr dHd dGo dCo dSk2 dPi dSd dOi dOb dOc dOk dOo dBk dOp dOr dOq dOe dOs dOm dOz:FuncData):Prop where
 FWh:Cr K "is_whole" "is_whole" ZM fWh dWh∧Binds K dWh ["thing"] []∧mg "is_whole" = some (.ref fWh)
 FMd:Cr K "is_made_of" "is_made_of" X7 fMd dMd∧Binds K dMd ["text","signs","most"] []∧mg "is_made_of" = some (.ref fMd)
 FNm:Cr K "is_name" "is_name" Y6 fNm dNm∧Binds K dNm ["thing"] []∧mg "is_name" = some (.ref fNm)
 FRo:Cr K "rows_of" "rows_of" YZ fRo dRo∧Binds K dRo ["rows","word"] []∧mg "rows_of" = some (.ref fRo)
 FTo:Cr K "is_told" "is_told" YB fTo dTo∧Binds K dTo ["rows","word","thing"] []∧mg "is_told" = some (.ref fTo)
 FWi:Cr K "is_within" "is_within" Yj fWi dWi∧Binds K dWi ["thing","bounds"] []∧mg "is_within" = some (.ref fWi)
 FPa:Cr K "is_part" "is_part" W8 fPa dPa∧Binds K dPa ["thing","part","ahead"] []∧mg "is_part" = some (.ref fPa)
 FHp:Cr K "has_parts" "has_parts" Wq fHp dHp∧Binds K dHp ["row","ahead"] []∧mg "has_parts" = some (.ref fHp)
 FCl:Cr K "count_of_last_lines" "count_of_last_lines" Y4 fCl dCl∧Binds K dCl ["rows"] []∧mg "count_of_last_lines" = some (.ref fCl)
 FIk:Cr K "is_key_of" "is_key_of" Xf fIk dIk∧Binds K dIk ["number","board","ahead"] []∧mg "is_key_of" = some (.ref fIk)
 FSb:Cr K "stands_behind_stop" "stands_behind_stop" ZJ fSb dSb∧Binds K dSb ["line","ahead"] []∧mg "stands_behind_stop" = some (.ref fSb)
 FWm:Cr K "is_well_made" "is_well_made" Yt fWm dWm∧Binds K dWm ["row","ahead"] []∧mg "is_well_made" = some (.ref fWm)
 FHr:Cr K "has_room" "has_room" Yl fHr dHr∧Binds K dHr ["word","ahead"] []∧mg "has_room" = some (.ref fHr)
 FIr:Cr K "is_row" "is_row" Za fIr dIr∧Binds K dIr ["thing","ahead"] []∧mg "is_row" = some (.ref fIr)
 FCk:Cr K "check_rows" "check_rows" Yg fCk dCk∧Binds K dCk ["rows"] []∧mg "check_rows" = some (.ref fCk)
 FNu:Cr K "numbers_of" "numbers_of" Yz fNu dNu∧Binds K dNu ["names"] []∧mg "numbers_of" = some (.ref fNu)
 FCa:Cr K "count_in_all" "count_in_all" Wm fCa dCa∧Binds K dCa ["things"] []∧mg "count_in_all" = some (.ref fCa)
 FPl:Cr K "places_of" "places_of" Xp fPl dPl∧Binds K dPl ["things"] []∧mg "places_of" = some (.ref fPl)
 FLi:Cr K "lines_by_knob" "lines_by_knob" ZD fLi dLi∧Binds K dLi ["rows","rank_numbers"] []∧mg "lines_by_knob" = some (.ref fLi)
 FMy:Cr K "may_be_member" "may_be_member" Zf fMy dMy∧Binds K dMy ["thing"] []∧mg "may_be_member" = some (.ref fMy)
 FSt:Cr K "set_of" "set_of" Xm fSt dSt∧Binds K dSt ["numbers"] []∧mg "set_of" = some (.ref fSt)
 FHa:Cr K "has_member" "has_member" Ze fHa dHa∧Binds K dHa ["some","number"] []∧mg "has_member" = some (.ref fHa)
 FMe:Cr K "members_of" "members_of" XH fMe dMe∧Binds K dMe ["some"] []∧mg "members_of" = some (.ref fMe)
 FSh:Cr K "shifted" "shifted" Yn fSh dSh∧Binds K dSh ["some","steps","count"] []∧mg "shifted" = some (.ref fSh)
 FUn:Cr K "union_of" "union_of" ZL fUn dUn∧Binds K dUn ["sets"] []∧mg "union_of" = some (.ref fUn)
 FLe:Cr K "led_to" "led_to" Yo fLe dLe∧Binds K dLe ["organ","knob","key"] []∧mg "led_to" = some (.ref fLe)
 FDc:Cr K "drawn_of" "drawn_of" WW fDc dDc∧Binds K dDc ["organ","knobs","word"] []∧mg "drawn_of" = some (.ref fDc)
 FHk:Cr K "held_keys" "held_keys" Yu fHk dHk∧Binds K dHk ["organ","held"] []∧mg "held_keys" = some (.ref fHk)
 FWa:Cr K "coupled_ways" "coupled_ways" ZK fWa dWa∧Binds K dWa ["organ","knobs","held"] []∧mg "coupled_ways" = some (.ref fWa)
 FCq:Cr K "coupled_keys" "coupled_keys" Yw fCq dCq∧Binds K dCq ["organ","knobs","held"] []∧mg "coupled_keys" = some (.ref fCq)
 FMu:Cr K "muted_boards" "muted_boards" Wz fMu dMu∧Binds K dMu ["organ","knobs"] []∧mg "muted_boards" = some (.ref fMu)
 FUk:Cr K "unmuted_keys" "unmuted_keys" Wu fUk dUk∧Binds K dUk ["organ","knobs","keys"] []∧mg "unmuted_keys" = some (.ref fUk)
 FSk:Cr K "speaking_keys" "speaking_keys" Yr fSk dSk∧Binds K dSk ["organ","knobs","held"] []∧mg "speaking_keys" = some (.ref fSk)
 FNb:Cr K "numbers_on_board" "numbers_on_board" Yv fNb dNb∧Binds K dNb ["organ","board","keys"] []∧mg "numbers_on_board" = some (.ref fNb)
 FLl:Cr K "led_by_line" "led_by_line" ZP fLl dLl∧Binds K dLl ["organ","line","numbers"] []∧mg "led_by_line" = some (.ref fLl)
 FBs:Cr K "brought_by_stop" "brought_by_stop" Xy fBs dBs∧Binds K dBs ["organ","knob","keys"] []∧mg "brought_by_stop" = some (.ref fBs)
 FBa:Cr K "brought_in_all" "brought_in_all" Xg fBa dBa∧Binds K dBa ["organ","knobs","keys"] []∧mg "brought_in_all" = some (.ref fBa)
 FSo:Cr K "sounding_pipes" "sounding_pipes" Zh fSo dSo∧Binds K dSo ["organ","knobs","held"] []∧mg "sounding_pipes" = some (.ref fSo)
 FCe:Cr K "_law_cell_at" "_law_cell_at" Yy fCe dCe∧Binds K dCe ["_law_script","_law_k"] []∧mg "_law_cell_at" = some (.ref fCe)
 FLw:Cr K "_law_whole" "_law_whole" Yq fLw dLw∧Binds K dLw ["_law_found"] []∧mg "_law_whole" = some (.ref fLw)
 FMx:Cr K "_law_mixed" "_law_mixed" ZX fMx dMx∧Binds K dMx ["_law_cell","_law_k"] []∧mg "_law_mixed" = some (.ref fMx)
 FBi:Cr K "_law_bits" "_law_bits" Zc fBi dBi∧Binds K dBi ["_law_numbers"] []∧mg "_law_bits" = some (.ref fBi)
 FNa:Cr K "_law_name" "_law_name" Yc fNa dNa∧Binds K dNa ["_law_cell","_law_k"] []∧mg "_law_name" = some (.ref fNa)
 FSz:Cr K "_law_sizes" "_law_sizes" X8 fSz dSz∧Binds K dSz ["_law_cell","_law_many","_law_most"] []∧mg "_law_sizes" = some (.ref fSz)
 FLn:Cr K "_law_lines" "_law_lines" Ys fLn dLn∧Binds K dLn ["_law_cell","_law_size","_law_pipes"] []∧mg "_law_lines" = some (.ref fLn)
 FKn:Cr K "_law_knob" "_law_knob" Y5 fKn dKn∧Binds K dKn ["_law_cell","_law_sizes_here","_law_pipes"] []∧mg "_law_knob" = some (.ref fKn)
 FKs:Cr K "_law_knobs" "_law_knobs" X_ fKs dKs∧Binds K dKs ["_law_cells","_law_sizes_here","_law_pipes"] []∧mg "_law_knobs" = some (.ref fKs)
 FRw:Cr K "_law_rows" "_law_rows" Wi fRw dRw∧Binds K dRw ["_law_cell","_law_sizes_here","_law_pipes","_law_knobs_here"] []∧mg "_law_rows" = some (.ref fRw)
 FSp:Cr K "_law_spot" "_law_spot" Yp fSp dSp∧Binds K dSp ["_law_sizes_here","_law_key"] []∧mg "_law_spot" = some (.ref fSp)
 FWd:Cr K "_law_world" "_law_world" Wy fWd dWd∧Binds K dWd ["_law_script"] []∧mg "_law_world" = some (.ref fWd)
 FDr:Cr K "_law_drawn" "_law_drawn" Wr fDr dDr∧Binds K dDr ["_law_cell","_law_count"] []∧mg "_law_drawn" = some (.ref fDr)
 FHd:Cr K "_law_held" "_law_held" XX fHd dHd∧Binds K dHd ["_law_cell","_law_count"] []∧mg "_law_held" = some (.ref fHd)
 FGo:Cr K "_law_goal" "_law_goal" ZV fGo dGo∧Binds K dGo ["_law_sizes_here","_law_knob_here","_law_key"] []∧mg "_law_goal" = some (.ref fGo)
 FCo:Cr K "_law_coupled" "_law_coupled" Wc fCo dCo∧Binds K dCo ["_law_sizes_here","_law_knobs_here","_law_drawn_here","_law_held_here"] []∧mg "_law_coupled" = some (.ref fCo)
 FSk2:Cr K "_law_speaking" "_law_speaking" M8 fSk2 dSk2∧Binds K dSk2 ["_law_sizes_here","_law_knobs_here","_law_drawn_here","_law_held_here"] []∧mg "_law_speaking" = some (.ref fSk2)
 FPi:Cr K "_law_pipes_of" "_law_pipes_of" Zb fPi dPi∧Binds K dPi ["_law_sizes_here","_law_pipes","_law_knob_here","_law_key"] []∧mg "_law_pipes_of" = some (.ref fPi)
 FSd:Cr K "_law_sounding" "_law_sounding" Ws fSd dSd∧Binds K dSd ["_law_world_here","_law_drawn_here","_law_held_here"] []∧mg "_law_sounding" = some (.ref fSd)
 FOi:Cr K "__init__" "Organ.__init__" Q5 fOi dOi∧Binds K dOi ["self","rows"] []∧Mk K C fOi
 FOb:Cr K "boards" "Organ.boards" ZW fOb dOb∧Binds K dOb ["self"] []∧Meth K C "boards" fOb
 FOc:Cr K "key_count" "Organ.key_count" ZF fOc dOc∧Binds K dOc ["self"] []∧Meth K C "key_count" fOc
 FOk:Cr K "key" "Organ.key" ZR fOk dOk∧Binds K dOk ["self","board","number"] []∧Meth K C "key" fOk
 FOo:Cr K "board_of" "Organ.board_of" Y9 fOo dOo∧Binds K dOo ["self","key"] []∧Meth K C "board_of" fOo
 FBk:Cr K "board_of_knob" "Organ.board_of_knob" Yk fBk dBk∧Binds K dBk ["self","knob"] []∧Meth K C "board_of_knob" fBk
 FOp:Cr K "coupler" "Organ.coupler" ZQ fOp dOp∧Binds K dOp ["self","knob"] []∧Meth K C "coupler" fOp
 FOr:Cr K "ranks" "Organ.ranks" Yh fOr dOr∧Binds K dOr ["self"] []∧Meth K C "ranks" fOr
 FOq:Cr K "pipe_count" "Organ.pipe_count" Y0 fOq dOq∧Binds K dOq ["self"] []∧Meth K C "pipe_count" fOq
 FOe:Cr K "pipe" "Organ.pipe" Zd fOe dOe∧Binds K dOe ["self","rank","number"] []∧Meth K C "pipe" fOe
 FOs:Cr K "stop" "Organ.stop" Ym fOs dOs∧Binds K dOs ["self","knob"] []∧Meth K C "stop" fOs
 FOm:Cr K "mute" "Organ.mute" Y_ fOm dOm∧Binds K dOm ["self","knob"] []∧Meth K C "mute" fOm
 FOz:Cr K "knobs" "Organ.knobs" XJ fOz dOz∧Binds K dOz ["self"] []∧Meth K C "knobs" fOz
section
variable {P:Program} {w:World} {K:PySem.W.Frag} {mg:Str->Option Value} {base:Heap} {C aN aK aB aP aM:Addr} {fWh fMd fNm fRo fTo fWi fPa fHp fCl fIk fSb fWm fHr fIr fCk fNu fCa fPl fLi fMy fSt fHa fMe fSh fUn fLe fDc fHk fWa fCq fMu fUk fSk fNb fLl fBs fBa fSo fCe fLw fMx fBi fNa fSz fLn fKn fKs fRw fSp fWd fDr fHd fGo fCo fSk2 fPi fSd fOi fOb fOc fOk fOo fBk fOp fOr fOq fOe fOs fOm fOz:Addr} {dWh dMd dNm dRo dTo dWi dPa dHp dCl dIk dSb dWm dHr dIr dCk dNu dCa dPl dLi dMy dSt dHa dMe dSh dUn dLe dDc dHk dWa dCq dMu dUk dSk dNb dLl dBs dBa dSo dCe dLw dMx dBi dNa dSz dLn dKn dKs dRw dSp dWd dDr dHd dGo dCo dSk2 dPi dSd dOi dOb dOc dOk dOo dBk dOp dOr dOq dOe dOs dOm dOz:FuncData}
variable (N:jY K mg C fWh fMd fNm fRo fTo fWi fPa fHp fCl fIk fSb fWm fHr fIr fCk fNu fCa fPl fLi fMy fSt fHa fMe fSh fUn fLe fDc fHk fWa fCq fMu fUk fSk fNb fLl fBs fBa fSo fCe fLw fMx fBi fNa fSz fLn fKn fKs fRw fSp fWd fDr fHd fGo fCo fSk2 fPi fSd fOi fOb fOc fOk fOo fBk fOp fOr fOq fOe fOs fOm fOz dWh dMd dNm dRo dTo dWi dPa dHp dCl dIk dSb dWm dHr dIr dCk dNu dCa dPl dLi dMy dSt dHa dMe dSh dUn dLe dDc dHk dWa dCq dMu dUk dSk dNb dLl dBs dBa dSo dCe dLw dMx dBi dNa dSz dLn dKn dKs dRw dSp dWd dDr dHd dGo dCo dSk2 dPi dSd dOi dOb dOc dOk dOo dBk dOp dOr dOq dOe dOs dOm dOz) (T:Txt K w.params mg C aN aK aB aP aM)
noncomputable def Rc:Sp:=fun vs H Q _=>∃ i:Int,vs=[.int i]/\Q (.bl true) H
theorem jg:Aw ["thing"] ["thing"] (Ab ZM):=⟨rfl,rfl,rfl,by decide +kernel,rfl,by decide +kernel,by decide +kernel⟩
include N T in
theorem V0:Ax P w K mg base Bf 1 fWh dWh ["thing"] Rc:=by
 refine N.FWh.1.ok jg (fun vs H Q E h=>?_) (fun cdv A outer s H vs Q E hr h=>?_)
 ·obtain ⟨i,rfl,_⟩:=h
  rfl
 ·obtain ⟨i,rfl,q⟩:=h
  refine ⟨_,(Af (A_ (Do (BX Dc rfl T.isin PyProof.Rows.boot_isinstance (Aa (pv 0) (Aa (Ei (v:=.ty "int") rfl T.int PyProof.Rows.boot_int rfl) Ac))) (Dg (Nu (BX Dc rfl T.isin PyProof.Rows.boot_isinstance (Aa (pv 0) (Aa (Ei (v:=.ty "bool") rfl T.bool PyProof.Rows.boot_bool rfl) Ac)))))))),?_⟩
  refine ⟨_,rfl,_,"int",_,_,rfl,.int i,ty_int,_,rfl,DN ?_⟩
  exact ⟨_,rfl,_,"bool",_,_,rfl,.int i,V5,_,rfl,q⟩
noncomputable def Zr:Sp:=fun vs H Q _=>∃ z:Str,vs=[.str z,.str letters,.int 8]/\isNm z/\∀ H',Aj H H'->Q (.bl true) H'
theorem ie:Aw ["text","signs","most"] ["text","signs","most"] (Ab X7):=⟨rfl,rfl,rfl,by decide +kernel,rfl,by decide +kernel,by decide +kernel⟩
include N T in
theorem aV:Ax P w K mg base Bf 1 fMd dMd ["text","signs","most"] Zr:=by
 refine N.FMd.1.ok ie (fun vs H Q E h=>?_) (fun cdv A outer s H vs Q E hr h=>?_)
 ·obtain ⟨z,rfl,_⟩:=h
  rfl
 ·obtain ⟨z,rfl,hz,q⟩:=h
  refine ⟨_,(Af (A_ (Do (Hy Eh Eh Ad (BX Lg rfl T.len PySem.boot_len (Aa (pv 0) Ac)) (pv 2)) (Dg (BX (Jd rfl) rfl T.all PyProof.Rows.boot_all (Aa (Bp rfl (BW (osc:=Ab X7) (N:=["text","signs","most"]) rfl rfl (by decide +kernel)) (Xl (pv 0)) (fun _ _ _ _=>CP) (fun _ _ _ _=>(Et QM (pv 0) (pv 2) rfl))) Ac)))))),?_⟩
  have hzl:z.length<sizeLine:=Az (by have:=hz.2.1; omega)
  refine ⟨_,rfl,z,rfl,Nat.le_of_lt hzl,_,_,rfl,rfl,_,rfl,?_⟩
  refine Df (fun h1=>?_) (fun h1=>absurd (decide_eq_true (by have:=hz.1; omega)) h1)
  refine ⟨_,rfl,_,_,rfl,rfl,_,rfl,?_⟩
  refine Df (fun h2=>?_) (fun h2=>absurd (decide_eq_true (by have:=hz.2.1; omega)) h2)
  refine ⟨_,rfl,z,rfl,R_ (fun _=>true) (fun c=>.bl (Z7 letters c)) hzl (fun c hc H' hs R k=>k H' (Aj.refl H')) (fun c hc _ H' hs R k=>⟨_,rfl,_,rfl,_,_,rfl,rfl,k H' (Aj.refl H')⟩) (fun D H' hD hs hl=>?_)⟩
  refine ⟨D,z.cps.toList.map (Z7 letters),rfl,.inl (.inl ?_),?_⟩
  ·rw [hl,List.filter_eq_self.mpr (fun _ _=>rfl),List.map_map]
   rfl
  ·have e:(z.cps.toList.map (Z7 letters)).all id=true:=by
    rw [List.all_map,List.all_eq_true]
    intro c hc
    have:=hz.2.2 c hc
    show Z7 letters c=true
    rw [Ua c (by omega)]
    exact decide_eq_true this
   rw [e]
   exact q H' hs
noncomputable def XF:Sp:=fun vs H Q _=>∃ z:Str,vs=[.str z]/\isNm z/\∀ H',Aj H H'->Q (.bl true) H'
theorem iC:Aw ["thing"] ["thing"] (Ab Y6):=⟨rfl,rfl,rfl,by decide +kernel,rfl,by decide +kernel,by decide +kernel⟩
include N T in
theorem WM:Ax P w K mg base Bf 2 fNm dNm ["thing"] XF:=by
 have GMd:Ax P w K mg base Bf 1 fMd dMd ["text","signs","most"] Zr:=aV N T
 refine N.FNm.1.ok iC (fun vs H Q E h=>?_) (fun cdv A outer s H vs Q E hr h=>?_)
 ·obtain ⟨z,rfl,_⟩:=h
  rfl
 ·obtain ⟨z,rfl,hz,q⟩:=h
  have hrMd:BV 1 _:=hr.mono (by decide)
  obtain ⟨tLET,hLET⟩:=T.letters
  obtain ⟨tML,hML⟩:=T.mostL
  refine ⟨_,(Af (A_ (Do (BX Dc rfl T.isin PyProof.Rows.boot_isinstance (Aa (pv 0) (Aa (Ei (v:=.ty "str") rfl T.str PyProof.Rows.boot_str rfl) Ac))) (Dg (Ah GMd hrMd rfl N.FMd.2.2 N.FMd.1.kp N.FMd.2.1 .nil Am (Aa (pv 0) (Aa (Cy (v:=.str letters) rfl hLET ⟨tLET,rfl⟩) (Aa (Cy (v:=.int 8) rfl hML ⟨tML,rfl⟩) Ac)))))))),?_⟩
  refine ⟨_,rfl,_,"str",_,_,rfl,.str z,Vw,_,rfl,DN ?_⟩
  exact ⟨_,rfl,z,rfl,hz,q⟩
noncomputable def QS:Sp:=fun vs H Q _=>∃ (p:Addr) (us:List V) (w:Str) (ρ:V->R),vs=[.ref p,.str w]/\H p=some (.lst us)/\Rows H ρ us/\us.length<=500/\∀ D H',H D=none->Aj H H'->H' D=some (.lst (us.filter (pw ρ w)))->Q (.ref D) H'
theorem gU:Aw ["rows","word"] ["rows","word"] (Ab YZ):=⟨rfl,rfl,rfl,by decide +kernel,rfl,by decide +kernel,by decide +kernel⟩
include N T in
theorem Ma:Ax P w K mg base Bf 1 fRo dRo ["rows","word"] QS:=by
 refine N.FRo.1.ok gU (fun vs H Q E h=>?_) (fun cdv A outer s H vs Q E hr h=>?_)
 ·obtain ⟨p,us,w,ρ,rfl,_⟩:=h
  rfl
 ·obtain ⟨p,us,w,ρ,rfl,hp,hR,hl,q⟩:=h
  refine ⟨_,(Af (A_ (Bp rfl (BW (osc:=Ab YZ) (N:=["rows","word"]) rfl rfl (by decide +kernel)) (Bd (pv 0)) (fun _ _ _ _=>(Ef (Ba Dj (Ar (Al (K:=K) rfl) (pv 0) Ad (fun _ _=>rfl)) (pv 2) (Be _)))) (fun _ _ _ _=>(pv 0))))),?_⟩
  have hS:CK K H p us:=.inl (.inl hp)
  refine ⟨_,rfl,p,rfl,⟨_,hS⟩,Bx (K:=K) (xs:=us) (pw ρ w) id hS (Az (by omega)) (fun x hx H' hs R k=>?_) (fun x hx _ H' hs R k=>⟨_,rfl,k H' (Aj.refl H')⟩) (fun D H' hD hs hl'=>?_)⟩
  ·obtain ⟨T0,rfl,hT⟩:=(hR x hx).mono hs
   exact ⟨_,rfl,T0,_,_,_,rfl,rfl,.inl (.inl hT),Ai (j:=0) rfl,_,rfl,rfl,_,rfl,k H' (Aj.refl H')⟩
  ·rw [List.map_id] at hl'
   exact q D H' hD hs hl'
noncomputable def bZ:Sp:=fun vs H Q _=>∃ (p:Addr) (us:List V) (w t:Str) (ρ:V->R),vs=[.ref p,.str w,.str t]/\H p=some (.lst us)/\Rows H ρ us/\us.length<=500/\isNm t/\∀ H',Aj H H'->Q (.bl (V9 ρ us w t)) H'
theorem iz:Aw ["rows","word","thing"] ["rows","word","thing"] (Ab YB):=⟨rfl,rfl,rfl,by decide +kernel,rfl,by decide +kernel,by decide +kernel⟩
include N T in
theorem dX:Ax P w K mg base Bf 3 fTo dTo ["rows","word","thing"] bZ:=by
 have GNm:Ax P w K mg base Bf 2 fNm dNm ["thing"] XF:=WM N T
 have GRo:Ax P w K mg base Bf 1 fRo dRo ["rows","word"] QS:=Ma N T
 refine N.FTo.1.ok iz (fun vs H Q E h=>?_) (fun cdv A outer s H vs Q E hr h=>?_)
 ·obtain ⟨p,us,w,t,ρ,rfl,_⟩:=h
  rfl
 ·obtain ⟨p,us,w,t,ρ,rfl,hp,hR,hl,ht,q⟩:=h
  have hrNm:BV 2 _:=hr.mono (by decide)
  have hrRo:BV 1 _:=hr.mono (by decide)
  refine ⟨_,(Af (A_ (Do (Ah GNm hrNm rfl N.FNm.2.2 N.FNm.1.kp N.FNm.2.1 .nil Am (Aa (pv 2) Ac)) (Dg (BX (JW rfl) rfl T.any PyProof.Rows.boot_any (Aa (Bp rfl (BW (osc:=Ab YB) (N:=["rows","word","thing"]) rfl rfl (by decide +kernel)) (Bd (Ah GRo hrRo rfl N.FRo.2.2 N.FRo.1.kp N.FRo.2.1 .nil Am (Aa (pv 0) (Aa (pv 1) Ac)))) (fun _ _ _ _=>CP) (fun _ _ _ _=>(Et Dj (Ar (Al (K:=K) rfl) (pv 0) Ad (fun _ _=>rfl)) (pv 3) (Be _)))) Ac)))))),?_⟩
  refine ⟨_,rfl,t,rfl,ht,fun H1 s1=>⟨_,rfl,DN ?_⟩⟩
  refine ⟨_,rfl,_,rfl,p,us,w,ρ,rfl,s1 _ _ hp,hR.mono s1,hl,fun D H2 hD s2 hl2=>?_⟩
  have hS:CK K H2 D (us.filter (pw ρ w)):=.inl (.inl hl2)
  refine ⟨D,rfl,⟨_,hS⟩,Bx (K:=K) (xs:=us.filter (pw ρ w)) (fun _=>true) (fun v=>.bl (pn ρ t v)) hS (Az (by have:=G8 (pw ρ w) us; omega)) (fun x hx H' hs R k=>k H' (Aj.refl H')) (fun x hx _ H' hs R k=>?_) (fun D3 H3 hD3 s3 hl3=>?_)⟩
  ·obtain ⟨T0,rfl,hT⟩:=(((hR.mono s1).mono s2).mono hs) x (List.mem_filter.mp hx).1
   exact ⟨_,rfl,T0,_,_,_,rfl,rfl,.inl (.inl hT),Ai (j:=1) rfl,_,rfl,rfl,k H' (Aj.refl H')⟩
  ·refine ⟨D3,(us.filter (pw ρ w)).map (pn ρ t),rfl,.inl (.inl ?_),?_⟩
   ·rw [hl3,List.filter_eq_self.mpr (fun _ _=>rfl),List.map_map]
    rfl
   ·have e:((us.filter (pw ρ w)).map (pn ρ t)).any id=V9 ρ us w t:=by
     rw [List.any_map]
     rfl
    rw [e]
    exact q H3 ((s1.trans s2).trans s3)
noncomputable def di (K:PySem.W.Frag):Sp:=fun vs H Q _=>∃ (i lo hi:Int) (b:Addr),vs=[.int i,.ref b]/\KTup K b [.int lo,.int hi]/\lo<=i/\i<=hi/\Q (.bl true) H
theorem iD:Aw ["thing","bounds"] ["thing","bounds"] (Ab Yj):=⟨rfl,rfl,rfl,by decide +kernel,rfl,by decide +kernel,by decide +kernel⟩
include N T in
theorem fQ:Ax P w K mg base Bf 2 fWi dWi ["thing","bounds"] (di K):=by
 have GWh:Ax P w K mg base Bf 1 fWh dWh ["thing"] Rc:=V0 N T
 refine N.FWi.1.ok iD (fun vs H Q E h=>?_) (fun cdv A outer s H vs Q E hr h=>?_)
 ·obtain ⟨i,lo,hi,b,rfl,_⟩:=h
  rfl
 ·obtain ⟨i,lo,hi,b,rfl,hb,h1,h2,q⟩:=h
  have hrWh:BV 1 _:=hr.mono (by decide)
  refine ⟨_,(Af (A_ (Do (Ah GWh hrWh rfl N.FWh.2.2 N.FWh.1.kp N.FWh.2.1 .nil Am (Aa (pv 0) Ac)) (Dg (Hy Eh Eh (Ar (Al (K:=K) rfl) (pv 1) Ad (fun _ _=>rfl)) (pv 0) (Ar (Al (K:=K) rfl) (pv 1) Ad (fun _ _=>rfl))))))),?_⟩
  refine ⟨_,rfl,i,rfl,_,rfl,DN ?_⟩
  refine ⟨_,rfl,b,_,_,_,rfl,rfl,hb.sq _,Ai (j:=0) rfl,_,rfl,_,_,rfl,rfl,_,rfl,?_⟩
  refine Df (fun _=>?_) (fun z=>absurd (decide_eq_true h1) z)
  refine ⟨_,rfl,b,_,_,_,rfl,rfl,hb.sq _,Ai (j:=1) rfl,_,_,rfl,rfl,?_⟩
  show Q (.bl (decide (i<=hi))) H
  rw [decide_eq_true h2]
  exact q
noncomputable def d9 (K:PySem.W.Frag) (aB:Addr):Sp:=fun vs H Q _=>∃ (x:V) (part:Str) (p:Addr) (us:List V) (ρ:V->R),vs=[x,.str part,.ref p]/\H p=some (.lst us)/\Rows H ρ us/\us.length<=500/\HS K aB ρ us x part/\∀ H',Aj H H'->Q (.bl true) H'
theorem gQ:Aw ["thing","part","ahead"] ["thing","part","ahead"] (Ab W8):=⟨rfl,rfl,rfl,by decide +kernel,rfl,by decide +kernel,by decide +kernel⟩
include N T in
theorem aJ:Ax P w K mg base Bf 4 fPa dPa ["thing","part","ahead"] (d9 K aB):=by
 have GNm:Ax P w K mg base Bf 2 fNm dNm ["thing"] XF:=WM N T
 have GTo:Ax P w K mg base Bf 3 fTo dTo ["rows","word","thing"] bZ:=dX N T
 have GWi:Ax P w K mg base Bf 2 fWi dWi ["thing","bounds"] (di K):=fQ N T
 refine N.FPa.1.ok gQ (fun vs H Q E h=>?_) (fun cdv A outer s H vs Q E hr h=>?_)
 ·obtain ⟨x,part,p,us,ρ,rfl,_⟩:=h
  rfl
 ·obtain ⟨x,part,p,us,ρ,rfl,hp,hR,hl,hok,q⟩:=h
  have hrNm:BV 2 _:=hr.mono (by decide)
  have hrTo:BV 3 _:=hr.mono (by decide)
  have hrWi:BV 2 _:=hr.mono (by decide)
  refine ⟨_,(Ae (CT (Rj (Rt (pv 1) (Cy (v:=.ref aB) rfl T.mB rfl))) (Af (A_ (Ah GWi hrWi rfl N.FWi.2.2 N.FWi.1.kp N.FWi.2.1 .nil Am (Aa (pv 0) (Aa (Li (Cy (v:=.ref aB) rfl T.mB rfl) (pv 1) (fun _ _=>rfl)) Ac))))) Bj)
   (Ae (CT (Ba Dj (pv 1) Bs (Be _)) (Af (A_ (Do (Ah GNm hrNm rfl N.FNm.2.2 N.FNm.1.kp N.FNm.2.1 .nil Am (Aa (pv 0) Ac)) (Dg (Nu (BX (JW rfl) rfl T.any PyProof.Rows.boot_any (Aa (Bp rfl (BW (osc:=Ab W8) (N:=["thing","part","ahead"]) rfl rfl (by decide +kernel)) (X3 (Cy (v:=.ref aN) rfl T.mN rfl)) (fun _ _ _ _=>CP) (fun _ _ _ _=>(Ah GTo hrTo rfl N.FTo.2.2 N.FTo.1.kp N.FTo.2.1 .nil Am (Aa (pv 3) (Aa (pv 0) (Aa (pv 1) Ac)))))) Ac))))))) Bj)
   (Af (A_ (Ah GTo hrTo rfl N.FTo.2.2 N.FTo.1.kp N.FTo.2.1 .nil Am (Aa (pv 2) (Aa (pv 1) (Aa (pv 0) Ac)))))))),?_⟩
  rcases hok with ⟨i,lo,hi,b,rfl,hn,hb,h1,h2⟩ | ⟨hn,rfl,t,rfl,ht,hno⟩ | ⟨hn,hne,t,rfl,ht,hyes⟩
  ·refine ⟨_,rfl,aB,part,_,rfl,rfl,T.dB,hn,_,rfl,DN ?_⟩
   exact ⟨_,rfl,_,rfl,aB,part,.ref b,_,rfl,rfl,T.dB,hn,rfl,i,lo,hi,b,rfl,hb,h1,h2,q H (Aj.refl H)⟩
  ·refine ⟨_,rfl,aB,_,_,rfl,rfl,T.dB,hn,_,rfl,Ck ?_⟩
   refine ⟨_,rfl,rfl,_,rfl,DN ?_⟩
   refine ⟨_,rfl,t,rfl,ht,fun H1 s1=>⟨_,rfl,DN ?_⟩⟩
   have hS:Hc K H1 aN (named.map V.str):=T.tN.sq _
   refine ⟨aN,rfl,⟨_,hS⟩,Hq (xs:=named.map V.str) (fun _=>true) (fun _=>.bl false) (by show 5<sizeLine; decide) (fun i H2 x hs hx=>⟨_,x,hs.tup hS,hx⟩) (fun i H2 y H3 hs _ hy=>⟨hy.1,hy.2 _ (hs.tup hS)⟩) (fun H2 hs=>⟨_,hs.tup hS,Nat.le_refl _⟩)
    (fun x hx H' hs R k=>k H' (Aj.refl H')) (fun x hx _ H' hs R k=>?_) (fun D H2 hD s2 hl2=>?_)⟩
   ·obtain ⟨w0,hw0,rfl⟩:=List.mem_map.mp hx
    refine ⟨_,rfl,_,rfl,_,rfl,p,us,w0,t,ρ,rfl,hs _ _ (s1 _ _ hp),(hR.mono s1).mono hs,hl,ht,fun H'' s''=>?_⟩
    rw [hno w0 hw0]
    exact k H'' s''
   ·refine ⟨D,[false,false,false,false,false],rfl,.inl (.inl hl2),_,rfl,?_⟩
    exact q H2 (s1.trans s2)
  ·refine ⟨_,rfl,aB,_,_,rfl,rfl,T.dB,hn,_,rfl,Ck ?_⟩
   refine ⟨_,rfl,rfl,_,rfl,?_⟩
   refine Df (fun z=>absurd (V.str.inj (of_decide_eq_true z)) hne) (fun _=>?_)
   refine ⟨_,rfl,_,rfl,_,rfl,p,us,part,t,ρ,rfl,hp,hR,hl,ht,fun H' hs=>?_⟩
   rw [hyes]
   exact q H' hs
noncomputable def fP (K:PySem.W.Frag) (aB aP:Addr):Sp:=fun vs H Q _=>∃ (r p:Addr) (w:Str) (xs:List V) (us:List V) (ρ:V->R) (ap:Addr) (ps:List Str),vs=[.ref r,.ref p]/\H r=some (.tup (.str w::xs))/\H p=some (.lst us)/\Rows H ρ us/\us.length<=500 /\
 PySem.W.nsIn K aP w=some (some (.ref ap))/\KTup K ap (ps.map V.str)/\xs.length=ps.length/\ps.length<=10/\(∀ (i:Nat) x y,xs[i]? = some x->ps[i]? = some y->HS K aB ρ us x y)/\∀ H',Aj H H'->Q (.bl true) H'
theorem fM:Aw ["row","ahead","parts"] ["row","ahead"] (Ab Wq):=⟨rfl,rfl,rfl,by decide +kernel,rfl,by decide +kernel,by decide +kernel⟩
include N T in
theorem dJ:Ax P w K mg base Bf 5 fHp dHp ["row","ahead"] (fP K aB aP):=by
 have GPa:Ax P w K mg base Bf 4 fPa dPa ["thing","part","ahead"] (d9 K aB):=aJ N T
 refine N.FHp.1.ok fM (fun vs H Q E h=>?_) (fun cdv A outer s H vs Q E hr h=>?_)
 ·obtain ⟨r,p,w,xs,us,ρ,ap,ps,rfl,_⟩:=h
  rfl
 ·obtain ⟨r,p,w,xs,us,ρ,ap,ps,rfl,hr0,hp,hR,hl,hn,hap,hlen,hps,hok,q⟩:=h
  have hrPa:BV 4 _:=hr.mono (by decide)
  refine ⟨_,(Ae (BJ (i:=2) fM.nd rfl (Or.inl rfl) (Li (Cy (v:=.ref aP) rfl T.mP rfl) (Ar (Al (K:=K) rfl) (pv 0) Ad (fun _ _=>rfl)) (fun _ _=>rfl)))
   (Ae (CT (Ba G5 (BX Bg rfl T.len PySem.boot_len (Aa (pv 0) Ac)) (Ay Bo Ad (BX Bg rfl T.len PySem.boot_len (Aa (pv 2) Ac))) (Be _)) (Af (A_ Iv)) Bj)
   (Af (A_ (BX (Jd rfl) rfl T.all PyProof.Rows.boot_all (Aa (PN rfl (Jk (osc:=Ab Wq) (N:=["row","ahead","parts"]) rfl rfl (by decide +kernel)) (Vm rfl T.zip (Aa (Ea Xr (pv 0) (Cw Ad) Es) (Aa (pv 2) Ac))) (fun _ _ _ _=>CP) (fun _ _ _ _=>(Ah GPa hrPa rfl N.FPa.2.2 N.FPa.1.kp N.FPa.2.1 .nil Am (Aa (pv 0) (Aa (pv 1) (Aa (pv 3) Ac)))))) Ac)))))),?_⟩
  refine ⟨_,rfl,r,_,_,_,rfl,rfl,.inl (.inl hr0),Ai (j:=0) rfl,aP,w,.ref ap,_,rfl,rfl,T.dP,hn,rfl,?_⟩
  refine ⟨_,rfl,r,_,rfl,.inr (.inl (.inl hr0)),_,rfl,ap,_,rfl,.inr (hap.sq _),_,_,rfl,rfl,rfl,_,rfl,?_⟩
  refine Df (fun z=>?_) (fun _=>?_)
  ·exfalso
   have e:(((V.str w::xs).length:Nat):Int)=1+(((ps.map V.str).length:Nat):Int):=by
    rw [List.length_cons,List.length_map,hlen]
    omega
   rw [e] at z
   simp at z
  ·have hcut:Eg (V.str w::xs) (some 1) none=xs:=by
    unfold Eg
    have e1:HT.Dr (V.str w::xs).length 0 (some ((1:Nat):Int))=1:=by rw [HT.Lr,List.length_cons]; omega
    have e1':HT.Dr (V.str w::xs).length 0 (some (1:Int))=1:=e1
    rw [e1',HT.UL,List.drop_succ_cons,List.drop_zero]
    exact List.take_of_length_le (by rw [List.length_cons]; omega)
   refine ⟨_,rfl,_,rfl,r,_,rfl,.inl (.inl hr0),(fun z=>?_),fun p2 hp2=>?_⟩
   ·have e1:HT.Dr (V.str w::xs).length 0 (some ((1:Nat):Int))=1:=by rw [HT.Lr,List.length_cons]; omega
    have:=z.1.symm.trans e1
    cases this
   rw [hcut]
   have s2:=Av (o:=HO.tup xs) hp2
   have a2:upd H p2 (HO.tup xs) p2=some (.tup xs):=Ag
   generalize upd H p2 (HO.tup xs)=H2 at s2 a2 ⊢
   have h1:Hc K H2 p2 xs:=.inl (.inl a2)
   refine ⟨_,rfl,p2,ap,rfl,⟨_,h1⟩,⟨_,hap.sq _⟩,Sv (K:=K) (xs:=xs) (ys:=ps.map V.str) (fun _ _=>.bl true) h1 (hap.sq _) (by rw [List.length_map]; exact hlen) (Az (by omega)) (fun i x y hx hy H3 s3 R k=>?_) (fun D H3 hD s3 hl3=>?_)⟩
   ·rw [List.getElem?_map] at hy
    obtain ⟨part,hpart,rfl⟩:=Option.map_eq_some_iff.mp hy
    exact ⟨_,rfl,_,rfl,_,rfl,x,part,p,us,ρ,rfl,s3 _ _ (s2 _ _ hp),(hR.mono s2).mono s3,hl,hok i x part hx hpart,fun H4 s4=>k H4 s4⟩
   ·have e:List.zipWith (fun _ _=>V.bl true) xs (ps.map V.str)=(List.replicate xs.length true).map V.bl:=by
     rw [List.map_replicate]
     refine List.ext_getElem? fun i=>?_
     rw [List.getElem?_zipWith]
     by_cases hi:i<xs.length
     ·rw [List.getElem?_eq_getElem hi,List.getElem?_eq_getElem (by rw [List.length_map]; omega),List.getElem?_eq_getElem (by rw [List.length_replicate]; exact hi)]
      simp
     ·rw [List.getElem?_eq_none (by omega),List.getElem?_eq_none (l:=List.replicate _ _) (by rw [List.length_replicate]; omega)]
    rw [e] at hl3
    refine ⟨D,List.replicate xs.length true,rfl,.inl (.inl hl3),?_⟩
    have e2:(List.replicate xs.length true).all id=true:=by simp
    rw [e2]
    exact q H3 (s2.trans s3)
noncomputable def bA:Sp:=fun vs H Q _=>∃ (p:Addr) (us:List V) (ρ:V->R) (c:Nat),vs=[.ref p]/\H p=some (.lst us)/\Rows H ρ us/\us.length<=500/\WT ρ us c/\Q (.int (c:Nat)) H
theorem VR:Aw ["rows","count","row"] ["rows"] (Ab Y4):=⟨rfl,rfl,rfl,by decide +kernel,rfl,by decide +kernel,by decide +kernel⟩
include N T in
theorem aF:Ax P w K mg base Bf 1 fCl dCl ["rows"] bA:=by
 refine N.FCl.1.ok VR (fun vs H Q E h=>?_) (fun cdv A outer s H vs Q E hr h=>?_)
 ·obtain ⟨p,us,ρ,c,rfl,_⟩:=h
  rfl
 ·obtain ⟨p,us,ρ,c,rfl,hp,hR,hl,hc,q⟩:=h
  refine ⟨_,(Ae (BJ (i:=1) VR.nd rfl (Or.inl rfl) Ad)
   (Ae (Ci PassesOwn.never rfl (XS rfl T.reversed (Aa (pv 0) Ac)) (Bb (i:=2) VR.nd rfl (Or.inl rfl)) (Ae (CT (Ba G5 (Ar (Al (K:=K) rfl) (pv 2) Ad (fun _ _=>rfl)) Bs (Be _)) (Af Rh) Bj)
   (Af (BJ (i:=1) VR.nd rfl (Or.inl rfl) (Ay Bo (pv 1) Ad)))))
   (Af (A_ (pv 1))))),?_⟩
  have hS:CK K H p us:=.inl (.inl hp)
  refine ⟨_,rfl,p,us,rfl,hS,Vi (K:=K) (a:=p) (xs:=us) (fun i σ H4=>H4=H/\i<=c/\∃ v2,σ=[some (.ref p),some (.int (i:Nat)),v2]) ⟨rfl,Nat.zero_le _,_,rfl⟩ (fun i σ H4 _ h=>by rw [h.1]; exact hS) ?_ ?_⟩
  ·rintro i x σ H4 hi hx ⟨rfl,hic,v2,rfl⟩
   obtain ⟨r,rfl,hr0⟩:=hR x (List.mem_of_getElem? hx)
   refine ⟨_,rfl,r,_,_,_,rfl,rfl,.inl (.inl hr0),Ai (j:=0) rfl,rfl,_,rfl,?_⟩
   by_cases e:(ρ (.ref r)).w = "line"
   ·have hne:i ≠ c:=fun z=>by
     obtain ⟨v,hv,hno⟩:=hc.no
     rw [← z,hx] at hv
     cases hv
     exact hno e
    refine KY (congrArg V.str e) ?_
    exact ⟨_,rfl,_,_,rfl,rfl,rfl,by omega,_,rfl⟩
   ·have hic':i=c:=by
     refine Classical.byContradiction fun z=>?_
     obtain ⟨v,hv,hyes⟩:=hc.all i (by omega)
     rw [hx] at hv
     cases hv
     exact e hyes
    subst hic'
    rw [decide_eq_false fun z=>e (V.str.inj z)]
    refine DN ?_
    exact ⟨_,rfl,q⟩
  ·rintro σ H4 ⟨rfl,hic,v2,rfl⟩
   have:=hc.lt
   omega
noncomputable def Z2:Sp:=fun vs H Q _=>∃ (n:Int) (bd:Str) (p:Addr) (us:List V) (ρ:V->R),vs=[.int n,.str bd,.ref p]/\H p=some (.lst us)/\Rows H ρ us/\us.length<=500/\En ρ us/\∀ H',Aj H H'->Q (.bl (keyOf ρ us bd n)) H'
theorem iZ:Aw ["number","board","ahead"] ["number","board","ahead"] (Ab Xf):=⟨rfl,rfl,rfl,by decide +kernel,rfl,by decide +kernel,by decide +kernel⟩
include N T in
theorem dj:Ax P w K mg base Bf 2 fIk dIk ["number","board","ahead"] Z2:=by
 have GRo:Ax P w K mg base Bf 1 fRo dRo ["rows","word"] QS:=Ma N T
 refine N.FIk.1.ok iZ (fun vs H Q E h=>?_) (fun cdv A outer s H vs Q E hr h=>?_)
 ·obtain ⟨n,bd,p,us,ρ,rfl,_⟩:=h
  rfl
 ·obtain ⟨n,bd,p,us,ρ,rfl,hp,hR,hl,hB,q⟩:=h
  have hrRo:BV 1 _:=hr.mono (by decide)
  refine ⟨_,(Af (A_ (BX (JW rfl) rfl T.any PyProof.Rows.boot_any (Aa (Bp rfl (BW (osc:=Ab Xf) (N:=["number","board","ahead"]) rfl rfl (by decide +kernel)) (Bd (Ah GRo hrRo rfl N.FRo.2.2 N.FRo.1.kp N.FRo.2.1 .nil Am (Aa (pv 2) (Aa Bs Ac)))) (fun _ _ _ _=>CP) (fun _ _ _ _=>(Do (Et Dj (Ar (Al (K:=K) rfl) (pv 0) Ad (fun _ _=>rfl)) (pv 2) (Be _)) (Dg (Et Gf (pv 1) (Ar (Al (K:=K) rfl) (pv 0) Ad (fun _ _=>rfl)) (Be _)))))) Ac)))),?_⟩
  refine ⟨_,rfl,p,us,"board",ρ,rfl,hp,hR,hl,fun D H2 hD s2 hl2=>?_⟩
  have hS:CK K H2 D (us.filter (pw ρ "board")):=.inl (.inl hl2)
  refine ⟨D,rfl,⟨_,hS⟩,Bx (K:=K) (xs:=us.filter (pw ρ "board")) (fun _=>true) (fun v=>.bl (pn ρ bd v && decide (n<Xu (ρ v)))) hS (Az (by have:=G8 (pw ρ "board") us; omega)) (fun x hx H' hs R k=>k H' (Aj.refl H')) (fun x hx _ H' hs R k=>?_) (fun D3 H3 hD3 s3 hl3=>?_)⟩
  ·have hx':=List.mem_filter.mp hx
   obtain ⟨m,em⟩:=hB x hx'.1 (V.str.inj (of_decide_eq_true hx'.2))
   have hz:Xu (ρ x)=m:=by unfold Xu; rw [em]
   have hT:=((hR.mono s2).mono hs) x hx'.1
   have kk:=k H' (Aj.refl H')
   rw [hz] at kk
   obtain ⟨T0,rfl,hT⟩:=hT
   have kk:R (.bl (decide (V.str (ρ (.ref T0)).nm=V.str bd) && decide (n<m))) H':=kk
   have hT':H' T0=some (.tup (.str (ρ (.ref T0)).w :: .str (ρ (.ref T0)).nm::(ρ (.ref T0)).rest)):=hT
   rw [em] at hT'
   refine ⟨_,rfl,T0,_,_,_,rfl,rfl,.inl (.inl hT'),Ai (j:=1) rfl,_,rfl,rfl,_,rfl,?_⟩
   refine Df (fun g=>?_) (fun g=>?_)
   ·rw [g,Bool.true_and] at kk
    exact ⟨_,rfl,_,rfl,T0,_,_,_,rfl,rfl,.inl (.inl hT'),Ai (j:=2) rfl,_,_,rfl,rfl,kk⟩
   ·rw [(Bool.not_eq_true _).mp g,Bool.false_and] at kk
    exact kk
  ·refine ⟨D3,(us.filter (pw ρ "board")).map (fun v=>pn ρ bd v && decide (n<Xu (ρ v))),rfl,.inl (.inl ?_),?_⟩
   ·rw [hl3,List.filter_eq_self.mpr (fun _ _=>rfl),List.map_map]
    rfl
   ·have e:((us.filter (pw ρ "board")).map (fun v=>pn ρ bd v && decide (n<Xu (ρ v)))).any id=keyOf ρ us bd n:=by
     rw [List.any_map]
     rfl
    rw [e]
    exact q H3 (s2.trans s3)
noncomputable def cI:Sp:=fun vs H Q _=>∃ (r p:Addr) (ro:R) (us:List V) (ρ:V->R),vs=[.ref r,.ref p]/\H r=some (.tup ro.v)/\H p=some (.lst us)/\Rows H ρ us/\us.length<=500/\Nk ρ us ro/\En ρ us/\∀ H',Aj H H'->Q (.bl true) H'
theorem Xi:Aw ["line","ahead","count","row"] ["line","ahead"] (Ab ZJ):=⟨rfl,rfl,rfl,by decide +kernel,rfl,by decide +kernel,by decide +kernel⟩
include N T in
theorem Z0:Ax P w K mg base Bf 3 fSb dSb ["line","ahead"] cI:=by
 have GCl:Ax P w K mg base Bf 1 fCl dCl ["rows"] bA:=aF N T
 have GIk:Ax P w K mg base Bf 2 fIk dIk ["number","board","ahead"] Z2:=dj N T
 refine N.FSb.1.ok Xi (fun vs H Q E h=>?_) (fun cdv A outer s H vs Q E hr h=>?_)
 ·obtain ⟨r,p,ro,us,ρ,rfl,_⟩:=h
  rfl
 ·obtain ⟨r,p,ro,us,ρ,rfl,hr0,hp,hR,hl,hL,hB,q⟩:=h
  have hrCl:BV 1 _:=hr.mono (by decide)
  have hrIk:BV 2 _:=hr.mono (by decide)
  obtain ⟨tML4,hML4⟩:=T.mostLn
  refine ⟨_,(Ae (BJ (i:=2) Xi.nd rfl (Or.inl rfl) (Ah GCl hrCl rfl N.FCl.2.2 N.FCl.1.kp N.FCl.2.1 .nil Am (Aa (pv 1) Ac)))
   (Ae (BJ (i:=3) Xi.nd rfl (Or.inl rfl) (Ar El (pv 1) (Ay Dw (Ay Dw (BX Bg rfl T.len PySem.boot_len (Aa (pv 1) Ac)) Ad) (pv 2)) (fun _ _=>rfl)))
   (Ae (CT (PW.pt (JB (Ba G5 (Ar (Al (K:=K) rfl) (pv 3) Ad (fun _ _=>rfl)) Bs (Be _)) (HJ (Ba Vv (pv 2) (Cy (v:=.int 4) rfl hML4 ⟨tML4,rfl⟩) (Be _))))) (Af (A_ Iv)) Bj)
   (Af (A_ (Do (Et Eh (Ar (Al (K:=K) rfl) (pv 0) Ad (fun _ _=>rfl)) (Ar (Al (K:=K) rfl) (pv 0) Ad (fun _ _=>rfl)) (Be _)) (Dg (Ah GIk hrIk rfl N.FIk.2.2 N.FIk.1.kp N.FIk.2.1 .nil Am (Aa (Ar (Al (K:=K) rfl) (pv 0) Ad (fun _ _=>rfl)) (Aa (Ar (Al (K:=K) rfl) (pv 3) Ad (fun _ _=>rfl)) (Aa (pv 1) Ac))))))))))),?_⟩
  obtain ⟨cnt,v,sh,lo,hi,bd,rs,er,hc,h4,hv,hw,hrest,hle,hk⟩:=hL.ex
  have hr1:H r=some (.tup [.str ro.w,.str ro.nm,.int sh,.int lo,.int hi]):=by rw [hr0,← er]
  obtain ⟨r2,rfl,hr2⟩:=hR v (List.mem_of_getElem? hv)
  have hr2':H r2=some (.tup (.str (ρ (.ref r2)).w :: .str (ρ (.ref r2)).nm :: .str bd::rs)):=by rw [hr2,← hrest]
  have hlt:=hc.lt
  have ei:((us.length:Nat):Int) - 1 - ((cnt:Nat):Int)=((us.length - 1 - cnt:Nat):Int):=by omega
  have hS:CK K H p us:=.inl (.inl hp)
  refine ⟨_,rfl,p,us,ρ,cnt,rfl,hp,hR,hl,hc,?_⟩
  refine ⟨_,rfl,_,rfl,p,us,rfl,.inl hS,_,_,rfl,rfl,_,rfl,_,_,rfl,rfl,p,us,_,_,rfl,rfl,hS,(by rw [ei]; exact Ai hv),?_⟩
  refine ⟨_,rfl,r2,_,_,_,rfl,rfl,.inl (.inl hr2'),Ai (j:=0) rfl,rfl,_,rfl,KY (congrArg V.str hw) ?_⟩
  refine ⟨_,rfl,_,_,rfl,rfl,_,rfl,?_⟩
  refine Df (fun z=>?_) (fun _=>?_)
  ·have:=of_decide_eq_true z
   omega
  refine ⟨_,rfl,r,_,_,_,rfl,rfl,.inl (.inl hr1),Ai (j:=3) rfl,_,rfl,r,_,_,_,rfl,rfl,.inl (.inl hr1),Ai (j:=4) rfl,_,_,rfl,rfl,_,rfl,?_⟩
  refine Df (fun _=>?_) (fun z=>absurd (decide_eq_true hle) z)
  refine ⟨_,rfl,r,_,_,_,rfl,rfl,.inl (.inl hr1),Ai (j:=4) rfl,_,rfl,r2,_,_,_,rfl,rfl,.inl (.inl hr2'),Ai (j:=2) rfl,_,rfl,hi,bd,p,us,ρ,rfl,hp,hR,hl,hB,fun H' s'=>?_⟩
  rw [hk]
  exact q H' s'
noncomputable def XC (K:PySem.W.Frag) (aB aP aM:Addr):Sp:=fun vs H Q _=>∃ (r p:Addr) (ro:R) (us:List V) (ρ:V->R),vs=[.ref r,.ref p]/\H r=some (.tup ro.v)/\H p=some (.lst us)/\Rows H ρ us/\us.length<=500/\Gi K aB aP aM ρ us ro/\∀ H',Aj H H'->Q (.bl true) H'
theorem jL:Aw ["row","ahead"] ["row","ahead"] (Ab Yt):=⟨rfl,rfl,rfl,by decide +kernel,rfl,by decide +kernel,by decide +kernel⟩
include N T in
theorem dO:Ax P w K mg base Bf 6 fWm dWm ["row","ahead"] (XC K aB aP aM):=by
 have GHp:Ax P w K mg base Bf 5 fHp dHp ["row","ahead"] (fP K aB aP):=dJ N T
 have GSb:Ax P w K mg base Bf 3 fSb dSb ["line","ahead"] cI:=Z0 N T
 refine N.FWm.1.ok jL (fun vs H Q E h=>?_) (fun cdv A outer s H vs Q E hr h=>?_)
 ·obtain ⟨r,p,ro,us,ρ,rfl,_⟩:=h
  rfl
 ·obtain ⟨r,p,ro,us,ρ,rfl,hr0,hp,hR,hl,ok,q⟩:=h
  have hrHp:BV 5 _:=hr.mono (by decide)
  have hrSb:BV 3 _:=hr.mono (by decide)
  refine ⟨_,(Ae (CT (Ba Dj (Ar (Al (K:=K) rfl) (pv 0) Ad (fun _ _=>rfl)) Bs (Be _)) (Af Gh) Bj)
   (Ae (CT (Ba Dj (Ar (Al (K:=K) rfl) (pv 0) Ad (fun _ _=>rfl)) Bs (Be _)) (Af (A_ (Do (Ah GHp hrHp rfl N.FHp.2.2 N.FHp.1.kp N.FHp.2.1 .nil Am (Aa (pv 0) (Aa (pv 1) Ac))) (Dg (Ah GSb hrSb rfl N.FSb.2.2 N.FSb.1.kp N.FSb.2.1 .nil Am (Aa (pv 0) (Aa (pv 1) Ac))))))) Bj)
   (Af (A_ (Do (Tn (Rt (Ar (Al (K:=K) rfl) (pv 0) Ad (fun _ _=>rfl)) (Cy (v:=.ref aP) rfl T.mP rfl))) (Dg (Ah GHp hrHp rfl N.FHp.2.2 N.FHp.1.kp N.FHp.2.1 .nil Am (Aa (pv 0) (Aa (pv 1) Ac))))))))),?_⟩
  obtain ⟨ap,ps,hn,hap,hlen,hps,hok⟩:=ok.parts
  refine ⟨_,rfl,r,_,_,_,rfl,rfl,.inl (.inl hr0),Ai (j:=0) rfl,rfl,_,rfl,?_⟩
  refine Df (fun z=>absurd (V.str.inj (of_decide_eq_true z)) ok.ns) (fun _=>?_)
  refine ⟨_,rfl,r,_,_,_,rfl,rfl,.inl (.inl hr0),Ai (j:=0) rfl,rfl,_,rfl,?_⟩
  refine Df (fun z=>?_) (fun _=>?_)
  ·have hline:=ok.line (V.str.inj (of_decide_eq_true z))
   refine ⟨_,rfl,_,rfl,r,p,ro.w,_,us,ρ,ap,ps,rfl,hr0,hp,hR,hl,hn,hap,hlen,hps,hok,fun H1 s1=>⟨_,rfl,DN ?_⟩⟩
   exact ⟨_,rfl,_,rfl,r,p,ro,us,ρ,rfl,s1 _ _ hr0,s1 _ _ hp,hR.mono s1,hl,hline,ok.ZC,fun H2 s2=>q H2 (s1.trans s2)⟩
  refine ⟨_,rfl,r,_,_,_,rfl,rfl,.inl (.inl hr0),Ai (j:=0) rfl,aP,_,_,rfl,rfl,T.dP,hn,_,rfl,DN ?_⟩
  exact ⟨_,rfl,_,rfl,r,p,ro.w,_,us,ρ,ap,ps,rfl,hr0,hp,hR,hl,hn,hap,hlen,hps,hok,q⟩
noncomputable def cD (K:PySem.W.Frag) (aM:Addr):Sp:=fun vs H Q _=>∃ (p:Addr) (w:Str) (us:List V) (ρ:V->R),vs=[.str w,.ref p]/\H p=some (.lst us)/\Rows H ρ us/\us.length<=500/\(PySem.W.nsIn K aM w=some none \/ ∃ (m:Int) (t:Tok),PySem.W.nsIn K aM w=some (some (.int m t))/\(((us.filter (pw ρ w)).length:Nat):Int)<m)/\∀ H',Aj H H'->Q (.bl true) H'
theorem iH:Aw ["word","ahead"] ["word","ahead"] (Ab Yl):=⟨rfl,rfl,rfl,by decide +kernel,rfl,by decide +kernel,by decide +kernel⟩
include N T in
theorem Zo:Ax P w K mg base Bf 2 fHr dHr ["word","ahead"] (cD K aM):=by
 have GRo:Ax P w K mg base Bf 1 fRo dRo ["rows","word"] QS:=Ma N T
 refine N.FHr.1.ok iH (fun vs H Q E h=>?_) (fun cdv A outer s H vs Q E hr h=>?_)
 ·obtain ⟨p,w,us,ρ,rfl,_⟩:=h
  rfl
 ·obtain ⟨p,w,us,ρ,rfl,hp,hR,hl,hroom,q⟩:=h
  have hrRo:BV 1 _:=hr.mono (by decide)
  refine ⟨_,(Af (A_ (aD (Tn (RK (pv 0) (Cy (v:=.ref aM) rfl T.mM rfl))) (Dg (Et Gf (BX Bg rfl T.len PySem.boot_len (Aa (Ah GRo hrRo rfl N.FRo.2.2 N.FRo.1.kp N.FRo.2.1 .nil Am (Aa (pv 1) (Aa (pv 0) Ac))) Ac)) (Li (Cy (v:=.ref aM) rfl T.mM rfl) (pv 0) (fun _ _=>rfl)) (Be _)))))),?_⟩
  rcases hroom with hn | ⟨m,t,hn,hm⟩
  ·refine ⟨_,rfl,aM,w,_,rfl,rfl,T.dM,hn,_,rfl,DN ?_⟩
   exact q H (Aj.refl H)
  refine ⟨_,rfl,aM,w,_,rfl,rfl,T.dM,hn,_,rfl,Ck ?_⟩
  refine ⟨_,rfl,_,rfl,p,us,w,ρ,rfl,hp,hR,hl,fun D H2 hD s2 hl2=>?_⟩
  refine ⟨D,_,rfl,.inl (.inl (.inl hl2)),_,rfl,aM,w,.int m,_,rfl,rfl,T.dM,hn,⟨t,rfl⟩,_,_,rfl,rfl,?_⟩
  show Q (.bl (decide ((((us.filter (pw ρ w)).length:Nat):Int)<m))) H2
  rw [decide_eq_true hm]
  exact q H2 s2
noncomputable def aU (K:PySem.W.Frag) (aB aP aM:Addr):Sp:=XC K aB aP aM
theorem iM:Aw ["thing","ahead"] ["thing","ahead"] (Ab Za):=⟨rfl,rfl,rfl,by decide +kernel,rfl,by decide +kernel,by decide +kernel⟩
include N T in
theorem Z3:Ax P w K mg base Bf 7 fIr dIr ["thing","ahead"] (aU K aB aP aM):=by
 have GWm:Ax P w K mg base Bf 6 fWm dWm ["row","ahead"] (XC K aB aP aM):=dO N T
 have GHr:Ax P w K mg base Bf 2 fHr dHr ["word","ahead"] (cD K aM):=Zo N T
 refine N.FIr.1.ok iM (fun vs H Q E h=>?_) (fun cdv A outer s H vs Q E hr h=>?_)
 ·obtain ⟨r,p,ro,us,ρ,rfl,_⟩:=h
  rfl
 ·obtain ⟨r,p,ro,us,ρ,rfl,hr0,hp,hR,hl,ok,q⟩:=h
  have hrWm:BV 6 _:=hr.mono (by decide)
  have hrHr:BV 2 _:=hr.mono (by decide)
  refine ⟨_,(Ae (CT (PW.pt (JB (Dz (FW (BX Dc rfl T.isin PyProof.Rows.boot_isinstance (Aa (pv 0) (Aa (Ei (v:=.ty "tuple") rfl T.tuple PyProof.Rows.boot_tuple rfl) Ac))))) (JB (Ba Dj (BX Bg rfl T.len PySem.boot_len (Aa (pv 0) Ac)) Ad (Be _)) (HJ (Dz (FW (BX Dc rfl T.isin PyProof.Rows.boot_isinstance (Aa (Ar (Al (K:=K) rfl) (pv 0) Ad (fun _ _=>rfl)) (Aa (Ei (v:=.ty "str") rfl T.str PyProof.Rows.boot_str rfl) Ac))))))))) (Af (A_ Iv)) Bj)
   (Af (A_ (Do (Ah GWm hrWm rfl N.FWm.2.2 N.FWm.1.kp N.FWm.2.1 .nil Am (Aa (pv 0) (Aa (pv 1) Ac))) (Dg (Ah GHr hrHr rfl N.FHr.2.2 N.FHr.1.kp N.FHr.2.1 .nil Am (Aa (Ar (Al (K:=K) rfl) (pv 0) Ad (fun _ _=>rfl)) (Aa (pv 1) Ac)))))))),?_⟩
  have hroom:PySem.W.nsIn K aM ro.w=some none \/ ∃ (m:Int) (t:Tok),PySem.W.nsIn K aM ro.w=some (some (.int m t))/\(((us.filter (pw ρ ro.w)).length:Nat):Int)<m:=ok.room.elim (fun z=>.inl z.2) .inr
  refine ⟨_,rfl,_,"tuple",_,_,rfl,.tup hr0,Z1,_,rfl,Ck ?_⟩
  refine ⟨_,rfl,r,_,rfl,.inr (.inl (.inl hr0)),rfl,_,rfl,?_⟩
  refine Df (fun z=>?_) (fun _=>?_)
  ·exfalso
   have:=of_decide_eq_true z
   have:=V.int.inj this
   simp at this
   omega
  refine ⟨_,rfl,r,_,_,_,rfl,rfl,.inl (.inl hr0),Ai (j:=0) rfl,_,"str",_,_,rfl,.str _,Vw,_,rfl,Ck ?_⟩
  refine ⟨_,rfl,_,rfl,r,p,ro,us,ρ,rfl,hr0,hp,hR,hl,ok,fun H1 s1=>⟨_,rfl,DN ?_⟩⟩
  exact ⟨_,rfl,r,_,_,_,rfl,rfl,.inl (.inl (s1 _ _ hr0)),Ai (j:=0) rfl,_,rfl,p,ro.w,us,ρ,rfl,s1 _ _ hp,hR.mono s1,hl,hroom,fun H2 s2=>q H2 (s1.trans s2)⟩
noncomputable def eO (K:PySem.W.Frag) (aB aP aM:Addr):Sp:=fun vs H Q _=>∃ (p:Addr) (us:List V) (ρ:V->R),vs=[.ref p]/\H p=some (.lst us)/\Rows H ρ us/\1<=us.length/\us.length<=150/\(∀ (i:Nat) v,us[i]? = some v->Gi K aB aP aM ρ (us.take i) (ρ v))/\(us.filter (pw ρ "board")).isEmpty=false/\∀ H',Aj H H'->Q .non H'
theorem YD:Aw ["rows","at","row"] ["rows"] (Ab Yg):=⟨rfl,rfl,rfl,by decide +kernel,rfl,by decide +kernel,by decide +kernel⟩
include N T in
theorem Zv:Ax P w K mg base Bf 8 fCk dCk ["rows"] (eO K aB aP aM):=by
 have GIr:Ax P w K mg base Bf 7 fIr dIr ["thing","ahead"] (aU K aB aP aM):=Z3 N T
 have GRo:Ax P w K mg base Bf 1 fRo dRo ["rows","word"] QS:=Ma N T
 refine N.FCk.1.ok YD (fun vs H Q E h=>?_) (fun cdv A outer s H vs Q E hr h=>?_)
 ·obtain ⟨p,us,ρ,rfl,_⟩:=h
  rfl
 ·obtain ⟨p,us,ρ,rfl,hp,hR,h1,h2,hok,hb,q⟩:=h
  have hrIr:BV 7 _:=hr.mono (by decide)
  have hrRo:BV 1 _:=hr.mono (by decide)
  obtain ⟨tMR,hMR⟩:=T.mostR
  refine ⟨_,(Ae (CT (PW.pt (JB (Dz (FW (BX Dc rfl T.isin PyProof.Rows.boot_isinstance (Aa (pv 0) (Aa (Ei (v:=.ty "list") rfl T.list PyProof.Rows.boot_list rfl) Ac))))) (HJ (Dz (Fd Eh Eh Ad (BX Bg rfl T.len PySem.boot_len (Aa (pv 0) Ac)) (Cy (v:=.int 150) rfl hMR ⟨tMR,rfl⟩)))))) (Af Gh) Bj)
   (Ae (Ci PassesOwn.never rfl (JN rfl T.enumerate (Aa (pv 0) Ac)) (Fx rfl (Bh (Bb (i:=1) YD.nd rfl (Or.inl rfl)) (Bh (Bb (i:=2) YD.nd rfl (Or.inl rfl)) EY))) (Af (CT (Dz (FW (Ah GIr hrIr rfl N.FIr.2.2 N.FIr.1.kp N.FIr.2.1 .nil Am (Aa (pv 2) (Aa (Ea Hd (pv 0) Es (Cw (pv 1))) Ac))))) (Af Gh) Bj)))
   (Af (CT (Dz (Lx (Ah GRo hrRo rfl N.FRo.2.2 N.FRo.1.kp N.FRo.2.1 .nil Am (Aa (pv 0) (Aa Bs Ac))) (fun _=>rfl))) (Af Gh) Bj)))),?_⟩
  have hS:CK K H p us:=.inl (.inl hp)
  refine ⟨_,rfl,_,"list",_,_,rfl,.lst hp,Vy,_,rfl,Ck ?_⟩
  refine ⟨_,rfl,p,_,rfl,.inl hS,_,_,rfl,rfl,_,rfl,?_⟩
  refine Df (fun _=>?_) (fun z=>absurd (decide_eq_true (by omega)) z)
  refine ⟨_,_,rfl,rfl,_,rfl,?_⟩
  have e150:decide ((us.length:Int)<=150)=true:=decide_eq_true (by omega)
  rw [e150]
  refine Ck ?_
  refine ⟨_,rfl,p,rfl,⟨_,hS⟩,J2 (K:=K) (a:=p) (xs:=us) (fun i σ H4=>Aj H H4/\∃ v1 v2,σ=[some (.ref p),v1,v2]) ⟨Aj.refl H,_,_,rfl⟩ (fun i σ H4 _ h=>h.1.seq hS) ?_ ?_⟩
  ·rintro i x σ H4 T0 hx ⟨s4,v1,v2,rfl⟩ hT
   have s5:=Av (o:=HO.tup [.int (i:Int),x]) hT
   refine ⟨T0,_,rfl,.inl (.inl Ag),rfl,_,_,rfl,_,_,rfl,rfl,?_⟩
   generalize upd H4 T0 (HO.tup [.int (i:Int),x])=H5 at s5 ⊢
   have s05:=s4.trans s5
   have hi:i<us.length:=(List.getElem?_eq_some_iff.mp hx).1
   obtain ⟨r,rfl,hr0⟩:=(hR.mono s05) x (List.mem_of_getElem? hx)
   refine ⟨_,rfl,_,rfl,_,rfl,_,rfl,p,_,rfl,s05.seq hS,fun p6 hp6=>?_⟩
   have s6:=Av (o:=HO.lst (Eg us none (some (i:Int)))) hp6
   have a6:upd H5 p6 (HO.lst (Eg us none (some (i:Int)))) p6=_:=Ag
   generalize upd H5 p6 (HO.lst (Eg us none (some (i:Int))))=H6 at s6 a6 ⊢
   rw [Gj us i (by omega)] at a6
   have s06:=s05.trans s6
   refine ⟨r,p6,ρ (.ref r),us.take i,ρ,rfl,s6 _ _ hr0,a6,(hR.mono s06).sub fun v hv=>List.mem_of_mem_take hv,by rw [List.length_take]; omega,hok i _ hx,fun H7 s7=>⟨_,rfl,Ck ?_⟩⟩
   exact ⟨s06.trans s7,_,_,rfl⟩
  ·rintro σ H4 ⟨s4,v1,v2,rfl⟩
   refine ⟨_,rfl,p,us,"board",ρ,rfl,s4 _ _ hp,hR.mono s4,by omega,fun D H5 hD s5 hl5=>?_⟩
   refine ⟨_,.inl ⟨_,.inl (.inl hl5),rfl⟩,?_⟩
   rw [hb]
   exact Ck (q H5 (s4.trans s5))
noncomputable def fL:Sp:=fun vs H Q _=>∃ (p:Addr) (ts:List Str),vs=[.ref p]/\H p=some (.lst (ts.map V.str))/\ts.length<=300/\ts.Nodup/\∀ D (kvs:List (Key × V)) H',H D=none->Aj H H'->H' D=some (.dK kvs)->(∀ (i:Nat) t,ts[i]? = some t->Dh kvs (Sum.inr t)=some (.int (i:Nat)))->Q (.ref D) H'
theorem VF:Aw ["names","numbers","number","name"] ["names"] (Ab Yz):=⟨rfl,rfl,rfl,by decide +kernel,rfl,by decide +kernel,by decide +kernel⟩
include N T in
theorem ak:Ax P w K mg base Bf 1 fNu dNu ["names"] fL:=by
 refine N.FNu.1.ok VF (fun vs H Q E h=>?_) (fun cdv A outer s H vs Q E hr h=>?_)
 ·obtain ⟨p,ts,rfl,_⟩:=h
  rfl
 ·obtain ⟨p,ts,rfl,hp,hl,nd,q⟩:=h
  have hu:=Iw hr
  refine ⟨_,(Ae (BJ (i:=1) VF.nd rfl (Or.inl rfl) Mj)
   (Ae (Ci PassesOwn.never rfl (JN rfl T.enumerate (Aa (pv 0) Ac)) (Fx rfl (Bh (Bb (i:=2) VF.nd rfl (Or.inl rfl)) (Bh (Bb (i:=3) VF.nd rfl (Or.inl rfl)) EY))) (Af (O8 hu (pv 1) (pv 3) (pv 2) rfl)))
   (Af (A_ (pv 1))))),?_⟩
  intro D hD
  have s0:=Av (o:=HO.dK []) hD
  have hS:CK K H p (ts.map V.str):=.inl (.inl hp)
  refine ⟨_,rfl,p,rfl,⟨_,s0.seq hS⟩,J2 (K:=K) (a:=p) (xs:=ts.map V.str) (fun i σ H4=>Aj H H4/\∃ (kvs:List (Key × V)),H4 D=some (.dK kvs)/\kvs.length<=i/\(∀ (j:Nat) t,j<i->ts[j]? = some t->Dh kvs (Sum.inr t)=some (.int (j:Nat)))/\∃ v2 v3,σ=[some (.ref p),some (.ref D),v2,v3])
   ⟨s0,[],Ag,Nat.le_refl _,fun j t hj=>absurd hj (Nat.not_lt_zero _),_,_,rfl⟩ (fun i σ H4 _ h=>h.1.seq hS) ?_ ?_⟩
  ·rintro i x σ H4 T0 hx ⟨s4,kvs,hd,hk,hv,v2,v3,rfl⟩ hT
   rw [List.getElem?_map] at hx
   obtain ⟨t,ht,rfl⟩:=Option.map_eq_some_iff.mp hx
   have hi:i<ts.length:=(List.getElem?_eq_some_iff.mp ht).1
   have s5:=Av (o:=HO.tup [.int (i:Int),.str t]) hT
   refine ⟨T0,_,rfl,.inl (.inl Ag),rfl,_,_,rfl,_,_,rfl,rfl,?_⟩
   generalize upd H4 T0 (HO.tup [.int (i:Int),.str t])=H5 at s5 ⊢
   refine ⟨_,rfl,_,rfl,_,rfl,D,_,rfl,QJ.k (k:=Sum.inr t) (s5 _ _ hd) (Az (by omega)),?_⟩
   refine ⟨fun b u e=>?_,putK kvs (Sum.inr t) (.int (i:Int)),Ag,Nat.le_trans (Eu _ _ _) (by omega),fun j t' hj ht'=>?_,_,_,rfl⟩
   ·rw [BP (BL e hD)]
    exact s5 _ _ (s4 _ _ e)
   ·rw [Rb]
    by_cases e:t'=t
    ·subst e
     have:j=i:=by
      obtain ⟨h1,e1⟩:=List.getElem?_eq_some_iff.mp ht'
      obtain ⟨h2,e2⟩:=List.getElem?_eq_some_iff.mp ht
      exact (List.getElem_inj nd).mp (e1.trans e2.symm)
     subst this
     rw [if_pos rfl]
    ·rw [if_neg fun z=>e (Sum.inr.inj z)]
     refine hv j t' ?_ ht'
     rcases Nat.lt_succ_iff_lt_or_eq.mp hj with z | z
     ·exact z
     ·subst z
      rw [ht] at ht'
      exact absurd (Option.some.inj ht').symm e
  ·rintro σ H4 ⟨s4,kvs,hd,hk,hv,v2,v3,rfl⟩
   refine ⟨_,rfl,q D kvs H4 hD s4 hd fun i t ht=>hv i t ?_ ht⟩
   rw [List.length_map]
   exact (List.getElem?_eq_some_iff.mp ht).1
noncomputable def Xd:Sp:=fun vs H Q _=>∃ (p:Addr) (as:List Th) (us:List V),vs=[.ref p]/\H p=some (.lst us)/\Paired (fun (a:Th) y=>TupAt H (tV a) y) as us/\as.length<=500/\(∀ a∈as,a.2.1<=100)/\∀ H',Aj H H'->Q (.int ((as.map fun a=>a.2.1).sum:Nat)) H'
theorem Hk:∀ l:List Nat,(l.map fun n:Nat=>(n:Int)).sum=((l.sum:Nat):Int)
 | []=>rfl
 | n::l=>by
  rw [List.map_cons,List.sum_cons,List.sum_cons,Hk l]
  omega
theorem ik:Aw ["things"] ["things"] (Ab Wm):=⟨rfl,rfl,rfl,by decide +kernel,rfl,by decide +kernel,by decide +kernel⟩
include N T in
theorem WL:Ax P w K mg base Bf 1 fCa dCa ["things"] Xd:=by
 refine N.FCa.1.ok ik (fun vs H Q E h=>?_) (fun cdv A outer s H vs Q E hr h=>?_)
 ·obtain ⟨p,as,us,rfl,_⟩:=h
  rfl
 ·obtain ⟨p,as,us,rfl,hp,hb,hl,hz,q⟩:=h
  refine ⟨_,(Af (A_ (BX (Hv rfl) rfl T.sum PyProof.Rows.boot_sum (Aa (Bp rfl (BW (osc:=Ab Wm) (N:=["things"]) rfl rfl (by decide +kernel)) (Bd (pv 0)) (fun _ _ _ _=>CP) (fun _ _ _ _=>(Ar (Al (K:=K) rfl) (pv 0) Ad (fun _ _=>rfl)))) Ac)))),?_⟩
  have hS:CK K H p us:=.inl (.inl hp)
  have hul:=hb.length
  refine ⟨_,rfl,p,rfl,⟨_,hS⟩,Bx (K:=K) (xs:=us) (fun _=>true) (Jo H 1) hS (Az (by omega)) (fun x hx H' hs R k=>k H' (Aj.refl H')) (fun x hx _ H' hs R k=>?_) (fun D H' hD hs hl'=>?_)⟩
  ·obtain ⟨b,_,hx'⟩:=Cm hb hx
   have e:=Ft hx' 1
   obtain ⟨T0,rfl,hT⟩:=hx'.mono hs
   refine ⟨_,rfl,T0,_,_,_,rfl,rfl,.inl (.inl hT),Ai (j:=1) rfl,?_⟩
   have:=k H' (Aj.refl H')
   rw [e] at this
   exact this
  ·rw [List.filter_eq_self.mpr (fun _ _=>rfl),JR 1 hb] at hl'
   have e:(as.map fun a=>(tV a).getD 1 V.non)=((as.map fun a=>a.2.1).map fun n:Nat=>(n:Int)).map V.int:=by
    rw [List.map_map,List.map_map]
    rfl
   rw [e] at hl'
   refine ⟨D,_,rfl,.inl (.inl hl'),fun n hn=>?_,by simp; omega,?_⟩
   ·obtain ⟨m,hm,rfl⟩:=List.mem_map.mp hn
    obtain ⟨b,hb',rfl⟩:=List.mem_map.mp hm
    have:=hz b hb'
    omega
   ·rw [Hk]
    exact q H' hs
theorem dq {n:Nat} (h:n<=3000):n<sizeLine:=Nat.lt_of_le_of_lt h (by decide)
noncomputable def cV:Sp:=fun vs H Q _=>∃ (p:Addr) (as:List Th) (us:List V),vs=[.ref p]/\H p=some (.lst us)/\Paired (fun (a:Th) y=>TupAt H (tV a) y) as us/\as.length<=12/\(∀ a∈as,a.2.1<=97)/\∀ D ys H',H D=none->Aj H H'->H' D=some (.lst ys)->Paired (fun q y=>TupAt H' (qV q) y) (Ds (as.map tN)) ys->Q (.ref D) H'
theorem Vc:Aw ["things","places","number","thing"] ["things"] (Ab Xp):=⟨rfl,rfl,rfl,by decide +kernel,rfl,by decide +kernel,by decide +kernel⟩
include N T in
theorem cu:Ax P w K mg base Bf 1 fPl dPl ["things"] cV:=by
 refine N.FPl.1.ok Vc (fun vs H Q E h=>?_) (fun cdv A outer s H vs Q E hr h=>?_)
 ·obtain ⟨p,as,us,rfl,_⟩:=h
  rfl
 ·obtain ⟨p,as,us,rfl,hp,hb,hl,hz,q⟩:=h
  refine ⟨_,(Ae (BJ (i:=1) Vc.nd rfl (Or.inl rfl) (De Ac))
   (Ae (Ci PassesOwn.never rfl (JN rfl T.enumerate (Aa (pv 0) Ac)) (Fx rfl (Bh (Bb (i:=2) Vc.nd rfl (Or.inr rfl)) (Bh (Bb (i:=3) Vc.nd rfl (Or.inl rfl)) EY))) (Af (C_ (Ep PySem.F.plainAttrs_list PySem.F.slot_list_extend PySem.F.type_list_extend Qd (pv 1) (Aa (Bp rfl (BW (osc:=Ab Xp) (N:=["things","places","number","thing"]) rfl rfl (by decide +kernel)) (Cj rfl T.range (Aa (Ar (Al (K:=K) rfl) (pv 3) Ad (fun _ _=>rfl)) Ac)) (fun _ _ _ _=>CP) (fun _ _ _ _=>(Cv (Aa (pv 3) (Aa (pv 0) Ac))))) Ac)))))
   (Af (A_ (pv 1))))),?_⟩
  refine ⟨Cg (by simp),fun D hD=>?_⟩
  have s0:=Av (o:=HO.lst []) hD
  have hS:CK K H p us:=.inl (.inl hp)
  have hul:=hb.length
  refine ⟨_,rfl,p,rfl,⟨_,s0.seq hS⟩,J2 (K:=K) (a:=p) (xs:=us) (fun i σ H4=>Aj H H4/\∃ ys,H4 D=some (.lst ys)/\Paired (fun q y=>TupAt H4 (qV q) y) (Ds ((as.map tN).take i)) ys/\∃ v2 v3,σ=[some (.ref p),some (.ref D),v2,v3])
   ⟨s0,[],Ag,.nil,_,_,rfl⟩ (fun i σ H4 _ h=>h.1.seq hS) ?_ ?_⟩
  ·rintro i x σ H4 T0 hx ⟨s4,ys,hd,hpr,v2,v3,rfl⟩ hT
   obtain ⟨b,hbi,hxb⟩:=Gk hb hx
   have hi:i<as.length:=(List.getElem?_eq_some_iff.mp hbi).1
   have hb97:=hz b (List.mem_of_getElem? hbi)
   have hbi':(as.map tN)[i]? = some (tN b):=by rw [List.getElem?_map,hbi]; rfl
   have s5:=Av (o:=HO.tup [.int (i:Int),x]) hT
   refine ⟨T0,_,rfl,.inl (.inl Ag),rfl,_,_,rfl,_,_,rfl,rfl,?_⟩
   generalize upd H4 T0 (HO.tup [.int (i:Int),x])=H5 at s5 ⊢
   obtain ⟨r,rfl,hr0⟩:=hxb.mono (s4.trans s5)
   have p5:=Ak s5 hpr
   have d5:=s5 _ _ hd
   refine ⟨_,rfl,.inl ⟨rfl,_,.inl (.inl d5)⟩,_,rfl,r,_,_,_,rfl,rfl,.inl (.inl hr0),Ai (j:=1) rfl,_,rfl,by omega,by omega,?_⟩
   rw [Int.toNat_natCast]
   refine Kr (n:=b.2.1) (fun e=>qV (i,e)) (Az (by omega)) (fun e he H6 s6 R k=>?_) (fun D6 H6 zs hD6 s6 hl6 hz6=>?_)
   ·refine ⟨_,rfl,_,rfl,by show 2<=sizeLine; decide,fun T6 hT6=>?_⟩
    exact k _ _ (Av hT6) ⟨T6,rfl,Ag⟩
   ·have ly:=(Ak s6 p5).length
    have lz:=hz6.length
    have lp:=Kv ((as.map tN).take i) 97 fun b hb=>by
     obtain ⟨a,ha,rfl⟩:=List.mem_map.mp (List.mem_of_mem_take hb)
     exact hz a ha
    rw [List.length_take,List.length_map] at lp
    rw [List.length_range] at lz
    have:min i as.length * 97<=12 * 97:=Nat.mul_le_mul_right _ (by omega)
    refine ⟨D,D6,ys,zs,rfl,rfl,s6 _ _ d5,hl6,Nat.le_of_lt (dq (by omega)),?_⟩
    refine ⟨fun b u e=>?_,ys++zs,Ag,?_,_,_,rfl⟩
    ·rw [BP (BL e hD)]
     exact s6 _ _ (s5 _ _ (s4 _ _ e))
    ·rw [Hi hbi']
     exact Fy (CV (Ak s6 p5) (s6 _ _ d5)) (Bv (F:=fun q y=>TupAt _ (qV q) y) (fun e=>(i,e)) (CV hz6 (s6 _ _ d5)))
  ·rintro σ H4 ⟨s4,ys,hd,hpr,v2,v3,rfl⟩
   rw [← hul,List.take_of_length_le (by rw [List.length_map]; exact Nat.le_refl _)] at hpr
   exact ⟨_,rfl,q D ys H4 hD s4 hd hpr⟩
theorem VL {α:Type} (l:List α) (x:α):Nv (l++[x]) (-1)=some x:=by
 unfold Nv YW
 rw [if_neg (by decide),if_pos (by rw [List.length_append,List.length_singleton]; omega)]
 show (l++[x])[(-1+(((l++[x]).length:Nat):Int)).toNat]? = some x
 have e:(-1+(((l++[x]).length:Nat):Int)).toNat=l.length:=by
  rw [List.length_append,List.length_singleton]
  omega
 rw [e,List.getElem?_append_right (Nat.le_refl _),Nat.sub_self]
 rfl
theorem Js {H:Hp} {l:List Ln} {v:V} {A:Addr} {xs ys:List V} (h:HR H l v) (hA:H A=some (.lst xs)) (hv:v ≠ .ref A):HR (upd H A (.lst ys)) l v:=by
 obtain ⟨B,ts,rfl,h1,h2⟩:=h
 have:B ≠ A:=fun z=>hv (by rw [z])
 exact ⟨B,ts,rfl,by rw [BP this]; exact h1,CV h2 hA⟩
theorem Gd {α β:Type} {F G:α->β->Prop}:∀ {l:List α} {vs:List β},Paired F l vs->(∀ a b,b∈vs->F a b->G a b)->Paired G l vs
 | [],_,h,_=>by cases h; exact .nil
 | a::l,_,h,k=>by
  cases h with
  | cons x y=>exact .cons (k _ _ (List.mem_cons_self ..) x) (Gd y fun a b hb=>k a b (List.mem_cons_of_mem _ hb))
theorem Hj {α β:Type} {F:α->β->Prop}:∀ {l:List α} {z:α} {vs:List β},Paired F (l++[z]) vs->∃ us u,vs=us++[u]/\Paired F l us/\F z u
 | [],z,_,h=>by
  cases h with
  | cons x y=>cases y; exact ⟨[],_,rfl,.nil,x⟩
 | a::l,z,_,h=>by
  cases h with
  | cons x y =>
   obtain ⟨us,u,rfl,h1,h2⟩:=Hj y
   exact ⟨_::us,u,rfl,.cons x h1,h2⟩
theorem Ec {α:Type} {l:List α} (h:l ≠ []):∃ a z,l=a++[z]:=⟨l.dropLast,l.getLast h,(List.dropLast_concat_getLast h).symm⟩
theorem Mz {rk:List (Str × Nat × Int)}:∀ {rs:List R},(∃ r∈rs,Io r.w=true)->linesOf rk rs ≠ []:=by
 have key:∀ (n:Nat) (rs:List R),rs.length=n->(∃ r∈rs,Io r.w=true)->linesOf rk rs ≠ []:=by
  intro n
  induction n with
  | zero =>
   rintro rs hl ⟨r,hr,_⟩
   cases rs with
   | nil=>cases hr
   | cons a b=>cases hl
  | succ n ih =>
   rintro rs hl ⟨r,hr,hk⟩
   obtain ⟨a,z,rfl⟩:=Ec (l:=rs) (by intro e; rw [e] at hl; cases hl)
   rw [CN]
   rw [List.length_append,List.length_singleton] at hl
   unfold FP
   by_cases hz:Io z.w=true
   ·rw [if_pos hz]
    simp
   ·rw [if_neg hz]
    have hr':r∈a:=by
     rcases List.mem_append.mp hr with h | h
     ·exact h
     ·rw [List.mem_singleton.mp h] at hk
      exact absurd hk hz
    have ih':=ih a (by omega) ⟨r,hr',hk⟩
    split
    ·obtain ⟨b,y,e⟩:=Ec ih'
     rw [e,Gq]
     simp
    ·exact ih'
 exact fun {rs} h=>key rs.length rs rfl h
noncomputable def cU:Sp:=fun vs H Q _=>∃ (p d:Addr) (us:List V) (ρ:V->R) (rk:List (Str × Nat × Int)) (kvs:List (Key × V)),vs=[.ref p,.ref d]/\H p=some (.lst us)/\Rows H ρ us/\us.length<=500/\H d=some (.dK kvs)/\(∀ (i:Nat) r,rk[i]? = some r->Dh kvs (Sum.inr r.1)=some (.int (i:Nat)))/\(rk.map (·.1)).Nodup /\
 (∀ (i:Nat) v,us[i]? = some v->(ρ v).w = "line"->(∃ (j:Nat) (r:Str × Nat × Int) (sh lo hi:Int),rk[j]? = some r/\r.1=(ρ v).nm/\(ρ v).rest=[.int sh,.int lo,.int hi])/\∃ u∈us.take i,Io (ρ u).w=true)/\∀ D H',H D=none->Aj H H'->Fv H' D (linesOf rk (us.map ρ))->Q (.ref D) H'
theorem W4 {rk:List (Str × Nat × Int)} {j:Nat} {r:Str × Nat × Int} (nd:(rk.map (·.1)).Nodup) (h:rk[j]? = some r):(rk.map (·.1)).idxOf r.1=j:=by
 have hj:j<(rk.map (·.1)).length:=by rw [List.length_map]; exact (List.getElem?_eq_some_iff.mp h).1
 have e:(rk.map (·.1))[j]=r.1:=by
  rw [List.getElem_map]
  exact congrArg (·.1) (List.getElem?_eq_some_iff.mp h).2
 rw [← e]
 exact List.Nodup.idxOf_getElem nd j hj
theorem Wn:Aw ["rows","rank_numbers","lines","row"] ["rows","rank_numbers"] (Ab ZD):=⟨rfl,rfl,rfl,by decide +kernel,rfl,by decide +kernel,by decide +kernel⟩
include N T in
theorem eE:Ax P w K mg base Bf 1 fLi dLi ["rows","rank_numbers"] cU:=by
 refine N.FLi.1.ok Wn (fun vs H Q E h=>?_) (fun cdv A outer s H vs Q E hr h=>?_)
 ·obtain ⟨p,d,us,ρ,rk,kvs,rfl,_⟩:=h
  rfl
 ·obtain ⟨p,d,us,ρ,rk,kvs,rfl,hp,hR,hl,hdk,hval,hnd,hln,q⟩:=h
  have hu:=Iw hr
  refine ⟨_,(Ae (BJ (i:=2) Wn.nd rfl (Or.inl rfl) (De Ac))
   (Ae (Ci PassesOwn.never rfl (Bd (pv 0)) (Bb (i:=3) Wn.nd rfl (Or.inl rfl)) (Ae (CT (Ba (JZ (K:=K) rfl) (Ar (Al (K:=K) rfl) (pv 3) Ad (fun _ _=>rfl)) (Cy (v:=.ref aK) rfl T.mK rfl) rfl) (Af (C_ (Ep PySem.F.plainAttrs_list PySem.F.slot_list_append PySem.F.type_list_append B_ (pv 2) (Aa (De Ac) Ac)))) Bj)
   (Af (CT (Ba Dj (Ar (Al (K:=K) rfl) (pv 3) Ad (fun _ _=>rfl)) Bs (Be _)) (Af (C_ (Ep PySem.F.plainAttrs_list PySem.F.slot_list_append PySem.F.type_list_append B_ (Ar (Bc (K:=K) rfl) (pv 2) (Mq Ji Ad) (fun _ _=>rfl)) (Aa (Cv (Aa (Gn hu (pv 1) (Ar (Al (K:=K) rfl) (pv 3) Ad (fun _ _=>rfl)) (fun _ _=>rfl)) (Aa (Ar (Al (K:=K) rfl) (pv 3) Ad (fun _ _=>rfl)) (Aa (Ar (Al (K:=K) rfl) (pv 3) Ad (fun _ _=>rfl)) (Aa (Ar (Al (K:=K) rfl) (pv 3) Ad (fun _ _=>rfl)) Ac))))) Ac)))) Bj))))
   (Af (A_ (pv 2))))),?_⟩
  refine ⟨Cg (by simp),fun D hD=>?_⟩
  have s0:=Av (o:=HO.lst []) hD
  have hS:CK K H p us:=.inl (.inl hp)
  refine ⟨_,rfl,p,rfl,⟨_,s0.seq hS⟩,Cp (K:=K) (a:=p) (xs:=us) (fun i σ H4=>Aj H H4/\∃ lv,H4 D=some (.lst lv)/\Paired (fun l v=>HR H4 l v) (linesOf rk ((us.take i).map ρ)) lv/\lv.Nodup/\(∀ v∈lv,v ≠ .ref D)/\(∀ v∈lv,∃ A,v=.ref A/\H A=none)/\lv.length<=i/\(∀ l∈linesOf rk ((us.take i).map ρ),l.length<=i)/\∃ v3,σ=[some (.ref p),some (.ref d),some (.ref D),v3])
   ⟨s0,[],Ag,.nil,List.nodup_nil,(fun v hv=>nomatch hv),(fun v hv=>nomatch hv),Nat.le_refl _,(fun l hl=>nomatch hl),_,rfl⟩ (fun i σ H4 _ h=>h.1.seq hS) ?_ ?_⟩
  ·rintro i x σ H4 hx ⟨s4,lv,hd,hpr,nd,hne,hA0,hlv,hll,v3,rfl⟩
   have hm:=List.mem_of_getElem? hx
   have hi:i<us.length:=(List.getElem?_eq_some_iff.mp hx).1
   obtain ⟨r,rfl,hr0⟩:=(hR.mono s4) x hm
   have etake:(us.take (i+1)).map ρ=(us.take i).map ρ++[ρ (.ref r)]:=by
    rw [List.take_add_one,hx,List.map_append]
    rfl
   have est:linesOf rk ((us.take (i+1)).map ρ)=FP rk (linesOf rk ((us.take i).map ρ)) (ρ (.ref r)):=by rw [etake,CN]
   have lvl:(linesOf rk ((us.take i).map ρ)).length=lv.length:=hpr.length
   by_cases hk:Io (ρ (.ref r)).w=true
   ·have hnl:¬ (ρ (.ref r)).w = "line":=fun z=>by rw [z] at hk; exact absurd hk (by decide +kernel)
    have est2:linesOf rk ((us.take (i+1)).map ρ)=linesOf rk ((us.take i).map ρ)++[[]]:=by rw [est]; unfold FP; rw [if_pos hk]
    refine ⟨_,rfl,r,_,_,_,rfl,rfl,.inl (.inl hr0),Ai (j:=0) rfl,aK,_,rfl,.inr (T.tK.sq _),rfl,rfl,_,rfl,?_⟩
    refine Df (fun _=>?_) (fun z=>absurd hk z)
    refine ⟨_,rfl,.inl ⟨rfl,_,.inl (.inl hd)⟩,Cg (by simp),fun p5 hp5=>?_⟩
    have s5:=Av (o:=HO.lst []) hp5
    have u5:upd H4 p5 (HO.lst []) p5=some (.lst []):=Ag
    generalize upd H4 p5 (HO.lst [])=H5 at s5 u5 ⊢
    have hd5:=s5 _ _ hd
    refine ⟨D,lv,_,rfl,rfl,hd5,Az (by omega),?_⟩
    have hrD:r ≠ D:=WK (s5 _ _ hr0) hd5 (by intro z; cases z)
    have hpD:p5 ≠ D:=fun z=>by rw [z,hd] at hp5; cases hp5
    refine ⟨_,rfl,r,_,_,_,rfl,rfl,.inl (.inl (by rw [BP hrD]; exact s5 _ _ hr0)),Ai (j:=0) rfl,rfl,_,rfl,?_⟩
    refine Df (fun z=>absurd (V.str.inj (of_decide_eq_true z)) hnl) (fun _=>?_)
    refine ⟨fun b u e=>?_,lv++[.ref p5],Ag,?_,?_,?_,?_,by simp; omega,?_,_,rfl⟩
    ·rw [BP (BL e hD)]
     exact s5 _ _ (s4 _ _ e)
    ·rw [est2]
     refine Fy (Gd hpr fun l v hv h=>Js (h.mono s5) hd5 (hne v hv)) (.cons ⟨p5,[],rfl,by rw [BP hpD]; exact u5,.nil⟩ .nil)
    ·refine Ph nd fun hm=>?_
     obtain ⟨l,_,hA⟩:=Cm hpr hm
     obtain ⟨A,ts,e,h1,_⟩:=hA
     cases e
     rw [h1] at hp5
     cases hp5
    ·intro v hv
     rcases List.mem_append.mp hv with h | h
     ·exact hne v h
     ·rw [List.mem_singleton.mp h]
      intro z
      exact hpD (V.ref.inj z)
    ·intro v hv
     rcases List.mem_append.mp hv with h | h
     ·exact hA0 v h
     ·exact ⟨p5,List.mem_singleton.mp h,s4.free hp5⟩
    ·intro l hl'
     rw [est2] at hl'
     rcases List.mem_append.mp hl' with h | h
     ·exact Nat.le_succ_of_le (hll l h)
     ·rw [List.mem_singleton.mp h]
      exact Nat.zero_le _
   ·refine ⟨_,rfl,r,_,_,_,rfl,rfl,.inl (.inl hr0),Ai (j:=0) rfl,aK,_,rfl,.inr (T.tK.sq _),rfl,rfl,_,rfl,?_⟩
    refine Df (fun z=>absurd z hk) (fun _=>?_)
    refine ⟨_,rfl,r,_,_,_,rfl,rfl,.inl (.inl hr0),Ai (j:=0) rfl,rfl,_,rfl,?_⟩
    by_cases hwl:(ρ (.ref r)).w = "line"
    ·refine Df (fun _=>?_) (fun z=>absurd (decide_eq_true (congrArg V.str hwl)) z)
     obtain ⟨⟨j,rr,sh,lo,hi',hj,hnm,hrest⟩,u,hu,hku⟩:=hln i _ hx hwl
     have hne0:linesOf rk ((us.take i).map ρ) ≠ []:=Mz ⟨ρ u,List.mem_map_of_mem hu,hku⟩
     obtain ⟨ac,z,eac⟩:=Ec hne0
     rw [eac] at hpr
     obtain ⟨lv',v,rfl,hpr',hz⟩:=Hj hpr
     obtain ⟨A,ts,rfl,hA,htp⟩:=hz
     have est2:linesOf rk ((us.take (i+1)).map ρ)=ac++[z++[⟨j,sh,lo,hi'⟩]]:=by
      rw [est]
      unfold FP
      rw [if_neg hk,if_pos hwl,eac,Gq]
      unfold lnOf
      rw [hrest,← hnm,W4 hnd hj]
     have hr1:H4 r=some (.tup [.str (ρ (.ref r)).w,.str (ρ (.ref r)).nm,.int sh,.int lo,.int hi']):=by rw [hr0,← hrest]
     have g:=HY.k (k:=Sum.inr rr.1) (s4 _ _ hdk)
     rw [hval j rr hj,hnm] at g
     have hAD:A ≠ D:=fun e=>hne (.ref A) (by simp) (by rw [e])
     have hzl:z.length<=i:=hll z (by rw [eac]; simp)
     have htl:=htp.length
     refine ⟨_,rfl,_,rfl,D,_,_,_,rfl,rfl,.inl (.inl hd),VL lv' (V.ref A),.inl ⟨rfl,_,.inl (.inl hA)⟩,_,rfl,_,rfl,r,_,_,_,rfl,rfl,.inl (.inl hr1),Ai (j:=1) rfl,d,_,rfl,g,_,rfl,r,_,_,_,rfl,rfl,.inl (.inl hr1),Ai (j:=2) rfl,_,rfl,r,_,_,_,rfl,rfl,.inl (.inl hr1),Ai (j:=3) rfl,_,rfl,r,_,_,_,rfl,rfl,.inl (.inl hr1),Ai (j:=4) rfl,by show 4<=sizeLine; decide,fun T5 hT5=>?_⟩
     have s5:=Av (o:=HO.tup [.int (j:Nat),.int sh,.int lo,.int hi']) hT5
     have u5:upd H4 T5 (HO.tup [.int (j:Nat),.int sh,.int lo,.int hi']) T5=some (.tup [.int (j:Nat),.int sh,.int lo,.int hi']):=Ag
     generalize upd H4 T5 (HO.tup [.int (j:Nat),.int sh,.int lo,.int hi'])=H5 at s5 u5 ⊢
     have hA5:=s5 _ _ hA
     have hTA:T5 ≠ A:=fun e=>by rw [e,hA] at hT5; cases hT5
     have hdj:D ≠ A:=fun e=>hAD e.symm
     obtain ⟨nd1,_,hdisj⟩:=List.nodup_append.mp nd
     refine ⟨A,ts,_,rfl,rfl,hA5,Az (by omega),?_⟩
     refine ⟨fun b u e=>?_,lv'++[.ref A],by rw [BP hdj]; exact s5 _ _ hd,?_,nd,hne,hA0,by omega,?_,_,rfl⟩
     ·obtain ⟨A',eA,hA'⟩:=hA0 (.ref A) (by simp)
      cases eA
      rw [BP (BL e hA')]
      exact s5 _ _ (s4 _ _ e)
     ·rw [est2]
      refine Fy (Gd hpr' fun l v hv h=>Js (h.mono s5) hA5 (fun e=>hdisj v hv _ (List.mem_singleton.mpr rfl) e)) (.cons ⟨A,ts++[.ref T5],rfl,Ag,Fy (CV (Ak s5 htp) hA5) (.cons ⟨T5,rfl,by rw [BP hTA]; exact u5⟩ .nil)⟩ .nil)
     ·intro l hl'
      rw [est2] at hl'
      rcases List.mem_append.mp hl' with h | h
      ·exact Nat.le_succ_of_le (hll l (by rw [eac]; exact List.mem_append_left _ h))
      ·rw [List.mem_singleton.mp h,List.length_append,List.length_singleton]
       omega
    ·refine Df (fun z=>absurd (V.str.inj (of_decide_eq_true z)) hwl) (fun _=>?_)
     have est2:linesOf rk ((us.take (i+1)).map ρ)=linesOf rk ((us.take i).map ρ):=by rw [est]; unfold FP; rw [if_neg hk,if_neg hwl]
     rw [← est2] at hpr hll
     exact ⟨s4,lv,hd,hpr,nd,hne,hA0,by omega,fun l hl'=>Nat.le_succ_of_le (hll l hl'),_,rfl⟩
  ·rintro σ H4 ⟨s4,lv,hd,hpr,nd,hne,hA0,hlv,hll,v3,rfl⟩
   rw [List.take_length] at hpr
   exact ⟨_,rfl,q D H4 hD s4 ⟨lv,hd,hpr⟩⟩
noncomputable abbrev U3:List Str:=["row_list","board_list","rank_list","knob_rows","board_numbers","rank_numbers","knob_numbers","key_places","pipe_places","knob_lines","step_sets"]
theorem Dl:∀ m∈meths,∀ f∈U3,¬ m=f:=by decide +kernel
theorem Mm {H H':Hp} {D x C dx:Addr} {fs:List (Str × V)} {ls:List (List Ln)} (h:Fv H D ls) (s:SX x H H') (hx:H x=some (.ins C dx fs)):Fv H' D ls:=by
 obtain ⟨lv,h1,h2⟩:=h
 refine ⟨lv,s.lst hx h1,Paired.Ek h2 fun _ _ q=>?_⟩
 obtain ⟨A,ts,e,h3,h4⟩:=q
 exact ⟨A,ts,e,s.lst hx h3,s.pair hx h4⟩
theorem Q0 {rk:List (Str × Nat × Int)} {ρ:V->R} {us:List V} {P1:Nat->V->Prop} (h:∀ (i:Nat) v,us[i]? = some v->(ρ v).w = "line"->P1 i v/\∃ u∈us.take i,Io (ρ u).w=true):(linesOf rk (us.map ρ)).length=(us.filter (fun v=>Io (ρ v).w)).length:=by
 have key:∀ n,n<=us.length->(linesOf rk ((us.take n).map ρ)).length=((us.take n).filter (fun v=>Io (ρ v).w)).length:=by
  intro n
  induction n with
  | zero=>intro _; rfl
  | succ n ih =>
   intro hn
   have hx:=List.getElem?_eq_getElem (l:=us) (i:=n) (by omega)
   rw [List.take_add_one,hx,List.map_append]
   show (linesOf rk ((us.take n).map ρ++[ρ us[n]])).length=((us.take n++[us[n]]).filter _).length
   rw [CN,List.filter_append,List.length_append,← ih (by omega)]
   unfold FP
   by_cases hk:Io (ρ us[n]).w=true
   ·rw [if_pos hk,List.filter_cons,if_pos hk]
    simp
   ·rw [if_neg hk,List.filter_cons,if_neg hk]
    by_cases hl:(ρ us[n]).w = "line"
    ·rw [if_pos hl]
     obtain ⟨_,u,hu,hku⟩:=h n _ hx hl
     obtain ⟨a,z,e⟩:=Ec (Mz (rk:=rk) ⟨ρ u,List.mem_map_of_mem hu,hku⟩)
     rw [e,Gq]
     simp
    ·rw [if_neg hl]
     simp
 have:=key us.length (Nat.le_refl _)
 rw [List.take_length] at this
 exact this
noncomputable def bY (K:PySem.W.Frag) (aB aP aM C:Addr):Sp:=fun vs H Q _=>∃ (x dx p:Addr) (us:List V) (ρ:V->R) (bs:List (Str × Nat)) (rk:List (Str × Nat × Int)) (ks:List R),vs=[.ref x,.ref p]/\H x=some (.ins C dx [])/\H p=some (.lst us)/\Rows H ρ us/\gF K aB aP aM ρ us bs rk ks/\∀ H',Dn C H' x bs rk ks (linesOf rk (us.map ρ))->SX x H H'->Q .non H'
theorem il:Aw ["self","rows"] ["self","rows"] (Ab Q5):=⟨rfl,rfl,rfl,by decide +kernel,rfl,by decide +kernel,by decide +kernel⟩
include N T in
theorem fV:Ax P w K mg base Bf 9 fOi dOi ["self","rows"] (bY K aB aP aM C):=by
 have GCk:Ax P w K mg base Bf 8 fCk dCk ["rows"] (eO K aB aP aM):=Zv N T
 have GRo:Ax P w K mg base Bf 1 fRo dRo ["rows","word"] QS:=Ma N T
 have GNu:Ax P w K mg base Bf 1 fNu dNu ["names"] fL:=ak N T
 have GPl:Ax P w K mg base Bf 1 fPl dPl ["things"] cV:=cu N T
 have GLi:Ax P w K mg base Bf 1 fLi dLi ["rows","rank_numbers"] cU:=eE N T
 refine N.FOi.1.ok il (fun vs H Q E h=>?_) (fun cdv A outer s H vs Q E hr h=>?_)
 ·obtain ⟨x,dx,p,us,ρ,bs,rk,ks,rfl,_⟩:=h
  rfl
 ·obtain ⟨x,dx,p,us,ρ,bs,rk,ks,rfl,hx,hp,hR,O,q⟩:=h
  have hrCk:BV 8 _:=hr.mono (by decide)
  have hrRo:BV 1 _:=hr.mono (by decide)
  have hrNu:BV 1 _:=hr.mono (by decide)
  have hrPl:BV 1 _:=hr.mono (by decide)
  have hrLi:BV 1 _:=hr.mono (by decide)
  refine ⟨_,(Ae (C_ (Ah GCk hrCk rfl N.FCk.2.2 N.FCk.1.kp N.FCk.2.1 .nil Am (Aa (pv 1) Ac)))
   (Ae (Er (pv 0) (Dk Dq rfl T.list PyProof.Rows.boot_list (Aa (pv 1) Ac)) rfl)
   (Ae (Er (pv 0) (Bp rfl (BW (osc:=Ab Q5) (N:=["self","rows"]) rfl rfl (by decide +kernel)) (Bd (Ah GRo hrRo rfl N.FRo.2.2 N.FRo.1.kp N.FRo.2.1 .nil Am (Aa (pv 1) (Aa Bs Ac)))) (fun _ _ _ _=>CP) (fun _ _ _ _=>(Cv (Aa (Ar (Al (K:=K) rfl) (pv 0) Ad (fun _ _=>rfl)) (Aa (Ar (Al (K:=K) rfl) (pv 0) Ad (fun _ _=>rfl)) Ac))))) rfl)
   (Ae (Er (pv 0) (Bp rfl (BW (osc:=Ab Q5) (N:=["self","rows"]) rfl rfl (by decide +kernel)) (Bd (Ah GRo hrRo rfl N.FRo.2.2 N.FRo.1.kp N.FRo.2.1 .nil Am (Aa (pv 1) (Aa Bs Ac)))) (fun _ _ _ _=>CP) (fun _ _ _ _=>(Cv (Aa (Ar (Al (K:=K) rfl) (pv 0) Ad (fun _ _=>rfl)) (Aa (Ar (Al (K:=K) rfl) (pv 0) Ad (fun _ _=>rfl)) (Aa (Ar (Al (K:=K) rfl) (pv 0) Ad (fun _ _=>rfl)) Ac)))))) rfl)
   (Ae (Er (pv 0) (Bp rfl (BW (osc:=Ab Q5) (N:=["self","rows"]) rfl rfl (by decide +kernel)) (Bd (pv 1)) (fun _ _ _ _=>(Ef (Ba (JZ (K:=K) rfl) (Ar (Al (K:=K) rfl) (pv 0) Ad (fun _ _=>rfl)) (Cy (v:=.ref aK) rfl T.mK rfl) rfl))) (fun _ _ _ _=>(pv 0))) rfl)
   (Ae (Er (pv 0) (Ah GNu hrNu rfl N.FNu.2.2 N.FNu.1.kp N.FNu.2.1 .nil Am (Aa (Bp rfl (BW (osc:=Ab Q5) (N:=["self","rows"]) rfl rfl (by decide +kernel)) (Bd (Ca (pv 0) rfl)) (fun _ _ _ _=>CP) (fun _ _ _ _=>(Ar (Al (K:=K) rfl) (pv 0) Ad (fun _ _=>rfl)))) Ac)) rfl)
   (Ae (Er (pv 0) (Ah GNu hrNu rfl N.FNu.2.2 N.FNu.1.kp N.FNu.2.1 .nil Am (Aa (Bp rfl (BW (osc:=Ab Q5) (N:=["self","rows"]) rfl rfl (by decide +kernel)) (Bd (Ca (pv 0) rfl)) (fun _ _ _ _=>CP) (fun _ _ _ _=>(Ar (Al (K:=K) rfl) (pv 0) Ad (fun _ _=>rfl)))) Ac)) rfl)
   (Ae (Er (pv 0) (Ah GNu hrNu rfl N.FNu.2.2 N.FNu.1.kp N.FNu.2.1 .nil Am (Aa (Bp rfl (BW (osc:=Ab Q5) (N:=["self","rows"]) rfl rfl (by decide +kernel)) (Bd (Ca (pv 0) rfl)) (fun _ _ _ _=>CP) (fun _ _ _ _=>(Ar (Al (K:=K) rfl) (pv 0) Ad (fun _ _=>rfl)))) Ac)) rfl)
   (Ae (Er (pv 0) (Ah GPl hrPl rfl N.FPl.2.2 N.FPl.1.kp N.FPl.2.1 .nil Am (Aa (Ca (pv 0) rfl) Ac)) rfl)
   (Ae (Er (pv 0) (Ah GPl hrPl rfl N.FPl.2.2 N.FPl.1.kp N.FPl.2.1 .nil Am (Aa (Ca (pv 0) rfl) Ac)) rfl)
   (Ae (Er (pv 0) (Ah GLi hrLi rfl N.FLi.2.2 N.FLi.1.kp N.FLi.2.1 .nil Am (Aa (pv 1) (Aa (Ca (pv 0) rfl) Ac))) rfl)
   (Af (Er (pv 0) (Bp rfl (BW (osc:=Ab Q5) (N:=["self","rows"]) rfl rfl (by decide +kernel)) (Bd (Ah GRo hrRo rfl N.FRo.2.2 N.FRo.1.kp N.FRo.2.1 .nil Am (Aa (pv 1) (Aa Bs Ac)))) (fun _ _ _ _=>CP) (fun _ _ _ _=>Sw)) rfl))))))))))))),?_⟩
  have hlen:=O.len
  obtain ⟨ur,hur⟩:∃ ur,us.filter (pw ρ "rank")=ur:=⟨_,rfl⟩
  have er:ur.map ρ=rk.map Hg:=by rw [← hur]; exact O.er
  have lr:ur.length=rk.length:=by have:=congrArg List.length er; simpa using this
  have inR:∀ {v},v∈ur->v∈us:=fun {v} hv=>by rw [← hur] at hv; exact (List.mem_filter.mp hv).1
  have ofR:∀ {v},v∈ur->∃ b∈rk,ρ v=Hg b:=fun {v} hv=>by
   have:ρ v∈rk.map Hg:=by rw [← er]; exact List.mem_map_of_mem hv
   obtain ⟨b,hb,e⟩:=List.mem_map.mp this
   exact ⟨b,hb,e.symm⟩
  obtain ⟨ub,hub⟩:∃ ub,us.filter (pw ρ "board")=ub:=⟨_,rfl⟩
  obtain ⟨uk,huk⟩:∃ uk,us.filter (fun v=>Io (ρ v).w)=uk:=⟨_,rfl⟩
  have eb:ub.map ρ=bs.map FQ:=by rw [← hub]; exact O.eb
  have ek:uk.map ρ=ks:=by rw [← huk]; exact O.ek
  have lb:ub.length=bs.length:=by have:=congrArg List.length eb; simpa using this
  have lku:uk.length=ks.length:=by have:=congrArg List.length ek; simpa using this
  have inB:∀ {v},v∈ub->v∈us:=fun {v} hv=>by rw [← hub] at hv; exact (List.mem_filter.mp hv).1
  have inKn:∀ {v},v∈uk->v∈us:=fun {v} hv=>by rw [← huk] at hv; exact (List.mem_filter.mp hv).1
  have ofB:∀ {v},v∈ub->∃ b∈bs,ρ v=FQ b:=fun {v} hv=>by
   have:ρ v∈bs.map FQ:=by rw [← eb]; exact List.mem_map_of_mem hv
   obtain ⟨b,hb,e⟩:=List.mem_map.mp this
   exact ⟨b,hb,e.symm⟩
  have l1us:1<=us.length:=by
   have h1:=O.b0
   have h2:ub.length<=us.length:=by rw [← hub]; exact List.length_filter_le _ _
   omega
  refine ⟨_,rfl,p,us,ρ,rfl,hp,hR,l1us,by omega,O.ok,?_,fun H1 s1=>?_⟩
  ·rw [hub]
   cases ub with
   | nil =>
    have:=O.b0
    simp at lb
    omega
   | cons a b=>rfl
  have c1:SX x H H1:=SX.of s1
  have x1:=s1 _ _ hx
  refine ⟨_,rfl,p,_,rfl,.inl (.inl (.inl (s1 _ _ hp))),fun l1 hl1=>?_⟩
  have s2:=Av (o:=HO.lst us) hl1
  generalize upd H1 l1 (HO.lst us)=H2 at s2 ⊢
  refine ⟨_,rfl,x,C,dx,_,rfl,s2 _ _ x1,T.cl,T.n_row_list,(by show 0<1000; decide),?_⟩
  have c2:SX x H _:=(c1.trans (SX.of s2)).trans (SX.up (o:=HO.ins C dx (Bk "row_list" (.ref l1) [])))
  have x2:upd H2 x (HO.ins C dx (Bk "row_list" (.ref l1) [])) x=_:=Ag
  generalize upd H2 x (HO.ins C dx (Bk "row_list" (.ref l1) []))=H3 at c2 x2 ⊢
  have R3:Rows H3 ρ us:=fun v hv=>c2.tup hx (hR v hv)
  refine ⟨_,rfl,p,_,"board",ρ,rfl,c2.lst hx hp,R3,by omega,fun D4 H4 hD4 s4 hl4=>?_⟩
  rw [hub] at hl4
  have hS4:CK K H4 D4 ub:=.inl (.inl hl4)
  refine ⟨D4,rfl,⟨_,hS4⟩,Jz (K:=K) (xs:=ub) (fun _=>true) (fun v=>[.str (ρ v).nm,(ρ v).rest.getD 0 .non]) hS4 (Az (by have:=O.b5; omega)) (fun y hy H' hs R k=>k H' (Aj.refl H')) (fun y hy _ H' hs R k=>?_) (fun D5 H5 bvs hD5 s5 hl5 hb5=>?_)⟩
  ·obtain ⟨b,_,e⟩:=ofB hy
   have hT:=(R3 y (inB hy)).mono (s4.trans hs)
   rw [e] at hT k
   obtain ⟨T0,rfl,hT⟩:=hT
   exact ⟨_,rfl,T0,_,_,_,rfl,rfl,.inl (.inl hT),Ai (j:=1) rfl,_,rfl,T0,_,_,_,rfl,rfl,.inl (.inl hT),Ai (j:=2) rfl,by show 2<=sizeLine; decide,fun T6 hT6=>k _ _ (Av hT6) ⟨T6,rfl,Ag⟩⟩
  rw [List.filter_eq_self.mpr (fun _ _=>rfl)] at hb5
  have hb5':Paired (fun b y=>TupAt H5 (bV b) y) bs bvs:=by
   have h1:=Bv (F:=fun (r:R) y=>TupAt H5 [.str r.nm,r.rest.getD 0 .non] y) ρ hb5
   rw [eb] at h1
   exact FT FQ h1
  clear hb5
  refine ⟨_,rfl,x,C,dx,_,rfl,s5 _ _ (s4 _ _ x2),T.cl,T.n_board_list,Nat.lt_of_le_of_lt (Bu _ _ _) (by show 1<1000; decide),?_⟩
  have u6:SX x H5 _:=SX.up (o:=HO.ins C dx (Bk "board_list" (.ref D5) (Bk "row_list" (.ref l1) [])))
  have x5:=s5 _ _ (s4 _ _ x2)
  have c6:SX x H _:=(c2.trans (SX.of (s4.trans s5))).trans u6
  have x6:upd H5 x (HO.ins C dx (Bk "board_list" (.ref D5) (Bk "row_list" (.ref l1) []))) x=_:=Ag
  have hl6:=u6.lst x5 hl5
  have hb6:=u6.pair x5 hb5'
  generalize upd H5 x (HO.ins C dx (Bk "board_list" (.ref D5) (Bk "row_list" (.ref l1) [])))=H6 at c6 x6 hl6 hb6 ⊢
  clear u6
  have R6:Rows H6 ρ us:=fun v hv=>c6.tup hx (hR v hv)
  refine ⟨_,rfl,p,_,"rank",ρ,rfl,c6.lst hx hp,R6,by omega,fun D7 H7 hD7 s7 hl7=>?_⟩
  rw [hur] at hl7
  have hS7:CK K H7 D7 ur:=.inl (.inl hl7)
  refine ⟨D7,rfl,⟨_,hS7⟩,Jz (K:=K) (xs:=ur) (fun _=>true) (fun v=>[.str (ρ v).nm,(ρ v).rest.getD 0 .non,(ρ v).rest.getD 1 .non]) hS7 (Az (by have:=O.nr; omega)) (fun y hy H' hs R k=>k H' (Aj.refl H')) (fun y hy _ H' hs R k=>?_) (fun D8 H8 rvs hD8 s8 hl8 hr8=>?_)⟩
  ·obtain ⟨b,_,e⟩:=ofR hy
   have hT:=(R6 y (inR hy)).mono (s7.trans hs)
   rw [e] at hT k
   obtain ⟨T0,rfl,hT⟩:=hT
   exact ⟨_,rfl,T0,_,_,_,rfl,rfl,.inl (.inl hT),Ai (j:=1) rfl,_,rfl,T0,_,_,_,rfl,rfl,.inl (.inl hT),Ai (j:=2) rfl,_,rfl,T0,_,_,_,rfl,rfl,.inl (.inl hT),Ai (j:=3) rfl,by show 3<=sizeLine; decide,fun T6 hT6=>k _ _ (Av hT6) ⟨T6,rfl,Ag⟩⟩
  rw [List.filter_eq_self.mpr (fun _ _=>rfl)] at hr8
  have hr8':Paired (fun (a:Th) y=>TupAt H8 (tV a) y) (rk.map S6) rvs:=by
   have h1:=Bv (F:=fun (r:R) y=>TupAt H8 [.str r.nm,r.rest.getD 0 .non,r.rest.getD 1 .non] y) ρ hr8
   rw [er] at h1
   exact Bv (F:=fun (a:Th) y=>TupAt H8 (tV a) y) S6 (FT Hg h1)
  clear hr8
  refine ⟨_,rfl,x,C,dx,_,rfl,s8 _ _ (s7 _ _ x6),T.cl,T.n_rank_list,Nat.lt_of_le_of_lt (Nat.le_trans (Bu _ _ _) (Nat.succ_le_succ (Bu _ _ _))) (by show 2<1000; decide),?_⟩
  have s68:=s7.trans s8
  have x8:=s68 _ _ x6
  have c8:SX x H H8:=c6.trans (SX.of s68)
  have hl8b:=s68 _ _ hl6
  have hb8:=Ak s68 hb6
  have u9:SX x H8 _:=SX.up (o:=HO.ins C dx (Bk "rank_list" (.ref D8) (Bk "board_list" (.ref D5) (Bk "row_list" (.ref l1) []))))
  have x9:upd H8 x (HO.ins C dx (Bk "rank_list" (.ref D8) (Bk "board_list" (.ref D5) (Bk "row_list" (.ref l1) [])))) x=_:=Ag
  have c9:=c8.trans u9
  have bl9:=u9.lst x8 hl8b
  have bp9:=u9.pair x8 hb8
  have rl9:=u9.lst x8 hl8
  have rp9:=u9.pair x8 hr8'
  generalize hf9:Bk "rank_list" (.ref D8) (Bk "board_list" (.ref D5) (Bk "row_list" (.ref l1) []))=f9 at x9 c9 bl9 bp9 rl9 rp9 u9 ⊢
  generalize upd H8 x (HO.ins C dx f9)=H9 at x9 c9 bl9 bp9 rl9 rp9 ⊢
  have n9:f9.length<=3:=by rw [← hf9]; exact Nat.le_trans (Bu _ _ _) (Nat.succ_le_succ (Nat.le_trans (Bu _ _ _) (Nat.succ_le_succ (Bu _ _ _))))
  have lb9:f9.lookup ("board_list" : Str)=some (.ref D5):=by rw [← hf9,Ao,if_neg (by decide +kernel),Ao,if_pos rfl]
  have lr9:f9.lookup ("rank_list" : Str)=some (.ref D8):=by rw [← hf9,Ao,if_pos rfl]
  have no9:∀ m∈meths,f9.lookup m=none:=fun m hm=>by
   rw [← hf9,Ao,if_neg (Dl m hm _ (by decide +kernel)),Ao,if_neg (Dl m hm _ (by decide +kernel)),Ao,if_neg (Dl m hm _ (by decide +kernel))]
   rfl
  clear u9 hf9
  have R9:Rows H9 ρ us:=fun v hv=>c9.tup hx (hR v hv)
  have hS9:CK K H9 p us:=.inl (.inl (c9.lst hx hp))
  refine ⟨_,rfl,p,rfl,⟨_,hS9⟩,Bx (K:=K) (xs:=us) (fun v=>Io (ρ v).w) id hS9 (Az (by omega)) (fun y hy H' hs R k=>?_) (fun y hy _ H' hs R k=>⟨_,rfl,k H' (Aj.refl H')⟩) (fun D10 H10 hD10 s10 hl10=>?_)⟩
  ·obtain ⟨T0,rfl,hT⟩:=(R9.mono hs) y hy
   exact ⟨_,rfl,T0,_,_,_,rfl,rfl,.inl (.inl hT),Ai (j:=0) rfl,aK,_,rfl,.inr (T.tK.sq _),rfl,rfl,_,rfl,k H' (Aj.refl H')⟩
  rw [List.map_id,huk] at hl10
  refine ⟨_,rfl,x,C,dx,_,rfl,s10 _ _ x9,T.cl,T.n_knob_rows,by omega,?_⟩
  have x10:=s10 _ _ x9
  have u11:SX x H10 _:=SX.up (o:=HO.ins C dx (Bk "knob_rows" (.ref D10) f9))
  have x11:upd H10 x (HO.ins C dx (Bk "knob_rows" (.ref D10) f9)) x=_:=Ag
  have c11:=(c9.trans (SX.of s10)).trans u11
  have bl11:=u11.lst x10 (s10 _ _ bl9)
  have bp11:=u11.pair x10 (Ak s10 bp9)
  have rl11:=u11.lst x10 (s10 _ _ rl9)
  have rp11:=u11.pair x10 (Ak s10 rp9)
  have kr11:=u11.lst x10 hl10
  generalize upd H10 x (HO.ins C dx (Bk "knob_rows" (.ref D10) f9))=H11 at x11 c11 bl11 bp11 rl11 rp11 kr11 ⊢
  clear u11
  have hul:=bp11.length
  have hS11:CK K H11 D5 bvs:=.inl (.inl bl11)
  refine ⟨_,rfl,x,C,dx,_,_,rfl,x11,T.cl,T.n_board_list,(by rw [Ao,if_neg (by decide +kernel)]; exact lb9),D5,rfl,⟨_,hS11⟩,Bx (K:=K) (xs:=bvs) (fun _=>true) (Jo H11 0) hS11 (Az (by have:=O.b5; omega)) (fun y hy H' hs R k=>k H' (Aj.refl H')) (fun y hy _ H' hs R k=>?_) (fun D12 H12 hD12 s12 hl12=>?_)⟩
  ·obtain ⟨b,_,hx'⟩:=Cm bp11 hy
   have e:=Ft hx' 0
   obtain ⟨T0,rfl,hT⟩:=hx'.mono hs
   refine ⟨_,rfl,T0,_,_,_,rfl,rfl,.inl (.inl hT),Ai (j:=0) rfl,?_⟩
   have:=k H' (Aj.refl H')
   rw [e] at this
   exact this
  rw [List.filter_eq_self.mpr (fun _ _=>rfl),JR 0 bp11] at hl12
  have e12:(bs.map fun b=>(bV b).getD 0 V.non)=(bs.map (·.1)).map V.str:=by
   rw [List.map_map]
   rfl
  rw [e12] at hl12
  refine ⟨D12,_,rfl,hl12,by rw [List.length_map]; have:=O.b5; omega,O.nb,fun D13 kvs H13 hD13 s13 hl13 hv13=>?_⟩
  have s1113:=s12.trans s13
  have x13:=s1113 _ _ x11
  refine ⟨_,rfl,x,C,dx,_,rfl,x13,T.cl,T.n_board_numbers,Nat.lt_of_le_of_lt (Bu _ _ _) (by omega),?_⟩
  have u14:SX x H13 _:=SX.up (o:=HO.ins C dx (Bk "board_numbers" (.ref D13) (Bk "knob_rows" (.ref D10) f9)))
  have x14:upd H13 x (HO.ins C dx (Bk "board_numbers" (.ref D13) (Bk "knob_rows" (.ref D10) f9))) x=_:=Ag
  have c14:=(c11.trans (SX.of s1113)).trans u14
  have bl14:=u14.lst x13 (s1113 _ _ bl11)
  have bp14:=u14.pair x13 (Ak s1113 bp11)
  have rl14:=u14.lst x13 (s1113 _ _ rl11)
  have rp14:=u14.pair x13 (Ak s1113 rp11)
  have kr14:=u14.lst x13 (s1113 _ _ kr11)
  have bn14:=u14.dk x13 hl13
  generalize upd H13 x (HO.ins C dx (Bk "board_numbers" (.ref D13) (Bk "knob_rows" (.ref D10) f9)))=H14 at x14 c14 bl14 bp14 rl14 rp14 kr14 bn14 ⊢
  clear u14
  have hrl:=rp14.length
  rw [List.length_map] at hrl
  have hS14:CK K H14 D8 rvs:=.inl (.inl rl14)
  refine ⟨_,rfl,x,C,dx,_,_,rfl,x14,T.cl,T.n_rank_list,(by rw [Ao,if_neg (by decide +kernel),Ao,if_neg (by decide +kernel)]; exact lr9),D8,rfl,⟨_,hS14⟩,Bx (K:=K) (xs:=rvs) (fun _=>true) (Jo H14 0) hS14 (Az (by have:=O.nr; omega)) (fun y hy H' hs R k=>k H' (Aj.refl H')) (fun y hy _ H' hs R k=>?_) (fun D15 H15 hD15 s15 hl15=>?_)⟩
  ·obtain ⟨b,_,hx'⟩:=Cm rp14 hy
   have e:=Ft hx' 0
   obtain ⟨T0,rfl,hT⟩:=hx'.mono hs
   refine ⟨_,rfl,T0,_,_,_,rfl,rfl,.inl (.inl hT),Ai (j:=0) rfl,?_⟩
   have:=k H' (Aj.refl H')
   rw [e] at this
   exact this
  rw [List.filter_eq_self.mpr (fun _ _=>rfl),JR 0 rp14] at hl15
  have e15:((rk.map S6).map fun b=>(tV b).getD 0 V.non)=(rk.map (·.1)).map V.str:=by
   rw [List.map_map,List.map_map]
   rfl
  rw [e15] at hl15
  refine ⟨D15,_,rfl,hl15,by rw [List.length_map]; have:=O.nr; omega,O.nrr,fun D16 kvs16 H16 hD16 s16 hl16 hv16=>?_⟩
  have s1416:=s15.trans s16
  have x16:=s1416 _ _ x14
  refine ⟨_,rfl,x,C,dx,_,rfl,x16,T.cl,T.n_rank_numbers,Nat.lt_of_le_of_lt (Nat.le_trans (Bu _ _ _) (Nat.succ_le_succ (Bu _ _ _))) (by omega),?_⟩
  have u17:SX x H16 _:=SX.up (o:=HO.ins C dx (Bk "rank_numbers" (.ref D16) (Bk "board_numbers" (.ref D13) (Bk "knob_rows" (.ref D10) f9))))
  have x17:upd H16 x (HO.ins C dx (Bk "rank_numbers" (.ref D16) (Bk "board_numbers" (.ref D13) (Bk "knob_rows" (.ref D10) f9)))) x=_:=Ag
  have c17:=(c14.trans (SX.of s1416)).trans u17
  have bl17:=u17.lst x16 (s1416 _ _ bl14)
  have bp17:=u17.pair x16 (Ak s1416 bp14)
  have rl17:=u17.lst x16 (s1416 _ _ rl14)
  have rp17:=u17.pair x16 (Ak s1416 rp14)
  have kr17:=u17.lst x16 (s1416 _ _ kr14)
  have bn17:=u17.dk x16 (s1416 _ _ bn14)
  have rn17:=u17.dk x16 hl16
  generalize hf17:Bk "rank_numbers" (.ref D16) (Bk "board_numbers" (.ref D13) (Bk "knob_rows" (.ref D10) f9))=f17 at x17 c17 bl17 bp17 rl17 rp17 kr17 bn17 rn17 u17 ⊢
  generalize upd H16 x (HO.ins C dx f17)=H17 at x17 c17 bl17 bp17 rl17 rp17 kr17 bn17 rn17 ⊢
  have n17:f17.length<=6:=by rw [← hf17]; exact Nat.le_trans (Bu _ _ _) (Nat.succ_le_succ (Nat.le_trans (Bu _ _ _) (Nat.succ_le_succ (Nat.le_trans (Bu _ _ _) (Nat.succ_le_succ n9)))))
  have lb17:f17.lookup ("board_list" : Str)=some (.ref D5):=by rw [← hf17,Ao,if_neg (by decide +kernel),Ao,if_neg (by decide +kernel),Ao,if_neg (by decide +kernel)]; exact lb9
  have lr17:f17.lookup ("rank_list" : Str)=some (.ref D8):=by rw [← hf17,Ao,if_neg (by decide +kernel),Ao,if_neg (by decide +kernel),Ao,if_neg (by decide +kernel)]; exact lr9
  have lrn17:f17.lookup ("rank_numbers" : Str)=some (.ref D16):=by rw [← hf17,Ao,if_pos rfl]
  have lbn17:f17.lookup ("board_numbers" : Str)=some (.ref D13):=by rw [← hf17,Ao,if_neg (by decide +kernel),Ao,if_pos rfl]
  have lkr17:f17.lookup ("knob_rows" : Str)=some (.ref D10):=by rw [← hf17,Ao,if_neg (by decide +kernel),Ao,if_neg (by decide +kernel),Ao,if_pos rfl]
  have no17:∀ m∈meths,f17.lookup m=none:=fun m hm=>by
   rw [← hf17,Ao,if_neg (Dl m hm _ (by decide +kernel)),Ao,if_neg (Dl m hm _ (by decide +kernel)),Ao,if_neg (Dl m hm _ (by decide +kernel))]
   exact no9 m hm
  clear u17 hf17
  have hS17:CK K H17 D10 uk:=.inl (.inl kr17)
  have R17:Rows H17 ρ us:=fun v hv=>c17.tup hx (hR v hv)
  refine ⟨_,rfl,x,C,dx,_,_,rfl,x17,T.cl,T.n_knob_rows,lkr17,D10,rfl,⟨_,hS17⟩,Bx (K:=K) (xs:=uk) (fun _=>true) (fun v=>.str (ρ v).nm) hS17 (Az (by have:=O.nk; omega)) (fun y hy H' hs R k=>k H' (Aj.refl H')) (fun y hy _ H' hs R k=>?_) (fun D18 H18 hD18 s18 hl18=>?_)⟩
  ·obtain ⟨T0,rfl,hT⟩:=(R17.mono hs) y (inKn hy)
   exact ⟨_,rfl,T0,_,_,_,rfl,rfl,.inl (.inl hT),Ai (j:=1) rfl,k H' (Aj.refl H')⟩
  rw [List.filter_eq_self.mpr (fun _ _=>rfl)] at hl18
  have e18:(uk.map fun v=>V.str (ρ v).nm)=(ks.map (·.nm)).map V.str:=by
   rw [← ek,List.map_map,List.map_map]
   rfl
  rw [e18] at hl18
  refine ⟨D18,_,rfl,hl18,by rw [List.length_map]; have:=O.nk; omega,O.nn,fun D19 kvs19 H19 hD19 s19 hl19 hv19=>?_⟩
  have s1719:=s18.trans s19
  have x19:=s1719 _ _ x17
  refine ⟨_,rfl,x,C,dx,_,rfl,x19,T.cl,T.n_knob_numbers,by omega,?_⟩
  have u20:SX x H19 _:=SX.up (o:=HO.ins C dx (Bk "knob_numbers" (.ref D19) f17))
  have x20:upd H19 x (HO.ins C dx (Bk "knob_numbers" (.ref D19) f17)) x=_:=Ag
  have c20:=(c17.trans (SX.of s1719)).trans u20
  have bl20:=u20.lst x19 (s1719 _ _ bl17)
  have bp20:=u20.pair x19 (Ak s1719 bp17)
  have rl20:=u20.lst x19 (s1719 _ _ rl17)
  have rp20:=u20.pair x19 (Ak s1719 rp17)
  have kr20:=u20.lst x19 (s1719 _ _ kr17)
  have bn20:=u20.dk x19 (s1719 _ _ bn17)
  have rn20:=u20.dk x19 (s1719 _ _ rn17)
  generalize upd H19 x (HO.ins C dx (Bk "knob_numbers" (.ref D19) f17))=H20 at x20 c20 bl20 bp20 rl20 rp20 kr20 bn20 rn20 ⊢
  clear u20
  refine ⟨_,rfl,x,C,dx,_,_,rfl,x20,T.cl,T.n_board_list,(by rw [Ao,if_neg (by decide +kernel)]; exact lb17),D5,bs.map Zg,bvs,rfl,bl20,Bv (F:=fun (a:Th) y=>TupAt H20 (tV a) y) Zg bp20,(by rw [List.length_map]; have:=O.b5; omega),(fun a ha=>by obtain ⟨b,hb,rfl⟩:=List.mem_map.mp ha; have:=O.sz b hb; show b.2<=97; omega),fun D21 pvs H21 hD21 s21 hl21 hp21=>?_⟩
  have e21:(bs.map Zg).map tN=bs:=by
   rw [List.map_map]
   exact List.map_id bs
  rw [e21] at hp21
  have x21:=s21 _ _ x20
  refine ⟨_,rfl,x,C,dx,_,rfl,x21,T.cl,T.n_key_places,Nat.lt_of_le_of_lt (Bu _ _ _) (by omega),?_⟩
  have u22:SX x H21 _:=SX.up (o:=HO.ins C dx (Bk "key_places" (.ref D21) (Bk "knob_numbers" (.ref D19) f17)))
  have x22:upd H21 x (HO.ins C dx (Bk "key_places" (.ref D21) (Bk "knob_numbers" (.ref D19) f17))) x=_:=Ag
  have c22:=(c20.trans (SX.of s21)).trans u22
  have bl22:=u22.lst x21 (s21 _ _ bl20)
  have bp22:=u22.pair x21 (Ak s21 bp20)
  have rl22:=u22.lst x21 (s21 _ _ rl20)
  have rp22:=u22.pair x21 (Ak s21 rp20)
  have kr22:=u22.lst x21 (s21 _ _ kr20)
  have bn22:=u22.dk x21 (s21 _ _ bn20)
  have rn22:=u22.dk x21 (s21 _ _ rn20)
  have kp22:=u22.lst x21 hl21
  have kq22:=u22.pair x21 hp21
  generalize upd H21 x (HO.ins C dx (Bk "key_places" (.ref D21) (Bk "knob_numbers" (.ref D19) f17)))=H22 at x22 c22 bl22 bp22 rl22 rp22 kr22 bn22 rn22 kp22 kq22 ⊢
  clear u22
  refine ⟨_,rfl,x,C,dx,_,_,rfl,x22,T.cl,T.n_rank_list,(by rw [Ao,if_neg (by decide +kernel),Ao,if_neg (by decide +kernel)]; exact lr17),D8,rk.map S6,rvs,rfl,rl22,rp22,(by rw [List.length_map]; exact O.nr),(fun a ha=>by obtain ⟨r,hr,rfl⟩:=List.mem_map.mp ha; exact O.nz r hr),fun D23 qvs H23 hD23 s23 hl23 hp23=>?_⟩
  have e23:(rk.map S6).map tN=rk.map Xe:=by
   rw [List.map_map]
   rfl
  rw [e23] at hp23
  have x23:=s23 _ _ x22
  refine ⟨_,rfl,x,C,dx,_,rfl,x23,T.cl,T.n_pipe_places,Nat.lt_of_le_of_lt (Nat.le_trans (Bu _ _ _) (Nat.succ_le_succ (Bu _ _ _))) (by omega),?_⟩
  have u24:SX x H23 _:=SX.up (o:=HO.ins C dx (Bk "pipe_places" (.ref D23) (Bk "key_places" (.ref D21) (Bk "knob_numbers" (.ref D19) f17))))
  have x24:upd H23 x (HO.ins C dx (Bk "pipe_places" (.ref D23) (Bk "key_places" (.ref D21) (Bk "knob_numbers" (.ref D19) f17)))) x=_:=Ag
  have c24:=(c22.trans (SX.of s23)).trans u24
  have bl24:=u24.lst x23 (s23 _ _ bl22)
  have bp24:=u24.pair x23 (Ak s23 bp22)
  have kr24:=u24.lst x23 (s23 _ _ kr22)
  have rl24:=u24.lst x23 (s23 _ _ rl22)
  have rp24:=u24.pair x23 (Ak s23 rp22)
  have pp24:=u24.lst x23 hl23
  have pq24:=u24.pair x23 hp23
  have bn24:=u24.dk x23 (s23 _ _ bn22)
  have rn24:=u24.dk x23 (s23 _ _ rn22)
  have kp24:=u24.lst x23 (s23 _ _ kp22)
  have kq24:=u24.pair x23 (Ak s23 kq22)
  generalize hf24:Bk "pipe_places" (.ref D23) (Bk "key_places" (.ref D21) (Bk "knob_numbers" (.ref D19) f17))=f24 at x24 c24 bl24 bp24 kr24 rl24 rp24 pp24 pq24 bn24 rn24 kp24 kq24 u24 ⊢
  generalize upd H23 x (HO.ins C dx f24)=H24 at x24 c24 bl24 bp24 kr24 rl24 rp24 pp24 pq24 bn24 rn24 kp24 kq24 ⊢
  have n24:f24.length<=9:=by rw [← hf24]; exact Nat.le_trans (Bu _ _ _) (Nat.succ_le_succ (Nat.le_trans (Bu _ _ _) (Nat.succ_le_succ (Nat.le_trans (Bu _ _ _) (Nat.succ_le_succ n17)))))
  have old24:∀ {f:Str} {v:V},¬ f = "pipe_places"->¬ f = "key_places"->¬ f = "knob_numbers"->f17.lookup f=some v->f24.lookup f=some v:=fun h1 h2 h3 h=>by
   rw [← hf24,Ao,if_neg h1,Ao,if_neg h2,Ao,if_neg h3]; exact h
  have lb24:=old24 (by decide +kernel) (by decide +kernel) (by decide +kernel) lb17
  have lbn24:=old24 (by decide +kernel) (by decide +kernel) (by decide +kernel) lbn17
  have lr24:=old24 (by decide +kernel) (by decide +kernel) (by decide +kernel) lr17
  have lpp24:f24.lookup ("pipe_places" : Str)=some (.ref D23):=by rw [← hf24,Ao,if_pos rfl]
  have lrn24:=old24 (by decide +kernel) (by decide +kernel) (by decide +kernel) lrn17
  have lkr24:=old24 (by decide +kernel) (by decide +kernel) (by decide +kernel) lkr17
  have lkp24:f24.lookup ("key_places" : Str)=some (.ref D21):=by rw [← hf24,Ao,if_neg (by decide +kernel),Ao,if_pos rfl]
  have no24:∀ m∈meths,f24.lookup m=none:=fun m hm=>by
   rw [← hf24,Ao,if_neg (Dl m hm _ (by decide +kernel)),Ao,if_neg (Dl m hm _ (by decide +kernel)),Ao,if_neg (Dl m hm _ (by decide +kernel))]
   exact no17 m hm
  clear u24 hf24 old24
  have R24:Rows H24 ρ us:=fun v hv=>c24.tup hx (hR v hv)
  refine ⟨_,rfl,_,rfl,x,C,dx,_,_,rfl,x24,T.cl,T.n_rank_numbers,lrn24,p,D16,us,ρ,rk,kvs16,rfl,c24.lst hx hp,R24,by omega,rn24,(fun i r hr=>hv16 i r.1 (by rw [List.getElem?_map,hr]; rfl)),O.nrr,O.ln,fun D25 H25 hD25 s25 hl25=>?_⟩
  have x25:=s25 _ _ x24
  refine ⟨_,rfl,x,C,dx,_,rfl,x25,T.cl,T.n_knob_lines,by omega,?_⟩
  have u26:SX x H25 _:=SX.up (o:=HO.ins C dx (Bk "knob_lines" (.ref D25) f24))
  have x26:upd H25 x (HO.ins C dx (Bk "knob_lines" (.ref D25) f24)) x=_:=Ag
  have c26:=(c24.trans (SX.of s25)).trans u26
  have bl26:=u26.lst x25 (s25 _ _ bl24)
  have bp26:=u26.pair x25 (Ak s25 bp24)
  have kr26:=u26.lst x25 (s25 _ _ kr24)
  have rl26:=u26.lst x25 (s25 _ _ rl24)
  have rp26:=u26.pair x25 (Ak s25 rp24)
  have pp26:=u26.lst x25 (s25 _ _ pp24)
  have pq26:=u26.pair x25 (Ak s25 pq24)
  have ln26:=Mm hl25 u26 x25
  have bn26:=u26.dk x25 (s25 _ _ bn24)
  have rn26:=u26.dk x25 (s25 _ _ rn24)
  have kp26:=u26.lst x25 (s25 _ _ kp24)
  have kq26:=u26.pair x25 (Ak s25 kq24)
  generalize upd H25 x (HO.ins C dx (Bk "knob_lines" (.ref D25) f24))=H26 at x26 c26 bl26 bp26 kr26 rl26 rp26 pp26 pq26 ln26 bn26 rn26 kp26 kq26 ⊢
  clear u26
  have R26:Rows H26 ρ us:=fun v hv=>c26.tup hx (hR v hv)
  refine ⟨_,rfl,p,_,"step",ρ,rfl,c26.lst hx hp,R26,by omega,fun D27 H27 hD27 s27 hl27=>?_⟩
  rw [O.none] at hl27
  have hS27:CK K H27 D27 []:=.inl (.inl hl27)
  refine ⟨D27,rfl,⟨_,hS27⟩,Bx (K:=K) (xs:=[]) (fun _=>true) id hS27 (Az (by simp)) (fun y hy=>nomatch hy) (fun y hy=>nomatch hy) (fun D28 H28 hD28 s28 hl28=>?_)⟩
  have s2628:=s27.trans s28
  have x28:=s2628 _ _ x26
  refine ⟨_,rfl,x,C,dx,_,rfl,x28,T.cl,T.n_step_sets,Nat.lt_of_le_of_lt (Bu _ _ _) (by omega),?_⟩
  have u29:SX x H28 _:=SX.up (o:=HO.ins C dx (Bk "step_sets" (.ref D28) (Bk "knob_lines" (.ref D25) f24)))
  have old:∀ {f:Str},¬ f = "step_sets"->¬ f = "knob_lines"->(Bk "step_sets" (.ref D28) (Bk "knob_lines" (.ref D25) f24)).lookup f=f24.lookup f:=fun h1 h2=>by rw [Ao,if_neg h1,Ao,if_neg h2]
  refine q _ ⟨⟨⟨dx,_,D5,D13,D21,D10,bvs,pvs,uk,kvs,Ag,(old (by decide +kernel) (by decide +kernel)).trans lb24,(old (by decide +kernel) (by decide +kernel)).trans lbn24,(old (by decide +kernel) (by decide +kernel)).trans lkp24,(old (by decide +kernel) (by decide +kernel)).trans lkr24,
   fun m hm=>(old (Dl m hm _ (by decide +kernel)) (Dl m hm _ (by decide +kernel))).trans (no24 m hm),u29.lst x28 (s2628 _ _ bl26),u29.pair x28 (Ak s2628 bp26),u29.dk x28 (s2628 _ _ bn26),fun i b hb=>hv13 i b.1 (by rw [List.getElem?_map,hb]; rfl),u29.lst x28 (s2628 _ _ kp26),u29.pair x28 (Ak s2628 kq26),u29.lst x28 (s2628 _ _ kr26),?_⟩,O.b5,O.sz,by have:=O.nk; omega⟩,⟨dx,_,D8,D16,D23,D25,rvs,qvs,kvs16,Ag,(old (by decide +kernel) (by decide +kernel)).trans lr24,(old (by decide +kernel) (by decide +kernel)).trans lrn24,(old (by decide +kernel) (by decide +kernel)).trans lpp24,(by rw [Ao,if_neg (by decide +kernel),Ao,if_pos rfl]),u29.lst x28 (s2628 _ _ rl26),u29.pair x28 (Ak s2628 rp26),u29.dk x28 (s2628 _ _ rn26),(fun i r hr=>hv16 i r.1 (by rw [List.getElem?_map,hr]; rfl)),u29.lst x28 (s2628 _ _ pp26),u29.pair x28 (Ak s2628 pq26),Mm (ln26.mono s2628) u29 x28⟩,O.nr,O.nz,?_⟩ ((c26.trans (SX.of s2628)).trans u29)
  case refine_2=>rw [Q0 O.ln,← ek,List.length_map,huk]
  rw [← ek]
  refine Bv (F:=fun (r:R) y=>TupAt _ r.v y) ρ ?_
  have R29:Rows _ ρ uk:=fun v hv=>u29.tup x28 ((R26.mono s2628) v (inKn hv))
  generalize upd H28 x _=H29 at R29 ⊢
  have key:∀ l:List V,(∀ v∈l,TupAt H29 (ρ v).v v)->Paired (fun v y=>TupAt H29 (ρ v).v y) l l:=by
   intro l
   induction l with
   | nil=>intro _; exact .nil
   | cons a b ih=>intro h; exact .cons (h a (List.mem_cons_self ..)) (ih fun v hv=>h v (List.mem_cons_of_mem _ hv))
  exact key uk R29
noncomputable def Xn (C:Addr):Sp:=fun vs H Q _=>∃ (x:Addr) (bs:List (Str × Nat)) (ks:List R),vs=[.ref x]/\DX C H x bs ks/\∀ D bvs H',H D=none->Aj H H'->H' D=some (.lst bvs)->Paired (fun b y=>TupAt H' (bV b) y) bs bvs->Q (.ref D) H'
theorem jH:Aw ["self"] ["self"] (Ab ZW):=⟨rfl,rfl,rfl,by decide +kernel,rfl,by decide +kernel,by decide +kernel⟩
include N T in
theorem WF:Ax P w K mg base Bf 1 fOb dOb ["self"] (Xn C):=by
 refine N.FOb.1.ok jH (fun vs H Q E h=>?_) (fun cdv A outer s H vs Q E hr h=>?_)
 ·obtain ⟨x,bs,ks,rfl,_⟩:=h
  rfl
 ·obtain ⟨x,bs,ks,rfl,O,q⟩:=h
  refine ⟨_,(Af (A_ (Dk Dq rfl T.list PyProof.Rows.boot_list (Aa (Ca (pv 0) rfl) Ac)))),?_⟩
  obtain ⟨⟨dx,fs,bl,bn,kp,kr,bvs,pvs,uvs,kvs,h1,l1,l2,l3,l4,lm,h2,h3,h4,h5,h6,h7,h8,h9⟩,ob5,osz,onk⟩:=id O
  exact ⟨_,rfl,x,C,dx,_,_,rfl,h1,T.cl,T.n_board_list,l1,bl,bvs,rfl,.inl (.inl (.inl h2)),fun l hl=>q l bvs _ hl (Av hl) Ag (Ak (Av hl) h3)⟩
noncomputable def Xz (C:Addr):Sp:=fun vs H Q _=>∃ (x:Addr) (bs:List (Str × Nat)) (ks:List R),vs=[.ref x]/\DX C H x bs ks/\Q (.int ((Ds bs).length:Nat)) H
theorem jF:Aw ["self"] ["self"] (Ab ZF):=⟨rfl,rfl,rfl,by decide +kernel,rfl,by decide +kernel,by decide +kernel⟩
include N T in
theorem WX:Ax P w K mg base Bf 1 fOc dOc ["self"] (Xz C):=by
 refine N.FOc.1.ok jF (fun vs H Q E h=>?_) (fun cdv A outer s H vs Q E hr h=>?_)
 ·obtain ⟨x,bs,ks,rfl,_⟩:=h
  rfl
 ·obtain ⟨x,bs,ks,rfl,O,q⟩:=h
  refine ⟨_,(Af (A_ (BX Bg rfl T.len PySem.boot_len (Aa (Ca (pv 0) rfl) Ac)))),?_⟩
  obtain ⟨⟨dx,fs,bl,bn,kp,kr,bvs,pvs,uvs,kvs,h1,l1,l2,l3,l4,lm,h2,h3,h4,h5,h6,h7,h8,h9⟩,ob5,osz,onk⟩:=id O
  refine ⟨_,rfl,x,C,dx,_,_,rfl,h1,T.cl,T.n_key_places,l3,kp,pvs,rfl,.inl (.inl (.inl h6)),?_⟩
  rw [← h7.length]
  exact q
noncomputable def Wg (C:Addr):Sp:=fun vs H Q _=>∃ (x:Addr) (bs:List (Str × Nat)) (ks:List R) (j:Nat) (b:Str × Nat) (n:Int),vs=[.ref x,.str b.1,.int n]/\DX C H x bs ks/\bs[j]? = some b/\∀ H',Aj H H'->Q (.int ((((bs.take j).map (·.2)).sum:Nat)+n)) H'
theorem jR:Aw ["self","board","number"] ["self","board","number"] (Ab ZR):=⟨rfl,rfl,rfl,by decide +kernel,rfl,by decide +kernel,by decide +kernel⟩
include N T in
theorem WY:Ax P w K mg base Bf 2 fOk dOk ["self","board","number"] (Wg C):=by
 have GCa:Ax P w K mg base Bf 1 fCa dCa ["things"] Xd:=WL N T
 refine N.FOk.1.ok jR (fun vs H Q E h=>?_) (fun cdv A outer s H vs Q E hr h=>?_)
 ·obtain ⟨x,bs,ks,j,b,n,rfl,_⟩:=h
  rfl
 ·obtain ⟨x,bs,ks,j,b,n,rfl,O,hb,q⟩:=h
  have hrCa:BV 1 _:=hr.mono (by decide)
  have hu:=Iw hr
  refine ⟨_,(Af (A_ (Ay Bo (Ah GCa hrCa rfl N.FCa.2.2 N.FCa.1.kp N.FCa.2.1 .nil Am (Aa (Ea Hd (Ca (pv 0) rfl) Es (Cw (Gn hu (Ca (pv 0) rfl) (pv 1) (fun _ _=>rfl)))) Ac)) (pv 2)))),?_⟩
  obtain ⟨⟨dx,fs,bl,bn,kp,kr,bvs,pvs,uvs,kvs,h1,l1,l2,l3,l4,lm,h2,h3,h4,h5,h6,h7,h8,h9⟩,ob5,osz,onk⟩:=id O
  have hj:j<bs.length:=(List.getElem?_eq_some_iff.mp hb).1
  have hl:=h3.length
  have g:=HY.k (k:=Sum.inr b.1) h4
  rw [h5 j b hb] at g
  refine ⟨_,rfl,x,C,dx,_,_,rfl,h1,T.cl,T.n_board_list,l1,_,rfl,x,C,dx,_,_,rfl,h1,T.cl,T.n_board_numbers,l2,_,rfl,bn,_,rfl,g,_,rfl,bl,bvs,rfl,.inl (.inl h2),fun p6 hp6=>?_⟩
  have s6:=Av (o:=HO.lst (Eg bvs none (some (j:Int)))) hp6
  have a6:upd H p6 (HO.lst (Eg bvs none (some (j:Int)))) p6=_:=Ag
  generalize upd H p6 (HO.lst (Eg bvs none (some (j:Int))))=H6 at s6 a6 ⊢
  rw [Gj bvs j (by omega)] at a6
  refine ⟨p6,(bs.take j).map Zg,bvs.take j,rfl,a6,Bv (F:=fun (a:Th) y=>TupAt H6 (tV a) y) Zg (Iz (Ak s6 h3) j),(by rw [List.length_map,List.length_take]; omega),(fun a ha=>by obtain ⟨b',hb',rfl⟩:=List.mem_map.mp ha; exact Nat.le_trans (osz b' (List.mem_of_mem_take hb')) (by show 61<=100; decide)),fun H7 s7=>?_⟩
  have e7:((bs.take j).map Zg).map (fun a=>a.2.1)=(bs.take j).map (·.2):=by
   rw [List.map_map]
   rfl
  rw [e7]
  exact ⟨_,rfl,_,_,rfl,rfl,q H7 (s6.trans s7)⟩
noncomputable def Xk (C:Addr):Sp:=fun vs H Q _=>∃ (x:Addr) (bs:List (Str × Nat)) (ks:List R) (i:Nat) (qd:Nat × Nat),vs=[.ref x,.int (i:Nat)]/\DX C H x bs ks/\(Ds bs)[i]? = some qd/\∀ y,TupAt H (qV qd) y->Q y H
theorem jP:Aw ["self","key"] ["self","key"] (Ab Y9):=⟨rfl,rfl,rfl,by decide +kernel,rfl,by decide +kernel,by decide +kernel⟩
include N T in
theorem Vz:Ax P w K mg base Bf 1 fOo dOo ["self","key"] (Xk C):=by
 refine N.FOo.1.ok jP (fun vs H Q E h=>?_) (fun cdv A outer s H vs Q E hr h=>?_)
 ·obtain ⟨x,bs,ks,i,qd,rfl,_⟩:=h
  rfl
 ·obtain ⟨x,bs,ks,i,qd,rfl,O,hq,q⟩:=h
  refine ⟨_,(Af (A_ (Ar El (Ca (pv 0) rfl) (pv 1) (fun _ _=>rfl)))),?_⟩
  obtain ⟨⟨dx,fs,bl,bn,kp,kr,bvs,pvs,uvs,kvs,h1,l1,l2,l3,l4,lm,h2,h3,h4,h5,h6,h7,h8,h9⟩,ob5,osz,onk⟩:=id O
  obtain ⟨y,hy,ht⟩:=Bw h7 hq
  exact ⟨_,rfl,x,C,dx,_,_,rfl,h1,T.cl,T.n_key_places,l3,_,rfl,kp,pvs,_,_,rfl,rfl,.inl (.inl h6),Ai hy,q y ht⟩
noncomputable def aX (C:Addr):Sp:=fun vs H Q _=>∃ (x:Addr) (bs:List (Str × Nat)) (ks:List R) (k j1 j2:Nat) (b1 b2:Str × Nat) (nm:Str) (s:Int),vs=[.ref x,.int (k:Nat)]/\DX C H x bs ks/\ks[k]? = some ⟨"coupler",nm,[.str b1.1,.str b2.1,.int s]⟩/\bs[j1]? = some b1/\bs[j2]? = some b2/\∀ y H',Aj H H'->TupAt H' [.int (j1:Nat),.int (j2:Nat),.int s] y->Q y H'
noncomputable def QL (C:Addr):Sp:=fun vs H Q _=>∃ (x:Addr) (bs:List (Str × Nat)) (ks:List R) (k j1:Nat) (b1:Str × Nat) (wd nm:Str) (rs:List V),vs=[.ref x,.int (k:Nat)]/\DX C H x bs ks/\ks[k]? = some ⟨wd,nm,.str b1.1::rs⟩/\bs[j1]? = some b1/\Q (.int (j1:Nat)) H
theorem iU:Aw ["self","knob"] ["self","knob"] (Ab Yk):=⟨rfl,rfl,rfl,by decide +kernel,rfl,by decide +kernel,by decide +kernel⟩
include N T in
theorem Tc:Ax P w K mg base Bf 1 fBk dBk ["self","knob"] (QL C):=by
 refine N.FBk.1.ok iU (fun vs H Q E h=>?_) (fun cdv A outer s H vs Q E hr h=>?_)
 ·obtain ⟨x,bs,ks,k,j1,b1,wd,nm,rs,rfl,_⟩:=h
  rfl
 ·obtain ⟨x,bs,ks,k,j1,b1,wd,nm,rs,rfl,O,hk,hb1,q⟩:=h
  have hu:=Iw hr
  refine ⟨_,(Af (A_ (Gn hu (Ca (pv 0) rfl) (Ar (Al (K:=K) rfl) (Ar El (Ca (pv 0) rfl) (pv 1) (fun _ _=>rfl)) Ad (fun _ _=>rfl)) (fun _ _=>rfl)))),?_⟩
  obtain ⟨⟨dx,fs,bl,bn,kp,kr,bvs,pvs,uvs,kvs,h1,l1,l2,l3,l4,lm,h2,h3,h4,h5,h6,h7,h8,h9⟩,ob5,osz,onk⟩:=id O
  obtain ⟨y,hy,T0,rfl,ht⟩:=Bw h9 hk
  have g1:=HY.k (k:=Sum.inr b1.1) h4
  rw [h5 j1 b1 hb1] at g1
  exact ⟨_,rfl,x,C,dx,_,_,rfl,h1,T.cl,T.n_board_numbers,l2,_,rfl,x,C,dx,_,_,rfl,h1,T.cl,T.n_knob_rows,l4,_,rfl,kr,uvs,_,_,rfl,rfl,.inl (.inl h8),Ai hy,T0,_,_,_,rfl,rfl,.inl (.inl ht),Ai (j:=2) rfl,bn,_,rfl,g1,q⟩
theorem eF:Aw ["self","knob","row"] ["self","knob"] (Ab ZQ):=⟨rfl,rfl,rfl,by decide +kernel,rfl,by decide +kernel,by decide +kernel⟩
include N T in
theorem cg:Ax P w K mg base Bf 2 fOp dOp ["self","knob"] (aX C):=by
 have GBk:Ax P w K mg base Bf 1 fBk dBk ["self","knob"] (QL C):=Tc N T
 refine N.FOp.1.ok eF (fun vs H Q E h=>?_) (fun cdv A outer s H vs Q E hr h=>?_)
 ·obtain ⟨x,bs,ks,k,j1,j2,b1,b2,nm,s0,rfl,_⟩:=h
  rfl
 ·obtain ⟨x,bs,ks,k,j1,j2,b1,b2,nm,s0,rfl,O,hk,hb1,hb2,q⟩:=h
  have hrBk:BV 1 _:=hr.mono (by decide)
  have hu:=Iw hr
  refine ⟨_,(Ae (BJ (i:=2) eF.nd rfl (Or.inl rfl) (Ar El (Ca (pv 0) rfl) (pv 1) (fun _ _=>rfl)))
   (Af (A_ (Cv (Aa (Dp (pv 0) T.cl N.FBk.2.2 GBk hrBk N.FBk.2.1 .nil Am (Aa (pv 1) Ac)) (Aa (Gn hu (Ca (pv 0) rfl) (Ar (Al (K:=K) rfl) (pv 2) Ad (fun _ _=>rfl)) (fun _ _=>rfl)) (Aa (Ar (Al (K:=K) rfl) (pv 2) Ad (fun _ _=>rfl)) Ac))))))),?_⟩
  obtain ⟨⟨dx,fs,bl,bn,kp,kr,bvs,pvs,uvs,kvs,h1,l1,l2,l3,l4,lm,h2,h3,h4,h5,h6,h7,h8,h9⟩,ob5,osz,onk⟩:=id O
  obtain ⟨y,hy,T0,rfl,ht⟩:=Bw h9 hk
  have g1:=HY.k (k:=Sum.inr b1.1) h4
  rw [h5 j1 b1 hb1] at g1
  have g2:=HY.k (k:=Sum.inr b2.1) h4
  rw [h5 j2 b2 hb2] at g2
  refine ⟨_,rfl,x,C,dx,_,_,rfl,h1,T.cl,T.n_knob_rows,l4,_,rfl,kr,uvs,_,_,rfl,rfl,.inl (.inl h8),Ai hy,?_⟩
  refine ⟨_,rfl,x,dx,fs,rfl,h1,lm _ (by decide +kernel),_,rfl,x,bs,ks,k,j1,b1,_,_,_,rfl,O,hk,hb1,?_⟩
  refine ⟨_,rfl,x,C,dx,_,_,rfl,h1,T.cl,T.n_board_numbers,l2,_,rfl,T0,_,_,_,rfl,rfl,.inl (.inl ht),Ai (j:=3) rfl,bn,_,rfl,g2,?_⟩
  exact ⟨_,rfl,T0,_,_,_,rfl,rfl,.inl (.inl ht),Ai (j:=4) rfl,by show 3<=sizeLine; decide,fun p hp=>q _ _ (Av hp) ⟨p,rfl,Ag⟩⟩
noncomputable def Zy (C:Addr):Sp:=fun vs H Q _=>∃ (x:Addr) (bs:List (Str × Nat)) (ks:List R) (k i j1 j2:Nat) (b1 b2:Str × Nat) (qd:Nat × Nat) (nm:Str) (s:Int),vs=[.ref x,.int (k:Nat),.int (i:Nat)]/\DX C H x bs ks/\(Ds bs)[i]? = some qd/\ks[k]? = some ⟨"coupler",nm,[.str b1.1,.str b2.1,.int s]⟩/\bs[j1]? = some b1/\bs[j2]? = some b2 /\
 ∀ H',Aj H H'->Q (Jw bs j1 j2 s qd b2.2) H'
theorem RW:Aw ["organ","knob","key","coupler","place","second","number"] ["organ","knob","key"] (Ab Yo):=⟨rfl,rfl,rfl,by decide +kernel,rfl,by decide +kernel,by decide +kernel⟩
include N T in
theorem fJ:Ax P w K mg base Bf 3 fLe dLe ["organ","knob","key"] (Zy C):=by
 have GOc:Ax P w K mg base Bf 1 fOc dOc ["self"] (Xz C):=WX N T
 have GOp:Ax P w K mg base Bf 2 fOp dOp ["self","knob"] (aX C):=cg N T
 have GOo:Ax P w K mg base Bf 1 fOo dOo ["self","key"] (Xk C):=Vz N T
 have GOb:Ax P w K mg base Bf 1 fOb dOb ["self"] (Xn C):=WF N T
 have GOk:Ax P w K mg base Bf 2 fOk dOk ["self","board","number"] (Wg C):=WY N T
 refine N.FLe.1.ok RW (fun vs H Q E h=>?_) (fun cdv A outer s H vs Q E hr h=>?_)
 ·obtain ⟨x,bs,ks,k,i,j1,j2,b1,b2,qd,nm,s0,rfl,_⟩:=h
  rfl
 ·obtain ⟨x,bs,ks,k,i,j1,j2,b1,b2,qd,nm,s0,rfl,O,hq,hk,hb1,hb2,q⟩:=h
  have hrOc:BV 1 _:=hr.mono (by decide)
  have hrOp:BV 2 _:=hr.mono (by decide)
  have hrOo:BV 1 _:=hr.mono (by decide)
  have hrOb:BV 1 _:=hr.mono (by decide)
  have hrOk:BV 2 _:=hr.mono (by decide)
  refine ⟨_,(Ae (CT (Dz (Fd Eh Gf Ad (pv 2) (Eo (pv 0) T.cl N.FOc.2.2 GOc hrOc N.FOc.2.1 .nil Am))) (Af (A_ HD)) Bj)
   (Ae (BJ (i:=3) RW.nd rfl (Or.inl rfl) (Dp (pv 0) T.cl N.FOp.2.2 GOp hrOp N.FOp.2.1 .nil Am (Aa (pv 1) Ac)))
   (Ae (BJ (i:=4) RW.nd rfl (Or.inl rfl) (Dp (pv 0) T.cl N.FOo.2.2 GOo hrOo N.FOo.2.1 .nil Am (Aa (pv 2) Ac)))
   (Ae (BJ (i:=5) RW.nd rfl (Or.inl rfl) (Ar (Bc (K:=K) rfl) (Eo (pv 0) T.cl N.FOb.2.2 GOb hrOb N.FOb.2.1 .nil Am) (Ar (Al (K:=K) rfl) (pv 3) Ad (fun _ _=>rfl)) (fun _ _=>rfl)))
   (Ae (BJ (i:=6) RW.nd rfl (Or.inl rfl) (Ay Bo (Ar (Al (K:=K) rfl) (pv 4) Ad (fun _ _=>rfl)) (Ar (Al (K:=K) rfl) (pv 3) Ad (fun _ _=>rfl))))
   (Ae (CT (PW.pt (JB (Ba G5 (Ar (Al (K:=K) rfl) (pv 4) Ad (fun _ _=>rfl)) (Ar (Al (K:=K) rfl) (pv 3) Ad (fun _ _=>rfl)) (Be _)) (HJ (Dz (Fd Eh Gf Ad (pv 6) (Ar (Al (K:=K) rfl) (pv 5) Ad (fun _ _=>rfl))))))) (Af (A_ HD)) Bj)
   (Af (A_ (Dp (pv 0) T.cl N.FOk.2.2 GOk hrOk N.FOk.2.1 .nil Am (Aa (Ar (Al (K:=K) rfl) (pv 5) Ad (fun _ _=>rfl)) (Aa (pv 6) Ac))))))))))),?_⟩
  have hi:i<(Ds bs).length:=(List.getElem?_eq_some_iff.mp hq).1
  have meth:∀ {H':Hp},DX C H' x bs ks->∃ dx fs,H' x=some (.ins C dx fs)/\∀ m∈meths,fs.lookup m=none:=fun O'=>by
   obtain ⟨⟨dx,fs,_,_,_,_,_,_,_,_,h1,_,_,_,_,lm,_⟩,_⟩:=O'
   exact ⟨dx,fs,h1,lm⟩
  obtain ⟨dx,fs,hx,lm⟩:=meth O
  refine ⟨_,rfl,_,_,rfl,rfl,_,rfl,?_⟩
  refine Df (fun _=>?_) (fun z=>absurd (decide_eq_true (by omega)) z)
  refine ⟨_,rfl,x,dx,fs,rfl,hx,lm _ (by decide +kernel),x,bs,ks,rfl,O,_,_,rfl,rfl,_,rfl,?_⟩
  rw [decide_eq_true (by omega:(i:Int)<((Ds bs).length:Nat))]
  refine Ck ?_
  refine ⟨_,rfl,x,dx,fs,rfl,hx,lm _ (by decide +kernel),_,rfl,x,bs,ks,k,j1,j2,b1,b2,nm,s0,rfl,O,hk,hb1,hb2,fun y1 H1 s1 hy1=>?_⟩
  have O1:=O.mono s1
  obtain ⟨dx1,fs1,hx1,lm1⟩:=meth O1
  refine ⟨_,rfl,x,dx1,fs1,rfl,hx1,lm1 _ (by decide +kernel),_,rfl,x,bs,ks,i,qd,rfl,O1,hq,fun y2 hy2=>?_⟩
  refine ⟨_,rfl,x,dx1,fs1,rfl,hx1,lm1 _ (by decide +kernel),x,bs,ks,rfl,O1,fun D bvs H2 hD s2 hl2 hb2'=>?_⟩
  obtain ⟨T1,rfl,ht1⟩:=hy1.mono s2
  obtain ⟨T2,rfl,ht2⟩:=hy2.mono s2
  obtain ⟨v3,hv3,T3,rfl,ht3⟩:=Bw hb2' hb2
  refine ⟨_,rfl,T1,_,_,_,rfl,rfl,.inl (.inl ht1),Ai (j:=1) rfl,D,bvs,_,_,rfl,rfl,.inl (.inl hl2),Ai hv3,?_⟩
  refine ⟨_,rfl,T2,_,_,_,rfl,rfl,.inl (.inl ht2),Ai (j:=1) rfl,_,rfl,T1,_,_,_,rfl,rfl,.inl (.inl ht1),Ai (j:=2) rfl,_,_,rfl,rfl,?_⟩
  refine ⟨_,rfl,T2,_,_,_,rfl,rfl,.inl (.inl ht2),Ai (j:=0) rfl,_,rfl,T1,_,_,_,rfl,rfl,.inl (.inl ht1),Ai (j:=0) rfl,rfl,_,rfl,?_⟩
  have fin:=q H2 (s1.trans s2)
  unfold Jw at fin
  by_cases e1:qd.1=j1
  ·have z:(!decide (V.int (qd.1:Nat)=V.int (j1:Nat)))=false:=by rw [e1]; simp
   rw [z]
   refine Ck ?_
   refine ⟨_,rfl,_,_,rfl,rfl,_,rfl,?_⟩
   refine Df (fun g1=>?_) (fun g1=>?_)
   ·refine ⟨_,rfl,T3,_,_,_,rfl,rfl,.inl (.inl ht3),Ai (j:=1) rfl,_,_,rfl,rfl,_,rfl,?_⟩
    have g1':0<=(qd.2:Int)+s0:=of_decide_eq_true g1
    by_cases g2:(qd.2:Int)+s0<(b2.2:Nat)
    ·have z2:decide ((qd.2:Int)+s0<(b2.2:Nat))=true:=decide_eq_true g2
     rw [z2]
     refine Ck ?_
     rw [if_pos ⟨e1,g1',g2⟩] at fin
     obtain ⟨dx2,fs2,hx2,lm2⟩:=meth (O1.mono s2)
     refine ⟨_,rfl,x,dx2,fs2,rfl,hx2,lm2 _ (by decide +kernel),_,rfl,T3,_,_,_,rfl,rfl,.inl (.inl ht3),Ai (j:=0) rfl,_,rfl,x,bs,ks,j2,b2,_,rfl,O1.mono s2,hb2,fun H3 s3=>?_⟩
     have fin3:=q H3 ((s1.trans s2).trans s3)
     unfold Jw at fin3
     rw [if_pos ⟨e1,g1',g2⟩] at fin3
     exact fin3
    ·have z2:decide ((qd.2:Int)+s0<(b2.2:Nat))=false:=decide_eq_false g2
     rw [z2]
     refine DN ?_
     rw [if_neg fun z=>g2 z.2.2] at fin
     exact fin
   ·refine ⟨_,rfl,?_⟩
    have g1':decide (0<=(qd.2:Int)+s0)=false:=(Bool.not_eq_true _).mp g1
    rw [if_neg fun z=>absurd (decide_eq_true z.2.1) g1] at fin
    exact DN fin
  ·have z:(!decide (V.int (qd.1:Nat)=V.int (j1:Nat)))=true:=by
    rw [decide_eq_false fun z=>e1 (by have:=V.int.inj z; omega)]
    rfl
   rw [z]
   refine DN ?_
   rw [if_neg fun z=>e1 z.1] at fin
   exact fin
noncomputable abbrev nV (l:List Nat):List V:=l.map fun n:Nat=>V.int (n:Int)
noncomputable def Zk:Sp:=fun vs H Q _=>∃ i:Int,vs=[.int i]/\Q (.bl (decide (0<=i) && decide (i<1200))) H
theorem jV:Aw ["thing"] ["thing"] (Ab Zf):=⟨rfl,rfl,rfl,by decide +kernel,rfl,by decide +kernel,by decide +kernel⟩
include N T in
theorem Z5:Ax P w K mg base Bf 2 fMy dMy ["thing"] Zk:=by
 have GWh:Ax P w K mg base Bf 1 fWh dWh ["thing"] Rc:=V0 N T
 refine N.FMy.1.ok jV (fun vs H Q E h=>?_) (fun cdv A outer s H vs Q E hr h=>?_)
 ·obtain ⟨i,rfl,_⟩:=h
  rfl
 ·obtain ⟨i,rfl,q⟩:=h
  have hrWh:BV 1 _:=hr.mono (by decide)
  obtain ⟨tMB,hMB⟩:=T.below
  refine ⟨_,(Af (A_ (Do (Ah GWh hrWh rfl N.FWh.2.2 N.FWh.1.kp N.FWh.2.1 .nil Am (Aa (pv 0) Ac)) (Dg (Hy Eh Gf Ad (pv 0) (Cy (v:=.int 1200) rfl hMB ⟨tMB,rfl⟩)))))),?_⟩
  refine ⟨_,rfl,i,rfl,_,rfl,DN ?_⟩
  refine ⟨_,rfl,_,_,rfl,rfl,_,rfl,?_⟩
  refine Df (fun h1=>?_) (fun h1=>?_)
  ·rw [h1,Bool.true_and] at q
   exact ⟨_,_,rfl,rfl,q⟩
  ·rw [(Bool.not_eq_true _).mp h1,Bool.false_and] at q
   exact q
noncomputable def Wf:Sp:=fun vs H Q _=>∃ (p:Addr) (l:List Nat),vs=[.ref p]/\H p=some (.lst (nV l))/\l.length<=500/\(∀ n∈l,n<1200)/\∀ H',Aj H H'->Q (.int (Wd.mk l:Nat)) H'
theorem Vu (l:List Nat) (n:Nat):Builtin.bitOr ((Wd.mk l:Nat):Int) (1 * 2 ^ ((n:Nat):Int).toNat)=((Wd.mk (l++[n]):Nat):Int):=by
 rw [Int.one_mul,Int.toNat_natCast,Ga,Ld,Wd.Uj]
theorem Uc:Aw ["numbers","some","number"] ["numbers"] (Ab Xm):=⟨rfl,rfl,rfl,by decide +kernel,rfl,by decide +kernel,by decide +kernel⟩
include N T in
theorem V6:Ax P w K mg base Bf 3 fSt dSt ["numbers"] Wf:=by
 have GMy:Ax P w K mg base Bf 2 fMy dMy ["thing"] Zk:=Z5 N T
 refine N.FSt.1.ok Uc (fun vs H Q E h=>?_) (fun cdv A outer s H vs Q E hr h=>?_)
 ·obtain ⟨p,l,rfl,_⟩:=h
  rfl
 ·obtain ⟨p,l,rfl,hp,hz,hb,q⟩:=h
  have hrMy:BV 2 _:=hr.mono (by decide)
  refine ⟨_,(Ae (CT (PW.pt (JB (Dz (FW (BX Dc rfl T.isin PyProof.Rows.boot_isinstance (Aa (pv 0) (Aa (Ei (v:=.ty "list") rfl T.list PyProof.Rows.boot_list rfl) Ac))))) (HJ (Dz (FW (BX (Jd rfl) rfl T.all PyProof.Rows.boot_all (Aa (Bp rfl (BW (osc:=Ab Xm) (N:=["numbers","some","number"]) rfl rfl (by decide +kernel)) (Bd (pv 0)) (fun _ _ _ _=>CP) (fun _ _ _ _=>(Ah GMy hrMy rfl N.FMy.2.2 N.FMy.1.kp N.FMy.2.1 .nil Am (Aa (pv 0) Ac)))) Ac))))))) (Af Gh) Bj)
   (Ae (BJ (i:=1) Uc.nd rfl (Or.inl rfl) Ad)
   (Ae (Ci PassesOwn.never rfl (Bd (pv 0)) (Bb (i:=2) Uc.nd rfl (Or.inl rfl)) (Af (BJ (i:=1) Uc.nd rfl (Or.inl rfl) (Ay Ox (pv 1) (Ay Ob Ad (pv 2))))))
   (Af (A_ (pv 1)))))),?_⟩
  have hS:CK K H p (nV l):=.inl (.inl hp)
  refine ⟨_,rfl,_,"list",_,_,rfl,.lst hp,Vy,_,rfl,Ck ?_⟩
  have hzl:(nV l).length<sizeLine:=Az (by simp; omega)
  refine ⟨_,rfl,p,rfl,⟨_,hS⟩,Bx (K:=K) (xs:=nV l) (fun _=>true) (fun _=>.bl true) hS hzl (fun x hx H' hs R k=>k H' (Aj.refl H')) (fun x hx _ H' hs R k=>?_) (fun D H' hD hs hl=>?_)⟩
  ·obtain ⟨n,hn,rfl⟩:=List.mem_map.mp hx
   refine ⟨_,rfl,(n:Int),rfl,?_⟩
   have e:(decide ((0:Int)<=(n:Int)) && decide ((n:Int)<1200))=true:=by
    have:=hb n hn
    simp
    omega
   rw [e]
   exact k H' (Aj.refl H')
  ·refine ⟨D,(nV l).map fun _=>true,rfl,.inl (.inl ?_),?_⟩
   ·rw [hl,List.filter_eq_self.mpr (fun _ _=>rfl)]
    simp
   ·have e:((nV l).map fun _=>true).all id=true:=by simp
    rw [e]
    refine ⟨_,rfl,Ck ?_⟩
    refine ⟨_,rfl,p,rfl,⟨_,hs.seq hS⟩,Cp (K:=K) (a:=p) (xs:=nV l) (fun i σ H4=>H4=H'/\∃ v2,σ=[some (.ref p),some (.int (Wd.mk (l.take i):Nat)),v2]) ⟨rfl,_,rfl⟩ (fun i σ H4 _ h=>by rw [h.1]; exact hs.seq hS) ?_ ?_⟩
    ·rintro i y σ H4 hi ⟨rfl,v2,rfl⟩
     rw [List.getElem?_map] at hi
     obtain ⟨n,hn,rfl⟩:=Option.map_eq_some_iff.mp hi
     have hn':=hb n (List.mem_of_getElem? hn)
     refine ⟨_,rfl,_,rfl,_,_,rfl,rfl,⟨by omega,by omega,by decide⟩,_,_,rfl,rfl,?_⟩
     refine ⟨rfl,some (.int (n:Int)),?_⟩
     dsimp only
     rw [Vu,List.take_add_one,hn]
     rfl
    ·rintro σ H4 ⟨rfl,v2,rfl⟩
     have el:l.take (nV l).length=l:=List.take_of_length_le (by simp)
     rw [el]
     exact ⟨_,rfl,q _ hs⟩
noncomputable def Vf:Sp:=fun vs H Q _=>∃ (n:Nat) (i:Int),vs=[.int n,.int i]/\Q (.bl (decide (0<=i) && n.testBit i.toNat)) H
theorem Ye (n:Nat) (i:Int):decide (V.int (Builtin.bitAnd ((n:Int) / 2 ^ i.toNat) 1)=V.int 1)=n.testBit i.toNat:=by
 rw [Ga,show (1:Int)=((1:Nat):Int) from rfl,← Int.natCast_ediv,MK,Bool.eq_iff_iff]
 rw [Nat.testBit_eq_decide_div_mod_eq,Nat.and_one_is_mod]
 simp only [decide_eq_true_eq,V.int.injEq]
 exact Int.ofNat_inj
theorem jc:Aw ["some","number"] ["some","number"] (Ab Ze):=⟨rfl,rfl,rfl,by decide +kernel,rfl,by decide +kernel,by decide +kernel⟩
include N T in
theorem Rp:Ax P w K mg base Bf 1 fHa dHa ["some","number"] Vf:=by
 refine N.FHa.1.ok jc (fun vs H Q E h=>?_) (fun cdv A outer s H vs Q E hr h=>?_)
 ·obtain ⟨n,i,rfl,_⟩:=h
  rfl
 ·obtain ⟨n,i,rfl,q⟩:=h
  refine ⟨_,(Af (A_ (Do (Hy Eh Gf Ad (pv 1) (S_ PySem.F.plainAttrs_int PySem.F.slot_int_bit_length PySem.F.type_int_bit_length Mh (pv 0))) (Dg (Et Dj (Ay RL (Ay R4 (pv 0) (pv 1)) Ad) Ad (Be _)))))),?_⟩
  refine ⟨_,rfl,_,_,rfl,rfl,_,rfl,?_⟩
  refine Df (fun h1=>?_) (fun h1=>?_)
  ·have hi:0<=i:=of_decide_eq_true h1
   refine ⟨_,rfl,rfl,(n:Int),rfl,rfl,_,_,rfl,rfl,_,rfl,?_⟩
   rw [Ip]
   refine Df (fun h2=>?_) (fun h2=>?_)
   ·refine ⟨_,rfl,_,rfl,_,_,rfl,rfl,hi,_,_,rfl,rfl,rfl,?_⟩
    dsimp only
    rw [Ye]
    rw [h1,Bool.true_and] at q
    exact q
   ·have e:n.testBit i.toNat=false:=by
     cases hb:n.testBit i.toNat with
     | false=>rfl
     | true =>
      have:=Wd.TV hb
      exact absurd (decide_eq_true (by omega:i<(Wd.len n:Int))) h2
    rw [e,Bool.and_false] at q
    exact q
  ·rw [(Bool.not_eq_true _).mp h1,Bool.false_and] at q
   exact ⟨_,rfl,Ck q⟩
noncomputable def YM:Sp:=fun vs H Q _=>∃ n:Nat,vs=[.int n]/\n<2 ^ 1200/\∀ p H',H p=none->Aj H H'->H' p=some (.lst (nV (Wd.mem n)))->Q (.ref p) H'
theorem Sq (n:Nat):((((List.range (Wd.len n)).map fun (i:Nat)=>(0:Int)+(i:Int)).filter fun i=>decide (0<=i) && n.testBit i.toNat).map fun i=>V.int i)=nV (Wd.mem n):=by
 unfold Wd.mem
 rw [List.filter_map,List.map_map]
 have e:((fun i:Int=>decide (0<=i) && n.testBit i.toNat) ∘ fun (i:Nat)=>(0:Int)+(i:Int))=n.testBit:=by
  funext i
  show (decide (0<=(0:Int)+(i:Int)) && n.testBit ((0:Int)+(i:Int)).toNat)=n.testBit i
  have h1:(0:Int)<=0+(i:Int):=by omega
  have h2:((0:Int)+(i:Int)).toNat=i:=by omega
  rw [decide_eq_true h1,h2,Bool.true_and]
 rw [e]
 refine List.map_congr_left fun i _=>?_
 show V.int ((0:Int)+(i:Int))=V.int (i:Int)
 rw [Int.zero_add]
theorem iy:Aw ["some"] ["some"] (Ab XH):=⟨rfl,rfl,rfl,by decide +kernel,rfl,by decide +kernel,by decide +kernel⟩
include N T in
theorem V1:Ax P w K mg base Bf 2 fMe dMe ["some"] YM:=by
 have GHa:Ax P w K mg base Bf 1 fHa dHa ["some","number"] Vf:=Rp N T
 refine N.FMe.1.ok iy (fun vs H Q E h=>?_) (fun cdv A outer s H vs Q E hr h=>?_)
 ·obtain ⟨n,rfl,_⟩:=h
  rfl
 ·obtain ⟨n,rfl,hn,q⟩:=h
  have hrHa:BV 1 _:=hr.mono (by decide)
  refine ⟨_,(Af (A_ (Bp rfl (BW (osc:=Ab XH) (N:=["some"]) rfl rfl (by decide +kernel)) (Cj rfl T.range (Aa (S_ PySem.F.plainAttrs_int PySem.F.slot_int_bit_length PySem.F.type_int_bit_length Mh (pv 0)) Ac)) (fun _ _ _ _=>(Ef (FW (Ah GHa hrHa rfl N.FHa.2.2 N.FHa.1.kp N.FHa.2.1 .nil Am (Aa (pv 1) (Aa (pv 0) Ac)))))) (fun _ _ _ _=>(pv 0))))),?_⟩
  have hlen:Wd.len n<=1200:=Wd.Le hn
  refine ⟨_,rfl,rfl,(n:Int),rfl,rfl,?_⟩
  rw [Ip]
  refine ⟨_,rfl,by omega,by omega,?_⟩
  rw [Int.toNat_natCast]
  refine Dy (lo:=0) (n:=Wd.len n) (fun i=>decide (0<=i) && n.testBit i.toNat) (fun i=>.int i) (Nat.lt_of_le_of_lt hlen (by decide)) (fun i hi H' hs R k=>?_) (fun i hi _ H' hs R k=>⟨_,rfl,k H' (Aj.refl H')⟩) (fun D H' hD hs hl=>?_)
  ·exact ⟨_,rfl,_,rfl,n,_,rfl,_,rfl,k H' (Aj.refl H')⟩
  ·rw [Sq] at hl
   exact q D H' hD hs hl
noncomputable def U5:Sp:=fun vs H Q _=>∃ (n:Nat) (k:Int) (c:Nat),vs=[.int n,.int k,.int c]/\n<2 ^ 1200 /\ -1200<=k/\k<=1200/\c<=1200/\Q (.int (Wd.mv n k c:Nat)) H
theorem QF (m c:Nat):Builtin.bitAnd (m:Int) (1 * 2 ^ ((if (0:Int) > (c:Int) then (0:Int) else (c:Int))).toNat - 1)=((m % 2 ^ c:Nat):Int):=by
 have h:¬ (0:Int) > (c:Int):=by omega
 rw [if_neg h,Int.one_mul,Int.toNat_natCast,Ga]
 have hp:1<=2 ^ c:=Nat.one_le_two_pow
 have e:((2 ^ c:Nat):Int) - 1=((2 ^ c - 1:Nat):Int):=by omega
 rw [e,MK,Nat.and_two_pow_sub_one_eq_mod]
theorem cO:Aw ["some","steps","count","moved"] ["some","steps","count"] (Ab Yn):=⟨rfl,rfl,rfl,by decide +kernel,rfl,by decide +kernel,by decide +kernel⟩
include N T in
theorem Rw:Ax P w K mg base Bf 1 fSh dSh ["some","steps","count"] U5:=by
 refine N.FSh.1.ok cO (fun vs H Q E h=>?_) (fun cdv A outer s H vs Q E hr h=>?_)
 ·obtain ⟨n,k,c,rfl,_⟩:=h
  rfl
 ·obtain ⟨n,k,c,rfl,hn,k1,k2,hc,q⟩:=h
  refine ⟨_,(Ae (BJ (i:=3) cO.nd rfl (Or.inl rfl) (Tf (Ba aH (pv 1) Ad (Be _)) (Ay VD (pv 0) (pv 1)) (Ay R4 (pv 0) (Mq Ji (pv 1)))))
   (Af (A_ (Ay RL (pv 3) (Ay Dw (Ay Ob Ad (BX (QR rfl) rfl T.max PyProof.Rows.boot_max (Aa (pv 2) (Aa Ad Ac)))) Ad))))),?_⟩
  have hlen:Wd.len n<=1200:=Wd.Le hn
  have p1:(2:Int) ^ 27=134217728:=by decide
  refine ⟨_,rfl,_,_,rfl,rfl,_,rfl,?_⟩
  refine Df (fun h1=>?_) (fun h1=>?_)
  ·have hk:0<k:=of_decide_eq_true h1
   refine ⟨_,rfl,_,rfl,_,_,rfl,rfl,⟨by omega,by rw [Ip,p1]; omega⟩,?_⟩
   refine ⟨_,rfl,_,rfl,_,_,rfl,⟨_,_,rfl,rfl,⟨by split <;> omega,by split <;> omega,by decide⟩,_,_,rfl,rfl,_,_,rfl,rfl,?_⟩⟩
   dsimp only
   have e:((n:Int) * 2 ^ k.toNat)=((n * 2 ^ k.toNat:Nat):Int):=by rw [Ga]; simp
   rw [e,QF]
   unfold Wd.mv at q
   rw [if_pos hk] at q
   exact q
  ·have hk:¬ 0<k:=fun z=>h1 (decide_eq_true z)
   refine ⟨_,rfl,_,rfl,_,rfl,_,_,rfl,rfl,by omega,?_⟩
   refine ⟨_,rfl,_,rfl,_,_,rfl,⟨_,_,rfl,rfl,⟨by split <;> omega,by split <;> omega,by decide⟩,_,_,rfl,rfl,_,_,rfl,rfl,?_⟩⟩
   dsimp only
   have e:((n:Int) / 2 ^ (-k).toNat)=((n / 2 ^ (-k).toNat:Nat):Int):=by rw [Ga]; simp
   rw [e,QF]
   unfold Wd.mv at q
   rw [if_neg hk] at q
   exact q
noncomputable def Z4 (C:Addr):Sp:=fun vs H Q _=>∃ (x:Addr) (bs:List (Str × Nat)) (ks:List R),vs=[.ref x]/\DX C H x bs ks/\∀ D ys H',H D=none->Aj H H'->H' D=some (.lst ys)->Paired (fun (r:R) y=>TupAt H' [.str r.w,.str r.nm] y) ks ys->Q (.ref D) H'
theorem jC:Aw ["self"] ["self"] (Ab XJ):=⟨rfl,rfl,rfl,by decide +kernel,rfl,by decide +kernel,by decide +kernel⟩
include N T in
theorem ao:Ax P w K mg base Bf 1 fOz dOz ["self"] (Z4 C):=by
 refine N.FOz.1.ok jC (fun vs H Q E h=>?_) (fun cdv A outer s H vs Q E hr h=>?_)
 ·obtain ⟨x,bs,ks,rfl,_⟩:=h
  rfl
 ·obtain ⟨x,bs,ks,rfl,O,q⟩:=h
  refine ⟨_,(Af (A_ (Bp rfl (BW (osc:=Ab XJ) (N:=["self"]) rfl rfl (by decide +kernel)) (Bd (Ca (pv 0) rfl)) (fun _ _ _ _=>CP) (fun _ _ _ _=>(Cv (Aa (Ar (Al (K:=K) rfl) (pv 0) Ad (fun _ _=>rfl)) (Aa (Ar (Al (K:=K) rfl) (pv 0) Ad (fun _ _=>rfl)) Ac))))))),?_⟩
  obtain ⟨⟨dx,fs,bl,bn,kp,kr,bvs,pvs,uvs,kvs,h1,l1,l2,l3,l4,lm,h2,h3,h4,h5,h6,h7,h8,h9⟩,ob5,osz,onk⟩:=id O
  have hS:CK K H kr uvs:=.inl (.inl h8)
  have hul:=h9.length
  refine ⟨_,rfl,x,C,dx,_,_,rfl,h1,T.cl,T.n_knob_rows,l4,kr,rfl,⟨_,hS⟩,Jz (K:=K) (xs:=uvs) (fun _=>true) (fun v=>[.str (UT H v).w,.str (UT H v).nm]) hS (Az (by omega)) (fun y hy H' hs R k=>k H' (Aj.refl H')) (fun y hy _ H' hs R k=>?_) (fun D H' ys hD hs hl hv=>?_)⟩
  ·obtain ⟨r,_,hr0⟩:=Cm h9 hy
   have e:=Ov hr0
   rw [e] at k
   obtain ⟨T0,rfl,hT⟩:=hr0.mono hs
   exact ⟨_,rfl,T0,_,_,_,rfl,rfl,.inl (.inl hT),Ai (j:=0) rfl,_,rfl,T0,_,_,_,rfl,rfl,.inl (.inl hT),Ai (j:=1) rfl,by show 2<=sizeLine; decide,fun T6 hT6=>k _ _ (Av hT6) ⟨T6,rfl,Ag⟩⟩
  ·rw [List.filter_eq_self.mpr (fun _ _=>rfl)] at hv
   have h:=Bv (F:=fun (r:R) y=>TupAt H' [.str r.w,.str r.nm] y) (UT H) hv
   rw [Oz h9] at h
   exact q D ys H' hD hs hl h
noncomputable def Uy (C:Addr):Sp:=fun vs H Q _=>∃ (x:Addr) (bs:List (Str × Nat)) (ks:List R) (wd:Str) (D:Nat),vs=[.ref x,.int (D:Nat),.str wd]/\DX C H x bs ks/\∀ L (cl:List Nat) H',H L=none->Aj H H'->H' L=some (.lst (nV cl))->(∀ k,k∈cl ↔ ∃ r,ks[k]? = some r/\r.w=wd/\D.testBit k=true)->cl.length<=200->Q (.ref L) H'
theorem aO:Aw ["organ","knobs","word","words"] ["organ","knobs","word"] (Ab WW):=⟨rfl,rfl,rfl,by decide +kernel,rfl,by decide +kernel,by decide +kernel⟩
include N T in
theorem Tq:Ax P w K mg base Bf 2 fDc dDc ["organ","knobs","word"] (Uy C):=by
 have GOz:Ax P w K mg base Bf 1 fOz dOz ["self"] (Z4 C):=ao N T
 have GHa:Ax P w K mg base Bf 1 fHa dHa ["some","number"] Vf:=Rp N T
 refine N.FDc.1.ok aO (fun vs H Q E h=>?_) (fun cdv A outer s H vs Q E hr h=>?_)
 ·obtain ⟨x,bs,ks,wd,D,rfl,_⟩:=h
  rfl
 ·obtain ⟨x,bs,ks,wd,D,rfl,O,q⟩:=h
  have hrOz:BV 1 _:=hr.mono (by decide)
  have hrHa:BV 1 _:=hr.mono (by decide)
  refine ⟨_,(Ae (Gv (i:=3) aO.nd rfl rfl rfl (BW (osc:=Ab WW) (N:=["organ","knobs","word","words"]) rfl rfl (by decide +kernel)) (Bd (Eo (pv 0) T.cl N.FOz.2.2 GOz hrOz N.FOz.2.1 .nil Am)) (fun _ _ _ _=>CP) (fun _ _ _ _=>(Ar (Al (K:=K) rfl) (pv 0) Ad (fun _ _=>rfl))))
   (Af (A_ (PN rfl (Jk (osc:=Ab WW) (N:=["organ","knobs","word","words"]) rfl rfl (by decide +kernel)) (JN rfl T.enumerate (Aa (pv 3) Ac)) (fun _ _ _ _=>Ef (PW.pt (Ia (Ba Dj (pv 1) (pv 4) (Be _)) (Hx (FW (Ah GHa hrHa rfl N.FHa.2.2 N.FHa.1.kp N.FHa.2.1 .nil Am (Aa (pv 3) (Aa (pv 0) Ac)))))))) (fun _ _ _ _=>(pv 0)))))),?_⟩
  obtain ⟨⟨dx,fs,bl,bn,kp,kr,bvs,pvs,uvs,kvs,h1,l1,l2,l3,l4,lm,h2,h3,h4,h5,h6,h7,h8,h9⟩,ob5,osz,onk⟩:=id O
  refine ⟨_,rfl,x,dx,fs,rfl,h1,lm _ (by decide +kernel),x,_,_,rfl,O,fun D1 ys H1 hD1 s1 hl1 hv1=>?_⟩
  have hS1:CK K H1 D1 ys:=.inl (.inl hl1)
  have hyl:=hv1.length
  refine ⟨D1,rfl,⟨_,hS1⟩,Bx (K:=K) (xs:=ys) (fun _=>true) (Jo H1 0) hS1 (Az (by omega)) (fun y hy H' hs R k=>k H' (Aj.refl H')) (fun y hy _ H' hs R k=>?_) (fun D2 H2 hD2 s2 hl2=>?_)⟩
  ·obtain ⟨r,_,hr0⟩:=Cm hv1 hy
   have e:=Ft hr0 0
   obtain ⟨T0,rfl,hT⟩:=hr0.mono hs
   have kk:=k H' (Aj.refl H')
   rw [e] at kk
   exact ⟨_,rfl,T0,_,_,_,rfl,rfl,.inl (.inl hT),Ai (j:=0) rfl,kk⟩
  rw [List.filter_eq_self.mpr (fun _ _=>rfl),JR 0 hv1] at hl2
  have e2:(ks.map fun r=>([V.str r.w,V.str r.nm]:List V).getD 0 .non)=ks.map fun r=>V.str r.w:=rfl
  rw [e2] at hl2
  have hS2:CK K H2 D2 (ks.map fun r=>V.str r.w):=.inl (.inl hl2)
  refine ⟨_,rfl,D2,rfl,⟨_,hS2⟩,Qx (K:=K) (xs:=ks.map fun r=>V.str r.w) (fun i v=>decide (v=.str wd) && D.testBit i) (fun i _=>.int (i:Nat)) hS2 (Az (by rw [List.length_map]; omega)) (fun i v hv H' hs R k=>?_) (fun i v hv _ H' hs R k=>⟨_,rfl,k H' (Aj.refl H')⟩) (fun D3 H3 hD3 s3 hl3=>?_)⟩
  ·rw [List.getElem?_map] at hv
   obtain ⟨z,hz,rfl⟩:=Option.map_eq_some_iff.mp hv
   have kk:=k H' (Aj.refl H')
   refine ⟨_,rfl,_,rfl,rfl,_,rfl,?_⟩
   refine Df (fun g=>?_) (fun g=>?_)
   ·rw [g,Bool.true_and] at kk
    refine ⟨_,rfl,_,rfl,D,_,rfl,_,rfl,?_⟩
    rw [decide_eq_true (by omega:(0:Int)<=(i:Nat)),Bool.true_and,Int.toNat_natCast]
    exact kk
   ·rw [(Bool.not_eq_true _).mp g,Bool.false_and] at kk
    exact kk
  ·refine q D3 (((ks.map fun r=>V.str r.w).zipIdx.filter fun p=>decide (p.1=V.str wd) && D.testBit p.2).map (·.2)) H3 ((s1.trans s2).free hD3) ((s1.trans s2).trans s3) ?_ (fun k=>?_) ?_
   ·rw [hl3]
    refine congrArg (fun l=>some (HO.lst l)) ?_
    unfold nV
    rw [List.map_map]
    rfl
   ·constructor
    ·intro hk
     obtain ⟨⟨v,k'⟩,hm,rfl⟩:=List.mem_map.mp hk
     obtain ⟨h1,h2⟩:=List.mem_filter.mp hm
     have h3:=List.mem_zipIdx' h1
     rw [List.getElem_map] at h3
     obtain ⟨hlt,h3⟩:=h3
     rw [Bool.and_eq_true] at h2
     have hlt':k'<ks.length:=by simpa using hlt
     refine ⟨ks[k'],List.getElem?_eq_getElem hlt',?_,h2.2⟩
     have:=h2.1
     rw [h3] at this
     exact V.str.inj (of_decide_eq_true this)
    ·rintro ⟨z,hz,hc,hd⟩
     refine List.mem_map.mpr ⟨(V.str z.w,k),List.mem_filter.mpr ⟨?_,?_⟩,rfl⟩
     ·rw [List.mem_zipIdx_iff_getElem?,List.getElem?_map,hz]
      rfl
     ·show (decide (V.str z.w=V.str wd) && D.testBit k)=true
      rw [hc,hd,decide_eq_true rfl]
      rfl
   ·rw [List.length_map]
    refine Nat.le_trans (List.length_filter_le _ _) ?_
    rw [List.length_zipIdx,List.length_map]
    omega
noncomputable def XN (C:Addr):Sp:=fun vs H Q _=>∃ (x:Addr) (bs:List (Str × Nat)) (ks:List R) (n:Nat),vs=[.ref x,.int (n:Nat)]/\DX C H x bs ks/\n<2 ^ 1200/\Q (.int (Wd.mv n 0 (bs.map (·.2)).sum:Nat)) H
theorem Ex {C:Addr} {H:Hp} {x:Addr} {bs:List (Str × Nat)} {ks:List R} (O:DX C H x bs ks):(bs.map (·.2)).sum<=305:=by
 have h:=Kv bs 61 O.sz
 rw [Dm] at h
 have:=O.nb
 have:bs.length * 61<=5 * 61:=Nat.mul_le_mul_right _ this
 omega
theorem jG:Aw ["organ","held"] ["organ","held"] (Ab Yu):=⟨rfl,rfl,rfl,by decide +kernel,rfl,by decide +kernel,by decide +kernel⟩
include N T in
theorem V7:Ax P w K mg base Bf 2 fHk dHk ["organ","held"] (XN C):=by
 have GSh:Ax P w K mg base Bf 1 fSh dSh ["some","steps","count"] U5:=Rw N T
 have GOc:Ax P w K mg base Bf 1 fOc dOc ["self"] (Xz C):=WX N T
 refine N.FHk.1.ok jG (fun vs H Q E h=>?_) (fun cdv A outer s H vs Q E hr h=>?_)
 ·obtain ⟨x,bs,ks,n,rfl,_⟩:=h
  rfl
 ·obtain ⟨x,bs,ks,n,rfl,O,hn,q⟩:=h
  have hrSh:BV 1 _:=hr.mono (by decide)
  have hrOc:BV 1 _:=hr.mono (by decide)
  refine ⟨_,(Af (A_ (Ah GSh hrSh rfl N.FSh.2.2 N.FSh.1.kp N.FSh.2.1 .nil Am (Aa (pv 1) (Aa Ad (Aa (Eo (pv 0) T.cl N.FOc.2.2 GOc hrOc N.FOc.2.1 .nil Am) Ac)))))),?_⟩
  obtain ⟨⟨dx,fs,bl,bn,kp,kr,bvs,pvs,uvs,kvs,h1,l1,l2,l3,l4,lm,_⟩,_⟩:=id O
  have h305:=Ex O
  refine ⟨_,rfl,_,rfl,x,dx,fs,rfl,h1,lm _ (by decide +kernel),x,bs,ks,rfl,O,n,0,(Ds bs).length,rfl,hn,by decide,by decide,by rw [Dm]; omega,?_⟩
  rw [Dm]
  exact q
theorem K9 {n:Nat} (h:n<=3000):n<sizeLine:=Nat.lt_of_le_of_lt h (by decide)
theorem Mr {i:Nat} {v:V} {σ:St} {H:Hp} {Q:St->Hp->Prop}:Cz i v σ H Q=Q (σ.set i (some v)) H:=rfl
theorem Lz {c:TT} {tb u:TS} {D:Ends} {r:VK} {b k:St->Hp->Prop} {σ:St} {H:Hp} (h:LQ c tb { D with nx:=u D } σ H):({ nx:=fC (LQ c tb) u D,rt:=r,bk:=b,ct:=k }:Ends).nx σ H:=h
noncomputable def Lk:Option HO->Nat
 | some (.lst xs)=>xs.length
 | _=>0
noncomputable def YJ:Option HO->Nat
 | some (.dK kvs)=>kvs.length
 | _=>0
noncomputable abbrev kI (j:Nat):Key:=Sum.inl ((j:Nat):Int)
theorem S8 {kvs:List (Key × V)} {js:List Nat} (h:kvs.map (·.1)=js.map kI) (j:Nat):(Dh kvs (kI j)).isSome=decide (j∈js):=by
 rw [← Fe]
 rw [Bool.eq_iff_iff,List.any_eq_true,decide_eq_true_eq]
 constructor
 ·rintro ⟨p,hp,e⟩
  have:p.1∈js.map kI:=by rw [← h]; exact List.mem_map_of_mem hp
  obtain ⟨j',hj',e'⟩:=List.mem_map.mp this
  have e2:kI j'=kI j:=e'.trans (of_decide_eq_true e)
  have:((j':Nat):Int)=(j:Nat):=Sum.inl.inj e2
  have:j'=j:=by omega
  subst this
  exact hj'
 ·intro hj
  have:kI j∈kvs.map (·.1):=by rw [h]; exact List.mem_map_of_mem hj
  obtain ⟨p,hp,e⟩:=List.mem_map.mp this
  exact ⟨p,hp,decide_eq_true e⟩
noncomputable def Mp (H:Hp) (bs:List (Str × Nat)) (kbs:List Kb) (D n:Nat) (kvs:List (Key × V)) (js:List Nat):Prop:=∀ (m j:Nat),js[m]? = some j->∃ (k i:Nat) (T:Addr) (z:Kb),Dh kvs (kI j)=some (.ref T)/\H T=some (.tup [V.int (k:Nat),V.int (i:Nat)])/\D.testBit k=true/\kbs[k]? = some z/\gl bs z i=some j/\(n.testBit i=true \/ i∈js.take m)
theorem Mp.jh {H H':Hp} {bs:List (Str × Nat)} {kbs:List Kb} {D n:Nat} {kvs:List (Key × V)} {js:List Nat} (h:Mp H bs kbs D n kvs js) (hs:∀ T xs,H T=some (.tup xs)->H' T=some (.tup xs)):Mp H' bs kbs D n kvs js:=fun m j hm=>by
 obtain ⟨k,i,T,z,h1,h2,h3⟩:=h m j hm
 exact ⟨k,i,T,z,h1,hs _ _ h2,h3⟩
theorem Mp.mono {H H':Hp} {bs:List (Str × Nat)} {kbs:List Kb} {D n:Nat} {kvs:List (Key × V)} {js:List Nat} (h:Mp H bs kbs D n kvs js) (s:Aj H H'):Mp H' bs kbs D n kvs js:=h.jh fun T xs e=>s _ _ e
theorem Mp.upd {H:Hp} {bs:List (Str × Nat)} {kbs:List Kb} {D n:Nat} {kvs:List (Key × V)} {js:List Nat} {A:Addr} {o u:HO} (h:Mp H bs kbs D n kvs js) (ha:H A=some u) (hu:∀ xs,u ≠ .tup xs):Mp (L2.upd H A o) bs kbs D n kvs js:=h.jh fun T xs e=>by
 rw [BP (fun z=>by rw [z,ha] at e; exact hu xs (Option.some.inj e))]
 exact e
theorem Mp.snoc {H:Hp} {bs:List (Str × Nat)} {kbs:List Kb} {D n:Nat} {kvs:List (Key × V)} {js:List Nat} {k i0 j:Nat} {T:Addr} {z:Kb} (h:Mp H bs kbs D n kvs js) (nv:Dh kvs (kI j)=none) (hT:H T=some (.tup [V.int (k:Nat),V.int (i0:Nat)])) (hk:D.testBit k=true) (hz:kbs[k]? = some z) (hg:gl bs z i0=some j) (hi:n.testBit i0=true \/ i0∈js) :
  Mp H bs kbs D n (kvs++[(kI j,.ref T)]) (js++[j]):=fun m j' hm=>by
 by_cases hlt:m<js.length
 ·rw [List.getElem?_append_left hlt] at hm
  obtain ⟨k',i',T',z',h1,h2,h3,h4,h5,h6⟩:=h m j' hm
  refine ⟨k',i',T',z',?_,h2,h3,h4,h5,?_⟩
  ·rw [Gx _ _ _ _ nv]
   by_cases e:kI j'=kI j
   ·rw [e,nv] at h1
    cases h1
   ·rw [if_neg e]
    exact h1
  ·rw [List.take_append_of_le_length (Nat.le_of_lt hlt)]
   exact h6
 ·have hm':=(List.getElem?_eq_some_iff.mp hm).1
  rw [List.length_append,List.length_singleton] at hm'
  have em:m=js.length:=by omega
  subst em
  rw [List.getElem?_append_right (Nat.le_refl _),Nat.sub_self] at hm
  have ej:j=j':=by simpa using hm
  subst ej
  refine ⟨k,i0,T,z,?_,hT,hk,hz,hg,?_⟩
  ·rw [Gx _ _ _ _ nv,if_pos rfl]
  ·rw [List.take_append_of_le_length (Nat.le_refl _),List.take_length]
   exact hi
noncomputable def aR (C:Addr):Sp:=fun vs H Q _=>∃ (x:Addr) (c:Nat->Str) (sz:List Nat) (kbs:List Kb) (D n:Nat),vs=[.ref x,.int (D:Nat),.int (n:Nat)]/\DX C H x (BZ c sz) (CZ c kbs)/\Nb sz.length kbs/\n<2 ^ 1200/\(∀ i,n.testBit i=true->i<sz.sum) /\
 ∀ W (kvs:List (Key × V)) (js:List Nat) H',H W=none->Aj H H'->H' W=some (.dK kvs)->kvs.map (·.1)=js.map kI->js.Nodup->Mp H' (BZ c sz) kbs D n kvs js->(∀ j,j∈js ↔ Fz (stp (BZ c sz) kbs D) (fun i=>n.testBit i=true) j)->Q (.ref W) H'
theorem Oe:Aw ["organ","knobs","held","couplers","ways","left","ahead","knob","key"] ["organ","knobs","held"] (Ab ZK):=⟨rfl,rfl,rfl,by decide +kernel,rfl,by decide +kernel,by decide +kernel⟩
include N T in
theorem aA:Ax P w K mg base Bf 4 fWa dWa ["organ","knobs","held"] (aR C):=by
 have GDc:Ax P w K mg base Bf 2 fDc dDc ["organ","knobs","word"] (Uy C):=Tq N T
 have GMe:Ax P w K mg base Bf 2 fMe dMe ["some"] YM:=V1 N T
 have GLe:Ax P w K mg base Bf 3 fLe dLe ["organ","knob","key"] (Zy C):=fJ N T
 have GHa:Ax P w K mg base Bf 1 fHa dHa ["some","number"] Vf:=Rp N T
 refine N.FWa.1.ok Oe (fun vs H Q E h=>?_) (fun cdv A outer s H vs Q E hr h=>?_)
 ·obtain ⟨x,c,sz,kbs,D,n,rfl,_⟩:=h
  rfl
 ·obtain ⟨x,c,sz,kbs,D,n,rfl,O,hkb,hn,hnt,q⟩:=h
  have hrDc:BV 2 _:=hr.mono (by decide)
  have hrMe:BV 2 _:=hr.mono (by decide)
  have hrLe:BV 3 _:=hr.mono (by decide)
  have hrHa:BV 1 _:=hr.mono (by decide)
  have hu:=Iw hr
  refine ⟨_,(Ae (BJ (i:=3) Oe.nd rfl (Or.inl rfl) (Ah GDc hrDc rfl N.FDc.2.2 N.FDc.1.kp N.FDc.2.1 .nil Am (Aa (pv 0) (Aa (pv 1) (Aa Bs Ac)))))
   (Ae (BJ (i:=4) Oe.nd rfl (Or.inl rfl) Mj)
   (Ae (BJ (i:=5) Oe.nd rfl (Or.inl rfl) (Ah GMe hrMe rfl N.FMe.2.2 N.FMe.1.kp N.FMe.2.1 .nil Am (Aa (pv 2) Ac)))
   (Ae (Jm PassesOwn.never (Lx (pv 5) (fun _=>rfl)) (Ae (BJ (i:=6) Oe.nd rfl (Or.inl rfl) (Ep PySem.F.plainAttrs_list PySem.F.slot_list_pop PySem.F.type_list_pop UJ (pv 5) (Aa Ad Ac)))
   (Af (Ci PassesOwn.never rfl (Bd (pv 3)) (Bb (i:=7) Oe.nd rfl (Or.inl rfl)) (Ae (BJ (i:=8) Oe.nd rfl (Or.inl rfl) (Ah GLe hrLe rfl N.FLe.2.2 N.FLe.1.kp N.FLe.2.1 .nil Am (Aa (pv 0) (Aa (pv 7) (Aa (pv 6) Ac)))))
   (Af (CT (PW.pt (Ia (Ba Kw (pv 8) HD (Be _)) (Hx (Rj (Qa hu (pv 8) (pv 4)))))) (Ae (O8 hu (pv 4) (pv 8) (Cv (Aa (pv 7) (Aa (pv 6) Ac))) rfl)
   (Af (CT (Dz (FW (Ah GHa hrHa rfl N.FHa.2.2 N.FHa.1.kp N.FHa.2.1 .nil Am (Aa (pv 2) (Aa (pv 8) Ac))))) (Af (C_ (Ep PySem.F.plainAttrs_list PySem.F.slot_list_append PySem.F.type_list_append B_ (pv 5) (Aa (pv 8) Ac)))) Bj))) Bj)))))))
   (Af (A_ (pv 4))))))),?_⟩
  have hsum:((BZ c sz).map (·.2)).sum=sz.sum:=by rw [Bq]
  generalize hst:stp (BZ c sz) kbs D=st
  have hR:∀ {j},Fz st (fun i=>n.testBit i=true) j->j<sz.sum:=fun {j} r=>by
   rw [← hst] at r
   have:=r.lt
   rw [hsum] at this
   exact this
  refine ⟨_,rfl,_,rfl,x,BZ c sz,CZ c kbs,"coupler",D,rfl,O,fun CL cl H1 hCL s1 hl1 hcl0 hcll=>?_⟩
  have hcl:∀ k,k∈cl ↔ ∃ z,kbs[k]? = some z/\M4 z=true/\D.testBit k=true:=fun k=>by
   rw [hcl0]
   constructor
   ·rintro ⟨r,hr,hw,hd⟩
    obtain ⟨z,hz,rfl⟩:=Di hr
    rw [HQ] at hw
    exact ⟨z,hz,decide_eq_true (congrArg V.str hw),hd⟩
   ·rintro ⟨z,hz,hc,hd⟩
    exact ⟨_,Eb hz,(HQ _ _ _).trans (V.str.inj (of_decide_eq_true hc)),hd⟩
  intro W hW
  have t2:=Av (o:=HO.dK []) hW
  have u2:upd H1 W (HO.dK []) W=some (.dK []):=Ag
  generalize upd H1 W (HO.dK [])=H2 at t2 u2 ⊢
  refine ⟨_,rfl,n,rfl,hn,fun L H3 hL s3 hl3=>?_⟩
  have s13:=t2.trans s3
  have s03:=s1.trans s13
  have hW0:H W=none:=s1.free hW
  have hL0:H L=none:=(s1.trans t2).free hL
  have hWL:W ≠ L:=fun z=>by rw [← z,s3 _ _ u2] at hl3; cases hl3
  have c3:=s13 _ _ hl1
  have hS3:CK K H3 CL (nV cl):=.inl (.inl c3)
  have hCW:CL ≠ W:=fun z=>by rw [z,s3 _ _ u2] at c3; cases c3
  have hCL':CL ≠ L:=fun z=>by rw [z] at hl1; rw [t2 _ _ hl1] at hL; cases hL
  show Cz 5 _ _ _ _
  rw [Mr]
  refine Lz ?_
  refine Jr (fun σ H4=>Aj H H4/\H4 CL=some (.lst (nV cl))/\∃ (kvs:List (Key × V)) (js ls:List Nat),H4 W=some (.dK kvs)/\H4 L=some (.lst (nV ls))/\kvs.map (·.1)=js.map kI/\js.Nodup/\Mp H4 (BZ c sz) kbs D n kvs js/\(∀ j∈js,Fz st (fun i=>n.testBit i=true) j)/\(∀ i∈ls,n.testBit i=true \/ i∈js)/\(∀ i,(n.testBit i=true \/ i∈js)->i∈ls \/ ∀ j,st i j->j∈js)/\ls.length+(sz.sum - js.length)<=1600/\∃ v6 v7 v8,σ=[some (.ref x),some (.int (D:Nat)),some (.int (n:Nat)),some (.ref CL),some (.ref W),some (.ref L),v6,v7,v8])
   (fun _ H4=>Lk (H4 L)+(sz.sum - YJ (H4 W))) ⟨s03,c3,[],[],Wd.mem n,s3 _ _ u2,hl3,rfl,List.nodup_nil,(fun m j hm=>by simp at hm),(fun j hj=>nomatch hj),(fun i hi=>.inl (Wd.mem_iff.mp hi)),(fun i hi=>.inl (Wd.mem_iff.mpr (hi.resolve_right (by simp)))),?_,_,_,_,rfl⟩ ?_ ?_
  ·have:=Wd.Le hn
   have:(Wd.mem n).length<=Wd.len n:=by unfold Wd.mem; exact Nat.le_trans (List.length_filter_le _ _) (by simp)
   have h305:=Ex O
   rw [hsum] at h305
   simp
   omega
  ·rintro σ H4 ⟨s4,c4,kvs,js,ls,hw,hl,hkv,nd,hpar,hj,hls,hcl4,hbig,v6,v7,v8,rfl⟩
   refine ⟨_,rfl,_,.inl ⟨_,.inl (.inl hl),rfl⟩,?_⟩
   have hjl:js.length<=sz.sum:=Cu sz.sum nd fun j h=>hR (hj j h)
   have hkl:kvs.length=js.length:=by have:=congrArg List.length hkv; simpa using this
   cases ls with
   | nil =>
    refine Ck ?_
    refine ⟨_,rfl,q W kvs js H4 hW0 s4 hw hkv nd hpar fun j=>?_⟩
    rw [hst]
    exact Fz.all (W:=fun j=>j∈js) hj (fun i hi=>(hcl4 i hi).resolve_left (by simp)) j
   | cons i0 ls =>
    refine DN ?_
    refine ⟨_,rfl,.inl ⟨rfl,_,.inl (.inl hl)⟩,L,_,0,0,.int (i0:Nat),rfl,rfl,hl,by decide,by decide,seqIndex_of (by decide) (by simp),rfl,?_⟩
    have w5:upd H4 L (.lst ((nV (i0::ls)).eraseIdx 0)) W=some (.dK kvs):=by rw [BP hWL]; exact hw
    have l5:upd H4 L (.lst ((nV (i0::ls)).eraseIdx 0)) L=some (.lst (nV ls)):=Ag
    have c5:upd H4 L (.lst ((nV (i0::ls)).eraseIdx 0)) CL=some (.lst (nV cl)):=by rw [BP hCL']; exact c4
    have s5:Aj H (upd H4 L (.lst ((nV (i0::ls)).eraseIdx 0))):=fun b o e=>by rw [BP (BL e hL0)]; exact s4 _ _ e
    have em:Lk (H4 L)+(sz.sum - YJ (H4 W))=ls.length+1+(sz.sum - js.length):=by
     rw [hl,hw]
     show (nV (i0::ls)).length+(sz.sum - kvs.length)=_
     rw [hkl]
     simp
    rw [em]
    have par5:Mp (upd H4 L (.lst ((nV (i0::ls)).eraseIdx 0))) (BZ c sz) kbs D n kvs js:=hpar.upd hl (fun xs z=>by cases z)
    generalize upd H4 L (.lst ((nV (i0::ls)).eraseIdx 0))=H5 at w5 l5 c5 s5 par5 ⊢
    have hi0:i0<sz.sum:=by
     rcases hls i0 (List.mem_cons_self ..) with h | h
     ·exact hnt i0 h
     ·exact hR (hj i0 h)
    have hi0R:∀ j,st i0 j->Fz st (fun i=>n.testBit i=true) j:=fun j h=>by
     rcases hls i0 (List.mem_cons_self ..) with g | g
     ·exact .one g h
     ·exact .more (hj i0 g) h
    obtain ⟨qd,hq⟩:∃ qd,(Ds (BZ c sz))[i0]? = some qd:=⟨_,List.getElem?_eq_getElem (by rw [Dm,hsum]; exact hi0)⟩
    have M:ls.length+(sz.sum - js.length)<ls.length+1+(sz.sum - js.length):=by omega
    refine ⟨_,rfl,CL,rfl,⟨_,.inl (.inl c5)⟩,Cp (K:=K) (a:=CL) (xs:=nV cl) (fun m σ H6=>Aj H H6/\H6 CL=some (.lst (nV cl))/\∃ (kvs6:List (Key × V)) (js6 ls6:List Nat),H6 W=some (.dK kvs6)/\H6 L=some (.lst (nV ls6))/\kvs6.map (·.1)=js6.map kI/\js6.Nodup/\Mp H6 (BZ c sz) kbs D n kvs6 js6/\(∀ j∈js6,Fz st (fun i=>n.testBit i=true) j)/\(∀ i∈ls6,n.testBit i=true \/ i∈js6)/\(∀ i,(n.testBit i=true \/ i∈js6)->i=i0 \/ i∈ls6 \/ ∀ j,st i j->j∈js6)/\(∀ k∈cl.take m,∀ z j,kbs[k]? = some z->gl (BZ c sz) z i0=some j->j∈js6)/\(n.testBit i0=true \/ i0∈js6)/\ls6.length+(sz.sum - js6.length)<=ls.length+(sz.sum - js.length)/\∃ v7 v8,σ=[some (.ref x),some (.int (D:Nat)),some (.int (n:Nat)),some (.ref CL),some (.ref W),some (.ref L),some (.int (i0:Nat)),v7,v8])
     ⟨s5,c5,kvs,js,ls,w5,l5,hkv,nd,par5,hj,(fun i hi=>hls i (List.mem_cons_of_mem _ hi)),(fun i hi=>?_),(fun k hk=>by simp at hk),hls i0 (List.mem_cons_self ..),Nat.le_refl _,_,_,rfl⟩ (fun m σ H6 _ h=>.inl (.inl h.2.1)) ?_ ?_⟩
    ·rcases hcl4 i hi with h | h
     ·rcases List.mem_cons.mp h with rfl | h
      ·exact .inl rfl
      ·exact .inr (.inl h)
     ·exact .inr (.inr h)
    ·rintro m y σ H6 hm ⟨s6,c6,kvs6,js6,ls6,w6,l6,kv6,nd6,par6,hj6,hls6,hcl6,hdone,hi06,hmeas,v7,v8,rfl⟩
     rw [List.getElem?_map] at hm
     obtain ⟨k,hk,rfl⟩:=Option.map_eq_some_iff.mp hm
     obtain ⟨z,hz,hzc,hzd⟩:=(hcl k).mp (List.mem_of_getElem? hk)
     have zok:=hkb.ok z (List.mem_of_getElem? hz)
     obtain ⟨j1,j2,s0,rfl⟩:=Py zok hzc
     obtain ⟨hj1,hj2,_,_⟩:=zok
     have hbj1:(BZ c sz)[j1]? = some (c j1,sz[j1]):=DW (List.getElem?_eq_getElem hj1)
     have hbj2:(BZ c sz)[j2]? = some (c j2,sz[j2]):=DW (List.getElem?_eq_getElem hj2)
     have hkrow:(CZ c kbs)[k]? = some ⟨"coupler",c (30+k),[.str (c j1),.str (c j2),.int s0]⟩:=Eb hz
     have hjl6:js6.length<=sz.sum:=Cu sz.sum nd6 fun j h=>hR (hj6 j h)
     have hkl6:kvs6.length=js6.length:=by have:=congrArg List.length kv6; simpa using this
     have h305:=Ex O
     rw [hsum] at h305
     refine ⟨_,rfl,_,rfl,_,rfl,x,BZ c sz,CZ c kbs,k,i0,j1,j2,(c j1,sz[j1]),(c j2,sz[j2]),qd,c (30+k),s0,rfl,O.mono s6,hq,hkrow,hbj1,hbj2,fun H7 s7=>?_⟩
     have done':∀ {js':List Nat},(∀ j∈js6,j∈js')->(∀ j,gl (BZ c sz) (.cp j1 j2 s0) i0=some j->j∈js')->∀ k'∈cl.take (m+1),∀ z j,kbs[k']? = some z->gl (BZ c sz) z i0=some j->j∈js':=fun {js'} hsub hnew k' hk' z' j hz' hg=>by
      rw [List.take_add_one,hk] at hk'
      rcases List.mem_append.mp hk' with h | h
      ·exact hsub j (hdone k' h z' j hz' hg)
      ·have:k'=k:=by simpa using h
       subst this
       rw [hz] at hz'
       cases hz'
       exact hnew j hg
     rcases NQ (j1:=j1) (s:=s0) hq hbj2 with ⟨e,eg⟩ | ⟨j,e,eg,hjt⟩
     ·rw [e]
      refine ⟨_,rfl,rfl,_,rfl,Ck (Ck ?_)⟩
      exact ⟨s6.trans s7,s7 _ _ c6,kvs6,js6,ls6,s7 _ _ w6,s7 _ _ l6,kv6,nd6,par6.mono s7,hj6,hls6,hcl6,done' (fun j h=>h) (fun j h=>by rw [eg] at h; cases h),hi06,hmeas,_,_,rfl⟩
     ·rw [e]
      have hstj:st i0 j:=by rw [← hst]; exact ⟨k,_,hzd,hz,eg⟩
      refine ⟨_,rfl,rfl,_,rfl,DN ?_⟩
      refine ⟨_,rfl,_,rfl,W,_,rfl,HY.k (k:=kI j) (s7 _ _ w6),_,rfl,?_⟩
      rw [S8 kv6 j]
      by_cases hin:j∈js6
      ·rw [decide_eq_true hin]
       refine Ck ?_
       exact ⟨s6.trans s7,s7 _ _ c6,kvs6,js6,ls6,s7 _ _ w6,s7 _ _ l6,kv6,nd6,par6.mono s7,hj6,hls6,hcl6,done' (fun j h=>h) (fun j' h=>by rw [eg] at h; cases h; exact hin),hi06,hmeas,_,_,rfl⟩
      ·rw [decide_eq_false hin]
       refine DN ?_
       have nv:Dh kvs6 (kI j)=none:=by
        have:=S8 kv6 j
        rw [decide_eq_false hin] at this
        exact Option.not_isSome_iff_eq_none.mp (by rw [this]; decide)
       have nd7:(js6++[j]).Nodup:=List.nodup_append.mpr ⟨nd6,by simp,fun a ha b hb=>by rw [List.mem_singleton.mp hb]; intro z; exact hin (z ▸ ha)⟩
       have hj7:∀ j'∈js6++[j],Fz st (fun i=>n.testBit i=true) j':=fun j' h=>by
        rcases List.mem_append.mp h with h | h
        ·exact hj6 j' h
        ·rw [List.mem_singleton.mp h]
         exact hi0R j hstj
       have hjl7:(js6++[j]).length<=sz.sum:=Cu sz.sum nd7 fun j h=>hR (hj7 j h)
       rw [List.length_append,List.length_singleton] at hjl7
       refine ⟨_,rfl,_,rfl,by show 2<=sizeLine; decide,fun T8 hT8=>?_⟩
       have t8:=Av (o:=HO.tup [V.int (k:Nat),V.int (i0:Nat)]) hT8
       have uT8:upd H7 T8 (HO.tup [V.int (k:Nat),V.int (i0:Nat)]) T8=some (.tup [V.int (k:Nat),V.int (i0:Nat)]):=Ag
       generalize upd H7 T8 (HO.tup [V.int (k:Nat),V.int (i0:Nat)])=H8 at t8 uT8 ⊢
       have w8:=t8 _ _ (s7 _ _ w6)
       refine ⟨_,rfl,_,rfl,W,_,rfl,QJ.k (k:=kI j) w8 (Az (by omega)),?_⟩
       have u9:upd H8 W (.dK (putK kvs6 (kI j) (.ref T8))) W=some (.dK (kvs6++[(kI j,.ref T8)])):=by rw [← R1 _ nv]; exact Ag
       have l9:upd H8 W (.dK (putK kvs6 (kI j) (.ref T8))) L=some (.lst (nV ls6)):=by rw [BP hWL.symm]; exact t8 _ _ (s7 _ _ l6)
       have c9:upd H8 W (.dK (putK kvs6 (kI j) (.ref T8))) CL=some (.lst (nV cl)):=by rw [BP hCW]; exact t8 _ _ (s7 _ _ c6)
       have s9:Aj H (upd H8 W (.dK (putK kvs6 (kI j) (.ref T8)))):=fun b o e=>by rw [BP (BL e hW0)]; exact t8 _ _ (s7 _ _ (s6 _ _ e))
       have par9:Mp (upd H8 W (.dK (putK kvs6 (kI j) (.ref T8)))) (BZ c sz) kbs D n (kvs6++[(kI j,.ref T8)]) (js6++[j]):=by
        have p8:=((par6.mono s7).mono t8).upd (o:=.dK (putK kvs6 (kI j) (.ref T8))) w8 (fun xs z=>by cases z)
        exact p8.snoc nv (by rw [BP (fun z=>by rw [z,w8] at uT8; cases uT8)]; exact uT8) hzd hz eg hi06
       generalize upd H8 W (.dK (putK kvs6 (kI j) (.ref T8)))=H9 at u9 l9 c9 s9 par9 ⊢
       have kv9:(kvs6++[(kI j,V.ref T8)]).map (·.1)=(js6++[j]).map kI:=by rw [List.map_append,List.map_append,kv6]; rfl
       refine ⟨_,rfl,_,rfl,n,_,rfl,_,rfl,?_⟩
       have eb:(decide ((0:Int)<=(j:Nat)) && n.testBit ((j:Nat):Int).toNat)=n.testBit j:=by rw [decide_eq_true (by omega),Bool.true_and,Int.toNat_natCast]
       rw [eb]
       cases hb:n.testBit j with
       | true =>
        refine Ck ?_
        refine ⟨s9,c9,_,js6++[j],ls6,u9,l9,kv9,nd7,par9,hj7,(fun i h=>(hls6 i h).imp id (List.mem_append_left _)),(fun i h=>?_),done' (fun j h=>List.mem_append_left _ h) (fun j' h=>by rw [eg] at h; cases h; simp),hi06.imp id (List.mem_append_left _),?_,_,_,rfl⟩
        ·have h':n.testBit i=true \/ i∈js6:=by
          rcases h with h | h
          ·exact .inl h
          ·rcases List.mem_append.mp h with h | h
           ·exact .inr h
           ·rw [List.mem_singleton.mp h]
            exact .inl hb
         rcases hcl6 i h' with g | g | g
         ·exact .inl g
         ·exact .inr (.inl g)
         ·exact .inr (.inr fun j' hj'=>List.mem_append_left _ (g j' hj'))
        ·rw [List.length_append,List.length_singleton]
         omega
       | false =>
        refine DN ?_
        refine ⟨_,rfl,.inl ⟨rfl,_,.inl (.inl l9)⟩,_,rfl,L,_,_,rfl,rfl,l9,K9 (by simp only [List.length_cons] at hbig; rw [List.length_map]; omega),?_⟩
        have l10:upd H9 L (.lst (nV ls6++[V.int (j:Nat)])) L=some (.lst (nV (ls6++[j]))):=by
         have e9:nV (ls6++[j])=nV ls6++[V.int (j:Nat)]:=List.map_append
         rw [e9]
         exact Ag
        have w10:upd H9 L (.lst (nV ls6++[V.int (j:Nat)])) W=some (.dK (kvs6++[(kI j,.ref T8)])):=by rw [BP hWL]; exact u9
        have c10:upd H9 L (.lst (nV ls6++[V.int (j:Nat)])) CL=some (.lst (nV cl)):=by rw [BP hCL']; exact c9
        have s10:Aj H (upd H9 L (.lst (nV ls6++[V.int (j:Nat)]))):=fun b o e=>by rw [BP (BL e hL0)]; exact s9 _ _ e
        refine ⟨s10,c10,_,js6++[j],ls6++[j],w10,l10,kv9,nd7,par9.upd l9 (fun xs z=>by cases z),hj7,(fun i h=>?_),(fun i h=>?_),done' (fun j h=>List.mem_append_left _ h) (fun j' h=>by rw [eg] at h; cases h; simp),hi06.imp id (List.mem_append_left _),?_,_,_,rfl⟩
        ·rcases List.mem_append.mp h with h | h
         ·exact (hls6 i h).imp id (List.mem_append_left _)
         ·exact .inr (List.mem_append_right _ h)
        ·have h':(n.testBit i=true \/ i∈js6) \/ i=j:=by
          rcases h with h | h
          ·exact .inl (.inl h)
          ·rcases List.mem_append.mp h with h | h
           ·exact .inl (.inr h)
           ·exact .inr (List.mem_singleton.mp h)
         rcases h' with h' | rfl
         ·rcases hcl6 i h' with g | g | g
          ·exact .inl g
          ·exact .inr (.inl (List.mem_append_left _ g))
          ·exact .inr (.inr fun j' hj'=>List.mem_append_left _ (g j' hj'))
         ·exact .inr (.inl (by simp))
        ·rw [List.length_append,List.length_append,List.length_singleton]
         omega
    ·rintro σ H6 ⟨s6,c6,kvs6,js6,ls6,w6,l6,kv6,nd6,par6,hj6,hls6,hcl6,hdone,hi06,hmeas,v7,v8,rfl⟩
     have hkl6:kvs6.length=js6.length:=by have:=congrArg List.length kv6; simpa using this
     refine ⟨⟨s6,c6,kvs6,js6,ls6,w6,l6,kv6,nd6,par6,hj6,hls6,(fun i hi=>?_),by simp only [List.length_cons] at hbig; omega,_,_,_,rfl⟩,?_⟩
     ·rcases hcl6 i hi with rfl | g | g
      ·refine .inr fun j hij=>?_
       rw [← hst] at hij
       obtain ⟨k,z,hkd,hkz,hg⟩:=hij
       refine hdone k ?_ z j hkz hg
       rw [List.take_of_length_le (by simp)]
       exact (hcl k).mpr ⟨z,hkz,WD hg,hkd⟩
      ·exact .inl g
      ·exact .inr g
     ·show Lk (H6 L)+(sz.sum - YJ (H6 W))<_
      rw [l6,w6]
      show (nV ls6).length+(sz.sum - kvs6.length)<_
      rw [List.length_map,hkl6]
      omega
  ·rintro σ H' Q1 Q2 hm ⟨v,hv,k,hk,h⟩
   exact ⟨v,hv,k,hk,hm _ _ h⟩
noncomputable def dF (C:Addr):Sp:=fun vs H Q _=>∃ (x:Addr) (c:Nat->Str) (sz:List Nat) (kbs:List Kb) (D n:Nat),vs=[.ref x,.int (D:Nat),.int (n:Nat)]/\DX C H x (BZ c sz) (CZ c kbs)/\Nb sz.length kbs/\n<2 ^ 1200/\(∀ i,n.testBit i=true->i<sz.sum) /\
 ∀ (m:Nat) H',Aj H H'->(∀ j,m.testBit j=true ↔ Fz (stp (BZ c sz) kbs D) (fun i=>n.testBit i=true) j)->Q (.int (m:Nat)) H'
theorem QD {n T:Nat} (h:∀ i,n.testBit i=true->i<T):Wd.mv n 0 T=n:=by
 refine Gw fun i=>?_
 rw [Wd.Jq]
 simp
 intro hi
 exact h i hi
theorem jZ:Aw ["organ","knobs","held"] ["organ","knobs","held"] (Ab Yw):=⟨rfl,rfl,rfl,by decide +kernel,rfl,by decide +kernel,by decide +kernel⟩
include N T in
theorem bc:Ax P w K mg base Bf 5 fCq dCq ["organ","knobs","held"] (dF C):=by
 have GSt:Ax P w K mg base Bf 3 fSt dSt ["numbers"] Wf:=V6 N T
 have GWa:Ax P w K mg base Bf 4 fWa dWa ["organ","knobs","held"] (aR C):=aA N T
 have GHk:Ax P w K mg base Bf 2 fHk dHk ["organ","held"] (XN C):=V7 N T
 refine N.FCq.1.ok jZ (fun vs H Q E h=>?_) (fun cdv A outer s H vs Q E hr h=>?_)
 ·obtain ⟨x,c,sz,kbs,D,n,rfl,_⟩:=h
  rfl
 ·obtain ⟨x,c,sz,kbs,D,n,rfl,O,hkb,hn,hnt,q⟩:=h
  have hrSt:BV 3 _:=hr.mono (by decide)
  have hrWa:BV 4 _:=hr.mono (by decide)
  have hrHk:BV 2 _:=hr.mono (by decide)
  refine ⟨_,(Af (A_ (Ah GSt hrSt rfl N.FSt.2.2 N.FSt.1.kp N.FSt.2.1 .nil Am (Aa (Dk (J0 rfl) rfl T.list PyProof.Rows.boot_list (Aa (Ah GWa hrWa rfl N.FWa.2.2 N.FWa.1.kp N.FWa.2.1 .nil Am (Aa (pv 0) (Aa (pv 1) (Aa (Ah GHk hrHk rfl N.FHk.2.2 N.FHk.1.kp N.FHk.2.1 .nil Am (Aa (pv 0) (Aa (pv 2) Ac))) Ac)))) Ac)) Ac)))),?_⟩
  have hsum:((BZ c sz).map (·.2)).sum=sz.sum:=by rw [Bq]
  have h305:=Ex O
  rw [hsum] at h305
  refine ⟨_,rfl,_,rfl,_,rfl,_,rfl,x,BZ c sz,CZ c kbs,n,rfl,O,hn,?_⟩
  rw [hsum,QD hnt]
  refine ⟨x,c,sz,kbs,D,n,rfl,O,hkb,hn,hnt,fun W kvs js H1 hW s1 hw hkv nd _ hj=>?_⟩
  have hlt:∀ j∈js,j<sz.sum:=fun j h=>by
   have:=((hj j).mp h).lt
   rw [hsum] at this
   exact this
  have hjl:=Cu sz.sum nd hlt
  have hkv':kvs.map (·.1)=(js.map fun j:Nat=>(j:Int)).map Sum.inl:=by rw [hkv,List.map_map]; rfl
  refine ⟨W,kvs,_,rfl,hw,hkv',fun l hl=>?_⟩
  have ev:(js.map fun j:Nat=>(j:Int)).map V.int=nV js:=by rw [List.map_map]; rfl
  rw [ev]
  refine ⟨l,js,rfl,Ag,by omega,fun j h=>by have:=hlt j h; omega,fun H2 s2=>?_⟩
  refine q (Wd.mk js) H2 ((s1.trans (Av hl)).trans s2) fun j=>?_
  rw [Wd.Ig,decide_eq_true_eq]
  exact hj j
noncomputable def bQ:Sp:=fun vs H Q _=>∃ (p:Addr) (l:List Nat),vs=[.ref p]/\H p=some (.lst (nV l))/\l.length<=100000/\(∀ n∈l,n<1200)/\Q (.int (Wd.mk l:Nat)) H
theorem Ue:Aw ["_law_numbers","_law_found","_law_number"] ["_law_numbers"] (Ab Zc):=⟨rfl,rfl,rfl,by decide +kernel,rfl,by decide +kernel,by decide +kernel⟩
include N T in
theorem dZ:Ax P w K mg base Bf 1 fBi dBi ["_law_numbers"] bQ:=by
 refine N.FBi.1.ok Ue (fun vs H Q E h=>?_) (fun cdv A outer s H vs Q E hr h=>?_)
 ·obtain ⟨p,l,rfl,_⟩:=h
  rfl
 ·obtain ⟨p,l,rfl,hp,hz,hb,q⟩:=h
  refine ⟨_,(Ae (BJ (i:=1) Ue.nd rfl (Or.inl rfl) Ad)
   (Ae (Ci PassesOwn.never rfl (Bd (pv 0)) (Bb (i:=2) Ue.nd rfl (Or.inl rfl)) (Af (BJ (i:=1) Ue.nd rfl (Or.inl rfl) (Ay Ox (pv 1) (Ay Ob Ad (pv 2))))))
   (Af (A_ (pv 1))))),?_⟩
  have hS:CK K H p (nV l):=.inl (.inl hp)
  refine ⟨_,rfl,p,rfl,⟨_,hS⟩,Cp (K:=K) (a:=p) (xs:=nV l) (fun i σ H4=>H4=H/\∃ v2,σ=[some (.ref p),some (.int (Wd.mk (l.take i):Nat)),v2]) ⟨rfl,_,rfl⟩ (fun i σ H4 _ h=>by rw [h.1]; exact hS) ?_ ?_⟩
  ·rintro i y σ H4 hi ⟨rfl,v2,rfl⟩
   rw [List.getElem?_map] at hi
   obtain ⟨n,hn,rfl⟩:=Option.map_eq_some_iff.mp hi
   have hn':=hb n (List.mem_of_getElem? hn)
   refine ⟨_,rfl,_,rfl,_,_,rfl,rfl,⟨by omega,by omega,by decide⟩,_,_,rfl,rfl,?_⟩
   refine ⟨rfl,some (.int (n:Int)),?_⟩
   dsimp only
   rw [Vu,List.take_add_one,hn]
   rfl
  ·rintro σ H4 ⟨rfl,v2,rfl⟩
   have el:l.take (nV l).length=l:=List.take_of_length_le (by simp)
   rw [el]
   exact ⟨_,rfl,q⟩
theorem G3 {X:Cx} {K:PySem.W.Frag} (h:X.K=K):GF X (compareOp .NotIn) (fu K true):=h ▸ Hs
theorem Mt (l:List Nat):(nV l).all Ew=true:=List.all_eq_true.mpr fun v hv=>by
 obtain ⟨n,_,rfl⟩:=List.mem_map.mp hv
 rfl
theorem Ku (j:Nat) (js:List Nat):inV (.int (j:Nat)) (nV js)=decide (j∈js):=by
 rw [Bool.eq_iff_iff,decide_eq_true_eq]
 unfold inV
 rw [List.any_eq_true]
 constructor
 ·rintro ⟨y,hy,e⟩
  obtain ⟨n,hn,rfl⟩:=List.mem_map.mp hy
  have e':(((n:Nat):Int) == ((j:Nat):Int))=true:=e
  have e2:((n:Nat):Int)=(j:Nat):=eq_of_beq e'
  have:n=j:=by omega
  subst this
  exact hn
 ·intro h
  exact ⟨_,List.mem_map_of_mem h,by show (((j:Nat):Int) == ((j:Nat):Int))=true; exact beq_self_eq_true _⟩
theorem iG:Aw ["self","knob"] ["self","knob"] (Ab Y_):=⟨rfl,rfl,rfl,by decide +kernel,rfl,by decide +kernel,by decide +kernel⟩
include N T in
theorem dD:Ax P w K mg base Bf 2 fOm dOm ["self","knob"] (QL C):=by
 have GBk:Ax P w K mg base Bf 1 fBk dBk ["self","knob"] (QL C):=Tc N T
 refine N.FOm.1.ok iG (fun vs H Q E h=>?_) (fun cdv A outer s H vs Q E hr h=>?_)
 ·obtain ⟨x,bs,ks,k,j1,b1,wd,nm,rs,rfl,_⟩:=h
  rfl
 ·obtain ⟨x,bs,ks,k,j1,b1,wd,nm,rs,rfl,O,hk,hb1,q⟩:=h
  have hrBk:BV 1 _:=hr.mono (by decide)
  refine ⟨_,(Af (A_ (Dp (pv 0) T.cl N.FBk.2.2 GBk hrBk N.FBk.2.1 .nil Am (Aa (pv 1) Ac)))),?_⟩
  obtain ⟨⟨dx,fs,bl,bn,kp,kr,bvs,pvs,uvs,kvs,h1,l1,l2,l3,l4,lm,h2,h3,h4,h5,h6,h7,h8,h9⟩,ob5,osz,onk⟩:=id O
  exact ⟨_,rfl,x,dx,fs,rfl,h1,lm _ (by decide +kernel),_,rfl,x,bs,ks,k,j1,b1,wd,nm,rs,rfl,O,hk,hb1,q⟩
noncomputable def bM (C:Addr):Sp:=fun vs H Q _=>∃ (x:Addr) (bs:List (Str × Nat)) (rk:List (Str × Nat × Int)) (ks:List R) (ls:List (List Ln)) (k j1:Nat) (b1:Str × Nat) (wd nm:Str) (rs:List V) (l:List Ln),vs=[.ref x,.int (k:Nat)]/\Dn C H x bs rk ks ls/\ks[k]? = some ⟨wd,nm,.str b1.1::rs⟩/\bs[j1]? = some b1/\ls[k]? = some l /\
 ∀ (T0 L0:Addr) (ts:List V) H',Aj H H'->H' T0=some (.tup [.int (j1:Nat),.ref L0])->H' L0=some (.lst ts)->Paired (fun x y=>TupAt H' (TX x) y) l ts->Q (.ref T0) H'
theorem iW:Aw ["self","knob"] ["self","knob"] (Ab Ym):=⟨rfl,rfl,rfl,by decide +kernel,rfl,by decide +kernel,by decide +kernel⟩
include N T in
theorem b8:Ax P w K mg base Bf 2 fOs dOs ["self","knob"] (bM C):=by
 have GBk:Ax P w K mg base Bf 1 fBk dBk ["self","knob"] (QL C):=Tc N T
 refine N.FOs.1.ok iW (fun vs H Q E h=>?_) (fun cdv A outer s H vs Q E hr h=>?_)
 ·obtain ⟨x,bs,rk,ks,ls,k,j1,b1,wd,nm,rs,l,rfl,_⟩:=h
  rfl
 ·obtain ⟨x,bs,rk,ks,ls,k,j1,b1,wd,nm,rs,l,rfl,O,hk,hb1,hl,q⟩:=h
  have hrBk:BV 1 _:=hr.mono (by decide)
  refine ⟨_,(Af (A_ (Cv (Aa (Dp (pv 0) T.cl N.FBk.2.2 GBk hrBk N.FBk.2.1 .nil Am (Aa (pv 1) Ac)) (Aa (Dk Dq rfl T.list PyProof.Rows.boot_list (Aa (Ar (Bc (K:=K) rfl) (Ca (pv 0) rfl) (pv 1) (fun _ _=>rfl)) Ac)) Ac))))),?_⟩
  obtain ⟨⟨dx,fs,bl,bn,kp,kr,bvs,pvs,uvs,kvs,h1,l1,l2,l3,l4,lm,h2,h3,h4,h5,h6,h7,h8,h9⟩,ob5,osz,onk⟩:=id O.o
  obtain ⟨dx',fs',rl,rn,pp,kl,rvs,qvs,kvs',g1,m1,m2,m3,m4,g2,g3,g4,g5,g6,g7,lv,g8,g9⟩:=id O.r
  obtain ⟨e1,e2⟩:dx'=dx/\fs'=fs:=by rw [h1] at g1; cases g1; exact ⟨rfl,rfl⟩
  subst e1 e2
  obtain ⟨y,hy,A,ts,rfl,hA,htp⟩:=Bw g9 hl
  refine ⟨_,rfl,x,_,_,rfl,h1,lm _ (by decide +kernel),_,rfl,x,bs,ks,k,j1,b1,wd,nm,rs,rfl,O.o,hk,hb1,?_⟩
  refine ⟨_,rfl,x,C,_,_,_,rfl,h1,T.cl,T.n_knob_lines,m4,_,rfl,kl,lv,_,_,rfl,rfl,.inl (.inl g8),Ai hy,A,ts,rfl,.inl (.inl (.inl hA)),fun L0 hL0=>?_⟩
  have t1:=Av (o:=HO.lst ts) hL0
  have u1:upd H L0 (HO.lst ts) L0=some (.lst ts):=Ag
  generalize upd H L0 (HO.lst ts)=H1 at t1 u1 ⊢
  refine ⟨by show 2<=sizeLine; decide,fun T0 hT0=>?_⟩
  have t2:=Av (o:=HO.tup [.int (j1:Nat),.ref L0]) hT0
  exact q T0 L0 ts _ (t1.trans t2) Ag (t2 _ _ u1) (Ak (t1.trans t2) htp)
noncomputable def aL (C:Addr):Sp:=fun vs H Q _=>∃ (x:Addr) (bs:List (Str × Nat)) (rk:List (Str × Nat × Int)) (ks:List R) (ls:List (List Ln)),vs=[.ref x]/\Dn C H x bs rk ks ls/\∀ D rvs H',H D=none->Aj H H'->H' D=some (.lst rvs)->Paired (fun (a:Th) y=>TupAt H' (tV a) y) (rk.map S6) rvs->Q (.ref D) H'
theorem iK:Aw ["self"] ["self"] (Ab Yh):=⟨rfl,rfl,rfl,by decide +kernel,rfl,by decide +kernel,by decide +kernel⟩
include N T in
theorem az:Ax P w K mg base Bf 1 fOr dOr ["self"] (aL C):=by
 refine N.FOr.1.ok iK (fun vs H Q E h=>?_) (fun cdv A outer s H vs Q E hr h=>?_)
 ·obtain ⟨x,bs,rk,ks,ls,rfl,_⟩:=h
  rfl
 ·obtain ⟨x,bs,rk,ks,ls,rfl,O,q⟩:=h
  refine ⟨_,(Af (A_ (Dk Dq rfl T.list PyProof.Rows.boot_list (Aa (Ca (pv 0) rfl) Ac)))),?_⟩
  obtain ⟨⟨dx,fs,bl,bn,kp,kr,bvs,pvs,uvs,kvs,h1,l1,l2,l3,l4,lm,h2,h3,h4,h5,h6,h7,h8,h9⟩,ob5,osz,onk⟩:=id O.o
  obtain ⟨dx',fs',rl,rn,pp,kl,rvs,qvs,kvs',g1,m1,m2,m3,m4,g2,g3,g4,g5,g6,g7,lv,g8,g9⟩:=id O.r
  obtain ⟨e1,e2⟩:dx'=dx/\fs'=fs:=by rw [h1] at g1; cases g1; exact ⟨rfl,rfl⟩
  subst e1 e2
  exact ⟨_,rfl,x,C,_,_,_,rfl,h1,T.cl,T.n_rank_list,m1,rl,rvs,rfl,.inl (.inl (.inl g2)),fun l hl=>q l rvs _ hl (Av hl) Ag (Ak (Av hl) g3)⟩
noncomputable def Zn (C:Addr):Sp:=fun vs H Q _=>∃ (x:Addr) (bs:List (Str × Nat)) (rk:List (Str × Nat × Int)) (ks:List R) (ls:List (List Ln)),vs=[.ref x]/\Dn C H x bs rk ks ls/\Q (.int ((Ds (rk.map Xe)).length:Nat)) H
theorem gw:Aw ["self"] ["self"] (Ab Y0):=⟨rfl,rfl,rfl,by decide +kernel,rfl,by decide +kernel,by decide +kernel⟩
include N T in
theorem bG:Ax P w K mg base Bf 1 fOq dOq ["self"] (Zn C):=by
 refine N.FOq.1.ok gw (fun vs H Q E h=>?_) (fun cdv A outer s H vs Q E hr h=>?_)
 ·obtain ⟨x,bs,rk,ks,ls,rfl,_⟩:=h
  rfl
 ·obtain ⟨x,bs,rk,ks,ls,rfl,O,q⟩:=h
  refine ⟨_,(Af (A_ (BX Bg rfl T.len PySem.boot_len (Aa (Ca (pv 0) rfl) Ac)))),?_⟩
  obtain ⟨⟨dx,fs,bl,bn,kp,kr,bvs,pvs,uvs,kvs,h1,l1,l2,l3,l4,lm,h2,h3,h4,h5,h6,h7,h8,h9⟩,ob5,osz,onk⟩:=id O.o
  obtain ⟨dx',fs',rl,rn,pp,kl,rvs,qvs,kvs',g1,m1,m2,m3,m4,g2,g3,g4,g5,g6,g7,lv,g8,g9⟩:=id O.r
  obtain ⟨e1,e2⟩:dx'=dx/\fs'=fs:=by rw [h1] at g1; cases g1; exact ⟨rfl,rfl⟩
  subst e1 e2
  refine ⟨_,rfl,x,C,_,_,_,rfl,h1,T.cl,T.n_pipe_places,m3,pp,qvs,rfl,.inl (.inl (.inl g6)),?_⟩
  rw [← g7.length]
  exact q
noncomputable def cF (C:Addr):Sp:=fun vs H Q _=>∃ (x:Addr) (bs:List (Str × Nat)) (rk:List (Str × Nat × Int)) (ks:List R) (ls:List (List Ln)) (j:Nat) (r:Str × Nat × Int) (n:Int),vs=[.ref x,.str r.1,.int n]/\Dn C H x bs rk ks ls/\rk[j]? = some r/\∀ H',Aj H H'->Q (.int ((((rk.take j).map (fun r=>r.2.1)).sum:Nat)+n)) H'
theorem gb:Aw ["self","rank","number"] ["self","rank","number"] (Ab Zd):=⟨rfl,rfl,rfl,by decide +kernel,rfl,by decide +kernel,by decide +kernel⟩
include N T in
theorem eU:Ax P w K mg base Bf 2 fOe dOe ["self","rank","number"] (cF C):=by
 have GCa:Ax P w K mg base Bf 1 fCa dCa ["things"] Xd:=WL N T
 refine N.FOe.1.ok gb (fun vs H Q E h=>?_) (fun cdv A outer s H vs Q E hr h=>?_)
 ·obtain ⟨x,bs,rk,ks,ls,j,r,n,rfl,_⟩:=h
  rfl
 ·obtain ⟨x,bs,rk,ks,ls,j,r,n,rfl,O,hb,q⟩:=h
  have hrCa:BV 1 _:=hr.mono (by decide)
  have hu:=Iw hr
  refine ⟨_,(Af (A_ (Ay Bo (Ah GCa hrCa rfl N.FCa.2.2 N.FCa.1.kp N.FCa.2.1 .nil Am (Aa (Ea Hd (Ca (pv 0) rfl) Es (Cw (Gn hu (Ca (pv 0) rfl) (pv 1) (fun _ _=>rfl)))) Ac)) (pv 2)))),?_⟩
  obtain ⟨⟨dx,fs,bl,bn,kp,kr,bvs,pvs,uvs,kvs,h1,l1,l2,l3,l4,lm,h2,h3,h4,h5,h6,h7,h8,h9⟩,ob5,osz,onk⟩:=id O.o
  obtain ⟨dx',fs',rl,rn,pp,kl,rvs,qvs,kvs',g1,m1,m2,m3,m4,g2,g3,g4,g5,g6,g7,lv,g8,g9⟩:=id O.r
  obtain ⟨e1,e2⟩:dx'=dx/\fs'=fs:=by rw [h1] at g1; cases g1; exact ⟨rfl,rfl⟩
  subst e1 e2
  have hj:j<rk.length:=(List.getElem?_eq_some_iff.mp hb).1
  have hl:=g3.length
  rw [List.length_map] at hl
  have g:=HY.k (k:=Sum.inr r.1) g4
  rw [g5 j r hb] at g
  refine ⟨_,rfl,x,C,_,_,_,rfl,h1,T.cl,T.n_rank_list,m1,_,rfl,x,C,_,_,_,rfl,h1,T.cl,T.n_rank_numbers,m2,_,rfl,rn,_,rfl,g,_,rfl,rl,rvs,rfl,.inl (.inl g2),fun p6 hp6=>?_⟩
  have s6:=Av (o:=HO.lst (Eg rvs none (some (j:Int)))) hp6
  have a6:upd H p6 (HO.lst (Eg rvs none (some (j:Int)))) p6=_:=Ag
  generalize upd H p6 (HO.lst (Eg rvs none (some (j:Int))))=H6 at s6 a6 ⊢
  rw [Gj rvs j (by omega)] at a6
  refine ⟨p6,(rk.map S6).take j,rvs.take j,rfl,a6,Iz (Ak s6 g3) j,(by rw [List.length_take,List.length_map]; have:=O.nr; omega),(fun a ha=>by obtain ⟨r',hr',rfl⟩:=List.mem_map.mp (List.mem_of_mem_take ha); exact Nat.le_trans (O.nz r' hr') (by decide)),fun H7 s7=>?_⟩
  have e7:(((rk.map S6).take j).map fun a=>a.2.1)=(rk.take j).map (fun r=>r.2.1):=by
   rw [← List.map_take,List.map_map]
   rfl
  rw [e7]
  exact ⟨_,rfl,_,_,rfl,rfl,q H7 (s6.trans s7)⟩
noncomputable def RP (l:List Nat):Nat:=l.foldl (· ||| ·) 0
theorem MP (l:List Nat) (n:Nat):RP (l++[n])=RP l ||| n:=by
 unfold RP
 rw [List.foldl_append]
 rfl
theorem P0:∀ (l:List Nat) (i:Nat),(RP l).testBit i=true ↔ ∃ n∈l,n.testBit i=true:=by
 have key:∀ (k:Nat) (l:List Nat) (i:Nat),l.length=k->((RP l).testBit i=true ↔ ∃ n∈l,n.testBit i=true):=by
  intro k
  induction k with
  | zero =>
   intro l i h
   cases l with
   | nil=>exact ⟨fun z=>absurd z (by unfold RP; rw [List.foldl_nil,Nat.zero_testBit]; decide),fun ⟨n,hn,_⟩=>nomatch hn⟩
   | cons a b=>cases h
  | succ k ih =>
   intro l i h
   obtain ⟨a,z,rfl⟩:=Ec (l:=l) (by intro e; rw [e] at h; cases h)
   rw [List.length_append,List.length_singleton] at h
   rw [MP,T9,ih a i (by omega)]
   constructor
   ·rintro (⟨n,hn,hb⟩ | hb)
    ·exact ⟨n,List.mem_append_left _ hn,hb⟩
    ·exact ⟨z,by simp,hb⟩
   ·rintro ⟨n,hn,hb⟩
    rcases List.mem_append.mp hn with h | h
    ·exact .inl ⟨n,h,hb⟩
    ·rw [List.mem_singleton.mp h] at hb
     exact .inr hb
 exact fun l i=>key l.length l i rfl
noncomputable def Wl:Sp:=fun vs H Q _=>∃ (p:Addr) (l:List Nat),vs=[.ref p]/\H p=some (.lst (nV l))/\l.length<=500/\Q (.int (RP l:Nat)) H
theorem Us:Aw ["sets","some","each"] ["sets"] (Ab ZL):=⟨rfl,rfl,rfl,by decide +kernel,rfl,by decide +kernel,by decide +kernel⟩
include N T in
theorem Vr:Ax P w K mg base Bf 1 fUn dUn ["sets"] Wl:=by
 refine N.FUn.1.ok Us (fun vs H Q E h=>?_) (fun cdv A outer s H vs Q E hr h=>?_)
 ·obtain ⟨p,l,rfl,_⟩:=h
  rfl
 ·obtain ⟨p,l,rfl,hp,hz,q⟩:=h
  refine ⟨_,(Ae (BJ (i:=1) Us.nd rfl (Or.inl rfl) Ad)
   (Ae (Ci PassesOwn.never rfl (Bd (pv 0)) (Bb (i:=2) Us.nd rfl (Or.inl rfl)) (Af (BJ (i:=1) Us.nd rfl (Or.inl rfl) (Ay Ox (pv 1) (pv 2)))))
   (Af (A_ (pv 1))))),?_⟩
  have hS:CK K H p (nV l):=.inl (.inl hp)
  refine ⟨_,rfl,p,rfl,⟨_,hS⟩,Cp (K:=K) (a:=p) (xs:=nV l) (fun i σ H4=>H4=H/\∃ v2,σ=[some (.ref p),some (.int (RP (l.take i):Nat)),v2]) ⟨rfl,_,rfl⟩ (fun i σ H4 _ h=>by rw [h.1]; exact hS) ?_ ?_⟩
  ·rintro i y σ H4 hi ⟨rfl,v2,rfl⟩
   rw [List.getElem?_map] at hi
   obtain ⟨n,hn,rfl⟩:=Option.map_eq_some_iff.mp hi
   refine ⟨_,rfl,_,rfl,_,_,rfl,rfl,?_⟩
   refine ⟨rfl,some (.int (n:Int)),?_⟩
   dsimp only
   rw [Ld,List.take_add_one,hn]
   show _=[some (V.ref p),some (V.int ((RP (l.take i++[n]):Nat):Int)),_]
   rw [MP]
   rfl
  ·rintro σ H4 ⟨rfl,v2,rfl⟩
   have el:l.take (nV l).length=l:=List.take_of_length_le (by simp)
   rw [el]
   exact ⟨_,rfl,q⟩
noncomputable def F_ (kbs:List Kb) (k:Nat):Nat:=match kbs[k]? with
 | some (.pl _ b)=>b
 | some (.cp b _ _)=>b
 | none=>0
theorem O6 {c:Nat->Str} {kbs:List Kb} {k:Nat} {r:R} (h:(CZ c kbs)[k]? = some r):∃ rs,r=⟨r.w,r.nm,.str (c (F_ kbs k))::rs⟩:=by
 obtain ⟨z,hz,rfl⟩:=Di h
 unfold F_
 rw [hz]
 cases z with
 | cp i j s=>exact ⟨_,rfl⟩
 | pl w i=>exact ⟨_,rfl⟩
theorem Td {n:Nat} {kbs:List Kb} {k:Nat} {z:Kb} (h:Nb n kbs) (hz:kbs[k]? = some z):F_ kbs k<n:=by
 have ho:=h.ok z (List.mem_of_getElem? hz)
 unfold F_
 rw [hz]
 cases z with
 | cp i j s=>exact ho.1
 | pl w i=>exact ho.1
noncomputable def J4 (kbs:List Kb) (D b:Nat):Prop:=∃ (k:Nat) (z:Kb),kbs[k]? = some z/\z.w = "mute" /\ D.testBit k=true/\F_ kbs k=b
noncomputable def aQ (C:Addr):Sp:=fun vs H Q _=>∃ (x:Addr) (c:Nat->Str) (sz:List Nat) (kbs:List Kb) (D:Nat),vs=[.ref x,.int (D:Nat)]/\DX C H x (BZ c sz) (CZ c kbs)/\Nb sz.length kbs/\∀ L (ml:List Nat) H',H L=none->Aj H H'->H' L=some (.lst (nV ml))->(∀ b,b∈ml ↔ J4 kbs D b)->ml.length<=200->Q (.ref L) H'
theorem jd:Aw ["organ","knobs"] ["organ","knobs"] (Ab Wz):=⟨rfl,rfl,rfl,by decide +kernel,rfl,by decide +kernel,by decide +kernel⟩
include N T in
theorem cz:Ax P w K mg base Bf 3 fMu dMu ["organ","knobs"] (aQ C):=by
 have GDc:Ax P w K mg base Bf 2 fDc dDc ["organ","knobs","word"] (Uy C):=Tq N T
 have GOm:Ax P w K mg base Bf 2 fOm dOm ["self","knob"] (QL C):=dD N T
 refine N.FMu.1.ok jd (fun vs H Q E h=>?_) (fun cdv A outer s H vs Q E hr h=>?_)
 ·obtain ⟨x,c,sz,kbs,D,rfl,_⟩:=h
  rfl
 ·obtain ⟨x,c,sz,kbs,D,rfl,O,hkb,q⟩:=h
  have hrDc:BV 2 _:=hr.mono (by decide)
  have hrOm:BV 2 _:=hr.mono (by decide)
  refine ⟨_,(Af (A_ (Bp rfl (BW (osc:=Ab Wz) (N:=["organ","knobs"]) rfl rfl (by decide +kernel)) (Bd (Ah GDc hrDc rfl N.FDc.2.2 N.FDc.1.kp N.FDc.2.1 .nil Am (Aa (pv 0) (Aa (pv 1) (Aa Bs Ac))))) (fun _ _ _ _=>CP) (fun _ _ _ _=>(Dp (pv 1) T.cl N.FOm.2.2 GOm hrOm N.FOm.2.1 .nil Am (Aa (pv 0) Ac)))))),?_⟩
  refine ⟨_,rfl,_,rfl,x,BZ c sz,CZ c kbs,"mute",D,rfl,O,fun CL cl H1 hCL s1 hl1 hcl hcll=>?_⟩
  have hS1:CK K H1 CL (nV cl):=.inl (.inl hl1)
  have O1:=O.mono s1
  let g:V->V:=fun v=>match v with | .int k=>.int (F_ kbs k.toNat:Nat) | _=>.non
  refine ⟨CL,rfl,⟨_,hS1⟩,Bx (K:=K) (xs:=nV cl) (fun _=>true) g hS1 (Az (by rw [List.length_map]; omega)) (fun y hy H' hs R k=>k H' (Aj.refl H')) (fun y hy _ H' hs R k=>?_) (fun D2 H2 hD2 s2 hl2=>?_)⟩
  ·obtain ⟨i,hi,rfl⟩:=List.mem_map.mp hy
   obtain ⟨r,hr,hw,hd⟩:=(hcl i).mp hi
   obtain ⟨rs,er⟩:=O6 hr
   rw [er] at hr
   obtain ⟨z,hz,_⟩:=Di hr
   have hb:=Td hkb hz
   obtain ⟨⟨dx,fs,bl,bn,kp,kr,bvs,pvs,uvs,kvs,h1,l1,l2,l3,l4,lm,_⟩,_⟩:=id (O1.mono hs)
   have kk:=k H' (Aj.refl H')
   refine ⟨_,rfl,x,dx,fs,rfl,h1,lm _ (by decide +kernel),_,rfl,x,BZ c sz,CZ c kbs,i,F_ kbs i,(c (F_ kbs i),sz[F_ kbs i]),_,_,rs,rfl,O1.mono hs,hr,DW (List.getElem?_eq_getElem hb),kk⟩
  ·rw [List.filter_eq_self.mpr (fun _ _=>rfl)] at hl2
   have e:(nV cl).map g=nV (cl.map (F_ kbs)):=by
    unfold nV
    rw [List.map_map,List.map_map]
    rfl
   rw [e] at hl2
   refine q D2 _ H2 (s1.free hD2) (s1.trans s2) hl2 (fun b=>?_) (by rw [List.length_map]; exact hcll)
   rw [List.mem_map]
   constructor
   ·rintro ⟨k,hk,rfl⟩
    obtain ⟨r,hr,hw,hd⟩:=(hcl k).mp hk
    obtain ⟨z,hz,rfl⟩:=Di hr
    exact ⟨k,z,hz,(HQ _ _ _).symm.trans hw,hd,rfl⟩
   ·rintro ⟨k,z,hz,hw,hd,rfl⟩
    exact ⟨k,(hcl k).mpr ⟨_,Eb hz,(HQ _ _ _).trans hw,hd⟩,rfl⟩
noncomputable def WR (sz:List Nat) (i b:Nat):Prop:=∃ n,n<sz.getD b 0/\b<sz.length/\i=(sz.take b).sum+n
theorem Jg {c:Nat->Str} {sz:List Nat} {i a n:Nat} (h:(Ds (BZ c sz))[i]? = some (a,n)):WR sz i a:=by
 obtain ⟨b,hb,hn,hi⟩:=JL h
 obtain ⟨z,hz,rfl⟩:=Fj hb
 rw [Bq] at hi
 refine ⟨n,?_,(List.getElem?_eq_some_iff.mp hz).1,hi⟩
 rw [List.getD_eq_getElem?_getD,hz]
 exact hn
theorem Jh {sz:List Nat} {i a b:Nat} (h1:WR sz i a) (h2:WR sz i b):a=b:=by
 obtain ⟨n,hn,ha,rfl⟩:=h1
 obtain ⟨m,hm,hb,e⟩:=h2
 have key:∀ {a b n m:Nat},a<b->b<sz.length->n<sz.getD a 0->(sz.take a).sum+n ≠ (sz.take b).sum+m:=fun {a b n m} hab hb hn e=>by
  have h1:(sz.take (a+1)).sum<=(sz.take b).sum:=Ls sz (by omega)
  have ha:a<sz.length:=by omega
  rw [List.take_add_one,List.getElem?_eq_getElem ha,List.sum_append] at h1
  rw [List.getD_eq_getElem?_getD,List.getElem?_eq_getElem ha] at hn
  have hn':n<sz[a]:=hn
  simp at h1
  omega
 rcases Nat.lt_trichotomy a b with h | h | h
 ·exact absurd e (key h hb hn)
 ·exact h
 ·exact absurd e.symm (key h ha hm)
noncomputable def bJ (C:Addr):Sp:=fun vs H Q _=>∃ (x:Addr) (c:Nat->Str) (sz:List Nat) (kbs:List Kb) (D n:Nat),vs=[.ref x,.int (D:Nat),.int (n:Nat)]/\DX C H x (BZ c sz) (CZ c kbs)/\Nb sz.length kbs/\n<2 ^ 1200/\(∀ i,n.testBit i=true->i<sz.sum)/\sz.sum<=305 /\
 ∀ (m:Nat) H',Aj H H'->(∀ j,m.testBit j=true ↔ n.testBit j=true/\∀ b,WR sz j b->¬ J4 kbs D b)->Q (.int (m:Nat)) H'
theorem Zj:Aw ["organ","knobs","keys","muted"] ["organ","knobs","keys"] (Ab Wu):=⟨rfl,rfl,rfl,by decide +kernel,rfl,by decide +kernel,by decide +kernel⟩
include N T in
theorem d_:Ax P w K mg base Bf 4 fUk dUk ["organ","knobs","keys"] (bJ C):=by
 have GMu:Ax P w K mg base Bf 3 fMu dMu ["organ","knobs"] (aQ C):=cz N T
 have GMe:Ax P w K mg base Bf 2 fMe dMe ["some"] YM:=V1 N T
 have GOo:Ax P w K mg base Bf 1 fOo dOo ["self","key"] (Xk C):=Vz N T
 have GSt:Ax P w K mg base Bf 3 fSt dSt ["numbers"] Wf:=V6 N T
 refine N.FUk.1.ok Zj (fun vs H Q E h=>?_) (fun cdv A outer s H vs Q E hr h=>?_)
 ·obtain ⟨x,c,sz,kbs,D,n,rfl,_⟩:=h
  rfl
 ·obtain ⟨x,c,sz,kbs,D,n,rfl,O,hkb,hn,hnt,h305,q⟩:=h
  have hrMu:BV 3 _:=hr.mono (by decide)
  have hrMe:BV 2 _:=hr.mono (by decide)
  have hrOo:BV 1 _:=hr.mono (by decide)
  have hrSt:BV 3 _:=hr.mono (by decide)
  refine ⟨_,(Ae (BJ (i:=3) Zj.nd rfl (Or.inr rfl) (Ah GMu hrMu rfl N.FMu.2.2 N.FMu.1.kp N.FMu.2.1 .nil Am (Aa (pv 0) (Aa (pv 1) Ac))))
   (Af (A_ (Ah GSt hrSt rfl N.FSt.2.2 N.FSt.1.kp N.FSt.2.1 .nil Am (Aa (Bp rfl (BW (osc:=Ab Wu) (N:=["organ","knobs","keys","muted"]) rfl rfl (by decide +kernel)) (Bd (Ah GMe hrMe rfl N.FMe.2.2 N.FMe.1.kp N.FMe.2.1 .nil Am (Aa (pv 2) Ac))) (fun _ _ _ _=>(Ef (Ba (G3 (K:=K) rfl) (Ar (Al (K:=K) rfl) (Dp (pv 1) T.cl N.FOo.2.2 GOo hrOo N.FOo.2.1 .nil Am (Aa (pv 0) Ac)) Ad (fun _ _=>rfl)) (pv 4) rfl))) (fun _ _ _ _=>(pv 0))) Ac))))),?_⟩
  refine ⟨_,rfl,_,rfl,x,c,sz,kbs,D,rfl,O,hkb,fun ML ml H1 hML s1 hl1 hml hmll=>?_⟩
  refine ⟨_,rfl,n,rfl,hn,fun P1 H2 hP1 s2 hl2=>?_⟩
  have hS2:CK K H2 P1 (nV (Wd.mem n)):=.inl (.inl hl2)
  have O2:=O.mono (s1.trans s2)
  have hlen:=Wd.Le hn
  have hml1:(Wd.mem n).length<=305:=by
   have nd:(Wd.mem n).Nodup:=by unfold Wd.mem; exact List.Pairwise.filter _ List.nodup_range
   refine Nat.le_trans (Cu sz.sum nd fun i hi=>hnt i (Wd.mem_iff.mp hi)) h305
  have place:∀ {i},i∈Wd.mem n->∃ a m,(Ds (BZ c sz))[i]? = some (a,m):=fun {i} hi=>by
   have hlt:i<(Ds (BZ c sz)).length:=by rw [Dm,Bq]; exact hnt i (Wd.mem_iff.mp hi)
   exact ⟨_,_,List.getElem?_eq_getElem hlt⟩
  let p:V->Bool:=fun v=>match v with | .int i=>(match (Ds (BZ c sz))[i.toNat]? with | some (a,_)=>!decide (a∈ml) | none=>true) | _=>true
  refine ⟨P1,rfl,⟨_,hS2⟩,Bx (K:=K) (xs:=nV (Wd.mem n)) p id hS2 (Az (by rw [List.length_map]; omega)) (fun y hy H' hs R k=>?_) (fun y hy _ H' hs R k=>⟨_,rfl,k H' (Aj.refl H')⟩) (fun D3 H3 hD3 s3 hl3=>?_)⟩
  ·obtain ⟨i,hi,rfl⟩:=List.mem_map.mp hy
   obtain ⟨a,m,hpl⟩:=place hi
   have ep:p (V.int (i:Nat)) = !decide (a∈ml):=by
    show (match (Ds (BZ c sz))[((i:Nat):Int).toNat]? with | some (a,_)=>!decide (a∈ml) | none=>true)=_
    rw [Int.toNat_natCast,hpl]
   have kk:=k H' (Aj.refl H')
   rw [ep] at kk
   obtain ⟨⟨dx,fs,bl,bn,kp,kr,bvs,pvs,uvs,kvs,h1,l1,l2,l3,l4,lm,_⟩,_⟩:=id (O2.mono hs)
   refine ⟨_,rfl,x,dx,fs,rfl,h1,lm _ (by decide +kernel),_,rfl,x,BZ c sz,CZ c kbs,i,(a,m),rfl,O2.mono hs,hpl,fun yv hyv=>?_⟩
   obtain ⟨T0,rfl,hT⟩:=hyv
   refine ⟨T0,_,_,_,rfl,rfl,.inl (.inl hT),Ai (j:=0) rfl,_,rfl,ML,_,rfl,.inl (.inl (.inl (hs _ _ (s2 _ _ hl1)))),rfl,Mt ml,_,rfl,?_⟩
   have ein:inV (V.int (a:Nat)) (nV ml)=decide (a∈ml):=Ku a ml
   rw [ein]
   exact kk
  ·rw [List.map_id] at hl3
   have e3:(nV (Wd.mem n)).filter p=nV ((Wd.mem n).filter fun i=>p (.int (i:Nat))):=by
    unfold nV
    rw [List.filter_map]
    rfl
   rw [e3] at hl3
   have hsub:∀ i∈(Wd.mem n).filter (fun i=>p (.int (i:Nat))),i<sz.sum:=fun i hi=>hnt i (Wd.mem_iff.mp (List.mem_filter.mp hi).1)
   refine ⟨D3,_,rfl,hl3,Nat.le_trans (List.length_filter_le _ _) (by omega),fun i hi=>by have:=hsub i hi; omega,fun H4 s4=>?_⟩
   refine q _ H4 (s1.trans (s2.trans (s3.trans s4))) fun j=>?_
   rw [Wd.Ig,decide_eq_true_eq,List.mem_filter,Wd.mem_iff]
   constructor
   ·rintro ⟨h1,h2⟩
    refine ⟨h1,fun b hb hm=>?_⟩
    obtain ⟨a,m,hpl⟩:=place (Wd.mem_iff.mpr h1)
    have ep:p (V.int (j:Nat)) = !decide (a∈ml):=by
     show (match (Ds (BZ c sz))[((j:Nat):Int).toNat]? with | some (a,_)=>!decide (a∈ml) | none=>true)=_
     rw [Int.toNat_natCast,hpl]
    rw [ep] at h2
    have hba:=Jh hb (Jg hpl)
    subst hba
    rw [decide_eq_true ((hml b).mpr hm)] at h2
    cases h2
   ·rintro ⟨h1,h2⟩
    refine ⟨h1,?_⟩
    obtain ⟨a,m,hpl⟩:=place (Wd.mem_iff.mpr h1)
    have ep:p (V.int (j:Nat)) = !decide (a∈ml):=by
     show (match (Ds (BZ c sz))[((j:Nat):Int).toNat]? with | some (a,_)=>!decide (a∈ml) | none=>true)=_
     rw [Int.toNat_natCast,hpl]
    rw [ep,decide_eq_false fun z=>h2 a (Jg hpl) ((hml a).mp z)]
    rfl
noncomputable def Jv (c:Nat->Str) (sz:List Nat) (kbs:List Kb) (D n j:Nat):Prop:=Fz (stp (BZ c sz) kbs D) (fun i=>n.testBit i=true) j \/ (n.testBit j=true/\∀ b,WR sz j b->¬ J4 kbs D b)
noncomputable def Z6 (C:Addr):Sp:=fun vs H Q _=>∃ (x:Addr) (c:Nat->Str) (sz:List Nat) (kbs:List Kb) (D n:Nat),vs=[.ref x,.int (D:Nat),.int (n:Nat)]/\DX C H x (BZ c sz) (CZ c kbs)/\Nb sz.length kbs/\n<2 ^ 1200/\(∀ i,n.testBit i=true->i<sz.sum) /\
 ∀ (m:Nat) H',Aj H H'->(∀ j,m.testBit j=true ↔ Jv c sz kbs D n j)->Q (.int (m:Nat)) H'
theorem iQ:Aw ["organ","knobs","held"] ["organ","knobs","held"] (Ab Yr):=⟨rfl,rfl,rfl,by decide +kernel,rfl,by decide +kernel,by decide +kernel⟩
include N T in
theorem cP:Ax P w K mg base Bf 6 fSk dSk ["organ","knobs","held"] (Z6 C):=by
 have GCq:Ax P w K mg base Bf 5 fCq dCq ["organ","knobs","held"] (dF C):=bc N T
 have GUk:Ax P w K mg base Bf 4 fUk dUk ["organ","knobs","keys"] (bJ C):=d_ N T
 have GHk:Ax P w K mg base Bf 2 fHk dHk ["organ","held"] (XN C):=V7 N T
 refine N.FSk.1.ok iQ (fun vs H Q E h=>?_) (fun cdv A outer s H vs Q E hr h=>?_)
 ·obtain ⟨x,c,sz,kbs,D,n,rfl,_⟩:=h
  rfl
 ·obtain ⟨x,c,sz,kbs,D,n,rfl,O,hkb,hn,hnt,q⟩:=h
  have hrCq:BV 5 _:=hr.mono (by decide)
  have hrUk:BV 4 _:=hr.mono (by decide)
  have hrHk:BV 2 _:=hr.mono (by decide)
  refine ⟨_,(Af (A_ (Ay Ox (Ah GCq hrCq rfl N.FCq.2.2 N.FCq.1.kp N.FCq.2.1 .nil Am (Aa (pv 0) (Aa (pv 1) (Aa (pv 2) Ac)))) (Ah GUk hrUk rfl N.FUk.2.2 N.FUk.1.kp N.FUk.2.1 .nil Am (Aa (pv 0) (Aa (pv 1) (Aa (Ah GHk hrHk rfl N.FHk.2.2 N.FHk.1.kp N.FHk.2.1 .nil Am (Aa (pv 0) (Aa (pv 2) Ac))) Ac))))))),?_⟩
  have hsum:((BZ c sz).map (·.2)).sum=sz.sum:=by rw [Bq]
  have h305:=Ex O
  rw [hsum] at h305
  refine ⟨_,rfl,_,rfl,_,rfl,x,c,sz,kbs,D,n,rfl,O,hkb,hn,hnt,fun m1 H1 s1 hm1=>?_⟩
  refine ⟨_,rfl,_,rfl,_,rfl,_,rfl,x,BZ c sz,CZ c kbs,n,rfl,O.mono s1,hn,?_⟩
  rw [hsum,QD hnt]
  refine ⟨x,c,sz,kbs,D,n,rfl,O.mono s1,hkb,hn,hnt,h305,fun m2 H2 s2 hm2=>?_⟩
  refine ⟨_,_,rfl,rfl,?_⟩
  show Q (.int (Builtin.bitOr (m1:Int) (m2:Int))) H2
  rw [Ld]
  refine q (m1 ||| m2) H2 (s1.trans s2) fun j=>?_
  rw [T9,hm1,hm2]
  rfl
noncomputable def Ug (sz:List Nat) (b n:Nat):Nat:=Wd.mv n (-((sz.take b).sum:Int)) (sz.getD b 0)
theorem Sg (n:Nat) (k:Int) (c:Nat):Wd.mv n k c<2 ^ c:=by
 unfold Wd.mv
 exact Nat.mod_lt _ (Nat.two_pow_pos _)
noncomputable def d8 (C:Addr):Sp:=fun vs H Q _=>∃ (x:Addr) (c:Nat->Str) (sz:List Nat) (ks:List R) (b n:Nat),vs=[.ref x,.int (b:Nat),.int (n:Nat)]/\DX C H x (BZ c sz) ks/\b<sz.length/\n<2 ^ 1200/\∀ H',Aj H H'->Q (.int (Ug sz b n:Nat)) H'
theorem bO:Aw ["organ","board","keys","told"] ["organ","board","keys"] (Ab Yv):=⟨rfl,rfl,rfl,by decide +kernel,rfl,by decide +kernel,by decide +kernel⟩
include N T in
theorem cH:Ax P w K mg base Bf 3 fNb dNb ["organ","board","keys"] (d8 C):=by
 have GOb:Ax P w K mg base Bf 1 fOb dOb ["self"] (Xn C):=WF N T
 have GOk:Ax P w K mg base Bf 2 fOk dOk ["self","board","number"] (Wg C):=WY N T
 have GSh:Ax P w K mg base Bf 1 fSh dSh ["some","steps","count"] U5:=Rw N T
 refine N.FNb.1.ok bO (fun vs H Q E h=>?_) (fun cdv A outer s H vs Q E hr h=>?_)
 ·obtain ⟨x,c,sz,ks,b,n,rfl,_⟩:=h
  rfl
 ·obtain ⟨x,c,sz,ks,b,n,rfl,O,hb,hn,q⟩:=h
  have hrOb:BV 1 _:=hr.mono (by decide)
  have hrOk:BV 2 _:=hr.mono (by decide)
  have hrSh:BV 1 _:=hr.mono (by decide)
  refine ⟨_,(Ae (BJ (i:=3) bO.nd rfl (Or.inl rfl) (Ar (Bc (K:=K) rfl) (Eo (pv 0) T.cl N.FOb.2.2 GOb hrOb N.FOb.2.1 .nil Am) (pv 1) (fun _ _=>rfl)))
   (Af (A_ (Ah GSh hrSh rfl N.FSh.2.2 N.FSh.1.kp N.FSh.2.1 .nil Am (Aa (pv 2) (Aa (Mq Ji (Dp (pv 0) T.cl N.FOk.2.2 GOk hrOk N.FOk.2.1 .nil Am (Aa (Ar (Al (K:=K) rfl) (pv 3) Ad (fun _ _=>rfl)) (Aa Ad Ac)))) (Aa (Ar (Al (K:=K) rfl) (pv 3) Ad (fun _ _=>rfl)) Ac))))))),?_⟩
  have h305:=Ex O
  rw [Bq] at h305
  have hst:(sz.take b).sum<=sz.sum:=by
   have:=congrArg List.sum (List.take_append_drop b sz)
   rw [List.sum_append] at this
   omega
  have hbs:(BZ c sz)[b]? = some (c b,sz[b]):=DW (List.getElem?_eq_getElem hb)
  have h61:=O.sz (c b,sz[b]) (List.mem_of_getElem? hbs)
  have h61':sz[b]<=61:=h61
  have esum:(((BZ c sz).take b).map (·.2)).sum=(sz.take b).sum:=by rw [List.map_take,Bq]
  have egd:sz.getD b 0=sz[b]:=by rw [List.getD_eq_getElem?_getD,List.getElem?_eq_getElem hb]; rfl
  have meth:∀ {H':Hp},DX C H' x (BZ c sz) ks->∃ dx fs,H' x=some (.ins C dx fs)/\∀ m∈meths,fs.lookup m=none:=fun O'=>by
   obtain ⟨⟨dx,fs,_,_,_,_,_,_,_,_,h1,_,_,_,_,lm,_⟩,_⟩:=O'
   exact ⟨dx,fs,h1,lm⟩
  obtain ⟨dx,fs,hx,lm⟩:=meth O
  refine ⟨_,rfl,x,dx,fs,rfl,hx,lm _ (by decide +kernel),x,BZ c sz,ks,rfl,O,fun D bvs H2 hD s2 hl2 hb2=>?_⟩
  obtain ⟨v3,hv3,T3,rfl,ht3⟩:=Bw hb2 hbs
  refine ⟨_,rfl,D,bvs,_,_,rfl,rfl,.inl (.inl hl2),Ai hv3,?_⟩
  obtain ⟨dx2,fs2,hx2,lm2⟩:=meth (O.mono s2)
  refine ⟨_,rfl,_,rfl,x,dx2,fs2,rfl,hx2,lm2 _ (by decide +kernel),_,rfl,T3,_,_,_,rfl,rfl,.inl (.inl ht3),Ai (j:=0) rfl,x,BZ c sz,ks,b,(c b,sz[b]),0,rfl,O.mono s2,hbs,fun H3 s3=>?_⟩
  refine ⟨_,rfl,_,rfl,T3,_,_,_,rfl,rfl,.inl (.inl (s3 _ _ ht3)),Ai (j:=1) rfl,n,_,sz[b],rfl,hn,?_,?_,by omega,?_⟩
  ·rw [esum]
   omega
  ·rw [esum]
   omega
  ·have fin:=q H3 (s2.trans s3)
   unfold Ug at fin
   rw [egd] at fin
   rw [esum,Int.add_zero]
   exact fin
noncomputable def VP (rk:List (Str × Nat × Int)) (r:Nat):Nat:=((rk.take r).map (fun r=>r.2.1)).sum
noncomputable def Lq (rk:List (Str × Nat × Int)) (r:Nat):Nat:=(rk.map (fun r=>r.2.1)).getD r 0
noncomputable def ZS (rk:List (Str × Nat × Int)):Nat:=(rk.map (fun r=>r.2.1)).sum
structure ZZ (rk:List (Str × Nat × Int)) (l:Ln):Prop where
 r:l.r<rk.length
 lo:0<=l.lo
 le:l.lo<=l.hi
 hi:l.hi<=60
 s1 : -200<=l.sh
 s2:l.sh<=200
noncomputable def M7 (rk:List (Str × Nat × Int)) (l:Ln) (n:Nat):Nat:=Wd.mv (Wd.mv (Wd.mv n (-l.lo) (l.hi - l.lo+1).toNat) (l.lo+l.sh) (Lq rk l.r)) (VP rk l.r:Nat) (ZS rk)
theorem Rm {rk:List (Str × Nat × Int)} {r:Nat} (h:r<rk.length):VP rk r+Lq rk r<=ZS rk:=by
 unfold VP Lq ZS
 have e:((rk.map (fun r=>r.2.1)).take (r+1)).sum=((rk.take r).map (fun r=>r.2.1)).sum+(rk.map (fun r=>r.2.1)).getD r 0:=by
  rw [List.take_add_one,List.getElem?_eq_getElem (by rw [List.length_map]; exact h),List.sum_append,List.map_take,List.getD_eq_getElem?_getD,List.getElem?_eq_getElem (by rw [List.length_map]; exact h)]
  simp
 have:=congrArg List.sum (List.take_append_drop (r+1) (rk.map (fun r=>r.2.1)))
 rw [List.sum_append] at this
 omega
theorem W6 {rk:List (Str × Nat × Int)} (h1:rk.length<=12) (h2:∀ r∈rk,r.2.1<=97):ZS rk<=1164:=by
 have h:=Kv (rk.map Xe) 97 fun b hb=>by
  obtain ⟨r,hr,rfl⟩:=List.mem_map.mp hb
  exact h2 r hr
 rw [Dm,List.map_map,List.length_map] at h
 have:rk.length * 97<=12 * 97:=Nat.mul_le_mul_right _ h1
 have e:ZS rk=(rk.map ((·.2) ∘ Xe)).sum:=rfl
 omega
noncomputable def Zq (C:Addr):Sp:=fun vs H Q _=>∃ (x:Addr) (bs:List (Str × Nat)) (rk:List (Str × Nat × Int)) (ks:List R) (ls:List (List Ln)) (y:V) (l:Ln) (n:Nat),vs=[.ref x,y,.int (n:Nat)]/\Dn C H x bs rk ks ls/\TupAt H (TX l) y/\ZZ rk l/\n<2 ^ 1200/\∀ H',Aj H H'->Q (.int (M7 rk l n:Nat)) H'
theorem Vn:Aw ["organ","line","numbers","rank","from_low","on_rank"] ["organ","line","numbers"] (Ab ZP):=⟨rfl,rfl,rfl,by decide +kernel,rfl,by decide +kernel,by decide +kernel⟩
include N T in
theorem du:Ax P w K mg base Bf 3 fLl dLl ["organ","line","numbers"] (Zq C):=by
 have GOr:Ax P w K mg base Bf 1 fOr dOr ["self"] (aL C):=az N T
 have GSh:Ax P w K mg base Bf 1 fSh dSh ["some","steps","count"] U5:=Rw N T
 have GOe:Ax P w K mg base Bf 2 fOe dOe ["self","rank","number"] (cF C):=eU N T
 have GOq:Ax P w K mg base Bf 1 fOq dOq ["self"] (Zn C):=bG N T
 refine N.FLl.1.ok Vn (fun vs H Q E h=>?_) (fun cdv A outer s H vs Q E hr h=>?_)
 ·obtain ⟨x,bs,rk,ks,ls,y,l,n,rfl,_⟩:=h
  rfl
 ·obtain ⟨x,bs,rk,ks,ls,y,l,n,rfl,O,hy,hg,hn,q⟩:=h
  have hrOr:BV 1 _:=hr.mono (by decide)
  have hrSh:BV 1 _:=hr.mono (by decide)
  have hrOe:BV 2 _:=hr.mono (by decide)
  have hrOq:BV 1 _:=hr.mono (by decide)
  refine ⟨_,(Ae (BJ (i:=3) Vn.nd rfl (Or.inl rfl) (Ar (Bc (K:=K) rfl) (Eo (pv 0) T.cl N.FOr.2.2 GOr hrOr N.FOr.2.1 .nil Am) (Ar (Al (K:=K) rfl) (pv 1) Ad (fun _ _=>rfl)) (fun _ _=>rfl)))
   (Ae (BJ (i:=4) Vn.nd rfl (Or.inl rfl) (Ah GSh hrSh rfl N.FSh.2.2 N.FSh.1.kp N.FSh.2.1 .nil Am (Aa (pv 2) (Aa (Mq Ji (Ar (Al (K:=K) rfl) (pv 1) Ad (fun _ _=>rfl))) (Aa (Ay Bo (Ay Dw (Ar (Al (K:=K) rfl) (pv 1) Ad (fun _ _=>rfl)) (Ar (Al (K:=K) rfl) (pv 1) Ad (fun _ _=>rfl))) Ad) Ac)))))
   (Ae (BJ (i:=5) Vn.nd rfl (Or.inl rfl) (Ah GSh hrSh rfl N.FSh.2.2 N.FSh.1.kp N.FSh.2.1 .nil Am (Aa (pv 4) (Aa (Ay Bo (Ar (Al (K:=K) rfl) (pv 1) Ad (fun _ _=>rfl)) (Ar (Al (K:=K) rfl) (pv 1) Ad (fun _ _=>rfl))) (Aa (Ar (Al (K:=K) rfl) (pv 3) Ad (fun _ _=>rfl)) Ac)))))
   (Af (A_ (Ah GSh hrSh rfl N.FSh.2.2 N.FSh.1.kp N.FSh.2.1 .nil Am (Aa (pv 5) (Aa (Dp (pv 0) T.cl N.FOe.2.2 GOe hrOe N.FOe.2.1 .nil Am (Aa (Ar (Al (K:=K) rfl) (pv 3) Ad (fun _ _=>rfl)) (Aa Ad Ac))) (Aa (Eo (pv 0) T.cl N.FOq.2.2 GOq hrOq N.FOq.2.1 .nil Am) Ac))))))))),?_⟩
  obtain ⟨T0,rfl,hT⟩:=hy
  have hto:=W6 O.nr O.nz
  have hlr:l.r<rk.length:=hg.r
  have hst:=Rm hlr
  have hrk:=List.getElem?_eq_getElem hlr
  have h97:rk[l.r].2.1<=97:=O.nz _ (List.getElem_mem hg.r)
  have esz:Lq rk l.r=rk[l.r].2.1:=by
   unfold Lq
   rw [List.getD_eq_getElem?_getD,List.getElem?_map,hrk]
   rfl
  have etot:(Ds (rk.map Xe)).length=ZS rk:=by
   rw [Dm,List.map_map]
   rfl
  have h1:=hg.lo
  have h2:=hg.le
  have h3:=hg.hi
  have h4:=hg.s1
  have h5:=hg.s2
  have meth:∀ {H':Hp},Dn C H' x bs rk ks ls->∃ dx fs,H' x=some (.ins C dx fs)/\∀ m∈meths,fs.lookup m=none:=fun O'=>by
   obtain ⟨⟨dx,fs,_,_,_,_,_,_,_,_,h1,_,_,_,_,lm,_⟩,_⟩:=O'.o
   exact ⟨dx,fs,h1,lm⟩
  obtain ⟨dx,fs,hx,lm⟩:=meth O
  refine ⟨_,rfl,x,dx,fs,rfl,hx,lm _ (by decide +kernel),x,bs,rk,ks,ls,rfl,O,fun D rvs H2 hD s2 hl2 hb2=>?_⟩
  have hT2:=s2 _ _ hT
  have hrk3:(rk.map S6)[l.r]? = some (S6 rk[l.r]):=by rw [List.getElem?_map,hrk]; rfl
  obtain ⟨v3,hv3,T3,rfl,ht3⟩:=Bw hb2 hrk3
  refine ⟨_,rfl,T0,_,_,_,rfl,rfl,.inl (.inl hT2),Ai (j:=0) rfl,D,rvs,_,_,rfl,rfl,.inl (.inl hl2),Ai hv3,?_⟩
  have e1:l.hi - l.lo+1=(((l.hi - l.lo+1).toNat:Nat):Int):=by omega
  refine ⟨_,rfl,_,rfl,T0,_,_,_,rfl,rfl,.inl (.inl hT2),Ai (j:=2) rfl,_,rfl,_,rfl,T0,_,_,_,rfl,rfl,.inl (.inl hT2),Ai (j:=3) rfl,_,rfl,T0,_,_,_,rfl,rfl,.inl (.inl hT2),Ai (j:=2) rfl,_,_,rfl,rfl,_,_,rfl,rfl,n,-l.lo,(l.hi - l.lo+1).toNat,(by rw [← e1] <;> rfl),hn,by omega,by omega,by omega,?_⟩
  have n1:=Sg n (-l.lo) (l.hi - l.lo+1).toNat
  generalize hn1:Wd.mv n (-l.lo) (l.hi - l.lo+1).toNat=a1 at n1 ⊢
  have n1':a1<2 ^ 1200:=Nat.lt_of_lt_of_le n1 (Nat.pow_le_pow_right (by decide) (by omega))
  refine ⟨_,rfl,_,rfl,T0,_,_,_,rfl,rfl,.inl (.inl hT2),Ai (j:=2) rfl,_,rfl,T0,_,_,_,rfl,rfl,.inl (.inl hT2),Ai (j:=1) rfl,_,_,rfl,rfl,_,rfl,T3,_,_,_,rfl,rfl,.inl (.inl ht3),Ai (j:=1) rfl,a1,l.lo+l.sh,rk[l.r].2.1,rfl,n1',by omega,by omega,by omega,?_⟩
  have n2:=Sg a1 (l.lo+l.sh) rk[l.r].2.1
  generalize hn2:Wd.mv a1 (l.lo+l.sh) rk[l.r].2.1=a2 at n2 ⊢
  have n2':a2<2 ^ 1200:=Nat.lt_of_lt_of_le n2 (Nat.pow_le_pow_right (by decide) (by omega))
  obtain ⟨dx2,fs2,hx2,lm2⟩:=meth (O.mono s2)
  refine ⟨_,rfl,_,rfl,x,dx2,fs2,rfl,hx2,lm2 _ (by decide +kernel),_,rfl,T3,_,_,_,rfl,rfl,.inl (.inl ht3),Ai (j:=0) rfl,x,bs,rk,ks,ls,l.r,rk[l.r],0,rfl,O.mono s2,hrk,fun H3 s3=>?_⟩
  obtain ⟨dx3,fs3,hx3,lm3⟩:=meth ((O.mono s2).mono s3)
  refine ⟨_,rfl,x,dx3,fs3,rfl,hx3,lm3 _ (by decide +kernel),x,bs,rk,ks,ls,rfl,(O.mono s2).mono s3,a2,_,(Ds (rk.map Xe)).length,rfl,n2',?_,?_,?_,?_⟩
  ·omega
  ·have:((rk.take l.r).map (fun r=>r.2.1)).sum=VP rk l.r:=rfl
   omega
  ·omega
  ·have fin:=q H3 (s2.trans s3)
   unfold M7 at fin
   rw [hn1,esz,hn2] at fin
   rw [etot,Int.add_zero]
   exact fin
noncomputable def gO (H:Hp):V->Ln
 | .ref T=>match H T with
  | some (.tup [.int r,.int sh,.int lo,.int hi])=>⟨r.toNat,sh,lo,hi⟩
  | _=>⟨0,0,0,0⟩
 | _=>⟨0,0,0,0⟩
theorem RN {H:Hp} {l:Ln} {v:V} (h:TupAt H (TX l) v):gO H v=l:=by
 obtain ⟨T,rfl,e⟩:=h
 show (match H T with | some (.tup [.int r,.int sh,.int lo,.int hi])=>(⟨r.toNat,sh,lo,hi⟩:Ln) | _=>⟨0,0,0,0⟩)=l
 rw [e]
 show (⟨((l.r:Nat):Int).toNat,l.sh,l.lo,l.hi⟩:Ln)=l
 rw [Int.toNat_natCast]
theorem U8 {H:Hp} {l:List Ln} {vs:List V} (h:Paired (fun x y=>TupAt H (TX x) y) l vs):vs.map (gO H)=l:=by
 induction h with
 | nil=>rfl
 | cons x y ih=>rw [List.map_cons,ih,RN x]
noncomputable def UW (sz:List Nat) (rk:List (Str × Nat × Int)) (b:Nat) (l:List Ln) (n:Nat):Nat:=RP (l.map fun ln=>M7 rk ln (Ug sz b n))
noncomputable def eV (C:Addr):Sp:=fun vs H Q _=>∃ (x:Addr) (c:Nat->Str) (sz:List Nat) (rk:List (Str × Nat × Int)) (kbs:List Kb) (ls:List (List Ln)) (k n:Nat) (z:Kb) (l:List Ln),vs=[.ref x,.int (k:Nat),.int (n:Nat)]/\Dn C H x (BZ c sz) rk (CZ c kbs) ls/\Nb sz.length kbs/\kbs[k]? = some z/\ls[k]? = some l/\l.length<=100/\(∀ ln∈l,ZZ rk ln)/\n<2 ^ 1200/\∀ H',Aj H H'->Q (.int (UW sz rk (F_ kbs k) l n:Nat)) H'
theorem W9:Aw ["organ","knob","keys","stop","numbers"] ["organ","knob","keys"] (Ab Xy):=⟨rfl,rfl,rfl,by decide +kernel,rfl,by decide +kernel,by decide +kernel⟩
include N T in
theorem bF:Ax P w K mg base Bf 4 fBs dBs ["organ","knob","keys"] (eV C):=by
 have GOs:Ax P w K mg base Bf 2 fOs dOs ["self","knob"] (bM C):=b8 N T
 have GNb:Ax P w K mg base Bf 3 fNb dNb ["organ","board","keys"] (d8 C):=cH N T
 have GLl:Ax P w K mg base Bf 3 fLl dLl ["organ","line","numbers"] (Zq C):=du N T
 have GUn:Ax P w K mg base Bf 1 fUn dUn ["sets"] Wl:=Vr N T
 refine N.FBs.1.ok W9 (fun vs H Q E h=>?_) (fun cdv A outer s H vs Q E hr h=>?_)
 ·obtain ⟨x,c,sz,rk,kbs,ls,k,n,z,l,rfl,_⟩:=h
  rfl
 ·obtain ⟨x,c,sz,rk,kbs,ls,k,n,z,l,rfl,O,hkb,hz,hl,hl100,hg,hn,q⟩:=h
  have hrOs:BV 2 _:=hr.mono (by decide)
  have hrNb:BV 3 _:=hr.mono (by decide)
  have hrLl:BV 3 _:=hr.mono (by decide)
  have hrUn:BV 1 _:=hr.mono (by decide)
  refine ⟨_,(Ae (BJ (i:=3) W9.nd rfl (Or.inl rfl) (Dp (pv 0) T.cl N.FOs.2.2 GOs hrOs N.FOs.2.1 .nil Am (Aa (pv 1) Ac)))
   (Ae (BJ (i:=4) W9.nd rfl (Or.inr rfl) (Ah GNb hrNb rfl N.FNb.2.2 N.FNb.1.kp N.FNb.2.1 .nil Am (Aa (pv 0) (Aa (Ar (Al (K:=K) rfl) (pv 3) Ad (fun _ _=>rfl)) (Aa (pv 2) Ac)))))
   (Af (A_ (Ah GUn hrUn rfl N.FUn.2.2 N.FUn.1.kp N.FUn.2.1 .nil Am (Aa (Bp rfl (BW (osc:=Ab Xy) (N:=["organ","knob","keys","stop","numbers"]) rfl rfl (by decide +kernel)) (Bd (Ar (Al (K:=K) rfl) (pv 3) Ad (fun _ _=>rfl))) (fun _ _ _ _=>CP) (fun _ _ _ _=>(Ah GLl hrLl rfl N.FLl.2.2 N.FLl.1.kp N.FLl.2.1 .nil Am (Aa (pv 1) (Aa (pv 0) (Aa (pv 5) Ac)))))) Ac)))))),?_⟩
  have hr:=Eb (c:=c) hz
  obtain ⟨rs,er⟩:=O6 hr
  rw [er] at hr
  have hb:=Td hkb hz
  have hbs:(BZ c sz)[F_ kbs k]? = some (c (F_ kbs k),sz[F_ kbs k]):=DW (List.getElem?_eq_getElem hb)
  have meth:∀ {H':Hp},Dn C H' x (BZ c sz) rk (CZ c kbs) ls->∃ dx fs,H' x=some (.ins C dx fs)/\∀ m∈meths,fs.lookup m=none:=fun O'=>by
   obtain ⟨⟨dx,fs,_,_,_,_,_,_,_,_,h1,_,_,_,_,lm,_⟩,_⟩:=O'.o
   exact ⟨dx,fs,h1,lm⟩
  obtain ⟨dx,fs,hx,lm⟩:=meth O
  refine ⟨_,rfl,x,dx,fs,rfl,hx,lm _ (by decide +kernel),_,rfl,x,BZ c sz,rk,CZ c kbs,ls,k,F_ kbs k,(c (F_ kbs k),sz[F_ kbs k]),_,_,rs,l,rfl,O,hr,hbs,hl,fun T0 L0 ts H1 s1 hT0 hL0 htp=>?_⟩
  have O1:=O.mono s1
  refine ⟨_,rfl,_,rfl,T0,_,_,_,rfl,rfl,.inl (.inl hT0),Ai (j:=0) rfl,_,rfl,x,c,sz,CZ c kbs,F_ kbs k,n,rfl,O1.o,hb,hn,fun H2 s2=>?_⟩
  have O2:=O1.mono s2
  have nlt:=Sg n (-((sz.take (F_ kbs k)).sum:Int)) (sz.getD (F_ kbs k) 0)
  have h61:sz.getD (F_ kbs k) 0<=61:=by
   rw [List.getD_eq_getElem?_getD,List.getElem?_eq_getElem hb]
   exact O.o.sz _ (List.mem_of_getElem? hbs)
  have nlt':Ug sz (F_ kbs k) n<2 ^ 1200:=Nat.lt_of_lt_of_le nlt (Nat.pow_le_pow_right (by decide) (by omega))
  have hL2:=s2 _ _ hL0
  have htp2:=Ak s2 htp
  have hlt:=htp2.length
  have hS2:CK K H2 L0 ts:=.inl (.inl hL2)
  refine ⟨_,rfl,T0,_,_,_,rfl,rfl,.inl (.inl (s2 _ _ hT0)),Ai (j:=1) rfl,L0,rfl,⟨_,hS2⟩,Bx (K:=K) (xs:=ts) (fun _=>true) (fun v=>.int (M7 rk (gO H2 v) (Ug sz (F_ kbs k) n):Nat)) hS2 (Az (by omega)) (fun y hy H' hs R k=>k H' (Aj.refl H')) (fun y hy _ H' hs R k'=>?_) (fun D3 H3 hD3 s3 hl3=>?_)⟩
  ·obtain ⟨ln,hln,hyt⟩:=Cm htp2 hy
   have e:=RN hyt
   rw [e] at k'
   exact ⟨_,rfl,_,rfl,_,rfl,x,BZ c sz,rk,CZ c kbs,ls,y,ln,_,rfl,O2.mono hs,hyt.mono hs,hg ln hln,nlt',fun H4 s4=>k' H4 s4⟩
  ·rw [List.filter_eq_self.mpr (fun _ _=>rfl)] at hl3
   have e3:(ts.map fun v=>V.int (M7 rk (gO H2 v) (Ug sz (F_ kbs k) n):Nat))=nV (l.map fun ln=>M7 rk ln (Ug sz (F_ kbs k) n)):=by
    rw [← U8 htp2]
    unfold nV
    rw [List.map_map,List.map_map]
    rfl
   rw [e3] at hl3
   exact ⟨D3,_,rfl,hl3,(by rw [List.length_map]; omega),q H3 (s1.trans (s2.trans s3))⟩
noncomputable def Wv (sz:List Nat) (rk:List (Str × Nat × Int)) (kbs:List Kb) (ls:List (List Ln)) (cl:List Nat) (n:Nat):Nat:=RP (cl.map fun k=>UW sz rk (F_ kbs k) (ls.getD k []) n)
noncomputable abbrev gR (rk:List (Str × Nat × Int)) (ls:List (List Ln)):Prop:=∀ l∈ls,l.length<=100/\∀ ln∈l,ZZ rk ln
noncomputable def cY (C:Addr):Sp:=fun vs H Q _=>∃ (x:Addr) (c:Nat->Str) (sz:List Nat) (rk:List (Str × Nat × Int)) (kbs:List Kb) (ls:List (List Ln)) (D n:Nat),vs=[.ref x,.int (D:Nat),.int (n:Nat)]/\Dn C H x (BZ c sz) rk (CZ c kbs) ls/\Nb sz.length kbs/\gR rk ls/\n<2 ^ 1200 /\
 ∀ (cl:List Nat) H',Aj H H'->(∀ k,k∈cl ↔ ∃ z,kbs[k]? = some z/\z.w = "stop" /\ D.testBit k=true)->Q (.int (Wv sz rk kbs ls cl n:Nat)) H'
theorem iu:Aw ["organ","knobs","keys"] ["organ","knobs","keys"] (Ab Xg):=⟨rfl,rfl,rfl,by decide +kernel,rfl,by decide +kernel,by decide +kernel⟩
include N T in
theorem fX:Ax P w K mg base Bf 5 fBa dBa ["organ","knobs","keys"] (cY C):=by
 have GDc:Ax P w K mg base Bf 2 fDc dDc ["organ","knobs","word"] (Uy C):=Tq N T
 have GBs:Ax P w K mg base Bf 4 fBs dBs ["organ","knob","keys"] (eV C):=bF N T
 have GUn:Ax P w K mg base Bf 1 fUn dUn ["sets"] Wl:=Vr N T
 refine N.FBa.1.ok iu (fun vs H Q E h=>?_) (fun cdv A outer s H vs Q E hr h=>?_)
 ·obtain ⟨x,c,sz,rk,kbs,ls,D,n,rfl,_⟩:=h
  rfl
 ·obtain ⟨x,c,sz,rk,kbs,ls,D,n,rfl,O,hkb,hls,hn,q⟩:=h
  have hrDc:BV 2 _:=hr.mono (by decide)
  have hrBs:BV 4 _:=hr.mono (by decide)
  have hrUn:BV 1 _:=hr.mono (by decide)
  refine ⟨_,(Af (A_ (Ah GUn hrUn rfl N.FUn.2.2 N.FUn.1.kp N.FUn.2.1 .nil Am (Aa (Bp rfl (BW (osc:=Ab Xg) (N:=["organ","knobs","keys"]) rfl rfl (by decide +kernel)) (Bd (Ah GDc hrDc rfl N.FDc.2.2 N.FDc.1.kp N.FDc.2.1 .nil Am (Aa (pv 0) (Aa (pv 1) (Aa Bs Ac))))) (fun _ _ _ _=>CP) (fun _ _ _ _=>(Ah GBs hrBs rfl N.FBs.2.2 N.FBs.1.kp N.FBs.2.1 .nil Am (Aa (pv 1) (Aa (pv 0) (Aa (pv 3) Ac)))))) Ac)))),?_⟩
  refine ⟨_,rfl,_,rfl,x,BZ c sz,CZ c kbs,"stop",D,rfl,O.o,fun CL cl H1 hCL s1 hl1 hcl0 hcll=>?_⟩
  have hcl:∀ k,k∈cl ↔ ∃ z,kbs[k]? = some z/\z.w = "stop" /\ D.testBit k=true:=fun k=>by
   rw [hcl0]
   constructor
   ·rintro ⟨r,hr,hw,hd⟩
    obtain ⟨z,hz,rfl⟩:=Di hr
    exact ⟨z,hz,(HQ _ _ _).symm.trans hw,hd⟩
   ·rintro ⟨z,hz,hw,hd⟩
    exact ⟨_,Eb hz,(HQ _ _ _).trans hw,hd⟩
  have hS1:CK K H1 CL (nV cl):=.inl (.inl hl1)
  have O1:=O.mono s1
  let g:V->V:=fun v=>match v with | .int k=>.int (UW sz rk (F_ kbs k.toNat) (ls.getD k.toNat []) n:Nat) | _=>.non
  refine ⟨CL,rfl,⟨_,hS1⟩,Bx (K:=K) (xs:=nV cl) (fun _=>true) g hS1 (Az (by rw [List.length_map]; omega)) (fun y hy H' hs R k=>k H' (Aj.refl H')) (fun y hy _ H' hs R k=>?_) (fun D2 H2 hD2 s2 hl2=>?_)⟩
  ·obtain ⟨i,hi,rfl⟩:=List.mem_map.mp hy
   obtain ⟨z,hz,hw,hd⟩:=(hcl i).mp hi
   have hik:i<ls.length:=by
    rw [O.nl,Hz]
    exact (List.getElem?_eq_some_iff.mp hz).1
   have hli:=List.getElem?_eq_getElem hik
   have egd:ls.getD i []=ls[i]:=by rw [List.getD_eq_getElem?_getD,hli]; rfl
   have hg:=hls ls[i] (List.getElem_mem hik)
   refine ⟨_,rfl,_,rfl,_,rfl,x,c,sz,rk,kbs,ls,i,n,z,ls[i],rfl,O1.mono hs,hkb,hz,hli,hg.1,hg.2,hn,fun H4 s4=>?_⟩
   have kk:R (.int (UW sz rk (F_ kbs i) (ls.getD i []) n:Nat)) H4:=k H4 s4
   rw [egd] at kk
   exact kk
  ·rw [List.filter_eq_self.mpr (fun _ _=>rfl)] at hl2
   have e:(nV cl).map g=nV (cl.map fun k=>UW sz rk (F_ kbs k) (ls.getD k []) n):=by
    unfold nV
    rw [List.map_map,List.map_map]
    rfl
   rw [e] at hl2
   exact ⟨D2,_,rfl,hl2,(by rw [List.length_map]; omega),q cl H2 (s1.trans s2) hcl⟩
noncomputable def fG (C:Addr):Sp:=fun vs H Q _=>∃ (x:Addr) (c:Nat->Str) (sz:List Nat) (rk:List (Str × Nat × Int)) (kbs:List Kb) (ls:List (List Ln)) (D n:Nat),vs=[.ref x,.int (D:Nat),.int (n:Nat)]/\Dn C H x (BZ c sz) rk (CZ c kbs) ls/\Nb sz.length kbs/\gR rk ls/\n<2 ^ 1200/\(∀ i,n.testBit i=true->i<sz.sum) /\
 ∀ (cl:List Nat) (m:Nat) H',Aj H H'->(∀ k,k∈cl ↔ ∃ z,kbs[k]? = some z/\z.w = "stop" /\ D.testBit k=true)->(∀ j,m.testBit j=true ↔ Jv c sz kbs D n j)->Q (.int (Wv sz rk kbs ls cl m:Nat)) H'
theorem jO:Aw ["organ","knobs","held"] ["organ","knobs","held"] (Ab Zh):=⟨rfl,rfl,rfl,by decide +kernel,rfl,by decide +kernel,by decide +kernel⟩
include N T in
theorem Zm:Ax P w K mg base Bf 7 fSo dSo ["organ","knobs","held"] (fG C):=by
 have GSk:Ax P w K mg base Bf 6 fSk dSk ["organ","knobs","held"] (Z6 C):=cP N T
 have GBa:Ax P w K mg base Bf 5 fBa dBa ["organ","knobs","keys"] (cY C):=fX N T
 refine N.FSo.1.ok jO (fun vs H Q E h=>?_) (fun cdv A outer s H vs Q E hr h=>?_)
 ·obtain ⟨x,c,sz,rk,kbs,ls,D,n,rfl,_⟩:=h
  rfl
 ·obtain ⟨x,c,sz,rk,kbs,ls,D,n,rfl,O,hkb,hls,hn,hnt,q⟩:=h
  have hrSk:BV 6 _:=hr.mono (by decide)
  have hrBa:BV 5 _:=hr.mono (by decide)
  refine ⟨_,(Af (A_ (Ah GBa hrBa rfl N.FBa.2.2 N.FBa.1.kp N.FBa.2.1 .nil Am (Aa (pv 0) (Aa (pv 1) (Aa (Ah GSk hrSk rfl N.FSk.2.2 N.FSk.1.kp N.FSk.2.1 .nil Am (Aa (pv 0) (Aa (pv 1) (Aa (pv 2) Ac)))) Ac)))))),?_⟩
  have h305:=Ex O.o
  rw [Bq] at h305
  refine ⟨_,rfl,_,rfl,_,rfl,_,rfl,_,rfl,x,c,sz,kbs,D,n,rfl,O.o,hkb,hn,hnt,fun m H1 s1 hm=>?_⟩
  have hm12:m<2 ^ 1200:=by
   refine Nat.lt_pow_two_of_testBit m fun i hi=>?_
   rw [← Bool.not_eq_true]
   intro hb
   rcases (hm i).mp hb with h | h
   ·have:=h.lt
    rw [Bq] at this
    omega
   ·have:=hnt i h.1
    omega
  exact ⟨x,c,sz,rk,kbs,ls,D,m,rfl,O.mono s1,hkb,hls,hm12,fun cl H2 s2 hcl=>q cl m H2 (s1.trans s2) hcl hm⟩
theorem Sy (sz:List Nat) (b n i:Nat):(Ug sz b n).testBit i=true ↔ i<sz.getD b 0/\n.testBit ((sz.take b).sum+i)=true:=by
 unfold Ug
 rw [Wd.Jq]
 have e:((i:Int) - -(((sz.take b).sum:Nat):Int)).toNat=(sz.take b).sum+i:=by omega
 rw [e,Bool.and_eq_true,Bool.and_eq_true,decide_eq_true_eq,decide_eq_true_eq]
 exact ⟨fun h=>⟨h.1,h.2.2⟩,fun h=>⟨h.1,by omega,h.2⟩⟩
theorem O_ {rk:List (Str × Nat × Int)} {l:Ln} (g:ZZ rk l) (n p:Nat):(M7 rk l n).testBit p=true ↔ ∃ i:Nat,n.testBit i=true/\l.lo<=(i:Int)/\(i:Int)<=l.hi/\0<=(i:Int)+l.sh/\(i:Int)+l.sh<(Lq rk l.r:Nat)/\(p:Int)=(VP rk l.r:Nat)+((i:Int)+l.sh):=by
 have h1:=g.lo
 have h2:=g.le
 have h3:=Rm g.r
 unfold M7
 rw [Wd.Jq,Wd.Jq,Wd.Jq]
 simp only [Bool.and_eq_true,decide_eq_true_eq]
 constructor
 ·rintro ⟨a1,a2,b1,b2,c1,c2,hn⟩
  exact ⟨_,hn,by omega,by omega,by omega,by omega,by omega⟩
 ·rintro ⟨i,hn,a1,a2,a3,a4,e⟩
  have ei:(((((((p:Int) - ((VP rk l.r:Nat):Int)).toNat:Nat):Int) - (l.lo+l.sh)).toNat:Nat):Int) - -l.lo=(i:Int):=by omega
  refine ⟨by omega,by omega,by omega,by omega,by omega,by omega,?_⟩
  rw [ei,Int.toNat_natCast]
  exact hn
theorem YX {sz:List Nat} {rk:List (Str × Nat × Int)} {b:Nat} {l:List Ln} {n p:Nat} (g:∀ ln∈l,ZZ rk ln):(UW sz rk b l n).testBit p=true ↔ ∃ ln∈l,∃ i:Nat,i<sz.getD b 0/\n.testBit ((sz.take b).sum+i)=true/\ln.lo<=(i:Int)/\(i:Int)<=ln.hi/\0<=(i:Int)+ln.sh/\(i:Int)+ln.sh<(Lq rk ln.r:Nat)/\(p:Int)=(VP rk ln.r:Nat)+((i:Int)+ln.sh):=by
 unfold UW
 rw [P0]
 constructor
 ·rintro ⟨m,hm,hb⟩
  obtain ⟨ln,hl,rfl⟩:=List.mem_map.mp hm
  obtain ⟨i,hi,r⟩:=(O_ (g ln hl) _ _).mp hb
  obtain ⟨x,y⟩:=(Sy _ _ _ _).mp hi
  exact ⟨ln,hl,i,x,y,r⟩
 ·rintro ⟨ln,hl,i,x,y,r⟩
  exact ⟨_,List.mem_map_of_mem hl,(O_ (g ln hl) _ _).mpr ⟨i,(Sy _ _ _ _).mpr ⟨x,y⟩,r⟩⟩
theorem W5 {sz:List Nat} {rk:List (Str × Nat × Int)} {kbs:List Kb} {ls:List (List Ln)} {cl:List Nat} {n p:Nat}:(Wv sz rk kbs ls cl n).testBit p=true ↔ ∃ k∈cl,(UW sz rk (F_ kbs k) (ls.getD k []) n).testBit p=true:=by
 unfold Wv
 rw [P0]
 constructor
 ·rintro ⟨m,hm,hb⟩
  obtain ⟨k,hk,rfl⟩:=List.mem_map.mp hm
  exact ⟨k,hk,hb⟩
 ·rintro ⟨k,hk,hb⟩
  exact ⟨_,List.mem_map_of_mem hk,hb⟩
noncomputable def cL (K:PySem.W.Frag):Sp:=fun vs H Q _=>∃ (a:Addr) (k:Nat) (ns:List Int),vs=[.ref a,.int (k:Nat)]/\CK K H a (ns.map V.int)/\∀ i:Int,Q (.int i) H
theorem gr:Aw ["_law_script","_law_k"] ["_law_script","_law_k"] (Ab Yy):=⟨rfl,rfl,rfl,by decide +kernel,rfl,by decide +kernel,by decide +kernel⟩
include N T in
theorem cX:Ax P w K mg base Bf 1 fCe dCe ["_law_script","_law_k"] (cL K):=by
 refine N.FCe.1.ok gr (fun vs H Q E h=>?_) (fun cdv A outer s H vs Q E hr h=>?_)
 ·obtain ⟨a,k,ns,rfl,_⟩:=h
  rfl
 ·obtain ⟨a,k,ns,rfl,hS,q⟩:=h
  refine ⟨_,(Ae (CT (Ba Gf (pv 1) (BX Bg rfl T.len PySem.boot_len (Aa (pv 0) Ac)) (Be _)) (Af (A_ (Ar El (pv 0) (pv 1) (fun _ _=>rfl)))) Bj)
   (Af (A_ Ad))),?_⟩
  refine ⟨_,rfl,_,rfl,a,_,rfl,.inl hS,_,_,rfl,rfl,_,rfl,?_⟩
  refine Df (fun h1=>?_) (fun _=>q 0)
  have hlt:k<ns.length:=by have:=of_decide_eq_true h1; rw [List.length_map] at this; omega
  exact ⟨_,rfl,_,rfl,a,_,_,.int ns[k],rfl,rfl,hS,Ai (by rw [List.getElem?_map,List.getElem?_eq_getElem hlt]; rfl),q _⟩
theorem iI:Aw ["_law_found"] ["_law_found"] (Ab Yq):=⟨rfl,rfl,rfl,by decide +kernel,rfl,by decide +kernel,by decide +kernel⟩
include N T in
theorem eG:Ax P w K mg base Bf 1 fLw dLw ["_law_found"] Rc:=by
 refine N.FLw.1.ok iI (fun vs H Q E h=>?_) (fun cdv A outer s H vs Q E hr h=>?_)
 ·obtain ⟨i,rfl,_⟩:=h
  rfl
 ·obtain ⟨i,rfl,q⟩:=h
  refine ⟨_,(Af (A_ (Do (BX Dc rfl T.isin PyProof.Rows.boot_isinstance (Aa (pv 0) (Aa (Ei (v:=.ty "int") rfl T.int PyProof.Rows.boot_int rfl) Ac))) (Dg (Nu (BX Dc rfl T.isin PyProof.Rows.boot_isinstance (Aa (pv 0) (Aa (Ei (v:=.ty "bool") rfl T.bool PyProof.Rows.boot_bool rfl) Ac)))))))),?_⟩
  refine ⟨_,rfl,_,"int",_,_,rfl,.int i,ty_int,_,rfl,DN ?_⟩
  exact ⟨_,rfl,_,"bool",_,_,rfl,.int i,V5,_,rfl,q⟩
noncomputable def K4:Sp:=fun vs H Q _=>∃ (c k:Int),vs=[.int c,.int k]/\0<=k/\k<=1000/\Q (.int (Bl c k)) H
theorem bh:Aw ["_law_cell","_law_k","_law_number"] ["_law_cell","_law_k"] (Ab ZX):=⟨rfl,rfl,rfl,by decide +kernel,rfl,by decide +kernel,by decide +kernel⟩
include N T in
theorem JD:Ax P w K mg base Bf 1 fMx dMx ["_law_cell","_law_k"] K4:=by
 refine N.FMx.1.ok bh (fun vs H Q E h=>?_) (fun cdv A outer s H vs Q E hr h=>?_)
 ·obtain ⟨c,k,rfl,_⟩:=h
  rfl
 ·obtain ⟨c,k,rfl,h0,h1,q⟩:=h
  refine ⟨_,(Ae (BJ (i:=2) bh.nd rfl (Or.inl rfl) (Ay Br (Ay Je (Ay Bo (Ay Bo (Ay Bo (Ay Br (pv 0) Ad) (Ay Je (Ay Je Ad (pv 1)) (pv 1))) (pv 1)) Ad) Ad) Ad))
   (Af (A_ (Ay Br (Ay Je (pv 2) (pv 2)) Ad)))),?_⟩
  refine ⟨_,rfl,_,_,rfl,rfl,(by show (0:Int)<1000003; decide),_,rfl,_,_,rfl,rfl,.inl ⟨by decide,by decide⟩,_,rfl,_,_,rfl,rfl,.inl ⟨by omega,by omega⟩,_,_,rfl,rfl,_,rfl,_,_,rfl,rfl,_,_,rfl,rfl,_,_,rfl,rfl,.inr ⟨by decide,by decide⟩,_,_,rfl,rfl,(by show (0:Int)<2147483629; decide),?_⟩
  have g1:0<=(c % 1000003+7919 * k * k+k+1) * 48271 % 2147483629:=Int.emod_nonneg _ (by decide)
  have g2:(c % 1000003+7919 * k * k+k+1) * 48271 % 2147483629<2147483629:=Int.emod_lt_of_pos _ (by decide)
  exact ⟨_,rfl,_,rfl,_,_,rfl,rfl,.inl ⟨by omega,by omega⟩,_,_,rfl,rfl,(by show (0:Int)<2147483587; decide),q⟩
noncomputable def aq:Sp:=fun vs H Q _=>∃ (c:Int) (k:Nat),vs=[.int c,.int (k:Nat)]/\k<676/\∀ H',Aj H H'->Q (.str (Ce c k)) H'
theorem Qq:Aw ["_law_cell","_law_k","_law_letters","_law_size","_law_name_here","_law_at","_law_two"] ["_law_cell","_law_k"] (Ab Yc):=⟨rfl,rfl,rfl,by decide +kernel,rfl,by decide +kernel,by decide +kernel⟩
include N T in
theorem fU:Ax P w K mg base Bf 2 fNa dNa ["_law_cell","_law_k"] aq:=by
 have GMx:Ax P w K mg base Bf 1 fMx dMx ["_law_cell","_law_k"] K4:=JD N T
 refine N.FNa.1.ok Qq (fun vs H Q E h=>?_) (fun cdv A outer s H vs Q E hr h=>?_)
 ·obtain ⟨c,k,rfl,_⟩:=h
  rfl
 ·obtain ⟨c,k,rfl,hk,q⟩:=h
  have hrMx:BV 1 _:=hr.mono (by decide)
  refine ⟨_,(Ae (BJ (i:=2) Qq.nd rfl (Or.inr rfl) Bs)
   (Ae (BJ (i:=3) Qq.nd rfl (Or.inl rfl) (Ay Bo Ad (Ay Br (pv 0) Ad)))
   (Ae (BJ (i:=4) Qq.nd rfl (Or.inl rfl) (Ep PySem.F.plainAttrs_str PySem.F.slot_str_join PySem.F.type_str_join Ut Bs (Aa (Bp rfl (BW (osc:=Ab Yc) (N:=["_law_cell","_law_k","_law_letters","_law_size","_law_name_here","_law_at","_law_two"]) rfl rfl (by decide +kernel)) (Cj rfl T.range (Aa (pv 3) Ac)) (fun _ _ _ _=>CP) (fun _ _ _ _=>(Ar Ng (pv 3) (Ay Br (Ah GMx hrMx rfl N.FMx.2.2 N.FMx.1.kp N.FMx.2.1 .nil Am (Aa (Ay Cd (pv 1) Ad) (Aa (pv 0) Ac))) Ad) (fun _ _=>rfl)))) Ac)))
   (Ae (BJ (i:=5) Qq.nd rfl (Or.inl rfl) (Ay Br (Ay Cd (pv 0) Ad) (Ay Dw (pv 3) Ad)))
   (Ae (BJ (i:=6) Qq.nd rfl (Or.inl rfl) (Ay HF (Ar Ng (pv 2) (Ay Cd (pv 1) Ad) (fun _ _=>rfl)) (Ar Ng (pv 2) (Ay Br (pv 1) Ad) (fun _ _=>rfl))))
   (Af (A_ (Ay HF (Ay HF (Ea T4 (pv 4) Es (Cw (pv 5))) (pv 6)) (Ea T4 (pv 4) (Cw (Ay Bo (pv 5) Ad)) Es))))))))),?_⟩
  have zl:=Sd c
  have ez:2+c % 7=((OD c:Nat):Int):=by unfold OD; omega
  refine ⟨_,rfl,_,_,rfl,rfl,(by show (0:Int)<7; decide),_,_,rfl,rfl,rfl,?_⟩
  refine ⟨_,rfl,2+c % 7,rfl,by omega,by omega,?_⟩
  refine Dy (lo:=0) (n:=OD c) (fun _=>true) (fun i=>.str ⟨#[97+(Bl (c / 7) i % 26).toNat]⟩) (Nat.lt_of_le_of_lt zl.2 (by decide)) (fun i hi H' hs R k=>k H' (Aj.refl H')) (fun i hi _ H' hs R k=>?_) (fun D H1 hD s1 hl1=>?_)
  ·have m0:0<=Bl (c / 7) (0+(i:Nat)) % 26:=Int.emod_nonneg _ (by decide)
   have m1:Bl (c / 7) (0+(i:Nat)) % 26<26:=Int.emod_lt_of_pos _ (by decide)
   exact ⟨_,rfl,_,rfl,_,_,rfl,rfl,⟨by decide,by decide⟩,_,rfl,_,_,rfl,by omega,by omega,_,_,rfl,rfl,(by show (0:Int)<26; decide),letters,_,_,rfl,rfl,Cg (by decide +kernel),Nq m0 m1,k H' (Aj.refl H')⟩
  have e1:((((List.range (OD c)).map fun (i:Nat)=>(0:Int)+(i:Int)).filter fun _=>true).map fun i=>V.str ⟨#[97+(Bl (c / 7) i % 26).toNat]⟩)=((Fl c).map fun x=>(⟨#[x]⟩:Str)).map V.str:=by
   rw [List.filter_eq_self.mpr (fun _ _=>rfl)]
   unfold Fl
   rw [List.map_map,List.map_map,List.map_map]
   refine List.map_congr_left fun i _=>?_
   show V.str ⟨#[97+(Bl (c / 7) (0+(i:Nat)) % 26).toNat]⟩=V.str ⟨#[97+(Bl (c / 7) (i:Nat) % 26).toNat]⟩
   rw [Int.zero_add]
  rw [e1] at hl1
  have hj:JoinOk ("" : Str) ((Fl c).map fun x=>(⟨#[x]⟩:Str))=true:=by
   refine PyProof.Rows.joinOk_of_weight ?_ (by decide +kernel)
   rw [List.map_map,List.length_map,Fg]
   have e2:((Fl c).map ((fun x:Str=>x.length) ∘ fun x=>(⟨#[x]⟩:Str))).sum=(Fl c).length:=by
    generalize Fl c=l
    induction l with
    | nil=>rfl
    | cons a l ih =>
     rw [List.map_cons,List.sum_cons,ih,List.length_cons]
     show 1+l.length=l.length+1
     omega
   rw [e2,Fg]
   omega
  refine ⟨("" : Str),D,_,rfl,rfl,.inl (.inl hl1),hj,?_⟩
  have ej:=Ow (Fl c)
  generalize Txt.join ("" : Str) ((Fl c).map fun x=>(⟨#[x]⟩:Str))=z at ej ⊢
  have lz:z.length=OD c:=by
   have:z.length=z.cps.toList.length:=by simp [Str.length]
   rw [this,ej,Fg]
  have la:=Tv c
  have ea:c / 49 % (2+c % 7 - 1)=((NK c:Nat):Int):=by
   have h1:0<=c / 49 % (2+c % 7 - 1):=Int.emod_nonneg _ (by omega)
   unfold NK
   omega
  refine ⟨_,rfl,_,_,rfl,rfl,⟨by decide,by decide⟩,_,rfl,_,_,rfl,rfl,_,_,rfl,rfl,(by show (0:Int)<2+c % 7 - 1; omega),?_⟩
  refine ⟨_,rfl,_,rfl,_,_,rfl,rfl,⟨by decide,by decide⟩,letters,_,_,rfl,rfl,Cg (by decide +kernel),Nq (by omega) (by omega),_,rfl,_,rfl,_,_,rfl,rfl,(by show (0:Int)<26; decide),letters,_,_,rfl,rfl,Cg (by decide +kernel),Nq (by omega) (by omega),_,_,rfl,rfl,Cg (by show 1+1<=1000; decide),?_⟩
  have s1e:=N7 (z:=z) (n:=NK c) (by omega)
  have s2e:=Ot (z:=z) (n:=NK c+2) (by omega)
  rw [ej] at s1e s2e
  have l1:(Txt.slice z none (some ((NK c:Nat):Int))).length=NK c:=by
   have:(Txt.slice z none (some ((NK c:Nat):Int))).length=(Txt.slice z none (some ((NK c:Nat):Int))).cps.toList.length:=by simp [Str.length]
   rw [this,s1e,List.length_take,Fg]
   omega
  have l2:(Txt.slice z (some ((NK c+2:Nat):Int)) none).length<=OD c:=by
   have:(Txt.slice z (some ((NK c+2:Nat):Int)) none).length=(Txt.slice z (some ((NK c+2:Nat):Int)) none).cps.toList.length:=by simp [Str.length]
   rw [this,s2e,List.length_drop,Fg]
   omega
  have ea2:c / 49 % (2+c % 7 - 1)+2=((NK c+2:Nat):Int):=by rw [ea]; rfl
  have la2:∀ a b:Str,(a++b).length=a.length+b.length:=fun a b=>by
   show (a.cps++b.cps).size=a.cps.size+b.cps.size
   simp
  have lt:((⟨#[97+((k:Int) / 26).toNat]⟩:Str)++(⟨#[97+((k:Int) % 26).toNat]⟩:Str)).length=2:=by rw [la2]; rfl
  refine ⟨_,rfl,_,rfl,_,rfl,z,rfl,Cg (by omega),_,rfl,_,_,rfl,rfl,Cg (by show (Txt.slice z none (some (c / 49 % (2+c % 7 - 1)))).length+((⟨#[97+((k:Int) / 26).toNat]⟩:Str)++(⟨#[97+((k:Int) % 26).toNat]⟩:Str)).length<=1000; rw [ea,l1,lt]; omega),_,rfl,_,rfl,_,_,rfl,rfl,_,rfl,z,rfl,Cg (by omega),_,_,rfl,rfl,Cg (by
   show (Txt.slice z none (some (c / 49 % (2+c % 7 - 1)))++((⟨#[97+((k:Int) / 26).toNat]⟩:Str)++(⟨#[97+((k:Int) % 26).toNat]⟩:Str))).length+(Txt.slice z (some (c / 49 % (2+c % 7 - 1)+2)) none).length<=1000
   rw [la2,lt,ea2,ea,l1]
   omega),?_⟩
  have fin:=q H1 s1
  have e9:(Txt.slice z none (some (c / 49 % (2+c % 7 - 1)))++((⟨#[97+((k:Int) / 26).toNat]⟩:Str)++(⟨#[97+((k:Int) % 26).toNat]⟩:Str)))++Txt.slice z (some (c / 49 % (2+c % 7 - 1)+2)) none=Ce c k:=by
   rw [ea2,ea]
   refine Uk ?_
   have la3:∀ a b:Str,(a++b).cps.toList=a.cps.toList++b.cps.toList:=fun a b=>by
    show (a.cps++b.cps).toList=_
    simp
   rw [la3,la3,la3,s1e,s2e]
   have k1:((k:Int) / 26).toNat=k / 26:=by omega
   have k2:((k:Int) % 26).toNat=k % 26:=by omega
   rw [k1,k2]
   simp [Ce,Hl]
  rw [← e9] at fin
  exact fin
noncomputable def cA:Sp:=fun vs H Q _=>∃ (c:Int) (m mx:Nat),vs=[.int c,.int (m:Nat),.int (mx:Nat)]/\1<=m/\m<=5/\1<=mx/\mx<=61/\∀ D (sz:List Nat) H',H D=none->Aj H H'->H' D=some (.lst (sz.map fun n:Nat=>V.int (n:Nat)))->sz.length=m->(∀ s∈sz,1<=s/\s<=mx)->Q (.ref D) H'
theorem jf:Aw ["_law_cell","_law_many","_law_most"] ["_law_cell","_law_many","_law_most"] (Ab X8):=⟨rfl,rfl,rfl,by decide +kernel,rfl,by decide +kernel,by decide +kernel⟩
include N T in
theorem dz:Ax P w K mg base Bf 2 fSz dSz ["_law_cell","_law_many","_law_most"] cA:=by
 have GMx:Ax P w K mg base Bf 1 fMx dMx ["_law_cell","_law_k"] K4:=JD N T
 refine N.FSz.1.ok jf (fun vs H Q E h=>?_) (fun cdv A outer s H vs Q E hr h=>?_)
 ·obtain ⟨c,m,mx,rfl,_⟩:=h
  rfl
 ·obtain ⟨c,m,mx,rfl,hm0,hm,hx0,hx,q⟩:=h
  have hrMx:BV 1 _:=hr.mono (by decide)
  refine ⟨_,(Af (A_ (Bp rfl (BW (osc:=Ab X8) (N:=["_law_cell","_law_many","_law_most"]) rfl rfl (by decide +kernel)) (Cj rfl T.range (Aa (pv 1) Ac)) (fun _ _ _ _=>CP) (fun _ _ _ _=>(Ay Bo Ad (Ay Br (Ah GMx hrMx rfl N.FMx.2.2 N.FMx.1.kp N.FMx.2.1 .nil Am (Aa (pv 1) (Aa (Ay Bo Ad (pv 0)) Ac))) (pv 3))))))),?_⟩
  refine ⟨_,rfl,_,rfl,by omega,by omega,?_⟩
  rw [Int.toNat_natCast]
  refine Dy (lo:=0) (n:=m) (fun _=>true) (fun i=>.int (1+Bl c (50+i) % (mx:Nat))) (Nat.lt_of_le_of_lt hm (by decide)) (fun i hi H' hs R k=>k H' (Aj.refl H')) (fun i hi _ H' hs R k=>?_) (fun D H1 hD s1 hl1=>?_)
  ·exact ⟨_,rfl,_,rfl,_,_,rfl,rfl,_,_,rfl,by omega,by omega,_,rfl,_,_,rfl,rfl,(by show (0:Int)<(mx:Nat); omega),_,_,rfl,rfl,k H' (Aj.refl H')⟩
  ·refine q D ((List.range m).map fun (i:Nat)=>(1+Bl c (50+(0+(i:Nat))) % (mx:Nat)).toNat) H1 hD s1 ?_ (by simp) (fun s hs=>?_)
   ·rw [hl1,List.filter_eq_self.mpr (fun _ _=>rfl),List.map_map,List.map_map]
    refine congrArg (fun l=>some (HO.lst l)) (List.map_congr_left fun i _=>?_)
    have h1:0<=Bl c (50+(0+(i:Int))) % (mx:Nat):=Int.emod_nonneg _ (by omega)
    show V.int (1+Bl c (50+(0+(i:Int))) % (mx:Nat))=V.int (((1+Bl c (50+(0+(i:Int))) % (mx:Nat)).toNat:Nat):Int)
    rw [Int.toNat_of_nonneg (by omega)]
   ·obtain ⟨i,_,rfl⟩:=List.mem_map.mp hs
    have h1:0<=Bl c (50+(0+(i:Int))) % (mx:Nat):=Int.emod_nonneg _ (by omega)
    have h2:Bl c (50+(0+(i:Int))) % (mx:Nat)<(mx:Nat):=Int.emod_lt_of_pos _ (by omega)
    omega
noncomputable def e_:Sp:=fun vs H Q _=>∃ (c:Int) (s:Nat) (p:Addr) (pz:List Nat),vs=[.int c,.int (s:Nat),.ref p]/\H p=some (.lst (pz.map fun n:Nat=>V.int (n:Nat)))/\1<=pz.length/\pz.length<=4/\(∀ z∈pz,1<=z/\z<=97)/\1<=s/\s<=61/\∀ A (l:List Ln) ts H',H A=none->Aj H H'->H' A=some (.lst ts)->Paired (fun x y=>TupAt H' (TX x) y) l ts->l.length<=4->(∀ x∈l,ZG s pz x)->Q (.ref A) H'
theorem L_:Aw ["_law_cell","_law_size","_law_pipes","_law_lines_here","_law_k","_law_rank","_law_low","_law_high","_law_number","_law_shift"] ["_law_cell","_law_size","_law_pipes"] (Ab Ys):=⟨rfl,rfl,rfl,by decide +kernel,rfl,by decide +kernel,by decide +kernel⟩
include N T in
theorem bC:Ax P w K mg base Bf 2 fLn dLn ["_law_cell","_law_size","_law_pipes"] e_:=by
 have GMx:Ax P w K mg base Bf 1 fMx dMx ["_law_cell","_law_k"] K4:=JD N T
 refine N.FLn.1.ok L_ (fun vs H Q E h=>?_) (fun cdv A outer s H vs Q E hr h=>?_)
 ·obtain ⟨c,s0,p,pz,rfl,_⟩:=h
  rfl
 ·obtain ⟨c,s0,p,pz,rfl,hp,h0,h4,hz,hs0,hs1,q⟩:=h
  have hrMx:BV 1 _:=hr.mono (by decide)
  refine ⟨_,(Ae (BJ (i:=3) L_.nd rfl (Or.inl rfl) (De Ac))
   (Ae (Ci PassesOwn.never rfl (Cj rfl T.range (Aa (Ay Bo (Ay Br (Ah GMx hrMx rfl N.FMx.2.2 N.FMx.1.kp N.FMx.2.1 .nil Am (Aa (pv 0) (Aa Ad Ac))) Ad) (Dk QV rfl T.int PyProof.Rows.boot_int (Aa (Et Dj (Ay Br (Ah GMx hrMx rfl N.FMx.2.2 N.FMx.1.kp N.FMx.2.1 .nil Am (Aa (pv 0) (Aa Ad Ac))) Ad) Ad (Be _)) Ac))) Ac)) (Bb (i:=4) L_.nd rfl (Or.inl rfl)) (Ae (BJ (i:=5) L_.nd rfl (Or.inl rfl) (Ay Br (Ah GMx hrMx rfl N.FMx.2.2 N.FMx.1.kp N.FMx.2.1 .nil Am (Aa (pv 0) (Aa (Ay Bo Ad (pv 4)) Ac))) (BX Bg rfl T.len PySem.boot_len (Aa (pv 2) Ac))))
   (Ae (BJ (i:=6) L_.nd rfl (Or.inl rfl) (Ay Br (Ah GMx hrMx rfl N.FMx.2.2 N.FMx.1.kp N.FMx.2.1 .nil Am (Aa (pv 0) (Aa (Ay Bo Ad (pv 4)) Ac))) (pv 1)))
   (Ae (BJ (i:=7) L_.nd rfl (Or.inl rfl) (Ay Bo (pv 6) (Ay Br (Ah GMx hrMx rfl N.FMx.2.2 N.FMx.1.kp N.FMx.2.1 .nil Am (Aa (pv 0) (Aa (Ay Bo Ad (pv 4)) Ac))) (Ay Dw (pv 1) (pv 6)))))
   (Ae (BJ (i:=8) L_.nd rfl (Or.inl rfl) (Ah GMx hrMx rfl N.FMx.2.2 N.FMx.1.kp N.FMx.2.1 .nil Am (Aa (pv 0) (Aa (Ay Bo Ad (pv 4)) Ac))))
   (Ae (BJ (i:=9) L_.nd rfl (Or.inl rfl) (Ar El (De (Aa Ad (Aa (Ay Dw (Ay Br (Ay Cd (pv 8) Ad) Ad) Ad) (Aa (Ay Dw (Ay Dw (Ar (Bc (K:=K) rfl) (pv 2) (pv 5) (fun _ _=>rfl)) Ad) (pv 7)) (Aa (Ay Dw (Ay Br (Ay Cd (pv 8) Ad) Ad) Ad) Ac))))) (Ay Br (pv 8) Ad) (fun _ _=>rfl)))
   (Af (C_ (Ep PySem.F.plainAttrs_list PySem.F.slot_list_append PySem.F.type_list_append B_ (pv 3) (Aa (Cv (Aa (pv 5) (Aa (pv 9) (Aa (pv 6) (Aa (pv 7) Ac))))) Ac))))))))))
   (Af (A_ (pv 3))))),?_⟩
  have hlen:(((pz.map fun n:Nat=>V.int (n:Nat)).length:Nat):Int)=((pz.length:Nat):Int):=by rw [List.length_map]
  refine ⟨Cg (by simp),fun D hD=>?_⟩
  have t0:=Av (o:=HO.lst []) hD
  have u0:upd H D (HO.lst []) D=some (.lst []):=Ag
  generalize upd H D (HO.lst [])=H0 at t0 u0 ⊢
  have m4:0<=Bl c 21 % 4/\Bl c 21 % 4<4:=⟨Int.emod_nonneg _ (by decide),Int.emod_lt_of_pos _ (by decide)⟩
  have bl:∀ b:Bool,0<=(if b=true then (1:Int) else 0)/\(if b=true then (1:Int) else 0)<=1:=fun b=>by cases b <;> decide
  refine ⟨_,rfl,_,_,rfl,by decide,by decide,_,_,rfl,rfl,(by show (0:Int)<4; decide),_,rfl,_,_,rfl,by decide,by decide,_,_,rfl,rfl,(by show (0:Int)<8; decide),rfl,.inr ⟨_,rfl,?_⟩⟩
  have bb:=bl (decide (V.int (Bl c 22 % 8)=V.int 0))
  generalize (if decide (V.int (Bl c 22 % 8)=V.int 0)=true then (1:Int) else 0)=b0 at bb ⊢
  obtain ⟨n,en,hn⟩:∃ n:Nat,Bl c 21 % 4+b0=(n:Int)/\n<=4:=⟨(Bl c 21 % 4+b0).toNat,by omega,by omega⟩
  refine ⟨_,_,rfl,rfl,_,rfl,(by rw [en]; omega),(by rw [en]; omega),?_⟩
  rw [en,Int.toNat_natCast]
  refine Ie (lo:=0) (n:=n) (fun i σ H4=>Aj H H4/\∃ (l:List Ln) (ts:List V),H4 D=some (.lst ts)/\Paired (fun x y=>TupAt H4 (TX x) y) l ts/\l.length=i/\(∀ x∈l,ZG s0 pz x)/\∃ v4 v5 v6 v7 v8 v9,σ=[some (.int c),some (.int (s0:Nat)),some (.ref p),some (.ref D),v4,v5,v6,v7,v8,v9])
   ⟨t0,[],[],u0,.nil,rfl,(fun x hx=>nomatch hx),_,_,_,_,_,_,rfl⟩ ?_ ?_
  ·rintro i σ H4 hi ⟨s4,l,ts,hd,hpr,hll,hg,v4,v5,v6,v7,v8,v9,rfl⟩
   have hp4:=s4 _ _ hp
   refine ⟨_,rfl,_,rfl,_,_,rfl,rfl,_,_,rfl,by omega,by omega,_,rfl,p,_,rfl,.inl (.inl (.inl hp4)),_,_,rfl,rfl,(by show (0:Int)<(((pz.map fun n:Nat=>V.int (n:Nat)).length:Nat):Int); rw [hlen]; omega),?_⟩
   rw [hlen]
   show Cz 5 (V.int (Bl c (23+(0+(i:Int))) % ((pz.length:Nat):Int))) _ _ _
   obtain ⟨r,er,hr⟩:∃ r:Nat,Bl c (23+(0+(i:Int))) % ((pz.length:Nat):Int)=(r:Int)/\r<pz.length:=by
    have g1:0<=Bl c (23+(0+(i:Int))) % ((pz.length:Nat):Int):=Int.emod_nonneg _ (by omega)
    have g2:Bl c (23+(0+(i:Int))) % ((pz.length:Nat):Int)<((pz.length:Nat):Int):=Int.emod_lt_of_pos _ (by omega)
    exact ⟨(Bl c (23+(0+(i:Int))) % ((pz.length:Nat):Int)).toNat,by omega,by omega⟩
   rw [er]
   refine ⟨_,rfl,_,rfl,_,_,rfl,rfl,_,_,rfl,by omega,by omega,_,rfl,_,_,rfl,rfl,(by show (0:Int)<((s0:Nat):Int); omega),?_⟩
   show Cz 6 (V.int (Bl c (28+(0+(i:Int))) % ((s0:Nat):Int))) _ _ _
   have lo0:0<=Bl c (28+(0+(i:Int))) % ((s0:Nat):Int):=Int.emod_nonneg _ (by omega)
   have lo1:Bl c (28+(0+(i:Int))) % ((s0:Nat):Int)<((s0:Nat):Int):=Int.emod_lt_of_pos _ (by omega)
   generalize Bl c (28+(0+(i:Int))) % ((s0:Nat):Int)=lo at lo0 lo1 ⊢
   refine ⟨_,rfl,_,rfl,_,rfl,_,_,rfl,rfl,_,_,rfl,by omega,by omega,_,rfl,_,rfl,_,_,rfl,rfl,_,_,rfl,rfl,(by show (0:Int)<((s0:Nat):Int) - lo; omega),_,_,rfl,rfl,?_⟩
   show Cz 7 (V.int (lo+Bl c (33+(0+(i:Int))) % (((s0:Nat):Int) - lo))) _ _ _
   have hi0:0<=Bl c (33+(0+(i:Int))) % (((s0:Nat):Int) - lo):=Int.emod_nonneg _ (by omega)
   have hi1:Bl c (33+(0+(i:Int))) % (((s0:Nat):Int) - lo)<((s0:Nat):Int) - lo:=Int.emod_lt_of_pos _ (by omega)
   generalize Bl c (33+(0+(i:Int))) % (((s0:Nat):Int) - lo)=hx at hi0 hi1 ⊢
   refine ⟨_,rfl,_,rfl,_,_,rfl,rfl,_,_,rfl,by omega,by omega,?_⟩
   show Cz 8 (V.int (Bl c (38+(0+(i:Int))))) _ _ _
   generalize Bl c (38+(0+(i:Int)))=nu
   have hpr4:Nv (pz.map fun n:Nat=>V.int (n:Nat)) (r:Int)=some (.int (pz[r]:Nat)):=Ai (by rw [List.getElem?_map,List.getElem?_eq_getElem hr]; rfl)
   have hzr:=hz pz[r] (List.getElem_mem hr)
   have m5:0<=nu / 8 % 5/\nu / 8 % 5<5:=⟨Int.emod_nonneg _ (by decide),Int.emod_lt_of_pos _ (by decide)⟩
   have m401:0<=nu / 8 % 401/\nu / 8 % 401<401:=⟨Int.emod_nonneg _ (by decide),Int.emod_lt_of_pos _ (by decide)⟩
   have mm4:0<=nu % 4/\nu % 4<4:=⟨Int.emod_nonneg _ (by decide),Int.emod_lt_of_pos _ (by decide)⟩
   obtain ⟨v,hv,hm⟩:=Ky (xs:=[V.int 0,V.int (nu / 8 % 5 - 2),V.int (((pz[r]:Nat):Int) - 1 - (lo+hx)),V.int (nu / 8 % 401 - 200)]) (i:=nu % 4) mm4.1 mm4.2
   obtain ⟨sh,rfl,hsh0,hsh1⟩:∃ sh:Int,v=.int sh /\ -200<=sh/\sh<=200:=by
    simp only [List.mem_cons,List.mem_singleton,List.not_mem_nil,or_false] at hm
    rcases hm with rfl | rfl | rfl | rfl
    ·exact ⟨_,rfl,by decide,by decide⟩
    ·exact ⟨_,rfl,by omega,by omega⟩
    ·exact ⟨_,rfl,by omega,by omega⟩
    ·exact ⟨_,rfl,by omega,by omega⟩
   refine ⟨_,rfl,_,_,rfl,rfl,⟨by decide,by decide⟩,_,_,rfl,rfl,(by show (0:Int)<5; decide),_,_,rfl,rfl,_,rfl,_,rfl,p,_,_,_,rfl,rfl,.inl (.inl hp4),hpr4,_,_,rfl,rfl,_,rfl,_,_,rfl,rfl,_,rfl,_,_,rfl,rfl,⟨by decide,by decide⟩,_,_,rfl,rfl,(by show (0:Int)<401; decide),_,_,rfl,rfl,by show 4<=sizeLine; decide,fun L5 hL5=>?_⟩
   have t5:=Av (o:=HO.lst [V.int 0,V.int (nu / 8 % 5 - 2),V.int (((pz[r]:Nat):Int) - 1 - (lo+hx)),V.int (nu / 8 % 401 - 200)]) hL5
   have u5:upd H4 L5 (HO.lst [V.int 0,V.int (nu / 8 % 5 - 2),V.int (((pz[r]:Nat):Int) - 1 - (lo+hx)),V.int (nu / 8 % 401 - 200)]) L5=some (.lst [V.int 0,V.int (nu / 8 % 5 - 2),V.int (((pz[r]:Nat):Int) - 1 - (lo+hx)),V.int (nu / 8 % 401 - 200)]):=Ag
   generalize upd H4 L5 (HO.lst [V.int 0,V.int (nu / 8 % 5 - 2),V.int (((pz[r]:Nat):Int) - 1 - (lo+hx)),V.int (nu / 8 % 401 - 200)])=H5 at t5 u5 ⊢
   refine ⟨_,rfl,_,_,rfl,rfl,(by show (0:Int)<4; decide),L5,_,_,_,rfl,rfl,.inl (.inl u5),hv,?_⟩
   have hd5:=t5 _ _ hd
   refine ⟨_,rfl,.inl ⟨rfl,_,.inl (.inl hd5)⟩,_,rfl,_,rfl,_,rfl,_,rfl,by show 4<=sizeLine; decide,fun T6 hT6=>?_⟩
   have t6:=Av (o:=HO.tup [V.int (r:Nat),V.int sh,V.int lo,V.int (lo+hx)]) hT6
   have u6:upd H5 T6 (HO.tup [V.int (r:Nat),V.int sh,V.int lo,V.int (lo+hx)]) T6=some (.tup (TX ⟨r,sh,lo,lo+hx⟩)):=Ag
   generalize upd H5 T6 (HO.tup [V.int (r:Nat),V.int sh,V.int lo,V.int (lo+hx)])=H6 at t6 u6 ⊢
   have hd6:=t6 _ _ hd5
   have hlt:=hpr.length
   refine ⟨D,ts,_,rfl,rfl,hd6,Az (by omega),?_⟩
   refine ⟨fun b o e=>?_,l++[⟨r,sh,lo,lo+hx⟩],ts++[V.ref T6],Ag,(CV (Ak (t5.trans t6) hpr) hd6).snoc (TupAt.upd ⟨T6,rfl,u6⟩ hd6),by rw [List.length_append,List.length_singleton,hll],fun x hx'=>?_,_,_,_,_,_,_,rfl⟩
   ·rw [BP (BL e hD)]
    exact t6 _ _ (t5 _ _ (s4 _ _ e))
   ·rcases List.mem_append.mp hx' with g | g
    ·exact hg x g
    ·rw [List.mem_singleton.mp g]
     exact ⟨hr,lo0,by show lo<=lo+hx; omega,by show lo+hx<((s0:Nat):Int); omega,hsh0,hsh1⟩
  ·rintro σ H4 ⟨s4,l,ts,hd,hpr,hll,hg,v4,v5,v6,v7,v8,v9,rfl⟩
   exact ⟨_,rfl,q D l ts H4 hD s4 hd hpr (by omega) hg⟩
noncomputable abbrev gY (sz pz:List Nat) (z:Kl):Prop:=z.2.length<=4/\(∀ x∈z.2,ZG (sz.getD z.1.bd 0) pz x)/\(¬ z.1.w = "stop"->z.2=[])
noncomputable def dw:Sp:=fun vs H Q _=>∃ (c:Int) (p pp:Addr) (sz pz:List Nat),vs=[.int c,.ref p,.ref pp]/\H p=some (.lst (sz.map fun n:Nat=>V.int (n:Nat)))/\H pp=some (.lst (pz.map fun n:Nat=>V.int (n:Nat)))/\1<=sz.length/\sz.length<=5/\(∀ s∈sz,1<=s/\s<=61)/\1<=pz.length/\pz.length<=4/\(∀ z∈pz,1<=z/\z<=97)/\∀ (z:Kl) y H',Aj H H'->z.1.ok sz.length->gY sz pz z->(c % 8=4->z.1.w = "stop")->(∀ Dx o,H Dx=some o->FN Dx H' z y)->Q y H'
theorem RT:Aw ["_law_cell","_law_sizes_here","_law_pipes","_law_many","_law_one","_law_other","_law_shift"] ["_law_cell","_law_sizes_here","_law_pipes"] (Ab Y5):=⟨rfl,rfl,rfl,by decide +kernel,rfl,by decide +kernel,by decide +kernel⟩
include N T in
theorem Zt:Ax P w K mg base Bf 3 fKn dKn ["_law_cell","_law_sizes_here","_law_pipes"] dw:=by
 have GMx:Ax P w K mg base Bf 1 fMx dMx ["_law_cell","_law_k"] K4:=JD N T
 have GLn:Ax P w K mg base Bf 2 fLn dLn ["_law_cell","_law_size","_law_pipes"] e_:=bC N T
 refine N.FKn.1.ok RT (fun vs H Q E h=>?_) (fun cdv A outer s H vs Q E hr h=>?_)
 ·obtain ⟨c,p,pp,sz,pz,rfl,_⟩:=h
  rfl
 ·obtain ⟨c,p,pp,sz,pz,rfl,hp,hpp,h0,h5,hsz,g0,g4,hpz,q⟩:=h
  have hrMx:BV 1 _:=hr.mono (by decide)
  have hrLn:BV 2 _:=hr.mono (by decide)
  refine ⟨_,(Ae (BJ (i:=3) RT.nd rfl (Or.inl rfl) (BX Bg rfl T.len PySem.boot_len (Aa (pv 1) Ac)))
   (Ae (BJ (i:=4) RT.nd rfl (Or.inl rfl) (Ay Br (Ah GMx hrMx rfl N.FMx.2.2 N.FMx.1.kp N.FMx.2.1 .nil Am (Aa (Ay Cd (pv 0) Ad) (Aa Ad Ac))) (pv 3)))
   (Ae (BJ (i:=5) RT.nd rfl (Or.inl rfl) (Ay Br (Ah GMx hrMx rfl N.FMx.2.2 N.FMx.1.kp N.FMx.2.1 .nil Am (Aa (Ay Cd (pv 0) Ad) (Aa Ad Ac))) (pv 3)))
   (Ae (CT (Ba Gf (Ay Br (pv 0) Ad) Ad (Be _)) (Ae (BJ (i:=6) RT.nd rfl (Or.inl rfl) (De (Aa Ad (Aa Ad (Aa (Mq Ji Ad) (Aa Ad (Aa (Ay Dw (Ay Br (Ah GMx hrMx rfl N.FMx.2.2 N.FMx.1.kp N.FMx.2.1 .nil Am (Aa (Ay Cd (pv 0) Ad) (Aa Ad Ac))) Ad) Ad) (Aa (Ay Dw (Ay Br (Ah GMx hrMx rfl N.FMx.2.2 N.FMx.1.kp N.FMx.2.1 .nil Am (Aa (Ay Cd (pv 0) Ad) (Aa Ad Ac))) Ad) Ad) Ac))))))))
   (Af (A_ (Cv (Aa Bs (Aa (pv 4) (Aa (pv 5) (Aa (Ar El (pv 6) (Ay Br (Ah GMx hrMx rfl N.FMx.2.2 N.FMx.1.kp N.FMx.2.1 .nil Am (Aa (Ay Cd (pv 0) Ad) (Aa Ad Ac))) Ad) (fun _ _=>rfl)) Ac)))))))) Bj)
   (Ae (CT (Ba Dj (Ay Br (pv 0) Ad) Ad (Be _)) (Af (A_ (Cv (Aa Bs (Aa (pv 4) Ac))))) Bj)
   (Af (A_ (Cv (Aa Bs (Aa (pv 4) (Aa (Ah GLn hrLn rfl N.FLn.2.2 N.FLn.1.kp N.FLn.2.1 .nil Am (Aa (Ay Cd (pv 0) Ad) (Aa (Ar (Bc (K:=K) rfl) (pv 1) (pv 4) (fun _ _=>rfl)) (Aa (pv 2) Ac)))) Ac))))))))))),?_⟩
  have hlen:(((sz.map fun n:Nat=>V.int (n:Nat)).length:Nat):Int)=((sz.length:Nat):Int):=by rw [List.length_map]
  have hpos:(0:Int)<((sz.length:Nat):Int):=by omega
  refine ⟨_,rfl,p,_,rfl,.inl (.inl (.inl hp)),?_⟩
  rw [hlen]
  obtain ⟨a,ea,ha⟩:∃ a:Nat,Bl (c / 8) 11 % ((sz.length:Nat):Int)=(a:Int)/\a<sz.length:=by
   have g1:0<=Bl (c / 8) 11 % ((sz.length:Nat):Int):=Int.emod_nonneg _ (by omega)
   have g2:Bl (c / 8) 11 % ((sz.length:Nat):Int)<((sz.length:Nat):Int):=Int.emod_lt_of_pos _ hpos
   exact ⟨(Bl (c / 8) 11 % ((sz.length:Nat):Int)).toNat,by omega,by omega⟩
  obtain ⟨b,eb,hb⟩:∃ b:Nat,Bl (c / 8) 12 % ((sz.length:Nat):Int)=(b:Int)/\b<sz.length:=by
   have g1:0<=Bl (c / 8) 12 % ((sz.length:Nat):Int):=Int.emod_nonneg _ (by omega)
   have g2:Bl (c / 8) 12 % ((sz.length:Nat):Int)<((sz.length:Nat):Int):=Int.emod_lt_of_pos _ hpos
   exact ⟨(Bl (c / 8) 12 % ((sz.length:Nat):Int)).toNat,by omega,by omega⟩
  refine ⟨_,rfl,_,_,rfl,rfl,⟨by decide,by decide⟩,_,_,rfl,by decide,by decide,_,rfl,_,_,rfl,rfl,hpos,?_⟩
  show Cz 4 (V.int (Bl (c / 8) 11 % ((sz.length:Nat):Int))) _ _ _
  rw [ea]
  refine ⟨_,rfl,_,_,rfl,rfl,⟨by decide,by decide⟩,_,_,rfl,by decide,by decide,_,rfl,_,_,rfl,rfl,hpos,?_⟩
  show Cz 5 (V.int (Bl (c / 8) 12 % ((sz.length:Nat):Int))) _ _ _
  rw [eb]
  refine ⟨_,rfl,_,_,rfl,rfl,(by show (0:Int)<8; decide),_,_,rfl,rfl,_,rfl,?_⟩
  refine Df (fun g=>?_) (fun g=>?_)
  ·refine ⟨_,rfl,_,rfl,_,_,rfl,rfl,⟨by decide,by decide⟩,_,_,rfl,by decide,by decide,_,_,rfl,rfl,(by show (0:Int)<17; decide),_,_,rfl,rfl,_,rfl,_,_,rfl,rfl,⟨by decide,by decide⟩,_,_,rfl,by decide,by decide,_,_,rfl,rfl,(by show (0:Int)<121; decide),_,_,rfl,rfl,by show 6<=sizeLine; decide,fun l hl=>?_⟩
   have m1:0<=Bl (c / 8) 13 % 17/\Bl (c / 8) 13 % 17<17:=⟨Int.emod_nonneg _ (by decide),Int.emod_lt_of_pos _ (by decide)⟩
   have m2:0<=Bl (c / 8) 13 % 121/\Bl (c / 8) 13 % 121<121:=⟨Int.emod_nonneg _ (by decide),Int.emod_lt_of_pos _ (by decide)⟩
   have m3:0<=Bl (c / 8) 14 % 6/\Bl (c / 8) 14 % 6<6:=⟨Int.emod_nonneg _ (by decide),Int.emod_lt_of_pos _ (by decide)⟩
   obtain ⟨v,hv,hm⟩:=Ky (xs:=[V.int 0,V.int 1,V.int (-1),V.int 2,V.int (Bl (c / 8) 13 % 17 - 8),V.int (Bl (c / 8) 13 % 121 - 60)]) (i:=Bl (c / 8) 14 % 6) m3.1 m3.2
   obtain ⟨s0,rfl,hs0,hs1⟩:∃ s0:Int,v=.int s0 /\ -60<=s0/\s0<=60:=by
    simp only [List.mem_cons,List.mem_singleton,List.not_mem_nil,or_false] at hm
    rcases hm with rfl | rfl | rfl | rfl | rfl | rfl
    ·exact ⟨_,rfl,by decide,by decide⟩
    ·exact ⟨_,rfl,by decide,by decide⟩
    ·exact ⟨_,rfl,by decide,by decide⟩
    ·exact ⟨_,rfl,by decide,by decide⟩
    ·exact ⟨_,rfl,by omega,by omega⟩
    ·exact ⟨_,rfl,by omega,by omega⟩
   refine ⟨_,rfl,_,rfl,_,rfl,_,rfl,_,_,rfl,rfl,⟨by decide,by decide⟩,_,_,rfl,by decide,by decide,_,_,rfl,rfl,(by show (0:Int)<6; decide),l,_,_,_,rfl,rfl,.inl (.inl Ag),hv,by show 4<=sizeLine; decide,fun T6 hT6=>?_⟩
   exact q (.cp a b s0,[]) _ _ ((Av hl).trans (Av hT6)) ⟨ha,hb,hs0,hs1⟩ ⟨by show 0<=4; decide,(fun x hx=>nomatch hx),fun _=>rfl⟩ (fun z=>absurd (of_decide_eq_true g) (by omega)) fun Dx o hDx=>⟨[],⟨T6,rfl,Ag⟩,.inl ⟨rfl,rfl,by show ¬ ("coupler" : Str) = "stop"; decide +kernel⟩⟩
  ·refine ⟨_,rfl,_,_,rfl,rfl,(by show (0:Int)<8; decide),rfl,_,rfl,?_⟩
   refine Df (fun g2=>?_) (fun g2=>?_)
   ·refine ⟨_,rfl,by show 2<=sizeLine; decide,fun T6 hT6=>?_⟩
    exact q (.pl "mute" a,[]) _ _ (Av hT6) ⟨ha,.inl rfl⟩ ⟨by show 0<=4; decide,(fun x hx=>nomatch hx),fun _=>rfl⟩ (fun z=>absurd (V.int.inj (of_decide_eq_true g2)) (by omega)) fun Dx o hDx=>⟨[],⟨T6,rfl,Ag⟩,.inl ⟨rfl,rfl,by show ¬ ("mute" : Str) = "stop"; decide +kernel⟩⟩
   ·have hat:Nv (sz.map fun n:Nat=>V.int (n:Nat)) (a:Int)=some (.int (sz[a]:Nat)):=Ai (by rw [List.getElem?_map,List.getElem?_eq_getElem ha]; rfl)
    have hsa:=hsz sz[a] (List.getElem_mem ha)
    refine ⟨_,rfl,_,rfl,_,_,rfl,rfl,⟨by decide,by decide⟩,_,rfl,_,rfl,p,_,_,_,rfl,rfl,.inl (.inl hp),hat,_,rfl,c / 8,sz[a],pp,pz,rfl,hpp,g0,g4,hpz,hsa.1,hsa.2,fun A0 l ts H5 hA s5 hA5 hp5 hl4 hg=>?_⟩
    refine ⟨by show 3<=sizeLine; decide,fun T6 hT6=>?_⟩
    have t6:=Av (o:=HO.tup [V.str "stop",V.int (a:Nat),V.ref A0]) hT6
    refine q (.pl "stop" a,l) _ _ (s5.trans t6) ⟨ha,.inr rfl⟩ ⟨hl4,fun x hx=>?_,fun z=>absurd rfl z⟩ (fun _=>rfl) fun Dx o hDx=>⟨[.ref A0],⟨T6,rfl,Ag⟩,.inr ⟨rfl,A0,ts,rfl,(fun z=>by rw [z,hDx] at hA; cases hA),t6 _ _ hA5,Ak t6 hp5⟩⟩
    have:sz.getD a 0=sz[a]:=by rw [List.getD_eq_getElem?_getD,List.getElem?_eq_getElem ha]; rfl
    show ZG (sz.getD a 0) pz x
    rw [this]
    exact hg x hx
noncomputable def eN:Sp:=fun vs H Q _=>∃ (q0 p pp:Addr) (cs:List Int) (sz pz:List Nat),vs=[.ref q0,.ref p,.ref pp]/\H q0=some (.lst (cs.map V.int))/\cs.length<=21/\H p=some (.lst (sz.map fun n:Nat=>V.int (n:Nat)))/\H pp=some (.lst (pz.map fun n:Nat=>V.int (n:Nat)))/\1<=sz.length/\sz.length<=5/\(∀ s∈sz,1<=s/\s<=61)/\1<=pz.length/\pz.length<=4/\(∀ z∈pz,1<=z/\z<=97)/\∀ D (kls:List Kl) us H',H D=none->Aj H H'->H' D=some (.lst us)->Paired (fun z y=>FN D H' z y) kls us->Qz sz pz kls->kls.length<=21->((∃ c∈cs,c % 8=4)->∃ z∈kls,z.1.w = "stop")->Q (.ref D) H'
theorem Rn:Aw ["_law_cells","_law_sizes_here","_law_pipes","_law_knobs_here","_law_cell","_law_knob_here","_law_most"] ["_law_cells","_law_sizes_here","_law_pipes"] (Ab X_):=⟨rfl,rfl,rfl,by decide +kernel,rfl,by decide +kernel,by decide +kernel⟩
include N T in
theorem dg:Ax P w K mg base Bf 4 fKs dKs ["_law_cells","_law_sizes_here","_law_pipes"] eN:=by
 have GKn:Ax P w K mg base Bf 3 fKn dKn ["_law_cell","_law_sizes_here","_law_pipes"] dw:=Zt N T
 refine N.FKs.1.ok Rn (fun vs H Q E h=>?_) (fun cdv A outer s H vs Q E hr h=>?_)
 ·obtain ⟨q0,p,pp,cs,sz,pz,rfl,_⟩:=h
  rfl
 ·obtain ⟨q0,p,pp,cs,sz,pz,rfl,hq,hc,hp,hpp,h0,h5,hsz,g0,g4,hpz,q⟩:=h
  have hrKn:BV 3 _:=hr.mono (by decide)
  have hu:=Iw hr
  refine ⟨_,(Ae (BJ (i:=3) Rn.nd rfl (Or.inl rfl) (De Ac))
   (Ae (Ci PassesOwn.never rfl (Bd (pv 0)) (Bb (i:=4) Rn.nd rfl (Or.inl rfl)) (Ae (BJ (i:=5) Rn.nd rfl (Or.inr rfl) (Ah GKn hrKn rfl N.FKn.2.2 N.FKn.1.kp N.FKn.2.1 .nil Am (Aa (pv 4) (Aa (pv 1) (Aa (pv 2) Ac)))))
   (Ae (BJ (i:=6) Rn.nd rfl (Or.inl rfl) (Gn hu (U_ (JT Bs Ad (JT Bs Ad (JT Bs Ad VN))) rfl rfl (by intro h; cases h) (by decide)) (Ar (Al (K:=K) rfl) (pv 5) Ad (fun _ _=>rfl)) (fun _ _=>rfl)))
   (Af (CT (Ba Gf (BX Bg rfl T.len PySem.boot_len (Aa (Bp rfl (BW (osc:=Ab X_) (N:=["_law_cells","_law_sizes_here","_law_pipes","_law_knobs_here","_law_cell","_law_knob_here","_law_most"]) rfl rfl (by decide +kernel)) (Bd (pv 3)) (fun _ _ _ _=>(Ef (Ba Dj (Ar (Al (K:=K) rfl) (pv 0) Ad (fun _ _=>rfl)) (Ar (Al (K:=K) rfl) (pv 6) Ad (fun _ _=>rfl)) (Be _)))) (fun _ _ _ _=>(pv 0))) Ac)) (pv 6) (Be _)) (Af (C_ (Ep PySem.F.plainAttrs_list PySem.F.slot_list_append PySem.F.type_list_append B_ (pv 3) (Aa (pv 5) Ac)))) Bj)))))
   (Af (A_ (pv 3))))),?_⟩
  refine ⟨Cg (by simp),fun D hD=>?_⟩
  have s0:=Av (o:=HO.lst []) hD
  have hS:CK K H q0 (cs.map V.int):=.inl (.inl hq)
  refine ⟨_,rfl,q0,rfl,⟨_,s0.seq hS⟩,Cp (K:=K) (a:=q0) (xs:=cs.map V.int) (fun i σ H4=>Aj H H4/\∃ (kls:List Kl) (us:List V),H4 D=some (.lst us)/\Paired (fun z y=>FN D H4 z y) kls us/\Qz sz pz kls/\kls.length<=i/\(∀ (j:Nat) c,j<i->cs[j]? = some c->c % 8=4->∃ z∈kls,z.1.w = "stop")/\∃ v3 v4 v5,σ=[some (.ref q0),some (.ref p),some (.ref pp),some (.ref D),v3,v4,v5])
   ⟨s0,[],[],Ag,.nil,Qz.nil,Nat.le_refl _,(fun j c hj=>absurd hj (Nat.not_lt_zero _)),_,_,_,rfl⟩ (fun i σ H4 _ h=>h.1.seq hS) ?_ ?_⟩
  ·rintro i x σ H4 hx ⟨s4,kls,us,hd,hpr,hok,hlen,hst,v3,v4,v5,rfl⟩
   rw [List.getElem?_map] at hx
   obtain ⟨c,hci,rfl⟩:=Option.map_eq_some_iff.mp hx
   have hi:i<cs.length:=(List.getElem?_eq_some_iff.mp hci).1
   refine ⟨_,rfl,_,rfl,_,rfl,c,p,pp,sz,pz,rfl,s4 _ _ hp,s4 _ _ hpp,h0,h5,hsz,g0,g4,hpz,fun kb y H5 s5 ho hlw hs4 hy=>?_⟩
   have hy:=hy D _ hd
   obtain ⟨T5,r5,rfl,ht5'⟩:=hy.w0
   refine fun p6 hp6=>⟨Ag,[(Sum.inr "coupler",.int 12),(Sum.inr "mute",.int 5),(Sum.inr "stop",.int 24)],rfl,by decide,?_⟩
   have s6:Aj H5 (upd (upd H5 p6 (.dK [])) p6 (.dK (E_ [] [(Sum.inr "coupler",.int 12),(Sum.inr "mute",.int 5),(Sum.inr "stop",.int 24)]))):=fun b u e=>by rw [BP (BL e hp6),BP (BL e hp6)]; exact e
   have a6:upd (upd H5 p6 (.dK [])) p6 (.dK (E_ [] [(Sum.inr "coupler",.int 12),(Sum.inr "mute",.int 5),(Sum.inr "stop",.int 24)])) p6=some (.dK (E_ [] [(Sum.inr "coupler",.int 12),(Sum.inr "mute",.int 5),(Sum.inr "stop",.int 24)])):=Ag
   generalize upd (upd H5 p6 (.dK [])) p6 (.dK (E_ [] [(Sum.inr "coupler",.int 12),(Sum.inr "mute",.int 5),(Sum.inr "stop",.int 24)]))=H6 at s6 a6 ⊢
   have g:=HY.k (k:=Sum.inr kb.1.w) a6
   rw [T7 (Kb.wo ho)] at g
   refine ⟨_,rfl,T5,_,_,_,rfl,rfl,.inl (.inl (s6 _ _ ht5')),Ai (j:=0) rfl,p6,_,rfl,g,?_⟩
   have s46:=s5.trans s6
   have d6:=s46 _ _ hd
   have pr6:Paired (fun z y=>FN D H6 z y) kls us:=Paired.Ek hpr fun _ _ q=>q.mono s46
   have hS6:CK K H6 D us:=.inl (.inl d6)
   have hlu:=pr6.length
   refine ⟨_,rfl,D,rfl,⟨_,hS6⟩,Bx (K:=K) (xs:=us) (fun v=>decide (Jo H6 0 v=V.str kb.1.w)) id hS6 (Az (by omega)) (fun x hx H' hs R k=>?_) (fun x hx _ H' hs R k=>⟨_,rfl,k H' (Aj.refl H')⟩) (fun D7 H7 hD7 s7 hl7=>?_)⟩
   ·obtain ⟨k1,_,hk1⟩:=Cm pr6 hx
    obtain ⟨T1,r1,rfl,ht1⟩:=hk1.w0
    have e1:Jo H6 0 (.ref T1)=V.str k1.1.w:=by rw [Ft ⟨T1,rfl,ht1⟩ 0]; rfl
    have ht1:=hs _ _ ht1
    have kk:=k H' (Aj.refl H')
    rw [e1] at kk
    exact ⟨_,rfl,T1,_,_,_,rfl,rfl,.inl (.inl ht1),Ai (j:=0) rfl,_,rfl,T5,_,_,_,rfl,rfl,.inl (.inl (hs _ _ (s6 _ _ ht5'))),Ai (j:=0) rfl,rfl,_,rfl,kk⟩
   rw [List.map_id] at hl7
   have cnt:=TJ kb.1.w pr6
   refine ⟨D7,_,rfl,.inl (.inl (.inl hl7)),_,rfl,_,_,rfl,rfl,_,rfl,?_⟩
   have d7:=s7 _ _ d6
   have pr7:Paired (fun z y=>FN D H7 z y) kls us:=Paired.Ek pr6 fun _ _ q=>q.mono s7
   refine Df (fun g1=>?_) (fun g1=>?_)
   ·have g2:=of_decide_eq_true g1
    rw [cnt] at g2
    have n1:=Qz.snoc hok ho (by omega) hlw
    refine ⟨_,rfl,.inl ⟨rfl,_,.inl (.inl d7)⟩,_,rfl,D,us,_,rfl,rfl,d7,Az (by omega),?_⟩
    refine ⟨fun b u e=>?_,kls++[kb],us++[.ref T5],Ag,(Paired.Ek pr7 fun _ _ q=>q.upd d7).snoc (((hy.mono s6).mono s7).upd d7),n1,by rw [List.length_append,List.length_singleton]; omega,(fun j c' hj hc' h4=>?_),_,_,_,rfl⟩
    rotate_left
    ·rcases Nat.lt_succ_iff_lt_or_eq.mp hj with h | rfl
     ·obtain ⟨z,hz,hw⟩:=hst j c' h hc' h4
      exact ⟨z,List.mem_append_left _ hz,hw⟩
     ·rw [hci] at hc'
      cases hc'
      exact ⟨kb,by simp,hs4 h4⟩
    rw [BP (BL e hD)]
    exact s7 _ _ (s46 _ _ (s4 _ _ e))
   ·exact ⟨(s4.trans s46).trans s7,kls,us,d7,pr7,hok,by omega,(fun j c' hj hc' h4=>by
     rcases Nat.lt_succ_iff_lt_or_eq.mp hj with h | rfl
     ·exact hst j c' h hc' h4
     ·rw [hci] at hc'
      cases hc'
      exfalso
      refine g1 (decide_eq_true ?_)
      rw [cnt,hs4 h4]
      have hm:Ez "stop" = 24:=by decide +kernel
      have hle:=List.length_filter_le (GP "stop") (kls.map (·.1))
      rw [List.length_map] at hle
      rw [hm]
      omega),_,_,_,rfl⟩
  ·rintro σ H4 ⟨s4,kls,us,hd,hpr,hok,hlen,hst,v3,v4,v5,rfl⟩
   rw [List.length_map] at hlen
   exact ⟨_,rfl,q D kls us H4 hD s4 hd hpr hok (by omega) fun ⟨c,hc',h4⟩=>by
    obtain ⟨j,hj,e⟩:=List.getElem_of_mem hc'
    exact hst j c (by rw [List.length_map]; exact hj) (by rw [← e]; exact List.getElem?_eq_getElem hj) h4⟩
noncomputable abbrev Gb (c:Nat->Str) (pz:List Nat) (wi:Nat->Int):List (Str × Nat × Int):=pz.zipIdx.map fun p=>(c (10+p.2),p.1,wi p.2)
theorem Gu (c:Nat->Str) (pz:List Nat) (wi:Nat->Int):(Gb c pz wi).length=pz.length:=by simp [Gb]
theorem JP {c:Nat->Str} {pz:List Nat} {wi:Nat->Int} {i z:Nat} (h:pz[i]? = some z):(Gb c pz wi)[i]? = some (c (10+i),z,wi i):=by
 rw [List.getElem?_map,List.getElem?_zipIdx,h]
 simp
theorem Fb {c:Nat->Str} {pz:List Nat} {wi:Nat->Int} {i:Nat} {r:Str × Nat × Int} (h:(Gb c pz wi)[i]? = some r):∃ z,pz[i]? = some z/\r=(c (10+i),z,wi i):=by
 have hi:i<pz.length:=by
  have:=(List.getElem?_eq_some_iff.mp h).1
  rw [Gu] at this
  exact this
 rw [JP (List.getElem?_eq_getElem hi)] at h
 exact ⟨_,List.getElem?_eq_getElem hi,(Option.some.inj h).symm⟩
theorem SN {c:Nat->Str} {pz:List Nat} {wi:Nat->Int} {i z:Nat} (h:pz[i]? = some z):(Gb c pz wi).take (i+1)=(Gb c pz wi).take i++[(c (10+i),z,wi i)]:=by
 rw [List.take_add_one,JP h]
 rfl
theorem QZ {c:Nat->Str} {sz:List Nat} {i z:Nat} (h:sz[i]? = some z):(BZ c sz).take (i+1)=(BZ c sz).take i++[(c i,z)]:=by
 rw [List.take_add_one,DW h]
 rfl
theorem Qk {c:Nat->Str} {kbs:List Kb} {i:Nat} {z:Kb} (h:kbs[i]? = some z):(CZ c kbs).take (i+1)=(CZ c kbs).take i++[JF c i z]:=by
 rw [List.take_add_one,Eb h]
 rfl
theorem FJ {c:Nat->Str} {sz:List Nat} {i:Nat} {b:Str × Nat} (h:b∈(BZ c sz).take i):∃ j,j<i/\j<sz.length/\b.1=c j:=by
 obtain ⟨j,hj,e⟩:=List.mem_take_iff_getElem.mp h
 have hj2:(BZ c sz)[j]? = some b:=by rw [← e]; exact List.getElem?_eq_getElem _
 obtain ⟨z,hz,rfl⟩:=Fj hj2
 exact ⟨j,by omega,(List.getElem?_eq_some_iff.mp hz).1,rfl⟩
theorem Hf {c:Nat->Str} {pz:List Nat} {wi:Nat->Int} {i:Nat} {r:Str × Nat × Int} (h:r∈(Gb c pz wi).take i):∃ j,j<i/\j<pz.length/\r.1=c (10+j):=by
 obtain ⟨j,hj,e⟩:=List.mem_take_iff_getElem.mp h
 have hj2:(Gb c pz wi)[j]? = some r:=by rw [← e]; exact List.getElem?_eq_getElem _
 obtain ⟨z,hz,rfl⟩:=Fb hj2
 exact ⟨j,by omega,(List.getElem?_eq_some_iff.mp hz).1,rfl⟩
theorem KH {c:Nat->Str} {kbs:List Kb} {i:Nat} {r:R} (h:r∈(CZ c kbs).take i):∃ j,j<i/\j<kbs.length/\r.nm=c (30+j):=by
 obtain ⟨j,hj,e⟩:=List.mem_take_iff_getElem.mp h
 have hj2:(CZ c kbs)[j]? = some r:=by rw [← e]; exact List.getElem?_eq_getElem _
 obtain ⟨z,hz,rfl⟩:=Di hj2
 exact ⟨j,by omega,(List.getElem?_eq_some_iff.mp hz).1,PB _ _ _⟩
theorem Ge {α:Type} {l:List α} {x:α} (h:x∈l):x∈l.take l.length:=by rw [List.take_length]; exact h
section
variable {c:Nat->Str} {sz pz:List Nat} {wi:Nat->Int} {aB aP aM:Addr}
theorem Od (F:PX K aB aP aM) (hn:∀ k,k<100->isNm (c k)) (hi:∀ k l,c k=c l->k=l) (h5:sz.length<=5) (hs:∀ s∈sz,1<=s/\s<=61):∀ i,i<=sz.length->Gy K aB aP aM (((BZ c sz).take i).map FQ) ((BZ c sz).take i) [] [] []:=by
 intro i
 induction i with
 | zero=>exact fun _=>Gy.nil
 | succ i ih =>
  intro hl
  have hz:=List.getElem?_eq_getElem (l:=sz) (i:=i) (by omega)
  have g:=hs _ (List.getElem_mem (l:=sz) (n:=i) (by omega))
  rw [QZ hz,List.map_append]
  refine (ih (by omega)).cW F (hn _ (by omega)) (fun b hb e=>?_) (by rw [List.length_take,Fi]; omega) g.1 g.2
  obtain ⟨j,hj,_,e2⟩:=FJ hb
  have:=hi _ _ (e2.symm.trans e)
  omega
theorem Rx (F:PX K aB aP aM) (hn:∀ k,k<100->isNm (c k)) (hi:∀ k l,c k=c l->k=l) (h5:sz.length<=5) (h4:pz.length<=4) (hp:∀ z∈pz,1<=z/\z<=97) (hw:∀ i,0<=wi i/\wi i<=1000000000) {rows:List R} {i z:Nat} (hz:pz[i]? = some z) (B:Gy K aB aP aM rows (BZ c sz) ((Gb c pz wi).take i) [] []):Gy K aB aP aM (rows++[Hg (c (10+i),z,wi i)]) (BZ c sz) ((Gb c pz wi).take (i+1)) [] []:=by
 have hl:=(List.getElem?_eq_some_iff.mp hz).1
 have g:=hp z (List.mem_of_getElem? hz)
 rw [SN hz]
 refine B.rank F (hn _ (by omega)) (fun b hb e=>?_) (fun r hr e=>?_) (by rw [List.length_take,Gu]; omega) g.1 g.2 (hw i).1 (hw i).2
 ·obtain ⟨j,_,hj,e2⟩:=FJ (Ge hb)
  have:=hi _ _ (e2.symm.trans e)
  omega
 ·obtain ⟨j,hj,_,e2⟩:=Hf hr
  have:=hi _ _ (e2.symm.trans e)
  omega
theorem Xh {kls:List Kl} (w:Str) (i:Nat):(((CZ c (kls.map (·.1))).take i).filter fun r=>decide (V.str r.w=V.str w)).length=(((kls.map (·.1)).take i).filter (GP w)).length:=by
 have e:(CZ c (kls.map (·.1))).map (·.w)=(kls.map (·.1)).map (·.w):=by
  refine List.ext_getElem? fun j=>?_
  rw [List.getElem?_map,List.getElem?_map]
  cases h:(kls.map (·.1))[j]? with
  | none=>rw [List.getElem?_eq_none (by rw [Hz]; exact List.getElem?_eq_none_iff.mp h)]; rfl
  | some z=>rw [Eb h]; exact congrArg some (HQ _ _ _)
 have f:∀ {α:Type} (g:α->Str) (l:List α),(l.filter fun r=>decide (V.str (g r)=V.str w)).length=((l.map g).filter fun s=>decide (V.str s=V.str w)).length:=fun g l=>by
  rw [List.filter_map,List.length_map]
  rfl
 rw [f (fun r:R=>r.w),f (fun z:Kb=>z.w),List.map_take,List.map_take,e]
theorem Ro (F:PX K aB aP aM) (hn:∀ k,k<100->isNm (c k)) (hi:∀ k l,c k=c l->k=l) (h5:sz.length<=5) (h4:pz.length<=4) {kls:List Kl} (hk:Qz sz pz kls) (hkl:kls.length<=21) {rows:List R} {ls:List (List Ln)} {i:Nat} {z:Kb} (hz:(kls.map (·.1))[i]? = some z) (B:Gy K aB aP aM rows (BZ c sz) (Gb c pz wi) ((CZ c (kls.map (·.1))).take i) ls):Gy K aB aP aM (rows++[JF c i z]) (BZ c sz) (Gb c pz wi) ((CZ c (kls.map (·.1))).take (i+1)) (ls++[[]]):=by
 have hl:=(List.getElem?_eq_some_iff.mp hz).1
 rw [List.length_map] at hl
 have ho:=hk.ok z (List.mem_of_getElem? hz)
 have hroom:=hk.room i z hz
 rw [← Xh (c:=c)] at hroom
 rw [Qk hz]
 have f1:∀ b∈BZ c sz,b.1 ≠ c (30+i):=fun b hb e=>by
  obtain ⟨j,_,hj,e2⟩:=FJ (Ge hb)
  have:=hi _ _ (e2.symm.trans e)
  omega
 have f2:∀ r∈Gb c pz wi,r.1 ≠ c (30+i):=fun r hr e=>by
  obtain ⟨j,_,hj,e2⟩:=Hf (Ge hr)
  have:=hi _ _ (e2.symm.trans e)
  omega
 have f3:∀ k∈(CZ c (kls.map (·.1))).take i,k.nm ≠ c (30+i):=fun r hr e=>by
  obtain ⟨j,hj,_,e2⟩:=KH hr
  have:=hi _ _ (e2.symm.trans e)
  omega
 have mb:∀ {a:Nat} (ha:a<sz.length),(c a,sz[a])∈BZ c sz:=fun ha=>List.mem_of_getElem? (DW (List.getElem?_eq_getElem ha))
 cases z with
 | cp a b s0 =>
  obtain ⟨ha,hb,hs0,hs1⟩:=ho
  have hm:Ez "coupler" = 12:=by decide +kernel
  have hroom':(((CZ c (kls.map (·.1))).take i).filter fun r=>decide (V.str r.w=V.str "coupler")).length<Ez "coupler":=hroom
  exact B.Ub F (hn _ (by omega)) f1 f2 f3 (by omega) (hn _ (by omega)) (mb ha) (hn _ (by omega)) (mb hb) hs0 hs1
 | pl w0 a =>
  obtain ⟨ha,hw⟩:=ho
  exact B.plain F (by rcases hw with e | e; exact .inr e; exact .inl e) (hn _ (by omega)) f1 f2 f3 hroom (hn _ (by omega)) (mb ha)
end
theorem Np (c:Nat->Str) (sz:List Nat):(BZ c sz).map FQ=(List.range sz.length).map fun i=>FQ (c i,sz.getD i 0):=by
 refine List.ext_getElem? fun i=>?_
 rw [List.getElem?_map,List.getElem?_map]
 by_cases hi:i<sz.length
 ·rw [DW (List.getElem?_eq_getElem hi),List.getElem?_range hi]
  show some (FQ (c i,sz[i]))=some (FQ (c i,sz.getD i 0))
  rw [List.getD_eq_getElem?_getD,List.getElem?_eq_getElem hi]
  rfl
 ·rw [List.getElem?_eq_none (by rw [Fi]; omega),List.getElem?_eq_none (l:=List.range _) (by rw [List.length_range]; omega)]
  rfl
noncomputable abbrev J5 (c:Int) (i:Nat):Int:=Bl c (i:Int) % 10 ^ (9:Int).toNat
theorem c7 (c:Int) (i:Nat):0<=J5 c i/\J5 c i<=1000000000:=by
 have h1:0<=J5 c i:=Int.emod_nonneg _ (by decide)
 have h2:J5 c i<10 ^ (9:Int).toNat:=Int.emod_lt_of_pos _ (by decide)
 have e:(10:Int) ^ (9:Int).toNat=1000000000:=by decide
 rw [e] at h2
 omega
noncomputable def bz (K:PySem.W.Frag) (aB aP aM:Addr):Sp:=fun vs H Q _=>∃ (c:Int) (p pp q0 Dx:Addr) (sz pz:List Nat) (kls:List Kl) (us:List V),vs=[.int c,.ref p,.ref pp,.ref q0]/\H p=some (.lst (sz.map fun n:Nat=>V.int (n:Nat)))/\H pp=some (.lst (pz.map fun n:Nat=>V.int (n:Nat)))/\1<=sz.length/\sz.length<=5/\(∀ s∈sz,1<=s/\s<=61)/\1<=pz.length/\pz.length<=4/\(∀ z∈pz,1<=z/\z<=97)/\H q0=some (.lst us)/\Paired (fun z y=>FN Dx H z y) kls us/\Qz sz pz kls/\kls.length<=21/\PX K aB aP aM /\
 ∀ D rows vs' H',H D=none->Aj H H'->H' D=some (.lst vs')->Paired (fun (r:R) v=>TupAt H' r.v v) rows vs'->Gy K aB aP aM rows (BZ (Ce c) sz) (Gb (Ce c) pz (J5 c)) (CZ (Ce c) (kls.map (·.1))) (kls.map (·.2))->rows.length<=150->Q (.ref D) H'
theorem J8:Aw ["_law_cell","_law_sizes_here","_law_pipes","_law_knobs_here","_law_rows_here","_law_k","_law_name_here","_law_board","_law_rank","_law_shift","_law_low","_law_high"] ["_law_cell","_law_sizes_here","_law_pipes","_law_knobs_here"] (Ab Wi):=⟨rfl,rfl,rfl,by decide +kernel,rfl,by decide +kernel,by decide +kernel⟩
include N T in
theorem fW:Ax P w K mg base Bf 3 fRw dRw ["_law_cell","_law_sizes_here","_law_pipes","_law_knobs_here"] (bz K aB aP aM):=by
 have GNa:Ax P w K mg base Bf 2 fNa dNa ["_law_cell","_law_k"] aq:=fU N T
 have GMx:Ax P w K mg base Bf 1 fMx dMx ["_law_cell","_law_k"] K4:=JD N T
 refine N.FRw.1.ok J8 (fun vs H Q E h=>?_) (fun cdv A outer s H vs Q E hr h=>?_)
 ·obtain ⟨c,p,pp,q0,Dx,sz,pz,kls,us,rfl,_⟩:=h
  rfl
 ·obtain ⟨c,p,pp,q0,Dx,sz,pz,kls,us,rfl,hp,hpp,h0,h5,hsz,g0,g4,hpz,hq,hpr,hk,hkl,F0,q⟩:=h
  have hrNa:BV 2 _:=hr.mono (by decide)
  have hrMx:BV 1 _:=hr.mono (by decide)
  refine ⟨_,(Ae (Gv (i:=4) J8.nd rfl rfl rfl (BW (osc:=Ab Wi) (N:=["_law_cell","_law_sizes_here","_law_pipes","_law_knobs_here","_law_rows_here","_law_k","_law_name_here","_law_board","_law_rank","_law_shift","_law_low","_law_high"]) rfl rfl (by decide +kernel)) (Cj rfl T.range (Aa (BX Bg rfl T.len PySem.boot_len (Aa (pv 1) Ac)) Ac)) (fun _ _ _ _=>CP) (fun _ _ _ _=>(Cv (Aa Bs (Aa (Ah GNa hrNa rfl N.FNa.2.2 N.FNa.1.kp N.FNa.2.1 .nil Am (Aa (pv 1) (Aa (pv 0) Ac))) (Aa (Ar (Bc (K:=K) rfl) (pv 2) (pv 0) (fun _ _=>rfl)) Ac))))))
   (Ae (Ci PassesOwn.never rfl (Cj rfl T.range (Aa (BX Bg rfl T.len PySem.boot_len (Aa (pv 2) Ac)) Ac)) (Bb (i:=5) J8.nd rfl (Or.inl rfl)) (Af (C_ (Ep PySem.F.plainAttrs_list PySem.F.slot_list_append PySem.F.type_list_append B_ (pv 4) (Aa (Cv (Aa Bs (Aa (Ah GNa hrNa rfl N.FNa.2.2 N.FNa.1.kp N.FNa.2.1 .nil Am (Aa (pv 0) (Aa (Ay Bo Ad (pv 5)) Ac))) (Aa (Ar (Bc (K:=K) rfl) (pv 2) (pv 5) (fun _ _=>rfl)) (Aa (Ay Br (Ah GMx hrMx rfl N.FMx.2.2 N.FMx.1.kp N.FMx.2.1 .nil Am (Aa (pv 0) (Aa (pv 5) Ac))) (Ay We Ad Ad)) Ac))))) Ac)))))
   (Ae (Ci PassesOwn.never rfl (Cj rfl T.range (Aa (BX Bg rfl T.len PySem.boot_len (Aa (pv 3) Ac)) Ac)) (Bb (i:=5) J8.nd rfl (Or.inl rfl)) (Ae (BJ (i:=6) J8.nd rfl (Or.inl rfl) (Ah GNa hrNa rfl N.FNa.2.2 N.FNa.1.kp N.FNa.2.1 .nil Am (Aa (pv 0) (Aa (Ay Bo Ad (pv 5)) Ac))))
   (Ae (BJ (i:=7) J8.nd rfl (Or.inl rfl) (Ah GNa hrNa rfl N.FNa.2.2 N.FNa.1.kp N.FNa.2.1 .nil Am (Aa (pv 0) (Aa (Ar (Al (K:=K) rfl) (Ar (Bc (K:=K) rfl) (pv 3) (pv 5) (fun _ _=>rfl)) Ad (fun _ _=>rfl)) Ac))))
   (Ae (CT (Ba Dj (Ar (Al (K:=K) rfl) (Ar (Bc (K:=K) rfl) (pv 3) (pv 5) (fun _ _=>rfl)) Ad (fun _ _=>rfl)) Bs (Be _)) (Af (C_ (Ep PySem.F.plainAttrs_list PySem.F.slot_list_append PySem.F.type_list_append B_ (pv 4) (Aa (Cv (Aa Bs (Aa (pv 6) (Aa (pv 7) (Aa (Ah GNa hrNa rfl N.FNa.2.2 N.FNa.1.kp N.FNa.2.1 .nil Am (Aa (pv 0) (Aa (Ar (Al (K:=K) rfl) (Ar (Bc (K:=K) rfl) (pv 3) (pv 5) (fun _ _=>rfl)) Ad (fun _ _=>rfl)) Ac))) (Aa (Ar (Al (K:=K) rfl) (Ar (Bc (K:=K) rfl) (pv 3) (pv 5) (fun _ _=>rfl)) Ad (fun _ _=>rfl)) Ac)))))) Ac)))) (Af (C_ (Ep PySem.F.plainAttrs_list PySem.F.slot_list_append PySem.F.type_list_append B_ (pv 4) (Aa (Cv (Aa (Ar (Al (K:=K) rfl) (Ar (Bc (K:=K) rfl) (pv 3) (pv 5) (fun _ _=>rfl)) Ad (fun _ _=>rfl)) (Aa (pv 6) (Aa (pv 7) Ac)))) Ac)))))
   (Af (CT (Ba Dj (Ar (Al (K:=K) rfl) (Ar (Bc (K:=K) rfl) (pv 3) (pv 5) (fun _ _=>rfl)) Ad (fun _ _=>rfl)) Bs (Be _)) (Af (Ci PassesOwn.never rfl (Bd (Ar (Al (K:=K) rfl) (Ar (Bc (K:=K) rfl) (pv 3) (pv 5) (fun _ _=>rfl)) Ad (fun _ _=>rfl))) (Fx rfl (Bh (Bb (i:=8) J8.nd rfl (Or.inl rfl)) (Bh (Bb (i:=9) J8.nd rfl (Or.inl rfl)) (Bh (Bb (i:=10) J8.nd rfl (Or.inl rfl)) (Bh (Bb (i:=11) J8.nd rfl (Or.inl rfl)) EY))))) (Af (C_ (Ep PySem.F.plainAttrs_list PySem.F.slot_list_append PySem.F.type_list_append B_ (pv 4) (Aa (Cv (Aa Bs (Aa (Ah GNa hrNa rfl N.FNa.2.2 N.FNa.1.kp N.FNa.2.1 .nil Am (Aa (pv 0) (Aa (Ay Bo Ad (pv 8)) Ac))) (Aa (pv 9) (Aa (pv 10) (Aa (pv 11) Ac)))))) Ac)))))) Bj))))))
   (Af (A_ (pv 4)))))),?_⟩
  have hlen:((sz.map fun n:Nat=>V.int (n:Nat)).length:Nat)=sz.length:=by rw [List.length_map]
  have hlenp:((pz.map fun n:Nat=>V.int (n:Nat)).length:Nat)=pz.length:=by rw [List.length_map]
  have hnm:∀ k,k<100->isNm (Ce c k):=fun k h=>dU c (by omega)
  have hin:∀ k l,Ce c k=Ce c l->k=l:=fun k l h=>J3 h
  refine ⟨_,rfl,p,_,rfl,.inl (.inl (.inl hp)),_,rfl,by omega,by omega,?_⟩
  rw [Int.toNat_natCast]
  refine Kr (n:=(sz.map fun n:Nat=>V.int (n:Nat)).length) (fun i=>(FQ (Ce c i,sz.getD i 0)).v) (Az (by omega)) (fun i hi H1 s1 R k=>?_) (fun D H1 vs1 hD s1 hl1 hv1=>?_)
  ·rw [hlen] at hi
   refine ⟨_,rfl,_,rfl,c,i,rfl,by omega,fun H2 s2=>?_⟩
   refine ⟨_,rfl,_,rfl,p,_,_,.int (sz.getD i 0:Nat),rfl,rfl,.inl (.inl (s2 _ _ (s1 _ _ hp))),Ai (by rw [List.getElem?_map,List.getElem?_eq_getElem hi,List.getD_eq_getElem?_getD,List.getElem?_eq_getElem hi]; rfl),by show 3<=sizeLine; decide,fun T6 hT6=>?_⟩
   exact k _ _ (s2.trans (Av hT6)) ⟨T6,rfl,Ag⟩
  rw [hlen] at hv1
  have hv1':Paired (fun (r:R) v=>TupAt H1 r.v v) ((BZ (Ce c) sz).map FQ) vs1:=by
   rw [Np]
   exact Bv (F:=fun (r:R) v=>TupAt H1 r.v v) (fun i=>FQ (Ce c i,sz.getD i 0)) hv1
  clear hv1
  have B0:=Od (K:=K) (aB:=aB) (aP:=aP) (aM:=aM) F0 hnm hin h5 hsz sz.length (Nat.le_refl _)
  rw [List.take_of_length_le (by rw [Fi]; exact Nat.le_refl _)] at B0
  refine ⟨_,rfl,pp,_,rfl,.inl (.inl (.inl (s1 _ _ hpp))),_,rfl,by omega,by omega,?_⟩
  rw [Int.toNat_natCast]
  refine Ie (lo:=0) (n:=(pz.map fun n:Nat=>V.int (n:Nat)).length) (fun i σ H4=>Aj H H4/\∃ (rows:List R) (vs4:List V),H4 D=some (.lst vs4)/\Paired (fun (r:R) v=>TupAt H4 r.v v) rows vs4/\Gy K aB aP aM rows (BZ (Ce c) sz) ((Gb (Ce c) pz (J5 c)).take i) [] []/\rows.length=sz.length+i/\∃ v5 v6 v7 v8 v9 v10 v11,σ=[some (.int c),some (.ref p),some (.ref pp),some (.ref q0),some (.ref D),v5,v6,v7,v8,v9,v10,v11])
   ⟨s1,_,vs1,hl1,hv1',B0,by rw [List.length_map,Fi,Nat.add_zero],_,_,_,_,_,_,_,rfl⟩ ?_ ?_
  ·rintro i σ H4 hi ⟨s4,rows,vs4,hd,hv4,B,hrl,v5,v6,v7,v8,v9,v10,v11,rfl⟩
   rw [hlenp] at hi
   have ei:((0:Int)+(i:Int))=(i:Int):=Int.zero_add _
   have hz:=List.getElem?_eq_getElem hi
   refine ⟨_,rfl,.inl ⟨rfl,_,.inl (.inl hd)⟩,_,rfl,_,rfl,_,_,rfl,rfl,c,10+i,?_,by omega,fun H5 s5=>?_⟩
   ·rw [ei]
    rfl
   refine ⟨_,rfl,_,rfl,pp,_,_,.int (pz[i]:Nat),rfl,rfl,.inl (.inl (s5 _ _ (s4 _ _ hpp))),(by rw [ei]; exact Ai (by rw [List.getElem?_map,hz]; rfl)),_,rfl,_,rfl,_,_,rfl,by omega,by omega,_,_,rfl,rfl,⟨by decide,by decide,by decide⟩,_,_,rfl,rfl,(by show (0:Int)<10 ^ (9:Int).toNat; decide),by show 4<=sizeLine; decide,fun T6 hT6=>?_⟩
   have t6:=Av (o:=HO.tup [V.str "rank",V.str (Ce c (10+i)),V.int (pz[i]:Nat),V.int (Bl c (0+(i:Int)) % 10 ^ (9:Int).toNat)]) hT6
   have u6:upd H5 T6 (HO.tup [V.str "rank",V.str (Ce c (10+i)),V.int (pz[i]:Nat),V.int (Bl c (0+(i:Int)) % 10 ^ (9:Int).toNat)]) T6=some (.tup (Hg (Ce c (10+i),pz[i],J5 c i)).v):=by rw [Ag,ei]
   generalize upd H5 T6 (HO.tup [V.str "rank",V.str (Ce c (10+i)),V.int (pz[i]:Nat),V.int (Bl c (0+(i:Int)) % 10 ^ (9:Int).toNat)])=H6 at t6 u6 ⊢
   have hd6:=t6 _ _ (s5 _ _ hd)
   have hvl:=hv4.length
   refine ⟨D,vs4,_,rfl,rfl,hd6,Az (by omega),?_⟩
   refine ⟨fun b o e=>?_,_,vs4++[V.ref T6],Ag,(CV (Ak (s5.trans t6) hv4) hd6).snoc (TupAt.upd ⟨T6,rfl,u6⟩ hd6),Rx F0 hnm hin h5 g4 hpz (c7 c) hz B,by rw [List.length_append,List.length_singleton]; omega,_,_,_,_,_,_,_,rfl⟩
   rw [BP (BL e hD)]
   exact t6 _ _ (s5 _ _ (s4 _ _ e))
  rintro σ H3 ⟨s3,rows0,vs3,hd3,hv3,B3,hrl3,v5,v6,v7,v8,v9,v10,v11,rfl⟩
  rw [hlenp,List.take_of_length_le (by rw [Gu]; exact Nat.le_refl _)] at B3
  rw [hlenp] at hrl3
  have hlu:=hpr.length
  refine ⟨_,rfl,q0,_,rfl,.inl (.inl (.inl (s3 _ _ hq))),_,rfl,by omega,by omega,?_⟩
  rw [Int.toNat_natCast]
  have hnd:((Gb (Ce c) pz (J5 c)).map (·.1)).Nodup:=by
   refine Gp fun i j x hi hj=>?_
   rw [List.getElem?_map] at hi hj
   obtain ⟨a,ha,e1⟩:=Option.map_eq_some_iff.mp hi
   obtain ⟨b,hb,e2⟩:=Option.map_eq_some_iff.mp hj
   obtain ⟨_,_,rfl⟩:=Fb ha
   obtain ⟨_,_,rfl⟩:=Fb hb
   have:=J3 (e1.trans e2.symm)
   omega
  refine Ie (lo:=0) (n:=us.length) (fun i σ H4=>Aj H H4/\∃ (rows:List R) (vs4:List V),H4 D=some (.lst vs4)/\Paired (fun (r:R) v=>TupAt H4 r.v v) rows vs4/\Gy K aB aP aM rows (BZ (Ce c) sz) (Gb (Ce c) pz (J5 c)) ((CZ (Ce c) (kls.map (·.1))).take i) ((kls.map (·.2)).take i)/\rows.length<=9+5 * i/\∃ v5 v6 v7 v8 v9 v10 v11,σ=[some (.int c),some (.ref p),some (.ref pp),some (.ref q0),some (.ref D),v5,v6,v7,v8,v9,v10,v11])
   ⟨s3,rows0,vs3,hd3,hv3,B3,by omega,_,_,_,_,_,_,_,rfl⟩ ?_ ?_
  ·rintro i σ H4 hi ⟨s4,rows,vs4,hd,hv4,B,hrl,w5,w6,w7,w8,w9,w10,w11,rfl⟩
   have hik:i<kls.length:=by omega
   have hkb:=List.getElem?_eq_getElem hik
   obtain ⟨y,hy,hty⟩:=Bw hpr hkb
   have hz1:(kls.map (·.1))[i]? = some (kls[i]).1:=by rw [List.getElem?_map,hkb]; rfl
   have hz2:(kls.map (·.2))[i]? = some (kls[i]).2:=by rw [List.getElem?_map,hkb]; rfl
   have hok:=hk.ok _ (List.mem_of_getElem? hz1)
   have hlw:=hk.ln _ (List.mem_of_getElem? hkb)
   have BK:=Ro F0 hnm hin h5 g4 hk hkl hz1 B
   generalize kls[i]=kb at hkb hty hok hz1 hz2 hlw BK
   have etk:∀ {l:List Ln},l=kb.2->(kls.map (·.2)).take i++[l]=(kls.map (·.2)).take (i+1):=fun e=>by rw [List.take_add_one,hz2,e]; rfl
   have ei:((0:Int)+(i:Int))=(i:Int):=Int.zero_add _
   have hy':∀ {H5:Hp},Aj H H5->CK K H5 q0 us/\Nv us (0+(i:Int))=some y:=fun s5=>⟨.inl (.inl (s5 _ _ hq)),by rw [ei]; exact Ai hy⟩
   obtain ⟨ex,⟨T1,rfl,ht1⟩,hex⟩:=hty
   have hvl:=hv4.length
   refine ⟨_,rfl,_,rfl,_,_,rfl,rfl,c,30+i,?_,by omega,fun H5 s5=>?_⟩
   ·rw [ei]
    rfl
   have s05:=s4.trans s5
   obtain ⟨kb,ll⟩:=kb
   cases kb with
   | cp a b s0 =>
    obtain ⟨ha,hb,_,_⟩:=hok
    obtain ⟨rfl,hl0⟩:ex=[]/\ll=[]:=by
     rcases hex with ⟨e1,e2,_⟩ | ⟨e,_⟩
     ·exact ⟨e1,e2⟩
     ·exact absurd (show ("coupler" : Str) = "stop" from e) (by decide +kernel)
    refine ⟨_,rfl,_,rfl,_,rfl,q0,us,_,_,rfl,rfl,(hy' s05).1,(hy' s05).2,T1,_,_,_,rfl,rfl,.inl (.inl (s05 _ _ ht1)),Ai (j:=1) rfl,c,a,rfl,by omega,fun H6 s6=>?_⟩
    have s06:=s05.trans s6
    refine ⟨_,rfl,_,rfl,q0,us,_,_,rfl,rfl,(hy' s06).1,(hy' s06).2,T1,_,_,_,rfl,rfl,.inl (.inl (s06 _ _ ht1)),Ai (j:=0) rfl,rfl,_,rfl,DN ?_⟩
    have hd6:=s6 _ _ (s5 _ _ hd)
    refine ⟨_,rfl,.inl ⟨rfl,_,.inl (.inl hd6)⟩,_,rfl,_,rfl,_,rfl,_,rfl,_,rfl,q0,us,_,_,rfl,rfl,(hy' s06).1,(hy' s06).2,T1,_,_,_,rfl,rfl,.inl (.inl (s06 _ _ ht1)),Ai (j:=2) rfl,c,b,rfl,by omega,fun H7 s7=>?_⟩
    have s07:=s06.trans s7
    refine ⟨_,rfl,_,rfl,q0,us,_,_,rfl,rfl,(hy' s07).1,(hy' s07).2,T1,_,_,_,rfl,rfl,.inl (.inl (s07 _ _ ht1)),Ai (j:=3) rfl,by show 5<=sizeLine; decide,fun T8 hT8=>?_⟩
    have t8:=Av (o:=HO.tup (JF (Ce c) i (Kb.cp a b s0)).v) hT8
    have u8:upd H7 T8 (HO.tup (JF (Ce c) i (Kb.cp a b s0)).v) T8=some (.tup (JF (Ce c) i (Kb.cp a b s0)).v):=Ag
    refine ⟨D,vs4,_,rfl,rfl,t8 _ _ (s7 _ _ hd6),Az (by omega),?_⟩
    have s48:=s5.trans (s6.trans (s7.trans t8))
    have hd8:=s48 _ _ hd
    have s09:Aj H (upd (upd H7 T8 (HO.tup (JF (Ce c) i (Kb.cp a b s0)).v)) D (.lst (vs4++[V.ref T8]))):=fun b o e=>by
     rw [BP (BL e hD)]
     exact s48 _ _ (s4 _ _ e)
    refine ⟨_,rfl,_,rfl,q0,us,_,_,rfl,rfl,(hy' s09).1,(hy' s09).2,T1,_,_,_,rfl,rfl,.inl (.inl (s09 _ _ ht1)),Ai (j:=0) rfl,rfl,_,rfl,Ck ?_⟩
    exact ⟨s09,_,_,Ag,(CV (Ak s48 hv4) hd8).snoc (TupAt.upd ⟨T8,rfl,u8⟩ hd8),by rw [← etk hl0.symm]; exact BK,by rw [List.length_append,List.length_singleton]; omega,_,_,_,_,_,_,_,rfl⟩
   | pl w0 a =>
    obtain ⟨ha,hw⟩:=hok
    have nw:¬ V.str w0=V.str "coupler":=by rcases hw with rfl | rfl <;> decide +kernel
    have T1e:∀ {H':Hp},Aj H H'->H' T1=some (.tup (V.str w0::V.int (a:Nat)::ex)):=fun s=>s _ _ ht1
    refine ⟨_,rfl,_,rfl,_,rfl,q0,us,_,_,rfl,rfl,(hy' s05).1,(hy' s05).2,T1,_,_,_,rfl,rfl,.inl (.inl (T1e s05)),Ai (j:=1) rfl,c,a,rfl,by omega,fun H6 s6=>?_⟩
    have s06:=s05.trans s6
    refine ⟨_,rfl,_,rfl,q0,us,_,_,rfl,rfl,(hy' s06).1,(hy' s06).2,T1,_,_,_,rfl,rfl,.inl (.inl (T1e s06)),Ai (j:=0) rfl,rfl,_,rfl,?_⟩
    rw [decide_eq_false nw]
    refine Ck ?_
    have hd6:=s6 _ _ (s5 _ _ hd)
    refine ⟨_,rfl,.inl ⟨rfl,_,.inl (.inl hd6)⟩,_,rfl,_,rfl,q0,us,_,_,rfl,rfl,(hy' s06).1,(hy' s06).2,T1,_,_,_,rfl,rfl,.inl (.inl (T1e s06)),Ai (j:=0) rfl,_,rfl,_,rfl,by show 3<=sizeLine; decide,fun T8 hT8=>?_⟩
    have t8:=Av (o:=HO.tup [V.str w0,V.str (Ce c (30+i)),V.str (Ce c a)]) hT8
    have u8:upd H6 T8 (HO.tup [V.str w0,V.str (Ce c (30+i)),V.str (Ce c a)]) T8=some (.tup (JF (Ce c) i (Kb.pl w0 a)).v):=Ag
    refine ⟨D,vs4,_,rfl,rfl,t8 _ _ hd6,Az (by omega),?_⟩
    have s48:=s5.trans (s6.trans t8)
    have hd8:=s48 _ _ hd
    have s09:Aj H (upd (upd H6 T8 (HO.tup [V.str w0,V.str (Ce c (30+i)),V.str (Ce c a)])) D (.lst (vs4++[V.ref T8]))):=fun b o e=>by
     rw [BP (BL e hD)]
     exact s48 _ _ (s4 _ _ e)
    have hv9:=(CV (ws:=vs4++[V.ref T8]) (Ak s48 hv4) hd8).snoc (TupAt.upd (ws:=vs4++[V.ref T8]) (D:=D) ⟨T8,rfl,u8⟩ hd8)
    have hd9:upd (upd H6 T8 (HO.tup [V.str w0,V.str (Ce c (30+i)),V.str (Ce c a)])) D (.lst (vs4++[V.ref T8])) D=some (.lst (vs4++[V.ref T8])):=Ag
    clear u8 t8 s48 hd8 hd6
    generalize upd (upd H6 T8 (HO.tup [V.str w0,V.str (Ce c (30+i)),V.str (Ce c a)])) D (.lst (vs4++[V.ref T8]))=H9 at s09 hv9 hd9 ⊢
    refine ⟨_,rfl,_,rfl,q0,us,_,_,rfl,rfl,(hy' s09).1,(hy' s09).2,T1,_,_,_,rfl,rfl,.inl (.inl (T1e s09)),Ai (j:=0) rfl,rfl,_,rfl,?_⟩
    rcases hex with ⟨rfl,hl0,hns⟩ | ⟨hst,A,ts,rfl,_,hA,hts⟩
    ·have hns':¬ V.str w0=V.str "stop":=fun e=>hns (V.str.inj e)
     rw [decide_eq_false hns']
     refine Ck ?_
     exact ⟨s09,_,_,hd9,hv9,by rw [← etk (show ([]:List Ln)=ll from hl0.symm)]; exact BK,by rw [List.length_append,List.length_singleton]; omega,_,_,_,_,_,_,_,rfl⟩
    ·have hst':w0 = "stop":=hst
     subst hst'
     rw [decide_eq_true rfl]
     refine DN ?_
     have hA9:=s09 _ _ hA
     have hS9:CK K H9 A ts:=.inl (.inl hA9)
     have hAD:¬ A=D:=fun z=>by rw [z,hD] at hA; cases hA
     have hl4:=hlw.1
     have hlw2:=hlw.2.1
     have htl:=hts.length
     have hsa:sz.getD a 0=sz[a]:=by rw [List.getD_eq_getElem?_getD,List.getElem?_eq_getElem ha]; rfl
     have hs61:=hsz sz[a] (List.getElem_mem ha)
     have mb:(Ce c a,sz[a])∈BZ (Ce c) sz:=List.mem_of_getElem? (DW (List.getElem?_eq_getElem ha))
     refine ⟨_,rfl,_,rfl,q0,us,_,_,rfl,rfl,(hy' s09).1,(hy' s09).2,T1,_,_,_,rfl,rfl,.inl (.inl (T1e s09)),Ai (j:=2) rfl,A,rfl,⟨_,hS9⟩,Cp (K:=K) (a:=A) (xs:=ts) (fun j σ H4=>Aj H H4/\∃ (rows:List R) (vs4:List V),H4 D=some (.lst vs4)/\Paired (fun (r:R) v=>TupAt H4 r.v v) rows vs4/\Gy K aB aP aM rows (BZ (Ce c) sz) (Gb (Ce c) pz (J5 c)) ((CZ (Ce c) (kls.map (·.1))).take (i+1)) ((kls.map (·.2)).take i++[ll.take j])/\Tl rows (Ce c a) j/\rows.length<=9+5 * i+1+j/\∃ v8 v9 v10 v11,σ=[some (.int c),some (.ref p),some (.ref pp),some (.ref q0),some (.ref D),some (.int (0+(i:Int))),some (.str (Ce c (30+i))),some (.str (Ce c a)),v8,v9,v10,v11])
      ⟨s09,_,_,hd9,hv9,BK,Tl.stop rows _ _,by rw [List.length_append,List.length_singleton]; omega,_,_,_,_,rfl⟩ (fun j σ H4 _ h=>.inl (.inl (h.1 _ _ hA))) ?_ ?_⟩
     ·rintro j x σ H10 hj ⟨s10,rows',vs10,hd10,hv10,B10,T10,hr10,v8,v9,v10,v11,rfl⟩
      obtain ⟨ln,hln,T2,rfl,ht2⟩:=Gk hts hj
      have hg:=hlw2 ln (List.mem_of_getElem? hln)
      have hg1:=hg.r
      have hg2:=hg.lo
      have hg3:=hg.le
      have hg4:=hg.hi
      have hjl:=(List.getElem?_eq_some_iff.mp hln).1
      have hjl4:j<4:=by omega
      rw [show sz.getD (Kb.pl "stop" a).bd 0=sz[a] from hsa] at hg4
      refine ⟨T2,_,rfl,.inl (.inl (s10 _ _ ht2)),rfl,_,_,rfl,_,_,rfl,_,_,rfl,_,_,rfl,rfl,?_⟩
      refine ⟨_,rfl,.inl ⟨rfl,_,.inl (.inl hd10)⟩,_,rfl,_,rfl,_,_,rfl,rfl,c,10+ln.r,rfl,by omega,fun H11 s11=>?_⟩
      refine ⟨_,rfl,_,rfl,_,rfl,by show 5<=sizeLine; decide,fun T12 hT12=>?_⟩
      have t12:=Av (o:=HO.tup [V.str "line",V.str (Ce c (10+ln.r)),V.int ln.sh,V.int ln.lo,V.int ln.hi]) hT12
      have u12:upd H11 T12 (HO.tup [V.str "line",V.str (Ce c (10+ln.r)),V.int ln.sh,V.int ln.lo,V.int ln.hi]) T12=some (.tup (R.v ⟨"line",Ce c (10+ln.r),[.int ln.sh,.int ln.lo,.int ln.hi]⟩)):=Ag
      generalize upd H11 T12 (HO.tup [V.str "line",V.str (Ce c (10+ln.r)),V.int ln.sh,V.int ln.lo,V.int ln.hi])=H12 at t12 u12 ⊢
      have hd12:=t12 _ _ (s11 _ _ hd10)
      have hvl10:=hv10.length
      refine ⟨D,vs10,_,rfl,rfl,hd12,Az (by omega),?_⟩
      refine ⟨fun b o e=>?_,_,vs10++[V.ref T12],Ag,(CV (Ak (s11.trans t12) hv10) hd12).snoc (TupAt.upd ⟨T12,rfl,u12⟩ hd12),?_,T10.line rfl,by rw [List.length_append,List.length_singleton]; omega,_,_,_,_,rfl⟩
      ·rw [BP (BL e hD)]
       exact t12 _ _ (s11 _ _ (s10 _ _ e))
      ·have e11:ll.take (j+1)=ll.take j++[ln]:=by
        rw [List.take_add_one,show ll[j]? = some ln from hln]
        rfl
       rw [e11]
       exact B10.line F0 T10 hjl4 (JP (List.getElem?_eq_getElem hg1)) hnd (hnm _ (by omega)) mb hg3 hg4 hg.s1 hg.s2 hg2 (by omega)
     ·rintro σ H10 ⟨s10,rows',vs10,hd10,hv10,B10,T10,hr10,v8,v9,v10,v11,rfl⟩
      rw [etk (List.take_of_length_le (by omega))] at B10
      exact ⟨s10,_,_,hd10,hv10,B10,by omega,_,_,_,_,_,_,_,rfl⟩
  ·rintro σ H4 ⟨s4,rows,vs4,hd,hv4,B,hrl,w5,w6,w7,w8,w9,w10,w11,rfl⟩
   rw [List.take_of_length_le (by rw [Hz,List.length_map]; omega),List.take_of_length_le (by rw [List.length_map]; omega)] at B
   exact ⟨_,rfl,q D rows vs4 H4 hD s4 hd hv4 B (by omega)⟩
noncomputable def jT (K:PySem.W.Frag) (aB aP aM:Addr) (H:Hp) (DS DP DK DR:Addr) (c:Int) (sz pz:List Nat) (kls:List Kl) (us:List V) (rows:List R) (vs:List V):Prop:=H DS=some (.lst (sz.map fun n:Nat=>V.int (n:Nat)))/\H DP=some (.lst (pz.map fun n:Nat=>V.int (n:Nat)))/\(1<=sz.length/\sz.length<=5/\(∀ s∈sz,1<=s/\s<=61)/\1<=pz.length/\pz.length<=4/\(∀ z∈pz,1<=z/\z<=97))/\H DK=some (.lst us)/\Paired (fun z y=>FN DK H z y) kls us/\Qz sz pz kls/\kls.length<=21/\(∃ z∈kls,z.1.w = "stop")/\H DR=some (.lst vs)/\Paired (fun (r:R) v=>TupAt H r.v v) rows vs/\Gy K aB aP aM rows (BZ (Ce c) sz) (Gb (Ce c) pz (J5 c)) (CZ (Ce c) (kls.map (·.1))) (kls.map (·.2))/\rows.length<=150/\(∀ s∈sz,s<=5)
noncomputable def dR (K:PySem.W.Frag) (aB aP aM:Addr):Sp:=fun vs H Q _=>∃ (a:Addr) (ns:List Int),vs=[.ref a]/\CK K H a (ns.map V.int)/\ns.length<=63/\PX K aB aP aM/\∀ (W DS DP DK DR:Addr) (c:Int) (sz pz:List Nat) (kls:List Kl) (us:List V) (rows:List R) (vs':List V) H',Aj H H'->H' W=some (.lst [.ref DS,.ref DP,.ref DK,.ref DR])->jT K aB aP aM H' DS DP DK DR c sz pz kls us rows vs'->Q (.ref W) H'
theorem ints_of:∀ {xs:List V},(∀ y∈xs,∃ c:Int,y=.int c)->∃ cs:List Int,xs=cs.map V.int
 | [],_=>⟨[],rfl⟩
 | y::xs,h=>by
  obtain ⟨c,rfl⟩:=h y (List.mem_cons_self ..)
  obtain ⟨cs,rfl⟩:=ints_of fun z hz=>h z (List.mem_cons_of_mem _ hz)
  exact ⟨c::cs,rfl⟩
theorem IV {ns:List Int} {lo hi:Option Int} {k:Int}:∀ y∈stepV (ns.map V.int) lo hi k,∃ c:Int,y=.int c:=fun y hy=>by
 obtain ⟨c,_,e⟩:=List.mem_map.mp (Qn hy)
 exact ⟨c,e.symm⟩
theorem TY {ns:List Int} (h:ns.length<=63):(stepV (ns.map V.int) (some 3) (some 63) 3).length<=20:=by
 unfold stepV
 refine Nat.le_trans (List.length_filterMap_le _ _) ?_
 have e:sliceBounds (some 3) (some 63) (some 3) (ns.map V.int).length=(max 0 (min 3 ((ns.length:Nat):Int)),max 0 (min 63 ((ns.length:Nat):Int)),3):=by rw [List.length_map]; rfl
 rw [e]
 show (sliceRange (max 0 (min 3 ((ns.length:Nat):Int))) (max 0 (min 63 ((ns.length:Nat):Int))) 3).length<=20
 unfold sliceRange
 rw [List.length_map,List.length_range]
 show (if (3:Int) > 0 then (if max 0 (min 3 ((ns.length:Nat):Int))<max 0 (min 63 ((ns.length:Nat):Int)) then (max 0 (min 63 ((ns.length:Nat):Int)) - max 0 (min 3 ((ns.length:Nat):Int))+3 - 1) / 3 else 0) else _).toNat<=20
 rw [if_pos (by decide)]
 split <;> omega
theorem Qc:Aw ["_law_script","_law_first","_law_second","_law_sizes_here","_law_pipes","_law_knobs_here"] ["_law_script"] (Ab Wy):=⟨rfl,rfl,rfl,by decide +kernel,rfl,by decide +kernel,by decide +kernel⟩
include N T in
theorem fD:Ax P w K mg base Bf 6 fWd dWd ["_law_script"] (dR K aB aP aM):=by
 have GCe:Ax P w K mg base Bf 1 fCe dCe ["_law_script","_law_k"] (cL K):=cX N T
 have GSz:Ax P w K mg base Bf 2 fSz dSz ["_law_cell","_law_many","_law_most"] cA:=dz N T
 have GMx:Ax P w K mg base Bf 1 fMx dMx ["_law_cell","_law_k"] K4:=JD N T
 have GKs:Ax P w K mg base Bf 4 fKs dKs ["_law_cells","_law_sizes_here","_law_pipes"] eN:=dg N T
 have GRw:Ax P w K mg base Bf 3 fRw dRw ["_law_cell","_law_sizes_here","_law_pipes","_law_knobs_here"] (bz K aB aP aM):=fW N T
 refine N.FWd.1.ok Qc (fun vs H Q E h=>?_) (fun cdv A outer s H vs Q E hr h=>?_)
 ·obtain ⟨a,ns,rfl,_⟩:=h
  rfl
 ·obtain ⟨a,ns,rfl,hS,hlen,F0,q⟩:=h
  have hrCe:BV 1 _:=hr.mono (by decide)
  have hrSz:BV 2 _:=hr.mono (by decide)
  have hrMx:BV 1 _:=hr.mono (by decide)
  have hrKs:BV 4 _:=hr.mono (by decide)
  have hrRw:BV 3 _:=hr.mono (by decide)
  refine ⟨_,(Ae (BJ (i:=1) Qc.nd rfl (Or.inr rfl) (Ah GCe hrCe rfl N.FCe.2.2 N.FCe.1.kp N.FCe.2.1 .nil Am (Aa (pv 0) (Aa Ad Ac))))
   (Ae (BJ (i:=2) Qc.nd rfl (Or.inr rfl) (Ah GCe hrCe rfl N.FCe.2.2 N.FCe.1.kp N.FCe.2.1 .nil Am (Aa (pv 0) (Aa Ad Ac))))
   (Ae (BJ (i:=3) Qc.nd rfl (Or.inl rfl) (Ah GSz hrSz rfl N.FSz.2.2 N.FSz.1.kp N.FSz.2.1 .nil Am (Aa (pv 2) (Aa (Ar El (De (Aa Ad (Aa Ad (Aa Ad (Aa Ad (Aa Ad Ac)))))) (Ay Br (pv 1) Ad) (fun _ _=>rfl)) (Aa Ad Ac)))))
   (Ae (Gv (i:=4) Qc.nd rfl rfl rfl (BW (osc:=Ab Wy) (N:=["_law_script","_law_first","_law_second","_law_sizes_here","_law_pipes","_law_knobs_here"]) rfl rfl (by decide +kernel)) (Cj rfl T.range (Aa (Ay Bo Ad (Ay Br (Ay Cd (pv 1) Ad) Ad)) Ac)) (fun _ _ _ _=>CP) (fun _ _ _ _=>(Ay Bo Ad (Ay Br (Ah GMx hrMx rfl N.FMx.2.2 N.FMx.1.kp N.FMx.2.1 .nil Am (Aa (pv 3) (Aa (Ay Bo Ad (pv 0)) Ac))) (Ar (Bc (K:=K) rfl) (De (Aa Ad (Aa Ad (Aa Ad (Aa Ad Ac))))) (Ay Br (Ay Cd (pv 2) Ad) Ad) (fun _ _=>rfl))))))
   (Ae (BJ (i:=5) Qc.nd rfl (Or.inl rfl) (Ah GKs hrKs rfl N.FKs.2.2 N.FKs.1.kp N.FKs.2.1 .nil Am (Aa (Ay Nf (LK (pv 0) (Cw Ad) (Cw Ad) Ad) (De (Aa (Ay Bo (Ay Je Ad (pv 1)) Ad) Ac))) (Aa (pv 3) (Aa (pv 4) Ac)))))
   (Af (A_ (De (Aa (pv 3) (Aa (pv 4) (Aa (pv 5) (Aa (Ah GRw hrRw rfl N.FRw.2.2 N.FRw.1.kp N.FRw.2.1 .nil Am (Aa (Ah GCe hrCe rfl N.FCe.2.2 N.FCe.1.kp N.FCe.2.1 .nil Am (Aa (pv 0) (Aa Ad Ac))) (Aa (pv 3) (Aa (pv 4) (Aa (pv 5) Ac))))) Ac)))))))))))),?_⟩
  refine ⟨_,rfl,a,0,ns,rfl,hS,fun first=>?_⟩
  refine ⟨_,rfl,a,1,ns,rfl,hS,fun c1=>?_⟩
  refine ⟨_,rfl,by show 5<=sizeLine; decide,fun l1 hl1=>?_⟩
  have t1:=Av (o:=HO.lst [V.int 1,V.int 2,V.int 2,V.int 3,V.int 5]) hl1
  have u1:upd H l1 (HO.lst [V.int 1,V.int 2,V.int 2,V.int 3,V.int 5]) l1=some (.lst [V.int 1,V.int 2,V.int 2,V.int 3,V.int 5]):=Ag
  generalize upd H l1 (HO.lst [V.int 1,V.int 2,V.int 2,V.int 3,V.int 5])=H1 at t1 u1 ⊢
  have f0:0<=first % 5/\first % 5<5:=⟨Int.emod_nonneg _ (by decide),Int.emod_lt_of_pos _ (by decide)⟩
  obtain ⟨v,hv,hm⟩:=Ky (xs:=[V.int 1,V.int 2,V.int 2,V.int 3,V.int 5]) (i:=first % 5) f0.1 f0.2
  obtain ⟨m,rfl,hm0,hm5⟩:∃ m:Nat,v=.int (m:Nat)/\1<=m/\m<=5:=by
   simp only [List.mem_cons,List.mem_singleton,List.not_mem_nil,or_false] at hm
   rcases hm with rfl | rfl | rfl | rfl | rfl
   ·exact ⟨1,rfl,by decide,by decide⟩
   ·exact ⟨2,rfl,by decide,by decide⟩
   ·exact ⟨2,rfl,by decide,by decide⟩
   ·exact ⟨3,rfl,by decide,by decide⟩
   ·exact ⟨5,rfl,by decide,by decide⟩
  refine ⟨_,rfl,_,_,rfl,rfl,(by show (0:Int)<5; decide),l1,_,_,_,rfl,rfl,.inl (.inl u1),hv,?_⟩
  refine ⟨c1,m,5,rfl,hm0,hm5,by decide,by decide,fun DS sz H3 hDS s3 hl3 hsl hsb=>?_⟩
  have s03:=t1.trans s3
  obtain ⟨n,en,hn1,hn4⟩:∃ n:Nat,1+first / 20 % 4=(n:Int)/\1<=n/\n<=4:=⟨(1+first / 20 % 4).toNat,by omega,by omega,by omega⟩
  refine ⟨_,rfl,_,_,rfl,rfl,⟨by decide,by decide⟩,_,_,rfl,rfl,(by show (0:Int)<4; decide),_,_,rfl,rfl,_,rfl,(by rw [en]; omega),(by rw [en]; omega),?_⟩
  rw [en,Int.toNat_natCast]
  have f4:0<=first / 5 % 4/\first / 5 % 4<4:=⟨Int.emod_nonneg _ (by decide),Int.emod_lt_of_pos _ (by decide)⟩
  obtain ⟨v4,hv4,hm4⟩:=Ky (xs:=[V.int 12,V.int 12,V.int 12,V.int 97]) (i:=first / 5 % 4) f4.1 f4.2
  obtain ⟨mp,rfl,hmp0,hmp1⟩:∃ m:Nat,v4=.int (m:Nat)/\1<=m/\m<=97:=by
   simp only [List.mem_cons,List.mem_singleton,List.not_mem_nil,or_false] at hm4
   rcases hm4 with rfl | rfl | rfl | rfl
   ·exact ⟨12,rfl,by decide,by decide⟩
   ·exact ⟨12,rfl,by decide,by decide⟩
   ·exact ⟨12,rfl,by decide,by decide⟩
   ·exact ⟨97,rfl,by decide,by decide⟩
  refine Dy (lo:=0) (n:=n) (fun _=>true) (fun i=>.int (1+Bl c1 (60+i) % (mp:Nat))) (Az (by omega)) (fun i hi H' hs R k=>k H' (Aj.refl H')) (fun i hi _ H' hs R k=>?_) (fun DP H4 hDP s4 hl4=>?_)
  ·refine ⟨_,rfl,_,rfl,_,_,rfl,rfl,_,_,rfl,by omega,by omega,by show 4<=sizeLine; decide,fun l5 hl5=>?_⟩
   refine ⟨_,rfl,_,_,rfl,rfl,⟨by decide,by decide⟩,_,_,rfl,rfl,(by show (0:Int)<4; decide),l5,_,_,_,rfl,rfl,.inl (.inl Ag),hv4,_,_,rfl,rfl,(by show (0:Int)<(mp:Nat); omega),_,_,rfl,rfl,k _ (Av hl5)⟩
  obtain ⟨pz,epz,hpzl,hpz⟩:∃ pz:List Nat,(((((List.range n).map fun (i:Nat)=>(0:Int)+(i:Int)).filter fun _=>true).map fun i=>V.int (1+Bl c1 (60+i) % (mp:Nat))))=(pz.map fun n:Nat=>V.int (n:Nat))/\pz.length=n/\∀ z∈pz,1<=z/\z<=97:=by
   refine ⟨(List.range n).map fun (i:Nat)=>(1+Bl c1 (60+(0+(i:Nat))) % (mp:Nat)).toNat,?_,by simp,fun z hz=>?_⟩
   ·rw [List.filter_eq_self.mpr (fun _ _=>rfl),List.map_map,List.map_map]
    refine List.map_congr_left fun i _=>?_
    have h1:0<=Bl c1 (60+(0+(i:Int))) % (mp:Nat):=Int.emod_nonneg _ (by omega)
    show V.int (1+Bl c1 (60+(0+(i:Int))) % (mp:Nat))=V.int (((1+Bl c1 (60+(0+(i:Int))) % (mp:Nat)).toNat:Nat):Int)
    rw [Int.toNat_of_nonneg (by omega)]
   ·obtain ⟨i,_,rfl⟩:=List.mem_map.mp hz
    have h1:0<=Bl c1 (60+(0+(i:Int))) % (mp:Nat):=Int.emod_nonneg _ (by omega)
    have h2:Bl c1 (60+(0+(i:Int))) % (mp:Nat)<(mp:Nat):=Int.emod_lt_of_pos _ (by omega)
    omega
  rw [epz] at hl4
  clear epz
  have s04:=s03.trans s4
  have hS4:=s4 _ _ hl3
  refine ⟨_,rfl,_,rfl,_,rfl,3,rfl,by decide,a,_,rfl,s04.seq hS,fun p5 hp5 hl5=>?_⟩
  have t5:=Av (o:=HO.lst (stepV (ns.map V.int) (some 3) (some 63) 3)) hp5
  have u5:upd H4 p5 (HO.lst (stepV (ns.map V.int) (some 3) (some 63) 3)) p5=_:=Ag
  obtain ⟨cs,ecs⟩:=ints_of (IV (ns:=ns) (lo:=some 3) (hi:=some 63) (k:=3))
  have hcs:cs.length<=20:=by
   have:=TY (ns:=ns) hlen
   rw [ecs,List.length_map] at this
   exact this
  generalize upd H4 p5 (HO.lst (stepV (ns.map V.int) (some 3) (some 63) 3))=H5 at t5 u5 ⊢
  rw [ecs] at u5
  refine ⟨_,rfl,_,_,rfl,rfl,.inl ⟨by decide,by decide⟩,_,_,rfl,rfl,by show 1<=sizeLine; decide,fun p6 hp6=>?_⟩
  have t6:=Av (o:=HO.lst [V.int (8 * first+4)]) hp6
  have u6:upd H5 p6 (HO.lst [V.int (8 * first+4)]) p6=some (.lst [V.int (8 * first+4)]):=Ag
  refine ⟨p5,p6,_,_,rfl,rfl,t6 _ _ u5,u6,Cg (by rw [List.length_map]; show cs.length+1<=1000; omega),fun p7 hp7=>?_⟩
  have t7:=Av (o:=HO.lst (cs.map V.int++[V.int (8 * first+4)])) hp7
  have u7:upd (upd H5 p6 (HO.lst [V.int (8 * first+4)])) p7 (HO.lst (cs.map V.int++[V.int (8 * first+4)])) p7=some (.lst ((cs++[8 * first+4]).map V.int)):=by rw [List.map_append]; exact Ag
  have s47:=t5.trans (t6.trans t7)
  have l7:=s47 _ _ hS4
  have lp7:=s47 _ _ hl4
  have wh:1<=sz.length/\sz.length<=5/\(∀ s∈sz,1<=s/\s<=61)/\1<=pz.length/\pz.length<=4/\(∀ z∈pz,1<=z/\z<=97):=⟨by omega,by omega,fun s hs=>⟨(hsb s hs).1,by have:=(hsb s hs).2; omega⟩,by omega,by omega,hpz⟩
  obtain ⟨w1,w2,w3,w4,w5,w6⟩:=id wh
  refine ⟨_,rfl,_,rfl,p7,DS,DP,cs++[8 * first+4],sz,pz,rfl,u7,by rw [List.length_append,List.length_singleton]; omega,l7,lp7,w1,w2,w3,w4,w5,w6,fun DK kls us H8 hDK s8 hl8 hp8 hkb hkl hst=>?_⟩
  have hst:=hst ⟨8 * first+4,by simp,by omega⟩
  have s08:=s04.trans (s47.trans s8)
  have l8:=s8 _ _ l7
  have lp8:=s8 _ _ lp7
  clear u7 t7 u6 t6 u5 t5 l7 lp7
  refine ⟨_,rfl,_,rfl,_,rfl,_,rfl,a,2,ns,rfl,s08.seq hS,fun c2=>?_⟩
  refine ⟨_,rfl,_,rfl,_,rfl,c2,DS,DP,DK,DK,sz,pz,kls,us,rfl,l8,lp8,w1,w2,w3,w4,w5,w6,hl8,hp8,hkb,hkl,F0,fun DR rows vs9 H9 hDR s9 hl9 hv9 B9 hr9=>?_⟩
  refine ⟨by show 4<=sizeLine; decide,fun W hW=>?_⟩
  have t10:=Av (o:=HO.lst [V.ref DS,V.ref DP,V.ref DK,V.ref DR]) hW
  have s910:=s9.trans t10
  exact q W DS DP DK DR c2 sz pz kls us rows vs9 _ (s08.trans s910) Ag ⟨s910 _ _ l8,s910 _ _ lp8,wh,s910 _ _ hl8,Paired.Ek hp8 (fun _ _ z=>z.mono s910),hkb,hkl,hst,t10 _ _ hl9,Ak t10 hv9,B9,hr9,fun s hs=>(hsb s hs).2⟩
theorem Ml (l:List Nat):∀ {a b:Nat},a<=b->(l.take a).sum<=(l.take b).sum:=by
 intro a b h
 have e:l.take a=(l.take b).take a:=by rw [List.take_take,Nat.min_eq_left h]
 rw [e]
 have:=congrArg List.sum (List.take_append_drop a (l.take b))
 rw [List.sum_append] at this
 omega
theorem sum_take_succ {l:List Nat} {a z:Nat} (h:l[a]? = some z):(l.take (a+1)).sum=(l.take a).sum+z:=by
 rw [List.take_add_one,h,List.sum_append]
 simp
noncomputable def U9:Sp:=fun vs H Q _=>∃ (p:Addr) (bs:List (Str × Nat)) (i:Nat) (qd:Nat × Nat),vs=[.ref p,.int (i:Nat)]/\H p=some (.lst ((bs.map (·.2)).map fun n:Nat=>V.int (n:Nat)))/\(Ds bs)[i]? = some qd/\∀ y H',Aj H H'->TupAt H' (qV qd) y->Q y H'
theorem Uz:Aw ["_law_sizes_here","_law_key","_law_board"] ["_law_sizes_here","_law_key"] (Ab Yp):=⟨rfl,rfl,rfl,by decide +kernel,rfl,by decide +kernel,by decide +kernel⟩
include N T in
theorem Tu:Ax P w K mg base Bf 1 fSp dSp ["_law_sizes_here","_law_key"] U9:=by
 refine N.FSp.1.ok Uz (fun vs H Q E h=>?_) (fun cdv A outer s H vs Q E hr h=>?_)
 ·obtain ⟨p,bs,i,qd,rfl,_⟩:=h
  rfl
 ·obtain ⟨p,bs,i,qd,rfl,hp,hq,q⟩:=h
  refine ⟨_,(Ae (BJ (i:=2) Uz.nd rfl (Or.inl rfl) Ad)
   (Ae (Jm PassesOwn.never (Ba Vv (pv 1) (Ar (Bc (K:=K) rfl) (pv 0) (pv 2) (fun _ _=>rfl)) (Be _)) (Ae (BJ (i:=1) Uz.nd rfl (Or.inl rfl) (Ay Dw (pv 1) (Ar (Bc (K:=K) rfl) (pv 0) (pv 2) (fun _ _=>rfl))))
   (Af (BJ (i:=2) Uz.nd rfl (Or.inl rfl) (Ay Bo (pv 2) Ad)))))
   (Af (A_ (Cv (Aa (pv 2) (Aa (pv 1) Ac))))))),?_⟩
  obtain ⟨a,n⟩:=qd
  obtain ⟨b,hb,hn,hi⟩:=JL hq
  have hsz:∀ {j:Nat},j<=a->∃ z,(bs.map (·.2))[j]? = some z:=fun {j} hj=>by
   have ha:a<bs.length:=(List.getElem?_eq_some_iff.mp hb).1
   exact ⟨_,List.getElem?_eq_getElem (by rw [List.length_map]; omega)⟩
  have ha:(bs.map (·.2))[a]? = some b.2:=by rw [List.getElem?_map,hb]; rfl
  generalize hS:bs.map (·.2)=sz at hp hsz ha hi
  have hSq:CK K H p (sz.map fun n:Nat=>V.int (n:Nat)):=.inl (.inl hp)
  have hat:∀ {j z:Nat},sz[j]? = some z->Nv (sz.map fun n:Nat=>V.int (n:Nat)) (j:Int)=some (.int (z:Nat)):=fun h=>Ai (by rw [List.getElem?_map,h]; rfl)
  refine Jr (fun σ H'=>H'=H/\∃ j:Nat,j<=a/\σ=[some (.ref p),some (.int ((i:Int) - ((sz.take j).sum:Nat))),some (.int (j:Nat))]) (fun σ _=>match σ with | [_,_,some (.int j)]=>a - j.toNat | _=>0) ⟨rfl,0,Nat.zero_le _,?_⟩ ?_ ?_
  ·show ([some (.ref p),some (.int (i:Nat)),some (.int 0)]:St)=_
   simp
  ·rintro σ H' ⟨rfl,j,hj,rfl⟩
   obtain ⟨z,hz⟩:=hsz hj
   have st:=sum_take_succ hz
   refine ⟨_,rfl,_,rfl,_,rfl,p,_,_,_,rfl,rfl,hSq,hat hz,_,_,rfl,rfl,_,rfl,?_⟩
   refine Df (fun g=>?_) (fun g=>?_)
   ·have g':=of_decide_eq_true g
    have hlt:j<a:=by
     rcases Nat.lt_or_ge j a with h | h
     ·exact h
     ·have:j=a:=by omega
      subst this
      rw [ha] at hz
      cases hz
      omega
    refine ⟨_,rfl,_,rfl,_,rfl,p,_,_,_,rfl,rfl,hSq,hat hz,_,_,rfl,rfl,?_⟩
    refine ⟨_,rfl,_,_,rfl,rfl,⟨rfl,j+1,hlt,?_⟩,?_⟩
    ·have e1:(i:Int) - ((sz.take j).sum:Nat) - (z:Nat)=(i:Int) - ((sz.take (j+1)).sum:Nat):=by rw [st]; omega
     have e2:((j:Nat):Int)+1=((j+1:Nat):Int):=by omega
     show ([some (.ref p),some (.int ((i:Int) - ((sz.take j).sum:Nat) - (z:Nat))),some (.int (((j:Nat):Int)+1))]:St)=_
     rw [e1,e2]
    ·show a - (((j:Nat):Int)+1).toNat<a - ((j:Nat):Int).toNat
     omega
   ·have g':=of_decide_eq_false ((Bool.not_eq_true _).mp g)
    have heq:j=a:=by
     rcases Nat.lt_or_ge j a with h | h
     ·have:=Ml sz (a:=j+1) (b:=a) h
      omega
     ·omega
    subst heq
    refine ⟨_,rfl,_,rfl,by show 2<=sizeLine; decide,fun T6 hT6=>?_⟩
    refine q _ _ (Av hT6) ⟨T6,rfl,?_⟩
    have e1:(i:Int) - ((sz.take j).sum:Nat)=(n:Nat):=by omega
    rw [e1]
    exact Ag
  ·rintro σ H' Q1 Q2 hm ⟨x1,hx1,x2,hx2,x3,hx3,p4,xs4,i4,v4,hx4,hx5,hs4,hv4,i5,j5,hx6,hx7,k8,hx8,hq8⟩
   exact ⟨x1,hx1,x2,hx2,x3,hx3,p4,xs4,i4,v4,hx4,hx5,hs4,hv4,i5,j5,hx6,hx7,k8,hx8,hm _ _ hq8⟩
noncomputable def Zu:Sp:=fun vs H Q _=>∃ (p:Addr) (y:V) (bs:List (Str × Nat)) (i j1 j2:Nat) (s:Int) (b2:Str × Nat) (qd:Nat × Nat),vs=[.ref p,y,.int (i:Nat)]/\H p=some (.lst ((bs.map (·.2)).map fun n:Nat=>V.int (n:Nat)))/\bs.length<=5/\(∀ b∈bs,b.2<=61)/\(Ds bs)[i]? = some qd/\bs[j2]? = some b2/\TupAt H (Kb.cp j1 j2 s).v y/\∀ H',Aj H H'->Q (Jw bs j1 j2 s qd b2.2) H'
theorem Xw:Aw ["_law_sizes_here","_law_knob_here","_law_key","_law_board","_law_number"] ["_law_sizes_here","_law_knob_here","_law_key"] (Ab ZV):=⟨rfl,rfl,rfl,by decide +kernel,rfl,by decide +kernel,by decide +kernel⟩
include N T in
theorem bu:Ax P w K mg base Bf 2 fGo dGo ["_law_sizes_here","_law_knob_here","_law_key"] Zu:=by
 have GSp:Ax P w K mg base Bf 1 fSp dSp ["_law_sizes_here","_law_key"] U9:=Tu N T
 refine N.FGo.1.ok Xw (fun vs H Q E h=>?_) (fun cdv A outer s H vs Q E hr h=>?_)
 ·obtain ⟨p,y,bs,i,j1,j2,s0,b2,qd,rfl,_⟩:=h
  rfl
 ·obtain ⟨p,y,bs,i,j1,j2,s0,b2,qd,rfl,hp,h5,h61,hq,hb2,hy,q⟩:=h
  have hrSp:BV 1 _:=hr.mono (by decide)
  refine ⟨_,(Ae (N8 (Ah GSp hrSp rfl N.FSp.2.2 N.FSp.1.kp N.FSp.2.1 .nil Am (Aa (pv 0) (Aa (pv 2) Ac))) (Fx rfl (Bh (Bb (i:=3) Xw.nd rfl (Or.inl rfl)) (Bh (Bb (i:=4) Xw.nd rfl (Or.inl rfl)) EY))))
   (Ae (CT (PW.pt (JB (Ba G5 (pv 3) (Ar (Al (K:=K) rfl) (pv 1) Ad (fun _ _=>rfl)) (Be _)) (HJ (Dz (Fd Eh Gf Ad (Ay Bo (pv 4) (Ar (Al (K:=K) rfl) (pv 1) Ad (fun _ _=>rfl))) (Ar (Bc (K:=K) rfl) (pv 0) (Ar (Al (K:=K) rfl) (pv 1) Ad (fun _ _=>rfl)) (fun _ _=>rfl))))))) (Af (A_ HD)) Bj)
   (Af (A_ (Ay Bo (Ay Bo (BX (Hv rfl) rfl T.sum PyProof.Rows.boot_sum (Aa (Ea Hd (pv 0) Es (Cw (Ar (Al (K:=K) rfl) (pv 1) Ad (fun _ _=>rfl)))) Ac)) (pv 4)) (Ar (Al (K:=K) rfl) (pv 1) Ad (fun _ _=>rfl))))))),?_⟩
  have hj2:j2<bs.length:=(List.getElem?_eq_some_iff.mp hb2).1
  refine ⟨_,rfl,_,rfl,p,bs,i,qd,rfl,hp,hq,fun y1 H1 s1 hy1=>?_⟩
  obtain ⟨T1,rfl,ht1⟩:=hy1
  obtain ⟨T2,rfl,ht2⟩:=hy.mono s1
  have hS1:CK K H1 p ((bs.map (·.2)).map fun n:Nat=>V.int (n:Nat)):=.inl (.inl (s1 _ _ hp))
  refine ⟨T1,_,rfl,.inl (.inl ht1),rfl,_,_,rfl,_,_,rfl,rfl,?_⟩
  refine ⟨_,rfl,_,rfl,T2,_,_,_,rfl,rfl,.inl (.inl ht2),Ai (j:=1) rfl,rfl,_,rfl,?_⟩
  have fin:=q H1 s1
  unfold Jw at fin
  by_cases e1:qd.1=j1
  ·have z:(!decide (V.int (qd.1:Nat)=V.int (j1:Nat)))=false:=by rw [e1]; simp
   rw [z]
   refine Ck ?_
   refine ⟨_,rfl,_,rfl,T2,_,_,_,rfl,rfl,.inl (.inl ht2),Ai (j:=3) rfl,_,_,rfl,rfl,_,_,rfl,rfl,_,rfl,?_⟩
   refine Df (fun g1=>?_) (fun g1=>?_)
   ·refine ⟨_,rfl,_,rfl,T2,_,_,_,rfl,rfl,.inl (.inl ht2),Ai (j:=2) rfl,p,_,_,.int (b2.2:Nat),rfl,rfl,hS1,Ai (by rw [List.getElem?_map,List.getElem?_map,hb2]; rfl),_,_,rfl,rfl,_,rfl,?_⟩
    have g1':0<=(qd.2:Int)+s0:=of_decide_eq_true g1
    by_cases g2:(qd.2:Int)+s0<(b2.2:Nat)
    ·have z2:decide ((qd.2:Int)+s0<(b2.2:Nat))=true:=decide_eq_true g2
     rw [z2]
     refine Ck ?_
     rw [if_pos ⟨e1,g1',g2⟩] at fin
     refine ⟨_,rfl,_,rfl,T2,_,_,_,rfl,rfl,.inl (.inl ht2),Ai (j:=2) rfl,_,rfl,p,_,rfl,hS1,fun p3 hp3=>?_⟩
     have s3:=Av (o:=HO.lst (Eg ((bs.map (·.2)).map fun n:Nat=>V.int (n:Nat)) none (some (j2:Int)))) hp3
     have a3:upd H1 p3 (HO.lst (Eg ((bs.map (·.2)).map fun n:Nat=>V.int (n:Nat)) none (some (j2:Int)))) p3=_:=Ag
     generalize upd H1 p3 (HO.lst (Eg ((bs.map (·.2)).map fun n:Nat=>V.int (n:Nat)) none (some (j2:Int))))=H3 at s3 a3 ⊢
     rw [Gj _ j2 (by rw [List.length_map,List.length_map]; omega)] at a3
     have e3:((bs.map (·.2)).map fun n:Nat=>V.int (n:Nat)).take j2=(((bs.take j2).map (·.2)).map fun n:Nat=>(n:Int)).map V.int:=by
      rw [← List.map_take,← List.map_take,List.map_map,List.map_map,List.map_map]
      rfl
     rw [e3] at a3
     refine ⟨p3,_,rfl,.inl (.inl a3),fun m hm=>?_,by simp; omega,?_⟩
     ·obtain ⟨k,hk,rfl⟩:=List.mem_map.mp hm
      obtain ⟨b,hb,rfl⟩:=List.mem_map.mp hk
      have:=h61 b (List.mem_of_mem_take hb)
      omega
     rw [Hk]
     refine ⟨_,rfl,_,_,rfl,rfl,_,rfl,T2,_,_,_,rfl,rfl,.inl (.inl (s3 _ _ ht2)),Ai (j:=3) rfl,_,_,rfl,rfl,?_⟩
     have fin3:=q H3 (s1.trans s3)
     unfold Jw at fin3
     rw [if_pos ⟨e1,g1',g2⟩,← Int.add_assoc] at fin3
     exact fin3
    ·have z2:decide ((qd.2:Int)+s0<(b2.2:Nat))=false:=decide_eq_false g2
     rw [z2]
     refine DN ?_
     rw [if_neg fun z=>g2 z.2.2] at fin
     exact fin
   ·refine ⟨_,rfl,?_⟩
    rw [if_neg fun z=>absurd (decide_eq_true z.2.1) g1] at fin
    exact DN fin
  ·have z:(!decide (V.int (qd.1:Nat)=V.int (j1:Nat)))=true:=by
    rw [decide_eq_false fun z=>e1 (by have:=V.int.inj z; omega)]
    rfl
   rw [z]
   refine DN ?_
   rw [if_neg fun z=>e1 z.1] at fin
   exact fin
noncomputable def a_:Sp:=fun vs H Q _=>∃ (c:Int) (m:Nat),vs=[.int c,.int (m:Nat)]/\m<=100/\∀ D (l:List Nat) H',H D=none->Aj H H'->H' D=some (.lst (nV l))->(∀ k∈l,k<m)->l.length<=100->Q (.ref D) H'
theorem gh:Aw ["_law_cell","_law_count"] ["_law_cell","_law_count"] (Ab Wr):=⟨rfl,rfl,rfl,by decide +kernel,rfl,by decide +kernel,by decide +kernel⟩
include N T in
theorem dC:Ax P w K mg base Bf 2 fDr dDr ["_law_cell","_law_count"] a_:=by
 have GMx:Ax P w K mg base Bf 1 fMx dMx ["_law_cell","_law_k"] K4:=JD N T
 refine N.FDr.1.ok gh (fun vs H Q E h=>?_) (fun cdv A outer s H vs Q E hr h=>?_)
 ·obtain ⟨c,m,rfl,_⟩:=h
  rfl
 ·obtain ⟨c,m,rfl,hm,q⟩:=h
  have hrMx:BV 1 _:=hr.mono (by decide)
  refine ⟨_,(Af (A_ (Bp rfl (BW (osc:=Ab Wr) (N:=["_law_cell","_law_count"]) rfl rfl (by decide +kernel)) (Cj rfl T.range (Aa (pv 1) Ac)) (fun _ _ _ _=>(Ef (Ba Eh (Ay Br (Ay Cd (Ah GMx hrMx rfl N.FMx.2.2 N.FMx.1.kp N.FMx.2.1 .nil Am (Aa (Ay Cd (pv 1) Ad) (Aa (Ay Bo Ad (pv 0)) Ac))) Ad) Ad) (Ay Br (pv 1) Ad) (Be _)))) (fun _ _ _ _=>(pv 0))))),?_⟩
  refine ⟨_,rfl,_,rfl,by omega,by omega,?_⟩
  rw [Int.toNat_natCast]
  refine Dy (lo:=0) (n:=m) (fun i=>decide (Bl (c / 4) (70+i) / 16 % 4<=c % 4)) (fun i=>.int i) (Az (by omega)) (fun i hi H' hs R k=>?_) (fun i hi _ H' hs R k=>⟨_,rfl,k H' (Aj.refl H')⟩) (fun D H' hD hs hl=>?_)
  ·exact ⟨_,rfl,_,_,rfl,rfl,⟨by decide,by decide⟩,_,rfl,_,_,rfl,rfl,_,_,rfl,by omega,by omega,_,_,rfl,rfl,⟨by decide,by decide⟩,_,_,rfl,rfl,(by show (0:Int)<4; decide),_,rfl,_,_,rfl,rfl,(by show (0:Int)<4; decide),_,_,rfl,rfl,_,rfl,k H' (Aj.refl H')⟩
  ·refine q D ((List.range m).filter fun (i:Nat)=>decide (Bl (c / 4) (70+(0+(i:Int))) / 16 % 4<=c % 4)) H' hD hs ?_ (fun k hk=>List.mem_range.mp (List.mem_filter.mp hk).1) ?_
   ·rw [hl,List.filter_map,List.map_map]
    refine congrArg (fun l=>some (HO.lst l)) (List.map_congr_left fun i _=>?_)
    show V.int ((0:Int)+(i:Int))=V.int (i:Int)
    rw [Int.zero_add]
   ·refine Nat.le_trans (List.length_filter_le _ _) ?_
    rw [List.length_range]
    exact hm
noncomputable def bj:Sp:=fun vs H Q _=>∃ (c:Int) (m:Nat),vs=[.int c,.int (m:Nat)]/\1<=m/\∀ D (l:List Nat) H',H D=none->Aj H H'->H' D=some (.lst (nV l))->(∀ k∈l,k<m)->l.length<=4->Q (.ref D) H'
theorem iw:Aw ["_law_cell","_law_count"] ["_law_cell","_law_count"] (Ab XX):=⟨rfl,rfl,rfl,by decide +kernel,rfl,by decide +kernel,by decide +kernel⟩
include N T in
theorem fc:Ax P w K mg base Bf 2 fHd dHd ["_law_cell","_law_count"] bj:=by
 have GMx:Ax P w K mg base Bf 1 fMx dMx ["_law_cell","_law_k"] K4:=JD N T
 refine N.FHd.1.ok iw (fun vs H Q E h=>?_) (fun cdv A outer s H vs Q E hr h=>?_)
 ·obtain ⟨c,m,rfl,_⟩:=h
  rfl
 ·obtain ⟨c,m,rfl,hm,q⟩:=h
  have hrMx:BV 1 _:=hr.mono (by decide)
  refine ⟨_,(Af (A_ (Bp rfl (BW (osc:=Ab XX) (N:=["_law_cell","_law_count"]) rfl rfl (by decide +kernel)) (Cj rfl T.range (Aa (Ay Br (pv 0) Ad) Ac)) (fun _ _ _ _=>CP) (fun _ _ _ _=>(Ay Br (Ah GMx hrMx rfl N.FMx.2.2 N.FMx.1.kp N.FMx.2.1 .nil Am (Aa (Ay Cd (pv 1) Ad) (Aa (Ay Bo Ad (pv 0)) Ac))) (pv 2)))))),?_⟩
  have c0:0<=c % 5/\c % 5<5:=⟨Int.emod_nonneg _ (by decide),Int.emod_lt_of_pos _ (by decide)⟩
  refine ⟨_,rfl,_,_,rfl,rfl,(by show (0:Int)<5; decide),c % 5,rfl,by omega,by omega,?_⟩
  refine Dy (lo:=0) (n:=(c % 5).toNat) (fun _=>true) (fun i=>.int (Bl (c / 5) (100+i) % (m:Nat))) (Az (by omega)) (fun i hi H' hs R k=>k H' (Aj.refl H')) (fun i hi _ H' hs R k=>?_) (fun D H' hD hs hl=>?_)
  ·exact ⟨_,rfl,_,_,rfl,rfl,⟨by decide,by decide⟩,_,rfl,_,_,rfl,rfl,_,_,rfl,by omega,by omega,_,rfl,_,_,rfl,rfl,(by show (0:Int)<(m:Nat); omega),k H' (Aj.refl H')⟩
  ·have nn:∀ i:Int,0<=Bl (c / 5) (100+i) % (m:Nat)/\Bl (c / 5) (100+i) % (m:Nat)<(m:Nat):=fun i=>⟨Int.emod_nonneg _ (by omega),Int.emod_lt_of_pos _ (by omega)⟩
   refine q D ((List.range (c % 5).toNat).map fun (i:Nat)=>(Bl (c / 5) (100+(0+(i:Int))) % (m:Nat)).toNat) H' hD hs ?_ (fun k hk=>?_) (by simp; omega)
   ·rw [hl,List.filter_eq_self.mpr (fun _ _=>rfl),List.map_map]
    unfold nV
    rw [List.map_map]
    refine congrArg (fun l=>some (HO.lst l)) (List.map_congr_left fun i _=>?_)
    have:=nn (0+(i:Int))
    show V.int (Bl (c / 5) (100+(0+(i:Int))) % (m:Nat))=V.int (((Bl (c / 5) (100+(0+(i:Int))) % (m:Nat)).toNat:Nat):Int)
    rw [Int.toNat_of_nonneg this.1]
   ·obtain ⟨i,_,rfl⟩:=List.mem_map.mp hk
    have:=nn (0+(i:Int))
    omega
noncomputable def GD (H:Hp) (k:Kb) (y:V):Prop:=(∃ T r,y=.ref T/\H T=some (.tup (.str k.w :: .int (k.bd:Nat)::r)))/\(k.w = "coupler"->TupAt H k.v y)
theorem GD.mono {H H':Hp} {k:Kb} {y:V} (s:Aj H H') (h:GD H k y):GD H' k y:=by
 obtain ⟨⟨T,r,e,ht⟩,h2⟩:=h
 exact ⟨⟨T,r,e,s _ _ ht⟩,fun z=>(h2 z).mono s⟩
theorem eY {Dx:Addr} {H:Hp} {z:Kl} {y:V} (h:FN Dx H z y):GD H z.1 y:=by
 obtain ⟨ex,⟨T,e,ht⟩,h2⟩:=h
 obtain ⟨k,l⟩:=z
 cases k with
 | cp i j s =>
  refine ⟨⟨T,_,e,ht⟩,fun _=>⟨T,e,?_⟩⟩
  rcases h2 with ⟨rfl,_⟩ | ⟨z,_⟩
  ·exact ht
  ·exact absurd (show ("coupler" : Str) = "stop" from z) (by decide +kernel)
 | pl w i =>
  refine ⟨⟨T,_,e,ht⟩,fun z=>?_⟩
  rcases h2 with ⟨rfl,_⟩ | ⟨z2,_⟩
  ·exact ⟨T,e,ht⟩
  ·have z':w = "coupler":=z
   have z2':w = "stop":=z2
   exact absurd (z'.symm.trans z2') (by decide +kernel)
theorem Kg {Dx:Addr} {H:Hp} {kls:List Kl} {us:List V} (h:Paired (fun z y=>FN Dx H z y) kls us):Paired (fun (k:Kb) y=>GD H k y) (kls.map (·.1)) us:=Bv (F:=fun (k:Kb) y=>GD H k y) (·.1) (Paired.Ek h fun _ _ q=>eY q)
theorem PP (l:List Nat):(nV l).all Ew=true:=List.all_eq_true.mpr fun v hv=>by
 obtain ⟨n,_,rfl⟩:=List.mem_map.mp hv
 rfl
theorem NB:∀ {l:List Nat},(∀ s∈l,s<=61)->l.sum<=61 * l.length
 | [],_=>Nat.le_refl _
 | a::l,h=>by
  have h1:=h a (List.mem_cons_self ..)
  have h2:=NB (l:=l) fun s hs=>h s (List.mem_cons_of_mem _ hs)
  rw [List.sum_cons,List.length_cons]
  omega
theorem Oh (a b:List Nat):nV a++nV b=nV (a++b):=List.map_append.symm
theorem O4 (l:List Nat) (j:Nat):nV l++[V.int (j:Nat)]=nV (l++[j]):=Oh l [j]
noncomputable def Zz:Sp:=fun vs H Q _=>∃ (DS DK DD DH:Addr) (c:Nat->Str) (sz:List Nat) (kbs:List Kb) (us:List V) (dl hl:List Nat),vs=[.ref DS,.ref DK,.ref DD,.ref DH]/\H DS=some (.lst (nV sz))/\sz.length<=5/\(∀ s∈sz,s<=61)/\H DK=some (.lst us)/\Paired (fun (k:Kb) y=>GD H k y) kbs us/\Nb sz.length kbs/\H DD=some (.lst (nV dl))/\dl.length<=200/\(∀ k∈dl,k<us.length)/\H DH=some (.lst (nV hl))/\hl.length<=200/\(∀ k∈hl,k<sz.sum) /\
 ∀ F (js:List Nat) H',H F=none->Aj H H'->H' F=some (.lst (nV js))->js.length<=305->(∀ j,j∈js ↔ Fz (stp (BZ c sz) kbs (Wd.mk dl)) (fun i=>i∈hl) j)->Q (.ref F) H'
theorem Lj:Aw ["_law_sizes_here","_law_knobs_here","_law_drawn_here","_law_held_here","_law_couplers","_law_found","_law_news","_law_goals","_law_key","_law_knob_here","_law_goal_here"] ["_law_sizes_here","_law_knobs_here","_law_drawn_here","_law_held_here"] (Ab Wc):=⟨rfl,rfl,rfl,by decide +kernel,rfl,by decide +kernel,by decide +kernel⟩
include N T in
theorem bD:Ax P w K mg base Bf 3 fCo dCo ["_law_sizes_here","_law_knobs_here","_law_drawn_here","_law_held_here"] Zz:=by
 have GGo:Ax P w K mg base Bf 2 fGo dGo ["_law_sizes_here","_law_knob_here","_law_key"] Zu:=bu N T
 refine N.FCo.1.ok Lj (fun vs H Q E h=>?_) (fun cdv A outer s H vs Q E hr h=>?_)
 ·obtain ⟨DS,DK,DD,DH,c,sz,kbs,us,dl,hl,rfl,_⟩:=h
  rfl
 ·obtain ⟨DS,DK,DD,DH,c,sz,kbs,us,dl,hl,rfl,hS0,h5,h61,hK0,hpr,hkb,hd,hdl,hdb,hh,hhl,hhb,q⟩:=h
  have hrGo:BV 2 _:=hr.mono (by decide)
  refine ⟨_,(Ae (Gv (i:=4) Lj.nd rfl rfl rfl (BW (osc:=Ab Wc) (N:=["_law_sizes_here","_law_knobs_here","_law_drawn_here","_law_held_here","_law_couplers","_law_found","_law_news","_law_goals","_law_key","_law_knob_here","_law_goal_here"]) rfl rfl (by decide +kernel)) (Bd (pv 2)) (fun _ _ _ _=>(Ef (Ba Dj (Ar (Al (K:=K) rfl) (Ar (Bc (K:=K) rfl) (pv 2) (pv 0) (fun _ _=>rfl)) Ad (fun _ _=>rfl)) Bs (Be _)))) (fun _ _ _ _=>(Ar (Bc (K:=K) rfl) (pv 2) (pv 0) (fun _ _=>rfl))))
   (Ae (BJ (i:=5) Lj.nd rfl (Or.inl rfl) (De Ac))
   (Ae (BJ (i:=6) Lj.nd rfl (Or.inl rfl) (Dk Dq rfl T.list PyProof.Rows.boot_list (Aa (pv 3) Ac)))
   (Ae (Jm PassesOwn.never (Ba (Nm hr.Wo) (pv 6) (De Ac) (Be _)) (Ae (BJ (i:=7) Lj.nd rfl (Or.inl rfl) (De Ac))
   (Ae (Ci PassesOwn.never rfl (Bd (pv 6)) (Bb (i:=8) Lj.nd rfl (Or.inl rfl)) (Af (Ci PassesOwn.never rfl (Bd (pv 4)) (Bb (i:=9) Lj.nd rfl (Or.inl rfl)) (Ae (BJ (i:=10) Lj.nd rfl (Or.inl rfl) (Ah GGo hrGo rfl N.FGo.2.2 N.FGo.1.kp N.FGo.2.1 .nil Am (Aa (pv 0) (Aa (pv 9) (Aa (pv 8) Ac)))))
   (Af (CT (PW.pt (Ia (Ba Kw (pv 10) HD (Be _)) (Hx (Ba Hs (pv 10) (pv 5) rfl)))) (Ae (C_ (Ep PySem.F.plainAttrs_list PySem.F.slot_list_append PySem.F.type_list_append B_ (pv 5) (Aa (pv 10) Ac)))
   (Af (C_ (Ep PySem.F.plainAttrs_list PySem.F.slot_list_append PySem.F.type_list_append B_ (pv 7) (Aa (pv 10) Ac))))) Bj))))))
   (Af (BJ (i:=6) Lj.nd rfl (Or.inl rfl) (pv 7))))))
   (Af (A_ (pv 5))))))),?_⟩
  have hsum:((BZ c sz).map (·.2)).sum=sz.sum:=by rw [Bq]
  have h305:sz.sum<=305:=by have:=NB h61; omega
  generalize hst:stp (BZ c sz) kbs (Wd.mk dl)=st at q
  have hR:∀ {j},Fz st (fun i=>i∈hl) j->j<sz.sum:=fun {j} r=>by
   rw [← hst] at r
   have:=r.lt
   rw [hsum] at this
   exact this
  have hul:=hpr.length
  have hSd:CK K H DD (nV dl):=.inl (.inl hd)
  let pc:V->Bool:=fun v=>match v with | .int k=>(match kbs[k.toNat]? with | some z=>M4 z | none=>false) | _=>false
  let fv:V->V:=fun v=>match v with | .int k=>us.getD k.toNat .non | _=>.non
  refine ⟨_,rfl,DD,rfl,⟨_,hSd⟩,Bx (K:=K) (xs:=nV dl) pc fv hSd (Az (by rw [List.length_map]; omega)) (fun v hv H' hs R k=>?_) (fun v hv _ H' hs R k=>?_) (fun CL H1 hCL s1 hl1=>?_)⟩
  ·obtain ⟨kk,hkk,rfl⟩:=List.mem_map.mp hv
   have hik:kk<kbs.length:=by have:=hdb kk hkk; omega
   obtain ⟨y,hy,⟨T1,r1,rfl,ht1⟩,_⟩:=Bw (Paired.Ek hpr fun _ _ q=>GD.mono hs q) (List.getElem?_eq_getElem hik)
   have q1:=k H' (Aj.refl H')
   have e0:pc (V.int (kk:Nat))=M4 kbs[kk]:=by
    show (match kbs[((kk:Nat):Int).toNat]? with | some z=>M4 z | none=>false)=_
    rw [Int.toNat_natCast,List.getElem?_eq_getElem hik]
   rw [e0] at q1
   exact ⟨_,rfl,_,rfl,DK,us,_,_,rfl,rfl,.inl (.inl (hs _ _ hK0)),Ai hy,T1,_,_,_,rfl,rfl,.inl (.inl ht1),Ai (j:=0) rfl,rfl,_,rfl,q1⟩
  ·obtain ⟨kk,hkk,rfl⟩:=List.mem_map.mp hv
   have hik:kk<us.length:=hdb kk hkk
   have hy:us[kk]? = some us[kk]:=List.getElem?_eq_getElem hik
   have q1:=k H' (Aj.refl H')
   have e0:fv (V.int (kk:Nat))=us[kk]:=by
    show us.getD ((kk:Nat):Int).toNat .non=_
    rw [Int.toNat_natCast]
    simp [hik]
   rw [e0] at q1
   exact ⟨_,rfl,_,rfl,DK,us,_,_,rfl,rfl,.inl (.inl (hs _ _ hK0)),Ai hy,q1⟩
  have ecl:((nV dl).filter pc).map fv=(dl.filter fun k=>pc (.int (k:Nat))).map fun k=>us.getD k .non:=by
   rw [List.filter_map,List.map_map]
   refine List.map_congr_left fun k _=>?_
   show us.getD ((k:Nat):Int).toNat .non=_
   rw [Int.toNat_natCast]
  rw [ecl] at hl1
  have hcm:∀ k,k∈dl.filter (fun k=>pc (.int (k:Nat))) ↔ k∈dl/\∃ z,kbs[k]? = some z/\M4 z=true:=fun k=>by
   rw [List.mem_filter]
   refine and_congr_right fun hk=>?_
   show (match kbs[((k:Nat):Int).toNat]? with | some z=>M4 z | none=>false)=true ↔ _
   rw [Int.toNat_natCast]
   cases kbs[k]? with
   | none=>simp
   | some z=>simp
  generalize dl.filter (fun k=>pc (.int (k:Nat)))=cl at hl1 hcm
  have hSc:CK K H1 CL (cl.map fun k=>us.getD k .non):=.inl (.inl hl1)
  have bitL:∀ k,(Wd.mk dl).testBit k=true ↔ k∈dl:=fun k=>by rw [Wd.Ig,decide_eq_true_eq]
  have pr1:Paired (fun (k:Kb) y=>GD H1 k y) kbs us:=Paired.Ek hpr fun _ _ q=>GD.mono s1 q
  have z1:=s1 _ _ hS0
  refine ⟨Cg (by simp),fun F hF=>?_⟩
  have t2:=Av (o:=HO.lst []) hF
  have u2:upd H1 F (HO.lst []) F=some (.lst (nV [])):=Ag
  have hF0:H F=none:=s1.free hF
  generalize upd H1 F (HO.lst [])=H2 at t2 u2 ⊢
  refine ⟨_,rfl,DH,_,rfl,.inl (.inl (.inl (t2 _ _ (s1 _ _ hh)))),fun N0 hN0=>?_⟩
  have t3:=Av (o:=HO.lst (nV hl)) hN0
  have u3:upd H2 N0 (HO.lst (nV hl)) N0=some (.lst (nV hl)):=Ag
  have hFN0:F ≠ N0:=fun z=>by rw [← z,u2] at hN0; cases hN0
  generalize upd H2 N0 (HO.lst (nV hl))=H3 at t3 u3 ⊢
  show Cz 6 _ _ _ _
  rw [Mr]
  refine Lz ?_
  refine Jr (fun σ H4=>Aj H1 H4/\∃ (js ls:List Nat) (Nw:Addr),H4 F=some (.lst (nV js))/\H4 Nw=some (.lst (nV ls))/\F ≠ Nw/\js.Nodup/\(∀ j∈js,Fz st (fun i=>i∈hl) j)/\(∀ i∈ls,i∈hl \/ i∈js)/\(∀ i,(i∈hl \/ i∈js)->i∈ls \/ ∀ j,st i j->j∈js)/\∃ v7 v8 v9 v10,σ=[some (.ref DS),some (.ref DK),some (.ref DD),some (.ref DH),some (.ref CL),some (.ref F),some (.ref Nw),v7,v8,v9,v10])
   (fun σ H4=>(sz.sum - Lk (H4 F))+(match σ with | [_,_,_,_,_,_,some (.ref p),_,_,_,_]=>Lk (H4 p) | _=>0)) ⟨t2.trans t3,[],hl,N0,t3 _ _ u2,u3,hFN0,List.nodup_nil,(fun j hj=>nomatch hj),(fun i hi=>.inl hi),(fun i hi=>.inl (hi.resolve_right (by simp))),_,_,_,_,rfl⟩ ?_ ?_
  ·rintro σ H4 ⟨s4,js,ls,Nw,hF4,hN4,hFN,nd,hj,hls,hcl4,v7,v8,v9,v10,rfl⟩
   refine ⟨_,rfl,Cg (by simp),fun E hE=>?_⟩
   have tE:=Av (o:=HO.lst []) hE
   have uE:upd H4 E (HO.lst []) E=some (.lst []):=Ag
   refine ⟨Nw,E,_,_,rfl,rfl,.inl (.inl (tE _ _ hN4)),.inl (.inl uE),PP ls,rfl,_,rfl,?_⟩
   clear uE
   generalize upd H4 E (HO.lst [])=H5 at tE ⊢
   have s5:=s4.trans tE
   have f5:=tE _ _ hF4
   have n5:=tE _ _ hN4
   have hjl:js.length<=sz.sum:=Cu sz.sum nd fun j h=>hR (hj j h)
   cases ls with
   | nil =>
    refine Ck ?_
    refine ⟨_,rfl,q F js H5 hF0 (s1.trans s5) f5 (by omega) fun j=>?_⟩
    exact Fz.all (W:=fun j=>j∈js) hj (fun i hi=>(hcl4 i hi).resolve_left (by simp)) j
   | cons i0 ls =>
    refine DN ?_
    refine ⟨Cg (by simp),fun G hG=>?_⟩
    have t6:=Av (o:=HO.lst []) hG
    have u6:upd H5 G (HO.lst []) G=some (.lst (nV [])):=Ag
    have hFG:F ≠ G:=fun z=>by rw [← z,f5] at hG; cases hG
    have hNG:Nw ≠ G:=fun z=>by rw [← z,n5] at hG; cases hG
    have hG1:H1 G=none:=s5.free hG
    have s6:=s5.trans t6
    have f6:=t6 _ _ f5
    have n6:=t6 _ _ n5
    clear t6 hG f5 n5 s5
    generalize upd H5 G (HO.lst [])=H6 at s6 f6 n6 u6 ⊢
    have f6':H6 F=some (.lst (nV (js++[]))):=by rw [List.append_nil]; exact f6
    refine ⟨_,rfl,Nw,rfl,⟨_,.inl (.inl n6)⟩,Cp (K:=K) (a:=Nw) (xs:=nV (i0::ls)) (fun a σ H7=>Aj H1 H7/\H7 Nw=some (.lst (nV (i0::ls)))/\∃ gs:List Nat,H7 F=some (.lst (nV (js++gs)))/\H7 G=some (.lst (nV gs))/\(js++gs).Nodup/\(∀ j∈js++gs,Fz st (fun i=>i∈hl) j)/\(∀ i∈(i0::ls).take a,∀ j,st i j->j∈js++gs)/\∃ v8 v9 v10,σ=[some (.ref DS),some (.ref DK),some (.ref DD),some (.ref DH),some (.ref CL),some (.ref F),some (.ref Nw),some (.ref G),v8,v9,v10])
     ⟨s6,n6,[],f6',u6,by rw [List.append_nil]; exact nd,by rw [List.append_nil]; exact hj,(fun i hi=>by simp at hi),_,_,_,rfl⟩ (fun a σ H7 _ h=>.inl (.inl h.2.1)) ?_ ?_⟩
    ·rintro a y σ H7 ha ⟨s7,n7,gs,f7,g7,nd7,hj7,hdone,v8,v9,v10,rfl⟩
     rw [List.getElem?_map] at ha
     obtain ⟨ia,hia,rfl⟩:=Option.map_eq_some_iff.mp ha
     have hiam:=hls ia (List.mem_of_getElem? hia)
     have hib:ia<sz.sum:=by
      rcases hiam with h | h
      ·exact hhb ia h
      ·exact hR (hj ia h)
     have hiR:∀ j,st ia j->Fz st (fun i=>i∈hl) j:=fun j h=>by
      rcases hiam with g | g
      ·exact .one g h
      ·exact .more (hj ia g) h
     obtain ⟨qd,hq⟩:∃ qd,(Ds (BZ c sz))[ia]? = some qd:=⟨_,List.getElem?_eq_getElem (by rw [Dm,hsum]; exact hib)⟩
     refine ⟨_,rfl,CL,rfl,⟨_,s7.seq hSc⟩,Cp (K:=K) (a:=CL) (xs:=cl.map fun k=>us.getD k .non) (fun b σ H8=>Aj H1 H8/\H8 Nw=some (.lst (nV (i0::ls)))/\∃ gs:List Nat,H8 F=some (.lst (nV (js++gs)))/\H8 G=some (.lst (nV gs))/\(js++gs).Nodup/\(∀ j∈js++gs,Fz st (fun i=>i∈hl) j)/\(∀ i∈(i0::ls).take a,∀ j,st i j->j∈js++gs)/\(∀ k∈cl.take b,∀ z j,kbs[k]? = some z->gl (BZ c sz) z ia=some j->j∈js++gs)/\∃ v9 v10,σ=[some (.ref DS),some (.ref DK),some (.ref DD),some (.ref DH),some (.ref CL),some (.ref F),some (.ref Nw),some (.ref G),some (.int (ia:Nat)),v9,v10])
      ⟨s7,n7,gs,f7,g7,nd7,hj7,hdone,(fun k hk=>by simp at hk),_,_,rfl⟩ (fun b σ H8 _ h=>h.1.seq hSc) ?_ ?_⟩
     ·clear f7 g7 nd7 hj7 hdone
      rintro b y σ H8 hb ⟨s8,n8,gs,f8,g8,nd8,hj8,hdone8,hall8,v9,v10,rfl⟩
      rw [List.getElem?_map] at hb
      obtain ⟨k,hk,rfl⟩:=Option.map_eq_some_iff.mp hb
      obtain ⟨hkd,z,hz,hzc⟩:=(hcm k).mp (List.mem_of_getElem? hk)
      have zok:=hkb.ok z (List.mem_of_getElem? hz)
      obtain ⟨j1,j2,s0,rfl⟩:=Py zok hzc
      obtain ⟨hj1,hj2,_,_⟩:=zok
      have hbj2:(BZ c sz)[j2]? = some (c j2,sz[j2]):=DW (List.getElem?_eq_getElem hj2)
      obtain ⟨y,hy,_,hty⟩:=Bw (Paired.Ek pr1 fun _ _ q=>GD.mono s8 q) hz
      have hty:=hty rfl
      have ey:us.getD k .non=y:=by rw [List.getD_eq_getElem?_getD,hy]; rfl
      rw [ey]
      have hb61:∀ b∈BZ c sz,b.2<=61:=fun b hb=>by
       have h:=List.mem_map_of_mem (f:=(·.2)) hb
       rw [Bq] at h
       exact h61 _ h
      refine ⟨_,rfl,_,rfl,_,rfl,DS,y,BZ c sz,ia,j1,j2,s0,(c j2,sz[j2]),qd,rfl,by rw [Bq]; exact s8 _ _ z1,by rw [Fi]; exact h5,hb61,hq,hbj2,hty,fun H9 s9=>?_⟩
      have done':∀ {js':List Nat},(∀ j∈js++gs,j∈js')->(∀ j,gl (BZ c sz) (.cp j1 j2 s0) ia=some j->j∈js')->∀ k'∈cl.take (b+1),∀ z j,kbs[k']? = some z->gl (BZ c sz) z ia=some j->j∈js':=fun {js'} hsub hnew k' hk' z' j hz' hg=>by
       rw [List.take_add_one,hk] at hk'
       rcases List.mem_append.mp hk' with h | h
       ·exact hsub j (hall8 k' h z' j hz' hg)
       ·have:k'=k:=by simpa using h
        subst this
        rw [hz] at hz'
        cases hz'
        exact hnew j hg
      rcases NQ (j1:=j1) (s:=s0) hq hbj2 with ⟨e,eg⟩ | ⟨j,e,eg,hjt⟩
      ·rw [e]
       refine ⟨_,rfl,rfl,_,rfl,Ck (Ck ?_)⟩
       exact ⟨s8.trans s9,s9 _ _ n8,gs,s9 _ _ f8,s9 _ _ g8,nd8,hj8,hdone8,done' (fun j h=>h) (fun j h=>by rw [eg] at h; cases h),_,_,rfl⟩
      ·rw [e]
       have hstj:st ia j:=by rw [← hst]; exact ⟨k,_,(bitL k).mpr hkd,hz,eg⟩
       refine ⟨_,rfl,rfl,_,rfl,DN ?_⟩
       refine ⟨_,rfl,_,rfl,F,_,rfl,.inl (.inl (.inl (s9 _ _ f8))),rfl,PP _,_,rfl,?_⟩
       rw [Ku]
       by_cases hin:j∈js++gs
       ·rw [decide_eq_true hin]
        refine Ck ?_
        exact ⟨s8.trans s9,s9 _ _ n8,gs,s9 _ _ f8,s9 _ _ g8,nd8,hj8,hdone8,done' (fun j h=>h) (fun j' h=>by rw [eg] at h; cases h; exact hin),_,_,rfl⟩
       ·rw [decide_eq_false hin]
        refine DN ?_
        have s19:=s8.trans s9
        have f9:=s9 _ _ f8
        have g9:=s9 _ _ g8
        have n9:=s9 _ _ n8
        have nd9:(js++gs++[j]).Nodup:=List.nodup_append.mpr ⟨nd8,by simp,fun a ha b hb=>by rw [List.mem_singleton.mp hb]; intro z; exact hin (z ▸ ha)⟩
        have hj9:∀ j'∈js++gs++[j],Fz st (fun i=>i∈hl) j':=fun j' h=>by
         rcases List.mem_append.mp h with h | h
         ·exact hj8 j' h
         ·rw [List.mem_singleton.mp h]
          exact hiR j hstj
        have hl9:(js++gs++[j]).length<=sz.sum:=Cu sz.sum nd9 fun j h=>hR (hj9 j h)
        rw [List.length_append,List.length_append,List.length_singleton] at hl9
        refine ⟨_,rfl,.inl ⟨rfl,_,.inl (.inl f9)⟩,_,rfl,F,_,_,rfl,rfl,f9,K9 (by rw [List.length_map,List.length_append]; omega),?_⟩
        have f10:upd H9 F (.lst (nV (js++gs)++[V.int (j:Nat)])) F=some (.lst (nV (js++(gs++[j])))):=by rw [O4,List.append_assoc]; exact Ag
        have g10:upd H9 F (.lst (nV (js++gs)++[V.int (j:Nat)])) G=some (.lst (nV gs)):=by rw [BP hFG.symm]; exact g9
        have n10:upd H9 F (.lst (nV (js++gs)++[V.int (j:Nat)])) Nw=some (.lst (nV (i0::ls))):=by rw [BP hFN.symm]; exact n9
        have s10:Aj H1 (upd H9 F (.lst (nV (js++gs)++[V.int (j:Nat)]))):=fun b o e=>by rw [BP (BL e hF)]; exact s19 _ _ e
        generalize upd H9 F (.lst (nV (js++gs)++[V.int (j:Nat)]))=H10 at f10 g10 n10 s10 ⊢
        refine ⟨_,rfl,.inl ⟨rfl,_,.inl (.inl g10)⟩,_,rfl,G,_,_,rfl,rfl,g10,K9 (by rw [List.length_map]; omega),?_⟩
        have g11:upd H10 G (.lst (nV gs++[V.int (j:Nat)])) G=some (.lst (nV (gs++[j]))):=by rw [O4]; exact Ag
        have f11:upd H10 G (.lst (nV gs++[V.int (j:Nat)])) F=some (.lst (nV (js++(gs++[j])))):=by rw [BP hFG]; exact f10
        have n11:upd H10 G (.lst (nV gs++[V.int (j:Nat)])) Nw=some (.lst (nV (i0::ls))):=by rw [BP hNG]; exact n10
        have s11:Aj H1 (upd H10 G (.lst (nV gs++[V.int (j:Nat)]))):=fun b o e=>by rw [BP (BL e hG1)]; exact s10 _ _ e
        rw [List.append_assoc] at nd9 hj9
        have sub:∀ x∈js++gs,x∈js++(gs++[j]):=fun x hx=>by rw [← List.append_assoc]; exact List.mem_append_left _ hx
        exact ⟨s11,n11,gs++[j],f11,g11,nd9,hj9,(fun i hi j' h'=>sub _ (hdone8 i hi j' h')),done' sub (fun j' h=>by rw [eg] at h; cases h; simp),_,_,rfl⟩
     ·clear f7 g7 nd7 hj7 hdone
      rintro σ H8 ⟨s8,n8,gs,f8,g8,nd8,hj8,hdone8,hall8,v9,v10,rfl⟩
      refine ⟨s8,n8,gs,f8,g8,nd8,hj8,(fun i hi j hij=>?_),_,_,_,rfl⟩
      rw [List.take_add_one,hia] at hi
      rcases List.mem_append.mp hi with h | h
      ·exact hdone8 i h j hij
      ·have:i=ia:=by simpa using h
       subst this
       rw [← hst] at hij
       obtain ⟨k,z,hkd,hkz,hg⟩:=hij
       refine hall8 k ?_ z j hkz hg
       rw [List.take_of_length_le (by simp)]
       exact (hcm k).mpr ⟨(bitL k).mp hkd,z,hkz,WD hg⟩
    ·rintro σ H7 ⟨s7,n7,gs,f7,g7,nd7,hj7,hdone,v8,v9,v10,rfl⟩
     have hl7:(js++gs).length<=sz.sum:=Cu sz.sum nd7 fun j h=>hR (hj7 j h)
     rw [List.length_append] at hl7
     rw [List.take_of_length_le (by simp)] at hdone
     refine ⟨_,rfl,⟨s7,js++gs,gs,G,f7,g7,hFG,nd7,hj7,(fun i hi=>.inr (List.mem_append_right _ hi)),(fun i hi=>?_),_,_,_,_,rfl⟩,?_⟩
     ·have h':(i∈hl \/ i∈js) \/ i∈gs:=by
       rcases hi with h | h
       ·exact .inl (.inl h)
       ·rcases List.mem_append.mp h with h | h
        ·exact .inl (.inr h)
        ·exact .inr h
      rcases h' with h' | h'
      ·rcases hcl4 i h' with g | g
       ·exact .inr fun j hij=>hdone i g j hij
       ·exact .inr fun j hij=>List.mem_append_left _ (g j hij)
      ·exact .inl h'
     ·show (sz.sum - Lk (H7 F))+Lk (H7 G)<(sz.sum - Lk (H4 F))+Lk (H4 Nw)
      rw [f7,g7,hF4,hN4]
      show sz.sum - (nV (js++gs)).length+(nV gs).length<sz.sum - (nV js).length+(nV (i0::ls)).length
      simp only [List.length_map,List.length_append,List.length_cons]
      omega
  ·rintro σ H' Q1 Q2 hm ⟨v,hv,hz,f⟩
   refine ⟨v,hv,hz,fun l hl=>?_⟩
   obtain ⟨p,q,xs,ys,e1,e2,h1,h2,h3,h4,k,hk,h⟩:=f l hl
   exact ⟨p,q,xs,ys,e1,e2,h1,h2,h3,h4,k,hk,hm _ _ h⟩
noncomputable def cQ:Sp:=fun vs H Q _=>∃ (DS DK DD DH:Addr) (c:Nat->Str) (sz:List Nat) (kbs:List Kb) (us:List V) (dl hl:List Nat),vs=[.ref DS,.ref DK,.ref DD,.ref DH]/\H DS=some (.lst (nV sz))/\sz.length<=5/\(∀ s∈sz,s<=61)/\H DK=some (.lst us)/\Paired (fun (k:Kb) y=>GD H k y) kbs us/\Nb sz.length kbs/\H DD=some (.lst (nV dl))/\dl.length<=100/\(∀ k∈dl,k<us.length)/\H DH=some (.lst (nV hl))/\hl.length<=100/\(∀ k∈hl,k<sz.sum) /\
 ∀ F (js:List Nat) H',Aj H H'->H' F=some (.lst (nV js))->js.length<=405->(∀ j,j∈js ↔ Fz (stp (BZ c sz) kbs (Wd.mk dl)) (fun i=>i∈hl) j \/ (j∈hl/\∀ b,WR sz j b->¬ J4 kbs (Wd.mk dl) b))->Q (.ref F) H'
theorem Ss:Aw ["_law_sizes_here","_law_knobs_here","_law_drawn_here","_law_held_here","_law_muted","_law_alone"] ["_law_sizes_here","_law_knobs_here","_law_drawn_here","_law_held_here"] (Ab M8):=⟨rfl,rfl,rfl,by decide +kernel,rfl,by decide +kernel,by decide +kernel⟩
include N T in
theorem X5:Ax P w K mg base Bf 4 fSk2 dSk2 ["_law_sizes_here","_law_knobs_here","_law_drawn_here","_law_held_here"] cQ:=by
 have GCo:Ax P w K mg base Bf 3 fCo dCo ["_law_sizes_here","_law_knobs_here","_law_drawn_here","_law_held_here"] Zz:=bD N T
 have GSp:Ax P w K mg base Bf 1 fSp dSp ["_law_sizes_here","_law_key"] U9:=Tu N T
 refine N.FSk2.1.ok Ss (fun vs H Q E h=>?_) (fun cdv A outer s H vs Q E hr h=>?_)
 ·obtain ⟨DS,DK,DD,DH,c,sz,kbs,us,dl,hl,rfl,_⟩:=h
  rfl
 ·obtain ⟨DS,DK,DD,DH,c,sz,kbs,us,dl,hl,rfl,hS0,h5,h61,hK0,hpr,hkb,hd,hdl,hdb,hh,hhl,hhb,q⟩:=h
  have hrCo:BV 3 _:=hr.mono (by decide)
  have hrSp:BV 1 _:=hr.mono (by decide)
  refine ⟨_,(Ae (BJ (i:=4) Ss.nd rfl (Or.inr rfl) (Bp rfl (BW (osc:=Ab M8) (N:=["_law_sizes_here","_law_knobs_here","_law_drawn_here","_law_held_here","_law_muted","_law_alone"]) rfl rfl (by decide +kernel)) (Bd (pv 2)) (fun _ _ _ _=>(Ef (Ba Dj (Ar (Al (K:=K) rfl) (Ar (Bc (K:=K) rfl) (pv 2) (pv 0) (fun _ _=>rfl)) Ad (fun _ _=>rfl)) Bs (Be _)))) (fun _ _ _ _=>(Ar (Al (K:=K) rfl) (Ar (Bc (K:=K) rfl) (pv 2) (pv 0) (fun _ _=>rfl)) Ad (fun _ _=>rfl)))))
   (Ae (Gv (i:=5) Ss.nd rfl rfl rfl (BW (osc:=Ab M8) (N:=["_law_sizes_here","_law_knobs_here","_law_drawn_here","_law_held_here","_law_muted","_law_alone"]) rfl rfl (by decide +kernel)) (Bd (pv 3)) (fun _ _ _ _=>(Ef (Ba (G3 (K:=K) rfl) (Ar (Al (K:=K) rfl) (Ah GSp hrSp rfl N.FSp.2.2 N.FSp.1.kp N.FSp.2.1 .nil Am (Aa (pv 1) (Aa (pv 0) Ac))) Ad (fun _ _=>rfl)) (pv 5) rfl))) (fun _ _ _ _=>(pv 0)))
   (Af (A_ (Ay Nf (Ah GCo hrCo rfl N.FCo.2.2 N.FCo.1.kp N.FCo.2.1 .nil Am (Aa (pv 0) (Aa (pv 1) (Aa (pv 2) (Aa (pv 3) Ac))))) (pv 5)))))),?_⟩
  have hul:=hpr.length
  have hSd:CK K H DD (nV dl):=.inl (.inl hd)
  have bitL:∀ k,(Wd.mk dl).testBit k=true ↔ k∈dl:=fun k=>by rw [Wd.Ig,decide_eq_true_eq]
  let pm:V->Bool:=fun v=>match v with | .int k=>(match kbs[k.toNat]? with | some z=>decide (V.str z.w=V.str "mute") | none=>false) | _=>false
  let fm:V->V:=fun v=>match v with | .int k=>.int (F_ kbs k.toNat:Nat) | _=>.non
  refine ⟨_,rfl,DD,rfl,⟨_,hSd⟩,Bx (K:=K) (xs:=nV dl) pm fm hSd (Az (by rw [List.length_map]; omega)) (fun v hv H' hs R k=>?_) (fun v hv _ H' hs R k=>?_) (fun ML H1 hML s1 hl1=>?_)⟩
  ·obtain ⟨kk,hkk,rfl⟩:=List.mem_map.mp hv
   have hik:kk<kbs.length:=by have:=hdb kk hkk; omega
   obtain ⟨y,hy,⟨T1,r1,rfl,ht1⟩,_⟩:=Bw (Paired.Ek hpr fun _ _ q=>GD.mono hs q) (List.getElem?_eq_getElem hik)
   have q1:=k H' (Aj.refl H')
   have e0:pm (V.int (kk:Nat))=decide (V.str (kbs[kk]).w=V.str "mute"):=by
    show (match kbs[((kk:Nat):Int).toNat]? with | some z=>decide (V.str z.w=V.str "mute") | none=>false)=_
    rw [Int.toNat_natCast,List.getElem?_eq_getElem hik]
   rw [e0] at q1
   exact ⟨_,rfl,_,rfl,DK,us,_,_,rfl,rfl,.inl (.inl (hs _ _ hK0)),Ai hy,T1,_,_,_,rfl,rfl,.inl (.inl ht1),Ai (j:=0) rfl,rfl,_,rfl,q1⟩
  ·obtain ⟨kk,hkk,rfl⟩:=List.mem_map.mp hv
   have hik:kk<kbs.length:=by have:=hdb kk hkk; omega
   obtain ⟨y,hy,⟨T1,r1,rfl,ht1⟩,_⟩:=Bw (Paired.Ek hpr fun _ _ q=>GD.mono hs q) (List.getElem?_eq_getElem hik)
   have q1:=k H' (Aj.refl H')
   have e0:fm (V.int (kk:Nat))=.int ((kbs[kk]).bd:Nat):=by
    show V.int (F_ kbs ((kk:Nat):Int).toNat:Nat)=_
    unfold F_
    rw [Int.toNat_natCast,List.getElem?_eq_getElem hik]
    cases kbs[kk] <;> rfl
   rw [e0] at q1
   exact ⟨_,rfl,_,rfl,DK,us,_,_,rfl,rfl,.inl (.inl (hs _ _ hK0)),Ai hy,T1,_,_,_,rfl,rfl,.inl (.inl ht1),Ai (j:=1) rfl,q1⟩
  obtain ⟨ml,eml,hml⟩:∃ ml:List Nat,((nV dl).filter pm).map fm=nV ml/\∀ b,b∈ml ↔ J4 kbs (Wd.mk dl) b:=by
   refine ⟨(dl.filter fun k=>pm (.int (k:Nat))).map (F_ kbs),?_,fun b=>?_⟩
   ·unfold nV
    rw [List.filter_map,List.map_map,List.map_map]
    rfl
   ·rw [List.mem_map]
    constructor
    ·rintro ⟨k,hk,rfl⟩
     obtain ⟨h1,h2⟩:=List.mem_filter.mp hk
     have h2':(match kbs[((k:Nat):Int).toNat]? with | some z=>decide (V.str z.w=V.str "mute") | none=>false)=true:=h2
     rw [Int.toNat_natCast] at h2'
     cases e:kbs[k]? with
     | none=>rw [e] at h2'; cases h2'
     | some z=>rw [e] at h2'; exact ⟨k,z,e,V.str.inj (of_decide_eq_true h2'),(bitL k).mpr h1,rfl⟩
    ·rintro ⟨k,z,hz,hw,hd',rfl⟩
     refine ⟨k,List.mem_filter.mpr ⟨(bitL k).mp hd',?_⟩,rfl⟩
     show (match kbs[((k:Nat):Int).toNat]? with | some z=>decide (V.str z.w=V.str "mute") | none=>false)=true
     rw [Int.toNat_natCast,hz]
     exact decide_eq_true (congrArg V.str hw)
  rw [eml] at hl1
  clear eml
  have hSh:CK K H1 DH (nV hl):=.inl (.inl (s1 _ _ hh))
  have z1:=s1 _ _ hS0
  have place:∀ {i},i∈hl->∃ a m,(Ds (BZ c sz))[i]? = some (a,m):=fun {i} hi=>by
   have hlt:i<(Ds (BZ c sz)).length:=by rw [Dm,Bq]; exact hhb i hi
   exact ⟨_,_,List.getElem?_eq_getElem hlt⟩
  let pa:V->Bool:=fun v=>match v with | .int i=>(match (Ds (BZ c sz))[i.toNat]? with | some (a,_)=>!decide (a∈ml) | none=>true) | _=>true
  have epa:∀ {i a m:Nat},(Ds (BZ c sz))[i]? = some (a,m)->pa (V.int (i:Nat)) = !decide (a∈ml):=fun {i a m} hpl=>by
   show (match (Ds (BZ c sz))[((i:Nat):Int).toNat]? with | some (a,_)=>!decide (a∈ml) | none=>true)=_
   rw [Int.toNat_natCast,hpl]
  refine ⟨_,rfl,DH,rfl,⟨_,hSh⟩,Bx (K:=K) (xs:=nV hl) pa id hSh (Az (by rw [List.length_map]; omega)) (fun v hv H' hs R k=>?_) (fun v hv _ H' hs R k=>⟨_,rfl,k H' (Aj.refl H')⟩) (fun AL H2 hAL s2 hl2=>?_)⟩
  ·obtain ⟨i,hi,rfl⟩:=List.mem_map.mp hv
   obtain ⟨a,m,hpl⟩:=place hi
   refine ⟨_,rfl,_,rfl,DS,BZ c sz,i,(a,m),rfl,(by rw [Bq]; exact hs _ _ z1),hpl,fun y1 H3 s3 hy1=>?_⟩
   obtain ⟨T1,rfl,ht1⟩:=hy1
   have kk:=k H3 s3
   rw [epa hpl] at kk
   refine ⟨T1,_,_,_,rfl,rfl,.inl (.inl ht1),Ai (j:=0) rfl,_,rfl,ML,_,rfl,.inl (.inl (.inl (s3 _ _ (hs _ _ hl1)))),rfl,Mt ml,_,rfl,?_⟩
   have ein:inV (V.int (a:Nat)) (nV ml)=decide (a∈ml):=Ku a ml
   rw [ein]
   exact kk
  rw [List.map_id] at hl2
  have e3:(nV hl).filter pa=nV (hl.filter fun i=>pa (.int (i:Nat))):=by
   unfold nV
   rw [List.filter_map]
   rfl
  rw [e3] at hl2
  have s02:=s1.trans s2
  refine ⟨_,rfl,_,rfl,_,rfl,_,rfl,DS,DK,DD,DH,c,sz,kbs,us,dl,hl,rfl,s02 _ _ hS0,h5,h61,s02 _ _ hK0,(Paired.Ek hpr fun _ _ q=>GD.mono s02 q),hkb,s02 _ _ hd,(by omega),hdb,s02 _ _ hh,(by omega),hhb,fun F js H4 hF s4 hj4 hjl hjs=>?_⟩
  have hal4:=s4 _ _ hl2
  have hfl:=List.length_filter_le (fun i:Nat=>pa (.int (i:Nat))) hl
  refine ⟨_,rfl,F,AL,_,_,rfl,rfl,hj4,hal4,Cg (by rw [List.length_map,List.length_map]; omega),fun p5 hp5=>?_⟩
  refine q p5 (js++hl.filter fun i=>pa (.int (i:Nat))) _ (s02.trans (s4.trans (Av hp5))) (by rw [Ag,Oh]) (by rw [List.length_append]; omega) fun j=>?_
  rw [List.mem_append,hjs,List.mem_filter]
  refine or_congr Iff.rfl (and_congr_right fun hj=>?_)
  obtain ⟨a,m,hpl⟩:=place hj
  rw [epa hpl]
  have hb:=Jg hpl
  constructor
  ·intro h b hb' hm
   have:b=a:=Jh hb' hb
   subst this
   rw [decide_eq_true ((hml b).mpr hm)] at h
   cases h
  ·intro h
   rw [decide_eq_false (fun z=>h a hb ((hml a).mp z))]
   rfl
noncomputable def Hu (pz:List Nat) (a:Nat) (qd:Nat × Nat) (x:Ln):V:=if qd.1=a/\x.lo<=(qd.2:Int)/\(qd.2:Int)<=x.hi/\0<=(qd.2:Int)+x.sh/\(qd.2:Int)+x.sh<(pz.getD x.r 0:Nat) then .int ((((pz.take x.r).sum:Nat):Int)+(qd.2:Int)+x.sh) else .non
noncomputable def dH:Sp:=fun vs H Q _=>∃ (p pp T1 A:Addr) (bs:List (Str × Nat)) (pz:List Nat) (a i:Nat) (l:List Ln) (ts:List V) (qd:Nat × Nat),vs=[.ref p,.ref pp,.ref T1,.int (i:Nat)]/\H p=some (.lst ((bs.map (·.2)).map fun n:Nat=>V.int (n:Nat)))/\(Ds bs)[i]? = some qd/\H pp=some (.lst (pz.map fun n:Nat=>V.int (n:Nat)))/\pz.length<=4/\(∀ z∈pz,1<=z/\z<=97)/\H T1=some (.tup [.str "stop",.int (a:Nat),.ref A])/\H A=some (.lst ts)/\Paired (fun x y=>TupAt H (TX x) y) l ts/\l.length<=4/\(∀ x∈l,x.r<pz.length)/\∀ D H',H D=none->Aj H H'->H' D=some (.lst (l.map (Hu pz a qd)))->Q (.ref D) H'
theorem J_:Aw ["_law_sizes_here","_law_pipes","_law_knob_here","_law_key","_law_board","_law_number","_law_found","_law_rank","_law_shift","_law_low","_law_high","_law_pipe"] ["_law_sizes_here","_law_pipes","_law_knob_here","_law_key"] (Ab Zb):=⟨rfl,rfl,rfl,by decide +kernel,rfl,by decide +kernel,by decide +kernel⟩
include N T in
theorem bx:Ax P w K mg base Bf 2 fPi dPi ["_law_sizes_here","_law_pipes","_law_knob_here","_law_key"] dH:=by
 have GSp:Ax P w K mg base Bf 1 fSp dSp ["_law_sizes_here","_law_key"] U9:=Tu N T
 refine N.FPi.1.ok J_ (fun vs H Q E h=>?_) (fun cdv A outer s H vs Q E hr h=>?_)
 ·obtain ⟨p,pp,T1,A0,bs,pz,a,i,l,ts,qd,rfl,_⟩:=h
  rfl
 ·obtain ⟨p,pp,T1,A0,bs,pz,a,i,l,ts,qd,rfl,hp,hq,hpp,h4,hpz,hT1,hA,hts,hl4,hlr,q⟩:=h
  have hrSp:BV 1 _:=hr.mono (by decide)
  refine ⟨_,(Ae (N8 (Ah GSp hrSp rfl N.FSp.2.2 N.FSp.1.kp N.FSp.2.1 .nil Am (Aa (pv 0) (Aa (pv 3) Ac))) (Fx rfl (Bh (Bb (i:=4) J_.nd rfl (Or.inl rfl)) (Bh (Bb (i:=5) J_.nd rfl (Or.inl rfl)) EY))))
   (Ae (BJ (i:=6) J_.nd rfl (Or.inl rfl) (De Ac))
   (Ae (Ci PassesOwn.never rfl (Bd (Ar (Al (K:=K) rfl) (pv 2) Ad (fun _ _=>rfl))) (Fx rfl (Bh (Bb (i:=7) J_.nd rfl (Or.inl rfl)) (Bh (Bb (i:=8) J_.nd rfl (Or.inl rfl)) (Bh (Bb (i:=9) J_.nd rfl (Or.inl rfl)) (Bh (Bb (i:=10) J_.nd rfl (Or.inl rfl)) EY))))) (Ae (BJ (i:=11) J_.nd rfl (Or.inl rfl) HD)
   (Ae (CT (PW.pt (Ia (Ba Dj (pv 4) (Ar (Al (K:=K) rfl) (pv 2) Ad (fun _ _=>rfl)) (Be _)) (Ia (Fd Eh Eh (pv 9) (pv 5) (pv 10)) (Hx (Fd Eh Gf Ad (Ay Bo (pv 5) (pv 8)) (Ar (Bc (K:=K) rfl) (pv 1) (pv 7) (fun _ _=>rfl))))))) (Af (BJ (i:=11) J_.nd rfl (Or.inl rfl) (Ay Bo (Ay Bo (BX (Hv rfl) rfl T.sum PyProof.Rows.boot_sum (Aa (Ea Hd (pv 1) Es (Cw (pv 7))) Ac)) (pv 5)) (pv 8)))) Bj)
   (Af (C_ (Ep PySem.F.plainAttrs_list PySem.F.slot_list_append PySem.F.type_list_append B_ (pv 6) (Aa (pv 11) Ac)))))))
   (Af (A_ (pv 6)))))),?_⟩
  refine ⟨_,rfl,_,rfl,p,bs,i,qd,rfl,hp,hq,fun y1 H1 s1 hy1=>?_⟩
  obtain ⟨T2,rfl,ht2⟩:=hy1
  refine ⟨T2,_,rfl,.inl (.inl ht2),rfl,_,_,rfl,_,_,rfl,rfl,?_⟩
  refine ⟨Cg (by simp),fun D hD=>?_⟩
  have hD0:=s1.free hD
  have t0:=Av (o:=HO.lst []) hD
  have u0:upd H1 D (HO.lst []) D=some (.lst []):=Ag
  generalize upd H1 D (HO.lst [])=H2 at t0 u0 ⊢
  have s02:=s1.trans t0
  have hS2:CK K H2 A0 ts:=.inl (.inl (s02 _ _ hA))
  have htl:=hts.length
  refine ⟨_,rfl,T1,_,_,_,rfl,rfl,.inl (.inl (s02 _ _ hT1)),Ai (j:=2) rfl,A0,rfl,⟨_,hS2⟩,Cp (K:=K) (a:=A0) (xs:=ts) (fun j σ H4=>Aj H H4/\H4 D=some (.lst ((l.take j).map (Hu pz a qd)))/\∃ v7 v8 v9 v10 v11,σ=[some (.ref p),some (.ref pp),some (.ref T1),some (.int (i:Nat)),some (.int (qd.1:Nat)),some (.int (qd.2:Nat)),some (.ref D),v7,v8,v9,v10,v11])
   ⟨s02,u0,_,_,_,_,_,rfl⟩ (fun j σ H4 _ h=>.inl (.inl (h.1 _ _ hA))) ?_ ?_⟩
  ·rintro j y σ H4 hj ⟨s4,hd,v7,v8,v9,v10,v11,rfl⟩
   obtain ⟨x,hx,T3,rfl,ht3⟩:=Gk hts hj
   have hxr:=hlr x (List.mem_of_getElem? hx)
   have hzr:=hpz pz[x.r] (List.getElem_mem hxr)
   have ezr:pz.getD x.r 0=pz[x.r]:=by rw [List.getD_eq_getElem?_getD,List.getElem?_eq_getElem hxr]; rfl
   have hpp4:=s4 _ _ hpp
   have fin:∀ {H5:Hp} (pv:V),Aj H4 H5->H5 D=some (.lst ((l.take j).map (Hu pz a qd)))->Hu pz a qd x=pv->Aj H (upd H5 D (.lst ((l.take j).map (Hu pz a qd)++[pv])))/\upd H5 D (.lst ((l.take j).map (Hu pz a qd)++[pv])) D=some (.lst ((l.take (j+1)).map (Hu pz a qd)))/\∃ v7 v8 v9 v10 v11,[some (V.ref p),some (.ref pp),some (.ref T1),some (.int (i:Nat)),some (.int (qd.1:Nat)),some (.int (qd.2:Nat)),some (.ref D),some (.int (x.r:Nat)),some (.int x.sh),some (.int x.lo),some (.int x.hi),some pv]=[some (.ref p),some (.ref pp),some (.ref T1),some (.int (i:Nat)),some (.int (qd.1:Nat)),some (.int (qd.2:Nat)),some (.ref D),v7,v8,v9,v10,v11]:=fun {H5} pv s5 hd5 e=>by
    refine ⟨fun b o z=>?_,?_,_,_,_,_,_,rfl⟩
    ·rw [BP (BL z hD0)]
     exact s5 _ _ (s4 _ _ z)
    ·rw [Ag,List.take_add_one,hx,List.map_append,← e]
     rfl
   refine ⟨T3,_,rfl,.inl (.inl (s4 _ _ ht3)),rfl,_,_,rfl,_,_,rfl,_,_,rfl,_,_,rfl,rfl,?_⟩
   refine ⟨_,rfl,_,rfl,T1,_,_,_,rfl,rfl,.inl (.inl (s4 _ _ hT1)),Ai (j:=1) rfl,rfl,_,rfl,?_⟩
   by_cases e1:qd.1=a
   rotate_left
   ·have z:decide (V.int (qd.1:Nat)=V.int (a:Nat))=false:=decide_eq_false fun z=>e1 (by have:=V.int.inj z; omega)
    rw [z]
    repeat refine Ck ?_
    exact ⟨_,rfl,.inl ⟨rfl,_,.inl (.inl hd)⟩,_,rfl,D,_,_,rfl,rfl,hd,Az (by rw [List.length_map,List.length_take]; omega),fin _ (Aj.refl _) hd (if_neg (fun z=>absurd z.1 e1))⟩
   have z:decide (V.int (qd.1:Nat)=V.int (a:Nat))=true:=by rw [e1]; exact decide_eq_true rfl
   rw [z]
   refine DN ?_
   refine ⟨_,rfl,_,rfl,_,_,rfl,rfl,_,rfl,?_⟩
   by_cases e2:x.lo<=(qd.2:Int)
   rotate_left
   ·rw [decide_eq_false e2]
    refine Ck ⟨_,rfl,?_⟩
    repeat refine Ck ?_
    exact ⟨_,rfl,.inl ⟨rfl,_,.inl (.inl hd)⟩,_,rfl,D,_,_,rfl,rfl,hd,Az (by rw [List.length_map,List.length_take]; omega),fin _ (Aj.refl _) hd (if_neg (fun z=>absurd z.2.1 e2))⟩
   rw [decide_eq_true e2]
   refine DN ?_
   refine ⟨_,rfl,_,_,rfl,rfl,_,rfl,?_⟩
   by_cases e3:(qd.2:Int)<=x.hi
   rotate_left
   ·rw [decide_eq_false e3]
    repeat refine Ck ?_
    exact ⟨_,rfl,.inl ⟨rfl,_,.inl (.inl hd)⟩,_,rfl,D,_,_,rfl,rfl,hd,Az (by rw [List.length_map,List.length_take]; omega),fin _ (Aj.refl _) hd (if_neg (fun z=>absurd z.2.2.1 e3))⟩
   rw [decide_eq_true e3]
   refine DN ?_
   refine ⟨_,rfl,_,rfl,_,_,rfl,rfl,_,_,rfl,rfl,_,rfl,?_⟩
   by_cases e4:0<=(qd.2:Int)+x.sh
   rotate_left
   ·rw [decide_eq_false e4]
    refine Ck ⟨_,rfl,?_⟩
    repeat refine Ck ?_
    exact ⟨_,rfl,.inl ⟨rfl,_,.inl (.inl hd)⟩,_,rfl,D,_,_,rfl,rfl,hd,Az (by rw [List.length_map,List.length_take]; omega),fin _ (Aj.refl _) hd (if_neg (fun z=>absurd z.2.2.2.1 e4))⟩
   rw [decide_eq_true e4]
   refine DN ?_
   refine ⟨_,rfl,_,rfl,pp,_,_,.int (pz[x.r]:Nat),rfl,rfl,.inl (.inl hpp4),Ai (by rw [List.getElem?_map,List.getElem?_eq_getElem hxr]; rfl),_,_,rfl,rfl,_,rfl,?_⟩
   by_cases e5:(qd.2:Int)+x.sh<(pz[x.r]:Nat)
   rotate_left
   ·rw [decide_eq_false e5]
    repeat refine Ck ?_
    exact ⟨_,rfl,.inl ⟨rfl,_,.inl (.inl hd)⟩,_,rfl,D,_,_,rfl,rfl,hd,Az (by rw [List.length_map,List.length_take]; omega),fin _ (Aj.refl _) hd (if_neg (fun z=>absurd (show (qd.2:Int)+x.sh<(pz[x.r]:Nat) from ezr ▸ z.2.2.2.2) e5))⟩
   rw [decide_eq_true e5]
   refine DN ?_
   have pzi:(pz.map fun n:Nat=>V.int (n:Nat))=(pz.map fun n:Nat=>(n:Int)).map V.int:=by rw [List.map_map]; rfl
   rw [pzi] at hpp4
   refine ⟨_,rfl,_,rfl,_,rfl,pp,_,rfl,.inl (.inl hpp4),fun p6 hp6=>?_⟩
   have t6:=Av (o:=HO.lst (Eg ((pz.map fun n:Nat=>(n:Int)).map V.int) none (some (x.r:Int)))) hp6
   have u6:upd H4 p6 (HO.lst (Eg ((pz.map fun n:Nat=>(n:Int)).map V.int) none (some (x.r:Int)))) p6=_:=Ag
   generalize upd H4 p6 (HO.lst (Eg ((pz.map fun n:Nat=>(n:Int)).map V.int) none (some (x.r:Int))))=H6 at t6 u6 ⊢
   rw [Gj _ x.r (by rw [List.length_map,List.length_map]; omega),← List.map_take,← List.map_take] at u6
   have hd6:=t6 _ _ hd
   refine ⟨p6,_,rfl,.inl (.inl u6),(fun n hn=>by
    obtain ⟨m,hm,rfl⟩:=List.mem_map.mp hn
    have:=(hpz m (List.mem_of_mem_take hm)).2
    omega),(by simp; omega),?_⟩
   rw [Hk]
   refine ⟨_,rfl,_,_,rfl,rfl,_,rfl,_,_,rfl,rfl,?_⟩
   exact ⟨_,rfl,.inl ⟨rfl,_,.inl (.inl hd6)⟩,_,rfl,D,_,_,rfl,rfl,hd6,Az (by rw [List.length_map,List.length_take]; omega),fin _ t6 hd6 (if_pos ⟨e1,e2,e3,e4,by rw [ezr]; exact e5⟩)⟩
  ·rintro σ H4 ⟨s4,hd,v7,v8,v9,v10,v11,rfl⟩
   rw [List.take_of_length_le (by omega)] at hd
   exact ⟨_,rfl,q D H4 hD0 s4 hd⟩
theorem Ri (c:Nat->Str) (pz:List Nat) (wi:Nat->Int):(Gb c pz wi).map (fun r=>r.2.1)=pz:=by
 refine List.ext_getElem? fun i=>?_
 rw [List.getElem?_map]
 cases h:pz[i]? with
 | none=>rw [List.getElem?_eq_none (by rw [Gu]; exact List.getElem?_eq_none_iff.mp h)]; rfl
 | some z=>rw [JP h]; rfl
noncomputable def KC (pz:List Nat) (a:Nat) (qd:Nat × Nat) (x:Ln):Option Nat:=if qd.1=a/\x.lo<=(qd.2:Int)/\(qd.2:Int)<=x.hi/\0<=(qd.2:Int)+x.sh/\(qd.2:Int)+x.sh<(pz.getD x.r 0:Nat) then some ((((pz.take x.r).sum:Nat):Int)+(qd.2:Int)+x.sh).toNat else none
theorem Rf (pz:List Nat) (a:Nat) (qd:Nat × Nat) (l:List Ln):(l.map (Hu pz a qd)).filter (fun v=>!decide (v=V.non))=nV (l.filterMap (KC pz a qd)):=by
 induction l with
 | nil=>rfl
 | cons x l ih =>
  rw [List.map_cons,List.filter_cons,List.filterMap_cons,ih]
  unfold Hu KC
  by_cases h:qd.1=a/\x.lo<=(qd.2:Int)/\(qd.2:Int)<=x.hi/\0<=(qd.2:Int)+x.sh/\(qd.2:Int)+x.sh<(pz.getD x.r 0:Nat)
  ·rw [if_pos h,if_pos h,if_pos (by simp)]
   show V.int _::nV _=nV (_::_)
   have:((((((pz.take x.r).sum:Nat):Int)+(qd.2:Int)+x.sh).toNat:Nat):Int)=(((pz.take x.r).sum:Nat):Int)+(qd.2:Int)+x.sh:=by omega
   show V.int ((((pz.take x.r).sum:Nat):Int)+(qd.2:Int)+x.sh)::_=V.int (((((((pz.take x.r).sum:Nat):Int)+(qd.2:Int)+x.sh).toNat:Nat):Int))::_
   rw [this]
  ·rw [if_neg h,if_neg h,if_neg (by decide)]
theorem RZ (pz:List Nat) (a:Nat) (qd:Nat × Nat) (x:Ln):Hu pz a qd x=.non \/ ∃ n,Hu pz a qd x=.int n:=by
 unfold Hu
 split
 ·exact .inr ⟨_,rfl⟩
 ·exact .inl rfl
theorem W0:∀ {l:List Nat},(∀ z∈l,z<=97)->l.sum<=97 * l.length:=by
 intro l
 induction l with
 | nil=>intro _; simp
 | cons a l ih =>
  intro h
  have h1:=h a (List.mem_cons_self ..)
  have h2:=ih fun z hz=>h z (List.mem_cons_of_mem _ hz)
  rw [List.sum_cons,List.length_cons]
  omega
theorem Xj {pz:List Nat} {a n:Nat} {qd:Nat × Nat} {l:List Ln} (h4:pz.length<=4) (hp:∀ z∈pz,1<=z/\z<=97) (h:n∈l.filterMap (KC pz a qd)):n<1200:=by
 obtain ⟨x,_,e⟩:=List.mem_filterMap.mp h
 unfold KC at e
 split at e
 ·rename_i g
  have e':=Option.some.inj e
  obtain ⟨_,_,_,g5,g6⟩:=g
  have s1:(pz.take x.r).sum<=97 * (pz.take x.r).length:=W0 fun z hz=>(hp z (List.mem_of_mem_take hz)).2
  rw [List.length_take] at s1
  have s2:pz.getD x.r 0<=97:=by
   rw [List.getD_eq_getElem?_getD]
   cases hx:pz[x.r]? with
   | none=>exact Nat.zero_le _
   | some z=>exact (hp z (List.mem_of_getElem? hx)).2
  omega
 ·cases e
theorem Qp {H2:Hp} {P1 L:Addr} {so:HO} {xs:List V} {i:Nat} {v:V} {σ:St} {Q:St->Hp->Prop} (hP:H2 P1=none) (hL:upd H2 P1 so L=none) (k:∀ H3,Aj H2 H3->H3 L=some (.lst xs)->Cz i v σ H3 Q):Cz i v σ (upd (upd H2 P1 so) L (.lst xs)) Q:=k _ ((Av hP).trans (Av hL)) Ag
theorem W7 {n:Nat} (h:n<=100000):n<=sizeLine:=Nat.le_trans h (by decide)
theorem Oq {τ:List Int} (h:τ.Nodup) (k:Int):(Wd.Ed τ k).Nodup:=by
 unfold Wd.Ed
 split
 ·exact h
 ·rename_i hk
  exact List.nodup_append.mpr ⟨h,by simp,fun x hx y hy=>by
   rw [List.mem_singleton.mp hy]
   intro q
   exact hk (q ▸ hx)⟩
theorem I_:∀ (ns τ:List Int),τ.Nodup->(ns.foldl Wd.Ed τ).Nodup
 | [],_,h=>h
 | k::ns,τ,h=>I_ ns _ (Oq h k)
theorem Hn {ms:List Int} {m:Nat} (h:∀ x∈ms,0<=x/\x<(m:Int)):(ms.foldl Wd.Ed []).length<=m:=by
 have mem:∀ x∈ms.foldl Wd.Ed [],0<=x/\x<(m:Int):=fun x hx=>by
  rcases (Wd.IK ms [] x).mp hx with z | z
  ·cases z
  ·exact h x z
 have nd:=I_ ms [] .nil
 generalize ms.foldl Wd.Ed []=τ at mem nd
 have nd2:(τ.map Int.toNat).Nodup:=by
  refine List.pairwise_map.mpr (List.Pairwise.imp_of_mem (fun {a b} ha hb hab=>?_) nd)
  have:=mem a ha
  have:=mem b hb
  intro e
  exact hab (by omega)
 have:=Cu m nd2 fun i hi=>by
  obtain ⟨x,hx,rfl⟩:=List.mem_map.mp hi
  have:=mem x hx
  omega
 rw [List.length_map] at this
 exact this
theorem VB {js:List Nat} {ns:List Int} {m:Nat} (hm:∀ j∈js,j<m) (p:ns.Perm ((js.map fun n:Nat=>(n:Int)).foldl Wd.Ed [])):∃ kl:List Nat,ns.map V.int=nV kl/\(∀ j,j∈kl ↔ j∈js)/\kl.length<=m:=by
 have hb:∀ x∈js.map (fun n:Nat=>(n:Int)),0<=x/\x<(m:Int):=fun x hx=>by
  obtain ⟨n,hn,rfl⟩:=List.mem_map.mp hx
  have:=hm n hn
  omega
 have mem:∀ x,x∈ns ↔ ∃ n∈js,((n:Nat):Int)=x:=fun x=>by
  rw [p.mem_iff,Wd.IK,List.mem_map]
  exact ⟨fun z=>z.elim (fun q=>nomatch q) id,.inr⟩
 refine ⟨ns.map Int.toNat,?_,fun j=>?_,?_⟩
 ·show ns.map V.int=(ns.map Int.toNat).map fun n:Nat=>V.int (n:Int)
  rw [List.map_map]
  refine List.map_congr_left fun x hx=>?_
  obtain ⟨n,_,rfl⟩:=(mem x).mp hx
  rfl
 ·rw [List.mem_map]
  constructor
  ·rintro ⟨x,hx,rfl⟩
   obtain ⟨n,hn,rfl⟩:=(mem x).mp hx
   exact hn
  ·intro hj
   exact ⟨(j:Int),(mem _).mpr ⟨j,hj,rfl⟩,rfl⟩
 ·rw [List.length_map,p.length_eq]
  exact Hn hb
noncomputable def Yi (c:Nat->Str) (sz pz:List Nat) (z:Kl) (j p:Nat):Prop:=∃ qd,(Ds (BZ c sz))[j]? = some qd/\p∈z.2.filterMap (KC pz z.1.bd qd)
noncomputable def cB:Sp:=fun vs H Q _=>∃ (W DS DP DK DR DD DH:Addr) (c:Nat->Str) (sz pz:List Nat) (kls:List Kl) (us:List V) (dl hl:List Nat),vs=[.ref W,.ref DD,.ref DH]/\H W=some (.lst [.ref DS,.ref DP,.ref DK,.ref DR])/\H DS=some (.lst (nV sz))/\H DP=some (.lst (nV pz))/\sz.length<=5/\(∀ s∈sz,s<=5)/\pz.length<=4/\(∀ z∈pz,1<=z/\z<=97)/\H DK=some (.lst us)/\Paired (fun z y=>FN DK H z y) kls us/\Qz sz pz kls/\Nb sz.length (kls.map (·.1))/\H DD=some (.lst (nV dl))/\dl.length<=100/\(∀ k∈dl,k<us.length)/\H DH=some (.lst (nV hl))/\hl.length<=100/\(∀ k∈hl,k<sz.sum) /\
 ∀ F (fl:List Nat) H',Aj H H'->H' F=some (.lst (nV fl))->fl.length<=100000->(∀ n∈fl,n<1200)->(∀ p,p∈fl ↔ ∃ k∈dl,∃ z,kls[k]? = some z/\z.1.w = "stop" /\ ∃ j,(Fz (stp (BZ c sz) (kls.map (·.1)) (Wd.mk dl)) (fun i=>i∈hl) j \/ (j∈hl/\∀ b,WR sz j b->¬ J4 (kls.map (·.1)) (Wd.mk dl) b))/\Yi c sz pz z j p)->Q (.ref F) H'
theorem J6:Aw ["_law_world_here","_law_drawn_here","_law_held_here","_law_sizes_here","_law_pipes","_law_knobs_here","_law_rows_here","_law_found","_law_keys","_law_k","_law_key"] ["_law_world_here","_law_drawn_here","_law_held_here"] (Ab Ws):=⟨rfl,rfl,rfl,by decide +kernel,rfl,by decide +kernel,by decide +kernel⟩
include N T in
theorem eQ:Ax P w K mg base Bf 5 fSd dSd ["_law_world_here","_law_drawn_here","_law_held_here"] cB:=by
 have GSk2:Ax P w K mg base Bf 4 fSk2 dSk2 ["_law_sizes_here","_law_knobs_here","_law_drawn_here","_law_held_here"] cQ:=X5 N T
 have GPi:Ax P w K mg base Bf 2 fPi dPi ["_law_sizes_here","_law_pipes","_law_knob_here","_law_key"] dH:=bx N T
 refine N.FSd.1.ok J6 (fun vs H Q E h=>?_) (fun cdv A outer s H vs Q E hr h=>?_)
 ·obtain ⟨W,DS,DP,DK,DR,DD,DH,c,sz,pz,kls,us,dl,hl,rfl,_⟩:=h
  rfl
 ·obtain ⟨W,DS,DP,DK,DR,DD,DH,c,sz,pz,kls,us,dl,hl,rfl,hW,hS0,hP0,h5,hs5,h4,hpz,hK0,hpr,hkls,hkbs,hd,hdl,hdb,hh,hhl,hhb,q⟩:=h
  have hrSk2:BV 4 _:=hr.mono (by decide)
  have hrPi:BV 2 _:=hr.mono (by decide)
  refine ⟨_,(Ae (N8 (pv 0) (Wh rfl (Bh (Bb (i:=3) J6.nd rfl (Or.inl rfl)) (Bh (Bb (i:=4) J6.nd rfl (Or.inl rfl)) (Bh (Bb (i:=5) J6.nd rfl (Or.inl rfl)) (Bh (Bb (i:=6) J6.nd rfl (Or.inl rfl)) EY))))))
   (Ae (BJ (i:=7) J6.nd rfl (Or.inl rfl) (De Ac))
   (Ae (BJ (i:=8) J6.nd rfl (Or.inl rfl) (BX (Mg rfl) rfl T.sorted PyProof.Rows.boot_sorted (Aa (Dk (TQ rfl) rfl T.set PyProof.Rows.boot_set (Aa (Ah GSk2 hrSk2 rfl N.FSk2.2.2 N.FSk2.1.kp N.FSk2.2.1 .nil Am (Aa (pv 3) (Aa (pv 5) (Aa (pv 1) (Aa (pv 2) Ac))))) Ac)) Ac)))
   (Ae (Ci PassesOwn.never rfl (Bd (pv 1)) (Bb (i:=9) J6.nd rfl (Or.inl rfl)) (Af (CT (Ba Dj (Ar (Al (K:=K) rfl) (Ar (Bc (K:=K) rfl) (pv 5) (pv 9) (fun _ _=>rfl)) Ad (fun _ _=>rfl)) Bs (Be _)) (Af (Ci PassesOwn.never rfl (Bd (pv 8)) (Bb (i:=10) J6.nd rfl (Or.inl rfl)) (Af (BJ (i:=7) J6.nd rfl (Or.inl rfl) (Ay Nf (pv 7) (Bp rfl (BW (osc:=Ab Ws) (N:=["_law_world_here","_law_drawn_here","_law_held_here","_law_sizes_here","_law_pipes","_law_knobs_here","_law_rows_here","_law_found","_law_keys","_law_k","_law_key"]) rfl rfl (by decide +kernel)) (Bd (Ah GPi hrPi rfl N.FPi.2.2 N.FPi.1.kp N.FPi.2.1 .nil Am (Aa (pv 3) (Aa (pv 4) (Aa (Ar (Bc (K:=K) rfl) (pv 5) (pv 9) (fun _ _=>rfl)) (Aa (pv 10) Ac)))))) (fun _ _ _ _=>(Ef (Ba Kw (pv 0) HD (Be _)))) (fun _ _ _ _=>(pv 0)))))))) Bj)))
   (Af (A_ (pv 7))))))),?_⟩
  have hul:=hpr.length
  have h25:sz.sum<=25:=by
   have:∀ {l:List Nat},(∀ s∈l,s<=5)->l.sum<=5 * l.length:=by
    intro l
    induction l with
    | nil=>intro _; simp
    | cons a l ih =>
     intro h
     have h1:=h a (List.mem_cons_self ..)
     have h2:=ih fun z hz=>h z (List.mem_cons_of_mem _ hz)
     rw [List.sum_cons,List.length_cons]
     omega
   have:=this hs5
   omega
  refine ⟨_,rfl,W,_,rfl,.inl (.inl hW),rfl,_,_,rfl,_,_,rfl,_,_,rfl,_,_,rfl,rfl,?_⟩
  refine ⟨Cg (by simp),fun F0 hF0=>?_⟩
  have t1:=Av (o:=HO.lst []) hF0
  have u1:upd H F0 (HO.lst []) F0=some (.lst (nV [])):=Ag
  generalize upd H F0 (HO.lst [])=H1 at t1 u1 ⊢
  refine ⟨_,rfl,_,rfl,_,rfl,_,rfl,DS,DK,DD,DH,c,sz,kls.map (·.1),us,dl,hl,rfl,t1 _ _ hS0,h5,(fun s hs=>Nat.le_trans (hs5 s hs) (by decide)),t1 _ _ hK0,(Paired.Ek (Kg hpr) fun _ _ q=>GD.mono t1 q),hkbs,t1 _ _ hd,hdl,hdb,t1 _ _ hh,hhl,hhb,fun F1 js H2 s2 hj2 hjl hjs=>?_⟩
  have hjb:∀ j∈js,j<sz.sum:=fun j hj=>by
   rcases (hjs j).mp hj with h | h
   ·have:=h.lt
    rw [Bq] at this
    exact this
   ·exact hhb j h.1
  have ej:nV js=(js.map fun n:Nat=>(n:Int)).map V.int:=by
   unfold nV
   rw [List.map_map]
   rfl
  have hb:∀ x∈js.map (fun n:Nat=>(n:Int)),0<=x/\x<(sz.sum:Int):=fun x hx=>by
   obtain ⟨n,hn,rfl⟩:=List.mem_map.mp hx
   have:=hjb n hn
   omega
  refine ⟨F1,js.map fun n:Nat=>(n:Int),rfl,.inl (.inl (by rw [← ej]; exact hj2)),by rw [List.length_map]; omega,fun P1 hP1=>?_⟩
  refine ⟨P1,_,rfl,Ag,(by have:=Hn hb; omega),fun L ns hL hperm hsort=>?_⟩
  obtain ⟨kl,ekl,hkl,hkll⟩:=VB hjb hperm
  show Cz 8 _ _ _ _
  refine Qp hP1 hL fun H3 s23 u3=>?_
  have s03:=t1.trans (s2.trans s23)
  rw [ekl] at u3
  have f3:=s23 _ _ (s2 _ _ u1)
  have hSd3:CK K H3 DD (nV dl):=.inl (.inl (s03 _ _ hd))
  have hSk3:CK K H3 L (nV kl):=.inl (.inl u3)
  refine ⟨_,rfl,DD,rfl,⟨_,hSd3⟩,Cp (K:=K) (a:=DD) (xs:=nV dl) (fun a σ H4=>Aj H3 H4/\∃ (F:Addr) (fl:List Nat),H4 F=some (.lst (nV fl))/\fl.length<=200 * a/\(∀ n∈fl,n<1200)/\(∀ p,p∈fl ↔ ∃ k∈dl.take a,∃ z,kls[k]? = some z/\z.1.w = "stop" /\ ∃ j∈kl,Yi c sz pz z j p)/\∃ v9 v10,σ=[some (.ref W),some (.ref DD),some (.ref DH),some (.ref DS),some (.ref DP),some (.ref DK),some (.ref DR),some (.ref F),some (.ref L),v9,v10])
   ⟨Aj.refl _,F0,[],f3,Nat.zero_le _,(fun n hn=>nomatch hn),(fun p=>⟨fun h=>(nomatch h),fun ⟨k,hk,_⟩=>by simp at hk⟩),_,_,rfl⟩ (fun a σ H4 _ h=>h.1.seq hSd3) ?_ ?_⟩
  ·rintro a y σ H4 ha ⟨s4,F,fl,hF,hfl,hfb,hfm,v9,v10,rfl⟩
   rw [List.getElem?_map] at ha
   obtain ⟨k,hk,rfl⟩:=Option.map_eq_some_iff.mp ha
   have hkd:=List.mem_of_getElem? hk
   have hik:k<kls.length:=by have:=hdb k hkd; omega
   obtain ⟨y,hy,hyk⟩:=Bw hpr (List.getElem?_eq_getElem hik)
   have hzz:=List.getElem?_eq_getElem hik
   have hlw:=hkls.ln _ (List.getElem_mem hik)
   have hok:=hkls.ok (kls[k]).1 (List.mem_map_of_mem (List.getElem_mem hik))
   generalize kls[k]=z at hzz hyk hlw hok
   have s04:=s03.trans s4
   obtain ⟨T1,r1,rfl,ht1⟩:=hyk.w0
   refine ⟨_,rfl,_,rfl,DK,us,_,_,rfl,rfl,.inl (.inl (s04 _ _ hK0)),Ai hy,T1,_,_,_,rfl,rfl,.inl (.inl (s04 _ _ ht1)),Ai (j:=0) rfl,rfl,_,rfl,?_⟩
   have tk:dl.take (a+1)=dl.take a++[k]:=by rw [List.take_add_one,hk]; rfl
   by_cases hw:z.1.w = "stop"
   rotate_left
   ·have hfa:decide (V.str z.1.w=V.str "stop")=false:=decide_eq_false fun e=>hw (V.str.inj e)
    rw [hfa]
    refine Ck ?_
    refine ⟨s4,F,fl,hF,by omega,hfb,fun p=>?_,_,_,rfl⟩
    rw [hfm,tk]
    constructor
    ·rintro ⟨k',hk',h⟩
     exact ⟨k',List.mem_append_left _ hk',h⟩
    ·rintro ⟨k',hk',z',hz',hw',h⟩
     rcases List.mem_append.mp hk' with g | g
     ·exact ⟨k',g,z',hz',hw',h⟩
     ·rw [List.mem_singleton.mp g,hzz] at hz'
      cases hz'
      exact absurd hw' hw
   rw [decide_eq_true (congrArg V.str hw)]
   refine DN ?_
   obtain ⟨zb,ll⟩:=z
   obtain ⟨aa,ezb⟩:∃ aa,zb=.pl "stop" aa:=by
    cases zb with
    | cp i j s=>exact absurd (show ("coupler" : Str) = "stop" from hw) (by decide +kernel)
    | pl w0 i =>
     have:w0 = "stop":=hw
     subst this
     exact ⟨i,rfl⟩
   subst ezb
   obtain ⟨A0,ts,hT1,hA0,hts⟩:∃ A0 ts,H T1=some (.tup [.str "stop",.int (aa:Nat),.ref A0])/\H A0=some (.lst ts)/\Paired (fun x y=>TupAt H (TX x) y) ll ts:=by
    obtain ⟨ex,⟨T2,e,ht⟩,hx⟩:=hyk
    cases e
    rcases hx with ⟨_,_,hn⟩ | ⟨_,A0,ts,rfl,_,hA0,hts⟩
    ·exact absurd rfl hn
    ·exact ⟨A0,ts,ht,hA0,hts⟩
   have hl4:ll.length<=4:=hlw.1
   have hlr:∀ x∈ll,x.r<pz.length:=fun x hx=>(hlw.2.1 x hx).r
   refine ⟨_,rfl,L,rfl,⟨_,s4.seq hSk3⟩,Cp (K:=K) (a:=L) (xs:=nV kl) (fun b σ H5=>Aj H3 H5/\∃ (F:Addr) (fl:List Nat),H5 F=some (.lst (nV fl))/\fl.length<=200 * a+4 * b/\(∀ n∈fl,n<1200)/\(∀ p,p∈fl ↔ (∃ k∈dl.take a,∃ z,kls[k]? = some z/\z.1.w = "stop" /\ ∃ j∈kl,Yi c sz pz z j p) \/ ∃ j∈kl.take b,Yi c sz pz (.pl "stop" aa,ll) j p)/\∃ v10,σ=[some (.ref W),some (.ref DD),some (.ref DH),some (.ref DS),some (.ref DP),some (.ref DK),some (.ref DR),some (.ref F),some (.ref L),some (.int (k:Nat)),v10])
    ⟨s4,F,fl,hF,by omega,hfb,(fun p=>by rw [hfm]; simp),_,rfl⟩ (fun b σ H5 _ h=>h.1.seq hSk3) ?_ ?_⟩
   ·rintro b y σ H5 hb5 ⟨s5,F',fl',hF',hfl',hfb',hfm',v10,rfl⟩
    rw [List.getElem?_map] at hb5
    obtain ⟨j,hj,rfl⟩:=Option.map_eq_some_iff.mp hb5
    have hjk:=List.mem_of_getElem? hj
    have hjs':j<sz.sum:=hjb j ((hkl j).mp hjk)
    obtain ⟨qd,hq⟩:∃ qd,(Ds (BZ c sz))[j]? = some qd:=⟨_,List.getElem?_eq_getElem (by rw [Dm,Bq]; exact hjs')⟩
    have s05:=s03.trans s5
    refine ⟨_,rfl,_,rfl,_,rfl,_,rfl,_,rfl,DK,us,_,_,rfl,rfl,.inl (.inl (s05 _ _ hK0)),Ai hy,_,rfl,DS,DP,T1,A0,BZ c sz,pz,aa,j,ll,ts,qd,rfl,(by rw [Bq]; exact s05 _ _ hS0),hq,s05 _ _ hP0,h4,hpz,s05 _ _ hT1,s05 _ _ hA0,Ak s05 hts,hl4,hlr,fun D9 H19 hD9 s19 hl19=>?_⟩
    have hS19:CK K H19 D9 (ll.map (Hu pz aa qd)):=.inl (.inl hl19)
    refine ⟨D9,rfl,⟨_,hS19⟩,Bx (K:=K) (xs:=ll.map (Hu pz aa qd)) (fun v=>!decide (v=V.non)) id hS19 (Az (by rw [List.length_map]; omega)) (fun y hy H' hs R k=>?_) (fun y hy _ H' hs R k=>⟨_,rfl,k H' (Aj.refl H')⟩) (fun D20 H20 hD20 s20 hl20=>?_)⟩
    ·obtain ⟨ln,_,rfl⟩:=List.mem_map.mp hy
     have kk:=k H' (Aj.refl H')
     rcases RZ pz aa qd ln with e | ⟨n,e⟩
     ·rw [e] at kk ⊢
      exact ⟨_,rfl,rfl,_,rfl,kk⟩
     ·rw [e] at kk ⊢
      exact ⟨_,rfl,rfl,_,rfl,kk⟩
    rw [List.map_id,Rf] at hl20
    have hF20:=s20 _ _ (s19 _ _ hF')
    have hfm4:=List.length_filterMap_le (KC pz aa qd) ll
    have hal:a<dl.length:=(List.getElem?_eq_some_iff.mp hk).1
    have hbl:b<kl.length:=(List.getElem?_eq_some_iff.mp hj).1
    refine ⟨F',D20,_,_,rfl,rfl,hF20,hl20,W7 (by rw [List.length_map,List.length_map]; omega),fun p5 hp5=>?_⟩
    refine ⟨s5.trans (s19.trans (s20.trans (Av hp5))),p5,fl'++ll.filterMap (KC pz aa qd),by rw [Ag,Oh],by rw [List.length_append]; omega,fun n hn=>?_,fun p=>?_,_,rfl⟩
    ·rcases List.mem_append.mp hn with g | g
     ·exact hfb' n g
     ·exact Xj h4 hpz g
    ·have tkb:kl.take (b+1)=kl.take b++[j]:=by rw [List.take_add_one,hj]; rfl
     rw [List.mem_append,hfm',tkb,or_assoc]
     refine or_congr Iff.rfl ?_
     constructor
     ·rintro (⟨j',hj',h⟩ | h)
      ·exact ⟨j',List.mem_append_left _ hj',h⟩
      ·exact ⟨j,by simp,qd,hq,h⟩
     ·rintro ⟨j',hj',h⟩
      rcases List.mem_append.mp hj' with g | g
      ·exact .inl ⟨j',g,h⟩
      ·rw [List.mem_singleton.mp g] at h
       obtain ⟨qd',hq',h'⟩:=h
       rw [hq] at hq'
       cases hq'
       exact .inr h'
   ·rintro σ H5 ⟨s5,F',fl',hF',hfl',hfb',hfm',v10,rfl⟩
    rw [List.length_map] at hfl'
    have ekt:kl.take (nV kl).length=kl:=List.take_of_length_le (by simp)
    rw [ekt] at hfm'
    refine ⟨s5,F',fl',hF',by omega,hfb',fun p=>?_,_,_,rfl⟩
    rw [hfm',tk]
    constructor
    ·rintro (⟨k',hk',h⟩ | ⟨j,hj,h⟩)
     ·exact ⟨k',List.mem_append_left _ hk',h⟩
     ·exact ⟨k,by simp,_,hzz,rfl,j,hj,h⟩
    ·rintro ⟨k',hk',z',hz',hw',h⟩
     rcases List.mem_append.mp hk' with g | g
     ·exact .inl ⟨k',g,z',hz',hw',h⟩
     ·rw [List.mem_singleton.mp g,hzz] at hz'
      cases hz'
      exact .inr h
  ·rintro σ H4 ⟨s4,F,fl,hF,hfl,hfb,hfm,v9,v10,rfl⟩
   rw [List.length_map] at hfl
   have edt:dl.take (nV dl).length=dl:=List.take_of_length_le (by simp)
   rw [edt] at hfm
   refine ⟨_,rfl,q F fl H4 (s03.trans s4) hF (by omega) hfb fun p=>?_⟩
   rw [hfm]
   constructor
   ·rintro ⟨k,hk,z,hz,hw,j,hj,h⟩
    exact ⟨k,hk,z,hz,hw,j,(hjs j).mp ((hkl j).mp hj),h⟩
   ·rintro ⟨k,hk,z,hz,hw,j,hj,h⟩
    exact ⟨k,hk,z,hz,hw,j,(hkl j).mpr ((hjs j).mpr hj),h⟩
noncomputable def PQ (K:PySem.W.Frag):Sp:=fun vs H Q _=>∃ (a:Addr) (ns:List Int),vs=[.ref a]/\CK K H a (ns.map V.int)/\ns.length<=63/\∀ H',Q (.bl true) H'
theorem U6 {l:List Nat} (h:1<=l.length) (hs:∀ s∈l,1<=s):1<=l.sum:=by
 cases l with
 | nil=>simp at h
 | cons a l =>
  have:=hs a (List.mem_cons_self ..)
  rw [List.sum_cons]
  omega
theorem YH {c:Nat->Str} {sz pz:List Nat} {wi:Nat->Int} {l:List Ln} {a m:Nat} (ha:a<sz.length) (hg:∀ ln∈l,ZZ (Gb c pz wi) ln) (hm:∀ j,m.testBit j=true->j<sz.sum) (p:Nat):(UW sz (Gb c pz wi) a l m).testBit p=true ↔ ∃ j,m.testBit j=true/\∃ qd,(Ds (BZ c sz))[j]? = some qd/\p∈l.filterMap (KC pz a qd):=by
 have e1:∀ r,Lq (Gb c pz wi) r=pz.getD r 0:=fun r=>by unfold Lq; rw [Ri]
 have e2:∀ r,VP (Gb c pz wi) r=(pz.take r).sum:=fun r=>by unfold VP; rw [List.map_take,Ri]
 rw [YX hg]
 constructor
 ·rintro ⟨ln,hl,i',h1,h2,h3,h4,h5,h6,h7⟩
  obtain ⟨⟨b,n⟩,hq⟩:∃ qd,(Ds (BZ c sz))[(sz.take a).sum+i']? = some qd:=⟨_,List.getElem?_eq_getElem (by rw [Dm,Bq]; exact hm _ h2)⟩
  have hab:b=a:=Jh (Jg hq) ⟨i',h1,ha,rfl⟩
  subst hab
  obtain ⟨b',hb',hn',hi'⟩:=JL hq
  rw [Bq] at hi'
  have hin:n=i':=by omega
  subst hin
  rw [e1] at h6
  rw [e2] at h7
  refine ⟨_,h2,_,hq,List.mem_filterMap.mpr ⟨ln,hl,?_⟩⟩
  unfold KC
  rw [if_pos ⟨rfl,h3,h4,h5,h6⟩]
  exact congrArg some (by show ((((pz.take ln.r).sum:Nat):Int)+((n:Nat):Int)+ln.sh).toNat=p; omega)
 ·rintro ⟨j,hj,⟨b,n⟩,hq,hp⟩
  obtain ⟨ln,hl,e⟩:=List.mem_filterMap.mp hp
  unfold KC at e
  split at e
  ·rename_i h
   obtain ⟨h0,h3,h4,h5,h6⟩:=h
   have h0':b=a:=h0
   subst h0'
   obtain ⟨m',hm',hbl,him⟩:=Jg hq
   obtain ⟨b',hb',hn',hi'⟩:=JL hq
   rw [Bq] at hi'
   have hmn:m'=n:=by omega
   subst hmn
   have e':((((pz.take ln.r).sum:Nat):Int)+((m':Nat):Int)+ln.sh).toNat=p:=Option.some.inj e
   refine ⟨ln,hl,m',hm',by rw [← him]; exact hj,h3,h4,h5,by rw [e1]; exact h6,?_⟩
   rw [e2]
   have h5':0<=((m':Nat):Int)+ln.sh:=h5
   omega
  ·cases e
theorem O7 {c:Nat->Str} {sz:List Nat} {kbs:List Kb} {D j:Nat} {hl:List Nat} (bitL:∀ (l:List Nat) k,(Wd.mk l).testBit k=true ↔ k∈l):Jv c sz kbs D (Wd.mk hl) j ↔ Fz (stp (BZ c sz) kbs D) (fun i=>i∈hl) j \/ (j∈hl/\∀ b,WR sz j b->¬ J4 kbs D b):=by
 unfold Jv
 exact or_congr (Fz.iff (bitL hl)) (and_congr (bitL hl j) Iff.rfl)
theorem G4:Aw ["_law_script","_law_world_here","_law_knobs_here","_law_organ","_law_one","_law_two","_law_drawn_here","_law_held_here","_law_found","_law_bare"] ["_law_script"] (Ab KJ):=⟨rfl,rfl,rfl,by decide +kernel,rfl,by decide +kernel,by decide +kernel⟩
theorem W_ {f:Addr} {fd:FuncData} (F:Cr K "law" "law" KJ f fd) (N:jY K mg C fWh fMd fNm fRo fTo fWi fPa fHp fCl fIk fSb fWm fHr fIr fCk fNu fCa fPl fLi fMy fSt fHa fMe fSh fUn fLe fDc fHk fWa fCq fMu fUk fSk fNb fLl fBs fBa fSo fCe fLw fMx fBi fNa fSz fLn fKn fKs fRw fSp fWd fDr fHd fGo fCo fSk2 fPi fSd fOi fOb fOc fOk fOo fBk fOp fOr fOq fOe fOs fOm fOz dWh dMd dNm dRo dTo dWi dPa dHp dCl dIk dSb dWm dHr dIr dCk dNu dCa dPl dLi dMy dSt dHa dMe dSh dUn dLe dDc dHk dWa dCq dMu dUk dSk dNb dLl dBs dBa dSo dCe dLw dMx dBi dNa dSz dLn dKn dKs dRw dSp dWd dDr dHd dGo dCo dSk2 dPi dSd dOi dOb dOc dOk dOo dBk dOp dOr dOq dOe dOs dOm dOz) (T:Txt K w.params mg C aN aK aB aP aM) (F0:PX K aB aP aM):Ax P w K mg base Bf 11 f fd ["_law_script"] (PQ K):=by
 have GWd:Ax P w K mg base Bf 6 fWd dWd ["_law_script"] (dR K aB aP aM):=fD N T
 have GOi:Ax P w K mg base Bf 9 fOi dOi ["self","rows"] (bY K aB aP aM C):=fV N T
 have GSo:Ax P w K mg base Bf 7 fSo dSo ["organ","knobs","held"] (fG C):=Zm N T
 have GSd:Ax P w K mg base Bf 5 fSd dSd ["_law_world_here","_law_drawn_here","_law_held_here"] cB:=eQ N T
 have GDr:Ax P w K mg base Bf 2 fDr dDr ["_law_cell","_law_count"] a_:=dC N T
 have GHd:Ax P w K mg base Bf 2 fHd dHd ["_law_cell","_law_count"] bj:=fc N T
 have GLw:Ax P w K mg base Bf 1 fLw dLw ["_law_found"] Rc:=eG N T
 have GBi:Ax P w K mg base Bf 1 fBi dBi ["_law_numbers"] bQ:=dZ N T
 refine F.ok G4 (fun vs H Q E h=>?_) (fun cdv A outer s H vs Q E hr h=>?_)
 ·obtain ⟨a,ns,rfl,_⟩:=h
  rfl
 ·obtain ⟨a,ns,rfl,hS,hlen,q⟩:=h
  have hrWd:BV 6 _:=hr.mono (by decide)
  have hrOi:BV 9 _:=hr.mono (by decide)
  have hrSo:BV 7 _:=hr.mono (by decide)
  have hrSd:BV 5 _:=hr.mono (by decide)
  have hrDr:BV 2 _:=hr.mono (by decide)
  have hrHd:BV 2 _:=hr.mono (by decide)
  have hrLw:BV 1 _:=hr.mono (by decide)
  have hrBi:BV 1 _:=hr.mono (by decide)
  refine ⟨_,(Ae (BJ (i:=1) G4.nd rfl (Or.inl rfl) (Ah GWd hrWd rfl N.FWd.2.2 N.FWd.1.kp N.FWd.2.1 .nil Am (Aa (pv 0) Ac)))
   (Ae (BJ (i:=2) G4.nd rfl (Or.inr rfl) (Ar (Bc (K:=K) rfl) (pv 1) Ad (fun _ _=>rfl)))
   (Ae (BJ (i:=3) G4.nd rfl (Or.inl rfl) (Vb N.FOi.2.2 GOi hr rfl T.mC N.FOi.2.1 .nil Am (Aa (Ar (Bc (K:=K) rfl) (pv 1) Ad (fun _ _=>rfl)) Ac)))
   (Ae (Ci PassesOwn.never rfl (U0 rfl T.zip (Aa (LK (pv 0) (Cw Ad) (Cw Ad) Ad) (Aa (LK (pv 0) (Cw Ad) (Cw Ad) Ad) Ac))) (Fx rfl (Bh (Bb (i:=4) G4.nd rfl (Or.inl rfl)) (Bh (Bb (i:=5) G4.nd rfl (Or.inl rfl)) EY))) (Ae (BJ (i:=6) G4.nd rfl (Or.inl rfl) (Ah GDr hrDr rfl N.FDr.2.2 N.FDr.1.kp N.FDr.2.1 .nil Am (Aa (pv 4) (Aa (BX Bg rfl T.len PySem.boot_len (Aa (pv 2) Ac)) Ac))))
   (Ae (BJ (i:=7) G4.nd rfl (Or.inl rfl) (Ah GHd hrHd rfl N.FHd.2.2 N.FHd.1.kp N.FHd.2.1 .nil Am (Aa (pv 5) (Aa (BX (Hv rfl) rfl T.sum PyProof.Rows.boot_sum (Aa (Ar (Bc (K:=K) rfl) (pv 1) Ad (fun _ _=>rfl)) Ac)) Ac))))
   (Ae (BJ (i:=8) G4.nd rfl (Or.inl rfl) (Ah GSo hrSo rfl N.FSo.2.2 N.FSo.1.kp N.FSo.2.1 .nil Am (Aa (pv 3) (Aa (Ah GBi hrBi rfl N.FBi.2.2 N.FBi.1.kp N.FBi.2.1 .nil Am (Aa (pv 6) Ac)) (Aa (Ah GBi hrBi rfl N.FBi.2.2 N.FBi.1.kp N.FBi.2.1 .nil Am (Aa (pv 7) Ac)) Ac)))))
   (Ae (CT (PW.pt (JB (Dz (FW (Ah GLw hrLw rfl N.FLw.2.2 N.FLw.1.kp N.FLw.2.1 .nil Am (Aa (pv 8) Ac)))) (HJ (Ba G5 (pv 8) (Ah GBi hrBi rfl N.FBi.2.2 N.FBi.1.kp N.FBi.2.1 .nil Am (Aa (Ah GSd hrSd rfl N.FSd.2.2 N.FSd.1.kp N.FSd.2.1 .nil Am (Aa (pv 1) (Aa (pv 6) (Aa (pv 7) Ac)))) Ac)) (Be _))))) (Af (A_ Iv)) Bj)
   (Ae (Gv (i:=9) G4.nd rfl rfl rfl (BW (osc:=Ab KJ) (N:=["_law_script","_law_world_here","_law_knobs_here","_law_organ","_law_one","_law_two","_law_drawn_here","_law_held_here","_law_found","_law_bare"]) rfl rfl (by decide +kernel)) (Bd (pv 6)) (fun _ _ _ _=>(Ef (Ba G5 (Ar (Al (K:=K) rfl) (Ar (Bc (K:=K) rfl) (pv 3) (pv 0) (fun _ _=>rfl)) Ad (fun _ _=>rfl)) Bs (Be _)))) (fun _ _ _ _=>(pv 0)))
   (Ae (CT (Ba G5 (Ah GSo hrSo rfl N.FSo.2.2 N.FSo.1.kp N.FSo.2.1 .nil Am (Aa (pv 3) (Aa (Ah GBi hrBi rfl N.FBi.2.2 N.FBi.1.kp N.FBi.2.1 .nil Am (Aa (pv 9) Ac)) (Aa (Ah GBi hrBi rfl N.FBi.2.2 N.FBi.1.kp N.FBi.2.1 .nil Am (Aa (pv 7) Ac)) Ac)))) Ad (Be _)) (Af (A_ Iv)) Bj)
   (Ae (CT (Ba G5 (Ah GSo hrSo rfl N.FSo.2.2 N.FSo.1.kp N.FSo.2.1 .nil Am (Aa (pv 3) (Aa (Ah GBi hrBi rfl N.FBi.2.2 N.FBi.1.kp N.FBi.2.1 .nil Am (Aa (pv 6) Ac)) (Aa Ad Ac)))) Ad (Be _)) (Af (A_ Iv)) Bj)
   (Af (CT (PW.pt (Ia (Ba Dj (Ay Br (pv 5) Ad) Ad (Be _)) (Hx (Ba G5 (Ah GSo hrSo rfl N.FSo.2.2 N.FSo.1.kp N.FSo.2.1 .nil Am (Aa (pv 3) (Aa (Ah GBi hrBi rfl N.FBi.2.2 N.FBi.1.kp N.FBi.2.1 .nil Am (Aa (pv 6) Ac)) (Aa (Ah GBi hrBi rfl N.FBi.2.2 N.FBi.1.kp N.FBi.2.1 .nil Am (Aa (pv 7) Ac)) Ac)))) (pv 8) (Be _))))) (Af (A_ Iv)) Bj))))))))))
   (Af (A_ Iv)))))),?_⟩
  refine ⟨_,rfl,a,ns,rfl,hS,hlen,F0,fun W DS DP DK DR c2 sz pz kls us rows vs9 H9 s09 hW OW=>?_⟩
  obtain ⟨l9,lp9,⟨w1,w2,w3,w4,w5,w6⟩,k9,kp9,hkls,hkl,hst,hl9,hv9,B,hrl,hs5⟩:=OW
  refine ⟨_,rfl,W,_,_,_,rfl,rfl,.inl (.inl hW),Ai (j:=2) rfl,?_⟩
  have hbl:(BZ (Ce c2) sz).length=sz.length:=Fi _ sz
  have hbz:(BZ (Ce c2) sz).map (·.2)=sz:=Bq _ sz
  have ndb:((BZ (Ce c2) sz).map (·.1)).Nodup:=by
   refine Gp fun i j x hi hj=>?_
   rw [List.getElem?_map] at hi hj
   obtain ⟨b1,hb1,e1⟩:=Option.map_eq_some_iff.mp hi
   obtain ⟨b2,hb2,e2⟩:=Option.map_eq_some_iff.mp hj
   obtain ⟨_,_,rfl⟩:=Fj hb1
   obtain ⟨_,_,rfl⟩:=Fj hb2
   exact J3 (e1.trans e2.symm)
  have ndr:((Gb (Ce c2) pz (J5 c2)).map (·.1)).Nodup:=by
   refine Gp fun i j x hi hj=>?_
   rw [List.getElem?_map] at hi hj
   obtain ⟨b1,hb1,e1⟩:=Option.map_eq_some_iff.mp hi
   obtain ⟨b2,hb2,e2⟩:=Option.map_eq_some_iff.mp hj
   obtain ⟨_,_,rfl⟩:=Fb hb1
   obtain ⟨_,_,rfl⟩:=Fb hb2
   have:=J3 (e1.trans e2.symm)
   omega
  have ndk:((CZ (Ce c2) (kls.map (·.1))).map (·.nm)).Nodup:=by
   refine Gp fun i j x hi hj=>?_
   rw [List.getElem?_map] at hi hj
   obtain ⟨b1,hb1,e1⟩:=Option.map_eq_some_iff.mp hi
   obtain ⟨b2,hb2,e2⟩:=Option.map_eq_some_iff.mp hj
   obtain ⟨_,_,rfl⟩:=Di hb1
   obtain ⟨_,_,rfl⟩:=Di hb2
   rw [PB] at e1 e2
   have:=J3 (e1.trans e2.symm)
   omega
  obtain ⟨R9,O9,eL⟩:=B.fin hv9 (by omega) (by omega) (fun b hb=>by
   obtain ⟨j,hj⟩:=List.mem_iff_getElem?.mp hb
   obtain ⟨z,hz,rfl⟩:=Fj hj
   exact (w3 z (List.mem_of_getElem? hz)).2) (by rw [Gu]; omega) (fun r hr'=>by
   obtain ⟨j,hj⟩:=List.mem_iff_getElem?.mp hr'
   obtain ⟨z,hz,rfl⟩:=Fb hj
   exact (w6 z (List.mem_of_getElem? hz)).2) (by rw [Hz,List.length_map]; omega) ndb ndr ndk hrl
  refine ⟨_,rfl,W,_,_,_,rfl,rfl,.inl (.inl hW),Ai (j:=3) rfl,?_⟩
  intro x dx nx ndx nex
  have sx:Aj H9 (upd (upd H9 dx (.own x)) x (.ins C dx [])):=fun b o e=>by
   rw [BP (BL e nx),BP (BL e ndx)]
   exact e
  refine ⟨x,dx,DR,vs9,UT H9,BZ (Ce c2) sz,Gb (Ce c2) pz (J5 c2),CZ (Ce c2) (kls.map (·.1)),rfl,Ag,sx _ _ hl9,R9.mono sx,O9,fun H10 OA SXh=>⟨rfl,?_⟩⟩
  rw [eL] at OA
  have s910:Aj H9 H10:=fun b o e=>SXh b o (sx b o e) (BL e nx)
  have s010:=s09.trans s910
  have l10:=s910 _ _ l9
  have lp10:=s910 _ _ lp9
  have k10:=s910 _ _ k9
  have W10:=s910 _ _ hW
  have kp10:Paired (fun z y=>FN DK H10 z y) kls us:=Paired.Ek kp9 fun _ _ z=>z.mono s910
  clear SXh sx nx ndx nex R9 O9 hv9 hl9 eL
  have hul:=kp10.length
  have hkbs:Nb sz.length (kls.map (·.1)):=⟨hkls.ok,hkls.room,by rw [List.length_map]; omega⟩
  have h305:=Ex OA.o
  rw [hbz] at h305
  have hsum:1<=sz.sum:=U6 (by omega) fun s hs=>(w3 s hs).1
  have hLs:gR (Gb (Ce c2) pz (J5 c2)) (kls.map (·.2)):=fun l hl=>by
   obtain ⟨z,hz,rfl⟩:=List.mem_map.mp hl
   have hlw:=hkls.ln z hz
   have hb:=Kb.Wb (hkls.ok z.1 (List.mem_map_of_mem hz))
   have hsa:sz.getD z.1.bd 0<=5:=by
    rw [List.getD_eq_getElem?_getD,List.getElem?_eq_getElem hb]
    exact hs5 _ (List.getElem_mem hb)
   refine ⟨by have:=hlw.1; omega,fun ln hln=>?_⟩
   have g:=hlw.2.1 ln hln
   have g4:=g.hi
   exact ⟨by rw [Gu]; exact g.r,g.lo,g.le,by omega,g.s1,g.s2⟩
  refine ⟨_,rfl,_,rfl,_,rfl,3,rfl,by decide,a,_,rfl,s010.seq hS,fun p13 hp13 hl13=>?_⟩
  have t13:=Av (o:=HO.lst (stepV (ns.map V.int) (some 4) (some 64) 3)) hp13
  have u13:upd H10 p13 (HO.lst (stepV (ns.map V.int) (some 4) (some 64) 3)) p13=_:=Ag
  generalize upd H10 p13 (HO.lst (stepV (ns.map V.int) (some 4) (some 64) 3))=H13 at t13 u13 ⊢
  refine ⟨_,rfl,_,rfl,_,rfl,3,rfl,by decide,a,_,rfl,(s010.trans t13).seq hS,fun p14 hp14 hl14=>?_⟩
  have t14:=Av (o:=HO.lst (stepV (ns.map V.int) (some 5) (some 65) 3)) hp14
  have u14:upd H13 p14 (HO.lst (stepV (ns.map V.int) (some 5) (some 65) 3)) p14=_:=Ag
  generalize upd H13 p14 (HO.lst (stepV (ns.map V.int) (some 5) (some 65) 3))=H15 at t14 u14 ⊢
  have int1:=IV (ns:=ns) (lo:=some 4) (hi:=some 64) (k:=3)
  have int2:=IV (ns:=ns) (lo:=some 5) (hi:=some 65) (k:=3)
  have u13':=t14 _ _ u13
  generalize stepV (ns.map V.int) (some 4) (some 64) 3=xs at u13' int1
  generalize stepV (ns.map V.int) (some 5) (some 65) 3=ys at u14 int2
  have s1015:=t13.trans t14
  have OA15:=OA.mono s1015
  have l15:=s1015 _ _ l10
  have lp15:=s1015 _ _ lp10
  have W15:=s1015 _ _ W10
  have kn15:Paired (fun z y=>FN DK H15 z y) kls us:=Paired.Ek kp10 fun _ _ z=>z.mono s1015
  have k15:=s1015 _ _ k10
  have kp15:Paired (fun (k:Kb) y=>GD H15 k y) (kls.map (·.1)) us:=Paired.Ek (Kg kp10) fun _ _ z=>GD.mono s1015 z
  have hS1:CK K H15 p13 xs:=.inl (.inl u13')
  have hS2:CK K H15 p14 ys:=.inl (.inl u14)
  refine ⟨p13,p14,rfl,⟨_,hS1⟩,⟨_,hS2⟩,S5 (K:=K) (a:=p13) (b:=p14) (xs:=xs) (ys:=ys) (fun i σ H16=>Aj H15 H16/\∃ v4 v5 v6 v7 v8 v9,σ=[some (.ref a),some (.ref W),some (.ref DK),some (.ref x),v4,v5,v6,v7,v8,v9]) ⟨Aj.refl _,_,_,_,_,_,_,rfl⟩ (fun i σ H16 _ h=>⟨h.1.seq hS1,h.1.seq hS2⟩) ?_ ?_⟩
  ·rintro i y1 y2 σ H16 T0 hy1 hy2 ⟨s16,v4,v5,v6,v7,v8,v9,rfl⟩ hT
   obtain ⟨o1,rfl⟩:=int1 _ (List.mem_of_getElem? hy1)
   obtain ⟨o2,rfl⟩:=int2 _ (List.mem_of_getElem? hy2)
   have tT:=Av (o:=HO.tup [V.int o1,V.int o2]) hT
   refine ⟨T0,_,rfl,.inl (.inl Ag),rfl,_,_,rfl,_,_,rfl,rfl,?_⟩
   generalize upd H16 T0 (HO.tup [V.int o1,V.int o2])=H17 at tT ⊢
   have s17:=s16.trans tT
   clear s16 tT hT
   refine ⟨_,rfl,_,rfl,DK,_,rfl,.inl (.inl (.inl (s17 _ _ k15))),o1,us.length,rfl,by omega,fun DD dl H18 hDD s18 hd18 hdb hdl=>?_⟩
   have s1518:=s17.trans s18
   have szi:(sz.map fun n:Nat=>V.int (n:Nat))=(sz.map fun n:Nat=>(n:Int)).map V.int:=by rw [List.map_map]; rfl
   have bnd:∀ n∈sz.map (fun n:Nat=>(n:Int)),0<=n/\n<=100000:=fun n hn=>by
    obtain ⟨m,hm,rfl⟩:=List.mem_map.mp hn
    have:=(w3 m hm).2
    omega
   have lS:∀ {H':Hp},Aj H15 H'->CK K H' DS ((sz.map fun n:Nat=>(n:Int)).map V.int):=fun s'=>by rw [← szi]; exact .inl (.inl (s' _ _ l15))
   refine ⟨_,rfl,_,rfl,W,_,_,_,rfl,rfl,.inl (.inl (s1518 _ _ W15)),Ai (j:=0) rfl,DS,_,rfl,lS s1518,bnd,by simp; omega,?_⟩
   rw [Hk]
   refine ⟨o2,sz.sum,rfl,hsum,fun DH hl H19 hDH s19 hh19 hhb hhl=>?_⟩
   have s1519:=s1518.trans s19
   have d19:=s19 _ _ hd18
   have hdb':∀ k∈dl,k<1200:=fun k hk=>by have:=hdb k hk; omega
   have hhb':∀ k∈hl,k<1200:=fun k hk=>by have:=hhb k hk; omega
   have bitL:∀ (l:List Nat) k,(Wd.mk l).testBit k=true ↔ k∈l:=fun l k=>by rw [Wd.Ig,decide_eq_true_eq]
   have hht:∀ i,(Wd.mk hl).testBit i=true->i<sz.sum:=fun i hi=>hhb i ((bitL hl i).mp hi)
   refine ⟨_,rfl,_,rfl,DD,dl,rfl,d19,by omega,hdb',_,rfl,DH,hl,rfl,hh19,by omega,hhb',x,Ce c2,sz,Gb (Ce c2) pz (J5 c2),kls.map (·.1),kls.map (·.2),Wd.mk dl,Wd.mk hl,rfl,OA15.mono s1519,hkbs,hLs,Wd.T_ hhb',hht,fun cl m H20 s20 hcl hm=>?_⟩
   have s1520:=s1519.trans s20
   have d20:=s20 _ _ d19
   have h20:=s20 _ _ hh19
   refine ⟨_,rfl,_,rfl,_,rfl,Ck ?_⟩
   refine ⟨_,rfl,_,rfl,_,rfl,_,rfl,W,DS,DP,DK,DR,DD,DH,Ce c2,sz,pz,kls,us,dl,hl,rfl,s1520 _ _ W15,s1520 _ _ l15,s1520 _ _ lp15,by omega,hs5,w5,w6,s1520 _ _ k15,(Paired.Ek kn15 fun _ _ z=>z.mono s1520),hkls,hkbs,d20,by omega,hdb,h20,by omega,hhb,fun F1 fl H21 s21 hf21 hfl hfb hfm=>?_⟩
   refine ⟨F1,fl,rfl,hf21,hfl,hfb,rfl,_,rfl,?_⟩
   have s1521:=s1520.trans s21
   have d21:=s21 _ _ d20
   have h21:=s21 _ _ h20
   have hmt:∀ {n m:Nat},(∀ i,n.testBit i=true->i<sz.sum)->∀ {D:Nat},(∀ j,m.testBit j=true ↔ Jv (Ce c2) sz (kls.map (·.1)) D n j)->∀ j,m.testBit j=true->j<sz.sum:=fun {n m} hn {D} h j hj=>by
    rcases (h j).mp hj with r | r
    ·have:=r.lt
     rw [Bq] at this
     exact this
    ·exact hn j r.1
   have bits:∀ {cl:List Nat} {D m:Nat},(∀ k,k∈cl ↔ ∃ z,(kls.map (·.1))[k]? = some z/\z.w = "stop" /\ D.testBit k=true)->(∀ j,m.testBit j=true->j<sz.sum)->∀ p,(Wv sz (Gb (Ce c2) pz (J5 c2)) (kls.map (·.1)) (kls.map (·.2)) cl m).testBit p=true ↔ ∃ k z,D.testBit k=true/\kls[k]? = some z/\z.1.w = "stop" /\ ∃ j,m.testBit j=true/\Yi (Ce c2) sz pz z j p:=fun {cl D m} hc hmt p=>by
    rw [W5]
    have key:∀ {k:Nat} {z:Kl},kls[k]? = some z->((UW sz (Gb (Ce c2) pz (J5 c2)) (F_ (kls.map (·.1)) k) ((kls.map (·.2)).getD k []) m).testBit p=true ↔ ∃ j,m.testBit j=true/\Yi (Ce c2) sz pz z j p):=fun {k z} hz=>by
     have h1:(kls.map (·.1))[k]? = some z.1:=by rw [List.getElem?_map,hz]; rfl
     have h2:(kls.map (·.2)).getD k []=z.2:=by rw [List.getD_eq_getElem?_getD,List.getElem?_map,hz]; rfl
     have h3:F_ (kls.map (·.1)) k=z.1.bd:=by unfold F_; rw [h1]; cases z.1 <;> rfl
     rw [h2,h3]
     exact YH (Kb.Wb (hkls.ok _ (List.mem_of_getElem? h1))) (hLs _ (List.mem_of_getElem? (by rw [List.getElem?_map,hz]; rfl))).2 hmt p
    constructor
    ·rintro ⟨k,hk,hb⟩
     obtain ⟨z,hz,hw,hd⟩:=(hc k).mp hk
     rw [List.getElem?_map] at hz
     obtain ⟨z',hz',rfl⟩:=Option.map_eq_some_iff.mp hz
     exact ⟨k,z',hd,hz',hw,(key hz').mp hb⟩
    ·rintro ⟨k,z,hd,hz,hw,h⟩
     exact ⟨k,(hc k).mpr ⟨z.1,by rw [List.getElem?_map,hz]; rfl,hw,hd⟩,(key hz).mpr h⟩
   refine KY ?_ ?_
   ·refine congrArg (fun z:Nat=>V.int (z:Int)) (Gw fun p=>?_)
    rw [bits hcl (hmt hht hm),bitL fl,hfm]
    constructor
    ·rintro ⟨k,z,hd,hz,hw,j,hj,hb⟩
     exact ⟨k,(bitL dl k).mp hd,z,hz,hw,j,(O7 bitL).mp ((hm j).mp hj),hb⟩
    ·rintro ⟨k,hd,z,hz,hw,j,hj,hb⟩
     exact ⟨k,z,(bitL dl k).mpr hd,hz,hw,j,(hm j).mpr ((O7 bitL).mpr hj),hb⟩
   have hSd:CK K H21 DD (nV dl):=.inl (.inl d21)
   let pb:V->Bool:=fun v=>match v with | .int k=>(match kls[k.toNat]? with | some z=>!decide (V.str z.1.w=V.str "stop") | none=>false) | _=>false
   refine ⟨_,rfl,DD,rfl,⟨_,hSd⟩,Bx (K:=K) (xs:=nV dl) pb id hSd (Az (by rw [List.length_map]; omega)) (fun v hv H' hs R k=>?_) (fun v hv _ H' hs R k=>⟨_,rfl,k H' (Aj.refl H')⟩) (fun DB H22 hDB s22 hb22=>?_)⟩
   ·obtain ⟨kk,hkk,rfl⟩:=List.mem_map.mp hv
    have hik:kk<kls.length:=by have:=hdb kk hkk; omega
    obtain ⟨y,hy,hyk⟩:=Bw kn15 (List.getElem?_eq_getElem hik)
    obtain ⟨T1,r1,rfl,ht1⟩:=(hyk.mono (s1521.trans hs)).w0
    have q1:=k H' (Aj.refl H')
    have e0:pb (V.int (kk:Nat)) = !decide (V.str (kls[kk]).1.w=V.str "stop"):=by
     show (match kls[((kk:Nat):Int).toNat]? with | some z=>!decide (V.str z.1.w=V.str "stop") | none=>false)=_
     rw [Int.toNat_natCast,List.getElem?_eq_getElem hik]
    rw [e0] at q1
    exact ⟨_,rfl,_,rfl,DK,us,_,_,rfl,rfl,.inl (.inl (hs _ _ (s1521 _ _ k15))),Ai hy,T1,_,_,_,rfl,rfl,.inl (.inl ht1),Ai (j:=0) rfl,rfl,_,rfl,q1⟩
   rw [List.map_id] at hb22
   have eb:(nV dl).filter pb=nV (dl.filter fun i=>pb (.int (i:Nat))):=by
    unfold nV
    rw [List.filter_map]
    rfl
   rw [eb] at hb22
   have hbf:=List.length_filter_le (fun i:Nat=>pb (.int (i:Nat))) dl
   have hbb:∀ k∈dl.filter (fun i=>pb (.int (i:Nat))),k<1200:=fun k hk=>hdb' k (List.mem_filter.mp hk).1
   have hbs:∀ k∈dl.filter (fun i=>pb (.int (i:Nat))),∀ z,kls[k]? = some z->¬ z.1.w = "stop":=fun k hk z hz hw=>by
    have h2:(match kls[((k:Nat):Int).toNat]? with | some z=>!decide (V.str z.1.w=V.str "stop") | none=>false)=true:=(List.mem_filter.mp hk).2
    rw [Int.toNat_natCast,hz] at h2
    have h3:(!decide (V.str z.1.w=V.str "stop"))=true:=h2
    rw [decide_eq_true (congrArg V.str hw)] at h3
    cases h3
   generalize dl.filter (fun i=>pb (.int (i:Nat)))=bl at hb22 hbf hbb hbs
   have s1522:=s1521.trans s22
   refine ⟨_,rfl,_,rfl,DB,bl,rfl,hb22,by omega,hbb,_,rfl,DH,hl,rfl,s22 _ _ h21,by omega,hhb',x,Ce c2,sz,Gb (Ce c2) pz (J5 c2),kls.map (·.1),kls.map (·.2),Wd.mk bl,Wd.mk hl,rfl,OA15.mono s1522,hkbs,hLs,Wd.T_ hhb',hht,fun cl2 m2 H23 s23 hcl2 hm2=>?_⟩
   refine ⟨rfl,_,rfl,?_⟩
   have s1523:=s1522.trans s23
   refine KY ?_ ?_
   ·have z0:Wv sz (Gb (Ce c2) pz (J5 c2)) (kls.map (·.1)) (kls.map (·.2)) cl2 m2=0:=Gw fun p=>by
     rw [bits hcl2 (hmt hht hm2),Nat.zero_testBit]
     refine ⟨?_,fun z=>by cases z⟩
     rintro ⟨k,z,hd,hz,hw,_⟩
     exact absurd hw (hbs k ((bitL bl k).mp hd) z hz)
    rw [z0]
    rfl
   have d23:=s23 _ _ (s22 _ _ d21)
   refine ⟨_,rfl,_,rfl,DD,dl,rfl,d23,by omega,hdb',x,Ce c2,sz,Gb (Ce c2) pz (J5 c2),kls.map (·.1),kls.map (·.2),Wd.mk dl,0,rfl,OA15.mono s1523,hkbs,hLs,Nat.two_pow_pos _,(fun i hi=>by rw [Nat.zero_testBit] at hi; cases hi),fun cl3 m3 H24 s24 hcl3 hm3=>?_⟩
   refine ⟨rfl,_,rfl,?_⟩
   have s1524:=s1523.trans s24
   refine KY ?_ ?_
   ·have z0:Wv sz (Gb (Ce c2) pz (J5 c2)) (kls.map (·.1)) (kls.map (·.2)) cl3 m3=0:=Gw fun p=>by
     rw [bits hcl3 (hmt (fun i hi=>by rw [Nat.zero_testBit] at hi; cases hi) hm3),Nat.zero_testBit]
     refine ⟨?_,fun z=>by cases z⟩
     rintro ⟨k,z,hd,hz,hw,j,hj,_⟩
     exfalso
     rcases (hm3 j).mp hj with r | r
     ·exact absurd r (Fz.none fun i hi=>by rw [Nat.zero_testBit] at hi; cases hi)
     ·have:=r.1
      rw [Nat.zero_testBit] at this
      cases this
    rw [z0]
    rfl
   refine ⟨_,rfl,_,_,rfl,rfl,(by show (0:Int)<4; decide),rfl,_,rfl,?_⟩
   refine Df (fun g=>?_) (fun g=>?_)
   ·have d24:=s24 _ _ d23
    have h24:=s24 _ _ (s23 _ _ (s22 _ _ h21))
    refine ⟨_,rfl,_,rfl,DD,dl,rfl,d24,by omega,hdb',_,rfl,DH,hl,rfl,h24,by omega,hhb',x,Ce c2,sz,Gb (Ce c2) pz (J5 c2),kls.map (·.1),kls.map (·.2),Wd.mk dl,Wd.mk hl,rfl,OA15.mono s1524,hkbs,hLs,Wd.T_ hhb',hht,fun cl4 m4 H25 s25 hcl4 hm4=>?_⟩
    refine ⟨_,rfl,rfl,_,rfl,?_⟩
    refine KY ?_ ?_
    ·refine congrArg (fun z:Nat=>V.int (z:Int)) (Gw fun p=>?_)
     rw [bits hcl4 (hmt hht hm4),bits hcl (hmt hht hm)]
     have e4:m4=m:=Gw fun j=>by rw [hm4,hm]
     rw [e4]
    ·exact ⟨s1524.trans s25,_,_,_,_,_,_,rfl⟩
   ·exact Ck ⟨s1524,_,_,_,_,_,_,rfl⟩
  ·rintro i σ H16 ⟨s16,v4,v5,v6,v7,v8,v9,rfl⟩
   exact q H16
end
end K22
end PartK22a
section PartK22z
set_option maxHeartbeats 4000000
theorem UL1 {α:Type} {us:List α} (h:us.length=1):∃ a,us=[a]:=match us,h with | [a],_=>⟨a,rfl⟩
theorem UL2 {α:Type} {us:List α} (h:us.length=2):∃ a b,us=[a,b]:=match us,h with | [a,b],_=>⟨a,b,rfl⟩
theorem UL3 {α:Type} {us:List α} (h:us.length=3):∃ a b c,us=[a,b,c]:=match us,h with | [a,b,c],_=>⟨a,b,c,rfl⟩
theorem UL4 {α:Type} {us:List α} (h:us.length=4):∃ a b c d,us=[a,b,c,d]:=match us,h with | [a,b,c,d],_=>⟨a,b,c,d,rfl⟩
theorem UL5 {α:Type} {us:List α} (h:us.length=5):∃ a b c d e,us=[a,b,c,d,e]:=match us,h with | [a,b,c,d,e],_=>⟨a,b,c,d,e,rfl⟩
namespace K22
open PySem L2 Og
theorem YG {l:PySem.W.OpenLaw} {w:World} {K:PySem.W.Frag} {h:Heap} {mg:Str->Option Value} {fa:Addr} (X:K.In h) (G:h.Ns mainGlobals mg) (hfa:mg "law" = some (.ref fa))
  {C aN aK aB aP aM p1 p2 p3 p4 p5 p6 b1 b2 b3 b4 b5 b6 b7 fWh fMd fNm fRo fTo fWi fPa fHp fCl fIk fSb fWm fHr fIr fCk fNu fCa fPl fLi fMy fSt fHa fMe fSh fUn fLe fDc fHk fWa fCq fMu fUk fSk fNb fLl fBs fBa fSo fCe fLw fMx fBi fNa fSz fLn fKn fKs fRw fSp fWd fDr fHd fGo fCo fSk2 fPi fSd fOi fOb fOc fOk fOo fBk fOp fOr fOq fOe fOs fOm fOz fZ:Addr} {odWh anWh odMd anMd odNm anNm odRo anRo odTo anTo odWi anWi odPa anPa odHp anHp odCl anCl odIk anIk odSb anSb odWm anWm odHr anHr odIr anIr odCk anCk odNu anNu odCa anCa odPl anPl odLi anLi odMy anMy odSt anSt odHa anHa odMe anMe odSh anSh odUn anUn odLe anLe odDc anDc odHk anHk odWa anWa odCq anCq odMu anMu odUk anUk odSk anSk odNb anNb odLl anLl odBs anBs odBa anBa odSo anSo odCe anCe odLw anLw odMx anMx odBi anBi odNa anNa odSz anSz odLn anLn odKn anKn odKs anKs odRw anRw odSp anSp odWd anWd odDr anDr odHd anHd odGo anGo odCo anCo odSk2 anSk2 odPi anPi odSd anSd odOi anOi odOb anOb odOc anOc odOk anOk odOo anOo odBk anBk odOp anOp odOr anOr odOq anOq odOe anOe odOs anOs odOm anOm odOz anOz odZ anZ:Option Addr} {slWh slMd slNm slRo slTo slWi slPa slHp slCl slIk slSb slWm slHr slIr slCk slNu slCa slPl slLi slMy slSt slHa slMe slSh slUn slLe slDc slHk slWa slCq slMu slUk slSk slNb slLl slBs slBa slSo slCe slLw slMx slBi slNa slSz slLn slKn slKs slRw slSp slWd slDr slHd slGo slCo slSk2 slPi slSd slOi slOb slOc slOk slOo slBk slOp slOr slOq slOe slOs slOm slOz slZ:Array (Option Value)} {ocWh kVWh dcWh pmWh cdWh ctWh ocMd kVMd dcMd pmMd cdMd ctMd ocNm kVNm dcNm pmNm cdNm ctNm ocRo kVRo dcRo pmRo cdRo ctRo ocTo kVTo dcTo pmTo cdTo ctTo ocWi kVWi dcWi pmWi cdWi ctWi ocPa kVPa dcPa pmPa cdPa ctPa ocHp kVHp dcHp pmHp cdHp ctHp ocCl kVCl dcCl pmCl cdCl ctCl ocIk kVIk dcIk pmIk cdIk ctIk ocSb kVSb dcSb pmSb cdSb ctSb ocWm kVWm dcWm pmWm cdWm ctWm ocHr kVHr dcHr pmHr cdHr ctHr ocIr kVIr dcIr pmIr cdIr ctIr ocCk kVCk dcCk pmCk cdCk ctCk ocNu kVNu dcNu pmNu cdNu ctNu ocCa kVCa dcCa pmCa cdCa ctCa ocPl kVPl dcPl pmPl cdPl ctPl ocLi kVLi dcLi pmLi cdLi ctLi ocMy kVMy dcMy pmMy cdMy ctMy ocSt kVSt dcSt pmSt cdSt ctSt ocHa kVHa dcHa pmHa cdHa ctHa ocMe kVMe dcMe pmMe cdMe ctMe ocSh kVSh dcSh pmSh cdSh ctSh ocUn kVUn dcUn pmUn cdUn ctUn ocLe kVLe dcLe pmLe cdLe ctLe ocDc kVDc dcDc pmDc cdDc ctDc ocHk kVHk dcHk pmHk cdHk ctHk ocWa kVWa dcWa pmWa cdWa ctWa ocCq kVCq dcCq pmCq cdCq ctCq ocMu kVMu dcMu pmMu cdMu ctMu ocUk kVUk dcUk pmUk cdUk ctUk ocSk kVSk dcSk pmSk cdSk ctSk ocNb kVNb dcNb pmNb cdNb ctNb ocLl kVLl dcLl pmLl cdLl ctLl ocBs kVBs dcBs pmBs cdBs ctBs ocBa kVBa dcBa pmBa cdBa ctBa ocSo kVSo dcSo pmSo cdSo ctSo ocCe kVCe dcCe pmCe cdCe ctCe ocLw kVLw dcLw pmLw cdLw ctLw ocMx kVMx dcMx pmMx cdMx ctMx ocBi kVBi dcBi pmBi cdBi ctBi ocNa kVNa dcNa pmNa cdNa ctNa ocSz kVSz dcSz pmSz cdSz ctSz ocLn kVLn dcLn pmLn cdLn ctLn ocKn kVKn dcKn pmKn cdKn ctKn ocKs kVKs dcKs pmKs cdKs ctKs ocRw kVRw dcRw pmRw cdRw ctRw ocSp kVSp dcSp pmSp cdSp ctSp ocWd kVWd dcWd pmWd cdWd ctWd ocDr kVDr dcDr pmDr cdDr ctDr ocHd kVHd dcHd pmHd cdHd ctHd ocGo kVGo dcGo pmGo cdGo ctGo ocCo kVCo dcCo pmCo cdCo ctCo ocSk2 kVSk2 dcSk2 pmSk2 cdSk2 ctSk2 ocPi kVPi dcPi pmPi cdPi ctPi ocSd kVSd dcSd pmSd cdSd ctSd ocOi kVOi dcOi pmOi cdOi ctOi ocOb kVOb dcOb pmOb cdOb ctOb ocOc kVOc dcOc pmOc cdOc ctOc ocOk kVOk dcOk pmOk cdOk ctOk ocOo kVOo dcOo pmOo cdOo ctOo ocBk kVBk dcBk pmBk cdBk ctBk ocOp kVOp dcOp pmOp cdOp ctOp ocOr kVOr dcOr pmOr cdOr ctOr ocOq kVOq dcOq pmOq cdOq ctOq ocOe kVOe dcOe pmOe cdOe ctOe ocOs kVOs dcOs pmOs cdOs ctOs ocOm kVOm dcOm pmOm cdOm ctOm ocOz kVOz dcOz pmOz cdOz ctOz ocZ kVZ dcZ pmZ cdZ ctZ:Value}
  {tLET tML tMR tMLn tMB tm1 tm2 tm3 tm4 tm5 ttN_0 ttN_1 ttN_2 ttN_3 ttN_4 ttK_0 ttK_1 ttK_2 ttp1_0 ttp1_1 ttp2_0 ttp2_1 ttp3_0 ttp3_1 ttp4_0 ttp4_1 ttp4_2 ttp4_3 ttp5_0 ttp5_1 ttp5_2 ttp6_0 ttp6_1 ttp6_2 ttp6_3 ttb1_0 ttb1_1 ttb2_0 ttb2_1 ttb3_0 ttb3_1 ttb4_0 ttb4_1 ttb5_0 ttb5_1 ttb6_0 ttb6_1 ttb7_0 ttb7_1:Tok} {od_N od_K od_p1 od_p2 od_p3 od_p4 od_p5 od_p6 od_b1 od_b2 od_b3 od_b4 od_b5 od_b6 od_b7:Option Addr} {sl_N sl_K sl_p1 sl_p2 sl_p3 sl_p4 sl_p5 sl_p6 sl_b1 sl_b2 sl_b3 sl_b4 sl_b5 sl_b6 sl_b7:Array (Option Value)} {n_N n_K n_p1 n_p2 n_p3 n_p4 n_p5 n_p6 n_b1 n_b2 n_b3 n_b4 n_b5 n_b6 n_b7 nB nP nM:Nat} {eB eP eM:Array DictEntry}
  (aWh:PySem.W.nsIn K mainGlobals "is_whole" = some (some (.ref fWh)))
  (lWh:K.lookup fWh=some ⟨ocWh,odWh,.func (PySem.W.fnOf "is_whole" "is_whole" (Aq ZM) (An ZM) (Ab ZM) .none kVWh dcWh pmWh anWh cdWh ctWh),slWh⟩) (cWh:PySem.W.codeIn K cdWh "is_whole" = true) (kWh:PySem.W.keepIn K (.ref fWh)=true)
  (aMd:PySem.W.nsIn K mainGlobals "is_made_of" = some (some (.ref fMd)))
  (lMd:K.lookup fMd=some ⟨ocMd,odMd,.func (PySem.W.fnOf "is_made_of" "is_made_of" (Aq X7) (An X7) (Ab X7) .none kVMd dcMd pmMd anMd cdMd ctMd),slMd⟩) (cMd:PySem.W.codeIn K cdMd "is_made_of" = true) (kMd:PySem.W.keepIn K (.ref fMd)=true)
  (aNm:PySem.W.nsIn K mainGlobals "is_name" = some (some (.ref fNm)))
  (lNm:K.lookup fNm=some ⟨ocNm,odNm,.func (PySem.W.fnOf "is_name" "is_name" (Aq Y6) (An Y6) (Ab Y6) .none kVNm dcNm pmNm anNm cdNm ctNm),slNm⟩) (cNm:PySem.W.codeIn K cdNm "is_name" = true) (kNm:PySem.W.keepIn K (.ref fNm)=true)
  (aRo:PySem.W.nsIn K mainGlobals "rows_of" = some (some (.ref fRo)))
  (lRo:K.lookup fRo=some ⟨ocRo,odRo,.func (PySem.W.fnOf "rows_of" "rows_of" (Aq YZ) (An YZ) (Ab YZ) .none kVRo dcRo pmRo anRo cdRo ctRo),slRo⟩) (cRo:PySem.W.codeIn K cdRo "rows_of" = true) (kRo:PySem.W.keepIn K (.ref fRo)=true)
  (aTo:PySem.W.nsIn K mainGlobals "is_told" = some (some (.ref fTo)))
  (lTo:K.lookup fTo=some ⟨ocTo,odTo,.func (PySem.W.fnOf "is_told" "is_told" (Aq YB) (An YB) (Ab YB) .none kVTo dcTo pmTo anTo cdTo ctTo),slTo⟩) (cTo:PySem.W.codeIn K cdTo "is_told" = true) (kTo:PySem.W.keepIn K (.ref fTo)=true)
  (aWi:PySem.W.nsIn K mainGlobals "is_within" = some (some (.ref fWi)))
  (lWi:K.lookup fWi=some ⟨ocWi,odWi,.func (PySem.W.fnOf "is_within" "is_within" (Aq Yj) (An Yj) (Ab Yj) .none kVWi dcWi pmWi anWi cdWi ctWi),slWi⟩) (cWi:PySem.W.codeIn K cdWi "is_within" = true) (kWi:PySem.W.keepIn K (.ref fWi)=true)
  (aPa:PySem.W.nsIn K mainGlobals "is_part" = some (some (.ref fPa)))
  (lPa:K.lookup fPa=some ⟨ocPa,odPa,.func (PySem.W.fnOf "is_part" "is_part" (Aq W8) (An W8) (Ab W8) .none kVPa dcPa pmPa anPa cdPa ctPa),slPa⟩) (cPa:PySem.W.codeIn K cdPa "is_part" = true) (kPa:PySem.W.keepIn K (.ref fPa)=true)
  (aHp:PySem.W.nsIn K mainGlobals "has_parts" = some (some (.ref fHp)))
  (lHp:K.lookup fHp=some ⟨ocHp,odHp,.func (PySem.W.fnOf "has_parts" "has_parts" (Aq Wq) (An Wq) (Ab Wq) .none kVHp dcHp pmHp anHp cdHp ctHp),slHp⟩) (cHp:PySem.W.codeIn K cdHp "has_parts" = true) (kHp:PySem.W.keepIn K (.ref fHp)=true)
  (aCl:PySem.W.nsIn K mainGlobals "count_of_last_lines" = some (some (.ref fCl)))
  (lCl:K.lookup fCl=some ⟨ocCl,odCl,.func (PySem.W.fnOf "count_of_last_lines" "count_of_last_lines" (Aq Y4) (An Y4) (Ab Y4) .none kVCl dcCl pmCl anCl cdCl ctCl),slCl⟩) (cCl:PySem.W.codeIn K cdCl "count_of_last_lines" = true) (kCl:PySem.W.keepIn K (.ref fCl)=true)
  (aIk:PySem.W.nsIn K mainGlobals "is_key_of" = some (some (.ref fIk)))
  (lIk:K.lookup fIk=some ⟨ocIk,odIk,.func (PySem.W.fnOf "is_key_of" "is_key_of" (Aq Xf) (An Xf) (Ab Xf) .none kVIk dcIk pmIk anIk cdIk ctIk),slIk⟩) (cIk:PySem.W.codeIn K cdIk "is_key_of" = true) (kIk:PySem.W.keepIn K (.ref fIk)=true)
  (aSb:PySem.W.nsIn K mainGlobals "stands_behind_stop" = some (some (.ref fSb)))
  (lSb:K.lookup fSb=some ⟨ocSb,odSb,.func (PySem.W.fnOf "stands_behind_stop" "stands_behind_stop" (Aq ZJ) (An ZJ) (Ab ZJ) .none kVSb dcSb pmSb anSb cdSb ctSb),slSb⟩) (cSb:PySem.W.codeIn K cdSb "stands_behind_stop" = true) (kSb:PySem.W.keepIn K (.ref fSb)=true)
  (aWm:PySem.W.nsIn K mainGlobals "is_well_made" = some (some (.ref fWm)))
  (lWm:K.lookup fWm=some ⟨ocWm,odWm,.func (PySem.W.fnOf "is_well_made" "is_well_made" (Aq Yt) (An Yt) (Ab Yt) .none kVWm dcWm pmWm anWm cdWm ctWm),slWm⟩) (cWm:PySem.W.codeIn K cdWm "is_well_made" = true) (kWm:PySem.W.keepIn K (.ref fWm)=true)
  (aHr:PySem.W.nsIn K mainGlobals "has_room" = some (some (.ref fHr)))
  (lHr:K.lookup fHr=some ⟨ocHr,odHr,.func (PySem.W.fnOf "has_room" "has_room" (Aq Yl) (An Yl) (Ab Yl) .none kVHr dcHr pmHr anHr cdHr ctHr),slHr⟩) (cHr:PySem.W.codeIn K cdHr "has_room" = true) (kHr:PySem.W.keepIn K (.ref fHr)=true)
  (aIr:PySem.W.nsIn K mainGlobals "is_row" = some (some (.ref fIr)))
  (lIr:K.lookup fIr=some ⟨ocIr,odIr,.func (PySem.W.fnOf "is_row" "is_row" (Aq Za) (An Za) (Ab Za) .none kVIr dcIr pmIr anIr cdIr ctIr),slIr⟩) (cIr:PySem.W.codeIn K cdIr "is_row" = true) (kIr:PySem.W.keepIn K (.ref fIr)=true)
  (aCk:PySem.W.nsIn K mainGlobals "check_rows" = some (some (.ref fCk)))
  (lCk:K.lookup fCk=some ⟨ocCk,odCk,.func (PySem.W.fnOf "check_rows" "check_rows" (Aq Yg) (An Yg) (Ab Yg) .none kVCk dcCk pmCk anCk cdCk ctCk),slCk⟩) (cCk:PySem.W.codeIn K cdCk "check_rows" = true) (kCk:PySem.W.keepIn K (.ref fCk)=true)
  (aNu:PySem.W.nsIn K mainGlobals "numbers_of" = some (some (.ref fNu)))
  (lNu:K.lookup fNu=some ⟨ocNu,odNu,.func (PySem.W.fnOf "numbers_of" "numbers_of" (Aq Yz) (An Yz) (Ab Yz) .none kVNu dcNu pmNu anNu cdNu ctNu),slNu⟩) (cNu:PySem.W.codeIn K cdNu "numbers_of" = true) (kNu:PySem.W.keepIn K (.ref fNu)=true)
  (aCa:PySem.W.nsIn K mainGlobals "count_in_all" = some (some (.ref fCa)))
  (lCa:K.lookup fCa=some ⟨ocCa,odCa,.func (PySem.W.fnOf "count_in_all" "count_in_all" (Aq Wm) (An Wm) (Ab Wm) .none kVCa dcCa pmCa anCa cdCa ctCa),slCa⟩) (cCa:PySem.W.codeIn K cdCa "count_in_all" = true) (kCa:PySem.W.keepIn K (.ref fCa)=true)
  (aPl:PySem.W.nsIn K mainGlobals "places_of" = some (some (.ref fPl)))
  (lPl:K.lookup fPl=some ⟨ocPl,odPl,.func (PySem.W.fnOf "places_of" "places_of" (Aq Xp) (An Xp) (Ab Xp) .none kVPl dcPl pmPl anPl cdPl ctPl),slPl⟩) (cPl:PySem.W.codeIn K cdPl "places_of" = true) (kPl:PySem.W.keepIn K (.ref fPl)=true)
  (aLi:PySem.W.nsIn K mainGlobals "lines_by_knob" = some (some (.ref fLi)))
  (lLi:K.lookup fLi=some ⟨ocLi,odLi,.func (PySem.W.fnOf "lines_by_knob" "lines_by_knob" (Aq ZD) (An ZD) (Ab ZD) .none kVLi dcLi pmLi anLi cdLi ctLi),slLi⟩) (cLi:PySem.W.codeIn K cdLi "lines_by_knob" = true) (kLi:PySem.W.keepIn K (.ref fLi)=true)
  (aMy:PySem.W.nsIn K mainGlobals "may_be_member" = some (some (.ref fMy)))
  (lMy:K.lookup fMy=some ⟨ocMy,odMy,.func (PySem.W.fnOf "may_be_member" "may_be_member" (Aq Zf) (An Zf) (Ab Zf) .none kVMy dcMy pmMy anMy cdMy ctMy),slMy⟩) (cMy:PySem.W.codeIn K cdMy "may_be_member" = true) (kMy:PySem.W.keepIn K (.ref fMy)=true)
  (aSt:PySem.W.nsIn K mainGlobals "set_of" = some (some (.ref fSt)))
  (lSt:K.lookup fSt=some ⟨ocSt,odSt,.func (PySem.W.fnOf "set_of" "set_of" (Aq Xm) (An Xm) (Ab Xm) .none kVSt dcSt pmSt anSt cdSt ctSt),slSt⟩) (cSt:PySem.W.codeIn K cdSt "set_of" = true) (kSt:PySem.W.keepIn K (.ref fSt)=true)
  (aHa:PySem.W.nsIn K mainGlobals "has_member" = some (some (.ref fHa)))
  (lHa:K.lookup fHa=some ⟨ocHa,odHa,.func (PySem.W.fnOf "has_member" "has_member" (Aq Ze) (An Ze) (Ab Ze) .none kVHa dcHa pmHa anHa cdHa ctHa),slHa⟩) (cHa:PySem.W.codeIn K cdHa "has_member" = true) (kHa:PySem.W.keepIn K (.ref fHa)=true)
  (aMe:PySem.W.nsIn K mainGlobals "members_of" = some (some (.ref fMe)))
  (lMe:K.lookup fMe=some ⟨ocMe,odMe,.func (PySem.W.fnOf "members_of" "members_of" (Aq XH) (An XH) (Ab XH) .none kVMe dcMe pmMe anMe cdMe ctMe),slMe⟩) (cMe:PySem.W.codeIn K cdMe "members_of" = true) (kMe:PySem.W.keepIn K (.ref fMe)=true)
  (aSh:PySem.W.nsIn K mainGlobals "shifted" = some (some (.ref fSh)))
  (lSh:K.lookup fSh=some ⟨ocSh,odSh,.func (PySem.W.fnOf "shifted" "shifted" (Aq Yn) (An Yn) (Ab Yn) .none kVSh dcSh pmSh anSh cdSh ctSh),slSh⟩) (cSh:PySem.W.codeIn K cdSh "shifted" = true) (kSh:PySem.W.keepIn K (.ref fSh)=true)
  (aUn:PySem.W.nsIn K mainGlobals "union_of" = some (some (.ref fUn)))
  (lUn:K.lookup fUn=some ⟨ocUn,odUn,.func (PySem.W.fnOf "union_of" "union_of" (Aq ZL) (An ZL) (Ab ZL) .none kVUn dcUn pmUn anUn cdUn ctUn),slUn⟩) (cUn:PySem.W.codeIn K cdUn "union_of" = true) (kUn:PySem.W.keepIn K (.ref fUn)=true)
  (aLe:PySem.W.nsIn K mainGlobals "led_to" = some (some (.ref fLe)))
  (lLe:K.lookup fLe=some ⟨ocLe,odLe,.func (PySem.W.fnOf "led_to" "led_to" (Aq Yo) (An Yo) (Ab Yo) .none kVLe dcLe pmLe anLe cdLe ctLe),slLe⟩) (cLe:PySem.W.codeIn K cdLe "led_to" = true) (kLe:PySem.W.keepIn K (.ref fLe)=true)
  (aDc:PySem.W.nsIn K mainGlobals "drawn_of" = some (some (.ref fDc)))
  (lDc:K.lookup fDc=some ⟨ocDc,odDc,.func (PySem.W.fnOf "drawn_of" "drawn_of" (Aq WW) (An WW) (Ab WW) .none kVDc dcDc pmDc anDc cdDc ctDc),slDc⟩) (cDc:PySem.W.codeIn K cdDc "drawn_of" = true) (kDc:PySem.W.keepIn K (.ref fDc)=true)
  (aHk:PySem.W.nsIn K mainGlobals "held_keys" = some (some (.ref fHk)))
  (lHk:K.lookup fHk=some ⟨ocHk,odHk,.func (PySem.W.fnOf "held_keys" "held_keys" (Aq Yu) (An Yu) (Ab Yu) .none kVHk dcHk pmHk anHk cdHk ctHk),slHk⟩) (cHk:PySem.W.codeIn K cdHk "held_keys" = true) (kHk:PySem.W.keepIn K (.ref fHk)=true)
  (aWa:PySem.W.nsIn K mainGlobals "coupled_ways" = some (some (.ref fWa)))
  (lWa:K.lookup fWa=some ⟨ocWa,odWa,.func (PySem.W.fnOf "coupled_ways" "coupled_ways" (Aq ZK) (An ZK) (Ab ZK) .none kVWa dcWa pmWa anWa cdWa ctWa),slWa⟩) (cWa:PySem.W.codeIn K cdWa "coupled_ways" = true) (kWa:PySem.W.keepIn K (.ref fWa)=true)
  (aCq:PySem.W.nsIn K mainGlobals "coupled_keys" = some (some (.ref fCq)))
  (lCq:K.lookup fCq=some ⟨ocCq,odCq,.func (PySem.W.fnOf "coupled_keys" "coupled_keys" (Aq Yw) (An Yw) (Ab Yw) .none kVCq dcCq pmCq anCq cdCq ctCq),slCq⟩) (cCq:PySem.W.codeIn K cdCq "coupled_keys" = true) (kCq:PySem.W.keepIn K (.ref fCq)=true)
  (aMu:PySem.W.nsIn K mainGlobals "muted_boards" = some (some (.ref fMu)))
  (lMu:K.lookup fMu=some ⟨ocMu,odMu,.func (PySem.W.fnOf "muted_boards" "muted_boards" (Aq Wz) (An Wz) (Ab Wz) .none kVMu dcMu pmMu anMu cdMu ctMu),slMu⟩) (cMu:PySem.W.codeIn K cdMu "muted_boards" = true) (kMu:PySem.W.keepIn K (.ref fMu)=true)
  (aUk:PySem.W.nsIn K mainGlobals "unmuted_keys" = some (some (.ref fUk)))
  (lUk:K.lookup fUk=some ⟨ocUk,odUk,.func (PySem.W.fnOf "unmuted_keys" "unmuted_keys" (Aq Wu) (An Wu) (Ab Wu) .none kVUk dcUk pmUk anUk cdUk ctUk),slUk⟩) (cUk:PySem.W.codeIn K cdUk "unmuted_keys" = true) (kUk:PySem.W.keepIn K (.ref fUk)=true)
  (aSk:PySem.W.nsIn K mainGlobals "speaking_keys" = some (some (.ref fSk)))
  (lSk:K.lookup fSk=some ⟨ocSk,odSk,.func (PySem.W.fnOf "speaking_keys" "speaking_keys" (Aq Yr) (An Yr) (Ab Yr) .none kVSk dcSk pmSk anSk cdSk ctSk),slSk⟩) (cSk:PySem.W.codeIn K cdSk "speaking_keys" = true) (kSk:PySem.W.keepIn K (.ref fSk)=true)
  (aNb:PySem.W.nsIn K mainGlobals "numbers_on_board" = some (some (.ref fNb)))
  (lNb:K.lookup fNb=some ⟨ocNb,odNb,.func (PySem.W.fnOf "numbers_on_board" "numbers_on_board" (Aq Yv) (An Yv) (Ab Yv) .none kVNb dcNb pmNb anNb cdNb ctNb),slNb⟩) (cNb:PySem.W.codeIn K cdNb "numbers_on_board" = true) (kNb:PySem.W.keepIn K (.ref fNb)=true)
  (aLl:PySem.W.nsIn K mainGlobals "led_by_line" = some (some (.ref fLl)))
  (lLl:K.lookup fLl=some ⟨ocLl,odLl,.func (PySem.W.fnOf "led_by_line" "led_by_line" (Aq ZP) (An ZP) (Ab ZP) .none kVLl dcLl pmLl anLl cdLl ctLl),slLl⟩) (cLl:PySem.W.codeIn K cdLl "led_by_line" = true) (kLl:PySem.W.keepIn K (.ref fLl)=true)
  (aBs:PySem.W.nsIn K mainGlobals "brought_by_stop" = some (some (.ref fBs)))
  (lBs:K.lookup fBs=some ⟨ocBs,odBs,.func (PySem.W.fnOf "brought_by_stop" "brought_by_stop" (Aq Xy) (An Xy) (Ab Xy) .none kVBs dcBs pmBs anBs cdBs ctBs),slBs⟩) (cBs:PySem.W.codeIn K cdBs "brought_by_stop" = true) (kBs:PySem.W.keepIn K (.ref fBs)=true)
  (aBa:PySem.W.nsIn K mainGlobals "brought_in_all" = some (some (.ref fBa)))
  (lBa:K.lookup fBa=some ⟨ocBa,odBa,.func (PySem.W.fnOf "brought_in_all" "brought_in_all" (Aq Xg) (An Xg) (Ab Xg) .none kVBa dcBa pmBa anBa cdBa ctBa),slBa⟩) (cBa:PySem.W.codeIn K cdBa "brought_in_all" = true) (kBa:PySem.W.keepIn K (.ref fBa)=true)
  (aSo:PySem.W.nsIn K mainGlobals "sounding_pipes" = some (some (.ref fSo)))
  (lSo:K.lookup fSo=some ⟨ocSo,odSo,.func (PySem.W.fnOf "sounding_pipes" "sounding_pipes" (Aq Zh) (An Zh) (Ab Zh) .none kVSo dcSo pmSo anSo cdSo ctSo),slSo⟩) (cSo:PySem.W.codeIn K cdSo "sounding_pipes" = true) (kSo:PySem.W.keepIn K (.ref fSo)=true)
  (aCe:PySem.W.nsIn K mainGlobals "_law_cell_at" = some (some (.ref fCe)))
  (lCe:K.lookup fCe=some ⟨ocCe,odCe,.func (PySem.W.fnOf "_law_cell_at" "_law_cell_at" (Aq Yy) (An Yy) (Ab Yy) .none kVCe dcCe pmCe anCe cdCe ctCe),slCe⟩) (cCe:PySem.W.codeIn K cdCe "_law_cell_at" = true) (kCe:PySem.W.keepIn K (.ref fCe)=true)
  (aLw:PySem.W.nsIn K mainGlobals "_law_whole" = some (some (.ref fLw)))
  (lLw:K.lookup fLw=some ⟨ocLw,odLw,.func (PySem.W.fnOf "_law_whole" "_law_whole" (Aq Yq) (An Yq) (Ab Yq) .none kVLw dcLw pmLw anLw cdLw ctLw),slLw⟩) (cLw:PySem.W.codeIn K cdLw "_law_whole" = true) (kLw:PySem.W.keepIn K (.ref fLw)=true)
  (aMx:PySem.W.nsIn K mainGlobals "_law_mixed" = some (some (.ref fMx)))
  (lMx:K.lookup fMx=some ⟨ocMx,odMx,.func (PySem.W.fnOf "_law_mixed" "_law_mixed" (Aq ZX) (An ZX) (Ab ZX) .none kVMx dcMx pmMx anMx cdMx ctMx),slMx⟩) (cMx:PySem.W.codeIn K cdMx "_law_mixed" = true) (kMx:PySem.W.keepIn K (.ref fMx)=true)
  (aBi:PySem.W.nsIn K mainGlobals "_law_bits" = some (some (.ref fBi)))
  (lBi:K.lookup fBi=some ⟨ocBi,odBi,.func (PySem.W.fnOf "_law_bits" "_law_bits" (Aq Zc) (An Zc) (Ab Zc) .none kVBi dcBi pmBi anBi cdBi ctBi),slBi⟩) (cBi:PySem.W.codeIn K cdBi "_law_bits" = true) (kBi:PySem.W.keepIn K (.ref fBi)=true)
  (aNa:PySem.W.nsIn K mainGlobals "_law_name" = some (some (.ref fNa)))
  (lNa:K.lookup fNa=some ⟨ocNa,odNa,.func (PySem.W.fnOf "_law_name" "_law_name" (Aq Yc) (An Yc) (Ab Yc) .none kVNa dcNa pmNa anNa cdNa ctNa),slNa⟩) (cNa:PySem.W.codeIn K cdNa "_law_name" = true) (kNa:PySem.W.keepIn K (.ref fNa)=true)
  (aSz:PySem.W.nsIn K mainGlobals "_law_sizes" = some (some (.ref fSz)))
  (lSz:K.lookup fSz=some ⟨ocSz,odSz,.func (PySem.W.fnOf "_law_sizes" "_law_sizes" (Aq X8) (An X8) (Ab X8) .none kVSz dcSz pmSz anSz cdSz ctSz),slSz⟩) (cSz:PySem.W.codeIn K cdSz "_law_sizes" = true) (kSz:PySem.W.keepIn K (.ref fSz)=true)
  (aLn:PySem.W.nsIn K mainGlobals "_law_lines" = some (some (.ref fLn)))
  (lLn:K.lookup fLn=some ⟨ocLn,odLn,.func (PySem.W.fnOf "_law_lines" "_law_lines" (Aq Ys) (An Ys) (Ab Ys) .none kVLn dcLn pmLn anLn cdLn ctLn),slLn⟩) (cLn:PySem.W.codeIn K cdLn "_law_lines" = true) (kLn:PySem.W.keepIn K (.ref fLn)=true)
  (aKn:PySem.W.nsIn K mainGlobals "_law_knob" = some (some (.ref fKn)))
  (lKn:K.lookup fKn=some ⟨ocKn,odKn,.func (PySem.W.fnOf "_law_knob" "_law_knob" (Aq Y5) (An Y5) (Ab Y5) .none kVKn dcKn pmKn anKn cdKn ctKn),slKn⟩) (cKn:PySem.W.codeIn K cdKn "_law_knob" = true) (kKn:PySem.W.keepIn K (.ref fKn)=true)
  (aKs:PySem.W.nsIn K mainGlobals "_law_knobs" = some (some (.ref fKs)))
  (lKs:K.lookup fKs=some ⟨ocKs,odKs,.func (PySem.W.fnOf "_law_knobs" "_law_knobs" (Aq X_) (An X_) (Ab X_) .none kVKs dcKs pmKs anKs cdKs ctKs),slKs⟩) (cKs:PySem.W.codeIn K cdKs "_law_knobs" = true) (kKs:PySem.W.keepIn K (.ref fKs)=true)
  (aRw:PySem.W.nsIn K mainGlobals "_law_rows" = some (some (.ref fRw)))
  (lRw:K.lookup fRw=some ⟨ocRw,odRw,.func (PySem.W.fnOf "_law_rows" "_law_rows" (Aq Wi) (An Wi) (Ab Wi) .none kVRw dcRw pmRw anRw cdRw ctRw),slRw⟩) (cRw:PySem.W.codeIn K cdRw "_law_rows" = true) (kRw:PySem.W.keepIn K (.ref fRw)=true)
  (aSp:PySem.W.nsIn K mainGlobals "_law_spot" = some (some (.ref fSp)))
  (lSp:K.lookup fSp=some ⟨ocSp,odSp,.func (PySem.W.fnOf "_law_spot" "_law_spot" (Aq Yp) (An Yp) (Ab Yp) .none kVSp dcSp pmSp anSp cdSp ctSp),slSp⟩) (cSp:PySem.W.codeIn K cdSp "_law_spot" = true) (kSp:PySem.W.keepIn K (.ref fSp)=true)
  (aWd:PySem.W.nsIn K mainGlobals "_law_world" = some (some (.ref fWd)))
  (lWd:K.lookup fWd=some ⟨ocWd,odWd,.func (PySem.W.fnOf "_law_world" "_law_world" (Aq Wy) (An Wy) (Ab Wy) .none kVWd dcWd pmWd anWd cdWd ctWd),slWd⟩) (cWd:PySem.W.codeIn K cdWd "_law_world" = true) (kWd:PySem.W.keepIn K (.ref fWd)=true)
  (aDr:PySem.W.nsIn K mainGlobals "_law_drawn" = some (some (.ref fDr)))
  (lDr:K.lookup fDr=some ⟨ocDr,odDr,.func (PySem.W.fnOf "_law_drawn" "_law_drawn" (Aq Wr) (An Wr) (Ab Wr) .none kVDr dcDr pmDr anDr cdDr ctDr),slDr⟩) (cDr:PySem.W.codeIn K cdDr "_law_drawn" = true) (kDr:PySem.W.keepIn K (.ref fDr)=true)
  (aHd:PySem.W.nsIn K mainGlobals "_law_held" = some (some (.ref fHd)))
  (lHd:K.lookup fHd=some ⟨ocHd,odHd,.func (PySem.W.fnOf "_law_held" "_law_held" (Aq XX) (An XX) (Ab XX) .none kVHd dcHd pmHd anHd cdHd ctHd),slHd⟩) (cHd:PySem.W.codeIn K cdHd "_law_held" = true) (kHd:PySem.W.keepIn K (.ref fHd)=true)
  (aGo:PySem.W.nsIn K mainGlobals "_law_goal" = some (some (.ref fGo)))
  (lGo:K.lookup fGo=some ⟨ocGo,odGo,.func (PySem.W.fnOf "_law_goal" "_law_goal" (Aq ZV) (An ZV) (Ab ZV) .none kVGo dcGo pmGo anGo cdGo ctGo),slGo⟩) (cGo:PySem.W.codeIn K cdGo "_law_goal" = true) (kGo:PySem.W.keepIn K (.ref fGo)=true)
  (aCo:PySem.W.nsIn K mainGlobals "_law_coupled" = some (some (.ref fCo)))
  (lCo:K.lookup fCo=some ⟨ocCo,odCo,.func (PySem.W.fnOf "_law_coupled" "_law_coupled" (Aq Wc) (An Wc) (Ab Wc) .none kVCo dcCo pmCo anCo cdCo ctCo),slCo⟩) (cCo:PySem.W.codeIn K cdCo "_law_coupled" = true) (kCo:PySem.W.keepIn K (.ref fCo)=true)
  (aSk2:PySem.W.nsIn K mainGlobals "_law_speaking" = some (some (.ref fSk2)))
  (lSk2:K.lookup fSk2=some ⟨ocSk2,odSk2,.func (PySem.W.fnOf "_law_speaking" "_law_speaking" (Aq M8) (An M8) (Ab M8) .none kVSk2 dcSk2 pmSk2 anSk2 cdSk2 ctSk2),slSk2⟩) (cSk2:PySem.W.codeIn K cdSk2 "_law_speaking" = true) (kSk2:PySem.W.keepIn K (.ref fSk2)=true)
  (aPi:PySem.W.nsIn K mainGlobals "_law_pipes_of" = some (some (.ref fPi)))
  (lPi:K.lookup fPi=some ⟨ocPi,odPi,.func (PySem.W.fnOf "_law_pipes_of" "_law_pipes_of" (Aq Zb) (An Zb) (Ab Zb) .none kVPi dcPi pmPi anPi cdPi ctPi),slPi⟩) (cPi:PySem.W.codeIn K cdPi "_law_pipes_of" = true) (kPi:PySem.W.keepIn K (.ref fPi)=true)
  (aSd:PySem.W.nsIn K mainGlobals "_law_sounding" = some (some (.ref fSd)))
  (lSd:K.lookup fSd=some ⟨ocSd,odSd,.func (PySem.W.fnOf "_law_sounding" "_law_sounding" (Aq Ws) (An Ws) (Ab Ws) .none kVSd dcSd pmSd anSd cdSd ctSd),slSd⟩) (cSd:PySem.W.codeIn K cdSd "_law_sounding" = true) (kSd:PySem.W.keepIn K (.ref fSd)=true)
  (aZ:PySem.W.nsIn K mainGlobals "law" = some (some (.ref fZ)))
  (lZ:K.lookup fZ=some ⟨ocZ,odZ,.func (PySem.W.fnOf "law" "law" (Aq KJ) (An KJ) (Ab KJ) .none kVZ dcZ pmZ anZ cdZ ctZ),slZ⟩) (cZ:PySem.W.codeIn K cdZ "law" = true) (kZ:PySem.W.keepIn K (.ref fZ)=true)
  (aC:PySem.W.nsIn K mainGlobals "Organ" = some (some (.ref C)))
  (aOi:PySem.W.findIn K (.ref C) "__init__" = some (some (.ref fOi)))
  (iOi:PySem.W.isFn K (.ref fOi)=true)
  (lOi:K.lookup fOi=some ⟨ocOi,odOi,.func (PySem.W.fnOf "__init__" "Organ.__init__" (Aq Q5) (An Q5) (Ab Q5) .none kVOi dcOi pmOi anOi cdOi ctOi),slOi⟩) (cOi:PySem.W.codeIn K cdOi "Organ.__init__" = true) (kOi:PySem.W.keepIn K (.ref fOi)=true)
  (aOb:PySem.W.findIn K (.ref C) "boards" = some (some (.ref fOb)))
  (iOb:PySem.W.isFn K (.ref fOb)=true)
  (lOb:K.lookup fOb=some ⟨ocOb,odOb,.func (PySem.W.fnOf "boards" "Organ.boards" (Aq ZW) (An ZW) (Ab ZW) .none kVOb dcOb pmOb anOb cdOb ctOb),slOb⟩) (cOb:PySem.W.codeIn K cdOb "Organ.boards" = true) (kOb:PySem.W.keepIn K (.ref fOb)=true)
  (aOc:PySem.W.findIn K (.ref C) "key_count" = some (some (.ref fOc)))
  (iOc:PySem.W.isFn K (.ref fOc)=true)
  (lOc:K.lookup fOc=some ⟨ocOc,odOc,.func (PySem.W.fnOf "key_count" "Organ.key_count" (Aq ZF) (An ZF) (Ab ZF) .none kVOc dcOc pmOc anOc cdOc ctOc),slOc⟩) (cOc:PySem.W.codeIn K cdOc "Organ.key_count" = true) (kOc:PySem.W.keepIn K (.ref fOc)=true)
  (aOk:PySem.W.findIn K (.ref C) "key" = some (some (.ref fOk)))
  (iOk:PySem.W.isFn K (.ref fOk)=true)
  (lOk:K.lookup fOk=some ⟨ocOk,odOk,.func (PySem.W.fnOf "key" "Organ.key" (Aq ZR) (An ZR) (Ab ZR) .none kVOk dcOk pmOk anOk cdOk ctOk),slOk⟩) (cOk:PySem.W.codeIn K cdOk "Organ.key" = true) (kOk:PySem.W.keepIn K (.ref fOk)=true)
  (aOo:PySem.W.findIn K (.ref C) "board_of" = some (some (.ref fOo)))
  (iOo:PySem.W.isFn K (.ref fOo)=true)
  (lOo:K.lookup fOo=some ⟨ocOo,odOo,.func (PySem.W.fnOf "board_of" "Organ.board_of" (Aq Y9) (An Y9) (Ab Y9) .none kVOo dcOo pmOo anOo cdOo ctOo),slOo⟩) (cOo:PySem.W.codeIn K cdOo "Organ.board_of" = true) (kOo:PySem.W.keepIn K (.ref fOo)=true)
  (aBk:PySem.W.findIn K (.ref C) "board_of_knob" = some (some (.ref fBk)))
  (iBk:PySem.W.isFn K (.ref fBk)=true)
  (lBk:K.lookup fBk=some ⟨ocBk,odBk,.func (PySem.W.fnOf "board_of_knob" "Organ.board_of_knob" (Aq Yk) (An Yk) (Ab Yk) .none kVBk dcBk pmBk anBk cdBk ctBk),slBk⟩) (cBk:PySem.W.codeIn K cdBk "Organ.board_of_knob" = true) (kBk:PySem.W.keepIn K (.ref fBk)=true)
  (aOp:PySem.W.findIn K (.ref C) "coupler" = some (some (.ref fOp)))
  (iOp:PySem.W.isFn K (.ref fOp)=true)
  (lOp:K.lookup fOp=some ⟨ocOp,odOp,.func (PySem.W.fnOf "coupler" "Organ.coupler" (Aq ZQ) (An ZQ) (Ab ZQ) .none kVOp dcOp pmOp anOp cdOp ctOp),slOp⟩) (cOp:PySem.W.codeIn K cdOp "Organ.coupler" = true) (kOp:PySem.W.keepIn K (.ref fOp)=true)
  (aOr:PySem.W.findIn K (.ref C) "ranks" = some (some (.ref fOr)))
  (iOr:PySem.W.isFn K (.ref fOr)=true)
  (lOr:K.lookup fOr=some ⟨ocOr,odOr,.func (PySem.W.fnOf "ranks" "Organ.ranks" (Aq Yh) (An Yh) (Ab Yh) .none kVOr dcOr pmOr anOr cdOr ctOr),slOr⟩) (cOr:PySem.W.codeIn K cdOr "Organ.ranks" = true) (kOr:PySem.W.keepIn K (.ref fOr)=true)
  (aOq:PySem.W.findIn K (.ref C) "pipe_count" = some (some (.ref fOq)))
  (iOq:PySem.W.isFn K (.ref fOq)=true)
  (lOq:K.lookup fOq=some ⟨ocOq,odOq,.func (PySem.W.fnOf "pipe_count" "Organ.pipe_count" (Aq Y0) (An Y0) (Ab Y0) .none kVOq dcOq pmOq anOq cdOq ctOq),slOq⟩) (cOq:PySem.W.codeIn K cdOq "Organ.pipe_count" = true) (kOq:PySem.W.keepIn K (.ref fOq)=true)
  (aOe:PySem.W.findIn K (.ref C) "pipe" = some (some (.ref fOe)))
  (iOe:PySem.W.isFn K (.ref fOe)=true)
  (lOe:K.lookup fOe=some ⟨ocOe,odOe,.func (PySem.W.fnOf "pipe" "Organ.pipe" (Aq Zd) (An Zd) (Ab Zd) .none kVOe dcOe pmOe anOe cdOe ctOe),slOe⟩) (cOe:PySem.W.codeIn K cdOe "Organ.pipe" = true) (kOe:PySem.W.keepIn K (.ref fOe)=true)
  (aOs:PySem.W.findIn K (.ref C) "stop" = some (some (.ref fOs)))
  (iOs:PySem.W.isFn K (.ref fOs)=true)
  (lOs:K.lookup fOs=some ⟨ocOs,odOs,.func (PySem.W.fnOf "stop" "Organ.stop" (Aq Ym) (An Ym) (Ab Ym) .none kVOs dcOs pmOs anOs cdOs ctOs),slOs⟩) (cOs:PySem.W.codeIn K cdOs "Organ.stop" = true) (kOs:PySem.W.keepIn K (.ref fOs)=true)
  (aOm:PySem.W.findIn K (.ref C) "mute" = some (some (.ref fOm)))
  (iOm:PySem.W.isFn K (.ref fOm)=true)
  (lOm:K.lookup fOm=some ⟨ocOm,odOm,.func (PySem.W.fnOf "mute" "Organ.mute" (Aq Y_) (An Y_) (Ab Y_) .none kVOm dcOm pmOm anOm cdOm ctOm),slOm⟩) (cOm:PySem.W.codeIn K cdOm "Organ.mute" = true) (kOm:PySem.W.keepIn K (.ref fOm)=true)
  (aOz:PySem.W.findIn K (.ref C) "knobs" = some (some (.ref fOz)))
  (iOz:PySem.W.isFn K (.ref fOz)=true)
  (lOz:K.lookup fOz=some ⟨ocOz,odOz,.func (PySem.W.fnOf "knobs" "Organ.knobs" (Aq XJ) (An XJ) (Ab XJ) .none kVOz dcOz pmOz anOz cdOz ctOz),slOz⟩) (cOz:PySem.W.codeIn K cdOz "Organ.knobs" = true) (kOz:PySem.W.keepIn K (.ref fOz)=true)
  (pg:PySem.W.plainGet K C Str.empty=true)
  (hd:PySem.W.hasDictIn K C=true)
  (po:PySem.W.plainOver K C=true)
  (sa:PySem.W.findIn K (.ref C) "__setattr__" = some (some (.builtin "object.__setattr__")))
  (mkC:PySem.W.makesIn K C=true)
  (kc:PySem.W.keepIn K (.ref C)=true)
  (n_row_list_:PySem.W.findIn K (.ref C) "row_list" = some none)
  (n_board_list_:PySem.W.findIn K (.ref C) "board_list" = some none)
  (n_rank_list_:PySem.W.findIn K (.ref C) "rank_list" = some none)
  (n_knob_rows_:PySem.W.findIn K (.ref C) "knob_rows" = some none)
  (n_board_numbers_:PySem.W.findIn K (.ref C) "board_numbers" = some none)
  (n_rank_numbers_:PySem.W.findIn K (.ref C) "rank_numbers" = some none)
  (n_knob_numbers_:PySem.W.findIn K (.ref C) "knob_numbers" = some none)
  (n_key_places_:PySem.W.findIn K (.ref C) "key_places" = some none)
  (n_pipe_places_:PySem.W.findIn K (.ref C) "pipe_places" = some none)
  (n_knob_lines_:PySem.W.findIn K (.ref C) "knob_lines" = some none)
  (n_step_sets_:PySem.W.findIn K (.ref C) "step_sets" = some none)
  (zlen:PySem.W.nsIn K mainGlobals "len" = some none)
  (zisinstance:PySem.W.nsIn K mainGlobals "isinstance" = some none)
  (zint:PySem.W.nsIn K mainGlobals "int" = some none)
  (zbool:PySem.W.nsIn K mainGlobals "bool" = some none)
  (zstr:PySem.W.nsIn K mainGlobals "str" = some none)
  (zlist:PySem.W.nsIn K mainGlobals "list" = some none)
  (ztuple:PySem.W.nsIn K mainGlobals "tuple" = some none)
  (zall:PySem.W.nsIn K mainGlobals "all" = some none)
  (zany:PySem.W.nsIn K mainGlobals "any" = some none)
  (zsum:PySem.W.nsIn K mainGlobals "sum" = some none)
  (zrange:PySem.W.nsIn K mainGlobals "range" = some none)
  (zzip:PySem.W.nsIn K mainGlobals "zip" = some none)
  (zenumerate:PySem.W.nsIn K mainGlobals "enumerate" = some none)
  (zmax:PySem.W.nsIn K mainGlobals "max" = some none)
  (zreversed:PySem.W.nsIn K mainGlobals "reversed" = some none)
  (zset:PySem.W.nsIn K mainGlobals "set" = some none)
  (zsorted:PySem.W.nsIn K mainGlobals "sorted" = some none)
  (zLET:PySem.W.nsIn K mainGlobals "LETTERS" = some (some (.str letters tLET)))
  (zML:PySem.W.nsIn K mainGlobals "MOST_LETTERS" = some (some (.int 8 tML)))
  (zMR:PySem.W.nsIn K mainGlobals "MOST_ROWS" = some (some (.int 150 tMR)))
  (zMLn:PySem.W.nsIn K mainGlobals "MOST_LINES" = some (some (.int 4 tMLn)))
  (zMB:PySem.W.nsIn K mainGlobals "MEMBERS_BELOW" = some (some (.int 1200 tMB)))
  (rN:PySem.W.nsIn K mainGlobals "NAMED" = some (some (.ref aN)))
  (rK:PySem.W.nsIn K mainGlobals "KNOBS" = some (some (.ref aK)))
  (rB:PySem.W.nsIn K mainGlobals "BOUNDS" = some (some (.ref aB)))
  (rP:PySem.W.nsIn K mainGlobals "PARTS" = some (some (.ref aP)))
  (rM:PySem.W.nsIn K mainGlobals "MOST_OF" = some (some (.ref aM)))
  (dB:K.lookup aB=some ⟨.type "dict",none,.dict eB nB,#[]⟩)
  (kB:PySem.W.KeysLit w.params eB.toList)
  (oB:(aB == sysModules)=false)
  (dP:K.lookup aP=some ⟨.type "dict",none,.dict eP nP,#[]⟩)
  (kP:PySem.W.KeysLit w.params eP.toList)
  (oP:(aP == sysModules)=false)
  (dM:K.lookup aM=some ⟨.type "dict",none,.dict eM nM,#[]⟩)
  (kM:PySem.W.KeysLit w.params eM.toList)
  (oM:(aM == sysModules)=false)
  (qp1:PySem.W.nsIn K aP "board" = some (some (.ref p1)))
  (qp2:PySem.W.nsIn K aP "stop" = some (some (.ref p2)))
  (qp3:PySem.W.nsIn K aP "mute" = some (some (.ref p3)))
  (qp4:PySem.W.nsIn K aP "coupler" = some (some (.ref p4)))
  (qp5:PySem.W.nsIn K aP "rank" = some (some (.ref p5)))
  (qp6:PySem.W.nsIn K aP "line" = some (some (.ref p6)))
  (qb1:PySem.W.nsIn K aB "keys" = some (some (.ref b1)))
  (qb2:PySem.W.nsIn K aB "leap" = some (some (.ref b2)))
  (qb3:PySem.W.nsIn K aB "pipes" = some (some (.ref b3)))
  (qb4:PySem.W.nsIn K aB "wind" = some (some (.ref b4)))
  (qb5:PySem.W.nsIn K aB "shift" = some (some (.ref b5)))
  (qb6:PySem.W.nsIn K aB "low" = some (some (.ref b6)))
  (qb7:PySem.W.nsIn K aB "high" = some (some (.ref b7)))
  (qn:PySem.W.nsIn K aB "new" = some none)
  (qb:PySem.W.nsIn K aB "board" = some none)
  (qr:PySem.W.nsIn K aB "rank" = some none)
  (ql:PySem.W.nsIn K aM "line" = some none)
  (qm1:PySem.W.nsIn K aM "board" = some (some (.int 5 tm1)))
  (qm2:PySem.W.nsIn K aM "stop" = some (some (.int 24 tm2)))
  (qm3:PySem.W.nsIn K aM "coupler" = some (some (.int 12 tm3)))
  (qm4:PySem.W.nsIn K aM "mute" = some (some (.int 5 tm4)))
  (qm5:PySem.W.nsIn K aM "rank" = some (some (.int 12 tm5)))
  (uN:K.lookup aN=some ⟨.type "tuple",od_N,.seq #[.str "board" ttN_0,.str "rank" ttN_1,.str "stop" ttN_2,.str "coupler" ttN_3,.str "mute" ttN_4] n_N,sl_N⟩)
  (uK:K.lookup aK=some ⟨.type "tuple",od_K,.seq #[.str "stop" ttK_0,.str "coupler" ttK_1,.str "mute" ttK_2] n_K,sl_K⟩)
  (up1:K.lookup p1=some ⟨.type "tuple",od_p1,.seq #[.str "new" ttp1_0,.str "keys" ttp1_1] n_p1,sl_p1⟩)
  (up2:K.lookup p2=some ⟨.type "tuple",od_p2,.seq #[.str "new" ttp2_0,.str "board" ttp2_1] n_p2,sl_p2⟩)
  (up3:K.lookup p3=some ⟨.type "tuple",od_p3,.seq #[.str "new" ttp3_0,.str "board" ttp3_1] n_p3,sl_p3⟩)
  (up4:K.lookup p4=some ⟨.type "tuple",od_p4,.seq #[.str "new" ttp4_0,.str "board" ttp4_1,.str "board" ttp4_2,.str "leap" ttp4_3] n_p4,sl_p4⟩)
  (up5:K.lookup p5=some ⟨.type "tuple",od_p5,.seq #[.str "new" ttp5_0,.str "pipes" ttp5_1,.str "wind" ttp5_2] n_p5,sl_p5⟩)
  (up6:K.lookup p6=some ⟨.type "tuple",od_p6,.seq #[.str "rank" ttp6_0,.str "shift" ttp6_1,.str "low" ttp6_2,.str "high" ttp6_3] n_p6,sl_p6⟩)
  (ub1:K.lookup b1=some ⟨.type "tuple",od_b1,.seq #[.int (1) ttb1_0,.int (61) ttb1_1] n_b1,sl_b1⟩)
  (ub2:K.lookup b2=some ⟨.type "tuple",od_b2,.seq #[.int (-60) ttb2_0,.int (60) ttb2_1] n_b2,sl_b2⟩)
  (ub3:K.lookup b3=some ⟨.type "tuple",od_b3,.seq #[.int (1) ttb3_0,.int (97) ttb3_1] n_b3,sl_b3⟩)
  (ub4:K.lookup b4=some ⟨.type "tuple",od_b4,.seq #[.int (0) ttb4_0,.int (1000000000) ttb4_1] n_b4,sl_b4⟩)
  (ub5:K.lookup b5=some ⟨.type "tuple",od_b5,.seq #[.int (-200) ttb5_0,.int (200) ttb5_1] n_b5,sl_b5⟩)
  (ub6:K.lookup b6=some ⟨.type "tuple",od_b6,.seq #[.int (0) ttb6_0,.int (60) ttb6_1] n_b6,sl_b6⟩)
  (ub7:K.lookup b7=some ⟨.type "tuple",od_b7,.seq #[.int (0) ttb7_0,.int (60) ttb7_1] n_b7,sl_b7⟩)
  : ∃ fd:FuncData,(∀ (s:Shared) (v:Value),BindsTo s fd ⟨[v],[]⟩ [("_law_script",v)])/\∀ base:Heap,K.In base->base.Ns mainGlobals mg->Ax l.prog w K mg base Bf 11 fa fd ["_law_script"] (PQ K):=by
 have e:=hfa.symm.trans (PySem.W.mg_of X G aZ)
 cases e
 have FWh:=BR (st:=ZM) lWh cWh kWh
 have FMd:=BR (st:=X7) lMd cMd kMd
 have FNm:=BR (st:=Y6) lNm cNm kNm
 have FRo:=BR (st:=YZ) lRo cRo kRo
 have FTo:=BR (st:=YB) lTo cTo kTo
 have FWi:=BR (st:=Yj) lWi cWi kWi
 have FPa:=BR (st:=W8) lPa cPa kPa
 have FHp:=BR (st:=Wq) lHp cHp kHp
 have FCl:=BR (st:=Y4) lCl cCl kCl
 have FIk:=BR (st:=Xf) lIk cIk kIk
 have FSb:=BR (st:=ZJ) lSb cSb kSb
 have FWm:=BR (st:=Yt) lWm cWm kWm
 have FHr:=BR (st:=Yl) lHr cHr kHr
 have FIr:=BR (st:=Za) lIr cIr kIr
 have FCk:=BR (st:=Yg) lCk cCk kCk
 have FNu:=BR (st:=Yz) lNu cNu kNu
 have FCa:=BR (st:=Wm) lCa cCa kCa
 have FPl:=BR (st:=Xp) lPl cPl kPl
 have FLi:=BR (st:=ZD) lLi cLi kLi
 have FMy:=BR (st:=Zf) lMy cMy kMy
 have FSt:=BR (st:=Xm) lSt cSt kSt
 have FHa:=BR (st:=Ze) lHa cHa kHa
 have FMe:=BR (st:=XH) lMe cMe kMe
 have FSh:=BR (st:=Yn) lSh cSh kSh
 have FUn:=BR (st:=ZL) lUn cUn kUn
 have FLe:=BR (st:=Yo) lLe cLe kLe
 have FDc:=BR (st:=WW) lDc cDc kDc
 have FHk:=BR (st:=Yu) lHk cHk kHk
 have FWa:=BR (st:=ZK) lWa cWa kWa
 have FCq:=BR (st:=Yw) lCq cCq kCq
 have FMu:=BR (st:=Wz) lMu cMu kMu
 have FUk:=BR (st:=Wu) lUk cUk kUk
 have FSk:=BR (st:=Yr) lSk cSk kSk
 have FNb:=BR (st:=Yv) lNb cNb kNb
 have FLl:=BR (st:=ZP) lLl cLl kLl
 have FBs:=BR (st:=Xy) lBs cBs kBs
 have FBa:=BR (st:=Xg) lBa cBa kBa
 have FSo:=BR (st:=Zh) lSo cSo kSo
 have FCe:=BR (st:=Yy) lCe cCe kCe
 have FLw:=BR (st:=Yq) lLw cLw kLw
 have FMx:=BR (st:=ZX) lMx cMx kMx
 have FBi:=BR (st:=Zc) lBi cBi kBi
 have FNa:=BR (st:=Yc) lNa cNa kNa
 have FSz:=BR (st:=X8) lSz cSz kSz
 have FLn:=BR (st:=Ys) lLn cLn kLn
 have FKn:=BR (st:=Y5) lKn cKn kKn
 have FKs:=BR (st:=X_) lKs cKs kKs
 have FRw:=BR (st:=Wi) lRw cRw kRw
 have FSp:=BR (st:=Yp) lSp cSp kSp
 have FWd:=BR (st:=Wy) lWd cWd kWd
 have FDr:=BR (st:=Wr) lDr cDr kDr
 have FHd:=BR (st:=XX) lHd cHd kHd
 have FGo:=BR (st:=ZV) lGo cGo kGo
 have FCo:=BR (st:=Wc) lCo cCo kCo
 have FSk2:=BR (st:=M8) lSk2 cSk2 kSk2
 have FPi:=BR (st:=Zb) lPi cPi kPi
 have FSd:=BR (st:=Ws) lSd cSd kSd
 have FOi:=BR (st:=Q5) lOi cOi kOi
 have FOb:=BR (st:=ZW) lOb cOb kOb
 have FOc:=BR (st:=ZF) lOc cOc kOc
 have FOk:=BR (st:=ZR) lOk cOk kOk
 have FOo:=BR (st:=Y9) lOo cOo kOo
 have FBk:=BR (st:=Yk) lBk cBk kBk
 have FOp:=BR (st:=ZQ) lOp cOp kOp
 have FOr:=BR (st:=Yh) lOr cOr kOr
 have FOq:=BR (st:=Y0) lOq cOq kOq
 have FOe:=BR (st:=Zd) lOe cOe kOe
 have FOs:=BR (st:=Ym) lOs cOs kOs
 have FOm:=BR (st:=Y_) lOm cOm kOm
 have FOz:=BR (st:=XJ) lOz cOz kOz
 have FZ:=BR (st:=KJ) lZ cZ kZ
 have bWh:=FWh.binds (ps:=["thing"]) fun _ _ _ _ _ _ us hl=>(by obtain ⟨_,rfl⟩:=UL1 hl;exact rfl)
 have bMd:=FMd.binds (ps:=["text","signs","most"]) fun _ _ _ _ _ _ us hl=>(by obtain ⟨_,_,_,rfl⟩:=UL3 hl;exact rfl)
 have bNm:=FNm.binds (ps:=["thing"]) fun _ _ _ _ _ _ us hl=>(by obtain ⟨_,rfl⟩:=UL1 hl;exact rfl)
 have bRo:=FRo.binds (ps:=["rows","word"]) fun _ _ _ _ _ _ us hl=>(by obtain ⟨_,_,rfl⟩:=UL2 hl;exact rfl)
 have bTo:=FTo.binds (ps:=["rows","word","thing"]) fun _ _ _ _ _ _ us hl=>(by obtain ⟨_,_,_,rfl⟩:=UL3 hl;exact rfl)
 have bWi:=FWi.binds (ps:=["thing","bounds"]) fun _ _ _ _ _ _ us hl=>(by obtain ⟨_,_,rfl⟩:=UL2 hl;exact rfl)
 have bPa:=FPa.binds (ps:=["thing","part","ahead"]) fun _ _ _ _ _ _ us hl=>(by obtain ⟨_,_,_,rfl⟩:=UL3 hl;exact rfl)
 have bHp:=FHp.binds (ps:=["row","ahead"]) fun _ _ _ _ _ _ us hl=>(by obtain ⟨_,_,rfl⟩:=UL2 hl;exact rfl)
 have bCl:=FCl.binds (ps:=["rows"]) fun _ _ _ _ _ _ us hl=>(by obtain ⟨_,rfl⟩:=UL1 hl;exact rfl)
 have bIk:=FIk.binds (ps:=["number","board","ahead"]) fun _ _ _ _ _ _ us hl=>(by obtain ⟨_,_,_,rfl⟩:=UL3 hl;exact rfl)
 have bSb:=FSb.binds (ps:=["line","ahead"]) fun _ _ _ _ _ _ us hl=>(by obtain ⟨_,_,rfl⟩:=UL2 hl;exact rfl)
 have bWm:=FWm.binds (ps:=["row","ahead"]) fun _ _ _ _ _ _ us hl=>(by obtain ⟨_,_,rfl⟩:=UL2 hl;exact rfl)
 have bHr:=FHr.binds (ps:=["word","ahead"]) fun _ _ _ _ _ _ us hl=>(by obtain ⟨_,_,rfl⟩:=UL2 hl;exact rfl)
 have bIr:=FIr.binds (ps:=["thing","ahead"]) fun _ _ _ _ _ _ us hl=>(by obtain ⟨_,_,rfl⟩:=UL2 hl;exact rfl)
 have bCk:=FCk.binds (ps:=["rows"]) fun _ _ _ _ _ _ us hl=>(by obtain ⟨_,rfl⟩:=UL1 hl;exact rfl)
 have bNu:=FNu.binds (ps:=["names"]) fun _ _ _ _ _ _ us hl=>(by obtain ⟨_,rfl⟩:=UL1 hl;exact rfl)
 have bCa:=FCa.binds (ps:=["things"]) fun _ _ _ _ _ _ us hl=>(by obtain ⟨_,rfl⟩:=UL1 hl;exact rfl)
 have bPl:=FPl.binds (ps:=["things"]) fun _ _ _ _ _ _ us hl=>(by obtain ⟨_,rfl⟩:=UL1 hl;exact rfl)
 have bLi:=FLi.binds (ps:=["rows","rank_numbers"]) fun _ _ _ _ _ _ us hl=>(by obtain ⟨_,_,rfl⟩:=UL2 hl;exact rfl)
 have bMy:=FMy.binds (ps:=["thing"]) fun _ _ _ _ _ _ us hl=>(by obtain ⟨_,rfl⟩:=UL1 hl;exact rfl)
 have bSt:=FSt.binds (ps:=["numbers"]) fun _ _ _ _ _ _ us hl=>(by obtain ⟨_,rfl⟩:=UL1 hl;exact rfl)
 have bHa:=FHa.binds (ps:=["some","number"]) fun _ _ _ _ _ _ us hl=>(by obtain ⟨_,_,rfl⟩:=UL2 hl;exact rfl)
 have bMe:=FMe.binds (ps:=["some"]) fun _ _ _ _ _ _ us hl=>(by obtain ⟨_,rfl⟩:=UL1 hl;exact rfl)
 have bSh:=FSh.binds (ps:=["some","steps","count"]) fun _ _ _ _ _ _ us hl=>(by obtain ⟨_,_,_,rfl⟩:=UL3 hl;exact rfl)
 have bUn:=FUn.binds (ps:=["sets"]) fun _ _ _ _ _ _ us hl=>(by obtain ⟨_,rfl⟩:=UL1 hl;exact rfl)
 have bLe:=FLe.binds (ps:=["organ","knob","key"]) fun _ _ _ _ _ _ us hl=>(by obtain ⟨_,_,_,rfl⟩:=UL3 hl;exact rfl)
 have bDc:=FDc.binds (ps:=["organ","knobs","word"]) fun _ _ _ _ _ _ us hl=>(by obtain ⟨_,_,_,rfl⟩:=UL3 hl;exact rfl)
 have bHk:=FHk.binds (ps:=["organ","held"]) fun _ _ _ _ _ _ us hl=>(by obtain ⟨_,_,rfl⟩:=UL2 hl;exact rfl)
 have bWa:=FWa.binds (ps:=["organ","knobs","held"]) fun _ _ _ _ _ _ us hl=>(by obtain ⟨_,_,_,rfl⟩:=UL3 hl;exact rfl)
 have bCq:=FCq.binds (ps:=["organ","knobs","held"]) fun _ _ _ _ _ _ us hl=>(by obtain ⟨_,_,_,rfl⟩:=UL3 hl;exact rfl)
 have bMu:=FMu.binds (ps:=["organ","knobs"]) fun _ _ _ _ _ _ us hl=>(by obtain ⟨_,_,rfl⟩:=UL2 hl;exact rfl)
 have bUk:=FUk.binds (ps:=["organ","knobs","keys"]) fun _ _ _ _ _ _ us hl=>(by obtain ⟨_,_,_,rfl⟩:=UL3 hl;exact rfl)
 have bSk:=FSk.binds (ps:=["organ","knobs","held"]) fun _ _ _ _ _ _ us hl=>(by obtain ⟨_,_,_,rfl⟩:=UL3 hl;exact rfl)
 have bNb:=FNb.binds (ps:=["organ","board","keys"]) fun _ _ _ _ _ _ us hl=>(by obtain ⟨_,_,_,rfl⟩:=UL3 hl;exact rfl)
 have bLl:=FLl.binds (ps:=["organ","line","numbers"]) fun _ _ _ _ _ _ us hl=>(by obtain ⟨_,_,_,rfl⟩:=UL3 hl;exact rfl)
 have bBs:=FBs.binds (ps:=["organ","knob","keys"]) fun _ _ _ _ _ _ us hl=>(by obtain ⟨_,_,_,rfl⟩:=UL3 hl;exact rfl)
 have bBa:=FBa.binds (ps:=["organ","knobs","keys"]) fun _ _ _ _ _ _ us hl=>(by obtain ⟨_,_,_,rfl⟩:=UL3 hl;exact rfl)
 have bSo:=FSo.binds (ps:=["organ","knobs","held"]) fun _ _ _ _ _ _ us hl=>(by obtain ⟨_,_,_,rfl⟩:=UL3 hl;exact rfl)
 have bCe:=FCe.binds (ps:=["_law_script","_law_k"]) fun _ _ _ _ _ _ us hl=>(by obtain ⟨_,_,rfl⟩:=UL2 hl;exact rfl)
 have bLw:=FLw.binds (ps:=["_law_found"]) fun _ _ _ _ _ _ us hl=>(by obtain ⟨_,rfl⟩:=UL1 hl;exact rfl)
 have bMx:=FMx.binds (ps:=["_law_cell","_law_k"]) fun _ _ _ _ _ _ us hl=>(by obtain ⟨_,_,rfl⟩:=UL2 hl;exact rfl)
 have bBi:=FBi.binds (ps:=["_law_numbers"]) fun _ _ _ _ _ _ us hl=>(by obtain ⟨_,rfl⟩:=UL1 hl;exact rfl)
 have bNa:=FNa.binds (ps:=["_law_cell","_law_k"]) fun _ _ _ _ _ _ us hl=>(by obtain ⟨_,_,rfl⟩:=UL2 hl;exact rfl)
 have bSz:=FSz.binds (ps:=["_law_cell","_law_many","_law_most"]) fun _ _ _ _ _ _ us hl=>(by obtain ⟨_,_,_,rfl⟩:=UL3 hl;exact rfl)
 have bLn:=FLn.binds (ps:=["_law_cell","_law_size","_law_pipes"]) fun _ _ _ _ _ _ us hl=>(by obtain ⟨_,_,_,rfl⟩:=UL3 hl;exact rfl)
 have bKn:=FKn.binds (ps:=["_law_cell","_law_sizes_here","_law_pipes"]) fun _ _ _ _ _ _ us hl=>(by obtain ⟨_,_,_,rfl⟩:=UL3 hl;exact rfl)
 have bKs:=FKs.binds (ps:=["_law_cells","_law_sizes_here","_law_pipes"]) fun _ _ _ _ _ _ us hl=>(by obtain ⟨_,_,_,rfl⟩:=UL3 hl;exact rfl)
 have bRw:=FRw.binds (ps:=["_law_cell","_law_sizes_here","_law_pipes","_law_knobs_here"]) fun _ _ _ _ _ _ us hl=>(by obtain ⟨_,_,_,_,rfl⟩:=UL4 hl;exact rfl)
 have bSp:=FSp.binds (ps:=["_law_sizes_here","_law_key"]) fun _ _ _ _ _ _ us hl=>(by obtain ⟨_,_,rfl⟩:=UL2 hl;exact rfl)
 have bWd:=FWd.binds (ps:=["_law_script"]) fun _ _ _ _ _ _ us hl=>(by obtain ⟨_,rfl⟩:=UL1 hl;exact rfl)
 have bDr:=FDr.binds (ps:=["_law_cell","_law_count"]) fun _ _ _ _ _ _ us hl=>(by obtain ⟨_,_,rfl⟩:=UL2 hl;exact rfl)
 have bHd:=FHd.binds (ps:=["_law_cell","_law_count"]) fun _ _ _ _ _ _ us hl=>(by obtain ⟨_,_,rfl⟩:=UL2 hl;exact rfl)
 have bGo:=FGo.binds (ps:=["_law_sizes_here","_law_knob_here","_law_key"]) fun _ _ _ _ _ _ us hl=>(by obtain ⟨_,_,_,rfl⟩:=UL3 hl;exact rfl)
 have bCo:=FCo.binds (ps:=["_law_sizes_here","_law_knobs_here","_law_drawn_here","_law_held_here"]) fun _ _ _ _ _ _ us hl=>(by obtain ⟨_,_,_,_,rfl⟩:=UL4 hl;exact rfl)
 have bSk2:=FSk2.binds (ps:=["_law_sizes_here","_law_knobs_here","_law_drawn_here","_law_held_here"]) fun _ _ _ _ _ _ us hl=>(by obtain ⟨_,_,_,_,rfl⟩:=UL4 hl;exact rfl)
 have bPi:=FPi.binds (ps:=["_law_sizes_here","_law_pipes","_law_knob_here","_law_key"]) fun _ _ _ _ _ _ us hl=>(by obtain ⟨_,_,_,_,rfl⟩:=UL4 hl;exact rfl)
 have bSd:=FSd.binds (ps:=["_law_world_here","_law_drawn_here","_law_held_here"]) fun _ _ _ _ _ _ us hl=>(by obtain ⟨_,_,_,rfl⟩:=UL3 hl;exact rfl)
 have bOi:=FOi.binds (ps:=["self","rows"]) fun _ _ _ _ _ _ us hl=>(by obtain ⟨_,_,rfl⟩:=UL2 hl;exact rfl)
 have bOb:=FOb.binds (ps:=["self"]) fun _ _ _ _ _ _ us hl=>(by obtain ⟨_,rfl⟩:=UL1 hl;exact rfl)
 have bOc:=FOc.binds (ps:=["self"]) fun _ _ _ _ _ _ us hl=>(by obtain ⟨_,rfl⟩:=UL1 hl;exact rfl)
 have bOk:=FOk.binds (ps:=["self","board","number"]) fun _ _ _ _ _ _ us hl=>(by obtain ⟨_,_,_,rfl⟩:=UL3 hl;exact rfl)
 have bOo:=FOo.binds (ps:=["self","key"]) fun _ _ _ _ _ _ us hl=>(by obtain ⟨_,_,rfl⟩:=UL2 hl;exact rfl)
 have bBk:=FBk.binds (ps:=["self","knob"]) fun _ _ _ _ _ _ us hl=>(by obtain ⟨_,_,rfl⟩:=UL2 hl;exact rfl)
 have bOp:=FOp.binds (ps:=["self","knob"]) fun _ _ _ _ _ _ us hl=>(by obtain ⟨_,_,rfl⟩:=UL2 hl;exact rfl)
 have bOr:=FOr.binds (ps:=["self"]) fun _ _ _ _ _ _ us hl=>(by obtain ⟨_,rfl⟩:=UL1 hl;exact rfl)
 have bOq:=FOq.binds (ps:=["self"]) fun _ _ _ _ _ _ us hl=>(by obtain ⟨_,rfl⟩:=UL1 hl;exact rfl)
 have bOe:=FOe.binds (ps:=["self","rank","number"]) fun _ _ _ _ _ _ us hl=>(by obtain ⟨_,_,_,rfl⟩:=UL3 hl;exact rfl)
 have bOs:=FOs.binds (ps:=["self","knob"]) fun _ _ _ _ _ _ us hl=>(by obtain ⟨_,_,rfl⟩:=UL2 hl;exact rfl)
 have bOm:=FOm.binds (ps:=["self","knob"]) fun _ _ _ _ _ _ us hl=>(by obtain ⟨_,_,rfl⟩:=UL2 hl;exact rfl)
 have bOz:=FOz.binds (ps:=["self"]) fun _ _ _ _ _ _ us hl=>(by obtain ⟨_,rfl⟩:=UL1 hl;exact rfl)
 have gN:KTup K aN [.str "board",.str "rank",.str "stop",.str "coupler",.str "mute"]:=(⟨_,_,_,uN,rfl,rfl,by show 5<=sizeLine; decide,.cons ⟨_,rfl⟩ (.cons ⟨_,rfl⟩ (.cons ⟨_,rfl⟩ (.cons ⟨_,rfl⟩ (.cons ⟨_,rfl⟩ (.nil)))))⟩)
 have gK:KTup K aK [.str "stop",.str "coupler",.str "mute"]:=(⟨_,_,_,uK,rfl,rfl,by show 3<=sizeLine; decide,.cons ⟨_,rfl⟩ (.cons ⟨_,rfl⟩ (.cons ⟨_,rfl⟩ (.nil)))⟩)
 have gp1:KTup K p1 [.str "new",.str "keys"]:=(⟨_,_,_,up1,rfl,rfl,by show 2<=sizeLine; decide,.cons ⟨_,rfl⟩ (.cons ⟨_,rfl⟩ (.nil))⟩)
 have gp2:KTup K p2 [.str "new",.str "board"]:=(⟨_,_,_,up2,rfl,rfl,by show 2<=sizeLine; decide,.cons ⟨_,rfl⟩ (.cons ⟨_,rfl⟩ (.nil))⟩)
 have gp3:KTup K p3 [.str "new",.str "board"]:=(⟨_,_,_,up3,rfl,rfl,by show 2<=sizeLine; decide,.cons ⟨_,rfl⟩ (.cons ⟨_,rfl⟩ (.nil))⟩)
 have gp4:KTup K p4 [.str "new",.str "board",.str "board",.str "leap"]:=(⟨_,_,_,up4,rfl,rfl,by show 4<=sizeLine; decide,.cons ⟨_,rfl⟩ (.cons ⟨_,rfl⟩ (.cons ⟨_,rfl⟩ (.cons ⟨_,rfl⟩ (.nil))))⟩)
 have gp5:KTup K p5 [.str "new",.str "pipes",.str "wind"]:=(⟨_,_,_,up5,rfl,rfl,by show 3<=sizeLine; decide,.cons ⟨_,rfl⟩ (.cons ⟨_,rfl⟩ (.cons ⟨_,rfl⟩ (.nil)))⟩)
 have gp6:KTup K p6 [.str "rank",.str "shift",.str "low",.str "high"]:=(⟨_,_,_,up6,rfl,rfl,by show 4<=sizeLine; decide,.cons ⟨_,rfl⟩ (.cons ⟨_,rfl⟩ (.cons ⟨_,rfl⟩ (.cons ⟨_,rfl⟩ (.nil))))⟩)
 have gb1:KTup K b1 [.int (1),.int (61)]:=(⟨_,_,_,ub1,rfl,rfl,by show 2<=sizeLine; decide,.cons ⟨_,rfl⟩ (.cons ⟨_,rfl⟩ (.nil))⟩)
 have gb2:KTup K b2 [.int (-60),.int (60)]:=(⟨_,_,_,ub2,rfl,rfl,by show 2<=sizeLine; decide,.cons ⟨_,rfl⟩ (.cons ⟨_,rfl⟩ (.nil))⟩)
 have gb3:KTup K b3 [.int (1),.int (97)]:=(⟨_,_,_,ub3,rfl,rfl,by show 2<=sizeLine; decide,.cons ⟨_,rfl⟩ (.cons ⟨_,rfl⟩ (.nil))⟩)
 have gb4:KTup K b4 [.int (0),.int (1000000000)]:=(⟨_,_,_,ub4,rfl,rfl,by show 2<=sizeLine; decide,.cons ⟨_,rfl⟩ (.cons ⟨_,rfl⟩ (.nil))⟩)
 have gb5:KTup K b5 [.int (-200),.int (200)]:=(⟨_,_,_,ub5,rfl,rfl,by show 2<=sizeLine; decide,.cons ⟨_,rfl⟩ (.cons ⟨_,rfl⟩ (.nil))⟩)
 have gb6:KTup K b6 [.int (0),.int (60)]:=(⟨_,_,_,ub6,rfl,rfl,by show 2<=sizeLine; decide,.cons ⟨_,rfl⟩ (.cons ⟨_,rfl⟩ (.nil))⟩)
 have gb7:KTup K b7 [.int (0),.int (60)]:=(⟨_,_,_,ub7,rfl,rfl,by show 2<=sizeLine; decide,.cons ⟨_,rfl⟩ (.cons ⟨_,rfl⟩ (.nil))⟩)
 have F0:PX K aB aP aM:=⟨⟨⟨_,qp1,gp1⟩,⟨_,qp2,gp2⟩,⟨_,qp3,gp3⟩,⟨_,qp4,gp4⟩,⟨_,qb1,gb1⟩,⟨_,qb2,gb2⟩,qn,qb,⟨_,qm1⟩,⟨_,qm2⟩,⟨_,qm3⟩,⟨_,qm4⟩⟩,⟨_,qp5,gp5⟩,⟨_,qp6,gp6⟩,⟨_,qb3,gb3⟩,⟨_,qb4,gb4⟩,⟨_,qb5,gb5⟩,⟨_,qb6,gb6⟩,⟨_,qb7,gb7⟩,qr,⟨_,qm5⟩,ql⟩
 have T:Txt K w.params mg C aN aK aB aP aM:=⟨PySem.W.mg_none_of X G zlen,PySem.W.mg_none_of X G zisinstance,PySem.W.mg_none_of X G zint,PySem.W.mg_none_of X G zbool,PySem.W.mg_none_of X G zstr,PySem.W.mg_none_of X G zlist,PySem.W.mg_none_of X G ztuple,PySem.W.mg_none_of X G zall,PySem.W.mg_none_of X G zany,PySem.W.mg_none_of X G zsum,PySem.W.mg_none_of X G zrange,PySem.W.mg_none_of X G zzip,PySem.W.mg_none_of X G zenumerate,PySem.W.mg_none_of X G zmax,PySem.W.mg_none_of X G zreversed,PySem.W.mg_none_of X G zset,PySem.W.mg_none_of X G zsorted,⟨_,PySem.W.mg_of X G zLET⟩,⟨_,PySem.W.mg_of X G zML⟩,⟨_,PySem.W.mg_of X G zMR⟩,⟨_,PySem.W.mg_of X G zMLn⟩,⟨_,PySem.W.mg_of X G zMB⟩,PySem.W.mg_of X G rN,PySem.W.mg_of X G rK,PySem.W.mg_of X G rB,PySem.W.mg_of X G rP,PySem.W.mg_of X G rM,gN,gK,⟨⟨_,_,dB,kB⟩,oB⟩,⟨⟨_,_,dP,kP⟩,oP⟩,⟨⟨_,_,dM,kM⟩,oM⟩,⟨pg,hd,po,sa⟩,PySem.W.mg_of X G aC,n_row_list_,n_board_list_,n_rank_list_,n_knob_rows_,n_board_numbers_,n_rank_numbers_,n_knob_numbers_,n_key_places_,n_pipe_places_,n_knob_lines_,n_step_sets_⟩
 have N:jY K mg C fWh fMd fNm fRo fTo fWi fPa fHp fCl fIk fSb fWm fHr fIr fCk fNu fCa fPl fLi fMy fSt fHa fMe fSh fUn fLe fDc fHk fWa fCq fMu fUk fSk fNb fLl fBs fBa fSo fCe fLw fMx fBi fNa fSz fLn fKn fKs fRw fSp fWd fDr fHd fGo fCo fSk2 fPi fSd fOi fOb fOc fOk fOo fBk fOp fOr fOq fOe fOs fOm fOz _ _ _ _ _ _ _ _ _ _ _ _ _ _ _ _ _ _ _ _ _ _ _ _ _ _ _ _ _ _ _ _ _ _ _ _ _ _ _ _ _ _ _ _ _ _ _ _ _ _ _ _ _ _ _ _ _ _ _ _ _ _ _ _ _ _ _ _ _ _:=⟨⟨FWh,bWh,PySem.W.mg_of X G aWh⟩,⟨FMd,bMd,PySem.W.mg_of X G aMd⟩,⟨FNm,bNm,PySem.W.mg_of X G aNm⟩,⟨FRo,bRo,PySem.W.mg_of X G aRo⟩,⟨FTo,bTo,PySem.W.mg_of X G aTo⟩,⟨FWi,bWi,PySem.W.mg_of X G aWi⟩,⟨FPa,bPa,PySem.W.mg_of X G aPa⟩,⟨FHp,bHp,PySem.W.mg_of X G aHp⟩,⟨FCl,bCl,PySem.W.mg_of X G aCl⟩,⟨FIk,bIk,PySem.W.mg_of X G aIk⟩,⟨FSb,bSb,PySem.W.mg_of X G aSb⟩,⟨FWm,bWm,PySem.W.mg_of X G aWm⟩,⟨FHr,bHr,PySem.W.mg_of X G aHr⟩,⟨FIr,bIr,PySem.W.mg_of X G aIr⟩,⟨FCk,bCk,PySem.W.mg_of X G aCk⟩,⟨FNu,bNu,PySem.W.mg_of X G aNu⟩,⟨FCa,bCa,PySem.W.mg_of X G aCa⟩,⟨FPl,bPl,PySem.W.mg_of X G aPl⟩,⟨FLi,bLi,PySem.W.mg_of X G aLi⟩,⟨FMy,bMy,PySem.W.mg_of X G aMy⟩,⟨FSt,bSt,PySem.W.mg_of X G aSt⟩,⟨FHa,bHa,PySem.W.mg_of X G aHa⟩,⟨FMe,bMe,PySem.W.mg_of X G aMe⟩,⟨FSh,bSh,PySem.W.mg_of X G aSh⟩,⟨FUn,bUn,PySem.W.mg_of X G aUn⟩,⟨FLe,bLe,PySem.W.mg_of X G aLe⟩,⟨FDc,bDc,PySem.W.mg_of X G aDc⟩,⟨FHk,bHk,PySem.W.mg_of X G aHk⟩,⟨FWa,bWa,PySem.W.mg_of X G aWa⟩,⟨FCq,bCq,PySem.W.mg_of X G aCq⟩,⟨FMu,bMu,PySem.W.mg_of X G aMu⟩,⟨FUk,bUk,PySem.W.mg_of X G aUk⟩,⟨FSk,bSk,PySem.W.mg_of X G aSk⟩,⟨FNb,bNb,PySem.W.mg_of X G aNb⟩,⟨FLl,bLl,PySem.W.mg_of X G aLl⟩,⟨FBs,bBs,PySem.W.mg_of X G aBs⟩,⟨FBa,bBa,PySem.W.mg_of X G aBa⟩,⟨FSo,bSo,PySem.W.mg_of X G aSo⟩,⟨FCe,bCe,PySem.W.mg_of X G aCe⟩,⟨FLw,bLw,PySem.W.mg_of X G aLw⟩,⟨FMx,bMx,PySem.W.mg_of X G aMx⟩,⟨FBi,bBi,PySem.W.mg_of X G aBi⟩,⟨FNa,bNa,PySem.W.mg_of X G aNa⟩,⟨FSz,bSz,PySem.W.mg_of X G aSz⟩,⟨FLn,bLn,PySem.W.mg_of X G aLn⟩,⟨FKn,bKn,PySem.W.mg_of X G aKn⟩,⟨FKs,bKs,PySem.W.mg_of X G aKs⟩,⟨FRw,bRw,PySem.W.mg_of X G aRw⟩,⟨FSp,bSp,PySem.W.mg_of X G aSp⟩,⟨FWd,bWd,PySem.W.mg_of X G aWd⟩,⟨FDr,bDr,PySem.W.mg_of X G aDr⟩,⟨FHd,bHd,PySem.W.mg_of X G aHd⟩,⟨FGo,bGo,PySem.W.mg_of X G aGo⟩,⟨FCo,bCo,PySem.W.mg_of X G aCo⟩,⟨FSk2,bSk2,PySem.W.mg_of X G aSk2⟩,⟨FPi,bPi,PySem.W.mg_of X G aPi⟩,⟨FSd,bSd,PySem.W.mg_of X G aSd⟩,⟨FOi,bOi,⟨mkC,aOi,iOi,kc⟩⟩,⟨FOb,bOb,⟨aOb,iOb,kOb⟩⟩,⟨FOc,bOc,⟨aOc,iOc,kOc⟩⟩,⟨FOk,bOk,⟨aOk,iOk,kOk⟩⟩,⟨FOo,bOo,⟨aOo,iOo,kOo⟩⟩,⟨FBk,bBk,⟨aBk,iBk,kBk⟩⟩,⟨FOp,bOp,⟨aOp,iOp,kOp⟩⟩,⟨FOr,bOr,⟨aOr,iOr,kOr⟩⟩,⟨FOq,bOq,⟨aOq,iOq,kOq⟩⟩,⟨FOe,bOe,⟨aOe,iOe,kOe⟩⟩,⟨FOs,bOs,⟨aOs,iOs,kOs⟩⟩,⟨FOm,bOm,⟨aOm,iOm,kOm⟩⟩,⟨FOz,bOz,⟨aOz,iOz,kOz⟩⟩⟩
 exact ⟨PySem.W.fnOf "law" "law" (Aq KJ) (An KJ) (Ab KJ) .none kVZ dcZ pmZ anZ cdZ ctZ,fun s v=>.of_eq rfl,fun base _ _=>W_ FZ N T F0⟩
theorem walk {l:PySem.W.OpenLaw} {q:Program} {loose:List Str} {XP:(Str->Option Value)->Heap->Prop} {YP:World->Heap->Prop} {d:DefRec} {K:Params->PySem.W.Frag} (hn:l.most=some 63) (hdf:d.params.defaults=[])
  (hY:∀ (w:World) (h:Heap),YP w h->(K w.params).In h)
  (F:∀ (w:World) (mg:Str->Option Value) (fa:Addr) (h:Heap),(K w.params).In h->h.Ns mainGlobals mg->mg d.name=some (.ref fa) ->
   ∃ fd:FuncData,(∀ (s:Shared) (u:Value),BindsTo s fd ⟨[u],[]⟩ [("_law_script",u)])/\∀ base:Heap,(K w.params).In base->base.Ns mainGlobals mg->Ax l.prog w (K w.params) mg base Bf 11 fa fd ["_law_script"] (PQ (K w.params))) :
  PySem.W.WalkO q loose XP YP l.row.toRowW d [] (fun f vs=>PySem.call f vs) :=
 L2.Ur (n:=63) (k:=11) (x:="_law_script") (CX:=fun _=>Bf) (sp:=fun w=>PQ (K w.params)) hn (by decide) hdf ⟨rfl,by decide,by decide⟩ hY F (fun _ _ a ns hl _ hS=>⟨a,ns,rfl,hS,hl,fun _=>rfl⟩) fun _ _ _ _ _ z=>z
end K22
open PySem PySem.W PyProof.Rows
noncomputable def PySem.W.Fast.tw4639533668833876377:Unit:=()
noncomputable def PySem.W.Fast.tw10524254402261224752:Unit:=()
noncomputable def PySem.W.Fast.tw3931506824787535692:Unit:=()
noncomputable def PySem.W.Fast.tw1228740128655330824:Unit:=()
noncomputable def PySem.W.Fast.tw11732084196711953877:Unit:=()
noncomputable def PySem.W.Fast.tw10097289103646238425:Unit:=()
noncomputable def PySem.W.Fast.tw18380842635185530420:Unit:=()
noncomputable def PySem.W.Fast.tw13176650060338153922:Unit:=()
noncomputable def PySem.W.Fast.tw5268158428063366487:Unit:=()
noncomputable def PySem.W.Fast.tw16403577226021102748:Unit:=()
noncomputable def PySem.W.Fast.tw17337933792716561642:Unit:=()
noncomputable def PySem.W.Fast.tw17096588895138260263:Unit:=()
noncomputable def PySem.W.Fast.tw15576684864497408062:Unit:=()
noncomputable def PySem.W.Fast.tw16471119314693668495:Unit:=()
noncomputable def PySem.W.Fast.tw18177054963295300861:Unit:=()
noncomputable def PySem.W.Fast.tw9797472335400938834:Unit:=()
noncomputable def PySem.W.Fast.tw13187043930444732061:Unit:=()
noncomputable def PySem.W.Fast.tw3798271488158946794:Unit:=()
noncomputable def PySem.W.Fast.tw15460389481973476415:Unit:=()
noncomputable def PySem.W.Fast.tw11727182490281438643:Unit:=()
noncomputable def PySem.W.Fast.tw5627014842348565097:Unit:=()
noncomputable def PySem.W.Fast.tw7038550505297135452:Unit:=()
noncomputable def PySem.W.Fast.tw17307834858589352303:Unit:=()
noncomputable def PySem.W.Fast.tw15973203125800969514:Unit:=()
noncomputable def PySem.W.Fast.tw10630824312916656440:Unit:=()
noncomputable def PySem.W.Fast.tw15984723824165335167:Unit:=()
noncomputable def PySem.W.Fast.tw3995497870017238870:Unit:=()
noncomputable def PySem.W.Fast.tw6738031575255133214:Unit:=()
noncomputable def PySem.W.Fast.tw16822212864906932805:Unit:=()
noncomputable def PySem.W.Fast.tw15963915634383882702:Unit:=()
noncomputable def PySem.W.Fast.tw5858582716462265605:Unit:=()
noncomputable def PySem.W.Fast.tw5681983871248125373:Unit:=()
noncomputable def PySem.W.Fast.tw5219544861323644628:Unit:=()
noncomputable def PySem.W.Fast.tw2425515598091531458:Unit:=()
noncomputable def PySem.W.Fast.tw17371515802726110952:Unit:=()
noncomputable def PySem.W.Fast.tw3800889389336842227:Unit:=()
noncomputable def PySem.W.Fast.tw18184486358887327659:Unit:=()
noncomputable def PySem.W.Fast.tw6941980520074025428:Unit:=()
noncomputable def PySem.W.Fast.tw12552652809108956973:Unit:=()
noncomputable def PySem.W.Fast.tw10075483857909896932:Unit:=()
noncomputable def PySem.W.Fast.tw12139592984730830991:Unit:=()
noncomputable def PySem.W.Fast.tw18386287095885248585:Unit:=()
noncomputable def PySem.W.Fast.tw4397707897264390002:Unit:=()
noncomputable def PySem.W.Fast.tw1137855672870186176:Unit:=()
noncomputable def PySem.W.Fast.tw7048993738663655153:Unit:=()
noncomputable def PySem.W.Fast.tw12239547137377861617:Unit:=()
noncomputable def PySem.W.Fast.tw6665247219230225575:Unit:=()
noncomputable def PySem.W.Fast.tw14156185837220504100:Unit:=()
noncomputable def PySem.W.Fast.tw1194188965284522478:Unit:=()
noncomputable def PySem.W.Fast.tw14440598379021108612:Unit:=()
noncomputable def PySem.W.Fast.tw13504876356728366619:Unit:=()
noncomputable def PySem.W.Fast.tw12434977334972264724:Unit:=()
noncomputable def PySem.W.Fast.tw8029616148007175874:Unit:=()
noncomputable def PySem.W.Fast.tw3077149074549789167:Unit:=()
noncomputable def PySem.W.Fast.tw7938666609808924422:Unit:=()
noncomputable def PySem.W.Fast.tw210792853673323315:Unit:=()
noncomputable def PySem.W.Fast.tw6375906493860628732:Unit:=()
noncomputable def PySem.W.Fast.tw1085198695423581723:Unit:=()
noncomputable def PySem.W.Fast.tw2490795407018884573:Unit:=()
noncomputable def PySem.W.Fast.tw14834617902906167308:Unit:=()
noncomputable def PySem.W.Fast.tw6958322690936301630:Unit:=()
noncomputable def PySem.W.Fast.tw11534886510314555443:Unit:=()
noncomputable def PySem.W.Fast.tw8808477431216849023:Unit:=()
noncomputable def PySem.W.Fast.tw14512082204822650047:Unit:=()
noncomputable def PySem.W.Fast.tw12628072667482588868:Unit:=()
noncomputable def PySem.W.Fast.tw9455468725520508827:Unit:=()
noncomputable def PySem.W.Fast.tw6886830562380281869:Unit:=()
noncomputable def PySem.W.Fast.tw13446799110217052723:Unit:=()
noncomputable def PySem.W.Fast.tw15757904219721468283:Unit:=()
noncomputable def PySem.W.Fast.tw18336437554640061647:Unit:=()
noncomputable def PySem.W.Fast.tw14191292137138715668:Unit:=()
noncomputable def PySem.W.Fast.tw1003651771410811337:Unit:=()
noncomputable def PySem.W.Fast.tw1577166266078518196:Unit:=()
noncomputable def PySem.W.Fast.tw5340035780300796562:Unit:=()
noncomputable def PySem.W.Fast.tw4982986292654151312:Unit:=()
noncomputable def PySem.W.Fast.tw3772669456796112265:Unit:=()
noncomputable def PySem.W.Fast.tw3164231557234303508:Unit:=()
noncomputable def PySem.W.Fast.tw5300440964284350147:Unit:=()
noncomputable def PySem.W.Fast.tw12999572695213446756:Unit:=()
noncomputable def PySem.W.Fast.tw11269584020934378047:Unit:=()
noncomputable def PySem.W.Fast.tw18116417391525432025:Unit:=()
noncomputable def PySem.W.Fast.tw5791099155244700608:Unit:=()
noncomputable def PySem.W.Fast.tw6299966058951352444:Unit:=()
noncomputable def PySem.W.Fast.tw5346159382224330420:Unit:=()
noncomputable def PySem.W.Fast.tw17220887267605459488:Unit:=()
noncomputable def PySem.W.Fast.tw16755548864614391431:Unit:=()
noncomputable def PySem.W.Fast.tw5799996601068569358:Unit:=()
noncomputable def PySem.W.Fast.tw9348049636337206167:Unit:=()
noncomputable def PySem.W.Fast.tw8736263850080549354:Unit:=()
noncomputable def PySem.W.Fast.tw9000808278503577844:Unit:=()
noncomputable def PySem.W.Fast.tw17039487744796439980:Unit:=()
noncomputable def PySem.W.Fast.tw10211449197458288573:Unit:=()
noncomputable def PySem.W.Fast.tw826176494933810706:Unit:=()
noncomputable def PySem.W.Fast.tw2819058469699679762:Unit:=()
noncomputable def PySem.W.Fast.tw4338218308924215323:Unit:=()
set_option maxRecDepth 100000 in
set_option maxHeartbeats 0 in
theorem PySem.Challenge.cw_windchest_k22_pipes_that_sound_holds : PySem.Challenge.rw_windchest_k22_pipes_that_sound.Holds := by
 w_on; o_law; k_head; (case hw=>w_witness2)
 k_fill
 refine K22.walk (l:=PySem.Challenge.rw_windchest_k22_pipes_that_sound) rfl rfl (fun w h Y=>PySem.W.kIn_of Y) ?F
 case F =>
  intro w mg fa h KX G hmg
  refine' K22.YG KX G hmg ?aWh ?lWh ?cWh ?kWh ?aMd ?lMd ?cMd ?kMd ?aNm ?lNm ?cNm ?kNm ?aRo ?lRo ?cRo ?kRo ?aTo ?lTo ?cTo ?kTo ?aWi ?lWi ?cWi ?kWi ?aPa ?lPa ?cPa ?kPa ?aHp ?lHp ?cHp ?kHp ?aCl ?lCl ?cCl ?kCl ?aIk ?lIk ?cIk ?kIk ?aSb ?lSb ?cSb ?kSb ?aWm ?lWm ?cWm ?kWm ?aHr ?lHr ?cHr ?kHr ?aIr ?lIr ?cIr ?kIr ?aCk ?lCk ?cCk ?kCk ?aNu ?lNu ?cNu ?kNu ?aCa ?lCa ?cCa ?kCa ?aPl ?lPl ?cPl ?kPl ?aLi ?lLi ?cLi ?kLi ?aMy ?lMy ?cMy ?kMy ?aSt ?lSt ?cSt ?kSt ?aHa ?lHa ?cHa ?kHa ?aMe ?lMe ?cMe ?kMe ?aSh ?lSh ?cSh ?kSh ?aUn ?lUn ?cUn ?kUn ?aLe ?lLe ?cLe ?kLe ?aDc ?lDc ?cDc ?kDc ?aHk ?lHk ?cHk ?kHk ?aWa ?lWa ?cWa ?kWa ?aCq ?lCq ?cCq ?kCq ?aMu ?lMu ?cMu ?kMu ?aUk ?lUk ?cUk ?kUk ?aSk ?lSk ?cSk ?kSk ?aNb ?lNb ?cNb ?kNb ?aLl ?lLl ?cLl ?kLl ?aBs ?lBs ?cBs ?kBs ?aBa ?lBa ?cBa ?kBa ?aSo ?lSo ?cSo ?kSo ?aCe ?lCe ?cCe ?kCe ?aLw ?lLw ?cLw ?kLw ?aMx ?lMx ?cMx ?kMx ?aBi ?lBi ?cBi ?kBi ?aNa ?lNa ?cNa ?kNa ?aSz ?lSz ?cSz ?kSz ?aLn ?lLn ?cLn ?kLn ?aKn ?lKn ?cKn ?kKn ?aKs ?lKs ?cKs ?kKs ?aRw ?lRw ?cRw ?kRw ?aSp ?lSp ?cSp ?kSp ?aWd ?lWd ?cWd ?kWd ?aDr ?lDr ?cDr ?kDr ?aHd ?lHd ?cHd ?kHd ?aGo ?lGo ?cGo ?kGo ?aCo ?lCo ?cCo ?kCo ?aSk2 ?lSk2 ?cSk2 ?kSk2 ?aPi ?lPi ?cPi ?kPi ?aSd ?lSd ?cSd ?kSd ?aZ ?lZ ?cZ ?kZ ?aC ?aOi ?iOi ?lOi ?cOi ?kOi ?aOb ?iOb ?lOb ?cOb ?kOb ?aOc ?iOc ?lOc ?cOc ?kOc ?aOk ?iOk ?lOk ?cOk ?kOk ?aOo ?iOo ?lOo ?cOo ?kOo ?aBk ?iBk ?lBk ?cBk ?kBk ?aOp ?iOp ?lOp ?cOp ?kOp ?aOr ?iOr ?lOr ?cOr ?kOr ?aOq ?iOq ?lOq ?cOq ?kOq ?aOe ?iOe ?lOe ?cOe ?kOe ?aOs ?iOs ?lOs ?cOs ?kOs ?aOm ?iOm ?lOm ?cOm ?kOm ?aOz ?iOz ?lOz ?cOz ?kOz ?pg ?hd ?po ?sa ?mkC ?kc ?n_row_list_ ?n_board_list_ ?n_rank_list_ ?n_knob_rows_ ?n_board_numbers_ ?n_rank_numbers_ ?n_knob_numbers_ ?n_key_places_ ?n_pipe_places_ ?n_knob_lines_ ?n_step_sets_ ?zlen ?zisinstance ?zint ?zbool ?zstr ?zlist ?ztuple ?zall ?zany ?zsum ?zrange ?zzip ?zenumerate ?zmax ?zreversed ?zset ?zsorted ?zLET ?zML ?zMR ?zMLn ?zMB ?rN ?rK ?rB ?rP ?rM ?dB ?kB ?oB ?dP ?kP ?oP ?dM ?kM ?oM ?qp1 ?qp2 ?qp3 ?qp4 ?qp5 ?qp6 ?qb1 ?qb2 ?qb3 ?qb4 ?qb5 ?qb6 ?qb7 ?qn ?qb ?qr ?ql ?qm1 ?qm2 ?qm3 ?qm4 ?qm5 ?uN ?uK ?up1 ?up2 ?up3 ?up4 ?up5 ?up6 ?ub1 ?ub2 ?ub3 ?ub4 ?ub5 ?ub6 ?ub7
  (case aWh=>k_is)
  (case lWh=>k_is)
  (case cWh=>k_is)
  (case kWh=>k_is)
  (case aMd=>k_is)
  (case lMd=>k_is)
  (case cMd=>k_is)
  (case kMd=>k_is)
  (case aNm=>k_is)
  (case lNm=>k_is)
  (case cNm=>k_is)
  (case kNm=>k_is)
  (case aRo=>k_is)
  (case lRo=>k_is)
  (case cRo=>k_is)
  (case kRo=>k_is)
  (case aTo=>k_is)
  (case lTo=>k_is)
  (case cTo=>k_is)
  (case kTo=>k_is)
  (case aWi=>k_is)
  (case lWi=>k_is)
  (case cWi=>k_is)
  (case kWi=>k_is)
  (case aPa=>k_is)
  (case lPa=>k_is)
  (case cPa=>k_is)
  (case kPa=>k_is)
  (case aHp=>k_is)
  (case lHp=>k_is)
  (case cHp=>k_is)
  (case kHp=>k_is)
  (case aCl=>k_is)
  (case lCl=>k_is)
  (case cCl=>k_is)
  (case kCl=>k_is)
  (case aIk=>k_is)
  (case lIk=>k_is)
  (case cIk=>k_is)
  (case kIk=>k_is)
  (case aSb=>k_is)
  (case lSb=>k_is)
  (case cSb=>k_is)
  (case kSb=>k_is)
  (case aWm=>k_is)
  (case lWm=>k_is)
  (case cWm=>k_is)
  (case kWm=>k_is)
  (case aHr=>k_is)
  (case lHr=>k_is)
  (case cHr=>k_is)
  (case kHr=>k_is)
  (case aIr=>k_is)
  (case lIr=>k_is)
  (case cIr=>k_is)
  (case kIr=>k_is)
  (case aCk=>k_is)
  (case lCk=>k_is)
  (case cCk=>k_is)
  (case kCk=>k_is)
  (case aNu=>k_is)
  (case lNu=>k_is)
  (case cNu=>k_is)
  (case kNu=>k_is)
  (case aCa=>k_is)
  (case lCa=>k_is)
  (case cCa=>k_is)
  (case kCa=>k_is)
  (case aPl=>k_is)
  (case lPl=>k_is)
  (case cPl=>k_is)
  (case kPl=>k_is)
  (case aLi=>k_is)
  (case lLi=>k_is)
  (case cLi=>k_is)
  (case kLi=>k_is)
  (case aMy=>k_is)
  (case lMy=>k_is)
  (case cMy=>k_is)
  (case kMy=>k_is)
  (case aSt=>k_is)
  (case lSt=>k_is)
  (case cSt=>k_is)
  (case kSt=>k_is)
  (case aHa=>k_is)
  (case lHa=>k_is)
  (case cHa=>k_is)
  (case kHa=>k_is)
  (case aMe=>k_is)
  (case lMe=>k_is)
  (case cMe=>k_is)
  (case kMe=>k_is)
  (case aSh=>k_is)
  (case lSh=>k_is)
  (case cSh=>k_is)
  (case kSh=>k_is)
  (case aUn=>k_is)
  (case lUn=>k_is)
  (case cUn=>k_is)
  (case kUn=>k_is)
  (case aLe=>k_is)
  (case lLe=>k_is)
  (case cLe=>k_is)
  (case kLe=>k_is)
  (case aDc=>k_is)
  (case lDc=>k_is)
  (case cDc=>k_is)
  (case kDc=>k_is)
  (case aHk=>k_is)
  (case lHk=>k_is)
  (case cHk=>k_is)
  (case kHk=>k_is)
  (case aWa=>k_is)
  (case lWa=>k_is)
  (case cWa=>k_is)
  (case kWa=>k_is)
  (case aCq=>k_is)
  (case lCq=>k_is)
  (case cCq=>k_is)
  (case kCq=>k_is)
  (case aMu=>k_is)
  (case lMu=>k_is)
  (case cMu=>k_is)
  (case kMu=>k_is)
  (case aUk=>k_is)
  (case lUk=>k_is)
  (case cUk=>k_is)
  (case kUk=>k_is)
  (case aSk=>k_is)
  (case lSk=>k_is)
  (case cSk=>k_is)
  (case kSk=>k_is)
  (case aNb=>k_is)
  (case lNb=>k_is)
  (case cNb=>k_is)
  (case kNb=>k_is)
  (case aLl=>k_is)
  (case lLl=>k_is)
  (case cLl=>k_is)
  (case kLl=>k_is)
  (case aBs=>k_is)
  (case lBs=>k_is)
  (case cBs=>k_is)
  (case kBs=>k_is)
  (case aBa=>k_is)
  (case lBa=>k_is)
  (case cBa=>k_is)
  (case kBa=>k_is)
  (case aSo=>k_is)
  (case lSo=>k_is)
  (case cSo=>k_is)
  (case kSo=>k_is)
  (case aCe=>k_is)
  (case lCe=>k_is)
  (case cCe=>k_is)
  (case kCe=>k_is)
  (case aLw=>k_is)
  (case lLw=>k_is)
  (case cLw=>k_is)
  (case kLw=>k_is)
  (case aMx=>k_is)
  (case lMx=>k_is)
  (case cMx=>k_is)
  (case kMx=>k_is)
  (case aBi=>k_is)
  (case lBi=>k_is)
  (case cBi=>k_is)
  (case kBi=>k_is)
  (case aNa=>k_is)
  (case lNa=>k_is)
  (case cNa=>k_is)
  (case kNa=>k_is)
  (case aSz=>k_is)
  (case lSz=>k_is)
  (case cSz=>k_is)
  (case kSz=>k_is)
  (case aLn=>k_is)
  (case lLn=>k_is)
  (case cLn=>k_is)
  (case kLn=>k_is)
  (case aKn=>k_is)
  (case lKn=>k_is)
  (case cKn=>k_is)
  (case kKn=>k_is)
  (case aKs=>k_is)
  (case lKs=>k_is)
  (case cKs=>k_is)
  (case kKs=>k_is)
  (case aRw=>k_is)
  (case lRw=>k_is)
  (case cRw=>k_is)
  (case kRw=>k_is)
  (case aSp=>k_is)
  (case lSp=>k_is)
  (case cSp=>k_is)
  (case kSp=>k_is)
  (case aWd=>k_is)
  (case lWd=>k_is)
  (case cWd=>k_is)
  (case kWd=>k_is)
  (case aDr=>k_is)
  (case lDr=>k_is)
  (case cDr=>k_is)
  (case kDr=>k_is)
  (case aHd=>k_is)
  (case lHd=>k_is)
  (case cHd=>k_is)
  (case kHd=>k_is)
  (case aGo=>k_is)
  (case lGo=>k_is)
  (case cGo=>k_is)
  (case kGo=>k_is)
  (case aCo=>k_is)
  (case lCo=>k_is)
  (case cCo=>k_is)
  (case kCo=>k_is)
  (case aSk2=>k_is)
  (case lSk2=>k_is)
  (case cSk2=>k_is)
  (case kSk2=>k_is)
  (case aPi=>k_is)
  (case lPi=>k_is)
  (case cPi=>k_is)
  (case kPi=>k_is)
  (case aSd=>k_is)
  (case lSd=>k_is)
  (case cSd=>k_is)
  (case kSd=>k_is)
  (case aZ=>k_is)
  (case lZ=>k_is)
  (case cZ=>k_is)
  (case kZ=>k_is)
  (case aC=>k_is)
  (case aOi=>k_is)
  (case iOi=>k_is)
  (case lOi=>k_is)
  (case cOi=>k_is)
  (case kOi=>k_is)
  (case aOb=>k_is)
  (case iOb=>k_is)
  (case lOb=>k_is)
  (case cOb=>k_is)
  (case kOb=>k_is)
  (case aOc=>k_is)
  (case iOc=>k_is)
  (case lOc=>k_is)
  (case cOc=>k_is)
  (case kOc=>k_is)
  (case aOk=>k_is)
  (case iOk=>k_is)
  (case lOk=>k_is)
  (case cOk=>k_is)
  (case kOk=>k_is)
  (case aOo=>k_is)
  (case iOo=>k_is)
  (case lOo=>k_is)
  (case cOo=>k_is)
  (case kOo=>k_is)
  (case aBk=>k_is)
  (case iBk=>k_is)
  (case lBk=>k_is)
  (case cBk=>k_is)
  (case kBk=>k_is)
  (case aOp=>k_is)
  (case iOp=>k_is)
  (case lOp=>k_is)
  (case cOp=>k_is)
  (case kOp=>k_is)
  (case aOr=>k_is)
  (case iOr=>k_is)
  (case lOr=>k_is)
  (case cOr=>k_is)
  (case kOr=>k_is)
  (case aOq=>k_is)
  (case iOq=>k_is)
  (case lOq=>k_is)
  (case cOq=>k_is)
  (case kOq=>k_is)
  (case aOe=>k_is)
  (case iOe=>k_is)
  (case lOe=>k_is)
  (case cOe=>k_is)
  (case kOe=>k_is)
  (case aOs=>k_is)
  (case iOs=>k_is)
  (case lOs=>k_is)
  (case cOs=>k_is)
  (case kOs=>k_is)
  (case aOm=>k_is)
  (case iOm=>k_is)
  (case lOm=>k_is)
  (case cOm=>k_is)
  (case kOm=>k_is)
  (case aOz=>k_is)
  (case iOz=>k_is)
  (case lOz=>k_is)
  (case cOz=>k_is)
  (case kOz=>k_is)
  (case pg=>k_is)
  (case hd=>k_is)
  (case po=>k_is)
  (case sa=>k_is)
  (case mkC=>k_is)
  (case kc=>k_is)
  (case n_row_list_=>k_is)
  (case n_board_list_=>k_is)
  (case n_rank_list_=>k_is)
  (case n_knob_rows_=>k_is)
  (case n_board_numbers_=>k_is)
  (case n_rank_numbers_=>k_is)
  (case n_knob_numbers_=>k_is)
  (case n_key_places_=>k_is)
  (case n_pipe_places_=>k_is)
  (case n_knob_lines_=>k_is)
  (case n_step_sets_=>k_is)
  (case zlen=>k_is)
  (case zisinstance=>k_is)
  (case zint=>k_is)
  (case zbool=>k_is)
  (case zstr=>k_is)
  (case zlist=>k_is)
  (case ztuple=>k_is)
  (case zall=>k_is)
  (case zany=>k_is)
  (case zsum=>k_is)
  (case zrange=>k_is)
  (case zzip=>k_is)
  (case zenumerate=>k_is)
  (case zmax=>k_is)
  (case zreversed=>k_is)
  (case zset=>k_is)
  (case zsorted=>k_is)
  (case zLET=>k_is)
  (case zML=>k_is)
  (case zMR=>k_is)
  (case zMLn=>k_is)
  (case zMB=>k_is)
  (case rN=>k_is)
  (case rK=>k_is)
  (case rB=>k_is)
  (case rP=>k_is)
  (case rM=>k_is)
  (case dB=>k_is)
  (case kB=>k_keys)
  (case oB=>decide)
  (case dP=>k_is)
  (case kP=>k_keys)
  (case oP=>decide)
  (case dM=>k_is)
  (case kM=>k_keys)
  (case oM=>decide)
  (case qp1=>k_is)
  (case qp2=>k_is)
  (case qp3=>k_is)
  (case qp4=>k_is)
  (case qp5=>k_is)
  (case qp6=>k_is)
  (case qb1=>k_is)
  (case qb2=>k_is)
  (case qb3=>k_is)
  (case qb4=>k_is)
  (case qb5=>k_is)
  (case qb6=>k_is)
  (case qb7=>k_is)
  (case qn=>k_is)
  (case qb=>k_is)
  (case qr=>k_is)
  (case ql=>k_is)
  (case qm1=>k_is)
  (case qm2=>k_is)
  (case qm3=>k_is)
  (case qm4=>k_is)
  (case qm5=>k_is)
  (case uN=>k_is)
  (case uK=>k_is)
  (case up1=>k_is)
  (case up2=>k_is)
  (case up3=>k_is)
  (case up4=>k_is)
  (case up5=>k_is)
  (case up6=>k_is)
  (case ub1=>k_is)
  (case ub2=>k_is)
  (case ub3=>k_is)
  (case ub4=>k_is)
  (case ub5=>k_is)
  (case ub6=>k_is)
  (case ub7=>k_is)
end PartK22z
