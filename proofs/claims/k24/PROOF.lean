import PyProof.Rows.All
import Wide.All
import OpenK.AllK
import Wide.FinOn
import Lean
import PyProof.EqAt
import PyProof.EqKinds
import PyProof.TupleCall
import PyProof.ZipIter
import PyProof.WalksEnum
import PyProof.EnumMake
import PyProof.NeKinds
import KE.KDictList
import PyProof.Rows.SetFrom
import PyProof.StrWalks
import PyProof.CollectWalk
import PyProof.Rows.SortWalk
import PyProof.Rows.BitMore
import PyProof.Rows.IntCalls
import KE.KRevIter
import PyProof.SetRoads
import OpenK.KTop
import PyProof.Rows.StrWeight2
import PyProof.SumWalk
import PyProof.SliceList
import PyProof.Rows.StrClose
import PyProof.Rows.CatFin
import KE.KUnpack
import PySem.Challenge.RW_windchest_k24_whole_sound_is_shown
local macro_rules | `(tactic| omega) => `(tactic| lia)
set_option Elab.async false
set_option linter.all false
set_option maxRecDepth 100000
namespace L2
open PySem PySem.Spec PyProof.Rows
noncomputable abbrev Key:=Sum Int Str
noncomputable def J3:Key->Value->Bool
 | .inl k,v=>Value.isInt k v
 | .inr x,v=>Value.isStrOf x v
noncomputable def jQ (w:World):Key->Int
 | .inl k=>hashInt k
 | .inr x=>hashStr w x
theorem Cg:∀ {k:Key} {v:Value},J3 k v=true->(∃ i t,k=Sum.inl i/\v=Value.int i t) \/ (∃ x t,k=Sum.inr x/\v=Value.str x t)
 | .inl i,v,h=>by
  obtain ⟨t,e⟩:=Value.isInt_shape (k:=i) (v:=v) h
  exact .inl ⟨i,t,rfl,e⟩
 | .inr x,v,h=>by
  obtain ⟨t,e⟩:=Value.isStrOf_shape (x:=x) (v:=v) h
  exact .inr ⟨x,t,rfl,e⟩
theorem RT (i:Int) (t:Tok):J3 (.inl i) (.int i t)=true:=by simp [J3,Value.isInt]
theorem Ql (x:Str) (t:Tok):J3 (.inr x) (.str x t)=true:=by simp [J3,Value.isStrOf]
theorem YW (a b:Int):decide ((Sum.inl a:Key)=Sum.inl b)=(a == b):=by
 by_cases e:a=b
 ·subst e; simp
 ·have h:¬ (Sum.inl a:Key)=Sum.inl b:=fun q=>e (Sum.inl.inj q)
  rw [decide_eq_false h]
  exact (beq_eq_false_iff_ne.mpr e).symm
theorem Yk (a b:Str):decide ((Sum.inr a:Key)=Sum.inr b)=decide (a=b):=by
 by_cases e:a=b
 ·subst e; simp
 ·have h:¬ (Sum.inr a:Key)=Sum.inr b:=fun q=>e (Sum.inr.inj q)
  rw [decide_eq_false h,decide_eq_false e]
theorem XC (a:Int) (b:Str):decide ((Sum.inl a:Key)=Sum.inr b)=false:=decide_eq_false (fun q=>nomatch q)
theorem Xb (a:Str) (b:Int):decide ((Sum.inr a:Key)=Sum.inl b)=false:=decide_eq_false (fun q=>nomatch q)
noncomputable def Ck (prog:Program) (w:World):PySem.KeyKind prog w Key where
 is:=J3
 hash:=jQ w
 inj:=fun v a b ha hb=>by
  rcases Cg ha with ⟨i,t,rfl,rfl⟩ | ⟨x,t,rfl,rfl⟩
  ·rcases Cg hb with ⟨j,u,rfl,e⟩ | ⟨y,u,rfl,e⟩
   ·injection e with e1 _; rw [e1]
   ·exact nomatch e
  ·rcases Cg hb with ⟨j,u,rfl,e⟩ | ⟨y,u,rfl,e⟩
   ·exact nomatch e
   ·injection e with e1 _; rw [e1]
 byValue:=fun k v h=>by
  rcases Cg h with ⟨i,t,rfl,rfl⟩ | ⟨x,t,rfl,rfl⟩ <;> rfl
 pyHash:=fun hv h=>by
  rcases Cg hv with ⟨i,t,rfl,rfl⟩ | ⟨x,t,rfl,rfl⟩
  ·exact wpAny_pyHash_int h
  ·exact wpAny_pyHash_str h
 eqBool:=fun hu hv h=>by
  rcases Cg hu with ⟨i,t,rfl,rfl⟩ | ⟨x,t,rfl,rfl⟩
  ·rcases Cg hv with ⟨j,u,rfl,rfl⟩ | ⟨y,u,rfl,rfl⟩
   ·rw [YW] at h; exact wpAny_eqBool_int h
   ·rw [XC] at h; exact SeqAt.EqAt.int_str i t y u _ _ _ _ h
  ·rcases Cg hv with ⟨j,u,rfl,rfl⟩ | ⟨y,u,rfl,rfl⟩
   ·rw [Xb] at h; exact SeqAt.EqAt.str_int x t j u _ _ _ _ h
   ·rw [Yk] at h; exact wpAny_eqBool_str h
 «strs»:=fun k x t v h=>by
  rcases Cg h with ⟨i,u,rfl,e⟩ | ⟨y,u,rfl,e⟩
  ·exact nomatch e
  ·injection e with e1 _
   subst e1
   cases v <;> rfl
theorem Mr (prog:Program) (w:World) (i:Int) (t:Tok):(Ck prog w).is (.inl i) (.int i t)=true:=RT i t
theorem M_ (prog:Program) (w:World) (x:Str) (t:Tok):(Ck prog w).is (.inr x) (.str x t)=true:=Ql x t
end L2
namespace L2
open PySem PySem.Spec PyProof.Rows
inductive V where
 | non | bl (b:Bool) | int (i:Int) | str (x:Str) | byt (b:Array UInt8) | flt (b:UInt64) | ref (a:Addr) | ty (n:String)
 deriving DecidableEq
noncomputable def RelV:V->Value->Prop
 | .non,u=>u=Value.none
 | .bl b,u=>u=Value.bool b
 | .int i,u=>∃ t,u=Value.int i t
 | .str x,u=>∃ t,u=Value.str x t
 | .byt b,u=>∃ t,u=Value.bytes b t
 | .flt b,u=>∃ t,u=Value.float b t
 | .ref a,u=>u=Value.ref a
 | .ty n,u=>u=Value.type n
noncomputable abbrev Vals:List V->List Value->Prop:=Paired RelV
theorem Vals.length {xs:List V} {us:List Value} (r:Vals xs us):xs.length=us.length:=Paired.length r
theorem Vals.get:∀ {xs:List V} {us:List Value} {i:Nat} {x:V},Vals xs us->xs[i]? = some x->∃ u,us[i]? = some u/\RelV x u
 | _,_,_,_,.nil,e=>by simp at e
 | _,_,0,_,.cons r _,e=>by simp at e; subst e; exact ⟨_,rfl,r⟩
 | _,_,i+1,x,.cons _ t,e=>by
  obtain ⟨u,h1,h2⟩:=Vals.get (i:=i) (x:=x) t (by simpa using e)
  exact ⟨u,by simpa using h1,h2⟩
theorem Vals.append:∀ {xs ys:List V} {us ws:List Value},Vals xs us->Vals ys ws->Vals (xs++ys) (us++ws)
 | _,_,_,_,.nil,s=>s
 | _,_,_,_,.cons r t,s=>.cons r (Vals.append t s)
theorem Vals.take:∀ {xs:List V} {us:List Value} (n:Nat),Vals xs us->Vals (xs.take n) (us.take n)
 | _,_,0,_=>.nil
 | _,_,_+1,.nil=>.nil
 | _,_,n+1,.cons r t=>.cons r (Vals.take n t)
theorem Vals.drop:∀ {xs:List V} {us:List Value} (n:Nat),Vals xs us->Vals (xs.drop n) (us.drop n)
 | _,_,0,r=>r
 | _,_,_+1,.nil=>.nil
 | _,_,n+1,.cons _ t=>Vals.drop n t
noncomputable def Hc:Option V->Option Value->Prop
 | some v,some u=>RelV v u
 | none,none=>True
 | _,_=>False
noncomputable def KV {κ:Type}:List (κ × V)->List (κ × Value)->Prop:=Paired fun (p:κ × V) (q:κ × Value)=>p.1=q.1/\RelV p.2 q.2
noncomputable def kV:Key->V
 | .inl i=>.int i
 | .inr x=>.str x
inductive HO where
 | lst (xs:List V)
 | tup (xs:List V)
 | dK (kvs:List (Key × V)) | dT (kvs:List (List Key × V))
 | set (S:Int->Bool) (n:Nat)
 | ins (C dx:Addr) (fs:List (Str × V))
 | own (x:Addr)
 | xd (fs:List (Str × V))
 | met (f x:Addr)
 | rng (lo hi:Int)
 | frz (o:Obj) (u:HO)
 | tbl (ps:Array Value)
 | ext (φ:Heap->Prop)
noncomputable abbrev Hp:=Addr->Option HO
noncomputable def upd (H:Hp) (a:Addr) (o:HO):Hp:=fun b=>if b=a then some o else H b
theorem Ak {H:Hp} {a:Addr} {o:HO}:upd H a o a=some o:=by unfold upd; rw [if_pos rfl]
theorem BW {H:Hp} {a b:Addr} {o:HO} (h:b ≠ a):upd H a o b=H b:=by unfold upd; rw [if_neg h]
theorem W4 {H:Hp} {a b:Addr} {o u:HO} (h:H a=some o) (h':H b=some u) (d:o ≠ u):a ≠ b:=by
 intro e; subst e; rw [h] at h'; exact d (Option.some.inj h')
theorem BL {H:Hp} {a b:Addr} {o:HO} (h:H a=some o) (h':H b=none):a ≠ b:=by
 intro e; subst e; rw [h] at h'; cases h'
section
variable (P:Program) (w:World)
noncomputable def Ce (H:Hp) (h:Heap) (a:Addr):HO->Prop
 | .lst xs=>xs.length<=sizeLine/\∃ (its:List Value) (n:Nat),Vals xs its/\h.get? a=some { cls:=.type "list",data:=.seq its.toArray n }
 | .tup xs=>xs.length<=sizeLine/\∃ its:List Value,Vals xs its/\IsTup h a its.toArray
 | .dK kvs=>kvs.length<=sizeLine/\(a == sysModules)=false/\∃ vs,KV kvs vs/\h.DictOf (Ck P w) a vs
 | .dT kvs=>kvs.length<=sizeLine/\(a == sysModules)=false/\∃ xs:List (List Key × Addr × Value),
   Paired (fun (p:List Key × V) (q:List Key × Addr × Value)=>p.1=q.1/\H q.2.1=some (.tup (p.1.map kV))/\RelV p.2 q.2.2) kvs xs /\
   ∃ o es ep,h.get? a=some o/\o.ExactDict/\o.data=.dict es ep/\es.toList=xs.map (entryOfKey (tupleKind (Ck P w)))/\(xs.map (·.1)).Nodup
 | .set S n=>h.SetOf (intKind P w) a S n
 | .ins C dx fs=>H dx=some (.own a)/\fs.length<=1000/\dx ≠ a/\h.get? a=some (PySem.W.instObj C dx) /\
   ∃ mA,h.Ns1 dx mA/\(∀ f,Hc (fs.lookup f) (mA f))/\PySem.Within mA (fs.map (·.1))
 | .own _=>∃ o,h.get? a=some o
 | .xd fs=>∃ mA,h.Ns1 a mA/\∀ f,Hc (fs.lookup f) (mA f)
 | .rng lo hi=>∃ t u v,h.get? a=some { cls:=.type "range",data:=.fields #[.int lo t,.int hi u,.int 1 v] }
 | .frz o u=>h.get? a=some o/\Ce H h a u
 | .tbl ps=>h.get? a=some { cls:=.none,data:=.fields ps }
 | .met f x=>h.get? a=some (PySem.W.methodObj (.ref f) (.ref x))
 | .ext φ=>φ h/\(∃ o,h.get? a=some o)/\∀ h1 h2:Heap,φ h1->(∀ o,h1.get? a=some o->h2.get? a=some o)->φ h2
noncomputable def Ia (H:Hp) (h:Heap):Prop:=∀ a o,H a=some o->Ce P w H h a o
end
section
variable {P:Program} {w:World} {H H':Hp} {h h':Heap} {a:Addr} {o:HO}
theorem Ce.lt (x:Ce P w H h a o):a<h.objs.size:=by
 cases o with
 | lst xs=>obtain ⟨_,_,_,_,e⟩:=x; exact Heap.lt_size e
 | tup xs=>obtain ⟨_,_,_,p⟩:=x; exact p.lt
 | dK kvs=>obtain ⟨_,_,_,_,o,_,_,e,_⟩:=x; exact Heap.lt_size e
 | dT kvs=>obtain ⟨_,_,_,_,o,_,_,e,_⟩:=x; exact Heap.lt_size e
 | set S n=>obtain ⟨o,_,_,_,e,_⟩:=x; exact Heap.lt_size e
 | ins C dx fs=>obtain ⟨_,_,_,e,_⟩:=x; exact Heap.lt_size e
 | own y=>obtain ⟨_,e⟩:=x; exact Heap.lt_size e
 | xd fs=>obtain ⟨_,⟨_,_,_,e,_⟩,_⟩:=x; exact Heap.lt_size e
 | rng lo hi=>obtain ⟨_,_,_,e⟩:=x; exact Heap.lt_size e
 | frz ob u=>obtain ⟨e,_⟩:=x; exact Heap.lt_size e
 | tbl ps=>exact Heap.lt_size (show h.get? a=some _ from x)
 | met f y=>exact Heap.lt_size (show h.get? a=some _ from x)
 | ext φ=>obtain ⟨_,⟨_,e⟩,_⟩:=x; exact Heap.lt_size e
theorem Paired.Et {α β:Type} {F G:α->β->Prop}:∀ {l₁:List α} {l₂:List β},Paired F l₁ l₂->(∀ a b,F a b->G a b)->Paired G l₁ l₂
 | _,_,.nil,_=>.nil
 | _,_,.cons r t,f=>.cons (f _ _ r) (Paired.Et t f)
theorem Ce.stay (x:Ce P w H h a o) (k:∀ b u,(b=a \/ H b=some (.own a))->h.get? b=some u->h'.get? b=some u)
  (ho:∀ b,H b=some (.own a)->H' b=some (.own a)) (ht:∀ b xs,H b=some (.tup xs)->H' b=some (.tup xs)):Ce P w H' h' a o:=by
 induction o with
 | lst xs=>obtain ⟨z,its,n,r,e⟩:=x; exact ⟨z,its,n,r,k _ _ (.inl rfl) e⟩
 | tup xs=>obtain ⟨z,its,r,ob,e,c⟩:=x; exact ⟨z,its,r,ob,k _ _ (.inl rfl) e,c⟩
 | dK kvs=>obtain ⟨z,y,vs,r,ob,es,ep,e,c⟩:=x; exact ⟨z,y,vs,r,ob,es,ep,k _ _ (.inl rfl) e,c⟩
 | dT kvs =>
  obtain ⟨z,y,xs,r,ob,es,ep,e,c⟩:=x
  exact ⟨z,y,xs,Paired.Et r fun p q z=>⟨z.1,ht _ _ z.2.1,z.2.2⟩,ob,es,ep,k _ _ (.inl rfl) e,c⟩
 | set S n=>obtain ⟨ob,es,ep,t,e,c⟩:=x; exact ⟨ob,es,ep,t,k _ _ (.inl rfl) e,c⟩
 | ins C dx fs =>
  obtain ⟨d,z,ne,e,mA,⟨od,es,ep,e2,c⟩,r⟩:=x
  exact ⟨ho _ d,z,ne,k _ _ (.inl rfl) e,mA,⟨od,es,ep,k _ _ (.inr d) e2,c⟩,r⟩
 | own y=>obtain ⟨ob,e⟩:=x; exact ⟨ob,k _ _ (.inl rfl) e⟩
 | xd fs=>obtain ⟨mA,⟨od,es,ep,e,c⟩,r⟩:=x; exact ⟨mA,⟨od,es,ep,k _ _ (.inl rfl) e,c⟩,r⟩
 | rng lo hi=>obtain ⟨t,u,v,e⟩:=x; exact ⟨t,u,v,k _ _ (.inl rfl) e⟩
 | frz ob u ih=>obtain ⟨e,q⟩:=x; exact ⟨k _ _ (.inl rfl) e,ih q⟩
 | tbl ps =>
  have e:h.get? a=some { cls:=.none,data:=.fields ps }:=x
  show h'.get? a=some { cls:=.none,data:=.fields ps }
  exact k a _ (.inl rfl) e
 | met f y =>
  have e:h.get? a=some (PySem.W.methodObj (.ref f) (.ref y)):=x
  show h'.get? a=some (PySem.W.methodObj (.ref f) (.ref y))
  exact k a _ (.inl rfl) e
 | ext φ=>obtain ⟨p,⟨o,e⟩,st⟩:=x; exact ⟨st _ _ p fun o q=>k _ _ (.inl rfl) q,⟨o,k _ _ (.inl rfl) e⟩,st⟩
theorem Ia.lt (x:Ia P w H h) (e:H a=some o):a<h.objs.size:=(x a o e).lt
theorem Ia.fresh (x:Ia P w H h) (e:h.objs.size<=a):H a=none:=by
 cases q:H a with
 | none=>rfl
 | some u=>exact absurd (Nat.lt_of_lt_of_le (x.lt q) e) (Nat.lt_irrefl _)
theorem Ia.kept (x:Ia P w H h) (k:∀ b u,h.get? b=some u->h'.get? b=some u):Ia P w H h':=fun a o e =>
 (x a o e).stay (fun b u _ q=>k b u q) (fun _ q=>q) fun _ _ q=>q
theorem Ia.laid (x:Ia P w H h) (k:∀ b u,h.get? b=some u->h'.get? b=some u) (hp:h.objs.size<=a) (new:Ce P w (upd H a o) h' a o):Ia P w (upd H a o) h':=fun b u e=>by
 have hn:=x.fresh hp
 by_cases hb:b=a
 ·subst hb; rw [Ak] at e; cases e; exact new
 ·rw [BW hb] at e
  exact (x b u e).stay (fun c v _ q=>k c v q) (fun c q=>by rw [BW (BL q hn)]; exact q) fun c xs q=>by rw [BW (BL q hn)]; exact q
end
noncomputable def Rd (H:Hp) (a:Addr) (u:HO):Prop:=H a=some u \/ ∃ o,H a=some (.frz o u)
theorem Rd.ok {P:Program} {w:World} {H:Hp} {h:Heap} {a:Addr} {u:HO} (r:Rd H a u) (x:Ia P w H h):Ce P w H h a u:=by
 rcases r with r | ⟨o,r⟩
 ·exact x a u r
 ·obtain ⟨_,q⟩:=x a _ r
  exact q
noncomputable def Zt:Option HO->Prop
 | some (.lst _)=>True
 | some (.dK _)=>True
 | some (.dT _)=>True
 | some (.set _ _)=>True
 | some (.ins _ _ _)=>True
 | some (.ext _)=>True
 | _=>False
section
variable {P:Program} {w:World} {H:Hp} {h h':Heap} {x e:Addr} {o':HO}
theorem Ia.write (ok:Ia P w H h) (mu:Zt (H x)) (he:e=x \/ H e=some (.own x)) (k:∀ b u,b ≠ e->h.get? b=some u->h'.get? b=some u) (heo:∃ u,h'.get? e=some u)
  (new:Ce P w (upd H x o') h' x o'):Ia P w (upd H x o') h':=fun b u q=>by
 have nown:∀ c y,H c=some (.own y)->c ≠ x:=fun c y r z=>by subst z; rw [r] at mu; exact mu
 have ntup:∀ c xs,H c=some (.tup xs)->c ≠ x:=fun c xs r z=>by subst z; rw [r] at mu; exact mu
 by_cases hb:b=x
 ·subst hb; rw [Ak] at q; cases q; exact new
 ·rw [BW hb] at q
  by_cases hbe:b=e
  ·have q':H b=some (.own x):=by
    rcases he with z | z
    ·exact absurd (hbe.trans z) hb
    ·rw [hbe]; exact z
   rw [q] at q'; cases q'
   obtain ⟨v,hv⟩:=heo
   exact ⟨v,by rw [hbe]; exact hv⟩
  ·refine (ok b u q).stay (fun c v hc r=>k c v ?_ r) (fun c r=>by rw [BW (nown c b r)]; exact r) fun c xs r=>by rw [BW (ntup c xs r)]; exact r
   rcases hc with rfl | hc
   ·exact hbe
   ·rintro rfl
    rcases he with z | z
    ·exact nown c b hc z
    ·rw [hc] at z; cases z; exact hb rfl
end
structure Un (fs ex:List Addr) (H H':Hp) (h h':Heap):Prop where
 keep:∀ b o,h.get? b=some o->H b=none->b ∉ fs->b ∉ ex->h'.get? b=some o
 slot:∀ b o,h.get? b=some o->H b=none->b∈fs->b ∉ ex->∃ sl,h'.get? b=some { o with slots:=sl }
 free:∀ b o,h.get? b=some o->H b=none->b ∉ ex->H' b=none
 there:∀ b o,h.get? b=some o->b ∉ ex->∃ o',h'.get? b=some o'
 tups:∀ b xs,H b=some (.tup xs)->H' b=some (.tup xs)
 frzs:∀ b o u,H b=some (.frz o u)->H' b=some (.frz o u)
 tbls:∀ b ps,H b=some (.tbl ps)->∃ more,H' b=some (.tbl (ps++more))
section
variable {fs fs' ex ex':List Addr} {H H1 H2:Hp} {h h1 h2 h':Heap} {a x e:Addr} {o:HO}
theorem Un.any (u:Un fs ex H H1 h h1) {b:Addr} {ob:Obj} (q:h.get? b=some ob) (n:H b=none) (hx:b ∉ ex):∃ sl,h1.get? b=some { ob with slots:=sl }:=by
 by_cases hb:b∈fs
 ·exact u.slot b ob q n hb hx
 ·exact ⟨ob.slots,u.keep b ob q n hb hx⟩
theorem Un.kept (k:∀ b u,h.get? b=some u->h'.get? b=some u):Un fs ex H H h h' :=
 ⟨fun b ob q _ _ _=>k b ob q,fun b ob q _ _ _=>⟨ob.slots,k b ob q⟩,fun _ _ _ n _=>n,fun b ob q _=>⟨ob,k b ob q⟩,fun _ _ q=>q,fun _ _ _ q=>q,fun _ ps q=>⟨#[],by rw [q]; simp⟩⟩
theorem Un.refl:Un fs ex H H h h:=Un.kept fun _ _ q=>q
theorem Un.laid (k:∀ b u,h.get? b=some u->h'.get? b=some u) (hp:h.objs.size<=a) (hn:H a=none):Un fs ex H (upd H a o) h h' where
 keep:=fun b u q _ _ _=>k b u q
 slot:=fun b u q _ _ _=>⟨u.slots,k b u q⟩
 free:=fun b u q n _=>by rw [BW (Nat.ne_of_lt (Nat.lt_of_lt_of_le (Heap.lt_size q) hp))]; exact n
 there:=fun b u q _=>⟨u,k b u q⟩
 tups:=fun b xs q=>by rw [BW (BL q hn)]; exact q
 frzs:=fun b u xs q=>by rw [BW (BL q hn)]; exact q
 tbls:=fun b ps q=>⟨#[],by rw [BW (BL q hn),q]; simp⟩
theorem Un.write (mu:Zt (H x)) (he:e=x \/ H e=some (.own x)) (k:∀ b u,b ≠ e->h.get? b=some u->h'.get? b=some u) (heo:∃ u,h'.get? e=some u):Un fs ex H (upd H x o) h h':=by
 have hx:∀ b,H b=none->b ≠ x:=fun b n z=>by subst z; rw [n] at mu; exact mu
 have hb:∀ b,H b=none->b ≠ e:=fun b n z=>by
  subst z
  rcases he with r | r
  ·exact hx b n r
  ·rw [n] at r; cases r
 have hm:∀ b u,H b=some u->¬ Zt (some u)->b ≠ x:=fun b u q nm z=>by subst z; rw [q] at mu; exact nm mu
 refine ⟨fun b u q n _ _=>k b u (hb b n) q,fun b u q n _ _=>⟨u.slots,k b u (hb b n) q⟩,fun b u q n _=>by rw [BW (hx b n)]; exact n,fun b u q _=>?_,
  fun b xs q=>by rw [BW (hm b _ q fun z=>z)]; exact q,fun b u xs q=>by rw [BW (hm b _ q fun z=>z)]; exact q,fun b ps q=>⟨#[],by rw [BW (hm b _ q fun z=>z),q]; simp⟩⟩
 by_cases hbe:b=e
 ·subst hbe; exact heo
 ·exact ⟨u,k b u hbe q⟩
end
noncomputable def fH (h:Heap) (H:Hp):List Addr:=(List.range h.objs.size).filter fun a=>(H a).isSome
noncomputable def Lq (h:Heap) (H:Hp):Heap:=PySem.W.hideAll h (fH h H)
theorem RB (h:Heap) (H:Hp):(Lq h H).objs.size=h.objs.size:=PySem.W.hideAll_size _ _
theorem UL {h:Heap} {H:Hp} {b:Addr} {o:Obj} (e:h.get? b=some o) (n:H b=none):(Lq h H).get? b=some o :=
 PySem.W.hideAll_get _ e fun hm=>by
  have q:(H b).isSome=true:=(List.mem_filter.mp hm).2
  rw [n] at q; simp at q
theorem U9 {h:Heap} {H:Hp} {b:Addr} {o:Obj} (e:(Lq h H).get? b=some o):h.get? b=some o/\H b=none:=by
 have e':h.get? b=some o:=PySem.W.of_hideAll (fH h H) e
 refine ⟨e',?_⟩
 cases q:H b with
 | none=>rfl
 | some x =>
  have hm:b∈fH h H:=List.mem_filter.mpr ⟨List.mem_range.mpr (Heap.lt_size e'),by simp [q]⟩
  have z:(Lq h H).get? b=none:=PySem.W.hideAll_none (fH h H) hm
  rw [z] at e; cases e
noncomputable def U_ (g h:Heap) (L:Addr):List (Addr × Obj):=(List.range h.objs.size).filterMap fun a=>if a=L \/ (g.get? a).isSome=true then none else (h.get? a).map fun o=>(a,o)
noncomputable def rest (g h:Heap) (L d:Addr):List (Addr × Obj):=(U_ g h L).filter fun p=>decide (p.1 ≠ d)
end L2
namespace L2
open PySem PySem.Spec PyProof.Rows
structure Mod (K:PySem.W.Frag) (mg:Str->Option Value) (base:Heap):Prop where
 kin:K.In base
 glob:base.Ns mainGlobals mg
 blt:∃ mb,base.Ns builtinsNs mb/\∀ x:Str,x ≠ "__name__"->mb x=bootBuiltins x
 nolimit:base.NoLimit
structure Cx where
 prog:Program
 w:World
 K:PySem.W.Frag
 mg:Str->Option Value
 base:Heap
 A:Around
 N:List Str
 s₀:Shared
 H₀:Hp
 env:Env
 outer:List Env
 stack:List Env
 ex:List Addr
 fn:Str->Bool
 calm:Bool
 pn:List (Addr × Obj)
 xe:Value->Shared->Prop
noncomputable def frs (l:List Env):List Addr:=l.filterMap (·.frame)
noncomputable abbrev Cx.fs (X:Cx):List Addr:=frs X.outer
noncomputable def gR (sc:Scope) (x:Str):Prop:=sc.names.lookup x=some .local \/ sc.names.lookup x=some .cell \/ sc.names.lookup x=some .free
noncomputable def Loc (sc:Scope) (x:Str):Prop:=sc.names.lookup x=some .local \/ sc.names.lookup x=some .cell
noncomputable def Look (env:Env) (h:Heap) (m:Str->Option Value) (x:Str) (u:Value):Prop :=
 (env.kindOf x=some .local/\m x=some u) \/ ((env.kindOf x=some .cell \/ env.kindOf x=some .free)/\∃ c,env.cells.lookup x=some c/\h.IsCell c (some u))
structure Cx.Ok (X:Cx):Prop where
 mod:Mod X.K X.mg X.base
 kind:X.env.scope.kind=.function
 glob:X.env.globals=mainGlobals
 blt:X.env.builtins=builtinsNs
 above:X.s₀.heap.objs.size<=X.env.locals
 inj:∀ x y c,X.env.cells.lookup x=some c->X.env.cells.lookup y=some c->x=y
 has:∀ x,(X.env.kindOf x=some .cell \/ X.env.kindOf x=some .free)->∃ c,X.env.cells.lookup x=some c
 cab:∀ x c,X.fn x=true->X.env.cells.lookup x=some c->X.s₀.heap.objs.size<=c
 hd:X.calm=true->X.A.handled=none
 frames:X.A.frames=some X.stack
 stk:X.stack=X.outer \/ (X.stack=X.env::X.outer/\X.env.frame=some X.env.locals)
 exf:∀ b∈X.ex,b ≠ X.env.locals/\∀ x c,X.env.cells.lookup x=some c->c ≠ b
 bs:∀ b o,X.base.get? b=some o->X.s₀.heap.get? b=some o/\X.H₀ b=none
 bsz:X.base.objs.size<=X.s₀.heap.objs.size
 noex:∀ b o,X.base.get? b=some o->b ∉ X.ex
 exfs:∀ b∈X.ex,b ∉ X.fs
 Jb:X.s₀.heap.FunFrames X.base X.outer
 frf:∀ b∈X.fs,X.H₀ b=none
structure Inv (X:Cx) (pins:List (Addr × Obj)) (σ:List (Option V)) (H:Hp) (s:Shared):Prop where
 ok:X.Ok
 os:s.os=X.s₀.os
 bare:AllBare s.gens
 base:Un X.fs X.ex X.H₀ H X.s₀.heap s.heap
 loc:∃ m,s.heap.Ns X.env.locals m/\∀ (i:Nat) (x:Str) (v:V),X.N[i]? = some x->σ[i]? = some (some v)->gR X.env.scope x->∃ u,RelV v u/\Look X.env s.heap m x u
 cell:∀ x c,X.env.cells.lookup x=some c->∃ v,s.heap.IsCell c v
 free:H X.env.locals=none
 freeC:∀ x c,X.env.cells.lookup x=some c->H c=none
 pin:∀ p∈X.pn++pins,s.heap.get? p.1=some p.2/\H p.1=none/\p.1 ≠ X.env.locals/\p.1 ∉ X.fs/\∀ v,p.2.data ≠ .cell v
 hok:Ia X.prog X.w H s.heap
 len:σ.length=X.N.length
section
variable {X:Cx} {pins:List (Addr × Obj)} {σ:List (Option V)} {H H':Hp} {s:Shared} {h':Heap}
theorem Cx.Ok.iU (ok:X.Ok) {b:Addr} {o:Obj} (e:X.base.get? b=some o):b ∉ X.fs:=fun hb=>by
 have:=(ok.Jb.mem hb).1
 rw [e] at this; cases this
theorem Inv.bs (I:Inv X pins σ H s):∀ b o,X.base.get? b=some o->s.heap.get? b=some o/\H b=none:=fun b o e =>
 ⟨I.base.keep b o (I.ok.bs b o e).1 (I.ok.bs b o e).2 (I.ok.iU e) (I.ok.noex b o e),I.base.free b o (I.ok.bs b o e).1 (I.ok.bs b o e).2 (I.ok.noex b o e)⟩
theorem Inv.bk (I:Inv X pins σ H s):∀ b o,X.base.get? b=some o->s.heap.get? b=some o:=fun b o e=>(I.bs b o e).1
theorem Inv.mod (I:Inv X pins σ H s):Mod X.K X.mg X.base:=I.ok.mod
theorem Inv.JC (I:Inv X pins σ H s):X.K.In s.heap:=I.ok.mod.kin.keeps I.bk
theorem Inv.lt (I:Inv X pins σ H s):X.env.locals<s.heap.objs.size:=let ⟨_,hn,_⟩:=I.loc; hn.lt
theorem Inv.sz (I:Inv X pins σ H s):X.s₀.heap.objs.size<=s.heap.objs.size:=Nat.le_trans I.ok.above (Nat.le_of_lt I.lt)
theorem Inv.gZ (I:Inv X pins σ H s) {a:Addr} (h:s.heap.objs.size<=a):a ∉ X.fs:=fun hb=>by
 obtain ⟨_,o,ho,_⟩:=I.ok.Jb.mem hb
 exact absurd (Nat.lt_of_lt_of_le (Heap.lt_size ho) (Nat.le_trans I.sz h)) (Nat.lt_irrefl _)
theorem Inv.XX (I:Inv X pins σ H s):∀ x c,X.env.cells.lookup x=some c->c ≠ X.env.locals:=fun x c e z=>by
 obtain ⟨v,o,ho,hd⟩:=I.cell x c e
 obtain ⟨m,⟨o',es,ep,ho',hd',_⟩,_⟩:=I.loc
 rw [z,ho'] at ho; cases ho; rw [hd'] at hd; cases hd
theorem Inv.Jb (I:Inv X pins σ H s):s.heap.FunFrames X.base X.outer:=by
 have all:∀ (l:List Env),(∀ b∈frs l,b∈X.fs)->X.s₀.heap.FunFrames X.base l->s.heap.FunFrames X.base l:=by
  intro l
  induction l with
  | nil=>intro _ _; trivial
  | cons env r ih =>
   intro hs hl
   obtain ⟨hk,⟨L,o,hf,hn,ho,hd⟩,hr⟩:=hl
   have hL:L∈X.fs:=hs L (by unfold frs; rw [List.filterMap_cons,hf]; exact List.mem_cons_self)
   obtain ⟨sl,e⟩:=I.base.slot L o ho (I.ok.frf L hL) hL fun z=>I.ok.exfs L z hL
   exact ⟨hk,⟨L,_,hf,hn,e,hd⟩,ih (fun b hb=>hs b (by unfold frs; rw [List.filterMap_cons,hf]; exact List.mem_cons_of_mem _ hb)) hr⟩
 exact all X.outer (fun _ hb=>hb) I.ok.Jb
theorem Inv.stack (I:Inv X pins σ H s):s.heap.FunFrames X.base X.stack:=by
 rcases I.ok.stk with e | ⟨e,hf⟩
 ·rw [e]; exact I.Jb
 ·rw [e]
  obtain ⟨m,hn,_⟩:=I.loc
  refine .cons (by rw [I.ok.kind]; decide) hf hn ?_ I.Jb
  exact Heap.get?_none_of_le (Nat.le_trans I.ok.bsz I.ok.above)
theorem Inv.Mh (I:Inv X pins σ H s):∀ b∈frs X.stack,b∈X.env.locals::X.fs:=fun b hb=>by
 rcases I.ok.stk with e | ⟨e,hf⟩
 ·rw [e] at hb; exact List.mem_cons_of_mem _ hb
 ·rw [e] at hb
  unfold frs at hb
  rw [List.filterMap_cons,hf] at hb
  exact hb
theorem Inv.Lf (I:Inv X pins σ H s):∀ b∈frs X.stack,H b=none:=fun b hb=>by
 rcases List.mem_cons.mp (I.Mh b hb) with e | hb
 ·rw [e]; exact I.free
 ·obtain ⟨_,o,ho,_⟩:=I.ok.Jb.mem hb
  exact I.base.free b o ho (I.ok.frf b hb) fun z=>I.ok.exfs b z hb
theorem Inv.step {g':Array GenState} {t':Nat} {d':Drawn} {ch:List Addr} (I:Inv X pins σ H s)
  (hch:∀ b∈ch,(b∈X.ex \/ X.s₀.heap.objs.size<=b)/\b ≠ X.env.locals/\(∀ x c,X.env.cells.lookup x=some c->c ≠ b)/\∀ p∈X.pn++pins,p.1 ≠ b)
  (keep:∀ b o,b ≠ X.env.locals->b ∉ X.fs->b ∉ ch->s.heap.get? b=some o->H b=none->h'.get? b=some o)
  (slot:∀ b o,b ≠ X.env.locals->b∈X.fs->b ∉ ch->s.heap.get? b=some o->H b=none->∃ sl,h'.get? b=some { o with slots:=sl }) (free:∀ b o,b ∉ ch->s.heap.get? b=some o->H b=none->H' b=none)
  (there:∀ b o,b ∉ ch->s.heap.get? b=some o->∃ o',h'.get? b=some o')
  (tups:∀ b xs,H b=some (.tup xs)->H' b=some (.tup xs)) (frzs:∀ b o u,H b=some (.frz o u)->H' b=some (.frz o u)) (tbls:∀ b ps,H b=some (.tbl ps)->∃ more,H' b=some (.tbl (ps++more)))
  (ns:∀ m,s.heap.Ns X.env.locals m->h'.Ns X.env.locals m) (hok:Ia X.prog X.w H' h') (hg:AllBare g') :
  Inv X pins σ H' { s with heap:=h',gens:=g',drawn:=d',toks:=t' }:=by
 have neL:∀ b o,X.s₀.heap.get? b=some o->b ≠ X.env.locals:=fun b o e=>Nat.ne_of_lt (Nat.lt_of_lt_of_le (Heap.lt_size e) I.ok.above)
 have neC:∀ b o,X.s₀.heap.get? b=some o->b ∉ X.ex->b ∉ ch:=fun b o e hx hb=>by
  rcases (hch b hb).1 with z | z
  ·exact hx z
  ·exact absurd (Nat.lt_of_lt_of_le (Heap.lt_size e) z) (Nat.lt_irrefl _)
 have cellK:∀ x c,X.env.cells.lookup x=some c->∀ v,s.heap.IsCell c v->h'.IsCell c v:=fun x c e v ⟨o,ho,hd⟩=>by
  have nch:c ∉ ch:=fun z=>(hch c z).2.2.1 x c e rfl
  by_cases hc:c∈X.fs
  ·obtain ⟨sl,q⟩:=slot c o (I.XX x c e) hc nch ho (I.freeC x c e)
   exact ⟨_,q,hd⟩
  ·exact ⟨o,keep c o (I.XX x c e) hc nch ho (I.freeC x c e),hd⟩
 refine ⟨I.ok,I.os,hg,⟨fun b o e n hb hx=>?_,fun b o e n hb hx=>?_,fun b o e n hx=>?_,fun b o e hx=>?_,fun b xs e=>tups b xs (I.base.tups b xs e),fun b o xs e=>frzs b o xs (I.base.frzs b o xs e),fun b ps e=>?_⟩,?_,fun x c e=>?_,?_,fun x c e=>?_,fun p hp=>?_,hok,I.len⟩
 ·exact keep b o (neL b o e) hb (neC b o e hx) (I.base.keep b o e n hb hx) (I.base.free b o e n hx)
 ·obtain ⟨sl,e1⟩:=I.base.slot b o e n hb hx
  obtain ⟨sl',e2⟩:=slot b _ (neL b o e) hb (neC b o e hx) e1 (I.base.free b o e n hx)
  exact ⟨sl',e2⟩
 ·obtain ⟨o',e1⟩:=I.base.there b o e hx
  exact free b o' (neC b o e hx) e1 (I.base.free b o e n hx)
 ·obtain ⟨o',e1⟩:=I.base.there b o e hx
  exact there b o' (neC b o e hx) e1
 ·obtain ⟨m1,e1⟩:=I.base.tbls b ps e
  obtain ⟨m2,e2⟩:=tbls b _ e1
  exact ⟨m1++m2,by rw [e2,Array.append_assoc]⟩
 ·obtain ⟨m,hn,hl⟩:=I.loc
  refine ⟨m,ns m hn,fun i x v e1 e2 e3=>?_⟩
  obtain ⟨u,r,l⟩:=hl i x v e1 e2 e3
  refine ⟨u,r,?_⟩
  rcases l with l | ⟨k,c,e,z⟩
  ·exact .inl l
  ·exact .inr ⟨k,c,e,cellK x c e _ z⟩
 ·obtain ⟨v,z⟩:=I.cell x c e
  exact ⟨v,cellK x c e v z⟩
 ·obtain ⟨m,⟨o,_,_,ho,_⟩,_⟩:=I.loc
  exact free _ o (fun z=>(hch _ z).2.1 rfl) ho I.free
 ·obtain ⟨v,o,ho,hd⟩:=I.cell x c e
  exact free c o (fun z=>(hch c z).2.2.1 x c e rfl) ho (I.freeC x c e)
 ·obtain ⟨e,n,ne,nf,d⟩:=I.pin p hp
  have nch:p.1 ∉ ch:=fun z=>(hch p.1 z).2.2.2 p hp rfl
  exact ⟨keep p.1 p.2 ne nf nch e n,free p.1 p.2 nch e n,ne,nf,d⟩
theorem Inv.un {t':Nat} (I:Inv X pins σ H s) (u:Un X.fs [] H H' s.heap h') (hok:Ia X.prog X.w H' h'):Inv X pins σ H' { s with heap:=h',toks:=t' }:=by
 obtain ⟨m,⟨o,es,ep,ho,r⟩,_⟩:=id I.loc
 obtain ⟨sl,hL⟩:=u.any ho I.free (by simp)
 exact I.step (g':=s.gens) (d':=s.drawn) (ch:=[]) (fun _ z=>nomatch z) (fun b o _ hb _ e n=>u.keep b o e n hb (by simp)) (fun b o _ hb _ e n=>u.slot b o e n hb (by simp)) (fun b o _ e n=>u.free b o e n (by simp)) (fun b o _ e=>u.there b o e (by simp)) u.tups u.frzs u.tbls (fun m' hm=>by
  obtain ⟨o',es',ep',ho',r'⟩:=hm
  rw [ho] at ho'; cases ho'
  exact ⟨_,es',ep',hL,r'⟩) hok I.bare
theorem Inv.call {g':Array GenState} {t':Nat} {d':Drawn} {ch:List Addr} (I:Inv X pins σ H s) (u:Un (frs X.stack) ch H H' s.heap h') (hok:Ia X.prog X.w H' h') (hg:AllBare g')
  (hch:∀ b∈ch,(b∈X.ex \/ X.s₀.heap.objs.size<=b)/\b ≠ X.env.locals/\(∀ x c,X.env.cells.lookup x=some c->c ≠ b)/\∀ p∈X.pn++pins,p.1 ≠ b) :
  Inv X pins σ H' { s with heap:=h',gens:=g',drawn:=d',toks:=t' }:=by
 obtain ⟨m,⟨o,es,ep,ho,r⟩,_⟩:=id I.loc
 obtain ⟨sl,hL⟩:=u.any ho I.free fun z=>(hch _ z).2.1 rfl
 exact I.step (ch:=ch) hch (fun b o hL hb hc e n=>u.keep b o e n (fun z=>(List.mem_cons.mp (I.Mh b z)).elim hL hb) hc) (fun b o _ _ hc e n=>u.any e n hc) (fun b o hc e n=>u.free b o e n hc) (fun b o hc e=>u.there b o e hc) u.tups u.frzs u.tbls (fun m' hm=>by
  obtain ⟨o',es',ep',ho',r'⟩:=hm
  rw [ho] at ho'; cases ho'
  exact ⟨_,es',ep',hL,r'⟩) hok hg
theorem Inv.turned {t':Nat} {it:Addr} (I:Inv X pins σ H s) (k:∀ b o,b ≠ it->s.heap.get? b=some o->h'.get? b=some o) (hn:H it=none) (hL:it ≠ X.env.locals)
  (h1:it∈X.ex \/ X.s₀.heap.objs.size<=it) (h2:∀ x c,X.env.cells.lookup x=some c->c ≠ it) (h3:∀ p∈X.pn++pins,p.1 ≠ it):Inv X pins σ H { s with heap:=h',toks:=t' }:=by
 have nit:∀ b u,H b=some u->b ≠ it:=fun b u e z=>by rw [z,hn] at e; cases e
 refine I.step (g':=s.gens) (d':=s.drawn) (ch:=[it]) (fun b hb=>?_) (fun b o _ _ hc e _=>k b o (fun z=>hc (by simp [z])) e) (fun b o _ _ hc e _=>⟨o.slots,k b o (fun z=>hc (by simp [z])) e⟩) (fun _ _ _ _ n=>n)
  (fun b o hc e=>⟨o,k b o (fun z=>hc (by simp [z])) e⟩) (fun _ _ e=>e) (fun _ _ _ e=>e) (fun b ps e=>⟨#[],by rw [e]; simp⟩) (fun m hm=>?_) (fun b u e=>?_) I.bare
 ·have e:b=it:=by simpa using hb
  subst e
  exact ⟨h1,hL,h2,h3⟩
 ·obtain ⟨o,es,ep,ho,r⟩:=hm
  exact ⟨o,es,ep,k _ o (Ne.symm hL) ho,r⟩
 ·refine (I.hok b u e).stay (fun c v hc q=>k c v ?_ q) (fun _ q=>q) fun _ _ q=>q
  rcases hc with z | z
  ·rw [z]; exact nit b u e
  ·exact nit c _ z
theorem Inv.tok (I:Inv X pins σ H s) (t:Nat):Inv X pins σ H { s with toks:=t }:=I.un (h':=s.heap) (t':=t) Un.refl I.hok
theorem Inv.kept {t':Nat} (I:Inv X pins σ H s) (k:∀ b u,s.heap.get? b=some u->h'.get? b=some u):Inv X pins σ H { s with heap:=h',toks:=t' }:=I.un (Un.kept k) (I.hok.kept k)
theorem Inv.laid {a:Addr} {o:HO} {t':Nat} (I:Inv X pins σ H s) (k:∀ b u,s.heap.get? b=some u->h'.get? b=some u) (hp:s.heap.objs.size<=a) (new:Ce X.prog X.w (upd H a o) h' a o) :
  Inv X pins σ (upd H a o) { s with heap:=h',toks:=t' }:=I.un (Un.laid k hp (I.hok.fresh hp)) (I.hok.laid k hp new)
theorem Inv.write {x e:Addr} {o:HO} {t':Nat} (I:Inv X pins σ H s) (mu:Zt (H x)) (he:e=x \/ H e=some (.own x)) (k:∀ b u,b ≠ e->s.heap.get? b=some u->h'.get? b=some u) (heo:∃ u,h'.get? e=some u)
  (new:Ce X.prog X.w (upd H x o) h' x o):Inv X pins σ (upd H x o) { s with heap:=h',toks:=t' }:=I.un (Un.write mu he k heo) (I.hok.write mu he k heo new)
theorem Inv.QM {pins':List (Addr × Obj)} (I:Inv X pins σ H s) (h:∀ p∈pins',s.heap.get? p.1=some p.2/\H p.1=none/\p.1 ≠ X.env.locals/\p.1 ∉ X.fs/\∀ v,p.2.data ≠ .cell v):Inv X pins' σ H s :=
 ⟨I.ok,I.os,I.bare,I.base,I.loc,I.cell,I.free,I.freeC,fun p hp=>(List.mem_append.mp hp).elim (fun z=>I.pin p (List.mem_append_left _ z)) (h p),I.hok,I.len⟩
theorem Mu {N:List Str} (hN:N.Nodup) {i j:Nat} {x:Str} (a:N[i]? = some x) (b:N[j]? = some x):i=j:=by
 obtain ⟨h1,e1⟩:=List.getElem?_eq_some_iff.mp a
 obtain ⟨h2,e2⟩:=List.getElem?_eq_some_iff.mp b
 exact (List.getElem_inj hN).mp (e1.trans e2.symm)
theorem Kq {M:Model} {A:Around} {E:Value->Shared->Prop} {i:Nat} {x:Str} {v:V} {u:Value} {Q:Unit->Shared->Prop} (I:Inv X pins σ H s) (hN:X.N.Nodup) (hi:X.N[i]? = some x) (hx:Loc X.env.scope x) (r:RelV v u)
  (h:∀ s',Inv X pins (σ.set i (some v)) H s'->(∃ a,Heap.SameBut a s.heap s'.heap/\(a=X.env.locals \/ X.env.cells.lookup x=some a))->Q () s') (hf:X.fn x=true \/ X.env.scope.names.lookup x=some .local:=by first | exact .inl rfl | exact .inr rfl | assumption):wpAny M A (storeName X.env x u) Q E s:=by
 obtain ⟨m,hn,hl⟩:=id I.loc
 have hcls:(X.env.scope.kind == .class || (X.env.scope.kind == .module && X.env.locals != X.env.globals))=false:=by rw [I.ok.kind]; rfl
 have hiσ:i<σ.length:=by rw [I.len]; exact (List.getElem?_eq_some_iff.mp hi).1
 have XX:=I.XX
 have tracked:∀ {a:Addr} {h':Heap},(∃ o,s.heap.get? a=some o/\H a=none)->Heap.SameBut a s.heap h'->Ia X.prog X.w H h':=fun {a h'} ha hs b ob e=>by
  obtain ⟨_,_,hfree⟩:=ha
  refine (I.hok b ob e).stay (fun c w' hc q=>(hs.2 c ?_).trans q) (fun _ q=>q) fun _ _ q=>q
  rintro rfl
  rcases hc with rfl | hc
  ·rw [hfree] at e; cases e
  ·rw [hfree] at hc; cases hc
 rcases hx with hk | hk
 ·refine wpAny_storeName_local hk hn (fun h' hn' hs=>?_) hcls
  obtain ⟨oL,_,_,hoL,_⟩:=id hn
  refine h _ ⟨I.ok,I.os,I.bare,⟨fun b o e n hb hx=>?_,fun b o e n hb hx=>?_,I.base.free,fun b o e hx=>?_,I.base.tups,I.base.frzs,I.base.tbls⟩,⟨_,hn',fun j y v' e1 e2 e3=>?_⟩,fun y c e=>?_,I.free,I.freeC,fun p hp=>?_,tracked ⟨oL,hoL,I.free⟩ hs,by simpa using I.len⟩ ⟨_,hs,.inl rfl⟩
  ·exact (hs.2 b (Nat.ne_of_lt (Nat.lt_of_lt_of_le (Heap.lt_size e) I.ok.above))).trans (I.base.keep b o e n hb hx)
  ·obtain ⟨sl,e1⟩:=I.base.slot b o e n hb hx
   exact ⟨sl,(hs.2 b (Nat.ne_of_lt (Nat.lt_of_lt_of_le (Heap.lt_size e) I.ok.above))).trans e1⟩
  ·obtain ⟨o',e1⟩:=I.base.there b o e hx
   exact ⟨o',(hs.2 b (Nat.ne_of_lt (Nat.lt_of_lt_of_le (Heap.lt_size e) I.ok.above))).trans e1⟩
  ·by_cases hj:j=i
   ·subst hj
    rw [hi] at e1; cases e1
    rw [List.getElem?_set_self hiσ] at e2
    cases e2
    exact ⟨u,r,.inl ⟨hk,by simp⟩⟩
   ·rw [List.getElem?_set_ne (Ne.symm hj)] at e2
    obtain ⟨u',r',q⟩:=hl j y v' e1 e2 e3
    refine ⟨u',r',?_⟩
    rcases q with ⟨k,e⟩ | ⟨k,c,e,z⟩
    ·refine .inl ⟨k,?_⟩
     have:y ≠ x:=fun e=>hj (Mu hN e1 (e ▸ hi))
     simp [this,e]
    ·exact .inr ⟨k,c,e,z.sameBut hs (XX y c e)⟩
  ·obtain ⟨w',z⟩:=I.cell y c e
   exact ⟨w',z.sameBut hs (XX y c e)⟩
  ·obtain ⟨e,n,ne,nf,d⟩:=I.pin p hp
   exact ⟨(hs.2 p.1 ne).trans e,n,ne,nf,d⟩
 ·have hfn:X.fn x=true:=by
   rcases hf with z | z
   ·exact z
   ·rw [z] at hk; cases hk
  obtain ⟨c,hc⟩:=I.ok.has x (.inl hk)
  obtain ⟨w',z⟩:=I.cell x c hc
  refine wpAny_storeName_cell I.ok.kind hk hc z (fun h' hc' hs=>?_)
  obtain ⟨oc,hoc,hocd⟩:=id z
  refine h { s with heap:=h' } ⟨I.ok,I.os,I.bare,⟨fun b o e n hb hx=>?_,fun b o e n hb hx=>?_,I.base.free,fun b o e hx=>?_,I.base.tups,I.base.frzs,I.base.tbls⟩,⟨m,hn.sameBut hs (Ne.symm (XX x c hc)),fun j y v' e1 e2 e3=>?_⟩,fun y c' e=>?_,I.free,I.freeC,fun p hp=>?_,tracked ⟨oc,hoc,I.freeC x c hc⟩ hs,by simpa using I.len⟩ ⟨c,hs,.inr hc⟩
  ·exact (hs.2 b (Nat.ne_of_lt (Nat.lt_of_lt_of_le (Heap.lt_size e) (I.ok.cab x c hfn hc)))).trans (I.base.keep b o e n hb hx)
  ·obtain ⟨sl,e1⟩:=I.base.slot b o e n hb hx
   exact ⟨sl,(hs.2 b (Nat.ne_of_lt (Nat.lt_of_lt_of_le (Heap.lt_size e) (I.ok.cab x c hfn hc)))).trans e1⟩
  ·obtain ⟨o',e1⟩:=I.base.there b o e hx
   exact ⟨o',(hs.2 b (Nat.ne_of_lt (Nat.lt_of_lt_of_le (Heap.lt_size e) (I.ok.cab x c hfn hc)))).trans e1⟩
  ·by_cases hj:j=i
   ·subst hj
    rw [hi] at e1; cases e1
    rw [List.getElem?_set_self hiσ] at e2
    cases e2
    exact ⟨u,r,.inr ⟨.inl hk,c,hc,hc'⟩⟩
   ·rw [List.getElem?_set_ne (Ne.symm hj)] at e2
    obtain ⟨u',r',q⟩:=hl j y v' e1 e2 e3
    refine ⟨u',r',?_⟩
    rcases q with q | ⟨k,c',e,z'⟩
    ·exact .inl q
    ·refine .inr ⟨k,c',e,z'.sameBut hs ?_⟩
     rintro rfl
     exact hj (Mu hN e1 (I.ok.inj _ _ _ e hc ▸ hi))
  ·by_cases hcc:c'=c
   ·subst hcc; exact ⟨_,hc'⟩
   ·obtain ⟨w2,z2⟩:=I.cell y c' e
    exact ⟨w2,z2.sameBut hs hcc⟩
  ·obtain ⟨e,n,ne,nf,d⟩:=I.pin p hp
   refine ⟨(hs.2 p.1 ?_).trans e,n,ne,nf,d⟩
   intro q
   rw [q,hoc] at e
   have q':oc=p.2:=Option.some.inj e
   exact d w' (by rw [← q']; exact hocd)
theorem Jx {M:Model} {A:Around} {E:Value->Shared->Prop} {i:Nat} {x:Str} {v:V} {u:Value} {Q:Unit->Shared->Prop} (I:Inv X pins σ H s) (hN:X.N.Nodup) (hi:X.N[i]? = some x) (hx:Loc X.env.scope x) (r:RelV v u)
  (h:∀ s',Inv X pins (σ.set i (some v)) H s'->Q () s') (hf:X.fn x=true \/ X.env.scope.names.lookup x=some .local:=by first | exact .inl rfl | exact .inr rfl | assumption):wpAny M A (storeName X.env x u) Q E s :=
 Kq I hN hi hx r (fun s' I' _=>h s' I') hf
theorem Inv.call' {s':Shared} {ch:List Addr} (I:Inv X pins σ H s) (ho:s'.os=s.os) (u:Un (frs X.stack) ch H H' s.heap s'.heap) (hok:Ia X.prog X.w H' s'.heap) (hg:AllBare s'.gens)
  (hch:∀ b∈ch,(b∈X.ex \/ X.s₀.heap.objs.size<=b)/\b ≠ X.env.locals/\(∀ x c,X.env.cells.lookup x=some c->c ≠ b)/\∀ p∈X.pn++pins,p.1 ≠ b):Inv X pins σ H' s':=by
 obtain ⟨h',g',d',t',o'⟩:=s'
 have e:o'=s.os:=ho
 subst e
 exact I.call (g':=g') (t':=t') (d':=d') u hok hg hch
end
noncomputable abbrev XK:=Value->Option Addr->Hp->Prop
noncomputable abbrev St:=List (Option V)
noncomputable abbrev VK:=V->Hp->Prop
noncomputable abbrev TE:=St->Hp->VK->Prop
noncomputable abbrev TT:=St->Hp->(Bool->Hp->Prop)->Prop
noncomputable abbrev TA:=St->Hp->(List V->Hp->Prop)->Prop
structure Ends where
 nx:St->Hp->Prop
 rt:VK
 bk:St->Hp->Prop:=fun _ _=>False
 ct:St->Hp->Prop:=fun _ _=>False
noncomputable abbrev TS:=Ends->St->Hp->Prop
noncomputable def EP (X:Cx) (pins:List (Addr × Obj)) (σ:St) (Q:VK) (u:Value) (s':Shared):Prop:=∃ v H',Inv X pins σ H' s'/\RelV v u/\Q v H'
noncomputable def TP (X:Cx) (pins:List (Addr × Obj)) (σ:St) (Q:Bool->Hp->Prop) (b:Bool) (s':Shared):Prop:=∃ H',Inv X pins σ H' s'/\Q b H'
noncomputable def AP (X:Cx) (pins:List (Addr × Obj)) (σ:St) (Q:List V->Hp->Prop) (us:List Value) (s':Shared):Prop:=∃ vs H',Inv X pins σ H' s'/\Vals vs us/\Q vs H'
noncomputable def SP (X:Cx) (pins:List (Addr × Obj)) (D:Ends) (f:Flow) (s':Shared):Prop :=
 match f with
 | .next=>∃ σ' H',Inv X pins σ' H' s'/\D.nx σ' H'
 | .brk=>∃ σ' H',Inv X pins σ' H' s'/\D.bk σ' H'
 | .cont=>∃ σ' H',Inv X pins σ' H' s'/\D.ct σ' H'
 | .ret u=>∃ v σ' H',Inv X pins σ' H' s'/\RelV v u/\D.rt v H'
noncomputable def PE (X:Cx) (e:Expr) (t:TE):Prop :=
 ∀ (pins:List (Addr × Obj)) (s:Shared) (σ:St) (H:Hp) (Q:VK),Inv X pins σ H s->t σ H Q->wpAny (model X.prog X.w) X.A (eval e X.env) (EP X pins σ Q) X.xe s
noncomputable def PT (X:Cx) (e:Expr) (t:TT):Prop :=
 ∀ (pins:List (Addr × Obj)) (s:Shared) (σ:St) (H:Hp) (Q:Bool->Hp->Prop),Inv X pins σ H s->t σ H Q->wpAny (model X.prog X.w) X.A (isTrue e X.env (eval e X.env)) (TP X pins σ Q) X.xe s
noncomputable def PW (X:Cx) (e:Expr) (t:TT):Prop :=
 ∀ (whole:Sem Value) (pins:List (Addr × Obj)) (s:Shared) (σ:St) (H:Hp) (Q:Bool->Hp->Prop),Inv X pins σ H s->t σ H Q->wpAny (model X.prog X.w) X.A (isTrue e X.env whole) (TP X pins σ Q) X.xe s
theorem PW.pt {X:Cx} {e:Expr} {t:TT} (h:PW X e t):PT X e t:=h _
noncomputable def PA (X:Cx) (es:List Expr) (t:TA):Prop :=
 ∀ (pos:Pos) (pins:List (Addr × Obj)) (s:Shared) (σ:St) (H:Hp) (Q:List V->Hp->Prop),Inv X pins σ H s->t σ H Q->wpAny (model X.prog X.w) X.A (spliced (backTo pos (starEach es X.env))) (AP X pins σ Q) X.xe s
noncomputable def PS (X:Cx) (st:Stmt) (t:TS):Prop :=
 ∀ (pins:List (Addr × Obj)) (s:Shared) (σ:St) (H:Hp) (D:Ends),Inv X pins σ H s->t D σ H->wpAny (model X.prog X.w) X.A (exec st X.env) (SP X pins D) X.xe s
noncomputable def Pq (X:Cx) (st:List Stmt) (t:TS):Prop :=
 ∀ (pins:List (Addr × Obj)) (s:Shared) (σ:St) (H:Hp) (D:Ends),Inv X pins σ H s->t D σ H->wpAny (model X.prog X.w) X.A (execs st X.env) (SP X pins D) X.xe s
theorem CJ {α:Type} {t:Sem α} {Q Q':α->Shared->Prop} {M:Model} {A:Around} {E:Value->Shared->Prop} {s:Shared} (h:wpAny M A t Q E s) (hQ:∀ a s,Q a s->Q' a s):wpAny M A t Q' E s:=wpAny_mono h hQ fun _ _ x=>x
end L2
namespace L2
open PySem PySem.Spec PyProof.Rows
section
variable {X:Cx}
noncomputable def Ng (i:Nat):TE:=fun σ H Q=>∃ v,σ[i]? = some (some v)/\Q v H
noncomputable def tC (v:V):TE:=fun _ H Q=>Q v H
theorem Xo {i:Nat} {x:Str} {pos:Pos} (hN:X.N[i]? = some x) (hv:gR X.env.scope x) (hd:(x == ("__debug__" : Str))=false:=by decide) (hcd:(x == ("__classdict__" : Str))=false:=by decide):PE X (.Name x pos) (Ng i):=by
 intro pins s σ H Q I h
 obtain ⟨v,e,h⟩:=h
 obtain ⟨m,hn,hl⟩:=I.loc
 obtain ⟨u,r,l⟩:=hl i x v hN e hv
 have fin:EP X pins σ Q u s:=⟨v,H,I,r,h⟩
 rcases l with ⟨hk,hm⟩ | ⟨hk,c,hc,hcell⟩
 ·exact wpAny_Name (wpAny_loadName_local I.ok.kind hk hn hm fin) hd
 ·rcases hk with hk | hk
  ·exact wpAny_Name (wpAny_loadName_cell I.ok.kind hk hc hcell fin) hd
  ·exact wpAny_Name (wpAny_loadName_free I.ok.kind hk hc hcell fin hcd) hd
theorem Ab {i j pos}:PE X (.Constant (.int i) j pos) (tC (.int i)):=fun _ _ _ H _ I h=>wpAny_Constant_int ⟨.int i,H,I.tok _,⟨_,rfl⟩,h⟩
theorem Ef {b j pos}:PE X (.Constant (.bool b) j pos) (tC (.bl b)):=fun _ _ _ H _ I h=>Constant_bool ⟨.bl b,H,I,rfl,h⟩
theorem Gv {j pos}:PE X (.Constant .none j pos) (tC .non):=fun _ _ _ H _ I h=>Constant_none ⟨.non,H,I,rfl,h⟩
theorem Br {x j pos}:PE X (.Constant (.str x) j pos) (tC (.str x)):=fun _ _ _ H _ I h=>Calls.Constant_str ⟨.str x,H,I.tok _,⟨_,rfl⟩,h⟩
noncomputable def Gl (X:Cx) (x:Str):Prop:=X.env.kindOf x=some .globalImplicit
theorem Lw {E:Value->Shared->Prop} {pins:List (Addr × Obj)} {s:Shared} {σ:St} {H:Hp} {x:Str} {u:Value} {pos:Pos} {Q:Value->Shared->Prop} (I:Inv X pins σ H s) (hg:Gl X x) (hm:X.mg x=some u) (h:Q u s)
  (hd:(x == ("__debug__" : Str))=false:=by decide):wpAny (model X.prog X.w) X.A (eval (.Name x pos) X.env) Q E s :=
 Calls.Name_function_global I.ok.kind hg (Calls.loadGlobal_global (by rw [I.ok.glob]; exact I.mod.glob.keeps I.bk) hm h) hd
theorem GC {E:Value->Shared->Prop} {pins:List (Addr × Obj)} {s:Shared} {σ:St} {H:Hp} {x:Str} {u:Value} {pos:Pos} {Q:Value->Shared->Prop} (I:Inv X pins σ H s) (hg:Gl X x) (hm:X.mg x=none) (hv:bootBuiltins x=some u) (h:Q u s)
  (hn:x ≠ "__name__":=by decide) (hd:(x == ("__debug__" : Str))=false:=by decide):wpAny (model X.prog X.w) X.A (eval (.Name x pos) X.env) Q E s:=by
 obtain ⟨mb,h1,h2⟩:=I.mod.blt
 exact Calls.Name_function_global I.ok.kind hg (Calls.loadGlobal_builtin (by rw [I.ok.glob]; exact I.mod.glob.keeps I.bk) hm (by rw [I.ok.blt]; exact h1.keeps I.bk) ((h2 x hn).trans hv) h) hd
theorem Dh {x:Str} {v:V} {u:Value} {pos:Pos} (hg:Gl X x) (hm:X.mg x=some u) (r:RelV v u) (hd:(x == ("__debug__" : Str))=false:=by decide):PE X (.Name x pos) (tC v) :=
 fun _ _ _ H _ I h=>Lw I hg hm ⟨v,H,I,r,h⟩ hd
theorem Do {x:Str} {v:V} {u:Value} {pos:Pos} (hg:Gl X x) (hm:X.mg x=none) (hv:bootBuiltins x=some u) (r:RelV v u) (hn:x ≠ "__name__":=by decide) (hd:(x == ("__debug__" : Str))=false:=by decide):PE X (.Name x pos) (tC v) :=
 fun _ _ _ H _ I h=>GC I hg hm hv ⟨v,H,I,r,h⟩ hn hd
variable {a b:Expr} {ta tb:TE} {pos:Pos}
noncomputable def PC (X:Cx) (op:CmpOp) (a b:Expr) (t:TE):Prop :=
 ∀ (pins:List (Addr × Obj)) (s:Shared) (σ:St) (H:Hp) (Q:VK),Inv X pins σ H s->t σ H Q ->
  wpAny (model X.prog X.w) X.A (eval a X.env) (fun v s₁=>wpAny (model X.prog X.w) X.A (eval b X.env) (fun u s₂=>wpAny (model X.prog X.w) X.A (compareOp op v u) (EP X pins σ Q) X.xe s₂) X.xe s₁) X.xe s
noncomputable def tB (t:TE):TT:=fun σ H Q=>t σ H fun x H1=>∃ c,x=.bl c/\Q c H1
theorem Sq {op:CmpOp} {t:TE} (h:PC X op a b t) (h1:behindInMarks op b=false:=by first | exact nobehind _ (by decide) (by decide) | rfl):PE X (.Compare a [op] [b] pos) t:=fun pins s σ H Q I hw=>wpAny_Compare1 (h pins s σ H Q I hw) h1
theorem Ob {op:CmpOp} {t:TE} (h:PC X op a b t) (h1:behindInMarks op b=false:=by first | exact nobehind _ (by decide) (by decide) | rfl):PT X (.Compare a [op] [b] pos) (tB t):=by
 intro pins s σ H Q I hw
 refine wpAny_isTrue_Compare1 (CJ (h pins s σ H _ I hw) fun v s1 h1=>CJ h1 fun u s2 h2=>CJ h2 fun c s3 ⟨x,H1,I1,r1,q1⟩=>?_) h1
 obtain ⟨d,rfl,q⟩:=q1
 cases r1
 exact wpAny_truthy_bool ⟨H1,I1,q⟩
theorem Cy {e:Expr} {t:TE} (h:PE X e t) (he:∀ whole,isTrue e X.env whole=(do let v ← whole; standAt e.pos; holding [v] (truthy v)):=by intro _; rfl):PT X e (tB t):=by
 intro pins s σ H Q I hw
 refine isTrue_plain (CJ (h pins s σ H _ I hw) fun v s1 ⟨x,H1,I1,r1,q1⟩=>?_) (he _)
 obtain ⟨d,rfl,q⟩:=q1
 cases r1
 exact wpAny_truthy_bool ⟨H1,I1,q⟩
variable {tA tB':TT} {rest:List Expr}
noncomputable def lJ (t u:TT):TT:=fun σ H Q=>t σ H fun c H1=>if c=true then u σ H1 Q else Q false H1
noncomputable def g_ (t u:TT):TT:=fun σ H Q=>t σ H fun c H1=>if c=true then Q true H1 else u σ H1 Q
noncomputable def gP (t:TT):TT:=fun σ H Q=>t σ H fun c H1=>Q (!c) H1
theorem FT (ha:PT X a tA):PW X (.BoolOp .And [a] pos) tA:=by
 intro wh pins s σ H Q I h
 refine isTrue_and (CJ (ha pins s σ H Q I h) fun c s1 e=>?_)
 cases c with
 | true=>exact isTrue_and_nil e
 | false=>exact e
theorem Ea (ha:PT X a tA):PW X (.BoolOp .Or [a] pos) tA:=by
 intro wh pins s σ H Q I h
 refine isTrue_or (CJ (ha pins s σ H Q I h) fun c s1 e=>?_)
 cases c with
 | false=>exact isTrue_or_nil e
 | true=>exact e
theorem Fp (ha:PT X a tA) (hb:PW X (.BoolOp .And (b::rest) pos) tB'):PW X (.BoolOp .And (a::b::rest) pos) (lJ tA tB'):=by
 intro wh pins s σ H Q I h
 refine isTrue_and (CJ (ha pins s σ H _ I h) fun c s1 hq0=>?_)
 obtain ⟨H1,I1,q1⟩:=hq0
 cases c with
 | true=>exact hb wh pins s1 σ H1 Q I1 q1
 | false=>exact ⟨H1,I1,q1⟩
theorem Dr (ha:PT X a tA) (hb:PW X (.BoolOp .Or (b::rest) pos) tB'):PW X (.BoolOp .Or (a::b::rest) pos) (g_ tA tB'):=by
 intro wh pins s σ H Q I h
 refine isTrue_or (CJ (ha pins s σ H _ I h) fun c s1 hq0=>?_)
 obtain ⟨H1,I1,q1⟩:=hq0
 cases c with
 | true=>exact ⟨H1,I1,q1⟩
 | false=>exact hb wh pins s1 σ H1 Q I1 q1
theorem Cj (ha:PT X a tA):PT X (.UnaryOp .Not a pos) (gP tA):=by
 intro pins s σ H Q I h
 exact isTrue_not (ha pins s σ H (fun c H1=>Q (!c) H1) I h)
noncomputable def bU (ta tb:TE):TE:=fun σ H Q=>ta σ H fun x H1=>∃ c,x=.bl c/\if c=true then tb σ H1 Q else Q (.bl false) H1
noncomputable def lF (ta tb:TE):TE:=fun σ H Q=>ta σ H fun x H1=>∃ c,x=.bl c/\if c=true then Q (.bl true) H1 else tb σ H1 Q
noncomputable def Zu (ta:TE):TE:=fun σ H Q=>ta σ H fun x H1=>∃ c,x=.bl c/\Q (.bl (!c)) H1
theorem Dq {op} {t:TE} (h:PE X a t):PE X (.BoolOp op [a] pos) t:=fun pins s σ H Q I hw=>BoolOp_one (h pins s σ H Q I hw)
theorem Dy (ha:PE X a ta) (hb:PE X (.BoolOp .And (b::rest) pos) tb):PE X (.BoolOp .And (a::b::rest) pos) (bU ta tb):=by
 intro pins s σ H Q I h
 refine BoolOp_and (CJ (ha pins s σ H _ I h) fun v s1 hq0=>?_)
 obtain ⟨x,H1,I1,r1,q1⟩:=hq0
 obtain ⟨c,rfl,q1⟩:=q1
 cases r1
 refine wpAny_truthy_bool ?_
 cases c with
 | true=>exact hb pins s1 σ H1 Q I1 q1
 | false=>exact ⟨.bl false,H1,I1,rfl,q1⟩
theorem Zr (ha:PE X a ta) (hb:PE X (.BoolOp .Or (b::rest) pos) tb):PE X (.BoolOp .Or (a::b::rest) pos) (lF ta tb):=by
 intro pins s σ H Q I h
 refine BoolOp_or (CJ (ha pins s σ H _ I h) fun v s1 hq0=>?_)
 obtain ⟨x,H1,I1,r1,q1⟩:=hq0
 obtain ⟨c,rfl,q1⟩:=q1
 cases r1
 refine wpAny_truthy_bool ?_
 cases c with
 | false=>exact hb pins s1 σ H1 Q I1 q1
 | true=>exact ⟨.bl true,H1,I1,rfl,q1⟩
theorem OJ (ha:PE X a ta):PE X (.UnaryOp .Not a pos) (Zu ta):=by
 intro pins s σ H Q I h
 refine UnaryOp_ (CJ (ha pins s σ H _ I h) fun v s1 hq0=>?_)
 obtain ⟨x,H1,I1,r1,q1⟩:=hq0
 obtain ⟨c,rfl,q1⟩:=q1
 cases r1
 exact not_of (wpAny_truthy_bool ⟨.bl (!c),H1,I1,rfl,q1⟩)
noncomputable def lw (t:TT) (ta tb:TE):TE:=fun σ H Q=>t σ H fun c H1=>if c=true then ta σ H1 Q else tb σ H1 Q
theorem J8 {c:Expr} (hc:PT X c tA) (ha:PE X a ta) (hb:PE X b tb):PE X (.IfExp c a b pos) (lw tA ta tb):=by
 intro pins s σ H Q I h
 refine wpAny_IfExp (CJ (hc pins s σ H _ I h) fun d s1 hq0=>?_)
 obtain ⟨H1,I1,q1⟩:=hq0
 cases d with
 | true=>exact ha pins s1 σ H1 Q I1 q1
 | false=>exact hb pins s1 σ H1 Q I1 q1
end
end L2
namespace L2
open PySem PySem.Spec PyProof.Rows
noncomputable def CK (K:PySem.W.Frag) (H:Hp) (a:Addr) (xs:List V):Prop :=
 Rd H a (.lst xs) \/
  ∃ (o:Obj) (its:Array Value) (n:Nat),K.lookup a=some o/\o.cls=.type "list" /\ o.dict=none/\o.data=.seq its n/\its.size<=sizeLine/\Vals xs its.toList
noncomputable def IV (K:PySem.W.Frag) (H:Hp) (a:Addr) (xs:List V):Prop :=
 Rd H a (.tup xs) \/
  ∃ (o:Obj) (its:Array Value) (n:Nat),K.lookup a=some o/\o.cls=.type "tuple" /\ o.data=.seq its n/\its.size<=sizeLine/\Vals xs its.toList
noncomputable def ji:Value->Option V
 | .none=>some .non
 | .bool b=>some (.bl b)
 | .int i _=>some (.int i)
 | .str x _=>some (.str x)
 | .bytes b _=>some (.byt b)
 | .float b _=>some (.flt b)
 | .ref a=>some (.ref a)
 | .type n=>some (.ty n)
 | _=>none
theorem RelV.abs {x:V} {u:Value} (r:RelV x u):ji u=some x:=by
 cases x with
 | non=>cases r; rfl
 | bl _=>cases r; rfl
 | int _=>obtain ⟨t,rfl⟩:=r; rfl
 | str _=>obtain ⟨t,rfl⟩:=r; rfl
 | byt _=>obtain ⟨t,rfl⟩:=r; rfl
 | flt _=>obtain ⟨t,rfl⟩:=r; rfl
 | ref _=>cases r; rfl
 | ty _=>cases r; rfl
theorem RelV.inj {x y:V} {u:Value} (r:RelV x u) (q:RelV y u):x=y:=Option.some.inj (r.abs.symm.trans q.abs)
theorem Vals.inj:∀ {xs ys:List V} {us:List Value},Vals xs us->Vals ys us->xs=ys
 | _,_,_,.nil,.nil=>rfl
 | _,_,_,.cons r t,.cons r' t'=>by rw [r.inj r',Vals.inj t t']
section
variable {X:Cx} {pins:List (Addr × Obj)} {σ:St} {H:Hp} {s:Shared} {a:Addr} {xs ys:List V}
theorem Inv.list (I:Inv X pins σ H s) (h:CK X.K H a xs):∃ its:List Value,Vals xs its/\PlainL s.heap a its.toArray/\xs.length<=sizeLine:=by
 rcases h with h | ⟨o,its,n,hk,hc,hd,hs,hz,r⟩
 ·obtain ⟨z,its,n,r,e⟩:=h.ok I.hok
  exact ⟨its,r,⟨_,n,e,rfl,rfl,rfl⟩,z⟩
 ·refine ⟨its.toList,r,⟨o,n,I.JC a o hk,hc,hd,by simpa using hs⟩,?_⟩
  have e:=r.length
  simp only [Array.length_toList] at e
  omega
theorem Inv.tuple (I:Inv X pins σ H s) (h:IV X.K H a xs):∃ its:List Value,Vals xs its/\IsTup s.heap a its.toArray/\xs.length<=sizeLine:=by
 rcases h with h | ⟨o,its,n,hk,hc,hs,hz,r⟩
 ·obtain ⟨z,its,r,p⟩:=h.ok I.hok
  exact ⟨its,r,p,z⟩
 ·refine ⟨its.toList,r,⟨o,I.JC a o hk,hc,n,by simpa using hs⟩,?_⟩
  have e:=r.length
  simp only [Array.length_toList] at e
  omega
theorem Inv.Iz (I:Inv X pins σ H s) (h:CK X.K H a xs) (h':CK X.K H a ys):xs=ys:=by
 obtain ⟨its,r,⟨o,n,e,_,_,d⟩,_⟩:=I.list h
 obtain ⟨its',r',⟨o',n',e',_,_,d'⟩,_⟩:=I.list h'
 rw [e] at e'; cases e'
 rw [d] at d'
 injection d' with d1 _
 have:its=its':=by simpa using congrArg Array.toList d1
 subst this
 exact r.inj r'
theorem Inv.JG (I:Inv X pins σ H s) (h:IV X.K H a xs) (h':IV X.K H a ys):xs=ys:=by
 obtain ⟨its,r,⟨o,e,_,n,d⟩,_⟩:=I.tuple h
 obtain ⟨its',r',⟨o',e',_,n',d'⟩,_⟩:=I.tuple h'
 rw [e] at e'; cases e'
 rw [d] at d'
 injection d' with d1 _
 have:its=its':=by simpa using congrArg Array.toList d1
 subst this
 exact r.inj r'
end
noncomputable abbrev Cx.wish (X:Cx) (E:Value->Shared->Prop):Cx:={ X with xe:=E }
noncomputable abbrev Cx.Yq (X:Cx):Cx:=X.wish fun _ _=>False
theorem Cx.Ok.wish {X:Cx} (ok:X.Ok) (E:Value->Shared->Prop):(X.wish E).Ok :=
 ⟨ok.mod,ok.kind,ok.glob,ok.blt,ok.above,ok.inj,ok.has,ok.cab,ok.hd,ok.frames,ok.stk,ok.exf,ok.bs,ok.bsz,ok.noex,ok.exfs,ok.Jb,ok.frf⟩
theorem Cx.Ok.G8 {X:Cx} {E:Value->Shared->Prop} (ok:(X.wish E).Ok):X.Ok :=
 ⟨ok.mod,ok.kind,ok.glob,ok.blt,ok.above,ok.inj,ok.has,ok.cab,ok.hd,ok.frames,ok.stk,ok.exf,ok.bs,ok.bsz,ok.noex,ok.exfs,ok.Jb,ok.frf⟩
section
variable {X:Cx} {pins:List (Addr × Obj)} {σ:St} {H:Hp} {s:Shared} {E:Value->Shared->Prop}
theorem Inv.wish (I:Inv X pins σ H s) (E:Value->Shared->Prop):Inv (X.wish E) pins σ H s:=⟨I.ok.wish E,I.os,I.bare,I.base,I.loc,I.cell,I.free,I.freeC,I.pin,I.hok,I.len⟩
theorem Inv.G8 (I:Inv (X.wish E) pins σ H s):Inv X pins σ H s:=⟨I.ok.G8,I.os,I.bare,I.base,I.loc,I.cell,I.free,I.freeC,I.pin,I.hok,I.len⟩
theorem SP.G8 {D:Ends} {f:Flow} {s':Shared} (h:SP (X.wish E) pins D f s'):SP X pins D f s':=by
 cases f with
 | next=>obtain ⟨σ',H',I,q⟩:=h; exact ⟨σ',H',I.G8,q⟩
 | brk=>obtain ⟨σ',H',I,q⟩:=h; exact ⟨σ',H',I.G8,q⟩
 | cont=>obtain ⟨σ',H',I,q⟩:=h; exact ⟨σ',H',I.G8,q⟩
 | ret u=>obtain ⟨v,σ',H',I,r,q⟩:=h; exact ⟨v,σ',H',I.G8,r,q⟩
theorem Pq.Yq {st:List Stmt} {t:TS} (h:Pq X.Yq st t):Pq X st t:=fun pins s σ H D I hw =>
 wpAny_mono (h pins s σ H D (I.wish _) hw) (fun _ _ q=>q.G8) fun _ _ z=>False.elim z
end
section
variable {X:Cx} {st:Stmt} {rest:List Stmt} {t u:TS} {e:Expr} {te:TE} {pos:Pos}
noncomputable def cL:TS:=fun D σ H=>D.nx σ H
noncomputable def Vs (t u:TS):TS:=fun D σ H=>t { D with nx:=u D } σ H
theorem Bd:Pq X [] cL:=fun _ _ σ H _ I h=>wpAny_execs_nil ⟨σ,H,I,h⟩
theorem Ae (h1:PS X st t) (h2:Pq X rest u):Pq X (st::rest) (Vs t u):=by
 intro pins s σ H D I h
 refine wpAny_execs_cons (CJ (h1 pins s σ H { D with nx:=u D } I h) fun f s1 q=>?_)
 cases f with
 | next =>
  obtain ⟨σ',H',I',q⟩:=q
  exact h2 pins s1 σ' H' D I' q
 | ret v=>exact q
 | brk=>exact q
 | cont=>exact q
theorem Ah (h1:PS X st t):Pq X [st] t:=by
 intro pins s σ H D I h
 refine wpAny_execs_cons (CJ (h1 pins s σ H D I h) fun f s1 q=>?_)
 cases f with
 | next=>exact wpAny_execs_nil q
 | ret v=>exact q
 | brk=>exact q
 | cont=>exact q
noncomputable def Yn:TS:=fun D σ H=>D.bk σ H
theorem Uo:PS X (.Break pos) Yn:=fun _ _ σ H _ I h=>wpAny_Break ⟨σ,H,I,h⟩
theorem Inv.quiet {pins:List (Addr × Obj)} {σ:St} {H:Hp} {s:Shared} (I:Inv X pins σ H s):interactive X.env=false:=by simp [interactive,I.ok.kind]
noncomputable def cu (te:TE):TS:=fun D σ H=>te σ H fun _ H1=>D.nx σ H1
theorem DW (he:PE X e te) (hs:swapsWith e none pos.line X.env=pure false:=by rfl):PS X (.Expr e pos) (cu te):=by
 intro pins s σ H D I h
 exact wpAny_Expr_any (CJ (he pins s σ H _ I h) fun v s1 ⟨x,H1,I1,r1,q1⟩=>⟨σ,H1,I1,q1⟩) I.quiet hs
noncomputable def cJ (te:TE):TS:=fun D σ H=>te σ H D.rt
theorem Av (he:PE X e te):PS X (.Return (some e) pos) (cJ te):=by
 intro pins s σ H D I h
 exact wpAny_Return_some (CJ (he pins s σ H _ I h) fun v s1 ⟨x,H1,I1,r1,q1⟩=>⟨x,σ,H1,I1,r1,q1⟩)
noncomputable def Xd (c:TT) (t u:TS):TS:=fun D σ H=>c σ H fun b H1=>if b=true then t D σ H1 else u D σ H1
theorem Bt {c:Expr} {a b:List Stmt} {tc:TT} (hc:PT X c tc) (ha:Pq X a t) (hb:Pq X b u):PS X (.If c a b pos) (Xd tc t u):=by
 intro pins s σ H D I h
 refine wpAny_If (CJ (hc pins s σ H _ I h) fun d s1 hq0=>?_)
 obtain ⟨H1,I1,q1⟩:=hq0
 cases d with
 | true=>exact ha pins s1 σ H1 D I1 q1
 | false=>exact hb pins s1 σ H1 D I1 q1
noncomputable def X5:TS:=fun _ _ _=>False
theorem HY:PS X st X5:=fun _ _ _ _ _ _ h=>h.elim
end
noncomputable abbrev TG:=V->St->Hp->(St->Hp->Prop)->Prop
noncomputable abbrev Ve:=List V->St->Hp->(St->Hp->Prop)->Prop
noncomputable def PG (X:Cx) (target:Expr) (t:TG):Prop :=
 ∀ (pins:List (Addr × Obj)) (s:Shared) (σ:St) (H:Hp) (v:V) (u:Value) (Q:St->Hp->Prop),Inv X pins σ H s->RelV v u->t v σ H Q ->
  wpAny (model X.prog X.w) X.A (assign target X.env u) (fun _ s'=>∃ σ' H',Inv X pins σ' H' s'/\Q σ' H') X.xe s
noncomputable def Z4 (X:Cx) (ts:List Expr) (t:Ve):Prop :=
 ∀ (pins:List (Addr × Obj)) (s:Shared) (σ:St) (H:Hp) (vs:List V) (us:List Value) (Q:St->Hp->Prop),Inv X pins σ H s->Vals vs us->t vs σ H Q ->
  wpAny (model X.prog X.w) X.A (assignInOrder ((assignEach ts X.env).map (·.2)) us) (fun _ s'=>∃ σ' H',Inv X pins σ' H' s'/\Q σ' H') X.xe s
section
variable {X:Cx} {pos:Pos}
noncomputable def DX (i:Nat):TG:=fun v σ H Q=>Q (σ.set i (some v)) H
theorem Ba {i:Nat} {x:Str} (hN:X.N.Nodup) (hi:X.N[i]? = some x) (hx:Loc X.env.scope x) (hf:X.fn x=true \/ X.env.scope.names.lookup x=some .local:=by first | exact .inl rfl | exact .inr rfl | assumption):PG X (.Name x pos) (DX i):=by
 intro pins s σ H v u Q I r h
 exact wpAny_assign_Name (Jx I hN hi hx r (fun s' I'=>⟨_,H,I',h⟩) hf)
noncomputable def Ry:Ve:=fun vs σ H Q=>vs=[]/\Q σ H
noncomputable def Iv (t:TG) (u:Ve):Ve:=fun vs σ H Q=>∃ v r,vs=v::r/\t v σ H fun σ' H'=>u r σ' H' Q
theorem Du:Z4 X [] Ry:=by
 intro pins s σ H vs us Q I r h
 obtain ⟨e,h⟩:=h
 subst e
 cases r
 exact assignInOrder_nil ⟨σ,H,I,h⟩
theorem Bf {e:Expr} {es:List Expr} {t:TG} {u:Ve} (h1:PG X e t) (h2:Z4 X es u)
  (hs:(assignEach (e::es) X.env).map (·.2)=assign e X.env::(assignEach es X.env).map (·.2):=by rfl):Z4 X (e::es) (Iv t u):=by
 intro pins s σ H vs us Q I r h
 obtain ⟨v,vr,e1,h⟩:=h
 subst e1
 cases r with
 | cons r rr =>
  rw [hs]
  refine assignInOrder_cons (CJ (h1 pins s σ H _ _ _ I r h) fun _ s1 hq0=>?_)
  obtain ⟨σ1,H1,I1,q1⟩:=hq0
  exact h2 pins s1 σ1 H1 _ _ Q I1 rr q1
noncomputable def R_ (K:PySem.W.Frag) (n:Nat) (t:Ve):TG:=fun v σ H Q=>∃ a xs,v=.ref a/\IV K H a xs/\xs.length=n/\t xs σ H Q
theorem GQ {es:List Expr} {k:Nat} {t:Ve} {n:Nat} (hc:X.calm=true) (h:Z4 X es t)
  (hn:(assignEach es X.env).length=n:=by rfl) (hst:(assignEach es X.env).findIdx? (·.1)=none:=by rfl):PG X (.Tuple es k pos) (R_ X.K n t):=by
 intro pins s σ H v u Q I r hw
 obtain ⟨a,xs,e1,hq,hl,hw⟩:=hw
 subst e1
 cases r
 obtain ⟨its,rv,ht,hz⟩:=I.tuple hq
 refine assign_Tuple_tuple (I.ok.hd hc) ht (by simp [hn,← hl,rv.length]) hst fun h' hx=>?_
 have I1:Inv X pins σ H { s with heap:=h' }:=I.kept (t':=s.toks) fun b o e=>hx b o (Nat.ne_of_lt (Heap.lt_size e)) e
 exact h pins _ σ H xs _ Q I1 (by simpa using rv) hw
noncomputable def Vd (te:TE) (g:TG):TS:=fun D σ H=>te σ H fun x H1=>g x σ H1 D.nx
theorem Ly {tg e:Expr} {te:TE} {g:TG} (he:PE X e te) (hg:PG X tg g) (hs:swapsWithSole [tg] e pos.line X.env=pure false:=by rfl) (hw:swappedStores [tg] e X.env=pure none:=by rfl)
  (h1:(assignEach [tg] X.env).map (·.2)=[assign tg X.env]:=by rfl):PS X (.Assign [tg] e pos) (Vd te g):=by
 intro pins s σ H D I h
 refine wpAny_Assign_stores (CJ (he pins s σ H _ I h) fun v s1 ⟨x,H1,I1,r1,q1⟩=>?_) hs hw
 rw [h1]
 exact CJ (hg pins s1 σ H1 x v _ I1 r1 q1) fun _ s2 q=>q
theorem Ax {i:Nat} {x:Str} {e:Expr} {te:TE} {pos':Pos} (hN:X.N.Nodup) (hi:X.N[i]? = some x) (hx:Loc X.env.scope x) (he:PE X e te) (hs:swapsWith e (some (.Name x pos')) pos.line X.env=pure false:=by rfl) (hf:X.fn x=true \/ X.env.scope.names.lookup x=some .local:=by first | exact .inl rfl | exact .inr rfl | assumption) :
  PS X (.Assign [.Name x pos'] e pos) (Vd te (DX i)):=by
 intro pins s σ H D I h
 refine wpAny_Assign_Name (CJ (he pins s σ H _ I h) fun v s1 ⟨y,H1,I1,r1,q1⟩=>?_) hs
 exact Jx I1 hN hi hx r1 (fun s2 I2=>⟨_,H1,I2,q1⟩) hf
end
section
variable {X:Cx} {pos:Pos}
noncomputable def LK (c:TT) (tb:TS):TS:=fun D σ H=>∃ W:Nat->St->Hp->Prop,(∃ m,W m σ H)/\∀ m σ H,W m σ H ->
 c σ H fun b H1=>if b=true then ∃ N:St->Hp->Prop,(∀ σ' H',N σ' H'->∃ m',m'<m/\W m' σ' H')/\tb { D with nx:=N,ct:=N,bk:=D.nx } σ H1 else D.nx σ H1
theorem J0 {c:Expr} {body:List Stmt} {tc:TT} {tb:TS} (hp:PassesOwn (model X.prog X.w) X.A X.env X.xe) (hc:PT X c tc) (hb:Pq X body tb):PS X (.While c body [] pos) (LK tc tb):=by
 intro pins s σ H D I h
 obtain ⟨W,⟨m0,w0⟩,turn⟩:=h
 refine wpAny_While (codeAny_whileLoop (fun n s'=>∃ σ' H',Inv X pins σ' H' s'/\W n σ' H') ?_ m0 ⟨σ,H,I,w0⟩)
 rintro n s1 ⟨σ1,H1,I1,w1⟩
 refine wpAny_passesOwn hp (CJ (hc pins s1 σ1 H1 _ I1 (turn n σ1 H1 w1)) fun b s2 hq0=>?_)
 obtain ⟨H2,I2,q2⟩:=hq0
 cases b with
 | true =>
  obtain ⟨N,hN,q2⟩:=q2
  rw [if_pos rfl]
  refine wpAny_passesOwn hp (CJ (hb pins s2 σ1 H2 _ I2 q2) fun f s3 q3=>?_)
  cases f with
  | next =>
   obtain ⟨σ3,H3,I3,n3⟩:=q3
   obtain ⟨m',hm,w3⟩:=hN σ3 H3 n3
   exact ⟨m',hm,σ3,H3,I3,w3⟩
  | cont =>
   obtain ⟨σ3,H3,I3,n3⟩:=q3
   obtain ⟨m',hm,w3⟩:=hN σ3 H3 n3
   exact ⟨m',hm,σ3,H3,I3,w3⟩
  | brk=>exact q3
  | ret v=>exact q3
 | false =>
  rw [if_neg Bool.false_ne_true]
  exact wpAny_execs_nil ⟨σ1,H2,I2,q2⟩
end
structure It where
 go:Nat->Hp->Prop
 yld:Nat->Hp->V->Hp->Prop
 stop:Nat->Hp->Prop
noncomputable def Gm (X:Cx) (pins:List (Addr × Obj)) (H:Hp) (b:Addr):Prop :=
 H b=none/\b ≠ X.env.locals/\b ∉ X.fs/\(b∈X.ex \/ X.s₀.heap.objs.size<=b)/\(∀ x c,X.env.cells.lookup x=some c->c ≠ b)/\∀ p∈X.pn++pins,p.1 ≠ b
theorem Inv.Kc {X:Cx} {pins:List (Addr × Obj)} {σ:St} {H H':Hp} {s:Shared} {b:Addr} (I:Inv X pins σ H s) (hb:s.heap.objs.size<=b) (hn:H' b=none):Gm X pins H' b:=by
 refine ⟨hn,Nat.ne_of_gt (Nat.lt_of_lt_of_le I.lt hb),I.gZ hb,.inr (Nat.le_trans I.sz hb),fun x c e z=>?_,fun p hp z=>?_⟩
 ·obtain ⟨v,q⟩:=I.cell x c e
  exact absurd (Nat.lt_of_lt_of_le q.lt (by rw [z]; exact hb)) (Nat.lt_irrefl _)
 ·exact absurd (Nat.lt_of_lt_of_le (Heap.lt_size (I.pin p hp).1) (by rw [z]; exact hb)) (Nat.lt_irrefl _)
structure Turn (P:Program) (w:World) (K:PySem.W.Frag) (tg:Expr) (J:It) (fp:List Addr) (it:Addr) (tn:Nat->Heap->Prop):Prop where
 mem:it∈fp
 obj:∀ i h,tn i h->∀ b∈fp,∃ o,h.get? b=some o/\∀ v,o.data ≠ .cell v
 keep:∀ i h h',tn i h->(∀ b∈fp,∀ o,h.get? b=some o->h'.get? b=some o)->tn i h'
 item:∀ (X:Cx),X.prog=P->X.w=w->X.K=K->X.calm=true->∀ (i:Nat) (pins:List (Addr × Obj)) (s:Shared) (σ:St) (H:Hp) (E:Value->Shared->Prop),Inv X pins σ H s->(∀ b∈fp,Gm X pins H b)->tn i s.heap->J.go i H ->
  wpAny (model P w) X.A (pyNext (.ref it)) (fun r s1=>∃ u,r=some u /\
   wpAny (model P w) X.A (letOwnedTupleGo tg (.ref it) u) (fun _ s2=>∃ x H',Inv X pins σ H' s2/\RelV x u/\J.yld i H x H'/\tn (i+1) s2.heap/\∀ b∈fp,H' b=none) E s1) E s
 done:∀ (X:Cx),X.prog=P->X.w=w->X.K=K->X.calm=true->∀ (i:Nat) (pins:List (Addr × Obj)) (s:Shared) (σ:St) (H:Hp) (E:Value->Shared->Prop),Inv X pins σ H s->(∀ b∈fp,Gm X pins H b)->tn i s.heap->J.stop i H ->
  wpAny (model P w) X.A (pyNext (.ref it)) (fun r s1=>r=none/\Inv X pins σ H s1) E s
 self:∀ (A:Around) (i:Nat) (s:Shared) (Q:Value->Shared->Prop) (E:Value->Shared->Prop),tn i s.heap->Q (.ref it) s->wpAny (model P w) A (pyIter (.ref it)) Q E s
noncomputable abbrev TI:=St->Hp->(It->Hp->Prop)->Prop
noncomputable def PIE (X:Cx) (pins:List (Addr × Obj)) (σ:St) (tg:Expr) (R:It->Hp->Prop) (itv:Value) (s2:Shared):Prop :=
 ∃ (it:Addr) (fp:List Addr) (tn:Nat->Heap->Prop) (J:It) (H':Hp),itv=.ref it/\Inv X pins σ H' s2/\Turn X.prog X.w X.K tg J fp it tn/\tn 0 s2.heap/\(∀ b∈fp,Gm X pins H' b)/\R J H'
noncomputable def PI (X:Cx) (tg iter:Expr) (wi:TI):Prop :=
 ∀ (pins:List (Addr × Obj)) (s:Shared) (σ:St) (H:Hp) (R:It->Hp->Prop),Inv X pins σ H s->wi σ H R ->
  wpAny (model X.prog X.w) X.A (eval iter X.env) (fun v s1=>wpAny (model X.prog X.w) X.A (pyIter v) (PIE X pins σ tg R) X.xe s1) X.xe s
theorem Nj {M:Model} {A:Around} {E:Value->Shared->Prop} {s:Shared} {tg:Expr} {it:Addr} {u:Value} {o:Obj} {n:String} {vs:Array Value} {Q:Unit->Shared->Prop} (ho:s.heap.get? it=some o) (hc:o.cls=.type n) (hd:o.data=.fields vs)
  (hn:["enumerate","zip","dict_itemiterator","dict_reverseitemiterator","odict_iterator","itertools.zip_longest","itertools.pairwise"].contains n=false) (hQ:Q () s):wpAny M A (letOwnedTupleGo tg (.ref it) u) Q E s:=by
 unfold letOwnedTupleGo
 cases tg <;> first
  | exact wpAny_pure hQ
  | (cases u <;> first
    | exact wpAny_pure hQ
    | (refine wpAny_bind (wpAny_load ho ?_)
       rw [hc,hd]
       show wpAny M A (if (["enumerate","zip","dict_itemiterator","dict_reverseitemiterator","odict_iterator","itertools.zip_longest","itertools.pairwise"].contains n && vs[0]? == some (rawInt _))=true then _ else _) Q E s
       rw [if_neg (by intro h; rw [hn,Bool.false_and] at h; cases h)]
       exact wpAny_pure hQ))
noncomputable def YF (K:PySem.W.Frag) (a:Addr):It :=
 ⟨fun i H=>∃ xs x,CK K H a xs/\xs[i]? = some x,fun i H x H'=>H'=H/\∀ xs,CK K H a xs->xs[i]? = some x,fun i H=>∃ xs,CK K H a xs/\xs.length<=i⟩
noncomputable def lU (K:PySem.W.Frag) (a:Addr):It :=
 ⟨fun i H=>∃ xs x,IV K H a xs/\xs[i]? = some x,fun i H x H'=>H'=H/\∀ xs,IV K H a xs->xs[i]? = some x,fun i H=>∃ xs,IV K H a xs/\xs.length<=i⟩
noncomputable def W7 (lo:Int) (n:Nat):It:=⟨fun i _=>i<n,fun i H x H'=>H'=H/\x=.int (lo+i),fun i _=>n<=i⟩
theorem Qi {P:Program} {w:World} {K:PySem.W.Frag} {tg:Expr} (a it:Addr):Turn P w K tg (YF K a) [it] it (fun i h=>h.IsListIter it a i) where
 mem:=by simp
 obj:=fun i h st b hb=>by
  have e:b=it:=by simpa using hb
  subst e
  obtain ⟨o,e,c,d⟩:=st
  exact ⟨o,e,fun v z=>by rw [d] at z; cases z⟩
 keep:=fun i h h' st k=>st.at fun o e=>k it (by simp) o e
 item:=by
  intro X hP hw hK hc i pins s σ H E I hf st hg
  subst hP hw hK
  obtain ⟨xs,x,hq,hx⟩:=hg
  obtain ⟨its,rv,p,hz⟩:=I.list hq
  obtain ⟨u,hu,ru⟩:=rv.get hx
  obtain ⟨f0,f1,f2,f3,f4,f5⟩:=hf it (by simp)
  refine wpAny_pyNext_list_item st p.isList (x:=u) (by simpa using hu) fun h' st' sb=>?_
  have I1:Inv X pins σ H { s with heap:=h' }:=I.turned (t':=s.toks) (fun b o hb e=>(sb.2 b hb).trans e) f0 f1 f3 f4 f5
  obtain ⟨o,e,c,d⟩:=id st'
  exact ⟨u,rfl,Nj (s:={ s with heap:=h' }) e c d (by decide) ⟨x,H,I1,ru,⟨rfl,fun ys hy=>by rw [I.Iz hy hq]; exact hx⟩,st',fun b hb=>(hf b hb).1⟩⟩
 done:=by
  intro X hP hw hK hc i pins s σ H E I hf st hg
  subst hP hw hK
  obtain ⟨xs,hq,hx⟩:=hg
  obtain ⟨its,rv,p,hz⟩:=I.list hq
  obtain ⟨f0,f1,f2,f3,f4,f5⟩:=hf it (by simp)
  have hl:=rv.length
  exact wpAny_pyNext_list_end (I.ok.hd hc) st p.isList (by simp; omega) fun h' eb=>⟨rfl,I.turned (t':=s.toks) (fun b o hb e=>eb b o hb e) f0 f1 f3 f4 f5⟩
 self:=fun _ _ _ _ _ st h=>wpAny_pyIter_listiter st h
theorem O8 {P:Program} {w:World} {K:PySem.W.Frag} {tg:Expr} (a it:Addr):Turn P w K tg (lU K a) [it] it (fun i h=>h.IsTupleIter it a i) where
 mem:=by simp
 obj:=fun i h st b hb=>by
  have e:b=it:=by simpa using hb
  subst e
  obtain ⟨o,e,c,d⟩:=st
  exact ⟨o,e,fun v z=>by rw [d] at z; cases z⟩
 keep:=fun i h h' st k=>st.at fun o e=>k it (by simp) o e
 item:=by
  intro X hP hw hK hc i pins s σ H E I hf st hg
  subst hP hw hK
  obtain ⟨xs,x,hq,hx⟩:=hg
  obtain ⟨its,rv,p,hz⟩:=I.tuple hq
  obtain ⟨u,hu,ru⟩:=rv.get hx
  obtain ⟨f0,f1,f2,f3,f4,f5⟩:=hf it (by simp)
  refine wpAny_pyNext_tuple_item st (show s.heap.IsTuple a its.toArray from p) (x:=u) (by simpa using hu) fun h' st' sb=>?_
  have I1:Inv X pins σ H { s with heap:=h' }:=I.turned (t':=s.toks) (fun b o hb e=>(sb.2 b hb).trans e) f0 f1 f3 f4 f5
  obtain ⟨o,e,c,d⟩:=id st'
  exact ⟨u,rfl,Nj (s:={ s with heap:=h' }) e c d (by decide) ⟨x,H,I1,ru,⟨rfl,fun ys hy=>by rw [I.JG hy hq]; exact hx⟩,st',fun b hb=>(hf b hb).1⟩⟩
 done:=by
  intro X hP hw hK hc i pins s σ H E I hf st hg
  subst hP hw hK
  obtain ⟨xs,hq,hx⟩:=hg
  obtain ⟨its,rv,p,hz⟩:=I.tuple hq
  obtain ⟨f0,f1,f2,f3,f4,f5⟩:=hf it (by simp)
  have hl:=rv.length
  exact wpAny_pyNext_tuple_end (I.ok.hd hc) st (show s.heap.IsTuple a its.toArray from p) (by simp; omega) fun h' eb=>⟨rfl,I.turned (t':=s.toks) (fun b o hb e=>eb b o hb e) f0 f1 f3 f4 f5⟩
 self:=fun _ _ _ _ _ st h=>wpAny_pyIter_tupleiter st h
theorem Pb {P:Program} {w:World} {K:PySem.W.Frag} {tg:Expr} (it:Addr) (lo:Int) (n:Nat):Turn P w K tg (W7 lo n) [it] it (fun i h=>IsRangeIter h it (lo+(i:Nat) * 1) ((n:Int) - (i:Nat)) 1) where
 mem:=by simp
 obj:=fun i h st b hb=>by
  have e:b=it:=by simpa using hb
  subst e
  exact ⟨_,st,fun v z=>by
   have z':Data.fields _=Data.cell v:=z
   cases z'⟩
 keep:=fun i h h' st k=>k it (by simp) _ st
 item:=by
  intro X hP hw hK hc i pins s σ H E I hf st hg
  subst hP hw hK
  obtain ⟨f0,f1,f2,f3,f4,f5⟩:=hf it (by simp)
  have W:=Walks.range (prog:=X.prog) (w:=X.w) (I.ok.hd hc) it lo 1 n
  refine W.item i s _ _ hg st fun v h' tk hv st' kk=>?_
  obtain ⟨t,rfl⟩:=hv
  have I1:Inv X pins σ H { s with heap:=h',toks:=tk }:=I.turned (fun b o hb e=>kk b o (by simpa using hb) e) f0 f1 f3 f4 f5
  refine ⟨_,rfl,Nj (s:={ s with heap:=h',toks:=tk }) (n:="range_iterator") st' rfl rfl (by decide) ⟨.int (lo+i),H,I1,⟨t,?_⟩,⟨rfl,rfl⟩,st',fun b hb=>(hf b hb).1⟩⟩
  rw [Int.mul_one]
 done:=by
  intro X hP hw hK hc i pins s σ H E I hf st hg
  subst hP hw hK
  obtain ⟨f0,f1,f2,f3,f4,f5⟩:=hf it (by simp)
  exact wpAny_pyNext_range_end (I.ok.hd hc) st (by have:n<=i:=hg; omega) fun h' eb=>⟨rfl,I.turned (t':=s.toks) (fun b o hb e=>eb b o hb e) f0 f1 f3 f4 f5⟩
 self:=fun _ _ _ _ _ st h=>wpAny_pyIter_rangeiter st h
end L2
namespace L2
open PySem PySem.Spec PyProof.Rows
section
variable {X:Cx} {tg:Expr}
noncomputable def cV (K:PySem.W.Frag) (tl:TE):TI:=fun σ H R=>tl σ H fun x H1=>∃ a,x=.ref a/\(∃ xs,CK K H1 a xs)/\R (YF K a) H1
noncomputable def j6 (K:PySem.W.Frag) (tl:TE):TI:=fun σ H R=>tl σ H fun x H1=>∃ a,x=.ref a/\(∃ xs,IV K H1 a xs)/\R (lU K a) H1
theorem Bg {l:Expr} {tl:TE} (hl:PE X l tl):PI X tg l (cV X.K tl):=by
 intro pins s σ H R I h
 refine CJ (hl pins s σ H _ I h) fun v s1 hq0=>?_
 obtain ⟨x,H1,I1,r1,q1⟩:=hq0
 obtain ⟨a,e,⟨xs,hq⟩,q⟩:=q1
 subst e
 cases r1
 obtain ⟨its,rv,p,hz⟩:=I1.list hq
 refine wpAny_pyIter_list p.isList ?_
 refine ⟨s1.heap.objs.size,[s1.heap.objs.size],_,_,H1,rfl,I1.kept (t':=s1.toks) fun b o e=>Heap.get?_push_of_some _ e,Qi a _,⟨_,Heap.get?_push_size _ rfl,rfl,rfl⟩,fun b hb=>?_,q⟩
 have e:b=s1.heap.objs.size:=by simpa using hb
 subst e
 exact I1.Kc (Nat.le_refl _) (I1.hok.fresh (Nat.le_refl _))
theorem Ye {l:Expr} {tl:TE} (hl:PE X l tl):PI X tg l (j6 X.K tl):=by
 intro pins s σ H R I h
 refine CJ (hl pins s σ H _ I h) fun v s1 hq0=>?_
 obtain ⟨x,H1,I1,r1,q1⟩:=hq0
 obtain ⟨a,e,⟨xs,hq⟩,q⟩:=q1
 subst e
 cases r1
 obtain ⟨its,rv,p,hz⟩:=I1.tuple hq
 refine wpAny_pyIter_tuple (show s1.heap.IsTuple a its.toArray from p) ?_
 refine ⟨s1.heap.objs.size,[s1.heap.objs.size],_,_,H1,rfl,I1.kept (t':=s1.toks) fun b o e=>Heap.get?_push_of_some _ e,O8 a _,⟨_,Heap.get?_push_size _ rfl,rfl,rfl⟩,fun b hb=>?_,q⟩
 have e:b=s1.heap.objs.size:=by simpa using hb
 subst e
 exact I1.Kc (Nat.le_refl _) (I1.hok.fresh (Nat.le_refl _))
theorem S_ {pins:List (Addr × Obj)} {σ:St} {H:Hp} {s:Shared} {R:It->Hp->Prop} {E:Value->Shared->Prop} {lo hi:Int} {t u v:Tok} {tk:Nat} (I:Inv X pins σ H s) (h1 : -(2 ^ 62)<=lo) (h2:lo<2 ^ 62) (h3 : -(2 ^ 62)<=hi) (h4:hi<2 ^ 62)
  (q:R (W7 lo (hi - lo).toNat) H):wpAny (model X.prog X.w) X.A (pyIter (.ref s.heap.objs.size)) (PIE X pins σ tg R) E { s with heap:=s.heap.push { cls:=.type "range",data:=.fields #[.int lo t,.int hi u,.int 1 v] },toks:=tk }:=by
 refine wpAny_pyIter_range (IsRange.new ..) (small_one h1 h2 h3 h4) ?_
 have I1:Inv X pins σ H { s with heap:=s.heap.push { cls:=.type "range",data:=.fields #[.int lo t,.int hi u,.int 1 v] },toks:=tk }:=I.kept fun b o e=>Heap.get?_push_of_some _ e
 refine ⟨(s.heap.push { cls:=.type "range",data:=.fields #[.int lo t,.int hi u,.int 1 v] }).objs.size,[(s.heap.push { cls:=.type "range",data:=.fields #[.int lo t,.int hi u,.int 1 v] }).objs.size],_,_,H,rfl,
  I1.kept (t':=tk) fun b o e=>Heap.get?_push_of_some _ e,Pb _ lo (hi - lo).toNat,?_,fun b hb=>?_,q⟩
 ·have e1:lo+((0:Nat):Int) * 1=lo:=by simp
  have e2:(((hi - lo).toNat:Nat):Int) - ((0:Nat):Int)=Builtin.Range.rangeSize lo hi 1:=by rw [rangeSize_one]; split <;> omega
  show IsRangeIter _ _ (lo+((0:Nat):Int) * 1) ((((hi - lo).toNat:Nat):Int) - ((0:Nat):Int)) 1
  rw [e1,e2]
  exact Heap.get?_push_size _ rfl
 ·have e:b=(s.heap.push { cls:=.type "range",data:=.fields #[.int lo t,.int hi u,.int 1 v] }).objs.size:=by simpa using hb
  subst e
  exact I1.Kc (Nat.le_refl _) (I1.hok.fresh (Nat.le_refl _))
noncomputable def Zh (ta:TA):TI:=fun σ H R=>ta σ H fun vs H1=>∃ j:Int,vs=[.int j] /\ -(2 ^ 62)<=j/\j<2 ^ 62/\R (W7 0 j.toNat) H1
theorem CN {a:Expr} {ta:TA} {p pos:Pos} (hg:Gl X "range") (hm:X.mg "range" = none) (ha:PA X [a] ta) (hs:starEach [a] X.env=[(false,eval a X.env)]:=by rfl):PI X tg (.Call (.Name "range" p) [a] [] pos) (Zh ta):=by
 intro pins s σ H R I h
 refine Call_ (GC I hg hm boot_range (PyProof.Rows.callWith_type1 (CJ (ha pos pins s σ H _ I h) fun us s1 ⟨vs,H1,I1,r1,q1⟩=>?_) hs rfl))
 obtain ⟨j,e,q1,q2,q⟩:=q1
 subst e
 cases r1 with
 | cons r rr =>
  cases rr
  obtain ⟨t,rfl⟩:=r
  exact call_range_1 (S_ I1 (by omega) (by omega) q1 q2 (by simpa using q))
noncomputable def jo (wi:TI) (g:TG) (tb:TS):TS:=fun D σ H=>wi σ H fun J H1=>∃ W:Nat->Nat->St->Hp->Prop,(∃ m,W 0 m σ H1)/\∀ i m σ H,W i m σ H ->
 (J.stop i H/\D.nx σ H) \/ (J.go i H/\∃ N:St->Hp->Prop,(∀ σ' H',N σ' H'->∃ m',m'<m/\W (i+1) m' σ' H')/\∀ x H',J.yld i H x H'->g x σ H' fun σ2 H2=>tb { D with nx:=N,ct:=N,bk:=D.nx } σ2 H2)
noncomputable def JM (fp:List Addr) (h:Heap):List (Addr × Obj):=fp.filterMap fun b=>(h.get? b).map fun o=>(b,o)
theorem Ei {fp:List Addr} {h:Heap} {b:Addr} {o:Obj} (hb:b∈fp) (e:h.get? b=some o):(b,o)∈JM fp h:=List.mem_filterMap.mpr ⟨b,hb,by rw [e]; rfl⟩
theorem Q8 {fp:List Addr} {h:Heap} {p:Addr × Obj} (hp:p∈JM fp h):p.1∈fp/\h.get? p.1=some p.2:=by
 obtain ⟨b,hb,e⟩:=List.mem_filterMap.mp hp
 cases q:h.get? b with
 | none=>rw [q] at e; cases e
 | some o =>
  rw [q] at e
  have e':(b,o)=p:=Option.some.inj e
  subst e'
  exact ⟨hb,q⟩
theorem Inv.pinned {pins:List (Addr × Obj)} {σ:St} {H:Hp} {s:Shared} {fp:List Addr} (I:Inv X pins σ H s) (hf:∀ b∈fp,Gm X pins H b) (ho:∀ b∈fp,∃ o,s.heap.get? b=some o/\∀ v,o.data ≠ .cell v):Inv X (pins++JM fp s.heap) σ H s :=
 I.QM fun p hp=>(List.mem_append.mp hp).elim (fun z=>I.pin p (List.mem_append_right _ z)) fun z=>by
  obtain ⟨hb,e⟩:=Q8 z
  obtain ⟨f0,f1,f2,_⟩:=hf p.1 hb
  obtain ⟨o,e',d⟩:=ho p.1 hb
  rw [e] at e'; cases e'
  exact ⟨e,f0,f1,f2,d⟩
theorem Inv.HS {pins pl:List (Addr × Obj)} {σ:St} {H:Hp} {s:Shared} (I:Inv X (pins++pl) σ H s):Inv X pins σ H s:=I.QM fun p hp=>I.pin p (List.mem_append_right _ (List.mem_append_left _ hp))
theorem Cq {iter:Expr} {body:List Stmt} {wi:TI} {g:TG} {tb:TS} {pos:Pos} (hp:PassesOwn (model X.prog X.w) X.A X.env X.xe) (hc:X.calm=true) (hi:PI X tg iter wi) (hg:PG X tg g) (hb:Pq X body tb)
  (hs:∀ x,foldedSetIterable iter X.env x=pure x:=by intro _; rfl):PS X (.For tg iter body [] pos) (jo wi g tb):=by
 intro pins s σ H D I h
 refine wpAny_For (CJ (hi pins s σ H _ I h) fun v s1 h1=>CJ h1 fun itv s2 h2=>?_) hs
 obtain ⟨it,fp,tn,J,H2,e,I2,T,st2,f2,W,⟨m0,w0⟩,turn⟩:=h2
 subst e
 have stat:∀ {H':Hp},(∀ b∈fp,H' b=none)->∀ b∈fp,Gm X pins H' b:=fun hn b hb=>⟨hn b hb,(f2 b hb).2⟩
 refine codeAny_forLoop_any (fun n s'=>∃ i σ' H',Inv X pins σ' H' s'/\tn i s'.heap/\(∀ b∈fp,H' b=none)/\W i n σ' H') ?_ m0 ⟨0,σ,H2,I2,st2,fun b hb=>(f2 b hb).1,w0⟩
 rintro n s3 ⟨i,σ3,H3,I3,st3,fr3,w3⟩
 rcases turn i n σ3 H3 w3 with ⟨stop,qn⟩ | ⟨go,N,hN,step⟩
 ·refine wpAny_passesOwn hp (CJ (T.done X rfl rfl rfl hc i pins s3 σ3 H3 X.xe I3 (stat fr3) st3 stop) fun r s4 ⟨hr,I4⟩=>?_)
  subst hr
  exact wpAny_execs_nil ⟨σ3,H3,I4,qn⟩
 ·refine wpAny_passesOwn hp (CJ (T.item X rfl rfl rfl hc i pins s3 σ3 H3 X.xe I3 (stat fr3) st3 go) fun r s4 ⟨u,hr,h4⟩=>?_)
  subst hr
  refine wpAny_passesOwn hp (CJ h4 fun _ s5 hq0=>?_)
  obtain ⟨x,H5,I5,r5,y5,st5,fr5⟩:=hq0
  have I5':=I5.pinned (stat fr5) (T.obj _ _ st5)
  refine wpAny_passesOwn hp (CJ (hg _ s5 σ3 H5 x u _ I5' r5 (step x H5 y5)) fun _ s6 hq0=>?_)
  obtain ⟨σ6,H6,I6,q6⟩:=hq0
  refine wpAny_passesOwn hp (CJ (hb _ s6 σ6 H6 _ I6 q6) fun f s7 q7=>?_)
  have again:∀ {σ7:St} {H7:Hp},Inv X (pins++JM fp s5.heap) σ7 H7 s7->N σ7 H7->∃ m,m<n/\∃ i σ' H',Inv X pins σ' H' s7/\tn i s7.heap/\(∀ b∈fp,H' b=none)/\W i m σ' H':=fun {σ7 H7} I7 n7=>by
   obtain ⟨m',hm,w7⟩:=hN σ7 H7 n7
   refine ⟨m',hm,i+1,σ7,H7,I7.HS,T.keep _ _ _ st5 fun b hb o e=>(I7.pin (b,o) (List.mem_append_right _ (List.mem_append_right _ (Ei hb e)))).1,fun b hb=>?_,w7⟩
   obtain ⟨o,e,d⟩:=T.obj _ _ st5 b hb
   exact (I7.pin (b,o) (List.mem_append_right _ (List.mem_append_right _ (Ei hb e)))).2.1
  cases f with
  | next=>obtain ⟨σ7,H7,I7,n7⟩:=q7; exact again I7 n7
  | cont=>obtain ⟨σ7,H7,I7,n7⟩:=q7; exact again I7 n7
  | brk=>obtain ⟨σ7,H7,I7,q7⟩:=q7; exact ⟨σ7,H7,I7.HS,q7⟩
  | ret v=>obtain ⟨x7,σ7,H7,I7,r7,q7⟩:=q7; exact ⟨x7,σ7,H7,I7.HS,r7,q7⟩
end
theorem Dl {K:PySem.W.Frag} {a:Addr} {xs:List V} {g:TG} {tb:TS} {D:Ends} {σ:St} {H:Hp} (Pv:Nat->St->Hp->Prop) (h0:Pv 0 σ H) (hl:∀ i σ H,i<=xs.length->Pv i σ H->CK K H a xs)
  (hs:∀ i x σ H,xs[i]? = some x->Pv i σ H->g x σ H fun σ2 H2=>tb { D with nx:=Pv (i+1),ct:=Pv (i+1),bk:=D.nx } σ2 H2) (hd:∀ σ H,Pv xs.length σ H->D.nx σ H) :
  ∃ W:Nat->Nat->St->Hp->Prop,(∃ m,W 0 m σ H)/\∀ i m σ H,W i m σ H ->
   ((YF K a).stop i H/\D.nx σ H) \/ ((YF K a).go i H/\∃ N:St->Hp->Prop,(∀ σ' H',N σ' H'->∃ m',m'<m/\W (i+1) m' σ' H')/\∀ x H',(YF K a).yld i H x H'->g x σ H' fun σ2 H2=>tb { D with nx:=N,ct:=N,bk:=D.nx } σ2 H2):=by
 refine ⟨fun i m σ H=>m=xs.length - i/\i<=xs.length/\Pv i σ H,⟨xs.length,by simp,Nat.zero_le _,h0⟩,?_⟩
 rintro i m σ H ⟨rfl,hi,p⟩
 have q:=hl i σ H hi p
 by_cases hlt:i<xs.length
 ·refine .inr ⟨⟨xs,xs[i],q,by simp [hlt]⟩,Pv (i+1),fun σ' H' p'=>⟨xs.length - (i+1),by omega,rfl,hlt,p'⟩,fun x H' y=>?_⟩
  obtain ⟨e,y⟩:=y
  subst e
  exact hs i x σ _ (y xs q) p
 ·have e:i=xs.length:=by omega
  subst e
  exact .inl ⟨⟨xs,q,Nat.le_refl _⟩,hd σ H p⟩
theorem Gi {lo:Int} {n:Nat} {g:TG} {tb:TS} {D:Ends} {σ:St} {H:Hp} (Pv:Nat->St->Hp->Prop) (h0:Pv 0 σ H)
  (hs:∀ i σ H,i<n->Pv i σ H->g (.int (lo+i)) σ H fun σ2 H2=>tb { D with nx:=Pv (i+1),ct:=Pv (i+1),bk:=D.nx } σ2 H2) (hd:∀ σ H,Pv n σ H->D.nx σ H) :
  ∃ W:Nat->Nat->St->Hp->Prop,(∃ m,W 0 m σ H)/\∀ i m σ H,W i m σ H ->
   ((W7 lo n).stop i H/\D.nx σ H) \/ ((W7 lo n).go i H/\∃ N:St->Hp->Prop,(∀ σ' H',N σ' H'->∃ m',m'<m/\W (i+1) m' σ' H')/\∀ x H',(W7 lo n).yld i H x H'->g x σ H' fun σ2 H2=>tb { D with nx:=N,ct:=N,bk:=D.nx } σ2 H2):=by
 refine ⟨fun i m σ H=>m=n - i/\i<=n/\Pv i σ H,⟨n,by simp,Nat.zero_le _,h0⟩,?_⟩
 rintro i m σ H ⟨rfl,hi,p⟩
 by_cases hlt:i<n
 ·refine .inr ⟨hlt,Pv (i+1),fun σ' H' p'=>⟨n - (i+1),by omega,rfl,hlt,p'⟩,fun x H' y=>?_⟩
  obtain ⟨e,y⟩:=y
  subst e y
  exact hs i σ _ hlt p
 ·have e:i=n:=by omega
  subst e
  exact .inl ⟨Nat.le_refl _,hd σ H p⟩
theorem J1 {c:TT} {tb:TS} {D:Ends} {σ:St} {H:Hp} (Pv:St->Hp->Prop) (μ:St->Hp->Nat) (h0:Pv σ H)
  (hs:∀ σ H,Pv σ H->c σ H fun b H1=>if b=true then tb { D with nx:=fun σ' H'=>Pv σ' H'/\μ σ' H'<μ σ H,ct:=fun σ' H'=>Pv σ' H'/\μ σ' H'<μ σ H,bk:=D.nx } σ H1 else D.nx σ H1)
  (mono:∀ σ H Q Q',(∀ b H1,Q b H1->Q' b H1)->c σ H Q->c σ H Q'):LK c tb D σ H:=by
 refine ⟨fun m σ H=>m=μ σ H/\Pv σ H,⟨_,rfl,h0⟩,?_⟩
 rintro m σ H ⟨rfl,p⟩
 refine mono σ H _ _ (fun b H1 q=>?_) (hs σ H p)
 cases b with
 | true=>exact ⟨_,fun σ' H' ⟨p',l⟩=>⟨_,l,rfl,p'⟩,q⟩
 | false=>exact q
end L2
namespace L2
open PySem PySem.Spec PyProof.Rows
noncomputable abbrev R2:=V->V->Hp->VK->Prop
noncomputable def G3 (X:Cx) (f:Value->Value->Sem Value) (r:R2):Prop :=
 ∀ (pins:List (Addr × Obj)) (s:Shared) (σ:St) (H:Hp) (x y:V) (v u:Value) (Q:VK),Inv X pins σ H s->RelV x v->RelV y u->r x y H Q ->
  wpAny (model X.prog X.w) X.A (f v u) (EP X pins σ Q) X.xe s
noncomputable def jx (X:Cx) (f:Value->Sem Value) (r:V->Hp->VK->Prop):Prop :=
 ∀ (pins:List (Addr × Obj)) (s:Shared) (σ:St) (H:Hp) (x:V) (v:Value) (Q:VK),Inv X pins σ H s->RelV x v->r x H Q ->
  wpAny (model X.prog X.w) X.A (f v) (EP X pins σ Q) X.xe s
noncomputable def Fo (X:Cx) (f:Value) (r:List V->Hp->VK->Prop):Prop :=
 ∀ (pins:List (Addr × Obj)) (s:Shared) (σ:St) (H:Hp) (xs:List V) (us:List Value) (Q:VK),Inv X pins σ H s->Vals xs us->r xs H Q ->
  wpAny (model X.prog X.w) X.A (call f us) (EP X pins σ Q) X.xe s
noncomputable def iy (X:Cx) (r:V->Hp->(Bool->Hp->Prop)->Prop):Prop :=
 ∀ (pins:List (Addr × Obj)) (s:Shared) (σ:St) (H:Hp) (x:V) (v:Value) (Q:Bool->Hp->Prop),Inv X pins σ H s->RelV x v->r x H Q ->
  wpAny (model X.prog X.w) X.A (truthy v) (TP X pins σ Q) X.xe s
noncomputable def Nu (r:R2) (ta tb:TE):TE:=fun σ H Q=>ta σ H fun x H1=>tb σ H1 fun y H2=>r x y H2 Q
noncomputable def mD (r:V->Hp->VK->Prop) (ta:TE):TE:=fun σ H Q=>ta σ H fun x H1=>r x H1 Q
noncomputable def rI (C:Int->Int->Prop) (g:Int->Int->V):R2:=fun x y H Q=>∃ i j,x=.int i/\y=.int j/\C i j/\Q (g i j) H
noncomputable def Qu (g:Int->Int->V):R2:=fun x y H Q=>∃ i j,x=.int i/\y=.int j/\Q (g i j) H
noncomputable def rU (g:Int->V):V->Hp->VK->Prop:=fun x H Q=>∃ i,x=.int i/\Q (g i) H
section
variable {X:Cx} {a b c:Expr} {ta tb tc:TE} {pos:Pos}
theorem Yh (ha:PE X a ta) (hb:PE X b tb) {pins:List (Addr × Obj)} {s:Shared} {σ:St} {H:Hp} {R:V->V->Hp->Prop} (I:Inv X pins σ H s)
  (h:ta σ H fun x H1=>tb σ H1 fun y H2=>R x y H2) {Q:Value->Shared->Prop} {f:Value->Value->Sem Value}
  (hf:∀ v u s2 x y H2,Inv X pins σ H2 s2->RelV x v->RelV y u->R x y H2->wpAny (model X.prog X.w) X.A (f v u) Q X.xe s2) :
  wpAny (model X.prog X.w) X.A (eval a X.env) (fun v s₁=>wpAny (model X.prog X.w) X.A (eval b X.env) (fun u s₂=>wpAny (model X.prog X.w) X.A (f v u) Q X.xe s₂) X.xe s₁) X.xe s:=by
 refine CJ (ha pins s σ H _ I h) fun v s1 hq0=>?_
 obtain ⟨x,H1,I1,r1,q1⟩:=hq0
 refine CJ (hb pins s1 σ H1 _ I1 q1) fun u s2 hq0=>?_
 obtain ⟨y,H2,I2,r2,q2⟩:=hq0
 exact hf v u s2 x y H2 I2 r1 r2 q2
theorem Aq {op:Operator} {r:R2} (ho:G3 X (binaryOp op) r) (ha:PE X a ta) (hb:PE X b tb):PE X (.BinOp a op b pos) (Nu r ta tb):=by
 intro pins s σ H Q I h
 exact wpAny_BinOp (Yh ha hb I h fun v u s2 x y H2 I2 rx ry q=>ho pins s2 σ H2 x y v u Q I2 rx ry q)
theorem Ha {op:UnaryOp} {r:V->Hp->VK->Prop} (ho:jx X (unaryOp op) r) (ha:PE X a ta):PE X (.UnaryOp op a pos) (mD r ta):=by
 intro pins s σ H Q I h
 exact UnaryOp_ (CJ (ha pins s σ H _ I h) fun v s1 ⟨x,H1,I1,r1,q1⟩=>ho pins s1 σ H1 x v Q I1 r1 q1)
theorem XM {f:Value->Value->Sem Value} {C:Int->Int->Prop} {g:Int->Int->Int}
  (rule:∀ (i j:Int) (t u:Tok) (s:Shared) (Q:Value->Shared->Prop) (E:Value->Shared->Prop),C i j->Q (.int (g i j) s.toks) { s with toks:=s.toks+1 }->wpAny (model X.prog X.w) X.A (f (.int i t) (.int j u)) Q E s) :
  G3 X f (rI C fun i j=>.int (g i j)):=by
 intro pins s σ H x y v u Q I rx ry h
 obtain ⟨i,j,rfl,rfl,hc,q⟩:=h
 obtain ⟨t,rfl⟩:=rx
 obtain ⟨t',rfl⟩:=ry
 exact rule i j t t' s _ _ hc ⟨.int (g i j),H,I.tok _,⟨_,rfl⟩,q⟩
theorem V2 {f:Value->Value->Sem Value} {g:Int->Int->Int}
  (rule:∀ (i j:Int) (t u:Tok) (s:Shared) (Q:Value->Shared->Prop) (E:Value->Shared->Prop),Q (.int (g i j) s.toks) { s with toks:=s.toks+1 }->wpAny (model X.prog X.w) X.A (f (.int i t) (.int j u)) Q E s) :
  G3 X f (Qu fun i j=>.int (g i j)):=by
 intro pins s σ H x y v u Q I rx ry h
 obtain ⟨i,j,rfl,rfl,q⟩:=h
 obtain ⟨t,rfl⟩:=rx
 obtain ⟨t',rfl⟩:=ry
 exact rule i j t t' s _ _ ⟨.int (g i j),H,I.tok _,⟨_,rfl⟩,q⟩
theorem Vg {f:Value->Value->Sem Value} {g:Int->Int->Bool}
  (rule:∀ (i j:Int) (t u:Tok) (s:Shared) (Q:Value->Shared->Prop) (E:Value->Shared->Prop),Q (.bool (g i j)) s->wpAny (model X.prog X.w) X.A (f (.int i t) (.int j u)) Q E s) :
  G3 X f (Qu fun i j=>.bl (g i j)):=by
 intro pins s σ H x y v u Q I rx ry h
 obtain ⟨i,j,rfl,rfl,q⟩:=h
 obtain ⟨t,rfl⟩:=rx
 obtain ⟨t',rfl⟩:=ry
 exact rule i j t t' s _ _ ⟨.bl (g i j),H,I,rfl,q⟩
noncomputable def gQ (i j:Int):Prop:=0<j/\j<1073741824
noncomputable def Y5 (i j:Int):Prop:=0<=j/\j<=1000000/\i.natAbs<2 ^ 64
noncomputable def Ou (i j:Int):Prop:=(-(2 ^ 64)<i/\i<2 ^ 64) \/ (-(2 ^ 64)<j/\j<2 ^ 64)
theorem Ou.ok {i j:Int} (h:Ou i j):IntMulOk i j:=by
 rcases h with ⟨h1,h2⟩ | ⟨h1,h2⟩
 ·exact .of_left (intBits_le_64 h1 h2)
 ·exact .of_right (intBits_le_64 h1 h2)
theorem two_pow_nn (k:Nat):(0:Int)<=2 ^ k:=by
 rw [two_pow_cast]
 exact Int.natCast_nonneg _
theorem Bp:G3 X (binaryOp .Add) (Qu fun i j=>.int (i+j)):=V2 fun _ _ _ _ _ _ _ q=>add_int q
theorem Dv:G3 X (binaryOp .Sub) (Qu fun i j=>.int (i - j)):=V2 fun _ _ _ _ _ _ _ q=>sub_int q
theorem HH:G3 X (binaryOp .Mult) (rI Ou fun i j=>.int (i * j)):=XM fun _ _ _ _ _ _ _ hc q=>mul_int q hc.ok
theorem Cp:G3 X (binaryOp .FloorDiv) (rI gQ fun i j=>.int (i / j)):=XM fun i j _ _ _ _ _ hc q=>by
 have h1:(0:Int)<j:=hc.1
 have h2:j<1073741824:=hc.2
 exact floordiv_int (by omega) (by rw [Int.fdiv_eq_ediv_of_nonneg i (by omega)]; exact q) (.inl (PyProof.noPylong_small (by omega)))
theorem Bs:G3 X (binaryOp .Mod) (rI (fun _ j=>0<j) fun i j=>.int (i % j)):=XM fun i j _ _ _ _ _ hc q=>by
 have h1:(0:Int)<j:=hc
 exact mod_int' (by omega) (by rw [Int.fmod_eq_emod_of_nonneg i (by omega)]; exact q)
theorem S9:G3 X (binaryOp .Pow) (rI Y5 fun i j=>.int (i ^ j.toNat)):=XM fun _ _ _ _ _ _ _ hc q=>pow_int_small hc.1 hc.2.1 hc.2.2 q
theorem LC:G3 X (binaryOp .LShift) (rI Y5 fun i j=>.int (i * 2 ^ j.toNat)):=XM fun _ _ _ _ _ _ _ hc q=>lshift_int_small hc.1 hc.2.1 hc.2.2 q
theorem Gs:G3 X (binaryOp .RShift) (rI (fun _ j=>0<=j) fun i j=>.int (i / 2 ^ j.toNat)):=XM fun i j _ _ _ _ _ hc q =>
 rshift_int hc (by rw [Int.fdiv_eq_ediv_of_nonneg i (two_pow_nn _)]; exact q)
theorem G_:G3 X (binaryOp .BitAnd) (Qu fun i j=>.int (Builtin.bitAnd i j)):=V2 fun _ _ _ _ _ _ _ q=>and_int q
theorem NT:G3 X (binaryOp .BitOr) (Qu fun i j=>.int (Builtin.bitOr i j)):=V2 fun _ _ _ _ _ _ _ q=>or_int q
theorem lu {f:Value->Sem Value} {g:Int->Int}
  (rule:∀ (i:Int) (t:Tok) (s:Shared) (Q:Value->Shared->Prop) (E:Value->Shared->Prop),Q (.int (g i) s.toks) { s with toks:=s.toks+1 }->wpAny (model X.prog X.w) X.A (f (.int i t)) Q E s) :
  jx X f (rU fun i=>.int (g i)):=by
 intro pins s σ H x v Q I rx h
 obtain ⟨i,rfl,q⟩:=h
 obtain ⟨t,rfl⟩:=rx
 exact rule i t s _ _ ⟨.int (g i),H,I.tok _,⟨_,rfl⟩,q⟩
theorem Fe:jx X (unaryOp .USub) (rU fun i=>.int (-i)):=lu fun _ _ _ _ _ q=>neg_int q
end
noncomputable def Z_:V->V->Bool
 | .non,.non=>true | .non,.int _=>true | .int _,.non=>true | .non,.bl _=>true | .bl _,.non=>true | .non,.str _=>true | .str _,.non=>true
 | .int _,.int _=>true | .bl _,.bl _=>true | .str _,.str _=>true | .byt _,.byt _=>true
 | .int _,.str _=>true | .str _,.int _=>true | .bl _,.str _=>true | .str _,.bl _=>true
 | _,_=>false
noncomputable def l_:R2:=fun x y H Q=>Z_ x y=true/\Q (.bl (decide (x=y))) H
noncomputable def mF:R2:=fun x y H Q=>Z_ x y=true/\Q (.bl (!decide (x=y))) H
theorem Pr {i j:Int}:decide (V.int i=V.int j)=(i == j):=by
 rw [Bool.eq_iff_iff]
 simp
theorem Ti {i j:Bool}:decide (V.bl i=V.bl j)=(i == j):=by
 rw [Bool.eq_iff_iff]
 simp
theorem Hi {i j:Str}:decide (V.str i=V.str j)=(i == j):=by
 rw [Bool.eq_iff_iff]
 simp
theorem QW {i j:Array UInt8}:decide (V.byt i=V.byt j)=(i.toList == j.toList):=by
 rw [Bool.eq_iff_iff]
 cases i
 cases j
 simp
section
variable {X:Cx} {a b c:Expr} {ta tb tc:TE} {pos:Pos}
theorem Bv {pins:List (Addr × Obj)} {σ:St} {H:Hp} {s:Shared} {Q:VK} {k k':Bool} (I:Inv X pins σ H s) (q:Q (.bl k) H) (e:k=k'):EP X pins σ Q (.bool k') s:=by
 subst e
 exact ⟨.bl k,H,I,rfl,q⟩
theorem DG:G3 X (compareOp .Eq) l_:=by
 intro pins s σ H x y v u Q I rx ry h
 obtain ⟨hs,q⟩:=h
 cases x with
 | non =>
  cases rx
  cases y with
  | non=>cases ry; exact PySem.EqNone.eq_none_none (Bv I q (by simp))
  | bl j=>cases ry; exact PySem.EqNone.eq_none_bool (Bv I q (by simp))
  | int j=>obtain ⟨t',rfl⟩:=ry; exact PySem.EqNone.eq_none_int (Bv I q (by simp))
  | str j=>obtain ⟨t',rfl⟩:=ry; exact PySem.EqNone.eq_none_str (Bv I q (by simp))
  | _=>exact absurd (show false=true from hs) Bool.false_ne_true
 | bl i =>
  cases rx
  cases y with
  | non=>cases ry; exact PySem.EqNone.eq_bool_none (Bv I q (by simp))
  | bl j=>cases ry; exact eq_bool (Bv I q Ti)
  | str j=>obtain ⟨t',rfl⟩:=ry; exact PySem.EqMixed.eq_bool_str (Bv I q (by simp))
  | _=>exact absurd (show false=true from hs) Bool.false_ne_true
 | int i =>
  obtain ⟨t,rfl⟩:=rx
  cases y with
  | non=>cases ry; exact PySem.EqNone.eq_int_none (Bv I q (by simp))
  | int j=>obtain ⟨t',rfl⟩:=ry; exact eq_int (Bv I q Pr)
  | str j=>obtain ⟨t',rfl⟩:=ry; exact PySem.EqMixed.eq_int_str (Bv I q (by simp))
  | _=>exact absurd (show false=true from hs) Bool.false_ne_true
 | str i =>
  obtain ⟨t,rfl⟩:=rx
  cases y with
  | non=>cases ry; exact PySem.EqNone.eq_str_none (Bv I q (by simp))
  | bl j=>cases ry; exact PySem.EqMixed.eq_str_bool (Bv I q (by simp))
  | int j=>obtain ⟨t',rfl⟩:=ry; exact PySem.EqMixed.eq_str_int (Bv I q (by simp))
  | str j=>obtain ⟨t',rfl⟩:=ry; exact eq_str (Bv I q Hi)
  | _=>exact absurd (show false=true from hs) Bool.false_ne_true
 | byt i =>
  obtain ⟨t,rfl⟩:=rx
  cases y with
  | byt j=>obtain ⟨t',rfl⟩:=ry; exact PySem.W.eq_bytes (Bv I q QW)
  | _=>exact absurd (show false=true from hs) Bool.false_ne_true
 | _=>cases y <;> exact absurd (show false=true from hs) Bool.false_ne_true
theorem Ey:G3 X (compareOp .NotEq) mF:=by
 intro pins s σ H x y v u Q I rx ry h
 obtain ⟨hs,q⟩:=h
 cases x with
 | non =>
  cases rx
  cases y with
  | non=>cases ry; exact PySem.EqNone.ne_none_none (Bv I q (by simp))
  | bl j=>cases ry; exact PySem.EqNone.ne_none_bool (Bv I q (by simp))
  | int j=>obtain ⟨t',rfl⟩:=ry; exact PySem.EqNone.ne_none_int (Bv I q (by simp))
  | str j=>obtain ⟨t',rfl⟩:=ry; exact PySem.EqNone.ne_none_str (Bv I q (by simp))
  | _=>exact absurd (show false=true from hs) Bool.false_ne_true
 | bl i =>
  cases rx
  cases y with
  | non=>cases ry; exact PySem.EqNone.ne_bool_none (Bv I q (by simp))
  | bl j=>cases ry; exact ne_bool (Bv I q (congrArg not Ti))
  | str j=>obtain ⟨t',rfl⟩:=ry; exact PySem.EqMixed.ne_bool_str (Bv I q (by simp))
  | _=>exact absurd (show false=true from hs) Bool.false_ne_true
 | int i =>
  obtain ⟨t,rfl⟩:=rx
  cases y with
  | non=>cases ry; exact PySem.EqNone.ne_int_none (Bv I q (by simp))
  | int j=>obtain ⟨t',rfl⟩:=ry; exact ne_int (Bv I q (congrArg not Pr))
  | str j=>obtain ⟨t',rfl⟩:=ry; exact PySem.EqMixed.ne_int_str (Bv I q (by simp))
  | _=>exact absurd (show false=true from hs) Bool.false_ne_true
 | str i =>
  obtain ⟨t,rfl⟩:=rx
  cases y with
  | non=>cases ry; exact PySem.EqNone.ne_str_none (Bv I q (by simp))
  | bl j=>cases ry; exact PySem.EqMixed.ne_str_bool (Bv I q (by simp))
  | int j=>obtain ⟨t',rfl⟩:=ry; exact PySem.EqMixed.ne_str_int (Bv I q (by simp))
  | str j=>obtain ⟨t',rfl⟩:=ry; exact ne_str (Bv I q (congrArg not Hi))
  | _=>exact absurd (show false=true from hs) Bool.false_ne_true
 | byt i =>
  obtain ⟨t,rfl⟩:=rx
  cases y with
  | byt j=>obtain ⟨t',rfl⟩:=ry; exact PySem.W.ne_bytes (Bv I q (congrArg not QW))
  | _=>exact absurd (show false=true from hs) Bool.false_ne_true
 | _=>cases y <;> exact absurd (show false=true from hs) Bool.false_ne_true
theorem Gz:G3 X (compareOp .Lt) (Qu fun i j=>.bl (decide (i<j))):=Vg fun _ _ _ _ _ _ _ q=>lt_int q
theorem Ew:G3 X (compareOp .LtE) (Qu fun i j=>.bl (decide (i<=j))):=Vg fun _ _ _ _ _ _ _ q=>le_int q
theorem Wr:G3 X (compareOp .Gt) (Qu fun i j=>.bl (decide (j<i))):=Vg fun _ _ _ _ _ _ _ q=>gt_int q
theorem Rz:G3 X (compareOp .GtE) (Qu fun i j=>.bl (decide (j<=i))):=Vg fun _ _ _ _ _ _ _ q=>ge_int q
theorem RX:G3 X (compareOp .In) (fun x y H Q=>∃ i j,x=.str i/\y=.str j/\Q (.bl (!(Builtin.Str.occurrences j i 0 j.length 1).isEmpty)) H):=by
 intro pins s σ H x y v u Q I rx ry h
 obtain ⟨i,j,rfl,rfl,q⟩:=h
 obtain ⟨t,rfl⟩:=rx
 obtain ⟨t',rfl⟩:=ry
 exact in_str (Bv I q rfl)
theorem Lj:G3 X (compareOp .IsNot) (fun x y H Q=>y=.non/\Q (.bl (!decide (x=.non))) H):=by
 intro pins s σ H x y v u Q I rx ry h
 obtain ⟨rfl,q⟩:=h
 cases ry
 refine isnot_none_gen (Bv I q ?_)
 cases x <;> first
  | (cases rx; rfl)
  | (obtain ⟨t,rfl⟩:=rx; rfl)
theorem BZ (b:Expr) {op:CmpOp} (h:op ≠ .In:=by decide) (h2:op ≠ .NotIn:=by decide):behindInMarks op b=false:=by
 have e1:(op == CmpOp.In)=false:=by cases op <;> first | rfl | exact absurd rfl h
 have e2:(op == CmpOp.NotIn)=false:=by cases op <;> first | rfl | exact absurd rfl h2
 cases b <;> simp [behindInMarks,e1,e2]
theorem EY {op:CmpOp} {r:R2} (ho:G3 X (compareOp op) r) (ha:PE X a ta) (hb:PE X b tb) (hm:behindInMarks op b=false):PE X (.Compare a [op] [b] pos) (Nu r ta tb):=by
 intro pins s σ H Q I h
 exact wpAny_Compare1 (Yh ha hb I h fun v u s2 x y H2 I2 rx ry q=>ho pins s2 σ H2 x y v u Q I2 rx ry q) hm
noncomputable def WT (t:TE):TT:=fun σ H Q=>t σ H fun x H'=>∃ k,x=.bl k/\Q k H'
theorem BR {op:CmpOp} {r:R2} (ho:G3 X (compareOp op) r) (ha:PE X a ta) (hb:PE X b tb) (hm:behindInMarks op b=false):PT X (.Compare a [op] [b] pos) (WT (Nu r ta tb)):=by
 intro pins s σ H Q I h
 refine wpAny_isTrue_Compare1 (CJ (ha pins s σ H _ I h) fun v s1 ⟨x,H1,I1,r1,q1⟩=>CJ (hb pins s1 σ H1 _ I1 q1) fun u s2 ⟨y,H2,I2,r2,q2⟩ =>
  CJ (ho pins s2 σ H2 x y v u _ I2 r1 r2 q2) fun c s3 ⟨z,H3,I3,r3,k,e,q3⟩=>?_) hm
 subst e
 cases r3
 exact wpAny_truthy_bool ⟨H3,I3,q3⟩
noncomputable def Ro (r r':R2) (ta tb tc:TE):TE:=fun σ H Q=>ta σ H fun x H1=>tb σ H1 fun y H2=>r x y H2 fun z H3=>∃ k,z=.bl k /\
 (if k=true then tc σ H3 fun w' H4=>r' y w' H4 Q else Q (.bl false) H3)
theorem Im {op op':CmpOp} {r r':R2} (ho:G3 X (compareOp op) r) (ho':G3 X (compareOp op') r') (ha:PE X a ta) (hb:PE X b tb) (hc:PE X c tc)
  (hm:lastMarks [op,op'] [b,c]=false:=by with_unfolding_all rfl):PE X (.Compare a [op,op'] [b,c] pos) (Ro r r' ta tb tc):=by
 intro pins s σ H Q I h
 refine Compare_chain (CJ (ha pins s σ H _ I h) fun v s1 ⟨x,H1,I1,r1,q1⟩=>chain_link (CJ (hb pins s1 σ H1 _ I1 q1) fun u s2 ⟨y,H2,I2,r2,q2⟩ =>
  CJ (ho pins s2 σ H2 x y v u _ I2 r1 r2 q2) fun d s3 ⟨z,H3,I3,r3,k,e,q3⟩=>?_)) hm
 subst e
 cases r3
 refine wpAny_truthy_bool ?_
 cases k with
 | false=>exact ite_ff ⟨.bl false,H3,I3,rfl,q3⟩
 | true=>exact ite_tt (chain_last (CJ (hc pins s3 σ H3 _ I3 q3) fun w' s4 ⟨z',H4,I4,r4,q4⟩=>ho' pins s4 σ H4 y z' u w' Q I4 r2 r4 q4))
theorem Ga {op op':CmpOp} {r r':R2} (ho:G3 X (compareOp op) r) (ho':G3 X (compareOp op') r') (ha:PE X a ta) (hb:PE X b tb) (hc:PE X c tc)
  (hm:lastMarks [op,op'] [b,c]=false:=by with_unfolding_all rfl):PT X (.Compare a [op,op'] [b,c] pos) (WT (Ro r r' ta tb tc)):=by
 intro pins s σ H Q I h
 refine isTrue_chain (CJ (ha pins s σ H _ I h) fun v s1 ⟨x,H1,I1,r1,q1⟩=>test_link (CJ (hb pins s1 σ H1 _ I1 q1) fun u s2 ⟨y,H2,I2,r2,q2⟩ =>
  CJ (ho pins s2 σ H2 x y v u _ I2 r1 r2 q2) fun d s3 ⟨z,H3,I3,r3,k,e,q3⟩=>?_)) hm
 subst e
 cases r3
 refine wpAny_truthy_bool ?_
 cases k with
 | false =>
  obtain ⟨k',e',q'⟩:=q3
  cases e'
  exact ite_ff ⟨H3,I3,q'⟩
 | true =>
  refine ite_tt (test_last (CJ (hc pins s3 σ H3 _ I3 q3) fun w' s4 ⟨z',H4,I4,r4,q4⟩=>CJ (ho' pins s4 σ H4 y z' u w' _ I4 r2 r4 q4) fun d' s5 hq0=>?_))
  obtain ⟨z2,H5,I5,r5,k2,e2,q5⟩:=hq0
  subst e2
  cases r5
  exact wpAny_truthy_bool ⟨H5,I5,q5⟩
noncomputable def di (K:PySem.W.Frag) (x:V) (H:Hp) (k:Bool):Prop :=
 match x with
 | .non=>k=false
 | .bl b=>k=b
 | .int i=>k=(i != 0)
 | .str y=>y.length<=sizeLine/\k=((y.length:Int) != 0)
 | .byt y=>y.size<=sizeLine/\k=((y.size:Int) != 0)
 | .ref p=>(∃ xs,CK K H p xs/\k = !xs.isEmpty) \/ (∃ xs,IV K H p xs/\k = !xs.isEmpty) \/ ∃ kvs,H p=some (.dK kvs)/\k = !kvs.isEmpty
 | _=>False
theorem PB {κ:Type} {kvs:List (κ × V)} {vs:List (κ × Value)} (r:KV kvs vs):(!vs.isEmpty) = !kvs.isEmpty:=by
 cases r <;> rfl
theorem J2 {xs:List V} {its:List Value} (r:Vals xs its):(!its.toArray.isEmpty) = !xs.isEmpty:=by
 cases r <;> simp
theorem JD:(sizeLine:Nat)<2 ^ 63:=by rw [sizeLine_eq]; decide
theorem Xj:iy X (fun x H Q=>∃ k,di X.K x H k/\Q k H):=by
 intro pins s σ H x v Q I rx h
 obtain ⟨k,e,q⟩:=h
 have hl:=JD
 have hs:sizeLine=16777216:=sizeLine_eq
 cases x with
 | non =>
  cases rx
  have e':k=false:=e
  subst e'
  exact truthy_none ⟨H,I,q⟩
 | bl b =>
  cases rx
  have e':k=b:=e
  subst e'
  exact wpAny_truthy_bool ⟨H,I,q⟩
 | int i =>
  obtain ⟨t,rfl⟩:=rx
  have e':k=(i != 0):=e
  subst e'
  exact PySem.P.truthy_int ⟨H,I,q⟩
 | str y =>
  obtain ⟨t,rfl⟩:=rx
  obtain ⟨hy,e'⟩:y.length<=sizeLine/\k=((y.length:Int) != 0):=e
  subst e'
  exact PySem.P.truthy_str (by omega) ⟨H,I.tok _,q⟩
 | byt y =>
  obtain ⟨t,rfl⟩:=rx
  obtain ⟨hy,e'⟩:y.size<=sizeLine/\k=((y.size:Int) != 0):=e
  subst e'
  exact PySem.W.truthy_bytes (by omega) ⟨H,I.tok _,q⟩
 | ref p =>
  cases rx
  have e':(∃ xs,CK X.K H p xs/\k = !xs.isEmpty) \/ (∃ xs,IV X.K H p xs/\k = !xs.isEmpty) \/ ∃ kvs,H p=some (.dK kvs)/\k = !kvs.isEmpty:=e
  rcases e' with ⟨xs,hx,e'⟩ | ⟨xs,hx,e'⟩ | ⟨kvs,hx,e'⟩
  ·subst e'
   obtain ⟨its,r,pl,hz⟩:=I.list hx
   have hlen:=r.length
   exact wpAny_truthy_list pl.isList (by simp only [List.size_toArray]; omega) ⟨H,I.tok _,by rw [J2 r]; exact q⟩
  ·subst e'
   obtain ⟨its,r,pl,hz⟩:=I.tuple hx
   have hlen:=r.length
   exact truthy_tuple pl (by simp only [List.size_toArray]; omega) ⟨H,I.tok _,by rw [J2 r]; exact q⟩
  ·subst e'
   obtain ⟨hz,hS,vs,r,m⟩:kvs.length<=sizeLine/\(p == sysModules)=false/\∃ vs,KV kvs vs/\s.heap.DictOf (Ck X.prog X.w) p vs:=I.hok p _ hx
   have hlen:kvs.length=vs.length:=Paired.length r
   exact wpAny_truthy_dict hS m (by omega) ⟨H,I.tok _,by rw [PB r]; exact q⟩
 | _=>exact (show False from e).elim
theorem Jv (ha:PE X a ta) (he:∀ whole,isTrue a X.env whole=(do let v ← whole; standAt a.pos; holding [v] (truthy v))) :
  PT X a (fun σ H Q=>ta σ H fun x H'=>∃ k,di X.K x H' k/\Q k H'):=by
 intro pins s σ H Q I h
 exact isTrue_plain (CJ (ha pins s σ H _ I h) fun v s1 ⟨x,H1,I1,r1,q1⟩=>Xj pins s1 σ H1 x v Q I1 r1 q1) (he _)
theorem Ht:G3 X (binaryOp .Add) (fun x y H Q=>∃ i j,x=.str i/\y=.str j/\i.length+j.length<=sizeLine/\Q (.str (i++j)) H):=by
 intro pins s σ H x y v u Q I rx ry h
 obtain ⟨i,j,rfl,rfl,hz,q⟩:=h
 obtain ⟨t,rfl⟩:=rx
 obtain ⟨t',rfl⟩:=ry
 exact add_str (fun t' tk=>⟨.str (i++j),H,I.tok _,⟨_,rfl⟩,q⟩) hz
theorem vals1 {x:V} {us:List Value} (r:Vals [x] us):∃ u,us=[u]/\RelV x u:=by
 cases r with
 | cons r1 r2=>cases r2; exact ⟨_,rfl,r1⟩
theorem vals2 {x y:V} {us:List Value} (r:Vals [x,y] us):∃ u w',us=[u,w']/\RelV x u/\RelV y w':=by
 cases r with
 | cons r1 r2 =>
  cases r2 with
  | cons r3 r4=>cases r4; exact ⟨_,_,rfl,r1,r3⟩
theorem RV (hc:X.calm=true):Fo X (.builtin "max") (fun xs H Q=>∃ i j,xs=[.int i,.int j]/\Q (.int (if j > i then j else i)) H):=by
 intro pins s σ H xs us Q I r h
 obtain ⟨i,j,rfl,q⟩:=h
 obtain ⟨u,w',rfl,⟨t,rfl⟩,⟨t',rfl⟩⟩:=vals2 r
 refine max_two_ints (I.ok.hd hc) fun h' tk k=>⟨_,H,I.kept k,?_,q⟩
 by_cases hj:j > i
 ·rw [if_pos hj,if_pos hj]; exact ⟨_,rfl⟩
 ·rw [if_neg hj,if_neg hj]; exact ⟨_,rfl⟩
theorem RZ (hc:X.calm=true):Fo X (.builtin "min") (fun xs H Q=>∃ i j,xs=[.int i,.int j]/\Q (.int (if j<i then j else i)) H):=by
 intro pins s σ H xs us Q I r h
 obtain ⟨i,j,rfl,q⟩:=h
 obtain ⟨u,w',rfl,⟨t,rfl⟩,⟨t',rfl⟩⟩:=vals2 r
 refine min_two_ints (I.ok.hd hc) fun h' tk k=>⟨_,H,I.kept k,?_,q⟩
 by_cases hj:j<i
 ·rw [if_pos hj,if_pos hj]; exact ⟨_,rfl⟩
 ·rw [if_neg hj,if_neg hj]; exact ⟨_,rfl⟩
theorem Kw:Fo X (.type "int") (fun xs H Q=>(∃ i,xs=[.int i]/\Q (.int i) H) \/ ∃ k,xs=[.bl k]/\Q (.int (if k then 1 else 0)) H):=by
 intro pins s σ H xs us Q I r h
 rcases h with ⟨i,rfl,q⟩ | ⟨k,rfl,q⟩
 ·obtain ⟨u,rfl,t,rfl⟩:=vals1 r
  exact call_int_int ⟨.int i,H,I,⟨_,rfl⟩,q⟩
 ·obtain ⟨u,rfl,r1⟩:=vals1 r
  cases r1
  exact call_int_bool ⟨.int (if k then 1 else 0),H,I.tok _,⟨_,rfl⟩,q⟩
end
end L2
namespace L2
open PySem PySem.Spec PyProof.Rows
structure PK (h:Heap) (x dx C:Addr) (mA:Str->Option Value):Prop where
 obj:h.get? x=some (PySem.W.instObj C dx)
 ns:h.Ns1 dx mA
 ne:dx ≠ x
theorem Rc {h:Heap} {dx:Addr} {mA:Str->Option Value} (n:h.Ns1 dx mA):∃ od,h.get? dx=some od/\∀ name,PySem.W.lookIn name od=some (mA name):=by
 obtain ⟨o,es,ep,ho,hd,hk,_,hm⟩:=n
 refine ⟨o,ho,fun name=>?_⟩
 have e:=hm name
 unfold nsFind findBy at e
 rw [← Array.find?_toList] at e
 unfold PySem.W.lookIn
 rw [hd]
 dsimp only
 split
 ·rename_i y q
  rw [q] at e
  exact congrArg some e
 ·rename_i q
  rw [q] at e
  have a:es.toList.any (·.refKey)=false:=by
   rw [List.any_eq_false]
   intro y hy
   obtain ⟨z,t,hkey⟩:=hk y (Array.mem_toList_iff.mp hy)
   simp [DictEntry.refKey,hkey]
  have a':¬ es.toList.any (·.refKey)=true:=by rw [a]; exact Bool.false_ne_true
  rw [if_neg a']
  exact congrArg some e
theorem PK.look {h:Heap} {x dx C:Addr} {mA:Str->Option Value} (I:PK h x dx C mA):∃ od,PySem.W.InstAt h x (PySem.W.instObj C dx) C (some od)/\∀ name,PySem.W.lookIn name od=some (mA name) :=
 let ⟨od,ho,hl⟩:=Rc I.ns
 ⟨od,⟨I.obj,rfl,rfl,ho⟩,hl⟩
section
variable {prog:Program} {w:World} {A:Around} {E:Value->Shared->Prop} {s:Shared} {K:PySem.W.Frag} {x dx C f:Addr} {mA:Str->Option Value} {name:Str} {v:Value}
theorem Vk {expr:Bool} {Q:Value->Shared->Prop} (X:K.In s.heap) (I:PK s.heap x dx C mA) (hg:PySem.W.plainGet K C name=true) (hh:PySem.W.hasDictIn K C=true)
  (ha:PySem.W.findIn K (.ref C) name=some none) (hv:mA name=some v) (hv':PySem.W.handedIn v=true) (h:Q v { s with toks:=s.toks+1 }) :
  wpAny (model prog w) A (getAttr (.ref x) name expr) Q E s:=by
 obtain ⟨od,J,hl⟩:=I.look
 exact PySem.W.get_value X J (PySem.W.plainGet_of hg).1 (PySem.W.findObj_own hh ha rfl (by rw [hl,hv])) hv' h
theorem Tz {pl:Sem Bool} {Q:Value × List Value->Shared->Prop} (X:K.In s.heap) (I:PK s.heap x dx C mA) (hg:PySem.W.plainGet K C name=true)
  (hf:PySem.W.findIn K (.ref C) name=some (some (.ref f))) (ht:PySem.W.isFn K (.ref f)=true) (hv:mA name=none) (h:Q (.ref f,[.ref x]) s) :
  wpAny (model prog w) A (getMethod (.ref x) name pl) Q E s:=by
 obtain ⟨od,J,hl⟩:=I.look
 exact PySem.W.method_fn X J (PySem.W.plainGet_of hg).1 (PySem.W.plainGet_of hg).2 hf (beq_iff_eq.mp ht) (by show (PySem.W.lookIn name od).map (·.isSome)=some false; rw [hl,hv]; rfl) h
theorem U4 {ns:List Str} {Q:Unit->Shared->Prop} (X:K.In s.heap) (I:PK s.heap x dx C mA)
  (hs:PySem.W.findIn K (.ref C) "__setattr__" = some (some (.builtin "object.__setattr__"))) (hp:PySem.W.plainOver K C=true) (ht:PySem.W.takerIn K C name=some none) (hh:PySem.W.hasDictIn K C=true)
  (hw:PySem.Within mA ns) (hsz:ns.length<=sizeLine)
  (h:∀ h',PK h' x dx C (fun y=>if y=name then some v else mA y)->Heap.SameBut dx s.heap h'->Q () { s with heap:=h',toks:=s.toks+2 }) :
  wpAny (model prog w) A (setAttr (.ref x) name v) Q E s:=by
 obtain ⟨od,J,hl⟩:=I.look
 refine PySem.W.set_plain X J hs (PySem.W.osa_open (s:={ s with toks:=s.toks+1 }) (r:=none) X J hp ht fun b=>?_)
 obtain ⟨cd,hc,hd'⟩:=PySem.W.any_some hh
 have hx:s.heap.get? x=some ⟨.ref C,some dx,.plain,#[]⟩:=I.obj
 refine wpAny_bind (wpAny_pure (wpAny_bind (wpAny_bind (wpAny_loadPart hx (wpAny_bind (PySem.W.Looks.here (s:={ s with toks:=s.toks+1 }) (PySem.W.looks_clsIn X hc) ?_))))))
 rw [hd']
 refine wpAny_pure (a:=some dx) (wpAny_bind (wpAny_pure (wpAny_bind ?_)))
 refine wpAny_nsSet1 (s:={ s with toks:=s.toks+1 }) I.ns fun h' hn2 hs2=>?_
 obtain ⟨oD,esD,epD,hoD,hdD,hcD⟩:=hn2.count (PySem.Within.cons name v hw)
 refine wpAny_bind (wpAny_lookBehind hoD (by rw [hdD]; exact pastItsLine_dict (Nat.le_trans hcD (by rw [List.length_cons]; omega))) ?_)
 exact wpAny_pure (h _ ⟨(hs2.2 _ (Ne.symm I.ne)).trans I.obj,hn2,I.ne⟩ hs2)
theorem TQ {R:Result->Shared->Prop} {vs:List Value} {kw:List (Str × Value)} (X:K.In s.heap) (hm:PySem.W.makesIn K C=true)
  (hi:PySem.W.findIn K (.ref C) "__init__" = some (some (.ref f))) (hf:PySem.W.typeIn K (.ref f)=some (.type "function"))
  (h:codeAny (model prog w) (A.under (.builtin "type.__call__" ⟨.ref C::vs,kw⟩)) (.call (.ref f) ⟨.ref (s.heap.objs.size+1)::vs,kw⟩) (PySem.W.InitBack (s.heap.objs.size+1) R)
   { s with heap:=(s.heap.push PySem.W.emptyDict).push (PySem.W.instObj C s.heap.objs.size) }) :
  codeAny (model prog w) A (.call (.ref C) ⟨vs,kw⟩) R s:=by
 obtain ⟨hh,g,d,t,os⟩:=s
 exact PySem.W.make_core (PySem.W.makes_of X hm) (PySem.W.looks_findIn X hi) (fun self=>PySem.W.bind_fn X self hf) (.inl rfl) h
end
noncomputable def Bm (f:Str) (v:V):List (Str × V)->List (Str × V)
 | []=>[(f,v)]
 | (g,x)::r=>if g=f then (g,v)::r else (g,x)::Bm f v r
theorem Ay (f g:Str) (v:V):∀ fs:List (Str × V),(Bm f v fs).lookup g=if g=f then some v else fs.lookup g
 | []=>by
  show List.lookup g [(f,v)]=_
  by_cases h:g=f
  ·have hb:(g == f)=true:=beq_iff_eq.mpr h
   simp only [List.lookup,hb,if_pos h]
  ·have hb:(g == f)=false:=beq_eq_false_iff_ne.mpr h
   simp only [List.lookup,hb,if_neg h]
 | (k,x)::r=>by
  have ih:=Ay f g v r
  rw [show Bm f v ((k,x)::r)=(if k=f then (k,v)::r else (k,x)::Bm f v r) from rfl]
  by_cases hk:k=f
  ·rw [if_pos hk]
   by_cases h:g=k
   ·have hb:(g == k)=true:=beq_iff_eq.mpr h
    simp only [List.lookup,hb,if_pos (h.trans hk)]
   ·have hb:(g == k)=false:=beq_eq_false_iff_ne.mpr h
    simp only [List.lookup,hb,if_neg (fun e:g=f=>h (e.trans hk.symm))]
  ·rw [if_neg hk]
   by_cases h:g=k
   ·have hb:(g == k)=true:=beq_iff_eq.mpr h
    simp only [List.lookup,hb,if_neg (fun e:g=f=>hk (h.symm.trans e))]
   ·have hb:(g == k)=false:=beq_eq_false_iff_ne.mpr h
    simp only [List.lookup,hb]
    exact ih
theorem JK (f:Str) (v:V):∀ fs:List (Str × V),f∈(Bm f v fs).map (·.1)/\∀ g,g∈fs.map (·.1)->g∈(Bm f v fs).map (·.1)
 | []=>⟨by simp [Bm],fun g h=>by simp at h⟩
 | (k,x)::r=>by
  obtain ⟨i1,i2⟩:=JK f v r
  rw [show Bm f v ((k,x)::r)=(if k=f then (k,v)::r else (k,x)::Bm f v r) from rfl]
  by_cases hk:k=f
  ·rw [if_pos hk]
   subst hk
   exact ⟨by simp,fun g h=>by simpa using h⟩
  ·rw [if_neg hk]
   refine ⟨?_,fun g h=>?_⟩
   ·rw [List.map_cons]
    exact List.mem_cons_of_mem _ i1
   ·rw [List.map_cons] at h ⊢
    rcases List.mem_cons.mp h with e | e
    ·exact List.mem_cons.mpr (.inl e)
    ·exact List.mem_cons_of_mem _ (i2 g e)
theorem JX (f:Str) (v:V):∀ fs:List (Str × V),(Bm f v fs).length<=fs.length+1
 | []=>by simp [Bm]
 | (k,x)::r=>by
  have ih:=JX f v r
  rw [show Bm f v ((k,x)::r)=(if k=f then (k,v)::r else (k,x)::Bm f v r) from rfl]
  by_cases hk:k=f
  ·rw [if_pos hk,List.length_cons,List.length_cons]; omega
  ·rw [if_neg hk,List.length_cons,List.length_cons]; omega
theorem Hc.some_of {v:V} {o:Option Value} (r:Hc (some v) o):∃ u,o=some u/\RelV v u:=by
 cases o with
 | none=>exact (show False from r).elim
 | some u=>exact ⟨u,rfl,r⟩
theorem Hc.none_of {o:Option Value} (r:Hc none o):o=none:=by
 cases o with
 | none=>rfl
 | some u=>exact (show False from r).elim
theorem RN {v:V} {u:Value} (r:RelV v u):PySem.W.handedIn u=true:=by
 cases v with
 | non=>cases (show u=Value.none from r); rfl
 | bl b=>cases (show u=Value.bool b from r); rfl
 | int i=>obtain ⟨t,e⟩:=(show ∃ t,u=Value.int i t from r); cases e; rfl
 | str x=>obtain ⟨t,e⟩:=(show ∃ t,u=Value.str x t from r); cases e; rfl
 | byt b=>obtain ⟨t,e⟩:=(show ∃ t,u=Value.bytes b t from r); cases e; rfl
 | flt b=>obtain ⟨t,e⟩:=(show ∃ t,u=Value.float b t from r); cases e; rfl
 | ref a=>cases (show u=Value.ref a from r); rfl
 | ty n=>cases (show u=Value.type n from r); rfl
section
variable {P:Program} {w:World} {H H':Hp} {h h':Heap} {a C dx:Addr} {fs fs':List (Str × V)}
theorem Ji (hok:Ia P w H h) (e:H a=some (.ins C dx fs)):∃ mA,PK h a dx C mA/\(∀ f,Hc (fs.lookup f) (mA f))/\PySem.Within mA (fs.map (·.1))/\fs.length<=1000/\H dx=some (.own a):=by
 obtain ⟨d,z,ne,ob,mA,n,r,q⟩:=(show Ce P w H h a (.ins C dx fs) from hok a _ e)
 exact ⟨mA,⟨ob,n,ne⟩,r,q,z,d⟩
end
structure Su (K:PySem.W.Frag) (C:Addr):Prop where
 pg:PySem.W.plainGet K C Str.empty=true
 hd:PySem.W.hasDictIn K C=true
 po:PySem.W.plainOver K C=true
 sa:PySem.W.findIn K (.ref C) "__setattr__" = some (some (.builtin "object.__setattr__"))
theorem Su.get {K:PySem.W.Frag} {C:Addr} (c:Su K C) (f:Str):PySem.W.plainGet K C f=true:=c.pg
noncomputable def Dj (K:PySem.W.Frag) (C:Addr) (f:Str):Prop:=PySem.W.findIn K (.ref C) f=some none
theorem Dj.taker {K:PySem.W.Frag} {C:Addr} {f:Str} (n:Dj K C f):PySem.W.takerIn K C f=some none:=by
 unfold PySem.W.takerIn
 rw [show PySem.W.findIn K (.ref C) f=some none from n]
 rfl
structure Meth (K:PySem.W.Frag) (C:Addr) (m:Str) (f:Addr):Prop where
 at_:PySem.W.findIn K (.ref C) m=some (some (.ref f))
 fn:PySem.W.isFn K (.ref f)=true
 kp:PySem.W.keepIn K (.ref f)=true
section
variable {X:Cx} {pins:List (Addr × Obj)} {σ:St} {H:Hp} {s:Shared} {a C dx:Addr} {fs:List (Str × V)} {f:Str} {v:V} {A:Around} {E:Value->Shared->Prop}
theorem N8 {b:Bool} {Q:Value->Shared->Prop} (I:Inv X pins σ H s) (e:H a=some (.ins C dx fs)) (c:Su X.K C) (n:Dj X.K C f) (l:fs.lookup f=some v)
  (h:∀ u s',Inv X pins σ H s'->RelV v u->Q u s'):wpAny (model X.prog X.w) A (getAttr (.ref a) f b) Q E s:=by
 obtain ⟨mA,O,r,_,_,_⟩:=Ji I.hok e
 obtain ⟨u,hu,ru⟩:=Hc.some_of (v:=v) (o:=mA f) (by rw [← l]; exact r f)
 exact Vk I.JC O (c.get f) c.hd n hu (RN ru) (h u _ (I.tok _) ru)
theorem Jm {m:Str} {g:Addr} {pl:Sem Bool} {Q:Value × List Value->Shared->Prop} (I:Inv X pins σ H s) (e:H a=some (.ins C dx fs)) (c:Su X.K C) (k:Meth X.K C m g) (l:fs.lookup m=none)
  (h:Q (.ref g,[.ref a]) s):wpAny (model X.prog X.w) A (getMethod (.ref a) m pl) Q E s:=by
 obtain ⟨mA,O,r,_,_,_⟩:=Ji I.hok e
 have hn:mA m=none:=Hc.none_of (by rw [← l]; exact r m)
 exact Tz I.JC O (c.get m) k.at_ k.fn hn h
theorem Oo {y:V} {u:Value} {Q:Unit->Shared->Prop} (I:Inv X pins σ H s) (e:H a=some (.ins C dx fs)) (c:Su X.K C) (n:Dj X.K C f) (hl:fs.length<1000) (ry:RelV y u)
  (h:∀ s',Inv X pins σ (upd H a (.ins C dx (Bm f y fs))) s'->Q () s'):wpAny (model X.prog X.w) A (setAttr (.ref a) f u) Q E s:=by
 obtain ⟨mA,O,r,wi,_,ho⟩:=Ji I.hok e
 have hz:(fs.map (·.1)).length<=sizeLine:=by rw [List.length_map,sizeLine_eq]; omega
 refine U4 I.JC O c.sa c.po n.taker c.hd wi hz fun h' O' sb=>h _ ?_
 have hd:∃ o,h'.get? dx=some o:=let ⟨o,_,_,e',_⟩:=O'.ns; ⟨o,e'⟩
 refine I.write (x:=a) (e:=dx) (by rw [e]; exact True.intro) (.inr ho) (fun b q hb z=>(sb.2 b hb).trans z) hd ?_
 refine ⟨by rw [BW O.ne]; exact ho,?_,O.ne,O'.obj,_,O'.ns,fun g=>?_,fun g hg=>?_⟩
 ·have:=JX f y fs; omega
 ·show Hc ((Bm f y fs).lookup g) (if g=f then some u else mA g)
  rw [Ay]
  by_cases q:g=f
  ·rw [if_pos q,if_pos q]; exact ry
  ·rw [if_neg q,if_neg q]; exact r g
 ·by_cases q:g=f
  ·rw [q]; exact (JK f y fs).1
  ·refine (JK f y fs).2 g (wi g fun z=>hg ?_)
   show (if g=f then some u else mA g)=none
   rw [if_neg q]; exact z
theorem Inv.made (I:Inv X pins σ H s):Inv X pins σ (upd (upd H s.heap.objs.size (.own (s.heap.objs.size+1))) (s.heap.objs.size+1) (.ins C s.heap.objs.size []))
  { s with heap:=(s.heap.push PySem.W.emptyDict).push (PySem.W.instObj C s.heap.objs.size) }:=by
 have e1:(s.heap.push PySem.W.emptyDict).get? s.heap.objs.size=some PySem.W.emptyDict:=Heap.get?_push_size s.heap rfl
 have e2:((s.heap.push PySem.W.emptyDict).push (PySem.W.instObj C s.heap.objs.size)).get? (s.heap.objs.size+1)=some (PySem.W.instObj C s.heap.objs.size):=by
  have:=Heap.get?_push_size (s.heap.push PySem.W.emptyDict) (o:=PySem.W.instObj C s.heap.objs.size) rfl
  rwa [Heap.size_push] at this
 have e3:(s.heap.push PySem.W.emptyDict).Ns s.heap.objs.size (fun _=>none):=⟨PySem.W.emptyDict,#[],_,e1,rfl,(fun e he=>absurd he (by simp)),fun _=>rfl⟩
 have I1:=I.laid (a:=s.heap.objs.size) (o:=.own (s.heap.objs.size+1)) (h':=s.heap.push PySem.W.emptyDict) (t':=s.toks) (fun b u q=>Heap.get?_push_of_some _ q) (Nat.le_refl _) ⟨_,e1⟩
 refine I1.laid (a:=s.heap.objs.size+1) (o:=.ins C s.heap.objs.size []) (t':=s.toks) (fun b u q=>Heap.get?_push_of_some _ q) (Nat.le_of_eq (Heap.size_push _ _)) ?_
 have ne:s.heap.objs.size ≠ s.heap.objs.size+1:=Nat.ne_of_lt (Nat.lt_succ_self _)
 refine ⟨by rw [BW ne,Ak],Nat.zero_le _,ne,e2,fun _=>none,(Heap.Ns1.of_empty e3).at fun o q=>Heap.get?_push_of_some _ q,fun _=>True.intro,fun y hy=>absurd rfl hy⟩
theorem VN {prog:Program} {w:World} {env:Env} {e:Expr} {f:Str} {pos:Pos} {s:Shared} {Q:Value->Shared->Prop} (hb:attributeBase e f env (eval e env)=eval e env)
  (h:wpAny (model prog w) A (eval e env) (fun o s₁=>wpAny (model prog w) A (getAttr o f true) Q E s₁) E s):wpAny (model prog w) A (eval (.Attribute e f pos) env) Q E s :=
 Attribute_any_ h (by rw [arm_eval_Attribute,hb])
end
noncomputable def iG (K:PySem.W.Frag) (ta:TE) (f:Str):TE:=fun σ H Q=>ta σ H fun x H1=>∃ a C dx fs v,x=.ref a/\H1 a=some (.ins C dx fs)/\Su K C/\Dj K C f/\fs.lookup f=some v/\Q v H1
noncomputable def lL (K:PySem.W.Frag) (ta tv:TE) (f:Str):TS:=fun D σ H=>tv σ H fun y H1=>ta σ H1 fun x H2=>∃ a C dx fs,x=.ref a/\H2 a=some (.ins C dx fs)/\Su K C/\Dj K C f/\fs.length<1000 /\
 D.nx σ (upd H2 a (.ins C dx (Bm f y fs)))
section
variable {X:Cx} {o e value:Expr} {f:Str} {pos pos' tpos:Pos} {ta tv:TE}
theorem Cr (he:PE X e ta) (hb:attributeBase e f X.env (eval e X.env)=eval e X.env):PE X (.Attribute e f pos) (iG X.K ta f):=by
 intro pins s σ H Q I h
 refine VN hb (CJ (he pins s σ H _ I h) fun u s1 hq0=>?_)
 obtain ⟨x,H1,I1,rx,a,C,dx,fs,v,ex,ea,c,n,l,q⟩:=hq0
 subst ex
 obtain rfl:u=Value.ref a:=rx
 exact N8 I1 ea c n l fun u' s2 I2 ru=>⟨v,H1,I2,ru,q⟩
theorem Fi (ha:PE X o ta) (hv:PE X value tv) (hs:swapsWith value (some (.Attribute o f pos')) pos.line X.env=pure false):PS X (.Assign [.Attribute o f pos'] value pos) (lL X.K ta tv f):=by
 intro pins s σ H D I h
 refine plainObj_wpAny_Assign_Attribute (CJ (hv pins s σ H _ I h) fun u s1 ⟨y,H1,I1,ry,q⟩=>CJ (ha pins s1 σ H1 _ I1 q) fun ov s2 ⟨x,H2,I2,rx,a,C,dx,fs,ex,ea,c,n,l,q2⟩=>?_) hs
 subst ex
 obtain rfl:ov=Value.ref a:=rx
 exact Oo I2 ea c n l ry fun s3 I3=>⟨σ,_,I3,q2⟩
end
section
variable {X:Cx} {pins:List (Addr × Obj)} {σ:St} {H:Hp} {s:Shared} {A:Around} {E:Value->Shared->Prop} {Q:Value->Shared->Prop} {c:Value} {b:Bool}
inductive JF (K:PySem.W.Frag) (H:Hp):V->Value->Prop where
 | non:JF K H .non (.type "NoneType")
 | bl (x:Bool):JF K H (.bl x) (.type "bool")
 | int (i:Int):JF K H (.int i) (.type "int")
 | str (x:Str):JF K H (.str x) (.type "str")
 | flt (x:UInt64):JF K H (.flt x) (.type "float")
 | lst {a:Addr} {xs:List V} (e:H a=some (.lst xs)):JF K H (.ref a) (.type "list")
 | frz {a:Addr} {o:Obj} {xs:List V} (e:H a=some (.frz o (.lst xs))):JF K H (.ref a) (.type "list")
 | tup {a:Addr} {xs:List V} (e:H a=some (.tup xs)):JF K H (.ref a) (.type "tuple")
 | dK {a:Addr} {kvs:List (Key × V)} (e:H a=some (.dK kvs)):JF K H (.ref a) (.type "dict")
 | dT {a:Addr} {kvs:List (List Key × V)} (e:H a=some (.dT kvs)):JF K H (.ref a) (.type "dict")
 | ins {a C dx:Addr} {fs:List (Str × V)} (e:H a=some (.ins C dx fs)) (cl:Su K C) (ha:PySem.W.findIn K (.ref C) "__class__" = some (some (.builtin "object.__class__")))
   (hn:PySem.W.specialIn K (.builtin "object.__class__") "__get__" = some (some (.builtin "getset_descriptor.__get__"))) (htk:PySem.W.takesIn K (.builtin "object.__class__")=some true)
   (hm:PySem.W.mroIn K C (.type "object")=some true):JF K H (.ref a) (.ref C)
theorem Q5 {x:V} {u t:Value} (I:Inv X pins σ H s) (rx:RelV x u) (ty:JF X.K H x t) (e:PySem.W.kitOne X.K t c=some b) (h:∀ tk,Q (.bool b) { s with toks:=tk }) :
  wpAny (model X.prog X.w) A (call (.builtin "isinstance") [u,c]) Q E s:=by
 cases ty with
 | non=>cases (show u=Value.none from rx); exact PySem.W.kia_one PySem.W.kitx_none I.JC True.intro e (fun z=>nomatch z) h
 | bl y=>cases (show u=Value.bool y from rx); exact PySem.W.kia_one PySem.W.kitx_bool I.JC True.intro e (fun z=>nomatch z) h
 | int i=>obtain ⟨t,q⟩:=(show ∃ t,u=Value.int i t from rx); cases q; exact PySem.W.kia_one PySem.W.kitx_int I.JC True.intro e (fun z=>nomatch z) h
 | str y=>obtain ⟨t,q⟩:=(show ∃ t,u=Value.str y t from rx); cases q; exact PySem.W.kia_one PySem.W.kitx_str I.JC True.intro e (fun z=>nomatch z) h
 | flt y=>obtain ⟨t,q⟩:=(show ∃ t,u=Value.float y t from rx); cases q; exact PySem.W.kia_one PySem.W.kitx_float I.JC True.intro e (fun z=>nomatch z) h
 | @lst a xs ea =>
  cases (show u=Value.ref a from rx)
  obtain ⟨_,_,n,_,h1⟩:=(show Ce X.prog X.w H s.heap a (.lst xs) from I.hok a _ ea)
  exact PySem.W.kia_one PySem.W.kitx_list I.JC ⟨_,h1,rfl⟩ e (fun z=>nomatch z) h
 | @frz a ob xs ea =>
  cases (show u=Value.ref a from rx)
  obtain ⟨_,_,_,n,_,h1⟩:=(show Ce X.prog X.w H s.heap a (.frz ob (.lst xs)) from I.hok a _ ea)
  exact PySem.W.kia_one PySem.W.kitx_list I.JC ⟨_,h1,rfl⟩ e (fun z=>nomatch z) h
 | @tup a xs ea =>
  cases (show u=Value.ref a from rx)
  obtain ⟨_,_,_,p⟩:=(show Ce X.prog X.w H s.heap a (.tup xs) from I.hok a _ ea)
  obtain ⟨o,h1,h2,_⟩:=p
  exact PySem.W.kia_one PySem.W.kitx_tuple I.JC ⟨o,h1,h2⟩ e (fun z=>nomatch z) h
 | @dK a kvs ea =>
  cases (show u=Value.ref a from rx)
  obtain ⟨_,_,vs,_,p⟩:=(show Ce X.prog X.w H s.heap a (.dK kvs) from I.hok a _ ea)
  obtain ⟨o,es,ep,h1,h2,_⟩:=p
  exact PySem.W.kia_one PySem.W.kitx_dict I.JC ⟨o,h1,h2.1⟩ e (fun z=>nomatch z) h
 | @dT a kvs ea =>
  cases (show u=Value.ref a from rx)
  obtain ⟨_,_,xs,_,o,es,ep,h1,h2,_⟩:=(show Ce X.prog X.w H s.heap a (.dT kvs) from I.hok a _ ea)
  exact PySem.W.kia_one PySem.W.kitx_dict I.JC ⟨o,h1,h2.1⟩ e (fun z=>nomatch z) h
 | @ins a C dx fs ea cl ha hn htk hm =>
  cases (show u=Value.ref a from rx)
  obtain ⟨mA,O,_⟩:=Ji I.hok ea
  obtain ⟨od,J,_⟩:=O.look
  exact PySem.W.kia_one (PySem.W.kitx_own (cl.get _) cl.hd ha hn htk hm) I.JC J e (fun z=>nomatch z) h
end
end L2
namespace L2
open PySem PySem.Spec PyProof.Rows
structure BV (k:Nat) (A:Around):Prop where
 hd:A.handled=none
 dp:A.depth+3 * k+5<recursionLimit
 un:A.units+16 * k+200<cLine
theorem BV.mono {j k:Nat} {A:Around} (r:BV k A) (h:j<=k):BV j A:=⟨r.hd,by have:=r.dp; omega,by have:=r.un; omega⟩
theorem BV.deeper {k:Nat} {A:Around} (r:BV (k+1) A) (env:Env):BV k (A.deeper env) :=
 ⟨r.hd,by have:=r.dp; show A.depth+1+3 * k+5<_; omega,by have:=r.un; show A.units+3+16 * k+200<_; omega⟩
theorem Ph {A:Around} {C:Addr} {us:List Value} {kw:List (Str × Value)}:(A.under (.builtin "type.__call__" ⟨.ref C::us,kw⟩)).depth=A.depth+1:=by
 first | rfl | simp [Around.under,Code.weight,Code.isCreation,Code.isGuard,Code.isCaller,Code.frames,Code.isFrame,guardIds]
theorem Oz {A:Around} {C:Addr} {us:List Value} {kw:List (Str × Value)}:(A.under (.builtin "type.__call__" ⟨.ref C::us,kw⟩)).units=A.units+1:=by
 first | rfl | simp [Around.under,Code.cUnits,Code.frames,Code.isFrame]
theorem BV.make {k:Nat} {A:Around} (r:BV (k+1) A) (C:Addr) (us:List Value) (kw:List (Str × Value)):BV k (A.under (.builtin "type.__call__" ⟨.ref C::us,kw⟩)) :=
 ⟨r.hd,by have:=r.dp; rw [Ph]; omega,by have:=r.un; rw [Oz]; omega⟩
theorem BV.depth {k:Nat} {A:Around} (r:BV k A):A.depth<recursionLimit:=by have:=r.dp; omega
theorem BV.units {k:Nat} {A:Around} (r:BV k A):A.units+64<cLine:=by have:=r.un; omega
noncomputable def bz:TA:=fun _ H Q=>Q [] H
noncomputable def dU (ta:TE) (tr:TA):TA:=fun σ H Q=>ta σ H fun x H1=>tr σ H1 fun xs H2=>Q (x::xs) H2
section
variable {X:Cx} {e:Expr} {es:List Expr} {te:TE} {t:TA} {pos:Pos}
theorem Ac:PA X [] bz:=fun _ _ _ _ H Q I h=>Calls.spliced_nil ⟨[],H,I,.nil,h⟩
theorem Aa (ha:PE X e te) (hr:PA X es t) (hs:starEach (e::es) X.env=(false,eval e X.env)::starEach es X.env:=by rfl):PA X (e::es) (dU te t):=by
 intro pos pins s σ H Q I h
 rw [hs]
 show wpAny _ _ (spliced ((false,eval e X.env)::backTo pos (starEach es X.env))) _ _ s
 refine Calls.spliced_cons (CJ (ha pins s σ H _ I h) fun u s1 hq0=>?_)
 obtain ⟨x,H1,I1,r1,q1⟩:=hq0
 exact CJ (hr pos pins s1 σ H1 _ I1 q1) fun us s2 ⟨xs,H2,I2,r2,q2⟩=>⟨x::xs,H2,I2,.cons r1 r2,q2⟩
noncomputable def gr (t:TA):TE:=fun σ H Q=>t σ H fun xs H1=>xs.length<=sizeLine/\∀ p,H1 p=none->Q (.ref p) (upd H1 p (.tup xs))
noncomputable def kJ (t:TA):TE:=fun σ H Q=>t σ H fun xs H1=>xs.length<=sizeLine/\∀ p,H1 p=none->Q (.ref p) (upd H1 p (.lst xs))
theorem CV {x1} (h:PA X es t):PE X (.Tuple es x1 pos) (gr t):=by
 intro pins s σ H Q I hq
 refine wpAny_Tuple_spliced (CJ (h pos pins s σ H _ I hq) fun us s1 ⟨xs,H1,I1,r,z,q⟩=>⟨by rw [← r.length]; exact z,?_⟩)
 have hf:H1 s1.heap.objs.size=none:=I1.hok.fresh (Nat.le_refl _)
 refine ⟨.ref s1.heap.objs.size,upd H1 s1.heap.objs.size (.tup xs),I1.laid (t':=s1.toks) (fun b u e=>Heap.get?_push_of_some _ e) (Nat.le_refl _) ?_,rfl,q _ hf⟩
 exact ⟨z,us,r,⟨_,Heap.get?_push_size _ rfl,rfl,_,rfl⟩⟩
theorem Df (h:PA X es t):PE X (.List es pos) (kJ t):=by
 intro pins s σ H Q I hq
 refine wpAny_List_spliced (CJ (h pos pins s σ H _ I hq) fun us s1 ⟨xs,H1,I1,r,z,q⟩=>⟨by rw [← r.length]; exact z,?_⟩)
 have hf:H1 s1.heap.objs.size=none:=I1.hok.fresh (Nat.le_refl _)
 refine ⟨.ref s1.heap.objs.size,upd H1 s1.heap.objs.size (.lst xs),I1.laid (t':=s1.toks) (fun b u e=>Heap.get?_push_of_some _ e) (Nat.le_refl _) ?_,rfl,q _ hf⟩
 exact ⟨z,us,0,r,Heap.get?_push_size _ rfl⟩
end
noncomputable abbrev Sp:=List V->Hp->VK->XK->Prop
noncomputable abbrev UG:=List Env->Hp->Shared->XK->Value->Shared->Prop
structure Nx (P:Program) (w:World) (K:PySem.W.Frag) (mg:Str->Option Value) (base:Heap) (A:Around) (outer:List Env) (s:Shared) (H:Hp):Prop where
 frames:A.frames=some outer
 mod:Mod K mg base
 bs:∀ b o,base.get? b=some o->s.heap.get? b=some o/\H b=none
 bsz:base.objs.size<=s.heap.objs.size
 Jb:s.heap.FunFrames base outer
 frf:∀ b∈frs outer,H b=none
 hok:Ia P w H s.heap
 bare:AllBare s.gens
noncomputable def CE (outer:List Env) (P:Program) (w:World) (H:Hp) (s:Shared) (Q:VK) (u:Value) (s':Shared):Prop :=
 ∃ v H',s'.os=s.os/\AllBare s'.gens/\Un (frs outer) [] H H' s.heap s'.heap/\Ia P w H' s'.heap/\RelV v u/\Q v H'
noncomputable def CR (CX:UG) (outer:List Env) (P:Program) (w:World) (H:Hp) (s:Shared) (Q:VK) (E:XK) (r:Result) (s':Shared):Prop :=
 match r with
 | .ok (.ret u)=>CE outer P w H s Q u s'
 | .ok _=>False
 | .error e=>CX outer H s E e s'
structure Ar (P:Program) (w:World) (K:PySem.W.Frag) (mg:Str->Option Value) (base:Heap) (CX:UG) (k:Nat) (f:Addr) (fd:FuncData) (ps:List Str) (sp:Sp):Prop where
 len:∀ vs H Q E,sp vs H Q E->vs.length=ps.length
 run:∀ (A:Around) (outer:List Env) (s:Shared) (H:Hp) (args:Args) (us:List Value) (vs:List V) (Q:VK) (E:XK),BV k A->Nx P w K mg base A outer s H->BindsTo s fd args (ps.zip us)->Vals vs us->sp vs H Q E ->
  codeAny (model P w) A (.call (.ref f) args) (CR CX outer P w H s Q E) s
theorem Nx.make {P:Program} {w:World} {K:PySem.W.Frag} {mg:Str->Option Value} {base:Heap} {A:Around} {outer:List Env} {s:Shared} {H:Hp} (e:Nx P w K mg base A outer s H) (C:Addr) (us:List Value) (kw:List (Str × Value)) :
  Nx P w K mg base (A.under (.builtin "type.__call__" ⟨.ref C::us,kw⟩)) outer s H:=⟨by first | exact e.frames | (simpa [Around.under,Code.envs,Code.isFrame,pushEnvs] using e.frames),e.mod,e.bs,e.bsz,e.Jb,e.frf,e.hok,e.bare⟩
section
variable {X:Cx} {pins:List (Addr × Obj)} {σ:St} {H:Hp} {s s':Shared}
theorem Inv.env0 (I:Inv X pins σ H s):Nx X.prog X.w X.K X.mg X.base X.A X.stack s H :=
 ⟨I.ok.frames,I.ok.mod,I.bs,Nat.le_trans I.ok.bsz I.sz,I.stack,I.Lf,I.hok,I.bare⟩
theorem Inv.after {Q:VK} {u:Value} (I:Inv X pins σ H s) (h:CE X.stack X.prog X.w H s Q u s'):EP X pins σ Q u s':=by
 obtain ⟨v,H',os,bare,un,hok,r,q⟩:=h
 obtain ⟨hh,g,d,t,os'⟩:=s'
 obtain rfl:os'=s.os:=os
 exact ⟨v,H',I.call (h':=hh) (g':=g) (d':=d) (t':=t) (ch:=[]) un hok bare (fun b z=>absurd z (by simp)),r,q⟩
end
noncomputable def aU (sp:Sp) (dvs:List V) (E:XK) (t:TA):TE:=fun σ H Q=>t σ H fun vs H1=>sp (vs++dvs) H1 Q E
noncomputable def Ws (C:Addr) (m:Str) (sp:Sp) (dvs:List V) (E:XK) (ta:TE) (t:TA):TE:=fun σ H Q=>ta σ H fun x H1=>∃ a dx fs,x=.ref a/\H1 a=some (.ins C dx fs)/\fs.lookup m=none /\
 t σ H1 fun vs H2=>sp (x::(vs++dvs)) H2 Q E
noncomputable def a_ (C:Addr) (sp:Sp) (dvs:List V) (E:XK) (t:TA):TE:=fun σ H Q=>t σ H fun vs H1=>∀ x dx,H1 x=none->H1 dx=none->dx ≠ x ->
 sp (.ref x::(vs++dvs)) (upd (upd H1 dx (.own x)) x (.ins C dx [])) (fun v H2=>v=.non/\Q (.ref x) H2) E
noncomputable def Binds (K:PySem.W.Frag) (fd:FuncData) (ps:List Str) (ds:List Value):Prop :=
 ∀ (s:Shared) (us:List Value),K.In s.heap->(us++ds).length=ps.length->BindsTo s fd ⟨us,[]⟩ (ps.zip (us++ds))
theorem Binds.all {K:PySem.W.Frag} {fd:FuncData} {ps:List Str} (h:∀ us:List Value,us.length=ps.length->bindArgs fd ⟨us,[]⟩=pure (ps.zip us)):Binds K fd ps []:=fun s us _ hl=>by
 rw [List.append_nil] at hl ⊢
 exact .of_eq (h us hl)
noncomputable def Hx (CX:UG) (X:Cx) (E:XK):Prop:=∀ (pins:List (Addr × Obj)) (σ:St) (H:Hp) (s:Shared) (e:Value) (s':Shared),Inv X pins σ H s->CX X.stack H s E e s'->X.xe e s'
section
variable {X:Cx} {CX:UG} {k:Nat} {f C:Addr} {fd:FuncData} {ps:List Str} {sp:Sp} {dvs:List V} {ds:List Value} {E:XK} {x m:Str} {p pos apos:Pos} {e o:Expr} {es:List Expr} {ta:TE} {t:TA}
theorem Ox {pins:List (Addr × Obj)} {σ:St} {H:Hp} {s:Shared} {Q:VK} {us:List Value} {vs:List V} (F:Ar X.prog X.w X.K X.mg X.base CX k f fd ps sp) (hr:BV k X.A) (hb:Binds X.K fd ps ds) (hd:Vals dvs ds) (hx:Hx CX X E)
  (I:Inv X pins σ H s) (r:Vals vs us) (h:sp (vs++dvs) H Q E):wpAny (model X.prog X.w) X.A (call (.ref f) us) (EP X pins σ Q) X.xe s:=by
 have r2:Vals (vs++dvs) (us++ds):=r.append hd
 have hl:(us++ds).length=ps.length:=by rw [← r2.length]; exact F.len _ _ _ _ h
 refine wpAny_call (codeAny_mono (F.run X.A X.stack s H ⟨us,[]⟩ (us++ds) (vs++dvs) Q E hr I.env0 (hb s us I.JC hl) r2 h) fun r s' hq=>?_)
 cases r with
 | error e=>exact hx pins σ H s e s' I hq
 | ok fl =>
  cases fl with
  | ret u=>exact I.after hq
  | next=>exact False.elim hq
  | brk=>exact False.elim hq
  | cont=>exact False.elim hq
theorem Ai (F:Ar X.prog X.w X.K X.mg X.base CX k f fd ps sp) (hr:BV k X.A) (hg:Gl X x) (hm:X.mg x=some (.ref f)) (hk:PySem.W.keepIn X.K (.ref f)=true) (hb:Binds X.K fd ps ds) (hd:Vals dvs ds) (hx:Hx CX X E)
  (ha:PA X (e::es) t) (hdb:(x == ("__debug__" : Str))=false:=by decide) (he:starEach (e::es) X.env=(false,eval e X.env)::starEach es X.env:=by rfl) (hpl:(backTo pos (starEach es X.env)).any (·.1)=false:=by rfl) :
  PE X (.Call (.Name x p) (e::es) [] pos) (aU sp dvs E t):=by
 intro pins s σ H Q I h
 refine wpAny_Call_Name_kw (Lw I hg hm ?_ hdb)
 refine PySem.W.callWith_K (h₀:=X.base) I.ok.mod.kin hk (CJ (ha pos pins s σ H _ I h) fun us s1 ⟨vs,H1,I1,r,q⟩=>⟨I1.JC,?_⟩) he hpl
 exact Ox F hr hb hd hx I1 r q
theorem C_ {pl:Sem Bool} (he:PE X o ta) (c:Su X.K C) (hm:Meth X.K C m f) (F:Ar X.prog X.w X.K X.mg X.base CX k f fd ps sp) (hr:BV k X.A) (hb:Binds X.K fd ps ds) (hd:Vals dvs ds) (hx:Hx CX X E) (ha:PA X (e::es) t)
  (hst:starEach (e::es) X.env=(false,eval e X.env)::starEach es X.env:=by rfl) (hpl:(backTo pos (starEach es X.env)).any (·.1)=false:=by rfl)
  (ht:eval (.Call (.Attribute o m apos) (e::es) [] pos) X.env=(do
   let ov ← eval o X.env
   standAt apos.atName
   let (f,first) ← holding [ov] (getMethod ov m pl)
   callWith pos f first (backTo pos (starEach (e::es) X.env)) (backToKw pos (keywordEach [] X.env))):=by rfl) :
  PE X (.Call (.Attribute o m apos) (e::es) [] pos) (Ws C m sp dvs E ta t):=by
 intro pins s σ H Q I h
 refine PySem.W.methodCall_KW (pl:=pl) (CJ (he pins s σ H _ I h) fun u s1 ⟨x,H1,I1,rx,a,dx,fs,ex,ea,l,q⟩=>?_) ht
 subst ex
 obtain rfl:u=Value.ref a:=rx
 refine Jm I1 ea c hm l ?_
 refine PySem.W.callWith_K (first:=[.ref a]) (h₀:=X.base) I.ok.mod.kin hm.kp (CJ (ha pos pins s1 σ H1 _ I1 q) fun us s2 ⟨vs,H2,I2,r,q2⟩=>⟨I2.JC,?_⟩) hst hpl
 exact Ox (us:=.ref a::us) (vs:=.ref a::vs) F hr hb hd hx I2 (.cons rfl r) q2
theorem Eo {pl:Sem Bool} (he:PE X o ta) (c:Su X.K C) (hm:Meth X.K C m f) (F:Ar X.prog X.w X.K X.mg X.base CX k f fd ps sp) (hr:BV k X.A) (hb:Binds X.K fd ps ds) (hd:Vals dvs ds) (hx:Hx CX X E)
  (ht:eval (.Call (.Attribute o m apos) [] [] pos) X.env=(do
   let ov ← eval o X.env
   standAt apos.atName
   let (f,first) ← holding [ov] (getMethod ov m pl)
   callWith pos f first (backTo pos (starEach [] X.env)) (backToKw pos (keywordEach [] X.env))):=by rfl) :
  PE X (.Call (.Attribute o m apos) [] [] pos) (Ws C m sp dvs E ta bz):=by
 intro pins s σ H Q I h
 refine PySem.W.methodCall_KW (pl:=pl) (CJ (he pins s σ H _ I h) fun u s1 ⟨x,H1,I1,rx,a,dx,fs,ex,ea,l,q⟩=>?_) ht
 subst ex
 obtain rfl:u=Value.ref a:=rx
 refine Jm I1 ea c hm l ?_
 exact PySem.W.callWith_K0 (first:=[.ref a]) I1.JC hm.kp (Ox (us:=[.ref a]) (vs:=[.ref a]) F hr hb hd hx I1 (.cons rfl .nil) q)
structure Mk (K:PySem.W.Frag) (C f:Addr):Prop where
 makes:PySem.W.makesIn K C=true
 init:PySem.W.findIn K (.ref C) "__init__" = some (some (.ref f))
 fn:PySem.W.isFn K (.ref f)=true
 kp:PySem.W.keepIn K (.ref C)=true
theorem Tr {pins:List (Addr × Obj)} {σ:St} {H:Hp} {s:Shared} {Q:VK} {us:List Value} {vs:List V} (M:Mk X.K C f) (F:Ar X.prog X.w X.K X.mg X.base CX k f fd ps sp) (hr:BV (k+1) X.A) (hb:Binds X.K fd ps ds) (hd:Vals dvs ds)
  (hx:Hx CX X E) (I:Inv X pins σ H s) (r:Vals vs us)
  (h:∀ x dx,H x=none->H dx=none->dx ≠ x->sp (.ref x::(vs++dvs)) (upd (upd H dx (.own x)) x (.ins C dx [])) (fun v H2=>v=.non/\Q (.ref x) H2) E) :
  wpAny (model X.prog X.w) X.A (call (.ref C) us) (EP X pins σ Q) X.xe s:=by
 have hq:=h (s.heap.objs.size+1) s.heap.objs.size (I.hok.fresh (Nat.le_succ _)) (I.hok.fresh (Nat.le_refl _)) (Nat.ne_of_lt (Nat.lt_succ_self _))
 have I2:=Inv.made (C:=C) I
 have r2:Vals (V.ref (s.heap.objs.size+1)::(vs++dvs)) (Value.ref (s.heap.objs.size+1)::(us++ds)):=.cons rfl (r.append hd)
 have hl:(Value.ref (s.heap.objs.size+1)::us++ds).length=ps.length:=by
  have e:=r2.length
  rw [F.len _ _ _ _ hq] at e
  exact e.symm
 refine wpAny_call (TQ (f:=f) I.JC M.makes M.init (beq_iff_eq.mp M.fn) (codeAny_mono (F.run _ X.stack _ _ ⟨Value.ref (s.heap.objs.size+1)::us,[]⟩ (Value.ref (s.heap.objs.size+1)::(us++ds)) _ _ E (hr.make C us [])
  (I2.env0.make C us []) (hb _ (Value.ref (s.heap.objs.size+1)::us) I2.JC hl) r2 hq) fun r s' hq'=>?_))
 cases r with
 | error e=>exact hx pins σ _ _ e s' I2 hq'
 | ok fl =>
  cases fl with
  | ret u =>
   obtain ⟨v,H',I3,rv,ev,q3⟩:=I2.after hq'
   subst ev
   exact ⟨rv,⟨V.ref (s.heap.objs.size+1),H',I3,rfl,q3⟩⟩
  | next=>exact False.elim hq'
  | brk=>exact False.elim hq'
  | cont=>exact False.elim hq'
theorem V_ (M:Mk X.K C f) (F:Ar X.prog X.w X.K X.mg X.base CX k f fd ps sp) (hr:BV (k+1) X.A) (hg:Gl X x) (hm:X.mg x=some (.ref C)) (hb:Binds X.K fd ps ds) (hd:Vals dvs ds) (hx:Hx CX X E)
  (ha:PA X (e::es) t) (hdb:(x == ("__debug__" : Str))=false:=by decide) (he:starEach (e::es) X.env=(false,eval e X.env)::starEach es X.env:=by rfl) (hpl:(backTo pos (starEach es X.env)).any (·.1)=false:=by rfl) :
  PE X (.Call (.Name x p) (e::es) [] pos) (a_ C sp dvs E t):=by
 intro pins s σ H Q I h
 refine wpAny_Call_Name_kw (Lw I hg hm ?_ hdb)
 refine PySem.W.callWith_K (h₀:=X.base) I.ok.mod.kin M.kp (CJ (ha pos pins s σ H _ I h) fun us s1 ⟨vs,H1,I1,r,q⟩=>⟨I1.JC,?_⟩) he hpl
 exact Tr M F hr hb hd hx I1 r q
end
section
variable {X:Cx} {CX:UG} {k:Nat} {f C:Addr} {fd:FuncData} {ps ks:List Str} {sp:Sp} {E:XK} {x m:Str} {p pos apos kpos:Pos} {e o:Expr} {es:List Expr} {kws:List Keyword} {te ta:TE} {t tk:TA} {nm:Option Str}
variable {g:List Value->List Value->List Value} {gV:List V->List V->List V}
end
structure Aw (N P:List Str) (sc:Scope):Prop where
 kind:sc.kind=.function
 co:sc.isCoroutine=false
 gen:sc.isGenerator=false
 nd:N.Nodup
 pre:N.take P.length=P
 par:∀ x∈P,sc.names.lookup x=some .local \/ sc.names.lookup x=some .cell
 nofree:∀ y∈sc.names,y.2 ≠ .free
theorem Bo {N P:List Str} {sc:Scope} (a:sc.kind=.function:=by rfl) (b:sc.isCoroutine=false:=by rfl) (c:sc.isGenerator=false:=by rfl) (d:N.Nodup:=by decide +kernel) (e:N.take P.length=P:=by rfl) (f:∀ x∈P,sc.names.lookup x=some .local \/ sc.names.lookup x=some .cell:=by decide +kernel) (g:∀ y∈sc.names,y.2 ≠ .free:=by decide +kernel):Aw N P sc:=⟨a,b,c,d,e,f,g⟩
theorem Km {kindOf:Str->Option NameKind} {x:Str}:∀ {binds:List (Str × Value)} {m:Str->Option Value},(∀ v,(x,v) ∉ binds)->bindL kindOf binds m x=m x
 | [],_,_=>rfl
 | (n,v)::r,m,h=>by
  unfold bindL
  rw [Km fun w hw=>h w (List.mem_cons_of_mem _ hw)]
  split
  ·have:x ≠ n:=by rintro rfl; exact h v List.mem_cons_self
   simp [this]
  ·rfl
theorem Ku {kindOf:Str->Option NameKind} {x:Str}:∀ {binds:List (Str × Value)} {m:Str->Option Value},(∀ v,(x,v) ∉ binds)->bindC kindOf binds m x=m x
 | [],_,_=>rfl
 | (n,v)::r,m,h=>by
  unfold bindC
  rw [Ku fun w hw=>h w (List.mem_cons_of_mem _ hw)]
  split
  ·rfl
  ·have:x ≠ n:=by rintro rfl; exact h v List.mem_cons_self
   simp [this]
theorem K1 {kindOf:Str->Option NameKind} {x:Str} {v:Value}:∀ {P:List Str} {vs:List Value} {i:Nat} {m:Str->Option Value},P.Nodup->P[i]? = some x->vs[i]? = some v->kindOf x=some .local ->
  bindL kindOf (P.zip vs) m x=some v
 | [],_,_,_,_,h,_,_=>by simp at h
 | _::_,[],_,_,_,_,h,_=>by simp at h
 | p::P,w::vs,0,m,nd,h1,h2,hk=>by
  simp at h1 h2; subst h1; subst h2
  show bindL kindOf ((p,w)::P.zip vs) m p=_
  unfold bindL
  rw [Km fun v hv=>(List.nodup_cons.mp nd).1 (List.of_mem_zip hv).1,if_pos hk]
  simp
 | p::P,w::vs,i+1,m,nd,h1,h2,hk=>by
  show bindL kindOf ((p,w)::P.zip vs) m x=_
  unfold bindL
  exact K1 (i:=i) (List.nodup_cons.mp nd).2 (by simpa using h1) (by simpa using h2) hk
theorem K_ {kindOf:Str->Option NameKind} {x:Str} {v:Value}:∀ {P:List Str} {vs:List Value} {i:Nat} {m:Str->Option Value},P.Nodup->P[i]? = some x->vs[i]? = some v->kindOf x ≠ some .local ->
  bindC kindOf (P.zip vs) m x=some v
 | [],_,_,_,_,h,_,_=>by simp at h
 | _::_,[],_,_,_,_,h,_=>by simp at h
 | p::P,w::vs,0,m,nd,h1,h2,hk=>by
  simp at h1 h2; subst h1; subst h2
  show bindC kindOf ((p,w)::P.zip vs) m p=_
  unfold bindC
  rw [Ku fun v hv=>(List.nodup_cons.mp nd).1 (List.of_mem_zip hv).1,if_neg hk]
  simp
 | p::P,w::vs,i+1,m,nd,h1,h2,hk=>by
  show bindC kindOf ((p,w)::P.zip vs) m x=_
  unfold bindC
  exact K_ (i:=i) (List.nodup_cons.mp nd).2 (by simpa using h1) (by simpa using h2) hk
noncomputable def start (N:List Str) (vs:List V):St:=vs.map some++List.replicate (N.length - vs.length) none
noncomputable def PL (CX:UG) (P:Program) (w:World) (K:PySem.W.Frag) (mg:Str->Option Value) (base:Heap) (N:List Str) (qual:Str) (scope:Scope) (f:Addr) (cd:Value) (A:Around) (outer:List Env) (s:Shared) (H:Hp) (E:XK):Cx where
 prog:=P
 w:=w
 K:=K
 mg:=mg
 base:=base
 A:=A.deeper (envOfC qual scope s.heap.objs.size f cd)
 N:=N
 s₀:=s
 H₀:=H
 env:=envOfC qual scope s.heap.objs.size f cd
 outer:=outer
 stack:=envOfC qual scope s.heap.objs.size f cd::outer
 ex:=[]
 calm:=true
 fn:=fun _=>true
 pn:=[]
 xe:=fun e s'=>wpAny (model P w) (A.deeper (envOfC qual scope s.heap.objs.size f cd)) (leaving (envOfC qual scope s.heap.objs.size f cd) e) (fun _ s''=>CX outer H s E e s'') (fun e' s''=>CX outer H s E e' s'') s'
theorem M8 {sc:Scope} {n:Nat} {x:Str} (h:sc.names.lookup x=some .cell):∃ c,(cellsFrom n sc.names []).lookup x=some c:=by
 have q:=PySem.W.cellsFrom_some sc.names n [] (.inl h)
 exact Option.isSome_iff_exists.mp q
theorem Ra {CX:UG} {P:Program} {w:World} {K:PySem.W.Frag} {mg:Str->Option Value} {base:Heap} {N ps:List Str} {qual:Str} {scope:Scope} {f:Addr} {cd:Value} {A:Around} {outer:List Env} {s s1:Shared} {H:Hp} {E:XK} {us:List Value} {vs:List V}
  (S:Aw N ps scope) (hd:A.handled=none) (e0:Nx P w K mg base A outer s H) (hl:vs.length=ps.length) (r:Vals vs us)
  (x:InCallC s s.heap.objs.size (bindL (envOfC qual scope s.heap.objs.size f cd).kindOf (ps.zip us) fun _=>none) (cellsFrom (s.heap.objs.size+1) scope.names []) (bindC (envOfC qual scope s.heap.objs.size f cd).kindOf (ps.zip us) fun _=>none) s1) :
  Inv (PL CX P w K mg base N qual scope f cd A outer s H E) [] (start N vs) H s1:=by
 have hpl:ps.length<=N.length:=by have:=congrArg List.length S.pre; rw [List.length_take] at this; omega
 obtain ⟨h1,tk,rfl,hk⟩:=x.done
 have noA:∀ b:Addr,b ∉ (PL CX P w K mg base N qual scope f cd A outer s H E).ex:=fun b z=>absurd (show b∈([]:List Addr) from z) (by simp)
 refine ⟨⟨e0.mod,S.kind,rfl,rfl,Nat.le_refl _,fun y z c h1 h2=>?_,fun y hy=>?_,fun y c _ h=>?_,fun _=>hd,Around.frames_deeper e0.frames,.inr ⟨rfl,rfl⟩,fun b z=>absurd z (noA b),e0.bs,e0.bsz,fun b _ _=>noA b,fun b z=>absurd z (noA b),e0.Jb,e0.frf⟩,
  rfl,e0.bare,Un.kept hk,⟨_,x.toInCall.ns,fun i y v h1 h2 h3=>?_⟩,fun y c h=>⟨_,x.cell y c h⟩,e0.hok.fresh (Nat.le_refl _),fun y c h=>?_,fun p hp=>absurd (show p∈([]:List (Addr × Obj)) from hp) (by simp),e0.hok.kept hk,?_⟩
 ·exact name_of_addr x.apart (PySem.mem_of_lookup h1) (PySem.mem_of_lookup h2)
 ·have hy:scope.names.lookup y=some .cell \/ scope.names.lookup y=some .free:=hy
  rcases hy with hy | hy
  ·exact M8 hy
  ·exact absurd rfl (S.nofree _ (PySem.mem_of_lookup hy))
 ·exact Nat.le_of_lt (x.above y c (PySem.mem_of_lookup h))
 ·have hi:i<vs.length:=by
   unfold start at h2
   by_cases hi:i<vs.length
   ·exact hi
   ·rw [List.getElem?_append_right (by simpa using hi)] at h2
    rw [List.getElem?_replicate] at h2
    split at h2 <;> cases h2
  have ha:vs[i]? = some v:=by
   unfold start at h2
   rw [List.getElem?_append_left (by simpa using hi),List.getElem?_map] at h2
   cases e:vs[i]? with
   | none=>rw [e] at h2; cases h2
   | some a=>rw [e] at h2; cases h2; rfl
  obtain ⟨u,hu,rv⟩:=r.get ha
  have hp:ps[i]? = some y:=by
   rw [← S.pre,List.getElem?_take_of_lt (by omega)]; exact h1
  have ndP:ps.Nodup:=by rw [← S.pre]; exact S.nd.sublist (List.take_sublist _ _)
  refine ⟨u,rv,?_⟩
  rcases S.par y (List.mem_of_getElem? hp) with k | k
  ·exact .inl ⟨k,K1 ndP hp hu k⟩
  ·obtain ⟨c,e⟩:=M8 (n:=s.heap.objs.size+1) k
   refine .inr ⟨.inl k,c,e,?_⟩
   have q:=x.cell y c e
   rw [K_ ndP hp hu (by show scope.names.lookup y ≠ _; rw [k]; decide)] at q
   exact q
 ·exact e0.hok.fresh (Nat.le_of_lt (x.above y c (PySem.mem_of_lookup h)))
 ·unfold start
  show _=N.length
  rw [List.length_append,List.length_map,List.length_replicate]
  omega
theorem W2 {CX:UG} {P:Program} {w:World} {K:PySem.W.Frag} {mg:Str->Option Value} {base:Heap} {k:Nat} {f:Addr} {name qual:Str} {params:Arguments} {body:List Stmt} {scope:Scope} {dV kV doc pm cdv ct oc:Value} {an od:Option Addr}
  {osl:Array (Option Value)} {N ps:List Str} {sp:Sp} (lk:K.lookup f=some ⟨oc,od,.func (PySem.W.fnOf name qual params body scope dV kV doc pm an cdv ct),osl⟩) (hcd:PySem.W.codeIn K cdv qual=true) (S:Aw N ps scope)
  (len:∀ vs H Q E,sp vs H Q E->vs.length=ps.length)
  (hbody:∀ (A:Around) (outer:List Env) (s:Shared) (H:Hp) (vs:List V) (Q:VK) (E:XK),BV k (A.deeper (envOfC qual scope s.heap.objs.size f cdv))->sp vs H Q E ->
   ∃ t,Pq (PL CX P w K mg base N qual scope f cdv A outer s H E) body t/\t { nx:=fun _ H'=>Q .non H',rt:=Q } (start N vs) H) :
  Ar P w K mg base CX (k+1) f (PySem.W.fnOf name qual params body scope dV kV doc pm an cdv ct) ps sp:=by
 refine ⟨len,fun A outer s H args us vs Q E hr e0 hb r hsp=>?_⟩
 have hl:=len _ _ _ _ hsp
 have KX:K.In s.heap:=e0.mod.kin.keeps fun b o e=>(e0.bs b o e).1
 have lim:s.heap.NoLimit:=e0.mod.nolimit.keeps fun b o e=>(e0.bs b o e).1
 have hkind:∀ y∈ps.zip us,scope.names.lookup y.1=some .local \/ (scope.names.lookup y.1=some .cell/\((cellsFrom (s.heap.objs.size+1) scope.names []).lookup y.1).isSome=true):=fun ⟨n,v⟩ hy=>by
  rcases S.par n (List.of_mem_zip hy).1 with q | q
  ·exact .inl q
  ·exact .inr ⟨q,PySem.W.cellsFrom_some _ _ _ (.inl q)⟩
 refine codeAny_call_function hr.depth (KX _ _ lk) rfl S.co S.gen rfl (PySem.W.codeRec_of KX hcd) (hb _ _ _ _ ?_)
 refine wpAny_newFunctionEnv_cells S.kind hkind fun env he s1 x=>?_
 subst he
 refine ⟨lim.keeps x.toInCall.keep,codeAny_func ?_⟩
 obtain ⟨t,ht,hq⟩:=hbody A outer s H vs Q E (hr.deeper _) hsp
 have I:Inv (PL CX P w K mg base N qual scope f cdv A outer s H E) [] (start N vs) H s1:=Ra S hr.hd e0 hl r x
 refine wpAny_mono (ht [] s1 (start N vs) H _ I hq) (fun fl s' hs=>?_) fun e s' hs=>hs
 have fin:∀ {σ':St} {H':Hp} {v:V} {u:Value},Inv (PL CX P w K mg base N qual scope f cdv A outer s H E) [] σ' H' s'->RelV v u->Q v H'->CE outer P w H s Q u s' :=
  fun {σ' H' v u} J rv q=>⟨v,H',J.os,J.bare,J.base,J.hok,rv,q⟩
 cases fl with
 | ret u =>
  obtain ⟨v,σ',H',J,rv,q⟩:=hs
  exact fin J rv q
 | next =>
  obtain ⟨σ',H',J,q⟩:=hs
  exact fin (v:=V.non) (u:=Value.none) J rfl q
 | brk =>
  obtain ⟨_,_,_,q⟩:=hs
  exact False.elim q
 | cont =>
  obtain ⟨_,_,_,q⟩:=hs
  exact False.elim q
end L2
namespace L2
open PySem PySem.Spec PyProof.Rows
section
variable {X:Cx} {x:Str} {p pos:Pos} {e:Expr} {es:List Expr} {t:TA} {id T:String} {r:List V->Hp->VK->Prop}
noncomputable def lX (r:List V->Hp->VK->Prop) (t:TA):TE:=fun σ H Q=>t σ H fun vs H1=>r vs H1 Q
theorem BP (hc:Fo X (.builtin id) r) (hg:Gl X x) (hm:X.mg x=none) (hv:bootBuiltins x=some (.builtin id)) (ha:PA X (e::es) t) (hn:x ≠ "__name__":=by decide) (hdb:(x == ("__debug__" : Str))=false:=by decide)
  (he:starEach (e::es) X.env=(false,eval e X.env)::starEach es X.env:=by rfl) (hpl:(backTo pos (starEach es X.env)).any (·.1)=false:=by rfl):PE X (.Call (.Name x p) (e::es) [] pos) (lX r t):=by
 intro pins s σ H Q I h
 refine wpAny_Call_Name_kw (GC I hg hm hv ?_ hn hdb)
 exact PyProof.Rows.callWith_builtin1 (CJ (ha pos pins s σ H _ I h) fun us s1 ⟨vs,H1,I1,r1,q1⟩=>hc pins s1 σ H1 vs us Q I1 r1 q1) he hpl
theorem Dz (hc:Fo X (.type T) r) (hg:Gl X x) (hm:X.mg x=none) (hv:bootBuiltins x=some (.type T)) (ha:PA X (e::es) t) (hn:x ≠ "__name__":=by decide) (hdb:(x == ("__debug__" : Str))=false:=by decide)
  (he:starEach (e::es) X.env=(false,eval e X.env)::starEach es X.env:=by rfl) (hpl:(backTo pos (starEach es X.env)).any (·.1)=false:=by rfl):PE X (.Call (.Name x p) (e::es) [] pos) (lX r t):=by
 intro pins s σ H Q I h
 refine wpAny_Call_Name_kw (GC I hg hm hv ?_ hn hdb)
 exact PyProof.Rows.callWith_type1 (CJ (ha pos pins s σ H _ I h) fun us s1 ⟨vs,H1,I1,r1,q1⟩=>hc pins s1 σ H1 vs us Q I1 r1 q1) he hpl
end
end L2
namespace L2
open PySem PySem.Spec PyProof.Rows
section
variable {κ:Type} [DecidableEq κ]
noncomputable def Ds (kvs:List (κ × V)) (k:κ):Option V:=(kvs.find? fun kv=>decide (kv.1=k)).map (·.2)
noncomputable def putK (kvs:List (κ × V)) (k:κ) (v:V):List (κ × V) :=
 if (kvs.any fun kv=>decide (kv.1=k))=true then kvs.map (fun kv=>if kv.1=k then (kv.1,v) else kv) else kvs++[(k,v)]
noncomputable def lV (kvs:List (κ × V)) (k:κ):List (κ × V):=kvs.filter fun kv=>decide (kv.1 ≠ k)
theorem Di {p:κ × V} {r:List (κ × V)} {k:κ} (e:p.1=k):Ds (p::r) k=some p.2:=by simp [Ds,List.find?_cons,e]
theorem Dk {p:κ × V} {r:List (κ × V)} {k:κ} (e:¬ p.1=k):Ds (p::r) k=Ds r k:=by simp [Ds,List.find?_cons,e]
theorem Gj (k:κ):∀ kvs:List (κ × V),(kvs.any fun kv=>decide (kv.1=k))=(Ds kvs k).isSome
 | []=>rfl
 | p::r=>by
  rw [List.any_cons]
  by_cases e:p.1=k
  ·simp only [Di e,decide_eq_true e,Bool.true_or,Option.isSome_some]
  ·rw [Dk e,decide_eq_false e,Bool.false_or]; exact Gj k r
theorem M5 (k j:κ) (y:V):∀ kvs:List (κ × V),Ds (kvs.map fun kv=>if kv.1=k then (kv.1,y) else kv) j=(Ds kvs j).map fun x=>if j=k then y else x
 | []=>rfl
 | p::r=>by
  have ih:=M5 k j y r
  rw [List.map_cons]
  by_cases h:p.1=k
  ·rw [if_pos h]
   by_cases e:p.1=j
   ·rw [Di (p:=(p.1,y)) e,Di e,Option.map_some,if_pos (e.symm.trans h)]
   ·rw [Dk (p:=(p.1,y)) e,Dk e,ih]
  ·rw [if_neg h]
   by_cases e:p.1=j
   ·rw [Di (p:=p) e,Di e,Option.map_some,if_neg (fun z=>h (e.trans z))]
   ·rw [Dk (p:=p) e,Dk e,ih]
theorem Hk (k j:κ) (y:V):∀ kvs:List (κ × V),Ds kvs k=none->Ds (kvs++[(k,y)]) j=if j=k then some y else Ds kvs j
 | [],_=>by
  by_cases e:k=j
  ·rw [if_pos e.symm]; exact Di (p:=(k,y)) e
  ·rw [if_neg (fun z=>e z.symm)]; exact Dk (p:=(k,y)) e
 | p::r,hn=>by
  rw [List.cons_append]
  have hk:¬ p.1=k:=fun z=>by rw [Di z] at hn; cases hn
  rw [Dk hk] at hn
  have ih:=Hk k j y r hn
  by_cases e:p.1=j
  ·rw [Di e,Di e,if_neg (fun z=>hk (e.trans z))]
  ·rw [Dk e,Dk e,ih]
theorem Tp (kvs:List (κ × V)) (k j:κ) (y:V):Ds (putK kvs k y) j=if j=k then some y else Ds kvs j:=by
 unfold putK
 by_cases a:(kvs.any fun kv=>decide (kv.1=k))=true
 ·rw [if_pos a,M5]
  rw [Gj] at a
  by_cases e:j=k
  ·obtain ⟨x,hx⟩:=Option.isSome_iff_exists.mp a
   rw [if_pos e,e,hx,Option.map_some,if_pos rfl]
  ·rw [if_neg e]
   cases Ds kvs j with
   | none=>rfl
   | some x=>rw [Option.map_some,if_neg e]
 ·rw [if_neg a]
  refine Hk k j y kvs ?_
  rw [Gj] at a
  cases q:Ds kvs k with
  | none=>rfl
  | some x=>rw [q] at a; exact (a rfl).elim
theorem Fz (kvs:List (κ × V)) (k:κ) (v:V):(putK kvs k v).length<=kvs.length+1:=by
 unfold putK
 split
 ·rw [List.length_map]; omega
 ·rw [List.length_append,List.length_cons,List.length_nil]; omega
theorem Rj {kvs:List (κ × V)} {k:κ} (v:V) (h:Ds kvs k=none):putK kvs k v=kvs++[(k,v)]:=by
 unfold putK
 rw [Gj,h]
 exact if_neg (by decide)
theorem Hc.Gg {o:Option V} {u:Option Value} (r:Hc o u):o.isSome=u.isSome:=by
 cases o with
 | none=>cases u with
  | none=>rfl
  | some _=>exact (show False from r).elim
 | some _=>cases u with
  | none=>exact (show False from r).elim
  | some _=>rfl
theorem KV.val {kvs:List (κ × V)} {vs:List (κ × Value)} (r:KV kvs vs) (k:κ):Hc (Ds kvs k) (valueAt vs k):=by
 unfold KV at r
 induction r with
 | nil=>exact True.intro
 | @cons p q ps qs h t ih =>
  obtain ⟨h1,h2⟩:=h
  by_cases e:p.1=k
  ·have e':q.1=k:=h1.symm.trans e
   have b:valueAt (q::qs) k=some q.2:=by simp [valueAt,List.find?_cons,e']
   rw [Di e,b]; exact h2
  ·have e':¬ q.1=k:=fun z=>e (h1.trans z)
   have b:valueAt (q::qs) k=valueAt qs k:=by simp [valueAt,List.find?_cons,e']
   rw [Dk e,b]; exact ih
theorem KV.any {kvs:List (κ × V)} {vs:List (κ × Value)} (r:KV kvs vs) (k:κ):(kvs.any fun kv=>decide (kv.1=k))=vs.any fun kv=>decide (kv.1=k):=by
 unfold KV at r
 induction r with
 | nil=>rfl
 | cons h t ih=>rw [List.any_cons,List.any_cons,ih,h.1]
theorem KV.repl {kvs:List (κ × V)} {vs:List (κ × Value)} (r:KV kvs vs) (k:κ) {y:V} {u:Value} (ry:RelV y u) :
  KV (kvs.map fun kv=>if kv.1=k then (kv.1,y) else kv) (vs.map fun kv=>if kv.1=k then (kv.1,u) else kv):=by
 unfold KV at r ⊢
 induction r with
 | nil=>exact .nil
 | @cons p q ps qs h t ih =>
  rw [List.map_cons,List.map_cons]
  refine .cons ?_ ih
  obtain ⟨h1,h2⟩:=h
  by_cases e:p.1=k
  ·rw [if_pos e,if_pos (h1.symm.trans e)]; exact ⟨h1,ry⟩
  ·rw [if_neg e,if_neg (fun z=>e (h1.trans z))]; exact ⟨h1,h2⟩
theorem KV.put {kvs:List (κ × V)} {vs:List (κ × Value)} (r:KV kvs vs) (k:κ) {y:V} {u:Value} (ry:RelV y u):KV (putK kvs k y) (stored vs k u):=by
 unfold putK stored
 rw [r.any k]
 by_cases e:(vs.any fun kv=>decide (kv.1=k))=true
 ·rw [if_pos e,if_pos e]; exact r.repl k ry
 ·rw [if_neg e,if_neg e]; exact Paired.snoc r ⟨rfl,ry⟩
theorem KV.length {kvs:List (κ × V)} {vs:List (κ × Value)} (r:KV kvs vs):kvs.length=vs.length:=Paired.length r
end
theorem Kv {P:Program} {w:World} {k:Key} {u:Value} (r:RelV (kV k) u):(Ck P w).is k u=true:=by
 cases k with
 | inl i=>obtain ⟨t,e⟩:=(show ∃ t,u=Value.int i t from r); subst e; exact Mr P w i t
 | inr x=>obtain ⟨t,e⟩:=(show ∃ t,u=Value.str x t from r); subst e; exact M_ P w x t
theorem Kr {P:Program} {w:World}:∀ {ks:List Key} {us:List Value},Vals (ks.map kV) us->ItemsAre (Ck P w) ks us
 | [],_,r=>by rw [List.map_nil] at r; cases r; exact .nil
 | k::ks,_,r=>by
  rw [List.map_cons] at r
  cases r with
  | cons h t=>exact .cons (Kv h) (Kr t)
noncomputable abbrev KT (H:Hp):List (List Key × V)->List (List Key × Addr × Value)->Prop:=Paired fun p q=>p.1=q.1/\H q.2.1=some (.tup (p.1.map kV))/\RelV p.2 q.2.2
theorem KT.val {H:Hp} {kvs:List (List Key × V)} {xs:List (List Key × Addr × Value)} (r:KT H kvs xs) (k:List Key):Hc (Ds kvs k) ((atKey xs k).map (·.2)):=by
 induction r with
 | nil=>exact True.intro
 | @cons p q ps qs h t ih =>
  obtain ⟨h1,_,h2⟩:=h
  by_cases e:p.1=k
  ·have e':q.1=k:=h1.symm.trans e
   have b:atKey (q::qs) k=some q.2:=by simp [atKey,List.find?_cons,e']
   rw [Di e,b]; exact h2
  ·have e':¬ q.1=k:=fun z=>e (h1.trans z)
   have b:atKey (q::qs) k=atKey qs k:=by simp [atKey,List.find?_cons,e']
   rw [Dk e,b]; exact ih
theorem KT.repl {H:Hp} {kvs:List (List Key × V)} {xs:List (List Key × Addr × Value)} (r:KT H kvs xs) (k:List Key) {y:V} {u:Value} (ry:RelV y u) :
  KT H (kvs.map fun kv=>if kv.1=k then (kv.1,y) else kv) (xs.map (putAt k u)):=by
 induction r with
 | nil=>exact .nil
 | @cons p q ps qs h t ih =>
  rw [List.map_cons,List.map_cons]
  refine .cons ?_ ih
  obtain ⟨h1,h2,h3⟩:=h
  unfold putAt
  by_cases e:p.1=k
  ·rw [if_pos e,if_pos (h1.symm.trans e)]; exact ⟨h1,h2,ry⟩
  ·rw [if_neg e,if_neg (fun z=>e (h1.trans z))]; exact ⟨h1,h2,h3⟩
theorem KT.put {H:Hp} {kvs:List (List Key × V)} {xs:List (List Key × Addr × Value)} (r:KT H kvs xs) (k:List Key) {b:Addr} {y:V} {u:Value} (hb:H b=some (.tup (k.map kV))) (ry:RelV y u) :
  KT H (putK kvs k y) (storedH xs k b u):=by
 have e:(kvs.any fun kv=>decide (kv.1=k))=(atKey xs k).isSome:=by
  rw [Gj,(r.val k).Gg,Option.isSome_map]
 unfold putK storedH
 rw [e]
 by_cases q:(atKey xs k).isSome=true
 ·rw [if_pos q,if_pos q]; exact r.repl k ry
 ·rw [if_neg q,if_neg q]; exact Paired.snoc r ⟨rfl,hb,ry⟩
theorem KT.keeps {H H':Hp} {kvs:List (List Key × V)} {xs:List (List Key × Addr × Value)} (r:KT H kvs xs) (ht:∀ b ys,H b=some (.tup ys)->H' b=some (.tup ys)):KT H' kvs xs :=
 Paired.Et r fun _ _ z=>⟨z.1,ht _ _ z.2.1,z.2.2⟩
section
variable {P:Program} {w:World} {H:Hp} {h:Heap} {a:Addr}
theorem We {u:HO} (ok:Ia P w H h) (e:Rd H a u):Ce P w H h a u:=e.ok ok
theorem M9 {kvs:List (Key × V)} (ok:Ia P w H h) (e:Rd H a (.dK kvs)):kvs.length<=sizeLine/\(a == sysModules)=false/\∃ vs,KV kvs vs/\h.DictOf (Ck P w) a vs :=
 show Ce P w H h a (.dK kvs) from We ok e
theorem Wv {kvs:List (Key × V)} (ok:Ia P w H h) (e:H a=some (.dK kvs)):kvs.length<=sizeLine/\(a == sysModules)=false/\∃ vs,KV kvs vs/\h.DictOf (Ck P w) a vs:=M9 ok (.inl e)
theorem Jw {ks:List Key} (ok:Ia P w H h) (e:H a=some (.tup (ks.map kV))):(tupleKind (Ck P w)).is h ks a:=by
 obtain ⟨_,its,r,o,h1,h2,n,h3⟩:=(show Ce P w H h a (.tup (ks.map kV)) from ok a _ e)
 exact ⟨o,its.toArray,n,h1,h2,h3,by simpa using Kr r⟩
theorem Mp {kvs:List (List Key × V)} (ok:Ia P w H h) (e:Rd H a (.dT kvs)):kvs.length<=sizeLine/\(a == sysModules)=false /\
  ∃ xs,KT H kvs xs/\h.DictOfH (tupleKind (Ck P w)) a xs:=by
 obtain ⟨z,y,xs,r,o,es,ep,h1,h2,h3,h4,h5⟩:=(show Ce P w H h a (.dT kvs) from We ok e)
 refine ⟨z,y,xs,r,o,es,ep,h1,h2,h3,h4,fun x hx=>?_,h5⟩
 have all:∀ {l:List (List Key × V)} {m:List (List Key × Addr × Value)},KT H l m->∀ x∈m,(tupleKind (Ck P w)).is h x.1 x.2.1:=by
  intro l m q
  induction q with
  | nil=>intro x hx; exact nomatch hx
  | @cons p q ps qs hq t ih =>
   intro x hx
   rcases List.mem_cons.mp hx with e | hx
   ·subst e
    exact Jw ok (by rw [← hq.1]; exact hq.2.1)
   ·exact ih x hx
 exact all r x hx
theorem cj {kvs:List (List Key × V)} (ok:Ia P w H h) (e:H a=some (.dT kvs)):kvs.length<=sizeLine/\(a == sysModules)=false /\
  ∃ xs,KT H kvs xs/\h.DictOfH (tupleKind (Ck P w)) a xs:=Mp ok (.inl e)
end
noncomputable def GF (H:Hp) (a:Addr) (y:V) (r:Option V):Prop :=
 (∃ kvs k,Rd H a (.dK kvs)/\y=kV k/\r=Ds kvs k) \/ ∃ kvs k b,Rd H a (.dT kvs)/\y=.ref b/\H b=some (.tup (k.map kV))/\r=Ds kvs k
noncomputable def Qx (H:Hp) (a:Addr) (y v:V) (H':Hp):Prop :=
 (∃ kvs k,H a=some (.dK kvs)/\y=kV k/\kvs.length<sizeLine/\H'=upd H a (.dK (putK kvs k v))) \/
 ∃ kvs k b,H a=some (.dT kvs)/\y=.ref b/\H b=some (.tup (k.map kV))/\kvs.length<sizeLine/\H'=upd H a (.dT (putK kvs k v))
theorem GF.k {H:Hp} {a:Addr} {kvs:List (Key × V)} {k:Key} (e:H a=some (.dK kvs)):GF H a (kV k) (Ds kvs k):=.inl ⟨kvs,k,.inl e,rfl,rfl⟩
theorem Qx.k {H:Hp} {a:Addr} {kvs:List (Key × V)} {k:Key} {v:V} (e:H a=some (.dK kvs)) (hl:kvs.length<sizeLine):Qx H a (kV k) v (upd H a (.dK (putK kvs k v))):=.inl ⟨kvs,k,e,rfl,hl,rfl⟩
section
variable {X:Cx} {pins:List (Addr × Obj)} {σ:St} {H:Hp} {s:Shared} {a:Addr} {y v:V} {u r:Value} {o:Option V} {A:Around} {E:Value->Shared->Prop}
theorem Inv.big (I:Inv X pins σ H s):sysModules<s.heap.objs.size:=by
 have h:mainGlobals<s.heap.objs.size:=(I.mod.glob.keeps I.bk).lt
 exact Nat.lt_trans (by decide) h
theorem Qh {Q:Value->Shared->Prop} (hu:A.units+1<cLine) (I:Inv X pins σ H s) (g:GF H a y (some v)) (ry:RelV y u) (h:∀ w' s',Inv X pins σ H s'->RelV v w'->Q w' s') :
  wpAny (model X.prog X.w) A (getItem (.ref a) u) Q E s:=by
 rcases g with ⟨kvs,k,e,ey,l⟩ | ⟨kvs,k,b,e,ey,eb,l⟩
 ·subst ey
  obtain ⟨z,hd,vs,rel,dd⟩:=M9 I.hok e
  obtain ⟨w',hw,rw'⟩:=Hc.some_of (v:=v) (o:=valueAt vs k) (by rw [l]; exact rel.val k)
  exact wpAny_getItem_of (Kv ry) dd.mapOf hw (h w' _ (I.tok _) rw')
 ·subst ey
  cases (show u=Value.ref b from ry)
  obtain ⟨z,hd,xs,rel,dd⟩:=Mp I.hok e
  obtain ⟨w',hw,rw'⟩:=Hc.some_of (v:=v) (o:=(atKey xs k).map (·.2)) (by rw [l]; exact rel.val k)
  obtain ⟨p,hp,hp2⟩:=Option.map_eq_some_iff.mp hw
  refine wpAny_getItem_heap (tupleKind_room_in1 hu) (Jw I.hok eb) dd hp ?_
  rw [hp2]
  exact h w' _ (I.tok _) rw'
theorem jC {Q:Value->Shared->Prop} (hu:A.units+1<cLine) (I:Inv X pins σ H s) (g:GF H a y o) (ry:RelV y u) (h:∀ s',Inv X pins σ H s'->Q (.bool o.isSome) s') :
  wpAny (model X.prog X.w) A (compareOp .In u (.ref a)) Q E s:=by
 rcases g with ⟨kvs,k,e,ey,l⟩ | ⟨kvs,k,b,e,ey,eb,l⟩
 ·subst ey
  obtain ⟨z,hd,vs,rel,dd⟩:=M9 I.hok e
  refine wpAny_in_of (Kv ry) hd dd.mapOf ?_
  rw [← (rel.val k).Gg,← l]
  exact h _ (I.tok _)
 ·subst ey
  cases (show u=Value.ref b from ry)
  obtain ⟨z,hd,xs,rel,dd⟩:=Mp I.hok e
  refine wpAny_in_heap (tupleKind_room_in1 hu) (Jw I.hok eb) hd dd ?_
  have q:=(rel.val k).Gg
  rw [Option.isSome_map] at q
  rw [← q,← l]
  exact h _ (I.tok _)
theorem VR {Q:Value->Shared->Prop} (hu:A.units+1<cLine) (I:Inv X pins σ H s) (g:GF H a y o) (ry:RelV y u) (h:∀ s',Inv X pins σ H s'->Q (.bool (!o.isSome)) s') :
  wpAny (model X.prog X.w) A (compareOp .NotIn u (.ref a)) Q E s:=by
 rcases g with ⟨kvs,k,e,ey,l⟩ | ⟨kvs,k,b,e,ey,eb,l⟩
 ·subst ey
  obtain ⟨z,hd,vs,rel,dd⟩:=M9 I.hok e
  refine wpAny_notIn_of (Kv ry) hd dd.mapOf ?_
  rw [← (rel.val k).Gg,← l]
  exact h _ (I.tok _)
 ·subst ey
  cases (show u=Value.ref b from ry)
  obtain ⟨z,hd,xs,rel,dd⟩:=Mp I.hok e
  refine wpAny_notIn_heap (tupleKind_room_in1 hu) (Jw I.hok eb) hd dd ?_
  have q:=(rel.val k).Gg
  rw [Option.isSome_map] at q
  rw [← q,← l]
  exact h _ (I.tok _)
theorem Le {h':Heap} {t':Nat} {ob:HO} (I:Inv X pins σ H s) (mu:Zt (H a)) (hs:Heap.SameBut a s.heap h') (he:∃ q,h'.get? a=some q) (new:Ce X.prog X.w (upd H a ob) h' a ob) :
  Inv X pins σ (upd H a ob) { s with heap:=h',toks:=t' } :=
 I.write (x:=a) (e:=a) mu (.inl rfl) (fun b q hb z=>(hs.2 b hb).trans z) he new
theorem Td {P:Program} {w:World} {H':Hp} {h':Heap} {kvs:List (Key × V)} {vs:List (Key × Value)} (z:kvs.length<=sizeLine) (hd:(a == sysModules)=false) (rel:KV kvs vs) (dd:h'.DictOf (Ck P w) a vs) :
  Ce P w H' h' a (.dK kvs):=⟨z,hd,vs,rel,dd⟩
theorem RG {H':Hp} {Q:Unit->Shared->Prop} (hu:A.units+1<cLine) (I:Inv X pins σ H s) (g:Qx H a y v H') (ry:RelV y u) (rv:RelV v r) (h:∀ s',Inv X pins σ H' s'->Q () s') :
  wpAny (model X.prog X.w) A (setItem (.ref a) u r) Q E s:=by
 rcases g with ⟨kvs,k,e,ey,l,eH⟩ | ⟨kvs,k,b,e,ey,eb,l,eH⟩
 ·subst ey eH
  obtain ⟨z,hd,vs,rel,dd⟩:=Wv I.hok e
  have hz:vs.length<=sizeLine:=by rw [← rel.length]; exact z
  have hl:(putK kvs k v).length<=sizeLine:=by have:=Fz kvs k v; omega
  refine wpAny_setItem_pairs (hsz:=hz) (Kv ry) dd fun h' dd' hs=>h _ ?_
  have he:∃ q,h'.get? a=some q:=let ⟨q,_,_,hq,_⟩:=dd'; ⟨q,hq⟩
  exact Le I (by rw [e]; exact True.intro) hs he (Td hl hd (rel.put k rv) dd')
 ·subst ey eH
  cases (show u=Value.ref b from ry)
  obtain ⟨z,hd,xs,rel,dd⟩:=cj I.hok e
  have hz:xs.length<=sizeLine:=by rw [← Paired.length rel]; exact z
  have hl:(putK kvs k v).length<=sizeLine:=by have:=Fz kvs k v; omega
  refine wpAny_setItem_heap (hsz:=hz) (tupleKind_room_in1 hu) (Jw I.hok eb) dd fun h' dd' hs=>h _ ?_
  obtain ⟨q,es,ep,hq,h2,h3,h4,_,h5⟩:=dd'
  refine Le I (by rw [e]; exact True.intro) hs ⟨q,hq⟩ ⟨hl,hd,_,(rel.put k eb rv).keeps fun c ys ec=>?_,q,es,ep,hq,h2,h3,h4,h5⟩
  rw [BW (W4 ec e (fun z=>nomatch z))]
  exact ec
end
section
variable {X:Cx} {pins:List (Addr × Obj)} {σ:St} {H:Hp} {s:Shared} {a:Addr} {kvs:List (Key × V)} {k:Key} {u:Value} {A:Around} {E:Value->Shared->Prop}
end
noncomputable def Xv (i:Expr):Prop:=∀ ov iv,subscripted i false ov iv=operate [ov,iv] (getItem ov iv)
theorem QR {prog:Program} {w:World} {A:Around} {E:Value->Shared->Prop} {s:Shared} {env:Env} {value slice:Expr} {pos:Pos} {T id:String} {Q:Value->Shared->Prop}
  (hl:typeLookup (.type T) "__getitem__" = pure (some (.builtin id))) (hs:Xv slice)
  (h:wpAny (model prog w) A (eval value env) (fun o s₁=>wpAny (model prog w) A (eval slice env) (fun i s₂=>s₂.TypeIs o T/\wpAny (model prog w) A (getItem o i) Q E s₂) E s₁) E s) :
  wpAny (model prog w) A (eval (.Subscript value slice pos) env) Q E s:=by
 refine Subscript_ (wpAny_mono h (fun o s₁ h₁=>wpAny_mono h₁ (fun i s₂ h₂=>?_) fun _ _ x=>x) fun _ _ x=>x)
 obtain ⟨hT,h₂⟩:=h₂
 unfold subscriptTail
 refine wpAny_bind ?_
 rw [getitemInPython_of_ne hT.not_modules]
 refine wpAny_bind (wpAny_specialOf hT hl ?_)
 have fin:wpAny (model prog w) A (subscripted slice false o i) (fun r s₃=>wpAny (model prog w) A (letTemporaryGo value o r >>= fun _=>pure r) Q E s₃) E s₂:=by
  rw [hs o i]
  exact wpAny_operating (wpAny_mono h₂ (fun r s₃ h₃=>wpAny_bind (wpAny_letTemporaryGo (wpAny_pure h₃))) fun _ _ x=>x)
 first
  | exact wpAny_pure (wpAny_bind fin)
  | exact wpAny_bind (wpAny_pure (wpAny_bind fin))
  | exact wpAny_bind fin
theorem NQ {X:Cx} {pins:List (Addr × Obj)} {σ:St} {H:Hp} {s:Shared} {a:Addr} {y:V} {o:Option V} (I:Inv X pins σ H s) (g:GF H a y o):s.TypeIs (.ref a) "dict":=by
 rcases g with ⟨kvs,k,e,_,_⟩ | ⟨kvs,k,b,e,_,_,_⟩
 ·obtain ⟨_,_,vs,_,dd⟩:=M9 I.hok e
  exact dd.typeIs
 ·obtain ⟨_,_,xs,_,dd⟩:=Mp I.hok e
  exact dd.typeIs
noncomputable def Z1 (td ty:TE):TE:=fun σ H Q=>td σ H fun x H1=>ty σ H1 fun y H2=>∃ a v,x=.ref a/\GF H2 a y (some v)/\Q v H2
noncomputable def kO (ty td:TE):TE:=fun σ H Q=>ty σ H fun y H1=>td σ H1 fun x H2=>∃ a o,x=.ref a/\GF H2 a y o/\Q (.bl o.isSome) H2
noncomputable def VB (ty td:TE):TE:=fun σ H Q=>ty σ H fun y H1=>td σ H1 fun x H2=>∃ a o,x=.ref a/\GF H2 a y o/\Q (.bl (!o.isSome)) H2
noncomputable def Zf (td ty tv:TE):TS:=fun D σ H=>tv σ H fun v H1=>td σ H1 fun x H2=>ty σ H2 fun y H3=>∃ a H4,x=.ref a/\Qx H3 a y v H4/\D.nx σ H4
section
variable {X:Cx} {o i e value:Expr} {pos pos' tpos:Pos} {td ty tv:TE}
theorem Ek (hu:X.A.units+1<cLine) (ho:PE X o td) (hi:PE X i ty) (hs:Xv i):PE X (.Subscript o i pos) (Z1 td ty):=by
 intro pins s σ H Q I h
 refine QR PySem.F.slot_dict_getitem.lookup hs (CJ (ho pins s σ H _ I h) fun u s1 ⟨x,H1,I1,rx,q1⟩=>CJ (hi pins s1 σ H1 _ I1 q1) fun iv s2 hq0=>?_)
 obtain ⟨y,H2,I2,ry,a,v,ex,g,q2⟩:=hq0
 subst ex
 obtain rfl:u=Value.ref a:=rx
 exact ⟨NQ I2 g,Qh hu I2 g ry fun w' s3 I3 rw'=>⟨v,H2,I3,rw',q2⟩⟩
theorem YQ (hu:X.A.units+1<cLine) (hi:PE X i ty) (ho:PE X o td):PC X .In i o (kO ty td):=by
 intro pins s σ H Q I h
 refine CJ (hi pins s σ H _ I h) fun iv s1 ⟨y,H1,I1,ry,q1⟩=>CJ (ho pins s1 σ H1 _ I1 q1) fun u s2 hq0=>?_
 obtain ⟨x,H2,I2,rx,a,ov,ex,g,q2⟩:=hq0
 subst ex
 obtain rfl:u=Value.ref a:=rx
 exact jC hu I2 g ry fun s3 I3=>⟨.bl ov.isSome,H2,I3,rfl,q2⟩
theorem Qg (hu:X.A.units+1<cLine) (hi:PE X i ty) (ho:PE X o td):PC X .NotIn i o (VB ty td):=by
 intro pins s σ H Q I h
 refine CJ (hi pins s σ H _ I h) fun iv s1 ⟨y,H1,I1,ry,q1⟩=>CJ (ho pins s1 σ H1 _ I1 q1) fun u s2 hq0=>?_
 obtain ⟨x,H2,I2,rx,a,ov,ex,g,q2⟩:=hq0
 subst ex
 obtain rfl:u=Value.ref a:=rx
 exact VR hu I2 g ry fun s3 I3=>⟨.bl (!ov.isSome),H2,I3,rfl,q2⟩
theorem QK (hu:X.A.units+1<cLine) (ho:PE X o td) (hi:PE X i ty) (hv:PE X value tv) (hs:swapsWith value (some (.Subscript o i pos')) pos.line X.env=pure false) :
  PS X (.Assign [.Subscript o i pos'] value pos) (Zf td ty tv):=by
 intro pins s σ H D I h
 refine wpAny_Assign_Subscript (CJ (hv pins s σ H _ I h) fun r s1 ⟨v,H1,I1,rv,q1⟩=>CJ (ho pins s1 σ H1 _ I1 q1) fun u s2 ⟨x,H2,I2,rx,q2⟩=>CJ (hi pins s2 σ H2 _ I2 q2) fun iv s3 ⟨y,H3,I3,ry,a,H4,ex,g,q3⟩=>?_) hs
 subst ex
 obtain rfl:u=Value.ref a:=rx
 exact RG hu I3 g ry rv fun s4 I4=>⟨σ,H4,I4,q3⟩
end
theorem NK {P:Program} {w:World} {H:Hp} (h:Heap) (hb:sysModules<h.objs.size):Ce P w H (h.push { cls:=.type "dict",data:=.dict #[] }) h.objs.size (.dK []) :=
 ⟨Nat.zero_le _,beq_eq_false_iff_ne.mpr (Ne.symm (Nat.ne_of_lt hb)),[],.nil,Heap.DictOf.new h⟩
noncomputable def Ym:TE:=fun _ H Q=>∀ p,H p=none->Q (.ref p) (upd H p (.dK []))
section
variable {X:Cx} {pos:Pos}
theorem NB:PE X (.Dict [] [] pos) Ym:=fun pins s σ H Q I h =>
 wpAny_Dict_empty ⟨.ref s.heap.objs.size,_,I.laid (a:=s.heap.objs.size) (o:=.dK []) (t':=s.toks) (fun _ _ q=>Heap.get?_push_of_some _ q) (Nat.le_refl _) (NK s.heap I.big),rfl,h _ (I.hok.fresh (Nat.le_refl _))⟩
end
noncomputable def Nv:List (TE × TE)->St->Hp->(List (V × V)->Hp->Prop)->Prop
 | [],_,H,Q=>Q [] H
 | (tk,tv)::r,σ,H,Q=>tk σ H fun x H1=>tv σ H1 fun y H2=>Nv r σ H2 fun ps H3=>Q ((x,y)::ps) H3
noncomputable abbrev VV:List (V × V)->List (Value × Value)->Prop:=Paired fun p q=>RelV p.1 q.1/\RelV p.2 q.2
noncomputable def fc (X:Cx) (pos:Pos) (keys:List (Option Expr)) (values:List Expr) (trs:List (TE × TE)):Prop :=
 ∀ (pins:List (Addr × Obj)) (s:Shared) (σ:St) (H:Hp) (Q:List (V × V)->Hp->Prop),Inv X pins σ H s->Nv trs σ H Q ->
  wpAny (model X.prog X.w) X.A (evalPairs (pairTrees keys values X.env pos)) (fun vs s'=>∃ ps H',Inv X pins σ H' s'/\VV ps vs/\Q ps H') X.xe s
theorem Vj {X:Cx} {pos:Pos}:fc X pos [] [] []:=fun pins s σ H Q I h=>pairTrees_nil_walk ⟨[],H,I,.nil,h⟩
theorem KR {X:Cx} {pos:Pos} {k v:Expr} {ks:List (Option Expr)} {vs:List Expr} {tk tv:TE} {trs:List (TE × TE)} (hk:PE X k tk) (hv:PE X v tv) (hr:fc X pos ks vs trs) :
  fc X pos (some k::ks) (v::vs) ((tk,tv)::trs):=fun pins s σ H Q I h =>
 pairTrees_cons_walk (CJ (hk pins s σ H _ I h) fun u s1 ⟨x,H1,I1,rx,q1⟩=>CJ (hv pins s1 σ H1 _ I1 q1) fun w2 s2 ⟨y,H2,I2,ry,q2⟩ =>
  CJ (hr pins s2 σ H2 _ I2 q2) fun ws s3 ⟨ps,H3,I3,rel,q3⟩=>⟨(x,y)::ps,H3,I3,.cons ⟨rx,ry⟩ rel,q3⟩)
noncomputable def GP (kvs more:List (Key × V)):List (Key × V):=more.foldl (fun acc kv=>putK acc kv.1 kv.2) kvs
theorem KV.merge:∀ {more:List (Key × V)} {rs:List (Key × Value)} {kvs:List (Key × V)} {vs:List (Key × Value)},KV more rs->KV kvs vs->KV (GP kvs more) (merged vs rs):=by
 intro more rs kvs vs r
 unfold KV at r
 induction r generalizing kvs vs with
 | nil=>intro q; exact q
 | @cons p q ps qs h t ih =>
  intro r0
  have e:KV (putK kvs p.1 p.2) (stored vs q.1 q.2):=by
   have:=r0.put p.1 h.2
   rw [← h.1]; exact this
  exact ih e
theorem Hr:∀ (more kvs:List (Key × V)),(GP kvs more).length<=kvs.length+more.length
 | [],kvs=>by show kvs.length<=kvs.length+0; omega
 | p::r,kvs=>by
  have h1:=Hr r (putK kvs p.1 p.2)
  have h2:=Fz kvs p.1 p.2
  show (GP (putK kvs p.1 p.2) r).length<=_
  rw [List.length_cons]; omega
theorem J9 {P:Program} {w:World}:∀ {kvs:List (Key × V)} {ws:List (Value × Value)},VV (kvs.map fun kv=>(kV kv.1,kv.2)) ws->∃ rs,Carries (Ck P w) ws rs/\KV kvs rs
 | [],_,r=>by rw [List.map_nil] at r; cases r; exact ⟨[],True.intro,.nil⟩
 | p::kvs,_,r=>by
  rw [List.map_cons] at r
  cases r with
  | @cons a b as bs h t =>
   obtain ⟨rs,c,q⟩:=J9 (P:=P) (w:=w) t
   obtain ⟨b1,b2⟩:=b
   exact ⟨(p.1,b2)::rs,⟨Kv h.1,rfl,c⟩,.cons ⟨rfl,h.2⟩ q⟩
noncomputable def Y7 (trs:List (TE × TE)):TE:=fun σ H Q=>∀ p,H p=none->Nv trs σ (upd H p (.dK [])) fun ps H2=>H2 p=some (.dK [])/\∃ kvs:List (Key × V),ps=kvs.map (fun kv=>(kV kv.1,kv.2))/\kvs.length<=15/\Q (.ref p) (upd H2 p (.dK (GP [] kvs)))
theorem Uy {X:Cx} {pos:Pos} {keys:List (Option Expr)} {values:List Expr} {trs:List (TE × TE)} (h:fc X pos keys values trs) (hall:keys.all (·.isSome)=true) (hl:keys.length=values.length) (h0:keys ≠ [])
  (h15:keys.length<=15):PE X (.Dict keys values pos) (Y7 trs):=by
 intro pins s σ H Q I q
 have hn:=I.hok.fresh (Nat.le_refl s.heap.objs.size)
 have I1:=I.laid (a:=s.heap.objs.size) (o:=.dK []) (h':=s.heap.push { cls:=.type "dict",data:=.dict #[] }) (t':=s.toks) (fun _ _ q=>Heap.get?_push_of_some _ q) (Nat.le_refl _) (NK s.heap I.big)
 refine wpAny_Dict_walk (knd:=Ck X.prog X.w) hall hl h0 h15 (CJ (h pins _ σ _ _ I1 (q _ hn)) fun ws s2 hq0=>?_)
 obtain ⟨ps,H2,I2,rel,e,kvs,ep,lk,q2⟩:=hq0
 subst ep
 obtain ⟨rs,c,rk⟩:=J9 (P:=X.prog) (w:=X.w) rel
 obtain ⟨z,hd,vs0,r0,dd⟩:=Wv I2.hok e
 cases r0
 refine ⟨rs,c,dd,fun h' dd' hs=>⟨.ref s.heap.objs.size,_,?_,rfl,q2⟩⟩
 have hz:(GP [] kvs).length<=sizeLine:=by
  have h1:=Hr kvs []
  rw [List.length_nil] at h1
  rw [sizeLine_eq]; omega
 have he:∃ q,h'.get? s.heap.objs.size=some q:=let ⟨q,_,_,hq,_⟩:=dd'; ⟨q,hq⟩
 exact Le I2 (by rw [e]; exact True.intro) hs he (Td hz hd (rk.merge .nil) dd')
section
variable {X:Cx} {pins:List (Addr × Obj)} {σ:St} {H:Hp} {s:Shared} {a:Addr} {y d:V} {u r:Value} {o:Option V} {A:Around} {E:Value->Shared->Prop}
end
section
variable {X:Cx} {o e f:Expr} {apos cpos:Pos} {td ty tx:TE}
end
section
variable {X:Cx} {pins:List (Addr × Obj)} {σ:St} {H:Hp} {s:Shared} {a:Addr} {kvs:List (Key × V)} {A:Around} {E:Value->Shared->Prop}
end
section
variable {X:Cx} {pins:List (Addr × Obj)} {σ:St} {H:Hp} {s:Shared} {a:Addr} {y:V} {u:Value} {A:Around} {E:Value->Shared->Prop}
end
end L2
namespace HT
open PySem PyProof.Rows
section
open PySem.SeqAt
open PySem.AutoSeq1 (wpAny_loadPart')
open PySem.MeetsSeq PySem.MeetsSeq2 PySem.MeetsSeq3
end
section
variable {prog:Program} {w:World} {A:Around} {E:Value->Shared->Prop} {s:Shared}
noncomputable def Ed (n d:Nat):Option Int->Nat
 | none=>d
 | some v=>if v<0 then (v+(n:Int)).toNat else min v.toNat n
theorem Tn (n d:Nat):Ed n d none=d:=rfl
theorem LR (n d k:Nat):Ed n d (some (k:Int))=min k n:=by
 show (if (k:Int)<0 then ((k:Int)+(n:Int)).toNat else min (k:Int).toNat n)=min k n
 rw [if_neg (by omega),Int.toNat_natCast]
theorem YS (n d:Nat) (hd:d<=n) (o:Option Int):Ed n d o<=n:=by
 cases o with
 | none=>exact hd
 | some v =>
  show (if v<0 then (v+(n:Int)).toNat else min v.toNat n)<=n
  by_cases hv:v<0
  ·rw [if_pos hv]; omega
  ·rw [if_neg hv]; exact Nat.min_le_right _ _
theorem QB (v:Int) (n d:Nat):(if v<0 then max (v+(n:Int)) 0 else min v (n:Int))=((Ed n d (some v):Nat):Int):=by
 show (if v<0 then max (v+(n:Int)) 0 else min v (n:Int))=(((if v<0 then (v+(n:Int)).toNat else min v.toNat n):Nat):Int)
 by_cases hv:v<0
 ·simp only [if_pos hv]; omega
 ·simp only [if_neg hv]; omega
theorem Oq (lo hi:Option Int) (n:Nat):Builtin.Slice.sliceAdjust lo hi 1 (n:Int)=(((Ed n 0 lo:Nat):Int),((Ed n n hi:Nat):Int)):=by
 have h1:¬ ((1:Int)<0):=by omega
 unfold Builtin.Slice.sliceAdjust
 simp only [h1,if_false]
 refine Prod.ext ?_ ?_
 ·cases lo with
  | none=>rfl
  | some v=>exact QB v n 0
 ·cases hi with
  | none=>rfl
  | some v=>exact QB v n n
theorem N6 (i j:Nat):Builtin.Slice.slicePlaces (i:Int) (j:Int) 1=j - i:=by
 unfold Builtin.Slice.slicePlaces
 have h1:(1:Int) > 0:=by omega
 simp only [h1,if_true,Int.ediv_one]
 split <;> omega
theorem KN {v:Value} {o:Option Int} {Q:Option Int->Shared->Prop} (p:IsPart v o) (h:Q o s):wpAny (model prog w) A (Builtin.Slice.slicePartIndex v) Q E s:=by
 cases p with
 | none=>exact slicePart_none h
 | int i t=>exact slicePart_int h
theorem JL {sl:Addr} {vl vu:Value} {lo hi:Option Int} {n:Nat} {Q:Int × Int × Nat->Shared->Prop} (hs:s.heap.IsSliceOf sl vl vu .none) (pl:IsPart vl lo) (pu:IsPart vu hi)
  (h:Q (((Ed n 0 lo:Nat):Int),1,Ed n n hi - Ed n 0 lo) s):wpAny (model prog w) A (Builtin.Slice.sliceApplied (.ref sl) (pure (n:Int))) Q E s:=by
 obtain ⟨os,hos,hcs,hds⟩:=id hs
 unfold Builtin.Slice.sliceApplied Builtin.Slice.sliceFields
 refine wpAny_bind (wpAny_bind (wpAny_field hos hds (x:=vl) rfl (wpAny_bind (wpAny_field hos hds (x:=vu) rfl (wpAny_bind (wpAny_field hos hds (x:=.none) rfl (wpAny_pure ?_)))))))
 refine wpAny_bind (slicePart_none ?_)
 show wpAny _ _ (if ((1:Int) == 0)=true then _ else _) _ _ s
 rw [if_neg (by decide)]
 refine wpAny_bind (KN pl (wpAny_bind (KN pu (wpAny_bind (wpAny_pure ?_)))))
 show wpAny _ _ (match Builtin.Slice.sliceAdjust lo hi 1 (n:Int) with | (lo,hi)=>pure (lo,(1:Int),Builtin.Slice.slicePlaces lo hi 1)) _ _ s
 rw [Oq lo hi n]
 show wpAny _ _ (pure (((Ed n 0 lo:Nat):Int),(1:Int),Builtin.Slice.slicePlaces ((Ed n 0 lo:Nat):Int) ((Ed n n hi:Nat):Int) 1)) _ _ s
 rw [N6]
 exact wpAny_pure h
theorem Rq (xs:Array Value) (i k:Nat):((List.range k).filterMap fun (m:Nat)=>xs[((i:Int)+(m:Int) * 1).toNat]?).toArray=((xs.toList.drop i).take k).toArray:=by
 have e:(fun (m:Nat)=>xs[((i:Int)+(m:Int) * 1).toNat]?)=fun m=>xs[i+m]?:=by
  funext m
  have:((i:Int)+(m:Int) * 1).toNat=i+m:=by omega
  rw [this]
 rw [e]
 have:=pick_run xs i k
 rw [List.filterMap_map] at this
 have e2:((fun x=>xs[x]?) ∘ fun x=>i+x)=fun m=>xs[i+m]?:=rfl
 rw [e2] at this
 rw [this]
theorem Ig {t sl:Addr} {items:Array Value} {vl vu:Value} {lo hi:Option Int} {Q:Value->Shared->Prop} (ht:IsTup s.heap t items) (hs:s.heap.IsSliceOf sl vl vu .none) (pl:IsPart vl lo) (pu:IsPart vu hi)
  (hw:¬ (Ed items.size 0 lo=0/\Ed items.size items.size hi=items.size))
  (h:Q (.ref s.heap.objs.size) { s with heap:=s.heap.push { cls:=.type "tuple",data:=.seq ((items.toList.drop (Ed items.size 0 lo)).take (Ed items.size items.size hi - Ed items.size 0 lo)).toArray } })
  (hsz:items.size<=sizeLine):wpAny (model prog w) A (getItem (.ref t) (.ref sl)) Q E s:=by
 have htake:sizeOk (.seq ((items.toList.drop (Ed items.size 0 lo)).take (Ed items.size items.size hi - Ed items.size 0 lo)).toArray):=by
  show ((items.toList.drop (Ed items.size 0 lo)).take (Ed items.size items.size hi - Ed items.size 0 lo)).toArray.size<=sizeLine
  rw [List.size_toArray,List.length_take,List.length_drop,Array.length_toList]
  omega
 have hj:Ed items.size items.size hi<=items.size:=YS _ _ (Nat.le_refl _) hi
 obtain ⟨os,hos,hcs,hds⟩:=id hs
 have hTs:s.TypeIs (.ref sl) "slice":=⟨os,hos,hcs⟩
 unfold getItem
 try with_reducible refine wpAny_holding ?_
 first | refine wpAny_bind (wpAny_pure ?_) | skip
 refine wpAny_bind (wpAny_sequenceKey ht.typeIs (by decide) ?_)
 refine wpAny_bind (wpAny_callSpecial?_slot (name:=Str.ofString "__getitem__") ht.typeIs PyProof.Rows.slot_tuple_getitem
  (wpAny_call_entry PyProof.Rows.slot_tuple_getitem ht.typeIs entry_tuple_getitem ?_ (args_tuple_getitem _ _)))
 show wpAny _ _ (Builtin.Tuple.tupleItemsOf (.ref t) >>= _) _ _ s
 refine wpAny_bind (tupleItemsOf_ ht ?_)
 refine wpAny_bind (wpAny_typeOf hTs ?_)
 rw [if_pos (by decide)]
 refine wpAny_bind (JL hs pl pu ?_)
 have hno:¬ ((((Ed items.size 0 lo:Nat):Int) == 0 && (1:Int) == 1 && (Ed items.size items.size hi - Ed items.size 0 lo) == items.size)=true):=by
  intro q
  rw [Bool.and_eq_true,Bool.and_eq_true] at q
  have q1:((Ed items.size 0 lo:Nat):Int)=0:=eq_of_beq q.1.1
  have q2:Ed items.size items.size hi - Ed items.size 0 lo=items.size:=eq_of_beq q.2
  exact hw ⟨by omega,by omega⟩
 show wpAny _ _ (if (((Ed items.size 0 lo:Nat):Int) == 0 && (1:Int) == 1 && (Ed items.size items.size hi - Ed items.size 0 lo) == items.size)=true then _ else _) _ _ s
 rw [if_neg hno,Rq]
 first
  | exact wpAny_bind (m:=Builtin.Tuple.tupleExact _) (wpAny_newObj_type (wpAny_pure ⟨_,rfl,wpAny_pure h⟩) htake)
  | exact wpAny_bind (m:=Builtin.Tuple.tupleExact _) (wpAny_newObj_type (wpAny_bind (wpAny_pure (wpAny_pure ⟨_,rfl,wpAny_pure h⟩))) htake)
  | exact wpAny_bind (wpAny_bind (m:=Builtin.Tuple.tupleExact _) (wpAny_newObj_type (wpAny_pure (wpAny_pure ⟨_,rfl,wpAny_pure h⟩)) htake))
  | exact wpAny_bind (wpAny_bind (m:=Builtin.Tuple.tupleExact _) (wpAny_newObj_type (wpAny_pure ⟨_,rfl,wpAny_pure h⟩) htake))
end
end HT
namespace L2
open PySem PySem.Spec PyProof.Rows
noncomputable abbrev TO:=St->Hp->(Option Int->Hp->Prop)->Prop
noncomputable def PO (X:Cx) (e:Option Expr) (t:TO):Prop :=
 ∀ (pins:List (Addr × Obj)) (s:Shared) (σ:St) (H:Hp) (Q:Option Int->Hp->Prop),Inv X pins σ H s->t σ H Q ->
  wpAny (model X.prog X.w) X.A (evalPart e X.env) (fun u s'=>∃ o H',Inv X pins σ H' s'/\IsPart u o/\Q o H') X.xe s
noncomputable def VL:TO:=fun _ H Q=>Q none H
noncomputable def ZX (t:TE):TO:=fun σ H Q=>t σ H fun x H1=>∃ i,x=.int i/\Q (some i) H1
section
variable {X:Cx} {e:Expr} {te:TE} {lo hi:Option Expr} {tl th:TO} {pos p2:Pos}
theorem Ez:PO X none VL:=by
 intro pins s σ H Q I h
 rw [evalPart_none]
 exact wpAny_pure ⟨none,H,I,.none,h⟩
theorem Cv (h:PE X e te):PO X (some e) (ZX te):=by
 intro pins s σ H Q I hw
 rw [evalPart_some]
 refine CJ (h pins s σ H _ I hw) fun u s1 hq0=>?_
 obtain ⟨x,H1,I1,r1,q1⟩:=hq0
 obtain ⟨i,rfl,q⟩:=q1
 obtain ⟨t,rfl⟩:=r1
 exact ⟨some i,H1,I1,.int i t,q⟩
noncomputable def eG (X:Cx) (r:V->Option Int->Option Int->Hp->VK->Prop):Prop :=
 ∀ (pins:List (Addr × Obj)) (s:Shared) (σ:St) (H:Hp) (x:V) (v vl vu:Value) (lo hi:Option Int) (sl:Addr) (Q:VK),Inv X pins σ H s->RelV x v->s.heap.IsSliceOf sl vl vu .none->IsPart vl lo->IsPart vu hi->r x lo hi H Q ->
  ∃ T id,typeLookup (.type T) "__getitem__" = pure (some (.builtin id))/\s.TypeIs v T/\wpAny (model X.prog X.w) X.A (getItem v (.ref sl)) (EP X pins σ Q) X.xe s
noncomputable def mH (r:V->Option Int->Option Int->Hp->VK->Prop) (te:TE) (tl th:TO):TE:=fun σ H Q=>te σ H fun x H1=>tl σ H1 fun l H2=>th σ H2 fun u H3=>r x l u H3 Q
theorem Dt {r:V->Option Int->Option Int->Hp->VK->Prop} (hr:eG X r) (he:PE X e te) (hl:PO X lo tl) (hu:PO X hi th):PE X (.Subscript e (.Slice lo hi none p2) pos) (mH r te tl th):=by
 intro pins s σ H Q I h
 refine Subscript_ (CJ (he pins s σ H _ I h) fun v s1 hq0=>?_)
 obtain ⟨x,H1,I1,r1,q1⟩:=hq0
 refine wpAny_Slice (CJ (hl pins s1 σ H1 _ I1 q1) fun vl s2 ⟨l,H2,I2,pl,q2⟩=>CJ (hu pins s2 σ H2 _ I2 q2) fun vu s3 hq0=>?_)
 obtain ⟨u,H3,I3,pu,q3⟩:=hq0
 rw [evalPart_none]
 refine wpAny_pure ?_
 have I4:Inv X pins σ H3 { s3 with heap:=s3.heap.push { cls:=.type "slice",data:=.fields #[vl,vu,.none] } }:=I3.kept (t':=s3.toks) fun b ob q=>Heap.get?_push_of_some _ q
 obtain ⟨T,id,hT,ht,hg⟩:=hr pins { s3 with heap:=s3.heap.push { cls:=.type "slice",data:=.fields #[vl,vu,.none] } } σ H3 x v vl vu l u s3.heap.objs.size Q I4 r1 (Heap.IsSliceOf.new ..) pl pu q3
 show wpAny (model X.prog X.w) X.A (subscriptTail e (.Slice lo hi none p2) v (.ref s3.heap.objs.size)) (EP X pins σ Q) X.xe { s3 with heap:=s3.heap.push { cls:=.type "slice",data:=.fields #[vl,vu,.none] } }
 exact tail_any (ops:=[.ref s3.heap.objs.size,v]) ht hT hg (by with_unfolding_all rfl)
noncomputable def De (xs:List V) (lo hi:Option Int):List V:=(xs.drop (HT.Ed xs.length 0 lo)).take (HT.Ed xs.length xs.length hi - HT.Ed xs.length 0 lo)
theorem Ja (xs:List V) (lo hi:Option Int):(De xs lo hi).length<=xs.length:=by
 unfold De
 rw [List.length_take,List.length_drop]
 omega
noncomputable def jZ (K:PySem.W.Frag):V->Option Int->Option Int->Hp->VK->Prop:=fun x lo hi H Q=>∃ a xs,x=.ref a/\IV K H a xs /\
 ¬ (HT.Ed xs.length 0 lo=0/\HT.Ed xs.length xs.length hi=xs.length)/\∀ p,H p=none->Q (.ref p) (upd H p (.tup (De xs lo hi)))
theorem YG:eG X (jZ X.K):=by
 intro pins s σ H x v vl vu lo hi sl Q I rx hs pl pu h
 obtain ⟨a,xs,rfl,hx,hw,q⟩:=h
 cases rx
 obtain ⟨its,r,ht,hz⟩:=I.tuple hx
 have hlen:its.toArray.size=xs.length:=by rw [List.size_toArray]; exact r.length.symm
 refine ⟨"tuple",_,PyProof.Rows.slot_tuple_getitem.lookup,ht.typeIs,?_⟩
 refine HT.Ig ht hs pl pu (by rw [hlen]; exact hw) ?_ (by rw [hlen]; exact hz)
 rw [hlen]
 refine ⟨.ref s.heap.objs.size,_,I.laid (t':=s.toks) (o:=.tup (De xs lo hi)) (fun b ob q=>Heap.get?_push_of_some _ q) (Nat.le_refl _) ?_,rfl,q _ (I.hok.fresh (Nat.le_refl _))⟩
 exact ⟨Nat.le_trans (Ja xs lo hi) hz,_,(r.drop (HT.Ed xs.length 0 lo)).take (HT.Ed xs.length xs.length hi - HT.Ed xs.length 0 lo),IsTup.new _ _⟩
end
end L2
namespace L2
open PySem PySem.Spec PyProof.Rows
noncomputable def Wl (n:Nat) (i:Int):Option Nat:=if 0<=i then (if i<n then some i.toNat else none) else if -(n:Int)<=i then some (i+n).toNat else none
noncomputable def Nb {α:Type} (xs:List α) (i:Int):Option α:=(Wl xs.length i).bind fun j=>xs[j]?
theorem Vw {n:Nat} {i:Int} {j:Nat} (h:Wl n i=some j):seqIndex? i n=some j/\j<n /\ -(n:Int)<=i/\i<n:=by
 unfold Wl at h
 by_cases h0:0<=i
 ·rw [if_pos h0] at h
  by_cases h1:i<n
  ·rw [if_pos h1] at h
   have e:i.toNat=j:=Option.some.inj h
   exact ⟨by rw [seqIndex_of h0 h1,e],by omega,by omega,h1⟩
  ·rw [if_neg h1] at h; cases h
 ·rw [if_neg h0] at h
  by_cases h1 : -(n:Int)<=i
  ·rw [if_pos h1] at h
   have e:(i+n).toNat=j:=Option.some.inj h
   exact ⟨by rw [seqIndex_neg (by omega) h1,e],by omega,h1,by omega⟩
  ·rw [if_neg h1] at h; cases h
theorem Lx {α:Type} {xs:List α} {i:Int} {v:α} (h:Nb xs i=some v):∃ j,seqIndex? i xs.length=some j/\xs[j]? = some v/\j<xs.length /\ -(xs.length:Int)<=i/\i<xs.length:=by
 unfold Nb at h
 cases e:Wl xs.length i with
 | none=>rw [e] at h; cases h
 | some j =>
  rw [e] at h
  obtain ⟨h1,h2,h3,h4⟩:=Vw e
  exact ⟨j,h1,h,h2,h3,h4⟩
theorem Af {α:Type} {xs:List α} {j:Nat} {v:α} (h:xs[j]? = some v):Nb xs (j:Int)=some v:=by
 have hj:j<xs.length:=(List.getElem?_eq_some_iff.mp h).1
 have e:Wl xs.length (j:Int)=some j:=by
  unfold Wl
  rw [if_pos (by omega),if_pos (by omega)]; simp
 unfold Nb; rw [e]; exact h
noncomputable def Vp (b:Expr):Prop:=∀ o i,subscripted b false o i=operate [o,i] (getItem o i)
noncomputable def Yr (X:Cx) (r:R2):Prop :=
 ∀ (value slice:Expr) (pins:List (Addr × Obj)) (s:Shared) (σ:St) (H:Hp) (x y:V) (v u:Value) (Q:VK),Inv X pins σ H s->RelV x v->RelV y u->r x y H Q ->
  subscripted slice false v u=operate [v,u] (getItem v u)->wpAny (model X.prog X.w) X.A (subscriptTail value slice v u) (EP X pins σ Q) X.xe s
noncomputable def fL (X:Cx) (id:String) (r:V->List V->Hp->VK->Prop):Prop :=
 ∀ (pins:List (Addr × Obj)) (s:Shared) (σ:St) (H:Hp) (x:V) (xs:List V) (v:Value) (us:List Value) (Q:VK),Inv X pins σ H s->RelV x v->Vals xs us->r x xs H Q ->
  wpAny (model X.prog X.w) X.A (call (.builtin id) (v::us)) (EP X pins σ Q) X.xe s
section
variable {X:Cx} {a b:Expr} {ta tb:TE} {pos:Pos}
theorem Am {r:R2} (hr:Yr X r) (ha:PE X a ta) (hb:PE X b tb) (hs:Vp b):PE X (.Subscript a b pos) (Nu r ta tb):=by
 intro pins s σ H Q I h
 exact Subscript_ (Yh ha hb I h fun v u s2 x y H2 I2 rx ry q=>hr a b pins s2 σ H2 x y v u Q I2 rx ry q (hs _ _))
noncomputable def ZV (K:PySem.W.Frag):R2:=fun x y H Q=>∃ p xs i v,x=.ref p/\y=.int i/\CK K H p xs/\Nb xs i=some v/\Q v H
noncomputable def Y8 (K:PySem.W.Frag):R2:=fun x y H Q=>∃ p xs i v,x=.ref p/\y=.int i/\IV K H p xs/\Nb xs i=some v/\Q v H
noncomputable def jd:R2:=fun x y H Q=>∃ z i c,x=.str z/\y=.int i/\z.length<=sizeLine/\Nb z.cps.toList i=some c/\Q (.str ⟨#[c]⟩) H
theorem Eb:Yr X (ZV X.K):=by
 intro value slice pins s σ H x y v u Q I rx ry h hs
 obtain ⟨p,xs,i,z,rfl,rfl,hq,he,q⟩:=h
 cases rx
 obtain ⟨t,rfl⟩:=ry
 obtain ⟨its,r,pl,hz⟩:=I.list hq
 obtain ⟨j,h1,h2,h3,h4,h5⟩:=Lx he
 obtain ⟨w,ew,rw'⟩:=r.get h2
 have hl:=r.length
 have hn:=JD
 have fin:EP X pins σ Q w s:=⟨z,H,I,rw',q⟩
 by_cases h0:0<=i
 ·have hj:i.toNat=j:=by
   rw [seqIndex_of h0 h5] at h1
   exact Option.some.inj h1
  exact item_listR pl.isList h0 (by omega) (by rw [hj]; simpa using ew) fin hs
 ·have hj:(i+(its.toArray.size:Int)).toNat=j:=by
   rw [seqIndex_neg (by omega) h4] at h1
   rw [List.size_toArray,← hl]
   exact Option.some.inj h1
  exact subscriptTail_builtinR (x:=w) pl.isList.typeIs slot_list_getitem.lookup
   (wpAny_getItem_list_neg (Q:=fun r s'=>r=w/\EP X pins σ Q r s') pl.isList (by omega) (by rw [List.size_toArray] <;> omega) (by omega) (by rw [hj]; simpa using ew) ⟨rfl,fin⟩) hs
theorem Yo:Yr X (Y8 X.K):=by
 intro value slice pins s σ H x y v u Q I rx ry h hs
 obtain ⟨p,xs,i,z,rfl,rfl,hq,he,q⟩:=h
 cases rx
 obtain ⟨t,rfl⟩:=ry
 obtain ⟨its,r,pl,hz⟩:=I.tuple hq
 obtain ⟨j,h1,h2,h3,h4,h5⟩:=Lx he
 obtain ⟨w,ew,rw'⟩:=r.get h2
 have hl:=r.length
 have hn:=JD
 have fin:EP X pins σ Q w s:=⟨z,H,I,rw',q⟩
 exact subscriptTail_builtinR (x:=w) pl.typeIs slot_tuple_getitem.lookup
  (getItem_tuple (j:=j) (Q:=fun r s'=>r=w/\EP X pins σ Q r s') pl (by omega) (by omega) (by rw [List.size_toArray,← hl]; exact h1) (by simpa using ew) ⟨rfl,fin⟩) hs
theorem N7:Yr X jd:=by
 intro value slice pins s σ H x y v u Q I rx ry h hs
 obtain ⟨z,i,c,rfl,rfl,hz,he,q⟩:=h
 obtain ⟨t,rfl⟩:=rx
 obtain ⟨t',rfl⟩:=ry
 obtain ⟨j,h1,h2,h3,h4,h5⟩:=Lx he
 have hl:z.cps.toList.length=z.length:=by simp [Str.length]
 rw [hl] at h1 h4 h5
 have hn:=JD
 exact tail_any (typeIs_str s z t) slot_str_getitem.lookup (getItem_str (c:=c) (by
  have e1:decide (i < -(2 ^ 63:Int))=false:=decide_eq_false (by omega)
  have e2:decide (i ≥ 2 ^ 63)=false:=decide_eq_false (by omega)
  rw [e1,e2,Bool.or_false]) (by rw [h1]; simpa using h2) ⟨.str ⟨#[c]⟩,H,I.tok _,⟨_,rfl⟩,q⟩) hs
theorem MJ (lo hi:Option Int) (n:Nat):(sliceBounds lo hi none n).1=((HT.Ed n 0 lo:Nat):Int)/\(sliceBounds lo hi none n).2.1=((HT.Ed n n hi:Nat):Int)/\(sliceBounds lo hi none n).2.2=1:=by
 refine ⟨?_,?_,rfl⟩
 ·cases lo with
  | none=>simp [sliceBounds,HT.Ed]
  | some i =>
   simp only [sliceBounds,HT.Ed,Option.getD_none,show (1:Int) > 0 by decide,if_true]
   by_cases h:i<0
   ·simp only [h,if_true] <;> omega
   ·simp only [h,if_false] <;> omega
 ·cases hi with
  | none=>simp [sliceBounds,HT.Ed]
  | some i =>
   simp only [sliceBounds,HT.Ed,Option.getD_none,show (1:Int) > 0 by decide,if_true]
   by_cases h:i<0
   ·simp only [h,if_true] <;> omega
   ·simp only [h,if_false] <;> omega
theorem KY (its:List Value) (lo hi:Option Int):slicePick its.toArray lo hi none=((its.drop (HT.Ed its.length 0 lo)).take (HT.Ed its.length its.length hi - HT.Ed its.length 0 lo)).toArray:=by
 obtain ⟨h1,h2,h3⟩:=MJ lo hi its.toArray.size
 unfold slicePick
 rw [h1,h2,h3]
 simp only [sliceRange_one,pick_run,List.size_toArray] <;> rfl
noncomputable def jY (K:PySem.W.Frag):V->Option Int->Option Int->Hp->VK->Prop:=fun x lo hi H Q=>∃ a xs,x=.ref a/\CK K H a xs/\∀ p,H p=none->Q (.ref p) (upd H p (.lst (De xs lo hi)))
theorem Gp:eG X (jY X.K):=by
 intro pins s σ H x v vl vu lo hi sl Q I rx hs pl pu h
 obtain ⟨a,xs,rfl,hx,q⟩:=h
 cases rx
 obtain ⟨its,r,ht,hz⟩:=I.list hx
 have hlen:=r.length
 refine ⟨"list",_,slot_list_getitem.lookup,ht.isList.typeIs,?_⟩
 refine wpAny_getItem_list_slice ht.isList hs pl pu .none (by simp) ?_ (by rw [List.size_toArray] <;> omega)
 rw [KY,← hlen]
 refine ⟨.ref s.heap.objs.size,_,I.laid (t':=s.toks) (o:=.lst (De xs lo hi)) (fun b ob q=>Heap.get?_push_of_some _ q) (Nat.le_refl _) ?_,rfl,q _ (I.hok.fresh (Nat.le_refl _))⟩
 exact ⟨Nat.le_trans (Ja xs lo hi) hz,_,0,(r.drop (HT.Ed xs.length 0 lo)).take (HT.Ed xs.length xs.length hi - HT.Ed xs.length 0 lo),Heap.get?_push_size _ rfl⟩
noncomputable def Hm:V->Bool
 | .non=>true
 | .bl _=>true
 | .int _=>true
 | .str _=>true
 | _=>false
noncomputable def Wi:V->V->Bool
 | .non,.non=>true
 | .bl a,.bl b=>a == b
 | .bl a,.int b=>(if a then 1 else 0) == b
 | .int a,.bl b=>a == (if b then 1 else 0)
 | .int a,.int b=>a == b
 | .str a,.str b=>a == b
 | _,_=>false
theorem XN {A:Around} {s:Shared} {y x:V} {u v:Value} (ry:RelV y u) (rx:RelV x v) (fy:Hm y=true) (fx:Hm x=true):SeqAt.EqAt A s u v (Wi y x):=by
 cases y with
 | non =>
  cases ry
  cases x with
  | non=>cases rx; exact SeqAt.EqAt.same _
  | bl b=>cases rx; exact SeqAt.EqAt.none_bool b
  | int b=>obtain ⟨t,rfl⟩:=rx; exact SeqAt.EqAt.none_int b t
  | str b=>obtain ⟨t,rfl⟩:=rx; exact SeqAt.EqAt.none_str b t
  | _=>exact absurd (show false=true from fx) Bool.false_ne_true
 | bl a =>
  cases ry
  cases x with
  | non=>cases rx; exact SeqAt.EqAt.bool_none a
  | bl b=>cases rx; exact SeqAt.EqAt.bool_bool a b
  | int b=>obtain ⟨t,rfl⟩:=rx; exact SeqAt.EqAt.bool_int a b t
  | str b=>obtain ⟨t,rfl⟩:=rx; exact SeqAt.EqAt.bool_str a b t
  | _=>exact absurd (show false=true from fx) Bool.false_ne_true
 | int a =>
  obtain ⟨t',rfl⟩:=ry
  cases x with
  | non=>cases rx; exact SeqAt.EqAt.int_none a t'
  | bl b=>cases rx; exact SeqAt.EqAt.int_bool a t' b
  | int b=>obtain ⟨t,rfl⟩:=rx; exact SeqAt.EqAt.int_int a t' b t
  | str b=>obtain ⟨t,rfl⟩:=rx; exact SeqAt.EqAt.int_str a t' b t
  | _=>exact absurd (show false=true from fx) Bool.false_ne_true
 | str a =>
  obtain ⟨t',rfl⟩:=ry
  cases x with
  | non=>cases rx; exact SeqAt.EqAt.str_none a t'
  | bl b=>cases rx; exact SeqAt.EqAt.str_bool a t' b
  | int b=>obtain ⟨t,rfl⟩:=rx; exact SeqAt.EqAt.str_int a t' b t
  | str b=>obtain ⟨t,rfl⟩:=rx; exact SeqAt.EqAt.str_str a t' b t
  | _=>exact absurd (show false=true from fx) Bool.false_ne_true
 | _=>exact absurd (show false=true from fy) Bool.false_ne_true
noncomputable def PJ (x:V) (u:Value):Bool:=match u with
 | .none=>Wi .non x
 | .bool b=>Wi (.bl b) x
 | .int i _=>Wi (.int i) x
 | .str z _=>Wi (.str z) x
 | _=>false
theorem Rr {x y:V} {u:Value} (r:RelV y u) (f:Hm y=true):PJ x u=Wi y x:=by
 cases y with
 | non=>cases r; rfl
 | bl b=>cases r; rfl
 | int i=>obtain ⟨t,rfl⟩:=r; rfl
 | str z=>obtain ⟨t,rfl⟩:=r; rfl
 | _=>exact absurd (show false=true from f) Bool.false_ne_true
theorem Ij {x:V}:∀ {xs:List V} {us:List Value},Vals xs us->xs.all Hm=true->us.any (PJ x)=xs.any fun y=>Wi y x
 | _,_,.nil,_=>rfl
 | y::xs,u::us,.cons r t,f=>by
  rw [List.all_cons,Bool.and_eq_true] at f
  rw [List.any_cons,List.any_cons,Rr r f.1,Ij t f.2]
theorem HN {A:Around} {s:Shared} {x:V} {v:Value} (rx:RelV x v) (fx:Hm x=true):∀ {xs:List V} {us:List Value},Vals xs us->xs.all Hm=true->∀ u∈us,SeqAt.EqAt A s u v (PJ x u)
 | _,_,.nil,_=>fun u hu=>by cases hu
 | y::xs,u::us,.cons r t,f=>fun u' hu=>by
  rw [List.all_cons,Bool.and_eq_true] at f
  rcases List.mem_cons.mp hu with rfl | hu
  ·rw [Rr r f.1]; exact XN r rx f.1 fx
  ·exact HN rx fx t f.2 u' hu
noncomputable def inV (x:V) (xs:List V):Bool:=xs.any fun y=>Wi y x
noncomputable def eZ (K:PySem.W.Frag) (neg:Bool):R2:=fun x y H Q=>∃ p xs,y=.ref p/\(CK K H p xs \/ IV K H p xs)/\Hm x=true/\xs.all Hm=true/\Q (.bl (if neg then !inV x xs else inV x xs)) H
theorem GX:G3 X (compareOp .In) (eZ X.K false):=by
 intro pins s σ H x y v u Q I rx ry h
 obtain ⟨p,xs,rfl,hq,fx,fs,q⟩:=h
 cases ry
 rcases hq with hq | hq
 ·obtain ⟨its,r,pl,hz⟩:=I.list hq
  refine SeqAt.in_listAt (PJ x) pl.isList (fun w hw=>HN rx fx r fs w (by simpa using hw)) ⟨.bl _,H,I,rfl,?_⟩
  rw [show its.toArray.any (PJ x)=its.any (PJ x) by simp,Ij r fs]
  exact q
 ·obtain ⟨its,r,pl,hz⟩:=I.tuple hq
  refine SeqAt.in_tupleAt (PJ x) pl (fun w hw=>HN rx fx r fs w (by simpa using hw)) ⟨.bl _,H,I,rfl,?_⟩
  rw [show its.toArray.any (PJ x)=its.any (PJ x) by simp,Ij r fs]
  exact q
theorem FQ:G3 X (compareOp .NotIn) (eZ X.K true):=by
 intro pins s σ H x y v u Q I rx ry h
 obtain ⟨p,xs,rfl,hq,fx,fs,q⟩:=h
 cases ry
 rcases hq with hq | hq
 ·obtain ⟨its,r,pl,hz⟩:=I.list hq
  refine SeqAt.notIn_listAt (PJ x) pl.isList (fun w hw=>HN rx fx r fs w (by simpa using hw)) ⟨.bl _,H,I,rfl,?_⟩
  rw [show its.toArray.any (PJ x)=its.any (PJ x) by simp,Ij r fs]
  exact q
 ·obtain ⟨its,r,pl,hz⟩:=I.tuple hq
  refine SeqAt.notIn_tupleAt (PJ x) pl (fun w hw=>HN rx fx r fs w (by simpa using hw)) ⟨.bl _,H,I,rfl,?_⟩
  rw [show its.toArray.any (PJ x)=its.any (PJ x) by simp,Ij r fs]
  exact q
theorem Bb:Fo X (.builtin "len") (fun xs H Q=>∃ p ys,xs=[.ref p]/\(CK X.K H p ys \/ IV X.K H p ys)/\Q (.int ys.length) H):=by
 intro pins s σ H xs us Q I r h
 obtain ⟨p,ys,rfl,hq,q⟩:=h
 obtain ⟨u,rfl,rx⟩:=vals1 r
 cases rx
 have hn:=JD
 rcases hq with hq | hq
 ·obtain ⟨its,r',pl,hz⟩:=I.list hq
  have hlen:=r'.length
  exact Calls.call_len_list pl.isList (by simp only [List.size_toArray] <;> omega) ⟨.int ys.length,H,I.tok _,⟨s.toks+1,by rw [List.size_toArray,hlen]⟩,q⟩
 ·obtain ⟨its,r',pl,hz⟩:=I.tuple hq
  have hlen:=r'.length
  exact len_tuple pl (by simp only [List.size_toArray] <;> omega) ⟨.int ys.length,H,I.tok _,⟨s.toks+1,by rw [List.size_toArray,hlen]⟩,q⟩
theorem Ls:Fo X (.builtin "len") (fun xs H Q=>∃ z,xs=[.str z]/\z.length<=sizeLine/\Q (.int z.length) H):=by
 intro pins s σ H xs us Q I r h
 obtain ⟨z,rfl,hz,q⟩:=h
 obtain ⟨u,rfl,t,rfl⟩:=vals1 r
 have hn:=JD
 exact len_str (by omega) ⟨.int z.length,H,I.tok _,⟨_,rfl⟩,q⟩
theorem E_:Fo X (.type "list") (fun xs H Q=>∃ p ys,xs=[.ref p]/\(CK X.K H p ys \/ IV X.K H p ys)/\∀ l,H l=none->Q (.ref l) (upd H l (.lst ys))):=by
 intro pins s σ H xs us Q I r h
 obtain ⟨p,ys,rfl,hq,q⟩:=h
 obtain ⟨u,rfl,rx⟩:=vals1 r
 cases rx
 have fin:∀ (its:List Value),Vals ys its->ys.length<=sizeLine->∀ (h':Heap) (c':Nat),(∀ b o',s.heap.get? b=some o'->h'.get? b=some o') ->
   h'.get? s.heap.objs.size=some { cls:=.type "list",dict:=none,data:=.seq its.toArray c',slots:=#[] }->EP X pins σ Q (.ref s.heap.objs.size) { s with heap:=h' }:=fun its r' hz h' c' kp e =>
  ⟨.ref s.heap.objs.size,_,I.laid (t':=s.toks) kp (Nat.le_refl _) (show Ce X.prog X.w _ h' _ (.lst ys) from ⟨hz,its,c',r',e⟩),rfl,q _ (I.hok.fresh (Nat.le_refl _))⟩
 rcases hq with hq | hq
 ·obtain ⟨its,r',pl,hz⟩:=I.list hq
  have hlen:=r'.length
  obtain ⟨o,ho,hc,n,hd⟩:=pl.isList
  exact call_list_seq p (.inl rfl) ho hc hd (fun h' c' kp e=>fin its r' hz h' c' kp e) (by simp only [List.size_toArray] <;> omega)
 ·obtain ⟨its,r',pl,hz⟩:=I.tuple hq
  have hlen:=r'.length
  obtain ⟨o,ho,hc,n,hd⟩:=pl
  exact call_list_seq p (.inr rfl) ho hc hd (fun h' c' kp e=>fin its r' hz h' c' kp e) (by simp only [List.size_toArray] <;> omega)
noncomputable def jn (K:PySem.W.Frag) (T:String) (x:V) (H:Hp):Prop:=match x with
 | .str _=>T = "str"
 | .int _=>T = "int"
 | .ref p=>(T = "list" /\ ∃ xs,CK K H p xs) \/ (T = "tuple" /\ ∃ o,K.lookup p=some o/\o.cls=.type "tuple" /\ o.dict=none) \/
   (T = "dict" /\ ((∃ kvs,H p=some (.dK kvs)) \/ ∃ kvs,H p=some (.dT kvs))) \/ (T = "set" /\ ∃ S n,H p=some (.set S n))
 | _=>False
theorem R8 {pins:List (Addr × Obj)} {σ:St} {H:Hp} {s:Shared} {T:String} {x:V} {v:Value} (I:Inv X pins σ H s) (r:RelV x v) (ty:jn X.K T x H) :
  s.TypeIs v T/\∀ a,v=.ref a->∃ ob,s.heap.get? a=some ob/\ob.dict=none:=by
 cases x with
 | str z =>
  obtain ⟨t,rfl⟩:=r
  cases (show T = "str" from ty)
  exact ⟨typeIs_str s z t,fun _ e=>nomatch e⟩
 | int i =>
  obtain ⟨t,rfl⟩:=r
  cases (show T = "int" from ty)
  exact ⟨typeIs_int s i t,fun _ e=>nomatch e⟩
 | ref p =>
  cases r
  rcases ty with ⟨rfl,xs,hq⟩ | ⟨rfl,o,hk,hc,hd⟩ | ⟨rfl,hk⟩ | ⟨rfl,S,n,hk⟩
  ·obtain ⟨its,_,pl,_⟩:=I.list hq
   refine ⟨pl.isList.typeIs,fun a e=>?_⟩
   cases e
   obtain ⟨o,n,e,c,hd,_⟩:=pl
   exact ⟨o,e,hd⟩
  ·refine ⟨⟨o,I.JC p o hk,hc⟩,fun a e=>?_⟩
   cases e
   exact ⟨o,I.JC _ o hk,hd⟩
  ·have z:∃ o,s.heap.get? p=some o/\o.ExactDict:=by
    rcases hk with ⟨kvs,hk⟩ | ⟨kvs,hk⟩
    ·obtain ⟨_,_,_,_,o,_,_,e,ex,_⟩:=I.hok p _ hk
     exact ⟨o,e,ex⟩
    ·obtain ⟨_,_,_,_,o,_,_,e,ex,_⟩:=I.hok p _ hk
     exact ⟨o,e,ex⟩
   obtain ⟨o,e,ex⟩:=z
   refine ⟨⟨o,e,ex.1⟩,fun a e2=>?_⟩
   cases e2
   exact ⟨o,e,ex.2.1⟩
  ·obtain ⟨o,_,_,_,e,ex,_⟩:=I.hok p _ hk
   refine ⟨⟨o,e,ex.1⟩,fun a e2=>?_⟩
   cases e2
   exact ⟨o,e,ex.2.1⟩
 | _=>exact False.elim ty
noncomputable def j7 (K:PySem.W.Frag) (T:String) (r:V->List V->Hp->VK->Prop) (to:TE):TE:=fun σ H Q=>to σ H fun x H1=>jn K T x H1/\r x [] H1 Q
noncomputable def lg (K:PySem.W.Frag) (T:String) (r:V->List V->Hp->VK->Prop) (to:TE) (t:TA):TE:=fun σ H Q=>to σ H fun x H1=>jn K T x H1/\t σ H1 fun xs H2=>r x xs H2 Q
variable {o e:Expr} {es:List Expr} {to:TE} {t:TA} {name:Str} {apos cpos:Pos} {T id:String} {r:V->List V->Hp->VK->Prop}
theorem Uc (pa:PlainAttrs T) (slot:Slot T name id) (hty:typeOf (.builtin id)=pure (.type "method_descriptor")) (hm:fL X id r) (ho:PE X o to)
  (hbase:attributeBase o name X.env (eval o X.env)=eval o X.env:=by rfl) (hline:(apos.endLine == cpos.line)=true:=by rfl):PE X (.Call (.Attribute o name apos) [] [] cpos) (j7 X.K T r to):=by
 intro pins s σ H Q I h
 refine wpAny_Call_method0_late hbase hline (CJ (ho pins s σ H _ I h) fun v s1 hq0=>?_)
 obtain ⟨x,H1,I1,r1,ty,q1⟩:=hq0
 obtain ⟨h1,h2⟩:=R8 I1 r1 ty
 exact ⟨T,id,pa,slot,hty,h1,h2,Calls.callWith_builtin rfl (PySem.evalArgs_none (hm pins s1 σ H1 x [] v [] Q I1 r1 .nil q1))⟩
theorem Ex (pa:PlainAttrs T) (slot:Slot T name id) (hty:typeOf (.builtin id)=pure (.type "method_descriptor")) (hm:fL X id r) (ho:PE X o to) (ha:PA X (e::es) t)
  (hbase:attributeBase o name X.env (eval o X.env)=eval o X.env:=by rfl)
  (hfew:((backTo cpos (starEach (e::es) X.env)).all (fun x=>!x.1) && (backToKw cpos (keywordEach [] X.env)).all (fun x=>x.1.isSome)
   && decide ((e::es).length+([]:List Keyword).length+(if ([]:List Keyword).isEmpty then 0 else 1)<30))=true:=by rfl)
  (hline:(apos.endLine == cpos.line)=true:=by rfl) (hs:starEach (e::es) X.env=(false,eval e X.env)::starEach es X.env:=by rfl) (hplain:(backTo cpos (starEach es X.env)).any (·.1)=false:=by rfl) :
  PE X (.Call (.Attribute o name apos) (e::es) [] cpos) (lg X.K T r to t):=by
 intro pins s σ H Q I h
 refine wpAny_Call_method_late hbase hfew hline rfl (CJ (ho pins s σ H _ I h) fun v s1 hq0=>?_)
 obtain ⟨x,H1,I1,r1,ty,q1⟩:=hq0
 obtain ⟨h1,h2⟩:=R8 I1 r1 ty
 refine ⟨T,id,pa,slot,hty,h1,h2,?_⟩
 have hA:=ha cpos pins s1 σ H1 _ I1 q1
 rw [hs] at hA ⊢
 refine Calls.callWith_builtin (by show (false || (backTo cpos (starEach es X.env)).any (·.1))=false; rw [hplain] <;> rfl) (Calls.evalArgs_plain ?_)
 exact CJ hA fun us s2 ⟨vs,H2,I2,r2,q2⟩=>hm pins s2 σ H2 x vs v us Q I2 r1 r2 q2
end
end L2
namespace L2
open PySem PySem.Spec PyProof.Rows
noncomputable def lR (X:Cx) (id:String) (r:V->List V->Hp->VK->Prop):Prop :=
 ∀ (pins:List (Addr × Obj)) (s:Shared) (σ:St) (H:Hp) (x:V) (xs:List V) (v:Value) (us:List Value) (Q:VK),Inv X pins σ H s->RelV x v->Vals xs us->r x xs H Q ->
  wpAny (model X.prog X.w) X.A (call (.builtin id) (v::us)) (EP X pins σ Q) X.xe s
theorem Vals.one:∀ {x:V} {us:List Value},Vals [x] us->∃ u,us=[u]/\RelV x u:=fun h=>by cases h with | cons r t=>cases t; exact ⟨_,rfl,r⟩
theorem Vals.two:∀ {x y:V} {us:List Value},Vals [x,y] us->∃ u v,us=[u,v]/\RelV x u/\RelV y v:=fun h=>by cases h with | cons r t=>cases t with | cons q t=>cases t; exact ⟨_,_,rfl,r,q⟩
theorem Vals.eraseIdx:∀ {xs:List V} {us:List Value} (i:Nat),Vals xs us->Vals (xs.eraseIdx i) (us.eraseIdx i)
 | _,_,_,.nil=>.nil
 | _,_,0,.cons _ t=>t
 | _,_,i+1,.cons r t=>.cons r (Vals.eraseIdx i t)
theorem K7 {α:Type}:∀ (l:List α) (i:Nat),(l.eraseIdx i).length<=l.length
 | [],_=>Nat.le_refl _
 | _::_,0=>Nat.le_succ _
 | _::r,i+1=>Nat.succ_le_succ (K7 r i)
section
variable {X:Cx} {pins:List (Addr × Obj)} {σ:St} {H:Hp} {s:Shared} {l b:Addr} {xs ys zs:List V}
theorem Inv.Xm {its its':List Value} {n:Nat} {f:Array Value->Array Value} {t':Nat} (I:Inv X pins σ H s) (hH:H l=some (.lst xs))
  (e:s.heap.get? l=some { cls:=.type "list",data:=.seq its.toArray n }) (hf:f its.toArray=its'.toArray) (hv:Vals ys its') (hz:ys.length<=sizeLine) :
  Inv X pins σ (upd H l (.lst ys)) { s with heap:=s.heap.update l (Obj.mapSeq f),toks:=t' }:=by
 have q:=PySem.IsL.update e f
 rw [hf] at q
 refine I.write (x:=l) (e:=l) (by rw [hH]; exact trivial) (.inl rfl) (fun b' u hb hu=>(Heap.get?_update_other s.heap (Obj.mapSeq f) (Ne.symm hb)).trans hu) ⟨_,q⟩ ?_
 exact ⟨hz,its',_,hv,q⟩
theorem Inv.Xu {its:List Value} {t':Nat} (I:Inv X pins σ H s) (hv:Vals ys its) (hz:ys.length<=sizeLine) :
  Inv X pins σ (upd H s.heap.objs.size (.lst ys)) { s with heap:=s.heap.push { cls:=.type "list",data:=.seq its.toArray },toks:=t' } :=
 I.laid (fun _ _ q=>Heap.get?_push_of_some _ q) (Nat.le_refl _) ⟨hz,its,0,hv,Heap.get?_push_size _ rfl⟩
theorem Inv.fresh (I:Inv X pins σ H s):H s.heap.objs.size=none:=I.hok.fresh (Nat.le_refl _)
theorem Inv.Qp (I:Inv X pins σ H s) (hH:H l=some (.lst xs)):xs.length<=sizeLine/\∃ (its:List Value) (n:Nat),Vals xs its/\xs.length=its.length/\s.heap.get? l=some { cls:=.type "list",data:=.seq its.toArray n }:=by
 obtain ⟨z,its,n,r,e⟩:=I.hok l _ hH
 exact ⟨z,its,n,r,r.length,e⟩
theorem Sd {n:Nat} (h:n<=sizeLine):Builtin.List.listTooLong n=false:=by
 unfold Builtin.List.listTooLong
 exact decide_eq_false (by omega)
end
section
variable {X:Cx}
noncomputable def Va:V->List V->Hp->VK->Prop:=fun x vs H Q=>∃ l xs y,x=.ref l/\vs=[y]/\H l=some (.lst xs)/\xs.length<sizeLine/\Q .non (upd H l (.lst (xs++[y])))
theorem CG:lR X "list.append" Va:=by
 intro pins s σ H x vs v us Q I rx rv h
 obtain ⟨l,xs,y,rfl,rfl,hH,hz,q⟩:=h
 cases rx
 obtain ⟨u,rfl,ru⟩:=rv.one
 obtain ⟨z,its,n,r,hl,e⟩:=I.Qp hH
 refine call_meets F.slot_list_append ⟨_,e,rfl⟩ F.entry_list_append (F.args_list_append_2 _ _) (PySem.list_append l its.toArray n u (by rw [List.size_toArray]; omega)) ⟨e,?_⟩
 refine ⟨.non,_,I.Xm (its':=its++[u]) hH e (by simp) (r.append (.cons ru .nil)) ?_,rfl,q⟩
 rw [List.length_append,List.length_singleton]
 omega
noncomputable def Vh:V->List V->Hp->VK->Prop:=fun x vs H Q=>∃ l b xs zs,x=.ref l/\vs=[.ref b]/\H l=some (.lst xs)/\H b=some (.lst zs)/\xs.length+zs.length<=sizeLine/\Q .non (upd H l (.lst (xs++zs)))
theorem Qa:lR X "list.extend" Vh:=by
 intro pins s σ H x vs v us Q I rx rv h
 obtain ⟨l,b,xs,zs,rfl,rfl,hH,hB,hz,q⟩:=h
 cases rx
 obtain ⟨u,rfl,ru⟩:=rv.one
 cases ru
 obtain ⟨z,its,n,r,hl,e⟩:=I.Qp hH
 obtain ⟨z2,its2,n2,r2,hl2,e2⟩:=I.Qp hB
 have hsz:its.toArray.size+its2.toArray.size<=sizeLine:=by rw [List.size_toArray,List.size_toArray]; omega
 have hlong:¬ (!its.toArray.isEmpty && Builtin.List.listTooLong (its.toArray.size+its2.toArray.size))=true:=by
  rw [Sd hsz,Bool.and_false]
  exact Bool.false_ne_true
 refine call_meets F.slot_list_extend ⟨_,e,rfl⟩ F.entry_list_extend (F.args_list_extend_2 _ _)
  (AutoSeq1.list_extend_list_list_0 l its.toArray n b its2.toArray n2 hlong (by rw [List.size_toArray]; omega) (by omega)) ⟨e,e2,?_⟩
 refine ⟨.non,_,I.Xm (its':=its++its2) hH e (by simp) (r.append r2) ?_,rfl,q⟩
 rw [List.length_append]
 omega
noncomputable def Xz:V->List V->Hp->VK->Prop:=fun x vs H Q=>∃ l xs i k y,x=.ref l/\vs=[.int i]/\H l=some (.lst xs) /\ -(2 ^ 63)<=i/\i<2 ^ 63/\seqIndex? i xs.length=some k/\xs[k]? = some y/\Q y (upd H l (.lst (xs.eraseIdx k)))
theorem TF:lR X "list.pop" Xz:=by
 intro pins s σ H x vs v us Q I rx rv h
 obtain ⟨l,xs,i,k,y,rfl,rfl,hH,h1,h2,hk,hy,q⟩:=h
 cases rx
 obtain ⟨u,rfl,ru⟩:=rv.one
 obtain ⟨t,rfl⟩:=ru
 obtain ⟨z,its,n,r,hl,e⟩:=I.Qp hH
 obtain ⟨w,hw,rw'⟩:=r.get hy
 refine call_meets F.slot_list_pop ⟨_,e,rfl⟩ F.entry_list_pop (F.args_list_pop_2 _ _)
  (MeetsSeq.list_pop_at l its.toArray n i t k w (fitsIndex_both h1 h2) (by rw [List.size_toArray,← hl]; exact hk) (by rw [← Array.getElem?_toList]; exact hw) (by rw [List.size_toArray]; omega)) ⟨e,?_⟩
 refine ⟨y,_,I.Xm (its':=its.eraseIdx k) hH e ?_ (r.eraseIdx k) ?_,rw',q⟩
 ·show its.toArray.eraseIdxIfInBounds k=(its.eraseIdx k).toArray
  rw [List.eraseIdxIfInBounds_toArray]
 ·have:=K7 xs k
  omega
noncomputable def iY:R2:=fun x y H Q=>∃ l b xs zs,x=.ref l/\y=.ref b/\H l=some (.lst xs)/\H b=some (.lst zs)/\xs.length+zs.length<=sizeLine/\∀ p,H p=none->Q (.ref p) (upd H p (.lst (xs++zs)))
theorem Yi:G3 X (binaryOp .Add) iY:=by
 intro pins s σ H x y v u Q I rx ry h
 obtain ⟨l,b,xs,zs,rfl,rfl,hH,hB,hz,q⟩:=h
 cases rx
 cases ry
 obtain ⟨z,its,n,r,hl,e⟩:=I.Qp hH
 obtain ⟨z2,its2,n2,r2,hl2,e2⟩:=I.Qp hB
 refine PySem.P.add_list e e2 ?_ (by rw [List.size_toArray,List.size_toArray]; omega)
 have ea:its.toArray++its2.toArray=(its++its2).toArray:=by simp
 rw [ea]
 exact ⟨.ref _,_,I.Xu (t':=s.toks) (r.append r2) (by rw [List.length_append]; omega),rfl,q _ I.fresh⟩
end
section
variable {prog:Program} {w:World} {A:Around} {E:Value->Shared->Prop} {s:Shared}
end
section
variable {X:Cx}
end
end L2
namespace Att
open PySem PySem.W PySem.Calls PyProof.Rows
theorem Je {P:Params} {h:Heap}:∀ (ns:List Int) (vs:List Value),WellAll P h vs (ns.map WData.int)->IntsAre vs ns:=by
 intro ns
 induction ns with
 | nil =>
  intro vs w
  rw [List.map_nil] at w
  cases w
  exact .nil
 | cons n ns ih =>
  intro vs w
  rw [List.map_cons] at w
  cases w with
  | cons a b =>
   cases a
   exact .cons _ _ (ih _ b)
theorem Qe {l:OpenLaw} {n:Nat} (hn:l.most=some n) {P:Params} {h:Heap} {args:List WData} {vals:List Value}
  (hpre:l.row.toRowW.claim.pre args=true) (hwl:WellAll P h vals args) :
  ∃ a vs ns,vals=[Value.ref a]/\args=[WData.list (ns.map WData.int)]/\h.get? a=some { cls:=.type "list",data:=.seq vs.toArray }/\IntsAre vs ns/\ns.length<=n:=by
 have hsh:WShape.hasAll [] args [.list .int]=true:=(pre_splitW hpre).1
 have hc:l.pre.holds [] { args:=args }=true:=(pre_splitW hpre).2
 obtain ⟨d,r,rfl,h1,h2⟩:=hasAllW_cons hsh
 obtain rfl:=hasAllW_nil h2
 obtain ⟨xs,rfl,h3⟩:=hasW_list h1
 obtain ⟨ns,rfl⟩:=items_int h3
 have hlen:ns.length<=n:=by
  unfold OpenLaw.pre at hc
  have h4:(WTm.not (.lt (.lit (.int (n:Int))) (.len (.arg 0)))).holds [] { args:=[.list (ns.map .int)] }=true:=by
   have h4:=(holds_andW hc).1
   rw [hn] at h4
   exact h4
  have h5:=condW_of h4 (w_not (w_lt w_lit (w_len_list (w_arg rfl))))
  rw [List.length_map] at h5
  refine Nat.le_of_not_lt fun q=>?_
  have q':(n:Int)<((ns.length:Nat):Int):=by omega
  first
   | (rw [decide_eq_true q'] at h5; exact absurd h5 (by decide))
   | (simp at h5; omega)
 cases hwl with
 | cons w1 w2 =>
  cases w2
  cases w1 with
  | list ho hall=>exact ⟨_,_,ns,rfl,rfl,ho,Je ns _ hall,hlen⟩
theorem Qz (l:OpenLaw) (args:List WData):l.row.toRowW.claim.post args (.bool true) args=true :=
 postW_of (r:=l.row.toRowW) (X:=(true == true))
  (show WShape.has [] (.bool true) .bool=true by first | rfl | decide | simp [WShape.has,WShape.arms,WShape.armsAll])
  (show (WTm.eq .res (.lit (.bool true))).value [] { args:=args,res:=some (.bool true),after:=args }=some (.bool (true == true)) from w_eq_bool (w_res rfl) w_lit) rfl
theorem NZ {l:OpenLaw} {n:Nat} {q:Program} {loose:List Str} {XP:(Str->Option Value)->Heap->Prop} {YP:World->Heap->Prop} {d:DefRec}
  (hn:l.most=some n) (hdf:d.params.defaults=[])
  (call:∀ (w:World) (s₀ s₁:Shared) (mg mb:Str->Option Value) (fa:Addr) (o:Obj) (pm cd doc:Value) (a:Addr) (vs:List Value) (ns:List Int),
   Ground q loose [] XP w s₀ mg mb s₁.heap->YP w s₁.heap ->
   s₁.heap.get? fa=some o->o.data=.func (docDef d.name d.params d.body d.scope pm cd doc)->s₁.heap.CodeRec cd d.name->mg d.name=some (.ref fa) ->
   s₁.heap.get? a=some { cls:=.type "list",data:=.seq vs.toArray }->IntsAre vs ns->ns.length<=n->s₁.gens = #[] ->
   codeAny (model l.prog w) callerA (.call (.ref fa) ⟨[.ref a],[]⟩) (fun r s'=>r=.ok (.ret (.bool true))/\OldK s₁.heap s'.heap/\s'.os=s₁.os/\AllBare s'.gens) s₁) :
  WalkO q loose XP YP l.row.toRowW d [] (fun f vs=>PySem.call f vs):=by
 intro w s₀ s₁ mg mb G Y fa o pm cd doc dV kV ho hd hcd hD hmg hg args vals as hpre hlay hrd hwl hlo
 obtain rfl:dV=.none:=Dflts.none hD hdf
 obtain rfl:kV=.none:=Dflts.noKw hD
 obtain ⟨a,vs,ns,rfl,rfl,hobj,hints,hlen⟩:=Qe hn hpre hwl
 refine enter_call (codeAny_mono (call w s₀ s₁ mg mb fa o pm cd doc a vs ns G Y ho (fd_plain hd) hcd hmg hobj hints hlen hg) fun r s' hq=>?_)
 obtain ⟨rfl,h2,h3,h4⟩:=hq
 exact ⟨.inl ⟨.bool true,.bool true,[],rfl,fun _=>rfl,.bool true,Qz l _,fun _=>⟨List.Pairwise.nil,fun _ hm=>(nomatch hm)⟩⟩,h2,h3,h4⟩
section
variable {prog:Program} {w:World} {A:Around} {E:Value->Shared->Prop} {s:Shared} {K:Frag}
end
end Att
namespace L2
open PySem PySem.Spec PyProof.Rows
theorem K5:∀ {vs:List Value} {ns:List Int},IntsAre vs ns->Vals (ns.map V.int) vs
 | _,_,.nil=>.nil
 | _,_,.cons n t h=>.cons ⟨t,rfl⟩ (K5 h)
noncomputable def Only (H:Hp):Prop:=∀ b,H b=none \/ ∃ o xs,H b=some (.frz o (.lst xs))
theorem Sx {P:Program} {w:World} {K:PySem.W.Frag} {mg mb:Str->Option Value} {CX:UG} {k:Nat} {fa a:Addr} {fd:FuncData} {x:Str} {sp:Sp} {s₁:Shared} {vs:List Value} {ns:List Int}
  (KX:K.In s₁.heap) (hns:s₁.heap.Ns mainGlobals mg) (hb:s₁.heap.Ns builtinsNs mb) (hbb:∀ x:Str,x ≠ "__name__"->mb x=bootBuiltins x) (hlim:s₁.heap.NoLimit) (hg:s₁.gens = #[])
  (ha:s₁.heap.get? a=some { cls:=.type "list",data:=.seq vs.toArray }) (hi:IntsAre vs ns) (hl:ns.length<=sizeLine) (hr:BV k callerA)
  (F:∀ base:Heap,K.In base->base.Ns mainGlobals mg->Ar P w K mg base CX k fa fd [x] sp) (hbind:∀ (s:Shared) (u:Value),BindsTo s fd ⟨[u],[]⟩ [(x,u)])
  (hsp:∀ H:Hp,Only H->CK K H a (ns.map V.int)->sp [.ref a] H (fun v _=>v=.bl true) fun _ _ _=>False)
  (hCX:∀ H e s',CX [] H s₁ (fun _ _ _=>False) e s'->False) :
  codeAny (model P w) callerA (.call (.ref fa) ⟨[.ref a],[]⟩) (fun r s'=>r=.ok (.ret (.bool true))/\OldK s₁.heap s'.heap/\s'.os=s₁.os/\AllBare s'.gens) s₁:=by
 have rv:=K5 hi
 have lenV:=hi.length
 have core:∀ H:Hp,Only H->CK K H a (ns.map V.int)->Ia P w H s₁.heap->(∀ b,H b ≠ none->b=a)->(H a ≠ none->K.lookup a=none) ->
   codeAny (model P w) callerA (.call (.ref fa) ⟨[.ref a],[]⟩) (fun r s'=>r=.ok (.ret (.bool true))/\OldK s₁.heap s'.heap/\s'.os=s₁.os/\AllBare s'.gens) s₁:=by
  intro H hO hS hok hA hK
  have base_of:∀ {b:Addr} {o:Obj},s₁.heap.get? b=some o->H b=none->(Lq s₁.heap H).get? b=some o:=fun e n=>UL e n
  have noA:∀ {b:Addr} {o:Obj} {es:Array DictEntry} {ep:Nat},s₁.heap.get? b=some o->o.data=.dict es ep->H b=none:=fun {b o es ep} e d=>by
   cases q:H b with
   | none=>rfl
   | some u =>
    have e':b=a:=hA b (by rw [q]; simp)
    subst e'
    rw [ha] at e; cases e
    have d':Data.seq vs.toArray _=Data.dict es ep:=d
    cases d'
  have nsK:∀ {b:Addr} {m:Str->Option Value},s₁.heap.Ns b m->(Lq s₁.heap H).Ns b m:=fun {b m} ⟨o,es,ep,e,d,r⟩=>⟨o,es,ep,base_of e (noA e d),d,r⟩
  have hKb:K.In (Lq s₁.heap H):=fun b o e=>base_of (KX b o e) (by
   cases q:H b with
   | none=>rfl
   | some u =>
    have e':b=a:=hA b (by rw [q]; simp)
    subst e'
    rw [hK (by rw [q]; simp)] at e; cases e)
  have hM:Mod K mg (Lq s₁.heap H):=⟨hKb,nsK hns,⟨mb,nsK hb,hbb⟩,let ⟨mc,h1,h2⟩:=hlim; ⟨mc,nsK h1,h2⟩⟩
  have e0:Nx P w K mg (Lq s₁.heap H) callerA [] s₁ H:=⟨rfl,hM,fun b o e=>U9 e,Nat.le_of_eq (RB _ _),trivial,fun b hb=>absurd (show b∈([]:List Addr) from hb) (by simp),hok,.of_eq hg⟩
  refine codeAny_mono ((F _ hKb (nsK hns)).run callerA [] s₁ H ⟨[.ref a],[]⟩ [.ref a] [.ref a] _ _ hr e0 (hbind s₁ (.ref a)) (.cons rfl .nil) (hsp H hO hS)) fun r s' h=>?_
  cases r with
  | error e=>exact (hCX H e s' h).elim
  | ok fl =>
   cases fl with
   | next=>exact False.elim h
   | brk=>exact False.elim h
   | cont=>exact False.elim h
   | ret u =>
    obtain ⟨v,H',os,bare,un,hok',r',q⟩:=h
    have q':v=.bl true:=q
    subst q'
    obtain rfl:u=Value.bool true:=r'
    refine ⟨rfl,OldK.of_keep fun b o e=>?_,os,bare⟩
    cases q:H b with
    | none=>exact un.keep b o e q (by intro z; exact absurd (show b∈([]:List Addr) from z) (by simp)) (by simp)
    | some u =>
     rcases hO b with z | ⟨ob,xs,z⟩
     ·rw [q] at z; cases z
     ·have z2:=un.frzs b ob _ z
      obtain ⟨e1,_⟩:=hok b _ z
      obtain ⟨e2,_⟩:=hok' b _ z2
      rw [e] at e1; cases e1
      exact e2
 cases hk:K.lookup a with
 | some o =>
  have e:=KX a o hk
  rw [ha] at e
  cases e
  refine core (fun _=>none) (fun _=>.inl rfl) (.inr ⟨_,vs.toArray,_,hk,rfl,rfl,rfl,by rw [List.size_toArray,lenV]; exact hl,by simpa using rv⟩) (fun b u z=>by have z':(none:Option HO)=some u:=z; cases z') (fun b z=>absurd rfl z) fun z=>absurd rfl z
 | none =>
  refine core (fun b=>if b=a then some (.frz { cls:=.type "list",data:=.seq vs.toArray } (.lst (ns.map V.int))) else none) (fun b=>?_) (.inl (.inr ⟨{ cls:=.type "list",data:=.seq vs.toArray },if_pos rfl⟩)) (fun b u z=>?_) (fun b z=>?_) fun _=>hk
  ·by_cases hb:b=a
   ·exact .inr ⟨_,_,if_pos hb⟩
   ·exact .inl (if_neg hb)
  ·by_cases hb:b=a
   ·have z':=(if_pos hb).symm.trans z
    cases z'
    subst hb
    exact ⟨ha,by rw [List.length_map]; exact hl,vs,_,rv,ha⟩
   ·have z':=(if_neg hb).symm.trans z
    cases z'
  ·by_cases hb:b=a
   ·exact hb
   ·exact absurd (if_neg hb) z
end L2
namespace L2
open PySem PySem.Spec PyProof.Rows
theorem VM {l:PySem.W.OpenLaw} {n k:Nat} {q:Program} {loose:List Str} {XP:(Str->Option Value)->Heap->Prop} {YP:World->Heap->Prop} {d:DefRec} {K:Params->PySem.W.Frag} {CX:World->UG} {sp:World->Sp} {x:Str}
  (hn:l.most=some n) (hn2:n<=sizeLine) (hdf:d.params.defaults=[]) (hr:BV k callerA)
  (hY:∀ (w:World) (h:Heap),YP w h->(K w.params).In h)
  (F:∀ (w:World) (mg:Str->Option Value) (fa:Addr) (h:Heap),(K w.params).In h->h.Ns mainGlobals mg->mg d.name=some (.ref fa) ->
   ∃ fd:FuncData,(∀ (s:Shared) (u:Value),BindsTo s fd ⟨[u],[]⟩ [(x,u)]) /\
    ∀ base:Heap,(K w.params).In base->base.Ns mainGlobals mg->Ar l.prog w (K w.params) mg base (CX w) k fa fd [x] (sp w))
  (hsp:∀ (w:World) (H:Hp) (a:Addr) (ns:List Int),ns.length<=n->Only H->CK (K w.params) H a (ns.map V.int)->sp w [.ref a] H (fun v _=>v=.bl true) fun _ _ _=>False)
  (hCX:∀ (w:World) (H:Hp) (s:Shared) (e:Value) (s':Shared),CX w [] H s (fun _ _ _=>False) e s'->False) :
  PySem.W.WalkO q loose XP YP l.row.toRowW d [] (fun f vs=>PySem.call f vs):=by
 refine Att.NZ hn hdf fun w s₀ s₁ mg mb fa o pm cd doc a vs ns G Y ho hd hcd hmg hobj hints hlen hg=>?_
 have KX:=hY w _ Y
 obtain ⟨fd,hb,hF⟩:=F w mg fa _ KX G.T.g hmg
 exact Sx KX G.T.g G.T.b G.T.builtins G.T.nolimit hg hobj hints (Nat.le_trans hlen hn2) hr hF hb (fun H hO hS=>hsp w H a ns hlen hO hS) fun H e s'=>hCX w H s₁ e s'
end L2
namespace L2
open PySem PySem.Spec PyProof.Rows
noncomputable def inClass (s:Stmt) (j:Nat):Stmt:=match s with
 | .ClassDef _ _ _ body _ _ _ _ _ _ _=>body.getD j (.Pass ⟨0,0,0,0⟩)
 | _=>.Pass ⟨0,0,0,0⟩
noncomputable def Cm (s:Stmt):Arguments:=match s with
 | .FunctionDef _ a _ _ _ _ _ _ _ _=>a
 | _=>{ posonlyargs:=[],args:=[],vararg:=none,kwonlyargs:=[],kw_defaults:=[],kwarg:=none,defaults:=[] }
noncomputable def CP (s:Stmt):List Stmt:=match s with
 | .FunctionDef _ _ b _ _ _ _ _ _ _=>b
 | _=>[]
noncomputable def Ag (s:Stmt):Scope:=match s with
 | .FunctionDef _ _ _ _ _ _ sc _ _ _=>sc
 | _=>{ kind:=.function,names:=[],isGenerator:=false,isCoroutine:=false }
noncomputable abbrev Be:UG:=fun _ _ _ _ _ _=>False
noncomputable abbrev E0:XK:=fun _ _ _=>False
theorem Ao {X:Cx}:Hx Be X E0:=fun _ _ _ _ _ _ _ h=>h.elim
structure Cu (K:PySem.W.Frag) (x qual:Str) (st:Stmt) (f:Addr) (fd:FuncData):Prop where
 ex:∃ (oc:Value) (od:Option Addr) (kV doc pm:Value) (an:Option Addr) (cdv ct:Value) (osl:Array (Option Value)),
  fd=PySem.W.fnOf x qual (Cm st) (CP st) (Ag st) .none kV doc pm an cdv ct/\K.lookup f=some ⟨oc,od,.func fd,osl⟩/\PySem.W.codeIn K cdv qual=true
 kp:PySem.W.keepIn K (.ref f)=true
section
variable {P:Program} {w:World} {K:PySem.W.Frag} {mg:Str->Option Value} {base:Heap}
theorem Cu.ok {x qual:Str} {st:Stmt} {f:Addr} {fd:FuncData} {N ps:List Str} {k:Nat} {sp:Sp} (F:Cu K x qual st f fd) (S:Aw N ps (Ag st)) (len:∀ vs H Q E,sp vs H Q E->vs.length=ps.length)
  (hbody:∀ (cdv:Value) (A:Around) (outer:List Env) (s:Shared) (H:Hp) (vs:List V) (Q:VK) (E:XK),BV k (A.deeper (envOfC qual (Ag st) s.heap.objs.size f cdv))->sp vs H Q E ->
   ∃ t,Pq (PL Be P w K mg base N qual (Ag st) f cdv A outer s H E).Yq (CP st) t/\t { nx:=fun _ H'=>Q .non H',rt:=Q } (start N vs) H):Ar P w K mg base Be (k+1) f fd ps sp:=by
 obtain ⟨oc,od,kV,doc,pm,an,cdv,ct,osl,rfl,lk,hcd⟩:=F.ex
 refine W2 lk hcd S len fun A outer s H vs Q E hr hsp=>?_
 obtain ⟨t,h,q⟩:=hbody cdv A outer s H vs Q E hr hsp
 exact ⟨t,h.Yq,q⟩
theorem Cu.binds {x qual:Str} {st:Stmt} {f:Addr} {fd:FuncData} {ps:List Str} (F:Cu K x qual st f fd)
  (h:∀ (kV doc pm:Value) (an:Option Addr) (cdv ct:Value) (us:List Value),us.length=ps.length->bindArgs (PySem.W.fnOf x qual (Cm st) (CP st) (Ag st) .none kV doc pm an cdv ct) ⟨us,[]⟩=pure (ps.zip us)):Binds K fd ps []:=by
 obtain ⟨oc,od,kV,doc,pm,an,cdv,ct,osl,rfl,lk,hcd⟩:=F.ex
 exact .all (h kV doc pm an cdv ct)
theorem Ot {x qual:Str} {st:Stmt} {f:Addr} {oc:Value} {od an:Option Addr} {osl:Array (Option Value)} {kV doc pm cdv ct:Value} (l:K.lookup f=some ⟨oc,od,.func (PySem.W.fnOf x qual (Cm st) (CP st) (Ag st) .none kV doc pm an cdv ct),osl⟩)
  (c:PySem.W.codeIn K cdv qual=true) (k:PySem.W.keepIn K (.ref f)=true):Cu K x qual st f (PySem.W.fnOf x qual (Cm st) (CP st) (Ag st) .none kV doc pm an cdv ct):=⟨⟨oc,od,kV,doc,pm,an,cdv,ct,osl,rfl,l,c⟩,k⟩
end
theorem Fy {A:Around} {k:Nat} (hr:BV k A):A.units+1<cLine:=Nat.lt_of_le_of_lt (Nat.add_le_add_left (by decide:1<=64) _) hr.units
theorem BJ {n:Nat} (h:n<=1000):n<sizeLine:=Nat.lt_of_le_of_lt h (by decide)
section
variable {X:Cx}
theorem pv (i:Nat) {x:Str} {pos:Pos} (hN:X.N[i]? = some x:=by rfl) (hv:gR X.env.scope x:=by first | exact Or.inl rfl | exact Or.inr (Or.inl rfl) | exact Or.inr (Or.inr rfl)) (hd:(x == ("__debug__" : Str))=false:=by decide)
  (hcd:(x == ("__classdict__" : Str))=false:=by decide):PE X (.Name x pos) (Ng i):=Xo hN hv hd hcd
end
theorem Bj {A B:Prop} (h:B):if false=true then A else B:=by
 rw [if_neg Bool.false_ne_true]
 exact h
theorem CW {A B:Prop} (h:A):if true=true then A else B:=by
 rw [if_pos rfl]
 exact h
theorem Dn {c A B:Prop} [Decidable c] (h1:c->A) (h2:¬ c->B):if c then A else B:=by
 by_cases h:c
 ·rw [if_pos h]
  exact h1 h
 ·rw [if_neg h]
  exact h2 h
theorem W6 {c A B:Prop} [Decidable c] (hc:c) (h:B):if (!decide c)=true then A else B:=by
 rw [decide_eq_true hc]
 exact Bj h
noncomputable def An (H H':Hp):Prop:=∀ b o,H b=some o->H' b=some o
theorem An.refl (H:Hp):An H H:=fun _ _ h=>h
theorem An.trans {H H1 H2:Hp} (a:An H H1) (b:An H1 H2):An H H2:=fun c o h=>b c o (a c o h)
theorem An.free {H H':Hp} (e:An H H') {l:Addr} (h:H' l=Option.none):H l=Option.none:=by
 cases q:H l with
 | none=>rfl
 | some o =>
  rw [e l o q] at h
  cases h
theorem An.seq {K:PySem.W.Frag} {H H':Hp} {a:Addr} {xs:List V} (e:An H H') (h:CK K H a xs):CK K H' a xs:=by
 rcases h with (h | ⟨o,h⟩) | h
 ·exact .inl (.inl (e _ _ h))
 ·exact .inl (.inr ⟨o,e _ _ h⟩)
 ·exact .inr h
end L2
namespace L2
open PySem PySem.Spec PyProof.Rows
section
variable {X:Cx}
end
section
variable {κ:Type} [DecidableEq κ]
theorem QC:∀ {l:List κ} {k:κ},l.Nodup->¬ k∈l->(l++[k]).Nodup
 | [],k,_,_=>by simp
 | a::r,k,h,hk=>by
  obtain ⟨h1,h2⟩:=List.nodup_cons.mp h
  show (a::(r++[k])).Nodup
  refine List.nodup_cons.mpr ⟨fun m=>?_,QC h2 fun m=>hk (List.mem_cons.mpr (Or.inr m))⟩
  rcases List.mem_append.mp m with q | q
  ·exact h1 q
  ·exact hk (List.mem_cons.mpr (Or.inl (List.mem_singleton.mp q).symm))
end
end L2
namespace L2
open PySem PySem.Spec PyProof.Rows
section
variable {prog:Program} {w:World} {A:Around} {E:Value->Shared->Prop} {s:Shared}
theorem J_ {it a:Addr} {i:Nat} {items:Array Value} {x:Value} {Q:Value->Shared->Prop} (j:s.heap.IsTupleIter it a i) (ht:s.heap.IsTuple a items) (hx:items[i]? = some x)
  (q:∀ h',h'.IsTupleIter it a (i+1)->Heap.SameBut it s.heap h'->Q x { s with heap:=h' }):wpAny (model prog w) A (Builtin.SmallTypes.nextOf (.ref it)) Q E s:=by
 have j0:=j
 obtain ⟨o,e,c,d⟩:=j
 obtain ⟨oa,ea,_,n,da⟩:=ht
 unfold Builtin.SmallTypes.nextOf
 refine wpAny_bind (wpAny_callSpecial?_slot (name:=Str.ofString "__next__") j0.typeIs F.slot_tuple_iterator_next (wpAny_call_entry F.slot_tuple_iterator_next j0.typeIs F.entry_tuple_iterator_next ?_ (F.args_tuple_iterator_next_1 _)))
 refine (show wpAny _ _ (field (.ref it) 0 >>= _) _ _ s from wpAny_bind (wpAny_field e d (x:=.ref a) rfl ?_))
 refine (show wpAny _ _ (if (Value.ref a == Value.none)=true then _ else _) _ _ s from ?_)
 rw [if_neg (by exact Bool.false_ne_true)]
 refine (show wpAny _ _ (field (.ref it) 1 >>= _) _ _ s from wpAny_bind (wpAny_field e d (x:=.int i 0) rfl ?_))
 refine (show wpAny _ _ (seqItems? (.ref a) >>= _) _ _ s from wpAny_bind (wpAny_seqItems ea da ?_))
 simp only [Int.toNat_natCast,hx]
 exact wpAny_bind (wpAny_setField e d (by simp) (wpAny_pure ⟨x,rfl,wpAny_pure (q _ ⟨_,Heap.get?_update_self _ e (Obj.isFreed_of_fields (Obj.data_mapFields d _)),(Obj.cls_mapFields ..).trans c,by rw [Obj.data_mapFields d]; simp [rawInt]⟩ (Heap.SameBut.update ..))⟩))
theorem Ju {it a:Addr} {i:Nat} {items:Array Value} {Q:Value->Shared->Prop} (hh:A.handled=none) (j:s.heap.IsTupleIter it a i) (ht:s.heap.IsTuple a items) (hx:items[i]? = none)
  (q:∀ h' e,Heap.ExtBut it s.heap h'->(∃ o,h'.get? e=some o/\o.cls=.type "StopIteration")->E (.ref e) { s with heap:=h' }):wpAny (model prog w) A (Builtin.SmallTypes.nextOf (.ref it)) Q E s:=by
 have j0:=j
 obtain ⟨o,e,c,d⟩:=j
 obtain ⟨oa,ea,_,n,da⟩:=ht
 unfold Builtin.SmallTypes.nextOf
 refine wpAny_bind (wpAny_callSpecial?_slot (name:=Str.ofString "__next__") j0.typeIs F.slot_tuple_iterator_next (wpAny_call_entry F.slot_tuple_iterator_next j0.typeIs F.entry_tuple_iterator_next ?_ (F.args_tuple_iterator_next_1 _)))
 refine (show wpAny _ _ (field (.ref it) 0 >>= _) _ _ s from wpAny_bind (wpAny_field e d (x:=.ref a) rfl ?_))
 refine (show wpAny _ _ (if (Value.ref a == Value.none)=true then _ else _) _ _ s from ?_)
 rw [if_neg (by exact Bool.false_ne_true)]
 refine (show wpAny _ _ (field (.ref it) 1 >>= _) _ _ s from wpAny_bind (wpAny_field e d (x:=.int i 0) rfl ?_))
 refine (show wpAny _ _ (seqItems? (.ref a) >>= _) _ _ s from wpAny_bind (wpAny_seqItems ea da ?_))
 simp only [Int.toNat_natCast,hx]
 refine wpAny_bind (wpAny_rule (wpAny_bind (wpAny_setField e d (by simp) (show wpAny _ _ (newExc (.type "StopIteration") [] >>= _) _ _ _ from wpAny_bind ?_))))
 simp only [newExc,newTuple]
 refine wpAny_bind (wpAny_newObj_type (wpAny_bind (m:=firstArgMember _ _) (wpAny_of_eq (a:=Value.none) (by first | rfl | (simp only [firstArgMember]; rfl)) (wpAny_newObj_type ?_ (by size_fits)))) (by size_fits))
 simp only [raiseNew]
 refine wpAny_bind (wpAny_handled ?_)
 first | rw [show A.in1.handled=none from hh] | rw [hh]
 exact wpAny_bind (wpAny_pure (wpAny_throw (q _ _ (((Heap.SameBut.update ..).extBut.push _).push _) ⟨_,Heap.get?_push_size _ rfl,rfl⟩)))
theorem RC {z TI TO i1 i2 a1 a2:Addr} {k:Nat} {xs ys:Array Value} {x y a b:Value} {Q:Value->Shared->Prop} (D:ZipApart z TI TO i1 i2 a1 a2)
  (hz:IsZip s.heap z TI TO .none) (hI:IsPair s.heap TI (.ref i1) (.ref i2)) (hO:IsPair s.heap TO a b)
  (j1:s.heap.IsTupleIter i1 a1 k) (j2:s.heap.IsTupleIter i2 a2 k) (t1:s.heap.IsTuple a1 xs) (t2:s.heap.IsTuple a2 ys) (hx:xs[k]? = some x) (hy:ys[k]? = some y)
  (q:∀ h',IsZip h' z TI TO (rawInt s.heap.objs.size)->IsPair h' TO x y->h'.IsTupleIter i1 a1 (k+1)->h'.IsTupleIter i2 a2 (k+1)->IsPair h' s.heap.objs.size x y->h'.objs.size=s.heap.objs.size+1 ->
   (∀ c o,c ≠ z->c ≠ TO->c ≠ i1->c ≠ i2->s.heap.get? c=some o->h'.get? c=some o)->Q (.ref s.heap.objs.size) { s with heap:=h' }) :
  wpAny (model prog w) A (Builtin.«zip.__next__» ⟨[.ref z],[]⟩) (fun fin s'=>∃ v,fin=.done (.ret v)/\Q v s') E s:=by
 refine (show wpAny _ _ (field (.ref z) 2 >>= _) _ _ _ from wpAny_bind (wpAny_field hz rfl (x:=.bool false) rfl (show wpAny _ _ (field (.ref z) 3 >>= _) _ _ _ from wpAny_bind (wpAny_field hz rfl (x:=.ref TI) rfl (wpAny_bind (wpAny_seqItems hI rfl ?_))))))
 refine (show wpAny _ _ (Builtin.SmallTypes.ownedTupleIsFree (.ref z) >>= _) _ _ _ from wpAny_bind ?_)
 unfold Builtin.SmallTypes.ownedTupleIsFree
 refine wpAny_bind (wpAny_field hz rfl (x:=.none) rfl (wpAny_pure ?_))
 simp only [if_true]
 refine wpAny_bind (wpAny_rule (wpAny_bind (wpAny_field hz rfl (x:=.ref TO) rfl (wpAny_bind (wpAny_setField_rec hz (by simp) fun h1 z1 s1=>?_)))))
 have y1:IsZip h1 z TI TO .ellipsis:=z1
 refine wpAny_bind ?_
 simp only [List.zipIdx_cons,List.zipIdx_nil,List.forIn_cons,List.forIn_nil]
 refine wpAny_bind (wpAny_bind (wpAny_onRaise (show wpAny _ _ (Builtin.SmallTypes.nextOf (.ref i1) >>= _) _ _ _ from wpAny_bind (J_ (j1.at fun o e=>s1.extBut _ _ D.i1z e) (t1.at fun o e=>s1.extBut _ _ D.l1z e) hx fun h2 n1 s2=>wpAny_pure ?_))))
 have o2:IsPair h2 TO a b:=s2.extBut _ _ D.TOi1 (s1.extBut _ _ D.TOz hO)
 refine wpAny_bind (wpAny_seqItems o2 rfl (wpAny_bind (wpAny_updateSeq_pair o2 fun h3 p3 s3=>?_)))
 have o3:IsPair h3 TO x b:=p3
 refine wpAny_bind (wpAny_letGo (wpAny_pure ?_))
 refine wpAny_bind (wpAny_bind (wpAny_onRaise (show wpAny _ _ (Builtin.SmallTypes.nextOf (.ref i2) >>= _) _ _ _ from wpAny_bind (J_ (j2.at fun o e=>s3.extBut _ _ D.TOi2.symm (s2.extBut _ _ D.i12.symm (s1.extBut _ _ D.i2z e)))
  (t2.at fun o e=>s3.extBut _ _ D.l2TO (s2.extBut _ _ D.l2i1 (s1.extBut _ _ D.l2z e))) hy fun h4 n2 s4=>wpAny_pure ?_))))
 have o4:IsPair h4 TO x b:=s4.extBut _ _ D.TOi2 o3
 refine wpAny_bind (wpAny_seqItems o4 rfl (wpAny_bind (wpAny_updateSeq_pair o4 fun h5 p5 s5=>?_)))
 have o5:IsPair h5 TO x y:=p5
 refine wpAny_bind (wpAny_letGo (wpAny_pure (wpAny_pure (wpAny_bind (wpAny_seqItems o5 rfl (wpAny_bind (wpAny_newTuple ?_)))))))
 have zs:h5.objs.size=s.heap.objs.size:=by rw [s5.1,s4.1,s3.1,s2.1,s1.1]
 have y5:IsZip h5 z TI TO .ellipsis:=s5.extBut _ _ D.TOz.symm (s4.extBut _ _ D.i2z.symm (s3.extBut _ _ D.TOz.symm (s2.extBut _ _ D.i1z.symm y1)))
 have k5:∀ c o,c ≠ z->c ≠ TO->c ≠ i1->c ≠ i2->s.heap.get? c=some o->h5.get? c=some o:=fun c o c1 c2 c3 c4 e=>s5.extBut _ _ c2 (s4.extBut _ _ c4 (s3.extBut _ _ c2 (s2.extBut _ _ c3 (s1.extBut _ _ c1 e))))
 have m1:h5.IsTupleIter i1 a1 (k+1):=n1.at fun o e=>s5.extBut _ _ D.TOi1.symm (s4.extBut _ _ D.i12 (s3.extBut _ _ D.TOi1.symm e))
 have m2:h5.IsTupleIter i2 a2 (k+1):=n2.at fun o e=>s5.extBut _ _ D.TOi2.symm e
 have lz:z<h5.objs.size:=Heap.lt_size y5
 refine (show wpAny _ _ (Builtin.SmallTypes.ownedTupleHandOut (.ref z) (.ref h5.objs.size) >>= _) _ _ _ from wpAny_bind ?_)
 unfold Builtin.SmallTypes.ownedTupleHandOut
 have y6:IsZip (h5.push { cls:=.type "tuple",data:=.seq #[x,y] }) z TI TO .ellipsis:=Heap.get?_push_of_some _ y5
 refine wpAny_bind (wpAny_setField_rec y6 (by simp) fun h7 p7 s7=>?_)
 have y7:IsZip h7 z TI TO (rawInt h5.objs.size):=p7
 refine wpAny_setField_rec y7 (by simp) fun h8 p8 s8=>?_
 have y8:IsZip h8 z TI TO (rawInt h5.objs.size):=p8
 have up:∀ c o,c ≠ z->h5.get? c=some o->h8.get? c=some o:=fun c o c1 e=>s8.extBut _ _ c1 (s7.extBut _ _ c1 (Heap.get?_push_of_some _ e))
 have t8:IsPair h8 h5.objs.size x y:=s8.extBut _ _ (Nat.ne_of_gt lz) (s7.extBut _ _ (Nat.ne_of_gt lz) (Heap.get?_push_size _ rfl))
 have z8:h8.objs.size=h5.objs.size+1:=by rw [s8.1,s7.1,Heap.size_push]
 rw [zs] at y8 t8 z8
 refine wpAny_pure ⟨_,rfl,?_⟩
 show Q (.ref h5.objs.size) _
 rw [zs]
 exact q h8 y8 (up _ _ D.TOz o5) (m1.at fun o e=>up _ o D.i1z e) (m2.at fun o e=>up _ o D.i2z e) t8 z8 fun c o c1 c2 c3 c4 e=>up c o c1 (k5 c o c1 c2 c3 c4 e)
theorem Rt {z TI TO i1 i2 a1 a2:Addr} {k:Nat} {xs:Array Value} {a b:Value} {Q:Fin->Shared->Prop} (hh:A.handled=none) (D:ZipApart z TI TO i1 i2 a1 a2)
  (hz:IsZip s.heap z TI TO .none) (hI:IsPair s.heap TI (.ref i1) (.ref i2)) (hO:IsPair s.heap TO a b)
  (j1:s.heap.IsTupleIter i1 a1 k) (t1:s.heap.IsTuple a1 xs) (hx:xs[k]? = none)
  (q:∀ h' e,(∀ c o,c ≠ z->c ≠ TO->c ≠ i1->c ≠ i2->s.heap.get? c=some o->h'.get? c=some o)->(∃ o,h'.get? e=some o/\o.cls=.type "StopIteration")->E (.ref e) { s with heap:=h' }) :
  wpAny (model prog w) A (Builtin.«zip.__next__» ⟨[.ref z],[]⟩) Q E s:=by
 refine (show wpAny _ _ (field (.ref z) 2 >>= _) _ _ _ from wpAny_bind (wpAny_field hz rfl (x:=.bool false) rfl (show wpAny _ _ (field (.ref z) 3 >>= _) _ _ _ from wpAny_bind (wpAny_field hz rfl (x:=.ref TI) rfl (wpAny_bind (wpAny_seqItems hI rfl ?_))))))
 refine (show wpAny _ _ (Builtin.SmallTypes.ownedTupleIsFree (.ref z) >>= _) _ _ _ from wpAny_bind ?_)
 unfold Builtin.SmallTypes.ownedTupleIsFree
 refine wpAny_bind (wpAny_field hz rfl (x:=.none) rfl (wpAny_pure ?_))
 simp only [if_true]
 refine wpAny_bind (wpAny_rule (wpAny_bind (wpAny_field hz rfl (x:=.ref TO) rfl (wpAny_bind (wpAny_setField_rec hz (by simp) fun h1 z1 s1=>?_)))))
 have y1:IsZip h1 z TI TO .ellipsis:=z1
 refine wpAny_bind ?_
 simp only [List.zipIdx_cons,List.zipIdx_nil,List.forIn_cons,List.forIn_nil]
 refine wpAny_bind (wpAny_bind (wpAny_onRaise (show wpAny _ _ (Builtin.SmallTypes.nextOf (.ref i1) >>= _) _ _ _ from wpAny_bind (Ju hh (j1.at fun o e=>s1.extBut _ _ D.i1z e) (t1.at fun o e=>s1.extBut _ _ D.l1z e) hx fun h2 x s2 hx2=>?_))))
 obtain ⟨ox,ex,cx⟩:=hx2
 have y2:IsZip h2 z TI TO .ellipsis:=s2 _ _ D.i1z.symm y1
 have nz:x ≠ z:=fun u=>by subst u; rw [y2] at ex; cases ex; simp at cx
 exact wpAny_setField_rec y2 (by simp) fun h3 _ s3=>q h3 x (fun c o c1 _ c3 _ e=>s3.extBut _ _ c1 (s2 _ _ c3 (s1.extBut _ _ c1 e))) ⟨ox,s3.extBut _ _ nz ex,cx⟩
end
noncomputable abbrev fC (h:Heap) (a1:Addr):Heap:=h.push { cls:=.type "tuple_iterator",data:=.fields #[.ref a1,.int 0 0] }
noncomputable abbrev eN (h:Heap) (a1 a2:Addr):Heap:=(fC h a1).push { cls:=.type "tuple_iterator",data:=.fields #[.ref a2,.int 0 0] }
noncomputable abbrev eY (h:Heap) (a1 a2:Addr):Heap:=(eN h a1 a2).push { cls:=.type "tuple",data:=.seq #[.ref h.objs.size,.ref (fC h a1).objs.size] }
noncomputable abbrev fW (h:Heap) (a1 a2:Addr):Heap:=(eY h a1 a2).push { cls:=.type "tuple",data:=.seq #[.none,.none] }
noncomputable abbrev XJ (h:Heap) (a1 a2:Addr):Heap:=(fW h a1 a2).push { cls:=.type "zip",data:=.fields #[.none,.bool false,.bool false,.ref (eN h a1 a2).objs.size,.ref (eY h a1 a2).objs.size] }
theorem TJ (a1 a2:Addr) (xs ys:Array Value):Meets (Builtin.«zip.__new__» ⟨[.type "zip",.ref a1,.ref a2],[]⟩) (fun _ R s=>s.heap.IsTuple a1 xs/\s.heap.IsTuple a2 ys /\
   R (.ok (.ret (.ref (fW s.heap a1 a2).objs.size))) { s with heap:=XJ s.heap a1 a2 }) :=
 .of_wp fun prog w A R s h=>by
  obtain ⟨hp,g,d,tk,os⟩:=s
  obtain ⟨t1,t2,h⟩:=h
  have hsub:=sub_zip
  have u1:Heap.IsTuple (Shared.heap ⟨hp,g,d,tk,os⟩) a1 xs:=t1
  have u2:Heap.IsTuple (Shared.heap ⟨hp.push { cls:=.type "tuple_iterator",data:=.fields #[.ref a1,.int 0 0] },g,d,tk,os⟩) a2 ys:=Heap.IsTuple.at t2 fun o e=>Heap.get?_push_of_some _ e
  wp_walk using wpAny_pyIter_tuple u1,wpAny_pyIter_tuple u2
  exact ⟨_,rfl,h⟩
section
variable {prog:Program} {w:World} {A:Around} {E:Value->Shared->Prop} {s:Shared}
theorem Rb {a1 a2:Addr} {xs ys:Array Value} {Q:Value->Shared->Prop} (t1:s.heap.IsTuple a1 xs) (t2:s.heap.IsTuple a2 ys)
  (q:∀ h' n,n=s.heap.objs.size->IsZip h' (n+4) (n+2) (n+3) .none->IsPair h' (n+2) (.ref n) (.ref (n+1))->IsPair h' (n+3) .none .none->h'.IsTupleIter n a1 0->h'.IsTupleIter (n+1) a2 0->h'.objs.size=n+5 ->
   (∀ c o,s.heap.get? c=some o->h'.get? c=some o)->Q (.ref (n+4)) { s with heap:=h' }):wpAny (model prog w) A (call (.type "zip") [.ref a1,.ref a2]) Q E s:=by
 refine callType_new F.called_zip (by decide) (F.typeCall_zip_2 _ _) (F.newCall_zip_2 _ _) (fun obj=>F.args_object_init_3 obj _ _) F.entry_zip_new (TJ a1 a2 xs ys) ⟨t1,t2,?_⟩
 have z1:(fC s.heap a1).objs.size=s.heap.objs.size+1:=Heap.size_push ..
 have z2:(eN s.heap a1 a2).objs.size=s.heap.objs.size+2:=by rw [Heap.size_push,z1]
 have z3:(eY s.heap a1 a2).objs.size=s.heap.objs.size+3:=by rw [Heap.size_push,z2]
 have z4:(fW s.heap a1 a2).objs.size=s.heap.objs.size+4:=by rw [Heap.size_push,z3]
 have z5:(XJ s.heap a1 a2).objs.size=s.heap.objs.size+5:=by rw [Heap.size_push,z4]
 have g5:(XJ s.heap a1 a2).get? (fW s.heap a1 a2).objs.size=some _:=Heap.get?_push_size _ rfl
 have g4:(XJ s.heap a1 a2).get? (eY s.heap a1 a2).objs.size=some _:=Heap.get?_push_of_some _ (Heap.get?_push_size _ rfl)
 have g3:(XJ s.heap a1 a2).get? (eN s.heap a1 a2).objs.size=some _:=Heap.get?_push_of_some _ (Heap.get?_push_of_some _ (Heap.get?_push_size _ rfl))
 have g2:(XJ s.heap a1 a2).get? (fC s.heap a1).objs.size=some _:=Heap.get?_push_of_some _ (Heap.get?_push_of_some _ (Heap.get?_push_of_some _ (Heap.get?_push_size _ rfl)))
 have g1:(XJ s.heap a1 a2).get? s.heap.objs.size=some _:=Heap.get?_push_of_some _ (Heap.get?_push_of_some _ (Heap.get?_push_of_some _ (Heap.get?_push_of_some _ (Heap.get?_push_size _ rfl))))
 refine (show _/\_ from ?_)
 rw [z2,z3,z4] at g5
 rw [z1,z2] at g3
 rw [z3] at g4
 rw [z1] at g2
 rw [z4]
 exact ⟨⟨_,g5,rfl⟩,q _ _ rfl g5 g3 g4 ⟨_,g1,rfl,rfl⟩ ⟨_,g2,rfl,rfl⟩ z5 fun c o e=>Heap.get?_push_of_some _ (Heap.get?_push_of_some _ (Heap.get?_push_of_some _ (Heap.get?_push_of_some _ (Heap.get?_push_of_some _ e))))⟩
end
end L2
namespace L2
open PySem PySem.Spec PyProof.Rows
noncomputable def Dc (env:Env):List (Str × NameKind)->List (Str × Addr)->List (Str × Addr)
 | [],acc=>acc
 | (n,k)::r,acc=>if k == .free then (match env.cells.lookup n with | some a=>Dc env r ((n,a)::acc) | none=>Dc env r acc) else Dc env r acc
theorem IK {scope:Scope} {env:Env} (h:∀ y∈scope.names,y.2=.free->∃ c,env.cells.lookup y.1=some c):closureFor scope env=pure (Dc env scope.names []):=by
 unfold closureFor
 have key:∀ (l:List (Str × NameKind)) (acc:List (Str × Addr)),(∀ y∈l,y.2=.free->∃ c,env.cells.lookup y.1=some c) ->
   (forIn l acc fun (x:Str × NameKind) (cs:List (Str × Addr))=>(match x with | (name,kind)=>if (kind == NameKind.free)=true then (do let a ← cellOf env name; pure (ForInStep.yield ((name,a)::cs))) else pure (ForInStep.yield cs):Sem (ForInStep (List (Str × Addr)))))=(pure (Dc env l acc):Sem _):=by
  intro l
  induction l with
  | nil=>intro acc _; rfl
  | cons x r ih =>
   intro acc hl
   obtain ⟨n,k⟩:=x
   rw [List.forIn_cons]
   unfold Dc
   by_cases hk:(k == NameKind.free)=true
   ·obtain ⟨c,hc⟩:=hl (n,k) List.mem_cons_self (by simpa using hk)
    have hc':env.cells.lookup n=some c:=hc
    have e:cellOf env n=pure c:=by unfold cellOf; rw [hc']
    simp only [hk,if_true,e,hc']
    exact ih _ fun y hy=>hl y (List.mem_cons_of_mem _ hy)
   ·simp only [hk]
    exact ih _ fun y hy=>hl y (List.mem_cons_of_mem _ hy)
 have:=key scope.names [] h
 exact (congrArg (fun (m:Sem (List (Str × Addr)))=>m >>= fun z=>pure z) this).trans rfl
theorem Ge (env:Env):∀ (l:List (Str × NameKind)) (acc:List (Str × Addr)) (y:Str) (c:Addr),(Dc env l acc).lookup y=some c->acc.lookup y=some c \/ env.cells.lookup y=some c
 | [],_,_,_,h=>.inl h
 | (n,k)::r,acc,y,c,h=>by
  unfold Dc at h
  split at h
  ·split at h
   ·rename_i a ha
    rcases Ge env r _ y c h with z | z
    ·rw [List.lookup_cons] at z
     split at z
     ·rename_i e
      cases z
      have e':y=n:=by simpa using e
      subst e'
      exact .inr ha
     ·exact .inl z
    ·exact .inr z
   ·exact Ge env r _ y c h
  ·exact Ge env r _ y c h
theorem Hj (env:Env):∀ (l:List (Str × NameKind)) (acc:List (Str × Addr)) (y:Str),(acc.lookup y).isSome=true->((Dc env l acc).lookup y).isSome=true
 | [],_,_,h=>h
 | (n,k)::r,acc,y,h=>by
  unfold Dc
  split
  ·split
   ·refine Hj env r _ y ?_
    rw [List.lookup_cons]
    split
    ·rfl
    ·exact h
   ·exact Hj env r _ y h
  ·exact Hj env r _ y h
theorem Eg (env:Env):∀ (l:List (Str × NameKind)) (acc:List (Str × Addr)) (y:Str),(y,NameKind.free)∈l->(env.cells.lookup y).isSome=true->((Dc env l acc).lookup y).isSome=true
 | [],_,_,h,_=>nomatch h
 | (n,k)::r,acc,y,h,hc=>by
  unfold Dc
  rcases List.mem_cons.mp h with e | h
  ·obtain ⟨e1,e2⟩:=Prod.mk.inj e
   subst e1
   subst e2
   rw [if_pos (by decide)]
   split
   ·refine Hj env r _ y ?_
    rw [List.lookup_cons]
    simp
   ·rename_i e
    rw [e] at hc
    cases hc
  ·split
   ·split
    ·exact Eg env r _ y h hc
    ·exact Eg env r _ y h hc
   ·exact Eg env r _ y h hc
end L2
namespace L2
open PySem PySem.Spec PyProof.Rows
noncomputable def Hn (x:Str) (N:List Str):List Str:=N.map fun y=>if y=x then "" else y
noncomputable def CQ (X:Cx) (x:Str) (scope:Scope) (C:Addr) (s₀:Shared) (H₀:Hp) (fp:List Addr):Cx where
 prog:=X.prog
 w:=X.w
 K:=X.K
 mg:=X.mg
 base:=X.base
 A:=X.A
 N:=x::Hn x X.N
 s₀:=s₀
 H₀:=H₀
 env:=compEnvC scope (Dc X.env scope.names []) C X.env
 outer:=X.stack
 stack:=X.stack
 ex:=fp
 fn:=fun _=>false
 calm:=X.calm
 pn:=[]
 xe:=fun _ _=>False
theorem Fj (env:Env) (y:Str):∀ names:List (Str × NameKind),
  (names.map fun (n,k)=>if (k == NameKind.free && env.scope.kind == .function && env.kindOf n == some .cell) then (n,NameKind.cell) else (n,k)).lookup y =
   (names.lookup y).map fun k=>if (k == NameKind.free && env.scope.kind == .function && env.kindOf y == some .cell) then NameKind.cell else k
 | []=>rfl
 | (n,k)::r=>by
  have ih:=Fj env y r
  rw [List.map_cons]
  show List.lookup y ((if (k == NameKind.free && env.scope.kind == .function && env.kindOf n == some .cell)=true then (n,NameKind.cell) else (n,k))::_)=_
  have e0:(if (k == NameKind.free && env.scope.kind == .function && env.kindOf n == some .cell)=true then (n,NameKind.cell) else (n,k))=(n,if (k == NameKind.free && env.scope.kind == .function && env.kindOf n == some .cell)=true then NameKind.cell else k):=by split <;> rfl
  rw [e0,List.lookup_cons,List.lookup_cons]
  cases hx:y == n with
  | true =>
   have e:y=n:=by simpa using hx
   subst e
   rfl
  | false=>exact ih
structure GZ (X:Cx) (x:Str) (scope:Scope):Prop where
 kind:scope.kind=.function
 nocell:∀ y∈scope.names,y.2 ≠ .cell
 names:∀ y∈scope.names,y.2=.local->scope.names.lookup y.1=some .local
 loc:scope.names.lookup x=some .local
 free:∀ y∈scope.names,y.2=.free->X.env.kindOf y.1=some .cell \/ X.env.kindOf y.1=some .free
 nd:(x::Hn x X.N).Nodup
 only:∀ y∈Hn x X.N,scope.names.lookup y ≠ some .local
 noE:scope.names.lookup ("" : Str)=none
section
variable {X:Cx} {pins:List (Addr × Obj)} {σ:St} {H:Hp} {s:Shared} {x:Str} {scope:Scope} {fp:List Addr} {C:Addr}
theorem Ov {h':Heap} {tk:Nat} {m:Str->Option Value} (I:Inv X pins σ H s) (S:GZ X x scope) (hf:∀ b∈fp,Gm X pins H b) (hlt:∀ b∈fp,b<s.heap.objs.size) (hC:s.heap.objs.size<=C) (hn:h'.Ns C m)
  (hk:∀ b o,s.heap.get? b=some o->h'.get? b=some o):Inv (CQ X x scope C s H fp) [] (none::σ) H { s with heap:=h',toks:=tk }:=by
 have cl:∀ y c,(Dc X.env scope.names []).lookup y=some c->X.env.cells.lookup y=some c:=fun y c e=>by
  rcases Ge X.env scope.names [] y c e with z | z
  ·cases z
  ·exact z
 have cellK:∀ c v,s.heap.IsCell c v->h'.IsCell c v:=fun c v ⟨o,ho,hd⟩=>⟨o,hk c o ho,hd⟩
 have look:∀ y,(CQ X x scope C s H fp).env.scope.names.lookup y=(scope.names.lookup y).map fun k=>if (k == NameKind.free && X.env.scope.kind == .function && X.env.kindOf y == some .cell) then NameKind.cell else k:=fun y=>Fj X.env y scope.names
 refine ⟨⟨I.ok.mod,S.kind,I.ok.glob,I.ok.blt,hC,fun y z c e1 e2=>I.ok.inj y z c (cl y c e1) (cl z c e2),fun y hy=>?_,fun y c e _=>(by cases e),fun h=>I.ok.hd h,I.ok.frames,.inl rfl,fun b hb=>?_,I.bs,Nat.le_trans I.ok.bsz I.sz,fun b o e hb=>?_,fun b hb hb'=>?_,I.stack,I.Lf⟩,
  rfl,I.bare,Un.kept hk,⟨m,hn,fun i y v h1 h2 h3=>?_⟩,fun y c e=>?_,I.hok.fresh hC,fun y c e=>I.freeC y c (cl y c e),fun p hp=>absurd (show p∈([]:List (Addr × Obj)) from hp) (by simp),I.hok.kept hk,?_⟩
 ·-- every cell of the block is there
  have hy':(CQ X x scope C s H fp).env.scope.names.lookup y=some .cell \/ (CQ X x scope C s H fp).env.scope.names.lookup y=some .free:=hy
  rw [look y] at hy'
  cases e:scope.names.lookup y with
  | none=>rw [e] at hy'; rcases hy' with z | z <;> cases z
  | some k =>
   have hm:=PySem.mem_of_lookup e
   have hfree:k=.free:=by
    rw [e] at hy'
    cases k with
    | free=>rfl
    | cell=>exact absurd rfl (S.nocell _ hm)
    | _=>rcases hy' with z | z <;> simp at z
   subst hfree
   obtain ⟨c,hc⟩:=I.ok.has y (S.free _ hm rfl)
   exact Option.isSome_iff_exists.mp (Eg X.env scope.names [] y hm (by rw [hc]; rfl))
 ·obtain ⟨f0,f1,f2,f3,f4,f5⟩:=hf b hb
  exact ⟨Nat.ne_of_lt (Nat.lt_of_lt_of_le (hlt b hb) hC),fun y c e=>f4 y c (cl y c e)⟩
 ·obtain ⟨f0,f1,f2,f3,f4,f5⟩:=hf b hb
  rcases f3 with z | z
  ·exact I.ok.noex b o e z
  ·exact absurd (Nat.lt_of_lt_of_le (Heap.lt_size e) (Nat.le_trans I.ok.bsz z)) (Nat.lt_irrefl _)
 ·obtain ⟨f0,f1,f2,f3,f4,f5⟩:=hf b hb
  rcases List.mem_cons.mp (I.Mh b hb') with e | e
  ·exact f1 e
  ·exact f2 e
 ·cases i with
  | zero =>
   have h2':(some none:Option (Option V))=some (some v):=h2
   cases h2'
  | succ i =>
   have h1':(Hn x X.N)[i]? = some y:=h1
   have h2':σ[i]? = some (some v):=h2
   have hmem:y∈Hn x X.N:=List.mem_of_getElem? h1'
   unfold Hn at h1'
   rw [List.getElem?_map] at h1'
   cases e0:X.N[i]? with
   | none=>rw [e0] at h1'; cases h1'
   | some y0 =>
    rw [e0] at h1'
    have h1'':(if y0=x then ("" : Str) else y0)=y:=Option.some.inj h1'
    have h3':(CQ X x scope C s H fp).env.scope.names.lookup y=some .local \/ (CQ X x scope C s H fp).env.scope.names.lookup y=some .cell \/ (CQ X x scope C s H fp).env.scope.names.lookup y=some .free:=h3
    rw [look y] at h3'
    have hy0:y0=y:=by
     by_cases q:y0=x
     ·rw [if_pos q] at h1''
      rw [← h1'',S.noE] at h3'
      rcases h3' with z | z | z <;> cases z
     ·rw [if_neg q] at h1''
      exact h1''
    subst hy0
    cases e:scope.names.lookup y0 with
    | none=>rw [e] at h3'; rcases h3' with z | z | z <;> cases z
    | some k =>
     have hm:=PySem.mem_of_lookup e
     have hfree:k=.free:=by
      rw [e] at h3'
      cases k with
      | free=>rfl
      | cell=>exact absurd rfl (S.nocell _ hm)
      | «local»=>exact absurd e (S.only y0 hmem)
      | _=>rcases h3' with z | z | z <;> simp at z
     subst hfree
     have kd:=S.free _ hm rfl
     obtain ⟨m0,hn0,hl0⟩:=I.loc
     obtain ⟨u,r,l⟩:=hl0 i y0 v e0 h2' (by rcases kd with z | z; exact .inr (.inl z); exact .inr (.inr z))
     refine ⟨u,r,.inr ⟨?_,?_⟩⟩
     ·have hk':(CQ X x scope C s H fp).env.scope.names.lookup y0=some (if (NameKind.free == NameKind.free && X.env.scope.kind == .function && X.env.kindOf y0 == some .cell) then NameKind.cell else NameKind.free):=by
       rw [look y0,e]; rfl
      by_cases c:(NameKind.free == NameKind.free && X.env.scope.kind == .function && X.env.kindOf y0 == some .cell)=true
      ·rw [if_pos c] at hk'; exact .inl hk'
      ·rw [if_neg c] at hk'; exact .inr hk'
     ·rcases l with ⟨lk,_⟩ | ⟨_,c,hc,hcell⟩
      ·exfalso
       rcases kd with z | z <;> (rw [show X.env.kindOf y0=some NameKind.local from lk] at z; cases z)
      ·obtain ⟨c',hc'⟩:=Option.isSome_iff_exists.mp (Eg X.env scope.names [] y0 hm (by rw [hc]; rfl))
       have:=cl y0 c' hc'
       rw [hc] at this
       cases this
       exact ⟨c,hc',cellK c _ hcell⟩
 ·obtain ⟨v,z⟩:=I.cell y c (cl y c e)
  exact ⟨v,cellK c v z⟩
 ·show (none::σ).length=(x::Hn x X.N).length
  simp [Hn,I.len]
end
noncomputable def Nh (X:Cx) (ifs:List Expr) (t:TT):Prop :=
 ∀ (pins:List (Addr × Obj)) (s:Shared) (σ:St) (H:Hp) (Q:Bool->Hp->Prop),Inv X pins σ H s->t σ H Q ->
  wpAny (model X.prog X.w) X.A (forIn ifs true fun c r=>if r=true then do let ok ← isTrue c X.env (eval c X.env); pure (ForInStep.yield ok) else pure (ForInStep.yield r)) (TP X pins σ Q) X.xe s
noncomputable def Vr:TT:=fun _ H Q=>Q true H
theorem Cd {X:Cx}:Nh X [] Vr:=fun _ _ _ H _ I h=>wpAny_tests_nil ⟨H,I,h⟩
theorem Ft {X:Cx} {c:Expr} {t:TT} (h:PT X c t):Nh X [c] t:=fun pins s σ H Q I q=>wpAny_tests_one (h pins s σ H Q I q)
noncomputable def HX (J:It) (σ:St) (H1:Hp) (Q:VK) (tt:TT) (te:TE):Prop:=∀ D,H1 D=none->∃ W:Nat->Nat->List V->Hp->Prop,(∃ m,W 0 m [] (upd H1 D (.lst [])))/\∀ i m ys H2,W i m ys H2 ->
 (J.stop i H2/\Q (.ref D) H2) \/ (J.go i H2/\∀ x H3,J.yld i H2 x H3->tt (some x::σ) H3 fun b H4 =>
  if b=true then te (some x::σ) H4 fun y H5=>H5 D=some (.lst ys)/\ys.length<sizeLine/\∃ m',m'<m/\W (i+1) m' (ys++[y]) (upd H5 D (.lst (ys++[y])))
  else ∃ m',m'<m/\W (i+1) m' ys H4)
noncomputable def WM (wi:TI) (tt:TT) (te:TE):TE:=fun σ H Q=>wi σ H fun J H1=>HX J σ H1 Q tt te
theorem O7 {α:Type} {t:Sem α} {Q Q':α->Shared->Prop} {M:Model} {A:Around} {E:Value->Shared->Prop} {s:Shared} (h:wpAny M A t Q (fun _ _=>False) s) (hQ:∀ a s,Q a s->Q' a s):wpAny M A t Q' E s:=wpAny_mono h hQ fun _ _ x=>x.elim
theorem Inv.sameBut {X:Cx} {pins:List (Addr × Obj)} {σ:St} {H:Hp} {s:Shared} {h':Heap} {C:Addr} (I:Inv X pins σ H s) (f:Gm X pins H C) (sb:Heap.SameBut C s.heap h'):Inv X pins σ H { s with heap:=h' } :=
 I.turned (t':=s.toks) (fun b o hb e=>(sb.2 b hb).trans e) f.1 f.2.1 f.2.2.2.1 f.2.2.2.2.1 f.2.2.2.2.2
section
variable {X:Cx} {x:Str} {scope:Scope}
theorem KJ {px pos:Pos} {iter elt:Expr} {ifs:List Expr} {tt:TT} {te:TE} {pins:List (Addr × Obj)} {σ:St} {s2:Shared} {H2:Hp} {it:Addr} {fp:List Addr} {tn:Nat->Heap->Prop} {J:It} {E:Value->Shared->Prop}
  {RR:Value->Addr->Result->Shared->Prop} {Q:VK}
  (hc:X.calm=true) (S:GZ X x scope) (ht:∀ C s₀ H₀ fp,Nh (CQ X x scope C s₀ H₀ fp) ifs tt) (he:∀ C s₀ H₀ fp,PE (CQ X x scope C s₀ H₀ fp) elt te)
  (I2:Inv X pins σ H2 s2) (T:Turn X.prog X.w X.K (.Name x px) J fp it tn) (st2:tn 0 s2.heap) (f2:∀ b∈fp,Gm X pins H2 b)
  (q:∀ D,H2 D=none->∃ W:Nat->Nat->List V->Hp->Prop,(∃ m,W 0 m [] (upd H2 D (.lst [])))/\∀ i m ys H2,W i m ys H2 ->
   (J.stop i H2/\Q (.ref D) H2) \/ (J.go i H2/\∀ x H3,J.yld i H2 x H3->tt (some x::σ) H3 fun b H4 =>
    if b=true then te (some x::σ) H4 fun y H5=>H5 D=some (.lst ys)/\ys.length<sizeLine/\∃ m',m'<m/\W (i+1) m' (ys++[y]) (upd H5 D (.lst (ys++[y])))
    else ∃ m',m'<m/\W (i+1) m' ys H4))
  (hRR:∀ D C s' H' m,s'.heap.Ns C m->Gm X pins H' C->Inv X pins σ H' s'->Q (.ref D) H'->RR (.ref D) C (.ok .next) s') :
  wpAny (model X.prog X.w) X.A (newList []) (fun acc s₃=>wpAny (model X.prog X.w) X.A (newFunctionEnv scope X.env.globals (Dc X.env scope.names []) [] X.env.qual none .none (some X.env)) (fun cenv s₄ =>
   codeAny (model X.prog X.w) X.A (.compStart (.ListComp elt [⟨.Name x px,iter,ifs,0⟩] scope pos) 0 (.ref it) acc { cenv with scope:=relabel scope X.env }) (RR acc cenv.locals) s₄) E s₃) E s2:=by
 refine wpAny_newObj_type (wpAny_newFunctionEnv S.nocell (by intro y hy; simp at hy) (fun h₁ hns₁ hsb₁=>?_) S.kind)
 have I3:=I2.Xu (its:=[]) (ys:=[]) (t':=s2.toks) .nil (Nat.zero_le _)
 have hD0:H2 s2.heap.objs.size=none:=I2.fresh
 obtain ⟨W,⟨m0,w0⟩,turn⟩:=q _ hD0
 generalize hs3:({ s2 with heap:=s2.heap.push { cls:=.type "list",data:=.seq ([]:List Value).toArray },toks:=s2.toks }:Shared)=s3 at I3
 have e3:s3.heap=s2.heap.push { cls:=.type "list",data:=.seq ([]:List Value).toArray }:=by rw [← hs3]
 have hlt:∀ b∈fp,b<s2.heap.objs.size:=fun b hb=>let ⟨_,e,_⟩:=T.obj _ _ st2 b hb; Heap.lt_size e
 have hlt3:∀ b∈fp,b<s3.heap.objs.size:=fun b hb=>by rw [e3,Heap.size_push]; exact Nat.lt_succ_of_lt (hlt b hb)
 have f3:∀ b∈fp,Gm X pins (upd H2 s2.heap.objs.size (.lst [])) b:=fun b hb=>⟨by rw [BW (Nat.ne_of_lt (hlt b hb))]; exact (f2 b hb).1,(f2 b hb).2⟩
 have hk1:∀ b o,s3.heap.get? b=some o->h₁.get? b=some o:=fun b o e=>by
  have hne:b ≠ s3.heap.objs.size:=Nat.ne_of_lt (Heap.lt_size e)
  rw [e3] at e hne
  exact hsb₁.extBut b o hne (Heap.get?_push_of_some _ e)
 have hC:s3.heap.objs.size=(s2.heap.push { cls:=.type "list",data:=.seq ([]:List Value).toArray }).objs.size:=by rw [e3]
 have hns:h₁.Ns s3.heap.objs.size (fun x=>([]:List (Str × Value)).reverse.lookup x):=by rw [hC]; exact hns₁
 have st3:tn 0 h₁:=T.keep _ _ _ st2 fun b hb o e=>hk1 b o (by rw [e3]; exact Heap.get?_push_of_some _ e)
 have hDC:s2.heap.objs.size ≠ s3.heap.objs.size:=by rw [e3,Heap.size_push]; exact Nat.ne_of_lt (Nat.lt_succ_self _)
 have start:∀ tk,Inv (CQ X x scope s3.heap.objs.size s3 (upd H2 s2.heap.objs.size (.lst [])) fp) [] (none::σ) (upd H2 s2.heap.objs.size (.lst [])) { s3 with heap:=h₁,toks:=tk }:=fun tk =>
  Ov I3 S f3 hlt3 (Nat.le_refl _) hns hk1
 generalize hX:CQ X x scope s3.heap.objs.size s3 (upd H2 s2.heap.objs.size (.lst [])) fp=X' at start
 have eA:X'.A=X.A:=by rw [← hX]; rfl
 have eP:X'.prog=X.prog:=by rw [← hX]; rfl
 have eW:X'.w=X.w:=by rw [← hX]; rfl
 have eK:X'.K=X.K:=by rw [← hX]; rfl
 have eC:X'.env.locals=s3.heap.objs.size:=by rw [← hX]; rfl
 have loop:∀ tk,codeAny (model X.prog X.w) X.A (.compLoop (.ListComp elt [⟨.Name x px,iter,ifs,0⟩] scope pos) 0 (.ref it) (.ref s2.heap.objs.size) (compEnvC scope (Dc X.env scope.names []) s3.heap.objs.size X.env))
   (RR (.ref s2.heap.objs.size) s3.heap.objs.size) { s3 with heap:=h₁,toks:=tk }:=by
  intro tk
  subst hX
  refine codeAny_compLoop_tests (fun n s'=>∃ i ys v0 H',Inv (CQ X x scope s3.heap.objs.size s3 (upd H2 s2.heap.objs.size (.lst [])) fp) [] (v0::σ) H' s'/\tn i s'.heap/\(∀ b∈fp,H' b=none)/\W i n ys H') ?_ m0
   ⟨0,[],none,_,start tk,st3,fun b hb=>(f3 b hb).1,w0⟩
  rintro n s4 ⟨i,ys,v0,H4,I4,st4,fr4,w4⟩
  have stat:∀ {H':Hp},(∀ b∈fp,H' b=none)->∀ b∈fp,Gm (CQ X x scope s3.heap.objs.size s3 (upd H2 s2.heap.objs.size (.lst [])) fp) [] H' b:=fun hn b hb=>by
   refine ⟨hn b hb,(I4.ok.exf b hb).1,I4.ok.exfs b hb,.inl hb,(I4.ok.exf b hb).2,fun p hp=>absurd (show p∈([]:List (Addr × Obj)) from hp) (by simp)⟩
  rcases turn i n ys H4 w4 with ⟨stop,qn⟩ | ⟨go,step⟩
  ·refine CJ (T.done (CQ X x scope s3.heap.objs.size s3 (upd H2 s2.heap.objs.size (.lst [])) fp) rfl rfl rfl hc i [] s4 (v0::σ) H4 _ I4 (stat fr4) st4 stop) fun r s5 ⟨hr,I5⟩=>?_
   subst hr
   obtain ⟨m,hn,_⟩:=I5.loc
   refine hRR _ _ s5 H4 m hn (I3.Kc (Nat.le_refl _) I5.free) (I3.call' (s':=s5) (ch:=fp) I5.os I5.base I5.hok I5.bare (fun b hb=>?_)) qn
   obtain ⟨_,g1,_,g3,g4,g5⟩:=f3 b hb
   exact ⟨g3,g1,g4,g5⟩
  ·refine CJ (T.item (CQ X x scope s3.heap.objs.size s3 (upd H2 s2.heap.objs.size (.lst [])) fp) rfl rfl rfl hc i [] s4 (v0::σ) H4 _ I4 (stat fr4) st4 go) fun r s5 ⟨u,hr,h5⟩=>?_
   subst hr
   intro Γ p hΓ
   obtain ⟨xv,H6,I6,r6,y6,st6,fr6⟩:=h5 Γ p hΓ
   refine (?_:wpAny _ _ _ _ _ _) Γ p hΓ
   have I6':=I6.pinned (stat fr6) (T.obj _ _ st6)
   have hloc:(CQ X x scope s3.heap.objs.size s3 (upd H2 s2.heap.objs.size (.lst [])) fp).env.scope.names.lookup x=some .local:=lookup_relabel_local S.loc
   have again:∀ {s7:Shared} {H7:Hp} {ys':List V},Inv (CQ X x scope s3.heap.objs.size s3 (upd H2 s2.heap.objs.size (.lst [])) fp) ([]++JM fp s5.heap) (some xv::σ) H7 s7->(∃ m',m'<n/\W (i+1) m' ys' H7) ->
     ∃ m,m<n/\∃ i ys v0 H',Inv (CQ X x scope s3.heap.objs.size s3 (upd H2 s2.heap.objs.size (.lst [])) fp) [] (v0::σ) H' s7/\tn i s7.heap/\(∀ b∈fp,H' b=none)/\W i m ys H':=fun {s7 H7 ys'} I7 hw=>by
    obtain ⟨m',hm,w7⟩:=hw
    refine ⟨m',hm,i+1,ys',some xv,H7,I7.HS,T.keep _ _ _ st6 fun b hb o e=>(I7.pin (b,o) (List.mem_append_right _ (List.mem_append_right _ (Ei hb e)))).1,fun b hb=>?_,w7⟩
    obtain ⟨o,e,d⟩:=T.obj _ _ st6 b hb
    exact (I7.pin (b,o) (List.mem_append_right _ (List.mem_append_right _ (Ei hb e)))).2.1
   refine wpAny_assign_Name (Jx (X:=CQ X x scope s3.heap.objs.size s3 (upd H2 s2.heap.objs.size (.lst [])) fp) (i:=0) I6' S.nd rfl (.inl hloc) r6 (fun s7 I7=>?_) (.inr hloc))
   refine O7 (ht _ _ _ _ _ s7 (some xv::σ) H6 _ I7 (step xv H6 y6)) fun b s8 hq0=>?_
   obtain ⟨H8,I8,q8⟩:=hq0
   cases b with
   | false =>
    rw [if_neg Bool.false_ne_true] at q8 ⊢
    exact again I8 q8
   | true =>
    rw [if_pos rfl] at q8 ⊢
    refine O7 (he _ _ _ _ _ s8 (some xv::σ) H8 _ I8 q8) fun y s9 hq0=>?_
    obtain ⟨yv,H9,I9,r9,hD9,hz9,q9⟩:=hq0
    refine O7 (CG (X:=CQ X x scope s3.heap.objs.size s3 (upd H2 s2.heap.objs.size (.lst [])) fp) _ s9 (some xv::σ) H9 (.ref s2.heap.objs.size) [yv] (.ref s2.heap.objs.size) [y] (fun _ H'=>H'=upd H9 s2.heap.objs.size (.lst (ys++[yv]))) I9 rfl (.cons r9 .nil)
     ⟨_,ys,yv,rfl,rfl,hD9,hz9,rfl⟩) fun _ s10 ⟨_,H10,I10,_,e10⟩=>?_
    subst e10
    exact again I10 q9
 have key:=fun tk=>codeAny_compStart_list (R:=RR (.ref s2.heap.objs.size) s3.heap.objs.size) (loop tk) (T.self X.A 0 { s3 with heap:=h₁,toks:=tk } (fun it' s'=>codeAny (model X.prog X.w) X.A (.compLoop (.ListComp elt [⟨.Name x px,iter,ifs,0⟩] scope pos) 0 it' (.ref s2.heap.objs.size) (compEnvC scope (Dc X.env scope.names []) s3.heap.objs.size X.env)) (RR (.ref s2.heap.objs.size) s3.heap.objs.size) s') _ st3 (loop tk))
 subst hs3
 exact key _
theorem Bu {px pos:Pos} {iter elt:Expr} {ifs:List Expr} {wi:TI} {tt:TT} {te:TE} (hc:X.calm=true) (S:GZ X x scope) (hi:PI X (.Name x px) iter wi)
  (ht:∀ C s₀ H₀ fp,Nh (CQ X x scope C s₀ H₀ fp) ifs tt) (he:∀ C s₀ H₀ fp,PE (CQ X x scope C s₀ H₀ fp) elt te) (hs:∀ x,foldedSetIterable iter X.env x=pure x:=by intro _; rfl) :
  PE X (.ListComp elt [⟨.Name x px,iter,ifs,0⟩] scope pos) (WM wi tt te):=by
 intro pins s σ H Q I h
 rw [eval_ListComp]
 refine wpAny_comprehension_free (use:=none) (cl:=Dc X.env scope.names []) rfl hs (IK fun y hy hk=>I.ok.has y.1 (S.free y hy hk)) S.kind S.names (CJ (hi pins s σ H _ I h) fun v s1 h1=>CJ h1 fun itv s2 h2=>?_)
 obtain ⟨it,fp,tn,J,H2,e,I2,T,st2,f2,q⟩:=h2
 subst e
 refine KJ (RR:=fun acc C=>compPost (model X.prog X.w) X.A X.xe none (EP X pins σ Q) acc C) (Q:=Q) hc S ht he I2 T st2 f2 q ?_
 intro D C s' H' m hn hf hI hq
 exact ⟨m,hn,fun h' sb=>⟨.ref D,H',hI.sameBut hf sb,rfl,hq⟩⟩
theorem Gk {i:Nat} {y:Str} {px py pos spos:Pos} {iter elt:Expr} {ifs:List Expr} {wi:TI} {tt:TT} {te:TE} (hN:X.N.Nodup) (hi':X.N[i]? = some y) (hy:X.env.scope.names.lookup y=some .local) (hc:X.calm=true) (S:GZ X x scope) (hi:PI X (.Name x px) iter wi)
  (ht:∀ C s₀ H₀ fp,Nh (CQ X x scope C s₀ H₀ fp) ifs tt) (he:∀ C s₀ H₀ fp,PE (CQ X x scope C s₀ H₀ fp) elt te) (hsw:swapsWith (.ListComp elt [⟨.Name x px,iter,ifs,0⟩] scope pos) (some (.Name y py)) spos.line X.env=pure true:=by rfl) (hs:∀ x,foldedSetIterable iter X.env x=pure x:=by intro _; rfl) :
  PS X (.Assign [.Name y py] (.ListComp elt [⟨.Name x px,iter,ifs,0⟩] scope pos) spos) (Vd (WM wi tt te) (DX i)):=by
 intro pins s σ H D' I h
 rw [exec_Assign_Name_used _ _ _ _ hsw]
 refine wpAny_bind (wpAny_standAt (wpAny_bind ?_))
 show wpAny _ X.A (do let _ ← comprehension (.ListComp elt [⟨.Name x px,iter,ifs,0⟩] scope pos) scope X.env _ (newList []) false (eval iter X.env) (some (assign (.Name y py) X.env))) _ _ s
 refine wpAny_bind (wpAny_mono (wpAny_comprehension_free (use:=some (assign (.Name y py) X.env)) (cl:=Dc X.env scope.names []) (Q:=fun _ s'=>SP X pins D' .next s') rfl hs (IK fun y hy hk=>I.ok.has y.1 (S.free y hy hk)) S.kind S.names
  (CJ (hi pins s σ H _ I h) fun v s1 h1=>CJ h1 fun itv s2 h2=>?_)) (fun _ s' hq=>wpAny_pure (wpAny_pure hq)) fun _ _ e=>e)
 obtain ⟨it,fp,tn,J,H2,e,I2,T,st2,f2,q⟩:=h2
 subst e
 refine KJ (RR:=fun acc C=>compPost (model X.prog X.w) X.A X.xe (some (assign (.Name y py) X.env)) (fun _ s'=>SP X pins D' .next s') acc C) (Q:=fun x H1=>DX i x σ H1 D'.nx) hc S ht he I2 T st2 f2 q ?_
 intro D C s' H' m hn hf hI hq
 show wpAny _ X.A (assign (.Name y py) X.env (.ref D)) _ _ _
 refine wpAny_assign_Name (Kq hI hN hi' (.inl hy) (v:=.ref D) rfl (fun s6 I6 hch=>?_) (.inr hy))
 obtain ⟨a,sb,ha⟩:=hch
 have hCa:C ≠ a:=by
  rcases ha with z | z
  ·rw [z]; exact hf.2.1
  ·exact Ne.symm (hf.2.2.2.2.1 y a z)
 exact ⟨m,hn.sameBut sb hCa,fun h' sb'=>⟨_,H',I6.sameBut hf sb',hq⟩⟩
end
end L2
namespace L2
open PySem PySem.Spec PyProof.Rows
section
variable {σ:St} {H1:Hp} {Q:VK} {tt:TT} {te:TE}
theorem Iu {J:It} {xs:List V} (p:V->Bool) (f:V->V) (hz:xs.length<sizeLine)
  (hgo:∀ i H x,An H1 H->xs[i]? = some x->J.go i H) (hy:∀ i H y H',An H1 H->i<xs.length->J.yld i H y H'->H'=H/\xs[i]? = some y) (hstop:∀ H,An H1 H->J.stop xs.length H)
  (ht:∀ x∈xs,∀ H,An H1 H->∀ R:Bool->Hp->Prop,(∀ H',An H H'->R (p x) H')->tt (some x::σ) H R)
  (he:∀ x∈xs,p x=true->∀ H,An H1 H->∀ R:VK,(∀ H',An H H'->R (f x) H')->te (some x::σ) H R)
  (hq:∀ D H,H1 D=none->An H1 H->H D=some (.lst ((xs.filter p).map f))->Q (.ref D) H):HX J σ H1 Q tt te:=by
 intro D hD
 have s0:An H1 (upd H1 D (.lst [])):=fun b o e=>by rw [BW (BL e hD)]; exact e
 refine ⟨fun i m ys H=>m=xs.length - i/\i<=xs.length/\ys=((xs.take i).filter p).map f/\H D=some (.lst ys)/\An H1 H,⟨xs.length,by simp,Nat.zero_le _,by simp,Ak,s0⟩,?_⟩
 rintro i m ys H ⟨rfl,hi,rfl,hd,hs⟩
 by_cases hlt:i<xs.length
 ·obtain ⟨x,hx⟩:∃ x,xs[i]? = some x:=⟨xs[i],by simp [hlt]⟩
  refine .inr ⟨hgo i H x hs hx,fun y H3 hyl=>?_⟩
  obtain ⟨rfl,hy'⟩:=hy i H y H3 hs hlt hyl
  rw [hx] at hy'
  cases hy'
  have hm:x∈xs:=List.mem_of_getElem? hx
  have hlen:(((xs.take i).filter p).map f).length<sizeLine:=by
   rw [List.length_map]
   refine Nat.lt_of_le_of_lt (List.length_filter_le _ _) (Nat.lt_of_le_of_lt ?_ hz)
   rw [List.length_take]; omega
  refine ht x hm _ hs _ fun H4 s4=>?_
  by_cases hp:p x=true
  ·rw [if_pos hp]
   refine he x hm hp H4 (hs.trans s4) _ fun H5 s5=>?_
   refine ⟨s5 _ _ (s4 _ _ hd),hlen,xs.length - (i+1),by omega,rfl,hlt,?_,Ak,fun b o e=>?_⟩
   ·rw [take_succ_filter p xs i x hx,if_pos hp,List.map_append]; rfl
   ·rw [BW (BL e hD)]; exact s5 _ _ (s4 _ _ (hs _ _ e))
  ·rw [if_neg hp]
   refine ⟨xs.length - (i+1),by omega,rfl,hlt,?_,s4 _ _ hd,hs.trans s4⟩
   rw [take_succ_filter p xs i x hx,if_neg hp,List.append_nil]
 ·have e:i=xs.length:=by omega
  subst e
  rw [List.take_length] at hd
  exact .inl ⟨hstop H hs,hq D H hD hs hd⟩
theorem Dw {lo:Int} {n:Nat} (p:Int->Bool) (f:Int->V) (hz:n<sizeLine)
  (ht:∀ i:Nat,i<n->∀ H,An H1 H->∀ R:Bool->Hp->Prop,(∀ H',An H H'->R (p (lo+i)) H')->tt (some (.int (lo+i))::σ) H R)
  (he:∀ i:Nat,i<n->p (lo+i)=true->∀ H,An H1 H->∀ R:VK,(∀ H',An H H'->R (f (lo+i)) H')->te (some (.int (lo+i))::σ) H R)
  (hq:∀ D H,H1 D=none->An H1 H->H D=some (.lst ((((List.range n).map fun (i:Nat)=>lo+(i:Int)).filter p).map f))->Q (.ref D) H):HX (W7 lo n) σ H1 Q tt te:=by
 let g:V->Int:=fun v=>match v with | .int i=>i | _=>0
 have hxs:∀ i:Nat,i<n->((List.range n).map fun (i:Nat)=>V.int (lo+(i:Int)))[i]? = some (.int (lo+i)):=fun i hi=>by simp [hi]
 refine Iu (xs:=(List.range n).map fun (i:Nat)=>V.int (lo+(i:Int))) (fun v=>p (g v)) (fun v=>f (g v)) (by simpa using hz) (fun i H x _ hx=>?_) (fun i H y H' _ hi hy=>?_) (fun H _=>?_) (fun x hx=>?_) (fun x hx=>?_) (fun D H h1 h2 h3=>?_)
 ·have:i<((List.range n).map fun (i:Nat)=>V.int (lo+(i:Int))).length:=(List.getElem?_eq_some_iff.mp hx).1
  show i<n
  simpa using this
 ·have hi':i<n:=by simpa using hi
  obtain ⟨e1,e2⟩:=hy
  subst e2
  exact ⟨e1,hxs i hi'⟩
 ·show n<=_
  simp
 ·obtain ⟨i,hi,rfl⟩:=List.mem_map.mp hx
  exact ht i (List.mem_range.mp hi)
 ·obtain ⟨i,hi,rfl⟩:=List.mem_map.mp hx
  exact he i (List.mem_range.mp hi)
 ·refine hq D H h1 h2 ?_
  rw [h3,List.filter_map,List.map_map,List.filter_map,List.map_map]
  rfl
noncomputable def fB (z:Str):It:=⟨fun i _=>i<z.cps.size,fun i H x H'=>H'=H/\∃ c,z.cps[i]? = some c/\x=.str ⟨#[c]⟩,fun i _=>z.cps.size<=i⟩
theorem Sv {P:Program} {w:World} {K:PySem.W.Frag} {tg:Expr} {z:Str} {t0:Tok} {it:Addr} {ty:String} (hty:ty = "str_ascii_iterator" \/ ty = "str_iterator"):Turn P w K tg (fB z) [it] it (fun i h=>h.IsStrIter it ty z t0 i) where
 mem:=by simp
 obj:=fun i h st b hb=>by
  have e:b=it:=by simpa using hb
  subst e
  obtain ⟨o,ho,hc,hd⟩:=st
  exact ⟨o,ho,fun v q=>by rw [hd] at q; cases q⟩
 keep:=fun i h h' st k=>let ⟨o,ho,r⟩:=st; ⟨o,k it (by simp) o ho,r⟩
 item:=by
  intro X hP hw hK hc i pins s σ H E I hf st hg
  subst hP hw hK
  obtain ⟨f0,f1,f2,f3,f4,f5⟩:=hf it (by simp)
  have hg':i<z.cps.size:=hg
  have hx:z.cps[i]? = some z.cps[i]:=Array.getElem?_eq_getElem hg'
  have fin:∀ h',h'.IsStrIter it ty z t0 (i+1)->Heap.SameBut it s.heap h'->∃ u,some (Value.str ⟨#[z.cps[i]]⟩ s.toks)=some u /\
    wpAny (model X.prog X.w) X.A (letOwnedTupleGo tg (.ref it) u) (fun _ s2=>∃ x H',Inv X pins σ H' s2/\RelV x u/\(fB z).yld i H x H'/\s2.heap.IsStrIter it ty z t0 (i+1)/\∀ b∈[it],H' b=none) E { s with heap:=h',toks:=s.toks+1 }:=fun h' st' sb=>by
   have I1:Inv X pins σ H { s with heap:=h',toks:=s.toks+1 }:=I.turned (fun b o hb e=>(sb.2 b hb).trans e) f0 f1 f3 f4 f5
   obtain ⟨o,e,c,d⟩:=id st'
   refine ⟨_,rfl,Nj (s:={ s with heap:=h',toks:=s.toks+1 }) e c d (by rcases hty with rfl | rfl <;> decide) ⟨.str ⟨#[z.cps[i]]⟩,H,I1,⟨_,rfl⟩,⟨rfl,_,hx,rfl⟩,st',fun b hb=>(hf b hb).1⟩⟩
  rcases hty with rfl | rfl
  ·exact wpAny_pyNext_ascii_item st hx fin
  ·exact wpAny_pyNext_wide_item st hx fin
 done:=by
  intro X hP hw hK hc i pins s σ H E I hf st hg
  subst hP hw hK
  obtain ⟨f0,f1,f2,f3,f4,f5⟩:=hf it (by simp)
  have hx:z.cps[i]? = none:=by
   have hg':z.cps.size<=i:=hg
   simpa using hg'
  rcases hty with rfl | rfl
  ·exact wpAny_pyNext_ascii_end (I.ok.hd hc) st hx fun h' eb=>⟨rfl,I.turned (t':=s.toks) (fun b o hb e=>eb b o hb e) f0 f1 f3 f4 f5⟩
  ·exact wpAny_pyNext_wide_end (I.ok.hd hc) st hx fun h' eb=>⟨rfl,I.turned (t':=s.toks) (fun b o hb e=>eb b o hb e) f0 f1 f3 f4 f5⟩
 self:=fun A i s Q E st h=>by
  rcases hty with rfl | rfl
  ·exact wpAny_pyIter_striter_ascii st h
  ·exact wpAny_pyIter_striter_wide st h
end
section
variable {X:Cx} {tg:Expr}
noncomputable def jH (tl:TE):TI:=fun σ H R=>tl σ H fun x H1=>∃ z,x=.str z/\R (fB z) H1
theorem Yb {l:Expr} {tl:TE} (hl:PE X l tl):PI X tg l (jH tl):=by
 intro pins s σ H R I h
 refine CJ (hl pins s σ H _ I h) fun v s1 hq0=>?_
 obtain ⟨x,H1,I1,r1,q1⟩:=hq0
 obtain ⟨z,e,q⟩:=q1
 subst e
 obtain ⟨t,rfl⟩:=r1
 have fin:∀ ty,(ty = "str_ascii_iterator" \/ ty = "str_iterator")->PIE X pins σ tg R (.ref s1.heap.objs.size) { s1 with heap:=s1.heap.push { cls:=.type ty,data:=.fields #[.str z t,.int 0 0] } }:=fun ty hty=>by
  refine ⟨s1.heap.objs.size,[s1.heap.objs.size],_,_,H1,rfl,I1.kept (t':=s1.toks) fun b o e=>Heap.get?_push_of_some _ e,Sv (z:=z) (t0:=t) hty,⟨_,Heap.get?_push_size _ rfl,rfl,rfl⟩,fun b hb=>?_,q⟩
  have e:b=s1.heap.objs.size:=by simpa using hb
  subst e
  exact I1.Kc (Nat.le_refl _) (I1.hok.fresh (Nat.le_refl _))
 cases ha:z.cps.all (· < 128)
 ·exact wpAny_pyIter_wide ha (fin _ (.inr rfl))
 ·exact wpAny_pyIter_ascii ha (fin _ (.inl rfl))
end
section
variable {σ:St} {H1:Hp} {Q:VK} {tt:TT} {te:TE}
noncomputable def sgn (c:Nat):V:=.str ⟨#[c]⟩
theorem Rw {z:Str} (p:Nat->Bool) (f:Nat->V) (hz:z.length<sizeLine)
  (ht:∀ c∈z.cps.toList,∀ H,An H1 H->∀ R:Bool->Hp->Prop,(∀ H',An H H'->R (p c) H')->tt (some (sgn c)::σ) H R)
  (he:∀ c∈z.cps.toList,p c=true->∀ H,An H1 H->∀ R:VK,(∀ H',An H H'->R (f c) H')->te (some (sgn c)::σ) H R)
  (hq:∀ D H,H1 D=none->An H1 H->H D=some (.lst ((z.cps.toList.filter p).map f))->Q (.ref D) H):HX (fB z) σ H1 Q tt te:=by
 let g:V->Nat:=fun v=>match v with | .str y=>y.cps.getD 0 0 | _=>0
 refine Iu (xs:=z.cps.toList.map sgn) (fun v=>p (g v)) (fun v=>f (g v)) (by simpa [Str.length] using hz) (fun i H x _ hx=>?_) (fun i H y H' _ hi hy=>?_) (fun H _=>?_) (fun x hx=>?_) (fun x hx=>?_) (fun D H h1 h2 h3=>?_)
 ·have:i<(z.cps.toList.map sgn).length:=(List.getElem?_eq_some_iff.mp hx).1
  show i<z.cps.size
  simpa using this
 ·obtain ⟨e1,c,hc,rfl⟩:=hy
  refine ⟨e1,?_⟩
  rw [List.getElem?_map,Array.getElem?_toList,hc]; rfl
 ·show z.cps.size<=_
  simp
 ·obtain ⟨c,hc,rfl⟩:=List.mem_map.mp hx
  exact ht c hc
 ·obtain ⟨c,hc,rfl⟩:=List.mem_map.mp hx
  exact he c hc
 ·refine hq D H h1 h2 ?_
  rw [h3,List.filter_map,List.map_map]
  rfl
end
section
variable {X:Cx}
theorem range_all (bs:List Bool):((List.range bs.length).all fun i=>(bs[i]?).getD true)=bs.all id:=by
 rw [Bool.eq_iff_iff,List.all_eq_true,List.all_eq_true]
 constructor
 ·intro h b hb
  obtain ⟨i,hi,e⟩:=List.mem_iff_getElem.mp hb
  have:=h i (List.mem_range.mpr hi)
  rw [List.getElem?_eq_getElem hi,e] at this
  exact this
 ·intro h i hi
  have hi':=List.mem_range.mp hi
  rw [List.getElem?_eq_getElem hi']
  exact h _ (List.getElem_mem hi')
theorem KD (hc:X.calm=true):Fo X (.builtin "all") (fun xs H Q=>∃ (p:Addr) (bs:List Bool),xs=[V.ref p]/\CK X.K H p (bs.map V.bl)/\Q (.bl (bs.all id)) H):=by
 intro pins s σ H xs us Q I r h
 obtain ⟨p,bs,rfl,hp,q⟩:=h
 obtain ⟨u,rfl,ru⟩:=vals1 r
 cases ru
 obtain ⟨its,rv,pl,hz⟩:=I.list hp
 have hlen:bs.length=its.length:=by have:=rv.length; rw [List.length_map] at this; exact this
 have hlt:p<s.heap.objs.size:=by obtain ⟨_,e,_⟩:=pl.isList; exact Heap.lt_size e
 refine call_all_walk (wpAny_pyIter_list pl.isList ?_)
 refine ⟨s.heap.objs.size,[s.heap.objs.size,p],[s.heap.objs.size],its.toArray.size,_,_,fun i=>(bs[i]?).getD true,rfl,Walks.list (A:=X.A.in1) (I.ok.hd hc) _ p (Nat.ne_of_lt hlt) its.toArray,
  ⟨⟨_,Heap.get?_push_size _ rfl,rfl,rfl⟩,pl.isList.push _⟩,fun i v s' Q' E' hP hQ=>?_,fun h' tk hk=>?_⟩
 ·have hP':its[i]? = some v:=by simpa using hP
  have hi:i<its.length:=(List.getElem?_eq_some_iff.mp hP').1
  have hb:bs[i]? = some bs[i]:=by simp [hlen,hi]
  obtain ⟨u,hu,ru⟩:=rv.get (i:=i) (x:=.bl bs[i]) (by rw [List.getElem?_map,hb]; rfl)
  rw [hP'] at hu
  cases hu
  cases ru
  dsimp only at hQ
  rw [hb] at hQ
  exact wpAny_truthy_bool hQ
 ·have e:((List.range its.toArray.size).all fun i=>(bs[i]?).getD true)=bs.all id:=by rw [List.size_toArray,← hlen]; exact range_all bs
  rw [e]
  refine ⟨.bl (bs.all id),H,I.kept (t':=tk) fun b o eb=>hk b o (fun hm=>?_) (Heap.get?_push_of_some _ eb),rfl,q⟩
  rw [List.mem_singleton.mp hm] at eb
  exact Nat.lt_irrefl _ (Heap.lt_size eb)
theorem Ci:Fo X (.builtin "isinstance") (fun xs H Q=>∃ x T t b,xs=[x,V.ty T]/\JF X.K H x t/\PySem.W.kitOne X.K t (.type T)=some b/\Q (.bl b) H):=by
 intro pins s σ H xs us Q I r h
 obtain ⟨x,T,t,b,rfl,ty,e,q⟩:=h
 obtain ⟨u,v,rfl,ru,rv⟩:=Vals.two r
 cases rv
 exact Q5 I ru ty e fun tk=>⟨.bl b,H,I.tok _,rfl,q⟩
theorem T_:eG X (fun x lo hi H Q=>∃ z,x=.str z/\z.length<=sizeLine/\Q (.str (Txt.slice z lo hi)) H):=by
 intro pins s σ H x v vl vu lo hi sl Q I rx hs pl pu h
 obtain ⟨z,rfl,hz,q⟩:=h
 obtain ⟨t,rfl⟩:=rx
 refine ⟨"str",_,F.slot_str_getitem.lookup,typeIs_str _ _ _,?_⟩
 have fin:∀ t' k,EP X pins σ Q (.str (Txt.slice z lo hi) t') { s with toks:=k }:=fun t' k=>⟨.str _,H,I.tok _,⟨_,rfl⟩,q⟩
 cases pl with
 | none =>
  cases pu with
  | none=>exact wpAny_getItem_str_slice (l:=none) (u:=none) (st:=none) hs rfl (post_val_or_str ⟨Nat.le_trans (Txt.slice_le z _ _) hz,fin⟩)
  | int j uj=>exact wpAny_getItem_str_slice (l:=none) (u:=some (j,uj)) (st:=none) hs rfl (post_val_or_str ⟨Nat.le_trans (Txt.slice_le z _ _) hz,fin⟩)
 | int i ui =>
  cases pu with
  | none=>exact wpAny_getItem_str_slice (l:=some (i,ui)) (u:=none) (st:=none) hs rfl (post_val_or_str ⟨Nat.le_trans (Txt.slice_le z _ _) hz,fin⟩)
  | int j uj=>exact wpAny_getItem_str_slice (l:=some (i,ui)) (u:=some (j,uj)) (st:=none) hs rfl (post_val_or_str ⟨Nat.le_trans (Txt.slice_le z _ _) hz,fin⟩)
end
noncomputable def QT (x:Str) (scope osc:Scope) (N:List Str):Bool :=
 (scope.kind == .function) && scope.names.all (fun y=>y.2 != .cell) && scope.names.all (fun y=>y.2 != .local || scope.names.lookup y.1 == some .local) && (scope.names.lookup x == some .local) &&
 scope.names.all (fun y=>y.2 != .free || osc.names.lookup y.1 == some .cell || osc.names.lookup y.1 == some .free) && decide ((x::Hn x N).Nodup) && (Hn x N).all (fun y=>scope.names.lookup y != some .local) && (scope.names.lookup ("" : Str) == none)
theorem Bc {X:Cx} {x:Str} {scope osc:Scope} {N:List Str} (hsc:X.env.scope=osc) (hN:X.N=N) (h:QT x scope osc N=true):GZ X x scope:=by
 unfold QT at h
 simp only [Bool.and_eq_true] at h
 obtain ⟨⟨⟨⟨⟨⟨⟨h1,h2⟩,h3⟩,h4⟩,h5⟩,h6⟩,h7⟩,h8⟩:=h
 rw [List.all_eq_true] at h2 h3 h5 h7
 have kd:∀ y,X.env.kindOf y=osc.names.lookup y:=fun y=>by rw [← hsc]; rfl
 refine ⟨by simpa using h1,fun y hy=>by simpa using h2 y hy,fun y hy e=>?_,by simpa using h4,fun y hy e=>?_,by rw [hN]; exact of_decide_eq_true h6,fun y hy=>?_,by simpa using h8⟩
 ·have:=h3 y hy
  rw [e] at this
  simpa using this
 ·have:=h5 y hy
  rw [e] at this
  rw [kd]
  simpa using this
 ·rw [hN] at hy
  simpa using h7 y hy
theorem Jy {α:Type} {xs:List α} {i:Int} (h0:0<=i) (h1:i<xs.length):∃ v,Nb xs i=some v/\v∈xs:=by
 have hj:i.toNat<xs.length:=by omega
 refine ⟨xs[i.toNat],?_,List.getElem_mem hj⟩
 have:=Af (xs:=xs) (j:=i.toNat) (v:=xs[i.toNat]) (by simp [hj])
 have e:((i.toNat:Nat):Int)=i:=by omega
 rw [e] at this
 exact this
end L2
namespace L2
open PySem PySem.Spec PyProof.Rows
section
variable {X:Cx} {pins:List (Addr × Obj)} {σ:St} {H:Hp} {s:Shared} {h':Heap}
theorem Inv.J7 {ch:List Addr} {a:Addr} {o:HO} {t':Nat} (I:Inv X pins σ H s) (hf:∀ b∈ch,Gm X pins H b) (k:∀ b u,b ∉ ch->s.heap.get? b=some u->h'.get? b=some u) (hp:s.heap.objs.size<=a)
  (new:Ce X.prog X.w (upd H a o) h' a o):Inv X pins σ (upd H a o) { s with heap:=h',toks:=t' }:=by
 have hn:H a=none:=I.hok.fresh hp
 have up:∀ b u,H b=some u->upd H a o b=some u:=fun b u e=>by rw [BW (BL e hn)]; exact e
 refine I.step (g':=s.gens) (d':=s.drawn) (ch:=ch) (fun b hb=>?_) (fun b u _ _ hc e _=>k b u hc e) (fun b u _ _ hc e _=>⟨u.slots,k b u hc e⟩) (fun b u _ e n=>?_)
  (fun b u hc e=>⟨u,k b u hc e⟩) (fun b xs e=>up _ _ e) (fun b u x e=>up _ _ e) (fun b ps e=>⟨#[],by rw [up _ _ e]; simp⟩) (fun m hm=>?_) (fun b u e=>?_) I.bare
 ·obtain ⟨f0,f1,f2,f3,f4,f5⟩:=hf b hb
  exact ⟨f3,f1,f4,f5⟩
 ·rw [BW (Nat.ne_of_lt (Nat.lt_of_lt_of_le (Heap.lt_size e) hp))]
  exact n
 ·obtain ⟨u,es,ep,ho,r⟩:=hm
  exact ⟨u,es,ep,k _ u (fun z=>(hf _ z).2.1 rfl) ho,r⟩
 ·by_cases hb:b=a
  ·subst hb
   rw [Ak] at e
   cases e
   exact new
  ·rw [BW hb] at e
   refine (I.hok b u e).stay (fun c v hc q=>k c v (fun z=>?_) q) (fun _ q=>up _ _ q) fun _ _ q=>up _ _ q
   have z1:=(hf c z).1
   rcases hc with hc | hc
   ·rw [hc,e] at z1
    cases z1
   ·rw [hc] at z1
    cases z1
theorem Inv.La {ch:List Addr} {t':Nat} (I:Inv X pins σ H s) (hf:∀ b∈ch,Gm X pins H b) (k:∀ b u,b ∉ ch->s.heap.get? b=some u->h'.get? b=some u):Inv X pins σ H { s with heap:=h',toks:=t' }:=by
 refine I.step (g':=s.gens) (d':=s.drawn) (ch:=ch) (fun b hb=>?_) (fun b u _ _ hc e _=>k b u hc e) (fun b u _ _ hc e _=>⟨u.slots,k b u hc e⟩) (fun b u _ e n=>n)
  (fun b u hc e=>⟨u,k b u hc e⟩) (fun b xs e=>e) (fun b u x e=>e) (fun b ps e=>⟨#[],by rw [e]; simp⟩) (fun m hm=>?_) (fun b u e=>?_) I.bare
 ·obtain ⟨f0,f1,f2,f3,f4,f5⟩:=hf b hb
  exact ⟨f3,f1,f4,f5⟩
 ·obtain ⟨u,es,ep,ho,r⟩:=hm
  exact ⟨u,es,ep,k _ u (fun z=>(hf _ z).2.1 rfl) ho,r⟩
 ·refine (I.hok b u e).stay (fun c v hc q=>k c v (fun z=>?_) q) (fun _ q=>q) fun _ _ q=>q
  have z1:=(hf c z).1
  rcases hc with hc | hc
  ·rw [hc,e] at z1
   cases z1
  ·rw [hc] at z1
   cases z1
end
noncomputable def Yw (K:PySem.W.Frag) (a:Addr):It :=
 ⟨fun i H=>∃ xs x,CK K H a xs/\xs[i]? = some x,fun i H v H'=>∃ T,H T=none/\v=.ref T/\∀ xs,CK K H a xs->∃ x,xs[i]? = some x/\H'=upd H T (.tup [.int (i:Int),x]),fun i H=>∃ xs,CK K H a xs/\xs.length<=i⟩
noncomputable def iT (K:PySem.W.Frag) (a b:Addr):It :=
 ⟨fun i H=>∃ xs ys x y,IV K H a xs/\IV K H b ys/\xs[i]? = some x/\ys[i]? = some y,fun i H v H'=>∃ T,H T=none/\v=.ref T/\∀ xs ys,IV K H a xs->IV K H b ys->∃ x y,xs[i]? = some x/\ys[i]? = some y/\H'=upd H T (.tup [x,y]),
  fun i H=>∃ xs,IV K H a xs/\xs.length<=i⟩
theorem Qq {P:Program} {w:World} {K:PySem.W.Frag} {es:List Expr} {k1:Nat} {pos:Pos} (a e it:Addr) (hne:e ≠ it) :
  Turn P w K (.Tuple es k1 pos) (Yw K a) [e,it] e (fun i h=>(∃ old,IsEnum h e it i old)/\h.IsListIter it a i) where
 mem:=by simp
 obj:=fun i h st b hb=>by
  obtain ⟨⟨old,he⟩,o,ho,c,d⟩:=st
  rcases List.mem_cons.mp hb with rfl | hb
  ·exact ⟨_,he,fun v z=>by
    have z':Data.fields _=Data.cell v:=z
    cases z'⟩
  ·have q:b=it:=by simpa using hb
   subst q
   exact ⟨o,ho,fun v z=>by rw [d] at z; cases z⟩
 keep:=fun i h h' st k=>by
  obtain ⟨⟨old,he⟩,hi⟩:=st
  exact ⟨⟨old,k e (by simp) _ he⟩,hi.at fun o q=>k it (by simp) o q⟩
 item:=by
  intro X hP hw hK hc i pins s σ H E I hf st hg
  subst hP hw hK
  obtain ⟨xs,x,hq,hx⟩:=hg
  obtain ⟨its,rv,p,hz⟩:=I.list hq
  obtain ⟨u,hu,ru⟩:=rv.get hx
  obtain ⟨⟨old,he⟩,hi⟩:=st
  refine wpAny_pyNext_enum_item he hi p.isList (x:=u) (by simpa using hu) hne fun h1 n1 n2 n3 n4 n5=>?_
  refine ⟨_,rfl,wpAny_letOwnedTupleGo_enum (s:={ s with heap:=h1,toks:=s.toks+1 }) n1 fun h2 m1 m2=>?_⟩
  have hT:s.heap.objs.size ≠ e:=Nat.ne_of_gt (Heap.lt_size he)
  have hI:s.heap.objs.size ≠ it:=by obtain ⟨_,q,_⟩:=hi; exact Nat.ne_of_gt (Heap.lt_size q)
  have fr:H s.heap.objs.size=none:=I.hok.fresh (Nat.le_refl _)
  have nw:Ce X.prog X.w (upd H s.heap.objs.size (.tup [.int (i:Int),x])) h2 s.heap.objs.size (.tup [.int (i:Int),x]) :=
   ⟨by show 2<=sizeLine; decide,[.int i s.toks,u],.cons ⟨_,rfl⟩ (.cons ru .nil),_,m2.extBut _ _ hT n3,rfl,_,rfl⟩
  refine ⟨.ref s.heap.objs.size,_,I.J7 (t':=s.toks+1) (ch:=[e,it]) hf (fun b o hb q=>?_) (Nat.le_refl _) nw,rfl,⟨_,fr,rfl,fun ys hy=>⟨x,by rw [I.Iz hy hq]; exact hx,rfl⟩⟩,⟨⟨u,?_⟩,n2.at fun o q=>m2.extBut _ _ (Ne.symm hne) q⟩,fun b hb=>?_⟩
  ·exact m2.extBut _ _ (fun z=>hb (by simp [z])) (n5 b o (fun z=>hb (by simp [z])) (fun z=>hb (by simp [z])) q)
  ·have e1:((i:Int)+1)=((i+1:Nat):Int):=by omega
   rw [← e1]
   exact m1
  ·have hb':=hb
   rcases List.mem_cons.mp hb with rfl | hb
   ·rw [BW (Ne.symm hT)]
    exact (hf _ hb').1
   ·have q:b=it:=by simpa using hb
    subst q
    rw [BW (Ne.symm hI)]
    exact (hf _ hb').1
 done:=by
  intro X hP hw hK hc i pins s σ H E I hf st hg
  subst hP hw hK
  obtain ⟨xs,hq,hx⟩:=hg
  obtain ⟨its,rv,p,hz⟩:=I.list hq
  obtain ⟨⟨old,he⟩,hi⟩:=st
  have hl:=rv.length
  exact wpAny_pyNext_enum_end (I.ok.hd hc) he hi p.isList (by simp; omega) fun h1 eb=>⟨rfl,I.La (t':=s.toks) (ch:=[e,it]) hf fun b o hb q=>eb b o (fun z=>hb (by simp [z])) q⟩
 self:=fun _ _ _ _ _ st h=>by
  obtain ⟨⟨old,he⟩,_⟩:=st
  exact wpAny_pyIter_enum he h
theorem Lh {n a b:Nat} (ha:a<n) (hb:b<n):ZipApart (n+4) (n+2) (n+3) n (n+1) a b:=by
 constructor <;> (refine (show @Ne Nat _ _ from ?_); omega)
theorem Qt {n b:Nat} {P:Nat->Prop} (h0:P n) (h1:P (n+1)) (h2:P (n+2)) (h3:P (n+3)) (h4:P (n+4)) (hb:b∈[n,n+1,n+2,n+3,n+4]):P b:=by
 simp at hb
 rcases hb with rfl | rfl | rfl | rfl | rfl <;> assumption
theorem Q3 {P:Program} {w:World} {K:PySem.W.Frag} {es:List Expr} {k1:Nat} {pos:Pos} (a b n:Nat) (ha:a<n) (hb:b<n) :
  Turn P w K (.Tuple es k1 pos) (iT K a b) [n,n+1,n+2,n+3,n+4] (n+4) (fun i h=>IsZip h (n+4) (n+2) (n+3) .none/\IsPair h (n+2) (.ref n) (.ref (n+1))/\(∃ x y,IsPair h (n+3) x y)/\h.IsTupleIter n a i/\h.IsTupleIter (n+1) b i) where
 mem:=by simp
 obj:=fun i h st c hc=>by
  obtain ⟨hz,hI,⟨x,y,hO⟩,⟨o1,e1,_,d1⟩,⟨o2,e2,_,d2⟩⟩:=st
  refine Qt (P:=fun c=>∃ o,h.get? c=some o/\∀ v,o.data ≠ .cell v) ⟨_,e1,fun v z=>?_⟩ ⟨_,e2,fun v z=>?_⟩ ⟨_,hI,fun v z=>?_⟩ ⟨_,hO,fun v z=>?_⟩ ⟨_,hz,fun v z=>?_⟩ hc
  ·rw [d1] at z; cases z
  ·rw [d2] at z; cases z
  ·have z':Data.seq _ _=Data.cell v:=z
   cases z'
  ·have z':Data.seq _ _=Data.cell v:=z
   cases z'
  ·have z':Data.fields _=Data.cell v:=z
   cases z'
 keep:=fun i h h' st k=>by
  obtain ⟨hz,hI,⟨x,y,hO⟩,j1,j2⟩:=st
  exact ⟨k _ (by simp) _ hz,k _ (by simp) _ hI,⟨x,y,k _ (by simp) _ hO⟩,j1.at fun o q=>k _ (by simp) o q,j2.at fun o q=>k _ (by simp) o q⟩
 item:=by
  intro X hP hw hK hc i pins s σ H E I hf st hg
  subst hP hw hK
  obtain ⟨xs,ys,x,y,q1,q2,hx,hy⟩:=hg
  obtain ⟨it1,r1,p1,_⟩:=I.tuple q1
  obtain ⟨it2,r2,p2,_⟩:=I.tuple q2
  obtain ⟨u,hu,ru⟩:=r1.get hx
  obtain ⟨v,hv,rv⟩:=r2.get hy
  obtain ⟨hz,hI,⟨x0,y0,hO⟩,j1,j2⟩:=st
  have D:=Lh ha hb
  have hT:s.TypeIs (.ref (n+4)) "zip":=⟨_,hz,rfl⟩
  have sz:n+4<s.heap.objs.size:=Heap.lt_size hz
  unfold pyNext
  refine wpAny_bind (wpAny_attempt (wpAny_callSpecial?_slot (name:=Str.ofString "__next__") hT F.slot_zip_next (wpAny_call_entry F.slot_zip_next hT F.entry_zip_next
   (RC D hz hI hO j1 j2 (show s.heap.IsTuple a it1.toArray from p1) (show s.heap.IsTuple b it2.toArray from p2) (x:=u) (y:=v) (by simpa using hu) (by simpa using hv) fun h1 n1 n2 n3 n4 n5 n6 n7=>wpAny_pure ?_) (F.args_zip_next_1 _))))
  refine ⟨_,rfl,wpAny_letOwnedTupleGo_zip (s:={ s with heap:=h1 }) n1 fun h2 m1 m2=>?_⟩
  have fr:H s.heap.objs.size=none:=I.hok.fresh (Nat.le_refl _)
  have nw:Ce X.prog X.w (upd H s.heap.objs.size (.tup [x,y])) h2 s.heap.objs.size (.tup [x,y]) :=
   ⟨by show 2<=sizeLine; decide,[u,v],.cons ru (.cons rv .nil),_,m2.extBut _ _ (Nat.ne_of_gt sz) n5,rfl,_,rfl⟩
  have hI2:IsPair h1 (n+2) (.ref n) (.ref (n+1)):=n7 _ _ D.TIz D.TITO D.TIi1 D.TIi2 hI
  refine ⟨.ref s.heap.objs.size,_,I.J7 (t':=s.toks) (ch:=[n,n+1,n+2,n+3,n+4]) hf (fun c o hc q=>?_) (Nat.le_refl _) nw,rfl,⟨_,fr,rfl,fun xs' ys' h1 h2=>⟨x,y,by rw [I.JG h1 q1]; exact hx,by rw [I.JG h2 q2]; exact hy,rfl⟩⟩,
   ⟨m1,m2.extBut _ _ D.TIz hI2,⟨u,v,m2.extBut _ _ D.TOz n2⟩,n3.at fun o q=>m2.extBut _ _ D.i1z q,n4.at fun o q=>m2.extBut _ _ D.i2z q⟩,fun c hc=>?_⟩
  ·have z:∀ d,d∈[n,n+1,n+2,n+3,n+4]->c ≠ d:=fun d hd q=>hc (q ▸ hd)
   exact m2.extBut _ _ (z _ (by simp)) (n7 c o (z _ (by simp)) (z _ (by simp)) (z _ (by simp)) (z _ (by simp)) q)
  ·rw [BW ?_]
   ·exact (hf c hc).1
   ·have lt:c<=n+4:=Qt (P:=fun c=>c<=n+4) (by omega) (by omega) (by omega) (by omega) (Nat.le_refl _) hc
    exact Nat.ne_of_lt (Nat.lt_of_le_of_lt lt sz)
 done:=by
  intro X hP hw hK hc i pins s σ H E I hf st hg
  subst hP hw hK
  obtain ⟨xs,q1,hx⟩:=hg
  obtain ⟨it1,r1,p1,_⟩:=I.tuple q1
  obtain ⟨hz,hI,⟨x0,y0,hO⟩,j1,j2⟩:=st
  have D:=Lh ha hb
  have hT:s.TypeIs (.ref (n+4)) "zip":=⟨_,hz,rfl⟩
  have hl:=r1.length
  unfold pyNext
  refine wpAny_bind (wpAny_attempt (wpAny_callSpecial?_slot (name:=Str.ofString "__next__") hT F.slot_zip_next (wpAny_call_entry F.slot_zip_next hT F.entry_zip_next
   (Rt (I.ok.hd hc) D hz hI hO j1 (show s.heap.IsTuple a it1.toArray from p1) (by simp; omega) fun h1 x k1 hx1=>?_) (F.args_zip_next_1 _))))
  obtain ⟨o,ho,hco⟩:=hx1
  refine wpAny_bind (wpAny_isInstance (T:="StopIteration") (b:=true) ⟨o,ho,hco⟩ isSubtype_stop (wpAny_pure ?_))
  refine ⟨rfl,I.La (t':=s.toks) (ch:=[n,n+1,n+2,n+3,n+4]) hf fun c o hc q=>?_⟩
  have z:∀ d,d∈[n,n+1,n+2,n+3,n+4]->c ≠ d:=fun d hd q=>hc (q ▸ hd)
  exact k1 c o (z _ (by simp)) (z _ (by simp)) (z _ (by simp)) (z _ (by simp)) q
 self:=fun _ _ _ _ _ st h=>wpAny_pyIter_zip st.1 h
section
variable {X:Cx} {es:List Expr} {k1:Nat} {tpos:Pos}
noncomputable def cO (K:PySem.W.Frag) (ta:TA):TI:=fun σ H R=>ta σ H fun vs H1=>∃ a,vs=[.ref a]/\(∃ xs,CK K H1 a xs)/\R (Yw K a) H1
noncomputable def ik (K:PySem.W.Frag) (ta:TA):TI:=fun σ H R=>ta σ H fun vs H1=>∃ a b,vs=[.ref a,.ref b]/\(∃ xs,IV K H1 a xs)/\(∃ ys,IV K H1 b ys)/\R (iT K a b) H1
theorem Ib {l:Expr} {ta:TA} {p pos:Pos} (hg:Gl X "enumerate") (hm:X.mg "enumerate" = none) (ha:PA X [l] ta) (hs:starEach [l] X.env=[(false,eval l X.env)]:=by rfl) :
  PI X (.Tuple es k1 tpos) (.Call (.Name "enumerate" p) [l] [] pos) (cO X.K ta):=by
 intro pins s σ H R I h
 refine Call_ (GC I hg hm boot_enumerate (PyProof.Rows.callWith_type1 (CJ (ha pos pins s σ H _ I h) fun us s1 ⟨vs,H1,I1,r1,q1⟩=>?_) hs rfl))
 obtain ⟨a,e,⟨xs,hq⟩,q⟩:=q1
 subst e
 obtain ⟨u,rfl,ru⟩:=vals1 r1
 cases ru
 obtain ⟨its,rv,pl,hz⟩:=I1.list hq
 refine call_enumerate_list pl.isList fun h1 n1 n2 n3 n4=>?_
 refine wpAny_pyIter_enum (s:={ s1 with heap:=h1 }) n1 ?_
 refine ⟨_,[s1.heap.objs.size+1,s1.heap.objs.size],_,_,H1,rfl,I1.kept (t':=s1.toks) n4,Qq a _ _ (Nat.succ_ne_self _),⟨⟨_,n1⟩,n2⟩,fun b hb=>?_,q⟩
 have lt:s1.heap.objs.size<=b:=by
  rcases List.mem_cons.mp hb with rfl | hb
  ·exact Nat.le_succ _
  ·exact Nat.le_of_eq ((List.mem_singleton.mp hb).symm)
 exact I1.Kc lt (I1.hok.fresh lt)
theorem V5 {x y:Expr} {ta:TA} {p pos:Pos} (hg:Gl X "zip") (hm:X.mg "zip" = none) (ha:PA X [x,y] ta) (hs:starEach [x,y] X.env=[(false,eval x X.env),(false,eval y X.env)]:=by rfl) (hs2:starEach [y] X.env=[(false,eval y X.env)]:=by rfl) :
  PI X (.Tuple es k1 tpos) (.Call (.Name "zip" p) [x,y] [] pos) (ik X.K ta):=by
 intro pins s σ H R I h
 refine Call_ (GC I hg hm boot_zip (PyProof.Rows.callWith_type1 (CJ (ha pos pins s σ H _ I h) fun us s1 ⟨vs,H1,I1,r1,q1⟩=>?_) (by rw [hs,hs2]) (by rw [hs2]; rfl)))
 obtain ⟨a,b,e,⟨xs,q1⟩,⟨ys,q2⟩,q⟩:=q1
 subst e
 obtain ⟨u,v,rfl,ru,rv⟩:=Vals.two r1
 cases ru
 cases rv
 obtain ⟨it1,r1,p1,_⟩:=I1.tuple q1
 obtain ⟨it2,r2,p2,_⟩:=I1.tuple q2
 refine Rb (show s1.heap.IsTuple a it1.toArray from p1) (show s1.heap.IsTuple b it2.toArray from p2) fun h1 n hn n1 n2 n3 n4 n5 n6 n7=>?_
 refine wpAny_pyIter_zip (s:={ s1 with heap:=h1 }) n1 ?_
 have la:a<n:=by rw [hn]; exact p1.lt
 have lb:b<n:=by rw [hn]; exact p2.lt
 refine ⟨_,[n,n+1,n+2,n+3,n+4],_,_,H1,rfl,I1.kept (t':=s1.toks) n7,Q3 a b n la lb,⟨n1,n2,⟨_,_,n3⟩,n4,n5⟩,fun c hc=>?_,q⟩
 have lt:s1.heap.objs.size<=c:=by
  rw [← hn]
  exact Qt (P:=fun c=>n<=c) (by omega) (by omega) (by omega) (by omega) (by omega) hc
 exact I1.Kc lt (I1.hok.fresh lt)
end
end L2
namespace L2
open PySem PySem.Spec PyProof.Rows
theorem Vl {prog:Program} {w:World} {A:Around} {R:Result->Shared->Prop} {s:Shared} {elt tg iter:Expr} {ifs:List Expr} {scope:Scope} {pos:Pos} {it acc:Value} {env:Env} (J:Nat->Shared->Prop) {E:Value->Shared->Prop} (hE:E=notedBy (model prog w) A env fun e s'=>R (.error e) s')
  (turn:∀ n s,J n s->wpAny (model prog w) A (pyNext it) (fun r s1=>match r with
   | none=>R (.ok .next) s1
   | some v=>wpAny (model prog w) A (letOwnedTupleGo tg it v) (fun _ s2=>wpAny (model prog w) A (assign tg env v) (fun _ s3 =>
     wpAny (model prog w) A (forIn ifs true fun c r=>if r=true then do let ok ← isTrue c env (eval c env); pure (ForInStep.yield ok) else pure (ForInStep.yield r)) (fun ok s4 =>
      if ok=true then wpAny (model prog w) A (eval elt env) (fun x s5=>wpAny (model prog w) A (call (.builtin "list.append") [acc,x]) (fun _ s6=>∃ m,m<n/\J m s6) E s5) E s4
      else ∃ m,m<n/\J m s4) E s3) E s2) E s1) E s) (n:Nat) (h:J n s) :
  codeAny (model prog w) A (.compLoop (.ListComp elt [⟨tg,iter,ifs,0⟩] scope pos) 0 it acc env) R s:=by
 subst hE
 refine codeAny_loop rfl J (fun n s hJ=>(show wpAny _ A ((compTurn (.ListComp elt [⟨tg,iter,ifs,0⟩] scope pos) 0 it acc env).onRaise (fun x=>do noteFrame x env; theTreesLotGoes x)) _ _ s from wpAny_noted ?_)) n h
 rw [compTurn_list]
 refine wpAny_bind (wpAny_standAt (wpAny_bind (wpAny_mono (turn n s hJ) (fun r s1 h1=>?_) fun _ _ q=>q)))
 cases r with
 | none=>exact wpAny_pure h1
 | some v =>
  refine wpAny_bind (wpAny_mono h1 (fun _ s2 h2=>wpAny_bind (wpAny_mono h2 (fun _ s3 h3=>wpAny_bind (wpAny_mono h3 (fun ok s4 h4=>?_) fun _ _ q=>q)) fun _ _ q=>q)) fun _ _ q=>q)
  cases ok with
  | false=>exact wpAny_pure ⟨rfl,h4⟩
  | true=>exact wpAny_bind (wpAny_bind (wpAny_mono h4 (fun x s5 h5=>wpAny_bind (wpAny_mono h5 (fun _ s6 h6=>wpAny_pure (wpAny_pure ⟨rfl,h6⟩)) fun _ _ q=>q)) fun _ _ q=>q))
noncomputable def Bq (X:Cx) (x z:Str) (scope:Scope) (C:Addr) (s₀:Shared) (H₀:Hp) (fp:List Addr):Cx where
 prog:=X.prog
 w:=X.w
 K:=X.K
 mg:=X.mg
 base:=X.base
 A:=X.A
 N:=x::z::X.N
 s₀:=s₀
 H₀:=H₀
 env:=compEnvC scope (Dc X.env scope.names []) C X.env
 outer:=X.stack
 stack:=X.stack
 ex:=fp
 fn:=fun _=>false
 calm:=X.calm
 pn:=[]
 xe:=fun _ _=>False
structure Eh (X:Cx) (x z:Str) (scope:Scope):Prop where
 kind:scope.kind=.function
 nocell:∀ y∈scope.names,y.2 ≠ .cell
 names:∀ y∈scope.names,y.2=.local->scope.names.lookup y.1=some .local
 loc:scope.names.lookup x=some .local
 loz:scope.names.lookup z=some .local
 free:∀ y∈scope.names,y.2=.free->X.env.kindOf y.1=some .cell \/ X.env.kindOf y.1=some .free
 nd:(x::z::X.N).Nodup
 only:∀ y∈X.N,scope.names.lookup y ≠ some .local
section
variable {X:Cx} {pins:List (Addr × Obj)} {σ:St} {H:Hp} {s:Shared} {x z:Str} {scope:Scope} {fp:List Addr} {C:Addr}
theorem Mv {h':Heap} {tk:Nat} {m:Str->Option Value} (I:Inv X pins σ H s) (S:Eh X x z scope) (hf:∀ b∈fp,Gm X pins H b) (hlt:∀ b∈fp,b<s.heap.objs.size) (hC:s.heap.objs.size<=C) (hn:h'.Ns C m)
  (hk:∀ b o,s.heap.get? b=some o->h'.get? b=some o):Inv (Bq X x z scope C s H fp) [] (none::none::σ) H { s with heap:=h',toks:=tk }:=by
 have cl:∀ y c,(Dc X.env scope.names []).lookup y=some c->X.env.cells.lookup y=some c:=fun y c e=>by
  rcases Ge X.env scope.names [] y c e with z | z
  ·cases z
  ·exact z
 have cellK:∀ c v,s.heap.IsCell c v->h'.IsCell c v:=fun c v ⟨o,ho,hd⟩=>⟨o,hk c o ho,hd⟩
 have look:∀ y,(Bq X x z scope C s H fp).env.scope.names.lookup y=(scope.names.lookup y).map fun k=>if (k == NameKind.free && X.env.scope.kind == .function && X.env.kindOf y == some .cell) then NameKind.cell else k:=fun y=>Fj X.env y scope.names
 refine ⟨⟨I.ok.mod,S.kind,I.ok.glob,I.ok.blt,hC,fun y z c e1 e2=>I.ok.inj y z c (cl y c e1) (cl z c e2),fun y hy=>?_,fun y c e _=>(by cases e),fun h=>I.ok.hd h,I.ok.frames,.inl rfl,fun b hb=>?_,I.bs,Nat.le_trans I.ok.bsz I.sz,fun b o e hb=>?_,fun b hb hb'=>?_,I.stack,I.Lf⟩,
  rfl,I.bare,Un.kept hk,⟨m,hn,fun i y v h1 h2 h3=>?_⟩,fun y c e=>?_,I.hok.fresh hC,fun y c e=>I.freeC y c (cl y c e),fun p hp=>absurd (show p∈([]:List (Addr × Obj)) from hp) (by simp),I.hok.kept hk,?_⟩
 ·have hy':(Bq X x z scope C s H fp).env.scope.names.lookup y=some .cell \/ (Bq X x z scope C s H fp).env.scope.names.lookup y=some .free:=hy
  rw [look y] at hy'
  cases e:scope.names.lookup y with
  | none=>rw [e] at hy'; rcases hy' with z | z <;> cases z
  | some k =>
   have hm:=PySem.mem_of_lookup e
   have hfree:k=.free:=by
    rw [e] at hy'
    cases k with
    | free=>rfl
    | cell=>exact absurd rfl (S.nocell _ hm)
    | _=>rcases hy' with z | z <;> simp at z
   subst hfree
   obtain ⟨c,hc⟩:=I.ok.has y (S.free _ hm rfl)
   exact Option.isSome_iff_exists.mp (Eg X.env scope.names [] y hm (by rw [hc]; rfl))
 ·obtain ⟨f0,f1,f2,f3,f4,f5⟩:=hf b hb
  exact ⟨Nat.ne_of_lt (Nat.lt_of_lt_of_le (hlt b hb) hC),fun y c e=>f4 y c (cl y c e)⟩
 ·obtain ⟨f0,f1,f2,f3,f4,f5⟩:=hf b hb
  rcases f3 with z | z
  ·exact I.ok.noex b o e z
  ·exact absurd (Nat.lt_of_lt_of_le (Heap.lt_size e) (Nat.le_trans I.ok.bsz z)) (Nat.lt_irrefl _)
 ·obtain ⟨f0,f1,f2,f3,f4,f5⟩:=hf b hb
  rcases List.mem_cons.mp (I.Mh b hb') with e | e
  ·exact f1 e
  ·exact f2 e
 ·match i,h1,h2 with
  | 0,h1,h2 =>
   have h2':(some none:Option (Option V))=some (some v):=h2
   cases h2'
  | 1,h1,h2 =>
   have h2':(some none:Option (Option V))=some (some v):=h2
   cases h2'
  | i+2,h1,h2 =>
   have e0:X.N[i]? = some y:=h1
   have h2':σ[i]? = some (some v):=h2
   have hmem:y∈X.N:=List.mem_of_getElem? e0
   have h3':(Bq X x z scope C s H fp).env.scope.names.lookup y=some .local \/ (Bq X x z scope C s H fp).env.scope.names.lookup y=some .cell \/ (Bq X x z scope C s H fp).env.scope.names.lookup y=some .free:=h3
   rw [look y] at h3'
   cases e:scope.names.lookup y with
   | none=>rw [e] at h3'; rcases h3' with z | z | z <;> cases z
   | some k =>
    have hm:=PySem.mem_of_lookup e
    have hfree:k=.free:=by
     rw [e] at h3'
     cases k with
     | free=>rfl
     | cell=>exact absurd rfl (S.nocell _ hm)
     | «local»=>exact absurd e (S.only y hmem)
     | _=>rcases h3' with z | z | z <;> simp at z
    subst hfree
    have kd:=S.free _ hm rfl
    obtain ⟨m0,hn0,hl0⟩:=I.loc
    obtain ⟨u,r,l⟩:=hl0 i y v e0 h2' (by rcases kd with z | z; exact .inr (.inl z); exact .inr (.inr z))
    refine ⟨u,r,.inr ⟨?_,?_⟩⟩
    ·have hk':(Bq X x z scope C s H fp).env.scope.names.lookup y=some (if (NameKind.free == NameKind.free && X.env.scope.kind == .function && X.env.kindOf y == some .cell) then NameKind.cell else NameKind.free):=by
      rw [look y,e]; rfl
     by_cases c:(NameKind.free == NameKind.free && X.env.scope.kind == .function && X.env.kindOf y == some .cell)=true
     ·rw [if_pos c] at hk'; exact .inl hk'
     ·rw [if_neg c] at hk'; exact .inr hk'
    ·rcases l with ⟨lk,_⟩ | ⟨_,c,hc,hcell⟩
     ·exfalso
      rcases kd with z | z <;> (rw [show X.env.kindOf y=some NameKind.local from lk] at z; cases z)
     ·obtain ⟨c',hc'⟩:=Option.isSome_iff_exists.mp (Eg X.env scope.names [] y hm (by rw [hc]; rfl))
      have:=cl y c' hc'
      rw [hc] at this
      cases this
      exact ⟨c,hc',cellK c _ hcell⟩
 ·obtain ⟨v,z⟩:=I.cell y c (cl y c e)
  exact ⟨v,cellK c v z⟩
 ·show (none::none::σ).length=(x::z::X.N).length
  simp [I.len]
end
noncomputable def Jj (J:It) (σ:St) (H1:Hp) (Q:VK) (g:TG) (tt:TT) (te:TE):Prop:=∀ D,H1 D=none->∃ W:Nat->Nat->List V->Hp->Prop,(∃ m,W 0 m [] (upd H1 D (.lst [])))/\∀ i m ys H2,W i m ys H2 ->
 (J.stop i H2/\Q (.ref D) H2) \/ (J.go i H2/\∀ x H3,J.yld i H2 x H3->∀ v0 v1,g x (v0::v1::σ) H3 fun σ' H3'=>(∃ w0 w1,σ'=w0::w1::σ)/\tt σ' H3' fun b H4 =>
  if b=true then te σ' H4 fun y H5=>H5 D=some (.lst ys)/\ys.length<sizeLine/\∃ m',m'<m/\W (i+1) m' (ys++[y]) (upd H5 D (.lst (ys++[y])))
  else ∃ m',m'<m/\W (i+1) m' ys H4)
noncomputable def Tt (wi:TI) (g:TG) (tt:TT) (te:TE):TE:=fun σ H Q=>wi σ H fun J H1=>Jj J σ H1 Q g tt te
section
variable {X:Cx} {x z:Str} {scope:Scope}
theorem Nk {tg:Expr} {pos:Pos} {iter elt:Expr} {ifs:List Expr} {g:TG} {tt:TT} {te:TE} {pins:List (Addr × Obj)} {σ:St} {s2:Shared} {H2:Hp} {it:Addr} {fp:List Addr} {tn:Nat->Heap->Prop} {J:It} {E:Value->Shared->Prop}
  {RR:Value->Addr->Result->Shared->Prop} {Q:VK}
  (hc:X.calm=true) (S:Eh X x z scope) (hg:∀ C s₀ H₀ fp,PG (Bq X x z scope C s₀ H₀ fp) tg g) (ht:∀ C s₀ H₀ fp,Nh (Bq X x z scope C s₀ H₀ fp) ifs tt) (he:∀ C s₀ H₀ fp,PE (Bq X x z scope C s₀ H₀ fp) elt te)
  (I2:Inv X pins σ H2 s2) (T:Turn X.prog X.w X.K tg J fp it tn) (st2:tn 0 s2.heap) (f2:∀ b∈fp,Gm X pins H2 b) (q:Jj J σ H2 Q g tt te)
  (hRR:∀ D C s' H' m,s'.heap.Ns C m->Gm X pins H' C->Inv X pins σ H' s'->Q (.ref D) H'->RR (.ref D) C (.ok .next) s') :
  wpAny (model X.prog X.w) X.A (newList []) (fun acc s₃=>wpAny (model X.prog X.w) X.A (newFunctionEnv scope X.env.globals (Dc X.env scope.names []) [] X.env.qual none .none (some X.env)) (fun cenv s₄ =>
   codeAny (model X.prog X.w) X.A (.compStart (.ListComp elt [⟨tg,iter,ifs,0⟩] scope pos) 0 (.ref it) acc { cenv with scope:=relabel scope X.env }) (RR acc cenv.locals) s₄) E s₃) E s2:=by
 refine wpAny_newObj_type (wpAny_newFunctionEnv S.nocell (by intro y hy; simp at hy) (fun h₁ hns₁ hsb₁=>?_) S.kind)
 have I3:=I2.Xu (its:=[]) (ys:=[]) (t':=s2.toks) .nil (Nat.zero_le _)
 have hD0:H2 s2.heap.objs.size=none:=I2.fresh
 obtain ⟨W,⟨m0,w0⟩,turn⟩:=q _ hD0
 generalize hs3:({ s2 with heap:=s2.heap.push { cls:=.type "list",data:=.seq ([]:List Value).toArray },toks:=s2.toks }:Shared)=s3 at I3
 have e3:s3.heap=s2.heap.push { cls:=.type "list",data:=.seq ([]:List Value).toArray }:=by rw [← hs3]
 have hlt:∀ b∈fp,b<s2.heap.objs.size:=fun b hb=>let ⟨_,e,_⟩:=T.obj _ _ st2 b hb; Heap.lt_size e
 have hlt3:∀ b∈fp,b<s3.heap.objs.size:=fun b hb=>by rw [e3,Heap.size_push]; exact Nat.lt_succ_of_lt (hlt b hb)
 have f3:∀ b∈fp,Gm X pins (upd H2 s2.heap.objs.size (.lst [])) b:=fun b hb=>⟨by rw [BW (Nat.ne_of_lt (hlt b hb))]; exact (f2 b hb).1,(f2 b hb).2⟩
 have hk1:∀ b o,s3.heap.get? b=some o->h₁.get? b=some o:=fun b o e=>by
  have hne:b ≠ s3.heap.objs.size:=Nat.ne_of_lt (Heap.lt_size e)
  rw [e3] at e hne
  exact hsb₁.extBut b o hne (Heap.get?_push_of_some _ e)
 have hC:s3.heap.objs.size=(s2.heap.push { cls:=.type "list",data:=.seq ([]:List Value).toArray }).objs.size:=by rw [e3]
 have hns:h₁.Ns s3.heap.objs.size (fun x=>([]:List (Str × Value)).reverse.lookup x):=by rw [hC]; exact hns₁
 have st3:tn 0 h₁:=T.keep _ _ _ st2 fun b hb o e=>hk1 b o (by rw [e3]; exact Heap.get?_push_of_some _ e)
 have start:∀ tk,Inv (Bq X x z scope s3.heap.objs.size s3 (upd H2 s2.heap.objs.size (.lst [])) fp) [] (none::none::σ) (upd H2 s2.heap.objs.size (.lst [])) { s3 with heap:=h₁,toks:=tk }:=fun tk =>
  Mv I3 S f3 hlt3 (Nat.le_refl _) hns hk1
 have loop:∀ tk,codeAny (model X.prog X.w) X.A (.compLoop (.ListComp elt [⟨tg,iter,ifs,0⟩] scope pos) 0 (.ref it) (.ref s2.heap.objs.size) (compEnvC scope (Dc X.env scope.names []) s3.heap.objs.size X.env))
   (RR (.ref s2.heap.objs.size) s3.heap.objs.size) { s3 with heap:=h₁,toks:=tk }:=by
  intro tk
  refine Vl (fun n s'=>∃ i ys v0 v1 H',Inv (Bq X x z scope s3.heap.objs.size s3 (upd H2 s2.heap.objs.size (.lst [])) fp) [] (v0::v1::σ) H' s'/\tn i s'.heap/\(∀ b∈fp,H' b=none)/\W i n ys H') rfl ?_ m0
   ⟨0,[],none,none,_,start tk,st3,fun b hb=>(f3 b hb).1,w0⟩
  rintro n s4 ⟨i,ys,v0,v1,H4,I4,st4,fr4,w4⟩
  have stat:∀ {H':Hp},(∀ b∈fp,H' b=none)->∀ b∈fp,Gm (Bq X x z scope s3.heap.objs.size s3 (upd H2 s2.heap.objs.size (.lst [])) fp) [] H' b:=fun hn b hb=>by
   refine ⟨hn b hb,(I4.ok.exf b hb).1,I4.ok.exfs b hb,.inl hb,(I4.ok.exf b hb).2,fun p hp=>absurd (show p∈([]:List (Addr × Obj)) from hp) (by simp)⟩
  rcases turn i n ys H4 w4 with ⟨stop,qn⟩ | ⟨go,step⟩
  ·refine CJ (T.done (Bq X x z scope s3.heap.objs.size s3 (upd H2 s2.heap.objs.size (.lst [])) fp) rfl rfl rfl hc i [] s4 (v0::v1::σ) H4 _ I4 (stat fr4) st4 stop) fun r s5 ⟨hr,I5⟩=>?_
   subst hr
   obtain ⟨m,hn,_⟩:=I5.loc
   refine hRR _ _ s5 H4 m hn (I3.Kc (Nat.le_refl _) I5.free) (I3.call' (s':=s5) (ch:=fp) I5.os I5.base I5.hok I5.bare (fun b hb=>?_)) qn
   obtain ⟨_,g1,_,g3,g4,g5⟩:=f3 b hb
   exact ⟨g3,g1,g4,g5⟩
  ·refine CJ (T.item (Bq X x z scope s3.heap.objs.size s3 (upd H2 s2.heap.objs.size (.lst [])) fp) rfl rfl rfl hc i [] s4 (v0::v1::σ) H4 _ I4 (stat fr4) st4 go) fun r s5 ⟨u,hr,h5⟩=>?_
   subst hr
   refine CJ h5 fun _ s6 h6=>?_
   obtain ⟨xv,H6,I6,r6,y6,st6,fr6⟩:=h6
   have I6':=I6.pinned (stat fr6) (T.obj _ _ st6)
   have again:∀ {s7:Shared} {H7:Hp} {ys':List V} {w0 w1:Option V},Inv (Bq X x z scope s3.heap.objs.size s3 (upd H2 s2.heap.objs.size (.lst [])) fp) ([]++JM fp s6.heap) (w0::w1::σ) H7 s7->(∃ m',m'<n/\W (i+1) m' ys' H7) ->
     ∃ m,m<n/\∃ i ys v0 v1 H',Inv (Bq X x z scope s3.heap.objs.size s3 (upd H2 s2.heap.objs.size (.lst [])) fp) [] (v0::v1::σ) H' s7/\tn i s7.heap/\(∀ b∈fp,H' b=none)/\W i m ys H':=fun {s7 H7 ys' w0 w1} I7 hw=>by
    obtain ⟨m',hm,w7⟩:=hw
    refine ⟨m',hm,i+1,ys',w0,w1,H7,I7.HS,T.keep _ _ _ st6 fun b hb o e=>(I7.pin (b,o) (List.mem_append_right _ (List.mem_append_right _ (Ei hb e)))).1,fun b hb=>?_,w7⟩
    obtain ⟨o,e,d⟩:=T.obj _ _ st6 b hb
    exact (I7.pin (b,o) (List.mem_append_right _ (List.mem_append_right _ (Ei hb e)))).2.1
   refine O7 (hg _ _ _ _ _ s6 (v0::v1::σ) H6 xv u _ I6' r6 (step xv H6 y6 v0 v1)) fun _ s7 ⟨σ7,H7,I7,⟨w0,w1,e7⟩,q7⟩=>?_
   subst e7
   refine O7 (ht _ _ _ _ _ s7 (w0::w1::σ) H7 _ I7 q7) fun b s8 hq0=>?_
   obtain ⟨H8,I8,q8⟩:=hq0
   cases b with
   | false =>
    rw [if_neg Bool.false_ne_true] at q8 ⊢
    exact again I8 q8
   | true =>
    rw [if_pos rfl] at q8 ⊢
    refine O7 (he _ _ _ _ _ s8 (w0::w1::σ) H8 _ I8 q8) fun y s9 hq0=>?_
    obtain ⟨yv,H9,I9,r9,hD9,hz9,q9⟩:=hq0
    refine O7 (CG (X:=Bq X x z scope s3.heap.objs.size s3 (upd H2 s2.heap.objs.size (.lst [])) fp) _ s9 (w0::w1::σ) H9 (.ref s2.heap.objs.size) [yv] (.ref s2.heap.objs.size) [y] (fun _ H'=>H'=upd H9 s2.heap.objs.size (.lst (ys++[yv]))) I9 rfl (.cons r9 .nil)
     ⟨_,ys,yv,rfl,rfl,hD9,hz9,rfl⟩) fun _ s10 ⟨_,H10,I10,_,e10⟩=>?_
    subst e10
    exact again I10 q9
 have key:=fun tk=>codeAny_compStart_list (R:=RR (.ref s2.heap.objs.size) s3.heap.objs.size) (loop tk) (T.self X.A 0 { s3 with heap:=h₁,toks:=tk } (fun it' s'=>codeAny (model X.prog X.w) X.A (.compLoop (.ListComp elt [⟨tg,iter,ifs,0⟩] scope pos) 0 it' (.ref s2.heap.objs.size) (compEnvC scope (Dc X.env scope.names []) s3.heap.objs.size X.env)) (RR (.ref s2.heap.objs.size) s3.heap.objs.size) s') _ st3 (loop tk))
 subst hs3
 exact key _
theorem S5 {tg:Expr} {pos:Pos} {iter elt:Expr} {ifs:List Expr} {wi:TI} {g:TG} {tt:TT} {te:TE} (hc:X.calm=true) (S:Eh X x z scope) (hi:PI X tg iter wi) (hg:∀ C s₀ H₀ fp,PG (Bq X x z scope C s₀ H₀ fp) tg g)
  (ht:∀ C s₀ H₀ fp,Nh (Bq X x z scope C s₀ H₀ fp) ifs tt) (he:∀ C s₀ H₀ fp,PE (Bq X x z scope C s₀ H₀ fp) elt te) (hs:∀ x,foldedSetIterable iter X.env x=pure x:=by intro _; rfl) :
  PE X (.ListComp elt [⟨tg,iter,ifs,0⟩] scope pos) (Tt wi g tt te):=by
 intro pins s σ H Q I h
 rw [eval_ListComp]
 refine wpAny_comprehension_free (use:=none) (cl:=Dc X.env scope.names []) rfl hs (IK fun y hy hk=>I.ok.has y.1 (S.free y hy hk)) S.kind S.names (CJ (hi pins s σ H _ I h) fun v s1 h1=>CJ h1 fun itv s2 h2=>?_)
 obtain ⟨it,fp,tn,J,H2,e,I2,T,st2,f2,q⟩:=h2
 subst e
 refine Nk (RR:=fun acc C=>compPost (model X.prog X.w) X.A X.xe none (EP X pins σ Q) acc C) (Q:=Q) hc S hg ht he I2 T st2 f2 q ?_
 intro D C s' H' m hn hf hI hq
 exact ⟨m,hn,fun h' sb=>⟨.ref D,H',hI.sameBut hf sb,rfl,hq⟩⟩
end
end L2
namespace L2
open PySem PySem.Spec PySem.Calls PyProof.Rows
theorem An.tup {K:PySem.W.Frag} {H H':Hp} {a:Addr} {xs:List V} (e:An H H') (h:IV K H a xs):IV K H' a xs:=by
 rcases h with (h | ⟨o,h⟩) | h
 ·exact .inl (.inl (e _ _ h))
 ·exact .inl (.inr ⟨o,e _ _ h⟩)
 ·exact .inr h
noncomputable def TupAt (H:Hp) (zs:List V) (y:V):Prop:=∃ T,y=.ref T/\H T=some (.tup zs)
theorem TupAt.mono {H H':Hp} {zs:List V} {y:V} (s:An H H') (h:TupAt H zs y):TupAt H' zs y:=let ⟨T,e,q⟩:=h; ⟨T,e,s _ _ q⟩
theorem TupAt.upd {H:Hp} {zs ys ws:List V} {y:V} {D:Addr} (h:TupAt H zs y) (hD:H D=some (.lst ys)):TupAt (upd H D (.lst ws)) zs y:=by
 obtain ⟨T,e,q⟩:=h
 refine ⟨T,e,?_⟩
 rw [BW fun z=>by rw [z,hD] at q; cases q]
 exact q
theorem B_ {α:Type} {H:Hp} {f:α->List V} {l:List α} {vs ys ws:List V} {D:Addr} (h:Paired (fun a y=>TupAt H (f a) y) l vs) (hD:H D=some (.lst ys)):Paired (fun a y=>TupAt (upd H D (.lst ws)) (f a) y) l vs:=Paired.Et h fun _ _ q=>q.upd hD
theorem Al {α:Type} {H H':Hp} {f:α->List V} {l:List α} {vs:List V} (s:An H H') (h:Paired (fun a y=>TupAt H (f a) y) l vs):Paired (fun a y=>TupAt H' (f a) y) l vs:=Paired.Et h fun _ _ q=>q.mono s
noncomputable def Mw (x z:Str) (scope osc:Scope) (N:List Str):Bool :=
 (scope.kind == .function) && scope.names.all (fun y=>y.2 != .cell && (y.2 != .local || scope.names.lookup y.1 == some .local) && (y.2 != .free || osc.names.lookup y.1 == some .cell || osc.names.lookup y.1 == some .free)) && (scope.names.lookup x == some .local) && (scope.names.lookup z == some .local) &&
 decide ((x::z::N).Nodup) && N.all (fun y=>scope.names.lookup y != some .local)
theorem Js {X:Cx} {x z:Str} {scope osc:Scope} {N:List Str} (hsc:X.env.scope=osc) (hN:X.N=N) (h:Mw x z scope osc N=true):Eh X x z scope:=by
 unfold Mw at h
 simp only [Bool.and_eq_true] at h
 obtain ⟨⟨⟨⟨⟨h1,h2⟩,h3⟩,h3'⟩,h4⟩,h5⟩:=h
 rw [List.all_eq_true] at h2 h5
 have kind:∀ y,X.env.kindOf y=osc.names.lookup y:=fun y=>by show X.env.scope.names.lookup y=_; rw [hsc]
 refine ⟨by simpa using h1,fun y hy=>?_,fun y hy hk=>?_,by simpa using h3,by simpa using h3',fun y hy hk=>?_,by rw [hN]; exact of_decide_eq_true h4,fun y hy=>?_⟩
 ·have:=h2 y hy
  simp only [Bool.and_eq_true,bne_iff_ne] at this
  exact this.1.1
 ·have:=h2 y hy
  simp only [Bool.and_eq_true] at this
  simpa [hk] using this.1.2
 ·have:=h2 y hy
  simp only [Bool.and_eq_true] at this
  rw [kind]
  simpa [hk] using this.2
 ·have:=h5 y (by rw [← hN]; exact hy)
  simpa using this
section
variable {X:Cx} {x z:Str} {scope:Scope}
theorem U0 {px pz pos:Pos} {k:Nat} {C:Addr} {s₀:Shared} {H₀:Hp} {fp:List Addr} (hc:X.calm=true) (S:Eh X x z scope) :
  PG (Bq X x z scope C s₀ H₀ fp) (.Tuple [.Name x px,.Name z pz] k pos) (R_ X.K 2 (Iv (DX 0) (Iv (DX 1) Ry))):=by
 have l1:(Bq X x z scope C s₀ H₀ fp).env.scope.names.lookup x=some .local:=lookup_relabel_local S.loc
 have l2:(Bq X x z scope C s₀ H₀ fp).env.scope.names.lookup z=some .local:=lookup_relabel_local S.loz
 exact GQ (X:=Bq X x z scope C s₀ H₀ fp) (n:=2) hc (Bf (Ba (X:=Bq X x z scope C s₀ H₀ fp) (i:=0) S.nd rfl (.inl l1) (.inr l1)) (Bf (Ba (X:=Bq X x z scope C s₀ H₀ fp) (i:=1) S.nd rfl (.inl l2) (.inr l2)) Du))
theorem QD {px pz tpos:Pos} {k:Nat} {pos:Pos} {iter elt:Expr} {ifs:List Expr} {wi:TI} {tt:TT} {te:TE} (hc:X.calm=true) (S:Eh X x z scope) (hi:PI X (.Tuple [.Name x px,.Name z pz] k tpos) iter wi)
  (ht:∀ C s₀ H₀ fp,Nh (Bq X x z scope C s₀ H₀ fp) ifs tt) (he:∀ C s₀ H₀ fp,PE (Bq X x z scope C s₀ H₀ fp) elt te) (hs:∀ x,foldedSetIterable iter X.env x=pure x:=by intro _; rfl) :
  PE X (.ListComp elt [⟨.Tuple [.Name x px,.Name z pz] k tpos,iter,ifs,0⟩] scope pos) (Tt wi (R_ X.K 2 (Iv (DX 0) (Iv (DX 1) Ry))) tt te) :=
 S5 hc S hi (fun _ _ _ _=>U0 hc S) ht he hs
end
section
variable {σ:St} {H1:Hp} {Q:VK} {tt:TT} {te:TE}
theorem Ca {K:PySem.W.Frag} {a:Addr} {xs:List V} (p:V->Bool) (f:V->V) (hl:CK K H1 a xs) (hz:xs.length<sizeLine)
  (ht:∀ x∈xs,∀ H,An H1 H->∀ R:Bool->Hp->Prop,(∀ H',An H H'->R (p x) H')->tt (some x::σ) H R)
  (he:∀ x∈xs,p x=true->∀ H,An H1 H->∀ R:VK,(∀ H',An H H'->R (f x) H')->te (some x::σ) H R)
  (hq:∀ D H,H1 D=none->An H1 H->H D=some (.lst ((xs.filter p).map f))->Q (.ref D) H):HX (YF K a) σ H1 Q tt te :=
 Iu p f hz (fun i H x hs hx=>⟨xs,x,hs.seq hl,hx⟩) (fun i H y H' hs _ hy=>⟨hy.1,hy.2 xs (hs.seq hl)⟩) (fun H hs=>⟨xs,hs.seq hl,Nat.le_refl _⟩) ht he hq
theorem Ks {J:It} {xs:List V} (p:V->Bool) (f:V->List V) (hz:xs.length<sizeLine)
  (hgo:∀ i H x,An H1 H->xs[i]? = some x->J.go i H) (hy:∀ i H y H',An H1 H->i<xs.length->J.yld i H y H'->H'=H/\xs[i]? = some y) (hstop:∀ H,An H1 H->J.stop xs.length H)
  (ht:∀ x∈xs,∀ H,An H1 H->∀ R:Bool->Hp->Prop,(∀ H',An H H'->R (p x) H')->tt (some x::σ) H R)
  (he:∀ x∈xs,p x=true->∀ H,An H1 H->∀ R:VK,(∀ y H',An H H'->TupAt H' (f x) y->R y H')->te (some x::σ) H R)
  (hq:∀ D H ys,H1 D=none->An H1 H->H D=some (.lst ys)->Paired (fun x y=>TupAt H (f x) y) (xs.filter p) ys->Q (.ref D) H):HX J σ H1 Q tt te:=by
 intro D hD
 have s0:An H1 (upd H1 D (.lst [])):=fun b o e=>by rw [BW (BL e hD)]; exact e
 refine ⟨fun i m ys H=>m=xs.length - i/\i<=xs.length/\H D=some (.lst ys)/\Paired (fun x y=>TupAt H (f x) y) ((xs.take i).filter p) ys/\An H1 H,⟨xs.length,by simp,Nat.zero_le _,Ak,by simpa using Paired.nil,s0⟩,?_⟩
 rintro i m ys H ⟨rfl,hi,hd,hp,hs⟩
 by_cases hlt:i<xs.length
 ·obtain ⟨x,hx⟩:∃ x,xs[i]? = some x:=⟨xs[i],by simp [hlt]⟩
  refine .inr ⟨hgo i H x hs hx,fun y H3 hyl=>?_⟩
  obtain ⟨rfl,hy'⟩:=hy i H y H3 hs hlt hyl
  rw [hx] at hy'
  cases hy'
  have hm:x∈xs:=List.mem_of_getElem? hx
  have hlen:ys.length<sizeLine:=by
   rw [← hp.length]
   refine Nat.lt_of_le_of_lt (List.length_filter_le _ _) (Nat.lt_of_le_of_lt ?_ hz)
   rw [List.length_take]; omega
  refine ht x hm _ hs _ fun H4 s4=>?_
  by_cases hpx:p x=true
  ·rw [if_pos hpx]
   refine he x hm hpx H4 (hs.trans s4) _ fun y H5 s5 hφ=>?_
   refine ⟨s5 _ _ (s4 _ _ hd),hlen,xs.length - (i+1),by omega,rfl,hlt,Ak,?_,fun b o e=>?_⟩
   ·rw [take_succ_filter p xs i x hx,if_pos hpx]
    exact (B_ (Al (s4.trans s5) hp) (s5 _ _ (s4 _ _ hd))).snoc (hφ.upd (s5 _ _ (s4 _ _ hd)))
   ·rw [BW (BL e hD)]; exact s5 _ _ (s4 _ _ (hs _ _ e))
  ·rw [if_neg hpx]
   refine ⟨xs.length - (i+1),by omega,rfl,hlt,s4 _ _ hd,?_,hs.trans s4⟩
   rw [take_succ_filter p xs i x hx,if_neg hpx,List.append_nil]
   exact Al s4 hp
 ·have e:i=xs.length:=by omega
  subst e
  rw [List.take_length] at hp
  exact .inl ⟨hstop H hs,hq D H ys hD hs hd hp⟩
theorem Jo {K:PySem.W.Frag} {a:Addr} {xs:List V} (p:V->Bool) (f:V->List V) (hl:CK K H1 a xs) (hz:xs.length<sizeLine)
  (ht:∀ x∈xs,∀ H,An H1 H->∀ R:Bool->Hp->Prop,(∀ H',An H H'->R (p x) H')->tt (some x::σ) H R)
  (he:∀ x∈xs,p x=true->∀ H,An H1 H->∀ R:VK,(∀ y H',An H H'->TupAt H' (f x) y->R y H')->te (some x::σ) H R)
  (hq:∀ D H ys,H1 D=none->An H1 H->H D=some (.lst ys)->Paired (fun x y=>TupAt H (f x) y) (xs.filter p) ys->Q (.ref D) H):HX (YF K a) σ H1 Q tt te :=
 Ks p f hz (fun i H x hs hx=>⟨xs,x,hs.seq hl,hx⟩) (fun i H y H' hs _ hy=>⟨hy.1,hy.2 xs (hs.seq hl)⟩) (fun H hs=>⟨xs,hs.seq hl,Nat.le_refl _⟩) ht he hq
theorem Mi {α β:Type} {F:α->β->Prop} (g:Nat->α):∀ {n:Nat} {l:List α} {ys:List β},Paired F l ys->l=(List.range n).map g->Paired (fun i y=>F (g i) y) (List.range n) ys:=by
 intro n
 have key:∀ (js:List Nat) (ys:List β),Paired F (js.map g) ys->Paired (fun i y=>F (g i) y) js ys:=by
  intro js
  induction js with
  | nil=>intro ys h; cases h; exact .nil
  | cons j js ih =>
   intro ys h
   cases h with
   | cons a b=>exact .cons a (ih _ b)
 intro l ys h e
 subst e
 exact key _ _ h
theorem Kp {n:Nat} (f:Nat->List V) (hz:n<sizeLine)
  (he:∀ i:Nat,i<n->∀ H,An H1 H->∀ R:VK,(∀ y H',An H H'->TupAt H' (f i) y->R y H')->te (some (.int (i:Int))::σ) H R)
  (hq:∀ D H ys,H1 D=none->An H1 H->H D=some (.lst ys)->Paired (fun i y=>TupAt H (f i) y) (List.range n) ys->Q (.ref D) H):HX (W7 0 n) σ H1 Q Vr te:=by
 let g:V->Nat:=fun v=>match v with | .int i=>i.toNat | _=>0
 have hxs:∀ i:Nat,i<n->((List.range n).map fun (i:Nat)=>V.int (i:Int))[i]? = some (.int i):=fun i hi=>by simp [hi]
 refine Ks (xs:=(List.range n).map fun (i:Nat)=>V.int (i:Int)) (fun _=>true) (fun v=>f (g v)) (by simpa using hz) (fun i H x _ hx=>?_) (fun i H y H' _ hi hy=>?_) (fun H _=>?_) (fun x hx H hs R k=>k H (An.refl H)) (fun x hx _ H hs R k=>?_) (fun D H ys h1 h2 h3 h4=>?_)
 ·have:i<((List.range n).map fun (i:Nat)=>V.int (i:Int)).length:=(List.getElem?_eq_some_iff.mp hx).1
  show i<n
  simpa using this
 ·obtain ⟨e1,e2⟩:=hy
  have hi':i<n:=by simpa using hi
  refine ⟨e1,?_⟩
  rw [hxs i hi',e2,Int.zero_add]
 ·show n<=_
  simp
 ·obtain ⟨i,hi,rfl⟩:=List.mem_map.mp hx
  exact he i (List.mem_range.mp hi) H hs R k
 ·rw [List.filter_eq_self.mpr (fun _ _=>rfl)] at h4
  exact hq D H ys h1 h2 h3 (Mi (F:=fun x y=>TupAt H (f (g x)) y) (fun i=>V.int (i:Int)) h4 rfl)
theorem Ua {K:PySem.W.Frag} {a b:Addr} {xs ys:List V} (f:V->V->V) (hx:IV K H1 a xs) (hy:IV K H1 b ys) (hl:xs.length=ys.length) (hz:xs.length<sizeLine)
  (he:∀ (i:Nat) x y,xs[i]? = some x->ys[i]? = some y->∀ H,An H1 H->∀ R:VK,(∀ H',An H H'->R (f x y) H')->te (some x::some y::σ) H R)
  (hq:∀ D H,H1 D=none->An H1 H->H D=some (.lst (List.zipWith f xs ys))->Q (.ref D) H):Jj (iT K a b) σ H1 Q (R_ K 2 (Iv (DX 0) (Iv (DX 1) Ry))) Vr te:=by
 intro D hD
 have s0:An H1 (upd H1 D (.lst [])):=fun b o e=>by rw [BW (BL e hD)]; exact e
 refine ⟨fun i m zs H=>m=xs.length - i/\i<=xs.length/\zs=(List.zipWith f xs ys).take i/\H D=some (.lst zs)/\An H1 H,⟨xs.length,by simp,Nat.zero_le _,by simp,Ak,s0⟩,?_⟩
 rintro i m zs H ⟨rfl,hi,rfl,hd,hs⟩
 have hzl:(List.zipWith f xs ys).length=xs.length:=by rw [List.length_zipWith]; omega
 by_cases hlt:i<xs.length
 ·have ex:xs[i]? = some xs[i]:=List.getElem?_eq_getElem hlt
  have ey:ys[i]? = some ys[i]:=List.getElem?_eq_getElem (hl ▸ hlt)
  refine .inr ⟨⟨xs,ys,_,_,hs.tup hx,hs.tup hy,ex,ey⟩,fun v H3 hv v0 v1=>?_⟩
  obtain ⟨T,hT,rfl,hv⟩:=hv
  obtain ⟨x,y,qx,qy,rfl⟩:=hv xs ys (hs.tup hx) (hs.tup hy)
  have s3:An H (upd H T (.tup [x,y])):=fun b o e=>by rw [BW (BL e hT)]; exact e
  refine ⟨T,[x,y],rfl,.inl (.inl Ak),rfl,x,[y],rfl,y,[],rfl,rfl,⟨_,_,rfl⟩,?_⟩
  unfold Vr
  dsimp only
  rw [if_pos rfl]
  refine he i x y qx qy _ (hs.trans s3) _ fun H5 s5=>?_
  refine ⟨s5 _ _ (s3 _ _ hd),?_,xs.length - (i+1),by omega,rfl,hlt,?_,Ak,fun b o e=>?_⟩
  ·rw [List.length_take,hzl]
   omega
  ·rw [List.take_add_one,List.getElem?_zipWith,qx,qy]
   rfl
  ·rw [BW (BL e hD)]
   exact s5 _ _ (s3 _ _ (hs _ _ e))
 ·have e:i=xs.length:=by omega
  subst e
  rw [← hzl,List.take_length] at hd
  exact .inl ⟨⟨xs,hs.tup hx,Nat.le_refl _⟩,hq D H hD hs hd⟩
theorem Qw {K:PySem.W.Frag} {a:Addr} {xs:List V} (p:Nat->V->Bool) (f:Nat->V->V) (hx:CK K H1 a xs) (hz:xs.length<sizeLine)
  (ht:∀ (i:Nat) x,xs[i]? = some x->∀ H,An H1 H->∀ R:Bool->Hp->Prop,(∀ H',An H H'->R (p i x) H')->tt (some (.int (i:Int))::some x::σ) H R)
  (he:∀ (i:Nat) x,xs[i]? = some x->p i x=true->∀ H,An H1 H->∀ R:VK,(∀ H',An H H'->R (f i x) H')->te (some (.int (i:Int))::some x::σ) H R)
  (hq:∀ D H,H1 D=none->An H1 H->H D=some (.lst ((xs.zipIdx.filter fun q=>p q.2 q.1).map fun q=>f q.2 q.1))->Q (.ref D) H):Jj (Yw K a) σ H1 Q (R_ K 2 (Iv (DX 0) (Iv (DX 1) Ry))) tt te:=by
 intro D hD
 have s0:An H1 (upd H1 D (.lst [])):=fun b o e=>by rw [BW (BL e hD)]; exact e
 refine ⟨fun i m zs H=>m=xs.length - i/\i<=xs.length/\zs=(((xs.zipIdx.take i).filter fun q=>p q.2 q.1).map fun q=>f q.2 q.1)/\H D=some (.lst zs)/\An H1 H,⟨xs.length,by simp,Nat.zero_le _,by simp,Ak,s0⟩,?_⟩
 rintro i m zs H ⟨rfl,hi,rfl,hd,hs⟩
 by_cases hlt:i<xs.length
 ·have ex:xs[i]? = some xs[i]:=List.getElem?_eq_getElem hlt
  refine .inr ⟨⟨xs,_,hs.seq hx,ex⟩,fun v H3 hv v0 v1=>?_⟩
  obtain ⟨T,hT,rfl,hv⟩:=hv
  obtain ⟨x,qx,rfl⟩:=hv xs (hs.seq hx)
  have s3:An H (upd H T (.tup [.int (i:Int),x])):=fun b o e=>by rw [BW (BL e hT)]; exact e
  have ez:xs.zipIdx[i]? = some (x,i):=by rw [List.getElem?_zipIdx,qx]; simp
  have hlen:(((xs.zipIdx.take i).filter fun q=>p q.2 q.1).map fun q=>f q.2 q.1).length<sizeLine:=by
   rw [List.length_map]
   refine Nat.lt_of_le_of_lt (List.length_filter_le _ _) (Nat.lt_of_le_of_lt ?_ hz)
   rw [List.length_take,List.length_zipIdx]; omega
  refine ⟨T,[.int (i:Int),x],rfl,.inl (.inl Ak),rfl,_,[x],rfl,x,[],rfl,rfl,⟨_,_,rfl⟩,?_⟩
  refine ht i x qx _ (hs.trans s3) _ fun H4 s4=>?_
  by_cases hp:p i x=true
  ·rw [if_pos hp]
   refine he i x qx hp _ (hs.trans (s3.trans s4)) _ fun H5 s5=>?_
   refine ⟨s5 _ _ (s4 _ _ (s3 _ _ hd)),hlen,xs.length - (i+1),by omega,rfl,hlt,?_,Ak,fun b o e=>?_⟩
   ·rw [take_succ_filter (fun q:V × Nat=>p q.2 q.1) xs.zipIdx i (x,i) ez,if_pos hp,List.map_append]
    rfl
   ·rw [BW (BL e hD)]
    exact s5 _ _ (s4 _ _ (s3 _ _ (hs _ _ e)))
  ·rw [if_neg hp]
   refine ⟨xs.length - (i+1),by omega,rfl,hlt,?_,s4 _ _ (s3 _ _ hd),hs.trans (s3.trans s4)⟩
   rw [take_succ_filter (fun q:V × Nat=>p q.2 q.1) xs.zipIdx i (x,i) ez,if_neg hp,List.append_nil]
 ·have e:i=xs.length:=by omega
  subst e
  rw [List.take_of_length_le (by simp)] at hd
  exact .inl ⟨⟨xs,hs.seq hx,Nat.le_refl _⟩,hq D H hD hs hd⟩
end
theorem Ip {K:PySem.W.Frag} {a:Addr} {xs:List V} {g:TG} {tb:TS} {D:Ends} {σ:St} {H:Hp} (Pv:Nat->St->Hp->Prop) (h0:Pv 0 σ H) (hl:∀ i σ H,i<=xs.length->Pv i σ H->CK K H a xs)
  (hb:∀ (i:Nat) x σ H T,xs[i]? = some x->Pv i σ H->H T=none->g (.ref T) σ (upd H T (.tup [.int (i:Int),x])) fun σ' H'=>tb { D with nx:=Pv (i+1),ct:=Pv (i+1),bk:=D.nx } σ' H')
  (hn:∀ σ H,Pv xs.length σ H->D.nx σ H):∃ W:Nat->Nat->St->Hp->Prop,(∃ m,W 0 m σ H)/\∀ i m σ H,W i m σ H ->
   ((Yw K a).stop i H/\D.nx σ H) \/ ((Yw K a).go i H/\∃ N:St->Hp->Prop,(∀ σ H,N σ H->∃ m',m'<m/\W (i+1) m' σ H)/\∀ x H',(Yw K a).yld i H x H'->g x σ H' fun σ' H''=>tb { D with nx:=N,ct:=N,bk:=D.nx } σ' H''):=by
 refine ⟨fun i m σ H=>m=xs.length - i/\i<=xs.length/\Pv i σ H,⟨_,rfl,Nat.zero_le _,h0⟩,?_⟩
 rintro i m σ H ⟨rfl,hi,hp⟩
 by_cases hlt:i<xs.length
 ·refine .inr ⟨⟨xs,_,hl i σ H hi hp,List.getElem?_eq_getElem hlt⟩,Pv (i+1),fun σ' H' h=>⟨xs.length - (i+1),by omega,rfl,hlt,h⟩,fun v H' hv=>?_⟩
  obtain ⟨T,hT,rfl,hv⟩:=hv
  obtain ⟨x,qx,rfl⟩:=hv xs (hl i σ H hi hp)
  exact hb i x σ H T qx hp hT
 ·have e:i=xs.length:=by omega
  subst e
  exact .inl ⟨⟨xs,hl _ σ H hi hp,Nat.le_refl _⟩,hn σ H hp⟩
end L2
namespace L2
open PySem PySem.Spec PySem.Calls PyProof.Rows
section
variable {prog:Program} {w:World} {A:Around} {E:Value->Shared->Prop} {s:Shared} {K:PySem.W.Frag} {x C:Addr} {ox:Obj} {od:Option Obj} {name:Str} {tk:Tok} {R:Result->Shared->Prop}
end
end L2
namespace L2
open PySem PySem.Spec PySem.Calls PyProof.Rows
section
variable {prog:Program} {w:World} {A:Around} {E:Value->Shared->Prop} {K:PySem.W.Frag} {C:Addr} {h:Heap} {g:Array GenState} {d:Drawn} {t:Nat} {os:OsState}
end
end L2
namespace L2
open PySem PySem.Spec PySem.Calls PyProof.Rows
noncomputable def cX (x C:Addr) (od:Option Addr):HO:=.ext fun h=>∃ (d:Data) (sl:Array (Option Value)),h.get? x=some ⟨.ref C,od,d,sl⟩/\PySem.W.notCls ⟨.ref C,od,d,sl⟩=true
noncomputable def lq (dx:Addr) (fs:List (Str × V)):HO:=.ext fun h=>∃ mA,h.Ns1 dx mA/\∀ f,Hc (fs.lookup f) (mA f)
section
variable {P:Program} {w:World} {H H':Hp} {h:Heap} {x C dx:Addr} {od:Option Addr} {fs:List (Str × V)}
inductive Wj (H:Hp) (x C:Addr):List (Str × V)->Prop where
 | bare (e:H x=some (cX x C none)):Wj H x C []
 | full {dx:Addr} {fs:List (Str × V)} (e:H x=some (cX x C (some dx))) (d:H dx=some (lq dx fs)):Wj H x C fs
end
section
variable {P:Program} {w:World} {X:Cx} {pins:List (Addr × Obj)} {σ:St} {H:Hp} {s:Shared} {h':Heap} {a:Addr} {o:HO}
end
section
variable {X:Cx} {C:Addr} {x:Str} {e:Expr} {es:List Expr} {t:TA} {p pos:Pos}
end
section
variable {X:Cx} {e:Expr} {f:Str} {pos:Pos} {ta:TE}
end
section
variable {prog:Program} {w:World} {A:Around} {E:Value->Shared->Prop} {s:Shared} {K:PySem.W.Frag} {x C:Addr} {name:Str} {v:Value} {R:Result->Shared->Prop} {d:Data} {sl:Array (Option Value)}
end
section
variable {X:Cx} {pins:List (Addr × Obj)} {σ:St} {H:Hp} {s:Shared} {h':Heap} {x C dx:Addr} {f:Str} {y:V} {u:Value}
end
section
variable {X:Cx} {o value:Expr} {f:Str} {pos pos':Pos} {ta tv:TE}
end
section
variable {X:Cx} {C f:Addr} {fd:FuncData} {ps:List Str} {sp:Sp} {k:Nat} {x:Str} {e:Expr} {es:List Expr} {t:TA} {p pos:Pos}
end
section
variable {X:Cx}
end
end L2
namespace Wd
noncomputable def mk (l:List Nat):Nat:=l.foldl (fun s n=>s ||| 2 ^ n) 0
theorem Q_ (l:List Nat):∀ (s i:Nat),(l.foldl (fun s n=>s ||| 2 ^ n) s).testBit i=(s.testBit i || decide (i∈l)):=by
 induction l with
 | nil=>intro s i; simp
 | cons n l ih =>
  intro s i
  rw [List.foldl_cons,ih,Nat.testBit_or,Nat.testBit_two_pow]
  by_cases h:n=i
  ·subst h; simp
  ·have h':¬ i=n:=fun e=>h e.symm
   simp [h,h']
theorem Fq (l:List Nat) (i:Nat):(mk l).testBit i=decide (i∈l):=by
 unfold mk; rw [Q_]; simp
noncomputable def len (n:Nat):Nat:=if n=0 then 0 else n.log2+1
theorem R7 {n i:Nat} (h:n.testBit i=true):i<len n:=by
 unfold len
 have h0:n ≠ 0:=by intro e; subst e; simp at h
 rw [if_neg h0]
 have h1:2 ^ i<=n:=Nat.ge_two_pow_of_testBit h
 have h2:i<=n.log2:=(Nat.le_log2 h0).mpr h1
 omega
noncomputable def mem (n:Nat):List Nat:=(List.range (len n)).filter n.testBit
theorem mem_iff {n i:Nat}:i∈mem n ↔ n.testBit i=true:=by
 unfold mem
 rw [List.mem_filter,List.mem_range]
 exact ⟨fun h=>h.2,fun h=>⟨R7 h,h⟩⟩
theorem MP {n k:Nat} (h:n<2 ^ k):len n<=k:=by
 unfold len
 split
 ·omega
 ·rename_i h0
  have:n.log2<k:=(Nat.log2_lt h0).mpr h
  omega
noncomputable def mv (n:Nat) (k:Int) (c:Nat):Nat:=(if 0<k then n * 2 ^ k.toNat else n / 2 ^ (-k).toNat) % 2 ^ c
theorem JN (n:Nat) (k:Int) (c i:Nat):(mv n k c).testBit i=(decide (i<c) && (decide (0<=(i:Int) - k) && n.testBit ((i:Int) - k).toNat)):=by
 unfold mv
 rw [Nat.testBit_mod_two_pow]
 congr 1
 split
 ·rename_i h
  rw [Nat.testBit_mul_two_pow]
  by_cases h1:k.toNat<=i
  ·have e:((i:Int) - k).toNat=i - k.toNat:=by omega
   have e2:(0:Int)<=i - k:=by omega
   rw [decide_eq_true e2,e]; simp [h1]
  ·have e2:¬ (0:Int)<=i - k:=by omega
   rw [decide_eq_false e2]; simp [h1]
 ·rename_i h
  rw [Nat.testBit_div_two_pow]
  have e:((i:Int) - k).toNat=i+(-k).toNat:=by omega
  have e2:(0:Int)<=i - k:=by omega
  rw [decide_eq_true e2,e]; simp
noncomputable def stay (l:List Nat) (k:Int) (c:Nat):List Nat:=l.filter fun n=>decide (0<=(n:Int)+k) && decide ((n:Int)+k<c)
theorem bT {l:List Nat} (hb:∀ n∈l,n<1200):mk l<2 ^ 1200:=by
 refine Nat.lt_pow_two_of_testBit _ fun i hi=>?_
 rw [Fq]
 exact decide_eq_false fun h=>absurd (hb i h) (by omega)
theorem U7 (l:List Nat) (n:Nat):mk (l++[n])=mk l ||| 2 ^ n:=by
 unfold mk; rw [List.foldl_append]; rfl
end Wd
namespace L2
open PySem PySem.Spec PySem.Calls PyProof.Rows
theorem Lz:∀ {xs:List V} {us:List Value},xs.length=us.length->(∀ (j:Nat) x u,xs[j]? = some x->us[j]? = some u->RelV x u)->Vals xs us
 | [],[],_,_=>.nil
 | [],_::_,h,_=>by simp at h
 | _::_,[],h,_=>by simp at h
 | x::xs,u::us,h,f=>.cons (f 0 x u rfl rfl) (Lz (by simpa using h) fun j y v hy hv=>f (j+1) y v (by simpa using hy) (by simpa using hv))
noncomputable def Ui (K:PySem.W.Frag) (a b:Addr):It :=
 ⟨fun i H=>∃ xs ys x y,CK K H a xs/\CK K H b ys/\xs[i]? = some x/\ys[i]? = some y,fun i H v H'=>∃ T,H T=none/\v=.ref T/\∀ xs ys,CK K H a xs->CK K H b ys->∃ x y,xs[i]? = some x/\ys[i]? = some y/\H'=upd H T (.tup [x,y]),
  fun i H=>∃ xs ys,CK K H a xs/\CK K H b ys/\(xs.length<=i \/ ys.length<=i)⟩
theorem Qn {P:Program} {w:World} {K:PySem.W.Frag} {es:List Expr} {k1:Nat} {pos:Pos} (a b n:Nat) (ha:a<n) (hb:b<n) :
  Turn P w K (.Tuple es k1 pos) (Ui K a b) [n,n+1,n+2,n+3,n+4] (n+4) (fun i h=>IsZip h (n+4) (n+2) (n+3) .none/\IsPair h (n+2) (.ref n) (.ref (n+1))/\(∃ x y,IsPair h (n+3) x y)/\h.IsListIter n a i/\h.IsListIter (n+1) b i) where
 mem:=by simp
 obj:=fun i h st c hc=>by
  obtain ⟨hz,hI,⟨x,y,hO⟩,⟨o1,e1,_,d1⟩,⟨o2,e2,_,d2⟩⟩:=st
  refine Qt (P:=fun c=>∃ o,h.get? c=some o/\∀ v,o.data ≠ .cell v) ⟨_,e1,fun v z=>?_⟩ ⟨_,e2,fun v z=>?_⟩ ⟨_,hI,fun v z=>?_⟩ ⟨_,hO,fun v z=>?_⟩ ⟨_,hz,fun v z=>?_⟩ hc
  ·rw [d1] at z; cases z
  ·rw [d2] at z; cases z
  ·have z':Data.seq _ _=Data.cell v:=z
   cases z'
  ·have z':Data.seq _ _=Data.cell v:=z
   cases z'
  ·have z':Data.fields _=Data.cell v:=z
   cases z'
 keep:=fun i h h' st k=>by
  obtain ⟨hz,hI,⟨x,y,hO⟩,j1,j2⟩:=st
  exact ⟨k _ (by simp) _ hz,k _ (by simp) _ hI,⟨x,y,k _ (by simp) _ hO⟩,j1.at fun o q=>k _ (by simp) o q,j2.at fun o q=>k _ (by simp) o q⟩
 item:=by
  intro X hP hw hK hc i pins s σ H E I hf st hg
  subst hP hw hK
  obtain ⟨xs,ys,x,y,q1,q2,hx,hy⟩:=hg
  obtain ⟨it1,r1,p1,_⟩:=I.list q1
  obtain ⟨it2,r2,p2,_⟩:=I.list q2
  obtain ⟨u,hu,ru⟩:=r1.get hx
  obtain ⟨v,hv,rv⟩:=r2.get hy
  obtain ⟨hz,hI,⟨x0,y0,hO⟩,j1,j2⟩:=st
  have D:=Lh ha hb
  have sz:n+4<s.heap.objs.size:=Heap.lt_size hz
  refine wpAny_pyNext_zip_item D hz hI hO j1 j2 p1.isList p2.isList (x:=u) (y:=v) (by simpa using hu) (by simpa using hv) fun h1 n1 n2 n3 n4 n5 n6 n7=>?_
  refine ⟨_,rfl,wpAny_letOwnedTupleGo_zip (s:={ s with heap:=h1 }) n1 fun h2 m1 m2=>?_⟩
  have fr:H s.heap.objs.size=none:=I.hok.fresh (Nat.le_refl _)
  have nw:Ce X.prog X.w (upd H s.heap.objs.size (.tup [x,y])) h2 s.heap.objs.size (.tup [x,y]) :=
   ⟨by show 2<=sizeLine; decide,[u,v],.cons ru (.cons rv .nil),_,m2.extBut _ _ (Nat.ne_of_gt sz) n5,rfl,_,rfl⟩
  have hI2:IsPair h1 (n+2) (.ref n) (.ref (n+1)):=n7 _ _ D.TIz D.TITO D.TIi1 D.TIi2 hI
  refine ⟨.ref s.heap.objs.size,_,I.J7 (t':=s.toks) (ch:=[n,n+1,n+2,n+3,n+4]) hf (fun c o hc q=>?_) (Nat.le_refl _) nw,rfl,⟨_,fr,rfl,fun xs' ys' h1 h2=>⟨x,y,by rw [I.Iz h1 q1]; exact hx,by rw [I.Iz h2 q2]; exact hy,rfl⟩⟩,
   ⟨m1,m2.extBut _ _ D.TIz hI2,⟨u,v,m2.extBut _ _ D.TOz n2⟩,n3.at fun o q=>m2.extBut _ _ D.i1z q,n4.at fun o q=>m2.extBut _ _ D.i2z q⟩,fun c hc=>?_⟩
  ·have z:∀ d,d∈[n,n+1,n+2,n+3,n+4]->c ≠ d:=fun d hd q=>hc (q ▸ hd)
   exact m2.extBut _ _ (z _ (by simp)) (n7 c o (z _ (by simp)) (z _ (by simp)) (z _ (by simp)) (z _ (by simp)) q)
  ·rw [BW ?_]
   ·exact (hf c hc).1
   ·have lt:c<=n+4:=Qt (P:=fun c=>c<=n+4) (by omega) (by omega) (by omega) (by omega) (Nat.le_refl _) hc
    exact Nat.ne_of_lt (Nat.lt_of_le_of_lt lt sz)
 done:=by
  intro X hP hw hK hc i pins s σ H E I hf st hg
  subst hP hw hK
  obtain ⟨xs,ys,q1,q2,hx⟩:=hg
  obtain ⟨it1,r1,p1,_⟩:=I.list q1
  obtain ⟨it2,r2,p2,_⟩:=I.list q2
  obtain ⟨hz,hI,⟨x0,y0,hO⟩,j1,j2⟩:=st
  have D:=Lh ha hb
  have l1:=r1.length
  have l2:=r2.length
  refine wpAny_pyNext_zip_end (I.ok.hd hc) D hz hI hO j1 j2 p1.isList p2.isList (by rcases hx with h | h; exact .inl (by simp; omega); exact .inr (by simp; omega)) fun h1 k1=>?_
  refine ⟨rfl,I.La (t':=s.toks) (ch:=[n,n+1,n+2,n+3,n+4]) hf fun c o hc q=>?_⟩
  have z:∀ d,d∈[n,n+1,n+2,n+3,n+4]->c ≠ d:=fun d hd q=>hc (q ▸ hd)
  exact k1 c o (z _ (by simp)) (z _ (by simp)) (z _ (by simp)) (z _ (by simp)) q
 self:=fun _ _ _ _ _ st h=>wpAny_pyIter_zip st.1 h
section
variable {X:Cx} {es:List Expr} {k1:Nat} {tpos:Pos}
noncomputable def Y0 (K:PySem.W.Frag) (ta:TA):TI:=fun σ H R=>ta σ H fun vs H1=>∃ a b,vs=[.ref a,.ref b]/\(∃ xs,CK K H1 a xs)/\(∃ ys,CK K H1 b ys)/\R (Ui K a b) H1
theorem U6 {x y:Expr} {ta:TA} {p pos:Pos} (hg:Gl X "zip") (hm:X.mg "zip" = none) (ha:PA X [x,y] ta) (hs:starEach [x,y] X.env=[(false,eval x X.env),(false,eval y X.env)]:=by rfl) (hs2:starEach [y] X.env=[(false,eval y X.env)]:=by rfl) :
  PI X (.Tuple es k1 tpos) (.Call (.Name "zip" p) [x,y] [] pos) (Y0 X.K ta):=by
 intro pins s σ H R I h
 refine Call_ (GC I hg hm boot_zip (PyProof.Rows.callWith_type1 (CJ (ha pos pins s σ H _ I h) fun us s1 ⟨vs,H1,I1,r1,q1⟩=>?_) (by rw [hs,hs2]) (by rw [hs2]; rfl)))
 obtain ⟨a,b,e,⟨xs,q1⟩,⟨ys,q2⟩,q⟩:=q1
 subst e
 obtain ⟨u,v,rfl,ru,rv⟩:=Vals.two r1
 cases ru
 cases rv
 obtain ⟨it1,r1,p1,_⟩:=I1.list q1
 obtain ⟨it2,r2,p2,_⟩:=I1.list q2
 have l1:a<s1.heap.objs.size:=by obtain ⟨_,e,_⟩:=p1.isList; exact Heap.lt_size e
 have l2:b<s1.heap.objs.size:=by obtain ⟨_,e,_⟩:=p2.isList; exact Heap.lt_size e
 refine call_zip_2 p1.isList p2.isList fun h1 n1 n2 n3 n4 n5 n6 n7=>?_
 refine wpAny_pyIter_zip (s:={ s1 with heap:=h1 }) n1 ?_
 refine ⟨_,[s1.heap.objs.size,s1.heap.objs.size+1,s1.heap.objs.size+2,s1.heap.objs.size+3,s1.heap.objs.size+4],_,_,H1,rfl,I1.kept (t':=s1.toks) n7,Qn a b s1.heap.objs.size l1 l2,⟨n1,n2,⟨_,_,n3⟩,n4,n5⟩,fun c hc=>?_,q⟩
 have lt:s1.heap.objs.size<=c:=Qt (P:=fun c=>s1.heap.objs.size<=c) (by omega) (by omega) (by omega) (by omega) (by omega) hc
 exact I1.Kc lt (I1.hok.fresh lt)
theorem SQ {K:PySem.W.Frag} {a b:Addr} {xs ys:List V} {g:TG} {tb:TS} {D:Ends} {σ:St} {H:Hp} (Pv:Nat->St->Hp->Prop) (h0:Pv 0 σ H) (hl:∀ i σ H,i<=xs.length->Pv i σ H->CK K H a xs/\CK K H b ys)
  (hb:∀ (i:Nat) x y σ H T,xs[i]? = some x->ys[i]? = some y->Pv i σ H->H T=none->g (.ref T) σ (upd H T (.tup [x,y])) fun σ' H'=>tb { D with nx:=Pv (i+1),ct:=Pv (i+1),bk:=D.nx } σ' H')
  (hn:∀ i σ H,Pv i σ H->D.nx σ H):∃ W:Nat->Nat->St->Hp->Prop,(∃ m,W 0 m σ H)/\∀ i m σ H,W i m σ H ->
   ((Ui K a b).stop i H/\D.nx σ H) \/ ((Ui K a b).go i H/\∃ N:St->Hp->Prop,(∀ σ H,N σ H->∃ m',m'<m/\W (i+1) m' σ H)/\∀ x H',(Ui K a b).yld i H x H'->g x σ H' fun σ' H''=>tb { D with nx:=N,ct:=N,bk:=D.nx } σ' H''):=by
 refine ⟨fun i m σ H=>m=xs.length - i/\i<=xs.length/\Pv i σ H,⟨_,rfl,Nat.zero_le _,h0⟩,?_⟩
 rintro i m σ H ⟨rfl,hi,hp⟩
 obtain ⟨q1,q2⟩:=hl i σ H hi hp
 by_cases hlt:i<xs.length/\i<ys.length
 ·refine .inr ⟨⟨xs,ys,_,_,q1,q2,List.getElem?_eq_getElem hlt.1,List.getElem?_eq_getElem hlt.2⟩,Pv (i+1),fun σ' H' h=>⟨xs.length - (i+1),by omega,rfl,hlt.1,h⟩,fun v H' hv=>?_⟩
  obtain ⟨T,hT,rfl,hv⟩:=hv
  obtain ⟨x,y,qx,qy,rfl⟩:=hv xs ys q1 q2
  exact hb i x y σ H T qx qy hp hT
 ·exact .inl ⟨⟨xs,ys,q1,q2,by omega⟩,hn i σ H hp⟩
theorem J4 (hc:X.calm=true):Fo X (.type "list") (fun xs H Q=>∃ (a:Addr) (kvs:List (Key × V)) (js:List Int),xs=[V.ref a]/\H a=some (.dK kvs)/\kvs.map (·.1)=js.map Sum.inl/\∀ l,H l=none->Q (.ref l) (upd H l (.lst (js.map V.int)))):=by
 intro pins s σ H xs us Q I r h
 obtain ⟨a,kvs,js,rfl,ha,hj,q⟩:=h
 obtain ⟨u,rfl,ru⟩:=vals1 r
 cases ru
 obtain ⟨hz,lo,vs,rel,o,es,ep,e1,e2,e3,e4,e5,e6⟩:=I.hok a _ ha
 have hl:kvs.length=vs.length:=Paired.length rel
 have hda:s.heap.DictAt (Ck X.prog X.w) a vs ep:=⟨o,es,e1,e2,e3,e4,e5,e6⟩
 refine PySem.W.kdl_call (PySem.W.kdl_dict (knd:=Ck X.prog X.w) (kvs:=vs) (ep:=ep) lo) (I.ok.hd hc) hda (by omega) ?_
 intro h' tk acc' c' hk hD hacc
 have hjl:js.length=vs.length:=by
  have:=congrArg List.length hj
  rw [List.length_map,List.length_map] at this
  omega
 have hv:Vals (js.map V.int) acc'.toList:=by
  refine Lz (by have h1:acc'.toList.length=acc'.size:=Array.length_toList; have h2:=hacc.1; rw [List.length_map]; omega) fun j x u hx hu=>?_
  rw [Array.getElem?_toList] at hu
  obtain ⟨k,y,hk1,hk2⟩:=hacc.2 j u hu
  rw [List.getElem?_map] at hx
  obtain ⟨i,hi,rfl⟩:=Option.map_eq_some_iff.mp hx
  have e1:(kvs.map (·.1))[j]? = some (Sum.inl i):=by rw [hj,List.getElem?_map,hi]; rfl
  rw [List.getElem?_map] at e1
  obtain ⟨kv,hkv,ekv⟩:=Option.map_eq_some_iff.mp e1
  have rel':∀ {l:List (Key × V)} {m:List (Key × Value)},KV l m->∀ {j:Nat} {p q},l[j]? = some p->m[j]? = some q->p.1=q.1:=by
   intro l m h
   unfold KV at h
   induction h with
   | nil=>intro j p q hp; simp at hp
   | cons a b ih =>
    intro j p q hp hq
    cases j with
    | zero =>
     simp at hp hq
     subst hp hq
     exact a.1
    | succ j=>exact ih (by simpa using hp) (by simpa using hq)
  have e2:=rel' rel hkv hk1
  rw [ekv] at e2
  have e3:k=Sum.inl i:=e2.symm
  subst e3
  rcases Cg (show J3 (Sum.inl i) u=true from hk2) with ⟨i',t,e,rfl⟩ | ⟨x,t,e,_⟩
  ·cases e
   exact ⟨t,rfl⟩
  ·cases e
 refine ⟨.ref s.heap.objs.size,_,I.laid (t':=tk) (o:=.lst (js.map V.int)) hk (Nat.le_refl _) ⟨by rw [List.length_map]; omega,acc'.toList,c',hv,by simpa using hD⟩,rfl,q _ (I.hok.fresh (Nat.le_refl _))⟩
theorem Mx:fL X "int.bit_length" (fun x xs H Q=>∃ i,x=V.int i/\xs=[]/\Q (.int (Builtin.Int.intBits i)) H):=by
 intro pins s σ H x xs v us Q I rx r h
 obtain ⟨i,rfl,rfl,q⟩:=h
 obtain ⟨t,rfl⟩:=rx
 cases r
 exact PyProof.Rows.call_int_bit_length ⟨.int _,H,I.tok _,⟨_,rfl⟩,q⟩
end
theorem Jh (a b:Nat):Builtin.bitOr (a:Int) (b:Int)=((a ||| b:Nat):Int):=by
 have h1:¬ 0<=Builtin.bitNot (a:Int):=by unfold Builtin.bitNot; omega
 have h2:¬ 0<=Builtin.bitNot (b:Int):=by unfold Builtin.bitNot; omega
 have nn:∀ x:Int,Builtin.bitNot (Builtin.bitNot x)=x:=fun x=>by unfold Builtin.bitNot; omega
 unfold Builtin.bitOr
 rw [bitAnd_nn h1 h2,nn,nn,nn]
 simp
theorem Hb (a b:Nat):Builtin.bitAnd (a:Int) (b:Int)=((a &&& b:Nat):Int):=by
 rw [bitAnd_pp (Int.natCast_nonneg a) (Int.natCast_nonneg b)]
 simp
theorem JH (n:Nat):Builtin.Int.intBits (n:Int)=Wd.len n:=by
 unfold Builtin.Int.intBits Wd.len
 by_cases h:n=0
 ·subst h; rfl
 ·have h':((n:Int) == 0)=false:=by simpa using h
  rw [h',if_neg h]
  simp
theorem Ep (k:Nat):(2:Int) ^ k=((2 ^ k:Nat):Int):=by simp
end L2
namespace Wd
open PySem
noncomputable abbrev VG (xs:Array Nat):Prop:=xs.toList.Pairwise (· < ·)
theorem Oh {xs:Array Nat} (r:VG xs) {i k:Nat} (h:i<k) (hk:k<xs.size):xs.getD i 0<xs.getD k 0:=by
 have hi:i<xs.size:=Nat.lt_trans h hk
 have:=(List.pairwise_iff_getElem.mp r) i k (by simpa using hi) (by simpa using hk) h
 simpa [Array.getD,hi,hk] using this
structure Cut (xs:Array Nat) (j p:Nat):Prop where
 le:p<=xs.size
 lo:∀ i,i<p->xs.getD i 0<j
 hi:∀ i,p<=i->i<xs.size->j<=xs.getD i 0
theorem KC {xs:Array Nat} (r:VG xs) (j:Nat):∀ (fuel lo hi:Nat),hi<=xs.size->hi - lo<=fuel->lo<=hi->(∀ i,i<lo->xs.getD i 0<j)->(∀ i,hi<=i->i<xs.size->j<=xs.getD i 0)->Cut xs j (SetTable.below.go xs j fuel lo hi)
 | 0,lo,hi,h1,h2,h3,a,b=>by
  have e:lo=hi:=by omega
  subst e
  exact ⟨h1,a,b⟩
 | fuel+1,lo,hi,h1,h2,h3,a,b=>by
  unfold SetTable.below.go
  split
  ·rename_i hlt
   have hm:(lo+hi) / 2<xs.size:=by omega
   have e:xs.getD ((lo+hi) / 2) j=xs.getD ((lo+hi) / 2) 0:=by simp [Array.getD,hm]
   dsimp only
   rw [e]
   by_cases hj:xs.getD ((lo+hi) / 2) 0<j
   ·rw [if_pos hj]
    refine KC r j fuel ((lo+hi) / 2+1) hi h1 (by omega) (by omega) (fun i hi'=>?_) b
    by_cases q:i=(lo+hi) / 2
    ·rw [q]; exact hj
    ·have:=Oh r (i:=i) (k:=(lo+hi) / 2) (by omega) hm
     omega
   ·rw [if_neg hj]
    refine KC r j fuel lo ((lo+hi) / 2) (by omega) (by omega) (by omega) a fun i hi' hs=>?_
    by_cases q:i=(lo+hi) / 2
    ·rw [q]; omega
    ·have:=Oh r (i:=(lo+hi) / 2) (k:=i) (by omega) hs
     omega
  ·have e:lo=hi:=by omega
   subst e
   exact ⟨h1,a,b⟩
theorem K8 {xs:Array Nat} (r:VG xs) (j:Nat):Cut xs j (SetTable.below xs j) :=
 KC r j xs.size 0 xs.size (Nat.le_refl _) (by omega) (Nat.zero_le _) (fun i h=>absurd h (Nat.not_lt_zero _)) (fun i h1 h2=>absurd h2 (by omega))
theorem Ny {xs:Array Nat} {j:Nat} (r:VG xs) (h:xs[SetTable.below xs j]? ≠ some j):j ∉ xs.toList:=fun hm=>by
 have c:=K8 r j
 obtain ⟨i,hi,e⟩:=List.mem_iff_getElem.mp hm
 have hi':i<xs.size:=by simpa using hi
 have ei:xs.getD i 0=j:=by simpa [Array.getD,hi'] using e
 have h1:SetTable.below xs j<=i:=by
  rcases Nat.lt_or_ge i (SetTable.below xs j) with q | q
  ·have:=c.lo i q; omega
  ·exact q
 have h2:SetTable.below xs j<xs.size:=Nat.lt_of_le_of_lt h1 hi'
 have h3:=c.hi _ (Nat.le_refl _) h2
 have h4:SetTable.below xs j=i:=by
  rcases Nat.lt_or_ge (SetTable.below xs j) i with q | q
  ·have:=Oh r q hi'; omega
  ·omega
 refine h ?_
 have e':xs[i]=j:=by simpa [Array.getD,hi'] using ei
 rw [h4,Array.getElem?_eq_getElem hi',e']
theorem Pj {xs:Array Nat} {j:Nat} (r:VG xs) (h:xs[SetTable.below xs j]? ≠ some j):VG (SetTable.insertAt xs (SetTable.below xs j) j):=by
 have c:=K8 r j
 have nm:=Ny r h
 show (SetTable.insertAt xs (SetTable.below xs j) j).toList.Pairwise _
 rw [SetTable.toList_insertAt,List.pairwise_append,List.pairwise_cons]
 have lt1:∀ a∈xs.toList.take (SetTable.below xs j),a<j:=fun a ha=>by
  obtain ⟨i,hi,e⟩:=List.mem_iff_getElem.mp ha
  rw [List.length_take] at hi
  have hi2:i<xs.size:=by simp at hi; omega
  have:=c.lo i (by omega)
  simp [Array.getD,hi2] at this
  rw [List.getElem_take] at e
  rw [← e]
  simpa using this
 have lt2:∀ a∈xs.toList.drop (SetTable.below xs j),j<a:=fun a ha=>by
  obtain ⟨i,hi,e⟩:=List.mem_iff_getElem.mp ha
  rw [List.length_drop] at hi
  have hi2:SetTable.below xs j+i<xs.size:=by simp at hi; omega
  have:=c.hi (SetTable.below xs j+i) (Nat.le_add_right _ _) hi2
  simp [Array.getD,hi2] at this
  rw [List.getElem_drop] at e
  have hle:j<=a:=by rw [← e]; simpa using this
  have hne:j ≠ a:=fun z=>nm (by rw [z]; exact List.mem_of_mem_drop ha)
  omega
 exact ⟨r.sublist (List.take_sublist _ _),⟨lt2,r.sublist (List.drop_sublist _ _)⟩,fun a ha b hb=>by
  rcases List.mem_cons.mp hb with e | hb
  ·rw [e]; exact lt1 a ha
  ·have:=lt1 a ha; have:=lt2 b hb; omega⟩
theorem Qf {t:SetTable} {j:Nat} (h:∀ i,t.slot j ≠ .live i):t.place[SetTable.below t.place j]? ≠ some j:=fun e=>by
 refine h (SetTable.below t.place j) ?_
 unfold SetTable.slot
 dsimp only
 rw [e]
 simp
theorem Ho (t:SetTable) (p:SetTable.Probe):(t.advance p).dummy=p.dummy:=by
 unfold SetTable.advance
 split <;> rfl
theorem IW {t:SetTable} {f:Nat->Int} {h:Int}:∀ (fuel:Nat) (p:SetTable.Probe) (j:Nat) (dm:Option Nat),(∀ d,p.dummy=some d->t.slot d=.dummy)->SetTable.probe.go t f h fuel p=some (.empty j dm) ->
  t.slot j=.empty/\∀ d,dm=some d->t.slot d=.dummy
 | 0,p,j,dm,hd,e=>by unfold SetTable.probe.go at e; cases e
 | fuel+1,p,j,dm,hd,e=>by
  unfold SetTable.probe.go at e
  split at e
  ·rename_i hs
   cases e
   exact ⟨hs,hd⟩
  ·rename_i hs
   refine IW fuel _ j dm (fun d q=>?_) e
   rw [Ho] at q
   cases q
   exact hs
  ·split at e
   ·cases e
   ·refine IW fuel _ j dm (fun d q=>?_) e
    rw [Ho] at q
    exact hd d q
theorem RW {t:SetTable} {h:Int} {j:Nat} {d:Bool} (e:t.freeSlot h=some (j,d)):∀ i,t.slot j ≠ .live i:=by
 unfold SetTable.freeSlot at e
 split at e
 ·rename_i j' dm q
  unfold SetTable.probe at q
  obtain ⟨h1,h2⟩:=IW _ _ _ _ (fun d hd=>by simp [SetTable.probeStart] at hd) q
  cases dm with
  | none=>cases e; intro i z; rw [show (none:Option Nat).getD j'=j' from rfl,h1] at z; cases z
  | some d' =>
   cases e
   intro i z
   rw [show (some d').getD j'=d' from rfl,h2 d' rfl] at z
   cases z
 ·cases e
structure Good (t:SetTable) (led:Bool):Prop where
 led:t.led=led
 ris:t.plain=true->VG t.place
theorem N5 (led:Bool):Good (.fresh 0 0 led) led:=⟨rfl,fun _=>by simp [SetTable.fresh,VG]⟩
theorem Gx {t:SetTable} {led:Bool} (g:Good t led) (n:Nat):Good (t.standIn n) led:=⟨g.led,fun h=>by simp [SetTable.standIn] at h⟩
theorem WD {t:SetTable} {led:Bool} (g:Good t led) (n:Nat):Good (t.orStandIn n) led:=by
 unfold SetTable.orStandIn
 split
 ·exact g
 ·exact Gx g n
theorem Rx {t:SetTable} {led:Bool} (g:Good t led) (es:Array (Int × Value)) (h:Int) (x:Value):Good (layNew t es h x).2.1 led:=by
 unfold layNew
 split
 ·rename_i slot wd e
  refine WD (t:=(t.put slot).1) ⟨g.led,fun hp=>?_⟩ _
  exact Pj (g.ris hp) (Qf (RW e))
 ·exact Gx g _
theorem Q4 {mask finger moves:Nat} {led plain:Bool} {hs:Array Int} {t:SetTable} {o:Array Nat} (e:SetTable.laid mask finger moves led plain hs=some (t,o)):Good t led/\t.plain=plain:=by
 unfold SetTable.laid at e
 simp only [Option.bind_eq_bind,Option.bind_eq_some_iff] at e
 obtain ⟨owner,_,e⟩:=e
 cases e
 refine ⟨⟨rfl,fun _=>?_⟩,rfl⟩
 show List.Pairwise _ ((List.map _ _).toArray).toList
 rw [List.pairwise_map,List.pairwise_filterMap]
 refine List.pairwise_lt_range.imp fun {a b} hab x hx y hy=>?_
 obtain ⟨u,_,rfl⟩:=Option.map_eq_some_iff.mp hx
 obtain ⟨v,_,rfl⟩:=Option.map_eq_some_iff.mp hy
 exact hab
theorem Oi {t:SetTable} {led:Bool} (g:Good t led) (es:Array (Int × Value)) (n:Nat):Good (relayAll t es n).2.1 led:=by
 unfold relayAll
 split
 ·rename_i t' order e
  dsimp only
  split
  ·have:=Q4 e
   rw [g.led] at this
   exact this.1
  ·exact Gx g _
 ·exact Gx g _
end Wd
namespace Wd
open PySem PySem.Spec PyProof.Rows
noncomputable def I_ (prog:Program) (w:World) (h:Heap) (a:Addr) (led:Bool) (σ:List Int):Prop :=
 ∃ es ep t,h.get? a=some { cls:=.type "set",dict:=none,data:=.set es ep t }/\ElemsOf (intKind prog w) es.toList/\(∀ k,k∈σ ↔ ∃ e∈es.toList,(intKind prog w).is k e.2=true)/\es.size=σ.length/\σ.Nodup /\
  σ.length<scanBound/\t.fits es.size=true/\Good t led
noncomputable def Gq (σ:List Int) (k:Int):List Int:=if k∈σ then σ else σ++[k]
section
variable {prog:Program} {w:World} {A:Around} {E:Value->Shared->Prop} {s:Shared} {a:Addr} {led:Bool} {σ:List Int} {k:Int} {tk:Tok}
theorem QJ {h:Heap} {es es':Array (Int × Value)} {ep:Nat} {t t':SetTable} (ho:h.get? a=some { cls:=.type "set",dict:=none,data:=.set es ep t }) :
  (h.update a (Obj.putSet es' t')).get? a=some { cls:=.type "set",dict:=none,data:=.set es' (ep+1) t' } :=
 (Heap.get?_update_self (Obj.putSet es' t') ho (by rw [putSet_of es' t' rfl]; rfl)).trans (by rw [putSet_of es' t' rfl])
theorem ZJ {Q:Bool->Shared->Prop} (hS:I_ prog w s.heap a led σ) (room:σ.length+1<scanBound)
  (h:∀ b h',Heap.SameBut a s.heap h'->I_ prog w h' a led (Gq σ k)->Q b { s with heap:=h' }):wpAny (model prog w) A (setAddHashed a (.int k tk) ((intKind prog w).hash k)) Q E s:=by
 obtain ⟨es,ep,t,ho,hel,hmem,hn,nd,hb,hf,g⟩:=hS
 have hkey:(intKind prog w).is k (.int k tk)=true:=intKind_is _ _ _ _
 have hbe:es.size<scanBound:=by rw [hn]; exact hb
 unfold setAddHashed setAddHashedIn
 refine wpAny_holding (wpAny_bind (wpAny_setState_of ho rfl hf ?_))
 dsimp only
 rw [byScan_of rfl hbe hel,if_pos rfl]
 unfold setAddByScan
 refine wpAny_bind (wpAny_bind (wpAny_rule (wpAny_bind (wpAny_setScan_of hkey ho rfl hf hel ?_))))
 cases hr:List.findIdx? (fun e=>(intKind prog w).is k e.2) es.toList with
 | some j =>
  obtain ⟨hj,hpj,_⟩:=List.findIdx?_eq_some_iff_getElem.mp hr
  have hk:k∈σ:=(hmem k).mpr ⟨_,List.getElem_mem hj,hpj⟩
  refine wpAny_pure (wpAny_pure ?_)
  have:=h false s.heap (Heap.SameBut.refl a s.heap) (by unfold Gq; rw [if_pos hk]; exact ⟨es,ep,t,ho,hel,hmem,hn,nd,hb,hf,g⟩)
  exact this
 | none =>
  have hk:k ∉ σ:=fun q=>by
   obtain ⟨e,he,hp⟩:=(hmem k).mp q
   have:=List.findIdx?_eq_none_iff.mp hr e he
   rw [hp] at this
   cases this
  dsimp only
  have hperm:=layNew_perm t es ((intKind prog w).hash k) (.int k tk)
  have hfits:=layNew_fits t es ((intKind prog w).hash k) (.int k tk)
  have hgood:=Rx g es ((intKind prog w).hash k) (.int k tk)
  generalize layNew t es ((intKind prog w).hash k) (.int k tk)=L at hperm hfits hgood ⊢
  obtain ⟨es1,t1,wd,gave⟩:=L
  dsimp only at hperm hfits hgood ⊢
  rw [Array.toList_push] at hperm
  have hel1:ElemsOf (intKind prog w) es1.toList:=(hel.push hkey rfl).perm hperm
  have sz1:es1.size=(σ++[k]).length:=by
   have:=hperm.length_eq
   simp only [List.length_append,Array.length_toList,List.length_singleton] at this
   simp only [List.length_append,List.length_singleton]
   omega
  have mem1:∀ k',k'∈σ++[k] ↔ ∃ e∈es1.toList,(intKind prog w).is k' e.2=true:=fun k'=>by
   have:=mem_push_iff (knd:=intKind prog w) (S:=fun k'=>decide (k'∈σ)) hkey (fun k'=>by rw [decide_eq_true_eq]; exact hmem k') hperm k'
   rw [← this]
   simp
  have nd1:(σ++[k]).Nodup:=List.nodup_append.mpr ⟨nd,by simp,fun x hx y hy=>by
   rw [List.mem_singleton.mp hy]
   intro q
   exact hk (q ▸ hx)⟩
  have hb1:(σ++[k]).length<scanBound:=by simp only [List.length_append,List.length_singleton]; exact room
  have hb1':es1.size<scanBound:=by rw [sz1]; exact hb1
  have fin:∀ (es2:Array (Int × Value)) (t2:SetTable) (ep2:Nat) (h2:Heap),Heap.SameBut a s.heap h2->h2.get? a=some { cls:=.type "set",dict:=none,data:=.set es2 ep2 t2 }->es2.toList.Perm es1.toList->t2.fits es2.size=true->Good t2 led ->
    Q true { s with heap:=h2 }:=fun es2 t2 ep2 h2 sb e2 p2 f2 g2=>by
   refine h true h2 sb ?_
   unfold Gq
   rw [if_neg hk]
   refine ⟨es2,ep2,t2,e2,hel1.perm p2,fun k'=>(mem1 k').trans ⟨fun ⟨e,he,q⟩=>⟨e,p2.mem_iff.mpr he,q⟩,fun ⟨e,he,q⟩=>⟨e,p2.mem_iff.mp he,q⟩⟩,?_,nd1,hb1,f2,g2⟩
   rw [← Array.length_toList,p2.length_eq,Array.length_toList,sz1]
  have tail:∀ (t2:SetTable),t2.fits es1.size=true->Good t2 led->wpAny (model prog w) A (do
    storeSet a es1 t2
    if (!wd && t2.tooFull)=true then do
      (match (relayAll t2 es1 (SetTable.grown es1.size)).2.2 with | true=>rule "set.scan.the-table-gave-way" | false=>pure ())
      storeSet a (relayAll t2 es1 (SetTable.grown es1.size)).1 (relayAll t2 es1 (SetTable.grown es1.size)).2.1
      pure (some true)
     else pure (some true)) (fun r s'=>match r with | some b=>Q b s' | none=>False) E s:=fun t2 f2 g2=>by
   refine wpAny_bind (wpAny_storeSet_of ho rfl ?_ (fits_of_scanBound hb1'))
   have sb1:=Heap.SameBut.update s.heap a (Obj.putSet es1 t2)
   have e1:=QJ (es':=es1) (t':=t2) ho
   split
   ·have hp:=relayAll_perm t2 es1 (SetTable.grown es1.size)
    have hq:=relayAll_fits t2 es1 (SetTable.grown es1.size)
    have hg:=Oi g2 es1 (SetTable.grown es1.size)
    generalize relayAll t2 es1 (SetTable.grown es1.size)=R at hp hq hg ⊢
    obtain ⟨es2,t3,gv⟩:=R
    dsimp only at hp hq hg ⊢
    have hb2:es2.size<scanBound:=by rw [← Array.length_toList,hp.length_eq,Array.length_toList]; exact hb1'
    have last:wpAny (model prog w) A (do storeSet a es2 t3; pure (some true)) (fun r s'=>match r with | some b=>Q b s' | none=>False) E { s with heap:=s.heap.update a (Obj.putSet es1 t2) }:=by
     refine wpAny_bind (wpAny_storeSet_of e1 rfl ?_ (fits_of_scanBound hb2))
     exact wpAny_pure (fin es2 t3 _ _ (sb1.trans (Heap.SameBut.update _ a _)) (QJ e1) hp hq hg)
    cases gv
    ·exact wpAny_bind (wpAny_pure last)
    ·exact wpAny_bind (wpAny_rule last)
   ·exact wpAny_pure (fin es1 t2 _ _ sb1 e1 (List.Perm.refl _) f2 g2)
  have tail':∀ (t2:SetTable),t2.fits es1.size=true->Good t2 led->wpAny (model prog w) A (do
    storeSet a es1 t2
    if (!wd && t2.tooFull)=true then do
      (match (relayAll t2 es1 (SetTable.grown es1.size)).2.2 with | true=>rule "set.scan.the-table-gave-way" | false=>pure ())
      storeSet a (relayAll t2 es1 (SetTable.grown es1.size)).1 (relayAll t2 es1 (SetTable.grown es1.size)).2.1
      pure (some true)
     else pure (some true)) (fun r s'=>wpAny (model prog w) A (match r with | some added=>pure added | none=>setAddHashedIn a (.int k tk) ((intKind prog w).hash k) 99999) Q E s') E s:=fun t2 f2 g2 =>
   wpAny_mono (tail t2 f2 g2) (fun r s' q=>by
    cases r with
    | none=>exact q.elim
    | some b=>exact wpAny_pure q) fun _ _ e=>e
  have mid:wpAny (model prog w) A (do
    let byValue ← if t1.plain then hashByValue 8 (.int k tk) else pure true
    let t2:=if byValue=true then t1 else { t1 with plain:=false }
    storeSet a es1 t2
    if (!wd && t2.tooFull)=true then do
      (match (relayAll t2 es1 (SetTable.grown es1.size)).2.2 with | true=>rule "set.scan.the-table-gave-way" | false=>pure ())
      storeSet a (relayAll t2 es1 (SetTable.grown es1.size)).1 (relayAll t2 es1 (SetTable.grown es1.size)).2.1
      pure (some true)
     else pure (some true)) (fun r s'=>wpAny (model prog w) A (match r with | some added=>pure added | none=>setAddHashedIn a (.int k tk) ((intKind prog w).hash k) 99999) Q E s') E s:=by
   split
   ·rw [hashByValue_scannable 8 rfl]
    exact wpAny_bind (wpAny_pure (tail' t1 hfits hgood))
   ·exact wpAny_bind (wpAny_pure (tail' t1 hfits hgood))
  cases gave
  ·exact wpAny_bind (wpAny_pure mid)
  ·exact wpAny_bind (wpAny_rule mid)
end
end Wd
namespace Wd
open PySem PySem.Spec PyProof.Rows
theorem I_.keep {prog:Program} {w:World} {h h':Heap} {a:Addr} {led:Bool} {σ:List Int} (g:I_ prog w h a led σ) (k:∀ o,h.get? a=some o->h'.get? a=some o):I_ prog w h' a led σ :=
 let ⟨es,ep,t,e,r⟩:=g; ⟨es,ep,t,k _ e,r⟩
theorem Tv (σ:List Int) (k:Int):(Gq σ k).length<=σ.length+1:=by
 unfold Gq
 split
 ·omega
 ·simp
theorem Ky:∀ (ns:List Int) (σ:List Int),(ns.foldl Gq σ).length<=σ.length+ns.length
 | [],σ=>by simp
 | k::ns,σ=>by
  have h1:=Ky ns (Gq σ k)
  have h2:=Tv σ k
  simp only [List.foldl_cons,List.length_cons]
  omega
section
variable {prog:Program} {w:World} {A:Around} {R:Result->Shared->Prop} {I:Addr} {fp wr:List Addr} {G:Array GenState->Array GenState->Prop} {n:Nat} {P:Nat->Value->Prop} {St:Nat->Shared->Prop} {led:Bool}
theorem Xg (W:WalksS prog w A.in1 I fp wr G n P St) (S:Addr) (hSf:S ∉ fp) (ns:List Int) (hn:ns.length=n) (hval:∀ i v,P i v->∃ t,v=.int (ns.getD i 0) t) (hb:n+1<scanBound) :
  ∀ (k i:Nat) (s:Shared),n - i=k->i<=n->St i s->I_ prog w s.heap S led ((ns.take i).foldl Gq []) ->
   (∀ s',Moved (S::wr) G s s'->I_ prog w s'.heap S led (ns.foldl Gq [])->R (.ok (.ret .none)) s')->codeAny (model prog w) A (.builtin "set.update.loop" ⟨[.ref S,.ref I],[]⟩) R s:=by
 have nw:S ∉ wr:=fun z=>hSf (W.sub _ z)
 have up:∀ b∈wr,b∈S::wr:=fun b z=>List.mem_cons_of_mem _ z
 intro k
 induction k with
 | zero =>
  intro i s hk hi st g hR
  obtain rfl:i=n:=by omega
  refine codeAny_builtin F.entry_set_update_loop ?_
  rw [Around.under_plainId F.plain_set_update_loop _]
  refine wpAny_bind (W.done s _ _ st fun s' m=>wpAny_pure (hR s' (m.mono up) ?_))
  rw [List.take_of_length_le (by omega)] at g
  exact g.keep fun o e=>m.heap S o nw e
 | succ k ih =>
  intro i s hk hi st g hR
  have lt:i<n:=by omega
  refine codeAny_builtin F.entry_set_update_loop ?_
  rw [Around.under_plainId F.plain_set_update_loop _]
  refine wpAny_bind (W.item i s _ _ lt st fun v s' p st' m=>?_)
  obtain ⟨t,rfl⟩:=hval i v p
  have g':=g.keep (h':=s'.heap) fun o e=>m.heap S o nw e
  refine wpAny_bind (wpAny_holding (wpAny_holding (wpAny_bind ((intKind prog w).pyHash (k:=ns.getD i 0) (intKind_is _ _ _ _) ?_))))
  have room:((ns.take i).foldl Gq []).length+1<scanBound:=by
   have:=Ky (ns.take i) []
   rw [List.length_take] at this
   simp at this
   omega
  have tk:ns.take (i+1)=ns.take i++[ns.getD i 0]:=by
   have hl:i<ns.length:=by omega
   rw [List.take_add_one,List.getElem?_eq_getElem hl]
   simp [hl]
  refine ZJ (s:={ s' with toks:=s'.toks+1 }) g' room fun b h' sb g2=>?_
  have g3:I_ prog w h' S led ((ns.take (i+1)).foldl Gq []):=by
   rw [tk,List.foldl_append]
   exact g2
  refine wpAny_pure ⟨plainId_quiet F.plain_set_update_loop _,ih (i+1) _ (by omega) lt (W.frame _ s' _ _ st' (Nat.le_succ _) fun b hb o e=>?_) g3 fun s'' m2 g4=>?_⟩
  ·rw [sb.2 b (fun z:b=S=>hSf (z ▸ hb))]
   exact e
  ·refine hR s'' (Moved.trans W.gtrans ((m.mono up).then_heap (Nat.le_succ _) fun b o hb e=>?_) m2) g4
   rw [sb.2 b (fun z:b=S=>hb (by rw [z]; exact List.mem_cons_self))]
   exact e
end
section
variable {prog:Program} {w:World} {A:Around} {E:Value->Shared->Prop} {s:Shared}
noncomputable abbrev Em (w:World):Bool:=!w.params.followText "set-order"
theorem Uu (h:Heap):I_ prog w (h.push { cls:=.type "set",dict:=none,data:=.set #[] 0 (.fresh 0 0 (Em w)) }) h.objs.size (Em w) [] :=
 ⟨#[],0,_,Heap.get?_push_size _ rfl,fun e he=>by simp at he,fun k=>by simp,rfl,.nil,by decide,by rfl,N5 _⟩
theorem dh (a:Value) {Q1:Value->Shared->Prop} (h:Q1 (.ref s.heap.objs.size) { s with heap:=s.heap.push { cls:=.type "set",dict:=none,data:=.set #[] 0 (.fresh 0 0 (Em w)) } }) :
  codeAny (model prog w) A (.call (.builtin "set.__new__") ⟨[.type "set",a],[]⟩) (wants Q1 E) s:=by
 refine codeAny_of_tree ?_
 show wpAny _ A.in1 (do checkBuiltinCall "set.__new__" ⟨[.type "set",a],[]⟩; again (.builtin "set.__new__" ⟨[.type "set",a],[]⟩)) _ _ s
 refine wpAny_bind (wpAny_of_eq (F.newCall_set_1 a) (wpAny_pure ⟨plainId_quiet F.plain_set_new _,codeAny_builtin F.entry_set_new ?_⟩))
 rw [Around.under_plainId F.plain_set_new _]
 unfold Builtin.«set.__new__» Builtin.Frozenset.newClass
 have hsub:=sub_set_self
 obtain ⟨hp,g,d,tk,os⟩:=s
 dsimp only
 wp_walk
 refine wpAny_askSetting (wpAny_pure ?_)
 dsimp only
 simp only [newObj]
 exact wpAny_bind (wpAny_alloc (wpAny_pure (wpAny_pure h)))
set_option maxHeartbeats 4000000 in
theorem ZD {l:Addr} {items:Array Value} {ns:List Int} {Q:Value->Shared->Prop} (hh:A.handled=none) (hl:s.heap.IsList l items) (hi:IntsAre items.toList ns) (hb:ns.length+1<scanBound)
  (h:∀ h' tk,I_ prog w h' s.heap.objs.size (Em w) (ns.foldl Gq [])->(∀ b o,s.heap.get? b=some o->h'.get? b=some o)->Q (.ref s.heap.objs.size) { s with heap:=h',toks:=tk }) :
  wpAny (model prog w) A (call (.type "set") [.ref l]) Q E s:=by
 obtain ⟨c,tl,hmro⟩:=F.called_set.mro
 have hmade:=F.called_set.made
 have hsub:=F.called_set.sub
 have hlen:items.size=ns.length:=by rw [← IntsAre.length hi]; simp
 refine wpAny_call (codeAny_of_tree ?_)
 show wpAny _ _ (callAny (.type "set") _) _ _ _
 refine wpAny_pure ⟨Code.quiet_builtin _ (by decide +kernel),codeAny_builtin F.entry_type_call ?_⟩
 rw [Around.under_plain (weight_type_call_type "set" [.ref l] []) rfl]
 have h1:=F.called_set.notType
 have h2:=F.called_set.canCreate
 have hct:=F.typeCall_set_1 (.ref l)
 repeat (any_goals (first | assumption | wp_step))
 refine codeAny_mono (dh (.ref l) (E:=E) (Q1:=fun obj s1=>obj=.ref s.heap.objs.size/\s1 = { s with heap:=s.heap.push { cls:=.type "set",dict:=none,data:=.set #[] 0 (.fresh 0 0 (Em w)) } }) ⟨rfl,rfl⟩) fun r s1 hr=>?_
 rcases r with e | fl
 ·exact hr
 obtain ⟨obj,rfl,hr⟩:∃ obj,fl=.ret obj/\(obj=.ref s.heap.objs.size/\s1 = { s with heap:=s.heap.push { cls:=.type "set",dict:=none,data:=.set #[] 0 (.fresh 0 0 (Em w)) } }):=by
  cases fl with
  | ret v=>exact ⟨v,rfl,hr⟩
  | _=>exact hr.elim
 obtain ⟨rfl,rfl⟩:=hr
 have hS:(s.heap.push { cls:=.type "set",dict:=none,data:=.set #[] 0 (.fresh 0 0 (Em w)) }).get? s.heap.objs.size=some { cls:=.type "set",dict:=none,data:=.set #[] 0 (.fresh 0 0 (Em w)) }:=Heap.get?_push_size _ rfl
 have hT:Shared.TypeIs { s with heap:=s.heap.push { cls:=.type "set",dict:=none,data:=.set #[] 0 (.fresh 0 0 (Em w)) } } (.ref s.heap.objs.size) "set":=⟨_,hS,rfl⟩
 have hli:=F.called_set.init.lookup
 have hbi:=F.called_set.init.bind (.ref s.heap.objs.size)
 repeat (any_goals (first | assumption | wp_step))
 refine codeAny_mono (codeAny_call_builtin (R:=wants (fun r s2=>r=.none/\∃ h' tk,s2 = { s with heap:=h',toks:=tk }/\I_ prog w h' s.heap.objs.size (Em w) (ns.foldl Gq [])/\∀ b o,s.heap.get? b=some o->h'.get? b=some o) E)
  F.called_set.init.plain F.entry_set_init (check_set_init_1 hT ?_)) fun r2 s2 hr2=>?_
 ·obtain ⟨ol,hol,hcl,nl,hdl⟩:=hl
  obtain ⟨ocls,odict,odata,oslots⟩:=ol
  simp only at hcl hdl
  subst hcl; subst hdl
  have hol':(s.heap.push { cls:=.type "set",dict:=none,data:=.set #[] 0 (.fresh 0 0 (Em w)) }).get? l=some { cls:=.type "list",dict:=odict,data:=.seq items nl,slots:=oslots }:=Heap.get?_push_of_some _ hol
  have hsls:=F.sub_list_set
  have hslf:=F.sub_list_frozenset
  have hne:(Value.type "list" == Value.type "dict")=false:=by decide
  have hl1:(s.heap.push { cls:=.type "set",dict:=none,data:=.set #[] 0 (.fresh 0 0 (Em w)) }).IsList l items:=⟨_,hol',rfl,nl,rfl⟩
  unfold Builtin.«set.__init__» noKeywords Builtin.Frozenset.updateFrom
  generalize hPI:pyIter=PI
  wp_walk
  subst hPI
  refine wpAny_pyIter_list hl1 (wpAny_bind (wpAny_runValue ?_))
  have lS:l<s.heap.objs.size:=Heap.lt_size hol
  have h3:A.in1.in1.in1.handled=none:=by simp [hh]
  have nI:l ≠ (s.heap.push { cls:=.type "set",dict:=none,data:=.set #[] 0 (.fresh 0 0 (Em w)) }).objs.size:=by
   rw [Heap.size_push]
   exact Nat.ne_of_lt (Nat.lt_succ_of_lt lS)
  have nf:s.heap.objs.size ∉ [(s.heap.push { cls:=.type "set",dict:=none,data:=.set #[] 0 (.fresh 0 0 (Em w)) }).objs.size,l]:=by
   rw [Heap.size_push]
   intro z
   rcases List.mem_cons.mp z with q | q
   ·exact absurd q (Nat.ne_of_lt (Nat.lt_succ_self _))
   ·exact absurd (List.mem_singleton.mp q) (Nat.ne_of_gt lS)
  refine Xg ((Walks.list h3 _ l nI items).toS) s.heap.objs.size nf ns hlen.symm (fun i v hv=>IntsAre.int_at hi i v (by rw [Array.getElem?_toList]; exact hv)) (by rw [hlen]; exact hb) (items.size - 0) 0 _ rfl (Nat.zero_le _)
   ⟨⟨_,Heap.get?_push_size _ rfl,rfl,rfl⟩,(hl1.push _)⟩ ((Uu s.heap).keep fun o e=>Heap.get?_push_of_some _ e) fun s' m g=>?_
  obtain ⟨h',g',d',tk',os'⟩:=s'
  obtain rfl:g'=s.gens:=m.gens
  obtain rfl:d'=s.drawn:=m.drawn
  obtain rfl:os'=s.os:=m.os
  show wpAny _ _ _ _ _ _
  refine wpAny_pure ?_
  show wpAny _ _ (ret Value.none) _ _ _
  refine wpAny_pure ⟨rfl,h',tk',rfl,g,fun b o e=>?_⟩
  have b1:=Heap.lt_size e
  refine m.heap b o (fun z=>?_) (Heap.get?_push_of_some _ (Heap.get?_push_of_some _ e))
  rcases List.mem_cons.mp z with q | q
  ·exact absurd q (Nat.ne_of_lt b1)
  ·have:=List.mem_singleton.mp q
   rw [Heap.size_push] at this
   exact absurd this (Nat.ne_of_lt (Nat.lt_succ_of_lt b1))
 ·rcases r2 with e | fl2
  ·exact hr2
  obtain ⟨r,rfl,hr2⟩:∃ r,fl2=.ret r/\(r=.none/\∃ h' tk,s2 = { s with heap:=h',toks:=tk }/\I_ prog w h' s.heap.objs.size (Em w) (ns.foldl Gq [])/\∀ b o,s.heap.get? b=some o->h'.get? b=some o):=by
   cases fl2 with
   | ret v=>exact ⟨v,rfl,hr2⟩
   | _=>exact hr2.elim
  obtain ⟨rfl,h',tk,rfl,g,hk⟩:=hr2
  repeat (any_goals (first | assumption | wp_step))
  exact h _ _ g hk
end
end Wd
namespace Wd
open PySem PySem.Spec PyProof.Rows
end Wd
namespace Wd
open PySem PySem.Spec PyProof.Rows
section
variable {M:Model} {A:Around} {E:Value->Shared->Prop}
end
inductive Way (w:World) (a:Addr) (es:Array (Int × Value)) (ep:Nat) (t:SetTable) (h:Heap):(Nat->Value)->List Value->List Addr->Prop where
 | text (hb:w.params.followText "set-order" = true):Way w a es ep t h (fun _=>rawInt 0) ((pickOrder (w.params.setOrder a ep) es).toList.map (·.2)) []
 | drawn {tp:Addr} {ps:List Nat} (hb:w.params.followText "set-order" = false) (hp:ps.Perm (List.range es.size)) (ht:∃ n,h.get? tp=some { cls:=.type "tuple",data:=.seq (ps.map fun (i:Nat)=>rawInt i).toArray n }) :
   Way w a es ep t h (fun _=>.ref tp) (ps.map fun i=>(es.getD i (0,.none)).2) [tp]
 | plain (hb:w.params.followText "set-order" = false) (hd:(!t.plain && decide (es.size > 1))=false) (hl:t.led=true) (hr:VG t.place) (hs:t.place.size=es.size) :
   Way w a es ep t h (fun i=>rawInt (if i=0 then 0 else t.place.getD (i - 1) 0+1:Nat)) (es.toList.map (·.2)) []
section
variable {prog:Program} {w:World} {A:Around} {E:Value->Shared->Prop} {s:Shared} {a it:Addr} {es:Array (Int × Value)} {ep:Nat} {t:SetTable} {first:Nat->Value} {vs:List Value} {more:List Addr}
end
end Wd
section PartSetJ
set_option maxHeartbeats 1000000
namespace Wd
open PySem PySem.Spec PyProof.Rows
section
variable {prog:Program} {w:World} {A:Around} {E:Value->Shared->Prop} {s:Shared} {a:Addr} {σ:List Int}
end
end Wd
end PartSetJ
section PartSetK
set_option maxHeartbeats 1000000
namespace Wd
open PySem PySem.Spec PyProof.Rows
section
variable {prog:Program} {w:World} {A:Around} {E:Value->Shared->Prop} {s:Shared} {a:Addr} {σ:List Int}
end
end Wd
end PartSetK
namespace L2
open PySem PySem.Spec PyProof.Rows
noncomputable def Uw (P:Program) (w:World) (a:Addr) (τ:List Int):HO:=.ext fun h=>Wd.I_ P w h a (Wd.Em w) τ
theorem Vb {P:Program} {w:World} {H:Hp} {h:Heap} {a:Addr} {τ:List Int} (g:Wd.I_ P w h a (Wd.Em w) τ):Ce P w H h a (Uw P w a τ) :=
 ⟨g,(let ⟨_,_,_,e,_⟩:=g; ⟨_,e⟩),fun _ _ g k=>g.keep k⟩
theorem K4:∀ {ns:List Int} {us:List Value},Vals (ns.map V.int) us->IntsAre us ns
 | [],_,r=>by cases r; exact .nil
 | n::ns,_,r=>by
  cases r with
  | cons r t =>
   obtain ⟨tk,rfl⟩:=r
   exact .cons n tk (K4 t)
section
variable {X:Cx} {pins:List (Addr × Obj)} {σ:St} {H:Hp} {s:Shared} {h':Heap} {a:Addr} {o:HO}
theorem Ru (hc:X.calm=true):Fo X (.type "set") (fun xs H Q=>∃ (l:Addr) (ns:List Int),xs=[V.ref l]/\CK X.K H l (ns.map V.int)/\ns.length<=1000/\∀ p,H p=none->Q (.ref p) (upd H p (Uw X.prog X.w p (ns.foldl Wd.Gq [])))):=by
 intro pins s σ H xs us Q I r h
 obtain ⟨l,ns,rfl,hl,hz,q⟩:=h
 obtain ⟨u,rfl,ru⟩:=vals1 r
 cases ru
 obtain ⟨its,rv,pl,_⟩:=I.list hl
 have hn:H s.heap.objs.size=none:=I.hok.fresh (Nat.le_refl _)
 refine Wd.ZD (I.ok.hd hc) pl.isList (by simpa using K4 rv) (by unfold scanBound; omega) fun h' tk g k=>?_
 exact ⟨.ref s.heap.objs.size,_,I.laid (t':=tk) k (Nat.le_refl _) (Vb g),rfl,q _ hn⟩
theorem V4:G3 X (binaryOp .LShift) (rI (fun i j=>0<=j/\(Builtin.Int.intBits i:Int)+j<=2 ^ 27) fun i j=>.int (i * 2 ^ j.toNat)):=XM fun _ _ _ _ _ _ _ hc q=>lshift_int hc.1 hc.2 q
end
end L2
namespace L2
open PySem PySem.Spec PyProof.Rows
section
variable {X:Cx}
theorem Kf:Fo X (.builtin "len") (fun xs H Q=>∃ (a:Addr) (τ:List Int),xs=[V.ref a]/\H a=some (Uw X.prog X.w a τ)/\Q (.int (τ.length:Nat)) H):=by
 intro pins s σ H xs us Q I r h
 obtain ⟨a,τ,rfl,ha,q⟩:=h
 obtain ⟨u,rfl,ru⟩:=vals1 r
 cases ru
 obtain ⟨⟨es,ep,t,e1,e2,e3,e4,e5,e6,e7,e8⟩,_,_⟩:=(show Ce X.prog X.w H s.heap a (Uw X.prog X.w a τ) from I.hok a _ ha)
 have e6':σ.length+0=σ.length:=rfl
 unfold scanBound at e6
 refine call_len_set e1 ⟨rfl,rfl,rfl⟩ rfl e7 (by omega) ⟨.int ((es.size:Nat):Int),H,I.tok _,⟨_,rfl⟩,?_⟩
 rw [e4]
 exact q
end
section
variable {prog:Program} {w:World} {A:Around} {E:Value->Shared->Prop} {s:Shared} {r l:Addr}
theorem Te:typeLookup (.type "list_reverseiterator") "__len__" = pure none:=by rw [typeLookup_type,builtinLookup_eq_fast]; kernel_rfl
theorem Vo:typeLookup (.type "list_reverseiterator") "__length_hint__" = pure (some (.builtin "list_reverseiterator.__length_hint__")):=by rw [typeLookup_type,builtinLookup_eq_fast]; kernel_rfl
theorem Rf {Q:Bool->Shared->Prop} (hT:s.TypeIs (.ref r) "list_reverseiterator") (h:Q false s):wpAny (model prog w) A (Builtin.List.listLengthHint (.ref r)) Q E s:=by
 unfold Builtin.List.listLengthHint
 refine wpAny_bind (wpAny_specialOf hT Te ?_)
 show wpAny _ _ (specialOf (Value.ref r) (Str.ofString "__length_hint__") >>= _) _ _ _
 refine wpAny_bind (wpAny_specialOf hT Vo ?_)
 generalize hid:("list_reverseiterator.__length_hint__" : String)=id0
 wp_delta
 rw [show splitId id0=some ("list_reverseiterator","__length_hint__") from by subst hid; decide +kernel]
 subst hid
 refine wpAny_bind (wpAny_isInstance (b:=true) hT (by rw [isSubtype_type]; kernel_rfl) ?_)
 exact wpAny_pure h
theorem Pg {R:Result->Shared->Prop} (hh:A.handled=none) {items:Array Value} (hit:s.heap.IsRevIter r l ((items.size:Int) - 1)) (hl:s.heap.IsList l items) (hlr:l ≠ r) (S:Addr) (hSr:S ≠ r) (hSl:S ≠ l) (res:Value) (c₀:Nat) (hS:s.heap.get? S=some { cls:=.type "list",data:=.seq #[] c₀ })
  (hR:∀ h' tk acc' c',(∀ b o,b ≠ S->b ≠ r->s.heap.get? b=some o->h'.get? b=some o)->h'.get? S=some { cls:=.type "list",dict:=none,data:=.seq acc' c',slots:=#[] }->ItemsOf (fun i v=>items[items.size - 1 - i]? = some v) acc' items.size->R (.ok (.ret res)) { s with heap:=h',toks:=tk }) (hn:items.size<=sizeLine) :
  wpAny (model prog w) A.in1 (Builtin.List.listExtendWith (.ref S) (.ref r) res)
   (fun fin s'=>match fin with | .done f=>R (.ok f) s' | .again c'=>c'.quiet=true/\codeAny (model prog w) A c' R s') (fun e s'=>R (.error e) s') s:=by
 have hSf:S ∉ [r,l]:=by simp only [List.mem_cons,List.not_mem_nil,or_false,not_or]; exact ⟨hSr,hSl⟩
 have W:=Walks.listRev (prog:=prog) (w:=w) (A:=A.in1) hh r l hlr items
 have hst:0<=items.size/\s.heap.IsRevIter r l ((items.size:Int) - 1 - ((0:Nat):Int))/\s.heap.IsList l items:=⟨Nat.zero_le _,by simpa using hit,hl⟩
 have key:codeAny (model prog w) A (.builtin "list.extend.loop" ⟨[.ref S,.ref r,res],[]⟩) R s:=by
  refine codeAny_extend_loopS W.toS hn S hSf res items.size 0 _ #[] c₀ rfl (Nat.zero_le _) hst hS (ItemsOf.nil _) fun s' acc' c' hm hS' hacc=>?_
  rw [Moved.eq_with hm]
  refine hR s'.heap s'.toks acc' c' (fun b o hb hbr e=>hm.heap b o (fun hmem=>?_) e) hS' hacc
  rcases List.mem_cons.mp hmem with e' | hmem
  ·exact hb e'
  ·exact hbr (List.mem_singleton.mp hmem)
 unfold Builtin.List.listExtendWith
 refine wpAny_bind (wpAny_typeOf (T:="list_reverseiterator") hit.typeIs ?_)
 have h1:Builtin.List.listSameRef (.ref S) (.ref r)=false:=by simp [Builtin.List.listSameRef,hSr]
 rw [if_neg (by rw [h1]; decide)]
 refine wpAny_bind (wpAny_pyIter_revIter hit ?_)
 refine wpAny_bind (wpAny_holding (Rf hit.typeIs ?_))
 rw [if_neg (by decide)]
 exact wpAny_pure ⟨plainId_quiet PySem.F.plain_extend_loop _,key⟩
theorem Sy {R:Result->Shared->Prop} (hh:A.handled=none) {items:Array Value} (hit:s.heap.IsRevIter r l ((items.size:Int) - 1)) (hl:s.heap.IsList l items) (hlr:l ≠ r) (S:Addr) (hSr:S ≠ r) (hSl:S ≠ l) (hS:s.heap.get? S=some { cls:=.type "list",data:=.seq #[] })
  (hR:∀ h' tk acc' c',(∀ b o,b ≠ S->b ≠ r->s.heap.get? b=some o->h'.get? b=some o)->h'.get? S=some { cls:=.type "list",dict:=none,data:=.seq acc' c',slots:=#[] }->ItemsOf (fun i v=>items[items.size - 1 - i]? = some v) acc' items.size->R (.ok (.ret .none)) { s with heap:=h',toks:=tk }) (hn:items.size<=sizeLine) :
  wpAny (model prog w) A.in1 (Builtin.«list.__init__» ⟨[.ref S,.ref r],[]⟩)
   (fun fin s'=>match fin with | .done f=>R (.ok f) s' | .again c'=>c'.quiet=true/\codeAny (model prog w) A c' R s') (fun e s'=>R (.error e) s') s:=by
 show wpAny _ _ (do let old ← Builtin.List.listItems (.ref S); Builtin.List.listUpdate (.ref S) (fun _=>#[]); letGo old.toList.reverse; Builtin.List.listExtendWith (.ref S) (.ref r) .none) _ _ s
 refine wpAny_bind ?_
 unfold Builtin.List.listItems
 refine wpAny_bind (wpAny_seqItems hS rfl (wpAny_pure ?_))
 show wpAny _ _ (updateSeq S (fun _=>#[]) >>= fun _=>letGo (#[]:Array Value).toList.reverse >>= fun _=>Builtin.List.listExtendWith (.ref S) (.ref r) .none) _ _ s
 refine wpAny_bind (wpAny_updateSeq hS rfl ?_)
 have hS₂:=Heap.get?_update_self (Obj.mapSeq (fun _=>(#[]:Array Value))) hS rfl
 have oth:∀ b o,b ≠ S->s.heap.get? b=some o->(s.heap.update S (Obj.mapSeq (fun _=>(#[]:Array Value)))).get? b=some o :=
  fun b o hb e=>(Heap.get?_update_other _ _ (Ne.symm hb)).trans e
 refine wpAny_bind (wpAny_letGo ?_)
 refine Pg hh (hit.at fun o e=>oth r o hSr.symm e) (hl.at fun o e=>oth l o hSl.symm e) hlr S hSr hSl .none _ hS₂ (fun h' tk acc' c' hk hS' hacc=>?_) hn
 exact hR h' tk acc' c' (fun b o hb hbr e=>hk b o hb hbr (oth b o hb e)) hS' hacc
theorem UW {Q:Value->Shared->Prop} (hh:A.handled=none) {items:Array Value} (hit:s.heap.IsRevIter r l ((items.size:Int) - 1)) (hl:s.heap.IsList l items) (hlr:l ≠ r) (hrs:r<s.heap.objs.size) (hls:l<s.heap.objs.size) (hn:items.size<=sizeLine)
  (hQ:∀ h' tk acc' c',(∀ b o,b ≠ r->s.heap.get? b=some o->h'.get? b=some o)->h'.get? s.heap.objs.size=some { cls:=.type "list",dict:=none,data:=.seq acc' c',slots:=#[] }->ItemsOf (fun i v=>items[items.size - 1 - i]? = some v) acc' items.size->Q (.ref s.heap.objs.size) { s with heap:=h',toks:=tk }) :
  wpAny (model prog w) A (call (.type "list") [.ref r]) Q E s:=by
 refine callType_codes (Q₁:=fun obj s₁=>obj=.ref s.heap.objs.size/\s₁ = { s with heap:=s.heap.push { cls:=.type "list",data:=.seq #[] } }) PySem.F.called_list (PySem.F.typeCall_list_1 _) PySem.F.entry_list_init
  (code_list_new _ ⟨rfl,rfl⟩) fun obj s₁ h₁=>?_
 obtain ⟨rfl,rfl⟩:=h₁
 have hS:(s.heap.push { cls:=.type "list",data:=.seq #[] }).get? s.heap.objs.size=some { cls:=.type "list",data:=.seq #[] }:=Heap.get?_push_size _ rfl
 refine ⟨⟨_,hS,rfl⟩,PySem.F.args_list_init_2 _ _,Sy (A:=A.in1) hh (hit.at fun o e=>Heap.get?_push_of_some _ e) (hl.at fun o e=>Heap.get?_push_of_some _ e) hlr _ (Nat.ne_of_gt hrs) (Nat.ne_of_gt hls) hS (fun h' tk acc' c' hk hS' hacc=>?_) hn⟩
 exact ⟨rfl,hQ h' tk acc' c' (fun b o hbr e=>hk b o (Nat.ne_of_lt (Heap.lt_size e)) hbr (Heap.get?_push_of_some _ e)) hS' hacc⟩
end
section
variable {X:Cx} {p1 p2 q1 q2:Pos} {e:Expr} {te:TE}
noncomputable def au (K:PySem.W.Frag) (te:TE):TE:=fun σ H Q=>te σ H fun x H1=>∃ a xs,x=.ref a/\CK K H1 a xs/\∀ l,H1 l=none->Q (.ref l) (upd H1 l (.lst xs.reverse))
theorem Nz (hc:X.calm=true) (hg:Gl X "list") (hm:X.mg "list" = none) (hg2:Gl X "reversed") (hm2:X.mg "reversed" = none) (he:PE X e te)
  (hs1:starEach [.Call (.Name "reversed" p2) [e] [] q2] X.env=[(false,eval (.Call (.Name "reversed" p2) [e] [] q2) X.env)]:=by rfl) (hs2:starEach [e] X.env=[(false,eval e X.env)]:=by rfl) (hs3:starEach ([]:List Expr) X.env=[]:=by rfl) :
  PE X (.Call (.Name "list" p1) [.Call (.Name "reversed" p2) [e] [] q2] [] q1) (au X.K te):=by
 intro pins s σ H Q I h
 refine wpAny_Call_Name_kw (GC I hg hm PyProof.Rows.boot_list ?_ (by decide) (by decide))
 refine PyProof.Rows.callWith_type1 ?_ (by rw [hs1,hs3]) (by rw [hs3]; rfl)
 rw [hs1]
 show wpAny _ _ (spliced [(false,eval (.Call (.Name "reversed" p2) [e] [] q2) X.env)]) _ _ s
 refine Calls.spliced_cons ?_
 refine wpAny_Call_Name_kw (GC I hg2 hm2 PyProof.Rows.boot_reversed ?_ (by decide) (by decide))
 refine PyProof.Rows.callWith_type1 ?_ (by rw [hs2,hs3]) (by rw [hs3]; rfl)
 rw [hs2]
 show wpAny _ _ (spliced [(false,eval e X.env)]) _ _ s
 refine Calls.spliced_cons (CJ (he pins s σ H _ I h) fun u s1 hq0=>?_)
 obtain ⟨x,H1,I1,r1,a,xs,ex,hS,q⟩:=hq0
 subst ex
 cases r1
 refine Calls.spliced_nil ?_
 obtain ⟨its,rv,pl,hz⟩:=I1.list hS
 have la:a<s1.heap.objs.size:=by obtain ⟨_,e,_⟩:=pl.isList; exact Heap.lt_size e
 refine call_reversed_list pl.isList ?_
 refine Calls.spliced_nil ?_
 have hsz:(s1.heap.push (revObj a (((its.toArray.size:Nat):Int) - 1))).objs.size=s1.heap.objs.size+1:=by simp [Heap.push]
 have hlen:its.toArray.size=xs.length:=by have:=rv.length; simp; omega
 refine UW (I1.ok.hd hc) (r:=s1.heap.objs.size) (l:=a) (items:=its.toArray) ⟨_,Heap.get?_push_size _ rfl,rfl,rfl⟩ (pl.isList.at fun o e=>Heap.get?_push_of_some _ e) (Nat.ne_of_lt la) (by rw [hsz]; exact Nat.lt_succ_self _) (by rw [hsz]; exact Nat.lt_succ_of_lt la) (by omega) fun h' tk acc' c' hk hD hacc=>?_
 rw [hsz] at hD ⊢
 have hv:Vals xs.reverse acc'.toList:=by
  refine Lz (by have h1:acc'.toList.length=acc'.size:=Array.length_toList; have h2:=hacc.1; rw [List.length_reverse]; omega) fun j x u hx hu=>?_
  rw [Array.getElem?_toList] at hu
  have h3:=hacc.2 j u hu
  have hj:j<xs.length:=by have:=(List.getElem?_eq_some_iff.mp hx).1; rwa [List.length_reverse] at this
  rw [List.getElem?_reverse hj] at hx
  obtain ⟨u',hu',ru⟩:=rv.get hx
  rw [hlen] at h3
  have h4:its[xs.length - 1 - j]? = some u:=by simpa using h3
  rw [h4] at hu'
  cases hu'
  exact ru
 refine ⟨.ref (s1.heap.objs.size+1),_,I1.laid (t':=tk) (o:=.lst xs.reverse) (fun b o e=>hk b o (Nat.ne_of_lt (Heap.lt_size e)) (Heap.get?_push_of_some _ e)) (Nat.le_succ _) ⟨by rw [List.length_reverse]; omega,acc'.toList,c',hv,by simpa using hD⟩,rfl,q _ (I1.hok.fresh (Nat.le_succ _))⟩
end
end L2
namespace L2
open PySem PySem.Spec PyProof.Rows
noncomputable def cM (K:PySem.W.Frag) (a:Addr) (xs:List V):It :=
 ⟨fun i H=>CK K H a xs/\i<xs.length,fun i H x H'=>H'=H/\xs[xs.length - 1 - i]? = some x,fun i H=>CK K H a xs/\i=xs.length⟩
theorem Rn {P:Program} {w:World} {K:PySem.W.Frag} {tg:Expr} (a it:Addr) (xs:List V):Turn P w K tg (cM K a xs) [it] it (fun i h=>h.IsRevIter it a ((xs.length:Int) - 1 - (i:Nat))) where
 mem:=by simp
 obj:=fun i h st b hb=>by
  have e:b=it:=by simpa using hb
  subst e
  obtain ⟨o,e,c,d⟩:=st
  exact ⟨o,e,fun v z=>by rw [d] at z; cases z⟩
 keep:=fun i h h' st k=>st.at fun o e=>k it (by simp) o e
 item:=by
  intro X hP hw hK hc i pins s σ H E I hf st hg
  subst hP hw hK
  obtain ⟨hq,hlt⟩:=hg
  obtain ⟨its,rv,p,hz⟩:=I.list hq
  have hx:xs[xs.length - 1 - i]? = some (xs[xs.length - 1 - i]'(by omega)):=List.getElem?_eq_getElem (by omega)
  obtain ⟨u,hu,ru⟩:=rv.get hx
  obtain ⟨f0,f1,f2,f3,f4,f5⟩:=hf it (by simp)
  have e:(xs.length:Int) - 1 - ((i:Nat):Int)=((xs.length - 1 - i:Nat):Int):=by omega
  rw [e] at st
  refine wpAny_pyNext_rev_item st p.isList (x:=u) (by simpa using hu) fun h' st' sb=>?_
  have I1:Inv X pins σ H { s with heap:=h' }:=I.turned (t':=s.toks) (fun b o hb e=>(sb.2 b hb).trans e) f0 f1 f3 f4 f5
  have e2:((xs.length - 1 - i:Nat):Int) - 1=(xs.length:Int) - 1 - ((i+1:Nat):Int):=by omega
  rw [e2] at st'
  obtain ⟨o,eo,c,d⟩:=id st'
  exact ⟨u,rfl,Nj (s:={ s with heap:=h' }) eo c d (by decide) ⟨_,H,I1,ru,⟨rfl,hx⟩,st',fun b hb=>(hf b hb).1⟩⟩
 done:=by
  intro X hP hw hK hc i pins s σ H E I hf st hg
  subst hP hw hK
  obtain ⟨hq,rfl⟩:=hg
  obtain ⟨f0,f1,f2,f3,f4,f5⟩:=hf it (by simp)
  have e:(xs.length:Int) - 1 - ((xs.length:Nat):Int) = -1:=by omega
  rw [e] at st
  exact wpAny_pyNext_rev_end (I.ok.hd hc) st fun h' eb=>⟨rfl,I.turned (t':=s.toks) (fun b o hb e=>eb b o hb e) f0 f1 f3 f4 f5⟩
 self:=fun _ _ _ _ _ st h=>wpAny_pyIter_revIter st h
section
variable {X:Cx} {tg:Expr}
noncomputable def lB (K:PySem.W.Frag) (ta:TA):TI:=fun σ H R=>ta σ H fun vs H1=>∃ a xs,vs=[.ref a]/\CK K H1 a xs/\R (cM K a xs) H1
theorem XQ {l:Expr} {ta:TA} {p pos:Pos} (hg:Gl X "reversed") (hm:X.mg "reversed" = none) (ha:PA X [l] ta) (hs:starEach [l] X.env=[(false,eval l X.env)]:=by rfl):PI X tg (.Call (.Name "reversed" p) [l] [] pos) (lB X.K ta):=by
 intro pins s σ H R I h
 refine Call_ (GC I hg hm PyProof.Rows.boot_reversed (PyProof.Rows.callWith_type1 (CJ (ha pos pins s σ H _ I h) fun us s1 ⟨vs,H1,I1,r1,q1⟩=>?_) hs rfl))
 obtain ⟨a,xs,e,hq,q⟩:=q1
 subst e
 obtain ⟨u,rfl,ru⟩:=vals1 r1
 cases ru
 obtain ⟨its,rv,pl,hz⟩:=I1.list hq
 refine call_reversed_list pl.isList ?_
 have hit:(s1.heap.push (revObj a ((its.toArray.size:Int) - 1))).IsRevIter s1.heap.objs.size a ((its.toArray.size:Int) - 1):=⟨_,Heap.get?_push_size _ rfl,rfl,rfl⟩
 refine wpAny_pyIter_revIter (s:={ s1 with heap:=s1.heap.push (revObj a ((its.toArray.size:Int) - 1)) }) hit ?_
 refine ⟨s1.heap.objs.size,[s1.heap.objs.size],_,_,H1,rfl,I1.kept (t':=s1.toks) fun b o e=>Heap.get?_push_of_some _ e,Rn a _ xs,?_,fun b hb=>?_,q⟩
 ·have hl:=rv.length
  have e2:((its.toArray.size:Nat):Int) - 1=(xs.length:Int) - 1 - ((0:Nat):Int):=by
   rw [List.size_toArray]
   omega
  show (s1.heap.push (revObj a ((its.toArray.size:Int) - 1))).IsRevIter s1.heap.objs.size a ((xs.length:Int) - 1 - ((0:Nat):Int))
  rw [← e2]
  exact hit
 ·have e:b=s1.heap.objs.size:=by simpa using hb
  subst e
  exact I1.Kc (Nat.le_refl _) (I1.hok.fresh (Nat.le_refl _))
theorem VF {K:PySem.W.Frag} {a:Addr} {xs:List V} {g:TG} {tb:TS} {D:Ends} {σ:St} {H:Hp} (Pv:Nat->St->Hp->Prop) (h0:Pv 0 σ H) (hl:∀ i σ H,i<=xs.length->Pv i σ H->CK K H a xs)
  (hs:∀ i x σ H,i<xs.length->xs[xs.length - 1 - i]? = some x->Pv i σ H->g x σ H fun σ2 H2=>tb { D with nx:=Pv (i+1),ct:=Pv (i+1),bk:=D.nx } σ2 H2) (hd:∀ σ H,Pv xs.length σ H->D.nx σ H) :
  ∃ W:Nat->Nat->St->Hp->Prop,(∃ m,W 0 m σ H)/\∀ i m σ H,W i m σ H ->
   ((cM K a xs).stop i H/\D.nx σ H) \/ ((cM K a xs).go i H/\∃ N:St->Hp->Prop,(∀ σ' H',N σ' H'->∃ m',m'<m/\W (i+1) m' σ' H')/\∀ x H',(cM K a xs).yld i H x H'->g x σ H' fun σ2 H2=>tb { D with nx:=N,ct:=N,bk:=D.nx } σ2 H2):=by
 refine ⟨fun i m σ H=>m=xs.length - i/\i<=xs.length/\Pv i σ H,⟨xs.length,by simp,Nat.zero_le _,h0⟩,?_⟩
 rintro i m σ H ⟨rfl,hi,p⟩
 have q:=hl i σ H hi p
 by_cases hlt:i<xs.length
 ·refine .inr ⟨⟨q,hlt⟩,Pv (i+1),fun σ' H' p'=>⟨xs.length - (i+1),by omega,rfl,by omega,p'⟩,?_⟩
  rintro x H' ⟨rfl,hx⟩
  exact hs i x σ H' hlt hx p
 ·have e:i=xs.length:=by omega
  subst e
  exact .inl ⟨⟨q,rfl⟩,hd σ H p⟩
end
end L2
namespace L2
open PySem PySem.Spec PyProof.Rows
structure Uz (K:PySem.W.Frag) (x qual:Str) (st:Stmt) (f:Addr) (fd:FuncData):Prop where
 ex:∃ (oc:Value) (od:Option Addr) (dV kV doc pm:Value) (an:Option Addr) (cdv ct:Value) (osl:Array (Option Value)),
  fd=PySem.W.fnOf x qual (Cm st) (CP st) (Ag st) dV kV doc pm an cdv ct/\K.lookup f=some ⟨oc,od,.func fd,osl⟩/\PySem.W.codeIn K cdv qual=true
 kp:PySem.W.keepIn K (.ref f)=true
section
variable {P:Program} {w:World} {K:PySem.W.Frag} {mg:Str->Option Value} {base:Heap}
theorem Uz.ok {x qual:Str} {st:Stmt} {f:Addr} {fd:FuncData} {N ps:List Str} {k:Nat} {sp:Sp} (F:Uz K x qual st f fd) (S:Aw N ps (Ag st)) (len:∀ vs H Q E,sp vs H Q E->vs.length=ps.length)
  (hbody:∀ (cdv:Value) (A:Around) (outer:List Env) (s:Shared) (H:Hp) (vs:List V) (Q:VK) (E:XK),BV k (A.deeper (envOfC qual (Ag st) s.heap.objs.size f cdv))->sp vs H Q E ->
   ∃ t,Pq (PL Be P w K mg base N qual (Ag st) f cdv A outer s H E).Yq (CP st) t/\t { nx:=fun _ H'=>Q .non H',rt:=Q } (start N vs) H):Ar P w K mg base Be (k+1) f fd ps sp:=by
 obtain ⟨oc,od,dV,kV,doc,pm,an,cdv,ct,osl,rfl,lk,hcd⟩:=F.ex
 refine W2 lk hcd S len fun A outer s H vs Q E hr hsp=>?_
 obtain ⟨t,h,q⟩:=hbody cdv A outer s H vs Q E hr hsp
 exact ⟨t,h.Yq,q⟩
theorem Vx {x qual:Str} {st:Stmt} {f:Addr} {oc:Value} {od an:Option Addr} {osl:Array (Option Value)} {dV kV doc pm cdv ct:Value} (l:K.lookup f=some ⟨oc,od,.func (PySem.W.fnOf x qual (Cm st) (CP st) (Ag st) dV kV doc pm an cdv ct),osl⟩)
  (c:PySem.W.codeIn K cdv qual=true) (k:PySem.W.keepIn K (.ref f)=true):Uz K x qual st f (PySem.W.fnOf x qual (Cm st) (CP st) (Ag st) dV kV doc pm an cdv ct):=⟨⟨oc,od,dV,kV,doc,pm,an,cdv,ct,osl,rfl,l,c⟩,k⟩
theorem YD {fd:FuncData} {ps:List Str} {t:Addr} {ot:Value} {odt:Option Addr} {items:Array Value} {n:Nat} {slt:Array (Option Value)} (lt:K.lookup t=some ⟨ot,odt,.seq items n,slt⟩) (hd:fd.defaults=.ref t)
  (h:∀ us:List Value,us.length=ps.length->∃ k,bindArgs fd ⟨us,[]⟩=seqItems? fd.defaults >>= k/\k (some items)=pure (ps.zip us)):Binds K fd ps []:=fun s us hK hl=>by
 rw [List.append_nil] at hl ⊢
 obtain ⟨k,h1,h2⟩:=h us hl
 exact BindsTo.of_defaults hd (hK _ _ lt) rfl h1 h2
end
end L2
namespace L2
open PySem PySem.Spec PyProof.Rows
section
variable {K:PySem.W.Frag}
end
end L2
namespace L2
open PySem PySem.Spec PySem.Calls PyProof.Rows
section
variable {X:Cx}
theorem range_any (bs:List Bool):((List.range bs.length).any fun i=>(bs[i]?).getD false)=bs.any id:=by
 rw [Bool.eq_iff_iff,List.any_eq_true,List.any_eq_true]
 constructor
 ·rintro ⟨i,hi,e⟩
  have hi':=List.mem_range.mp hi
  rw [List.getElem?_eq_getElem hi'] at e
  exact ⟨_,List.getElem_mem hi',e⟩
 ·rintro ⟨b,hb,e⟩
  obtain ⟨i,hi,q⟩:=List.mem_iff_getElem.mp hb
  refine ⟨i,List.mem_range.mpr hi,?_⟩
  rw [List.getElem?_eq_getElem hi,q]
  exact e
theorem Jr (hc:X.calm=true):Fo X (.builtin "any") (fun xs H Q=>∃ (p:Addr) (bs:List Bool),xs=[V.ref p]/\CK X.K H p (bs.map V.bl)/\Q (.bl (bs.any id)) H):=by
 intro pins s σ H xs us Q I r h
 obtain ⟨p,bs,rfl,hp,q⟩:=h
 obtain ⟨u,rfl,ru⟩:=vals1 r
 cases ru
 obtain ⟨its,rv,pl,hz⟩:=I.list hp
 have hlen:bs.length=its.length:=by have:=rv.length; rw [List.length_map] at this; exact this
 have hlt:p<s.heap.objs.size:=by obtain ⟨_,e,_⟩:=pl.isList; exact Heap.lt_size e
 refine call_any_walk (wpAny_pyIter_list pl.isList ?_)
 refine ⟨s.heap.objs.size,[s.heap.objs.size,p],[s.heap.objs.size],its.toArray.size,_,_,fun i=>(bs[i]?).getD false,rfl,Walks.list (A:=X.A.in1) (I.ok.hd hc) _ p (Nat.ne_of_lt hlt) its.toArray,
  ⟨⟨_,Heap.get?_push_size _ rfl,rfl,rfl⟩,pl.isList.push _⟩,fun i v s' Q' E' hP hQ=>?_,fun h' tk hk=>?_⟩
 ·have hP':its[i]? = some v:=by simpa using hP
  have hi:i<its.length:=(List.getElem?_eq_some_iff.mp hP').1
  have hb:bs[i]? = some bs[i]:=by simp [hlen,hi]
  obtain ⟨u,hu,ru⟩:=rv.get (i:=i) (x:=.bl bs[i]) (by rw [List.getElem?_map,hb]; rfl)
  rw [hP'] at hu
  cases hu
  cases ru
  dsimp only at hQ
  rw [hb] at hQ
  exact wpAny_truthy_bool hQ
 ·have e:((List.range its.toArray.size).any fun i=>(bs[i]?).getD false)=bs.any id:=by rw [List.size_toArray,← hlen]; exact range_any bs
  rw [e]
  refine ⟨.bl (bs.any id),H,I.kept (t':=tk) fun b o eb=>hk b o (fun hm=>?_) (Heap.get?_push_of_some _ eb),rfl,q⟩
  rw [List.mem_singleton.mp hm] at eb
  exact Nat.lt_irrefl _ (Heap.lt_size eb)
theorem G9 (ns:List Int):∀ j,j<=ns.length->preSum (fun i=>(ns[i]?).getD 0) j=(ns.take j).sum
 | 0,_=>rfl
 | j+1,h=>by
  have ih:=G9 ns j (by omega)
  show preSum _ j+(ns[j]?).getD 0=_
  rw [ih,List.take_add_one,List.getElem?_eq_getElem (by omega),List.sum_append]
  simp
theorem Rp (M:Int):∀ ns:List Int,(∀ n∈ns,0<=n/\n<=M)->0<=ns.sum/\ns.sum<=ns.length * M
 | [],_=>by simp
 | n::r,h=>by
  have h1:=h n (List.mem_cons_self ..)
  have h2:=Rp M r fun x hx=>h x (List.mem_cons_of_mem _ hx)
  have e:((n::r).length:Int) * M=r.length * M+M:=by rw [List.length_cons]; push_cast; rw [Int.add_mul,Int.one_mul]
  rw [e,List.sum_cons]
  omega
theorem Fv (hc:X.calm=true):Fo X (.builtin "sum") (fun xs H Q=>∃ (p:Addr) (ns:List Int),xs=[V.ref p]/\CK X.K H p (ns.map V.int)/\(∀ n∈ns,0<=n/\n<=100000)/\ns.length<=1000/\Q (.int ns.sum) H):=by
 intro pins s σ H xs us Q I r h
 obtain ⟨p,ns,rfl,hp,hb,hl,q⟩:=h
 obtain ⟨u,rfl,ru⟩:=vals1 r
 cases ru
 obtain ⟨its,rv,pl,hz⟩:=I.list hp
 have hlen:ns.length=its.length:=by have:=rv.length; rw [List.length_map] at this; exact this
 have hlt:p<s.heap.objs.size:=by obtain ⟨_,e,_⟩:=pl.isList; exact Heap.lt_size e
 refine call_sum_walk (wpAny_pyIter_list pl.isList ?_)
 refine ⟨s.heap.objs.size,[s.heap.objs.size,p],[s.heap.objs.size],its.toArray.size,_,_,fun i=>(ns[i]?).getD 0,rfl,Walks.list (A:=X.A.in1) (I.ok.hd hc) _ p (Nat.ne_of_lt hlt) its.toArray,
  ⟨⟨_,Heap.get?_push_size _ rfl,rfl,rfl⟩,pl.isList.push _⟩,fun b hb=>?_,fun i v hP=>?_,fun j hj=>?_,fun h' tk t' hk=>?_⟩
 ·rw [Heap.size_push]
  rcases List.mem_cons.mp hb with rfl | hb
  ·exact Nat.lt_succ_self _
  ·rw [List.mem_singleton.mp hb]
   exact Nat.lt_succ_of_lt hlt
 ·have hP':its[i]? = some v:=by simpa using hP
  have hi:i<its.length:=(List.getElem?_eq_some_iff.mp hP').1
  have hb:ns[i]? = some ns[i]:=by simp [hlen,hi]
  obtain ⟨u,hu,ru⟩:=rv.get (i:=i) (x:=.int ns[i]) (by rw [List.getElem?_map,hb]; rfl)
  rw [hP'] at hu
  cases hu
  obtain ⟨t,rfl⟩:=ru
  exact ⟨t,by dsimp only; rw [hb]; rfl⟩
 ·have hj':j<ns.length:=by rw [hlen]; simpa using hj
  rw [G9 ns (j+1) (by omega)]
  have h1:=hb ns[j] (List.getElem_mem hj')
  have h2:=Rp 100000 (ns.take (j+1)) fun n hn=>hb n (List.mem_of_mem_take hn)
  have h3:(ns.take (j+1)).length<=1000:=by rw [List.length_take]; omega
  unfold InLong
  dsimp only
  rw [List.getElem?_eq_getElem hj']
  rw [Option.getD_some]
  refine ⟨⟨?_,?_⟩,⟨?_,?_⟩⟩ <;> omega
 ·have e:preSum (fun i=>(ns[i]?).getD 0) its.toArray.size=ns.sum:=by rw [List.size_toArray,← hlen,G9 ns _ (Nat.le_refl _),List.take_length]
  rw [e]
  refine ⟨.int ns.sum,H,I.kept (t':=tk) fun b o eb=>hk b o (fun hm=>?_) (Heap.get?_push_of_some _ eb),⟨_,rfl⟩,q⟩
  rw [List.mem_singleton.mp hm] at eb
  exact Nat.lt_irrefl _ (Heap.lt_size eb)
theorem Ms:∀ {ts:List Str} {its:List Value},Vals (ts.map V.str) its->∃ l:List (Str × Tok),its=strValues l/\l.map (·.1)=ts
 | [],_,h=>by
  cases h
  exact ⟨[],rfl,rfl⟩
 | t::ts,_,h=>by
  cases h with
  | cons a b =>
   obtain ⟨k,rfl⟩:=a
   obtain ⟨l,rfl,rfl⟩:=Ms b
   exact ⟨(t,k)::l,rfl,rfl⟩
theorem Ux:fL X "str.join" (fun x xs H Q=>∃ (z:Str) (p:Addr) (ts:List Str),x=V.str z/\xs=[V.ref p]/\CK X.K H p (ts.map V.str)/\JoinOk z ts=true/\Q (.str (Txt.join z ts)) H):=by
 intro pins s σ H x xs v us Q I rx r h
 obtain ⟨z,p,ts,rfl,rfl,hp,hj,q⟩:=h
 obtain ⟨t,rfl⟩:=rx
 obtain ⟨w,rfl,rw'⟩:=Vals.one r
 cases rw'
 obtain ⟨its,rv,pl,hz⟩:=I.list hp
 obtain ⟨l,rfl,el⟩:=Ms rv
 exact SC.join pl.isList el hj fun t' k=>⟨.str _,H,I.tok _,⟨_,rfl⟩,q⟩
structure KDict (K:PySem.W.Frag) (P:Params) (a:Addr):Prop where
 is:∃ es n,K.lookup a=some ⟨.type "dict",none,.dict es n,#[]⟩/\PySem.W.KeysLit P es.toList
 lo:(a == sysModules)=false
noncomputable def aF (K:PySem.W.Frag) (P:Params) (td ty:TE):TE:=fun σ H Q=>td σ H fun x H1=>ty σ H1 fun y H2=>∃ a z v u,x=.ref a/\y=.str z/\KDict K P a/\PySem.W.nsIn K a z=some (some u)/\RelV v u/\Q v H2
noncomputable def du (K:PySem.W.Frag) (P:Params) (neg:Bool) (ty td:TE):TE:=fun σ H Q=>ty σ H fun y H1=>td σ H1 fun x H2=>∃ a z r,x=.ref a/\y=.str z/\KDict K P a/\PySem.W.nsIn K a z=some r/\Q (.bl (if neg then !r.isSome else r.isSome)) H2
variable {o i:Expr} {pos:Pos} {td ty:TE}
theorem Mg (ho:PE X o td) (hi:PE X i ty) (hs:Xv i):PE X (.Subscript o i pos) (aF X.K X.w.params td ty):=by
 intro pins s σ H Q I h
 refine QR PySem.F.slot_dict_getitem.lookup hs (CJ (ho pins s σ H _ I h) fun u s1 ⟨x,H1,I1,rx,q1⟩=>CJ (hi pins s1 σ H1 _ I1 q1) fun iv s2 hq0=>?_)
 obtain ⟨y,H2,I2,ry,a,z,v,w,ex,ey,kd,hw,rw',q2⟩:=hq0
 subst ex ey
 cases rx
 obtain ⟨t,rfl⟩:=ry
 obtain ⟨⟨es,n,hl,hk⟩,lo⟩:=kd
 have hm:=PySem.W.mapOf_K (prog:=X.prog) I2.JC hl hk
 exact ⟨hm.typeIs,wpAny_getItem_of (strKind_is X.prog X.w z t) hm (PySem.W.find_K hl hw) ⟨v,H2,I2.tok _,rw',q2⟩⟩
theorem Ue (hi:PE X i ty) (ho:PE X o td):PC X .In i o (du X.K X.w.params false ty td):=by
 intro pins s σ H Q I h
 refine CJ (hi pins s σ H _ I h) fun iv s1 ⟨y,H1,I1,ry,q1⟩=>CJ (ho pins s1 σ H1 _ I1 q1) fun u s2 hq0=>?_
 obtain ⟨x,H2,I2,rx,a,z,r,ex,ey,kd,hw,q2⟩:=hq0
 subst ex ey
 cases rx
 obtain ⟨t,rfl⟩:=ry
 obtain ⟨⟨es,n,hl,hk⟩,lo⟩:=kd
 refine wpAny_in_of (strKind_is X.prog X.w z t) lo (PySem.W.mapOf_K (prog:=X.prog) I2.JC hl hk) ?_
 rw [PySem.W.find_K hl hw]
 exact ⟨.bl r.isSome,H2,I2.tok _,rfl,q2⟩
theorem RL (hi:PE X i ty) (ho:PE X o td):PC X .NotIn i o (du X.K X.w.params true ty td):=by
 intro pins s σ H Q I h
 refine CJ (hi pins s σ H _ I h) fun iv s1 ⟨y,H1,I1,ry,q1⟩=>CJ (ho pins s1 σ H1 _ I1 q1) fun u s2 hq0=>?_
 obtain ⟨x,H2,I2,rx,a,z,r,ex,ey,kd,hw,q2⟩:=hq0
 subst ex ey
 cases rx
 obtain ⟨t,rfl⟩:=ry
 obtain ⟨⟨es,n,hl,hk⟩,lo⟩:=kd
 refine wpAny_notIn_of (strKind_is X.prog X.w z t) lo (PySem.W.mapOf_K (prog:=X.prog) I2.JC hl hk) ?_
 rw [PySem.W.find_K hl hw]
 exact ⟨.bl (!r.isSome),H2,I2.tok _,rfl,q2⟩
end
noncomputable def stepV (xs:List V) (lo hi:Option Int) (k:Int):List V:=(sliceRange (sliceBounds lo hi (some k) xs.length).1 (sliceBounds lo hi (some k) xs.length).2.1 (sliceBounds lo hi (some k) xs.length).2.2).filterMap (xs[·]?)
theorem Q6 {xs:List V} {lo hi:Option Int} {k:Int} {y:V} (h:y∈stepV xs lo hi k):y∈xs:=by
 obtain ⟨j,_,e⟩:=List.mem_filterMap.mp h
 exact List.mem_of_getElem? e
theorem Qc:∀ {xs:List V} {us:List Value},Vals xs us->∀ js:List Nat,Vals (js.filterMap (xs[·]?)) (js.filterMap (us[·]?)):=by
 intro xs us h js
 induction js with
 | nil=>exact .nil
 | cons j js ih =>
  rw [List.filterMap_cons,List.filterMap_cons]
  by_cases hj:j<xs.length
  ·have ex:xs[j]? = some xs[j]:=List.getElem?_eq_getElem hj
   obtain ⟨u,hu,ru⟩:=h.get ex
   rw [ex,hu]
   exact .cons ru ih
  ·have hl:=h.length
   rw [List.getElem?_eq_none (by omega),List.getElem?_eq_none (by omega)]
   exact ih
noncomputable def bI (K:PySem.W.Frag) (te:TE) (tl th:TO) (ts:TE):TE:=fun σ H Q=>te σ H fun x H1=>tl σ H1 fun lo H2=>th σ H2 fun hi H3=>ts σ H3 fun k H4=>∃ j,k=.int j/\0<j/\∃ a xs,x=.ref a/\CK K H4 a xs/\∀ p,H4 p=none->(stepV xs lo hi j).length<=xs.length->Q (.ref p) (upd H4 p (.lst (stepV xs lo hi j)))
section
variable {X:Cx} {e st:Expr} {lo hi:Option Expr} {te ts:TE} {tl th:TO} {p2 pos:Pos}
theorem MF (he:PE X e te) (hl:PO X lo tl) (hu:PO X hi th) (hst:PE X st ts):PE X (.Subscript e (.Slice lo hi (some st) p2) pos) (bI X.K te tl th ts):=by
 intro pins s σ H Q I h
 refine Subscript_ (CJ (he pins s σ H _ I h) fun v s1 hq0=>?_)
 obtain ⟨x,H1,I1,r1,q1⟩:=hq0
 refine wpAny_Slice (CJ (hl pins s1 σ H1 _ I1 q1) fun vl s2 ⟨l,H2,I2,rl,q2⟩=>CJ (hu pins s2 σ H2 _ I2 q2) fun vu s3 hq0=>?_)
 obtain ⟨u,H3,I3,ru,q3⟩:=hq0
 rw [evalPart_some]
 refine CJ (hst pins s3 σ H3 _ I3 q3) fun vk s4 hq0=>?_
 obtain ⟨k,H4,I4,rk,j,ek,hj,a,xs,ex,hx,q⟩:=hq0
 subst ek ex
 obtain ⟨t,rfl⟩:=rk
 cases r1
 have I5:Inv X pins σ H4 { s4 with heap:=s4.heap.push { cls:=.type "slice",data:=.fields #[vl,vu,.int j t] } }:=I4.kept (t':=s4.toks) fun b ob q=>Heap.get?_push_of_some _ q
 obtain ⟨its,r,ht,hz⟩:=I5.list hx
 have hlen:=r.length
 show wpAny (model X.prog X.w) X.A (subscriptTail e (.Slice lo hi (some st) p2) (.ref a) (.ref s4.heap.objs.size)) (EP X pins σ Q) X.xe { s4 with heap:=s4.heap.push { cls:=.type "slice",data:=.fields #[vl,vu,.int j t] } }
 refine tail_any (ops:=[.ref a,.ref s4.heap.objs.size]) ht.isList.typeIs slot_list_getitem.lookup ?_ (by with_unfolding_all rfl)
 refine wpAny_getItem_list_slice ht.isList (Heap.IsSliceOf.new ..) rl ru (.int j t) (by intro z; cases z; omega) ?_ (by rw [List.size_toArray] <;> omega)
 have ep:slicePick its.toArray l u (some j)=((sliceRange (sliceBounds l u (some j) xs.length).1 (sliceBounds l u (some j) xs.length).2.1 (sliceBounds l u (some j) xs.length).2.2).filterMap (its[·]?)).toArray:=by
  unfold slicePick
  rw [List.size_toArray,hlen]
  simp only [List.getElem?_toArray]
 have hv:Vals (stepV xs l u j) ((sliceRange (sliceBounds l u (some j) xs.length).1 (sliceBounds l u (some j) xs.length).2.1 (sliceBounds l u (some j) xs.length).2.2).filterMap (its[·]?)):=Qc r _
 have hsz:(stepV xs l u j).length<=xs.length:=by
  have:=slicePick_size_le its.toArray l u (some j)
  rw [ep,List.size_toArray,List.size_toArray,← hv.length] at this
  omega
 rw [ep]
 exact ⟨.ref _,_,I5.laid (t':=s4.toks) (o:=.lst (stepV xs l u j)) (fun b ob q=>Heap.get?_push_of_some _ q) (Nat.le_refl _) ⟨Nat.le_trans hsz hz,_,0,hv,Heap.get?_push_size _ rfl⟩,rfl,q _ (I5.hok.fresh (Nat.le_refl _)) hsz⟩
end
end L2
namespace Og
open PySem L2
theorem Aj {X:Cx} {K:PySem.W.Frag} (h:X.K=K):Yr X (Y8 K):=h ▸ Yo
theorem A_ {X:Cx} {K:PySem.W.Frag} (h:X.K=K):Yr X (ZV K):=h ▸ Eb
theorem Jq {X:Cx} {K:PySem.W.Frag} (h:X.K=K):G3 X (compareOp .In) (eZ K false):=h ▸ GX
theorem Sg {X:Cx} {e:Expr}:PE X e (fun _ _ _=>False):=fun _ _ _ _ _ _ h=>h.elim
structure R where
 w:Str
 nm:Str
 rest:List V
noncomputable abbrev R.v (r:R):List V:=.str r.w :: .str r.nm::r.rest
noncomputable def isNm (z:Str):Prop:=1<=z.length/\z.length<=8/\∀ c∈z.cps.toList,97<=c/\c<=122
noncomputable def Rows (H:Hp) (ρ:V->R) (vs:List V):Prop:=∀ v∈vs,TupAt H (ρ v).v v
theorem Rows.mono {H H':Hp} {ρ:V->R} {vs:List V} (s:An H H') (h:Rows H ρ vs):Rows H' ρ vs:=fun v hv=>(h v hv).mono s
theorem Rows.sub {H:Hp} {ρ:V->R} {vs us:List V} (h:Rows H ρ vs) (hs:∀ v∈us,v∈vs):Rows H ρ us:=fun v hv=>h v (hs v hv)
noncomputable abbrev pw (ρ:V->R) (w:Str) (v:V):Bool:=decide (V.str (ρ v).w=V.str w)
noncomputable abbrev pn (ρ:V->R) (t:Str) (v:V):Bool:=decide (V.str (ρ v).nm=V.str t)
noncomputable def Wt (ρ:V->R) (vs:List V) (w t:Str):Bool:=(vs.filter (pw ρ w)).any (pn ρ t)
noncomputable def KTup (K:PySem.W.Frag) (a:Addr) (xs:List V):Prop:=∃ (o:Obj) (its:Array Value) (n:Nat),K.lookup a=some o/\o.cls=.type "tuple" /\ o.data=.seq its n/\its.size<=sizeLine/\Vals xs its.toList
theorem KTup.sq {K:PySem.W.Frag} {a:Addr} {xs:List V} (h:KTup K a xs) (H:Hp):IV K H a xs:=.inr h
noncomputable abbrev named:List Str:=["board","rank","stop","coupler","mute"]
noncomputable def Hy (K:PySem.W.Frag) (aB:Addr) (ρ:V->R) (vs:List V) (x:V) (part:Str):Prop :=
 (∃ (i lo hi:Int) (b:Addr),x=.int i/\PySem.W.nsIn K aB part=some (some (.ref b))/\KTup K b [.int lo,.int hi]/\lo<=i/\i<=hi) \/
 (PySem.W.nsIn K aB part=some none/\part = "new" /\ ∃ t,x=.str t/\isNm t/\∀ w∈named,Wt ρ vs w t=false) \/
 (PySem.W.nsIn K aB part=some none/\¬ part = "new" /\ ∃ t,x=.str t/\isNm t/\Wt ρ vs part t=true)
structure Ko (K:PySem.W.Frag) (aB aP aM:Addr) (ρ:V->R) (vs:List V) (r:R):Prop where
 ns:¬ r.w = "step"
 nl:¬ r.w = "line"
 parts:∃ (ap:Addr) (ps:List Str),PySem.W.nsIn K aP r.w=some (some (.ref ap))/\KTup K ap (ps.map V.str)/\(V.str r.nm::r.rest).length=ps.length/\ps.length<=10 /\
  ∀ (i:Nat) x y,(V.str r.nm::r.rest)[i]? = some x->ps[i]? = some y->Hy K aB ρ vs x y
 room:∃ (m:Int) (t:Tok),PySem.W.nsIn K aM r.w=some (some (.int m t))/\(((vs.filter (pw ρ r.w)).length:Nat):Int)<m
noncomputable def letters:Str:="abcdefghijklmnopqrstuvwxyz"
noncomputable abbrev ZP (y:Str) (c:Nat):Bool:=!(Builtin.Str.occurrences y ⟨#[c]⟩ 0 y.length 1).isEmpty
theorem Vc:∀ c<128,ZP letters c=decide (97<=c/\c<=122):=by decide +kernel
theorem Az {H:Hp} {p:Addr} {o:HO} (h:H p=none):An H (upd H p o):=fun b u e=>by rw [BW (BL e h)]; exact e
theorem JS {H:Hp} {p:Addr} {o:HO} (h:H p=none):∃ H',upd H p o=H'/\An H H'/\H' p=some o:=⟨_,rfl,Az h,Ak⟩
theorem Dd {n:Nat} (h:n<=1000):n<=sizeLine:=Nat.le_of_lt (BJ h)
theorem ty_int {K:PySem.W.Frag}:PySem.W.kitOne K (.type "int") (.type "int")=some true:=by kernel_rfl
theorem Wm {K:PySem.W.Frag}:PySem.W.kitOne K (.type "int") (.type "bool")=some false:=by kernel_rfl
theorem Tg {K:PySem.W.Frag}:PySem.W.kitOne K (.type "list") (.type "list")=some true:=by kernel_rfl
theorem Pu {K:PySem.W.Frag}:PySem.W.kitOne K (.type "tuple") (.type "tuple")=some true:=by kernel_rfl
theorem Wx {K:PySem.W.Frag}:PySem.W.kitOne K (.type "str") (.type "str")=some true:=by kernel_rfl
theorem HW (vs:List V) (n:Nat) (h:n<=vs.length):De vs none (some (n:Int))=vs.take n:=by
 unfold De
 have e1:HT.Ed vs.length 0 none=0:=rfl
 have e2:HT.Ed vs.length vs.length (some (n:Int))=n:=by
  rw [HT.LR]
  omega
 rw [e1,e2]
 simp
theorem Hq {α:Type} (p:α->Bool) (l:List α):(l.filter p).length<=l.length:=List.length_filter_le _ _
noncomputable abbrev bV (b:Str × Nat):List V:=[.str b.1,.int (b.2:Nat)]
noncomputable abbrev GD (b:Str × Nat):R:=⟨"board",b.1,[.int (b.2:Nat)]⟩
noncomputable abbrev qV (q:Nat × Nat):List V:=[.int (q.1:Nat),.int (q.2:Nat)]
noncomputable def Ec (bs:List (Str × Nat)):List (Nat × Nat):=bs.zipIdx.flatMap fun p=>(List.range p.1.2).map fun e=>(p.2,e)
theorem R1 (bs:List (Str × Nat)) (b:Str × Nat):Ec (bs++[b])=Ec bs++(List.range b.2).map fun e=>(bs.length,e):=by
 unfold Ec
 rw [List.zipIdx_append]
 simp
theorem G5 {bs:List (Str × Nat)} {i:Nat} {b:Str × Nat} (h:bs[i]? = some b):Ec (bs.take (i+1))=Ec (bs.take i)++(List.range b.2).map fun e=>(i,e):=by
 have hi:i<bs.length:=(List.getElem?_eq_some_iff.mp h).1
 rw [List.take_add_one,h]
 show Ec (bs.take i++[b])=_
 rw [R1,List.length_take,Nat.min_eq_left (by omega)]
theorem LQ (bs:List (Str × Nat)) (M:Nat):(∀ b∈bs,b.2<=M)->(Ec bs).length<=bs.length * M:=by
 intro h
 have key:∀ i,i<=bs.length->(Ec (bs.take i)).length<=i * M:=by
  intro i
  induction i with
  | zero=>intro _; simp [Ec]
  | succ i ih =>
   intro hi
   have hlt:i<bs.length:=by omega
   rw [G5 (List.getElem?_eq_getElem hlt),List.length_append,List.length_map,List.length_range]
   have h1:=ih (by omega)
   have h2:=h bs[i] (List.getElem_mem hlt)
   have:(i+1) * M=i * M+M:=by rw [Nat.add_mul,Nat.one_mul]
   omega
 have:=key bs.length (Nat.le_refl _)
 rw [List.take_length] at this
 exact this
theorem DQ {α β:Type} {F:α->β->Prop} {l:List α} {vs:List β} (h:Paired F l vs):∀ {v},v∈vs->∃ a∈l,F a v:=by
 induction h with
 | nil=>intro v hv; cases hv
 | cons a b ih =>
  intro v hv
  rcases List.mem_cons.mp hv with rfl | hv
  ·exact ⟨_,List.mem_cons_self ..,a⟩
  ·obtain ⟨x,hx,q⟩:=ih hv
   exact ⟨x,List.mem_cons_of_mem _ hx,q⟩
theorem Bh {α β:Type} {F:α->β->Prop} {l:List α} {vs:List β} (h:Paired F l vs):∀ {i:Nat} {a},l[i]? = some a->∃ v,vs[i]? = some v/\F a v:=by
 induction h with
 | nil=>intro i a ha; simp at ha
 | cons x y ih =>
  intro i a ha
  cases i with
  | zero =>
   simp at ha
   subst ha
   exact ⟨_,rfl,x⟩
  | succ i=>exact ih (by simpa using ha)
theorem En {α β:Type} {F:α->β->Prop} {l:List α} {vs:List β} (h:Paired F l vs):∀ {i:Nat} {v},vs[i]? = some v->∃ a,l[i]? = some a/\F a v:=by
 induction h with
 | nil=>intro i a ha; simp at ha
 | cons x y ih =>
  intro i a ha
  cases i with
  | zero =>
   simp at ha
   subst ha
   exact ⟨_,rfl,x⟩
  | succ i=>exact ih (by simpa using ha)
theorem JW {α β:Type} {F:α->β->Prop} {l:List α} {vs:List β} (h:Paired F l vs):∀ n:Nat,Paired F (l.take n) (vs.take n):=by
 induction h with
 | nil=>intro n; simp; exact .nil
 | cons x y ih =>
  intro n
  cases n with
  | zero=>exact .nil
  | succ n=>exact .cons x (ih n)
theorem Ff {α β:Type} {F:α->β->Prop} {l l':List α} {vs vs':List β} (h:Paired F l vs) (h':Paired F l' vs'):Paired F (l++l') (vs++vs'):=by
 induction h with
 | nil=>exact h'
 | cons x y ih=>exact .cons x ih
theorem By {α β γ:Type} {F:γ->β->Prop} (g:α->γ) {l:List α} {vs:List β} (h:Paired (fun a v=>F (g a) v) l vs):Paired F (l.map g) vs:=by
 induction h with
 | nil=>exact .nil
 | cons x y ih=>exact .cons x ih
theorem F_ {α β γ:Type} {F:γ->β->Prop} (g:α->γ):∀ {l:List α} {vs:List β},Paired F (l.map g) vs->Paired (fun a v=>F (g a) v) l vs
 | [],_,h=>by cases h; exact .nil
 | a::l,_,h=>by
  cases h with
  | cons x y=>exact .cons x (F_ g y)
noncomputable def J6 (H:Hp) (k:Nat):V->V
 | .ref T=>match H T with
  | some (.tup xs)=>xs.getD k .non
  | _=>.non
 | _=>.non
theorem Gr {H:Hp} {zs:List V} {v:V} (h:TupAt H zs v) (k:Nat):J6 H k v=zs.getD k .non:=by
 obtain ⟨T,rfl,e⟩:=h
 show (match H T with | some (.tup xs)=>xs.getD k V.non | _=>V.non)=_
 rw [e]
theorem Jg {α:Type} {H:Hp} {g:α->List V} (k:Nat) {l:List α} {vs:List V} (h:Paired (fun a v=>TupAt H (g a) v) l vs):vs.map (J6 H k)=l.map fun a=>(g a).getD k .non:=by
 induction h with
 | nil=>rfl
 | cons x y ih=>rw [List.map_cons,List.map_cons,ih,Gr x]
noncomputable def SX (x:Addr) (H H':Hp):Prop:=∀ b o,H b=some o->b ≠ x->H' b=some o
theorem SX.trans {x:Addr} {H H1 H2:Hp} (a:SX x H H1) (b:SX x H1 H2):SX x H H2:=fun c o h n=>b c o (a c o h n) n
theorem SX.of {x:Addr} {H H':Hp} (s:An H H'):SX x H H':=fun b o h _=>s b o h
theorem SX.up {x:Addr} {H:Hp} {o:HO}:SX x H (upd H x o):=fun b u h n=>by rw [BW n]; exact h
theorem SX.tup {x:Addr} {H H':Hp} {zs:List V} {y:V} {C dx:Addr} {fs:List (Str × V)} (s:SX x H H') (hx:H x=some (.ins C dx fs)) (h:TupAt H zs y):TupAt H' zs y:=by
 obtain ⟨T,e,q⟩:=h
 exact ⟨T,e,s _ _ q fun z=>by rw [z,hx] at q; cases q⟩
theorem SX.pair {α:Type} {x:Addr} {H H':Hp} {f:α->List V} {l:List α} {vs:List V} {C dx:Addr} {fs:List (Str × V)} (s:SX x H H') (hx:H x=some (.ins C dx fs)) (h:Paired (fun a y=>TupAt H (f a) y) l vs):Paired (fun a y=>TupAt H' (f a) y) l vs:=Paired.Et h fun _ _ q=>s.tup hx q
theorem SX.lst {x a:Addr} {H H':Hp} {xs:List V} {C dx:Addr} {fs:List (Str × V)} (s:SX x H H') (hx:H x=some (.ins C dx fs)) (h:H a=some (.lst xs)):H' a=some (.lst xs):=s _ _ h fun z=>by rw [z,hx] at h; cases h
theorem SX.dk {x a:Addr} {H H':Hp} {kvs:List (Key × V)} {C dx:Addr} {fs:List (Str × V)} (s:SX x H H') (hx:H x=some (.ins C dx fs)) (h:H a=some (.dK kvs)):H' a=some (.dK kvs):=s _ _ h fun z=>by rw [z,hx] at h; cases h
noncomputable abbrev meths:List Str:=["ranks","pipe_count","pipe","rank_of","board_of_knob","boards","key_count","key","board_of","coupler","knobs","knob_number","board_number","stop","mute","steps","rows"]
structure Dg (C:Addr) (H:Hp) (x:Addr) (bs:List (Str × Nat)) (ks:List R):Prop where
 ob:∃ (dx:Addr) (fs:List (Str × V)) (bl bn kp kr:Addr) (bvs pvs uvs:List V) (kvs:List (Key × V)),H x=some (.ins C dx fs)/\fs.lookup ("board_list" : Str)=some (.ref bl)/\fs.lookup ("board_numbers" : Str)=some (.ref bn)/\fs.lookup ("key_places" : Str)=some (.ref kp)/\fs.lookup ("knob_rows" : Str)=some (.ref kr) /\
  (∀ m∈meths,fs.lookup m=none)/\H bl=some (.lst bvs)/\Paired (fun b y=>TupAt H (bV b) y) bs bvs/\H bn=some (.dK kvs)/\(∀ (i:Nat) b,bs[i]? = some b->Ds kvs (Sum.inr b.1)=some (.int (i:Nat))) /\
  H kp=some (.lst pvs)/\Paired (fun q y=>TupAt H (qV q) y) (Ec bs) pvs/\H kr=some (.lst uvs)/\Paired (fun (r:R) y=>TupAt H r.v y) ks uvs
 nb:bs.length<=5
 sz:∀ b∈bs,b.2<=61
 nk:ks.length<=200
theorem Dg.mono {C:Addr} {H H':Hp} {x:Addr} {bs:List (Str × Nat)} {ks:List R} (s:An H H') (h:Dg C H x bs ks):Dg C H' x bs ks:=by
 obtain ⟨⟨dx,fs,bl,bn,kp,kr,bvs,pvs,uvs,kvs,h1,l1,l2,l3,l4,lm,h2,h3,h4,h5,h6,h7,h8,h9⟩,a,b,c⟩:=h
 exact ⟨⟨dx,fs,bl,bn,kp,kr,bvs,pvs,uvs,kvs,s _ _ h1,l1,l2,l3,l4,lm,s _ _ h2,Al s h3,s _ _ h4,h5,s _ _ h6,Al s h7,s _ _ h8,Al s h9⟩,a,b,c⟩
end Og
namespace Og
open PySem L2 PyProof.Rows
inductive Kb where
 | cp (i j:Nat) (s:Int)
 | pl (w:Str) (i:Nat)
noncomputable def Kb.w:Kb->Str
 | .cp _ _ _=>"coupler"
 | .pl w _=>w
noncomputable def Kb.v:Kb->List V
 | .cp i j s=>[.str "coupler",.int (i:Nat),.int (j:Nat),.int s]
 | .pl w i=>[.str w,.int (i:Nat)]
noncomputable def Kb.ok (n:Nat):Kb->Prop
 | .cp i j s=>i<n/\j<n /\ -60<=s/\s<=60
 | .pl w i=>i<n/\(w = "mute" \/ w = "stop")
theorem Kb.wo {n:Nat} {k:Kb} (h:k.ok n):k.w = "stop" \/ k.w = "coupler" \/ k.w = "mute":=by
 cases k with
 | cp i j s=>exact .inr (.inl rfl)
 | pl w i=>rcases h.2 with e | e; exact .inr (.inr e); exact .inl e
theorem Kb.v0 (k:Kb):∃ r,k.v=.str k.w::r:=by cases k <;> exact ⟨_,rfl⟩
noncomputable def Fx (w:Str):Nat:=if w = "coupler" then 12 else if w = "mute" then 5 else 24
noncomputable abbrev HR (w:Str) (z:Kb):Bool:=decide (V.str z.w=V.str w)
structure L_ (n:Nat) (kbs:List Kb):Prop where
 ok:∀ k∈kbs,k.ok n
 room:∀ (i:Nat) k,kbs[i]? = some k->((kbs.take i).filter (HR k.w)).length<Fx k.w
 len:kbs.length<=70
noncomputable def Jd (c:Nat->Str) (k:Nat):Kb->R
 | .cp i j s=>⟨"coupler",c (30+k),[.str (c i),.str (c j),.int s]⟩
 | .pl w i=>⟨w,c (30+k),[.str (c i)]⟩
theorem Gu (c:Nat->Str) (k:Nat) (z:Kb):(Jd c k z).w=z.w:=by cases z <;> rfl
theorem QV (c:Nat->Str) (k:Nat) (z:Kb):(Jd c k z).nm=c (30+k):=by cases z <;> rfl
noncomputable def BX (c:Nat->Str) (sz:List Nat):List (Str × Nat):=sz.zipIdx.map fun p=>(c p.2,p.1)
noncomputable def Bw (c:Nat->Str) (kbs:List Kb):List R:=kbs.zipIdx.map fun p=>Jd c p.2 p.1
theorem CT {c:Nat->Str} {sz:List Nat} {i z:Nat} (h:sz[i]? = some z):(BX c sz)[i]? = some (c i,z):=by
 unfold BX
 rw [List.getElem?_map,List.getElem?_zipIdx,h]
 simp
theorem Gf {c:Nat->Str} {sz:List Nat} {i:Nat} {b:Str × Nat} (h:(BX c sz)[i]? = some b):∃ z,sz[i]? = some z/\b=(c i,z):=by
 have hi:i<(BX c sz).length:=(List.getElem?_eq_some_iff.mp h).1
 have hi':i<sz.length:=by simpa [BX] using hi
 refine ⟨sz[i],List.getElem?_eq_getElem hi',?_⟩
 rw [CT (List.getElem?_eq_getElem hi')] at h
 exact (Option.some.inj h).symm
theorem Es (c:Nat->Str) (sz:List Nat):(BX c sz).length=sz.length:=by simp [BX]
theorem Bk (c:Nat->Str) (sz:List Nat):(BX c sz).map (·.2)=sz:=by
 unfold BX
 rw [List.map_map]
 refine List.ext_getElem? fun i=>?_
 rw [List.getElem?_map,List.getElem?_zipIdx]
 cases sz[i]? <;> simp
theorem DY {c:Nat->Str} {kbs:List Kb} {i:Nat} {z:Kb} (h:kbs[i]? = some z):(Bw c kbs)[i]? = some (Jd c i z):=by
 unfold Bw
 rw [List.getElem?_map,List.getElem?_zipIdx,h]
 simp
theorem Dm {c:Nat->Str} {kbs:List Kb} {i:Nat} {r:R} (h:(Bw c kbs)[i]? = some r):∃ z,kbs[i]? = some z/\r=Jd c i z:=by
 have hi:i<(Bw c kbs).length:=(List.getElem?_eq_some_iff.mp h).1
 have hi':i<kbs.length:=by simpa [Bw] using hi
 refine ⟨kbs[i],List.getElem?_eq_getElem hi',?_⟩
 rw [DY (List.getElem?_eq_getElem hi')] at h
 exact (Option.some.inj h).symm
theorem Gh (c:Nat->Str) (kbs:List Kb):(Bw c kbs).length=kbs.length:=by simp [Bw]
structure KF (K:PySem.W.Frag) (aB aP aM:Addr):Prop where
 pB:∃ a,PySem.W.nsIn K aP "board" = some (some (.ref a))/\KTup K a (["new","keys"].map fun s:String=>V.str s)
 pS:∃ a,PySem.W.nsIn K aP "stop" = some (some (.ref a))/\KTup K a (["new","board"].map fun s:String=>V.str s)
 pM:∃ a,PySem.W.nsIn K aP "mute" = some (some (.ref a))/\KTup K a (["new","board"].map fun s:String=>V.str s)
 pC:∃ a,PySem.W.nsIn K aP "coupler" = some (some (.ref a))/\KTup K a (["new","board","board","leap"].map fun s:String=>V.str s)
 bK:∃ a,PySem.W.nsIn K aB "keys" = some (some (.ref a))/\KTup K a [.int 1,.int 61]
 bL:∃ a,PySem.W.nsIn K aB "leap" = some (some (.ref a))/\KTup K a [.int (-60),.int 60]
 bN:PySem.W.nsIn K aB "new" = some none
 bB:PySem.W.nsIn K aB "board" = some none
 mB:∃ t,PySem.W.nsIn K aM "board" = some (some (.int 5 t))
 mS:∃ t,PySem.W.nsIn K aM "stop" = some (some (.int 24 t))
 mC:∃ t,PySem.W.nsIn K aM "coupler" = some (some (.int 12 t))
 mM:∃ t,PySem.W.nsIn K aM "mute" = some (some (.int 5 t))
noncomputable def Up (H:Hp):V->R
 | .ref T=>match H T with
  | some (.tup (.str w :: .str n::r))=>⟨w,n,r⟩
  | _=>⟨"","",[]⟩
 | _=>⟨"","",[]⟩
theorem Oe {H:Hp} {r:R} {v:V} (h:TupAt H r.v v):Up H v=r:=by
 obtain ⟨T,rfl,e⟩:=h
 show (match H T with | some (.tup (.str w :: .str n::r))=>(⟨w,n,r⟩:R) | _=>⟨"","",[]⟩)=r
 rw [e]
theorem QS {H:Hp} {rs:List R} {vs:List V} (h:Paired (fun (r:R) v=>TupAt H r.v v) rs vs):vs.map (Up H)=rs:=by
 induction h with
 | nil=>rfl
 | cons x y ih=>rw [List.map_cons,ih,Oe x]
theorem Bx (f:Str) (v:V):∀ l:List (Str × V),(Bm f v l).length<=l.length+1
 | []=>Nat.le_refl _
 | p::r=>by
  unfold Bm
  split
  ·simp
  ·have:=Bx f v r
   simp only [List.length_cons]
   omega
noncomputable abbrev JP (s:Str):Bool:=inV (.str s) [.str "stop",.str "coupler",.str "mute"]
structure mQ (K:PySem.W.Frag) (aB aP aM:Addr) (ρ:V->R) (us:List V) (bs:List (Str × Nat)) (ks:List R):Prop where
 kinds:∀ v∈us,(ρ v).w = "board" \/ (ρ v).w = "stop" \/ (ρ v).w = "coupler" \/ (ρ v).w = "mute"
 eb:(us.filter (pw ρ "board")).map ρ=bs.map GD
 ek:(us.filter (fun v=>JP (ρ v).w)).map ρ=ks
 b0:1<=bs.length
 b5:bs.length<=5
 sz:∀ b∈bs,b.2<=61
 nk:ks.length<=100
 nb:(bs.map (·.1)).Nodup
 nn:(ks.map (·.nm)).Nodup
 len:us.length<=105
 ok:∀ (i:Nat) v,us[i]? = some v->Ko K aB aP aM ρ (us.take i) (ρ v)
noncomputable def HQ (ρ:V->R) (vs:List V):List (Str × Str):=vs.map fun v=>((ρ v).w,(ρ v).nm)
noncomputable abbrev QX (wn:List (Str × Str)) (w t:Str):Bool:=(wn.filter fun p=>decide (p.1=w)).any fun p=>decide (p.2=t)
noncomputable abbrev Uk (wn:List (Str × Str)) (w:Str):Nat:=(wn.filter fun p=>decide (p.1=w)).length
theorem Hi (a b:Str):decide (V.str a=V.str b)=decide (a=b):=by
 rw [Bool.eq_iff_iff,decide_eq_true_eq,decide_eq_true_eq]
 exact ⟨V.str.inj,congrArg V.str⟩
theorem JQ (ρ:V->R) (vs:List V) (w t:Str):Wt ρ vs w t=QX (HQ ρ vs) w t:=by
 unfold Wt HQ
 show _=((vs.map fun v=>((ρ v).w,(ρ v).nm)).filter fun p=>decide (p.1=w)).any fun p=>decide (p.2=t)
 rw [List.filter_map,List.any_map]
 have e1:pw ρ w=(fun p:Str × Str=>decide (p.1=w)) ∘ fun v=>((ρ v).w,(ρ v).nm):=by
  funext v
  exact Hi _ _
 have e2:pn ρ t=(fun p:Str × Str=>decide (p.2=t)) ∘ fun v=>((ρ v).w,(ρ v).nm):=by
  funext v
  exact Hi _ _
 rw [e1,e2]
theorem Hs (ρ:V->R) (vs:List V) (w:Str):(vs.filter (pw ρ w)).length=Uk (HQ ρ vs) w:=by
 unfold HQ
 show _=((vs.map fun v=>((ρ v).w,(ρ v).nm)).filter fun p=>decide (p.1=w)).length
 rw [List.filter_map,List.length_map]
 have e1:pw ρ w=(fun p:Str × Str=>decide (p.1=w)) ∘ fun v=>((ρ v).w,(ρ v).nm):=by
  funext v
  exact Hi _ _
 rw [e1]
section
variable {K:PySem.W.Frag} {aB aP aM:Addr} {ρ:V->R} {vs:List V} {wn:List (Str × Str)} {t:Str}
theorem Ik (F:KF K aB aP aM) (e:HQ ρ vs=wn) (ht:isNm t) (h:∀ w∈named,QX wn w t=false):Hy K aB ρ vs (.str t) "new" :=
 .inr (.inl ⟨F.bN,rfl,_,rfl,ht,fun w hw=>by rw [JQ,e]; exact h w hw⟩)
theorem Hz (F:KF K aB aP aM) (e:HQ ρ vs=wn) (ht:isNm t) (h:QX wn "board" t=true):Hy K aB ρ vs (.str t) "board" :=
 .inr (.inr ⟨F.bB,by decide +kernel,_,rfl,ht,by rw [JQ,e]; exact h⟩)
theorem RP (F:KF K aB aP aM) (e:HQ ρ vs=wn) (ht:isNm t) (h:∀ w∈named,QX wn w t=false) (hc:Uk wn "board" < 5) {n:Nat} (h1:1<=n) (h2:n<=61):Ko K aB aP aM ρ vs (GD (t,n)):=by
 obtain ⟨ap,g1,g2⟩:=F.pB
 obtain ⟨ab,g3,g4⟩:=F.bK
 obtain ⟨tk,g5⟩:=F.mB
 refine ⟨by show ¬ ("board" : Str) = "step"; decide +kernel,by show ¬ ("board" : Str) = "line"; decide +kernel,⟨ap,["new","keys"],g1,g2,rfl,by decide,fun j x y hx hy=>?_⟩,⟨5,tk,g5,?_⟩⟩
 ·match j,hx,hy with
  | 0,hx,hy =>
   cases (Option.some.inj hx)
   cases (Option.some.inj hy)
   exact Ik F e ht h
  | 1,hx,hy =>
   cases (Option.some.inj hx)
   cases (Option.some.inj hy)
   exact .inl ⟨_,1,61,ab,rfl,g3,g4,by omega,by omega⟩
  | j+2,hx,hy=>simp at hy
 ·rw [Hs,e]
  show ((Uk wn "board" : Nat):Int)<5
  omega
theorem Ni (F:KF K aB aP aM) (e:HQ ρ vs=wn) (ht:isNm t) (h:∀ w∈named,QX wn w t=false) (hc:Uk wn "coupler" < 12) {a b:Str} (ha:isNm a) (ha':QX wn "board" a=true) (hb:isNm b) (hb':QX wn "board" b=true) {s:Int} (h1 : -60<=s) (h2:s<=60):Ko K aB aP aM ρ vs ⟨"coupler",t,[.str a,.str b,.int s]⟩:=by
 obtain ⟨ap,g1,g2⟩:=F.pC
 obtain ⟨ab,g3,g4⟩:=F.bL
 obtain ⟨tk,g5⟩:=F.mC
 refine ⟨by show ¬ ("coupler" : Str) = "step"; decide +kernel,by show ¬ ("coupler" : Str) = "line"; decide +kernel,⟨ap,["new","board","board","leap"],g1,g2,rfl,by decide,fun j x y hx hy=>?_⟩,⟨12,tk,g5,?_⟩⟩
 ·match j,hx,hy with
  | 0,hx,hy =>
   cases (Option.some.inj hx)
   cases (Option.some.inj hy)
   exact Ik F e ht h
  | 1,hx,hy =>
   cases (Option.some.inj hx)
   cases (Option.some.inj hy)
   exact Hz F e ha ha'
  | 2,hx,hy =>
   cases (Option.some.inj hx)
   cases (Option.some.inj hy)
   exact Hz F e hb hb'
  | 3,hx,hy =>
   cases (Option.some.inj hx)
   cases (Option.some.inj hy)
   exact .inl ⟨_,-60,60,ab,rfl,g3,g4,h1,h2⟩
  | j+4,hx,hy=>simp at hy
 ·rw [Hs,e]
  show ((Uk wn "coupler" : Nat):Int)<12
  omega
end
theorem Hg {α:Type} {l:List α} (h:∀ (i j:Nat) x,l[i]? = some x->l[j]? = some x->i=j):l.Nodup:=by
 refine List.pairwise_iff_getElem.mpr fun i j hi hj hij e=>?_
 have:=h i j l[i] (List.getElem?_eq_getElem hi) (by rw [e]; exact List.getElem?_eq_getElem hj)
 omega
theorem Ld {bs:List (Str × Nat)}:∀ {i a n:Nat},(Ec bs)[i]? = some (a,n)->∃ b,bs[a]? = some b/\n<b.2/\i=((bs.map (·.2)).take a).sum+n:=by
 have key:∀ m,m<=bs.length->∀ {i a n:Nat},(Ec (bs.take m))[i]? = some (a,n)->∃ b,bs[a]? = some b/\n<b.2/\i=((bs.map (·.2)).take a).sum+n:=by
  intro m
  induction m with
  | zero =>
   intro _ i a n h
   simp [Ec] at h
  | succ m ih =>
   intro hm i a n h
   have hlt:m<bs.length:=by omega
   have hb:=List.getElem?_eq_getElem hlt
   rw [G5 hb] at h
   have hlen:(Ec (bs.take m)).length=((bs.map (·.2)).take m).sum:=by
    have g:∀ m,m<=bs.length->(Ec (bs.take m)).length=((bs.map (·.2)).take m).sum:=by
     intro m
     induction m with
     | zero=>intro _; simp [Ec]
     | succ m ih =>
      intro hm
      have hlt:m<bs.length:=by omega
      rw [G5 (List.getElem?_eq_getElem hlt),List.length_append,ih (by omega),List.length_map,List.length_range,List.take_add_one,List.getElem?_map,List.getElem?_eq_getElem hlt,List.sum_append]
      simp
    exact g m (by omega)
   by_cases hi:i<(Ec (bs.take m)).length
   ·rw [List.getElem?_append_left hi] at h
    exact ih (by omega) h
   ·rw [List.getElem?_append_right (by omega),List.getElem?_map] at h
    obtain ⟨e,he,q⟩:=Option.map_eq_some_iff.mp h
    have he':i - (Ec (bs.take m)).length<bs[m].2/\e=i - (Ec (bs.take m)).length:=by
     obtain ⟨h1,h2⟩:=List.getElem?_eq_some_iff.mp he
     rw [List.length_range] at h1
     rw [List.getElem_range] at h2
     exact ⟨h1,h2.symm⟩
    obtain ⟨q1,q2⟩:=Prod.mk.inj q
    subst q1 q2
    refine ⟨bs[m],hb,by omega,?_⟩
    rw [← hlen]
    omega
 intro i a n h
 refine key bs.length (Nat.le_refl _) ?_
 rw [List.take_length]
 exact h
theorem FW (bs:List (Str × Nat)):(Ec bs).length=(bs.map (·.2)).sum:=by
 unfold Ec
 rw [List.length_flatMap]
 have:(bs.zipIdx.map fun p=>((List.range p.1.2).map fun e=>(p.2,e)).length)=bs.map (·.2):=by
  refine List.ext_getElem? fun i=>?_
  rw [List.getElem?_map,List.getElem?_map,List.getElem?_zipIdx]
  cases bs[i]? <;> simp
 rw [this]
end Og
namespace Og
open PySem L2
noncomputable def Jl (bs:List (Str × Nat)) (j1 j2:Nat) (s:Int) (qd:Nat × Nat) (z2:Nat):V :=
 if qd.1=j1/\0<=(qd.2:Int)+s/\(qd.2:Int)+s<z2 then .int ((((bs.take j2).map (·.2)).sum:Nat)+((qd.2:Int)+s)) else .non
noncomputable def gl (bs:List (Str × Nat)):Kb->Nat->Option Nat
 | .cp j1 j2 s,i=>match (Ec bs)[i]?,bs[j2]? with
  | some qd,some b2=>match Jl bs j1 j2 s qd b2.2 with
   | .int v=>some v.toNat
   | _=>none
  | _,_=>none
 | .pl _ _,_=>none
theorem Mj (l:List Nat):∀ {a b:Nat},a<=b->(l.take a).sum<=(l.take b).sum:=by
 intro a b h
 have e:l.take a=(l.take b).take a:=by rw [List.take_take,Nat.min_eq_left h]
 rw [e]
 have:=congrArg List.sum (List.take_append_drop a (l.take b))
 rw [List.sum_append] at this
 omega
theorem KQ {bs:List (Str × Nat)} {j1 j2 i:Nat} {s:Int} {qd:Nat × Nat} {b2:Str × Nat} (hq:(Ec bs)[i]? = some qd) (hb:bs[j2]? = some b2) :
  (Jl bs j1 j2 s qd b2.2=.non/\gl bs (.cp j1 j2 s) i=none) \/ ∃ j:Nat,Jl bs j1 j2 s qd b2.2=.int (j:Nat)/\gl bs (.cp j1 j2 s) i=some j/\j<(bs.map (·.2)).sum:=by
 have e:gl bs (.cp j1 j2 s) i=match Jl bs j1 j2 s qd b2.2 with | .int v=>some v.toNat | _=>none:=by
  simp only [gl,hq,hb]
 rw [e]
 unfold Jl
 by_cases h:qd.1=j1/\0<=(qd.2:Int)+s/\(qd.2:Int)+s<b2.2
 ·rw [if_pos h]
  obtain ⟨h1,h2,h3⟩:=h
  have hs:((bs.map (·.2)).take (j2+1)).sum=(((bs.take j2).map (·.2)).sum+b2.2):=by
   rw [List.take_add_one,List.getElem?_map,hb,List.sum_append,List.map_take]
   simp
  have hle:((bs.map (·.2)).take (j2+1)).sum<=(bs.map (·.2)).sum:=by
   have:=congrArg List.sum (List.take_append_drop (j2+1) (bs.map (·.2)))
   rw [List.sum_append] at this
   omega
  refine .inr ⟨((((bs.take j2).map (·.2)).sum:Nat)+((qd.2:Int)+s)).toNat,?_,rfl,by omega⟩
  rw [Int.toNat_of_nonneg (by omega)]
 ·rw [if_neg h]
  exact .inl ⟨rfl,rfl⟩
theorem WY {bs:List (Str × Nat)} {z:Kb} {i j:Nat} (h:gl bs z i=some j):j<(bs.map (·.2)).sum:=by
 cases z with
 | pl w a=>cases h
 | cp j1 j2 s =>
  cases hq:(Ec bs)[i]? with
  | none =>
   simp only [gl,hq] at h
   cases h
  | some qd =>
   cases hb:bs[j2]? with
   | none =>
    simp only [gl,hq,hb] at h
    cases h
   | some b2 =>
    rcases KQ (j1:=j1) (s:=s) hq hb with ⟨_,e⟩ | ⟨j',_,e,lt⟩
    ·rw [e] at h
     cases h
    ·rw [e] at h
     cases h
     exact lt
noncomputable abbrev VD (z:Kb):Bool:=decide (V.str z.w=V.str "coupler")
theorem W9 {bs:List (Str × Nat)} {z:Kb} {i j:Nat} (h:gl bs z i=some j):VD z=true:=by
 cases z with
 | pl w a=>cases h
 | cp j1 j2 s=>exact decide_eq_true rfl
theorem MK {n:Nat} {z:Kb} (ho:z.ok n) (h:VD z=true):∃ i j s,z=.cp i j s:=by
 cases z with
 | cp i j s=>exact ⟨i,j,s,rfl⟩
 | pl w i =>
  exfalso
  have h':=V.str.inj (of_decide_eq_true h)
  rcases ho.2 with rfl | rfl
  ·exact absurd h' (by show ¬ ("mute" : Str) = "coupler"; decide +kernel)
  ·exact absurd h' (by show ¬ ("stop" : Str) = "coupler"; decide +kernel)
noncomputable def stp (bs:List (Str × Nat)) (kbs:List Kb) (D:Nat) (i j:Nat):Prop:=∃ k z,D.testBit k=true/\kbs[k]? = some z/\gl bs z i=some j
inductive K9 (st:Nat->Nat->Prop) (hd:Nat->Prop):Nat->Prop
 | one {i j:Nat}:hd i->st i j->K9 st hd j
 | more {i j:Nat}:K9 st hd i->st i j->K9 st hd j
theorem K9.lt {bs:List (Str × Nat)} {kbs:List Kb} {D:Nat} {h:Nat->Prop} {j:Nat} (r:K9 (stp bs kbs D) h j):j<(bs.map (·.2)).sum:=by
 cases r with
 | one a b=>obtain ⟨k,z,_,_,e⟩:=b; exact WY e
 | more a b=>obtain ⟨k,z,_,_,e⟩:=b; exact WY e
theorem K9.all {st:Nat->Nat->Prop} {hd:Nat->Prop} {W:Nat->Prop} (h1:∀ j,W j->K9 st hd j) (h2:∀ i,(hd i \/ W i)->∀ j,st i j->W j) (j:Nat):W j ↔ K9 st hd j:=by
 refine ⟨h1 j,fun h=>?_⟩
 induction h with
 | one a b=>exact h2 _ (.inl a) _ b
 | more a b ih=>exact h2 _ (.inr ih) _ b
theorem Dp:∀ (T:Nat) {l:List Nat},l.Nodup->(∀ x∈l,x<T)->l.length<=T
 | 0,l,_,h=>by
  cases l with
  | nil=>exact Nat.le_refl _
  | cons a l=>exact absurd (h a (List.mem_cons_self ..)) (Nat.not_lt_zero _)
 | T+1,l,nd,h=>by
  have ih:=Dp T (l:=l.erase T) (nd.erase T) fun x hx=>by
   have h1:=h x (List.mem_of_mem_erase hx)
   have h2:x ≠ T:=fun z=>by
    subst z
    exact nd.not_mem_erase hx
   omega
  have:=List.length_erase (a:=T) (l:=l)
  split at this <;> omega
theorem Sh (a b i:Nat):(a ||| b).testBit i=true ↔ a.testBit i=true \/ b.testBit i=true:=by
 rw [Nat.testBit_or,Bool.or_eq_true]
theorem Iw {a b:Nat} (h:∀ i,a.testBit i=true ↔ b.testBit i=true):a=b:=Nat.eq_of_testBit_eq fun i=>Bool.eq_iff_iff.mpr (h i)
end Og
namespace Og
open PySem L2 PyProof.Rows
noncomputable abbrev Th:=Str × Nat × List V
noncomputable abbrev tV (a:Th):List V:=.str a.1 :: .int (a.2.1:Nat)::a.2.2
noncomputable abbrev tN (a:Th):Str × Nat:=(a.1,a.2.1)
noncomputable abbrev Ub (r:Str × Nat × Int):Th:=(r.1,r.2.1,[.int r.2.2])
noncomputable abbrev Yv (b:Str × Nat):Th:=(b.1,b.2,[])
noncomputable abbrev Qv (r:Str × Nat × Int):Str × Nat:=(r.1,r.2.1)
noncomputable abbrev Ie (r:Str × Nat × Int):R:=⟨"rank",r.1,[.int (r.2.1:Nat),.int r.2.2]⟩
structure Ln where
 r:Nat
 sh:Int
 lo:Int
 hi:Int
noncomputable abbrev Qk (l:Ln):List V:=[.int (l.r:Nat),.int l.sh,.int l.lo,.int l.hi]
noncomputable def Hu (H:Hp) (l:List Ln) (v:V):Prop:=∃ (A:Addr) (ts:List V),v=.ref A/\H A=some (.lst ts)/\Paired (fun x y=>TupAt H (Qk x) y) l ts
noncomputable def Gw (H:Hp) (D:Addr) (ls:List (List Ln)):Prop:=∃ lv,H D=some (.lst lv)/\Paired (fun l v=>Hu H l v) ls lv
theorem Hu.mono {H H':Hp} {l:List Ln} {v:V} (s:An H H') (h:Hu H l v):Hu H' l v:=by
 obtain ⟨A,ts,e,h1,h2⟩:=h
 exact ⟨A,ts,e,s _ _ h1,Al s h2⟩
theorem Gw.mono {H H':Hp} {D:Addr} {ls:List (List Ln)} (s:An H H') (h:Gw H D ls):Gw H' D ls:=by
 obtain ⟨lv,h1,h2⟩:=h
 exact ⟨lv,s _ _ h1,Paired.Et h2 fun _ _ q=>q.mono s⟩
structure Cw (C:Addr) (H:Hp) (x:Addr) (bs:List (Str × Nat)) (rk:List (Str × Nat × Int)) (ks:List R) (ls:List (List Ln)):Prop where
 o:Dg C H x bs ks
 r:∃ (dx:Addr) (fs:List (Str × V)) (rl rn pp kl:Addr) (rvs pvs:List V) (kvs:List (Key × V)),H x=some (.ins C dx fs)/\fs.lookup ("rank_list" : Str)=some (.ref rl)/\fs.lookup ("rank_numbers" : Str)=some (.ref rn)/\fs.lookup ("pipe_places" : Str)=some (.ref pp)/\fs.lookup ("knob_lines" : Str)=some (.ref kl) /\
  H rl=some (.lst rvs)/\Paired (fun (a:Th) y=>TupAt H (tV a) y) (rk.map Ub) rvs/\H rn=some (.dK kvs)/\(∀ (i:Nat) r,rk[i]? = some r->Ds kvs (Sum.inr r.1)=some (.int (i:Nat))) /\
  H pp=some (.lst pvs)/\Paired (fun q y=>TupAt H (qV q) y) (Ec (rk.map Qv)) pvs/\Gw H kl ls
 nr:rk.length<=12
 nz:∀ r∈rk,r.2.1<=97
 nl:ls.length=ks.length
theorem Cw.mono {C:Addr} {H H':Hp} {x:Addr} {bs:List (Str × Nat)} {rk:List (Str × Nat × Int)} {ks:List R} {ls:List (List Ln)} (s:An H H') (h:Cw C H x bs rk ks ls):Cw C H' x bs rk ks ls:=by
 obtain ⟨o,⟨dx,fs,rl,rn,pp,kl,rvs,pvs,kvs,h1,l1,l2,l3,l4,h2,h3,h4,h5,h6,h7,h8⟩,a,b,c⟩:=h
 exact ⟨o.mono s,⟨dx,fs,rl,rn,pp,kl,rvs,pvs,kvs,s _ _ h1,l1,l2,l3,l4,s _ _ h2,Al s h3,s _ _ h4,h5,s _ _ h6,Al s h7,h8.mono s⟩,a,b,c⟩
structure Wb (ρ:V->R) (us:List V) (i:Nat):Prop where
 all:∀ j,j<i->∃ v,us[us.length - 1 - j]? = some v/\(ρ v).w = "line"
 lt:i<us.length
 no:∃ v,us[us.length - 1 - i]? = some v/\¬ (ρ v).w = "line"
noncomputable def YC (r:R):Int:=match r.rest with
 | [.int m]=>m
 | _=>0
noncomputable abbrev keyOf (ρ:V->R) (us:List V) (bd:Str) (n:Int):Bool:=(us.filter (pw ρ "board")).any fun v=>pn ρ bd v && decide (n<YC (ρ v))
structure PQ (ρ:V->R) (us:List V) (ro:R):Prop where
 ex:∃ (cnt:Nat) (v:V) (sh lo hi:Int) (bd:Str) (rs:List V),ro.rest=[.int sh,.int lo,.int hi]/\Wb ρ us cnt/\cnt<4/\us[us.length - 1 - cnt]? = some v/\(ρ v).w = "stop" /\ (ρ v).rest=.str bd::rs/\lo<=hi/\keyOf ρ us bd hi=true
noncomputable abbrev Fl (ρ:V->R) (us:List V):Prop:=∀ v∈us,(ρ v).w = "board"->∃ m,(ρ v).rest=[.int m]
structure G7 (K:PySem.W.Frag) (aB aP aM:Addr) (ρ:V->R) (vs:List V) (r:R):Prop where
 ns:¬ r.w = "step"
 parts:∃ (ap:Addr) (ps:List Str),PySem.W.nsIn K aP r.w=some (some (.ref ap))/\KTup K ap (ps.map V.str)/\(V.str r.nm::r.rest).length=ps.length/\ps.length<=10 /\
  ∀ (i:Nat) x y,(V.str r.nm::r.rest)[i]? = some x->ps[i]? = some y->Hy K aB ρ vs x y
 room:(r.w = "line" /\ PySem.W.nsIn K aM r.w=some none) \/ ∃ (m:Int) (t:Tok),PySem.W.nsIn K aM r.w=some (some (.int m t))/\(((vs.filter (pw ρ r.w)).length:Nat):Int)<m
 line:r.w = "line"->PQ ρ vs r
 Ys:Fl ρ vs
noncomputable def lnOf (rk:List (Str × Nat × Int)) (r:R):Ln:=match r.rest with
 | [.int sh,.int lo,.int hi]=>⟨(rk.map (·.1)).idxOf r.nm,sh,lo,hi⟩
 | _=>⟨0,0,0,0⟩
noncomputable def putL (acc:List (List Ln)) (l:Ln):List (List Ln):=match acc.getLast? with
 | some z=>acc.dropLast++[z++[l]]
 | none=>[]
noncomputable def GR (rk:List (Str × Nat × Int)) (acc:List (List Ln)) (r:R):List (List Ln):=if JP r.w=true then acc++[[]] else if r.w = "line" then putL acc (lnOf rk r) else acc
noncomputable def linesOf (rk:List (Str × Nat × Int)) (rs:List R):List (List Ln):=rs.foldl (GR rk) []
theorem CZ (rk:List (Str × Nat × Int)) (rs:List R) (r:R):linesOf rk (rs++[r])=GR rk (linesOf rk rs) r:=by
 unfold linesOf
 rw [List.foldl_append]
 rfl
theorem Hh (acc:List (List Ln)) (z:List Ln) (l:Ln):putL (acc++[z]) l=acc++[z++[l]]:=by
 unfold putL
 rw [List.getLast?_concat,List.dropLast_concat]
structure fG (K:PySem.W.Frag) (aB aP aM:Addr) (ρ:V->R) (us:List V) (bs:List (Str × Nat)) (rk:List (Str × Nat × Int)) (ks:List R):Prop where
 kinds:∀ v∈us,(ρ v).w = "board" \/ (ρ v).w = "rank" \/ (ρ v).w = "line" \/ (ρ v).w = "stop" \/ (ρ v).w = "coupler" \/ (ρ v).w = "mute"
 eb:(us.filter (pw ρ "board")).map ρ=bs.map GD
 er:(us.filter (pw ρ "rank")).map ρ=rk.map Ie
 ek:(us.filter (fun v=>JP (ρ v).w)).map ρ=ks
 ln:∀ (i:Nat) v,us[i]? = some v->(ρ v).w = "line"->(∃ (j:Nat) (r:Str × Nat × Int) (sh lo hi:Int),rk[j]? = some r/\r.1=(ρ v).nm/\(ρ v).rest=[.int sh,.int lo,.int hi])/\∃ u∈us.take i,JP (ρ u).w=true
 b0:1<=bs.length
 b5:bs.length<=5
 sz:∀ b∈bs,b.2<=61
 nr:rk.length<=12
 nz:∀ r∈rk,r.2.1<=97
 nk:ks.length<=100
 nb:(bs.map (·.1)).Nodup
 nrr:(rk.map (·.1)).Nodup
 nn:(ks.map (·.nm)).Nodup
 len:us.length<=150
 ok:∀ (i:Nat) v,us[i]? = some v->G7 K aB aP aM ρ (us.take i) (ρ v)
theorem fG.none {K:PySem.W.Frag} {aB aP aM:Addr} {ρ:V->R} {us:List V} {bs:List (Str × Nat)} {rk:List (Str × Nat × Int)} {ks:List R} (h:fG K aB aP aM ρ us bs rk ks):us.filter (pw ρ "step")=[]:=by
 refine List.filter_eq_nil_iff.mpr fun v hv=>?_
 unfold pw
 rcases h.kinds v hv with e | e | e | e | e | e <;> rw [e] <;> decide +kernel
end Og
namespace Og
open PySem L2
noncomputable abbrev Pt:=Nat × Nat
noncomputable def mO (nx:Pt->Option Pt) (p0:Pt) (ps:List Pt):Prop:=∀ (i:Nat) (p q:Pt),(p0::ps)[i]? = some p->(p0::ps)[i+1]? = some q->nx p=some q
noncomputable def lW (s0 s1 b:Nat):Nat:=if b=0 then s0 else s1
noncomputable def enc (s0:Nat) (p:Pt):Nat:=p.1 * s0+p.2
noncomputable abbrev Way:=Option (Nat × Int)
noncomputable def wy (w0 w1:Way) (b:Nat):Way:=if b=0 then w0 else w1
noncomputable def nxt (s0 s1:Nat) (w0 w1:Way) (p:Pt):Option Pt:=match wy w0 w1 p.1 with
 | none=>none
 | some (g,s)=>if 0<=(p.2:Int)+s/\(p.2:Int)+s<(lW s0 s1 g:Nat) then some (g,((p.2:Int)+s).toNat) else none
structure mU (s0 s1:Nat) (p:Pt):Prop where
 b:p.1<2
 n:p.2<lW s0 s1 p.1
structure mJ (kbs:List Kb) (D:Nat) (w0 w1:Way):Prop where
 out:∀ k z,D.testBit k=true->kbs[k]? = some z->∃ j1 j2 s,z=.cp j1 j2 s/\wy w0 w1 j1=some (j2,s)/\j2<2
 back:∀ b g s,b<2->wy w0 w1 b=some (g,s)->∃ k,D.testBit k=true/\kbs[k]? = some (.cp b g s)
end Og
namespace Og
open PySem L2
inductive XR (nx:Pt->Option Pt) (hd:Pt->Prop):Pt->Prop
 | one {p q:Pt}:hd p->nx p=some q->XR nx hd q
 | more {p q:Pt}:XR nx hd p->nx p=some q->XR nx hd q
structure mG (kbs:List Kb) (D:Nat) (w0 w1:Way):Prop where
 out:∀ (k:Nat) (z:Kb),D.testBit k=true->kbs[k]? = some z->(∃ w i,z=.pl w i) \/ ∃ j1 j2 s,z=.cp j1 j2 s/\wy w0 w1 j1=some (j2,s)/\j2<2
 back:∀ b g s,b<2->wy w0 w1 b=some (g,s)->∃ k:Nat,D.testBit k=true/\kbs[k]? = some (.cp b g s)
end Og
namespace L2
open PySem PySem.Spec PySem.Calls PyProof.Rows
noncomputable abbrev pV (q:Int × Int):List V:=[.int q.1,.int q.2]
section
variable {X:Cx}
end
end L2
namespace L2
open PySem PySem.Spec PySem.Calls PyProof.Rows
section
variable {X:Cx}
theorem R0 (hu:X.A.units<cLine):G3 X (compareOp .NotEq) (fun x y H Q=>∃ p q xs,x=V.ref p/\y=V.ref q/\CK X.K H p xs/\CK X.K H q []/\Q (.bl (!xs.isEmpty)) H):=by
 intro pins s σ H x y v u Q I rx ry h
 obtain ⟨p,q,xs,rfl,rfl,hp,hq,k⟩:=h
 cases rx
 cases ry
 obtain ⟨its,r,pl,hz⟩:=I.list hp
 obtain ⟨its2,r2,pl2,hz2⟩:=I.list hq
 have l1:=r.length
 cases r2
 cases xs with
 | nil =>
  cases r
  refine SeqAt.RcNeAt.lists (e:=fun _=>true) pl.isList pl2.isList rfl hu (fun j h1 h2=>?_) _ _ _ _ ⟨.bl _,H,I,rfl,k⟩
  exact absurd h1 (Nat.not_lt_zero _)
 | cons a b =>
  refine SeqAt.RcNeAt.lists_lengths pl.isList pl2.isList (by simp; intro z; rw [z] at l1; simp at l1) hu _ _ _ _ ⟨.bl _,H,I,rfl,k⟩
end
end L2
namespace Og
open PySem L2 PyProof.Rows
variable {K:PySem.W.Frag}
structure QL (K:PySem.W.Frag) (aB aP aM:Addr):Prop where
 f:KF K aB aP aM
 pR:∃ a,PySem.W.nsIn K aP "rank" = some (some (.ref a))/\KTup K a (["new","pipes","wind"].map fun s:String=>V.str s)
 pL:∃ a,PySem.W.nsIn K aP "line" = some (some (.ref a))/\KTup K a (["rank","shift","low","high"].map fun s:String=>V.str s)
 bP:∃ a,PySem.W.nsIn K aB "pipes" = some (some (.ref a))/\KTup K a [.int 1,.int 97]
 bW:∃ a,PySem.W.nsIn K aB "wind" = some (some (.ref a))/\KTup K a [.int 0,.int 1000000000]
 bS:∃ a,PySem.W.nsIn K aB "shift" = some (some (.ref a))/\KTup K a [.int (-200),.int 200]
 bLo:∃ a,PySem.W.nsIn K aB "low" = some (some (.ref a))/\KTup K a [.int 0,.int 60]
 bHi:∃ a,PySem.W.nsIn K aB "high" = some (some (.ref a))/\KTup K a [.int 0,.int 60]
 bR:PySem.W.nsIn K aB "rank" = some none
 mR:∃ t,PySem.W.nsIn K aM "rank" = some (some (.int 12 t))
 mL:PySem.W.nsIn K aM "line" = some none
section
variable {aB aP aM:Addr} {ρ:V->R} {vs:List V} {wn:List (Str × Str)} {t:Str}
theorem Pz {r:R} (h:Ko K aB aP aM ρ vs r) (hb:Fl ρ vs):G7 K aB aP aM ρ vs r:=⟨h.ns,h.parts,.inr h.room,fun z=>absurd z h.nl,hb⟩
theorem Qd (F:KF K aB aP aM) {wd:Str} (hw:wd = "stop" \/ wd = "mute") (e:HQ ρ vs=wn) (ht:isNm t) (h:∀ w∈named,QX wn w t=false) (hc:Uk wn wd<Fx wd) {a:Str} (ha:isNm a) (ha':QX wn "board" a=true):Ko K aB aP aM ρ vs ⟨wd,t,[.str a]⟩:=by
 have parts:∀ (j:Nat) x (y:Str),[V.str t,.str a][j]? = some x->(["new","board"]:List Str)[j]? = some y->Hy K aB ρ vs x y:=fun j x y hx hy=>by
  match j,hx,hy with
  | 0,hx,hy =>
   cases (Option.some.inj hx)
   cases (Option.some.inj hy)
   exact Ik F e ht h
  | 1,hx,hy =>
   cases (Option.some.inj hx)
   cases (Option.some.inj hy)
   exact Hz F e ha ha'
  | j+2,hx,hy=>simp at hy
 have hcnt:=Hs ρ vs wd
 rw [e] at hcnt
 rcases hw with rfl | rfl
 ·obtain ⟨ap,g1,g2⟩:=F.pS
  obtain ⟨tk,g5⟩:=F.mS
  have hm:Fx "stop" = 24:=by decide +kernel
  refine ⟨by show ¬ ("stop" : Str) = "step"; decide +kernel,by show ¬ ("stop" : Str) = "line"; decide +kernel,⟨ap,["new","board"],g1,g2,rfl,by decide,parts⟩,⟨24,tk,g5,?_⟩⟩
  show (((vs.filter (pw ρ "stop")).length:Nat):Int)<24
  omega
 ·obtain ⟨ap,g1,g2⟩:=F.pM
  obtain ⟨tk,g5⟩:=F.mM
  have hm:Fx "mute" = 5:=by decide +kernel
  refine ⟨by show ¬ ("mute" : Str) = "step"; decide +kernel,by show ¬ ("mute" : Str) = "line"; decide +kernel,⟨ap,["new","board"],g1,g2,rfl,by decide,parts⟩,⟨5,tk,g5,?_⟩⟩
  show (((vs.filter (pw ρ "mute")).length:Nat):Int)<5
  omega
theorem Q7 (F:QL K aB aP aM) (e:HQ ρ vs=wn) (ht:isNm t) (h:∀ w∈named,QX wn w t=false) (hc:Uk wn "rank" < 12) {n:Nat} {wi:Int} (h1:1<=n) (h2:n<=97) (h3:0<=wi) (h4:wi<=1000000000) (hb:Fl ρ vs):G7 K aB aP aM ρ vs (Ie (t,n,wi)):=by
 obtain ⟨ap,g1,g2⟩:=F.pR
 obtain ⟨ab,g3,g4⟩:=F.bP
 obtain ⟨aw,g6,g7⟩:=F.bW
 obtain ⟨tk,g5⟩:=F.mR
 refine ⟨by show ¬ ("rank" : Str) = "step"; decide +kernel,⟨ap,["new","pipes","wind"],g1,g2,rfl,by decide,fun j x y hx hy=>?_⟩,.inr ⟨12,tk,g5,?_⟩,fun z=>absurd z (by show ¬ ("rank" : Str) = "line"; decide +kernel),hb⟩
 ·match j,hx,hy with
  | 0,hx,hy =>
   cases (Option.some.inj hx)
   cases (Option.some.inj hy)
   exact Ik F.f e ht h
  | 1,hx,hy =>
   cases (Option.some.inj hx)
   cases (Option.some.inj hy)
   exact .inl ⟨((n:Nat):Int),1,97,ab,rfl,g3,g4,by omega,by omega⟩
  | 2,hx,hy =>
   cases (Option.some.inj hx)
   cases (Option.some.inj hy)
   exact .inl ⟨_,0,1000000000,aw,rfl,g6,g7,h3,h4⟩
  | j+3,hx,hy=>simp at hy
 ·rw [Hs,e]
  show ((Uk wn "rank" : Nat):Int)<12
  omega
theorem Qy (F:QL K aB aP aM) (e:HQ ρ vs=wn) (ht:isNm t) (h:QX wn "rank" t=true) {sh lo hi:Int} (b1 : -200<=sh) (b2:sh<=200) (b3:0<=lo) (b4:lo<=60) (b5:0<=hi) (b6:hi<=60) (hb:Fl ρ vs) (hl:PQ ρ vs ⟨"line",t,[.int sh,.int lo,.int hi]⟩):G7 K aB aP aM ρ vs ⟨"line",t,[.int sh,.int lo,.int hi]⟩:=by
 obtain ⟨ap,g1,g2⟩:=F.pL
 obtain ⟨a1,g3,g4⟩:=F.bS
 obtain ⟨a2,g5,g6⟩:=F.bLo
 obtain ⟨a3,g7,g8⟩:=F.bHi
 refine ⟨by show ¬ ("line" : Str) = "step"; decide +kernel,⟨ap,["rank","shift","low","high"],g1,g2,rfl,by decide,fun j x y hx hy=>?_⟩,.inl ⟨rfl,F.mL⟩,fun _=>hl,hb⟩
 match j,hx,hy with
 | 0,hx,hy =>
  cases (Option.some.inj hx)
  cases (Option.some.inj hy)
  exact .inr (.inr ⟨F.bR,by decide +kernel,_,rfl,ht,by rw [JQ,e]; exact h⟩)
 | 1,hx,hy =>
  cases (Option.some.inj hx)
  cases (Option.some.inj hy)
  exact .inl ⟨_,-200,200,a1,rfl,g3,g4,b1,b2⟩
 | 2,hx,hy =>
  cases (Option.some.inj hx)
  cases (Option.some.inj hy)
  exact .inl ⟨_,0,60,a2,rfl,g5,g6,b3,b4⟩
 | 3,hx,hy =>
  cases (Option.some.inj hx)
  cases (Option.some.inj hy)
  exact .inl ⟨_,0,60,a3,rfl,g7,g8,b5,b6⟩
 | j+4,hx,hy=>simp at hy
end
structure Hw (K:PySem.W.Frag) (aB aP aM:Addr) (ρ:V->R) (us:List V) (bs:List (Str × Nat)) (rk:List (Str × Nat × Int)) (ks:List R):Prop where
 kinds:∀ v∈us,(ρ v).w = "board" \/ (ρ v).w = "rank" \/ (ρ v).w = "line" \/ (ρ v).w = "stop" \/ (ρ v).w = "coupler" \/ (ρ v).w = "mute"
 eb:(us.filter (pw ρ "board")).map ρ=bs.map GD
 er:(us.filter (pw ρ "rank")).map ρ=rk.map Ie
 ek:(us.filter (fun v=>JP (ρ v).w)).map ρ=ks
 ln:∀ (i:Nat) v,us[i]? = some v->(ρ v).w = "line"->(∃ (j:Nat) (r:Str × Nat × Int) (sh lo hi:Int),rk[j]? = some r/\r.1=(ρ v).nm/\(ρ v).rest=[.int sh,.int lo,.int hi])/\∃ u∈us.take i,JP (ρ u).w=true
 ok:∀ (i:Nat) v,us[i]? = some v->G7 K aB aP aM ρ (us.take i) (ρ v)
section
variable {aB aP aM:Addr} {ρ:V->R} {us:List V} {v:V} {bs bs':List (Str × Nat)} {rk rk':List (Str × Nat × Int)} {ks ks':List R}
theorem Lp {w t:Str}:Wt ρ us w t=true ↔ ∃ v∈us,(ρ v).w=w/\(ρ v).nm=t:=by
 unfold Wt
 rw [List.any_eq_true]
 constructor
 ·rintro ⟨v,hv,hn⟩
  obtain ⟨h1,h2⟩:=List.mem_filter.mp hv
  exact ⟨v,h1,V.str.inj (of_decide_eq_true h2),V.str.inj (of_decide_eq_true hn)⟩
 ·rintro ⟨v,hv,h1,h2⟩
  exact ⟨v,List.mem_filter.mpr ⟨hv,decide_eq_true (congrArg V.str h1)⟩,decide_eq_true (congrArg V.str h2)⟩
theorem Hw.nil:Hw K aB aP aM ρ [] [] [] []:=⟨(fun _ h=>nomatch h),rfl,rfl,rfl,(fun i v h=>by simp at h),(fun i v h=>by simp at h)⟩
theorem Hw.W_ (h:Hw K aB aP aM ρ us bs rk ks) (hv:v∈us) (hw:(ρ v).w = "board"):∃ b∈bs,GD b=ρ v:=by
 have:ρ v∈(us.filter (pw ρ "board")).map ρ:=List.mem_map_of_mem (List.mem_filter.mpr ⟨hv,decide_eq_true (congrArg V.str hw)⟩)
 rw [h.eb] at this
 exact List.mem_map.mp this
theorem Hw.ZM (h:Hw K aB aP aM ρ us bs rk ks) (hv:v∈us) (hw:(ρ v).w = "rank"):∃ b∈rk,Ie b=ρ v:=by
 have:ρ v∈(us.filter (pw ρ "rank")).map ρ:=List.mem_map_of_mem (List.mem_filter.mpr ⟨hv,decide_eq_true (congrArg V.str hw)⟩)
 rw [h.er] at this
 exact List.mem_map.mp this
theorem Hw.SM (h:Hw K aB aP aM ρ us bs rk ks) (hv:v∈us) (hw:JP (ρ v).w=true):ρ v∈ks:=by
 have:ρ v∈(us.filter (fun v=>JP (ρ v).w)).map ρ:=List.mem_map_of_mem (List.mem_filter.mpr ⟨hv,hw⟩)
 rw [h.ek] at this
 exact this
theorem Hw.Ys (h:Hw K aB aP aM ρ us bs rk ks):Fl ρ us:=fun v hv hw=>by
 obtain ⟨b,_,e⟩:=h.W_ hv hw
 exact ⟨_,by rw [← e]⟩
theorem Hw.Wn (h:Hw K aB aP aM ρ us bs rk ks) {b:Str × Nat} (hb:b∈bs):∃ v∈us,ρ v=GD b:=by
 have:GD b∈(us.filter (pw ρ "board")).map ρ:=by rw [h.eb]; exact List.mem_map_of_mem hb
 obtain ⟨v,hv,e⟩:=List.mem_map.mp this
 exact ⟨v,(List.mem_filter.mp hv).1,e⟩
theorem Hw.cT (h:Hw K aB aP aM ρ us bs rk ks) {r:Str × Nat × Int} (hr:r∈rk):∃ v∈us,ρ v=Ie r:=by
 have:Ie r∈(us.filter (pw ρ "rank")).map ρ:=by rw [h.er]; exact List.mem_map_of_mem hr
 obtain ⟨v,hv,e⟩:=List.mem_map.mp this
 exact ⟨v,(List.mem_filter.mp hv).1,e⟩
theorem Hw.Oa (h:Hw K aB aP aM ρ us bs rk ks) {b:Str × Nat} (hb:b∈bs):QX (HQ ρ us) "board" b.1=true:=by
 obtain ⟨v,hv,e⟩:=h.Wn hb
 rw [← JQ,Lp]
 exact ⟨v,hv,by rw [e],by rw [e]⟩
theorem Hw.Xk (h:Hw K aB aP aM ρ us bs rk ks) {r:Str × Nat × Int} (hr:r∈rk):QX (HQ ρ us) "rank" r.1=true:=by
 obtain ⟨v,hv,e⟩:=h.cT hr
 rw [← JQ,Lp]
 exact ⟨v,hv,by rw [e],by rw [e]⟩
theorem Jz {w:Str} (h:w = "stop" \/ w = "coupler" \/ w = "mute"):JP w=true:=by rcases h with rfl | rfl | rfl <;> decide +kernel
theorem Hw.fresh (h:Hw K aB aP aM ρ us bs rk ks) {t:Str} (hb:∀ b∈bs,b.1 ≠ t) (hr:∀ r∈rk,r.1 ≠ t) (hk:∀ k∈ks,k.nm ≠ t):∀ w∈named,QX (HQ ρ us) w t=false:=by
 intro w hw
 rw [← JQ,← Bool.not_eq_true,Lp]
 rintro ⟨v,hv,hw',hn⟩
 simp only [List.mem_cons,List.mem_singleton,List.not_mem_nil,or_false] at hw
 rcases hw with rfl | rfl | rfl | rfl | rfl
 ·obtain ⟨b,hb',e⟩:=h.W_ hv hw'
  exact hb b hb' (by rw [← hn,← e])
 ·obtain ⟨b,hb',e⟩:=h.ZM hv hw'
  exact hr b hb' (by rw [← hn,← e])
 ·exact hk _ (h.SM hv (Jz (.inl hw'))) hn
 ·exact hk _ (h.SM hv (Jz (.inr (.inl hw')))) hn
 ·exact hk _ (h.SM hv (Jz (.inr (.inr hw')))) hn
theorem Hw.aL (h:Hw K aB aP aM ρ us bs rk ks):Uk (HQ ρ us) "board" = bs.length:=by
 rw [← Hs,← List.length_map (f:=ρ),h.eb,List.length_map]
theorem Hw.dC (h:Hw K aB aP aM ρ us bs rk ks):Uk (HQ ρ us) "rank" = rk.length:=by
 rw [← Hs,← List.length_map (f:=ρ),h.er,List.length_map]
theorem Hw.Wc (h:Hw K aB aP aM ρ us bs rk ks) {w:Str} (hw:w = "stop" \/ w = "coupler" \/ w = "mute"):Uk (HQ ρ us) w=(ks.filter fun r=>decide (V.str r.w=V.str w)).length:=by
 rw [← Hs,← h.ek,List.filter_map,List.length_map,List.filter_filter]
 refine congrArg List.length (List.filter_congr fun v _=>?_)
 show pw ρ w v=(pw ρ w v && JP (ρ v).w)
 by_cases e:(ρ v).w=w
 ·rw [Jz (by rw [e]; exact hw),Bool.and_true]
 ·have:pw ρ w v=false:=decide_eq_false fun z=>e (V.str.inj z)
  rw [this,Bool.false_and]
theorem Hw.snoc (h:Hw K aB aP aM ρ us bs rk ks) (hk:(ρ v).w = "board" \/ (ρ v).w = "rank" \/ (ρ v).w = "line" \/ (ρ v).w = "stop" \/ (ρ v).w = "coupler" \/ (ρ v).w = "mute")
  (eb:((us++[v]).filter (pw ρ "board")).map ρ=bs'.map GD) (er:((us++[v]).filter (pw ρ "rank")).map ρ=rk'.map Ie) (ek:((us++[v]).filter (fun v=>JP (ρ v).w)).map ρ=ks')
  (hr:∀ (j:Nat) r,rk[j]? = some r->rk'[j]? = some r)
  (hl:(ρ v).w = "line"->(∃ (j:Nat) (r:Str × Nat × Int) (sh lo hi:Int),rk'[j]? = some r/\r.1=(ρ v).nm/\(ρ v).rest=[.int sh,.int lo,.int hi])/\∃ u∈us,JP (ρ u).w=true)
  (ok:G7 K aB aP aM ρ us (ρ v)):Hw K aB aP aM ρ (us++[v]) bs' rk' ks':=by
 have at_:∀ {i:Nat} {u:V},(us++[v])[i]? = some u->us[i]? = some u/\(us++[v]).take i=us.take i \/ u=v/\(us++[v]).take i=us:=fun {i u} hi=>by
  by_cases hlt:i<us.length
  ·rw [List.getElem?_append_left hlt] at hi
   exact .inl ⟨hi,List.take_append_of_le_length (Nat.le_of_lt hlt)⟩
  ·have h2:=(List.getElem?_eq_some_iff.mp hi).1
   rw [List.length_append,List.length_singleton] at h2
   have hil:i=us.length:=by omega
   subst hil
   rw [List.getElem?_append_right (Nat.le_refl _),Nat.sub_self] at hi
   exact .inr ⟨(Option.some.inj hi).symm,by rw [List.take_append_of_le_length (Nat.le_refl _),List.take_length]⟩
 refine ⟨fun u hu=>?_,eb,er,ek,fun i u hi hw=>?_,fun i u hi=>?_⟩
 ·rcases List.mem_append.mp hu with h' | h'
  ·exact h.kinds u h'
  ·rw [List.mem_singleton.mp h']
   exact hk
 ·rcases at_ hi with ⟨h1,h2⟩ | ⟨rfl,h2⟩
  ·rw [h2]
   obtain ⟨⟨j,r,sh,lo,hi',g1,g2,g3⟩,g4⟩:=h.ln i u h1 hw
   exact ⟨⟨j,r,sh,lo,hi',hr j r g1,g2,g3⟩,g4⟩
  ·rw [h2]
   exact hl hw
 ·rcases at_ hi with ⟨h1,h2⟩ | ⟨rfl,h2⟩
  ·rw [h2]
   exact h.ok i u h1
  ·rw [h2]
   exact ok
theorem Jt {p:V->Bool} (h:p v=true):(us++[v]).filter p=us.filter p++[v]:=by
 rw [List.filter_append,List.filter_cons,if_pos h]
 rfl
theorem Fb {p:V->Bool} (h:p v=false):(us++[v]).filter p=us.filter p:=by
 rw [List.filter_append,List.filter_cons,if_neg (by rw [h]; decide)]
 simp
end
structure Hl (K:PySem.W.Frag) (aB aP aM:Addr) (rows:List R) (bs:List (Str × Nat)) (rk:List (Str × Nat × Int)) (ks:List R) (ls:List (List Ln)):Prop where
 ok:∀ (ρ:V->R) (us:List V),us.map ρ=rows->Hw K aB aP aM ρ us bs rk ks
 ln0:ks=[]->∀ rk',linesOf rk' rows=[]
 ln:linesOf rk rows=ls
section
variable {aB aP aM:Addr} {rows:List R} {bs:List (Str × Nat)} {rk:List (Str × Nat × Int)} {ks:List R} {ls:List (List Ln)}
theorem Hl.nil:Hl K aB aP aM [] [] [] [] []:=⟨fun ρ us e=>by rw [List.map_eq_nil_iff.mp e]; exact Hw.nil,fun _ _=>rfl,rfl⟩
theorem Jk {ρ:V->R} {us:List V} {r:R} (e:us.map ρ=rows++[r]):∃ us' v,us=us'++[v]/\us'.map ρ=rows/\ρ v=r:=by
 obtain ⟨a,b,rfl,h1,h2⟩:=List.map_eq_append_iff.mp e
 obtain ⟨v,l,rfl,h3,h4⟩:=List.map_eq_cons_iff.mp h2
 rw [List.map_eq_nil_iff.mp h4]
 exact ⟨a,v,rfl,h1,h3⟩
theorem Hl.ZF (F:QL K aB aP aM) (h:Hl K aB aP aM rows bs [] [] []) {t:Str} {n:Nat} (ht:isNm t) (hf:∀ b∈bs,b.1 ≠ t) (hb:bs.length<5) (h1:1<=n) (h2:n<=61):Hl K aB aP aM (rows++[GD (t,n)]) (bs++[(t,n)]) [] [] []:=by
 refine ⟨fun ρ us e=>?_,fun _ rk'=>?_,?_⟩
 ·obtain ⟨us',v,rfl,e',hv⟩:=Jk e
  have O:=h.ok ρ us' e'
  refine O.snoc (.inl (by rw [hv])) ?_ ?_ ?_ (fun _ _ h=>h) (fun z=>absurd (hv ▸ z) (by show ¬ ("board" : Str) = "line"; decide +kernel)) ?_
  ·rw [Jt (by unfold pw; rw [hv]; exact decide_eq_true rfl),List.map_append,O.eb,List.map_append,List.map_singleton,hv]
   rfl
  ·rw [Fb (by unfold pw; rw [hv]; show decide (V.str "board" = V.str "rank")=false; decide +kernel),O.er]
  ·rw [Fb (by rw [hv]; show JP "board" = false; decide +kernel),O.ek]
  ·rw [hv]
   exact Pz (RP F.f rfl ht (O.fresh hf (fun _ z=>nomatch z) (fun _ z=>nomatch z)) (by rw [O.aL]; exact hb) h1 h2) O.Ys
 ·rw [CZ,h.ln0 rfl rk']
  rfl
 ·rw [CZ,h.ln0 rfl []]
  rfl
theorem Hl.rank (F:QL K aB aP aM) (h:Hl K aB aP aM rows bs rk [] []) {t:Str} {n:Nat} {wi:Int} (ht:isNm t) (hf:∀ b∈bs,b.1 ≠ t) (hr:∀ r∈rk,r.1 ≠ t) (hc:rk.length<12) (h1:1<=n) (h2:n<=97) (h3:0<=wi) (h4:wi<=1000000000):Hl K aB aP aM (rows++[Ie (t,n,wi)]) bs (rk++[(t,n,wi)]) [] []:=by
 refine ⟨fun ρ us e=>?_,fun _ rk'=>?_,?_⟩
 ·obtain ⟨us',v,rfl,e',hv⟩:=Jk e
  have O:=h.ok ρ us' e'
  refine O.snoc (.inr (.inl (by rw [hv]))) ?_ ?_ ?_ (fun j r h=>by rw [List.getElem?_append_left (List.getElem?_eq_some_iff.mp h).1]; exact h) (fun z=>absurd (hv ▸ z) (by show ¬ ("rank" : Str) = "line"; decide +kernel)) ?_
  ·rw [Fb (by unfold pw; rw [hv]; show decide (V.str "rank" = V.str "board")=false; decide +kernel),O.eb]
  ·rw [Jt (by unfold pw; rw [hv]; exact decide_eq_true rfl),List.map_append,O.er,List.map_append,List.map_singleton,hv]
   rfl
  ·rw [Fb (by rw [hv]; show JP "rank" = false; decide +kernel),O.ek]
  ·rw [hv]
   exact Q7 F rfl ht (O.fresh hf hr (fun _ z=>nomatch z)) (by rw [O.dC]; exact hc) h1 h2 h3 h4 O.Ys
 ·rw [CZ,h.ln0 rfl rk']
  rfl
 ·rw [CZ,h.ln0 rfl _]
  rfl
theorem Hl.Wy (h:Hl K aB aP aM rows bs rk ks ls) {r:R} (hw:r.w = "stop" \/ r.w = "coupler" \/ r.w = "mute") (hr:∀ (ρ:V->R) (us:List V),us.map ρ=rows->Ko K aB aP aM ρ us r):Hl K aB aP aM (rows++[r]) bs rk (ks++[r]) (ls++[[]]):=by
 have hK:=Jz hw
 refine ⟨fun ρ us e=>?_,fun z=>by simp at z,?_⟩
 ·obtain ⟨us',v,rfl,e',hv⟩:=Jk e
  have O:=h.ok ρ us' e'
  refine O.snoc (.inr (.inr (.inr (by rw [hv]; exact hw)))) ?_ ?_ ?_ (fun _ _ h=>h) (fun z=>?_) ?_
  ·rw [Fb (by unfold pw; rw [hv]; rcases hw with e | e | e <;> rw [e] <;> decide +kernel),O.eb]
  ·rw [Fb (by unfold pw; rw [hv]; rcases hw with e | e | e <;> rw [e] <;> decide +kernel),O.er]
  ·rw [Jt (by rw [hv]; exact hK),List.map_append,O.ek,List.map_singleton,hv]
  ·rw [hv] at z
   rcases hw with e | e | e <;> rw [e] at z <;> exact absurd z (by decide +kernel)
  ·rw [hv]
   exact Pz (hr ρ us' e') O.Ys
 ·rw [CZ,h.ln]
  unfold GR
  rw [if_pos hK]
theorem Hl.VP (F:QL K aB aP aM) (h:Hl K aB aP aM rows bs rk ks ls) {t a b:Str} {n m:Nat} {s:Int} (ht:isNm t) (hb:∀ b∈bs,b.1 ≠ t) (hr:∀ r∈rk,r.1 ≠ t) (hk:∀ k∈ks,k.nm ≠ t) (hc:(ks.filter fun r=>decide (V.str r.w=V.str "coupler")).length<12) (ha:isNm a) (ha':(a,n)∈bs) (hb1:isNm b) (hb':(b,m)∈bs) (h1 : -60<=s) (h2:s<=60) :
  Hl K aB aP aM (rows++[⟨"coupler",t,[.str a,.str b,.int s]⟩]) bs rk (ks++[⟨"coupler",t,[.str a,.str b,.int s]⟩]) (ls++[[]]) :=
 h.Wy (.inr (.inl rfl)) fun ρ us e=>by
  have O:=h.ok ρ us e
  exact Ni F.f rfl ht (O.fresh hb hr hk) (by rw [O.Wc (.inr (.inl rfl))]; exact hc) ha (O.Oa ha') hb1 (O.Oa hb') h1 h2
theorem Hl.plain (F:QL K aB aP aM) (h:Hl K aB aP aM rows bs rk ks ls) {wd t a:Str} {n:Nat} (hw:wd = "stop" \/ wd = "mute") (ht:isNm t) (hb:∀ b∈bs,b.1 ≠ t) (hr:∀ r∈rk,r.1 ≠ t) (hk:∀ k∈ks,k.nm ≠ t) (hc:(ks.filter fun r=>decide (V.str r.w=V.str wd)).length<Fx wd) (ha:isNm a) (ha':(a,n)∈bs) :
  Hl K aB aP aM (rows++[⟨wd,t,[.str a]⟩]) bs rk (ks++[⟨wd,t,[.str a]⟩]) (ls++[[]]):=by
 have hw3:wd = "stop" \/ wd = "coupler" \/ wd = "mute":=by rcases hw with e | e; exact .inl e; exact .inr (.inr e)
 exact h.Wy hw3 fun ρ us e=>by
  have O:=h.ok ρ us e
  exact Qd F.f hw rfl ht (O.fresh hb hr hk) (by rw [O.Wc hw3]; exact hc) ha (O.Oa ha')
noncomputable def Tl (rows:List R) (bd:Str) (cnt:Nat):Prop:=∃ (r0:List R) (st:R) (lr:List R),rows=r0++st::lr/\st.w = "stop" /\ st.rest=[.str bd]/\lr.length=cnt/\∀ r∈lr,r.w = "line"
theorem Tl.stop (rows:List R) (t bd:Str):Tl (rows++[⟨"stop",t,[.str bd]⟩]) bd 0:=⟨rows,_,[],rfl,rfl,rfl,rfl,fun _ h=>nomatch h⟩
theorem Tl.line {bd:Str} {cnt:Nat} {r:R} (h:Tl rows bd cnt) (hw:r.w = "line"):Tl (rows++[r]) bd (cnt+1):=by
 obtain ⟨r0,st,lr,rfl,h1,h2,h3,h4⟩:=h
 refine ⟨r0,st,lr++[r],by simp,h1,h2,by simp [h3],fun x hx=>?_⟩
 rcases List.mem_append.mp hx with g | g
 ·exact h4 x g
 ·rw [List.mem_singleton.mp g]
  exact hw
theorem Hl.line (F:QL K aB aP aM) {l0:List Ln} (h:Hl K aB aP aM rows bs rk ks (ls++[l0])) {bd:Str} {cnt:Nat} (T:Tl rows bd cnt) (hc:cnt<4) {j n m:Nat} {t:Str} {wi sh lo hi:Int} (hj:rk[j]? = some (t,m,wi)) (hnd:(rk.map (·.1)).Nodup) (ht:isNm t) (hbd:(bd,n)∈bs) (hle:lo<=hi) (hn:hi<(n:Int)) (b1 : -200<=sh) (b2:sh<=200) (b3:0<=lo) (b6:hi<=60) :
  Hl K aB aP aM (rows++[⟨"line",t,[.int sh,.int lo,.int hi]⟩]) bs rk ks (ls++[l0++[⟨j,sh,lo,hi⟩]]):=by
 obtain ⟨r0,st,lr,er,g1,g2,g3,g4⟩:=T
 have nK:JP "line" = false:=by decide +kernel
 refine ⟨fun ρ us e=>?_,fun z=>?_,?_⟩
 ·obtain ⟨us',v,rfl,e',hv⟩:=Jk e
  have O:=h.ok ρ us' e'
  obtain ⟨u0,u1,eu,m1,m2⟩:=List.map_eq_append_iff.mp (e'.trans er)
  obtain ⟨sv,lv,e1,m3,m4⟩:=List.map_eq_cons_iff.mp m2
  subst e1
  have hsv:sv∈us':=by rw [eu]; simp
  have hlv:lv.length=cnt:=by rw [← g3,← m4,List.length_map]
  have hus:us'.length=u0.length+(cnt+1):=by rw [eu,List.length_append,List.length_cons,hlv]
  refine O.snoc (.inr (.inr (.inl (by rw [hv])))) ?_ ?_ ?_ (fun _ _ h=>h) (fun _=>⟨⟨j,_,sh,lo,hi,hj,by rw [hv],by rw [hv]⟩,sv,hsv,by rw [m3,g1]; decide +kernel⟩) ?_
  ·rw [Fb (by unfold pw; rw [hv]; show decide (V.str "line" = V.str "board")=false; decide +kernel),O.eb]
  ·rw [Fb (by unfold pw; rw [hv]; show decide (V.str "line" = V.str "rank")=false; decide +kernel),O.er]
  ·rw [Fb (by rw [hv]; exact nK),O.ek]
  ·rw [hv]
   have hst:us'[us'.length - 1 - cnt]? = some sv:=by
    have:us'.length - 1 - cnt=u0.length:=by omega
    rw [this,eu,List.getElem?_append_right (Nat.le_refl _),Nat.sub_self]
    rfl
   refine Qy F rfl ht (O.Xk (List.mem_of_getElem? hj)) b1 b2 b3 (by omega) (by omega) b6 O.Ys ⟨cnt,sv,sh,lo,hi,bd,[],rfl,⟨fun i hi'=>?_,by omega,sv,hst,by rw [m3,g1]; decide +kernel⟩,hc,hst,by rw [m3,g1],by rw [m3,g2],hle,?_⟩
   ·have hi2:cnt - 1 - i<lv.length:=by omega
    refine ⟨lv[cnt - 1 - i],?_,?_⟩
    ·have:us'.length - 1 - i=u0.length+((cnt - 1 - i)+1):=by omega
     rw [this,eu,List.getElem?_append_right (Nat.le_add_right _ _),Nat.add_sub_cancel_left,List.getElem?_cons_succ]
     exact List.getElem?_eq_getElem hi2
    ·refine g4 _ ?_
     rw [← m4]
     exact List.mem_map_of_mem (List.getElem_mem hi2)
   ·obtain ⟨u,hu,hub⟩:=O.Wn hbd
    rw [List.any_eq_true]
    refine ⟨u,List.mem_filter.mpr ⟨hu,?_⟩,?_⟩
    ·unfold pw
     rw [hub]
     exact decide_eq_true rfl
    ·show (pn ρ bd u && decide (hi<YC (ρ u)))=true
     unfold pn
     rw [hub,Bool.and_eq_true]
     exact ⟨decide_eq_true rfl,decide_eq_true hn⟩
 ·subst z
  have:=h.ln0 rfl rk
  rw [h.ln] at this
  simp at this
 ·rw [CZ,h.ln]
  unfold GR
  rw [if_neg (by show ¬ JP "line" = true; rw [nK]; decide),if_pos rfl,Hh]
  have hjl:=(List.getElem?_eq_some_iff.mp hj).1
  have:(rk.map (·.1)).idxOf t=j:=by
   have hl:j<(rk.map (·.1)).length:=by rw [List.length_map]; exact hjl
   have e2:(rk.map (·.1))[j]=t:=by
    rw [List.getElem_map]
    have:=(List.getElem?_eq_some_iff.mp hj).2
    rw [this]
   rw [← e2]
   exact hnd.idxOf_getElem j hl
  show ls++[l0++[⟨(rk.map (·.1)).idxOf t,sh,lo,hi⟩]]=_
  rw [this]
theorem Hl.fin {H:Hp} {vs:List V} (h:Hl K aB aP aM rows bs rk ks ls) (hv:Paired (fun (r:R) v=>TupAt H r.v v) rows vs) (b0:1<=bs.length) (b5:bs.length<=5) (sz:∀ b∈bs,b.2<=61) (nr:rk.length<=12) (nz:∀ r∈rk,r.2.1<=97) (nk:ks.length<=100) (nb:(bs.map (·.1)).Nodup) (nrr:(rk.map (·.1)).Nodup) (nn:(ks.map (·.nm)).Nodup) (len:rows.length<=150) :
  Rows H (Up H) vs/\fG K aB aP aM (Up H) vs bs rk ks/\linesOf rk (vs.map (Up H))=ls:=by
 have em:=QS hv
 have O:=h.ok (Up H) vs em
 refine ⟨fun v hv'=>?_,⟨O.kinds,O.eb,O.er,O.ek,O.ln,b0,b5,sz,nr,nz,nk,nb,nrr,nn,by rw [← hv.length]; exact len,O.ok⟩,by rw [em]; exact h.ln⟩
 obtain ⟨r,_,hr⟩:=DQ hv hv'
 rw [Oe hr]
 exact hr
end
end Og
namespace Og
open PySem L2 PyProof.Rows
noncomputable def dq (c k:Int):Int:=((c % 1000003+7919 * k * k+k+1) * 48271 % 2147483629) * ((c % 1000003+7919 * k * k+k+1) * 48271 % 2147483629) % 2147483587
noncomputable def Bl (c k:Int):Int:=if (decide ((10:Int) ^ (18:Int).toNat<=c) && decide (0<c / 2 ^ (31 * k).toNat))=true then c / 2 ^ (31 * k).toNat % 2147483587 else dq c k
theorem V1 {a b:Str} (h:a.cps.toList=b.cps.toList):a=b:=by
 cases a; cases b; simp at h; simp [h]
theorem Xp:∀ n<26,letters.cps.toList[n]? = some (97+n):=by decide +kernel
theorem O5 {i:Int} (h0:0<=i) (h1:i<26):Nb letters.cps.toList i=some (97+i.toNat):=by
 have h:=Af (Xp i.toNat (by omega))
 have e:((i.toNat:Nat):Int)=i:=by omega
 rw [e] at h
 exact h
theorem Vu:(("" : Str)).cps = #[]:=by decide +kernel
theorem N_ (cs:List Nat):(Txt.join ("" : Str) (cs.map fun c=>(⟨#[c]⟩:Str))).cps.toList=cs:=by
 have key:∀ (l:List Nat) (acc:Array Nat),((l.map fun c=>(⟨#[c]⟩:Str)).foldl (fun acc p=>acc++("" : Str).cps++p.cps) acc).toList=acc.toList++l:=by
  intro l
  induction l with
  | nil=>intro acc; simp
  | cons c l ih =>
   intro acc
   rw [List.map_cons,List.foldl_cons,ih,Vu]
   simp
 unfold Txt.join Builtin.Str.glued
 cases cs with
 | nil=>decide +kernel
 | cons c l =>
  show (((((c::l).map fun c=>(⟨#[c]⟩:Str)).drop 1)).foldl (fun acc p=>acc++("" : Str).cps++p.cps) #[c]).toList=_
  rw [List.map_cons,List.drop_succ_cons,List.drop_zero,key]
  rfl
theorem O_ {z:Str} {n:Nat} (h:n<=z.length):(Txt.slice z none (some (n:Int))).cps.toList=z.cps.toList.take n:=by
 have hl:z.length=z.cps.toList.length:=by simp [Str.length]
 have e:=beq_iff_eq.mp (slice_closes_to (x:=z) (j:=(n:Int)) ⟨by omega,by omega⟩)
 rw [e,List.toList_toArray]
 simp
theorem PX {z:Str} {n:Nat} (h:n<=z.length):(Txt.slice z (some (n:Int)) none).cps.toList=z.cps.toList.drop n:=by
 have hl:z.length=z.cps.toList.length:=by simp [Str.length]
 rw [slice_from_eq (x:=z) (i:=(n:Int)) (b:=(z.length:Int)) (by omega) (by omega) rfl,List.toList_toArray,Int.toNat_natCast]
 refine List.take_of_length_le ?_
 rw [List.length_drop]
 omega
noncomputable def Od (c:Int):Nat:=(2+c % 7).toNat
theorem UV (c:Int):2<=Od c/\Od c<=8:=by unfold Od; omega
noncomputable def Gb (c:Int):List Nat:=(List.range (Od c)).map fun (j:Nat)=>97+(Bl (c / 7) (j:Nat) % 26).toNat
theorem Gd (c:Int):(Gb c).length=Od c:=by simp [Gb]
theorem Py {c:Int} {x:Nat} (h:x∈Gb c):97<=x/\x<=122:=by
 obtain ⟨j,_,rfl⟩:=List.mem_map.mp h
 have h1:0<=Bl (c / 7) (j:Nat) % 26:=Int.emod_nonneg _ (by decide)
 have h2:Bl (c / 7) (j:Nat) % 26<26:=Int.emod_lt_of_pos _ (by decide)
 omega
noncomputable def Nt (c:Int):Nat:=(c / 49 % (2+c % 7 - 1)).toNat
theorem Sw (c:Int):Nt c+2<=Od c:=by
 unfold Nt Od
 have h1:0<=c / 49 % (2+c % 7 - 1):=Int.emod_nonneg _ (by omega)
 have h2:c / 49 % (2+c % 7 - 1)<2+c % 7 - 1:=Int.emod_lt_of_pos _ (by omega)
 omega
noncomputable def JB (c:Int) (k:Nat):List Nat:=(Gb c).take (Nt c)++[97+k / 26,97+k % 26]++(Gb c).drop (Nt c+2)
noncomputable def DN (c:Int) (k:Nat):Str:=⟨(JB c k).toArray⟩
theorem Xl (c:Int) (k:Nat):(JB c k).length=Od c:=by
 have:=Sw c
 have:=Gd c
 simp [JB]
 omega
theorem Zq (c:Int) {k:Nat} (h:k<676):isNm (DN c k):=by
 have:=UV c
 have e:(DN c k).length=Od c:=by simp [DN,Str.length,Xl]
 refine ⟨by omega,by omega,fun x hx=>?_⟩
 have hx':x∈JB c k:=by simpa [DN] using hx
 unfold JB at hx'
 rcases List.mem_append.mp hx' with hx' | hx'
 ·rcases List.mem_append.mp hx' with hx' | hx'
  ·exact Py (List.mem_of_mem_take hx')
  ·have:k / 26<26:=by omega
   have:k % 26<26:=Nat.mod_lt _ (by decide)
   rcases List.mem_cons.mp hx' with rfl | hx'
   ·omega
   ·rw [List.mem_singleton.mp hx']
    omega
 ·exact Py (List.mem_of_mem_drop hx')
theorem Jp {c:Int} {k l:Nat} (h:DN c k=DN c l):k=l:=by
 have h1:JB c k=JB c l:=by
  have:=congrArg (fun s:Str=>s.cps.toList) h
  simpa [DN] using this
 unfold JB at h1
 rw [List.append_assoc,List.append_assoc] at h1
 have h2:=List.append_cancel_left h1
 have e1:97+k / 26=97+l / 26:=by
  have:=congrArg (fun t=>t.head?) h2
  simpa using this
 have e2:97+k % 26=97+l % 26:=by
  have:=congrArg (fun t=>t[1]?) h2
  simpa using this
 omega
end Og
namespace Og
open PySem L2 PyProof.Rows
theorem Rv {w:Str} (h:w = "stop" \/ w = "coupler" \/ w = "mute"):Ds (GP [] [(Sum.inr "coupler",V.int 12),(Sum.inr "mute",.int 5),(Sum.inr "stop",.int 24)]) (Sum.inr w:Key)=some (.int (Fx w:Nat)):=by
 rcases h with rfl | rfl | rfl <;> decide +kernel
theorem L_.snoc {n:Nat} {kbs:List Kb} {k:Kb} (h:∀ z∈kbs,z.ok n) (hr:∀ (i:Nat) z,kbs[i]? = some z->((kbs.take i).filter (HR z.w)).length<Fx z.w) (ho:k.ok n) (hk:(kbs.filter (HR k.w)).length<Fx k.w) :
  (∀ z∈kbs++[k],z.ok n)/\∀ (i:Nat) z,(kbs++[k])[i]? = some z->(((kbs++[k]).take i).filter (HR z.w)).length<Fx z.w:=by
 refine ⟨fun z hz=>?_,fun i z hz=>?_⟩
 ·rcases List.mem_append.mp hz with q | q
  ·exact h z q
  ·rw [List.mem_singleton.mp q]
   exact ho
 ·by_cases hi:i<kbs.length
  ·rw [List.getElem?_append_left hi] at hz
   rw [List.take_append_of_le_length (by omega)]
   exact hr i z hz
  ·have:i=kbs.length:=by
    have:=(List.getElem?_eq_some_iff.mp hz).1
    rw [List.length_append,List.length_singleton] at this
    omega
   subst this
   rw [List.getElem?_append_right (Nat.le_refl _)] at hz
   simp at hz
   subst hz
   rw [List.take_append_of_le_length (Nat.le_refl _),List.take_length]
   exact hk
structure Yx (s:Nat) (pz:List Nat) (l:Ln):Prop where
 r:l.r<pz.length
 lo:0<=l.lo
 le:l.lo<=l.hi
 hi:l.hi<(s:Int)
 s1 : -200<=l.sh
 s2:l.sh<=200
noncomputable abbrev Kl:=Kb × List Ln
noncomputable def Kb.bd:Kb->Nat
 | .cp i _ _=>i
 | .pl _ i=>i
noncomputable def Kb.bG {n:Nat} {k:Kb} (h:k.ok n):k.bd<n:=by
 cases k with
 | cp i j s=>exact h.1
 | pl w i=>exact h.1
noncomputable def FN (Dx:Addr) (H:Hp) (z:Kl) (y:V):Prop:=∃ ex,TupAt H (z.1.v++ex) y/\((ex=[]/\z.2=[]/\¬ z.1.w = "stop") \/ (z.1.w = "stop" /\ ∃ A ts,ex=[.ref A]/\¬ A=Dx/\H A=some (.lst ts)/\Paired (fun x y=>TupAt H (Qk x) y) z.2 ts))
theorem FN.mono {Dx:Addr} {H H':Hp} {z:Kl} {y:V} (s:An H H') (h:FN Dx H z y):FN Dx H' z y:=by
 obtain ⟨ex,h1,h2⟩:=h
 refine ⟨ex,h1.mono s,?_⟩
 rcases h2 with h2 | ⟨h3,A,ts,e,hn,ha,hp⟩
 ·exact .inl h2
 ·exact .inr ⟨h3,A,ts,e,hn,s _ _ ha,Al s hp⟩
theorem FN.upd {Dx:Addr} {H:Hp} {z:Kl} {y:V} {ys ws:List V} (h:FN Dx H z y) (hD:H Dx=some (.lst ys)):FN Dx (upd H Dx (.lst ws)) z y:=by
 obtain ⟨ex,h1,h2⟩:=h
 refine ⟨ex,h1.upd hD,?_⟩
 rcases h2 with h2 | ⟨h3,A,ts,e,hn,ha,hp⟩
 ·exact .inl h2
 ·exact .inr ⟨h3,A,ts,e,hn,by rw [BW hn]; exact ha,B_ hp hD⟩
theorem FN.w0 {Dx:Addr} {H:Hp} {z:Kl} {y:V} (h:FN Dx H z y):∃ T r,y=.ref T/\H T=some (.tup (.str z.1.w::r)):=by
 obtain ⟨ex,⟨T,e,ht⟩,_⟩:=h
 obtain ⟨r,e2⟩:=z.1.v0
 rw [e2] at ht
 exact ⟨T,_,e,ht⟩
theorem UJ {Dx:Addr} {H:Hp} {kls:List Kl} {us:List V} (w:Str) (h:Paired (fun z y=>FN Dx H z y) kls us):(us.filter fun v=>decide (J6 H 0 v=V.str w)).length=((kls.map (·.1)).filter (HR w)).length:=by
 induction h with
 | nil=>rfl
 | @cons a b l m x y ih =>
  have e:J6 H 0 b=V.str a.1.w:=by
   obtain ⟨ex,h1,_⟩:=x
   rw [Gr h1 0]
   obtain ⟨r,e⟩:=a.1.v0
   rw [e]
   rfl
  rw [List.map_cons,List.filter_cons,List.filter_cons]
  have e2:decide (J6 H 0 b=V.str w)=HR w a.1:=by rw [e]
  rw [e2]
  cases HR w a.1 <;> simp [ih]
structure QZ (sz pz:List Nat) (kls:List Kl):Prop where
 ok:∀ k∈kls.map (·.1),k.ok sz.length
 room:∀ (i:Nat) k,(kls.map (·.1))[i]? = some k->(((kls.map (·.1)).take i).filter (HR k.w)).length<Fx k.w
 ln:∀ z∈kls,z.2.length<=4/\(∀ x∈z.2,Yx (sz.getD z.1.bd 0) pz x)/\(¬ z.1.w = "stop"->z.2=[])
theorem QZ.nil {sz pz:List Nat}:QZ sz pz []:=⟨(fun _ h=>nomatch h),(fun i k h=>by simp at h),(fun _ h=>nomatch h)⟩
theorem QZ.snoc {sz pz:List Nat} {kls:List Kl} {z:Kl} (h:QZ sz pz kls) (ho:z.1.ok sz.length) (hk:((kls.map (·.1)).filter (HR z.1.w)).length<Fx z.1.w) (hl:z.2.length<=4/\(∀ x∈z.2,Yx (sz.getD z.1.bd 0) pz x)/\(¬ z.1.w = "stop"->z.2=[])):QZ sz pz (kls++[z]):=by
 obtain ⟨a,b⟩:=L_.snoc h.ok h.room ho hk
 refine ⟨by rw [List.map_append]; exact a,by rw [List.map_append]; exact b,fun x hx=>?_⟩
 rcases List.mem_append.mp hx with g | g
 ·exact h.ln x g
 ·rw [List.mem_singleton.mp g]
  exact hl
end Og
namespace L2
open PySem PySem.Spec PyProof.Rows
end L2
namespace L2
open PySem PySem.Spec PyProof.Rows
section
variable {X:Cx} {pins:List (Addr × Obj)} {σ:St} {H:Hp} {s:Shared} {x z:Str} {scope:Scope} {fp:List Addr} {C:Addr}
end
section
variable {X:Cx} {x z:Str} {scope:Scope}
end
section
variable {X:Cx} {x z:Str} {scope:Scope}
end
end L2
namespace L2
open PySem PySem.Spec PyProof.Rows
section
variable {X:Cx}
noncomputable def lN (K:PySem.W.Frag) (n:Nat) (t:Ve):TG:=fun v σ H Q=>∃ a xs,v=.ref a/\CK K H a xs/\xs.length=n/\t xs σ H Q
theorem Ri {es:List Expr} {k} {pos:Pos} {t:Ve} {n:Nat} (hc:X.calm=true) (h:Z4 X es t)
  (hn:(assignEach es X.env).length=n:=by rfl) (hst:(assignEach es X.env).findIdx? (·.1)=none:=by rfl):PG X (.Tuple es k pos) (lN X.K n t):=by
 intro pins s σ H v u Q I r hw
 obtain ⟨a,xs,e1,hq,hl,hw⟩:=hw
 subst e1
 cases r
 obtain ⟨its,rv,p,hz⟩:=I.list hq
 rw [assign_Tuple]
 refine wpAny_bind (wpAny_standAt ?_)
 unfold unpack
 have hlen:(assignEach es X.env).length=its.toArray.size:=by simp [hn,← hl,rv.length]
 rw [hlen,hst]
 refine wpAny_bind (wpAny_holding (PySem.W.kun_itemsOf (I.ok.hd hc) p.isList fun h' hx=>?_))
 have I1:Inv X pins σ H { s with heap:=h' }:=I.kept (t':=s.toks) fun b o e=>hx b o (Nat.ne_of_lt (Heap.lt_size e)) e
 exact h pins _ σ H xs _ Q I1 (by simpa using rv) hw
end
end L2
section PartK24a
set_option maxHeartbeats 4000000
namespace K24
open PySem L2 Og
noncomputable def top (i:Nat):Stmt:=PySem.Challenge.pw_windchest_k24_whole_sound_is_shown.main.body.getD i (.Pass ⟨0,0,0,0⟩)
noncomputable abbrev jm:Stmt:=top 8
noncomputable abbrev fu:Stmt:=top 9
noncomputable abbrev jW:Stmt:=top 10
noncomputable abbrev eV:Stmt:=top 46
noncomputable abbrev fX:Stmt:=top 47
noncomputable abbrev kh:Stmt:=top 48
noncomputable abbrev d8:Stmt:=top 49
noncomputable abbrev e_:Stmt:=top 50
noncomputable abbrev lO:Stmt:=top 51
noncomputable abbrev fY:Stmt:=top 52
noncomputable abbrev lK:Stmt:=top 53
noncomputable abbrev iJ:Stmt:=top 55
noncomputable abbrev lA:Stmt:=top 56
noncomputable abbrev gF:Stmt:=top 57
noncomputable abbrev iK:Stmt:=top 58
noncomputable abbrev jJ:Stmt:=top 61
noncomputable abbrev fD:Stmt:=top 62
noncomputable abbrev d_:Stmt:=top 63
noncomputable abbrev jw:Stmt:=top 64
noncomputable abbrev lE:Stmt:=top 13
noncomputable abbrev fj:Stmt:=top 14
noncomputable abbrev gY:Stmt:=top 15
noncomputable abbrev fJ:Stmt:=top 16
noncomputable abbrev jR:Stmt:=top 17
noncomputable abbrev gq:Stmt:=top 18
noncomputable abbrev iI:Stmt:=top 20
noncomputable abbrev Yz:Stmt:=top 21
noncomputable abbrev jA:Stmt:=top 22
noncomputable abbrev gw:Stmt:=top 23
noncomputable abbrev jT:Stmt:=top 24
noncomputable abbrev iu:Stmt:=top 25
noncomputable abbrev Vy:Stmt:=top 26
noncomputable abbrev eQ:Stmt:=top 28
noncomputable abbrev fK:Stmt:=top 29
noncomputable abbrev iR:Stmt:=top 30
noncomputable abbrev j4:Stmt:=top 31
noncomputable abbrev gD:Stmt:=top 32
noncomputable abbrev d9:Stmt:=top 33
noncomputable abbrev fV:Stmt:=top 34
noncomputable abbrev ie:Stmt:=top 35
noncomputable abbrev jq:Stmt:=top 36
noncomputable abbrev iw:Stmt:=top 37
noncomputable abbrev iB:Stmt:=top 38
noncomputable abbrev jM:Stmt:=top 68
noncomputable abbrev i_:Stmt:=top 69
noncomputable abbrev jK:Stmt:=top 70
noncomputable abbrev gO:Stmt:=top 71
noncomputable abbrev fM:Stmt:=top 72
noncomputable abbrev fO:Stmt:=top 73
noncomputable abbrev gh:Stmt:=top 74
noncomputable abbrev gA:Stmt:=top 75
noncomputable abbrev eF:Stmt:=top 76
noncomputable abbrev fU:Stmt:=top 77
noncomputable abbrev gB:Stmt:=top 78
noncomputable abbrev dz:Stmt:=top 81
noncomputable abbrev fQ:Stmt:=top 79
noncomputable abbrev eU:Stmt:=top 80
noncomputable abbrev jX:Stmt:=top 83
noncomputable abbrev iM:Stmt:=top 82
noncomputable abbrev jy:Stmt:=top 84
noncomputable abbrev fP:Stmt:=top 86
noncomputable abbrev ZG:Stmt:=top 85
noncomputable abbrev Ur:Stmt:=inClass (top 66) 0
noncomputable abbrev gU:Stmt:=inClass (top 66) 2
noncomputable abbrev gH:Stmt:=inClass (top 66) 5
noncomputable abbrev kE:Stmt:=inClass (top 66) 7
noncomputable abbrev ig:Stmt:=inClass (top 66) 8
noncomputable abbrev ir:Stmt:=inClass (top 66) 13
noncomputable abbrev lG:Stmt:=inClass (top 66) 15
noncomputable abbrev gJ:Stmt:=inClass (top 66) 3
noncomputable abbrev iD:Stmt:=inClass (top 66) 6
noncomputable abbrev je:Stmt:=inClass (top 66) 9
noncomputable abbrev il:Stmt:=inClass (top 66) 14
noncomputable abbrev jc:Stmt:=inClass (top 66) 16
noncomputable abbrev jl:Stmt:=inClass (top 66) 10
noncomputable abbrev eE:Stmt:=inClass (top 66) 4
noncomputable abbrev KZ:Stmt:=top 87
structure Txt (K:PySem.W.Frag) (P:Params) (mg:Str->Option Value) (C aN aK aB aP aM:Addr):Prop where
 len:mg "len" = none
 isin:mg "isinstance" = none
 int:mg "int" = none
 bool:mg "bool" = none
 str:mg "str" = none
 list:mg "list" = none
 tuple:mg "tuple" = none
 all:mg "all" = none
 any:mg "any" = none
 sum:mg "sum" = none
 range:mg "range" = none
 zip:mg "zip" = none
 enumerate:mg "enumerate" = none
 max:mg "max" = none
 reversed:mg "reversed" = none
 set:mg "set" = none
 min:mg "min" = none
 letters:∃ t,mg "LETTERS" = some (.str letters t)
 mostL:∃ t,mg "MOST_LETTERS" = some (.int 8 t)
 mostR:∃ t,mg "MOST_ROWS" = some (.int 150 t)
 mostLn:∃ t,mg "MOST_LINES" = some (.int 4 t)
 below:∃ t,mg "MEMBERS_BELOW" = some (.int 1200 t)
 mN:mg "NAMED" = some (.ref aN)
 mK:mg "KNOBS" = some (.ref aK)
 mB:mg "BOUNDS" = some (.ref aB)
 mP:mg "PARTS" = some (.ref aP)
 mM:mg "MOST_OF" = some (.ref aM)
 tN:KTup K aN (named.map V.str)
 tK:KTup K aK [.str "stop",.str "coupler",.str "mute"]
 dB:KDict K P aB
 dP:KDict K P aP
 dM:KDict K P aM
 cl:Su K C
 mC:mg "Organ" = some (.ref C)
 n_row_list:Dj K C "row_list"
 n_board_list:Dj K C "board_list"
 n_rank_list:Dj K C "rank_list"
 n_knob_rows:Dj K C "knob_rows"
 n_board_numbers:Dj K C "board_numbers"
 n_rank_numbers:Dj K C "rank_numbers"
 n_knob_numbers:Dj K C "knob_numbers"
 n_key_places:Dj K C "key_places"
 n_pipe_places:Dj K C "pipe_places"
 n_knob_lines:Dj K C "knob_lines"
 n_step_sets:Dj K C "step_sets"
theorem byC {p:Prop} (h:¬¬p):p:=Classical.byContradiction h
set_option genInjectivity false in
set_option genSizeOf false in
set_option genSizeOfSpec false in
structure Ad where
 (fWh fMd fNm fRo fTo fWi fPa fHp fCl fIk fSb fWm fHr fIr fCk fNu fCa fPl fLi fMy fSt fHa fMe fSh fUn fLe fDc fHk fWa fCq fTb fTt fMu fUk fSk fNb fLl fBs fBa fSo fLt fKa fWs fCe fLw fMx fBi fNa fSz fLn fKn fKs fRw fSp fWd fDr fHd fGo fPi fLd fSw fCz fOi fOb fOc fOk fOo fBk fOp fOr fOq fOe fOs fOm fOx fOz:Addr)
 (dWh dMd dNm dRo dTo dWi dPa dHp dCl dIk dSb dWm dHr dIr dCk dNu dCa dPl dLi dMy dSt dHa dMe dSh dUn dLe dDc dHk dWa dCq dTb dTt dMu dUk dSk dNb dLl dBs dBa dSo dLt dKa dWs dCe dLw dMx dBi dNa dSz dLn dKn dKs dRw dSp dWd dDr dHd dGo dPi dLd dSw dCz dOi dOb dOc dOk dOo dBk dOp dOr dOq dOe dOs dOm dOx dOz:FuncData)
structure jD (K:PySem.W.Frag) (mg:Str->Option Value) (C:Addr) (aD:Ad):Prop where
 FWh:Cu K "is_whole" "is_whole" jm aD.fWh aD.dWh∧Binds K aD.dWh ["thing"] []∧mg "is_whole" = some (.ref aD.fWh)
 FMd:Cu K "is_made_of" "is_made_of" fu aD.fMd aD.dMd∧Binds K aD.dMd ["text","signs","most"] []∧mg "is_made_of" = some (.ref aD.fMd)
 FNm:Cu K "is_name" "is_name" jW aD.fNm aD.dNm∧Binds K aD.dNm ["thing"] []∧mg "is_name" = some (.ref aD.fNm)
 FRo:Cu K "rows_of" "rows_of" eV aD.fRo aD.dRo∧Binds K aD.dRo ["rows","word"] []∧mg "rows_of" = some (.ref aD.fRo)
 FTo:Cu K "is_told" "is_told" fX aD.fTo aD.dTo∧Binds K aD.dTo ["rows","word","thing"] []∧mg "is_told" = some (.ref aD.fTo)
 FWi:Cu K "is_within" "is_within" kh aD.fWi aD.dWi∧Binds K aD.dWi ["thing","bounds"] []∧mg "is_within" = some (.ref aD.fWi)
 FPa:Cu K "is_part" "is_part" d8 aD.fPa aD.dPa∧Binds K aD.dPa ["thing","part","ahead"] []∧mg "is_part" = some (.ref aD.fPa)
 FHp:Cu K "has_parts" "has_parts" e_ aD.fHp aD.dHp∧Binds K aD.dHp ["row","ahead"] []∧mg "has_parts" = some (.ref aD.fHp)
 FCl:Cu K "count_of_last_lines" "count_of_last_lines" lO aD.fCl aD.dCl∧Binds K aD.dCl ["rows"] []∧mg "count_of_last_lines" = some (.ref aD.fCl)
 FIk:Cu K "is_key_of" "is_key_of" fY aD.fIk aD.dIk∧Binds K aD.dIk ["number","board","ahead"] []∧mg "is_key_of" = some (.ref aD.fIk)
 FSb:Cu K "stands_behind_stop" "stands_behind_stop" lK aD.fSb aD.dSb∧Binds K aD.dSb ["line","ahead"] []∧mg "stands_behind_stop" = some (.ref aD.fSb)
 FWm:Cu K "is_well_made" "is_well_made" iJ aD.fWm aD.dWm∧Binds K aD.dWm ["row","ahead"] []∧mg "is_well_made" = some (.ref aD.fWm)
 FHr:Cu K "has_room" "has_room" lA aD.fHr aD.dHr∧Binds K aD.dHr ["word","ahead"] []∧mg "has_room" = some (.ref aD.fHr)
 FIr:Cu K "is_row" "is_row" gF aD.fIr aD.dIr∧Binds K aD.dIr ["thing","ahead"] []∧mg "is_row" = some (.ref aD.fIr)
 FCk:Cu K "check_rows" "check_rows" iK aD.fCk aD.dCk∧Binds K aD.dCk ["rows"] []∧mg "check_rows" = some (.ref aD.fCk)
 FNu:Cu K "numbers_of" "numbers_of" jJ aD.fNu aD.dNu∧Binds K aD.dNu ["names"] []∧mg "numbers_of" = some (.ref aD.fNu)
 FCa:Cu K "count_in_all" "count_in_all" fD aD.fCa aD.dCa∧Binds K aD.dCa ["things"] []∧mg "count_in_all" = some (.ref aD.fCa)
 FPl:Cu K "places_of" "places_of" d_ aD.fPl aD.dPl∧Binds K aD.dPl ["things"] []∧mg "places_of" = some (.ref aD.fPl)
 FLi:Cu K "lines_by_knob" "lines_by_knob" jw aD.fLi aD.dLi∧Binds K aD.dLi ["rows","rank_numbers"] []∧mg "lines_by_knob" = some (.ref aD.fLi)
 FMy:Cu K "may_be_member" "may_be_member" lE aD.fMy aD.dMy∧Binds K aD.dMy ["thing"] []∧mg "may_be_member" = some (.ref aD.fMy)
 FSt:Cu K "set_of" "set_of" fj aD.fSt aD.dSt∧Binds K aD.dSt ["numbers"] []∧mg "set_of" = some (.ref aD.fSt)
 FHa:Cu K "has_member" "has_member" gY aD.fHa aD.dHa∧Binds K aD.dHa ["some","number"] []∧mg "has_member" = some (.ref aD.fHa)
 FMe:Cu K "members_of" "members_of" fJ aD.fMe aD.dMe∧Binds K aD.dMe ["some"] []∧mg "members_of" = some (.ref aD.fMe)
 FSh:Cu K "shifted" "shifted" jR aD.fSh aD.dSh∧Binds K aD.dSh ["some","steps","count"] []∧mg "shifted" = some (.ref aD.fSh)
 FUn:Cu K "union_of" "union_of" gq aD.fUn aD.dUn∧Binds K aD.dUn ["sets"] []∧mg "union_of" = some (.ref aD.fUn)
 FLe:Cu K "led_to" "led_to" iI aD.fLe aD.dLe∧Binds K aD.dLe ["organ","knob","key"] []∧mg "led_to" = some (.ref aD.fLe)
 FDc:Cu K "drawn_of" "drawn_of" Yz aD.fDc aD.dDc∧Binds K aD.dDc ["organ","knobs","word"] []∧mg "drawn_of" = some (.ref aD.fDc)
 FHk:Cu K "held_keys" "held_keys" jA aD.fHk aD.dHk∧Binds K aD.dHk ["organ","held"] []∧mg "held_keys" = some (.ref aD.fHk)
 FWa:Cu K "coupled_ways" "coupled_ways" gw aD.fWa aD.dWa∧Binds K aD.dWa ["organ","knobs","held"] []∧mg "coupled_ways" = some (.ref aD.fWa)
 FCq:Cu K "coupled_keys" "coupled_keys" jT aD.fCq aD.dCq∧Binds K aD.dCq ["organ","knobs","held"] []∧mg "coupled_keys" = some (.ref aD.fCq)
 FTb:Cu K "trail_back" "trail_back" iu aD.fTb aD.dTb∧Binds K aD.dTb ["ways","held","key"] []∧mg "trail_back" = some (.ref aD.fTb)
 FTt:Uz K "trail_to" "trail_to" Vy aD.fTt aD.dTt∧Binds K aD.dTt ["organ","knobs","held","key","least"] []∧mg "trail_to" = some (.ref aD.fTt)
 FMu:Cu K "muted_boards" "muted_boards" eQ aD.fMu aD.dMu∧Binds K aD.dMu ["organ","knobs"] []∧mg "muted_boards" = some (.ref aD.fMu)
 FUk:Cu K "unmuted_keys" "unmuted_keys" fK aD.fUk aD.dUk∧Binds K aD.dUk ["organ","knobs","keys"] []∧mg "unmuted_keys" = some (.ref aD.fUk)
 FSk:Cu K "speaking_keys" "speaking_keys" iR aD.fSk aD.dSk∧Binds K aD.dSk ["organ","knobs","held"] []∧mg "speaking_keys" = some (.ref aD.fSk)
 FNb:Cu K "numbers_on_board" "numbers_on_board" j4 aD.fNb aD.dNb∧Binds K aD.dNb ["organ","board","keys"] []∧mg "numbers_on_board" = some (.ref aD.fNb)
 FLl:Cu K "led_by_line" "led_by_line" gD aD.fLl aD.dLl∧Binds K aD.dLl ["organ","line","numbers"] []∧mg "led_by_line" = some (.ref aD.fLl)
 FBs:Cu K "brought_by_stop" "brought_by_stop" d9 aD.fBs aD.dBs∧Binds K aD.dBs ["organ","knob","keys"] []∧mg "brought_by_stop" = some (.ref aD.fBs)
 FBa:Cu K "brought_in_all" "brought_in_all" fV aD.fBa aD.dBa∧Binds K aD.dBa ["organ","knobs","keys"] []∧mg "brought_in_all" = some (.ref aD.fBa)
 FSo:Cu K "sounding_pipes" "sounding_pipes" ie aD.fSo aD.dSo∧Binds K aD.dSo ["organ","knobs","held"] []∧mg "sounding_pipes" = some (.ref aD.fSo)
 FLt:Cu K "lines_leading_to" "lines_leading_to" jq aD.fLt aD.dLt∧Binds K aD.dLt ["organ","knobs","keys","pipe"] []∧mg "lines_leading_to" = some (.ref aD.fLt)
 FKa:Cu K "key_ahead" "key_ahead" iw aD.fKa aD.dKa∧Binds K aD.dKa ["organ","knob","number","pipe"] []∧mg "key_ahead" = some (.ref aD.fKa)
 FWs:Cu K "why_sounds" "why_sounds" iB aD.fWs aD.dWs∧Binds K aD.dWs ["organ","knobs","held","pipe"] []∧mg "why_sounds" = some (.ref aD.fWs)
 FCe:Cu K "_law_cell_at" "_law_cell_at" jM aD.fCe aD.dCe∧Binds K aD.dCe ["_law_script","_law_k"] []∧mg "_law_cell_at" = some (.ref aD.fCe)
 FLw:Cu K "_law_whole" "_law_whole" i_ aD.fLw aD.dLw∧Binds K aD.dLw ["_law_found"] []∧mg "_law_whole" = some (.ref aD.fLw)
 FMx:Cu K "_law_mixed" "_law_mixed" jK aD.fMx aD.dMx∧Binds K aD.dMx ["_law_cell","_law_k"] []∧mg "_law_mixed" = some (.ref aD.fMx)
 FBi:Cu K "_law_bits" "_law_bits" gO aD.fBi aD.dBi∧Binds K aD.dBi ["_law_numbers"] []∧mg "_law_bits" = some (.ref aD.fBi)
 FNa:Cu K "_law_name" "_law_name" fM aD.fNa aD.dNa∧Binds K aD.dNa ["_law_cell","_law_k"] []∧mg "_law_name" = some (.ref aD.fNa)
 FSz:Cu K "_law_sizes" "_law_sizes" fO aD.fSz aD.dSz∧Binds K aD.dSz ["_law_cell","_law_many","_law_most"] []∧mg "_law_sizes" = some (.ref aD.fSz)
 FLn:Cu K "_law_lines" "_law_lines" gh aD.fLn aD.dLn∧Binds K aD.dLn ["_law_cell","_law_size","_law_pipes"] []∧mg "_law_lines" = some (.ref aD.fLn)
 FKn:Cu K "_law_knob" "_law_knob" gA aD.fKn aD.dKn∧Binds K aD.dKn ["_law_cell","_law_sizes_here","_law_pipes"] []∧mg "_law_knob" = some (.ref aD.fKn)
 FKs:Cu K "_law_knobs" "_law_knobs" eF aD.fKs aD.dKs∧Binds K aD.dKs ["_law_cells","_law_sizes_here","_law_pipes"] []∧mg "_law_knobs" = some (.ref aD.fKs)
 FRw:Cu K "_law_rows" "_law_rows" fU aD.fRw aD.dRw∧Binds K aD.dRw ["_law_cell","_law_sizes_here","_law_pipes","_law_knobs_here"] []∧mg "_law_rows" = some (.ref aD.fRw)
 FSp:Cu K "_law_spot" "_law_spot" gB aD.fSp aD.dSp∧Binds K aD.dSp ["_law_sizes_here","_law_key"] []∧mg "_law_spot" = some (.ref aD.fSp)
 FWd:Cu K "_law_world" "_law_world" dz aD.fWd aD.dWd∧Binds K aD.dWd ["_law_script"] []∧mg "_law_world" = some (.ref aD.fWd)
 FDr:Cu K "_law_drawn" "_law_drawn" fQ aD.fDr aD.dDr∧Binds K aD.dDr ["_law_cell","_law_count"] []∧mg "_law_drawn" = some (.ref aD.fDr)
 FHd:Cu K "_law_held" "_law_held" eU aD.fHd aD.dHd∧Binds K aD.dHd ["_law_cell","_law_count"] []∧mg "_law_held" = some (.ref aD.fHd)
 FGo:Cu K "_law_goal" "_law_goal" jX aD.fGo aD.dGo∧Binds K aD.dGo ["_law_sizes_here","_law_knob_here","_law_key"] []∧mg "_law_goal" = some (.ref aD.fGo)
 FPi:Cu K "_law_pipes_of" "_law_pipes_of" iM aD.fPi aD.dPi∧Binds K aD.dPi ["_law_sizes_here","_law_pipes","_law_knob_here","_law_key"] []∧mg "_law_pipes_of" = some (.ref aD.fPi)
 FLd:Cu K "_law_leads" "_law_leads" jy aD.fLd aD.dLd∧Binds K aD.dLd ["_law_sizes_here","_law_knobs_here","_law_drawn_here","_law_held_here","_law_key","_law_least","_law_trail"] []∧mg "_law_leads" = some (.ref aD.fLd)
 FSw:Cu K "_law_shows" "_law_shows" fP aD.fSw aD.dSw∧Binds K aD.dSw ["_law_world_here","_law_drawn_here","_law_held_here","_law_pipe","_law_found"] []∧mg "_law_shows" = some (.ref aD.fSw)
 FCz:Cu K "_law_closed" "_law_closed" ZG aD.fCz aD.dCz∧Binds K aD.dCz ["_law_world_here","_law_drawn_here","_law_held_here","_law_speaking","_law_coupled","_law_sound"] []∧mg "_law_closed" = some (.ref aD.fCz)
 FOi:Cu K "__init__" "Organ.__init__" Ur aD.fOi aD.dOi∧Binds K aD.dOi ["self","rows"] []∧Mk K C aD.fOi
 FOb:Cu K "boards" "Organ.boards" gU aD.fOb aD.dOb∧Binds K aD.dOb ["self"] []∧Meth K C "boards" aD.fOb
 FOc:Cu K "key_count" "Organ.key_count" gH aD.fOc aD.dOc∧Binds K aD.dOc ["self"] []∧Meth K C "key_count" aD.fOc
 FOk:Cu K "key" "Organ.key" kE aD.fOk aD.dOk∧Binds K aD.dOk ["self","board","number"] []∧Meth K C "key" aD.fOk
 FOo:Cu K "board_of" "Organ.board_of" ig aD.fOo aD.dOo∧Binds K aD.dOo ["self","key"] []∧Meth K C "board_of" aD.fOo
 FBk:Cu K "board_of_knob" "Organ.board_of_knob" ir aD.fBk aD.dBk∧Binds K aD.dBk ["self","knob"] []∧Meth K C "board_of_knob" aD.fBk
 FOp:Cu K "coupler" "Organ.coupler" lG aD.fOp aD.dOp∧Binds K aD.dOp ["self","knob"] []∧Meth K C "coupler" aD.fOp
 FOr:Cu K "ranks" "Organ.ranks" gJ aD.fOr aD.dOr∧Binds K aD.dOr ["self"] []∧Meth K C "ranks" aD.fOr
 FOq:Cu K "pipe_count" "Organ.pipe_count" iD aD.fOq aD.dOq∧Binds K aD.dOq ["self"] []∧Meth K C "pipe_count" aD.fOq
 FOe:Cu K "pipe" "Organ.pipe" je aD.fOe aD.dOe∧Binds K aD.dOe ["self","rank","number"] []∧Meth K C "pipe" aD.fOe
 FOs:Cu K "stop" "Organ.stop" il aD.fOs aD.dOs∧Binds K aD.dOs ["self","knob"] []∧Meth K C "stop" aD.fOs
 FOm:Cu K "mute" "Organ.mute" jc aD.fOm aD.dOm∧Binds K aD.dOm ["self","knob"] []∧Meth K C "mute" aD.fOm
 FOx:Cu K "rank_of" "Organ.rank_of" jl aD.fOx aD.dOx∧Binds K aD.dOx ["self","pipe"] []∧Meth K C "rank_of" aD.fOx
 FOz:Cu K "knobs" "Organ.knobs" eE aD.fOz aD.dOz∧Binds K aD.dOz ["self"] []∧Meth K C "knobs" aD.fOz
section
variable {P:Program} {w:World} {K:PySem.W.Frag} {mg:Str->Option Value} {base:Heap} {C aN aK aB aP aM:Addr} {aD:Ad}
variable (N:jD K mg C aD) (T:Txt K w.params mg C aN aK aB aP aM)
noncomputable def Q0:Sp:=fun vs H Q _=>∃ i:Int,vs=[.int i]/\Q (.bl true) H
theorem gM:Aw ["thing"] ["thing"] (Ag jm):=Bo
include N T in
theorem WL:Ar P w K mg base Be 1 aD.fWh aD.dWh ["thing"] Q0:=by
 refine N.FWh.1.ok gM (fun vs H Q E h=>?_) (fun cdv A outer s H vs Q E hr h=>?_)
 ·obtain ⟨i,rfl,_⟩:=h
  rfl
 ·obtain ⟨i,rfl,q⟩:=h
  refine ⟨_,(Ah (Av (Dy (BP Ci rfl T.isin PyProof.Rows.boot_isinstance (Aa (pv 0) (Aa (Do (v:=.ty "int") rfl T.int PyProof.Rows.boot_int rfl) Ac))) (Dq (OJ (BP Ci rfl T.isin PyProof.Rows.boot_isinstance (Aa (pv 0) (Aa (Do (v:=.ty "bool") rfl T.bool PyProof.Rows.boot_bool rfl) Ac)))))))),?_⟩
  refine ⟨_,rfl,_,"int",_,_,rfl,.int i,ty_int,_,rfl,CW ?_⟩
  exact ⟨_,rfl,_,"bool",_,_,rfl,.int i,Wm,_,rfl,q⟩
noncomputable def Z2:Sp:=fun vs H Q _=>∃ z:Str,vs=[.str z,.str letters,.int 8]/\isNm z/\∀ H',An H H'->Q (.bl true) H'
theorem iV:Aw ["text","signs","most"] ["text","signs","most"] (Ag fu):=Bo
include N T in
theorem bF:Ar P w K mg base Be 1 aD.fMd aD.dMd ["text","signs","most"] Z2:=by
 refine N.FMd.1.ok iV (fun vs H Q E h=>?_) (fun cdv A outer s H vs Q E hr h=>?_)
 ·obtain ⟨z,rfl,_⟩:=h
  rfl
 ·obtain ⟨z,rfl,hz,q⟩:=h
  refine ⟨_,(Ah (Av (Dy (Im Ew Ew Ab (BP Ls rfl T.len PySem.boot_len (Aa (pv 0) Ac)) (pv 2)) (Dq (BP (KD rfl) rfl T.all PyProof.Rows.boot_all (Aa (Bu rfl (Bc (osc:=Ag fu) (N:=["text","signs","most"]) rfl rfl (by decide +kernel)) (Yb (pv 0)) (fun _ _ _ _=>Cd) (fun _ _ _ _=>(EY RX (pv 0) (pv 2) rfl))) Ac)))))),?_⟩
  have hzl:z.length<sizeLine:=BJ (by have:=hz.2.1; omega)
  refine ⟨_,rfl,z,rfl,Nat.le_of_lt hzl,_,_,rfl,rfl,_,rfl,?_⟩
  refine Dn (fun h1=>?_) (fun h1=>absurd (decide_eq_true (by have:=hz.1; omega)) h1)
  refine ⟨_,rfl,_,_,rfl,rfl,_,rfl,?_⟩
  refine Dn (fun h2=>?_) (fun h2=>absurd (decide_eq_true (by have:=hz.2.1; omega)) h2)
  refine ⟨_,rfl,z,rfl,Rw (fun _=>true) (fun c=>.bl (ZP letters c)) hzl (fun c hc H' hs R k=>k H' (An.refl H')) (fun c hc _ H' hs R k=>⟨_,rfl,_,rfl,_,_,rfl,rfl,k H' (An.refl H')⟩) (fun D H' hD hs hl=>?_)⟩
  refine ⟨D,z.cps.toList.map (ZP letters),rfl,.inl (.inl ?_),?_⟩
  ·rw [hl,List.filter_eq_self.mpr (fun _ _=>rfl),List.map_map]
   rfl
  ·have e:(z.cps.toList.map (ZP letters)).all id=true:=by
    rw [List.all_map,List.all_eq_true]
    intro c hc
    have:=hz.2.2 c hc
    show ZP letters c=true
    rw [Vc c (by omega)]
    exact decide_eq_true this
   rw [e]
   exact q H' hs
noncomputable def YK:Sp:=fun vs H Q _=>∃ z:Str,vs=[.str z]/\isNm z/\∀ H',An H H'->Q (.bl true) H'
theorem jP:Aw ["thing"] ["thing"] (Ag jW):=Bo
include N T in
theorem Wf:Ar P w K mg base Be 2 aD.fNm aD.dNm ["thing"] YK:=by
 have GMd:Ar P w K mg base Be 1 aD.fMd aD.dMd ["text","signs","most"] Z2:=bF N T
 refine N.FNm.1.ok jP (fun vs H Q E h=>?_) (fun cdv A outer s H vs Q E hr h=>?_)
 ·obtain ⟨z,rfl,_⟩:=h
  rfl
 ·obtain ⟨z,rfl,hz,q⟩:=h
  have hrMd:BV 1 _:=hr.mono (by decide)
  obtain ⟨tLET,hLET⟩:=T.letters
  obtain ⟨tML,hML⟩:=T.mostL
  refine ⟨_,(Ah (Av (Dy (BP Ci rfl T.isin PyProof.Rows.boot_isinstance (Aa (pv 0) (Aa (Do (v:=.ty "str") rfl T.str PyProof.Rows.boot_str rfl) Ac))) (Dq (Ai GMd hrMd rfl N.FMd.2.2 N.FMd.1.kp N.FMd.2.1 .nil Ao (Aa (pv 0) (Aa (Dh (v:=.str letters) rfl hLET ⟨tLET,rfl⟩) (Aa (Dh (v:=.int 8) rfl hML ⟨tML,rfl⟩) Ac)))))))),?_⟩
  refine ⟨_,rfl,_,"str",_,_,rfl,.str z,Wx,_,rfl,CW ?_⟩
  exact ⟨_,rfl,z,rfl,hz,q⟩
noncomputable def RM:Sp:=fun vs H Q _=>∃ (p:Addr) (us:List V) (w:Str) (ρ:V->R),vs=[.ref p,.str w]/\H p=some (.lst us)/\Rows H ρ us/\us.length<=500/\∀ D H',H D=none->An H H'->H' D=some (.lst (us.filter (pw ρ w)))->Q (.ref D) H'
theorem iQ:Aw ["rows","word"] ["rows","word"] (Ag eV):=Bo
include N T in
theorem NP:Ar P w K mg base Be 1 aD.fRo aD.dRo ["rows","word"] RM:=by
 refine N.FRo.1.ok iQ (fun vs H Q E h=>?_) (fun cdv A outer s H vs Q E hr h=>?_)
 ·obtain ⟨p,us,w,ρ,rfl,_⟩:=h
  rfl
 ·obtain ⟨p,us,w,ρ,rfl,hp,hR,hl,q⟩:=h
  refine ⟨_,(Ah (Av (Bu rfl (Bc (osc:=Ag eV) (N:=["rows","word"]) rfl rfl (by decide +kernel)) (Bg (pv 0)) (fun _ _ _ _=>(Ft (BR DG (Am (Aj (K:=K) rfl) (pv 0) Ab (fun _ _=>rfl)) (pv 2) (BZ _)))) (fun _ _ _ _=>(pv 0))))),?_⟩
  have hS:CK K H p us:=.inl (.inl hp)
  refine ⟨_,rfl,p,rfl,⟨_,hS⟩,Ca (K:=K) (xs:=us) (pw ρ w) id hS (BJ (by omega)) (fun x hx H' hs R k=>?_) (fun x hx _ H' hs R k=>⟨_,rfl,k H' (An.refl H')⟩) (fun D H' hD hs hl'=>?_)⟩
  ·obtain ⟨T0,rfl,hT⟩:=(hR x hx).mono hs
   exact ⟨_,rfl,T0,_,_,_,rfl,rfl,.inl (.inl hT),Af (j:=0) rfl,_,rfl,rfl,_,rfl,k H' (An.refl H')⟩
  ·rw [List.map_id] at hl'
   exact q D H' hD hs hl'
noncomputable def dj:Sp:=fun vs H Q _=>∃ (p:Addr) (us:List V) (w t:Str) (ρ:V->R),vs=[.ref p,.str w,.str t]/\H p=some (.lst us)/\Rows H ρ us/\us.length<=500/\isNm t/\∀ H',An H H'->Q (.bl (Wt ρ us w t)) H'
theorem jB:Aw ["rows","word","thing"] ["rows","word","thing"] (Ag fX):=Bo
include N T in
theorem Z7:Ar P w K mg base Be 3 aD.fTo aD.dTo ["rows","word","thing"] dj:=by
 have GNm:Ar P w K mg base Be 2 aD.fNm aD.dNm ["thing"] YK:=Wf N T
 have GRo:Ar P w K mg base Be 1 aD.fRo aD.dRo ["rows","word"] RM:=NP N T
 refine N.FTo.1.ok jB (fun vs H Q E h=>?_) (fun cdv A outer s H vs Q E hr h=>?_)
 ·obtain ⟨p,us,w,t,ρ,rfl,_⟩:=h
  rfl
 ·obtain ⟨p,us,w,t,ρ,rfl,hp,hR,hl,ht,q⟩:=h
  have hrNm:BV 2 _:=hr.mono (by decide)
  have hrRo:BV 1 _:=hr.mono (by decide)
  refine ⟨_,(Ah (Av (Dy (Ai GNm hrNm rfl N.FNm.2.2 N.FNm.1.kp N.FNm.2.1 .nil Ao (Aa (pv 2) Ac)) (Dq (BP (Jr rfl) rfl T.any PyProof.Rows.boot_any (Aa (Bu rfl (Bc (osc:=Ag fX) (N:=["rows","word","thing"]) rfl rfl (by decide +kernel)) (Bg (Ai GRo hrRo rfl N.FRo.2.2 N.FRo.1.kp N.FRo.2.1 .nil Ao (Aa (pv 0) (Aa (pv 1) Ac)))) (fun _ _ _ _=>Cd) (fun _ _ _ _=>(EY DG (Am (Aj (K:=K) rfl) (pv 0) Ab (fun _ _=>rfl)) (pv 3) (BZ _)))) Ac)))))),?_⟩
  refine ⟨_,rfl,t,rfl,ht,fun H1 s1=>⟨_,rfl,CW ?_⟩⟩
  refine ⟨_,rfl,_,rfl,p,us,w,ρ,rfl,s1 _ _ hp,hR.mono s1,hl,fun D H2 hD s2 hl2=>?_⟩
  have hS:CK K H2 D (us.filter (pw ρ w)):=.inl (.inl hl2)
  refine ⟨D,rfl,⟨_,hS⟩,Ca (K:=K) (xs:=us.filter (pw ρ w)) (fun _=>true) (fun v=>.bl (pn ρ t v)) hS (BJ (by have:=Hq (pw ρ w) us; omega)) (fun x hx H' hs R k=>k H' (An.refl H')) (fun x hx _ H' hs R k=>?_) (fun D3 H3 hD3 s3 hl3=>?_)⟩
  ·obtain ⟨T0,rfl,hT⟩:=(((hR.mono s1).mono s2).mono hs) x (List.mem_filter.mp hx).1
   exact ⟨_,rfl,T0,_,_,_,rfl,rfl,.inl (.inl hT),Af (j:=1) rfl,_,rfl,rfl,k H' (An.refl H')⟩
  ·refine ⟨D3,(us.filter (pw ρ w)).map (pn ρ t),rfl,.inl (.inl ?_),?_⟩
   ·rw [hl3,List.filter_eq_self.mpr (fun _ _=>rfl),List.map_map]
    rfl
   ·have e:((us.filter (pw ρ w)).map (pn ρ t)).any id=Wt ρ us w t:=by
     rw [List.any_map]
     rfl
    rw [e]
    exact q H3 ((s1.trans s2).trans s3)
noncomputable def ZK (K:PySem.W.Frag):Sp:=fun vs H Q _=>∃ (i lo hi:Int) (b:Addr),vs=[.int i,.ref b]/\KTup K b [.int lo,.int hi]/\lo<=i/\i<=hi/\Q (.bl true) H
theorem jb:Aw ["thing","bounds"] ["thing","bounds"] (Ag kh):=Bo
include N T in
theorem Zm:Ar P w K mg base Be 2 aD.fWi aD.dWi ["thing","bounds"] (ZK K):=by
 have GWh:Ar P w K mg base Be 1 aD.fWh aD.dWh ["thing"] Q0:=WL N T
 refine N.FWi.1.ok jb (fun vs H Q E h=>?_) (fun cdv A outer s H vs Q E hr h=>?_)
 ·obtain ⟨i,lo,hi,b,rfl,_⟩:=h
  rfl
 ·obtain ⟨i,lo,hi,b,rfl,hb,h1,h2,q⟩:=h
  have hrWh:BV 1 _:=hr.mono (by decide)
  refine ⟨_,(Ah (Av (Dy (Ai GWh hrWh rfl N.FWh.2.2 N.FWh.1.kp N.FWh.2.1 .nil Ao (Aa (pv 0) Ac)) (Dq (Im Ew Ew (Am (Aj (K:=K) rfl) (pv 1) Ab (fun _ _=>rfl)) (pv 0) (Am (Aj (K:=K) rfl) (pv 1) Ab (fun _ _=>rfl))))))),?_⟩
  refine ⟨_,rfl,i,rfl,_,rfl,CW ?_⟩
  refine ⟨_,rfl,b,_,_,_,rfl,rfl,hb.sq _,Af (j:=0) rfl,_,rfl,_,_,rfl,rfl,_,rfl,?_⟩
  refine Dn (fun _=>?_) (fun z=>absurd (decide_eq_true h1) z)
  refine ⟨_,rfl,b,_,_,_,rfl,rfl,hb.sq _,Af (j:=1) rfl,_,_,rfl,rfl,?_⟩
  show Q (.bl (decide (i<=hi))) H
  rw [decide_eq_true h2]
  exact q
noncomputable def bw (K:PySem.W.Frag) (aB:Addr):Sp:=fun vs H Q _=>∃ (x:V) (part:Str) (p:Addr) (us:List V) (ρ:V->R),vs=[x,.str part,.ref p]/\H p=some (.lst us)/\Rows H ρ us/\us.length<=500/\Hy K aB ρ us x part/\∀ H',An H H'->Q (.bl true) H'
theorem lC:Aw ["thing","part","ahead"] ["thing","part","ahead"] (Ag d8):=Bo
include N T in
theorem bc:Ar P w K mg base Be 4 aD.fPa aD.dPa ["thing","part","ahead"] (bw K aB):=by
 have GNm:Ar P w K mg base Be 2 aD.fNm aD.dNm ["thing"] YK:=Wf N T
 have GTo:Ar P w K mg base Be 3 aD.fTo aD.dTo ["rows","word","thing"] dj:=Z7 N T
 have GWi:Ar P w K mg base Be 2 aD.fWi aD.dWi ["thing","bounds"] (ZK K):=Zm N T
 refine N.FPa.1.ok lC (fun vs H Q E h=>?_) (fun cdv A outer s H vs Q E hr h=>?_)
 ·obtain ⟨x,part,p,us,ρ,rfl,_⟩:=h
  rfl
 ·obtain ⟨x,part,p,us,ρ,rfl,hp,hR,hl,hok,q⟩:=h
  have hrNm:BV 2 _:=hr.mono (by decide)
  have hrTo:BV 3 _:=hr.mono (by decide)
  have hrWi:BV 2 _:=hr.mono (by decide)
  refine ⟨_,(Ae (Bt (Ob (Ue (pv 1) (Dh (v:=.ref aB) rfl T.mB rfl))) (Ah (Av (Ai GWi hrWi rfl N.FWi.2.2 N.FWi.1.kp N.FWi.2.1 .nil Ao (Aa (pv 0) (Aa (Mg (Dh (v:=.ref aB) rfl T.mB rfl) (pv 1) (fun _ _=>rfl)) Ac))))) Bd)
   (Ae (Bt (BR DG (pv 1) Br (BZ _)) (Ah (Av (Dy (Ai GNm hrNm rfl N.FNm.2.2 N.FNm.1.kp N.FNm.2.1 .nil Ao (Aa (pv 0) Ac)) (Dq (OJ (BP (Jr rfl) rfl T.any PyProof.Rows.boot_any (Aa (Bu rfl (Bc (osc:=Ag d8) (N:=["thing","part","ahead"]) rfl rfl (by decide +kernel)) (Ye (Dh (v:=.ref aN) rfl T.mN rfl)) (fun _ _ _ _=>Cd) (fun _ _ _ _=>(Ai GTo hrTo rfl N.FTo.2.2 N.FTo.1.kp N.FTo.2.1 .nil Ao (Aa (pv 3) (Aa (pv 0) (Aa (pv 1) Ac)))))) Ac))))))) Bd)
   (Ah (Av (Ai GTo hrTo rfl N.FTo.2.2 N.FTo.1.kp N.FTo.2.1 .nil Ao (Aa (pv 2) (Aa (pv 1) (Aa (pv 0) Ac)))))))),?_⟩
  rcases hok with ⟨i,lo,hi,b,rfl,hn,hb,h1,h2⟩ | ⟨hn,rfl,t,rfl,ht,hno⟩ | ⟨hn,hne,t,rfl,ht,hyes⟩
  ·refine ⟨_,rfl,aB,part,_,rfl,rfl,T.dB,hn,_,rfl,CW ?_⟩
   exact ⟨_,rfl,_,rfl,aB,part,.ref b,_,rfl,rfl,T.dB,hn,rfl,i,lo,hi,b,rfl,hb,h1,h2,q H (An.refl H)⟩
  ·refine ⟨_,rfl,aB,_,_,rfl,rfl,T.dB,hn,_,rfl,Bj ?_⟩
   refine ⟨_,rfl,rfl,_,rfl,CW ?_⟩
   refine ⟨_,rfl,t,rfl,ht,fun H1 s1=>⟨_,rfl,CW ?_⟩⟩
   have hS:IV K H1 aN (named.map V.str):=T.tN.sq _
   refine ⟨aN,rfl,⟨_,hS⟩,Iu (xs:=named.map V.str) (fun _=>true) (fun _=>.bl false) (by show 5<sizeLine; decide) (fun i H2 x hs hx=>⟨_,x,hs.tup hS,hx⟩) (fun i H2 y H3 hs _ hy=>⟨hy.1,hy.2 _ (hs.tup hS)⟩) (fun H2 hs=>⟨_,hs.tup hS,Nat.le_refl _⟩)
    (fun x hx H' hs R k=>k H' (An.refl H')) (fun x hx _ H' hs R k=>?_) (fun D H2 hD s2 hl2=>?_)⟩
   ·obtain ⟨w0,hw0,rfl⟩:=List.mem_map.mp hx
    refine ⟨_,rfl,_,rfl,_,rfl,p,us,w0,t,ρ,rfl,hs _ _ (s1 _ _ hp),(hR.mono s1).mono hs,hl,ht,fun H'' s''=>?_⟩
    rw [hno w0 hw0]
    exact k H'' s''
   ·refine ⟨D,[false,false,false,false,false],rfl,.inl (.inl hl2),_,rfl,?_⟩
    exact q H2 (s1.trans s2)
  ·refine ⟨_,rfl,aB,_,_,rfl,rfl,T.dB,hn,_,rfl,Bj ?_⟩
   refine ⟨_,rfl,rfl,_,rfl,?_⟩
   refine Dn (fun z=>absurd (V.str.inj (of_decide_eq_true z)) hne) (fun _=>?_)
   refine ⟨_,rfl,_,rfl,_,rfl,p,us,part,t,ρ,rfl,hp,hR,hl,ht,fun H' hs=>?_⟩
   rw [hyes]
   exact q H' hs
noncomputable def dw (K:PySem.W.Frag) (aB aP:Addr):Sp:=fun vs H Q _=>∃ (r p:Addr) (w:Str) (xs:List V) (us:List V) (ρ:V->R) (ap:Addr) (ps:List Str),vs=[.ref r,.ref p]/\H r=some (.tup (.str w::xs))/\H p=some (.lst us)/\Rows H ρ us/\us.length<=500 /\
 PySem.W.nsIn K aP w=some (some (.ref ap))/\KTup K ap (ps.map V.str)/\xs.length=ps.length/\ps.length<=10/\(∀ (i:Nat) x y,xs[i]? = some x->ps[i]? = some y->Hy K aB ρ us x y)/\∀ H',An H H'->Q (.bl true) H'
theorem dO:Aw ["row","ahead","parts"] ["row","ahead"] (Ag e_):=Bo
include N T in
theorem bu:Ar P w K mg base Be 5 aD.fHp aD.dHp ["row","ahead"] (dw K aB aP):=by
 have GPa:Ar P w K mg base Be 4 aD.fPa aD.dPa ["thing","part","ahead"] (bw K aB):=bc N T
 refine N.FHp.1.ok dO (fun vs H Q E h=>?_) (fun cdv A outer s H vs Q E hr h=>?_)
 ·obtain ⟨r,p,w,xs,us,ρ,ap,ps,rfl,_⟩:=h
  rfl
 ·obtain ⟨r,p,w,xs,us,ρ,ap,ps,rfl,hr0,hp,hR,hl,hn,hap,hlen,hps,hok,q⟩:=h
  have hrPa:BV 4 _:=hr.mono (by decide)
  refine ⟨_,(Ae (Ax (i:=2) dO.nd rfl (Or.inl rfl) (Mg (Dh (v:=.ref aP) rfl T.mP rfl) (Am (Aj (K:=K) rfl) (pv 0) Ab (fun _ _=>rfl)) (fun _ _=>rfl)))
   (Ae (Bt (BR Ey (BP Bb rfl T.len PySem.boot_len (Aa (pv 0) Ac)) (Aq Bp Ab (BP Bb rfl T.len PySem.boot_len (Aa (pv 2) Ac))) (BZ _)) (Ah (Av Ef)) Bd)
   (Ah (Av (BP (KD rfl) rfl T.all PyProof.Rows.boot_all (Aa (QD rfl (Js (osc:=Ag e_) (N:=["row","ahead","parts"]) rfl rfl (by decide +kernel)) (V5 rfl T.zip (Aa (Dt YG (pv 0) (Cv Ab) Ez) (Aa (pv 2) Ac))) (fun _ _ _ _=>Cd) (fun _ _ _ _=>(Ai GPa hrPa rfl N.FPa.2.2 N.FPa.1.kp N.FPa.2.1 .nil Ao (Aa (pv 0) (Aa (pv 1) (Aa (pv 3) Ac)))))) Ac)))))),?_⟩
  refine ⟨_,rfl,r,_,_,_,rfl,rfl,.inl (.inl hr0),Af (j:=0) rfl,aP,w,.ref ap,_,rfl,rfl,T.dP,hn,rfl,?_⟩
  refine ⟨_,rfl,r,_,rfl,.inr (.inl (.inl hr0)),_,rfl,ap,_,rfl,.inr (hap.sq _),_,_,rfl,rfl,rfl,_,rfl,?_⟩
  refine Dn (fun z=>?_) (fun _=>?_)
  ·exfalso
   have e:(((V.str w::xs).length:Nat):Int)=1+(((ps.map V.str).length:Nat):Int):=by
    rw [List.length_cons,List.length_map,hlen]
    omega
   rw [e] at z
   simp at z
  ·have hcut:De (V.str w::xs) (some 1) none=xs:=by
    unfold De
    have e1:HT.Ed (V.str w::xs).length 0 (some ((1:Nat):Int))=1:=by rw [HT.LR,List.length_cons]; omega
    have e1':HT.Ed (V.str w::xs).length 0 (some (1:Int))=1:=e1
    rw [e1',HT.Tn,List.drop_succ_cons,List.drop_zero]
    exact List.take_of_length_le (by rw [List.length_cons]; omega)
   refine ⟨_,rfl,_,rfl,r,_,rfl,.inl (.inl hr0),(fun z=>?_),fun p2 hp2=>?_⟩
   ·have e1:HT.Ed (V.str w::xs).length 0 (some ((1:Nat):Int))=1:=by rw [HT.LR,List.length_cons]; omega
    have:=z.1.symm.trans e1
    cases this
   rw [hcut]
   obtain ⟨H2,eqH,s2,a2⟩:=JS (o:=HO.tup xs) hp2
   rw [eqH]
   have h1:IV K H2 p2 xs:=.inl (.inl a2)
   refine ⟨_,rfl,p2,ap,rfl,⟨_,h1⟩,⟨_,hap.sq _⟩,Ua (K:=K) (xs:=xs) (ys:=ps.map V.str) (fun _ _=>.bl true) h1 (hap.sq _) (by rw [List.length_map]; exact hlen) (BJ (by omega)) (fun i x y hx hy H3 s3 R k=>?_) (fun D H3 hD s3 hl3=>?_)⟩
   ·rw [List.getElem?_map] at hy
    obtain ⟨part,hpart,rfl⟩:=Option.map_eq_some_iff.mp hy
    exact ⟨_,rfl,_,rfl,_,rfl,x,part,p,us,ρ,rfl,s3 _ _ (s2 _ _ hp),(hR.mono s2).mono s3,hl,hok i x part hx hpart,fun H4 s4=>k H4 s4⟩
   ·have e:List.zipWith (fun _ _=>V.bl true) xs (ps.map V.str)=(List.replicate xs.length true).map V.bl:=by
     rw [List.map_replicate]
     refine List.ext_getElem? fun i=>?_
     rw [List.getElem?_zipWith]
     by_cases hi:i<xs.length
     ·rw [List.getElem?_eq_getElem hi,List.getElem?_eq_getElem (by rw [List.length_map]; omega),List.getElem?_eq_getElem (by rw [List.length_replicate]; exact hi)]
      simp
     ·rw [List.getElem?_eq_none (by omega),List.getElem?_eq_none (l:=List.replicate _ _) (by rw [List.length_replicate]; omega)]
    rw [e] at hl3
    refine ⟨D,List.replicate xs.length true,rfl,.inl (.inl hl3),?_⟩
    have e2:(List.replicate xs.length true).all id=true:=by simp
    rw [e2]
    exact q H3 (s2.trans s3)
noncomputable def dG:Sp:=fun vs H Q _=>∃ (p:Addr) (us:List V) (ρ:V->R) (c:Nat),vs=[.ref p]/\H p=some (.lst us)/\Rows H ρ us/\us.length<=500/\Wb ρ us c/\Q (.int (c:Nat)) H
theorem Vq:Aw ["rows","count","row"] ["rows"] (Ag lO):=Bo
include N T in
theorem cU:Ar P w K mg base Be 1 aD.fCl aD.dCl ["rows"] dG:=by
 refine N.FCl.1.ok Vq (fun vs H Q E h=>?_) (fun cdv A outer s H vs Q E hr h=>?_)
 ·obtain ⟨p,us,ρ,c,rfl,_⟩:=h
  rfl
 ·obtain ⟨p,us,ρ,c,rfl,hp,hR,hl,hc,q⟩:=h
  refine ⟨_,(Ae (Ax (i:=1) Vq.nd rfl (Or.inl rfl) Ab)
   (Ae (Cq PassesOwn.never rfl (XQ rfl T.reversed (Aa (pv 0) Ac)) (Ba (i:=2) Vq.nd rfl (Or.inl rfl)) (Ae (Bt (BR Ey (Am (Aj (K:=K) rfl) (pv 2) Ab (fun _ _=>rfl)) Br (BZ _)) (Ah Uo) Bd)
   (Ah (Ax (i:=1) Vq.nd rfl (Or.inl rfl) (Aq Bp (pv 1) Ab)))))
   (Ah (Av (pv 1))))),?_⟩
  have hS:CK K H p us:=.inl (.inl hp)
  refine ⟨_,rfl,p,us,rfl,hS,VF (K:=K) (a:=p) (xs:=us) (fun i σ H4=>H4=H/\i<=c/\∃ v2,σ=[some (.ref p),some (.int (i:Nat)),v2]) ⟨rfl,Nat.zero_le _,_,rfl⟩ (fun i σ H4 _ h=>by rw [h.1]; exact hS) ?_ ?_⟩
  ·rintro i x σ H4 hi hx ⟨rfl,hic,v2,rfl⟩
   obtain ⟨r,rfl,hr0⟩:=hR x (List.mem_of_getElem? hx)
   refine ⟨_,rfl,r,_,_,_,rfl,rfl,.inl (.inl hr0),Af (j:=0) rfl,rfl,_,rfl,?_⟩
   by_cases e:(ρ (.ref r)).w = "line"
   ·have hne:i ≠ c:=fun z=>by
     obtain ⟨v,hv,hno⟩:=hc.no
     rw [← z,hx] at hv
     cases hv
     exact hno e
    refine W6 (congrArg V.str e) ?_
    exact ⟨_,rfl,_,_,rfl,rfl,rfl,by omega,_,rfl⟩
   ·have hic':i=c:=by
     refine Classical.byContradiction fun z=>?_
     obtain ⟨v,hv,hyes⟩:=hc.all i (by omega)
     rw [hx] at hv
     cases hv
     exact e hyes
    subst hic'
    rw [decide_eq_false fun z=>e (V.str.inj z)]
    refine CW ?_
    exact ⟨_,rfl,q⟩
  ·rintro σ H4 ⟨rfl,hic,v2,rfl⟩
   have:=hc.lt
   omega
noncomputable def ZS:Sp:=fun vs H Q _=>∃ (n:Int) (bd:Str) (p:Addr) (us:List V) (ρ:V->R),vs=[.int n,.str bd,.ref p]/\H p=some (.lst us)/\Rows H ρ us/\us.length<=500/\Fl ρ us/\∀ H',An H H'->Q (.bl (keyOf ρ us bd n)) H'
theorem gf:Aw ["number","board","ahead"] ["number","board","ahead"] (Ag fY):=Bo
include N T in
theorem Z8:Ar P w K mg base Be 2 aD.fIk aD.dIk ["number","board","ahead"] ZS:=by
 have GRo:Ar P w K mg base Be 1 aD.fRo aD.dRo ["rows","word"] RM:=NP N T
 refine N.FIk.1.ok gf (fun vs H Q E h=>?_) (fun cdv A outer s H vs Q E hr h=>?_)
 ·obtain ⟨n,bd,p,us,ρ,rfl,_⟩:=h
  rfl
 ·obtain ⟨n,bd,p,us,ρ,rfl,hp,hR,hl,hB,q⟩:=h
  have hrRo:BV 1 _:=hr.mono (by decide)
  refine ⟨_,(Ah (Av (BP (Jr rfl) rfl T.any PyProof.Rows.boot_any (Aa (Bu rfl (Bc (osc:=Ag fY) (N:=["number","board","ahead"]) rfl rfl (by decide +kernel)) (Bg (Ai GRo hrRo rfl N.FRo.2.2 N.FRo.1.kp N.FRo.2.1 .nil Ao (Aa (pv 2) (Aa Br Ac)))) (fun _ _ _ _=>Cd) (fun _ _ _ _=>(Dy (EY DG (Am (Aj (K:=K) rfl) (pv 0) Ab (fun _ _=>rfl)) (pv 2) (BZ _)) (Dq (EY Gz (pv 1) (Am (Aj (K:=K) rfl) (pv 0) Ab (fun _ _=>rfl)) (BZ _)))))) Ac)))),?_⟩
  refine ⟨_,rfl,p,us,"board",ρ,rfl,hp,hR,hl,fun D H2 hD s2 hl2=>?_⟩
  have hS:CK K H2 D (us.filter (pw ρ "board")):=.inl (.inl hl2)
  refine ⟨D,rfl,⟨_,hS⟩,Ca (K:=K) (xs:=us.filter (pw ρ "board")) (fun _=>true) (fun v=>.bl (pn ρ bd v && decide (n<YC (ρ v)))) hS (BJ (by have:=Hq (pw ρ "board") us; omega)) (fun x hx H' hs R k=>k H' (An.refl H')) (fun x hx _ H' hs R k=>?_) (fun D3 H3 hD3 s3 hl3=>?_)⟩
  ·have hx':=List.mem_filter.mp hx
   obtain ⟨m,em⟩:=hB x hx'.1 (V.str.inj (of_decide_eq_true hx'.2))
   have hz:YC (ρ x)=m:=by unfold YC; rw [em]
   have hT:=((hR.mono s2).mono hs) x hx'.1
   have kk:=k H' (An.refl H')
   rw [hz] at kk
   obtain ⟨T0,rfl,hT⟩:=hT
   have kk:R (.bl (decide (V.str (ρ (.ref T0)).nm=V.str bd) && decide (n<m))) H':=kk
   have hT':H' T0=some (.tup (.str (ρ (.ref T0)).w :: .str (ρ (.ref T0)).nm::(ρ (.ref T0)).rest)):=hT
   rw [em] at hT'
   refine ⟨_,rfl,T0,_,_,_,rfl,rfl,.inl (.inl hT'),Af (j:=1) rfl,_,rfl,rfl,_,rfl,?_⟩
   refine Dn (fun g=>?_) (fun g=>?_)
   ·rw [g,Bool.true_and] at kk
    exact ⟨_,rfl,_,rfl,T0,_,_,_,rfl,rfl,.inl (.inl hT'),Af (j:=2) rfl,_,_,rfl,rfl,kk⟩
   ·rw [(Bool.not_eq_true _).mp g,Bool.false_and] at kk
    exact kk
  ·refine ⟨D3,(us.filter (pw ρ "board")).map (fun v=>pn ρ bd v && decide (n<YC (ρ v))),rfl,.inl (.inl ?_),?_⟩
   ·rw [hl3,List.filter_eq_self.mpr (fun _ _=>rfl),List.map_map]
    rfl
   ·have e:((us.filter (pw ρ "board")).map (fun v=>pn ρ bd v && decide (n<YC (ρ v)))).any id=keyOf ρ us bd n:=by
     rw [List.any_map]
     rfl
    rw [e]
    exact q H3 (s2.trans s3)
noncomputable def cA:Sp:=fun vs H Q _=>∃ (r p:Addr) (ro:R) (us:List V) (ρ:V->R),vs=[.ref r,.ref p]/\H r=some (.tup ro.v)/\H p=some (.lst us)/\Rows H ρ us/\us.length<=500/\PQ ρ us ro/\Fl ρ us/\∀ H',An H H'->Q (.bl true) H'
theorem Xn:Aw ["line","ahead","count","row"] ["line","ahead"] (Ag lK):=Bo
include N T in
theorem az:Ar P w K mg base Be 3 aD.fSb aD.dSb ["line","ahead"] cA:=by
 have GCl:Ar P w K mg base Be 1 aD.fCl aD.dCl ["rows"] dG:=cU N T
 have GIk:Ar P w K mg base Be 2 aD.fIk aD.dIk ["number","board","ahead"] ZS:=Z8 N T
 refine N.FSb.1.ok Xn (fun vs H Q E h=>?_) (fun cdv A outer s H vs Q E hr h=>?_)
 ·obtain ⟨r,p,ro,us,ρ,rfl,_⟩:=h
  rfl
 ·obtain ⟨r,p,ro,us,ρ,rfl,hr0,hp,hR,hl,hL,hB,q⟩:=h
  have hrCl:BV 1 _:=hr.mono (by decide)
  have hrIk:BV 2 _:=hr.mono (by decide)
  obtain ⟨tML4,hML4⟩:=T.mostLn
  refine ⟨_,(Ae (Ax (i:=2) Xn.nd rfl (Or.inl rfl) (Ai GCl hrCl rfl N.FCl.2.2 N.FCl.1.kp N.FCl.2.1 .nil Ao (Aa (pv 1) Ac)))
   (Ae (Ax (i:=3) Xn.nd rfl (Or.inl rfl) (Am Eb (pv 1) (Aq Dv (Aq Dv (BP Bb rfl T.len PySem.boot_len (Aa (pv 1) Ac)) Ab) (pv 2)) (fun _ _=>rfl)))
   (Ae (Bt (PW.pt (Dr (BR Ey (Am (Aj (K:=K) rfl) (pv 3) Ab (fun _ _=>rfl)) Br (BZ _)) (Ea (BR Rz (pv 2) (Dh (v:=.int 4) rfl hML4 ⟨tML4,rfl⟩) (BZ _))))) (Ah (Av Ef)) Bd)
   (Ah (Av (Dy (EY Ew (Am (Aj (K:=K) rfl) (pv 0) Ab (fun _ _=>rfl)) (Am (Aj (K:=K) rfl) (pv 0) Ab (fun _ _=>rfl)) (BZ _)) (Dq (Ai GIk hrIk rfl N.FIk.2.2 N.FIk.1.kp N.FIk.2.1 .nil Ao (Aa (Am (Aj (K:=K) rfl) (pv 0) Ab (fun _ _=>rfl)) (Aa (Am (Aj (K:=K) rfl) (pv 3) Ab (fun _ _=>rfl)) (Aa (pv 1) Ac))))))))))),?_⟩
  obtain ⟨cnt,v,sh,lo,hi,bd,rs,er,hc,h4,hv,hw,hrest,hle,hk⟩:=hL.ex
  have hr1:H r=some (.tup [.str ro.w,.str ro.nm,.int sh,.int lo,.int hi]):=by rw [hr0,← er]
  obtain ⟨r2,rfl,hr2⟩:=hR v (List.mem_of_getElem? hv)
  have hr2':H r2=some (.tup (.str (ρ (.ref r2)).w :: .str (ρ (.ref r2)).nm :: .str bd::rs)):=by rw [hr2,← hrest]
  have hlt:=hc.lt
  have ei:((us.length:Nat):Int) - 1 - ((cnt:Nat):Int)=((us.length - 1 - cnt:Nat):Int):=by omega
  have hS:CK K H p us:=.inl (.inl hp)
  refine ⟨_,rfl,p,us,ρ,cnt,rfl,hp,hR,hl,hc,?_⟩
  refine ⟨_,rfl,_,rfl,p,us,rfl,.inl hS,_,_,rfl,rfl,_,rfl,_,_,rfl,rfl,p,us,_,_,rfl,rfl,hS,(by rw [ei]; exact Af hv),?_⟩
  refine ⟨_,rfl,r2,_,_,_,rfl,rfl,.inl (.inl hr2'),Af (j:=0) rfl,rfl,_,rfl,W6 (congrArg V.str hw) ?_⟩
  refine ⟨_,rfl,_,_,rfl,rfl,_,rfl,?_⟩
  refine Dn (fun z=>?_) (fun _=>?_)
  ·have:=of_decide_eq_true z
   omega
  refine ⟨_,rfl,r,_,_,_,rfl,rfl,.inl (.inl hr1),Af (j:=3) rfl,_,rfl,r,_,_,_,rfl,rfl,.inl (.inl hr1),Af (j:=4) rfl,_,_,rfl,rfl,_,rfl,?_⟩
  refine Dn (fun _=>?_) (fun z=>absurd (decide_eq_true hle) z)
  refine ⟨_,rfl,r,_,_,_,rfl,rfl,.inl (.inl hr1),Af (j:=4) rfl,_,rfl,r2,_,_,_,rfl,rfl,.inl (.inl hr2'),Af (j:=2) rfl,_,rfl,hi,bd,p,us,ρ,rfl,hp,hR,hl,hB,fun H' s'=>?_⟩
  rw [hk]
  exact q H' s'
noncomputable def Yp (K:PySem.W.Frag) (aB aP aM:Addr):Sp:=fun vs H Q _=>∃ (r p:Addr) (ro:R) (us:List V) (ρ:V->R),vs=[.ref r,.ref p]/\H r=some (.tup ro.v)/\H p=some (.lst us)/\Rows H ρ us/\us.length<=500/\G7 K aB aP aM ρ us ro/\∀ H',An H H'->Q (.bl true) H'
theorem jN:Aw ["row","ahead"] ["row","ahead"] (Ag iJ):=Bo
include N T in
theorem c7:Ar P w K mg base Be 6 aD.fWm aD.dWm ["row","ahead"] (Yp K aB aP aM):=by
 have GHp:Ar P w K mg base Be 5 aD.fHp aD.dHp ["row","ahead"] (dw K aB aP):=bu N T
 have GSb:Ar P w K mg base Be 3 aD.fSb aD.dSb ["line","ahead"] cA:=az N T
 refine N.FWm.1.ok jN (fun vs H Q E h=>?_) (fun cdv A outer s H vs Q E hr h=>?_)
 ·obtain ⟨r,p,ro,us,ρ,rfl,_⟩:=h
  rfl
 ·obtain ⟨r,p,ro,us,ρ,rfl,hr0,hp,hR,hl,ok,q⟩:=h
  have hrHp:BV 5 _:=hr.mono (by decide)
  have hrSb:BV 3 _:=hr.mono (by decide)
  refine ⟨_,(Ae (Bt (BR DG (Am (Aj (K:=K) rfl) (pv 0) Ab (fun _ _=>rfl)) Br (BZ _)) (Ah HY) Bd)
   (Ae (Bt (BR DG (Am (Aj (K:=K) rfl) (pv 0) Ab (fun _ _=>rfl)) Br (BZ _)) (Ah (Av (Dy (Ai GHp hrHp rfl N.FHp.2.2 N.FHp.1.kp N.FHp.2.1 .nil Ao (Aa (pv 0) (Aa (pv 1) Ac))) (Dq (Ai GSb hrSb rfl N.FSb.2.2 N.FSb.1.kp N.FSb.2.1 .nil Ao (Aa (pv 0) (Aa (pv 1) Ac))))))) Bd)
   (Ah (Av (Dy (Sq (Ue (Am (Aj (K:=K) rfl) (pv 0) Ab (fun _ _=>rfl)) (Dh (v:=.ref aP) rfl T.mP rfl))) (Dq (Ai GHp hrHp rfl N.FHp.2.2 N.FHp.1.kp N.FHp.2.1 .nil Ao (Aa (pv 0) (Aa (pv 1) Ac))))))))),?_⟩
  obtain ⟨ap,ps,hn,hap,hlen,hps,hok⟩:=ok.parts
  refine ⟨_,rfl,r,_,_,_,rfl,rfl,.inl (.inl hr0),Af (j:=0) rfl,rfl,_,rfl,?_⟩
  refine Dn (fun z=>absurd (V.str.inj (of_decide_eq_true z)) ok.ns) (fun _=>?_)
  refine ⟨_,rfl,r,_,_,_,rfl,rfl,.inl (.inl hr0),Af (j:=0) rfl,rfl,_,rfl,?_⟩
  refine Dn (fun z=>?_) (fun _=>?_)
  ·have hline:=ok.line (V.str.inj (of_decide_eq_true z))
   refine ⟨_,rfl,_,rfl,r,p,ro.w,_,us,ρ,ap,ps,rfl,hr0,hp,hR,hl,hn,hap,hlen,hps,hok,fun H1 s1=>⟨_,rfl,CW ?_⟩⟩
   exact ⟨_,rfl,_,rfl,r,p,ro,us,ρ,rfl,s1 _ _ hr0,s1 _ _ hp,hR.mono s1,hl,hline,ok.Ys,fun H2 s2=>q H2 (s1.trans s2)⟩
  refine ⟨_,rfl,r,_,_,_,rfl,rfl,.inl (.inl hr0),Af (j:=0) rfl,aP,_,_,rfl,rfl,T.dP,hn,_,rfl,CW ?_⟩
  exact ⟨_,rfl,_,rfl,r,p,ro.w,_,us,ρ,ap,ps,rfl,hr0,hp,hR,hl,hn,hap,hlen,hps,hok,q⟩
noncomputable def cC (K:PySem.W.Frag) (aM:Addr):Sp:=fun vs H Q _=>∃ (p:Addr) (w:Str) (us:List V) (ρ:V->R),vs=[.str w,.ref p]/\H p=some (.lst us)/\Rows H ρ us/\us.length<=500/\(PySem.W.nsIn K aM w=some none \/ ∃ (m:Int) (t:Tok),PySem.W.nsIn K aM w=some (some (.int m t))/\(((us.filter (pw ρ w)).length:Nat):Int)<m)/\∀ H',An H H'->Q (.bl true) H'
theorem lD:Aw ["word","ahead"] ["word","ahead"] (Ag lA):=Bo
include N T in
theorem aX:Ar P w K mg base Be 2 aD.fHr aD.dHr ["word","ahead"] (cC K aM):=by
 have GRo:Ar P w K mg base Be 1 aD.fRo aD.dRo ["rows","word"] RM:=NP N T
 refine N.FHr.1.ok lD (fun vs H Q E h=>?_) (fun cdv A outer s H vs Q E hr h=>?_)
 ·obtain ⟨p,w,us,ρ,rfl,_⟩:=h
  rfl
 ·obtain ⟨p,w,us,ρ,rfl,hp,hR,hl,hroom,q⟩:=h
  have hrRo:BV 1 _:=hr.mono (by decide)
  refine ⟨_,(Ah (Av (Zr (Sq (RL (pv 0) (Dh (v:=.ref aM) rfl T.mM rfl))) (Dq (EY Gz (BP Bb rfl T.len PySem.boot_len (Aa (Ai GRo hrRo rfl N.FRo.2.2 N.FRo.1.kp N.FRo.2.1 .nil Ao (Aa (pv 1) (Aa (pv 0) Ac))) Ac)) (Mg (Dh (v:=.ref aM) rfl T.mM rfl) (pv 0) (fun _ _=>rfl)) (BZ _)))))),?_⟩
  rcases hroom with hn | ⟨m,t,hn,hm⟩
  ·refine ⟨_,rfl,aM,w,_,rfl,rfl,T.dM,hn,_,rfl,CW ?_⟩
   exact q H (An.refl H)
  refine ⟨_,rfl,aM,w,_,rfl,rfl,T.dM,hn,_,rfl,Bj ?_⟩
  refine ⟨_,rfl,_,rfl,p,us,w,ρ,rfl,hp,hR,hl,fun D H2 hD s2 hl2=>?_⟩
  refine ⟨D,_,rfl,.inl (.inl (.inl hl2)),_,rfl,aM,w,.int m,_,rfl,rfl,T.dM,hn,⟨t,rfl⟩,_,_,rfl,rfl,?_⟩
  show Q (.bl (decide ((((us.filter (pw ρ w)).length:Nat):Int)<m))) H2
  rw [decide_eq_true hm]
  exact q H2 s2
noncomputable def cP (K:PySem.W.Frag) (aB aP aM:Addr):Sp:=Yp K aB aP aM
theorem gW:Aw ["thing","ahead"] ["thing","ahead"] (Ag gF):=Bo
include N T in
theorem dN:Ar P w K mg base Be 7 aD.fIr aD.dIr ["thing","ahead"] (cP K aB aP aM):=by
 have GWm:Ar P w K mg base Be 6 aD.fWm aD.dWm ["row","ahead"] (Yp K aB aP aM):=c7 N T
 have GHr:Ar P w K mg base Be 2 aD.fHr aD.dHr ["word","ahead"] (cC K aM):=aX N T
 refine N.FIr.1.ok gW (fun vs H Q E h=>?_) (fun cdv A outer s H vs Q E hr h=>?_)
 ·obtain ⟨r,p,ro,us,ρ,rfl,_⟩:=h
  rfl
 ·obtain ⟨r,p,ro,us,ρ,rfl,hr0,hp,hR,hl,ok,q⟩:=h
  have hrWm:BV 6 _:=hr.mono (by decide)
  have hrHr:BV 2 _:=hr.mono (by decide)
  refine ⟨_,(Ae (Bt (PW.pt (Dr (Cj (Cy (BP Ci rfl T.isin PyProof.Rows.boot_isinstance (Aa (pv 0) (Aa (Do (v:=.ty "tuple") rfl T.tuple PyProof.Rows.boot_tuple rfl) Ac))))) (Dr (BR DG (BP Bb rfl T.len PySem.boot_len (Aa (pv 0) Ac)) Ab (BZ _)) (Ea (Cj (Cy (BP Ci rfl T.isin PyProof.Rows.boot_isinstance (Aa (Am (Aj (K:=K) rfl) (pv 0) Ab (fun _ _=>rfl)) (Aa (Do (v:=.ty "str") rfl T.str PyProof.Rows.boot_str rfl) Ac))))))))) (Ah (Av Ef)) Bd)
   (Ah (Av (Dy (Ai GWm hrWm rfl N.FWm.2.2 N.FWm.1.kp N.FWm.2.1 .nil Ao (Aa (pv 0) (Aa (pv 1) Ac))) (Dq (Ai GHr hrHr rfl N.FHr.2.2 N.FHr.1.kp N.FHr.2.1 .nil Ao (Aa (Am (Aj (K:=K) rfl) (pv 0) Ab (fun _ _=>rfl)) (Aa (pv 1) Ac)))))))),?_⟩
  have hroom:PySem.W.nsIn K aM ro.w=some none \/ ∃ (m:Int) (t:Tok),PySem.W.nsIn K aM ro.w=some (some (.int m t))/\(((us.filter (pw ρ ro.w)).length:Nat):Int)<m:=ok.room.elim (fun z=>.inl z.2) .inr
  refine ⟨_,rfl,_,"tuple",_,_,rfl,.tup hr0,Pu,_,rfl,Bj ?_⟩
  refine ⟨_,rfl,r,_,rfl,.inr (.inl (.inl hr0)),rfl,_,rfl,?_⟩
  refine Dn (fun z=>?_) (fun _=>?_)
  ·exfalso
   have:=of_decide_eq_true z
   have:=V.int.inj this
   simp at this
   omega
  refine ⟨_,rfl,r,_,_,_,rfl,rfl,.inl (.inl hr0),Af (j:=0) rfl,_,"str",_,_,rfl,.str _,Wx,_,rfl,Bj ?_⟩
  refine ⟨_,rfl,_,rfl,r,p,ro,us,ρ,rfl,hr0,hp,hR,hl,ok,fun H1 s1=>⟨_,rfl,CW ?_⟩⟩
  exact ⟨_,rfl,r,_,_,_,rfl,rfl,.inl (.inl (s1 _ _ hr0)),Af (j:=0) rfl,_,rfl,p,ro.w,us,ρ,rfl,s1 _ _ hp,hR.mono s1,hl,hroom,fun H2 s2=>q H2 (s1.trans s2)⟩
noncomputable def dX (K:PySem.W.Frag) (aB aP aM:Addr):Sp:=fun vs H Q _=>∃ (p:Addr) (us:List V) (ρ:V->R),vs=[.ref p]/\H p=some (.lst us)/\Rows H ρ us/\1<=us.length/\us.length<=150/\(∀ (i:Nat) v,us[i]? = some v->G7 K aB aP aM ρ (us.take i) (ρ v))/\(us.filter (pw ρ "board")).isEmpty=false/\∀ H',An H H'->Q .non H'
theorem YB:Aw ["rows","at","row"] ["rows"] (Ag iK):=Bo
include N T in
theorem Z6:Ar P w K mg base Be 8 aD.fCk aD.dCk ["rows"] (dX K aB aP aM):=by
 have GIr:Ar P w K mg base Be 7 aD.fIr aD.dIr ["thing","ahead"] (cP K aB aP aM):=dN N T
 have GRo:Ar P w K mg base Be 1 aD.fRo aD.dRo ["rows","word"] RM:=NP N T
 refine N.FCk.1.ok YB (fun vs H Q E h=>?_) (fun cdv A outer s H vs Q E hr h=>?_)
 ·obtain ⟨p,us,ρ,rfl,_⟩:=h
  rfl
 ·obtain ⟨p,us,ρ,rfl,hp,hR,h1,h2,hok,hb,q⟩:=h
  have hrIr:BV 7 _:=hr.mono (by decide)
  have hrRo:BV 1 _:=hr.mono (by decide)
  obtain ⟨tMR,hMR⟩:=T.mostR
  refine ⟨_,(Ae (Bt (PW.pt (Dr (Cj (Cy (BP Ci rfl T.isin PyProof.Rows.boot_isinstance (Aa (pv 0) (Aa (Do (v:=.ty "list") rfl T.list PyProof.Rows.boot_list rfl) Ac))))) (Ea (Cj (Ga Ew Ew Ab (BP Bb rfl T.len PySem.boot_len (Aa (pv 0) Ac)) (Dh (v:=.int 150) rfl hMR ⟨tMR,rfl⟩)))))) (Ah HY) Bd)
   (Ae (Cq PassesOwn.never rfl (Ib rfl T.enumerate (Aa (pv 0) Ac)) (GQ rfl (Bf (Ba (i:=1) YB.nd rfl (Or.inl rfl)) (Bf (Ba (i:=2) YB.nd rfl (Or.inl rfl)) Du))) (Ah (Bt (Cj (Cy (Ai GIr hrIr rfl N.FIr.2.2 N.FIr.1.kp N.FIr.2.1 .nil Ao (Aa (pv 2) (Aa (Dt Gp (pv 0) Ez (Cv (pv 1))) Ac))))) (Ah HY) Bd)))
   (Ah (Bt (Cj (Jv (Ai GRo hrRo rfl N.FRo.2.2 N.FRo.1.kp N.FRo.2.1 .nil Ao (Aa (pv 0) (Aa Br Ac))) (fun _=>rfl))) (Ah HY) Bd)))),?_⟩
  have hS:CK K H p us:=.inl (.inl hp)
  refine ⟨_,rfl,_,"list",_,_,rfl,.lst hp,Tg,_,rfl,Bj ?_⟩
  refine ⟨_,rfl,p,_,rfl,.inl hS,_,_,rfl,rfl,_,rfl,?_⟩
  refine Dn (fun _=>?_) (fun z=>absurd (decide_eq_true (by omega)) z)
  refine ⟨_,_,rfl,rfl,_,rfl,?_⟩
  have e150:decide ((us.length:Int)<=150)=true:=decide_eq_true (by omega)
  rw [e150]
  refine Bj ?_
  refine ⟨_,rfl,p,rfl,⟨_,hS⟩,Ip (K:=K) (a:=p) (xs:=us) (fun i σ H4=>An H H4/\∃ v1 v2,σ=[some (.ref p),v1,v2]) ⟨An.refl H,_,_,rfl⟩ (fun i σ H4 _ h=>h.1.seq hS) ?_ ?_⟩
  ·rintro i x σ H4 T0 hx ⟨s4,v1,v2,rfl⟩ hT
   have s5:=Az (o:=HO.tup [.int (i:Int),x]) hT
   refine ⟨T0,_,rfl,.inl (.inl Ak),rfl,_,_,rfl,_,_,rfl,rfl,?_⟩
   generalize upd H4 T0 (HO.tup [.int (i:Int),x])=H5 at s5 ⊢
   have s05:=s4.trans s5
   have hi:i<us.length:=(List.getElem?_eq_some_iff.mp hx).1
   obtain ⟨r,rfl,hr0⟩:=(hR.mono s05) x (List.mem_of_getElem? hx)
   refine ⟨_,rfl,_,rfl,_,rfl,_,rfl,p,_,rfl,s05.seq hS,fun p6 hp6=>?_⟩
   have s6:=Az (o:=HO.lst (De us none (some (i:Int)))) hp6
   have a6:upd H5 p6 (HO.lst (De us none (some (i:Int)))) p6=_:=Ak
   generalize upd H5 p6 (HO.lst (De us none (some (i:Int))))=H6 at s6 a6 ⊢
   rw [HW us i (by omega)] at a6
   have s06:=s05.trans s6
   refine ⟨r,p6,ρ (.ref r),us.take i,ρ,rfl,s6 _ _ hr0,a6,(hR.mono s06).sub fun v hv=>List.mem_of_mem_take hv,by rw [List.length_take]; omega,hok i _ hx,fun H7 s7=>⟨_,rfl,Bj ?_⟩⟩
   exact ⟨s06.trans s7,_,_,rfl⟩
  ·rintro σ H4 ⟨s4,v1,v2,rfl⟩
   refine ⟨_,rfl,p,us,"board",ρ,rfl,s4 _ _ hp,hR.mono s4,by omega,fun D H5 hD s5 hl5=>?_⟩
   refine ⟨_,.inl ⟨_,.inl (.inl hl5),rfl⟩,?_⟩
   rw [hb]
   exact Bj (q H5 (s4.trans s5))
noncomputable def cY:Sp:=fun vs H Q _=>∃ (p:Addr) (ts:List Str),vs=[.ref p]/\H p=some (.lst (ts.map V.str))/\ts.length<=300/\ts.Nodup/\∀ D (kvs:List (Key × V)) H',H D=none->An H H'->H' D=some (.dK kvs)->(∀ (i:Nat) t,ts[i]? = some t->Ds kvs (Sum.inr t)=some (.int (i:Nat)))->Q (.ref D) H'
theorem U5:Aw ["names","numbers","number","name"] ["names"] (Ag jJ):=Bo
include N T in
theorem dW:Ar P w K mg base Be 1 aD.fNu aD.dNu ["names"] cY:=by
 refine N.FNu.1.ok U5 (fun vs H Q E h=>?_) (fun cdv A outer s H vs Q E hr h=>?_)
 ·obtain ⟨p,ts,rfl,_⟩:=h
  rfl
 ·obtain ⟨p,ts,rfl,hp,hl,nd,q⟩:=h
  have hu:=Fy hr
  refine ⟨_,(Ae (Ax (i:=1) U5.nd rfl (Or.inl rfl) NB)
   (Ae (Cq PassesOwn.never rfl (Ib rfl T.enumerate (Aa (pv 0) Ac)) (GQ rfl (Bf (Ba (i:=2) U5.nd rfl (Or.inl rfl)) (Bf (Ba (i:=3) U5.nd rfl (Or.inl rfl)) Du))) (Ah (QK hu (pv 1) (pv 3) (pv 2) rfl)))
   (Ah (Av (pv 1))))),?_⟩
  intro D hD
  have s0:=Az (o:=HO.dK []) hD
  have hS:CK K H p (ts.map V.str):=.inl (.inl hp)
  refine ⟨_,rfl,p,rfl,⟨_,s0.seq hS⟩,Ip (K:=K) (a:=p) (xs:=ts.map V.str) (fun i σ H4=>An H H4/\∃ (kvs:List (Key × V)),H4 D=some (.dK kvs)/\kvs.length<=i/\(∀ (j:Nat) t,j<i->ts[j]? = some t->Ds kvs (Sum.inr t)=some (.int (j:Nat)))/\∃ v2 v3,σ=[some (.ref p),some (.ref D),v2,v3])
   ⟨s0,[],Ak,Nat.le_refl _,fun j t hj=>absurd hj (Nat.not_lt_zero _),_,_,rfl⟩ (fun i σ H4 _ h=>h.1.seq hS) ?_ ?_⟩
  ·rintro i x σ H4 T0 hx ⟨s4,kvs,hd,hk,hv,v2,v3,rfl⟩ hT
   rw [List.getElem?_map] at hx
   obtain ⟨t,ht,rfl⟩:=Option.map_eq_some_iff.mp hx
   have hi:i<ts.length:=(List.getElem?_eq_some_iff.mp ht).1
   have s5:=Az (o:=HO.tup [.int (i:Int),.str t]) hT
   refine ⟨T0,_,rfl,.inl (.inl Ak),rfl,_,_,rfl,_,_,rfl,rfl,?_⟩
   generalize upd H4 T0 (HO.tup [.int (i:Int),.str t])=H5 at s5 ⊢
   refine ⟨_,rfl,_,rfl,_,rfl,D,_,rfl,Qx.k (k:=Sum.inr t) (s5 _ _ hd) (BJ (by omega)),?_⟩
   refine ⟨fun b u e=>?_,putK kvs (Sum.inr t) (.int (i:Int)),Ak,Nat.le_trans (Fz _ _ _) (by omega),fun j t' hj ht'=>?_,_,_,rfl⟩
   ·rw [BW (BL e hD)]
    exact s5 _ _ (s4 _ _ e)
   ·rw [Tp]
    by_cases e:t'=t
    ·subst e
     have:j=i:=by
      obtain ⟨h1,e1⟩:=List.getElem?_eq_some_iff.mp ht'
      obtain ⟨h2,e2⟩:=List.getElem?_eq_some_iff.mp ht
      exact (List.getElem_inj nd).mp (e1.trans e2.symm)
     subst this
     rw [if_pos rfl]
    ·rw [if_neg fun z=>e (Sum.inr.inj z)]
     refine hv j t' ?_ ht'
     rcases Nat.lt_succ_iff_lt_or_eq.mp hj with z | z
     ·exact z
     ·subst z
      rw [ht] at ht'
      exact absurd (Option.some.inj ht').symm e
  ·rintro σ H4 ⟨s4,kvs,hd,hk,hv,v2,v3,rfl⟩
   refine ⟨_,rfl,q D kvs H4 hD s4 hd fun i t ht=>hv i t ?_ ht⟩
   rw [List.length_map]
   exact (List.getElem?_eq_some_iff.mp ht).1
noncomputable def XD:Sp:=fun vs H Q _=>∃ (p:Addr) (as:List Th) (us:List V),vs=[.ref p]/\H p=some (.lst us)/\Paired (fun (a:Th) y=>TupAt H (tV a) y) as us/\as.length<=500/\(∀ a∈as,a.2.1<=100)/\∀ H',An H H'->Q (.int ((as.map fun a=>a.2.1).sum:Nat)) H'
theorem Fw:∀ l:List Nat,(l.map fun n:Nat=>(n:Int)).sum=((l.sum:Nat):Int)
 | []=>rfl
 | n::l=>by
  rw [List.map_cons,List.sum_cons,List.sum_cons,Fw l]
  omega
theorem j8:Aw ["things"] ["things"] (Ag fD):=Bo
include N T in
theorem Wa:Ar P w K mg base Be 1 aD.fCa aD.dCa ["things"] XD:=by
 refine N.FCa.1.ok j8 (fun vs H Q E h=>?_) (fun cdv A outer s H vs Q E hr h=>?_)
 ·obtain ⟨p,as,us,rfl,_⟩:=h
  rfl
 ·obtain ⟨p,as,us,rfl,hp,hb,hl,hz,q⟩:=h
  refine ⟨_,(Ah (Av (BP (Fv rfl) rfl T.sum PyProof.Rows.boot_sum (Aa (Bu rfl (Bc (osc:=Ag fD) (N:=["things"]) rfl rfl (by decide +kernel)) (Bg (pv 0)) (fun _ _ _ _=>Cd) (fun _ _ _ _=>(Am (Aj (K:=K) rfl) (pv 0) Ab (fun _ _=>rfl)))) Ac)))),?_⟩
  have hS:CK K H p us:=.inl (.inl hp)
  have hul:=hb.length
  refine ⟨_,rfl,p,rfl,⟨_,hS⟩,Ca (K:=K) (xs:=us) (fun _=>true) (J6 H 1) hS (BJ (by omega)) (fun x hx H' hs R k=>k H' (An.refl H')) (fun x hx _ H' hs R k=>?_) (fun D H' hD hs hl'=>?_)⟩
  ·obtain ⟨b,_,hx'⟩:=DQ hb hx
   have e:=Gr hx' 1
   obtain ⟨T0,rfl,hT⟩:=hx'.mono hs
   refine ⟨_,rfl,T0,_,_,_,rfl,rfl,.inl (.inl hT),Af (j:=1) rfl,?_⟩
   have:=k H' (An.refl H')
   rw [e] at this
   exact this
  ·rw [List.filter_eq_self.mpr (fun _ _=>rfl),Jg 1 hb] at hl'
   have e:(as.map fun a=>(tV a).getD 1 V.non)=((as.map fun a=>a.2.1).map fun n:Nat=>(n:Int)).map V.int:=by
    rw [List.map_map,List.map_map]
    rfl
   rw [e] at hl'
   refine ⟨D,_,rfl,.inl (.inl hl'),fun n hn=>?_,by simp; omega,?_⟩
   ·obtain ⟨m,hm,rfl⟩:=List.mem_map.mp hn
    obtain ⟨b,hb',rfl⟩:=List.mem_map.mp hm
    have:=hz b hb'
    omega
   ·rw [Fw]
    exact q H' hs
theorem ZW {n:Nat} (h:n<=3000):n<sizeLine:=Nat.lt_of_le_of_lt h (by decide)
noncomputable def Za:Sp:=fun vs H Q _=>∃ (p:Addr) (as:List Th) (us:List V),vs=[.ref p]/\H p=some (.lst us)/\Paired (fun (a:Th) y=>TupAt H (tV a) y) as us/\as.length<=12/\(∀ a∈as,a.2.1<=97)/\∀ D ys H',H D=none->An H H'->H' D=some (.lst ys)->Paired (fun q y=>TupAt H' (qV q) y) (Ec (as.map tN)) ys->Q (.ref D) H'
theorem VJ:Aw ["things","places","number","thing"] ["things"] (Ag d_):=Bo
include N T in
theorem aA:Ar P w K mg base Be 1 aD.fPl aD.dPl ["things"] Za:=by
 refine N.FPl.1.ok VJ (fun vs H Q E h=>?_) (fun cdv A outer s H vs Q E hr h=>?_)
 ·obtain ⟨p,as,us,rfl,_⟩:=h
  rfl
 ·obtain ⟨p,as,us,rfl,hp,hb,hl,hz,q⟩:=h
  refine ⟨_,(Ae (Ax (i:=1) VJ.nd rfl (Or.inl rfl) (Df Ac))
   (Ae (Cq PassesOwn.never rfl (Ib rfl T.enumerate (Aa (pv 0) Ac)) (GQ rfl (Bf (Ba (i:=2) VJ.nd rfl (Or.inr rfl)) (Bf (Ba (i:=3) VJ.nd rfl (Or.inl rfl)) Du))) (Ah (DW (Ex PySem.F.plainAttrs_list PySem.F.slot_list_extend PySem.F.type_list_extend Qa (pv 1) (Aa (Bu rfl (Bc (osc:=Ag d_) (N:=["things","places","number","thing"]) rfl rfl (by decide +kernel)) (CN rfl T.range (Aa (Am (Aj (K:=K) rfl) (pv 3) Ab (fun _ _=>rfl)) Ac)) (fun _ _ _ _=>Cd) (fun _ _ _ _=>(CV (Aa (pv 3) (Aa (pv 0) Ac))))) Ac)))))
   (Ah (Av (pv 1))))),?_⟩
  refine ⟨Dd (by simp),fun D hD=>?_⟩
  have s0:=Az (o:=HO.lst []) hD
  have hS:CK K H p us:=.inl (.inl hp)
  have hul:=hb.length
  refine ⟨_,rfl,p,rfl,⟨_,s0.seq hS⟩,Ip (K:=K) (a:=p) (xs:=us) (fun i σ H4=>An H H4/\∃ ys,H4 D=some (.lst ys)/\Paired (fun q y=>TupAt H4 (qV q) y) (Ec ((as.map tN).take i)) ys/\∃ v2 v3,σ=[some (.ref p),some (.ref D),v2,v3])
   ⟨s0,[],Ak,.nil,_,_,rfl⟩ (fun i σ H4 _ h=>h.1.seq hS) ?_ ?_⟩
  ·rintro i x σ H4 T0 hx ⟨s4,ys,hd,hpr,v2,v3,rfl⟩ hT
   obtain ⟨b,hbi,hxb⟩:=En hb hx
   have hi:i<as.length:=(List.getElem?_eq_some_iff.mp hbi).1
   have hb97:=hz b (List.mem_of_getElem? hbi)
   have hbi':(as.map tN)[i]? = some (tN b):=by rw [List.getElem?_map,hbi]; rfl
   have s5:=Az (o:=HO.tup [.int (i:Int),x]) hT
   refine ⟨T0,_,rfl,.inl (.inl Ak),rfl,_,_,rfl,_,_,rfl,rfl,?_⟩
   generalize upd H4 T0 (HO.tup [.int (i:Int),x])=H5 at s5 ⊢
   obtain ⟨r,rfl,hr0⟩:=hxb.mono (s4.trans s5)
   have p5:=Al s5 hpr
   have d5:=s5 _ _ hd
   refine ⟨_,rfl,.inl ⟨rfl,_,.inl (.inl d5)⟩,_,rfl,r,_,_,_,rfl,rfl,.inl (.inl hr0),Af (j:=1) rfl,_,rfl,by omega,by omega,?_⟩
   rw [Int.toNat_natCast]
   refine Kp (n:=b.2.1) (fun e=>qV (i,e)) (BJ (by omega)) (fun e he H6 s6 R k=>?_) (fun D6 H6 zs hD6 s6 hl6 hz6=>?_)
   ·refine ⟨_,rfl,_,rfl,by show 2<=sizeLine; decide,fun T6 hT6=>?_⟩
    exact k _ _ (Az hT6) ⟨T6,rfl,Ak⟩
   ·have ly:=(Al s6 p5).length
    have lz:=hz6.length
    have lp:=LQ ((as.map tN).take i) 97 fun b hb=>by
     obtain ⟨a,ha,rfl⟩:=List.mem_map.mp (List.mem_of_mem_take hb)
     exact hz a ha
    rw [List.length_take,List.length_map] at lp
    rw [List.length_range] at lz
    have:min i as.length * 97<=12 * 97:=Nat.mul_le_mul_right _ (by omega)
    refine ⟨D,D6,ys,zs,rfl,rfl,s6 _ _ d5,hl6,Nat.le_of_lt (ZW (by omega)),?_⟩
    refine ⟨fun b u e=>?_,ys++zs,Ak,?_,_,_,rfl⟩
    ·rw [BW (BL e hD)]
     exact s6 _ _ (s5 _ _ (s4 _ _ e))
    ·rw [G5 hbi']
     exact Ff (B_ (Al s6 p5) (s6 _ _ d5)) (By (F:=fun q y=>TupAt _ (qV q) y) (fun e=>(i,e)) (B_ hz6 (s6 _ _ d5)))
  ·rintro σ H4 ⟨s4,ys,hd,hpr,v2,v3,rfl⟩
   rw [← hul,List.take_of_length_le (by rw [List.length_map]; exact Nat.le_refl _)] at hpr
   exact ⟨_,rfl,q D ys H4 hD s4 hd hpr⟩
theorem WF {α:Type} (l:List α) (x:α):Nb (l++[x]) (-1)=some x:=by
 unfold Nb Wl
 rw [if_neg (by decide),if_pos (by rw [List.length_append,List.length_singleton]; omega)]
 show (l++[x])[(-1+(((l++[x]).length:Nat):Int)).toNat]? = some x
 have e:(-1+(((l++[x]).length:Nat):Int)).toNat=l.length:=by
  rw [List.length_append,List.length_singleton]
  omega
 rw [e,List.getElem?_append_right (Nat.le_refl _),Nat.sub_self]
 rfl
theorem J5 {H:Hp} {l:List Ln} {v:V} {A:Addr} {xs ys:List V} (h:Hu H l v) (hA:H A=some (.lst xs)) (hv:v ≠ .ref A):Hu (upd H A (.lst ys)) l v:=by
 obtain ⟨B,ts,rfl,h1,h2⟩:=h
 have:B ≠ A:=fun z=>hv (by rw [z])
 exact ⟨B,ts,rfl,by rw [BW this]; exact h1,B_ h2 hA⟩
theorem Hf {α β:Type} {F G:α->β->Prop}:∀ {l:List α} {vs:List β},Paired F l vs->(∀ a b,b∈vs->F a b->G a b)->Paired G l vs
 | [],_,h,_=>by cases h; exact .nil
 | a::l,_,h,k=>by
  cases h with
  | cons x y=>exact .cons (k _ _ (List.mem_cons_self ..) x) (Hf y fun a b hb=>k a b (List.mem_cons_of_mem _ hb))
theorem Il {α β:Type} {F:α->β->Prop}:∀ {l:List α} {z:α} {vs:List β},Paired F (l++[z]) vs->∃ us u,vs=us++[u]/\Paired F l us/\F z u
 | [],z,_,h=>by
  cases h with
  | cons x y=>cases y; exact ⟨[],_,rfl,.nil,x⟩
 | a::l,z,_,h=>by
  cases h with
  | cons x y =>
   obtain ⟨us,u,rfl,h1,h2⟩:=Il y
   exact ⟨_::us,u,rfl,.cons x h1,h2⟩
theorem Er {α:Type} {l:List α} (h:l ≠ []):∃ a z,l=a++[z]:=⟨l.dropLast,l.getLast h,(List.dropLast_concat_getLast h).symm⟩
theorem Nm {rk:List (Str × Nat × Int)}:∀ {rs:List R},(∃ r∈rs,JP r.w=true)->linesOf rk rs ≠ []:=by
 have key:∀ (n:Nat) (rs:List R),rs.length=n->(∃ r∈rs,JP r.w=true)->linesOf rk rs ≠ []:=by
  intro n
  induction n with
  | zero =>
   rintro rs hl ⟨r,hr,_⟩
   cases rs with
   | nil=>cases hr
   | cons a b=>cases hl
  | succ n ih =>
   rintro rs hl ⟨r,hr,hk⟩
   obtain ⟨a,z,rfl⟩:=Er (l:=rs) (by intro e; rw [e] at hl; cases hl)
   rw [CZ]
   rw [List.length_append,List.length_singleton] at hl
   unfold GR
   by_cases hz:JP z.w=true
   ·rw [if_pos hz]
    simp
   ·rw [if_neg hz]
    have hr':r∈a:=by
     rcases List.mem_append.mp hr with h | h
     ·exact h
     ·rw [List.mem_singleton.mp h] at hk
      exact absurd hk hz
    have ih':=ih a (by omega) ⟨r,hr',hk⟩
    split
    ·obtain ⟨b,y,e⟩:=Er ih'
     rw [e,Hh]
     simp
    ·exact ih'
 exact fun {rs} h=>key rs.length rs rfl h
noncomputable def bA:Sp:=fun vs H Q _=>∃ (p d:Addr) (us:List V) (ρ:V->R) (rk:List (Str × Nat × Int)) (kvs:List (Key × V)),vs=[.ref p,.ref d]/\H p=some (.lst us)/\Rows H ρ us/\us.length<=500/\H d=some (.dK kvs)/\(∀ (i:Nat) r,rk[i]? = some r->Ds kvs (Sum.inr r.1)=some (.int (i:Nat)))/\(rk.map (·.1)).Nodup /\
 (∀ (i:Nat) v,us[i]? = some v->(ρ v).w = "line"->(∃ (j:Nat) (r:Str × Nat × Int) (sh lo hi:Int),rk[j]? = some r/\r.1=(ρ v).nm/\(ρ v).rest=[.int sh,.int lo,.int hi])/\∃ u∈us.take i,JP (ρ u).w=true)/\∀ D H',H D=none->An H H'->Gw H' D (linesOf rk (us.map ρ))->Q (.ref D) H'
theorem Xr {rk:List (Str × Nat × Int)} {j:Nat} {r:Str × Nat × Int} (nd:(rk.map (·.1)).Nodup) (h:rk[j]? = some r):(rk.map (·.1)).idxOf r.1=j:=by
 have hj:j<(rk.map (·.1)).length:=by rw [List.length_map]; exact (List.getElem?_eq_some_iff.mp h).1
 have e:(rk.map (·.1))[j]=r.1:=by
  rw [List.getElem_map]
  exact congrArg (·.1) (List.getElem?_eq_some_iff.mp h).2
 rw [← e]
 exact List.Nodup.idxOf_getElem nd j hj
theorem XH:Aw ["rows","rank_numbers","lines","row"] ["rows","rank_numbers"] (Ag jw):=Bo
include N T in
theorem ZQ:Ar P w K mg base Be 1 aD.fLi aD.dLi ["rows","rank_numbers"] bA:=by
 refine N.FLi.1.ok XH (fun vs H Q E h=>?_) (fun cdv A outer s H vs Q E hr h=>?_)
 ·obtain ⟨p,d,us,ρ,rk,kvs,rfl,_⟩:=h
  rfl
 ·obtain ⟨p,d,us,ρ,rk,kvs,rfl,hp,hR,hl,hdk,hval,hnd,hln,q⟩:=h
  have hu:=Fy hr
  refine ⟨_,(Ae (Ax (i:=2) XH.nd rfl (Or.inl rfl) (Df Ac))
   (Ae (Cq PassesOwn.never rfl (Bg (pv 0)) (Ba (i:=3) XH.nd rfl (Or.inl rfl)) (Ae (Bt (BR (Jq (K:=K) rfl) (Am (Aj (K:=K) rfl) (pv 3) Ab (fun _ _=>rfl)) (Dh (v:=.ref aK) rfl T.mK rfl) rfl) (Ah (DW (Ex PySem.F.plainAttrs_list PySem.F.slot_list_append PySem.F.type_list_append CG (pv 2) (Aa (Df Ac) Ac)))) Bd)
   (Ah (Bt (BR DG (Am (Aj (K:=K) rfl) (pv 3) Ab (fun _ _=>rfl)) Br (BZ _)) (Ah (DW (Ex PySem.F.plainAttrs_list PySem.F.slot_list_append PySem.F.type_list_append CG (Am (A_ (K:=K) rfl) (pv 2) (Ha Fe Ab) (fun _ _=>rfl)) (Aa (CV (Aa (Ek hu (pv 1) (Am (Aj (K:=K) rfl) (pv 3) Ab (fun _ _=>rfl)) (fun _ _=>rfl)) (Aa (Am (Aj (K:=K) rfl) (pv 3) Ab (fun _ _=>rfl)) (Aa (Am (Aj (K:=K) rfl) (pv 3) Ab (fun _ _=>rfl)) (Aa (Am (Aj (K:=K) rfl) (pv 3) Ab (fun _ _=>rfl)) Ac))))) Ac)))) Bd))))
   (Ah (Av (pv 2))))),?_⟩
  refine ⟨Dd (by simp),fun D hD=>?_⟩
  have s0:=Az (o:=HO.lst []) hD
  have hS:CK K H p us:=.inl (.inl hp)
  refine ⟨_,rfl,p,rfl,⟨_,s0.seq hS⟩,Dl (K:=K) (a:=p) (xs:=us) (fun i σ H4=>An H H4/\∃ lv,H4 D=some (.lst lv)/\Paired (fun l v=>Hu H4 l v) (linesOf rk ((us.take i).map ρ)) lv/\lv.Nodup/\(∀ v∈lv,v ≠ .ref D)/\(∀ v∈lv,∃ A,v=.ref A/\H A=none)/\lv.length<=i/\(∀ l∈linesOf rk ((us.take i).map ρ),l.length<=i)/\∃ v3,σ=[some (.ref p),some (.ref d),some (.ref D),v3])
   ⟨s0,[],Ak,.nil,List.nodup_nil,(fun v hv=>nomatch hv),(fun v hv=>nomatch hv),Nat.le_refl _,(fun l hl=>nomatch hl),_,rfl⟩ (fun i σ H4 _ h=>h.1.seq hS) ?_ ?_⟩
  ·rintro i x σ H4 hx ⟨s4,lv,hd,hpr,nd,hne,hA0,hlv,hll,v3,rfl⟩
   have hm:=List.mem_of_getElem? hx
   have hi:i<us.length:=(List.getElem?_eq_some_iff.mp hx).1
   obtain ⟨r,rfl,hr0⟩:=(hR.mono s4) x hm
   have etake:(us.take (i+1)).map ρ=(us.take i).map ρ++[ρ (.ref r)]:=by
    rw [List.take_add_one,hx,List.map_append]
    rfl
   have est:linesOf rk ((us.take (i+1)).map ρ)=GR rk (linesOf rk ((us.take i).map ρ)) (ρ (.ref r)):=by rw [etake,CZ]
   have lvl:(linesOf rk ((us.take i).map ρ)).length=lv.length:=hpr.length
   by_cases hk:JP (ρ (.ref r)).w=true
   ·have hnl:¬ (ρ (.ref r)).w = "line":=fun z=>by rw [z] at hk; exact absurd hk (by decide +kernel)
    have est2:linesOf rk ((us.take (i+1)).map ρ)=linesOf rk ((us.take i).map ρ)++[[]]:=by rw [est]; unfold GR; rw [if_pos hk]
    refine ⟨_,rfl,r,_,_,_,rfl,rfl,.inl (.inl hr0),Af (j:=0) rfl,aK,_,rfl,.inr (T.tK.sq _),rfl,rfl,_,rfl,?_⟩
    refine Dn (fun _=>?_) (fun z=>absurd hk z)
    refine ⟨_,rfl,.inl ⟨rfl,_,.inl (.inl hd)⟩,Dd (by simp),fun p5 hp5=>?_⟩
    obtain ⟨H5,eqH,s5,u5⟩:=JS (o:=HO.lst []) hp5
    rw [eqH]
    have hd5:=s5 _ _ hd
    refine ⟨D,lv,_,rfl,rfl,hd5,BJ (by omega),?_⟩
    have hrD:r ≠ D:=W4 (s5 _ _ hr0) hd5 (by intro z; cases z)
    have hpD:p5 ≠ D:=fun z=>by rw [z,hd] at hp5; cases hp5
    refine ⟨_,rfl,r,_,_,_,rfl,rfl,.inl (.inl (by rw [BW hrD]; exact s5 _ _ hr0)),Af (j:=0) rfl,rfl,_,rfl,?_⟩
    refine Dn (fun z=>absurd (V.str.inj (of_decide_eq_true z)) hnl) (fun _=>?_)
    refine ⟨fun b u e=>?_,lv++[.ref p5],Ak,?_,?_,?_,?_,by simp; omega,?_,_,rfl⟩
    ·rw [BW (BL e hD)]
     exact s5 _ _ (s4 _ _ e)
    ·rw [est2]
     refine Ff (Hf hpr fun l v hv h=>J5 (h.mono s5) hd5 (hne v hv)) (.cons ⟨p5,[],rfl,by rw [BW hpD]; exact u5,.nil⟩ .nil)
    ·refine QC nd fun hm=>?_
     obtain ⟨l,_,hA⟩:=DQ hpr hm
     obtain ⟨A,ts,e,h1,_⟩:=hA
     cases e
     rw [h1] at hp5
     cases hp5
    ·intro v hv
     rcases List.mem_append.mp hv with h | h
     ·exact hne v h
     ·rw [List.mem_singleton.mp h]
      intro z
      exact hpD (V.ref.inj z)
    ·intro v hv
     rcases List.mem_append.mp hv with h | h
     ·exact hA0 v h
     ·exact ⟨p5,List.mem_singleton.mp h,s4.free hp5⟩
    ·intro l hl'
     rw [est2] at hl'
     rcases List.mem_append.mp hl' with h | h
     ·exact Nat.le_succ_of_le (hll l h)
     ·rw [List.mem_singleton.mp h]
      exact Nat.zero_le _
   ·refine ⟨_,rfl,r,_,_,_,rfl,rfl,.inl (.inl hr0),Af (j:=0) rfl,aK,_,rfl,.inr (T.tK.sq _),rfl,rfl,_,rfl,?_⟩
    refine Dn (fun z=>absurd z hk) (fun _=>?_)
    refine ⟨_,rfl,r,_,_,_,rfl,rfl,.inl (.inl hr0),Af (j:=0) rfl,rfl,_,rfl,?_⟩
    by_cases hwl:(ρ (.ref r)).w = "line"
    ·refine Dn (fun _=>?_) (fun z=>absurd (decide_eq_true (congrArg V.str hwl)) z)
     obtain ⟨⟨j,rr,sh,lo,hi',hj,hnm,hrest⟩,u,hu,hku⟩:=hln i _ hx hwl
     have hne0:linesOf rk ((us.take i).map ρ) ≠ []:=Nm ⟨ρ u,List.mem_map_of_mem hu,hku⟩
     obtain ⟨ac,z,eac⟩:=Er hne0
     rw [eac] at hpr
     obtain ⟨lv',v,rfl,hpr',hz⟩:=Il hpr
     obtain ⟨A,ts,rfl,hA,htp⟩:=hz
     have est2:linesOf rk ((us.take (i+1)).map ρ)=ac++[z++[⟨j,sh,lo,hi'⟩]]:=by
      rw [est]
      unfold GR
      rw [if_neg hk,if_pos hwl,eac,Hh]
      unfold lnOf
      rw [hrest,← hnm,Xr hnd hj]
     have hr1:H4 r=some (.tup [.str (ρ (.ref r)).w,.str (ρ (.ref r)).nm,.int sh,.int lo,.int hi']):=by rw [hr0,← hrest]
     have g:=GF.k (k:=Sum.inr rr.1) (s4 _ _ hdk)
     rw [hval j rr hj,hnm] at g
     have hAD:A ≠ D:=fun e=>hne (.ref A) (by simp) (by rw [e])
     have hzl:z.length<=i:=hll z (by rw [eac]; simp)
     have htl:=htp.length
     refine ⟨_,rfl,_,rfl,D,_,_,_,rfl,rfl,.inl (.inl hd),WF lv' (V.ref A),.inl ⟨rfl,_,.inl (.inl hA)⟩,_,rfl,_,rfl,r,_,_,_,rfl,rfl,.inl (.inl hr1),Af (j:=1) rfl,d,_,rfl,g,_,rfl,r,_,_,_,rfl,rfl,.inl (.inl hr1),Af (j:=2) rfl,_,rfl,r,_,_,_,rfl,rfl,.inl (.inl hr1),Af (j:=3) rfl,_,rfl,r,_,_,_,rfl,rfl,.inl (.inl hr1),Af (j:=4) rfl,by show 4<=sizeLine; decide,fun T5 hT5=>?_⟩
     obtain ⟨H5,eqH,s5,u5⟩:=JS (o:=HO.tup [.int (j:Nat),.int sh,.int lo,.int hi']) hT5
     rw [eqH]
     have hA5:=s5 _ _ hA
     have hTA:T5 ≠ A:=fun e=>by rw [e,hA] at hT5; cases hT5
     have hdj:D ≠ A:=fun e=>hAD e.symm
     obtain ⟨nd1,_,hdisj⟩:=List.nodup_append.mp nd
     refine ⟨A,ts,_,rfl,rfl,hA5,BJ (by omega),?_⟩
     refine ⟨fun b u e=>?_,lv'++[.ref A],by rw [BW hdj]; exact s5 _ _ hd,?_,nd,hne,hA0,by omega,?_,_,rfl⟩
     ·obtain ⟨A',eA,hA'⟩:=hA0 (.ref A) (by simp)
      cases eA
      rw [BW (BL e hA')]
      exact s5 _ _ (s4 _ _ e)
     ·rw [est2]
      refine Ff (Hf hpr' fun l v hv h=>J5 (h.mono s5) hA5 (fun e=>hdisj v hv _ (List.mem_singleton.mpr rfl) e)) (.cons ⟨A,ts++[.ref T5],rfl,Ak,Ff (B_ (Al s5 htp) hA5) (.cons ⟨T5,rfl,by rw [BW hTA]; exact u5⟩ .nil)⟩ .nil)
     ·intro l hl'
      rw [est2] at hl'
      rcases List.mem_append.mp hl' with h | h
      ·exact Nat.le_succ_of_le (hll l (by rw [eac]; exact List.mem_append_left _ h))
      ·rw [List.mem_singleton.mp h,List.length_append,List.length_singleton]
       omega
    ·refine Dn (fun z=>absurd (V.str.inj (of_decide_eq_true z)) hwl) (fun _=>?_)
     have est2:linesOf rk ((us.take (i+1)).map ρ)=linesOf rk ((us.take i).map ρ):=by rw [est]; unfold GR; rw [if_neg hk,if_neg hwl]
     rw [← est2] at hpr hll
     exact ⟨s4,lv,hd,hpr,nd,hne,hA0,by omega,fun l hl'=>Nat.le_succ_of_le (hll l hl'),_,rfl⟩
  ·rintro σ H4 ⟨s4,lv,hd,hpr,nd,hne,hA0,hlv,hll,v3,rfl⟩
   rw [List.take_length] at hpr
   exact ⟨_,rfl,q D H4 hD s4 ⟨lv,hd,hpr⟩⟩
noncomputable abbrev Uv:List Str:=["row_list","board_list","rank_list","knob_rows","board_numbers","rank_numbers","knob_numbers","key_places","pipe_places","knob_lines","step_sets"]
theorem D_:∀ m∈meths,∀ f∈Uv,¬ m=f:=by decide +kernel
theorem Np {H H':Hp} {D x C dx:Addr} {fs:List (Str × V)} {ls:List (List Ln)} (h:Gw H D ls) (s:SX x H H') (hx:H x=some (.ins C dx fs)):Gw H' D ls:=by
 obtain ⟨lv,h1,h2⟩:=h
 refine ⟨lv,s.lst hx h1,Paired.Et h2 fun _ _ q=>?_⟩
 obtain ⟨A,ts,e,h3,h4⟩:=q
 exact ⟨A,ts,e,s.lst hx h3,s.pair hx h4⟩
theorem RK {rk:List (Str × Nat × Int)} {ρ:V->R} {us:List V} {P1:Nat->V->Prop} (h:∀ (i:Nat) v,us[i]? = some v->(ρ v).w = "line"->P1 i v/\∃ u∈us.take i,JP (ρ u).w=true):(linesOf rk (us.map ρ)).length=(us.filter (fun v=>JP (ρ v).w)).length:=by
 have key:∀ n,n<=us.length->(linesOf rk ((us.take n).map ρ)).length=((us.take n).filter (fun v=>JP (ρ v).w)).length:=by
  intro n
  induction n with
  | zero=>intro _; rfl
  | succ n ih =>
   intro hn
   have hx:=List.getElem?_eq_getElem (l:=us) (i:=n) (by omega)
   rw [List.take_add_one,hx,List.map_append]
   show (linesOf rk ((us.take n).map ρ++[ρ us[n]])).length=((us.take n++[us[n]]).filter _).length
   rw [CZ,List.filter_append,List.length_append,← ih (by omega)]
   unfold GR
   by_cases hk:JP (ρ us[n]).w=true
   ·rw [if_pos hk,List.filter_cons,if_pos hk]
    simp
   ·rw [if_neg hk,List.filter_cons,if_neg hk]
    by_cases hl:(ρ us[n]).w = "line"
    ·rw [if_pos hl]
     obtain ⟨_,u,hu,hku⟩:=h n _ hx hl
     obtain ⟨a,z,e⟩:=Er (Nm (rk:=rk) ⟨ρ u,List.mem_map_of_mem hu,hku⟩)
     rw [e,Hh]
     simp
    ·rw [if_neg hl]
     simp
 have:=key us.length (Nat.le_refl _)
 rw [List.take_length] at this
 exact this
noncomputable def cD (K:PySem.W.Frag) (aB aP aM C:Addr):Sp:=fun vs H Q _=>∃ (x dx p:Addr) (us:List V) (ρ:V->R) (bs:List (Str × Nat)) (rk:List (Str × Nat × Int)) (ks:List R),vs=[.ref x,.ref p]/\H x=some (.ins C dx [])/\H p=some (.lst us)/\Rows H ρ us/\fG K aB aP aM ρ us bs rk ks/\∀ H',Cw C H' x bs rk ks (linesOf rk (us.map ρ))->SX x H H'->Q .non H'
theorem kY:Aw ["self","rows"] ["self","rows"] (Ag Ur):=Bo
include N T in
theorem bf:Ar P w K mg base Be 9 aD.fOi aD.dOi ["self","rows"] (cD K aB aP aM C):=by
 have GCk:Ar P w K mg base Be 8 aD.fCk aD.dCk ["rows"] (dX K aB aP aM):=Z6 N T
 have GRo:Ar P w K mg base Be 1 aD.fRo aD.dRo ["rows","word"] RM:=NP N T
 have GNu:Ar P w K mg base Be 1 aD.fNu aD.dNu ["names"] cY:=dW N T
 have GPl:Ar P w K mg base Be 1 aD.fPl aD.dPl ["things"] Za:=aA N T
 have GLi:Ar P w K mg base Be 1 aD.fLi aD.dLi ["rows","rank_numbers"] bA:=ZQ N T
 refine N.FOi.1.ok kY (fun vs H Q E h=>?_) (fun cdv A outer s H vs Q E hr h=>?_)
 ·obtain ⟨x,dx,p,us,ρ,bs,rk,ks,rfl,_⟩:=h
  rfl
 ·obtain ⟨x,dx,p,us,ρ,bs,rk,ks,rfl,hx,hp,hR,O,q⟩:=h
  have hrCk:BV 8 _:=hr.mono (by decide)
  have hrRo:BV 1 _:=hr.mono (by decide)
  have hrNu:BV 1 _:=hr.mono (by decide)
  have hrPl:BV 1 _:=hr.mono (by decide)
  have hrLi:BV 1 _:=hr.mono (by decide)
  refine ⟨_,(Ae (DW (Ai GCk hrCk rfl N.FCk.2.2 N.FCk.1.kp N.FCk.2.1 .nil Ao (Aa (pv 1) Ac)))
   (Ae (Fi (pv 0) (Dz E_ rfl T.list PyProof.Rows.boot_list (Aa (pv 1) Ac)) rfl)
   (Ae (Fi (pv 0) (Bu rfl (Bc (osc:=Ag Ur) (N:=["self","rows"]) rfl rfl (by decide +kernel)) (Bg (Ai GRo hrRo rfl N.FRo.2.2 N.FRo.1.kp N.FRo.2.1 .nil Ao (Aa (pv 1) (Aa Br Ac)))) (fun _ _ _ _=>Cd) (fun _ _ _ _=>(CV (Aa (Am (Aj (K:=K) rfl) (pv 0) Ab (fun _ _=>rfl)) (Aa (Am (Aj (K:=K) rfl) (pv 0) Ab (fun _ _=>rfl)) Ac))))) rfl)
   (Ae (Fi (pv 0) (Bu rfl (Bc (osc:=Ag Ur) (N:=["self","rows"]) rfl rfl (by decide +kernel)) (Bg (Ai GRo hrRo rfl N.FRo.2.2 N.FRo.1.kp N.FRo.2.1 .nil Ao (Aa (pv 1) (Aa Br Ac)))) (fun _ _ _ _=>Cd) (fun _ _ _ _=>(CV (Aa (Am (Aj (K:=K) rfl) (pv 0) Ab (fun _ _=>rfl)) (Aa (Am (Aj (K:=K) rfl) (pv 0) Ab (fun _ _=>rfl)) (Aa (Am (Aj (K:=K) rfl) (pv 0) Ab (fun _ _=>rfl)) Ac)))))) rfl)
   (Ae (Fi (pv 0) (Bu rfl (Bc (osc:=Ag Ur) (N:=["self","rows"]) rfl rfl (by decide +kernel)) (Bg (pv 1)) (fun _ _ _ _=>(Ft (BR (Jq (K:=K) rfl) (Am (Aj (K:=K) rfl) (pv 0) Ab (fun _ _=>rfl)) (Dh (v:=.ref aK) rfl T.mK rfl) rfl))) (fun _ _ _ _=>(pv 0))) rfl)
   (Ae (Fi (pv 0) (Ai GNu hrNu rfl N.FNu.2.2 N.FNu.1.kp N.FNu.2.1 .nil Ao (Aa (Bu rfl (Bc (osc:=Ag Ur) (N:=["self","rows"]) rfl rfl (by decide +kernel)) (Bg (Cr (pv 0) rfl)) (fun _ _ _ _=>Cd) (fun _ _ _ _=>(Am (Aj (K:=K) rfl) (pv 0) Ab (fun _ _=>rfl)))) Ac)) rfl)
   (Ae (Fi (pv 0) (Ai GNu hrNu rfl N.FNu.2.2 N.FNu.1.kp N.FNu.2.1 .nil Ao (Aa (Bu rfl (Bc (osc:=Ag Ur) (N:=["self","rows"]) rfl rfl (by decide +kernel)) (Bg (Cr (pv 0) rfl)) (fun _ _ _ _=>Cd) (fun _ _ _ _=>(Am (Aj (K:=K) rfl) (pv 0) Ab (fun _ _=>rfl)))) Ac)) rfl)
   (Ae (Fi (pv 0) (Ai GNu hrNu rfl N.FNu.2.2 N.FNu.1.kp N.FNu.2.1 .nil Ao (Aa (Bu rfl (Bc (osc:=Ag Ur) (N:=["self","rows"]) rfl rfl (by decide +kernel)) (Bg (Cr (pv 0) rfl)) (fun _ _ _ _=>Cd) (fun _ _ _ _=>(Am (Aj (K:=K) rfl) (pv 0) Ab (fun _ _=>rfl)))) Ac)) rfl)
   (Ae (Fi (pv 0) (Ai GPl hrPl rfl N.FPl.2.2 N.FPl.1.kp N.FPl.2.1 .nil Ao (Aa (Cr (pv 0) rfl) Ac)) rfl)
   (Ae (Fi (pv 0) (Ai GPl hrPl rfl N.FPl.2.2 N.FPl.1.kp N.FPl.2.1 .nil Ao (Aa (Cr (pv 0) rfl) Ac)) rfl)
   (Ae (Fi (pv 0) (Ai GLi hrLi rfl N.FLi.2.2 N.FLi.1.kp N.FLi.2.1 .nil Ao (Aa (pv 1) (Aa (Cr (pv 0) rfl) Ac))) rfl)
   (Ah (Fi (pv 0) (Bu rfl (Bc (osc:=Ag Ur) (N:=["self","rows"]) rfl rfl (by decide +kernel)) (Bg (Ai GRo hrRo rfl N.FRo.2.2 N.FRo.1.kp N.FRo.2.1 .nil Ao (Aa (pv 1) (Aa Br Ac)))) (fun _ _ _ _=>Cd) (fun _ _ _ _=>Sg)) rfl))))))))))))),?_⟩
  have hlen:=O.len
  obtain ⟨ur,hur⟩:∃ ur,us.filter (pw ρ "rank")=ur:=⟨_,rfl⟩
  have er:ur.map ρ=rk.map Ie:=by rw [← hur]; exact O.er
  have lr:ur.length=rk.length:=by have:=congrArg List.length er; simpa using this
  have inR:∀ {v},v∈ur->v∈us:=fun {v} hv=>by rw [← hur] at hv; exact (List.mem_filter.mp hv).1
  have ofR:∀ {v},v∈ur->∃ b∈rk,ρ v=Ie b:=fun {v} hv=>by
   have:ρ v∈rk.map Ie:=by rw [← er]; exact List.mem_map_of_mem hv
   obtain ⟨b,hb,e⟩:=List.mem_map.mp this
   exact ⟨b,hb,e.symm⟩
  obtain ⟨ub,hub⟩:∃ ub,us.filter (pw ρ "board")=ub:=⟨_,rfl⟩
  obtain ⟨uk,huk⟩:∃ uk,us.filter (fun v=>JP (ρ v).w)=uk:=⟨_,rfl⟩
  have eb:ub.map ρ=bs.map GD:=by rw [← hub]; exact O.eb
  have ek:uk.map ρ=ks:=by rw [← huk]; exact O.ek
  have lb:ub.length=bs.length:=by have:=congrArg List.length eb; simpa using this
  have lku:uk.length=ks.length:=by have:=congrArg List.length ek; simpa using this
  have inB:∀ {v},v∈ub->v∈us:=fun {v} hv=>by rw [← hub] at hv; exact (List.mem_filter.mp hv).1
  have inKn:∀ {v},v∈uk->v∈us:=fun {v} hv=>by rw [← huk] at hv; exact (List.mem_filter.mp hv).1
  have ofB:∀ {v},v∈ub->∃ b∈bs,ρ v=GD b:=fun {v} hv=>by
   have:ρ v∈bs.map GD:=by rw [← eb]; exact List.mem_map_of_mem hv
   obtain ⟨b,hb,e⟩:=List.mem_map.mp this
   exact ⟨b,hb,e.symm⟩
  have l1us:1<=us.length:=by
   have h1:=O.b0
   have h2:ub.length<=us.length:=by rw [← hub]; exact List.length_filter_le _ _
   omega
  refine ⟨_,rfl,p,us,ρ,rfl,hp,hR,l1us,by omega,O.ok,?_,fun H1 s1=>?_⟩
  ·rw [hub]
   cases ub with
   | nil =>
    have:=O.b0
    simp at lb
    omega
   | cons a b=>rfl
  have c1:SX x H H1:=SX.of s1
  have x1:=s1 _ _ hx
  refine ⟨_,rfl,p,_,rfl,.inl (.inl (.inl (s1 _ _ hp))),fun l1 hl1=>?_⟩
  have s2:=Az (o:=HO.lst us) hl1
  generalize upd H1 l1 (HO.lst us)=H2 at s2 ⊢
  refine ⟨_,rfl,x,C,dx,_,rfl,s2 _ _ x1,T.cl,T.n_row_list,(by show 0<1000; decide),?_⟩
  have c2:SX x H _:=(c1.trans (SX.of s2)).trans (SX.up (o:=HO.ins C dx (Bm "row_list" (.ref l1) [])))
  have x2:upd H2 x (HO.ins C dx (Bm "row_list" (.ref l1) [])) x=_:=Ak
  generalize upd H2 x (HO.ins C dx (Bm "row_list" (.ref l1) []))=H3 at c2 x2 ⊢
  have R3:Rows H3 ρ us:=fun v hv=>c2.tup hx (hR v hv)
  refine ⟨_,rfl,p,_,"board",ρ,rfl,c2.lst hx hp,R3,by omega,fun D4 H4 hD4 s4 hl4=>?_⟩
  rw [hub] at hl4
  have hS4:CK K H4 D4 ub:=.inl (.inl hl4)
  refine ⟨D4,rfl,⟨_,hS4⟩,Jo (K:=K) (xs:=ub) (fun _=>true) (fun v=>[.str (ρ v).nm,(ρ v).rest.getD 0 .non]) hS4 (BJ (by have:=O.b5; omega)) (fun y hy H' hs R k=>k H' (An.refl H')) (fun y hy _ H' hs R k=>?_) (fun D5 H5 bvs hD5 s5 hl5 hb5=>?_)⟩
  ·obtain ⟨b,_,e⟩:=ofB hy
   have hT:=(R3 y (inB hy)).mono (s4.trans hs)
   rw [e] at hT k
   obtain ⟨T0,rfl,hT⟩:=hT
   exact ⟨_,rfl,T0,_,_,_,rfl,rfl,.inl (.inl hT),Af (j:=1) rfl,_,rfl,T0,_,_,_,rfl,rfl,.inl (.inl hT),Af (j:=2) rfl,by show 2<=sizeLine; decide,fun T6 hT6=>k _ _ (Az hT6) ⟨T6,rfl,Ak⟩⟩
  rw [List.filter_eq_self.mpr (fun _ _=>rfl)] at hb5
  have hb5':Paired (fun b y=>TupAt H5 (bV b) y) bs bvs:=by
   have h1:=By (F:=fun (r:R) y=>TupAt H5 [.str r.nm,r.rest.getD 0 .non] y) ρ hb5
   rw [eb] at h1
   exact F_ GD h1
  clear hb5
  refine ⟨_,rfl,x,C,dx,_,rfl,s5 _ _ (s4 _ _ x2),T.cl,T.n_board_list,Nat.lt_of_le_of_lt (Bx _ _ _) (by show 1<1000; decide),?_⟩
  have u6:SX x H5 _:=SX.up (o:=HO.ins C dx (Bm "board_list" (.ref D5) (Bm "row_list" (.ref l1) [])))
  have x5:=s5 _ _ (s4 _ _ x2)
  have c6:SX x H _:=(c2.trans (SX.of (s4.trans s5))).trans u6
  have x6:upd H5 x (HO.ins C dx (Bm "board_list" (.ref D5) (Bm "row_list" (.ref l1) []))) x=_:=Ak
  have hl6:=u6.lst x5 hl5
  have hb6:=u6.pair x5 hb5'
  generalize upd H5 x (HO.ins C dx (Bm "board_list" (.ref D5) (Bm "row_list" (.ref l1) [])))=H6 at c6 x6 hl6 hb6 ⊢
  clear u6
  have R6:Rows H6 ρ us:=fun v hv=>c6.tup hx (hR v hv)
  refine ⟨_,rfl,p,_,"rank",ρ,rfl,c6.lst hx hp,R6,by omega,fun D7 H7 hD7 s7 hl7=>?_⟩
  rw [hur] at hl7
  have hS7:CK K H7 D7 ur:=.inl (.inl hl7)
  refine ⟨D7,rfl,⟨_,hS7⟩,Jo (K:=K) (xs:=ur) (fun _=>true) (fun v=>[.str (ρ v).nm,(ρ v).rest.getD 0 .non,(ρ v).rest.getD 1 .non]) hS7 (BJ (by have:=O.nr; omega)) (fun y hy H' hs R k=>k H' (An.refl H')) (fun y hy _ H' hs R k=>?_) (fun D8 H8 rvs hD8 s8 hl8 hr8=>?_)⟩
  ·obtain ⟨b,_,e⟩:=ofR hy
   have hT:=(R6 y (inR hy)).mono (s7.trans hs)
   rw [e] at hT k
   obtain ⟨T0,rfl,hT⟩:=hT
   exact ⟨_,rfl,T0,_,_,_,rfl,rfl,.inl (.inl hT),Af (j:=1) rfl,_,rfl,T0,_,_,_,rfl,rfl,.inl (.inl hT),Af (j:=2) rfl,_,rfl,T0,_,_,_,rfl,rfl,.inl (.inl hT),Af (j:=3) rfl,by show 3<=sizeLine; decide,fun T6 hT6=>k _ _ (Az hT6) ⟨T6,rfl,Ak⟩⟩
  rw [List.filter_eq_self.mpr (fun _ _=>rfl)] at hr8
  have hr8':Paired (fun (a:Th) y=>TupAt H8 (tV a) y) (rk.map Ub) rvs:=by
   have h1:=By (F:=fun (r:R) y=>TupAt H8 [.str r.nm,r.rest.getD 0 .non,r.rest.getD 1 .non] y) ρ hr8
   rw [er] at h1
   exact By (F:=fun (a:Th) y=>TupAt H8 (tV a) y) Ub (F_ Ie h1)
  clear hr8
  refine ⟨_,rfl,x,C,dx,_,rfl,s8 _ _ (s7 _ _ x6),T.cl,T.n_rank_list,Nat.lt_of_le_of_lt (Nat.le_trans (Bx _ _ _) (Nat.succ_le_succ (Bx _ _ _))) (by show 2<1000; decide),?_⟩
  have s68:=s7.trans s8
  have x8:=s68 _ _ x6
  have c8:SX x H H8:=c6.trans (SX.of s68)
  have hl8b:=s68 _ _ hl6
  have hb8:=Al s68 hb6
  have u9:SX x H8 _:=SX.up (o:=HO.ins C dx (Bm "rank_list" (.ref D8) (Bm "board_list" (.ref D5) (Bm "row_list" (.ref l1) []))))
  have x9:upd H8 x (HO.ins C dx (Bm "rank_list" (.ref D8) (Bm "board_list" (.ref D5) (Bm "row_list" (.ref l1) [])))) x=_:=Ak
  have c9:=c8.trans u9
  have bl9:=u9.lst x8 hl8b
  have bp9:=u9.pair x8 hb8
  have rl9:=u9.lst x8 hl8
  have rp9:=u9.pair x8 hr8'
  generalize hf9:Bm "rank_list" (.ref D8) (Bm "board_list" (.ref D5) (Bm "row_list" (.ref l1) []))=f9 at x9 c9 bl9 bp9 rl9 rp9 u9 ⊢
  generalize upd H8 x (HO.ins C dx f9)=H9 at x9 c9 bl9 bp9 rl9 rp9 ⊢
  have n9:f9.length<=3:=by rw [← hf9]; exact Nat.le_trans (Bx _ _ _) (Nat.succ_le_succ (Nat.le_trans (Bx _ _ _) (Nat.succ_le_succ (Bx _ _ _))))
  have lb9:f9.lookup ("board_list" : Str)=some (.ref D5):=by rw [← hf9,Ay,if_neg (by decide +kernel),Ay,if_pos rfl]
  have lr9:f9.lookup ("rank_list" : Str)=some (.ref D8):=by rw [← hf9,Ay,if_pos rfl]
  have no9:∀ m∈meths,f9.lookup m=none:=fun m hm=>by
   rw [← hf9,Ay,if_neg (D_ m hm _ (by decide +kernel)),Ay,if_neg (D_ m hm _ (by decide +kernel)),Ay,if_neg (D_ m hm _ (by decide +kernel))]
   rfl
  clear u9 hf9
  have R9:Rows H9 ρ us:=fun v hv=>c9.tup hx (hR v hv)
  have hS9:CK K H9 p us:=.inl (.inl (c9.lst hx hp))
  refine ⟨_,rfl,p,rfl,⟨_,hS9⟩,Ca (K:=K) (xs:=us) (fun v=>JP (ρ v).w) id hS9 (BJ (by omega)) (fun y hy H' hs R k=>?_) (fun y hy _ H' hs R k=>⟨_,rfl,k H' (An.refl H')⟩) (fun D10 H10 hD10 s10 hl10=>?_)⟩
  ·obtain ⟨T0,rfl,hT⟩:=(R9.mono hs) y hy
   exact ⟨_,rfl,T0,_,_,_,rfl,rfl,.inl (.inl hT),Af (j:=0) rfl,aK,_,rfl,.inr (T.tK.sq _),rfl,rfl,_,rfl,k H' (An.refl H')⟩
  rw [List.map_id,huk] at hl10
  refine ⟨_,rfl,x,C,dx,_,rfl,s10 _ _ x9,T.cl,T.n_knob_rows,by omega,?_⟩
  have x10:=s10 _ _ x9
  have u11:SX x H10 _:=SX.up (o:=HO.ins C dx (Bm "knob_rows" (.ref D10) f9))
  have x11:upd H10 x (HO.ins C dx (Bm "knob_rows" (.ref D10) f9)) x=_:=Ak
  have c11:=(c9.trans (SX.of s10)).trans u11
  have bl11:=u11.lst x10 (s10 _ _ bl9)
  have bp11:=u11.pair x10 (Al s10 bp9)
  have rl11:=u11.lst x10 (s10 _ _ rl9)
  have rp11:=u11.pair x10 (Al s10 rp9)
  have kr11:=u11.lst x10 hl10
  generalize upd H10 x (HO.ins C dx (Bm "knob_rows" (.ref D10) f9))=H11 at x11 c11 bl11 bp11 rl11 rp11 kr11 ⊢
  clear u11
  have hul:=bp11.length
  have hS11:CK K H11 D5 bvs:=.inl (.inl bl11)
  refine ⟨_,rfl,x,C,dx,_,_,rfl,x11,T.cl,T.n_board_list,(by rw [Ay,if_neg (by decide +kernel)]; exact lb9),D5,rfl,⟨_,hS11⟩,Ca (K:=K) (xs:=bvs) (fun _=>true) (J6 H11 0) hS11 (BJ (by have:=O.b5; omega)) (fun y hy H' hs R k=>k H' (An.refl H')) (fun y hy _ H' hs R k=>?_) (fun D12 H12 hD12 s12 hl12=>?_)⟩
  ·obtain ⟨b,_,hx'⟩:=DQ bp11 hy
   have e:=Gr hx' 0
   obtain ⟨T0,rfl,hT⟩:=hx'.mono hs
   refine ⟨_,rfl,T0,_,_,_,rfl,rfl,.inl (.inl hT),Af (j:=0) rfl,?_⟩
   have:=k H' (An.refl H')
   rw [e] at this
   exact this
  rw [List.filter_eq_self.mpr (fun _ _=>rfl),Jg 0 bp11] at hl12
  have e12:(bs.map fun b=>(bV b).getD 0 V.non)=(bs.map (·.1)).map V.str:=by
   rw [List.map_map]
   rfl
  rw [e12] at hl12
  refine ⟨D12,_,rfl,hl12,by rw [List.length_map]; have:=O.b5; omega,O.nb,fun D13 kvs H13 hD13 s13 hl13 hv13=>?_⟩
  have s1113:=s12.trans s13
  have x13:=s1113 _ _ x11
  refine ⟨_,rfl,x,C,dx,_,rfl,x13,T.cl,T.n_board_numbers,Nat.lt_of_le_of_lt (Bx _ _ _) (by omega),?_⟩
  have u14:SX x H13 _:=SX.up (o:=HO.ins C dx (Bm "board_numbers" (.ref D13) (Bm "knob_rows" (.ref D10) f9)))
  have x14:upd H13 x (HO.ins C dx (Bm "board_numbers" (.ref D13) (Bm "knob_rows" (.ref D10) f9))) x=_:=Ak
  have c14:=(c11.trans (SX.of s1113)).trans u14
  have bl14:=u14.lst x13 (s1113 _ _ bl11)
  have bp14:=u14.pair x13 (Al s1113 bp11)
  have rl14:=u14.lst x13 (s1113 _ _ rl11)
  have rp14:=u14.pair x13 (Al s1113 rp11)
  have kr14:=u14.lst x13 (s1113 _ _ kr11)
  have bn14:=u14.dk x13 hl13
  generalize upd H13 x (HO.ins C dx (Bm "board_numbers" (.ref D13) (Bm "knob_rows" (.ref D10) f9)))=H14 at x14 c14 bl14 bp14 rl14 rp14 kr14 bn14 ⊢
  clear u14
  have hrl:=rp14.length
  rw [List.length_map] at hrl
  have hS14:CK K H14 D8 rvs:=.inl (.inl rl14)
  refine ⟨_,rfl,x,C,dx,_,_,rfl,x14,T.cl,T.n_rank_list,(by rw [Ay,if_neg (by decide +kernel),Ay,if_neg (by decide +kernel)]; exact lr9),D8,rfl,⟨_,hS14⟩,Ca (K:=K) (xs:=rvs) (fun _=>true) (J6 H14 0) hS14 (BJ (by have:=O.nr; omega)) (fun y hy H' hs R k=>k H' (An.refl H')) (fun y hy _ H' hs R k=>?_) (fun D15 H15 hD15 s15 hl15=>?_)⟩
  ·obtain ⟨b,_,hx'⟩:=DQ rp14 hy
   have e:=Gr hx' 0
   obtain ⟨T0,rfl,hT⟩:=hx'.mono hs
   refine ⟨_,rfl,T0,_,_,_,rfl,rfl,.inl (.inl hT),Af (j:=0) rfl,?_⟩
   have:=k H' (An.refl H')
   rw [e] at this
   exact this
  rw [List.filter_eq_self.mpr (fun _ _=>rfl),Jg 0 rp14] at hl15
  have e15:((rk.map Ub).map fun b=>(tV b).getD 0 V.non)=(rk.map (·.1)).map V.str:=by
   rw [List.map_map,List.map_map]
   rfl
  rw [e15] at hl15
  refine ⟨D15,_,rfl,hl15,by rw [List.length_map]; have:=O.nr; omega,O.nrr,fun D16 kvs16 H16 hD16 s16 hl16 hv16=>?_⟩
  have s1416:=s15.trans s16
  have x16:=s1416 _ _ x14
  refine ⟨_,rfl,x,C,dx,_,rfl,x16,T.cl,T.n_rank_numbers,Nat.lt_of_le_of_lt (Nat.le_trans (Bx _ _ _) (Nat.succ_le_succ (Bx _ _ _))) (by omega),?_⟩
  have u17:SX x H16 _:=SX.up (o:=HO.ins C dx (Bm "rank_numbers" (.ref D16) (Bm "board_numbers" (.ref D13) (Bm "knob_rows" (.ref D10) f9))))
  have x17:upd H16 x (HO.ins C dx (Bm "rank_numbers" (.ref D16) (Bm "board_numbers" (.ref D13) (Bm "knob_rows" (.ref D10) f9)))) x=_:=Ak
  have c17:=(c14.trans (SX.of s1416)).trans u17
  have bl17:=u17.lst x16 (s1416 _ _ bl14)
  have bp17:=u17.pair x16 (Al s1416 bp14)
  have rl17:=u17.lst x16 (s1416 _ _ rl14)
  have rp17:=u17.pair x16 (Al s1416 rp14)
  have kr17:=u17.lst x16 (s1416 _ _ kr14)
  have bn17:=u17.dk x16 (s1416 _ _ bn14)
  have rn17:=u17.dk x16 hl16
  generalize hf17:Bm "rank_numbers" (.ref D16) (Bm "board_numbers" (.ref D13) (Bm "knob_rows" (.ref D10) f9))=f17 at x17 c17 bl17 bp17 rl17 rp17 kr17 bn17 rn17 u17 ⊢
  generalize upd H16 x (HO.ins C dx f17)=H17 at x17 c17 bl17 bp17 rl17 rp17 kr17 bn17 rn17 ⊢
  have n17:f17.length<=6:=by rw [← hf17]; exact Nat.le_trans (Bx _ _ _) (Nat.succ_le_succ (Nat.le_trans (Bx _ _ _) (Nat.succ_le_succ (Nat.le_trans (Bx _ _ _) (Nat.succ_le_succ n9)))))
  have lb17:f17.lookup ("board_list" : Str)=some (.ref D5):=by rw [← hf17,Ay,if_neg (by decide +kernel),Ay,if_neg (by decide +kernel),Ay,if_neg (by decide +kernel)]; exact lb9
  have lr17:f17.lookup ("rank_list" : Str)=some (.ref D8):=by rw [← hf17,Ay,if_neg (by decide +kernel),Ay,if_neg (by decide +kernel),Ay,if_neg (by decide +kernel)]; exact lr9
  have lrn17:f17.lookup ("rank_numbers" : Str)=some (.ref D16):=by rw [← hf17,Ay,if_pos rfl]
  have lbn17:f17.lookup ("board_numbers" : Str)=some (.ref D13):=by rw [← hf17,Ay,if_neg (by decide +kernel),Ay,if_pos rfl]
  have lkr17:f17.lookup ("knob_rows" : Str)=some (.ref D10):=by rw [← hf17,Ay,if_neg (by decide +kernel),Ay,if_neg (by decide +kernel),Ay,if_pos rfl]
  have no17:∀ m∈meths,f17.lookup m=none:=fun m hm=>by
   rw [← hf17,Ay,if_neg (D_ m hm _ (by decide +kernel)),Ay,if_neg (D_ m hm _ (by decide +kernel)),Ay,if_neg (D_ m hm _ (by decide +kernel))]
   exact no9 m hm
  clear u17 hf17
  have hS17:CK K H17 D10 uk:=.inl (.inl kr17)
  have R17:Rows H17 ρ us:=fun v hv=>c17.tup hx (hR v hv)
  refine ⟨_,rfl,x,C,dx,_,_,rfl,x17,T.cl,T.n_knob_rows,lkr17,D10,rfl,⟨_,hS17⟩,Ca (K:=K) (xs:=uk) (fun _=>true) (fun v=>.str (ρ v).nm) hS17 (BJ (by have:=O.nk; omega)) (fun y hy H' hs R k=>k H' (An.refl H')) (fun y hy _ H' hs R k=>?_) (fun D18 H18 hD18 s18 hl18=>?_)⟩
  ·obtain ⟨T0,rfl,hT⟩:=(R17.mono hs) y (inKn hy)
   exact ⟨_,rfl,T0,_,_,_,rfl,rfl,.inl (.inl hT),Af (j:=1) rfl,k H' (An.refl H')⟩
  rw [List.filter_eq_self.mpr (fun _ _=>rfl)] at hl18
  have e18:(uk.map fun v=>V.str (ρ v).nm)=(ks.map (·.nm)).map V.str:=by
   rw [← ek,List.map_map,List.map_map]
   rfl
  rw [e18] at hl18
  refine ⟨D18,_,rfl,hl18,by rw [List.length_map]; have:=O.nk; omega,O.nn,fun D19 kvs19 H19 hD19 s19 hl19 hv19=>?_⟩
  have s1719:=s18.trans s19
  have x19:=s1719 _ _ x17
  refine ⟨_,rfl,x,C,dx,_,rfl,x19,T.cl,T.n_knob_numbers,by omega,?_⟩
  have u20:SX x H19 _:=SX.up (o:=HO.ins C dx (Bm "knob_numbers" (.ref D19) f17))
  have x20:upd H19 x (HO.ins C dx (Bm "knob_numbers" (.ref D19) f17)) x=_:=Ak
  have c20:=(c17.trans (SX.of s1719)).trans u20
  have bl20:=u20.lst x19 (s1719 _ _ bl17)
  have bp20:=u20.pair x19 (Al s1719 bp17)
  have rl20:=u20.lst x19 (s1719 _ _ rl17)
  have rp20:=u20.pair x19 (Al s1719 rp17)
  have kr20:=u20.lst x19 (s1719 _ _ kr17)
  have bn20:=u20.dk x19 (s1719 _ _ bn17)
  have rn20:=u20.dk x19 (s1719 _ _ rn17)
  generalize upd H19 x (HO.ins C dx (Bm "knob_numbers" (.ref D19) f17))=H20 at x20 c20 bl20 bp20 rl20 rp20 kr20 bn20 rn20 ⊢
  clear u20
  refine ⟨_,rfl,x,C,dx,_,_,rfl,x20,T.cl,T.n_board_list,(by rw [Ay,if_neg (by decide +kernel)]; exact lb17),D5,bs.map Yv,bvs,rfl,bl20,By (F:=fun (a:Th) y=>TupAt H20 (tV a) y) Yv bp20,(by rw [List.length_map]; have:=O.b5; omega),(fun a ha=>by obtain ⟨b,hb,rfl⟩:=List.mem_map.mp ha; have:=O.sz b hb; show b.2<=97; omega),fun D21 pvs H21 hD21 s21 hl21 hp21=>?_⟩
  have e21:(bs.map Yv).map tN=bs:=by
   rw [List.map_map]
   exact List.map_id bs
  rw [e21] at hp21
  have x21:=s21 _ _ x20
  refine ⟨_,rfl,x,C,dx,_,rfl,x21,T.cl,T.n_key_places,Nat.lt_of_le_of_lt (Bx _ _ _) (by omega),?_⟩
  have u22:SX x H21 _:=SX.up (o:=HO.ins C dx (Bm "key_places" (.ref D21) (Bm "knob_numbers" (.ref D19) f17)))
  have x22:upd H21 x (HO.ins C dx (Bm "key_places" (.ref D21) (Bm "knob_numbers" (.ref D19) f17))) x=_:=Ak
  have c22:=(c20.trans (SX.of s21)).trans u22
  have bl22:=u22.lst x21 (s21 _ _ bl20)
  have bp22:=u22.pair x21 (Al s21 bp20)
  have rl22:=u22.lst x21 (s21 _ _ rl20)
  have rp22:=u22.pair x21 (Al s21 rp20)
  have kr22:=u22.lst x21 (s21 _ _ kr20)
  have bn22:=u22.dk x21 (s21 _ _ bn20)
  have rn22:=u22.dk x21 (s21 _ _ rn20)
  have kp22:=u22.lst x21 hl21
  have kq22:=u22.pair x21 hp21
  generalize upd H21 x (HO.ins C dx (Bm "key_places" (.ref D21) (Bm "knob_numbers" (.ref D19) f17)))=H22 at x22 c22 bl22 bp22 rl22 rp22 kr22 bn22 rn22 kp22 kq22 ⊢
  clear u22
  refine ⟨_,rfl,x,C,dx,_,_,rfl,x22,T.cl,T.n_rank_list,(by rw [Ay,if_neg (by decide +kernel),Ay,if_neg (by decide +kernel)]; exact lr17),D8,rk.map Ub,rvs,rfl,rl22,rp22,(by rw [List.length_map]; exact O.nr),(fun a ha=>by obtain ⟨r,hr,rfl⟩:=List.mem_map.mp ha; exact O.nz r hr),fun D23 qvs H23 hD23 s23 hl23 hp23=>?_⟩
  have e23:(rk.map Ub).map tN=rk.map Qv:=by
   rw [List.map_map]
   rfl
  rw [e23] at hp23
  have x23:=s23 _ _ x22
  refine ⟨_,rfl,x,C,dx,_,rfl,x23,T.cl,T.n_pipe_places,Nat.lt_of_le_of_lt (Nat.le_trans (Bx _ _ _) (Nat.succ_le_succ (Bx _ _ _))) (by omega),?_⟩
  have u24:SX x H23 _:=SX.up (o:=HO.ins C dx (Bm "pipe_places" (.ref D23) (Bm "key_places" (.ref D21) (Bm "knob_numbers" (.ref D19) f17))))
  have x24:upd H23 x (HO.ins C dx (Bm "pipe_places" (.ref D23) (Bm "key_places" (.ref D21) (Bm "knob_numbers" (.ref D19) f17)))) x=_:=Ak
  have c24:=(c22.trans (SX.of s23)).trans u24
  have bl24:=u24.lst x23 (s23 _ _ bl22)
  have bp24:=u24.pair x23 (Al s23 bp22)
  have kr24:=u24.lst x23 (s23 _ _ kr22)
  have rl24:=u24.lst x23 (s23 _ _ rl22)
  have rp24:=u24.pair x23 (Al s23 rp22)
  have pp24:=u24.lst x23 hl23
  have pq24:=u24.pair x23 hp23
  have bn24:=u24.dk x23 (s23 _ _ bn22)
  have rn24:=u24.dk x23 (s23 _ _ rn22)
  have kp24:=u24.lst x23 (s23 _ _ kp22)
  have kq24:=u24.pair x23 (Al s23 kq22)
  generalize hf24:Bm "pipe_places" (.ref D23) (Bm "key_places" (.ref D21) (Bm "knob_numbers" (.ref D19) f17))=f24 at x24 c24 bl24 bp24 kr24 rl24 rp24 pp24 pq24 bn24 rn24 kp24 kq24 u24 ⊢
  generalize upd H23 x (HO.ins C dx f24)=H24 at x24 c24 bl24 bp24 kr24 rl24 rp24 pp24 pq24 bn24 rn24 kp24 kq24 ⊢
  have n24:f24.length<=9:=by rw [← hf24]; exact Nat.le_trans (Bx _ _ _) (Nat.succ_le_succ (Nat.le_trans (Bx _ _ _) (Nat.succ_le_succ (Nat.le_trans (Bx _ _ _) (Nat.succ_le_succ n17)))))
  have old24:∀ {f:Str} {v:V},¬ f = "pipe_places"->¬ f = "key_places"->¬ f = "knob_numbers"->f17.lookup f=some v->f24.lookup f=some v:=fun h1 h2 h3 h=>by
   rw [← hf24,Ay,if_neg h1,Ay,if_neg h2,Ay,if_neg h3]; exact h
  have lb24:=old24 (by decide +kernel) (by decide +kernel) (by decide +kernel) lb17
  have lbn24:=old24 (by decide +kernel) (by decide +kernel) (by decide +kernel) lbn17
  have lr24:=old24 (by decide +kernel) (by decide +kernel) (by decide +kernel) lr17
  have lpp24:f24.lookup ("pipe_places" : Str)=some (.ref D23):=by rw [← hf24,Ay,if_pos rfl]
  have lrn24:=old24 (by decide +kernel) (by decide +kernel) (by decide +kernel) lrn17
  have lkr24:=old24 (by decide +kernel) (by decide +kernel) (by decide +kernel) lkr17
  have lkp24:f24.lookup ("key_places" : Str)=some (.ref D21):=by rw [← hf24,Ay,if_neg (by decide +kernel),Ay,if_pos rfl]
  have no24:∀ m∈meths,f24.lookup m=none:=fun m hm=>by
   rw [← hf24,Ay,if_neg (D_ m hm _ (by decide +kernel)),Ay,if_neg (D_ m hm _ (by decide +kernel)),Ay,if_neg (D_ m hm _ (by decide +kernel))]
   exact no17 m hm
  clear u24 hf24 old24
  have R24:Rows H24 ρ us:=fun v hv=>c24.tup hx (hR v hv)
  refine ⟨_,rfl,_,rfl,x,C,dx,_,_,rfl,x24,T.cl,T.n_rank_numbers,lrn24,p,D16,us,ρ,rk,kvs16,rfl,c24.lst hx hp,R24,by omega,rn24,(fun i r hr=>hv16 i r.1 (by rw [List.getElem?_map,hr]; rfl)),O.nrr,O.ln,fun D25 H25 hD25 s25 hl25=>?_⟩
  have x25:=s25 _ _ x24
  refine ⟨_,rfl,x,C,dx,_,rfl,x25,T.cl,T.n_knob_lines,by omega,?_⟩
  have u26:SX x H25 _:=SX.up (o:=HO.ins C dx (Bm "knob_lines" (.ref D25) f24))
  have x26:upd H25 x (HO.ins C dx (Bm "knob_lines" (.ref D25) f24)) x=_:=Ak
  have c26:=(c24.trans (SX.of s25)).trans u26
  have bl26:=u26.lst x25 (s25 _ _ bl24)
  have bp26:=u26.pair x25 (Al s25 bp24)
  have kr26:=u26.lst x25 (s25 _ _ kr24)
  have rl26:=u26.lst x25 (s25 _ _ rl24)
  have rp26:=u26.pair x25 (Al s25 rp24)
  have pp26:=u26.lst x25 (s25 _ _ pp24)
  have pq26:=u26.pair x25 (Al s25 pq24)
  have ln26:=Np hl25 u26 x25
  have bn26:=u26.dk x25 (s25 _ _ bn24)
  have rn26:=u26.dk x25 (s25 _ _ rn24)
  have kp26:=u26.lst x25 (s25 _ _ kp24)
  have kq26:=u26.pair x25 (Al s25 kq24)
  generalize upd H25 x (HO.ins C dx (Bm "knob_lines" (.ref D25) f24))=H26 at x26 c26 bl26 bp26 kr26 rl26 rp26 pp26 pq26 ln26 bn26 rn26 kp26 kq26 ⊢
  clear u26
  have R26:Rows H26 ρ us:=fun v hv=>c26.tup hx (hR v hv)
  refine ⟨_,rfl,p,_,"step",ρ,rfl,c26.lst hx hp,R26,by omega,fun D27 H27 hD27 s27 hl27=>?_⟩
  rw [O.none] at hl27
  have hS27:CK K H27 D27 []:=.inl (.inl hl27)
  refine ⟨D27,rfl,⟨_,hS27⟩,Ca (K:=K) (xs:=[]) (fun _=>true) id hS27 (BJ (by simp)) (fun y hy=>nomatch hy) (fun y hy=>nomatch hy) (fun D28 H28 hD28 s28 hl28=>?_)⟩
  have s2628:=s27.trans s28
  have x28:=s2628 _ _ x26
  refine ⟨_,rfl,x,C,dx,_,rfl,x28,T.cl,T.n_step_sets,Nat.lt_of_le_of_lt (Bx _ _ _) (by omega),?_⟩
  have u29:SX x H28 _:=SX.up (o:=HO.ins C dx (Bm "step_sets" (.ref D28) (Bm "knob_lines" (.ref D25) f24)))
  have old:∀ {f:Str},¬ f = "step_sets"->¬ f = "knob_lines"->(Bm "step_sets" (.ref D28) (Bm "knob_lines" (.ref D25) f24)).lookup f=f24.lookup f:=fun h1 h2=>by rw [Ay,if_neg h1,Ay,if_neg h2]
  refine q _ ⟨⟨⟨dx,_,D5,D13,D21,D10,bvs,pvs,uk,kvs,Ak,(old (by decide +kernel) (by decide +kernel)).trans lb24,(old (by decide +kernel) (by decide +kernel)).trans lbn24,(old (by decide +kernel) (by decide +kernel)).trans lkp24,(old (by decide +kernel) (by decide +kernel)).trans lkr24,
   fun m hm=>(old (D_ m hm _ (by decide +kernel)) (D_ m hm _ (by decide +kernel))).trans (no24 m hm),u29.lst x28 (s2628 _ _ bl26),u29.pair x28 (Al s2628 bp26),u29.dk x28 (s2628 _ _ bn26),fun i b hb=>hv13 i b.1 (by rw [List.getElem?_map,hb]; rfl),u29.lst x28 (s2628 _ _ kp26),u29.pair x28 (Al s2628 kq26),u29.lst x28 (s2628 _ _ kr26),?_⟩,O.b5,O.sz,by have:=O.nk; omega⟩,⟨dx,_,D8,D16,D23,D25,rvs,qvs,kvs16,Ak,(old (by decide +kernel) (by decide +kernel)).trans lr24,(old (by decide +kernel) (by decide +kernel)).trans lrn24,(old (by decide +kernel) (by decide +kernel)).trans lpp24,(by rw [Ay,if_neg (by decide +kernel),Ay,if_pos rfl]),u29.lst x28 (s2628 _ _ rl26),u29.pair x28 (Al s2628 rp26),u29.dk x28 (s2628 _ _ rn26),(fun i r hr=>hv16 i r.1 (by rw [List.getElem?_map,hr]; rfl)),u29.lst x28 (s2628 _ _ pp26),u29.pair x28 (Al s2628 pq26),Np (ln26.mono s2628) u29 x28⟩,O.nr,O.nz,?_⟩ ((c26.trans (SX.of s2628)).trans u29)
  case refine_2=>rw [RK O.ln,← ek,List.length_map,huk]
  rw [← ek]
  refine By (F:=fun (r:R) y=>TupAt _ r.v y) ρ ?_
  have R29:Rows _ ρ uk:=fun v hv=>u29.tup x28 ((R26.mono s2628) v (inKn hv))
  generalize upd H28 x _=H29 at R29 ⊢
  have key:∀ l:List V,(∀ v∈l,TupAt H29 (ρ v).v v)->Paired (fun v y=>TupAt H29 (ρ v).v y) l l:=by
   intro l
   induction l with
   | nil=>intro _; exact .nil
   | cons a b ih=>intro h; exact .cons (h a (List.mem_cons_self ..)) (ih fun v hv=>h v (List.mem_cons_of_mem _ hv))
  exact key uk R29
noncomputable def Vm (C:Addr):Sp:=fun vs H Q _=>∃ (x:Addr) (bs:List (Str × Nat)) (ks:List R),vs=[.ref x]/\Dg C H x bs ks/\∀ D bvs H',H D=none->An H H'->H' D=some (.lst bvs)->Paired (fun b y=>TupAt H' (bV b) y) bs bvs->Q (.ref D) H'
theorem jE:Aw ["self"] ["self"] (Ag gU):=Bo
include N T in
theorem Ul:Ar P w K mg base Be 1 aD.fOb aD.dOb ["self"] (Vm C):=by
 refine N.FOb.1.ok jE (fun vs H Q E h=>?_) (fun cdv A outer s H vs Q E hr h=>?_)
 ·refine byC fun hng=>?_
  obtain ⟨x,bs,ks,rfl,_⟩:=h
  refine hng ?_
  rfl
 ·refine byC fun hng=>?_
  obtain ⟨x,bs,ks,rfl,O,q⟩:=h
  refine hng ?_
  refine ⟨_,(Ah (Av (Dz E_ rfl T.list PyProof.Rows.boot_list (Aa (Cr (pv 0) rfl) Ac)))),?_⟩
  refine byC fun hng=>?_
  obtain ⟨⟨dx,fs,bl,bn,kp,kr,bvs,pvs,uvs,kvs,h1,l1,l2,l3,l4,lm,h2,h3,h4,h5,h6,h7,h8,h9⟩,ob5,osz,onk⟩:=id O
  refine hng ?_
  exact ⟨_,rfl,x,C,dx,_,_,rfl,h1,T.cl,T.n_board_list,l1,bl,bvs,rfl,.inl (.inl (.inl h2)),fun l hl=>q l bvs _ hl (Az hl) Ak (Al (Az hl) h3)⟩
noncomputable def Xq (C:Addr):Sp:=fun vs H Q _=>∃ (x:Addr) (bs:List (Str × Nat)) (ks:List R),vs=[.ref x]/\Dg C H x bs ks/\Q (.int ((Ec bs).length:Nat)) H
theorem jg:Aw ["self"] ["self"] (Ag gH):=Bo
include N T in
theorem W5:Ar P w K mg base Be 1 aD.fOc aD.dOc ["self"] (Xq C):=by
 refine N.FOc.1.ok jg (fun vs H Q E h=>?_) (fun cdv A outer s H vs Q E hr h=>?_)
 ·refine byC fun hng=>?_
  obtain ⟨x,bs,ks,rfl,_⟩:=h
  refine hng ?_
  rfl
 ·refine byC fun hng=>?_
  obtain ⟨x,bs,ks,rfl,O,q⟩:=h
  refine hng ?_
  refine ⟨_,(Ah (Av (BP Bb rfl T.len PySem.boot_len (Aa (Cr (pv 0) rfl) Ac)))),?_⟩
  refine byC fun hng=>?_
  obtain ⟨⟨dx,fs,bl,bn,kp,kr,bvs,pvs,uvs,kvs,h1,l1,l2,l3,l4,lm,h2,h3,h4,h5,h6,h7,h8,h9⟩,ob5,osz,onk⟩:=id O
  refine hng ?_
  refine ⟨_,rfl,x,C,dx,_,_,rfl,h1,T.cl,T.n_key_places,l3,kp,pvs,rfl,.inl (.inl (.inl h6)),?_⟩
  rw [← h7.length]
  exact q
noncomputable def Vi (C:Addr):Sp:=fun vs H Q _=>∃ (x:Addr) (bs:List (Str × Nat)) (ks:List R) (j:Nat) (b:Str × Nat) (n:Int),vs=[.ref x,.str b.1,.int n]/\Dg C H x bs ks/\bs[j]? = some b/\∀ H',An H H'->Q (.int ((((bs.take j).map (·.2)).sum:Nat)+n)) H'
theorem lH:Aw ["self","board","number"] ["self","board","number"] (Ag kE):=Bo
include N T in
theorem Um:Ar P w K mg base Be 2 aD.fOk aD.dOk ["self","board","number"] (Vi C):=by
 have GCa:Ar P w K mg base Be 1 aD.fCa aD.dCa ["things"] XD:=Wa N T
 refine N.FOk.1.ok lH (fun vs H Q E h=>?_) (fun cdv A outer s H vs Q E hr h=>?_)
 ·refine byC fun hng=>?_
  obtain ⟨x,bs,ks,j,b,n,rfl,_⟩:=h
  refine hng ?_
  rfl
 ·refine byC fun hng=>?_
  obtain ⟨x,bs,ks,j,b,n,rfl,O,hb,q⟩:=h
  refine hng ?_
  have hrCa:BV 1 _:=hr.mono (by decide)
  have hu:=Fy hr
  refine ⟨_,(Ah (Av (Aq Bp (Ai GCa hrCa rfl N.FCa.2.2 N.FCa.1.kp N.FCa.2.1 .nil Ao (Aa (Dt Gp (Cr (pv 0) rfl) Ez (Cv (Ek hu (Cr (pv 0) rfl) (pv 1) (fun _ _=>rfl)))) Ac)) (pv 2)))),?_⟩
  refine byC fun hng=>?_
  obtain ⟨⟨dx,fs,bl,bn,kp,kr,bvs,pvs,uvs,kvs,h1,l1,l2,l3,l4,lm,h2,h3,h4,h5,h6,h7,h8,h9⟩,ob5,osz,onk⟩:=id O
  refine hng ?_
  have hj:j<bs.length:=(List.getElem?_eq_some_iff.mp hb).1
  have hl:=h3.length
  have g:=GF.k (k:=Sum.inr b.1) h4
  rw [h5 j b hb] at g
  refine ⟨_,rfl,x,C,dx,_,_,rfl,h1,T.cl,T.n_board_list,l1,_,rfl,x,C,dx,_,_,rfl,h1,T.cl,T.n_board_numbers,l2,_,rfl,bn,_,rfl,g,_,rfl,bl,bvs,rfl,.inl (.inl h2),fun p6 hp6=>?_⟩
  have s6:=Az (o:=HO.lst (De bvs none (some (j:Int)))) hp6
  have a6:upd H p6 (HO.lst (De bvs none (some (j:Int)))) p6=_:=Ak
  generalize upd H p6 (HO.lst (De bvs none (some (j:Int))))=H6 at s6 a6 ⊢
  rw [HW bvs j (by omega)] at a6
  refine ⟨p6,(bs.take j).map Yv,bvs.take j,rfl,a6,By (F:=fun (a:Th) y=>TupAt H6 (tV a) y) Yv (JW (Al s6 h3) j),(by rw [List.length_map,List.length_take]; omega),(fun a ha=>by obtain ⟨b',hb',rfl⟩:=List.mem_map.mp ha; exact Nat.le_trans (osz b' (List.mem_of_mem_take hb')) (by show 61<=100; decide)),fun H7 s7=>?_⟩
  have e7:((bs.take j).map Yv).map (fun a=>a.2.1)=(bs.take j).map (·.2):=by
   rw [List.map_map]
   rfl
  rw [e7]
  exact ⟨_,rfl,_,_,rfl,rfl,q H7 (s6.trans s7)⟩
noncomputable def YM (C:Addr):Sp:=fun vs H Q _=>∃ (x:Addr) (bs:List (Str × Nat)) (ks:List R) (i:Nat) (qd:Nat × Nat),vs=[.ref x,.int (i:Nat)]/\Dg C H x bs ks/\(Ec bs)[i]? = some qd/\∀ y,TupAt H (qV qd) y->Q y H
theorem jG:Aw ["self","key"] ["self","key"] (Ag ig):=Bo
include N T in
theorem WP:Ar P w K mg base Be 1 aD.fOo aD.dOo ["self","key"] (YM C):=by
 refine N.FOo.1.ok jG (fun vs H Q E h=>?_) (fun cdv A outer s H vs Q E hr h=>?_)
 ·refine byC fun hng=>?_
  obtain ⟨x,bs,ks,i,qd,rfl,_⟩:=h
  refine hng ?_
  rfl
 ·refine byC fun hng=>?_
  obtain ⟨x,bs,ks,i,qd,rfl,O,hq,q⟩:=h
  refine hng ?_
  refine ⟨_,(Ah (Av (Am Eb (Cr (pv 0) rfl) (pv 1) (fun _ _=>rfl)))),?_⟩
  refine byC fun hng=>?_
  obtain ⟨⟨dx,fs,bl,bn,kp,kr,bvs,pvs,uvs,kvs,h1,l1,l2,l3,l4,lm,h2,h3,h4,h5,h6,h7,h8,h9⟩,ob5,osz,onk⟩:=id O
  refine hng ?_
  obtain ⟨y,hy,ht⟩:=Bh h7 hq
  exact ⟨_,rfl,x,C,dx,_,_,rfl,h1,T.cl,T.n_key_places,l3,_,rfl,kp,pvs,_,_,rfl,rfl,.inl (.inl h6),Af hy,q y ht⟩
noncomputable def Z3 (C:Addr):Sp:=fun vs H Q _=>∃ (x:Addr) (bs:List (Str × Nat)) (ks:List R) (k j1 j2:Nat) (b1 b2:Str × Nat) (nm:Str) (s:Int),vs=[.ref x,.int (k:Nat)]/\Dg C H x bs ks/\ks[k]? = some ⟨"coupler",nm,[.str b1.1,.str b2.1,.int s]⟩/\bs[j1]? = some b1/\bs[j2]? = some b2/\∀ y H',An H H'->TupAt H' [.int (j1:Nat),.int (j2:Nat),.int s] y->Q y H'
noncomputable def Ow (C:Addr):Sp:=fun vs H Q _=>∃ (x:Addr) (bs:List (Str × Nat)) (ks:List R) (k j1:Nat) (b1:Str × Nat) (wd nm:Str) (rs:List V),vs=[.ref x,.int (k:Nat)]/\Dg C H x bs ks/\ks[k]? = some ⟨wd,nm,.str b1.1::rs⟩/\bs[j1]? = some b1/\Q (.int (j1:Nat)) H
theorem iW:Aw ["self","knob"] ["self","knob"] (Ag ir):=Bo
include N T in
theorem Pn:Ar P w K mg base Be 1 aD.fBk aD.dBk ["self","knob"] (Ow C):=by
 refine N.FBk.1.ok iW (fun vs H Q E h=>?_) (fun cdv A outer s H vs Q E hr h=>?_)
 ·refine byC fun hng=>?_
  obtain ⟨x,bs,ks,k,j1,b1,wd,nm,rs,rfl,_⟩:=h
  refine hng ?_
  rfl
 ·refine byC fun hng=>?_
  obtain ⟨x,bs,ks,k,j1,b1,wd,nm,rs,rfl,O,hk,hb1,q⟩:=h
  refine hng ?_
  have hu:=Fy hr
  refine ⟨_,(Ah (Av (Ek hu (Cr (pv 0) rfl) (Am (Aj (K:=K) rfl) (Am Eb (Cr (pv 0) rfl) (pv 1) (fun _ _=>rfl)) Ab (fun _ _=>rfl)) (fun _ _=>rfl)))),?_⟩
  refine byC fun hng=>?_
  obtain ⟨⟨dx,fs,bl,bn,kp,kr,bvs,pvs,uvs,kvs,h1,l1,l2,l3,l4,lm,h2,h3,h4,h5,h6,h7,h8,h9⟩,ob5,osz,onk⟩:=id O
  refine hng ?_
  refine byC fun hng=>?_
  obtain ⟨y,hy,T0,rfl,ht⟩:=Bh h9 hk
  refine hng ?_
  have g1:=GF.k (k:=Sum.inr b1.1) h4
  rw [h5 j1 b1 hb1] at g1
  exact ⟨_,rfl,x,C,dx,_,_,rfl,h1,T.cl,T.n_board_numbers,l2,_,rfl,x,C,dx,_,_,rfl,h1,T.cl,T.n_knob_rows,l4,_,rfl,kr,uvs,_,_,rfl,rfl,.inl (.inl h8),Af hy,T0,_,_,_,rfl,rfl,.inl (.inl ht),Af (j:=2) rfl,bn,_,rfl,g1,q⟩
theorem aO:Aw ["self","knob","row"] ["self","knob"] (Ag lG):=Bo
include N T in
theorem bQ:Ar P w K mg base Be 2 aD.fOp aD.dOp ["self","knob"] (Z3 C):=by
 have GBk:Ar P w K mg base Be 1 aD.fBk aD.dBk ["self","knob"] (Ow C):=Pn N T
 refine N.FOp.1.ok aO (fun vs H Q E h=>?_) (fun cdv A outer s H vs Q E hr h=>?_)
 ·refine byC fun hng=>?_
  obtain ⟨x,bs,ks,k,j1,j2,b1,b2,nm,s0,rfl,_⟩:=h
  refine hng ?_
  rfl
 ·refine byC fun hng=>?_
  obtain ⟨x,bs,ks,k,j1,j2,b1,b2,nm,s0,rfl,O,hk,hb1,hb2,q⟩:=h
  refine hng ?_
  have hrBk:BV 1 _:=hr.mono (by decide)
  have hu:=Fy hr
  refine ⟨_,(Ae (Ax (i:=2) aO.nd rfl (Or.inl rfl) (Am Eb (Cr (pv 0) rfl) (pv 1) (fun _ _=>rfl)))
   (Ah (Av (CV (Aa (C_ (pv 0) T.cl N.FBk.2.2 GBk hrBk N.FBk.2.1 .nil Ao (Aa (pv 1) Ac)) (Aa (Ek hu (Cr (pv 0) rfl) (Am (Aj (K:=K) rfl) (pv 2) Ab (fun _ _=>rfl)) (fun _ _=>rfl)) (Aa (Am (Aj (K:=K) rfl) (pv 2) Ab (fun _ _=>rfl)) Ac))))))),?_⟩
  refine byC fun hng=>?_
  obtain ⟨⟨dx,fs,bl,bn,kp,kr,bvs,pvs,uvs,kvs,h1,l1,l2,l3,l4,lm,h2,h3,h4,h5,h6,h7,h8,h9⟩,ob5,osz,onk⟩:=id O
  refine hng ?_
  refine byC fun hng=>?_
  obtain ⟨y,hy,T0,rfl,ht⟩:=Bh h9 hk
  refine hng ?_
  have g1:=GF.k (k:=Sum.inr b1.1) h4
  rw [h5 j1 b1 hb1] at g1
  have g2:=GF.k (k:=Sum.inr b2.1) h4
  rw [h5 j2 b2 hb2] at g2
  refine ⟨_,rfl,x,C,dx,_,_,rfl,h1,T.cl,T.n_knob_rows,l4,_,rfl,kr,uvs,_,_,rfl,rfl,.inl (.inl h8),Af hy,?_⟩
  refine ⟨_,rfl,x,dx,fs,rfl,h1,lm _ (by decide +kernel),_,rfl,x,bs,ks,k,j1,b1,_,_,_,rfl,O,hk,hb1,?_⟩
  refine ⟨_,rfl,x,C,dx,_,_,rfl,h1,T.cl,T.n_board_numbers,l2,_,rfl,T0,_,_,_,rfl,rfl,.inl (.inl ht),Af (j:=3) rfl,bn,_,rfl,g2,?_⟩
  exact ⟨_,rfl,T0,_,_,_,rfl,rfl,.inl (.inl ht),Af (j:=4) rfl,by show 3<=sizeLine; decide,fun p hp=>q _ _ (Az hp) ⟨p,rfl,Ak⟩⟩
noncomputable def aY (C:Addr):Sp:=fun vs H Q _=>∃ (x:Addr) (bs:List (Str × Nat)) (ks:List R) (k i j1 j2:Nat) (b1 b2:Str × Nat) (qd:Nat × Nat) (nm:Str) (s:Int),vs=[.ref x,.int (k:Nat),.int (i:Nat)]/\Dg C H x bs ks/\(Ec bs)[i]? = some qd/\ks[k]? = some ⟨"coupler",nm,[.str b1.1,.str b2.1,.int s]⟩/\bs[j1]? = some b1/\bs[j2]? = some b2 /\
 ∀ H',An H H'->Q (Jl bs j1 j2 s qd b2.2) H'
theorem R5:Aw ["organ","knob","key","coupler","place","second","number"] ["organ","knob","key"] (Ag iI):=Bo
include N T in
theorem aR:Ar P w K mg base Be 3 aD.fLe aD.dLe ["organ","knob","key"] (aY C):=by
 have GOc:Ar P w K mg base Be 1 aD.fOc aD.dOc ["self"] (Xq C):=W5 N T
 have GOp:Ar P w K mg base Be 2 aD.fOp aD.dOp ["self","knob"] (Z3 C):=bQ N T
 have GOo:Ar P w K mg base Be 1 aD.fOo aD.dOo ["self","key"] (YM C):=WP N T
 have GOb:Ar P w K mg base Be 1 aD.fOb aD.dOb ["self"] (Vm C):=Ul N T
 have GOk:Ar P w K mg base Be 2 aD.fOk aD.dOk ["self","board","number"] (Vi C):=Um N T
 refine N.FLe.1.ok R5 (fun vs H Q E h=>?_) (fun cdv A outer s H vs Q E hr h=>?_)
 ·refine byC fun hng=>?_
  obtain ⟨x,bs,ks,k,i,j1,j2,b1,b2,qd,nm,s0,rfl,_⟩:=h
  refine hng ?_
  rfl
 ·refine byC fun hng=>?_
  obtain ⟨x,bs,ks,k,i,j1,j2,b1,b2,qd,nm,s0,rfl,O,hq,hk,hb1,hb2,q⟩:=h
  refine hng ?_
  have hrOc:BV 1 _:=hr.mono (by decide)
  have hrOp:BV 2 _:=hr.mono (by decide)
  have hrOo:BV 1 _:=hr.mono (by decide)
  have hrOb:BV 1 _:=hr.mono (by decide)
  have hrOk:BV 2 _:=hr.mono (by decide)
  refine ⟨_,(Ae (Bt (Cj (Ga Ew Gz Ab (pv 2) (Eo (pv 0) T.cl N.FOc.2.2 GOc hrOc N.FOc.2.1 .nil Ao))) (Ah (Av Gv)) Bd)
   (Ae (Ax (i:=3) R5.nd rfl (Or.inl rfl) (C_ (pv 0) T.cl N.FOp.2.2 GOp hrOp N.FOp.2.1 .nil Ao (Aa (pv 1) Ac)))
   (Ae (Ax (i:=4) R5.nd rfl (Or.inl rfl) (C_ (pv 0) T.cl N.FOo.2.2 GOo hrOo N.FOo.2.1 .nil Ao (Aa (pv 2) Ac)))
   (Ae (Ax (i:=5) R5.nd rfl (Or.inl rfl) (Am (A_ (K:=K) rfl) (Eo (pv 0) T.cl N.FOb.2.2 GOb hrOb N.FOb.2.1 .nil Ao) (Am (Aj (K:=K) rfl) (pv 3) Ab (fun _ _=>rfl)) (fun _ _=>rfl)))
   (Ae (Ax (i:=6) R5.nd rfl (Or.inl rfl) (Aq Bp (Am (Aj (K:=K) rfl) (pv 4) Ab (fun _ _=>rfl)) (Am (Aj (K:=K) rfl) (pv 3) Ab (fun _ _=>rfl))))
   (Ae (Bt (PW.pt (Dr (BR Ey (Am (Aj (K:=K) rfl) (pv 4) Ab (fun _ _=>rfl)) (Am (Aj (K:=K) rfl) (pv 3) Ab (fun _ _=>rfl)) (BZ _)) (Ea (Cj (Ga Ew Gz Ab (pv 6) (Am (Aj (K:=K) rfl) (pv 5) Ab (fun _ _=>rfl))))))) (Ah (Av Gv)) Bd)
   (Ah (Av (C_ (pv 0) T.cl N.FOk.2.2 GOk hrOk N.FOk.2.1 .nil Ao (Aa (Am (Aj (K:=K) rfl) (pv 5) Ab (fun _ _=>rfl)) (Aa (pv 6) Ac))))))))))),?_⟩
  have hi:i<(Ec bs).length:=(List.getElem?_eq_some_iff.mp hq).1
  have meth:∀ {H':Hp},Dg C H' x bs ks->∃ dx fs,H' x=some (.ins C dx fs)/\∀ m∈meths,fs.lookup m=none:=fun O'=>by
   refine byC fun hng=>?_
   obtain ⟨⟨dx,fs,_,_,_,_,_,_,_,_,h1,_,_,_,_,lm,_⟩,_⟩:=O'
   refine hng ?_
   exact ⟨dx,fs,h1,lm⟩
  obtain ⟨dx,fs,hx,lm⟩:=meth O
  refine ⟨_,rfl,_,_,rfl,rfl,_,rfl,?_⟩
  refine Dn (fun _=>?_) (fun z=>absurd (decide_eq_true (by omega)) z)
  refine ⟨_,rfl,x,dx,fs,rfl,hx,lm _ (by decide +kernel),x,bs,ks,rfl,O,_,_,rfl,rfl,_,rfl,?_⟩
  rw [decide_eq_true (by omega:(i:Int)<((Ec bs).length:Nat))]
  refine Bj ?_
  refine ⟨_,rfl,x,dx,fs,rfl,hx,lm _ (by decide +kernel),_,rfl,x,bs,ks,k,j1,j2,b1,b2,nm,s0,rfl,O,hk,hb1,hb2,fun y1 H1 s1 hy1=>?_⟩
  have O1:=O.mono s1
  obtain ⟨dx1,fs1,hx1,lm1⟩:=meth O1
  refine ⟨_,rfl,x,dx1,fs1,rfl,hx1,lm1 _ (by decide +kernel),_,rfl,x,bs,ks,i,qd,rfl,O1,hq,fun y2 hy2=>?_⟩
  refine ⟨_,rfl,x,dx1,fs1,rfl,hx1,lm1 _ (by decide +kernel),x,bs,ks,rfl,O1,fun D bvs H2 hD s2 hl2 hb2'=>?_⟩
  obtain ⟨T1,rfl,ht1⟩:=hy1.mono s2
  obtain ⟨T2,rfl,ht2⟩:=hy2.mono s2
  refine byC fun hng=>?_
  obtain ⟨v3,hv3,T3,rfl,ht3⟩:=Bh hb2' hb2
  refine hng ?_
  refine ⟨_,rfl,T1,_,_,_,rfl,rfl,.inl (.inl ht1),Af (j:=1) rfl,D,bvs,_,_,rfl,rfl,.inl (.inl hl2),Af hv3,?_⟩
  refine ⟨_,rfl,T2,_,_,_,rfl,rfl,.inl (.inl ht2),Af (j:=1) rfl,_,rfl,T1,_,_,_,rfl,rfl,.inl (.inl ht1),Af (j:=2) rfl,_,_,rfl,rfl,?_⟩
  refine ⟨_,rfl,T2,_,_,_,rfl,rfl,.inl (.inl ht2),Af (j:=0) rfl,_,rfl,T1,_,_,_,rfl,rfl,.inl (.inl ht1),Af (j:=0) rfl,rfl,_,rfl,?_⟩
  have fin:=q H2 (s1.trans s2)
  unfold Jl at fin
  by_cases e1:qd.1=j1
  ·have z:(!decide (V.int (qd.1:Nat)=V.int (j1:Nat)))=false:=by rw [e1]; simp
   rw [z]
   refine Bj ?_
   refine ⟨_,rfl,_,_,rfl,rfl,_,rfl,?_⟩
   refine Dn (fun g1=>?_) (fun g1=>?_)
   ·refine ⟨_,rfl,T3,_,_,_,rfl,rfl,.inl (.inl ht3),Af (j:=1) rfl,_,_,rfl,rfl,_,rfl,?_⟩
    have g1':0<=(qd.2:Int)+s0:=of_decide_eq_true g1
    by_cases g2:(qd.2:Int)+s0<(b2.2:Nat)
    ·have z2:decide ((qd.2:Int)+s0<(b2.2:Nat))=true:=decide_eq_true g2
     rw [z2]
     refine Bj ?_
     rw [if_pos ⟨e1,g1',g2⟩] at fin
     obtain ⟨dx2,fs2,hx2,lm2⟩:=meth (O1.mono s2)
     refine ⟨_,rfl,x,dx2,fs2,rfl,hx2,lm2 _ (by decide +kernel),_,rfl,T3,_,_,_,rfl,rfl,.inl (.inl ht3),Af (j:=0) rfl,_,rfl,x,bs,ks,j2,b2,_,rfl,O1.mono s2,hb2,fun H3 s3=>?_⟩
     have fin3:=q H3 ((s1.trans s2).trans s3)
     unfold Jl at fin3
     rw [if_pos ⟨e1,g1',g2⟩] at fin3
     exact fin3
    ·have z2:decide ((qd.2:Int)+s0<(b2.2:Nat))=false:=decide_eq_false g2
     rw [z2]
     refine CW ?_
     rw [if_neg fun z=>g2 z.2.2] at fin
     exact fin
   ·refine ⟨_,rfl,?_⟩
    have g1':decide (0<=(qd.2:Int)+s0)=false:=(Bool.not_eq_true _).mp g1
    rw [if_neg fun z=>absurd (decide_eq_true z.2.1) g1] at fin
    exact CW fin
  ·have z:(!decide (V.int (qd.1:Nat)=V.int (j1:Nat)))=true:=by
    rw [decide_eq_false fun z=>e1 (by have:=V.int.inj z; omega)]
    rfl
   rw [z]
   refine CW ?_
   rw [if_neg fun z=>e1 z.1] at fin
   exact fin
noncomputable abbrev nV (l:List Nat):List V:=l.map fun n:Nat=>V.int (n:Int)
noncomputable def Y6:Sp:=fun vs H Q _=>∃ i:Int,vs=[.int i]/\Q (.bl (decide (0<=i) && decide (i<1200))) H
theorem gk:Aw ["thing"] ["thing"] (Ag lE):=Bo
include N T in
theorem bx:Ar P w K mg base Be 2 aD.fMy aD.dMy ["thing"] Y6:=by
 have GWh:Ar P w K mg base Be 1 aD.fWh aD.dWh ["thing"] Q0:=WL N T
 refine N.FMy.1.ok gk (fun vs H Q E h=>?_) (fun cdv A outer s H vs Q E hr h=>?_)
 ·obtain ⟨i,rfl,_⟩:=h
  rfl
 ·obtain ⟨i,rfl,q⟩:=h
  have hrWh:BV 1 _:=hr.mono (by decide)
  obtain ⟨tMB,hMB⟩:=T.below
  refine ⟨_,(Ah (Av (Dy (Ai GWh hrWh rfl N.FWh.2.2 N.FWh.1.kp N.FWh.2.1 .nil Ao (Aa (pv 0) Ac)) (Dq (Im Ew Gz Ab (pv 0) (Dh (v:=.int 1200) rfl hMB ⟨tMB,rfl⟩)))))),?_⟩
  refine ⟨_,rfl,i,rfl,_,rfl,CW ?_⟩
  refine ⟨_,rfl,_,_,rfl,rfl,_,rfl,?_⟩
  refine Dn (fun h1=>?_) (fun h1=>?_)
  ·rw [h1,Bool.true_and] at q
   exact ⟨_,_,rfl,rfl,q⟩
  ·rw [(Bool.not_eq_true _).mp h1,Bool.false_and] at q
   exact q
noncomputable def X8:Sp:=fun vs H Q _=>∃ (p:Addr) (l:List Nat),vs=[.ref p]/\H p=some (.lst (nV l))/\l.length<=500/\(∀ n∈l,n<1200)/\∀ H',An H H'->Q (.int (Wd.mk l:Nat)) H'
theorem WW (l:List Nat) (n:Nat):Builtin.bitOr ((Wd.mk l:Nat):Int) (1 * 2 ^ ((n:Nat):Int).toNat)=((Wd.mk (l++[n]):Nat):Int):=by
 rw [Int.one_mul,Int.toNat_natCast,Ep,Jh,Wd.U7]
theorem V0:Aw ["numbers","some","number"] ["numbers"] (Ag fj):=Bo
include N T in
theorem Wo:Ar P w K mg base Be 3 aD.fSt aD.dSt ["numbers"] X8:=by
 have GMy:Ar P w K mg base Be 2 aD.fMy aD.dMy ["thing"] Y6:=bx N T
 refine N.FSt.1.ok V0 (fun vs H Q E h=>?_) (fun cdv A outer s H vs Q E hr h=>?_)
 ·obtain ⟨p,l,rfl,_⟩:=h
  rfl
 ·obtain ⟨p,l,rfl,hp,hz,hb,q⟩:=h
  have hrMy:BV 2 _:=hr.mono (by decide)
  refine ⟨_,(Ae (Bt (PW.pt (Dr (Cj (Cy (BP Ci rfl T.isin PyProof.Rows.boot_isinstance (Aa (pv 0) (Aa (Do (v:=.ty "list") rfl T.list PyProof.Rows.boot_list rfl) Ac))))) (Ea (Cj (Cy (BP (KD rfl) rfl T.all PyProof.Rows.boot_all (Aa (Bu rfl (Bc (osc:=Ag fj) (N:=["numbers","some","number"]) rfl rfl (by decide +kernel)) (Bg (pv 0)) (fun _ _ _ _=>Cd) (fun _ _ _ _=>(Ai GMy hrMy rfl N.FMy.2.2 N.FMy.1.kp N.FMy.2.1 .nil Ao (Aa (pv 0) Ac)))) Ac))))))) (Ah HY) Bd)
   (Ae (Ax (i:=1) V0.nd rfl (Or.inl rfl) Ab)
   (Ae (Cq PassesOwn.never rfl (Bg (pv 0)) (Ba (i:=2) V0.nd rfl (Or.inl rfl)) (Ah (Ax (i:=1) V0.nd rfl (Or.inl rfl) (Aq NT (pv 1) (Aq LC Ab (pv 2))))))
   (Ah (Av (pv 1)))))),?_⟩
  have hS:CK K H p (nV l):=.inl (.inl hp)
  refine ⟨_,rfl,_,"list",_,_,rfl,.lst hp,Tg,_,rfl,Bj ?_⟩
  have hzl:(nV l).length<sizeLine:=BJ (by simp; omega)
  refine ⟨_,rfl,p,rfl,⟨_,hS⟩,Ca (K:=K) (xs:=nV l) (fun _=>true) (fun _=>.bl true) hS hzl (fun x hx H' hs R k=>k H' (An.refl H')) (fun x hx _ H' hs R k=>?_) (fun D H' hD hs hl=>?_)⟩
  ·obtain ⟨n,hn,rfl⟩:=List.mem_map.mp hx
   refine ⟨_,rfl,(n:Int),rfl,?_⟩
   have e:(decide ((0:Int)<=(n:Int)) && decide ((n:Int)<1200))=true:=by
    have:=hb n hn
    simp
    omega
   rw [e]
   exact k H' (An.refl H')
  ·refine ⟨D,(nV l).map fun _=>true,rfl,.inl (.inl ?_),?_⟩
   ·rw [hl,List.filter_eq_self.mpr (fun _ _=>rfl)]
    simp
   ·have e:((nV l).map fun _=>true).all id=true:=by simp
    rw [e]
    refine ⟨_,rfl,Bj ?_⟩
    refine ⟨_,rfl,p,rfl,⟨_,hs.seq hS⟩,Dl (K:=K) (a:=p) (xs:=nV l) (fun i σ H4=>H4=H'/\∃ v2,σ=[some (.ref p),some (.int (Wd.mk (l.take i):Nat)),v2]) ⟨rfl,_,rfl⟩ (fun i σ H4 _ h=>by rw [h.1]; exact hs.seq hS) ?_ ?_⟩
    ·rintro i y σ H4 hi ⟨rfl,v2,rfl⟩
     rw [List.getElem?_map] at hi
     obtain ⟨n,hn,rfl⟩:=Option.map_eq_some_iff.mp hi
     have hn':=hb n (List.mem_of_getElem? hn)
     refine ⟨_,rfl,_,rfl,_,_,rfl,rfl,⟨by omega,by omega,by decide⟩,_,_,rfl,rfl,?_⟩
     refine ⟨rfl,some (.int (n:Int)),?_⟩
     dsimp only
     rw [WW,List.take_add_one,hn]
     rfl
    ·rintro σ H4 ⟨rfl,v2,rfl⟩
     have el:l.take (nV l).length=l:=List.take_of_length_le (by simp)
     rw [el]
     exact ⟨_,rfl,q _ hs⟩
noncomputable def Oc:Sp:=fun vs H Q _=>∃ (n:Nat) (i:Int),vs=[.int n,.int i]/\Q (.bl (decide (0<=i) && n.testBit i.toNat)) H
theorem Pa (n:Nat) (i:Int):decide (V.int (Builtin.bitAnd ((n:Int) / 2 ^ i.toNat) 1)=V.int 1)=n.testBit i.toNat:=by
 rw [Ep,show (1:Int)=((1:Nat):Int) from rfl,← Int.natCast_ediv,Hb,Bool.eq_iff_iff]
 rw [Nat.testBit_eq_decide_div_mod_eq,Nat.and_one_is_mod]
 simp only [decide_eq_true_eq,V.int.injEq]
 exact Int.ofNat_inj
theorem iZ:Aw ["some","number"] ["some","number"] (Ag gY):=Bo
include N T in
theorem K3:Ar P w K mg base Be 1 aD.fHa aD.dHa ["some","number"] Oc:=by
 refine N.FHa.1.ok iZ (fun vs H Q E h=>?_) (fun cdv A outer s H vs Q E hr h=>?_)
 ·obtain ⟨n,i,rfl,_⟩:=h
  rfl
 ·obtain ⟨n,i,rfl,q⟩:=h
  refine ⟨_,(Ah (Av (Dy (Im Ew Gz Ab (pv 1) (Uc PySem.F.plainAttrs_int PySem.F.slot_int_bit_length PySem.F.type_int_bit_length Mx (pv 0))) (Dq (EY DG (Aq G_ (Aq Gs (pv 0) (pv 1)) Ab) Ab (BZ _)))))),?_⟩
  refine ⟨_,rfl,_,_,rfl,rfl,_,rfl,?_⟩
  refine Dn (fun h1=>?_) (fun h1=>?_)
  ·have hi:0<=i:=of_decide_eq_true h1
   refine ⟨_,rfl,rfl,(n:Int),rfl,rfl,_,_,rfl,rfl,_,rfl,?_⟩
   rw [JH]
   refine Dn (fun h2=>?_) (fun h2=>?_)
   ·refine ⟨_,rfl,_,rfl,_,_,rfl,rfl,hi,_,_,rfl,rfl,rfl,?_⟩
    dsimp only
    rw [Pa]
    rw [h1,Bool.true_and] at q
    exact q
   ·have e:n.testBit i.toNat=false:=by
     cases hb:n.testBit i.toNat with
     | false=>rfl
     | true =>
      have:=Wd.R7 hb
      exact absurd (decide_eq_true (by omega:i<(Wd.len n:Int))) h2
    rw [e,Bool.and_false] at q
    exact q
  ·rw [(Bool.not_eq_true _).mp h1,Bool.false_and] at q
   exact ⟨_,rfl,Bj q⟩
noncomputable def Xh:Sp:=fun vs H Q _=>∃ n:Nat,vs=[.int n]/\n<2 ^ 1200/\∀ p H',H p=none->An H H'->H' p=some (.lst (nV (Wd.mem n)))->Q (.ref p) H'
theorem Uj (n:Nat):((((List.range (Wd.len n)).map fun (i:Nat)=>(0:Int)+(i:Int)).filter fun i=>decide (0<=i) && n.testBit i.toNat).map fun i=>V.int i)=nV (Wd.mem n):=by
 unfold Wd.mem
 rw [List.filter_map,List.map_map]
 have e:((fun i:Int=>decide (0<=i) && n.testBit i.toNat) ∘ fun (i:Nat)=>(0:Int)+(i:Int))=n.testBit:=by
  funext i
  show (decide (0<=(0:Int)+(i:Int)) && n.testBit ((0:Int)+(i:Int)).toNat)=n.testBit i
  have h1:(0:Int)<=0+(i:Int):=by omega
  have h2:((0:Int)+(i:Int)).toNat=i:=by omega
  rw [decide_eq_true h1,h2,Bool.true_and]
 rw [e]
 refine List.map_congr_left fun i _=>?_
 show V.int ((0:Int)+(i:Int))=V.int (i:Int)
 rw [Int.zero_add]
theorem jr:Aw ["some"] ["some"] (Ag fJ):=Bo
include N T in
theorem Wh:Ar P w K mg base Be 2 aD.fMe aD.dMe ["some"] Xh:=by
 have GHa:Ar P w K mg base Be 1 aD.fHa aD.dHa ["some","number"] Oc:=K3 N T
 refine N.FMe.1.ok jr (fun vs H Q E h=>?_) (fun cdv A outer s H vs Q E hr h=>?_)
 ·obtain ⟨n,rfl,_⟩:=h
  rfl
 ·obtain ⟨n,rfl,hn,q⟩:=h
  have hrHa:BV 1 _:=hr.mono (by decide)
  refine ⟨_,(Ah (Av (Bu rfl (Bc (osc:=Ag fJ) (N:=["some"]) rfl rfl (by decide +kernel)) (CN rfl T.range (Aa (Uc PySem.F.plainAttrs_int PySem.F.slot_int_bit_length PySem.F.type_int_bit_length Mx (pv 0)) Ac)) (fun _ _ _ _=>(Ft (Cy (Ai GHa hrHa rfl N.FHa.2.2 N.FHa.1.kp N.FHa.2.1 .nil Ao (Aa (pv 1) (Aa (pv 0) Ac)))))) (fun _ _ _ _=>(pv 0))))),?_⟩
  have hlen:Wd.len n<=1200:=Wd.MP hn
  refine ⟨_,rfl,rfl,(n:Int),rfl,rfl,?_⟩
  rw [JH]
  refine ⟨_,rfl,by omega,by omega,?_⟩
  rw [Int.toNat_natCast]
  refine Dw (lo:=0) (n:=Wd.len n) (fun i=>decide (0<=i) && n.testBit i.toNat) (fun i=>.int i) (Nat.lt_of_le_of_lt hlen (by decide)) (fun i hi H' hs R k=>?_) (fun i hi _ H' hs R k=>⟨_,rfl,k H' (An.refl H')⟩) (fun D H' hD hs hl=>?_)
  ·exact ⟨_,rfl,_,rfl,n,_,rfl,_,rfl,k H' (An.refl H')⟩
  ·rw [Uj] at hl
   exact q D H' hD hs hl
noncomputable def V3:Sp:=fun vs H Q _=>∃ (n:Nat) (k:Int) (c:Nat),vs=[.int n,.int k,.int c]/\n<2 ^ 1200 /\ -1200<=k/\k<=1200/\c<=1200/\Q (.int (Wd.mv n k c:Nat)) H
theorem P_ (m c:Nat):Builtin.bitAnd (m:Int) (1 * 2 ^ ((if (0:Int) > (c:Int) then (0:Int) else (c:Int))).toNat - 1)=((m % 2 ^ c:Nat):Int):=by
 have h:¬ (0:Int) > (c:Int):=by omega
 rw [if_neg h,Int.one_mul,Int.toNat_natCast,Ep]
 have hp:1<=2 ^ c:=Nat.one_le_two_pow
 have e:((2 ^ c:Nat):Int) - 1=((2 ^ c - 1:Nat):Int):=by omega
 rw [e,Hb,Nat.and_two_pow_sub_one_eq_mod]
theorem Zn:Aw ["some","steps","count","moved"] ["some","steps","count"] (Ag jR):=Bo
include N T in
theorem Tu:Ar P w K mg base Be 1 aD.fSh aD.dSh ["some","steps","count"] V3:=by
 refine N.FSh.1.ok Zn (fun vs H Q E h=>?_) (fun cdv A outer s H vs Q E hr h=>?_)
 ·obtain ⟨n,k,c,rfl,_⟩:=h
  rfl
 ·obtain ⟨n,k,c,rfl,hn,k1,k2,hc,q⟩:=h
  refine ⟨_,(Ae (Ax (i:=3) Zn.nd rfl (Or.inl rfl) (J8 (BR Wr (pv 1) Ab (BZ _)) (Aq V4 (pv 0) (pv 1)) (Aq Gs (pv 0) (Ha Fe (pv 1)))))
   (Ah (Av (Aq G_ (pv 3) (Aq Dv (Aq LC Ab (BP (RV rfl) rfl T.max PyProof.Rows.boot_max (Aa (pv 2) (Aa Ab Ac)))) Ab))))),?_⟩
  have hlen:Wd.len n<=1200:=Wd.MP hn
  have p1:(2:Int) ^ 27=134217728:=by decide
  refine ⟨_,rfl,_,_,rfl,rfl,_,rfl,?_⟩
  refine Dn (fun h1=>?_) (fun h1=>?_)
  ·have hk:0<k:=of_decide_eq_true h1
   refine ⟨_,rfl,_,rfl,_,_,rfl,rfl,⟨by omega,by rw [JH,p1]; omega⟩,?_⟩
   refine ⟨_,rfl,_,rfl,_,_,rfl,⟨_,_,rfl,rfl,⟨by split <;> omega,by split <;> omega,by decide⟩,_,_,rfl,rfl,_,_,rfl,rfl,?_⟩⟩
   dsimp only
   have e:((n:Int) * 2 ^ k.toNat)=((n * 2 ^ k.toNat:Nat):Int):=by rw [Ep]; simp
   rw [e,P_]
   unfold Wd.mv at q
   rw [if_pos hk] at q
   exact q
  ·have hk:¬ 0<k:=fun z=>h1 (decide_eq_true z)
   refine ⟨_,rfl,_,rfl,_,rfl,_,_,rfl,rfl,by omega,?_⟩
   refine ⟨_,rfl,_,rfl,_,_,rfl,⟨_,_,rfl,rfl,⟨by split <;> omega,by split <;> omega,by decide⟩,_,_,rfl,rfl,_,_,rfl,rfl,?_⟩⟩
   dsimp only
   have e:((n:Int) / 2 ^ (-k).toNat)=((n / 2 ^ (-k).toNat:Nat):Int):=by rw [Ep]; simp
   rw [e,P_]
   unfold Wd.mv at q
   rw [if_neg hk] at q
   exact q
noncomputable def dg (C:Addr):Sp:=fun vs H Q _=>∃ (x:Addr) (bs:List (Str × Nat)) (ks:List R),vs=[.ref x]/\Dg C H x bs ks/\∀ D ys H',H D=none->An H H'->H' D=some (.lst ys)->Paired (fun (r:R) y=>TupAt H' [.str r.w,.str r.nm] y) ks ys->Q (.ref D) H'
theorem km:Aw ["self"] ["self"] (Ag eE):=Bo
include N T in
theorem Zw:Ar P w K mg base Be 1 aD.fOz aD.dOz ["self"] (dg C):=by
 refine N.FOz.1.ok km (fun vs H Q E h=>?_) (fun cdv A outer s H vs Q E hr h=>?_)
 ·obtain ⟨x,bs,ks,rfl,_⟩:=h
  rfl
 ·obtain ⟨x,bs,ks,rfl,O,q⟩:=h
  refine ⟨_,(Ah (Av (Bu rfl (Bc (osc:=Ag eE) (N:=["self"]) rfl rfl (by decide +kernel)) (Bg (Cr (pv 0) rfl)) (fun _ _ _ _=>Cd) (fun _ _ _ _=>(CV (Aa (Am (Aj (K:=K) rfl) (pv 0) Ab (fun _ _=>rfl)) (Aa (Am (Aj (K:=K) rfl) (pv 0) Ab (fun _ _=>rfl)) Ac))))))),?_⟩
  obtain ⟨⟨dx,fs,bl,bn,kp,kr,bvs,pvs,uvs,kvs,h1,l1,l2,l3,l4,lm,h2,h3,h4,h5,h6,h7,h8,h9⟩,ob5,osz,onk⟩:=id O
  have hS:CK K H kr uvs:=.inl (.inl h8)
  have hul:=h9.length
  refine ⟨_,rfl,x,C,dx,_,_,rfl,h1,T.cl,T.n_knob_rows,l4,kr,rfl,⟨_,hS⟩,Jo (K:=K) (xs:=uvs) (fun _=>true) (fun v=>[.str (Up H v).w,.str (Up H v).nm]) hS (BJ (by omega)) (fun y hy H' hs R k=>k H' (An.refl H')) (fun y hy _ H' hs R k=>?_) (fun D H' ys hD hs hl hv=>?_)⟩
  ·obtain ⟨r,_,hr0⟩:=DQ h9 hy
   have e:=Oe hr0
   rw [e] at k
   obtain ⟨T0,rfl,hT⟩:=hr0.mono hs
   exact ⟨_,rfl,T0,_,_,_,rfl,rfl,.inl (.inl hT),Af (j:=0) rfl,_,rfl,T0,_,_,_,rfl,rfl,.inl (.inl hT),Af (j:=1) rfl,by show 2<=sizeLine; decide,fun T6 hT6=>k _ _ (Az hT6) ⟨T6,rfl,Ak⟩⟩
  ·rw [List.filter_eq_self.mpr (fun _ _=>rfl)] at hv
   have h:=By (F:=fun (r:R) y=>TupAt H' [.str r.w,.str r.nm] y) (Up H) hv
   rw [QS h9] at h
   exact q D ys H' hD hs hl h
noncomputable def Ug (C:Addr):Sp:=fun vs H Q _=>∃ (x:Addr) (bs:List (Str × Nat)) (ks:List R) (wd:Str) (D:Nat),vs=[.ref x,.int (D:Nat),.str wd]/\Dg C H x bs ks/\∀ L (cl:List Nat) H',H L=none->An H H'->H' L=some (.lst (nV cl))->(∀ k,k∈cl ↔ ∃ r,ks[k]? = some r/\r.w=wd/\D.testBit k=true)->cl.length<=200->Q (.ref L) H'
theorem ZZ:Aw ["organ","knobs","word","words"] ["organ","knobs","word"] (Ag Yz):=Bo
include N T in
theorem QQ:Ar P w K mg base Be 2 aD.fDc aD.dDc ["organ","knobs","word"] (Ug C):=by
 have GOz:Ar P w K mg base Be 1 aD.fOz aD.dOz ["self"] (dg C):=Zw N T
 have GHa:Ar P w K mg base Be 1 aD.fHa aD.dHa ["some","number"] Oc:=K3 N T
 refine N.FDc.1.ok ZZ (fun vs H Q E h=>?_) (fun cdv A outer s H vs Q E hr h=>?_)
 ·obtain ⟨x,bs,ks,wd,D,rfl,_⟩:=h
  rfl
 ·obtain ⟨x,bs,ks,wd,D,rfl,O,q⟩:=h
  have hrOz:BV 1 _:=hr.mono (by decide)
  have hrHa:BV 1 _:=hr.mono (by decide)
  refine ⟨_,(Ae (Gk (i:=3) ZZ.nd rfl rfl rfl (Bc (osc:=Ag Yz) (N:=["organ","knobs","word","words"]) rfl rfl (by decide +kernel)) (Bg (Eo (pv 0) T.cl N.FOz.2.2 GOz hrOz N.FOz.2.1 .nil Ao)) (fun _ _ _ _=>Cd) (fun _ _ _ _=>(Am (Aj (K:=K) rfl) (pv 0) Ab (fun _ _=>rfl))))
   (Ah (Av (QD rfl (Js (osc:=Ag Yz) (N:=["organ","knobs","word","words"]) rfl rfl (by decide +kernel)) (Ib rfl T.enumerate (Aa (pv 3) Ac)) (fun _ _ _ _=>Ft (PW.pt (Fp (BR DG (pv 1) (pv 4) (BZ _)) (FT (Cy (Ai GHa hrHa rfl N.FHa.2.2 N.FHa.1.kp N.FHa.2.1 .nil Ao (Aa (pv 3) (Aa (pv 0) Ac)))))))) (fun _ _ _ _=>(pv 0)))))),?_⟩
  obtain ⟨⟨dx,fs,bl,bn,kp,kr,bvs,pvs,uvs,kvs,h1,l1,l2,l3,l4,lm,h2,h3,h4,h5,h6,h7,h8,h9⟩,ob5,osz,onk⟩:=id O
  refine ⟨_,rfl,x,dx,fs,rfl,h1,lm _ (by decide +kernel),x,_,_,rfl,O,fun D1 ys H1 hD1 s1 hl1 hv1=>?_⟩
  have hS1:CK K H1 D1 ys:=.inl (.inl hl1)
  have hyl:=hv1.length
  refine ⟨D1,rfl,⟨_,hS1⟩,Ca (K:=K) (xs:=ys) (fun _=>true) (J6 H1 0) hS1 (BJ (by omega)) (fun y hy H' hs R k=>k H' (An.refl H')) (fun y hy _ H' hs R k=>?_) (fun D2 H2 hD2 s2 hl2=>?_)⟩
  ·obtain ⟨r,_,hr0⟩:=DQ hv1 hy
   have e:=Gr hr0 0
   obtain ⟨T0,rfl,hT⟩:=hr0.mono hs
   have kk:=k H' (An.refl H')
   rw [e] at kk
   exact ⟨_,rfl,T0,_,_,_,rfl,rfl,.inl (.inl hT),Af (j:=0) rfl,kk⟩
  rw [List.filter_eq_self.mpr (fun _ _=>rfl),Jg 0 hv1] at hl2
  have e2:(ks.map fun r=>([V.str r.w,V.str r.nm]:List V).getD 0 .non)=ks.map fun r=>V.str r.w:=rfl
  rw [e2] at hl2
  have hS2:CK K H2 D2 (ks.map fun r=>V.str r.w):=.inl (.inl hl2)
  refine ⟨_,rfl,D2,rfl,⟨_,hS2⟩,Qw (K:=K) (xs:=ks.map fun r=>V.str r.w) (fun i v=>decide (v=.str wd) && D.testBit i) (fun i _=>.int (i:Nat)) hS2 (BJ (by rw [List.length_map]; omega)) (fun i v hv H' hs R k=>?_) (fun i v hv _ H' hs R k=>⟨_,rfl,k H' (An.refl H')⟩) (fun D3 H3 hD3 s3 hl3=>?_)⟩
  ·rw [List.getElem?_map] at hv
   obtain ⟨z,hz,rfl⟩:=Option.map_eq_some_iff.mp hv
   have kk:=k H' (An.refl H')
   refine ⟨_,rfl,_,rfl,rfl,_,rfl,?_⟩
   refine Dn (fun g=>?_) (fun g=>?_)
   ·rw [g,Bool.true_and] at kk
    refine ⟨_,rfl,_,rfl,D,_,rfl,_,rfl,?_⟩
    rw [decide_eq_true (by omega:(0:Int)<=(i:Nat)),Bool.true_and,Int.toNat_natCast]
    exact kk
   ·rw [(Bool.not_eq_true _).mp g,Bool.false_and] at kk
    exact kk
  ·refine q D3 (((ks.map fun r=>V.str r.w).zipIdx.filter fun p=>decide (p.1=V.str wd) && D.testBit p.2).map (·.2)) H3 ((s1.trans s2).free hD3) ((s1.trans s2).trans s3) ?_ (fun k=>?_) ?_
   ·rw [hl3]
    refine congrArg (fun l=>some (HO.lst l)) ?_
    unfold nV
    rw [List.map_map]
    rfl
   ·constructor
    ·intro hk
     obtain ⟨⟨v,k'⟩,hm,rfl⟩:=List.mem_map.mp hk
     obtain ⟨h1,h2⟩:=List.mem_filter.mp hm
     have h3:=List.mem_zipIdx' h1
     rw [List.getElem_map] at h3
     obtain ⟨hlt,h3⟩:=h3
     rw [Bool.and_eq_true] at h2
     have hlt':k'<ks.length:=by simpa using hlt
     refine ⟨ks[k'],List.getElem?_eq_getElem hlt',?_,h2.2⟩
     have:=h2.1
     rw [h3] at this
     exact V.str.inj (of_decide_eq_true this)
    ·rintro ⟨z,hz,hc,hd⟩
     refine List.mem_map.mpr ⟨(V.str z.w,k),List.mem_filter.mpr ⟨?_,?_⟩,rfl⟩
     ·rw [List.mem_zipIdx_iff_getElem?,List.getElem?_map,hz]
      rfl
     ·show (decide (V.str z.w=V.str wd) && D.testBit k)=true
      rw [hc,hd,decide_eq_true rfl]
      rfl
   ·rw [List.length_map]
    refine Nat.le_trans (List.length_filter_le _ _) ?_
    rw [List.length_zipIdx,List.length_map]
    omega
noncomputable def V9 (C:Addr):Sp:=fun vs H Q _=>∃ (x:Addr) (bs:List (Str × Nat)) (ks:List R) (n:Nat),vs=[.ref x,.int (n:Nat)]/\Dg C H x bs ks/\n<2 ^ 1200/\Q (.int (Wd.mv n 0 (bs.map (·.2)).sum:Nat)) H
theorem Ej {C:Addr} {H:Hp} {x:Addr} {bs:List (Str × Nat)} {ks:List R} (O:Dg C H x bs ks):(bs.map (·.2)).sum<=305:=by
 have h:=LQ bs 61 O.sz
 rw [FW] at h
 have:=O.nb
 have:bs.length * 61<=5 * 61:=Nat.mul_le_mul_right _ this
 omega
theorem lM:Aw ["organ","held"] ["organ","held"] (Ag jA):=Bo
include N T in
theorem Tc:Ar P w K mg base Be 2 aD.fHk aD.dHk ["organ","held"] (V9 C):=by
 have GSh:Ar P w K mg base Be 1 aD.fSh aD.dSh ["some","steps","count"] V3:=Tu N T
 have GOc:Ar P w K mg base Be 1 aD.fOc aD.dOc ["self"] (Xq C):=W5 N T
 refine N.FHk.1.ok lM (fun vs H Q E h=>?_) (fun cdv A outer s H vs Q E hr h=>?_)
 ·obtain ⟨x,bs,ks,n,rfl,_⟩:=h
  rfl
 ·obtain ⟨x,bs,ks,n,rfl,O,hn,q⟩:=h
  have hrSh:BV 1 _:=hr.mono (by decide)
  have hrOc:BV 1 _:=hr.mono (by decide)
  refine ⟨_,(Ah (Av (Ai GSh hrSh rfl N.FSh.2.2 N.FSh.1.kp N.FSh.2.1 .nil Ao (Aa (pv 1) (Aa Ab (Aa (Eo (pv 0) T.cl N.FOc.2.2 GOc hrOc N.FOc.2.1 .nil Ao) Ac)))))),?_⟩
  obtain ⟨⟨dx,fs,bl,bn,kp,kr,bvs,pvs,uvs,kvs,h1,l1,l2,l3,l4,lm,_⟩,_⟩:=id O
  have h305:=Ej O
  refine ⟨_,rfl,_,rfl,x,dx,fs,rfl,h1,lm _ (by decide +kernel),x,bs,ks,rfl,O,n,0,(Ec bs).length,rfl,hn,by decide,by decide,by rw [FW]; omega,?_⟩
  rw [FW]
  exact q
theorem MN {n:Nat} (h:n<=3000):n<sizeLine:=Nat.lt_of_le_of_lt h (by decide)
theorem Mz {i:Nat} {v:V} {σ:St} {H:Hp} {Q:St->Hp->Prop}:DX i v σ H Q=Q (σ.set i (some v)) H:=rfl
theorem Mt {c:TT} {tb u:TS} {D:Ends} {r:VK} {b k:St->Hp->Prop} {σ:St} {H:Hp} (h:LK c tb { D with nx:=u D } σ H):({ nx:=Vs (LK c tb) u D,rt:=r,bk:=b,ct:=k }:Ends).nx σ H:=h
noncomputable def Qo:Option HO->Nat
 | some (.lst xs)=>xs.length
 | _=>0
noncomputable def Yl:Option HO->Nat
 | some (.dK kvs)=>kvs.length
 | _=>0
noncomputable abbrev kI (j:Nat):Key:=Sum.inl ((j:Nat):Int)
theorem Lk {kvs:List (Key × V)} {js:List Nat} (h:kvs.map (·.1)=js.map kI) (j:Nat):(Ds kvs (kI j)).isSome=decide (j∈js):=by
 rw [← Gj]
 rw [Bool.eq_iff_iff,List.any_eq_true,decide_eq_true_eq]
 constructor
 ·rintro ⟨p,hp,e⟩
  have:p.1∈js.map kI:=by rw [← h]; exact List.mem_map_of_mem hp
  obtain ⟨j',hj',e'⟩:=List.mem_map.mp this
  have e2:kI j'=kI j:=e'.trans (of_decide_eq_true e)
  have:((j':Nat):Int)=(j:Nat):=Sum.inl.inj e2
  have:j'=j:=by omega
  subst this
  exact hj'
 ·intro hj
  have:kI j∈kvs.map (·.1):=by rw [h]; exact List.mem_map_of_mem hj
  obtain ⟨p,hp,e⟩:=List.mem_map.mp this
  exact ⟨p,hp,decide_eq_true e⟩
noncomputable def Mm (H:Hp) (bs:List (Str × Nat)) (kbs:List Kb) (D n:Nat) (kvs:List (Key × V)) (js:List Nat):Prop:=∀ (m j:Nat),js[m]? = some j->∃ (k i:Nat) (T:Addr) (z:Kb),Ds kvs (kI j)=some (.ref T)/\H T=some (.tup [V.int (k:Nat),V.int (i:Nat)])/\D.testBit k=true/\kbs[k]? = some z/\gl bs z i=some j/\(n.testBit i=true \/ i∈js.take m)
theorem Mm.lY {H H':Hp} {bs:List (Str × Nat)} {kbs:List Kb} {D n:Nat} {kvs:List (Key × V)} {js:List Nat} (h:Mm H bs kbs D n kvs js) (hs:∀ T xs,H T=some (.tup xs)->H' T=some (.tup xs)):Mm H' bs kbs D n kvs js:=fun m j hm=>by
 refine byC fun hng=>?_
 obtain ⟨k,i,T,z,h1,h2,h3⟩:=h m j hm
 refine hng ?_
 exact ⟨k,i,T,z,h1,hs _ _ h2,h3⟩
theorem Mm.mono {H H':Hp} {bs:List (Str × Nat)} {kbs:List Kb} {D n:Nat} {kvs:List (Key × V)} {js:List Nat} (h:Mm H bs kbs D n kvs js) (s:An H H'):Mm H' bs kbs D n kvs js:=h.lY fun T xs e=>s _ _ e
theorem Mm.upd {H:Hp} {bs:List (Str × Nat)} {kbs:List Kb} {D n:Nat} {kvs:List (Key × V)} {js:List Nat} {A:Addr} {o u:HO} (h:Mm H bs kbs D n kvs js) (ha:H A=some u) (hu:∀ xs,u ≠ .tup xs):Mm (L2.upd H A o) bs kbs D n kvs js:=h.lY fun T xs e=>by
 rw [BW (fun z=>by rw [z,ha] at e; exact hu xs (Option.some.inj e))]
 exact e
theorem Mm.snoc {H:Hp} {bs:List (Str × Nat)} {kbs:List Kb} {D n:Nat} {kvs:List (Key × V)} {js:List Nat} {k i0 j:Nat} {T:Addr} {z:Kb} (h:Mm H bs kbs D n kvs js) (nv:Ds kvs (kI j)=none) (hT:H T=some (.tup [V.int (k:Nat),V.int (i0:Nat)])) (hk:D.testBit k=true) (hz:kbs[k]? = some z) (hg:gl bs z i0=some j) (hi:n.testBit i0=true \/ i0∈js) :
  Mm H bs kbs D n (kvs++[(kI j,.ref T)]) (js++[j]):=fun m j' hm=>by
 by_cases hlt:m<js.length
 ·rw [List.getElem?_append_left hlt] at hm
  refine byC fun hng=>?_
  obtain ⟨k',i',T',z',h1,h2,h3,h4,h5,h6⟩:=h m j' hm
  refine hng ?_
  refine ⟨k',i',T',z',?_,h2,h3,h4,h5,?_⟩
  ·rw [Hk _ _ _ _ nv]
   by_cases e:kI j'=kI j
   ·rw [e,nv] at h1
    cases h1
   ·rw [if_neg e]
    exact h1
  ·rw [List.take_append_of_le_length (Nat.le_of_lt hlt)]
   exact h6
 ·have hm':=(List.getElem?_eq_some_iff.mp hm).1
  rw [List.length_append,List.length_singleton] at hm'
  have em:m=js.length:=by omega
  subst em
  rw [List.getElem?_append_right (Nat.le_refl _),Nat.sub_self] at hm
  have ej:j=j':=by simpa using hm
  subst ej
  refine ⟨k,i0,T,z,?_,hT,hk,hz,hg,?_⟩
  ·rw [Hk _ _ _ _ nv,if_pos rfl]
  ·rw [List.take_append_of_le_length (Nat.le_refl _),List.take_length]
   exact hi
noncomputable def Yg (C:Addr):Sp:=fun vs H Q _=>∃ (x:Addr) (c:Nat->Str) (sz:List Nat) (kbs:List Kb) (D n:Nat),vs=[.ref x,.int (D:Nat),.int (n:Nat)]/\Dg C H x (BX c sz) (Bw c kbs)/\L_ sz.length kbs/\n<2 ^ 1200/\(∀ i,n.testBit i=true->i<sz.sum) /\
 ∀ W (kvs:List (Key × V)) (js:List Nat) H',H W=none->An H H'->H' W=some (.dK kvs)->kvs.map (·.1)=js.map kI->js.Nodup->Mm H' (BX c sz) kbs D n kvs js->(∀ j,j∈js ↔ K9 (stp (BX c sz) kbs D) (fun i=>n.testBit i=true) j)->Q (.ref W) H'
theorem Ol:Aw ["organ","knobs","held","couplers","ways","left","ahead","knob","key"] ["organ","knobs","held"] (Ag gw):=Bo
include N T in
theorem Wu:Ar P w K mg base Be 4 aD.fWa aD.dWa ["organ","knobs","held"] (Yg C):=by
 have GDc:Ar P w K mg base Be 2 aD.fDc aD.dDc ["organ","knobs","word"] (Ug C):=QQ N T
 have GMe:Ar P w K mg base Be 2 aD.fMe aD.dMe ["some"] Xh:=Wh N T
 have GLe:Ar P w K mg base Be 3 aD.fLe aD.dLe ["organ","knob","key"] (aY C):=aR N T
 have GHa:Ar P w K mg base Be 1 aD.fHa aD.dHa ["some","number"] Oc:=K3 N T
 refine N.FWa.1.ok Ol (fun vs H Q E h=>?_) (fun cdv A outer s H vs Q E hr h=>?_)
 ·refine byC fun hng=>?_
  obtain ⟨x,c,sz,kbs,D,n,rfl,_⟩:=h
  refine hng ?_
  rfl
 ·refine byC fun hng=>?_
  obtain ⟨x,c,sz,kbs,D,n,rfl,O,hkb,hn,hnt,q⟩:=h
  refine hng ?_
  have hrDc:BV 2 _:=hr.mono (by decide)
  have hrMe:BV 2 _:=hr.mono (by decide)
  have hrLe:BV 3 _:=hr.mono (by decide)
  have hrHa:BV 1 _:=hr.mono (by decide)
  have hu:=Fy hr
  refine ⟨_,(Ae (Ax (i:=3) Ol.nd rfl (Or.inl rfl) (Ai GDc hrDc rfl N.FDc.2.2 N.FDc.1.kp N.FDc.2.1 .nil Ao (Aa (pv 0) (Aa (pv 1) (Aa Br Ac)))))
   (Ae (Ax (i:=4) Ol.nd rfl (Or.inl rfl) NB)
   (Ae (Ax (i:=5) Ol.nd rfl (Or.inl rfl) (Ai GMe hrMe rfl N.FMe.2.2 N.FMe.1.kp N.FMe.2.1 .nil Ao (Aa (pv 2) Ac)))
   (Ae (J0 PassesOwn.never (Jv (pv 5) (fun _=>rfl)) (Ae (Ax (i:=6) Ol.nd rfl (Or.inl rfl) (Ex PySem.F.plainAttrs_list PySem.F.slot_list_pop PySem.F.type_list_pop TF (pv 5) (Aa Ab Ac)))
   (Ah (Cq PassesOwn.never rfl (Bg (pv 3)) (Ba (i:=7) Ol.nd rfl (Or.inl rfl)) (Ae (Ax (i:=8) Ol.nd rfl (Or.inl rfl) (Ai GLe hrLe rfl N.FLe.2.2 N.FLe.1.kp N.FLe.2.1 .nil Ao (Aa (pv 0) (Aa (pv 7) (Aa (pv 6) Ac)))))
   (Ah (Bt (PW.pt (Fp (BR Lj (pv 8) Gv (BZ _)) (FT (Ob (Qg hu (pv 8) (pv 4)))))) (Ae (QK hu (pv 4) (pv 8) (CV (Aa (pv 7) (Aa (pv 6) Ac))) rfl)
   (Ah (Bt (Cj (Cy (Ai GHa hrHa rfl N.FHa.2.2 N.FHa.1.kp N.FHa.2.1 .nil Ao (Aa (pv 2) (Aa (pv 8) Ac))))) (Ah (DW (Ex PySem.F.plainAttrs_list PySem.F.slot_list_append PySem.F.type_list_append CG (pv 5) (Aa (pv 8) Ac)))) Bd))) Bd)))))))
   (Ah (Av (pv 4))))))),?_⟩
  have hsum:((BX c sz).map (·.2)).sum=sz.sum:=by rw [Bk]
  generalize hst:stp (BX c sz) kbs D=st
  have hR:∀ {j},K9 st (fun i=>n.testBit i=true) j->j<sz.sum:=fun {j} r=>by
   rw [← hst] at r
   have:=r.lt
   rw [hsum] at this
   exact this
  refine ⟨_,rfl,_,rfl,x,BX c sz,Bw c kbs,"coupler",D,rfl,O,fun CL cl H1 hCL s1 hl1 hcl0 hcll=>?_⟩
  have hcl:∀ k,k∈cl ↔ ∃ z,kbs[k]? = some z/\VD z=true/\D.testBit k=true:=fun k=>by
   rw [hcl0]
   constructor
   ·rintro ⟨r,hr,hw,hd⟩
    obtain ⟨z,hz,rfl⟩:=Dm hr
    rw [Gu] at hw
    exact ⟨z,hz,decide_eq_true (congrArg V.str hw),hd⟩
   ·rintro ⟨z,hz,hc,hd⟩
    exact ⟨_,DY hz,(Gu _ _ _).trans (V.str.inj (of_decide_eq_true hc)),hd⟩
  intro W hW
  obtain ⟨H2,eqH,t2,u2⟩:=JS (o:=HO.dK []) hW
  rw [eqH]
  refine ⟨_,rfl,n,rfl,hn,fun L H3 hL s3 hl3=>?_⟩
  have s13:=t2.trans s3
  have s03:=s1.trans s13
  have hW0:H W=none:=s1.free hW
  have hL0:H L=none:=(s1.trans t2).free hL
  have hWL:W ≠ L:=fun z=>by rw [← z,s3 _ _ u2] at hl3; cases hl3
  have c3:=s13 _ _ hl1
  have hS3:CK K H3 CL (nV cl):=.inl (.inl c3)
  have hCW:CL ≠ W:=fun z=>by rw [z,s3 _ _ u2] at c3; cases c3
  have hCL':CL ≠ L:=fun z=>by rw [z] at hl1; rw [t2 _ _ hl1] at hL; cases hL
  show DX 5 _ _ _ _
  rw [Mz]
  refine Mt ?_
  refine J1 (fun σ H4=>An H H4/\H4 CL=some (.lst (nV cl))/\∃ (kvs:List (Key × V)) (js ls:List Nat),H4 W=some (.dK kvs)/\H4 L=some (.lst (nV ls))/\kvs.map (·.1)=js.map kI/\js.Nodup/\Mm H4 (BX c sz) kbs D n kvs js/\(∀ j∈js,K9 st (fun i=>n.testBit i=true) j)/\(∀ i∈ls,n.testBit i=true \/ i∈js)/\(∀ i,(n.testBit i=true \/ i∈js)->i∈ls \/ ∀ j,st i j->j∈js)/\ls.length+(sz.sum - js.length)<=1600/\∃ v6 v7 v8,σ=[some (.ref x),some (.int (D:Nat)),some (.int (n:Nat)),some (.ref CL),some (.ref W),some (.ref L),v6,v7,v8])
   (fun _ H4=>Qo (H4 L)+(sz.sum - Yl (H4 W))) ⟨s03,c3,[],[],Wd.mem n,s3 _ _ u2,hl3,rfl,List.nodup_nil,(fun m j hm=>by simp at hm),(fun j hj=>nomatch hj),(fun i hi=>.inl (Wd.mem_iff.mp hi)),(fun i hi=>.inl (Wd.mem_iff.mpr (hi.resolve_right (by simp)))),?_,_,_,_,rfl⟩ ?_ ?_
  ·have:=Wd.MP hn
   have:(Wd.mem n).length<=Wd.len n:=by unfold Wd.mem; exact Nat.le_trans (List.length_filter_le _ _) (by simp)
   have h305:=Ej O
   rw [hsum] at h305
   simp
   omega
  ·rintro σ H4 ⟨s4,c4,kvs,js,ls,hw,hl,hkv,nd,hpar,hj,hls,hcl4,hbig,v6,v7,v8,rfl⟩
   refine ⟨_,rfl,_,.inl ⟨_,.inl (.inl hl),rfl⟩,?_⟩
   have hjl:js.length<=sz.sum:=Dp sz.sum nd fun j h=>hR (hj j h)
   have hkl:kvs.length=js.length:=by have:=congrArg List.length hkv; simpa using this
   cases ls with
   | nil =>
    refine Bj ?_
    refine ⟨_,rfl,q W kvs js H4 hW0 s4 hw hkv nd hpar fun j=>?_⟩
    rw [hst]
    exact K9.all (W:=fun j=>j∈js) hj (fun i hi=>(hcl4 i hi).resolve_left (by simp)) j
   | cons i0 ls =>
    refine CW ?_
    refine ⟨_,rfl,.inl ⟨rfl,_,.inl (.inl hl)⟩,L,_,0,0,.int (i0:Nat),rfl,rfl,hl,by decide,by decide,seqIndex_of (by decide) (by simp),rfl,?_⟩
    have w5:upd H4 L (.lst ((nV (i0::ls)).eraseIdx 0)) W=some (.dK kvs):=by rw [BW hWL]; exact hw
    have l5:upd H4 L (.lst ((nV (i0::ls)).eraseIdx 0)) L=some (.lst (nV ls)):=Ak
    have c5:upd H4 L (.lst ((nV (i0::ls)).eraseIdx 0)) CL=some (.lst (nV cl)):=by rw [BW hCL']; exact c4
    have s5:An H (upd H4 L (.lst ((nV (i0::ls)).eraseIdx 0))):=fun b o e=>by rw [BW (BL e hL0)]; exact s4 _ _ e
    have em:Qo (H4 L)+(sz.sum - Yl (H4 W))=ls.length+1+(sz.sum - js.length):=by
     rw [hl,hw]
     show (nV (i0::ls)).length+(sz.sum - kvs.length)=_
     rw [hkl]
     simp
    rw [em]
    have par5:Mm (upd H4 L (.lst ((nV (i0::ls)).eraseIdx 0))) (BX c sz) kbs D n kvs js:=hpar.upd hl (fun xs z=>by cases z)
    generalize upd H4 L (.lst ((nV (i0::ls)).eraseIdx 0))=H5 at w5 l5 c5 s5 par5 ⊢
    have hi0:i0<sz.sum:=by
     rcases hls i0 (List.mem_cons_self ..) with h | h
     ·exact hnt i0 h
     ·exact hR (hj i0 h)
    have hi0R:∀ j,st i0 j->K9 st (fun i=>n.testBit i=true) j:=fun j h=>by
     rcases hls i0 (List.mem_cons_self ..) with g | g
     ·exact .one g h
     ·exact .more (hj i0 g) h
    obtain ⟨qd,hq⟩:∃ qd,(Ec (BX c sz))[i0]? = some qd:=⟨_,List.getElem?_eq_getElem (by rw [FW,hsum]; exact hi0)⟩
    have M:ls.length+(sz.sum - js.length)<ls.length+1+(sz.sum - js.length):=by omega
    refine ⟨_,rfl,CL,rfl,⟨_,.inl (.inl c5)⟩,Dl (K:=K) (a:=CL) (xs:=nV cl) (fun m σ H6=>An H H6/\H6 CL=some (.lst (nV cl))/\∃ (kvs6:List (Key × V)) (js6 ls6:List Nat),H6 W=some (.dK kvs6)/\H6 L=some (.lst (nV ls6))/\kvs6.map (·.1)=js6.map kI/\js6.Nodup/\Mm H6 (BX c sz) kbs D n kvs6 js6/\(∀ j∈js6,K9 st (fun i=>n.testBit i=true) j)/\(∀ i∈ls6,n.testBit i=true \/ i∈js6)/\(∀ i,(n.testBit i=true \/ i∈js6)->i=i0 \/ i∈ls6 \/ ∀ j,st i j->j∈js6)/\(∀ k∈cl.take m,∀ z j,kbs[k]? = some z->gl (BX c sz) z i0=some j->j∈js6)/\(n.testBit i0=true \/ i0∈js6)/\ls6.length+(sz.sum - js6.length)<=ls.length+(sz.sum - js.length)/\∃ v7 v8,σ=[some (.ref x),some (.int (D:Nat)),some (.int (n:Nat)),some (.ref CL),some (.ref W),some (.ref L),some (.int (i0:Nat)),v7,v8])
     ⟨s5,c5,kvs,js,ls,w5,l5,hkv,nd,par5,hj,(fun i hi=>hls i (List.mem_cons_of_mem _ hi)),(fun i hi=>?_),(fun k hk=>by simp at hk),hls i0 (List.mem_cons_self ..),Nat.le_refl _,_,_,rfl⟩ (fun m σ H6 _ h=>.inl (.inl h.2.1)) ?_ ?_⟩
    ·rcases hcl4 i hi with h | h
     ·rcases List.mem_cons.mp h with rfl | h
      ·exact .inl rfl
      ·exact .inr (.inl h)
     ·exact .inr (.inr h)
    ·rintro m y σ H6 hm ⟨s6,c6,kvs6,js6,ls6,w6,l6,kv6,nd6,par6,hj6,hls6,hcl6,hdone,hi06,hmeas,v7,v8,rfl⟩
     rw [List.getElem?_map] at hm
     obtain ⟨k,hk,rfl⟩:=Option.map_eq_some_iff.mp hm
     obtain ⟨z,hz,hzc,hzd⟩:=(hcl k).mp (List.mem_of_getElem? hk)
     have zok:=hkb.ok z (List.mem_of_getElem? hz)
     obtain ⟨j1,j2,s0,rfl⟩:=MK zok hzc
     obtain ⟨hj1,hj2,_,_⟩:=zok
     have hbj1:(BX c sz)[j1]? = some (c j1,sz[j1]):=CT (List.getElem?_eq_getElem hj1)
     have hbj2:(BX c sz)[j2]? = some (c j2,sz[j2]):=CT (List.getElem?_eq_getElem hj2)
     have hkrow:(Bw c kbs)[k]? = some ⟨"coupler",c (30+k),[.str (c j1),.str (c j2),.int s0]⟩:=DY hz
     have hjl6:js6.length<=sz.sum:=Dp sz.sum nd6 fun j h=>hR (hj6 j h)
     have hkl6:kvs6.length=js6.length:=by have:=congrArg List.length kv6; simpa using this
     have h305:=Ej O
     rw [hsum] at h305
     refine ⟨_,rfl,_,rfl,_,rfl,x,BX c sz,Bw c kbs,k,i0,j1,j2,(c j1,sz[j1]),(c j2,sz[j2]),qd,c (30+k),s0,rfl,O.mono s6,hq,hkrow,hbj1,hbj2,fun H7 s7=>?_⟩
     have done':∀ {js':List Nat},(∀ j∈js6,j∈js')->(∀ j,gl (BX c sz) (.cp j1 j2 s0) i0=some j->j∈js')->∀ k'∈cl.take (m+1),∀ z j,kbs[k']? = some z->gl (BX c sz) z i0=some j->j∈js':=fun {js'} hsub hnew k' hk' z' j hz' hg=>by
      rw [List.take_add_one,hk] at hk'
      rcases List.mem_append.mp hk' with h | h
      ·exact hsub j (hdone k' h z' j hz' hg)
      ·have:k'=k:=by simpa using h
       subst this
       rw [hz] at hz'
       cases hz'
       exact hnew j hg
     rcases KQ (j1:=j1) (s:=s0) hq hbj2 with ⟨e,eg⟩ | ⟨j,e,eg,hjt⟩
     ·rw [e]
      refine ⟨_,rfl,rfl,_,rfl,Bj (Bj ?_)⟩
      exact ⟨s6.trans s7,s7 _ _ c6,kvs6,js6,ls6,s7 _ _ w6,s7 _ _ l6,kv6,nd6,par6.mono s7,hj6,hls6,hcl6,done' (fun j h=>h) (fun j h=>by rw [eg] at h; cases h),hi06,hmeas,_,_,rfl⟩
     ·rw [e]
      have hstj:st i0 j:=by rw [← hst]; exact ⟨k,_,hzd,hz,eg⟩
      refine ⟨_,rfl,rfl,_,rfl,CW ?_⟩
      refine ⟨_,rfl,_,rfl,W,_,rfl,GF.k (k:=kI j) (s7 _ _ w6),_,rfl,?_⟩
      rw [Lk kv6 j]
      by_cases hin:j∈js6
      ·rw [decide_eq_true hin]
       refine Bj ?_
       exact ⟨s6.trans s7,s7 _ _ c6,kvs6,js6,ls6,s7 _ _ w6,s7 _ _ l6,kv6,nd6,par6.mono s7,hj6,hls6,hcl6,done' (fun j h=>h) (fun j' h=>by rw [eg] at h; cases h; exact hin),hi06,hmeas,_,_,rfl⟩
      ·rw [decide_eq_false hin]
       refine CW ?_
       have nv:Ds kvs6 (kI j)=none:=by
        have:=Lk kv6 j
        rw [decide_eq_false hin] at this
        exact Option.not_isSome_iff_eq_none.mp (by rw [this]; decide)
       have nd7:(js6++[j]).Nodup:=List.nodup_append.mpr ⟨nd6,by simp,fun a ha b hb=>by rw [List.mem_singleton.mp hb]; intro z; exact hin (z ▸ ha)⟩
       have hj7:∀ j'∈js6++[j],K9 st (fun i=>n.testBit i=true) j':=fun j' h=>by
        rcases List.mem_append.mp h with h | h
        ·exact hj6 j' h
        ·rw [List.mem_singleton.mp h]
         exact hi0R j hstj
       have hjl7:(js6++[j]).length<=sz.sum:=Dp sz.sum nd7 fun j h=>hR (hj7 j h)
       rw [List.length_append,List.length_singleton] at hjl7
       refine ⟨_,rfl,_,rfl,by show 2<=sizeLine; decide,fun T8 hT8=>?_⟩
       obtain ⟨H8,eqH,t8,uT8⟩:=JS (o:=HO.tup [V.int (k:Nat),V.int (i0:Nat)]) hT8
       rw [eqH]
       have w8:=t8 _ _ (s7 _ _ w6)
       refine ⟨_,rfl,_,rfl,W,_,rfl,Qx.k (k:=kI j) w8 (BJ (by omega)),?_⟩
       have u9:upd H8 W (.dK (putK kvs6 (kI j) (.ref T8))) W=some (.dK (kvs6++[(kI j,.ref T8)])):=by rw [← Rj _ nv]; exact Ak
       have l9:upd H8 W (.dK (putK kvs6 (kI j) (.ref T8))) L=some (.lst (nV ls6)):=by rw [BW hWL.symm]; exact t8 _ _ (s7 _ _ l6)
       have c9:upd H8 W (.dK (putK kvs6 (kI j) (.ref T8))) CL=some (.lst (nV cl)):=by rw [BW hCW]; exact t8 _ _ (s7 _ _ c6)
       have s9:An H (upd H8 W (.dK (putK kvs6 (kI j) (.ref T8)))):=fun b o e=>by rw [BW (BL e hW0)]; exact t8 _ _ (s7 _ _ (s6 _ _ e))
       have par9:Mm (upd H8 W (.dK (putK kvs6 (kI j) (.ref T8)))) (BX c sz) kbs D n (kvs6++[(kI j,.ref T8)]) (js6++[j]):=by
        have p8:=((par6.mono s7).mono t8).upd (o:=.dK (putK kvs6 (kI j) (.ref T8))) w8 (fun xs z=>by cases z)
        exact p8.snoc nv (by rw [BW (fun z=>by rw [z,w8] at uT8; cases uT8)]; exact uT8) hzd hz eg hi06
       generalize upd H8 W (.dK (putK kvs6 (kI j) (.ref T8)))=H9 at u9 l9 c9 s9 par9 ⊢
       have kv9:(kvs6++[(kI j,V.ref T8)]).map (·.1)=(js6++[j]).map kI:=by rw [List.map_append,List.map_append,kv6]; rfl
       refine ⟨_,rfl,_,rfl,n,_,rfl,_,rfl,?_⟩
       have eb:(decide ((0:Int)<=(j:Nat)) && n.testBit ((j:Nat):Int).toNat)=n.testBit j:=by rw [decide_eq_true (by omega),Bool.true_and,Int.toNat_natCast]
       rw [eb]
       cases hb:n.testBit j with
       | true =>
        refine Bj ?_
        refine ⟨s9,c9,_,js6++[j],ls6,u9,l9,kv9,nd7,par9,hj7,(fun i h=>(hls6 i h).imp id (List.mem_append_left _)),(fun i h=>?_),done' (fun j h=>List.mem_append_left _ h) (fun j' h=>by rw [eg] at h; cases h; simp),hi06.imp id (List.mem_append_left _),?_,_,_,rfl⟩
        ·have h':n.testBit i=true \/ i∈js6:=by
          rcases h with h | h
          ·exact .inl h
          ·rcases List.mem_append.mp h with h | h
           ·exact .inr h
           ·rw [List.mem_singleton.mp h]
            exact .inl hb
         rcases hcl6 i h' with g | g | g
         ·exact .inl g
         ·exact .inr (.inl g)
         ·exact .inr (.inr fun j' hj'=>List.mem_append_left _ (g j' hj'))
        ·rw [List.length_append,List.length_singleton]
         omega
       | false =>
        refine CW ?_
        refine ⟨_,rfl,.inl ⟨rfl,_,.inl (.inl l9)⟩,_,rfl,L,_,_,rfl,rfl,l9,MN (by simp only [List.length_cons] at hbig; rw [List.length_map]; omega),?_⟩
        have l10:upd H9 L (.lst (nV ls6++[V.int (j:Nat)])) L=some (.lst (nV (ls6++[j]))):=by
         have e9:nV (ls6++[j])=nV ls6++[V.int (j:Nat)]:=List.map_append
         rw [e9]
         exact Ak
        have w10:upd H9 L (.lst (nV ls6++[V.int (j:Nat)])) W=some (.dK (kvs6++[(kI j,.ref T8)])):=by rw [BW hWL]; exact u9
        have c10:upd H9 L (.lst (nV ls6++[V.int (j:Nat)])) CL=some (.lst (nV cl)):=by rw [BW hCL']; exact c9
        have s10:An H (upd H9 L (.lst (nV ls6++[V.int (j:Nat)]))):=fun b o e=>by rw [BW (BL e hL0)]; exact s9 _ _ e
        refine ⟨s10,c10,_,js6++[j],ls6++[j],w10,l10,kv9,nd7,par9.upd l9 (fun xs z=>by cases z),hj7,(fun i h=>?_),(fun i h=>?_),done' (fun j h=>List.mem_append_left _ h) (fun j' h=>by rw [eg] at h; cases h; simp),hi06.imp id (List.mem_append_left _),?_,_,_,rfl⟩
        ·rcases List.mem_append.mp h with h | h
         ·exact (hls6 i h).imp id (List.mem_append_left _)
         ·exact .inr (List.mem_append_right _ h)
        ·have h':(n.testBit i=true \/ i∈js6) \/ i=j:=by
          rcases h with h | h
          ·exact .inl (.inl h)
          ·rcases List.mem_append.mp h with h | h
           ·exact .inl (.inr h)
           ·exact .inr (List.mem_singleton.mp h)
         rcases h' with h' | rfl
         ·rcases hcl6 i h' with g | g | g
          ·exact .inl g
          ·exact .inr (.inl (List.mem_append_left _ g))
          ·exact .inr (.inr fun j' hj'=>List.mem_append_left _ (g j' hj'))
         ·exact .inr (.inl (by simp))
        ·rw [List.length_append,List.length_append,List.length_singleton]
         omega
    ·rintro σ H6 ⟨s6,c6,kvs6,js6,ls6,w6,l6,kv6,nd6,par6,hj6,hls6,hcl6,hdone,hi06,hmeas,v7,v8,rfl⟩
     have hkl6:kvs6.length=js6.length:=by have:=congrArg List.length kv6; simpa using this
     refine ⟨⟨s6,c6,kvs6,js6,ls6,w6,l6,kv6,nd6,par6,hj6,hls6,(fun i hi=>?_),by simp only [List.length_cons] at hbig; omega,_,_,_,rfl⟩,?_⟩
     ·rcases hcl6 i hi with rfl | g | g
      ·refine .inr fun j hij=>?_
       rw [← hst] at hij
       refine byC fun hng=>?_
       obtain ⟨k,z,hkd,hkz,hg⟩:=hij
       refine hng ?_
       refine hdone k ?_ z j hkz hg
       rw [List.take_of_length_le (by simp)]
       exact (hcl k).mpr ⟨z,hkz,W9 hg,hkd⟩
      ·exact .inl g
      ·exact .inr g
     ·show Qo (H6 L)+(sz.sum - Yl (H6 W))<_
      rw [l6,w6]
      show (nV ls6).length+(sz.sum - kvs6.length)<_
      rw [List.length_map,hkl6]
      omega
  ·rintro σ H' Q1 Q2 hm ⟨v,hv,k,hk,h⟩
   exact ⟨v,hv,k,hk,hm _ _ h⟩
noncomputable def Yj (C:Addr):Sp:=fun vs H Q _=>∃ (x:Addr) (c:Nat->Str) (sz:List Nat) (kbs:List Kb) (D n:Nat),vs=[.ref x,.int (D:Nat),.int (n:Nat)]/\Dg C H x (BX c sz) (Bw c kbs)/\L_ sz.length kbs/\n<2 ^ 1200/\(∀ i,n.testBit i=true->i<sz.sum) /\
 ∀ (m:Nat) H',An H H'->(∀ j,m.testBit j=true ↔ K9 (stp (BX c sz) kbs D) (fun i=>n.testBit i=true) j)->Q (.int (m:Nat)) H'
theorem Li {n T:Nat} (h:∀ i,n.testBit i=true->i<T):Wd.mv n 0 T=n:=by
 refine Iw fun i=>?_
 rw [Wd.JN]
 simp
 intro hi
 exact h i hi
theorem jf:Aw ["organ","knobs","held"] ["organ","knobs","held"] (Ag jT):=Bo
include N T in
theorem WR:Ar P w K mg base Be 5 aD.fCq aD.dCq ["organ","knobs","held"] (Yj C):=by
 have GSt:Ar P w K mg base Be 3 aD.fSt aD.dSt ["numbers"] X8:=Wo N T
 have GWa:Ar P w K mg base Be 4 aD.fWa aD.dWa ["organ","knobs","held"] (Yg C):=Wu N T
 have GHk:Ar P w K mg base Be 2 aD.fHk aD.dHk ["organ","held"] (V9 C):=Tc N T
 refine N.FCq.1.ok jf (fun vs H Q E h=>?_) (fun cdv A outer s H vs Q E hr h=>?_)
 ·refine byC fun hng=>?_
  obtain ⟨x,c,sz,kbs,D,n,rfl,_⟩:=h
  refine hng ?_
  rfl
 ·refine byC fun hng=>?_
  obtain ⟨x,c,sz,kbs,D,n,rfl,O,hkb,hn,hnt,q⟩:=h
  refine hng ?_
  have hrSt:BV 3 _:=hr.mono (by decide)
  have hrWa:BV 4 _:=hr.mono (by decide)
  have hrHk:BV 2 _:=hr.mono (by decide)
  refine ⟨_,(Ah (Av (Ai GSt hrSt rfl N.FSt.2.2 N.FSt.1.kp N.FSt.2.1 .nil Ao (Aa (Dz (J4 rfl) rfl T.list PyProof.Rows.boot_list (Aa (Ai GWa hrWa rfl N.FWa.2.2 N.FWa.1.kp N.FWa.2.1 .nil Ao (Aa (pv 0) (Aa (pv 1) (Aa (Ai GHk hrHk rfl N.FHk.2.2 N.FHk.1.kp N.FHk.2.1 .nil Ao (Aa (pv 0) (Aa (pv 2) Ac))) Ac)))) Ac)) Ac)))),?_⟩
  have hsum:((BX c sz).map (·.2)).sum=sz.sum:=by rw [Bk]
  have h305:=Ej O
  rw [hsum] at h305
  refine ⟨_,rfl,_,rfl,_,rfl,_,rfl,x,BX c sz,Bw c kbs,n,rfl,O,hn,?_⟩
  rw [hsum,Li hnt]
  refine ⟨x,c,sz,kbs,D,n,rfl,O,hkb,hn,hnt,fun W kvs js H1 hW s1 hw hkv nd _ hj=>?_⟩
  have hlt:∀ j∈js,j<sz.sum:=fun j h=>by
   have:=((hj j).mp h).lt
   rw [hsum] at this
   exact this
  have hjl:=Dp sz.sum nd hlt
  have hkv':kvs.map (·.1)=(js.map fun j:Nat=>(j:Int)).map Sum.inl:=by rw [hkv,List.map_map]; rfl
  refine ⟨W,kvs,_,rfl,hw,hkv',fun l hl=>?_⟩
  have ev:(js.map fun j:Nat=>(j:Int)).map V.int=nV js:=by rw [List.map_map]; rfl
  rw [ev]
  refine ⟨l,js,rfl,Ak,by omega,fun j h=>by have:=hlt j h; omega,fun H2 s2=>?_⟩
  refine q (Wd.mk js) H2 ((s1.trans (Az hl)).trans s2) fun j=>?_
  rw [Wd.Fq,decide_eq_true_eq]
  exact hj j
noncomputable def YZ:Sp:=fun vs H Q _=>∃ (p:Addr) (l:List Nat),vs=[.ref p]/\H p=some (.lst (nV l))/\l.length<=500/\(∀ n∈l,n<1200)/\Q (.int (Wd.mk l:Nat)) H
theorem V7:Aw ["_law_numbers","_law_found","_law_number"] ["_law_numbers"] (Ag gO):=Bo
include N T in
theorem W8:Ar P w K mg base Be 1 aD.fBi aD.dBi ["_law_numbers"] YZ:=by
 refine N.FBi.1.ok V7 (fun vs H Q E h=>?_) (fun cdv A outer s H vs Q E hr h=>?_)
 ·obtain ⟨p,l,rfl,_⟩:=h
  rfl
 ·refine byC fun hng=>?_
  obtain ⟨p,l,rfl,hp,hz,hb,q⟩:=h
  refine hng ?_
  refine ⟨_,(Ae (Ax (i:=1) V7.nd rfl (Or.inl rfl) Ab)
   (Ae (Cq PassesOwn.never rfl (Bg (pv 0)) (Ba (i:=2) V7.nd rfl (Or.inl rfl)) (Ah (Ax (i:=1) V7.nd rfl (Or.inl rfl) (Aq NT (pv 1) (Aq LC Ab (pv 2))))))
   (Ah (Av (pv 1))))),?_⟩
  have hS:CK K H p (nV l):=.inl (.inl hp)
  refine ⟨_,rfl,p,rfl,⟨_,hS⟩,Dl (K:=K) (a:=p) (xs:=nV l) (fun i σ H4=>H4=H/\∃ v2,σ=[some (.ref p),some (.int (Wd.mk (l.take i):Nat)),v2]) ⟨rfl,_,rfl⟩ (fun i σ H4 _ h=>by rw [h.1]; exact hS) ?_ ?_⟩
  ·rintro i y σ H4 hi ⟨rfl,v2,rfl⟩
   rw [List.getElem?_map] at hi
   obtain ⟨n,hn,rfl⟩:=Option.map_eq_some_iff.mp hi
   have hn':=hb n (List.mem_of_getElem? hn)
   refine ⟨_,rfl,_,rfl,_,_,rfl,rfl,⟨by omega,by omega,by decide⟩,_,_,rfl,rfl,?_⟩
   refine ⟨rfl,some (.int (n:Int)),?_⟩
   dsimp only
   rw [WW,List.take_add_one,hn]
   rfl
  ·rintro σ H4 ⟨rfl,v2,rfl⟩
   have el:l.take (nV l).length=l:=List.take_of_length_le (by simp)
   rw [el]
   exact ⟨_,rfl,q⟩
theorem GK {X:Cx} {K:PySem.W.Frag} (h:X.K=K):G3 X (compareOp .NotIn) (eZ K true):=h ▸ FQ
theorem Rg (l:List Nat):(nV l).all Hm=true:=List.all_eq_true.mpr fun v hv=>by
 obtain ⟨n,_,rfl⟩:=List.mem_map.mp hv
 rfl
theorem El (j:Nat) (js:List Nat):inV (.int (j:Nat)) (nV js)=decide (j∈js):=by
 rw [Bool.eq_iff_iff,decide_eq_true_eq]
 unfold inV
 rw [List.any_eq_true]
 constructor
 ·rintro ⟨y,hy,e⟩
  obtain ⟨n,hn,rfl⟩:=List.mem_map.mp hy
  have e':(((n:Nat):Int) == ((j:Nat):Int))=true:=e
  have e2:((n:Nat):Int)=(j:Nat):=eq_of_beq e'
  have:n=j:=by omega
  subst this
  exact hn
 ·intro h
  exact ⟨_,List.mem_map_of_mem h,by show (((j:Nat):Int) == ((j:Nat):Int))=true; exact beq_self_eq_true _⟩
theorem gm:Aw ["self","knob"] ["self","knob"] (Ag jc):=Bo
include N T in
theorem aJ:Ar P w K mg base Be 2 aD.fOm aD.dOm ["self","knob"] (Ow C):=by
 have GBk:Ar P w K mg base Be 1 aD.fBk aD.dBk ["self","knob"] (Ow C):=Pn N T
 refine N.FOm.1.ok gm (fun vs H Q E h=>?_) (fun cdv A outer s H vs Q E hr h=>?_)
 ·refine byC fun hng=>?_
  obtain ⟨x,bs,ks,k,j1,b1,wd,nm,rs,rfl,_⟩:=h
  refine hng ?_
  rfl
 ·refine byC fun hng=>?_
  obtain ⟨x,bs,ks,k,j1,b1,wd,nm,rs,rfl,O,hk,hb1,q⟩:=h
  refine hng ?_
  have hrBk:BV 1 _:=hr.mono (by decide)
  refine ⟨_,(Ah (Av (C_ (pv 0) T.cl N.FBk.2.2 GBk hrBk N.FBk.2.1 .nil Ao (Aa (pv 1) Ac)))),?_⟩
  refine byC fun hng=>?_
  obtain ⟨⟨dx,fs,bl,bn,kp,kr,bvs,pvs,uvs,kvs,h1,l1,l2,l3,l4,lm,h2,h3,h4,h5,h6,h7,h8,h9⟩,ob5,osz,onk⟩:=id O
  refine hng ?_
  exact ⟨_,rfl,x,dx,fs,rfl,h1,lm _ (by decide +kernel),_,rfl,x,bs,ks,k,j1,b1,wd,nm,rs,rfl,O,hk,hb1,q⟩
noncomputable def Ut (C:Addr):Sp:=fun vs H Q _=>∃ (x:Addr) (bs:List (Str × Nat)) (rk:List (Str × Nat × Int)) (ks:List R) (ls:List (List Ln)) (k j1:Nat) (b1:Str × Nat) (wd nm:Str) (rs:List V) (l:List Ln),vs=[.ref x,.int (k:Nat)]/\Cw C H x bs rk ks ls/\ks[k]? = some ⟨wd,nm,.str b1.1::rs⟩/\bs[j1]? = some b1/\ls[k]? = some l /\
 ∀ (T0 L0:Addr) (ts:List V) H',H L0=none->An H H'->H' T0=some (.tup [.int (j1:Nat),.ref L0])->H' L0=some (.lst ts)->Paired (fun x y=>TupAt H' (Qk x) y) l ts->Q (.ref T0) H'
theorem h_:Aw ["self","knob"] ["self","knob"] (Ag il):=Bo
include N T in
theorem Tf:Ar P w K mg base Be 2 aD.fOs aD.dOs ["self","knob"] (Ut C):=by
 have GBk:Ar P w K mg base Be 1 aD.fBk aD.dBk ["self","knob"] (Ow C):=Pn N T
 refine N.FOs.1.ok h_ (fun vs H Q E h=>?_) (fun cdv A outer s H vs Q E hr h=>?_)
 ·refine byC fun hng=>?_
  obtain ⟨x,bs,rk,ks,ls,k,j1,b1,wd,nm,rs,l,rfl,_⟩:=h
  refine hng ?_
  rfl
 ·refine byC fun hng=>?_
  obtain ⟨x,bs,rk,ks,ls,k,j1,b1,wd,nm,rs,l,rfl,O,hk,hb1,hl,q⟩:=h
  refine hng ?_
  have hrBk:BV 1 _:=hr.mono (by decide)
  refine ⟨_,(Ah (Av (CV (Aa (C_ (pv 0) T.cl N.FBk.2.2 GBk hrBk N.FBk.2.1 .nil Ao (Aa (pv 1) Ac)) (Aa (Dz E_ rfl T.list PyProof.Rows.boot_list (Aa (Am (A_ (K:=K) rfl) (Cr (pv 0) rfl) (pv 1) (fun _ _=>rfl)) Ac)) Ac))))),?_⟩
  refine byC fun hng=>?_
  obtain ⟨⟨dx,fs,bl,bn,kp,kr,bvs,pvs,uvs,kvs,h1,l1,l2,l3,l4,lm,h2,h3,h4,h5,h6,h7,h8,h9⟩,ob5,osz,onk⟩:=id O.o
  refine hng ?_
  refine byC fun hng=>?_
  obtain ⟨dx',fs',rl,rn,pp,kl,rvs,qvs,kvs',g1,m1,m2,m3,m4,g2,g3,g4,g5,g6,g7,lv,g8,g9⟩:=id O.r
  refine hng ?_
  obtain ⟨e1,e2⟩:dx'=dx/\fs'=fs:=by rw [h1] at g1; cases g1; exact ⟨rfl,rfl⟩
  subst e1 e2
  refine byC fun hng=>?_
  obtain ⟨y,hy,A,ts,rfl,hA,htp⟩:=Bh g9 hl
  refine hng ?_
  refine ⟨_,rfl,x,_,_,rfl,h1,lm _ (by decide +kernel),_,rfl,x,bs,ks,k,j1,b1,wd,nm,rs,rfl,O.o,hk,hb1,?_⟩
  refine ⟨_,rfl,x,C,_,_,_,rfl,h1,T.cl,T.n_knob_lines,m4,_,rfl,kl,lv,_,_,rfl,rfl,.inl (.inl g8),Af hy,A,ts,rfl,.inl (.inl (.inl hA)),fun L0 hL0=>?_⟩
  obtain ⟨H1,eqH,t1,u1⟩:=JS (o:=HO.lst ts) hL0
  rw [eqH]
  refine ⟨by show 2<=sizeLine; decide,fun T0 hT0=>?_⟩
  have t2:=Az (o:=HO.tup [.int (j1:Nat),.ref L0]) hT0
  exact q T0 L0 ts _ hL0 (t1.trans t2) Ak (t2 _ _ u1) (Al (t1.trans t2) htp)
noncomputable def Zb (C:Addr):Sp:=fun vs H Q _=>∃ (x:Addr) (bs:List (Str × Nat)) (rk:List (Str × Nat × Int)) (ks:List R) (ls:List (List Ln)),vs=[.ref x]/\Cw C H x bs rk ks ls/\∀ D rvs H',H D=none->An H H'->H' D=some (.lst rvs)->Paired (fun (a:Th) y=>TupAt H' (tV a) y) (rk.map Ub) rvs->Q (.ref D) H'
theorem iz:Aw ["self"] ["self"] (Ag gJ):=Bo
include N T in
theorem Zk:Ar P w K mg base Be 1 aD.fOr aD.dOr ["self"] (Zb C):=by
 refine N.FOr.1.ok iz (fun vs H Q E h=>?_) (fun cdv A outer s H vs Q E hr h=>?_)
 ·refine byC fun hng=>?_
  obtain ⟨x,bs,rk,ks,ls,rfl,_⟩:=h
  refine hng ?_
  rfl
 ·refine byC fun hng=>?_
  obtain ⟨x,bs,rk,ks,ls,rfl,O,q⟩:=h
  refine hng ?_
  refine ⟨_,(Ah (Av (Dz E_ rfl T.list PyProof.Rows.boot_list (Aa (Cr (pv 0) rfl) Ac)))),?_⟩
  refine byC fun hng=>?_
  obtain ⟨⟨dx,fs,bl,bn,kp,kr,bvs,pvs,uvs,kvs,h1,l1,l2,l3,l4,lm,h2,h3,h4,h5,h6,h7,h8,h9⟩,ob5,osz,onk⟩:=id O.o
  refine hng ?_
  refine byC fun hng=>?_
  obtain ⟨dx',fs',rl,rn,pp,kl,rvs,qvs,kvs',g1,m1,m2,m3,m4,g2,g3,g4,g5,g6,g7,lv,g8,g9⟩:=id O.r
  refine hng ?_
  obtain ⟨e1,e2⟩:dx'=dx/\fs'=fs:=by rw [h1] at g1; cases g1; exact ⟨rfl,rfl⟩
  subst e1 e2
  exact ⟨_,rfl,x,C,_,_,_,rfl,h1,T.cl,T.n_rank_list,m1,rl,rvs,rfl,.inl (.inl (.inl g2)),fun l hl=>q l rvs _ hl (Az hl) Ak (Al (Az hl) g3)⟩
noncomputable def cg (C:Addr):Sp:=fun vs H Q _=>∃ (x:Addr) (bs:List (Str × Nat)) (rk:List (Str × Nat × Int)) (ks:List R) (ls:List (List Ln)),vs=[.ref x]/\Cw C H x bs rk ks ls/\Q (.int ((Ec (rk.map Qv)).length:Nat)) H
theorem gj:Aw ["self"] ["self"] (Ag iD):=Bo
include N T in
theorem cW:Ar P w K mg base Be 1 aD.fOq aD.dOq ["self"] (cg C):=by
 refine N.FOq.1.ok gj (fun vs H Q E h=>?_) (fun cdv A outer s H vs Q E hr h=>?_)
 ·refine byC fun hng=>?_
  obtain ⟨x,bs,rk,ks,ls,rfl,_⟩:=h
  refine hng ?_
  rfl
 ·refine byC fun hng=>?_
  obtain ⟨x,bs,rk,ks,ls,rfl,O,q⟩:=h
  refine hng ?_
  refine ⟨_,(Ah (Av (BP Bb rfl T.len PySem.boot_len (Aa (Cr (pv 0) rfl) Ac)))),?_⟩
  refine byC fun hng=>?_
  obtain ⟨⟨dx,fs,bl,bn,kp,kr,bvs,pvs,uvs,kvs,h1,l1,l2,l3,l4,lm,h2,h3,h4,h5,h6,h7,h8,h9⟩,ob5,osz,onk⟩:=id O.o
  refine hng ?_
  refine byC fun hng=>?_
  obtain ⟨dx',fs',rl,rn,pp,kl,rvs,qvs,kvs',g1,m1,m2,m3,m4,g2,g3,g4,g5,g6,g7,lv,g8,g9⟩:=id O.r
  refine hng ?_
  obtain ⟨e1,e2⟩:dx'=dx/\fs'=fs:=by rw [h1] at g1; cases g1; exact ⟨rfl,rfl⟩
  subst e1 e2
  refine ⟨_,rfl,x,C,_,_,_,rfl,h1,T.cl,T.n_pipe_places,m3,pp,qvs,rfl,.inl (.inl (.inl g6)),?_⟩
  rw [← g7.length]
  exact q
noncomputable def dY (C:Addr):Sp:=fun vs H Q _=>∃ (x:Addr) (bs:List (Str × Nat)) (rk:List (Str × Nat × Int)) (ks:List R) (ls:List (List Ln)) (j:Nat) (r:Str × Nat × Int) (n:Int),vs=[.ref x,.str r.1,.int n]/\Cw C H x bs rk ks ls/\rk[j]? = some r/\∀ H',An H H'->Q (.int ((((rk.take j).map (fun r=>r.2.1)).sum:Nat)+n)) H'
theorem jt:Aw ["self","rank","number"] ["self","rank","number"] (Ag je):=Bo
include N T in
theorem b8:Ar P w K mg base Be 2 aD.fOe aD.dOe ["self","rank","number"] (dY C):=by
 have GCa:Ar P w K mg base Be 1 aD.fCa aD.dCa ["things"] XD:=Wa N T
 refine N.FOe.1.ok jt (fun vs H Q E h=>?_) (fun cdv A outer s H vs Q E hr h=>?_)
 ·refine byC fun hng=>?_
  obtain ⟨x,bs,rk,ks,ls,j,r,n,rfl,_⟩:=h
  refine hng ?_
  rfl
 ·refine byC fun hng=>?_
  obtain ⟨x,bs,rk,ks,ls,j,r,n,rfl,O,hb,q⟩:=h
  refine hng ?_
  have hrCa:BV 1 _:=hr.mono (by decide)
  have hu:=Fy hr
  refine ⟨_,(Ah (Av (Aq Bp (Ai GCa hrCa rfl N.FCa.2.2 N.FCa.1.kp N.FCa.2.1 .nil Ao (Aa (Dt Gp (Cr (pv 0) rfl) Ez (Cv (Ek hu (Cr (pv 0) rfl) (pv 1) (fun _ _=>rfl)))) Ac)) (pv 2)))),?_⟩
  refine byC fun hng=>?_
  obtain ⟨⟨dx,fs,bl,bn,kp,kr,bvs,pvs,uvs,kvs,h1,l1,l2,l3,l4,lm,h2,h3,h4,h5,h6,h7,h8,h9⟩,ob5,osz,onk⟩:=id O.o
  refine hng ?_
  refine byC fun hng=>?_
  obtain ⟨dx',fs',rl,rn,pp,kl,rvs,qvs,kvs',g1,m1,m2,m3,m4,g2,g3,g4,g5,g6,g7,lv,g8,g9⟩:=id O.r
  refine hng ?_
  obtain ⟨e1,e2⟩:dx'=dx/\fs'=fs:=by rw [h1] at g1; cases g1; exact ⟨rfl,rfl⟩
  subst e1 e2
  have hj:j<rk.length:=(List.getElem?_eq_some_iff.mp hb).1
  have hl:=g3.length
  rw [List.length_map] at hl
  have g:=GF.k (k:=Sum.inr r.1) g4
  rw [g5 j r hb] at g
  refine ⟨_,rfl,x,C,_,_,_,rfl,h1,T.cl,T.n_rank_list,m1,_,rfl,x,C,_,_,_,rfl,h1,T.cl,T.n_rank_numbers,m2,_,rfl,rn,_,rfl,g,_,rfl,rl,rvs,rfl,.inl (.inl g2),fun p6 hp6=>?_⟩
  have s6:=Az (o:=HO.lst (De rvs none (some (j:Int)))) hp6
  have a6:upd H p6 (HO.lst (De rvs none (some (j:Int)))) p6=_:=Ak
  generalize upd H p6 (HO.lst (De rvs none (some (j:Int))))=H6 at s6 a6 ⊢
  rw [HW rvs j (by omega)] at a6
  refine ⟨p6,(rk.map Ub).take j,rvs.take j,rfl,a6,JW (Al s6 g3) j,(by rw [List.length_take,List.length_map]; have:=O.nr; omega),(fun a ha=>by obtain ⟨r',hr',rfl⟩:=List.mem_map.mp (List.mem_of_mem_take ha); exact Nat.le_trans (O.nz r' hr') (by decide)),fun H7 s7=>?_⟩
  have e7:(((rk.map Ub).take j).map fun a=>a.2.1)=(rk.take j).map (fun r=>r.2.1):=by
   rw [← List.map_take,List.map_map]
   rfl
  rw [e7]
  exact ⟨_,rfl,_,_,rfl,rfl,q H7 (s6.trans s7)⟩
noncomputable def Tj (l:List Nat):Nat:=l.foldl (· ||| ·) 0
theorem M6 (l:List Nat) (n:Nat):Tj (l++[n])=Tj l ||| n:=by
 unfold Tj
 rw [List.foldl_append]
 rfl
theorem Jf:∀ (l:List Nat) (i:Nat),(Tj l).testBit i=true ↔ ∃ n∈l,n.testBit i=true:=by
 have key:∀ (k:Nat) (l:List Nat) (i:Nat),l.length=k->((Tj l).testBit i=true ↔ ∃ n∈l,n.testBit i=true):=by
  intro k
  induction k with
  | zero =>
   intro l i h
   cases l with
   | nil=>exact ⟨fun z=>absurd z (by unfold Tj; rw [List.foldl_nil,Nat.zero_testBit]; decide),fun ⟨n,hn,_⟩=>nomatch hn⟩
   | cons a b=>cases h
  | succ k ih =>
   intro l i h
   obtain ⟨a,z,rfl⟩:=Er (l:=l) (by intro e; rw [e] at h; cases h)
   rw [List.length_append,List.length_singleton] at h
   rw [M6,Sh,ih a i (by omega)]
   constructor
   ·rintro (⟨n,hn,hb⟩ | hb)
    ·exact ⟨n,List.mem_append_left _ hn,hb⟩
    ·exact ⟨z,by simp,hb⟩
   ·rintro ⟨n,hn,hb⟩
    rcases List.mem_append.mp hn with h | h
    ·exact .inl ⟨n,h,hb⟩
    ·rw [List.mem_singleton.mp h] at hb
     exact .inr hb
 exact fun l i=>key l.length l i rfl
noncomputable def X3:Sp:=fun vs H Q _=>∃ (p:Addr) (l:List Nat),vs=[.ref p]/\H p=some (.lst (nV l))/\l.length<=500/\Q (.int (Tj l:Nat)) H
theorem Vt:Aw ["sets","some","each"] ["sets"] (Ag gq):=Bo
include N T in
theorem W3:Ar P w K mg base Be 1 aD.fUn aD.dUn ["sets"] X3:=by
 refine N.FUn.1.ok Vt (fun vs H Q E h=>?_) (fun cdv A outer s H vs Q E hr h=>?_)
 ·obtain ⟨p,l,rfl,_⟩:=h
  rfl
 ·refine byC fun hng=>?_
  obtain ⟨p,l,rfl,hp,hz,q⟩:=h
  refine hng ?_
  refine ⟨_,(Ae (Ax (i:=1) Vt.nd rfl (Or.inl rfl) Ab)
   (Ae (Cq PassesOwn.never rfl (Bg (pv 0)) (Ba (i:=2) Vt.nd rfl (Or.inl rfl)) (Ah (Ax (i:=1) Vt.nd rfl (Or.inl rfl) (Aq NT (pv 1) (pv 2)))))
   (Ah (Av (pv 1))))),?_⟩
  have hS:CK K H p (nV l):=.inl (.inl hp)
  refine ⟨_,rfl,p,rfl,⟨_,hS⟩,Dl (K:=K) (a:=p) (xs:=nV l) (fun i σ H4=>H4=H/\∃ v2,σ=[some (.ref p),some (.int (Tj (l.take i):Nat)),v2]) ⟨rfl,_,rfl⟩ (fun i σ H4 _ h=>by rw [h.1]; exact hS) ?_ ?_⟩
  ·rintro i y σ H4 hi ⟨rfl,v2,rfl⟩
   rw [List.getElem?_map] at hi
   obtain ⟨n,hn,rfl⟩:=Option.map_eq_some_iff.mp hi
   refine ⟨_,rfl,_,rfl,_,_,rfl,rfl,?_⟩
   refine ⟨rfl,some (.int (n:Int)),?_⟩
   dsimp only
   rw [Jh,List.take_add_one,hn]
   show _=[some (V.ref p),some (V.int ((Tj (l.take i++[n]):Nat):Int)),_]
   rw [M6]
   rfl
  ·rintro σ H4 ⟨rfl,v2,rfl⟩
   have el:l.take (nV l).length=l:=List.take_of_length_le (by simp)
   rw [el]
   exact ⟨_,rfl,q⟩
noncomputable def Cz (kbs:List Kb) (k:Nat):Nat:=match kbs[k]? with
 | some (.pl _ b)=>b
 | some (.cp b _ _)=>b
 | none=>0
theorem Ir {c:Nat->Str} {kbs:List Kb} {k:Nat} {r:R} (h:(Bw c kbs)[k]? = some r):∃ rs,r=⟨r.w,r.nm,.str (c (Cz kbs k))::rs⟩:=by
 obtain ⟨z,hz,rfl⟩:=Dm h
 unfold Cz
 rw [hz]
 cases z with
 | cp i j s=>exact ⟨_,rfl⟩
 | pl w i=>exact ⟨_,rfl⟩
theorem JR {n:Nat} {kbs:List Kb} {k:Nat} {z:Kb} (h:L_ n kbs) (hz:kbs[k]? = some z):Cz kbs k<n:=by
 have ho:=h.ok z (List.mem_of_getElem? hz)
 unfold Cz
 rw [hz]
 cases z with
 | cp i j s=>exact ho.1
 | pl w i=>exact ho.1
noncomputable def JV (kbs:List Kb) (D b:Nat):Prop:=∃ (k:Nat) (z:Kb),kbs[k]? = some z/\z.w = "mute" /\ D.testBit k=true/\Cz kbs k=b
noncomputable def Xf (C:Addr):Sp:=fun vs H Q _=>∃ (x:Addr) (c:Nat->Str) (sz:List Nat) (kbs:List Kb) (D:Nat),vs=[.ref x,.int (D:Nat)]/\Dg C H x (BX c sz) (Bw c kbs)/\L_ sz.length kbs/\∀ L (ml:List Nat) H',H L=none->An H H'->H' L=some (.lst (nV ml))->(∀ b,b∈ml ↔ JV kbs D b)->ml.length<=200->Q (.ref L) H'
theorem j_:Aw ["organ","knobs"] ["organ","knobs"] (Ag eQ):=Bo
include N T in
theorem Wk:Ar P w K mg base Be 3 aD.fMu aD.dMu ["organ","knobs"] (Xf C):=by
 have GDc:Ar P w K mg base Be 2 aD.fDc aD.dDc ["organ","knobs","word"] (Ug C):=QQ N T
 have GOm:Ar P w K mg base Be 2 aD.fOm aD.dOm ["self","knob"] (Ow C):=aJ N T
 refine N.FMu.1.ok j_ (fun vs H Q E h=>?_) (fun cdv A outer s H vs Q E hr h=>?_)
 ·refine byC fun hng=>?_
  obtain ⟨x,c,sz,kbs,D,rfl,_⟩:=h
  refine hng ?_
  rfl
 ·refine byC fun hng=>?_
  obtain ⟨x,c,sz,kbs,D,rfl,O,hkb,q⟩:=h
  refine hng ?_
  have hrDc:BV 2 _:=hr.mono (by decide)
  have hrOm:BV 2 _:=hr.mono (by decide)
  refine ⟨_,(Ah (Av (Bu rfl (Bc (osc:=Ag eQ) (N:=["organ","knobs"]) rfl rfl (by decide +kernel)) (Bg (Ai GDc hrDc rfl N.FDc.2.2 N.FDc.1.kp N.FDc.2.1 .nil Ao (Aa (pv 0) (Aa (pv 1) (Aa Br Ac))))) (fun _ _ _ _=>Cd) (fun _ _ _ _=>(C_ (pv 1) T.cl N.FOm.2.2 GOm hrOm N.FOm.2.1 .nil Ao (Aa (pv 0) Ac)))))),?_⟩
  refine ⟨_,rfl,_,rfl,x,BX c sz,Bw c kbs,"mute",D,rfl,O,fun CL cl H1 hCL s1 hl1 hcl hcll=>?_⟩
  have hS1:CK K H1 CL (nV cl):=.inl (.inl hl1)
  have O1:=O.mono s1
  let g:V->V:=fun v=>match v with | .int k=>.int (Cz kbs k.toNat:Nat) | _=>.non
  refine ⟨CL,rfl,⟨_,hS1⟩,Ca (K:=K) (xs:=nV cl) (fun _=>true) g hS1 (BJ (by rw [List.length_map]; omega)) (fun y hy H' hs R k=>k H' (An.refl H')) (fun y hy _ H' hs R k=>?_) (fun D2 H2 hD2 s2 hl2=>?_)⟩
  ·obtain ⟨i,hi,rfl⟩:=List.mem_map.mp hy
   obtain ⟨r,hr,hw,hd⟩:=(hcl i).mp hi
   obtain ⟨rs,er⟩:=Ir hr
   rw [er] at hr
   obtain ⟨z,hz,_⟩:=Dm hr
   have hb:=JR hkb hz
   refine byC fun hng=>?_
   obtain ⟨⟨dx,fs,bl,bn,kp,kr,bvs,pvs,uvs,kvs,h1,l1,l2,l3,l4,lm,_⟩,_⟩:=id (O1.mono hs)
   refine hng ?_
   have kk:=k H' (An.refl H')
   refine ⟨_,rfl,x,dx,fs,rfl,h1,lm _ (by decide +kernel),_,rfl,x,BX c sz,Bw c kbs,i,Cz kbs i,(c (Cz kbs i),sz[Cz kbs i]),_,_,rs,rfl,O1.mono hs,hr,CT (List.getElem?_eq_getElem hb),kk⟩
  ·rw [List.filter_eq_self.mpr (fun _ _=>rfl)] at hl2
   have e:(nV cl).map g=nV (cl.map (Cz kbs)):=by
    unfold nV
    rw [List.map_map,List.map_map]
    rfl
   rw [e] at hl2
   refine q D2 _ H2 (s1.free hD2) (s1.trans s2) hl2 (fun b=>?_) (by rw [List.length_map]; exact hcll)
   rw [List.mem_map]
   constructor
   ·rintro ⟨k,hk,rfl⟩
    obtain ⟨r,hr,hw,hd⟩:=(hcl k).mp hk
    obtain ⟨z,hz,rfl⟩:=Dm hr
    exact ⟨k,z,hz,(Gu _ _ _).symm.trans hw,hd,rfl⟩
   ·rintro ⟨k,z,hz,hw,hd,rfl⟩
    exact ⟨k,(hcl k).mpr ⟨_,DY hz,(Gu _ _ _).trans hw,hd⟩,rfl⟩
noncomputable def XF (sz:List Nat) (i b:Nat):Prop:=∃ n,n<sz.getD b 0/\b<sz.length/\i=(sz.take b).sum+n
theorem Ml {c:Nat->Str} {sz:List Nat} {i a n:Nat} (h:(Ec (BX c sz))[i]? = some (a,n)):XF sz i a:=by
 obtain ⟨b,hb,hn,hi⟩:=Ld h
 obtain ⟨z,hz,rfl⟩:=Gf hb
 rw [Bk] at hi
 refine ⟨n,?_,(List.getElem?_eq_some_iff.mp hz).1,hi⟩
 rw [List.getD_eq_getElem?_getD,hz]
 exact hn
theorem M4 {sz:List Nat} {i a b:Nat} (h1:XF sz i a) (h2:XF sz i b):a=b:=by
 obtain ⟨n,hn,ha,rfl⟩:=h1
 obtain ⟨m,hm,hb,e⟩:=h2
 have key:∀ {a b n m:Nat},a<b->b<sz.length->n<sz.getD a 0->(sz.take a).sum+n ≠ (sz.take b).sum+m:=fun {a b n m} hab hb hn e=>by
  have h1:(sz.take (a+1)).sum<=(sz.take b).sum:=Mj sz (by omega)
  have ha:a<sz.length:=by omega
  rw [List.take_add_one,List.getElem?_eq_getElem ha,List.sum_append] at h1
  rw [List.getD_eq_getElem?_getD,List.getElem?_eq_getElem ha] at hn
  have hn':n<sz[a]:=hn
  simp at h1
  omega
 rcases Nat.lt_trichotomy a b with h | h | h
 ·exact absurd e (key h hb hn)
 ·exact h
 ·exact absurd e.symm (key h ha hm)
noncomputable def Y9 (C:Addr):Sp:=fun vs H Q _=>∃ (x:Addr) (c:Nat->Str) (sz:List Nat) (kbs:List Kb) (D n:Nat),vs=[.ref x,.int (D:Nat),.int (n:Nat)]/\Dg C H x (BX c sz) (Bw c kbs)/\L_ sz.length kbs/\n<2 ^ 1200/\(∀ i,n.testBit i=true->i<sz.sum)/\sz.sum<=305 /\
 ∀ (m:Nat) H',An H H'->(∀ j,m.testBit j=true ↔ n.testBit j=true/\∀ b,XF sz j b->¬ JV kbs D b)->Q (.int (m:Nat)) H'
theorem cI:Aw ["organ","knobs","keys","muted"] ["organ","knobs","keys"] (Ag fK):=Bo
include N T in
theorem ao:Ar P w K mg base Be 4 aD.fUk aD.dUk ["organ","knobs","keys"] (Y9 C):=by
 have GMu:Ar P w K mg base Be 3 aD.fMu aD.dMu ["organ","knobs"] (Xf C):=Wk N T
 have GMe:Ar P w K mg base Be 2 aD.fMe aD.dMe ["some"] Xh:=Wh N T
 have GOo:Ar P w K mg base Be 1 aD.fOo aD.dOo ["self","key"] (YM C):=WP N T
 have GSt:Ar P w K mg base Be 3 aD.fSt aD.dSt ["numbers"] X8:=Wo N T
 refine N.FUk.1.ok cI (fun vs H Q E h=>?_) (fun cdv A outer s H vs Q E hr h=>?_)
 ·refine byC fun hng=>?_
  obtain ⟨x,c,sz,kbs,D,n,rfl,_⟩:=h
  refine hng ?_
  rfl
 ·refine byC fun hng=>?_
  obtain ⟨x,c,sz,kbs,D,n,rfl,O,hkb,hn,hnt,h305,q⟩:=h
  refine hng ?_
  have hrMu:BV 3 _:=hr.mono (by decide)
  have hrMe:BV 2 _:=hr.mono (by decide)
  have hrOo:BV 1 _:=hr.mono (by decide)
  have hrSt:BV 3 _:=hr.mono (by decide)
  refine ⟨_,(Ae (Ax (i:=3) cI.nd rfl (Or.inr rfl) (Ai GMu hrMu rfl N.FMu.2.2 N.FMu.1.kp N.FMu.2.1 .nil Ao (Aa (pv 0) (Aa (pv 1) Ac))))
   (Ah (Av (Ai GSt hrSt rfl N.FSt.2.2 N.FSt.1.kp N.FSt.2.1 .nil Ao (Aa (Bu rfl (Bc (osc:=Ag fK) (N:=["organ","knobs","keys","muted"]) rfl rfl (by decide +kernel)) (Bg (Ai GMe hrMe rfl N.FMe.2.2 N.FMe.1.kp N.FMe.2.1 .nil Ao (Aa (pv 2) Ac))) (fun _ _ _ _=>(Ft (BR (GK (K:=K) rfl) (Am (Aj (K:=K) rfl) (C_ (pv 1) T.cl N.FOo.2.2 GOo hrOo N.FOo.2.1 .nil Ao (Aa (pv 0) Ac)) Ab (fun _ _=>rfl)) (pv 4) rfl))) (fun _ _ _ _=>(pv 0))) Ac))))),?_⟩
  refine ⟨_,rfl,_,rfl,x,c,sz,kbs,D,rfl,O,hkb,fun ML ml H1 hML s1 hl1 hml hmll=>?_⟩
  refine ⟨_,rfl,n,rfl,hn,fun P1 H2 hP1 s2 hl2=>?_⟩
  have hS2:CK K H2 P1 (nV (Wd.mem n)):=.inl (.inl hl2)
  have O2:=O.mono (s1.trans s2)
  have hlen:=Wd.MP hn
  have hml1:(Wd.mem n).length<=305:=by
   have nd:(Wd.mem n).Nodup:=by unfold Wd.mem; exact List.Pairwise.filter _ List.nodup_range
   refine Nat.le_trans (Dp sz.sum nd fun i hi=>hnt i (Wd.mem_iff.mp hi)) h305
  have place:∀ {i},i∈Wd.mem n->∃ a m,(Ec (BX c sz))[i]? = some (a,m):=fun {i} hi=>by
   have hlt:i<(Ec (BX c sz)).length:=by rw [FW,Bk]; exact hnt i (Wd.mem_iff.mp hi)
   exact ⟨_,_,List.getElem?_eq_getElem hlt⟩
  let p:V->Bool:=fun v=>match v with | .int i=>(match (Ec (BX c sz))[i.toNat]? with | some (a,_)=>!decide (a∈ml) | none=>true) | _=>true
  refine ⟨P1,rfl,⟨_,hS2⟩,Ca (K:=K) (xs:=nV (Wd.mem n)) p id hS2 (BJ (by rw [List.length_map]; omega)) (fun y hy H' hs R k=>?_) (fun y hy _ H' hs R k=>⟨_,rfl,k H' (An.refl H')⟩) (fun D3 H3 hD3 s3 hl3=>?_)⟩
  ·obtain ⟨i,hi,rfl⟩:=List.mem_map.mp hy
   obtain ⟨a,m,hpl⟩:=place hi
   have ep:p (V.int (i:Nat)) = !decide (a∈ml):=by
    show (match (Ec (BX c sz))[((i:Nat):Int).toNat]? with | some (a,_)=>!decide (a∈ml) | none=>true)=_
    rw [Int.toNat_natCast,hpl]
   have kk:=k H' (An.refl H')
   rw [ep] at kk
   refine byC fun hng=>?_
   obtain ⟨⟨dx,fs,bl,bn,kp,kr,bvs,pvs,uvs,kvs,h1,l1,l2,l3,l4,lm,_⟩,_⟩:=id (O2.mono hs)
   refine hng ?_
   refine ⟨_,rfl,x,dx,fs,rfl,h1,lm _ (by decide +kernel),_,rfl,x,BX c sz,Bw c kbs,i,(a,m),rfl,O2.mono hs,hpl,fun yv hyv=>?_⟩
   obtain ⟨T0,rfl,hT⟩:=hyv
   refine ⟨T0,_,_,_,rfl,rfl,.inl (.inl hT),Af (j:=0) rfl,_,rfl,ML,_,rfl,.inl (.inl (.inl (hs _ _ (s2 _ _ hl1)))),rfl,Rg ml,_,rfl,?_⟩
   have ein:inV (V.int (a:Nat)) (nV ml)=decide (a∈ml):=El a ml
   rw [ein]
   exact kk
  ·rw [List.map_id] at hl3
   have e3:(nV (Wd.mem n)).filter p=nV ((Wd.mem n).filter fun i=>p (.int (i:Nat))):=by
    unfold nV
    rw [List.filter_map]
    rfl
   rw [e3] at hl3
   have hsub:∀ i∈(Wd.mem n).filter (fun i=>p (.int (i:Nat))),i<sz.sum:=fun i hi=>hnt i (Wd.mem_iff.mp (List.mem_filter.mp hi).1)
   refine ⟨D3,_,rfl,hl3,Nat.le_trans (List.length_filter_le _ _) (by omega),fun i hi=>by have:=hsub i hi; omega,fun H4 s4=>?_⟩
   refine q _ H4 (s1.trans (s2.trans (s3.trans s4))) fun j=>?_
   rw [Wd.Fq,decide_eq_true_eq,List.mem_filter,Wd.mem_iff]
   constructor
   ·rintro ⟨h1,h2⟩
    refine ⟨h1,fun b hb hm=>?_⟩
    obtain ⟨a,m,hpl⟩:=place (Wd.mem_iff.mpr h1)
    have ep:p (V.int (j:Nat)) = !decide (a∈ml):=by
     show (match (Ec (BX c sz))[((j:Nat):Int).toNat]? with | some (a,_)=>!decide (a∈ml) | none=>true)=_
     rw [Int.toNat_natCast,hpl]
    rw [ep] at h2
    have hba:=M4 hb (Ml hpl)
    subst hba
    rw [decide_eq_true ((hml b).mpr hm)] at h2
    cases h2
   ·rintro ⟨h1,h2⟩
    refine ⟨h1,?_⟩
    obtain ⟨a,m,hpl⟩:=place (Wd.mem_iff.mpr h1)
    have ep:p (V.int (j:Nat)) = !decide (a∈ml):=by
     show (match (Ec (BX c sz))[((j:Nat):Int).toNat]? with | some (a,_)=>!decide (a∈ml) | none=>true)=_
     rw [Int.toNat_natCast,hpl]
    rw [ep,decide_eq_false fun z=>h2 a (Ml hpl) ((hml a).mp z)]
    rfl
noncomputable def Mf (c:Nat->Str) (sz:List Nat) (kbs:List Kb) (D n j:Nat):Prop:=K9 (stp (BX c sz) kbs D) (fun i=>n.testBit i=true) j \/ (n.testBit j=true/\∀ b,XF sz j b->¬ JV kbs D b)
noncomputable def U8 (C:Addr):Sp:=fun vs H Q _=>∃ (x:Addr) (c:Nat->Str) (sz:List Nat) (kbs:List Kb) (D n:Nat),vs=[.ref x,.int (D:Nat),.int (n:Nat)]/\Dg C H x (BX c sz) (Bw c kbs)/\L_ sz.length kbs/\n<2 ^ 1200/\(∀ i,n.testBit i=true->i<sz.sum) /\
 ∀ (m:Nat) H',An H H'->(∀ j,m.testBit j=true ↔ Mf c sz kbs D n j)->Q (.int (m:Nat)) H'
theorem kW:Aw ["organ","knobs","held"] ["organ","knobs","held"] (Ag iR):=Bo
include N T in
theorem Rh:Ar P w K mg base Be 6 aD.fSk aD.dSk ["organ","knobs","held"] (U8 C):=by
 have GCq:Ar P w K mg base Be 5 aD.fCq aD.dCq ["organ","knobs","held"] (Yj C):=WR N T
 have GUk:Ar P w K mg base Be 4 aD.fUk aD.dUk ["organ","knobs","keys"] (Y9 C):=ao N T
 have GHk:Ar P w K mg base Be 2 aD.fHk aD.dHk ["organ","held"] (V9 C):=Tc N T
 refine N.FSk.1.ok kW (fun vs H Q E h=>?_) (fun cdv A outer s H vs Q E hr h=>?_)
 ·refine byC fun hng=>?_
  obtain ⟨x,c,sz,kbs,D,n,rfl,_⟩:=h
  refine hng ?_
  rfl
 ·refine byC fun hng=>?_
  obtain ⟨x,c,sz,kbs,D,n,rfl,O,hkb,hn,hnt,q⟩:=h
  refine hng ?_
  have hrCq:BV 5 _:=hr.mono (by decide)
  have hrUk:BV 4 _:=hr.mono (by decide)
  have hrHk:BV 2 _:=hr.mono (by decide)
  refine ⟨_,(Ah (Av (Aq NT (Ai GCq hrCq rfl N.FCq.2.2 N.FCq.1.kp N.FCq.2.1 .nil Ao (Aa (pv 0) (Aa (pv 1) (Aa (pv 2) Ac)))) (Ai GUk hrUk rfl N.FUk.2.2 N.FUk.1.kp N.FUk.2.1 .nil Ao (Aa (pv 0) (Aa (pv 1) (Aa (Ai GHk hrHk rfl N.FHk.2.2 N.FHk.1.kp N.FHk.2.1 .nil Ao (Aa (pv 0) (Aa (pv 2) Ac))) Ac))))))),?_⟩
  have hsum:((BX c sz).map (·.2)).sum=sz.sum:=by rw [Bk]
  have h305:=Ej O
  rw [hsum] at h305
  refine ⟨_,rfl,_,rfl,_,rfl,x,c,sz,kbs,D,n,rfl,O,hkb,hn,hnt,fun m1 H1 s1 hm1=>?_⟩
  refine ⟨_,rfl,_,rfl,_,rfl,_,rfl,x,BX c sz,Bw c kbs,n,rfl,O.mono s1,hn,?_⟩
  rw [hsum,Li hnt]
  refine ⟨x,c,sz,kbs,D,n,rfl,O.mono s1,hkb,hn,hnt,h305,fun m2 H2 s2 hm2=>?_⟩
  refine ⟨_,_,rfl,rfl,?_⟩
  show Q (.int (Builtin.bitOr (m1:Int) (m2:Int))) H2
  rw [Jh]
  refine q (m1 ||| m2) H2 (s1.trans s2) fun j=>?_
  rw [Sh,hm1,hm2]
  rfl
noncomputable def Nr (sz:List Nat) (b n:Nat):Nat:=Wd.mv n (-((sz.take b).sum:Int)) (sz.getD b 0)
theorem QG (n:Nat) (k:Int) (c:Nat):Wd.mv n k c<2 ^ c:=by
 unfold Wd.mv
 exact Nat.mod_lt _ (Nat.two_pow_pos _)
noncomputable def YX (C:Addr):Sp:=fun vs H Q _=>∃ (x:Addr) (c:Nat->Str) (sz:List Nat) (ks:List R) (b n:Nat),vs=[.ref x,.int (b:Nat),.int (n:Nat)]/\Dg C H x (BX c sz) ks/\b<sz.length/\n<2 ^ 1200/\∀ H',An H H'->Q (.int (Nr sz b n:Nat)) H'
theorem bM:Aw ["organ","board","keys","told"] ["organ","board","keys"] (Ag j4):=Bo
include N T in
theorem WQ:Ar P w K mg base Be 3 aD.fNb aD.dNb ["organ","board","keys"] (YX C):=by
 have GOb:Ar P w K mg base Be 1 aD.fOb aD.dOb ["self"] (Vm C):=Ul N T
 have GOk:Ar P w K mg base Be 2 aD.fOk aD.dOk ["self","board","number"] (Vi C):=Um N T
 have GSh:Ar P w K mg base Be 1 aD.fSh aD.dSh ["some","steps","count"] V3:=Tu N T
 refine N.FNb.1.ok bM (fun vs H Q E h=>?_) (fun cdv A outer s H vs Q E hr h=>?_)
 ·refine byC fun hng=>?_
  obtain ⟨x,c,sz,ks,b,n,rfl,_⟩:=h
  refine hng ?_
  rfl
 ·refine byC fun hng=>?_
  obtain ⟨x,c,sz,ks,b,n,rfl,O,hb,hn,q⟩:=h
  refine hng ?_
  have hrOb:BV 1 _:=hr.mono (by decide)
  have hrOk:BV 2 _:=hr.mono (by decide)
  have hrSh:BV 1 _:=hr.mono (by decide)
  refine ⟨_,(Ae (Ax (i:=3) bM.nd rfl (Or.inl rfl) (Am (A_ (K:=K) rfl) (Eo (pv 0) T.cl N.FOb.2.2 GOb hrOb N.FOb.2.1 .nil Ao) (pv 1) (fun _ _=>rfl)))
   (Ah (Av (Ai GSh hrSh rfl N.FSh.2.2 N.FSh.1.kp N.FSh.2.1 .nil Ao (Aa (pv 2) (Aa (Ha Fe (C_ (pv 0) T.cl N.FOk.2.2 GOk hrOk N.FOk.2.1 .nil Ao (Aa (Am (Aj (K:=K) rfl) (pv 3) Ab (fun _ _=>rfl)) (Aa Ab Ac)))) (Aa (Am (Aj (K:=K) rfl) (pv 3) Ab (fun _ _=>rfl)) Ac))))))),?_⟩
  have h305:=Ej O
  rw [Bk] at h305
  have hst:(sz.take b).sum<=sz.sum:=by
   have:=congrArg List.sum (List.take_append_drop b sz)
   rw [List.sum_append] at this
   omega
  have hbs:(BX c sz)[b]? = some (c b,sz[b]):=CT (List.getElem?_eq_getElem hb)
  have h61:=O.sz (c b,sz[b]) (List.mem_of_getElem? hbs)
  have h61':sz[b]<=61:=h61
  have esum:(((BX c sz).take b).map (·.2)).sum=(sz.take b).sum:=by rw [List.map_take,Bk]
  have egd:sz.getD b 0=sz[b]:=by rw [List.getD_eq_getElem?_getD,List.getElem?_eq_getElem hb]; rfl
  have meth:∀ {H':Hp},Dg C H' x (BX c sz) ks->∃ dx fs,H' x=some (.ins C dx fs)/\∀ m∈meths,fs.lookup m=none:=fun O'=>by
   refine byC fun hng=>?_
   obtain ⟨⟨dx,fs,_,_,_,_,_,_,_,_,h1,_,_,_,_,lm,_⟩,_⟩:=O'
   refine hng ?_
   exact ⟨dx,fs,h1,lm⟩
  obtain ⟨dx,fs,hx,lm⟩:=meth O
  refine ⟨_,rfl,x,dx,fs,rfl,hx,lm _ (by decide +kernel),x,BX c sz,ks,rfl,O,fun D bvs H2 hD s2 hl2 hb2=>?_⟩
  refine byC fun hng=>?_
  obtain ⟨v3,hv3,T3,rfl,ht3⟩:=Bh hb2 hbs
  refine hng ?_
  refine ⟨_,rfl,D,bvs,_,_,rfl,rfl,.inl (.inl hl2),Af hv3,?_⟩
  obtain ⟨dx2,fs2,hx2,lm2⟩:=meth (O.mono s2)
  refine ⟨_,rfl,_,rfl,x,dx2,fs2,rfl,hx2,lm2 _ (by decide +kernel),_,rfl,T3,_,_,_,rfl,rfl,.inl (.inl ht3),Af (j:=0) rfl,x,BX c sz,ks,b,(c b,sz[b]),0,rfl,O.mono s2,hbs,fun H3 s3=>?_⟩
  refine ⟨_,rfl,_,rfl,T3,_,_,_,rfl,rfl,.inl (.inl (s3 _ _ ht3)),Af (j:=1) rfl,n,_,sz[b],rfl,hn,?_,?_,by omega,?_⟩
  ·rw [esum]
   omega
  ·rw [esum]
   omega
  ·have fin:=q H3 (s2.trans s3)
   unfold Nr at fin
   rw [egd] at fin
   rw [esum,Int.add_zero]
   exact fin
noncomputable def Nq (rk:List (Str × Nat × Int)) (r:Nat):Nat:=((rk.take r).map (fun r=>r.2.1)).sum
noncomputable def H_ (rk:List (Str × Nat × Int)) (r:Nat):Nat:=(rk.map (fun r=>r.2.1)).getD r 0
noncomputable def YJ (rk:List (Str × Nat × Int)):Nat:=(rk.map (fun r=>r.2.1)).sum
structure Yu (rk:List (Str × Nat × Int)) (l:Ln):Prop where
 r:l.r<rk.length
 lo:0<=l.lo
 le:l.lo<=l.hi
 hi:l.hi<=60
 s1 : -200<=l.sh
 s2:l.sh<=200
noncomputable def Io (rk:List (Str × Nat × Int)) (l:Ln) (n:Nat):Nat:=Wd.mv (Wd.mv (Wd.mv n (-l.lo) (l.hi - l.lo+1).toNat) (l.lo+l.sh) (H_ rk l.r)) (Nq rk l.r:Nat) (YJ rk)
theorem R4 {rk:List (Str × Nat × Int)} {r:Nat} (h:r<rk.length):Nq rk r+H_ rk r<=YJ rk:=by
 unfold Nq H_ YJ
 have e:((rk.map (fun r=>r.2.1)).take (r+1)).sum=((rk.take r).map (fun r=>r.2.1)).sum+(rk.map (fun r=>r.2.1)).getD r 0:=by
  rw [List.take_add_one,List.getElem?_eq_getElem (by rw [List.length_map]; exact h),List.sum_append,List.map_take,List.getD_eq_getElem?_getD,List.getElem?_eq_getElem (by rw [List.length_map]; exact h)]
  simp
 have:=congrArg List.sum (List.take_append_drop (r+1) (rk.map (fun r=>r.2.1)))
 rw [List.sum_append] at this
 omega
theorem YL {rk:List (Str × Nat × Int)} (h1:rk.length<=12) (h2:∀ r∈rk,r.2.1<=97):YJ rk<=1164:=by
 have h:=LQ (rk.map Qv) 97 fun b hb=>by
  obtain ⟨r,hr,rfl⟩:=List.mem_map.mp hb
  exact h2 r hr
 rw [FW,List.map_map,List.length_map] at h
 have:rk.length * 97<=12 * 97:=Nat.mul_le_mul_right _ h1
 have e:YJ rk=(rk.map ((·.2) ∘ Qv)).sum:=rfl
 omega
noncomputable def X4 (C:Addr):Sp:=fun vs H Q _=>∃ (x:Addr) (bs:List (Str × Nat)) (rk:List (Str × Nat × Int)) (ks:List R) (ls:List (List Ln)) (y:V) (l:Ln) (n:Nat),vs=[.ref x,y,.int (n:Nat)]/\Cw C H x bs rk ks ls/\TupAt H (Qk l) y/\Yu rk l/\n<2 ^ 1200/\∀ H',An H H'->Q (.int (Io rk l n:Nat)) H'
theorem WK:Aw ["organ","line","numbers","rank","from_low","on_rank"] ["organ","line","numbers"] (Ag gD):=Bo
include N T in
theorem WX:Ar P w K mg base Be 3 aD.fLl aD.dLl ["organ","line","numbers"] (X4 C):=by
 have GOr:Ar P w K mg base Be 1 aD.fOr aD.dOr ["self"] (Zb C):=Zk N T
 have GSh:Ar P w K mg base Be 1 aD.fSh aD.dSh ["some","steps","count"] V3:=Tu N T
 have GOe:Ar P w K mg base Be 2 aD.fOe aD.dOe ["self","rank","number"] (dY C):=b8 N T
 have GOq:Ar P w K mg base Be 1 aD.fOq aD.dOq ["self"] (cg C):=cW N T
 refine N.FLl.1.ok WK (fun vs H Q E h=>?_) (fun cdv A outer s H vs Q E hr h=>?_)
 ·refine byC fun hng=>?_
  obtain ⟨x,bs,rk,ks,ls,y,l,n,rfl,_⟩:=h
  refine hng ?_
  rfl
 ·refine byC fun hng=>?_
  obtain ⟨x,bs,rk,ks,ls,y,l,n,rfl,O,hy,hg,hn,q⟩:=h
  refine hng ?_
  have hrOr:BV 1 _:=hr.mono (by decide)
  have hrSh:BV 1 _:=hr.mono (by decide)
  have hrOe:BV 2 _:=hr.mono (by decide)
  have hrOq:BV 1 _:=hr.mono (by decide)
  refine ⟨_,(Ae (Ax (i:=3) WK.nd rfl (Or.inl rfl) (Am (A_ (K:=K) rfl) (Eo (pv 0) T.cl N.FOr.2.2 GOr hrOr N.FOr.2.1 .nil Ao) (Am (Aj (K:=K) rfl) (pv 1) Ab (fun _ _=>rfl)) (fun _ _=>rfl)))
   (Ae (Ax (i:=4) WK.nd rfl (Or.inl rfl) (Ai GSh hrSh rfl N.FSh.2.2 N.FSh.1.kp N.FSh.2.1 .nil Ao (Aa (pv 2) (Aa (Ha Fe (Am (Aj (K:=K) rfl) (pv 1) Ab (fun _ _=>rfl))) (Aa (Aq Bp (Aq Dv (Am (Aj (K:=K) rfl) (pv 1) Ab (fun _ _=>rfl)) (Am (Aj (K:=K) rfl) (pv 1) Ab (fun _ _=>rfl))) Ab) Ac)))))
   (Ae (Ax (i:=5) WK.nd rfl (Or.inl rfl) (Ai GSh hrSh rfl N.FSh.2.2 N.FSh.1.kp N.FSh.2.1 .nil Ao (Aa (pv 4) (Aa (Aq Bp (Am (Aj (K:=K) rfl) (pv 1) Ab (fun _ _=>rfl)) (Am (Aj (K:=K) rfl) (pv 1) Ab (fun _ _=>rfl))) (Aa (Am (Aj (K:=K) rfl) (pv 3) Ab (fun _ _=>rfl)) Ac)))))
   (Ah (Av (Ai GSh hrSh rfl N.FSh.2.2 N.FSh.1.kp N.FSh.2.1 .nil Ao (Aa (pv 5) (Aa (C_ (pv 0) T.cl N.FOe.2.2 GOe hrOe N.FOe.2.1 .nil Ao (Aa (Am (Aj (K:=K) rfl) (pv 3) Ab (fun _ _=>rfl)) (Aa Ab Ac))) (Aa (Eo (pv 0) T.cl N.FOq.2.2 GOq hrOq N.FOq.2.1 .nil Ao) Ac))))))))),?_⟩
  obtain ⟨T0,rfl,hT⟩:=hy
  have hto:=YL O.nr O.nz
  have hlr:l.r<rk.length:=hg.r
  have hst:=R4 hlr
  have hrk:=List.getElem?_eq_getElem hlr
  have h97:rk[l.r].2.1<=97:=O.nz _ (List.getElem_mem hg.r)
  have esz:H_ rk l.r=rk[l.r].2.1:=by
   unfold H_
   rw [List.getD_eq_getElem?_getD,List.getElem?_map,hrk]
   rfl
  have etot:(Ec (rk.map Qv)).length=YJ rk:=by
   rw [FW,List.map_map]
   rfl
  have h1:=hg.lo
  have h2:=hg.le
  have h3:=hg.hi
  have h4:=hg.s1
  have h5:=hg.s2
  have meth:∀ {H':Hp},Cw C H' x bs rk ks ls->∃ dx fs,H' x=some (.ins C dx fs)/\∀ m∈meths,fs.lookup m=none:=fun O'=>by
   refine byC fun hng=>?_
   obtain ⟨⟨dx,fs,_,_,_,_,_,_,_,_,h1,_,_,_,_,lm,_⟩,_⟩:=O'.o
   refine hng ?_
   exact ⟨dx,fs,h1,lm⟩
  obtain ⟨dx,fs,hx,lm⟩:=meth O
  refine ⟨_,rfl,x,dx,fs,rfl,hx,lm _ (by decide +kernel),x,bs,rk,ks,ls,rfl,O,fun D rvs H2 hD s2 hl2 hb2=>?_⟩
  have hT2:=s2 _ _ hT
  have hrk3:(rk.map Ub)[l.r]? = some (Ub rk[l.r]):=by rw [List.getElem?_map,hrk]; rfl
  refine byC fun hng=>?_
  obtain ⟨v3,hv3,T3,rfl,ht3⟩:=Bh hb2 hrk3
  refine hng ?_
  refine ⟨_,rfl,T0,_,_,_,rfl,rfl,.inl (.inl hT2),Af (j:=0) rfl,D,rvs,_,_,rfl,rfl,.inl (.inl hl2),Af hv3,?_⟩
  have e1:l.hi - l.lo+1=(((l.hi - l.lo+1).toNat:Nat):Int):=by omega
  refine ⟨_,rfl,_,rfl,T0,_,_,_,rfl,rfl,.inl (.inl hT2),Af (j:=2) rfl,_,rfl,_,rfl,T0,_,_,_,rfl,rfl,.inl (.inl hT2),Af (j:=3) rfl,_,rfl,T0,_,_,_,rfl,rfl,.inl (.inl hT2),Af (j:=2) rfl,_,_,rfl,rfl,_,_,rfl,rfl,n,-l.lo,(l.hi - l.lo+1).toNat,(by rw [← e1] <;> rfl),hn,by omega,by omega,by omega,?_⟩
  have n1:=QG n (-l.lo) (l.hi - l.lo+1).toNat
  generalize hn1:Wd.mv n (-l.lo) (l.hi - l.lo+1).toNat=a1 at n1 ⊢
  have n1':a1<2 ^ 1200:=Nat.lt_of_lt_of_le n1 (Nat.pow_le_pow_right (by decide) (by omega))
  refine ⟨_,rfl,_,rfl,T0,_,_,_,rfl,rfl,.inl (.inl hT2),Af (j:=2) rfl,_,rfl,T0,_,_,_,rfl,rfl,.inl (.inl hT2),Af (j:=1) rfl,_,_,rfl,rfl,_,rfl,T3,_,_,_,rfl,rfl,.inl (.inl ht3),Af (j:=1) rfl,a1,l.lo+l.sh,rk[l.r].2.1,rfl,n1',by omega,by omega,by omega,?_⟩
  have n2:=QG a1 (l.lo+l.sh) rk[l.r].2.1
  generalize hn2:Wd.mv a1 (l.lo+l.sh) rk[l.r].2.1=a2 at n2 ⊢
  have n2':a2<2 ^ 1200:=Nat.lt_of_lt_of_le n2 (Nat.pow_le_pow_right (by decide) (by omega))
  obtain ⟨dx2,fs2,hx2,lm2⟩:=meth (O.mono s2)
  refine ⟨_,rfl,_,rfl,x,dx2,fs2,rfl,hx2,lm2 _ (by decide +kernel),_,rfl,T3,_,_,_,rfl,rfl,.inl (.inl ht3),Af (j:=0) rfl,x,bs,rk,ks,ls,l.r,rk[l.r],0,rfl,O.mono s2,hrk,fun H3 s3=>?_⟩
  obtain ⟨dx3,fs3,hx3,lm3⟩:=meth ((O.mono s2).mono s3)
  refine ⟨_,rfl,x,dx3,fs3,rfl,hx3,lm3 _ (by decide +kernel),x,bs,rk,ks,ls,rfl,(O.mono s2).mono s3,a2,_,(Ec (rk.map Qv)).length,rfl,n2',?_,?_,?_,?_⟩
  ·omega
  ·have:((rk.take l.r).map (fun r=>r.2.1)).sum=Nq rk l.r:=rfl
   omega
  ·omega
  ·have fin:=q H3 (s2.trans s3)
   unfold Io at fin
   rw [hn1,esz,hn2] at fin
   rw [etot,Int.add_zero]
   exact fin
noncomputable def eO (H:Hp):V->Ln
 | .ref T=>match H T with
  | some (.tup [.int r,.int sh,.int lo,.int hi])=>⟨r.toNat,sh,lo,hi⟩
  | _=>⟨0,0,0,0⟩
 | _=>⟨0,0,0,0⟩
theorem TX {H:Hp} {l:Ln} {v:V} (h:TupAt H (Qk l) v):eO H v=l:=by
 obtain ⟨T,rfl,e⟩:=h
 show (match H T with | some (.tup [.int r,.int sh,.int lo,.int hi])=>(⟨r.toNat,sh,lo,hi⟩:Ln) | _=>⟨0,0,0,0⟩)=l
 rw [e]
 show (⟨((l.r:Nat):Int).toNat,l.sh,l.lo,l.hi⟩:Ln)=l
 rw [Int.toNat_natCast]
theorem Vz {H:Hp} {l:List Ln} {vs:List V} (h:Paired (fun x y=>TupAt H (Qk x) y) l vs):vs.map (eO H)=l:=by
 induction h with
 | nil=>rfl
 | cons x y ih=>rw [List.map_cons,ih,TX x]
noncomputable def SJ (sz:List Nat) (rk:List (Str × Nat × Int)) (b:Nat) (l:List Ln) (n:Nat):Nat:=Tj (l.map fun ln=>Io rk ln (Nr sz b n))
noncomputable def cz (C:Addr):Sp:=fun vs H Q _=>∃ (x:Addr) (c:Nat->Str) (sz:List Nat) (rk:List (Str × Nat × Int)) (kbs:List Kb) (ls:List (List Ln)) (k n:Nat) (z:Kb) (l:List Ln),vs=[.ref x,.int (k:Nat),.int (n:Nat)]/\Cw C H x (BX c sz) rk (Bw c kbs) ls/\L_ sz.length kbs/\kbs[k]? = some z/\ls[k]? = some l/\l.length<=100/\(∀ ln∈l,Yu rk ln)/\n<2 ^ 1200/\∀ H',An H H'->Q (.int (SJ sz rk (Cz kbs k) l n:Nat)) H'
theorem Xx:Aw ["organ","knob","keys","stop","numbers"] ["organ","knob","keys"] (Ag d9):=Bo
include N T in
theorem aW:Ar P w K mg base Be 4 aD.fBs aD.dBs ["organ","knob","keys"] (cz C):=by
 have GOs:Ar P w K mg base Be 2 aD.fOs aD.dOs ["self","knob"] (Ut C):=Tf N T
 have GNb:Ar P w K mg base Be 3 aD.fNb aD.dNb ["organ","board","keys"] (YX C):=WQ N T
 have GLl:Ar P w K mg base Be 3 aD.fLl aD.dLl ["organ","line","numbers"] (X4 C):=WX N T
 have GUn:Ar P w K mg base Be 1 aD.fUn aD.dUn ["sets"] X3:=W3 N T
 refine N.FBs.1.ok Xx (fun vs H Q E h=>?_) (fun cdv A outer s H vs Q E hr h=>?_)
 ·refine byC fun hng=>?_
  obtain ⟨x,c,sz,rk,kbs,ls,k,n,z,l,rfl,_⟩:=h
  refine hng ?_
  rfl
 ·refine byC fun hng=>?_
  obtain ⟨x,c,sz,rk,kbs,ls,k,n,z,l,rfl,O,hkb,hz,hl,hl100,hg,hn,q⟩:=h
  refine hng ?_
  have hrOs:BV 2 _:=hr.mono (by decide)
  have hrNb:BV 3 _:=hr.mono (by decide)
  have hrLl:BV 3 _:=hr.mono (by decide)
  have hrUn:BV 1 _:=hr.mono (by decide)
  refine ⟨_,(Ae (Ax (i:=3) Xx.nd rfl (Or.inl rfl) (C_ (pv 0) T.cl N.FOs.2.2 GOs hrOs N.FOs.2.1 .nil Ao (Aa (pv 1) Ac)))
   (Ae (Ax (i:=4) Xx.nd rfl (Or.inr rfl) (Ai GNb hrNb rfl N.FNb.2.2 N.FNb.1.kp N.FNb.2.1 .nil Ao (Aa (pv 0) (Aa (Am (Aj (K:=K) rfl) (pv 3) Ab (fun _ _=>rfl)) (Aa (pv 2) Ac)))))
   (Ah (Av (Ai GUn hrUn rfl N.FUn.2.2 N.FUn.1.kp N.FUn.2.1 .nil Ao (Aa (Bu rfl (Bc (osc:=Ag d9) (N:=["organ","knob","keys","stop","numbers"]) rfl rfl (by decide +kernel)) (Bg (Am (Aj (K:=K) rfl) (pv 3) Ab (fun _ _=>rfl))) (fun _ _ _ _=>Cd) (fun _ _ _ _=>(Ai GLl hrLl rfl N.FLl.2.2 N.FLl.1.kp N.FLl.2.1 .nil Ao (Aa (pv 1) (Aa (pv 0) (Aa (pv 5) Ac)))))) Ac)))))),?_⟩
  have hr:=DY (c:=c) hz
  obtain ⟨rs,er⟩:=Ir hr
  rw [er] at hr
  have hb:=JR hkb hz
  have hbs:(BX c sz)[Cz kbs k]? = some (c (Cz kbs k),sz[Cz kbs k]):=CT (List.getElem?_eq_getElem hb)
  have meth:∀ {H':Hp},Cw C H' x (BX c sz) rk (Bw c kbs) ls->∃ dx fs,H' x=some (.ins C dx fs)/\∀ m∈meths,fs.lookup m=none:=fun O'=>by
   refine byC fun hng=>?_
   obtain ⟨⟨dx,fs,_,_,_,_,_,_,_,_,h1,_,_,_,_,lm,_⟩,_⟩:=O'.o
   refine hng ?_
   exact ⟨dx,fs,h1,lm⟩
  obtain ⟨dx,fs,hx,lm⟩:=meth O
  refine ⟨_,rfl,x,dx,fs,rfl,hx,lm _ (by decide +kernel),_,rfl,x,BX c sz,rk,Bw c kbs,ls,k,Cz kbs k,(c (Cz kbs k),sz[Cz kbs k]),_,_,rs,l,rfl,O,hr,hbs,hl,fun T0 L0 ts H1 _ s1 hT0 hL0 htp=>?_⟩
  have O1:=O.mono s1
  refine ⟨_,rfl,_,rfl,T0,_,_,_,rfl,rfl,.inl (.inl hT0),Af (j:=0) rfl,_,rfl,x,c,sz,Bw c kbs,Cz kbs k,n,rfl,O1.o,hb,hn,fun H2 s2=>?_⟩
  have O2:=O1.mono s2
  have nlt:=QG n (-((sz.take (Cz kbs k)).sum:Int)) (sz.getD (Cz kbs k) 0)
  have h61:sz.getD (Cz kbs k) 0<=61:=by
   rw [List.getD_eq_getElem?_getD,List.getElem?_eq_getElem hb]
   exact O.o.sz _ (List.mem_of_getElem? hbs)
  have nlt':Nr sz (Cz kbs k) n<2 ^ 1200:=Nat.lt_of_lt_of_le nlt (Nat.pow_le_pow_right (by decide) (by omega))
  have hL2:=s2 _ _ hL0
  have htp2:=Al s2 htp
  have hlt:=htp2.length
  have hS2:CK K H2 L0 ts:=.inl (.inl hL2)
  refine ⟨_,rfl,T0,_,_,_,rfl,rfl,.inl (.inl (s2 _ _ hT0)),Af (j:=1) rfl,L0,rfl,⟨_,hS2⟩,Ca (K:=K) (xs:=ts) (fun _=>true) (fun v=>.int (Io rk (eO H2 v) (Nr sz (Cz kbs k) n):Nat)) hS2 (BJ (by omega)) (fun y hy H' hs R k=>k H' (An.refl H')) (fun y hy _ H' hs R k'=>?_) (fun D3 H3 hD3 s3 hl3=>?_)⟩
  ·obtain ⟨ln,hln,hyt⟩:=DQ htp2 hy
   have e:=TX hyt
   rw [e] at k'
   exact ⟨_,rfl,_,rfl,_,rfl,x,BX c sz,rk,Bw c kbs,ls,y,ln,_,rfl,O2.mono hs,hyt.mono hs,hg ln hln,nlt',fun H4 s4=>k' H4 s4⟩
  ·rw [List.filter_eq_self.mpr (fun _ _=>rfl)] at hl3
   have e3:(ts.map fun v=>V.int (Io rk (eO H2 v) (Nr sz (Cz kbs k) n):Nat))=nV (l.map fun ln=>Io rk ln (Nr sz (Cz kbs k) n)):=by
    rw [← Vz htp2]
    unfold nV
    rw [List.map_map,List.map_map]
    rfl
   rw [e3] at hl3
   exact ⟨D3,_,rfl,hl3,(by rw [List.length_map]; omega),q H3 (s1.trans (s2.trans s3))⟩
noncomputable def Yt (sz:List Nat) (rk:List (Str × Nat × Int)) (kbs:List Kb) (ls:List (List Ln)) (cl:List Nat) (n:Nat):Nat:=Tj (cl.map fun k=>SJ sz rk (Cz kbs k) (ls.getD k []) n)
noncomputable abbrev aq (rk:List (Str × Nat × Int)) (ls:List (List Ln)):Prop:=∀ l∈ls,l.length<=100/\∀ ln∈l,Yu rk ln
noncomputable def Zv (C:Addr):Sp:=fun vs H Q _=>∃ (x:Addr) (c:Nat->Str) (sz:List Nat) (rk:List (Str × Nat × Int)) (kbs:List Kb) (ls:List (List Ln)) (D n:Nat),vs=[.ref x,.int (D:Nat),.int (n:Nat)]/\Cw C H x (BX c sz) rk (Bw c kbs) ls/\L_ sz.length kbs/\aq rk ls/\n<2 ^ 1200 /\
 ∀ (cl:List Nat) H',An H H'->(∀ k,k∈cl ↔ ∃ z,kbs[k]? = some z/\z.w = "stop" /\ D.testBit k=true)->Q (.int (Yt sz rk kbs ls cl n:Nat)) H'
theorem jO:Aw ["organ","knobs","keys"] ["organ","knobs","keys"] (Ag fV):=Bo
include N T in
theorem cQ:Ar P w K mg base Be 5 aD.fBa aD.dBa ["organ","knobs","keys"] (Zv C):=by
 have GDc:Ar P w K mg base Be 2 aD.fDc aD.dDc ["organ","knobs","word"] (Ug C):=QQ N T
 have GBs:Ar P w K mg base Be 4 aD.fBs aD.dBs ["organ","knob","keys"] (cz C):=aW N T
 have GUn:Ar P w K mg base Be 1 aD.fUn aD.dUn ["sets"] X3:=W3 N T
 refine N.FBa.1.ok jO (fun vs H Q E h=>?_) (fun cdv A outer s H vs Q E hr h=>?_)
 ·refine byC fun hng=>?_
  obtain ⟨x,c,sz,rk,kbs,ls,D,n,rfl,_⟩:=h
  refine hng ?_
  rfl
 ·refine byC fun hng=>?_
  obtain ⟨x,c,sz,rk,kbs,ls,D,n,rfl,O,hkb,hls,hn,q⟩:=h
  refine hng ?_
  have hrDc:BV 2 _:=hr.mono (by decide)
  have hrBs:BV 4 _:=hr.mono (by decide)
  have hrUn:BV 1 _:=hr.mono (by decide)
  refine ⟨_,(Ah (Av (Ai GUn hrUn rfl N.FUn.2.2 N.FUn.1.kp N.FUn.2.1 .nil Ao (Aa (Bu rfl (Bc (osc:=Ag fV) (N:=["organ","knobs","keys"]) rfl rfl (by decide +kernel)) (Bg (Ai GDc hrDc rfl N.FDc.2.2 N.FDc.1.kp N.FDc.2.1 .nil Ao (Aa (pv 0) (Aa (pv 1) (Aa Br Ac))))) (fun _ _ _ _=>Cd) (fun _ _ _ _=>(Ai GBs hrBs rfl N.FBs.2.2 N.FBs.1.kp N.FBs.2.1 .nil Ao (Aa (pv 1) (Aa (pv 0) (Aa (pv 3) Ac)))))) Ac)))),?_⟩
  refine ⟨_,rfl,_,rfl,x,BX c sz,Bw c kbs,"stop",D,rfl,O.o,fun CL cl H1 hCL s1 hl1 hcl0 hcll=>?_⟩
  have hcl:∀ k,k∈cl ↔ ∃ z,kbs[k]? = some z/\z.w = "stop" /\ D.testBit k=true:=fun k=>by
   rw [hcl0]
   constructor
   ·rintro ⟨r,hr,hw,hd⟩
    obtain ⟨z,hz,rfl⟩:=Dm hr
    exact ⟨z,hz,(Gu _ _ _).symm.trans hw,hd⟩
   ·rintro ⟨z,hz,hw,hd⟩
    exact ⟨_,DY hz,(Gu _ _ _).trans hw,hd⟩
  have hS1:CK K H1 CL (nV cl):=.inl (.inl hl1)
  have O1:=O.mono s1
  let g:V->V:=fun v=>match v with | .int k=>.int (SJ sz rk (Cz kbs k.toNat) (ls.getD k.toNat []) n:Nat) | _=>.non
  refine ⟨CL,rfl,⟨_,hS1⟩,Ca (K:=K) (xs:=nV cl) (fun _=>true) g hS1 (BJ (by rw [List.length_map]; omega)) (fun y hy H' hs R k=>k H' (An.refl H')) (fun y hy _ H' hs R k=>?_) (fun D2 H2 hD2 s2 hl2=>?_)⟩
  ·obtain ⟨i,hi,rfl⟩:=List.mem_map.mp hy
   obtain ⟨z,hz,hw,hd⟩:=(hcl i).mp hi
   have hik:i<ls.length:=by
    rw [O.nl,Gh]
    exact (List.getElem?_eq_some_iff.mp hz).1
   have hli:=List.getElem?_eq_getElem hik
   have egd:ls.getD i []=ls[i]:=by rw [List.getD_eq_getElem?_getD,hli]; rfl
   have hg:=hls ls[i] (List.getElem_mem hik)
   refine ⟨_,rfl,_,rfl,_,rfl,x,c,sz,rk,kbs,ls,i,n,z,ls[i],rfl,O1.mono hs,hkb,hz,hli,hg.1,hg.2,hn,fun H4 s4=>?_⟩
   have kk:R (.int (SJ sz rk (Cz kbs i) (ls.getD i []) n:Nat)) H4:=k H4 s4
   rw [egd] at kk
   exact kk
  ·rw [List.filter_eq_self.mpr (fun _ _=>rfl)] at hl2
   have e:(nV cl).map g=nV (cl.map fun k=>SJ sz rk (Cz kbs k) (ls.getD k []) n):=by
    unfold nV
    rw [List.map_map,List.map_map]
    rfl
   rw [e] at hl2
   exact ⟨D2,_,rfl,hl2,(by rw [List.length_map]; omega),q cl H2 (s1.trans s2) hcl⟩
noncomputable def dZ (C:Addr):Sp:=fun vs H Q _=>∃ (x:Addr) (c:Nat->Str) (sz:List Nat) (rk:List (Str × Nat × Int)) (kbs:List Kb) (ls:List (List Ln)) (D n:Nat),vs=[.ref x,.int (D:Nat),.int (n:Nat)]/\Cw C H x (BX c sz) rk (Bw c kbs) ls/\L_ sz.length kbs/\aq rk ls/\n<2 ^ 1200/\(∀ i,n.testBit i=true->i<sz.sum) /\
 ∀ (cl:List Nat) (m:Nat) H',An H H'->(∀ k,k∈cl ↔ ∃ z,kbs[k]? = some z/\z.w = "stop" /\ D.testBit k=true)->(∀ j,m.testBit j=true ↔ Mf c sz kbs D n j)->Q (.int (Yt sz rk kbs ls cl m:Nat)) H'
theorem jV:Aw ["organ","knobs","held"] ["organ","knobs","held"] (Ag ie):=Bo
include N T in
theorem dH:Ar P w K mg base Be 7 aD.fSo aD.dSo ["organ","knobs","held"] (dZ C):=by
 have GSk:Ar P w K mg base Be 6 aD.fSk aD.dSk ["organ","knobs","held"] (U8 C):=Rh N T
 have GBa:Ar P w K mg base Be 5 aD.fBa aD.dBa ["organ","knobs","keys"] (Zv C):=cQ N T
 refine N.FSo.1.ok jV (fun vs H Q E h=>?_) (fun cdv A outer s H vs Q E hr h=>?_)
 ·refine byC fun hng=>?_
  obtain ⟨x,c,sz,rk,kbs,ls,D,n,rfl,_⟩:=h
  refine hng ?_
  rfl
 ·refine byC fun hng=>?_
  obtain ⟨x,c,sz,rk,kbs,ls,D,n,rfl,O,hkb,hls,hn,hnt,q⟩:=h
  refine hng ?_
  have hrSk:BV 6 _:=hr.mono (by decide)
  have hrBa:BV 5 _:=hr.mono (by decide)
  refine ⟨_,(Ah (Av (Ai GBa hrBa rfl N.FBa.2.2 N.FBa.1.kp N.FBa.2.1 .nil Ao (Aa (pv 0) (Aa (pv 1) (Aa (Ai GSk hrSk rfl N.FSk.2.2 N.FSk.1.kp N.FSk.2.1 .nil Ao (Aa (pv 0) (Aa (pv 1) (Aa (pv 2) Ac)))) Ac)))))),?_⟩
  have h305:=Ej O.o
  rw [Bk] at h305
  refine ⟨_,rfl,_,rfl,_,rfl,_,rfl,_,rfl,x,c,sz,kbs,D,n,rfl,O.o,hkb,hn,hnt,fun m H1 s1 hm=>?_⟩
  have hm12:m<2 ^ 1200:=by
   refine Nat.lt_pow_two_of_testBit m fun i hi=>?_
   rw [← Bool.not_eq_true]
   intro hb
   rcases (hm i).mp hb with h | h
   ·have:=h.lt
    rw [Bk] at this
    omega
   ·have:=hnt i h.1
    omega
  exact ⟨x,c,sz,rk,kbs,ls,D,m,rfl,O.mono s1,hkb,hls,hm12,fun cl H2 s2 hcl=>q cl m H2 (s1.trans s2) hcl hm⟩
theorem OD (sz:List Nat) (b n i:Nat):(Nr sz b n).testBit i=true ↔ i<sz.getD b 0/\n.testBit ((sz.take b).sum+i)=true:=by
 unfold Nr
 rw [Wd.JN]
 have e:((i:Int) - -(((sz.take b).sum:Nat):Int)).toNat=(sz.take b).sum+i:=by omega
 rw [e,Bool.and_eq_true,Bool.and_eq_true,decide_eq_true_eq,decide_eq_true_eq]
 exact ⟨fun h=>⟨h.1,h.2.2⟩,fun h=>⟨h.1,by omega,h.2⟩⟩
theorem Lg {rk:List (Str × Nat × Int)} {l:Ln} (g:Yu rk l) (n p:Nat):(Io rk l n).testBit p=true ↔ ∃ i:Nat,n.testBit i=true/\l.lo<=(i:Int)/\(i:Int)<=l.hi/\0<=(i:Int)+l.sh/\(i:Int)+l.sh<(H_ rk l.r:Nat)/\(p:Int)=(Nq rk l.r:Nat)+((i:Int)+l.sh):=by
 have h1:=g.lo
 have h2:=g.le
 have h3:=R4 g.r
 unfold Io
 rw [Wd.JN,Wd.JN,Wd.JN]
 simp only [Bool.and_eq_true,decide_eq_true_eq]
 constructor
 ·rintro ⟨a1,a2,b1,b2,c1,c2,hn⟩
  exact ⟨_,hn,by omega,by omega,by omega,by omega,by omega⟩
 ·rintro ⟨i,hn,a1,a2,a3,a4,e⟩
  have ei:(((((((p:Int) - ((Nq rk l.r:Nat):Int)).toNat:Nat):Int) - (l.lo+l.sh)).toNat:Nat):Int) - -l.lo=(i:Int):=by omega
  refine ⟨by omega,by omega,by omega,by omega,by omega,by omega,?_⟩
  rw [ei,Int.toNat_natCast]
  exact hn
theorem Xc {sz:List Nat} {rk:List (Str × Nat × Int)} {b:Nat} {l:List Ln} {n p:Nat} (g:∀ ln∈l,Yu rk ln):(SJ sz rk b l n).testBit p=true ↔ ∃ ln∈l,∃ i:Nat,i<sz.getD b 0/\n.testBit ((sz.take b).sum+i)=true/\ln.lo<=(i:Int)/\(i:Int)<=ln.hi/\0<=(i:Int)+ln.sh/\(i:Int)+ln.sh<(H_ rk ln.r:Nat)/\(p:Int)=(Nq rk ln.r:Nat)+((i:Int)+ln.sh):=by
 unfold SJ
 rw [Jf]
 constructor
 ·rintro ⟨m,hm,hb⟩
  obtain ⟨ln,hl,rfl⟩:=List.mem_map.mp hm
  obtain ⟨i,hi,r⟩:=(Lg (g ln hl) _ _).mp hb
  obtain ⟨x,y⟩:=(OD _ _ _ _).mp hi
  exact ⟨ln,hl,i,x,y,r⟩
 ·rintro ⟨ln,hl,i,x,y,r⟩
  exact ⟨_,List.mem_map_of_mem hl,(Lg (g ln hl) _ _).mpr ⟨i,(OD _ _ _ _).mpr ⟨x,y⟩,r⟩⟩
theorem Uh {sz:List Nat} {rk:List (Str × Nat × Int)} {kbs:List Kb} {ls:List (List Ln)} {cl:List Nat} {n p:Nat}:(Yt sz rk kbs ls cl n).testBit p=true ↔ ∃ k∈cl,(SJ sz rk (Cz kbs k) (ls.getD k []) n).testBit p=true:=by
 unfold Yt
 rw [Jf]
 constructor
 ·rintro ⟨m,hm,hb⟩
  obtain ⟨k,hk,rfl⟩:=List.mem_map.mp hm
  exact ⟨k,hk,hb⟩
 ·rintro ⟨k,hk,hb⟩
  exact ⟨_,List.mem_map_of_mem hk,hb⟩
noncomputable def Zg (K:PySem.W.Frag):Sp:=fun vs H Q _=>∃ (a:Addr) (k:Nat) (ns:List Int),vs=[.ref a,.int (k:Nat)]/\CK K H a (ns.map V.int)/\∀ i:Int,Q (.int i) H
theorem lQ:Aw ["_law_script","_law_k"] ["_law_script","_law_k"] (Ag jM):=Bo
include N T in
theorem Yy:Ar P w K mg base Be 1 aD.fCe aD.dCe ["_law_script","_law_k"] (Zg K):=by
 refine N.FCe.1.ok lQ (fun vs H Q E h=>?_) (fun cdv A outer s H vs Q E hr h=>?_)
 ·obtain ⟨a,k,ns,rfl,_⟩:=h
  rfl
 ·obtain ⟨a,k,ns,rfl,hS,q⟩:=h
  refine ⟨_,(Ae (Bt (BR Gz (pv 1) (BP Bb rfl T.len PySem.boot_len (Aa (pv 0) Ac)) (BZ _)) (Ah (Av (Am Eb (pv 0) (pv 1) (fun _ _=>rfl)))) Bd)
   (Ah (Av Ab))),?_⟩
  refine ⟨_,rfl,_,rfl,a,_,rfl,.inl hS,_,_,rfl,rfl,_,rfl,?_⟩
  refine Dn (fun h1=>?_) (fun _=>q 0)
  have hlt:k<ns.length:=by have:=of_decide_eq_true h1; rw [List.length_map] at this; omega
  exact ⟨_,rfl,_,rfl,a,_,_,.int ns[k],rfl,rfl,hS,Af (by rw [List.getElem?_map,List.getElem?_eq_getElem hlt]; rfl),q _⟩
theorem iH:Aw ["_law_found"] ["_law_found"] (Ag i_):=Bo
include N T in
theorem WN:Ar P w K mg base Be 1 aD.fLw aD.dLw ["_law_found"] Q0:=by
 refine N.FLw.1.ok iH (fun vs H Q E h=>?_) (fun cdv A outer s H vs Q E hr h=>?_)
 ·obtain ⟨i,rfl,_⟩:=h
  rfl
 ·obtain ⟨i,rfl,q⟩:=h
  refine ⟨_,(Ah (Av (Dy (BP Ci rfl T.isin PyProof.Rows.boot_isinstance (Aa (pv 0) (Aa (Do (v:=.ty "int") rfl T.int PyProof.Rows.boot_int rfl) Ac))) (Dq (OJ (BP Ci rfl T.isin PyProof.Rows.boot_isinstance (Aa (pv 0) (Aa (Do (v:=.ty "bool") rfl T.bool PyProof.Rows.boot_bool rfl) Ac)))))))),?_⟩
  refine ⟨_,rfl,_,"int",_,_,rfl,.int i,ty_int,_,rfl,CW ?_⟩
  exact ⟨_,rfl,_,"bool",_,_,rfl,.int i,Wm,_,rfl,q⟩
noncomputable def Ma:Sp:=fun vs H Q _=>∃ (c k:Int),vs=[.int c,.int k]/\0<=k/\k<=1000/\Q (.int (Bl c k)) H
theorem Ze:Aw ["_law_cell","_law_k","_law_number"] ["_law_cell","_law_k"] (Ag jK):=Bo
include N T in
theorem JZ:Ar P w K mg base Be 1 aD.fMx aD.dMx ["_law_cell","_law_k"] Ma:=by
 refine N.FMx.1.ok Ze (fun vs H Q E h=>?_) (fun cdv A outer s H vs Q E hr h=>?_)
 ·obtain ⟨c,k,rfl,_⟩:=h
  rfl
 ·obtain ⟨c,k,rfl,h0,h1,q⟩:=h
  refine ⟨_,(Ae (Bt (PW.pt (Fp (BR Rz (pv 0) (Aq S9 Ab Ab) (BZ _)) (FT (BR Wr (Aq Gs (pv 0) (Aq HH Ab (pv 1))) Ab (BZ _))))) (Ah (Av (Aq Bs (Aq Gs (pv 0) (Aq HH Ab (pv 1))) Ab))) Bd)
   (Ae (Ax (i:=2) Ze.nd rfl (Or.inl rfl) (Aq Bs (Aq HH (Aq Bp (Aq Bp (Aq Bp (Aq Bs (pv 0) Ab) (Aq HH (Aq HH Ab (pv 1)) (pv 1))) (pv 1)) Ab) Ab) Ab))
   (Ah (Av (Aq Bs (Aq HH (pv 2) (pv 2)) Ab))))),?_⟩
  have rest:(decide ((10:Int) ^ (18:Int).toNat<=c) && decide (0<c / 2 ^ (31 * k).toNat))=false->Vs (Vd (Nu (rI (fun _ j=>0<j) fun i j=>.int (i % j)) (Nu (rI Ou fun i j=>.int (i * j)) (Nu (Qu fun i j=>.int (i+j)) (Nu (Qu fun i j=>.int (i+j)) (Nu (Qu fun i j=>.int (i+j)) (Nu (rI (fun _ j=>0<j) fun i j=>.int (i % j)) (Ng 0) (tC (.int 1000003))) (Nu (rI Ou fun i j=>.int (i * j)) (Nu (rI Ou fun i j=>.int (i * j)) (tC (.int 7919)) (Ng 1)) (Ng 1))) (Ng 1)) (tC (.int 1))) (tC (.int 48271))) (tC (.int 2147483629))) (DX 2)) (cJ (Nu (rI (fun _ j=>0<j) fun i j=>.int (i % j)) (Nu (rI Ou fun i j=>.int (i * j)) (Ng 2) (Ng 2)) (tC (.int 2147483587)))) { nx:=fun _ H'=>Q .non H',rt:=Q } [some (.int c),some (.int k),none] H:=fun g=>by
   refine ⟨_,rfl,_,_,rfl,rfl,(by show (0:Int)<1000003; decide),_,rfl,_,_,rfl,rfl,.inl ⟨by decide,by decide⟩,_,rfl,_,_,rfl,rfl,.inl ⟨by omega,by omega⟩,_,_,rfl,rfl,_,rfl,_,_,rfl,rfl,_,_,rfl,rfl,_,_,rfl,rfl,.inr ⟨by decide,by decide⟩,_,_,rfl,rfl,(by show (0:Int)<2147483629; decide),?_⟩
   have g1:0<=(c % 1000003+7919 * k * k+k+1) * 48271 % 2147483629:=Int.emod_nonneg _ (by decide)
   have g2:(c % 1000003+7919 * k * k+k+1) * 48271 % 2147483629<2147483629:=Int.emod_lt_of_pos _ (by decide)
   have q':=q
   unfold Bl dq at q'
   rw [g,if_neg Bool.false_ne_true] at q'
   exact ⟨_,rfl,_,rfl,_,_,rfl,rfl,.inl ⟨by omega,by omega⟩,_,_,rfl,rfl,(by show (0:Int)<2147483587; decide),q'⟩
  refine ⟨_,rfl,_,_,rfl,rfl,⟨by decide,by decide,by decide⟩,_,_,rfl,rfl,_,rfl,?_⟩
  refine Dn (fun ga=>?_) (fun ga=>?_)
  ·refine ⟨_,rfl,_,rfl,_,_,rfl,rfl,.inl ⟨by decide,by decide⟩,_,_,rfl,rfl,(by show (0:Int)<=31 * k; omega),_,_,rfl,rfl,_,rfl,?_⟩
   refine Dn (fun gb=>?_) (fun gb=>?_)
   ·refine ⟨_,rfl,_,rfl,_,_,rfl,rfl,.inl ⟨by decide,by decide⟩,_,_,rfl,rfl,(by show (0:Int)<=31 * k; omega),_,_,rfl,rfl,(by show (0:Int)<2147483587; decide),?_⟩
    have q':=q
    unfold Bl at q'
    rw [if_pos (by rw [Bool.and_eq_true]; exact ⟨ga,gb⟩)] at q'
    exact q'
   ·exact rest (by rw [(Bool.not_eq_true _).mp gb,Bool.and_false])
  ·refine Bj (rest (by rw [(Bool.not_eq_true _).mp ga,Bool.false_and]))
noncomputable def cG:Sp:=fun vs H Q _=>∃ (c:Int) (k:Nat),vs=[.int c,.int (k:Nat)]/\k<676/\∀ H',An H H'->Q (.str (DN c k)) H'
theorem Q9:Aw ["_law_cell","_law_k","_law_letters","_law_size","_law_name_here","_law_at","_law_two"] ["_law_cell","_law_k"] (Ag fM):=Bo
include N T in
theorem Zx:Ar P w K mg base Be 2 aD.fNa aD.dNa ["_law_cell","_law_k"] cG:=by
 have GMx:Ar P w K mg base Be 1 aD.fMx aD.dMx ["_law_cell","_law_k"] Ma:=JZ N T
 refine N.FNa.1.ok Q9 (fun vs H Q E h=>?_) (fun cdv A outer s H vs Q E hr h=>?_)
 ·obtain ⟨c,k,rfl,_⟩:=h
  rfl
 ·obtain ⟨c,k,rfl,hk,q⟩:=h
  have hrMx:BV 1 _:=hr.mono (by decide)
  refine ⟨_,(Ae (Ax (i:=2) Q9.nd rfl (Or.inr rfl) Br)
   (Ae (Ax (i:=3) Q9.nd rfl (Or.inl rfl) (Aq Bp Ab (Aq Bs (pv 0) Ab)))
   (Ae (Ax (i:=4) Q9.nd rfl (Or.inl rfl) (Ex PySem.F.plainAttrs_str PySem.F.slot_str_join PySem.F.type_str_join Ux Br (Aa (Bu rfl (Bc (osc:=Ag fM) (N:=["_law_cell","_law_k","_law_letters","_law_size","_law_name_here","_law_at","_law_two"]) rfl rfl (by decide +kernel)) (CN rfl T.range (Aa (pv 3) Ac)) (fun _ _ _ _=>Cd) (fun _ _ _ _=>(Am N7 (pv 3) (Aq Bs (Ai GMx hrMx rfl N.FMx.2.2 N.FMx.1.kp N.FMx.2.1 .nil Ao (Aa (Aq Cp (pv 1) Ab) (Aa (pv 0) Ac))) Ab) (fun _ _=>rfl)))) Ac)))
   (Ae (Ax (i:=5) Q9.nd rfl (Or.inl rfl) (Aq Bs (Aq Cp (pv 0) Ab) (Aq Dv (pv 3) Ab)))
   (Ae (Ax (i:=6) Q9.nd rfl (Or.inl rfl) (Aq Ht (Am N7 (pv 2) (Aq Cp (pv 1) Ab) (fun _ _=>rfl)) (Am N7 (pv 2) (Aq Bs (pv 1) Ab) (fun _ _=>rfl))))
   (Ah (Av (Aq Ht (Aq Ht (Dt T_ (pv 4) Ez (Cv (pv 5))) (pv 6)) (Dt T_ (pv 4) (Cv (Aq Bp (pv 5) Ab)) Ez))))))))),?_⟩
  have zl:=UV c
  have ez:2+c % 7=((Od c:Nat):Int):=by unfold Od; omega
  refine ⟨_,rfl,_,_,rfl,rfl,(by show (0:Int)<7; decide),_,_,rfl,rfl,rfl,?_⟩
  refine ⟨_,rfl,2+c % 7,rfl,by omega,by omega,?_⟩
  refine Dw (lo:=0) (n:=Od c) (fun _=>true) (fun i=>.str ⟨#[97+(Bl (c / 7) i % 26).toNat]⟩) (Nat.lt_of_le_of_lt zl.2 (by decide)) (fun i hi H' hs R k=>k H' (An.refl H')) (fun i hi _ H' hs R k=>?_) (fun D H1 hD s1 hl1=>?_)
  ·have m0:0<=Bl (c / 7) (0+(i:Nat)) % 26:=Int.emod_nonneg _ (by decide)
   have m1:Bl (c / 7) (0+(i:Nat)) % 26<26:=Int.emod_lt_of_pos _ (by decide)
   exact ⟨_,rfl,_,rfl,_,_,rfl,rfl,⟨by decide,by decide⟩,_,rfl,_,_,rfl,by omega,by omega,_,_,rfl,rfl,(by show (0:Int)<26; decide),letters,_,_,rfl,rfl,Dd (by decide +kernel),O5 m0 m1,k H' (An.refl H')⟩
  have e1:((((List.range (Od c)).map fun (i:Nat)=>(0:Int)+(i:Int)).filter fun _=>true).map fun i=>V.str ⟨#[97+(Bl (c / 7) i % 26).toNat]⟩)=((Gb c).map fun x=>(⟨#[x]⟩:Str)).map V.str:=by
   rw [List.filter_eq_self.mpr (fun _ _=>rfl)]
   unfold Gb
   rw [List.map_map,List.map_map,List.map_map]
   refine List.map_congr_left fun i _=>?_
   show V.str ⟨#[97+(Bl (c / 7) (0+(i:Nat)) % 26).toNat]⟩=V.str ⟨#[97+(Bl (c / 7) (i:Nat) % 26).toNat]⟩
   rw [Int.zero_add]
  rw [e1] at hl1
  have hj:JoinOk ("" : Str) ((Gb c).map fun x=>(⟨#[x]⟩:Str))=true:=by
   refine PyProof.Rows.joinOk_of_weight ?_ (by decide +kernel)
   rw [List.map_map,List.length_map,Gd]
   have e2:((Gb c).map ((fun x:Str=>x.length) ∘ fun x=>(⟨#[x]⟩:Str))).sum=(Gb c).length:=by
    generalize Gb c=l
    induction l with
    | nil=>rfl
    | cons a l ih =>
     rw [List.map_cons,List.sum_cons,ih,List.length_cons]
     show 1+l.length=l.length+1
     omega
   rw [e2,Gd]
   omega
  refine ⟨("" : Str),D,_,rfl,rfl,.inl (.inl hl1),hj,?_⟩
  have ej:=N_ (Gb c)
  generalize Txt.join ("" : Str) ((Gb c).map fun x=>(⟨#[x]⟩:Str))=z at ej ⊢
  have lz:z.length=Od c:=by
   have:z.length=z.cps.toList.length:=by simp [Str.length]
   rw [this,ej,Gd]
  have la:=Sw c
  have ea:c / 49 % (2+c % 7 - 1)=((Nt c:Nat):Int):=by
   have h1:0<=c / 49 % (2+c % 7 - 1):=Int.emod_nonneg _ (by omega)
   unfold Nt
   omega
  refine ⟨_,rfl,_,_,rfl,rfl,⟨by decide,by decide⟩,_,rfl,_,_,rfl,rfl,_,_,rfl,rfl,(by show (0:Int)<2+c % 7 - 1; omega),?_⟩
  refine ⟨_,rfl,_,rfl,_,_,rfl,rfl,⟨by decide,by decide⟩,letters,_,_,rfl,rfl,Dd (by decide +kernel),O5 (by omega) (by omega),_,rfl,_,rfl,_,_,rfl,rfl,(by show (0:Int)<26; decide),letters,_,_,rfl,rfl,Dd (by decide +kernel),O5 (by omega) (by omega),_,_,rfl,rfl,Dd (by show 1+1<=1000; decide),?_⟩
  have s1e:=O_ (z:=z) (n:=Nt c) (by omega)
  have s2e:=PX (z:=z) (n:=Nt c+2) (by omega)
  rw [ej] at s1e s2e
  have l1:(Txt.slice z none (some ((Nt c:Nat):Int))).length=Nt c:=by
   have:(Txt.slice z none (some ((Nt c:Nat):Int))).length=(Txt.slice z none (some ((Nt c:Nat):Int))).cps.toList.length:=by simp [Str.length]
   rw [this,s1e,List.length_take,Gd]
   omega
  have l2:(Txt.slice z (some ((Nt c+2:Nat):Int)) none).length<=Od c:=by
   have:(Txt.slice z (some ((Nt c+2:Nat):Int)) none).length=(Txt.slice z (some ((Nt c+2:Nat):Int)) none).cps.toList.length:=by simp [Str.length]
   rw [this,s2e,List.length_drop,Gd]
   omega
  have ea2:c / 49 % (2+c % 7 - 1)+2=((Nt c+2:Nat):Int):=by rw [ea]; rfl
  have la2:∀ a b:Str,(a++b).length=a.length+b.length:=fun a b=>by
   show (a.cps++b.cps).size=a.cps.size+b.cps.size
   simp
  have lt:((⟨#[97+((k:Int) / 26).toNat]⟩:Str)++(⟨#[97+((k:Int) % 26).toNat]⟩:Str)).length=2:=by rw [la2]; rfl
  refine ⟨_,rfl,_,rfl,_,rfl,z,rfl,Dd (by omega),_,rfl,_,_,rfl,rfl,Dd (by show (Txt.slice z none (some (c / 49 % (2+c % 7 - 1)))).length+((⟨#[97+((k:Int) / 26).toNat]⟩:Str)++(⟨#[97+((k:Int) % 26).toNat]⟩:Str)).length<=1000; rw [ea,l1,lt]; omega),_,rfl,_,rfl,_,_,rfl,rfl,_,rfl,z,rfl,Dd (by omega),_,_,rfl,rfl,Dd (by
   show (Txt.slice z none (some (c / 49 % (2+c % 7 - 1)))++((⟨#[97+((k:Int) / 26).toNat]⟩:Str)++(⟨#[97+((k:Int) % 26).toNat]⟩:Str))).length+(Txt.slice z (some (c / 49 % (2+c % 7 - 1)+2)) none).length<=1000
   rw [la2,lt,ea2,ea,l1]
   omega),?_⟩
  have fin:=q H1 s1
  have e9:(Txt.slice z none (some (c / 49 % (2+c % 7 - 1)))++((⟨#[97+((k:Int) / 26).toNat]⟩:Str)++(⟨#[97+((k:Int) % 26).toNat]⟩:Str)))++Txt.slice z (some (c / 49 % (2+c % 7 - 1)+2)) none=DN c k:=by
   rw [ea2,ea]
   refine V1 ?_
   have la3:∀ a b:Str,(a++b).cps.toList=a.cps.toList++b.cps.toList:=fun a b=>by
    show (a.cps++b.cps).toList=_
    simp
   rw [la3,la3,la3,s1e,s2e]
   have k1:((k:Int) / 26).toNat=k / 26:=by omega
   have k2:((k:Int) % 26).toNat=k % 26:=by omega
   rw [k1,k2]
   simp [DN,JB]
  rw [← e9] at fin
  exact fin
noncomputable def cN:Sp:=fun vs H Q _=>∃ (c:Int) (m mx:Nat),vs=[.int c,.int (m:Nat),.int (mx:Nat)]/\1<=m/\m<=5/\1<=mx/\mx<=61/\∀ D (sz:List Nat) H',H D=none->An H H'->H' D=some (.lst (sz.map fun n:Nat=>V.int (n:Nat)))->sz.length=m->(∀ s∈sz,1<=s/\s<=mx)->Q (.ref D) H'
theorem gG:Aw ["_law_cell","_law_many","_law_most"] ["_law_cell","_law_many","_law_most"] (Ag fO):=Bo
include N T in
theorem bY:Ar P w K mg base Be 2 aD.fSz aD.dSz ["_law_cell","_law_many","_law_most"] cN:=by
 have GMx:Ar P w K mg base Be 1 aD.fMx aD.dMx ["_law_cell","_law_k"] Ma:=JZ N T
 refine N.FSz.1.ok gG (fun vs H Q E h=>?_) (fun cdv A outer s H vs Q E hr h=>?_)
 ·obtain ⟨c,m,mx,rfl,_⟩:=h
  rfl
 ·obtain ⟨c,m,mx,rfl,hm0,hm,hx0,hx,q⟩:=h
  have hrMx:BV 1 _:=hr.mono (by decide)
  refine ⟨_,(Ah (Av (Bu rfl (Bc (osc:=Ag fO) (N:=["_law_cell","_law_many","_law_most"]) rfl rfl (by decide +kernel)) (CN rfl T.range (Aa (pv 1) Ac)) (fun _ _ _ _=>Cd) (fun _ _ _ _=>(Aq Bp Ab (Aq Bs (Ai GMx hrMx rfl N.FMx.2.2 N.FMx.1.kp N.FMx.2.1 .nil Ao (Aa (pv 1) (Aa (Aq Bp Ab (pv 0)) Ac))) (pv 3))))))),?_⟩
  refine ⟨_,rfl,_,rfl,by omega,by omega,?_⟩
  rw [Int.toNat_natCast]
  refine Dw (lo:=0) (n:=m) (fun _=>true) (fun i=>.int (1+Bl c (50+i) % (mx:Nat))) (Nat.lt_of_le_of_lt hm (by decide)) (fun i hi H' hs R k=>k H' (An.refl H')) (fun i hi _ H' hs R k=>?_) (fun D H1 hD s1 hl1=>?_)
  ·exact ⟨_,rfl,_,rfl,_,_,rfl,rfl,_,_,rfl,by omega,by omega,_,rfl,_,_,rfl,rfl,(by show (0:Int)<(mx:Nat); omega),_,_,rfl,rfl,k H' (An.refl H')⟩
  ·refine q D ((List.range m).map fun (i:Nat)=>(1+Bl c (50+(0+(i:Nat))) % (mx:Nat)).toNat) H1 hD s1 ?_ (by simp) (fun s hs=>?_)
   ·rw [hl1,List.filter_eq_self.mpr (fun _ _=>rfl),List.map_map,List.map_map]
    refine congrArg (fun l=>some (HO.lst l)) (List.map_congr_left fun i _=>?_)
    have h1:0<=Bl c (50+(0+(i:Int))) % (mx:Nat):=Int.emod_nonneg _ (by omega)
    show V.int (1+Bl c (50+(0+(i:Int))) % (mx:Nat))=V.int (((1+Bl c (50+(0+(i:Int))) % (mx:Nat)).toNat:Nat):Int)
    rw [Int.toNat_of_nonneg (by omega)]
   ·obtain ⟨i,_,rfl⟩:=List.mem_map.mp hs
    have h1:0<=Bl c (50+(0+(i:Int))) % (mx:Nat):=Int.emod_nonneg _ (by omega)
    have h2:Bl c (50+(0+(i:Int))) % (mx:Nat)<(mx:Nat):=Int.emod_lt_of_pos _ (by omega)
    omega
noncomputable def ZL:Sp:=fun vs H Q _=>∃ (c:Int) (s:Nat) (p:Addr) (pz:List Nat),vs=[.int c,.int (s:Nat),.ref p]/\H p=some (.lst (pz.map fun n:Nat=>V.int (n:Nat)))/\1<=pz.length/\pz.length<=4/\(∀ z∈pz,1<=z/\z<=97)/\1<=s/\s<=61/\∀ A (l:List Ln) ts H',H A=none->An H H'->H' A=some (.lst ts)->Paired (fun x y=>TupAt H' (Qk x) y) l ts->l.length<=4->(∀ x∈l,Yx s pz x)->Q (.ref A) H'
theorem My:Aw ["_law_cell","_law_size","_law_pipes","_law_lines_here","_law_k","_law_rank","_law_low","_law_high","_law_number","_law_shift"] ["_law_cell","_law_size","_law_pipes"] (Ag gh):=Bo
include N T in
theorem Zd:Ar P w K mg base Be 2 aD.fLn aD.dLn ["_law_cell","_law_size","_law_pipes"] ZL:=by
 have GMx:Ar P w K mg base Be 1 aD.fMx aD.dMx ["_law_cell","_law_k"] Ma:=JZ N T
 refine N.FLn.1.ok My (fun vs H Q E h=>?_) (fun cdv A outer s H vs Q E hr h=>?_)
 ·obtain ⟨c,s0,p,pz,rfl,_⟩:=h
  rfl
 ·obtain ⟨c,s0,p,pz,rfl,hp,h0,h4,hz,hs0,hs1,q⟩:=h
  have hrMx:BV 1 _:=hr.mono (by decide)
  refine ⟨_,(Ae (Ax (i:=3) My.nd rfl (Or.inl rfl) (Df Ac))
   (Ae (Cq PassesOwn.never rfl (CN rfl T.range (Aa (Aq Bp (Aq Bs (Ai GMx hrMx rfl N.FMx.2.2 N.FMx.1.kp N.FMx.2.1 .nil Ao (Aa (pv 0) (Aa Ab Ac))) Ab) (Dz Kw rfl T.int PyProof.Rows.boot_int (Aa (EY DG (Aq Bs (Ai GMx hrMx rfl N.FMx.2.2 N.FMx.1.kp N.FMx.2.1 .nil Ao (Aa (pv 0) (Aa Ab Ac))) Ab) Ab (BZ _)) Ac))) Ac)) (Ba (i:=4) My.nd rfl (Or.inl rfl)) (Ae (Ax (i:=5) My.nd rfl (Or.inl rfl) (Aq Bs (Ai GMx hrMx rfl N.FMx.2.2 N.FMx.1.kp N.FMx.2.1 .nil Ao (Aa (pv 0) (Aa (Aq Bp Ab (pv 4)) Ac))) (BP Bb rfl T.len PySem.boot_len (Aa (pv 2) Ac))))
   (Ae (Ax (i:=6) My.nd rfl (Or.inl rfl) (Aq Bs (Ai GMx hrMx rfl N.FMx.2.2 N.FMx.1.kp N.FMx.2.1 .nil Ao (Aa (pv 0) (Aa (Aq Bp Ab (pv 4)) Ac))) (pv 1)))
   (Ae (Ax (i:=7) My.nd rfl (Or.inl rfl) (Aq Bp (pv 6) (Aq Bs (Ai GMx hrMx rfl N.FMx.2.2 N.FMx.1.kp N.FMx.2.1 .nil Ao (Aa (pv 0) (Aa (Aq Bp Ab (pv 4)) Ac))) (Aq Dv (pv 1) (pv 6)))))
   (Ae (Ax (i:=8) My.nd rfl (Or.inl rfl) (Ai GMx hrMx rfl N.FMx.2.2 N.FMx.1.kp N.FMx.2.1 .nil Ao (Aa (pv 0) (Aa (Aq Bp Ab (pv 4)) Ac))))
   (Ae (Ax (i:=9) My.nd rfl (Or.inl rfl) (Am Eb (Df (Aa Ab (Aa (Aq Dv (Aq Bs (Aq Cp (pv 8) Ab) Ab) Ab) (Aa (Aq Dv (Aq Dv (Am (A_ (K:=K) rfl) (pv 2) (pv 5) (fun _ _=>rfl)) Ab) (pv 7)) (Aa (Aq Dv (Aq Bs (Aq Cp (pv 8) Ab) Ab) Ab) Ac))))) (Aq Bs (pv 8) Ab) (fun _ _=>rfl)))
   (Ah (DW (Ex PySem.F.plainAttrs_list PySem.F.slot_list_append PySem.F.type_list_append CG (pv 3) (Aa (CV (Aa (pv 5) (Aa (pv 9) (Aa (pv 6) (Aa (pv 7) Ac))))) Ac))))))))))
   (Ah (Av (pv 3))))),?_⟩
  have hlen:(((pz.map fun n:Nat=>V.int (n:Nat)).length:Nat):Int)=((pz.length:Nat):Int):=by rw [List.length_map]
  refine ⟨Dd (by simp),fun D hD=>?_⟩
  obtain ⟨H0,eqH,t0,u0⟩:=JS (o:=HO.lst []) hD
  rw [eqH]
  have m4:0<=Bl c 21 % 4/\Bl c 21 % 4<4:=⟨Int.emod_nonneg _ (by decide),Int.emod_lt_of_pos _ (by decide)⟩
  have bl:∀ b:Bool,0<=(if b=true then (1:Int) else 0)/\(if b=true then (1:Int) else 0)<=1:=fun b=>by cases b <;> decide
  refine ⟨_,rfl,_,_,rfl,by decide,by decide,_,_,rfl,rfl,(by show (0:Int)<4; decide),_,rfl,_,_,rfl,by decide,by decide,_,_,rfl,rfl,(by show (0:Int)<8; decide),rfl,.inr ⟨_,rfl,?_⟩⟩
  have bb:=bl (decide (V.int (Bl c 22 % 8)=V.int 0))
  generalize (if decide (V.int (Bl c 22 % 8)=V.int 0)=true then (1:Int) else 0)=b0 at bb ⊢
  obtain ⟨n,en,hn⟩:∃ n:Nat,Bl c 21 % 4+b0=(n:Int)/\n<=4:=⟨(Bl c 21 % 4+b0).toNat,by omega,by omega⟩
  refine ⟨_,_,rfl,rfl,_,rfl,(by rw [en]; omega),(by rw [en]; omega),?_⟩
  rw [en,Int.toNat_natCast]
  refine Gi (lo:=0) (n:=n) (fun i σ H4=>An H H4/\∃ (l:List Ln) (ts:List V),H4 D=some (.lst ts)/\Paired (fun x y=>TupAt H4 (Qk x) y) l ts/\l.length=i/\(∀ x∈l,Yx s0 pz x)/\∃ v4 v5 v6 v7 v8 v9,σ=[some (.int c),some (.int (s0:Nat)),some (.ref p),some (.ref D),v4,v5,v6,v7,v8,v9])
   ⟨t0,[],[],u0,.nil,rfl,(fun x hx=>nomatch hx),_,_,_,_,_,_,rfl⟩ ?_ ?_
  ·rintro i σ H4 hi ⟨s4,l,ts,hd,hpr,hll,hg,v4,v5,v6,v7,v8,v9,rfl⟩
   have hp4:=s4 _ _ hp
   refine ⟨_,rfl,_,rfl,_,_,rfl,rfl,_,_,rfl,by omega,by omega,_,rfl,p,_,rfl,.inl (.inl (.inl hp4)),_,_,rfl,rfl,(by show (0:Int)<(((pz.map fun n:Nat=>V.int (n:Nat)).length:Nat):Int); rw [hlen]; omega),?_⟩
   rw [hlen]
   show DX 5 (V.int (Bl c (23+(0+(i:Int))) % ((pz.length:Nat):Int))) _ _ _
   obtain ⟨r,er,hr⟩:∃ r:Nat,Bl c (23+(0+(i:Int))) % ((pz.length:Nat):Int)=(r:Int)/\r<pz.length:=by
    have g1:0<=Bl c (23+(0+(i:Int))) % ((pz.length:Nat):Int):=Int.emod_nonneg _ (by omega)
    have g2:Bl c (23+(0+(i:Int))) % ((pz.length:Nat):Int)<((pz.length:Nat):Int):=Int.emod_lt_of_pos _ (by omega)
    exact ⟨(Bl c (23+(0+(i:Int))) % ((pz.length:Nat):Int)).toNat,by omega,by omega⟩
   rw [er]
   refine ⟨_,rfl,_,rfl,_,_,rfl,rfl,_,_,rfl,by omega,by omega,_,rfl,_,_,rfl,rfl,(by show (0:Int)<((s0:Nat):Int); omega),?_⟩
   show DX 6 (V.int (Bl c (28+(0+(i:Int))) % ((s0:Nat):Int))) _ _ _
   have lo0:0<=Bl c (28+(0+(i:Int))) % ((s0:Nat):Int):=Int.emod_nonneg _ (by omega)
   have lo1:Bl c (28+(0+(i:Int))) % ((s0:Nat):Int)<((s0:Nat):Int):=Int.emod_lt_of_pos _ (by omega)
   generalize Bl c (28+(0+(i:Int))) % ((s0:Nat):Int)=lo at lo0 lo1 ⊢
   refine ⟨_,rfl,_,rfl,_,rfl,_,_,rfl,rfl,_,_,rfl,by omega,by omega,_,rfl,_,rfl,_,_,rfl,rfl,_,_,rfl,rfl,(by show (0:Int)<((s0:Nat):Int) - lo; omega),_,_,rfl,rfl,?_⟩
   show DX 7 (V.int (lo+Bl c (33+(0+(i:Int))) % (((s0:Nat):Int) - lo))) _ _ _
   have hi0:0<=Bl c (33+(0+(i:Int))) % (((s0:Nat):Int) - lo):=Int.emod_nonneg _ (by omega)
   have hi1:Bl c (33+(0+(i:Int))) % (((s0:Nat):Int) - lo)<((s0:Nat):Int) - lo:=Int.emod_lt_of_pos _ (by omega)
   generalize Bl c (33+(0+(i:Int))) % (((s0:Nat):Int) - lo)=hx at hi0 hi1 ⊢
   refine ⟨_,rfl,_,rfl,_,_,rfl,rfl,_,_,rfl,by omega,by omega,?_⟩
   show DX 8 (V.int (Bl c (38+(0+(i:Int))))) _ _ _
   generalize Bl c (38+(0+(i:Int)))=nu
   have hpr4:Nb (pz.map fun n:Nat=>V.int (n:Nat)) (r:Int)=some (.int (pz[r]:Nat)):=Af (by rw [List.getElem?_map,List.getElem?_eq_getElem hr]; rfl)
   have hzr:=hz pz[r] (List.getElem_mem hr)
   have m5:0<=nu / 8 % 5/\nu / 8 % 5<5:=⟨Int.emod_nonneg _ (by decide),Int.emod_lt_of_pos _ (by decide)⟩
   have m401:0<=nu / 8 % 401/\nu / 8 % 401<401:=⟨Int.emod_nonneg _ (by decide),Int.emod_lt_of_pos _ (by decide)⟩
   have mm4:0<=nu % 4/\nu % 4<4:=⟨Int.emod_nonneg _ (by decide),Int.emod_lt_of_pos _ (by decide)⟩
   obtain ⟨v,hv,hm⟩:=Jy (xs:=[V.int 0,V.int (nu / 8 % 5 - 2),V.int (((pz[r]:Nat):Int) - 1 - (lo+hx)),V.int (nu / 8 % 401 - 200)]) (i:=nu % 4) mm4.1 mm4.2
   obtain ⟨sh,rfl,hsh0,hsh1⟩:∃ sh:Int,v=.int sh /\ -200<=sh/\sh<=200:=by
    simp only [List.mem_cons,List.mem_singleton,List.not_mem_nil,or_false] at hm
    rcases hm with rfl | rfl | rfl | rfl
    ·exact ⟨_,rfl,by decide,by decide⟩
    ·exact ⟨_,rfl,by omega,by omega⟩
    ·exact ⟨_,rfl,by omega,by omega⟩
    ·exact ⟨_,rfl,by omega,by omega⟩
   refine ⟨_,rfl,_,_,rfl,rfl,⟨by decide,by decide⟩,_,_,rfl,rfl,(by show (0:Int)<5; decide),_,_,rfl,rfl,_,rfl,_,rfl,p,_,_,_,rfl,rfl,.inl (.inl hp4),hpr4,_,_,rfl,rfl,_,rfl,_,_,rfl,rfl,_,rfl,_,_,rfl,rfl,⟨by decide,by decide⟩,_,_,rfl,rfl,(by show (0:Int)<401; decide),_,_,rfl,rfl,by show 4<=sizeLine; decide,fun L5 hL5=>?_⟩
   obtain ⟨H5,eqH,t5,u5⟩:=JS (o:=HO.lst [V.int 0,V.int (nu / 8 % 5 - 2),V.int (((pz[r]:Nat):Int) - 1 - (lo+hx)),V.int (nu / 8 % 401 - 200)]) hL5
   rw [eqH]
   refine ⟨_,rfl,_,_,rfl,rfl,(by show (0:Int)<4; decide),L5,_,_,_,rfl,rfl,.inl (.inl u5),hv,?_⟩
   have hd5:=t5 _ _ hd
   refine ⟨_,rfl,.inl ⟨rfl,_,.inl (.inl hd5)⟩,_,rfl,_,rfl,_,rfl,_,rfl,by show 4<=sizeLine; decide,fun T6 hT6=>?_⟩
   have t6:=Az (o:=HO.tup [V.int (r:Nat),V.int sh,V.int lo,V.int (lo+hx)]) hT6
   have u6:upd H5 T6 (HO.tup [V.int (r:Nat),V.int sh,V.int lo,V.int (lo+hx)]) T6=some (.tup (Qk ⟨r,sh,lo,lo+hx⟩)):=Ak
   generalize upd H5 T6 (HO.tup [V.int (r:Nat),V.int sh,V.int lo,V.int (lo+hx)])=H6 at t6 u6 ⊢
   have hd6:=t6 _ _ hd5
   have hlt:=hpr.length
   refine ⟨D,ts,_,rfl,rfl,hd6,BJ (by omega),?_⟩
   refine ⟨fun b o e=>?_,l++[⟨r,sh,lo,lo+hx⟩],ts++[V.ref T6],Ak,(B_ (Al (t5.trans t6) hpr) hd6).snoc (TupAt.upd ⟨T6,rfl,u6⟩ hd6),by rw [List.length_append,List.length_singleton,hll],fun x hx'=>?_,_,_,_,_,_,_,rfl⟩
   ·rw [BW (BL e hD)]
    exact t6 _ _ (t5 _ _ (s4 _ _ e))
   ·rcases List.mem_append.mp hx' with g | g
    ·exact hg x g
    ·rw [List.mem_singleton.mp g]
     exact ⟨hr,lo0,by show lo<=lo+hx; omega,by show lo+hx<((s0:Nat):Int); omega,hsh0,hsh1⟩
  ·rintro σ H4 ⟨s4,l,ts,hd,hpr,hll,hg,v4,v5,v6,v7,v8,v9,rfl⟩
   exact ⟨_,rfl,q D l ts H4 hD s4 hd hpr (by omega) hg⟩
noncomputable abbrev jL (sz pz:List Nat) (z:Kl):Prop:=z.2.length<=4/\(∀ x∈z.2,Yx (sz.getD z.1.bd 0) pz x)/\(¬ z.1.w = "stop"->z.2=[])
noncomputable def bj:Sp:=fun vs H Q _=>∃ (c:Int) (p pp:Addr) (sz pz:List Nat),vs=[.int c,.ref p,.ref pp]/\H p=some (.lst (sz.map fun n:Nat=>V.int (n:Nat)))/\H pp=some (.lst (pz.map fun n:Nat=>V.int (n:Nat)))/\1<=sz.length/\sz.length<=5/\(∀ s∈sz,1<=s/\s<=61)/\1<=pz.length/\pz.length<=4/\(∀ z∈pz,1<=z/\z<=97)/\∀ (z:Kl) y H',An H H'->z.1.ok sz.length->jL sz pz z->(c % 8=4->z.1.w = "stop")->(∀ Dx o,H Dx=some o->FN Dx H' z y)->Q y H'
theorem S6:Aw ["_law_cell","_law_sizes_here","_law_pipes","_law_many","_law_one","_law_other","_law_shift"] ["_law_cell","_law_sizes_here","_law_pipes"] (Ag gA):=Bo
include N T in
theorem bh:Ar P w K mg base Be 3 aD.fKn aD.dKn ["_law_cell","_law_sizes_here","_law_pipes"] bj:=by
 have GMx:Ar P w K mg base Be 1 aD.fMx aD.dMx ["_law_cell","_law_k"] Ma:=JZ N T
 have GLn:Ar P w K mg base Be 2 aD.fLn aD.dLn ["_law_cell","_law_size","_law_pipes"] ZL:=Zd N T
 refine N.FKn.1.ok S6 (fun vs H Q E h=>?_) (fun cdv A outer s H vs Q E hr h=>?_)
 ·obtain ⟨c,p,pp,sz,pz,rfl,_⟩:=h
  rfl
 ·obtain ⟨c,p,pp,sz,pz,rfl,hp,hpp,h0,h5,hsz,g0,g4,hpz,q⟩:=h
  have hrMx:BV 1 _:=hr.mono (by decide)
  have hrLn:BV 2 _:=hr.mono (by decide)
  refine ⟨_,(Ae (Ax (i:=3) S6.nd rfl (Or.inl rfl) (BP Bb rfl T.len PySem.boot_len (Aa (pv 1) Ac)))
   (Ae (Ax (i:=4) S6.nd rfl (Or.inl rfl) (Aq Bs (Ai GMx hrMx rfl N.FMx.2.2 N.FMx.1.kp N.FMx.2.1 .nil Ao (Aa (Aq Cp (pv 0) Ab) (Aa Ab Ac))) (pv 3)))
   (Ae (Ax (i:=5) S6.nd rfl (Or.inl rfl) (Aq Bs (Ai GMx hrMx rfl N.FMx.2.2 N.FMx.1.kp N.FMx.2.1 .nil Ao (Aa (Aq Cp (pv 0) Ab) (Aa Ab Ac))) (pv 3)))
   (Ae (Bt (BR Gz (Aq Bs (pv 0) Ab) Ab (BZ _)) (Ae (Ax (i:=6) S6.nd rfl (Or.inl rfl) (Df (Aa Ab (Aa Ab (Aa (Ha Fe Ab) (Aa Ab (Aa (Aq Dv (Aq Bs (Ai GMx hrMx rfl N.FMx.2.2 N.FMx.1.kp N.FMx.2.1 .nil Ao (Aa (Aq Cp (pv 0) Ab) (Aa Ab Ac))) Ab) Ab) (Aa (Aq Dv (Aq Bs (Ai GMx hrMx rfl N.FMx.2.2 N.FMx.1.kp N.FMx.2.1 .nil Ao (Aa (Aq Cp (pv 0) Ab) (Aa Ab Ac))) Ab) Ab) Ac))))))))
   (Ah (Av (CV (Aa Br (Aa (pv 4) (Aa (pv 5) (Aa (Am Eb (pv 6) (Aq Bs (Ai GMx hrMx rfl N.FMx.2.2 N.FMx.1.kp N.FMx.2.1 .nil Ao (Aa (Aq Cp (pv 0) Ab) (Aa Ab Ac))) Ab) (fun _ _=>rfl)) Ac)))))))) Bd)
   (Ae (Bt (BR DG (Aq Bs (pv 0) Ab) Ab (BZ _)) (Ah (Av (CV (Aa Br (Aa (pv 4) Ac))))) Bd)
   (Ah (Av (CV (Aa Br (Aa (pv 4) (Aa (Ai GLn hrLn rfl N.FLn.2.2 N.FLn.1.kp N.FLn.2.1 .nil Ao (Aa (Aq Cp (pv 0) Ab) (Aa (Am (A_ (K:=K) rfl) (pv 1) (pv 4) (fun _ _=>rfl)) (Aa (pv 2) Ac)))) Ac))))))))))),?_⟩
  have hlen:(((sz.map fun n:Nat=>V.int (n:Nat)).length:Nat):Int)=((sz.length:Nat):Int):=by rw [List.length_map]
  have hpos:(0:Int)<((sz.length:Nat):Int):=by omega
  refine ⟨_,rfl,p,_,rfl,.inl (.inl (.inl hp)),?_⟩
  rw [hlen]
  obtain ⟨a,ea,ha⟩:∃ a:Nat,Bl (c / 8) 11 % ((sz.length:Nat):Int)=(a:Int)/\a<sz.length:=by
   have g1:0<=Bl (c / 8) 11 % ((sz.length:Nat):Int):=Int.emod_nonneg _ (by omega)
   have g2:Bl (c / 8) 11 % ((sz.length:Nat):Int)<((sz.length:Nat):Int):=Int.emod_lt_of_pos _ hpos
   exact ⟨(Bl (c / 8) 11 % ((sz.length:Nat):Int)).toNat,by omega,by omega⟩
  obtain ⟨b,eb,hb⟩:∃ b:Nat,Bl (c / 8) 12 % ((sz.length:Nat):Int)=(b:Int)/\b<sz.length:=by
   have g1:0<=Bl (c / 8) 12 % ((sz.length:Nat):Int):=Int.emod_nonneg _ (by omega)
   have g2:Bl (c / 8) 12 % ((sz.length:Nat):Int)<((sz.length:Nat):Int):=Int.emod_lt_of_pos _ hpos
   exact ⟨(Bl (c / 8) 12 % ((sz.length:Nat):Int)).toNat,by omega,by omega⟩
  refine ⟨_,rfl,_,_,rfl,rfl,⟨by decide,by decide⟩,_,_,rfl,by decide,by decide,_,rfl,_,_,rfl,rfl,hpos,?_⟩
  show DX 4 (V.int (Bl (c / 8) 11 % ((sz.length:Nat):Int))) _ _ _
  rw [ea]
  refine ⟨_,rfl,_,_,rfl,rfl,⟨by decide,by decide⟩,_,_,rfl,by decide,by decide,_,rfl,_,_,rfl,rfl,hpos,?_⟩
  show DX 5 (V.int (Bl (c / 8) 12 % ((sz.length:Nat):Int))) _ _ _
  rw [eb]
  refine ⟨_,rfl,_,_,rfl,rfl,(by show (0:Int)<8; decide),_,_,rfl,rfl,_,rfl,?_⟩
  refine Dn (fun g=>?_) (fun g=>?_)
  ·refine ⟨_,rfl,_,rfl,_,_,rfl,rfl,⟨by decide,by decide⟩,_,_,rfl,by decide,by decide,_,_,rfl,rfl,(by show (0:Int)<17; decide),_,_,rfl,rfl,_,rfl,_,_,rfl,rfl,⟨by decide,by decide⟩,_,_,rfl,by decide,by decide,_,_,rfl,rfl,(by show (0:Int)<121; decide),_,_,rfl,rfl,by show 6<=sizeLine; decide,fun l hl=>?_⟩
   have m1:0<=Bl (c / 8) 13 % 17/\Bl (c / 8) 13 % 17<17:=⟨Int.emod_nonneg _ (by decide),Int.emod_lt_of_pos _ (by decide)⟩
   have m2:0<=Bl (c / 8) 13 % 121/\Bl (c / 8) 13 % 121<121:=⟨Int.emod_nonneg _ (by decide),Int.emod_lt_of_pos _ (by decide)⟩
   have m3:0<=Bl (c / 8) 14 % 6/\Bl (c / 8) 14 % 6<6:=⟨Int.emod_nonneg _ (by decide),Int.emod_lt_of_pos _ (by decide)⟩
   obtain ⟨v,hv,hm⟩:=Jy (xs:=[V.int 0,V.int 1,V.int (-1),V.int 2,V.int (Bl (c / 8) 13 % 17 - 8),V.int (Bl (c / 8) 13 % 121 - 60)]) (i:=Bl (c / 8) 14 % 6) m3.1 m3.2
   obtain ⟨s0,rfl,hs0,hs1⟩:∃ s0:Int,v=.int s0 /\ -60<=s0/\s0<=60:=by
    simp only [List.mem_cons,List.mem_singleton,List.not_mem_nil,or_false] at hm
    rcases hm with rfl | rfl | rfl | rfl | rfl | rfl
    ·exact ⟨_,rfl,by decide,by decide⟩
    ·exact ⟨_,rfl,by decide,by decide⟩
    ·exact ⟨_,rfl,by decide,by decide⟩
    ·exact ⟨_,rfl,by decide,by decide⟩
    ·exact ⟨_,rfl,by omega,by omega⟩
    ·exact ⟨_,rfl,by omega,by omega⟩
   refine ⟨_,rfl,_,rfl,_,rfl,_,rfl,_,_,rfl,rfl,⟨by decide,by decide⟩,_,_,rfl,by decide,by decide,_,_,rfl,rfl,(by show (0:Int)<6; decide),l,_,_,_,rfl,rfl,.inl (.inl Ak),hv,by show 4<=sizeLine; decide,fun T6 hT6=>?_⟩
   exact q (.cp a b s0,[]) _ _ ((Az hl).trans (Az hT6)) ⟨ha,hb,hs0,hs1⟩ ⟨by show 0<=4; decide,(fun x hx=>nomatch hx),fun _=>rfl⟩ (fun z=>absurd (of_decide_eq_true g) (by omega)) fun Dx o hDx=>⟨[],⟨T6,rfl,Ak⟩,.inl ⟨rfl,rfl,by show ¬ ("coupler" : Str) = "stop"; decide +kernel⟩⟩
  ·refine ⟨_,rfl,_,_,rfl,rfl,(by show (0:Int)<8; decide),rfl,_,rfl,?_⟩
   refine Dn (fun g2=>?_) (fun g2=>?_)
   ·refine ⟨_,rfl,by show 2<=sizeLine; decide,fun T6 hT6=>?_⟩
    exact q (.pl "mute" a,[]) _ _ (Az hT6) ⟨ha,.inl rfl⟩ ⟨by show 0<=4; decide,(fun x hx=>nomatch hx),fun _=>rfl⟩ (fun z=>absurd (V.int.inj (of_decide_eq_true g2)) (by omega)) fun Dx o hDx=>⟨[],⟨T6,rfl,Ak⟩,.inl ⟨rfl,rfl,by show ¬ ("mute" : Str) = "stop"; decide +kernel⟩⟩
   ·have hat:Nb (sz.map fun n:Nat=>V.int (n:Nat)) (a:Int)=some (.int (sz[a]:Nat)):=Af (by rw [List.getElem?_map,List.getElem?_eq_getElem ha]; rfl)
    have hsa:=hsz sz[a] (List.getElem_mem ha)
    refine ⟨_,rfl,_,rfl,_,_,rfl,rfl,⟨by decide,by decide⟩,_,rfl,_,rfl,p,_,_,_,rfl,rfl,.inl (.inl hp),hat,_,rfl,c / 8,sz[a],pp,pz,rfl,hpp,g0,g4,hpz,hsa.1,hsa.2,fun A0 l ts H5 hA s5 hA5 hp5 hl4 hg=>?_⟩
    refine ⟨by show 3<=sizeLine; decide,fun T6 hT6=>?_⟩
    have t6:=Az (o:=HO.tup [V.str "stop",V.int (a:Nat),V.ref A0]) hT6
    refine q (.pl "stop" a,l) _ _ (s5.trans t6) ⟨ha,.inr rfl⟩ ⟨hl4,fun x hx=>?_,fun z=>absurd rfl z⟩ (fun _=>rfl) fun Dx o hDx=>⟨[.ref A0],⟨T6,rfl,Ak⟩,.inr ⟨rfl,A0,ts,rfl,(fun z=>by rw [z,hDx] at hA; cases hA),t6 _ _ hA5,Al t6 hp5⟩⟩
    have:sz.getD a 0=sz[a]:=by rw [List.getD_eq_getElem?_getD,List.getElem?_eq_getElem ha]; rfl
    show Yx (sz.getD a 0) pz x
    rw [this]
    exact hg x hx
noncomputable def cF:Sp:=fun vs H Q _=>∃ (q0 p pp:Addr) (cs:List Int) (sz pz:List Nat),vs=[.ref q0,.ref p,.ref pp]/\H q0=some (.lst (cs.map V.int))/\cs.length<=21/\H p=some (.lst (sz.map fun n:Nat=>V.int (n:Nat)))/\H pp=some (.lst (pz.map fun n:Nat=>V.int (n:Nat)))/\1<=sz.length/\sz.length<=5/\(∀ s∈sz,1<=s/\s<=61)/\1<=pz.length/\pz.length<=4/\(∀ z∈pz,1<=z/\z<=97)/\∀ D (kls:List Kl) us H',H D=none->An H H'->H' D=some (.lst us)->Paired (fun z y=>FN D H' z y) kls us->QZ sz pz kls->kls.length<=21->((∃ c∈cs,c % 8=4)->∃ z∈kls,z.1.w = "stop")->Q (.ref D) H'
theorem T4:Aw ["_law_cells","_law_sizes_here","_law_pipes","_law_knobs_here","_law_cell","_law_knob_here","_law_most"] ["_law_cells","_law_sizes_here","_law_pipes"] (Ag eF):=Bo
include N T in
theorem Zy:Ar P w K mg base Be 4 aD.fKs aD.dKs ["_law_cells","_law_sizes_here","_law_pipes"] cF:=by
 have GKn:Ar P w K mg base Be 3 aD.fKn aD.dKn ["_law_cell","_law_sizes_here","_law_pipes"] bj:=bh N T
 refine N.FKs.1.ok T4 (fun vs H Q E h=>?_) (fun cdv A outer s H vs Q E hr h=>?_)
 ·obtain ⟨q0,p,pp,cs,sz,pz,rfl,_⟩:=h
  rfl
 ·obtain ⟨q0,p,pp,cs,sz,pz,rfl,hq,hc,hp,hpp,h0,h5,hsz,g0,g4,hpz,q⟩:=h
  have hrKn:BV 3 _:=hr.mono (by decide)
  have hu:=Fy hr
  refine ⟨_,(Ae (Ax (i:=3) T4.nd rfl (Or.inl rfl) (Df Ac))
   (Ae (Cq PassesOwn.never rfl (Bg (pv 0)) (Ba (i:=4) T4.nd rfl (Or.inl rfl)) (Ae (Ax (i:=5) T4.nd rfl (Or.inr rfl) (Ai GKn hrKn rfl N.FKn.2.2 N.FKn.1.kp N.FKn.2.1 .nil Ao (Aa (pv 4) (Aa (pv 1) (Aa (pv 2) Ac)))))
   (Ae (Ax (i:=6) T4.nd rfl (Or.inl rfl) (Ek hu (Uy (KR Br Ab (KR Br Ab (KR Br Ab Vj))) rfl rfl (by intro h; cases h) (by decide)) (Am (Aj (K:=K) rfl) (pv 5) Ab (fun _ _=>rfl)) (fun _ _=>rfl)))
   (Ah (Bt (BR Gz (BP Bb rfl T.len PySem.boot_len (Aa (Bu rfl (Bc (osc:=Ag eF) (N:=["_law_cells","_law_sizes_here","_law_pipes","_law_knobs_here","_law_cell","_law_knob_here","_law_most"]) rfl rfl (by decide +kernel)) (Bg (pv 3)) (fun _ _ _ _=>(Ft (BR DG (Am (Aj (K:=K) rfl) (pv 0) Ab (fun _ _=>rfl)) (Am (Aj (K:=K) rfl) (pv 6) Ab (fun _ _=>rfl)) (BZ _)))) (fun _ _ _ _=>(pv 0))) Ac)) (pv 6) (BZ _)) (Ah (DW (Ex PySem.F.plainAttrs_list PySem.F.slot_list_append PySem.F.type_list_append CG (pv 3) (Aa (pv 5) Ac)))) Bd)))))
   (Ah (Av (pv 3))))),?_⟩
  refine ⟨Dd (by simp),fun D hD=>?_⟩
  have s0:=Az (o:=HO.lst []) hD
  have hS:CK K H q0 (cs.map V.int):=.inl (.inl hq)
  refine ⟨_,rfl,q0,rfl,⟨_,s0.seq hS⟩,Dl (K:=K) (a:=q0) (xs:=cs.map V.int) (fun i σ H4=>An H H4/\∃ (kls:List Kl) (us:List V),H4 D=some (.lst us)/\Paired (fun z y=>FN D H4 z y) kls us/\QZ sz pz kls/\kls.length<=i/\(∀ (j:Nat) c,j<i->cs[j]? = some c->c % 8=4->∃ z∈kls,z.1.w = "stop")/\∃ v3 v4 v5,σ=[some (.ref q0),some (.ref p),some (.ref pp),some (.ref D),v3,v4,v5])
   ⟨s0,[],[],Ak,.nil,QZ.nil,Nat.le_refl _,(fun j c hj=>absurd hj (Nat.not_lt_zero _)),_,_,_,rfl⟩ (fun i σ H4 _ h=>h.1.seq hS) ?_ ?_⟩
  ·rintro i x σ H4 hx ⟨s4,kls,us,hd,hpr,hok,hlen,hst,v3,v4,v5,rfl⟩
   rw [List.getElem?_map] at hx
   obtain ⟨c,hci,rfl⟩:=Option.map_eq_some_iff.mp hx
   have hi:i<cs.length:=(List.getElem?_eq_some_iff.mp hci).1
   refine ⟨_,rfl,_,rfl,_,rfl,c,p,pp,sz,pz,rfl,s4 _ _ hp,s4 _ _ hpp,h0,h5,hsz,g0,g4,hpz,fun kb y H5 s5 ho hlw hs4 hy=>?_⟩
   have hy:=hy D _ hd
   obtain ⟨T5,r5,rfl,ht5'⟩:=hy.w0
   refine fun p6 hp6=>⟨Ak,[(Sum.inr "coupler",.int 12),(Sum.inr "mute",.int 5),(Sum.inr "stop",.int 24)],rfl,by decide,?_⟩
   have s6:An H5 (upd (upd H5 p6 (.dK [])) p6 (.dK (GP [] [(Sum.inr "coupler",.int 12),(Sum.inr "mute",.int 5),(Sum.inr "stop",.int 24)]))):=fun b u e=>by rw [BW (BL e hp6),BW (BL e hp6)]; exact e
   have a6:upd (upd H5 p6 (.dK [])) p6 (.dK (GP [] [(Sum.inr "coupler",.int 12),(Sum.inr "mute",.int 5),(Sum.inr "stop",.int 24)])) p6=some (.dK (GP [] [(Sum.inr "coupler",.int 12),(Sum.inr "mute",.int 5),(Sum.inr "stop",.int 24)])):=Ak
   generalize upd (upd H5 p6 (.dK [])) p6 (.dK (GP [] [(Sum.inr "coupler",.int 12),(Sum.inr "mute",.int 5),(Sum.inr "stop",.int 24)]))=H6 at s6 a6 ⊢
   have g:=GF.k (k:=Sum.inr kb.1.w) a6
   rw [Rv (Kb.wo ho)] at g
   refine ⟨_,rfl,T5,_,_,_,rfl,rfl,.inl (.inl (s6 _ _ ht5')),Af (j:=0) rfl,p6,_,rfl,g,?_⟩
   have s46:=s5.trans s6
   have d6:=s46 _ _ hd
   have pr6:Paired (fun z y=>FN D H6 z y) kls us:=Paired.Et hpr fun _ _ q=>q.mono s46
   have hS6:CK K H6 D us:=.inl (.inl d6)
   have hlu:=pr6.length
   refine ⟨_,rfl,D,rfl,⟨_,hS6⟩,Ca (K:=K) (xs:=us) (fun v=>decide (J6 H6 0 v=V.str kb.1.w)) id hS6 (BJ (by omega)) (fun x hx H' hs R k=>?_) (fun x hx _ H' hs R k=>⟨_,rfl,k H' (An.refl H')⟩) (fun D7 H7 hD7 s7 hl7=>?_)⟩
   ·obtain ⟨k1,_,hk1⟩:=DQ pr6 hx
    obtain ⟨T1,r1,rfl,ht1⟩:=hk1.w0
    have e1:J6 H6 0 (.ref T1)=V.str k1.1.w:=by rw [Gr ⟨T1,rfl,ht1⟩ 0]; rfl
    have ht1:=hs _ _ ht1
    have kk:=k H' (An.refl H')
    rw [e1] at kk
    exact ⟨_,rfl,T1,_,_,_,rfl,rfl,.inl (.inl ht1),Af (j:=0) rfl,_,rfl,T5,_,_,_,rfl,rfl,.inl (.inl (hs _ _ (s6 _ _ ht5'))),Af (j:=0) rfl,rfl,_,rfl,kk⟩
   rw [List.map_id] at hl7
   have cnt:=UJ kb.1.w pr6
   refine ⟨D7,_,rfl,.inl (.inl (.inl hl7)),_,rfl,_,_,rfl,rfl,_,rfl,?_⟩
   have d7:=s7 _ _ d6
   have pr7:Paired (fun z y=>FN D H7 z y) kls us:=Paired.Et pr6 fun _ _ q=>q.mono s7
   refine Dn (fun g1=>?_) (fun g1=>?_)
   ·have g2:=of_decide_eq_true g1
    rw [cnt] at g2
    have n1:=QZ.snoc hok ho (by omega) hlw
    refine ⟨_,rfl,.inl ⟨rfl,_,.inl (.inl d7)⟩,_,rfl,D,us,_,rfl,rfl,d7,BJ (by omega),?_⟩
    refine ⟨fun b u e=>?_,kls++[kb],us++[.ref T5],Ak,(Paired.Et pr7 fun _ _ q=>q.upd d7).snoc (((hy.mono s6).mono s7).upd d7),n1,by rw [List.length_append,List.length_singleton]; omega,(fun j c' hj hc' h4=>?_),_,_,_,rfl⟩
    rotate_left
    ·rcases Nat.lt_succ_iff_lt_or_eq.mp hj with h | rfl
     ·obtain ⟨z,hz,hw⟩:=hst j c' h hc' h4
      exact ⟨z,List.mem_append_left _ hz,hw⟩
     ·rw [hci] at hc'
      cases hc'
      exact ⟨kb,by simp,hs4 h4⟩
    rw [BW (BL e hD)]
    exact s7 _ _ (s46 _ _ (s4 _ _ e))
   ·exact ⟨(s4.trans s46).trans s7,kls,us,d7,pr7,hok,by omega,(fun j c' hj hc' h4=>by
     rcases Nat.lt_succ_iff_lt_or_eq.mp hj with h | rfl
     ·exact hst j c' h hc' h4
     ·rw [hci] at hc'
      cases hc'
      exfalso
      refine g1 (decide_eq_true ?_)
      rw [cnt,hs4 h4]
      have hm:Fx "stop" = 24:=by decide +kernel
      have hle:=List.length_filter_le (HR "stop") (kls.map (·.1))
      rw [List.length_map] at hle
      rw [hm]
      omega),_,_,_,rfl⟩
  ·rintro σ H4 ⟨s4,kls,us,hd,hpr,hok,hlen,hst,v3,v4,v5,rfl⟩
   rw [List.length_map] at hlen
   exact ⟨_,rfl,q D kls us H4 hD s4 hd hpr hok (by omega) fun ⟨c,hc',h4⟩=>by
    obtain ⟨j,hj,e⟩:=List.getElem_of_mem hc'
    exact hst j c (by rw [List.length_map]; exact hj) (by rw [← e]; exact List.getElem?_eq_getElem hj) h4⟩
noncomputable abbrev G4 (c:Nat->Str) (pz:List Nat) (wi:Nat->Int):List (Str × Nat × Int):=pz.zipIdx.map fun p=>(c (10+p.2),p.1,wi p.2)
theorem Gn (c:Nat->Str) (pz:List Nat) (wi:Nat->Int):(G4 c pz wi).length=pz.length:=by simp [G4]
theorem Lb {c:Nat->Str} {pz:List Nat} {wi:Nat->Int} {i z:Nat} (h:pz[i]? = some z):(G4 c pz wi)[i]? = some (c (10+i),z,wi i):=by
 rw [List.getElem?_map,List.getElem?_zipIdx,h]
 simp
theorem Fg {c:Nat->Str} {pz:List Nat} {wi:Nat->Int} {i:Nat} {r:Str × Nat × Int} (h:(G4 c pz wi)[i]? = some r):∃ z,pz[i]? = some z/\r=(c (10+i),z,wi i):=by
 have hi:i<pz.length:=by
  have:=(List.getElem?_eq_some_iff.mp h).1
  rw [Gn] at this
  exact this
 rw [Lb (List.getElem?_eq_getElem hi)] at h
 exact ⟨_,List.getElem?_eq_getElem hi,(Option.some.inj h).symm⟩
theorem Ss {c:Nat->Str} {pz:List Nat} {wi:Nat->Int} {i z:Nat} (h:pz[i]? = some z):(G4 c pz wi).take (i+1)=(G4 c pz wi).take i++[(c (10+i),z,wi i)]:=by
 rw [List.take_add_one,Lb h]
 rfl
theorem RJ {c:Nat->Str} {sz:List Nat} {i z:Nat} (h:sz[i]? = some z):(BX c sz).take (i+1)=(BX c sz).take i++[(c i,z)]:=by
 rw [List.take_add_one,CT h]
 rfl
theorem RD {c:Nat->Str} {kbs:List Kb} {i:Nat} {z:Kb} (h:kbs[i]? = some z):(Bw c kbs).take (i+1)=(Bw c kbs).take i++[Jd c i z]:=by
 rw [List.take_add_one,DY h]
 rfl
theorem GJ {c:Nat->Str} {sz:List Nat} {i:Nat} {b:Str × Nat} (h:b∈(BX c sz).take i):∃ j,j<i/\j<sz.length/\b.1=c j:=by
 obtain ⟨j,hj,e⟩:=List.mem_take_iff_getElem.mp h
 have hj2:(BX c sz)[j]? = some b:=by rw [← e]; exact List.getElem?_eq_getElem _
 obtain ⟨z,hz,rfl⟩:=Gf hj2
 exact ⟨j,by omega,(List.getElem?_eq_some_iff.mp hz).1,rfl⟩
theorem Ii {c:Nat->Str} {pz:List Nat} {wi:Nat->Int} {i:Nat} {r:Str × Nat × Int} (h:r∈(G4 c pz wi).take i):∃ j,j<i/\j<pz.length/\r.1=c (10+j):=by
 obtain ⟨j,hj,e⟩:=List.mem_take_iff_getElem.mp h
 have hj2:(G4 c pz wi)[j]? = some r:=by rw [← e]; exact List.getElem?_eq_getElem _
 obtain ⟨z,hz,rfl⟩:=Fg hj2
 exact ⟨j,by omega,(List.getElem?_eq_some_iff.mp hz).1,rfl⟩
theorem Ka {c:Nat->Str} {kbs:List Kb} {i:Nat} {r:R} (h:r∈(Bw c kbs).take i):∃ j,j<i/\j<kbs.length/\r.nm=c (30+j):=by
 obtain ⟨j,hj,e⟩:=List.mem_take_iff_getElem.mp h
 have hj2:(Bw c kbs)[j]? = some r:=by rw [← e]; exact List.getElem?_eq_getElem _
 obtain ⟨z,hz,rfl⟩:=Dm hj2
 exact ⟨j,by omega,(List.getElem?_eq_some_iff.mp hz).1,QV _ _ _⟩
theorem Hd {α:Type} {l:List α} {x:α} (h:x∈l):x∈l.take l.length:=by rw [List.take_length]; exact h
section
variable {c:Nat->Str} {sz pz:List Nat} {wi:Nat->Int} {aB aP aM:Addr}
theorem Oj (F:QL K aB aP aM) (hn:∀ k,k<100->isNm (c k)) (hi:∀ k l,c k=c l->k=l) (h5:sz.length<=5) (hs:∀ s∈sz,1<=s/\s<=61):∀ i,i<=sz.length->Hl K aB aP aM (((BX c sz).take i).map GD) ((BX c sz).take i) [] [] []:=by
 intro i
 induction i with
 | zero=>exact fun _=>Hl.nil
 | succ i ih =>
  intro hl
  have hz:=List.getElem?_eq_getElem (l:=sz) (i:=i) (by omega)
  have g:=hs _ (List.getElem_mem (l:=sz) (n:=i) (by omega))
  rw [RJ hz,List.map_append]
  refine (ih (by omega)).ZF F (hn _ (by omega)) (fun b hb e=>?_) (by rw [List.length_take,Es]; omega) g.1 g.2
  obtain ⟨j,hj,_,e2⟩:=GJ hb
  have:=hi _ _ (e2.symm.trans e)
  omega
theorem UT (F:QL K aB aP aM) (hn:∀ k,k<100->isNm (c k)) (hi:∀ k l,c k=c l->k=l) (h5:sz.length<=5) (h4:pz.length<=4) (hp:∀ z∈pz,1<=z/\z<=97) (hw:∀ i,0<=wi i/\wi i<=1000000000) {rows:List R} {i z:Nat} (hz:pz[i]? = some z) (B:Hl K aB aP aM rows (BX c sz) ((G4 c pz wi).take i) [] []):Hl K aB aP aM (rows++[Ie (c (10+i),z,wi i)]) (BX c sz) ((G4 c pz wi).take (i+1)) [] []:=by
 have hl:=(List.getElem?_eq_some_iff.mp hz).1
 have g:=hp z (List.mem_of_getElem? hz)
 rw [Ss hz]
 refine B.rank F (hn _ (by omega)) (fun b hb e=>?_) (fun r hr e=>?_) (by rw [List.length_take,Gn]; omega) g.1 g.2 (hw i).1 (hw i).2
 ·obtain ⟨j,_,hj,e2⟩:=GJ (Hd hb)
  have:=hi _ _ (e2.symm.trans e)
  omega
 ·obtain ⟨j,hj,_,e2⟩:=Ii hr
  have:=hi _ _ (e2.symm.trans e)
  omega
theorem Xe {kls:List Kl} (w:Str) (i:Nat):(((Bw c (kls.map (·.1))).take i).filter fun r=>decide (V.str r.w=V.str w)).length=(((kls.map (·.1)).take i).filter (HR w)).length:=by
 have e:(Bw c (kls.map (·.1))).map (·.w)=(kls.map (·.1)).map (·.w):=by
  refine List.ext_getElem? fun j=>?_
  rw [List.getElem?_map,List.getElem?_map]
  cases h:(kls.map (·.1))[j]? with
  | none=>rw [List.getElem?_eq_none (by rw [Gh]; exact List.getElem?_eq_none_iff.mp h)]; rfl
  | some z=>rw [DY h]; exact congrArg some (Gu _ _ _)
 have f:∀ {α:Type} (g:α->Str) (l:List α),(l.filter fun r=>decide (V.str (g r)=V.str w)).length=((l.map g).filter fun s=>decide (V.str s=V.str w)).length:=fun g l=>by
  rw [List.filter_map,List.length_map]
  rfl
 rw [f (fun r:R=>r.w),f (fun z:Kb=>z.w),List.map_take,List.map_take,e]
theorem Ud (F:QL K aB aP aM) (hn:∀ k,k<100->isNm (c k)) (hi:∀ k l,c k=c l->k=l) (h5:sz.length<=5) (h4:pz.length<=4) {kls:List Kl} (hk:QZ sz pz kls) (hkl:kls.length<=21) {rows:List R} {ls:List (List Ln)} {i:Nat} {z:Kb} (hz:(kls.map (·.1))[i]? = some z) (B:Hl K aB aP aM rows (BX c sz) (G4 c pz wi) ((Bw c (kls.map (·.1))).take i) ls):Hl K aB aP aM (rows++[Jd c i z]) (BX c sz) (G4 c pz wi) ((Bw c (kls.map (·.1))).take (i+1)) (ls++[[]]):=by
 have hl:=(List.getElem?_eq_some_iff.mp hz).1
 rw [List.length_map] at hl
 have ho:=hk.ok z (List.mem_of_getElem? hz)
 have hroom:=hk.room i z hz
 rw [← Xe (c:=c)] at hroom
 rw [RD hz]
 have f1:∀ b∈BX c sz,b.1 ≠ c (30+i):=fun b hb e=>by
  obtain ⟨j,_,hj,e2⟩:=GJ (Hd hb)
  have:=hi _ _ (e2.symm.trans e)
  omega
 have f2:∀ r∈G4 c pz wi,r.1 ≠ c (30+i):=fun r hr e=>by
  obtain ⟨j,_,hj,e2⟩:=Ii (Hd hr)
  have:=hi _ _ (e2.symm.trans e)
  omega
 have f3:∀ k∈(Bw c (kls.map (·.1))).take i,k.nm ≠ c (30+i):=fun r hr e=>by
  obtain ⟨j,hj,_,e2⟩:=Ka hr
  have:=hi _ _ (e2.symm.trans e)
  omega
 have mb:∀ {a:Nat} (ha:a<sz.length),(c a,sz[a])∈BX c sz:=fun ha=>List.mem_of_getElem? (CT (List.getElem?_eq_getElem ha))
 cases z with
 | cp a b s0 =>
  obtain ⟨ha,hb,hs0,hs1⟩:=ho
  have hm:Fx "coupler" = 12:=by decide +kernel
  have hroom':(((Bw c (kls.map (·.1))).take i).filter fun r=>decide (V.str r.w=V.str "coupler")).length<Fx "coupler":=hroom
  exact B.VP F (hn _ (by omega)) f1 f2 f3 (by omega) (hn _ (by omega)) (mb ha) (hn _ (by omega)) (mb hb) hs0 hs1
 | pl w0 a =>
  obtain ⟨ha,hw⟩:=ho
  exact B.plain F (by rcases hw with e | e; exact .inr e; exact .inl e) (hn _ (by omega)) f1 f2 f3 hroom (hn _ (by omega)) (mb ha)
end
theorem PP (c:Nat->Str) (sz:List Nat):(BX c sz).map GD=(List.range sz.length).map fun i=>GD (c i,sz.getD i 0):=by
 refine List.ext_getElem? fun i=>?_
 rw [List.getElem?_map,List.getElem?_map]
 by_cases hi:i<sz.length
 ·rw [CT (List.getElem?_eq_getElem hi),List.getElem?_range hi]
  show some (GD (c i,sz[i]))=some (GD (c i,sz.getD i 0))
  rw [List.getD_eq_getElem?_getD,List.getElem?_eq_getElem hi]
  rfl
 ·rw [List.getElem?_eq_none (by rw [Es]; omega),List.getElem?_eq_none (l:=List.range _) (by rw [List.length_range]; omega)]
  rfl
noncomputable abbrev Kd (c:Int) (i:Nat):Int:=Bl c (i:Int) % 10 ^ (9:Int).toNat
theorem aH (c:Int) (i:Nat):0<=Kd c i/\Kd c i<=1000000000:=by
 have h1:0<=Kd c i:=Int.emod_nonneg _ (by decide)
 have h2:Kd c i<10 ^ (9:Int).toNat:=Int.emod_lt_of_pos _ (by decide)
 have e:(10:Int) ^ (9:Int).toNat=1000000000:=by decide
 rw [e] at h2
 omega
noncomputable def Z9 (K:PySem.W.Frag) (aB aP aM:Addr):Sp:=fun vs H Q _=>∃ (c:Int) (p pp q0 Dx:Addr) (sz pz:List Nat) (kls:List Kl) (us:List V),vs=[.int c,.ref p,.ref pp,.ref q0]/\H p=some (.lst (sz.map fun n:Nat=>V.int (n:Nat)))/\H pp=some (.lst (pz.map fun n:Nat=>V.int (n:Nat)))/\1<=sz.length/\sz.length<=5/\(∀ s∈sz,1<=s/\s<=61)/\1<=pz.length/\pz.length<=4/\(∀ z∈pz,1<=z/\z<=97)/\H q0=some (.lst us)/\Paired (fun z y=>FN Dx H z y) kls us/\QZ sz pz kls/\kls.length<=21/\QL K aB aP aM /\
 ∀ D rows vs' H',H D=none->An H H'->H' D=some (.lst vs')->Paired (fun (r:R) v=>TupAt H' r.v v) rows vs'->Hl K aB aP aM rows (BX (DN c) sz) (G4 (DN c) pz (Kd c)) (Bw (DN c) (kls.map (·.1))) (kls.map (·.2))->rows.length<=150->Q (.ref D) H'
theorem Ke:Aw ["_law_cell","_law_sizes_here","_law_pipes","_law_knobs_here","_law_rows_here","_law_k","_law_name_here","_law_board","_law_rank","_law_shift","_law_low","_law_high"] ["_law_cell","_law_sizes_here","_law_pipes","_law_knobs_here"] (Ag fU):=Bo
include N T in
theorem Z0:Ar P w K mg base Be 3 aD.fRw aD.dRw ["_law_cell","_law_sizes_here","_law_pipes","_law_knobs_here"] (Z9 K aB aP aM):=by
 have GNa:Ar P w K mg base Be 2 aD.fNa aD.dNa ["_law_cell","_law_k"] cG:=Zx N T
 have GMx:Ar P w K mg base Be 1 aD.fMx aD.dMx ["_law_cell","_law_k"] Ma:=JZ N T
 refine N.FRw.1.ok Ke (fun vs H Q E h=>?_) (fun cdv A outer s H vs Q E hr h=>?_)
 ·refine byC fun hng=>?_
  obtain ⟨c,p,pp,q0,Dx,sz,pz,kls,us,rfl,_⟩:=h
  refine hng ?_
  rfl
 ·refine byC fun hng=>?_
  obtain ⟨c,p,pp,q0,Dx,sz,pz,kls,us,rfl,hp,hpp,h0,h5,hsz,g0,g4,hpz,hq,hpr,hk,hkl,F0,q⟩:=h
  refine hng ?_
  have hrNa:BV 2 _:=hr.mono (by decide)
  have hrMx:BV 1 _:=hr.mono (by decide)
  refine ⟨_,(Ae (Gk (i:=4) Ke.nd rfl rfl rfl (Bc (osc:=Ag fU) (N:=["_law_cell","_law_sizes_here","_law_pipes","_law_knobs_here","_law_rows_here","_law_k","_law_name_here","_law_board","_law_rank","_law_shift","_law_low","_law_high"]) rfl rfl (by decide +kernel)) (CN rfl T.range (Aa (BP Bb rfl T.len PySem.boot_len (Aa (pv 1) Ac)) Ac)) (fun _ _ _ _=>Cd) (fun _ _ _ _=>(CV (Aa Br (Aa (Ai GNa hrNa rfl N.FNa.2.2 N.FNa.1.kp N.FNa.2.1 .nil Ao (Aa (pv 1) (Aa (pv 0) Ac))) (Aa (Am (A_ (K:=K) rfl) (pv 2) (pv 0) (fun _ _=>rfl)) Ac))))))
   (Ae (Cq PassesOwn.never rfl (CN rfl T.range (Aa (BP Bb rfl T.len PySem.boot_len (Aa (pv 2) Ac)) Ac)) (Ba (i:=5) Ke.nd rfl (Or.inl rfl)) (Ah (DW (Ex PySem.F.plainAttrs_list PySem.F.slot_list_append PySem.F.type_list_append CG (pv 4) (Aa (CV (Aa Br (Aa (Ai GNa hrNa rfl N.FNa.2.2 N.FNa.1.kp N.FNa.2.1 .nil Ao (Aa (pv 0) (Aa (Aq Bp Ab (pv 5)) Ac))) (Aa (Am (A_ (K:=K) rfl) (pv 2) (pv 5) (fun _ _=>rfl)) (Aa (Aq Bs (Ai GMx hrMx rfl N.FMx.2.2 N.FMx.1.kp N.FMx.2.1 .nil Ao (Aa (pv 0) (Aa (pv 5) Ac))) (Aq S9 Ab Ab)) Ac))))) Ac)))))
   (Ae (Cq PassesOwn.never rfl (CN rfl T.range (Aa (BP Bb rfl T.len PySem.boot_len (Aa (pv 3) Ac)) Ac)) (Ba (i:=5) Ke.nd rfl (Or.inl rfl)) (Ae (Ax (i:=6) Ke.nd rfl (Or.inl rfl) (Ai GNa hrNa rfl N.FNa.2.2 N.FNa.1.kp N.FNa.2.1 .nil Ao (Aa (pv 0) (Aa (Aq Bp Ab (pv 5)) Ac))))
   (Ae (Ax (i:=7) Ke.nd rfl (Or.inl rfl) (Ai GNa hrNa rfl N.FNa.2.2 N.FNa.1.kp N.FNa.2.1 .nil Ao (Aa (pv 0) (Aa (Am (Aj (K:=K) rfl) (Am (A_ (K:=K) rfl) (pv 3) (pv 5) (fun _ _=>rfl)) Ab (fun _ _=>rfl)) Ac))))
   (Ae (Bt (BR DG (Am (Aj (K:=K) rfl) (Am (A_ (K:=K) rfl) (pv 3) (pv 5) (fun _ _=>rfl)) Ab (fun _ _=>rfl)) Br (BZ _)) (Ah (DW (Ex PySem.F.plainAttrs_list PySem.F.slot_list_append PySem.F.type_list_append CG (pv 4) (Aa (CV (Aa Br (Aa (pv 6) (Aa (pv 7) (Aa (Ai GNa hrNa rfl N.FNa.2.2 N.FNa.1.kp N.FNa.2.1 .nil Ao (Aa (pv 0) (Aa (Am (Aj (K:=K) rfl) (Am (A_ (K:=K) rfl) (pv 3) (pv 5) (fun _ _=>rfl)) Ab (fun _ _=>rfl)) Ac))) (Aa (Am (Aj (K:=K) rfl) (Am (A_ (K:=K) rfl) (pv 3) (pv 5) (fun _ _=>rfl)) Ab (fun _ _=>rfl)) Ac)))))) Ac)))) (Ah (DW (Ex PySem.F.plainAttrs_list PySem.F.slot_list_append PySem.F.type_list_append CG (pv 4) (Aa (CV (Aa (Am (Aj (K:=K) rfl) (Am (A_ (K:=K) rfl) (pv 3) (pv 5) (fun _ _=>rfl)) Ab (fun _ _=>rfl)) (Aa (pv 6) (Aa (pv 7) Ac)))) Ac)))))
   (Ah (Bt (BR DG (Am (Aj (K:=K) rfl) (Am (A_ (K:=K) rfl) (pv 3) (pv 5) (fun _ _=>rfl)) Ab (fun _ _=>rfl)) Br (BZ _)) (Ah (Cq PassesOwn.never rfl (Bg (Am (Aj (K:=K) rfl) (Am (A_ (K:=K) rfl) (pv 3) (pv 5) (fun _ _=>rfl)) Ab (fun _ _=>rfl))) (GQ rfl (Bf (Ba (i:=8) Ke.nd rfl (Or.inl rfl)) (Bf (Ba (i:=9) Ke.nd rfl (Or.inl rfl)) (Bf (Ba (i:=10) Ke.nd rfl (Or.inl rfl)) (Bf (Ba (i:=11) Ke.nd rfl (Or.inl rfl)) Du))))) (Ah (DW (Ex PySem.F.plainAttrs_list PySem.F.slot_list_append PySem.F.type_list_append CG (pv 4) (Aa (CV (Aa Br (Aa (Ai GNa hrNa rfl N.FNa.2.2 N.FNa.1.kp N.FNa.2.1 .nil Ao (Aa (pv 0) (Aa (Aq Bp Ab (pv 8)) Ac))) (Aa (pv 9) (Aa (pv 10) (Aa (pv 11) Ac)))))) Ac)))))) Bd))))))
   (Ah (Av (pv 4)))))),?_⟩
  have hlen:((sz.map fun n:Nat=>V.int (n:Nat)).length:Nat)=sz.length:=by rw [List.length_map]
  have hlenp:((pz.map fun n:Nat=>V.int (n:Nat)).length:Nat)=pz.length:=by rw [List.length_map]
  have hnm:∀ k,k<100->isNm (DN c k):=fun k h=>Zq c (by omega)
  have hin:∀ k l,DN c k=DN c l->k=l:=fun k l h=>Jp h
  refine ⟨_,rfl,p,_,rfl,.inl (.inl (.inl hp)),_,rfl,by omega,by omega,?_⟩
  rw [Int.toNat_natCast]
  refine Kp (n:=(sz.map fun n:Nat=>V.int (n:Nat)).length) (fun i=>(GD (DN c i,sz.getD i 0)).v) (BJ (by omega)) (fun i hi H1 s1 R k=>?_) (fun D H1 vs1 hD s1 hl1 hv1=>?_)
  ·rw [hlen] at hi
   refine ⟨_,rfl,_,rfl,c,i,rfl,by omega,fun H2 s2=>?_⟩
   refine ⟨_,rfl,_,rfl,p,_,_,.int (sz.getD i 0:Nat),rfl,rfl,.inl (.inl (s2 _ _ (s1 _ _ hp))),Af (by rw [List.getElem?_map,List.getElem?_eq_getElem hi,List.getD_eq_getElem?_getD,List.getElem?_eq_getElem hi]; rfl),by show 3<=sizeLine; decide,fun T6 hT6=>?_⟩
   exact k _ _ (s2.trans (Az hT6)) ⟨T6,rfl,Ak⟩
  rw [hlen] at hv1
  have hv1':Paired (fun (r:R) v=>TupAt H1 r.v v) ((BX (DN c) sz).map GD) vs1:=by
   rw [PP]
   exact By (F:=fun (r:R) v=>TupAt H1 r.v v) (fun i=>GD (DN c i,sz.getD i 0)) hv1
  clear hv1
  have B0:=Oj (K:=K) (aB:=aB) (aP:=aP) (aM:=aM) F0 hnm hin h5 hsz sz.length (Nat.le_refl _)
  rw [List.take_of_length_le (by rw [Es]; exact Nat.le_refl _)] at B0
  refine ⟨_,rfl,pp,_,rfl,.inl (.inl (.inl (s1 _ _ hpp))),_,rfl,by omega,by omega,?_⟩
  rw [Int.toNat_natCast]
  refine Gi (lo:=0) (n:=(pz.map fun n:Nat=>V.int (n:Nat)).length) (fun i σ H4=>An H H4/\∃ (rows:List R) (vs4:List V),H4 D=some (.lst vs4)/\Paired (fun (r:R) v=>TupAt H4 r.v v) rows vs4/\Hl K aB aP aM rows (BX (DN c) sz) ((G4 (DN c) pz (Kd c)).take i) [] []/\rows.length=sz.length+i/\∃ v5 v6 v7 v8 v9 v10 v11,σ=[some (.int c),some (.ref p),some (.ref pp),some (.ref q0),some (.ref D),v5,v6,v7,v8,v9,v10,v11])
   ⟨s1,_,vs1,hl1,hv1',B0,by rw [List.length_map,Es,Nat.add_zero],_,_,_,_,_,_,_,rfl⟩ ?_ ?_
  ·rintro i σ H4 hi ⟨s4,rows,vs4,hd,hv4,B,hrl,v5,v6,v7,v8,v9,v10,v11,rfl⟩
   rw [hlenp] at hi
   have ei:((0:Int)+(i:Int))=(i:Int):=Int.zero_add _
   have hz:=List.getElem?_eq_getElem hi
   refine ⟨_,rfl,.inl ⟨rfl,_,.inl (.inl hd)⟩,_,rfl,_,rfl,_,_,rfl,rfl,c,10+i,?_,by omega,fun H5 s5=>?_⟩
   ·rw [ei]
    rfl
   refine ⟨_,rfl,_,rfl,pp,_,_,.int (pz[i]:Nat),rfl,rfl,.inl (.inl (s5 _ _ (s4 _ _ hpp))),(by rw [ei]; exact Af (by rw [List.getElem?_map,hz]; rfl)),_,rfl,_,rfl,_,_,rfl,by omega,by omega,_,_,rfl,rfl,⟨by decide,by decide,by decide⟩,_,_,rfl,rfl,(by show (0:Int)<10 ^ (9:Int).toNat; decide),by show 4<=sizeLine; decide,fun T6 hT6=>?_⟩
   have t6:=Az (o:=HO.tup [V.str "rank",V.str (DN c (10+i)),V.int (pz[i]:Nat),V.int (Bl c (0+(i:Int)) % 10 ^ (9:Int).toNat)]) hT6
   have u6:upd H5 T6 (HO.tup [V.str "rank",V.str (DN c (10+i)),V.int (pz[i]:Nat),V.int (Bl c (0+(i:Int)) % 10 ^ (9:Int).toNat)]) T6=some (.tup (Ie (DN c (10+i),pz[i],Kd c i)).v):=by rw [Ak,ei]
   generalize upd H5 T6 (HO.tup [V.str "rank",V.str (DN c (10+i)),V.int (pz[i]:Nat),V.int (Bl c (0+(i:Int)) % 10 ^ (9:Int).toNat)])=H6 at t6 u6 ⊢
   have hd6:=t6 _ _ (s5 _ _ hd)
   have hvl:=hv4.length
   refine ⟨D,vs4,_,rfl,rfl,hd6,BJ (by omega),?_⟩
   refine ⟨fun b o e=>?_,_,vs4++[V.ref T6],Ak,(B_ (Al (s5.trans t6) hv4) hd6).snoc (TupAt.upd ⟨T6,rfl,u6⟩ hd6),UT F0 hnm hin h5 g4 hpz (aH c) hz B,by rw [List.length_append,List.length_singleton]; omega,_,_,_,_,_,_,_,rfl⟩
   rw [BW (BL e hD)]
   exact t6 _ _ (s5 _ _ (s4 _ _ e))
  rintro σ H3 ⟨s3,rows0,vs3,hd3,hv3,B3,hrl3,v5,v6,v7,v8,v9,v10,v11,rfl⟩
  rw [hlenp,List.take_of_length_le (by rw [Gn]; exact Nat.le_refl _)] at B3
  rw [hlenp] at hrl3
  have hlu:=hpr.length
  refine ⟨_,rfl,q0,_,rfl,.inl (.inl (.inl (s3 _ _ hq))),_,rfl,by omega,by omega,?_⟩
  rw [Int.toNat_natCast]
  have hnd:((G4 (DN c) pz (Kd c)).map (·.1)).Nodup:=by
   refine Hg fun i j x hi hj=>?_
   rw [List.getElem?_map] at hi hj
   obtain ⟨a,ha,e1⟩:=Option.map_eq_some_iff.mp hi
   obtain ⟨b,hb,e2⟩:=Option.map_eq_some_iff.mp hj
   obtain ⟨_,_,rfl⟩:=Fg ha
   obtain ⟨_,_,rfl⟩:=Fg hb
   have:=Jp (e1.trans e2.symm)
   omega
  refine Gi (lo:=0) (n:=us.length) (fun i σ H4=>An H H4/\∃ (rows:List R) (vs4:List V),H4 D=some (.lst vs4)/\Paired (fun (r:R) v=>TupAt H4 r.v v) rows vs4/\Hl K aB aP aM rows (BX (DN c) sz) (G4 (DN c) pz (Kd c)) ((Bw (DN c) (kls.map (·.1))).take i) ((kls.map (·.2)).take i)/\rows.length<=9+5 * i/\∃ v5 v6 v7 v8 v9 v10 v11,σ=[some (.int c),some (.ref p),some (.ref pp),some (.ref q0),some (.ref D),v5,v6,v7,v8,v9,v10,v11])
   ⟨s3,rows0,vs3,hd3,hv3,B3,by omega,_,_,_,_,_,_,_,rfl⟩ ?_ ?_
  ·rintro i σ H4 hi ⟨s4,rows,vs4,hd,hv4,B,hrl,w5,w6,w7,w8,w9,w10,w11,rfl⟩
   have hik:i<kls.length:=by omega
   have hkb:=List.getElem?_eq_getElem hik
   obtain ⟨y,hy,hty⟩:=Bh hpr hkb
   have hz1:(kls.map (·.1))[i]? = some (kls[i]).1:=by rw [List.getElem?_map,hkb]; rfl
   have hz2:(kls.map (·.2))[i]? = some (kls[i]).2:=by rw [List.getElem?_map,hkb]; rfl
   have hok:=hk.ok _ (List.mem_of_getElem? hz1)
   have hlw:=hk.ln _ (List.mem_of_getElem? hkb)
   have BK:=Ud F0 hnm hin h5 g4 hk hkl hz1 B
   generalize kls[i]=kb at hkb hty hok hz1 hz2 hlw BK
   have etk:∀ {l:List Ln},l=kb.2->(kls.map (·.2)).take i++[l]=(kls.map (·.2)).take (i+1):=fun e=>by rw [List.take_add_one,hz2,e]; rfl
   have ei:((0:Int)+(i:Int))=(i:Int):=Int.zero_add _
   have hy':∀ {H5:Hp},An H H5->CK K H5 q0 us/\Nb us (0+(i:Int))=some y:=fun s5=>⟨.inl (.inl (s5 _ _ hq)),by rw [ei]; exact Af hy⟩
   refine byC fun hng=>?_
   obtain ⟨ex,⟨T1,rfl,ht1⟩,hex⟩:=hty
   refine hng ?_
   have hvl:=hv4.length
   refine ⟨_,rfl,_,rfl,_,_,rfl,rfl,c,30+i,?_,by omega,fun H5 s5=>?_⟩
   ·rw [ei]
    rfl
   have s05:=s4.trans s5
   obtain ⟨kb,ll⟩:=kb
   cases kb with
   | cp a b s0 =>
    obtain ⟨ha,hb,_,_⟩:=hok
    obtain ⟨rfl,hl0⟩:ex=[]/\ll=[]:=by
     rcases hex with ⟨e1,e2,_⟩ | ⟨e,_⟩
     ·exact ⟨e1,e2⟩
     ·exact absurd (show ("coupler" : Str) = "stop" from e) (by decide +kernel)
    refine ⟨_,rfl,_,rfl,_,rfl,q0,us,_,_,rfl,rfl,(hy' s05).1,(hy' s05).2,T1,_,_,_,rfl,rfl,.inl (.inl (s05 _ _ ht1)),Af (j:=1) rfl,c,a,rfl,by omega,fun H6 s6=>?_⟩
    have s06:=s05.trans s6
    refine ⟨_,rfl,_,rfl,q0,us,_,_,rfl,rfl,(hy' s06).1,(hy' s06).2,T1,_,_,_,rfl,rfl,.inl (.inl (s06 _ _ ht1)),Af (j:=0) rfl,rfl,_,rfl,CW ?_⟩
    have hd6:=s6 _ _ (s5 _ _ hd)
    refine ⟨_,rfl,.inl ⟨rfl,_,.inl (.inl hd6)⟩,_,rfl,_,rfl,_,rfl,_,rfl,_,rfl,q0,us,_,_,rfl,rfl,(hy' s06).1,(hy' s06).2,T1,_,_,_,rfl,rfl,.inl (.inl (s06 _ _ ht1)),Af (j:=2) rfl,c,b,rfl,by omega,fun H7 s7=>?_⟩
    have s07:=s06.trans s7
    refine ⟨_,rfl,_,rfl,q0,us,_,_,rfl,rfl,(hy' s07).1,(hy' s07).2,T1,_,_,_,rfl,rfl,.inl (.inl (s07 _ _ ht1)),Af (j:=3) rfl,by show 5<=sizeLine; decide,fun T8 hT8=>?_⟩
    have t8:=Az (o:=HO.tup (Jd (DN c) i (Kb.cp a b s0)).v) hT8
    have u8:upd H7 T8 (HO.tup (Jd (DN c) i (Kb.cp a b s0)).v) T8=some (.tup (Jd (DN c) i (Kb.cp a b s0)).v):=Ak
    refine ⟨D,vs4,_,rfl,rfl,t8 _ _ (s7 _ _ hd6),BJ (by omega),?_⟩
    have s48:=s5.trans (s6.trans (s7.trans t8))
    have hd8:=s48 _ _ hd
    have s09:An H (upd (upd H7 T8 (HO.tup (Jd (DN c) i (Kb.cp a b s0)).v)) D (.lst (vs4++[V.ref T8]))):=fun b o e=>by
     rw [BW (BL e hD)]
     exact s48 _ _ (s4 _ _ e)
    refine ⟨_,rfl,_,rfl,q0,us,_,_,rfl,rfl,(hy' s09).1,(hy' s09).2,T1,_,_,_,rfl,rfl,.inl (.inl (s09 _ _ ht1)),Af (j:=0) rfl,rfl,_,rfl,Bj ?_⟩
    exact ⟨s09,_,_,Ak,(B_ (Al s48 hv4) hd8).snoc (TupAt.upd ⟨T8,rfl,u8⟩ hd8),by rw [← etk hl0.symm]; exact BK,by rw [List.length_append,List.length_singleton]; omega,_,_,_,_,_,_,_,rfl⟩
   | pl w0 a =>
    obtain ⟨ha,hw⟩:=hok
    have nw:¬ V.str w0=V.str "coupler":=by rcases hw with rfl | rfl <;> decide +kernel
    have T1e:∀ {H':Hp},An H H'->H' T1=some (.tup (V.str w0::V.int (a:Nat)::ex)):=fun s=>s _ _ ht1
    refine ⟨_,rfl,_,rfl,_,rfl,q0,us,_,_,rfl,rfl,(hy' s05).1,(hy' s05).2,T1,_,_,_,rfl,rfl,.inl (.inl (T1e s05)),Af (j:=1) rfl,c,a,rfl,by omega,fun H6 s6=>?_⟩
    have s06:=s05.trans s6
    refine ⟨_,rfl,_,rfl,q0,us,_,_,rfl,rfl,(hy' s06).1,(hy' s06).2,T1,_,_,_,rfl,rfl,.inl (.inl (T1e s06)),Af (j:=0) rfl,rfl,_,rfl,?_⟩
    rw [decide_eq_false nw]
    refine Bj ?_
    have hd6:=s6 _ _ (s5 _ _ hd)
    refine ⟨_,rfl,.inl ⟨rfl,_,.inl (.inl hd6)⟩,_,rfl,_,rfl,q0,us,_,_,rfl,rfl,(hy' s06).1,(hy' s06).2,T1,_,_,_,rfl,rfl,.inl (.inl (T1e s06)),Af (j:=0) rfl,_,rfl,_,rfl,by show 3<=sizeLine; decide,fun T8 hT8=>?_⟩
    have t8:=Az (o:=HO.tup [V.str w0,V.str (DN c (30+i)),V.str (DN c a)]) hT8
    have u8:upd H6 T8 (HO.tup [V.str w0,V.str (DN c (30+i)),V.str (DN c a)]) T8=some (.tup (Jd (DN c) i (Kb.pl w0 a)).v):=Ak
    refine ⟨D,vs4,_,rfl,rfl,t8 _ _ hd6,BJ (by omega),?_⟩
    have s48:=s5.trans (s6.trans t8)
    have hd8:=s48 _ _ hd
    have s09:An H (upd (upd H6 T8 (HO.tup [V.str w0,V.str (DN c (30+i)),V.str (DN c a)])) D (.lst (vs4++[V.ref T8]))):=fun b o e=>by
     rw [BW (BL e hD)]
     exact s48 _ _ (s4 _ _ e)
    have hv9:=(B_ (ws:=vs4++[V.ref T8]) (Al s48 hv4) hd8).snoc (TupAt.upd (ws:=vs4++[V.ref T8]) (D:=D) ⟨T8,rfl,u8⟩ hd8)
    have hd9:upd (upd H6 T8 (HO.tup [V.str w0,V.str (DN c (30+i)),V.str (DN c a)])) D (.lst (vs4++[V.ref T8])) D=some (.lst (vs4++[V.ref T8])):=Ak
    clear u8 t8 s48 hd8 hd6
    generalize upd (upd H6 T8 (HO.tup [V.str w0,V.str (DN c (30+i)),V.str (DN c a)])) D (.lst (vs4++[V.ref T8]))=H9 at s09 hv9 hd9 ⊢
    refine ⟨_,rfl,_,rfl,q0,us,_,_,rfl,rfl,(hy' s09).1,(hy' s09).2,T1,_,_,_,rfl,rfl,.inl (.inl (T1e s09)),Af (j:=0) rfl,rfl,_,rfl,?_⟩
    rcases hex with ⟨rfl,hl0,hns⟩ | ⟨hst,A,ts,rfl,_,hA,hts⟩
    ·have hns':¬ V.str w0=V.str "stop":=fun e=>hns (V.str.inj e)
     rw [decide_eq_false hns']
     refine Bj ?_
     exact ⟨s09,_,_,hd9,hv9,by rw [← etk (show ([]:List Ln)=ll from hl0.symm)]; exact BK,by rw [List.length_append,List.length_singleton]; omega,_,_,_,_,_,_,_,rfl⟩
    ·have hst':w0 = "stop":=hst
     subst hst'
     rw [decide_eq_true rfl]
     refine CW ?_
     have hA9:=s09 _ _ hA
     have hS9:CK K H9 A ts:=.inl (.inl hA9)
     have hAD:¬ A=D:=fun z=>by rw [z,hD] at hA; cases hA
     have hl4:=hlw.1
     have hlw2:=hlw.2.1
     have htl:=hts.length
     have hsa:sz.getD a 0=sz[a]:=by rw [List.getD_eq_getElem?_getD,List.getElem?_eq_getElem ha]; rfl
     have hs61:=hsz sz[a] (List.getElem_mem ha)
     have mb:(DN c a,sz[a])∈BX (DN c) sz:=List.mem_of_getElem? (CT (List.getElem?_eq_getElem ha))
     refine ⟨_,rfl,_,rfl,q0,us,_,_,rfl,rfl,(hy' s09).1,(hy' s09).2,T1,_,_,_,rfl,rfl,.inl (.inl (T1e s09)),Af (j:=2) rfl,A,rfl,⟨_,hS9⟩,Dl (K:=K) (a:=A) (xs:=ts) (fun j σ H4=>An H H4/\∃ (rows:List R) (vs4:List V),H4 D=some (.lst vs4)/\Paired (fun (r:R) v=>TupAt H4 r.v v) rows vs4/\Hl K aB aP aM rows (BX (DN c) sz) (G4 (DN c) pz (Kd c)) ((Bw (DN c) (kls.map (·.1))).take (i+1)) ((kls.map (·.2)).take i++[ll.take j])/\Tl rows (DN c a) j/\rows.length<=9+5 * i+1+j/\∃ v8 v9 v10 v11,σ=[some (.int c),some (.ref p),some (.ref pp),some (.ref q0),some (.ref D),some (.int (0+(i:Int))),some (.str (DN c (30+i))),some (.str (DN c a)),v8,v9,v10,v11])
      ⟨s09,_,_,hd9,hv9,BK,Tl.stop rows _ _,by rw [List.length_append,List.length_singleton]; omega,_,_,_,_,rfl⟩ (fun j σ H4 _ h=>.inl (.inl (h.1 _ _ hA))) ?_ ?_⟩
     ·rintro j x σ H10 hj ⟨s10,rows',vs10,hd10,hv10,B10,T10,hr10,v8,v9,v10,v11,rfl⟩
      refine byC fun hng=>?_
      obtain ⟨ln,hln,T2,rfl,ht2⟩:=En hts hj
      refine hng ?_
      have hg:=hlw2 ln (List.mem_of_getElem? hln)
      have hg1:=hg.r
      have hg2:=hg.lo
      have hg3:=hg.le
      have hg4:=hg.hi
      have hjl:=(List.getElem?_eq_some_iff.mp hln).1
      have hjl4:j<4:=by omega
      rw [show sz.getD (Kb.pl "stop" a).bd 0=sz[a] from hsa] at hg4
      refine ⟨T2,_,rfl,.inl (.inl (s10 _ _ ht2)),rfl,_,_,rfl,_,_,rfl,_,_,rfl,_,_,rfl,rfl,?_⟩
      refine ⟨_,rfl,.inl ⟨rfl,_,.inl (.inl hd10)⟩,_,rfl,_,rfl,_,_,rfl,rfl,c,10+ln.r,rfl,by omega,fun H11 s11=>?_⟩
      refine ⟨_,rfl,_,rfl,_,rfl,by show 5<=sizeLine; decide,fun T12 hT12=>?_⟩
      have t12:=Az (o:=HO.tup [V.str "line",V.str (DN c (10+ln.r)),V.int ln.sh,V.int ln.lo,V.int ln.hi]) hT12
      have u12:upd H11 T12 (HO.tup [V.str "line",V.str (DN c (10+ln.r)),V.int ln.sh,V.int ln.lo,V.int ln.hi]) T12=some (.tup (R.v ⟨"line",DN c (10+ln.r),[.int ln.sh,.int ln.lo,.int ln.hi]⟩)):=Ak
      generalize upd H11 T12 (HO.tup [V.str "line",V.str (DN c (10+ln.r)),V.int ln.sh,V.int ln.lo,V.int ln.hi])=H12 at t12 u12 ⊢
      have hd12:=t12 _ _ (s11 _ _ hd10)
      have hvl10:=hv10.length
      refine ⟨D,vs10,_,rfl,rfl,hd12,BJ (by omega),?_⟩
      refine ⟨fun b o e=>?_,_,vs10++[V.ref T12],Ak,(B_ (Al (s11.trans t12) hv10) hd12).snoc (TupAt.upd ⟨T12,rfl,u12⟩ hd12),?_,T10.line rfl,by rw [List.length_append,List.length_singleton]; omega,_,_,_,_,rfl⟩
      ·rw [BW (BL e hD)]
       exact t12 _ _ (s11 _ _ (s10 _ _ e))
      ·have e11:ll.take (j+1)=ll.take j++[ln]:=by
        rw [List.take_add_one,show ll[j]? = some ln from hln]
        rfl
       rw [e11]
       exact B10.line F0 T10 hjl4 (Lb (List.getElem?_eq_getElem hg1)) hnd (hnm _ (by omega)) mb hg3 hg4 hg.s1 hg.s2 hg2 (by omega)
     ·rintro σ H10 ⟨s10,rows',vs10,hd10,hv10,B10,T10,hr10,v8,v9,v10,v11,rfl⟩
      rw [etk (List.take_of_length_le (by omega))] at B10
      exact ⟨s10,_,_,hd10,hv10,B10,by omega,_,_,_,_,_,_,_,rfl⟩
  ·rintro σ H4 ⟨s4,rows,vs4,hd,hv4,B,hrl,w5,w6,w7,w8,w9,w10,w11,rfl⟩
   rw [List.take_of_length_le (by rw [Gh,List.length_map]; omega),List.take_of_length_le (by rw [List.length_map]; omega)] at B
   exact ⟨_,rfl,q D rows vs4 H4 hD s4 hd hv4 B (by omega)⟩
noncomputable def jF (K:PySem.W.Frag) (aB aP aM:Addr) (H:Hp) (DS DP DK DR:Addr) (c:Int) (sz pz:List Nat) (kls:List Kl) (us:List V) (rows:List R) (vs:List V):Prop:=H DS=some (.lst (sz.map fun n:Nat=>V.int (n:Nat)))/\H DP=some (.lst (pz.map fun n:Nat=>V.int (n:Nat)))/\(1<=sz.length/\sz.length<=5/\(∀ s∈sz,1<=s/\s<=61)/\1<=pz.length/\pz.length<=4/\(∀ z∈pz,1<=z/\z<=97))/\H DK=some (.lst us)/\Paired (fun z y=>FN DK H z y) kls us/\QZ sz pz kls/\kls.length<=21/\(∃ z∈kls,z.1.w = "stop")/\H DR=some (.lst vs)/\Paired (fun (r:R) v=>TupAt H r.v v) rows vs/\Hl K aB aP aM rows (BX (DN c) sz) (G4 (DN c) pz (Kd c)) (Bw (DN c) (kls.map (·.1))) (kls.map (·.2))/\rows.length<=150
noncomputable def Zj (K:PySem.W.Frag) (aB aP aM:Addr):Sp:=fun vs H Q _=>∃ (a:Addr) (ns:List Int),vs=[.ref a]/\CK K H a (ns.map V.int)/\ns.length<=63/\QL K aB aP aM/\∀ (W DS DP DK DR:Addr) (c:Int) (sz pz:List Nat) (kls:List Kl) (us:List V) (rows:List R) (vs':List V) H',An H H'->H' W=some (.lst [.ref DS,.ref DP,.ref DK,.ref DR])->jF K aB aP aM H' DS DP DK DR c sz pz kls us rows vs'->Q (.ref W) H'
theorem ints_of:∀ {xs:List V},(∀ y∈xs,∃ c:Int,y=.int c)->∃ cs:List Int,xs=cs.map V.int
 | [],_=>⟨[],rfl⟩
 | y::xs,h=>by
  obtain ⟨c,rfl⟩:=h y (List.mem_cons_self ..)
  obtain ⟨cs,rfl⟩:=ints_of fun z hz=>h z (List.mem_cons_of_mem _ hz)
  exact ⟨c::cs,rfl⟩
theorem JT {ns:List Int} {lo hi:Option Int} {k:Int}:∀ y∈stepV (ns.map V.int) lo hi k,∃ c:Int,y=.int c:=fun y hy=>by
 obtain ⟨c,_,e⟩:=List.mem_map.mp (Q6 hy)
 exact ⟨c,e.symm⟩
theorem S7 {ns:List Int} (h:ns.length<=63):(stepV (ns.map V.int) (some 3) (some 63) 3).length<=20:=by
 unfold stepV
 refine Nat.le_trans (List.length_filterMap_le _ _) ?_
 have e:sliceBounds (some 3) (some 63) (some 3) (ns.map V.int).length=(max 0 (min 3 ((ns.length:Nat):Int)),max 0 (min 63 ((ns.length:Nat):Int)),3):=by rw [List.length_map]; rfl
 rw [e]
 show (sliceRange (max 0 (min 3 ((ns.length:Nat):Int))) (max 0 (min 63 ((ns.length:Nat):Int))) 3).length<=20
 unfold sliceRange
 rw [List.length_map,List.length_range]
 show (if (3:Int) > 0 then (if max 0 (min 3 ((ns.length:Nat):Int))<max 0 (min 63 ((ns.length:Nat):Int)) then (max 0 (min 63 ((ns.length:Nat):Int)) - max 0 (min 3 ((ns.length:Nat):Int))+3 - 1) / 3 else 0) else _).toNat<=20
 rw [if_pos (by decide)]
 split <;> omega
theorem Qm:Aw ["_law_script","_law_first","_law_second","_law_sizes_here","_law_pipes","_law_knobs_here"] ["_law_script"] (Ag dz):=Bo
include N T in
theorem Y_:Ar P w K mg base Be 6 aD.fWd aD.dWd ["_law_script"] (Zj K aB aP aM):=by
 have GCe:Ar P w K mg base Be 1 aD.fCe aD.dCe ["_law_script","_law_k"] (Zg K):=Yy N T
 have GSz:Ar P w K mg base Be 2 aD.fSz aD.dSz ["_law_cell","_law_many","_law_most"] cN:=bY N T
 have GMx:Ar P w K mg base Be 1 aD.fMx aD.dMx ["_law_cell","_law_k"] Ma:=JZ N T
 have GKs:Ar P w K mg base Be 4 aD.fKs aD.dKs ["_law_cells","_law_sizes_here","_law_pipes"] cF:=Zy N T
 have GRw:Ar P w K mg base Be 3 aD.fRw aD.dRw ["_law_cell","_law_sizes_here","_law_pipes","_law_knobs_here"] (Z9 K aB aP aM):=Z0 N T
 refine N.FWd.1.ok Qm (fun vs H Q E h=>?_) (fun cdv A outer s H vs Q E hr h=>?_)
 ·obtain ⟨a,ns,rfl,_⟩:=h
  rfl
 ·refine byC fun hng=>?_
  obtain ⟨a,ns,rfl,hS,hlen,F0,q⟩:=h
  refine hng ?_
  have hrCe:BV 1 _:=hr.mono (by decide)
  have hrSz:BV 2 _:=hr.mono (by decide)
  have hrMx:BV 1 _:=hr.mono (by decide)
  have hrKs:BV 4 _:=hr.mono (by decide)
  have hrRw:BV 3 _:=hr.mono (by decide)
  refine ⟨_,(Ae (Ax (i:=1) Qm.nd rfl (Or.inr rfl) (Ai GCe hrCe rfl N.FCe.2.2 N.FCe.1.kp N.FCe.2.1 .nil Ao (Aa (pv 0) (Aa Ab Ac))))
   (Ae (Ax (i:=2) Qm.nd rfl (Or.inr rfl) (Ai GCe hrCe rfl N.FCe.2.2 N.FCe.1.kp N.FCe.2.1 .nil Ao (Aa (pv 0) (Aa Ab Ac))))
   (Ae (Ax (i:=3) Qm.nd rfl (Or.inl rfl) (Ai GSz hrSz rfl N.FSz.2.2 N.FSz.1.kp N.FSz.2.1 .nil Ao (Aa (pv 2) (Aa (Am Eb (Df (Aa Ab (Aa Ab (Aa Ab (Aa Ab (Aa Ab Ac)))))) (Aq Bs (pv 1) Ab) (fun _ _=>rfl)) (Aa Ab Ac)))))
   (Ae (Gk (i:=4) Qm.nd rfl rfl rfl (Bc (osc:=Ag dz) (N:=["_law_script","_law_first","_law_second","_law_sizes_here","_law_pipes","_law_knobs_here"]) rfl rfl (by decide +kernel)) (CN rfl T.range (Aa (Aq Bp Ab (Aq Bs (Aq Cp (pv 1) Ab) Ab)) Ac)) (fun _ _ _ _=>Cd) (fun _ _ _ _=>(Aq Bp Ab (Aq Bs (Ai GMx hrMx rfl N.FMx.2.2 N.FMx.1.kp N.FMx.2.1 .nil Ao (Aa (pv 3) (Aa (Aq Bp Ab (pv 0)) Ac))) (Am (A_ (K:=K) rfl) (Df (Aa Ab (Aa Ab (Aa Ab (Aa Ab Ac))))) (Aq Bs (Aq Cp (pv 2) Ab) Ab) (fun _ _=>rfl))))))
   (Ae (Ax (i:=5) Qm.nd rfl (Or.inl rfl) (Ai GKs hrKs rfl N.FKs.2.2 N.FKs.1.kp N.FKs.2.1 .nil Ao (Aa (Aq Yi (MF (pv 0) (Cv Ab) (Cv Ab) Ab) (Df (Aa (Aq Bp (Aq HH Ab (pv 1)) Ab) Ac))) (Aa (pv 3) (Aa (pv 4) Ac)))))
   (Ah (Av (Df (Aa (pv 3) (Aa (pv 4) (Aa (pv 5) (Aa (Ai GRw hrRw rfl N.FRw.2.2 N.FRw.1.kp N.FRw.2.1 .nil Ao (Aa (Ai GCe hrCe rfl N.FCe.2.2 N.FCe.1.kp N.FCe.2.1 .nil Ao (Aa (pv 0) (Aa Ab Ac))) (Aa (pv 3) (Aa (pv 4) (Aa (pv 5) Ac))))) Ac)))))))))))),?_⟩
  refine ⟨_,rfl,a,0,ns,rfl,hS,fun first=>?_⟩
  refine ⟨_,rfl,a,1,ns,rfl,hS,fun c1=>?_⟩
  refine ⟨_,rfl,by show 5<=sizeLine; decide,fun l1 hl1=>?_⟩
  obtain ⟨H1,eqH,t1,u1⟩:=JS (o:=HO.lst [V.int 1,V.int 2,V.int 2,V.int 3,V.int 5]) hl1
  rw [eqH]
  have f0:0<=first % 5/\first % 5<5:=⟨Int.emod_nonneg _ (by decide),Int.emod_lt_of_pos _ (by decide)⟩
  obtain ⟨v,hv,hm⟩:=Jy (xs:=[V.int 1,V.int 2,V.int 2,V.int 3,V.int 5]) (i:=first % 5) f0.1 f0.2
  obtain ⟨m,rfl,hm0,hm5⟩:∃ m:Nat,v=.int (m:Nat)/\1<=m/\m<=5:=by
   simp only [List.mem_cons,List.mem_singleton,List.not_mem_nil,or_false] at hm
   rcases hm with rfl | rfl | rfl | rfl | rfl
   ·exact ⟨1,rfl,by decide,by decide⟩
   ·exact ⟨2,rfl,by decide,by decide⟩
   ·exact ⟨2,rfl,by decide,by decide⟩
   ·exact ⟨3,rfl,by decide,by decide⟩
   ·exact ⟨5,rfl,by decide,by decide⟩
  refine ⟨_,rfl,_,_,rfl,rfl,(by show (0:Int)<5; decide),l1,_,_,_,rfl,rfl,.inl (.inl u1),hv,?_⟩
  refine ⟨c1,m,5,rfl,hm0,hm5,by decide,by decide,fun DS sz H3 hDS s3 hl3 hsl hsb=>?_⟩
  have s03:=t1.trans s3
  obtain ⟨n,en,hn1,hn4⟩:∃ n:Nat,1+first / 20 % 4=(n:Int)/\1<=n/\n<=4:=⟨(1+first / 20 % 4).toNat,by omega,by omega,by omega⟩
  refine ⟨_,rfl,_,_,rfl,rfl,⟨by decide,by decide⟩,_,_,rfl,rfl,(by show (0:Int)<4; decide),_,_,rfl,rfl,_,rfl,(by rw [en]; omega),(by rw [en]; omega),?_⟩
  rw [en,Int.toNat_natCast]
  have f4:0<=first / 5 % 4/\first / 5 % 4<4:=⟨Int.emod_nonneg _ (by decide),Int.emod_lt_of_pos _ (by decide)⟩
  obtain ⟨v4,hv4,hm4⟩:=Jy (xs:=[V.int 12,V.int 12,V.int 12,V.int 97]) (i:=first / 5 % 4) f4.1 f4.2
  obtain ⟨mp,rfl,hmp0,hmp1⟩:∃ m:Nat,v4=.int (m:Nat)/\1<=m/\m<=97:=by
   simp only [List.mem_cons,List.mem_singleton,List.not_mem_nil,or_false] at hm4
   rcases hm4 with rfl | rfl | rfl | rfl
   ·exact ⟨12,rfl,by decide,by decide⟩
   ·exact ⟨12,rfl,by decide,by decide⟩
   ·exact ⟨12,rfl,by decide,by decide⟩
   ·exact ⟨97,rfl,by decide,by decide⟩
  refine Dw (lo:=0) (n:=n) (fun _=>true) (fun i=>.int (1+Bl c1 (60+i) % (mp:Nat))) (BJ (by omega)) (fun i hi H' hs R k=>k H' (An.refl H')) (fun i hi _ H' hs R k=>?_) (fun DP H4 hDP s4 hl4=>?_)
  ·refine ⟨_,rfl,_,rfl,_,_,rfl,rfl,_,_,rfl,by omega,by omega,by show 4<=sizeLine; decide,fun l5 hl5=>?_⟩
   refine ⟨_,rfl,_,_,rfl,rfl,⟨by decide,by decide⟩,_,_,rfl,rfl,(by show (0:Int)<4; decide),l5,_,_,_,rfl,rfl,.inl (.inl Ak),hv4,_,_,rfl,rfl,(by show (0:Int)<(mp:Nat); omega),_,_,rfl,rfl,k _ (Az hl5)⟩
  obtain ⟨pz,epz,hpzl,hpz⟩:∃ pz:List Nat,(((((List.range n).map fun (i:Nat)=>(0:Int)+(i:Int)).filter fun _=>true).map fun i=>V.int (1+Bl c1 (60+i) % (mp:Nat))))=(pz.map fun n:Nat=>V.int (n:Nat))/\pz.length=n/\∀ z∈pz,1<=z/\z<=97:=by
   refine ⟨(List.range n).map fun (i:Nat)=>(1+Bl c1 (60+(0+(i:Nat))) % (mp:Nat)).toNat,?_,by simp,fun z hz=>?_⟩
   ·rw [List.filter_eq_self.mpr (fun _ _=>rfl),List.map_map,List.map_map]
    refine List.map_congr_left fun i _=>?_
    have h1:0<=Bl c1 (60+(0+(i:Int))) % (mp:Nat):=Int.emod_nonneg _ (by omega)
    show V.int (1+Bl c1 (60+(0+(i:Int))) % (mp:Nat))=V.int (((1+Bl c1 (60+(0+(i:Int))) % (mp:Nat)).toNat:Nat):Int)
    rw [Int.toNat_of_nonneg (by omega)]
   ·obtain ⟨i,_,rfl⟩:=List.mem_map.mp hz
    have h1:0<=Bl c1 (60+(0+(i:Int))) % (mp:Nat):=Int.emod_nonneg _ (by omega)
    have h2:Bl c1 (60+(0+(i:Int))) % (mp:Nat)<(mp:Nat):=Int.emod_lt_of_pos _ (by omega)
    omega
  rw [epz] at hl4
  clear epz
  have s04:=s03.trans s4
  have hS4:=s4 _ _ hl3
  refine ⟨_,rfl,_,rfl,_,rfl,3,rfl,by decide,a,_,rfl,s04.seq hS,fun p5 hp5 hl5=>?_⟩
  have t5:=Az (o:=HO.lst (stepV (ns.map V.int) (some 3) (some 63) 3)) hp5
  have u5:upd H4 p5 (HO.lst (stepV (ns.map V.int) (some 3) (some 63) 3)) p5=_:=Ak
  obtain ⟨cs,ecs⟩:=ints_of (JT (ns:=ns) (lo:=some 3) (hi:=some 63) (k:=3))
  have hcs:cs.length<=20:=by
   have:=S7 (ns:=ns) hlen
   rw [ecs,List.length_map] at this
   exact this
  generalize upd H4 p5 (HO.lst (stepV (ns.map V.int) (some 3) (some 63) 3))=H5 at t5 u5 ⊢
  rw [ecs] at u5
  refine ⟨_,rfl,_,_,rfl,rfl,.inl ⟨by decide,by decide⟩,_,_,rfl,rfl,by show 1<=sizeLine; decide,fun p6 hp6=>?_⟩
  have t6:=Az (o:=HO.lst [V.int (8 * first+4)]) hp6
  have u6:upd H5 p6 (HO.lst [V.int (8 * first+4)]) p6=some (.lst [V.int (8 * first+4)]):=Ak
  refine ⟨p5,p6,_,_,rfl,rfl,t6 _ _ u5,u6,Dd (by rw [List.length_map]; show cs.length+1<=1000; omega),fun p7 hp7=>?_⟩
  have t7:=Az (o:=HO.lst (cs.map V.int++[V.int (8 * first+4)])) hp7
  have u7:upd (upd H5 p6 (HO.lst [V.int (8 * first+4)])) p7 (HO.lst (cs.map V.int++[V.int (8 * first+4)])) p7=some (.lst ((cs++[8 * first+4]).map V.int)):=by rw [List.map_append]; exact Ak
  have s47:=t5.trans (t6.trans t7)
  have l7:=s47 _ _ hS4
  have lp7:=s47 _ _ hl4
  have wh:1<=sz.length/\sz.length<=5/\(∀ s∈sz,1<=s/\s<=61)/\1<=pz.length/\pz.length<=4/\(∀ z∈pz,1<=z/\z<=97):=⟨by omega,by omega,fun s hs=>⟨(hsb s hs).1,by have:=(hsb s hs).2; omega⟩,by omega,by omega,hpz⟩
  refine byC fun hng=>?_
  obtain ⟨w1,w2,w3,w4,w5,w6⟩:=id wh
  refine hng ?_
  refine ⟨_,rfl,_,rfl,p7,DS,DP,cs++[8 * first+4],sz,pz,rfl,u7,by rw [List.length_append,List.length_singleton]; omega,l7,lp7,w1,w2,w3,w4,w5,w6,fun DK kls us H8 hDK s8 hl8 hp8 hkb hkl hst=>?_⟩
  have hst:=hst ⟨8 * first+4,by simp,by omega⟩
  have s08:=s04.trans (s47.trans s8)
  have l8:=s8 _ _ l7
  have lp8:=s8 _ _ lp7
  clear u7 t7 u6 t6 u5 t5 l7 lp7
  refine ⟨_,rfl,_,rfl,_,rfl,_,rfl,a,2,ns,rfl,s08.seq hS,fun c2=>?_⟩
  refine ⟨_,rfl,_,rfl,_,rfl,c2,DS,DP,DK,DK,sz,pz,kls,us,rfl,l8,lp8,w1,w2,w3,w4,w5,w6,hl8,hp8,hkb,hkl,F0,fun DR rows vs9 H9 hDR s9 hl9 hv9 B9 hr9=>?_⟩
  refine ⟨by show 4<=sizeLine; decide,fun W hW=>?_⟩
  have t10:=Az (o:=HO.lst [V.ref DS,V.ref DP,V.ref DK,V.ref DR]) hW
  have s910:=s9.trans t10
  exact q W DS DP DK DR c2 sz pz kls us rows vs9 _ (s08.trans s910) Ak ⟨s910 _ _ l8,s910 _ _ lp8,wh,s910 _ _ hl8,Paired.Et hp8 (fun _ _ z=>z.mono s910),hkb,hkl,hst,t10 _ _ hl9,Al t10 hv9,B9,hr9⟩
theorem Mq (l:List Nat):∀ {a b:Nat},a<=b->(l.take a).sum<=(l.take b).sum:=by
 intro a b h
 have e:l.take a=(l.take b).take a:=by rw [List.take_take,Nat.min_eq_left h]
 rw [e]
 have:=congrArg List.sum (List.take_append_drop a (l.take b))
 rw [List.sum_append] at this
 omega
theorem sum_take_succ {l:List Nat} {a z:Nat} (h:l[a]? = some z):(l.take (a+1)).sum=(l.take a).sum+z:=by
 rw [List.take_add_one,h,List.sum_append]
 simp
noncomputable def TY:Sp:=fun vs H Q _=>∃ (p:Addr) (bs:List (Str × Nat)) (i:Nat) (qd:Nat × Nat),vs=[.ref p,.int (i:Nat)]/\H p=some (.lst ((bs.map (·.2)).map fun n:Nat=>V.int (n:Nat)))/\(Ec bs)[i]? = some qd/\∀ y H',An H H'->TupAt H' (qV qd) y->Q y H'
theorem Vf:Aw ["_law_sizes_here","_law_key","_law_board"] ["_law_sizes_here","_law_key"] (Ag gB):=Bo
include N T in
theorem QH:Ar P w K mg base Be 1 aD.fSp aD.dSp ["_law_sizes_here","_law_key"] TY:=by
 refine N.FSp.1.ok Vf (fun vs H Q E h=>?_) (fun cdv A outer s H vs Q E hr h=>?_)
 ·obtain ⟨p,bs,i,qd,rfl,_⟩:=h
  rfl
 ·obtain ⟨p,bs,i,qd,rfl,hp,hq,q⟩:=h
  refine ⟨_,(Ae (Ax (i:=2) Vf.nd rfl (Or.inl rfl) Ab)
   (Ae (J0 PassesOwn.never (BR Rz (pv 1) (Am (A_ (K:=K) rfl) (pv 0) (pv 2) (fun _ _=>rfl)) (BZ _)) (Ae (Ax (i:=1) Vf.nd rfl (Or.inl rfl) (Aq Dv (pv 1) (Am (A_ (K:=K) rfl) (pv 0) (pv 2) (fun _ _=>rfl))))
   (Ah (Ax (i:=2) Vf.nd rfl (Or.inl rfl) (Aq Bp (pv 2) Ab)))))
   (Ah (Av (CV (Aa (pv 2) (Aa (pv 1) Ac))))))),?_⟩
  obtain ⟨a,n⟩:=qd
  obtain ⟨b,hb,hn,hi⟩:=Ld hq
  have hsz:∀ {j:Nat},j<=a->∃ z,(bs.map (·.2))[j]? = some z:=fun {j} hj=>by
   have ha:a<bs.length:=(List.getElem?_eq_some_iff.mp hb).1
   exact ⟨_,List.getElem?_eq_getElem (by rw [List.length_map]; omega)⟩
  have ha:(bs.map (·.2))[a]? = some b.2:=by rw [List.getElem?_map,hb]; rfl
  generalize hS:bs.map (·.2)=sz at hp hsz ha hi
  have hSq:CK K H p (sz.map fun n:Nat=>V.int (n:Nat)):=.inl (.inl hp)
  have hat:∀ {j z:Nat},sz[j]? = some z->Nb (sz.map fun n:Nat=>V.int (n:Nat)) (j:Int)=some (.int (z:Nat)):=fun h=>Af (by rw [List.getElem?_map,h]; rfl)
  refine J1 (fun σ H'=>H'=H/\∃ j:Nat,j<=a/\σ=[some (.ref p),some (.int ((i:Int) - ((sz.take j).sum:Nat))),some (.int (j:Nat))]) (fun σ _=>match σ with | [_,_,some (.int j)]=>a - j.toNat | _=>0) ⟨rfl,0,Nat.zero_le _,?_⟩ ?_ ?_
  ·show ([some (.ref p),some (.int (i:Nat)),some (.int 0)]:St)=_
   simp
  ·rintro σ H' ⟨rfl,j,hj,rfl⟩
   obtain ⟨z,hz⟩:=hsz hj
   have st:=sum_take_succ hz
   refine ⟨_,rfl,_,rfl,_,rfl,p,_,_,_,rfl,rfl,hSq,hat hz,_,_,rfl,rfl,_,rfl,?_⟩
   refine Dn (fun g=>?_) (fun g=>?_)
   ·have g':=of_decide_eq_true g
    have hlt:j<a:=by
     rcases Nat.lt_or_ge j a with h | h
     ·exact h
     ·have:j=a:=by omega
      subst this
      rw [ha] at hz
      cases hz
      omega
    refine ⟨_,rfl,_,rfl,_,rfl,p,_,_,_,rfl,rfl,hSq,hat hz,_,_,rfl,rfl,?_⟩
    refine ⟨_,rfl,_,_,rfl,rfl,⟨rfl,j+1,hlt,?_⟩,?_⟩
    ·have e1:(i:Int) - ((sz.take j).sum:Nat) - (z:Nat)=(i:Int) - ((sz.take (j+1)).sum:Nat):=by rw [st]; omega
     have e2:((j:Nat):Int)+1=((j+1:Nat):Int):=by omega
     show ([some (.ref p),some (.int ((i:Int) - ((sz.take j).sum:Nat) - (z:Nat))),some (.int (((j:Nat):Int)+1))]:St)=_
     rw [e1,e2]
    ·show a - (((j:Nat):Int)+1).toNat<a - ((j:Nat):Int).toNat
     omega
   ·have g':=of_decide_eq_false ((Bool.not_eq_true _).mp g)
    have heq:j=a:=by
     rcases Nat.lt_or_ge j a with h | h
     ·have:=Mq sz (a:=j+1) (b:=a) h
      omega
     ·omega
    subst heq
    refine ⟨_,rfl,_,rfl,by show 2<=sizeLine; decide,fun T6 hT6=>?_⟩
    refine q _ _ (Az hT6) ⟨T6,rfl,?_⟩
    have e1:(i:Int) - ((sz.take j).sum:Nat)=(n:Nat):=by omega
    rw [e1]
    exact Ak
  ·rintro σ H' Q1 Q2 hm ⟨x1,hx1,x2,hx2,x3,hx3,p4,xs4,i4,v4,hx4,hx5,hs4,hv4,i5,j5,hx6,hx7,k8,hx8,hq8⟩
   exact ⟨x1,hx1,x2,hx2,x3,hx3,p4,xs4,i4,v4,hx4,hx5,hs4,hv4,i5,j5,hx6,hx7,k8,hx8,hm _ _ hq8⟩
noncomputable def Xi:Sp:=fun vs H Q _=>∃ (p:Addr) (y:V) (bs:List (Str × Nat)) (i j1 j2:Nat) (s:Int) (b2:Str × Nat) (qd:Nat × Nat),vs=[.ref p,y,.int (i:Nat)]/\H p=some (.lst ((bs.map (·.2)).map fun n:Nat=>V.int (n:Nat)))/\bs.length<=5/\(∀ b∈bs,b.2<=61)/\(Ec bs)[i]? = some qd/\bs[j2]? = some b2/\TupAt H (Kb.cp j1 j2 s).v y/\∀ H',An H H'->Q (Jl bs j1 j2 s qd b2.2) H'
theorem X6:Aw ["_law_sizes_here","_law_knob_here","_law_key","_law_board","_law_number"] ["_law_sizes_here","_law_knob_here","_law_key"] (Ag jX):=Bo
include N T in
theorem Wq:Ar P w K mg base Be 2 aD.fGo aD.dGo ["_law_sizes_here","_law_knob_here","_law_key"] Xi:=by
 have GSp:Ar P w K mg base Be 1 aD.fSp aD.dSp ["_law_sizes_here","_law_key"] TY:=QH N T
 refine N.FGo.1.ok X6 (fun vs H Q E h=>?_) (fun cdv A outer s H vs Q E hr h=>?_)
 ·obtain ⟨p,y,bs,i,j1,j2,s0,b2,qd,rfl,_⟩:=h
  rfl
 ·obtain ⟨p,y,bs,i,j1,j2,s0,b2,qd,rfl,hp,h5,h61,hq,hb2,hy,q⟩:=h
  have hrSp:BV 1 _:=hr.mono (by decide)
  refine ⟨_,(Ae (Ly (Ai GSp hrSp rfl N.FSp.2.2 N.FSp.1.kp N.FSp.2.1 .nil Ao (Aa (pv 0) (Aa (pv 2) Ac))) (GQ rfl (Bf (Ba (i:=3) X6.nd rfl (Or.inl rfl)) (Bf (Ba (i:=4) X6.nd rfl (Or.inl rfl)) Du))))
   (Ae (Bt (PW.pt (Dr (BR Ey (pv 3) (Am (Aj (K:=K) rfl) (pv 1) Ab (fun _ _=>rfl)) (BZ _)) (Ea (Cj (Ga Ew Gz Ab (Aq Bp (pv 4) (Am (Aj (K:=K) rfl) (pv 1) Ab (fun _ _=>rfl))) (Am (A_ (K:=K) rfl) (pv 0) (Am (Aj (K:=K) rfl) (pv 1) Ab (fun _ _=>rfl)) (fun _ _=>rfl))))))) (Ah (Av Gv)) Bd)
   (Ah (Av (Aq Bp (Aq Bp (BP (Fv rfl) rfl T.sum PyProof.Rows.boot_sum (Aa (Dt Gp (pv 0) Ez (Cv (Am (Aj (K:=K) rfl) (pv 1) Ab (fun _ _=>rfl)))) Ac)) (pv 4)) (Am (Aj (K:=K) rfl) (pv 1) Ab (fun _ _=>rfl))))))),?_⟩
  have hj2:j2<bs.length:=(List.getElem?_eq_some_iff.mp hb2).1
  refine ⟨_,rfl,_,rfl,p,bs,i,qd,rfl,hp,hq,fun y1 H1 s1 hy1=>?_⟩
  obtain ⟨T1,rfl,ht1⟩:=hy1
  obtain ⟨T2,rfl,ht2⟩:=hy.mono s1
  have hS1:CK K H1 p ((bs.map (·.2)).map fun n:Nat=>V.int (n:Nat)):=.inl (.inl (s1 _ _ hp))
  refine ⟨T1,_,rfl,.inl (.inl ht1),rfl,_,_,rfl,_,_,rfl,rfl,?_⟩
  refine ⟨_,rfl,_,rfl,T2,_,_,_,rfl,rfl,.inl (.inl ht2),Af (j:=1) rfl,rfl,_,rfl,?_⟩
  have fin:=q H1 s1
  unfold Jl at fin
  by_cases e1:qd.1=j1
  ·have z:(!decide (V.int (qd.1:Nat)=V.int (j1:Nat)))=false:=by rw [e1]; simp
   rw [z]
   refine Bj ?_
   refine ⟨_,rfl,_,rfl,T2,_,_,_,rfl,rfl,.inl (.inl ht2),Af (j:=3) rfl,_,_,rfl,rfl,_,_,rfl,rfl,_,rfl,?_⟩
   refine Dn (fun g1=>?_) (fun g1=>?_)
   ·refine ⟨_,rfl,_,rfl,T2,_,_,_,rfl,rfl,.inl (.inl ht2),Af (j:=2) rfl,p,_,_,.int (b2.2:Nat),rfl,rfl,hS1,Af (by rw [List.getElem?_map,List.getElem?_map,hb2]; rfl),_,_,rfl,rfl,_,rfl,?_⟩
    have g1':0<=(qd.2:Int)+s0:=of_decide_eq_true g1
    by_cases g2:(qd.2:Int)+s0<(b2.2:Nat)
    ·have z2:decide ((qd.2:Int)+s0<(b2.2:Nat))=true:=decide_eq_true g2
     rw [z2]
     refine Bj ?_
     rw [if_pos ⟨e1,g1',g2⟩] at fin
     refine ⟨_,rfl,_,rfl,T2,_,_,_,rfl,rfl,.inl (.inl ht2),Af (j:=2) rfl,_,rfl,p,_,rfl,hS1,fun p3 hp3=>?_⟩
     have s3:=Az (o:=HO.lst (De ((bs.map (·.2)).map fun n:Nat=>V.int (n:Nat)) none (some (j2:Int)))) hp3
     have a3:upd H1 p3 (HO.lst (De ((bs.map (·.2)).map fun n:Nat=>V.int (n:Nat)) none (some (j2:Int)))) p3=_:=Ak
     generalize upd H1 p3 (HO.lst (De ((bs.map (·.2)).map fun n:Nat=>V.int (n:Nat)) none (some (j2:Int))))=H3 at s3 a3 ⊢
     rw [HW _ j2 (by rw [List.length_map,List.length_map]; omega)] at a3
     have e3:((bs.map (·.2)).map fun n:Nat=>V.int (n:Nat)).take j2=(((bs.take j2).map (·.2)).map fun n:Nat=>(n:Int)).map V.int:=by
      rw [← List.map_take,← List.map_take,List.map_map,List.map_map,List.map_map]
      rfl
     rw [e3] at a3
     refine ⟨p3,_,rfl,.inl (.inl a3),fun m hm=>?_,by simp; omega,?_⟩
     ·obtain ⟨k,hk,rfl⟩:=List.mem_map.mp hm
      obtain ⟨b,hb,rfl⟩:=List.mem_map.mp hk
      have:=h61 b (List.mem_of_mem_take hb)
      omega
     rw [Fw]
     refine ⟨_,rfl,_,_,rfl,rfl,_,rfl,T2,_,_,_,rfl,rfl,.inl (.inl (s3 _ _ ht2)),Af (j:=3) rfl,_,_,rfl,rfl,?_⟩
     have fin3:=q H3 (s1.trans s3)
     unfold Jl at fin3
     rw [if_pos ⟨e1,g1',g2⟩,← Int.add_assoc] at fin3
     exact fin3
    ·have z2:decide ((qd.2:Int)+s0<(b2.2:Nat))=false:=decide_eq_false g2
     rw [z2]
     refine CW ?_
     rw [if_neg fun z=>g2 z.2.2] at fin
     exact fin
   ·refine ⟨_,rfl,?_⟩
    rw [if_neg fun z=>absurd (decide_eq_true z.2.1) g1] at fin
    exact CW fin
  ·have z:(!decide (V.int (qd.1:Nat)=V.int (j1:Nat)))=true:=by
    rw [decide_eq_false fun z=>e1 (by have:=V.int.inj z; omega)]
    rfl
   rw [z]
   refine CW ?_
   rw [if_neg fun z=>e1 z.1] at fin
   exact fin
noncomputable def cR:Sp:=fun vs H Q _=>∃ (c:Int) (m:Nat),vs=[.int c,.int (m:Nat)]/\m<=100/\∀ D (l:List Nat) H',H D=none->An H H'->H' D=some (.lst (nV l))->(∀ k∈l,k<m)->l.length<=100->Q (.ref D) H'
theorem gn:Aw ["_law_cell","_law_count"] ["_law_cell","_law_count"] (Ag fQ):=Bo
include N T in
theorem bO:Ar P w K mg base Be 2 aD.fDr aD.dDr ["_law_cell","_law_count"] cR:=by
 have GMx:Ar P w K mg base Be 1 aD.fMx aD.dMx ["_law_cell","_law_k"] Ma:=JZ N T
 refine N.FDr.1.ok gn (fun vs H Q E h=>?_) (fun cdv A outer s H vs Q E hr h=>?_)
 ·obtain ⟨c,m,rfl,_⟩:=h
  rfl
 ·obtain ⟨c,m,rfl,hm,q⟩:=h
  have hrMx:BV 1 _:=hr.mono (by decide)
  refine ⟨_,(Ah (Av (Bu rfl (Bc (osc:=Ag fQ) (N:=["_law_cell","_law_count"]) rfl rfl (by decide +kernel)) (CN rfl T.range (Aa (pv 1) Ac)) (fun _ _ _ _=>(Ft (BR Ew (Aq Bs (Aq Cp (Ai GMx hrMx rfl N.FMx.2.2 N.FMx.1.kp N.FMx.2.1 .nil Ao (Aa (Aq Cp (pv 1) Ab) (Aa (Aq Bp Ab (pv 0)) Ac))) Ab) Ab) (Aq Bs (pv 1) Ab) (BZ _)))) (fun _ _ _ _=>(pv 0))))),?_⟩
  refine ⟨_,rfl,_,rfl,by omega,by omega,?_⟩
  rw [Int.toNat_natCast]
  refine Dw (lo:=0) (n:=m) (fun i=>decide (Bl (c / 4) (70+i) / 16 % 4<=c % 4)) (fun i=>.int i) (BJ (by omega)) (fun i hi H' hs R k=>?_) (fun i hi _ H' hs R k=>⟨_,rfl,k H' (An.refl H')⟩) (fun D H' hD hs hl=>?_)
  ·exact ⟨_,rfl,_,_,rfl,rfl,⟨by decide,by decide⟩,_,rfl,_,_,rfl,rfl,_,_,rfl,by omega,by omega,_,_,rfl,rfl,⟨by decide,by decide⟩,_,_,rfl,rfl,(by show (0:Int)<4; decide),_,rfl,_,_,rfl,rfl,(by show (0:Int)<4; decide),_,_,rfl,rfl,_,rfl,k H' (An.refl H')⟩
  ·refine q D ((List.range m).filter fun (i:Nat)=>decide (Bl (c / 4) (70+(0+(i:Int))) / 16 % 4<=c % 4)) H' hD hs ?_ (fun k hk=>List.mem_range.mp (List.mem_filter.mp hk).1) ?_
   ·rw [hl,List.filter_map,List.map_map]
    refine congrArg (fun l=>some (HO.lst l)) (List.map_congr_left fun i _=>?_)
    show V.int ((0:Int)+(i:Int))=V.int (i:Int)
    rw [Int.zero_add]
   ·refine Nat.le_trans (List.length_filter_le _ _) ?_
    rw [List.length_range]
    exact hm
noncomputable def ZC:Sp:=fun vs H Q _=>∃ (c:Int) (m:Nat),vs=[.int c,.int (m:Nat)]/\1<=m/\∀ D (l:List Nat) H',H D=none->An H H'->H' D=some (.lst (nV l))->(∀ k∈l,k<m)->l.length<=4->Q (.ref D) H'
theorem gC:Aw ["_law_cell","_law_count"] ["_law_cell","_law_count"] (Ag eU):=Bo
include N T in
theorem ak:Ar P w K mg base Be 2 aD.fHd aD.dHd ["_law_cell","_law_count"] ZC:=by
 have GMx:Ar P w K mg base Be 1 aD.fMx aD.dMx ["_law_cell","_law_k"] Ma:=JZ N T
 refine N.FHd.1.ok gC (fun vs H Q E h=>?_) (fun cdv A outer s H vs Q E hr h=>?_)
 ·obtain ⟨c,m,rfl,_⟩:=h
  rfl
 ·obtain ⟨c,m,rfl,hm,q⟩:=h
  have hrMx:BV 1 _:=hr.mono (by decide)
  refine ⟨_,(Ah (Av (Bu rfl (Bc (osc:=Ag eU) (N:=["_law_cell","_law_count"]) rfl rfl (by decide +kernel)) (CN rfl T.range (Aa (Aq Bs (pv 0) Ab) Ac)) (fun _ _ _ _=>Cd) (fun _ _ _ _=>(Aq Bs (Ai GMx hrMx rfl N.FMx.2.2 N.FMx.1.kp N.FMx.2.1 .nil Ao (Aa (Aq Cp (pv 1) Ab) (Aa (Aq Bp Ab (pv 0)) Ac))) (pv 2)))))),?_⟩
  have c0:0<=c % 5/\c % 5<5:=⟨Int.emod_nonneg _ (by decide),Int.emod_lt_of_pos _ (by decide)⟩
  refine ⟨_,rfl,_,_,rfl,rfl,(by show (0:Int)<5; decide),c % 5,rfl,by omega,by omega,?_⟩
  refine Dw (lo:=0) (n:=(c % 5).toNat) (fun _=>true) (fun i=>.int (Bl (c / 5) (100+i) % (m:Nat))) (BJ (by omega)) (fun i hi H' hs R k=>k H' (An.refl H')) (fun i hi _ H' hs R k=>?_) (fun D H' hD hs hl=>?_)
  ·exact ⟨_,rfl,_,_,rfl,rfl,⟨by decide,by decide⟩,_,rfl,_,_,rfl,rfl,_,_,rfl,by omega,by omega,_,rfl,_,_,rfl,rfl,(by show (0:Int)<(m:Nat); omega),k H' (An.refl H')⟩
  ·have nn:∀ i:Int,0<=Bl (c / 5) (100+i) % (m:Nat)/\Bl (c / 5) (100+i) % (m:Nat)<(m:Nat):=fun i=>⟨Int.emod_nonneg _ (by omega),Int.emod_lt_of_pos _ (by omega)⟩
   refine q D ((List.range (c % 5).toNat).map fun (i:Nat)=>(Bl (c / 5) (100+(0+(i:Int))) % (m:Nat)).toNat) H' hD hs ?_ (fun k hk=>?_) (by simp; omega)
   ·rw [hl,List.filter_eq_self.mpr (fun _ _=>rfl),List.map_map]
    unfold nV
    rw [List.map_map]
    refine congrArg (fun l=>some (HO.lst l)) (List.map_congr_left fun i _=>?_)
    have:=nn (0+(i:Int))
    show V.int (Bl (c / 5) (100+(0+(i:Int))) % (m:Nat))=V.int (((Bl (c / 5) (100+(0+(i:Int))) % (m:Nat)).toNat:Nat):Int)
    rw [Int.toNat_of_nonneg this.1]
   ·obtain ⟨i,_,rfl⟩:=List.mem_map.mp hk
    have:=nn (0+(i:Int))
    omega
noncomputable def Hv (H:Hp) (k:Kb) (y:V):Prop:=(∃ T r,y=.ref T/\H T=some (.tup (.str k.w :: .int (k.bd:Nat)::r)))/\(k.w = "coupler"->TupAt H k.v y)
theorem Hv.mono {H H':Hp} {k:Kb} {y:V} (s:An H H') (h:Hv H k y):Hv H' k y:=by
 obtain ⟨⟨T,r,e,ht⟩,h2⟩:=h
 exact ⟨⟨T,r,e,s _ _ ht⟩,fun z=>(h2 z).mono s⟩
theorem Wz {Dx:Addr} {H:Hp} {z:Kl} {y:V} (h:FN Dx H z y):Hv H z.1 y:=by
 obtain ⟨ex,⟨T,e,ht⟩,h2⟩:=h
 obtain ⟨k,l⟩:=z
 cases k with
 | cp i j s =>
  refine ⟨⟨T,_,e,ht⟩,fun _=>⟨T,e,?_⟩⟩
  rcases h2 with ⟨rfl,_⟩ | ⟨z,_⟩
  ·exact ht
  ·exact absurd (show ("coupler" : Str) = "stop" from z) (by decide +kernel)
 | pl w i =>
  refine ⟨⟨T,_,e,ht⟩,fun z=>?_⟩
  rcases h2 with ⟨rfl,_⟩ | ⟨z2,_⟩
  ·exact ⟨T,e,ht⟩
  ·have z':w = "coupler":=z
   have z2':w = "stop":=z2
   exact absurd (z'.symm.trans z2') (by decide +kernel)
theorem Kz {Dx:Addr} {H:Hp} {kls:List Kl} {us:List V} (h:Paired (fun z y=>FN Dx H z y) kls us):Paired (fun (k:Kb) y=>Hv H k y) (kls.map (·.1)) us:=By (F:=fun (k:Kb) y=>Hv H k y) (·.1) (Paired.Et h fun _ _ q=>Wz q)
theorem FP (l:List Nat):(nV l).all Hm=true:=List.all_eq_true.mpr fun v hv=>by
 obtain ⟨n,_,rfl⟩:=List.mem_map.mp hv
 rfl
theorem YT (a b:List Nat):nV a++nV b=nV (a++b):=List.map_append.symm
theorem VH (l:List Nat) (j:Nat):nV l++[V.int (j:Nat)]=nV (l++[j]):=YT l [j]
noncomputable def G6 (pz:List Nat) (a:Nat) (qd:Nat × Nat) (x:Ln):V:=if qd.1=a/\x.lo<=(qd.2:Int)/\(qd.2:Int)<=x.hi/\0<=(qd.2:Int)+x.sh/\(qd.2:Int)+x.sh<(pz.getD x.r 0:Nat) then .int ((((pz.take x.r).sum:Nat):Int)+(qd.2:Int)+x.sh) else .non
noncomputable def XS:Sp:=fun vs H Q _=>∃ (p pp T1 A:Addr) (bs:List (Str × Nat)) (pz:List Nat) (a i:Nat) (l:List Ln) (ts:List V) (qd:Nat × Nat),vs=[.ref p,.ref pp,.ref T1,.int (i:Nat)]/\H p=some (.lst ((bs.map (·.2)).map fun n:Nat=>V.int (n:Nat)))/\(Ec bs)[i]? = some qd/\H pp=some (.lst (pz.map fun n:Nat=>V.int (n:Nat)))/\pz.length<=4/\(∀ z∈pz,1<=z/\z<=97)/\H T1=some (.tup [.str "stop",.int (a:Nat),.ref A])/\H A=some (.lst ts)/\Paired (fun x y=>TupAt H (Qk x) y) l ts/\l.length<=4/\(∀ x∈l,x.r<pz.length)/\∀ D H',H D=none->An H H'->H' D=some (.lst (l.map (G6 pz a qd)))->Q (.ref D) H'
theorem Kh:Aw ["_law_sizes_here","_law_pipes","_law_knob_here","_law_key","_law_board","_law_number","_law_found","_law_rank","_law_shift","_law_low","_law_high","_law_pipe"] ["_law_sizes_here","_law_pipes","_law_knob_here","_law_key"] (Ag iM):=Bo
include N T in
theorem Ww:Ar P w K mg base Be 2 aD.fPi aD.dPi ["_law_sizes_here","_law_pipes","_law_knob_here","_law_key"] XS:=by
 have GSp:Ar P w K mg base Be 1 aD.fSp aD.dSp ["_law_sizes_here","_law_key"] TY:=QH N T
 refine N.FPi.1.ok Kh (fun vs H Q E h=>?_) (fun cdv A outer s H vs Q E hr h=>?_)
 ·obtain ⟨p,pp,T1,A0,bs,pz,a,i,l,ts,qd,rfl,_⟩:=h
  rfl
 ·obtain ⟨p,pp,T1,A0,bs,pz,a,i,l,ts,qd,rfl,hp,hq,hpp,h4,hpz,hT1,hA,hts,hl4,hlr,q⟩:=h
  have hrSp:BV 1 _:=hr.mono (by decide)
  refine ⟨_,(Ae (Ly (Ai GSp hrSp rfl N.FSp.2.2 N.FSp.1.kp N.FSp.2.1 .nil Ao (Aa (pv 0) (Aa (pv 3) Ac))) (GQ rfl (Bf (Ba (i:=4) Kh.nd rfl (Or.inl rfl)) (Bf (Ba (i:=5) Kh.nd rfl (Or.inl rfl)) Du))))
   (Ae (Ax (i:=6) Kh.nd rfl (Or.inl rfl) (Df Ac))
   (Ae (Cq PassesOwn.never rfl (Bg (Am (Aj (K:=K) rfl) (pv 2) Ab (fun _ _=>rfl))) (GQ rfl (Bf (Ba (i:=7) Kh.nd rfl (Or.inl rfl)) (Bf (Ba (i:=8) Kh.nd rfl (Or.inl rfl)) (Bf (Ba (i:=9) Kh.nd rfl (Or.inl rfl)) (Bf (Ba (i:=10) Kh.nd rfl (Or.inl rfl)) Du))))) (Ae (Ax (i:=11) Kh.nd rfl (Or.inl rfl) Gv)
   (Ae (Bt (PW.pt (Fp (BR DG (pv 4) (Am (Aj (K:=K) rfl) (pv 2) Ab (fun _ _=>rfl)) (BZ _)) (Fp (Ga Ew Ew (pv 9) (pv 5) (pv 10)) (FT (Ga Ew Gz Ab (Aq Bp (pv 5) (pv 8)) (Am (A_ (K:=K) rfl) (pv 1) (pv 7) (fun _ _=>rfl))))))) (Ah (Ax (i:=11) Kh.nd rfl (Or.inl rfl) (Aq Bp (Aq Bp (BP (Fv rfl) rfl T.sum PyProof.Rows.boot_sum (Aa (Dt Gp (pv 1) Ez (Cv (pv 7))) Ac)) (pv 5)) (pv 8)))) Bd)
   (Ah (DW (Ex PySem.F.plainAttrs_list PySem.F.slot_list_append PySem.F.type_list_append CG (pv 6) (Aa (pv 11) Ac)))))))
   (Ah (Av (pv 6)))))),?_⟩
  refine ⟨_,rfl,_,rfl,p,bs,i,qd,rfl,hp,hq,fun y1 H1 s1 hy1=>?_⟩
  obtain ⟨T2,rfl,ht2⟩:=hy1
  refine ⟨T2,_,rfl,.inl (.inl ht2),rfl,_,_,rfl,_,_,rfl,rfl,?_⟩
  refine ⟨Dd (by simp),fun D hD=>?_⟩
  have hD0:=s1.free hD
  obtain ⟨H2,eqH,t0,u0⟩:=JS (o:=HO.lst []) hD
  rw [eqH]
  have s02:=s1.trans t0
  have hS2:CK K H2 A0 ts:=.inl (.inl (s02 _ _ hA))
  have htl:=hts.length
  refine ⟨_,rfl,T1,_,_,_,rfl,rfl,.inl (.inl (s02 _ _ hT1)),Af (j:=2) rfl,A0,rfl,⟨_,hS2⟩,Dl (K:=K) (a:=A0) (xs:=ts) (fun j σ H4=>An H H4/\H4 D=some (.lst ((l.take j).map (G6 pz a qd)))/\∃ v7 v8 v9 v10 v11,σ=[some (.ref p),some (.ref pp),some (.ref T1),some (.int (i:Nat)),some (.int (qd.1:Nat)),some (.int (qd.2:Nat)),some (.ref D),v7,v8,v9,v10,v11])
   ⟨s02,u0,_,_,_,_,_,rfl⟩ (fun j σ H4 _ h=>.inl (.inl (h.1 _ _ hA))) ?_ ?_⟩
  ·rintro j y σ H4 hj ⟨s4,hd,v7,v8,v9,v10,v11,rfl⟩
   obtain ⟨x,hx,T3,rfl,ht3⟩:=En hts hj
   have hxr:=hlr x (List.mem_of_getElem? hx)
   have hzr:=hpz pz[x.r] (List.getElem_mem hxr)
   have ezr:pz.getD x.r 0=pz[x.r]:=by rw [List.getD_eq_getElem?_getD,List.getElem?_eq_getElem hxr]; rfl
   have hpp4:=s4 _ _ hpp
   have fin:∀ {H5:Hp} (pv:V),An H4 H5->H5 D=some (.lst ((l.take j).map (G6 pz a qd)))->G6 pz a qd x=pv->An H (upd H5 D (.lst ((l.take j).map (G6 pz a qd)++[pv])))/\upd H5 D (.lst ((l.take j).map (G6 pz a qd)++[pv])) D=some (.lst ((l.take (j+1)).map (G6 pz a qd)))/\∃ v7 v8 v9 v10 v11,[some (V.ref p),some (.ref pp),some (.ref T1),some (.int (i:Nat)),some (.int (qd.1:Nat)),some (.int (qd.2:Nat)),some (.ref D),some (.int (x.r:Nat)),some (.int x.sh),some (.int x.lo),some (.int x.hi),some pv]=[some (.ref p),some (.ref pp),some (.ref T1),some (.int (i:Nat)),some (.int (qd.1:Nat)),some (.int (qd.2:Nat)),some (.ref D),v7,v8,v9,v10,v11]:=fun {H5} pv s5 hd5 e=>by
    refine ⟨fun b o z=>?_,?_,_,_,_,_,_,rfl⟩
    ·rw [BW (BL z hD0)]
     exact s5 _ _ (s4 _ _ z)
    ·rw [Ak,List.take_add_one,hx,List.map_append,← e]
     rfl
   refine ⟨T3,_,rfl,.inl (.inl (s4 _ _ ht3)),rfl,_,_,rfl,_,_,rfl,_,_,rfl,_,_,rfl,rfl,?_⟩
   refine ⟨_,rfl,_,rfl,T1,_,_,_,rfl,rfl,.inl (.inl (s4 _ _ hT1)),Af (j:=1) rfl,rfl,_,rfl,?_⟩
   by_cases e1:qd.1=a
   rotate_left
   ·have z:decide (V.int (qd.1:Nat)=V.int (a:Nat))=false:=decide_eq_false fun z=>e1 (by have:=V.int.inj z; omega)
    rw [z]
    repeat refine Bj ?_
    exact ⟨_,rfl,.inl ⟨rfl,_,.inl (.inl hd)⟩,_,rfl,D,_,_,rfl,rfl,hd,BJ (by rw [List.length_map,List.length_take]; omega),fin _ (An.refl _) hd (if_neg (fun z=>absurd z.1 e1))⟩
   have z:decide (V.int (qd.1:Nat)=V.int (a:Nat))=true:=by rw [e1]; exact decide_eq_true rfl
   rw [z]
   refine CW ?_
   refine ⟨_,rfl,_,rfl,_,_,rfl,rfl,_,rfl,?_⟩
   by_cases e2:x.lo<=(qd.2:Int)
   rotate_left
   ·rw [decide_eq_false e2]
    refine Bj ⟨_,rfl,?_⟩
    repeat refine Bj ?_
    exact ⟨_,rfl,.inl ⟨rfl,_,.inl (.inl hd)⟩,_,rfl,D,_,_,rfl,rfl,hd,BJ (by rw [List.length_map,List.length_take]; omega),fin _ (An.refl _) hd (if_neg (fun z=>absurd z.2.1 e2))⟩
   rw [decide_eq_true e2]
   refine CW ?_
   refine ⟨_,rfl,_,_,rfl,rfl,_,rfl,?_⟩
   by_cases e3:(qd.2:Int)<=x.hi
   rotate_left
   ·rw [decide_eq_false e3]
    repeat refine Bj ?_
    exact ⟨_,rfl,.inl ⟨rfl,_,.inl (.inl hd)⟩,_,rfl,D,_,_,rfl,rfl,hd,BJ (by rw [List.length_map,List.length_take]; omega),fin _ (An.refl _) hd (if_neg (fun z=>absurd z.2.2.1 e3))⟩
   rw [decide_eq_true e3]
   refine CW ?_
   refine ⟨_,rfl,_,rfl,_,_,rfl,rfl,_,_,rfl,rfl,_,rfl,?_⟩
   by_cases e4:0<=(qd.2:Int)+x.sh
   rotate_left
   ·rw [decide_eq_false e4]
    refine Bj ⟨_,rfl,?_⟩
    repeat refine Bj ?_
    exact ⟨_,rfl,.inl ⟨rfl,_,.inl (.inl hd)⟩,_,rfl,D,_,_,rfl,rfl,hd,BJ (by rw [List.length_map,List.length_take]; omega),fin _ (An.refl _) hd (if_neg (fun z=>absurd z.2.2.2.1 e4))⟩
   rw [decide_eq_true e4]
   refine CW ?_
   refine ⟨_,rfl,_,rfl,pp,_,_,.int (pz[x.r]:Nat),rfl,rfl,.inl (.inl hpp4),Af (by rw [List.getElem?_map,List.getElem?_eq_getElem hxr]; rfl),_,_,rfl,rfl,_,rfl,?_⟩
   by_cases e5:(qd.2:Int)+x.sh<(pz[x.r]:Nat)
   rotate_left
   ·rw [decide_eq_false e5]
    repeat refine Bj ?_
    exact ⟨_,rfl,.inl ⟨rfl,_,.inl (.inl hd)⟩,_,rfl,D,_,_,rfl,rfl,hd,BJ (by rw [List.length_map,List.length_take]; omega),fin _ (An.refl _) hd (if_neg (fun z=>absurd (show (qd.2:Int)+x.sh<(pz[x.r]:Nat) from ezr ▸ z.2.2.2.2) e5))⟩
   rw [decide_eq_true e5]
   refine CW ?_
   have pzi:(pz.map fun n:Nat=>V.int (n:Nat))=(pz.map fun n:Nat=>(n:Int)).map V.int:=by rw [List.map_map]; rfl
   rw [pzi] at hpp4
   refine ⟨_,rfl,_,rfl,_,rfl,pp,_,rfl,.inl (.inl hpp4),fun p6 hp6=>?_⟩
   have t6:=Az (o:=HO.lst (De ((pz.map fun n:Nat=>(n:Int)).map V.int) none (some (x.r:Int)))) hp6
   have u6:upd H4 p6 (HO.lst (De ((pz.map fun n:Nat=>(n:Int)).map V.int) none (some (x.r:Int)))) p6=_:=Ak
   generalize upd H4 p6 (HO.lst (De ((pz.map fun n:Nat=>(n:Int)).map V.int) none (some (x.r:Int))))=H6 at t6 u6 ⊢
   rw [HW _ x.r (by rw [List.length_map,List.length_map]; omega),← List.map_take,← List.map_take] at u6
   have hd6:=t6 _ _ hd
   refine ⟨p6,_,rfl,.inl (.inl u6),(fun n hn=>by
    obtain ⟨m,hm,rfl⟩:=List.mem_map.mp hn
    have:=(hpz m (List.mem_of_mem_take hm)).2
    omega),(by simp; omega),?_⟩
   rw [Fw]
   refine ⟨_,rfl,_,_,rfl,rfl,_,rfl,_,_,rfl,rfl,?_⟩
   exact ⟨_,rfl,.inl ⟨rfl,_,.inl (.inl hd6)⟩,_,rfl,D,_,_,rfl,rfl,hd6,BJ (by rw [List.length_map,List.length_take]; omega),fin _ t6 hd6 (if_pos ⟨e1,e2,e3,e4,by rw [ezr]; exact e5⟩)⟩
  ·rintro σ H4 ⟨s4,hd,v7,v8,v9,v10,v11,rfl⟩
   rw [List.take_of_length_le (by omega)] at hd
   exact ⟨_,rfl,q D H4 hD0 s4 hd⟩
noncomputable def aj (st:Nat->Nat->Nat->Prop):Nat->List (Nat × Nat)->Prop
 | _,[]=>True
 | i,p::r=>st i p.1 p.2/\aj st p.2 r
noncomputable def jh (bs:List (Str × Nat)) (kbs:List Kb) (D i k j:Nat):Prop:=D.testBit k=true/\∃ z,kbs[k]? = some z/\gl bs z i=some j
structure jk (bs:List (Str × Nat)) (kbs:List Kb) (D n T key f:Nat) (pre:List (Nat × Nat)) (k:Nat):Prop where
 held:n.testBit f=true
 chn:aj (jh bs kbs D) f (pre++[(k,key)])
 nd:(pre.map (·.2)++[key]).Nodup
 new:∀ p∈pre,n.testBit p.2=false
 lt:∀ p∈pre,p.2<T
theorem Om {α β:Type} {F:α->β->Prop} {l:List α} {vs:List β} (h:Paired F l vs):Paired F l.reverse vs.reverse:=by
 induction h with
 | nil=>exact .nil
 | cons a b ih =>
  rw [List.reverse_cons,List.reverse_cons]
  exact Ff ih (.cons a .nil)
noncomputable abbrev pV (p:Nat × Nat):List V:=[V.int (p.1:Nat),V.int (p.2:Nat)]
noncomputable def cH:Sp:=fun vs H Q _=>∃ (W:Addr) (n key T:Nat) (bs:List (Str × Nat)) (kbs:List Kb) (D:Nat) (kvs:List (Key × V)) (js:List Nat),vs=[.ref W,.int (n:Nat),.int (key:Nat)]/\H W=some (.dK kvs)/\js.Nodup/\Mm H bs kbs D n kvs js/\key∈js/\(∀ j∈js,j<T)/\T<=400 /\
 ∀ y H' (f:Nat) (pre:List (Nat × Nat)) (k:Nat) (L:Addr) (ys:List V),H L=none->An H H'->TupAt H' [.int (f:Nat),.ref L] y->H' L=some (.lst ys)->Paired (fun (p:Nat × Nat) v=>TupAt H' (pV p) v) (pre++[(k,key)]) ys->jk bs kbs D n T key f pre k->Q y H'
theorem U3:Aw ["ways","held","key","steps","first"] ["ways","held","key"] (Ag iu):=Bo
include N T in
theorem dR:Ar P w K mg base Be 2 aD.fTb aD.dTb ["ways","held","key"] cH:=by
 have GHa:Ar P w K mg base Be 1 aD.fHa aD.dHa ["some","number"] Oc:=K3 N T
 refine N.FTb.1.ok U3 (fun vs H Q E h=>?_) (fun cdv A outer s H vs Q E hr h=>?_)
 ·obtain ⟨W,n,key,TM,bs,kbs,D,kvs,js,rfl,_⟩:=h
  rfl
 ·obtain ⟨W,n,key,TM,bs,kbs,D,kvs,js,rfl,hW,ndj,hpar,hkey,hlt,hT4,q⟩:=h
  have hrHa:BV 1 _:=hr.mono (by decide)
  have hu:=Fy hr
  refine ⟨_,(Ae (Ax (i:=3) U3.nd rfl (Or.inl rfl) (Df (Aa (CV (Aa (Am (Aj (K:=K) rfl) (Ek hu (pv 0) (pv 2) (fun _ _=>rfl)) Ab (fun _ _=>rfl)) (Aa (pv 2) Ac))) Ac)))
   (Ae (Ax (i:=4) U3.nd rfl (Or.inl rfl) (Am (Aj (K:=K) rfl) (Ek hu (pv 0) (pv 2) (fun _ _=>rfl)) Ab (fun _ _=>rfl)))
   (Ae (J0 PassesOwn.never (Cj (Cy (Ai GHa hrHa rfl N.FHa.2.2 N.FHa.1.kp N.FHa.2.1 .nil Ao (Aa (pv 1) (Aa (pv 4) Ac))))) (Ae (DW (Ex PySem.F.plainAttrs_list PySem.F.slot_list_append PySem.F.type_list_append CG (pv 3) (Aa (CV (Aa (Am (Aj (K:=K) rfl) (Ek hu (pv 0) (pv 4) (fun _ _=>rfl)) Ab (fun _ _=>rfl)) (Aa (pv 4) Ac))) Ac)))
   (Ah (Ax (i:=4) U3.nd rfl (Or.inl rfl) (Am (Aj (K:=K) rfl) (Ek hu (pv 0) (pv 4) (fun _ _=>rfl)) Ab (fun _ _=>rfl))))))
   (Ah (Av (CV (Aa (pv 4) (Aa (Nz rfl rfl T.list rfl T.reversed (pv 3)) Ac)))))))),?_⟩
  obtain ⟨m0,hm0⟩:=List.mem_iff_getElem?.mp hkey
  obtain ⟨k0,i0,T0,z0,hv0,hT0,hk0,hz0,hg0,hi0⟩:=hpar m0 key hm0
  have dgt:∀ {H':Hp} {j:Nat} {v:V},An H H'->Ds kvs (kI j)=some v->GF H' W (.int (j:Nat)) (some v):=fun {H' j v} s' e=>by
   have h:=GF.k (k:=kI j) (s' _ _ hW)
   rw [e] at h
   exact h
  refine ⟨_,rfl,_,rfl,W,_,rfl,dgt (An.refl H) hv0,T0,_,_,_,rfl,rfl,.inl (.inl hT0),Af (j:=0) rfl,_,rfl,by show 2<=sizeLine; decide,fun P1 hP1=>⟨by show 1<=sizeLine; decide,fun S hS=>?_⟩⟩
  have t1:=Az (o:=HO.tup [V.int (k0:Nat),V.int (key:Nat)]) hP1
  have uP1:upd H P1 (HO.tup [V.int (k0:Nat),V.int (key:Nat)]) P1=some (.tup (pV (k0,key))):=Ak
  have hS0:H S=none:=t1.free hS
  generalize upd H P1 (HO.tup [V.int (k0:Nat),V.int (key:Nat)])=H1 at t1 uP1 hS ⊢
  obtain ⟨H2,eqH,t2,uS⟩:=JS (o:=HO.lst [V.ref P1]) hS
  rw [eqH]
  have s02:=t1.trans t2
  refine ⟨_,rfl,_,rfl,W,_,rfl,dgt s02 hv0,T0,_,_,_,rfl,rfl,.inl (.inl (s02 _ _ hT0)),Af (j:=1) rfl,?_⟩
  show DX 4 _ _ _ _
  rw [Mz]
  refine Mt ?_
  refine J1 (fun σ H4=>An H H4/\∃ (i M:Nat) (rest:List (Nat × Nat)) (ys:List V),H4 S=some (.lst ys)/\Paired (fun (p:Nat × Nat) v=>TupAt H4 (pV p) v) ((k0,key)::rest) ys/\aj (jh bs kbs D) i ((k0,key)::rest).reverse/\(key::rest.map (·.2)).Nodup/\(∀ x∈key::rest.map (·.2),x∈js.drop M)/\(n.testBit i=true \/ i∈js.take M)/\(∀ p∈rest,n.testBit p.2=false)/\σ=[some (.ref W),some (.int (n:Nat)),some (.int (key:Nat)),some (.ref S),some (.int (i:Nat))])
   (fun _ H4=>TM - Qo (H4 S)) ⟨s02,i0,m0,[],[V.ref P1],uS,.cons ⟨P1,rfl,t2 _ _ uP1⟩ .nil,⟨⟨hk0,z0,hz0,hg0⟩,trivial⟩,(by simp),(fun x hx=>?_),hi0,(fun p hp=>nomatch hp),rfl⟩ ?_ ?_
  ·have:x=key:=by simpa using hx
   subst this
   have hml:=(List.getElem?_eq_some_iff.mp hm0).1
   have:js.drop m0=js[m0]::js.drop (m0+1):=List.drop_eq_getElem_cons hml
   rw [this]
   have e:=(List.getElem?_eq_some_iff.mp hm0).2
   rw [e]
   exact List.mem_cons_self ..
  ·rintro σ H4 ⟨s4,i,M,rest,ys,hS4,hp4,hch,nd4,hdr,hi,hnew,rfl⟩
   have hyl:=hp4.length
   have hall:∀ x∈key::rest.map (·.2),x<TM:=fun x hx=>hlt x (List.mem_of_mem_drop (hdr x hx))
   have hrl:=Dp TM nd4 hall
   rw [List.length_cons,List.length_map] at hrl
   rw [List.length_cons] at hyl
   refine ⟨_,rfl,_,rfl,n,_,rfl,_,rfl,?_⟩
   have eb:(decide ((0:Int)<=(i:Nat)) && n.testBit ((i:Nat):Int).toNat)=n.testBit i:=by rw [decide_eq_true (by omega),Bool.true_and,Int.toNat_natCast]
   rw [eb]
   cases hb:n.testBit i with
   | true =>
    refine Bj ?_
    refine ⟨_,rfl,_,rfl,S,ys,rfl,.inl (.inl hS4),fun L hL=>⟨by show 2<=sizeLine; decide,fun P hP=>?_⟩⟩
    have t5:=Az (o:=HO.lst ys.reverse) hL
    have uL:upd H4 L (HO.lst ys.reverse) L=some (.lst ys.reverse):=Ak
    generalize upd H4 L (HO.lst ys.reverse)=H5 at t5 uL hP ⊢
    have t6:=Az (o:=HO.tup [V.int (i:Nat),V.ref L]) hP
    refine q _ _ i rest.reverse k0 L ys.reverse (s4.free hL) (s4.trans (t5.trans t6)) ⟨P,rfl,Ak⟩ (t6 _ _ uL) ?_ ⟨hb,?_,?_,(fun p hp=>hnew p (List.mem_reverse.mp hp)),(fun p hp=>hall _ (List.mem_cons_of_mem _ (List.mem_map_of_mem (List.mem_reverse.mp hp))))⟩
    ·rw [← List.reverse_cons]
     exact Al t6 (Al t5 (Om hp4))
    ·rw [← List.reverse_cons]
     exact hch
    ·have h:(key::rest.map (·.2)).reverse.Nodup:=List.pairwise_reverse.mpr (List.Pairwise.imp (fun h=>h.symm) nd4)
     rw [List.reverse_cons,← List.map_reverse] at h
     exact h
   | false =>
    refine CW ?_
    have hi':i∈js.take M:=hi.resolve_left (by rw [hb]; decide)
    obtain ⟨m',hm'⟩:=List.mem_iff_getElem?.mp hi'
    have hmM:m'<M:=by
     have:=(List.getElem?_eq_some_iff.mp hm').1
     rw [List.length_take] at this
     omega
    rw [List.getElem?_take_of_lt hmM] at hm'
    obtain ⟨k,i2,T2,z,hv,hT2,hk,hz,hg,hi2⟩:=hpar m' i hm'
    refine ⟨_,rfl,.inl ⟨rfl,_,.inl (.inl hS4)⟩,_,rfl,_,rfl,W,_,rfl,dgt s4 hv,T2,_,_,_,rfl,rfl,.inl (.inl (s4 _ _ hT2)),Af (j:=0) rfl,_,rfl,by show 2<=sizeLine; decide,fun P hP=>?_⟩
    have t5:=Az (o:=HO.tup [V.int (k:Nat),V.int (i:Nat)]) hP
    have uP:upd H4 P (HO.tup [V.int (k:Nat),V.int (i:Nat)]) P=some (.tup (pV (k,i))):=Ak
    generalize upd H4 P (HO.tup [V.int (k:Nat),V.int (i:Nat)])=H5 at t5 uP ⊢
    have hS5:=t5 _ _ hS4
    refine ⟨S,_,_,rfl,rfl,hS5,MN (by omega),?_⟩
    have uS6:upd H5 S (.lst (ys++[V.ref P])) S=some (.lst (ys++[V.ref P])):=Ak
    have s6:An H (upd H5 S (.lst (ys++[V.ref P]))):=fun b o e=>by rw [BW (BL e hS0)]; exact t5 _ _ (s4 _ _ e)
    have hp6:Paired (fun (p:Nat × Nat) v=>TupAt (upd H5 S (.lst (ys++[V.ref P]))) (pV p) v) ((k0,key)::(rest++[(k,i)])) (ys++[V.ref P]):=by
     have h1:=(B_ (ws:=ys++[V.ref P]) (Al t5 hp4) hS5).snoc (TupAt.upd (ws:=ys++[V.ref P]) ⟨P,rfl,uP⟩ hS5)
     rwa [List.cons_append] at h1
    generalize upd H5 S (.lst (ys++[V.ref P]))=H6 at uS6 s6 hp6 ⊢
    refine ⟨_,rfl,_,rfl,W,_,rfl,dgt s6 hv,T2,_,_,_,rfl,rfl,.inl (.inl (s6 _ _ hT2)),Af (j:=1) rfl,⟨s6,i2,m',rest++[(k,i)],ys++[V.ref P],uS6,hp6,?_,?_,?_,hi2,?_,rfl⟩,?_⟩
    ·rw [← List.cons_append,List.reverse_append]
     exact ⟨⟨hk,z,hz,hg⟩,hch⟩
    ·rw [List.map_append,← List.cons_append]
     refine List.nodup_append.mpr ⟨nd4,by simp,fun a ha b hb'=>?_⟩
     have eb':b=i:=by simpa using hb'
     subst eb'
     intro e
     subst e
     have hd:=hdr _ ha
     have hnd:=ndj
     rw [← List.take_append_drop M js] at hnd
     exact (List.nodup_append.mp hnd).2.2 _ hi' _ hd rfl
    ·intro x hx
     rw [List.map_append,← List.cons_append] at hx
     rcases List.mem_append.mp hx with h | h
     ·have h2:=hdr x h
      have e:js.drop M=(js.drop m').drop (M - m'):=by rw [List.drop_drop]; congr 1; omega
      rw [e] at h2
      exact List.mem_of_mem_drop h2
     ·have:x=i:=by simpa using h
      subst this
      have hml:=(List.getElem?_eq_some_iff.mp hm').1
      have e2:js.drop m'=js[m']::js.drop (m'+1):=List.drop_eq_getElem_cons hml
      rw [e2]
      have e3:=(List.getElem?_eq_some_iff.mp hm').2
      rw [e3]
      exact List.mem_cons_self ..
    ·intro p hp
     rcases List.mem_append.mp hp with h | h
     ·exact hnew p h
     ·have:p=(k,i):=by simpa using h
      rw [this]
      exact hb
    ·have hxi:i<TM:=hlt i (List.mem_of_getElem? hm')
     have hni:(key::rest.map (·.2)++[i]).Nodup:=by
      refine List.nodup_append.mpr ⟨nd4,by simp,fun a ha b hb'=>?_⟩
      have eb':b=i:=by simpa using hb'
      subst eb'
      intro e
      subst e
      have hd:=hdr _ ha
      have hnd:=ndj
      rw [← List.take_append_drop M js] at hnd
      exact (List.nodup_append.mp hnd).2.2 _ hi' _ hd rfl
     have hrl2:=Dp TM hni fun x hx=>by
      rcases List.mem_append.mp hx with h | h
      ·exact hall x h
      ·have:x=i:=by simpa using h
       rw [this]
       exact hxi
     rw [List.length_append,List.length_cons,List.length_map,List.length_singleton] at hrl2
     show TM - Qo (H6 S)<TM - Qo (H4 S)
     rw [uS6,hS4]
     show TM - (ys++[V.ref P]).length<TM - ys.length
     rw [List.length_append,List.length_singleton]
     omega
  ·rintro σ H' Q1 Q2 hm ⟨v1,h1,v2,h2,n',i',e,k,hk,h⟩
   exact ⟨v1,h1,v2,h2,n',i',e,k,hk,hm _ _ h⟩
structure bZ (bs:List (Str × Nat)) (kbs:List Kb) (D n key f:Nat) (st:List (Nat × Nat)) (least:Nat):Prop where
 held:n.testBit f=true
 chn:aj (jh bs kbs D) f st
 last:(f::st.map (·.2)).getLast? = some key
 nd:(f::st.map (·.2)).dropLast.Nodup
 new:key ∉ (st.map (·.2)).dropLast
 few:least<=st.length
 len:st.length<=400
theorem jk.Uq {bs:List (Str × Nat)} {kbs:List Kb} {D n T key f:Nat} {pre:List (Nat × Nat)} {k least:Nat} (h:jk bs kbs D n T key f pre k) (hT:T<=305) (hl:least<=1):bZ bs kbs D n key f (pre++[(k,key)]) least:=by
 have e:(pre++[(k,key)]).map (·.2)=pre.map (·.2)++[key]:=by rw [List.map_append]; rfl
 have ndA:=(List.nodup_append.mp h.nd).1
 have hfA:f ∉ pre.map (·.2):=fun hm=>by
  obtain ⟨p,hp,e⟩:=List.mem_map.mp hm
  have:=h.new p hp
  rw [e,h.held] at this
  cases this
 have hpl:=Dp T ndA fun x hx=>by
  obtain ⟨p,hp,rfl⟩:=List.mem_map.mp hx
  exact h.lt p hp
 rw [List.length_map] at hpl
 refine ⟨h.held,h.chn,?_,?_,?_,?_,?_⟩
 ·rw [e,← List.cons_append,List.getLast?_append]
  rfl
 ·rw [e,← List.cons_append,List.dropLast_concat]
  exact List.nodup_cons.mpr ⟨hfA,ndA⟩
 ·rw [e,List.dropLast_concat]
  exact fun hm=>(List.nodup_append.mp h.nd).2.2 key hm key (by simp) rfl
 ·rw [List.length_append,List.length_singleton]
  omega
 ·rw [List.length_append,List.length_singleton]
  omega
noncomputable def Z5 (C:Addr):Sp:=fun vs H Q _=>∃ (x:Addr) (c:Nat->Str) (sz:List Nat) (kbs:List Kb) (D n key least:Nat),vs=[.ref x,.int (D:Nat),.int (n:Nat),.int (key:Nat),.int (least:Nat)]/\Dg C H x (BX c sz) (Bw c kbs)/\L_ sz.length kbs/\n<2 ^ 1200/\(∀ i,n.testBit i=true->i<sz.sum)/\least<=1 /\
 (∀ y H' (f:Nat) (st:List (Nat × Nat)) (L:Addr) (ys:List V),H L=none->An H H'->TupAt H' [.int (f:Nat),.ref L] y->H' L=some (.lst ys)->Paired (fun (p:Nat × Nat) v=>TupAt H' (pV p) v) st ys->bZ (BX c sz) kbs D n key f st least->((least=0/\n.testBit key=true) \/ K9 (stp (BX c sz) kbs D) (fun i=>n.testBit i=true) key)->Q y H') /\
 ∀ H',An H H'->¬ (least=0/\n.testBit key=true)->¬ K9 (stp (BX c sz) kbs D) (fun i=>n.testBit i=true) key->Q .non H'
theorem X7:Aw ["organ","knobs","held","key","least","keys","ways"] ["organ","knobs","held","key","least"] (Ag Vy):=Bo
include N T in
theorem aV:Ar P w K mg base Be 6 aD.fTt aD.dTt ["organ","knobs","held","key","least"] (Z5 C):=by
 have GHk:Ar P w K mg base Be 2 aD.fHk aD.dHk ["organ","held"] (V9 C):=Tc N T
 have GHa:Ar P w K mg base Be 1 aD.fHa aD.dHa ["some","number"] Oc:=K3 N T
 have GWa:Ar P w K mg base Be 4 aD.fWa aD.dWa ["organ","knobs","held"] (Yg C):=Wu N T
 have GTb:Ar P w K mg base Be 2 aD.fTb aD.dTb ["ways","held","key"] cH:=dR N T
 refine N.FTt.1.ok X7 (fun vs H Q E h=>?_) (fun cdv A outer s H vs Q E hr h=>?_)
 ·obtain ⟨x,c,sz,kbs,D,n,key,least,rfl,_⟩:=h
  rfl
 ·obtain ⟨x,c,sz,kbs,D,n,key,least,rfl,O,hkb,hn,hnt,hle,q,q0⟩:=h
  have hrHk:BV 2 _:=hr.mono (by decide)
  have hrHa:BV 1 _:=hr.mono (by decide)
  have hrWa:BV 4 _:=hr.mono (by decide)
  have hrTb:BV 2 _:=hr.mono (by decide)
  have hu:=Fy hr
  refine ⟨_,(Ae (Ax (i:=5) X7.nd rfl (Or.inl rfl) (Ai GHk hrHk rfl N.FHk.2.2 N.FHk.1.kp N.FHk.2.1 .nil Ao (Aa (pv 0) (Aa (pv 2) Ac))))
   (Ae (Bt (PW.pt (Fp (BR DG (pv 4) Ab (BZ _)) (FT (Cy (Ai GHa hrHa rfl N.FHa.2.2 N.FHa.1.kp N.FHa.2.1 .nil Ao (Aa (pv 5) (Aa (pv 3) Ac))))))) (Ah (Av (CV (Aa (pv 3) (Aa (Df Ac) Ac))))) Bd)
   (Ae (Ax (i:=6) X7.nd rfl (Or.inl rfl) (Ai GWa hrWa rfl N.FWa.2.2 N.FWa.1.kp N.FWa.2.1 .nil Ao (Aa (pv 0) (Aa (pv 1) (Aa (pv 5) Ac)))))
   (Ah (Av (J8 (Ob (YQ hu (pv 3) (pv 6))) (Ai GTb hrTb rfl N.FTb.2.2 N.FTb.1.kp N.FTb.2.1 .nil Ao (Aa (pv 6) (Aa (pv 5) (Aa (pv 3) Ac)))) Gv)))))),?_⟩
  have hsum:((BX c sz).map (·.2)).sum=sz.sum:=by rw [Bk]
  have h305:=Ej O
  rw [hsum] at h305
  refine ⟨_,rfl,_,rfl,x,BX c sz,Bw c kbs,n,rfl,O,hn,?_⟩
  rw [hsum,Li hnt]
  refine ⟨_,rfl,rfl,_,rfl,?_⟩
  have eb:(decide ((0:Int)<=(key:Nat)) && n.testBit ((key:Nat):Int).toNat)=n.testBit key:=by rw [decide_eq_true (by omega),Bool.true_and,Int.toNat_natCast]
  by_cases hz:least=0
  ·subst hz
   refine CW ?_
   refine ⟨_,rfl,_,rfl,n,_,rfl,_,rfl,?_⟩
   rw [eb]
   cases hb:n.testBit key with
   | true =>
    refine CW ?_
    refine ⟨_,rfl,Dd (by simp),fun L hL=>⟨by show 2<=sizeLine; decide,fun P1 hP1=>?_⟩⟩
    have t1:=Az (o:=HO.lst []) hL
    have u1:upd H L (HO.lst []) L=some (.lst []):=Ak
    generalize upd H L (HO.lst [])=H1 at t1 u1 hP1 ⊢
    exact q _ _ key [] L [] hL (t1.trans (Az hP1)) ⟨P1,rfl,Ak⟩ ((Az hP1) _ _ u1) .nil ⟨hb,trivial,rfl,List.nodup_nil,by simp,Nat.zero_le _,Nat.zero_le _⟩ (.inl ⟨rfl,hb⟩)
   | false =>
    refine Bj ?_
    have hnz:¬ ((0:Nat)=0/\n.testBit key=true):=fun z=>by rw [hb] at z; cases z.2
    refine ⟨_,rfl,_,rfl,_,rfl,x,c,sz,kbs,D,n,rfl,O,hkb,hn,hnt,fun W kvs js H1 hW s1 hw hkv nd hpar hj=>?_⟩
    have hlt:∀ j∈js,j<sz.sum:=fun j h=>by
     have:=((hj j).mp h).lt
     rw [hsum] at this
     exact this
    refine ⟨_,rfl,_,rfl,W,_,rfl,GF.k (k:=kI key) hw,_,rfl,?_⟩
    rw [Lk hkv key]
    by_cases hkin:key∈js
    ·rw [decide_eq_true hkin]
     refine CW ?_
     exact ⟨_,rfl,_,rfl,_,rfl,W,n,key,sz.sum,BX c sz,kbs,D,kvs,js,rfl,hw,nd,hpar,hkin,hlt,by omega,fun y H' f pre k L ys hL0 s' hy hL hp ht=>q y H' f _ L ys (s1.free hL0) (s1.trans s') hy hL hp (ht.Uq h305 hle) (.inr ((hj key).mp hkin))⟩
    ·rw [decide_eq_false hkin]
     exact Bj (q0 H1 s1 hnz fun r=>hkin ((hj key).mpr r))
  ·have ez:decide (V.int (least:Nat)=V.int 0)=false:=decide_eq_false fun z=>hz (by have:=V.int.inj z; omega)
   rw [ez]
   refine Bj (Bj ?_)
   have hnz:¬ (least=0/\n.testBit key=true):=fun z=>hz z.1
   refine ⟨_,rfl,_,rfl,_,rfl,x,c,sz,kbs,D,n,rfl,O,hkb,hn,hnt,fun W kvs js H1 hW s1 hw hkv nd hpar hj=>?_⟩
   have hlt:∀ j∈js,j<sz.sum:=fun j h=>by
    have:=((hj j).mp h).lt
    rw [hsum] at this
    exact this
   refine ⟨_,rfl,_,rfl,W,_,rfl,GF.k (k:=kI key) hw,_,rfl,?_⟩
   rw [Lk hkv key]
   by_cases hkin:key∈js
   ·rw [decide_eq_true hkin]
    refine CW ?_
    exact ⟨_,rfl,_,rfl,_,rfl,W,n,key,sz.sum,BX c sz,kbs,D,kvs,js,rfl,hw,nd,hpar,hkin,hlt,by omega,fun y H' f pre k L ys hL0 s' hy hL hp ht=>q y H' f _ L ys (s1.free hL0) (s1.trans s') hy hL hp (ht.Uq h305 hle) (.inr ((hj key).mp hkin))⟩
   ·rw [decide_eq_false hkin]
    exact Bj (q0 H1 s1 hnz fun r=>hkin ((hj key).mpr r))
theorem S8 {st:Nat->Nat->Nat->Prop}:∀ {f:Nat} {l:List (Nat × Nat)},aj st f l->∀ {m:Nat} {p:Nat × Nat},l[m]? = some p->∃ b,(f::l.map (·.2))[m]? = some b/\st b p.1 p.2
 | f,[],_,m,p,hp=>by simp at hp
 | f,a::l,h,0,p,hp=>by
  have:a=p:=by simpa using hp
  subst this
  exact ⟨f,rfl,h.1⟩
 | f,a::l,h,m+1,p,hp=>by
  have hp':l[m]? = some p:=by simpa using hp
  obtain ⟨b,hb,hs⟩:=S8 h.2 hp'
  exact ⟨b,by simpa using hb,hs⟩
theorem Ih {xs:List V} {v:V} (h:xs.getLast? = some v):Nb xs (-1)=some v:=by
 have hne:xs ≠ []:=fun z=>by rw [z] at h; cases h
 have hl:1<=xs.length:=by cases xs with | nil=>exact absurd rfl hne | cons a l=>simp
 unfold Nb Wl
 rw [if_neg (by decide),if_pos (by omega)]
 show xs[((-1:Int)+(xs.length:Int)).toNat]? = some v
 have e:((-1:Int)+(xs.length:Int)).toNat=xs.length - 1:=by omega
 rw [e,← List.getLast?_eq_getElem?]
 exact h
theorem Yd (xs:List V):De xs none (some (-1))=xs.dropLast:=by
 unfold De
 show (xs.drop 0).take ((if (-1:Int)<0 then ((-1:Int)+(xs.length:Int)).toNat else min (-1:Int).toNat xs.length) - 0)=_
 rw [if_pos (by decide),List.drop_zero,List.dropLast_eq_take]
 congr 1
 omega
theorem Us (xs:List V) (h:1<=xs.length):De xs (some 1) (some (-1))=(xs.drop 1).dropLast:=by
 unfold De
 show (xs.drop (if (1:Int)<0 then ((1:Int)+(xs.length:Int)).toNat else min (1:Int).toNat xs.length)).take ((if (-1:Int)<0 then ((-1:Int)+(xs.length:Int)).toNat else min (-1:Int).toNat xs.length) - (if (1:Int)<0 then ((1:Int)+(xs.length:Int)).toNat else min (1:Int).toNat xs.length))=_
 have e1:(if (1:Int)<0 then ((1:Int)+(xs.length:Int)).toNat else min (1:Int).toNat xs.length)=1:=by
  rw [if_neg (by decide)]
  show min 1 xs.length=1
  omega
 rw [e1,if_pos (by decide),List.dropLast_eq_take,List.length_drop]
 congr 1
 omega
theorem KH:∀ (ns acc:List Int),(acc++ns).Nodup->ns.foldl Wd.Gq acc=acc++ns
 | [],acc,_=>by rw [List.append_nil]; rfl
 | a::ns,acc,h=>by
  have hna:¬ a∈acc:=fun hm=>(List.nodup_append.mp h).2.2 a hm a (List.mem_cons_self ..) rfl
  have e:Wd.Gq acc a=acc++[a]:=by unfold Wd.Gq; rw [if_neg hna]
  rw [List.foldl_cons,e,KH ns (acc++[a]) (by rw [List.append_assoc]; exact h),List.append_assoc]
  rfl
theorem Lr {a b:Nat} (h:a=b):(!decide (V.int (a:Nat)=V.int (b:Nat)))=false:=by rw [h]; simp
theorem Qs {l:List Nat} {m b:Nat} (h:l[m]? = some b):(l.take (m+1)).getLast? = some b:=by
 rw [List.take_add_one,h]
 simp
noncomputable def bD:Sp:=fun vs H Q _=>∃ (DS DK DD DH L:Addr) (y:V) (c:Nat->Str) (sz:List Nat) (kbs:List Kb) (us ys:List V) (dl hl:List Nat) (key f least:Nat) (st:List (Nat × Nat)),vs=[.ref DS,.ref DK,.ref DD,.ref DH,.int (key:Nat),.int (least:Nat),y]/\H DS=some (.lst (nV sz))/\sz.length<=5/\(∀ s∈sz,s<=61)/\sz.sum<=305/\H DK=some (.lst us)/\Paired (fun (k:Kb) y=>Hv H k y) kbs us/\L_ sz.length kbs/\H DD=some (.lst (nV dl))/\H DH=some (.lst (nV hl)) /\
 TupAt H [.int (f:Nat),.ref L] y/\H L=some (.lst ys)/\Paired (fun (p:Nat × Nat) v=>TupAt H (pV p) v) st ys/\bZ (BX c sz) kbs (Wd.mk dl) (Wd.mk hl) key f st least/\∀ H',An H H'->Q (.bl true) H'
theorem X_:Aw ["_law_sizes_here","_law_knobs_here","_law_drawn_here","_law_held_here","_law_key","_law_least","_law_trail","_law_seen","_law_step"] ["_law_sizes_here","_law_knobs_here","_law_drawn_here","_law_held_here","_law_key","_law_least","_law_trail"] (Ag jy):=Bo
include N T in
theorem Zc:Ar P w K mg base Be 3 aD.fLd aD.dLd ["_law_sizes_here","_law_knobs_here","_law_drawn_here","_law_held_here","_law_key","_law_least","_law_trail"] bD:=by
 have GLw:Ar P w K mg base Be 1 aD.fLw aD.dLw ["_law_found"] Q0:=WN N T
 have GGo:Ar P w K mg base Be 2 aD.fGo aD.dGo ["_law_sizes_here","_law_knob_here","_law_key"] Xi:=Wq N T
 refine N.FLd.1.ok X_ (fun vs H Q E h=>?_) (fun cdv A outer s H vs Q E hr h=>?_)
 ·obtain ⟨DS,DK,DD,DH,L,y,c,sz,kbs,us,ys,dl,hl,key,f,least,st,rfl,_⟩:=h
  rfl
 ·obtain ⟨DS,DK,DD,DH,L,y,c,sz,kbs,us,ys,dl,hl,key,f,least,st,rfl,hS0,h5,h61,h305,hK0,hpr,hkb,hd,hh,hy,hL,hst,trl,q⟩:=h
  have hrLw:BV 1 _:=hr.mono (by decide)
  have hrGo:BV 2 _:=hr.mono (by decide)
  refine ⟨_,(Ae (Bt (PW.pt (Dr (Cj (Cy (BP Ci rfl T.isin PyProof.Rows.boot_isinstance (Aa (pv 6) (Aa (Do (v:=.ty "tuple") rfl T.tuple PyProof.Rows.boot_tuple rfl) Ac))))) (Dr (BR Ey (BP Bb rfl T.len PySem.boot_len (Aa (pv 6) Ac)) Ab (BZ _)) (Dr (Cj (Cy (Ai GLw hrLw rfl N.FLw.2.2 N.FLw.1.kp N.FLw.2.1 .nil Ao (Aa (Am (Aj (K:=K) rfl) (pv 6) Ab (fun _ _=>rfl)) Ac)))) (Ea (Cj (Cy (BP Ci rfl T.isin PyProof.Rows.boot_isinstance (Aa (Am (Aj (K:=K) rfl) (pv 6) Ab (fun _ _=>rfl)) (Aa (Do (v:=.ty "list") rfl T.list PyProof.Rows.boot_list rfl) Ac)))))))))) (Ah (Av Ef)) Bd)
   (Ae (Bt (PW.pt (Dr (BR FQ (Am (Aj (K:=K) rfl) (pv 6) Ab (fun _ _=>rfl)) (pv 3) rfl) (Ea (BR Gz (BP Bb rfl T.len PySem.boot_len (Aa (Am (Aj (K:=K) rfl) (pv 6) Ab (fun _ _=>rfl)) Ac)) (pv 5) (BZ _))))) (Ah (Av Ef)) Bd)
   (Ae (Ax (i:=7) X_.nd rfl (Or.inl rfl) (Df (Aa (Am (Aj (K:=K) rfl) (pv 6) Ab (fun _ _=>rfl)) Ac)))
   (Ae (Cq PassesOwn.never rfl (Bg (Am (Aj (K:=K) rfl) (pv 6) Ab (fun _ _=>rfl))) (Ba (i:=8) X_.nd rfl (Or.inl rfl)) (Ae (Bt (PW.pt (Dr (Cj (Cy (BP Ci rfl T.isin PyProof.Rows.boot_isinstance (Aa (pv 8) (Aa (Do (v:=.ty "tuple") rfl T.tuple PyProof.Rows.boot_tuple rfl) Ac))))) (Dr (BR Ey (BP Bb rfl T.len PySem.boot_len (Aa (pv 8) Ac)) Ab (BZ _)) (Dr (Cj (Cy (Ai GLw hrLw rfl N.FLw.2.2 N.FLw.1.kp N.FLw.2.1 .nil Ao (Aa (Am (Aj (K:=K) rfl) (pv 8) Ab (fun _ _=>rfl)) Ac)))) (Ea (Cj (Cy (Ai GLw hrLw rfl N.FLw.2.2 N.FLw.1.kp N.FLw.2.1 .nil Ao (Aa (Am (Aj (K:=K) rfl) (pv 8) Ab (fun _ _=>rfl)) Ac))))))))) (Ah (Av Ef)) Bd)
   (Ae (Bt (PW.pt (Dr (BR FQ (Am (Aj (K:=K) rfl) (pv 8) Ab (fun _ _=>rfl)) (pv 2) rfl) (Ea (BR Ey (Am (Aj (K:=K) rfl) (Am (A_ (K:=K) rfl) (pv 1) (Am (Aj (K:=K) rfl) (pv 8) Ab (fun _ _=>rfl)) (fun _ _=>rfl)) Ab (fun _ _=>rfl)) Br (BZ _))))) (Ah (Av Ef)) Bd)
   (Ae (Bt (BR Ey (Ai GGo hrGo rfl N.FGo.2.2 N.FGo.1.kp N.FGo.2.1 .nil Ao (Aa (pv 0) (Aa (Am (A_ (K:=K) rfl) (pv 1) (Am (Aj (K:=K) rfl) (pv 8) Ab (fun _ _=>rfl)) (fun _ _=>rfl)) (Aa (Am (A_ (K:=K) rfl) (pv 7) (Ha Fe Ab) (fun _ _=>rfl)) Ac)))) (Am (Aj (K:=K) rfl) (pv 8) Ab (fun _ _=>rfl)) (BZ _)) (Ah (Av Ef)) Bd)
   (Ah (DW (Ex PySem.F.plainAttrs_list PySem.F.slot_list_append PySem.F.type_list_append CG (pv 7) (Aa (Am (Aj (K:=K) rfl) (pv 8) Ab (fun _ _=>rfl)) Ac))))))))
   (Ae (Bt (PW.pt (Dr (BR Ey (Am (A_ (K:=K) rfl) (pv 7) (Ha Fe Ab) (fun _ _=>rfl)) (pv 4) (BZ _)) (Ea (BR Ey (BP Kf rfl T.len PySem.boot_len (Aa (Dz (Ru rfl) rfl T.set PyProof.Rows.boot_set (Aa (Dt Gp (pv 7) Ez (Cv (Ha Fe Ab))) Ac)) Ac)) (Aq Dv (BP Bb rfl T.len PySem.boot_len (Aa (pv 7) Ac)) Ab) (BZ _))))) (Ah (Av Ef)) Bd)
   (Ah (Av (EY FQ (Am (A_ (K:=K) rfl) (pv 7) (Ha Fe Ab) (fun _ _=>rfl)) (Dt Gp (pv 7) (Cv Ab) (Cv (Ha Fe Ab))) rfl)))))))),?_⟩
  obtain ⟨T0,rfl,hT0⟩:=hy
  obtain ⟨tr1,tr2,tr3,tr4,tr5,tr6,tr7⟩:=trl
  have bitL:∀ (l:List Nat) k,(Wd.mk l).testBit k=true ↔ k∈l:=fun l k=>by rw [Wd.Fq,decide_eq_true_eq]
  have hfh:f∈hl:=(bitL hl f).mp tr1
  have hyl:=hst.length
  refine ⟨_,rfl,_,"tuple",_,_,rfl,.tup hT0,Pu,_,rfl,Bj ?_⟩
  refine ⟨_,rfl,T0,_,rfl,.inr (.inl (.inl hT0)),rfl,_,rfl,Bj ?_⟩
  refine ⟨_,rfl,T0,_,_,_,rfl,rfl,.inl (.inl hT0),Af (j:=0) rfl,_,rfl,_,rfl,Bj ?_⟩
  refine ⟨_,rfl,T0,_,_,_,rfl,rfl,.inl (.inl hT0),Af (j:=1) rfl,_,"list",_,_,rfl,.lst hL,Tg,_,rfl,Bj ?_⟩
  refine ⟨_,rfl,T0,_,_,_,rfl,rfl,.inl (.inl hT0),Af (j:=0) rfl,_,rfl,DH,_,rfl,.inl (.inl (.inl hh)),rfl,FP _,_,rfl,?_⟩
  rw [El,decide_eq_true hfh]
  refine Bj ?_
  refine ⟨_,rfl,T0,_,_,_,rfl,rfl,.inl (.inl hT0),Af (j:=1) rfl,L,_,rfl,.inl (.inl (.inl hL)),_,rfl,_,_,rfl,rfl,_,rfl,?_⟩
  refine Dn (fun z=>?_) (fun _=>?_)
  ·exfalso
   have z':=of_decide_eq_true z
   omega
  have hSL:CK K H L ys:=.inl (.inl hL)
  refine ⟨_,rfl,T0,_,_,_,rfl,rfl,.inl (.inl hT0),Af (j:=0) rfl,by show 1<=sizeLine; decide,fun SN hSN=>?_⟩
  have t1:=Az (o:=HO.lst [V.int (f:Nat)]) hSN
  have u1:upd H SN (HO.lst [V.int (f:Nat)]) SN=some (.lst (nV (f::(st.map (·.2)).take 0))):=Ak
  generalize upd H SN (HO.lst [V.int (f:Nat)])=H1 at t1 u1 ⊢
  have hfl:(st.map (·.2)).length=ys.length:=by rw [List.length_map]; exact hyl
  have hsl:ys.length<=400:=by omega
  refine ⟨_,rfl,T0,_,_,_,rfl,rfl,.inl (.inl (t1 _ _ hT0)),Af (j:=1) rfl,L,rfl,⟨_,t1.seq hSL⟩,Dl (K:=K) (a:=L) (xs:=ys) (fun m σ H4=>An H H4/\H4 SN=some (.lst (nV (f::(st.map (·.2)).take m)))/\∃ v8,σ=[some (.ref DS),some (.ref DK),some (.ref DD),some (.ref DH),some (.int (key:Nat)),some (.int (least:Nat)),some (.ref T0),some (.ref SN),v8]) ⟨t1,u1,_,rfl⟩ (fun m σ H4 _ h=>h.1.seq hSL) ?_ ?_⟩
  ·rintro m y σ H4 hm ⟨s4,hs4,v8,rfl⟩
   obtain ⟨⟨kk,jj⟩,hfm,hty⟩:=En (Al s4 hst) hm
   obtain ⟨T1,rfl,hT1⟩:=hty
   obtain ⟨b,hb,hld⟩:=S8 tr2 hfm
   obtain ⟨hkd,z,hz,hg⟩:=hld
   have hkd':kk∈dl:=(bitL dl kk).mp hkd
   have hT1q:IV K H4 T1 [V.int (kk:Nat),V.int (jj:Nat)]:=.inl (.inl hT1)
   refine ⟨_,rfl,_,"tuple",_,_,rfl,.tup hT1,Pu,_,rfl,Bj ?_⟩
   refine ⟨_,rfl,T1,_,rfl,.inr (.inl (.inl hT1)),rfl,_,rfl,Bj ?_⟩
   refine ⟨_,rfl,T1,_,_,_,rfl,rfl,hT1q,Af (j:=0) rfl,_,rfl,_,rfl,Bj ?_⟩
   refine ⟨_,rfl,T1,_,_,_,rfl,rfl,hT1q,Af (j:=1) rfl,_,rfl,_,rfl,Bj ?_⟩
   refine ⟨_,rfl,T1,_,_,_,rfl,rfl,hT1q,Af (j:=0) rfl,_,rfl,DD,_,rfl,.inl (.inl (.inl (s4 _ _ hd))),rfl,FP _,_,rfl,?_⟩
   rw [El,decide_eq_true hkd']
   refine Bj ?_
   obtain ⟨y2,hy2,hkv⟩:=Bh (Paired.Et hpr fun _ _ q=>Hv.mono s4 q) hz
   have hzc:=W9 hg
   have zok:=hkb.ok z (List.mem_of_getElem? hz)
   obtain ⟨j1,j2,s0,rfl⟩:=MK zok hzc
   obtain ⟨hj1,hj2,_,_⟩:=zok
   obtain ⟨T2,rfl,hT2⟩:=hkv.2 rfl
   have hKq:CK K H4 DK us:=.inl (.inl (s4 _ _ hK0))
   refine ⟨_,rfl,_,rfl,T1,_,_,_,rfl,rfl,hT1q,Af (j:=0) rfl,DK,us,_,_,rfl,rfl,hKq,Af hy2,T2,_,_,_,rfl,rfl,.inl (.inl hT2),Af (j:=0) rfl,rfl,_,rfl,Bj ?_⟩
   have hbj2:(BX c sz)[j2]? = some (c j2,sz[j2]):=CT (List.getElem?_eq_getElem hj2)
   obtain ⟨qd,hq⟩:∃ qd,(Ec (BX c sz))[b]? = some qd:=by
    cases hq:(Ec (BX c sz))[b]? with
    | some qd=>exact ⟨qd,rfl⟩
    | none =>
     simp only [gl,hq] at hg
     cases hg
   have hb61:∀ b∈BX c sz,b.2<=61:=fun b hb=>by
    have h:=List.mem_map_of_mem (f:=(·.2)) hb
    rw [Bk] at h
    exact h61 _ h
   have hlast:(nV (f::(st.map (·.2)).take m)).getLast? = some (V.int (b:Nat)):=by
    have h1:(f::(st.map (·.2)).take m)=(f::st.map (·.2)).take (m+1):=rfl
    rw [h1,List.getLast?_map,Qs hb]
    rfl
   have hNq:CK K H4 SN (nV (f::(st.map (·.2)).take m)):=.inl (.inl hs4)
   refine ⟨_,rfl,_,rfl,_,rfl,T1,_,_,_,rfl,rfl,hT1q,Af (j:=0) rfl,DK,us,_,_,rfl,rfl,hKq,Af hy2,_,rfl,_,rfl,SN,_,_,_,rfl,rfl,hNq,Ih hlast,DS,.ref T2,BX c sz,b,j1,j2,s0,(c j2,sz[j2]),qd,rfl,by rw [Bk]; exact s4 _ _ hS0,by rw [Es]; exact h5,hb61,hq,hbj2,⟨T2,rfl,hT2⟩,fun H5 s5=>?_⟩
   rcases KQ (j1:=j1) (s:=s0) hq hbj2 with ⟨e,eg⟩ | ⟨j,e,eg,hjt⟩
   ·rw [eg] at hg
    cases hg
   ·rw [eg] at hg
    cases hg
    rw [e]
    have hT1q5:IV K H5 T1 [V.int (kk:Nat),V.int (jj:Nat)]:=s5.tup hT1q
    refine ⟨_,rfl,T1,_,_,_,rfl,rfl,hT1q5,Af (j:=1) rfl,rfl,_,rfl,?_⟩
    rw [Lr rfl]
    refine Bj ?_
    have hs5:=s5 _ _ hs4
    have hml:m<ys.length:=(List.getElem?_eq_some_iff.mp hm).1
    refine ⟨_,rfl,.inl ⟨rfl,_,.inl (.inl hs5)⟩,_,rfl,T1,_,_,_,rfl,rfl,hT1q5,Af (j:=1) rfl,SN,_,_,rfl,rfl,hs5,MN (by rw [List.length_map,List.length_cons,List.length_take]; omega),?_⟩
    refine ⟨fun b' o e'=>by rw [BW (BL e' hSN)]; exact s5 _ _ (s4 _ _ e'),?_,_,rfl⟩
    have e9:nV (f::(st.map (·.2)).take (m+1))=nV (f::(st.map (·.2)).take m)++[V.int (jj:Nat)]:=by
     rw [VH,List.take_add_one,List.getElem?_map,hfm]
     rfl
    rw [e9]
    exact Ak
  ·rintro σ H4 ⟨s4,hs4,v8,rfl⟩
   rw [List.take_of_length_le (by omega)] at hs4
   have hNq:CK K H4 SN (nV (f::st.map (·.2))):=.inl (.inl hs4)
   have hlast:(nV (f::st.map (·.2))).getLast? = some (V.int (key:Nat)):=by
    rw [List.getLast?_map,tr3]
    rfl
   have hdrop:(nV (f::st.map (·.2))).dropLast=nV (f::st.map (·.2)).dropLast:=List.map_dropLast.symm
   refine ⟨_,rfl,_,rfl,SN,_,_,_,rfl,rfl,hNq,Ih hlast,_,rfl,rfl,_,rfl,?_⟩
   rw [Lr rfl]
   refine Bj ?_
   refine ⟨_,rfl,_,rfl,_,rfl,SN,_,rfl,hNq,fun p5 hp5=>?_⟩
   have t5:=Az (o:=HO.lst (De (nV (f::st.map (·.2))) none (some (-1)))) hp5
   have u5:upd H4 p5 (HO.lst (De (nV (f::st.map (·.2))) none (some (-1)))) p5=_:=Ak
   generalize upd H4 p5 (HO.lst (De (nV (f::st.map (·.2))) none (some (-1))))=H5 at t5 u5 ⊢
   rw [Yd,hdrop] at u5
   have ei:nV (f::st.map (·.2)).dropLast=((f::st.map (·.2)).dropLast.map fun n:Nat=>(n:Int)).map V.int:=by rw [List.map_map]; rfl
   rw [ei] at u5
   have ndN:((f::st.map (·.2)).dropLast.map fun n:Nat=>(n:Int)).Nodup:=by
    refine List.Pairwise.map _ (fun a b (h:a ≠ b)=>?_) tr4
    intro z
    exact h (by omega)
   refine ⟨p5,_,rfl,.inl (.inl u5),by rw [List.length_map,List.length_dropLast,List.length_cons,List.length_map]; omega,fun p6 hp6=>⟨p6,_,rfl,Ak,_,rfl,SN,_,rfl,.inl (.inl (.inl ((Az hp6) _ _ (t5 _ _ hs4)))),_,_,rfl,rfl,rfl,_,rfl,?_⟩⟩
   have e6:(!decide (V.int ((((f::st.map (·.2)).dropLast.map fun n:Nat=>(n:Int)).foldl Wd.Gq []).length:Nat)=V.int (((nV (f::st.map (·.2))).length:Nat) - 1)))=false:=by
    rw [KH _ _ (by rw [List.nil_append]; exact ndN)]
    have:(((([]:List Int)++(f::st.map (·.2)).dropLast.map fun n:Nat=>(n:Int)).length:Nat):Int)=(((nV (f::st.map (·.2))).length:Nat):Int) - 1:=by
     simp only [List.nil_append,List.length_map,List.length_dropLast,List.length_cons]
     omega
    rw [this]
    simp
   rw [e6]
   refine Bj ?_
   have s6:=fun o:HO=>t5.trans (Az (o:=o) hp6)
   have e8:De (nV (f::st.map (·.2))) (some 1) (some (-1))=nV (st.map (·.2)).dropLast:=by
    rw [Us _ (by simp)]
    show (nV (st.map (·.2))).dropLast=_
    exact List.map_dropLast.symm
   refine ⟨_,rfl,_,rfl,SN,_,_,_,rfl,rfl,(s6 _).seq hNq,Ih hlast,_,rfl,_,rfl,_,rfl,_,rfl,SN,_,rfl,(s6 _).seq hNq,fun p7 hp7=>⟨p7,_,rfl,.inl (.inl (.inl Ak)),rfl,?_,?_⟩⟩
   ·rw [e8]
    exact FP _
   ·have e9:(if true=true then !inV (V.int (key:Nat)) (De (nV (f::st.map (·.2))) (some 1) (some (-1))) else inV (V.int (key:Nat)) (De (nV (f::st.map (·.2))) (some 1) (some (-1))))=true:=by
     rw [e8,El,decide_eq_false tr5]
     rfl
    show Q (V.bl (if true=true then !inV (V.int (key:Nat)) (De (nV (f::st.map (·.2))) (some 1) (some (-1))) else inV (V.int (key:Nat)) (De (nV (f::st.map (·.2))) (some 1) (some (-1))))) _
    rw [e9]
    exact q _ ((s4.trans (s6 _)).trans (Az hp7))
theorem RQ (a b:List (Str × Nat)):∃ t,Ec (a++b)=Ec a++t:=by
 unfold Ec
 rw [List.zipIdx_append,List.flatMap_append]
 exact ⟨_,rfl⟩
theorem P0 {bs:List (Str × Nat)} {i n:Nat} {b:Str × Nat} (h:bs[i]? = some b) (hn:n<b.2):(Ec bs)[((bs.take i).map (·.2)).sum+n]? = some (i,n):=by
 obtain ⟨t,e⟩:=RQ (bs.take (i+1)) (bs.drop (i+1))
 rw [List.take_append_drop] at e
 have hl:=FW (bs.take i)
 rw [e,G5 h,List.append_assoc,List.getElem?_append_right (by omega),← hl,Nat.add_sub_cancel_left,List.getElem?_append_left (by rw [List.length_map,List.length_range]; exact hn),List.getElem?_map,List.getElem?_range hn]
 rfl
noncomputable def cB (C:Addr):Sp:=fun vs H Q _=>∃ (x:Addr) (bs:List (Str × Nat)) (rk:List (Str × Nat × Int)) (ks:List R) (ls:List (List Ln)) (i:Nat) (qd:Nat × Nat),vs=[.ref x,.int (i:Nat)]/\Cw C H x bs rk ks ls/\(Ec (rk.map Qv))[i]? = some qd/\∀ y,TupAt H (qV qd) y->Q y H
theorem iC:Aw ["self","pipe"] ["self","pipe"] (Ag jl):=Bo
include N T in
theorem Zi:Ar P w K mg base Be 1 aD.fOx aD.dOx ["self","pipe"] (cB C):=by
 refine N.FOx.1.ok iC (fun vs H Q E h=>?_) (fun cdv A outer s H vs Q E hr h=>?_)
 ·refine byC fun hng=>?_
  obtain ⟨x,bs,rk,ks,ls,i,qd,rfl,_⟩:=h
  refine hng ?_
  rfl
 ·refine byC fun hng=>?_
  obtain ⟨x,bs,rk,ks,ls,i,qd,rfl,O,hq,q⟩:=h
  refine hng ?_
  refine ⟨_,(Ah (Av (Am Eb (Cr (pv 0) rfl) (pv 1) (fun _ _=>rfl)))),?_⟩
  refine byC fun hng=>?_
  obtain ⟨⟨dx,fs,bl,bn,kp,kr,bvs,pvs,uvs,kvs,h1,l1,l2,l3,l4,lm,h2,h3,h4,h5,h6,h7,h8,h9⟩,ob5,osz,onk⟩:=id O.o
  refine hng ?_
  refine byC fun hng=>?_
  obtain ⟨dx',fs',rl,rn,pp,kl,rvs,qvs,kvs',g1,m1,m2,m3,m4,g2,g3,g4,g5,g6,g7,lv,g8,g9⟩:=id O.r
  refine hng ?_
  obtain ⟨e1,e2⟩:dx'=dx/\fs'=fs:=by rw [h1] at g1; cases g1; exact ⟨rfl,rfl⟩
  subst e1 e2
  obtain ⟨y,hy,ht⟩:=Bh g7 hq
  exact ⟨_,rfl,x,C,_,_,_,rfl,h1,T.cl,T.n_pipe_places,m3,_,rfl,pp,qvs,_,_,rfl,rfl,.inl (.inl g6),Af hy,q y ht⟩
noncomputable def Nf (sz:List Nat) (rk:List (Str × Nat × Int)) (kbs:List Kb) (ls:List (List Ln)) (D n p:Nat) (q:Nat × Nat):Prop:=∃ (z:Kb) (l:Ln),kbs[q.1]? = some z/\z.w = "stop" /\ D.testBit q.1=true/\(ls.getD q.1 [])[q.2]? = some l/\(Io rk l (Nr sz (Cz kbs q.1) n)).testBit p=true
noncomputable def aG (C:Addr):Sp:=fun vs H Q _=>∃ (x:Addr) (c:Nat->Str) (sz:List Nat) (rk:List (Str × Nat × Int)) (kbs:List Kb) (ls:List (List Ln)) (D n p:Nat),vs=[.ref x,.int (D:Nat),.int (n:Nat),.int (p:Nat)]/\Cw C H x (BX c sz) rk (Bw c kbs) ls/\L_ sz.length kbs/\aq rk ls/\n<2 ^ 1200 /\
 ∀ F (ps:List (Nat × Nat)) (ys:List V) H',H F=none->An H H'->H' F=some (.lst ys)->Paired (fun (p:Nat × Nat) v=>TupAt H' (pV p) v) ps ys->(∀ q,q∈ps ↔ Nf sz rk kbs ls D n p q)->Q (.ref F) H'
theorem PN:Aw ["organ","knobs","keys","pipe","found","knob","stop","numbers","number","line"] ["organ","knobs","keys","pipe"] (Ag jq):=Bo
include N T in
theorem Y4:Ar P w K mg base Be 4 aD.fLt aD.dLt ["organ","knobs","keys","pipe"] (aG C):=by
 have GDc:Ar P w K mg base Be 2 aD.fDc aD.dDc ["organ","knobs","word"] (Ug C):=QQ N T
 have GOs:Ar P w K mg base Be 2 aD.fOs aD.dOs ["self","knob"] (Ut C):=Tf N T
 have GNb:Ar P w K mg base Be 3 aD.fNb aD.dNb ["organ","board","keys"] (YX C):=WQ N T
 have GLl:Ar P w K mg base Be 3 aD.fLl aD.dLl ["organ","line","numbers"] (X4 C):=WX N T
 have GHa:Ar P w K mg base Be 1 aD.fHa aD.dHa ["some","number"] Oc:=K3 N T
 refine N.FLt.1.ok PN (fun vs H Q E h=>?_) (fun cdv A outer s H vs Q E hr h=>?_)
 ·refine byC fun hng=>?_
  obtain ⟨x,c,sz,rk,kbs,ls,D,n,p,rfl,_⟩:=h
  refine hng ?_
  rfl
 ·refine byC fun hng=>?_
  obtain ⟨x,c,sz,rk,kbs,ls,D,n,p,rfl,O,hkb,hls,hn,q⟩:=h
  refine hng ?_
  have hrDc:BV 2 _:=hr.mono (by decide)
  have hrOs:BV 2 _:=hr.mono (by decide)
  have hrNb:BV 3 _:=hr.mono (by decide)
  have hrLl:BV 3 _:=hr.mono (by decide)
  have hrHa:BV 1 _:=hr.mono (by decide)
  have hu:=Fy hr
  refine ⟨_,(Ae (Ax (i:=4) PN.nd rfl (Or.inl rfl) (Df Ac))
   (Ae (Cq PassesOwn.never rfl (Bg (Ai GDc hrDc rfl N.FDc.2.2 N.FDc.1.kp N.FDc.2.1 .nil Ao (Aa (pv 0) (Aa (pv 1) (Aa Br Ac))))) (Ba (i:=5) PN.nd rfl (Or.inl rfl)) (Ae (Ax (i:=6) PN.nd rfl (Or.inl rfl) (C_ (pv 0) T.cl N.FOs.2.2 GOs hrOs N.FOs.2.1 .nil Ao (Aa (pv 5) Ac)))
   (Ae (Ax (i:=7) PN.nd rfl (Or.inl rfl) (Ai GNb hrNb rfl N.FNb.2.2 N.FNb.1.kp N.FNb.2.1 .nil Ao (Aa (pv 0) (Aa (Am (Aj (K:=K) rfl) (pv 6) Ab (fun _ _=>rfl)) (Aa (pv 2) Ac)))))
   (Ah (Cq PassesOwn.never rfl (Ib rfl T.enumerate (Aa (Am (Aj (K:=K) rfl) (pv 6) Ab (fun _ _=>rfl)) Ac)) (GQ rfl (Bf (Ba (i:=8) PN.nd rfl (Or.inl rfl)) (Bf (Ba (i:=9) PN.nd rfl (Or.inl rfl)) Du))) (Ah (Bt (Cy (Ai GHa hrHa rfl N.FHa.2.2 N.FHa.1.kp N.FHa.2.1 .nil Ao (Aa (Ai GLl hrLl rfl N.FLl.2.2 N.FLl.1.kp N.FLl.2.1 .nil Ao (Aa (pv 0) (Aa (pv 9) (Aa (pv 7) Ac)))) (Aa (pv 3) Ac)))) (Ah (DW (Ex PySem.F.plainAttrs_list PySem.F.slot_list_append PySem.F.type_list_append CG (pv 4) (Aa (CV (Aa (pv 5) (Aa (pv 8) Ac))) Ac)))) Bd)))))))
   (Ah (Av (pv 4))))),?_⟩
  have meth:∀ {H':Hp},Cw C H' x (BX c sz) rk (Bw c kbs) ls->∃ dx fs,H' x=some (.ins C dx fs)/\∀ m∈meths,fs.lookup m=none:=fun O'=>by
   refine byC fun hng=>?_
   obtain ⟨⟨dx,fs,_,_,_,_,_,_,_,_,h1,_,_,_,_,lm,_⟩,_⟩:=O'.o
   refine hng ?_
   exact ⟨dx,fs,h1,lm⟩
  refine ⟨Dd (by simp),fun F hF=>?_⟩
  obtain ⟨H0,eqH,t0,u0⟩:=JS (o:=HO.lst []) hF
  rw [eqH]
  refine ⟨_,rfl,_,rfl,x,BX c sz,Bw c kbs,"stop",D,rfl,(O.mono t0).o,fun CL cl H1 hCL s1 hl1 hcl hcll=>?_⟩
  have hcl':∀ k,k∈cl ↔ ∃ z,kbs[k]? = some z/\z.w = "stop" /\ D.testBit k=true:=fun k=>by
   rw [hcl]
   constructor
   ·rintro ⟨r,hr,hw,hd⟩
    obtain ⟨z,hz,rfl⟩:=Dm hr
    rw [Gu] at hw
    exact ⟨z,hz,hw,hd⟩
   ·rintro ⟨z,hz,hc,hd⟩
    exact ⟨_,DY hz,(Gu _ _ _).trans hc,hd⟩
  have hS1:CK K H1 CL (nV cl):=.inl (.inl hl1)
  have s01:=t0.trans s1
  have u0':=u0
  have hCL0:=hCL
  refine ⟨CL,rfl,⟨_,hS1⟩,Dl (K:=K) (a:=CL) (xs:=nV cl) (fun i σ H'=>An H H'/\H' CL=some (.lst (nV cl))/\∃ (ps:List (Nat × Nat)) (ys:List V) (v5 v6 v7 v8 v9:Option V),H' F=some (.lst ys)/\Paired (fun (p:Nat × Nat) v=>TupAt H' (pV p) v) ps ys/\ps.length<=100 * i/\(∀ q,q∈ps ↔ Nf sz rk kbs ls D n p q/\q.1∈cl.take i)/\σ=[some (.ref x),some (.int (D:Nat)),some (.int (n:Nat)),some (.int (p:Nat)),some (.ref F),v5,v6,v7,v8,v9]) ⟨s01,hl1,[],[],_,_,_,_,_,s1 _ _ u0,.nil,Nat.zero_le _,(fun q=>⟨(fun z=>nomatch z),(fun z=>nomatch z.2)⟩),rfl⟩ (fun i σ H' _ h=>.inl (.inl h.2.1)) ?_ ?_⟩
  ·rintro i y σ H2 hy ⟨s2,hl2,ps,ys,v5,v6,v7,v8,v9,hF2,hps,hlen,hiff,rfl⟩
   rw [List.getElem?_map] at hy
   obtain ⟨k,hk,rfl⟩:=Option.map_eq_some_iff.mp hy
   have hi:i<cl.length:=(List.getElem?_eq_some_iff.mp hk).1
   obtain ⟨z,hz,hzw,hzD⟩:=(hcl' k).mp (List.mem_of_getElem? hk)
   have hr:=DY (c:=c) hz
   obtain ⟨rs,er⟩:=Ir hr
   rw [er] at hr
   have hb:=JR hkb hz
   have hbs:(BX c sz)[Cz kbs k]? = some (c (Cz kbs k),sz[Cz kbs k]):=CT (List.getElem?_eq_getElem hb)
   have hkl:k<ls.length:=by
    rw [O.nl,Gh]
    exact (List.getElem?_eq_some_iff.mp hz).1
   obtain ⟨l,hl⟩:∃ l,ls[k]? = some l:=⟨_,List.getElem?_eq_getElem hkl⟩
   have hlG:=hls l (List.mem_of_getElem? hl)
   have elD:ls.getD k []=l:=by rw [List.getD_eq_getElem?_getD,hl]; rfl
   have O2:=O.mono s2
   obtain ⟨dx,fs,hx,lm⟩:=meth O2
   refine ⟨_,rfl,x,dx,fs,rfl,hx,lm _ (by decide +kernel),_,rfl,x,BX c sz,rk,Bw c kbs,ls,k,Cz kbs k,(c (Cz kbs k),sz[Cz kbs k]),_,_,rs,l,rfl,O2,hr,hbs,hl,fun T0 L0 ts H3 fL0 s3 hT0 hL0 htp=>?_⟩
   have O3:=O2.mono s3
   refine ⟨_,rfl,_,rfl,T0,_,_,_,rfl,rfl,.inl (.inl hT0),Af (j:=0) rfl,_,rfl,x,c,sz,Bw c kbs,Cz kbs k,n,rfl,O3.o,hb,hn,fun H4 s4=>?_⟩
   have nlt:=QG n (-((sz.take (Cz kbs k)).sum:Int)) (sz.getD (Cz kbs k) 0)
   have h61:sz.getD (Cz kbs k) 0<=61:=by
    rw [List.getD_eq_getElem?_getD,List.getElem?_eq_getElem hb]
    exact O.o.sz _ (List.mem_of_getElem? hbs)
   have nlt':Nr sz (Cz kbs k) n<2 ^ 1200:=Nat.lt_of_lt_of_le nlt (Nat.pow_le_pow_right (by decide) (by omega))
   have s34:=s3.trans s4
   have s24:=s2.trans s34
   have hL4:=s4 _ _ hL0
   have hT4:=s4 _ _ hT0
   have htp4:=Al s4 htp
   have hlt:=htp4.length
   have hF4:=s34 _ _ hF2
   have hCL4:=s34 _ _ hl2
   have nFL:L0 ≠ F:=Ne.symm (BL hF2 fL0)
   have hps4:=Al s34 hps
   have hS4:CK K H4 L0 ts:=.inl (.inl hL4)
   refine ⟨_,rfl,T0,_,_,_,rfl,rfl,.inl (.inl hT4),Af (j:=1) rfl,L0,rfl,⟨_,hS4⟩,Ip (K:=K) (a:=L0) (xs:=ts) (fun j σ H'=>An H H'/\H' CL=some (.lst (nV cl))/\H' L0=some (.lst ts)/\Paired (fun x y=>TupAt H' (Qk x) y) l ts/\∃ (ps:List (Nat × Nat)) (ys:List V) (v8 v9:Option V),H' F=some (.lst ys)/\Paired (fun (p:Nat × Nat) v=>TupAt H' (pV p) v) ps ys/\ps.length<=100 * i+j/\(∀ q,q∈ps ↔ Nf sz rk kbs ls D n p q/\(q.1∈cl.take i \/ (q.1=k/\q.2<j)))/\σ=[some (.ref x),some (.int (D:Nat)),some (.int (n:Nat)),some (.int (p:Nat)),some (.ref F),some (.int (k:Nat)),some (.ref T0),some (.int (Nr sz (Cz kbs k) n:Nat)),v8,v9]) ⟨s24,hCL4,hL4,htp4,ps,ys,_,_,hF4,hps4,by omega,(fun q=>by rw [hiff]; exact and_congr_right fun _=>⟨.inl,fun z=>z.elim id fun w=>absurd w.2 (Nat.not_lt_zero _)⟩),rfl⟩ (fun j σ H' _ h=>.inl (.inl h.2.2.1)) ?_ ?_⟩
   ·rintro j y σ H5 T5 hy ⟨s5,hCL5,hL5,htp5,ps5,ys5,v8,v9,hF5,hps5,hlen5,hiff5,rfl⟩ hT
    have hjl:j<ts.length:=(List.getElem?_eq_some_iff.mp hy).1
    obtain ⟨ln,hln,hyt⟩:=En htp5 hy
    have t6:=Az (o:=HO.tup [V.int ((j:Nat):Int),y]) hT
    refine ⟨T5,_,rfl,.inl (.inl Ak),rfl,_,_,rfl,_,_,rfl,rfl,?_⟩
    generalize upd H5 T5 (HO.tup [V.int ((j:Nat):Int),y])=H6 at t6 ⊢
    have O6:=O.mono (s5.trans t6)
    refine ⟨_,rfl,_,rfl,_,rfl,x,BX c sz,rk,Bw c kbs,ls,y,ln,_,rfl,O6,hyt.mono t6,hlG.2 ln (List.mem_of_getElem? hln),nlt',fun H7 s7=>⟨_,rfl,_,_,rfl,_,rfl,?_⟩⟩
    have t57:=t6.trans s7
    have s07:=s5.trans t57
    have eb:(decide ((0:Int)<=(p:Nat)) && (Io rk ln (Nr sz (Cz kbs k) n)).testBit ((p:Nat):Int).toNat)=(Io rk ln (Nr sz (Cz kbs k) n)).testBit p:=by rw [decide_eq_true (by omega),Bool.true_and,Int.toNat_natCast]
    rw [eb]
    have hF7:=t57 _ _ hF5
    have hps7:=Al t57 hps5
    have htp7:=Al t57 htp5
    have leadj:Nf sz rk kbs ls D n p (k,j) ↔ (Io rk ln (Nr sz (Cz kbs k) n)).testBit p=true:=by
     constructor
     ·rintro ⟨z',l',h1,h2,h3,h4,h5⟩
      have h4':(ls.getD k [])[j]? = some l':=h4
      rw [elD,hln] at h4'
      cases h4'
      exact h5
     ·intro h
      exact ⟨z,ln,hz,hzw,hzD,by rw [elD]; exact hln,h⟩
    have hyl:=hps7.length
    cases hbit:(Io rk ln (Nr sz (Cz kbs k) n)).testBit p with
    | false =>
     refine Bj ⟨s07,t57 _ _ hCL5,t57 _ _ hL5,htp7,ps5,ys5,_,_,hF7,hps7,by omega,(fun q=>?_),rfl⟩
     rw [hiff5]
     refine and_congr_right fun hq=>or_congr Iff.rfl ⟨fun w=>⟨w.1,by omega⟩,fun w=>⟨w.1,?_⟩⟩
     rcases Nat.lt_or_ge q.2 j with h | h
     ·exact h
     ·exfalso
      have e2:q=(k,j):=Prod.ext w.1 (by show q.2=j; omega)
      rw [e2,leadj,hbit] at hq
      cases hq
    | true =>
     refine CW ⟨_,rfl,.inl ⟨rfl,_,.inl (.inl hF7)⟩,_,rfl,_,rfl,by show 2<=sizeLine; decide,fun P1 hP1=>?_⟩
     have t8:=Az (o:=HO.tup [V.int (k:Nat),V.int (j:Nat)]) hP1
     have u8:upd H7 P1 (HO.tup [V.int (k:Nat),V.int (j:Nat)]) P1=some (.tup (pV (k,j))):=Ak
     generalize upd H7 P1 (HO.tup [V.int (k:Nat),V.int (j:Nat)])=H8 at t8 u8 ⊢
     have hF8:=t8 _ _ hF7
     have t58:=t57.trans t8
     refine ⟨F,ys5,_,rfl,rfl,hF8,Nat.lt_of_le_of_lt (show ys5.length<=30000 by omega) (by decide),?_⟩
     refine ⟨fun b' o e'=>by rw [BW (BL e' hF)]; exact t8 _ _ (s07 _ _ e'),?_,?_,B_ (Al t8 htp7) hF8,ps5++[(k,j)],ys5++[V.ref P1],_,_,Ak,(B_ (ws:=ys5++[V.ref P1]) (Al t8 hps7) hF8).snoc (TupAt.upd (ws:=ys5++[V.ref P1]) ⟨P1,rfl,u8⟩ hF8),?_,(fun q=>?_),rfl⟩
     ·rw [BW (Ne.symm (BL u0' hCL0))]
      exact t58 _ _ hCL5
     ·rw [BW nFL]
      exact t58 _ _ hL5
     ·rw [List.length_append]
      show ps5.length+1<=_
      omega
     ·rw [List.mem_append,hiff5,List.mem_singleton]
      constructor
      ·rintro (⟨h1,h2⟩ | rfl)
       ·exact ⟨h1,h2.imp id fun w=>⟨w.1,by omega⟩⟩
       ·exact ⟨leadj.mpr hbit,.inr ⟨rfl,Nat.lt_succ_self _⟩⟩
      ·rintro ⟨h1,h2 | ⟨h3,h4⟩⟩
       ·exact .inl ⟨h1,.inl h2⟩
       ·rcases Nat.lt_or_ge q.2 j with h | h
        ·exact .inl ⟨h1,.inr ⟨h3,h⟩⟩
        ·exact .inr (Prod.ext h3 (by show q.2=j; omega))
   ·rintro σ H5 ⟨s5,hCL5,hL5,htp5,ps5,ys5,v8,v9,hF5,hps5,hlen5,hiff5,rfl⟩
    refine ⟨s5,hCL5,ps5,ys5,_,_,_,_,_,hF5,hps5,by have:=hlG.1; omega,(fun q=>?_),rfl⟩
    rw [hiff5,List.take_add_one,hk]
    refine and_congr_right fun hq=>?_
    show _ ↔ q.1∈cl.take i++[k]
    rw [List.mem_append,List.mem_singleton]
    refine or_congr Iff.rfl ⟨fun w=>w.1,fun w=>⟨w,?_⟩⟩
    refine byC fun hng=>?_
    obtain ⟨z',l',h1,h2,h3,h4,h5⟩:=hq
    refine hng ?_
    rw [w,elD] at h4
    have:=(List.getElem?_eq_some_iff.mp h4).1
    omega
  ·rintro σ H2 ⟨s2,hl2,ps,ys,v5,v6,v7,v8,v9,hF2,hps,hlen,hiff,rfl⟩
   refine ⟨_,rfl,q F ps ys H2 hF s2 hF2 hps fun q'=>?_⟩
   rw [hiff]
   refine ⟨fun z=>z.1,fun z=>⟨z,?_⟩⟩
   refine byC fun hng=>?_
   obtain ⟨z',l',h1,h2,h3,h4,h5⟩:=z
   refine hng ?_
   have el:(nV cl).length=cl.length:=List.length_map _
   rw [el,List.take_length]
   exact (hcl' _).mpr ⟨z',h1,h2,h3⟩
noncomputable def bH (C:Addr):Sp:=fun vs H Q _=>∃ (x:Addr) (c:Nat->Str) (sz:List Nat) (rk:List (Str × Nat × Int)) (kbs:List Kb) (ls:List (List Ln)) (k j p:Nat) (z:Kb) (l:List Ln) (ln:Ln) (qd:Nat × Nat),vs=[.ref x,.int (k:Nat),.int (j:Nat),.int (p:Nat)]/\Cw C H x (BX c sz) rk (Bw c kbs) ls/\L_ sz.length kbs/\kbs[k]? = some z/\ls[k]? = some l/\l[j]? = some ln/\(Ec (rk.map Qv))[p]? = some qd/\∀ H',An H H'->Q (.int (((sz.take (Cz kbs k)).sum:Nat)+((qd.2:Nat) - ln.sh))) H'
theorem Xa:Aw ["organ","knob","number","pipe","stop","board"] ["organ","knob","number","pipe"] (Ag iw):=Bo
include N T in
theorem dJ:Ar P w K mg base Be 3 aD.fKa aD.dKa ["organ","knob","number","pipe"] (bH C):=by
 have GOs:Ar P w K mg base Be 2 aD.fOs aD.dOs ["self","knob"] (Ut C):=Tf N T
 have GOb:Ar P w K mg base Be 1 aD.fOb aD.dOb ["self"] (Vm C):=Ul N T
 have GOk:Ar P w K mg base Be 2 aD.fOk aD.dOk ["self","board","number"] (Vi C):=Um N T
 have GOx:Ar P w K mg base Be 1 aD.fOx aD.dOx ["self","pipe"] (cB C):=Zi N T
 refine N.FKa.1.ok Xa (fun vs H Q E h=>?_) (fun cdv A outer s H vs Q E hr h=>?_)
 ·refine byC fun hng=>?_
  obtain ⟨x,c,sz,rk,kbs,ls,k,j,p,z,l,ln,qd,rfl,_⟩:=h
  refine hng ?_
  rfl
 ·refine byC fun hng=>?_
  obtain ⟨x,c,sz,rk,kbs,ls,k,j,p,z,l,ln,qd,rfl,O,hkb,hz,hl,hln,hq,q⟩:=h
  refine hng ?_
  have hrOs:BV 2 _:=hr.mono (by decide)
  have hrOb:BV 1 _:=hr.mono (by decide)
  have hrOk:BV 2 _:=hr.mono (by decide)
  have hrOx:BV 1 _:=hr.mono (by decide)
  have hu:=Fy hr
  refine ⟨_,(Ae (Ax (i:=4) Xa.nd rfl (Or.inl rfl) (C_ (pv 0) T.cl N.FOs.2.2 GOs hrOs N.FOs.2.1 .nil Ao (Aa (pv 1) Ac)))
   (Ae (Ax (i:=5) Xa.nd rfl (Or.inl rfl) (Am (A_ (K:=K) rfl) (Eo (pv 0) T.cl N.FOb.2.2 GOb hrOb N.FOb.2.1 .nil Ao) (Am (Aj (K:=K) rfl) (pv 4) Ab (fun _ _=>rfl)) (fun _ _=>rfl)))
   (Ah (Av (C_ (pv 0) T.cl N.FOk.2.2 GOk hrOk N.FOk.2.1 .nil Ao (Aa (Am (Aj (K:=K) rfl) (pv 5) Ab (fun _ _=>rfl)) (Aa (Aq Dv (Am (Aj (K:=K) rfl) (C_ (pv 0) T.cl N.FOx.2.2 GOx hrOx N.FOx.2.1 .nil Ao (Aa (pv 3) Ac)) Ab (fun _ _=>rfl)) (Am (Aj (K:=K) rfl) (Am (A_ (K:=K) rfl) (Am (Aj (K:=K) rfl) (pv 4) Ab (fun _ _=>rfl)) (pv 2) (fun _ _=>rfl)) Ab (fun _ _=>rfl))) Ac))))))),?_⟩
  have meth:∀ {H':Hp},Cw C H' x (BX c sz) rk (Bw c kbs) ls->∃ dx fs,H' x=some (.ins C dx fs)/\∀ m∈meths,fs.lookup m=none:=fun O'=>by
   refine byC fun hng=>?_
   obtain ⟨⟨dx,fs,_,_,_,_,_,_,_,_,h1,_,_,_,_,lm,_⟩,_⟩:=O'.o
   refine hng ?_
   exact ⟨dx,fs,h1,lm⟩
  have hr:=DY (c:=c) hz
  obtain ⟨rs,er⟩:=Ir hr
  rw [er] at hr
  have hb:=JR hkb hz
  have hbs:(BX c sz)[Cz kbs k]? = some (c (Cz kbs k),sz[Cz kbs k]):=CT (List.getElem?_eq_getElem hb)
  obtain ⟨dx,fs,hx,lm⟩:=meth O
  refine ⟨_,rfl,x,dx,fs,rfl,hx,lm _ (by decide +kernel),_,rfl,x,BX c sz,rk,Bw c kbs,ls,k,Cz kbs k,(c (Cz kbs k),sz[Cz kbs k]),_,_,rs,l,rfl,O,hr,hbs,hl,fun T0 L0 ts H1 _ s1 hT0 hL0 htp=>?_⟩
  have O1:=O.mono s1
  have hx1:=s1 _ _ hx
  refine ⟨_,rfl,x,dx,fs,rfl,hx1,lm _ (by decide +kernel),x,BX c sz,Bw c kbs,rfl,O1.o,fun DB bvs H2 hDB s2 hl2 hp2=>?_⟩
  refine byC fun hng=>?_
  obtain ⟨yb,hyb,Tb,rfl,htb⟩:=Bh hp2 hbs
  refine hng ?_
  have s12:=s1.trans s2
  have O2:=O1.mono s2
  refine ⟨_,rfl,T0,_,_,_,rfl,rfl,.inl (.inl (s2 _ _ hT0)),Af (j:=0) rfl,DB,bvs,_,_,rfl,rfl,.inl (.inl hl2),Af hyb,?_⟩
  refine byC fun hng=>?_
  obtain ⟨yl,hyl,Tl,rfl,htl⟩:=Bh (Al s2 htp) hln
  refine hng ?_
  refine ⟨_,rfl,x,dx,fs,rfl,s2 _ _ hx1,lm _ (by decide +kernel),_,rfl,Tb,_,_,_,rfl,rfl,.inl (.inl htb),Af (j:=0) rfl,_,rfl,x,dx,fs,rfl,s2 _ _ hx1,lm _ (by decide +kernel),_,rfl,x,BX c sz,rk,Bw c kbs,ls,p,qd,rfl,O2,hq,fun yq hyq=>?_⟩
  obtain ⟨Tq,rfl,htq⟩:=hyq
  refine ⟨Tq,_,_,_,rfl,rfl,.inl (.inl htq),Af (j:=1) rfl,_,rfl,T0,_,_,_,rfl,rfl,.inl (.inl (s2 _ _ hT0)),Af (j:=1) rfl,_,rfl,L0,ts,_,_,rfl,rfl,.inl (.inl (s2 _ _ hL0)),Af hyl,Tl,_,_,_,rfl,rfl,.inl (.inl htl),Af (j:=1) rfl,_,_,rfl,rfl,x,BX c sz,Bw c kbs,Cz kbs k,(c (Cz kbs k),sz[Cz kbs k]),_,rfl,O2.o,hbs,fun H3 s3=>?_⟩
  have e:(((BX c sz).take (Cz kbs k)).map (·.2)).sum=(sz.take (Cz kbs k)).sum:=by rw [List.map_take,Bk]
  rw [e]
  exact q _ (s12.trans s3)
structure Wg (sz:List Nat) (rk:List (Str × Nat × Int)) (kbs:List Kb) (ls:List (List Ln)) (D p k j key least:Nat):Prop where
 ex:∃ (z:Kb) (l:List Ln) (ln:Ln) (i:Nat),kbs[k]? = some z/\z.w = "stop" /\ D.testBit k=true/\ls[k]? = some l/\l[j]? = some ln/\key=(sz.take (Cz kbs k)).sum+i/\i<sz.getD (Cz kbs k) 0/\ln.lo<=(i:Int)/\(i:Int)<=ln.hi/\0<=(i:Int)+ln.sh/\(i:Int)+ln.sh<(H_ rk ln.r:Nat)/\(p:Int)=(Nq rk ln.r:Nat)+((i:Int)+ln.sh)
 lst:least=1/\JV kbs D (Cz kbs k) \/ least=0/\¬ JV kbs D (Cz kbs k)
noncomputable def bJ (C:Addr):Sp:=fun vs H Q _=>∃ (x:Addr) (c:Nat->Str) (sz:List Nat) (rk:List (Str × Nat × Int)) (kbs:List Kb) (ls:List (List Ln)) (D n p:Nat),vs=[.ref x,.int (D:Nat),.int (n:Nat),.int (p:Nat)]/\Cw C H x (BX c sz) rk (Bw c kbs) ls/\L_ sz.length kbs/\aq rk ls/\n<2 ^ 1200/\(∀ i,n.testBit i=true->i<sz.sum) /\
 (∀ (W TT L:Addr) (f k j key least m:Nat) (st:List (Nat × Nat)) (ys:List V) H',H L=none->An H H'->H' W=some (.tup [.ref TT,.int (k:Nat),.int (j:Nat)])->H' TT=some (.tup [.int (f:Nat),.ref L])->H' L=some (.lst ys)->Paired (fun (p:Nat × Nat) v=>TupAt H' (pV p) v) st ys->bZ (BX c sz) kbs D n key f st least->Wg sz rk kbs ls D p k j key least->(∀ j,m.testBit j=true ↔ Mf c sz kbs D n j)->Nf sz rk kbs ls D m p (k,j)->Q (.ref W) H') /\
 ∀ m H',An H H'->(∀ j,m.testBit j=true ↔ Mf c sz kbs D n j)->(∀ q,¬ Nf sz rk kbs ls D m p q)->Q .non H'
theorem Qj:Aw ["organ","knobs","held","pipe","found","knob","number","key","least"] ["organ","knobs","held","pipe"] (Ag iB):=Bo
include N T in
theorem aQ:Ar P w K mg base Be 8 aD.fWs aD.dWs ["organ","knobs","held","pipe"] (bJ C):=by
 have GSk:Ar P w K mg base Be 6 aD.fSk aD.dSk ["organ","knobs","held"] (U8 C):=Rh N T
 have GLt:Ar P w K mg base Be 4 aD.fLt aD.dLt ["organ","knobs","keys","pipe"] (aG C):=Y4 N T
 have GKa:Ar P w K mg base Be 3 aD.fKa aD.dKa ["organ","knob","number","pipe"] (bH C):=dJ N T
 have GBk:Ar P w K mg base Be 1 aD.fBk aD.dBk ["self","knob"] (Ow C):=Pn N T
 have GMu:Ar P w K mg base Be 3 aD.fMu aD.dMu ["organ","knobs"] (Xf C):=Wk N T
 have GTt:Ar P w K mg base Be 6 aD.fTt aD.dTt ["organ","knobs","held","key","least"] (Z5 C):=aV N T
 refine N.FWs.1.ok Qj (fun vs H Q E h=>?_) (fun cdv A outer s H vs Q E hr h=>?_)
 ·refine byC fun hng=>?_
  obtain ⟨x,c,sz,rk,kbs,ls,D,n,p,rfl,_⟩:=h
  refine hng ?_
  rfl
 ·refine byC fun hng=>?_
  obtain ⟨x,c,sz,rk,kbs,ls,D,n,p,rfl,O,hkb,hls,hn,hnt,q,q0⟩:=h
  refine hng ?_
  have hrSk:BV 6 _:=hr.mono (by decide)
  have hrLt:BV 4 _:=hr.mono (by decide)
  have hrKa:BV 3 _:=hr.mono (by decide)
  have hrBk:BV 1 _:=hr.mono (by decide)
  have hrMu:BV 3 _:=hr.mono (by decide)
  have hrTt:BV 6 _:=hr.mono (by decide)
  have hu:=Fy hr
  refine ⟨_,(Ae (Ax (i:=4) Qj.nd rfl (Or.inl rfl) (Ai GLt hrLt rfl N.FLt.2.2 N.FLt.1.kp N.FLt.2.1 .nil Ao (Aa (pv 0) (Aa (pv 1) (Aa (Ai GSk hrSk rfl N.FSk.2.2 N.FSk.1.kp N.FSk.2.1 .nil Ao (Aa (pv 0) (Aa (pv 1) (Aa (pv 2) Ac)))) (Aa (pv 3) Ac))))))
   (Ae (Bt (Cj (Jv (pv 4) (fun _=>rfl))) (Ah (Av Gv)) Bd)
   (Ae (Ax (i:=5) Qj.nd rfl (Or.inl rfl) (Am (Aj (K:=K) rfl) (Am (A_ (K:=K) rfl) (pv 4) Ab (fun _ _=>rfl)) Ab (fun _ _=>rfl)))
   (Ae (Ax (i:=6) Qj.nd rfl (Or.inl rfl) (Am (Aj (K:=K) rfl) (Am (A_ (K:=K) rfl) (pv 4) Ab (fun _ _=>rfl)) Ab (fun _ _=>rfl)))
   (Ae (Ax (i:=7) Qj.nd rfl (Or.inl rfl) (Ai GKa hrKa rfl N.FKa.2.2 N.FKa.1.kp N.FKa.2.1 .nil Ao (Aa (pv 0) (Aa (pv 5) (Aa (pv 6) (Aa (pv 3) Ac))))))
   (Ae (Ax (i:=8) Qj.nd rfl (Or.inl rfl) (J8 (BR GX (C_ (pv 0) T.cl N.FBk.2.2 GBk hrBk N.FBk.2.1 .nil Ao (Aa (pv 5) Ac)) (Ai GMu hrMu rfl N.FMu.2.2 N.FMu.1.kp N.FMu.2.1 .nil Ao (Aa (pv 0) (Aa (pv 1) Ac))) rfl) Ab Ab))
   (Ah (Av (CV (Aa (Ai GTt hrTt rfl N.FTt.2.2 N.FTt.1.kp N.FTt.2.1 .nil Ao (Aa (pv 0) (Aa (pv 1) (Aa (pv 2) (Aa (pv 7) (Aa (pv 8) Ac)))))) (Aa (pv 5) (Aa (pv 6) Ac)))))))))))),?_⟩
  have meth:∀ {H':Hp},Cw C H' x (BX c sz) rk (Bw c kbs) ls->∃ dx fs,H' x=some (.ins C dx fs)/\∀ m∈meths,fs.lookup m=none:=fun O'=>by
   refine byC fun hng=>?_
   obtain ⟨⟨dx,fs,_,_,_,_,_,_,_,_,h1,_,_,_,_,lm,_⟩,_⟩:=O'.o
   refine hng ?_
   exact ⟨dx,fs,h1,lm⟩
  refine ⟨_,rfl,_,rfl,_,rfl,_,rfl,_,rfl,x,c,sz,kbs,D,n,rfl,O.o,hkb,hn,hnt,fun m H1 s1 hm=>?_⟩
  have h305:=Ej O.o
  rw [Bk] at h305
  have hm12:m<2 ^ 1200:=by
   refine Nat.lt_pow_two_of_testBit _ fun i hi=>?_
   cases hb:m.testBit i with
   | false=>rfl
   | true =>
    have:=(hm i).mp hb
    have hlt:i<sz.sum:=by
     rcases this with h | ⟨h,_⟩
     ·have:=h.lt
      rw [Bk] at this
      exact this
     ·exact hnt i h
    omega
  refine ⟨_,rfl,x,c,sz,rk,kbs,ls,D,m,p,rfl,O.mono s1,hkb,hls,hm12,fun F ps ys H2 hF s2 hF2 hps hiff=>?_⟩
  have s12:=s1.trans s2
  have O2:=O.mono s12
  have hyl:=hps.length
  cases ps with
  | nil =>
   cases ys with
   | cons _ _=>cases hyl
   | nil =>
    refine ⟨_,rfl,_,.inl ⟨_,.inl (.inl hF2),rfl⟩,CW (q0 m H2 s12 hm fun q' hq'=>?_)⟩
    exact nomatch (hiff q').mpr hq'
  | cons kj ps' =>
   obtain ⟨k,j⟩:=kj
   obtain ⟨y0,ys',rfl⟩:∃ y0 ys',ys=y0::ys':=by
    cases ys with
    | nil=>cases hyl
    | cons a b=>exact ⟨a,b,rfl⟩
   obtain ⟨T1,rfl,hT1⟩:TupAt H2 (pV (k,j)) y0:=by
    obtain ⟨y',hy',ht'⟩:=Bh (i:=0) hps rfl
    have:y0=y':=Option.some.inj hy'
    rw [this]
    exact ht'
   have lead:=(hiff (k,j)).mp (List.mem_cons_self ..)
   refine byC fun hng=>?_
   obtain ⟨z,ln,hz,hzw,hzD,hln,hbit⟩:=id lead
   refine hng ?_
   have hkl:k<ls.length:=by
    rw [O.nl,Gh]
    exact (List.getElem?_eq_some_iff.mp hz).1
   obtain ⟨l,hl⟩:∃ l,ls[k]? = some l:=⟨_,List.getElem?_eq_getElem hkl⟩
   have hlG:=hls l (List.mem_of_getElem? hl)
   have elD:ls.getD k []=l:=by rw [List.getD_eq_getElem?_getD,hl]; rfl
   have hln':l[j]? = some ln:=by rw [← elD]; exact hln
   have g:=hlG.2 ln (List.mem_of_getElem? hln')
   refine byC fun hng=>?_
   obtain ⟨i,hi1,hlo,hhi,hs0,hs1,hp⟩:=(Lg g _ _).mp hbit
   refine hng ?_
   obtain ⟨hib,hmb⟩:=(OD _ _ _ _).mp hi1
   obtain ⟨key,ekey⟩:∃ key,key=(sz.take (Cz kbs k)).sum+i:=⟨_,rfl⟩
   rw [← ekey] at hmb
   have hb:=JR hkb hz
   have hsp:=(hm key).mp hmb
   obtain ⟨np,enp⟩:=Int.eq_ofNat_of_zero_le hs0
   have hrk:(rk.map Qv)[ln.r]? = some (Qv (rk[ln.r]'g.r)):=by rw [List.getElem?_map,List.getElem?_eq_getElem g.r]; rfl
   have ezr:H_ rk ln.r=(Qv (rk[ln.r]'g.r)).2:=by
    unfold H_
    rw [List.getD_eq_getElem?_getD,List.getElem?_map,List.getElem?_eq_getElem g.r]
    rfl
   have hplc:=P0 hrk (n:=np) (by rw [← ezr]; omega)
   have est:(((rk.map Qv).take ln.r).map (·.2)).sum=Nq rk ln.r:=by
    unfold Nq
    rw [← List.map_take,List.map_map]
    rfl
   rw [est] at hplc
   have ep:p=Nq rk ln.r+np:=by omega
   rw [← ep] at hplc
   refine ⟨_,rfl,_,.inl ⟨_,.inl (.inl hF2),rfl⟩,Bj ?_⟩
   refine ⟨_,rfl,F,_,_,_,rfl,rfl,.inl (.inl hF2),Af (j:=0) rfl,T1,_,_,_,rfl,rfl,.inl (.inl hT1),Af (j:=0) rfl,_,rfl,F,_,_,_,rfl,rfl,.inl (.inl hF2),Af (j:=0) rfl,T1,_,_,_,rfl,rfl,.inl (.inl hT1),Af (j:=1) rfl,?_⟩
   refine ⟨_,rfl,_,rfl,_,rfl,_,rfl,x,c,sz,rk,kbs,ls,k,j,p,z,l,ln,_,rfl,O2,hkb,hz,hl,hln',hplc,fun H3 s3=>?_⟩
   have ek:(((sz.take (Cz kbs k)).sum:Nat):Int)+(((np:Nat):Int) - ln.sh)=((key:Nat):Int):=by omega
   dsimp only
   rw [ek]
   have O3:=O2.mono s3
   obtain ⟨dx,fs,hx,lm⟩:=meth O3
   have hr:=DY (c:=c) hz
   obtain ⟨rs,er⟩:=Ir hr
   rw [er] at hr
   have hbs:(BX c sz)[Cz kbs k]? = some (c (Cz kbs k),sz[Cz kbs k]):=CT (List.getElem?_eq_getElem hb)
   refine ⟨_,rfl,x,dx,fs,rfl,hx,lm _ (by decide +kernel),_,rfl,x,BX c sz,Bw c kbs,k,Cz kbs k,(c (Cz kbs k),sz[Cz kbs k]),_,_,rs,rfl,O3.o,hr,hbs,_,rfl,_,rfl,x,c,sz,kbs,D,rfl,O3.o,hkb,fun ML ml H4 hML s4 hl4 hml hmll=>⟨ML,_,rfl,.inl (.inl (.inl hl4)),rfl,FP _,_,rfl,?_⟩⟩
   have s04:=s12.trans (s3.trans s4)
   have O4:=O3.mono s4
   rw [if_neg Bool.false_ne_true,El]
   have hbrd:XF sz key (Cz kbs k):=⟨i,hib,hb,ekey⟩
   by_cases hmu:Cz kbs k∈ml
   ·rw [decide_eq_true hmu]
    refine CW ?_
    refine ⟨_,rfl,_,rfl,_,rfl,_,rfl,_,rfl,x,c,sz,kbs,D,n,key,1,rfl,O4.o,hkb,hn,hnt,by decide,(fun yt H5 f st L ys5 hL s5 hyt hL5 hp5 Uq _=>?_),(fun H5 s5 n1 n2=>?_)⟩
    rotate_left
    ·exfalso
     rcases hsp with h | ⟨_,h⟩
     ·exact n2 h
     ·exact h _ hbrd ((hml _).mp hmu)
    obtain ⟨TT,rfl,hTT⟩:=hyt
    refine ⟨_,rfl,_,rfl,by show 3<=sizeLine; decide,fun W hW=>?_⟩
    have t6:=Az (o:=HO.tup [V.ref TT,V.int (k:Nat),V.int (j:Nat)]) hW
    have s6:=s5.trans t6
    exact q W TT L f k j key 1 m st ys5 _ (s04.free hL) (s04.trans s6) Ak (t6 _ _ hTT) (t6 _ _ hL5) (Al t6 hp5) Uq ⟨⟨z,l,ln,i,hz,hzw,hzD,hl,hln',ekey,hib,hlo,hhi,hs0,hs1,hp⟩,.inl ⟨rfl,(hml _).mp hmu⟩⟩ hm lead
   ·rw [decide_eq_false hmu]
    refine Bj ?_
    refine ⟨_,rfl,_,rfl,_,rfl,_,rfl,_,rfl,x,c,sz,kbs,D,n,key,0,rfl,O4.o,hkb,hn,hnt,by decide,(fun yt H5 f st L ys5 hL s5 hyt hL5 hp5 Uq _=>?_),(fun H5 s5 n1 n2=>?_)⟩
    rotate_left
    ·exfalso
     rcases hsp with h | ⟨h,_⟩
     ·exact n2 h
     ·exact n1 ⟨rfl,h⟩
    obtain ⟨TT,rfl,hTT⟩:=hyt
    refine ⟨_,rfl,_,rfl,by show 3<=sizeLine; decide,fun W hW=>?_⟩
    have t6:=Az (o:=HO.tup [V.ref TT,V.int (k:Nat),V.int (j:Nat)]) hW
    have s6:=s5.trans t6
    exact q W TT L f k j key 0 m st ys5 _ (s04.free hL) (s04.trans s6) Ak (t6 _ _ hTT) (t6 _ _ hL5) (Al t6 hp5) Uq ⟨⟨z,l,ln,i,hz,hzw,hzD,hl,hln',ekey,hib,hlo,hhi,hs0,hs1,hp⟩,.inr ⟨rfl,fun z=>hmu ((hml _).mpr z)⟩⟩ hm lead
theorem Tw {c:TT} {t t2 u:TS} {D:Ends} {σ:St} {H:Hp} (P:St->Hp->Prop) (h1:∀ D':Ends,(∀ σ' H',P σ' H'->D'.nx σ' H')->Xd c t t2 D' σ H) (h2:∀ σ' H',P σ' H'->u D σ' H'):Vs (Xd c t t2) u D σ H:=h1 { D with nx:=u D } h2
noncomputable def b_:Sp:=fun vs H Q _=>∃ (W DS DP DK DR DD DH W0 TT L:Addr) (c:Nat->Str) (sz pz:List Nat) (rk:List (Str × Nat × Int)) (kls:List Kl) (us ys:List V) (dl hl:List Nat) (p f k j key least:Nat) (st:List (Nat × Nat)),vs=[.ref W,.ref DD,.ref DH,.int (p:Nat),.ref W0]/\H W=some (.lst [.ref DS,.ref DP,.ref DK,.ref DR])/\H DS=some (.lst (nV sz))/\H DP=some (.lst (nV pz))/\sz.length<=5/\(∀ s∈sz,s<=61)/\sz.sum<=305/\pz.length<=4/\(∀ z∈pz,1<=z/\z<=97)/\H DK=some (.lst us)/\Paired (fun z y=>FN DK H z y) kls us/\QZ sz pz kls/\L_ sz.length (kls.map (·.1))/\H DD=some (.lst (nV dl))/\dl.length<=100/\(∀ k∈dl,k<us.length)/\H DH=some (.lst (nV hl)) /\
 (∀ r,H_ rk r=pz.getD r 0/\Nq rk r=(pz.take r).sum) /\
 H W0=some (.tup [.ref TT,.int (k:Nat),.int (j:Nat)])/\H TT=some (.tup [.int (f:Nat),.ref L])/\H L=some (.lst ys)/\Paired (fun (p:Nat × Nat) v=>TupAt H (pV p) v) st ys/\bZ (BX c sz) (kls.map (·.1)) (Wd.mk dl) (Wd.mk hl) key f st least/\Wg sz rk (kls.map (·.1)) (kls.map (·.2)) (Wd.mk dl) p k j key least/\∀ H',An H H'->Q (.bl true) H'
theorem Jc:Aw ["_law_world_here","_law_drawn_here","_law_held_here","_law_pipe","_law_found","_law_sizes_here","_law_pipes","_law_knobs_here","_law_rows_here","_law_trail","_law_key","_law_muted","_law_least","_law_good","_law_brought"] ["_law_world_here","_law_drawn_here","_law_held_here","_law_pipe","_law_found"] (Ag fP):=Bo
include N T in
theorem Zz:Ar P w K mg base Be 5 aD.fSw aD.dSw ["_law_world_here","_law_drawn_here","_law_held_here","_law_pipe","_law_found"] b_:=by
 have GLw:Ar P w K mg base Be 1 aD.fLw aD.dLw ["_law_found"] Q0:=WN N T
 have GSp:Ar P w K mg base Be 1 aD.fSp aD.dSp ["_law_sizes_here","_law_key"] TY:=QH N T
 have GLd:Ar P w K mg base Be 3 aD.fLd aD.dLd ["_law_sizes_here","_law_knobs_here","_law_drawn_here","_law_held_here","_law_key","_law_least","_law_trail"] bD:=Zc N T
 have GPi:Ar P w K mg base Be 2 aD.fPi aD.dPi ["_law_sizes_here","_law_pipes","_law_knob_here","_law_key"] XS:=Ww N T
 refine N.FSw.1.ok Jc (fun vs H Q E h=>?_) (fun cdv A outer s H vs Q E hr h=>?_)
 ·refine byC fun hng=>?_
  obtain ⟨W,DS,DP,DK,DR,DD,DH,W0,TT,L,c,sz,pz,rk,kls,us,ys,dl,hl,p,f,k,j,key,least,st,rfl,_⟩:=h
  refine hng ?_
  rfl
 ·refine byC fun hng=>?_
  obtain ⟨W,DS,DP,DK,DR,DD,DH,W0,TT,L,c,sz,pz,rk,kls,us,ys,dl,hl9,p,f,k,j,key,least,st,rfl,hW,hS0,hP0,h5,h61,h305,h4,hpz,hK0,hpr,hkls,hkbs,hd,hdl,hdb,hh,hrk,hW0,hTT,hL,hst,Uq,sho,q⟩:=h
  refine hng ?_
  have hrLw:BV 1 _:=hr.mono (by decide)
  have hrSp:BV 1 _:=hr.mono (by decide)
  have hrLd:BV 3 _:=hr.mono (by decide)
  have hrPi:BV 2 _:=hr.mono (by decide)
  have hu:=Fy hr
  refine ⟨_,(Ae (Ly (pv 0) (Ri rfl (Bf (Ba (i:=5) Jc.nd rfl (Or.inl rfl)) (Bf (Ba (i:=6) Jc.nd rfl (Or.inl rfl)) (Bf (Ba (i:=7) Jc.nd rfl (Or.inr rfl)) (Bf (Ba (i:=8) Jc.nd rfl (Or.inl rfl)) Du))))))
   (Ae (Bt (PW.pt (Dr (Cj (Cy (BP Ci rfl T.isin PyProof.Rows.boot_isinstance (Aa (pv 4) (Aa (Do (v:=.ty "tuple") rfl T.tuple PyProof.Rows.boot_tuple rfl) Ac))))) (Dr (BR Ey (BP Bb rfl T.len PySem.boot_len (Aa (pv 4) Ac)) Ab (BZ _)) (Dr (BR (GK (K:=K) rfl) (Am (Aj (K:=K) rfl) (pv 4) Ab (fun _ _=>rfl)) (pv 1) rfl) (Ea (BR Ey (Am (Aj (K:=K) rfl) (Am (A_ (K:=K) rfl) (pv 7) (Am (Aj (K:=K) rfl) (pv 4) Ab (fun _ _=>rfl)) (fun _ _=>rfl)) Ab (fun _ _=>rfl)) Br (BZ _))))))) (Ah (Av Ef)) Bd)
   (Ae (Ax (i:=9) Jc.nd rfl (Or.inl rfl) (Am (Aj (K:=K) rfl) (pv 4) Ab (fun _ _=>rfl)))
   (Ae (Ax (i:=10) Jc.nd rfl (Or.inl rfl) (Am (Aj (K:=K) rfl) (pv 9) Ab (fun _ _=>rfl)))
   (Ae (Bt (BR (R0 (Nat.lt_of_succ_lt hu)) (Am (Aj (K:=K) rfl) (pv 9) Ab (fun _ _=>rfl)) (Df Ac) (BZ _)) (Ah (Ax (i:=10) Jc.nd rfl (Or.inl rfl) (Am (Aj (K:=K) rfl) (Am (A_ (K:=K) rfl) (Am (Aj (K:=K) rfl) (pv 9) Ab (fun _ _=>rfl)) (Ha Fe Ab) (fun _ _=>rfl)) Ab (fun _ _=>rfl)))) Bd)
   (Ae (Gk (i:=11) Jc.nd rfl rfl rfl (Bc (osc:=Ag fP) (N:=["_law_world_here","_law_drawn_here","_law_held_here","_law_pipe","_law_found","_law_sizes_here","_law_pipes","_law_knobs_here","_law_rows_here","_law_trail","_law_key","_law_muted","_law_least","_law_good","_law_brought"]) rfl rfl (by decide +kernel)) (Bg (pv 1)) (fun _ _ _ _=>(Ft (BR DG (Am (Aj (K:=K) rfl) (Am (A_ (K:=K) rfl) (pv 8) (pv 0) (fun _ _=>rfl)) Ab (fun _ _=>rfl)) Br (BZ _)))) (fun _ _ _ _=>(Am (Aj (K:=K) rfl) (Am (A_ (K:=K) rfl) (pv 8) (pv 0) (fun _ _=>rfl)) Ab (fun _ _=>rfl))))
   (Ae (Ax (i:=12) Jc.nd rfl (Or.inl rfl) (Dz Kw rfl T.int PyProof.Rows.boot_int (Aa (EY GX (Am (Aj (K:=K) rfl) (Ai GSp hrSp rfl N.FSp.2.2 N.FSp.1.kp N.FSp.2.1 .nil Ao (Aa (pv 5) (Aa (pv 10) Ac))) Ab (fun _ _=>rfl)) (pv 11) rfl) Ac)))
   (Ae (Ax (i:=13) Jc.nd rfl (Or.inl rfl) (Ai GLd hrLd rfl N.FLd.2.2 N.FLd.1.kp N.FLd.2.1 .nil Ao (Aa (pv 5) (Aa (pv 7) (Aa (pv 1) (Aa (pv 2) (Aa (pv 10) (Aa (pv 12) (Aa (pv 9) Ac)))))))))
   (Ae (Ax (i:=14) Jc.nd rfl (Or.inl rfl) (Ai GPi hrPi rfl N.FPi.2.2 N.FPi.1.kp N.FPi.2.1 .nil Ao (Aa (pv 5) (Aa (pv 6) (Aa (Am (A_ (K:=K) rfl) (pv 7) (Am (Aj (K:=K) rfl) (pv 4) Ab (fun _ _=>rfl)) (fun _ _=>rfl)) (Aa (pv 10) Ac))))))
   (Ah (Av (Dy (pv 13) (Dq (EY DG (Am (A_ (K:=K) rfl) (pv 14) (Am (Aj (K:=K) rfl) (pv 4) Ab (fun _ _=>rfl)) (fun _ _=>rfl)) (pv 3) (BZ _))))))))))))))),?_⟩
  refine byC fun hng=>?_
  obtain ⟨⟨z1,l,ln,i,hz1,hzw,hzD,hl,hln,ekey,hib,hlo,hhi,hs0,hs1,hp⟩,hlst⟩:=sho
  refine hng ?_
  have bitL:∀ k,(Wd.mk dl).testBit k=true ↔ k∈dl:=fun k=>by rw [Wd.Fq,decide_eq_true_eq]
  have hkd:k∈dl:=(bitL k).mp hzD
  have hul:=hpr.length
  obtain ⟨kl,hkl,ek1⟩:∃ kl,kls[k]? = some kl/\kl.1=z1:=by
   rw [List.getElem?_map] at hz1
   obtain ⟨kl,h1,h2⟩:=Option.map_eq_some_iff.mp hz1
   exact ⟨kl,h1,h2⟩
  have ek2:kl.2=l:=by
   rw [List.getElem?_map,hkl] at hl
   exact Option.some.inj hl
  have hkw:kl.1.w = "stop":=by rw [ek1]; exact hzw
  have ebd:Cz (kls.map (·.1)) k=kl.1.bd:=by
   unfold Cz
   rw [List.getElem?_map,hkl]
   cases kl with
   | mk kb l9=>cases kb <;> rfl
  refine byC fun hng=>?_
  obtain ⟨y1,hy1,ex1,⟨T1,rfl,ht1⟩,hex⟩:=Bh hpr hkl
  refine hng ?_
  obtain ⟨A,ts,rfl,nA,hA,hts⟩:∃ A ts,ex1=[.ref A]/\¬ A=DK/\H A=some (.lst ts)/\Paired (fun x y=>TupAt H (Qk x) y) l ts:=by
   rcases hex with ⟨_,_,h⟩ | ⟨_,A,ts,h1,h2,h3,h4⟩
   ·exact (h hkw).elim
   ·exact ⟨A,ts,h1,h2,h3,by rw [← ek2]; exact h4⟩
  have ev:kl.1.v++[.ref A]=[.str "stop",.int (kl.1.bd:Nat),.ref A]:=by
   obtain ⟨kb,l9⟩:=kl
   cases kb with
   | cp a b s9=>exact absurd (show ("coupler" : Str) = "stop" from hkw) (by decide +kernel)
   | pl w9 a =>
    have:w9 = "stop":=hkw
    rw [this]
    rfl
  rw [ev] at ht1
  have hKq:CK K H DK us:=.inl (.inl hK0)
  have hln4:=hkls.ln kl (List.mem_of_getElem? hkl)
  rw [ek2] at hln4
  have htl:=hts.length
  have hjl:j<l.length:=(List.getElem?_eq_some_iff.mp hln).1
  refine ⟨_,rfl,W,_,rfl,.inl (.inl hW),rfl,_,_,rfl,_,_,rfl,_,_,rfl,_,_,rfl,rfl,?_⟩
  refine ⟨_,rfl,_,"tuple",_,_,rfl,.tup hW0,Pu,_,rfl,Bj ?_⟩
  refine ⟨_,rfl,W0,_,rfl,.inr (.inl (.inl hW0)),rfl,_,rfl,Bj ?_⟩
  refine ⟨_,rfl,W0,_,_,_,rfl,rfl,.inl (.inl hW0),Af (j:=1) rfl,_,rfl,DD,_,rfl,.inl (.inl (.inl hd)),rfl,FP _,_,rfl,?_⟩
  rw [El,decide_eq_true hkd]
  refine Bj ⟨_,rfl,_,rfl,W0,_,_,_,rfl,rfl,.inl (.inl hW0),Af (j:=1) rfl,DK,us,_,_,rfl,rfl,hKq,Af hy1,T1,_,_,_,rfl,rfl,.inl (.inl ht1),Af (j:=0) rfl,rfl,_,rfl,Bj ?_⟩
  refine ⟨_,rfl,W0,_,_,_,rfl,rfl,.inl (.inl hW0),Af (j:=0) rfl,?_⟩
  refine ⟨_,rfl,TT,_,_,_,rfl,rfl,.inl (.inl hTT),Af (j:=0) rfl,?_⟩
  show DX 10 _ _ _ _
  unfold DX
  dsimp only
  refine Tw (fun σ' H'=>An H H'/\σ'=[some (.ref W),some (.ref DD),some (.ref DH),some (.int (p:Nat)),some (.ref W0),some (.ref DS),some (.ref DP),some (.ref DK),some (.ref DR),some (.ref TT),some (.int (key:Nat)),none,none,none,none]) (fun D' hD'=>?_) ?_
  ·refine ⟨_,rfl,TT,_,_,_,rfl,rfl,.inl (.inl hTT),Af (j:=1) rfl,Dd (by simp),fun E1 hE1=>?_⟩
   obtain ⟨H1,eqH,t1,u1⟩:=JS (o:=HO.lst []) hE1
   rw [eqH]
   refine ⟨L,E1,_,rfl,rfl,.inl (.inl (t1 _ _ hL)),.inl (.inl u1),_,rfl,?_⟩
   have hlast:=Uq.last
   have hyl:=hst.length
   cases st with
   | nil =>
    obtain rfl:ys=[]:=List.eq_nil_of_length_eq_zero hyl.symm
    obtain rfl:f=key:=Option.some.inj hlast
    exact Bj (hD' _ _ ⟨t1,rfl⟩)
   | cons a st' =>
    have hne:ys ≠ []:=fun z=>by rw [z] at hyl; cases hyl
    rw [show ys.isEmpty=false by cases h:ys with | nil=>exact (hne h).elim | cons _ _=>rfl]
    have hlast':((a::st').map (·.2)).getLast? = some key:=by
     rw [List.map_cons] at hlast ⊢
     rw [List.getLast?_cons_cons] at hlast
     exact hlast
    rw [List.getLast?_map] at hlast'
    obtain ⟨⟨k9,key9⟩,hpr9,e9⟩:=Option.map_eq_some_iff.mp hlast'
    obtain rfl:key9=key:=e9
    rw [List.getLast?_eq_getElem?] at hpr9
    refine byC fun hng=>?_
    obtain ⟨y9,hy9,T9,rfl,hT9⟩:=Bh hst hpr9
    refine hng ?_
    rw [hyl,← List.getLast?_eq_getElem?] at hy9
    exact CW ⟨_,rfl,TT,_,_,_,rfl,rfl,.inl (.inl (t1 _ _ hTT)),Af (j:=1) rfl,_,rfl,L,ys,_,_,rfl,rfl,.inl (.inl (t1 _ _ hL)),Ih hy9,T9,_,_,_,rfl,rfl,.inl (.inl (t1 _ _ hT9)),Af (j:=1) rfl,hD' _ _ ⟨t1,rfl⟩⟩
  rintro σ' H1 ⟨s1,rfl⟩
  have hprK:Paired (fun (k:Kb) y=>Hv H1 k y) (kls.map (·.1)) us:=Paired.Et (Kz hpr) fun _ _ q=>Hv.mono s1 q
  have hKn1:Paired (fun z y=>FN DK H1 z y) kls us:=Paired.Et hpr fun _ _ q=>FN.mono s1 q
  have ht11:=s1 _ _ ht1
  have hW01:=s1 _ _ hW0
  clear hpr
  have hpr:=hprK
  rw [ebd] at ekey hib hlst
  have hKL:kls.length=us.length:=hul
  obtain ⟨kbs,ekb⟩:∃ kbs,kls.map (·.1)=kbs:=⟨_,rfl⟩
  have hul:kbs.length=us.length:=by rw [← ekb,List.length_map]; exact hKL
  rw [ekb] at hpr hkbs Uq hlst
  have hK00:=hK0
  have hK0:=s1 _ _ hK00
  have hd0:=hd
  have hd:=s1 _ _ hd0
  have hSd:CK K H1 DD (nV dl):=.inl (.inl hd)
  let pm:V->Bool:=fun v=>match v with | .int k=>(match kbs[k.toNat]? with | some z=>decide (V.str z.w=V.str "mute") | none=>false) | _=>false
  let fm:V->V:=fun v=>match v with | .int k=>.int (Cz kbs k.toNat:Nat) | _=>.non
  refine ⟨_,rfl,DD,rfl,⟨_,hSd⟩,Ca (K:=K) (xs:=nV dl) pm fm hSd (BJ (by rw [List.length_map]; omega)) (fun v hv H' hs R k=>?_) (fun v hv _ H' hs R k=>?_) (fun ML H2 hML s2 hl1=>?_)⟩
  ·obtain ⟨kk,hkk,rfl⟩:=List.mem_map.mp hv
   have hik:kk<kbs.length:=by have:=hdb kk hkk; omega
   refine byC fun hng=>?_
   obtain ⟨y,hy,⟨T1,r1,rfl,ht1⟩,_⟩:=Bh (Paired.Et hpr fun _ _ q=>Hv.mono hs q) (List.getElem?_eq_getElem hik)
   refine hng ?_
   have q1:=k H' (An.refl H')
   have e0:pm (V.int (kk:Nat))=decide (V.str (kbs[kk]).w=V.str "mute"):=by
    show (match kbs[((kk:Nat):Int).toNat]? with | some z=>decide (V.str z.w=V.str "mute") | none=>false)=_
    rw [Int.toNat_natCast,List.getElem?_eq_getElem hik]
   rw [e0] at q1
   exact ⟨_,rfl,_,rfl,DK,us,_,_,rfl,rfl,.inl (.inl (hs _ _ hK0)),Af hy,T1,_,_,_,rfl,rfl,.inl (.inl ht1),Af (j:=0) rfl,rfl,_,rfl,q1⟩
  ·obtain ⟨kk,hkk,rfl⟩:=List.mem_map.mp hv
   have hik:kk<kbs.length:=by have:=hdb kk hkk; omega
   refine byC fun hng=>?_
   obtain ⟨y,hy,⟨T1,r1,rfl,ht1⟩,_⟩:=Bh (Paired.Et hpr fun _ _ q=>Hv.mono hs q) (List.getElem?_eq_getElem hik)
   refine hng ?_
   have q1:=k H' (An.refl H')
   have e0:fm (V.int (kk:Nat))=.int ((kbs[kk]).bd:Nat):=by
    show V.int (Cz kbs ((kk:Nat):Int).toNat:Nat)=_
    unfold Cz
    rw [Int.toNat_natCast,List.getElem?_eq_getElem hik]
    cases kbs[kk] <;> rfl
   rw [e0] at q1
   exact ⟨_,rfl,_,rfl,DK,us,_,_,rfl,rfl,.inl (.inl (hs _ _ hK0)),Af hy,T1,_,_,_,rfl,rfl,.inl (.inl ht1),Af (j:=1) rfl,q1⟩
  obtain ⟨ml,eml,hml⟩:∃ ml:List Nat,((nV dl).filter pm).map fm=nV ml/\∀ b,b∈ml ↔ JV kbs (Wd.mk dl) b:=by
   refine ⟨(dl.filter fun k=>pm (.int (k:Nat))).map (Cz kbs),?_,fun b=>?_⟩
   ·unfold nV
    rw [List.filter_map,List.map_map,List.map_map]
    rfl
   ·rw [List.mem_map]
    constructor
    ·rintro ⟨k,hk,rfl⟩
     obtain ⟨h1,h2⟩:=List.mem_filter.mp hk
     have h2':(match kbs[((k:Nat):Int).toNat]? with | some z=>decide (V.str z.w=V.str "mute") | none=>false)=true:=h2
     rw [Int.toNat_natCast] at h2'
     cases e:kbs[k]? with
     | none=>rw [e] at h2'; cases h2'
     | some z=>rw [e] at h2'; exact ⟨k,z,e,V.str.inj (of_decide_eq_true h2'),(bitL k).mpr h1,rfl⟩
    ·rintro ⟨k,z,hz,hw,hd',rfl⟩
     refine ⟨k,List.mem_filter.mpr ⟨(bitL k).mp hd',?_⟩,rfl⟩
     show (match kbs[((k:Nat):Int).toNat]? with | some z=>decide (V.str z.w=V.str "mute") | none=>false)=true
     rw [Int.toNat_natCast,hz]
     exact decide_eq_true (congrArg V.str hw)
  rw [eml] at hl1
  clear eml
  have hb:kl.1.bd<sz.length:=by
   have:=JR (k:=k) hkbs (z:=kl.1) (by rw [← ekb,List.getElem?_map,hkl]; rfl)
   rw [← ekb,ebd] at this
   exact this
  have hplc:(Ec (BX c sz))[key]? = some (kl.1.bd,i):=by
   have hbs:(BX c sz)[kl.1.bd]? = some (c kl.1.bd,sz[kl.1.bd]):=CT (List.getElem?_eq_getElem hb)
   have:=P0 hbs (n:=i) (by
    rw [List.getD_eq_getElem?_getD,List.getElem?_eq_getElem hb] at hib
    exact hib)
   rw [List.map_take,Bk,← ekey] at this
   exact this
  have s12:=s1.trans s2
  refine ⟨_,rfl,_,rfl,DS,BX c sz,key,(kl.1.bd,i),rfl,(by rw [Bk]; exact s12 _ _ hS0),hplc,fun y2 H3 s3 hy2=>?_⟩
  obtain ⟨T2,rfl,ht2⟩:=hy2
  have s13:=s12.trans s3
  refine ⟨T2,_,_,_,rfl,rfl,.inl (.inl ht2),Af (j:=0) rfl,_,rfl,ML,_,rfl,.inl (.inl (.inl (s3 _ _ hl1))),rfl,FP _,.inr ⟨_,rfl,?_⟩⟩
  rw [if_neg Bool.false_ne_true,El]
  have el:(if decide (kl.1.bd∈ml)=true then (1:Int) else 0)=((least:Nat):Int):=by
   rcases hlst with ⟨e,h⟩ | ⟨e,h⟩
   ·rw [decide_eq_true ((hml _).mpr h),if_pos rfl,e]
    rfl
   ·rw [decide_eq_false fun z=>h ((hml _).mp z),if_neg Bool.false_ne_true,e]
    rfl
  dsimp only
  rw [el]
  refine ⟨_,rfl,_,rfl,_,rfl,_,rfl,_,rfl,_,rfl,_,rfl,DS,DK,DD,DH,L,.ref TT,c,sz,kbs,us,ys,dl,hl9,key,f,least,st,rfl,s13 _ _ hS0,h5,h61,h305,s13 _ _ hK00,(Paired.Et hpr fun _ _ q=>Hv.mono (s2.trans s3) q),hkbs,s13 _ _ hd0,s13 _ _ hh,⟨TT,rfl,s13 _ _ hTT⟩,s13 _ _ hL,Al s13 hst,Uq,fun H4 s4=>?_⟩
  have s14:=s13.trans s4
  refine ⟨_,rfl,_,rfl,_,rfl,_,rfl,W0,_,_,_,rfl,rfl,.inl (.inl (s14 _ _ hW0)),Af (j:=1) rfl,DK,us,_,_,rfl,rfl,.inl (.inl (s14 _ _ hK00)),Af hy1,_,rfl,DS,DP,T1,A,BX c sz,pz,kl.1.bd,key,l,ts,(kl.1.bd,i),rfl,(by rw [Bk]; exact s14 _ _ hS0),hplc,s14 _ _ hP0,h4,hpz,s14 _ _ ht1,s14 _ _ hA,Al s14 hts,hln4.1,(fun x hx=>(hln4.2.1 x hx).r),fun D5 H5 hD5 s5 hl5=>?_⟩
  have hget:(l.map (G6 pz kl.1.bd (kl.1.bd,i)))[j]? = some (.int (p:Nat)):=by
   rw [List.getElem?_map,hln]
   show some (G6 pz kl.1.bd (kl.1.bd,i) ln)=_
   unfold G6
   have h1:=(hrk ln.r).1
   have h2:=(hrk ln.r).2
   rw [if_pos ⟨rfl,hlo,hhi,hs0,by rw [← h1]; exact hs1⟩]
   congr 2
   rw [hp,h2]
   show _+(i:Int)+_=_
   omega
  refine ⟨_,rfl,_,rfl,CW ⟨_,rfl,_,rfl,W0,_,_,_,rfl,rfl,.inl (.inl (s5 _ _ (s14 _ _ hW0))),Af (j:=2) rfl,D5,_,_,_,rfl,rfl,.inl (.inl hl5),Af hget,_,rfl,rfl,?_⟩⟩
  rw [decide_eq_true rfl]
  exact q _ (s14.trans s5)
noncomputable def M3 (pz:List Nat) (a:Nat) (qd:Nat × Nat) (x:Ln):Option Nat:=if qd.1=a/\x.lo<=(qd.2:Int)/\(qd.2:Int)<=x.hi/\0<=(qd.2:Int)+x.sh/\(qd.2:Int)+x.sh<(pz.getD x.r 0:Nat) then some ((((pz.take x.r).sum:Nat):Int)+(qd.2:Int)+x.sh).toNat else none
theorem TV (pz:List Nat) (a:Nat) (qd:Nat × Nat) (l:List Ln):(l.map (G6 pz a qd)).filter (fun v=>!decide (v=V.non))=nV (l.filterMap (M3 pz a qd)):=by
 induction l with
 | nil=>rfl
 | cons x l ih =>
  rw [List.map_cons,List.filter_cons,List.filterMap_cons,ih]
  unfold G6 M3
  by_cases h:qd.1=a/\x.lo<=(qd.2:Int)/\(qd.2:Int)<=x.hi/\0<=(qd.2:Int)+x.sh/\(qd.2:Int)+x.sh<(pz.getD x.r 0:Nat)
  ·rw [if_pos h,if_pos h,if_pos (by simp)]
   show V.int _::nV _=nV (_::_)
   have:((((((pz.take x.r).sum:Nat):Int)+(qd.2:Int)+x.sh).toNat:Nat):Int)=(((pz.take x.r).sum:Nat):Int)+(qd.2:Int)+x.sh:=by omega
   show V.int ((((pz.take x.r).sum:Nat):Int)+(qd.2:Int)+x.sh)::_=V.int (((((((pz.take x.r).sum:Nat):Int)+(qd.2:Int)+x.sh).toNat:Nat):Int))::_
   rw [this]
  ·rw [if_neg h,if_neg h,if_neg (by decide)]
theorem Rm (pz:List Nat) (a:Nat) (qd:Nat × Nat) (x:Ln):G6 pz a qd x=.non \/ ∃ n,G6 pz a qd x=.int n:=by
 unfold G6
 split
 ·exact .inr ⟨_,rfl⟩
 ·exact .inl rfl
theorem Xw:∀ {l:List Nat},(∀ z∈l,z<=97)->l.sum<=97 * l.length:=by
 intro l
 induction l with
 | nil=>intro _; simp
 | cons a l ih =>
  intro h
  have h1:=h a (List.mem_cons_self ..)
  have h2:=ih fun z hz=>h z (List.mem_cons_of_mem _ hz)
  rw [List.sum_cons,List.length_cons]
  omega
theorem Xy {pz:List Nat} {a n:Nat} {qd:Nat × Nat} {l:List Ln} (h4:pz.length<=4) (hp:∀ z∈pz,1<=z/\z<=97) (h:n∈l.filterMap (M3 pz a qd)):n<1200:=by
 obtain ⟨x,_,e⟩:=List.mem_filterMap.mp h
 unfold M3 at e
 split at e
 ·rename_i g
  have e':=Option.some.inj e
  refine byC fun hng=>?_
  obtain ⟨_,_,_,g5,g6⟩:=g
  refine hng ?_
  have s1:(pz.take x.r).sum<=97 * (pz.take x.r).length:=Xw fun z hz=>(hp z (List.mem_of_mem_take hz)).2
  rw [List.length_take] at s1
  have s2:pz.getD x.r 0<=97:=by
   rw [List.getD_eq_getElem?_getD]
   cases hx:pz[x.r]? with
   | none=>exact Nat.zero_le _
   | some z=>exact (hp z (List.mem_of_getElem? hx)).2
  omega
 ·cases e
theorem V6 (n i:Nat):decide (V.int (Builtin.bitAnd ((n:Int) / 2 ^ ((i:Nat):Int).toNat) 1)=V.int 0) = !n.testBit i:=by
 rw [Int.toNat_natCast,Ep,show (1:Int)=((1:Nat):Int) from rfl,← Int.natCast_ediv,Hb,Nat.testBit_eq_decide_div_mod_eq,Nat.and_one_is_mod]
 rcases Nat.mod_two_eq_zero_or_one (n / 2 ^ i) with h | h
 ·rw [h]; rfl
 ·rw [h]; rfl
theorem M7 {d e j:Nat} (h1:d.testBit j=true) (h2:e.testBit j=true):decide (V.int (Builtin.bitAnd (Builtin.bitAnd (d:Int) (e:Int)) (1 * 2 ^ ((j:Nat):Int).toNat))=V.int 0)=false:=by
 rw [Int.one_mul,Int.toNat_natCast,Ep,Hb,Hb]
 refine decide_eq_false fun z=>?_
 have z1:(((d &&& e) &&& 2 ^ j:Nat):Int)=0:=V.int.inj z
 have z2:(d &&& e) &&& 2 ^ j=0:=by omega
 have z3:((d &&& e) &&& 2 ^ j).testBit j=true:=by
  rw [Nat.testBit_and,Nat.testBit_and,h1,h2,Nat.testBit_two_pow_self]
  rfl
 rw [z2,Nat.zero_testBit] at z3
 cases z3
theorem Vv {a b:Nat} (h:∀ p,a.testBit p=true->b.testBit p=true):a ||| b=b:=Nat.eq_of_testBit_eq fun p=>by
 rw [Nat.testBit_or]
 cases ha:a.testBit p with
 | false=>rw [Bool.false_or]
 | true=>rw [h p ha]; rfl
noncomputable def bC:Sp:=fun vs H Q _=>∃ (W DS DP DK DR DD DH:Addr) (c:Nat->Str) (sz pz:List Nat) (kls:List Kl) (us:List V) (dl hl:List Nat) (sp cp sn:Nat),vs=[.ref W,.ref DD,.ref DH,.int (sp:Nat),.int (cp:Nat),.int (sn:Nat)]/\H W=some (.lst [.ref DS,.ref DP,.ref DK,.ref DR])/\H DS=some (.lst (nV sz))/\H DP=some (.lst (nV pz))/\sz.length<=5/\(∀ s∈sz,s<=61)/\sz.sum<=305/\pz.length<=4/\(∀ z∈pz,1<=z/\z<=97)/\H DK=some (.lst us)/\Paired (fun z y=>FN DK H z y) kls us/\QZ sz pz kls/\L_ sz.length (kls.map (·.1))/\H DD=some (.lst (nV dl))/\dl.length<=100/\(∀ k∈dl,k<us.length)/\H DH=some (.lst (nV hl)) /\
 (∀ j,j∈hl->(∀ b,XF sz j b->¬ JV (kls.map (·.1)) (Wd.mk dl) b)->sp.testBit j=true) /\
 (∀ i j,(i∈hl \/ cp.testBit i=true)->stp (BX c sz) (kls.map (·.1)) (Wd.mk dl) i j->sp.testBit j=true/\cp.testBit j=true) /\
 (∀ k z j qd p,k∈dl->kls[k]? = some z->z.1.w = "stop"->sp.testBit j=true->(Ec (BX c sz))[j]? = some qd->p∈z.2.filterMap (M3 pz z.1.bd qd)->sn.testBit p=true)/\∀ H',An H H'->Q (.bl true) H'
theorem MT {X:Cx}:G3 X (binaryOp .BitOr) (fun x y H Q=>∃ a b:Nat,x=.int (a:Nat)/\y=.int (b:Nat)/\Q (.int ((a ||| b:Nat):Int)) H):=by
 intro pins s σ H x y v u Q I rx ry h
 refine byC fun hng=>?_
 obtain ⟨a,b,rfl,rfl,q⟩:=h
 refine hng ?_
 refine NT pins s σ H _ _ v u Q I rx ry ⟨a,b,rfl,rfl,?_⟩
 show Q (.int (Builtin.bitOr (a:Int) (b:Int))) H
 rw [Jh]
 exact q
theorem gN {i:Nat} {v:V} {σ:St} {H:Hp} {Q:St->Hp->Prop} (h:Q (σ.set i (some v)) H):DX i v σ H Q:=h
theorem Kg:Aw ["_law_world_here","_law_drawn_here","_law_held_here","_law_speaking","_law_coupled","_law_sound","_law_sizes_here","_law_pipes","_law_knobs_here","_law_rows_here","_law_muted","_law_key","_law_k","_law_goal_here","_law_brought"] ["_law_world_here","_law_drawn_here","_law_held_here","_law_speaking","_law_coupled","_law_sound"] (Ag ZG):=Bo
include N T in
theorem ZR:Ar P w K mg base Be 3 aD.fCz aD.dCz ["_law_world_here","_law_drawn_here","_law_held_here","_law_speaking","_law_coupled","_law_sound"] bC:=by
 have GSp:Ar P w K mg base Be 1 aD.fSp aD.dSp ["_law_sizes_here","_law_key"] TY:=QH N T
 have GGo:Ar P w K mg base Be 2 aD.fGo aD.dGo ["_law_sizes_here","_law_knob_here","_law_key"] Xi:=Wq N T
 have GPi:Ar P w K mg base Be 2 aD.fPi aD.dPi ["_law_sizes_here","_law_pipes","_law_knob_here","_law_key"] XS:=Ww N T
 have GBi:Ar P w K mg base Be 1 aD.fBi aD.dBi ["_law_numbers"] YZ:=W8 N T
 refine N.FCz.1.ok Kg (fun vs H Q E h=>?_) (fun cdv A outer s H vs Q E hr h=>?_)
 ·refine byC fun hng=>?_
  obtain ⟨W,DS,DP,DK,DR,DD,DH,c,sz,pz,kls,us,dl,hl,sp,cp,sn,rfl,_⟩:=h
  refine hng ?_
  rfl
 ·refine byC fun hng=>?_
  obtain ⟨W,DS,DP,DK,DR,DD,DH,c,sz,pz,kls,us,dl,hl,sp,cp,sn,rfl,hW,hS0,hP0,h5,h61,h305,h4,hpz,hK0,hprN,hkls,hkbs,hd,hdl,hdb,hh,hq1,hq2,hq3,q⟩:=h
  refine hng ?_
  have hrSp:BV 1 _:=hr.mono (by decide)
  have hrGo:BV 2 _:=hr.mono (by decide)
  have hrPi:BV 2 _:=hr.mono (by decide)
  have hrBi:BV 1 _:=hr.mono (by decide)
  refine ⟨_,(Ae (Ly (pv 0) (Ri rfl (Bf (Ba (i:=6) Kg.nd rfl (Or.inl rfl)) (Bf (Ba (i:=7) Kg.nd rfl (Or.inl rfl)) (Bf (Ba (i:=8) Kg.nd rfl (Or.inr rfl)) (Bf (Ba (i:=9) Kg.nd rfl (Or.inl rfl)) Du))))))
   (Ae (Gk (i:=10) Kg.nd rfl rfl rfl (Bc (osc:=Ag ZG) (N:=["_law_world_here","_law_drawn_here","_law_held_here","_law_speaking","_law_coupled","_law_sound","_law_sizes_here","_law_pipes","_law_knobs_here","_law_rows_here","_law_muted","_law_key","_law_k","_law_goal_here","_law_brought"]) rfl rfl (by decide +kernel)) (Bg (pv 1)) (fun _ _ _ _=>(Ft (BR DG (Am (Aj (K:=K) rfl) (Am (A_ (K:=K) rfl) (pv 9) (pv 0) (fun _ _=>rfl)) Ab (fun _ _=>rfl)) Br (BZ _)))) (fun _ _ _ _=>(Am (Aj (K:=K) rfl) (Am (A_ (K:=K) rfl) (pv 9) (pv 0) (fun _ _=>rfl)) Ab (fun _ _=>rfl))))
   (Ae (Cq PassesOwn.never rfl (CN rfl T.range (Aa (BP (Fv rfl) rfl T.sum PyProof.Rows.boot_sum (Aa (pv 6) Ac)) Ac)) (Ba (i:=11) Kg.nd rfl (Or.inl rfl)) (Ae (Bt (PW.pt (Fp (BR GX (pv 11) (pv 2) rfl) (Fp (BR (GK (K:=K) rfl) (Am (Aj (K:=K) rfl) (Ai GSp hrSp rfl N.FSp.2.2 N.FSp.1.kp N.FSp.2.1 .nil Ao (Aa (pv 6) (Aa (pv 11) Ac))) Ab (fun _ _=>rfl)) (pv 10) rfl) (FT (BR DG (Aq G_ (Aq Gs (pv 3) (pv 11)) Ab) Ab (BZ _)))))) (Ah (Av Ef)) Bd)
   (Ah (Cq PassesOwn.never rfl (Bg (pv 1)) (Ba (i:=12) Kg.nd rfl (Or.inl rfl)) (Ae (Bt (PW.pt (Fp (BR DG (Am (Aj (K:=K) rfl) (Am (A_ (K:=K) rfl) (pv 8) (pv 12) (fun _ _=>rfl)) Ab (fun _ _=>rfl)) Br (BZ _)) (FT (PW.pt (Dr (BR GX (pv 11) (pv 2) rfl) (Ea (BR DG (Aq G_ (Aq Gs (pv 4) (pv 11)) Ab) Ab (BZ _)))))))) (Ae (Ax (i:=13) Kg.nd rfl (Or.inl rfl) (Ai GGo hrGo rfl N.FGo.2.2 N.FGo.1.kp N.FGo.2.1 .nil Ao (Aa (pv 6) (Aa (Am (A_ (K:=K) rfl) (pv 8) (pv 12) (fun _ _=>rfl)) (Aa (pv 11) Ac)))))
   (Ah (Bt (PW.pt (Fp (BR Lj (pv 13) Gv (BZ _)) (FT (BR DG (Aq G_ (Aq G_ (pv 3) (pv 4)) (Aq LC Ab (pv 13))) Ab (BZ _))))) (Ah (Av Ef)) Bd))) Bd)
   (Ah (Bt (PW.pt (Fp (BR DG (Am (Aj (K:=K) rfl) (Am (A_ (K:=K) rfl) (pv 8) (pv 12) (fun _ _=>rfl)) Ab (fun _ _=>rfl)) Br (BZ _)) (FT (BR DG (Aq G_ (Aq Gs (pv 3) (pv 11)) Ab) Ab (BZ _))))) (Ae (Gk (i:=14) Kg.nd rfl rfl rfl (Bc (osc:=Ag ZG) (N:=["_law_world_here","_law_drawn_here","_law_held_here","_law_speaking","_law_coupled","_law_sound","_law_sizes_here","_law_pipes","_law_knobs_here","_law_rows_here","_law_muted","_law_key","_law_k","_law_goal_here","_law_brought"]) rfl rfl (by decide +kernel)) (Bg (Ai GPi hrPi rfl N.FPi.2.2 N.FPi.1.kp N.FPi.2.1 .nil Ao (Aa (pv 6) (Aa (pv 7) (Aa (Am (A_ (K:=K) rfl) (pv 8) (pv 12) (fun _ _=>rfl)) (Aa (pv 11) Ac)))))) (fun _ _ _ _=>(Ft (BR Lj (pv 0) Gv (BZ _)))) (fun _ _ _ _=>(pv 0)))
   (Ah (Bt (BR Ey (Aq MT (Ai GBi hrBi rfl N.FBi.2.2 N.FBi.1.kp N.FBi.2.1 .nil Ao (Aa (pv 14) Ac)) (pv 5)) (pv 5) (BZ _)) (Ah (Av Ef)) Bd))) Bd)))))))
   (Ah (Av Ef))))),?_⟩
  have bitL:∀ k,(Wd.mk dl).testBit k=true ↔ k∈dl:=fun k=>by rw [Wd.Fq,decide_eq_true_eq]
  have hKL:=hprN.length
  have hpr:=Kz hprN
  refine ⟨_,rfl,W,_,rfl,.inl (.inl hW),rfl,_,_,rfl,_,_,rfl,_,_,rfl,_,_,rfl,rfl,?_⟩
  obtain ⟨kbs,ekb⟩:∃ kbs,kls.map (·.1)=kbs:=⟨_,rfl⟩
  have hul:kbs.length=us.length:=by rw [← ekb,List.length_map]; exact hKL
  rw [ekb] at hpr hkbs hq1 hq2
  have hSd:CK K H DD (nV dl):=.inl (.inl hd)
  let pm:V->Bool:=fun v=>match v with | .int k=>(match kbs[k.toNat]? with | some z=>decide (V.str z.w=V.str "mute") | none=>false) | _=>false
  let fm:V->V:=fun v=>match v with | .int k=>.int (Cz kbs k.toNat:Nat) | _=>.non
  refine ⟨_,rfl,DD,rfl,⟨_,hSd⟩,Ca (K:=K) (xs:=nV dl) pm fm hSd (BJ (by rw [List.length_map]; omega)) (fun v hv H' hs R k=>?_) (fun v hv _ H' hs R k=>?_) (fun ML H1 hML s1 hl1=>?_)⟩
  ·obtain ⟨kk,hkk,rfl⟩:=List.mem_map.mp hv
   have hik:kk<kbs.length:=by have:=hdb kk hkk; omega
   refine byC fun hng=>?_
   obtain ⟨y,hy,⟨T1,r1,rfl,ht1⟩,_⟩:=Bh (Paired.Et hpr fun _ _ q=>Hv.mono hs q) (List.getElem?_eq_getElem hik)
   refine hng ?_
   have q1:=k H' (An.refl H')
   have e0:pm (V.int (kk:Nat))=decide (V.str (kbs[kk]).w=V.str "mute"):=by
    show (match kbs[((kk:Nat):Int).toNat]? with | some z=>decide (V.str z.w=V.str "mute") | none=>false)=_
    rw [Int.toNat_natCast,List.getElem?_eq_getElem hik]
   rw [e0] at q1
   exact ⟨_,rfl,_,rfl,DK,us,_,_,rfl,rfl,.inl (.inl (hs _ _ hK0)),Af hy,T1,_,_,_,rfl,rfl,.inl (.inl ht1),Af (j:=0) rfl,rfl,_,rfl,q1⟩
  ·obtain ⟨kk,hkk,rfl⟩:=List.mem_map.mp hv
   have hik:kk<kbs.length:=by have:=hdb kk hkk; omega
   refine byC fun hng=>?_
   obtain ⟨y,hy,⟨T1,r1,rfl,ht1⟩,_⟩:=Bh (Paired.Et hpr fun _ _ q=>Hv.mono hs q) (List.getElem?_eq_getElem hik)
   refine hng ?_
   have q1:=k H' (An.refl H')
   have e0:fm (V.int (kk:Nat))=.int ((kbs[kk]).bd:Nat):=by
    show V.int (Cz kbs ((kk:Nat):Int).toNat:Nat)=_
    unfold Cz
    rw [Int.toNat_natCast,List.getElem?_eq_getElem hik]
    cases kbs[kk] <;> rfl
   rw [e0] at q1
   exact ⟨_,rfl,_,rfl,DK,us,_,_,rfl,rfl,.inl (.inl (hs _ _ hK0)),Af hy,T1,_,_,_,rfl,rfl,.inl (.inl ht1),Af (j:=1) rfl,q1⟩
  obtain ⟨ml,eml,hml⟩:∃ ml:List Nat,((nV dl).filter pm).map fm=nV ml/\∀ b,b∈ml ↔ JV kbs (Wd.mk dl) b:=by
   refine ⟨(dl.filter fun k=>pm (.int (k:Nat))).map (Cz kbs),?_,fun b=>?_⟩
   ·unfold nV
    rw [List.filter_map,List.map_map,List.map_map]
    rfl
   ·rw [List.mem_map]
    constructor
    ·rintro ⟨k,hk,rfl⟩
     obtain ⟨h1,h2⟩:=List.mem_filter.mp hk
     have h2':(match kbs[((k:Nat):Int).toNat]? with | some z=>decide (V.str z.w=V.str "mute") | none=>false)=true:=h2
     rw [Int.toNat_natCast] at h2'
     cases e:kbs[k]? with
     | none=>rw [e] at h2'; cases h2'
     | some z=>rw [e] at h2'; exact ⟨k,z,e,V.str.inj (of_decide_eq_true h2'),(bitL k).mpr h1,rfl⟩
    ·rintro ⟨k,z,hz,hw,hd',rfl⟩
     refine ⟨k,List.mem_filter.mpr ⟨(bitL k).mp hd',?_⟩,rfl⟩
     show (match kbs[((k:Nat):Int).toNat]? with | some z=>decide (V.str z.w=V.str "mute") | none=>false)=true
     rw [Int.toNat_natCast,hz]
     exact decide_eq_true (congrArg V.str hw)
  rw [eml] at hl1
  clear eml
  have hsum:((BX c sz).map (·.2)).sum=sz.sum:=by rw [Bk]
  have szi:(sz.map fun n:Nat=>V.int (n:Nat))=(sz.map fun n:Nat=>(n:Int)).map V.int:=by rw [List.map_map]; rfl
  have bnd:∀ n∈sz.map (fun n:Nat=>(n:Int)),0<=n/\n<=100000:=fun n hn=>by
   obtain ⟨m,hm,rfl⟩:=List.mem_map.mp hn
   have:=h61 m hm
   omega
  have hb61:∀ b∈BX c sz,b.2<=61:=fun b hb=>by
   have h:=List.mem_map_of_mem (f:=(·.2)) hb
   rw [Bk] at h
   exact h61 _ h
  refine ⟨_,rfl,DS,_,rfl,by rw [← szi]; exact .inl (.inl (s1 _ _ hS0)),bnd,by simp; omega,?_⟩
  rw [Fw]
  refine ⟨_,rfl,by omega,by omega,?_⟩
  rw [Int.toNat_natCast]
  refine Gi (lo:=0) (n:=sz.sum) (fun i σ H4=>An H1 H4/\∃ v11 v12 v13 v14,σ=[some (.ref W),some (.ref DD),some (.ref DH),some (.int (sp:Nat)),some (.int (cp:Nat)),some (.int (sn:Nat)),some (.ref DS),some (.ref DP),some (.ref DK),some (.ref DR),some (.ref ML),v11,v12,v13,v14]) ⟨An.refl _,_,_,_,_,rfl⟩ ?_ ?_
  rotate_left
  ·rintro σ H4 ⟨s4,v11,v12,v13,v14,rfl⟩
   exact q H4 (s1.trans s4)
  rintro i σ H4 hi ⟨s4,v11,v12,v13,v14,rfl⟩
  have ei:(0:Int)+(i:Int)=(i:Nat):=by omega
  rw [ei]
  obtain ⟨⟨b,n⟩,hq⟩:∃ qd,(Ec (BX c sz))[i]? = some qd:=⟨_,List.getElem?_eq_getElem (by rw [FW,hsum]; exact hi)⟩
  have hbrd:=Ml hq
  have bit1:∀ n:Nat,decide (V.int (Builtin.bitAnd ((n:Int) / 2 ^ ((i:Nat):Int).toNat) 1)=V.int 1)=n.testBit i:=fun n=>by rw [Pa,Int.toNat_natCast]
  refine gN (i:=11) ?_
  refine Tw (fun σ' H'=>An H1 H'/\σ'=[some (.ref W),some (.ref DD),some (.ref DH),some (.int (sp:Nat)),some (.int (cp:Nat)),some (.int (sn:Nat)),some (.ref DS),some (.ref DP),some (.ref DK),some (.ref DR),some (.ref ML),some (.int (i:Nat)),v12,v13,v14]) (fun D' hD'=>?_) ?_
  ·refine ⟨_,rfl,_,rfl,DH,_,rfl,.inl (.inl (.inl (s4 _ _ (s1 _ _ hh)))),rfl,FP _,_,rfl,?_⟩
   rw [El]
   by_cases hih:i∈hl
   rotate_left
   ·rw [decide_eq_false hih]
    exact Bj (hD' _ _ ⟨s4,rfl⟩)
   rw [decide_eq_true hih]
   refine CW ?_
   refine ⟨_,rfl,_,rfl,DS,BX c sz,i,(b,n),rfl,(by rw [Bk]; exact s4 _ _ (s1 _ _ hS0)),hq,fun y5 H5 s5 hy5=>?_⟩
   obtain ⟨T5,rfl,ht5⟩:=hy5
   have s15:=s4.trans s5
   refine ⟨T5,_,_,_,rfl,rfl,.inl (.inl ht5),Af (j:=0) rfl,_,rfl,ML,_,rfl,.inl (.inl (.inl (s15 _ _ hl1))),rfl,FP _,_,rfl,?_⟩
   rw [El]
   by_cases hbm:b∈ml
   ·rw [decide_eq_true hbm]
    exact Bj (hD' _ _ ⟨s15,rfl⟩)
   rw [decide_eq_false hbm]
   refine CW ⟨_,rfl,_,rfl,_,_,rfl,rfl,by omega,_,_,rfl,rfl,rfl,_,rfl,?_⟩
   have hsp:sp.testBit i=true:=hq1 i hih fun b' hb' hmu=>by
    rw [M4 hb' hbrd] at hmu
    exact hbm ((hml b).mpr hmu)
   rw [V6,hsp]
   exact Bj (hD' _ _ ⟨s15,rfl⟩)
  rintro σ H5 ⟨s5,rfl⟩
  have hSd5:CK K H5 DD (nV dl):=.inl (.inl (s5 _ _ (s1 _ _ hd)))
  refine ⟨_,rfl,DD,rfl,⟨_,hSd5⟩,?_⟩
  refine Dl (K:=K) (a:=DD) (xs:=nV dl) (fun m σ H6=>An H5 H6/\∃ v12 v13 v14,σ=[some (.ref W),some (.ref DD),some (.ref DH),some (.int (sp:Nat)),some (.int (cp:Nat)),some (.int (sn:Nat)),some (.ref DS),some (.ref DP),some (.ref DK),some (.ref DR),some (.ref ML),some (.int (i:Nat)),v12,v13,v14]) ⟨An.refl _,_,_,_,rfl⟩ (fun m σ H6 _ h=>h.1.seq hSd5) ?_ ?_
  rotate_left
  ·rintro σ H6 ⟨s6,v12',v13',v14',rfl⟩
   exact ⟨s5.trans s6,_,_,_,_,rfl⟩
  rintro m y σ H6 hm ⟨s6,v12',v13',v14',rfl⟩
  rw [List.getElem?_map] at hm
  obtain ⟨kk,hkk,rfl⟩:=Option.map_eq_some_iff.mp hm
  have hkd:=List.mem_of_getElem? hkk
  have hik:kk<kls.length:=by have:=hdb kk hkd; omega
  have hzz:=List.getElem?_eq_getElem hik
  obtain ⟨y,hy,hyk⟩:=Bh hprN hzz
  have hlw:=hkls.ln _ (List.getElem_mem hik)
  have hzk:kbs[kk]? = some (kls[kk]).1:=by rw [← ekb,List.getElem?_map,hzz]; rfl
  have zok:=hkbs.ok _ (List.mem_of_getElem? hzk)
  generalize kls[kk]=z at hzz hyk hlw hzk zok
  refine byC fun hng=>?_
  obtain ⟨⟨T1,r1,rfl,ht1⟩,hcp⟩:=Wz hyk
  refine hng ?_
  have s16:An H1 H6:=s5.trans s6
  have s06:=s1.trans s16
  have T6:=s06 _ _ ht1
  have K6:CK K H6 DK us:=.inl (.inl (s06 _ _ hK0))
  refine gN (i:=12) ?_
  refine Tw (fun σ' H'=>An H6 H'/\∃ v13,σ'=[some (.ref W),some (.ref DD),some (.ref DH),some (.int (sp:Nat)),some (.int (cp:Nat)),some (.int (sn:Nat)),some (.ref DS),some (.ref DP),some (.ref DK),some (.ref DR),some (.ref ML),some (.int (i:Nat)),some (.int (kk:Nat)),v13,v14']) (fun D' hD'=>?_) ?_
  ·refine ⟨_,rfl,_,rfl,DK,us,_,_,rfl,rfl,K6,Af hy,T1,_,_,_,rfl,rfl,.inl (.inl T6),Af (j:=0) rfl,rfl,_,rfl,?_⟩
   refine Dn (fun g=>?_) (fun g=>Bj (hD' _ _ ⟨An.refl _,_,rfl⟩))
   have g':VD z.1=true:=g
   obtain ⟨j1,j2,s0,ez⟩:=MK zok g'
   rw [ez] at zok hzk
   obtain ⟨hj1,hj2,_,_⟩:=zok
   have hbj2:(BX c sz)[j2]? = some (c j2,sz[j2]):=CT (List.getElem?_eq_getElem hj2)
   obtain ⟨T2,eT2,ht2⟩:=hcp (by rw [ez]; rfl)
   cases eT2
   rw [ez] at ht2
   refine ⟨_,rfl,_,rfl,DH,_,rfl,.inl (.inl (.inl (s06 _ _ hh))),rfl,FP _,_,rfl,?_⟩
   rw [El]
   by_cases hih:i∈hl
   ·rw [decide_eq_true hih]
    refine CW ?_
    have hpre:i∈hl \/ cp.testBit i=true:=.inl hih
    refine ⟨_,rfl,_,rfl,_,rfl,DK,us,_,_,rfl,rfl,K6,Af hy,_,rfl,DS,.ref T1,BX c sz,i,j1,j2,s0,(c j2,sz[j2]),(b,n),rfl,(by rw [Bk]; exact s06 _ _ hS0),(by rw [Es]; exact h5),hb61,hq,hbj2,⟨T1,rfl,s06 _ _ ht2⟩,fun H7 s7=>?_⟩
    rcases KQ (j1:=j1) (s:=s0) hq hbj2 with ⟨e',eg⟩ | ⟨j,e',eg,hjt⟩
    ·rw [e']
     exact ⟨_,rfl,rfl,_,rfl,Bj (Bj (hD' _ _ ⟨s7,_,rfl⟩))⟩
    ·rw [e']
     rw [hsum] at hjt
     refine ⟨_,rfl,rfl,_,rfl,CW ?_⟩
     refine ⟨_,rfl,_,rfl,_,_,rfl,rfl,_,rfl,_,_,rfl,rfl,⟨by omega,by omega,by decide⟩,_,_,rfl,rfl,rfl,_,rfl,?_⟩
     have hst:stp (BX c sz) kbs (Wd.mk dl) i j:=⟨kk,_,by rw [Wd.Fq]; exact decide_eq_true hkd,hzk,eg⟩
     obtain ⟨b1,b2⟩:=hq2 i j hpre hst
     rw [M7 b1 b2]
     exact Bj (hD' _ _ ⟨s7,_,rfl⟩)
   rw [decide_eq_false hih]
   refine Bj ⟨_,rfl,_,rfl,_,_,rfl,rfl,by omega,_,_,rfl,rfl,rfl,_,rfl,?_⟩
   rw [bit1]
   cases hcb:cp.testBit i with
   | false=>exact Bj (hD' _ _ ⟨An.refl _,_,rfl⟩)
   | true =>
    refine CW ?_
    have hpre:i∈hl \/ cp.testBit i=true:=.inr hcb
    refine ⟨_,rfl,_,rfl,_,rfl,DK,us,_,_,rfl,rfl,K6,Af hy,_,rfl,DS,.ref T1,BX c sz,i,j1,j2,s0,(c j2,sz[j2]),(b,n),rfl,(by rw [Bk]; exact s06 _ _ hS0),(by rw [Es]; exact h5),hb61,hq,hbj2,⟨T1,rfl,s06 _ _ ht2⟩,fun H7 s7=>?_⟩
    rcases KQ (j1:=j1) (s:=s0) hq hbj2 with ⟨e',eg⟩ | ⟨j,e',eg,hjt⟩
    ·rw [e']
     exact ⟨_,rfl,rfl,_,rfl,Bj (Bj (hD' _ _ ⟨s7,_,rfl⟩))⟩
    ·rw [e']
     rw [hsum] at hjt
     refine ⟨_,rfl,rfl,_,rfl,CW ?_⟩
     refine ⟨_,rfl,_,rfl,_,_,rfl,rfl,_,rfl,_,_,rfl,rfl,⟨by omega,by omega,by decide⟩,_,_,rfl,rfl,rfl,_,rfl,?_⟩
     have hst:stp (BX c sz) kbs (Wd.mk dl) i j:=⟨kk,_,by rw [Wd.Fq]; exact decide_eq_true hkd,hzk,eg⟩
     obtain ⟨b1,b2⟩:=hq2 i j hpre hst
     rw [M7 b1 b2]
     exact Bj (hD' _ _ ⟨s7,_,rfl⟩)
  rintro σ H7 ⟨s7,v13,rfl⟩
  have s07:=s06.trans s7
  have T7:=s07 _ _ ht1
  refine ⟨_,rfl,_,rfl,DK,us,_,_,rfl,rfl,.inl (.inl (s07 _ _ hK0)),Af hy,T1,_,_,_,rfl,rfl,.inl (.inl T7),Af (j:=0) rfl,rfl,_,rfl,?_⟩
  by_cases hw:z.1.w = "stop"
  rotate_left
  ·rw [show decide (V.str z.1.w=V.str "stop")=false from decide_eq_false fun e=>hw (V.str.inj e)]
   exact Bj ⟨s6.trans s7,_,_,_,rfl⟩
  rw [show decide (V.str z.1.w=V.str "stop")=true from decide_eq_true (congrArg V.str hw)]
  refine CW ⟨_,rfl,_,rfl,_,_,rfl,rfl,by omega,_,_,rfl,rfl,rfl,_,rfl,?_⟩
  rw [bit1]
  cases hsb:sp.testBit i with
  | false=>exact Bj ⟨s6.trans s7,_,_,_,rfl⟩
  | true =>
   refine CW ?_
   obtain ⟨zb,ll⟩:=z
   obtain ⟨aa,ezb⟩:∃ aa,zb=.pl "stop" aa:=by
    cases zb with
    | cp i j s=>exact absurd (show ("coupler" : Str) = "stop" from hw) (by decide +kernel)
    | pl w0 i =>
     have:w0 = "stop":=hw
     subst this
     exact ⟨i,rfl⟩
   subst ezb
   obtain ⟨A0,ts,hT1,hA0,hts⟩:∃ A0 ts,H T1=some (.tup [.str "stop",.int (aa:Nat),.ref A0])/\H A0=some (.lst ts)/\Paired (fun x y=>TupAt H (Qk x) y) ll ts:=by
    refine byC fun hng=>?_
    obtain ⟨ex,⟨T2,e,ht⟩,hx⟩:=hyk
    refine hng ?_
    cases e
    rcases hx with ⟨_,_,hn⟩ | ⟨_,A0,ts,rfl,_,hA0,hts⟩
    ·exact absurd rfl hn
    ·exact ⟨A0,ts,ht,hA0,hts⟩
   have hl4:ll.length<=4:=hlw.1
   have hlr:∀ x∈ll,x.r<pz.length:=fun x hx=>(hlw.2.1 x hx).r
   refine ⟨_,rfl,_,rfl,_,rfl,_,rfl,DK,us,_,_,rfl,rfl,.inl (.inl (s07 _ _ hK0)),Af hy,_,rfl,DS,DP,T1,A0,BX c sz,pz,aa,i,ll,ts,(b,n),rfl,(by rw [Bk]; exact s07 _ _ hS0),hq,s07 _ _ hP0,h4,hpz,s07 _ _ hT1,s07 _ _ hA0,Al s07 hts,hl4,hlr,fun D9 H19 hD9 s19 hl19=>?_⟩
   have hS19:CK K H19 D9 (ll.map (G6 pz aa (b,n))):=.inl (.inl hl19)
   refine ⟨D9,rfl,⟨_,hS19⟩,Ca (K:=K) (xs:=ll.map (G6 pz aa (b,n))) (fun v=>!decide (v=V.non)) id hS19 (BJ (by rw [List.length_map]; omega)) (fun y hy H' hs R k=>?_) (fun y hy _ H' hs R k=>⟨_,rfl,k H' (An.refl H')⟩) (fun D20 H20 hD20 s20 hl20=>?_)⟩
   ·obtain ⟨ln,_,rfl⟩:=List.mem_map.mp hy
    have kk:=k H' (An.refl H')
    rcases Rm pz aa (b,n) ln with e | ⟨n',e⟩
    ·rw [e] at kk ⊢
     exact ⟨_,rfl,rfl,_,rfl,kk⟩
    ·rw [e] at kk ⊢
     exact ⟨_,rfl,rfl,_,rfl,kk⟩
   rw [List.map_id,TV] at hl20
   have hfm4:=List.length_filterMap_le (M3 pz aa (b,n)) ll
   refine ⟨_,rfl,D20,_,rfl,hl20,by omega,(fun p hp=>Xy h4 hpz hp),_,rfl,_,_,rfl,rfl,_,rfl,rfl,_,rfl,?_⟩
   rw [Lr (Vv fun p hp=>by
    rw [Wd.Fq,decide_eq_true_eq] at hp
    exact hq3 kk _ i (b,n) p hkd hzz rfl hsb hq hp)]
   exact Bj ⟨s6.trans (s7.trans (s19.trans s20)),_,_,_,rfl⟩
noncomputable def Pk (K:PySem.W.Frag):Sp:=fun vs H Q _=>∃ (a:Addr) (ns:List Int),vs=[.ref a]/\CK K H a (ns.map V.int)/\ns.length<=63/\∀ H',Q (.bl true) H'
theorem QF {l:List Nat} (h:1<=l.length) (hs:∀ s∈l,1<=s):1<=l.sum:=by
 cases l with
 | nil=>simp at h
 | cons a l =>
  have:=hs a (List.mem_cons_self ..)
  rw [List.sum_cons]
  omega
theorem Iw {a b:Nat} (h:∀ p,a.testBit p=true ↔ b.testBit p=true):a=b:=Nat.eq_of_testBit_eq fun p=>Bool.eq_iff_iff.mpr (h p)
theorem Vn {sz:List Nat} {rk:List (Str × Nat × Int)} {kbs:List Kb} {ls:List (List Ln)} {cl:List Nat} {D m p:Nat} (hcl:∀ k,k∈cl ↔ ∃ z,kbs[k]? = some z/\z.w = "stop" /\ D.testBit k=true):(Yt sz rk kbs ls cl m).testBit p=true ↔ ∃ q,Nf sz rk kbs ls D m p q:=by
 rw [Uh]
 constructor
 ·rintro ⟨k,hk,hb⟩
  obtain ⟨z,hz,hw,hd⟩:=(hcl k).mp hk
  unfold SJ at hb
  obtain ⟨n,hn,hbn⟩:=(Jf _ _).mp hb
  obtain ⟨ln,hln,rfl⟩:=List.mem_map.mp hn
  obtain ⟨j,hj⟩:=List.mem_iff_getElem?.mp hln
  exact ⟨(k,j),z,ln,hz,hw,hd,hj,hbn⟩
 ·rintro ⟨⟨k,j⟩,z,ln,hz,hw,hd,hj,hbn⟩
  refine ⟨k,(hcl k).mpr ⟨z,hz,hw,hd⟩,?_⟩
  unfold SJ
  exact (Jf _ _).mpr ⟨_,List.mem_map_of_mem (List.mem_of_getElem? hj),hbn⟩
theorem Px (c:Nat->Str) (pz:List Nat) (wi:Nat->Int):(G4 c pz wi).map (fun r=>r.2.1)=pz:=by
 refine List.ext_getElem? fun i=>?_
 rw [List.getElem?_map]
 cases h:pz[i]? with
 | none =>
  have hl:(G4 c pz wi).length<=i:=by rw [Gn]; exact List.getElem?_eq_none_iff.mp h
  rw [List.getElem?_eq_none hl]
  rfl
 | some z =>
  cases h2:(G4 c pz wi)[i]? with
  | none =>
   have:=List.getElem?_eq_none_iff.mp h2
   rw [Gn] at this
   have:=(List.getElem?_eq_some_iff.mp h).1
   omega
  | some r =>
   obtain ⟨z',hz',rfl⟩:=Fg h2
   rw [h] at hz'
   cases hz'
   rfl
theorem V8 (n s:Nat):((((List.range s).map fun (i:Nat)=>(0:Int)+(i:Int)).filter fun i=>n.testBit i.toNat).map fun i=>V.int i)=nV ((List.range s).filter n.testBit):=by
 rw [List.filter_map,List.map_map]
 have e:((fun i:Int=>n.testBit i.toNat) ∘ fun (i:Nat)=>(0:Int)+(i:Int))=n.testBit:=by
  funext i
  show n.testBit ((0:Int)+(i:Int)).toNat=n.testBit i
  have h2:((0:Int)+(i:Int)).toNat=i:=by omega
  rw [h2]
 rw [e]
 refine List.map_congr_left fun i _=>?_
 show V.int ((0:Int)+(i:Int))=V.int (i:Int)
 rw [Int.zero_add]
theorem k_ {m s:Nat} (h:∀ i,m.testBit i=true->i<s):(!decide (V.int ((m:Int) / 2 ^ ((s:Nat):Int).toNat)=V.int 0))=false:=by
 have hlt:m<2 ^ s:=Nat.lt_pow_two_of_testBit _ fun i hi=>by
  cases hb:m.testBit i with
  | false=>rfl
  | true=>exact absurd (h i hb) (by omega)
 rw [Int.toNat_natCast,Ep,← Int.natCast_ediv,Nat.div_eq_of_lt hlt]
 rfl
theorem Zo {c:Nat->Str} {sz pz:List Nat} {wi:Nat->Int} {l:List Ln} {a m j p:Nat} {qd:Nat × Nat} (hg:∀ ln∈l,Yu (G4 c pz wi) ln) (hj:m.testBit j=true) (hq:(Ec (BX c sz))[j]? = some qd) (hp:p∈l.filterMap (M3 pz a qd)):(SJ sz (G4 c pz wi) a l m).testBit p=true:=by
 have e1:∀ r,H_ (G4 c pz wi) r=pz.getD r 0:=fun r=>by unfold H_; rw [Px]
 have e2:∀ r,Nq (G4 c pz wi) r=(pz.take r).sum:=fun r=>by unfold Nq; rw [List.map_take,Px]
 rw [Xc hg]
 obtain ⟨b,n⟩:=qd
 obtain ⟨ln,hl,e⟩:=List.mem_filterMap.mp hp
 unfold M3 at e
 split at e
 ·rename_i h
  obtain ⟨h0,h3,h4,h5,h6⟩:=h
  have h0':b=a:=h0
  subst h0'
  obtain ⟨m',hm',hbl,him⟩:=Ml hq
  obtain ⟨b',hb',hn',hi'⟩:=Ld hq
  rw [Bk] at hi'
  have hmn:m'=n:=by omega
  subst hmn
  have e':((((pz.take ln.r).sum:Nat):Int)+((m':Nat):Int)+ln.sh).toNat=p:=Option.some.inj e
  refine ⟨ln,hl,m',hm',by rw [← him]; exact hj,h3,h4,h5,by rw [e1]; exact h6,?_⟩
  rw [e2]
  have h5':0<=((m':Nat):Int)+ln.sh:=h5
  omega
 ·cases e
theorem Eu:Aw ["_law_script","_law_world_here","_law_organ","_law_one","_law_two","_law_drawn_here","_law_held_here","_law_sets","_law_speaking","_law_sound","_law_coupled","_law_good","_law_some","_law_k","_law_pipe"] ["_law_script"] (Ag KZ):=Bo
set_option maxHeartbeats 0 in
theorem YH {f:Addr} {fd:FuncData} (F:Cu K "law" "law" KZ f fd) (N:jD K mg C aD) (T:Txt K w.params mg C aN aK aB aP aM) (F0:QL K aB aP aM):Ar P w K mg base Be 11 f fd ["_law_script"] (Pk K):=by
 have GWd:Ar P w K mg base Be 6 aD.fWd aD.dWd ["_law_script"] (Zj K aB aP aM):=Y_ N T
 have GOi:Ar P w K mg base Be 9 aD.fOi aD.dOi ["self","rows"] (cD K aB aP aM C):=bf N T
 have GDr:Ar P w K mg base Be 2 aD.fDr aD.dDr ["_law_cell","_law_count"] cR:=bO N T
 have GHd:Ar P w K mg base Be 2 aD.fHd aD.dHd ["_law_cell","_law_count"] ZC:=ak N T
 have GBi:Ar P w K mg base Be 1 aD.fBi aD.dBi ["_law_numbers"] YZ:=W8 N T
 have GSk:Ar P w K mg base Be 6 aD.fSk aD.dSk ["organ","knobs","held"] (U8 C):=Rh N T
 have GSo:Ar P w K mg base Be 7 aD.fSo aD.dSo ["organ","knobs","held"] (dZ C):=dH N T
 have GCq:Ar P w K mg base Be 5 aD.fCq aD.dCq ["organ","knobs","held"] (Yj C):=WR N T
 have GWs:Ar P w K mg base Be 8 aD.fWs aD.dWs ["organ","knobs","held","pipe"] (bJ C):=aQ N T
 have GSw:Ar P w K mg base Be 5 aD.fSw aD.dSw ["_law_world_here","_law_drawn_here","_law_held_here","_law_pipe","_law_found"] b_:=Zz N T
 have GCz:Ar P w K mg base Be 3 aD.fCz aD.dCz ["_law_world_here","_law_drawn_here","_law_held_here","_law_speaking","_law_coupled","_law_sound"] bC:=ZR N T
 refine F.ok Eu (fun vs H Q E h=>?_) (fun cdv A outer s H vs Q E hr h=>?_)
 ·obtain ⟨a,ns,rfl,_⟩:=h
  rfl
 ·obtain ⟨a,ns,rfl,hS,hlen,q⟩:=h
  have hrWd:BV 6 _:=hr.mono (by decide)
  have hrOi:BV 9 _:=hr.mono (by decide)
  have hrDr:BV 2 _:=hr.mono (by decide)
  have hrHd:BV 2 _:=hr.mono (by decide)
  have hrBi:BV 1 _:=hr.mono (by decide)
  have hrSk:BV 6 _:=hr.mono (by decide)
  have hrSo:BV 7 _:=hr.mono (by decide)
  have hrCq:BV 5 _:=hr.mono (by decide)
  have hrWs:BV 8 _:=hr.mono (by decide)
  have hrSw:BV 5 _:=hr.mono (by decide)
  have hrCz:BV 3 _:=hr.mono (by decide)
  refine ⟨_,(Ae (Ax (i:=1) Eu.nd rfl (Or.inl rfl) (Ai GWd hrWd rfl N.FWd.2.2 N.FWd.1.kp N.FWd.2.1 .nil Ao (Aa (pv 0) Ac)))
   (Ae (Ax (i:=2) Eu.nd rfl (Or.inl rfl) (V_ N.FOi.2.2 GOi hr rfl T.mC N.FOi.2.1 .nil Ao (Aa (Am (A_ (K:=K) rfl) (pv 1) Ab (fun _ _=>rfl)) Ac)))
   (Ae (Cq PassesOwn.never rfl (U6 rfl T.zip (Aa (MF (pv 0) (Cv Ab) (Cv Ab) Ab) (Aa (MF (pv 0) (Cv Ab) (Cv Ab) Ab) Ac))) (GQ rfl (Bf (Ba (i:=3) Eu.nd rfl (Or.inl rfl)) (Bf (Ba (i:=4) Eu.nd rfl (Or.inl rfl)) Du))) (Ae (Ax (i:=5) Eu.nd rfl (Or.inl rfl) (Ai GDr hrDr rfl N.FDr.2.2 N.FDr.1.kp N.FDr.2.1 .nil Ao (Aa (pv 3) (Aa (BP Bb rfl T.len PySem.boot_len (Aa (Am (A_ (K:=K) rfl) (pv 1) Ab (fun _ _=>rfl)) Ac)) Ac))))
   (Ae (Ax (i:=6) Eu.nd rfl (Or.inl rfl) (Ai GHd hrHd rfl N.FHd.2.2 N.FHd.1.kp N.FHd.2.1 .nil Ao (Aa (pv 4) (Aa (BP (Fv rfl) rfl T.sum PyProof.Rows.boot_sum (Aa (Am (A_ (K:=K) rfl) (pv 1) Ab (fun _ _=>rfl)) Ac)) Ac))))
   (Ae (Ax (i:=7) Eu.nd rfl (Or.inl rfl) (Df (Aa (Ai GBi hrBi rfl N.FBi.2.2 N.FBi.1.kp N.FBi.2.1 .nil Ao (Aa (pv 5) Ac)) (Aa (Ai GBi hrBi rfl N.FBi.2.2 N.FBi.1.kp N.FBi.2.1 .nil Ao (Aa (pv 6) Ac)) Ac))))
   (Ae (Ax (i:=8) Eu.nd rfl (Or.inl rfl) (Ai GSk hrSk rfl N.FSk.2.2 N.FSk.1.kp N.FSk.2.1 .nil Ao (Aa (pv 2) (Aa (Am (A_ (K:=K) rfl) (pv 7) Ab (fun _ _=>rfl)) (Aa (Am (A_ (K:=K) rfl) (pv 7) Ab (fun _ _=>rfl)) Ac)))))
   (Ae (Ax (i:=9) Eu.nd rfl (Or.inr rfl) (Ai GSo hrSo rfl N.FSo.2.2 N.FSo.1.kp N.FSo.2.1 .nil Ao (Aa (pv 2) (Aa (Am (A_ (K:=K) rfl) (pv 7) Ab (fun _ _=>rfl)) (Aa (Am (A_ (K:=K) rfl) (pv 7) Ab (fun _ _=>rfl)) Ac)))))
   (Ae (Ax (i:=10) Eu.nd rfl (Or.inl rfl) (Ai GCq hrCq rfl N.FCq.2.2 N.FCq.1.kp N.FCq.2.1 .nil Ao (Aa (pv 2) (Aa (Am (A_ (K:=K) rfl) (pv 7) Ab (fun _ _=>rfl)) (Aa (Am (A_ (K:=K) rfl) (pv 7) Ab (fun _ _=>rfl)) Ac)))))
   (Ae (Bt (PW.pt (Dr (BR Ey (Aq MT (Aq MT (pv 8) (pv 10)) (Am (A_ (K:=K) rfl) (pv 7) Ab (fun _ _=>rfl))) (Aq MT (pv 10) (Am (A_ (K:=K) rfl) (pv 7) Ab (fun _ _=>rfl))) (BZ _)) (Ea (BR Ey (Aq Gs (pv 9) (BP (Fv rfl) rfl T.sum PyProof.Rows.boot_sum (Aa (Am (A_ (K:=K) rfl) (pv 1) Ab (fun _ _=>rfl)) Ac))) Ab (BZ _))))) (Ah (Av Ef)) Bd)
   (Ae (Ax (i:=11) Eu.nd rfl (Or.inl rfl) (Ai GCz hrCz rfl N.FCz.2.2 N.FCz.1.kp N.FCz.2.1 .nil Ao (Aa (pv 1) (Aa (pv 5) (Aa (pv 6) (Aa (pv 8) (Aa (pv 10) (Aa (pv 9) Ac))))))))
   (Ae (Bt (Cj (Cy (pv 11))) (Ah (Av Ef)) Bd)
   (Ae (Gk (i:=12) Eu.nd rfl rfl rfl (Bc (osc:=Ag KZ) (N:=["_law_script","_law_world_here","_law_organ","_law_one","_law_two","_law_drawn_here","_law_held_here","_law_sets","_law_speaking","_law_sound","_law_coupled","_law_good","_law_some","_law_k","_law_pipe"]) rfl rfl (by decide +kernel)) (CN rfl T.range (Aa (BP (Fv rfl) rfl T.sum PyProof.Rows.boot_sum (Aa (Am (A_ (K:=K) rfl) (pv 1) Ab (fun _ _=>rfl)) Ac)) Ac)) (fun _ _ _ _=>(Ft (BR DG (Aq G_ (Aq Gs (pv 10) (pv 0)) Ab) Ab (BZ _)))) (fun _ _ _ _=>(pv 0)))
   (Ah (Cq PassesOwn.never rfl (CN rfl T.range (Aa (BP (RZ rfl) rfl T.min PyProof.Rows.boot_min (Aa Ab (Aa (BP Bb rfl T.len PySem.boot_len (Aa (pv 12) Ac)) Ac))) Ac)) (Ba (i:=13) Eu.nd rfl (Or.inl rfl)) (Ae (Ax (i:=14) Eu.nd rfl (Or.inl rfl) (Am Eb (pv 12) (Aq Bs (Aq Bp (Aq Cp (pv 4) Ab) (Aq HH (pv 13) (Aq Bp Ab (Aq Bs (Aq Cp (pv 3) Ab) Ab)))) (BP Bb rfl T.len PySem.boot_len (Aa (pv 12) Ac))) (fun _ _=>rfl)))
   (Ae (Ax (i:=11) Eu.nd rfl (Or.inl rfl) (Ai GSw hrSw rfl N.FSw.2.2 N.FSw.1.kp N.FSw.2.1 .nil Ao (Aa (pv 1) (Aa (pv 5) (Aa (pv 6) (Aa (pv 14) (Aa (Ai GWs hrWs rfl N.FWs.2.2 N.FWs.1.kp N.FWs.2.1 .nil Ao (Aa (pv 2) (Aa (Am (A_ (K:=K) rfl) (pv 7) Ab (fun _ _=>rfl)) (Aa (Am (A_ (K:=K) rfl) (pv 7) Ab (fun _ _=>rfl)) (Aa (pv 14) Ac))))) Ac)))))))
   (Ah (Bt (Cj (Cy (pv 11))) (Ah (Av Ef)) Bd)))))))))))))))))
   (Ah (Av Ef))))),?_⟩
  refine ⟨_,rfl,a,ns,rfl,hS,hlen,F0,fun W DS DP DK DR c2 sz pz kls us rows vs9 H9 s09 hW OW=>?_⟩
  obtain ⟨l9,lp9,⟨w1,w2,w3,w4,w5,w6⟩,k9,kp9,hkls,hkl,hst,hl9,hv9,B,hrl⟩:=OW
  have hbl:(BX (DN c2) sz).length=sz.length:=Es _ sz
  have hbz:(BX (DN c2) sz).map (·.2)=sz:=Bk _ sz
  have ndb:((BX (DN c2) sz).map (·.1)).Nodup:=by
   refine Hg fun i j x hi hj=>?_
   rw [List.getElem?_map] at hi hj
   obtain ⟨b1,hb1,e1⟩:=Option.map_eq_some_iff.mp hi
   obtain ⟨b2,hb2,e2⟩:=Option.map_eq_some_iff.mp hj
   obtain ⟨_,_,rfl⟩:=Gf hb1
   obtain ⟨_,_,rfl⟩:=Gf hb2
   exact Jp (e1.trans e2.symm)
  have ndr:((G4 (DN c2) pz (Kd c2)).map (·.1)).Nodup:=by
   refine Hg fun i j x hi hj=>?_
   rw [List.getElem?_map] at hi hj
   obtain ⟨b1,hb1,e1⟩:=Option.map_eq_some_iff.mp hi
   obtain ⟨b2,hb2,e2⟩:=Option.map_eq_some_iff.mp hj
   obtain ⟨_,_,rfl⟩:=Fg hb1
   obtain ⟨_,_,rfl⟩:=Fg hb2
   have:=Jp (e1.trans e2.symm)
   omega
  have ndk:((Bw (DN c2) (kls.map (·.1))).map (·.nm)).Nodup:=by
   refine Hg fun i j x hi hj=>?_
   rw [List.getElem?_map] at hi hj
   obtain ⟨b1,hb1,e1⟩:=Option.map_eq_some_iff.mp hi
   obtain ⟨b2,hb2,e2⟩:=Option.map_eq_some_iff.mp hj
   obtain ⟨_,_,rfl⟩:=Dm hb1
   obtain ⟨_,_,rfl⟩:=Dm hb2
   rw [QV] at e1 e2
   have:=Jp (e1.trans e2.symm)
   omega
  obtain ⟨R9,O9,eL⟩:=B.fin hv9 (by omega) (by omega) (fun b hb=>by
   obtain ⟨j,hj⟩:=List.mem_iff_getElem?.mp hb
   obtain ⟨z,hz,rfl⟩:=Gf hj
   exact (w3 z (List.mem_of_getElem? hz)).2) (by rw [Gn]; omega) (fun r hr'=>by
   obtain ⟨j,hj⟩:=List.mem_iff_getElem?.mp hr'
   obtain ⟨z,hz,rfl⟩:=Fg hj
   exact (w6 z (List.mem_of_getElem? hz)).2) (by rw [Gh,List.length_map]; omega) ndb ndr ndk hrl
  refine ⟨_,rfl,W,_,_,_,rfl,rfl,.inl (.inl hW),Af (j:=3) rfl,?_⟩
  intro x dx nx ndx nex
  have sx:An H9 (upd (upd H9 dx (.own x)) x (.ins C dx [])):=fun b o e=>by
   rw [BW (BL e nx),BW (BL e ndx)]
   exact e
  refine ⟨x,dx,DR,vs9,Up H9,BX (DN c2) sz,G4 (DN c2) pz (Kd c2),Bw (DN c2) (kls.map (·.1)),rfl,Ak,sx _ _ hl9,R9.mono sx,O9,fun H10 OA SXh=>⟨rfl,?_⟩⟩
  rw [eL] at OA
  have s910:An H9 H10:=fun b o e=>SXh b o (sx b o e) (BL e nx)
  have s010:=s09.trans s910
  have l10:=s910 _ _ l9
  have lp10:=s910 _ _ lp9
  have k10:=s910 _ _ k9
  have W10:=s910 _ _ hW
  have kp10:Paired (fun z y=>FN DK H10 z y) kls us:=Paired.Et kp9 fun _ _ z=>z.mono s910
  clear SXh sx nx ndx nex R9 O9 hv9 hl9 eL
  have hul:=kp10.length
  have hkbs:L_ sz.length (kls.map (·.1)):=⟨hkls.ok,hkls.room,by rw [List.length_map]; omega⟩
  have h305:=Ej OA.o
  rw [hbz] at h305
  have hsum:1<=sz.sum:=QF (by omega) fun s hs=>(w3 s hs).1
  have hLs:aq (G4 (DN c2) pz (Kd c2)) (kls.map (·.2)):=fun l hl=>by
   obtain ⟨z,hz,rfl⟩:=List.mem_map.mp hl
   have hlw:=hkls.ln z hz
   have hb:=Kb.bG (hkls.ok z.1 (List.mem_map_of_mem hz))
   have hsa:sz.getD z.1.bd 0<=61:=by
    rw [List.getD_eq_getElem?_getD,List.getElem?_eq_getElem hb]
    exact (w3 _ (List.getElem_mem hb)).2
   refine ⟨by have:=hlw.1; omega,fun ln hln=>?_⟩
   have g:=hlw.2.1 ln hln
   have g4:=g.hi
   exact ⟨by rw [Gn]; exact g.r,g.lo,g.le,by omega,g.s1,g.s2⟩
  refine ⟨_,rfl,_,rfl,_,rfl,3,rfl,by decide,a,_,rfl,s010.seq hS,fun p13 hp13 hl13=>?_⟩
  have t13:=Az (o:=HO.lst (stepV (ns.map V.int) (some 4) (some 40) 3)) hp13
  have u13:upd H10 p13 (HO.lst (stepV (ns.map V.int) (some 4) (some 40) 3)) p13=_:=Ak
  generalize upd H10 p13 (HO.lst (stepV (ns.map V.int) (some 4) (some 40) 3))=H13 at t13 u13 ⊢
  refine ⟨_,rfl,_,rfl,_,rfl,3,rfl,by decide,a,_,rfl,(s010.trans t13).seq hS,fun p14 hp14 hl14=>?_⟩
  have t14:=Az (o:=HO.lst (stepV (ns.map V.int) (some 5) (some 41) 3)) hp14
  have u14:upd H13 p14 (HO.lst (stepV (ns.map V.int) (some 5) (some 41) 3)) p14=_:=Ak
  generalize upd H13 p14 (HO.lst (stepV (ns.map V.int) (some 5) (some 41) 3))=H15 at t14 u14 ⊢
  have int1:=JT (ns:=ns) (lo:=some 4) (hi:=some 40) (k:=3)
  have int2:=JT (ns:=ns) (lo:=some 5) (hi:=some 41) (k:=3)
  have u13':=t14 _ _ u13
  generalize stepV (ns.map V.int) (some 4) (some 40) 3=xs at u13' int1
  generalize stepV (ns.map V.int) (some 5) (some 41) 3=ys at u14 int2
  have s1015:=t13.trans t14
  have OA15:=OA.mono s1015
  have l15:=s1015 _ _ l10
  have lp15:=s1015 _ _ lp10
  have W15:=s1015 _ _ W10
  have kn15:Paired (fun z y=>FN DK H15 z y) kls us:=Paired.Et kp10 fun _ _ z=>z.mono s1015
  have k15:=s1015 _ _ k10
  have hS1:CK K H15 p13 xs:=.inl (.inl u13')
  have hS2:CK K H15 p14 ys:=.inl (.inl u14)
  have h61:∀ s∈sz,s<=61:=fun s hs=>(w3 s hs).2
  have hrk:∀ r,H_ (G4 (DN c2) pz (Kd c2)) r=pz.getD r 0/\Nq (G4 (DN c2) pz (Kd c2)) r=(pz.take r).sum:=fun r=>by
   unfold H_ Nq
   rw [List.map_take,Px]
   exact ⟨rfl,rfl⟩
  refine ⟨p13,p14,rfl,⟨_,hS1⟩,⟨_,hS2⟩,SQ (K:=K) (a:=p13) (b:=p14) (xs:=xs) (ys:=ys) (fun i σ H16=>An H15 H16/\∃ v3 v4 v5 v6 v7 v8 v9 v10 v11 v12 v13 v14,σ=[some (.ref a),some (.ref W),some (.ref x),v3,v4,v5,v6,v7,v8,v9,v10,v11,v12,v13,v14]) ⟨An.refl _,_,_,_,_,_,_,_,_,_,_,_,_,rfl⟩ (fun i σ H16 _ h=>⟨h.1.seq hS1,h.1.seq hS2⟩) ?_ ?_⟩
  rotate_left
  ·intros
   exact q _
  rintro i y1 y2 σ H16 T0 hy1 hy2 ⟨s16,v3,v4,v5,v6,v7,v8,v9,v10,v11,v12,v13,v14,rfl⟩ hT
  obtain ⟨o1,rfl⟩:=int1 _ (List.mem_of_getElem? hy1)
  obtain ⟨o2,rfl⟩:=int2 _ (List.mem_of_getElem? hy2)
  have tT:=Az (o:=HO.tup [V.int o1,V.int o2]) hT
  refine ⟨T0,_,rfl,.inl (.inl Ak),rfl,_,_,rfl,_,_,rfl,rfl,?_⟩
  generalize upd H16 T0 (HO.tup [V.int o1,V.int o2])=H17 at tT ⊢
  have s17:=s16.trans tT
  clear s16 tT hT
  refine ⟨_,rfl,_,rfl,W,_,_,_,rfl,rfl,.inl (.inl (s17 _ _ W15)),Af (j:=2) rfl,DK,_,rfl,.inl (.inl (.inl (s17 _ _ k15))),o1,us.length,rfl,by omega,fun DD dl H18 hDD s18 hd18 hdb hdl=>?_⟩
  have s1518:=s17.trans s18
  have szi:∀ l:List Nat,(l.map fun n:Nat=>V.int (n:Nat))=(l.map fun n:Nat=>(n:Int)).map V.int:=fun l=>by rw [List.map_map]; rfl
  have bnd:∀ n∈sz.map (fun n:Nat=>(n:Int)),0<=n/\n<=100000:=fun n hn=>by
   obtain ⟨m,hm,rfl⟩:=List.mem_map.mp hn
   have:=(w3 m hm).2
   omega
  have bnp:∀ n∈pz.map (fun n:Nat=>(n:Int)),0<=n/\n<=100000:=fun n hn=>by
   obtain ⟨m,hm,rfl⟩:=List.mem_map.mp hn
   have:=(w6 m hm).2
   omega
  have lS:∀ {H':Hp},An H15 H'->CK K H' DS ((sz.map fun n:Nat=>(n:Int)).map V.int):=fun s'=>by rw [← szi]; exact .inl (.inl (s' _ _ l15))
  have lP:∀ {H':Hp},An H15 H'->CK K H' DP ((pz.map fun n:Nat=>(n:Int)).map V.int):=fun s'=>by rw [← szi]; exact .inl (.inl (s' _ _ lp15))
  refine ⟨_,rfl,_,rfl,W,_,_,_,rfl,rfl,.inl (.inl (s1518 _ _ W15)),Af (j:=0) rfl,DS,_,rfl,lS s1518,bnd,by simp; omega,?_⟩
  rw [Fw]
  refine ⟨o2,sz.sum,rfl,hsum,fun DH hl H19 hDH s19 hh19 hhb hhl=>?_⟩
  have s1519:=s1518.trans s19
  have hdb':∀ k∈dl,k<1200:=fun k hk=>by have:=hdb k hk; omega
  have hhb':∀ k∈hl,k<1200:=fun k hk=>by have:=hhb k hk; omega
  have hdl5:dl.length<=500:=by omega
  have hhl5:hl.length<=500:=by omega
  have d19:=s19 _ _ hd18
  have hn12:Wd.mk hl<2 ^ 1200:=Wd.bT hhb'
  have hnt:∀ i,(Wd.mk hl).testBit i=true->i<sz.sum:=fun i hi=>by
   rw [Wd.Fq,decide_eq_true_eq] at hi
   exact hhb i hi
  have hps:pz.sum<=388:=by
   have:∀ {l:List Nat},(∀ s∈l,s<=97)->l.sum<=97 * l.length:=by
    intro l
    induction l with
    | nil=>intro _; simp
    | cons a l ih =>
     intro h
     have h1:=h a (List.mem_cons_self ..)
     have h2:=ih fun z hz=>h z (List.mem_cons_of_mem _ hz)
     rw [List.sum_cons,List.length_cons]
     omega
   have:=this fun s hs=>(w6 s hs).2
   omega
  have hp1:1<=pz.sum:=QF (by omega) fun s hs=>(w6 s hs).1
  have bitL:∀ (l:List Nat) k,(Wd.mk l).testBit k=true ↔ k∈l:=fun l k=>by rw [Wd.Fq,decide_eq_true_eq]
  refine ⟨_,rfl,DD,dl,rfl,d19,hdl5,hdb',_,rfl,DH,hl,rfl,hh19,hhl5,hhb',by show 2<=sizeLine; decide,fun SE hSE=>?_⟩
  generalize hHA:upd H19 SE (HO.lst _)=HA
  have tSE:An H19 HA:=hHA ▸ Az hSE
  have uSE:HA SE=some (.lst [V.int (Wd.mk dl:Nat),V.int (Wd.mk hl:Nat)]):=(congrFun hHA SE).symm.trans Ak
  clear hHA
  have s15A:=s1519.trans tSE
  refine ⟨_,rfl,_,rfl,SE,_,_,_,rfl,rfl,.inl (.inl uSE),Af (j:=0) rfl,_,rfl,SE,_,_,_,rfl,rfl,.inl (.inl uSE),Af (j:=1) rfl,x,DN c2,sz,kls.map (·.1),Wd.mk dl,Wd.mk hl,rfl,(OA15.mono s15A).o,hkbs,hn12,hnt,fun sp HB sB hsp=>?_⟩
  have s15B:=s15A.trans sB
  have uB:=sB _ _ uSE
  refine ⟨_,rfl,_,rfl,SE,_,_,_,rfl,rfl,.inl (.inl uB),Af (j:=0) rfl,_,rfl,SE,_,_,_,rfl,rfl,.inl (.inl uB),Af (j:=1) rfl,x,DN c2,sz,G4 (DN c2) pz (Kd c2),kls.map (·.1),kls.map (·.2),Wd.mk dl,Wd.mk hl,rfl,OA15.mono s15B,hkbs,hLs,hn12,hnt,fun cl m HC sC hcl hm=>?_⟩
  have em:m=sp:=Iw fun j=>(hm j).trans (hsp j).symm
  subst em
  have s15C:=s15B.trans sC
  have uC:=sC _ _ uB
  obtain ⟨sn,esn⟩:∃ sn,Yt sz (G4 (DN c2) pz (Kd c2)) (kls.map (·.1)) (kls.map (·.2)) cl m=sn:=⟨_,rfl⟩
  have hsn:∀ p,sn.testBit p=true ↔ ∃ q,Nf sz (G4 (DN c2) pz (Kd c2)) (kls.map (·.1)) (kls.map (·.2)) (Wd.mk dl) m p q:=fun p=>by
   rw [← esn]
   exact Vn hcl
  rw [esn]
  refine ⟨_,rfl,_,rfl,SE,_,_,_,rfl,rfl,.inl (.inl uC),Af (j:=0) rfl,_,rfl,SE,_,_,_,rfl,rfl,.inl (.inl uC),Af (j:=1) rfl,x,DN c2,sz,kls.map (·.1),Wd.mk dl,Wd.mk hl,rfl,(OA15.mono s15C).o,hkbs,hn12,hnt,fun cp HD sD hcp=>?_⟩
  have s15D:=s15C.trans sD
  have uD:=sD _ _ uC
  have s19D:=tSE.trans (sB.trans (sC.trans sD))
  have dD:=s19D _ _ d19
  have hD:=s19D _ _ hh19
  have eX:(m ||| cp) ||| Wd.mk hl=cp ||| Wd.mk hl:=Iw fun j=>by
   simp only [Nat.testBit_or,Bool.or_eq_true]
   constructor
   ·rintro ((h | h) | h)
    ·rcases (hm j).mp h with g | g
     ·exact .inl ((hcp j).mpr g)
     ·exact .inr g.1
    ·exact .inl h
    ·exact .inr h
   ·rintro (h | h)
    ·exact .inl (.inr h)
    ·exact .inr h
  have hsns:∀ p,sn.testBit p=true->p<pz.sum:=fun p hp=>by
   obtain ⟨q',z,ln,_,_,_,_,hb⟩:=(hsn p).mp hp
   unfold Io at hb
   rw [Wd.JN,Bool.and_eq_true,decide_eq_true_eq] at hb
   have:=hb.1
   unfold YJ at this
   rw [Px] at this
   exact this
  refine ⟨_,rfl,_,rfl,_,_,rfl,rfl,_,rfl,SE,_,_,_,rfl,rfl,.inl (.inl uD),Af (j:=1) rfl,_,_,rfl,rfl,_,rfl,_,rfl,SE,_,_,_,rfl,rfl,.inl (.inl uD),Af (j:=1) rfl,_,_,rfl,rfl,rfl,_,rfl,?_⟩
  rw [Lr eX]
  refine Bj ?_
  refine ⟨_,rfl,_,rfl,W,_,_,_,rfl,rfl,.inl (.inl (s15D _ _ W15)),Af (j:=1) rfl,DP,_,rfl,lP s15D,bnp,by simp; omega,?_⟩
  rw [Fw]
  refine ⟨_,_,rfl,rfl,by omega,rfl,_,rfl,?_⟩
  rw [k_ hsns]
  refine Bj ?_
  refine ⟨_,rfl,_,rfl,_,rfl,_,rfl,_,rfl,_,rfl,W,DS,DP,DK,DR,DD,DH,DN c2,sz,pz,kls,us,dl,hl,m,cp,sn,rfl,s15D _ _ W15,s15D _ _ l15,s15D _ _ lp15,by omega,h61,h305,by omega,w6,s15D _ _ k15,(Paired.Et kn15 fun _ _ z=>z.mono s15D),hkls,hkbs,dD,by omega,hdb,hD,(fun j hj hnm=>(hm j).mpr (.inr ⟨(bitL hl j).mpr hj,hnm⟩)),(fun i j hi hij=>?_),(fun k z j qd p hk hz hw hj hq hp=>?_),fun HE sE=>?_⟩
  ·have r:K9 (stp (BX (DN c2) sz) (kls.map (·.1)) (Wd.mk dl)) (fun i=>(Wd.mk hl).testBit i=true) j:=by
    rcases hi with h | h
    ·exact .one ((bitL hl i).mpr h) hij
    ·exact .more ((hcp i).mp h) hij
   exact ⟨(hm j).mpr (.inl r),(hcp j).mpr r⟩
  ·have hkk:(kls.map (·.1))[k]? = some z.1:=by rw [List.getElem?_map,hz]; rfl
   have e1:Cz (kls.map (·.1)) k=z.1.bd:=by
    unfold Cz
    rw [hkk]
    cases z with
    | mk kb l9=>cases kb <;> rfl
   have e2:(kls.map (·.2)).getD k []=z.2:=by rw [List.getD_eq_getElem?_getD,List.getElem?_map,hz]; rfl
   rw [← esn,Uh]
   refine ⟨k,(hcl k).mpr ⟨z.1,hkk,hw,(bitL dl k).mpr hk⟩,?_⟩
   rw [e1,e2]
   exact Zo (hLs z.2 (List.mem_map_of_mem (List.mem_of_getElem? hz))).2 hj hq hp
  refine ⟨_,rfl,_,rfl,Bj ?_⟩
  have s15E:=s15D.trans sE
  have uE:=sE _ _ uD
  have dE:=sE _ _ dD
  have hE:=sE _ _ hD
  refine ⟨_,rfl,W,_,_,_,rfl,rfl,.inl (.inl (s15E _ _ W15)),Af (j:=1) rfl,DP,_,rfl,lP s15E,bnp,by simp; omega,?_⟩
  rw [Fw]
  refine ⟨_,rfl,by omega,by omega,Dw (lo:=0) (n:=pz.sum) (fun v=>sn.testBit v.toNat) (fun v=>.int v) (BJ (by omega)) (fun i hi H' hs R k=>?_) (fun i hi _ H' hs R k=>⟨_,rfl,k H' (An.refl H')⟩) (fun SL HF hSL sF hlF=>?_)⟩
  ·refine ⟨_,rfl,_,rfl,_,_,rfl,rfl,(by show (0:Int)<=0+(i:Nat); omega),_,_,rfl,rfl,rfl,_,rfl,?_⟩
   dsimp only
   rw [Pa]
   exact k H' (An.refl H')
  rw [V8] at hlF
  have hjs:∀ j∈(List.range pz.sum).filter sn.testBit,sn.testBit j=true:=fun j hj=>(List.mem_filter.mp hj).2
  generalize (List.range pz.sum).filter sn.testBit=js at hlF hjs
  have s15F:=s15E.trans sF
  have uF:=sF _ _ uE
  have dF:=sF _ _ dE
  have hF:=sF _ _ hE
  have hSm:CK K HF SL (nV js):=.inl (.inl hlF)
  refine ⟨_,rfl,SL,_,rfl,.inl hSm,_,_,rfl,_,rfl,?_⟩
  obtain ⟨mm,emm,hmm⟩:∃ mm:Nat,(if (((nV js).length:Nat):Int)<2 then (((nV js).length:Nat):Int) else 2)=(mm:Int)/\mm<=js.length:=by
   rw [List.length_map]
   by_cases h:((js.length:Nat):Int)<2
   ·exact ⟨js.length,by rw [if_pos h],Nat.le_refl _⟩
   ·exact ⟨2,by rw [if_neg h]; rfl,by omega⟩
  rw [emm]
  refine ⟨by omega,by omega,?_⟩
  rw [Int.toNat_natCast]
  refine Gi (lo:=0) (n:=mm) (fun m9 σ H'=>An HF H'/\∃ v11 v13 v14,σ=[some (.ref a),some (.ref W),some (.ref x),some (.int o1),some (.int o2),some (.ref DD),some (.ref DH),some (.ref SE),some (.int (m:Nat)),some (.int (sn:Nat)),some (.int (cp:Nat)),v11,some (.ref SL),v13,v14]) ⟨An.refl _,_,_,_,rfl⟩ ?_ ?_
  rotate_left
  ·rintro σ HG ⟨sG,v11,v13,v14,rfl⟩
   exact ⟨s15F.trans sG,_,_,_,_,_,_,_,_,_,_,_,_,rfl⟩
  rintro mi σ HG hmi ⟨sG,v11',v13',v14',rfl⟩
  have emi:(0:Int)+(mi:Int)=(mi:Nat):=by omega
  rw [emi]
  have hlm:(((nV js).length:Nat):Int)=(js.length:Nat):=by rw [List.length_map]
  have hpos:(0:Int)<(((nV js).length:Nat):Int):=by omega
  obtain ⟨v,hv,hvm⟩:=Jy (xs:=nV js) (i:=(o2 / 5+(mi:Nat) * (1+o1 / 4 % 3)) % (((nV js).length:Nat):Int)) (Int.emod_nonneg _ (by omega)) (Int.emod_lt_of_pos _ hpos)
  obtain ⟨p,hpj,rfl⟩:=List.mem_map.mp hvm
  refine ⟨_,rfl,_,rfl,_,_,rfl,rfl,⟨by decide,by decide⟩,_,rfl,_,rfl,_,_,rfl,rfl,⟨by decide,by decide⟩,_,_,rfl,rfl,(by show (0:Int)<3; decide),_,_,rfl,rfl,_,_,rfl,rfl,.inl ⟨by omega,by omega⟩,_,_,rfl,rfl,_,rfl,SL,_,rfl,.inl (sG.seq hSm),_,_,rfl,rfl,hpos,SL,_,_,_,rfl,rfl,sG.seq hSm,hv,?_⟩
  have s15G:=s15F.trans sG
  have uG:=sG _ _ uF
  refine ⟨_,rfl,_,rfl,_,rfl,_,rfl,_,rfl,_,rfl,SE,_,_,_,rfl,rfl,.inl (.inl uG),Af (j:=0) rfl,_,rfl,SE,_,_,_,rfl,rfl,.inl (.inl uG),Af (j:=1) rfl,_,rfl,x,DN c2,sz,G4 (DN c2) pz (Kd c2),kls.map (·.1),kls.map (·.2),Wd.mk dl,Wd.mk hl,p,rfl,OA15.mono s15G,hkbs,hLs,hn12,hnt,(fun W0 TT L f9 k9 j9 key9 least9 m9 st9 ys9 HI hL sI hW0 hTT hLI hst9 trg9 sho9 hm9 lead9=>?_),(fun m9 HI sI hm9 nolead=>?_)⟩
  rotate_left
  ·have em9:m9=m:=Iw fun j=>(hm9 j).trans (hm j).symm
   subst em9
   obtain ⟨q',hq'⟩:=(hsn p).mp (hjs p hpj)
   exact (nolead q' hq').elim
  have s15I:=s15G.trans sI
  have dI:=sI _ _ (sG _ _ dF)
  have hI:=sI _ _ (sG _ _ hF)
  refine ⟨W,DS,DP,DK,DR,DD,DH,W0,TT,L,DN c2,sz,pz,G4 (DN c2) pz (Kd c2),kls,us,ys9,dl,hl,p,f9,k9,j9,key9,least9,st9,rfl,s15I _ _ W15,s15I _ _ l15,s15I _ _ lp15,by omega,h61,h305,by omega,w6,s15I _ _ k15,(Paired.Et kn15 fun _ _ z=>z.mono s15I),hkls,hkbs,dI,by omega,hdb,hI,hrk,hW0,hTT,hLI,hst9,trg9,sho9,fun HJ sJ=>?_⟩
  refine ⟨_,rfl,_,rfl,Bj ?_⟩
  exact ⟨sG.trans (sI.trans sJ),_,_,_,rfl⟩
end
end K24
end PartK24a
section PartK24z
set_option maxHeartbeats 4000000
theorem UL1 {α:Type} {us:List α} (h:us.length=1):∃ a,us=[a]:=match us,h with | [a],_=>⟨a,rfl⟩
theorem UL2 {α:Type} {us:List α} (h:us.length=2):∃ a b,us=[a,b]:=match us,h with | [a,b],_=>⟨a,b,rfl⟩
theorem UL3 {α:Type} {us:List α} (h:us.length=3):∃ a b c,us=[a,b,c]:=match us,h with | [a,b,c],_=>⟨a,b,c,rfl⟩
theorem UL4 {α:Type} {us:List α} (h:us.length=4):∃ a b c d,us=[a,b,c,d]:=match us,h with | [a,b,c,d],_=>⟨a,b,c,d,rfl⟩
theorem UL5 {α:Type} {us:List α} (h:us.length=5):∃ a b c d e,us=[a,b,c,d,e]:=match us,h with | [a,b,c,d,e],_=>⟨a,b,c,d,e,rfl⟩
theorem UL6 {α:Type} {us:List α} (h:us.length=6):∃ a b c d e f,us=[a,b,c,d,e,f]:=match us,h with | [a,b,c,d,e,f],_=>⟨a,b,c,d,e,f,rfl⟩
theorem UL7 {α:Type} {us:List α} (h:us.length=7):∃ a b c d e f g,us=[a,b,c,d,e,f,g]:=match us,h with | [a,b,c,d,e,f,g],_=>⟨a,b,c,d,e,f,g,rfl⟩
namespace K24
open PySem L2 Og
section
variable {K:W.Frag}
noncomputable abbrev DA (K:W.Frag) (x:Str) (st:Stmt) (f:Addr):Prop:=W.nsIn K mainGlobals x=some (some (.ref f))/\∃ fd,Cu K x x st f fd
noncomputable abbrev MA (K:W.Frag) (C:Addr) (x q:Str) (st:Stmt) (f:Addr):Prop:=W.findIn K (.ref C) x=some (some (.ref f))/\W.isFn K (.ref f)=true/\∃ fd,Cu K x q st f fd
theorem Gy {x q:Str} {st:Stmt} {f:Addr} {fd:FuncData} {ps:List Str} (F:Cu K x q st f fd) (hl:ps.length=1:=by rfl) (h:∀ (kV doc pm:Value) (an:Option Addr) (cdv ct:Value) (u:Value),bindArgs (W.fnOf x q (Cm st) (CP st) (Ag st) .none kV doc pm an cdv ct) ⟨[u],[]⟩=pure (ps.zip [u]):=by intros; rfl):Binds K fd ps []:=F.binds fun kV doc pm an cdv ct us hu=>by obtain ⟨u,rfl⟩:=UL1 (hu.trans hl); exact h kV doc pm an cdv ct u
theorem Fd {x q:Str} {st:Stmt} {f:Addr} {fd:FuncData} {ps:List Str} (F:Cu K x q st f fd) (hl:ps.length=2:=by rfl) (h:∀ (kV doc pm:Value) (an:Option Addr) (cdv ct:Value) (u v:Value),bindArgs (W.fnOf x q (Cm st) (CP st) (Ag st) .none kV doc pm an cdv ct) ⟨[u,v],[]⟩=pure (ps.zip [u,v]):=by intros; rfl):Binds K fd ps []:=F.binds fun kV doc pm an cdv ct us hu=>by obtain ⟨u,v,rfl⟩:=UL2 (hu.trans hl); exact h kV doc pm an cdv ct u v
theorem FJ {x q:Str} {st:Stmt} {f:Addr} {fd:FuncData} {ps:List Str} (F:Cu K x q st f fd) (hl:ps.length=3:=by rfl) (h:∀ (kV doc pm:Value) (an:Option Addr) (cdv ct:Value) (u v a:Value),bindArgs (W.fnOf x q (Cm st) (CP st) (Ag st) .none kV doc pm an cdv ct) ⟨[u,v,a],[]⟩=pure (ps.zip [u,v,a]):=by intros; rfl):Binds K fd ps []:=F.binds fun kV doc pm an cdv ct us hu=>by obtain ⟨u,v,a,rfl⟩:=UL3 (hu.trans hl); exact h kV doc pm an cdv ct u v a
theorem Rk {x q:Str} {st:Stmt} {f:Addr} {fd:FuncData} {ps:List Str} (F:Cu K x q st f fd) (hl:ps.length=4:=by rfl) (h:∀ (kV doc pm:Value) (an:Option Addr) (cdv ct:Value) (u v a b:Value),bindArgs (W.fnOf x q (Cm st) (CP st) (Ag st) .none kV doc pm an cdv ct) ⟨[u,v,a,b],[]⟩=pure (ps.zip [u,v,a,b]):=by intros; rfl):Binds K fd ps []:=F.binds fun kV doc pm an cdv ct us hu=>by obtain ⟨u,v,a,b,rfl⟩:=UL4 (hu.trans hl); exact h kV doc pm an cdv ct u v a b
theorem jz {x q:Str} {st:Stmt} {f:Addr} {fd:FuncData} {ps:List Str} (F:Cu K x q st f fd) (hl:ps.length=5:=by rfl) (h:∀ (kV doc pm:Value) (an:Option Addr) (cdv ct:Value) (u v a b c:Value),bindArgs (W.fnOf x q (Cm st) (CP st) (Ag st) .none kV doc pm an cdv ct) ⟨[u,v,a,b,c],[]⟩=pure (ps.zip [u,v,a,b,c]):=by intros; rfl):Binds K fd ps []:=F.binds fun kV doc pm an cdv ct us hu=>by obtain ⟨u,v,a,b,c,rfl⟩:=UL5 (hu.trans hl); exact h kV doc pm an cdv ct u v a b c
theorem jU {x q:Str} {st:Stmt} {f:Addr} {fd:FuncData} {ps:List Str} (F:Cu K x q st f fd) (hl:ps.length=6:=by rfl) (h:∀ (kV doc pm:Value) (an:Option Addr) (cdv ct:Value) (u v a b c d:Value),bindArgs (W.fnOf x q (Cm st) (CP st) (Ag st) .none kV doc pm an cdv ct) ⟨[u,v,a,b,c,d],[]⟩=pure (ps.zip [u,v,a,b,c,d]):=by intros; rfl):Binds K fd ps []:=F.binds fun kV doc pm an cdv ct us hu=>by obtain ⟨u,v,a,b,c,d,rfl⟩:=UL6 (hu.trans hl); exact h kV doc pm an cdv ct u v a b c d
theorem ju {x q:Str} {st:Stmt} {f:Addr} {fd:FuncData} {ps:List Str} (F:Cu K x q st f fd) (hl:ps.length=7:=by rfl) (h:∀ (kV doc pm:Value) (an:Option Addr) (cdv ct:Value) (u v a b c d e:Value),bindArgs (W.fnOf x q (Cm st) (CP st) (Ag st) .none kV doc pm an cdv ct) ⟨[u,v,a,b,c,d,e],[]⟩=pure (ps.zip [u,v,a,b,c,d,e]):=by intros; rfl):Binds K fd ps []:=F.binds fun kV doc pm an cdv ct us hu=>by obtain ⟨u,v,a,b,c,d,e,rfl⟩:=UL7 (hu.trans hl); exact h kV doc pm an cdv ct u v a b c d e
end
theorem Yc {l:W.OpenLaw} {w:World} {K:W.Frag} {h:Heap} {mg:Str->Option Value} {fa:Addr} (X:K.In h) (G:h.Ns mainGlobals mg) (hfa:mg "law" = some (.ref fa))
  {C aN aK aB aP aM p1 p2 p3 p4 p5 p6 b1 b2 b3 b4 b5 b6 b7 fWh fMd fNm fRo fTo fWi fPa fHp fCl fIk fSb fWm fHr fIr fCk fNu fCa fPl fLi fMy fSt fHa fMe fSh fUn fLe fDc fHk fWa fCq fTb fTt fMu fUk fSk fNb fLl fBs fBa fSo fLt fKa fWs fCe fLw fMx fBi fNa fSz fLn fKn fKs fRw fSp fWd fDr fHd fGo fPi fLd fSw fCz fOi fOb fOc fOk fOo fBk fOp fOr fOq fOe fOs fOm fOx fOz fZ:Addr} {odTt anTt odZ anZ:Option Addr} {slTt slZ:Array (Option Value)} {ocTt kVTt dcTt pmTt cdTt ctTt ocZ kVZ dcZ pmZ cdZ ctZ:Value}
  {tLET tML tMR tMLn tMB tm1 tm2 tm3 tm4 tm5 ttN_0 ttN_1 ttN_2 ttN_3 ttN_4 ttK_0 ttK_1 ttK_2 ttp1_0 ttp1_1 ttp2_0 ttp2_1 ttp3_0 ttp3_1 ttp4_0 ttp4_1 ttp4_2 ttp4_3 ttp5_0 ttp5_1 ttp5_2 ttp6_0 ttp6_1 ttp6_2 ttp6_3 ttb1_0 ttb1_1 ttb2_0 ttb2_1 ttb3_0 ttb3_1 ttb4_0 ttb4_1 ttb5_0 ttb5_1 ttb6_0 ttb6_1 ttb7_0 ttb7_1:Tok} {od_N od_K od_p1 od_p2 od_p3 od_p4 od_p5 od_p6 od_b1 od_b2 od_b3 od_b4 od_b5 od_b6 od_b7:Option Addr} {sl_N sl_K sl_p1 sl_p2 sl_p3 sl_p4 sl_p5 sl_p6 sl_b1 sl_b2 sl_b3 sl_b4 sl_b5 sl_b6 sl_b7:Array (Option Value)} {n_N n_K n_p1 n_p2 n_p3 n_p4 n_p5 n_p6 n_b1 n_b2 n_b3 n_b4 n_b5 n_b6 n_b7 nB nP nM:Nat} {eB eP eM:Array DictEntry}
  {tDTt:Addr} {oDTt:Option Addr} {sDTt:Array (Option Value)} {nDTt:Nat} {kDTt:Tok}
  (FWh:DA K "is_whole" jm fWh)
  (FMd:DA K "is_made_of" fu fMd)
  (FNm:DA K "is_name" jW fNm)
  (FRo:DA K "rows_of" eV fRo)
  (FTo:DA K "is_told" fX fTo)
  (FWi:DA K "is_within" kh fWi)
  (FPa:DA K "is_part" d8 fPa)
  (FHp:DA K "has_parts" e_ fHp)
  (FCl:DA K "count_of_last_lines" lO fCl)
  (FIk:DA K "is_key_of" fY fIk)
  (FSb:DA K "stands_behind_stop" lK fSb)
  (FWm:DA K "is_well_made" iJ fWm)
  (FHr:DA K "has_room" lA fHr)
  (FIr:DA K "is_row" gF fIr)
  (FCk:DA K "check_rows" iK fCk)
  (FNu:DA K "numbers_of" jJ fNu)
  (FCa:DA K "count_in_all" fD fCa)
  (FPl:DA K "places_of" d_ fPl)
  (FLi:DA K "lines_by_knob" jw fLi)
  (FMy:DA K "may_be_member" lE fMy)
  (FSt:DA K "set_of" fj fSt)
  (FHa:DA K "has_member" gY fHa)
  (FMe:DA K "members_of" fJ fMe)
  (FSh:DA K "shifted" jR fSh)
  (FUn:DA K "union_of" gq fUn)
  (FLe:DA K "led_to" iI fLe)
  (FDc:DA K "drawn_of" Yz fDc)
  (FHk:DA K "held_keys" jA fHk)
  (FWa:DA K "coupled_ways" gw fWa)
  (FCq:DA K "coupled_keys" jT fCq)
  (FTb:DA K "trail_back" iu fTb)
  (aTt:W.nsIn K mainGlobals "trail_to" = some (some (.ref fTt)))
  (lTt:K.lookup fTt=some ⟨ocTt,odTt,.func (W.fnOf "trail_to" "trail_to" (Cm Vy) (CP Vy) (Ag Vy) (.ref tDTt) kVTt dcTt pmTt anTt cdTt ctTt),slTt⟩) (cTt:W.codeIn K cdTt "trail_to" = true) (kTt:W.keepIn K (.ref fTt)=true)
  (FMu:DA K "muted_boards" eQ fMu)
  (FUk:DA K "unmuted_keys" fK fUk)
  (FSk:DA K "speaking_keys" iR fSk)
  (FNb:DA K "numbers_on_board" j4 fNb)
  (FLl:DA K "led_by_line" gD fLl)
  (FBs:DA K "brought_by_stop" d9 fBs)
  (FBa:DA K "brought_in_all" fV fBa)
  (FSo:DA K "sounding_pipes" ie fSo)
  (FLt:DA K "lines_leading_to" jq fLt)
  (FKa:DA K "key_ahead" iw fKa)
  (FWs:DA K "why_sounds" iB fWs)
  (FCe:DA K "_law_cell_at" jM fCe)
  (FLw:DA K "_law_whole" i_ fLw)
  (FMx:DA K "_law_mixed" jK fMx)
  (FBi:DA K "_law_bits" gO fBi)
  (FNa:DA K "_law_name" fM fNa)
  (FSz:DA K "_law_sizes" fO fSz)
  (FLn:DA K "_law_lines" gh fLn)
  (FKn:DA K "_law_knob" gA fKn)
  (FKs:DA K "_law_knobs" eF fKs)
  (FRw:DA K "_law_rows" fU fRw)
  (FSp:DA K "_law_spot" gB fSp)
  (FWd:DA K "_law_world" dz fWd)
  (FDr:DA K "_law_drawn" fQ fDr)
  (FHd:DA K "_law_held" eU fHd)
  (FGo:DA K "_law_goal" jX fGo)
  (FPi:DA K "_law_pipes_of" iM fPi)
  (FLd:DA K "_law_leads" jy fLd)
  (FSw:DA K "_law_shows" fP fSw)
  (FCz:DA K "_law_closed" ZG fCz)
  (aZ:W.nsIn K mainGlobals "law" = some (some (.ref fZ)))
  (lZ:K.lookup fZ=some ⟨ocZ,odZ,.func (W.fnOf "law" "law" (Cm KZ) (CP KZ) (Ag KZ) .none kVZ dcZ pmZ anZ cdZ ctZ),slZ⟩) (cZ:W.codeIn K cdZ "law" = true) (kZ:W.keepIn K (.ref fZ)=true)
  (aC:W.nsIn K mainGlobals "Organ" = some (some (.ref C)))
  (FOi:MA K C "__init__" "Organ.__init__" Ur fOi)
  (FOb:MA K C "boards" "Organ.boards" gU fOb)
  (FOc:MA K C "key_count" "Organ.key_count" gH fOc)
  (FOk:MA K C "key" "Organ.key" kE fOk)
  (FOo:MA K C "board_of" "Organ.board_of" ig fOo)
  (FBk:MA K C "board_of_knob" "Organ.board_of_knob" ir fBk)
  (FOp:MA K C "coupler" "Organ.coupler" lG fOp)
  (FOr:MA K C "ranks" "Organ.ranks" gJ fOr)
  (FOq:MA K C "pipe_count" "Organ.pipe_count" iD fOq)
  (FOe:MA K C "pipe" "Organ.pipe" je fOe)
  (FOs:MA K C "stop" "Organ.stop" il fOs)
  (FOm:MA K C "mute" "Organ.mute" jc fOm)
  (FOx:MA K C "rank_of" "Organ.rank_of" jl fOx)
  (FOz:MA K C "knobs" "Organ.knobs" eE fOz)
  (pg:W.plainGet K C Str.empty=true)
  (hd:W.hasDictIn K C=true)
  (po:W.plainOver K C=true)
  (sa:W.findIn K (.ref C) "__setattr__" = some (some (.builtin "object.__setattr__")))
  (mkC:W.makesIn K C=true)
  (kc:W.keepIn K (.ref C)=true)
  (n_row_list_:W.findIn K (.ref C) "row_list" = some none)
  (n_board_list_:W.findIn K (.ref C) "board_list" = some none)
  (n_rank_list_:W.findIn K (.ref C) "rank_list" = some none)
  (n_knob_rows_:W.findIn K (.ref C) "knob_rows" = some none)
  (n_board_numbers_:W.findIn K (.ref C) "board_numbers" = some none)
  (n_rank_numbers_:W.findIn K (.ref C) "rank_numbers" = some none)
  (n_knob_numbers_:W.findIn K (.ref C) "knob_numbers" = some none)
  (n_key_places_:W.findIn K (.ref C) "key_places" = some none)
  (n_pipe_places_:W.findIn K (.ref C) "pipe_places" = some none)
  (n_knob_lines_:W.findIn K (.ref C) "knob_lines" = some none)
  (n_step_sets_:W.findIn K (.ref C) "step_sets" = some none)
  (zlen:W.nsIn K mainGlobals "len" = some none)
  (zisinstance:W.nsIn K mainGlobals "isinstance" = some none)
  (zint:W.nsIn K mainGlobals "int" = some none)
  (zbool:W.nsIn K mainGlobals "bool" = some none)
  (zstr:W.nsIn K mainGlobals "str" = some none)
  (zlist:W.nsIn K mainGlobals "list" = some none)
  (ztuple:W.nsIn K mainGlobals "tuple" = some none)
  (zall:W.nsIn K mainGlobals "all" = some none)
  (zany:W.nsIn K mainGlobals "any" = some none)
  (zsum:W.nsIn K mainGlobals "sum" = some none)
  (zrange:W.nsIn K mainGlobals "range" = some none)
  (zzip:W.nsIn K mainGlobals "zip" = some none)
  (zenumerate:W.nsIn K mainGlobals "enumerate" = some none)
  (zmax:W.nsIn K mainGlobals "max" = some none)
  (zreversed:W.nsIn K mainGlobals "reversed" = some none)
  (zset:W.nsIn K mainGlobals "set" = some none)
  (zmin:W.nsIn K mainGlobals "min" = some none)
  (zLET:W.nsIn K mainGlobals "LETTERS" = some (some (.str letters tLET)))
  (zML:W.nsIn K mainGlobals "MOST_LETTERS" = some (some (.int 8 tML)))
  (zMR:W.nsIn K mainGlobals "MOST_ROWS" = some (some (.int 150 tMR)))
  (zMLn:W.nsIn K mainGlobals "MOST_LINES" = some (some (.int 4 tMLn)))
  (zMB:W.nsIn K mainGlobals "MEMBERS_BELOW" = some (some (.int 1200 tMB)))
  (rN:W.nsIn K mainGlobals "NAMED" = some (some (.ref aN)))
  (rK:W.nsIn K mainGlobals "KNOBS" = some (some (.ref aK)))
  (rB:W.nsIn K mainGlobals "BOUNDS" = some (some (.ref aB)))
  (rP:W.nsIn K mainGlobals "PARTS" = some (some (.ref aP)))
  (rM:W.nsIn K mainGlobals "MOST_OF" = some (some (.ref aM)))
  (dB:K.lookup aB=some ⟨.type "dict",none,.dict eB nB,#[]⟩)
  (kB:W.KeysLit w.params eB.toList)
  (oB:(aB == sysModules)=false)
  (dP:K.lookup aP=some ⟨.type "dict",none,.dict eP nP,#[]⟩)
  (kP:W.KeysLit w.params eP.toList)
  (oP:(aP == sysModules)=false)
  (dM:K.lookup aM=some ⟨.type "dict",none,.dict eM nM,#[]⟩)
  (kM:W.KeysLit w.params eM.toList)
  (oM:(aM == sysModules)=false)
  (qp1:W.nsIn K aP "board" = some (some (.ref p1)))
  (qp2:W.nsIn K aP "stop" = some (some (.ref p2)))
  (qp3:W.nsIn K aP "mute" = some (some (.ref p3)))
  (qp4:W.nsIn K aP "coupler" = some (some (.ref p4)))
  (qp5:W.nsIn K aP "rank" = some (some (.ref p5)))
  (qp6:W.nsIn K aP "line" = some (some (.ref p6)))
  (qb1:W.nsIn K aB "keys" = some (some (.ref b1)))
  (qb2:W.nsIn K aB "leap" = some (some (.ref b2)))
  (qb3:W.nsIn K aB "pipes" = some (some (.ref b3)))
  (qb4:W.nsIn K aB "wind" = some (some (.ref b4)))
  (qb5:W.nsIn K aB "shift" = some (some (.ref b5)))
  (qb6:W.nsIn K aB "low" = some (some (.ref b6)))
  (qb7:W.nsIn K aB "high" = some (some (.ref b7)))
  (qn:W.nsIn K aB "new" = some none)
  (qb:W.nsIn K aB "board" = some none)
  (qr:W.nsIn K aB "rank" = some none)
  (ql:W.nsIn K aM "line" = some none)
  (qm1:W.nsIn K aM "board" = some (some (.int 5 tm1)))
  (qm2:W.nsIn K aM "stop" = some (some (.int 24 tm2)))
  (qm3:W.nsIn K aM "coupler" = some (some (.int 12 tm3)))
  (qm4:W.nsIn K aM "mute" = some (some (.int 5 tm4)))
  (qm5:W.nsIn K aM "rank" = some (some (.int 12 tm5)))
  (uN:K.lookup aN=some ⟨.type "tuple",od_N,.seq #[.str "board" ttN_0,.str "rank" ttN_1,.str "stop" ttN_2,.str "coupler" ttN_3,.str "mute" ttN_4] n_N,sl_N⟩)
  (uK:K.lookup aK=some ⟨.type "tuple",od_K,.seq #[.str "stop" ttK_0,.str "coupler" ttK_1,.str "mute" ttK_2] n_K,sl_K⟩)
  (up1:K.lookup p1=some ⟨.type "tuple",od_p1,.seq #[.str "new" ttp1_0,.str "keys" ttp1_1] n_p1,sl_p1⟩)
  (up2:K.lookup p2=some ⟨.type "tuple",od_p2,.seq #[.str "new" ttp2_0,.str "board" ttp2_1] n_p2,sl_p2⟩)
  (up3:K.lookup p3=some ⟨.type "tuple",od_p3,.seq #[.str "new" ttp3_0,.str "board" ttp3_1] n_p3,sl_p3⟩)
  (up4:K.lookup p4=some ⟨.type "tuple",od_p4,.seq #[.str "new" ttp4_0,.str "board" ttp4_1,.str "board" ttp4_2,.str "leap" ttp4_3] n_p4,sl_p4⟩)
  (up5:K.lookup p5=some ⟨.type "tuple",od_p5,.seq #[.str "new" ttp5_0,.str "pipes" ttp5_1,.str "wind" ttp5_2] n_p5,sl_p5⟩)
  (up6:K.lookup p6=some ⟨.type "tuple",od_p6,.seq #[.str "rank" ttp6_0,.str "shift" ttp6_1,.str "low" ttp6_2,.str "high" ttp6_3] n_p6,sl_p6⟩)
  (uTt:K.lookup tDTt=some ⟨.type "tuple",oDTt,.seq #[.int 0 kDTt] nDTt,sDTt⟩)
  (ub1:K.lookup b1=some ⟨.type "tuple",od_b1,.seq #[.int (1) ttb1_0,.int (61) ttb1_1] n_b1,sl_b1⟩)
  (ub2:K.lookup b2=some ⟨.type "tuple",od_b2,.seq #[.int (-60) ttb2_0,.int (60) ttb2_1] n_b2,sl_b2⟩)
  (ub3:K.lookup b3=some ⟨.type "tuple",od_b3,.seq #[.int (1) ttb3_0,.int (97) ttb3_1] n_b3,sl_b3⟩)
  (ub4:K.lookup b4=some ⟨.type "tuple",od_b4,.seq #[.int (0) ttb4_0,.int (1000000000) ttb4_1] n_b4,sl_b4⟩)
  (ub5:K.lookup b5=some ⟨.type "tuple",od_b5,.seq #[.int (-200) ttb5_0,.int (200) ttb5_1] n_b5,sl_b5⟩)
  (ub6:K.lookup b6=some ⟨.type "tuple",od_b6,.seq #[.int (0) ttb6_0,.int (60) ttb6_1] n_b6,sl_b6⟩)
  (ub7:K.lookup b7=some ⟨.type "tuple",od_b7,.seq #[.int (0) ttb7_0,.int (60) ttb7_1] n_b7,sl_b7⟩)
  : ∃ fd:FuncData,(∀ (s:Shared) (v:Value),BindsTo s fd ⟨[v],[]⟩ [("_law_script",v)])/\∀ base:Heap,K.In base->base.Ns mainGlobals mg->Ar l.prog w K mg base Be 11 fa fd ["_law_script"] (Pk K):=by
 obtain ⟨aWh,dWh,FWh⟩:=FWh
 obtain ⟨aMd,dMd,FMd⟩:=FMd
 obtain ⟨aNm,dNm,FNm⟩:=FNm
 obtain ⟨aRo,dRo,FRo⟩:=FRo
 obtain ⟨aTo,dTo,FTo⟩:=FTo
 obtain ⟨aWi,dWi,FWi⟩:=FWi
 obtain ⟨aPa,dPa,FPa⟩:=FPa
 obtain ⟨aHp,dHp,FHp⟩:=FHp
 obtain ⟨aCl,dCl,FCl⟩:=FCl
 obtain ⟨aIk,dIk,FIk⟩:=FIk
 obtain ⟨aSb,dSb,FSb⟩:=FSb
 obtain ⟨aWm,dWm,FWm⟩:=FWm
 obtain ⟨aHr,dHr,FHr⟩:=FHr
 obtain ⟨aIr,dIr,FIr⟩:=FIr
 obtain ⟨aCk,dCk,FCk⟩:=FCk
 obtain ⟨aNu,dNu,FNu⟩:=FNu
 obtain ⟨aCa,dCa,FCa⟩:=FCa
 obtain ⟨aPl,dPl,FPl⟩:=FPl
 obtain ⟨aLi,dLi,FLi⟩:=FLi
 obtain ⟨aMy,dMy,FMy⟩:=FMy
 obtain ⟨aSt,dSt,FSt⟩:=FSt
 obtain ⟨aHa,dHa,FHa⟩:=FHa
 obtain ⟨aMe,dMe,FMe⟩:=FMe
 obtain ⟨aSh,dSh,FSh⟩:=FSh
 obtain ⟨aUn,dUn,FUn⟩:=FUn
 obtain ⟨aLe,dLe,FLe⟩:=FLe
 obtain ⟨aDc,dDc,FDc⟩:=FDc
 obtain ⟨aHk,dHk,FHk⟩:=FHk
 obtain ⟨aWa,dWa,FWa⟩:=FWa
 obtain ⟨aCq,dCq,FCq⟩:=FCq
 obtain ⟨aTb,dTb,FTb⟩:=FTb
 obtain ⟨aMu,dMu,FMu⟩:=FMu
 obtain ⟨aUk,dUk,FUk⟩:=FUk
 obtain ⟨aSk,dSk,FSk⟩:=FSk
 obtain ⟨aNb,dNb,FNb⟩:=FNb
 obtain ⟨aLl,dLl,FLl⟩:=FLl
 obtain ⟨aBs,dBs,FBs⟩:=FBs
 obtain ⟨aBa,dBa,FBa⟩:=FBa
 obtain ⟨aSo,dSo,FSo⟩:=FSo
 obtain ⟨aLt,dLt,FLt⟩:=FLt
 obtain ⟨aKa,dKa,FKa⟩:=FKa
 obtain ⟨aWs,dWs,FWs⟩:=FWs
 obtain ⟨aCe,dCe,FCe⟩:=FCe
 obtain ⟨aLw,dLw,FLw⟩:=FLw
 obtain ⟨aMx,dMx,FMx⟩:=FMx
 obtain ⟨aBi,dBi,FBi⟩:=FBi
 obtain ⟨aNa,dNa,FNa⟩:=FNa
 obtain ⟨aSz,dSz,FSz⟩:=FSz
 obtain ⟨aLn,dLn,FLn⟩:=FLn
 obtain ⟨aKn,dKn,FKn⟩:=FKn
 obtain ⟨aKs,dKs,FKs⟩:=FKs
 obtain ⟨aRw,dRw,FRw⟩:=FRw
 obtain ⟨aSp,dSp,FSp⟩:=FSp
 obtain ⟨aWd,dWd,FWd⟩:=FWd
 obtain ⟨aDr,dDr,FDr⟩:=FDr
 obtain ⟨aHd,dHd,FHd⟩:=FHd
 obtain ⟨aGo,dGo,FGo⟩:=FGo
 obtain ⟨aPi,dPi,FPi⟩:=FPi
 obtain ⟨aLd,dLd,FLd⟩:=FLd
 obtain ⟨aSw,dSw,FSw⟩:=FSw
 obtain ⟨aCz,dCz,FCz⟩:=FCz
 obtain ⟨aOi,iOi,dOi,FOi⟩:=FOi
 obtain ⟨aOb,iOb,dOb,FOb⟩:=FOb
 obtain ⟨aOc,iOc,dOc,FOc⟩:=FOc
 obtain ⟨aOk,iOk,dOk,FOk⟩:=FOk
 obtain ⟨aOo,iOo,dOo,FOo⟩:=FOo
 obtain ⟨aBk,iBk,dBk,FBk⟩:=FBk
 obtain ⟨aOp,iOp,dOp,FOp⟩:=FOp
 obtain ⟨aOr,iOr,dOr,FOr⟩:=FOr
 obtain ⟨aOq,iOq,dOq,FOq⟩:=FOq
 obtain ⟨aOe,iOe,dOe,FOe⟩:=FOe
 obtain ⟨aOs,iOs,dOs,FOs⟩:=FOs
 obtain ⟨aOm,iOm,dOm,FOm⟩:=FOm
 obtain ⟨aOx,iOx,dOx,FOx⟩:=FOx
 obtain ⟨aOz,iOz,dOz,FOz⟩:=FOz
 have e:=hfa.symm.trans (W.mg_of X G aZ)
 cases e
 have FTt:=Vx (st:=Vy) lTt cTt kTt
 have FZ:=Ot (st:=KZ) lZ cZ kZ
 have bTt:Binds K (W.fnOf "trail_to" "trail_to" (Cm Vy) (CP Vy) (Ag Vy) (.ref tDTt) kVTt dcTt pmTt anTt cdTt ctTt) ["organ","knobs","held","key","least"] []:=YD uTt rfl fun us hl=>by obtain ⟨_,_,_,_,_,rfl⟩:=UL5 hl; exact ⟨_,rfl,rfl⟩
 have gN:KTup K aN [.str "board",.str "rank",.str "stop",.str "coupler",.str "mute"]:=(⟨_,_,_,uN,rfl,rfl,by show 5<=sizeLine; decide,.cons ⟨_,rfl⟩ (.cons ⟨_,rfl⟩ (.cons ⟨_,rfl⟩ (.cons ⟨_,rfl⟩ (.cons ⟨_,rfl⟩ (.nil)))))⟩)
 have gK:KTup K aK [.str "stop",.str "coupler",.str "mute"]:=(⟨_,_,_,uK,rfl,rfl,by show 3<=sizeLine; decide,.cons ⟨_,rfl⟩ (.cons ⟨_,rfl⟩ (.cons ⟨_,rfl⟩ (.nil)))⟩)
 have gp1:KTup K p1 [.str "new",.str "keys"]:=(⟨_,_,_,up1,rfl,rfl,by show 2<=sizeLine; decide,.cons ⟨_,rfl⟩ (.cons ⟨_,rfl⟩ (.nil))⟩)
 have gp2:KTup K p2 [.str "new",.str "board"]:=(⟨_,_,_,up2,rfl,rfl,by show 2<=sizeLine; decide,.cons ⟨_,rfl⟩ (.cons ⟨_,rfl⟩ (.nil))⟩)
 have gp3:KTup K p3 [.str "new",.str "board"]:=(⟨_,_,_,up3,rfl,rfl,by show 2<=sizeLine; decide,.cons ⟨_,rfl⟩ (.cons ⟨_,rfl⟩ (.nil))⟩)
 have gp4:KTup K p4 [.str "new",.str "board",.str "board",.str "leap"]:=(⟨_,_,_,up4,rfl,rfl,by show 4<=sizeLine; decide,.cons ⟨_,rfl⟩ (.cons ⟨_,rfl⟩ (.cons ⟨_,rfl⟩ (.cons ⟨_,rfl⟩ (.nil))))⟩)
 have gp5:KTup K p5 [.str "new",.str "pipes",.str "wind"]:=(⟨_,_,_,up5,rfl,rfl,by show 3<=sizeLine; decide,.cons ⟨_,rfl⟩ (.cons ⟨_,rfl⟩ (.cons ⟨_,rfl⟩ (.nil)))⟩)
 have gp6:KTup K p6 [.str "rank",.str "shift",.str "low",.str "high"]:=(⟨_,_,_,up6,rfl,rfl,by show 4<=sizeLine; decide,.cons ⟨_,rfl⟩ (.cons ⟨_,rfl⟩ (.cons ⟨_,rfl⟩ (.cons ⟨_,rfl⟩ (.nil))))⟩)
 have gb1:KTup K b1 [.int (1),.int (61)]:=(⟨_,_,_,ub1,rfl,rfl,by show 2<=sizeLine; decide,.cons ⟨_,rfl⟩ (.cons ⟨_,rfl⟩ (.nil))⟩)
 have gb2:KTup K b2 [.int (-60),.int (60)]:=(⟨_,_,_,ub2,rfl,rfl,by show 2<=sizeLine; decide,.cons ⟨_,rfl⟩ (.cons ⟨_,rfl⟩ (.nil))⟩)
 have gb3:KTup K b3 [.int (1),.int (97)]:=(⟨_,_,_,ub3,rfl,rfl,by show 2<=sizeLine; decide,.cons ⟨_,rfl⟩ (.cons ⟨_,rfl⟩ (.nil))⟩)
 have gb4:KTup K b4 [.int (0),.int (1000000000)]:=(⟨_,_,_,ub4,rfl,rfl,by show 2<=sizeLine; decide,.cons ⟨_,rfl⟩ (.cons ⟨_,rfl⟩ (.nil))⟩)
 have gb5:KTup K b5 [.int (-200),.int (200)]:=(⟨_,_,_,ub5,rfl,rfl,by show 2<=sizeLine; decide,.cons ⟨_,rfl⟩ (.cons ⟨_,rfl⟩ (.nil))⟩)
 have gb6:KTup K b6 [.int (0),.int (60)]:=(⟨_,_,_,ub6,rfl,rfl,by show 2<=sizeLine; decide,.cons ⟨_,rfl⟩ (.cons ⟨_,rfl⟩ (.nil))⟩)
 have gb7:KTup K b7 [.int (0),.int (60)]:=(⟨_,_,_,ub7,rfl,rfl,by show 2<=sizeLine; decide,.cons ⟨_,rfl⟩ (.cons ⟨_,rfl⟩ (.nil))⟩)
 have F0:QL K aB aP aM:=⟨⟨⟨_,qp1,gp1⟩,⟨_,qp2,gp2⟩,⟨_,qp3,gp3⟩,⟨_,qp4,gp4⟩,⟨_,qb1,gb1⟩,⟨_,qb2,gb2⟩,qn,qb,⟨_,qm1⟩,⟨_,qm2⟩,⟨_,qm3⟩,⟨_,qm4⟩⟩,⟨_,qp5,gp5⟩,⟨_,qp6,gp6⟩,⟨_,qb3,gb3⟩,⟨_,qb4,gb4⟩,⟨_,qb5,gb5⟩,⟨_,qb6,gb6⟩,⟨_,qb7,gb7⟩,qr,⟨_,qm5⟩,ql⟩
 have T:Txt K w.params mg C aN aK aB aP aM:=⟨W.mg_none_of X G zlen,W.mg_none_of X G zisinstance,W.mg_none_of X G zint,W.mg_none_of X G zbool,W.mg_none_of X G zstr,W.mg_none_of X G zlist,W.mg_none_of X G ztuple,W.mg_none_of X G zall,W.mg_none_of X G zany,W.mg_none_of X G zsum,W.mg_none_of X G zrange,W.mg_none_of X G zzip,W.mg_none_of X G zenumerate,W.mg_none_of X G zmax,W.mg_none_of X G zreversed,W.mg_none_of X G zset,W.mg_none_of X G zmin,⟨_,W.mg_of X G zLET⟩,⟨_,W.mg_of X G zML⟩,⟨_,W.mg_of X G zMR⟩,⟨_,W.mg_of X G zMLn⟩,⟨_,W.mg_of X G zMB⟩,W.mg_of X G rN,W.mg_of X G rK,W.mg_of X G rB,W.mg_of X G rP,W.mg_of X G rM,gN,gK,⟨⟨_,_,dB,kB⟩,oB⟩,⟨⟨_,_,dP,kP⟩,oP⟩,⟨⟨_,_,dM,kM⟩,oM⟩,⟨pg,hd,po,sa⟩,W.mg_of X G aC,n_row_list_,n_board_list_,n_rank_list_,n_knob_rows_,n_board_numbers_,n_rank_numbers_,n_knob_numbers_,n_key_places_,n_pipe_places_,n_knob_lines_,n_step_sets_⟩
 have N:jD K mg C ⟨fWh,fMd,fNm,fRo,fTo,fWi,fPa,fHp,fCl,fIk,fSb,fWm,fHr,fIr,fCk,fNu,fCa,fPl,fLi,fMy,fSt,fHa,fMe,fSh,fUn,fLe,fDc,fHk,fWa,fCq,fTb,fTt,fMu,fUk,fSk,fNb,fLl,fBs,fBa,fSo,fLt,fKa,fWs,fCe,fLw,fMx,fBi,fNa,fSz,fLn,fKn,fKs,fRw,fSp,fWd,fDr,fHd,fGo,fPi,fLd,fSw,fCz,fOi,fOb,fOc,fOk,fOo,fBk,fOp,fOr,fOq,fOe,fOs,fOm,fOx,fOz,_,_,_,_,_,_,_,_,_,_,_,_,_,_,_,_,_,_,_,_,_,_,_,_,_,_,_,_,_,_,_,_,_,_,_,_,_,_,_,_,_,_,_,_,_,_,_,_,_,_,_,_,_,_,_,_,_,_,_,_,_,_,_,_,_,_,_,_,_,_,_,_,_,_,_,_⟩:=⟨⟨FWh,(Gy FWh),W.mg_of X G aWh⟩,⟨FMd,(FJ FMd),W.mg_of X G aMd⟩,⟨FNm,(Gy FNm),W.mg_of X G aNm⟩,⟨FRo,(Fd FRo),W.mg_of X G aRo⟩,⟨FTo,(FJ FTo),W.mg_of X G aTo⟩,⟨FWi,(Fd FWi),W.mg_of X G aWi⟩,⟨FPa,(FJ FPa),W.mg_of X G aPa⟩,⟨FHp,(Fd FHp),W.mg_of X G aHp⟩,⟨FCl,(Gy FCl),W.mg_of X G aCl⟩,⟨FIk,(FJ FIk),W.mg_of X G aIk⟩,⟨FSb,(Fd FSb),W.mg_of X G aSb⟩,⟨FWm,(Fd FWm),W.mg_of X G aWm⟩,⟨FHr,(Fd FHr),W.mg_of X G aHr⟩,⟨FIr,(Fd FIr),W.mg_of X G aIr⟩,⟨FCk,(Gy FCk),W.mg_of X G aCk⟩,⟨FNu,(Gy FNu),W.mg_of X G aNu⟩,⟨FCa,(Gy FCa),W.mg_of X G aCa⟩,⟨FPl,(Gy FPl),W.mg_of X G aPl⟩,⟨FLi,(Fd FLi),W.mg_of X G aLi⟩,⟨FMy,(Gy FMy),W.mg_of X G aMy⟩,⟨FSt,(Gy FSt),W.mg_of X G aSt⟩,⟨FHa,(Fd FHa),W.mg_of X G aHa⟩,⟨FMe,(Gy FMe),W.mg_of X G aMe⟩,⟨FSh,(FJ FSh),W.mg_of X G aSh⟩,⟨FUn,(Gy FUn),W.mg_of X G aUn⟩,⟨FLe,(FJ FLe),W.mg_of X G aLe⟩,⟨FDc,(FJ FDc),W.mg_of X G aDc⟩,⟨FHk,(Fd FHk),W.mg_of X G aHk⟩,⟨FWa,(FJ FWa),W.mg_of X G aWa⟩,⟨FCq,(FJ FCq),W.mg_of X G aCq⟩,⟨FTb,(FJ FTb),W.mg_of X G aTb⟩,⟨FTt,bTt,W.mg_of X G aTt⟩,⟨FMu,(Fd FMu),W.mg_of X G aMu⟩,⟨FUk,(FJ FUk),W.mg_of X G aUk⟩,⟨FSk,(FJ FSk),W.mg_of X G aSk⟩,⟨FNb,(FJ FNb),W.mg_of X G aNb⟩,⟨FLl,(FJ FLl),W.mg_of X G aLl⟩,⟨FBs,(FJ FBs),W.mg_of X G aBs⟩,⟨FBa,(FJ FBa),W.mg_of X G aBa⟩,⟨FSo,(FJ FSo),W.mg_of X G aSo⟩,⟨FLt,(Rk FLt),W.mg_of X G aLt⟩,⟨FKa,(Rk FKa),W.mg_of X G aKa⟩,⟨FWs,(Rk FWs),W.mg_of X G aWs⟩,⟨FCe,(Fd FCe),W.mg_of X G aCe⟩,⟨FLw,(Gy FLw),W.mg_of X G aLw⟩,⟨FMx,(Fd FMx),W.mg_of X G aMx⟩,⟨FBi,(Gy FBi),W.mg_of X G aBi⟩,⟨FNa,(Fd FNa),W.mg_of X G aNa⟩,⟨FSz,(FJ FSz),W.mg_of X G aSz⟩,⟨FLn,(FJ FLn),W.mg_of X G aLn⟩,⟨FKn,(FJ FKn),W.mg_of X G aKn⟩,⟨FKs,(FJ FKs),W.mg_of X G aKs⟩,⟨FRw,(Rk FRw),W.mg_of X G aRw⟩,⟨FSp,(Fd FSp),W.mg_of X G aSp⟩,⟨FWd,(Gy FWd),W.mg_of X G aWd⟩,⟨FDr,(Fd FDr),W.mg_of X G aDr⟩,⟨FHd,(Fd FHd),W.mg_of X G aHd⟩,⟨FGo,(FJ FGo),W.mg_of X G aGo⟩,⟨FPi,(Rk FPi),W.mg_of X G aPi⟩,⟨FLd,(ju FLd),W.mg_of X G aLd⟩,⟨FSw,(jz FSw),W.mg_of X G aSw⟩,⟨FCz,(jU FCz),W.mg_of X G aCz⟩,⟨FOi,(Fd FOi),⟨mkC,aOi,iOi,kc⟩⟩,⟨FOb,(Gy FOb),⟨aOb,iOb,FOb.kp⟩⟩,⟨FOc,(Gy FOc),⟨aOc,iOc,FOc.kp⟩⟩,⟨FOk,(FJ FOk),⟨aOk,iOk,FOk.kp⟩⟩,⟨FOo,(Fd FOo),⟨aOo,iOo,FOo.kp⟩⟩,⟨FBk,(Fd FBk),⟨aBk,iBk,FBk.kp⟩⟩,⟨FOp,(Fd FOp),⟨aOp,iOp,FOp.kp⟩⟩,⟨FOr,(Gy FOr),⟨aOr,iOr,FOr.kp⟩⟩,⟨FOq,(Gy FOq),⟨aOq,iOq,FOq.kp⟩⟩,⟨FOe,(FJ FOe),⟨aOe,iOe,FOe.kp⟩⟩,⟨FOs,(Fd FOs),⟨aOs,iOs,FOs.kp⟩⟩,⟨FOm,(Fd FOm),⟨aOm,iOm,FOm.kp⟩⟩,⟨FOx,(Fd FOx),⟨aOx,iOx,FOx.kp⟩⟩,⟨FOz,(Gy FOz),⟨aOz,iOz,FOz.kp⟩⟩⟩
 exact ⟨W.fnOf "law" "law" (Cm KZ) (CP KZ) (Ag KZ) .none kVZ dcZ pmZ anZ cdZ ctZ,fun s v=>.of_eq rfl,fun base _ _=>YH FZ N T F0⟩
theorem walk {l:W.OpenLaw} {q:Program} {loose:List Str} {XP:(Str->Option Value)->Heap->Prop} {YP:World->Heap->Prop} {d:DefRec} {K:Params->W.Frag} (hn:l.most=some 63) (hdf:d.params.defaults=[])
  (hY:∀ (w:World) (h:Heap),YP w h->(K w.params).In h)
  (F:∀ (w:World) (mg:Str->Option Value) (fa:Addr) (h:Heap),(K w.params).In h->h.Ns mainGlobals mg->mg d.name=some (.ref fa) ->
   ∃ fd:FuncData,(∀ (s:Shared) (u:Value),BindsTo s fd ⟨[u],[]⟩ [("_law_script",u)])/\∀ base:Heap,(K w.params).In base->base.Ns mainGlobals mg->Ar l.prog w (K w.params) mg base Be 11 fa fd ["_law_script"] (Pk (K w.params))) :
  W.WalkO q loose XP YP l.row.toRowW d [] (fun f vs=>PySem.call f vs) :=
 L2.VM (n:=63) (k:=11) (x:="_law_script") (CX:=fun _=>Be) (sp:=fun w=>Pk (K w.params)) hn (by decide) hdf ⟨rfl,by decide,by decide⟩ hY F (fun _ _ a ns hl _ hS=>⟨a,ns,rfl,hS,hl,fun _=>rfl⟩) fun _ _ _ _ _ z=>z
end K24
open PySem PySem.W PyProof.Rows
noncomputable def PySem.W.Fast.tw9579000231158057318:Unit:=()
noncomputable def PySem.W.Fast.tw6169047052538586796:Unit:=()
noncomputable def PySem.W.Fast.tw4332622030146152731:Unit:=()
noncomputable def PySem.W.Fast.tw1052764378859923256:Unit:=()
noncomputable def PySem.W.Fast.tw767959667655243601:Unit:=()
noncomputable def PySem.W.Fast.tw17443219664998190850:Unit:=()
noncomputable def PySem.W.Fast.tw12100982217790382628:Unit:=()
noncomputable def PySem.W.Fast.tw18040835810042864962:Unit:=()
noncomputable def PySem.W.Fast.tw5619814092415584559:Unit:=()
noncomputable def PySem.W.Fast.tw9697404944696575114:Unit:=()
noncomputable def PySem.W.Fast.tw901592446985790313:Unit:=()
noncomputable def PySem.W.Fast.tw6239465972516043127:Unit:=()
noncomputable def PySem.W.Fast.tw17418938191825414154:Unit:=()
noncomputable def PySem.W.Fast.tw2264921611463386820:Unit:=()
noncomputable def PySem.W.Fast.tw11156686320221715247:Unit:=()
noncomputable def PySem.W.Fast.tw14159530363397388635:Unit:=()
noncomputable def PySem.W.Fast.tw8261838060553185168:Unit:=()
noncomputable def PySem.W.Fast.tw10546136569012111671:Unit:=()
noncomputable def PySem.W.Fast.tw10742111055918676155:Unit:=()
noncomputable def PySem.W.Fast.tw10175735148785884573:Unit:=()
noncomputable def PySem.W.Fast.tw7896168946551027649:Unit:=()
noncomputable def PySem.W.Fast.tw2639574604324553245:Unit:=()
noncomputable def PySem.W.Fast.tw4321749407726311693:Unit:=()
noncomputable def PySem.W.Fast.tw14365565745914161054:Unit:=()
noncomputable def PySem.W.Fast.tw12781474049152350870:Unit:=()
noncomputable def PySem.W.Fast.tw4103729134505564574:Unit:=()
noncomputable def PySem.W.Fast.tw15720977563537631001:Unit:=()
noncomputable def PySem.W.Fast.tw18220664470284707779:Unit:=()
noncomputable def PySem.W.Fast.tw5670154025408140714:Unit:=()
noncomputable def PySem.W.Fast.tw18276023498585557465:Unit:=()
noncomputable def PySem.W.Fast.tw5399096516668839668:Unit:=()
noncomputable def PySem.W.Fast.tw915405779738209122:Unit:=()
noncomputable def PySem.W.Fast.tw8659648953022962795:Unit:=()
noncomputable def PySem.W.Fast.tw8093593220853046576:Unit:=()
noncomputable def PySem.W.Fast.tw16837564324113615164:Unit:=()
noncomputable def PySem.W.Fast.tw14716076300126228974:Unit:=()
noncomputable def PySem.W.Fast.tw12652941099910061540:Unit:=()
noncomputable def PySem.W.Fast.tw12796410846551422190:Unit:=()
noncomputable def PySem.W.Fast.tw4325919606755676110:Unit:=()
noncomputable def PySem.W.Fast.tw16345252792884249781:Unit:=()
noncomputable def PySem.W.Fast.tw10267592158632593611:Unit:=()
noncomputable def PySem.W.Fast.tw7687490751527086742:Unit:=()
noncomputable def PySem.W.Fast.tw1064109941273301416:Unit:=()
noncomputable def PySem.W.Fast.tw16655344231977316185:Unit:=()
noncomputable def PySem.W.Fast.tw14977301284322539646:Unit:=()
noncomputable def PySem.W.Fast.tw3184947475852976532:Unit:=()
noncomputable def PySem.W.Fast.tw4341986737878191118:Unit:=()
noncomputable def PySem.W.Fast.tw15829546903144602309:Unit:=()
noncomputable def PySem.W.Fast.tw6583413107243116753:Unit:=()
noncomputable def PySem.W.Fast.tw611687832143152706:Unit:=()
noncomputable def PySem.W.Fast.tw5285583481768616332:Unit:=()
noncomputable def PySem.W.Fast.tw16145639643657528807:Unit:=()
noncomputable def PySem.W.Fast.tw18323061613520120258:Unit:=()
noncomputable def PySem.W.Fast.tw5907982770446877650:Unit:=()
noncomputable def PySem.W.Fast.tw2684067831086373079:Unit:=()
noncomputable def PySem.W.Fast.tw16394177168244002665:Unit:=()
noncomputable def PySem.W.Fast.tw12604979869933516522:Unit:=()
noncomputable def PySem.W.Fast.tw15067369787192049568:Unit:=()
noncomputable def PySem.W.Fast.tw3401666543139779271:Unit:=()
noncomputable def PySem.W.Fast.tw3014440193239321451:Unit:=()
noncomputable def PySem.W.Fast.tw17975822859096623036:Unit:=()
noncomputable def PySem.W.Fast.tw6267380813497154013:Unit:=()
noncomputable def PySem.W.Fast.tw384782591867858954:Unit:=()
noncomputable def PySem.W.Fast.tw8460625233040327050:Unit:=()
noncomputable def PySem.W.Fast.tw1310711810556456066:Unit:=()
noncomputable def PySem.W.Fast.tw17310033446544992318:Unit:=()
noncomputable def PySem.W.Fast.tw7396620586410416062:Unit:=()
noncomputable def PySem.W.Fast.tw17597464574753449991:Unit:=()
noncomputable def PySem.W.Fast.tw7860435091063760770:Unit:=()
noncomputable def PySem.W.Fast.tw2893876120516159128:Unit:=()
noncomputable def PySem.W.Fast.tw10753757898228269855:Unit:=()
noncomputable def PySem.W.Fast.tw17298574570657375033:Unit:=()
noncomputable def PySem.W.Fast.tw4625916098159960086:Unit:=()
noncomputable def PySem.W.Fast.tw10392354491167595031:Unit:=()
noncomputable def PySem.W.Fast.tw17216219144932986879:Unit:=()
noncomputable def PySem.W.Fast.tw4897965933100931361:Unit:=()
noncomputable def PySem.W.Fast.tw9568794227493979075:Unit:=()
noncomputable def PySem.W.Fast.tw3269229939381704074:Unit:=()
noncomputable def PySem.W.Fast.tw15039558773756148094:Unit:=()
noncomputable def PySem.W.Fast.tw491603803400207806:Unit:=()
noncomputable def PySem.W.Fast.tw5157566277677453229:Unit:=()
noncomputable def PySem.W.Fast.tw14831184287809528413:Unit:=()
noncomputable def PySem.W.Fast.tw17047651138312997402:Unit:=()
noncomputable def PySem.W.Fast.tw5652342449535677777:Unit:=()
noncomputable def PySem.W.Fast.tw14740886147031457431:Unit:=()
noncomputable def PySem.W.Fast.tw15421811325441921847:Unit:=()
noncomputable def PySem.W.Fast.tw7008570601924265211:Unit:=()
noncomputable def PySem.W.Fast.tw10885771640021403626:Unit:=()
noncomputable def PySem.W.Fast.tw11657404454270689197:Unit:=()
noncomputable def PySem.W.Fast.tw2855774523488353312:Unit:=()
noncomputable def PySem.W.Fast.tw7812941935410435849:Unit:=()
noncomputable def PySem.W.Fast.tw14055326016953028600:Unit:=()
noncomputable def PySem.W.Fast.tw1132613804061839347:Unit:=()
noncomputable def PySem.W.Fast.tw10354866234163807821:Unit:=()
noncomputable def PySem.W.Fast.tw2170916246218571459:Unit:=()
noncomputable def PySem.W.Fast.tw16367359521860616331:Unit:=()
noncomputable def PySem.W.Fast.tw10183824027248448007:Unit:=()
noncomputable def PySem.W.Fast.tw14523022175004353257:Unit:=()
noncomputable def PySem.W.Fast.tw10392840188815361343:Unit:=()
noncomputable def PySem.W.Fast.tw7788603326602572612:Unit:=()
noncomputable def PySem.W.Fast.tw12655208187793635052:Unit:=()
noncomputable def PySem.W.Fast.tw3894861659614574093:Unit:=()
noncomputable def PySem.W.Fast.tw525140482309957537:Unit:=()
noncomputable def PySem.W.Fast.tw7361590138574724796:Unit:=()
noncomputable def PySem.W.Fast.tw12432854377040776648:Unit:=()
noncomputable def PySem.W.Fast.tw10584691422960756707:Unit:=()
set_option maxRecDepth 100000 in
set_option maxHeartbeats 0 in
theorem PySem.Challenge.cw_windchest_k24_whole_sound_is_shown_holds : PySem.Challenge.rw_windchest_k24_whole_sound_is_shown.Holds := by
 w_on; o_law; k_head; (case hw=>w_witness2)
 k_fill
 refine K24.walk (l:=PySem.Challenge.rw_windchest_k24_whole_sound_is_shown) rfl rfl (fun w h Y=>PySem.W.kIn_of Y) ?F
 case F =>
  intro w mg fa h KX G hmg
  refine' K24.Yc KX G hmg ?_ ?_ ?_ ?_ ?_ ?_ ?_ ?_ ?_ ?_ ?_ ?_ ?_ ?_ ?_ ?_ ?_ ?_ ?_ ?_ ?_ ?_ ?_ ?_ ?_ ?_ ?_ ?_ ?_ ?_ ?_ ?_ ?_ ?_ ?_ ?_ ?_ ?_ ?_ ?_ ?_ ?_ ?_ ?_ ?_ ?_ ?_ ?_ ?_ ?_ ?_ ?_ ?_ ?_ ?_ ?_ ?_ ?_ ?_ ?_ ?_ ?_ ?_ ?_ ?_ ?_ ?_ ?_ ?_ ?_ ?_ ?_ ?_ ?_ ?_ ?_ ?_ ?_ ?_ ?_ ?_ ?_ ?_ ?_ ?_ ?_ ?_ ?_ ?_ ?_ ?_ ?_ ?_ ?_ ?_ ?_ ?_ ?_ ?_ ?_ ?_ ?_ ?_ ?_ ?_ ?_ ?_ ?_ ?_ ?_ ?_ ?_ ?_ ?_ ?_ ?_ ?_ ?_ ?_ ?_ ?_ ?_ ?_ ?_ ?_ ?_ ?_ ?_ ?_ ?_ ?_ ?_ ?_ ?_ ?_ ?_ ?_ ?_ ?_ ?_ ?_ ?_ ?_ ?_ ?_ ?_ ?_ ?_ ?_ ?_ ?_ ?_ ?_ ?_ ?_ ?_ ?_ ?_ ?_ ?_ ?_ ?_ ?_ ?_ ?_ ?_ ?_ ?_ ?_ ?_ ?_ ?_ ?_ ?_ ?_
  all_goals first | (k_is; done) | (refine' ⟨?a,_,L2.Ot ?l ?c ?k⟩; (case a=>k_is); (case l=>k_is); (case c=>k_is); case k=>k_is) | (refine' ⟨?a,?i,_,L2.Ot ?l ?c ?k⟩; (case a=>k_is); (case i=>k_is); (case l=>k_is); (case c=>k_is); case k=>k_is) | (k_keys; done) | decide | kernel_rfl! | skip
end PartK24z
