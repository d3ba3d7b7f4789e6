import PyProof.Rows.All
import Wide.All
import OpenK.AllK
import Wide.FinOn
import Lean
import PyProof.EqAt
import PyProof.EqKinds
import PyProof.TupleCall
import PyProof.ZipIter
import PyProof.WalksEnum
import PyProof.EnumMake
import PyProof.NeKinds
import KE.KDictList
import PyProof.Rows.SetFrom
import PyProof.StrWalks
import PyProof.CollectWalk
import PyProof.Rows.SortWalk
import PyProof.Rows.BitMore
import PyProof.Rows.IntCalls
import KE.KRevIter
import PyProof.SetRoads
import OpenK.KTop
import PyProof.Rows.StrWeight2
import PyProof.SumWalk
import PyProof.SliceList
import PyProof.StationsW
import PyProof.NsDelKeeps
import PyProof.SeqI3
import PyProof.IsRules
import PyProof.Cells
import PySem.Challenge.RW_windchest_k29_whole_held_keys_by_rows
local macro_rules | `(tactic| omega) => `(tactic| lia)
set_option Elab.async false
set_option linter.all false
set_option maxRecDepth 100000
namespace L2
open PySem PySem.Spec PyProof.Rows
noncomputable abbrev Key:=Sum Int Str
noncomputable def J5:Key->Value->Bool
 | .inl k,v=>Value.isInt k v
 | .inr x,v=>Value.isStrOf x v
noncomputable def iG (w:World):Key->Int
 | .inl k=>hashInt k
 | .inr x=>hashStr w x
theorem CV:∀ {k:Key} {v:Value},J5 k v=true->(∃ i t,k=Sum.inl i/\v=Value.int i t) \/ (∃ x t,k=Sum.inr x/\v=Value.str x t)
 | .inl i,v,h=>by
  obtain ⟨t,e⟩:=Value.isInt_shape (k:=i) (v:=v) h
  exact .inl ⟨i,t,rfl,e⟩
 | .inr x,v,h=>by
  obtain ⟨t,e⟩:=Value.isStrOf_shape (x:=x) (v:=v) h
  exact .inr ⟨x,t,rfl,e⟩
theorem Qd (i:Int) (t:Tok):J5 (.inl i) (.int i t)=true:=by simp [J5,Value.isInt]
theorem Ql (x:Str) (t:Tok):J5 (.inr x) (.str x t)=true:=by simp [J5,Value.isStrOf]
theorem X8 (a b:Int):decide ((Sum.inl a:Key)=Sum.inl b)=(a == b):=by
 by_cases e:a=b
 ·subst e; simp
 ·have h:¬ (Sum.inl a:Key)=Sum.inl b:=fun q=>e (Sum.inl.inj q)
  rw [decide_eq_false h]
  exact (beq_eq_false_iff_ne.mpr e).symm
theorem XF (a b:Str):decide ((Sum.inr a:Key)=Sum.inr b)=decide (a=b):=by
 by_cases e:a=b
 ·subst e; simp
 ·have h:¬ (Sum.inr a:Key)=Sum.inr b:=fun q=>e (Sum.inr.inj q)
  rw [decide_eq_false h,decide_eq_false e]
theorem W6 (a:Int) (b:Str):decide ((Sum.inl a:Key)=Sum.inr b)=false:=decide_eq_false (fun q=>nomatch q)
theorem Xx (a:Str) (b:Int):decide ((Sum.inr a:Key)=Sum.inl b)=false:=decide_eq_false (fun q=>nomatch q)
noncomputable def Bu (prog:Program) (w:World):PySem.KeyKind prog w Key where
 is:=J5
 hash:=iG w
 inj:=fun v a b ha hb=>by
  rcases CV ha with ⟨i,t,rfl,rfl⟩ | ⟨x,t,rfl,rfl⟩
  ·rcases CV hb with ⟨j,u,rfl,e⟩ | ⟨y,u,rfl,e⟩
   ·injection e with e1 _; rw [e1]
   ·exact nomatch e
  ·rcases CV hb with ⟨j,u,rfl,e⟩ | ⟨y,u,rfl,e⟩
   ·exact nomatch e
   ·injection e with e1 _; rw [e1]
 byValue:=fun k v h=>by
  rcases CV h with ⟨i,t,rfl,rfl⟩ | ⟨x,t,rfl,rfl⟩ <;> rfl
 pyHash:=fun hv h=>by
  rcases CV hv with ⟨i,t,rfl,rfl⟩ | ⟨x,t,rfl,rfl⟩
  ·exact wpAny_pyHash_int h
  ·exact wpAny_pyHash_str h
 eqBool:=fun hu hv h=>by
  rcases CV hu with ⟨i,t,rfl,rfl⟩ | ⟨x,t,rfl,rfl⟩
  ·rcases CV hv with ⟨j,u,rfl,rfl⟩ | ⟨y,u,rfl,rfl⟩
   ·rw [X8] at h; exact wpAny_eqBool_int h
   ·rw [W6] at h; exact SeqAt.EqAt.int_str i t y u _ _ _ _ h
  ·rcases CV hv with ⟨j,u,rfl,rfl⟩ | ⟨y,u,rfl,rfl⟩
   ·rw [Xx] at h; exact SeqAt.EqAt.str_int x t j u _ _ _ _ h
   ·rw [XF] at h; exact wpAny_eqBool_str h
 «strs»:=fun k x t v h=>by
  rcases CV h with ⟨i,u,rfl,e⟩ | ⟨y,u,rfl,e⟩
  ·exact nomatch e
  ·injection e with e1 _
   subst e1
   cases v <;> rfl
theorem Mf (prog:Program) (w:World) (i:Int) (t:Tok):(Bu prog w).is (.inl i) (.int i t)=true:=Qd i t
theorem Ma (prog:Program) (w:World) (x:Str) (t:Tok):(Bu prog w).is (.inr x) (.str x t)=true:=Ql x t
end L2
namespace L2
open PySem PySem.Spec PyProof.Rows
inductive V where
 | non | bl (b:Bool) | int (i:Int) | str (x:Str) | byt (b:Array UInt8) | flt (b:UInt64) | ref (a:Addr) | ty (n:String)
 deriving DecidableEq
noncomputable def RelV:V->Value->Prop
 | .non,u=>u=Value.none
 | .bl b,u=>u=Value.bool b
 | .int i,u=>∃ t,u=Value.int i t
 | .str x,u=>∃ t,u=Value.str x t
 | .byt b,u=>∃ t,u=Value.bytes b t
 | .flt b,u=>∃ t,u=Value.float b t
 | .ref a,u=>u=Value.ref a
 | .ty n,u=>u=Value.type n
noncomputable abbrev Vals:List V->List Value->Prop:=Paired RelV
theorem Vals.length {xs:List V} {us:List Value} (r:Vals xs us):xs.length=us.length:=Paired.length r
theorem Vals.get:∀ {xs:List V} {us:List Value} {i:Nat} {x:V},Vals xs us->xs[i]? = some x->∃ u,us[i]? = some u/\RelV x u
 | _,_,_,_,.nil,e=>by simp at e
 | _,_,0,_,.cons r _,e=>by simp at e; subst e; exact ⟨_,rfl,r⟩
 | _,_,i+1,x,.cons _ t,e=>by
  obtain ⟨u,h1,h2⟩:=Vals.get (i:=i) (x:=x) t (by simpa using e)
  exact ⟨u,by simpa using h1,h2⟩
theorem Vals.set {x:V} {u:Value} (r:RelV x u):∀ {xs:List V} {us:List Value} (i:Nat),Vals xs us->Vals (xs.set i x) (us.set i u)
 | _,_,_,.nil=>.nil
 | _,_,0,.cons _ t=>.cons r t
 | _,_,i+1,.cons q t=>.cons q (Vals.set r i t)
theorem Vals.append:∀ {xs ys:List V} {us ws:List Value},Vals xs us->Vals ys ws->Vals (xs++ys) (us++ws)
 | _,_,_,_,.nil,s=>s
 | _,_,_,_,.cons r t,s=>.cons r (Vals.append t s)
theorem Vals.take:∀ {xs:List V} {us:List Value} (n:Nat),Vals xs us->Vals (xs.take n) (us.take n)
 | _,_,0,_=>.nil
 | _,_,_+1,.nil=>.nil
 | _,_,n+1,.cons r t=>.cons r (Vals.take n t)
theorem Vals.drop:∀ {xs:List V} {us:List Value} (n:Nat),Vals xs us->Vals (xs.drop n) (us.drop n)
 | _,_,0,r=>r
 | _,_,_+1,.nil=>.nil
 | _,_,n+1,.cons _ t=>Vals.drop n t
noncomputable def GP:Option V->Option Value->Prop
 | some v,some u=>RelV v u
 | none,none=>True
 | _,_=>False
noncomputable def KV {κ:Type}:List (κ × V)->List (κ × Value)->Prop:=Paired fun (p:κ × V) (q:κ × Value)=>p.1=q.1/\RelV p.2 q.2
noncomputable def kV:Key->V
 | .inl i=>.int i
 | .inr x=>.str x
inductive HO where
 | lst (xs:List V)
 | tup (xs:List V)
 | dK (kvs:List (Key × V)) | dT (kvs:List (List Key × V))
 | set (S:Int->Bool) (n:Nat)
 | ins (C dx:Addr) (fs:List (Str × V))
 | own (x:Addr)
 | xd (fs:List (Str × V))
 | met (f x:Addr)
 | rng (lo hi:Int)
 | frz (o:Obj) (u:HO)
 | tbl (ps:Array Value)
 | ext (φ:Heap->Prop)
noncomputable abbrev Hp:=Addr->Option HO
noncomputable def upd (H:Hp) (a:Addr) (o:HO):Hp:=fun b=>if b=a then some o else H b
theorem Af {H:Hp} {a:Addr} {o:HO}:upd H a o a=some o:=by unfold upd; rw [if_pos rfl]
theorem Al {H:Hp} {a b:Addr} {o:HO} (h:b ≠ a):upd H a o b=H b:=by unfold upd; rw [if_neg h]
theorem V0 {H:Hp} {a b:Addr} {o u:HO} (h:H a=some o) (h':H b=some u) (d:o ≠ u):a ≠ b:=by
 intro e; subst e; rw [h] at h'; exact d (Option.some.inj h')
theorem Aj {H:Hp} {a b:Addr} {o:HO} (h:H a=some o) (h':H b=none):a ≠ b:=by
 intro e; subst e; rw [h] at h'; cases h'
section
variable (P:Program) (w:World)
noncomputable def CG (H:Hp) (h:Heap) (a:Addr):HO->Prop
 | .lst xs=>xs.length<=sizeLine/\∃ (its:List Value) (n:Nat),Vals xs its/\h.get? a=some { cls:=.type "list",data:=.seq its.toArray n }
 | .tup xs=>xs.length<=sizeLine/\∃ its:List Value,Vals xs its/\IsTup h a its.toArray
 | .dK kvs=>kvs.length<=sizeLine/\(a == sysModules)=false/\∃ vs,KV kvs vs/\h.DictOf (Bu P w) a vs
 | .dT kvs=>kvs.length<=sizeLine/\(a == sysModules)=false/\∃ xs:List (List Key × Addr × Value),
   Paired (fun (p:List Key × V) (q:List Key × Addr × Value)=>p.1=q.1/\H q.2.1=some (.tup (p.1.map kV))/\RelV p.2 q.2.2) kvs xs /\
   ∃ o es ep,h.get? a=some o/\o.ExactDict/\o.data=.dict es ep/\es.toList=xs.map (entryOfKey (tupleKind (Bu P w)))/\(xs.map (·.1)).Nodup
 | .set S n=>h.SetOf (intKind P w) a S n
 | .ins C dx fs=>H dx=some (.own a)/\fs.length<=1000/\dx ≠ a/\h.get? a=some (PySem.W.instObj C dx) /\
   ∃ mA,h.Ns1 dx mA/\(∀ f,GP (fs.lookup f) (mA f))/\PySem.Within mA (fs.map (·.1))
 | .own _=>∃ o,h.get? a=some o
 | .xd fs=>∃ mA,h.Ns1 a mA/\∀ f,GP (fs.lookup f) (mA f)
 | .rng lo hi=>∃ t u v,h.get? a=some { cls:=.type "range",data:=.fields #[.int lo t,.int hi u,.int 1 v] }
 | .frz o u=>h.get? a=some o/\CG H h a u
 | .tbl ps=>h.get? a=some { cls:=.none,data:=.fields ps }
 | .met f x=>h.get? a=some (PySem.W.methodObj (.ref f) (.ref x))
 | .ext φ=>φ h/\(∃ o,h.get? a=some o)/\∀ h1 h2:Heap,φ h1->(∀ o,h1.get? a=some o->h2.get? a=some o)->φ h2
noncomputable def Hs (H:Hp) (h:Heap):Prop:=∀ a o,H a=some o->CG P w H h a o
end
section
variable {P:Program} {w:World} {H H':Hp} {h h':Heap} {a:Addr} {o:HO}
theorem CG.lt (x:CG P w H h a o):a<h.objs.size:=by
 cases o with
 | lst xs=>obtain ⟨_,_,_,_,e⟩:=x; exact Heap.lt_size e
 | tup xs=>obtain ⟨_,_,_,p⟩:=x; exact p.lt
 | dK kvs=>obtain ⟨_,_,_,_,o,_,_,e,_⟩:=x; exact Heap.lt_size e
 | dT kvs=>obtain ⟨_,_,_,_,o,_,_,e,_⟩:=x; exact Heap.lt_size e
 | set S n=>obtain ⟨o,_,_,_,e,_⟩:=x; exact Heap.lt_size e
 | ins C dx fs=>obtain ⟨_,_,_,e,_⟩:=x; exact Heap.lt_size e
 | own y=>obtain ⟨_,e⟩:=x; exact Heap.lt_size e
 | xd fs=>obtain ⟨_,⟨_,_,_,e,_⟩,_⟩:=x; exact Heap.lt_size e
 | rng lo hi=>obtain ⟨_,_,_,e⟩:=x; exact Heap.lt_size e
 | frz ob u=>obtain ⟨e,_⟩:=x; exact Heap.lt_size e
 | tbl ps=>exact Heap.lt_size (show h.get? a=some _ from x)
 | met f y=>exact Heap.lt_size (show h.get? a=some _ from x)
 | ext φ=>obtain ⟨_,⟨_,e⟩,_⟩:=x; exact Heap.lt_size e
theorem Paired.Eo {α β:Type} {F G:α->β->Prop}:∀ {l₁:List α} {l₂:List β},Paired F l₁ l₂->(∀ a b,F a b->G a b)->Paired G l₁ l₂
 | _,_,.nil,_=>.nil
 | _,_,.cons r t,f=>.cons (f _ _ r) (Paired.Eo t f)
theorem CG.stay (x:CG P w H h a o) (k:∀ b u,(b=a \/ H b=some (.own a))->h.get? b=some u->h'.get? b=some u)
  (ho:∀ b,H b=some (.own a)->H' b=some (.own a)) (ht:∀ b xs,H b=some (.tup xs)->H' b=some (.tup xs)):CG P w H' h' a o:=by
 induction o with
 | lst xs=>obtain ⟨z,its,n,r,e⟩:=x; exact ⟨z,its,n,r,k _ _ (.inl rfl) e⟩
 | tup xs=>obtain ⟨z,its,r,ob,e,c⟩:=x; exact ⟨z,its,r,ob,k _ _ (.inl rfl) e,c⟩
 | dK kvs=>obtain ⟨z,y,vs,r,ob,es,ep,e,c⟩:=x; exact ⟨z,y,vs,r,ob,es,ep,k _ _ (.inl rfl) e,c⟩
 | dT kvs =>
  obtain ⟨z,y,xs,r,ob,es,ep,e,c⟩:=x
  exact ⟨z,y,xs,Paired.Eo r fun p q z=>⟨z.1,ht _ _ z.2.1,z.2.2⟩,ob,es,ep,k _ _ (.inl rfl) e,c⟩
 | set S n=>obtain ⟨ob,es,ep,t,e,c⟩:=x; exact ⟨ob,es,ep,t,k _ _ (.inl rfl) e,c⟩
 | ins C dx fs =>
  obtain ⟨d,z,ne,e,mA,⟨od,es,ep,e2,c⟩,r⟩:=x
  exact ⟨ho _ d,z,ne,k _ _ (.inl rfl) e,mA,⟨od,es,ep,k _ _ (.inr d) e2,c⟩,r⟩
 | own y=>obtain ⟨ob,e⟩:=x; exact ⟨ob,k _ _ (.inl rfl) e⟩
 | xd fs=>obtain ⟨mA,⟨od,es,ep,e,c⟩,r⟩:=x; exact ⟨mA,⟨od,es,ep,k _ _ (.inl rfl) e,c⟩,r⟩
 | rng lo hi=>obtain ⟨t,u,v,e⟩:=x; exact ⟨t,u,v,k _ _ (.inl rfl) e⟩
 | frz ob u ih=>obtain ⟨e,q⟩:=x; exact ⟨k _ _ (.inl rfl) e,ih q⟩
 | tbl ps =>
  have e:h.get? a=some { cls:=.none,data:=.fields ps }:=x
  show h'.get? a=some { cls:=.none,data:=.fields ps }
  exact k a _ (.inl rfl) e
 | met f y =>
  have e:h.get? a=some (PySem.W.methodObj (.ref f) (.ref y)):=x
  show h'.get? a=some (PySem.W.methodObj (.ref f) (.ref y))
  exact k a _ (.inl rfl) e
 | ext φ=>obtain ⟨p,⟨o,e⟩,st⟩:=x; exact ⟨st _ _ p fun o q=>k _ _ (.inl rfl) q,⟨o,k _ _ (.inl rfl) e⟩,st⟩
theorem Hs.lt (x:Hs P w H h) (e:H a=some o):a<h.objs.size:=(x a o e).lt
theorem Hs.fresh (x:Hs P w H h) (e:h.objs.size<=a):H a=none:=by
 cases q:H a with
 | none=>rfl
 | some u=>exact absurd (Nat.lt_of_lt_of_le (x.lt q) e) (Nat.lt_irrefl _)
theorem Hs.kept (x:Hs P w H h) (k:∀ b u,h.get? b=some u->h'.get? b=some u):Hs P w H h':=fun a o e =>
 (x a o e).stay (fun b u _ q=>k b u q) (fun _ q=>q) fun _ _ q=>q
theorem Hs.laid (x:Hs P w H h) (k:∀ b u,h.get? b=some u->h'.get? b=some u) (hp:h.objs.size<=a) (new:CG P w (upd H a o) h' a o):Hs P w (upd H a o) h':=fun b u e=>by
 have hn:=x.fresh hp
 by_cases hb:b=a
 ·subst hb; rw [Af] at e; cases e; exact new
 ·rw [Al hb] at e
  exact (x b u e).stay (fun c v _ q=>k c v q) (fun c q=>by rw [Al (Aj q hn)]; exact q) fun c xs q=>by rw [Al (Aj q hn)]; exact q
end
noncomputable def Rd (H:Hp) (a:Addr) (u:HO):Prop:=H a=some u \/ ∃ o,H a=some (.frz o u)
theorem Rd.ok {P:Program} {w:World} {H:Hp} {h:Heap} {a:Addr} {u:HO} (r:Rd H a u) (x:Hs P w H h):CG P w H h a u:=by
 rcases r with r | ⟨o,r⟩
 ·exact x a u r
 ·obtain ⟨_,q⟩:=x a _ r
  exact q
noncomputable def aJ:Option HO->Prop
 | some (.lst _)=>True
 | some (.dK _)=>True
 | some (.dT _)=>True
 | some (.set _ _)=>True
 | some (.ins _ _ _)=>True
 | some (.ext _)=>True
 | _=>False
section
variable {P:Program} {w:World} {H:Hp} {h h':Heap} {x e:Addr} {o':HO}
theorem Hs.write (ok:Hs P w H h) (mu:aJ (H x)) (he:e=x \/ H e=some (.own x)) (k:∀ b u,b ≠ e->h.get? b=some u->h'.get? b=some u) (heo:∃ u,h'.get? e=some u)
  (new:CG P w (upd H x o') h' x o'):Hs P w (upd H x o') h':=fun b u q=>by
 have nown:∀ c y,H c=some (.own y)->c ≠ x:=fun c y r z=>by subst z; rw [r] at mu; exact mu
 have ntup:∀ c xs,H c=some (.tup xs)->c ≠ x:=fun c xs r z=>by subst z; rw [r] at mu; exact mu
 by_cases hb:b=x
 ·subst hb; rw [Af] at q; cases q; exact new
 ·rw [Al hb] at q
  by_cases hbe:b=e
  ·have q':H b=some (.own x):=by
    rcases he with z | z
    ·exact absurd (hbe.trans z) hb
    ·rw [hbe]; exact z
   rw [q] at q'; cases q'
   obtain ⟨v,hv⟩:=heo
   exact ⟨v,by rw [hbe]; exact hv⟩
  ·refine (ok b u q).stay (fun c v hc r=>k c v ?_ r) (fun c r=>by rw [Al (nown c b r)]; exact r) fun c xs r=>by rw [Al (ntup c xs r)]; exact r
   rcases hc with rfl | hc
   ·exact hbe
   ·rintro rfl
    rcases he with z | z
    ·exact nown c b hc z
    ·rw [hc] at z; cases z; exact hb rfl
end
structure Un (fs ex:List Addr) (H H':Hp) (h h':Heap):Prop where
 keep:∀ b o,h.get? b=some o->H b=none->b ∉ fs->b ∉ ex->h'.get? b=some o
 slot:∀ b o,h.get? b=some o->H b=none->b∈fs->b ∉ ex->∃ sl,h'.get? b=some { o with slots:=sl }
 free:∀ b o,h.get? b=some o->H b=none->b ∉ ex->H' b=none
 there:∀ b o,h.get? b=some o->b ∉ ex->∃ o',h'.get? b=some o'
 tups:∀ b xs,H b=some (.tup xs)->H' b=some (.tup xs)
 frzs:∀ b o u,H b=some (.frz o u)->H' b=some (.frz o u)
 tbls:∀ b ps,H b=some (.tbl ps)->∃ more,H' b=some (.tbl (ps++more))
section
variable {fs fs' ex ex':List Addr} {H H1 H2:Hp} {h h1 h2 h':Heap} {a x e:Addr} {o:HO}
theorem Un.any (u:Un fs ex H H1 h h1) {b:Addr} {ob:Obj} (q:h.get? b=some ob) (n:H b=none) (hx:b ∉ ex):∃ sl,h1.get? b=some { ob with slots:=sl }:=by
 by_cases hb:b∈fs
 ·exact u.slot b ob q n hb hx
 ·exact ⟨ob.slots,u.keep b ob q n hb hx⟩
theorem Un.kept (k:∀ b u,h.get? b=some u->h'.get? b=some u):Un fs ex H H h h' :=
 ⟨fun b ob q _ _ _=>k b ob q,fun b ob q _ _ _=>⟨ob.slots,k b ob q⟩,fun _ _ _ n _=>n,fun b ob q _=>⟨ob,k b ob q⟩,fun _ _ q=>q,fun _ _ _ q=>q,fun _ ps q=>⟨#[],by rw [q]; simp⟩⟩
theorem Un.refl:Un fs ex H H h h:=Un.kept fun _ _ q=>q
theorem Un.laid (k:∀ b u,h.get? b=some u->h'.get? b=some u) (hp:h.objs.size<=a) (hn:H a=none):Un fs ex H (upd H a o) h h' where
 keep:=fun b u q _ _ _=>k b u q
 slot:=fun b u q _ _ _=>⟨u.slots,k b u q⟩
 free:=fun b u q n _=>by rw [Al (Nat.ne_of_lt (Nat.lt_of_lt_of_le (Heap.lt_size q) hp))]; exact n
 there:=fun b u q _=>⟨u,k b u q⟩
 tups:=fun b xs q=>by rw [Al (Aj q hn)]; exact q
 frzs:=fun b u xs q=>by rw [Al (Aj q hn)]; exact q
 tbls:=fun b ps q=>⟨#[],by rw [Al (Aj q hn),q]; simp⟩
theorem Un.write (mu:aJ (H x)) (he:e=x \/ H e=some (.own x)) (k:∀ b u,b ≠ e->h.get? b=some u->h'.get? b=some u) (heo:∃ u,h'.get? e=some u):Un fs ex H (upd H x o) h h':=by
 have hx:∀ b,H b=none->b ≠ x:=fun b n z=>by subst z; rw [n] at mu; exact mu
 have hb:∀ b,H b=none->b ≠ e:=fun b n z=>by
  subst z
  rcases he with r | r
  ·exact hx b n r
  ·rw [n] at r; cases r
 have hm:∀ b u,H b=some u->¬ aJ (some u)->b ≠ x:=fun b u q nm z=>by subst z; rw [q] at mu; exact nm mu
 refine ⟨fun b u q n _ _=>k b u (hb b n) q,fun b u q n _ _=>⟨u.slots,k b u (hb b n) q⟩,fun b u q n _=>by rw [Al (hx b n)]; exact n,fun b u q _=>?_,
  fun b xs q=>by rw [Al (hm b _ q fun z=>z)]; exact q,fun b u xs q=>by rw [Al (hm b _ q fun z=>z)]; exact q,fun b ps q=>⟨#[],by rw [Al (hm b _ q fun z=>z),q]; simp⟩⟩
 by_cases hbe:b=e
 ·subst hbe; exact heo
 ·exact ⟨u,k b u hbe q⟩
end
noncomputable def gj (h:Heap) (H:Hp):List Addr:=(List.range h.objs.size).filter fun a=>(H a).isSome
noncomputable def La (h:Heap) (H:Hp):Heap:=PySem.W.hideAll h (gj h H)
theorem Q6 (h:Heap) (H:Hp):(La h H).objs.size=h.objs.size:=PySem.W.hideAll_size _ _
theorem Tn {h:Heap} {H:Hp} {b:Addr} {o:Obj} (e:h.get? b=some o) (n:H b=none):(La h H).get? b=some o :=
 PySem.W.hideAll_get _ e fun hm=>by
  have q:(H b).isSome=true:=(List.mem_filter.mp hm).2
  rw [n] at q; simp at q
theorem Uz {h:Heap} {H:Hp} {b:Addr} {o:Obj} (e:(La h H).get? b=some o):h.get? b=some o/\H b=none:=by
 have e':h.get? b=some o:=PySem.W.of_hideAll (gj h H) e
 refine ⟨e',?_⟩
 cases q:H b with
 | none=>rfl
 | some x =>
  have hm:b∈gj h H:=List.mem_filter.mpr ⟨List.mem_range.mpr (Heap.lt_size e'),by simp [q]⟩
  have z:(La h H).get? b=none:=PySem.W.hideAll_none (gj h H) hm
  rw [z] at e; cases e
noncomputable def VP (g h:Heap) (L:Addr):List (Addr × Obj):=(List.range h.objs.size).filterMap fun a=>if a=L \/ (g.get? a).isSome=true then none else (h.get? a).map fun o=>(a,o)
noncomputable def rest (g h:Heap) (L d:Addr):List (Addr × Obj):=(VP g h L).filter fun p=>decide (p.1 ≠ d)
end L2
namespace L2
open PySem PySem.Spec PyProof.Rows
structure Mod (K:PySem.W.Frag) (mg:Str->Option Value) (base:Heap):Prop where
 kin:K.In base
 glob:base.Ns mainGlobals mg
 blt:∃ mb,base.Ns builtinsNs mb/\∀ x:Str,x ≠ "__name__"->mb x=bootBuiltins x
 nolimit:base.NoLimit
structure Cx where
 prog:Program
 w:World
 K:PySem.W.Frag
 mg:Str->Option Value
 base:Heap
 A:Around
 N:List Str
 s₀:Shared
 H₀:Hp
 env:Env
 outer:List Env
 stack:List Env
 ex:List Addr
 fn:Str->Bool
 calm:Bool
 pn:List (Addr × Obj)
 xe:Value->Shared->Prop
noncomputable def frs (l:List Env):List Addr:=l.filterMap (·.frame)
noncomputable abbrev Cx.fs (X:Cx):List Addr:=frs X.outer
noncomputable def iH (sc:Scope) (x:Str):Prop:=sc.names.lookup x=some .local \/ sc.names.lookup x=some .cell \/ sc.names.lookup x=some .free
noncomputable def Loc (sc:Scope) (x:Str):Prop:=sc.names.lookup x=some .local \/ sc.names.lookup x=some .cell
noncomputable def Look (env:Env) (h:Heap) (m:Str->Option Value) (x:Str) (u:Value):Prop :=
 (env.kindOf x=some .local/\m x=some u) \/ ((env.kindOf x=some .cell \/ env.kindOf x=some .free)/\∃ c,env.cells.lookup x=some c/\h.IsCell c (some u))
structure Cx.Ok (X:Cx):Prop where
 mod:Mod X.K X.mg X.base
 kind:X.env.scope.kind=.function
 glob:X.env.globals=mainGlobals
 blt:X.env.builtins=builtinsNs
 above:X.s₀.heap.objs.size<=X.env.locals
 inj:∀ x y c,X.env.cells.lookup x=some c->X.env.cells.lookup y=some c->x=y
 has:∀ x,(X.env.kindOf x=some .cell \/ X.env.kindOf x=some .free)->∃ c,X.env.cells.lookup x=some c
 cab:∀ x c,X.fn x=true->X.env.cells.lookup x=some c->X.s₀.heap.objs.size<=c
 hd:X.calm=true->X.A.handled=none
 frames:X.A.frames=some X.stack
 stk:X.stack=X.outer \/ (X.stack=X.env::X.outer/\X.env.frame=some X.env.locals)
 exf:∀ b∈X.ex,b ≠ X.env.locals/\∀ x c,X.env.cells.lookup x=some c->c ≠ b
 bs:∀ b o,X.base.get? b=some o->X.s₀.heap.get? b=some o/\X.H₀ b=none
 bsz:X.base.objs.size<=X.s₀.heap.objs.size
 noex:∀ b o,X.base.get? b=some o->b ∉ X.ex
 exfs:∀ b∈X.ex,b ∉ X.fs
 Jb:X.s₀.heap.FunFrames X.base X.outer
 frf:∀ b∈X.fs,X.H₀ b=none
structure Inv (X:Cx) (pins:List (Addr × Obj)) (σ:List (Option V)) (H:Hp) (s:Shared):Prop where
 ok:X.Ok
 os:s.os=X.s₀.os
 bare:AllBare s.gens
 base:Un X.fs X.ex X.H₀ H X.s₀.heap s.heap
 loc:∃ m,s.heap.Ns X.env.locals m/\∀ (i:Nat) (x:Str) (v:V),X.N[i]? = some x->σ[i]? = some (some v)->iH X.env.scope x->∃ u,RelV v u/\Look X.env s.heap m x u
 cell:∀ x c,X.env.cells.lookup x=some c->∃ v,s.heap.IsCell c v
 free:H X.env.locals=none
 freeC:∀ x c,X.env.cells.lookup x=some c->H c=none
 pin:∀ p∈X.pn++pins,s.heap.get? p.1=some p.2/\H p.1=none/\p.1 ≠ X.env.locals/\p.1 ∉ X.fs/\∀ v,p.2.data ≠ .cell v
 hok:Hs X.prog X.w H s.heap
 len:σ.length=X.N.length
section
variable {X:Cx} {pins:List (Addr × Obj)} {σ:List (Option V)} {H H':Hp} {s:Shared} {h':Heap}
theorem Cx.Ok.jh (ok:X.Ok) {b:Addr} {o:Obj} (e:X.base.get? b=some o):b ∉ X.fs:=fun hb=>by
 have:=(ok.Jb.mem hb).1
 rw [e] at this; cases this
theorem Inv.bs (I:Inv X pins σ H s):∀ b o,X.base.get? b=some o->s.heap.get? b=some o/\H b=none:=fun b o e =>
 ⟨I.base.keep b o (I.ok.bs b o e).1 (I.ok.bs b o e).2 (I.ok.jh e) (I.ok.noex b o e),I.base.free b o (I.ok.bs b o e).1 (I.ok.bs b o e).2 (I.ok.noex b o e)⟩
theorem Inv.bk (I:Inv X pins σ H s):∀ b o,X.base.get? b=some o->s.heap.get? b=some o:=fun b o e=>(I.bs b o e).1
theorem Inv.mod (I:Inv X pins σ H s):Mod X.K X.mg X.base:=I.ok.mod
theorem Inv.Ip (I:Inv X pins σ H s):X.K.In s.heap:=I.ok.mod.kin.keeps I.bk
theorem Inv.lt (I:Inv X pins σ H s):X.env.locals<s.heap.objs.size:=let ⟨_,hn,_⟩:=I.loc; hn.lt
theorem Inv.sz (I:Inv X pins σ H s):X.s₀.heap.objs.size<=s.heap.objs.size:=Nat.le_trans I.ok.above (Nat.le_of_lt I.lt)
theorem Inv.jF (I:Inv X pins σ H s) {a:Addr} (h:s.heap.objs.size<=a):a ∉ X.fs:=fun hb=>by
 obtain ⟨_,o,ho,_⟩:=I.ok.Jb.mem hb
 exact absurd (Nat.lt_of_lt_of_le (Heap.lt_size ho) (Nat.le_trans I.sz h)) (Nat.lt_irrefl _)
theorem Inv.XC (I:Inv X pins σ H s):∀ x c,X.env.cells.lookup x=some c->c ≠ X.env.locals:=fun x c e z=>by
 obtain ⟨v,o,ho,hd⟩:=I.cell x c e
 obtain ⟨m,⟨o',es,ep,ho',hd',_⟩,_⟩:=I.loc
 rw [z,ho'] at ho; cases ho; rw [hd'] at hd; cases hd
theorem Inv.Jb (I:Inv X pins σ H s):s.heap.FunFrames X.base X.outer:=by
 have all:∀ (l:List Env),(∀ b∈frs l,b∈X.fs)->X.s₀.heap.FunFrames X.base l->s.heap.FunFrames X.base l:=by
  intro l
  induction l with
  | nil=>intro _ _; trivial
  | cons env r ih =>
   intro hs hl
   obtain ⟨hk,⟨L,o,hf,hn,ho,hd⟩,hr⟩:=hl
   have hL:L∈X.fs:=hs L (by unfold frs; rw [List.filterMap_cons,hf]; exact List.mem_cons_self)
   obtain ⟨sl,e⟩:=I.base.slot L o ho (I.ok.frf L hL) hL fun z=>I.ok.exfs L z hL
   exact ⟨hk,⟨L,_,hf,hn,e,hd⟩,ih (fun b hb=>hs b (by unfold frs; rw [List.filterMap_cons,hf]; exact List.mem_cons_of_mem _ hb)) hr⟩
 exact all X.outer (fun _ hb=>hb) I.ok.Jb
theorem Inv.stack (I:Inv X pins σ H s):s.heap.FunFrames X.base X.stack:=by
 rcases I.ok.stk with e | ⟨e,hf⟩
 ·rw [e]; exact I.Jb
 ·rw [e]
  obtain ⟨m,hn,_⟩:=I.loc
  refine .cons (by rw [I.ok.kind]; decide) hf hn ?_ I.Jb
  exact Heap.get?_none_of_le (Nat.le_trans I.ok.bsz I.ok.above)
theorem Inv.Jx (I:Inv X pins σ H s):∀ b∈frs X.stack,b∈X.env.locals::X.fs:=fun b hb=>by
 rcases I.ok.stk with e | ⟨e,hf⟩
 ·rw [e] at hb; exact List.mem_cons_of_mem _ hb
 ·rw [e] at hb
  unfold frs at hb
  rw [List.filterMap_cons,hf] at hb
  exact hb
theorem Inv.Jd (I:Inv X pins σ H s):∀ b∈frs X.stack,H b=none:=fun b hb=>by
 rcases List.mem_cons.mp (I.Jx b hb) with e | hb
 ·rw [e]; exact I.free
 ·obtain ⟨_,o,ho,_⟩:=I.ok.Jb.mem hb
  exact I.base.free b o ho (I.ok.frf b hb) fun z=>I.ok.exfs b z hb
theorem Inv.step {g':Array GenState} {t':Nat} {d':Drawn} {ch:List Addr} (I:Inv X pins σ H s)
  (hch:∀ b∈ch,(b∈X.ex \/ X.s₀.heap.objs.size<=b)/\b ≠ X.env.locals/\(∀ x c,X.env.cells.lookup x=some c->c ≠ b)/\∀ p∈X.pn++pins,p.1 ≠ b)
  (keep:∀ b o,b ≠ X.env.locals->b ∉ X.fs->b ∉ ch->s.heap.get? b=some o->H b=none->h'.get? b=some o)
  (slot:∀ b o,b ≠ X.env.locals->b∈X.fs->b ∉ ch->s.heap.get? b=some o->H b=none->∃ sl,h'.get? b=some { o with slots:=sl }) (free:∀ b o,b ∉ ch->s.heap.get? b=some o->H b=none->H' b=none)
  (there:∀ b o,b ∉ ch->s.heap.get? b=some o->∃ o',h'.get? b=some o')
  (tups:∀ b xs,H b=some (.tup xs)->H' b=some (.tup xs)) (frzs:∀ b o u,H b=some (.frz o u)->H' b=some (.frz o u)) (tbls:∀ b ps,H b=some (.tbl ps)->∃ more,H' b=some (.tbl (ps++more)))
  (ns:∀ m,s.heap.Ns X.env.locals m->h'.Ns X.env.locals m) (hok:Hs X.prog X.w H' h') (hg:AllBare g') :
  Inv X pins σ H' { s with heap:=h',gens:=g',drawn:=d',toks:=t' }:=by
 have neL:∀ b o,X.s₀.heap.get? b=some o->b ≠ X.env.locals:=fun b o e=>Nat.ne_of_lt (Nat.lt_of_lt_of_le (Heap.lt_size e) I.ok.above)
 have neC:∀ b o,X.s₀.heap.get? b=some o->b ∉ X.ex->b ∉ ch:=fun b o e hx hb=>by
  rcases (hch b hb).1 with z | z
  ·exact hx z
  ·exact absurd (Nat.lt_of_lt_of_le (Heap.lt_size e) z) (Nat.lt_irrefl _)
 have cellK:∀ x c,X.env.cells.lookup x=some c->∀ v,s.heap.IsCell c v->h'.IsCell c v:=fun x c e v ⟨o,ho,hd⟩=>by
  have nch:c ∉ ch:=fun z=>(hch c z).2.2.1 x c e rfl
  by_cases hc:c∈X.fs
  ·obtain ⟨sl,q⟩:=slot c o (I.XC x c e) hc nch ho (I.freeC x c e)
   exact ⟨_,q,hd⟩
  ·exact ⟨o,keep c o (I.XC x c e) hc nch ho (I.freeC x c e),hd⟩
 refine ⟨I.ok,I.os,hg,⟨fun b o e n hb hx=>?_,fun b o e n hb hx=>?_,fun b o e n hx=>?_,fun b o e hx=>?_,fun b xs e=>tups b xs (I.base.tups b xs e),fun b o xs e=>frzs b o xs (I.base.frzs b o xs e),fun b ps e=>?_⟩,?_,fun x c e=>?_,?_,fun x c e=>?_,fun p hp=>?_,hok,I.len⟩
 ·exact keep b o (neL b o e) hb (neC b o e hx) (I.base.keep b o e n hb hx) (I.base.free b o e n hx)
 ·obtain ⟨sl,e1⟩:=I.base.slot b o e n hb hx
  obtain ⟨sl',e2⟩:=slot b _ (neL b o e) hb (neC b o e hx) e1 (I.base.free b o e n hx)
  exact ⟨sl',e2⟩
 ·obtain ⟨o',e1⟩:=I.base.there b o e hx
  exact free b o' (neC b o e hx) e1 (I.base.free b o e n hx)
 ·obtain ⟨o',e1⟩:=I.base.there b o e hx
  exact there b o' (neC b o e hx) e1
 ·obtain ⟨m1,e1⟩:=I.base.tbls b ps e
  obtain ⟨m2,e2⟩:=tbls b _ e1
  exact ⟨m1++m2,by rw [e2,Array.append_assoc]⟩
 ·obtain ⟨m,hn,hl⟩:=I.loc
  refine ⟨m,ns m hn,fun i x v e1 e2 e3=>?_⟩
  obtain ⟨u,r,l⟩:=hl i x v e1 e2 e3
  refine ⟨u,r,?_⟩
  rcases l with l | ⟨k,c,e,z⟩
  ·exact .inl l
  ·exact .inr ⟨k,c,e,cellK x c e _ z⟩
 ·obtain ⟨v,z⟩:=I.cell x c e
  exact ⟨v,cellK x c e v z⟩
 ·obtain ⟨m,⟨o,_,_,ho,_⟩,_⟩:=I.loc
  exact free _ o (fun z=>(hch _ z).2.1 rfl) ho I.free
 ·obtain ⟨v,o,ho,hd⟩:=I.cell x c e
  exact free c o (fun z=>(hch c z).2.2.1 x c e rfl) ho (I.freeC x c e)
 ·obtain ⟨e,n,ne,nf,d⟩:=I.pin p hp
  have nch:p.1 ∉ ch:=fun z=>(hch p.1 z).2.2.2 p hp rfl
  exact ⟨keep p.1 p.2 ne nf nch e n,free p.1 p.2 nch e n,ne,nf,d⟩
theorem Inv.un {t':Nat} (I:Inv X pins σ H s) (u:Un X.fs [] H H' s.heap h') (hok:Hs X.prog X.w H' h'):Inv X pins σ H' { s with heap:=h',toks:=t' }:=by
 obtain ⟨m,⟨o,es,ep,ho,r⟩,_⟩:=id I.loc
 obtain ⟨sl,hL⟩:=u.any ho I.free (by simp)
 exact I.step (g':=s.gens) (d':=s.drawn) (ch:=[]) (fun _ z=>nomatch z) (fun b o _ hb _ e n=>u.keep b o e n hb (by simp)) (fun b o _ hb _ e n=>u.slot b o e n hb (by simp)) (fun b o _ e n=>u.free b o e n (by simp)) (fun b o _ e=>u.there b o e (by simp)) u.tups u.frzs u.tbls (fun m' hm=>by
  obtain ⟨o',es',ep',ho',r'⟩:=hm
  rw [ho] at ho'; cases ho'
  exact ⟨_,es',ep',hL,r'⟩) hok I.bare
theorem Inv.call {g':Array GenState} {t':Nat} {d':Drawn} {ch:List Addr} (I:Inv X pins σ H s) (u:Un (frs X.stack) ch H H' s.heap h') (hok:Hs X.prog X.w H' h') (hg:AllBare g')
  (hch:∀ b∈ch,(b∈X.ex \/ X.s₀.heap.objs.size<=b)/\b ≠ X.env.locals/\(∀ x c,X.env.cells.lookup x=some c->c ≠ b)/\∀ p∈X.pn++pins,p.1 ≠ b) :
  Inv X pins σ H' { s with heap:=h',gens:=g',drawn:=d',toks:=t' }:=by
 obtain ⟨m,⟨o,es,ep,ho,r⟩,_⟩:=id I.loc
 obtain ⟨sl,hL⟩:=u.any ho I.free fun z=>(hch _ z).2.1 rfl
 exact I.step (ch:=ch) hch (fun b o hL hb hc e n=>u.keep b o e n (fun z=>(List.mem_cons.mp (I.Jx b z)).elim hL hb) hc) (fun b o _ _ hc e n=>u.any e n hc) (fun b o hc e n=>u.free b o e n hc) (fun b o hc e=>u.there b o e hc) u.tups u.frzs u.tbls (fun m' hm=>by
  obtain ⟨o',es',ep',ho',r'⟩:=hm
  rw [ho] at ho'; cases ho'
  exact ⟨_,es',ep',hL,r'⟩) hok hg
theorem Inv.turned {t':Nat} {it:Addr} (I:Inv X pins σ H s) (k:∀ b o,b ≠ it->s.heap.get? b=some o->h'.get? b=some o) (hn:H it=none) (hL:it ≠ X.env.locals)
  (h1:it∈X.ex \/ X.s₀.heap.objs.size<=it) (h2:∀ x c,X.env.cells.lookup x=some c->c ≠ it) (h3:∀ p∈X.pn++pins,p.1 ≠ it):Inv X pins σ H { s with heap:=h',toks:=t' }:=by
 have nit:∀ b u,H b=some u->b ≠ it:=fun b u e z=>by rw [z,hn] at e; cases e
 refine I.step (g':=s.gens) (d':=s.drawn) (ch:=[it]) (fun b hb=>?_) (fun b o _ _ hc e _=>k b o (fun z=>hc (by simp [z])) e) (fun b o _ _ hc e _=>⟨o.slots,k b o (fun z=>hc (by simp [z])) e⟩) (fun _ _ _ _ n=>n)
  (fun b o hc e=>⟨o,k b o (fun z=>hc (by simp [z])) e⟩) (fun _ _ e=>e) (fun _ _ _ e=>e) (fun b ps e=>⟨#[],by rw [e]; simp⟩) (fun m hm=>?_) (fun b u e=>?_) I.bare
 ·have e:b=it:=by simpa using hb
  subst e
  exact ⟨h1,hL,h2,h3⟩
 ·obtain ⟨o,es,ep,ho,r⟩:=hm
  exact ⟨o,es,ep,k _ o (Ne.symm hL) ho,r⟩
 ·refine (I.hok b u e).stay (fun c v hc q=>k c v ?_ q) (fun _ q=>q) fun _ _ q=>q
  rcases hc with z | z
  ·rw [z]; exact nit b u e
  ·exact nit c _ z
theorem Inv.tok (I:Inv X pins σ H s) (t:Nat):Inv X pins σ H { s with toks:=t }:=I.un (h':=s.heap) (t':=t) Un.refl I.hok
theorem Inv.kept {t':Nat} (I:Inv X pins σ H s) (k:∀ b u,s.heap.get? b=some u->h'.get? b=some u):Inv X pins σ H { s with heap:=h',toks:=t' }:=I.un (Un.kept k) (I.hok.kept k)
theorem Inv.laid {a:Addr} {o:HO} {t':Nat} (I:Inv X pins σ H s) (k:∀ b u,s.heap.get? b=some u->h'.get? b=some u) (hp:s.heap.objs.size<=a) (new:CG X.prog X.w (upd H a o) h' a o) :
  Inv X pins σ (upd H a o) { s with heap:=h',toks:=t' }:=I.un (Un.laid k hp (I.hok.fresh hp)) (I.hok.laid k hp new)
theorem Inv.write {x e:Addr} {o:HO} {t':Nat} (I:Inv X pins σ H s) (mu:aJ (H x)) (he:e=x \/ H e=some (.own x)) (k:∀ b u,b ≠ e->s.heap.get? b=some u->h'.get? b=some u) (heo:∃ u,h'.get? e=some u)
  (new:CG X.prog X.w (upd H x o) h' x o):Inv X pins σ (upd H x o) { s with heap:=h',toks:=t' }:=I.un (Un.write mu he k heo) (I.hok.write mu he k heo new)
theorem Inv.PX {pins':List (Addr × Obj)} (I:Inv X pins σ H s) (h:∀ p∈pins',s.heap.get? p.1=some p.2/\H p.1=none/\p.1 ≠ X.env.locals/\p.1 ∉ X.fs/\∀ v,p.2.data ≠ .cell v):Inv X pins' σ H s :=
 ⟨I.ok,I.os,I.bare,I.base,I.loc,I.cell,I.free,I.freeC,fun p hp=>(List.mem_append.mp hp).elim (fun z=>I.pin p (List.mem_append_left _ z)) (h p),I.hok,I.len⟩
theorem MP {N:List Str} (hN:N.Nodup) {i j:Nat} {x:Str} (a:N[i]? = some x) (b:N[j]? = some x):i=j:=by
 obtain ⟨h1,e1⟩:=List.getElem?_eq_some_iff.mp a
 obtain ⟨h2,e2⟩:=List.getElem?_eq_some_iff.mp b
 exact (List.getElem_inj hN).mp (e1.trans e2.symm)
theorem JC {M:Model} {A:Around} {E:Value->Shared->Prop} {i:Nat} {x:Str} {v:V} {u:Value} {Q:Unit->Shared->Prop} (I:Inv X pins σ H s) (hN:X.N.Nodup) (hi:X.N[i]? = some x) (hx:Loc X.env.scope x) (r:RelV v u)
  (h:∀ s',Inv X pins (σ.set i (some v)) H s'->(∃ a,Heap.SameBut a s.heap s'.heap/\(a=X.env.locals \/ X.env.cells.lookup x=some a))->Q () s') (hf:X.fn x=true \/ X.env.scope.names.lookup x=some .local:=by first | exact .inl rfl | exact .inr rfl | assumption):wpAny M A (storeName X.env x u) Q E s:=by
 obtain ⟨m,hn,hl⟩:=id I.loc
 have hcls:(X.env.scope.kind == .class || (X.env.scope.kind == .module && X.env.locals != X.env.globals))=false:=by rw [I.ok.kind]; rfl
 have hiσ:i<σ.length:=by rw [I.len]; exact (List.getElem?_eq_some_iff.mp hi).1
 have XC:=I.XC
 have tracked:∀ {a:Addr} {h':Heap},(∃ o,s.heap.get? a=some o/\H a=none)->Heap.SameBut a s.heap h'->Hs X.prog X.w H h':=fun {a h'} ha hs b ob e=>by
  obtain ⟨_,_,hfree⟩:=ha
  refine (I.hok b ob e).stay (fun c w' hc q=>(hs.2 c ?_).trans q) (fun _ q=>q) fun _ _ q=>q
  rintro rfl
  rcases hc with rfl | hc
  ·rw [hfree] at e; cases e
  ·rw [hfree] at hc; cases hc
 rcases hx with hk | hk
 ·refine wpAny_storeName_local hk hn (fun h' hn' hs=>?_) hcls
  obtain ⟨oL,_,_,hoL,_⟩:=id hn
  refine h _ ⟨I.ok,I.os,I.bare,⟨fun b o e n hb hx=>?_,fun b o e n hb hx=>?_,I.base.free,fun b o e hx=>?_,I.base.tups,I.base.frzs,I.base.tbls⟩,⟨_,hn',fun j y v' e1 e2 e3=>?_⟩,fun y c e=>?_,I.free,I.freeC,fun p hp=>?_,tracked ⟨oL,hoL,I.free⟩ hs,by simpa using I.len⟩ ⟨_,hs,.inl rfl⟩
  ·exact (hs.2 b (Nat.ne_of_lt (Nat.lt_of_lt_of_le (Heap.lt_size e) I.ok.above))).trans (I.base.keep b o e n hb hx)
  ·obtain ⟨sl,e1⟩:=I.base.slot b o e n hb hx
   exact ⟨sl,(hs.2 b (Nat.ne_of_lt (Nat.lt_of_lt_of_le (Heap.lt_size e) I.ok.above))).trans e1⟩
  ·obtain ⟨o',e1⟩:=I.base.there b o e hx
   exact ⟨o',(hs.2 b (Nat.ne_of_lt (Nat.lt_of_lt_of_le (Heap.lt_size e) I.ok.above))).trans e1⟩
  ·by_cases hj:j=i
   ·subst hj
    rw [hi] at e1; cases e1
    rw [List.getElem?_set_self hiσ] at e2
    cases e2
    exact ⟨u,r,.inl ⟨hk,by simp⟩⟩
   ·rw [List.getElem?_set_ne (Ne.symm hj)] at e2
    obtain ⟨u',r',q⟩:=hl j y v' e1 e2 e3
    refine ⟨u',r',?_⟩
    rcases q with ⟨k,e⟩ | ⟨k,c,e,z⟩
    ·refine .inl ⟨k,?_⟩
     have:y ≠ x:=fun e=>hj (MP hN e1 (e ▸ hi))
     simp [this,e]
    ·exact .inr ⟨k,c,e,z.sameBut hs (XC y c e)⟩
  ·obtain ⟨w',z⟩:=I.cell y c e
   exact ⟨w',z.sameBut hs (XC y c e)⟩
  ·obtain ⟨e,n,ne,nf,d⟩:=I.pin p hp
   exact ⟨(hs.2 p.1 ne).trans e,n,ne,nf,d⟩
 ·have hfn:X.fn x=true:=by
   rcases hf with z | z
   ·exact z
   ·rw [z] at hk; cases hk
  obtain ⟨c,hc⟩:=I.ok.has x (.inl hk)
  obtain ⟨w',z⟩:=I.cell x c hc
  refine wpAny_storeName_cell I.ok.kind hk hc z (fun h' hc' hs=>?_)
  obtain ⟨oc,hoc,hocd⟩:=id z
  refine h { s with heap:=h' } ⟨I.ok,I.os,I.bare,⟨fun b o e n hb hx=>?_,fun b o e n hb hx=>?_,I.base.free,fun b o e hx=>?_,I.base.tups,I.base.frzs,I.base.tbls⟩,⟨m,hn.sameBut hs (Ne.symm (XC x c hc)),fun j y v' e1 e2 e3=>?_⟩,fun y c' e=>?_,I.free,I.freeC,fun p hp=>?_,tracked ⟨oc,hoc,I.freeC x c hc⟩ hs,by simpa using I.len⟩ ⟨c,hs,.inr hc⟩
  ·exact (hs.2 b (Nat.ne_of_lt (Nat.lt_of_lt_of_le (Heap.lt_size e) (I.ok.cab x c hfn hc)))).trans (I.base.keep b o e n hb hx)
  ·obtain ⟨sl,e1⟩:=I.base.slot b o e n hb hx
   exact ⟨sl,(hs.2 b (Nat.ne_of_lt (Nat.lt_of_lt_of_le (Heap.lt_size e) (I.ok.cab x c hfn hc)))).trans e1⟩
  ·obtain ⟨o',e1⟩:=I.base.there b o e hx
   exact ⟨o',(hs.2 b (Nat.ne_of_lt (Nat.lt_of_lt_of_le (Heap.lt_size e) (I.ok.cab x c hfn hc)))).trans e1⟩
  ·by_cases hj:j=i
   ·subst hj
    rw [hi] at e1; cases e1
    rw [List.getElem?_set_self hiσ] at e2
    cases e2
    exact ⟨u,r,.inr ⟨.inl hk,c,hc,hc'⟩⟩
   ·rw [List.getElem?_set_ne (Ne.symm hj)] at e2
    obtain ⟨u',r',q⟩:=hl j y v' e1 e2 e3
    refine ⟨u',r',?_⟩
    rcases q with q | ⟨k,c',e,z'⟩
    ·exact .inl q
    ·refine .inr ⟨k,c',e,z'.sameBut hs ?_⟩
     rintro rfl
     exact hj (MP hN e1 (I.ok.inj _ _ _ e hc ▸ hi))
  ·by_cases hcc:c'=c
   ·subst hcc; exact ⟨_,hc'⟩
   ·obtain ⟨w2,z2⟩:=I.cell y c' e
    exact ⟨w2,z2.sameBut hs hcc⟩
  ·obtain ⟨e,n,ne,nf,d⟩:=I.pin p hp
   refine ⟨(hs.2 p.1 ?_).trans e,n,ne,nf,d⟩
   intro q
   rw [q,hoc] at e
   have q':oc=p.2:=Option.some.inj e
   exact d w' (by rw [← q']; exact hocd)
theorem Im {M:Model} {A:Around} {E:Value->Shared->Prop} {i:Nat} {x:Str} {v:V} {u:Value} {Q:Unit->Shared->Prop} (I:Inv X pins σ H s) (hN:X.N.Nodup) (hi:X.N[i]? = some x) (hx:Loc X.env.scope x) (r:RelV v u)
  (h:∀ s',Inv X pins (σ.set i (some v)) H s'->Q () s') (hf:X.fn x=true \/ X.env.scope.names.lookup x=some .local:=by first | exact .inl rfl | exact .inr rfl | assumption):wpAny M A (storeName X.env x u) Q E s :=
 JC I hN hi hx r (fun s' I' _=>h s' I') hf
theorem Inv.call' {s':Shared} {ch:List Addr} (I:Inv X pins σ H s) (ho:s'.os=s.os) (u:Un (frs X.stack) ch H H' s.heap s'.heap) (hok:Hs X.prog X.w H' s'.heap) (hg:AllBare s'.gens)
  (hch:∀ b∈ch,(b∈X.ex \/ X.s₀.heap.objs.size<=b)/\b ≠ X.env.locals/\(∀ x c,X.env.cells.lookup x=some c->c ≠ b)/\∀ p∈X.pn++pins,p.1 ≠ b):Inv X pins σ H' s':=by
 obtain ⟨h',g',d',t',o'⟩:=s'
 have e:o'=s.os:=ho
 subst e
 exact I.call (g':=g') (t':=t') (d':=d') u hok hg hch
end
noncomputable abbrev XK:=Value->Option Addr->Hp->Prop
noncomputable abbrev St:=List (Option V)
noncomputable abbrev VK:=V->Hp->Prop
noncomputable abbrev TE:=St->Hp->VK->Prop
noncomputable abbrev TT:=St->Hp->(Bool->Hp->Prop)->Prop
noncomputable abbrev TA:=St->Hp->(List V->Hp->Prop)->Prop
structure Ends where
 nx:St->Hp->Prop
 rt:VK
 bk:St->Hp->Prop:=fun _ _=>False
 ct:St->Hp->Prop:=fun _ _=>False
noncomputable abbrev TS:=Ends->St->Hp->Prop
noncomputable def EP (X:Cx) (pins:List (Addr × Obj)) (σ:St) (Q:VK) (u:Value) (s':Shared):Prop:=∃ v H',Inv X pins σ H' s'/\RelV v u/\Q v H'
noncomputable def TP (X:Cx) (pins:List (Addr × Obj)) (σ:St) (Q:Bool->Hp->Prop) (b:Bool) (s':Shared):Prop:=∃ H',Inv X pins σ H' s'/\Q b H'
noncomputable def AP (X:Cx) (pins:List (Addr × Obj)) (σ:St) (Q:List V->Hp->Prop) (us:List Value) (s':Shared):Prop:=∃ vs H',Inv X pins σ H' s'/\Vals vs us/\Q vs H'
noncomputable def SP (X:Cx) (pins:List (Addr × Obj)) (D:Ends) (f:Flow) (s':Shared):Prop :=
 match f with
 | .next=>∃ σ' H',Inv X pins σ' H' s'/\D.nx σ' H'
 | .brk=>∃ σ' H',Inv X pins σ' H' s'/\D.bk σ' H'
 | .cont=>∃ σ' H',Inv X pins σ' H' s'/\D.ct σ' H'
 | .ret u=>∃ v σ' H',Inv X pins σ' H' s'/\RelV v u/\D.rt v H'
noncomputable def PE (X:Cx) (e:Expr) (t:TE):Prop :=
 ∀ (pins:List (Addr × Obj)) (s:Shared) (σ:St) (H:Hp) (Q:VK),Inv X pins σ H s->t σ H Q->wpAny (model X.prog X.w) X.A (eval e X.env) (EP X pins σ Q) X.xe s
noncomputable def PT (X:Cx) (e:Expr) (t:TT):Prop :=
 ∀ (pins:List (Addr × Obj)) (s:Shared) (σ:St) (H:Hp) (Q:Bool->Hp->Prop),Inv X pins σ H s->t σ H Q->wpAny (model X.prog X.w) X.A (isTrue e X.env (eval e X.env)) (TP X pins σ Q) X.xe s
noncomputable def PW (X:Cx) (e:Expr) (t:TT):Prop :=
 ∀ (whole:Sem Value) (pins:List (Addr × Obj)) (s:Shared) (σ:St) (H:Hp) (Q:Bool->Hp->Prop),Inv X pins σ H s->t σ H Q->wpAny (model X.prog X.w) X.A (isTrue e X.env whole) (TP X pins σ Q) X.xe s
theorem PW.pt {X:Cx} {e:Expr} {t:TT} (h:PW X e t):PT X e t:=h _
noncomputable def PA (X:Cx) (es:List Expr) (t:TA):Prop :=
 ∀ (pos:Pos) (pins:List (Addr × Obj)) (s:Shared) (σ:St) (H:Hp) (Q:List V->Hp->Prop),Inv X pins σ H s->t σ H Q->wpAny (model X.prog X.w) X.A (spliced (backTo pos (starEach es X.env))) (AP X pins σ Q) X.xe s
noncomputable def PS (X:Cx) (st:Stmt) (t:TS):Prop :=
 ∀ (pins:List (Addr × Obj)) (s:Shared) (σ:St) (H:Hp) (D:Ends),Inv X pins σ H s->t D σ H->wpAny (model X.prog X.w) X.A (exec st X.env) (SP X pins D) X.xe s
noncomputable def N7 (X:Cx) (st:List Stmt) (t:TS):Prop :=
 ∀ (pins:List (Addr × Obj)) (s:Shared) (σ:St) (H:Hp) (D:Ends),Inv X pins σ H s->t D σ H->wpAny (model X.prog X.w) X.A (execs st X.env) (SP X pins D) X.xe s
theorem Bv {α:Type} {t:Sem α} {Q Q':α->Shared->Prop} {M:Model} {A:Around} {E:Value->Shared->Prop} {s:Shared} (h:wpAny M A t Q E s) (hQ:∀ a s,Q a s->Q' a s):wpAny M A t Q' E s:=wpAny_mono h hQ fun _ _ x=>x
end L2
namespace L2
open PySem PySem.Spec PyProof.Rows
section
variable {X:Cx}
noncomputable def fP (i:Nat):TE:=fun σ H Q=>∃ v,σ[i]? = some (some v)/\Q v H
noncomputable def tC (v:V):TE:=fun _ H Q=>Q v H
theorem W7 {i:Nat} {x:Str} {pos:Pos} (hN:X.N[i]? = some x) (hv:iH X.env.scope x) (hd:(x == ("__debug__" : Str))=false:=by decide) (hcd:(x == ("__classdict__" : Str))=false:=by decide):PE X (.Name x pos) (fP i):=by
 intro pins s σ H Q I h
 obtain ⟨v,e,h⟩:=h
 obtain ⟨m,hn,hl⟩:=I.loc
 obtain ⟨u,r,l⟩:=hl i x v hN e hv
 have fin:EP X pins σ Q u s:=⟨v,H,I,r,h⟩
 rcases l with ⟨hk,hm⟩ | ⟨hk,c,hc,hcell⟩
 ·exact wpAny_Name (wpAny_loadName_local I.ok.kind hk hn hm fin) hd
 ·rcases hk with hk | hk
  ·exact wpAny_Name (wpAny_loadName_cell I.ok.kind hk hc hcell fin) hd
  ·exact wpAny_Name (wpAny_loadName_free I.ok.kind hk hc hcell fin hcd) hd
theorem Ad {i j pos}:PE X (.Constant (.int i) j pos) (tC (.int i)):=fun _ _ _ H _ I h=>wpAny_Constant_int ⟨.int i,H,I.tok _,⟨_,rfl⟩,h⟩
theorem O6 {b j pos}:PE X (.Constant (.bool b) j pos) (tC (.bl b)):=fun _ _ _ H _ I h=>Constant_bool ⟨.bl b,H,I,rfl,h⟩
theorem Oi {j pos}:PE X (.Constant .none j pos) (tC .non):=fun _ _ _ H _ I h=>Constant_none ⟨.non,H,I,rfl,h⟩
theorem Ba {x j pos}:PE X (.Constant (.str x) j pos) (tC (.str x)):=fun _ _ _ H _ I h=>Calls.Constant_str ⟨.str x,H,I.tok _,⟨_,rfl⟩,h⟩
noncomputable def Gl (X:Cx) (x:Str):Prop:=X.env.kindOf x=some .globalImplicit
theorem K5 {E:Value->Shared->Prop} {pins:List (Addr × Obj)} {s:Shared} {σ:St} {H:Hp} {x:Str} {u:Value} {pos:Pos} {Q:Value->Shared->Prop} (I:Inv X pins σ H s) (hg:Gl X x) (hm:X.mg x=some u) (h:Q u s)
  (hd:(x == ("__debug__" : Str))=false:=by decide):wpAny (model X.prog X.w) X.A (eval (.Name x pos) X.env) Q E s :=
 Calls.Name_function_global I.ok.kind hg (Calls.loadGlobal_global (by rw [I.ok.glob]; exact I.mod.glob.keeps I.bk) hm h) hd
theorem HS {E:Value->Shared->Prop} {pins:List (Addr × Obj)} {s:Shared} {σ:St} {H:Hp} {x:Str} {u:Value} {pos:Pos} {Q:Value->Shared->Prop} (I:Inv X pins σ H s) (hg:Gl X x) (hm:X.mg x=none) (hv:bootBuiltins x=some u) (h:Q u s)
  (hn:x ≠ "__name__":=by decide) (hd:(x == ("__debug__" : Str))=false:=by decide):wpAny (model X.prog X.w) X.A (eval (.Name x pos) X.env) Q E s:=by
 obtain ⟨mb,h1,h2⟩:=I.mod.blt
 exact Calls.Name_function_global I.ok.kind hg (Calls.loadGlobal_builtin (by rw [I.ok.glob]; exact I.mod.glob.keeps I.bk) hm (by rw [I.ok.blt]; exact h1.keeps I.bk) ((h2 x hn).trans hv) h) hd
theorem Cw {x:Str} {v:V} {u:Value} {pos:Pos} (hg:Gl X x) (hm:X.mg x=some u) (r:RelV v u) (hd:(x == ("__debug__" : Str))=false:=by decide):PE X (.Name x pos) (tC v) :=
 fun _ _ _ H _ I h=>K5 I hg hm ⟨v,H,I,r,h⟩ hd
theorem Es {x:Str} {v:V} {u:Value} {pos:Pos} (hg:Gl X x) (hm:X.mg x=none) (hv:bootBuiltins x=some u) (r:RelV v u) (hn:x ≠ "__name__":=by decide) (hd:(x == ("__debug__" : Str))=false:=by decide):PE X (.Name x pos) (tC v) :=
 fun _ _ _ H _ I h=>HS I hg hm hv ⟨v,H,I,r,h⟩ hn hd
variable {a b:Expr} {ta tb:TE} {pos:Pos}
noncomputable def PC (X:Cx) (op:CmpOp) (a b:Expr) (t:TE):Prop :=
 ∀ (pins:List (Addr × Obj)) (s:Shared) (σ:St) (H:Hp) (Q:VK),Inv X pins σ H s->t σ H Q ->
  wpAny (model X.prog X.w) X.A (eval a X.env) (fun v s₁=>wpAny (model X.prog X.w) X.A (eval b X.env) (fun u s₂=>wpAny (model X.prog X.w) X.A (compareOp op v u) (EP X pins σ Q) X.xe s₂) X.xe s₁) X.xe s
noncomputable def tB (t:TE):TT:=fun σ H Q=>t σ H fun x H1=>∃ c,x=.bl c/\Q c H1
theorem TY {op:CmpOp} {t:TE} (h:PC X op a b t) (h1:behindInMarks op b=false:=by first | exact nobehind _ (by decide) (by decide) | rfl):PE X (.Compare a [op] [b] pos) t:=fun pins s σ H Q I hw=>wpAny_Compare1 (h pins s σ H Q I hw) h1
theorem Xu {op:CmpOp} {t:TE} (h:PC X op a b t) (h1:behindInMarks op b=false:=by first | exact nobehind _ (by decide) (by decide) | rfl):PT X (.Compare a [op] [b] pos) (tB t):=by
 intro pins s σ H Q I hw
 refine wpAny_isTrue_Compare1 (Bv (h pins s σ H _ I hw) fun v s1 h1=>Bv h1 fun u s2 h2=>Bv h2 fun c s3 ⟨x,H1,I1,r1,q1⟩=>?_) h1
 obtain ⟨d,rfl,q⟩:=q1
 cases r1
 exact wpAny_truthy_bool ⟨H1,I1,q⟩
theorem FN {e:Expr} {t:TE} (h:PE X e t) (he:∀ whole,isTrue e X.env whole=(do let v ← whole; standAt e.pos; holding [v] (truthy v)):=by intro _; rfl):PT X e (tB t):=by
 intro pins s σ H Q I hw
 refine isTrue_plain (Bv (h pins s σ H _ I hw) fun v s1 ⟨x,H1,I1,r1,q1⟩=>?_) (he _)
 obtain ⟨d,rfl,q⟩:=q1
 cases r1
 exact wpAny_truthy_bool ⟨H1,I1,q⟩
variable {tA tB':TT} {rest:List Expr}
noncomputable def iY (t u:TT):TT:=fun σ H Q=>t σ H fun c H1=>if c=true then u σ H1 Q else Q false H1
noncomputable def jB (t u:TT):TT:=fun σ H Q=>t σ H fun c H1=>if c=true then Q true H1 else u σ H1 Q
noncomputable def h_ (t:TT):TT:=fun σ H Q=>t σ H fun c H1=>Q (!c) H1
theorem O5 (ha:PT X a tA):PW X (.BoolOp .And [a] pos) tA:=by
 intro wh pins s σ H Q I h
 refine isTrue_and (Bv (ha pins s σ H Q I h) fun c s1 e=>?_)
 cases c with
 | true=>exact isTrue_and_nil e
 | false=>exact e
theorem JH (ha:PT X a tA):PW X (.BoolOp .Or [a] pos) tA:=by
 intro wh pins s σ H Q I h
 refine isTrue_or (Bv (ha pins s σ H Q I h) fun c s1 e=>?_)
 cases c with
 | false=>exact isTrue_or_nil e
 | true=>exact e
theorem R7 (ha:PT X a tA) (hb:PW X (.BoolOp .And (b::rest) pos) tB'):PW X (.BoolOp .And (a::b::rest) pos) (iY tA tB'):=by
 intro wh pins s σ H Q I h
 refine isTrue_and (Bv (ha pins s σ H _ I h) fun c s1 hq0=>?_)
 obtain ⟨H1,I1,q1⟩:=hq0
 cases c with
 | true=>exact hb wh pins s1 σ H1 Q I1 q1
 | false=>exact ⟨H1,I1,q1⟩
theorem Jz (ha:PT X a tA) (hb:PW X (.BoolOp .Or (b::rest) pos) tB'):PW X (.BoolOp .Or (a::b::rest) pos) (jB tA tB'):=by
 intro wh pins s σ H Q I h
 refine isTrue_or (Bv (ha pins s σ H _ I h) fun c s1 hq0=>?_)
 obtain ⟨H1,I1,q1⟩:=hq0
 cases c with
 | true=>exact ⟨H1,I1,q1⟩
 | false=>exact hb wh pins s1 σ H1 Q I1 q1
theorem Ex (ha:PT X a tA):PT X (.UnaryOp .Not a pos) (h_ tA):=by
 intro pins s σ H Q I h
 exact isTrue_not (ha pins s σ H (fun c H1=>Q (!c) H1) I h)
noncomputable def aX (ta tb:TE):TE:=fun σ H Q=>ta σ H fun x H1=>∃ c,x=.bl c/\if c=true then tb σ H1 Q else Q (.bl false) H1
noncomputable def jq (ta tb:TE):TE:=fun σ H Q=>ta σ H fun x H1=>∃ c,x=.bl c/\if c=true then Q (.bl true) H1 else tb σ H1 Q
noncomputable def aL (ta:TE):TE:=fun σ H Q=>ta σ H fun x H1=>∃ c,x=.bl c/\Q (.bl (!c)) H1
theorem Dn {op} {t:TE} (h:PE X a t):PE X (.BoolOp op [a] pos) t:=fun pins s σ H Q I hw=>BoolOp_one (h pins s σ H Q I hw)
theorem Dy (ha:PE X a ta) (hb:PE X (.BoolOp .And (b::rest) pos) tb):PE X (.BoolOp .And (a::b::rest) pos) (aX ta tb):=by
 intro pins s σ H Q I h
 refine BoolOp_and (Bv (ha pins s σ H _ I h) fun v s1 hq0=>?_)
 obtain ⟨x,H1,I1,r1,q1⟩:=hq0
 obtain ⟨c,rfl,q1⟩:=q1
 cases r1
 refine wpAny_truthy_bool ?_
 cases c with
 | true=>exact hb pins s1 σ H1 Q I1 q1
 | false=>exact ⟨.bl false,H1,I1,rfl,q1⟩
theorem cR (ha:PE X a ta) (hb:PE X (.BoolOp .Or (b::rest) pos) tb):PE X (.BoolOp .Or (a::b::rest) pos) (jq ta tb):=by
 intro pins s σ H Q I h
 refine BoolOp_or (Bv (ha pins s σ H _ I h) fun v s1 hq0=>?_)
 obtain ⟨x,H1,I1,r1,q1⟩:=hq0
 obtain ⟨c,rfl,q1⟩:=q1
 cases r1
 refine wpAny_truthy_bool ?_
 cases c with
 | false=>exact hb pins s1 σ H1 Q I1 q1
 | true=>exact ⟨.bl true,H1,I1,rfl,q1⟩
theorem N8 (ha:PE X a ta):PE X (.UnaryOp .Not a pos) (aL ta):=by
 intro pins s σ H Q I h
 refine UnaryOp_ (Bv (ha pins s σ H _ I h) fun v s1 hq0=>?_)
 obtain ⟨x,H1,I1,r1,q1⟩:=hq0
 obtain ⟨c,rfl,q1⟩:=q1
 cases r1
 exact not_of (wpAny_truthy_bool ⟨.bl (!c),H1,I1,rfl,q1⟩)
noncomputable def lB (t:TT) (ta tb:TE):TE:=fun σ H Q=>t σ H fun c H1=>if c=true then ta σ H1 Q else tb σ H1 Q
theorem S_ {c:Expr} (hc:PT X c tA) (ha:PE X a ta) (hb:PE X b tb):PE X (.IfExp c a b pos) (lB tA ta tb):=by
 intro pins s σ H Q I h
 refine wpAny_IfExp (Bv (hc pins s σ H _ I h) fun d s1 hq0=>?_)
 obtain ⟨H1,I1,q1⟩:=hq0
 cases d with
 | true=>exact ha pins s1 σ H1 Q I1 q1
 | false=>exact hb pins s1 σ H1 Q I1 q1
end
end L2
namespace L2
open PySem PySem.Spec PyProof.Rows
noncomputable def Cg (K:PySem.W.Frag) (H:Hp) (a:Addr) (xs:List V):Prop :=
 Rd H a (.lst xs) \/
  ∃ (o:Obj) (its:Array Value) (n:Nat),K.lookup a=some o/\o.cls=.type "list" /\ o.dict=none/\o.data=.seq its n/\its.size<=sizeLine/\Vals xs its.toList
noncomputable def G_ (K:PySem.W.Frag) (H:Hp) (a:Addr) (xs:List V):Prop :=
 Rd H a (.tup xs) \/
  ∃ (o:Obj) (its:Array Value) (n:Nat),K.lookup a=some o/\o.cls=.type "tuple" /\ o.data=.seq its n/\its.size<=sizeLine/\Vals xs its.toList
noncomputable def jm:Value->Option V
 | .none=>some .non
 | .bool b=>some (.bl b)
 | .int i _=>some (.int i)
 | .str x _=>some (.str x)
 | .bytes b _=>some (.byt b)
 | .float b _=>some (.flt b)
 | .ref a=>some (.ref a)
 | .type n=>some (.ty n)
 | _=>none
theorem RelV.abs {x:V} {u:Value} (r:RelV x u):jm u=some x:=by
 cases x with
 | non=>cases r; rfl
 | bl _=>cases r; rfl
 | int _=>obtain ⟨t,rfl⟩:=r; rfl
 | str _=>obtain ⟨t,rfl⟩:=r; rfl
 | byt _=>obtain ⟨t,rfl⟩:=r; rfl
 | flt _=>obtain ⟨t,rfl⟩:=r; rfl
 | ref _=>cases r; rfl
 | ty _=>cases r; rfl
theorem RelV.inj {x y:V} {u:Value} (r:RelV x u) (q:RelV y u):x=y:=Option.some.inj (r.abs.symm.trans q.abs)
theorem Vals.inj:∀ {xs ys:List V} {us:List Value},Vals xs us->Vals ys us->xs=ys
 | _,_,_,.nil,.nil=>rfl
 | _,_,_,.cons r t,.cons r' t'=>by rw [r.inj r',Vals.inj t t']
section
variable {X:Cx} {pins:List (Addr × Obj)} {σ:St} {H:Hp} {s:Shared} {a:Addr} {xs ys:List V}
theorem Inv.list (I:Inv X pins σ H s) (h:Cg X.K H a xs):∃ its:List Value,Vals xs its/\PlainL s.heap a its.toArray/\xs.length<=sizeLine:=by
 rcases h with h | ⟨o,its,n,hk,hc,hd,hs,hz,r⟩
 ·obtain ⟨z,its,n,r,e⟩:=h.ok I.hok
  exact ⟨its,r,⟨_,n,e,rfl,rfl,rfl⟩,z⟩
 ·refine ⟨its.toList,r,⟨o,n,I.Ip a o hk,hc,hd,by simpa using hs⟩,?_⟩
  have e:=r.length
  simp only [Array.length_toList] at e
  omega
theorem Inv.tuple (I:Inv X pins σ H s) (h:G_ X.K H a xs):∃ its:List Value,Vals xs its/\IsTup s.heap a its.toArray/\xs.length<=sizeLine:=by
 rcases h with h | ⟨o,its,n,hk,hc,hs,hz,r⟩
 ·obtain ⟨z,its,r,p⟩:=h.ok I.hok
  exact ⟨its,r,p,z⟩
 ·refine ⟨its.toList,r,⟨o,I.Ip a o hk,hc,n,by simpa using hs⟩,?_⟩
  have e:=r.length
  simp only [Array.length_toList] at e
  omega
theorem Inv.My (I:Inv X pins σ H s) (h:Cg X.K H a xs) (h':Cg X.K H a ys):xs=ys:=by
 obtain ⟨its,r,⟨o,n,e,_,_,d⟩,_⟩:=I.list h
 obtain ⟨its',r',⟨o',n',e',_,_,d'⟩,_⟩:=I.list h'
 rw [e] at e'; cases e'
 rw [d] at d'
 injection d' with d1 _
 have:its=its':=by simpa using congrArg Array.toList d1
 subst this
 exact r.inj r'
theorem Inv.JB (I:Inv X pins σ H s) (h:G_ X.K H a xs) (h':G_ X.K H a ys):xs=ys:=by
 obtain ⟨its,r,⟨o,e,_,n,d⟩,_⟩:=I.tuple h
 obtain ⟨its',r',⟨o',e',_,n',d'⟩,_⟩:=I.tuple h'
 rw [e] at e'; cases e'
 rw [d] at d'
 injection d' with d1 _
 have:its=its':=by simpa using congrArg Array.toList d1
 subst this
 exact r.inj r'
end
noncomputable abbrev Cx.wish (X:Cx) (E:Value->Shared->Prop):Cx:={ X with xe:=E }
noncomputable abbrev Cx.gf (X:Cx):Cx:=X.wish fun _ _=>False
theorem Cx.Ok.wish {X:Cx} (ok:X.Ok) (E:Value->Shared->Prop):(X.wish E).Ok :=
 ⟨ok.mod,ok.kind,ok.glob,ok.blt,ok.above,ok.inj,ok.has,ok.cab,ok.hd,ok.frames,ok.stk,ok.exf,ok.bs,ok.bsz,ok.noex,ok.exfs,ok.Jb,ok.frf⟩
theorem Cx.Ok.Gk {X:Cx} {E:Value->Shared->Prop} (ok:(X.wish E).Ok):X.Ok :=
 ⟨ok.mod,ok.kind,ok.glob,ok.blt,ok.above,ok.inj,ok.has,ok.cab,ok.hd,ok.frames,ok.stk,ok.exf,ok.bs,ok.bsz,ok.noex,ok.exfs,ok.Jb,ok.frf⟩
section
variable {X:Cx} {pins:List (Addr × Obj)} {σ:St} {H:Hp} {s:Shared} {E:Value->Shared->Prop}
theorem Inv.wish (I:Inv X pins σ H s) (E:Value->Shared->Prop):Inv (X.wish E) pins σ H s:=⟨I.ok.wish E,I.os,I.bare,I.base,I.loc,I.cell,I.free,I.freeC,I.pin,I.hok,I.len⟩
theorem Inv.Gk (I:Inv (X.wish E) pins σ H s):Inv X pins σ H s:=⟨I.ok.Gk,I.os,I.bare,I.base,I.loc,I.cell,I.free,I.freeC,I.pin,I.hok,I.len⟩
theorem SP.Gk {D:Ends} {f:Flow} {s':Shared} (h:SP (X.wish E) pins D f s'):SP X pins D f s':=by
 cases f with
 | next=>obtain ⟨σ',H',I,q⟩:=h; exact ⟨σ',H',I.Gk,q⟩
 | brk=>obtain ⟨σ',H',I,q⟩:=h; exact ⟨σ',H',I.Gk,q⟩
 | cont=>obtain ⟨σ',H',I,q⟩:=h; exact ⟨σ',H',I.Gk,q⟩
 | ret u=>obtain ⟨v,σ',H',I,r,q⟩:=h; exact ⟨v,σ',H',I.Gk,r,q⟩
theorem N7.gf {st:List Stmt} {t:TS} (h:N7 X.gf st t):N7 X st t:=fun pins s σ H D I hw =>
 wpAny_mono (h pins s σ H D (I.wish _) hw) (fun _ _ q=>q.Gk) fun _ _ z=>False.elim z
end
section
variable {X:Cx} {st:Stmt} {rest:List Stmt} {t u:TS} {e:Expr} {te:TE} {pos:Pos}
noncomputable def O4:TS:=fun D σ H=>D.nx σ H
noncomputable def a_ (t u:TS):TS:=fun D σ H=>t { D with nx:=u D } σ H
theorem Bh:N7 X [] O4:=fun _ _ σ H _ I h=>wpAny_execs_nil ⟨σ,H,I,h⟩
theorem Ae (h1:PS X st t) (h2:N7 X rest u):N7 X (st::rest) (a_ t u):=by
 intro pins s σ H D I h
 refine wpAny_execs_cons (Bv (h1 pins s σ H { D with nx:=u D } I h) fun f s1 q=>?_)
 cases f with
 | next =>
  obtain ⟨σ',H',I',q⟩:=q
  exact h2 pins s1 σ' H' D I' q
 | ret v=>exact q
 | brk=>exact q
 | cont=>exact q
theorem Ah (h1:PS X st t):N7 X [st] t:=by
 intro pins s σ H D I h
 refine wpAny_execs_cons (Bv (h1 pins s σ H D I h) fun f s1 q=>?_)
 cases f with
 | next=>exact wpAny_execs_nil q
 | ret v=>exact q
 | brk=>exact q
 | cont=>exact q
noncomputable def Xl:TS:=fun D σ H=>D.bk σ H
theorem R_:PS X (.Break pos) Xl:=fun _ _ σ H _ I h=>wpAny_Break ⟨σ,H,I,h⟩
theorem Inv.quiet {pins:List (Addr × Obj)} {σ:St} {H:Hp} {s:Shared} (I:Inv X pins σ H s):interactive X.env=false:=by simp [interactive,I.ok.kind]
noncomputable def bZ (te:TE):TS:=fun D σ H=>te σ H fun _ H1=>D.nx σ H1
theorem Ed (he:PE X e te) (hs:swapsWith e none pos.line X.env=pure false:=by rfl):PS X (.Expr e pos) (bZ te):=by
 intro pins s σ H D I h
 exact wpAny_Expr_any (Bv (he pins s σ H _ I h) fun v s1 ⟨x,H1,I1,r1,q1⟩=>⟨σ,H1,I1,q1⟩) I.quiet hs
noncomputable def iT (te:TE):TS:=fun D σ H=>te σ H D.rt
theorem BL (he:PE X e te):PS X (.Return (some e) pos) (iT te):=by
 intro pins s σ H D I h
 exact wpAny_Return_some (Bv (he pins s σ H _ I h) fun v s1 ⟨x,H1,I1,r1,q1⟩=>⟨x,σ,H1,I1,r1,q1⟩)
noncomputable def jG (c:TT) (t u:TS):TS:=fun D σ H=>c σ H fun b H1=>if b=true then t D σ H1 else u D σ H1
theorem Ce {c:Expr} {a b:List Stmt} {tc:TT} (hc:PT X c tc) (ha:N7 X a t) (hb:N7 X b u):PS X (.If c a b pos) (jG tc t u):=by
 intro pins s σ H D I h
 refine wpAny_If (Bv (hc pins s σ H _ I h) fun d s1 hq0=>?_)
 obtain ⟨H1,I1,q1⟩:=hq0
 cases d with
 | true=>exact ha pins s1 σ H1 D I1 q1
 | false=>exact hb pins s1 σ H1 D I1 q1
noncomputable def XQ:TS:=fun _ _ _=>False
theorem Gq:PS X st XQ:=fun _ _ _ _ _ _ h=>h.elim
end
noncomputable abbrev TG:=V->St->Hp->(St->Hp->Prop)->Prop
noncomputable abbrev YC:=List V->St->Hp->(St->Hp->Prop)->Prop
noncomputable def PG (X:Cx) (target:Expr) (t:TG):Prop :=
 ∀ (pins:List (Addr × Obj)) (s:Shared) (σ:St) (H:Hp) (v:V) (u:Value) (Q:St->Hp->Prop),Inv X pins σ H s->RelV v u->t v σ H Q ->
  wpAny (model X.prog X.w) X.A (assign target X.env u) (fun _ s'=>∃ σ' H',Inv X pins σ' H' s'/\Q σ' H') X.xe s
noncomputable def gQ (X:Cx) (ts:List Expr) (t:YC):Prop :=
 ∀ (pins:List (Addr × Obj)) (s:Shared) (σ:St) (H:Hp) (vs:List V) (us:List Value) (Q:St->Hp->Prop),Inv X pins σ H s->Vals vs us->t vs σ H Q ->
  wpAny (model X.prog X.w) X.A (assignInOrder ((assignEach ts X.env).map (·.2)) us) (fun _ s'=>∃ σ' H',Inv X pins σ' H' s'/\Q σ' H') X.xe s
noncomputable abbrev Wz:=V->V->V->Hp->(Hp->Prop)->Prop
noncomputable def gO (X:Cx) (t:Wz):Prop :=
 ∀ (pins:List (Addr × Obj)) (s:Shared) (σ:St) (H:Hp) (o i v:V) (ov iv u:Value) (Q:Hp->Prop),Inv X pins σ H s->RelV o ov->RelV i iv->RelV v u->t o i v H Q ->
  wpAny (model X.prog X.w) X.A (setItem ov iv u) (fun _ s'=>∃ H',Inv X pins σ H' s'/\Q H') X.xe s
section
variable {X:Cx} {pos:Pos}
noncomputable def Cq (i:Nat):TG:=fun v σ H Q=>Q (σ.set i (some v)) H
theorem Bp {i:Nat} {x:Str} (hN:X.N.Nodup) (hi:X.N[i]? = some x) (hx:Loc X.env.scope x) (hf:X.fn x=true \/ X.env.scope.names.lookup x=some .local:=by first | exact .inl rfl | exact .inr rfl | assumption):PG X (.Name x pos) (Cq i):=by
 intro pins s σ H v u Q I r h
 exact wpAny_assign_Name (Im I hN hi hx r (fun s' I'=>⟨_,H,I',h⟩) hf)
noncomputable def RB:YC:=fun vs σ H Q=>vs=[]/\Q σ H
noncomputable def Gm (t:TG) (u:YC):YC:=fun vs σ H Q=>∃ v r,vs=v::r/\t v σ H fun σ' H'=>u r σ' H' Q
theorem Hw:gQ X [] RB:=by
 intro pins s σ H vs us Q I r h
 obtain ⟨e,h⟩:=h
 subst e
 cases r
 exact assignInOrder_nil ⟨σ,H,I,h⟩
theorem Di {e:Expr} {es:List Expr} {t:TG} {u:YC} (h1:PG X e t) (h2:gQ X es u)
  (hs:(assignEach (e::es) X.env).map (·.2)=assign e X.env::(assignEach es X.env).map (·.2):=by rfl):gQ X (e::es) (Gm t u):=by
 intro pins s σ H vs us Q I r h
 obtain ⟨v,vr,e1,h⟩:=h
 subst e1
 cases r with
 | cons r rr =>
  rw [hs]
  refine assignInOrder_cons (Bv (h1 pins s σ H _ _ _ I r h) fun _ s1 hq0=>?_)
  obtain ⟨σ1,H1,I1,q1⟩:=hq0
  exact h2 pins s1 σ1 H1 _ _ Q I1 rr q1
noncomputable def Nk (K:PySem.W.Frag) (n:Nat) (t:YC):TG:=fun v σ H Q=>∃ a xs,v=.ref a/\G_ K H a xs/\xs.length=n/\t xs σ H Q
theorem Jl {es:List Expr} {k:Nat} {t:YC} {n:Nat} (hc:X.calm=true) (h:gQ X es t)
  (hn:(assignEach es X.env).length=n:=by rfl) (hst:(assignEach es X.env).findIdx? (·.1)=none:=by rfl):PG X (.Tuple es k pos) (Nk X.K n t):=by
 intro pins s σ H v u Q I r hw
 obtain ⟨a,xs,e1,hq,hl,hw⟩:=hw
 subst e1
 cases r
 obtain ⟨its,rv,ht,hz⟩:=I.tuple hq
 refine assign_Tuple_tuple (I.ok.hd hc) ht (by simp [hn,← hl,rv.length]) hst fun h' hx=>?_
 have I1:Inv X pins σ H { s with heap:=h' }:=I.kept (t':=s.toks) fun b o e=>hx b o (Nat.ne_of_lt (Heap.lt_size e)) e
 exact h pins _ σ H xs _ Q I1 (by simpa using rv) hw
noncomputable def jr (to ti:TE) (t:Wz):TG:=fun v σ H Q=>to σ H fun o H1=>ti σ H1 fun i H2=>t o i v H2 fun H3=>Q σ H3
theorem JP {o i:Expr} {to ti:TE} {t:Wz} (ho:PE X o to) (hi:PE X i ti) (hs:gO X t)
  (ha:∀ v,assign (.Subscript o i pos) X.env v=(do
   let ov ← holding [v] (eval o X.env)
   let iv ← holding [v,ov] (eval i X.env)
   standAt pos
   holding [v,ov,iv] (setItem ov iv v)
   release [v,ov,iv] []):=by intro _; rfl):PG X (.Subscript o i pos) (jr to ti t):=by
 intro pins s σ H v u Q I r h
 rw [ha]
 refine wpAny_bind (wpAny_holding (Bv (ho pins s σ H _ I h) fun ov s1 hq0=>?_))
 obtain ⟨x,H1,I1,r1,q1⟩:=hq0
 refine wpAny_bind (wpAny_holding (Bv (hi pins s1 σ H1 _ I1 q1) fun iv s2 hq0=>?_))
 obtain ⟨y,H2,I2,r2,q2⟩:=hq0
 refine wpAny_bind (wpAny_standAt (wpAny_bind (wpAny_holding (Bv (hs pins s2 σ H2 x y v ov iv u _ I2 r1 r2 r q2) fun _ s3 hq0=>?_))))
 obtain ⟨H3,I3,q3⟩:=hq0
 exact wpAny_release ⟨σ,H3,I3,q3⟩
noncomputable def Rr (te:TE) (g:TG):TS:=fun D σ H=>te σ H fun x H1=>g x σ H1 D.nx
theorem JL {tg e:Expr} {te:TE} {g:TG} (he:PE X e te) (hg:PG X tg g) (hs:swapsWithSole [tg] e pos.line X.env=pure false:=by rfl) (hw:swappedStores [tg] e X.env=pure none:=by rfl)
  (h1:(assignEach [tg] X.env).map (·.2)=[assign tg X.env]:=by rfl):PS X (.Assign [tg] e pos) (Rr te g):=by
 intro pins s σ H D I h
 refine wpAny_Assign_stores (Bv (he pins s σ H _ I h) fun v s1 ⟨x,H1,I1,r1,q1⟩=>?_) hs hw
 rw [h1]
 exact Bv (hg pins s1 σ H1 x v _ I1 r1 q1) fun _ s2 q=>q
theorem Bq {i:Nat} {x:Str} {e:Expr} {te:TE} {pos':Pos} (hN:X.N.Nodup) (hi:X.N[i]? = some x) (hx:Loc X.env.scope x) (he:PE X e te) (hs:swapsWith e (some (.Name x pos')) pos.line X.env=pure false:=by rfl) (hf:X.fn x=true \/ X.env.scope.names.lookup x=some .local:=by first | exact .inl rfl | exact .inr rfl | assumption) :
  PS X (.Assign [.Name x pos'] e pos) (Rr te (Cq i)):=by
 intro pins s σ H D I h
 refine wpAny_Assign_Name (Bv (he pins s σ H _ I h) fun v s1 ⟨y,H1,I1,r1,q1⟩=>?_) hs
 exact Im I1 hN hi hx r1 (fun s2 I2=>⟨_,H1,I2,q1⟩) hf
end
section
variable {X:Cx} {pos:Pos}
noncomputable def Lf (c:TT) (tb:TS):TS:=fun D σ H=>∃ W:Nat->St->Hp->Prop,(∃ m,W m σ H)/\∀ m σ H,W m σ H ->
 c σ H fun b H1=>if b=true then ∃ N:St->Hp->Prop,(∀ σ' H',N σ' H'->∃ m',m'<m/\W m' σ' H')/\tb { D with nx:=N,ct:=N,bk:=D.nx } σ H1 else D.nx σ H1
theorem Tv {c:Expr} {body:List Stmt} {tc:TT} {tb:TS} (hp:PassesOwn (model X.prog X.w) X.A X.env X.xe) (hc:PT X c tc) (hb:N7 X body tb):PS X (.While c body [] pos) (Lf tc tb):=by
 intro pins s σ H D I h
 obtain ⟨W,⟨m0,w0⟩,turn⟩:=h
 refine wpAny_While (codeAny_whileLoop (fun n s'=>∃ σ' H',Inv X pins σ' H' s'/\W n σ' H') ?_ m0 ⟨σ,H,I,w0⟩)
 rintro n s1 ⟨σ1,H1,I1,w1⟩
 refine wpAny_passesOwn hp (Bv (hc pins s1 σ1 H1 _ I1 (turn n σ1 H1 w1)) fun b s2 hq0=>?_)
 obtain ⟨H2,I2,q2⟩:=hq0
 cases b with
 | true =>
  obtain ⟨N,hN,q2⟩:=q2
  rw [if_pos rfl]
  refine wpAny_passesOwn hp (Bv (hb pins s2 σ1 H2 _ I2 q2) fun f s3 q3=>?_)
  cases f with
  | next =>
   obtain ⟨σ3,H3,I3,n3⟩:=q3
   obtain ⟨m',hm,w3⟩:=hN σ3 H3 n3
   exact ⟨m',hm,σ3,H3,I3,w3⟩
  | cont =>
   obtain ⟨σ3,H3,I3,n3⟩:=q3
   obtain ⟨m',hm,w3⟩:=hN σ3 H3 n3
   exact ⟨m',hm,σ3,H3,I3,w3⟩
  | brk=>exact q3
  | ret v=>exact q3
 | false =>
  rw [if_neg Bool.false_ne_true]
  exact wpAny_execs_nil ⟨σ1,H2,I2,q2⟩
end
structure It where
 go:Nat->Hp->Prop
 yld:Nat->Hp->V->Hp->Prop
 stop:Nat->Hp->Prop
noncomputable def Ep (X:Cx) (pins:List (Addr × Obj)) (H:Hp) (b:Addr):Prop :=
 H b=none/\b ≠ X.env.locals/\b ∉ X.fs/\(b∈X.ex \/ X.s₀.heap.objs.size<=b)/\(∀ x c,X.env.cells.lookup x=some c->c ≠ b)/\∀ p∈X.pn++pins,p.1 ≠ b
theorem Inv.Jq {X:Cx} {pins:List (Addr × Obj)} {σ:St} {H H':Hp} {s:Shared} {b:Addr} (I:Inv X pins σ H s) (hb:s.heap.objs.size<=b) (hn:H' b=none):Ep X pins H' b:=by
 refine ⟨hn,Nat.ne_of_gt (Nat.lt_of_lt_of_le I.lt hb),I.jF hb,.inr (Nat.le_trans I.sz hb),fun x c e z=>?_,fun p hp z=>?_⟩
 ·obtain ⟨v,q⟩:=I.cell x c e
  exact absurd (Nat.lt_of_lt_of_le q.lt (by rw [z]; exact hb)) (Nat.lt_irrefl _)
 ·exact absurd (Nat.lt_of_lt_of_le (Heap.lt_size (I.pin p hp).1) (by rw [z]; exact hb)) (Nat.lt_irrefl _)
structure Turn (P:Program) (w:World) (K:PySem.W.Frag) (tg:Expr) (J:It) (fp:List Addr) (it:Addr) (tn:Nat->Heap->Prop):Prop where
 mem:it∈fp
 obj:∀ i h,tn i h->∀ b∈fp,∃ o,h.get? b=some o/\∀ v,o.data ≠ .cell v
 keep:∀ i h h',tn i h->(∀ b∈fp,∀ o,h.get? b=some o->h'.get? b=some o)->tn i h'
 item:∀ (X:Cx),X.prog=P->X.w=w->X.K=K->X.calm=true->∀ (i:Nat) (pins:List (Addr × Obj)) (s:Shared) (σ:St) (H:Hp) (E:Value->Shared->Prop),Inv X pins σ H s->(∀ b∈fp,Ep X pins H b)->tn i s.heap->J.go i H ->
  wpAny (model P w) X.A (pyNext (.ref it)) (fun r s1=>∃ u,r=some u /\
   wpAny (model P w) X.A (letOwnedTupleGo tg (.ref it) u) (fun _ s2=>∃ x H',Inv X pins σ H' s2/\RelV x u/\J.yld i H x H'/\tn (i+1) s2.heap/\∀ b∈fp,H' b=none) E s1) E s
 done:∀ (X:Cx),X.prog=P->X.w=w->X.K=K->X.calm=true->∀ (i:Nat) (pins:List (Addr × Obj)) (s:Shared) (σ:St) (H:Hp) (E:Value->Shared->Prop),Inv X pins σ H s->(∀ b∈fp,Ep X pins H b)->tn i s.heap->J.stop i H ->
  wpAny (model P w) X.A (pyNext (.ref it)) (fun r s1=>r=none/\Inv X pins σ H s1) E s
 self:∀ (A:Around) (i:Nat) (s:Shared) (Q:Value->Shared->Prop) (E:Value->Shared->Prop),tn i s.heap->Q (.ref it) s->wpAny (model P w) A (pyIter (.ref it)) Q E s
noncomputable abbrev TI:=St->Hp->(It->Hp->Prop)->Prop
noncomputable def PIE (X:Cx) (pins:List (Addr × Obj)) (σ:St) (tg:Expr) (R:It->Hp->Prop) (itv:Value) (s2:Shared):Prop :=
 ∃ (it:Addr) (fp:List Addr) (tn:Nat->Heap->Prop) (J:It) (H':Hp),itv=.ref it/\Inv X pins σ H' s2/\Turn X.prog X.w X.K tg J fp it tn/\tn 0 s2.heap/\(∀ b∈fp,Ep X pins H' b)/\R J H'
noncomputable def PI (X:Cx) (tg iter:Expr) (wi:TI):Prop :=
 ∀ (pins:List (Addr × Obj)) (s:Shared) (σ:St) (H:Hp) (R:It->Hp->Prop),Inv X pins σ H s->wi σ H R ->
  wpAny (model X.prog X.w) X.A (eval iter X.env) (fun v s1=>wpAny (model X.prog X.w) X.A (pyIter v) (PIE X pins σ tg R) X.xe s1) X.xe s
theorem NQ {M:Model} {A:Around} {E:Value->Shared->Prop} {s:Shared} {tg:Expr} {it:Addr} {u:Value} {o:Obj} {n:String} {vs:Array Value} {Q:Unit->Shared->Prop} (ho:s.heap.get? it=some o) (hc:o.cls=.type n) (hd:o.data=.fields vs)
  (hn:["enumerate","zip","dict_itemiterator","dict_reverseitemiterator","odict_iterator","itertools.zip_longest","itertools.pairwise"].contains n=false) (hQ:Q () s):wpAny M A (letOwnedTupleGo tg (.ref it) u) Q E s:=by
 unfold letOwnedTupleGo
 cases tg <;> first
  | exact wpAny_pure hQ
  | (cases u <;> first
    | exact wpAny_pure hQ
    | (refine wpAny_bind (wpAny_load ho ?_)
       rw [hc,hd]
       show wpAny M A (if (["enumerate","zip","dict_itemiterator","dict_reverseitemiterator","odict_iterator","itertools.zip_longest","itertools.pairwise"].contains n && vs[0]? == some (rawInt _))=true then _ else _) Q E s
       rw [if_neg (by intro h; rw [hn,Bool.false_and] at h; cases h)]
       exact wpAny_pure hQ))
noncomputable def WD (K:PySem.W.Frag) (a:Addr):It :=
 ⟨fun i H=>∃ xs x,Cg K H a xs/\xs[i]? = some x,fun i H x H'=>H'=H/\∀ xs,Cg K H a xs->xs[i]? = some x,fun i H=>∃ xs,Cg K H a xs/\xs.length<=i⟩
noncomputable def lA (K:PySem.W.Frag) (a:Addr):It :=
 ⟨fun i H=>∃ xs x,G_ K H a xs/\xs[i]? = some x,fun i H x H'=>H'=H/\∀ xs,G_ K H a xs->xs[i]? = some x,fun i H=>∃ xs,G_ K H a xs/\xs.length<=i⟩
noncomputable def VM (lo:Int) (n:Nat):It:=⟨fun i _=>i<n,fun i H x H'=>H'=H/\x=.int (lo+i),fun i _=>n<=i⟩
theorem Q0 {P:Program} {w:World} {K:PySem.W.Frag} {tg:Expr} (a it:Addr):Turn P w K tg (WD K a) [it] it (fun i h=>h.IsListIter it a i) where
 mem:=by simp
 obj:=fun i h st b hb=>by
  have e:b=it:=by simpa using hb
  subst e
  obtain ⟨o,e,c,d⟩:=st
  exact ⟨o,e,fun v z=>by rw [d] at z; cases z⟩
 keep:=fun i h h' st k=>st.at fun o e=>k it (by simp) o e
 item:=by
  intro X hP hw hK hc i pins s σ H E I hf st hg
  subst hP hw hK
  obtain ⟨xs,x,hq,hx⟩:=hg
  obtain ⟨its,rv,p,hz⟩:=I.list hq
  obtain ⟨u,hu,ru⟩:=rv.get hx
  obtain ⟨f0,f1,f2,f3,f4,f5⟩:=hf it (by simp)
  refine wpAny_pyNext_list_item st p.isList (x:=u) (by simpa using hu) fun h' st' sb=>?_
  have I1:Inv X pins σ H { s with heap:=h' }:=I.turned (t':=s.toks) (fun b o hb e=>(sb.2 b hb).trans e) f0 f1 f3 f4 f5
  obtain ⟨o,e,c,d⟩:=id st'
  exact ⟨u,rfl,NQ (s:={ s with heap:=h' }) e c d (by decide) ⟨x,H,I1,ru,⟨rfl,fun ys hy=>by rw [I.My hy hq]; exact hx⟩,st',fun b hb=>(hf b hb).1⟩⟩
 done:=by
  intro X hP hw hK hc i pins s σ H E I hf st hg
  subst hP hw hK
  obtain ⟨xs,hq,hx⟩:=hg
  obtain ⟨its,rv,p,hz⟩:=I.list hq
  obtain ⟨f0,f1,f2,f3,f4,f5⟩:=hf it (by simp)
  have hl:=rv.length
  exact wpAny_pyNext_list_end (I.ok.hd hc) st p.isList (by simp; omega) fun h' eb=>⟨rfl,I.turned (t':=s.toks) (fun b o hb e=>eb b o hb e) f0 f1 f3 f4 f5⟩
 self:=fun _ _ _ _ _ st h=>wpAny_pyIter_listiter st h
theorem Oh {P:Program} {w:World} {K:PySem.W.Frag} {tg:Expr} (a it:Addr):Turn P w K tg (lA K a) [it] it (fun i h=>h.IsTupleIter it a i) where
 mem:=by simp
 obj:=fun i h st b hb=>by
  have e:b=it:=by simpa using hb
  subst e
  obtain ⟨o,e,c,d⟩:=st
  exact ⟨o,e,fun v z=>by rw [d] at z; cases z⟩
 keep:=fun i h h' st k=>st.at fun o e=>k it (by simp) o e
 item:=by
  intro X hP hw hK hc i pins s σ H E I hf st hg
  subst hP hw hK
  obtain ⟨xs,x,hq,hx⟩:=hg
  obtain ⟨its,rv,p,hz⟩:=I.tuple hq
  obtain ⟨u,hu,ru⟩:=rv.get hx
  obtain ⟨f0,f1,f2,f3,f4,f5⟩:=hf it (by simp)
  refine wpAny_pyNext_tuple_item st (show s.heap.IsTuple a its.toArray from p) (x:=u) (by simpa using hu) fun h' st' sb=>?_
  have I1:Inv X pins σ H { s with heap:=h' }:=I.turned (t':=s.toks) (fun b o hb e=>(sb.2 b hb).trans e) f0 f1 f3 f4 f5
  obtain ⟨o,e,c,d⟩:=id st'
  exact ⟨u,rfl,NQ (s:={ s with heap:=h' }) e c d (by decide) ⟨x,H,I1,ru,⟨rfl,fun ys hy=>by rw [I.JB hy hq]; exact hx⟩,st',fun b hb=>(hf b hb).1⟩⟩
 done:=by
  intro X hP hw hK hc i pins s σ H E I hf st hg
  subst hP hw hK
  obtain ⟨xs,hq,hx⟩:=hg
  obtain ⟨its,rv,p,hz⟩:=I.tuple hq
  obtain ⟨f0,f1,f2,f3,f4,f5⟩:=hf it (by simp)
  have hl:=rv.length
  exact wpAny_pyNext_tuple_end (I.ok.hd hc) st (show s.heap.IsTuple a its.toArray from p) (by simp; omega) fun h' eb=>⟨rfl,I.turned (t':=s.toks) (fun b o hb e=>eb b o hb e) f0 f1 f3 f4 f5⟩
 self:=fun _ _ _ _ _ st h=>wpAny_pyIter_tupleiter st h
theorem N5 {P:Program} {w:World} {K:PySem.W.Frag} {tg:Expr} (it:Addr) (lo:Int) (n:Nat):Turn P w K tg (VM lo n) [it] it (fun i h=>IsRangeIter h it (lo+(i:Nat) * 1) ((n:Int) - (i:Nat)) 1) where
 mem:=by simp
 obj:=fun i h st b hb=>by
  have e:b=it:=by simpa using hb
  subst e
  exact ⟨_,st,fun v z=>by
   have z':Data.fields _=Data.cell v:=z
   cases z'⟩
 keep:=fun i h h' st k=>k it (by simp) _ st
 item:=by
  intro X hP hw hK hc i pins s σ H E I hf st hg
  subst hP hw hK
  obtain ⟨f0,f1,f2,f3,f4,f5⟩:=hf it (by simp)
  have W:=Walks.range (prog:=X.prog) (w:=X.w) (I.ok.hd hc) it lo 1 n
  refine W.item i s _ _ hg st fun v h' tk hv st' kk=>?_
  obtain ⟨t,rfl⟩:=hv
  have I1:Inv X pins σ H { s with heap:=h',toks:=tk }:=I.turned (fun b o hb e=>kk b o (by simpa using hb) e) f0 f1 f3 f4 f5
  refine ⟨_,rfl,NQ (s:={ s with heap:=h',toks:=tk }) (n:="range_iterator") st' rfl rfl (by decide) ⟨.int (lo+i),H,I1,⟨t,?_⟩,⟨rfl,rfl⟩,st',fun b hb=>(hf b hb).1⟩⟩
  rw [Int.mul_one]
 done:=by
  intro X hP hw hK hc i pins s σ H E I hf st hg
  subst hP hw hK
  obtain ⟨f0,f1,f2,f3,f4,f5⟩:=hf it (by simp)
  exact wpAny_pyNext_range_end (I.ok.hd hc) st (by have:n<=i:=hg; omega) fun h' eb=>⟨rfl,I.turned (t':=s.toks) (fun b o hb e=>eb b o hb e) f0 f1 f3 f4 f5⟩
 self:=fun _ _ _ _ _ st h=>wpAny_pyIter_rangeiter st h
end L2
namespace L2
open PySem PySem.Spec PyProof.Rows
section
variable {X:Cx} {tg:Expr}
noncomputable def dG (K:PySem.W.Frag) (tl:TE):TI:=fun σ H R=>tl σ H fun x H1=>∃ a,x=.ref a/\(∃ xs,Cg K H1 a xs)/\R (WD K a) H1
noncomputable def iQ (K:PySem.W.Frag) (tl:TE):TI:=fun σ H R=>tl σ H fun x H1=>∃ a,x=.ref a/\(∃ xs,G_ K H1 a xs)/\R (lA K a) H1
theorem Bj {l:Expr} {tl:TE} (hl:PE X l tl):PI X tg l (dG X.K tl):=by
 intro pins s σ H R I h
 refine Bv (hl pins s σ H _ I h) fun v s1 hq0=>?_
 obtain ⟨x,H1,I1,r1,q1⟩:=hq0
 obtain ⟨a,e,⟨xs,hq⟩,q⟩:=q1
 subst e
 cases r1
 obtain ⟨its,rv,p,hz⟩:=I1.list hq
 refine wpAny_pyIter_list p.isList ?_
 refine ⟨s1.heap.objs.size,[s1.heap.objs.size],_,_,H1,rfl,I1.kept (t':=s1.toks) fun b o e=>Heap.get?_push_of_some _ e,Q0 a _,⟨_,Heap.get?_push_size _ rfl,rfl,rfl⟩,fun b hb=>?_,q⟩
 have e:b=s1.heap.objs.size:=by simpa using hb
 subst e
 exact I1.Jq (Nat.le_refl _) (I1.hok.fresh (Nat.le_refl _))
theorem Wk {l:Expr} {tl:TE} (hl:PE X l tl):PI X tg l (iQ X.K tl):=by
 intro pins s σ H R I h
 refine Bv (hl pins s σ H _ I h) fun v s1 hq0=>?_
 obtain ⟨x,H1,I1,r1,q1⟩:=hq0
 obtain ⟨a,e,⟨xs,hq⟩,q⟩:=q1
 subst e
 cases r1
 obtain ⟨its,rv,p,hz⟩:=I1.tuple hq
 refine wpAny_pyIter_tuple (show s1.heap.IsTuple a its.toArray from p) ?_
 refine ⟨s1.heap.objs.size,[s1.heap.objs.size],_,_,H1,rfl,I1.kept (t':=s1.toks) fun b o e=>Heap.get?_push_of_some _ e,Oh a _,⟨_,Heap.get?_push_size _ rfl,rfl,rfl⟩,fun b hb=>?_,q⟩
 have e:b=s1.heap.objs.size:=by simpa using hb
 subst e
 exact I1.Jq (Nat.le_refl _) (I1.hok.fresh (Nat.le_refl _))
theorem RQ {pins:List (Addr × Obj)} {σ:St} {H:Hp} {s:Shared} {R:It->Hp->Prop} {E:Value->Shared->Prop} {lo hi:Int} {t u v:Tok} {tk:Nat} (I:Inv X pins σ H s) (h1 : -(2 ^ 62)<=lo) (h2:lo<2 ^ 62) (h3 : -(2 ^ 62)<=hi) (h4:hi<2 ^ 62)
  (q:R (VM lo (hi - lo).toNat) H):wpAny (model X.prog X.w) X.A (pyIter (.ref s.heap.objs.size)) (PIE X pins σ tg R) E { s with heap:=s.heap.push { cls:=.type "range",data:=.fields #[.int lo t,.int hi u,.int 1 v] },toks:=tk }:=by
 refine wpAny_pyIter_range (IsRange.new ..) (small_one h1 h2 h3 h4) ?_
 have I1:Inv X pins σ H { s with heap:=s.heap.push { cls:=.type "range",data:=.fields #[.int lo t,.int hi u,.int 1 v] },toks:=tk }:=I.kept fun b o e=>Heap.get?_push_of_some _ e
 refine ⟨(s.heap.push { cls:=.type "range",data:=.fields #[.int lo t,.int hi u,.int 1 v] }).objs.size,[(s.heap.push { cls:=.type "range",data:=.fields #[.int lo t,.int hi u,.int 1 v] }).objs.size],_,_,H,rfl,
  I1.kept (t':=tk) fun b o e=>Heap.get?_push_of_some _ e,N5 _ lo (hi - lo).toNat,?_,fun b hb=>?_,q⟩
 ·have e1:lo+((0:Nat):Int) * 1=lo:=by simp
  have e2:(((hi - lo).toNat:Nat):Int) - ((0:Nat):Int)=Builtin.Range.rangeSize lo hi 1:=by rw [rangeSize_one]; split <;> omega
  show IsRangeIter _ _ (lo+((0:Nat):Int) * 1) ((((hi - lo).toNat:Nat):Int) - ((0:Nat):Int)) 1
  rw [e1,e2]
  exact Heap.get?_push_size _ rfl
 ·have e:b=(s.heap.push { cls:=.type "range",data:=.fields #[.int lo t,.int hi u,.int 1 v] }).objs.size:=by simpa using hb
  subst e
  exact I1.Jq (Nat.le_refl _) (I1.hok.fresh (Nat.le_refl _))
noncomputable def dm (ta:TA):TI:=fun σ H R=>ta σ H fun vs H1=>∃ j:Int,vs=[.int j] /\ -(2 ^ 62)<=j/\j<2 ^ 62/\R (VM 0 j.toNat) H1
theorem Bs {a:Expr} {ta:TA} {p pos:Pos} (hg:Gl X "range") (hm:X.mg "range" = none) (ha:PA X [a] ta) (hs:starEach [a] X.env=[(false,eval a X.env)]:=by rfl):PI X tg (.Call (.Name "range" p) [a] [] pos) (dm ta):=by
 intro pins s σ H R I h
 refine Call_ (HS I hg hm boot_range (PyProof.Rows.callWith_type1 (Bv (ha pos pins s σ H _ I h) fun us s1 ⟨vs,H1,I1,r1,q1⟩=>?_) hs rfl))
 obtain ⟨j,e,q1,q2,q⟩:=q1
 subst e
 cases r1 with
 | cons r rr =>
  cases rr
  obtain ⟨t,rfl⟩:=r
  exact call_range_1 (RQ I1 (by omega) (by omega) q1 q2 (by simpa using q))
noncomputable def jA (wi:TI) (g:TG) (tb:TS):TS:=fun D σ H=>wi σ H fun J H1=>∃ W:Nat->Nat->St->Hp->Prop,(∃ m,W 0 m σ H1)/\∀ i m σ H,W i m σ H ->
 (J.stop i H/\D.nx σ H) \/ (J.go i H/\∃ N:St->Hp->Prop,(∀ σ' H',N σ' H'->∃ m',m'<m/\W (i+1) m' σ' H')/\∀ x H',J.yld i H x H'->g x σ H' fun σ2 H2=>tb { D with nx:=N,ct:=N,bk:=D.nx } σ2 H2)
noncomputable def Hl (fp:List Addr) (h:Heap):List (Addr × Obj):=fp.filterMap fun b=>(h.get? b).map fun o=>(b,o)
theorem DP {fp:List Addr} {h:Heap} {b:Addr} {o:Obj} (hb:b∈fp) (e:h.get? b=some o):(b,o)∈Hl fp h:=List.mem_filterMap.mpr ⟨b,hb,by rw [e]; rfl⟩
theorem Qh {fp:List Addr} {h:Heap} {p:Addr × Obj} (hp:p∈Hl fp h):p.1∈fp/\h.get? p.1=some p.2:=by
 obtain ⟨b,hb,e⟩:=List.mem_filterMap.mp hp
 cases q:h.get? b with
 | none=>rw [q] at e; cases e
 | some o =>
  rw [q] at e
  have e':(b,o)=p:=Option.some.inj e
  subst e'
  exact ⟨hb,q⟩
theorem Inv.pinned {pins:List (Addr × Obj)} {σ:St} {H:Hp} {s:Shared} {fp:List Addr} (I:Inv X pins σ H s) (hf:∀ b∈fp,Ep X pins H b) (ho:∀ b∈fp,∃ o,s.heap.get? b=some o/\∀ v,o.data ≠ .cell v):Inv X (pins++Hl fp s.heap) σ H s :=
 I.PX fun p hp=>(List.mem_append.mp hp).elim (fun z=>I.pin p (List.mem_append_right _ z)) fun z=>by
  obtain ⟨hb,e⟩:=Qh z
  obtain ⟨f0,f1,f2,_⟩:=hf p.1 hb
  obtain ⟨o,e',d⟩:=ho p.1 hb
  rw [e] at e'; cases e'
  exact ⟨e,f0,f1,f2,d⟩
theorem Inv.Fw {pins pl:List (Addr × Obj)} {σ:St} {H:Hp} {s:Shared} (I:Inv X (pins++pl) σ H s):Inv X pins σ H s:=I.PX fun p hp=>I.pin p (List.mem_append_right _ (List.mem_append_left _ hp))
theorem Cp {iter:Expr} {body:List Stmt} {wi:TI} {g:TG} {tb:TS} {pos:Pos} (hp:PassesOwn (model X.prog X.w) X.A X.env X.xe) (hc:X.calm=true) (hi:PI X tg iter wi) (hg:PG X tg g) (hb:N7 X body tb)
  (hs:∀ x,foldedSetIterable iter X.env x=pure x:=by intro _; rfl):PS X (.For tg iter body [] pos) (jA wi g tb):=by
 intro pins s σ H D I h
 refine wpAny_For (Bv (hi pins s σ H _ I h) fun v s1 h1=>Bv h1 fun itv s2 h2=>?_) hs
 obtain ⟨it,fp,tn,J,H2,e,I2,T,st2,f2,W,⟨m0,w0⟩,turn⟩:=h2
 subst e
 have stat:∀ {H':Hp},(∀ b∈fp,H' b=none)->∀ b∈fp,Ep X pins H' b:=fun hn b hb=>⟨hn b hb,(f2 b hb).2⟩
 refine codeAny_forLoop_any (fun n s'=>∃ i σ' H',Inv X pins σ' H' s'/\tn i s'.heap/\(∀ b∈fp,H' b=none)/\W i n σ' H') ?_ m0 ⟨0,σ,H2,I2,st2,fun b hb=>(f2 b hb).1,w0⟩
 rintro n s3 ⟨i,σ3,H3,I3,st3,fr3,w3⟩
 rcases turn i n σ3 H3 w3 with ⟨stop,qn⟩ | ⟨go,N,hN,step⟩
 ·refine wpAny_passesOwn hp (Bv (T.done X rfl rfl rfl hc i pins s3 σ3 H3 X.xe I3 (stat fr3) st3 stop) fun r s4 ⟨hr,I4⟩=>?_)
  subst hr
  exact wpAny_execs_nil ⟨σ3,H3,I4,qn⟩
 ·refine wpAny_passesOwn hp (Bv (T.item X rfl rfl rfl hc i pins s3 σ3 H3 X.xe I3 (stat fr3) st3 go) fun r s4 ⟨u,hr,h4⟩=>?_)
  subst hr
  refine wpAny_passesOwn hp (Bv h4 fun _ s5 hq0=>?_)
  obtain ⟨x,H5,I5,r5,y5,st5,fr5⟩:=hq0
  have I5':=I5.pinned (stat fr5) (T.obj _ _ st5)
  refine wpAny_passesOwn hp (Bv (hg _ s5 σ3 H5 x u _ I5' r5 (step x H5 y5)) fun _ s6 hq0=>?_)
  obtain ⟨σ6,H6,I6,q6⟩:=hq0
  refine wpAny_passesOwn hp (Bv (hb _ s6 σ6 H6 _ I6 q6) fun f s7 q7=>?_)
  have again:∀ {σ7:St} {H7:Hp},Inv X (pins++Hl fp s5.heap) σ7 H7 s7->N σ7 H7->∃ m,m<n/\∃ i σ' H',Inv X pins σ' H' s7/\tn i s7.heap/\(∀ b∈fp,H' b=none)/\W i m σ' H':=fun {σ7 H7} I7 n7=>by
   obtain ⟨m',hm,w7⟩:=hN σ7 H7 n7
   refine ⟨m',hm,i+1,σ7,H7,I7.Fw,T.keep _ _ _ st5 fun b hb o e=>(I7.pin (b,o) (List.mem_append_right _ (List.mem_append_right _ (DP hb e)))).1,fun b hb=>?_,w7⟩
   obtain ⟨o,e,d⟩:=T.obj _ _ st5 b hb
   exact (I7.pin (b,o) (List.mem_append_right _ (List.mem_append_right _ (DP hb e)))).2.1
  cases f with
  | next=>obtain ⟨σ7,H7,I7,n7⟩:=q7; exact again I7 n7
  | cont=>obtain ⟨σ7,H7,I7,n7⟩:=q7; exact again I7 n7
  | brk=>obtain ⟨σ7,H7,I7,q7⟩:=q7; exact ⟨σ7,H7,I7.Fw,q7⟩
  | ret v=>obtain ⟨x7,σ7,H7,I7,r7,q7⟩:=q7; exact ⟨x7,σ7,H7,I7.Fw,r7,q7⟩
end
theorem Ft {K:PySem.W.Frag} {a:Addr} {xs:List V} {g:TG} {tb:TS} {D:Ends} {σ:St} {H:Hp} (Pv:Nat->St->Hp->Prop) (h0:Pv 0 σ H) (hl:∀ i σ H,i<=xs.length->Pv i σ H->Cg K H a xs)
  (hs:∀ i x σ H,xs[i]? = some x->Pv i σ H->g x σ H fun σ2 H2=>tb { D with nx:=Pv (i+1),ct:=Pv (i+1),bk:=D.nx } σ2 H2) (hd:∀ σ H,Pv xs.length σ H->D.nx σ H) :
  ∃ W:Nat->Nat->St->Hp->Prop,(∃ m,W 0 m σ H)/\∀ i m σ H,W i m σ H ->
   ((WD K a).stop i H/\D.nx σ H) \/ ((WD K a).go i H/\∃ N:St->Hp->Prop,(∀ σ' H',N σ' H'->∃ m',m'<m/\W (i+1) m' σ' H')/\∀ x H',(WD K a).yld i H x H'->g x σ H' fun σ2 H2=>tb { D with nx:=N,ct:=N,bk:=D.nx } σ2 H2):=by
 refine ⟨fun i m σ H=>m=xs.length - i/\i<=xs.length/\Pv i σ H,⟨xs.length,by simp,Nat.zero_le _,h0⟩,?_⟩
 rintro i m σ H ⟨rfl,hi,p⟩
 have q:=hl i σ H hi p
 by_cases hlt:i<xs.length
 ·refine .inr ⟨⟨xs,xs[i],q,by simp [hlt]⟩,Pv (i+1),fun σ' H' p'=>⟨xs.length - (i+1),by omega,rfl,hlt,p'⟩,fun x H' y=>?_⟩
  obtain ⟨e,y⟩:=y
  subst e
  exact hs i x σ _ (y xs q) p
 ·have e:i=xs.length:=by omega
  subst e
  exact .inl ⟨⟨xs,q,Nat.le_refl _⟩,hd σ H p⟩
theorem Dq {lo:Int} {n:Nat} {g:TG} {tb:TS} {D:Ends} {σ:St} {H:Hp} (Pv:Nat->St->Hp->Prop) (h0:Pv 0 σ H)
  (hs:∀ i σ H,i<n->Pv i σ H->g (.int (lo+i)) σ H fun σ2 H2=>tb { D with nx:=Pv (i+1),ct:=Pv (i+1),bk:=D.nx } σ2 H2) (hd:∀ σ H,Pv n σ H->D.nx σ H) :
  ∃ W:Nat->Nat->St->Hp->Prop,(∃ m,W 0 m σ H)/\∀ i m σ H,W i m σ H ->
   ((VM lo n).stop i H/\D.nx σ H) \/ ((VM lo n).go i H/\∃ N:St->Hp->Prop,(∀ σ' H',N σ' H'->∃ m',m'<m/\W (i+1) m' σ' H')/\∀ x H',(VM lo n).yld i H x H'->g x σ H' fun σ2 H2=>tb { D with nx:=N,ct:=N,bk:=D.nx } σ2 H2):=by
 refine ⟨fun i m σ H=>m=n - i/\i<=n/\Pv i σ H,⟨n,by simp,Nat.zero_le _,h0⟩,?_⟩
 rintro i m σ H ⟨rfl,hi,p⟩
 by_cases hlt:i<n
 ·refine .inr ⟨hlt,Pv (i+1),fun σ' H' p'=>⟨n - (i+1),by omega,rfl,hlt,p'⟩,fun x H' y=>?_⟩
  obtain ⟨e,y⟩:=y
  subst e y
  exact hs i σ _ hlt p
 ·have e:i=n:=by omega
  subst e
  exact .inl ⟨Nat.le_refl _,hd σ H p⟩
theorem UJ {c:TT} {tb:TS} {D:Ends} {σ:St} {H:Hp} (Pv:St->Hp->Prop) (μ:St->Hp->Nat) (h0:Pv σ H)
  (hs:∀ σ H,Pv σ H->c σ H fun b H1=>if b=true then tb { D with nx:=fun σ' H'=>Pv σ' H'/\μ σ' H'<μ σ H,ct:=fun σ' H'=>Pv σ' H'/\μ σ' H'<μ σ H,bk:=D.nx } σ H1 else D.nx σ H1)
  (mono:∀ σ H Q Q',(∀ b H1,Q b H1->Q' b H1)->c σ H Q->c σ H Q'):Lf c tb D σ H:=by
 refine ⟨fun m σ H=>m=μ σ H/\Pv σ H,⟨_,rfl,h0⟩,?_⟩
 rintro m σ H ⟨rfl,p⟩
 refine mono σ H _ _ (fun b H1 q=>?_) (hs σ H p)
 cases b with
 | true=>exact ⟨_,fun σ' H' ⟨p',l⟩=>⟨_,l,rfl,p'⟩,q⟩
 | false=>exact q
end L2
namespace L2
open PySem PySem.Spec PyProof.Rows
noncomputable abbrev R2:=V->V->Hp->VK->Prop
noncomputable def Gf (X:Cx) (f:Value->Value->Sem Value) (r:R2):Prop :=
 ∀ (pins:List (Addr × Obj)) (s:Shared) (σ:St) (H:Hp) (x y:V) (v u:Value) (Q:VK),Inv X pins σ H s->RelV x v->RelV y u->r x y H Q ->
  wpAny (model X.prog X.w) X.A (f v u) (EP X pins σ Q) X.xe s
noncomputable def jW (X:Cx) (f:Value->Sem Value) (r:V->Hp->VK->Prop):Prop :=
 ∀ (pins:List (Addr × Obj)) (s:Shared) (σ:St) (H:Hp) (x:V) (v:Value) (Q:VK),Inv X pins σ H s->RelV x v->r x H Q ->
  wpAny (model X.prog X.w) X.A (f v) (EP X pins σ Q) X.xe s
noncomputable def Gd (X:Cx) (f:Value) (r:List V->Hp->VK->Prop):Prop :=
 ∀ (pins:List (Addr × Obj)) (s:Shared) (σ:St) (H:Hp) (xs:List V) (us:List Value) (Q:VK),Inv X pins σ H s->Vals xs us->r xs H Q ->
  wpAny (model X.prog X.w) X.A (call f us) (EP X pins σ Q) X.xe s
noncomputable def iC (X:Cx) (r:V->Hp->(Bool->Hp->Prop)->Prop):Prop :=
 ∀ (pins:List (Addr × Obj)) (s:Shared) (σ:St) (H:Hp) (x:V) (v:Value) (Q:Bool->Hp->Prop),Inv X pins σ H s->RelV x v->r x H Q ->
  wpAny (model X.prog X.w) X.A (truthy v) (TP X pins σ Q) X.xe s
noncomputable def Yu (r:R2) (ta tb:TE):TE:=fun σ H Q=>ta σ H fun x H1=>tb σ H1 fun y H2=>r x y H2 Q
noncomputable def lR (r:V->Hp->VK->Prop) (ta:TE):TE:=fun σ H Q=>ta σ H fun x H1=>r x H1 Q
noncomputable def rI (C:Int->Int->Prop) (g:Int->Int->V):R2:=fun x y H Q=>∃ i j,x=.int i/\y=.int j/\C i j/\Q (g i j) H
noncomputable def S6 (g:Int->Int->V):R2:=fun x y H Q=>∃ i j,x=.int i/\y=.int j/\Q (g i j) H
noncomputable def rU (g:Int->V):V->Hp->VK->Prop:=fun x H Q=>∃ i,x=.int i/\Q (g i) H
section
variable {X:Cx} {a b c:Expr} {ta tb tc:TE} {pos:Pos}
theorem W9 (ha:PE X a ta) (hb:PE X b tb) {pins:List (Addr × Obj)} {s:Shared} {σ:St} {H:Hp} {R:V->V->Hp->Prop} (I:Inv X pins σ H s)
  (h:ta σ H fun x H1=>tb σ H1 fun y H2=>R x y H2) {Q:Value->Shared->Prop} {f:Value->Value->Sem Value}
  (hf:∀ v u s2 x y H2,Inv X pins σ H2 s2->RelV x v->RelV y u->R x y H2->wpAny (model X.prog X.w) X.A (f v u) Q X.xe s2) :
  wpAny (model X.prog X.w) X.A (eval a X.env) (fun v s₁=>wpAny (model X.prog X.w) X.A (eval b X.env) (fun u s₂=>wpAny (model X.prog X.w) X.A (f v u) Q X.xe s₂) X.xe s₁) X.xe s:=by
 refine Bv (ha pins s σ H _ I h) fun v s1 hq0=>?_
 obtain ⟨x,H1,I1,r1,q1⟩:=hq0
 refine Bv (hb pins s1 σ H1 _ I1 q1) fun u s2 hq0=>?_
 obtain ⟨y,H2,I2,r2,q2⟩:=hq0
 exact hf v u s2 x y H2 I2 r1 r2 q2
theorem BK {op:Operator} {r:R2} (ho:Gf X (binaryOp op) r) (ha:PE X a ta) (hb:PE X b tb):PE X (.BinOp a op b pos) (Yu r ta tb):=by
 intro pins s σ H Q I h
 exact wpAny_BinOp (W9 ha hb I h fun v u s2 x y H2 I2 rx ry q=>ho pins s2 σ H2 x y v u Q I2 rx ry q)
theorem Mh {op:UnaryOp} {r:V->Hp->VK->Prop} (ho:jW X (unaryOp op) r) (ha:PE X a ta):PE X (.UnaryOp op a pos) (lR r ta):=by
 intro pins s σ H Q I h
 exact UnaryOp_ (Bv (ha pins s σ H _ I h) fun v s1 ⟨x,H1,I1,r1,q1⟩=>ho pins s1 σ H1 x v Q I1 r1 q1)
theorem Xy {f:Value->Value->Sem Value} {C:Int->Int->Prop} {g:Int->Int->Int}
  (rule:∀ (i j:Int) (t u:Tok) (s:Shared) (Q:Value->Shared->Prop) (E:Value->Shared->Prop),C i j->Q (.int (g i j) s.toks) { s with toks:=s.toks+1 }->wpAny (model X.prog X.w) X.A (f (.int i t) (.int j u)) Q E s) :
  Gf X f (rI C fun i j=>.int (g i j)):=by
 intro pins s σ H x y v u Q I rx ry h
 obtain ⟨i,j,rfl,rfl,hc,q⟩:=h
 obtain ⟨t,rfl⟩:=rx
 obtain ⟨t',rfl⟩:=ry
 exact rule i j t t' s _ _ hc ⟨.int (g i j),H,I.tok _,⟨_,rfl⟩,q⟩
theorem Tu {f:Value->Value->Sem Value} {g:Int->Int->Int}
  (rule:∀ (i j:Int) (t u:Tok) (s:Shared) (Q:Value->Shared->Prop) (E:Value->Shared->Prop),Q (.int (g i j) s.toks) { s with toks:=s.toks+1 }->wpAny (model X.prog X.w) X.A (f (.int i t) (.int j u)) Q E s) :
  Gf X f (S6 fun i j=>.int (g i j)):=by
 intro pins s σ H x y v u Q I rx ry h
 obtain ⟨i,j,rfl,rfl,q⟩:=h
 obtain ⟨t,rfl⟩:=rx
 obtain ⟨t',rfl⟩:=ry
 exact rule i j t t' s _ _ ⟨.int (g i j),H,I.tok _,⟨_,rfl⟩,q⟩
theorem Ve {f:Value->Value->Sem Value} {g:Int->Int->Bool}
  (rule:∀ (i j:Int) (t u:Tok) (s:Shared) (Q:Value->Shared->Prop) (E:Value->Shared->Prop),Q (.bool (g i j)) s->wpAny (model X.prog X.w) X.A (f (.int i t) (.int j u)) Q E s) :
  Gf X f (S6 fun i j=>.bl (g i j)):=by
 intro pins s σ H x y v u Q I rx ry h
 obtain ⟨i,j,rfl,rfl,q⟩:=h
 obtain ⟨t,rfl⟩:=rx
 obtain ⟨t',rfl⟩:=ry
 exact rule i j t t' s _ _ ⟨.bl (g i j),H,I,rfl,q⟩
noncomputable def iw (i j:Int):Prop:=0<j/\j<1073741824
noncomputable def Zc (i j:Int):Prop:=0<=j/\j<=1000000/\i.natAbs<2 ^ 64
noncomputable def XM (i j:Int):Prop:=(-(2 ^ 64)<i/\i<2 ^ 64) \/ (-(2 ^ 64)<j/\j<2 ^ 64)
theorem XM.ok {i j:Int} (h:XM i j):IntMulOk i j:=by
 rcases h with ⟨h1,h2⟩ | ⟨h1,h2⟩
 ·exact .of_left (intBits_le_64 h1 h2)
 ·exact .of_right (intBits_le_64 h1 h2)
theorem two_pow_nn (k:Nat):(0:Int)<=2 ^ k:=by
 rw [two_pow_cast]
 exact Int.natCast_nonneg _
theorem Ca:Gf X (binaryOp .Add) (S6 fun i j=>.int (i+j)):=Tu fun _ _ _ _ _ _ _ q=>add_int q
theorem Ec:Gf X (binaryOp .Sub) (S6 fun i j=>.int (i - j)):=Tu fun _ _ _ _ _ _ _ q=>sub_int q
theorem Dv:Gf X (binaryOp .Mult) (rI XM fun i j=>.int (i * j)):=Xy fun _ _ _ _ _ _ _ hc q=>mul_int q hc.ok
theorem GQ:Gf X (binaryOp .FloorDiv) (rI iw fun i j=>.int (i / j)):=Xy fun i j _ _ _ _ _ hc q=>by
 have h1:(0:Int)<j:=hc.1
 have h2:j<1073741824:=hc.2
 exact floordiv_int (by omega) (by rw [Int.fdiv_eq_ediv_of_nonneg i (by omega)]; exact q) (.inl (PyProof.noPylong_small (by omega)))
theorem Dl:Gf X (binaryOp .Mod) (rI (fun _ j=>0<j) fun i j=>.int (i % j)):=Xy fun i j _ _ _ _ _ hc q=>by
 have h1:(0:Int)<j:=hc
 exact mod_int' (by omega) (by rw [Int.fmod_eq_emod_of_nonneg i (by omega)]; exact q)
theorem XS:Gf X (binaryOp .Pow) (rI Zc fun i j=>.int (i ^ j.toNat)):=Xy fun _ _ _ _ _ _ _ hc q=>pow_int_small hc.1 hc.2.1 hc.2.2 q
theorem J0:Gf X (binaryOp .LShift) (rI Zc fun i j=>.int (i * 2 ^ j.toNat)):=Xy fun _ _ _ _ _ _ _ hc q=>lshift_int_small hc.1 hc.2.1 hc.2.2 q
theorem Oo:Gf X (binaryOp .RShift) (rI (fun _ j=>0<=j) fun i j=>.int (i / 2 ^ j.toNat)):=Xy fun i j _ _ _ _ _ hc q =>
 rshift_int hc (by rw [Int.fdiv_eq_ediv_of_nonneg i (two_pow_nn _)]; exact q)
theorem J2:Gf X (binaryOp .BitAnd) (S6 fun i j=>.int (Builtin.bitAnd i j)):=Tu fun _ _ _ _ _ _ _ q=>and_int q
theorem Kl:Gf X (binaryOp .BitOr) (S6 fun i j=>.int (Builtin.bitOr i j)):=Tu fun _ _ _ _ _ _ _ q=>or_int q
theorem Xn:Gf X (binaryOp .BitXor) (S6 fun i j=>.int (Builtin.bitXor i j)):=Tu fun _ _ _ _ _ _ _ q=>xor_int q
theorem lF {f:Value->Sem Value} {g:Int->Int}
  (rule:∀ (i:Int) (t:Tok) (s:Shared) (Q:Value->Shared->Prop) (E:Value->Shared->Prop),Q (.int (g i) s.toks) { s with toks:=s.toks+1 }->wpAny (model X.prog X.w) X.A (f (.int i t)) Q E s) :
  jW X f (rU fun i=>.int (g i)):=by
 intro pins s σ H x v Q I rx h
 obtain ⟨i,rfl,q⟩:=h
 obtain ⟨t,rfl⟩:=rx
 exact rule i t s _ _ ⟨.int (g i),H,I.tok _,⟨_,rfl⟩,q⟩
theorem Jy:jW X (unaryOp .USub) (rU fun i=>.int (-i)):=lF fun _ _ _ _ _ q=>neg_int q
end
noncomputable def d8:V->V->Bool
 | .non,.non=>true | .non,.int _=>true | .int _,.non=>true | .non,.bl _=>true | .bl _,.non=>true | .non,.str _=>true | .str _,.non=>true
 | .int _,.int _=>true | .bl _,.bl _=>true | .str _,.str _=>true | .byt _,.byt _=>true
 | .int _,.str _=>true | .str _,.int _=>true | .bl _,.str _=>true | .str _,.bl _=>true
 | _,_=>false
noncomputable def lK:R2:=fun x y H Q=>d8 x y=true/\Q (.bl (decide (x=y))) H
noncomputable def lM:R2:=fun x y H Q=>d8 x y=true/\Q (.bl (!decide (x=y))) H
theorem PN {i j:Int}:decide (V.int i=V.int j)=(i == j):=by
 rw [Bool.eq_iff_iff]
 simp
theorem T8 {i j:Bool}:decide (V.bl i=V.bl j)=(i == j):=by
 rw [Bool.eq_iff_iff]
 simp
theorem G6 {i j:Str}:decide (V.str i=V.str j)=(i == j):=by
 rw [Bool.eq_iff_iff]
 simp
theorem O_ {i j:Array UInt8}:decide (V.byt i=V.byt j)=(i.toList == j.toList):=by
 rw [Bool.eq_iff_iff]
 cases i
 cases j
 simp
section
variable {X:Cx} {a b c:Expr} {ta tb tc:TE} {pos:Pos}
theorem Bo {pins:List (Addr × Obj)} {σ:St} {H:Hp} {s:Shared} {Q:VK} {k k':Bool} (I:Inv X pins σ H s) (q:Q (.bl k) H) (e:k=k'):EP X pins σ Q (.bool k') s:=by
 subst e
 exact ⟨.bl k,H,I,rfl,q⟩
theorem Dj:Gf X (compareOp .Eq) lK:=by
 intro pins s σ H x y v u Q I rx ry h
 obtain ⟨hs,q⟩:=h
 cases x with
 | non =>
  cases rx
  cases y with
  | non=>cases ry; exact PySem.EqNone.eq_none_none (Bo I q (by simp))
  | bl j=>cases ry; exact PySem.EqNone.eq_none_bool (Bo I q (by simp))
  | int j=>obtain ⟨t',rfl⟩:=ry; exact PySem.EqNone.eq_none_int (Bo I q (by simp))
  | str j=>obtain ⟨t',rfl⟩:=ry; exact PySem.EqNone.eq_none_str (Bo I q (by simp))
  | _=>exact absurd (show false=true from hs) Bool.false_ne_true
 | bl i =>
  cases rx
  cases y with
  | non=>cases ry; exact PySem.EqNone.eq_bool_none (Bo I q (by simp))
  | bl j=>cases ry; exact eq_bool (Bo I q T8)
  | str j=>obtain ⟨t',rfl⟩:=ry; exact PySem.EqMixed.eq_bool_str (Bo I q (by simp))
  | _=>exact absurd (show false=true from hs) Bool.false_ne_true
 | int i =>
  obtain ⟨t,rfl⟩:=rx
  cases y with
  | non=>cases ry; exact PySem.EqNone.eq_int_none (Bo I q (by simp))
  | int j=>obtain ⟨t',rfl⟩:=ry; exact eq_int (Bo I q PN)
  | str j=>obtain ⟨t',rfl⟩:=ry; exact PySem.EqMixed.eq_int_str (Bo I q (by simp))
  | _=>exact absurd (show false=true from hs) Bool.false_ne_true
 | str i =>
  obtain ⟨t,rfl⟩:=rx
  cases y with
  | non=>cases ry; exact PySem.EqNone.eq_str_none (Bo I q (by simp))
  | bl j=>cases ry; exact PySem.EqMixed.eq_str_bool (Bo I q (by simp))
  | int j=>obtain ⟨t',rfl⟩:=ry; exact PySem.EqMixed.eq_str_int (Bo I q (by simp))
  | str j=>obtain ⟨t',rfl⟩:=ry; exact eq_str (Bo I q G6)
  | _=>exact absurd (show false=true from hs) Bool.false_ne_true
 | byt i =>
  obtain ⟨t,rfl⟩:=rx
  cases y with
  | byt j=>obtain ⟨t',rfl⟩:=ry; exact PySem.W.eq_bytes (Bo I q O_)
  | _=>exact absurd (show false=true from hs) Bool.false_ne_true
 | _=>cases y <;> exact absurd (show false=true from hs) Bool.false_ne_true
theorem MN:Gf X (compareOp .NotEq) lM:=by
 intro pins s σ H x y v u Q I rx ry h
 obtain ⟨hs,q⟩:=h
 cases x with
 | non =>
  cases rx
  cases y with
  | non=>cases ry; exact PySem.EqNone.ne_none_none (Bo I q (by simp))
  | bl j=>cases ry; exact PySem.EqNone.ne_none_bool (Bo I q (by simp))
  | int j=>obtain ⟨t',rfl⟩:=ry; exact PySem.EqNone.ne_none_int (Bo I q (by simp))
  | str j=>obtain ⟨t',rfl⟩:=ry; exact PySem.EqNone.ne_none_str (Bo I q (by simp))
  | _=>exact absurd (show false=true from hs) Bool.false_ne_true
 | bl i =>
  cases rx
  cases y with
  | non=>cases ry; exact PySem.EqNone.ne_bool_none (Bo I q (by simp))
  | bl j=>cases ry; exact ne_bool (Bo I q (congrArg not T8))
  | str j=>obtain ⟨t',rfl⟩:=ry; exact PySem.EqMixed.ne_bool_str (Bo I q (by simp))
  | _=>exact absurd (show false=true from hs) Bool.false_ne_true
 | int i =>
  obtain ⟨t,rfl⟩:=rx
  cases y with
  | non=>cases ry; exact PySem.EqNone.ne_int_none (Bo I q (by simp))
  | int j=>obtain ⟨t',rfl⟩:=ry; exact ne_int (Bo I q (congrArg not PN))
  | str j=>obtain ⟨t',rfl⟩:=ry; exact PySem.EqMixed.ne_int_str (Bo I q (by simp))
  | _=>exact absurd (show false=true from hs) Bool.false_ne_true
 | str i =>
  obtain ⟨t,rfl⟩:=rx
  cases y with
  | non=>cases ry; exact PySem.EqNone.ne_str_none (Bo I q (by simp))
  | bl j=>cases ry; exact PySem.EqMixed.ne_str_bool (Bo I q (by simp))
  | int j=>obtain ⟨t',rfl⟩:=ry; exact PySem.EqMixed.ne_str_int (Bo I q (by simp))
  | str j=>obtain ⟨t',rfl⟩:=ry; exact ne_str (Bo I q (congrArg not G6))
  | _=>exact absurd (show false=true from hs) Bool.false_ne_true
 | byt i =>
  obtain ⟨t,rfl⟩:=rx
  cases y with
  | byt j=>obtain ⟨t',rfl⟩:=ry; exact PySem.W.ne_bytes (Bo I q (congrArg not O_))
  | _=>exact absurd (show false=true from hs) Bool.false_ne_true
 | _=>cases y <;> exact absurd (show false=true from hs) Bool.false_ne_true
theorem JW:Gf X (compareOp .Lt) (S6 fun i j=>.bl (decide (i<j))):=Ve fun _ _ _ _ _ _ _ q=>lt_int q
theorem Gs:Gf X (compareOp .LtE) (S6 fun i j=>.bl (decide (i<=j))):=Ve fun _ _ _ _ _ _ _ q=>le_int q
theorem fK:Gf X (compareOp .Gt) (S6 fun i j=>.bl (decide (j<i))):=Ve fun _ _ _ _ _ _ _ q=>gt_int q
theorem dZ:Gf X (compareOp .GtE) (S6 fun i j=>.bl (decide (j<=i))):=Ve fun _ _ _ _ _ _ _ q=>ge_int q
theorem Qp:Gf X (compareOp .In) (fun x y H Q=>∃ i j,x=.str i/\y=.str j/\Q (.bl (!(Builtin.Str.occurrences j i 0 j.length 1).isEmpty)) H):=by
 intro pins s σ H x y v u Q I rx ry h
 obtain ⟨i,j,rfl,rfl,q⟩:=h
 obtain ⟨t,rfl⟩:=rx
 obtain ⟨t',rfl⟩:=ry
 exact in_str (Bo I q rfl)
theorem Ul:Gf X (compareOp .IsNot) (fun x y H Q=>y=.non/\Q (.bl (!decide (x=.non))) H):=by
 intro pins s σ H x y v u Q I rx ry h
 obtain ⟨rfl,q⟩:=h
 cases ry
 refine isnot_none_gen (Bo I q ?_)
 cases x <;> first
  | (cases rx; rfl)
  | (obtain ⟨t,rfl⟩:=rx; rfl)
theorem Bm (b:Expr) {op:CmpOp} (h:op ≠ .In:=by decide) (h2:op ≠ .NotIn:=by decide):behindInMarks op b=false:=by
 have e1:(op == CmpOp.In)=false:=by cases op <;> first | rfl | exact absurd rfl h
 have e2:(op == CmpOp.NotIn)=false:=by cases op <;> first | rfl | exact absurd rfl h2
 cases b <;> simp [behindInMarks,e1,e2]
theorem El {op:CmpOp} {r:R2} (ho:Gf X (compareOp op) r) (ha:PE X a ta) (hb:PE X b tb) (hm:behindInMarks op b=false):PE X (.Compare a [op] [b] pos) (Yu r ta tb):=by
 intro pins s σ H Q I h
 exact wpAny_Compare1 (W9 ha hb I h fun v u s2 x y H2 I2 rx ry q=>ho pins s2 σ H2 x y v u Q I2 rx ry q) hm
noncomputable def V2 (t:TE):TT:=fun σ H Q=>t σ H fun x H'=>∃ k,x=.bl k/\Q k H'
theorem Bc {op:CmpOp} {r:R2} (ho:Gf X (compareOp op) r) (ha:PE X a ta) (hb:PE X b tb) (hm:behindInMarks op b=false):PT X (.Compare a [op] [b] pos) (V2 (Yu r ta tb)):=by
 intro pins s σ H Q I h
 refine wpAny_isTrue_Compare1 (Bv (ha pins s σ H _ I h) fun v s1 ⟨x,H1,I1,r1,q1⟩=>Bv (hb pins s1 σ H1 _ I1 q1) fun u s2 ⟨y,H2,I2,r2,q2⟩ =>
  Bv (ho pins s2 σ H2 x y v u _ I2 r1 r2 q2) fun c s3 ⟨z,H3,I3,r3,k,e,q3⟩=>?_) hm
 subst e
 cases r3
 exact wpAny_truthy_bool ⟨H3,I3,q3⟩
noncomputable def Tz (r r':R2) (ta tb tc:TE):TE:=fun σ H Q=>ta σ H fun x H1=>tb σ H1 fun y H2=>r x y H2 fun z H3=>∃ k,z=.bl k /\
 (if k=true then tc σ H3 fun w' H4=>r' y w' H4 Q else Q (.bl false) H3)
theorem Ie {op op':CmpOp} {r r':R2} (ho:Gf X (compareOp op) r) (ho':Gf X (compareOp op') r') (ha:PE X a ta) (hb:PE X b tb) (hc:PE X c tc)
  (hm:lastMarks [op,op'] [b,c]=false:=by with_unfolding_all rfl):PE X (.Compare a [op,op'] [b,c] pos) (Tz r r' ta tb tc):=by
 intro pins s σ H Q I h
 refine Compare_chain (Bv (ha pins s σ H _ I h) fun v s1 ⟨x,H1,I1,r1,q1⟩=>chain_link (Bv (hb pins s1 σ H1 _ I1 q1) fun u s2 ⟨y,H2,I2,r2,q2⟩ =>
  Bv (ho pins s2 σ H2 x y v u _ I2 r1 r2 q2) fun d s3 ⟨z,H3,I3,r3,k,e,q3⟩=>?_)) hm
 subst e
 cases r3
 refine wpAny_truthy_bool ?_
 cases k with
 | false=>exact ite_ff ⟨.bl false,H3,I3,rfl,q3⟩
 | true=>exact ite_tt (chain_last (Bv (hc pins s3 σ H3 _ I3 q3) fun w' s4 ⟨z',H4,I4,r4,q4⟩=>ho' pins s4 σ H4 y z' u w' Q I4 r2 r4 q4))
theorem Ju {op op':CmpOp} {r r':R2} (ho:Gf X (compareOp op) r) (ho':Gf X (compareOp op') r') (ha:PE X a ta) (hb:PE X b tb) (hc:PE X c tc)
  (hm:lastMarks [op,op'] [b,c]=false:=by with_unfolding_all rfl):PT X (.Compare a [op,op'] [b,c] pos) (V2 (Tz r r' ta tb tc)):=by
 intro pins s σ H Q I h
 refine isTrue_chain (Bv (ha pins s σ H _ I h) fun v s1 ⟨x,H1,I1,r1,q1⟩=>test_link (Bv (hb pins s1 σ H1 _ I1 q1) fun u s2 ⟨y,H2,I2,r2,q2⟩ =>
  Bv (ho pins s2 σ H2 x y v u _ I2 r1 r2 q2) fun d s3 ⟨z,H3,I3,r3,k,e,q3⟩=>?_)) hm
 subst e
 cases r3
 refine wpAny_truthy_bool ?_
 cases k with
 | false =>
  obtain ⟨k',e',q'⟩:=q3
  cases e'
  exact ite_ff ⟨H3,I3,q'⟩
 | true =>
  refine ite_tt (test_last (Bv (hc pins s3 σ H3 _ I3 q3) fun w' s4 ⟨z',H4,I4,r4,q4⟩=>Bv (ho' pins s4 σ H4 y z' u w' _ I4 r2 r4 q4) fun d' s5 hq0=>?_))
  obtain ⟨z2,H5,I5,r5,k2,e2,q5⟩:=hq0
  subst e2
  cases r5
  exact wpAny_truthy_bool ⟨H5,I5,q5⟩
noncomputable def cH (K:PySem.W.Frag) (x:V) (H:Hp) (k:Bool):Prop :=
 match x with
 | .non=>k=false
 | .bl b=>k=b
 | .int i=>k=(i != 0)
 | .str y=>y.length<=sizeLine/\k=((y.length:Int) != 0)
 | .byt y=>y.size<=sizeLine/\k=((y.size:Int) != 0)
 | .ref p=>(∃ xs,Cg K H p xs/\k = !xs.isEmpty) \/ (∃ xs,G_ K H p xs/\k = !xs.isEmpty) \/ ∃ kvs,H p=some (.dK kvs)/\k = !kvs.isEmpty
 | _=>False
theorem Oc {κ:Type} {kvs:List (κ × V)} {vs:List (κ × Value)} (r:KV kvs vs):(!vs.isEmpty) = !kvs.isEmpty:=by
 cases r <;> rfl
theorem J6 {xs:List V} {its:List Value} (r:Vals xs its):(!its.toArray.isEmpty) = !xs.isEmpty:=by
 cases r <;> simp
theorem Hr:(sizeLine:Nat)<2 ^ 63:=by rw [sizeLine_eq]; decide
theorem Wy:iC X (fun x H Q=>∃ k,cH X.K x H k/\Q k H):=by
 intro pins s σ H x v Q I rx h
 obtain ⟨k,e,q⟩:=h
 have hl:=Hr
 have hs:sizeLine=16777216:=sizeLine_eq
 cases x with
 | non =>
  cases rx
  have e':k=false:=e
  subst e'
  exact truthy_none ⟨H,I,q⟩
 | bl b =>
  cases rx
  have e':k=b:=e
  subst e'
  exact wpAny_truthy_bool ⟨H,I,q⟩
 | int i =>
  obtain ⟨t,rfl⟩:=rx
  have e':k=(i != 0):=e
  subst e'
  exact PySem.P.truthy_int ⟨H,I,q⟩
 | str y =>
  obtain ⟨t,rfl⟩:=rx
  obtain ⟨hy,e'⟩:y.length<=sizeLine/\k=((y.length:Int) != 0):=e
  subst e'
  exact PySem.P.truthy_str (by omega) ⟨H,I.tok _,q⟩
 | byt y =>
  obtain ⟨t,rfl⟩:=rx
  obtain ⟨hy,e'⟩:y.size<=sizeLine/\k=((y.size:Int) != 0):=e
  subst e'
  exact PySem.W.truthy_bytes (by omega) ⟨H,I.tok _,q⟩
 | ref p =>
  cases rx
  have e':(∃ xs,Cg X.K H p xs/\k = !xs.isEmpty) \/ (∃ xs,G_ X.K H p xs/\k = !xs.isEmpty) \/ ∃ kvs,H p=some (.dK kvs)/\k = !kvs.isEmpty:=e
  rcases e' with ⟨xs,hx,e'⟩ | ⟨xs,hx,e'⟩ | ⟨kvs,hx,e'⟩
  ·subst e'
   obtain ⟨its,r,pl,hz⟩:=I.list hx
   have hlen:=r.length
   exact wpAny_truthy_list pl.isList (by simp only [List.size_toArray]; omega) ⟨H,I.tok _,by rw [J6 r]; exact q⟩
  ·subst e'
   obtain ⟨its,r,pl,hz⟩:=I.tuple hx
   have hlen:=r.length
   exact truthy_tuple pl (by simp only [List.size_toArray]; omega) ⟨H,I.tok _,by rw [J6 r]; exact q⟩
  ·subst e'
   obtain ⟨hz,hS,vs,r,m⟩:kvs.length<=sizeLine/\(p == sysModules)=false/\∃ vs,KV kvs vs/\s.heap.DictOf (Bu X.prog X.w) p vs:=I.hok p _ hx
   have hlen:kvs.length=vs.length:=Paired.length r
   exact wpAny_truthy_dict hS m (by omega) ⟨H,I.tok _,by rw [Oc r]; exact q⟩
 | _=>exact (show False from e).elim
theorem RM (ha:PE X a ta) (he:∀ whole,isTrue a X.env whole=(do let v ← whole; standAt a.pos; holding [v] (truthy v))) :
  PT X a (fun σ H Q=>ta σ H fun x H'=>∃ k,cH X.K x H' k/\Q k H'):=by
 intro pins s σ H Q I h
 exact isTrue_plain (Bv (ha pins s σ H _ I h) fun v s1 ⟨x,H1,I1,r1,q1⟩=>Wy pins s1 σ H1 x v Q I1 r1 q1) (he _)
theorem Hm:Gf X (binaryOp .Add) (fun x y H Q=>∃ i j,x=.str i/\y=.str j/\i.length+j.length<=sizeLine/\Q (.str (i++j)) H):=by
 intro pins s σ H x y v u Q I rx ry h
 obtain ⟨i,j,rfl,rfl,hz,q⟩:=h
 obtain ⟨t,rfl⟩:=rx
 obtain ⟨t',rfl⟩:=ry
 exact add_str (fun t' tk=>⟨.str (i++j),H,I.tok _,⟨_,rfl⟩,q⟩) hz
theorem vals1 {x:V} {us:List Value} (r:Vals [x] us):∃ u,us=[u]/\RelV x u:=by
 cases r with
 | cons r1 r2=>cases r2; exact ⟨_,rfl,r1⟩
theorem vals2 {x y:V} {us:List Value} (r:Vals [x,y] us):∃ u w',us=[u,w']/\RelV x u/\RelV y w':=by
 cases r with
 | cons r1 r2 =>
  cases r2 with
  | cons r3 r4=>cases r4; exact ⟨_,_,rfl,r1,r3⟩
theorem Sh:Gd X (.builtin "abs") (fun xs H Q=>∃ i,xs=[.int i]/\Q (.int (if i<0 then -i else i)) H):=by
 intro pins s σ H xs us Q I r h
 obtain ⟨i,rfl,q⟩:=h
 obtain ⟨u,rfl,t,rfl⟩:=vals1 r
 exact call_abs_int fun u tk=>⟨.int (if i<0 then -i else i),H,I.tok _,⟨_,rfl⟩,q⟩
theorem QD (hc:X.calm=true):Gd X (.builtin "max") (fun xs H Q=>∃ i j,xs=[.int i,.int j]/\Q (.int (if j > i then j else i)) H):=by
 intro pins s σ H xs us Q I r h
 obtain ⟨i,j,rfl,q⟩:=h
 obtain ⟨u,w',rfl,⟨t,rfl⟩,⟨t',rfl⟩⟩:=vals2 r
 refine max_two_ints (I.ok.hd hc) fun h' tk k=>⟨_,H,I.kept k,?_,q⟩
 by_cases hj:j > i
 ·rw [if_pos hj,if_pos hj]; exact ⟨_,rfl⟩
 ·rw [if_neg hj,if_neg hj]; exact ⟨_,rfl⟩
theorem Q9:Gd X (.type "int") (fun xs H Q=>(∃ i,xs=[.int i]/\Q (.int i) H) \/ ∃ k,xs=[.bl k]/\Q (.int (if k then 1 else 0)) H):=by
 intro pins s σ H xs us Q I r h
 rcases h with ⟨i,rfl,q⟩ | ⟨k,rfl,q⟩
 ·obtain ⟨u,rfl,t,rfl⟩:=vals1 r
  exact call_int_int ⟨.int i,H,I,⟨_,rfl⟩,q⟩
 ·obtain ⟨u,rfl,r1⟩:=vals1 r
  cases r1
  exact call_int_bool ⟨.int (if k then 1 else 0),H,I.tok _,⟨_,rfl⟩,q⟩
end
end L2
namespace L2
open PySem PySem.Spec PyProof.Rows
structure Nq (h:Heap) (x dx C:Addr) (mA:Str->Option Value):Prop where
 obj:h.get? x=some (PySem.W.instObj C dx)
 ns:h.Ns1 dx mA
 ne:dx ≠ x
theorem Q_ {h:Heap} {dx:Addr} {mA:Str->Option Value} (n:h.Ns1 dx mA):∃ od,h.get? dx=some od/\∀ name,PySem.W.lookIn name od=some (mA name):=by
 obtain ⟨o,es,ep,ho,hd,hk,_,hm⟩:=n
 refine ⟨o,ho,fun name=>?_⟩
 have e:=hm name
 unfold nsFind findBy at e
 rw [← Array.find?_toList] at e
 unfold PySem.W.lookIn
 rw [hd]
 dsimp only
 split
 ·rename_i y q
  rw [q] at e
  exact congrArg some e
 ·rename_i q
  rw [q] at e
  have a:es.toList.any (·.refKey)=false:=by
   rw [List.any_eq_false]
   intro y hy
   obtain ⟨z,t,hkey⟩:=hk y (Array.mem_toList_iff.mp hy)
   simp [DictEntry.refKey,hkey]
  have a':¬ es.toList.any (·.refKey)=true:=by rw [a]; exact Bool.false_ne_true
  rw [if_neg a']
  exact congrArg some e
theorem Nq.look {h:Heap} {x dx C:Addr} {mA:Str->Option Value} (I:Nq h x dx C mA):∃ od,PySem.W.InstAt h x (PySem.W.instObj C dx) C (some od)/\∀ name,PySem.W.lookIn name od=some (mA name) :=
 let ⟨od,ho,hl⟩:=Q_ I.ns
 ⟨od,⟨I.obj,rfl,rfl,ho⟩,hl⟩
section
variable {prog:Program} {w:World} {A:Around} {E:Value->Shared->Prop} {s:Shared} {K:PySem.W.Frag} {x dx C f:Addr} {mA:Str->Option Value} {name:Str} {v:Value}
theorem U3 {expr:Bool} {Q:Value->Shared->Prop} (X:K.In s.heap) (I:Nq s.heap x dx C mA) (hg:PySem.W.plainGet K C name=true) (hh:PySem.W.hasDictIn K C=true)
  (ha:PySem.W.findIn K (.ref C) name=some none) (hv:mA name=some v) (hv':PySem.W.handedIn v=true) (h:Q v { s with toks:=s.toks+1 }) :
  wpAny (model prog w) A (getAttr (.ref x) name expr) Q E s:=by
 obtain ⟨od,J,hl⟩:=I.look
 exact PySem.W.get_value X J (PySem.W.plainGet_of hg).1 (PySem.W.findObj_own hh ha rfl (by rw [hl,hv])) hv' h
theorem UL {pl:Sem Bool} {Q:Value × List Value->Shared->Prop} (X:K.In s.heap) (I:Nq s.heap x dx C mA) (hg:PySem.W.plainGet K C name=true)
  (hf:PySem.W.findIn K (.ref C) name=some (some (.ref f))) (ht:PySem.W.isFn K (.ref f)=true) (hv:mA name=none) (h:Q (.ref f,[.ref x]) s) :
  wpAny (model prog w) A (getMethod (.ref x) name pl) Q E s:=by
 obtain ⟨od,J,hl⟩:=I.look
 exact PySem.W.method_fn X J (PySem.W.plainGet_of hg).1 (PySem.W.plainGet_of hg).2 hf (beq_iff_eq.mp ht) (by show (PySem.W.lookIn name od).map (·.isSome)=some false; rw [hl,hv]; rfl) h
theorem U9 {ns:List Str} {Q:Unit->Shared->Prop} (X:K.In s.heap) (I:Nq s.heap x dx C mA)
  (hs:PySem.W.findIn K (.ref C) "__setattr__" = some (some (.builtin "object.__setattr__"))) (hp:PySem.W.plainOver K C=true) (ht:PySem.W.takerIn K C name=some none) (hh:PySem.W.hasDictIn K C=true)
  (hw:PySem.Within mA ns) (hsz:ns.length<=sizeLine)
  (h:∀ h',Nq h' x dx C (fun y=>if y=name then some v else mA y)->Heap.SameBut dx s.heap h'->Q () { s with heap:=h',toks:=s.toks+2 }) :
  wpAny (model prog w) A (setAttr (.ref x) name v) Q E s:=by
 obtain ⟨od,J,hl⟩:=I.look
 refine PySem.W.set_plain X J hs (PySem.W.osa_open (s:={ s with toks:=s.toks+1 }) (r:=none) X J hp ht fun b=>?_)
 obtain ⟨cd,hc,hd'⟩:=PySem.W.any_some hh
 have hx:s.heap.get? x=some ⟨.ref C,some dx,.plain,#[]⟩:=I.obj
 refine wpAny_bind (wpAny_pure (wpAny_bind (wpAny_bind (wpAny_loadPart hx (wpAny_bind (PySem.W.Looks.here (s:={ s with toks:=s.toks+1 }) (PySem.W.looks_clsIn X hc) ?_))))))
 rw [hd']
 refine wpAny_pure (a:=some dx) (wpAny_bind (wpAny_pure (wpAny_bind ?_)))
 refine wpAny_nsSet1 (s:={ s with toks:=s.toks+1 }) I.ns fun h' hn2 hs2=>?_
 obtain ⟨oD,esD,epD,hoD,hdD,hcD⟩:=hn2.count (PySem.Within.cons name v hw)
 refine wpAny_bind (wpAny_lookBehind hoD (by rw [hdD]; exact pastItsLine_dict (Nat.le_trans hcD (by rw [List.length_cons]; omega))) ?_)
 exact wpAny_pure (h _ ⟨(hs2.2 _ (Ne.symm I.ne)).trans I.obj,hn2,I.ne⟩ hs2)
theorem RZ {R:Result->Shared->Prop} {vs:List Value} {kw:List (Str × Value)} (X:K.In s.heap) (hm:PySem.W.makesIn K C=true)
  (hi:PySem.W.findIn K (.ref C) "__init__" = some (some (.ref f))) (hf:PySem.W.typeIn K (.ref f)=some (.type "function"))
  (h:codeAny (model prog w) (A.under (.builtin "type.__call__" ⟨.ref C::vs,kw⟩)) (.call (.ref f) ⟨.ref (s.heap.objs.size+1)::vs,kw⟩) (PySem.W.InitBack (s.heap.objs.size+1) R)
   { s with heap:=(s.heap.push PySem.W.emptyDict).push (PySem.W.instObj C s.heap.objs.size) }) :
  codeAny (model prog w) A (.call (.ref C) ⟨vs,kw⟩) R s:=by
 obtain ⟨hh,g,d,t,os⟩:=s
 exact PySem.W.make_core (PySem.W.makes_of X hm) (PySem.W.looks_findIn X hi) (fun self=>PySem.W.bind_fn X self hf) (.inl rfl) h
end
noncomputable def Be (f:Str) (v:V):List (Str × V)->List (Str × V)
 | []=>[(f,v)]
 | (g,x)::r=>if g=f then (g,v)::r else (g,x)::Be f v r
theorem Ao (f g:Str) (v:V):∀ fs:List (Str × V),(Be f v fs).lookup g=if g=f then some v else fs.lookup g
 | []=>by
  show List.lookup g [(f,v)]=_
  by_cases h:g=f
  ·have hb:(g == f)=true:=beq_iff_eq.mpr h
   simp only [List.lookup,hb,if_pos h]
  ·have hb:(g == f)=false:=beq_eq_false_iff_ne.mpr h
   simp only [List.lookup,hb,if_neg h]
 | (k,x)::r=>by
  have ih:=Ao f g v r
  rw [show Be f v ((k,x)::r)=(if k=f then (k,v)::r else (k,x)::Be f v r) from rfl]
  by_cases hk:k=f
  ·rw [if_pos hk]
   by_cases h:g=k
   ·have hb:(g == k)=true:=beq_iff_eq.mpr h
    simp only [List.lookup,hb,if_pos (h.trans hk)]
   ·have hb:(g == k)=false:=beq_eq_false_iff_ne.mpr h
    simp only [List.lookup,hb,if_neg (fun e:g=f=>h (e.trans hk.symm))]
  ·rw [if_neg hk]
   by_cases h:g=k
   ·have hb:(g == k)=true:=beq_iff_eq.mpr h
    simp only [List.lookup,hb,if_neg (fun e:g=f=>hk (h.symm.trans e))]
   ·have hb:(g == k)=false:=beq_eq_false_iff_ne.mpr h
    simp only [List.lookup,hb]
    exact ih
theorem JD (f:Str) (v:V):∀ fs:List (Str × V),f∈(Be f v fs).map (·.1)/\∀ g,g∈fs.map (·.1)->g∈(Be f v fs).map (·.1)
 | []=>⟨by simp [Be],fun g h=>by simp at h⟩
 | (k,x)::r=>by
  obtain ⟨i1,i2⟩:=JD f v r
  rw [show Be f v ((k,x)::r)=(if k=f then (k,v)::r else (k,x)::Be f v r) from rfl]
  by_cases hk:k=f
  ·rw [if_pos hk]
   subst hk
   exact ⟨by simp,fun g h=>by simpa using h⟩
  ·rw [if_neg hk]
   refine ⟨?_,fun g h=>?_⟩
   ·rw [List.map_cons]
    exact List.mem_cons_of_mem _ i1
   ·rw [List.map_cons] at h ⊢
    rcases List.mem_cons.mp h with e | e
    ·exact List.mem_cons.mpr (.inl e)
    ·exact List.mem_cons_of_mem _ (i2 g e)
theorem JX (f:Str) (v:V):∀ fs:List (Str × V),(Be f v fs).length<=fs.length+1
 | []=>by simp [Be]
 | (k,x)::r=>by
  have ih:=JX f v r
  rw [show Be f v ((k,x)::r)=(if k=f then (k,v)::r else (k,x)::Be f v r) from rfl]
  by_cases hk:k=f
  ·rw [if_pos hk,List.length_cons,List.length_cons]; omega
  ·rw [if_neg hk,List.length_cons,List.length_cons]; omega
theorem GP.some_of {v:V} {o:Option Value} (r:GP (some v) o):∃ u,o=some u/\RelV v u:=by
 cases o with
 | none=>exact (show False from r).elim
 | some u=>exact ⟨u,rfl,r⟩
theorem GP.none_of {o:Option Value} (r:GP none o):o=none:=by
 cases o with
 | none=>rfl
 | some u=>exact (show False from r).elim
theorem Qa {v:V} {u:Value} (r:RelV v u):PySem.W.handedIn u=true:=by
 cases v with
 | non=>cases (show u=Value.none from r); rfl
 | bl b=>cases (show u=Value.bool b from r); rfl
 | int i=>obtain ⟨t,e⟩:=(show ∃ t,u=Value.int i t from r); cases e; rfl
 | str x=>obtain ⟨t,e⟩:=(show ∃ t,u=Value.str x t from r); cases e; rfl
 | byt b=>obtain ⟨t,e⟩:=(show ∃ t,u=Value.bytes b t from r); cases e; rfl
 | flt b=>obtain ⟨t,e⟩:=(show ∃ t,u=Value.float b t from r); cases e; rfl
 | ref a=>cases (show u=Value.ref a from r); rfl
 | ty n=>cases (show u=Value.type n from r); rfl
section
variable {P:Program} {w:World} {H H':Hp} {h h':Heap} {a C dx:Addr} {fs fs':List (Str × V)}
theorem Ji (hok:Hs P w H h) (e:H a=some (.ins C dx fs)):∃ mA,Nq h a dx C mA/\(∀ f,GP (fs.lookup f) (mA f))/\PySem.Within mA (fs.map (·.1))/\fs.length<=1000/\H dx=some (.own a):=by
 obtain ⟨d,z,ne,ob,mA,n,r,q⟩:=(show CG P w H h a (.ins C dx fs) from hok a _ e)
 exact ⟨mA,⟨ob,n,ne⟩,r,q,z,d⟩
end
structure RJ (K:PySem.W.Frag) (C:Addr):Prop where
 pg:PySem.W.plainGet K C Str.empty=true
 hd:PySem.W.hasDictIn K C=true
 po:PySem.W.plainOver K C=true
 sa:PySem.W.findIn K (.ref C) "__setattr__" = some (some (.builtin "object.__setattr__"))
theorem RJ.get {K:PySem.W.Frag} {C:Addr} (c:RJ K C) (f:Str):PySem.W.plainGet K C f=true:=c.pg
noncomputable def Cu (K:PySem.W.Frag) (C:Addr) (f:Str):Prop:=PySem.W.findIn K (.ref C) f=some none
theorem Cu.taker {K:PySem.W.Frag} {C:Addr} {f:Str} (n:Cu K C f):PySem.W.takerIn K C f=some none:=by
 unfold PySem.W.takerIn
 rw [show PySem.W.findIn K (.ref C) f=some none from n]
 rfl
structure Meth (K:PySem.W.Frag) (C:Addr) (m:Str) (f:Addr):Prop where
 at_:PySem.W.findIn K (.ref C) m=some (some (.ref f))
 fn:PySem.W.isFn K (.ref f)=true
 kp:PySem.W.keepIn K (.ref f)=true
section
variable {X:Cx} {pins:List (Addr × Obj)} {σ:St} {H:Hp} {s:Shared} {a C dx:Addr} {fs:List (Str × V)} {f:Str} {v:V} {A:Around} {E:Value->Shared->Prop}
theorem N6 {b:Bool} {Q:Value->Shared->Prop} (I:Inv X pins σ H s) (e:H a=some (.ins C dx fs)) (c:RJ X.K C) (n:Cu X.K C f) (l:fs.lookup f=some v)
  (h:∀ u s',Inv X pins σ H s'->RelV v u->Q u s'):wpAny (model X.prog X.w) A (getAttr (.ref a) f b) Q E s:=by
 obtain ⟨mA,O,r,_,_,_⟩:=Ji I.hok e
 obtain ⟨u,hu,ru⟩:=GP.some_of (v:=v) (o:=mA f) (by rw [← l]; exact r f)
 exact U3 I.Ip O (c.get f) c.hd n hu (Qa ru) (h u _ (I.tok _) ru)
theorem Jt {m:Str} {g:Addr} {pl:Sem Bool} {Q:Value × List Value->Shared->Prop} (I:Inv X pins σ H s) (e:H a=some (.ins C dx fs)) (c:RJ X.K C) (k:Meth X.K C m g) (l:fs.lookup m=none)
  (h:Q (.ref g,[.ref a]) s):wpAny (model X.prog X.w) A (getMethod (.ref a) m pl) Q E s:=by
 obtain ⟨mA,O,r,_,_,_⟩:=Ji I.hok e
 have hn:mA m=none:=GP.none_of (by rw [← l]; exact r m)
 exact UL I.Ip O (c.get m) k.at_ k.fn hn h
theorem Nr {y:V} {u:Value} {Q:Unit->Shared->Prop} (I:Inv X pins σ H s) (e:H a=some (.ins C dx fs)) (c:RJ X.K C) (n:Cu X.K C f) (hl:fs.length<1000) (ry:RelV y u)
  (h:∀ s',Inv X pins σ (upd H a (.ins C dx (Be f y fs))) s'->Q () s'):wpAny (model X.prog X.w) A (setAttr (.ref a) f u) Q E s:=by
 obtain ⟨mA,O,r,wi,_,ho⟩:=Ji I.hok e
 have hz:(fs.map (·.1)).length<=sizeLine:=by rw [List.length_map,sizeLine_eq]; omega
 refine U9 I.Ip O c.sa c.po n.taker c.hd wi hz fun h' O' sb=>h _ ?_
 have hd:∃ o,h'.get? dx=some o:=let ⟨o,_,_,e',_⟩:=O'.ns; ⟨o,e'⟩
 refine I.write (x:=a) (e:=dx) (by rw [e]; exact True.intro) (.inr ho) (fun b q hb z=>(sb.2 b hb).trans z) hd ?_
 refine ⟨by rw [Al O.ne]; exact ho,?_,O.ne,O'.obj,_,O'.ns,fun g=>?_,fun g hg=>?_⟩
 ·have:=JX f y fs; omega
 ·show GP ((Be f y fs).lookup g) (if g=f then some u else mA g)
  rw [Ao]
  by_cases q:g=f
  ·rw [if_pos q,if_pos q]; exact ry
  ·rw [if_neg q,if_neg q]; exact r g
 ·by_cases q:g=f
  ·rw [q]; exact (JD f y fs).1
  ·refine (JD f y fs).2 g (wi g fun z=>hg ?_)
   show (if g=f then some u else mA g)=none
   rw [if_neg q]; exact z
theorem Inv.made (I:Inv X pins σ H s):Inv X pins σ (upd (upd H s.heap.objs.size (.own (s.heap.objs.size+1))) (s.heap.objs.size+1) (.ins C s.heap.objs.size []))
  { s with heap:=(s.heap.push PySem.W.emptyDict).push (PySem.W.instObj C s.heap.objs.size) }:=by
 have e1:(s.heap.push PySem.W.emptyDict).get? s.heap.objs.size=some PySem.W.emptyDict:=Heap.get?_push_size s.heap rfl
 have e2:((s.heap.push PySem.W.emptyDict).push (PySem.W.instObj C s.heap.objs.size)).get? (s.heap.objs.size+1)=some (PySem.W.instObj C s.heap.objs.size):=by
  have:=Heap.get?_push_size (s.heap.push PySem.W.emptyDict) (o:=PySem.W.instObj C s.heap.objs.size) rfl
  rwa [Heap.size_push] at this
 have e3:(s.heap.push PySem.W.emptyDict).Ns s.heap.objs.size (fun _=>none):=⟨PySem.W.emptyDict,#[],_,e1,rfl,(fun e he=>absurd he (by simp)),fun _=>rfl⟩
 have I1:=I.laid (a:=s.heap.objs.size) (o:=.own (s.heap.objs.size+1)) (h':=s.heap.push PySem.W.emptyDict) (t':=s.toks) (fun b u q=>Heap.get?_push_of_some _ q) (Nat.le_refl _) ⟨_,e1⟩
 refine I1.laid (a:=s.heap.objs.size+1) (o:=.ins C s.heap.objs.size []) (t':=s.toks) (fun b u q=>Heap.get?_push_of_some _ q) (Nat.le_of_eq (Heap.size_push _ _)) ?_
 have ne:s.heap.objs.size ≠ s.heap.objs.size+1:=Nat.ne_of_lt (Nat.lt_succ_self _)
 refine ⟨by rw [Al ne,Af],Nat.zero_le _,ne,e2,fun _=>none,(Heap.Ns1.of_empty e3).at fun o q=>Heap.get?_push_of_some _ q,fun _=>True.intro,fun y hy=>absurd rfl hy⟩
theorem Vj {prog:Program} {w:World} {env:Env} {e:Expr} {f:Str} {pos:Pos} {s:Shared} {Q:Value->Shared->Prop} (hb:attributeBase e f env (eval e env)=eval e env)
  (h:wpAny (model prog w) A (eval e env) (fun o s₁=>wpAny (model prog w) A (getAttr o f true) Q E s₁) E s):wpAny (model prog w) A (eval (.Attribute e f pos) env) Q E s :=
 Attribute_any_ h (by rw [arm_eval_Attribute,hb])
end
noncomputable def iJ (K:PySem.W.Frag) (ta:TE) (f:Str):TE:=fun σ H Q=>ta σ H fun x H1=>∃ a C dx fs v,x=.ref a/\H1 a=some (.ins C dx fs)/\RJ K C/\Cu K C f/\fs.lookup f=some v/\Q v H1
noncomputable def jO (K:PySem.W.Frag) (ta tv:TE) (f:Str):TS:=fun D σ H=>tv σ H fun y H1=>ta σ H1 fun x H2=>∃ a C dx fs,x=.ref a/\H2 a=some (.ins C dx fs)/\RJ K C/\Cu K C f/\fs.length<1000 /\
 D.nx σ (upd H2 a (.ins C dx (Be f y fs)))
section
variable {X:Cx} {o e value:Expr} {f:Str} {pos pos' tpos:Pos} {ta tv:TE}
theorem CZ (he:PE X e ta) (hb:attributeBase e f X.env (eval e X.env)=eval e X.env):PE X (.Attribute e f pos) (iJ X.K ta f):=by
 intro pins s σ H Q I h
 refine Vj hb (Bv (he pins s σ H _ I h) fun u s1 hq0=>?_)
 obtain ⟨x,H1,I1,rx,a,C,dx,fs,v,ex,ea,c,n,l,q⟩:=hq0
 subst ex
 obtain rfl:u=Value.ref a:=rx
 exact N6 I1 ea c n l fun u' s2 I2 ru=>⟨v,H1,I2,ru,q⟩
theorem Ei (ha:PE X o ta) (hv:PE X value tv) (hs:swapsWith value (some (.Attribute o f pos')) pos.line X.env=pure false):PS X (.Assign [.Attribute o f pos'] value pos) (jO X.K ta tv f):=by
 intro pins s σ H D I h
 refine plainObj_wpAny_Assign_Attribute (Bv (hv pins s σ H _ I h) fun u s1 ⟨y,H1,I1,ry,q⟩=>Bv (ha pins s1 σ H1 _ I1 q) fun ov s2 ⟨x,H2,I2,rx,a,C,dx,fs,ex,ea,c,n,l,q2⟩=>?_) hs
 subst ex
 obtain rfl:ov=Value.ref a:=rx
 exact Nr I2 ea c n l ry fun s3 I3=>⟨σ,_,I3,q2⟩
end
section
variable {X:Cx} {pins:List (Addr × Obj)} {σ:St} {H:Hp} {s:Shared} {A:Around} {E:Value->Shared->Prop} {Q:Value->Shared->Prop} {c:Value} {b:Bool}
inductive JK (K:PySem.W.Frag) (H:Hp):V->Value->Prop where
 | non:JK K H .non (.type "NoneType")
 | bl (x:Bool):JK K H (.bl x) (.type "bool")
 | int (i:Int):JK K H (.int i) (.type "int")
 | str (x:Str):JK K H (.str x) (.type "str")
 | flt (x:UInt64):JK K H (.flt x) (.type "float")
 | lst {a:Addr} {xs:List V} (e:H a=some (.lst xs)):JK K H (.ref a) (.type "list")
 | frz {a:Addr} {o:Obj} {xs:List V} (e:H a=some (.frz o (.lst xs))):JK K H (.ref a) (.type "list")
 | tup {a:Addr} {xs:List V} (e:H a=some (.tup xs)):JK K H (.ref a) (.type "tuple")
 | dK {a:Addr} {kvs:List (Key × V)} (e:H a=some (.dK kvs)):JK K H (.ref a) (.type "dict")
 | dT {a:Addr} {kvs:List (List Key × V)} (e:H a=some (.dT kvs)):JK K H (.ref a) (.type "dict")
 | ins {a C dx:Addr} {fs:List (Str × V)} (e:H a=some (.ins C dx fs)) (cl:RJ K C) (ha:PySem.W.findIn K (.ref C) "__class__" = some (some (.builtin "object.__class__")))
   (hn:PySem.W.specialIn K (.builtin "object.__class__") "__get__" = some (some (.builtin "getset_descriptor.__get__"))) (htk:PySem.W.takesIn K (.builtin "object.__class__")=some true)
   (hm:PySem.W.mroIn K C (.type "object")=some true):JK K H (.ref a) (.ref C)
theorem QX {x:V} {u t:Value} (I:Inv X pins σ H s) (rx:RelV x u) (ty:JK X.K H x t) (e:PySem.W.kitOne X.K t c=some b) (h:∀ tk,Q (.bool b) { s with toks:=tk }) :
  wpAny (model X.prog X.w) A (call (.builtin "isinstance") [u,c]) Q E s:=by
 cases ty with
 | non=>cases (show u=Value.none from rx); exact PySem.W.kia_one PySem.W.kitx_none I.Ip True.intro e (fun z=>nomatch z) h
 | bl y=>cases (show u=Value.bool y from rx); exact PySem.W.kia_one PySem.W.kitx_bool I.Ip True.intro e (fun z=>nomatch z) h
 | int i=>obtain ⟨t,q⟩:=(show ∃ t,u=Value.int i t from rx); cases q; exact PySem.W.kia_one PySem.W.kitx_int I.Ip True.intro e (fun z=>nomatch z) h
 | str y=>obtain ⟨t,q⟩:=(show ∃ t,u=Value.str y t from rx); cases q; exact PySem.W.kia_one PySem.W.kitx_str I.Ip True.intro e (fun z=>nomatch z) h
 | flt y=>obtain ⟨t,q⟩:=(show ∃ t,u=Value.float y t from rx); cases q; exact PySem.W.kia_one PySem.W.kitx_float I.Ip True.intro e (fun z=>nomatch z) h
 | @lst a xs ea =>
  cases (show u=Value.ref a from rx)
  obtain ⟨_,_,n,_,h1⟩:=(show CG X.prog X.w H s.heap a (.lst xs) from I.hok a _ ea)
  exact PySem.W.kia_one PySem.W.kitx_list I.Ip ⟨_,h1,rfl⟩ e (fun z=>nomatch z) h
 | @frz a ob xs ea =>
  cases (show u=Value.ref a from rx)
  obtain ⟨_,_,_,n,_,h1⟩:=(show CG X.prog X.w H s.heap a (.frz ob (.lst xs)) from I.hok a _ ea)
  exact PySem.W.kia_one PySem.W.kitx_list I.Ip ⟨_,h1,rfl⟩ e (fun z=>nomatch z) h
 | @tup a xs ea =>
  cases (show u=Value.ref a from rx)
  obtain ⟨_,_,_,p⟩:=(show CG X.prog X.w H s.heap a (.tup xs) from I.hok a _ ea)
  obtain ⟨o,h1,h2,_⟩:=p
  exact PySem.W.kia_one PySem.W.kitx_tuple I.Ip ⟨o,h1,h2⟩ e (fun z=>nomatch z) h
 | @dK a kvs ea =>
  cases (show u=Value.ref a from rx)
  obtain ⟨_,_,vs,_,p⟩:=(show CG X.prog X.w H s.heap a (.dK kvs) from I.hok a _ ea)
  obtain ⟨o,es,ep,h1,h2,_⟩:=p
  exact PySem.W.kia_one PySem.W.kitx_dict I.Ip ⟨o,h1,h2.1⟩ e (fun z=>nomatch z) h
 | @dT a kvs ea =>
  cases (show u=Value.ref a from rx)
  obtain ⟨_,_,xs,_,o,es,ep,h1,h2,_⟩:=(show CG X.prog X.w H s.heap a (.dT kvs) from I.hok a _ ea)
  exact PySem.W.kia_one PySem.W.kitx_dict I.Ip ⟨o,h1,h2.1⟩ e (fun z=>nomatch z) h
 | @ins a C dx fs ea cl ha hn htk hm =>
  cases (show u=Value.ref a from rx)
  obtain ⟨mA,O,_⟩:=Ji I.hok ea
  obtain ⟨od,J,_⟩:=O.look
  exact PySem.W.kia_one (PySem.W.kitx_own (cl.get _) cl.hd ha hn htk hm) I.Ip J e (fun z=>nomatch z) h
end
end L2
namespace L2
open PySem PySem.Spec PyProof.Rows
structure BZ (k:Nat) (A:Around):Prop where
 hd:A.handled=none
 dp:A.depth+3 * k+5<recursionLimit
 un:A.units+16 * k+200<cLine
theorem BZ.mono {j k:Nat} {A:Around} (r:BZ k A) (h:j<=k):BZ j A:=⟨r.hd,by have:=r.dp; omega,by have:=r.un; omega⟩
theorem BZ.deeper {k:Nat} {A:Around} (r:BZ (k+1) A) (env:Env):BZ k (A.deeper env) :=
 ⟨r.hd,by have:=r.dp; show A.depth+1+3 * k+5<_; omega,by have:=r.un; show A.units+3+16 * k+200<_; omega⟩
theorem Om {A:Around} {C:Addr} {us:List Value} {kw:List (Str × Value)}:(A.under (.builtin "type.__call__" ⟨.ref C::us,kw⟩)).depth=A.depth+1:=by
 first | rfl | simp [Around.under,Code.weight,Code.isCreation,Code.isGuard,Code.isCaller,Code.frames,Code.isFrame,guardIds]
theorem Ob {A:Around} {C:Addr} {us:List Value} {kw:List (Str × Value)}:(A.under (.builtin "type.__call__" ⟨.ref C::us,kw⟩)).units=A.units+1:=by
 first | rfl | simp [Around.under,Code.cUnits,Code.frames,Code.isFrame]
theorem BZ.make {k:Nat} {A:Around} (r:BZ (k+1) A) (C:Addr) (us:List Value) (kw:List (Str × Value)):BZ k (A.under (.builtin "type.__call__" ⟨.ref C::us,kw⟩)) :=
 ⟨r.hd,by have:=r.dp; rw [Om]; omega,by have:=r.un; rw [Ob]; omega⟩
theorem BZ.depth {k:Nat} {A:Around} (r:BZ k A):A.depth<recursionLimit:=by have:=r.dp; omega
theorem BZ.units {k:Nat} {A:Around} (r:BZ k A):A.units+64<cLine:=by have:=r.un; omega
noncomputable def cQ:TA:=fun _ H Q=>Q [] H
noncomputable def V6 (ta:TE) (tr:TA):TA:=fun σ H Q=>ta σ H fun x H1=>tr σ H1 fun xs H2=>Q (x::xs) H2
section
variable {X:Cx} {e:Expr} {es:List Expr} {te:TE} {t:TA} {pos:Pos}
theorem Ac:PA X [] cQ:=fun _ _ _ _ H Q I h=>Calls.spliced_nil ⟨[],H,I,.nil,h⟩
theorem Aa (ha:PE X e te) (hr:PA X es t) (hs:starEach (e::es) X.env=(false,eval e X.env)::starEach es X.env:=by rfl):PA X (e::es) (V6 te t):=by
 intro pos pins s σ H Q I h
 rw [hs]
 show wpAny _ _ (spliced ((false,eval e X.env)::backTo pos (starEach es X.env))) _ _ s
 refine Calls.spliced_cons (Bv (ha pins s σ H _ I h) fun u s1 hq0=>?_)
 obtain ⟨x,H1,I1,r1,q1⟩:=hq0
 exact Bv (hr pos pins s1 σ H1 _ I1 q1) fun us s2 ⟨xs,H2,I2,r2,q2⟩=>⟨x::xs,H2,I2,.cons r1 r2,q2⟩
noncomputable def jY (t:TA):TE:=fun σ H Q=>t σ H fun xs H1=>xs.length<=sizeLine/\∀ p,H1 p=none->Q (.ref p) (upd H1 p (.tup xs))
noncomputable def jo (t:TA):TE:=fun σ H Q=>t σ H fun xs H1=>xs.length<=sizeLine/\∀ p,H1 p=none->Q (.ref p) (upd H1 p (.lst xs))
theorem DG {x1} (h:PA X es t):PE X (.Tuple es x1 pos) (jY t):=by
 intro pins s σ H Q I hq
 refine wpAny_Tuple_spliced (Bv (h pos pins s σ H _ I hq) fun us s1 ⟨xs,H1,I1,r,z,q⟩=>⟨by rw [← r.length]; exact z,?_⟩)
 have hf:H1 s1.heap.objs.size=none:=I1.hok.fresh (Nat.le_refl _)
 refine ⟨.ref s1.heap.objs.size,upd H1 s1.heap.objs.size (.tup xs),I1.laid (t':=s1.toks) (fun b u e=>Heap.get?_push_of_some _ e) (Nat.le_refl _) ?_,rfl,q _ hf⟩
 exact ⟨z,us,r,⟨_,Heap.get?_push_size _ rfl,rfl,_,rfl⟩⟩
theorem Dw (h:PA X es t):PE X (.List es pos) (jo t):=by
 intro pins s σ H Q I hq
 refine wpAny_List_spliced (Bv (h pos pins s σ H _ I hq) fun us s1 ⟨xs,H1,I1,r,z,q⟩=>⟨by rw [← r.length]; exact z,?_⟩)
 have hf:H1 s1.heap.objs.size=none:=I1.hok.fresh (Nat.le_refl _)
 refine ⟨.ref s1.heap.objs.size,upd H1 s1.heap.objs.size (.lst xs),I1.laid (t':=s1.toks) (fun b u e=>Heap.get?_push_of_some _ e) (Nat.le_refl _) ?_,rfl,q _ hf⟩
 exact ⟨z,us,0,r,Heap.get?_push_size _ rfl⟩
end
noncomputable abbrev Sp:=List V->Hp->VK->XK->Prop
noncomputable abbrev QF:=List Env->Hp->Shared->XK->Value->Shared->Prop
structure Mg (P:Program) (w:World) (K:PySem.W.Frag) (mg:Str->Option Value) (base:Heap) (A:Around) (outer:List Env) (s:Shared) (H:Hp):Prop where
 frames:A.frames=some outer
 mod:Mod K mg base
 bs:∀ b o,base.get? b=some o->s.heap.get? b=some o/\H b=none
 bsz:base.objs.size<=s.heap.objs.size
 Jb:s.heap.FunFrames base outer
 frf:∀ b∈frs outer,H b=none
 hok:Hs P w H s.heap
 bare:AllBare s.gens
noncomputable def CE (outer:List Env) (P:Program) (w:World) (H:Hp) (s:Shared) (Q:VK) (u:Value) (s':Shared):Prop :=
 ∃ v H',s'.os=s.os/\AllBare s'.gens/\Un (frs outer) [] H H' s.heap s'.heap/\Hs P w H' s'.heap/\RelV v u/\Q v H'
noncomputable def CR (CX:QF) (outer:List Env) (P:Program) (w:World) (H:Hp) (s:Shared) (Q:VK) (E:XK) (r:Result) (s':Shared):Prop :=
 match r with
 | .ok (.ret u)=>CE outer P w H s Q u s'
 | .ok _=>False
 | .error e=>CX outer H s E e s'
structure A_ (P:Program) (w:World) (K:PySem.W.Frag) (mg:Str->Option Value) (base:Heap) (CX:QF) (k:Nat) (f:Addr) (fd:FuncData) (ps:List Str) (sp:Sp):Prop where
 len:∀ vs H Q E,sp vs H Q E->vs.length=ps.length
 run:∀ (A:Around) (outer:List Env) (s:Shared) (H:Hp) (args:Args) (us:List Value) (vs:List V) (Q:VK) (E:XK),BZ k A->Mg P w K mg base A outer s H->BindsTo s fd args (ps.zip us)->Vals vs us->sp vs H Q E ->
  codeAny (model P w) A (.call (.ref f) args) (CR CX outer P w H s Q E) s
theorem Mg.make {P:Program} {w:World} {K:PySem.W.Frag} {mg:Str->Option Value} {base:Heap} {A:Around} {outer:List Env} {s:Shared} {H:Hp} (e:Mg P w K mg base A outer s H) (C:Addr) (us:List Value) (kw:List (Str × Value)) :
  Mg P w K mg base (A.under (.builtin "type.__call__" ⟨.ref C::us,kw⟩)) outer s H:=⟨by first | exact e.frames | (simpa [Around.under,Code.envs,Code.isFrame,pushEnvs] using e.frames),e.mod,e.bs,e.bsz,e.Jb,e.frf,e.hok,e.bare⟩
section
variable {X:Cx} {pins:List (Addr × Obj)} {σ:St} {H:Hp} {s s':Shared}
theorem Inv.env0 (I:Inv X pins σ H s):Mg X.prog X.w X.K X.mg X.base X.A X.stack s H :=
 ⟨I.ok.frames,I.ok.mod,I.bs,Nat.le_trans I.ok.bsz I.sz,I.stack,I.Jd,I.hok,I.bare⟩
theorem Inv.after {Q:VK} {u:Value} (I:Inv X pins σ H s) (h:CE X.stack X.prog X.w H s Q u s'):EP X pins σ Q u s':=by
 obtain ⟨v,H',os,bare,un,hok,r,q⟩:=h
 obtain ⟨hh,g,d,t,os'⟩:=s'
 obtain rfl:os'=s.os:=os
 exact ⟨v,H',I.call (h':=hh) (g':=g) (d':=d) (t':=t) (ch:=[]) un hok bare (fun b z=>absurd z (by simp)),r,q⟩
end
noncomputable def Z9 (sp:Sp) (dvs:List V) (E:XK) (t:TA):TE:=fun σ H Q=>t σ H fun vs H1=>sp (vs++dvs) H1 Q E
noncomputable def WP (C:Addr) (m:Str) (sp:Sp) (dvs:List V) (E:XK) (ta:TE) (t:TA):TE:=fun σ H Q=>ta σ H fun x H1=>∃ a dx fs,x=.ref a/\H1 a=some (.ins C dx fs)/\fs.lookup m=none /\
 t σ H1 fun vs H2=>sp (x::(vs++dvs)) H2 Q E
noncomputable def cU (C:Addr) (sp:Sp) (dvs:List V) (E:XK) (t:TA):TE:=fun σ H Q=>t σ H fun vs H1=>∀ x dx,H1 x=none->H1 dx=none->dx ≠ x ->
 sp (.ref x::(vs++dvs)) (upd (upd H1 dx (.own x)) x (.ins C dx [])) (fun v H2=>v=.non/\Q (.ref x) H2) E
noncomputable def Binds (K:PySem.W.Frag) (fd:FuncData) (ps:List Str) (ds:List Value):Prop :=
 ∀ (s:Shared) (us:List Value),K.In s.heap->(us++ds).length=ps.length->BindsTo s fd ⟨us,[]⟩ (ps.zip (us++ds))
theorem Binds.all {K:PySem.W.Frag} {fd:FuncData} {ps:List Str} (h:∀ us:List Value,us.length=ps.length->bindArgs fd ⟨us,[]⟩=pure (ps.zip us)):Binds K fd ps []:=fun s us _ hl=>by
 rw [List.append_nil] at hl ⊢
 exact .of_eq (h us hl)
noncomputable def HR (CX:QF) (X:Cx) (E:XK):Prop:=∀ (pins:List (Addr × Obj)) (σ:St) (H:Hp) (s:Shared) (e:Value) (s':Shared),Inv X pins σ H s->CX X.stack H s E e s'->X.xe e s'
section
variable {X:Cx} {CX:QF} {k:Nat} {f C:Addr} {fd:FuncData} {ps:List Str} {sp:Sp} {dvs:List V} {ds:List Value} {E:XK} {x m:Str} {p pos apos:Pos} {e o:Expr} {es:List Expr} {ta:TE} {t:TA}
theorem Nm {pins:List (Addr × Obj)} {σ:St} {H:Hp} {s:Shared} {Q:VK} {us:List Value} {vs:List V} (F:A_ X.prog X.w X.K X.mg X.base CX k f fd ps sp) (hr:BZ k X.A) (hb:Binds X.K fd ps ds) (hd:Vals dvs ds) (hx:HR CX X E)
  (I:Inv X pins σ H s) (r:Vals vs us) (h:sp (vs++dvs) H Q E):wpAny (model X.prog X.w) X.A (call (.ref f) us) (EP X pins σ Q) X.xe s:=by
 have r2:Vals (vs++dvs) (us++ds):=r.append hd
 have hl:(us++ds).length=ps.length:=by rw [← r2.length]; exact F.len _ _ _ _ h
 refine wpAny_call (codeAny_mono (F.run X.A X.stack s H ⟨us,[]⟩ (us++ds) (vs++dvs) Q E hr I.env0 (hb s us I.Ip hl) r2 h) fun r s' hq=>?_)
 cases r with
 | error e=>exact hx pins σ H s e s' I hq
 | ok fl =>
  cases fl with
  | ret u=>exact I.after hq
  | next=>exact False.elim hq
  | brk=>exact False.elim hq
  | cont=>exact False.elim hq
theorem Ai (F:A_ X.prog X.w X.K X.mg X.base CX k f fd ps sp) (hr:BZ k X.A) (hg:Gl X x) (hm:X.mg x=some (.ref f)) (hk:PySem.W.keepIn X.K (.ref f)=true) (hb:Binds X.K fd ps ds) (hd:Vals dvs ds) (hx:HR CX X E)
  (ha:PA X (e::es) t) (hdb:(x == ("__debug__" : Str))=false:=by decide) (he:starEach (e::es) X.env=(false,eval e X.env)::starEach es X.env:=by rfl) (hpl:(backTo pos (starEach es X.env)).any (·.1)=false:=by rfl) :
  PE X (.Call (.Name x p) (e::es) [] pos) (Z9 sp dvs E t):=by
 intro pins s σ H Q I h
 refine wpAny_Call_Name_kw (K5 I hg hm ?_ hdb)
 refine PySem.W.callWith_K (h₀:=X.base) I.ok.mod.kin hk (Bv (ha pos pins s σ H _ I h) fun us s1 ⟨vs,H1,I1,r,q⟩=>⟨I1.Ip,?_⟩) he hpl
 exact Nm F hr hb hd hx I1 r q
theorem Cv {pl:Sem Bool} (he:PE X o ta) (c:RJ X.K C) (hm:Meth X.K C m f) (F:A_ X.prog X.w X.K X.mg X.base CX k f fd ps sp) (hr:BZ k X.A) (hb:Binds X.K fd ps ds) (hd:Vals dvs ds) (hx:HR CX X E) (ha:PA X (e::es) t)
  (hst:starEach (e::es) X.env=(false,eval e X.env)::starEach es X.env:=by rfl) (hpl:(backTo pos (starEach es X.env)).any (·.1)=false:=by rfl)
  (ht:eval (.Call (.Attribute o m apos) (e::es) [] pos) X.env=(do
   let ov ← eval o X.env
   standAt apos.atName
   let (f,first) ← holding [ov] (getMethod ov m pl)
   callWith pos f first (backTo pos (starEach (e::es) X.env)) (backToKw pos (keywordEach [] X.env))):=by rfl) :
  PE X (.Call (.Attribute o m apos) (e::es) [] pos) (WP C m sp dvs E ta t):=by
 intro pins s σ H Q I h
 refine PySem.W.methodCall_KW (pl:=pl) (Bv (he pins s σ H _ I h) fun u s1 ⟨x,H1,I1,rx,a,dx,fs,ex,ea,l,q⟩=>?_) ht
 subst ex
 obtain rfl:u=Value.ref a:=rx
 refine Jt I1 ea c hm l ?_
 refine PySem.W.callWith_K (first:=[.ref a]) (h₀:=X.base) I.ok.mod.kin hm.kp (Bv (ha pos pins s1 σ H1 _ I1 q) fun us s2 ⟨vs,H2,I2,r,q2⟩=>⟨I2.Ip,?_⟩) hst hpl
 exact Nm (us:=.ref a::us) (vs:=.ref a::vs) F hr hb hd hx I2 (.cons rfl r) q2
theorem Ew {pl:Sem Bool} (he:PE X o ta) (c:RJ X.K C) (hm:Meth X.K C m f) (F:A_ X.prog X.w X.K X.mg X.base CX k f fd ps sp) (hr:BZ k X.A) (hb:Binds X.K fd ps ds) (hd:Vals dvs ds) (hx:HR CX X E)
  (ht:eval (.Call (.Attribute o m apos) [] [] pos) X.env=(do
   let ov ← eval o X.env
   standAt apos.atName
   let (f,first) ← holding [ov] (getMethod ov m pl)
   callWith pos f first (backTo pos (starEach [] X.env)) (backToKw pos (keywordEach [] X.env))):=by rfl) :
  PE X (.Call (.Attribute o m apos) [] [] pos) (WP C m sp dvs E ta cQ):=by
 intro pins s σ H Q I h
 refine PySem.W.methodCall_KW (pl:=pl) (Bv (he pins s σ H _ I h) fun u s1 ⟨x,H1,I1,rx,a,dx,fs,ex,ea,l,q⟩=>?_) ht
 subst ex
 obtain rfl:u=Value.ref a:=rx
 refine Jt I1 ea c hm l ?_
 exact PySem.W.callWith_K0 (first:=[.ref a]) I1.Ip hm.kp (Nm (us:=[.ref a]) (vs:=[.ref a]) F hr hb hd hx I1 (.cons rfl .nil) q)
structure Mk (K:PySem.W.Frag) (C f:Addr):Prop where
 makes:PySem.W.makesIn K C=true
 init:PySem.W.findIn K (.ref C) "__init__" = some (some (.ref f))
 fn:PySem.W.isFn K (.ref f)=true
 kp:PySem.W.keepIn K (.ref C)=true
theorem R5 {pins:List (Addr × Obj)} {σ:St} {H:Hp} {s:Shared} {Q:VK} {us:List Value} {vs:List V} (M:Mk X.K C f) (F:A_ X.prog X.w X.K X.mg X.base CX k f fd ps sp) (hr:BZ (k+1) X.A) (hb:Binds X.K fd ps ds) (hd:Vals dvs ds)
  (hx:HR CX X E) (I:Inv X pins σ H s) (r:Vals vs us)
  (h:∀ x dx,H x=none->H dx=none->dx ≠ x->sp (.ref x::(vs++dvs)) (upd (upd H dx (.own x)) x (.ins C dx [])) (fun v H2=>v=.non/\Q (.ref x) H2) E) :
  wpAny (model X.prog X.w) X.A (call (.ref C) us) (EP X pins σ Q) X.xe s:=by
 have hq:=h (s.heap.objs.size+1) s.heap.objs.size (I.hok.fresh (Nat.le_succ _)) (I.hok.fresh (Nat.le_refl _)) (Nat.ne_of_lt (Nat.lt_succ_self _))
 have I2:=Inv.made (C:=C) I
 have r2:Vals (V.ref (s.heap.objs.size+1)::(vs++dvs)) (Value.ref (s.heap.objs.size+1)::(us++ds)):=.cons rfl (r.append hd)
 have hl:(Value.ref (s.heap.objs.size+1)::us++ds).length=ps.length:=by
  have e:=r2.length
  rw [F.len _ _ _ _ hq] at e
  exact e.symm
 refine wpAny_call (RZ (f:=f) I.Ip M.makes M.init (beq_iff_eq.mp M.fn) (codeAny_mono (F.run _ X.stack _ _ ⟨Value.ref (s.heap.objs.size+1)::us,[]⟩ (Value.ref (s.heap.objs.size+1)::(us++ds)) _ _ E (hr.make C us [])
  (I2.env0.make C us []) (hb _ (Value.ref (s.heap.objs.size+1)::us) I2.Ip hl) r2 hq) fun r s' hq'=>?_))
 cases r with
 | error e=>exact hx pins σ _ _ e s' I2 hq'
 | ok fl =>
  cases fl with
  | ret u =>
   obtain ⟨v,H',I3,rv,ev,q3⟩:=I2.after hq'
   subst ev
   exact ⟨rv,⟨V.ref (s.heap.objs.size+1),H',I3,rfl,q3⟩⟩
  | next=>exact False.elim hq'
  | brk=>exact False.elim hq'
  | cont=>exact False.elim hq'
theorem PK (M:Mk X.K C f) (F:A_ X.prog X.w X.K X.mg X.base CX k f fd ps sp) (hr:BZ (k+1) X.A) (hg:Gl X x) (hm:X.mg x=some (.ref C)) (hb:Binds X.K fd ps ds) (hd:Vals dvs ds) (hx:HR CX X E)
  (ha:PA X (e::es) t) (hdb:(x == ("__debug__" : Str))=false:=by decide) (he:starEach (e::es) X.env=(false,eval e X.env)::starEach es X.env:=by rfl) (hpl:(backTo pos (starEach es X.env)).any (·.1)=false:=by rfl) :
  PE X (.Call (.Name x p) (e::es) [] pos) (cU C sp dvs E t):=by
 intro pins s σ H Q I h
 refine wpAny_Call_Name_kw (K5 I hg hm ?_ hdb)
 refine PySem.W.callWith_K (h₀:=X.base) I.ok.mod.kin M.kp (Bv (ha pos pins s σ H _ I h) fun us s1 ⟨vs,H1,I1,r,q⟩=>⟨I1.Ip,?_⟩) he hpl
 exact R5 M F hr hb hd hx I1 r q
end
section
variable {X:Cx} {CX:QF} {k:Nat} {f C:Addr} {fd:FuncData} {ps ks:List Str} {sp:Sp} {E:XK} {x m:Str} {p pos apos kpos:Pos} {e o:Expr} {es:List Expr} {kws:List Keyword} {te ta:TE} {t tk:TA} {nm:Option Str}
variable {g:List Value->List Value->List Value} {gV:List V->List V->List V}
end
structure Ay (N P:List Str) (sc:Scope):Prop where
 kind:sc.kind=.function
 co:sc.isCoroutine=false
 gen:sc.isGenerator=false
 nd:N.Nodup
 pre:N.take P.length=P
 par:∀ x∈P,sc.names.lookup x=some .local \/ sc.names.lookup x=some .cell
 nofree:∀ y∈sc.names,y.2 ≠ .free
theorem Kw {kindOf:Str->Option NameKind} {x:Str}:∀ {binds:List (Str × Value)} {m:Str->Option Value},(∀ v,(x,v) ∉ binds)->bindL kindOf binds m x=m x
 | [],_,_=>rfl
 | (n,v)::r,m,h=>by
  unfold bindL
  rw [Kw fun w hw=>h w (List.mem_cons_of_mem _ hw)]
  split
  ·have:x ≠ n:=by rintro rfl; exact h v List.mem_cons_self
   simp [this]
  ·rfl
theorem K3 {kindOf:Str->Option NameKind} {x:Str}:∀ {binds:List (Str × Value)} {m:Str->Option Value},(∀ v,(x,v) ∉ binds)->bindC kindOf binds m x=m x
 | [],_,_=>rfl
 | (n,v)::r,m,h=>by
  unfold bindC
  rw [K3 fun w hw=>h w (List.mem_cons_of_mem _ hw)]
  split
  ·rfl
  ·have:x ≠ n:=by rintro rfl; exact h v List.mem_cons_self
   simp [this]
theorem Ku {kindOf:Str->Option NameKind} {x:Str} {v:Value}:∀ {P:List Str} {vs:List Value} {i:Nat} {m:Str->Option Value},P.Nodup->P[i]? = some x->vs[i]? = some v->kindOf x=some .local ->
  bindL kindOf (P.zip vs) m x=some v
 | [],_,_,_,_,h,_,_=>by simp at h
 | _::_,[],_,_,_,_,h,_=>by simp at h
 | p::P,w::vs,0,m,nd,h1,h2,hk=>by
  simp at h1 h2; subst h1; subst h2
  show bindL kindOf ((p,w)::P.zip vs) m p=_
  unfold bindL
  rw [Kw fun v hv=>(List.nodup_cons.mp nd).1 (List.of_mem_zip hv).1,if_pos hk]
  simp
 | p::P,w::vs,i+1,m,nd,h1,h2,hk=>by
  show bindL kindOf ((p,w)::P.zip vs) m x=_
  unfold bindL
  exact Ku (i:=i) (List.nodup_cons.mp nd).2 (by simpa using h1) (by simpa using h2) hk
theorem Kc {kindOf:Str->Option NameKind} {x:Str} {v:Value}:∀ {P:List Str} {vs:List Value} {i:Nat} {m:Str->Option Value},P.Nodup->P[i]? = some x->vs[i]? = some v->kindOf x ≠ some .local ->
  bindC kindOf (P.zip vs) m x=some v
 | [],_,_,_,_,h,_,_=>by simp at h
 | _::_,[],_,_,_,_,h,_=>by simp at h
 | p::P,w::vs,0,m,nd,h1,h2,hk=>by
  simp at h1 h2; subst h1; subst h2
  show bindC kindOf ((p,w)::P.zip vs) m p=_
  unfold bindC
  rw [K3 fun v hv=>(List.nodup_cons.mp nd).1 (List.of_mem_zip hv).1,if_neg hk]
  simp
 | p::P,w::vs,i+1,m,nd,h1,h2,hk=>by
  show bindC kindOf ((p,w)::P.zip vs) m x=_
  unfold bindC
  exact Kc (i:=i) (List.nodup_cons.mp nd).2 (by simpa using h1) (by simpa using h2) hk
noncomputable def start (N:List Str) (vs:List V):St:=vs.map some++List.replicate (N.length - vs.length) none
noncomputable def Qm (CX:QF) (P:Program) (w:World) (K:PySem.W.Frag) (mg:Str->Option Value) (base:Heap) (N:List Str) (qual:Str) (scope:Scope) (f:Addr) (cd:Value) (A:Around) (outer:List Env) (s:Shared) (H:Hp) (E:XK):Cx where
 prog:=P
 w:=w
 K:=K
 mg:=mg
 base:=base
 A:=A.deeper (envOfC qual scope s.heap.objs.size f cd)
 N:=N
 s₀:=s
 H₀:=H
 env:=envOfC qual scope s.heap.objs.size f cd
 outer:=outer
 stack:=envOfC qual scope s.heap.objs.size f cd::outer
 ex:=[]
 calm:=true
 fn:=fun _=>true
 pn:=[]
 xe:=fun e s'=>wpAny (model P w) (A.deeper (envOfC qual scope s.heap.objs.size f cd)) (leaving (envOfC qual scope s.heap.objs.size f cd) e) (fun _ s''=>CX outer H s E e s'') (fun e' s''=>CX outer H s E e' s'') s'
theorem Lx {sc:Scope} {n:Nat} {x:Str} (h:sc.names.lookup x=some .cell):∃ c,(cellsFrom n sc.names []).lookup x=some c:=by
 have q:=PySem.W.cellsFrom_some sc.names n [] (.inl h)
 exact Option.isSome_iff_exists.mp q
theorem Q7 {CX:QF} {P:Program} {w:World} {K:PySem.W.Frag} {mg:Str->Option Value} {base:Heap} {N ps:List Str} {qual:Str} {scope:Scope} {f:Addr} {cd:Value} {A:Around} {outer:List Env} {s s1:Shared} {H:Hp} {E:XK} {us:List Value} {vs:List V}
  (S:Ay N ps scope) (hd:A.handled=none) (e0:Mg P w K mg base A outer s H) (hl:vs.length=ps.length) (r:Vals vs us)
  (x:InCallC s s.heap.objs.size (bindL (envOfC qual scope s.heap.objs.size f cd).kindOf (ps.zip us) fun _=>none) (cellsFrom (s.heap.objs.size+1) scope.names []) (bindC (envOfC qual scope s.heap.objs.size f cd).kindOf (ps.zip us) fun _=>none) s1) :
  Inv (Qm CX P w K mg base N qual scope f cd A outer s H E) [] (start N vs) H s1:=by
 have hpl:ps.length<=N.length:=by have:=congrArg List.length S.pre; rw [List.length_take] at this; omega
 obtain ⟨h1,tk,rfl,hk⟩:=x.done
 have noA:∀ b:Addr,b ∉ (Qm CX P w K mg base N qual scope f cd A outer s H E).ex:=fun b z=>absurd (show b∈([]:List Addr) from z) (by simp)
 refine ⟨⟨e0.mod,S.kind,rfl,rfl,Nat.le_refl _,fun y z c h1 h2=>?_,fun y hy=>?_,fun y c _ h=>?_,fun _=>hd,Around.frames_deeper e0.frames,.inr ⟨rfl,rfl⟩,fun b z=>absurd z (noA b),e0.bs,e0.bsz,fun b _ _=>noA b,fun b z=>absurd z (noA b),e0.Jb,e0.frf⟩,
  rfl,e0.bare,Un.kept hk,⟨_,x.toInCall.ns,fun i y v h1 h2 h3=>?_⟩,fun y c h=>⟨_,x.cell y c h⟩,e0.hok.fresh (Nat.le_refl _),fun y c h=>?_,fun p hp=>absurd (show p∈([]:List (Addr × Obj)) from hp) (by simp),e0.hok.kept hk,?_⟩
 ·exact name_of_addr x.apart (PySem.mem_of_lookup h1) (PySem.mem_of_lookup h2)
 ·have hy:scope.names.lookup y=some .cell \/ scope.names.lookup y=some .free:=hy
  rcases hy with hy | hy
  ·exact Lx hy
  ·exact absurd rfl (S.nofree _ (PySem.mem_of_lookup hy))
 ·exact Nat.le_of_lt (x.above y c (PySem.mem_of_lookup h))
 ·have hi:i<vs.length:=by
   unfold start at h2
   by_cases hi:i<vs.length
   ·exact hi
   ·rw [List.getElem?_append_right (by simpa using hi)] at h2
    rw [List.getElem?_replicate] at h2
    split at h2 <;> cases h2
  have ha:vs[i]? = some v:=by
   unfold start at h2
   rw [List.getElem?_append_left (by simpa using hi),List.getElem?_map] at h2
   cases e:vs[i]? with
   | none=>rw [e] at h2; cases h2
   | some a=>rw [e] at h2; cases h2; rfl
  obtain ⟨u,hu,rv⟩:=r.get ha
  have hp:ps[i]? = some y:=by
   rw [← S.pre,List.getElem?_take_of_lt (by omega)]; exact h1
  have ndP:ps.Nodup:=by rw [← S.pre]; exact S.nd.sublist (List.take_sublist _ _)
  refine ⟨u,rv,?_⟩
  rcases S.par y (List.mem_of_getElem? hp) with k | k
  ·exact .inl ⟨k,Ku ndP hp hu k⟩
  ·obtain ⟨c,e⟩:=Lx (n:=s.heap.objs.size+1) k
   refine .inr ⟨.inl k,c,e,?_⟩
   have q:=x.cell y c e
   rw [Kc ndP hp hu (by show scope.names.lookup y ≠ _; rw [k]; decide)] at q
   exact q
 ·exact e0.hok.fresh (Nat.le_of_lt (x.above y c (PySem.mem_of_lookup h)))
 ·unfold start
  show _=N.length
  rw [List.length_append,List.length_map,List.length_replicate]
  omega
theorem fM {CX:QF} {P:Program} {w:World} {K:PySem.W.Frag} {mg:Str->Option Value} {base:Heap} {k:Nat} {f:Addr} {name qual:Str} {params:Arguments} {body:List Stmt} {scope:Scope} {dV kV doc pm cdv ct oc:Value} {an od:Option Addr}
  {osl:Array (Option Value)} {N ps:List Str} {sp:Sp} (lk:K.lookup f=some ⟨oc,od,.func (PySem.W.fnOf name qual params body scope dV kV doc pm an cdv ct),osl⟩) (hcd:PySem.W.codeIn K cdv qual=true) (S:Ay N ps scope)
  (len:∀ vs H Q E,sp vs H Q E->vs.length=ps.length)
  (hbody:∀ (A:Around) (outer:List Env) (s:Shared) (H:Hp) (vs:List V) (Q:VK) (E:XK),BZ k (A.deeper (envOfC qual scope s.heap.objs.size f cdv))->sp vs H Q E ->
   ∃ t,N7 (Qm CX P w K mg base N qual scope f cdv A outer s H E) body t/\t { nx:=fun _ H'=>Q .non H',rt:=Q } (start N vs) H) :
  A_ P w K mg base CX (k+1) f (PySem.W.fnOf name qual params body scope dV kV doc pm an cdv ct) ps sp:=by
 refine ⟨len,fun A outer s H args us vs Q E hr e0 hb r hsp=>?_⟩
 have hl:=len _ _ _ _ hsp
 have KX:K.In s.heap:=e0.mod.kin.keeps fun b o e=>(e0.bs b o e).1
 have lim:s.heap.NoLimit:=e0.mod.nolimit.keeps fun b o e=>(e0.bs b o e).1
 have hkind:∀ y∈ps.zip us,scope.names.lookup y.1=some .local \/ (scope.names.lookup y.1=some .cell/\((cellsFrom (s.heap.objs.size+1) scope.names []).lookup y.1).isSome=true):=fun ⟨n,v⟩ hy=>by
  rcases S.par n (List.of_mem_zip hy).1 with q | q
  ·exact .inl q
  ·exact .inr ⟨q,PySem.W.cellsFrom_some _ _ _ (.inl q)⟩
 refine codeAny_call_function hr.depth (KX _ _ lk) rfl S.co S.gen rfl (PySem.W.codeRec_of KX hcd) (hb _ _ _ _ ?_)
 refine wpAny_newFunctionEnv_cells S.kind hkind fun env he s1 x=>?_
 subst he
 refine ⟨lim.keeps x.toInCall.keep,codeAny_func ?_⟩
 obtain ⟨t,ht,hq⟩:=hbody A outer s H vs Q E (hr.deeper _) hsp
 have I:Inv (Qm CX P w K mg base N qual scope f cdv A outer s H E) [] (start N vs) H s1:=Q7 S hr.hd e0 hl r x
 refine wpAny_mono (ht [] s1 (start N vs) H _ I hq) (fun fl s' hs=>?_) fun e s' hs=>hs
 have fin:∀ {σ':St} {H':Hp} {v:V} {u:Value},Inv (Qm CX P w K mg base N qual scope f cdv A outer s H E) [] σ' H' s'->RelV v u->Q v H'->CE outer P w H s Q u s' :=
  fun {σ' H' v u} J rv q=>⟨v,H',J.os,J.bare,J.base,J.hok,rv,q⟩
 cases fl with
 | ret u =>
  obtain ⟨v,σ',H',J,rv,q⟩:=hs
  exact fin J rv q
 | next =>
  obtain ⟨σ',H',J,q⟩:=hs
  exact fin (v:=V.non) (u:=Value.none) J rfl q
 | brk =>
  obtain ⟨_,_,_,q⟩:=hs
  exact False.elim q
 | cont =>
  obtain ⟨_,_,_,q⟩:=hs
  exact False.elim q
end L2
namespace L2
open PySem PySem.Spec PyProof.Rows
section
variable {X:Cx} {x:Str} {p pos:Pos} {e:Expr} {es:List Expr} {t:TA} {id T:String} {r:List V->Hp->VK->Prop}
noncomputable def kj (r:List V->Hp->VK->Prop) (t:TA):TE:=fun σ H Q=>t σ H fun vs H1=>r vs H1 Q
theorem BR (hc:Gd X (.builtin id) r) (hg:Gl X x) (hm:X.mg x=none) (hv:bootBuiltins x=some (.builtin id)) (ha:PA X (e::es) t) (hn:x ≠ "__name__":=by decide) (hdb:(x == ("__debug__" : Str))=false:=by decide)
  (he:starEach (e::es) X.env=(false,eval e X.env)::starEach es X.env:=by rfl) (hpl:(backTo pos (starEach es X.env)).any (·.1)=false:=by rfl):PE X (.Call (.Name x p) (e::es) [] pos) (kj r t):=by
 intro pins s σ H Q I h
 refine wpAny_Call_Name_kw (HS I hg hm hv ?_ hn hdb)
 exact PyProof.Rows.callWith_builtin1 (Bv (ha pos pins s σ H _ I h) fun us s1 ⟨vs,H1,I1,r1,q1⟩=>hc pins s1 σ H1 vs us Q I1 r1 q1) he hpl
theorem Et (hc:Gd X (.type T) r) (hg:Gl X x) (hm:X.mg x=none) (hv:bootBuiltins x=some (.type T)) (ha:PA X (e::es) t) (hn:x ≠ "__name__":=by decide) (hdb:(x == ("__debug__" : Str))=false:=by decide)
  (he:starEach (e::es) X.env=(false,eval e X.env)::starEach es X.env:=by rfl) (hpl:(backTo pos (starEach es X.env)).any (·.1)=false:=by rfl):PE X (.Call (.Name x p) (e::es) [] pos) (kj r t):=by
 intro pins s σ H Q I h
 refine wpAny_Call_Name_kw (HS I hg hm hv ?_ hn hdb)
 exact PyProof.Rows.callWith_type1 (Bv (ha pos pins s σ H _ I h) fun us s1 ⟨vs,H1,I1,r1,q1⟩=>hc pins s1 σ H1 vs us Q I1 r1 q1) he hpl
end
end L2
namespace L2
open PySem PySem.Spec PyProof.Rows
section
variable {κ:Type} [DecidableEq κ]
noncomputable def Cj (kvs:List (κ × V)) (k:κ):Option V:=(kvs.find? fun kv=>decide (kv.1=k)).map (·.2)
noncomputable def putK (kvs:List (κ × V)) (k:κ) (v:V):List (κ × V) :=
 if (kvs.any fun kv=>decide (kv.1=k))=true then kvs.map (fun kv=>if kv.1=k then (kv.1,v) else kv) else kvs++[(k,v)]
noncomputable def k_ (kvs:List (κ × V)) (k:κ):List (κ × V):=kvs.filter fun kv=>decide (kv.1 ≠ k)
theorem DK {p:κ × V} {r:List (κ × V)} {k:κ} (e:p.1=k):Cj (p::r) k=some p.2:=by simp [Cj,List.find?_cons,e]
theorem C_ {p:κ × V} {r:List (κ × V)} {k:κ} (e:¬ p.1=k):Cj (p::r) k=Cj r k:=by simp [Cj,List.find?_cons,e]
theorem Gr (k:κ):∀ kvs:List (κ × V),(kvs.any fun kv=>decide (kv.1=k))=(Cj kvs k).isSome
 | []=>rfl
 | p::r=>by
  rw [List.any_cons]
  by_cases e:p.1=k
  ·simp only [DK e,decide_eq_true e,Bool.true_or,Option.isSome_some]
  ·rw [C_ e,decide_eq_false e,Bool.false_or]; exact Gr k r
theorem Ng (k j:κ) (y:V):∀ kvs:List (κ × V),Cj (kvs.map fun kv=>if kv.1=k then (kv.1,y) else kv) j=(Cj kvs j).map fun x=>if j=k then y else x
 | []=>rfl
 | p::r=>by
  have ih:=Ng k j y r
  rw [List.map_cons]
  by_cases h:p.1=k
  ·rw [if_pos h]
   by_cases e:p.1=j
   ·rw [DK (p:=(p.1,y)) e,DK e,Option.map_some,if_pos (e.symm.trans h)]
   ·rw [C_ (p:=(p.1,y)) e,C_ e,ih]
  ·rw [if_neg h]
   by_cases e:p.1=j
   ·rw [DK (p:=p) e,DK e,Option.map_some,if_neg (fun z=>h (e.trans z))]
   ·rw [C_ (p:=p) e,C_ e,ih]
theorem Kz (k j:κ) (y:V):∀ kvs:List (κ × V),Cj kvs k=none->Cj (kvs++[(k,y)]) j=if j=k then some y else Cj kvs j
 | [],_=>by
  by_cases e:k=j
  ·rw [if_pos e.symm]; exact DK (p:=(k,y)) e
  ·rw [if_neg (fun z=>e z.symm)]; exact C_ (p:=(k,y)) e
 | p::r,hn=>by
  rw [List.cons_append]
  have hk:¬ p.1=k:=fun z=>by rw [DK z] at hn; cases hn
  rw [C_ hk] at hn
  have ih:=Kz k j y r hn
  by_cases e:p.1=j
  ·rw [DK e,DK e,if_neg (fun z=>hk (e.trans z))]
  ·rw [C_ e,C_ e,ih]
theorem Cz (kvs:List (κ × V)) (k j:κ) (y:V):Cj (putK kvs k y) j=if j=k then some y else Cj kvs j:=by
 unfold putK
 by_cases a:(kvs.any fun kv=>decide (kv.1=k))=true
 ·rw [if_pos a,Ng]
  rw [Gr] at a
  by_cases e:j=k
  ·obtain ⟨x,hx⟩:=Option.isSome_iff_exists.mp a
   rw [if_pos e,e,hx,Option.map_some,if_pos rfl]
  ·rw [if_neg e]
   cases Cj kvs j with
   | none=>rfl
   | some x=>rw [Option.map_some,if_neg e]
 ·rw [if_neg a]
  refine Kz k j y kvs ?_
  rw [Gr] at a
  cases q:Cj kvs k with
  | none=>rfl
  | some x=>rw [q] at a; exact (a rfl).elim
theorem Ds (kvs:List (κ × V)) (k:κ) (v:V):(putK kvs k v).length<=kvs.length+1:=by
 unfold putK
 split
 ·rw [List.length_map]; omega
 ·rw [List.length_append,List.length_cons,List.length_nil]; omega
theorem Ml {kvs:List (κ × V)} {k:κ} (v:V) (h:Cj kvs k=none):putK kvs k v=kvs++[(k,v)]:=by
 unfold putK
 rw [Gr,h]
 exact if_neg (by decide)
theorem GP.Qc {o:Option V} {u:Option Value} (r:GP o u):o.isSome=u.isSome:=by
 cases o with
 | none=>cases u with
  | none=>rfl
  | some _=>exact (show False from r).elim
 | some _=>cases u with
  | none=>exact (show False from r).elim
  | some _=>rfl
theorem GP.getD {o:Option V} {u:Option Value} {d:V} {d':Value} (r:GP o u) (rd:RelV d d'):RelV (o.getD d) (u.getD d'):=by
 cases o with
 | none=>cases u with
  | none=>exact rd
  | some _=>exact (show False from r).elim
 | some _=>cases u with
  | none=>exact (show False from r).elim
  | some _=>exact r
theorem KV.val {kvs:List (κ × V)} {vs:List (κ × Value)} (r:KV kvs vs) (k:κ):GP (Cj kvs k) (valueAt vs k):=by
 unfold KV at r
 induction r with
 | nil=>exact True.intro
 | @cons p q ps qs h t ih =>
  obtain ⟨h1,h2⟩:=h
  by_cases e:p.1=k
  ·have e':q.1=k:=h1.symm.trans e
   have b:valueAt (q::qs) k=some q.2:=by simp [valueAt,List.find?_cons,e']
   rw [DK e,b]; exact h2
  ·have e':¬ q.1=k:=fun z=>e (h1.trans z)
   have b:valueAt (q::qs) k=valueAt qs k:=by simp [valueAt,List.find?_cons,e']
   rw [C_ e,b]; exact ih
theorem KV.any {kvs:List (κ × V)} {vs:List (κ × Value)} (r:KV kvs vs) (k:κ):(kvs.any fun kv=>decide (kv.1=k))=vs.any fun kv=>decide (kv.1=k):=by
 unfold KV at r
 induction r with
 | nil=>rfl
 | cons h t ih=>rw [List.any_cons,List.any_cons,ih,h.1]
theorem KV.repl {kvs:List (κ × V)} {vs:List (κ × Value)} (r:KV kvs vs) (k:κ) {y:V} {u:Value} (ry:RelV y u) :
  KV (kvs.map fun kv=>if kv.1=k then (kv.1,y) else kv) (vs.map fun kv=>if kv.1=k then (kv.1,u) else kv):=by
 unfold KV at r ⊢
 induction r with
 | nil=>exact .nil
 | @cons p q ps qs h t ih =>
  rw [List.map_cons,List.map_cons]
  refine .cons ?_ ih
  obtain ⟨h1,h2⟩:=h
  by_cases e:p.1=k
  ·rw [if_pos e,if_pos (h1.symm.trans e)]; exact ⟨h1,ry⟩
  ·rw [if_neg e,if_neg (fun z=>e (h1.trans z))]; exact ⟨h1,h2⟩
theorem KV.put {kvs:List (κ × V)} {vs:List (κ × Value)} (r:KV kvs vs) (k:κ) {y:V} {u:Value} (ry:RelV y u):KV (putK kvs k y) (stored vs k u):=by
 unfold putK stored
 rw [r.any k]
 by_cases e:(vs.any fun kv=>decide (kv.1=k))=true
 ·rw [if_pos e,if_pos e]; exact r.repl k ry
 ·rw [if_neg e,if_neg e]; exact Paired.snoc r ⟨rfl,ry⟩
theorem KV.length {kvs:List (κ × V)} {vs:List (κ × Value)} (r:KV kvs vs):kvs.length=vs.length:=Paired.length r
end
theorem NB {P:Program} {w:World} {k:Key} {u:Value} (r:RelV (kV k) u):(Bu P w).is k u=true:=by
 cases k with
 | inl i=>obtain ⟨t,e⟩:=(show ∃ t,u=Value.int i t from r); subst e; exact Mf P w i t
 | inr x=>obtain ⟨t,e⟩:=(show ∃ t,u=Value.str x t from r); subst e; exact Ma P w x t
theorem Ks {P:Program} {w:World}:∀ {ks:List Key} {us:List Value},Vals (ks.map kV) us->ItemsAre (Bu P w) ks us
 | [],_,r=>by rw [List.map_nil] at r; cases r; exact .nil
 | k::ks,_,r=>by
  rw [List.map_cons] at r
  cases r with
  | cons h t=>exact .cons (NB h) (Ks t)
noncomputable abbrev KT (H:Hp):List (List Key × V)->List (List Key × Addr × Value)->Prop:=Paired fun p q=>p.1=q.1/\H q.2.1=some (.tup (p.1.map kV))/\RelV p.2 q.2.2
theorem KT.val {H:Hp} {kvs:List (List Key × V)} {xs:List (List Key × Addr × Value)} (r:KT H kvs xs) (k:List Key):GP (Cj kvs k) ((atKey xs k).map (·.2)):=by
 induction r with
 | nil=>exact True.intro
 | @cons p q ps qs h t ih =>
  obtain ⟨h1,_,h2⟩:=h
  by_cases e:p.1=k
  ·have e':q.1=k:=h1.symm.trans e
   have b:atKey (q::qs) k=some q.2:=by simp [atKey,List.find?_cons,e']
   rw [DK e,b]; exact h2
  ·have e':¬ q.1=k:=fun z=>e (h1.trans z)
   have b:atKey (q::qs) k=atKey qs k:=by simp [atKey,List.find?_cons,e']
   rw [C_ e,b]; exact ih
theorem KT.repl {H:Hp} {kvs:List (List Key × V)} {xs:List (List Key × Addr × Value)} (r:KT H kvs xs) (k:List Key) {y:V} {u:Value} (ry:RelV y u) :
  KT H (kvs.map fun kv=>if kv.1=k then (kv.1,y) else kv) (xs.map (putAt k u)):=by
 induction r with
 | nil=>exact .nil
 | @cons p q ps qs h t ih =>
  rw [List.map_cons,List.map_cons]
  refine .cons ?_ ih
  obtain ⟨h1,h2,h3⟩:=h
  unfold putAt
  by_cases e:p.1=k
  ·rw [if_pos e,if_pos (h1.symm.trans e)]; exact ⟨h1,h2,ry⟩
  ·rw [if_neg e,if_neg (fun z=>e (h1.trans z))]; exact ⟨h1,h2,h3⟩
theorem KT.put {H:Hp} {kvs:List (List Key × V)} {xs:List (List Key × Addr × Value)} (r:KT H kvs xs) (k:List Key) {b:Addr} {y:V} {u:Value} (hb:H b=some (.tup (k.map kV))) (ry:RelV y u) :
  KT H (putK kvs k y) (storedH xs k b u):=by
 have e:(kvs.any fun kv=>decide (kv.1=k))=(atKey xs k).isSome:=by
  rw [Gr,(r.val k).Qc,Option.isSome_map]
 unfold putK storedH
 rw [e]
 by_cases q:(atKey xs k).isSome=true
 ·rw [if_pos q,if_pos q]; exact r.repl k ry
 ·rw [if_neg q,if_neg q]; exact Paired.snoc r ⟨rfl,hb,ry⟩
theorem KT.keeps {H H':Hp} {kvs:List (List Key × V)} {xs:List (List Key × Addr × Value)} (r:KT H kvs xs) (ht:∀ b ys,H b=some (.tup ys)->H' b=some (.tup ys)):KT H' kvs xs :=
 Paired.Eo r fun _ _ z=>⟨z.1,ht _ _ z.2.1,z.2.2⟩
section
variable {P:Program} {w:World} {H:Hp} {h:Heap} {a:Addr}
theorem Vx {u:HO} (ok:Hs P w H h) (e:Rd H a u):CG P w H h a u:=e.ok ok
theorem Nb {kvs:List (Key × V)} (ok:Hs P w H h) (e:Rd H a (.dK kvs)):kvs.length<=sizeLine/\(a == sysModules)=false/\∃ vs,KV kvs vs/\h.DictOf (Bu P w) a vs :=
 show CG P w H h a (.dK kvs) from Vx ok e
theorem V7 {kvs:List (Key × V)} (ok:Hs P w H h) (e:H a=some (.dK kvs)):kvs.length<=sizeLine/\(a == sysModules)=false/\∃ vs,KV kvs vs/\h.DictOf (Bu P w) a vs:=Nb ok (.inl e)
theorem K_ {ks:List Key} (ok:Hs P w H h) (e:H a=some (.tup (ks.map kV))):(tupleKind (Bu P w)).is h ks a:=by
 obtain ⟨_,its,r,o,h1,h2,n,h3⟩:=(show CG P w H h a (.tup (ks.map kV)) from ok a _ e)
 exact ⟨o,its.toArray,n,h1,h2,h3,by simpa using Ks r⟩
theorem Mp {kvs:List (List Key × V)} (ok:Hs P w H h) (e:Rd H a (.dT kvs)):kvs.length<=sizeLine/\(a == sysModules)=false /\
  ∃ xs,KT H kvs xs/\h.DictOfH (tupleKind (Bu P w)) a xs:=by
 obtain ⟨z,y,xs,r,o,es,ep,h1,h2,h3,h4,h5⟩:=(show CG P w H h a (.dT kvs) from Vx ok e)
 refine ⟨z,y,xs,r,o,es,ep,h1,h2,h3,h4,fun x hx=>?_,h5⟩
 have all:∀ {l:List (List Key × V)} {m:List (List Key × Addr × Value)},KT H l m->∀ x∈m,(tupleKind (Bu P w)).is h x.1 x.2.1:=by
  intro l m q
  induction q with
  | nil=>intro x hx; exact nomatch hx
  | @cons p q ps qs hq t ih =>
   intro x hx
   rcases List.mem_cons.mp hx with e | hx
   ·subst e
    exact K_ ok (by rw [← hq.1]; exact hq.2.1)
   ·exact ih x hx
 exact all r x hx
theorem fj {kvs:List (List Key × V)} (ok:Hs P w H h) (e:H a=some (.dT kvs)):kvs.length<=sizeLine/\(a == sysModules)=false /\
  ∃ xs,KT H kvs xs/\h.DictOfH (tupleKind (Bu P w)) a xs:=Mp ok (.inl e)
end
noncomputable def Hq (H:Hp) (a:Addr) (y:V) (r:Option V):Prop :=
 (∃ kvs k,Rd H a (.dK kvs)/\y=kV k/\r=Cj kvs k) \/ ∃ kvs k b,Rd H a (.dT kvs)/\y=.ref b/\H b=some (.tup (k.map kV))/\r=Cj kvs k
noncomputable def KY (H:Hp) (a:Addr) (y v:V) (H':Hp):Prop :=
 (∃ kvs k,H a=some (.dK kvs)/\y=kV k/\kvs.length<sizeLine/\H'=upd H a (.dK (putK kvs k v))) \/
 ∃ kvs k b,H a=some (.dT kvs)/\y=.ref b/\H b=some (.tup (k.map kV))/\kvs.length<sizeLine/\H'=upd H a (.dT (putK kvs k v))
theorem Hq.k {H:Hp} {a:Addr} {kvs:List (Key × V)} {k:Key} (e:H a=some (.dK kvs)):Hq H a (kV k) (Cj kvs k):=.inl ⟨kvs,k,.inl e,rfl,rfl⟩
theorem KY.k {H:Hp} {a:Addr} {kvs:List (Key × V)} {k:Key} {v:V} (e:H a=some (.dK kvs)) (hl:kvs.length<sizeLine):KY H a (kV k) v (upd H a (.dK (putK kvs k v))):=.inl ⟨kvs,k,e,rfl,hl,rfl⟩
section
variable {X:Cx} {pins:List (Addr × Obj)} {σ:St} {H:Hp} {s:Shared} {a:Addr} {y v:V} {u r:Value} {o:Option V} {A:Around} {E:Value->Shared->Prop}
theorem Inv.big (I:Inv X pins σ H s):sysModules<s.heap.objs.size:=by
 have h:mainGlobals<s.heap.objs.size:=(I.mod.glob.keeps I.bk).lt
 exact Nat.lt_trans (by decide) h
theorem Qx {Q:Value->Shared->Prop} (hu:A.units+1<cLine) (I:Inv X pins σ H s) (g:Hq H a y (some v)) (ry:RelV y u) (h:∀ w' s',Inv X pins σ H s'->RelV v w'->Q w' s') :
  wpAny (model X.prog X.w) A (getItem (.ref a) u) Q E s:=by
 rcases g with ⟨kvs,k,e,ey,l⟩ | ⟨kvs,k,b,e,ey,eb,l⟩
 ·subst ey
  obtain ⟨z,hd,vs,rel,dd⟩:=Nb I.hok e
  obtain ⟨w',hw,rw'⟩:=GP.some_of (v:=v) (o:=valueAt vs k) (by rw [l]; exact rel.val k)
  exact wpAny_getItem_of (NB ry) dd.mapOf hw (h w' _ (I.tok _) rw')
 ·subst ey
  cases (show u=Value.ref b from ry)
  obtain ⟨z,hd,xs,rel,dd⟩:=Mp I.hok e
  obtain ⟨w',hw,rw'⟩:=GP.some_of (v:=v) (o:=(atKey xs k).map (·.2)) (by rw [l]; exact rel.val k)
  obtain ⟨p,hp,hp2⟩:=Option.map_eq_some_iff.mp hw
  refine wpAny_getItem_heap (tupleKind_room_in1 hu) (K_ I.hok eb) dd hp ?_
  rw [hp2]
  exact h w' _ (I.tok _) rw'
theorem Lh {h':Heap} {t':Nat} {ob:HO} (I:Inv X pins σ H s) (mu:aJ (H a)) (hs:Heap.SameBut a s.heap h') (he:∃ q,h'.get? a=some q) (new:CG X.prog X.w (upd H a ob) h' a ob) :
  Inv X pins σ (upd H a ob) { s with heap:=h',toks:=t' } :=
 I.write (x:=a) (e:=a) mu (.inl rfl) (fun b q hb z=>(hs.2 b hb).trans z) he new
theorem Ry {P:Program} {w:World} {H':Hp} {h':Heap} {kvs:List (Key × V)} {vs:List (Key × Value)} (z:kvs.length<=sizeLine) (hd:(a == sysModules)=false) (rel:KV kvs vs) (dd:h'.DictOf (Bu P w) a vs) :
  CG P w H' h' a (.dK kvs):=⟨z,hd,vs,rel,dd⟩
theorem RC {H':Hp} {Q:Unit->Shared->Prop} (hu:A.units+1<cLine) (I:Inv X pins σ H s) (g:KY H a y v H') (ry:RelV y u) (rv:RelV v r) (h:∀ s',Inv X pins σ H' s'->Q () s') :
  wpAny (model X.prog X.w) A (setItem (.ref a) u r) Q E s:=by
 rcases g with ⟨kvs,k,e,ey,l,eH⟩ | ⟨kvs,k,b,e,ey,eb,l,eH⟩
 ·subst ey eH
  obtain ⟨z,hd,vs,rel,dd⟩:=V7 I.hok e
  have hz:vs.length<=sizeLine:=by rw [← rel.length]; exact z
  have hl:(putK kvs k v).length<=sizeLine:=by have:=Ds kvs k v; omega
  refine wpAny_setItem_pairs (hsz:=hz) (NB ry) dd fun h' dd' hs=>h _ ?_
  have he:∃ q,h'.get? a=some q:=let ⟨q,_,_,hq,_⟩:=dd'; ⟨q,hq⟩
  exact Lh I (by rw [e]; exact True.intro) hs he (Ry hl hd (rel.put k rv) dd')
 ·subst ey eH
  cases (show u=Value.ref b from ry)
  obtain ⟨z,hd,xs,rel,dd⟩:=fj I.hok e
  have hz:xs.length<=sizeLine:=by rw [← Paired.length rel]; exact z
  have hl:(putK kvs k v).length<=sizeLine:=by have:=Ds kvs k v; omega
  refine wpAny_setItem_heap (hsz:=hz) (tupleKind_room_in1 hu) (K_ I.hok eb) dd fun h' dd' hs=>h _ ?_
  obtain ⟨q,es,ep,hq,h2,h3,h4,_,h5⟩:=dd'
  refine Lh I (by rw [e]; exact True.intro) hs ⟨q,hq⟩ ⟨hl,hd,_,(rel.put k eb rv).keeps fun c ys ec=>?_,q,es,ep,hq,h2,h3,h4,h5⟩
  rw [Al (V0 ec e (fun z=>nomatch z))]
  exact ec
end
section
variable {X:Cx} {pins:List (Addr × Obj)} {σ:St} {H:Hp} {s:Shared} {a:Addr} {kvs:List (Key × V)} {k:Key} {u:Value} {A:Around} {E:Value->Shared->Prop}
end
noncomputable def Xd (i:Expr):Prop:=∀ ov iv,subscripted i false ov iv=operate [ov,iv] (getItem ov iv)
theorem Pj {prog:Program} {w:World} {A:Around} {E:Value->Shared->Prop} {s:Shared} {env:Env} {value slice:Expr} {pos:Pos} {T id:String} {Q:Value->Shared->Prop}
  (hl:typeLookup (.type T) "__getitem__" = pure (some (.builtin id))) (hs:Xd slice)
  (h:wpAny (model prog w) A (eval value env) (fun o s₁=>wpAny (model prog w) A (eval slice env) (fun i s₂=>s₂.TypeIs o T/\wpAny (model prog w) A (getItem o i) Q E s₂) E s₁) E s) :
  wpAny (model prog w) A (eval (.Subscript value slice pos) env) Q E s:=by
 refine Subscript_ (wpAny_mono h (fun o s₁ h₁=>wpAny_mono h₁ (fun i s₂ h₂=>?_) fun _ _ x=>x) fun _ _ x=>x)
 obtain ⟨hT,h₂⟩:=h₂
 unfold subscriptTail
 refine wpAny_bind ?_
 rw [getitemInPython_of_ne hT.not_modules]
 refine wpAny_bind (wpAny_specialOf hT hl ?_)
 have fin:wpAny (model prog w) A (subscripted slice false o i) (fun r s₃=>wpAny (model prog w) A (letTemporaryGo value o r >>= fun _=>pure r) Q E s₃) E s₂:=by
  rw [hs o i]
  exact wpAny_operating (wpAny_mono h₂ (fun r s₃ h₃=>wpAny_bind (wpAny_letTemporaryGo (wpAny_pure h₃))) fun _ _ x=>x)
 first
  | exact wpAny_pure (wpAny_bind fin)
  | exact wpAny_bind (wpAny_pure (wpAny_bind fin))
  | exact wpAny_bind fin
theorem Mm {X:Cx} {pins:List (Addr × Obj)} {σ:St} {H:Hp} {s:Shared} {a:Addr} {y:V} {o:Option V} (I:Inv X pins σ H s) (g:Hq H a y o):s.TypeIs (.ref a) "dict":=by
 rcases g with ⟨kvs,k,e,_,_⟩ | ⟨kvs,k,b,e,_,_,_⟩
 ·obtain ⟨_,_,vs,_,dd⟩:=Nb I.hok e
  exact dd.typeIs
 ·obtain ⟨_,_,xs,_,dd⟩:=Mp I.hok e
  exact dd.typeIs
noncomputable def e_ (td ty:TE):TE:=fun σ H Q=>td σ H fun x H1=>ty σ H1 fun y H2=>∃ a v,x=.ref a/\Hq H2 a y (some v)/\Q v H2
noncomputable def eQ (td ty tv:TE):TS:=fun D σ H=>tv σ H fun v H1=>td σ H1 fun x H2=>ty σ H2 fun y H3=>∃ a H4,x=.ref a/\KY H3 a y v H4/\D.nx σ H4
section
variable {X:Cx} {o i e value:Expr} {pos pos' tpos:Pos} {td ty tv:TE}
theorem DQ (hu:X.A.units+1<cLine) (ho:PE X o td) (hi:PE X i ty) (hs:Xd i):PE X (.Subscript o i pos) (e_ td ty):=by
 intro pins s σ H Q I h
 refine Pj PySem.F.slot_dict_getitem.lookup hs (Bv (ho pins s σ H _ I h) fun u s1 ⟨x,H1,I1,rx,q1⟩=>Bv (hi pins s1 σ H1 _ I1 q1) fun iv s2 hq0=>?_)
 obtain ⟨y,H2,I2,ry,a,v,ex,g,q2⟩:=hq0
 subst ex
 obtain rfl:u=Value.ref a:=rx
 exact ⟨Mm I2 g,Qx hu I2 g ry fun w' s3 I3 rw'=>⟨v,H2,I3,rw',q2⟩⟩
theorem G7 (hu:X.A.units+1<cLine) (ho:PE X o td) (hi:PE X i ty) (hv:PE X value tv) (hs:swapsWith value (some (.Subscript o i pos')) pos.line X.env=pure false) :
  PS X (.Assign [.Subscript o i pos'] value pos) (eQ td ty tv):=by
 intro pins s σ H D I h
 refine wpAny_Assign_Subscript (Bv (hv pins s σ H _ I h) fun r s1 ⟨v,H1,I1,rv,q1⟩=>Bv (ho pins s1 σ H1 _ I1 q1) fun u s2 ⟨x,H2,I2,rx,q2⟩=>Bv (hi pins s2 σ H2 _ I2 q2) fun iv s3 ⟨y,H3,I3,ry,a,H4,ex,g,q3⟩=>?_) hs
 subst ex
 obtain rfl:u=Value.ref a:=rx
 exact RC hu I3 g ry rv fun s4 I4=>⟨σ,H4,I4,q3⟩
end
theorem Lz {P:Program} {w:World} {H:Hp} (h:Heap) (hb:sysModules<h.objs.size):CG P w H (h.push { cls:=.type "dict",data:=.dict #[] }) h.objs.size (.dK []) :=
 ⟨Nat.zero_le _,beq_eq_false_iff_ne.mpr (Ne.symm (Nat.ne_of_lt hb)),[],.nil,Heap.DictOf.new h⟩
noncomputable def XX:TE:=fun _ H Q=>∀ p,H p=none->Q (.ref p) (upd H p (.dK []))
section
variable {X:Cx} {pos:Pos}
theorem Ig:PE X (.Dict [] [] pos) XX:=fun pins s σ H Q I h =>
 wpAny_Dict_empty ⟨.ref s.heap.objs.size,_,I.laid (a:=s.heap.objs.size) (o:=.dK []) (t':=s.toks) (fun _ _ q=>Heap.get?_push_of_some _ q) (Nat.le_refl _) (Lz s.heap I.big),rfl,h _ (I.hok.fresh (Nat.le_refl _))⟩
end
noncomputable def Oq:List (TE × TE)->St->Hp->(List (V × V)->Hp->Prop)->Prop
 | [],_,H,Q=>Q [] H
 | (tk,tv)::r,σ,H,Q=>tk σ H fun x H1=>tv σ H1 fun y H2=>Oq r σ H2 fun ps H3=>Q ((x,y)::ps) H3
noncomputable abbrev VV:List (V × V)->List (Value × Value)->Prop:=Paired fun p q=>RelV p.1 q.1/\RelV p.2 q.2
noncomputable def gb (X:Cx) (pos:Pos) (keys:List (Option Expr)) (values:List Expr) (trs:List (TE × TE)):Prop :=
 ∀ (pins:List (Addr × Obj)) (s:Shared) (σ:St) (H:Hp) (Q:List (V × V)->Hp->Prop),Inv X pins σ H s->Oq trs σ H Q ->
  wpAny (model X.prog X.w) X.A (evalPairs (pairTrees keys values X.env pos)) (fun vs s'=>∃ ps H',Inv X pins σ H' s'/\VV ps vs/\Q ps H') X.xe s
theorem Vt {X:Cx} {pos:Pos}:gb X pos [] [] []:=fun pins s σ H Q I h=>pairTrees_nil_walk ⟨[],H,I,.nil,h⟩
theorem KQ {X:Cx} {pos:Pos} {k v:Expr} {ks:List (Option Expr)} {vs:List Expr} {tk tv:TE} {trs:List (TE × TE)} (hk:PE X k tk) (hv:PE X v tv) (hr:gb X pos ks vs trs) :
  gb X pos (some k::ks) (v::vs) ((tk,tv)::trs):=fun pins s σ H Q I h =>
 pairTrees_cons_walk (Bv (hk pins s σ H _ I h) fun u s1 ⟨x,H1,I1,rx,q1⟩=>Bv (hv pins s1 σ H1 _ I1 q1) fun w2 s2 ⟨y,H2,I2,ry,q2⟩ =>
  Bv (hr pins s2 σ H2 _ I2 q2) fun ws s3 ⟨ps,H3,I3,rel,q3⟩=>⟨(x,y)::ps,H3,I3,.cons ⟨rx,ry⟩ rel,q3⟩)
noncomputable def JF (kvs more:List (Key × V)):List (Key × V):=more.foldl (fun acc kv=>putK acc kv.1 kv.2) kvs
theorem KV.merge:∀ {more:List (Key × V)} {rs:List (Key × Value)} {kvs:List (Key × V)} {vs:List (Key × Value)},KV more rs->KV kvs vs->KV (JF kvs more) (merged vs rs):=by
 intro more rs kvs vs r
 unfold KV at r
 induction r generalizing kvs vs with
 | nil=>intro q; exact q
 | @cons p q ps qs h t ih =>
  intro r0
  have e:KV (putK kvs p.1 p.2) (stored vs q.1 q.2):=by
   have:=r0.put p.1 h.2
   rw [← h.1]; exact this
  exact ih e
theorem Fi:∀ (more kvs:List (Key × V)),(JF kvs more).length<=kvs.length+more.length
 | [],kvs=>by show kvs.length<=kvs.length+0; omega
 | p::r,kvs=>by
  have h1:=Fi r (putK kvs p.1 p.2)
  have h2:=Ds kvs p.1 p.2
  show (JF (putK kvs p.1 p.2) r).length<=_
  rw [List.length_cons]; omega
theorem KJ {P:Program} {w:World}:∀ {kvs:List (Key × V)} {ws:List (Value × Value)},VV (kvs.map fun kv=>(kV kv.1,kv.2)) ws->∃ rs,Carries (Bu P w) ws rs/\KV kvs rs
 | [],_,r=>by rw [List.map_nil] at r; cases r; exact ⟨[],True.intro,.nil⟩
 | p::kvs,_,r=>by
  rw [List.map_cons] at r
  cases r with
  | @cons a b as bs h t =>
   obtain ⟨rs,c,q⟩:=KJ (P:=P) (w:=w) t
   obtain ⟨b1,b2⟩:=b
   exact ⟨(p.1,b2)::rs,⟨NB h.1,rfl,c⟩,.cons ⟨rfl,h.2⟩ q⟩
noncomputable def dq (trs:List (TE × TE)):TE:=fun σ H Q=>∀ p,H p=none->Oq trs σ (upd H p (.dK [])) fun ps H2=>H2 p=some (.dK [])/\∃ kvs:List (Key × V),ps=kvs.map (fun kv=>(kV kv.1,kv.2))/\kvs.length<=15/\Q (.ref p) (upd H2 p (.dK (JF [] kvs)))
theorem U5 {X:Cx} {pos:Pos} {keys:List (Option Expr)} {values:List Expr} {trs:List (TE × TE)} (h:gb X pos keys values trs) (hall:keys.all (·.isSome)=true) (hl:keys.length=values.length) (h0:keys ≠ [])
  (h15:keys.length<=15):PE X (.Dict keys values pos) (dq trs):=by
 intro pins s σ H Q I q
 have hn:=I.hok.fresh (Nat.le_refl s.heap.objs.size)
 have I1:=I.laid (a:=s.heap.objs.size) (o:=.dK []) (h':=s.heap.push { cls:=.type "dict",data:=.dict #[] }) (t':=s.toks) (fun _ _ q=>Heap.get?_push_of_some _ q) (Nat.le_refl _) (Lz s.heap I.big)
 refine wpAny_Dict_walk (knd:=Bu X.prog X.w) hall hl h0 h15 (Bv (h pins _ σ _ _ I1 (q _ hn)) fun ws s2 hq0=>?_)
 obtain ⟨ps,H2,I2,rel,e,kvs,ep,lk,q2⟩:=hq0
 subst ep
 obtain ⟨rs,c,rk⟩:=KJ (P:=X.prog) (w:=X.w) rel
 obtain ⟨z,hd,vs0,r0,dd⟩:=V7 I2.hok e
 cases r0
 refine ⟨rs,c,dd,fun h' dd' hs=>⟨.ref s.heap.objs.size,_,?_,rfl,q2⟩⟩
 have hz:(JF [] kvs).length<=sizeLine:=by
  have h1:=Fi kvs []
  rw [List.length_nil] at h1
  rw [sizeLine_eq]; omega
 have he:∃ q,h'.get? s.heap.objs.size=some q:=let ⟨q,_,_,hq,_⟩:=dd'; ⟨q,hq⟩
 exact Lh I2 (by rw [e]; exact True.intro) hs he (Ry hz hd (rk.merge .nil) dd')
structure M1 (X:Cx) (o:Expr) (m:Str) (apos:Pos) (e:Expr) (cpos:Pos):Prop where
 base:attributeBase o m X.env (eval o X.env)=eval o X.env
 few:((backTo cpos (starEach [e] X.env)).all (fun x=>!x.1) && (backToKw cpos (keywordEach [] X.env)).all (fun x=>x.1.isSome)
  && decide (([e]:List Expr).length+([]:List Keyword).length+(if ([]:List Keyword).isEmpty then 0 else 1)<30))=true
 line:(apos.endLine == cpos.line)=true
 trees:backTo cpos (starEach [e] X.env)=[(false,eval e X.env)]
structure M2 (X:Cx) (o:Expr) (m:Str) (apos:Pos) (e f:Expr) (cpos:Pos):Prop where
 base:attributeBase o m X.env (eval o X.env)=eval o X.env
 few:((backTo cpos (starEach [e,f] X.env)).all (fun x=>!x.1) && (backToKw cpos (keywordEach [] X.env)).all (fun x=>x.1.isSome)
  && decide (([e,f]:List Expr).length+([]:List Keyword).length+(if ([]:List Keyword).isEmpty then 0 else 1)<30))=true
 line:(apos.endLine == cpos.line)=true
 trees:backTo cpos (starEach [e,f] X.env)=[(false,eval e X.env),(false,eval f X.env)]
noncomputable def kY (H:Hp) (a:Addr):Prop:=(∃ kvs,Rd H a (.dK kvs)) \/ ∃ kvs,Rd H a (.dT kvs)
theorem TF {X:Cx} {pins:List (Addr × Obj)} {σ:St} {H:Hp} {s:Shared} {a:Addr} (I:Inv X pins σ H s) (d:kY H a) :
  s.TypeIs (.ref a) "dict" /\ (∀ b,Value.ref a=.ref b->∃ ob,s.heap.get? b=some ob/\ob.dict=none)/\(a == sysModules)=false:=by
 rcases d with ⟨kvs,e⟩ | ⟨kvs,e⟩
 ·obtain ⟨_,hd,vs,_,dd⟩:=Nb I.hok e
  refine ⟨dd.typeIs,fun b q=>?_,hd⟩
  cases q
  obtain ⟨ob,_,_,h1,h2,_⟩:=dd
  exact ⟨ob,h1,h2.2.1⟩
 ·obtain ⟨_,hd,xs,_,dd⟩:=Mp I.hok e
  refine ⟨dd.typeIs,fun b q=>?_,hd⟩
  cases q
  obtain ⟨ob,_,_,h1,h2,_⟩:=dd
  exact ⟨ob,h1,h2.2.1⟩
section
variable {X:Cx} {pins:List (Addr × Obj)} {σ:St} {H:Hp} {s:Shared} {a:Addr} {y d:V} {u r:Value} {o:Option V} {A:Around} {E:Value->Shared->Prop}
theorem Wc {Q:Value->Shared->Prop} (hu:A.units+1<cLine) (I:Inv X pins σ H s) (g:Hq H a y o) (ry:RelV y u) (rd:RelV d r) (h:∀ w' s',Inv X pins σ H s'->RelV (o.getD d) w'->Q w' s') :
  wpAny (model X.prog X.w) A (call (.builtin "dict.get") [.ref a,u,r]) Q E s:=by
 rcases g with ⟨kvs,k,e,ey,l⟩ | ⟨kvs,k,b,e,ey,eb,l⟩
 ·subst ey
  obtain ⟨z,hd,vs,rel,dd⟩:=Nb I.hok e
  refine call_meetsIn PySem.F.slot_dict_get dd.typeIs PySem.F.entry_dict_get (PySem.F.args_dict_get_3 _ _ _) (meets_dict_get_default (Bu X.prog X.w) a (NB ry) hd r) ⟨_,dd.mapOf,h _ _ (I.tok _) ?_⟩
  rw [l]
  exact (rel.val k).getD rd
 ·subst ey
  cases (show u=Value.ref b from ry)
  obtain ⟨z,hd,xs,rel,dd⟩:=Mp I.hok e
  refine call_meetsIn PySem.F.slot_dict_get dd.typeIs PySem.F.entry_dict_get (PySem.F.args_dict_get_3 _ _ _) (meetsH_dict_get_default (tupleKind (Bu X.prog X.w)) a b hd r) ⟨tupleKind_room_in1 hu,k,xs,K_ I.hok eb,dd,h _ _ (I.tok _) ?_⟩
  rw [l]
  exact (rel.val k).getD rd
end
noncomputable def Wn (td ty tx:TE):TE:=fun σ H Q=>td σ H fun x H1=>∃ a,x=.ref a/\kY H1 a/\ty σ H1 fun y H2=>tx σ H2 fun z H3=>∃ o,Hq H3 a y o/\Q (o.getD z) H3
section
variable {X:Cx} {o e f:Expr} {apos cpos:Pos} {td ty tx:TE}
theorem Ra (hu:X.A.units+1<cLine) (ho:PE X o td) (he:PE X e ty) (hf:PE X f tx) (m:M2 X o "get" apos e f cpos):PE X (.Call (.Attribute o "get" apos) [e,f] [] cpos) (Wn td ty tx):=by
 intro pins s σ H Q I h
 refine wpAny_Call_method m.base m.few m.line PySem.F.plainAttrs_dict PySem.F.slot_dict_get PySem.F.type_dict_get (Bv (ho pins s σ H _ I h) fun u s1 hq0=>?_)
 obtain ⟨x,H1,I1,rx,a,ex,d,q1⟩:=hq0
 subst ex
 obtain rfl:u=Value.ref a:=rx
 obtain ⟨t1,t2,_⟩:=TF I1 d
 refine ⟨t1,t2,?_⟩
 rw [m.trees]
 refine Calls.callWith_builtin rfl (Calls.evalArgs_plain (Calls.spliced_cons (Bv (he pins s1 σ H1 _ I1 q1) fun iv s2 ⟨y,H2,I2,ry,q2⟩ =>
  Calls.spliced_cons (Bv (hf pins s2 σ H2 _ I2 q2) fun fv s3 ⟨z,H3,I3,rz,ov,g,q3⟩=>Calls.spliced_nil ?_))))
 exact Wc hu I3 g ry rz fun w' s4 I4 rw'=>⟨_,H3,I4,rw',q3⟩
end
section
variable {X:Cx} {pins:List (Addr × Obj)} {σ:St} {H:Hp} {s:Shared} {a:Addr} {kvs:List (Key × V)} {A:Around} {E:Value->Shared->Prop}
end
section
variable {X:Cx} {pins:List (Addr × Obj)} {σ:St} {H:Hp} {s:Shared} {a:Addr} {y:V} {u:Value} {A:Around} {E:Value->Shared->Prop}
end
end L2
namespace HT
open PySem PyProof.Rows
section
open PySem.SeqAt
open PySem.AutoSeq1 (wpAny_loadPart')
open PySem.MeetsSeq PySem.MeetsSeq2 PySem.MeetsSeq3
end
section
variable {prog:Program} {w:World} {A:Around} {E:Value->Shared->Prop} {s:Shared}
noncomputable def Dt (n d:Nat):Option Int->Nat
 | none=>d
 | some v=>if v<0 then (v+(n:Int)).toNat else min v.toNat n
theorem MJ (n d:Nat):Dt n d none=d:=rfl
theorem Jc (n d k:Nat):Dt n d (some (k:Int))=min k n:=by
 show (if (k:Int)<0 then ((k:Int)+(n:Int)).toNat else min (k:Int).toNat n)=min k n
 rw [if_neg (by omega),Int.toNat_natCast]
theorem YJ (n d:Nat) (hd:d<=n) (o:Option Int):Dt n d o<=n:=by
 cases o with
 | none=>exact hd
 | some v =>
  show (if v<0 then (v+(n:Int)).toNat else min v.toNat n)<=n
  by_cases hv:v<0
  ·rw [if_pos hv]; omega
  ·rw [if_neg hv]; exact Nat.min_le_right _ _
theorem Pk (v:Int) (n d:Nat):(if v<0 then max (v+(n:Int)) 0 else min v (n:Int))=((Dt n d (some v):Nat):Int):=by
 show (if v<0 then max (v+(n:Int)) 0 else min v (n:Int))=(((if v<0 then (v+(n:Int)).toNat else min v.toNat n):Nat):Int)
 by_cases hv:v<0
 ·simp only [if_pos hv]; omega
 ·simp only [if_neg hv]; omega
theorem Oj (lo hi:Option Int) (n:Nat):Builtin.Slice.sliceAdjust lo hi 1 (n:Int)=(((Dt n 0 lo:Nat):Int),((Dt n n hi:Nat):Int)):=by
 have h1:¬ ((1:Int)<0):=by omega
 unfold Builtin.Slice.sliceAdjust
 simp only [h1,if_false]
 refine Prod.ext ?_ ?_
 ·cases lo with
  | none=>rfl
  | some v=>exact Pk v n 0
 ·cases hi with
  | none=>rfl
  | some v=>exact Pk v n n
theorem Np (i j:Nat):Builtin.Slice.slicePlaces (i:Int) (j:Int) 1=j - i:=by
 unfold Builtin.Slice.slicePlaces
 have h1:(1:Int) > 0:=by omega
 simp only [h1,if_true,Int.ediv_one]
 split <;> omega
theorem KC {v:Value} {o:Option Int} {Q:Option Int->Shared->Prop} (p:IsPart v o) (h:Q o s):wpAny (model prog w) A (Builtin.Slice.slicePartIndex v) Q E s:=by
 cases p with
 | none=>exact slicePart_none h
 | int i t=>exact slicePart_int h
theorem Ir {sl:Addr} {vl vu:Value} {lo hi:Option Int} {n:Nat} {Q:Int × Int × Nat->Shared->Prop} (hs:s.heap.IsSliceOf sl vl vu .none) (pl:IsPart vl lo) (pu:IsPart vu hi)
  (h:Q (((Dt n 0 lo:Nat):Int),1,Dt n n hi - Dt n 0 lo) s):wpAny (model prog w) A (Builtin.Slice.sliceApplied (.ref sl) (pure (n:Int))) Q E s:=by
 obtain ⟨os,hos,hcs,hds⟩:=id hs
 unfold Builtin.Slice.sliceApplied Builtin.Slice.sliceFields
 refine wpAny_bind (wpAny_bind (wpAny_field hos hds (x:=vl) rfl (wpAny_bind (wpAny_field hos hds (x:=vu) rfl (wpAny_bind (wpAny_field hos hds (x:=.none) rfl (wpAny_pure ?_)))))))
 refine wpAny_bind (slicePart_none ?_)
 show wpAny _ _ (if ((1:Int) == 0)=true then _ else _) _ _ s
 rw [if_neg (by decide)]
 refine wpAny_bind (KC pl (wpAny_bind (KC pu (wpAny_bind (wpAny_pure ?_)))))
 show wpAny _ _ (match Builtin.Slice.sliceAdjust lo hi 1 (n:Int) with | (lo,hi)=>pure (lo,(1:Int),Builtin.Slice.slicePlaces lo hi 1)) _ _ s
 rw [Oj lo hi n]
 show wpAny _ _ (pure (((Dt n 0 lo:Nat):Int),(1:Int),Builtin.Slice.slicePlaces ((Dt n 0 lo:Nat):Int) ((Dt n n hi:Nat):Int) 1)) _ _ s
 rw [Np]
 exact wpAny_pure h
theorem Rt (xs:Array Value) (i k:Nat):((List.range k).filterMap fun (m:Nat)=>xs[((i:Int)+(m:Int) * 1).toNat]?).toArray=((xs.toList.drop i).take k).toArray:=by
 have e:(fun (m:Nat)=>xs[((i:Int)+(m:Int) * 1).toNat]?)=fun m=>xs[i+m]?:=by
  funext m
  have:((i:Int)+(m:Int) * 1).toNat=i+m:=by omega
  rw [this]
 rw [e]
 have:=pick_run xs i k
 rw [List.filterMap_map] at this
 have e2:((fun x=>xs[x]?) ∘ fun x=>i+x)=fun m=>xs[i+m]?:=rfl
 rw [e2] at this
 rw [this]
theorem Ht {t sl:Addr} {items:Array Value} {vl vu:Value} {lo hi:Option Int} {Q:Value->Shared->Prop} (ht:IsTup s.heap t items) (hs:s.heap.IsSliceOf sl vl vu .none) (pl:IsPart vl lo) (pu:IsPart vu hi)
  (hw:¬ (Dt items.size 0 lo=0/\Dt items.size items.size hi=items.size))
  (h:Q (.ref s.heap.objs.size) { s with heap:=s.heap.push { cls:=.type "tuple",data:=.seq ((items.toList.drop (Dt items.size 0 lo)).take (Dt items.size items.size hi - Dt items.size 0 lo)).toArray } })
  (hsz:items.size<=sizeLine):wpAny (model prog w) A (getItem (.ref t) (.ref sl)) Q E s:=by
 have htake:sizeOk (.seq ((items.toList.drop (Dt items.size 0 lo)).take (Dt items.size items.size hi - Dt items.size 0 lo)).toArray):=by
  show ((items.toList.drop (Dt items.size 0 lo)).take (Dt items.size items.size hi - Dt items.size 0 lo)).toArray.size<=sizeLine
  rw [List.size_toArray,List.length_take,List.length_drop,Array.length_toList]
  omega
 have hj:Dt items.size items.size hi<=items.size:=YJ _ _ (Nat.le_refl _) hi
 obtain ⟨os,hos,hcs,hds⟩:=id hs
 have hTs:s.TypeIs (.ref sl) "slice":=⟨os,hos,hcs⟩
 unfold getItem
 try with_reducible refine wpAny_holding ?_
 first | refine wpAny_bind (wpAny_pure ?_) | skip
 refine wpAny_bind (wpAny_sequenceKey ht.typeIs (by decide) ?_)
 refine wpAny_bind (wpAny_callSpecial?_slot (name:=Str.ofString "__getitem__") ht.typeIs PyProof.Rows.slot_tuple_getitem
  (wpAny_call_entry PyProof.Rows.slot_tuple_getitem ht.typeIs entry_tuple_getitem ?_ (args_tuple_getitem _ _)))
 show wpAny _ _ (Builtin.Tuple.tupleItemsOf (.ref t) >>= _) _ _ s
 refine wpAny_bind (tupleItemsOf_ ht ?_)
 refine wpAny_bind (wpAny_typeOf hTs ?_)
 rw [if_pos (by decide)]
 refine wpAny_bind (Ir hs pl pu ?_)
 have hno:¬ ((((Dt items.size 0 lo:Nat):Int) == 0 && (1:Int) == 1 && (Dt items.size items.size hi - Dt items.size 0 lo) == items.size)=true):=by
  intro q
  rw [Bool.and_eq_true,Bool.and_eq_true] at q
  have q1:((Dt items.size 0 lo:Nat):Int)=0:=eq_of_beq q.1.1
  have q2:Dt items.size items.size hi - Dt items.size 0 lo=items.size:=eq_of_beq q.2
  exact hw ⟨by omega,by omega⟩
 show wpAny _ _ (if (((Dt items.size 0 lo:Nat):Int) == 0 && (1:Int) == 1 && (Dt items.size items.size hi - Dt items.size 0 lo) == items.size)=true then _ else _) _ _ s
 rw [if_neg hno,Rt]
 first
  | exact wpAny_bind (m:=Builtin.Tuple.tupleExact _) (wpAny_newObj_type (wpAny_pure ⟨_,rfl,wpAny_pure h⟩) htake)
  | exact wpAny_bind (m:=Builtin.Tuple.tupleExact _) (wpAny_newObj_type (wpAny_bind (wpAny_pure (wpAny_pure ⟨_,rfl,wpAny_pure h⟩))) htake)
  | exact wpAny_bind (wpAny_bind (m:=Builtin.Tuple.tupleExact _) (wpAny_newObj_type (wpAny_pure (wpAny_pure ⟨_,rfl,wpAny_pure h⟩)) htake))
  | exact wpAny_bind (wpAny_bind (m:=Builtin.Tuple.tupleExact _) (wpAny_newObj_type (wpAny_pure ⟨_,rfl,wpAny_pure h⟩) htake))
end
end HT
namespace L2
open PySem PySem.Spec PyProof.Rows
noncomputable abbrev TO:=St->Hp->(Option Int->Hp->Prop)->Prop
noncomputable def PO (X:Cx) (e:Option Expr) (t:TO):Prop :=
 ∀ (pins:List (Addr × Obj)) (s:Shared) (σ:St) (H:Hp) (Q:Option Int->Hp->Prop),Inv X pins σ H s->t σ H Q ->
  wpAny (model X.prog X.w) X.A (evalPart e X.env) (fun u s'=>∃ o H',Inv X pins σ H' s'/\IsPart u o/\Q o H') X.xe s
noncomputable def Vf:TO:=fun _ H Q=>Q none H
noncomputable def cY (t:TE):TO:=fun σ H Q=>t σ H fun x H1=>∃ i,x=.int i/\Q (some i) H1
section
variable {X:Cx} {e:Expr} {te:TE} {lo hi:Option Expr} {tl th:TO} {pos p2:Pos}
theorem GR:PO X none Vf:=by
 intro pins s σ H Q I h
 rw [evalPart_none]
 exact wpAny_pure ⟨none,H,I,.none,h⟩
theorem Em (h:PE X e te):PO X (some e) (cY te):=by
 intro pins s σ H Q I hw
 rw [evalPart_some]
 refine Bv (h pins s σ H _ I hw) fun u s1 hq0=>?_
 obtain ⟨x,H1,I1,r1,q1⟩:=hq0
 obtain ⟨i,rfl,q⟩:=q1
 obtain ⟨t,rfl⟩:=r1
 exact ⟨some i,H1,I1,.int i t,q⟩
noncomputable def jP (X:Cx) (r:V->Option Int->Option Int->Hp->VK->Prop):Prop :=
 ∀ (pins:List (Addr × Obj)) (s:Shared) (σ:St) (H:Hp) (x:V) (v vl vu:Value) (lo hi:Option Int) (sl:Addr) (Q:VK),Inv X pins σ H s->RelV x v->s.heap.IsSliceOf sl vl vu .none->IsPart vl lo->IsPart vu hi->r x lo hi H Q ->
  ∃ T id,typeLookup (.type T) "__getitem__" = pure (some (.builtin id))/\s.TypeIs v T/\wpAny (model X.prog X.w) X.A (getItem v (.ref sl)) (EP X pins σ Q) X.xe s
noncomputable def lO (r:V->Option Int->Option Int->Hp->VK->Prop) (te:TE) (tl th:TO):TE:=fun σ H Q=>te σ H fun x H1=>tl σ H1 fun l H2=>th σ H2 fun u H3=>r x l u H3 Q
theorem Eg {r:V->Option Int->Option Int->Hp->VK->Prop} (hr:jP X r) (he:PE X e te) (hl:PO X lo tl) (hu:PO X hi th):PE X (.Subscript e (.Slice lo hi none p2) pos) (lO r te tl th):=by
 intro pins s σ H Q I h
 refine Subscript_ (Bv (he pins s σ H _ I h) fun v s1 hq0=>?_)
 obtain ⟨x,H1,I1,r1,q1⟩:=hq0
 refine wpAny_Slice (Bv (hl pins s1 σ H1 _ I1 q1) fun vl s2 ⟨l,H2,I2,pl,q2⟩=>Bv (hu pins s2 σ H2 _ I2 q2) fun vu s3 hq0=>?_)
 obtain ⟨u,H3,I3,pu,q3⟩:=hq0
 rw [evalPart_none]
 refine wpAny_pure ?_
 have I4:Inv X pins σ H3 { s3 with heap:=s3.heap.push { cls:=.type "slice",data:=.fields #[vl,vu,.none] } }:=I3.kept (t':=s3.toks) fun b ob q=>Heap.get?_push_of_some _ q
 obtain ⟨T,id,hT,ht,hg⟩:=hr pins { s3 with heap:=s3.heap.push { cls:=.type "slice",data:=.fields #[vl,vu,.none] } } σ H3 x v vl vu l u s3.heap.objs.size Q I4 r1 (Heap.IsSliceOf.new ..) pl pu q3
 show wpAny (model X.prog X.w) X.A (subscriptTail e (.Slice lo hi none p2) v (.ref s3.heap.objs.size)) (EP X pins σ Q) X.xe { s3 with heap:=s3.heap.push { cls:=.type "slice",data:=.fields #[vl,vu,.none] } }
 exact tail_any (ops:=[.ref s3.heap.objs.size,v]) ht hT hg (by with_unfolding_all rfl)
noncomputable def Ef (xs:List V) (lo hi:Option Int):List V:=(xs.drop (HT.Dt xs.length 0 lo)).take (HT.Dt xs.length xs.length hi - HT.Dt xs.length 0 lo)
theorem JR (xs:List V) (lo hi:Option Int):(Ef xs lo hi).length<=xs.length:=by
 unfold Ef
 rw [List.length_take,List.length_drop]
 omega
noncomputable def jD (K:PySem.W.Frag):V->Option Int->Option Int->Hp->VK->Prop:=fun x lo hi H Q=>∃ a xs,x=.ref a/\G_ K H a xs /\
 ¬ (HT.Dt xs.length 0 lo=0/\HT.Dt xs.length xs.length hi=xs.length)/\∀ p,H p=none->Q (.ref p) (upd H p (.tup (Ef xs lo hi)))
theorem Xw:jP X (jD X.K):=by
 intro pins s σ H x v vl vu lo hi sl Q I rx hs pl pu h
 obtain ⟨a,xs,rfl,hx,hw,q⟩:=h
 cases rx
 obtain ⟨its,r,ht,hz⟩:=I.tuple hx
 have hlen:its.toArray.size=xs.length:=by rw [List.size_toArray]; exact r.length.symm
 refine ⟨"tuple",_,PyProof.Rows.slot_tuple_getitem.lookup,ht.typeIs,?_⟩
 refine HT.Ht ht hs pl pu (by rw [hlen]; exact hw) ?_ (by rw [hlen]; exact hz)
 rw [hlen]
 refine ⟨.ref s.heap.objs.size,_,I.laid (t':=s.toks) (o:=.tup (Ef xs lo hi)) (fun b ob q=>Heap.get?_push_of_some _ q) (Nat.le_refl _) ?_,rfl,q _ (I.hok.fresh (Nat.le_refl _))⟩
 exact ⟨Nat.le_trans (JR xs lo hi) hz,_,(r.drop (HT.Dt xs.length 0 lo)).take (HT.Dt xs.length xs.length hi - HT.Dt xs.length 0 lo),IsTup.new _ _⟩
end
end L2
namespace L2
open PySem PySem.Spec PyProof.Rows
noncomputable def RG (n:Nat) (i:Int):Option Nat:=if 0<=i then (if i<n then some i.toNat else none) else if -(n:Int)<=i then some (i+n).toNat else none
noncomputable def Ly {α:Type} (xs:List α) (i:Int):Option α:=(RG xs.length i).bind fun j=>xs[j]?
theorem Pn {n:Nat} {i:Int} {j:Nat} (h:RG n i=some j):seqIndex? i n=some j/\j<n /\ -(n:Int)<=i/\i<n:=by
 unfold RG at h
 by_cases h0:0<=i
 ·rw [if_pos h0] at h
  by_cases h1:i<n
  ·rw [if_pos h1] at h
   have e:i.toNat=j:=Option.some.inj h
   exact ⟨by rw [seqIndex_of h0 h1,e],by omega,by omega,h1⟩
  ·rw [if_neg h1] at h; cases h
 ·rw [if_neg h0] at h
  by_cases h1 : -(n:Int)<=i
  ·rw [if_pos h1] at h
   have e:(i+n).toNat=j:=Option.some.inj h
   exact ⟨by rw [seqIndex_neg (by omega) h1,e],by omega,h1,by omega⟩
  ·rw [if_neg h1] at h; cases h
theorem K6 {α:Type} {xs:List α} {i:Int} {v:α} (h:Ly xs i=some v):∃ j,seqIndex? i xs.length=some j/\xs[j]? = some v/\j<xs.length /\ -(xs.length:Int)<=i/\i<xs.length:=by
 unfold Ly at h
 cases e:RG xs.length i with
 | none=>rw [e] at h; cases h
 | some j =>
  rw [e] at h
  obtain ⟨h1,h2,h3,h4⟩:=Pn e
  exact ⟨j,h1,h,h2,h3,h4⟩
theorem Ag {α:Type} {xs:List α} {j:Nat} {v:α} (h:xs[j]? = some v):Ly xs (j:Int)=some v:=by
 have hj:j<xs.length:=(List.getElem?_eq_some_iff.mp h).1
 have e:RG xs.length (j:Int)=some j:=by
  unfold RG
  rw [if_pos (by omega),if_pos (by omega)]; simp
 unfold Ly; rw [e]; exact h
noncomputable def VD (b:Expr):Prop:=∀ o i,subscripted b false o i=operate [o,i] (getItem o i)
noncomputable def YL (X:Cx) (r:R2):Prop :=
 ∀ (value slice:Expr) (pins:List (Addr × Obj)) (s:Shared) (σ:St) (H:Hp) (x y:V) (v u:Value) (Q:VK),Inv X pins σ H s->RelV x v->RelV y u->r x y H Q ->
  subscripted slice false v u=operate [v,u] (getItem v u)->wpAny (model X.prog X.w) X.A (subscriptTail value slice v u) (EP X pins σ Q) X.xe s
noncomputable def jL (X:Cx) (id:String) (r:V->List V->Hp->VK->Prop):Prop :=
 ∀ (pins:List (Addr × Obj)) (s:Shared) (σ:St) (H:Hp) (x:V) (xs:List V) (v:Value) (us:List Value) (Q:VK),Inv X pins σ H s->RelV x v->Vals xs us->r x xs H Q ->
  wpAny (model X.prog X.w) X.A (call (.builtin id) (v::us)) (EP X pins σ Q) X.xe s
section
variable {X:Cx} {a b:Expr} {ta tb:TE} {pos:Pos}
theorem Ar {r:R2} (hr:YL X r) (ha:PE X a ta) (hb:PE X b tb) (hs:VD b):PE X (.Subscript a b pos) (Yu r ta tb):=by
 intro pins s σ H Q I h
 exact Subscript_ (W9 ha hb I h fun v u s2 x y H2 I2 rx ry q=>hr a b pins s2 σ H2 x y v u Q I2 rx ry q (hs _ _))
noncomputable def XH (K:PySem.W.Frag):R2:=fun x y H Q=>∃ p xs i v,x=.ref p/\y=.int i/\Cg K H p xs/\Ly xs i=some v/\Q v H
noncomputable def du (K:PySem.W.Frag):R2:=fun x y H Q=>∃ p xs i v,x=.ref p/\y=.int i/\G_ K H p xs/\Ly xs i=some v/\Q v H
noncomputable def jw:R2:=fun x y H Q=>∃ z i c,x=.str z/\y=.int i/\z.length<=sizeLine/\Ly z.cps.toList i=some c/\Q (.str ⟨#[c]⟩) H
theorem Bb:YL X (XH X.K):=by
 intro value slice pins s σ H x y v u Q I rx ry h hs
 obtain ⟨p,xs,i,z,rfl,rfl,hq,he,q⟩:=h
 cases rx
 obtain ⟨t,rfl⟩:=ry
 obtain ⟨its,r,pl,hz⟩:=I.list hq
 obtain ⟨j,h1,h2,h3,h4,h5⟩:=K6 he
 obtain ⟨w,ew,rw'⟩:=r.get h2
 have hl:=r.length
 have hn:=Hr
 have fin:EP X pins σ Q w s:=⟨z,H,I,rw',q⟩
 by_cases h0:0<=i
 ·have hj:i.toNat=j:=by
   rw [seqIndex_of h0 h5] at h1
   exact Option.some.inj h1
  exact item_listR pl.isList h0 (by omega) (by rw [hj]; simpa using ew) fin hs
 ·have hj:(i+(its.toArray.size:Int)).toNat=j:=by
   rw [seqIndex_neg (by omega) h4] at h1
   rw [List.size_toArray,← hl]
   exact Option.some.inj h1
  exact subscriptTail_builtinR (x:=w) pl.isList.typeIs slot_list_getitem.lookup
   (wpAny_getItem_list_neg (Q:=fun r s'=>r=w/\EP X pins σ Q r s') pl.isList (by omega) (by rw [List.size_toArray] <;> omega) (by omega) (by rw [hj]; simpa using ew) ⟨rfl,fin⟩) hs
theorem Ej:YL X (du X.K):=by
 intro value slice pins s σ H x y v u Q I rx ry h hs
 obtain ⟨p,xs,i,z,rfl,rfl,hq,he,q⟩:=h
 cases rx
 obtain ⟨t,rfl⟩:=ry
 obtain ⟨its,r,pl,hz⟩:=I.tuple hq
 obtain ⟨j,h1,h2,h3,h4,h5⟩:=K6 he
 obtain ⟨w,ew,rw'⟩:=r.get h2
 have hl:=r.length
 have hn:=Hr
 have fin:EP X pins σ Q w s:=⟨z,H,I,rw',q⟩
 exact subscriptTail_builtinR (x:=w) pl.typeIs slot_tuple_getitem.lookup
  (getItem_tuple (j:=j) (Q:=fun r s'=>r=w/\EP X pins σ Q r s') pl (by omega) (by omega) (by rw [List.size_toArray,← hl]; exact h1) (by simpa using ew) ⟨rfl,fin⟩) hs
theorem Fo:YL X jw:=by
 intro value slice pins s σ H x y v u Q I rx ry h hs
 obtain ⟨z,i,c,rfl,rfl,hz,he,q⟩:=h
 obtain ⟨t,rfl⟩:=rx
 obtain ⟨t',rfl⟩:=ry
 obtain ⟨j,h1,h2,h3,h4,h5⟩:=K6 he
 have hl:z.cps.toList.length=z.length:=by simp [Str.length]
 rw [hl] at h1 h4 h5
 have hn:=Hr
 exact tail_any (typeIs_str s z t) slot_str_getitem.lookup (getItem_str (c:=c) (by
  have e1:decide (i < -(2 ^ 63:Int))=false:=decide_eq_false (by omega)
  have e2:decide (i ≥ 2 ^ 63)=false:=decide_eq_false (by omega)
  rw [e1,e2,Bool.or_false]) (by rw [h1]; simpa using h2) ⟨.str ⟨#[c]⟩,H,I.tok _,⟨_,rfl⟩,q⟩) hs
theorem Nu (its:List Value) (n j:Nat) (u:Value):Obj.mapSeq (·.setIfInBounds j u) { cls:=.type "list",data:=.seq its.toArray n } = { cls:=.type "list",data:=.seq (its.set j u).toArray n }:=by
 simp [Obj.mapSeq]
theorem Inv.lst {pins:List (Addr × Obj)} {σ:St} {H:Hp} {s:Shared} {p:Addr} {xs:List V} (I:Inv X pins σ H s) (h:H p=some (.lst xs)) :
  ∃ (its:List Value) (n:Nat),Vals xs its/\s.heap.get? p=some { cls:=.type "list",data:=.seq its.toArray n }/\xs.length<=sizeLine:=by
 obtain ⟨z,its,n,r,e⟩:=I.hok p _ h
 exact ⟨its,n,r,e,z⟩
theorem Inv.YM {pins:List (Addr × Obj)} {σ:St} {H:Hp} {s:Shared} {p:Addr} {xs ys:List V} {its its':List Value} {n n':Nat} {f:Obj->Obj} (I:Inv X pins σ H s) (h:H p=some (.lst xs))
  (ho:s.heap.get? p=some { cls:=.type "list",data:=.seq its.toArray n }) (hf:f { cls:=.type "list",data:=.seq its.toArray n } = { cls:=.type "list",data:=.seq its'.toArray n' }) (r:Vals ys its') (hz:ys.length<=sizeLine) (t:Nat) :
  Inv X pins σ (upd H p (.lst ys)) { s with heap:=s.heap.update p f,toks:=t }:=by
 have e:(s.heap.update p f).get? p=some { cls:=.type "list",data:=.seq its'.toArray n' }:=by
  rw [Heap.get?_update_self f ho (by rw [hf] <;> rfl),hf]
 refine I.write (x:=p) (e:=p) (by rw [h]; trivial) (.inl rfl) (fun b u hb q=>(Heap.get?_update_other _ _ (Ne.symm hb)).trans q) ⟨_,e⟩ ?_
 exact ⟨hz,its',n',r,e⟩
noncomputable def eY:V->V->V->Hp->(Hp->Prop)->Prop:=fun o i v H Q=>∃ p xs k j,o=.ref p/\i=.int k/\H p=some (.lst xs)/\RG xs.length k=some j/\Q (upd H p (.lst (xs.set j v)))
theorem set_list:gO X eY:=by
 intro pins s σ H o i v ov iv u Q I ro ri rv h
 obtain ⟨p,xs,k,j,rfl,rfl,hp,hj,q⟩:=h
 cases ro
 obtain ⟨t,rfl⟩:=ri
 obtain ⟨its,n,r,ho,hz⟩:=I.lst hp
 obtain ⟨h1,h2,h3,h4⟩:=Pn hj
 have hl:=r.length
 have hn:=Hr
 have I':Inv X pins σ (upd H p (.lst (xs.set j v))) { s with heap:=s.heap.update p (Obj.mapSeq (·.setIfInBounds j u)) } :=
  I.YM hp ho (Nu its n j u) (r.set rv j) (by rw [List.length_set]; exact hz) s.toks
 by_cases h0:0<=k
 ·have hk:k.toNat=j:=by
   rw [seqIndex_of h0 h4] at h1
   exact Option.some.inj h1
  exact PySem.W.ki_setAt ho h0 (by omega) (by rw [List.size_toArray,← hl]; exact h4) (by rw [hk]; exact ⟨_,I',q⟩)
 ·have hk:(k+(its.toArray.size:Int)).toNat=j:=by
   rw [seqIndex_neg (by omega) h3] at h1
   rw [List.size_toArray,← hl]
   exact Option.some.inj h1
  exact PySem.W.ki_setBack ho (by omega) (by rw [List.size_toArray,← hl]; exact h3) (by omega) (by rw [hk]; exact ⟨_,I',q⟩)
theorem K4 (lo hi:Option Int) (n:Nat):(sliceBounds lo hi none n).1=((HT.Dt n 0 lo:Nat):Int)/\(sliceBounds lo hi none n).2.1=((HT.Dt n n hi:Nat):Int)/\(sliceBounds lo hi none n).2.2=1:=by
 refine ⟨?_,?_,rfl⟩
 ·cases lo with
  | none=>simp [sliceBounds,HT.Dt]
  | some i =>
   simp only [sliceBounds,HT.Dt,Option.getD_none,show (1:Int) > 0 by decide,if_true]
   by_cases h:i<0
   ·simp only [h,if_true] <;> omega
   ·simp only [h,if_false] <;> omega
 ·cases hi with
  | none=>simp [sliceBounds,HT.Dt]
  | some i =>
   simp only [sliceBounds,HT.Dt,Option.getD_none,show (1:Int) > 0 by decide,if_true]
   by_cases h:i<0
   ·simp only [h,if_true] <;> omega
   ·simp only [h,if_false] <;> omega
theorem Ka (its:List Value) (lo hi:Option Int):slicePick its.toArray lo hi none=((its.drop (HT.Dt its.length 0 lo)).take (HT.Dt its.length its.length hi - HT.Dt its.length 0 lo)).toArray:=by
 obtain ⟨h1,h2,h3⟩:=K4 lo hi its.toArray.size
 unfold slicePick
 rw [h1,h2,h3]
 simp only [sliceRange_one,pick_run,List.size_toArray] <;> rfl
noncomputable def iu (K:PySem.W.Frag):V->Option Int->Option Int->Hp->VK->Prop:=fun x lo hi H Q=>∃ a xs,x=.ref a/\Cg K H a xs/\∀ p,H p=none->Q (.ref p) (upd H p (.lst (Ef xs lo hi)))
theorem GD:jP X (iu X.K):=by
 intro pins s σ H x v vl vu lo hi sl Q I rx hs pl pu h
 obtain ⟨a,xs,rfl,hx,q⟩:=h
 cases rx
 obtain ⟨its,r,ht,hz⟩:=I.list hx
 have hlen:=r.length
 refine ⟨"list",_,slot_list_getitem.lookup,ht.isList.typeIs,?_⟩
 refine wpAny_getItem_list_slice ht.isList hs pl pu .none (by simp) ?_ (by rw [List.size_toArray] <;> omega)
 rw [Ka,← hlen]
 refine ⟨.ref s.heap.objs.size,_,I.laid (t':=s.toks) (o:=.lst (Ef xs lo hi)) (fun b ob q=>Heap.get?_push_of_some _ q) (Nat.le_refl _) ?_,rfl,q _ (I.hok.fresh (Nat.le_refl _))⟩
 exact ⟨Nat.le_trans (JR xs lo hi) hz,_,0,(r.drop (HT.Dt xs.length 0 lo)).take (HT.Dt xs.length xs.length hi - HT.Dt xs.length 0 lo),Heap.get?_push_size _ rfl⟩
noncomputable def F_:V->Bool
 | .non=>true
 | .bl _=>true
 | .int _=>true
 | .str _=>true
 | _=>false
noncomputable def Qt:V->V->Bool
 | .non,.non=>true
 | .bl a,.bl b=>a == b
 | .bl a,.int b=>(if a then 1 else 0) == b
 | .int a,.bl b=>a == (if b then 1 else 0)
 | .int a,.int b=>a == b
 | .str a,.str b=>a == b
 | _,_=>false
theorem N_ {A:Around} {s:Shared} {y x:V} {u v:Value} (ry:RelV y u) (rx:RelV x v) (fy:F_ y=true) (fx:F_ x=true):SeqAt.EqAt A s u v (Qt y x):=by
 cases y with
 | non =>
  cases ry
  cases x with
  | non=>cases rx; exact SeqAt.EqAt.same _
  | bl b=>cases rx; exact SeqAt.EqAt.none_bool b
  | int b=>obtain ⟨t,rfl⟩:=rx; exact SeqAt.EqAt.none_int b t
  | str b=>obtain ⟨t,rfl⟩:=rx; exact SeqAt.EqAt.none_str b t
  | _=>exact absurd (show false=true from fx) Bool.false_ne_true
 | bl a =>
  cases ry
  cases x with
  | non=>cases rx; exact SeqAt.EqAt.bool_none a
  | bl b=>cases rx; exact SeqAt.EqAt.bool_bool a b
  | int b=>obtain ⟨t,rfl⟩:=rx; exact SeqAt.EqAt.bool_int a b t
  | str b=>obtain ⟨t,rfl⟩:=rx; exact SeqAt.EqAt.bool_str a b t
  | _=>exact absurd (show false=true from fx) Bool.false_ne_true
 | int a =>
  obtain ⟨t',rfl⟩:=ry
  cases x with
  | non=>cases rx; exact SeqAt.EqAt.int_none a t'
  | bl b=>cases rx; exact SeqAt.EqAt.int_bool a t' b
  | int b=>obtain ⟨t,rfl⟩:=rx; exact SeqAt.EqAt.int_int a t' b t
  | str b=>obtain ⟨t,rfl⟩:=rx; exact SeqAt.EqAt.int_str a t' b t
  | _=>exact absurd (show false=true from fx) Bool.false_ne_true
 | str a =>
  obtain ⟨t',rfl⟩:=ry
  cases x with
  | non=>cases rx; exact SeqAt.EqAt.str_none a t'
  | bl b=>cases rx; exact SeqAt.EqAt.str_bool a t' b
  | int b=>obtain ⟨t,rfl⟩:=rx; exact SeqAt.EqAt.str_int a t' b t
  | str b=>obtain ⟨t,rfl⟩:=rx; exact SeqAt.EqAt.str_str a t' b t
  | _=>exact absurd (show false=true from fx) Bool.false_ne_true
 | _=>exact absurd (show false=true from fy) Bool.false_ne_true
noncomputable def Nx (x:V) (u:Value):Bool:=match u with
 | .none=>Qt .non x
 | .bool b=>Qt (.bl b) x
 | .int i _=>Qt (.int i) x
 | .str z _=>Qt (.str z) x
 | _=>false
theorem Rz {x y:V} {u:Value} (r:RelV y u) (f:F_ y=true):Nx x u=Qt y x:=by
 cases y with
 | non=>cases r; rfl
 | bl b=>cases r; rfl
 | int i=>obtain ⟨t,rfl⟩:=r; rfl
 | str z=>obtain ⟨t,rfl⟩:=r; rfl
 | _=>exact absurd (show false=true from f) Bool.false_ne_true
theorem Hy {x:V}:∀ {xs:List V} {us:List Value},Vals xs us->xs.all F_=true->us.any (Nx x)=xs.any fun y=>Qt y x
 | _,_,.nil,_=>rfl
 | y::xs,u::us,.cons r t,f=>by
  rw [List.all_cons,Bool.and_eq_true] at f
  rw [List.any_cons,List.any_cons,Rz r f.1,Hy t f.2]
theorem Gi {A:Around} {s:Shared} {x:V} {v:Value} (rx:RelV x v) (fx:F_ x=true):∀ {xs:List V} {us:List Value},Vals xs us->xs.all F_=true->∀ u∈us,SeqAt.EqAt A s u v (Nx x u)
 | _,_,.nil,_=>fun u hu=>by cases hu
 | y::xs,u::us,.cons r t,f=>fun u' hu=>by
  rw [List.all_cons,Bool.and_eq_true] at f
  rcases List.mem_cons.mp hu with rfl | hu
  ·rw [Rz r f.1]; exact N_ r rx f.1 fx
  ·exact Gi rx fx t f.2 u' hu
noncomputable def inV (x:V) (xs:List V):Bool:=xs.any fun y=>Qt y x
noncomputable def gP (K:PySem.W.Frag) (neg:Bool):R2:=fun x y H Q=>∃ p xs,y=.ref p/\(Cg K H p xs \/ G_ K H p xs)/\F_ x=true/\xs.all F_=true/\Q (.bl (if neg then !inV x xs else inV x xs)) H
theorem Ky:Gf X (compareOp .In) (gP X.K false):=by
 intro pins s σ H x y v u Q I rx ry h
 obtain ⟨p,xs,rfl,hq,fx,fs,q⟩:=h
 cases ry
 rcases hq with hq | hq
 ·obtain ⟨its,r,pl,hz⟩:=I.list hq
  refine SeqAt.in_listAt (Nx x) pl.isList (fun w hw=>Gi rx fx r fs w (by simpa using hw)) ⟨.bl _,H,I,rfl,?_⟩
  rw [show its.toArray.any (Nx x)=its.any (Nx x) by simp,Hy r fs]
  exact q
 ·obtain ⟨its,r,pl,hz⟩:=I.tuple hq
  refine SeqAt.in_tupleAt (Nx x) pl (fun w hw=>Gi rx fx r fs w (by simpa using hw)) ⟨.bl _,H,I,rfl,?_⟩
  rw [show its.toArray.any (Nx x)=its.any (Nx x) by simp,Hy r fs]
  exact q
theorem Lj:Gf X (compareOp .NotIn) (gP X.K true):=by
 intro pins s σ H x y v u Q I rx ry h
 obtain ⟨p,xs,rfl,hq,fx,fs,q⟩:=h
 cases ry
 rcases hq with hq | hq
 ·obtain ⟨its,r,pl,hz⟩:=I.list hq
  refine SeqAt.notIn_listAt (Nx x) pl.isList (fun w hw=>Gi rx fx r fs w (by simpa using hw)) ⟨.bl _,H,I,rfl,?_⟩
  rw [show its.toArray.any (Nx x)=its.any (Nx x) by simp,Hy r fs]
  exact q
 ·obtain ⟨its,r,pl,hz⟩:=I.tuple hq
  refine SeqAt.notIn_tupleAt (Nx x) pl (fun w hw=>Gi rx fx r fs w (by simpa using hw)) ⟨.bl _,H,I,rfl,?_⟩
  rw [show its.toArray.any (Nx x)=its.any (Nx x) by simp,Hy r fs]
  exact q
theorem BV:Gd X (.builtin "len") (fun xs H Q=>∃ p ys,xs=[.ref p]/\(Cg X.K H p ys \/ G_ X.K H p ys)/\Q (.int ys.length) H):=by
 intro pins s σ H xs us Q I r h
 obtain ⟨p,ys,rfl,hq,q⟩:=h
 obtain ⟨u,rfl,rx⟩:=vals1 r
 cases rx
 have hn:=Hr
 rcases hq with hq | hq
 ·obtain ⟨its,r',pl,hz⟩:=I.list hq
  have hlen:=r'.length
  exact Calls.call_len_list pl.isList (by simp only [List.size_toArray] <;> omega) ⟨.int ys.length,H,I.tok _,⟨s.toks+1,by rw [List.size_toArray,hlen]⟩,q⟩
 ·obtain ⟨its,r',pl,hz⟩:=I.tuple hq
  have hlen:=r'.length
  exact len_tuple pl (by simp only [List.size_toArray] <;> omega) ⟨.int ys.length,H,I.tok _,⟨s.toks+1,by rw [List.size_toArray,hlen]⟩,q⟩
theorem LK:Gd X (.builtin "len") (fun xs H Q=>∃ z,xs=[.str z]/\z.length<=sizeLine/\Q (.int z.length) H):=by
 intro pins s σ H xs us Q I r h
 obtain ⟨z,rfl,hz,q⟩:=h
 obtain ⟨u,rfl,t,rfl⟩:=vals1 r
 have hn:=Hr
 exact len_str (by omega) ⟨.int z.length,H,I.tok _,⟨_,rfl⟩,q⟩
theorem Du:Gd X (.type "list") (fun xs H Q=>∃ p ys,xs=[.ref p]/\(Cg X.K H p ys \/ G_ X.K H p ys)/\∀ l,H l=none->Q (.ref l) (upd H l (.lst ys))):=by
 intro pins s σ H xs us Q I r h
 obtain ⟨p,ys,rfl,hq,q⟩:=h
 obtain ⟨u,rfl,rx⟩:=vals1 r
 cases rx
 have fin:∀ (its:List Value),Vals ys its->ys.length<=sizeLine->∀ (h':Heap) (c':Nat),(∀ b o',s.heap.get? b=some o'->h'.get? b=some o') ->
   h'.get? s.heap.objs.size=some { cls:=.type "list",dict:=none,data:=.seq its.toArray c',slots:=#[] }->EP X pins σ Q (.ref s.heap.objs.size) { s with heap:=h' }:=fun its r' hz h' c' kp e =>
  ⟨.ref s.heap.objs.size,_,I.laid (t':=s.toks) kp (Nat.le_refl _) (show CG X.prog X.w _ h' _ (.lst ys) from ⟨hz,its,c',r',e⟩),rfl,q _ (I.hok.fresh (Nat.le_refl _))⟩
 rcases hq with hq | hq
 ·obtain ⟨its,r',pl,hz⟩:=I.list hq
  have hlen:=r'.length
  obtain ⟨o,ho,hc,n,hd⟩:=pl.isList
  exact call_list_seq p (.inl rfl) ho hc hd (fun h' c' kp e=>fin its r' hz h' c' kp e) (by simp only [List.size_toArray] <;> omega)
 ·obtain ⟨its,r',pl,hz⟩:=I.tuple hq
  have hlen:=r'.length
  obtain ⟨o,ho,hc,n,hd⟩:=pl
  exact call_list_seq p (.inr rfl) ho hc hd (fun h' c' kp e=>fin its r' hz h' c' kp e) (by simp only [List.size_toArray] <;> omega)
noncomputable def i_ (K:PySem.W.Frag) (T:String) (x:V) (H:Hp):Prop:=match x with
 | .str _=>T = "str"
 | .int _=>T = "int"
 | .ref p=>(T = "list" /\ ∃ xs,Cg K H p xs) \/ (T = "tuple" /\ ∃ o,K.lookup p=some o/\o.cls=.type "tuple" /\ o.dict=none) \/
   (T = "dict" /\ ((∃ kvs,H p=some (.dK kvs)) \/ ∃ kvs,H p=some (.dT kvs))) \/ (T = "set" /\ ∃ S n,H p=some (.set S n))
 | _=>False
theorem Tw {pins:List (Addr × Obj)} {σ:St} {H:Hp} {s:Shared} {T:String} {x:V} {v:Value} (I:Inv X pins σ H s) (r:RelV x v) (ty:i_ X.K T x H) :
  s.TypeIs v T/\∀ a,v=.ref a->∃ ob,s.heap.get? a=some ob/\ob.dict=none:=by
 cases x with
 | str z =>
  obtain ⟨t,rfl⟩:=r
  cases (show T = "str" from ty)
  exact ⟨typeIs_str s z t,fun _ e=>nomatch e⟩
 | int i =>
  obtain ⟨t,rfl⟩:=r
  cases (show T = "int" from ty)
  exact ⟨typeIs_int s i t,fun _ e=>nomatch e⟩
 | ref p =>
  cases r
  rcases ty with ⟨rfl,xs,hq⟩ | ⟨rfl,o,hk,hc,hd⟩ | ⟨rfl,hk⟩ | ⟨rfl,S,n,hk⟩
  ·obtain ⟨its,_,pl,_⟩:=I.list hq
   refine ⟨pl.isList.typeIs,fun a e=>?_⟩
   cases e
   obtain ⟨o,n,e,c,hd,_⟩:=pl
   exact ⟨o,e,hd⟩
  ·refine ⟨⟨o,I.Ip p o hk,hc⟩,fun a e=>?_⟩
   cases e
   exact ⟨o,I.Ip _ o hk,hd⟩
  ·have z:∃ o,s.heap.get? p=some o/\o.ExactDict:=by
    rcases hk with ⟨kvs,hk⟩ | ⟨kvs,hk⟩
    ·obtain ⟨_,_,_,_,o,_,_,e,ex,_⟩:=I.hok p _ hk
     exact ⟨o,e,ex⟩
    ·obtain ⟨_,_,_,_,o,_,_,e,ex,_⟩:=I.hok p _ hk
     exact ⟨o,e,ex⟩
   obtain ⟨o,e,ex⟩:=z
   refine ⟨⟨o,e,ex.1⟩,fun a e2=>?_⟩
   cases e2
   exact ⟨o,e,ex.2.1⟩
  ·obtain ⟨o,_,_,_,e,ex,_⟩:=I.hok p _ hk
   refine ⟨⟨o,e,ex.1⟩,fun a e2=>?_⟩
   cases e2
   exact ⟨o,e,ex.2.1⟩
 | _=>exact False.elim ty
noncomputable def iI (K:PySem.W.Frag) (T:String) (r:V->List V->Hp->VK->Prop) (to:TE):TE:=fun σ H Q=>to σ H fun x H1=>i_ K T x H1/\r x [] H1 Q
noncomputable def lG (K:PySem.W.Frag) (T:String) (r:V->List V->Hp->VK->Prop) (to:TE) (t:TA):TE:=fun σ H Q=>to σ H fun x H1=>i_ K T x H1/\t σ H1 fun xs H2=>r x xs H2 Q
variable {o e:Expr} {es:List Expr} {to:TE} {t:TA} {name:Str} {apos cpos:Pos} {T id:String} {r:V->List V->Hp->VK->Prop}
theorem Rx (pa:PlainAttrs T) (slot:Slot T name id) (hty:typeOf (.builtin id)=pure (.type "method_descriptor")) (hm:jL X id r) (ho:PE X o to)
  (hbase:attributeBase o name X.env (eval o X.env)=eval o X.env:=by rfl) (hline:(apos.endLine == cpos.line)=true:=by rfl):PE X (.Call (.Attribute o name apos) [] [] cpos) (iI X.K T r to):=by
 intro pins s σ H Q I h
 refine wpAny_Call_method0_late hbase hline (Bv (ho pins s σ H _ I h) fun v s1 hq0=>?_)
 obtain ⟨x,H1,I1,r1,ty,q1⟩:=hq0
 obtain ⟨h1,h2⟩:=Tw I1 r1 ty
 exact ⟨T,id,pa,slot,hty,h1,h2,Calls.callWith_builtin rfl (PySem.evalArgs_none (hm pins s1 σ H1 x [] v [] Q I1 r1 .nil q1))⟩
theorem Ih (pa:PlainAttrs T) (slot:Slot T name id) (hty:typeOf (.builtin id)=pure (.type "method_descriptor")) (hm:jL X id r) (ho:PE X o to) (ha:PA X (e::es) t)
  (hbase:attributeBase o name X.env (eval o X.env)=eval o X.env:=by rfl)
  (hfew:((backTo cpos (starEach (e::es) X.env)).all (fun x=>!x.1) && (backToKw cpos (keywordEach [] X.env)).all (fun x=>x.1.isSome)
   && decide ((e::es).length+([]:List Keyword).length+(if ([]:List Keyword).isEmpty then 0 else 1)<30))=true:=by rfl)
  (hline:(apos.endLine == cpos.line)=true:=by rfl) (hs:starEach (e::es) X.env=(false,eval e X.env)::starEach es X.env:=by rfl) (hplain:(backTo cpos (starEach es X.env)).any (·.1)=false:=by rfl) :
  PE X (.Call (.Attribute o name apos) (e::es) [] cpos) (lG X.K T r to t):=by
 intro pins s σ H Q I h
 refine wpAny_Call_method_late hbase hfew hline rfl (Bv (ho pins s σ H _ I h) fun v s1 hq0=>?_)
 obtain ⟨x,H1,I1,r1,ty,q1⟩:=hq0
 obtain ⟨h1,h2⟩:=Tw I1 r1 ty
 refine ⟨T,id,pa,slot,hty,h1,h2,?_⟩
 have hA:=ha cpos pins s1 σ H1 _ I1 q1
 rw [hs] at hA ⊢
 refine Calls.callWith_builtin (by show (false || (backTo cpos (starEach es X.env)).any (·.1))=false; rw [hplain] <;> rfl) (Calls.evalArgs_plain ?_)
 exact Bv hA fun us s2 ⟨vs,H2,I2,r2,q2⟩=>hm pins s2 σ H2 x vs v us Q I2 r1 r2 q2
end
end L2
namespace L2
open PySem PySem.Spec PyProof.Rows
noncomputable def kh (X:Cx) (id:String) (r:V->List V->Hp->VK->Prop):Prop :=
 ∀ (pins:List (Addr × Obj)) (s:Shared) (σ:St) (H:Hp) (x:V) (xs:List V) (v:Value) (us:List Value) (Q:VK),Inv X pins σ H s->RelV x v->Vals xs us->r x xs H Q ->
  wpAny (model X.prog X.w) X.A (call (.builtin id) (v::us)) (EP X pins σ Q) X.xe s
theorem Vals.one:∀ {x:V} {us:List Value},Vals [x] us->∃ u,us=[u]/\RelV x u
 | _,_,.cons r .nil=>⟨_,rfl,r⟩
theorem Vals.two:∀ {x y:V} {us:List Value},Vals [x,y] us->∃ u v,us=[u,v]/\RelV x u/\RelV y v
 | _,_,_,.cons r (.cons q .nil)=>⟨_,_,rfl,r,q⟩
section
variable {X:Cx} {pins:List (Addr × Obj)} {σ:St} {H:Hp} {s:Shared} {l b:Addr} {xs ys zs:List V}
theorem Inv.X6 {its its':List Value} {n:Nat} {f:Array Value->Array Value} {t':Nat} (I:Inv X pins σ H s) (hH:H l=some (.lst xs))
  (e:s.heap.get? l=some { cls:=.type "list",data:=.seq its.toArray n }) (hf:f its.toArray=its'.toArray) (hv:Vals ys its') (hz:ys.length<=sizeLine) :
  Inv X pins σ (upd H l (.lst ys)) { s with heap:=s.heap.update l (Obj.mapSeq f),toks:=t' }:=by
 have q:=PySem.IsL.update e f
 rw [hf] at q
 refine I.write (x:=l) (e:=l) (by rw [hH]; exact trivial) (.inl rfl) (fun b' u hb hu=>(Heap.get?_update_other s.heap (Obj.mapSeq f) (Ne.symm hb)).trans hu) ⟨_,q⟩ ?_
 exact ⟨hz,its',_,hv,q⟩
theorem Inv.Va {its:List Value} {t':Nat} (I:Inv X pins σ H s) (hv:Vals ys its) (hz:ys.length<=sizeLine) :
  Inv X pins σ (upd H s.heap.objs.size (.lst ys)) { s with heap:=s.heap.push { cls:=.type "list",data:=.seq its.toArray },toks:=t' } :=
 I.laid (fun _ _ q=>Heap.get?_push_of_some _ q) (Nat.le_refl _) ⟨hz,its,0,hv,Heap.get?_push_size _ rfl⟩
theorem Inv.fresh (I:Inv X pins σ H s):H s.heap.objs.size=none:=I.hok.fresh (Nat.le_refl _)
theorem Inv.Qz (I:Inv X pins σ H s) (hH:H l=some (.lst xs)):xs.length<=sizeLine/\∃ (its:List Value) (n:Nat),Vals xs its/\xs.length=its.length/\s.heap.get? l=some { cls:=.type "list",data:=.seq its.toArray n }:=by
 obtain ⟨z,its,n,r,e⟩:=I.hok l _ hH
 exact ⟨z,its,n,r,r.length,e⟩
theorem Tq {n:Nat} (h:n<=sizeLine):Builtin.List.listTooLong n=false:=by
 unfold Builtin.List.listTooLong
 exact decide_eq_false (by omega)
end
section
variable {X:Cx}
noncomputable def Vd:V->List V->Hp->VK->Prop:=fun x vs H Q=>∃ l xs y,x=.ref l/\vs=[y]/\H l=some (.lst xs)/\xs.length<sizeLine/\Q .non (upd H l (.lst (xs++[y])))
theorem Cm:kh X "list.append" Vd:=by
 intro pins s σ H x vs v us Q I rx rv h
 obtain ⟨l,xs,y,rfl,rfl,hH,hz,q⟩:=h
 cases rx
 obtain ⟨u,rfl,ru⟩:=rv.one
 obtain ⟨z,its,n,r,hl,e⟩:=I.Qz hH
 refine call_meets F.slot_list_append ⟨_,e,rfl⟩ F.entry_list_append (F.args_list_append_2 _ _) (PySem.list_append l its.toArray n u (by rw [List.size_toArray]; omega)) ⟨e,?_⟩
 refine ⟨.non,_,I.X6 (its':=its++[u]) hH e (by simp) (r.append (.cons ru .nil)) ?_,rfl,q⟩
 rw [List.length_append,List.length_singleton]
 omega
noncomputable def Uy:V->List V->Hp->VK->Prop:=fun x vs H Q=>∃ l b xs zs,x=.ref l/\vs=[.ref b]/\H l=some (.lst xs)/\H b=some (.lst zs)/\xs.length+zs.length<=sizeLine/\Q .non (upd H l (.lst (xs++zs)))
theorem Qu:kh X "list.extend" Uy:=by
 intro pins s σ H x vs v us Q I rx rv h
 obtain ⟨l,b,xs,zs,rfl,rfl,hH,hB,hz,q⟩:=h
 cases rx
 obtain ⟨u,rfl,ru⟩:=rv.one
 cases ru
 obtain ⟨z,its,n,r,hl,e⟩:=I.Qz hH
 obtain ⟨z2,its2,n2,r2,hl2,e2⟩:=I.Qz hB
 have hsz:its.toArray.size+its2.toArray.size<=sizeLine:=by rw [List.size_toArray,List.size_toArray]; omega
 have hlong:¬ (!its.toArray.isEmpty && Builtin.List.listTooLong (its.toArray.size+its2.toArray.size))=true:=by
  rw [Tq hsz,Bool.and_false]
  exact Bool.false_ne_true
 refine call_meets F.slot_list_extend ⟨_,e,rfl⟩ F.entry_list_extend (F.args_list_extend_2 _ _)
  (AutoSeq1.list_extend_list_list_0 l its.toArray n b its2.toArray n2 hlong (by rw [List.size_toArray]; omega) (by omega)) ⟨e,e2,?_⟩
 refine ⟨.non,_,I.X6 (its':=its++its2) hH e (by simp) (r.append r2) ?_,rfl,q⟩
 rw [List.length_append]
 omega
noncomputable def kE:R2:=fun x y H Q=>∃ l b xs zs,x=.ref l/\y=.ref b/\H l=some (.lst xs)/\H b=some (.lst zs)/\xs.length+zs.length<=sizeLine/\∀ p,H p=none->Q (.ref p) (upd H p (.lst (xs++zs)))
theorem K7:Gf X (binaryOp .Add) kE:=by
 intro pins s σ H x y v u Q I rx ry h
 obtain ⟨l,b,xs,zs,rfl,rfl,hH,hB,hz,q⟩:=h
 cases rx
 cases ry
 obtain ⟨z,its,n,r,hl,e⟩:=I.Qz hH
 obtain ⟨z2,its2,n2,r2,hl2,e2⟩:=I.Qz hB
 refine PySem.P.add_list e e2 ?_ (by rw [List.size_toArray,List.size_toArray]; omega)
 have ea:its.toArray++its2.toArray=(its++its2).toArray:=by simp
 rw [ea]
 exact ⟨.ref _,_,I.Va (t':=s.toks) (r.append r2) (by rw [List.length_append]; omega),rfl,q _ I.fresh⟩
end
section
variable {prog:Program} {w:World} {A:Around} {E:Value->Shared->Prop} {s:Shared}
end
section
variable {X:Cx}
end
end L2
namespace Att
open PySem PySem.W PySem.Calls PyProof.Rows
theorem Ja {P:Params} {h:Heap}:∀ (ns:List Int) (vs:List Value),WellAll P h vs (ns.map WData.int)->IntsAre vs ns:=by
 intro ns
 induction ns with
 | nil =>
  intro vs w
  rw [List.map_nil] at w
  cases w
  exact .nil
 | cons n ns ih =>
  intro vs w
  rw [List.map_cons] at w
  cases w with
  | cons a b =>
   cases a
   exact .cons _ _ (ih _ b)
theorem Qi {l:OpenLaw} {n:Nat} (hn:l.most=some n) {P:Params} {h:Heap} {args:List WData} {vals:List Value}
  (hpre:l.row.toRowW.claim.pre args=true) (hwl:WellAll P h vals args) :
  ∃ a vs ns,vals=[Value.ref a]/\args=[WData.list (ns.map WData.int)]/\h.get? a=some { cls:=.type "list",data:=.seq vs.toArray }/\IntsAre vs ns/\ns.length<=n:=by
 have hsh:WShape.hasAll [] args [.list .int]=true:=(pre_splitW hpre).1
 have hc:l.pre.holds [] { args:=args }=true:=(pre_splitW hpre).2
 obtain ⟨d,r,rfl,h1,h2⟩:=hasAllW_cons hsh
 obtain rfl:=hasAllW_nil h2
 obtain ⟨xs,rfl,h3⟩:=hasW_list h1
 obtain ⟨ns,rfl⟩:=items_int h3
 have hlen:ns.length<=n:=by
  unfold OpenLaw.pre at hc
  have h4:(WTm.not (.lt (.lit (.int (n:Int))) (.len (.arg 0)))).holds [] { args:=[.list (ns.map .int)] }=true:=by
   have h4:=(holds_andW hc).1
   rw [hn] at h4
   exact h4
  have h5:=condW_of h4 (w_not (w_lt w_lit (w_len_list (w_arg rfl))))
  rw [List.length_map] at h5
  refine Nat.le_of_not_lt fun q=>?_
  have q':(n:Int)<((ns.length:Nat):Int):=by omega
  first
   | (rw [decide_eq_true q'] at h5; exact absurd h5 (by decide))
   | (simp at h5; omega)
 cases hwl with
 | cons w1 w2 =>
  cases w2
  cases w1 with
  | list ho hall=>exact ⟨_,_,ns,rfl,rfl,ho,Ja ns _ hall,hlen⟩
theorem QR (l:OpenLaw) (args:List WData):l.row.toRowW.claim.post args (.bool true) args=true :=
 postW_of (r:=l.row.toRowW) (X:=(true == true))
  (show WShape.has [] (.bool true) .bool=true by first | rfl | decide | simp [WShape.has,WShape.arms,WShape.armsAll])
  (show (WTm.eq .res (.lit (.bool true))).value [] { args:=args,res:=some (.bool true),after:=args }=some (.bool (true == true)) from w_eq_bool (w_res rfl) w_lit) rfl
theorem Ni {l:OpenLaw} {n:Nat} {q:Program} {loose:List Str} {XP:(Str->Option Value)->Heap->Prop} {YP:World->Heap->Prop} {d:DefRec}
  (hn:l.most=some n) (hdf:d.params.defaults=[])
  (call:∀ (w:World) (s₀ s₁:Shared) (mg mb:Str->Option Value) (fa:Addr) (o:Obj) (pm cd doc:Value) (a:Addr) (vs:List Value) (ns:List Int),
   Ground q loose [] XP w s₀ mg mb s₁.heap->YP w s₁.heap ->
   s₁.heap.get? fa=some o->o.data=.func (docDef d.name d.params d.body d.scope pm cd doc)->s₁.heap.CodeRec cd d.name->mg d.name=some (.ref fa) ->
   s₁.heap.get? a=some { cls:=.type "list",data:=.seq vs.toArray }->IntsAre vs ns->ns.length<=n->s₁.gens = #[] ->
   codeAny (model l.prog w) callerA (.call (.ref fa) ⟨[.ref a],[]⟩) (fun r s'=>r=.ok (.ret (.bool true))/\OldK s₁.heap s'.heap/\s'.os=s₁.os/\AllBare s'.gens) s₁) :
  WalkO q loose XP YP l.row.toRowW d [] (fun f vs=>PySem.call f vs):=by
 intro w s₀ s₁ mg mb G Y fa o pm cd doc dV kV ho hd hcd hD hmg hg args vals as hpre hlay hrd hwl hlo
 obtain rfl:dV=.none:=Dflts.none hD hdf
 obtain rfl:kV=.none:=Dflts.noKw hD
 obtain ⟨a,vs,ns,rfl,rfl,hobj,hints,hlen⟩:=Qi hn hpre hwl
 refine enter_call (codeAny_mono (call w s₀ s₁ mg mb fa o pm cd doc a vs ns G Y ho (fd_plain hd) hcd hmg hobj hints hlen hg) fun r s' hq=>?_)
 obtain ⟨rfl,h2,h3,h4⟩:=hq
 exact ⟨.inl ⟨.bool true,.bool true,[],rfl,fun _=>rfl,.bool true,QR l _,fun _=>⟨List.Pairwise.nil,fun _ hm=>(nomatch hm)⟩⟩,h2,h3,h4⟩
section
variable {prog:Program} {w:World} {A:Around} {E:Value->Shared->Prop} {s:Shared} {K:Frag}
end
end Att
namespace L2
open PySem PySem.Spec PyProof.Rows
theorem Kq:∀ {vs:List Value} {ns:List Int},IntsAre vs ns->Vals (ns.map V.int) vs
 | _,_,.nil=>.nil
 | _,_,.cons n t h=>.cons ⟨t,rfl⟩ (Kq h)
noncomputable def Only (H:Hp):Prop:=∀ b,H b=none \/ ∃ o xs,H b=some (.frz o (.lst xs))
theorem SN {P:Program} {w:World} {K:PySem.W.Frag} {mg mb:Str->Option Value} {CX:QF} {k:Nat} {fa a:Addr} {fd:FuncData} {x:Str} {sp:Sp} {s₁:Shared} {vs:List Value} {ns:List Int}
  (KX:K.In s₁.heap) (hns:s₁.heap.Ns mainGlobals mg) (hb:s₁.heap.Ns builtinsNs mb) (hbb:∀ x:Str,x ≠ "__name__"->mb x=bootBuiltins x) (hlim:s₁.heap.NoLimit) (hg:s₁.gens = #[])
  (ha:s₁.heap.get? a=some { cls:=.type "list",data:=.seq vs.toArray }) (hi:IntsAre vs ns) (hl:ns.length<=sizeLine) (hr:BZ k callerA)
  (F:∀ base:Heap,K.In base->base.Ns mainGlobals mg->A_ P w K mg base CX k fa fd [x] sp) (hbind:∀ (s:Shared) (u:Value),BindsTo s fd ⟨[u],[]⟩ [(x,u)])
  (hsp:∀ H:Hp,Only H->Cg K H a (ns.map V.int)->sp [.ref a] H (fun v _=>v=.bl true) fun _ _ _=>False)
  (hCX:∀ H e s',CX [] H s₁ (fun _ _ _=>False) e s'->False) :
  codeAny (model P w) callerA (.call (.ref fa) ⟨[.ref a],[]⟩) (fun r s'=>r=.ok (.ret (.bool true))/\OldK s₁.heap s'.heap/\s'.os=s₁.os/\AllBare s'.gens) s₁:=by
 have rv:=Kq hi
 have lenV:=hi.length
 have core:∀ H:Hp,Only H->Cg K H a (ns.map V.int)->Hs P w H s₁.heap->(∀ b,H b ≠ none->b=a)->(H a ≠ none->K.lookup a=none) ->
   codeAny (model P w) callerA (.call (.ref fa) ⟨[.ref a],[]⟩) (fun r s'=>r=.ok (.ret (.bool true))/\OldK s₁.heap s'.heap/\s'.os=s₁.os/\AllBare s'.gens) s₁:=by
  intro H hO hS hok hA hK
  have base_of:∀ {b:Addr} {o:Obj},s₁.heap.get? b=some o->H b=none->(La s₁.heap H).get? b=some o:=fun e n=>Tn e n
  have noA:∀ {b:Addr} {o:Obj} {es:Array DictEntry} {ep:Nat},s₁.heap.get? b=some o->o.data=.dict es ep->H b=none:=fun {b o es ep} e d=>by
   cases q:H b with
   | none=>rfl
   | some u =>
    have e':b=a:=hA b (by rw [q]; simp)
    subst e'
    rw [ha] at e; cases e
    have d':Data.seq vs.toArray _=Data.dict es ep:=d
    cases d'
  have nsK:∀ {b:Addr} {m:Str->Option Value},s₁.heap.Ns b m->(La s₁.heap H).Ns b m:=fun {b m} ⟨o,es,ep,e,d,r⟩=>⟨o,es,ep,base_of e (noA e d),d,r⟩
  have hKb:K.In (La s₁.heap H):=fun b o e=>base_of (KX b o e) (by
   cases q:H b with
   | none=>rfl
   | some u =>
    have e':b=a:=hA b (by rw [q]; simp)
    subst e'
    rw [hK (by rw [q]; simp)] at e; cases e)
  have hM:Mod K mg (La s₁.heap H):=⟨hKb,nsK hns,⟨mb,nsK hb,hbb⟩,let ⟨mc,h1,h2⟩:=hlim; ⟨mc,nsK h1,h2⟩⟩
  have e0:Mg P w K mg (La s₁.heap H) callerA [] s₁ H:=⟨rfl,hM,fun b o e=>Uz e,Nat.le_of_eq (Q6 _ _),trivial,fun b hb=>absurd (show b∈([]:List Addr) from hb) (by simp),hok,.of_eq hg⟩
  refine codeAny_mono ((F _ hKb (nsK hns)).run callerA [] s₁ H ⟨[.ref a],[]⟩ [.ref a] [.ref a] _ _ hr e0 (hbind s₁ (.ref a)) (.cons rfl .nil) (hsp H hO hS)) fun r s' h=>?_
  cases r with
  | error e=>exact (hCX H e s' h).elim
  | ok fl =>
   cases fl with
   | next=>exact False.elim h
   | brk=>exact False.elim h
   | cont=>exact False.elim h
   | ret u =>
    obtain ⟨v,H',os,bare,un,hok',r',q⟩:=h
    have q':v=.bl true:=q
    subst q'
    obtain rfl:u=Value.bool true:=r'
    refine ⟨rfl,OldK.of_keep fun b o e=>?_,os,bare⟩
    cases q:H b with
    | none=>exact un.keep b o e q (by intro z; exact absurd (show b∈([]:List Addr) from z) (by simp)) (by simp)
    | some u =>
     rcases hO b with z | ⟨ob,xs,z⟩
     ·rw [q] at z; cases z
     ·have z2:=un.frzs b ob _ z
      obtain ⟨e1,_⟩:=hok b _ z
      obtain ⟨e2,_⟩:=hok' b _ z2
      rw [e] at e1; cases e1
      exact e2
 cases hk:K.lookup a with
 | some o =>
  have e:=KX a o hk
  rw [ha] at e
  cases e
  refine core (fun _=>none) (fun _=>.inl rfl) (.inr ⟨_,vs.toArray,_,hk,rfl,rfl,rfl,by rw [List.size_toArray,lenV]; exact hl,by simpa using rv⟩) (fun b u z=>by have z':(none:Option HO)=some u:=z; cases z') (fun b z=>absurd rfl z) fun z=>absurd rfl z
 | none =>
  refine core (fun b=>if b=a then some (.frz { cls:=.type "list",data:=.seq vs.toArray } (.lst (ns.map V.int))) else none) (fun b=>?_) (.inl (.inr ⟨{ cls:=.type "list",data:=.seq vs.toArray },if_pos rfl⟩)) (fun b u z=>?_) (fun b z=>?_) fun _=>hk
  ·by_cases hb:b=a
   ·exact .inr ⟨_,_,if_pos hb⟩
   ·exact .inl (if_neg hb)
  ·by_cases hb:b=a
   ·have z':=(if_pos hb).symm.trans z
    cases z'
    subst hb
    exact ⟨ha,by rw [List.length_map]; exact hl,vs,_,rv,ha⟩
   ·have z':=(if_neg hb).symm.trans z
    cases z'
  ·by_cases hb:b=a
   ·exact hb
   ·exact absurd (if_neg hb) z
end L2
namespace L2
open PySem PySem.Spec PyProof.Rows
theorem VG {l:PySem.W.OpenLaw} {n k:Nat} {q:Program} {loose:List Str} {XP:(Str->Option Value)->Heap->Prop} {YP:World->Heap->Prop} {d:DefRec} {K:Params->PySem.W.Frag} {CX:World->QF} {sp:World->Sp} {x:Str}
  (hn:l.most=some n) (hn2:n<=sizeLine) (hdf:d.params.defaults=[]) (hr:BZ k callerA)
  (hY:∀ (w:World) (h:Heap),YP w h->(K w.params).In h)
  (F:∀ (w:World) (mg:Str->Option Value) (fa:Addr) (h:Heap),(K w.params).In h->h.Ns mainGlobals mg->mg d.name=some (.ref fa) ->
   ∃ fd:FuncData,(∀ (s:Shared) (u:Value),BindsTo s fd ⟨[u],[]⟩ [(x,u)]) /\
    ∀ base:Heap,(K w.params).In base->base.Ns mainGlobals mg->A_ l.prog w (K w.params) mg base (CX w) k fa fd [x] (sp w))
  (hsp:∀ (w:World) (H:Hp) (a:Addr) (ns:List Int),ns.length<=n->Only H->Cg (K w.params) H a (ns.map V.int)->sp w [.ref a] H (fun v _=>v=.bl true) fun _ _ _=>False)
  (hCX:∀ (w:World) (H:Hp) (s:Shared) (e:Value) (s':Shared),CX w [] H s (fun _ _ _=>False) e s'->False) :
  PySem.W.WalkO q loose XP YP l.row.toRowW d [] (fun f vs=>PySem.call f vs):=by
 refine Att.Ni hn hdf fun w s₀ s₁ mg mb fa o pm cd doc a vs ns G Y ho hd hcd hmg hobj hints hlen hg=>?_
 have KX:=hY w _ Y
 obtain ⟨fd,hb,hF⟩:=F w mg fa _ KX G.T.g hmg
 exact SN KX G.T.g G.T.b G.T.builtins G.T.nolimit hg hobj hints (Nat.le_trans hlen hn2) hr hF hb (fun H hO hS=>hsp w H a ns hlen hO hS) fun H e s'=>hCX w H s₁ e s'
end L2
namespace L2
open PySem PySem.Spec PyProof.Rows
noncomputable def inClass (s:Stmt) (j:Nat):Stmt:=match s with
 | .ClassDef _ _ _ body _ _ _ _ _ _ _=>body.getD j (.Pass ⟨0,0,0,0⟩)
 | _=>.Pass ⟨0,0,0,0⟩
noncomputable def Ax (s:Stmt):Arguments:=match s with
 | .FunctionDef _ a _ _ _ _ _ _ _ _=>a
 | _=>{ posonlyargs:=[],args:=[],vararg:=none,kwonlyargs:=[],kw_defaults:=[],kwarg:=none,defaults:=[] }
noncomputable def Aw (s:Stmt):List Stmt:=match s with
 | .FunctionDef _ _ b _ _ _ _ _ _ _=>b
 | _=>[]
noncomputable def Ab (s:Stmt):Scope:=match s with
 | .FunctionDef _ _ _ _ _ _ sc _ _ _=>sc
 | _=>{ kind:=.function,names:=[],isGenerator:=false,isCoroutine:=false }
noncomputable abbrev Bf:QF:=fun _ _ _ _ _ _=>False
noncomputable abbrev E0:XK:=fun _ _ _=>False
theorem Av {X:Cx}:HR Bf X E0:=fun _ _ _ _ _ _ _ h=>h.elim
structure DW (K:PySem.W.Frag) (x qual:Str) (st:Stmt) (f:Addr) (fd:FuncData):Prop where
 ex:∃ (oc:Value) (od:Option Addr) (kV doc pm:Value) (an:Option Addr) (cdv ct:Value) (osl:Array (Option Value)),
  fd=PySem.W.fnOf x qual (Ax st) (Aw st) (Ab st) .none kV doc pm an cdv ct/\K.lookup f=some ⟨oc,od,.func fd,osl⟩/\PySem.W.codeIn K cdv qual=true
 kp:PySem.W.keepIn K (.ref f)=true
section
variable {P:Program} {w:World} {K:PySem.W.Frag} {mg:Str->Option Value} {base:Heap}
theorem DW.ok {x qual:Str} {st:Stmt} {f:Addr} {fd:FuncData} {N ps:List Str} {k:Nat} {sp:Sp} (F:DW K x qual st f fd) (S:Ay N ps (Ab st)) (len:∀ vs H Q E,sp vs H Q E->vs.length=ps.length)
  (hbody:∀ (cdv:Value) (A:Around) (outer:List Env) (s:Shared) (H:Hp) (vs:List V) (Q:VK) (E:XK),BZ k (A.deeper (envOfC qual (Ab st) s.heap.objs.size f cdv))->sp vs H Q E ->
   ∃ t,N7 (Qm Bf P w K mg base N qual (Ab st) f cdv A outer s H E).gf (Aw st) t/\t { nx:=fun _ H'=>Q .non H',rt:=Q } (start N vs) H):A_ P w K mg base Bf (k+1) f fd ps sp:=by
 obtain ⟨oc,od,kV,doc,pm,an,cdv,ct,osl,rfl,lk,hcd⟩:=F.ex
 refine fM lk hcd S len fun A outer s H vs Q E hr hsp=>?_
 obtain ⟨t,h,q⟩:=hbody cdv A outer s H vs Q E hr hsp
 exact ⟨t,h.gf,q⟩
theorem DW.binds {x qual:Str} {st:Stmt} {f:Addr} {fd:FuncData} {ps:List Str} (F:DW K x qual st f fd)
  (h:∀ (kV doc pm:Value) (an:Option Addr) (cdv ct:Value) (us:List Value),us.length=ps.length->bindArgs (PySem.W.fnOf x qual (Ax st) (Aw st) (Ab st) .none kV doc pm an cdv ct) ⟨us,[]⟩=pure (ps.zip us)):Binds K fd ps []:=by
 obtain ⟨oc,od,kV,doc,pm,an,cdv,ct,osl,rfl,lk,hcd⟩:=F.ex
 exact .all (h kV doc pm an cdv ct)
theorem BP {x qual:Str} {st:Stmt} {f:Addr} {oc:Value} {od an:Option Addr} {osl:Array (Option Value)} {kV doc pm cdv ct:Value} (l:K.lookup f=some ⟨oc,od,.func (PySem.W.fnOf x qual (Ax st) (Aw st) (Ab st) .none kV doc pm an cdv ct),osl⟩)
  (c:PySem.W.codeIn K cdv qual=true) (k:PySem.W.keepIn K (.ref f)=true):DW K x qual st f (PySem.W.fnOf x qual (Ax st) (Aw st) (Ab st) .none kV doc pm an cdv ct):=⟨⟨oc,od,kV,doc,pm,an,cdv,ct,osl,rfl,l,c⟩,k⟩
end
theorem HH {A:Around} {k:Nat} (hr:BZ k A):A.units+1<cLine:=Nat.lt_of_le_of_lt (Nat.add_le_add_left (by decide:1<=64) _) hr.units
theorem Aq {n:Nat} (h:n<=1000):n<sizeLine:=Nat.lt_of_le_of_lt h (by decide)
section
variable {X:Cx}
theorem pv (i:Nat) {x:Str} {pos:Pos} (hN:X.N[i]? = some x:=by rfl) (hv:iH X.env.scope x:=by first | exact Or.inl rfl | exact Or.inr (Or.inl rfl) | exact Or.inr (Or.inr rfl)) (hd:(x == ("__debug__" : Str))=false:=by decide)
  (hcd:(x == ("__classdict__" : Str))=false:=by decide):PE X (.Name x pos) (fP i):=W7 hN hv hd hcd
end
theorem Gh {A B:Prop} (h:B):if false=true then A else B:=by
 rw [if_neg Bool.false_ne_true]
 exact h
theorem GZ {A B:Prop} (h:A):if true=true then A else B:=by
 rw [if_pos rfl]
 exact h
theorem B_ {c A B:Prop} [Decidable c] (h1:c->A) (h2:¬ c->B):if c then A else B:=by
 by_cases h:c
 ·rw [if_pos h]
  exact h1 h
 ·rw [if_neg h]
  exact h2 h
theorem WL {c A B:Prop} [Decidable c] (hc:c) (h:B):if (!decide c)=true then A else B:=by
 rw [decide_eq_true hc]
 exact Gh h
noncomputable def Ak (H H':Hp):Prop:=∀ b o,H b=some o->H' b=some o
theorem Ak.refl (H:Hp):Ak H H:=fun _ _ h=>h
theorem Ak.trans {H H1 H2:Hp} (a:Ak H H1) (b:Ak H1 H2):Ak H H2:=fun c o h=>b c o (a c o h)
theorem Ak.free {H H':Hp} (e:Ak H H') {l:Addr} (h:H' l=Option.none):H l=Option.none:=by
 cases q:H l with
 | none=>rfl
 | some o =>
  rw [e l o q] at h
  cases h
theorem Ak.seq {K:PySem.W.Frag} {H H':Hp} {a:Addr} {xs:List V} (e:Ak H H') (h:Cg K H a xs):Cg K H' a xs:=by
 rcases h with (h | ⟨o,h⟩) | h
 ·exact .inl (.inl (e _ _ h))
 ·exact .inl (.inr ⟨o,e _ _ h⟩)
 ·exact .inr h
end L2
namespace L2
open PySem PySem.Spec PyProof.Rows
section
variable {X:Cx}
end
section
variable {κ:Type} [DecidableEq κ]
theorem Ph:∀ {l:List κ} {k:κ},l.Nodup->¬ k∈l->(l++[k]).Nodup
 | [],k,_,_=>by simp
 | a::r,k,h,hk=>by
  obtain ⟨h1,h2⟩:=List.nodup_cons.mp h
  show (a::(r++[k])).Nodup
  refine List.nodup_cons.mpr ⟨fun m=>?_,Ph h2 fun m=>hk (List.mem_cons.mpr (Or.inr m))⟩
  rcases List.mem_append.mp m with q | q
  ·exact h1 q
  ·exact hk (List.mem_cons.mpr (Or.inl (List.mem_singleton.mp q).symm))
end
end L2
namespace L2
open PySem PySem.Spec PyProof.Rows
section
variable {prog:Program} {w:World} {A:Around} {E:Value->Shared->Prop} {s:Shared}
theorem J7 {it a:Addr} {i:Nat} {items:Array Value} {x:Value} {Q:Value->Shared->Prop} (j:s.heap.IsTupleIter it a i) (ht:s.heap.IsTuple a items) (hx:items[i]? = some x)
  (q:∀ h',h'.IsTupleIter it a (i+1)->Heap.SameBut it s.heap h'->Q x { s with heap:=h' }):wpAny (model prog w) A (Builtin.SmallTypes.nextOf (.ref it)) Q E s:=by
 have j0:=j
 obtain ⟨o,e,c,d⟩:=j
 obtain ⟨oa,ea,_,n,da⟩:=ht
 unfold Builtin.SmallTypes.nextOf
 refine wpAny_bind (wpAny_callSpecial?_slot (name:=Str.ofString "__next__") j0.typeIs F.slot_tuple_iterator_next (wpAny_call_entry F.slot_tuple_iterator_next j0.typeIs F.entry_tuple_iterator_next ?_ (F.args_tuple_iterator_next_1 _)))
 refine (show wpAny _ _ (field (.ref it) 0 >>= _) _ _ s from wpAny_bind (wpAny_field e d (x:=.ref a) rfl ?_))
 refine (show wpAny _ _ (if (Value.ref a == Value.none)=true then _ else _) _ _ s from ?_)
 rw [if_neg (by exact Bool.false_ne_true)]
 refine (show wpAny _ _ (field (.ref it) 1 >>= _) _ _ s from wpAny_bind (wpAny_field e d (x:=.int i 0) rfl ?_))
 refine (show wpAny _ _ (seqItems? (.ref a) >>= _) _ _ s from wpAny_bind (wpAny_seqItems ea da ?_))
 simp only [Int.toNat_natCast,hx]
 exact wpAny_bind (wpAny_setField e d (by simp) (wpAny_pure ⟨x,rfl,wpAny_pure (q _ ⟨_,Heap.get?_update_self _ e (Obj.isFreed_of_fields (Obj.data_mapFields d _)),(Obj.cls_mapFields ..).trans c,by rw [Obj.data_mapFields d]; simp [rawInt]⟩ (Heap.SameBut.update ..))⟩))
theorem Jp {it a:Addr} {i:Nat} {items:Array Value} {Q:Value->Shared->Prop} (hh:A.handled=none) (j:s.heap.IsTupleIter it a i) (ht:s.heap.IsTuple a items) (hx:items[i]? = none)
  (q:∀ h' e,Heap.ExtBut it s.heap h'->(∃ o,h'.get? e=some o/\o.cls=.type "StopIteration")->E (.ref e) { s with heap:=h' }):wpAny (model prog w) A (Builtin.SmallTypes.nextOf (.ref it)) Q E s:=by
 have j0:=j
 obtain ⟨o,e,c,d⟩:=j
 obtain ⟨oa,ea,_,n,da⟩:=ht
 unfold Builtin.SmallTypes.nextOf
 refine wpAny_bind (wpAny_callSpecial?_slot (name:=Str.ofString "__next__") j0.typeIs F.slot_tuple_iterator_next (wpAny_call_entry F.slot_tuple_iterator_next j0.typeIs F.entry_tuple_iterator_next ?_ (F.args_tuple_iterator_next_1 _)))
 refine (show wpAny _ _ (field (.ref it) 0 >>= _) _ _ s from wpAny_bind (wpAny_field e d (x:=.ref a) rfl ?_))
 refine (show wpAny _ _ (if (Value.ref a == Value.none)=true then _ else _) _ _ s from ?_)
 rw [if_neg (by exact Bool.false_ne_true)]
 refine (show wpAny _ _ (field (.ref it) 1 >>= _) _ _ s from wpAny_bind (wpAny_field e d (x:=.int i 0) rfl ?_))
 refine (show wpAny _ _ (seqItems? (.ref a) >>= _) _ _ s from wpAny_bind (wpAny_seqItems ea da ?_))
 simp only [Int.toNat_natCast,hx]
 refine wpAny_bind (wpAny_rule (wpAny_bind (wpAny_setField e d (by simp) (show wpAny _ _ (newExc (.type "StopIteration") [] >>= _) _ _ _ from wpAny_bind ?_))))
 simp only [newExc,newTuple]
 refine wpAny_bind (wpAny_newObj_type (wpAny_bind (m:=firstArgMember _ _) (wpAny_of_eq (a:=Value.none) (by first | rfl | (simp only [firstArgMember]; rfl)) (wpAny_newObj_type ?_ (by size_fits)))) (by size_fits))
 simp only [raiseNew]
 refine wpAny_bind (wpAny_handled ?_)
 first | rw [show A.in1.handled=none from hh] | rw [hh]
 exact wpAny_bind (wpAny_pure (wpAny_throw (q _ _ (((Heap.SameBut.update ..).extBut.push _).push _) ⟨_,Heap.get?_push_size _ rfl,rfl⟩)))
theorem Q8 {z TI TO i1 i2 a1 a2:Addr} {k:Nat} {xs ys:Array Value} {x y a b:Value} {Q:Value->Shared->Prop} (D:ZipApart z TI TO i1 i2 a1 a2)
  (hz:IsZip s.heap z TI TO .none) (hI:IsPair s.heap TI (.ref i1) (.ref i2)) (hO:IsPair s.heap TO a b)
  (j1:s.heap.IsTupleIter i1 a1 k) (j2:s.heap.IsTupleIter i2 a2 k) (t1:s.heap.IsTuple a1 xs) (t2:s.heap.IsTuple a2 ys) (hx:xs[k]? = some x) (hy:ys[k]? = some y)
  (q:∀ h',IsZip h' z TI TO (rawInt s.heap.objs.size)->IsPair h' TO x y->h'.IsTupleIter i1 a1 (k+1)->h'.IsTupleIter i2 a2 (k+1)->IsPair h' s.heap.objs.size x y->h'.objs.size=s.heap.objs.size+1 ->
   (∀ c o,c ≠ z->c ≠ TO->c ≠ i1->c ≠ i2->s.heap.get? c=some o->h'.get? c=some o)->Q (.ref s.heap.objs.size) { s with heap:=h' }) :
  wpAny (model prog w) A (Builtin.«zip.__next__» ⟨[.ref z],[]⟩) (fun fin s'=>∃ v,fin=.done (.ret v)/\Q v s') E s:=by
 refine (show wpAny _ _ (field (.ref z) 2 >>= _) _ _ _ from wpAny_bind (wpAny_field hz rfl (x:=.bool false) rfl (show wpAny _ _ (field (.ref z) 3 >>= _) _ _ _ from wpAny_bind (wpAny_field hz rfl (x:=.ref TI) rfl (wpAny_bind (wpAny_seqItems hI rfl ?_))))))
 refine (show wpAny _ _ (Builtin.SmallTypes.ownedTupleIsFree (.ref z) >>= _) _ _ _ from wpAny_bind ?_)
 unfold Builtin.SmallTypes.ownedTupleIsFree
 refine wpAny_bind (wpAny_field hz rfl (x:=.none) rfl (wpAny_pure ?_))
 simp only [if_true]
 refine wpAny_bind (wpAny_rule (wpAny_bind (wpAny_field hz rfl (x:=.ref TO) rfl (wpAny_bind (wpAny_setField_rec hz (by simp) fun h1 z1 s1=>?_)))))
 have y1:IsZip h1 z TI TO .ellipsis:=z1
 refine wpAny_bind ?_
 simp only [List.zipIdx_cons,List.zipIdx_nil,List.forIn_cons,List.forIn_nil]
 refine wpAny_bind (wpAny_bind (wpAny_onRaise (show wpAny _ _ (Builtin.SmallTypes.nextOf (.ref i1) >>= _) _ _ _ from wpAny_bind (J7 (j1.at fun o e=>s1.extBut _ _ D.i1z e) (t1.at fun o e=>s1.extBut _ _ D.l1z e) hx fun h2 n1 s2=>wpAny_pure ?_))))
 have o2:IsPair h2 TO a b:=s2.extBut _ _ D.TOi1 (s1.extBut _ _ D.TOz hO)
 refine wpAny_bind (wpAny_seqItems o2 rfl (wpAny_bind (wpAny_updateSeq_pair o2 fun h3 p3 s3=>?_)))
 have o3:IsPair h3 TO x b:=p3
 refine wpAny_bind (wpAny_letGo (wpAny_pure ?_))
 refine wpAny_bind (wpAny_bind (wpAny_onRaise (show wpAny _ _ (Builtin.SmallTypes.nextOf (.ref i2) >>= _) _ _ _ from wpAny_bind (J7 (j2.at fun o e=>s3.extBut _ _ D.TOi2.symm (s2.extBut _ _ D.i12.symm (s1.extBut _ _ D.i2z e)))
  (t2.at fun o e=>s3.extBut _ _ D.l2TO (s2.extBut _ _ D.l2i1 (s1.extBut _ _ D.l2z e))) hy fun h4 n2 s4=>wpAny_pure ?_))))
 have o4:IsPair h4 TO x b:=s4.extBut _ _ D.TOi2 o3
 refine wpAny_bind (wpAny_seqItems o4 rfl (wpAny_bind (wpAny_updateSeq_pair o4 fun h5 p5 s5=>?_)))
 have o5:IsPair h5 TO x y:=p5
 refine wpAny_bind (wpAny_letGo (wpAny_pure (wpAny_pure (wpAny_bind (wpAny_seqItems o5 rfl (wpAny_bind (wpAny_newTuple ?_)))))))
 have zs:h5.objs.size=s.heap.objs.size:=by rw [s5.1,s4.1,s3.1,s2.1,s1.1]
 have y5:IsZip h5 z TI TO .ellipsis:=s5.extBut _ _ D.TOz.symm (s4.extBut _ _ D.i2z.symm (s3.extBut _ _ D.TOz.symm (s2.extBut _ _ D.i1z.symm y1)))
 have k5:∀ c o,c ≠ z->c ≠ TO->c ≠ i1->c ≠ i2->s.heap.get? c=some o->h5.get? c=some o:=fun c o c1 c2 c3 c4 e=>s5.extBut _ _ c2 (s4.extBut _ _ c4 (s3.extBut _ _ c2 (s2.extBut _ _ c3 (s1.extBut _ _ c1 e))))
 have m1:h5.IsTupleIter i1 a1 (k+1):=n1.at fun o e=>s5.extBut _ _ D.TOi1.symm (s4.extBut _ _ D.i12 (s3.extBut _ _ D.TOi1.symm e))
 have m2:h5.IsTupleIter i2 a2 (k+1):=n2.at fun o e=>s5.extBut _ _ D.TOi2.symm e
 have lz:z<h5.objs.size:=Heap.lt_size y5
 refine (show wpAny _ _ (Builtin.SmallTypes.ownedTupleHandOut (.ref z) (.ref h5.objs.size) >>= _) _ _ _ from wpAny_bind ?_)
 unfold Builtin.SmallTypes.ownedTupleHandOut
 have y6:IsZip (h5.push { cls:=.type "tuple",data:=.seq #[x,y] }) z TI TO .ellipsis:=Heap.get?_push_of_some _ y5
 refine wpAny_bind (wpAny_setField_rec y6 (by simp) fun h7 p7 s7=>?_)
 have y7:IsZip h7 z TI TO (rawInt h5.objs.size):=p7
 refine wpAny_setField_rec y7 (by simp) fun h8 p8 s8=>?_
 have y8:IsZip h8 z TI TO (rawInt h5.objs.size):=p8
 have up:∀ c o,c ≠ z->h5.get? c=some o->h8.get? c=some o:=fun c o c1 e=>s8.extBut _ _ c1 (s7.extBut _ _ c1 (Heap.get?_push_of_some _ e))
 have t8:IsPair h8 h5.objs.size x y:=s8.extBut _ _ (Nat.ne_of_gt lz) (s7.extBut _ _ (Nat.ne_of_gt lz) (Heap.get?_push_size _ rfl))
 have z8:h8.objs.size=h5.objs.size+1:=by rw [s8.1,s7.1,Heap.size_push]
 rw [zs] at y8 t8 z8
 refine wpAny_pure ⟨_,rfl,?_⟩
 show Q (.ref h5.objs.size) _
 rw [zs]
 exact q h8 y8 (up _ _ D.TOz o5) (m1.at fun o e=>up _ o D.i1z e) (m2.at fun o e=>up _ o D.i2z e) t8 z8 fun c o c1 c2 c3 c4 e=>up c o c1 (k5 c o c1 c2 c3 c4 e)
theorem RW {z TI TO i1 i2 a1 a2:Addr} {k:Nat} {xs:Array Value} {a b:Value} {Q:Fin->Shared->Prop} (hh:A.handled=none) (D:ZipApart z TI TO i1 i2 a1 a2)
  (hz:IsZip s.heap z TI TO .none) (hI:IsPair s.heap TI (.ref i1) (.ref i2)) (hO:IsPair s.heap TO a b)
  (j1:s.heap.IsTupleIter i1 a1 k) (t1:s.heap.IsTuple a1 xs) (hx:xs[k]? = none)
  (q:∀ h' e,(∀ c o,c ≠ z->c ≠ TO->c ≠ i1->c ≠ i2->s.heap.get? c=some o->h'.get? c=some o)->(∃ o,h'.get? e=some o/\o.cls=.type "StopIteration")->E (.ref e) { s with heap:=h' }) :
  wpAny (model prog w) A (Builtin.«zip.__next__» ⟨[.ref z],[]⟩) Q E s:=by
 refine (show wpAny _ _ (field (.ref z) 2 >>= _) _ _ _ from wpAny_bind (wpAny_field hz rfl (x:=.bool false) rfl (show wpAny _ _ (field (.ref z) 3 >>= _) _ _ _ from wpAny_bind (wpAny_field hz rfl (x:=.ref TI) rfl (wpAny_bind (wpAny_seqItems hI rfl ?_))))))
 refine (show wpAny _ _ (Builtin.SmallTypes.ownedTupleIsFree (.ref z) >>= _) _ _ _ from wpAny_bind ?_)
 unfold Builtin.SmallTypes.ownedTupleIsFree
 refine wpAny_bind (wpAny_field hz rfl (x:=.none) rfl (wpAny_pure ?_))
 simp only [if_true]
 refine wpAny_bind (wpAny_rule (wpAny_bind (wpAny_field hz rfl (x:=.ref TO) rfl (wpAny_bind (wpAny_setField_rec hz (by simp) fun h1 z1 s1=>?_)))))
 have y1:IsZip h1 z TI TO .ellipsis:=z1
 refine wpAny_bind ?_
 simp only [List.zipIdx_cons,List.zipIdx_nil,List.forIn_cons,List.forIn_nil]
 refine wpAny_bind (wpAny_bind (wpAny_onRaise (show wpAny _ _ (Builtin.SmallTypes.nextOf (.ref i1) >>= _) _ _ _ from wpAny_bind (Jp hh (j1.at fun o e=>s1.extBut _ _ D.i1z e) (t1.at fun o e=>s1.extBut _ _ D.l1z e) hx fun h2 x s2 hx2=>?_))))
 obtain ⟨ox,ex,cx⟩:=hx2
 have y2:IsZip h2 z TI TO .ellipsis:=s2 _ _ D.i1z.symm y1
 have nz:x ≠ z:=fun u=>by subst u; rw [y2] at ex; cases ex; simp at cx
 exact wpAny_setField_rec y2 (by simp) fun h3 _ s3=>q h3 x (fun c o c1 _ c3 _ e=>s3.extBut _ _ c1 (s2 _ _ c3 (s1.extBut _ _ c1 e))) ⟨ox,s3.extBut _ _ nz ex,cx⟩
end
noncomputable abbrev gn (h:Heap) (a1:Addr):Heap:=h.push { cls:=.type "tuple_iterator",data:=.fields #[.ref a1,.int 0 0] }
noncomputable abbrev gU (h:Heap) (a1 a2:Addr):Heap:=(gn h a1).push { cls:=.type "tuple_iterator",data:=.fields #[.ref a2,.int 0 0] }
noncomputable abbrev gZ (h:Heap) (a1 a2:Addr):Heap:=(gU h a1 a2).push { cls:=.type "tuple",data:=.seq #[.ref h.objs.size,.ref (gn h a1).objs.size] }
noncomputable abbrev gR (h:Heap) (a1 a2:Addr):Heap:=(gZ h a1 a2).push { cls:=.type "tuple",data:=.seq #[.none,.none] }
noncomputable abbrev Wr (h:Heap) (a1 a2:Addr):Heap:=(gR h a1 a2).push { cls:=.type "zip",data:=.fields #[.none,.bool false,.bool false,.ref (gU h a1 a2).objs.size,.ref (gZ h a1 a2).objs.size] }
theorem Sv (a1 a2:Addr) (xs ys:Array Value):Meets (Builtin.«zip.__new__» ⟨[.type "zip",.ref a1,.ref a2],[]⟩) (fun _ R s=>s.heap.IsTuple a1 xs/\s.heap.IsTuple a2 ys /\
   R (.ok (.ret (.ref (gR s.heap a1 a2).objs.size))) { s with heap:=Wr s.heap a1 a2 }) :=
 .of_wp fun prog w A R s h=>by
  obtain ⟨hp,g,d,tk,os⟩:=s
  obtain ⟨t1,t2,h⟩:=h
  have hsub:=sub_zip
  have u1:Heap.IsTuple (Shared.heap ⟨hp,g,d,tk,os⟩) a1 xs:=t1
  have u2:Heap.IsTuple (Shared.heap ⟨hp.push { cls:=.type "tuple_iterator",data:=.fields #[.ref a1,.int 0 0] },g,d,tk,os⟩) a2 ys:=Heap.IsTuple.at t2 fun o e=>Heap.get?_push_of_some _ e
  wp_walk using wpAny_pyIter_tuple u1,wpAny_pyIter_tuple u2
  exact ⟨_,rfl,h⟩
section
variable {prog:Program} {w:World} {A:Around} {E:Value->Shared->Prop} {s:Shared}
theorem Qj {a1 a2:Addr} {xs ys:Array Value} {Q:Value->Shared->Prop} (t1:s.heap.IsTuple a1 xs) (t2:s.heap.IsTuple a2 ys)
  (q:∀ h' n,n=s.heap.objs.size->IsZip h' (n+4) (n+2) (n+3) .none->IsPair h' (n+2) (.ref n) (.ref (n+1))->IsPair h' (n+3) .none .none->h'.IsTupleIter n a1 0->h'.IsTupleIter (n+1) a2 0->h'.objs.size=n+5 ->
   (∀ c o,s.heap.get? c=some o->h'.get? c=some o)->Q (.ref (n+4)) { s with heap:=h' }):wpAny (model prog w) A (call (.type "zip") [.ref a1,.ref a2]) Q E s:=by
 refine callType_new F.called_zip (by decide) (F.typeCall_zip_2 _ _) (F.newCall_zip_2 _ _) (fun obj=>F.args_object_init_3 obj _ _) F.entry_zip_new (Sv a1 a2 xs ys) ⟨t1,t2,?_⟩
 have z1:(gn s.heap a1).objs.size=s.heap.objs.size+1:=Heap.size_push ..
 have z2:(gU s.heap a1 a2).objs.size=s.heap.objs.size+2:=by rw [Heap.size_push,z1]
 have z3:(gZ s.heap a1 a2).objs.size=s.heap.objs.size+3:=by rw [Heap.size_push,z2]
 have z4:(gR s.heap a1 a2).objs.size=s.heap.objs.size+4:=by rw [Heap.size_push,z3]
 have z5:(Wr s.heap a1 a2).objs.size=s.heap.objs.size+5:=by rw [Heap.size_push,z4]
 have g5:(Wr s.heap a1 a2).get? (gR s.heap a1 a2).objs.size=some _:=Heap.get?_push_size _ rfl
 have g4:(Wr s.heap a1 a2).get? (gZ s.heap a1 a2).objs.size=some _:=Heap.get?_push_of_some _ (Heap.get?_push_size _ rfl)
 have g3:(Wr s.heap a1 a2).get? (gU s.heap a1 a2).objs.size=some _:=Heap.get?_push_of_some _ (Heap.get?_push_of_some _ (Heap.get?_push_size _ rfl))
 have g2:(Wr s.heap a1 a2).get? (gn s.heap a1).objs.size=some _:=Heap.get?_push_of_some _ (Heap.get?_push_of_some _ (Heap.get?_push_of_some _ (Heap.get?_push_size _ rfl)))
 have g1:(Wr s.heap a1 a2).get? s.heap.objs.size=some _:=Heap.get?_push_of_some _ (Heap.get?_push_of_some _ (Heap.get?_push_of_some _ (Heap.get?_push_of_some _ (Heap.get?_push_size _ rfl))))
 refine (show _/\_ from ?_)
 rw [z2,z3,z4] at g5
 rw [z1,z2] at g3
 rw [z3] at g4
 rw [z1] at g2
 rw [z4]
 exact ⟨⟨_,g5,rfl⟩,q _ _ rfl g5 g3 g4 ⟨_,g1,rfl,rfl⟩ ⟨_,g2,rfl,rfl⟩ z5 fun c o e=>Heap.get?_push_of_some _ (Heap.get?_push_of_some _ (Heap.get?_push_of_some _ (Heap.get?_push_of_some _ (Heap.get?_push_of_some _ e))))⟩
end
end L2
namespace L2
open PySem PySem.Spec PyProof.Rows
noncomputable def Bx (env:Env):List (Str × NameKind)->List (Str × Addr)->List (Str × Addr)
 | [],acc=>acc
 | (n,k)::r,acc=>if k == .free then (match env.cells.lookup n with | some a=>Bx env r ((n,a)::acc) | none=>Bx env r acc) else Bx env r acc
theorem FQ {scope:Scope} {env:Env} (h:∀ y∈scope.names,y.2=.free->∃ c,env.cells.lookup y.1=some c):closureFor scope env=pure (Bx env scope.names []):=by
 unfold closureFor
 have key:∀ (l:List (Str × NameKind)) (acc:List (Str × Addr)),(∀ y∈l,y.2=.free->∃ c,env.cells.lookup y.1=some c) ->
   (forIn l acc fun (x:Str × NameKind) (cs:List (Str × Addr))=>(match x with | (name,kind)=>if (kind == NameKind.free)=true then (do let a ← cellOf env name; pure (ForInStep.yield ((name,a)::cs))) else pure (ForInStep.yield cs):Sem (ForInStep (List (Str × Addr)))))=(pure (Bx env l acc):Sem _):=by
  intro l
  induction l with
  | nil=>intro acc _; rfl
  | cons x r ih =>
   intro acc hl
   obtain ⟨n,k⟩:=x
   rw [List.forIn_cons]
   unfold Bx
   by_cases hk:(k == NameKind.free)=true
   ·obtain ⟨c,hc⟩:=hl (n,k) List.mem_cons_self (by simpa using hk)
    have hc':env.cells.lookup n=some c:=hc
    have e:cellOf env n=pure c:=by unfold cellOf; rw [hc']
    simp only [hk,if_true,e,hc']
    exact ih _ fun y hy=>hl y (List.mem_cons_of_mem _ hy)
   ·simp only [hk]
    exact ih _ fun y hy=>hl y (List.mem_cons_of_mem _ hy)
 have:=key scope.names [] h
 exact (congrArg (fun (m:Sem (List (Str × Addr)))=>m >>= fun z=>pure z) this).trans rfl
theorem Eu (env:Env):∀ (l:List (Str × NameKind)) (acc:List (Str × Addr)) (y:Str) (c:Addr),(Bx env l acc).lookup y=some c->acc.lookup y=some c \/ env.cells.lookup y=some c
 | [],_,_,_,h=>.inl h
 | (n,k)::r,acc,y,c,h=>by
  unfold Bx at h
  split at h
  ·split at h
   ·rename_i a ha
    rcases Eu env r _ y c h with z | z
    ·rw [List.lookup_cons] at z
     split at z
     ·rename_i e
      cases z
      have e':y=n:=by simpa using e
      subst e'
      exact .inr ha
     ·exact .inl z
    ·exact .inr z
   ·exact Eu env r _ y c h
  ·exact Eu env r _ y c h
theorem G8 (env:Env):∀ (l:List (Str × NameKind)) (acc:List (Str × Addr)) (y:Str),(acc.lookup y).isSome=true->((Bx env l acc).lookup y).isSome=true
 | [],_,_,h=>h
 | (n,k)::r,acc,y,h=>by
  unfold Bx
  split
  ·split
   ·refine G8 env r _ y ?_
    rw [List.lookup_cons]
    split
    ·rfl
    ·exact h
   ·exact G8 env r _ y h
  ·exact G8 env r _ y h
theorem DX (env:Env):∀ (l:List (Str × NameKind)) (acc:List (Str × Addr)) (y:Str),(y,NameKind.free)∈l->(env.cells.lookup y).isSome=true->((Bx env l acc).lookup y).isSome=true
 | [],_,_,h,_=>nomatch h
 | (n,k)::r,acc,y,h,hc=>by
  unfold Bx
  rcases List.mem_cons.mp h with e | h
  ·obtain ⟨e1,e2⟩:=Prod.mk.inj e
   subst e1
   subst e2
   rw [if_pos (by decide)]
   split
   ·refine G8 env r _ y ?_
    rw [List.lookup_cons]
    simp
   ·rename_i e
    rw [e] at hc
    cases hc
  ·split
   ·split
    ·exact DX env r _ y h hc
    ·exact DX env r _ y h hc
   ·exact DX env r _ y h hc
end L2
namespace L2
open PySem PySem.Spec PyProof.Rows
noncomputable def Dd (x:Str) (N:List Str):List Str:=N.map fun y=>if y=x then "" else y
noncomputable def CN (X:Cx) (x:Str) (scope:Scope) (C:Addr) (s₀:Shared) (H₀:Hp) (fp:List Addr):Cx where
 prog:=X.prog
 w:=X.w
 K:=X.K
 mg:=X.mg
 base:=X.base
 A:=X.A
 N:=x::Dd x X.N
 s₀:=s₀
 H₀:=H₀
 env:=compEnvC scope (Bx X.env scope.names []) C X.env
 outer:=X.stack
 stack:=X.stack
 ex:=fp
 fn:=fun _=>false
 calm:=X.calm
 pn:=[]
 xe:=fun _ _=>False
theorem DN (env:Env) (y:Str):∀ names:List (Str × NameKind),
  (names.map fun (n,k)=>if (k == NameKind.free && env.scope.kind == .function && env.kindOf n == some .cell) then (n,NameKind.cell) else (n,k)).lookup y =
   (names.lookup y).map fun k=>if (k == NameKind.free && env.scope.kind == .function && env.kindOf y == some .cell) then NameKind.cell else k
 | []=>rfl
 | (n,k)::r=>by
  have ih:=DN env y r
  rw [List.map_cons]
  show List.lookup y ((if (k == NameKind.free && env.scope.kind == .function && env.kindOf n == some .cell)=true then (n,NameKind.cell) else (n,k))::_)=_
  have e0:(if (k == NameKind.free && env.scope.kind == .function && env.kindOf n == some .cell)=true then (n,NameKind.cell) else (n,k))=(n,if (k == NameKind.free && env.scope.kind == .function && env.kindOf n == some .cell)=true then NameKind.cell else k):=by split <;> rfl
  rw [e0,List.lookup_cons,List.lookup_cons]
  cases hx:y == n with
  | true =>
   have e:y=n:=by simpa using hx
   subst e
   rfl
  | false=>exact ih
structure Fv (X:Cx) (x:Str) (scope:Scope):Prop where
 kind:scope.kind=.function
 nocell:∀ y∈scope.names,y.2 ≠ .cell
 names:∀ y∈scope.names,y.2=.local->scope.names.lookup y.1=some .local
 loc:scope.names.lookup x=some .local
 free:∀ y∈scope.names,y.2=.free->X.env.kindOf y.1=some .cell \/ X.env.kindOf y.1=some .free
 nd:(x::Dd x X.N).Nodup
 only:∀ y∈Dd x X.N,scope.names.lookup y ≠ some .local
 noE:scope.names.lookup ("" : Str)=none
section
variable {X:Cx} {pins:List (Addr × Obj)} {σ:St} {H:Hp} {s:Shared} {x:Str} {scope:Scope} {fp:List Addr} {C:Addr}
theorem Oe {h':Heap} {tk:Nat} {m:Str->Option Value} (I:Inv X pins σ H s) (S:Fv X x scope) (hf:∀ b∈fp,Ep X pins H b) (hlt:∀ b∈fp,b<s.heap.objs.size) (hC:s.heap.objs.size<=C) (hn:h'.Ns C m)
  (hk:∀ b o,s.heap.get? b=some o->h'.get? b=some o):Inv (CN X x scope C s H fp) [] (none::σ) H { s with heap:=h',toks:=tk }:=by
 have cl:∀ y c,(Bx X.env scope.names []).lookup y=some c->X.env.cells.lookup y=some c:=fun y c e=>by
  rcases Eu X.env scope.names [] y c e with z | z
  ·cases z
  ·exact z
 have cellK:∀ c v,s.heap.IsCell c v->h'.IsCell c v:=fun c v ⟨o,ho,hd⟩=>⟨o,hk c o ho,hd⟩
 have look:∀ y,(CN X x scope C s H fp).env.scope.names.lookup y=(scope.names.lookup y).map fun k=>if (k == NameKind.free && X.env.scope.kind == .function && X.env.kindOf y == some .cell) then NameKind.cell else k:=fun y=>DN X.env y scope.names
 refine ⟨⟨I.ok.mod,S.kind,I.ok.glob,I.ok.blt,hC,fun y z c e1 e2=>I.ok.inj y z c (cl y c e1) (cl z c e2),fun y hy=>?_,fun y c e _=>(by cases e),fun h=>I.ok.hd h,I.ok.frames,.inl rfl,fun b hb=>?_,I.bs,Nat.le_trans I.ok.bsz I.sz,fun b o e hb=>?_,fun b hb hb'=>?_,I.stack,I.Jd⟩,
  rfl,I.bare,Un.kept hk,⟨m,hn,fun i y v h1 h2 h3=>?_⟩,fun y c e=>?_,I.hok.fresh hC,fun y c e=>I.freeC y c (cl y c e),fun p hp=>absurd (show p∈([]:List (Addr × Obj)) from hp) (by simp),I.hok.kept hk,?_⟩
 ·-- every cell of the block is there
  have hy':(CN X x scope C s H fp).env.scope.names.lookup y=some .cell \/ (CN X x scope C s H fp).env.scope.names.lookup y=some .free:=hy
  rw [look y] at hy'
  cases e:scope.names.lookup y with
  | none=>rw [e] at hy'; rcases hy' with z | z <;> cases z
  | some k =>
   have hm:=PySem.mem_of_lookup e
   have hfree:k=.free:=by
    rw [e] at hy'
    cases k with
    | free=>rfl
    | cell=>exact absurd rfl (S.nocell _ hm)
    | _=>rcases hy' with z | z <;> simp at z
   subst hfree
   obtain ⟨c,hc⟩:=I.ok.has y (S.free _ hm rfl)
   exact Option.isSome_iff_exists.mp (DX X.env scope.names [] y hm (by rw [hc]; rfl))
 ·obtain ⟨f0,f1,f2,f3,f4,f5⟩:=hf b hb
  exact ⟨Nat.ne_of_lt (Nat.lt_of_lt_of_le (hlt b hb) hC),fun y c e=>f4 y c (cl y c e)⟩
 ·obtain ⟨f0,f1,f2,f3,f4,f5⟩:=hf b hb
  rcases f3 with z | z
  ·exact I.ok.noex b o e z
  ·exact absurd (Nat.lt_of_lt_of_le (Heap.lt_size e) (Nat.le_trans I.ok.bsz z)) (Nat.lt_irrefl _)
 ·obtain ⟨f0,f1,f2,f3,f4,f5⟩:=hf b hb
  rcases List.mem_cons.mp (I.Jx b hb') with e | e
  ·exact f1 e
  ·exact f2 e
 ·cases i with
  | zero =>
   have h2':(some none:Option (Option V))=some (some v):=h2
   cases h2'
  | succ i =>
   have h1':(Dd x X.N)[i]? = some y:=h1
   have h2':σ[i]? = some (some v):=h2
   have hmem:y∈Dd x X.N:=List.mem_of_getElem? h1'
   unfold Dd at h1'
   rw [List.getElem?_map] at h1'
   cases e0:X.N[i]? with
   | none=>rw [e0] at h1'; cases h1'
   | some y0 =>
    rw [e0] at h1'
    have h1'':(if y0=x then ("" : Str) else y0)=y:=Option.some.inj h1'
    have h3':(CN X x scope C s H fp).env.scope.names.lookup y=some .local \/ (CN X x scope C s H fp).env.scope.names.lookup y=some .cell \/ (CN X x scope C s H fp).env.scope.names.lookup y=some .free:=h3
    rw [look y] at h3'
    have hy0:y0=y:=by
     by_cases q:y0=x
     ·rw [if_pos q] at h1''
      rw [← h1'',S.noE] at h3'
      rcases h3' with z | z | z <;> cases z
     ·rw [if_neg q] at h1''
      exact h1''
    subst hy0
    cases e:scope.names.lookup y0 with
    | none=>rw [e] at h3'; rcases h3' with z | z | z <;> cases z
    | some k =>
     have hm:=PySem.mem_of_lookup e
     have hfree:k=.free:=by
      rw [e] at h3'
      cases k with
      | free=>rfl
      | cell=>exact absurd rfl (S.nocell _ hm)
      | «local»=>exact absurd e (S.only y0 hmem)
      | _=>rcases h3' with z | z | z <;> simp at z
     subst hfree
     have kd:=S.free _ hm rfl
     obtain ⟨m0,hn0,hl0⟩:=I.loc
     obtain ⟨u,r,l⟩:=hl0 i y0 v e0 h2' (by rcases kd with z | z; exact .inr (.inl z); exact .inr (.inr z))
     refine ⟨u,r,.inr ⟨?_,?_⟩⟩
     ·have hk':(CN X x scope C s H fp).env.scope.names.lookup y0=some (if (NameKind.free == NameKind.free && X.env.scope.kind == .function && X.env.kindOf y0 == some .cell) then NameKind.cell else NameKind.free):=by
       rw [look y0,e]; rfl
      by_cases c:(NameKind.free == NameKind.free && X.env.scope.kind == .function && X.env.kindOf y0 == some .cell)=true
      ·rw [if_pos c] at hk'; exact .inl hk'
      ·rw [if_neg c] at hk'; exact .inr hk'
     ·rcases l with ⟨lk,_⟩ | ⟨_,c,hc,hcell⟩
      ·exfalso
       rcases kd with z | z <;> (rw [show X.env.kindOf y0=some NameKind.local from lk] at z; cases z)
      ·obtain ⟨c',hc'⟩:=Option.isSome_iff_exists.mp (DX X.env scope.names [] y0 hm (by rw [hc]; rfl))
       have:=cl y0 c' hc'
       rw [hc] at this
       cases this
       exact ⟨c,hc',cellK c _ hcell⟩
 ·obtain ⟨v,z⟩:=I.cell y c (cl y c e)
  exact ⟨v,cellK c v z⟩
 ·show (none::σ).length=(x::Dd x X.N).length
  simp [Dd,I.len]
end
noncomputable def KN (X:Cx) (ifs:List Expr) (t:TT):Prop :=
 ∀ (pins:List (Addr × Obj)) (s:Shared) (σ:St) (H:Hp) (Q:Bool->Hp->Prop),Inv X pins σ H s->t σ H Q ->
  wpAny (model X.prog X.w) X.A (forIn ifs true fun c r=>if r=true then do let ok ← isTrue c X.env (eval c X.env); pure (ForInStep.yield ok) else pure (ForInStep.yield r)) (TP X pins σ Q) X.xe s
noncomputable def Qe:TT:=fun _ H Q=>Q true H
theorem Bt {X:Cx}:KN X [] Qe:=fun _ _ _ H _ I h=>wpAny_tests_nil ⟨H,I,h⟩
theorem HY {X:Cx} {c:Expr} {t:TT} (h:PT X c t):KN X [c] t:=fun pins s σ H Q I q=>wpAny_tests_one (h pins s σ H Q I q)
noncomputable def Fl (J:It) (σ:St) (H1:Hp) (Q:VK) (tt:TT) (te:TE):Prop:=∀ D,H1 D=none->∃ W:Nat->Nat->List V->Hp->Prop,(∃ m,W 0 m [] (upd H1 D (.lst [])))/\∀ i m ys H2,W i m ys H2 ->
 (J.stop i H2/\Q (.ref D) H2) \/ (J.go i H2/\∀ x H3,J.yld i H2 x H3->tt (some x::σ) H3 fun b H4 =>
  if b=true then te (some x::σ) H4 fun y H5=>H5 D=some (.lst ys)/\ys.length<sizeLine/\∃ m',m'<m/\W (i+1) m' (ys++[y]) (upd H5 D (.lst (ys++[y])))
  else ∃ m',m'<m/\W (i+1) m' ys H4)
noncomputable def PL (wi:TI) (tt:TT) (te:TE):TE:=fun σ H Q=>wi σ H fun J H1=>Fl J σ H1 Q tt te
theorem KZ {α:Type} {t:Sem α} {Q Q':α->Shared->Prop} {M:Model} {A:Around} {E:Value->Shared->Prop} {s:Shared} (h:wpAny M A t Q (fun _ _=>False) s) (hQ:∀ a s,Q a s->Q' a s):wpAny M A t Q' E s:=wpAny_mono h hQ fun _ _ x=>x.elim
theorem Inv.sameBut {X:Cx} {pins:List (Addr × Obj)} {σ:St} {H:Hp} {s:Shared} {h':Heap} {C:Addr} (I:Inv X pins σ H s) (f:Ep X pins H C) (sb:Heap.SameBut C s.heap h'):Inv X pins σ H { s with heap:=h' } :=
 I.turned (t':=s.toks) (fun b o hb e=>(sb.2 b hb).trans e) f.1 f.2.1 f.2.2.2.1 f.2.2.2.2.1 f.2.2.2.2.2
section
variable {X:Cx} {x:Str} {scope:Scope}
theorem J3 {px pos:Pos} {iter elt:Expr} {ifs:List Expr} {tt:TT} {te:TE} {pins:List (Addr × Obj)} {σ:St} {s2:Shared} {H2:Hp} {it:Addr} {fp:List Addr} {tn:Nat->Heap->Prop} {J:It} {E:Value->Shared->Prop}
  {RR:Value->Addr->Result->Shared->Prop} {Q:VK}
  (hc:X.calm=true) (S:Fv X x scope) (ht:∀ C s₀ H₀ fp,KN (CN X x scope C s₀ H₀ fp) ifs tt) (he:∀ C s₀ H₀ fp,PE (CN X x scope C s₀ H₀ fp) elt te)
  (I2:Inv X pins σ H2 s2) (T:Turn X.prog X.w X.K (.Name x px) J fp it tn) (st2:tn 0 s2.heap) (f2:∀ b∈fp,Ep X pins H2 b)
  (q:∀ D,H2 D=none->∃ W:Nat->Nat->List V->Hp->Prop,(∃ m,W 0 m [] (upd H2 D (.lst [])))/\∀ i m ys H2,W i m ys H2 ->
   (J.stop i H2/\Q (.ref D) H2) \/ (J.go i H2/\∀ x H3,J.yld i H2 x H3->tt (some x::σ) H3 fun b H4 =>
    if b=true then te (some x::σ) H4 fun y H5=>H5 D=some (.lst ys)/\ys.length<sizeLine/\∃ m',m'<m/\W (i+1) m' (ys++[y]) (upd H5 D (.lst (ys++[y])))
    else ∃ m',m'<m/\W (i+1) m' ys H4))
  (hRR:∀ D C s' H' m,s'.heap.Ns C m->Ep X pins H' C->Inv X pins σ H' s'->Q (.ref D) H'->RR (.ref D) C (.ok .next) s') :
  wpAny (model X.prog X.w) X.A (newList []) (fun acc s₃=>wpAny (model X.prog X.w) X.A (newFunctionEnv scope X.env.globals (Bx X.env scope.names []) [] X.env.qual none .none (some X.env)) (fun cenv s₄ =>
   codeAny (model X.prog X.w) X.A (.compStart (.ListComp elt [⟨.Name x px,iter,ifs,0⟩] scope pos) 0 (.ref it) acc { cenv with scope:=relabel scope X.env }) (RR acc cenv.locals) s₄) E s₃) E s2:=by
 refine wpAny_newObj_type (wpAny_newFunctionEnv S.nocell (by intro y hy; simp at hy) (fun h₁ hns₁ hsb₁=>?_) S.kind)
 have I3:=I2.Va (its:=[]) (ys:=[]) (t':=s2.toks) .nil (Nat.zero_le _)
 have hD0:H2 s2.heap.objs.size=none:=I2.fresh
 obtain ⟨W,⟨m0,w0⟩,turn⟩:=q _ hD0
 generalize hs3:({ s2 with heap:=s2.heap.push { cls:=.type "list",data:=.seq ([]:List Value).toArray },toks:=s2.toks }:Shared)=s3 at I3
 have e3:s3.heap=s2.heap.push { cls:=.type "list",data:=.seq ([]:List Value).toArray }:=by rw [← hs3]
 have hlt:∀ b∈fp,b<s2.heap.objs.size:=fun b hb=>let ⟨_,e,_⟩:=T.obj _ _ st2 b hb; Heap.lt_size e
 have hlt3:∀ b∈fp,b<s3.heap.objs.size:=fun b hb=>by rw [e3,Heap.size_push]; exact Nat.lt_succ_of_lt (hlt b hb)
 have f3:∀ b∈fp,Ep X pins (upd H2 s2.heap.objs.size (.lst [])) b:=fun b hb=>⟨by rw [Al (Nat.ne_of_lt (hlt b hb))]; exact (f2 b hb).1,(f2 b hb).2⟩
 have hk1:∀ b o,s3.heap.get? b=some o->h₁.get? b=some o:=fun b o e=>by
  have hne:b ≠ s3.heap.objs.size:=Nat.ne_of_lt (Heap.lt_size e)
  rw [e3] at e hne
  exact hsb₁.extBut b o hne (Heap.get?_push_of_some _ e)
 have hC:s3.heap.objs.size=(s2.heap.push { cls:=.type "list",data:=.seq ([]:List Value).toArray }).objs.size:=by rw [e3]
 have hns:h₁.Ns s3.heap.objs.size (fun x=>([]:List (Str × Value)).reverse.lookup x):=by rw [hC]; exact hns₁
 have st3:tn 0 h₁:=T.keep _ _ _ st2 fun b hb o e=>hk1 b o (by rw [e3]; exact Heap.get?_push_of_some _ e)
 have hDC:s2.heap.objs.size ≠ s3.heap.objs.size:=by rw [e3,Heap.size_push]; exact Nat.ne_of_lt (Nat.lt_succ_self _)
 have start:∀ tk,Inv (CN X x scope s3.heap.objs.size s3 (upd H2 s2.heap.objs.size (.lst [])) fp) [] (none::σ) (upd H2 s2.heap.objs.size (.lst [])) { s3 with heap:=h₁,toks:=tk }:=fun tk =>
  Oe I3 S f3 hlt3 (Nat.le_refl _) hns hk1
 generalize hX:CN X x scope s3.heap.objs.size s3 (upd H2 s2.heap.objs.size (.lst [])) fp=X' at start
 have eA:X'.A=X.A:=by rw [← hX]; rfl
 have eP:X'.prog=X.prog:=by rw [← hX]; rfl
 have eW:X'.w=X.w:=by rw [← hX]; rfl
 have eK:X'.K=X.K:=by rw [← hX]; rfl
 have eC:X'.env.locals=s3.heap.objs.size:=by rw [← hX]; rfl
 have loop:∀ tk,codeAny (model X.prog X.w) X.A (.compLoop (.ListComp elt [⟨.Name x px,iter,ifs,0⟩] scope pos) 0 (.ref it) (.ref s2.heap.objs.size) (compEnvC scope (Bx X.env scope.names []) s3.heap.objs.size X.env))
   (RR (.ref s2.heap.objs.size) s3.heap.objs.size) { s3 with heap:=h₁,toks:=tk }:=by
  intro tk
  subst hX
  refine codeAny_compLoop_tests (fun n s'=>∃ i ys v0 H',Inv (CN X x scope s3.heap.objs.size s3 (upd H2 s2.heap.objs.size (.lst [])) fp) [] (v0::σ) H' s'/\tn i s'.heap/\(∀ b∈fp,H' b=none)/\W i n ys H') ?_ m0
   ⟨0,[],none,_,start tk,st3,fun b hb=>(f3 b hb).1,w0⟩
  rintro n s4 ⟨i,ys,v0,H4,I4,st4,fr4,w4⟩
  have stat:∀ {H':Hp},(∀ b∈fp,H' b=none)->∀ b∈fp,Ep (CN X x scope s3.heap.objs.size s3 (upd H2 s2.heap.objs.size (.lst [])) fp) [] H' b:=fun hn b hb=>by
   refine ⟨hn b hb,(I4.ok.exf b hb).1,I4.ok.exfs b hb,.inl hb,(I4.ok.exf b hb).2,fun p hp=>absurd (show p∈([]:List (Addr × Obj)) from hp) (by simp)⟩
  rcases turn i n ys H4 w4 with ⟨stop,qn⟩ | ⟨go,step⟩
  ·refine Bv (T.done (CN X x scope s3.heap.objs.size s3 (upd H2 s2.heap.objs.size (.lst [])) fp) rfl rfl rfl hc i [] s4 (v0::σ) H4 _ I4 (stat fr4) st4 stop) fun r s5 ⟨hr,I5⟩=>?_
   subst hr
   obtain ⟨m,hn,_⟩:=I5.loc
   refine hRR _ _ s5 H4 m hn (I3.Jq (Nat.le_refl _) I5.free) (I3.call' (s':=s5) (ch:=fp) I5.os I5.base I5.hok I5.bare (fun b hb=>?_)) qn
   obtain ⟨_,g1,_,g3,g4,g5⟩:=f3 b hb
   exact ⟨g3,g1,g4,g5⟩
  ·refine Bv (T.item (CN X x scope s3.heap.objs.size s3 (upd H2 s2.heap.objs.size (.lst [])) fp) rfl rfl rfl hc i [] s4 (v0::σ) H4 _ I4 (stat fr4) st4 go) fun r s5 ⟨u,hr,h5⟩=>?_
   subst hr
   intro Γ p hΓ
   obtain ⟨xv,H6,I6,r6,y6,st6,fr6⟩:=h5 Γ p hΓ
   refine (?_:wpAny _ _ _ _ _ _) Γ p hΓ
   have I6':=I6.pinned (stat fr6) (T.obj _ _ st6)
   have hloc:(CN X x scope s3.heap.objs.size s3 (upd H2 s2.heap.objs.size (.lst [])) fp).env.scope.names.lookup x=some .local:=lookup_relabel_local S.loc
   have again:∀ {s7:Shared} {H7:Hp} {ys':List V},Inv (CN X x scope s3.heap.objs.size s3 (upd H2 s2.heap.objs.size (.lst [])) fp) ([]++Hl fp s5.heap) (some xv::σ) H7 s7->(∃ m',m'<n/\W (i+1) m' ys' H7) ->
     ∃ m,m<n/\∃ i ys v0 H',Inv (CN X x scope s3.heap.objs.size s3 (upd H2 s2.heap.objs.size (.lst [])) fp) [] (v0::σ) H' s7/\tn i s7.heap/\(∀ b∈fp,H' b=none)/\W i m ys H':=fun {s7 H7 ys'} I7 hw=>by
    obtain ⟨m',hm,w7⟩:=hw
    refine ⟨m',hm,i+1,ys',some xv,H7,I7.Fw,T.keep _ _ _ st6 fun b hb o e=>(I7.pin (b,o) (List.mem_append_right _ (List.mem_append_right _ (DP hb e)))).1,fun b hb=>?_,w7⟩
    obtain ⟨o,e,d⟩:=T.obj _ _ st6 b hb
    exact (I7.pin (b,o) (List.mem_append_right _ (List.mem_append_right _ (DP hb e)))).2.1
   refine wpAny_assign_Name (Im (X:=CN X x scope s3.heap.objs.size s3 (upd H2 s2.heap.objs.size (.lst [])) fp) (i:=0) I6' S.nd rfl (.inl hloc) r6 (fun s7 I7=>?_) (.inr hloc))
   refine KZ (ht _ _ _ _ _ s7 (some xv::σ) H6 _ I7 (step xv H6 y6)) fun b s8 hq0=>?_
   obtain ⟨H8,I8,q8⟩:=hq0
   cases b with
   | false =>
    rw [if_neg Bool.false_ne_true] at q8 ⊢
    exact again I8 q8
   | true =>
    rw [if_pos rfl] at q8 ⊢
    refine KZ (he _ _ _ _ _ s8 (some xv::σ) H8 _ I8 q8) fun y s9 hq0=>?_
    obtain ⟨yv,H9,I9,r9,hD9,hz9,q9⟩:=hq0
    refine KZ (Cm (X:=CN X x scope s3.heap.objs.size s3 (upd H2 s2.heap.objs.size (.lst [])) fp) _ s9 (some xv::σ) H9 (.ref s2.heap.objs.size) [yv] (.ref s2.heap.objs.size) [y] (fun _ H'=>H'=upd H9 s2.heap.objs.size (.lst (ys++[yv]))) I9 rfl (.cons r9 .nil)
     ⟨_,ys,yv,rfl,rfl,hD9,hz9,rfl⟩) fun _ s10 ⟨_,H10,I10,_,e10⟩=>?_
    subst e10
    exact again I10 q9
 have key:=fun tk=>codeAny_compStart_list (R:=RR (.ref s2.heap.objs.size) s3.heap.objs.size) (loop tk) (T.self X.A 0 { s3 with heap:=h₁,toks:=tk } (fun it' s'=>codeAny (model X.prog X.w) X.A (.compLoop (.ListComp elt [⟨.Name x px,iter,ifs,0⟩] scope pos) 0 it' (.ref s2.heap.objs.size) (compEnvC scope (Bx X.env scope.names []) s3.heap.objs.size X.env)) (RR (.ref s2.heap.objs.size) s3.heap.objs.size) s') _ st3 (loop tk))
 subst hs3
 exact key _
theorem Bl {px pos:Pos} {iter elt:Expr} {ifs:List Expr} {wi:TI} {tt:TT} {te:TE} (hc:X.calm=true) (S:Fv X x scope) (hi:PI X (.Name x px) iter wi)
  (ht:∀ C s₀ H₀ fp,KN (CN X x scope C s₀ H₀ fp) ifs tt) (he:∀ C s₀ H₀ fp,PE (CN X x scope C s₀ H₀ fp) elt te) (hs:∀ x,foldedSetIterable iter X.env x=pure x:=by intro _; rfl) :
  PE X (.ListComp elt [⟨.Name x px,iter,ifs,0⟩] scope pos) (PL wi tt te):=by
 intro pins s σ H Q I h
 rw [eval_ListComp]
 refine wpAny_comprehension_free (use:=none) (cl:=Bx X.env scope.names []) rfl hs (FQ fun y hy hk=>I.ok.has y.1 (S.free y hy hk)) S.kind S.names (Bv (hi pins s σ H _ I h) fun v s1 h1=>Bv h1 fun itv s2 h2=>?_)
 obtain ⟨it,fp,tn,J,H2,e,I2,T,st2,f2,q⟩:=h2
 subst e
 refine J3 (RR:=fun acc C=>compPost (model X.prog X.w) X.A X.xe none (EP X pins σ Q) acc C) (Q:=Q) hc S ht he I2 T st2 f2 q ?_
 intro D C s' H' m hn hf hI hq
 exact ⟨m,hn,fun h' sb=>⟨.ref D,H',hI.sameBut hf sb,rfl,hq⟩⟩
theorem Jh {i:Nat} {y:Str} {px py pos spos:Pos} {iter elt:Expr} {ifs:List Expr} {wi:TI} {tt:TT} {te:TE} (hN:X.N.Nodup) (hi':X.N[i]? = some y) (hy:X.env.scope.names.lookup y=some .local) (hc:X.calm=true) (S:Fv X x scope) (hi:PI X (.Name x px) iter wi)
  (ht:∀ C s₀ H₀ fp,KN (CN X x scope C s₀ H₀ fp) ifs tt) (he:∀ C s₀ H₀ fp,PE (CN X x scope C s₀ H₀ fp) elt te) (hsw:swapsWith (.ListComp elt [⟨.Name x px,iter,ifs,0⟩] scope pos) (some (.Name y py)) spos.line X.env=pure true:=by rfl) (hs:∀ x,foldedSetIterable iter X.env x=pure x:=by intro _; rfl) :
  PS X (.Assign [.Name y py] (.ListComp elt [⟨.Name x px,iter,ifs,0⟩] scope pos) spos) (Rr (PL wi tt te) (Cq i)):=by
 intro pins s σ H D' I h
 rw [exec_Assign_Name_used _ _ _ _ hsw]
 refine wpAny_bind (wpAny_standAt (wpAny_bind ?_))
 show wpAny _ X.A (do let _ ← comprehension (.ListComp elt [⟨.Name x px,iter,ifs,0⟩] scope pos) scope X.env _ (newList []) false (eval iter X.env) (some (assign (.Name y py) X.env))) _ _ s
 refine wpAny_bind (wpAny_mono (wpAny_comprehension_free (use:=some (assign (.Name y py) X.env)) (cl:=Bx X.env scope.names []) (Q:=fun _ s'=>SP X pins D' .next s') rfl hs (FQ fun y hy hk=>I.ok.has y.1 (S.free y hy hk)) S.kind S.names
  (Bv (hi pins s σ H _ I h) fun v s1 h1=>Bv h1 fun itv s2 h2=>?_)) (fun _ s' hq=>wpAny_pure (wpAny_pure hq)) fun _ _ e=>e)
 obtain ⟨it,fp,tn,J,H2,e,I2,T,st2,f2,q⟩:=h2
 subst e
 refine J3 (RR:=fun acc C=>compPost (model X.prog X.w) X.A X.xe (some (assign (.Name y py) X.env)) (fun _ s'=>SP X pins D' .next s') acc C) (Q:=fun x H1=>Cq i x σ H1 D'.nx) hc S ht he I2 T st2 f2 q ?_
 intro D C s' H' m hn hf hI hq
 show wpAny _ X.A (assign (.Name y py) X.env (.ref D)) _ _ _
 refine wpAny_assign_Name (JC hI hN hi' (.inl hy) (v:=.ref D) rfl (fun s6 I6 hch=>?_) (.inr hy))
 obtain ⟨a,sb,ha⟩:=hch
 have hCa:C ≠ a:=by
  rcases ha with z | z
  ·rw [z]; exact hf.2.1
  ·exact Ne.symm (hf.2.2.2.2.1 y a z)
 exact ⟨m,hn.sameBut sb hCa,fun h' sb'=>⟨_,H',I6.sameBut hf sb',hq⟩⟩
end
end L2
namespace L2
open PySem PySem.Spec PyProof.Rows
section
variable {σ:St} {H1:Hp} {Q:VK} {tt:TT} {te:TE}
theorem IK {J:It} {xs:List V} (p:V->Bool) (f:V->V) (hz:xs.length<sizeLine)
  (hgo:∀ i H x,Ak H1 H->xs[i]? = some x->J.go i H) (hy:∀ i H y H',Ak H1 H->i<xs.length->J.yld i H y H'->H'=H/\xs[i]? = some y) (hstop:∀ H,Ak H1 H->J.stop xs.length H)
  (ht:∀ x∈xs,∀ H,Ak H1 H->∀ R:Bool->Hp->Prop,(∀ H',Ak H H'->R (p x) H')->tt (some x::σ) H R)
  (he:∀ x∈xs,p x=true->∀ H,Ak H1 H->∀ R:VK,(∀ H',Ak H H'->R (f x) H')->te (some x::σ) H R)
  (hq:∀ D H,H1 D=none->Ak H1 H->H D=some (.lst ((xs.filter p).map f))->Q (.ref D) H):Fl J σ H1 Q tt te:=by
 intro D hD
 have s0:Ak H1 (upd H1 D (.lst [])):=fun b o e=>by rw [Al (Aj e hD)]; exact e
 refine ⟨fun i m ys H=>m=xs.length - i/\i<=xs.length/\ys=((xs.take i).filter p).map f/\H D=some (.lst ys)/\Ak H1 H,⟨xs.length,by simp,Nat.zero_le _,by simp,Af,s0⟩,?_⟩
 rintro i m ys H ⟨rfl,hi,rfl,hd,hs⟩
 by_cases hlt:i<xs.length
 ·obtain ⟨x,hx⟩:∃ x,xs[i]? = some x:=⟨xs[i],by simp [hlt]⟩
  refine .inr ⟨hgo i H x hs hx,fun y H3 hyl=>?_⟩
  obtain ⟨rfl,hy'⟩:=hy i H y H3 hs hlt hyl
  rw [hx] at hy'
  cases hy'
  have hm:x∈xs:=List.mem_of_getElem? hx
  have hlen:(((xs.take i).filter p).map f).length<sizeLine:=by
   rw [List.length_map]
   refine Nat.lt_of_le_of_lt (List.length_filter_le _ _) (Nat.lt_of_le_of_lt ?_ hz)
   rw [List.length_take]; omega
  refine ht x hm _ hs _ fun H4 s4=>?_
  by_cases hp:p x=true
  ·rw [if_pos hp]
   refine he x hm hp H4 (hs.trans s4) _ fun H5 s5=>?_
   refine ⟨s5 _ _ (s4 _ _ hd),hlen,xs.length - (i+1),by omega,rfl,hlt,?_,Af,fun b o e=>?_⟩
   ·rw [take_succ_filter p xs i x hx,if_pos hp,List.map_append]; rfl
   ·rw [Al (Aj e hD)]; exact s5 _ _ (s4 _ _ (hs _ _ e))
  ·rw [if_neg hp]
   refine ⟨xs.length - (i+1),by omega,rfl,hlt,?_,s4 _ _ hd,hs.trans s4⟩
   rw [take_succ_filter p xs i x hx,if_neg hp,List.append_nil]
 ·have e:i=xs.length:=by omega
  subst e
  rw [List.take_length] at hd
  exact .inl ⟨hstop H hs,hq D H hD hs hd⟩
theorem GX {lo:Int} {n:Nat} (p:Int->Bool) (f:Int->V) (hz:n<sizeLine)
  (ht:∀ i:Nat,i<n->∀ H,Ak H1 H->∀ R:Bool->Hp->Prop,(∀ H',Ak H H'->R (p (lo+i)) H')->tt (some (.int (lo+i))::σ) H R)
  (he:∀ i:Nat,i<n->p (lo+i)=true->∀ H,Ak H1 H->∀ R:VK,(∀ H',Ak H H'->R (f (lo+i)) H')->te (some (.int (lo+i))::σ) H R)
  (hq:∀ D H,H1 D=none->Ak H1 H->H D=some (.lst ((((List.range n).map fun (i:Nat)=>lo+(i:Int)).filter p).map f))->Q (.ref D) H):Fl (VM lo n) σ H1 Q tt te:=by
 let g:V->Int:=fun v=>match v with | .int i=>i | _=>0
 have hxs:∀ i:Nat,i<n->((List.range n).map fun (i:Nat)=>V.int (lo+(i:Int)))[i]? = some (.int (lo+i)):=fun i hi=>by simp [hi]
 refine IK (xs:=(List.range n).map fun (i:Nat)=>V.int (lo+(i:Int))) (fun v=>p (g v)) (fun v=>f (g v)) (by simpa using hz) (fun i H x _ hx=>?_) (fun i H y H' _ hi hy=>?_) (fun H _=>?_) (fun x hx=>?_) (fun x hx=>?_) (fun D H h1 h2 h3=>?_)
 ·have:i<((List.range n).map fun (i:Nat)=>V.int (lo+(i:Int))).length:=(List.getElem?_eq_some_iff.mp hx).1
  show i<n
  simpa using this
 ·have hi':i<n:=by simpa using hi
  obtain ⟨e1,e2⟩:=hy
  subst e2
  exact ⟨e1,hxs i hi'⟩
 ·show n<=_
  simp
 ·obtain ⟨i,hi,rfl⟩:=List.mem_map.mp hx
  exact ht i (List.mem_range.mp hi)
 ·obtain ⟨i,hi,rfl⟩:=List.mem_map.mp hx
  exact he i (List.mem_range.mp hi)
 ·refine hq D H h1 h2 ?_
  rw [h3,List.filter_map,List.map_map,List.filter_map,List.map_map]
  rfl
noncomputable def gY (z:Str):It:=⟨fun i _=>i<z.cps.size,fun i H x H'=>H'=H/\∃ c,z.cps[i]? = some c/\x=.str ⟨#[c]⟩,fun i _=>z.cps.size<=i⟩
theorem T9 {P:Program} {w:World} {K:PySem.W.Frag} {tg:Expr} {z:Str} {t0:Tok} {it:Addr} {ty:String} (hty:ty = "str_ascii_iterator" \/ ty = "str_iterator"):Turn P w K tg (gY z) [it] it (fun i h=>h.IsStrIter it ty z t0 i) where
 mem:=by simp
 obj:=fun i h st b hb=>by
  have e:b=it:=by simpa using hb
  subst e
  obtain ⟨o,ho,hc,hd⟩:=st
  exact ⟨o,ho,fun v q=>by rw [hd] at q; cases q⟩
 keep:=fun i h h' st k=>let ⟨o,ho,r⟩:=st; ⟨o,k it (by simp) o ho,r⟩
 item:=by
  intro X hP hw hK hc i pins s σ H E I hf st hg
  subst hP hw hK
  obtain ⟨f0,f1,f2,f3,f4,f5⟩:=hf it (by simp)
  have hg':i<z.cps.size:=hg
  have hx:z.cps[i]? = some z.cps[i]:=Array.getElem?_eq_getElem hg'
  have fin:∀ h',h'.IsStrIter it ty z t0 (i+1)->Heap.SameBut it s.heap h'->∃ u,some (Value.str ⟨#[z.cps[i]]⟩ s.toks)=some u /\
    wpAny (model X.prog X.w) X.A (letOwnedTupleGo tg (.ref it) u) (fun _ s2=>∃ x H',Inv X pins σ H' s2/\RelV x u/\(gY z).yld i H x H'/\s2.heap.IsStrIter it ty z t0 (i+1)/\∀ b∈[it],H' b=none) E { s with heap:=h',toks:=s.toks+1 }:=fun h' st' sb=>by
   have I1:Inv X pins σ H { s with heap:=h',toks:=s.toks+1 }:=I.turned (fun b o hb e=>(sb.2 b hb).trans e) f0 f1 f3 f4 f5
   obtain ⟨o,e,c,d⟩:=id st'
   refine ⟨_,rfl,NQ (s:={ s with heap:=h',toks:=s.toks+1 }) e c d (by rcases hty with rfl | rfl <;> decide) ⟨.str ⟨#[z.cps[i]]⟩,H,I1,⟨_,rfl⟩,⟨rfl,_,hx,rfl⟩,st',fun b hb=>(hf b hb).1⟩⟩
  rcases hty with rfl | rfl
  ·exact wpAny_pyNext_ascii_item st hx fin
  ·exact wpAny_pyNext_wide_item st hx fin
 done:=by
  intro X hP hw hK hc i pins s σ H E I hf st hg
  subst hP hw hK
  obtain ⟨f0,f1,f2,f3,f4,f5⟩:=hf it (by simp)
  have hx:z.cps[i]? = none:=by
   have hg':z.cps.size<=i:=hg
   simpa using hg'
  rcases hty with rfl | rfl
  ·exact wpAny_pyNext_ascii_end (I.ok.hd hc) st hx fun h' eb=>⟨rfl,I.turned (t':=s.toks) (fun b o hb e=>eb b o hb e) f0 f1 f3 f4 f5⟩
  ·exact wpAny_pyNext_wide_end (I.ok.hd hc) st hx fun h' eb=>⟨rfl,I.turned (t':=s.toks) (fun b o hb e=>eb b o hb e) f0 f1 f3 f4 f5⟩
 self:=fun A i s Q E st h=>by
  rcases hty with rfl | rfl
  ·exact wpAny_pyIter_striter_ascii st h
  ·exact wpAny_pyIter_striter_wide st h
end
section
variable {X:Cx} {tg:Expr}
noncomputable def jC (tl:TE):TI:=fun σ H R=>tl σ H fun x H1=>∃ z,x=.str z/\R (gY z) H1
theorem X4 {l:Expr} {tl:TE} (hl:PE X l tl):PI X tg l (jC tl):=by
 intro pins s σ H R I h
 refine Bv (hl pins s σ H _ I h) fun v s1 hq0=>?_
 obtain ⟨x,H1,I1,r1,q1⟩:=hq0
 obtain ⟨z,e,q⟩:=q1
 subst e
 obtain ⟨t,rfl⟩:=r1
 have fin:∀ ty,(ty = "str_ascii_iterator" \/ ty = "str_iterator")->PIE X pins σ tg R (.ref s1.heap.objs.size) { s1 with heap:=s1.heap.push { cls:=.type ty,data:=.fields #[.str z t,.int 0 0] } }:=fun ty hty=>by
  refine ⟨s1.heap.objs.size,[s1.heap.objs.size],_,_,H1,rfl,I1.kept (t':=s1.toks) fun b o e=>Heap.get?_push_of_some _ e,T9 (z:=z) (t0:=t) hty,⟨_,Heap.get?_push_size _ rfl,rfl,rfl⟩,fun b hb=>?_,q⟩
  have e:b=s1.heap.objs.size:=by simpa using hb
  subst e
  exact I1.Jq (Nat.le_refl _) (I1.hok.fresh (Nat.le_refl _))
 cases ha:z.cps.all (· < 128)
 ·exact wpAny_pyIter_wide ha (fin _ (.inr rfl))
 ·exact wpAny_pyIter_ascii ha (fin _ (.inl rfl))
end
section
variable {σ:St} {H1:Hp} {Q:VK} {tt:TT} {te:TE}
noncomputable def sgn (c:Nat):V:=.str ⟨#[c]⟩
theorem Rh {z:Str} (p:Nat->Bool) (f:Nat->V) (hz:z.length<sizeLine)
  (ht:∀ c∈z.cps.toList,∀ H,Ak H1 H->∀ R:Bool->Hp->Prop,(∀ H',Ak H H'->R (p c) H')->tt (some (sgn c)::σ) H R)
  (he:∀ c∈z.cps.toList,p c=true->∀ H,Ak H1 H->∀ R:VK,(∀ H',Ak H H'->R (f c) H')->te (some (sgn c)::σ) H R)
  (hq:∀ D H,H1 D=none->Ak H1 H->H D=some (.lst ((z.cps.toList.filter p).map f))->Q (.ref D) H):Fl (gY z) σ H1 Q tt te:=by
 let g:V->Nat:=fun v=>match v with | .str y=>y.cps.getD 0 0 | _=>0
 refine IK (xs:=z.cps.toList.map sgn) (fun v=>p (g v)) (fun v=>f (g v)) (by simpa [Str.length] using hz) (fun i H x _ hx=>?_) (fun i H y H' _ hi hy=>?_) (fun H _=>?_) (fun x hx=>?_) (fun x hx=>?_) (fun D H h1 h2 h3=>?_)
 ·have:i<(z.cps.toList.map sgn).length:=(List.getElem?_eq_some_iff.mp hx).1
  show i<z.cps.size
  simpa using this
 ·obtain ⟨e1,c,hc,rfl⟩:=hy
  refine ⟨e1,?_⟩
  rw [List.getElem?_map,Array.getElem?_toList,hc]; rfl
 ·show z.cps.size<=_
  simp
 ·obtain ⟨c,hc,rfl⟩:=List.mem_map.mp hx
  exact ht c hc
 ·obtain ⟨c,hc,rfl⟩:=List.mem_map.mp hx
  exact he c hc
 ·refine hq D H h1 h2 ?_
  rw [h3,List.filter_map,List.map_map]
  rfl
end
section
variable {X:Cx}
theorem range_all (bs:List Bool):((List.range bs.length).all fun i=>(bs[i]?).getD true)=bs.all id:=by
 rw [Bool.eq_iff_iff,List.all_eq_true,List.all_eq_true]
 constructor
 ·intro h b hb
  obtain ⟨i,hi,e⟩:=List.mem_iff_getElem.mp hb
  have:=h i (List.mem_range.mpr hi)
  rw [List.getElem?_eq_getElem hi,e] at this
  exact this
 ·intro h i hi
  have hi':=List.mem_range.mp hi
  rw [List.getElem?_eq_getElem hi']
  exact h _ (List.getElem_mem hi')
theorem J8 (hc:X.calm=true):Gd X (.builtin "all") (fun xs H Q=>∃ (p:Addr) (bs:List Bool),xs=[V.ref p]/\Cg X.K H p (bs.map V.bl)/\Q (.bl (bs.all id)) H):=by
 intro pins s σ H xs us Q I r h
 obtain ⟨p,bs,rfl,hp,q⟩:=h
 obtain ⟨u,rfl,ru⟩:=vals1 r
 cases ru
 obtain ⟨its,rv,pl,hz⟩:=I.list hp
 have hlen:bs.length=its.length:=by have:=rv.length; rw [List.length_map] at this; exact this
 have hlt:p<s.heap.objs.size:=by obtain ⟨_,e,_⟩:=pl.isList; exact Heap.lt_size e
 refine call_all_walk (wpAny_pyIter_list pl.isList ?_)
 refine ⟨s.heap.objs.size,[s.heap.objs.size,p],[s.heap.objs.size],its.toArray.size,_,_,fun i=>(bs[i]?).getD true,rfl,Walks.list (A:=X.A.in1) (I.ok.hd hc) _ p (Nat.ne_of_lt hlt) its.toArray,
  ⟨⟨_,Heap.get?_push_size _ rfl,rfl,rfl⟩,pl.isList.push _⟩,fun i v s' Q' E' hP hQ=>?_,fun h' tk hk=>?_⟩
 ·have hP':its[i]? = some v:=by simpa using hP
  have hi:i<its.length:=(List.getElem?_eq_some_iff.mp hP').1
  have hb:bs[i]? = some bs[i]:=by simp [hlen,hi]
  obtain ⟨u,hu,ru⟩:=rv.get (i:=i) (x:=.bl bs[i]) (by rw [List.getElem?_map,hb]; rfl)
  rw [hP'] at hu
  cases hu
  cases ru
  dsimp only at hQ
  rw [hb] at hQ
  exact wpAny_truthy_bool hQ
 ·have e:((List.range its.toArray.size).all fun i=>(bs[i]?).getD true)=bs.all id:=by rw [List.size_toArray,← hlen]; exact range_all bs
  rw [e]
  refine ⟨.bl (bs.all id),H,I.kept (t':=tk) fun b o eb=>hk b o (fun hm=>?_) (Heap.get?_push_of_some _ eb),rfl,q⟩
  rw [List.mem_singleton.mp hm] at eb
  exact Nat.lt_irrefl _ (Heap.lt_size eb)
theorem DR:Gd X (.builtin "isinstance") (fun xs H Q=>∃ x T t b,xs=[x,V.ty T]/\JK X.K H x t/\PySem.W.kitOne X.K t (.type T)=some b/\Q (.bl b) H):=by
 intro pins s σ H xs us Q I r h
 obtain ⟨x,T,t,b,rfl,ty,e,q⟩:=h
 obtain ⟨u,v,rfl,ru,rv⟩:=Vals.two r
 cases rv
 exact QX I ru ty e fun tk=>⟨.bl b,H,I.tok _,rfl,q⟩
end
noncomputable def Oz (x:Str) (scope osc:Scope) (N:List Str):Bool :=
 (scope.kind == .function) && scope.names.all (fun y=>y.2 != .cell) && scope.names.all (fun y=>y.2 != .local || scope.names.lookup y.1 == some .local) && (scope.names.lookup x == some .local) &&
 scope.names.all (fun y=>y.2 != .free || osc.names.lookup y.1 == some .cell || osc.names.lookup y.1 == some .free) && decide ((x::Dd x N).Nodup) && (Dd x N).all (fun y=>scope.names.lookup y != some .local) && (scope.names.lookup ("" : Str) == none)
theorem BX {X:Cx} {x:Str} {scope osc:Scope} {N:List Str} (hsc:X.env.scope=osc) (hN:X.N=N) (h:Oz x scope osc N=true):Fv X x scope:=by
 unfold Oz at h
 simp only [Bool.and_eq_true] at h
 obtain ⟨⟨⟨⟨⟨⟨⟨h1,h2⟩,h3⟩,h4⟩,h5⟩,h6⟩,h7⟩,h8⟩:=h
 rw [List.all_eq_true] at h2 h3 h5 h7
 have kd:∀ y,X.env.kindOf y=osc.names.lookup y:=fun y=>by rw [← hsc]; rfl
 refine ⟨by simpa using h1,fun y hy=>by simpa using h2 y hy,fun y hy e=>?_,by simpa using h4,fun y hy e=>?_,by rw [hN]; exact of_decide_eq_true h6,fun y hy=>?_,by simpa using h8⟩
 ·have:=h3 y hy
  rw [e] at this
  simpa using this
 ·have:=h5 y hy
  rw [e] at this
  rw [kd]
  simpa using this
 ·rw [hN] at hy
  simpa using h7 y hy
end L2
namespace L2
open PySem PySem.Spec PyProof.Rows
section
variable {X:Cx} {pins:List (Addr × Obj)} {σ:St} {H:Hp} {s:Shared} {h':Heap}
theorem Inv.Jv {ch:List Addr} {a:Addr} {o:HO} {t':Nat} (I:Inv X pins σ H s) (hf:∀ b∈ch,Ep X pins H b) (k:∀ b u,b ∉ ch->s.heap.get? b=some u->h'.get? b=some u) (hp:s.heap.objs.size<=a)
  (new:CG X.prog X.w (upd H a o) h' a o):Inv X pins σ (upd H a o) { s with heap:=h',toks:=t' }:=by
 have hn:H a=none:=I.hok.fresh hp
 have up:∀ b u,H b=some u->upd H a o b=some u:=fun b u e=>by rw [Al (Aj e hn)]; exact e
 refine I.step (g':=s.gens) (d':=s.drawn) (ch:=ch) (fun b hb=>?_) (fun b u _ _ hc e _=>k b u hc e) (fun b u _ _ hc e _=>⟨u.slots,k b u hc e⟩) (fun b u _ e n=>?_)
  (fun b u hc e=>⟨u,k b u hc e⟩) (fun b xs e=>up _ _ e) (fun b u x e=>up _ _ e) (fun b ps e=>⟨#[],by rw [up _ _ e]; simp⟩) (fun m hm=>?_) (fun b u e=>?_) I.bare
 ·obtain ⟨f0,f1,f2,f3,f4,f5⟩:=hf b hb
  exact ⟨f3,f1,f4,f5⟩
 ·rw [Al (Nat.ne_of_lt (Nat.lt_of_lt_of_le (Heap.lt_size e) hp))]
  exact n
 ·obtain ⟨u,es,ep,ho,r⟩:=hm
  exact ⟨u,es,ep,k _ u (fun z=>(hf _ z).2.1 rfl) ho,r⟩
 ·by_cases hb:b=a
  ·subst hb
   rw [Af] at e
   cases e
   exact new
  ·rw [Al hb] at e
   refine (I.hok b u e).stay (fun c v hc q=>k c v (fun z=>?_) q) (fun _ q=>up _ _ q) fun _ _ q=>up _ _ q
   have z1:=(hf c z).1
   rcases hc with hc | hc
   ·rw [hc,e] at z1
    cases z1
   ·rw [hc] at z1
    cases z1
theorem Inv.Li {ch:List Addr} {t':Nat} (I:Inv X pins σ H s) (hf:∀ b∈ch,Ep X pins H b) (k:∀ b u,b ∉ ch->s.heap.get? b=some u->h'.get? b=some u):Inv X pins σ H { s with heap:=h',toks:=t' }:=by
 refine I.step (g':=s.gens) (d':=s.drawn) (ch:=ch) (fun b hb=>?_) (fun b u _ _ hc e _=>k b u hc e) (fun b u _ _ hc e _=>⟨u.slots,k b u hc e⟩) (fun b u _ e n=>n)
  (fun b u hc e=>⟨u,k b u hc e⟩) (fun b xs e=>e) (fun b u x e=>e) (fun b ps e=>⟨#[],by rw [e]; simp⟩) (fun m hm=>?_) (fun b u e=>?_) I.bare
 ·obtain ⟨f0,f1,f2,f3,f4,f5⟩:=hf b hb
  exact ⟨f3,f1,f4,f5⟩
 ·obtain ⟨u,es,ep,ho,r⟩:=hm
  exact ⟨u,es,ep,k _ u (fun z=>(hf _ z).2.1 rfl) ho,r⟩
 ·refine (I.hok b u e).stay (fun c v hc q=>k c v (fun z=>?_) q) (fun _ q=>q) fun _ _ q=>q
  have z1:=(hf c z).1
  rcases hc with hc | hc
  ·rw [hc,e] at z1
   cases z1
  ·rw [hc] at z1
   cases z1
end
noncomputable def Yd (K:PySem.W.Frag) (a:Addr):It :=
 ⟨fun i H=>∃ xs x,Cg K H a xs/\xs[i]? = some x,fun i H v H'=>∃ T,H T=none/\v=.ref T/\∀ xs,Cg K H a xs->∃ x,xs[i]? = some x/\H'=upd H T (.tup [.int (i:Int),x]),fun i H=>∃ xs,Cg K H a xs/\xs.length<=i⟩
noncomputable def jk (K:PySem.W.Frag) (a b:Addr):It :=
 ⟨fun i H=>∃ xs ys x y,G_ K H a xs/\G_ K H b ys/\xs[i]? = some x/\ys[i]? = some y,fun i H v H'=>∃ T,H T=none/\v=.ref T/\∀ xs ys,G_ K H a xs->G_ K H b ys->∃ x y,xs[i]? = some x/\ys[i]? = some y/\H'=upd H T (.tup [x,y]),
  fun i H=>∃ xs,G_ K H a xs/\xs.length<=i⟩
theorem Qw {P:Program} {w:World} {K:PySem.W.Frag} {es:List Expr} {k1:Nat} {pos:Pos} (a e it:Addr) (hne:e ≠ it) :
  Turn P w K (.Tuple es k1 pos) (Yd K a) [e,it] e (fun i h=>(∃ old,IsEnum h e it i old)/\h.IsListIter it a i) where
 mem:=by simp
 obj:=fun i h st b hb=>by
  obtain ⟨⟨old,he⟩,o,ho,c,d⟩:=st
  rcases List.mem_cons.mp hb with rfl | hb
  ·exact ⟨_,he,fun v z=>by
    have z':Data.fields _=Data.cell v:=z
    cases z'⟩
  ·have q:b=it:=by simpa using hb
   subst q
   exact ⟨o,ho,fun v z=>by rw [d] at z; cases z⟩
 keep:=fun i h h' st k=>by
  obtain ⟨⟨old,he⟩,hi⟩:=st
  exact ⟨⟨old,k e (by simp) _ he⟩,hi.at fun o q=>k it (by simp) o q⟩
 item:=by
  intro X hP hw hK hc i pins s σ H E I hf st hg
  subst hP hw hK
  obtain ⟨xs,x,hq,hx⟩:=hg
  obtain ⟨its,rv,p,hz⟩:=I.list hq
  obtain ⟨u,hu,ru⟩:=rv.get hx
  obtain ⟨⟨old,he⟩,hi⟩:=st
  refine wpAny_pyNext_enum_item he hi p.isList (x:=u) (by simpa using hu) hne fun h1 n1 n2 n3 n4 n5=>?_
  refine ⟨_,rfl,wpAny_letOwnedTupleGo_enum (s:={ s with heap:=h1,toks:=s.toks+1 }) n1 fun h2 m1 m2=>?_⟩
  have hT:s.heap.objs.size ≠ e:=Nat.ne_of_gt (Heap.lt_size he)
  have hI:s.heap.objs.size ≠ it:=by obtain ⟨_,q,_⟩:=hi; exact Nat.ne_of_gt (Heap.lt_size q)
  have fr:H s.heap.objs.size=none:=I.hok.fresh (Nat.le_refl _)
  have nw:CG X.prog X.w (upd H s.heap.objs.size (.tup [.int (i:Int),x])) h2 s.heap.objs.size (.tup [.int (i:Int),x]) :=
   ⟨by show 2<=sizeLine; decide,[.int i s.toks,u],.cons ⟨_,rfl⟩ (.cons ru .nil),_,m2.extBut _ _ hT n3,rfl,_,rfl⟩
  refine ⟨.ref s.heap.objs.size,_,I.Jv (t':=s.toks+1) (ch:=[e,it]) hf (fun b o hb q=>?_) (Nat.le_refl _) nw,rfl,⟨_,fr,rfl,fun ys hy=>⟨x,by rw [I.My hy hq]; exact hx,rfl⟩⟩,⟨⟨u,?_⟩,n2.at fun o q=>m2.extBut _ _ (Ne.symm hne) q⟩,fun b hb=>?_⟩
  ·exact m2.extBut _ _ (fun z=>hb (by simp [z])) (n5 b o (fun z=>hb (by simp [z])) (fun z=>hb (by simp [z])) q)
  ·have e1:((i:Int)+1)=((i+1:Nat):Int):=by omega
   rw [← e1]
   exact m1
  ·have hb':=hb
   rcases List.mem_cons.mp hb with rfl | hb
   ·rw [Al (Ne.symm hT)]
    exact (hf _ hb').1
   ·have q:b=it:=by simpa using hb
    subst q
    rw [Al (Ne.symm hI)]
    exact (hf _ hb').1
 done:=by
  intro X hP hw hK hc i pins s σ H E I hf st hg
  subst hP hw hK
  obtain ⟨xs,hq,hx⟩:=hg
  obtain ⟨its,rv,p,hz⟩:=I.list hq
  obtain ⟨⟨old,he⟩,hi⟩:=st
  have hl:=rv.length
  exact wpAny_pyNext_enum_end (I.ok.hd hc) he hi p.isList (by simp; omega) fun h1 eb=>⟨rfl,I.Li (t':=s.toks) (ch:=[e,it]) hf fun b o hb q=>eb b o (fun z=>hb (by simp [z])) q⟩
 self:=fun _ _ _ _ _ st h=>by
  obtain ⟨⟨old,he⟩,_⟩:=st
  exact wpAny_pyIter_enum he h
theorem Rq {n a b:Nat} (ha:a<n) (hb:b<n):ZipApart (n+4) (n+2) (n+3) n (n+1) a b:=by
 constructor <;> (refine (show @Ne Nat _ _ from ?_); omega)
theorem Xv {n b:Nat} {P:Nat->Prop} (h0:P n) (h1:P (n+1)) (h2:P (n+2)) (h3:P (n+3)) (h4:P (n+4)) (hb:b∈[n,n+1,n+2,n+3,n+4]):P b:=by
 simp at hb
 rcases hb with rfl | rfl | rfl | rfl | rfl <;> assumption
theorem Qs {P:Program} {w:World} {K:PySem.W.Frag} {es:List Expr} {k1:Nat} {pos:Pos} (a b n:Nat) (ha:a<n) (hb:b<n) :
  Turn P w K (.Tuple es k1 pos) (jk K a b) [n,n+1,n+2,n+3,n+4] (n+4) (fun i h=>IsZip h (n+4) (n+2) (n+3) .none/\IsPair h (n+2) (.ref n) (.ref (n+1))/\(∃ x y,IsPair h (n+3) x y)/\h.IsTupleIter n a i/\h.IsTupleIter (n+1) b i) where
 mem:=by simp
 obj:=fun i h st c hc=>by
  obtain ⟨hz,hI,⟨x,y,hO⟩,⟨o1,e1,_,d1⟩,⟨o2,e2,_,d2⟩⟩:=st
  refine Xv (P:=fun c=>∃ o,h.get? c=some o/\∀ v,o.data ≠ .cell v) ⟨_,e1,fun v z=>?_⟩ ⟨_,e2,fun v z=>?_⟩ ⟨_,hI,fun v z=>?_⟩ ⟨_,hO,fun v z=>?_⟩ ⟨_,hz,fun v z=>?_⟩ hc
  ·rw [d1] at z; cases z
  ·rw [d2] at z; cases z
  ·have z':Data.seq _ _=Data.cell v:=z
   cases z'
  ·have z':Data.seq _ _=Data.cell v:=z
   cases z'
  ·have z':Data.fields _=Data.cell v:=z
   cases z'
 keep:=fun i h h' st k=>by
  obtain ⟨hz,hI,⟨x,y,hO⟩,j1,j2⟩:=st
  exact ⟨k _ (by simp) _ hz,k _ (by simp) _ hI,⟨x,y,k _ (by simp) _ hO⟩,j1.at fun o q=>k _ (by simp) o q,j2.at fun o q=>k _ (by simp) o q⟩
 item:=by
  intro X hP hw hK hc i pins s σ H E I hf st hg
  subst hP hw hK
  obtain ⟨xs,ys,x,y,q1,q2,hx,hy⟩:=hg
  obtain ⟨it1,r1,p1,_⟩:=I.tuple q1
  obtain ⟨it2,r2,p2,_⟩:=I.tuple q2
  obtain ⟨u,hu,ru⟩:=r1.get hx
  obtain ⟨v,hv,rv⟩:=r2.get hy
  obtain ⟨hz,hI,⟨x0,y0,hO⟩,j1,j2⟩:=st
  have D:=Rq ha hb
  have hT:s.TypeIs (.ref (n+4)) "zip":=⟨_,hz,rfl⟩
  have sz:n+4<s.heap.objs.size:=Heap.lt_size hz
  unfold pyNext
  refine wpAny_bind (wpAny_attempt (wpAny_callSpecial?_slot (name:=Str.ofString "__next__") hT F.slot_zip_next (wpAny_call_entry F.slot_zip_next hT F.entry_zip_next
   (Q8 D hz hI hO j1 j2 (show s.heap.IsTuple a it1.toArray from p1) (show s.heap.IsTuple b it2.toArray from p2) (x:=u) (y:=v) (by simpa using hu) (by simpa using hv) fun h1 n1 n2 n3 n4 n5 n6 n7=>wpAny_pure ?_) (F.args_zip_next_1 _))))
  refine ⟨_,rfl,wpAny_letOwnedTupleGo_zip (s:={ s with heap:=h1 }) n1 fun h2 m1 m2=>?_⟩
  have fr:H s.heap.objs.size=none:=I.hok.fresh (Nat.le_refl _)
  have nw:CG X.prog X.w (upd H s.heap.objs.size (.tup [x,y])) h2 s.heap.objs.size (.tup [x,y]) :=
   ⟨by show 2<=sizeLine; decide,[u,v],.cons ru (.cons rv .nil),_,m2.extBut _ _ (Nat.ne_of_gt sz) n5,rfl,_,rfl⟩
  have hI2:IsPair h1 (n+2) (.ref n) (.ref (n+1)):=n7 _ _ D.TIz D.TITO D.TIi1 D.TIi2 hI
  refine ⟨.ref s.heap.objs.size,_,I.Jv (t':=s.toks) (ch:=[n,n+1,n+2,n+3,n+4]) hf (fun c o hc q=>?_) (Nat.le_refl _) nw,rfl,⟨_,fr,rfl,fun xs' ys' h1 h2=>⟨x,y,by rw [I.JB h1 q1]; exact hx,by rw [I.JB h2 q2]; exact hy,rfl⟩⟩,
   ⟨m1,m2.extBut _ _ D.TIz hI2,⟨u,v,m2.extBut _ _ D.TOz n2⟩,n3.at fun o q=>m2.extBut _ _ D.i1z q,n4.at fun o q=>m2.extBut _ _ D.i2z q⟩,fun c hc=>?_⟩
  ·have z:∀ d,d∈[n,n+1,n+2,n+3,n+4]->c ≠ d:=fun d hd q=>hc (q ▸ hd)
   exact m2.extBut _ _ (z _ (by simp)) (n7 c o (z _ (by simp)) (z _ (by simp)) (z _ (by simp)) (z _ (by simp)) q)
  ·rw [Al ?_]
   ·exact (hf c hc).1
   ·have lt:c<=n+4:=Xv (P:=fun c=>c<=n+4) (by omega) (by omega) (by omega) (by omega) (Nat.le_refl _) hc
    exact Nat.ne_of_lt (Nat.lt_of_le_of_lt lt sz)
 done:=by
  intro X hP hw hK hc i pins s σ H E I hf st hg
  subst hP hw hK
  obtain ⟨xs,q1,hx⟩:=hg
  obtain ⟨it1,r1,p1,_⟩:=I.tuple q1
  obtain ⟨hz,hI,⟨x0,y0,hO⟩,j1,j2⟩:=st
  have D:=Rq ha hb
  have hT:s.TypeIs (.ref (n+4)) "zip":=⟨_,hz,rfl⟩
  have hl:=r1.length
  unfold pyNext
  refine wpAny_bind (wpAny_attempt (wpAny_callSpecial?_slot (name:=Str.ofString "__next__") hT F.slot_zip_next (wpAny_call_entry F.slot_zip_next hT F.entry_zip_next
   (RW (I.ok.hd hc) D hz hI hO j1 (show s.heap.IsTuple a it1.toArray from p1) (by simp; omega) fun h1 x k1 hx1=>?_) (F.args_zip_next_1 _))))
  obtain ⟨o,ho,hco⟩:=hx1
  refine wpAny_bind (wpAny_isInstance (T:="StopIteration") (b:=true) ⟨o,ho,hco⟩ isSubtype_stop (wpAny_pure ?_))
  refine ⟨rfl,I.Li (t':=s.toks) (ch:=[n,n+1,n+2,n+3,n+4]) hf fun c o hc q=>?_⟩
  have z:∀ d,d∈[n,n+1,n+2,n+3,n+4]->c ≠ d:=fun d hd q=>hc (q ▸ hd)
  exact k1 c o (z _ (by simp)) (z _ (by simp)) (z _ (by simp)) (z _ (by simp)) q
 self:=fun _ _ _ _ _ st h=>wpAny_pyIter_zip st.1 h
section
variable {X:Cx} {es:List Expr} {k1:Nat} {tpos:Pos}
noncomputable def cW (K:PySem.W.Frag) (ta:TA):TI:=fun σ H R=>ta σ H fun vs H1=>∃ a,vs=[.ref a]/\(∃ xs,Cg K H1 a xs)/\R (Yd K a) H1
noncomputable def jx (K:PySem.W.Frag) (ta:TA):TI:=fun σ H R=>ta σ H fun vs H1=>∃ a b,vs=[.ref a,.ref b]/\(∃ xs,G_ K H1 a xs)/\(∃ ys,G_ K H1 b ys)/\R (jk K a b) H1
theorem Ik {l:Expr} {ta:TA} {p pos:Pos} (hg:Gl X "enumerate") (hm:X.mg "enumerate" = none) (ha:PA X [l] ta) (hs:starEach [l] X.env=[(false,eval l X.env)]:=by rfl) :
  PI X (.Tuple es k1 tpos) (.Call (.Name "enumerate" p) [l] [] pos) (cW X.K ta):=by
 intro pins s σ H R I h
 refine Call_ (HS I hg hm boot_enumerate (PyProof.Rows.callWith_type1 (Bv (ha pos pins s σ H _ I h) fun us s1 ⟨vs,H1,I1,r1,q1⟩=>?_) hs rfl))
 obtain ⟨a,e,⟨xs,hq⟩,q⟩:=q1
 subst e
 obtain ⟨u,rfl,ru⟩:=vals1 r1
 cases ru
 obtain ⟨its,rv,pl,hz⟩:=I1.list hq
 refine call_enumerate_list pl.isList fun h1 n1 n2 n3 n4=>?_
 refine wpAny_pyIter_enum (s:={ s1 with heap:=h1 }) n1 ?_
 refine ⟨_,[s1.heap.objs.size+1,s1.heap.objs.size],_,_,H1,rfl,I1.kept (t':=s1.toks) n4,Qw a _ _ (Nat.succ_ne_self _),⟨⟨_,n1⟩,n2⟩,fun b hb=>?_,q⟩
 have lt:s1.heap.objs.size<=b:=by
  rcases List.mem_cons.mp hb with rfl | hb
  ·exact Nat.le_succ _
  ·exact Nat.le_of_eq ((List.mem_singleton.mp hb).symm)
 exact I1.Jq lt (I1.hok.fresh lt)
theorem Vk {x y:Expr} {ta:TA} {p pos:Pos} (hg:Gl X "zip") (hm:X.mg "zip" = none) (ha:PA X [x,y] ta) (hs:starEach [x,y] X.env=[(false,eval x X.env),(false,eval y X.env)]:=by rfl) (hs2:starEach [y] X.env=[(false,eval y X.env)]:=by rfl) :
  PI X (.Tuple es k1 tpos) (.Call (.Name "zip" p) [x,y] [] pos) (jx X.K ta):=by
 intro pins s σ H R I h
 refine Call_ (HS I hg hm boot_zip (PyProof.Rows.callWith_type1 (Bv (ha pos pins s σ H _ I h) fun us s1 ⟨vs,H1,I1,r1,q1⟩=>?_) (by rw [hs,hs2]) (by rw [hs2]; rfl)))
 obtain ⟨a,b,e,⟨xs,q1⟩,⟨ys,q2⟩,q⟩:=q1
 subst e
 obtain ⟨u,v,rfl,ru,rv⟩:=Vals.two r1
 cases ru
 cases rv
 obtain ⟨it1,r1,p1,_⟩:=I1.tuple q1
 obtain ⟨it2,r2,p2,_⟩:=I1.tuple q2
 refine Qj (show s1.heap.IsTuple a it1.toArray from p1) (show s1.heap.IsTuple b it2.toArray from p2) fun h1 n hn n1 n2 n3 n4 n5 n6 n7=>?_
 refine wpAny_pyIter_zip (s:={ s1 with heap:=h1 }) n1 ?_
 have la:a<n:=by rw [hn]; exact p1.lt
 have lb:b<n:=by rw [hn]; exact p2.lt
 refine ⟨_,[n,n+1,n+2,n+3,n+4],_,_,H1,rfl,I1.kept (t':=s1.toks) n7,Qs a b n la lb,⟨n1,n2,⟨_,_,n3⟩,n4,n5⟩,fun c hc=>?_,q⟩
 have lt:s1.heap.objs.size<=c:=by
  rw [← hn]
  exact Xv (P:=fun c=>n<=c) (by omega) (by omega) (by omega) (by omega) (by omega) hc
 exact I1.Jq lt (I1.hok.fresh lt)
end
end L2
namespace L2
open PySem PySem.Spec PyProof.Rows
theorem U6 {prog:Program} {w:World} {A:Around} {R:Result->Shared->Prop} {s:Shared} {elt tg iter:Expr} {ifs:List Expr} {scope:Scope} {pos:Pos} {it acc:Value} {env:Env} (J:Nat->Shared->Prop) {E:Value->Shared->Prop} (hE:E=notedBy (model prog w) A env fun e s'=>R (.error e) s')
  (turn:∀ n s,J n s->wpAny (model prog w) A (pyNext it) (fun r s1=>match r with
   | none=>R (.ok .next) s1
   | some v=>wpAny (model prog w) A (letOwnedTupleGo tg it v) (fun _ s2=>wpAny (model prog w) A (assign tg env v) (fun _ s3 =>
     wpAny (model prog w) A (forIn ifs true fun c r=>if r=true then do let ok ← isTrue c env (eval c env); pure (ForInStep.yield ok) else pure (ForInStep.yield r)) (fun ok s4 =>
      if ok=true then wpAny (model prog w) A (eval elt env) (fun x s5=>wpAny (model prog w) A (call (.builtin "list.append") [acc,x]) (fun _ s6=>∃ m,m<n/\J m s6) E s5) E s4
      else ∃ m,m<n/\J m s4) E s3) E s2) E s1) E s) (n:Nat) (h:J n s) :
  codeAny (model prog w) A (.compLoop (.ListComp elt [⟨tg,iter,ifs,0⟩] scope pos) 0 it acc env) R s:=by
 subst hE
 refine codeAny_loop rfl J (fun n s hJ=>(show wpAny _ A ((compTurn (.ListComp elt [⟨tg,iter,ifs,0⟩] scope pos) 0 it acc env).onRaise (fun x=>do noteFrame x env; theTreesLotGoes x)) _ _ s from wpAny_noted ?_)) n h
 rw [compTurn_list]
 refine wpAny_bind (wpAny_standAt (wpAny_bind (wpAny_mono (turn n s hJ) (fun r s1 h1=>?_) fun _ _ q=>q)))
 cases r with
 | none=>exact wpAny_pure h1
 | some v =>
  refine wpAny_bind (wpAny_mono h1 (fun _ s2 h2=>wpAny_bind (wpAny_mono h2 (fun _ s3 h3=>wpAny_bind (wpAny_mono h3 (fun ok s4 h4=>?_) fun _ _ q=>q)) fun _ _ q=>q)) fun _ _ q=>q)
  cases ok with
  | false=>exact wpAny_pure ⟨rfl,h4⟩
  | true=>exact wpAny_bind (wpAny_bind (wpAny_mono h4 (fun x s5 h5=>wpAny_bind (wpAny_mono h5 (fun _ s6 h6=>wpAny_pure (wpAny_pure ⟨rfl,h6⟩)) fun _ _ q=>q)) fun _ _ q=>q))
noncomputable def Bg (X:Cx) (x z:Str) (scope:Scope) (C:Addr) (s₀:Shared) (H₀:Hp) (fp:List Addr):Cx where
 prog:=X.prog
 w:=X.w
 K:=X.K
 mg:=X.mg
 base:=X.base
 A:=X.A
 N:=x::z::X.N
 s₀:=s₀
 H₀:=H₀
 env:=compEnvC scope (Bx X.env scope.names []) C X.env
 outer:=X.stack
 stack:=X.stack
 ex:=fp
 fn:=fun _=>false
 calm:=X.calm
 pn:=[]
 xe:=fun _ _=>False
structure Eb (X:Cx) (x z:Str) (scope:Scope):Prop where
 kind:scope.kind=.function
 nocell:∀ y∈scope.names,y.2 ≠ .cell
 names:∀ y∈scope.names,y.2=.local->scope.names.lookup y.1=some .local
 loc:scope.names.lookup x=some .local
 loz:scope.names.lookup z=some .local
 free:∀ y∈scope.names,y.2=.free->X.env.kindOf y.1=some .cell \/ X.env.kindOf y.1=some .free
 nd:(x::z::X.N).Nodup
 only:∀ y∈X.N,scope.names.lookup y ≠ some .local
section
variable {X:Cx} {pins:List (Addr × Obj)} {σ:St} {H:Hp} {s:Shared} {x z:Str} {scope:Scope} {fp:List Addr} {C:Addr}
theorem Nh {h':Heap} {tk:Nat} {m:Str->Option Value} (I:Inv X pins σ H s) (S:Eb X x z scope) (hf:∀ b∈fp,Ep X pins H b) (hlt:∀ b∈fp,b<s.heap.objs.size) (hC:s.heap.objs.size<=C) (hn:h'.Ns C m)
  (hk:∀ b o,s.heap.get? b=some o->h'.get? b=some o):Inv (Bg X x z scope C s H fp) [] (none::none::σ) H { s with heap:=h',toks:=tk }:=by
 have cl:∀ y c,(Bx X.env scope.names []).lookup y=some c->X.env.cells.lookup y=some c:=fun y c e=>by
  rcases Eu X.env scope.names [] y c e with z | z
  ·cases z
  ·exact z
 have cellK:∀ c v,s.heap.IsCell c v->h'.IsCell c v:=fun c v ⟨o,ho,hd⟩=>⟨o,hk c o ho,hd⟩
 have look:∀ y,(Bg X x z scope C s H fp).env.scope.names.lookup y=(scope.names.lookup y).map fun k=>if (k == NameKind.free && X.env.scope.kind == .function && X.env.kindOf y == some .cell) then NameKind.cell else k:=fun y=>DN X.env y scope.names
 refine ⟨⟨I.ok.mod,S.kind,I.ok.glob,I.ok.blt,hC,fun y z c e1 e2=>I.ok.inj y z c (cl y c e1) (cl z c e2),fun y hy=>?_,fun y c e _=>(by cases e),fun h=>I.ok.hd h,I.ok.frames,.inl rfl,fun b hb=>?_,I.bs,Nat.le_trans I.ok.bsz I.sz,fun b o e hb=>?_,fun b hb hb'=>?_,I.stack,I.Jd⟩,
  rfl,I.bare,Un.kept hk,⟨m,hn,fun i y v h1 h2 h3=>?_⟩,fun y c e=>?_,I.hok.fresh hC,fun y c e=>I.freeC y c (cl y c e),fun p hp=>absurd (show p∈([]:List (Addr × Obj)) from hp) (by simp),I.hok.kept hk,?_⟩
 ·have hy':(Bg X x z scope C s H fp).env.scope.names.lookup y=some .cell \/ (Bg X x z scope C s H fp).env.scope.names.lookup y=some .free:=hy
  rw [look y] at hy'
  cases e:scope.names.lookup y with
  | none=>rw [e] at hy'; rcases hy' with z | z <;> cases z
  | some k =>
   have hm:=PySem.mem_of_lookup e
   have hfree:k=.free:=by
    rw [e] at hy'
    cases k with
    | free=>rfl
    | cell=>exact absurd rfl (S.nocell _ hm)
    | _=>rcases hy' with z | z <;> simp at z
   subst hfree
   obtain ⟨c,hc⟩:=I.ok.has y (S.free _ hm rfl)
   exact Option.isSome_iff_exists.mp (DX X.env scope.names [] y hm (by rw [hc]; rfl))
 ·obtain ⟨f0,f1,f2,f3,f4,f5⟩:=hf b hb
  exact ⟨Nat.ne_of_lt (Nat.lt_of_lt_of_le (hlt b hb) hC),fun y c e=>f4 y c (cl y c e)⟩
 ·obtain ⟨f0,f1,f2,f3,f4,f5⟩:=hf b hb
  rcases f3 with z | z
  ·exact I.ok.noex b o e z
  ·exact absurd (Nat.lt_of_lt_of_le (Heap.lt_size e) (Nat.le_trans I.ok.bsz z)) (Nat.lt_irrefl _)
 ·obtain ⟨f0,f1,f2,f3,f4,f5⟩:=hf b hb
  rcases List.mem_cons.mp (I.Jx b hb') with e | e
  ·exact f1 e
  ·exact f2 e
 ·match i,h1,h2 with
  | 0,h1,h2 =>
   have h2':(some none:Option (Option V))=some (some v):=h2
   cases h2'
  | 1,h1,h2 =>
   have h2':(some none:Option (Option V))=some (some v):=h2
   cases h2'
  | i+2,h1,h2 =>
   have e0:X.N[i]? = some y:=h1
   have h2':σ[i]? = some (some v):=h2
   have hmem:y∈X.N:=List.mem_of_getElem? e0
   have h3':(Bg X x z scope C s H fp).env.scope.names.lookup y=some .local \/ (Bg X x z scope C s H fp).env.scope.names.lookup y=some .cell \/ (Bg X x z scope C s H fp).env.scope.names.lookup y=some .free:=h3
   rw [look y] at h3'
   cases e:scope.names.lookup y with
   | none=>rw [e] at h3'; rcases h3' with z | z | z <;> cases z
   | some k =>
    have hm:=PySem.mem_of_lookup e
    have hfree:k=.free:=by
     rw [e] at h3'
     cases k with
     | free=>rfl
     | cell=>exact absurd rfl (S.nocell _ hm)
     | «local»=>exact absurd e (S.only y hmem)
     | _=>rcases h3' with z | z | z <;> simp at z
    subst hfree
    have kd:=S.free _ hm rfl
    obtain ⟨m0,hn0,hl0⟩:=I.loc
    obtain ⟨u,r,l⟩:=hl0 i y v e0 h2' (by rcases kd with z | z; exact .inr (.inl z); exact .inr (.inr z))
    refine ⟨u,r,.inr ⟨?_,?_⟩⟩
    ·have hk':(Bg X x z scope C s H fp).env.scope.names.lookup y=some (if (NameKind.free == NameKind.free && X.env.scope.kind == .function && X.env.kindOf y == some .cell) then NameKind.cell else NameKind.free):=by
      rw [look y,e]; rfl
     by_cases c:(NameKind.free == NameKind.free && X.env.scope.kind == .function && X.env.kindOf y == some .cell)=true
     ·rw [if_pos c] at hk'; exact .inl hk'
     ·rw [if_neg c] at hk'; exact .inr hk'
    ·rcases l with ⟨lk,_⟩ | ⟨_,c,hc,hcell⟩
     ·exfalso
      rcases kd with z | z <;> (rw [show X.env.kindOf y=some NameKind.local from lk] at z; cases z)
     ·obtain ⟨c',hc'⟩:=Option.isSome_iff_exists.mp (DX X.env scope.names [] y hm (by rw [hc]; rfl))
      have:=cl y c' hc'
      rw [hc] at this
      cases this
      exact ⟨c,hc',cellK c _ hcell⟩
 ·obtain ⟨v,z⟩:=I.cell y c (cl y c e)
  exact ⟨v,cellK c v z⟩
 ·show (none::none::σ).length=(x::z::X.N).length
  simp [I.len]
end
noncomputable def Ia (J:It) (σ:St) (H1:Hp) (Q:VK) (g:TG) (tt:TT) (te:TE):Prop:=∀ D,H1 D=none->∃ W:Nat->Nat->List V->Hp->Prop,(∃ m,W 0 m [] (upd H1 D (.lst [])))/\∀ i m ys H2,W i m ys H2 ->
 (J.stop i H2/\Q (.ref D) H2) \/ (J.go i H2/\∀ x H3,J.yld i H2 x H3->∀ v0 v1,g x (v0::v1::σ) H3 fun σ' H3'=>(∃ w0 w1,σ'=w0::w1::σ)/\tt σ' H3' fun b H4 =>
  if b=true then te σ' H4 fun y H5=>H5 D=some (.lst ys)/\ys.length<sizeLine/\∃ m',m'<m/\W (i+1) m' (ys++[y]) (upd H5 D (.lst (ys++[y])))
  else ∃ m',m'<m/\W (i+1) m' ys H4)
noncomputable def Rv (wi:TI) (g:TG) (tt:TT) (te:TE):TE:=fun σ H Q=>wi σ H fun J H1=>Ia J σ H1 Q g tt te
section
variable {X:Cx} {x z:Str} {scope:Scope}
theorem Mz {tg:Expr} {pos:Pos} {iter elt:Expr} {ifs:List Expr} {g:TG} {tt:TT} {te:TE} {pins:List (Addr × Obj)} {σ:St} {s2:Shared} {H2:Hp} {it:Addr} {fp:List Addr} {tn:Nat->Heap->Prop} {J:It} {E:Value->Shared->Prop}
  {RR:Value->Addr->Result->Shared->Prop} {Q:VK}
  (hc:X.calm=true) (S:Eb X x z scope) (hg:∀ C s₀ H₀ fp,PG (Bg X x z scope C s₀ H₀ fp) tg g) (ht:∀ C s₀ H₀ fp,KN (Bg X x z scope C s₀ H₀ fp) ifs tt) (he:∀ C s₀ H₀ fp,PE (Bg X x z scope C s₀ H₀ fp) elt te)
  (I2:Inv X pins σ H2 s2) (T:Turn X.prog X.w X.K tg J fp it tn) (st2:tn 0 s2.heap) (f2:∀ b∈fp,Ep X pins H2 b) (q:Ia J σ H2 Q g tt te)
  (hRR:∀ D C s' H' m,s'.heap.Ns C m->Ep X pins H' C->Inv X pins σ H' s'->Q (.ref D) H'->RR (.ref D) C (.ok .next) s') :
  wpAny (model X.prog X.w) X.A (newList []) (fun acc s₃=>wpAny (model X.prog X.w) X.A (newFunctionEnv scope X.env.globals (Bx X.env scope.names []) [] X.env.qual none .none (some X.env)) (fun cenv s₄ =>
   codeAny (model X.prog X.w) X.A (.compStart (.ListComp elt [⟨tg,iter,ifs,0⟩] scope pos) 0 (.ref it) acc { cenv with scope:=relabel scope X.env }) (RR acc cenv.locals) s₄) E s₃) E s2:=by
 refine wpAny_newObj_type (wpAny_newFunctionEnv S.nocell (by intro y hy; simp at hy) (fun h₁ hns₁ hsb₁=>?_) S.kind)
 have I3:=I2.Va (its:=[]) (ys:=[]) (t':=s2.toks) .nil (Nat.zero_le _)
 have hD0:H2 s2.heap.objs.size=none:=I2.fresh
 obtain ⟨W,⟨m0,w0⟩,turn⟩:=q _ hD0
 generalize hs3:({ s2 with heap:=s2.heap.push { cls:=.type "list",data:=.seq ([]:List Value).toArray },toks:=s2.toks }:Shared)=s3 at I3
 have e3:s3.heap=s2.heap.push { cls:=.type "list",data:=.seq ([]:List Value).toArray }:=by rw [← hs3]
 have hlt:∀ b∈fp,b<s2.heap.objs.size:=fun b hb=>let ⟨_,e,_⟩:=T.obj _ _ st2 b hb; Heap.lt_size e
 have hlt3:∀ b∈fp,b<s3.heap.objs.size:=fun b hb=>by rw [e3,Heap.size_push]; exact Nat.lt_succ_of_lt (hlt b hb)
 have f3:∀ b∈fp,Ep X pins (upd H2 s2.heap.objs.size (.lst [])) b:=fun b hb=>⟨by rw [Al (Nat.ne_of_lt (hlt b hb))]; exact (f2 b hb).1,(f2 b hb).2⟩
 have hk1:∀ b o,s3.heap.get? b=some o->h₁.get? b=some o:=fun b o e=>by
  have hne:b ≠ s3.heap.objs.size:=Nat.ne_of_lt (Heap.lt_size e)
  rw [e3] at e hne
  exact hsb₁.extBut b o hne (Heap.get?_push_of_some _ e)
 have hC:s3.heap.objs.size=(s2.heap.push { cls:=.type "list",data:=.seq ([]:List Value).toArray }).objs.size:=by rw [e3]
 have hns:h₁.Ns s3.heap.objs.size (fun x=>([]:List (Str × Value)).reverse.lookup x):=by rw [hC]; exact hns₁
 have st3:tn 0 h₁:=T.keep _ _ _ st2 fun b hb o e=>hk1 b o (by rw [e3]; exact Heap.get?_push_of_some _ e)
 have start:∀ tk,Inv (Bg X x z scope s3.heap.objs.size s3 (upd H2 s2.heap.objs.size (.lst [])) fp) [] (none::none::σ) (upd H2 s2.heap.objs.size (.lst [])) { s3 with heap:=h₁,toks:=tk }:=fun tk =>
  Nh I3 S f3 hlt3 (Nat.le_refl _) hns hk1
 have loop:∀ tk,codeAny (model X.prog X.w) X.A (.compLoop (.ListComp elt [⟨tg,iter,ifs,0⟩] scope pos) 0 (.ref it) (.ref s2.heap.objs.size) (compEnvC scope (Bx X.env scope.names []) s3.heap.objs.size X.env))
   (RR (.ref s2.heap.objs.size) s3.heap.objs.size) { s3 with heap:=h₁,toks:=tk }:=by
  intro tk
  refine U6 (fun n s'=>∃ i ys v0 v1 H',Inv (Bg X x z scope s3.heap.objs.size s3 (upd H2 s2.heap.objs.size (.lst [])) fp) [] (v0::v1::σ) H' s'/\tn i s'.heap/\(∀ b∈fp,H' b=none)/\W i n ys H') rfl ?_ m0
   ⟨0,[],none,none,_,start tk,st3,fun b hb=>(f3 b hb).1,w0⟩
  rintro n s4 ⟨i,ys,v0,v1,H4,I4,st4,fr4,w4⟩
  have stat:∀ {H':Hp},(∀ b∈fp,H' b=none)->∀ b∈fp,Ep (Bg X x z scope s3.heap.objs.size s3 (upd H2 s2.heap.objs.size (.lst [])) fp) [] H' b:=fun hn b hb=>by
   refine ⟨hn b hb,(I4.ok.exf b hb).1,I4.ok.exfs b hb,.inl hb,(I4.ok.exf b hb).2,fun p hp=>absurd (show p∈([]:List (Addr × Obj)) from hp) (by simp)⟩
  rcases turn i n ys H4 w4 with ⟨stop,qn⟩ | ⟨go,step⟩
  ·refine Bv (T.done (Bg X x z scope s3.heap.objs.size s3 (upd H2 s2.heap.objs.size (.lst [])) fp) rfl rfl rfl hc i [] s4 (v0::v1::σ) H4 _ I4 (stat fr4) st4 stop) fun r s5 ⟨hr,I5⟩=>?_
   subst hr
   obtain ⟨m,hn,_⟩:=I5.loc
   refine hRR _ _ s5 H4 m hn (I3.Jq (Nat.le_refl _) I5.free) (I3.call' (s':=s5) (ch:=fp) I5.os I5.base I5.hok I5.bare (fun b hb=>?_)) qn
   obtain ⟨_,g1,_,g3,g4,g5⟩:=f3 b hb
   exact ⟨g3,g1,g4,g5⟩
  ·refine Bv (T.item (Bg X x z scope s3.heap.objs.size s3 (upd H2 s2.heap.objs.size (.lst [])) fp) rfl rfl rfl hc i [] s4 (v0::v1::σ) H4 _ I4 (stat fr4) st4 go) fun r s5 ⟨u,hr,h5⟩=>?_
   subst hr
   refine Bv h5 fun _ s6 h6=>?_
   obtain ⟨xv,H6,I6,r6,y6,st6,fr6⟩:=h6
   have I6':=I6.pinned (stat fr6) (T.obj _ _ st6)
   have again:∀ {s7:Shared} {H7:Hp} {ys':List V} {w0 w1:Option V},Inv (Bg X x z scope s3.heap.objs.size s3 (upd H2 s2.heap.objs.size (.lst [])) fp) ([]++Hl fp s6.heap) (w0::w1::σ) H7 s7->(∃ m',m'<n/\W (i+1) m' ys' H7) ->
     ∃ m,m<n/\∃ i ys v0 v1 H',Inv (Bg X x z scope s3.heap.objs.size s3 (upd H2 s2.heap.objs.size (.lst [])) fp) [] (v0::v1::σ) H' s7/\tn i s7.heap/\(∀ b∈fp,H' b=none)/\W i m ys H':=fun {s7 H7 ys' w0 w1} I7 hw=>by
    obtain ⟨m',hm,w7⟩:=hw
    refine ⟨m',hm,i+1,ys',w0,w1,H7,I7.Fw,T.keep _ _ _ st6 fun b hb o e=>(I7.pin (b,o) (List.mem_append_right _ (List.mem_append_right _ (DP hb e)))).1,fun b hb=>?_,w7⟩
    obtain ⟨o,e,d⟩:=T.obj _ _ st6 b hb
    exact (I7.pin (b,o) (List.mem_append_right _ (List.mem_append_right _ (DP hb e)))).2.1
   refine KZ (hg _ _ _ _ _ s6 (v0::v1::σ) H6 xv u _ I6' r6 (step xv H6 y6 v0 v1)) fun _ s7 ⟨σ7,H7,I7,⟨w0,w1,e7⟩,q7⟩=>?_
   subst e7
   refine KZ (ht _ _ _ _ _ s7 (w0::w1::σ) H7 _ I7 q7) fun b s8 hq0=>?_
   obtain ⟨H8,I8,q8⟩:=hq0
   cases b with
   | false =>
    rw [if_neg Bool.false_ne_true] at q8 ⊢
    exact again I8 q8
   | true =>
    rw [if_pos rfl] at q8 ⊢
    refine KZ (he _ _ _ _ _ s8 (w0::w1::σ) H8 _ I8 q8) fun y s9 hq0=>?_
    obtain ⟨yv,H9,I9,r9,hD9,hz9,q9⟩:=hq0
    refine KZ (Cm (X:=Bg X x z scope s3.heap.objs.size s3 (upd H2 s2.heap.objs.size (.lst [])) fp) _ s9 (w0::w1::σ) H9 (.ref s2.heap.objs.size) [yv] (.ref s2.heap.objs.size) [y] (fun _ H'=>H'=upd H9 s2.heap.objs.size (.lst (ys++[yv]))) I9 rfl (.cons r9 .nil)
     ⟨_,ys,yv,rfl,rfl,hD9,hz9,rfl⟩) fun _ s10 ⟨_,H10,I10,_,e10⟩=>?_
    subst e10
    exact again I10 q9
 have key:=fun tk=>codeAny_compStart_list (R:=RR (.ref s2.heap.objs.size) s3.heap.objs.size) (loop tk) (T.self X.A 0 { s3 with heap:=h₁,toks:=tk } (fun it' s'=>codeAny (model X.prog X.w) X.A (.compLoop (.ListComp elt [⟨tg,iter,ifs,0⟩] scope pos) 0 it' (.ref s2.heap.objs.size) (compEnvC scope (Bx X.env scope.names []) s3.heap.objs.size X.env)) (RR (.ref s2.heap.objs.size) s3.heap.objs.size) s') _ st3 (loop tk))
 subst hs3
 exact key _
theorem Td {tg:Expr} {pos:Pos} {iter elt:Expr} {ifs:List Expr} {wi:TI} {g:TG} {tt:TT} {te:TE} (hc:X.calm=true) (S:Eb X x z scope) (hi:PI X tg iter wi) (hg:∀ C s₀ H₀ fp,PG (Bg X x z scope C s₀ H₀ fp) tg g)
  (ht:∀ C s₀ H₀ fp,KN (Bg X x z scope C s₀ H₀ fp) ifs tt) (he:∀ C s₀ H₀ fp,PE (Bg X x z scope C s₀ H₀ fp) elt te) (hs:∀ x,foldedSetIterable iter X.env x=pure x:=by intro _; rfl) :
  PE X (.ListComp elt [⟨tg,iter,ifs,0⟩] scope pos) (Rv wi g tt te):=by
 intro pins s σ H Q I h
 rw [eval_ListComp]
 refine wpAny_comprehension_free (use:=none) (cl:=Bx X.env scope.names []) rfl hs (FQ fun y hy hk=>I.ok.has y.1 (S.free y hy hk)) S.kind S.names (Bv (hi pins s σ H _ I h) fun v s1 h1=>Bv h1 fun itv s2 h2=>?_)
 obtain ⟨it,fp,tn,J,H2,e,I2,T,st2,f2,q⟩:=h2
 subst e
 refine Mz (RR:=fun acc C=>compPost (model X.prog X.w) X.A X.xe none (EP X pins σ Q) acc C) (Q:=Q) hc S hg ht he I2 T st2 f2 q ?_
 intro D C s' H' m hn hf hI hq
 exact ⟨m,hn,fun h' sb=>⟨.ref D,H',hI.sameBut hf sb,rfl,hq⟩⟩
end
end L2
namespace L2
open PySem PySem.Spec PySem.Calls PyProof.Rows
theorem Ak.tup {K:PySem.W.Frag} {H H':Hp} {a:Addr} {xs:List V} (e:Ak H H') (h:G_ K H a xs):G_ K H' a xs:=by
 rcases h with (h | ⟨o,h⟩) | h
 ·exact .inl (.inl (e _ _ h))
 ·exact .inl (.inr ⟨o,e _ _ h⟩)
 ·exact .inr h
noncomputable def TupAt (H:Hp) (zs:List V) (y:V):Prop:=∃ T,y=.ref T/\H T=some (.tup zs)
theorem TupAt.mono {H H':Hp} {zs:List V} {y:V} (s:Ak H H') (h:TupAt H zs y):TupAt H' zs y:=let ⟨T,e,q⟩:=h; ⟨T,e,s _ _ q⟩
theorem TupAt.upd {H:Hp} {zs ys ws:List V} {y:V} {D:Addr} (h:TupAt H zs y) (hD:H D=some (.lst ys)):TupAt (upd H D (.lst ws)) zs y:=by
 obtain ⟨T,e,q⟩:=h
 refine ⟨T,e,?_⟩
 rw [Al fun z=>by rw [z,hD] at q; cases q]
 exact q
theorem CP {α:Type} {H:Hp} {f:α->List V} {l:List α} {vs ys ws:List V} {D:Addr} (h:Paired (fun a y=>TupAt H (f a) y) l vs) (hD:H D=some (.lst ys)):Paired (fun a y=>TupAt (upd H D (.lst ws)) (f a) y) l vs:=Paired.Eo h fun _ _ q=>q.upd hD
theorem Am {α:Type} {H H':Hp} {f:α->List V} {l:List α} {vs:List V} (s:Ak H H') (h:Paired (fun a y=>TupAt H (f a) y) l vs):Paired (fun a y=>TupAt H' (f a) y) l vs:=Paired.Eo h fun _ _ q=>q.mono s
noncomputable def Mr (x z:Str) (scope osc:Scope) (N:List Str):Bool :=
 (scope.kind == .function) && scope.names.all (fun y=>y.2 != .cell && (y.2 != .local || scope.names.lookup y.1 == some .local) && (y.2 != .free || osc.names.lookup y.1 == some .cell || osc.names.lookup y.1 == some .free)) && (scope.names.lookup x == some .local) && (scope.names.lookup z == some .local) &&
 decide ((x::z::N).Nodup) && N.all (fun y=>scope.names.lookup y != some .local)
theorem HQ {X:Cx} {x z:Str} {scope osc:Scope} {N:List Str} (hsc:X.env.scope=osc) (hN:X.N=N) (h:Mr x z scope osc N=true):Eb X x z scope:=by
 unfold Mr at h
 simp only [Bool.and_eq_true] at h
 obtain ⟨⟨⟨⟨⟨h1,h2⟩,h3⟩,h3'⟩,h4⟩,h5⟩:=h
 rw [List.all_eq_true] at h2 h5
 have kind:∀ y,X.env.kindOf y=osc.names.lookup y:=fun y=>by show X.env.scope.names.lookup y=_; rw [hsc]
 refine ⟨by simpa using h1,fun y hy=>?_,fun y hy hk=>?_,by simpa using h3,by simpa using h3',fun y hy hk=>?_,by rw [hN]; exact of_decide_eq_true h4,fun y hy=>?_⟩
 ·have:=h2 y hy
  simp only [Bool.and_eq_true,bne_iff_ne] at this
  exact this.1.1
 ·have:=h2 y hy
  simp only [Bool.and_eq_true] at this
  simpa [hk] using this.1.2
 ·have:=h2 y hy
  simp only [Bool.and_eq_true] at this
  rw [kind]
  simpa [hk] using this.2
 ·have:=h5 y (by rw [← hN]; exact hy)
  simpa using this
section
variable {X:Cx} {x z:Str} {scope:Scope}
theorem Vc {px pz pos:Pos} {k:Nat} {C:Addr} {s₀:Shared} {H₀:Hp} {fp:List Addr} (hc:X.calm=true) (S:Eb X x z scope) :
  PG (Bg X x z scope C s₀ H₀ fp) (.Tuple [.Name x px,.Name z pz] k pos) (Nk X.K 2 (Gm (Cq 0) (Gm (Cq 1) RB))):=by
 have l1:(Bg X x z scope C s₀ H₀ fp).env.scope.names.lookup x=some .local:=lookup_relabel_local S.loc
 have l2:(Bg X x z scope C s₀ H₀ fp).env.scope.names.lookup z=some .local:=lookup_relabel_local S.loz
 exact Jl (X:=Bg X x z scope C s₀ H₀ fp) (n:=2) hc (Di (Bp (X:=Bg X x z scope C s₀ H₀ fp) (i:=0) S.nd rfl (.inl l1) (.inr l1)) (Di (Bp (X:=Bg X x z scope C s₀ H₀ fp) (i:=1) S.nd rfl (.inl l2) (.inr l2)) Hw))
theorem Lb {px pz tpos:Pos} {k:Nat} {pos:Pos} {iter elt:Expr} {ifs:List Expr} {wi:TI} {tt:TT} {te:TE} (hc:X.calm=true) (S:Eb X x z scope) (hi:PI X (.Tuple [.Name x px,.Name z pz] k tpos) iter wi)
  (ht:∀ C s₀ H₀ fp,KN (Bg X x z scope C s₀ H₀ fp) ifs tt) (he:∀ C s₀ H₀ fp,PE (Bg X x z scope C s₀ H₀ fp) elt te) (hs:∀ x,foldedSetIterable iter X.env x=pure x:=by intro _; rfl) :
  PE X (.ListComp elt [⟨.Tuple [.Name x px,.Name z pz] k tpos,iter,ifs,0⟩] scope pos) (Rv wi (Nk X.K 2 (Gm (Cq 0) (Gm (Cq 1) RB))) tt te) :=
 Td hc S hi (fun _ _ _ _=>Vc hc S) ht he hs
end
section
variable {σ:St} {H1:Hp} {Q:VK} {tt:TT} {te:TE}
theorem Cd {K:PySem.W.Frag} {a:Addr} {xs:List V} (p:V->Bool) (f:V->V) (hl:Cg K H1 a xs) (hz:xs.length<sizeLine)
  (ht:∀ x∈xs,∀ H,Ak H1 H->∀ R:Bool->Hp->Prop,(∀ H',Ak H H'->R (p x) H')->tt (some x::σ) H R)
  (he:∀ x∈xs,p x=true->∀ H,Ak H1 H->∀ R:VK,(∀ H',Ak H H'->R (f x) H')->te (some x::σ) H R)
  (hq:∀ D H,H1 D=none->Ak H1 H->H D=some (.lst ((xs.filter p).map f))->Q (.ref D) H):Fl (WD K a) σ H1 Q tt te :=
 IK p f hz (fun i H x hs hx=>⟨xs,x,hs.seq hl,hx⟩) (fun i H y H' hs _ hy=>⟨hy.1,hy.2 xs (hs.seq hl)⟩) (fun H hs=>⟨xs,hs.seq hl,Nat.le_refl _⟩) ht he hq
theorem Kd {J:It} {xs:List V} (p:V->Bool) (f:V->List V) (hz:xs.length<sizeLine)
  (hgo:∀ i H x,Ak H1 H->xs[i]? = some x->J.go i H) (hy:∀ i H y H',Ak H1 H->i<xs.length->J.yld i H y H'->H'=H/\xs[i]? = some y) (hstop:∀ H,Ak H1 H->J.stop xs.length H)
  (ht:∀ x∈xs,∀ H,Ak H1 H->∀ R:Bool->Hp->Prop,(∀ H',Ak H H'->R (p x) H')->tt (some x::σ) H R)
  (he:∀ x∈xs,p x=true->∀ H,Ak H1 H->∀ R:VK,(∀ y H',Ak H H'->TupAt H' (f x) y->R y H')->te (some x::σ) H R)
  (hq:∀ D H ys,H1 D=none->Ak H1 H->H D=some (.lst ys)->Paired (fun x y=>TupAt H (f x) y) (xs.filter p) ys->Q (.ref D) H):Fl J σ H1 Q tt te:=by
 intro D hD
 have s0:Ak H1 (upd H1 D (.lst [])):=fun b o e=>by rw [Al (Aj e hD)]; exact e
 refine ⟨fun i m ys H=>m=xs.length - i/\i<=xs.length/\H D=some (.lst ys)/\Paired (fun x y=>TupAt H (f x) y) ((xs.take i).filter p) ys/\Ak H1 H,⟨xs.length,by simp,Nat.zero_le _,Af,by simpa using Paired.nil,s0⟩,?_⟩
 rintro i m ys H ⟨rfl,hi,hd,hp,hs⟩
 by_cases hlt:i<xs.length
 ·obtain ⟨x,hx⟩:∃ x,xs[i]? = some x:=⟨xs[i],by simp [hlt]⟩
  refine .inr ⟨hgo i H x hs hx,fun y H3 hyl=>?_⟩
  obtain ⟨rfl,hy'⟩:=hy i H y H3 hs hlt hyl
  rw [hx] at hy'
  cases hy'
  have hm:x∈xs:=List.mem_of_getElem? hx
  have hlen:ys.length<sizeLine:=by
   rw [← hp.length]
   refine Nat.lt_of_le_of_lt (List.length_filter_le _ _) (Nat.lt_of_le_of_lt ?_ hz)
   rw [List.length_take]; omega
  refine ht x hm _ hs _ fun H4 s4=>?_
  by_cases hpx:p x=true
  ·rw [if_pos hpx]
   refine he x hm hpx H4 (hs.trans s4) _ fun y H5 s5 hφ=>?_
   refine ⟨s5 _ _ (s4 _ _ hd),hlen,xs.length - (i+1),by omega,rfl,hlt,Af,?_,fun b o e=>?_⟩
   ·rw [take_succ_filter p xs i x hx,if_pos hpx]
    exact (CP (Am (s4.trans s5) hp) (s5 _ _ (s4 _ _ hd))).snoc (hφ.upd (s5 _ _ (s4 _ _ hd)))
   ·rw [Al (Aj e hD)]; exact s5 _ _ (s4 _ _ (hs _ _ e))
  ·rw [if_neg hpx]
   refine ⟨xs.length - (i+1),by omega,rfl,hlt,s4 _ _ hd,?_,hs.trans s4⟩
   rw [take_succ_filter p xs i x hx,if_neg hpx,List.append_nil]
   exact Am s4 hp
 ·have e:i=xs.length:=by omega
  subst e
  rw [List.take_length] at hp
  exact .inl ⟨hstop H hs,hq D H ys hD hs hd hp⟩
theorem J1 {K:PySem.W.Frag} {a:Addr} {xs:List V} (p:V->Bool) (f:V->List V) (hl:Cg K H1 a xs) (hz:xs.length<sizeLine)
  (ht:∀ x∈xs,∀ H,Ak H1 H->∀ R:Bool->Hp->Prop,(∀ H',Ak H H'->R (p x) H')->tt (some x::σ) H R)
  (he:∀ x∈xs,p x=true->∀ H,Ak H1 H->∀ R:VK,(∀ y H',Ak H H'->TupAt H' (f x) y->R y H')->te (some x::σ) H R)
  (hq:∀ D H ys,H1 D=none->Ak H1 H->H D=some (.lst ys)->Paired (fun x y=>TupAt H (f x) y) (xs.filter p) ys->Q (.ref D) H):Fl (WD K a) σ H1 Q tt te :=
 Kd p f hz (fun i H x hs hx=>⟨xs,x,hs.seq hl,hx⟩) (fun i H y H' hs _ hy=>⟨hy.1,hy.2 xs (hs.seq hl)⟩) (fun H hs=>⟨xs,hs.seq hl,Nat.le_refl _⟩) ht he hq
theorem Lp {α β:Type} {F:α->β->Prop} (g:Nat->α):∀ {n:Nat} {l:List α} {ys:List β},Paired F l ys->l=(List.range n).map g->Paired (fun i y=>F (g i) y) (List.range n) ys:=by
 intro n
 have key:∀ (js:List Nat) (ys:List β),Paired F (js.map g) ys->Paired (fun i y=>F (g i) y) js ys:=by
  intro js
  induction js with
  | nil=>intro ys h; cases h; exact .nil
  | cons j js ih =>
   intro ys h
   cases h with
   | cons a b=>exact .cons a (ih _ b)
 intro l ys h e
 subst e
 exact key _ _ h
theorem QK {n:Nat} (f:Nat->List V) (hz:n<sizeLine)
  (he:∀ i:Nat,i<n->∀ H,Ak H1 H->∀ R:VK,(∀ y H',Ak H H'->TupAt H' (f i) y->R y H')->te (some (.int (i:Int))::σ) H R)
  (hq:∀ D H ys,H1 D=none->Ak H1 H->H D=some (.lst ys)->Paired (fun i y=>TupAt H (f i) y) (List.range n) ys->Q (.ref D) H):Fl (VM 0 n) σ H1 Q Qe te:=by
 let g:V->Nat:=fun v=>match v with | .int i=>i.toNat | _=>0
 have hxs:∀ i:Nat,i<n->((List.range n).map fun (i:Nat)=>V.int (i:Int))[i]? = some (.int i):=fun i hi=>by simp [hi]
 refine Kd (xs:=(List.range n).map fun (i:Nat)=>V.int (i:Int)) (fun _=>true) (fun v=>f (g v)) (by simpa using hz) (fun i H x _ hx=>?_) (fun i H y H' _ hi hy=>?_) (fun H _=>?_) (fun x hx H hs R k=>k H (Ak.refl H)) (fun x hx _ H hs R k=>?_) (fun D H ys h1 h2 h3 h4=>?_)
 ·have:i<((List.range n).map fun (i:Nat)=>V.int (i:Int)).length:=(List.getElem?_eq_some_iff.mp hx).1
  show i<n
  simpa using this
 ·obtain ⟨e1,e2⟩:=hy
  have hi':i<n:=by simpa using hi
  refine ⟨e1,?_⟩
  rw [hxs i hi',e2,Int.zero_add]
 ·show n<=_
  simp
 ·obtain ⟨i,hi,rfl⟩:=List.mem_map.mp hx
  exact he i (List.mem_range.mp hi) H hs R k
 ·rw [List.filter_eq_self.mpr (fun _ _=>rfl)] at h4
  exact hq D H ys h1 h2 h3 (Lp (F:=fun x y=>TupAt H (f (g x)) y) (fun i=>V.int (i:Int)) h4 rfl)
theorem Ro {K:PySem.W.Frag} {a b:Addr} {xs ys:List V} (f:V->V->V) (hx:G_ K H1 a xs) (hy:G_ K H1 b ys) (hl:xs.length=ys.length) (hz:xs.length<sizeLine)
  (he:∀ (i:Nat) x y,xs[i]? = some x->ys[i]? = some y->∀ H,Ak H1 H->∀ R:VK,(∀ H',Ak H H'->R (f x y) H')->te (some x::some y::σ) H R)
  (hq:∀ D H,H1 D=none->Ak H1 H->H D=some (.lst (List.zipWith f xs ys))->Q (.ref D) H):Ia (jk K a b) σ H1 Q (Nk K 2 (Gm (Cq 0) (Gm (Cq 1) RB))) Qe te:=by
 intro D hD
 have s0:Ak H1 (upd H1 D (.lst [])):=fun b o e=>by rw [Al (Aj e hD)]; exact e
 refine ⟨fun i m zs H=>m=xs.length - i/\i<=xs.length/\zs=(List.zipWith f xs ys).take i/\H D=some (.lst zs)/\Ak H1 H,⟨xs.length,by simp,Nat.zero_le _,by simp,Af,s0⟩,?_⟩
 rintro i m zs H ⟨rfl,hi,rfl,hd,hs⟩
 have hzl:(List.zipWith f xs ys).length=xs.length:=by rw [List.length_zipWith]; omega
 by_cases hlt:i<xs.length
 ·have ex:xs[i]? = some xs[i]:=List.getElem?_eq_getElem hlt
  have ey:ys[i]? = some ys[i]:=List.getElem?_eq_getElem (hl ▸ hlt)
  refine .inr ⟨⟨xs,ys,_,_,hs.tup hx,hs.tup hy,ex,ey⟩,fun v H3 hv v0 v1=>?_⟩
  obtain ⟨T,hT,rfl,hv⟩:=hv
  obtain ⟨x,y,qx,qy,rfl⟩:=hv xs ys (hs.tup hx) (hs.tup hy)
  have s3:Ak H (upd H T (.tup [x,y])):=fun b o e=>by rw [Al (Aj e hT)]; exact e
  refine ⟨T,[x,y],rfl,.inl (.inl Af),rfl,x,[y],rfl,y,[],rfl,rfl,⟨_,_,rfl⟩,?_⟩
  unfold Qe
  dsimp only
  rw [if_pos rfl]
  refine he i x y qx qy _ (hs.trans s3) _ fun H5 s5=>?_
  refine ⟨s5 _ _ (s3 _ _ hd),?_,xs.length - (i+1),by omega,rfl,hlt,?_,Af,fun b o e=>?_⟩
  ·rw [List.length_take,hzl]
   omega
  ·rw [List.take_add_one,List.getElem?_zipWith,qx,qy]
   rfl
  ·rw [Al (Aj e hD)]
   exact s5 _ _ (s3 _ _ (hs _ _ e))
 ·have e:i=xs.length:=by omega
  subst e
  rw [← hzl,List.take_length] at hd
  exact .inl ⟨⟨xs,hs.tup hx,Nat.le_refl _⟩,hq D H hD hs hd⟩
theorem QC {K:PySem.W.Frag} {a:Addr} {xs:List V} (p:Nat->V->Bool) (f:Nat->V->V) (hx:Cg K H1 a xs) (hz:xs.length<sizeLine)
  (ht:∀ (i:Nat) x,xs[i]? = some x->∀ H,Ak H1 H->∀ R:Bool->Hp->Prop,(∀ H',Ak H H'->R (p i x) H')->tt (some (.int (i:Int))::some x::σ) H R)
  (he:∀ (i:Nat) x,xs[i]? = some x->p i x=true->∀ H,Ak H1 H->∀ R:VK,(∀ H',Ak H H'->R (f i x) H')->te (some (.int (i:Int))::some x::σ) H R)
  (hq:∀ D H,H1 D=none->Ak H1 H->H D=some (.lst ((xs.zipIdx.filter fun q=>p q.2 q.1).map fun q=>f q.2 q.1))->Q (.ref D) H):Ia (Yd K a) σ H1 Q (Nk K 2 (Gm (Cq 0) (Gm (Cq 1) RB))) tt te:=by
 intro D hD
 have s0:Ak H1 (upd H1 D (.lst [])):=fun b o e=>by rw [Al (Aj e hD)]; exact e
 refine ⟨fun i m zs H=>m=xs.length - i/\i<=xs.length/\zs=(((xs.zipIdx.take i).filter fun q=>p q.2 q.1).map fun q=>f q.2 q.1)/\H D=some (.lst zs)/\Ak H1 H,⟨xs.length,by simp,Nat.zero_le _,by simp,Af,s0⟩,?_⟩
 rintro i m zs H ⟨rfl,hi,rfl,hd,hs⟩
 by_cases hlt:i<xs.length
 ·have ex:xs[i]? = some xs[i]:=List.getElem?_eq_getElem hlt
  refine .inr ⟨⟨xs,_,hs.seq hx,ex⟩,fun v H3 hv v0 v1=>?_⟩
  obtain ⟨T,hT,rfl,hv⟩:=hv
  obtain ⟨x,qx,rfl⟩:=hv xs (hs.seq hx)
  have s3:Ak H (upd H T (.tup [.int (i:Int),x])):=fun b o e=>by rw [Al (Aj e hT)]; exact e
  have ez:xs.zipIdx[i]? = some (x,i):=by rw [List.getElem?_zipIdx,qx]; simp
  have hlen:(((xs.zipIdx.take i).filter fun q=>p q.2 q.1).map fun q=>f q.2 q.1).length<sizeLine:=by
   rw [List.length_map]
   refine Nat.lt_of_le_of_lt (List.length_filter_le _ _) (Nat.lt_of_le_of_lt ?_ hz)
   rw [List.length_take,List.length_zipIdx]; omega
  refine ⟨T,[.int (i:Int),x],rfl,.inl (.inl Af),rfl,_,[x],rfl,x,[],rfl,rfl,⟨_,_,rfl⟩,?_⟩
  refine ht i x qx _ (hs.trans s3) _ fun H4 s4=>?_
  by_cases hp:p i x=true
  ·rw [if_pos hp]
   refine he i x qx hp _ (hs.trans (s3.trans s4)) _ fun H5 s5=>?_
   refine ⟨s5 _ _ (s4 _ _ (s3 _ _ hd)),hlen,xs.length - (i+1),by omega,rfl,hlt,?_,Af,fun b o e=>?_⟩
   ·rw [take_succ_filter (fun q:V × Nat=>p q.2 q.1) xs.zipIdx i (x,i) ez,if_pos hp,List.map_append]
    rfl
   ·rw [Al (Aj e hD)]
    exact s5 _ _ (s4 _ _ (s3 _ _ (hs _ _ e)))
  ·rw [if_neg hp]
   refine ⟨xs.length - (i+1),by omega,rfl,hlt,?_,s4 _ _ (s3 _ _ hd),hs.trans (s3.trans s4)⟩
   rw [take_succ_filter (fun q:V × Nat=>p q.2 q.1) xs.zipIdx i (x,i) ez,if_neg hp,List.append_nil]
 ·have e:i=xs.length:=by omega
  subst e
  rw [List.take_of_length_le (by simp)] at hd
  exact .inl ⟨⟨xs,hs.seq hx,Nat.le_refl _⟩,hq D H hD hs hd⟩
end
theorem H_ {K:PySem.W.Frag} {a:Addr} {xs:List V} {g:TG} {tb:TS} {D:Ends} {σ:St} {H:Hp} (Pv:Nat->St->Hp->Prop) (h0:Pv 0 σ H) (hl:∀ i σ H,i<=xs.length->Pv i σ H->Cg K H a xs)
  (hb:∀ (i:Nat) x σ H T,xs[i]? = some x->Pv i σ H->H T=none->g (.ref T) σ (upd H T (.tup [.int (i:Int),x])) fun σ' H'=>tb { D with nx:=Pv (i+1),ct:=Pv (i+1),bk:=D.nx } σ' H')
  (hn:∀ σ H,Pv xs.length σ H->D.nx σ H):∃ W:Nat->Nat->St->Hp->Prop,(∃ m,W 0 m σ H)/\∀ i m σ H,W i m σ H ->
   ((Yd K a).stop i H/\D.nx σ H) \/ ((Yd K a).go i H/\∃ N:St->Hp->Prop,(∀ σ H,N σ H->∃ m',m'<m/\W (i+1) m' σ H)/\∀ x H',(Yd K a).yld i H x H'->g x σ H' fun σ' H''=>tb { D with nx:=N,ct:=N,bk:=D.nx } σ' H''):=by
 refine ⟨fun i m σ H=>m=xs.length - i/\i<=xs.length/\Pv i σ H,⟨_,rfl,Nat.zero_le _,h0⟩,?_⟩
 rintro i m σ H ⟨rfl,hi,hp⟩
 by_cases hlt:i<xs.length
 ·refine .inr ⟨⟨xs,_,hl i σ H hi hp,List.getElem?_eq_getElem hlt⟩,Pv (i+1),fun σ' H' h=>⟨xs.length - (i+1),by omega,rfl,hlt,h⟩,fun v H' hv=>?_⟩
  obtain ⟨T,hT,rfl,hv⟩:=hv
  obtain ⟨x,qx,rfl⟩:=hv xs (hl i σ H hi hp)
  exact hb i x σ H T qx hp hT
 ·have e:i=xs.length:=by omega
  subst e
  exact .inl ⟨⟨xs,hl _ σ H hi hp,Nat.le_refl _⟩,hn σ H hp⟩
end L2
namespace L2
open PySem PySem.Spec PySem.Calls PyProof.Rows
section
variable {prog:Program} {w:World} {A:Around} {E:Value->Shared->Prop} {s:Shared} {K:PySem.W.Frag} {x C:Addr} {ox:Obj} {od:Option Obj} {name:Str} {tk:Tok} {R:Result->Shared->Prop}
end
end L2
namespace L2
open PySem PySem.Spec PySem.Calls PyProof.Rows
section
variable {prog:Program} {w:World} {A:Around} {E:Value->Shared->Prop} {K:PySem.W.Frag} {C:Addr} {h:Heap} {g:Array GenState} {d:Drawn} {t:Nat} {os:OsState}
end
end L2
namespace L2
open PySem PySem.Spec PySem.Calls PyProof.Rows
noncomputable def aj (x C:Addr) (od:Option Addr):HO:=.ext fun h=>∃ (d:Data) (sl:Array (Option Value)),h.get? x=some ⟨.ref C,od,d,sl⟩/\PySem.W.notCls ⟨.ref C,od,d,sl⟩=true
noncomputable def lL (dx:Addr) (fs:List (Str × V)):HO:=.ext fun h=>∃ mA,h.Ns1 dx mA/\∀ f,GP (fs.lookup f) (mA f)
section
variable {P:Program} {w:World} {H H':Hp} {h:Heap} {x C dx:Addr} {od:Option Addr} {fs:List (Str × V)}
inductive WK (H:Hp) (x C:Addr):List (Str × V)->Prop where
 | bare (e:H x=some (aj x C none)):WK H x C []
 | full {dx:Addr} {fs:List (Str × V)} (e:H x=some (aj x C (some dx))) (d:H dx=some (lL dx fs)):WK H x C fs
end
section
variable {P:Program} {w:World} {X:Cx} {pins:List (Addr × Obj)} {σ:St} {H:Hp} {s:Shared} {h':Heap} {a:Addr} {o:HO}
end
section
variable {X:Cx} {C:Addr} {x:Str} {e:Expr} {es:List Expr} {t:TA} {p pos:Pos}
end
section
variable {X:Cx} {e:Expr} {f:Str} {pos:Pos} {ta:TE}
end
section
variable {prog:Program} {w:World} {A:Around} {E:Value->Shared->Prop} {s:Shared} {K:PySem.W.Frag} {x C:Addr} {name:Str} {v:Value} {R:Result->Shared->Prop} {d:Data} {sl:Array (Option Value)}
end
section
variable {X:Cx} {pins:List (Addr × Obj)} {σ:St} {H:Hp} {s:Shared} {h':Heap} {x C dx:Addr} {f:Str} {y:V} {u:Value}
end
section
variable {X:Cx} {o value:Expr} {f:Str} {pos pos':Pos} {ta tv:TE}
end
section
variable {X:Cx} {C f:Addr} {fd:FuncData} {ps:List Str} {sp:Sp} {k:Nat} {x:Str} {e:Expr} {es:List Expr} {t:TA} {p pos:Pos}
end
theorem MF {x:V} (h:F_ x=true):Qt x x=true:=by
 cases x with
 | non=>rfl
 | bl b=>simp [Qt]
 | int i=>simp [Qt]
 | str z=>simp [Qt]
 | _=>exact absurd (show false=true from h) Bool.false_ne_true
section
variable {X:Cx}
theorem Gx {xs:List V} {us:List Value} {j:Nat} (r:Vals xs us) (hj:j<us.length):RelV (xs.getD j .non) us[j]:=by
 have hl:=r.length
 have hx:xs[j]? = some xs[j]:=by simp [hl,hj]
 obtain ⟨u,hu,ru⟩:=r.get hx
 rw [List.getElem?_eq_getElem hj] at hu
 cases hu
 have e:xs.getD j .non=xs[j]:=by simp [hl,hj]
 rw [e]
 exact ru
end
end L2
namespace Wd
noncomputable def mk (l:List Nat):Nat:=l.foldl (fun s n=>s ||| 2 ^ n) 0
theorem Qn (l:List Nat):∀ (s i:Nat),(l.foldl (fun s n=>s ||| 2 ^ n) s).testBit i=(s.testBit i || decide (i∈l)):=by
 induction l with
 | nil=>intro s i; simp
 | cons n l ih =>
  intro s i
  rw [List.foldl_cons,ih,Nat.testBit_or,Nat.testBit_two_pow]
  by_cases h:n=i
  ·subst h; simp
  ·have h':¬ i=n:=fun e=>h e.symm
   simp [h,h']
theorem Lk (l:List Nat) (i:Nat):(mk l).testBit i=decide (i∈l):=by
 unfold mk; rw [Qn]; simp
noncomputable def len (n:Nat):Nat:=if n=0 then 0 else n.log2+1
theorem Sy {n i:Nat} (h:n.testBit i=true):i<len n:=by
 unfold len
 have h0:n ≠ 0:=by intro e; subst e; simp at h
 rw [if_neg h0]
 have h1:2 ^ i<=n:=Nat.ge_two_pow_of_testBit h
 have h2:i<=n.log2:=(Nat.le_log2 h0).mpr h1
 omega
noncomputable def mem (n:Nat):List Nat:=(List.range (len n)).filter n.testBit
theorem mem_iff {n i:Nat}:i∈mem n ↔ n.testBit i=true:=by
 unfold mem
 rw [List.mem_filter,List.mem_range]
 exact ⟨fun h=>h.2,fun h=>⟨Sy h,h⟩⟩
theorem OJ {n k:Nat} (h:n<2 ^ k):len n<=k:=by
 unfold len
 split
 ·omega
 ·rename_i h0
  have:n.log2<k:=(Nat.log2_lt h0).mpr h
  omega
noncomputable def mv (n:Nat) (k:Int) (c:Nat):Nat:=(if 0<k then n * 2 ^ k.toNat else n / 2 ^ (-k).toNat) % 2 ^ c
noncomputable def stay (l:List Nat) (k:Int) (c:Nat):List Nat:=l.filter fun n=>decide (0<=(n:Int)+k) && decide ((n:Int)+k<c)
theorem Ut (l:List Nat) (n:Nat):mk (l++[n])=mk l ||| 2 ^ n:=by
 unfold mk; rw [List.foldl_append]; rfl
end Wd
namespace L2
open PySem PySem.Spec PySem.Calls PyProof.Rows
section
variable {X:Cx} {es:List Expr} {k1:Nat} {tpos:Pos}
theorem Mt:jL X "int.bit_length" (fun x xs H Q=>∃ i,x=V.int i/\xs=[]/\Q (.int (Builtin.Int.intBits i)) H):=by
 intro pins s σ H x xs v us Q I rx r h
 obtain ⟨i,rfl,rfl,q⟩:=h
 obtain ⟨t,rfl⟩:=rx
 cases r
 exact PyProof.Rows.call_int_bit_length ⟨.int _,H,I.tok _,⟨_,rfl⟩,q⟩
end
theorem GJ (a b:Nat):Builtin.bitOr (a:Int) (b:Int)=((a ||| b:Nat):Int):=by
 have h1:¬ 0<=Builtin.bitNot (a:Int):=by unfold Builtin.bitNot; omega
 have h2:¬ 0<=Builtin.bitNot (b:Int):=by unfold Builtin.bitNot; omega
 have nn:∀ x:Int,Builtin.bitNot (Builtin.bitNot x)=x:=fun x=>by unfold Builtin.bitNot; omega
 unfold Builtin.bitOr
 rw [bitAnd_nn h1 h2,nn,nn,nn]
 simp
theorem Gw (a b:Nat):Builtin.bitAnd (a:Int) (b:Int)=((a &&& b:Nat):Int):=by
 rw [bitAnd_pp (Int.natCast_nonneg a) (Int.natCast_nonneg b)]
 simp
theorem Iz (n:Nat):Builtin.Int.intBits (n:Int)=Wd.len n:=by
 unfold Builtin.Int.intBits Wd.len
 by_cases h:n=0
 ·subst h; rfl
 ·have h':((n:Int) == 0)=false:=by simpa using h
  rw [h',if_neg h]
  simp
theorem Gy (k:Nat):(2:Int) ^ k=((2 ^ k:Nat):Int):=by simp
end L2
namespace Wd
open PySem
noncomputable abbrev km (xs:Array Nat):Prop:=xs.toList.Pairwise (· < ·)
structure Good (t:SetTable) (led:Bool):Prop where
 led:t.led=led
 ris:t.plain=true->km t.place
end Wd
namespace Wd
open PySem PySem.Spec PyProof.Rows
noncomputable def iD (prog:Program) (w:World) (h:Heap) (a:Addr) (led:Bool) (σ:List Int):Prop :=
 ∃ es ep t,h.get? a=some { cls:=.type "set",dict:=none,data:=.set es ep t }/\ElemsOf (intKind prog w) es.toList/\(∀ k,k∈σ ↔ ∃ e∈es.toList,(intKind prog w).is k e.2=true)/\es.size=σ.length/\σ.Nodup /\
  σ.length<scanBound/\t.fits es.size=true/\Good t led
section
variable {prog:Program} {w:World} {A:Around} {E:Value->Shared->Prop} {s:Shared} {a:Addr} {led:Bool} {σ:List Int} {k:Int} {tk:Tok}
end
end Wd
namespace Wd
open PySem PySem.Spec PyProof.Rows
section
variable {prog:Program} {w:World} {A:Around} {R:Result->Shared->Prop} {I:Addr} {fp wr:List Addr} {G:Array GenState->Array GenState->Prop} {n:Nat} {P:Nat->Value->Prop} {St:Nat->Shared->Prop} {led:Bool}
end
section
variable {prog:Program} {w:World} {A:Around} {E:Value->Shared->Prop} {s:Shared}
noncomputable abbrev di (w:World):Bool:=!w.params.followText "set-order"
end
end Wd
namespace Wd
open PySem PySem.Spec PyProof.Rows
end Wd
namespace Wd
open PySem PySem.Spec PyProof.Rows
section
variable {M:Model} {A:Around} {E:Value->Shared->Prop}
end
inductive Way (w:World) (a:Addr) (es:Array (Int × Value)) (ep:Nat) (t:SetTable) (h:Heap):(Nat->Value)->List Value->List Addr->Prop where
 | text (hb:w.params.followText "set-order" = true):Way w a es ep t h (fun _=>rawInt 0) ((pickOrder (w.params.setOrder a ep) es).toList.map (·.2)) []
 | drawn {tp:Addr} {ps:List Nat} (hb:w.params.followText "set-order" = false) (hp:ps.Perm (List.range es.size)) (ht:∃ n,h.get? tp=some { cls:=.type "tuple",data:=.seq (ps.map fun (i:Nat)=>rawInt i).toArray n }) :
   Way w a es ep t h (fun _=>.ref tp) (ps.map fun i=>(es.getD i (0,.none)).2) [tp]
 | plain (hb:w.params.followText "set-order" = false) (hd:(!t.plain && decide (es.size > 1))=false) (hl:t.led=true) (hr:km t.place) (hs:t.place.size=es.size) :
   Way w a es ep t h (fun i=>rawInt (if i=0 then 0 else t.place.getD (i - 1) 0+1:Nat)) (es.toList.map (·.2)) []
section
variable {prog:Program} {w:World} {A:Around} {E:Value->Shared->Prop} {s:Shared} {a it:Addr} {es:Array (Int × Value)} {ep:Nat} {t:SetTable} {first:Nat->Value} {vs:List Value} {more:List Addr}
end
end Wd
section PartSetJ
set_option maxHeartbeats 1000000
namespace Wd
open PySem PySem.Spec PyProof.Rows
section
variable {prog:Program} {w:World} {A:Around} {E:Value->Shared->Prop} {s:Shared} {a:Addr} {σ:List Int}
end
end Wd
end PartSetJ
section PartSetK
set_option maxHeartbeats 1000000
namespace Wd
open PySem PySem.Spec PyProof.Rows
section
variable {prog:Program} {w:World} {A:Around} {E:Value->Shared->Prop} {s:Shared} {a:Addr} {σ:List Int}
end
end Wd
end PartSetK
namespace L2
open PySem PySem.Spec PyProof.Rows
noncomputable def lQ (P:Program) (w:World) (a:Addr) (τ:List Int):HO:=.ext fun h=>Wd.iD P w h a (Wd.di w) τ
section
variable {X:Cx} {pins:List (Addr × Obj)} {σ:St} {H:Hp} {s:Shared} {h':Heap} {a:Addr} {o:HO}
theorem Uq:Gf X (binaryOp .LShift) (rI (fun i j=>0<=j/\(Builtin.Int.intBits i:Int)+j<=2 ^ 27) fun i j=>.int (i * 2 ^ j.toNat)):=Xy fun _ _ _ _ _ _ _ hc q=>lshift_int hc.1 hc.2 q
end
end L2
namespace L2
open PySem PySem.Spec PyProof.Rows
section
variable {X:Cx}
end
section
variable {prog:Program} {w:World} {A:Around} {E:Value->Shared->Prop} {s:Shared} {r l:Addr}
end
section
variable {X:Cx} {p1 p2 q1 q2:Pos} {e:Expr} {te:TE}
end
end L2
namespace L2
open PySem PySem.Spec PyProof.Rows
noncomputable def bQ (K:PySem.W.Frag) (a:Addr) (xs:List V):It :=
 ⟨fun i H=>Cg K H a xs/\i<xs.length,fun i H x H'=>H'=H/\xs[xs.length - 1 - i]? = some x,fun i H=>Cg K H a xs/\i=xs.length⟩
theorem S8 {P:Program} {w:World} {K:PySem.W.Frag} {tg:Expr} (a it:Addr) (xs:List V):Turn P w K tg (bQ K a xs) [it] it (fun i h=>h.IsRevIter it a ((xs.length:Int) - 1 - (i:Nat))) where
 mem:=by simp
 obj:=fun i h st b hb=>by
  have e:b=it:=by simpa using hb
  subst e
  obtain ⟨o,e,c,d⟩:=st
  exact ⟨o,e,fun v z=>by rw [d] at z; cases z⟩
 keep:=fun i h h' st k=>st.at fun o e=>k it (by simp) o e
 item:=by
  intro X hP hw hK hc i pins s σ H E I hf st hg
  subst hP hw hK
  obtain ⟨hq,hlt⟩:=hg
  obtain ⟨its,rv,p,hz⟩:=I.list hq
  have hx:xs[xs.length - 1 - i]? = some (xs[xs.length - 1 - i]'(by omega)):=List.getElem?_eq_getElem (by omega)
  obtain ⟨u,hu,ru⟩:=rv.get hx
  obtain ⟨f0,f1,f2,f3,f4,f5⟩:=hf it (by simp)
  have e:(xs.length:Int) - 1 - ((i:Nat):Int)=((xs.length - 1 - i:Nat):Int):=by omega
  rw [e] at st
  refine wpAny_pyNext_rev_item st p.isList (x:=u) (by simpa using hu) fun h' st' sb=>?_
  have I1:Inv X pins σ H { s with heap:=h' }:=I.turned (t':=s.toks) (fun b o hb e=>(sb.2 b hb).trans e) f0 f1 f3 f4 f5
  have e2:((xs.length - 1 - i:Nat):Int) - 1=(xs.length:Int) - 1 - ((i+1:Nat):Int):=by omega
  rw [e2] at st'
  obtain ⟨o,eo,c,d⟩:=id st'
  exact ⟨u,rfl,NQ (s:={ s with heap:=h' }) eo c d (by decide) ⟨_,H,I1,ru,⟨rfl,hx⟩,st',fun b hb=>(hf b hb).1⟩⟩
 done:=by
  intro X hP hw hK hc i pins s σ H E I hf st hg
  subst hP hw hK
  obtain ⟨hq,rfl⟩:=hg
  obtain ⟨f0,f1,f2,f3,f4,f5⟩:=hf it (by simp)
  have e:(xs.length:Int) - 1 - ((xs.length:Nat):Int) = -1:=by omega
  rw [e] at st
  exact wpAny_pyNext_rev_end (I.ok.hd hc) st fun h' eb=>⟨rfl,I.turned (t':=s.toks) (fun b o hb e=>eb b o hb e) f0 f1 f3 f4 f5⟩
 self:=fun _ _ _ _ _ st h=>wpAny_pyIter_revIter st h
section
variable {X:Cx} {tg:Expr}
noncomputable def jc (K:PySem.W.Frag) (ta:TA):TI:=fun σ H R=>ta σ H fun vs H1=>∃ a xs,vs=[.ref a]/\Cg K H1 a xs/\R (bQ K a xs) H1
theorem Xc {l:Expr} {ta:TA} {p pos:Pos} (hg:Gl X "reversed") (hm:X.mg "reversed" = none) (ha:PA X [l] ta) (hs:starEach [l] X.env=[(false,eval l X.env)]:=by rfl):PI X tg (.Call (.Name "reversed" p) [l] [] pos) (jc X.K ta):=by
 intro pins s σ H R I h
 refine Call_ (HS I hg hm PyProof.Rows.boot_reversed (PyProof.Rows.callWith_type1 (Bv (ha pos pins s σ H _ I h) fun us s1 ⟨vs,H1,I1,r1,q1⟩=>?_) hs rfl))
 obtain ⟨a,xs,e,hq,q⟩:=q1
 subst e
 obtain ⟨u,rfl,ru⟩:=vals1 r1
 cases ru
 obtain ⟨its,rv,pl,hz⟩:=I1.list hq
 refine call_reversed_list pl.isList ?_
 have hit:(s1.heap.push (revObj a ((its.toArray.size:Int) - 1))).IsRevIter s1.heap.objs.size a ((its.toArray.size:Int) - 1):=⟨_,Heap.get?_push_size _ rfl,rfl,rfl⟩
 refine wpAny_pyIter_revIter (s:={ s1 with heap:=s1.heap.push (revObj a ((its.toArray.size:Int) - 1)) }) hit ?_
 refine ⟨s1.heap.objs.size,[s1.heap.objs.size],_,_,H1,rfl,I1.kept (t':=s1.toks) fun b o e=>Heap.get?_push_of_some _ e,S8 a _ xs,?_,fun b hb=>?_,q⟩
 ·have hl:=rv.length
  have e2:((its.toArray.size:Nat):Int) - 1=(xs.length:Int) - 1 - ((0:Nat):Int):=by
   rw [List.size_toArray]
   omega
  show (s1.heap.push (revObj a ((its.toArray.size:Int) - 1))).IsRevIter s1.heap.objs.size a ((xs.length:Int) - 1 - ((0:Nat):Int))
  rw [← e2]
  exact hit
 ·have e:b=s1.heap.objs.size:=by simpa using hb
  subst e
  exact I1.Jq (Nat.le_refl _) (I1.hok.fresh (Nat.le_refl _))
theorem Vh {K:PySem.W.Frag} {a:Addr} {xs:List V} {g:TG} {tb:TS} {D:Ends} {σ:St} {H:Hp} (Pv:Nat->St->Hp->Prop) (h0:Pv 0 σ H) (hl:∀ i σ H,i<=xs.length->Pv i σ H->Cg K H a xs)
  (hs:∀ i x σ H,i<xs.length->xs[xs.length - 1 - i]? = some x->Pv i σ H->g x σ H fun σ2 H2=>tb { D with nx:=Pv (i+1),ct:=Pv (i+1),bk:=D.nx } σ2 H2) (hd:∀ σ H,Pv xs.length σ H->D.nx σ H) :
  ∃ W:Nat->Nat->St->Hp->Prop,(∃ m,W 0 m σ H)/\∀ i m σ H,W i m σ H ->
   ((bQ K a xs).stop i H/\D.nx σ H) \/ ((bQ K a xs).go i H/\∃ N:St->Hp->Prop,(∀ σ' H',N σ' H'->∃ m',m'<m/\W (i+1) m' σ' H')/\∀ x H',(bQ K a xs).yld i H x H'->g x σ H' fun σ2 H2=>tb { D with nx:=N,ct:=N,bk:=D.nx } σ2 H2):=by
 refine ⟨fun i m σ H=>m=xs.length - i/\i<=xs.length/\Pv i σ H,⟨xs.length,by simp,Nat.zero_le _,h0⟩,?_⟩
 rintro i m σ H ⟨rfl,hi,p⟩
 have q:=hl i σ H hi p
 by_cases hlt:i<xs.length
 ·refine .inr ⟨⟨q,hlt⟩,Pv (i+1),fun σ' H' p'=>⟨xs.length - (i+1),by omega,rfl,by omega,p'⟩,?_⟩
  rintro x H' ⟨rfl,hx⟩
  exact hs i x σ H' hlt hx p
 ·have e:i=xs.length:=by omega
  subst e
  exact .inl ⟨⟨q,rfl⟩,hd σ H p⟩
end
end L2
namespace L2
open PySem PySem.Spec PySem.Calls PyProof.Rows
section
variable {X:Cx}
theorem range_any (bs:List Bool):((List.range bs.length).any fun i=>(bs[i]?).getD false)=bs.any id:=by
 rw [Bool.eq_iff_iff,List.any_eq_true,List.any_eq_true]
 constructor
 ·rintro ⟨i,hi,e⟩
  have hi':=List.mem_range.mp hi
  rw [List.getElem?_eq_getElem hi'] at e
  exact ⟨_,List.getElem_mem hi',e⟩
 ·rintro ⟨b,hb,e⟩
  obtain ⟨i,hi,q⟩:=List.mem_iff_getElem.mp hb
  refine ⟨i,List.mem_range.mpr hi,?_⟩
  rw [List.getElem?_eq_getElem hi,q]
  exact e
theorem J9 (hc:X.calm=true):Gd X (.builtin "any") (fun xs H Q=>∃ (p:Addr) (bs:List Bool),xs=[V.ref p]/\Cg X.K H p (bs.map V.bl)/\Q (.bl (bs.any id)) H):=by
 intro pins s σ H xs us Q I r h
 obtain ⟨p,bs,rfl,hp,q⟩:=h
 obtain ⟨u,rfl,ru⟩:=vals1 r
 cases ru
 obtain ⟨its,rv,pl,hz⟩:=I.list hp
 have hlen:bs.length=its.length:=by have:=rv.length; rw [List.length_map] at this; exact this
 have hlt:p<s.heap.objs.size:=by obtain ⟨_,e,_⟩:=pl.isList; exact Heap.lt_size e
 refine call_any_walk (wpAny_pyIter_list pl.isList ?_)
 refine ⟨s.heap.objs.size,[s.heap.objs.size,p],[s.heap.objs.size],its.toArray.size,_,_,fun i=>(bs[i]?).getD false,rfl,Walks.list (A:=X.A.in1) (I.ok.hd hc) _ p (Nat.ne_of_lt hlt) its.toArray,
  ⟨⟨_,Heap.get?_push_size _ rfl,rfl,rfl⟩,pl.isList.push _⟩,fun i v s' Q' E' hP hQ=>?_,fun h' tk hk=>?_⟩
 ·have hP':its[i]? = some v:=by simpa using hP
  have hi:i<its.length:=(List.getElem?_eq_some_iff.mp hP').1
  have hb:bs[i]? = some bs[i]:=by simp [hlen,hi]
  obtain ⟨u,hu,ru⟩:=rv.get (i:=i) (x:=.bl bs[i]) (by rw [List.getElem?_map,hb]; rfl)
  rw [hP'] at hu
  cases hu
  cases ru
  dsimp only at hQ
  rw [hb] at hQ
  exact wpAny_truthy_bool hQ
 ·have e:((List.range its.toArray.size).any fun i=>(bs[i]?).getD false)=bs.any id:=by rw [List.size_toArray,← hlen]; exact range_any bs
  rw [e]
  refine ⟨.bl (bs.any id),H,I.kept (t':=tk) fun b o eb=>hk b o (fun hm=>?_) (Heap.get?_push_of_some _ eb),rfl,q⟩
  rw [List.mem_singleton.mp hm] at eb
  exact Nat.lt_irrefl _ (Heap.lt_size eb)
theorem G3 (ns:List Int):∀ j,j<=ns.length->preSum (fun i=>(ns[i]?).getD 0) j=(ns.take j).sum
 | 0,_=>rfl
 | j+1,h=>by
  have ih:=G3 ns j (by omega)
  show preSum _ j+(ns[j]?).getD 0=_
  rw [ih,List.take_add_one,List.getElem?_eq_getElem (by omega),List.sum_append]
  simp
theorem Rk (M:Int):∀ ns:List Int,(∀ n∈ns,0<=n/\n<=M)->0<=ns.sum/\ns.sum<=ns.length * M
 | [],_=>by simp
 | n::r,h=>by
  have h1:=h n (List.mem_cons_self ..)
  have h2:=Rk M r fun x hx=>h x (List.mem_cons_of_mem _ hx)
  have e:((n::r).length:Int) * M=r.length * M+M:=by rw [List.length_cons]; push_cast; rw [Int.add_mul,Int.one_mul]
  rw [e,List.sum_cons]
  omega
theorem Rg (hc:X.calm=true):Gd X (.builtin "sum") (fun xs H Q=>∃ (p:Addr) (ns:List Int),xs=[V.ref p]/\Cg X.K H p (ns.map V.int)/\(∀ n∈ns,0<=n/\n<=100000)/\ns.length<=1000/\Q (.int ns.sum) H):=by
 intro pins s σ H xs us Q I r h
 obtain ⟨p,ns,rfl,hp,hb,hl,q⟩:=h
 obtain ⟨u,rfl,ru⟩:=vals1 r
 cases ru
 obtain ⟨its,rv,pl,hz⟩:=I.list hp
 have hlen:ns.length=its.length:=by have:=rv.length; rw [List.length_map] at this; exact this
 have hlt:p<s.heap.objs.size:=by obtain ⟨_,e,_⟩:=pl.isList; exact Heap.lt_size e
 refine call_sum_walk (wpAny_pyIter_list pl.isList ?_)
 refine ⟨s.heap.objs.size,[s.heap.objs.size,p],[s.heap.objs.size],its.toArray.size,_,_,fun i=>(ns[i]?).getD 0,rfl,Walks.list (A:=X.A.in1) (I.ok.hd hc) _ p (Nat.ne_of_lt hlt) its.toArray,
  ⟨⟨_,Heap.get?_push_size _ rfl,rfl,rfl⟩,pl.isList.push _⟩,fun b hb=>?_,fun i v hP=>?_,fun j hj=>?_,fun h' tk t' hk=>?_⟩
 ·rw [Heap.size_push]
  rcases List.mem_cons.mp hb with rfl | hb
  ·exact Nat.lt_succ_self _
  ·rw [List.mem_singleton.mp hb]
   exact Nat.lt_succ_of_lt hlt
 ·have hP':its[i]? = some v:=by simpa using hP
  have hi:i<its.length:=(List.getElem?_eq_some_iff.mp hP').1
  have hb:ns[i]? = some ns[i]:=by simp [hlen,hi]
  obtain ⟨u,hu,ru⟩:=rv.get (i:=i) (x:=.int ns[i]) (by rw [List.getElem?_map,hb]; rfl)
  rw [hP'] at hu
  cases hu
  obtain ⟨t,rfl⟩:=ru
  exact ⟨t,by dsimp only; rw [hb]; rfl⟩
 ·have hj':j<ns.length:=by rw [hlen]; simpa using hj
  rw [G3 ns (j+1) (by omega)]
  have h1:=hb ns[j] (List.getElem_mem hj')
  have h2:=Rk 100000 (ns.take (j+1)) fun n hn=>hb n (List.mem_of_mem_take hn)
  have h3:(ns.take (j+1)).length<=1000:=by rw [List.length_take]; omega
  unfold InLong
  dsimp only
  rw [List.getElem?_eq_getElem hj']
  rw [Option.getD_some]
  refine ⟨⟨?_,?_⟩,⟨?_,?_⟩⟩ <;> omega
 ·have e:preSum (fun i=>(ns[i]?).getD 0) its.toArray.size=ns.sum:=by rw [List.size_toArray,← hlen,G3 ns _ (Nat.le_refl _),List.take_length]
  rw [e]
  refine ⟨.int ns.sum,H,I.kept (t':=tk) fun b o eb=>hk b o (fun hm=>?_) (Heap.get?_push_of_some _ eb),⟨_,rfl⟩,q⟩
  rw [List.mem_singleton.mp hm] at eb
  exact Nat.lt_irrefl _ (Heap.lt_size eb)
structure KDict (K:PySem.W.Frag) (P:Params) (a:Addr):Prop where
 is:∃ es n,K.lookup a=some ⟨.type "dict",none,.dict es n,#[]⟩/\PySem.W.KeysLit P es.toList
 lo:(a == sysModules)=false
noncomputable def Ze (K:PySem.W.Frag) (P:Params) (td ty:TE):TE:=fun σ H Q=>td σ H fun x H1=>ty σ H1 fun y H2=>∃ a z v u,x=.ref a/\y=.str z/\KDict K P a/\PySem.W.nsIn K a z=some (some u)/\RelV v u/\Q v H2
noncomputable def bc (K:PySem.W.Frag) (P:Params) (neg:Bool) (ty td:TE):TE:=fun σ H Q=>ty σ H fun y H1=>td σ H1 fun x H2=>∃ a z r,x=.ref a/\y=.str z/\KDict K P a/\PySem.W.nsIn K a z=some r/\Q (.bl (if neg then !r.isSome else r.isSome)) H2
variable {o i:Expr} {pos:Pos} {td ty:TE}
theorem LC (ho:PE X o td) (hi:PE X i ty) (hs:Xd i):PE X (.Subscript o i pos) (Ze X.K X.w.params td ty):=by
 intro pins s σ H Q I h
 refine Pj PySem.F.slot_dict_getitem.lookup hs (Bv (ho pins s σ H _ I h) fun u s1 ⟨x,H1,I1,rx,q1⟩=>Bv (hi pins s1 σ H1 _ I1 q1) fun iv s2 hq0=>?_)
 obtain ⟨y,H2,I2,ry,a,z,v,w,ex,ey,kd,hw,rw',q2⟩:=hq0
 subst ex ey
 cases rx
 obtain ⟨t,rfl⟩:=ry
 obtain ⟨⟨es,n,hl,hk⟩,lo⟩:=kd
 have hm:=PySem.W.mapOf_K (prog:=X.prog) I2.Ip hl hk
 exact ⟨hm.typeIs,wpAny_getItem_of (strKind_is X.prog X.w z t) hm (PySem.W.find_K hl hw) ⟨v,H2,I2.tok _,rw',q2⟩⟩
theorem Ua (hi:PE X i ty) (ho:PE X o td):PC X .In i o (bc X.K X.w.params false ty td):=by
 intro pins s σ H Q I h
 refine Bv (hi pins s σ H _ I h) fun iv s1 ⟨y,H1,I1,ry,q1⟩=>Bv (ho pins s1 σ H1 _ I1 q1) fun u s2 hq0=>?_
 obtain ⟨x,H2,I2,rx,a,z,r,ex,ey,kd,hw,q2⟩:=hq0
 subst ex ey
 cases rx
 obtain ⟨t,rfl⟩:=ry
 obtain ⟨⟨es,n,hl,hk⟩,lo⟩:=kd
 refine wpAny_in_of (strKind_is X.prog X.w z t) lo (PySem.W.mapOf_K (prog:=X.prog) I2.Ip hl hk) ?_
 rw [PySem.W.find_K hl hw]
 exact ⟨.bl r.isSome,H2,I2.tok _,rfl,q2⟩
theorem Q3 (hi:PE X i ty) (ho:PE X o td):PC X .NotIn i o (bc X.K X.w.params true ty td):=by
 intro pins s σ H Q I h
 refine Bv (hi pins s σ H _ I h) fun iv s1 ⟨y,H1,I1,ry,q1⟩=>Bv (ho pins s1 σ H1 _ I1 q1) fun u s2 hq0=>?_
 obtain ⟨x,H2,I2,rx,a,z,r,ex,ey,kd,hw,q2⟩:=hq0
 subst ex ey
 cases rx
 obtain ⟨t,rfl⟩:=ry
 obtain ⟨⟨es,n,hl,hk⟩,lo⟩:=kd
 refine wpAny_notIn_of (strKind_is X.prog X.w z t) lo (PySem.W.mapOf_K (prog:=X.prog) I2.Ip hl hk) ?_
 rw [PySem.W.find_K hl hw]
 exact ⟨.bl (!r.isSome),H2,I2.tok _,rfl,q2⟩
end
section
variable {X:Cx} {e st:Expr} {lo hi:Option Expr} {te ts:TE} {tl th:TO} {p2 pos:Pos}
end
end L2
namespace Og
open PySem L2
theorem BJ {X:Cx} {K:PySem.W.Frag} (h:X.K=K):YL X (du K):=h ▸ Ej
theorem Ey {X:Cx} {K:PySem.W.Frag} (h:X.K=K):YL X (XH K):=h ▸ Bb
theorem Jo {X:Cx} {K:PySem.W.Frag} (h:X.K=K):Gf X (compareOp .In) (gP K false):=h ▸ Ky
theorem UG {X:Cx} {e:Expr}:PE X e (fun _ _ _=>False):=fun _ _ _ _ _ _ h=>h.elim
structure R where
 w:Str
 nm:Str
 rest:List V
noncomputable abbrev R.v (r:R):List V:=.str r.w :: .str r.nm::r.rest
noncomputable def isNm (z:Str):Prop:=1<=z.length/\z.length<=8/\∀ c∈z.cps.toList,97<=c/\c<=122
noncomputable def Rows (H:Hp) (ρ:V->R) (vs:List V):Prop:=∀ v∈vs,TupAt H (ρ v).v v
theorem Rows.mono {H H':Hp} {ρ:V->R} {vs:List V} (s:Ak H H') (h:Rows H ρ vs):Rows H' ρ vs:=fun v hv=>(h v hv).mono s
theorem Rows.sub {H:Hp} {ρ:V->R} {vs us:List V} (h:Rows H ρ vs) (hs:∀ v∈us,v∈vs):Rows H ρ us:=fun v hv=>h v (hs v hv)
noncomputable abbrev pw (ρ:V->R) (w:Str) (v:V):Bool:=decide (V.str (ρ v).w=V.str w)
noncomputable abbrev pn (ρ:V->R) (t:Str) (v:V):Bool:=decide (V.str (ρ v).nm=V.str t)
noncomputable def V8 (ρ:V->R) (vs:List V) (w t:Str):Bool:=(vs.filter (pw ρ w)).any (pn ρ t)
noncomputable def KTup (K:PySem.W.Frag) (a:Addr) (xs:List V):Prop:=∃ (o:Obj) (its:Array Value) (n:Nat),K.lookup a=some o/\o.cls=.type "tuple" /\ o.data=.seq its n/\its.size<=sizeLine/\Vals xs its.toList
theorem KTup.sq {K:PySem.W.Frag} {a:Addr} {xs:List V} (h:KTup K a xs) (H:Hp):G_ K H a xs:=.inr h
noncomputable abbrev named:List Str:=["board","rank","stop","coupler","mute"]
noncomputable def HN (K:PySem.W.Frag) (aB:Addr) (ρ:V->R) (vs:List V) (x:V) (part:Str):Prop :=
 (∃ (i lo hi:Int) (b:Addr),x=.int i/\PySem.W.nsIn K aB part=some (some (.ref b))/\KTup K b [.int lo,.int hi]/\lo<=i/\i<=hi) \/
 (PySem.W.nsIn K aB part=some none/\part = "new" /\ ∃ t,x=.str t/\isNm t/\∀ w∈named,V8 ρ vs w t=false) \/
 (PySem.W.nsIn K aB part=some none/\¬ part = "new" /\ ∃ t,x=.str t/\isNm t/\V8 ρ vs part t=true)
structure Kp (K:PySem.W.Frag) (aB aP aM:Addr) (ρ:V->R) (vs:List V) (r:R):Prop where
 ns:¬ r.w = "step"
 nl:¬ r.w = "line"
 parts:∃ (ap:Addr) (ps:List Str),PySem.W.nsIn K aP r.w=some (some (.ref ap))/\KTup K ap (ps.map V.str)/\(V.str r.nm::r.rest).length=ps.length/\ps.length<=10 /\
  ∀ (i:Nat) x y,(V.str r.nm::r.rest)[i]? = some x->ps[i]? = some y->HN K aB ρ vs x y
 room:∃ (m:Int) (t:Tok),PySem.W.nsIn K aM r.w=some (some (.int m t))/\(((vs.filter (pw ρ r.w)).length:Nat):Int)<m
noncomputable def letters:Str:="abcdefghijklmnopqrstuvwxyz"
noncomputable abbrev bf (y:Str) (c:Nat):Bool:=!(Builtin.Str.occurrences y ⟨#[c]⟩ 0 y.length 1).isEmpty
theorem Ux:∀ c<128,bf letters c=decide (97<=c/\c<=122):=by decide +kernel
theorem An {H:Hp} {p:Addr} {o:HO} (h:H p=none):Ak H (upd H p o):=fun b u e=>by rw [Al (Aj e h)]; exact e
theorem Hn {n:Nat} (h:n<=1000):n<=sizeLine:=Nat.le_of_lt (Aq h)
theorem ty_int {K:PySem.W.Frag}:PySem.W.kitOne K (.type "int") (.type "int")=some true:=by kernel_rfl
theorem Vw {K:PySem.W.Frag}:PySem.W.kitOne K (.type "int") (.type "bool")=some false:=by kernel_rfl
theorem WF {K:PySem.W.Frag}:PySem.W.kitOne K (.type "list") (.type "list")=some true:=by kernel_rfl
theorem az {K:PySem.W.Frag}:PySem.W.kitOne K (.type "tuple") (.type "tuple")=some true:=by kernel_rfl
theorem WT {K:PySem.W.Frag}:PySem.W.kitOne K (.type "str") (.type "str")=some true:=by kernel_rfl
theorem Hu (vs:List V) (n:Nat) (h:n<=vs.length):Ef vs none (some (n:Int))=vs.take n:=by
 unfold Ef
 have e1:HT.Dt vs.length 0 none=0:=rfl
 have e2:HT.Dt vs.length vs.length (some (n:Int))=n:=by
  rw [HT.Jc]
  omega
 rw [e1,e2]
 simp
theorem HB {α:Type} (p:α->Bool) (l:List α):(l.filter p).length<=l.length:=List.length_filter_le _ _
noncomputable abbrev bV (b:Str × Nat):List V:=[.str b.1,.int (b.2:Nat)]
noncomputable abbrev FT (b:Str × Nat):R:=⟨"board",b.1,[.int (b.2:Nat)]⟩
noncomputable abbrev qV (q:Nat × Nat):List V:=[.int (q.1:Nat),.int (q.2:Nat)]
noncomputable def E_ (bs:List (Str × Nat)):List (Nat × Nat):=bs.zipIdx.flatMap fun p=>(List.range p.1.2).map fun e=>(p.2,e)
theorem R8 (bs:List (Str × Nat)) (b:Str × Nat):E_ (bs++[b])=E_ bs++(List.range b.2).map fun e=>(bs.length,e):=by
 unfold E_
 rw [List.zipIdx_append]
 simp
theorem Il {bs:List (Str × Nat)} {i:Nat} {b:Str × Nat} (h:bs[i]? = some b):E_ (bs.take (i+1))=E_ (bs.take i)++(List.range b.2).map fun e=>(i,e):=by
 have hi:i<bs.length:=(List.getElem?_eq_some_iff.mp h).1
 rw [List.take_add_one,h]
 show E_ (bs.take i++[b])=_
 rw [R8,List.length_take,Nat.min_eq_left (by omega)]
theorem Lg (bs:List (Str × Nat)) (M:Nat):(∀ b∈bs,b.2<=M)->(E_ bs).length<=bs.length * M:=by
 intro h
 have key:∀ i,i<=bs.length->(E_ (bs.take i)).length<=i * M:=by
  intro i
  induction i with
  | zero=>intro _; simp [E_]
  | succ i ih =>
   intro hi
   have hlt:i<bs.length:=by omega
   rw [Il (List.getElem?_eq_getElem hlt),List.length_append,List.length_map,List.length_range]
   have h1:=ih (by omega)
   have h2:=h bs[i] (List.getElem_mem hlt)
   have:(i+1) * M=i * M+M:=by rw [Nat.add_mul,Nat.one_mul]
   omega
 have:=key bs.length (Nat.le_refl _)
 rw [List.take_length] at this
 exact this
theorem Ci {α β:Type} {F:α->β->Prop} {l:List α} {vs:List β} (h:Paired F l vs):∀ {v},v∈vs->∃ a∈l,F a v:=by
 induction h with
 | nil=>intro v hv; cases hv
 | cons a b ih =>
  intro v hv
  rcases List.mem_cons.mp hv with rfl | hv
  ·exact ⟨_,List.mem_cons_self ..,a⟩
  ·obtain ⟨x,hx,q⟩:=ih hv
   exact ⟨x,List.mem_cons_of_mem _ hx,q⟩
theorem Do {α β:Type} {F:α->β->Prop} {l:List α} {vs:List β} (h:Paired F l vs):∀ {i:Nat} {a},l[i]? = some a->∃ v,vs[i]? = some v/\F a v:=by
 induction h with
 | nil=>intro i a ha; simp at ha
 | cons x y ih =>
  intro i a ha
  cases i with
  | zero =>
   simp at ha
   subst ha
   exact ⟨_,rfl,x⟩
  | succ i=>exact ih (by simpa using ha)
theorem Ff {α β:Type} {F:α->β->Prop} {l:List α} {vs:List β} (h:Paired F l vs):∀ {i:Nat} {v},vs[i]? = some v->∃ a,l[i]? = some a/\F a v:=by
 induction h with
 | nil=>intro i a ha; simp at ha
 | cons x y ih =>
  intro i a ha
  cases i with
  | zero =>
   simp at ha
   subst ha
   exact ⟨_,rfl,x⟩
  | succ i=>exact ih (by simpa using ha)
theorem Gj {α β:Type} {F:α->β->Prop} {l:List α} {vs:List β} (h:Paired F l vs):∀ n:Nat,Paired F (l.take n) (vs.take n):=by
 induction h with
 | nil=>intro n; simp; exact .nil
 | cons x y ih =>
  intro n
  cases n with
  | zero=>exact .nil
  | succ n=>exact .cons x (ih n)
theorem CJ {α β:Type} {F:α->β->Prop} {l l':List α} {vs vs':List β} (h:Paired F l vs) (h':Paired F l' vs'):Paired F (l++l') (vs++vs'):=by
 induction h with
 | nil=>exact h'
 | cons x y ih=>exact .cons x ih
theorem CT {α β γ:Type} {F:γ->β->Prop} (g:α->γ) {l:List α} {vs:List β} (h:Paired (fun a v=>F (g a) v) l vs):Paired F (l.map g) vs:=by
 induction h with
 | nil=>exact .nil
 | cons x y ih=>exact .cons x ih
theorem Fp {α β γ:Type} {F:γ->β->Prop} (g:α->γ):∀ {l:List α} {vs:List β},Paired F (l.map g) vs->Paired (fun a v=>F (g a) v) l vs
 | [],_,h=>by cases h; exact .nil
 | a::l,_,h=>by
  cases h with
  | cons x y=>exact .cons x (Fp g y)
noncomputable def QW (H:Hp) (k:Nat):V->V
 | .ref T=>match H T with
  | some (.tup xs)=>xs.getD k .non
  | _=>.non
 | _=>.non
theorem IW {H:Hp} {zs:List V} {v:V} (h:TupAt H zs v) (k:Nat):QW H k v=zs.getD k .non:=by
 obtain ⟨T,rfl,e⟩:=h
 show (match H T with | some (.tup xs)=>xs.getD k V.non | _=>V.non)=_
 rw [e]
theorem Jf {α:Type} {H:Hp} {g:α->List V} (k:Nat) {l:List α} {vs:List V} (h:Paired (fun a v=>TupAt H (g a) v) l vs):vs.map (QW H k)=l.map fun a=>(g a).getD k .non:=by
 induction h with
 | nil=>rfl
 | cons x y ih=>rw [List.map_cons,List.map_cons,ih,IW x]
noncomputable def SX (x:Addr) (H H':Hp):Prop:=∀ b o,H b=some o->b ≠ x->H' b=some o
theorem SX.trans {x:Addr} {H H1 H2:Hp} (a:SX x H H1) (b:SX x H1 H2):SX x H H2:=fun c o h n=>b c o (a c o h n) n
theorem SX.of {x:Addr} {H H':Hp} (s:Ak H H'):SX x H H':=fun b o h _=>s b o h
theorem SX.up {x:Addr} {H:Hp} {o:HO}:SX x H (upd H x o):=fun b u h n=>by rw [Al n]; exact h
theorem SX.tup {x:Addr} {H H':Hp} {zs:List V} {y:V} {C dx:Addr} {fs:List (Str × V)} (s:SX x H H') (hx:H x=some (.ins C dx fs)) (h:TupAt H zs y):TupAt H' zs y:=by
 obtain ⟨T,e,q⟩:=h
 exact ⟨T,e,s _ _ q fun z=>by rw [z,hx] at q; cases q⟩
theorem SX.pair {α:Type} {x:Addr} {H H':Hp} {f:α->List V} {l:List α} {vs:List V} {C dx:Addr} {fs:List (Str × V)} (s:SX x H H') (hx:H x=some (.ins C dx fs)) (h:Paired (fun a y=>TupAt H (f a) y) l vs):Paired (fun a y=>TupAt H' (f a) y) l vs:=Paired.Eo h fun _ _ q=>s.tup hx q
theorem SX.lst {x a:Addr} {H H':Hp} {xs:List V} {C dx:Addr} {fs:List (Str × V)} (s:SX x H H') (hx:H x=some (.ins C dx fs)) (h:H a=some (.lst xs)):H' a=some (.lst xs):=s _ _ h fun z=>by rw [z,hx] at h; cases h
theorem SX.dk {x a:Addr} {H H':Hp} {kvs:List (Key × V)} {C dx:Addr} {fs:List (Str × V)} (s:SX x H H') (hx:H x=some (.ins C dx fs)) (h:H a=some (.dK kvs)):H' a=some (.dK kvs):=s _ _ h fun z=>by rw [z,hx] at h; cases h
noncomputable abbrev meths:List Str:=["ranks","pipe_count","pipe","rank_of","board_of_knob","boards","key_count","key","board_of","coupler","knobs","knob_number","board_number","stop","mute","steps","rows"]
structure DY (C:Addr) (H:Hp) (x:Addr) (bs:List (Str × Nat)) (ks:List R):Prop where
 ob:∃ (dx:Addr) (fs:List (Str × V)) (bl bn kp kr:Addr) (bvs pvs uvs:List V) (kvs:List (Key × V)),H x=some (.ins C dx fs)/\fs.lookup ("board_list" : Str)=some (.ref bl)/\fs.lookup ("board_numbers" : Str)=some (.ref bn)/\fs.lookup ("key_places" : Str)=some (.ref kp)/\fs.lookup ("knob_rows" : Str)=some (.ref kr) /\
  (∀ m∈meths,fs.lookup m=none)/\H bl=some (.lst bvs)/\Paired (fun b y=>TupAt H (bV b) y) bs bvs/\H bn=some (.dK kvs)/\(∀ (i:Nat) b,bs[i]? = some b->Cj kvs (Sum.inr b.1)=some (.int (i:Nat))) /\
  H kp=some (.lst pvs)/\Paired (fun q y=>TupAt H (qV q) y) (E_ bs) pvs/\H kr=some (.lst uvs)/\Paired (fun (r:R) y=>TupAt H r.v y) ks uvs
 nb:bs.length<=5
 sz:∀ b∈bs,b.2<=61
 nk:ks.length<=200
theorem DY.mono {C:Addr} {H H':Hp} {x:Addr} {bs:List (Str × Nat)} {ks:List R} (s:Ak H H') (h:DY C H x bs ks):DY C H' x bs ks:=by
 obtain ⟨⟨dx,fs,bl,bn,kp,kr,bvs,pvs,uvs,kvs,h1,l1,l2,l3,l4,lm,h2,h3,h4,h5,h6,h7,h8,h9⟩,a,b,c⟩:=h
 exact ⟨⟨dx,fs,bl,bn,kp,kr,bvs,pvs,uvs,kvs,s _ _ h1,l1,l2,l3,l4,lm,s _ _ h2,Am s h3,s _ _ h4,h5,s _ _ h6,Am s h7,s _ _ h8,Am s h9⟩,a,b,c⟩
end Og
namespace Og
open PySem L2 PyProof.Rows
inductive Kb where
 | cp (i j:Nat) (s:Int)
 | pl (w:Str) (i:Nat)
noncomputable def Kb.w:Kb->Str
 | .cp _ _ _=>"coupler"
 | .pl w _=>w
noncomputable def Kb.v:Kb->List V
 | .cp i j s=>[.str "coupler",.int (i:Nat),.int (j:Nat),.int s]
 | .pl w i=>[.str w,.int (i:Nat)]
noncomputable def Kb.ok (n:Nat):Kb->Prop
 | .cp i j s=>i<n/\j<n /\ -60<=s/\s<=60
 | .pl w i=>i<n/\(w = "mute" \/ w = "stop")
noncomputable def Gu (w:Str):Nat:=if w = "coupler" then 12 else if w = "mute" then 5 else 24
noncomputable abbrev RX (w:Str) (z:Kb):Bool:=decide (V.str z.w=V.str w)
structure Ui (n:Nat) (kbs:List Kb):Prop where
 ok:∀ k∈kbs,k.ok n
 room:∀ (i:Nat) k,kbs[i]? = some k->((kbs.take i).filter (RX k.w)).length<Gu k.w
 len:kbs.length<=70
noncomputable def Qv (c:Nat->Str) (k:Nat):Kb->R
 | .cp i j s=>⟨"coupler",c (30+k),[.str (c i),.str (c j),.int s]⟩
 | .pl w i=>⟨w,c (30+k),[.str (c i)]⟩
theorem JM (c:Nat->Str) (k:Nat) (z:Kb):(Qv c k z).w=z.w:=by cases z <;> rfl
noncomputable def CK (c:Nat->Str) (sz:List Nat):List (Str × Nat):=sz.zipIdx.map fun p=>(c p.2,p.1)
noncomputable def Ea (c:Nat->Str) (kbs:List Kb):List R:=kbs.zipIdx.map fun p=>Qv c p.2 p.1
theorem Ez {c:Nat->Str} {sz:List Nat} {i z:Nat} (h:sz[i]? = some z):(CK c sz)[i]? = some (c i,z):=by
 unfold CK
 rw [List.getElem?_map,List.getElem?_zipIdx,h]
 simp
theorem Qo {c:Nat->Str} {sz:List Nat} {i:Nat} {b:Str × Nat} (h:(CK c sz)[i]? = some b):∃ z,sz[i]? = some z/\b=(c i,z):=by
 have hi:i<(CK c sz).length:=(List.getElem?_eq_some_iff.mp h).1
 have hi':i<sz.length:=by simpa [CK] using hi
 refine ⟨sz[i],List.getElem?_eq_getElem hi',?_⟩
 rw [Ez (List.getElem?_eq_getElem hi')] at h
 exact (Option.some.inj h).symm
theorem Cr (c:Nat->Str) (sz:List Nat):(CK c sz).map (·.2)=sz:=by
 unfold CK
 rw [List.map_map]
 refine List.ext_getElem? fun i=>?_
 rw [List.getElem?_map,List.getElem?_zipIdx]
 cases sz[i]? <;> simp
theorem Fz {c:Nat->Str} {kbs:List Kb} {i:Nat} {z:Kb} (h:kbs[i]? = some z):(Ea c kbs)[i]? = some (Qv c i z):=by
 unfold Ea
 rw [List.getElem?_map,List.getElem?_zipIdx,h]
 simp
theorem Fy {c:Nat->Str} {kbs:List Kb} {i:Nat} {r:R} (h:(Ea c kbs)[i]? = some r):∃ z,kbs[i]? = some z/\r=Qv c i z:=by
 have hi:i<(Ea c kbs).length:=(List.getElem?_eq_some_iff.mp h).1
 have hi':i<kbs.length:=by simpa [Ea] using hi
 refine ⟨kbs[i],List.getElem?_eq_getElem hi',?_⟩
 rw [Fz (List.getElem?_eq_getElem hi')] at h
 exact (Option.some.inj h).symm
theorem RL (c:Nat->Str) (kbs:List Kb):(Ea c kbs).length=kbs.length:=by simp [Ea]
structure KF (K:PySem.W.Frag) (aB aP aM:Addr):Prop where
 pB:∃ a,PySem.W.nsIn K aP "board" = some (some (.ref a))/\KTup K a (["new","keys"].map fun s:String=>V.str s)
 pS:∃ a,PySem.W.nsIn K aP "stop" = some (some (.ref a))/\KTup K a (["new","board"].map fun s:String=>V.str s)
 pM:∃ a,PySem.W.nsIn K aP "mute" = some (some (.ref a))/\KTup K a (["new","board"].map fun s:String=>V.str s)
 pC:∃ a,PySem.W.nsIn K aP "coupler" = some (some (.ref a))/\KTup K a (["new","board","board","leap"].map fun s:String=>V.str s)
 bK:∃ a,PySem.W.nsIn K aB "keys" = some (some (.ref a))/\KTup K a [.int 1,.int 61]
 bL:∃ a,PySem.W.nsIn K aB "leap" = some (some (.ref a))/\KTup K a [.int (-60),.int 60]
 bN:PySem.W.nsIn K aB "new" = some none
 bB:PySem.W.nsIn K aB "board" = some none
 mB:∃ t,PySem.W.nsIn K aM "board" = some (some (.int 5 t))
 mS:∃ t,PySem.W.nsIn K aM "stop" = some (some (.int 24 t))
 mC:∃ t,PySem.W.nsIn K aM "coupler" = some (some (.int 12 t))
 mM:∃ t,PySem.W.nsIn K aM "mute" = some (some (.int 5 t))
noncomputable def QZ (H:Hp):V->R
 | .ref T=>match H T with
  | some (.tup (.str w :: .str n::r))=>⟨w,n,r⟩
  | _=>⟨"","",[]⟩
 | _=>⟨"","",[]⟩
theorem Nt {H:Hp} {r:R} {v:V} (h:TupAt H r.v v):QZ H v=r:=by
 obtain ⟨T,rfl,e⟩:=h
 show (match H T with | some (.tup (.str w :: .str n::r))=>(⟨w,n,r⟩:R) | _=>⟨"","",[]⟩)=r
 rw [e]
theorem PQ {H:Hp} {rs:List R} {vs:List V} (h:Paired (fun (r:R) v=>TupAt H r.v v) rs vs):vs.map (QZ H)=rs:=by
 induction h with
 | nil=>rfl
 | cons x y ih=>rw [List.map_cons,ih,Nt x]
theorem Br (f:Str) (v:V):∀ l:List (Str × V),(Be f v l).length<=l.length+1
 | []=>Nat.le_refl _
 | p::r=>by
  unfold Be
  split
  ·simp
  ·have:=Br f v r
   simp only [List.length_cons]
   omega
noncomputable abbrev Iv (s:Str):Bool:=inV (.str s) [.str "stop",.str "coupler",.str "mute"]
structure lX (K:PySem.W.Frag) (aB aP aM:Addr) (ρ:V->R) (us:List V) (bs:List (Str × Nat)) (ks:List R):Prop where
 kinds:∀ v∈us,(ρ v).w = "board" \/ (ρ v).w = "stop" \/ (ρ v).w = "coupler" \/ (ρ v).w = "mute"
 eb:(us.filter (pw ρ "board")).map ρ=bs.map FT
 ek:(us.filter (fun v=>Iv (ρ v).w)).map ρ=ks
 b0:1<=bs.length
 b5:bs.length<=5
 sz:∀ b∈bs,b.2<=61
 nk:ks.length<=100
 nb:(bs.map (·.1)).Nodup
 nn:(ks.map (·.nm)).Nodup
 len:us.length<=105
 ok:∀ (i:Nat) v,us[i]? = some v->Kp K aB aP aM ρ (us.take i) (ρ v)
noncomputable def G4 (ρ:V->R) (vs:List V):List (Str × Str):=vs.map fun v=>((ρ v).w,(ρ v).nm)
noncomputable abbrev Px (wn:List (Str × Str)) (w t:Str):Bool:=(wn.filter fun p=>decide (p.1=w)).any fun p=>decide (p.2=t)
noncomputable abbrev Ub (wn:List (Str × Str)) (w:Str):Nat:=(wn.filter fun p=>decide (p.1=w)).length
theorem G6 (a b:Str):decide (V.str a=V.str b)=decide (a=b):=by
 rw [Bool.eq_iff_iff,decide_eq_true_eq,decide_eq_true_eq]
 exact ⟨V.str.inj,congrArg V.str⟩
theorem Iw (ρ:V->R) (vs:List V) (w t:Str):V8 ρ vs w t=Px (G4 ρ vs) w t:=by
 unfold V8 G4
 show _=((vs.map fun v=>((ρ v).w,(ρ v).nm)).filter fun p=>decide (p.1=w)).any fun p=>decide (p.2=t)
 rw [List.filter_map,List.any_map]
 have e1:pw ρ w=(fun p:Str × Str=>decide (p.1=w)) ∘ fun v=>((ρ v).w,(ρ v).nm):=by
  funext v
  exact G6 _ _
 have e2:pn ρ t=(fun p:Str × Str=>decide (p.2=t)) ∘ fun v=>((ρ v).w,(ρ v).nm):=by
  funext v
  exact G6 _ _
 rw [e1,e2]
theorem HX (ρ:V->R) (vs:List V) (w:Str):(vs.filter (pw ρ w)).length=Ub (G4 ρ vs) w:=by
 unfold G4
 show _=((vs.map fun v=>((ρ v).w,(ρ v).nm)).filter fun p=>decide (p.1=w)).length
 rw [List.filter_map,List.length_map]
 have e1:pw ρ w=(fun p:Str × Str=>decide (p.1=w)) ∘ fun v=>((ρ v).w,(ρ v).nm):=by
  funext v
  exact G6 _ _
 rw [e1]
section
variable {K:PySem.W.Frag} {aB aP aM:Addr} {ρ:V->R} {vs:List V} {wn:List (Str × Str)} {t:Str}
theorem Hx (F:KF K aB aP aM) (e:G4 ρ vs=wn) (ht:isNm t) (h:∀ w∈named,Px wn w t=false):HN K aB ρ vs (.str t) "new" :=
 .inr (.inl ⟨F.bN,rfl,_,rfl,ht,fun w hw=>by rw [Iw,e]; exact h w hw⟩)
theorem Hj (F:KF K aB aP aM) (e:G4 ρ vs=wn) (ht:isNm t) (h:Px wn "board" t=true):HN K aB ρ vs (.str t) "board" :=
 .inr (.inr ⟨F.bB,by decide +kernel,_,rfl,ht,by rw [Iw,e]; exact h⟩)
theorem QL (F:KF K aB aP aM) (e:G4 ρ vs=wn) (ht:isNm t) (h:∀ w∈named,Px wn w t=false) (hc:Ub wn "board" < 5) {n:Nat} (h1:1<=n) (h2:n<=61):Kp K aB aP aM ρ vs (FT (t,n)):=by
 obtain ⟨ap,g1,g2⟩:=F.pB
 obtain ⟨ab,g3,g4⟩:=F.bK
 obtain ⟨tk,g5⟩:=F.mB
 refine ⟨by show ¬ ("board" : Str) = "step"; decide +kernel,by show ¬ ("board" : Str) = "line"; decide +kernel,⟨ap,["new","keys"],g1,g2,rfl,by decide,fun j x y hx hy=>?_⟩,⟨5,tk,g5,?_⟩⟩
 ·match j,hx,hy with
  | 0,hx,hy =>
   cases (Option.some.inj hx)
   cases (Option.some.inj hy)
   exact Hx F e ht h
  | 1,hx,hy =>
   cases (Option.some.inj hx)
   cases (Option.some.inj hy)
   exact .inl ⟨_,1,61,ab,rfl,g3,g4,by omega,by omega⟩
  | j+2,hx,hy=>simp at hy
 ·rw [HX,e]
  show ((Ub wn "board" : Nat):Int)<5
  omega
theorem Ls (F:KF K aB aP aM) (e:G4 ρ vs=wn) (ht:isNm t) (h:∀ w∈named,Px wn w t=false) (hc:Ub wn "coupler" < 12) {a b:Str} (ha:isNm a) (ha':Px wn "board" a=true) (hb:isNm b) (hb':Px wn "board" b=true) {s:Int} (h1 : -60<=s) (h2:s<=60):Kp K aB aP aM ρ vs ⟨"coupler",t,[.str a,.str b,.int s]⟩:=by
 obtain ⟨ap,g1,g2⟩:=F.pC
 obtain ⟨ab,g3,g4⟩:=F.bL
 obtain ⟨tk,g5⟩:=F.mC
 refine ⟨by show ¬ ("coupler" : Str) = "step"; decide +kernel,by show ¬ ("coupler" : Str) = "line"; decide +kernel,⟨ap,["new","board","board","leap"],g1,g2,rfl,by decide,fun j x y hx hy=>?_⟩,⟨12,tk,g5,?_⟩⟩
 ·match j,hx,hy with
  | 0,hx,hy =>
   cases (Option.some.inj hx)
   cases (Option.some.inj hy)
   exact Hx F e ht h
  | 1,hx,hy =>
   cases (Option.some.inj hx)
   cases (Option.some.inj hy)
   exact Hj F e ha ha'
  | 2,hx,hy =>
   cases (Option.some.inj hx)
   cases (Option.some.inj hy)
   exact Hj F e hb hb'
  | 3,hx,hy =>
   cases (Option.some.inj hx)
   cases (Option.some.inj hy)
   exact .inl ⟨_,-60,60,ab,rfl,g3,g4,h1,h2⟩
  | j+4,hx,hy=>simp at hy
 ·rw [HX,e]
  show ((Ub wn "coupler" : Nat):Int)<12
  omega
end
theorem VR {bs:List (Str × Nat)}:∀ {i a n:Nat},(E_ bs)[i]? = some (a,n)->∃ b,bs[a]? = some b/\n<b.2/\i=((bs.map (·.2)).take a).sum+n:=by
 have key:∀ m,m<=bs.length->∀ {i a n:Nat},(E_ (bs.take m))[i]? = some (a,n)->∃ b,bs[a]? = some b/\n<b.2/\i=((bs.map (·.2)).take a).sum+n:=by
  intro m
  induction m with
  | zero =>
   intro _ i a n h
   simp [E_] at h
  | succ m ih =>
   intro hm i a n h
   have hlt:m<bs.length:=by omega
   have hb:=List.getElem?_eq_getElem hlt
   rw [Il hb] at h
   have hlen:(E_ (bs.take m)).length=((bs.map (·.2)).take m).sum:=by
    have g:∀ m,m<=bs.length->(E_ (bs.take m)).length=((bs.map (·.2)).take m).sum:=by
     intro m
     induction m with
     | zero=>intro _; simp [E_]
     | succ m ih =>
      intro hm
      have hlt:m<bs.length:=by omega
      rw [Il (List.getElem?_eq_getElem hlt),List.length_append,ih (by omega),List.length_map,List.length_range,List.take_add_one,List.getElem?_map,List.getElem?_eq_getElem hlt,List.sum_append]
      simp
    exact g m (by omega)
   by_cases hi:i<(E_ (bs.take m)).length
   ·rw [List.getElem?_append_left hi] at h
    exact ih (by omega) h
   ·rw [List.getElem?_append_right (by omega),List.getElem?_map] at h
    obtain ⟨e,he,q⟩:=Option.map_eq_some_iff.mp h
    have he':i - (E_ (bs.take m)).length<bs[m].2/\e=i - (E_ (bs.take m)).length:=by
     obtain ⟨h1,h2⟩:=List.getElem?_eq_some_iff.mp he
     rw [List.length_range] at h1
     rw [List.getElem_range] at h2
     exact ⟨h1,h2.symm⟩
    obtain ⟨q1,q2⟩:=Prod.mk.inj q
    subst q1 q2
    refine ⟨bs[m],hb,by omega,?_⟩
    rw [← hlen]
    omega
 intro i a n h
 refine key bs.length (Nat.le_refl _) ?_
 rw [List.take_length]
 exact h
theorem Ga (bs:List (Str × Nat)):(E_ bs).length=(bs.map (·.2)).sum:=by
 unfold E_
 rw [List.length_flatMap]
 have:(bs.zipIdx.map fun p=>((List.range p.1.2).map fun e=>(p.2,e)).length)=bs.map (·.2):=by
  refine List.ext_getElem? fun i=>?_
  rw [List.getElem?_map,List.getElem?_map,List.getElem?_zipIdx]
  cases bs[i]? <;> simp
 rw [this]
end Og
namespace Og
open PySem L2
noncomputable def Mx (bs:List (Str × Nat)) (j1 j2:Nat) (s:Int) (qd:Nat × Nat) (z2:Nat):V :=
 if qd.1=j1/\0<=(qd.2:Int)+s/\(qd.2:Int)+s<z2 then .int ((((bs.take j2).map (·.2)).sum:Nat)+((qd.2:Int)+s)) else .non
noncomputable def gl (bs:List (Str × Nat)):Kb->Nat->Option Nat
 | .cp j1 j2 s,i=>match (E_ bs)[i]?,bs[j2]? with
  | some qd,some b2=>match Mx bs j1 j2 s qd b2.2 with
   | .int v=>some v.toNat
   | _=>none
  | _,_=>none
 | .pl _ _,_=>none
theorem K8 (l:List Nat):∀ {a b:Nat},a<=b->(l.take a).sum<=(l.take b).sum:=by
 intro a b h
 have e:l.take a=(l.take b).take a:=by rw [List.take_take,Nat.min_eq_left h]
 rw [e]
 have:=congrArg List.sum (List.take_append_drop a (l.take b))
 rw [List.sum_append] at this
 omega
theorem Tj {bs:List (Str × Nat)} {j1 j2 i:Nat} {s:Int} {qd:Nat × Nat} {b2:Str × Nat} (hq:(E_ bs)[i]? = some qd) (hb:bs[j2]? = some b2) :
  (Mx bs j1 j2 s qd b2.2=.non/\gl bs (.cp j1 j2 s) i=none) \/ ∃ j:Nat,Mx bs j1 j2 s qd b2.2=.int (j:Nat)/\gl bs (.cp j1 j2 s) i=some j/\j<(bs.map (·.2)).sum:=by
 have e:gl bs (.cp j1 j2 s) i=match Mx bs j1 j2 s qd b2.2 with | .int v=>some v.toNat | _=>none:=by
  simp only [gl,hq,hb]
 rw [e]
 unfold Mx
 by_cases h:qd.1=j1/\0<=(qd.2:Int)+s/\(qd.2:Int)+s<b2.2
 ·rw [if_pos h]
  obtain ⟨h1,h2,h3⟩:=h
  have hs:((bs.map (·.2)).take (j2+1)).sum=(((bs.take j2).map (·.2)).sum+b2.2):=by
   rw [List.take_add_one,List.getElem?_map,hb,List.sum_append,List.map_take]
   simp
  have hle:((bs.map (·.2)).take (j2+1)).sum<=(bs.map (·.2)).sum:=by
   have:=congrArg List.sum (List.take_append_drop (j2+1) (bs.map (·.2)))
   rw [List.sum_append] at this
   omega
  refine .inr ⟨((((bs.take j2).map (·.2)).sum:Nat)+((qd.2:Int)+s)).toNat,?_,rfl,by omega⟩
  rw [Int.toNat_of_nonneg (by omega)]
 ·rw [if_neg h]
  exact .inl ⟨rfl,rfl⟩
theorem Py {bs:List (Str × Nat)} {z:Kb} {i j:Nat} (h:gl bs z i=some j):j<(bs.map (·.2)).sum:=by
 cases z with
 | pl w a=>cases h
 | cp j1 j2 s =>
  cases hq:(E_ bs)[i]? with
  | none =>
   simp only [gl,hq] at h
   cases h
  | some qd =>
   cases hb:bs[j2]? with
   | none =>
    simp only [gl,hq,hb] at h
    cases h
   | some b2 =>
    rcases Tj (j1:=j1) (s:=s) hq hb with ⟨_,e⟩ | ⟨j',_,e,lt⟩
    ·rw [e] at h
     cases h
    ·rw [e] at h
     cases h
     exact lt
noncomputable abbrev TJ (z:Kb):Bool:=decide (V.str z.w=V.str "coupler")
theorem Zt {bs:List (Str × Nat)} {z:Kb} {i j:Nat} (h:gl bs z i=some j):TJ z=true:=by
 cases z with
 | pl w a=>cases h
 | cp j1 j2 s=>exact decide_eq_true rfl
theorem Vg {n:Nat} {z:Kb} (ho:z.ok n) (h:TJ z=true):∃ i j s,z=.cp i j s:=by
 cases z with
 | cp i j s=>exact ⟨i,j,s,rfl⟩
 | pl w i =>
  exfalso
  have h':=V.str.inj (of_decide_eq_true h)
  rcases ho.2 with rfl | rfl
  ·exact absurd h' (by show ¬ ("mute" : Str) = "coupler"; decide +kernel)
  ·exact absurd h' (by show ¬ ("stop" : Str) = "coupler"; decide +kernel)
noncomputable def stp (bs:List (Str × Nat)) (kbs:List Kb) (D:Nat) (i j:Nat):Prop:=∃ k z,D.testBit k=true/\kbs[k]? = some z/\gl bs z i=some j
inductive Ud (st:Nat->Nat->Prop) (hd:Nat->Prop):Nat->Prop
 | one {i j:Nat}:hd i->st i j->Ud st hd j
 | more {i j:Nat}:Ud st hd i->st i j->Ud st hd j
theorem Km:∀ (T:Nat) {l:List Nat},l.Nodup->(∀ x∈l,x<T)->l.length<=T
 | 0,l,_,h=>by
  cases l with
  | nil=>exact Nat.le_refl _
  | cons a l=>exact absurd (h a (List.mem_cons_self ..)) (Nat.not_lt_zero _)
 | T+1,l,nd,h=>by
  have ih:=Km T (l:=l.erase T) (nd.erase T) fun x hx=>by
   have h1:=h x (List.mem_of_mem_erase hx)
   have h2:x ≠ T:=fun z=>by
    subst z
    exact nd.not_mem_erase hx
   omega
  have:=List.length_erase (a:=T) (l:=l)
  split at this <;> omega
end Og
namespace Og
open PySem L2 PyProof.Rows
noncomputable abbrev Th:=Str × Nat × List V
noncomputable abbrev tV (a:Th):List V:=.str a.1 :: .int (a.2.1:Nat)::a.2.2
noncomputable abbrev tN (a:Th):Str × Nat:=(a.1,a.2.1)
noncomputable abbrev RK (r:Str × Nat × Int):Th:=(r.1,r.2.1,[.int r.2.2])
noncomputable abbrev ZR (b:Str × Nat):Th:=(b.1,b.2,[])
noncomputable abbrev Xg (r:Str × Nat × Int):Str × Nat:=(r.1,r.2.1)
noncomputable abbrev Er (r:Str × Nat × Int):R:=⟨"rank",r.1,[.int (r.2.1:Nat),.int r.2.2]⟩
structure Ln where
 r:Nat
 sh:Int
 lo:Int
 hi:Int
noncomputable abbrev cF (l:Ln):List V:=[.int (l.r:Nat),.int l.sh,.int l.lo,.int l.hi]
noncomputable def Hi (H:Hp) (l:List Ln) (v:V):Prop:=∃ (A:Addr) (ts:List V),v=.ref A/\H A=some (.lst ts)/\Paired (fun x y=>TupAt H (cF x) y) l ts
noncomputable def GK (H:Hp) (D:Addr) (ls:List (List Ln)):Prop:=∃ lv,H D=some (.lst lv)/\Paired (fun l v=>Hi H l v) ls lv
theorem Hi.mono {H H':Hp} {l:List Ln} {v:V} (s:Ak H H') (h:Hi H l v):Hi H' l v:=by
 obtain ⟨A,ts,e,h1,h2⟩:=h
 exact ⟨A,ts,e,s _ _ h1,Am s h2⟩
theorem GK.mono {H H':Hp} {D:Addr} {ls:List (List Ln)} (s:Ak H H') (h:GK H D ls):GK H' D ls:=by
 obtain ⟨lv,h1,h2⟩:=h
 exact ⟨lv,s _ _ h1,Paired.Eo h2 fun _ _ q=>q.mono s⟩
structure Dk (C:Addr) (H:Hp) (x:Addr) (bs:List (Str × Nat)) (rk:List (Str × Nat × Int)) (ks:List R) (ls:List (List Ln)):Prop where
 o:DY C H x bs ks
 r:∃ (dx:Addr) (fs:List (Str × V)) (rl rn pp kl:Addr) (rvs pvs:List V) (kvs:List (Key × V)),H x=some (.ins C dx fs)/\fs.lookup ("rank_list" : Str)=some (.ref rl)/\fs.lookup ("rank_numbers" : Str)=some (.ref rn)/\fs.lookup ("pipe_places" : Str)=some (.ref pp)/\fs.lookup ("knob_lines" : Str)=some (.ref kl) /\
  H rl=some (.lst rvs)/\Paired (fun (a:Th) y=>TupAt H (tV a) y) (rk.map RK) rvs/\H rn=some (.dK kvs)/\(∀ (i:Nat) r,rk[i]? = some r->Cj kvs (Sum.inr r.1)=some (.int (i:Nat))) /\
  H pp=some (.lst pvs)/\Paired (fun q y=>TupAt H (qV q) y) (E_ (rk.map Xg)) pvs/\GK H kl ls
 nr:rk.length<=12
 nz:∀ r∈rk,r.2.1<=97
 nl:ls.length=ks.length
theorem Dk.mono {C:Addr} {H H':Hp} {x:Addr} {bs:List (Str × Nat)} {rk:List (Str × Nat × Int)} {ks:List R} {ls:List (List Ln)} (s:Ak H H') (h:Dk C H x bs rk ks ls):Dk C H' x bs rk ks ls:=by
 obtain ⟨o,⟨dx,fs,rl,rn,pp,kl,rvs,pvs,kvs,h1,l1,l2,l3,l4,h2,h3,h4,h5,h6,h7,h8⟩,a,b,c⟩:=h
 exact ⟨o.mono s,⟨dx,fs,rl,rn,pp,kl,rvs,pvs,kvs,s _ _ h1,l1,l2,l3,l4,s _ _ h2,Am s h3,s _ _ h4,h5,s _ _ h6,Am s h7,h8.mono s⟩,a,b,c⟩
structure V3 (ρ:V->R) (us:List V) (i:Nat):Prop where
 all:∀ j,j<i->∃ v,us[us.length - 1 - j]? = some v/\(ρ v).w = "line"
 lt:i<us.length
 no:∃ v,us[us.length - 1 - i]? = some v/\¬ (ρ v).w = "line"
noncomputable def XJ (r:R):Int:=match r.rest with
 | [.int m]=>m
 | _=>0
noncomputable abbrev keyOf (ρ:V->R) (us:List V) (bd:Str) (n:Int):Bool:=(us.filter (pw ρ "board")).any fun v=>pn ρ bd v && decide (n<XJ (ρ v))
structure Nz (ρ:V->R) (us:List V) (ro:R):Prop where
 ex:∃ (cnt:Nat) (v:V) (sh lo hi:Int) (bd:Str) (rs:List V),ro.rest=[.int sh,.int lo,.int hi]/\V3 ρ us cnt/\cnt<4/\us[us.length - 1 - cnt]? = some v/\(ρ v).w = "stop" /\ (ρ v).rest=.str bd::rs/\lo<=hi/\keyOf ρ us bd hi=true
noncomputable abbrev FP (ρ:V->R) (us:List V):Prop:=∀ v∈us,(ρ v).w = "board"->∃ m,(ρ v).rest=[.int m]
structure Gv (K:PySem.W.Frag) (aB aP aM:Addr) (ρ:V->R) (vs:List V) (r:R):Prop where
 ns:¬ r.w = "step"
 parts:∃ (ap:Addr) (ps:List Str),PySem.W.nsIn K aP r.w=some (some (.ref ap))/\KTup K ap (ps.map V.str)/\(V.str r.nm::r.rest).length=ps.length/\ps.length<=10 /\
  ∀ (i:Nat) x y,(V.str r.nm::r.rest)[i]? = some x->ps[i]? = some y->HN K aB ρ vs x y
 room:(r.w = "line" /\ PySem.W.nsIn K aM r.w=some none) \/ ∃ (m:Int) (t:Tok),PySem.W.nsIn K aM r.w=some (some (.int m t))/\(((vs.filter (pw ρ r.w)).length:Nat):Int)<m
 line:r.w = "line"->Nz ρ vs r
 Yg:FP ρ vs
noncomputable def lnOf (rk:List (Str × Nat × Int)) (r:R):Ln:=match r.rest with
 | [.int sh,.int lo,.int hi]=>⟨(rk.map (·.1)).idxOf r.nm,sh,lo,hi⟩
 | _=>⟨0,0,0,0⟩
noncomputable def putL (acc:List (List Ln)) (l:Ln):List (List Ln):=match acc.getLast? with
 | some z=>acc.dropLast++[z++[l]]
 | none=>[]
noncomputable def Fq (rk:List (Str × Nat × Int)) (acc:List (List Ln)) (r:R):List (List Ln):=if Iv r.w=true then acc++[[]] else if r.w = "line" then putL acc (lnOf rk r) else acc
noncomputable def linesOf (rk:List (Str × Nat × Int)) (rs:List R):List (List Ln):=rs.foldl (Fq rk) []
theorem CQ (rk:List (Str × Nat × Int)) (rs:List R) (r:R):linesOf rk (rs++[r])=Fq rk (linesOf rk rs) r:=by
 unfold linesOf
 rw [List.foldl_append]
 rfl
theorem G5 (acc:List (List Ln)) (z:List Ln) (l:Ln):putL (acc++[z]) l=acc++[z++[l]]:=by
 unfold putL
 rw [List.getLast?_concat,List.dropLast_concat]
structure Z_ (K:PySem.W.Frag) (aB aP aM:Addr) (ρ:V->R) (us:List V) (bs:List (Str × Nat)) (rk:List (Str × Nat × Int)) (ks:List R):Prop where
 kinds:∀ v∈us,(ρ v).w = "board" \/ (ρ v).w = "rank" \/ (ρ v).w = "line" \/ (ρ v).w = "stop" \/ (ρ v).w = "coupler" \/ (ρ v).w = "mute"
 eb:(us.filter (pw ρ "board")).map ρ=bs.map FT
 er:(us.filter (pw ρ "rank")).map ρ=rk.map Er
 ek:(us.filter (fun v=>Iv (ρ v).w)).map ρ=ks
 ln:∀ (i:Nat) v,us[i]? = some v->(ρ v).w = "line"->(∃ (j:Nat) (r:Str × Nat × Int) (sh lo hi:Int),rk[j]? = some r/\r.1=(ρ v).nm/\(ρ v).rest=[.int sh,.int lo,.int hi])/\∃ u∈us.take i,Iv (ρ u).w=true
 b0:1<=bs.length
 b5:bs.length<=5
 sz:∀ b∈bs,b.2<=61
 nr:rk.length<=12
 nz:∀ r∈rk,r.2.1<=97
 nk:ks.length<=100
 nb:(bs.map (·.1)).Nodup
 nrr:(rk.map (·.1)).Nodup
 nn:(ks.map (·.nm)).Nodup
 len:us.length<=150
 ok:∀ (i:Nat) v,us[i]? = some v->Gv K aB aP aM ρ (us.take i) (ρ v)
theorem Z_.none {K:PySem.W.Frag} {aB aP aM:Addr} {ρ:V->R} {us:List V} {bs:List (Str × Nat)} {rk:List (Str × Nat × Int)} {ks:List R} (h:Z_ K aB aP aM ρ us bs rk ks):us.filter (pw ρ "step")=[]:=by
 refine List.filter_eq_nil_iff.mpr fun v hv=>?_
 unfold pw
 rcases h.kinds v hv with e | e | e | e | e | e <;> rw [e] <;> decide +kernel
end Og
namespace Og
open PySem L2
noncomputable abbrev Pt:=Nat × Nat
noncomputable def lU (nx:Pt->Option Pt) (p0:Pt) (ps:List Pt):Prop:=∀ (i:Nat) (p q:Pt),(p0::ps)[i]? = some p->(p0::ps)[i+1]? = some q->nx p=some q
noncomputable def kJ (s0 s1 b:Nat):Nat:=if b=0 then s0 else s1
noncomputable def enc (s0:Nat) (p:Pt):Nat:=p.1 * s0+p.2
noncomputable abbrev Way:=Option (Nat × Int)
noncomputable def wy (w0 w1:Way) (b:Nat):Way:=if b=0 then w0 else w1
noncomputable def nxt (s0 s1:Nat) (w0 w1:Way) (p:Pt):Option Pt:=match wy w0 w1 p.1 with
 | none=>none
 | some (g,s)=>if 0<=(p.2:Int)+s/\(p.2:Int)+s<(kJ s0 s1 g:Nat) then some (g,((p.2:Int)+s).toNat) else none
structure lq (s0 s1:Nat) (p:Pt):Prop where
 b:p.1<2
 n:p.2<kJ s0 s1 p.1
structure lY (kbs:List Kb) (D:Nat) (w0 w1:Way):Prop where
 out:∀ k z,D.testBit k=true->kbs[k]? = some z->∃ j1 j2 s,z=.cp j1 j2 s/\wy w0 w1 j1=some (j2,s)/\j2<2
 back:∀ b g s,b<2->wy w0 w1 b=some (g,s)->∃ k,D.testBit k=true/\kbs[k]? = some (.cp b g s)
end Og
namespace Og
open PySem L2
inductive XD (nx:Pt->Option Pt) (hd:Pt->Prop):Pt->Prop
 | one {p q:Pt}:hd p->nx p=some q->XD nx hd q
 | more {p q:Pt}:XD nx hd p->nx p=some q->XD nx hd q
structure lD (kbs:List Kb) (D:Nat) (w0 w1:Way):Prop where
 out:∀ (k:Nat) (z:Kb),D.testBit k=true->kbs[k]? = some z->(∃ w i,z=.pl w i) \/ ∃ j1 j2 s,z=.cp j1 j2 s/\wy w0 w1 j1=some (j2,s)/\j2<2
 back:∀ b g s,b<2->wy w0 w1 b=some (g,s)->∃ k:Nat,D.testBit k=true/\kbs[k]? = some (.cp b g s)
end Og
namespace L2
open PySem PySem.Spec PySem.Calls PyProof.Rows
section
variable {X:Cx}
end
end L2
namespace L2
open PySem PySem.Spec PySem.Calls PyProof.Rows
section
variable {X:Cx}
end
end L2
namespace Og
noncomputable def Ww (st:Nat->Nat->Prop):Nat->Nat->Nat->Prop
 | 0,i,j=>st i j
 | w+1,i,j=>Ww st w i j \/ (Ww st w i w/\Ww st w w j)
theorem Ww.up {st:Nat->Nat->Prop} {i j:Nat} (h:st i j):∀ w,Ww st w i j
 | 0=>h
 | w+1=>.inl (Ww.up h w)
theorem Ww.to {st:Nat->Nat->Prop} {w j:Nat}:Ww st (w+1) w j ↔ Ww st w w j:=by
 constructor
 ·rintro (h | ⟨_,h⟩) <;> exact h
 ·exact .inl
theorem Ww.at {st:Nat->Nat->Prop} {w i:Nat}:Ww st (w+1) i w ↔ Ww st w i w:=by
 constructor
 ·rintro (h | ⟨h,_⟩) <;> exact h
 ·exact .inl
theorem Ww.tr {st:Nat->Nat->Prop}:∀ (w:Nat) {i k j:Nat},k<w->Ww st w i k->Ww st w k j->Ww st w i j
 | w+1,i,k,j,hk,h1,h2=>by
  by_cases e:k=w
  ·subst e
   exact .inr ⟨Ww.at.mp h1,Ww.to.mp h2⟩
  have hk':k<w:=by omega
  rcases h1 with a | ⟨a1,a2⟩ <;> rcases h2 with b | ⟨b1,b2⟩
  ·exact .inl (Ww.tr w hk' a b)
  ·exact .inr ⟨Ww.tr w hk' a b1,b2⟩
  ·exact .inr ⟨a1,Ww.tr w hk' a2 b⟩
  ·exact .inr ⟨a1,b2⟩
theorem Ww.sound {st:Nat->Nat->Prop}:∀ (w:Nat) {i j:Nat} {hd:Nat->Prop},Ww st w i j->(hd i \/ Ud st hd i)->Ud st hd j
 | 0,i,j,hd,h,a=>by
  rcases a with a | a
  ·exact .one a h
  ·exact .more a h
 | w+1,i,j,hd,h,a=>by
  rcases h with h | ⟨h1,h2⟩
  ·exact Ww.sound w h a
  ·exact Ww.sound w h2 (.inr (Ww.sound w h1 a))
theorem Ww.lC {st:Nat->Nat->Prop} {n i j:Nat} (hn:∀ a b,st a b->b<n):Ww st n i j ↔ Ud st (fun a=>a=i) j:=by
 constructor
 ·exact fun h=>Ww.sound n h (.inl rfl)
 ·intro h
  induction h with
  | one a b=>rw [← a]; exact Ww.up b n
  | more a b ih =>
   have hk:∀ {x},Ud st (fun a=>a=i) x->x<n:=fun r=>by
    cases r with
    | one _ b=>exact hn _ _ b
    | more _ b=>exact hn _ _ b
   exact Ww.tr n (hk a) ih (Ww.up b n)
end Og
namespace L2
open PySem PySem.Spec PyProof.Rows
section
variable {X:Cx}
end
end L2
namespace L2
open PySem PySem.Spec PyProof.Rows
section
variable {σ:St} {H1:Hp} {Q:VK} {tt:TT} {te:TE}
end
end L2
namespace L2
open PySem PySem.Spec PyProof.Rows
noncomputable def Dp:Nat->Hp->V->V->Prop
 | 0,_,x,y=>x=y/\F_ x=true
 | n+1,H,x,y=>(x=y/\F_ x=true) \/ ∃ a b xs ys,x=V.ref a/\y=V.ref b/\((H a=some (.lst xs)/\H b=some (.lst ys)) \/ (H a=some (.tup xs)/\H b=some (.tup ys)))/\Paired (Dp n H) xs ys
theorem Uj {n:Nat} {H:Hp} {x:V} (h:F_ x=true):Dp n H x x:=by
 cases n with
 | zero=>exact ⟨rfl,h⟩
 | succ n=>exact .inl ⟨rfl,h⟩
theorem Eh {R:V->V->Prop}:∀ {xs ys:List V},Paired R xs ys->∀ j,j<xs.length->R (xs.getD j .non) (ys.getD j .non)
 | _,_,.nil,j,h=>absurd h (Nat.not_lt_zero _)
 | _,_,.cons a b,0,_=>a
 | _,_,.cons a b,j+1,h=>Eh b j (Nat.lt_of_succ_lt_succ h)
section
variable {X:Cx} {pins:List (Addr × Obj)} {σ:St} {H:Hp} {s:Shared}
theorem Jg (I:Inv X pins σ H s):∀ (n:Nat) (A:Around) (x y:V) (u v:Value),A.units+n<cLine->Dp n H x y->RelV x u->RelV y v->SeqAt.EqAt A s u v true
 | 0,A,x,y,u,v,hu,h,rx,ry=>by
  obtain ⟨rfl,hf⟩:=h
  have:=N_ (A:=A) (s:=s) rx ry hf hf
  rw [MF hf] at this
  exact this
 | n+1,A,x,y,u,v,hu,h,rx,ry=>by
  rcases h with ⟨rfl,hf⟩ | ⟨a,b,xs,ys,rfl,rfl,hab,p⟩
  ·have:=N_ (A:=A) (s:=s) rx ry hf hf
   rw [MF hf] at this
   exact this
  ·cases rx
   cases ry
   by_cases hne:a=b
   ·subst hne
    exact SeqAt.EqAt.same _
   ·refine SeqAt.EqAt.of_refs hne ?_
    have pl:=p.length
    rcases hab with ⟨ha,hb⟩ | ⟨ha,hb⟩
    ·obtain ⟨i1,r1,p1,_⟩:=I.list (show Cg X.K H a xs from .inl (.inl ha))
     obtain ⟨i2,r2,p2,_⟩:=I.list (show Cg X.K H b ys from .inl (.inl hb))
     have l1:=r1.length
     have l2:=r2.length
     have h:=SeqAt.RcAt.lists (A:=A) (e:=fun _=>true) p1.isList p2.isList (by simp; omega) (by omega) (fun j h1 h2=>by
      have h1':j<i1.length:=by simpa using h1
      have h2':j<i2.length:=by simpa using h2
      simp only [List.getElem_toArray]
      exact Jg I n A.in1 _ _ _ _ (by show A.units+1+n<cLine; omega) (Eh p j (by omega)) (Gx r1 h1') (Gx r2 h2'))
     have e:((List.range i1.toArray.size).all fun _=>true)=true:=List.all_eq_true.mpr fun _ _=>rfl
     rw [e] at h
     exact h
    ·obtain ⟨i1,r1,p1,_⟩:=I.tuple (show G_ X.K H a xs from .inl (.inl ha))
     obtain ⟨i2,r2,p2,_⟩:=I.tuple (show G_ X.K H b ys from .inl (.inl hb))
     have l1:=r1.length
     have l2:=r2.length
     have h:=SeqAt.RcAt.tuples (A:=A) (e:=fun _=>true) p1 p2 (by omega) (fun j h1 h2=>by
      have h1':j<i1.length:=by simpa using h1
      have h2':j<i2.length:=by simpa using h2
      simp only [List.getElem_toArray]
      exact Jg I n A.in1 _ _ _ _ (by show A.units+1+n<cLine; omega) (Eh p j (by omega)) (Gx r1 h1') (Gx r2 h2'))
     have e:((List.range (min i1.toArray.size i2.toArray.size)).all fun _=>true)=true:=List.all_eq_true.mpr fun _ _=>rfl
     have e2:(i1.toArray.size == i2.toArray.size)=true:=beq_iff_eq.mpr (by simp; omega)
     rw [e,e2] at h
     exact h
end
section
variable {X:Cx}
theorem TX (n:Nat) (hu:X.A.units+(n+1)<cLine):Gf X (compareOp .Eq) (fun x y H Q=>∃ a b,x=V.ref a/\y=V.ref b/\Dp (n+1) H x y/\Q (.bl true) H):=by
 intro pins s σ H x y v u Q I rx ry h
 obtain ⟨a,b,rfl,rfl,h,k⟩:=h
 rcases h with ⟨_,hf⟩ | ⟨a',b',xs,ys,ea,eb,hab,p⟩
 ·cases hf
 cases ea
 cases eb
 cases rx
 cases ry
 have pl:=p.length
 rcases hab with ⟨ha,hb⟩ | ⟨ha,hb⟩
 ·obtain ⟨i1,r1,p1,_⟩:=I.list (show Cg X.K H a xs from .inl (.inl ha))
  obtain ⟨i2,r2,p2,_⟩:=I.list (show Cg X.K H b ys from .inl (.inl hb))
  have l1:=r1.length
  have l2:=r2.length
  refine SeqAt.eq_listAt (e:=fun _=>true) p1.isList p2.isList (by simp; omega) (by omega) (fun j h1 h2=>by
   have h1':j<i1.length:=by simpa using h1
   have h2':j<i2.length:=by simpa using h2
   simp only [List.getElem_toArray]
   exact Jg I n X.A.in1 _ _ _ _ (by show X.A.units+1+n<cLine; omega) (Eh p j (by omega)) (Gx r1 h1') (Gx r2 h2')) ⟨.bl true,H,I,?_,k⟩
  have e:((List.range i1.toArray.size).all fun _=>true)=true:=List.all_eq_true.mpr fun _ _=>rfl
  rw [e]
  exact rfl
 ·obtain ⟨i1,r1,p1,_⟩:=I.tuple (show G_ X.K H a xs from .inl (.inl ha))
  obtain ⟨i2,r2,p2,_⟩:=I.tuple (show G_ X.K H b ys from .inl (.inl hb))
  have l1:=r1.length
  have l2:=r2.length
  refine SeqAt.eq_tupleAt (e:=fun _=>true) p1 p2 (by omega) (fun j h1 h2=>by
   have h1':j<i1.length:=by simpa using h1
   have h2':j<i2.length:=by simpa using h2
   simp only [List.getElem_toArray]
   exact Jg I n X.A.in1 _ _ _ _ (by show X.A.units+1+n<cLine; omega) (Eh p j (by omega)) (Gx r1 h1') (Gx r2 h2')) ⟨.bl true,H,I,?_,k⟩
  have e:((List.range (min i1.toArray.size i2.toArray.size)).all fun _=>true)=true:=List.all_eq_true.mpr fun _ _=>rfl
  have e2:(i1.toArray.size == i2.toArray.size)=true:=beq_iff_eq.mpr (by simp; omega)
  rw [e,e2]
  exact rfl
end
end L2
namespace L2
open PySem PySem.Spec PySem.Calls PyProof.Rows
structure Mv (fs:List Addr) (x T:Addr) (h h':Heap):Prop where
 keep:∀ b o,h.get? b=some o->b ≠ x->b ≠ T->b ∉ fs->h'.get? b=some o
 any:∀ b o,h.get? b=some o->b ≠ x->b ≠ T->∃ sl,h'.get? b=some { o with slots:=sl }
section
variable {M:Model} {A:Around} {E:Value->Shared->Prop} {s:Shared} {base:Heap} {env:Env} {outer:List Env} {L x T C:Addr} {od:Option Addr} {Q:Unit->Shared->Prop}
end
section
variable {P:Program} {w:World} {fs:List Addr} {H H':Hp} {h h1 h2 h3:Heap} {x T T':Addr}
end
section
variable {X:Cx} {C:Addr} {x:Str} {e:Expr} {es:List Expr} {t:TA} {np cpos pos:Pos} {E:XK}
end
section
variable {X:Cx} {pins:List (Addr × Obj)} {σ:St} {H:Hp} {s:Shared}
end
noncomputable def Ends.drop (D:Ends) (i:Nat):Ends:={ nx:=fun σ H=>D.nx (σ.set i none) H,rt:=D.rt,bk:=fun σ H=>D.bk (σ.set i none) H,ct:=fun σ H=>D.ct (σ.set i none) H }
section
variable {X:Cx} {k i:Nat} {f O:Addr} {fd:FuncData} {ps:List Str} {sp:Sp} {dvs:List V} {ds:List Value} {fx cn n:Str} {p np cpos epos hpos pos:Pos} {e:Expr} {es:List Expr} {t:TA} {b0:Stmt} {suite:List Stmt} {ts:TS}
end
structure dH (k:Nat) (A:Around):Prop where
 dp:A.depth+3 * k+5<recursionLimit
 un:A.units+16 * k+200<cLine
structure kO (P:Program) (w:World) (K:PySem.W.Frag) (mg:Str->Option Value) (base:Heap) (CX:QF) (k:Nat) (f:Addr) (fd:FuncData) (ps:List Str) (sp:Sp):Prop where
 len:∀ vs H Q E,sp vs H Q E->vs.length=ps.length
 run:∀ (A:Around) (outer:List Env) (s:Shared) (H:Hp) (args:Args) (us:List Value) (vs:List V) (Q:VK) (E:XK),dH k A->Mg P w K mg base A outer s H->BindsTo s fd args (ps.zip us)->Vals vs us->sp vs H Q E ->
  codeAny (model P w) A (.call (.ref f) args) (CR CX outer P w H s Q E) s
section
variable {P:Program} {w:World} {K:PySem.W.Frag} {mg:Str->Option Value} {base:Heap}
end
section
variable {X:Cx} {CX:QF} {k:Nat} {f:Addr} {fd:FuncData} {ps:List Str} {sp:Sp} {dvs:List V} {ds:List Value} {E:XK} {x:Str} {p pos:Pos} {e:Expr} {es:List Expr} {t:TA}
end
end L2
namespace L2
open PySem PySem.Spec PySem.Calls PyProof.Rows
end L2
namespace L2
open PySem PySem.Spec PySem.Calls PyProof.Rows
noncomputable def cG (td ty tv:TE):TS:=fun D σ H=>tv σ H fun v H1=>td σ H1 fun x H2=>ty σ H2 fun y H3=>∃ a xs,∃ k:Int,x=.ref a/\y=.int k/\H3 a=some (.lst xs)/\0<=k/\k<xs.length/\k<2 ^ 62/\D.nx σ (upd H3 a (.lst (xs.set k.toNat v)))
section
variable {X:Cx} {o i value:Expr} {td ty tv:TE} {pos pos':Pos}
theorem Vo (ho:PE X o td) (hi:PE X i ty) (hv:PE X value tv) (hs:swapsWith value (some (.Subscript o i pos')) pos.line X.env=pure false):PS X (.Assign [.Subscript o i pos'] value pos) (cG td ty tv):=by
 intro pins s σ H D I h
 refine wpAny_Assign_Subscript (Bv (hv pins s σ H _ I h) fun r s1 ⟨v,H1,I1,rv,q1⟩=>Bv (ho pins s1 σ H1 _ I1 q1) fun u s2 ⟨x,H2,I2,rx,q2⟩=>Bv (hi pins s2 σ H2 _ I2 q2) fun iv s3 ⟨y,H3,I3,ry,a,xs,k,ex,ey,ha,k0,k1,k2,q3⟩=>?_) hs
 subst ex ey
 cases rx
 obtain ⟨t,rfl⟩:=ry
 obtain ⟨z,its,n,w,hl,e⟩:=I3.Qz ha
 refine PySem.W.ki_setAt (n:=n) e k0 (by omega) (by rw [List.size_toArray]; omega) ⟨σ,_,I3.X6 (its':=its.set k.toNat r) (t':=s3.toks) ha e (by simp) (w.set rv _) (by rw [List.length_set]; exact z),q3⟩
end
section
variable {X:Cx} {k i:Nat} {f O:Addr} {fd:FuncData} {ps:List Str} {sp:Sp} {dvs:List V} {ds:List Value} {fx cn n:Str} {p np cpos epos hpos pos:Pos} {e:Expr} {es:List Expr} {t:TA} {b0:Stmt} {suite:List Stmt} {ts:TS}
end
end L2
namespace L2
open PySem PySem.Spec PySem.Calls PyProof.Rows
section
variable {X:Cx} {pins:List (Addr × Obj)} {σ:St} {H:Hp} {s:Shared}
theorem Inv.freeze {a:Addr} {kvs:List (Key × V)} (I:Inv X pins σ H s) (e:H a=some (.dK kvs)):∃ o,Inv X pins σ (upd H a (.frz o (.dK kvs))) s:=by
 have oa:CG X.prog X.w H s.heap a (.dK kvs):=I.hok a _ e
 obtain ⟨_,_,vs,rel,ob,es,ep,ho,_⟩:=id oa
 have up1:∀ b x,H b=some (.own x)->upd H a (.frz ob (.dK kvs)) b=some (.own x):=fun b x q=>by
  rw [Al fun z=>by rw [z,e] at q; cases q]; exact q
 have up2:∀ b xs,H b=some (.tup xs)->upd H a (.frz ob (.dK kvs)) b=some (.tup xs):=fun b x q=>by
  rw [Al fun z=>by rw [z,e] at q; cases q]; exact q
 refine ⟨ob,I.step (h':=s.heap) (g':=s.gens) (d':=s.drawn) (t':=s.toks) (ch:=[]) (fun _ z=>nomatch z) (fun b o _ _ _ q _=>q) (fun b o _ _ _ q _=>⟨o.slots,q⟩) (fun b o _ _ n=>?_) (fun b o _ q=>⟨o,q⟩) up2 (fun b o u q=>?_) (fun b ps q=>⟨#[],?_⟩) (fun m q=>q) (fun b u q=>?_) I.bare⟩
 ·rw [Al fun z=>by rw [z,e] at n; cases n]; exact n
 ·rw [Al fun z=>by rw [z,e] at q; cases q]; exact q
 ·rw [Al (fun z=>by rw [z,e] at q; cases q),q]; simp
 ·by_cases hb:b=a
  ·subst hb
   rw [Af] at q
   cases q
   exact ⟨ho,oa.stay (fun _ _ _ q=>q) (fun c q=>up1 c _ q) up2⟩
  ·rw [Al hb] at q
   exact (I.hok b u q).stay (fun _ _ _ q=>q) (fun c q=>up1 c _ q) up2
end
noncomputable def lH (t:TS):TS:=fun D σ H=>t { D with nx:=fun σ' H'=>∃ a kvs,H' a=some (.dK kvs)/\∀ o,D.nx σ' (upd H' a (.frz o (.dK kvs))) } σ H
theorem YS {X:Cx} {ss:List Stmt} {t:TS} (h:N7 X ss t):N7 X ss (lH t):=by
 intro pins s σ H D I q
 refine Bv (h pins s σ H _ I q) fun f s' hf=>?_
 cases f with
 | next =>
  obtain ⟨σ',H',J,a,kvs,e,qq⟩:=hf
  obtain ⟨o,J'⟩:=J.freeze e
  exact ⟨σ',_,J',qq o⟩
 | brk=>exact hf
 | cont=>exact hf
 | ret u=>exact hf
noncomputable def RP (o:Obj):Nat:=match o.data with | .dict _ n=>n | _=>0
noncomputable def jj (a:Addr) (o:Obj) (kvs:List (Key × V)):It :=
 ⟨fun i H=>H a=some (.frz o (.dK kvs))/\i<kvs.length,fun i H v H'=>∃ T kv,H T=none/\v=.ref T/\kvs[i]? = some kv/\H'=upd H T (.tup [kV kv.1,kv.2]),fun i H=>H a=some (.frz o (.dK kvs))/\kvs.length<=i⟩
theorem bx {P:Program} {w:World} {k:Key} {u:Value} (h:(Bu P w).is k u=true):RelV (kV k) u:=by
 rcases CV (show J5 k u=true from h) with ⟨i,t,rfl,rfl⟩ | ⟨x,t,rfl,rfl⟩
 ·exact ⟨t,rfl⟩
 ·exact ⟨t,rfl⟩
theorem YG:∀ {l:List (Key × V)} {m:List (Key × Value)},KV l m->∀ {j:Nat} {p:Key × V},l[j]? = some p->∃ q,m[j]? = some q/\p.1=q.1/\RelV p.2 q.2:=by
 intro l m h
 unfold KV at h
 induction h with
 | nil=>intro j p hp; simp at hp
 | cons a b ih =>
  intro j p hp
  cases j with
  | zero =>
   simp at hp
   subst hp
   exact ⟨_,rfl,a⟩
  | succ j=>exact ih (by simpa using hp)
theorem Ot {P:Program} {w:World} {K:PySem.W.Frag} {es:List Expr} {k1:Nat} {pos:Pos} (a it:Addr) (o:Obj) (kvs:List (Key × V)) (hne:a ≠ it) :
  Turn P w K (.Tuple es k1 pos) (jj a o kvs) [it] it (fun i h=>∃ ok ov,IsItemIter h it a i kvs.length (RP o) ok ov) where
 mem:=by simp
 obj:=fun i h st b hb=>by
  obtain ⟨ok,ov,he⟩:=st
  have q:b=it:=by simpa using hb
  subst q
  exact ⟨_,he,fun v z=>by
   have z':Data.fields _=Data.cell v:=z
   cases z'⟩
 keep:=fun i h h' st k=>by
  obtain ⟨ok,ov,he⟩:=st
  exact ⟨ok,ov,k it (by simp) _ he⟩
 item:=by
  intro X hP hw hK hc i pins s σ H E I hf st hg
  subst hP hw hK
  obtain ⟨ha,hi⟩:=hg
  obtain ⟨ok,ov,he⟩:=st
  have oa:CG X.prog X.w H s.heap a (.frz o (.dK kvs)):=I.hok a _ ha
  obtain ⟨ho,_,_,vs,rel,ob,es',ep',ho',e2,e3,e4,e5,e6⟩:=oa
  rw [ho] at ho'
  cases ho'
  have eep:RP o=ep':=by unfold RP; rw [e3]
  have hda:s.heap.DictAt (Bu X.prog X.w) a vs (RP o):=⟨o,es',ho,e2,by rw [eep]; exact e3,e4,e5,e6⟩
  have hl:=rel.length
  obtain ⟨⟨k,x⟩,hx⟩:∃ p,kvs[i]? = some p:=⟨kvs[i],by simp [hi]⟩
  obtain ⟨⟨k',u⟩,hu,ek,ru⟩:∃ q,vs[i]? = some q/\k=q.1/\RelV x q.2:=by
   exact YG rel hx
  have ek':k=k':=ek
  subst ek'
  rw [hl] at he
  refine wpAny_pyNext_items_item he hda hu fun key h1 hkey n1 n3 n4 n5=>?_
  refine ⟨_,rfl,wpAny_letOwnedTupleGo_items (s:={ s with heap:=h1 }) n1 fun h2 m1 m2=>?_⟩
  have hT:s.heap.objs.size ≠ it:=Nat.ne_of_gt (Heap.lt_size he)
  have fr:H s.heap.objs.size=none:=I.hok.fresh (Nat.le_refl _)
  have nw:CG X.prog X.w (upd H s.heap.objs.size (.tup [kV k,x])) h2 s.heap.objs.size (.tup [kV k,x]) :=
   ⟨by show 2<=sizeLine; decide,[key,u],.cons (bx hkey) (.cons ru .nil),_,m2.extBut _ _ hT n3,rfl,_,rfl⟩
  refine ⟨.ref s.heap.objs.size,_,I.Jv (t':=s.toks) (ch:=[it]) hf (fun b o hb q=>?_) (Nat.le_refl _) nw,rfl,⟨_,(k,x),fr,rfl,hx,rfl⟩,⟨_,_,by rw [hl]; exact m1⟩,fun b hb=>?_⟩
  ·exact m2.extBut _ _ (fun z=>hb (by simp [z])) (n5 b o (fun z=>hb (by simp [z])) q)
  ·have q:b=it:=by simpa using hb
   subst q
   rw [Al (Ne.symm hT)]
   exact (hf _ hb).1
 done:=by
  intro X hP hw hK hc i pins s σ H E I hf st hg
  subst hP hw hK
  obtain ⟨ha,hi⟩:=hg
  obtain ⟨ok,ov,he⟩:=st
  have oa:CG X.prog X.w H s.heap a (.frz o (.dK kvs)):=I.hok a _ ha
  obtain ⟨ho,_,_,vs,rel,ob,es',ep',ho',e2,e3,e4,e5,e6⟩:=oa
  rw [ho] at ho'
  cases ho'
  have eep:RP o=ep':=by unfold RP; rw [e3]
  have hda:s.heap.DictAt (Bu X.prog X.w) a vs (RP o):=⟨o,es',ho,e2,by rw [eep]; exact e3,e4,e5,e6⟩
  have hl:=rel.length
  rw [hl] at he
  exact wpAny_pyNext_items_end (I.ok.hd hc) he hda (List.getElem?_eq_none (by omega)) fun h1 eb=>⟨rfl,I.Li (t':=s.toks) (ch:=[it]) hf fun b o hb q=>eb b o (fun z=>hb (by simp [z])) q⟩
 self:=fun _ _ _ _ _ st h=>by
  obtain ⟨ok,ov,he⟩:=st
  exact PySem.W.kcp_self he h
noncomputable def X3 (td:TE):TI:=fun σ H R=>td σ H fun x H1=>∃ a o kvs,x=.ref a/\H1 a=some (.frz o (.dK kvs))/\R (jj a o kvs) H1
theorem SJ {X:Cx} {es:List Expr} {k1:Nat} {tpos apos cpos:Pos} {o:Expr} {td:TE} (ho:PE X o td)
  (hbase:attributeBase o "items" X.env (eval o X.env)=eval o X.env:=by rfl) (hline:(apos.endLine == cpos.line)=true:=by rfl):PI X (.Tuple es k1 tpos) (.Call (.Attribute o "items" apos) [] [] cpos) (X3 td):=by
 intro pins s σ H R I h
 refine wpAny_Call_method0_late hbase hline (Bv (ho pins s σ H _ I h) fun v s1 hq0=>?_)
 obtain ⟨x,H1,I1,r1,a,ob,kvs,ex,ea,q⟩:=hq0
 subst ex
 cases r1
 obtain ⟨t1,t2,t3⟩:=TF I1 (.inl ⟨kvs,.inr ⟨ob,ea⟩⟩)
 refine ⟨"dict","dict.items",PySem.F.plainAttrs_dict,PySem.F.slot_dict_items,PySem.F.type_dict_items,t1,t2,Calls.callWith_builtin rfl (PySem.evalArgs_none ?_)⟩
 have oa:CG X.prog X.w H1 s1.heap a (.frz ob (.dK kvs)):=I1.hok a _ ea
 obtain ⟨hob,_,_,vs,rel,ob',es',ep',ho',e2,e3,e4,e5,e6⟩:=oa
 rw [hob] at ho'
 cases ho'
 have eep:RP ob=ep':=by unfold RP; rw [e3]
 have hda:s1.heap.DictAt (Bu X.prog X.w) a vs (RP ob):=⟨ob,es',hob,e2,by rw [eep]; exact e3,e4,e5,e6⟩
 have hl:=rel.length
 refine call_meetsIn PySem.F.slot_dict_items t1 PySem.F.entry_dict_items (PySem.F.args_dict_items_1 _) (meets_dict_items (Bu X.prog X.w) a t3) ⟨⟨vs,hda.dictOf⟩,?_⟩
 have ha:a<s1.heap.objs.size:=Heap.lt_size hob
 refine wpAny_pyIter_items (v:=s1.heap.objs.size) (d:=a) (kvs:=vs) (ep:=RP ob) ⟨_,Heap.get?_push_size _ rfl,rfl,rfl⟩ (hda.push _) ?_
 have I2:=I1.kept (h':=s1.heap.push { cls:=.type "dict_items",data:=.fields #[.ref a] }) (t':=s1.toks) fun b o e=>Heap.get?_push_of_some _ e
 refine ⟨_,[_],_,_,H1,rfl,I2.kept (t':=s1.toks) fun b o e=>Heap.get?_push_of_some _ e,Ot a _ ob kvs ?_,⟨_,_,by rw [hl]; exact Heap.get?_push_size _ rfl⟩,fun b hb=>?_,q⟩
 ·rw [Heap.size_push]
  exact Nat.ne_of_lt (Nat.lt_succ_of_lt ha)
 ·have e:b=(s1.heap.push { cls:=.type "dict_items",data:=.fields #[.ref a] }).objs.size:=by simpa using hb
  subst e
  exact I2.Jq (Nat.le_refl _) (I2.hok.fresh (Nat.le_refl _))
section
variable {σ:St} {H1:Hp} {Q:VK} {tt:TT} {te:TE}
theorem Ol {K:PySem.W.Frag} {a:Addr} {o:Obj} {kvs:List (Key × V)} (p:Key × V->Bool) (f:Key × V->V) (hx:H1 a=some (.frz o (.dK kvs))) (hz:kvs.length<sizeLine)
  (ht:∀ kv∈kvs,∀ H,Ak H1 H->∀ R:Bool->Hp->Prop,(∀ H',Ak H H'->R (p kv) H')->tt (some (kV kv.1)::some kv.2::σ) H R)
  (he:∀ kv∈kvs,p kv=true->∀ H,Ak H1 H->∀ R:VK,(∀ H',Ak H H'->R (f kv) H')->te (some (kV kv.1)::some kv.2::σ) H R)
  (hq:∀ D H,H1 D=none->Ak H1 H->H D=some (.lst ((kvs.filter p).map f))->Q (.ref D) H):Ia (jj a o kvs) σ H1 Q (Nk K 2 (Gm (Cq 0) (Gm (Cq 1) RB))) tt te:=by
 intro D hD
 have s0:Ak H1 (upd H1 D (.lst [])):=fun b o e=>by rw [Al (Aj e hD)]; exact e
 refine ⟨fun i m zs H=>m=kvs.length - i/\i<=kvs.length/\zs=(((kvs.take i).filter p).map f)/\H D=some (.lst zs)/\Ak H1 H,⟨kvs.length,by simp,Nat.zero_le _,by simp,Af,s0⟩,?_⟩
 rintro i m zs H ⟨rfl,hi,rfl,hd,hs⟩
 by_cases hlt:i<kvs.length
 ·refine .inr ⟨⟨hs _ _ hx,hlt⟩,fun v H3 hv v0 v1=>?_⟩
  obtain ⟨T,kv,hT,rfl,qx,rfl⟩:=hv
  have hkm:=List.mem_of_getElem? qx
  have s3:Ak H (upd H T (.tup [kV kv.1,kv.2])):=fun b o e=>by rw [Al (Aj e hT)]; exact e
  have hlen:(((kvs.take i).filter p).map f).length<sizeLine:=by
   rw [List.length_map]
   refine Nat.lt_of_le_of_lt (List.length_filter_le _ _) (Nat.lt_of_le_of_lt ?_ hz)
   rw [List.length_take]; omega
  refine ⟨T,[kV kv.1,kv.2],rfl,.inl (.inl Af),rfl,_,[kv.2],rfl,kv.2,[],rfl,rfl,⟨_,_,rfl⟩,?_⟩
  refine ht kv hkm _ (hs.trans s3) _ fun H4 s4=>?_
  by_cases hp:p kv=true
  ·rw [if_pos hp]
   refine he kv hkm hp _ (hs.trans (s3.trans s4)) _ fun H5 s5=>?_
   refine ⟨s5 _ _ (s4 _ _ (s3 _ _ hd)),hlen,kvs.length - (i+1),by omega,rfl,hlt,?_,Af,fun b o e=>?_⟩
   ·rw [take_succ_filter p kvs i kv qx,if_pos hp,List.map_append]
    rfl
   ·rw [Al (Aj e hD)]
    exact s5 _ _ (s4 _ _ (s3 _ _ (hs _ _ e)))
  ·rw [if_neg hp]
   refine ⟨kvs.length - (i+1),by omega,rfl,hlt,?_,s4 _ _ (s3 _ _ hd),hs.trans (s3.trans s4)⟩
   rw [take_succ_filter p kvs i kv qx,if_neg hp,List.append_nil]
 ·have e:i=kvs.length:=by omega
  subst e
  rw [List.take_length] at hd
  exact .inl ⟨⟨hs _ _ hx,Nat.le_refl _⟩,hq D H hD hs hd⟩
end
end L2
namespace L2
open PySem PySem.Spec PyProof.Rows
section
variable {X:Cx}
end
end L2
namespace L2
open PySem PySem.Spec PySem.Calls PyProof.Rows
section
variable {X:Cx} {pins:List (Addr × Obj)} {σ:St} {H:Hp} {s:Shared} {x z y3:Str} {scope:Scope} {fp:List Addr} {C:Addr}
end
section
variable {X:Cx} {x z y3:Str} {scope:Scope}
end
section
variable {X:Cx} {x z y3:Str} {scope:Scope}
end
section
variable {X:Cx} {x z y3:Str} {scope:Scope}
end
section
variable {σ:St} {H1:Hp} {Q:VK} {tt:TT} {te:TE}
end
end L2
namespace Bw
noncomputable abbrev Tr:=Int × Int × Int
noncomputable abbrev Dr:=List Tr
noncomputable def Chain:Int->Dr->Prop
 | _,[]=>True
 | t,x::r=>x.1=t/\x.1<x.2.1/\Chain x.2.1 r
noncomputable def cnt (x:Tr):Nat:=(x.2.1 - x.1).toNat
noncomputable def tk (P:Int):Dr->List Int
 | []=>[]
 | x::r=>List.replicate (cnt x) (x.2.2 - P)++tk P r
noncomputable def stp (e x:Int):Int:=max 0 (e+x)
noncomputable def EF (e:Int) (W:List Int):Int:=W.foldl stp e
noncomputable abbrev E (W:List Int):Int:=EF 0 W
structure lN (W:List Int) (b0 b1 b2 taken since:Int):Prop where
 e:E W=max 0 taken
 le:∀ t,t<=W.length->E (W.take t)<=b0
 s0:0<=since
 s1:since<=W.length
 tk:taken=W.sum - (W.take since.toNat).sum
 b:(b0=0/\b1=0/\b2=0) \/ (0<b0/\0<=b1/\b1<b2/\b2<=W.length/\b0=(W.take b2.toNat).sum - (W.take b1.toNat).sum/\E (W.take b2.toNat)=b0)
noncomputable def fl (cap:Int):Int->List Int->Option Nat
 | _,[]=>none
 | e,x::r=>if e+x > cap then some 0 else (fl cap (stp e x) r).map (· + 1)
noncomputable def good (cap e x:Int) (c:Nat):Int:=if cap - e - x<0 then 0 else if -x ≥ 0 then (c:Int) else min (c:Int) ((cap - e) / x)
noncomputable def ps:Int->List Int->List Int
 | s,[]=>[s]
 | s,x::r=>s::ps (s+x) r
structure lJ (W:List Int) (t:Nat) (low due:Int):Prop where
 e:(W.take t).sum - low=E (W.take t)
 le:∀ s,s<=t->E (W.take s)<=due
 ex:∃ s,s<=t/\E (W.take s)=due
end Bw
namespace Bw
end Bw
namespace Bw
noncomputable def ov (f b:Int) (x:Tr):Int:=max 0 (min x.2.1 b - max x.1 f)
end Bw
namespace Bw
end Bw
namespace Bw
end Bw
namespace Bw
end Bw
namespace Bw
open PySem L2 Og
theorem MK (ns:List Int) (lo hi:Option Int):∃ ms:List Int,Ef (ns.map V.int) lo hi=ms.map V.int/\ms.length<=ns.length:=by
 unfold Ef
 refine ⟨(ns.drop (HT.Dt (ns.map V.int).length 0 lo)).take (HT.Dt (ns.map V.int).length (ns.map V.int).length hi - HT.Dt (ns.map V.int).length 0 lo),?_,?_⟩
 ·rw [← List.map_drop,← List.map_take]
 ·rw [List.length_take,List.length_drop]
  omega
theorem Le {ns:List Int} {i:Int} (h0:0<=i) (h1:i<ns.length):∃ c,ns[i.toNat]? = some c/\c∈ns/\Ly (ns.map V.int) i=some (.int c):=by
 have hlt:i.toNat<ns.length:=by omega
 refine ⟨ns[i.toNat],List.getElem?_eq_getElem hlt,List.getElem_mem hlt,?_⟩
 have e:(ns.map V.int)[i.toNat]? = some (.int ns[i.toNat]):=by rw [List.getElem?_map,List.getElem?_eq_getElem hlt]; rfl
 have:=Ag e
 rw [show ((i.toNat:Nat):Int)=i by omega] at this
 exact this
theorem Ss {n:Nat} {i:Int} (h0:0<=i) (h1:i<n):RG n i=some i.toNat:=by unfold RG; rw [if_pos h0,if_pos h1]
noncomputable abbrev jy (x:Tr):List V:=[.int x.1,.int x.2.1,.int x.2.2]
structure dw (H:Hp) (a:Addr) (d:Dr) (ys:List V):Prop where
 l:H a=some (.lst ys)
 p:Paired (fun x v=>TupAt H (jy x) v) d ys
noncomputable def Bd (d:Dr):Prop:=∀ x∈d,0<=x.2.2/\x.2.2<2 ^ 41/\x.2.1 - x.1<2 ^ 35
noncomputable def DH (H:Hp) (dh pc:Addr) (n:Nat):Prop:=∃ (cs:List Int) (m r:Int),H dh=some (.lst [.ref pc,.int m,.int r,.int (n:Int)])/\H pc=some (.lst (cs.map V.int))/\dh ≠ pc/\(∀ c∈cs,0<=c)/\0<=m/\m<=cs.length/\0<=r/\r<2147483647/\cs.length<=64
noncomputable def bM (H H':Hp) (dh pc:Addr):Prop:=∀ b,b ≠ dh->b ≠ pc->H' b=H b
theorem DH.same {H H':Hp} {dh pc:Addr} {n:Nat} (D:DH H dh pc n) (s:Ak H H'):DH H' dh pc n:=by
 obtain ⟨cs,m,r,e1,e2,e3⟩:=D
 exact ⟨cs,m,r,s _ _ e1,s _ _ e2,e3⟩
theorem DH.upd {H:Hp} {dh pc l:Addr} {n:Nat} {o:HO} (D:DH H dh pc n) (h1:l ≠ dh) (h2:l ≠ pc):DH (upd H l o) dh pc n:=by
 obtain ⟨cs,m,r,e1,e2,e3⟩:=D
 exact ⟨cs,m,r,by rw [Al (Ne.symm h1)]; exact e1,by rw [Al (Ne.symm h2)]; exact e2,e3⟩
noncomputable def VB (K:PySem.W.Frag):Sp:=fun vs H Q _=>∃ (a:Addr) (k:Nat) (ns:List Int),vs=[.ref a,.int (k:Nat)]/\Cg K H a (ns.map V.int)/\∀ c,Q (.int c) H
noncomputable def Qq:Sp:=fun vs H Q _=>∃ (x:V) (b:Bool),vs=[x]/\((∃ i,x=.int i/\b=true) \/ (x=.non/\b=false))/\Q (.bl b) H
noncomputable def bT (K:PySem.W.Frag):Sp:=fun vs H Q _=>∃ (a:Addr) (st:Int) (ns:List Int),vs=[.ref a,.int st]/\Cg K H a (ns.map V.int)/\0<=st/\st<2147483647/\ns.length<=63/\∀ dh pc H',H dh=none->H pc=none->Ak H H'->DH H' dh pc 0->Q (.ref dh) H'
noncomputable def VH:Sp:=fun vs H Q _=>∃ (dh pc:Addr) (n:Nat) (many:Int),vs=[.ref dh,.int many]/\DH H dh pc n/\n<1000000/\0<many/\many<1073741824/\∀ (r:Int) H',0<=r->r<many->DH H' dh pc (n+1)->bM H H' dh pc->Q (.int r) H'
noncomputable def We:Sp:=fun vs H Q _=>∃ (a:Addr) (d:Dr) (ys:List V) (P:Int),vs=[.ref a,.int P]/\dw H a d ys/\Chain 0 d/\Bd d/\d.length<=1000 /\
 ∀ p b0 b1 b2 taken since H',Ak H H'->H' p=some (.tup [.int b0,.int b1,.int b2])->lN (tk P d) b0 b1 b2 taken since->Q (.ref p) H'
noncomputable def Rp:Sp:=fun vs H Q _=>∃ (l:Addr) (d:Dr) (ys:List V) (P cap T:Int),vs=[.ref l,.int P,.int cap,.int T]/\dw H l d ys/\Chain 0 d/\Bd d/\d.length<=100/\0<=P/\P<2 ^ 60/\0<=cap/\0<=T/\T<(tk P d).length /\
 ∀ H',Ak H H'->Q (.bl true) H'
noncomputable def Mj (K:PySem.W.Frag):Sp:=fun vs H Q _=>∃ (a:Addr) (ns:List Int),vs=[.ref a]/\Cg K H a (ns.map V.int)/\ns.length<=63/\∀ H',Q (.bl true) H'
end Bw
namespace L2
open PySem PySem.Spec PyProof.Rows
section
variable {X:Cx} {o e f:Expr} {apos cpos:Pos} {td ty tx:TE}
end
end L2
namespace L2
open PySem PySem.Spec PyProof.Rows
theorem BW {X:Cx} {x:Str} {e:Expr} {te:TE} {pos' pos:Pos} (i:Nat) (hN:X.N.Nodup) (hi:X.N[i]? = some x) (hx:Loc X.env.scope x) (he:PE X e te) (hs:swapsWith e (some (.Name x pos')) pos.line X.env=pure false) (hf:X.fn x=true \/ X.env.scope.names.lookup x=some .local) :
  PS X (.Assign [.Name x pos'] e pos) (Rr te (Cq i)):=Bq hN hi hx he hs hf
end L2
namespace L2
open PySem PySem.Spec PyProof.Rows
theorem Az {X:Cx} {e:Expr} {es:List Expr} {te:TE} {t:TA} (h:starEach (e::es) X.env=(false,eval e X.env)::starEach es X.env) (he:PE X e te) (ht:PA X es t):PA X (e::es) (V6 te t):=Aa he ht h
end L2
namespace L2
open PySem PySem.Spec PyProof.Rows
end L2
namespace Og
open PySem L2 PyProof.Rows
variable {K:PySem.W.Frag}
structure Nj (K:PySem.W.Frag) (aB aP aM:Addr):Prop where
 f:KF K aB aP aM
 pR:∃ a,PySem.W.nsIn K aP "rank" = some (some (.ref a))/\KTup K a (["new","pipes","wind"].map fun s:String=>V.str s)
 pL:∃ a,PySem.W.nsIn K aP "line" = some (some (.ref a))/\KTup K a (["rank","shift","low","high"].map fun s:String=>V.str s)
 bP:∃ a,PySem.W.nsIn K aB "pipes" = some (some (.ref a))/\KTup K a [.int 1,.int 97]
 bW:∃ a,PySem.W.nsIn K aB "wind" = some (some (.ref a))/\KTup K a [.int 0,.int 1000000000]
 bS:∃ a,PySem.W.nsIn K aB "shift" = some (some (.ref a))/\KTup K a [.int (-200),.int 200]
 bLo:∃ a,PySem.W.nsIn K aB "low" = some (some (.ref a))/\KTup K a [.int 0,.int 60]
 bHi:∃ a,PySem.W.nsIn K aB "high" = some (some (.ref a))/\KTup K a [.int 0,.int 60]
 bR:PySem.W.nsIn K aB "rank" = some none
 mR:∃ t,PySem.W.nsIn K aM "rank" = some (some (.int 12 t))
 mL:PySem.W.nsIn K aM "line" = some none
section
variable {aB aP aM:Addr} {ρ:V->R} {vs:List V} {wn:List (Str × Str)} {t:Str}
theorem O7 {r:R} (h:Kp K aB aP aM ρ vs r) (hb:FP ρ vs):Gv K aB aP aM ρ vs r:=⟨h.ns,h.parts,.inr h.room,fun z=>absurd z h.nl,hb⟩
theorem Qk (F:KF K aB aP aM) {wd:Str} (hw:wd = "stop" \/ wd = "mute") (e:G4 ρ vs=wn) (ht:isNm t) (h:∀ w∈named,Px wn w t=false) (hc:Ub wn wd<Gu wd) {a:Str} (ha:isNm a) (ha':Px wn "board" a=true):Kp K aB aP aM ρ vs ⟨wd,t,[.str a]⟩:=by
 have parts:∀ (j:Nat) x (y:Str),[V.str t,.str a][j]? = some x->(["new","board"]:List Str)[j]? = some y->HN K aB ρ vs x y:=fun j x y hx hy=>by
  match j,hx,hy with
  | 0,hx,hy =>
   cases (Option.some.inj hx)
   cases (Option.some.inj hy)
   exact Hx F e ht h
  | 1,hx,hy =>
   cases (Option.some.inj hx)
   cases (Option.some.inj hy)
   exact Hj F e ha ha'
  | j+2,hx,hy=>simp at hy
 have hcnt:=HX ρ vs wd
 rw [e] at hcnt
 rcases hw with rfl | rfl
 ·obtain ⟨ap,g1,g2⟩:=F.pS
  obtain ⟨tk,g5⟩:=F.mS
  have hm:Gu "stop" = 24:=by decide +kernel
  refine ⟨by show ¬ ("stop" : Str) = "step"; decide +kernel,by show ¬ ("stop" : Str) = "line"; decide +kernel,⟨ap,["new","board"],g1,g2,rfl,by decide,parts⟩,⟨24,tk,g5,?_⟩⟩
  show (((vs.filter (pw ρ "stop")).length:Nat):Int)<24
  omega
 ·obtain ⟨ap,g1,g2⟩:=F.pM
  obtain ⟨tk,g5⟩:=F.mM
  have hm:Gu "mute" = 5:=by decide +kernel
  refine ⟨by show ¬ ("mute" : Str) = "step"; decide +kernel,by show ¬ ("mute" : Str) = "line"; decide +kernel,⟨ap,["new","board"],g1,g2,rfl,by decide,parts⟩,⟨5,tk,g5,?_⟩⟩
  show (((vs.filter (pw ρ "mute")).length:Nat):Int)<5
  omega
theorem QS (F:Nj K aB aP aM) (e:G4 ρ vs=wn) (ht:isNm t) (h:∀ w∈named,Px wn w t=false) (hc:Ub wn "rank" < 12) {n:Nat} {wi:Int} (h1:1<=n) (h2:n<=97) (h3:0<=wi) (h4:wi<=1000000000) (hb:FP ρ vs):Gv K aB aP aM ρ vs (Er (t,n,wi)):=by
 obtain ⟨ap,g1,g2⟩:=F.pR
 obtain ⟨ab,g3,g4⟩:=F.bP
 obtain ⟨aw,g6,g7⟩:=F.bW
 obtain ⟨tk,g5⟩:=F.mR
 refine ⟨by show ¬ ("rank" : Str) = "step"; decide +kernel,⟨ap,["new","pipes","wind"],g1,g2,rfl,by decide,fun j x y hx hy=>?_⟩,.inr ⟨12,tk,g5,?_⟩,fun z=>absurd z (by show ¬ ("rank" : Str) = "line"; decide +kernel),hb⟩
 ·match j,hx,hy with
  | 0,hx,hy =>
   cases (Option.some.inj hx)
   cases (Option.some.inj hy)
   exact Hx F.f e ht h
  | 1,hx,hy =>
   cases (Option.some.inj hx)
   cases (Option.some.inj hy)
   exact .inl ⟨((n:Nat):Int),1,97,ab,rfl,g3,g4,by omega,by omega⟩
  | 2,hx,hy =>
   cases (Option.some.inj hx)
   cases (Option.some.inj hy)
   exact .inl ⟨_,0,1000000000,aw,rfl,g6,g7,h3,h4⟩
  | j+3,hx,hy=>simp at hy
 ·rw [HX,e]
  show ((Ub wn "rank" : Nat):Int)<12
  omega
theorem Qy (F:Nj K aB aP aM) (e:G4 ρ vs=wn) (ht:isNm t) (h:Px wn "rank" t=true) {sh lo hi:Int} (b1 : -200<=sh) (b2:sh<=200) (b3:0<=lo) (b4:lo<=60) (b5:0<=hi) (b6:hi<=60) (hb:FP ρ vs) (hl:Nz ρ vs ⟨"line",t,[.int sh,.int lo,.int hi]⟩):Gv K aB aP aM ρ vs ⟨"line",t,[.int sh,.int lo,.int hi]⟩:=by
 obtain ⟨ap,g1,g2⟩:=F.pL
 obtain ⟨a1,g3,g4⟩:=F.bS
 obtain ⟨a2,g5,g6⟩:=F.bLo
 obtain ⟨a3,g7,g8⟩:=F.bHi
 refine ⟨by show ¬ ("line" : Str) = "step"; decide +kernel,⟨ap,["rank","shift","low","high"],g1,g2,rfl,by decide,fun j x y hx hy=>?_⟩,.inl ⟨rfl,F.mL⟩,fun _=>hl,hb⟩
 match j,hx,hy with
 | 0,hx,hy =>
  cases (Option.some.inj hx)
  cases (Option.some.inj hy)
  exact .inr (.inr ⟨F.bR,by decide +kernel,_,rfl,ht,by rw [Iw,e]; exact h⟩)
 | 1,hx,hy =>
  cases (Option.some.inj hx)
  cases (Option.some.inj hy)
  exact .inl ⟨_,-200,200,a1,rfl,g3,g4,b1,b2⟩
 | 2,hx,hy =>
  cases (Option.some.inj hx)
  cases (Option.some.inj hy)
  exact .inl ⟨_,0,60,a2,rfl,g5,g6,b3,b4⟩
 | 3,hx,hy =>
  cases (Option.some.inj hx)
  cases (Option.some.inj hy)
  exact .inl ⟨_,0,60,a3,rfl,g7,g8,b5,b6⟩
 | j+4,hx,hy=>simp at hy
end
structure HJ (K:PySem.W.Frag) (aB aP aM:Addr) (ρ:V->R) (us:List V) (bs:List (Str × Nat)) (rk:List (Str × Nat × Int)) (ks:List R):Prop where
 kinds:∀ v∈us,(ρ v).w = "board" \/ (ρ v).w = "rank" \/ (ρ v).w = "line" \/ (ρ v).w = "stop" \/ (ρ v).w = "coupler" \/ (ρ v).w = "mute"
 eb:(us.filter (pw ρ "board")).map ρ=bs.map FT
 er:(us.filter (pw ρ "rank")).map ρ=rk.map Er
 ek:(us.filter (fun v=>Iv (ρ v).w)).map ρ=ks
 ln:∀ (i:Nat) v,us[i]? = some v->(ρ v).w = "line"->(∃ (j:Nat) (r:Str × Nat × Int) (sh lo hi:Int),rk[j]? = some r/\r.1=(ρ v).nm/\(ρ v).rest=[.int sh,.int lo,.int hi])/\∃ u∈us.take i,Iv (ρ u).w=true
 ok:∀ (i:Nat) v,us[i]? = some v->Gv K aB aP aM ρ (us.take i) (ρ v)
section
variable {aB aP aM:Addr} {ρ:V->R} {us:List V} {v:V} {bs bs':List (Str × Nat)} {rk rk':List (Str × Nat × Int)} {ks ks':List R}
theorem Lq {w t:Str}:V8 ρ us w t=true ↔ ∃ v∈us,(ρ v).w=w/\(ρ v).nm=t:=by
 unfold V8
 rw [List.any_eq_true]
 constructor
 ·rintro ⟨v,hv,hn⟩
  obtain ⟨h1,h2⟩:=List.mem_filter.mp hv
  exact ⟨v,h1,V.str.inj (of_decide_eq_true h2),V.str.inj (of_decide_eq_true hn)⟩
 ·rintro ⟨v,hv,h1,h2⟩
  exact ⟨v,List.mem_filter.mpr ⟨hv,decide_eq_true (congrArg V.str h1)⟩,decide_eq_true (congrArg V.str h2)⟩
theorem HJ.nil:HJ K aB aP aM ρ [] [] [] []:=⟨(fun _ h=>nomatch h),rfl,rfl,rfl,(fun i v h=>by simp at h),(fun i v h=>by simp at h)⟩
theorem HJ.WN (h:HJ K aB aP aM ρ us bs rk ks) (hv:v∈us) (hw:(ρ v).w = "board"):∃ b∈bs,FT b=ρ v:=by
 have:ρ v∈(us.filter (pw ρ "board")).map ρ:=List.mem_map_of_mem (List.mem_filter.mpr ⟨hv,decide_eq_true (congrArg V.str hw)⟩)
 rw [h.eb] at this
 exact List.mem_map.mp this
theorem HJ.Zq (h:HJ K aB aP aM ρ us bs rk ks) (hv:v∈us) (hw:(ρ v).w = "rank"):∃ b∈rk,Er b=ρ v:=by
 have:ρ v∈(us.filter (pw ρ "rank")).map ρ:=List.mem_map_of_mem (List.mem_filter.mpr ⟨hv,decide_eq_true (congrArg V.str hw)⟩)
 rw [h.er] at this
 exact List.mem_map.mp this
theorem HJ.Sq (h:HJ K aB aP aM ρ us bs rk ks) (hv:v∈us) (hw:Iv (ρ v).w=true):ρ v∈ks:=by
 have:ρ v∈(us.filter (fun v=>Iv (ρ v).w)).map ρ:=List.mem_map_of_mem (List.mem_filter.mpr ⟨hv,hw⟩)
 rw [h.ek] at this
 exact this
theorem HJ.Yg (h:HJ K aB aP aM ρ us bs rk ks):FP ρ us:=fun v hv hw=>by
 obtain ⟨b,_,e⟩:=h.WN hv hw
 exact ⟨_,by rw [← e]⟩
theorem HJ.WW (h:HJ K aB aP aM ρ us bs rk ks) {b:Str × Nat} (hb:b∈bs):∃ v∈us,ρ v=FT b:=by
 have:FT b∈(us.filter (pw ρ "board")).map ρ:=by rw [h.eb]; exact List.mem_map_of_mem hb
 obtain ⟨v,hv,e⟩:=List.mem_map.mp this
 exact ⟨v,(List.mem_filter.mp hv).1,e⟩
theorem HJ.aO (h:HJ K aB aP aM ρ us bs rk ks) {r:Str × Nat × Int} (hr:r∈rk):∃ v∈us,ρ v=Er r:=by
 have:Er r∈(us.filter (pw ρ "rank")).map ρ:=by rw [h.er]; exact List.mem_map_of_mem hr
 obtain ⟨v,hv,e⟩:=List.mem_map.mp this
 exact ⟨v,(List.mem_filter.mp hv).1,e⟩
theorem HJ.Nv (h:HJ K aB aP aM ρ us bs rk ks) {b:Str × Nat} (hb:b∈bs):Px (G4 ρ us) "board" b.1=true:=by
 obtain ⟨v,hv,e⟩:=h.WW hb
 rw [← Iw,Lq]
 exact ⟨v,hv,by rw [e],by rw [e]⟩
theorem HJ.Xp (h:HJ K aB aP aM ρ us bs rk ks) {r:Str × Nat × Int} (hr:r∈rk):Px (G4 ρ us) "rank" r.1=true:=by
 obtain ⟨v,hv,e⟩:=h.aO hr
 rw [← Iw,Lq]
 exact ⟨v,hv,by rw [e],by rw [e]⟩
theorem Js {w:Str} (h:w = "stop" \/ w = "coupler" \/ w = "mute"):Iv w=true:=by rcases h with rfl | rfl | rfl <;> decide +kernel
theorem HJ.fresh (h:HJ K aB aP aM ρ us bs rk ks) {t:Str} (hb:∀ b∈bs,b.1 ≠ t) (hr:∀ r∈rk,r.1 ≠ t) (hk:∀ k∈ks,k.nm ≠ t):∀ w∈named,Px (G4 ρ us) w t=false:=by
 intro w hw
 rw [← Iw,← Bool.not_eq_true,Lq]
 rintro ⟨v,hv,hw',hn⟩
 simp only [List.mem_cons,List.mem_singleton,List.not_mem_nil,or_false] at hw
 rcases hw with rfl | rfl | rfl | rfl | rfl
 ·obtain ⟨b,hb',e⟩:=h.WN hv hw'
  exact hb b hb' (by rw [← hn,← e])
 ·obtain ⟨b,hb',e⟩:=h.Zq hv hw'
  exact hr b hb' (by rw [← hn,← e])
 ·exact hk _ (h.Sq hv (Js (.inl hw'))) hn
 ·exact hk _ (h.Sq hv (Js (.inr (.inl hw')))) hn
 ·exact hk _ (h.Sq hv (Js (.inr (.inr hw')))) hn
theorem HJ.dY (h:HJ K aB aP aM ρ us bs rk ks):Ub (G4 ρ us) "board" = bs.length:=by
 rw [← HX,← List.length_map (f:=ρ),h.eb,List.length_map]
theorem HJ.Z5 (h:HJ K aB aP aM ρ us bs rk ks):Ub (G4 ρ us) "rank" = rk.length:=by
 rw [← HX,← List.length_map (f:=ρ),h.er,List.length_map]
theorem HJ.V5 (h:HJ K aB aP aM ρ us bs rk ks) {w:Str} (hw:w = "stop" \/ w = "coupler" \/ w = "mute"):Ub (G4 ρ us) w=(ks.filter fun r=>decide (V.str r.w=V.str w)).length:=by
 rw [← HX,← h.ek,List.filter_map,List.length_map,List.filter_filter]
 refine congrArg List.length (List.filter_congr fun v _=>?_)
 show pw ρ w v=(pw ρ w v && Iv (ρ v).w)
 by_cases e:(ρ v).w=w
 ·rw [Js (by rw [e]; exact hw),Bool.and_true]
 ·have:pw ρ w v=false:=decide_eq_false fun z=>e (V.str.inj z)
  rw [this,Bool.false_and]
theorem HJ.snoc (h:HJ K aB aP aM ρ us bs rk ks) (hk:(ρ v).w = "board" \/ (ρ v).w = "rank" \/ (ρ v).w = "line" \/ (ρ v).w = "stop" \/ (ρ v).w = "coupler" \/ (ρ v).w = "mute")
  (eb:((us++[v]).filter (pw ρ "board")).map ρ=bs'.map FT) (er:((us++[v]).filter (pw ρ "rank")).map ρ=rk'.map Er) (ek:((us++[v]).filter (fun v=>Iv (ρ v).w)).map ρ=ks')
  (hr:∀ (j:Nat) r,rk[j]? = some r->rk'[j]? = some r)
  (hl:(ρ v).w = "line"->(∃ (j:Nat) (r:Str × Nat × Int) (sh lo hi:Int),rk'[j]? = some r/\r.1=(ρ v).nm/\(ρ v).rest=[.int sh,.int lo,.int hi])/\∃ u∈us,Iv (ρ u).w=true)
  (ok:Gv K aB aP aM ρ us (ρ v)):HJ K aB aP aM ρ (us++[v]) bs' rk' ks':=by
 have at_:∀ {i:Nat} {u:V},(us++[v])[i]? = some u->us[i]? = some u/\(us++[v]).take i=us.take i \/ u=v/\(us++[v]).take i=us:=fun {i u} hi=>by
  by_cases hlt:i<us.length
  ·rw [List.getElem?_append_left hlt] at hi
   exact .inl ⟨hi,List.take_append_of_le_length (Nat.le_of_lt hlt)⟩
  ·have h2:=(List.getElem?_eq_some_iff.mp hi).1
   rw [List.length_append,List.length_singleton] at h2
   have hil:i=us.length:=by omega
   subst hil
   rw [List.getElem?_append_right (Nat.le_refl _),Nat.sub_self] at hi
   exact .inr ⟨(Option.some.inj hi).symm,by rw [List.take_append_of_le_length (Nat.le_refl _),List.take_length]⟩
 refine ⟨fun u hu=>?_,eb,er,ek,fun i u hi hw=>?_,fun i u hi=>?_⟩
 ·rcases List.mem_append.mp hu with h' | h'
  ·exact h.kinds u h'
  ·rw [List.mem_singleton.mp h']
   exact hk
 ·rcases at_ hi with ⟨h1,h2⟩ | ⟨rfl,h2⟩
  ·rw [h2]
   obtain ⟨⟨j,r,sh,lo,hi',g1,g2,g3⟩,g4⟩:=h.ln i u h1 hw
   exact ⟨⟨j,r,sh,lo,hi',hr j r g1,g2,g3⟩,g4⟩
  ·rw [h2]
   exact hl hw
 ·rcases at_ hi with ⟨h1,h2⟩ | ⟨rfl,h2⟩
  ·rw [h2]
   exact h.ok i u h1
  ·rw [h2]
   exact ok
theorem Jr {p:V->Bool} (h:p v=true):(us++[v]).filter p=us.filter p++[v]:=by
 rw [List.filter_append,List.filter_cons,if_pos h]
 rfl
theorem En {p:V->Bool} (h:p v=false):(us++[v]).filter p=us.filter p:=by
 rw [List.filter_append,List.filter_cons,if_neg (by rw [h]; decide)]
 simp
end
structure GC (K:PySem.W.Frag) (aB aP aM:Addr) (rows:List R) (bs:List (Str × Nat)) (rk:List (Str × Nat × Int)) (ks:List R) (ls:List (List Ln)):Prop where
 ok:∀ (ρ:V->R) (us:List V),us.map ρ=rows->HJ K aB aP aM ρ us bs rk ks
 ln0:ks=[]->∀ rk',linesOf rk' rows=[]
 ln:linesOf rk rows=ls
section
variable {aB aP aM:Addr} {rows:List R} {bs:List (Str × Nat)} {rk:List (Str × Nat × Int)} {ks:List R} {ls:List (List Ln)}
theorem GC.nil:GC K aB aP aM [] [] [] [] []:=⟨fun ρ us e=>by rw [List.map_eq_nil_iff.mp e]; exact HJ.nil,fun _ _=>rfl,rfl⟩
theorem Je {ρ:V->R} {us:List V} {r:R} (e:us.map ρ=rows++[r]):∃ us' v,us=us'++[v]/\us'.map ρ=rows/\ρ v=r:=by
 obtain ⟨a,b,rfl,h1,h2⟩:=List.map_eq_append_iff.mp e
 obtain ⟨v,l,rfl,h3,h4⟩:=List.map_eq_cons_iff.mp h2
 rw [List.map_eq_nil_iff.mp h4]
 exact ⟨a,v,rfl,h1,h3⟩
theorem GC.Kv (F:Nj K aB aP aM) (h:GC K aB aP aM rows bs [] [] []) {t:Str} {n:Nat} (ht:isNm t) (hf:∀ b∈bs,b.1 ≠ t) (hb:bs.length<5) (h1:1<=n) (h2:n<=61):GC K aB aP aM (rows++[FT (t,n)]) (bs++[(t,n)]) [] [] []:=by
 refine ⟨fun ρ us e=>?_,fun _ rk'=>?_,?_⟩
 ·obtain ⟨us',v,rfl,e',hv⟩:=Je e
  have O:=h.ok ρ us' e'
  refine O.snoc (.inl (by rw [hv])) ?_ ?_ ?_ (fun _ _ h=>h) (fun z=>absurd (hv ▸ z) (by show ¬ ("board" : Str) = "line"; decide +kernel)) ?_
  ·rw [Jr (by unfold pw; rw [hv]; exact decide_eq_true rfl),List.map_append,O.eb,List.map_append,List.map_singleton,hv]
   rfl
  ·rw [En (by unfold pw; rw [hv]; show decide (V.str "board" = V.str "rank")=false; decide +kernel),O.er]
  ·rw [En (by rw [hv]; show Iv "board" = false; decide +kernel),O.ek]
  ·rw [hv]
   exact O7 (QL F.f rfl ht (O.fresh hf (fun _ z=>nomatch z) (fun _ z=>nomatch z)) (by rw [O.dY]; exact hb) h1 h2) O.Yg
 ·rw [CQ,h.ln0 rfl rk']
  rfl
 ·rw [CQ,h.ln0 rfl []]
  rfl
theorem GC.rank (F:Nj K aB aP aM) (h:GC K aB aP aM rows bs rk [] []) {t:Str} {n:Nat} {wi:Int} (ht:isNm t) (hf:∀ b∈bs,b.1 ≠ t) (hr:∀ r∈rk,r.1 ≠ t) (hc:rk.length<12) (h1:1<=n) (h2:n<=97) (h3:0<=wi) (h4:wi<=1000000000):GC K aB aP aM (rows++[Er (t,n,wi)]) bs (rk++[(t,n,wi)]) [] []:=by
 refine ⟨fun ρ us e=>?_,fun _ rk'=>?_,?_⟩
 ·obtain ⟨us',v,rfl,e',hv⟩:=Je e
  have O:=h.ok ρ us' e'
  refine O.snoc (.inr (.inl (by rw [hv]))) ?_ ?_ ?_ (fun j r h=>by rw [List.getElem?_append_left (List.getElem?_eq_some_iff.mp h).1]; exact h) (fun z=>absurd (hv ▸ z) (by show ¬ ("rank" : Str) = "line"; decide +kernel)) ?_
  ·rw [En (by unfold pw; rw [hv]; show decide (V.str "rank" = V.str "board")=false; decide +kernel),O.eb]
  ·rw [Jr (by unfold pw; rw [hv]; exact decide_eq_true rfl),List.map_append,O.er,List.map_append,List.map_singleton,hv]
   rfl
  ·rw [En (by rw [hv]; show Iv "rank" = false; decide +kernel),O.ek]
  ·rw [hv]
   exact QS F rfl ht (O.fresh hf hr (fun _ z=>nomatch z)) (by rw [O.Z5]; exact hc) h1 h2 h3 h4 O.Yg
 ·rw [CQ,h.ln0 rfl rk']
  rfl
 ·rw [CQ,h.ln0 rfl _]
  rfl
theorem GC.Vu (h:GC K aB aP aM rows bs rk ks ls) {r:R} (hw:r.w = "stop" \/ r.w = "coupler" \/ r.w = "mute") (hr:∀ (ρ:V->R) (us:List V),us.map ρ=rows->Kp K aB aP aM ρ us r):GC K aB aP aM (rows++[r]) bs rk (ks++[r]) (ls++[[]]):=by
 have hK:=Js hw
 refine ⟨fun ρ us e=>?_,fun z=>by simp at z,?_⟩
 ·obtain ⟨us',v,rfl,e',hv⟩:=Je e
  have O:=h.ok ρ us' e'
  refine O.snoc (.inr (.inr (.inr (by rw [hv]; exact hw)))) ?_ ?_ ?_ (fun _ _ h=>h) (fun z=>?_) ?_
  ·rw [En (by unfold pw; rw [hv]; rcases hw with e | e | e <;> rw [e] <;> decide +kernel),O.eb]
  ·rw [En (by unfold pw; rw [hv]; rcases hw with e | e | e <;> rw [e] <;> decide +kernel),O.er]
  ·rw [Jr (by rw [hv]; exact hK),List.map_append,O.ek,List.map_singleton,hv]
  ·rw [hv] at z
   rcases hw with e | e | e <;> rw [e] at z <;> exact absurd z (by decide +kernel)
  ·rw [hv]
   exact O7 (hr ρ us' e') O.Yg
 ·rw [CQ,h.ln]
  unfold Fq
  rw [if_pos hK]
theorem GC.Vi (F:Nj K aB aP aM) (h:GC K aB aP aM rows bs rk ks ls) {t a b:Str} {n m:Nat} {s:Int} (ht:isNm t) (hb:∀ b∈bs,b.1 ≠ t) (hr:∀ r∈rk,r.1 ≠ t) (hk:∀ k∈ks,k.nm ≠ t) (hc:(ks.filter fun r=>decide (V.str r.w=V.str "coupler")).length<12) (ha:isNm a) (ha':(a,n)∈bs) (hb1:isNm b) (hb':(b,m)∈bs) (h1 : -60<=s) (h2:s<=60) :
  GC K aB aP aM (rows++[⟨"coupler",t,[.str a,.str b,.int s]⟩]) bs rk (ks++[⟨"coupler",t,[.str a,.str b,.int s]⟩]) (ls++[[]]) :=
 h.Vu (.inr (.inl rfl)) fun ρ us e=>by
  have O:=h.ok ρ us e
  exact Ls F.f rfl ht (O.fresh hb hr hk) (by rw [O.V5 (.inr (.inl rfl))]; exact hc) ha (O.Nv ha') hb1 (O.Nv hb') h1 h2
theorem GC.plain (F:Nj K aB aP aM) (h:GC K aB aP aM rows bs rk ks ls) {wd t a:Str} {n:Nat} (hw:wd = "stop" \/ wd = "mute") (ht:isNm t) (hb:∀ b∈bs,b.1 ≠ t) (hr:∀ r∈rk,r.1 ≠ t) (hk:∀ k∈ks,k.nm ≠ t) (hc:(ks.filter fun r=>decide (V.str r.w=V.str wd)).length<Gu wd) (ha:isNm a) (ha':(a,n)∈bs) :
  GC K aB aP aM (rows++[⟨wd,t,[.str a]⟩]) bs rk (ks++[⟨wd,t,[.str a]⟩]) (ls++[[]]):=by
 have hw3:wd = "stop" \/ wd = "coupler" \/ wd = "mute":=by rcases hw with e | e; exact .inl e; exact .inr (.inr e)
 exact h.Vu hw3 fun ρ us e=>by
  have O:=h.ok ρ us e
  exact Qk F.f hw rfl ht (O.fresh hb hr hk) (by rw [O.V5 hw3]; exact hc) ha (O.Nv ha')
noncomputable def Tl (rows:List R) (bd:Str) (cnt:Nat):Prop:=∃ (r0:List R) (st:R) (lr:List R),rows=r0++st::lr/\st.w = "stop" /\ st.rest=[.str bd]/\lr.length=cnt/\∀ r∈lr,r.w = "line"
theorem Tl.stop (rows:List R) (t bd:Str):Tl (rows++[⟨"stop",t,[.str bd]⟩]) bd 0:=⟨rows,_,[],rfl,rfl,rfl,rfl,fun _ h=>nomatch h⟩
theorem Tl.line {bd:Str} {cnt:Nat} {r:R} (h:Tl rows bd cnt) (hw:r.w = "line"):Tl (rows++[r]) bd (cnt+1):=by
 obtain ⟨r0,st,lr,rfl,h1,h2,h3,h4⟩:=h
 refine ⟨r0,st,lr++[r],by simp,h1,h2,by simp [h3],fun x hx=>?_⟩
 rcases List.mem_append.mp hx with g | g
 ·exact h4 x g
 ·rw [List.mem_singleton.mp g]
  exact hw
theorem GC.line (F:Nj K aB aP aM) {l0:List Ln} (h:GC K aB aP aM rows bs rk ks (ls++[l0])) {bd:Str} {cnt:Nat} (T:Tl rows bd cnt) (hc:cnt<4) {j n m:Nat} {t:Str} {wi sh lo hi:Int} (hj:rk[j]? = some (t,m,wi)) (hnd:(rk.map (·.1)).Nodup) (ht:isNm t) (hbd:(bd,n)∈bs) (hle:lo<=hi) (hn:hi<(n:Int)) (b1 : -200<=sh) (b2:sh<=200) (b3:0<=lo) (b6:hi<=60) :
  GC K aB aP aM (rows++[⟨"line",t,[.int sh,.int lo,.int hi]⟩]) bs rk ks (ls++[l0++[⟨j,sh,lo,hi⟩]]):=by
 obtain ⟨r0,st,lr,er,g1,g2,g3,g4⟩:=T
 have nK:Iv "line" = false:=by decide +kernel
 refine ⟨fun ρ us e=>?_,fun z=>?_,?_⟩
 ·obtain ⟨us',v,rfl,e',hv⟩:=Je e
  have O:=h.ok ρ us' e'
  obtain ⟨u0,u1,eu,m1,m2⟩:=List.map_eq_append_iff.mp (e'.trans er)
  obtain ⟨sv,lv,e1,m3,m4⟩:=List.map_eq_cons_iff.mp m2
  subst e1
  have hsv:sv∈us':=by rw [eu]; simp
  have hlv:lv.length=cnt:=by rw [← g3,← m4,List.length_map]
  have hus:us'.length=u0.length+(cnt+1):=by rw [eu,List.length_append,List.length_cons,hlv]
  refine O.snoc (.inr (.inr (.inl (by rw [hv])))) ?_ ?_ ?_ (fun _ _ h=>h) (fun _=>⟨⟨j,_,sh,lo,hi,hj,by rw [hv],by rw [hv]⟩,sv,hsv,by rw [m3,g1]; decide +kernel⟩) ?_
  ·rw [En (by unfold pw; rw [hv]; show decide (V.str "line" = V.str "board")=false; decide +kernel),O.eb]
  ·rw [En (by unfold pw; rw [hv]; show decide (V.str "line" = V.str "rank")=false; decide +kernel),O.er]
  ·rw [En (by rw [hv]; exact nK),O.ek]
  ·rw [hv]
   have hst:us'[us'.length - 1 - cnt]? = some sv:=by
    have:us'.length - 1 - cnt=u0.length:=by omega
    rw [this,eu,List.getElem?_append_right (Nat.le_refl _),Nat.sub_self]
    rfl
   refine Qy F rfl ht (O.Xp (List.mem_of_getElem? hj)) b1 b2 b3 (by omega) (by omega) b6 O.Yg ⟨cnt,sv,sh,lo,hi,bd,[],rfl,⟨fun i hi'=>?_,by omega,sv,hst,by rw [m3,g1]; decide +kernel⟩,hc,hst,by rw [m3,g1],by rw [m3,g2],hle,?_⟩
   ·have hi2:cnt - 1 - i<lv.length:=by omega
    refine ⟨lv[cnt - 1 - i],?_,?_⟩
    ·have:us'.length - 1 - i=u0.length+((cnt - 1 - i)+1):=by omega
     rw [this,eu,List.getElem?_append_right (Nat.le_add_right _ _),Nat.add_sub_cancel_left,List.getElem?_cons_succ]
     exact List.getElem?_eq_getElem hi2
    ·refine g4 _ ?_
     rw [← m4]
     exact List.mem_map_of_mem (List.getElem_mem hi2)
   ·obtain ⟨u,hu,hub⟩:=O.WW hbd
    rw [List.any_eq_true]
    refine ⟨u,List.mem_filter.mpr ⟨hu,?_⟩,?_⟩
    ·unfold pw
     rw [hub]
     exact decide_eq_true rfl
    ·show (pn ρ bd u && decide (hi<XJ (ρ u)))=true
     unfold pn
     rw [hub,Bool.and_eq_true]
     exact ⟨decide_eq_true rfl,decide_eq_true hn⟩
 ·subst z
  have:=h.ln0 rfl rk
  rw [h.ln] at this
  simp at this
 ·rw [CQ,h.ln]
  unfold Fq
  rw [if_neg (by show ¬ Iv "line" = true; rw [nK]; decide),if_pos rfl,G5]
  have hjl:=(List.getElem?_eq_some_iff.mp hj).1
  have:(rk.map (·.1)).idxOf t=j:=by
   have hl:j<(rk.map (·.1)).length:=by rw [List.length_map]; exact hjl
   have e2:(rk.map (·.1))[j]=t:=by
    rw [List.getElem_map]
    have:=(List.getElem?_eq_some_iff.mp hj).2
    rw [this]
   rw [← e2]
   exact hnd.idxOf_getElem j hl
  show ls++[l0++[⟨(rk.map (·.1)).idxOf t,sh,lo,hi⟩]]=_
  rw [this]
theorem GC.fin {H:Hp} {vs:List V} (h:GC K aB aP aM rows bs rk ks ls) (hv:Paired (fun (r:R) v=>TupAt H r.v v) rows vs) (b0:1<=bs.length) (b5:bs.length<=5) (sz:∀ b∈bs,b.2<=61) (nr:rk.length<=12) (nz:∀ r∈rk,r.2.1<=97) (nk:ks.length<=100) (nb:(bs.map (·.1)).Nodup) (nrr:(rk.map (·.1)).Nodup) (nn:(ks.map (·.nm)).Nodup) (len:rows.length<=150) :
  Rows H (QZ H) vs/\Z_ K aB aP aM (QZ H) vs bs rk ks/\linesOf rk (vs.map (QZ H))=ls:=by
 have em:=PQ hv
 have O:=h.ok (QZ H) vs em
 refine ⟨fun v hv'=>?_,⟨O.kinds,O.eb,O.er,O.ek,O.ln,b0,b5,sz,nr,nz,nk,nb,nrr,nn,by rw [← hv.length]; exact len,O.ok⟩,by rw [em]; exact h.ln⟩
 obtain ⟨r,_,hr⟩:=Ci hv hv'
 rw [Nt hr]
 exact hr
end
end Og
namespace Og
open PySem L2 PyProof.Rows
noncomputable def Yz:List Str:=["x","y","z"]
noncomputable def YW:List Str:=["u","v","w"]
noncomputable def stL:List Str:=["sa","sb","sc","sd","se","sf","sg","sh"]
noncomputable def O8:List Str:=["ca","cb","cc","cd","ce","cf","cg","ch"]
noncomputable def QB:List Str:=["ma","mb"]
noncomputable abbrev Fg (i:Nat):Str:=Yz.getD i ""
noncomputable abbrev G9 (i:Nat):Str:=YW.getD i ""
inductive Gp where
 | st (k b:Nat) (ls:List Ln)
 | cp (k i j:Nat) (s:Int)
 | mu (k b:Nat)
noncomputable def Gp.nm:Gp->Str
 | .st k _ _=>stL.getD k ""
 | .cp k _ _ _=>O8.getD k ""
 | .mu k _=>QB.getD k ""
noncomputable def Gp.head:Gp->R
 | .st k b _=>⟨"stop",stL.getD k "",[.str (Fg b)]⟩
 | .cp k i j s=>⟨"coupler",O8.getD k "",[.str (Fg i),.str (Fg j),.int s]⟩
 | .mu k b=>⟨"mute",QB.getD k "",[.str (Fg b)]⟩
noncomputable def Gp.QM:Gp->List Ln
 | .st _ _ ls=>ls
 | _=>[]
noncomputable def Lr (l:Ln):R:=⟨"line",G9 l.r,[.int l.sh,.int l.lo,.int l.hi]⟩
noncomputable def Gp.rows (g:Gp):List R:=g.head::g.QM.map Lr
noncomputable def Wm (z nr:Nat) (l:Ln):Prop:=l.r<nr /\ -200<=l.sh/\l.sh<=200/\0<=l.lo/\l.lo<=l.hi/\l.hi<(z:Int)
noncomputable def Gp.ok (sz:List Nat) (nr:Nat):Gp->Prop
 | .st k b ls=>k<8/\b<sz.length/\ls.length<=4/\∀ l∈ls,Wm (sz.getD b 0) nr l
 | .cp k i j s=>k<8/\i<sz.length/\j<sz.length /\ -60<=s/\s<=60
 | .mu k b=>k<2/\b<sz.length
theorem gC {k:Nat} (h:k<8):∃ c,Ly ("abcdefgh" : Str).cps.toList (k:Int)=some c/\("s" : Str)++⟨#[c]⟩=stL.getD k "":=by
 match k,h with
 | 0,_=>exact ⟨_,rfl,rfl⟩
 | 1,_=>exact ⟨_,rfl,rfl⟩
 | 2,_=>exact ⟨_,rfl,rfl⟩
 | 3,_=>exact ⟨_,rfl,rfl⟩
 | 4,_=>exact ⟨_,rfl,rfl⟩
 | 5,_=>exact ⟨_,rfl,rfl⟩
 | 6,_=>exact ⟨_,rfl,rfl⟩
 | 7,_=>exact ⟨_,rfl,rfl⟩
theorem bY {k:Nat} (h:k<8):∃ c,Ly ("abcdefgh" : Str).cps.toList (k:Int)=some c/\("c" : Str)++⟨#[c]⟩=O8.getD k "":=by
 match k,h with
 | 0,_=>exact ⟨_,rfl,rfl⟩
 | 1,_=>exact ⟨_,rfl,rfl⟩
 | 2,_=>exact ⟨_,rfl,rfl⟩
 | 3,_=>exact ⟨_,rfl,rfl⟩
 | 4,_=>exact ⟨_,rfl,rfl⟩
 | 5,_=>exact ⟨_,rfl,rfl⟩
 | 6,_=>exact ⟨_,rfl,rfl⟩
 | 7,_=>exact ⟨_,rfl,rfl⟩
theorem Zk {k:Nat} (h:k<2):∃ c,Ly ("ab" : Str).cps.toList (k:Int)=some c/\("m" : Str)++⟨#[c]⟩=QB.getD k "":=by
 match k,h with
 | 0,_=>exact ⟨_,rfl,rfl⟩
 | 1,_=>exact ⟨_,rfl,rfl⟩
theorem MT {k:Nat} (h:k<3):∃ c,Ly ("xyz" : Str).cps.toList (k:Int)=some c/\(⟨#[c]⟩:Str)=Fg k:=by
 match k,h with
 | 0,_=>exact ⟨_,rfl,rfl⟩
 | 1,_=>exact ⟨_,rfl,rfl⟩
 | 2,_=>exact ⟨_,rfl,rfl⟩
theorem V1 {k:Nat} (h:k<3):∃ c,Ly ("uvw" : Str).cps.toList (k:Int)=some c/\(⟨#[c]⟩:Str)=G9 k:=by
 match k,h with
 | 0,_=>exact ⟨_,rfl,rfl⟩
 | 1,_=>exact ⟨_,rfl,rfl⟩
 | 2,_=>exact ⟨_,rfl,rfl⟩
noncomputable def Fx (sz:List Nat):List (Str × Nat):=sz.zipIdx.map fun p=>(Fg p.2,p.1)
noncomputable def Gg (rk:List (Nat × Int)):List (Str × Nat × Int):=rk.zipIdx.map fun p=>(G9 p.2,p.1.1,p.1.2)
structure Ue (sz:List Nat) (rk:List (Nat × Int)) (gs:List Gp):Prop where
 l1:1<=sz.length
 l3:sz.length<=3
 z:∀ x∈sz,1<=x/\x<=61
 r1:1<=rk.length
 r3:rk.length<=3
 r:∀ x∈rk,1<=x.1/\x.1<=97/\0<=x.2/\x.2<=1000000000
 ok:∀ g∈gs,g.ok sz rk.length
 nd:(gs.map Gp.nm).Nodup
 len:gs.length<=12
 mu:(gs.filter fun g=>decide (V.str g.head.w=V.str "mute")).length<=2
noncomputable def Ge (sz:List Nat) (rk:List (Nat × Int)) (gs:List Gp):List R:=(Fx sz).map FT++(Gg rk).map Er++gs.flatMap Gp.rows
noncomputable def je (z:Str):Bool:=decide (1<=z.length) && decide (z.length<=8) && z.cps.toList.all fun c=>decide (97<=c) && decide (c<=122)
theorem Um {z:Str} (h:je z=true):isNm z:=by
 unfold je at h
 simp only [Bool.and_eq_true,decide_eq_true_eq,List.all_eq_true] at h
 exact ⟨h.1.1,h.1.2,h.2⟩
theorem YT:(Yz++YW++stL++O8++QB).all je=true:=by decide +kernel
theorem Sg {z:Str} (h:z∈Yz++YW++stL++O8++QB):isNm z:=Um (List.all_eq_true.mp YT z h)
theorem getD_mem {l:List Str} {k:Nat} (h:k<l.length):l.getD k "" ∈ l:=by
 rw [List.getD_eq_getElem?_getD,List.getElem?_eq_getElem h]
 exact List.getElem_mem _
theorem Ow {k:Nat} (h:k<3):Fg k∈Yz:=getD_mem h
theorem LQ {k:Nat} (h:k<3):G9 k∈YW:=getD_mem h
theorem Fj {k:Nat} (h:k<3):isNm (Fg k):=Sg (List.mem_append_left _ (List.mem_append_left _ (List.mem_append_left _ (List.mem_append_left _ (Ow h)))))
theorem Ld {k:Nat} (h:k<3):isNm (G9 k):=Sg (List.mem_append_left _ (List.mem_append_left _ (List.mem_append_left _ (List.mem_append_right _ (LQ h)))))
theorem Mi:∀ a∈Yz,∀ b∈YW++stL++O8++QB,a ≠ b:=by decide +kernel
theorem Te:∀ a∈YW,∀ b∈stL++O8++QB,a ≠ b:=by decide +kernel
theorem Gp.W5 {sz:List Nat} {nr:Nat} {g:Gp} (h:g.ok sz nr):g.nm∈stL++O8++QB:=by
 cases g with
 | st k b ls=>exact (List.mem_append_left _ (List.mem_append_left _ (getD_mem (l:=stL) h.1)))
 | cp k i j s=>exact (List.mem_append_left _ (List.mem_append_right _ (getD_mem (l:=O8) h.1)))
 | mu k b=>exact List.mem_append_right _ (getD_mem (l:=QB) h.1)
theorem Gp.Ox (g:Gp):g.head.nm=g.nm:=by cases g <;> rfl
theorem Pa {sz:List Nat} {b:Str × Nat} (h:b∈Fx sz) (l3:sz.length<=3):b.1∈Yz:=by
 obtain ⟨p,hp,rfl⟩:=List.mem_map.mp h
 obtain ⟨j,hj⟩:=List.getElem?_of_mem hp
 rw [List.getElem?_zipIdx] at hj
 obtain ⟨a,ha,e⟩:=Option.map_eq_some_iff.mp hj
 have:=(List.getElem?_eq_some_iff.mp ha).1
 rw [← e]
 exact Ow (by simp; omega)
theorem Vq {rk:List (Nat × Int)} {b:Str × Nat × Int} (h:b∈Gg rk) (l3:rk.length<=3):b.1∈YW:=by
 obtain ⟨p,hp,rfl⟩:=List.mem_map.mp h
 obtain ⟨j,hj⟩:=List.getElem?_of_mem hp
 rw [List.getElem?_zipIdx] at hj
 obtain ⟨a,ha,e⟩:=Option.map_eq_some_iff.mp hj
 have:=(List.getElem?_eq_some_iff.mp ha).1
 rw [← e]
 exact LQ (by simp; omega)
theorem Hv {sz:List Nat} {i:Nat} (h:i<sz.length):(Fg i,sz.getD i 0)∈Fx sz:=by
 refine List.mem_map.mpr ⟨(sz.getD i 0,i),List.mem_of_getElem? (i:=i) ?_,rfl⟩
 rw [List.getElem?_zipIdx,List.getD_eq_getElem?_getD,List.getElem?_eq_getElem h]
 simp
theorem Vl {rk:List (Nat × Int)} {i:Nat} (h:i<rk.length):∃ m wi,(Gg rk)[i]? = some (G9 i,m,wi):=by
 refine ⟨rk[i].1,rk[i].2,?_⟩
 unfold Gg
 rw [List.getElem?_map,List.getElem?_zipIdx,List.getElem?_eq_getElem h]
 simp
section
variable {K:PySem.W.Frag} {aB aP aM:Addr}
theorem dF (F:Nj K aB aP aM) {sz:List Nat} (l1:1<=sz.length) (l3:sz.length<=3) (z:∀ x∈sz,1<=x/\x<=61):GC K aB aP aM ((Fx sz).map FT) (Fx sz) [] [] []:=by
 match sz,l1,l3,z with
 | [a],_,_,z=>exact GC.nil.Kv F (Fj (k:=0) (by decide)) (fun _ h=>nomatch h) (by decide) (z a (by simp)).1 (z a (by simp)).2
 | [a,b],_,_,z =>
  have h1:=GC.nil.Kv F (Fj (k:=0) (by decide)) (fun _ h=>nomatch h) (by decide) (z a (by simp)).1 (z a (by simp)).2
  exact h1.Kv F (Fj (k:=1) (by decide)) (fun x h=>by rw [List.mem_singleton.mp h]; show Fg 0 ≠ Fg 1; decide +kernel) (by show 1<5; decide) (z b (by simp)).1 (z b (by simp)).2
 | [a,b,c],_,_,z =>
  have h1:=GC.nil.Kv F (Fj (k:=0) (by decide)) (fun _ h=>nomatch h) (by decide) (z a (by simp)).1 (z a (by simp)).2
  have h2:=h1.Kv F (Fj (k:=1) (by decide)) (fun x h=>by rw [List.mem_singleton.mp h]; show Fg 0 ≠ Fg 1; decide +kernel) (by show 1<5; decide) (z b (by simp)).1 (z b (by simp)).2
  refine h2.Kv F (Fj (k:=2) (by decide)) (fun x h=>?_) (by show 2<5; decide) (z c (by simp)).1 (z c (by simp)).2
  rcases List.mem_append.mp h with h | h
  ·rw [List.mem_singleton.mp h]; show Fg 0 ≠ Fg 2; decide +kernel
  ·rw [List.mem_singleton.mp h]; show Fg 1 ≠ Fg 2; decide +kernel
theorem b_ (F:Nj K aB aP aM) {sz:List Nat} {rk:List (Nat × Int)} {rows:List R} (h0:GC K aB aP aM rows (Fx sz) [] [] []) (s3:sz.length<=3) (l1:1<=rk.length) (l3:rk.length<=3) (z:∀ x∈rk,1<=x.1/\x.1<=97/\0<=x.2/\x.2<=1000000000):GC K aB aP aM (rows++(Gg rk).map Er) (Fx sz) (Gg rk) [] []:=by
 have ab:∀ {k},k<3->∀ b∈Fx sz,b.1 ≠ G9 k:=fun hk b hb=>Mi _ (Pa hb s3) _ (List.mem_append_left _ (List.mem_append_left _ (List.mem_append_left _ (LQ hk))))
 have r1:∀ {a:Nat × Int},(1<=a.1/\a.1<=97/\0<=a.2/\a.2<=1000000000)->GC K aB aP aM (rows++[Er (G9 0,a.1,a.2)]) (Fx sz) [(G9 0,a.1,a.2)] [] []:=fun {a} h=>h0.rank F (Ld (k:=0) (by decide)) (ab (by decide)) (fun _ h=>nomatch h) (by decide) h.1 h.2.1 h.2.2.1 h.2.2.2
 have r2:∀ {a b:Nat × Int},(1<=a.1/\a.1<=97/\0<=a.2/\a.2<=1000000000)->(1<=b.1/\b.1<=97/\0<=b.2/\b.2<=1000000000)->GC K aB aP aM (rows++[Er (G9 0,a.1,a.2)]++[Er (G9 1,b.1,b.2)]) (Fx sz) [(G9 0,a.1,a.2),(G9 1,b.1,b.2)] [] []:=fun {a b} ha h=>(r1 ha).rank F (Ld (k:=1) (by decide)) (ab (by decide)) (fun x hx=>by rw [List.mem_singleton.mp hx]; show G9 0 ≠ G9 1; decide +kernel) (by show 1<12; decide) h.1 h.2.1 h.2.2.1 h.2.2.2
 match rk,l1,l3,z with
 | [a],_,_,z=>exact r1 (z a (by simp))
 | [a,b],_,_,z =>
  have:=r2 (z a (by simp)) (z b (by simp))
  rw [List.append_assoc] at this
  exact this
 | [a,b,c],_,_,z =>
  have h:=z c (by simp)
  have:=(r2 (z a (by simp)) (z b (by simp))).rank F (t:=G9 2) (n:=c.1) (wi:=c.2) (Ld (k:=2) (by decide)) (ab (by decide)) (fun x hx=>by
   rcases List.mem_cons.mp hx with e | hx
   ·rw [e]; show G9 0 ≠ G9 2; decide +kernel
   ·rw [List.mem_singleton.mp hx]; show G9 1 ≠ G9 2; decide +kernel) (by show 2<12; decide) h.1 h.2.1 h.2.2.1 h.2.2.2
  rw [List.append_assoc,List.append_assoc] at this
  exact this
theorem Ti {rk:List (Nat × Int)} (l3:rk.length<=3):((Gg rk).map (·.1)).Nodup:=by
 match rk,l3 with
 | [],_=>exact .nil
 | [a],_=>show [G9 0].Nodup; decide +kernel
 | [a,b],_=>show [G9 0,G9 1].Nodup; decide +kernel
 | [a,b,c],_=>show [G9 0,G9 1,G9 2].Nodup; decide +kernel
theorem Xb {sz:List Nat} (l3:sz.length<=3):((Fx sz).map (·.1)).Nodup:=by
 match sz,l3 with
 | [],_=>exact .nil
 | [a],_=>show [Fg 0].Nodup; decide +kernel
 | [a,b],_=>show [Fg 0,Fg 1].Nodup; decide +kernel
 | [a,b,c],_=>show [Fg 0,Fg 1,Fg 2].Nodup; decide +kernel
theorem Kg (F:Nj K aB aP aM) {sz:List Nat} {rk:List (Nat × Int)} {b:Nat} {ks:List R} {ls0:List (List Ln)} (hb:b<sz.length) (hz:∀ x∈sz,1<=x/\x<=61) (r3:rk.length<=3):∀ (ls:List Ln) (rows:List R) (l0:List Ln) (cnt:Nat),GC K aB aP aM rows (Fx sz) (Gg rk) ks (ls0++[l0])->Tl rows (Fg b) cnt->cnt+ls.length<=4->(∀ l∈ls,Wm (sz.getD b 0) rk.length l)->GC K aB aP aM (rows++ls.map Lr) (Fx sz) (Gg rk) ks (ls0++[l0++ls])
 | [],rows,l0,cnt,h,T,hc,ok=>by
  rw [List.map_nil,List.append_nil,List.append_nil]
  exact h
 | l::ls,rows,l0,cnt,h,T,hc,ok=>by
  obtain ⟨o1,o2,o3,o4,o5,o6⟩:=ok l (by simp)
  obtain ⟨m,wi,hj⟩:=Vl o1
  have zb:sz.getD b 0<=61:=by
   rw [List.getD_eq_getElem?_getD,List.getElem?_eq_getElem hb]
   exact (hz _ (List.getElem_mem _)).2
  have h1:=GC.line F h T (by simp at hc; omega) hj (Ti r3) (Ld (by omega)) (Hv hb) o5 o6 o2 o3 o4 (by omega)
  have T1:Tl (rows++[Lr l]) (Fg b) (cnt+1):=T.line rfl
  have:=Kg F hb hz r3 ls (rows++[Lr l]) (l0++[l]) (cnt+1) h1 T1 (by simp at hc; omega) fun x hx=>ok x (by simp [hx])
  rw [List.append_assoc,List.append_assoc] at this
  exact this
theorem Rm:Gu "stop" = 24:=by decide +kernel
theorem Rc:Gu "mute" = 5:=by decide +kernel
theorem Wj (F:Nj K aB aP aM) {sz:List Nat} {rk:List (Nat × Int)} {rows:List R} {gs:List Gp} {g:Gp} (s3:sz.length<=3) (hz:∀ x∈sz,1<=x/\x<=61) (r3:rk.length<=3) (h:GC K aB aP aM rows (Fx sz) (Gg rk) (gs.map Gp.head) (gs.map Gp.QM)) (ok:g.ok sz rk.length) (hn:g.nm ∉ gs.map Gp.nm) (hl:gs.length<12) (hm:(gs.filter fun g=>decide (V.str g.head.w=V.str "mute")).length<=2) :
  GC K aB aP aM (rows++g.rows) (Fx sz) (Gg rk) ((gs++[g]).map Gp.head) ((gs++[g]).map Gp.QM):=by
 have hnm:=Gp.W5 ok
 have c1:∀ b∈Fx sz,b.1 ≠ g.nm:=fun b hb=>Mi _ (Pa hb s3) _ (by rw [List.append_assoc,List.append_assoc]; refine List.mem_append_right _ ?_; rw [← List.append_assoc]; exact hnm)
 have c2:∀ r∈Gg rk,r.1 ≠ g.nm:=fun r hr=>Te _ (Vq hr r3) _ hnm
 have c3:∀ k∈gs.map Gp.head,k.nm ≠ g.nm:=fun k hk e=>by
  obtain ⟨x,hx,rfl⟩:=List.mem_map.mp hk
  rw [Gp.Ox] at e
  exact hn (List.mem_map.mpr ⟨x,hx,e⟩)
 have cnt:∀ w:Str,((gs.map Gp.head).filter fun r=>decide (V.str r.w=V.str w)).length<=gs.length:=fun w=>Nat.le_trans (List.length_filter_le _ _) (by rw [List.length_map]; exact Nat.le_refl _)
 have isn:isNm g.nm:=Sg (by rw [List.append_assoc,List.append_assoc,List.append_assoc]; refine List.mem_append_right _ (List.mem_append_right _ ?_); rw [← List.append_assoc]; exact hnm)
 rw [List.map_append,List.map_append]
 cases g with
 | st k b ls =>
  obtain ⟨o1,o2,o3,o4⟩:=ok
  have h1:=GC.plain F h (wd:="stop") (.inl rfl) isn c1 c2 c3 (by rw [Rm]; have:=cnt "stop"; omega) (Fj (by omega)) (Hv o2)
  have:=Kg F o2 hz r3 ls _ [] 0 h1 (Tl.stop _ _ _) (by omega) o4
  rw [List.nil_append,List.append_assoc] at this
  exact this
 | cp k i j s =>
  obtain ⟨o1,o2,o3,o4,o5⟩:=ok
  exact GC.Vi F h isn c1 c2 c3 (by have:=cnt "coupler"; omega) (Fj (by omega)) (Hv o2) (Fj (by omega)) (Hv o3) o4 o5
 | mu k b =>
  obtain ⟨o1,o2⟩:=ok
  refine GC.plain F h (wd:="mute") (.inr rfl) isn c1 c2 c3 ?_ (Fj (by omega)) (Hv o2)
  rw [Rc,List.filter_map,List.length_map]
  exact Nat.lt_of_le_of_lt hm (by decide)
theorem RT (F:Nj K aB aP aM) {sz:List Nat} {rk:List (Nat × Int)} (s3:sz.length<=3) (hz:∀ x∈sz,1<=x/\x<=61) (r3:rk.length<=3):∀ (rest gs:List Gp) (rows:List R),GC K aB aP aM rows (Fx sz) (Gg rk) (gs.map Gp.head) (gs.map Gp.QM)->(∀ g∈rest,g.ok sz rk.length)->((gs++rest).map Gp.nm).Nodup->(gs++rest).length<=12->((gs++rest).filter fun g=>decide (V.str g.head.w=V.str "mute")).length<=2 ->
  GC K aB aP aM (rows++rest.flatMap Gp.rows) (Fx sz) (Gg rk) ((gs++rest).map Gp.head) ((gs++rest).map Gp.QM)
 | [],gs,rows,h,_,_,_,_=>by
  rw [List.flatMap_nil,List.append_nil,List.append_nil]
  exact h
 | g::rest,gs,rows,h,ok,nd,len,mu=>by
  have e:gs++g::rest=(gs++[g])++rest:=by simp
  have hn:g.nm ∉ gs.map Gp.nm:=fun z=>by
   rw [List.map_append,List.map_cons,List.nodup_append] at nd
   exact nd.2.2 _ z _ (List.mem_cons_self ..) rfl
  have hmu:(gs.filter fun g=>decide (V.str g.head.w=V.str "mute")).length<=2:=by
   rw [List.filter_append,List.length_append] at mu
   omega
  have h1:=Wj F s3 hz r3 h (ok g (by simp)) hn (by rw [List.length_append,List.length_cons] at len; omega) hmu
  rw [e] at nd len mu ⊢
  have:=RT F s3 hz r3 rest (gs++[g]) (rows++g.rows) h1 (fun x hx=>ok x (by simp [hx])) nd len mu
  rw [List.flatMap_cons,← List.append_assoc]
  exact this
theorem Zv (F:Nj K aB aP aM) {sz:List Nat} {rk:List (Nat × Int)} {gs:List Gp} (h:Ue sz rk gs):GC K aB aP aM (Ge sz rk gs) (Fx sz) (Gg rk) (gs.map Gp.head) (gs.map Gp.QM) :=
 RT F h.l3 h.z h.r3 gs [] _ (b_ F (dF F h.l1 h.l3 h.z) h.l3 h.r1 h.r3 h.r) h.ok h.nd h.len h.mu
end
noncomputable def Mq (gs:List Gp) (n:Nat):Str:=if n<30 then Fg n else (gs.map Gp.nm).getD (n - 30) ""
noncomputable def Gp.kb:Gp->Kb
 | .st _ b _=>.pl "stop" b
 | .cp _ i j s=>.cp i j s
 | .mu _ b=>.pl "mute" b
theorem Wl {sz:List Nat} (gs:List Gp) (l3:sz.length<=3):CK (Mq gs) sz=Fx sz:=by
 unfold CK Fx
 refine List.map_congr_left fun p hp=>?_
 obtain ⟨j,hj⟩:=List.getElem?_of_mem hp
 rw [List.getElem?_zipIdx] at hj
 obtain ⟨a,ha,e⟩:=Option.map_eq_some_iff.mp hj
 have:=(List.getElem?_eq_some_iff.mp ha).1
 have e2:p.2=j:=by rw [← e]; simp
 unfold Mq
 rw [if_pos (by omega)]
theorem XN {sz:List Nat} {nr:Nat} {gs:List Gp} {g:Gp} {i:Nat} (l3:sz.length<=3) (hg:gs[i]? = some g) (ok:g.ok sz nr):Qv (Mq gs) i g.kb=g.head:=by
 have hb:∀ b,b<sz.length->Mq gs b=Fg b:=fun b h=>by unfold Mq; rw [if_pos (by omega)]
 have hnm:Mq gs (30+i)=g.nm:=by
  unfold Mq
  rw [if_neg (by omega),Nat.add_sub_cancel_left,List.getD_eq_getElem?_getD,List.getElem?_map,hg]
  rfl
 cases g with
 | st k b ls =>
  show (⟨"stop",Mq gs (30+i),[.str (Mq gs b)]⟩:R)=_
  rw [hnm,hb b ok.2.1]
  rfl
 | cp k a b s =>
  show (⟨"coupler",Mq gs (30+i),[.str (Mq gs a),.str (Mq gs b),.int s]⟩:R)=_
  rw [hnm,hb a ok.2.1,hb b ok.2.2.1]
  rfl
 | mu k b =>
  show (⟨"mute",Mq gs (30+i),[.str (Mq gs b)]⟩:R)=_
  rw [hnm,hb b ok.2]
  rfl
theorem Ws {sz:List Nat} {nr:Nat} {gs:List Gp} (l3:sz.length<=3) (ok:∀ g∈gs,g.ok sz nr):Ea (Mq gs) (gs.map Gp.kb)=gs.map Gp.head:=by
 refine List.ext_getElem? fun i=>?_
 unfold Ea
 rw [List.getElem?_map,List.getElem?_zipIdx,List.getElem?_map,List.getElem?_map]
 cases hg:gs[i]? with
 | none=>rfl
 | some g =>
  show some (Qv (Mq gs) (0+i) g.kb)=some g.head
  rw [Nat.zero_add,XN l3 hg (ok g (List.mem_of_getElem? hg))]
theorem jQ (g:Gp):g.kb.w=g.head.w:=by cases g <;> rfl
theorem eZ {sz:List Nat} {rk:List (Nat × Int)} {gs:List Gp} (h:Ue sz rk gs):Ui sz.length (gs.map Gp.kb):=by
 have okk:∀ g:Gp,g.ok sz rk.length->g.kb.ok sz.length:=fun g ok=>by
  cases g with
  | st k b ls=>exact ⟨ok.2.1,.inr rfl⟩
  | cp k a b s=>exact ⟨ok.2.1,ok.2.2.1,ok.2.2.2.1,ok.2.2.2.2⟩
  | mu k b=>exact ⟨ok.2,.inl rfl⟩
 have hlen:=h.len
 refine ⟨fun k hk=>?_,fun i k hi=>?_,by rw [List.length_map]; omega⟩
 ·obtain ⟨g,hg,rfl⟩:=List.mem_map.mp hk
  exact okk g (h.ok g hg)
 ·rw [List.getElem?_map] at hi
  obtain ⟨g,hg,rfl⟩:=Option.map_eq_some_iff.mp hi
  have hil:=(List.getElem?_eq_some_iff.mp hg).1
  have le:(((gs.map Gp.kb).take i).filter (RX g.kb.w)).length<=i:=Nat.le_trans (List.length_filter_le _ _) (by rw [List.length_take]; omega)
  cases g with
  | st k b ls =>
   show _<Gu "stop"
   rw [Rm]
   omega
  | cp k a b s =>
   show _<Gu "coupler"
   have:Gu "coupler" = 12:=by decide +kernel
   rw [this]
   omega
  | mu k b =>
   show _<Gu "mute"
   rw [Rc,← List.map_take,List.filter_map,List.length_map]
   have ef:(RX (Gp.mu k b).kb.w ∘ Gp.kb)=fun g=>decide (V.str g.head.w=V.str "mute"):=funext fun g=>by
    show decide (V.str g.kb.w=V.str "mute")=_
    rw [jQ]
   rw [ef]
   have h2:((gs.take i).filter fun g=>decide (V.str g.head.w=V.str "mute")).length<=(gs.filter fun g=>decide (V.str g.head.w=V.str "mute")).length:=by
    have:=congrArg List.length (congrArg (List.filter fun g=>decide (V.str g.head.w=V.str "mute")) (List.take_append_drop i gs))
    rw [List.filter_append,List.length_append] at this
    omega
   have:=h.mu
   omega
section
variable {K:PySem.W.Frag} {aB aP aM:Addr}
end
end Og
namespace Og
open PySem L2 PyProof.Rows
structure HW where
 bs:Str->Option (Nat × Nat)
 rk:Str->Option (Nat × Nat)
 kn:List (R × List R)
 ke:Nat
 pi:Nat
noncomputable def JN (s:HW) (b:Str × Nat):HW:={ s with bs:=fun t=>if t=b.1 then some (s.ke,b.2) else s.bs t,ke:=s.ke+b.2 }
noncomputable def KH (s:HW) (b:Str × Nat × Int):HW:={ s with rk:=fun t=>if t=b.1 then some (s.pi,b.2.1) else s.rk t,pi:=s.pi+b.2.1 }
inductive NP:HW->R->HW->Prop
 | b (s:HW) (b:Str × Nat):NP s (FT b) (JN s b)
 | r (s:HW) (b:Str × Nat × Int):NP s (Er b) (KH s b)
 | k (s:HW) (r:R):r.w = "stop" \/ r.w = "coupler" \/ r.w = "mute"->s.kn.length<100->NP s r { s with kn:=s.kn++[(r,[])] }
 | l (s:HW) (ks:List (R × List R)) (g:R) (ls:List R) (l:Ln):s.kn=ks++[(g,ls)]->ls.length<100->NP s (Lr l) { s with kn:=ks++[(g,ls++[Lr l])] }
inductive JT:HW->List R->HW->Prop
 | nil (s:HW):JT s [] s
 | cons {s s' f:HW} {r:R} {rs:List R}:NP s r s'->JT s' rs f->JT s (r::rs) f
theorem JT.app {s t f:HW} {l l':List R} (h:JT s l t) (h':JT t l' f):JT s (l++l') f:=by
 induction h with
 | nil=>exact h'
 | cons a _ ih=>exact .cons a (ih h')
theorem JT.bs:∀ (bs:List (Str × Nat)) (s:HW),JT s (bs.map FT) (bs.foldl JN s)
 | [],s=>.nil s
 | b::bs,s=>.cons (.b s b) (JT.bs bs _)
theorem JT.rs:∀ (bs:List (Str × Nat × Int)) (s:HW),JT s (bs.map Er) (bs.foldl KH s)
 | [],s=>.nil s
 | b::bs,s=>.cons (.r s b) (JT.rs bs _)
noncomputable def Gp.kn (g:Gp):R × List R:=(g.head,g.QM.map Lr)
theorem JT.ls:∀ (ls:List Ln) (s:HW) (ks:List (R × List R)) (g:R) (l0:List R),s.kn=ks++[(g,l0)]->l0.length+ls.length<100->JT s (ls.map Lr) { s with kn:=ks++[(g,l0++ls.map Lr)] }
 | [],s,ks,g,l0,e,_=>by
  rw [List.map_nil,List.append_nil,← e]
  exact .nil s
 | l::ls,s,ks,g,l0,e,h=>by
  rw [List.length_cons] at h
  have:=JT.ls ls { s with kn:=ks++[(g,l0++[Lr l])] } ks g (l0++[Lr l]) rfl (by rw [List.length_append,List.length_singleton]; omega)
  rw [List.append_assoc] at this
  exact .cons (.l s ks g l0 l e (by omega)) this
theorem Gp.Xq (g:Gp):g.head.w = "stop" \/ g.head.w = "coupler" \/ g.head.w = "mute":=by
 cases g with
 | st=>exact .inl rfl
 | cp=>exact .inr (.inl rfl)
 | mu=>exact .inr (.inr rfl)
theorem JT.gs:∀ (gs:List Gp) (s:HW),s.kn.length+gs.length<100->(∀ g∈gs,g.QM.length<100)->JT s (gs.flatMap Gp.rows) { s with kn:=s.kn++gs.map Gp.kn }
 | [],s,_,_=>by
  rw [List.map_nil,List.append_nil,List.flatMap_nil]
  exact .nil s
 | g::gs,s,h,hl=>by
  rw [List.length_cons] at h
  have h1:JT s g.rows { s with kn:=s.kn++[g.kn] }:=.cons (.k s g.head g.Xq (by omega)) (JT.ls g.QM { s with kn:=s.kn++[(g.head,[])] } s.kn g.head [] rfl (by have:=hl g (by simp); simp; omega))
  have h2:=JT.gs gs { s with kn:=s.kn++[g.kn] } (by rw [List.length_append,List.length_singleton]; omega) fun x hx=>hl x (by simp [hx])
  rw [List.flatMap_cons]
  have:=h1.app h2
  rw [List.append_assoc] at this
  exact this
noncomputable def m0:HW:=⟨fun _=>none,fun _=>none,[],0,0⟩
noncomputable def mW (sz:List Nat) (rk:List (Nat × Int)) (gs:List Gp):HW:={ (Gg rk).foldl KH ((Fx sz).foldl JN m0) with kn:=gs.map Gp.kn }
theorem PB:∀ (bs:List (Str × Nat)) (s:HW),(bs.foldl JN s).kn=s.kn
 | [],s=>rfl
 | b::bs,s=>PB bs (JN s b)
theorem Pu:∀ (bs:List (Str × Nat × Int)) (s:HW),(bs.foldl KH s).kn=s.kn
 | [],s=>rfl
 | b::bs,s=>Pu bs (KH s b)
theorem Pr:∀ (bs:List (Str × Nat)) (s:HW),(bs.foldl JN s).ke=s.ke+(bs.map (·.2)).sum
 | [],s=>rfl
 | b::bs,s=>by
  show (bs.foldl JN (JN s b)).ke=_
  rw [Pr bs (JN s b),List.map_cons,List.sum_cons,← Nat.add_assoc]
  rfl
theorem PP:∀ (bs:List (Str × Nat × Int)) (s:HW),(bs.foldl KH s).ke=s.ke
 | [],s=>rfl
 | b::bs,s=>PP bs (KH s b)
theorem Ur (sz:List Nat):(Fx sz).map (·.2)=sz:=by
 refine List.ext_getElem? fun i=>?_
 unfold Fx
 rw [List.getElem?_map,List.getElem?_map,List.getElem?_zipIdx]
 cases sz[i]? <;> rfl
theorem bU (sz:List Nat) (rk:List (Nat × Int)) (gs:List Gp):(mW sz rk gs).ke=sz.sum:=by
 show ((Gg rk).foldl KH ((Fx sz).foldl JN m0)).ke=_
 rw [PP,Pr,Ur]
 exact Nat.zero_add _
theorem eU {sz:List Nat} {rk:List (Nat × Int)} {gs:List Gp} (h:Ue sz rk gs):JT m0 (Ge sz rk gs) (mW sz rk gs):=by
 have hk:((Gg rk).foldl KH ((Fx sz).foldl JN m0)).kn=[]:=by rw [Pu,PB]; rfl
 have h3:=JT.gs gs ((Gg rk).foldl KH ((Fx sz).foldl JN m0)) (by rw [hk]; have:=h.len; simp; omega) fun g hg=>by
  have:=h.ok g hg
  cases g with
  | st k b ls=>have:=this.2.2.1; show ls.length<100; omega
  | cp=>show (0:Nat)<100; decide
  | mu=>show (0:Nat)<100; decide
 rw [hk] at h3
 exact ((JT.bs (Fx sz) m0).app (JT.rs (Gg rk) _)).app h3
noncomputable def UT (H:Hp) (g:R × List R) (a:Addr × Addr):Prop:=∃ rv lvs,H a.1=some (.tup [rv,.ref a.2])/\TupAt H g.1.v rv/\H a.2=some (.lst lvs)/\Paired (fun (r:R) v=>TupAt H r.v v) g.2 lvs
noncomputable def RD (H:Hp) (d:Addr) (f:Str->Option (Nat × Nat)) (n:Nat):Prop:=∃ kvs,H d=some (.dK kvs)/\kvs.length<=n/\∀ t x,f t=some x->∃ v,Cj kvs (Sum.inr t)=some v/\TupAt H [.int (x.1:Nat),.int (x.2:Nat)] v
structure Gb (H0 H:Hp) (db dr kn:Addr) (TL:List (Addr × Addr)) (s:HW) (n:Nat):Prop where
 b:RD H db s.bs n
 r:RD H dr s.rk n
 k:H kn=some (.lst (TL.map fun a=>V.ref a.1))
 nd:(TL.map (·.2)).Nodup
 fr:∀ a∈TL,H0 a.2=none/\a.2 ≠ kn
 pr:Paired (UT H) s.kn TL
theorem UT.mono {H H':Hp} {g:R × List R} {a:Addr × Addr} (s:Ak H H') (h:UT H g a):UT H' g a:=by
 obtain ⟨rv,lvs,h1,h2,h3,h4⟩:=h
 exact ⟨rv,lvs,s _ _ h1,h2.mono s,s _ _ h3,Am s h4⟩
theorem RD.mono {H H':Hp} {d:Addr} {f:Str->Option (Nat × Nat)} {n n':Nat} (s:Ak H H') (hn:n<=n') (h:RD H d f n):RD H' d f n':=by
 obtain ⟨kvs,h1,h2,h3⟩:=h
 refine ⟨kvs,s _ _ h1,by omega,fun t x e=>?_⟩
 obtain ⟨v,h4,h5⟩:=h3 t x e
 exact ⟨v,h4,h5.mono s⟩
theorem Gb.mono {H0 H H':Hp} {db dr kn:Addr} {TL:List (Addr × Addr)} {s:HW} {n n':Nat} (sm:Ak H H') (hn:n<=n') (h:Gb H0 H db dr kn TL s n):Gb H0 H' db dr kn TL s n' :=
 ⟨h.b.mono sm hn,h.r.mono sm hn,sm _ _ h.k,h.nd,h.fr,Paired.Eo h.pr fun _ _ q=>q.mono sm⟩
theorem By {H:Hp} {a D:Addr} {o o' u:HO} (h:H a=some o) (hD:H D=some o') (hne:o ≠ o'):upd H D u a=some o:=by
 rw [Al]
 ·exact h
 ·intro e
  subst e
  rw [h] at hD
  exact hne (Option.some.inj hD)
theorem D_ {H:Hp} {zs:List V} {y:V} {D:Addr} {o u:HO} (h:TupAt H zs y) (hD:H D=some o) (hne:∀ z,HO.tup z ≠ o):TupAt (upd H D u) zs y:=by
 obtain ⟨T,rfl,q⟩:=h
 exact ⟨T,rfl,By q hD (hne _)⟩
theorem UT.Ho {H:Hp} {g:R × List R} {a:Addr × Addr} {D:Addr} {kvs:List (Key × V)} {u:HO} (h:UT H g a) (hD:H D=some (.dK kvs)):UT (upd H D u) g a:=by
 obtain ⟨rv,lvs,h1,h2,h3,h4⟩:=h
 exact ⟨rv,lvs,By h1 hD (by simp),D_ h2 hD (by simp),By h3 hD (by simp),Paired.Eo h4 fun _ _ q=>D_ q hD (by simp)⟩
theorem RD.put {H:Hp} {d:Addr} {f:Str->Option (Nat × Nat)} {n:Nat} {kvs:List (Key × V)} {t:Str} {x:Nat × Nat} {v:V} (hd:H d=some (.dK kvs)) (hl:kvs.length<=n) (h3:∀ t x,f t=some x->∃ v,Cj kvs (Sum.inr t)=some v/\TupAt H [.int (x.1:Nat),.int (x.2:Nat)] v) (hv:TupAt H [.int (x.1:Nat),.int (x.2:Nat)] v) :
  RD (upd H d (.dK (putK kvs (Sum.inr t) v))) d (fun t'=>if t'=t then some x else f t') (n+1):=by
 refine ⟨_,Af,?_,fun t' x' e=>?_⟩
 ·have:=Ds kvs (Sum.inr t) v
  omega
 ·rw [Cz]
  by_cases ht:t'=t
  ·subst ht
   dsimp only at e
   rw [if_pos rfl] at e
   obtain rfl:=Option.some.inj e
   exact ⟨v,if_pos rfl,D_ hv hd (by simp)⟩
  ·dsimp only at e
   rw [if_neg ht] at e
   rw [if_neg (fun z=>ht (Sum.inr.inj z))]
   obtain ⟨v',h4,h5⟩:=h3 t' x' e
   exact ⟨v',h4,D_ h5 hd (by simp)⟩
theorem RD.Ho {H:Hp} {d:Addr} {f:Str->Option (Nat × Nat)} {n n':Nat} {D:Addr} {o u:HO} (h:RD H d f n) (hD:H D=some o) (hne:∀ z,HO.tup z ≠ o) (hn:d ≠ D) (hle:n<=n'):RD (upd H D u) d f n':=by
 obtain ⟨kvs,h1,h2,h3⟩:=h
 refine ⟨kvs,by rw [Al hn]; exact h1,by omega,fun t x e=>?_⟩
 obtain ⟨v,h4,h5⟩:=h3 t x e
 exact ⟨v,h4,D_ h5 hD hne⟩
theorem Gb.iZ {H0 H:Hp} {db dr kn:Addr} {TL:List (Addr × Addr)} {s:HW} {n:Nat} {b:Str × Nat} {v:V} {kvs:List (Key × V)} (h:Gb H0 H db dr kn TL s n) (hne:db ≠ dr) (hd:H db=some (.dK kvs)) (hl:kvs.length<=n) (h3:∀ t x,s.bs t=some x->∃ v,Cj kvs (Sum.inr t)=some v/\TupAt H [.int (x.1:Nat),.int (x.2:Nat)] v) (hv:TupAt H [.int (s.ke:Nat),.int (b.2:Nat)] v):Gb H0 (upd H db (.dK (putK kvs (Sum.inr b.1) v))) db dr kn TL (JN s b) (n+1) :=
 ⟨RD.put (x:=(s.ke,b.2)) hd hl h3 hv,h.r.Ho hd (by simp) hne.symm (Nat.le_succ _),By h.k hd (by simp),h.nd,h.fr,Paired.Eo h.pr fun _ _ q=>q.Ho hd⟩
theorem Gb.ik {H0 H:Hp} {db dr kn:Addr} {TL:List (Addr × Addr)} {s:HW} {n:Nat} {b:Str × Nat × Int} {v:V} {kvs:List (Key × V)} (h:Gb H0 H db dr kn TL s n) (hne:db ≠ dr) (hd:H dr=some (.dK kvs)) (hl:kvs.length<=n) (h3:∀ t x,s.rk t=some x->∃ v,Cj kvs (Sum.inr t)=some v/\TupAt H [.int (x.1:Nat),.int (x.2:Nat)] v) (hv:TupAt H [.int (s.pi:Nat),.int (b.2.1:Nat)] v):Gb H0 (upd H dr (.dK (putK kvs (Sum.inr b.1) v))) db dr kn TL (KH s b) (n+1) :=
 ⟨h.b.Ho hd (by simp) hne (Nat.le_succ _),RD.put (x:=(s.pi,b.2.1)) hd hl h3 hv,By h.k hd (by simp),h.nd,h.fr,Paired.Eo h.pr fun _ _ q=>q.Ho hd⟩
theorem GF {α β:Type} {F G:α->β->Prop}:∀ {l:List α} {vs:List β},Paired F l vs->(∀ a b,b∈vs->F a b->G a b)->Paired G l vs
 | [],_,h,_=>by cases h; exact .nil
 | a::l,_,h,k=>by
  cases h with
  | cons x y=>exact .cons (k _ _ (List.mem_cons_self ..) x) (GF y fun a b hb=>k a b (List.mem_cons_of_mem _ hb))
theorem HD {α β:Type} {F:α->β->Prop}:∀ {l:List α} {z:α} {vs:List β},Paired F (l++[z]) vs->∃ us u,vs=us++[u]/\Paired F l us/\F z u
 | [],z,_,h=>by
  cases h with
  | cons x y=>cases y; exact ⟨[],_,rfl,.nil,x⟩
 | a::l,z,_,h=>by
  cases h with
  | cons x y =>
   obtain ⟨us,u,rfl,h1,h2⟩:=HD y
   exact ⟨_::us,u,rfl,.cons x h1,h2⟩
theorem Gb.putK {H0 H:Hp} {db dr kn T L:Addr} {TL:List (Addr × Addr)} {s:HW} {n:Nat} {r:R} {rv:V} (h:Gb H0 H db dr kn TL s n) (hT:H T=some (.tup [rv,.ref L])) (hL:H L=some (.lst [])) (hr:TupAt H r.v rv) (h0:H0 L=none) (hk:L ≠ kn) (hn:L ∉ TL.map (·.2)) :
  Gb H0 (upd H kn (.lst ((TL.map fun a=>V.ref a.1)++[.ref T]))) db dr kn (TL++[(T,L)]) { s with kn:=s.kn++[(r,[])] } (n+1):=by
 have hd:db ≠ kn:=fun e=>by obtain ⟨kvs,h1,_⟩:=h.b; rw [e,h.k] at h1; cases h1
 have hd2:dr ≠ kn:=fun e=>by obtain ⟨kvs,h1,_⟩:=h.r; rw [e,h.k] at h1; cases h1
 have keep:∀ g a,a.2 ≠ kn->UT H g a->UT (upd H kn (.lst ((TL.map fun a=>V.ref a.1)++[.ref T]))) g a:=fun g a ha q=>by
  obtain ⟨rv,lvs,h1,h2,h3,h4⟩:=q
  exact ⟨rv,lvs,By h1 h.k (by simp),D_ h2 h.k (by simp),by rw [Al ha]; exact h3,CP h4 h.k⟩
 refine ⟨h.b.Ho h.k (by simp) hd (Nat.le_succ _),h.r.Ho h.k (by simp) hd2 (Nat.le_succ _),by rw [Af,List.map_append]; rfl,?_,fun a ha=>?_,?_⟩
 ·rw [List.map_append,List.nodup_append]
  refine ⟨h.nd,List.nodup_cons.mpr ⟨List.not_mem_nil,List.nodup_nil⟩,fun a ha b hb e=>?_⟩
  subst e
  rw [List.map_cons,List.map_nil,List.mem_singleton] at hb
  rw [hb] at ha
  exact hn ha
 ·rcases List.mem_append.mp ha with ha | ha
  ·exact h.fr a ha
  ·rw [List.mem_singleton.mp ha]
   exact ⟨h0,hk⟩
 ·refine CJ (GF h.pr fun g a ha q=>keep g a (h.fr a ha).2 q) (.cons ?_ .nil)
  exact keep _ (T,L) hk ⟨rv,[],hT,hr,hL,.nil⟩
theorem Gb.line {H0 H:Hp} {db dr kn:Addr} {TL:List (Addr × Addr)} {s:HW} {n:Nat} {ks:List (R × List R)} {g l:R} {ls:List R} {rv:V} (h:Gb H0 H db dr kn TL s n) (e:s.kn=ks++[(g,ls)]) (hr:TupAt H l.v rv) :
  ∃ tl T L rv0 lvs,TL=tl++[(T,L)]/\H T=some (.tup [rv0,.ref L])/\H L=some (.lst lvs)/\lvs.length=ls.length/\H0 L=none/\Gb H0 (upd H L (.lst (lvs++[rv]))) db dr kn TL { s with kn:=ks++[(g,ls++[l])] } (n+1):=by
 have pr:=h.pr
 rw [e] at pr
 obtain ⟨tl,⟨T,L⟩,rfl,p1,rv0,lvs,h1,h2,h3,h4⟩:=HD pr
 obtain ⟨f1,f2⟩:=h.fr (T,L) (by simp)
 have hL:H L=some (.lst lvs):=h3
 have hd:db ≠ L:=fun e=>by obtain ⟨kvs,h1,_⟩:=h.b; rw [e,hL] at h1; cases h1
 have hd2:dr ≠ L:=fun e=>by obtain ⟨kvs,h1,_⟩:=h.r; rw [e,hL] at h1; cases h1
 refine ⟨tl,T,L,rv0,lvs,rfl,h1,h3,h4.length.symm,f1,h.b.Ho hL (by simp) hd (Nat.le_succ _),h.r.Ho hL (by simp) hd2 (Nat.le_succ _),by rw [Al (Ne.symm f2)]; exact h.k,h.nd,h.fr,?_⟩
 refine CJ (GF p1 fun g' a ha q=>?_) (.cons ?_ .nil)
 ·have ne:a.2 ≠ L:=fun z=>by
   have nd:=h.nd
   rw [List.map_append,List.nodup_append] at nd
   exact nd.2.2 _ (List.mem_map.mpr ⟨a,ha,rfl⟩) _ (by rw [List.map_cons]; exact List.mem_cons_self ..) z
  obtain ⟨rv',lvs',q1,q2,q3,q4⟩:=q
  exact ⟨rv',lvs',By q1 hL (by simp),D_ q2 hL (by simp),by rw [Al ne]; exact q3,CP q4 hL⟩
 ·exact ⟨rv0,lvs++[rv],By h1 hL (by simp),D_ h2 hL (by simp),Af,CJ (CP h4 hL) (.cons (D_ hr hL (by simp)) .nil)⟩
structure JQ (H:Hp) (m:Addr) (sz:List Nat) (rk:List (Nat × Int)) (gs:List Gp):Prop where
 ex:∃ (H0:Hp) (kvs:List (Key × V)) (db dr kn:Addr) (TL:List (Addr × Addr)) (n:Nat),H m=some (.dK kvs)/\Cj kvs (Sum.inr "boards")=some (.ref db)/\Cj kvs (Sum.inr "ranks")=some (.ref dr)/\Cj kvs (Sum.inr "knobs")=some (.ref kn)/\Cj kvs (Sum.inr "keys")=some (.int ((sz.sum:Nat):Int))/\Gb H0 H db dr kn TL (mW sz rk gs) n
theorem JQ.mono {H H':Hp} {m:Addr} {sz:List Nat} {rk:List (Nat × Int)} {gs:List Gp} (s:Ak H H') (h:JQ H m sz rk gs):JQ H' m sz rk gs:=by
 obtain ⟨H0,kvs,db,dr,kn,TL,n,h1,h2,h3,h4,h5,h6⟩:=h.ex
 exact ⟨H0,kvs,db,dr,kn,TL,n,s _ _ h1,h2,h3,h4,h5,h6.mono s (Nat.le_refl _)⟩
theorem JQ.keys {H:Hp} {m:Addr} {sz:List Nat} {rk:List (Nat × Int)} {gs:List Gp} (h:JQ H m sz rk gs):Hq H m (.str "keys") (some (.int ((sz.sum:Nat):Int))):=by
 obtain ⟨H0,kvs,db,dr,kn,TL,n,h1,h2,h3,h4,h5,h6⟩:=h.ex
 exact .inl ⟨kvs,Sum.inr "keys",.inl h1,rfl,h5.symm⟩
theorem JQ.aW {H:Hp} {m:Addr} {sz:List Nat} {rk:List (Nat × Int)} {gs:List Gp} (h:JQ H m sz rk gs):∃ kn TL,Hq H m (.str "knobs") (some (.ref kn))/\H kn=some (.lst (TL.map fun a:Addr × Addr=>V.ref a.1))/\TL.length=gs.length/\Paired (UT H) (gs.map Gp.kn) TL:=by
 obtain ⟨H0,kvs,db,dr,kn,TL,n,h1,h2,h3,h4,h5,h6⟩:=h.ex
 have pr:Paired (UT H) (gs.map Gp.kn) TL:=h6.pr
 have:=pr.length
 rw [List.length_map] at this
 exact ⟨kn,TL,.inl ⟨kvs,Sum.inr "knobs",.inl h1,rfl,h4.symm⟩,h6.k,this.symm,pr⟩
section
variable {K:PySem.W.Frag} {aB aP aM:Addr}
theorem Kh {sz:List Nat} {rk:List (Nat × Int)} {gs:List Gp} (h:Ue sz rk gs):(Ge sz rk gs).length<=66:=by
 have l1:(Fx sz).length=sz.length:=by unfold Fx; rw [List.length_map,List.length_zipIdx]
 have l2:(Gg rk).length=rk.length:=by unfold Gg; rw [List.length_map,List.length_zipIdx]
 have key:∀ l:List Gp,(∀ g∈l,g.ok sz rk.length)->(l.flatMap Gp.rows).length<=5 * l.length:=by
  intro l
  induction l with
  | nil=>intro _; simp
  | cons g l ih =>
   intro ok
   rw [List.flatMap_cons,List.length_append,List.length_cons]
   have:=ih fun x hx=>ok x (by simp [hx])
   have h2:g.rows.length<=5:=by
    have o:=ok g (by simp)
    unfold Gp.rows
    rw [List.length_cons,List.length_map]
    cases g with
    | st k b ls=>have:=o.2.2.1; show ls.length+1<=5; omega
    | cp=>show 0+1<=5; omega
    | mu=>show 0+1<=5; omega
   omega
 have:=key gs h.ok
 have a:=h.l3
 have b:=h.r3
 have c:=h.len
 unfold Ge
 rw [List.length_append,List.length_append,List.length_map,List.length_map]
 omega
theorem Z3 (F:Nj K aB aP aM) {H:Hp} {vs:List V} {sz:List Nat} {rk:List (Nat × Int)} {gs:List Gp} (h:Ue sz rk gs) (hv:Paired (fun (r:R) v=>TupAt H r.v v) (Ge sz rk gs) vs) :
  Rows H (QZ H) vs/\Z_ K aB aP aM (QZ H) vs (Fx sz) (Gg rk) (gs.map Gp.head)/\linesOf (Gg rk) (vs.map (QZ H))=gs.map Gp.QM:=by
 have l1:(Fx sz).length=sz.length:=by unfold Fx; rw [List.length_map,List.length_zipIdx]
 have l2:(Gg rk).length=rk.length:=by unfold Gg; rw [List.length_map,List.length_zipIdx]
 have a1:=h.l1
 have a3:=h.l3
 have r3:=h.r3
 have hg:=h.len
 refine (Zv F h).fin hv (by omega) (by omega) (fun b hb=>?_) (by omega) (fun r hr=>?_) (by rw [List.length_map]; omega) (Xb h.l3) (Ti h.r3) ?_ (Nat.le_trans (Kh h) (by decide))
 ·obtain ⟨p,hp,rfl⟩:=List.mem_map.mp hb
  have:=List.mem_zipIdx hp
  simp at this
  exact (h.z _ (by rw [this.2]; exact List.getElem_mem _)).2
 ·obtain ⟨p,hp,rfl⟩:=List.mem_map.mp hr
  have:=List.mem_zipIdx hp
  simp at this
  exact (h.r _ (by rw [this.2]; exact List.getElem_mem _)).2.1
 ·rw [List.map_map]
  have e:((·.nm) ∘ Gp.head)=Gp.nm:=funext Gp.Ox
  rw [e]
  exact h.nd
end
theorem VJ {sz:List Nat} {rk:List (Nat × Int)} {gs:List Gp} (h:Ue sz rk gs):1<=sz.sum/\sz.sum<=183:=by
 have key:∀ l:List Nat,(∀ x∈l,1<=x/\x<=61)->l.length<=l.sum/\l.sum<=61 * l.length:=by
  intro l
  induction l with
  | nil=>intro _; simp
  | cons a l ih =>
   intro hz
   have h1:=hz a (by simp)
   have h2:=ih fun x hx=>hz x (by simp [hx])
   rw [List.sum_cons,List.length_cons]
   omega
 have:=key sz h.z
 have a1:=h.l1
 have a3:=h.l3
 omega
end Og
namespace Gn
noncomputable def eX (acc:List (Nat × Nat)) (r:Nat):Nat:=((acc.find? fun p=>decide (p.1=r)).map (·.2)).getD 0
noncomputable def jg (acc:List (Nat × Nat)) (r k:Nat):List (Nat × Nat):=if (acc.any fun p=>decide (p.1=r))=true then acc.map (fun p=>if p.1=r then (p.1,eX acc r ||| Wd.mk [k]) else p) else acc++[(r,eX acc r ||| Wd.mk [k])]
noncomputable def kW (acc:List (Nat × Nat)) (p:Nat × Nat):List (Nat × Nat):=if p.1=0 then acc else jg acc p.1 p.2
structure lW (n:Nat) (rw:List Nat) (acc:List (Nat × Nat)):Prop where
 nz:∀ p∈acc,p.1 ≠ 0
 bit:∀ p∈acc,∀ k,p.2.testBit k=true ↔ k<n/\rw.getD k 0=p.1
 ne:∀ p∈acc,∃ k,p.2.testBit k=true
 nd:(acc.map (·.1)).Nodup
 ord:acc.Pairwise fun p q=>∀ k,q.2.testBit k=true->∃ k',k'<k/\p.2.testBit k'=true
 all:∀ k,k<n->rw.getD k 0 ≠ 0->rw.getD k 0∈acc.map (·.1)
 len:acc.length<=n
end Gn
namespace L2
open PySem PySem.Spec PyProof.Rows
section
variable {σ:St} {H1:Hp} {Q:VK} {te:TE}
end
end L2
namespace L2
open PySem PySem.Spec PyProof.Rows
end L2
namespace L2
open PySem PySem.Spec PyProof.Rows
section
variable {X:Cx} {pins:List (Addr × Obj)} {σ:St} {H:Hp} {s:Shared} {x z:Str} {scope:Scope} {fp:List Addr} {C:Addr}
end
section
variable {X:Cx} {x z:Str} {scope:Scope}
end
section
variable {X:Cx} {x z:Str} {scope:Scope}
end
end L2
namespace L2
open PySem PySem.Spec PySem.Calls PyProof.Rows
end L2
namespace Og
open PySem L2
noncomputable def fD (G:V->List V->Prop) (D:Addr) (H1 H:Hp) (x y:V):Prop:=∃ l ys,y=.ref l/\l ≠ D/\H1 l=none/\H l=some (.lst ys)/\G x ys
theorem NZ {K:PySem.W.Frag} {σ:St} {H1:Hp} {Q:VK} {tt:TT} {te:TE} {l:Addr} {xs:List V} (G:V->List V->Prop) (hl:Cg K H1 l xs) (hz:xs.length<sizeLine)
  (ht:∀ x∈xs,∀ H,Ak H1 H->∀ R:Bool->Hp->Prop,(∀ H',Ak H H'->R true H')->tt (some x::σ) H R)
  (he:∀ x∈xs,∀ H,Ak H1 H->∀ R:VK,(∀ l ys H',H l=none->Ak H H'->H' l=some (.lst ys)->G x ys->R (.ref l) H')->te (some x::σ) H R)
  (hq:∀ D H zs,H1 D=none->Ak H1 H->H D=some (.lst zs)->Paired (fD G D H1 H) xs zs->Q (.ref D) H):Fl (WD K l) σ H1 Q tt te:=by
 intro D hD
 have s0:Ak H1 (upd H1 D (.lst [])):=fun b o e=>by rw [Al (Aj e hD)]; exact e
 refine ⟨fun i m ys H=>m=xs.length - i/\i<=xs.length/\Ak H1 H/\H D=some (.lst ys)/\Paired (fD G D H1 H) (xs.take i) ys,⟨xs.length,by simp,Nat.zero_le _,s0,Af,.nil⟩,?_⟩
 rintro i m ys H ⟨rfl,hi,hs,hd,B⟩
 by_cases hlt:i<xs.length
 ·obtain ⟨x,hx⟩:∃ x,xs[i]? = some x:=⟨xs[i],by simp [hlt]⟩
  refine .inr ⟨⟨xs,_,hs.seq hl,hx⟩,fun y H3 hyl=>?_⟩
  obtain ⟨rfl,hy'⟩:=hyl
  have hy2:=hy' xs (hs.seq hl)
  rw [hx] at hy2
  cases hy2
  have lb:=B.length
  rw [List.length_take] at lb
  refine ht _ (List.mem_of_getElem? hx) _ hs _ fun H4 s4=>?_
  rw [if_pos rfl]
  refine he x (List.mem_of_getElem? hx) H4 (hs.trans s4) _ fun y ys' H5 hy s5 hy5 hg=>?_
  have d4:=s4 _ _ hd
  have d5:=s5 _ _ d4
  have ny:y ≠ D:=fun e=>by rw [e,d4] at hy; cases hy
  refine ⟨d5,by omega,xs.length - (i+1),by omega,rfl,hlt,fun b o e=>?_,Af,?_⟩
  ·rw [Al (Aj e hD)]; exact s5 _ _ (s4 _ _ (hs _ _ e))
  ·rw [List.take_add_one,hx]
   refine Paired.snoc (Paired.Eo B fun x y p=>?_) ⟨y,ys',rfl,ny,(hs.trans s4).free hy,by rw [Al ny]; exact hy5,hg⟩
   obtain ⟨l',zs,e,n1,n2,e3,g⟩:=p
   exact ⟨l',zs,e,n1,n2,by rw [Al n1]; exact s5 _ _ (s4 _ _ e3),g⟩
 ·have e:i=xs.length:=by omega
  subst e
  rw [List.take_of_length_le (Nat.le_refl _)] at B
  exact .inl ⟨⟨xs,hs.seq hl,Nat.le_refl _⟩,hq D H ys hD hs hd B⟩
end Og
namespace L2
open PySem PySem.Spec PyProof.Rows
section
variable {σ:St} {H1:Hp} {Q:VK} {te:TE}
end
end L2
namespace Gn
end Gn
namespace L2
open PySem PySem.Spec PyProof.Rows
theorem Jm (y:Str) (k:NameKind) (r:List (Str × NameKind)) (n:Nat) (acc:List (Str × Addr)):cellsFrom n ((y,k)::r) acc=if (k == NameKind.cell)=true then cellsFrom (n+1) r ((y,n)::acc) else cellsFrom n r acc:=rfl
theorem K1 (y:Str) (k:NameKind) (r:List (Str × NameKind)) (h:Heap):pushCells h ((y,k)::r)=if (k == NameKind.cell)=true then pushCells (h.push { cls:=.type "cell",data:=.cell none }) r else pushCells h r:=rfl
theorem Hk:∀ (names:List (Str × NameKind)) (n:Nat) (acc:List (Str × Addr)),cellsFrom n names acc=cellsFrom n (names.filter fun y=>y.2 == .cell) acc
 | [],_,_=>rfl
 | (y,k)::r,n,acc=>by
  rw [List.filter_cons,Jm]
  by_cases hk:(k == NameKind.cell)=true
  ·rw [if_pos hk,if_pos hk,Jm,if_pos hk]
   exact Hk r _ _
  ·rw [if_neg hk,if_neg hk]
   exact Hk r n acc
theorem JG:∀ (names:List (Str × NameKind)) (h:Heap),pushCells h names=pushCells h (names.filter fun y=>y.2 == .cell)
 | [],_=>rfl
 | (y,k)::r,h=>by
  rw [List.filter_cons,K1]
  by_cases hk:(k == NameKind.cell)=true
  ·rw [if_pos hk,if_pos hk,K1,if_pos hk]
   exact JG r _
  ·rw [if_neg hk,if_neg hk]
   exact JG r h
theorem Od {M:Model} {A:Around} {E:Value->Shared->Prop} {s:Shared} {scope:Scope} {globals:Addr} {closure:List (Str × Addr)} {qual:Str} {func:Option Addr} {code:Value} {outer:Env} {builtins:Addr} {x:Str} {Q:Env->Shared->Prop}
  (one:scope.names.filter (fun y=>y.2 == .cell)=[(x,.cell)])
  (hQ:∀ h',h'.Ns s.heap.objs.size (fun _=>none)->h'.IsCell (s.heap.objs.size+1) none->(∀ b o,s.heap.get? b=some o->h'.get? b=some o)->Q (newEnv scope s.heap.objs.size globals ((x,s.heap.objs.size+1)::closure) qual func code (some outer) builtins) { s with heap:=h' }) :
  wpAny M A (newFunctionEnv scope globals closure [] qual func code (some outer) builtins) Q E s:=by
 simp only [newFunctionEnv,Option.isSome_some,if_true]
 refine wpAny_bind (wpAny_alloc ?_)
 refine wpAny_bind (wpAny_layCells _ (fun name kind cells=>by cases hkc:kind == NameKind.cell <;> simp [hkc]) _ _ _ _ ?_)
 rw [Hk,JG,one]
 have hsz:(s.heap.push { cls:=.type "dict",data:=.dict #[] }).objs.size=s.heap.objs.size+1:=Heap.size_push ..
 show wpAny M A _ Q E _
 refine wpAny_bind ?_
 rw [List.forIn_nil]
 refine wpAny_pure (wpAny_pure ?_)
 have e1:cellsFrom (s.heap.push { cls:=.type "dict",data:=.dict #[] }).objs.size [(x,NameKind.cell)] closure=(x,s.heap.objs.size+1)::closure:=by
  rw [hsz]
  rfl
 have:=hQ ((s.heap.push { cls:=.type "dict",data:=.dict #[] }).push { cls:=.type "cell",data:=.cell none }) ((Heap.Ns.new s.heap (.type "dict")).keeps fun b o e=>Heap.get?_push_of_some _ e) ?_ fun b o e=>Heap.get?_push_of_some _ (Heap.get?_push_of_some _ e)
 ·have e2:({ s with heap:=s.heap.push { cls:=.type "dict",data:=.dict #[] } }:Shared).heap.objs.size=s.heap.objs.size+1:=hsz
  rw [e2]
  exact this
 ·refine ⟨{ cls:=.type "cell",data:=.cell none },?_,rfl⟩
  rw [← hsz]
  exact Heap.get?_push_size _ rfl
noncomputable def Bk (X:Cx) (x:Str) (scope:Scope) (C:Addr) (s₀:Shared) (H₀:Hp) (fp:List Addr):Cx where
 prog:=X.prog
 w:=X.w
 K:=X.K
 mg:=X.mg
 base:=X.base
 A:=X.A
 N:=x::Dd x X.N
 s₀:=s₀
 H₀:=H₀
 env:=compEnvC scope ((x,C+1)::Bx X.env scope.names []) C X.env
 outer:=X.stack
 stack:=X.stack
 ex:=fp
 fn:=fun y=>decide (y=x)
 calm:=X.calm
 pn:=[]
 xe:=fun _ _=>False
structure Dm (X:Cx) (x:Str) (scope:Scope):Prop where
 kind:scope.kind=.function
 one:scope.names.filter (fun y=>y.2 == .cell)=[(x,.cell)]
 names:∀ y∈scope.names,y.2=.local->scope.names.lookup y.1=some .local
 loc:scope.names.lookup x=some .cell
 free:∀ y∈scope.names,y.2=.free->X.env.kindOf y.1=some .cell \/ X.env.kindOf y.1=some .free
 nd:(x::Dd x X.N).Nodup
 only:∀ y∈Dd x X.N,scope.names.lookup y ≠ some .local
 noE:scope.names.lookup ("" : Str)=none
theorem Dm.bD {X:Cx} {x:Str} {scope:Scope} (S:Dm X x scope) (y:Str) (h:(y,NameKind.cell)∈scope.names):y=x:=by
 have:(y,NameKind.cell)∈scope.names.filter (fun y=>y.2 == .cell):=List.mem_filter.mpr ⟨h,rfl⟩
 rw [S.one,List.mem_singleton] at this
 exact (Prod.mk.inj this).1
section
variable {X:Cx} {pins:List (Addr × Obj)} {σ:St} {H:Hp} {s:Shared} {x:Str} {scope:Scope} {fp:List Addr} {C:Addr}
theorem NK {h':Heap} {tk:Nat} {m:Str->Option Value} (I:Inv X pins σ H s) (S:Dm X x scope) (hf:∀ b∈fp,Ep X pins H b) (hlt:∀ b∈fp,b<s.heap.objs.size) (hC:s.heap.objs.size<=C) (hn:h'.Ns C m)
  (hk:∀ b o,s.heap.get? b=some o->h'.get? b=some o) (hc1:h'.IsCell (C+1) none):Inv (Bk X x scope C s H fp) [] (none::σ) H { s with heap:=h',toks:=tk }:=by
 have cl:∀ y c,(Bx X.env scope.names []).lookup y=some c->X.env.cells.lookup y=some c:=fun y c e=>by
  rcases Eu X.env scope.names [] y c e with z | z
  ·cases z
  ·exact z
 have cellK:∀ c v,s.heap.IsCell c v->h'.IsCell c v:=fun c v ⟨o,ho,hd⟩=>⟨o,hk c o ho,hd⟩
 have look:∀ y,(Bk X x scope C s H fp).env.scope.names.lookup y=(scope.names.lookup y).map fun k=>if (k == NameKind.free && X.env.scope.kind == .function && X.env.kindOf y == some .cell) then NameKind.cell else k:=fun y=>DN X.env y scope.names
 have old:∀ y c,(Bx X.env scope.names []).lookup y=some c->c ≠ C+1:=fun y c e z=>by
  obtain ⟨v,o,ho,_⟩:=I.cell y c (cl y c e)
  have:=Heap.lt_size ho
  rw [z] at this
  exact absurd (Nat.lt_of_lt_of_le this (Nat.le_trans hC (Nat.le_succ C))) (Nat.lt_irrefl _)
 have cs:∀ y c,(Bk X x scope C s H fp).env.cells.lookup y=some c->(y=x/\c=C+1) \/ (y ≠ x/\(Bx X.env scope.names []).lookup y=some c):=fun y c e=>by
  have e':List.lookup y ((x,C+1)::Bx X.env scope.names [])=some c:=e
  rw [List.lookup_cons] at e'
  by_cases h:y=x
  ·subst h
   simp at e'
   exact .inl ⟨rfl,e'.symm⟩
  ·have hb:(y == x)=false:=beq_eq_false_iff_ne.mpr h
   rw [hb] at e'
   exact .inr ⟨h,e'⟩
 have cs2:∀ y c,y ≠ x->(Bx X.env scope.names []).lookup y=some c->(Bk X x scope C s H fp).env.cells.lookup y=some c:=fun y c h e=>by
  show List.lookup y ((x,C+1)::Bx X.env scope.names [])=some c
  have hb:(y == x)=false:=beq_eq_false_iff_ne.mpr h
  rw [List.lookup_cons,hb]
  exact e
 have cs1:(Bk X x scope C s H fp).env.cells.lookup x=some (C+1):=by
  show List.lookup x ((x,C+1)::Bx X.env scope.names [])=some (C+1)
  rw [List.lookup_cons]
  simp
 have isx:∀ {y},scope.names.lookup y=some .cell->y=x:=fun {y} e=>S.bD y (PySem.mem_of_lookup e)
 have xh:x ∉ Dd x X.N:=(List.nodup_cons.mp S.nd).1
 refine ⟨⟨I.ok.mod,S.kind,I.ok.glob,I.ok.blt,hC,fun y z c e1 e2=>?_,fun y hy=>?_,fun y c e e2=>?_,fun h=>I.ok.hd h,I.ok.frames,.inl rfl,fun b hb=>?_,I.bs,Nat.le_trans I.ok.bsz I.sz,fun b o e hb=>?_,fun b hb hb'=>?_,I.stack,I.Jd⟩,
  rfl,I.bare,Un.kept hk,⟨m,hn,fun i y v h1 h2 h3=>?_⟩,fun y c e=>?_,I.hok.fresh hC,fun y c e=>(by rcases cs y c e with ⟨_,rfl⟩ | ⟨_,e⟩; exact I.hok.fresh (Nat.le_succ_of_le hC); exact I.freeC y c (cl y c e)),fun p hp=>absurd (show p∈([]:List (Addr × Obj)) from hp) (by simp),I.hok.kept hk,?_⟩
 ·rcases cs y c e1 with ⟨f1,f2⟩ | ⟨n1,g1⟩
  ·rcases cs z c e2 with ⟨f3,_⟩ | ⟨n2,g2⟩
   ·exact f1.trans f3.symm
   ·exact absurd f2 (old z c g2)
  ·rcases cs z c e2 with ⟨_,f4⟩ | ⟨n2,g2⟩
   ·exact absurd f4 (old y c g1)
   ·exact I.ok.inj y z c (cl y c g1) (cl z c g2)
 ·-- every cell of the block is there
  have hy':(Bk X x scope C s H fp).env.scope.names.lookup y=some .cell \/ (Bk X x scope C s H fp).env.scope.names.lookup y=some .free:=hy
  rw [look y] at hy'
  cases e:scope.names.lookup y with
  | none=>rw [e] at hy'; rcases hy' with z | z <;> cases z
  | some k =>
   have hm:=PySem.mem_of_lookup e
   by_cases hyx:y=x
   ·subst hyx
    exact ⟨_,cs1⟩
   have hfree:k=.free:=by
    rw [e] at hy'
    cases k with
    | free=>rfl
    | cell=>exact absurd (isx e) hyx
    | _=>rcases hy' with z | z <;> simp at z
   subst hfree
   obtain ⟨c,hc⟩:=I.ok.has y (S.free _ hm rfl)
   obtain ⟨c',hc'⟩:=Option.isSome_iff_exists.mp (DX X.env scope.names [] y hm (by rw [hc]; rfl))
   exact ⟨c',cs2 y c' hyx hc'⟩
 ·have ey:y=x:=of_decide_eq_true e
  subst ey
  rw [cs1] at e2
  cases e2
  exact Nat.le_succ_of_le hC
 ·obtain ⟨f0,f1,f2,f3,f4,f5⟩:=hf b hb
  refine ⟨Nat.ne_of_lt (Nat.lt_of_lt_of_le (hlt b hb) hC),fun y c e=>?_⟩
  rcases cs y c e with ⟨_,rfl⟩ | ⟨_,e⟩
  ·exact Ne.symm (Nat.ne_of_lt (Nat.lt_of_lt_of_le (hlt b hb) (Nat.le_succ_of_le hC)))
  ·exact f4 y c (cl y c e)
 ·obtain ⟨f0,f1,f2,f3,f4,f5⟩:=hf b hb
  rcases f3 with z | z
  ·exact I.ok.noex b o e z
  ·exact absurd (Nat.lt_of_lt_of_le (Heap.lt_size e) (Nat.le_trans I.ok.bsz z)) (Nat.lt_irrefl _)
 ·obtain ⟨f0,f1,f2,f3,f4,f5⟩:=hf b hb
  rcases List.mem_cons.mp (I.Jx b hb') with e | e
  ·exact f1 e
  ·exact f2 e
 ·cases i with
  | zero =>
   have h2':(some none:Option (Option V))=some (some v):=h2
   cases h2'
  | succ i =>
   have h1':(Dd x X.N)[i]? = some y:=h1
   have h2':σ[i]? = some (some v):=h2
   have hmem:y∈Dd x X.N:=List.mem_of_getElem? h1'
   unfold Dd at h1'
   rw [List.getElem?_map] at h1'
   cases e0:X.N[i]? with
   | none=>rw [e0] at h1'; cases h1'
   | some y0 =>
    rw [e0] at h1'
    have h1'':(if y0=x then ("" : Str) else y0)=y:=Option.some.inj h1'
    have h3':(Bk X x scope C s H fp).env.scope.names.lookup y=some .local \/ (Bk X x scope C s H fp).env.scope.names.lookup y=some .cell \/ (Bk X x scope C s H fp).env.scope.names.lookup y=some .free:=h3
    rw [look y] at h3'
    have hy0:y0=y:=by
     by_cases q:y0=x
     ·rw [if_pos q] at h1''
      rw [← h1'',S.noE] at h3'
      rcases h3' with z | z | z <;> cases z
     ·rw [if_neg q] at h1''
      exact h1''
    subst hy0
    cases e:scope.names.lookup y0 with
    | none=>rw [e] at h3'; rcases h3' with z | z | z <;> cases z
    | some k =>
     have hm:=PySem.mem_of_lookup e
     have hfree:k=.free:=by
      rw [e] at h3'
      cases k with
      | free=>rfl
      | cell=>exact absurd (isx e ▸ hmem) xh
      | «local»=>exact absurd e (S.only y0 hmem)
      | _=>rcases h3' with z | z | z <;> simp at z
     subst hfree
     have kd:=S.free _ hm rfl
     obtain ⟨m0,hn0,hl0⟩:=I.loc
     obtain ⟨u,r,l⟩:=hl0 i y0 v e0 h2' (by rcases kd with z | z; exact .inr (.inl z); exact .inr (.inr z))
     refine ⟨u,r,.inr ⟨?_,?_⟩⟩
     ·have hk':(Bk X x scope C s H fp).env.scope.names.lookup y0=some (if (NameKind.free == NameKind.free && X.env.scope.kind == .function && X.env.kindOf y0 == some .cell) then NameKind.cell else NameKind.free):=by
       rw [look y0,e]; rfl
      by_cases c:(NameKind.free == NameKind.free && X.env.scope.kind == .function && X.env.kindOf y0 == some .cell)=true
      ·rw [if_pos c] at hk'; exact .inl hk'
      ·rw [if_neg c] at hk'; exact .inr hk'
     ·rcases l with ⟨lk,_⟩ | ⟨_,c,hc,hcell⟩
      ·exfalso
       rcases kd with z | z <;> (rw [show X.env.kindOf y0=some NameKind.local from lk] at z; cases z)
      ·obtain ⟨c',hc'⟩:=Option.isSome_iff_exists.mp (DX X.env scope.names [] y0 hm (by rw [hc]; rfl))
       have:=cl y0 c' hc'
       rw [hc] at this
       cases this
       exact ⟨c,cs2 y0 c (fun z=>xh (z ▸ hmem)) hc',cellK c _ hcell⟩
 ·rcases cs y c e with ⟨_,rfl⟩ | ⟨_,e⟩
  ·exact ⟨none,hc1⟩
  ·obtain ⟨v,z⟩:=I.cell y c (cl y c e)
   exact ⟨v,cellK c v z⟩
 ·show (none::σ).length=(x::Dd x X.N).length
  simp [Dd,I.len]
end
section
variable {X:Cx} {x:Str} {scope:Scope}
theorem JZ {px pos:Pos} {iter elt:Expr} {ifs:List Expr} {tt:TT} {te:TE} {pins:List (Addr × Obj)} {σ:St} {s2:Shared} {H2:Hp} {it:Addr} {fp:List Addr} {tn:Nat->Heap->Prop} {J:It} {E:Value->Shared->Prop}
  {RR:Value->Addr->Result->Shared->Prop} {Q:VK}
  (hc:X.calm=true) (S:Dm X x scope) (ht:∀ C s₀ H₀ fp,KN (Bk X x scope C s₀ H₀ fp) ifs tt) (he:∀ C s₀ H₀ fp,PE (Bk X x scope C s₀ H₀ fp) elt te)
  (I2:Inv X pins σ H2 s2) (T:Turn X.prog X.w X.K (.Name x px) J fp it tn) (st2:tn 0 s2.heap) (f2:∀ b∈fp,Ep X pins H2 b)
  (q:∀ D,H2 D=none->∃ W:Nat->Nat->List V->Hp->Prop,(∃ m,W 0 m [] (upd H2 D (.lst [])))/\∀ i m ys H2,W i m ys H2 ->
   (J.stop i H2/\Q (.ref D) H2) \/ (J.go i H2/\∀ x H3,J.yld i H2 x H3->tt (some x::σ) H3 fun b H4 =>
    if b=true then te (some x::σ) H4 fun y H5=>H5 D=some (.lst ys)/\ys.length<sizeLine/\∃ m',m'<m/\W (i+1) m' (ys++[y]) (upd H5 D (.lst (ys++[y])))
    else ∃ m',m'<m/\W (i+1) m' ys H4))
  (hRR:∀ D C s' H' m,s'.heap.Ns C m->Ep X pins H' C->Inv X pins σ H' s'->Q (.ref D) H'->RR (.ref D) C (.ok .next) s') :
  wpAny (model X.prog X.w) X.A (newList []) (fun acc s₃=>wpAny (model X.prog X.w) X.A (newFunctionEnv scope X.env.globals (Bx X.env scope.names []) [] X.env.qual none .none (some X.env)) (fun cenv s₄ =>
   codeAny (model X.prog X.w) X.A (.compStart (.ListComp elt [⟨.Name x px,iter,ifs,0⟩] scope pos) 0 (.ref it) acc { cenv with scope:=relabel scope X.env }) (RR acc cenv.locals) s₄) E s₃) E s2:=by
 refine wpAny_newObj_type (Od S.one (fun h₁ hns₁ hc₁ hkk=>?_))
 have I3:=I2.Va (its:=[]) (ys:=[]) (t':=s2.toks) .nil (Nat.zero_le _)
 have hD0:H2 s2.heap.objs.size=none:=I2.fresh
 obtain ⟨W,⟨m0,w0⟩,turn⟩:=q _ hD0
 generalize hs3:({ s2 with heap:=s2.heap.push { cls:=.type "list",data:=.seq ([]:List Value).toArray },toks:=s2.toks }:Shared)=s3 at I3
 have e3:s3.heap=s2.heap.push { cls:=.type "list",data:=.seq ([]:List Value).toArray }:=by rw [← hs3]
 have hlt:∀ b∈fp,b<s2.heap.objs.size:=fun b hb=>let ⟨_,e,_⟩:=T.obj _ _ st2 b hb; Heap.lt_size e
 have hlt3:∀ b∈fp,b<s3.heap.objs.size:=fun b hb=>by rw [e3,Heap.size_push]; exact Nat.lt_succ_of_lt (hlt b hb)
 have f3:∀ b∈fp,Ep X pins (upd H2 s2.heap.objs.size (.lst [])) b:=fun b hb=>⟨by rw [Al (Nat.ne_of_lt (hlt b hb))]; exact (f2 b hb).1,(f2 b hb).2⟩
 have hk1:∀ b o,s3.heap.get? b=some o->h₁.get? b=some o:=fun b o e=>by
  rw [e3] at e
  exact hkk b o e
 have hC:s3.heap.objs.size=(s2.heap.push { cls:=.type "list",data:=.seq ([]:List Value).toArray }).objs.size:=by rw [e3]
 have hns:h₁.Ns s3.heap.objs.size (fun _=>none):=by rw [hC]; exact hns₁
 have hc1:h₁.IsCell (s3.heap.objs.size+1) none:=by rw [hC]; exact hc₁
 have st3:tn 0 h₁:=T.keep _ _ _ st2 fun b hb o e=>hk1 b o (by rw [e3]; exact Heap.get?_push_of_some _ e)
 have hDC:s2.heap.objs.size ≠ s3.heap.objs.size:=by rw [e3,Heap.size_push]; exact Nat.ne_of_lt (Nat.lt_succ_self _)
 have start:∀ tk,Inv (Bk X x scope s3.heap.objs.size s3 (upd H2 s2.heap.objs.size (.lst [])) fp) [] (none::σ) (upd H2 s2.heap.objs.size (.lst [])) { s3 with heap:=h₁,toks:=tk }:=fun tk =>
  NK I3 S f3 hlt3 (Nat.le_refl _) hns hk1 hc1
 generalize hX:Bk X x scope s3.heap.objs.size s3 (upd H2 s2.heap.objs.size (.lst [])) fp=X' at start
 have eA:X'.A=X.A:=by rw [← hX]; rfl
 have eP:X'.prog=X.prog:=by rw [← hX]; rfl
 have eW:X'.w=X.w:=by rw [← hX]; rfl
 have eK:X'.K=X.K:=by rw [← hX]; rfl
 have eC:X'.env.locals=s3.heap.objs.size:=by rw [← hX]; rfl
 have loop:∀ tk,codeAny (model X.prog X.w) X.A (.compLoop (.ListComp elt [⟨.Name x px,iter,ifs,0⟩] scope pos) 0 (.ref it) (.ref s2.heap.objs.size) (compEnvC scope ((x,s3.heap.objs.size+1)::Bx X.env scope.names []) s3.heap.objs.size X.env))
   (RR (.ref s2.heap.objs.size) s3.heap.objs.size) { s3 with heap:=h₁,toks:=tk }:=by
  intro tk
  subst hX
  refine codeAny_compLoop_tests (fun n s'=>∃ i ys v0 H',Inv (Bk X x scope s3.heap.objs.size s3 (upd H2 s2.heap.objs.size (.lst [])) fp) [] (v0::σ) H' s'/\tn i s'.heap/\(∀ b∈fp,H' b=none)/\W i n ys H') ?_ m0
   ⟨0,[],none,_,start tk,st3,fun b hb=>(f3 b hb).1,w0⟩
  rintro n s4 ⟨i,ys,v0,H4,I4,st4,fr4,w4⟩
  have stat:∀ {H':Hp},(∀ b∈fp,H' b=none)->∀ b∈fp,Ep (Bk X x scope s3.heap.objs.size s3 (upd H2 s2.heap.objs.size (.lst [])) fp) [] H' b:=fun hn b hb=>by
   refine ⟨hn b hb,(I4.ok.exf b hb).1,I4.ok.exfs b hb,.inl hb,(I4.ok.exf b hb).2,fun p hp=>absurd (show p∈([]:List (Addr × Obj)) from hp) (by simp)⟩
  rcases turn i n ys H4 w4 with ⟨stop,qn⟩ | ⟨go,step⟩
  ·refine Bv (T.done (Bk X x scope s3.heap.objs.size s3 (upd H2 s2.heap.objs.size (.lst [])) fp) rfl rfl rfl hc i [] s4 (v0::σ) H4 _ I4 (stat fr4) st4 stop) fun r s5 ⟨hr,I5⟩=>?_
   subst hr
   obtain ⟨m,hn,_⟩:=I5.loc
   refine hRR _ _ s5 H4 m hn (I3.Jq (Nat.le_refl _) I5.free) (I3.call' (s':=s5) (ch:=fp) I5.os I5.base I5.hok I5.bare (fun b hb=>?_)) qn
   obtain ⟨_,g1,_,g3,g4,g5⟩:=f3 b hb
   exact ⟨g3,g1,g4,g5⟩
  ·refine Bv (T.item (Bk X x scope s3.heap.objs.size s3 (upd H2 s2.heap.objs.size (.lst [])) fp) rfl rfl rfl hc i [] s4 (v0::σ) H4 _ I4 (stat fr4) st4 go) fun r s5 ⟨u,hr,h5⟩=>?_
   subst hr
   intro Γ p hΓ
   obtain ⟨xv,H6,I6,r6,y6,st6,fr6⟩:=h5 Γ p hΓ
   refine (?_:wpAny _ _ _ _ _ _) Γ p hΓ
   have I6':=I6.pinned (stat fr6) (T.obj _ _ st6)
   have hloc:(Bk X x scope s3.heap.objs.size s3 (upd H2 s2.heap.objs.size (.lst [])) fp).env.scope.names.lookup x=some .cell:=by
    have:=DN X.env x scope.names
    rw [S.loc] at this
    exact this
   have again:∀ {s7:Shared} {H7:Hp} {ys':List V},Inv (Bk X x scope s3.heap.objs.size s3 (upd H2 s2.heap.objs.size (.lst [])) fp) ([]++Hl fp s5.heap) (some xv::σ) H7 s7->(∃ m',m'<n/\W (i+1) m' ys' H7) ->
     ∃ m,m<n/\∃ i ys v0 H',Inv (Bk X x scope s3.heap.objs.size s3 (upd H2 s2.heap.objs.size (.lst [])) fp) [] (v0::σ) H' s7/\tn i s7.heap/\(∀ b∈fp,H' b=none)/\W i m ys H':=fun {s7 H7 ys'} I7 hw=>by
    obtain ⟨m',hm,w7⟩:=hw
    refine ⟨m',hm,i+1,ys',some xv,H7,I7.Fw,T.keep _ _ _ st6 fun b hb o e=>(I7.pin (b,o) (List.mem_append_right _ (List.mem_append_right _ (DP hb e)))).1,fun b hb=>?_,w7⟩
    obtain ⟨o,e,d⟩:=T.obj _ _ st6 b hb
    exact (I7.pin (b,o) (List.mem_append_right _ (List.mem_append_right _ (DP hb e)))).2.1
   refine wpAny_assign_Name (Im (X:=Bk X x scope s3.heap.objs.size s3 (upd H2 s2.heap.objs.size (.lst [])) fp) (i:=0) I6' S.nd rfl (.inr hloc) r6 (fun s7 I7=>?_) (.inl (decide_eq_true rfl)))
   refine KZ (ht _ _ _ _ _ s7 (some xv::σ) H6 _ I7 (step xv H6 y6)) fun b s8 hq0=>?_
   obtain ⟨H8,I8,q8⟩:=hq0
   cases b with
   | false =>
    rw [if_neg Bool.false_ne_true] at q8 ⊢
    exact again I8 q8
   | true =>
    rw [if_pos rfl] at q8 ⊢
    refine KZ (he _ _ _ _ _ s8 (some xv::σ) H8 _ I8 q8) fun y s9 hq0=>?_
    obtain ⟨yv,H9,I9,r9,hD9,hz9,q9⟩:=hq0
    refine KZ (Cm (X:=Bk X x scope s3.heap.objs.size s3 (upd H2 s2.heap.objs.size (.lst [])) fp) _ s9 (some xv::σ) H9 (.ref s2.heap.objs.size) [yv] (.ref s2.heap.objs.size) [y] (fun _ H'=>H'=upd H9 s2.heap.objs.size (.lst (ys++[yv]))) I9 rfl (.cons r9 .nil)
     ⟨_,ys,yv,rfl,rfl,hD9,hz9,rfl⟩) fun _ s10 ⟨_,H10,I10,_,e10⟩=>?_
    subst e10
    exact again I10 q9
 have key:=fun tk=>codeAny_compStart_list (R:=RR (.ref s2.heap.objs.size) s3.heap.objs.size) (loop tk) (T.self X.A 0 { s3 with heap:=h₁,toks:=tk } (fun it' s'=>codeAny (model X.prog X.w) X.A (.compLoop (.ListComp elt [⟨.Name x px,iter,ifs,0⟩] scope pos) 0 it' (.ref s2.heap.objs.size) (compEnvC scope ((x,s3.heap.objs.size+1)::Bx X.env scope.names []) s3.heap.objs.size X.env)) (RR (.ref s2.heap.objs.size) s3.heap.objs.size) s') _ st3 (loop tk))
 subst hs3
 exact key _
theorem Tg {px pos:Pos} {iter elt:Expr} {ifs:List Expr} {wi:TI} {tt:TT} {te:TE} (hc:X.calm=true) (S:Dm X x scope) (hi:PI X (.Name x px) iter wi)
  (ht:∀ C s₀ H₀ fp,KN (Bk X x scope C s₀ H₀ fp) ifs tt) (he:∀ C s₀ H₀ fp,PE (Bk X x scope C s₀ H₀ fp) elt te) (hs:∀ x,foldedSetIterable iter X.env x=pure x:=by intro _; rfl) :
  PE X (.ListComp elt [⟨.Name x px,iter,ifs,0⟩] scope pos) (PL wi tt te):=by
 intro pins s σ H Q I h
 rw [eval_ListComp]
 refine wpAny_comprehension_free (use:=none) (cl:=Bx X.env scope.names []) rfl hs (FQ fun y hy hk=>I.ok.has y.1 (S.free y hy hk)) S.kind S.names (Bv (hi pins s σ H _ I h) fun v s1 h1=>Bv h1 fun itv s2 h2=>?_)
 obtain ⟨it,fp,tn,J,H2,e,I2,T,st2,f2,q⟩:=h2
 subst e
 refine JZ (RR:=fun acc C=>compPost (model X.prog X.w) X.A X.xe none (EP X pins σ Q) acc C) (Q:=Q) hc S ht he I2 T st2 f2 q ?_
 intro D C s' H' m hn hf hI hq
 exact ⟨m,hn,fun h' sb=>⟨.ref D,H',hI.sameBut hf sb,rfl,hq⟩⟩
theorem Tf {i:Nat} {y:Str} {px py pos spos:Pos} {iter elt:Expr} {ifs:List Expr} {wi:TI} {tt:TT} {te:TE} (hN:X.N.Nodup) (hi':X.N[i]? = some y) (hy:X.env.scope.names.lookup y=some .local) (hc:X.calm=true) (S:Dm X x scope) (hi:PI X (.Name x px) iter wi)
  (ht:∀ C s₀ H₀ fp,KN (Bk X x scope C s₀ H₀ fp) ifs tt) (he:∀ C s₀ H₀ fp,PE (Bk X x scope C s₀ H₀ fp) elt te) (hsw:swapsWith (.ListComp elt [⟨.Name x px,iter,ifs,0⟩] scope pos) (some (.Name y py)) spos.line X.env=pure true:=by rfl) (hs:∀ x,foldedSetIterable iter X.env x=pure x:=by intro _; rfl) :
  PS X (.Assign [.Name y py] (.ListComp elt [⟨.Name x px,iter,ifs,0⟩] scope pos) spos) (Rr (PL wi tt te) (Cq i)):=by
 intro pins s σ H D' I h
 rw [exec_Assign_Name_used _ _ _ _ hsw]
 refine wpAny_bind (wpAny_standAt (wpAny_bind ?_))
 show wpAny _ X.A (do let _ ← comprehension (.ListComp elt [⟨.Name x px,iter,ifs,0⟩] scope pos) scope X.env _ (newList []) false (eval iter X.env) (some (assign (.Name y py) X.env))) _ _ s
 refine wpAny_bind (wpAny_mono (wpAny_comprehension_free (use:=some (assign (.Name y py) X.env)) (cl:=Bx X.env scope.names []) (Q:=fun _ s'=>SP X pins D' .next s') rfl hs (FQ fun y hy hk=>I.ok.has y.1 (S.free y hy hk)) S.kind S.names
  (Bv (hi pins s σ H _ I h) fun v s1 h1=>Bv h1 fun itv s2 h2=>?_)) (fun _ s' hq=>wpAny_pure (wpAny_pure hq)) fun _ _ e=>e)
 obtain ⟨it,fp,tn,J,H2,e,I2,T,st2,f2,q⟩:=h2
 subst e
 refine JZ (RR:=fun acc C=>compPost (model X.prog X.w) X.A X.xe (some (assign (.Name y py) X.env)) (fun _ s'=>SP X pins D' .next s') acc C) (Q:=fun x H1=>Cq i x σ H1 D'.nx) hc S ht he I2 T st2 f2 q ?_
 intro D C s' H' m hn hf hI hq
 show wpAny _ X.A (assign (.Name y py) X.env (.ref D)) _ _ _
 refine wpAny_assign_Name (JC hI hN hi' (.inl hy) (v:=.ref D) rfl (fun s6 I6 hch=>?_) (.inr hy))
 obtain ⟨a,sb,ha⟩:=hch
 have hCa:C ≠ a:=by
  rcases ha with z | z
  ·rw [z]; exact hf.2.1
  ·exact Ne.symm (hf.2.2.2.2.1 y a z)
 exact ⟨m,hn.sameBut sb hCa,fun h' sb'=>⟨_,H',I6.sameBut hf sb',hq⟩⟩
end
noncomputable def Mw (x:Str) (scope osc:Scope) (N:List Str):Bool :=
 (scope.kind == .function) && decide (scope.names.filter (fun y=>y.2 == .cell)=[(x,.cell)]) && scope.names.all (fun y=>y.2 != .local || scope.names.lookup y.1 == some .local) && (scope.names.lookup x == some .cell) &&
 scope.names.all (fun y=>y.2 != .free || osc.names.lookup y.1 == some .cell || osc.names.lookup y.1 == some .free) && decide ((x::Dd x N).Nodup) && (Dd x N).all (fun y=>scope.names.lookup y != some .local) && (scope.names.lookup ("" : Str) == none)
theorem J_ {X:Cx} {x:Str} {scope osc:Scope} {N:List Str} (hsc:X.env.scope=osc) (hN:X.N=N) (h:Mw x scope osc N=true):Dm X x scope:=by
 unfold Mw at h
 simp only [Bool.and_eq_true] at h
 obtain ⟨⟨⟨⟨⟨⟨⟨h1,h2⟩,h3⟩,h4⟩,h5⟩,h6⟩,h7⟩,h8⟩:=h
 rw [List.all_eq_true] at h3 h5 h7
 have kd:∀ y,X.env.kindOf y=osc.names.lookup y:=fun y=>by rw [← hsc]; rfl
 refine ⟨by simpa using h1,of_decide_eq_true h2,fun y hy e=>?_,by simpa using h4,fun y hy e=>?_,by rw [hN]; exact of_decide_eq_true h6,fun y hy=>?_,by simpa using h8⟩
 ·have:=h3 y hy
  rw [e] at this
  simpa using this
 ·have:=h5 y hy
  rw [e] at this
  rw [kd]
  simpa using this
 ·rw [hN] at hy
  simpa using h7 y hy
end L2
section PartK29a
set_option maxHeartbeats 4000000
namespace K29
open PySem L2 Og
noncomputable def top (i:Nat):Stmt:=PySem.Challenge.pw_windchest_k29_whole_held_keys_by_rows.main.body.getD i (.Pass ⟨0,0,0,0⟩)
noncomputable abbrev Yp:Stmt:=top 8
noncomputable abbrev W2:Stmt:=top 9
noncomputable abbrev ZZ:Stmt:=top 10
noncomputable abbrev Xf:Stmt:=top 42
noncomputable abbrev X_:Stmt:=top 43
noncomputable abbrev Yy:Stmt:=top 44
noncomputable abbrev W8:Stmt:=top 45
noncomputable abbrev W3:Stmt:=top 46
noncomputable abbrev Y5:Stmt:=top 47
noncomputable abbrev YD:Stmt:=top 48
noncomputable abbrev Ym:Stmt:=top 49
noncomputable abbrev ZS:Stmt:=top 51
noncomputable abbrev ZF:Stmt:=top 52
noncomputable abbrev ZG:Stmt:=top 53
noncomputable abbrev Yo:Stmt:=top 54
noncomputable abbrev Yv:Stmt:=top 57
noncomputable abbrev YB:Stmt:=top 58
noncomputable abbrev W_:Stmt:=top 59
noncomputable abbrev Y0:Stmt:=top 60
noncomputable abbrev Yt:Stmt:=top 13
noncomputable abbrev YQ:Stmt:=top 14
noncomputable abbrev ZV:Stmt:=top 15
noncomputable abbrev Wu:Stmt:=top 16
noncomputable abbrev Yr:Stmt:=top 17
noncomputable abbrev Y8:Stmt:=top 18
noncomputable abbrev Yh:Stmt:=top 20
noncomputable abbrev Vz:Stmt:=top 21
noncomputable abbrev Vy:Stmt:=top 30
noncomputable abbrev Ys:Stmt:=top 31
noncomputable abbrev Xm:Stmt:=top 32
noncomputable abbrev YZ:Stmt:=top 33
noncomputable abbrev Wt:Stmt:=top 23
noncomputable abbrev X5:Stmt:=top 24
noncomputable abbrev Y7:Stmt:=top 25
noncomputable abbrev ZP:Stmt:=top 26
noncomputable abbrev YK:Stmt:=top 27
noncomputable abbrev XR:Stmt:=top 28
noncomputable abbrev ZC:Stmt:=top 64
noncomputable abbrev Yl:Stmt:=top 65
noncomputable abbrev W4:Stmt:=top 66
noncomputable abbrev ZQ:Stmt:=top 67
noncomputable abbrev ZL:Stmt:=top 68
noncomputable abbrev Y9:Stmt:=top 69
noncomputable abbrev Ug:Stmt:=top 70
noncomputable abbrev Yb:Stmt:=top 71
noncomputable abbrev ZK:Stmt:=top 72
noncomputable abbrev ZW:Stmt:=top 73
noncomputable abbrev QT:Stmt:=inClass (top 62) 0
noncomputable abbrev Yx:Stmt:=inClass (top 62) 2
noncomputable abbrev ZM:Stmt:=inClass (top 62) 5
noncomputable abbrev Yc:Stmt:=inClass (top 62) 7
noncomputable abbrev ZX:Stmt:=inClass (top 62) 8
noncomputable abbrev Y6:Stmt:=inClass (top 62) 13
noncomputable abbrev Yk:Stmt:=inClass (top 62) 15
noncomputable abbrev ZD:Stmt:=inClass (top 62) 3
noncomputable abbrev Yn:Stmt:=inClass (top 62) 6
noncomputable abbrev Yw:Stmt:=inClass (top 62) 9
noncomputable abbrev Ye:Stmt:=inClass (top 62) 14
noncomputable abbrev ZJ:Stmt:=inClass (top 62) 16
noncomputable abbrev Xa:Stmt:=inClass (top 62) 4
noncomputable abbrev Y_:Stmt:=inClass (top 34) 0
noncomputable abbrev Yi:Stmt:=inClass (top 34) 1
noncomputable abbrev Wv:Stmt:=inClass (top 34) 3
noncomputable abbrev I_:Stmt:=top 74
structure Txt (K:PySem.W.Frag) (P:Params) (mg:Str->Option Value) (C Cy aN aK aB aP aM:Addr):Prop where
 len:mg "len" = none
 isin:mg "isinstance" = none
 int:mg "int" = none
 bool:mg "bool" = none
 str:mg "str" = none
 list:mg "list" = none
 tuple:mg "tuple" = none
 all:mg "all" = none
 any:mg "any" = none
 sum:mg "sum" = none
 range:mg "range" = none
 zip:mg "zip" = none
 enumerate:mg "enumerate" = none
 max:mg "max" = none
 reversed:mg "reversed" = none
 abs:mg "abs" = none
 letters:∃ t,mg "LETTERS" = some (.str letters t)
 mostL:∃ t,mg "MOST_LETTERS" = some (.int 8 t)
 mostR:∃ t,mg "MOST_ROWS" = some (.int 150 t)
 mostLn:∃ t,mg "MOST_LINES" = some (.int 4 t)
 below:∃ t,mg "MEMBERS_BELOW" = some (.int 1200 t)
 mN:mg "NAMED" = some (.ref aN)
 mK:mg "KNOBS" = some (.ref aK)
 mB:mg "BOUNDS" = some (.ref aB)
 mP:mg "PARTS" = some (.ref aP)
 mM:mg "MOST_OF" = some (.ref aM)
 tN:KTup K aN (named.map V.str)
 tK:KTup K aK [.str "stop",.str "coupler",.str "mute"]
 dB:KDict K P aB
 dP:KDict K P aP
 dM:KDict K P aM
 cl:RJ K C
 mC:mg "Organ" = some (.ref C)
 clR:RJ K Cy
 mCR:mg "Relays" = some (.ref Cy)
 nr_row_sets:Cu K Cy "row_sets"
 n_row_list:Cu K C "row_list"
 n_board_list:Cu K C "board_list"
 n_rank_list:Cu K C "rank_list"
 n_knob_rows:Cu K C "knob_rows"
 n_board_numbers:Cu K C "board_numbers"
 n_rank_numbers:Cu K C "rank_numbers"
 n_knob_numbers:Cu K C "knob_numbers"
 n_key_places:Cu K C "key_places"
 n_pipe_places:Cu K C "pipe_places"
 n_knob_lines:Cu K C "knob_lines"
 n_step_sets:Cu K C "step_sets"
structure ig (K:PySem.W.Frag) (mg:Str->Option Value) (C Cy fWh fMd fNm fRo fTo fWi fPa fHp fCl fIk fSb fWm fHr fIr fCk fNu fCa fPl fLi fMy fSt fHa fMe fSh fUn fLe fDc fLp fLq fCb fCr fMu fUk fNb fLl fBs fBa fCe fLw fDn fDw fLs fLc fLg fLm fLh fLj fOi fOb fOc fOk fOo fBk fOp fOr fOq fOe fOs fOm fOz fRi fRr fRs:Addr) (dWh dMd dNm dRo dTo dWi dPa dHp dCl dIk dSb dWm dHr dIr dCk dNu dCa dPl dLi dMy dSt dHa dMe dSh dUn dLe dDc dLp dLq dCb dCr dMu dUk dNb dLl dBs dBa dCe dLw dDn dDw dLs dLc dLg dLm dLh dLj dOi dOb dOc dOk dOo dBk dOp dOr dOq dOe dOs dOm dOz dRi dRr dRs:FuncData):Prop where
 FWh:DW K "is_whole" "is_whole" Yp fWh dWh∧Binds K dWh ["thing"] []∧mg "is_whole" = some (.ref fWh)
 FMd:DW K "is_made_of" "is_made_of" W2 fMd dMd∧Binds K dMd ["text","signs","most"] []∧mg "is_made_of" = some (.ref fMd)
 FNm:DW K "is_name" "is_name" ZZ fNm dNm∧Binds K dNm ["thing"] []∧mg "is_name" = some (.ref fNm)
 FRo:DW K "rows_of" "rows_of" Xf fRo dRo∧Binds K dRo ["rows","word"] []∧mg "rows_of" = some (.ref fRo)
 FTo:DW K "is_told" "is_told" X_ fTo dTo∧Binds K dTo ["rows","word","thing"] []∧mg "is_told" = some (.ref fTo)
 FWi:DW K "is_within" "is_within" Yy fWi dWi∧Binds K dWi ["thing","bounds"] []∧mg "is_within" = some (.ref fWi)
 FPa:DW K "is_part" "is_part" W8 fPa dPa∧Binds K dPa ["thing","part","ahead"] []∧mg "is_part" = some (.ref fPa)
 FHp:DW K "has_parts" "has_parts" W3 fHp dHp∧Binds K dHp ["row","ahead"] []∧mg "has_parts" = some (.ref fHp)
 FCl:DW K "count_of_last_lines" "count_of_last_lines" Y5 fCl dCl∧Binds K dCl ["rows"] []∧mg "count_of_last_lines" = some (.ref fCl)
 FIk:DW K "is_key_of" "is_key_of" YD fIk dIk∧Binds K dIk ["number","board","ahead"] []∧mg "is_key_of" = some (.ref fIk)
 FSb:DW K "stands_behind_stop" "stands_behind_stop" Ym fSb dSb∧Binds K dSb ["line","ahead"] []∧mg "stands_behind_stop" = some (.ref fSb)
 FWm:DW K "is_well_made" "is_well_made" ZS fWm dWm∧Binds K dWm ["row","ahead"] []∧mg "is_well_made" = some (.ref fWm)
 FHr:DW K "has_room" "has_room" ZF fHr dHr∧Binds K dHr ["word","ahead"] []∧mg "has_room" = some (.ref fHr)
 FIr:DW K "is_row" "is_row" ZG fIr dIr∧Binds K dIr ["thing","ahead"] []∧mg "is_row" = some (.ref fIr)
 FCk:DW K "check_rows" "check_rows" Yo fCk dCk∧Binds K dCk ["rows"] []∧mg "check_rows" = some (.ref fCk)
 FNu:DW K "numbers_of" "numbers_of" Yv fNu dNu∧Binds K dNu ["names"] []∧mg "numbers_of" = some (.ref fNu)
 FCa:DW K "count_in_all" "count_in_all" YB fCa dCa∧Binds K dCa ["things"] []∧mg "count_in_all" = some (.ref fCa)
 FPl:DW K "places_of" "places_of" W_ fPl dPl∧Binds K dPl ["things"] []∧mg "places_of" = some (.ref fPl)
 FLi:DW K "lines_by_knob" "lines_by_knob" Y0 fLi dLi∧Binds K dLi ["rows","rank_numbers"] []∧mg "lines_by_knob" = some (.ref fLi)
 FMy:DW K "may_be_member" "may_be_member" Yt fMy dMy∧Binds K dMy ["thing"] []∧mg "may_be_member" = some (.ref fMy)
 FSt:DW K "set_of" "set_of" YQ fSt dSt∧Binds K dSt ["numbers"] []∧mg "set_of" = some (.ref fSt)
 FHa:DW K "has_member" "has_member" ZV fHa dHa∧Binds K dHa ["some","number"] []∧mg "has_member" = some (.ref fHa)
 FMe:DW K "members_of" "members_of" Wu fMe dMe∧Binds K dMe ["some"] []∧mg "members_of" = some (.ref fMe)
 FSh:DW K "shifted" "shifted" Yr fSh dSh∧Binds K dSh ["some","steps","count"] []∧mg "shifted" = some (.ref fSh)
 FUn:DW K "union_of" "union_of" Y8 fUn dUn∧Binds K dUn ["sets"] []∧mg "union_of" = some (.ref fUn)
 FLe:DW K "led_to" "led_to" Yh fLe dLe∧Binds K dLe ["organ","knob","key"] []∧mg "led_to" = some (.ref fLe)
 FDc:DW K "drawn_of" "drawn_of" Vz fDc dDc∧Binds K dDc ["organ","knobs","word"] []∧mg "drawn_of" = some (.ref fDc)
 FLp:DW K "led_in_one_step" "led_in_one_step" Vy fLp dLp∧Binds K dLp ["organ","couplers","key"] []∧mg "led_in_one_step" = some (.ref fLp)
 FLq:DW K "led_in_all_steps" "led_in_all_steps" Ys fLq dLq∧Binds K dLq ["one_step"] []∧mg "led_in_all_steps" = some (.ref fLq)
 FCb:DW K "coupled_by_each" "coupled_by_each" Xm fCb dCb∧Binds K dCb ["organ","knobs"] []∧mg "coupled_by_each" = some (.ref fCb)
 FCr:DW K "compiled_rows" "compiled_rows" YZ fCr dCr∧Binds K dCr ["organ","knobs"] []∧mg "compiled_rows" = some (.ref fCr)
 FMu:DW K "muted_boards" "muted_boards" Wt fMu dMu∧Binds K dMu ["organ","knobs"] []∧mg "muted_boards" = some (.ref fMu)
 FUk:DW K "unmuted_keys" "unmuted_keys" X5 fUk dUk∧Binds K dUk ["organ","knobs","keys"] []∧mg "unmuted_keys" = some (.ref fUk)
 FNb:DW K "numbers_on_board" "numbers_on_board" Y7 fNb dNb∧Binds K dNb ["organ","board","keys"] []∧mg "numbers_on_board" = some (.ref fNb)
 FLl:DW K "led_by_line" "led_by_line" ZP fLl dLl∧Binds K dLl ["organ","line","numbers"] []∧mg "led_by_line" = some (.ref fLl)
 FBs:DW K "brought_by_stop" "brought_by_stop" YK fBs dBs∧Binds K dBs ["organ","knob","keys"] []∧mg "brought_by_stop" = some (.ref fBs)
 FBa:DW K "brought_in_all" "brought_in_all" XR fBa dBa∧Binds K dBa ["organ","knobs","keys"] []∧mg "brought_in_all" = some (.ref fBa)
 FCe:DW K "_law_cell_at" "_law_cell_at" ZC fCe dCe∧Binds K dCe ["_law_script","_law_k"] []∧mg "_law_cell_at" = some (.ref fCe)
 FLw:DW K "_law_whole" "_law_whole" Yl fLw dLw∧Binds K dLw ["_law_found"] []∧mg "_law_whole" = some (.ref fLw)
 FDn:DW K "_law_drawn" "_law_drawn" W4 fDn dDn∧Binds K dDn ["_law_script","_law_start"] []∧mg "_law_drawn" = some (.ref fDn)
 FDw:DW K "_law_draw" "_law_draw" ZQ fDw dDw∧Binds K dDw ["_law_drawn_here","_law_many"] []∧mg "_law_draw" = some (.ref fDw)
 FLs:DW K "_law_stop" "_law_stop" ZL fLs dLs∧Binds K dLs ["_law_drawn_here","_law_k","_law_sizes","_law_ranks"] []∧mg "_law_stop" = some (.ref fLs)
 FLc:DW K "_law_coupler" "_law_coupler" Y9 fLc dLc∧Binds K dLc ["_law_drawn_here","_law_k","_law_sizes"] []∧mg "_law_coupler" = some (.ref fLc)
 FLg:DW K "_law_organ" "_law_organ" Ug fLg dLg∧Binds K dLg ["_law_drawn_here"] []∧mg "_law_organ" = some (.ref fLg)
 FLm:DW K "_law_model" "_law_model" Yb fLm dLm∧Binds K dLm ["_law_rows"] []∧mg "_law_model" = some (.ref fLm)
 FLh:DW K "_law_held" "_law_held" ZK fLh dLh∧Binds K dLh ["_law_cell","_law_last","_law_many"] []∧mg "_law_held" = some (.ref fLh)
 FLj:DW K "_law_joined" "_law_joined" ZW fLj dLj∧Binds K dLj ["_law_rows","_law_held_here"] []∧mg "_law_joined" = some (.ref fLj)
 FOi:DW K "__init__" "Organ.__init__" QT fOi dOi∧Binds K dOi ["self","rows"] []∧Mk K C fOi
 FOb:DW K "boards" "Organ.boards" Yx fOb dOb∧Binds K dOb ["self"] []∧Meth K C "boards" fOb
 FOc:DW K "key_count" "Organ.key_count" ZM fOc dOc∧Binds K dOc ["self"] []∧Meth K C "key_count" fOc
 FOk:DW K "key" "Organ.key" Yc fOk dOk∧Binds K dOk ["self","board","number"] []∧Meth K C "key" fOk
 FOo:DW K "board_of" "Organ.board_of" ZX fOo dOo∧Binds K dOo ["self","key"] []∧Meth K C "board_of" fOo
 FBk:DW K "board_of_knob" "Organ.board_of_knob" Y6 fBk dBk∧Binds K dBk ["self","knob"] []∧Meth K C "board_of_knob" fBk
 FOp:DW K "coupler" "Organ.coupler" Yk fOp dOp∧Binds K dOp ["self","knob"] []∧Meth K C "coupler" fOp
 FOr:DW K "ranks" "Organ.ranks" ZD fOr dOr∧Binds K dOr ["self"] []∧Meth K C "ranks" fOr
 FOq:DW K "pipe_count" "Organ.pipe_count" Yn fOq dOq∧Binds K dOq ["self"] []∧Meth K C "pipe_count" fOq
 FOe:DW K "pipe" "Organ.pipe" Yw fOe dOe∧Binds K dOe ["self","rank","number"] []∧Meth K C "pipe" fOe
 FOs:DW K "stop" "Organ.stop" Ye fOs dOs∧Binds K dOs ["self","knob"] []∧Meth K C "stop" fOs
 FOm:DW K "mute" "Organ.mute" ZJ fOm dOm∧Binds K dOm ["self","knob"] []∧Meth K C "mute" fOm
 FOz:DW K "knobs" "Organ.knobs" Xa fOz dOz∧Binds K dOz ["self"] []∧Meth K C "knobs" fOz
 FRi:DW K "__init__" "Relays.__init__" Y_ fRi dRi∧Binds K dRi ["self","organ","knobs"] []∧Mk K Cy fRi
 FRr:DW K "row_of" "Relays.row_of" Yi fRr dRr∧Binds K dRr ["self","key"] []∧Meth K Cy "row_of" fRr
 FRs:DW K "sound" "Relays.sound" Wv fRs dRs∧Binds K dRs ["self","held"] []∧Meth K Cy "sound" fRs
section
variable {P:Program} {w:World} {K:PySem.W.Frag} {mg:Str->Option Value} {base:Heap} {C Cy aN aK aB aP aM:Addr} {fWh fMd fNm fRo fTo fWi fPa fHp fCl fIk fSb fWm fHr fIr fCk fNu fCa fPl fLi fMy fSt fHa fMe fSh fUn fLe fDc fLp fLq fCb fCr fMu fUk fNb fLl fBs fBa fCe fLw fDn fDw fLs fLc fLg fLm fLh fLj fOi fOb fOc fOk fOo fBk fOp fOr fOq fOe fOs fOm fOz fRi fRr fRs:Addr} {dWh dMd dNm dRo dTo dWi dPa dHp dCl dIk dSb dWm dHr dIr dCk dNu dCa dPl dLi dMy dSt dHa dMe dSh dUn dLe dDc dLp dLq dCb dCr dMu dUk dNb dLl dBs dBa dCe dLw dDn dDw dLs dLc dLg dLm dLh dLj dOi dOb dOc dOk dOo dBk dOp dOr dOq dOe dOs dOm dOz dRi dRr dRs:FuncData}
variable (N:ig K mg C Cy fWh fMd fNm fRo fTo fWi fPa fHp fCl fIk fSb fWm fHr fIr fCk fNu fCa fPl fLi fMy fSt fHa fMe fSh fUn fLe fDc fLp fLq fCb fCr fMu fUk fNb fLl fBs fBa fCe fLw fDn fDw fLs fLc fLg fLm fLh fLj fOi fOb fOc fOk fOo fBk fOp fOr fOq fOe fOs fOm fOz fRi fRr fRs dWh dMd dNm dRo dTo dWi dPa dHp dCl dIk dSb dWm dHr dIr dCk dNu dCa dPl dLi dMy dSt dHa dMe dSh dUn dLe dDc dLp dLq dCb dCr dMu dUk dNb dLl dBs dBa dCe dLw dDn dDw dLs dLc dLg dLm dLh dLj dOi dOb dOc dOk dOo dBk dOp dOr dOq dOe dOs dOm dOz dRi dRr dRs) (T:Txt K w.params mg C Cy aN aK aB aP aM)
noncomputable def Qq:Sp:=fun vs H Q _=>∃ i:Int,vs=[.int i]/\Q (.bl true) H
theorem jf:Ay ["thing"] ["thing"] (Ab Yp):=⟨rfl,rfl,rfl,by decide +kernel,rfl,by decide +kernel,by decide +kernel⟩
include N T in
theorem WM:A_ P w K mg base Bf 1 fWh dWh ["thing"] Qq:=by
 refine N.FWh.1.ok jf (fun vs H Q E h=>?_) (fun cdv A outer s H vs Q E hr h=>?_)
 ·obtain ⟨i,rfl,_⟩:=h
  rfl
 ·obtain ⟨i,rfl,q⟩:=h
  refine ⟨_,(Ah (BL (Dy (BR DR rfl T.isin PyProof.Rows.boot_isinstance (Aa (pv 0) (Aa (Es (v:=.ty "int") rfl T.int PyProof.Rows.boot_int rfl) Ac))) (Dn (N8 (BR DR rfl T.isin PyProof.Rows.boot_isinstance (Aa (pv 0) (Aa (Es (v:=.ty "bool") rfl T.bool PyProof.Rows.boot_bool rfl) Ac)))))))),?_⟩
  refine ⟨_,rfl,_,"int",_,_,rfl,.int i,ty_int,_,rfl,GZ ?_⟩
  exact ⟨_,rfl,_,"bool",_,_,rfl,.int i,Vw,_,rfl,q⟩
noncomputable def dR:Sp:=fun vs H Q _=>∃ z:Str,vs=[.str z,.str letters,.int 8]/\isNm z/\∀ H',Ak H H'->Q (.bl true) H'
theorem jn:Ay ["text","signs","most"] ["text","signs","most"] (Ab W2):=⟨rfl,rfl,rfl,by decide +kernel,rfl,by decide +kernel,by decide +kernel⟩
include N T in
theorem bG:A_ P w K mg base Bf 1 fMd dMd ["text","signs","most"] dR:=by
 refine N.FMd.1.ok jn (fun vs H Q E h=>?_) (fun cdv A outer s H vs Q E hr h=>?_)
 ·obtain ⟨z,rfl,_⟩:=h
  rfl
 ·obtain ⟨z,rfl,hz,q⟩:=h
  refine ⟨_,(Ah (BL (Dy (Ie Gs Gs Ad (BR LK rfl T.len PySem.boot_len (Aa (pv 0) Ac)) (pv 2)) (Dn (BR (J8 rfl) rfl T.all PyProof.Rows.boot_all (Aa (Bl rfl (BX (osc:=Ab W2) (N:=["text","signs","most"]) rfl rfl (by decide +kernel)) (X4 (pv 0)) (fun _ _ _ _=>Bt) (fun _ _ _ _=>(El Qp (pv 0) (pv 2) rfl))) Ac)))))),?_⟩
  have hzl:z.length<sizeLine:=Aq (by have:=hz.2.1; omega)
  refine ⟨_,rfl,z,rfl,Nat.le_of_lt hzl,_,_,rfl,rfl,_,rfl,?_⟩
  refine B_ (fun h1=>?_) (fun h1=>absurd (decide_eq_true (by have:=hz.1; omega)) h1)
  refine ⟨_,rfl,_,_,rfl,rfl,_,rfl,?_⟩
  refine B_ (fun h2=>?_) (fun h2=>absurd (decide_eq_true (by have:=hz.2.1; omega)) h2)
  refine ⟨_,rfl,z,rfl,Rh (fun _=>true) (fun c=>.bl (bf letters c)) hzl (fun c hc H' hs R k=>k H' (Ak.refl H')) (fun c hc _ H' hs R k=>⟨_,rfl,_,rfl,_,_,rfl,rfl,k H' (Ak.refl H')⟩) (fun D H' hD hs hl=>?_)⟩
  refine ⟨D,z.cps.toList.map (bf letters),rfl,.inl (.inl ?_),?_⟩
  ·rw [hl,List.filter_eq_self.mpr (fun _ _=>rfl),List.map_map]
   rfl
  ·have e:(z.cps.toList.map (bf letters)).all id=true:=by
    rw [List.all_map,List.all_eq_true]
    intro c hc
    have:=hz.2.2 c hc
    show bf letters c=true
    rw [Ux c (by omega)]
    exact decide_eq_true this
   rw [e]
   exact q H' hs
noncomputable def Xz:Sp:=fun vs H Q _=>∃ z:Str,vs=[.str z]/\isNm z/\∀ H',Ak H H'->Q (.bl true) H'
theorem jU:Ay ["thing"] ["thing"] (Ab ZZ):=⟨rfl,rfl,rfl,by decide +kernel,rfl,by decide +kernel,by decide +kernel⟩
include N T in
theorem WQ:A_ P w K mg base Bf 2 fNm dNm ["thing"] Xz:=by
 have GMd:A_ P w K mg base Bf 1 fMd dMd ["text","signs","most"] dR:=bG N T
 refine N.FNm.1.ok jU (fun vs H Q E h=>?_) (fun cdv A outer s H vs Q E hr h=>?_)
 ·obtain ⟨z,rfl,_⟩:=h
  rfl
 ·obtain ⟨z,rfl,hz,q⟩:=h
  have hrMd:BZ 1 _:=hr.mono (by decide)
  obtain ⟨tLET,hLET⟩:=T.letters
  obtain ⟨tML,hML⟩:=T.mostL
  refine ⟨_,(Ah (BL (Dy (BR DR rfl T.isin PyProof.Rows.boot_isinstance (Aa (pv 0) (Aa (Es (v:=.ty "str") rfl T.str PyProof.Rows.boot_str rfl) Ac))) (Dn (Ai GMd hrMd rfl N.FMd.2.2 N.FMd.1.kp N.FMd.2.1 .nil Av (Aa (pv 0) (Aa (Cw (v:=.str letters) rfl hLET ⟨tLET,rfl⟩) (Aa (Cw (v:=.int 8) rfl hML ⟨tML,rfl⟩) Ac)))))))),?_⟩
  refine ⟨_,rfl,_,"str",_,_,rfl,.str z,WT,_,rfl,GZ ?_⟩
  exact ⟨_,rfl,z,rfl,hz,q⟩
noncomputable def QV:Sp:=fun vs H Q _=>∃ (p:Addr) (us:List V) (w:Str) (ρ:V->R),vs=[.ref p,.str w]/\H p=some (.lst us)/\Rows H ρ us/\us.length<=500/\∀ D H',H D=none->Ak H H'->H' D=some (.lst (us.filter (pw ρ w)))->Q (.ref D) H'
theorem iy:Ay ["rows","word"] ["rows","word"] (Ab Xf):=⟨rfl,rfl,rfl,by decide +kernel,rfl,by decide +kernel,by decide +kernel⟩
include N T in
theorem Nf:A_ P w K mg base Bf 1 fRo dRo ["rows","word"] QV:=by
 refine N.FRo.1.ok iy (fun vs H Q E h=>?_) (fun cdv A outer s H vs Q E hr h=>?_)
 ·obtain ⟨p,us,w,ρ,rfl,_⟩:=h
  rfl
 ·obtain ⟨p,us,w,ρ,rfl,hp,hR,hl,q⟩:=h
  refine ⟨_,(Ah (BL (Bl rfl (BX (osc:=Ab Xf) (N:=["rows","word"]) rfl rfl (by decide +kernel)) (Bj (pv 0)) (fun _ _ _ _=>(HY (Bc Dj (Ar (BJ (K:=K) rfl) (pv 0) Ad (fun _ _=>rfl)) (pv 2) (Bm _)))) (fun _ _ _ _=>(pv 0))))),?_⟩
  have hS:Cg K H p us:=.inl (.inl hp)
  refine ⟨_,rfl,p,rfl,⟨_,hS⟩,Cd (K:=K) (xs:=us) (pw ρ w) id hS (Aq (by omega)) (fun x hx H' hs R k=>?_) (fun x hx _ H' hs R k=>⟨_,rfl,k H' (Ak.refl H')⟩) (fun D H' hD hs hl'=>?_)⟩
  ·obtain ⟨T0,rfl,hT⟩:=(hR x hx).mono hs
   exact ⟨_,rfl,T0,_,_,_,rfl,rfl,.inl (.inl hT),Ag (j:=0) rfl,_,rfl,rfl,_,rfl,k H' (Ak.refl H')⟩
  ·rw [List.map_id] at hl'
   exact q D H' hD hs hl'
noncomputable def eN:Sp:=fun vs H Q _=>∃ (p:Addr) (us:List V) (w t:Str) (ρ:V->R),vs=[.ref p,.str w,.str t]/\H p=some (.lst us)/\Rows H ρ us/\us.length<=500/\isNm t/\∀ H',Ak H H'->Q (.bl (V8 ρ us w t)) H'
theorem jd:Ay ["rows","word","thing"] ["rows","word","thing"] (Ab X_):=⟨rfl,rfl,rfl,by decide +kernel,rfl,by decide +kernel,by decide +kernel⟩
include N T in
theorem cM:A_ P w K mg base Bf 3 fTo dTo ["rows","word","thing"] eN:=by
 have GNm:A_ P w K mg base Bf 2 fNm dNm ["thing"] Xz:=WQ N T
 have GRo:A_ P w K mg base Bf 1 fRo dRo ["rows","word"] QV:=Nf N T
 refine N.FTo.1.ok jd (fun vs H Q E h=>?_) (fun cdv A outer s H vs Q E hr h=>?_)
 ·obtain ⟨p,us,w,t,ρ,rfl,_⟩:=h
  rfl
 ·obtain ⟨p,us,w,t,ρ,rfl,hp,hR,hl,ht,q⟩:=h
  have hrNm:BZ 2 _:=hr.mono (by decide)
  have hrRo:BZ 1 _:=hr.mono (by decide)
  refine ⟨_,(Ah (BL (Dy (Ai GNm hrNm rfl N.FNm.2.2 N.FNm.1.kp N.FNm.2.1 .nil Av (Aa (pv 2) Ac)) (Dn (BR (J9 rfl) rfl T.any PyProof.Rows.boot_any (Aa (Bl rfl (BX (osc:=Ab X_) (N:=["rows","word","thing"]) rfl rfl (by decide +kernel)) (Bj (Ai GRo hrRo rfl N.FRo.2.2 N.FRo.1.kp N.FRo.2.1 .nil Av (Aa (pv 0) (Aa (pv 1) Ac)))) (fun _ _ _ _=>Bt) (fun _ _ _ _=>(El Dj (Ar (BJ (K:=K) rfl) (pv 0) Ad (fun _ _=>rfl)) (pv 3) (Bm _)))) Ac)))))),?_⟩
  refine ⟨_,rfl,t,rfl,ht,fun H1 s1=>⟨_,rfl,GZ ?_⟩⟩
  refine ⟨_,rfl,_,rfl,p,us,w,ρ,rfl,s1 _ _ hp,hR.mono s1,hl,fun D H2 hD s2 hl2=>?_⟩
  have hS:Cg K H2 D (us.filter (pw ρ w)):=.inl (.inl hl2)
  refine ⟨D,rfl,⟨_,hS⟩,Cd (K:=K) (xs:=us.filter (pw ρ w)) (fun _=>true) (fun v=>.bl (pn ρ t v)) hS (Aq (by have:=HB (pw ρ w) us; omega)) (fun x hx H' hs R k=>k H' (Ak.refl H')) (fun x hx _ H' hs R k=>?_) (fun D3 H3 hD3 s3 hl3=>?_)⟩
  ·obtain ⟨T0,rfl,hT⟩:=(((hR.mono s1).mono s2).mono hs) x (List.mem_filter.mp hx).1
   exact ⟨_,rfl,T0,_,_,_,rfl,rfl,.inl (.inl hT),Ag (j:=1) rfl,_,rfl,rfl,k H' (Ak.refl H')⟩
  ·refine ⟨D3,(us.filter (pw ρ w)).map (pn ρ t),rfl,.inl (.inl ?_),?_⟩
   ·rw [hl3,List.filter_eq_self.mpr (fun _ _=>rfl),List.map_map]
    rfl
   ·have e:((us.filter (pw ρ w)).map (pn ρ t)).any id=V8 ρ us w t:=by
     rw [List.any_map]
     rfl
    rw [e]
    exact q H3 ((s1.trans s2).trans s3)
noncomputable def fL (K:PySem.W.Frag):Sp:=fun vs H Q _=>∃ (i lo hi:Int) (b:Addr),vs=[.int i,.ref b]/\KTup K b [.int lo,.int hi]/\lo<=i/\i<=hi/\Q (.bl true) H
theorem ji:Ay ["thing","bounds"] ["thing","bounds"] (Ab Yy):=⟨rfl,rfl,rfl,by decide +kernel,rfl,by decide +kernel,by decide +kernel⟩
include N T in
theorem cJ:A_ P w K mg base Bf 2 fWi dWi ["thing","bounds"] (fL K):=by
 have GWh:A_ P w K mg base Bf 1 fWh dWh ["thing"] Qq:=WM N T
 refine N.FWi.1.ok ji (fun vs H Q E h=>?_) (fun cdv A outer s H vs Q E hr h=>?_)
 ·obtain ⟨i,lo,hi,b,rfl,_⟩:=h
  rfl
 ·obtain ⟨i,lo,hi,b,rfl,hb,h1,h2,q⟩:=h
  have hrWh:BZ 1 _:=hr.mono (by decide)
  refine ⟨_,(Ah (BL (Dy (Ai GWh hrWh rfl N.FWh.2.2 N.FWh.1.kp N.FWh.2.1 .nil Av (Aa (pv 0) Ac)) (Dn (Ie Gs Gs (Ar (BJ (K:=K) rfl) (pv 1) Ad (fun _ _=>rfl)) (pv 0) (Ar (BJ (K:=K) rfl) (pv 1) Ad (fun _ _=>rfl))))))),?_⟩
  refine ⟨_,rfl,i,rfl,_,rfl,GZ ?_⟩
  refine ⟨_,rfl,b,_,_,_,rfl,rfl,hb.sq _,Ag (j:=0) rfl,_,rfl,_,_,rfl,rfl,_,rfl,?_⟩
  refine B_ (fun _=>?_) (fun z=>absurd (decide_eq_true h1) z)
  refine ⟨_,rfl,b,_,_,_,rfl,rfl,hb.sq _,Ag (j:=1) rfl,_,_,rfl,rfl,?_⟩
  show Q (.bl (decide (i<=hi))) H
  rw [decide_eq_true h2]
  exact q
noncomputable def ao (K:PySem.W.Frag) (aB:Addr):Sp:=fun vs H Q _=>∃ (x:V) (part:Str) (p:Addr) (us:List V) (ρ:V->R),vs=[x,.str part,.ref p]/\H p=some (.lst us)/\Rows H ρ us/\us.length<=500/\HN K aB ρ us x part/\∀ H',Ak H H'->Q (.bl true) H'
theorem gw:Ay ["thing","part","ahead"] ["thing","part","ahead"] (Ab W8):=⟨rfl,rfl,rfl,by decide +kernel,rfl,by decide +kernel,by decide +kernel⟩
include N T in
theorem bH:A_ P w K mg base Bf 4 fPa dPa ["thing","part","ahead"] (ao K aB):=by
 have GNm:A_ P w K mg base Bf 2 fNm dNm ["thing"] Xz:=WQ N T
 have GTo:A_ P w K mg base Bf 3 fTo dTo ["rows","word","thing"] eN:=cM N T
 have GWi:A_ P w K mg base Bf 2 fWi dWi ["thing","bounds"] (fL K):=cJ N T
 refine N.FPa.1.ok gw (fun vs H Q E h=>?_) (fun cdv A outer s H vs Q E hr h=>?_)
 ·obtain ⟨x,part,p,us,ρ,rfl,_⟩:=h
  rfl
 ·obtain ⟨x,part,p,us,ρ,rfl,hp,hR,hl,hok,q⟩:=h
  have hrNm:BZ 2 _:=hr.mono (by decide)
  have hrTo:BZ 3 _:=hr.mono (by decide)
  have hrWi:BZ 2 _:=hr.mono (by decide)
  refine ⟨_,(Ae (Ce (Xu (Ua (pv 1) (Cw (v:=.ref aB) rfl T.mB rfl))) (Ah (BL (Ai GWi hrWi rfl N.FWi.2.2 N.FWi.1.kp N.FWi.2.1 .nil Av (Aa (pv 0) (Aa (LC (Cw (v:=.ref aB) rfl T.mB rfl) (pv 1) (fun _ _=>rfl)) Ac))))) Bh)
   (Ae (Ce (Bc Dj (pv 1) Ba (Bm _)) (Ah (BL (Dy (Ai GNm hrNm rfl N.FNm.2.2 N.FNm.1.kp N.FNm.2.1 .nil Av (Aa (pv 0) Ac)) (Dn (N8 (BR (J9 rfl) rfl T.any PyProof.Rows.boot_any (Aa (Bl rfl (BX (osc:=Ab W8) (N:=["thing","part","ahead"]) rfl rfl (by decide +kernel)) (Wk (Cw (v:=.ref aN) rfl T.mN rfl)) (fun _ _ _ _=>Bt) (fun _ _ _ _=>(Ai GTo hrTo rfl N.FTo.2.2 N.FTo.1.kp N.FTo.2.1 .nil Av (Aa (pv 3) (Aa (pv 0) (Aa (pv 1) Ac)))))) Ac))))))) Bh)
   (Ah (BL (Ai GTo hrTo rfl N.FTo.2.2 N.FTo.1.kp N.FTo.2.1 .nil Av (Aa (pv 2) (Aa (pv 1) (Aa (pv 0) Ac)))))))),?_⟩
  rcases hok with ⟨i,lo,hi,b,rfl,hn,hb,h1,h2⟩ | ⟨hn,rfl,t,rfl,ht,hno⟩ | ⟨hn,hne,t,rfl,ht,hyes⟩
  ·refine ⟨_,rfl,aB,part,_,rfl,rfl,T.dB,hn,_,rfl,GZ ?_⟩
   exact ⟨_,rfl,_,rfl,aB,part,.ref b,_,rfl,rfl,T.dB,hn,rfl,i,lo,hi,b,rfl,hb,h1,h2,q H (Ak.refl H)⟩
  ·refine ⟨_,rfl,aB,_,_,rfl,rfl,T.dB,hn,_,rfl,Gh ?_⟩
   refine ⟨_,rfl,rfl,_,rfl,GZ ?_⟩
   refine ⟨_,rfl,t,rfl,ht,fun H1 s1=>⟨_,rfl,GZ ?_⟩⟩
   have hS:G_ K H1 aN (named.map V.str):=T.tN.sq _
   refine ⟨aN,rfl,⟨_,hS⟩,IK (xs:=named.map V.str) (fun _=>true) (fun _=>.bl false) (by show 5<sizeLine; decide) (fun i H2 x hs hx=>⟨_,x,hs.tup hS,hx⟩) (fun i H2 y H3 hs _ hy=>⟨hy.1,hy.2 _ (hs.tup hS)⟩) (fun H2 hs=>⟨_,hs.tup hS,Nat.le_refl _⟩)
    (fun x hx H' hs R k=>k H' (Ak.refl H')) (fun x hx _ H' hs R k=>?_) (fun D H2 hD s2 hl2=>?_)⟩
   ·obtain ⟨w0,hw0,rfl⟩:=List.mem_map.mp hx
    refine ⟨_,rfl,_,rfl,_,rfl,p,us,w0,t,ρ,rfl,hs _ _ (s1 _ _ hp),(hR.mono s1).mono hs,hl,ht,fun H'' s''=>?_⟩
    rw [hno w0 hw0]
    exact k H'' s''
   ·refine ⟨D,[false,false,false,false,false],rfl,.inl (.inl hl2),_,rfl,?_⟩
    exact q H2 (s1.trans s2)
  ·refine ⟨_,rfl,aB,_,_,rfl,rfl,T.dB,hn,_,rfl,Gh ?_⟩
   refine ⟨_,rfl,rfl,_,rfl,?_⟩
   refine B_ (fun z=>absurd (V.str.inj (of_decide_eq_true z)) hne) (fun _=>?_)
   refine ⟨_,rfl,_,rfl,_,rfl,p,us,part,t,ρ,rfl,hp,hR,hl,ht,fun H' hs=>?_⟩
   rw [hyes]
   exact q H' hs
noncomputable def cX (K:PySem.W.Frag) (aB aP:Addr):Sp:=fun vs H Q _=>∃ (r p:Addr) (w:Str) (xs:List V) (us:List V) (ρ:V->R) (ap:Addr) (ps:List Str),vs=[.ref r,.ref p]/\H r=some (.tup (.str w::xs))/\H p=some (.lst us)/\Rows H ρ us/\us.length<=500 /\
 PySem.W.nsIn K aP w=some (some (.ref ap))/\KTup K ap (ps.map V.str)/\xs.length=ps.length/\ps.length<=10/\(∀ (i:Nat) x y,xs[i]? = some x->ps[i]? = some y->HN K aB ρ us x y)/\∀ H',Ak H H'->Q (.bl true) H'
theorem c7:Ay ["row","ahead","parts"] ["row","ahead"] (Ab W3):=⟨rfl,rfl,rfl,by decide +kernel,rfl,by decide +kernel,by decide +kernel⟩
include N T in
theorem fX:A_ P w K mg base Bf 5 fHp dHp ["row","ahead"] (cX K aB aP):=by
 have GPa:A_ P w K mg base Bf 4 fPa dPa ["thing","part","ahead"] (ao K aB):=bH N T
 refine N.FHp.1.ok c7 (fun vs H Q E h=>?_) (fun cdv A outer s H vs Q E hr h=>?_)
 ·obtain ⟨r,p,w,xs,us,ρ,ap,ps,rfl,_⟩:=h
  rfl
 ·obtain ⟨r,p,w,xs,us,ρ,ap,ps,rfl,hr0,hp,hR,hl,hn,hap,hlen,hps,hok,q⟩:=h
  have hrPa:BZ 4 _:=hr.mono (by decide)
  refine ⟨_,(Ae (Bq (i:=2) c7.nd rfl (Or.inl rfl) (LC (Cw (v:=.ref aP) rfl T.mP rfl) (Ar (BJ (K:=K) rfl) (pv 0) Ad (fun _ _=>rfl)) (fun _ _=>rfl)))
   (Ae (Ce (Bc MN (BR BV rfl T.len PySem.boot_len (Aa (pv 0) Ac)) (BK Ca Ad (BR BV rfl T.len PySem.boot_len (Aa (pv 2) Ac))) (Bm _)) (Ah (BL O6)) Bh)
   (Ah (BL (BR (J8 rfl) rfl T.all PyProof.Rows.boot_all (Aa (Lb rfl (HQ (osc:=Ab W3) (N:=["row","ahead","parts"]) rfl rfl (by decide +kernel)) (Vk rfl T.zip (Aa (Eg Xw (pv 0) (Em Ad) GR) (Aa (pv 2) Ac))) (fun _ _ _ _=>Bt) (fun _ _ _ _=>(Ai GPa hrPa rfl N.FPa.2.2 N.FPa.1.kp N.FPa.2.1 .nil Av (Aa (pv 0) (Aa (pv 1) (Aa (pv 3) Ac)))))) Ac)))))),?_⟩
  refine ⟨_,rfl,r,_,_,_,rfl,rfl,.inl (.inl hr0),Ag (j:=0) rfl,aP,w,.ref ap,_,rfl,rfl,T.dP,hn,rfl,?_⟩
  refine ⟨_,rfl,r,_,rfl,.inr (.inl (.inl hr0)),_,rfl,ap,_,rfl,.inr (hap.sq _),_,_,rfl,rfl,rfl,_,rfl,?_⟩
  refine B_ (fun z=>?_) (fun _=>?_)
  ·exfalso
   have e:(((V.str w::xs).length:Nat):Int)=1+(((ps.map V.str).length:Nat):Int):=by
    rw [List.length_cons,List.length_map,hlen]
    omega
   rw [e] at z
   simp at z
  ·have hcut:Ef (V.str w::xs) (some 1) none=xs:=by
    unfold Ef
    have e1:HT.Dt (V.str w::xs).length 0 (some ((1:Nat):Int))=1:=by rw [HT.Jc,List.length_cons]; omega
    have e1':HT.Dt (V.str w::xs).length 0 (some (1:Int))=1:=e1
    rw [e1',HT.MJ,List.drop_succ_cons,List.drop_zero]
    exact List.take_of_length_le (by rw [List.length_cons]; omega)
   refine ⟨_,rfl,_,rfl,r,_,rfl,.inl (.inl hr0),(fun z=>?_),fun p2 hp2=>?_⟩
   ·have e1:HT.Dt (V.str w::xs).length 0 (some ((1:Nat):Int))=1:=by rw [HT.Jc,List.length_cons]; omega
    have:=z.1.symm.trans e1
    cases this
   rw [hcut]
   have s2:=An (o:=HO.tup xs) hp2
   have a2:upd H p2 (HO.tup xs) p2=some (.tup xs):=Af
   generalize upd H p2 (HO.tup xs)=H2 at s2 a2 ⊢
   have h1:G_ K H2 p2 xs:=.inl (.inl a2)
   refine ⟨_,rfl,p2,ap,rfl,⟨_,h1⟩,⟨_,hap.sq _⟩,Ro (K:=K) (xs:=xs) (ys:=ps.map V.str) (fun _ _=>.bl true) h1 (hap.sq _) (by rw [List.length_map]; exact hlen) (Aq (by omega)) (fun i x y hx hy H3 s3 R k=>?_) (fun D H3 hD s3 hl3=>?_)⟩
   ·rw [List.getElem?_map] at hy
    obtain ⟨part,hpart,rfl⟩:=Option.map_eq_some_iff.mp hy
    exact ⟨_,rfl,_,rfl,_,rfl,x,part,p,us,ρ,rfl,s3 _ _ (s2 _ _ hp),(hR.mono s2).mono s3,hl,hok i x part hx hpart,fun H4 s4=>k H4 s4⟩
   ·have e:List.zipWith (fun _ _=>V.bl true) xs (ps.map V.str)=(List.replicate xs.length true).map V.bl:=by
     rw [List.map_replicate]
     refine List.ext_getElem? fun i=>?_
     rw [List.getElem?_zipWith]
     by_cases hi:i<xs.length
     ·rw [List.getElem?_eq_getElem hi,List.getElem?_eq_getElem (by rw [List.length_map]; omega),List.getElem?_eq_getElem (by rw [List.length_replicate]; exact hi)]
      simp
     ·rw [List.getElem?_eq_none (by omega),List.getElem?_eq_none (l:=List.replicate _ _) (by rw [List.length_replicate]; omega)]
    rw [e] at hl3
    refine ⟨D,List.replicate xs.length true,rfl,.inl (.inl hl3),?_⟩
    have e2:(List.replicate xs.length true).all id=true:=by simp
    rw [e2]
    exact q H3 (s2.trans s3)
noncomputable def cN:Sp:=fun vs H Q _=>∃ (p:Addr) (us:List V) (ρ:V->R) (c:Nat),vs=[.ref p]/\H p=some (.lst us)/\Rows H ρ us/\us.length<=500/\V3 ρ us c/\Q (.int (c:Nat)) H
theorem U8:Ay ["rows","count","row"] ["rows"] (Ab Y5):=⟨rfl,rfl,rfl,by decide +kernel,rfl,by decide +kernel,by decide +kernel⟩
include N T in
theorem cP:A_ P w K mg base Bf 1 fCl dCl ["rows"] cN:=by
 refine N.FCl.1.ok U8 (fun vs H Q E h=>?_) (fun cdv A outer s H vs Q E hr h=>?_)
 ·obtain ⟨p,us,ρ,c,rfl,_⟩:=h
  rfl
 ·obtain ⟨p,us,ρ,c,rfl,hp,hR,hl,hc,q⟩:=h
  refine ⟨_,(Ae (Bq (i:=1) U8.nd rfl (Or.inl rfl) Ad)
   (Ae (Cp PassesOwn.never rfl (Xc rfl T.reversed (Aa (pv 0) Ac)) (Bp (i:=2) U8.nd rfl (Or.inl rfl)) (Ae (Ce (Bc MN (Ar (BJ (K:=K) rfl) (pv 2) Ad (fun _ _=>rfl)) Ba (Bm _)) (Ah R_) Bh)
   (Ah (Bq (i:=1) U8.nd rfl (Or.inl rfl) (BK Ca (pv 1) Ad)))))
   (Ah (BL (pv 1))))),?_⟩
  have hS:Cg K H p us:=.inl (.inl hp)
  refine ⟨_,rfl,p,us,rfl,hS,Vh (K:=K) (a:=p) (xs:=us) (fun i σ H4=>H4=H/\i<=c/\∃ v2,σ=[some (.ref p),some (.int (i:Nat)),v2]) ⟨rfl,Nat.zero_le _,_,rfl⟩ (fun i σ H4 _ h=>by rw [h.1]; exact hS) ?_ ?_⟩
  ·rintro i x σ H4 hi hx ⟨rfl,hic,v2,rfl⟩
   obtain ⟨r,rfl,hr0⟩:=hR x (List.mem_of_getElem? hx)
   refine ⟨_,rfl,r,_,_,_,rfl,rfl,.inl (.inl hr0),Ag (j:=0) rfl,rfl,_,rfl,?_⟩
   by_cases e:(ρ (.ref r)).w = "line"
   ·have hne:i ≠ c:=fun z=>by
     obtain ⟨v,hv,hno⟩:=hc.no
     rw [← z,hx] at hv
     cases hv
     exact hno e
    refine WL (congrArg V.str e) ?_
    exact ⟨_,rfl,_,_,rfl,rfl,rfl,by omega,_,rfl⟩
   ·have hic':i=c:=by
     refine Classical.byContradiction fun z=>?_
     obtain ⟨v,hv,hyes⟩:=hc.all i (by omega)
     rw [hx] at hv
     cases hv
     exact e hyes
    subst hic'
    rw [decide_eq_false fun z=>e (V.str.inj z)]
    refine GZ ?_
    exact ⟨_,rfl,q⟩
  ·rintro σ H4 ⟨rfl,hic,v2,rfl⟩
   have:=hc.lt
   omega
noncomputable def Zr:Sp:=fun vs H Q _=>∃ (n:Int) (bd:Str) (p:Addr) (us:List V) (ρ:V->R),vs=[.int n,.str bd,.ref p]/\H p=some (.lst us)/\Rows H ρ us/\us.length<=500/\FP ρ us/\∀ H',Ak H H'->Q (.bl (keyOf ρ us bd n)) H'
theorem jz:Ay ["number","board","ahead"] ["number","board","ahead"] (Ab YD):=⟨rfl,rfl,rfl,by decide +kernel,rfl,by decide +kernel,by decide +kernel⟩
include N T in
theorem Z4:A_ P w K mg base Bf 2 fIk dIk ["number","board","ahead"] Zr:=by
 have GRo:A_ P w K mg base Bf 1 fRo dRo ["rows","word"] QV:=Nf N T
 refine N.FIk.1.ok jz (fun vs H Q E h=>?_) (fun cdv A outer s H vs Q E hr h=>?_)
 ·obtain ⟨n,bd,p,us,ρ,rfl,_⟩:=h
  rfl
 ·obtain ⟨n,bd,p,us,ρ,rfl,hp,hR,hl,hB,q⟩:=h
  have hrRo:BZ 1 _:=hr.mono (by decide)
  refine ⟨_,(Ah (BL (BR (J9 rfl) rfl T.any PyProof.Rows.boot_any (Aa (Bl rfl (BX (osc:=Ab YD) (N:=["number","board","ahead"]) rfl rfl (by decide +kernel)) (Bj (Ai GRo hrRo rfl N.FRo.2.2 N.FRo.1.kp N.FRo.2.1 .nil Av (Aa (pv 2) (Aa Ba Ac)))) (fun _ _ _ _=>Bt) (fun _ _ _ _=>(Dy (El Dj (Ar (BJ (K:=K) rfl) (pv 0) Ad (fun _ _=>rfl)) (pv 2) (Bm _)) (Dn (El JW (pv 1) (Ar (BJ (K:=K) rfl) (pv 0) Ad (fun _ _=>rfl)) (Bm _)))))) Ac)))),?_⟩
  refine ⟨_,rfl,p,us,"board",ρ,rfl,hp,hR,hl,fun D H2 hD s2 hl2=>?_⟩
  have hS:Cg K H2 D (us.filter (pw ρ "board")):=.inl (.inl hl2)
  refine ⟨D,rfl,⟨_,hS⟩,Cd (K:=K) (xs:=us.filter (pw ρ "board")) (fun _=>true) (fun v=>.bl (pn ρ bd v && decide (n<XJ (ρ v)))) hS (Aq (by have:=HB (pw ρ "board") us; omega)) (fun x hx H' hs R k=>k H' (Ak.refl H')) (fun x hx _ H' hs R k=>?_) (fun D3 H3 hD3 s3 hl3=>?_)⟩
  ·have hx':=List.mem_filter.mp hx
   obtain ⟨m,em⟩:=hB x hx'.1 (V.str.inj (of_decide_eq_true hx'.2))
   have hz:XJ (ρ x)=m:=by unfold XJ; rw [em]
   have hT:=((hR.mono s2).mono hs) x hx'.1
   have kk:=k H' (Ak.refl H')
   rw [hz] at kk
   obtain ⟨T0,rfl,hT⟩:=hT
   have kk:R (.bl (decide (V.str (ρ (.ref T0)).nm=V.str bd) && decide (n<m))) H':=kk
   have hT':H' T0=some (.tup (.str (ρ (.ref T0)).w :: .str (ρ (.ref T0)).nm::(ρ (.ref T0)).rest)):=hT
   rw [em] at hT'
   refine ⟨_,rfl,T0,_,_,_,rfl,rfl,.inl (.inl hT'),Ag (j:=1) rfl,_,rfl,rfl,_,rfl,?_⟩
   refine B_ (fun g=>?_) (fun g=>?_)
   ·rw [g,Bool.true_and] at kk
    exact ⟨_,rfl,_,rfl,T0,_,_,_,rfl,rfl,.inl (.inl hT'),Ag (j:=2) rfl,_,_,rfl,rfl,kk⟩
   ·rw [(Bool.not_eq_true _).mp g,Bool.false_and] at kk
    exact kk
  ·refine ⟨D3,(us.filter (pw ρ "board")).map (fun v=>pn ρ bd v && decide (n<XJ (ρ v))),rfl,.inl (.inl ?_),?_⟩
   ·rw [hl3,List.filter_eq_self.mpr (fun _ _=>rfl),List.map_map]
    rfl
   ·have e:((us.filter (pw ρ "board")).map (fun v=>pn ρ bd v && decide (n<XJ (ρ v)))).any id=keyOf ρ us bd n:=by
     rw [List.any_map]
     rfl
    rw [e]
    exact q H3 (s2.trans s3)
noncomputable def Zj:Sp:=fun vs H Q _=>∃ (r p:Addr) (ro:R) (us:List V) (ρ:V->R),vs=[.ref r,.ref p]/\H r=some (.tup ro.v)/\H p=some (.lst us)/\Rows H ρ us/\us.length<=500/\Nz ρ us ro/\FP ρ us/\∀ H',Ak H H'->Q (.bl true) H'
theorem Wo:Ay ["line","ahead","count","row"] ["line","ahead"] (Ab Ym):=⟨rfl,rfl,rfl,by decide +kernel,rfl,by decide +kernel,by decide +kernel⟩
include N T in
theorem dX:A_ P w K mg base Bf 3 fSb dSb ["line","ahead"] Zj:=by
 have GCl:A_ P w K mg base Bf 1 fCl dCl ["rows"] cN:=cP N T
 have GIk:A_ P w K mg base Bf 2 fIk dIk ["number","board","ahead"] Zr:=Z4 N T
 refine N.FSb.1.ok Wo (fun vs H Q E h=>?_) (fun cdv A outer s H vs Q E hr h=>?_)
 ·obtain ⟨r,p,ro,us,ρ,rfl,_⟩:=h
  rfl
 ·obtain ⟨r,p,ro,us,ρ,rfl,hr0,hp,hR,hl,hL,hB,q⟩:=h
  have hrCl:BZ 1 _:=hr.mono (by decide)
  have hrIk:BZ 2 _:=hr.mono (by decide)
  obtain ⟨tML4,hML4⟩:=T.mostLn
  refine ⟨_,(Ae (Bq (i:=2) Wo.nd rfl (Or.inl rfl) (Ai GCl hrCl rfl N.FCl.2.2 N.FCl.1.kp N.FCl.2.1 .nil Av (Aa (pv 1) Ac)))
   (Ae (Bq (i:=3) Wo.nd rfl (Or.inl rfl) (Ar Bb (pv 1) (BK Ec (BK Ec (BR BV rfl T.len PySem.boot_len (Aa (pv 1) Ac)) Ad) (pv 2)) (fun _ _=>rfl)))
   (Ae (Ce (PW.pt (Jz (Bc MN (Ar (BJ (K:=K) rfl) (pv 3) Ad (fun _ _=>rfl)) Ba (Bm _)) (JH (Bc dZ (pv 2) (Cw (v:=.int 4) rfl hML4 ⟨tML4,rfl⟩) (Bm _))))) (Ah (BL O6)) Bh)
   (Ah (BL (Dy (El Gs (Ar (BJ (K:=K) rfl) (pv 0) Ad (fun _ _=>rfl)) (Ar (BJ (K:=K) rfl) (pv 0) Ad (fun _ _=>rfl)) (Bm _)) (Dn (Ai GIk hrIk rfl N.FIk.2.2 N.FIk.1.kp N.FIk.2.1 .nil Av (Aa (Ar (BJ (K:=K) rfl) (pv 0) Ad (fun _ _=>rfl)) (Aa (Ar (BJ (K:=K) rfl) (pv 3) Ad (fun _ _=>rfl)) (Aa (pv 1) Ac))))))))))),?_⟩
  obtain ⟨cnt,v,sh,lo,hi,bd,rs,er,hc,h4,hv,hw,hrest,hle,hk⟩:=hL.ex
  have hr1:H r=some (.tup [.str ro.w,.str ro.nm,.int sh,.int lo,.int hi]):=by rw [hr0,← er]
  obtain ⟨r2,rfl,hr2⟩:=hR v (List.mem_of_getElem? hv)
  have hr2':H r2=some (.tup (.str (ρ (.ref r2)).w :: .str (ρ (.ref r2)).nm :: .str bd::rs)):=by rw [hr2,← hrest]
  have hlt:=hc.lt
  have ei:((us.length:Nat):Int) - 1 - ((cnt:Nat):Int)=((us.length - 1 - cnt:Nat):Int):=by omega
  have hS:Cg K H p us:=.inl (.inl hp)
  refine ⟨_,rfl,p,us,ρ,cnt,rfl,hp,hR,hl,hc,?_⟩
  refine ⟨_,rfl,_,rfl,p,us,rfl,.inl hS,_,_,rfl,rfl,_,rfl,_,_,rfl,rfl,p,us,_,_,rfl,rfl,hS,(by rw [ei]; exact Ag hv),?_⟩
  refine ⟨_,rfl,r2,_,_,_,rfl,rfl,.inl (.inl hr2'),Ag (j:=0) rfl,rfl,_,rfl,WL (congrArg V.str hw) ?_⟩
  refine ⟨_,rfl,_,_,rfl,rfl,_,rfl,?_⟩
  refine B_ (fun z=>?_) (fun _=>?_)
  ·have:=of_decide_eq_true z
   omega
  refine ⟨_,rfl,r,_,_,_,rfl,rfl,.inl (.inl hr1),Ag (j:=3) rfl,_,rfl,r,_,_,_,rfl,rfl,.inl (.inl hr1),Ag (j:=4) rfl,_,_,rfl,rfl,_,rfl,?_⟩
  refine B_ (fun _=>?_) (fun z=>absurd (decide_eq_true hle) z)
  refine ⟨_,rfl,r,_,_,_,rfl,rfl,.inl (.inl hr1),Ag (j:=4) rfl,_,rfl,r2,_,_,_,rfl,rfl,.inl (.inl hr2'),Ag (j:=2) rfl,_,rfl,hi,bd,p,us,ρ,rfl,hp,hR,hl,hB,fun H' s'=>?_⟩
  rw [hk]
  exact q H' s'
noncomputable def Xj (K:PySem.W.Frag) (aB aP aM:Addr):Sp:=fun vs H Q _=>∃ (r p:Addr) (ro:R) (us:List V) (ρ:V->R),vs=[.ref r,.ref p]/\H r=some (.tup ro.v)/\H p=some (.lst us)/\Rows H ρ us/\us.length<=500/\Gv K aB aP aM ρ us ro/\∀ H',Ak H H'->Q (.bl true) H'
theorem jN:Ay ["row","ahead"] ["row","ahead"] (Ab ZS):=⟨rfl,rfl,rfl,by decide +kernel,rfl,by decide +kernel,by decide +kernel⟩
include N T in
theorem b8:A_ P w K mg base Bf 6 fWm dWm ["row","ahead"] (Xj K aB aP aM):=by
 have GHp:A_ P w K mg base Bf 5 fHp dHp ["row","ahead"] (cX K aB aP):=fX N T
 have GSb:A_ P w K mg base Bf 3 fSb dSb ["line","ahead"] Zj:=dX N T
 refine N.FWm.1.ok jN (fun vs H Q E h=>?_) (fun cdv A outer s H vs Q E hr h=>?_)
 ·obtain ⟨r,p,ro,us,ρ,rfl,_⟩:=h
  rfl
 ·obtain ⟨r,p,ro,us,ρ,rfl,hr0,hp,hR,hl,ok,q⟩:=h
  have hrHp:BZ 5 _:=hr.mono (by decide)
  have hrSb:BZ 3 _:=hr.mono (by decide)
  refine ⟨_,(Ae (Ce (Bc Dj (Ar (BJ (K:=K) rfl) (pv 0) Ad (fun _ _=>rfl)) Ba (Bm _)) (Ah Gq) Bh)
   (Ae (Ce (Bc Dj (Ar (BJ (K:=K) rfl) (pv 0) Ad (fun _ _=>rfl)) Ba (Bm _)) (Ah (BL (Dy (Ai GHp hrHp rfl N.FHp.2.2 N.FHp.1.kp N.FHp.2.1 .nil Av (Aa (pv 0) (Aa (pv 1) Ac))) (Dn (Ai GSb hrSb rfl N.FSb.2.2 N.FSb.1.kp N.FSb.2.1 .nil Av (Aa (pv 0) (Aa (pv 1) Ac))))))) Bh)
   (Ah (BL (Dy (TY (Ua (Ar (BJ (K:=K) rfl) (pv 0) Ad (fun _ _=>rfl)) (Cw (v:=.ref aP) rfl T.mP rfl))) (Dn (Ai GHp hrHp rfl N.FHp.2.2 N.FHp.1.kp N.FHp.2.1 .nil Av (Aa (pv 0) (Aa (pv 1) Ac))))))))),?_⟩
  obtain ⟨ap,ps,hn,hap,hlen,hps,hok⟩:=ok.parts
  refine ⟨_,rfl,r,_,_,_,rfl,rfl,.inl (.inl hr0),Ag (j:=0) rfl,rfl,_,rfl,?_⟩
  refine B_ (fun z=>absurd (V.str.inj (of_decide_eq_true z)) ok.ns) (fun _=>?_)
  refine ⟨_,rfl,r,_,_,_,rfl,rfl,.inl (.inl hr0),Ag (j:=0) rfl,rfl,_,rfl,?_⟩
  refine B_ (fun z=>?_) (fun _=>?_)
  ·have hline:=ok.line (V.str.inj (of_decide_eq_true z))
   refine ⟨_,rfl,_,rfl,r,p,ro.w,_,us,ρ,ap,ps,rfl,hr0,hp,hR,hl,hn,hap,hlen,hps,hok,fun H1 s1=>⟨_,rfl,GZ ?_⟩⟩
   exact ⟨_,rfl,_,rfl,r,p,ro,us,ρ,rfl,s1 _ _ hr0,s1 _ _ hp,hR.mono s1,hl,hline,ok.Yg,fun H2 s2=>q H2 (s1.trans s2)⟩
  refine ⟨_,rfl,r,_,_,_,rfl,rfl,.inl (.inl hr0),Ag (j:=0) rfl,aP,_,_,rfl,rfl,T.dP,hn,_,rfl,GZ ?_⟩
  exact ⟨_,rfl,_,rfl,r,p,ro.w,_,us,ρ,ap,ps,rfl,hr0,hp,hR,hl,hn,hap,hlen,hps,hok,q⟩
noncomputable def fB (K:PySem.W.Frag) (aM:Addr):Sp:=fun vs H Q _=>∃ (p:Addr) (w:Str) (us:List V) (ρ:V->R),vs=[.str w,.ref p]/\H p=some (.lst us)/\Rows H ρ us/\us.length<=500/\(PySem.W.nsIn K aM w=some none \/ ∃ (m:Int) (t:Tok),PySem.W.nsIn K aM w=some (some (.int m t))/\(((us.filter (pw ρ w)).length:Nat):Int)<m)/\∀ H',Ak H H'->Q (.bl true) H'
theorem jZ:Ay ["word","ahead"] ["word","ahead"] (Ab ZF):=⟨rfl,rfl,rfl,by decide +kernel,rfl,by decide +kernel,by decide +kernel⟩
include N T in
theorem cI:A_ P w K mg base Bf 2 fHr dHr ["word","ahead"] (fB K aM):=by
 have GRo:A_ P w K mg base Bf 1 fRo dRo ["rows","word"] QV:=Nf N T
 refine N.FHr.1.ok jZ (fun vs H Q E h=>?_) (fun cdv A outer s H vs Q E hr h=>?_)
 ·obtain ⟨p,w,us,ρ,rfl,_⟩:=h
  rfl
 ·obtain ⟨p,w,us,ρ,rfl,hp,hR,hl,hroom,q⟩:=h
  have hrRo:BZ 1 _:=hr.mono (by decide)
  refine ⟨_,(Ah (BL (cR (TY (Q3 (pv 0) (Cw (v:=.ref aM) rfl T.mM rfl))) (Dn (El JW (BR BV rfl T.len PySem.boot_len (Aa (Ai GRo hrRo rfl N.FRo.2.2 N.FRo.1.kp N.FRo.2.1 .nil Av (Aa (pv 1) (Aa (pv 0) Ac))) Ac)) (LC (Cw (v:=.ref aM) rfl T.mM rfl) (pv 0) (fun _ _=>rfl)) (Bm _)))))),?_⟩
  rcases hroom with hn | ⟨m,t,hn,hm⟩
  ·refine ⟨_,rfl,aM,w,_,rfl,rfl,T.dM,hn,_,rfl,GZ ?_⟩
   exact q H (Ak.refl H)
  refine ⟨_,rfl,aM,w,_,rfl,rfl,T.dM,hn,_,rfl,Gh ?_⟩
  refine ⟨_,rfl,_,rfl,p,us,w,ρ,rfl,hp,hR,hl,fun D H2 hD s2 hl2=>?_⟩
  refine ⟨D,_,rfl,.inl (.inl (.inl hl2)),_,rfl,aM,w,.int m,_,rfl,rfl,T.dM,hn,⟨t,rfl⟩,_,_,rfl,rfl,?_⟩
  show Q (.bl (decide ((((us.filter (pw ρ w)).length:Nat):Int)<m))) H2
  rw [decide_eq_true hm]
  exact q H2 s2
noncomputable def cj (K:PySem.W.Frag) (aB aP aM:Addr):Sp:=Xj K aB aP aM
theorem gr:Ay ["thing","ahead"] ["thing","ahead"] (Ab ZG):=⟨rfl,rfl,rfl,by decide +kernel,rfl,by decide +kernel,by decide +kernel⟩
include N T in
theorem aq:A_ P w K mg base Bf 7 fIr dIr ["thing","ahead"] (cj K aB aP aM):=by
 have GWm:A_ P w K mg base Bf 6 fWm dWm ["row","ahead"] (Xj K aB aP aM):=b8 N T
 have GHr:A_ P w K mg base Bf 2 fHr dHr ["word","ahead"] (fB K aM):=cI N T
 refine N.FIr.1.ok gr (fun vs H Q E h=>?_) (fun cdv A outer s H vs Q E hr h=>?_)
 ·obtain ⟨r,p,ro,us,ρ,rfl,_⟩:=h
  rfl
 ·obtain ⟨r,p,ro,us,ρ,rfl,hr0,hp,hR,hl,ok,q⟩:=h
  have hrWm:BZ 6 _:=hr.mono (by decide)
  have hrHr:BZ 2 _:=hr.mono (by decide)
  refine ⟨_,(Ae (Ce (PW.pt (Jz (Ex (FN (BR DR rfl T.isin PyProof.Rows.boot_isinstance (Aa (pv 0) (Aa (Es (v:=.ty "tuple") rfl T.tuple PyProof.Rows.boot_tuple rfl) Ac))))) (Jz (Bc Dj (BR BV rfl T.len PySem.boot_len (Aa (pv 0) Ac)) Ad (Bm _)) (JH (Ex (FN (BR DR rfl T.isin PyProof.Rows.boot_isinstance (Aa (Ar (BJ (K:=K) rfl) (pv 0) Ad (fun _ _=>rfl)) (Aa (Es (v:=.ty "str") rfl T.str PyProof.Rows.boot_str rfl) Ac))))))))) (Ah (BL O6)) Bh)
   (Ah (BL (Dy (Ai GWm hrWm rfl N.FWm.2.2 N.FWm.1.kp N.FWm.2.1 .nil Av (Aa (pv 0) (Aa (pv 1) Ac))) (Dn (Ai GHr hrHr rfl N.FHr.2.2 N.FHr.1.kp N.FHr.2.1 .nil Av (Aa (Ar (BJ (K:=K) rfl) (pv 0) Ad (fun _ _=>rfl)) (Aa (pv 1) Ac)))))))),?_⟩
  have hroom:PySem.W.nsIn K aM ro.w=some none \/ ∃ (m:Int) (t:Tok),PySem.W.nsIn K aM ro.w=some (some (.int m t))/\(((us.filter (pw ρ ro.w)).length:Nat):Int)<m:=ok.room.elim (fun z=>.inl z.2) .inr
  refine ⟨_,rfl,_,"tuple",_,_,rfl,.tup hr0,az,_,rfl,Gh ?_⟩
  refine ⟨_,rfl,r,_,rfl,.inr (.inl (.inl hr0)),rfl,_,rfl,?_⟩
  refine B_ (fun z=>?_) (fun _=>?_)
  ·exfalso
   have:=of_decide_eq_true z
   have:=V.int.inj this
   simp at this
   omega
  refine ⟨_,rfl,r,_,_,_,rfl,rfl,.inl (.inl hr0),Ag (j:=0) rfl,_,"str",_,_,rfl,.str _,WT,_,rfl,Gh ?_⟩
  refine ⟨_,rfl,_,rfl,r,p,ro,us,ρ,rfl,hr0,hp,hR,hl,ok,fun H1 s1=>⟨_,rfl,GZ ?_⟩⟩
  exact ⟨_,rfl,r,_,_,_,rfl,rfl,.inl (.inl (s1 _ _ hr0)),Ag (j:=0) rfl,_,rfl,p,ro.w,us,ρ,rfl,s1 _ _ hp,hR.mono s1,hl,hroom,fun H2 s2=>q H2 (s1.trans s2)⟩
noncomputable def dU (K:PySem.W.Frag) (aB aP aM:Addr):Sp:=fun vs H Q _=>∃ (p:Addr) (us:List V) (ρ:V->R),vs=[.ref p]/\H p=some (.lst us)/\Rows H ρ us/\1<=us.length/\us.length<=150/\(∀ (i:Nat) v,us[i]? = some v->Gv K aB aP aM ρ (us.take i) (ρ v))/\(us.filter (pw ρ "board")).isEmpty=false/\∀ H',Ak H H'->Q .non H'
theorem Xk:Ay ["rows","at","row"] ["rows"] (Ab Yo):=⟨rfl,rfl,rfl,by decide +kernel,rfl,by decide +kernel,by decide +kernel⟩
include N T in
theorem bz:A_ P w K mg base Bf 8 fCk dCk ["rows"] (dU K aB aP aM):=by
 have GIr:A_ P w K mg base Bf 7 fIr dIr ["thing","ahead"] (cj K aB aP aM):=aq N T
 have GRo:A_ P w K mg base Bf 1 fRo dRo ["rows","word"] QV:=Nf N T
 refine N.FCk.1.ok Xk (fun vs H Q E h=>?_) (fun cdv A outer s H vs Q E hr h=>?_)
 ·obtain ⟨p,us,ρ,rfl,_⟩:=h
  rfl
 ·obtain ⟨p,us,ρ,rfl,hp,hR,h1,h2,hok,hb,q⟩:=h
  have hrIr:BZ 7 _:=hr.mono (by decide)
  have hrRo:BZ 1 _:=hr.mono (by decide)
  obtain ⟨tMR,hMR⟩:=T.mostR
  refine ⟨_,(Ae (Ce (PW.pt (Jz (Ex (FN (BR DR rfl T.isin PyProof.Rows.boot_isinstance (Aa (pv 0) (Aa (Es (v:=.ty "list") rfl T.list PyProof.Rows.boot_list rfl) Ac))))) (JH (Ex (Ju Gs Gs Ad (BR BV rfl T.len PySem.boot_len (Aa (pv 0) Ac)) (Cw (v:=.int 150) rfl hMR ⟨tMR,rfl⟩)))))) (Ah Gq) Bh)
   (Ae (Cp PassesOwn.never rfl (Ik rfl T.enumerate (Aa (pv 0) Ac)) (Jl rfl (Di (Bp (i:=1) Xk.nd rfl (Or.inl rfl)) (Di (Bp (i:=2) Xk.nd rfl (Or.inl rfl)) Hw))) (Ah (Ce (Ex (FN (Ai GIr hrIr rfl N.FIr.2.2 N.FIr.1.kp N.FIr.2.1 .nil Av (Aa (pv 2) (Aa (Eg GD (pv 0) GR (Em (pv 1))) Ac))))) (Ah Gq) Bh)))
   (Ah (Ce (Ex (RM (Ai GRo hrRo rfl N.FRo.2.2 N.FRo.1.kp N.FRo.2.1 .nil Av (Aa (pv 0) (Aa Ba Ac))) (fun _=>rfl))) (Ah Gq) Bh)))),?_⟩
  have hS:Cg K H p us:=.inl (.inl hp)
  refine ⟨_,rfl,_,"list",_,_,rfl,.lst hp,WF,_,rfl,Gh ?_⟩
  refine ⟨_,rfl,p,_,rfl,.inl hS,_,_,rfl,rfl,_,rfl,?_⟩
  refine B_ (fun _=>?_) (fun z=>absurd (decide_eq_true (by omega)) z)
  refine ⟨_,_,rfl,rfl,_,rfl,?_⟩
  have e150:decide ((us.length:Int)<=150)=true:=decide_eq_true (by omega)
  rw [e150]
  refine Gh ?_
  refine ⟨_,rfl,p,rfl,⟨_,hS⟩,H_ (K:=K) (a:=p) (xs:=us) (fun i σ H4=>Ak H H4/\∃ v1 v2,σ=[some (.ref p),v1,v2]) ⟨Ak.refl H,_,_,rfl⟩ (fun i σ H4 _ h=>h.1.seq hS) ?_ ?_⟩
  ·rintro i x σ H4 T0 hx ⟨s4,v1,v2,rfl⟩ hT
   have s5:=An (o:=HO.tup [.int (i:Int),x]) hT
   refine ⟨T0,_,rfl,.inl (.inl Af),rfl,_,_,rfl,_,_,rfl,rfl,?_⟩
   generalize upd H4 T0 (HO.tup [.int (i:Int),x])=H5 at s5 ⊢
   have s05:=s4.trans s5
   have hi:i<us.length:=(List.getElem?_eq_some_iff.mp hx).1
   obtain ⟨r,rfl,hr0⟩:=(hR.mono s05) x (List.mem_of_getElem? hx)
   refine ⟨_,rfl,_,rfl,_,rfl,_,rfl,p,_,rfl,s05.seq hS,fun p6 hp6=>?_⟩
   have s6:=An (o:=HO.lst (Ef us none (some (i:Int)))) hp6
   have a6:upd H5 p6 (HO.lst (Ef us none (some (i:Int)))) p6=_:=Af
   generalize upd H5 p6 (HO.lst (Ef us none (some (i:Int))))=H6 at s6 a6 ⊢
   rw [Hu us i (by omega)] at a6
   have s06:=s05.trans s6
   refine ⟨r,p6,ρ (.ref r),us.take i,ρ,rfl,s6 _ _ hr0,a6,(hR.mono s06).sub fun v hv=>List.mem_of_mem_take hv,by rw [List.length_take]; omega,hok i _ hx,fun H7 s7=>⟨_,rfl,Gh ?_⟩⟩
   exact ⟨s06.trans s7,_,_,rfl⟩
  ·rintro σ H4 ⟨s4,v1,v2,rfl⟩
   refine ⟨_,rfl,p,us,"board",ρ,rfl,s4 _ _ hp,hR.mono s4,by omega,fun D H5 hD s5 hl5=>?_⟩
   refine ⟨_,.inl ⟨_,.inl (.inl hl5),rfl⟩,?_⟩
   rw [hb]
   exact Gh (q H5 (s4.trans s5))
noncomputable def gB:Sp:=fun vs H Q _=>∃ (p:Addr) (ts:List Str),vs=[.ref p]/\H p=some (.lst (ts.map V.str))/\ts.length<=300/\ts.Nodup/\∀ D (kvs:List (Key × V)) H',H D=none->Ak H H'->H' D=some (.dK kvs)->(∀ (i:Nat) t,ts[i]? = some t->Cj kvs (Sum.inr t)=some (.int (i:Nat)))->Q (.ref D) H'
theorem Uu:Ay ["names","numbers","number","name"] ["names"] (Ab Yv):=⟨rfl,rfl,rfl,by decide +kernel,rfl,by decide +kernel,by decide +kernel⟩
include N T in
theorem bh:A_ P w K mg base Bf 1 fNu dNu ["names"] gB:=by
 refine N.FNu.1.ok Uu (fun vs H Q E h=>?_) (fun cdv A outer s H vs Q E hr h=>?_)
 ·obtain ⟨p,ts,rfl,_⟩:=h
  rfl
 ·obtain ⟨p,ts,rfl,hp,hl,nd,q⟩:=h
  have hu:=HH hr
  refine ⟨_,(Ae (Bq (i:=1) Uu.nd rfl (Or.inl rfl) Ig)
   (Ae (Cp PassesOwn.never rfl (Ik rfl T.enumerate (Aa (pv 0) Ac)) (Jl rfl (Di (Bp (i:=2) Uu.nd rfl (Or.inl rfl)) (Di (Bp (i:=3) Uu.nd rfl (Or.inl rfl)) Hw))) (Ah (G7 hu (pv 1) (pv 3) (pv 2) rfl)))
   (Ah (BL (pv 1))))),?_⟩
  intro D hD
  have s0:=An (o:=HO.dK []) hD
  have hS:Cg K H p (ts.map V.str):=.inl (.inl hp)
  refine ⟨_,rfl,p,rfl,⟨_,s0.seq hS⟩,H_ (K:=K) (a:=p) (xs:=ts.map V.str) (fun i σ H4=>Ak H H4/\∃ (kvs:List (Key × V)),H4 D=some (.dK kvs)/\kvs.length<=i/\(∀ (j:Nat) t,j<i->ts[j]? = some t->Cj kvs (Sum.inr t)=some (.int (j:Nat)))/\∃ v2 v3,σ=[some (.ref p),some (.ref D),v2,v3])
   ⟨s0,[],Af,Nat.le_refl _,fun j t hj=>absurd hj (Nat.not_lt_zero _),_,_,rfl⟩ (fun i σ H4 _ h=>h.1.seq hS) ?_ ?_⟩
  ·rintro i x σ H4 T0 hx ⟨s4,kvs,hd,hk,hv,v2,v3,rfl⟩ hT
   rw [List.getElem?_map] at hx
   obtain ⟨t,ht,rfl⟩:=Option.map_eq_some_iff.mp hx
   have hi:i<ts.length:=(List.getElem?_eq_some_iff.mp ht).1
   have s5:=An (o:=HO.tup [.int (i:Int),.str t]) hT
   refine ⟨T0,_,rfl,.inl (.inl Af),rfl,_,_,rfl,_,_,rfl,rfl,?_⟩
   generalize upd H4 T0 (HO.tup [.int (i:Int),.str t])=H5 at s5 ⊢
   refine ⟨_,rfl,_,rfl,_,rfl,D,_,rfl,KY.k (k:=Sum.inr t) (s5 _ _ hd) (Aq (by omega)),?_⟩
   refine ⟨fun b u e=>?_,putK kvs (Sum.inr t) (.int (i:Int)),Af,Nat.le_trans (Ds _ _ _) (by omega),fun j t' hj ht'=>?_,_,_,rfl⟩
   ·rw [Al (Aj e hD)]
    exact s5 _ _ (s4 _ _ e)
   ·rw [Cz]
    by_cases e:t'=t
    ·subst e
     have:j=i:=by
      obtain ⟨h1,e1⟩:=List.getElem?_eq_some_iff.mp ht'
      obtain ⟨h2,e2⟩:=List.getElem?_eq_some_iff.mp ht
      exact (List.getElem_inj nd).mp (e1.trans e2.symm)
     subst this
     rw [if_pos rfl]
    ·rw [if_neg fun z=>e (Sum.inr.inj z)]
     refine hv j t' ?_ ht'
     rcases Nat.lt_succ_iff_lt_or_eq.mp hj with z | z
     ·exact z
     ·subst z
      rw [ht] at ht'
      exact absurd (Option.some.inj ht').symm e
  ·rintro σ H4 ⟨s4,kvs,hd,hk,hv,v2,v3,rfl⟩
   refine ⟨_,rfl,q D kvs H4 hD s4 hd fun i t ht=>hv i t ?_ ht⟩
   rw [List.length_map]
   exact (List.getElem?_eq_some_iff.mp ht).1
noncomputable def VB:Sp:=fun vs H Q _=>∃ (p:Addr) (as:List Th) (us:List V),vs=[.ref p]/\H p=some (.lst us)/\Paired (fun (a:Th) y=>TupAt H (tV a) y) as us/\as.length<=500/\(∀ a∈as,a.2.1<=100)/\∀ H',Ak H H'->Q (.int ((as.map fun a=>a.2.1).sum:Nat)) H'
theorem Pz:∀ l:List Nat,(l.map fun n:Nat=>(n:Int)).sum=((l.sum:Nat):Int)
 | []=>rfl
 | n::l=>by
  rw [List.map_cons,List.sum_cons,List.sum_cons,Pz l]
  omega
theorem jX:Ay ["things"] ["things"] (Ab YB):=⟨rfl,rfl,rfl,by decide +kernel,rfl,by decide +kernel,by decide +kernel⟩
include N T in
theorem V_:A_ P w K mg base Bf 1 fCa dCa ["things"] VB:=by
 refine N.FCa.1.ok jX (fun vs H Q E h=>?_) (fun cdv A outer s H vs Q E hr h=>?_)
 ·obtain ⟨p,as,us,rfl,_⟩:=h
  rfl
 ·obtain ⟨p,as,us,rfl,hp,hb,hl,hz,q⟩:=h
  refine ⟨_,(Ah (BL (BR (Rg rfl) rfl T.sum PyProof.Rows.boot_sum (Aa (Bl rfl (BX (osc:=Ab YB) (N:=["things"]) rfl rfl (by decide +kernel)) (Bj (pv 0)) (fun _ _ _ _=>Bt) (fun _ _ _ _=>(Ar (BJ (K:=K) rfl) (pv 0) Ad (fun _ _=>rfl)))) Ac)))),?_⟩
  have hS:Cg K H p us:=.inl (.inl hp)
  have hul:=hb.length
  refine ⟨_,rfl,p,rfl,⟨_,hS⟩,Cd (K:=K) (xs:=us) (fun _=>true) (QW H 1) hS (Aq (by omega)) (fun x hx H' hs R k=>k H' (Ak.refl H')) (fun x hx _ H' hs R k=>?_) (fun D H' hD hs hl'=>?_)⟩
  ·obtain ⟨b,_,hx'⟩:=Ci hb hx
   have e:=IW hx' 1
   obtain ⟨T0,rfl,hT⟩:=hx'.mono hs
   refine ⟨_,rfl,T0,_,_,_,rfl,rfl,.inl (.inl hT),Ag (j:=1) rfl,?_⟩
   have:=k H' (Ak.refl H')
   rw [e] at this
   exact this
  ·rw [List.filter_eq_self.mpr (fun _ _=>rfl),Jf 1 hb] at hl'
   have e:(as.map fun a=>(tV a).getD 1 V.non)=((as.map fun a=>a.2.1).map fun n:Nat=>(n:Int)).map V.int:=by
    rw [List.map_map,List.map_map]
    rfl
   rw [e] at hl'
   refine ⟨D,_,rfl,.inl (.inl hl'),fun n hn=>?_,by simp; omega,?_⟩
   ·obtain ⟨m,hm,rfl⟩:=List.mem_map.mp hn
    obtain ⟨b,hb',rfl⟩:=List.mem_map.mp hm
    have:=hz b hb'
    omega
   ·rw [Pz]
    exact q H' hs
theorem dg {n:Nat} (h:n<=3000):n<sizeLine:=Nat.lt_of_le_of_lt h (by decide)
noncomputable def aQ:Sp:=fun vs H Q _=>∃ (p:Addr) (as:List Th) (us:List V),vs=[.ref p]/\H p=some (.lst us)/\Paired (fun (a:Th) y=>TupAt H (tV a) y) as us/\as.length<=12/\(∀ a∈as,a.2.1<=97)/\∀ D ys H',H D=none->Ak H H'->H' D=some (.lst ys)->Paired (fun q y=>TupAt H' (qV q) y) (E_ (as.map tN)) ys->Q (.ref D) H'
theorem Vs:Ay ["things","places","number","thing"] ["things"] (Ab W_):=⟨rfl,rfl,rfl,by decide +kernel,rfl,by decide +kernel,by decide +kernel⟩
include N T in
theorem bJ:A_ P w K mg base Bf 1 fPl dPl ["things"] aQ:=by
 refine N.FPl.1.ok Vs (fun vs H Q E h=>?_) (fun cdv A outer s H vs Q E hr h=>?_)
 ·obtain ⟨p,as,us,rfl,_⟩:=h
  rfl
 ·obtain ⟨p,as,us,rfl,hp,hb,hl,hz,q⟩:=h
  refine ⟨_,(Ae (Bq (i:=1) Vs.nd rfl (Or.inl rfl) (Dw Ac))
   (Ae (Cp PassesOwn.never rfl (Ik rfl T.enumerate (Aa (pv 0) Ac)) (Jl rfl (Di (Bp (i:=2) Vs.nd rfl (Or.inr rfl)) (Di (Bp (i:=3) Vs.nd rfl (Or.inl rfl)) Hw))) (Ah (Ed (Ih PySem.F.plainAttrs_list PySem.F.slot_list_extend PySem.F.type_list_extend Qu (pv 1) (Aa (Bl rfl (BX (osc:=Ab W_) (N:=["things","places","number","thing"]) rfl rfl (by decide +kernel)) (Bs rfl T.range (Aa (Ar (BJ (K:=K) rfl) (pv 3) Ad (fun _ _=>rfl)) Ac)) (fun _ _ _ _=>Bt) (fun _ _ _ _=>(DG (Aa (pv 3) (Aa (pv 0) Ac))))) Ac)))))
   (Ah (BL (pv 1))))),?_⟩
  refine ⟨Hn (by simp),fun D hD=>?_⟩
  have s0:=An (o:=HO.lst []) hD
  have hS:Cg K H p us:=.inl (.inl hp)
  have hul:=hb.length
  refine ⟨_,rfl,p,rfl,⟨_,s0.seq hS⟩,H_ (K:=K) (a:=p) (xs:=us) (fun i σ H4=>Ak H H4/\∃ ys,H4 D=some (.lst ys)/\Paired (fun q y=>TupAt H4 (qV q) y) (E_ ((as.map tN).take i)) ys/\∃ v2 v3,σ=[some (.ref p),some (.ref D),v2,v3])
   ⟨s0,[],Af,.nil,_,_,rfl⟩ (fun i σ H4 _ h=>h.1.seq hS) ?_ ?_⟩
  ·rintro i x σ H4 T0 hx ⟨s4,ys,hd,hpr,v2,v3,rfl⟩ hT
   obtain ⟨b,hbi,hxb⟩:=Ff hb hx
   have hi:i<as.length:=(List.getElem?_eq_some_iff.mp hbi).1
   have hb97:=hz b (List.mem_of_getElem? hbi)
   have hbi':(as.map tN)[i]? = some (tN b):=by rw [List.getElem?_map,hbi]; rfl
   have s5:=An (o:=HO.tup [.int (i:Int),x]) hT
   refine ⟨T0,_,rfl,.inl (.inl Af),rfl,_,_,rfl,_,_,rfl,rfl,?_⟩
   generalize upd H4 T0 (HO.tup [.int (i:Int),x])=H5 at s5 ⊢
   obtain ⟨r,rfl,hr0⟩:=hxb.mono (s4.trans s5)
   have p5:=Am s5 hpr
   have d5:=s5 _ _ hd
   refine ⟨_,rfl,.inl ⟨rfl,_,.inl (.inl d5)⟩,_,rfl,r,_,_,_,rfl,rfl,.inl (.inl hr0),Ag (j:=1) rfl,_,rfl,by omega,by omega,?_⟩
   rw [Int.toNat_natCast]
   refine QK (n:=b.2.1) (fun e=>qV (i,e)) (Aq (by omega)) (fun e he H6 s6 R k=>?_) (fun D6 H6 zs hD6 s6 hl6 hz6=>?_)
   ·refine ⟨_,rfl,_,rfl,by show 2<=sizeLine; decide,fun T6 hT6=>?_⟩
    exact k _ _ (An hT6) ⟨T6,rfl,Af⟩
   ·have ly:=(Am s6 p5).length
    have lz:=hz6.length
    have lp:=Lg ((as.map tN).take i) 97 fun b hb=>by
     obtain ⟨a,ha,rfl⟩:=List.mem_map.mp (List.mem_of_mem_take hb)
     exact hz a ha
    rw [List.length_take,List.length_map] at lp
    rw [List.length_range] at lz
    have:min i as.length * 97<=12 * 97:=Nat.mul_le_mul_right _ (by omega)
    refine ⟨D,D6,ys,zs,rfl,rfl,s6 _ _ d5,hl6,Nat.le_of_lt (dg (by omega)),?_⟩
    refine ⟨fun b u e=>?_,ys++zs,Af,?_,_,_,rfl⟩
    ·rw [Al (Aj e hD)]
     exact s6 _ _ (s5 _ _ (s4 _ _ e))
    ·rw [Il hbi']
     exact CJ (CP (Am s6 p5) (s6 _ _ d5)) (CT (F:=fun q y=>TupAt _ (qV q) y) (fun e=>(i,e)) (CP hz6 (s6 _ _ d5)))
  ·rintro σ H4 ⟨s4,ys,hd,hpr,v2,v3,rfl⟩
   rw [← hul,List.take_of_length_le (by rw [List.length_map]; exact Nat.le_refl _)] at hpr
   exact ⟨_,rfl,q D ys H4 hD s4 hd hpr⟩
theorem Ov {α:Type} (l:List α) (x:α):Ly (l++[x]) (-1)=some x:=by
 unfold Ly RG
 rw [if_neg (by decide),if_pos (by rw [List.length_append,List.length_singleton]; omega)]
 show (l++[x])[(-1+(((l++[x]).length:Nat):Int)).toNat]? = some x
 have e:(-1+(((l++[x]).length:Nat):Int)).toNat=l.length:=by
  rw [List.length_append,List.length_singleton]
  omega
 rw [e,List.getElem?_append_right (Nat.le_refl _),Nat.sub_self]
 rfl
theorem J4 {H:Hp} {l:List Ln} {v:V} {A:Addr} {xs ys:List V} (h:Hi H l v) (hA:H A=some (.lst xs)) (hv:v ≠ .ref A):Hi (upd H A (.lst ys)) l v:=by
 obtain ⟨B,ts,rfl,h1,h2⟩:=h
 have:B ≠ A:=fun z=>hv (by rw [z])
 exact ⟨B,ts,rfl,by rw [Al this]; exact h1,CP h2 hA⟩
theorem Gz {α β:Type} {F G:α->β->Prop}:∀ {l:List α} {vs:List β},Paired F l vs->(∀ a b,b∈vs->F a b->G a b)->Paired G l vs
 | [],_,h,_=>by cases h; exact .nil
 | a::l,_,h,k=>by
  cases h with
  | cons x y=>exact .cons (k _ _ (List.mem_cons_self ..) x) (Gz y fun a b hb=>k a b (List.mem_cons_of_mem _ hb))
theorem IV {α β:Type} {F:α->β->Prop}:∀ {l:List α} {z:α} {vs:List β},Paired F (l++[z]) vs->∃ us u,vs=us++[u]/\Paired F l us/\F z u
 | [],z,_,h=>by
  cases h with
  | cons x y=>cases y; exact ⟨[],_,rfl,.nil,x⟩
 | a::l,z,_,h=>by
  cases h with
  | cons x y =>
   obtain ⟨us,u,rfl,h1,h2⟩:=IV y
   exact ⟨_::us,u,rfl,.cons x h1,h2⟩
theorem FW {α:Type} {l:List α} (h:l ≠ []):∃ a z,l=a++[z]:=⟨l.dropLast,l.getLast h,(List.dropLast_concat_getLast h).symm⟩
theorem L_ {rk:List (Str × Nat × Int)}:∀ {rs:List R},(∃ r∈rs,Iv r.w=true)->linesOf rk rs ≠ []:=by
 have key:∀ (n:Nat) (rs:List R),rs.length=n->(∃ r∈rs,Iv r.w=true)->linesOf rk rs ≠ []:=by
  intro n
  induction n with
  | zero =>
   rintro rs hl ⟨r,hr,_⟩
   cases rs with
   | nil=>cases hr
   | cons a b=>cases hl
  | succ n ih =>
   rintro rs hl ⟨r,hr,hk⟩
   obtain ⟨a,z,rfl⟩:=FW (l:=rs) (by intro e; rw [e] at hl; cases hl)
   rw [CQ]
   rw [List.length_append,List.length_singleton] at hl
   unfold Fq
   by_cases hz:Iv z.w=true
   ·rw [if_pos hz]
    simp
   ·rw [if_neg hz]
    have hr':r∈a:=by
     rcases List.mem_append.mp hr with h | h
     ·exact h
     ·rw [List.mem_singleton.mp h] at hk
      exact absurd hk hz
    have ih':=ih a (by omega) ⟨r,hr',hk⟩
    split
    ·obtain ⟨b,y,e⟩:=FW ih'
     rw [e,G5]
     simp
    ·exact ih'
 exact fun {rs} h=>key rs.length rs rfl h
noncomputable def Z8:Sp:=fun vs H Q _=>∃ (p d:Addr) (us:List V) (ρ:V->R) (rk:List (Str × Nat × Int)) (kvs:List (Key × V)),vs=[.ref p,.ref d]/\H p=some (.lst us)/\Rows H ρ us/\us.length<=500/\H d=some (.dK kvs)/\(∀ (i:Nat) r,rk[i]? = some r->Cj kvs (Sum.inr r.1)=some (.int (i:Nat)))/\(rk.map (·.1)).Nodup /\
 (∀ (i:Nat) v,us[i]? = some v->(ρ v).w = "line"->(∃ (j:Nat) (r:Str × Nat × Int) (sh lo hi:Int),rk[j]? = some r/\r.1=(ρ v).nm/\(ρ v).rest=[.int sh,.int lo,.int hi])/\∃ u∈us.take i,Iv (ρ u).w=true)/\∀ D H',H D=none->Ak H H'->GK H' D (linesOf rk (us.map ρ))->Q (.ref D) H'
theorem Xo {rk:List (Str × Nat × Int)} {j:Nat} {r:Str × Nat × Int} (nd:(rk.map (·.1)).Nodup) (h:rk[j]? = some r):(rk.map (·.1)).idxOf r.1=j:=by
 have hj:j<(rk.map (·.1)).length:=by rw [List.length_map]; exact (List.getElem?_eq_some_iff.mp h).1
 have e:(rk.map (·.1))[j]=r.1:=by
  rw [List.getElem_map]
  exact congrArg (·.1) (List.getElem?_eq_some_iff.mp h).2
 rw [← e]
 exact List.Nodup.idxOf_getElem nd j hj
theorem Wf:Ay ["rows","rank_numbers","lines","row"] ["rows","rank_numbers"] (Ab Y0):=⟨rfl,rfl,rfl,by decide +kernel,rfl,by decide +kernel,by decide +kernel⟩
include N T in
theorem cB:A_ P w K mg base Bf 1 fLi dLi ["rows","rank_numbers"] Z8:=by
 refine N.FLi.1.ok Wf (fun vs H Q E h=>?_) (fun cdv A outer s H vs Q E hr h=>?_)
 ·obtain ⟨p,d,us,ρ,rk,kvs,rfl,_⟩:=h
  rfl
 ·obtain ⟨p,d,us,ρ,rk,kvs,rfl,hp,hR,hl,hdk,hval,hnd,hln,q⟩:=h
  have hu:=HH hr
  refine ⟨_,(Ae (Bq (i:=2) Wf.nd rfl (Or.inl rfl) (Dw Ac))
   (Ae (Cp PassesOwn.never rfl (Bj (pv 0)) (Bp (i:=3) Wf.nd rfl (Or.inl rfl)) (Ae (Ce (Bc (Jo (K:=K) rfl) (Ar (BJ (K:=K) rfl) (pv 3) Ad (fun _ _=>rfl)) (Cw (v:=.ref aK) rfl T.mK rfl) rfl) (Ah (Ed (Ih PySem.F.plainAttrs_list PySem.F.slot_list_append PySem.F.type_list_append Cm (pv 2) (Aa (Dw Ac) Ac)))) Bh)
   (Ah (Ce (Bc Dj (Ar (BJ (K:=K) rfl) (pv 3) Ad (fun _ _=>rfl)) Ba (Bm _)) (Ah (Ed (Ih PySem.F.plainAttrs_list PySem.F.slot_list_append PySem.F.type_list_append Cm (Ar (Ey (K:=K) rfl) (pv 2) (Mh Jy Ad) (fun _ _=>rfl)) (Aa (DG (Aa (DQ hu (pv 1) (Ar (BJ (K:=K) rfl) (pv 3) Ad (fun _ _=>rfl)) (fun _ _=>rfl)) (Aa (Ar (BJ (K:=K) rfl) (pv 3) Ad (fun _ _=>rfl)) (Aa (Ar (BJ (K:=K) rfl) (pv 3) Ad (fun _ _=>rfl)) (Aa (Ar (BJ (K:=K) rfl) (pv 3) Ad (fun _ _=>rfl)) Ac))))) Ac)))) Bh))))
   (Ah (BL (pv 2))))),?_⟩
  refine ⟨Hn (by simp),fun D hD=>?_⟩
  have s0:=An (o:=HO.lst []) hD
  have hS:Cg K H p us:=.inl (.inl hp)
  refine ⟨_,rfl,p,rfl,⟨_,s0.seq hS⟩,Ft (K:=K) (a:=p) (xs:=us) (fun i σ H4=>Ak H H4/\∃ lv,H4 D=some (.lst lv)/\Paired (fun l v=>Hi H4 l v) (linesOf rk ((us.take i).map ρ)) lv/\lv.Nodup/\(∀ v∈lv,v ≠ .ref D)/\(∀ v∈lv,∃ A,v=.ref A/\H A=none)/\lv.length<=i/\(∀ l∈linesOf rk ((us.take i).map ρ),l.length<=i)/\∃ v3,σ=[some (.ref p),some (.ref d),some (.ref D),v3])
   ⟨s0,[],Af,.nil,List.nodup_nil,(fun v hv=>nomatch hv),(fun v hv=>nomatch hv),Nat.le_refl _,(fun l hl=>nomatch hl),_,rfl⟩ (fun i σ H4 _ h=>h.1.seq hS) ?_ ?_⟩
  ·rintro i x σ H4 hx ⟨s4,lv,hd,hpr,nd,hne,hA0,hlv,hll,v3,rfl⟩
   have hm:=List.mem_of_getElem? hx
   have hi:i<us.length:=(List.getElem?_eq_some_iff.mp hx).1
   obtain ⟨r,rfl,hr0⟩:=(hR.mono s4) x hm
   have etake:(us.take (i+1)).map ρ=(us.take i).map ρ++[ρ (.ref r)]:=by
    rw [List.take_add_one,hx,List.map_append]
    rfl
   have est:linesOf rk ((us.take (i+1)).map ρ)=Fq rk (linesOf rk ((us.take i).map ρ)) (ρ (.ref r)):=by rw [etake,CQ]
   have lvl:(linesOf rk ((us.take i).map ρ)).length=lv.length:=hpr.length
   by_cases hk:Iv (ρ (.ref r)).w=true
   ·have hnl:¬ (ρ (.ref r)).w = "line":=fun z=>by rw [z] at hk; exact absurd hk (by decide +kernel)
    have est2:linesOf rk ((us.take (i+1)).map ρ)=linesOf rk ((us.take i).map ρ)++[[]]:=by rw [est]; unfold Fq; rw [if_pos hk]
    refine ⟨_,rfl,r,_,_,_,rfl,rfl,.inl (.inl hr0),Ag (j:=0) rfl,aK,_,rfl,.inr (T.tK.sq _),rfl,rfl,_,rfl,?_⟩
    refine B_ (fun _=>?_) (fun z=>absurd hk z)
    refine ⟨_,rfl,.inl ⟨rfl,_,.inl (.inl hd)⟩,Hn (by simp),fun p5 hp5=>?_⟩
    have s5:=An (o:=HO.lst []) hp5
    have u5:upd H4 p5 (HO.lst []) p5=some (.lst []):=Af
    generalize upd H4 p5 (HO.lst [])=H5 at s5 u5 ⊢
    have hd5:=s5 _ _ hd
    refine ⟨D,lv,_,rfl,rfl,hd5,Aq (by omega),?_⟩
    have hrD:r ≠ D:=V0 (s5 _ _ hr0) hd5 (by intro z; cases z)
    have hpD:p5 ≠ D:=fun z=>by rw [z,hd] at hp5; cases hp5
    refine ⟨_,rfl,r,_,_,_,rfl,rfl,.inl (.inl (by rw [Al hrD]; exact s5 _ _ hr0)),Ag (j:=0) rfl,rfl,_,rfl,?_⟩
    refine B_ (fun z=>absurd (V.str.inj (of_decide_eq_true z)) hnl) (fun _=>?_)
    refine ⟨fun b u e=>?_,lv++[.ref p5],Af,?_,?_,?_,?_,by simp; omega,?_,_,rfl⟩
    ·rw [Al (Aj e hD)]
     exact s5 _ _ (s4 _ _ e)
    ·rw [est2]
     refine CJ (Gz hpr fun l v hv h=>J4 (h.mono s5) hd5 (hne v hv)) (.cons ⟨p5,[],rfl,by rw [Al hpD]; exact u5,.nil⟩ .nil)
    ·refine Ph nd fun hm=>?_
     obtain ⟨l,_,hA⟩:=Ci hpr hm
     obtain ⟨A,ts,e,h1,_⟩:=hA
     cases e
     rw [h1] at hp5
     cases hp5
    ·intro v hv
     rcases List.mem_append.mp hv with h | h
     ·exact hne v h
     ·rw [List.mem_singleton.mp h]
      intro z
      exact hpD (V.ref.inj z)
    ·intro v hv
     rcases List.mem_append.mp hv with h | h
     ·exact hA0 v h
     ·exact ⟨p5,List.mem_singleton.mp h,s4.free hp5⟩
    ·intro l hl'
     rw [est2] at hl'
     rcases List.mem_append.mp hl' with h | h
     ·exact Nat.le_succ_of_le (hll l h)
     ·rw [List.mem_singleton.mp h]
      exact Nat.zero_le _
   ·refine ⟨_,rfl,r,_,_,_,rfl,rfl,.inl (.inl hr0),Ag (j:=0) rfl,aK,_,rfl,.inr (T.tK.sq _),rfl,rfl,_,rfl,?_⟩
    refine B_ (fun z=>absurd z hk) (fun _=>?_)
    refine ⟨_,rfl,r,_,_,_,rfl,rfl,.inl (.inl hr0),Ag (j:=0) rfl,rfl,_,rfl,?_⟩
    by_cases hwl:(ρ (.ref r)).w = "line"
    ·refine B_ (fun _=>?_) (fun z=>absurd (decide_eq_true (congrArg V.str hwl)) z)
     obtain ⟨⟨j,rr,sh,lo,hi',hj,hnm,hrest⟩,u,hu,hku⟩:=hln i _ hx hwl
     have hne0:linesOf rk ((us.take i).map ρ) ≠ []:=L_ ⟨ρ u,List.mem_map_of_mem hu,hku⟩
     obtain ⟨ac,z,eac⟩:=FW hne0
     rw [eac] at hpr
     obtain ⟨lv',v,rfl,hpr',hz⟩:=IV hpr
     obtain ⟨A,ts,rfl,hA,htp⟩:=hz
     have est2:linesOf rk ((us.take (i+1)).map ρ)=ac++[z++[⟨j,sh,lo,hi'⟩]]:=by
      rw [est]
      unfold Fq
      rw [if_neg hk,if_pos hwl,eac,G5]
      unfold lnOf
      rw [hrest,← hnm,Xo hnd hj]
     have hr1:H4 r=some (.tup [.str (ρ (.ref r)).w,.str (ρ (.ref r)).nm,.int sh,.int lo,.int hi']):=by rw [hr0,← hrest]
     have g:=Hq.k (k:=Sum.inr rr.1) (s4 _ _ hdk)
     rw [hval j rr hj,hnm] at g
     have hAD:A ≠ D:=fun e=>hne (.ref A) (by simp) (by rw [e])
     have hzl:z.length<=i:=hll z (by rw [eac]; simp)
     have htl:=htp.length
     refine ⟨_,rfl,_,rfl,D,_,_,_,rfl,rfl,.inl (.inl hd),Ov lv' (V.ref A),.inl ⟨rfl,_,.inl (.inl hA)⟩,_,rfl,_,rfl,r,_,_,_,rfl,rfl,.inl (.inl hr1),Ag (j:=1) rfl,d,_,rfl,g,_,rfl,r,_,_,_,rfl,rfl,.inl (.inl hr1),Ag (j:=2) rfl,_,rfl,r,_,_,_,rfl,rfl,.inl (.inl hr1),Ag (j:=3) rfl,_,rfl,r,_,_,_,rfl,rfl,.inl (.inl hr1),Ag (j:=4) rfl,by show 4<=sizeLine; decide,fun T5 hT5=>?_⟩
     have s5:=An (o:=HO.tup [.int (j:Nat),.int sh,.int lo,.int hi']) hT5
     have u5:upd H4 T5 (HO.tup [.int (j:Nat),.int sh,.int lo,.int hi']) T5=some (.tup [.int (j:Nat),.int sh,.int lo,.int hi']):=Af
     generalize upd H4 T5 (HO.tup [.int (j:Nat),.int sh,.int lo,.int hi'])=H5 at s5 u5 ⊢
     have hA5:=s5 _ _ hA
     have hTA:T5 ≠ A:=fun e=>by rw [e,hA] at hT5; cases hT5
     have hdj:D ≠ A:=fun e=>hAD e.symm
     obtain ⟨nd1,_,hdisj⟩:=List.nodup_append.mp nd
     refine ⟨A,ts,_,rfl,rfl,hA5,Aq (by omega),?_⟩
     refine ⟨fun b u e=>?_,lv'++[.ref A],by rw [Al hdj]; exact s5 _ _ hd,?_,nd,hne,hA0,by omega,?_,_,rfl⟩
     ·obtain ⟨A',eA,hA'⟩:=hA0 (.ref A) (by simp)
      cases eA
      rw [Al (Aj e hA')]
      exact s5 _ _ (s4 _ _ e)
     ·rw [est2]
      refine CJ (Gz hpr' fun l v hv h=>J4 (h.mono s5) hA5 (fun e=>hdisj v hv _ (List.mem_singleton.mpr rfl) e)) (.cons ⟨A,ts++[.ref T5],rfl,Af,CJ (CP (Am s5 htp) hA5) (.cons ⟨T5,rfl,by rw [Al hTA]; exact u5⟩ .nil)⟩ .nil)
     ·intro l hl'
      rw [est2] at hl'
      rcases List.mem_append.mp hl' with h | h
      ·exact Nat.le_succ_of_le (hll l (by rw [eac]; exact List.mem_append_left _ h))
      ·rw [List.mem_singleton.mp h,List.length_append,List.length_singleton]
       omega
    ·refine B_ (fun z=>absurd (V.str.inj (of_decide_eq_true z)) hwl) (fun _=>?_)
     have est2:linesOf rk ((us.take (i+1)).map ρ)=linesOf rk ((us.take i).map ρ):=by rw [est]; unfold Fq; rw [if_neg hk,if_neg hwl]
     rw [← est2] at hpr hll
     exact ⟨s4,lv,hd,hpr,nd,hne,hA0,by omega,fun l hl'=>Nat.le_succ_of_le (hll l hl'),_,rfl⟩
  ·rintro σ H4 ⟨s4,lv,hd,hpr,nd,hne,hA0,hlv,hll,v3,rfl⟩
   rw [List.take_length] at hpr
   exact ⟨_,rfl,q D H4 hD s4 ⟨lv,hd,hpr⟩⟩
noncomputable abbrev Uv:List Str:=["row_list","board_list","rank_list","knob_rows","board_numbers","rank_numbers","knob_numbers","key_places","pipe_places","knob_lines","step_sets"]
theorem EY:∀ m∈meths,∀ f∈Uv,¬ m=f:=by decide +kernel
theorem Mu {H H':Hp} {D x C dx:Addr} {fs:List (Str × V)} {ls:List (List Ln)} (h:GK H D ls) (s:SX x H H') (hx:H x=some (.ins C dx fs)):GK H' D ls:=by
 obtain ⟨lv,h1,h2⟩:=h
 refine ⟨lv,s.lst hx h1,Paired.Eo h2 fun _ _ q=>?_⟩
 obtain ⟨A,ts,e,h3,h4⟩:=q
 exact ⟨A,ts,e,s.lst hx h3,s.pair hx h4⟩
theorem Qf {rk:List (Str × Nat × Int)} {ρ:V->R} {us:List V} {P1:Nat->V->Prop} (h:∀ (i:Nat) v,us[i]? = some v->(ρ v).w = "line"->P1 i v/\∃ u∈us.take i,Iv (ρ u).w=true):(linesOf rk (us.map ρ)).length=(us.filter (fun v=>Iv (ρ v).w)).length:=by
 have key:∀ n,n<=us.length->(linesOf rk ((us.take n).map ρ)).length=((us.take n).filter (fun v=>Iv (ρ v).w)).length:=by
  intro n
  induction n with
  | zero=>intro _; rfl
  | succ n ih =>
   intro hn
   have hx:=List.getElem?_eq_getElem (l:=us) (i:=n) (by omega)
   rw [List.take_add_one,hx,List.map_append]
   show (linesOf rk ((us.take n).map ρ++[ρ us[n]])).length=((us.take n++[us[n]]).filter _).length
   rw [CQ,List.filter_append,List.length_append,← ih (by omega)]
   unfold Fq
   by_cases hk:Iv (ρ us[n]).w=true
   ·rw [if_pos hk,List.filter_cons,if_pos hk]
    simp
   ·rw [if_neg hk,List.filter_cons,if_neg hk]
    by_cases hl:(ρ us[n]).w = "line"
    ·rw [if_pos hl]
     obtain ⟨_,u,hu,hku⟩:=h n _ hx hl
     obtain ⟨a,z,e⟩:=FW (L_ (rk:=rk) ⟨ρ u,List.mem_map_of_mem hu,hku⟩)
     rw [e,G5]
     simp
    ·rw [if_neg hl]
     simp
 have:=key us.length (Nat.le_refl _)
 rw [List.take_length] at this
 exact this
noncomputable def cu (K:PySem.W.Frag) (aB aP aM C:Addr):Sp:=fun vs H Q _=>∃ (x dx p:Addr) (us:List V) (ρ:V->R) (bs:List (Str × Nat)) (rk:List (Str × Nat × Int)) (ks:List R),vs=[.ref x,.ref p]/\H x=some (.ins C dx [])/\H p=some (.lst us)/\Rows H ρ us/\Z_ K aB aP aM ρ us bs rk ks/\∀ H',Dk C H' x bs rk ks (linesOf rk (us.map ρ))->SX x H H'->Q .non H'
theorem jT:Ay ["self","rows"] ["self","rows"] (Ab QT):=⟨rfl,rfl,rfl,by decide +kernel,rfl,by decide +kernel,by decide +kernel⟩
include N T in
theorem Zw:A_ P w K mg base Bf 9 fOi dOi ["self","rows"] (cu K aB aP aM C):=by
 have GCk:A_ P w K mg base Bf 8 fCk dCk ["rows"] (dU K aB aP aM):=bz N T
 have GRo:A_ P w K mg base Bf 1 fRo dRo ["rows","word"] QV:=Nf N T
 have GNu:A_ P w K mg base Bf 1 fNu dNu ["names"] gB:=bh N T
 have GPl:A_ P w K mg base Bf 1 fPl dPl ["things"] aQ:=bJ N T
 have GLi:A_ P w K mg base Bf 1 fLi dLi ["rows","rank_numbers"] Z8:=cB N T
 refine N.FOi.1.ok jT (fun vs H Q E h=>?_) (fun cdv A outer s H vs Q E hr h=>?_)
 ·obtain ⟨x,dx,p,us,ρ,bs,rk,ks,rfl,_⟩:=h
  rfl
 ·obtain ⟨x,dx,p,us,ρ,bs,rk,ks,rfl,hx,hp,hR,O,q⟩:=h
  have hrCk:BZ 8 _:=hr.mono (by decide)
  have hrRo:BZ 1 _:=hr.mono (by decide)
  have hrNu:BZ 1 _:=hr.mono (by decide)
  have hrPl:BZ 1 _:=hr.mono (by decide)
  have hrLi:BZ 1 _:=hr.mono (by decide)
  refine ⟨_,(Ae (Ed (Ai GCk hrCk rfl N.FCk.2.2 N.FCk.1.kp N.FCk.2.1 .nil Av (Aa (pv 1) Ac)))
   (Ae (Ei (pv 0) (Et Du rfl T.list PyProof.Rows.boot_list (Aa (pv 1) Ac)) rfl)
   (Ae (Ei (pv 0) (Bl rfl (BX (osc:=Ab QT) (N:=["self","rows"]) rfl rfl (by decide +kernel)) (Bj (Ai GRo hrRo rfl N.FRo.2.2 N.FRo.1.kp N.FRo.2.1 .nil Av (Aa (pv 1) (Aa Ba Ac)))) (fun _ _ _ _=>Bt) (fun _ _ _ _=>(DG (Aa (Ar (BJ (K:=K) rfl) (pv 0) Ad (fun _ _=>rfl)) (Aa (Ar (BJ (K:=K) rfl) (pv 0) Ad (fun _ _=>rfl)) Ac))))) rfl)
   (Ae (Ei (pv 0) (Bl rfl (BX (osc:=Ab QT) (N:=["self","rows"]) rfl rfl (by decide +kernel)) (Bj (Ai GRo hrRo rfl N.FRo.2.2 N.FRo.1.kp N.FRo.2.1 .nil Av (Aa (pv 1) (Aa Ba Ac)))) (fun _ _ _ _=>Bt) (fun _ _ _ _=>(DG (Aa (Ar (BJ (K:=K) rfl) (pv 0) Ad (fun _ _=>rfl)) (Aa (Ar (BJ (K:=K) rfl) (pv 0) Ad (fun _ _=>rfl)) (Aa (Ar (BJ (K:=K) rfl) (pv 0) Ad (fun _ _=>rfl)) Ac)))))) rfl)
   (Ae (Ei (pv 0) (Bl rfl (BX (osc:=Ab QT) (N:=["self","rows"]) rfl rfl (by decide +kernel)) (Bj (pv 1)) (fun _ _ _ _=>(HY (Bc (Jo (K:=K) rfl) (Ar (BJ (K:=K) rfl) (pv 0) Ad (fun _ _=>rfl)) (Cw (v:=.ref aK) rfl T.mK rfl) rfl))) (fun _ _ _ _=>(pv 0))) rfl)
   (Ae (Ei (pv 0) (Ai GNu hrNu rfl N.FNu.2.2 N.FNu.1.kp N.FNu.2.1 .nil Av (Aa (Bl rfl (BX (osc:=Ab QT) (N:=["self","rows"]) rfl rfl (by decide +kernel)) (Bj (CZ (pv 0) rfl)) (fun _ _ _ _=>Bt) (fun _ _ _ _=>(Ar (BJ (K:=K) rfl) (pv 0) Ad (fun _ _=>rfl)))) Ac)) rfl)
   (Ae (Ei (pv 0) (Ai GNu hrNu rfl N.FNu.2.2 N.FNu.1.kp N.FNu.2.1 .nil Av (Aa (Bl rfl (BX (osc:=Ab QT) (N:=["self","rows"]) rfl rfl (by decide +kernel)) (Bj (CZ (pv 0) rfl)) (fun _ _ _ _=>Bt) (fun _ _ _ _=>(Ar (BJ (K:=K) rfl) (pv 0) Ad (fun _ _=>rfl)))) Ac)) rfl)
   (Ae (Ei (pv 0) (Ai GNu hrNu rfl N.FNu.2.2 N.FNu.1.kp N.FNu.2.1 .nil Av (Aa (Bl rfl (BX (osc:=Ab QT) (N:=["self","rows"]) rfl rfl (by decide +kernel)) (Bj (CZ (pv 0) rfl)) (fun _ _ _ _=>Bt) (fun _ _ _ _=>(Ar (BJ (K:=K) rfl) (pv 0) Ad (fun _ _=>rfl)))) Ac)) rfl)
   (Ae (Ei (pv 0) (Ai GPl hrPl rfl N.FPl.2.2 N.FPl.1.kp N.FPl.2.1 .nil Av (Aa (CZ (pv 0) rfl) Ac)) rfl)
   (Ae (Ei (pv 0) (Ai GPl hrPl rfl N.FPl.2.2 N.FPl.1.kp N.FPl.2.1 .nil Av (Aa (CZ (pv 0) rfl) Ac)) rfl)
   (Ae (Ei (pv 0) (Ai GLi hrLi rfl N.FLi.2.2 N.FLi.1.kp N.FLi.2.1 .nil Av (Aa (pv 1) (Aa (CZ (pv 0) rfl) Ac))) rfl)
   (Ah (Ei (pv 0) (Bl rfl (BX (osc:=Ab QT) (N:=["self","rows"]) rfl rfl (by decide +kernel)) (Bj (Ai GRo hrRo rfl N.FRo.2.2 N.FRo.1.kp N.FRo.2.1 .nil Av (Aa (pv 1) (Aa Ba Ac)))) (fun _ _ _ _=>Bt) (fun _ _ _ _=>UG)) rfl))))))))))))),?_⟩
  have hlen:=O.len
  obtain ⟨ur,hur⟩:∃ ur,us.filter (pw ρ "rank")=ur:=⟨_,rfl⟩
  have er:ur.map ρ=rk.map Er:=by rw [← hur]; exact O.er
  have lr:ur.length=rk.length:=by have:=congrArg List.length er; simpa using this
  have inR:∀ {v},v∈ur->v∈us:=fun {v} hv=>by rw [← hur] at hv; exact (List.mem_filter.mp hv).1
  have ofR:∀ {v},v∈ur->∃ b∈rk,ρ v=Er b:=fun {v} hv=>by
   have:ρ v∈rk.map Er:=by rw [← er]; exact List.mem_map_of_mem hv
   obtain ⟨b,hb,e⟩:=List.mem_map.mp this
   exact ⟨b,hb,e.symm⟩
  obtain ⟨ub,hub⟩:∃ ub,us.filter (pw ρ "board")=ub:=⟨_,rfl⟩
  obtain ⟨uk,huk⟩:∃ uk,us.filter (fun v=>Iv (ρ v).w)=uk:=⟨_,rfl⟩
  have eb:ub.map ρ=bs.map FT:=by rw [← hub]; exact O.eb
  have ek:uk.map ρ=ks:=by rw [← huk]; exact O.ek
  have lb:ub.length=bs.length:=by have:=congrArg List.length eb; simpa using this
  have lku:uk.length=ks.length:=by have:=congrArg List.length ek; simpa using this
  have inB:∀ {v},v∈ub->v∈us:=fun {v} hv=>by rw [← hub] at hv; exact (List.mem_filter.mp hv).1
  have inKn:∀ {v},v∈uk->v∈us:=fun {v} hv=>by rw [← huk] at hv; exact (List.mem_filter.mp hv).1
  have ofB:∀ {v},v∈ub->∃ b∈bs,ρ v=FT b:=fun {v} hv=>by
   have:ρ v∈bs.map FT:=by rw [← eb]; exact List.mem_map_of_mem hv
   obtain ⟨b,hb,e⟩:=List.mem_map.mp this
   exact ⟨b,hb,e.symm⟩
  have l1us:1<=us.length:=by
   have h1:=O.b0
   have h2:ub.length<=us.length:=by rw [← hub]; exact List.length_filter_le _ _
   omega
  refine ⟨_,rfl,p,us,ρ,rfl,hp,hR,l1us,by omega,O.ok,?_,fun H1 s1=>?_⟩
  ·rw [hub]
   cases ub with
   | nil =>
    have:=O.b0
    simp at lb
    omega
   | cons a b=>rfl
  have c1:SX x H H1:=SX.of s1
  have x1:=s1 _ _ hx
  refine ⟨_,rfl,p,_,rfl,.inl (.inl (.inl (s1 _ _ hp))),fun l1 hl1=>?_⟩
  have s2:=An (o:=HO.lst us) hl1
  generalize upd H1 l1 (HO.lst us)=H2 at s2 ⊢
  refine ⟨_,rfl,x,C,dx,_,rfl,s2 _ _ x1,T.cl,T.n_row_list,(by show 0<1000; decide),?_⟩
  have c2:SX x H _:=(c1.trans (SX.of s2)).trans (SX.up (o:=HO.ins C dx (Be "row_list" (.ref l1) [])))
  have x2:upd H2 x (HO.ins C dx (Be "row_list" (.ref l1) [])) x=_:=Af
  generalize upd H2 x (HO.ins C dx (Be "row_list" (.ref l1) []))=H3 at c2 x2 ⊢
  have R3:Rows H3 ρ us:=fun v hv=>c2.tup hx (hR v hv)
  refine ⟨_,rfl,p,_,"board",ρ,rfl,c2.lst hx hp,R3,by omega,fun D4 H4 hD4 s4 hl4=>?_⟩
  rw [hub] at hl4
  have hS4:Cg K H4 D4 ub:=.inl (.inl hl4)
  refine ⟨D4,rfl,⟨_,hS4⟩,J1 (K:=K) (xs:=ub) (fun _=>true) (fun v=>[.str (ρ v).nm,(ρ v).rest.getD 0 .non]) hS4 (Aq (by have:=O.b5; omega)) (fun y hy H' hs R k=>k H' (Ak.refl H')) (fun y hy _ H' hs R k=>?_) (fun D5 H5 bvs hD5 s5 hl5 hb5=>?_)⟩
  ·obtain ⟨b,_,e⟩:=ofB hy
   have hT:=(R3 y (inB hy)).mono (s4.trans hs)
   rw [e] at hT k
   obtain ⟨T0,rfl,hT⟩:=hT
   exact ⟨_,rfl,T0,_,_,_,rfl,rfl,.inl (.inl hT),Ag (j:=1) rfl,_,rfl,T0,_,_,_,rfl,rfl,.inl (.inl hT),Ag (j:=2) rfl,by show 2<=sizeLine; decide,fun T6 hT6=>k _ _ (An hT6) ⟨T6,rfl,Af⟩⟩
  rw [List.filter_eq_self.mpr (fun _ _=>rfl)] at hb5
  have hb5':Paired (fun b y=>TupAt H5 (bV b) y) bs bvs:=by
   have h1:=CT (F:=fun (r:R) y=>TupAt H5 [.str r.nm,r.rest.getD 0 .non] y) ρ hb5
   rw [eb] at h1
   exact Fp FT h1
  clear hb5
  refine ⟨_,rfl,x,C,dx,_,rfl,s5 _ _ (s4 _ _ x2),T.cl,T.n_board_list,Nat.lt_of_le_of_lt (Br _ _ _) (by show 1<1000; decide),?_⟩
  have u6:SX x H5 _:=SX.up (o:=HO.ins C dx (Be "board_list" (.ref D5) (Be "row_list" (.ref l1) [])))
  have x5:=s5 _ _ (s4 _ _ x2)
  have c6:SX x H _:=(c2.trans (SX.of (s4.trans s5))).trans u6
  have x6:upd H5 x (HO.ins C dx (Be "board_list" (.ref D5) (Be "row_list" (.ref l1) []))) x=_:=Af
  have hl6:=u6.lst x5 hl5
  have hb6:=u6.pair x5 hb5'
  generalize upd H5 x (HO.ins C dx (Be "board_list" (.ref D5) (Be "row_list" (.ref l1) [])))=H6 at c6 x6 hl6 hb6 ⊢
  clear u6
  have R6:Rows H6 ρ us:=fun v hv=>c6.tup hx (hR v hv)
  refine ⟨_,rfl,p,_,"rank",ρ,rfl,c6.lst hx hp,R6,by omega,fun D7 H7 hD7 s7 hl7=>?_⟩
  rw [hur] at hl7
  have hS7:Cg K H7 D7 ur:=.inl (.inl hl7)
  refine ⟨D7,rfl,⟨_,hS7⟩,J1 (K:=K) (xs:=ur) (fun _=>true) (fun v=>[.str (ρ v).nm,(ρ v).rest.getD 0 .non,(ρ v).rest.getD 1 .non]) hS7 (Aq (by have:=O.nr; omega)) (fun y hy H' hs R k=>k H' (Ak.refl H')) (fun y hy _ H' hs R k=>?_) (fun D8 H8 rvs hD8 s8 hl8 hr8=>?_)⟩
  ·obtain ⟨b,_,e⟩:=ofR hy
   have hT:=(R6 y (inR hy)).mono (s7.trans hs)
   rw [e] at hT k
   obtain ⟨T0,rfl,hT⟩:=hT
   exact ⟨_,rfl,T0,_,_,_,rfl,rfl,.inl (.inl hT),Ag (j:=1) rfl,_,rfl,T0,_,_,_,rfl,rfl,.inl (.inl hT),Ag (j:=2) rfl,_,rfl,T0,_,_,_,rfl,rfl,.inl (.inl hT),Ag (j:=3) rfl,by show 3<=sizeLine; decide,fun T6 hT6=>k _ _ (An hT6) ⟨T6,rfl,Af⟩⟩
  rw [List.filter_eq_self.mpr (fun _ _=>rfl)] at hr8
  have hr8':Paired (fun (a:Th) y=>TupAt H8 (tV a) y) (rk.map RK) rvs:=by
   have h1:=CT (F:=fun (r:R) y=>TupAt H8 [.str r.nm,r.rest.getD 0 .non,r.rest.getD 1 .non] y) ρ hr8
   rw [er] at h1
   exact CT (F:=fun (a:Th) y=>TupAt H8 (tV a) y) RK (Fp Er h1)
  clear hr8
  refine ⟨_,rfl,x,C,dx,_,rfl,s8 _ _ (s7 _ _ x6),T.cl,T.n_rank_list,Nat.lt_of_le_of_lt (Nat.le_trans (Br _ _ _) (Nat.succ_le_succ (Br _ _ _))) (by show 2<1000; decide),?_⟩
  have s68:=s7.trans s8
  have x8:=s68 _ _ x6
  have c8:SX x H H8:=c6.trans (SX.of s68)
  have hl8b:=s68 _ _ hl6
  have hb8:=Am s68 hb6
  have u9:SX x H8 _:=SX.up (o:=HO.ins C dx (Be "rank_list" (.ref D8) (Be "board_list" (.ref D5) (Be "row_list" (.ref l1) []))))
  have x9:upd H8 x (HO.ins C dx (Be "rank_list" (.ref D8) (Be "board_list" (.ref D5) (Be "row_list" (.ref l1) [])))) x=_:=Af
  have c9:=c8.trans u9
  have bl9:=u9.lst x8 hl8b
  have bp9:=u9.pair x8 hb8
  have rl9:=u9.lst x8 hl8
  have rp9:=u9.pair x8 hr8'
  generalize hf9:Be "rank_list" (.ref D8) (Be "board_list" (.ref D5) (Be "row_list" (.ref l1) []))=f9 at x9 c9 bl9 bp9 rl9 rp9 u9 ⊢
  generalize upd H8 x (HO.ins C dx f9)=H9 at x9 c9 bl9 bp9 rl9 rp9 ⊢
  have n9:f9.length<=3:=by rw [← hf9]; exact Nat.le_trans (Br _ _ _) (Nat.succ_le_succ (Nat.le_trans (Br _ _ _) (Nat.succ_le_succ (Br _ _ _))))
  have lb9:f9.lookup ("board_list" : Str)=some (.ref D5):=by rw [← hf9,Ao,if_neg (by decide +kernel),Ao,if_pos rfl]
  have lr9:f9.lookup ("rank_list" : Str)=some (.ref D8):=by rw [← hf9,Ao,if_pos rfl]
  have no9:∀ m∈meths,f9.lookup m=none:=fun m hm=>by
   rw [← hf9,Ao,if_neg (EY m hm _ (by decide +kernel)),Ao,if_neg (EY m hm _ (by decide +kernel)),Ao,if_neg (EY m hm _ (by decide +kernel))]
   rfl
  clear u9 hf9
  have R9:Rows H9 ρ us:=fun v hv=>c9.tup hx (hR v hv)
  have hS9:Cg K H9 p us:=.inl (.inl (c9.lst hx hp))
  refine ⟨_,rfl,p,rfl,⟨_,hS9⟩,Cd (K:=K) (xs:=us) (fun v=>Iv (ρ v).w) id hS9 (Aq (by omega)) (fun y hy H' hs R k=>?_) (fun y hy _ H' hs R k=>⟨_,rfl,k H' (Ak.refl H')⟩) (fun D10 H10 hD10 s10 hl10=>?_)⟩
  ·obtain ⟨T0,rfl,hT⟩:=(R9.mono hs) y hy
   exact ⟨_,rfl,T0,_,_,_,rfl,rfl,.inl (.inl hT),Ag (j:=0) rfl,aK,_,rfl,.inr (T.tK.sq _),rfl,rfl,_,rfl,k H' (Ak.refl H')⟩
  rw [List.map_id,huk] at hl10
  refine ⟨_,rfl,x,C,dx,_,rfl,s10 _ _ x9,T.cl,T.n_knob_rows,by omega,?_⟩
  have x10:=s10 _ _ x9
  have u11:SX x H10 _:=SX.up (o:=HO.ins C dx (Be "knob_rows" (.ref D10) f9))
  have x11:upd H10 x (HO.ins C dx (Be "knob_rows" (.ref D10) f9)) x=_:=Af
  have c11:=(c9.trans (SX.of s10)).trans u11
  have bl11:=u11.lst x10 (s10 _ _ bl9)
  have bp11:=u11.pair x10 (Am s10 bp9)
  have rl11:=u11.lst x10 (s10 _ _ rl9)
  have rp11:=u11.pair x10 (Am s10 rp9)
  have kr11:=u11.lst x10 hl10
  generalize upd H10 x (HO.ins C dx (Be "knob_rows" (.ref D10) f9))=H11 at x11 c11 bl11 bp11 rl11 rp11 kr11 ⊢
  clear u11
  have hul:=bp11.length
  have hS11:Cg K H11 D5 bvs:=.inl (.inl bl11)
  refine ⟨_,rfl,x,C,dx,_,_,rfl,x11,T.cl,T.n_board_list,(by rw [Ao,if_neg (by decide +kernel)]; exact lb9),D5,rfl,⟨_,hS11⟩,Cd (K:=K) (xs:=bvs) (fun _=>true) (QW H11 0) hS11 (Aq (by have:=O.b5; omega)) (fun y hy H' hs R k=>k H' (Ak.refl H')) (fun y hy _ H' hs R k=>?_) (fun D12 H12 hD12 s12 hl12=>?_)⟩
  ·obtain ⟨b,_,hx'⟩:=Ci bp11 hy
   have e:=IW hx' 0
   obtain ⟨T0,rfl,hT⟩:=hx'.mono hs
   refine ⟨_,rfl,T0,_,_,_,rfl,rfl,.inl (.inl hT),Ag (j:=0) rfl,?_⟩
   have:=k H' (Ak.refl H')
   rw [e] at this
   exact this
  rw [List.filter_eq_self.mpr (fun _ _=>rfl),Jf 0 bp11] at hl12
  have e12:(bs.map fun b=>(bV b).getD 0 V.non)=(bs.map (·.1)).map V.str:=by
   rw [List.map_map]
   rfl
  rw [e12] at hl12
  refine ⟨D12,_,rfl,hl12,by rw [List.length_map]; have:=O.b5; omega,O.nb,fun D13 kvs H13 hD13 s13 hl13 hv13=>?_⟩
  have s1113:=s12.trans s13
  have x13:=s1113 _ _ x11
  refine ⟨_,rfl,x,C,dx,_,rfl,x13,T.cl,T.n_board_numbers,Nat.lt_of_le_of_lt (Br _ _ _) (by omega),?_⟩
  have u14:SX x H13 _:=SX.up (o:=HO.ins C dx (Be "board_numbers" (.ref D13) (Be "knob_rows" (.ref D10) f9)))
  have x14:upd H13 x (HO.ins C dx (Be "board_numbers" (.ref D13) (Be "knob_rows" (.ref D10) f9))) x=_:=Af
  have c14:=(c11.trans (SX.of s1113)).trans u14
  have bl14:=u14.lst x13 (s1113 _ _ bl11)
  have bp14:=u14.pair x13 (Am s1113 bp11)
  have rl14:=u14.lst x13 (s1113 _ _ rl11)
  have rp14:=u14.pair x13 (Am s1113 rp11)
  have kr14:=u14.lst x13 (s1113 _ _ kr11)
  have bn14:=u14.dk x13 hl13
  generalize upd H13 x (HO.ins C dx (Be "board_numbers" (.ref D13) (Be "knob_rows" (.ref D10) f9)))=H14 at x14 c14 bl14 bp14 rl14 rp14 kr14 bn14 ⊢
  clear u14
  have hrl:=rp14.length
  rw [List.length_map] at hrl
  have hS14:Cg K H14 D8 rvs:=.inl (.inl rl14)
  refine ⟨_,rfl,x,C,dx,_,_,rfl,x14,T.cl,T.n_rank_list,(by rw [Ao,if_neg (by decide +kernel),Ao,if_neg (by decide +kernel)]; exact lr9),D8,rfl,⟨_,hS14⟩,Cd (K:=K) (xs:=rvs) (fun _=>true) (QW H14 0) hS14 (Aq (by have:=O.nr; omega)) (fun y hy H' hs R k=>k H' (Ak.refl H')) (fun y hy _ H' hs R k=>?_) (fun D15 H15 hD15 s15 hl15=>?_)⟩
  ·obtain ⟨b,_,hx'⟩:=Ci rp14 hy
   have e:=IW hx' 0
   obtain ⟨T0,rfl,hT⟩:=hx'.mono hs
   refine ⟨_,rfl,T0,_,_,_,rfl,rfl,.inl (.inl hT),Ag (j:=0) rfl,?_⟩
   have:=k H' (Ak.refl H')
   rw [e] at this
   exact this
  rw [List.filter_eq_self.mpr (fun _ _=>rfl),Jf 0 rp14] at hl15
  have e15:((rk.map RK).map fun b=>(tV b).getD 0 V.non)=(rk.map (·.1)).map V.str:=by
   rw [List.map_map,List.map_map]
   rfl
  rw [e15] at hl15
  refine ⟨D15,_,rfl,hl15,by rw [List.length_map]; have:=O.nr; omega,O.nrr,fun D16 kvs16 H16 hD16 s16 hl16 hv16=>?_⟩
  have s1416:=s15.trans s16
  have x16:=s1416 _ _ x14
  refine ⟨_,rfl,x,C,dx,_,rfl,x16,T.cl,T.n_rank_numbers,Nat.lt_of_le_of_lt (Nat.le_trans (Br _ _ _) (Nat.succ_le_succ (Br _ _ _))) (by omega),?_⟩
  have u17:SX x H16 _:=SX.up (o:=HO.ins C dx (Be "rank_numbers" (.ref D16) (Be "board_numbers" (.ref D13) (Be "knob_rows" (.ref D10) f9))))
  have x17:upd H16 x (HO.ins C dx (Be "rank_numbers" (.ref D16) (Be "board_numbers" (.ref D13) (Be "knob_rows" (.ref D10) f9)))) x=_:=Af
  have c17:=(c14.trans (SX.of s1416)).trans u17
  have bl17:=u17.lst x16 (s1416 _ _ bl14)
  have bp17:=u17.pair x16 (Am s1416 bp14)
  have rl17:=u17.lst x16 (s1416 _ _ rl14)
  have rp17:=u17.pair x16 (Am s1416 rp14)
  have kr17:=u17.lst x16 (s1416 _ _ kr14)
  have bn17:=u17.dk x16 (s1416 _ _ bn14)
  have rn17:=u17.dk x16 hl16
  generalize hf17:Be "rank_numbers" (.ref D16) (Be "board_numbers" (.ref D13) (Be "knob_rows" (.ref D10) f9))=f17 at x17 c17 bl17 bp17 rl17 rp17 kr17 bn17 rn17 u17 ⊢
  generalize upd H16 x (HO.ins C dx f17)=H17 at x17 c17 bl17 bp17 rl17 rp17 kr17 bn17 rn17 ⊢
  have n17:f17.length<=6:=by rw [← hf17]; exact Nat.le_trans (Br _ _ _) (Nat.succ_le_succ (Nat.le_trans (Br _ _ _) (Nat.succ_le_succ (Nat.le_trans (Br _ _ _) (Nat.succ_le_succ n9)))))
  have lb17:f17.lookup ("board_list" : Str)=some (.ref D5):=by rw [← hf17,Ao,if_neg (by decide +kernel),Ao,if_neg (by decide +kernel),Ao,if_neg (by decide +kernel)]; exact lb9
  have lr17:f17.lookup ("rank_list" : Str)=some (.ref D8):=by rw [← hf17,Ao,if_neg (by decide +kernel),Ao,if_neg (by decide +kernel),Ao,if_neg (by decide +kernel)]; exact lr9
  have lrn17:f17.lookup ("rank_numbers" : Str)=some (.ref D16):=by rw [← hf17,Ao,if_pos rfl]
  have lbn17:f17.lookup ("board_numbers" : Str)=some (.ref D13):=by rw [← hf17,Ao,if_neg (by decide +kernel),Ao,if_pos rfl]
  have lkr17:f17.lookup ("knob_rows" : Str)=some (.ref D10):=by rw [← hf17,Ao,if_neg (by decide +kernel),Ao,if_neg (by decide +kernel),Ao,if_pos rfl]
  have no17:∀ m∈meths,f17.lookup m=none:=fun m hm=>by
   rw [← hf17,Ao,if_neg (EY m hm _ (by decide +kernel)),Ao,if_neg (EY m hm _ (by decide +kernel)),Ao,if_neg (EY m hm _ (by decide +kernel))]
   exact no9 m hm
  clear u17 hf17
  have hS17:Cg K H17 D10 uk:=.inl (.inl kr17)
  have R17:Rows H17 ρ us:=fun v hv=>c17.tup hx (hR v hv)
  refine ⟨_,rfl,x,C,dx,_,_,rfl,x17,T.cl,T.n_knob_rows,lkr17,D10,rfl,⟨_,hS17⟩,Cd (K:=K) (xs:=uk) (fun _=>true) (fun v=>.str (ρ v).nm) hS17 (Aq (by have:=O.nk; omega)) (fun y hy H' hs R k=>k H' (Ak.refl H')) (fun y hy _ H' hs R k=>?_) (fun D18 H18 hD18 s18 hl18=>?_)⟩
  ·obtain ⟨T0,rfl,hT⟩:=(R17.mono hs) y (inKn hy)
   exact ⟨_,rfl,T0,_,_,_,rfl,rfl,.inl (.inl hT),Ag (j:=1) rfl,k H' (Ak.refl H')⟩
  rw [List.filter_eq_self.mpr (fun _ _=>rfl)] at hl18
  have e18:(uk.map fun v=>V.str (ρ v).nm)=(ks.map (·.nm)).map V.str:=by
   rw [← ek,List.map_map,List.map_map]
   rfl
  rw [e18] at hl18
  refine ⟨D18,_,rfl,hl18,by rw [List.length_map]; have:=O.nk; omega,O.nn,fun D19 kvs19 H19 hD19 s19 hl19 hv19=>?_⟩
  have s1719:=s18.trans s19
  have x19:=s1719 _ _ x17
  refine ⟨_,rfl,x,C,dx,_,rfl,x19,T.cl,T.n_knob_numbers,by omega,?_⟩
  have u20:SX x H19 _:=SX.up (o:=HO.ins C dx (Be "knob_numbers" (.ref D19) f17))
  have x20:upd H19 x (HO.ins C dx (Be "knob_numbers" (.ref D19) f17)) x=_:=Af
  have c20:=(c17.trans (SX.of s1719)).trans u20
  have bl20:=u20.lst x19 (s1719 _ _ bl17)
  have bp20:=u20.pair x19 (Am s1719 bp17)
  have rl20:=u20.lst x19 (s1719 _ _ rl17)
  have rp20:=u20.pair x19 (Am s1719 rp17)
  have kr20:=u20.lst x19 (s1719 _ _ kr17)
  have bn20:=u20.dk x19 (s1719 _ _ bn17)
  have rn20:=u20.dk x19 (s1719 _ _ rn17)
  generalize upd H19 x (HO.ins C dx (Be "knob_numbers" (.ref D19) f17))=H20 at x20 c20 bl20 bp20 rl20 rp20 kr20 bn20 rn20 ⊢
  clear u20
  refine ⟨_,rfl,x,C,dx,_,_,rfl,x20,T.cl,T.n_board_list,(by rw [Ao,if_neg (by decide +kernel)]; exact lb17),D5,bs.map ZR,bvs,rfl,bl20,CT (F:=fun (a:Th) y=>TupAt H20 (tV a) y) ZR bp20,(by rw [List.length_map]; have:=O.b5; omega),(fun a ha=>by obtain ⟨b,hb,rfl⟩:=List.mem_map.mp ha; have:=O.sz b hb; show b.2<=97; omega),fun D21 pvs H21 hD21 s21 hl21 hp21=>?_⟩
  have e21:(bs.map ZR).map tN=bs:=by
   rw [List.map_map]
   exact List.map_id bs
  rw [e21] at hp21
  have x21:=s21 _ _ x20
  refine ⟨_,rfl,x,C,dx,_,rfl,x21,T.cl,T.n_key_places,Nat.lt_of_le_of_lt (Br _ _ _) (by omega),?_⟩
  have u22:SX x H21 _:=SX.up (o:=HO.ins C dx (Be "key_places" (.ref D21) (Be "knob_numbers" (.ref D19) f17)))
  have x22:upd H21 x (HO.ins C dx (Be "key_places" (.ref D21) (Be "knob_numbers" (.ref D19) f17))) x=_:=Af
  have c22:=(c20.trans (SX.of s21)).trans u22
  have bl22:=u22.lst x21 (s21 _ _ bl20)
  have bp22:=u22.pair x21 (Am s21 bp20)
  have rl22:=u22.lst x21 (s21 _ _ rl20)
  have rp22:=u22.pair x21 (Am s21 rp20)
  have kr22:=u22.lst x21 (s21 _ _ kr20)
  have bn22:=u22.dk x21 (s21 _ _ bn20)
  have rn22:=u22.dk x21 (s21 _ _ rn20)
  have kp22:=u22.lst x21 hl21
  have kq22:=u22.pair x21 hp21
  generalize upd H21 x (HO.ins C dx (Be "key_places" (.ref D21) (Be "knob_numbers" (.ref D19) f17)))=H22 at x22 c22 bl22 bp22 rl22 rp22 kr22 bn22 rn22 kp22 kq22 ⊢
  clear u22
  refine ⟨_,rfl,x,C,dx,_,_,rfl,x22,T.cl,T.n_rank_list,(by rw [Ao,if_neg (by decide +kernel),Ao,if_neg (by decide +kernel)]; exact lr17),D8,rk.map RK,rvs,rfl,rl22,rp22,(by rw [List.length_map]; exact O.nr),(fun a ha=>by obtain ⟨r,hr,rfl⟩:=List.mem_map.mp ha; exact O.nz r hr),fun D23 qvs H23 hD23 s23 hl23 hp23=>?_⟩
  have e23:(rk.map RK).map tN=rk.map Xg:=by
   rw [List.map_map]
   rfl
  rw [e23] at hp23
  have x23:=s23 _ _ x22
  refine ⟨_,rfl,x,C,dx,_,rfl,x23,T.cl,T.n_pipe_places,Nat.lt_of_le_of_lt (Nat.le_trans (Br _ _ _) (Nat.succ_le_succ (Br _ _ _))) (by omega),?_⟩
  have u24:SX x H23 _:=SX.up (o:=HO.ins C dx (Be "pipe_places" (.ref D23) (Be "key_places" (.ref D21) (Be "knob_numbers" (.ref D19) f17))))
  have x24:upd H23 x (HO.ins C dx (Be "pipe_places" (.ref D23) (Be "key_places" (.ref D21) (Be "knob_numbers" (.ref D19) f17)))) x=_:=Af
  have c24:=(c22.trans (SX.of s23)).trans u24
  have bl24:=u24.lst x23 (s23 _ _ bl22)
  have bp24:=u24.pair x23 (Am s23 bp22)
  have kr24:=u24.lst x23 (s23 _ _ kr22)
  have rl24:=u24.lst x23 (s23 _ _ rl22)
  have rp24:=u24.pair x23 (Am s23 rp22)
  have pp24:=u24.lst x23 hl23
  have pq24:=u24.pair x23 hp23
  have bn24:=u24.dk x23 (s23 _ _ bn22)
  have rn24:=u24.dk x23 (s23 _ _ rn22)
  have kp24:=u24.lst x23 (s23 _ _ kp22)
  have kq24:=u24.pair x23 (Am s23 kq22)
  generalize hf24:Be "pipe_places" (.ref D23) (Be "key_places" (.ref D21) (Be "knob_numbers" (.ref D19) f17))=f24 at x24 c24 bl24 bp24 kr24 rl24 rp24 pp24 pq24 bn24 rn24 kp24 kq24 u24 ⊢
  generalize upd H23 x (HO.ins C dx f24)=H24 at x24 c24 bl24 bp24 kr24 rl24 rp24 pp24 pq24 bn24 rn24 kp24 kq24 ⊢
  have n24:f24.length<=9:=by rw [← hf24]; exact Nat.le_trans (Br _ _ _) (Nat.succ_le_succ (Nat.le_trans (Br _ _ _) (Nat.succ_le_succ (Nat.le_trans (Br _ _ _) (Nat.succ_le_succ n17)))))
  have old24:∀ {f:Str} {v:V},¬ f = "pipe_places"->¬ f = "key_places"->¬ f = "knob_numbers"->f17.lookup f=some v->f24.lookup f=some v:=fun h1 h2 h3 h=>by
   rw [← hf24,Ao,if_neg h1,Ao,if_neg h2,Ao,if_neg h3]; exact h
  have lb24:=old24 (by decide +kernel) (by decide +kernel) (by decide +kernel) lb17
  have lbn24:=old24 (by decide +kernel) (by decide +kernel) (by decide +kernel) lbn17
  have lr24:=old24 (by decide +kernel) (by decide +kernel) (by decide +kernel) lr17
  have lpp24:f24.lookup ("pipe_places" : Str)=some (.ref D23):=by rw [← hf24,Ao,if_pos rfl]
  have lrn24:=old24 (by decide +kernel) (by decide +kernel) (by decide +kernel) lrn17
  have lkr24:=old24 (by decide +kernel) (by decide +kernel) (by decide +kernel) lkr17
  have lkp24:f24.lookup ("key_places" : Str)=some (.ref D21):=by rw [← hf24,Ao,if_neg (by decide +kernel),Ao,if_pos rfl]
  have no24:∀ m∈meths,f24.lookup m=none:=fun m hm=>by
   rw [← hf24,Ao,if_neg (EY m hm _ (by decide +kernel)),Ao,if_neg (EY m hm _ (by decide +kernel)),Ao,if_neg (EY m hm _ (by decide +kernel))]
   exact no17 m hm
  clear u24 hf24 old24
  have R24:Rows H24 ρ us:=fun v hv=>c24.tup hx (hR v hv)
  refine ⟨_,rfl,_,rfl,x,C,dx,_,_,rfl,x24,T.cl,T.n_rank_numbers,lrn24,p,D16,us,ρ,rk,kvs16,rfl,c24.lst hx hp,R24,by omega,rn24,(fun i r hr=>hv16 i r.1 (by rw [List.getElem?_map,hr]; rfl)),O.nrr,O.ln,fun D25 H25 hD25 s25 hl25=>?_⟩
  have x25:=s25 _ _ x24
  refine ⟨_,rfl,x,C,dx,_,rfl,x25,T.cl,T.n_knob_lines,by omega,?_⟩
  have u26:SX x H25 _:=SX.up (o:=HO.ins C dx (Be "knob_lines" (.ref D25) f24))
  have x26:upd H25 x (HO.ins C dx (Be "knob_lines" (.ref D25) f24)) x=_:=Af
  have c26:=(c24.trans (SX.of s25)).trans u26
  have bl26:=u26.lst x25 (s25 _ _ bl24)
  have bp26:=u26.pair x25 (Am s25 bp24)
  have kr26:=u26.lst x25 (s25 _ _ kr24)
  have rl26:=u26.lst x25 (s25 _ _ rl24)
  have rp26:=u26.pair x25 (Am s25 rp24)
  have pp26:=u26.lst x25 (s25 _ _ pp24)
  have pq26:=u26.pair x25 (Am s25 pq24)
  have ln26:=Mu hl25 u26 x25
  have bn26:=u26.dk x25 (s25 _ _ bn24)
  have rn26:=u26.dk x25 (s25 _ _ rn24)
  have kp26:=u26.lst x25 (s25 _ _ kp24)
  have kq26:=u26.pair x25 (Am s25 kq24)
  generalize upd H25 x (HO.ins C dx (Be "knob_lines" (.ref D25) f24))=H26 at x26 c26 bl26 bp26 kr26 rl26 rp26 pp26 pq26 ln26 bn26 rn26 kp26 kq26 ⊢
  clear u26
  have R26:Rows H26 ρ us:=fun v hv=>c26.tup hx (hR v hv)
  refine ⟨_,rfl,p,_,"step",ρ,rfl,c26.lst hx hp,R26,by omega,fun D27 H27 hD27 s27 hl27=>?_⟩
  rw [O.none] at hl27
  have hS27:Cg K H27 D27 []:=.inl (.inl hl27)
  refine ⟨D27,rfl,⟨_,hS27⟩,Cd (K:=K) (xs:=[]) (fun _=>true) id hS27 (Aq (by simp)) (fun y hy=>nomatch hy) (fun y hy=>nomatch hy) (fun D28 H28 hD28 s28 hl28=>?_)⟩
  have s2628:=s27.trans s28
  have x28:=s2628 _ _ x26
  refine ⟨_,rfl,x,C,dx,_,rfl,x28,T.cl,T.n_step_sets,Nat.lt_of_le_of_lt (Br _ _ _) (by omega),?_⟩
  have u29:SX x H28 _:=SX.up (o:=HO.ins C dx (Be "step_sets" (.ref D28) (Be "knob_lines" (.ref D25) f24)))
  have old:∀ {f:Str},¬ f = "step_sets"->¬ f = "knob_lines"->(Be "step_sets" (.ref D28) (Be "knob_lines" (.ref D25) f24)).lookup f=f24.lookup f:=fun h1 h2=>by rw [Ao,if_neg h1,Ao,if_neg h2]
  refine q _ ⟨⟨⟨dx,_,D5,D13,D21,D10,bvs,pvs,uk,kvs,Af,(old (by decide +kernel) (by decide +kernel)).trans lb24,(old (by decide +kernel) (by decide +kernel)).trans lbn24,(old (by decide +kernel) (by decide +kernel)).trans lkp24,(old (by decide +kernel) (by decide +kernel)).trans lkr24,
   fun m hm=>(old (EY m hm _ (by decide +kernel)) (EY m hm _ (by decide +kernel))).trans (no24 m hm),u29.lst x28 (s2628 _ _ bl26),u29.pair x28 (Am s2628 bp26),u29.dk x28 (s2628 _ _ bn26),fun i b hb=>hv13 i b.1 (by rw [List.getElem?_map,hb]; rfl),u29.lst x28 (s2628 _ _ kp26),u29.pair x28 (Am s2628 kq26),u29.lst x28 (s2628 _ _ kr26),?_⟩,O.b5,O.sz,by have:=O.nk; omega⟩,⟨dx,_,D8,D16,D23,D25,rvs,qvs,kvs16,Af,(old (by decide +kernel) (by decide +kernel)).trans lr24,(old (by decide +kernel) (by decide +kernel)).trans lrn24,(old (by decide +kernel) (by decide +kernel)).trans lpp24,(by rw [Ao,if_neg (by decide +kernel),Ao,if_pos rfl]),u29.lst x28 (s2628 _ _ rl26),u29.pair x28 (Am s2628 rp26),u29.dk x28 (s2628 _ _ rn26),(fun i r hr=>hv16 i r.1 (by rw [List.getElem?_map,hr]; rfl)),u29.lst x28 (s2628 _ _ pp26),u29.pair x28 (Am s2628 pq26),Mu (ln26.mono s2628) u29 x28⟩,O.nr,O.nz,?_⟩ ((c26.trans (SX.of s2628)).trans u29)
  case refine_2=>rw [Qf O.ln,← ek,List.length_map,huk]
  rw [← ek]
  refine CT (F:=fun (r:R) y=>TupAt _ r.v y) ρ ?_
  have R29:Rows _ ρ uk:=fun v hv=>u29.tup x28 ((R26.mono s2628) v (inKn hv))
  generalize upd H28 x _=H29 at R29 ⊢
  have key:∀ l:List V,(∀ v∈l,TupAt H29 (ρ v).v v)->Paired (fun v y=>TupAt H29 (ρ v).v y) l l:=by
   intro l
   induction l with
   | nil=>intro _; exact .nil
   | cons a b ih=>intro h; exact .cons (h a (List.mem_cons_self ..)) (ih fun v hv=>h v (List.mem_cons_of_mem _ hv))
  exact key uk R29
noncomputable def Wb (C:Addr):Sp:=fun vs H Q _=>∃ (x:Addr) (bs:List (Str × Nat)) (ks:List R),vs=[.ref x]/\DY C H x bs ks/\∀ D bvs H',H D=none->Ak H H'->H' D=some (.lst bvs)->Paired (fun b y=>TupAt H' (bV b) y) bs bvs->Q (.ref D) H'
theorem ie:Ay ["self"] ["self"] (Ab Yx):=⟨rfl,rfl,rfl,by decide +kernel,rfl,by decide +kernel,by decide +kernel⟩
include N T in
theorem WY:A_ P w K mg base Bf 1 fOb dOb ["self"] (Wb C):=by
 refine N.FOb.1.ok ie (fun vs H Q E h=>?_) (fun cdv A outer s H vs Q E hr h=>?_)
 ·obtain ⟨x,bs,ks,rfl,_⟩:=h
  rfl
 ·obtain ⟨x,bs,ks,rfl,O,q⟩:=h
  refine ⟨_,(Ah (BL (Et Du rfl T.list PyProof.Rows.boot_list (Aa (CZ (pv 0) rfl) Ac)))),?_⟩
  obtain ⟨⟨dx,fs,bl,bn,kp,kr,bvs,pvs,uvs,kvs,h1,l1,l2,l3,l4,lm,h2,h3,h4,h5,h6,h7,h8,h9⟩,ob5,osz,onk⟩:=id O
  exact ⟨_,rfl,x,C,dx,_,_,rfl,h1,T.cl,T.n_board_list,l1,bl,bvs,rfl,.inl (.inl (.inl h2)),fun l hl=>q l bvs _ hl (An hl) Af (Am (An hl) h3)⟩
noncomputable def Wi (C:Addr):Sp:=fun vs H Q _=>∃ (x:Addr) (bs:List (Str × Nat)) (ks:List R),vs=[.ref x]/\DY C H x bs ks/\Q (.int ((E_ bs).length:Nat)) H
theorem jR:Ay ["self"] ["self"] (Ab ZM):=⟨rfl,rfl,rfl,by decide +kernel,rfl,by decide +kernel,by decide +kernel⟩
include N T in
theorem V9:A_ P w K mg base Bf 1 fOc dOc ["self"] (Wi C):=by
 refine N.FOc.1.ok jR (fun vs H Q E h=>?_) (fun cdv A outer s H vs Q E hr h=>?_)
 ·obtain ⟨x,bs,ks,rfl,_⟩:=h
  rfl
 ·obtain ⟨x,bs,ks,rfl,O,q⟩:=h
  refine ⟨_,(Ah (BL (BR BV rfl T.len PySem.boot_len (Aa (CZ (pv 0) rfl) Ac)))),?_⟩
  obtain ⟨⟨dx,fs,bl,bn,kp,kr,bvs,pvs,uvs,kvs,h1,l1,l2,l3,l4,lm,h2,h3,h4,h5,h6,h7,h8,h9⟩,ob5,osz,onk⟩:=id O
  refine ⟨_,rfl,x,C,dx,_,_,rfl,h1,T.cl,T.n_key_places,l3,kp,pvs,rfl,.inl (.inl (.inl h6)),?_⟩
  rw [← h7.length]
  exact q
noncomputable def YH (C:Addr):Sp:=fun vs H Q _=>∃ (x:Addr) (bs:List (Str × Nat)) (ks:List R) (j:Nat) (b:Str × Nat) (n:Int),vs=[.ref x,.str b.1,.int n]/\DY C H x bs ks/\bs[j]? = some b/\∀ H',Ak H H'->Q (.int ((((bs.take j).map (·.2)).sum:Nat)+n)) H'
theorem jM:Ay ["self","board","number"] ["self","board","number"] (Ab Yc):=⟨rfl,rfl,rfl,by decide +kernel,rfl,by decide +kernel,by decide +kernel⟩
include N T in
theorem WX:A_ P w K mg base Bf 2 fOk dOk ["self","board","number"] (YH C):=by
 have GCa:A_ P w K mg base Bf 1 fCa dCa ["things"] VB:=V_ N T
 refine N.FOk.1.ok jM (fun vs H Q E h=>?_) (fun cdv A outer s H vs Q E hr h=>?_)
 ·obtain ⟨x,bs,ks,j,b,n,rfl,_⟩:=h
  rfl
 ·obtain ⟨x,bs,ks,j,b,n,rfl,O,hb,q⟩:=h
  have hrCa:BZ 1 _:=hr.mono (by decide)
  have hu:=HH hr
  refine ⟨_,(Ah (BL (BK Ca (Ai GCa hrCa rfl N.FCa.2.2 N.FCa.1.kp N.FCa.2.1 .nil Av (Aa (Eg GD (CZ (pv 0) rfl) GR (Em (DQ hu (CZ (pv 0) rfl) (pv 1) (fun _ _=>rfl)))) Ac)) (pv 2)))),?_⟩
  obtain ⟨⟨dx,fs,bl,bn,kp,kr,bvs,pvs,uvs,kvs,h1,l1,l2,l3,l4,lm,h2,h3,h4,h5,h6,h7,h8,h9⟩,ob5,osz,onk⟩:=id O
  have hj:j<bs.length:=(List.getElem?_eq_some_iff.mp hb).1
  have hl:=h3.length
  have g:=Hq.k (k:=Sum.inr b.1) h4
  rw [h5 j b hb] at g
  refine ⟨_,rfl,x,C,dx,_,_,rfl,h1,T.cl,T.n_board_list,l1,_,rfl,x,C,dx,_,_,rfl,h1,T.cl,T.n_board_numbers,l2,_,rfl,bn,_,rfl,g,_,rfl,bl,bvs,rfl,.inl (.inl h2),fun p6 hp6=>?_⟩
  have s6:=An (o:=HO.lst (Ef bvs none (some (j:Int)))) hp6
  have a6:upd H p6 (HO.lst (Ef bvs none (some (j:Int)))) p6=_:=Af
  generalize upd H p6 (HO.lst (Ef bvs none (some (j:Int))))=H6 at s6 a6 ⊢
  rw [Hu bvs j (by omega)] at a6
  refine ⟨p6,(bs.take j).map ZR,bvs.take j,rfl,a6,CT (F:=fun (a:Th) y=>TupAt H6 (tV a) y) ZR (Gj (Am s6 h3) j),(by rw [List.length_map,List.length_take]; omega),(fun a ha=>by obtain ⟨b',hb',rfl⟩:=List.mem_map.mp ha; exact Nat.le_trans (osz b' (List.mem_of_mem_take hb')) (by show 61<=100; decide)),fun H7 s7=>?_⟩
  have e7:((bs.take j).map ZR).map (fun a=>a.2.1)=(bs.take j).map (·.2):=by
   rw [List.map_map]
   rfl
  rw [e7]
  exact ⟨_,rfl,_,_,rfl,rfl,q H7 (s6.trans s7)⟩
noncomputable def W0 (C:Addr):Sp:=fun vs H Q _=>∃ (x:Addr) (bs:List (Str × Nat)) (ks:List R) (i:Nat) (qd:Nat × Nat),vs=[.ref x,.int (i:Nat)]/\DY C H x bs ks/\(E_ bs)[i]? = some qd/\∀ y,TupAt H (qV qd) y->Q y H
theorem jE:Ay ["self","key"] ["self","key"] (Ab ZX):=⟨rfl,rfl,rfl,by decide +kernel,rfl,by decide +kernel,by decide +kernel⟩
include N T in
theorem V4:A_ P w K mg base Bf 1 fOo dOo ["self","key"] (W0 C):=by
 refine N.FOo.1.ok jE (fun vs H Q E h=>?_) (fun cdv A outer s H vs Q E hr h=>?_)
 ·obtain ⟨x,bs,ks,i,qd,rfl,_⟩:=h
  rfl
 ·obtain ⟨x,bs,ks,i,qd,rfl,O,hq,q⟩:=h
  refine ⟨_,(Ah (BL (Ar Bb (CZ (pv 0) rfl) (pv 1) (fun _ _=>rfl)))),?_⟩
  obtain ⟨⟨dx,fs,bl,bn,kp,kr,bvs,pvs,uvs,kvs,h1,l1,l2,l3,l4,lm,h2,h3,h4,h5,h6,h7,h8,h9⟩,ob5,osz,onk⟩:=id O
  obtain ⟨y,hy,ht⟩:=Do h7 hq
  exact ⟨_,rfl,x,C,dx,_,_,rfl,h1,T.cl,T.n_key_places,l3,_,rfl,kp,pvs,_,_,rfl,rfl,.inl (.inl h6),Ag hy,q y ht⟩
noncomputable def eE (C:Addr):Sp:=fun vs H Q _=>∃ (x:Addr) (bs:List (Str × Nat)) (ks:List R) (k j1 j2:Nat) (b1 b2:Str × Nat) (nm:Str) (s:Int),vs=[.ref x,.int (k:Nat)]/\DY C H x bs ks/\ks[k]? = some ⟨"coupler",nm,[.str b1.1,.str b2.1,.int s]⟩/\bs[j1]? = some b1/\bs[j2]? = some b2/\∀ y H',Ak H H'->TupAt H' [.int (j1:Nat),.int (j2:Nat),.int s] y->Q y H'
noncomputable def Qg (C:Addr):Sp:=fun vs H Q _=>∃ (x:Addr) (bs:List (Str × Nat)) (ks:List R) (k j1:Nat) (b1:Str × Nat) (wd nm:Str) (rs:List V),vs=[.ref x,.int (k:Nat)]/\DY C H x bs ks/\ks[k]? = some ⟨wd,nm,.str b1.1::rs⟩/\bs[j1]? = some b1/\Q (.int (j1:Nat)) H
theorem jK:Ay ["self","knob"] ["self","knob"] (Ab Y6):=⟨rfl,rfl,rfl,by decide +kernel,rfl,by decide +kernel,by decide +kernel⟩
include N T in
theorem Tc:A_ P w K mg base Bf 1 fBk dBk ["self","knob"] (Qg C):=by
 refine N.FBk.1.ok jK (fun vs H Q E h=>?_) (fun cdv A outer s H vs Q E hr h=>?_)
 ·obtain ⟨x,bs,ks,k,j1,b1,wd,nm,rs,rfl,_⟩:=h
  rfl
 ·obtain ⟨x,bs,ks,k,j1,b1,wd,nm,rs,rfl,O,hk,hb1,q⟩:=h
  have hu:=HH hr
  refine ⟨_,(Ah (BL (DQ hu (CZ (pv 0) rfl) (Ar (BJ (K:=K) rfl) (Ar Bb (CZ (pv 0) rfl) (pv 1) (fun _ _=>rfl)) Ad (fun _ _=>rfl)) (fun _ _=>rfl)))),?_⟩
  obtain ⟨⟨dx,fs,bl,bn,kp,kr,bvs,pvs,uvs,kvs,h1,l1,l2,l3,l4,lm,h2,h3,h4,h5,h6,h7,h8,h9⟩,ob5,osz,onk⟩:=id O
  obtain ⟨y,hy,T0,rfl,ht⟩:=Do h9 hk
  have g1:=Hq.k (k:=Sum.inr b1.1) h4
  rw [h5 j1 b1 hb1] at g1
  exact ⟨_,rfl,x,C,dx,_,_,rfl,h1,T.cl,T.n_board_numbers,l2,_,rfl,x,C,dx,_,_,rfl,h1,T.cl,T.n_knob_rows,l4,_,rfl,kr,uvs,_,_,rfl,rfl,.inl (.inl h8),Ag hy,T0,_,_,_,rfl,rfl,.inl (.inl ht),Ag (j:=2) rfl,bn,_,rfl,g1,q⟩
theorem d7:Ay ["self","knob","row"] ["self","knob"] (Ab Yk):=⟨rfl,rfl,rfl,by decide +kernel,rfl,by decide +kernel,by decide +kernel⟩
include N T in
theorem Z1:A_ P w K mg base Bf 2 fOp dOp ["self","knob"] (eE C):=by
 have GBk:A_ P w K mg base Bf 1 fBk dBk ["self","knob"] (Qg C):=Tc N T
 refine N.FOp.1.ok d7 (fun vs H Q E h=>?_) (fun cdv A outer s H vs Q E hr h=>?_)
 ·obtain ⟨x,bs,ks,k,j1,j2,b1,b2,nm,s0,rfl,_⟩:=h
  rfl
 ·obtain ⟨x,bs,ks,k,j1,j2,b1,b2,nm,s0,rfl,O,hk,hb1,hb2,q⟩:=h
  have hrBk:BZ 1 _:=hr.mono (by decide)
  have hu:=HH hr
  refine ⟨_,(Ae (Bq (i:=2) d7.nd rfl (Or.inl rfl) (Ar Bb (CZ (pv 0) rfl) (pv 1) (fun _ _=>rfl)))
   (Ah (BL (DG (Aa (Cv (pv 0) T.cl N.FBk.2.2 GBk hrBk N.FBk.2.1 .nil Av (Aa (pv 1) Ac)) (Aa (DQ hu (CZ (pv 0) rfl) (Ar (BJ (K:=K) rfl) (pv 2) Ad (fun _ _=>rfl)) (fun _ _=>rfl)) (Aa (Ar (BJ (K:=K) rfl) (pv 2) Ad (fun _ _=>rfl)) Ac))))))),?_⟩
  obtain ⟨⟨dx,fs,bl,bn,kp,kr,bvs,pvs,uvs,kvs,h1,l1,l2,l3,l4,lm,h2,h3,h4,h5,h6,h7,h8,h9⟩,ob5,osz,onk⟩:=id O
  obtain ⟨y,hy,T0,rfl,ht⟩:=Do h9 hk
  have g1:=Hq.k (k:=Sum.inr b1.1) h4
  rw [h5 j1 b1 hb1] at g1
  have g2:=Hq.k (k:=Sum.inr b2.1) h4
  rw [h5 j2 b2 hb2] at g2
  refine ⟨_,rfl,x,C,dx,_,_,rfl,h1,T.cl,T.n_knob_rows,l4,_,rfl,kr,uvs,_,_,rfl,rfl,.inl (.inl h8),Ag hy,?_⟩
  refine ⟨_,rfl,x,dx,fs,rfl,h1,lm _ (by decide +kernel),_,rfl,x,bs,ks,k,j1,b1,_,_,_,rfl,O,hk,hb1,?_⟩
  refine ⟨_,rfl,x,C,dx,_,_,rfl,h1,T.cl,T.n_board_numbers,l2,_,rfl,T0,_,_,_,rfl,rfl,.inl (.inl ht),Ag (j:=3) rfl,bn,_,rfl,g2,?_⟩
  exact ⟨_,rfl,T0,_,_,_,rfl,rfl,.inl (.inl ht),Ag (j:=4) rfl,by show 3<=sizeLine; decide,fun p hp=>q _ _ (An hp) ⟨p,rfl,Af⟩⟩
noncomputable def bO (C:Addr):Sp:=fun vs H Q _=>∃ (x:Addr) (bs:List (Str × Nat)) (ks:List R) (k i j1 j2:Nat) (b1 b2:Str × Nat) (qd:Nat × Nat) (nm:Str) (s:Int),vs=[.ref x,.int (k:Nat),.int (i:Nat)]/\DY C H x bs ks/\(E_ bs)[i]? = some qd/\ks[k]? = some ⟨"coupler",nm,[.str b1.1,.str b2.1,.int s]⟩/\bs[j1]? = some b1/\bs[j2]? = some b2 /\
 ∀ H',Ak H H'->Q (Mx bs j1 j2 s qd b2.2) H'
theorem Rj:Ay ["organ","knob","key","coupler","place","second","number"] ["organ","knob","key"] (Ab Yh):=⟨rfl,rfl,rfl,by decide +kernel,rfl,by decide +kernel,by decide +kernel⟩
include N T in
theorem gM:A_ P w K mg base Bf 3 fLe dLe ["organ","knob","key"] (bO C):=by
 have GOc:A_ P w K mg base Bf 1 fOc dOc ["self"] (Wi C):=V9 N T
 have GOp:A_ P w K mg base Bf 2 fOp dOp ["self","knob"] (eE C):=Z1 N T
 have GOo:A_ P w K mg base Bf 1 fOo dOo ["self","key"] (W0 C):=V4 N T
 have GOb:A_ P w K mg base Bf 1 fOb dOb ["self"] (Wb C):=WY N T
 have GOk:A_ P w K mg base Bf 2 fOk dOk ["self","board","number"] (YH C):=WX N T
 refine N.FLe.1.ok Rj (fun vs H Q E h=>?_) (fun cdv A outer s H vs Q E hr h=>?_)
 ·obtain ⟨x,bs,ks,k,i,j1,j2,b1,b2,qd,nm,s0,rfl,_⟩:=h
  rfl
 ·obtain ⟨x,bs,ks,k,i,j1,j2,b1,b2,qd,nm,s0,rfl,O,hq,hk,hb1,hb2,q⟩:=h
  have hrOc:BZ 1 _:=hr.mono (by decide)
  have hrOp:BZ 2 _:=hr.mono (by decide)
  have hrOo:BZ 1 _:=hr.mono (by decide)
  have hrOb:BZ 1 _:=hr.mono (by decide)
  have hrOk:BZ 2 _:=hr.mono (by decide)
  refine ⟨_,(Ae (Ce (Ex (Ju Gs JW Ad (pv 2) (Ew (pv 0) T.cl N.FOc.2.2 GOc hrOc N.FOc.2.1 .nil Av))) (Ah (BL Oi)) Bh)
   (Ae (Bq (i:=3) Rj.nd rfl (Or.inl rfl) (Cv (pv 0) T.cl N.FOp.2.2 GOp hrOp N.FOp.2.1 .nil Av (Aa (pv 1) Ac)))
   (Ae (Bq (i:=4) Rj.nd rfl (Or.inl rfl) (Cv (pv 0) T.cl N.FOo.2.2 GOo hrOo N.FOo.2.1 .nil Av (Aa (pv 2) Ac)))
   (Ae (Bq (i:=5) Rj.nd rfl (Or.inl rfl) (Ar (Ey (K:=K) rfl) (Ew (pv 0) T.cl N.FOb.2.2 GOb hrOb N.FOb.2.1 .nil Av) (Ar (BJ (K:=K) rfl) (pv 3) Ad (fun _ _=>rfl)) (fun _ _=>rfl)))
   (Ae (Bq (i:=6) Rj.nd rfl (Or.inl rfl) (BK Ca (Ar (BJ (K:=K) rfl) (pv 4) Ad (fun _ _=>rfl)) (Ar (BJ (K:=K) rfl) (pv 3) Ad (fun _ _=>rfl))))
   (Ae (Ce (PW.pt (Jz (Bc MN (Ar (BJ (K:=K) rfl) (pv 4) Ad (fun _ _=>rfl)) (Ar (BJ (K:=K) rfl) (pv 3) Ad (fun _ _=>rfl)) (Bm _)) (JH (Ex (Ju Gs JW Ad (pv 6) (Ar (BJ (K:=K) rfl) (pv 5) Ad (fun _ _=>rfl))))))) (Ah (BL Oi)) Bh)
   (Ah (BL (Cv (pv 0) T.cl N.FOk.2.2 GOk hrOk N.FOk.2.1 .nil Av (Aa (Ar (BJ (K:=K) rfl) (pv 5) Ad (fun _ _=>rfl)) (Aa (pv 6) Ac))))))))))),?_⟩
  have hi:i<(E_ bs).length:=(List.getElem?_eq_some_iff.mp hq).1
  have meth:∀ {H':Hp},DY C H' x bs ks->∃ dx fs,H' x=some (.ins C dx fs)/\∀ m∈meths,fs.lookup m=none:=fun O'=>by
   obtain ⟨⟨dx,fs,_,_,_,_,_,_,_,_,h1,_,_,_,_,lm,_⟩,_⟩:=O'
   exact ⟨dx,fs,h1,lm⟩
  obtain ⟨dx,fs,hx,lm⟩:=meth O
  refine ⟨_,rfl,_,_,rfl,rfl,_,rfl,?_⟩
  refine B_ (fun _=>?_) (fun z=>absurd (decide_eq_true (by omega)) z)
  refine ⟨_,rfl,x,dx,fs,rfl,hx,lm _ (by decide +kernel),x,bs,ks,rfl,O,_,_,rfl,rfl,_,rfl,?_⟩
  rw [decide_eq_true (by omega:(i:Int)<((E_ bs).length:Nat))]
  refine Gh ?_
  refine ⟨_,rfl,x,dx,fs,rfl,hx,lm _ (by decide +kernel),_,rfl,x,bs,ks,k,j1,j2,b1,b2,nm,s0,rfl,O,hk,hb1,hb2,fun y1 H1 s1 hy1=>?_⟩
  have O1:=O.mono s1
  obtain ⟨dx1,fs1,hx1,lm1⟩:=meth O1
  refine ⟨_,rfl,x,dx1,fs1,rfl,hx1,lm1 _ (by decide +kernel),_,rfl,x,bs,ks,i,qd,rfl,O1,hq,fun y2 hy2=>?_⟩
  refine ⟨_,rfl,x,dx1,fs1,rfl,hx1,lm1 _ (by decide +kernel),x,bs,ks,rfl,O1,fun D bvs H2 hD s2 hl2 hb2'=>?_⟩
  obtain ⟨T1,rfl,ht1⟩:=hy1.mono s2
  obtain ⟨T2,rfl,ht2⟩:=hy2.mono s2
  obtain ⟨v3,hv3,T3,rfl,ht3⟩:=Do hb2' hb2
  refine ⟨_,rfl,T1,_,_,_,rfl,rfl,.inl (.inl ht1),Ag (j:=1) rfl,D,bvs,_,_,rfl,rfl,.inl (.inl hl2),Ag hv3,?_⟩
  refine ⟨_,rfl,T2,_,_,_,rfl,rfl,.inl (.inl ht2),Ag (j:=1) rfl,_,rfl,T1,_,_,_,rfl,rfl,.inl (.inl ht1),Ag (j:=2) rfl,_,_,rfl,rfl,?_⟩
  refine ⟨_,rfl,T2,_,_,_,rfl,rfl,.inl (.inl ht2),Ag (j:=0) rfl,_,rfl,T1,_,_,_,rfl,rfl,.inl (.inl ht1),Ag (j:=0) rfl,rfl,_,rfl,?_⟩
  have fin:=q H2 (s1.trans s2)
  unfold Mx at fin
  by_cases e1:qd.1=j1
  ·have z:(!decide (V.int (qd.1:Nat)=V.int (j1:Nat)))=false:=by rw [e1]; simp
   rw [z]
   refine Gh ?_
   refine ⟨_,rfl,_,_,rfl,rfl,_,rfl,?_⟩
   refine B_ (fun g1=>?_) (fun g1=>?_)
   ·refine ⟨_,rfl,T3,_,_,_,rfl,rfl,.inl (.inl ht3),Ag (j:=1) rfl,_,_,rfl,rfl,_,rfl,?_⟩
    have g1':0<=(qd.2:Int)+s0:=of_decide_eq_true g1
    by_cases g2:(qd.2:Int)+s0<(b2.2:Nat)
    ·have z2:decide ((qd.2:Int)+s0<(b2.2:Nat))=true:=decide_eq_true g2
     rw [z2]
     refine Gh ?_
     rw [if_pos ⟨e1,g1',g2⟩] at fin
     obtain ⟨dx2,fs2,hx2,lm2⟩:=meth (O1.mono s2)
     refine ⟨_,rfl,x,dx2,fs2,rfl,hx2,lm2 _ (by decide +kernel),_,rfl,T3,_,_,_,rfl,rfl,.inl (.inl ht3),Ag (j:=0) rfl,_,rfl,x,bs,ks,j2,b2,_,rfl,O1.mono s2,hb2,fun H3 s3=>?_⟩
     have fin3:=q H3 ((s1.trans s2).trans s3)
     unfold Mx at fin3
     rw [if_pos ⟨e1,g1',g2⟩] at fin3
     exact fin3
    ·have z2:decide ((qd.2:Int)+s0<(b2.2:Nat))=false:=decide_eq_false g2
     rw [z2]
     refine GZ ?_
     rw [if_neg fun z=>g2 z.2.2] at fin
     exact fin
   ·refine ⟨_,rfl,?_⟩
    have g1':decide (0<=(qd.2:Int)+s0)=false:=(Bool.not_eq_true _).mp g1
    rw [if_neg fun z=>absurd (decide_eq_true z.2.1) g1] at fin
    exact GZ fin
  ·have z:(!decide (V.int (qd.1:Nat)=V.int (j1:Nat)))=true:=by
    rw [decide_eq_false fun z=>e1 (by have:=V.int.inj z; omega)]
    rfl
   rw [z]
   refine GZ ?_
   rw [if_neg fun z=>e1 z.1] at fin
   exact fin
noncomputable abbrev nV (l:List Nat):List V:=l.map fun n:Nat=>V.int (n:Int)
noncomputable def dO:Sp:=fun vs H Q _=>∃ i:Int,vs=[.int i]/\Q (.bl (decide (0<=i) && decide (i<1200))) H
theorem ir:Ay ["thing"] ["thing"] (Ab Yt):=⟨rfl,rfl,rfl,by decide +kernel,rfl,by decide +kernel,by decide +kernel⟩
include N T in
theorem fY:A_ P w K mg base Bf 2 fMy dMy ["thing"] dO:=by
 have GWh:A_ P w K mg base Bf 1 fWh dWh ["thing"] Qq:=WM N T
 refine N.FMy.1.ok ir (fun vs H Q E h=>?_) (fun cdv A outer s H vs Q E hr h=>?_)
 ·obtain ⟨i,rfl,_⟩:=h
  rfl
 ·obtain ⟨i,rfl,q⟩:=h
  have hrWh:BZ 1 _:=hr.mono (by decide)
  obtain ⟨tMB,hMB⟩:=T.below
  refine ⟨_,(Ah (BL (Dy (Ai GWh hrWh rfl N.FWh.2.2 N.FWh.1.kp N.FWh.2.1 .nil Av (Aa (pv 0) Ac)) (Dn (Ie Gs JW Ad (pv 0) (Cw (v:=.int 1200) rfl hMB ⟨tMB,rfl⟩)))))),?_⟩
  refine ⟨_,rfl,i,rfl,_,rfl,GZ ?_⟩
  refine ⟨_,rfl,_,_,rfl,rfl,_,rfl,?_⟩
  refine B_ (fun h1=>?_) (fun h1=>?_)
  ·rw [h1,Bool.true_and] at q
   exact ⟨_,_,rfl,rfl,q⟩
  ·rw [(Bool.not_eq_true _).mp h1,Bool.false_and] at q
   exact q
noncomputable def Rp:Sp:=fun vs H Q _=>∃ (p:Addr) (l:List Nat),vs=[.ref p]/\H p=some (.lst (nV l))/\l.length<=500/\(∀ n∈l,n<1200)/\∀ H',Ak H H'->Q (.int (Wd.mk l:Nat)) H'
theorem Zy (l:List Nat) (n:Nat):Builtin.bitOr ((Wd.mk l:Nat):Int) (1 * 2 ^ ((n:Nat):Int).toNat)=((Wd.mk (l++[n]):Nat):Int):=by
 rw [Int.one_mul,Int.toNat_natCast,Gy,GJ,Wd.Ut]
theorem U7:Ay ["numbers","some","number"] ["numbers"] (Ab YQ):=⟨rfl,rfl,rfl,by decide +kernel,rfl,by decide +kernel,by decide +kernel⟩
include N T in
theorem Ru:A_ P w K mg base Bf 3 fSt dSt ["numbers"] Rp:=by
 have GMy:A_ P w K mg base Bf 2 fMy dMy ["thing"] dO:=fY N T
 refine N.FSt.1.ok U7 (fun vs H Q E h=>?_) (fun cdv A outer s H vs Q E hr h=>?_)
 ·obtain ⟨p,l,rfl,_⟩:=h
  rfl
 ·obtain ⟨p,l,rfl,hp,hz,hb,q⟩:=h
  have hrMy:BZ 2 _:=hr.mono (by decide)
  refine ⟨_,(Ae (Ce (PW.pt (Jz (Ex (FN (BR DR rfl T.isin PyProof.Rows.boot_isinstance (Aa (pv 0) (Aa (Es (v:=.ty "list") rfl T.list PyProof.Rows.boot_list rfl) Ac))))) (JH (Ex (FN (BR (J8 rfl) rfl T.all PyProof.Rows.boot_all (Aa (Bl rfl (BX (osc:=Ab YQ) (N:=["numbers","some","number"]) rfl rfl (by decide +kernel)) (Bj (pv 0)) (fun _ _ _ _=>Bt) (fun _ _ _ _=>(Ai GMy hrMy rfl N.FMy.2.2 N.FMy.1.kp N.FMy.2.1 .nil Av (Aa (pv 0) Ac)))) Ac))))))) (Ah Gq) Bh)
   (Ae (Bq (i:=1) U7.nd rfl (Or.inl rfl) Ad)
   (Ae (Cp PassesOwn.never rfl (Bj (pv 0)) (Bp (i:=2) U7.nd rfl (Or.inl rfl)) (Ah (Bq (i:=1) U7.nd rfl (Or.inl rfl) (BK Kl (pv 1) (BK J0 Ad (pv 2))))))
   (Ah (BL (pv 1)))))),?_⟩
  have hS:Cg K H p (nV l):=.inl (.inl hp)
  refine ⟨_,rfl,_,"list",_,_,rfl,.lst hp,WF,_,rfl,Gh ?_⟩
  have hzl:(nV l).length<sizeLine:=Aq (by simp; omega)
  refine ⟨_,rfl,p,rfl,⟨_,hS⟩,Cd (K:=K) (xs:=nV l) (fun _=>true) (fun _=>.bl true) hS hzl (fun x hx H' hs R k=>k H' (Ak.refl H')) (fun x hx _ H' hs R k=>?_) (fun D H' hD hs hl=>?_)⟩
  ·obtain ⟨n,hn,rfl⟩:=List.mem_map.mp hx
   refine ⟨_,rfl,(n:Int),rfl,?_⟩
   have e:(decide ((0:Int)<=(n:Int)) && decide ((n:Int)<1200))=true:=by
    have:=hb n hn
    simp
    omega
   rw [e]
   exact k H' (Ak.refl H')
  ·refine ⟨D,(nV l).map fun _=>true,rfl,.inl (.inl ?_),?_⟩
   ·rw [hl,List.filter_eq_self.mpr (fun _ _=>rfl)]
    simp
   ·have e:((nV l).map fun _=>true).all id=true:=by simp
    rw [e]
    refine ⟨_,rfl,Gh ?_⟩
    refine ⟨_,rfl,p,rfl,⟨_,hs.seq hS⟩,Ft (K:=K) (a:=p) (xs:=nV l) (fun i σ H4=>H4=H'/\∃ v2,σ=[some (.ref p),some (.int (Wd.mk (l.take i):Nat)),v2]) ⟨rfl,_,rfl⟩ (fun i σ H4 _ h=>by rw [h.1]; exact hs.seq hS) ?_ ?_⟩
    ·rintro i y σ H4 hi ⟨rfl,v2,rfl⟩
     rw [List.getElem?_map] at hi
     obtain ⟨n,hn,rfl⟩:=Option.map_eq_some_iff.mp hi
     have hn':=hb n (List.mem_of_getElem? hn)
     refine ⟨_,rfl,_,rfl,_,_,rfl,rfl,⟨by omega,by omega,by decide⟩,_,_,rfl,rfl,?_⟩
     refine ⟨rfl,some (.int (n:Int)),?_⟩
     dsimp only
     rw [Zy,List.take_add_one,hn]
     rfl
    ·rintro σ H4 ⟨rfl,v2,rfl⟩
     have el:l.take (nV l).length=l:=List.take_of_length_le (by simp)
     rw [el]
     exact ⟨_,rfl,q _ hs⟩
noncomputable def R0:Sp:=fun vs H Q _=>∃ (n:Nat) (i:Int),vs=[.int n,.int i]/\Q (.bl (decide (0<=i) && n.testBit i.toNat)) H
theorem T_ (n:Nat) (i:Int):decide (V.int (Builtin.bitAnd ((n:Int) / 2 ^ i.toNat) 1)=V.int 1)=n.testBit i.toNat:=by
 rw [Gy,show (1:Int)=((1:Nat):Int) from rfl,← Int.natCast_ediv,Gw,Bool.eq_iff_iff]
 rw [Nat.testBit_eq_decide_div_mod_eq,Nat.and_one_is_mod]
 simp only [decide_eq_true_eq,V.int.injEq]
 exact Int.ofNat_inj
theorem jt:Ay ["some","number"] ["some","number"] (Ab ZV):=⟨rfl,rfl,rfl,by decide +kernel,rfl,by decide +kernel,by decide +kernel⟩
include N T in
theorem Pq:A_ P w K mg base Bf 1 fHa dHa ["some","number"] R0:=by
 refine N.FHa.1.ok jt (fun vs H Q E h=>?_) (fun cdv A outer s H vs Q E hr h=>?_)
 ·obtain ⟨n,i,rfl,_⟩:=h
  rfl
 ·obtain ⟨n,i,rfl,q⟩:=h
  refine ⟨_,(Ah (BL (Dy (Ie Gs JW Ad (pv 1) (Rx PySem.F.plainAttrs_int PySem.F.slot_int_bit_length PySem.F.type_int_bit_length Mt (pv 0))) (Dn (El Dj (BK J2 (BK Oo (pv 0) (pv 1)) Ad) Ad (Bm _)))))),?_⟩
  refine ⟨_,rfl,_,_,rfl,rfl,_,rfl,?_⟩
  refine B_ (fun h1=>?_) (fun h1=>?_)
  ·have hi:0<=i:=of_decide_eq_true h1
   refine ⟨_,rfl,rfl,(n:Int),rfl,rfl,_,_,rfl,rfl,_,rfl,?_⟩
   rw [Iz]
   refine B_ (fun h2=>?_) (fun h2=>?_)
   ·refine ⟨_,rfl,_,rfl,_,_,rfl,rfl,hi,_,_,rfl,rfl,rfl,?_⟩
    dsimp only
    rw [T_]
    rw [h1,Bool.true_and] at q
    exact q
   ·have e:n.testBit i.toNat=false:=by
     cases hb:n.testBit i.toNat with
     | false=>rfl
     | true =>
      have:=Wd.Sy hb
      exact absurd (decide_eq_true (by omega:i<(Wd.len n:Int))) h2
    rw [e,Bool.and_false] at q
    exact q
  ·rw [(Bool.not_eq_true _).mp h1,Bool.false_and] at q
   exact ⟨_,rfl,Gh q⟩
noncomputable def d_:Sp:=fun vs H Q _=>∃ n:Nat,vs=[.int n]/\n<2 ^ 1200/\∀ p H',H p=none->Ak H H'->H' p=some (.lst (nV (Wd.mem n)))->Q (.ref p) H'
theorem Rf (n:Nat):((((List.range (Wd.len n)).map fun (i:Nat)=>(0:Int)+(i:Int)).filter fun i=>decide (0<=i) && n.testBit i.toNat).map fun i=>V.int i)=nV (Wd.mem n):=by
 unfold Wd.mem
 rw [List.filter_map,List.map_map]
 have e:((fun i:Int=>decide (0<=i) && n.testBit i.toNat) ∘ fun (i:Nat)=>(0:Int)+(i:Int))=n.testBit:=by
  funext i
  show (decide (0<=(0:Int)+(i:Int)) && n.testBit ((0:Int)+(i:Int)).toNat)=n.testBit i
  have h1:(0:Int)<=0+(i:Int):=by omega
  have h2:((0:Int)+(i:Int)).toNat=i:=by omega
  rw [decide_eq_true h1,h2,Bool.true_and]
 rw [e]
 refine List.map_congr_left fun i _=>?_
 show V.int ((0:Int)+(i:Int))=V.int (i:Int)
 rw [Int.zero_add]
theorem iV:Ay ["some"] ["some"] (Ab Wu):=⟨rfl,rfl,rfl,by decide +kernel,rfl,by decide +kernel,by decide +kernel⟩
include N T in
theorem fV:A_ P w K mg base Bf 2 fMe dMe ["some"] d_:=by
 have GHa:A_ P w K mg base Bf 1 fHa dHa ["some","number"] R0:=Pq N T
 refine N.FMe.1.ok iV (fun vs H Q E h=>?_) (fun cdv A outer s H vs Q E hr h=>?_)
 ·obtain ⟨n,rfl,_⟩:=h
  rfl
 ·obtain ⟨n,rfl,hn,q⟩:=h
  have hrHa:BZ 1 _:=hr.mono (by decide)
  refine ⟨_,(Ah (BL (Bl rfl (BX (osc:=Ab Wu) (N:=["some"]) rfl rfl (by decide +kernel)) (Bs rfl T.range (Aa (Rx PySem.F.plainAttrs_int PySem.F.slot_int_bit_length PySem.F.type_int_bit_length Mt (pv 0)) Ac)) (fun _ _ _ _=>(HY (FN (Ai GHa hrHa rfl N.FHa.2.2 N.FHa.1.kp N.FHa.2.1 .nil Av (Aa (pv 1) (Aa (pv 0) Ac)))))) (fun _ _ _ _=>(pv 0))))),?_⟩
  have hlen:Wd.len n<=1200:=Wd.OJ hn
  refine ⟨_,rfl,rfl,(n:Int),rfl,rfl,?_⟩
  rw [Iz]
  refine ⟨_,rfl,by omega,by omega,?_⟩
  rw [Int.toNat_natCast]
  refine GX (lo:=0) (n:=Wd.len n) (fun i=>decide (0<=i) && n.testBit i.toNat) (fun i=>.int i) (Nat.lt_of_le_of_lt hlen (by decide)) (fun i hi H' hs R k=>?_) (fun i hi _ H' hs R k=>⟨_,rfl,k H' (Ak.refl H')⟩) (fun D H' hD hs hl=>?_)
  ·exact ⟨_,rfl,_,rfl,n,_,rfl,_,rfl,k H' (Ak.refl H')⟩
  ·rw [Rf] at hl
   exact q D H' hD hs hl
noncomputable def Wg:Sp:=fun vs H Q _=>∃ (n:Nat) (k:Int) (c:Nat),vs=[.int n,.int k,.int c]/\n<2 ^ 1200 /\ -1200<=k/\k<=1200/\c<=1200/\Q (.int (Wd.mv n k c:Nat)) H
theorem O9 (m c:Nat):Builtin.bitAnd (m:Int) (1 * 2 ^ ((if (0:Int) > (c:Int) then (0:Int) else (c:Int))).toNat - 1)=((m % 2 ^ c:Nat):Int):=by
 have h:¬ (0:Int) > (c:Int):=by omega
 rw [if_neg h,Int.one_mul,Int.toNat_natCast,Gy]
 have hp:1<=2 ^ c:=Nat.one_le_two_pow
 have e:((2 ^ c:Nat):Int) - 1=((2 ^ c - 1:Nat):Int):=by omega
 rw [e,Gw,Nat.and_two_pow_sub_one_eq_mod]
theorem eV:Ay ["some","steps","count","moved"] ["some","steps","count"] (Ab Yr):=⟨rfl,rfl,rfl,by decide +kernel,rfl,by decide +kernel,by decide +kernel⟩
include N T in
theorem Vv:A_ P w K mg base Bf 1 fSh dSh ["some","steps","count"] Wg:=by
 refine N.FSh.1.ok eV (fun vs H Q E h=>?_) (fun cdv A outer s H vs Q E hr h=>?_)
 ·obtain ⟨n,k,c,rfl,_⟩:=h
  rfl
 ·obtain ⟨n,k,c,rfl,hn,k1,k2,hc,q⟩:=h
  refine ⟨_,(Ae (Bq (i:=3) eV.nd rfl (Or.inl rfl) (S_ (Bc fK (pv 1) Ad (Bm _)) (BK Uq (pv 0) (pv 1)) (BK Oo (pv 0) (Mh Jy (pv 1)))))
   (Ah (BL (BK J2 (pv 3) (BK Ec (BK J0 Ad (BR (QD rfl) rfl T.max PyProof.Rows.boot_max (Aa (pv 2) (Aa Ad Ac)))) Ad))))),?_⟩
  have hlen:Wd.len n<=1200:=Wd.OJ hn
  have p1:(2:Int) ^ 27=134217728:=by decide
  refine ⟨_,rfl,_,_,rfl,rfl,_,rfl,?_⟩
  refine B_ (fun h1=>?_) (fun h1=>?_)
  ·have hk:0<k:=of_decide_eq_true h1
   refine ⟨_,rfl,_,rfl,_,_,rfl,rfl,⟨by omega,by rw [Iz,p1]; omega⟩,?_⟩
   refine ⟨_,rfl,_,rfl,_,_,rfl,⟨_,_,rfl,rfl,⟨by split <;> omega,by split <;> omega,by decide⟩,_,_,rfl,rfl,_,_,rfl,rfl,?_⟩⟩
   dsimp only
   have e:((n:Int) * 2 ^ k.toNat)=((n * 2 ^ k.toNat:Nat):Int):=by rw [Gy]; simp
   rw [e,O9]
   unfold Wd.mv at q
   rw [if_pos hk] at q
   exact q
  ·have hk:¬ 0<k:=fun z=>h1 (decide_eq_true z)
   refine ⟨_,rfl,_,rfl,_,rfl,_,_,rfl,rfl,by omega,?_⟩
   refine ⟨_,rfl,_,rfl,_,_,rfl,⟨_,_,rfl,rfl,⟨by split <;> omega,by split <;> omega,by decide⟩,_,_,rfl,rfl,_,_,rfl,rfl,?_⟩⟩
   dsimp only
   have e:((n:Int) / 2 ^ (-k).toNat)=((n / 2 ^ (-k).toNat:Nat):Int):=by rw [Gy]; simp
   rw [e,O9]
   unfold Wd.mv at q
   rw [if_neg hk] at q
   exact q
noncomputable def aR (C:Addr):Sp:=fun vs H Q _=>∃ (x:Addr) (bs:List (Str × Nat)) (ks:List R),vs=[.ref x]/\DY C H x bs ks/\∀ D ys H',H D=none->Ak H H'->H' D=some (.lst ys)->Paired (fun (r:R) y=>TupAt H' [.str r.w,.str r.nm] y) ks ys->Q (.ref D) H'
theorem gq:Ay ["self"] ["self"] (Ab Xa):=⟨rfl,rfl,rfl,by decide +kernel,rfl,by decide +kernel,by decide +kernel⟩
include N T in
theorem Z7:A_ P w K mg base Bf 1 fOz dOz ["self"] (aR C):=by
 refine N.FOz.1.ok gq (fun vs H Q E h=>?_) (fun cdv A outer s H vs Q E hr h=>?_)
 ·obtain ⟨x,bs,ks,rfl,_⟩:=h
  rfl
 ·obtain ⟨x,bs,ks,rfl,O,q⟩:=h
  refine ⟨_,(Ah (BL (Bl rfl (BX (osc:=Ab Xa) (N:=["self"]) rfl rfl (by decide +kernel)) (Bj (CZ (pv 0) rfl)) (fun _ _ _ _=>Bt) (fun _ _ _ _=>(DG (Aa (Ar (BJ (K:=K) rfl) (pv 0) Ad (fun _ _=>rfl)) (Aa (Ar (BJ (K:=K) rfl) (pv 0) Ad (fun _ _=>rfl)) Ac))))))),?_⟩
  obtain ⟨⟨dx,fs,bl,bn,kp,kr,bvs,pvs,uvs,kvs,h1,l1,l2,l3,l4,lm,h2,h3,h4,h5,h6,h7,h8,h9⟩,ob5,osz,onk⟩:=id O
  have hS:Cg K H kr uvs:=.inl (.inl h8)
  have hul:=h9.length
  refine ⟨_,rfl,x,C,dx,_,_,rfl,h1,T.cl,T.n_knob_rows,l4,kr,rfl,⟨_,hS⟩,J1 (K:=K) (xs:=uvs) (fun _=>true) (fun v=>[.str (QZ H v).w,.str (QZ H v).nm]) hS (Aq (by omega)) (fun y hy H' hs R k=>k H' (Ak.refl H')) (fun y hy _ H' hs R k=>?_) (fun D H' ys hD hs hl hv=>?_)⟩
  ·obtain ⟨r,_,hr0⟩:=Ci h9 hy
   have e:=Nt hr0
   rw [e] at k
   obtain ⟨T0,rfl,hT⟩:=hr0.mono hs
   exact ⟨_,rfl,T0,_,_,_,rfl,rfl,.inl (.inl hT),Ag (j:=0) rfl,_,rfl,T0,_,_,_,rfl,rfl,.inl (.inl hT),Ag (j:=1) rfl,by show 2<=sizeLine; decide,fun T6 hT6=>k _ _ (An hT6) ⟨T6,rfl,Af⟩⟩
  ·rw [List.filter_eq_self.mpr (fun _ _=>rfl)] at hv
   have h:=CT (F:=fun (r:R) y=>TupAt H' [.str r.w,.str r.nm] y) (QZ H) hv
   rw [PQ h9] at h
   exact q D ys H' hD hs hl h
noncomputable def Uw (C:Addr):Sp:=fun vs H Q _=>∃ (x:Addr) (bs:List (Str × Nat)) (ks:List R) (wd:Str) (D:Nat),vs=[.ref x,.int (D:Nat),.str wd]/\DY C H x bs ks/\∀ L (cl:List Nat) H',H L=none->Ak H H'->H' L=some (.lst (nV cl))->(∀ k,k∈cl ↔ ∃ r,ks[k]? = some r/\r.w=wd/\D.testBit k=true)->cl.length<=200->Q (.ref L) H'
theorem dJ:Ay ["organ","knobs","word","words"] ["organ","knobs","word"] (Ab Vz):=⟨rfl,rfl,rfl,by decide +kernel,rfl,by decide +kernel,by decide +kernel⟩
include N T in
theorem RN:A_ P w K mg base Bf 2 fDc dDc ["organ","knobs","word"] (Uw C):=by
 have GOz:A_ P w K mg base Bf 1 fOz dOz ["self"] (aR C):=Z7 N T
 have GHa:A_ P w K mg base Bf 1 fHa dHa ["some","number"] R0:=Pq N T
 refine N.FDc.1.ok dJ (fun vs H Q E h=>?_) (fun cdv A outer s H vs Q E hr h=>?_)
 ·obtain ⟨x,bs,ks,wd,D,rfl,_⟩:=h
  rfl
 ·obtain ⟨x,bs,ks,wd,D,rfl,O,q⟩:=h
  have hrOz:BZ 1 _:=hr.mono (by decide)
  have hrHa:BZ 1 _:=hr.mono (by decide)
  refine ⟨_,(Ae (Jh (i:=3) dJ.nd rfl rfl rfl (BX (osc:=Ab Vz) (N:=["organ","knobs","word","words"]) rfl rfl (by decide +kernel)) (Bj (Ew (pv 0) T.cl N.FOz.2.2 GOz hrOz N.FOz.2.1 .nil Av)) (fun _ _ _ _=>Bt) (fun _ _ _ _=>(Ar (BJ (K:=K) rfl) (pv 0) Ad (fun _ _=>rfl))))
   (Ah (BL (Lb rfl (HQ (osc:=Ab Vz) (N:=["organ","knobs","word","words"]) rfl rfl (by decide +kernel)) (Ik rfl T.enumerate (Aa (pv 3) Ac)) (fun _ _ _ _=>HY (PW.pt (R7 (Bc Dj (pv 1) (pv 4) (Bm _)) (O5 (FN (Ai GHa hrHa rfl N.FHa.2.2 N.FHa.1.kp N.FHa.2.1 .nil Av (Aa (pv 3) (Aa (pv 0) Ac)))))))) (fun _ _ _ _=>(pv 0)))))),?_⟩
  obtain ⟨⟨dx,fs,bl,bn,kp,kr,bvs,pvs,uvs,kvs,h1,l1,l2,l3,l4,lm,h2,h3,h4,h5,h6,h7,h8,h9⟩,ob5,osz,onk⟩:=id O
  refine ⟨_,rfl,x,dx,fs,rfl,h1,lm _ (by decide +kernel),x,_,_,rfl,O,fun D1 ys H1 hD1 s1 hl1 hv1=>?_⟩
  have hS1:Cg K H1 D1 ys:=.inl (.inl hl1)
  have hyl:=hv1.length
  refine ⟨D1,rfl,⟨_,hS1⟩,Cd (K:=K) (xs:=ys) (fun _=>true) (QW H1 0) hS1 (Aq (by omega)) (fun y hy H' hs R k=>k H' (Ak.refl H')) (fun y hy _ H' hs R k=>?_) (fun D2 H2 hD2 s2 hl2=>?_)⟩
  ·obtain ⟨r,_,hr0⟩:=Ci hv1 hy
   have e:=IW hr0 0
   obtain ⟨T0,rfl,hT⟩:=hr0.mono hs
   have kk:=k H' (Ak.refl H')
   rw [e] at kk
   exact ⟨_,rfl,T0,_,_,_,rfl,rfl,.inl (.inl hT),Ag (j:=0) rfl,kk⟩
  rw [List.filter_eq_self.mpr (fun _ _=>rfl),Jf 0 hv1] at hl2
  have e2:(ks.map fun r=>([V.str r.w,V.str r.nm]:List V).getD 0 .non)=ks.map fun r=>V.str r.w:=rfl
  rw [e2] at hl2
  have hS2:Cg K H2 D2 (ks.map fun r=>V.str r.w):=.inl (.inl hl2)
  refine ⟨_,rfl,D2,rfl,⟨_,hS2⟩,QC (K:=K) (xs:=ks.map fun r=>V.str r.w) (fun i v=>decide (v=.str wd) && D.testBit i) (fun i _=>.int (i:Nat)) hS2 (Aq (by rw [List.length_map]; omega)) (fun i v hv H' hs R k=>?_) (fun i v hv _ H' hs R k=>⟨_,rfl,k H' (Ak.refl H')⟩) (fun D3 H3 hD3 s3 hl3=>?_)⟩
  ·rw [List.getElem?_map] at hv
   obtain ⟨z,hz,rfl⟩:=Option.map_eq_some_iff.mp hv
   have kk:=k H' (Ak.refl H')
   refine ⟨_,rfl,_,rfl,rfl,_,rfl,?_⟩
   refine B_ (fun g=>?_) (fun g=>?_)
   ·rw [g,Bool.true_and] at kk
    refine ⟨_,rfl,_,rfl,D,_,rfl,_,rfl,?_⟩
    rw [decide_eq_true (by omega:(0:Int)<=(i:Nat)),Bool.true_and,Int.toNat_natCast]
    exact kk
   ·rw [(Bool.not_eq_true _).mp g,Bool.false_and] at kk
    exact kk
  ·refine q D3 (((ks.map fun r=>V.str r.w).zipIdx.filter fun p=>decide (p.1=V.str wd) && D.testBit p.2).map (·.2)) H3 ((s1.trans s2).free hD3) ((s1.trans s2).trans s3) ?_ (fun k=>?_) ?_
   ·rw [hl3]
    refine congrArg (fun l=>some (HO.lst l)) ?_
    unfold nV
    rw [List.map_map]
    rfl
   ·constructor
    ·intro hk
     obtain ⟨⟨v,k'⟩,hm,rfl⟩:=List.mem_map.mp hk
     obtain ⟨h1,h2⟩:=List.mem_filter.mp hm
     have h3:=List.mem_zipIdx' h1
     rw [List.getElem_map] at h3
     obtain ⟨hlt,h3⟩:=h3
     rw [Bool.and_eq_true] at h2
     have hlt':k'<ks.length:=by simpa using hlt
     refine ⟨ks[k'],List.getElem?_eq_getElem hlt',?_,h2.2⟩
     have:=h2.1
     rw [h3] at this
     exact V.str.inj (of_decide_eq_true this)
    ·rintro ⟨z,hz,hc,hd⟩
     refine List.mem_map.mpr ⟨(V.str z.w,k),List.mem_filter.mpr ⟨?_,?_⟩,rfl⟩
     ·rw [List.mem_zipIdx_iff_getElem?,List.getElem?_map,hz]
      rfl
     ·show (decide (V.str z.w=V.str wd) && D.testBit k)=true
      rw [hc,hd,decide_eq_true rfl]
      rfl
   ·rw [List.length_map]
    refine Nat.le_trans (List.length_filter_le _ _) ?_
    rw [List.length_zipIdx,List.length_map]
    omega
theorem K9 {C:Addr} {H:Hp} {x:Addr} {bs:List (Str × Nat)} {ks:List R} (O:DY C H x bs ks):(bs.map (·.2)).sum<=305:=by
 have h:=Lg bs 61 O.sz
 rw [Ga] at h
 have:=O.nb
 have:bs.length * 61<=5 * 61:=Nat.mul_le_mul_right _ this
 omega
theorem T4 {c:TT} {tb u:TS} {D:Ends} {r:VK} {b k:St->Hp->Prop} {σ:St} {H:Hp} (h:Lf c tb { D with nx:=u D } σ H):({ nx:=a_ (Lf c tb) u D,rt:=r,bk:=b,ct:=k }:Ends).nx σ H:=h
noncomputable abbrev kI (j:Nat):Key:=Sum.inl ((j:Nat):Int)
noncomputable def lV (H:Hp) (bs:List (Str × Nat)) (kbs:List Kb) (D n:Nat) (kvs:List (Key × V)) (js:List Nat):Prop:=∀ (m j:Nat),js[m]? = some j->∃ (k i:Nat) (T:Addr) (z:Kb),Cj kvs (kI j)=some (.ref T)/\H T=some (.tup [V.int (k:Nat),V.int (i:Nat)])/\D.testBit k=true/\kbs[k]? = some z/\gl bs z i=some j/\(n.testBit i=true \/ i∈js.take m)
theorem KR {X:Cx} {K:PySem.W.Frag} (h:X.K=K):Gf X (compareOp .NotIn) (gP K true):=h ▸ Lj
theorem SM (l:List Nat):(nV l).all F_=true:=List.all_eq_true.mpr fun v hv=>by
 obtain ⟨n,_,rfl⟩:=List.mem_map.mp hv
 rfl
theorem Vn (j:Nat) (js:List Nat):inV (.int (j:Nat)) (nV js)=decide (j∈js):=by
 rw [Bool.eq_iff_iff,decide_eq_true_eq]
 unfold inV
 rw [List.any_eq_true]
 constructor
 ·rintro ⟨y,hy,e⟩
  obtain ⟨n,hn,rfl⟩:=List.mem_map.mp hy
  have e':(((n:Nat):Int) == ((j:Nat):Int))=true:=e
  have e2:((n:Nat):Int)=(j:Nat):=eq_of_beq e'
  have:n=j:=by omega
  subst this
  exact hn
 ·intro h
  exact ⟨_,List.mem_map_of_mem h,by show (((j:Nat):Int) == ((j:Nat):Int))=true; exact beq_self_eq_true _⟩
theorem iz:Ay ["self","knob"] ["self","knob"] (Ab ZJ):=⟨rfl,rfl,rfl,by decide +kernel,rfl,by decide +kernel,by decide +kernel⟩
include N T in
theorem bI:A_ P w K mg base Bf 2 fOm dOm ["self","knob"] (Qg C):=by
 have GBk:A_ P w K mg base Bf 1 fBk dBk ["self","knob"] (Qg C):=Tc N T
 refine N.FOm.1.ok iz (fun vs H Q E h=>?_) (fun cdv A outer s H vs Q E hr h=>?_)
 ·obtain ⟨x,bs,ks,k,j1,b1,wd,nm,rs,rfl,_⟩:=h
  rfl
 ·obtain ⟨x,bs,ks,k,j1,b1,wd,nm,rs,rfl,O,hk,hb1,q⟩:=h
  have hrBk:BZ 1 _:=hr.mono (by decide)
  refine ⟨_,(Ah (BL (Cv (pv 0) T.cl N.FBk.2.2 GBk hrBk N.FBk.2.1 .nil Av (Aa (pv 1) Ac)))),?_⟩
  obtain ⟨⟨dx,fs,bl,bn,kp,kr,bvs,pvs,uvs,kvs,h1,l1,l2,l3,l4,lm,h2,h3,h4,h5,h6,h7,h8,h9⟩,ob5,osz,onk⟩:=id O
  exact ⟨_,rfl,x,dx,fs,rfl,h1,lm _ (by decide +kernel),_,rfl,x,bs,ks,k,j1,b1,wd,nm,rs,rfl,O,hk,hb1,q⟩
noncomputable def ak (C:Addr):Sp:=fun vs H Q _=>∃ (x:Addr) (bs:List (Str × Nat)) (rk:List (Str × Nat × Int)) (ks:List R) (ls:List (List Ln)) (k j1:Nat) (b1:Str × Nat) (wd nm:Str) (rs:List V) (l:List Ln),vs=[.ref x,.int (k:Nat)]/\Dk C H x bs rk ks ls/\ks[k]? = some ⟨wd,nm,.str b1.1::rs⟩/\bs[j1]? = some b1/\ls[k]? = some l /\
 ∀ (T0 L0:Addr) (ts:List V) H',Ak H H'->H' T0=some (.tup [.int (j1:Nat),.ref L0])->H' L0=some (.lst ts)->Paired (fun x y=>TupAt H' (cF x) y) l ts->Q (.ref T0) H'
theorem iK:Ay ["self","knob"] ["self","knob"] (Ab Ye):=⟨rfl,rfl,rfl,by decide +kernel,rfl,by decide +kernel,by decide +kernel⟩
include N T in
theorem Zu:A_ P w K mg base Bf 2 fOs dOs ["self","knob"] (ak C):=by
 have GBk:A_ P w K mg base Bf 1 fBk dBk ["self","knob"] (Qg C):=Tc N T
 refine N.FOs.1.ok iK (fun vs H Q E h=>?_) (fun cdv A outer s H vs Q E hr h=>?_)
 ·obtain ⟨x,bs,rk,ks,ls,k,j1,b1,wd,nm,rs,l,rfl,_⟩:=h
  rfl
 ·obtain ⟨x,bs,rk,ks,ls,k,j1,b1,wd,nm,rs,l,rfl,O,hk,hb1,hl,q⟩:=h
  have hrBk:BZ 1 _:=hr.mono (by decide)
  refine ⟨_,(Ah (BL (DG (Aa (Cv (pv 0) T.cl N.FBk.2.2 GBk hrBk N.FBk.2.1 .nil Av (Aa (pv 1) Ac)) (Aa (Et Du rfl T.list PyProof.Rows.boot_list (Aa (Ar (Ey (K:=K) rfl) (CZ (pv 0) rfl) (pv 1) (fun _ _=>rfl)) Ac)) Ac))))),?_⟩
  obtain ⟨⟨dx,fs,bl,bn,kp,kr,bvs,pvs,uvs,kvs,h1,l1,l2,l3,l4,lm,h2,h3,h4,h5,h6,h7,h8,h9⟩,ob5,osz,onk⟩:=id O.o
  obtain ⟨dx',fs',rl,rn,pp,kl,rvs,qvs,kvs',g1,m1,m2,m3,m4,g2,g3,g4,g5,g6,g7,lv,g8,g9⟩:=id O.r
  obtain ⟨e1,e2⟩:dx'=dx/\fs'=fs:=by rw [h1] at g1; cases g1; exact ⟨rfl,rfl⟩
  subst e1 e2
  obtain ⟨y,hy,A,ts,rfl,hA,htp⟩:=Do g9 hl
  refine ⟨_,rfl,x,_,_,rfl,h1,lm _ (by decide +kernel),_,rfl,x,bs,ks,k,j1,b1,wd,nm,rs,rfl,O.o,hk,hb1,?_⟩
  refine ⟨_,rfl,x,C,_,_,_,rfl,h1,T.cl,T.n_knob_lines,m4,_,rfl,kl,lv,_,_,rfl,rfl,.inl (.inl g8),Ag hy,A,ts,rfl,.inl (.inl (.inl hA)),fun L0 hL0=>?_⟩
  have t1:=An (o:=HO.lst ts) hL0
  have u1:upd H L0 (HO.lst ts) L0=some (.lst ts):=Af
  generalize upd H L0 (HO.lst ts)=H1 at t1 u1 ⊢
  refine ⟨by show 2<=sizeLine; decide,fun T0 hT0=>?_⟩
  have t2:=An (o:=HO.tup [.int (j1:Nat),.ref L0]) hT0
  exact q T0 L0 ts _ (t1.trans t2) Af (t2 _ _ u1) (Am (t1.trans t2) htp)
noncomputable def fu (C:Addr):Sp:=fun vs H Q _=>∃ (x:Addr) (bs:List (Str × Nat)) (rk:List (Str × Nat × Int)) (ks:List R) (ls:List (List Ln)),vs=[.ref x]/\Dk C H x bs rk ks ls/\∀ D rvs H',H D=none->Ak H H'->H' D=some (.lst rvs)->Paired (fun (a:Th) y=>TupAt H' (tV a) y) (rk.map RK) rvs->Q (.ref D) H'
theorem j_:Ay ["self"] ["self"] (Ab ZD):=⟨rfl,rfl,rfl,by decide +kernel,rfl,by decide +kernel,by decide +kernel⟩
include N T in
theorem gA:A_ P w K mg base Bf 1 fOr dOr ["self"] (fu C):=by
 refine N.FOr.1.ok j_ (fun vs H Q E h=>?_) (fun cdv A outer s H vs Q E hr h=>?_)
 ·obtain ⟨x,bs,rk,ks,ls,rfl,_⟩:=h
  rfl
 ·obtain ⟨x,bs,rk,ks,ls,rfl,O,q⟩:=h
  refine ⟨_,(Ah (BL (Et Du rfl T.list PyProof.Rows.boot_list (Aa (CZ (pv 0) rfl) Ac)))),?_⟩
  obtain ⟨⟨dx,fs,bl,bn,kp,kr,bvs,pvs,uvs,kvs,h1,l1,l2,l3,l4,lm,h2,h3,h4,h5,h6,h7,h8,h9⟩,ob5,osz,onk⟩:=id O.o
  obtain ⟨dx',fs',rl,rn,pp,kl,rvs,qvs,kvs',g1,m1,m2,m3,m4,g2,g3,g4,g5,g6,g7,lv,g8,g9⟩:=id O.r
  obtain ⟨e1,e2⟩:dx'=dx/\fs'=fs:=by rw [h1] at g1; cases g1; exact ⟨rfl,rfl⟩
  subst e1 e2
  exact ⟨_,rfl,x,C,_,_,_,rfl,h1,T.cl,T.n_rank_list,m1,rl,rvs,rfl,.inl (.inl (.inl g2)),fun l hl=>q l rvs _ hl (An hl) Af (Am (An hl) g3)⟩
noncomputable def dj (C:Addr):Sp:=fun vs H Q _=>∃ (x:Addr) (bs:List (Str × Nat)) (rk:List (Str × Nat × Int)) (ks:List R) (ls:List (List Ln)),vs=[.ref x]/\Dk C H x bs rk ks ls/\Q (.int ((E_ (rk.map Xg)).length:Nat)) H
theorem jH:Ay ["self"] ["self"] (Ab Yn):=⟨rfl,rfl,rfl,by decide +kernel,rfl,by decide +kernel,by decide +kernel⟩
include N T in
theorem fO:A_ P w K mg base Bf 1 fOq dOq ["self"] (dj C):=by
 refine N.FOq.1.ok jH (fun vs H Q E h=>?_) (fun cdv A outer s H vs Q E hr h=>?_)
 ·obtain ⟨x,bs,rk,ks,ls,rfl,_⟩:=h
  rfl
 ·obtain ⟨x,bs,rk,ks,ls,rfl,O,q⟩:=h
  refine ⟨_,(Ah (BL (BR BV rfl T.len PySem.boot_len (Aa (CZ (pv 0) rfl) Ac)))),?_⟩
  obtain ⟨⟨dx,fs,bl,bn,kp,kr,bvs,pvs,uvs,kvs,h1,l1,l2,l3,l4,lm,h2,h3,h4,h5,h6,h7,h8,h9⟩,ob5,osz,onk⟩:=id O.o
  obtain ⟨dx',fs',rl,rn,pp,kl,rvs,qvs,kvs',g1,m1,m2,m3,m4,g2,g3,g4,g5,g6,g7,lv,g8,g9⟩:=id O.r
  obtain ⟨e1,e2⟩:dx'=dx/\fs'=fs:=by rw [h1] at g1; cases g1; exact ⟨rfl,rfl⟩
  subst e1 e2
  refine ⟨_,rfl,x,C,_,_,_,rfl,h1,T.cl,T.n_pipe_places,m3,pp,qvs,rfl,.inl (.inl (.inl g6)),?_⟩
  rw [← g7.length]
  exact q
noncomputable def aF (C:Addr):Sp:=fun vs H Q _=>∃ (x:Addr) (bs:List (Str × Nat)) (rk:List (Str × Nat × Int)) (ks:List R) (ls:List (List Ln)) (j:Nat) (r:Str × Nat × Int) (n:Int),vs=[.ref x,.str r.1,.int n]/\Dk C H x bs rk ks ls/\rk[j]? = some r/\∀ H',Ak H H'->Q (.int ((((rk.take j).map (fun r=>r.2.1)).sum:Nat)+n)) H'
theorem jJ:Ay ["self","rank","number"] ["self","rank","number"] (Ab Yw):=⟨rfl,rfl,rfl,by decide +kernel,rfl,by decide +kernel,by decide +kernel⟩
include N T in
theorem gF:A_ P w K mg base Bf 2 fOe dOe ["self","rank","number"] (aF C):=by
 have GCa:A_ P w K mg base Bf 1 fCa dCa ["things"] VB:=V_ N T
 refine N.FOe.1.ok jJ (fun vs H Q E h=>?_) (fun cdv A outer s H vs Q E hr h=>?_)
 ·obtain ⟨x,bs,rk,ks,ls,j,r,n,rfl,_⟩:=h
  rfl
 ·obtain ⟨x,bs,rk,ks,ls,j,r,n,rfl,O,hb,q⟩:=h
  have hrCa:BZ 1 _:=hr.mono (by decide)
  have hu:=HH hr
  refine ⟨_,(Ah (BL (BK Ca (Ai GCa hrCa rfl N.FCa.2.2 N.FCa.1.kp N.FCa.2.1 .nil Av (Aa (Eg GD (CZ (pv 0) rfl) GR (Em (DQ hu (CZ (pv 0) rfl) (pv 1) (fun _ _=>rfl)))) Ac)) (pv 2)))),?_⟩
  obtain ⟨⟨dx,fs,bl,bn,kp,kr,bvs,pvs,uvs,kvs,h1,l1,l2,l3,l4,lm,h2,h3,h4,h5,h6,h7,h8,h9⟩,ob5,osz,onk⟩:=id O.o
  obtain ⟨dx',fs',rl,rn,pp,kl,rvs,qvs,kvs',g1,m1,m2,m3,m4,g2,g3,g4,g5,g6,g7,lv,g8,g9⟩:=id O.r
  obtain ⟨e1,e2⟩:dx'=dx/\fs'=fs:=by rw [h1] at g1; cases g1; exact ⟨rfl,rfl⟩
  subst e1 e2
  have hj:j<rk.length:=(List.getElem?_eq_some_iff.mp hb).1
  have hl:=g3.length
  rw [List.length_map] at hl
  have g:=Hq.k (k:=Sum.inr r.1) g4
  rw [g5 j r hb] at g
  refine ⟨_,rfl,x,C,_,_,_,rfl,h1,T.cl,T.n_rank_list,m1,_,rfl,x,C,_,_,_,rfl,h1,T.cl,T.n_rank_numbers,m2,_,rfl,rn,_,rfl,g,_,rfl,rl,rvs,rfl,.inl (.inl g2),fun p6 hp6=>?_⟩
  have s6:=An (o:=HO.lst (Ef rvs none (some (j:Int)))) hp6
  have a6:upd H p6 (HO.lst (Ef rvs none (some (j:Int)))) p6=_:=Af
  generalize upd H p6 (HO.lst (Ef rvs none (some (j:Int))))=H6 at s6 a6 ⊢
  rw [Hu rvs j (by omega)] at a6
  refine ⟨p6,(rk.map RK).take j,rvs.take j,rfl,a6,Gj (Am s6 g3) j,(by rw [List.length_take,List.length_map]; have:=O.nr; omega),(fun a ha=>by obtain ⟨r',hr',rfl⟩:=List.mem_map.mp (List.mem_of_mem_take ha); exact Nat.le_trans (O.nz r' hr') (by decide)),fun H7 s7=>?_⟩
  have e7:(((rk.map RK).take j).map fun a=>a.2.1)=(rk.take j).map (fun r=>r.2.1):=by
   rw [← List.map_take,List.map_map]
   rfl
  rw [e7]
  exact ⟨_,rfl,_,_,rfl,rfl,q H7 (s6.trans s7)⟩
noncomputable def Uc (l:List Nat):Nat:=l.foldl (· ||| ·) 0
theorem Lw (l:List Nat) (n:Nat):Uc (l++[n])=Uc l ||| n:=by
 unfold Uc
 rw [List.foldl_append]
 rfl
noncomputable def U_:Sp:=fun vs H Q _=>∃ (p:Addr) (l:List Nat),vs=[.ref p]/\H p=some (.lst (nV l))/\l.length<=500/\Q (.int (Uc l:Nat)) H
theorem VN:Ay ["sets","some","each"] ["sets"] (Ab Y8):=⟨rfl,rfl,rfl,by decide +kernel,rfl,by decide +kernel,by decide +kernel⟩
include N T in
theorem Sw:A_ P w K mg base Bf 1 fUn dUn ["sets"] U_:=by
 refine N.FUn.1.ok VN (fun vs H Q E h=>?_) (fun cdv A outer s H vs Q E hr h=>?_)
 ·obtain ⟨p,l,rfl,_⟩:=h
  rfl
 ·obtain ⟨p,l,rfl,hp,hz,q⟩:=h
  refine ⟨_,(Ae (Bq (i:=1) VN.nd rfl (Or.inl rfl) Ad)
   (Ae (Cp PassesOwn.never rfl (Bj (pv 0)) (Bp (i:=2) VN.nd rfl (Or.inl rfl)) (Ah (Bq (i:=1) VN.nd rfl (Or.inl rfl) (BK Kl (pv 1) (pv 2)))))
   (Ah (BL (pv 1))))),?_⟩
  have hS:Cg K H p (nV l):=.inl (.inl hp)
  refine ⟨_,rfl,p,rfl,⟨_,hS⟩,Ft (K:=K) (a:=p) (xs:=nV l) (fun i σ H4=>H4=H/\∃ v2,σ=[some (.ref p),some (.int (Uc (l.take i):Nat)),v2]) ⟨rfl,_,rfl⟩ (fun i σ H4 _ h=>by rw [h.1]; exact hS) ?_ ?_⟩
  ·rintro i y σ H4 hi ⟨rfl,v2,rfl⟩
   rw [List.getElem?_map] at hi
   obtain ⟨n,hn,rfl⟩:=Option.map_eq_some_iff.mp hi
   refine ⟨_,rfl,_,rfl,_,_,rfl,rfl,?_⟩
   refine ⟨rfl,some (.int (n:Int)),?_⟩
   dsimp only
   rw [GJ,List.take_add_one,hn]
   show _=[some (V.ref p),some (V.int ((Uc (l.take i++[n]):Nat):Int)),_]
   rw [Lw]
   rfl
  ·rintro σ H4 ⟨rfl,v2,rfl⟩
   have el:l.take (nV l).length=l:=List.take_of_length_le (by simp)
   rw [el]
   exact ⟨_,rfl,q⟩
noncomputable def Hz (kbs:List Kb) (k:Nat):Nat:=match kbs[k]? with
 | some (.pl _ b)=>b
 | some (.cp b _ _)=>b
 | none=>0
theorem P_ {c:Nat->Str} {kbs:List Kb} {k:Nat} {r:R} (h:(Ea c kbs)[k]? = some r):∃ rs,r=⟨r.w,r.nm,.str (c (Hz kbs k))::rs⟩:=by
 obtain ⟨z,hz,rfl⟩:=Fy h
 unfold Hz
 rw [hz]
 cases z with
 | cp i j s=>exact ⟨_,rfl⟩
 | pl w i=>exact ⟨_,rfl⟩
theorem Rn {n:Nat} {kbs:List Kb} {k:Nat} {z:Kb} (h:Ui n kbs) (hz:kbs[k]? = some z):Hz kbs k<n:=by
 have ho:=h.ok z (List.mem_of_getElem? hz)
 unfold Hz
 rw [hz]
 cases z with
 | cp i j s=>exact ho.1
 | pl w i=>exact ho.1
noncomputable def Ou (kbs:List Kb) (D b:Nat):Prop:=∃ (k:Nat) (z:Kb),kbs[k]? = some z/\z.w = "mute" /\ D.testBit k=true/\Hz kbs k=b
noncomputable def gG (C:Addr):Sp:=fun vs H Q _=>∃ (x:Addr) (c:Nat->Str) (sz:List Nat) (kbs:List Kb) (D:Nat),vs=[.ref x,.int (D:Nat)]/\DY C H x (CK c sz) (Ea c kbs)/\Ui sz.length kbs/\∀ L (ml:List Nat) H',H L=none->Ak H H'->H' L=some (.lst (nV ml))->(∀ b,b∈ml ↔ Ou kbs D b)->ml.length<=200->Q (.ref L) H'
theorem il:Ay ["organ","knobs"] ["organ","knobs"] (Ab Wt):=⟨rfl,rfl,rfl,by decide +kernel,rfl,by decide +kernel,by decide +kernel⟩
include N T in
theorem cO:A_ P w K mg base Bf 3 fMu dMu ["organ","knobs"] (gG C):=by
 have GDc:A_ P w K mg base Bf 2 fDc dDc ["organ","knobs","word"] (Uw C):=RN N T
 have GOm:A_ P w K mg base Bf 2 fOm dOm ["self","knob"] (Qg C):=bI N T
 refine N.FMu.1.ok il (fun vs H Q E h=>?_) (fun cdv A outer s H vs Q E hr h=>?_)
 ·obtain ⟨x,c,sz,kbs,D,rfl,_⟩:=h
  rfl
 ·obtain ⟨x,c,sz,kbs,D,rfl,O,hkb,q⟩:=h
  have hrDc:BZ 2 _:=hr.mono (by decide)
  have hrOm:BZ 2 _:=hr.mono (by decide)
  refine ⟨_,(Ah (BL (Bl rfl (BX (osc:=Ab Wt) (N:=["organ","knobs"]) rfl rfl (by decide +kernel)) (Bj (Ai GDc hrDc rfl N.FDc.2.2 N.FDc.1.kp N.FDc.2.1 .nil Av (Aa (pv 0) (Aa (pv 1) (Aa Ba Ac))))) (fun _ _ _ _=>Bt) (fun _ _ _ _=>(Cv (pv 1) T.cl N.FOm.2.2 GOm hrOm N.FOm.2.1 .nil Av (Aa (pv 0) Ac)))))),?_⟩
  refine ⟨_,rfl,_,rfl,x,CK c sz,Ea c kbs,"mute",D,rfl,O,fun CL cl H1 hCL s1 hl1 hcl hcll=>?_⟩
  have hS1:Cg K H1 CL (nV cl):=.inl (.inl hl1)
  have O1:=O.mono s1
  let g:V->V:=fun v=>match v with | .int k=>.int (Hz kbs k.toNat:Nat) | _=>.non
  refine ⟨CL,rfl,⟨_,hS1⟩,Cd (K:=K) (xs:=nV cl) (fun _=>true) g hS1 (Aq (by rw [List.length_map]; omega)) (fun y hy H' hs R k=>k H' (Ak.refl H')) (fun y hy _ H' hs R k=>?_) (fun D2 H2 hD2 s2 hl2=>?_)⟩
  ·obtain ⟨i,hi,rfl⟩:=List.mem_map.mp hy
   obtain ⟨r,hr,hw,hd⟩:=(hcl i).mp hi
   obtain ⟨rs,er⟩:=P_ hr
   rw [er] at hr
   obtain ⟨z,hz,_⟩:=Fy hr
   have hb:=Rn hkb hz
   obtain ⟨⟨dx,fs,bl,bn,kp,kr,bvs,pvs,uvs,kvs,h1,l1,l2,l3,l4,lm,_⟩,_⟩:=id (O1.mono hs)
   have kk:=k H' (Ak.refl H')
   refine ⟨_,rfl,x,dx,fs,rfl,h1,lm _ (by decide +kernel),_,rfl,x,CK c sz,Ea c kbs,i,Hz kbs i,(c (Hz kbs i),sz[Hz kbs i]),_,_,rs,rfl,O1.mono hs,hr,Ez (List.getElem?_eq_getElem hb),kk⟩
  ·rw [List.filter_eq_self.mpr (fun _ _=>rfl)] at hl2
   have e:(nV cl).map g=nV (cl.map (Hz kbs)):=by
    unfold nV
    rw [List.map_map,List.map_map]
    rfl
   rw [e] at hl2
   refine q D2 _ H2 (s1.free hD2) (s1.trans s2) hl2 (fun b=>?_) (by rw [List.length_map]; exact hcll)
   rw [List.mem_map]
   constructor
   ·rintro ⟨k,hk,rfl⟩
    obtain ⟨r,hr,hw,hd⟩:=(hcl k).mp hk
    obtain ⟨z,hz,rfl⟩:=Fy hr
    exact ⟨k,z,hz,(JM _ _ _).symm.trans hw,hd,rfl⟩
   ·rintro ⟨k,z,hz,hw,hd,rfl⟩
    exact ⟨k,(hcl k).mpr ⟨_,Fz hz,(JM _ _ _).trans hw,hd⟩,rfl⟩
noncomputable def Yq (sz:List Nat) (i b:Nat):Prop:=∃ n,n<sz.getD b 0/\b<sz.length/\i=(sz.take b).sum+n
theorem UV {c:Nat->Str} {sz:List Nat} {i a n:Nat} (h:(E_ (CK c sz))[i]? = some (a,n)):Yq sz i a:=by
 obtain ⟨b,hb,hn,hi⟩:=VR h
 obtain ⟨z,hz,rfl⟩:=Qo hb
 rw [Cr] at hi
 refine ⟨n,?_,(List.getElem?_eq_some_iff.mp hz).1,hi⟩
 rw [List.getD_eq_getElem?_getD,hz]
 exact hn
theorem TV {sz:List Nat} {i a b:Nat} (h1:Yq sz i a) (h2:Yq sz i b):a=b:=by
 obtain ⟨n,hn,ha,rfl⟩:=h1
 obtain ⟨m,hm,hb,e⟩:=h2
 have key:∀ {a b n m:Nat},a<b->b<sz.length->n<sz.getD a 0->(sz.take a).sum+n ≠ (sz.take b).sum+m:=fun {a b n m} hab hb hn e=>by
  have h1:(sz.take (a+1)).sum<=(sz.take b).sum:=K8 sz (by omega)
  have ha:a<sz.length:=by omega
  rw [List.take_add_one,List.getElem?_eq_getElem ha,List.sum_append] at h1
  rw [List.getD_eq_getElem?_getD,List.getElem?_eq_getElem ha] at hn
  have hn':n<sz[a]:=hn
  simp at h1
  omega
 rcases Nat.lt_trichotomy a b with h | h | h
 ·exact absurd e (key h hb hn)
 ·exact h
 ·exact absurd e.symm (key h ha hm)
noncomputable def eF (C:Addr):Sp:=fun vs H Q _=>∃ (x:Addr) (c:Nat->Str) (sz:List Nat) (kbs:List Kb) (D n:Nat),vs=[.ref x,.int (D:Nat),.int (n:Nat)]/\DY C H x (CK c sz) (Ea c kbs)/\Ui sz.length kbs/\n<2 ^ 1200/\(∀ i,n.testBit i=true->i<sz.sum)/\sz.sum<=305 /\
 ∀ (m:Nat) H',Ak H H'->(∀ j,m.testBit j=true ↔ n.testBit j=true/\∀ b,Yq sz j b->¬ Ou kbs D b)->Q (.int (m:Nat)) H'
theorem dC:Ay ["organ","knobs","keys","muted"] ["organ","knobs","keys"] (Ab X5):=⟨rfl,rfl,rfl,by decide +kernel,rfl,by decide +kernel,by decide +kernel⟩
include N T in
theorem Zn:A_ P w K mg base Bf 4 fUk dUk ["organ","knobs","keys"] (eF C):=by
 have GMu:A_ P w K mg base Bf 3 fMu dMu ["organ","knobs"] (gG C):=cO N T
 have GMe:A_ P w K mg base Bf 2 fMe dMe ["some"] d_:=fV N T
 have GOo:A_ P w K mg base Bf 1 fOo dOo ["self","key"] (W0 C):=V4 N T
 have GSt:A_ P w K mg base Bf 3 fSt dSt ["numbers"] Rp:=Ru N T
 refine N.FUk.1.ok dC (fun vs H Q E h=>?_) (fun cdv A outer s H vs Q E hr h=>?_)
 ·obtain ⟨x,c,sz,kbs,D,n,rfl,_⟩:=h
  rfl
 ·obtain ⟨x,c,sz,kbs,D,n,rfl,O,hkb,hn,hnt,h305,q⟩:=h
  have hrMu:BZ 3 _:=hr.mono (by decide)
  have hrMe:BZ 2 _:=hr.mono (by decide)
  have hrOo:BZ 1 _:=hr.mono (by decide)
  have hrSt:BZ 3 _:=hr.mono (by decide)
  refine ⟨_,(Ae (Bq (i:=3) dC.nd rfl (Or.inr rfl) (Ai GMu hrMu rfl N.FMu.2.2 N.FMu.1.kp N.FMu.2.1 .nil Av (Aa (pv 0) (Aa (pv 1) Ac))))
   (Ah (BL (Ai GSt hrSt rfl N.FSt.2.2 N.FSt.1.kp N.FSt.2.1 .nil Av (Aa (Bl rfl (BX (osc:=Ab X5) (N:=["organ","knobs","keys","muted"]) rfl rfl (by decide +kernel)) (Bj (Ai GMe hrMe rfl N.FMe.2.2 N.FMe.1.kp N.FMe.2.1 .nil Av (Aa (pv 2) Ac))) (fun _ _ _ _=>(HY (Bc (KR (K:=K) rfl) (Ar (BJ (K:=K) rfl) (Cv (pv 1) T.cl N.FOo.2.2 GOo hrOo N.FOo.2.1 .nil Av (Aa (pv 0) Ac)) Ad (fun _ _=>rfl)) (pv 4) rfl))) (fun _ _ _ _=>(pv 0))) Ac))))),?_⟩
  refine ⟨_,rfl,_,rfl,x,c,sz,kbs,D,rfl,O,hkb,fun ML ml H1 hML s1 hl1 hml hmll=>?_⟩
  refine ⟨_,rfl,n,rfl,hn,fun P1 H2 hP1 s2 hl2=>?_⟩
  have hS2:Cg K H2 P1 (nV (Wd.mem n)):=.inl (.inl hl2)
  have O2:=O.mono (s1.trans s2)
  have hlen:=Wd.OJ hn
  have hml1:(Wd.mem n).length<=305:=by
   have nd:(Wd.mem n).Nodup:=by unfold Wd.mem; exact List.Pairwise.filter _ List.nodup_range
   refine Nat.le_trans (Km sz.sum nd fun i hi=>hnt i (Wd.mem_iff.mp hi)) h305
  have place:∀ {i},i∈Wd.mem n->∃ a m,(E_ (CK c sz))[i]? = some (a,m):=fun {i} hi=>by
   have hlt:i<(E_ (CK c sz)).length:=by rw [Ga,Cr]; exact hnt i (Wd.mem_iff.mp hi)
   exact ⟨_,_,List.getElem?_eq_getElem hlt⟩
  let p:V->Bool:=fun v=>match v with | .int i=>(match (E_ (CK c sz))[i.toNat]? with | some (a,_)=>!decide (a∈ml) | none=>true) | _=>true
  refine ⟨P1,rfl,⟨_,hS2⟩,Cd (K:=K) (xs:=nV (Wd.mem n)) p id hS2 (Aq (by rw [List.length_map]; omega)) (fun y hy H' hs R k=>?_) (fun y hy _ H' hs R k=>⟨_,rfl,k H' (Ak.refl H')⟩) (fun D3 H3 hD3 s3 hl3=>?_)⟩
  ·obtain ⟨i,hi,rfl⟩:=List.mem_map.mp hy
   obtain ⟨a,m,hpl⟩:=place hi
   have ep:p (V.int (i:Nat)) = !decide (a∈ml):=by
    show (match (E_ (CK c sz))[((i:Nat):Int).toNat]? with | some (a,_)=>!decide (a∈ml) | none=>true)=_
    rw [Int.toNat_natCast,hpl]
   have kk:=k H' (Ak.refl H')
   rw [ep] at kk
   obtain ⟨⟨dx,fs,bl,bn,kp,kr,bvs,pvs,uvs,kvs,h1,l1,l2,l3,l4,lm,_⟩,_⟩:=id (O2.mono hs)
   refine ⟨_,rfl,x,dx,fs,rfl,h1,lm _ (by decide +kernel),_,rfl,x,CK c sz,Ea c kbs,i,(a,m),rfl,O2.mono hs,hpl,fun yv hyv=>?_⟩
   obtain ⟨T0,rfl,hT⟩:=hyv
   refine ⟨T0,_,_,_,rfl,rfl,.inl (.inl hT),Ag (j:=0) rfl,_,rfl,ML,_,rfl,.inl (.inl (.inl (hs _ _ (s2 _ _ hl1)))),rfl,SM ml,_,rfl,?_⟩
   have ein:inV (V.int (a:Nat)) (nV ml)=decide (a∈ml):=Vn a ml
   rw [ein]
   exact kk
  ·rw [List.map_id] at hl3
   have e3:(nV (Wd.mem n)).filter p=nV ((Wd.mem n).filter fun i=>p (.int (i:Nat))):=by
    unfold nV
    rw [List.filter_map]
    rfl
   rw [e3] at hl3
   have hsub:∀ i∈(Wd.mem n).filter (fun i=>p (.int (i:Nat))),i<sz.sum:=fun i hi=>hnt i (Wd.mem_iff.mp (List.mem_filter.mp hi).1)
   refine ⟨D3,_,rfl,hl3,Nat.le_trans (List.length_filter_le _ _) (by omega),fun i hi=>by have:=hsub i hi; omega,fun H4 s4=>?_⟩
   refine q _ H4 (s1.trans (s2.trans (s3.trans s4))) fun j=>?_
   rw [Wd.Lk,decide_eq_true_eq,List.mem_filter,Wd.mem_iff]
   constructor
   ·rintro ⟨h1,h2⟩
    refine ⟨h1,fun b hb hm=>?_⟩
    obtain ⟨a,m,hpl⟩:=place (Wd.mem_iff.mpr h1)
    have ep:p (V.int (j:Nat)) = !decide (a∈ml):=by
     show (match (E_ (CK c sz))[((j:Nat):Int).toNat]? with | some (a,_)=>!decide (a∈ml) | none=>true)=_
     rw [Int.toNat_natCast,hpl]
    rw [ep] at h2
    have hba:=TV hb (UV hpl)
    subst hba
    rw [decide_eq_true ((hml b).mpr hm)] at h2
    cases h2
   ·rintro ⟨h1,h2⟩
    refine ⟨h1,?_⟩
    obtain ⟨a,m,hpl⟩:=place (Wd.mem_iff.mpr h1)
    have ep:p (V.int (j:Nat)) = !decide (a∈ml):=by
     show (match (E_ (CK c sz))[((j:Nat):Int).toNat]? with | some (a,_)=>!decide (a∈ml) | none=>true)=_
     rw [Int.toNat_natCast,hpl]
    rw [ep,decide_eq_false fun z=>h2 a (UV hpl) ((hml a).mp z)]
    rfl
noncomputable def YF (sz:List Nat) (b n:Nat):Nat:=Wd.mv n (-((sz.take b).sum:Int)) (sz.getD b 0)
theorem Tp (n:Nat) (k:Int) (c:Nat):Wd.mv n k c<2 ^ c:=by
 unfold Wd.mv
 exact Nat.mod_lt _ (Nat.two_pow_pos _)
noncomputable def dN (C:Addr):Sp:=fun vs H Q _=>∃ (x:Addr) (c:Nat->Str) (sz:List Nat) (ks:List R) (b n:Nat),vs=[.ref x,.int (b:Nat),.int (n:Nat)]/\DY C H x (CK c sz) ks/\b<sz.length/\n<2 ^ 1200/\∀ H',Ak H H'->Q (.int (YF sz b n:Nat)) H'
theorem Zi:Ay ["organ","board","keys","told"] ["organ","board","keys"] (Ab Y7):=⟨rfl,rfl,rfl,by decide +kernel,rfl,by decide +kernel,by decide +kernel⟩
include N T in
theorem Zz:A_ P w K mg base Bf 3 fNb dNb ["organ","board","keys"] (dN C):=by
 have GOb:A_ P w K mg base Bf 1 fOb dOb ["self"] (Wb C):=WY N T
 have GOk:A_ P w K mg base Bf 2 fOk dOk ["self","board","number"] (YH C):=WX N T
 have GSh:A_ P w K mg base Bf 1 fSh dSh ["some","steps","count"] Wg:=Vv N T
 refine N.FNb.1.ok Zi (fun vs H Q E h=>?_) (fun cdv A outer s H vs Q E hr h=>?_)
 ·obtain ⟨x,c,sz,ks,b,n,rfl,_⟩:=h
  rfl
 ·obtain ⟨x,c,sz,ks,b,n,rfl,O,hb,hn,q⟩:=h
  have hrOb:BZ 1 _:=hr.mono (by decide)
  have hrOk:BZ 2 _:=hr.mono (by decide)
  have hrSh:BZ 1 _:=hr.mono (by decide)
  refine ⟨_,(Ae (Bq (i:=3) Zi.nd rfl (Or.inl rfl) (Ar (Ey (K:=K) rfl) (Ew (pv 0) T.cl N.FOb.2.2 GOb hrOb N.FOb.2.1 .nil Av) (pv 1) (fun _ _=>rfl)))
   (Ah (BL (Ai GSh hrSh rfl N.FSh.2.2 N.FSh.1.kp N.FSh.2.1 .nil Av (Aa (pv 2) (Aa (Mh Jy (Cv (pv 0) T.cl N.FOk.2.2 GOk hrOk N.FOk.2.1 .nil Av (Aa (Ar (BJ (K:=K) rfl) (pv 3) Ad (fun _ _=>rfl)) (Aa Ad Ac)))) (Aa (Ar (BJ (K:=K) rfl) (pv 3) Ad (fun _ _=>rfl)) Ac))))))),?_⟩
  have h305:=K9 O
  rw [Cr] at h305
  have hst:(sz.take b).sum<=sz.sum:=by
   have:=congrArg List.sum (List.take_append_drop b sz)
   rw [List.sum_append] at this
   omega
  have hbs:(CK c sz)[b]? = some (c b,sz[b]):=Ez (List.getElem?_eq_getElem hb)
  have h61:=O.sz (c b,sz[b]) (List.mem_of_getElem? hbs)
  have h61':sz[b]<=61:=h61
  have esum:(((CK c sz).take b).map (·.2)).sum=(sz.take b).sum:=by rw [List.map_take,Cr]
  have egd:sz.getD b 0=sz[b]:=by rw [List.getD_eq_getElem?_getD,List.getElem?_eq_getElem hb]; rfl
  have meth:∀ {H':Hp},DY C H' x (CK c sz) ks->∃ dx fs,H' x=some (.ins C dx fs)/\∀ m∈meths,fs.lookup m=none:=fun O'=>by
   obtain ⟨⟨dx,fs,_,_,_,_,_,_,_,_,h1,_,_,_,_,lm,_⟩,_⟩:=O'
   exact ⟨dx,fs,h1,lm⟩
  obtain ⟨dx,fs,hx,lm⟩:=meth O
  refine ⟨_,rfl,x,dx,fs,rfl,hx,lm _ (by decide +kernel),x,CK c sz,ks,rfl,O,fun D bvs H2 hD s2 hl2 hb2=>?_⟩
  obtain ⟨v3,hv3,T3,rfl,ht3⟩:=Do hb2 hbs
  refine ⟨_,rfl,D,bvs,_,_,rfl,rfl,.inl (.inl hl2),Ag hv3,?_⟩
  obtain ⟨dx2,fs2,hx2,lm2⟩:=meth (O.mono s2)
  refine ⟨_,rfl,_,rfl,x,dx2,fs2,rfl,hx2,lm2 _ (by decide +kernel),_,rfl,T3,_,_,_,rfl,rfl,.inl (.inl ht3),Ag (j:=0) rfl,x,CK c sz,ks,b,(c b,sz[b]),0,rfl,O.mono s2,hbs,fun H3 s3=>?_⟩
  refine ⟨_,rfl,_,rfl,T3,_,_,_,rfl,rfl,.inl (.inl (s3 _ _ ht3)),Ag (j:=1) rfl,n,_,sz[b],rfl,hn,?_,?_,by omega,?_⟩
  ·rw [esum]
   omega
  ·rw [esum]
   omega
  ·have fin:=q H3 (s2.trans s3)
   unfold YF at fin
   rw [egd] at fin
   rw [esum,Int.add_zero]
   exact fin
noncomputable def gh (rk:List (Str × Nat × Int)) (r:Nat):Nat:=((rk.take r).map (fun r=>r.2.1)).sum
noncomputable def R4 (rk:List (Str × Nat × Int)) (r:Nat):Nat:=(rk.map (fun r=>r.2.1)).getD r 0
noncomputable def Y4 (rk:List (Str × Nat × Int)):Nat:=(rk.map (fun r=>r.2.1)).sum
structure jV (rk:List (Str × Nat × Int)) (l:Ln):Prop where
 r:l.r<rk.length
 lo:0<=l.lo
 le:l.lo<=l.hi
 hi:l.hi<=60
 s1 : -200<=l.sh
 s2:l.sh<=200
noncomputable def QQ (rk:List (Str × Nat × Int)) (l:Ln) (n:Nat):Nat:=Wd.mv (Wd.mv (Wd.mv n (-l.lo) (l.hi - l.lo+1).toNat) (l.lo+l.sh) (R4 rk l.r)) (gh rk l.r:Nat) (Y4 rk)
theorem Wx {rk:List (Str × Nat × Int)} {r:Nat} (h:r<rk.length):gh rk r+R4 rk r<=Y4 rk:=by
 unfold gh R4 Y4
 have e:((rk.map (fun r=>r.2.1)).take (r+1)).sum=((rk.take r).map (fun r=>r.2.1)).sum+(rk.map (fun r=>r.2.1)).getD r 0:=by
  rw [List.take_add_one,List.getElem?_eq_getElem (by rw [List.length_map]; exact h),List.sum_append,List.map_take,List.getD_eq_getElem?_getD,List.getElem?_eq_getElem (by rw [List.length_map]; exact h)]
  simp
 have:=congrArg List.sum (List.take_append_drop (r+1) (rk.map (fun r=>r.2.1)))
 rw [List.sum_append] at this
 omega
theorem Wa {rk:List (Str × Nat × Int)} (h1:rk.length<=12) (h2:∀ r∈rk,r.2.1<=97):Y4 rk<=1164:=by
 have h:=Lg (rk.map Xg) 97 fun b hb=>by
  obtain ⟨r,hr,rfl⟩:=List.mem_map.mp hb
  exact h2 r hr
 rw [Ga,List.map_map,List.length_map] at h
 have:rk.length * 97<=12 * 97:=Nat.mul_le_mul_right _ h1
 have e:Y4 rk=(rk.map ((·.2) ∘ Xg)).sum:=rfl
 omega
noncomputable def cz (C:Addr):Sp:=fun vs H Q _=>∃ (x:Addr) (bs:List (Str × Nat)) (rk:List (Str × Nat × Int)) (ks:List R) (ls:List (List Ln)) (y:V) (l:Ln) (n:Nat),vs=[.ref x,y,.int (n:Nat)]/\Dk C H x bs rk ks ls/\TupAt H (cF l) y/\jV rk l/\n<2 ^ 1200/\∀ H',Ak H H'->Q (.int (QQ rk l n:Nat)) H'
theorem Vp:Ay ["organ","line","numbers","rank","from_low","on_rank"] ["organ","line","numbers"] (Ab ZP):=⟨rfl,rfl,rfl,by decide +kernel,rfl,by decide +kernel,by decide +kernel⟩
include N T in
theorem bj:A_ P w K mg base Bf 3 fLl dLl ["organ","line","numbers"] (cz C):=by
 have GOr:A_ P w K mg base Bf 1 fOr dOr ["self"] (fu C):=gA N T
 have GSh:A_ P w K mg base Bf 1 fSh dSh ["some","steps","count"] Wg:=Vv N T
 have GOe:A_ P w K mg base Bf 2 fOe dOe ["self","rank","number"] (aF C):=gF N T
 have GOq:A_ P w K mg base Bf 1 fOq dOq ["self"] (dj C):=fO N T
 refine N.FLl.1.ok Vp (fun vs H Q E h=>?_) (fun cdv A outer s H vs Q E hr h=>?_)
 ·obtain ⟨x,bs,rk,ks,ls,y,l,n,rfl,_⟩:=h
  rfl
 ·obtain ⟨x,bs,rk,ks,ls,y,l,n,rfl,O,hy,hg,hn,q⟩:=h
  have hrOr:BZ 1 _:=hr.mono (by decide)
  have hrSh:BZ 1 _:=hr.mono (by decide)
  have hrOe:BZ 2 _:=hr.mono (by decide)
  have hrOq:BZ 1 _:=hr.mono (by decide)
  refine ⟨_,(Ae (Bq (i:=3) Vp.nd rfl (Or.inl rfl) (Ar (Ey (K:=K) rfl) (Ew (pv 0) T.cl N.FOr.2.2 GOr hrOr N.FOr.2.1 .nil Av) (Ar (BJ (K:=K) rfl) (pv 1) Ad (fun _ _=>rfl)) (fun _ _=>rfl)))
   (Ae (Bq (i:=4) Vp.nd rfl (Or.inl rfl) (Ai GSh hrSh rfl N.FSh.2.2 N.FSh.1.kp N.FSh.2.1 .nil Av (Aa (pv 2) (Aa (Mh Jy (Ar (BJ (K:=K) rfl) (pv 1) Ad (fun _ _=>rfl))) (Aa (BK Ca (BK Ec (Ar (BJ (K:=K) rfl) (pv 1) Ad (fun _ _=>rfl)) (Ar (BJ (K:=K) rfl) (pv 1) Ad (fun _ _=>rfl))) Ad) Ac)))))
   (Ae (Bq (i:=5) Vp.nd rfl (Or.inl rfl) (Ai GSh hrSh rfl N.FSh.2.2 N.FSh.1.kp N.FSh.2.1 .nil Av (Aa (pv 4) (Aa (BK Ca (Ar (BJ (K:=K) rfl) (pv 1) Ad (fun _ _=>rfl)) (Ar (BJ (K:=K) rfl) (pv 1) Ad (fun _ _=>rfl))) (Aa (Ar (BJ (K:=K) rfl) (pv 3) Ad (fun _ _=>rfl)) Ac)))))
   (Ah (BL (Ai GSh hrSh rfl N.FSh.2.2 N.FSh.1.kp N.FSh.2.1 .nil Av (Aa (pv 5) (Aa (Cv (pv 0) T.cl N.FOe.2.2 GOe hrOe N.FOe.2.1 .nil Av (Aa (Ar (BJ (K:=K) rfl) (pv 3) Ad (fun _ _=>rfl)) (Aa Ad Ac))) (Aa (Ew (pv 0) T.cl N.FOq.2.2 GOq hrOq N.FOq.2.1 .nil Av) Ac))))))))),?_⟩
  obtain ⟨T0,rfl,hT⟩:=hy
  have hto:=Wa O.nr O.nz
  have hlr:l.r<rk.length:=hg.r
  have hst:=Wx hlr
  have hrk:=List.getElem?_eq_getElem hlr
  have h97:rk[l.r].2.1<=97:=O.nz _ (List.getElem_mem hg.r)
  have esz:R4 rk l.r=rk[l.r].2.1:=by
   unfold R4
   rw [List.getD_eq_getElem?_getD,List.getElem?_map,hrk]
   rfl
  have etot:(E_ (rk.map Xg)).length=Y4 rk:=by
   rw [Ga,List.map_map]
   rfl
  have h1:=hg.lo
  have h2:=hg.le
  have h3:=hg.hi
  have h4:=hg.s1
  have h5:=hg.s2
  have meth:∀ {H':Hp},Dk C H' x bs rk ks ls->∃ dx fs,H' x=some (.ins C dx fs)/\∀ m∈meths,fs.lookup m=none:=fun O'=>by
   obtain ⟨⟨dx,fs,_,_,_,_,_,_,_,_,h1,_,_,_,_,lm,_⟩,_⟩:=O'.o
   exact ⟨dx,fs,h1,lm⟩
  obtain ⟨dx,fs,hx,lm⟩:=meth O
  refine ⟨_,rfl,x,dx,fs,rfl,hx,lm _ (by decide +kernel),x,bs,rk,ks,ls,rfl,O,fun D rvs H2 hD s2 hl2 hb2=>?_⟩
  have hT2:=s2 _ _ hT
  have hrk3:(rk.map RK)[l.r]? = some (RK rk[l.r]):=by rw [List.getElem?_map,hrk]; rfl
  obtain ⟨v3,hv3,T3,rfl,ht3⟩:=Do hb2 hrk3
  refine ⟨_,rfl,T0,_,_,_,rfl,rfl,.inl (.inl hT2),Ag (j:=0) rfl,D,rvs,_,_,rfl,rfl,.inl (.inl hl2),Ag hv3,?_⟩
  have e1:l.hi - l.lo+1=(((l.hi - l.lo+1).toNat:Nat):Int):=by omega
  refine ⟨_,rfl,_,rfl,T0,_,_,_,rfl,rfl,.inl (.inl hT2),Ag (j:=2) rfl,_,rfl,_,rfl,T0,_,_,_,rfl,rfl,.inl (.inl hT2),Ag (j:=3) rfl,_,rfl,T0,_,_,_,rfl,rfl,.inl (.inl hT2),Ag (j:=2) rfl,_,_,rfl,rfl,_,_,rfl,rfl,n,-l.lo,(l.hi - l.lo+1).toNat,(by rw [← e1] <;> rfl),hn,by omega,by omega,by omega,?_⟩
  have n1:=Tp n (-l.lo) (l.hi - l.lo+1).toNat
  generalize hn1:Wd.mv n (-l.lo) (l.hi - l.lo+1).toNat=a1 at n1 ⊢
  have n1':a1<2 ^ 1200:=Nat.lt_of_lt_of_le n1 (Nat.pow_le_pow_right (by decide) (by omega))
  refine ⟨_,rfl,_,rfl,T0,_,_,_,rfl,rfl,.inl (.inl hT2),Ag (j:=2) rfl,_,rfl,T0,_,_,_,rfl,rfl,.inl (.inl hT2),Ag (j:=1) rfl,_,_,rfl,rfl,_,rfl,T3,_,_,_,rfl,rfl,.inl (.inl ht3),Ag (j:=1) rfl,a1,l.lo+l.sh,rk[l.r].2.1,rfl,n1',by omega,by omega,by omega,?_⟩
  have n2:=Tp a1 (l.lo+l.sh) rk[l.r].2.1
  generalize hn2:Wd.mv a1 (l.lo+l.sh) rk[l.r].2.1=a2 at n2 ⊢
  have n2':a2<2 ^ 1200:=Nat.lt_of_lt_of_le n2 (Nat.pow_le_pow_right (by decide) (by omega))
  obtain ⟨dx2,fs2,hx2,lm2⟩:=meth (O.mono s2)
  refine ⟨_,rfl,_,rfl,x,dx2,fs2,rfl,hx2,lm2 _ (by decide +kernel),_,rfl,T3,_,_,_,rfl,rfl,.inl (.inl ht3),Ag (j:=0) rfl,x,bs,rk,ks,ls,l.r,rk[l.r],0,rfl,O.mono s2,hrk,fun H3 s3=>?_⟩
  obtain ⟨dx3,fs3,hx3,lm3⟩:=meth ((O.mono s2).mono s3)
  refine ⟨_,rfl,x,dx3,fs3,rfl,hx3,lm3 _ (by decide +kernel),x,bs,rk,ks,ls,rfl,(O.mono s2).mono s3,a2,_,(E_ (rk.map Xg)).length,rfl,n2',?_,?_,?_,?_⟩
  ·omega
  ·have:((rk.take l.r).map (fun r=>r.2.1)).sum=gh rk l.r:=rfl
   omega
  ·omega
  ·have fin:=q H3 (s2.trans s3)
   unfold QQ at fin
   rw [hn1,esz,hn2] at fin
   rw [etot,Int.add_zero]
   exact fin
noncomputable def gW (H:Hp):V->Ln
 | .ref T=>match H T with
  | some (.tup [.int r,.int sh,.int lo,.int hi])=>⟨r.toNat,sh,lo,hi⟩
  | _=>⟨0,0,0,0⟩
 | _=>⟨0,0,0,0⟩
theorem TQ {H:Hp} {l:Ln} {v:V} (h:TupAt H (cF l) v):gW H v=l:=by
 obtain ⟨T,rfl,e⟩:=h
 show (match H T with | some (.tup [.int r,.int sh,.int lo,.int hi])=>(⟨r.toNat,sh,lo,hi⟩:Ln) | _=>⟨0,0,0,0⟩)=l
 rw [e]
 show (⟨((l.r:Nat):Int).toNat,l.sh,l.lo,l.hi⟩:Ln)=l
 rw [Int.toNat_natCast]
theorem VF {H:Hp} {l:List Ln} {vs:List V} (h:Paired (fun x y=>TupAt H (cF x) y) l vs):vs.map (gW H)=l:=by
 induction h with
 | nil=>rfl
 | cons x y ih=>rw [List.map_cons,ih,TQ x]
noncomputable def Zg (sz:List Nat) (rk:List (Str × Nat × Int)) (b:Nat) (l:List Ln) (n:Nat):Nat:=Uc (l.map fun ln=>QQ rk ln (YF sz b n))
noncomputable def Z2 (C:Addr):Sp:=fun vs H Q _=>∃ (x:Addr) (c:Nat->Str) (sz:List Nat) (rk:List (Str × Nat × Int)) (kbs:List Kb) (ls:List (List Ln)) (k n:Nat) (z:Kb) (l:List Ln),vs=[.ref x,.int (k:Nat),.int (n:Nat)]/\Dk C H x (CK c sz) rk (Ea c kbs) ls/\Ui sz.length kbs/\kbs[k]? = some z/\ls[k]? = some l/\l.length<=100/\(∀ ln∈l,jV rk ln)/\n<2 ^ 1200/\∀ H',Ak H H'->Q (.int (Zg sz rk (Hz kbs k) l n:Nat)) H'
theorem Wq:Ay ["organ","knob","keys","stop","numbers"] ["organ","knob","keys"] (Ab YK):=⟨rfl,rfl,rfl,by decide +kernel,rfl,by decide +kernel,by decide +kernel⟩
include N T in
theorem cD:A_ P w K mg base Bf 4 fBs dBs ["organ","knob","keys"] (Z2 C):=by
 have GOs:A_ P w K mg base Bf 2 fOs dOs ["self","knob"] (ak C):=Zu N T
 have GNb:A_ P w K mg base Bf 3 fNb dNb ["organ","board","keys"] (dN C):=Zz N T
 have GLl:A_ P w K mg base Bf 3 fLl dLl ["organ","line","numbers"] (cz C):=bj N T
 have GUn:A_ P w K mg base Bf 1 fUn dUn ["sets"] U_:=Sw N T
 refine N.FBs.1.ok Wq (fun vs H Q E h=>?_) (fun cdv A outer s H vs Q E hr h=>?_)
 ·obtain ⟨x,c,sz,rk,kbs,ls,k,n,z,l,rfl,_⟩:=h
  rfl
 ·obtain ⟨x,c,sz,rk,kbs,ls,k,n,z,l,rfl,O,hkb,hz,hl,hl100,hg,hn,q⟩:=h
  have hrOs:BZ 2 _:=hr.mono (by decide)
  have hrNb:BZ 3 _:=hr.mono (by decide)
  have hrLl:BZ 3 _:=hr.mono (by decide)
  have hrUn:BZ 1 _:=hr.mono (by decide)
  refine ⟨_,(Ae (Bq (i:=3) Wq.nd rfl (Or.inl rfl) (Cv (pv 0) T.cl N.FOs.2.2 GOs hrOs N.FOs.2.1 .nil Av (Aa (pv 1) Ac)))
   (Ae (Bq (i:=4) Wq.nd rfl (Or.inr rfl) (Ai GNb hrNb rfl N.FNb.2.2 N.FNb.1.kp N.FNb.2.1 .nil Av (Aa (pv 0) (Aa (Ar (BJ (K:=K) rfl) (pv 3) Ad (fun _ _=>rfl)) (Aa (pv 2) Ac)))))
   (Ah (BL (Ai GUn hrUn rfl N.FUn.2.2 N.FUn.1.kp N.FUn.2.1 .nil Av (Aa (Bl rfl (BX (osc:=Ab YK) (N:=["organ","knob","keys","stop","numbers"]) rfl rfl (by decide +kernel)) (Bj (Ar (BJ (K:=K) rfl) (pv 3) Ad (fun _ _=>rfl))) (fun _ _ _ _=>Bt) (fun _ _ _ _=>(Ai GLl hrLl rfl N.FLl.2.2 N.FLl.1.kp N.FLl.2.1 .nil Av (Aa (pv 1) (Aa (pv 0) (Aa (pv 5) Ac)))))) Ac)))))),?_⟩
  have hr:=Fz (c:=c) hz
  obtain ⟨rs,er⟩:=P_ hr
  rw [er] at hr
  have hb:=Rn hkb hz
  have hbs:(CK c sz)[Hz kbs k]? = some (c (Hz kbs k),sz[Hz kbs k]):=Ez (List.getElem?_eq_getElem hb)
  have meth:∀ {H':Hp},Dk C H' x (CK c sz) rk (Ea c kbs) ls->∃ dx fs,H' x=some (.ins C dx fs)/\∀ m∈meths,fs.lookup m=none:=fun O'=>by
   obtain ⟨⟨dx,fs,_,_,_,_,_,_,_,_,h1,_,_,_,_,lm,_⟩,_⟩:=O'.o
   exact ⟨dx,fs,h1,lm⟩
  obtain ⟨dx,fs,hx,lm⟩:=meth O
  refine ⟨_,rfl,x,dx,fs,rfl,hx,lm _ (by decide +kernel),_,rfl,x,CK c sz,rk,Ea c kbs,ls,k,Hz kbs k,(c (Hz kbs k),sz[Hz kbs k]),_,_,rs,l,rfl,O,hr,hbs,hl,fun T0 L0 ts H1 s1 hT0 hL0 htp=>?_⟩
  have O1:=O.mono s1
  refine ⟨_,rfl,_,rfl,T0,_,_,_,rfl,rfl,.inl (.inl hT0),Ag (j:=0) rfl,_,rfl,x,c,sz,Ea c kbs,Hz kbs k,n,rfl,O1.o,hb,hn,fun H2 s2=>?_⟩
  have O2:=O1.mono s2
  have nlt:=Tp n (-((sz.take (Hz kbs k)).sum:Int)) (sz.getD (Hz kbs k) 0)
  have h61:sz.getD (Hz kbs k) 0<=61:=by
   rw [List.getD_eq_getElem?_getD,List.getElem?_eq_getElem hb]
   exact O.o.sz _ (List.mem_of_getElem? hbs)
  have nlt':YF sz (Hz kbs k) n<2 ^ 1200:=Nat.lt_of_lt_of_le nlt (Nat.pow_le_pow_right (by decide) (by omega))
  have hL2:=s2 _ _ hL0
  have htp2:=Am s2 htp
  have hlt:=htp2.length
  have hS2:Cg K H2 L0 ts:=.inl (.inl hL2)
  refine ⟨_,rfl,T0,_,_,_,rfl,rfl,.inl (.inl (s2 _ _ hT0)),Ag (j:=1) rfl,L0,rfl,⟨_,hS2⟩,Cd (K:=K) (xs:=ts) (fun _=>true) (fun v=>.int (QQ rk (gW H2 v) (YF sz (Hz kbs k) n):Nat)) hS2 (Aq (by omega)) (fun y hy H' hs R k=>k H' (Ak.refl H')) (fun y hy _ H' hs R k'=>?_) (fun D3 H3 hD3 s3 hl3=>?_)⟩
  ·obtain ⟨ln,hln,hyt⟩:=Ci htp2 hy
   have e:=TQ hyt
   rw [e] at k'
   exact ⟨_,rfl,_,rfl,_,rfl,x,CK c sz,rk,Ea c kbs,ls,y,ln,_,rfl,O2.mono hs,hyt.mono hs,hg ln hln,nlt',fun H4 s4=>k' H4 s4⟩
  ·rw [List.filter_eq_self.mpr (fun _ _=>rfl)] at hl3
   have e3:(ts.map fun v=>V.int (QQ rk (gW H2 v) (YF sz (Hz kbs k) n):Nat))=nV (l.map fun ln=>QQ rk ln (YF sz (Hz kbs k) n)):=by
    rw [← VF htp2]
    unfold nV
    rw [List.map_map,List.map_map]
    rfl
   rw [e3] at hl3
   exact ⟨D3,_,rfl,hl3,(by rw [List.length_map]; omega),q H3 (s1.trans (s2.trans s3))⟩
noncomputable def iW (sz:List Nat) (rk:List (Str × Nat × Int)) (kbs:List Kb) (ls:List (List Ln)) (cl:List Nat) (n:Nat):Nat:=Uc (cl.map fun k=>Zg sz rk (Hz kbs k) (ls.getD k []) n)
noncomputable abbrev gm (rk:List (Str × Nat × Int)) (ls:List (List Ln)):Prop:=∀ l∈ls,l.length<=100/\∀ ln∈l,jV rk ln
noncomputable def dD (C:Addr):Sp:=fun vs H Q _=>∃ (x:Addr) (c:Nat->Str) (sz:List Nat) (rk:List (Str × Nat × Int)) (kbs:List Kb) (ls:List (List Ln)) (D n:Nat),vs=[.ref x,.int (D:Nat),.int (n:Nat)]/\Dk C H x (CK c sz) rk (Ea c kbs) ls/\Ui sz.length kbs/\gm rk ls/\n<2 ^ 1200 /\
 ∀ (cl:List Nat) H',Ak H H'->(∀ k,k∈cl ↔ ∃ z,kbs[k]? = some z/\z.w = "stop" /\ D.testBit k=true)->Q (.int (iW sz rk kbs ls cl n:Nat)) H'
theorem iM:Ay ["organ","knobs","keys"] ["organ","knobs","keys"] (Ab XR):=⟨rfl,rfl,rfl,by decide +kernel,rfl,by decide +kernel,by decide +kernel⟩
include N T in
theorem fJ:A_ P w K mg base Bf 5 fBa dBa ["organ","knobs","keys"] (dD C):=by
 have GDc:A_ P w K mg base Bf 2 fDc dDc ["organ","knobs","word"] (Uw C):=RN N T
 have GBs:A_ P w K mg base Bf 4 fBs dBs ["organ","knob","keys"] (Z2 C):=cD N T
 have GUn:A_ P w K mg base Bf 1 fUn dUn ["sets"] U_:=Sw N T
 refine N.FBa.1.ok iM (fun vs H Q E h=>?_) (fun cdv A outer s H vs Q E hr h=>?_)
 ·obtain ⟨x,c,sz,rk,kbs,ls,D,n,rfl,_⟩:=h
  rfl
 ·obtain ⟨x,c,sz,rk,kbs,ls,D,n,rfl,O,hkb,hls,hn,q⟩:=h
  have hrDc:BZ 2 _:=hr.mono (by decide)
  have hrBs:BZ 4 _:=hr.mono (by decide)
  have hrUn:BZ 1 _:=hr.mono (by decide)
  refine ⟨_,(Ah (BL (Ai GUn hrUn rfl N.FUn.2.2 N.FUn.1.kp N.FUn.2.1 .nil Av (Aa (Bl rfl (BX (osc:=Ab XR) (N:=["organ","knobs","keys"]) rfl rfl (by decide +kernel)) (Bj (Ai GDc hrDc rfl N.FDc.2.2 N.FDc.1.kp N.FDc.2.1 .nil Av (Aa (pv 0) (Aa (pv 1) (Aa Ba Ac))))) (fun _ _ _ _=>Bt) (fun _ _ _ _=>(Ai GBs hrBs rfl N.FBs.2.2 N.FBs.1.kp N.FBs.2.1 .nil Av (Aa (pv 1) (Aa (pv 0) (Aa (pv 3) Ac)))))) Ac)))),?_⟩
  refine ⟨_,rfl,_,rfl,x,CK c sz,Ea c kbs,"stop",D,rfl,O.o,fun CL cl H1 hCL s1 hl1 hcl0 hcll=>?_⟩
  have hcl:∀ k,k∈cl ↔ ∃ z,kbs[k]? = some z/\z.w = "stop" /\ D.testBit k=true:=fun k=>by
   rw [hcl0]
   constructor
   ·rintro ⟨r,hr,hw,hd⟩
    obtain ⟨z,hz,rfl⟩:=Fy hr
    exact ⟨z,hz,(JM _ _ _).symm.trans hw,hd⟩
   ·rintro ⟨z,hz,hw,hd⟩
    exact ⟨_,Fz hz,(JM _ _ _).trans hw,hd⟩
  have hS1:Cg K H1 CL (nV cl):=.inl (.inl hl1)
  have O1:=O.mono s1
  let g:V->V:=fun v=>match v with | .int k=>.int (Zg sz rk (Hz kbs k.toNat) (ls.getD k.toNat []) n:Nat) | _=>.non
  refine ⟨CL,rfl,⟨_,hS1⟩,Cd (K:=K) (xs:=nV cl) (fun _=>true) g hS1 (Aq (by rw [List.length_map]; omega)) (fun y hy H' hs R k=>k H' (Ak.refl H')) (fun y hy _ H' hs R k=>?_) (fun D2 H2 hD2 s2 hl2=>?_)⟩
  ·obtain ⟨i,hi,rfl⟩:=List.mem_map.mp hy
   obtain ⟨z,hz,hw,hd⟩:=(hcl i).mp hi
   have hik:i<ls.length:=by
    rw [O.nl,RL]
    exact (List.getElem?_eq_some_iff.mp hz).1
   have hli:=List.getElem?_eq_getElem hik
   have egd:ls.getD i []=ls[i]:=by rw [List.getD_eq_getElem?_getD,hli]; rfl
   have hg:=hls ls[i] (List.getElem_mem hik)
   refine ⟨_,rfl,_,rfl,_,rfl,x,c,sz,rk,kbs,ls,i,n,z,ls[i],rfl,O1.mono hs,hkb,hz,hli,hg.1,hg.2,hn,fun H4 s4=>?_⟩
   have kk:R (.int (Zg sz rk (Hz kbs i) (ls.getD i []) n:Nat)) H4:=k H4 s4
   rw [egd] at kk
   exact kk
  ·rw [List.filter_eq_self.mpr (fun _ _=>rfl)] at hl2
   have e:(nV cl).map g=nV (cl.map fun k=>Zg sz rk (Hz kbs k) (ls.getD k []) n):=by
    unfold nV
    rw [List.map_map,List.map_map]
    rfl
   rw [e] at hl2
   exact ⟨D2,_,rfl,hl2,(by rw [List.length_map]; omega),q cl H2 (s1.trans s2) hcl⟩
noncomputable def oN:Option Nat->V
 | some j=>.int (j:Nat)
 | none=>.non
noncomputable def gk (c:Nat->Str) (sz:List Nat) (kbs:List Kb) (i k:Nat):Option Nat:=(kbs[k]?).bind fun z=>gl (CK c sz) z i
noncomputable def aU:V->Bool
 | .non=>false
 | _=>true
theorem Ko (g:Nat->Option Nat):∀ cl:List Nat,(cl.map fun k=>oN (g k)).filter aU=nV (cl.filterMap g)
 | []=>rfl
 | k::cl=>by
  have ih:=Ko g cl
  rw [List.map_cons,List.filter_cons,List.filterMap_cons]
  cases e:g k with
  | none=>exact ih
  | some j =>
   show V.int (j:Nat)::_=nV (j::_)
   rw [ih]
   rfl
noncomputable def aV (C:Addr):Sp:=fun vs H Q _=>∃ (x p:Addr) (c:Nat->Str) (sz:List Nat) (kbs:List Kb) (cl:List Nat) (i:Nat),vs=[.ref x,.ref p,.int (i:Nat)]/\DY C H x (CK c sz) (Ea c kbs)/\Ui sz.length kbs/\H p=some (.lst (nV cl))/\(∀ k∈cl,∃ z,kbs[k]? = some z/\TJ z=true)/\cl.length<=200/\i<sz.sum/\sz.sum<=305 /\
 ∀ H',Ak H H'->Q (.int (Wd.mk (cl.filterMap (gk c sz kbs i)):Nat)) H'
theorem fH {c:Nat->Str} {sz:List Nat} {kbs:List Kb} {i:Nat} {cl:List Nat}:∀ j∈cl.filterMap (gk c sz kbs i),j<sz.sum:=fun j hj=>by
 obtain ⟨k0,_,e⟩:=List.mem_filterMap.mp hj
 unfold gk at e
 obtain ⟨z,_,e⟩:=Option.bind_eq_some_iff.mp e
 have:=Py e
 rw [Cr] at this
 exact this
theorem fC:Ay ["organ","couplers","key","led"] ["organ","couplers","key"] (Ab Vy):=⟨rfl,rfl,rfl,by decide +kernel,rfl,by decide +kernel,by decide +kernel⟩
include N T in
theorem au:A_ P w K mg base Bf 4 fLp dLp ["organ","couplers","key"] (aV C):=by
 have GLe:A_ P w K mg base Bf 3 fLe dLe ["organ","knob","key"] (bO C):=gM N T
 have GSt:A_ P w K mg base Bf 3 fSt dSt ["numbers"] Rp:=Ru N T
 refine N.FLp.1.ok fC (fun vs H Q E h=>?_) (fun cdv A outer s H vs Q E hr h=>?_)
 ·obtain ⟨x,p,c,sz,kbs,cl,i,rfl,_⟩:=h
  rfl
 ·obtain ⟨x,p,c,sz,kbs,cl,i,rfl,O,hkb,hp,hcl,hcll,hi,h305,q⟩:=h
  have hrLe:BZ 3 _:=hr.mono (by decide)
  have hrSt:BZ 3 _:=hr.mono (by decide)
  refine ⟨_,(Ae (Jh (i:=3) fC.nd rfl rfl rfl (BX (osc:=Ab Vy) (N:=["organ","couplers","key","led"]) rfl rfl (by decide +kernel)) (Bj (pv 1)) (fun _ _ _ _=>Bt) (fun _ _ _ _=>(Ai GLe hrLe rfl N.FLe.2.2 N.FLe.1.kp N.FLe.2.1 .nil Av (Aa (pv 1) (Aa (pv 0) (Aa (pv 3) Ac))))))
   (Ah (BL (Ai GSt hrSt rfl N.FSt.2.2 N.FSt.1.kp N.FSt.2.1 .nil Av (Aa (Bl rfl (BX (osc:=Ab Vy) (N:=["organ","couplers","key","led"]) rfl rfl (by decide +kernel)) (Bj (pv 3)) (fun _ _ _ _=>(HY (Bc Ul (pv 0) Oi (Bm _)))) (fun _ _ _ _=>(pv 0))) Ac))))),?_⟩
  have hS:Cg K H p (nV cl):=.inl (.inl hp)
  obtain ⟨qd,hq⟩:∃ qd,(E_ (CK c sz))[i]? = some qd:=by
   have hlt:i<(E_ (CK c sz)).length:=by rw [Ga,Cr]; exact hi
   exact ⟨_,List.getElem?_eq_getElem hlt⟩
  let f:V->V:=fun v=>match v with | .int k=>oN (gk c sz kbs i k.toNat) | _=>.non
  refine ⟨_,rfl,p,rfl,⟨_,hS⟩,Cd (K:=K) (xs:=nV cl) (fun _=>true) f hS (Aq (by rw [List.length_map]; omega)) (fun y hy H' hs R k=>k H' (Ak.refl H')) (fun y hy _ H' hs R k=>?_) (fun D3 H3 hD3 s3 hl3=>?_)⟩
  ·obtain ⟨k0,hk0,rfl⟩:=List.mem_map.mp hy
   obtain ⟨z,hz,hc⟩:=hcl k0 hk0
   obtain ⟨j1,j2,s,rfl⟩:=Vg (hkb.ok z (List.mem_of_getElem? hz)) hc
   obtain ⟨o1,o2,_⟩:=hkb.ok _ (List.mem_of_getElem? hz)
   obtain ⟨z1,hz1⟩:∃ z1,sz[j1]? = some z1:=⟨_,List.getElem?_eq_getElem o1⟩
   obtain ⟨z2,hz2⟩:∃ z2,sz[j2]? = some z2:=⟨_,List.getElem?_eq_getElem o2⟩
   have ef:f (V.int (k0:Nat))=oN (gl (CK c sz) (.cp j1 j2 s) i):=by
    show oN (gk c sz kbs i ((k0:Nat):Int).toNat)=_
    unfold gk
    rw [Int.toNat_natCast,hz]
    rfl
   refine ⟨_,rfl,_,rfl,_,rfl,x,CK c sz,Ea c kbs,k0,i,j1,j2,(c j1,z1),(c j2,z2),qd,_,s,rfl,O.mono hs,hq,Fz hz,Ez hz1,Ez hz2,fun H4 s4=>?_⟩
   have kk:=k H4 s4
   rw [ef] at kk
   rcases Tj (j1:=j1) (s:=s) hq (Ez (c:=c) hz2) with ⟨e1,e2⟩ | ⟨j,e1,e2,_⟩
   ·rw [e2] at kk
    rw [e1]
    exact kk
   ·rw [e2] at kk
    rw [e1]
    exact kk
  have hl3':H3 D3=some (.lst (cl.map fun k=>oN (gk c sz kbs i k))):=by
   rw [hl3,List.filter_eq_self.mpr (fun _ _=>rfl)]
   unfold nV
   rw [List.map_map]
   rfl
  have hS3:Cg K H3 D3 (cl.map fun k=>oN (gk c sz kbs i k)):=.inl (.inl hl3')
  refine ⟨_,rfl,D3,rfl,⟨_,hS3⟩,Cd (K:=K) (xs:=cl.map fun k=>oN (gk c sz kbs i k)) aU id hS3 (Aq (by rw [List.length_map]; omega)) (fun y hy H' hs R k=>?_) (fun y hy _ H' hs R k=>⟨_,rfl,k H' (Ak.refl H')⟩) (fun D4 H4 hD4 s4 hl4=>?_)⟩
  ·obtain ⟨k0,hk0,rfl⟩:=List.mem_map.mp hy
   have kk:=k H' (Ak.refl H')
   cases e:gk c sz kbs i k0 with
   | none =>
    rw [e] at kk
    exact ⟨_,rfl,rfl,_,rfl,kk⟩
   | some j =>
    rw [e] at kk
    exact ⟨_,rfl,rfl,_,rfl,kk⟩
  rw [List.map_id,Ko] at hl4
  exact ⟨D4,cl.filterMap (gk c sz kbs i),rfl,hl4,Nat.le_trans (List.length_filterMap_le _ _) (by omega),fun j hj=>by have:=fH j hj; omega,fun H5 s5=>q H5 (s3.trans (s4.trans s5))⟩
theorem Iu {l:List Nat} {i:Nat} (h:i<l.length):Ly (nV l) (i:Int)=some (.int ((l.getD i 0:Nat):Int)):=by
 refine Ag (j:=i) ?_
 unfold nV
 rw [List.getElem?_map,List.getD_eq_getElem?_getD,List.getElem?_eq_getElem h]
 rfl
theorem YX (l:List Nat) (m x:Nat):(nV l).set m (.int (x:Nat))=nV (l.set m x):=by
 unfold nV
 rw [List.map_set]
theorem QJ {l:List Nat} {m x:Nat} (h:m<l.length) (i:Nat):(l.set m x).getD i 0=if i=m then x else l.getD i 0:=by
 rw [List.getD_eq_getElem?_getD,List.getD_eq_getElem?_getD,List.getElem?_set]
 by_cases e:i=m
 ·subst e
  rw [if_pos rfl,if_pos rfl,if_pos h]
  rfl
 ·rw [if_neg (Ne.symm e),if_neg e]
noncomputable abbrev st0 (l0:List Nat) (a b:Nat):Prop:=(l0.getD a 0).testBit b=true
noncomputable def cC:Sp:=fun vs H Q _=>∃ (p:Addr) (l0:List Nat),vs=[.ref p]/\H p=some (.lst (nV l0))/\l0.length<=305/\∀ D (l:List Nat) H',H D=none->Ak H H'->H' D=some (.lst (nV l))->l.length=l0.length->(∀ i,i<l0.length->∀ j,(l.getD i 0).testBit j=true ↔ Ww (st0 l0) l0.length i j)->Q (.ref D) H'
theorem Uo:Ay ["one_step","led","way","key"] ["one_step"] (Ab Ys):=⟨rfl,rfl,rfl,by decide +kernel,rfl,by decide +kernel,by decide +kernel⟩
include N T in
theorem Zo:A_ P w K mg base Bf 2 fLq dLq ["one_step"] cC:=by
 have GHa:A_ P w K mg base Bf 1 fHa dHa ["some","number"] R0:=Pq N T
 refine N.FLq.1.ok Uo (fun vs H Q E h=>?_) (fun cdv A outer s H vs Q E hr h=>?_)
 ·obtain ⟨p,l0,rfl,_⟩:=h
  rfl
 ·obtain ⟨p,l0,rfl,hp,h305,q⟩:=h
  have hrHa:BZ 1 _:=hr.mono (by decide)
  refine ⟨_,(Ae (Bq (i:=1) Uo.nd rfl (Or.inl rfl) (Et Du rfl T.list PyProof.Rows.boot_list (Aa (pv 0) Ac)))
   (Ae (Cp PassesOwn.never rfl (Bs rfl T.range (Aa (BR BV rfl T.len PySem.boot_len (Aa (pv 0) Ac)) Ac)) (Bp (i:=2) Uo.nd rfl (Or.inl rfl)) (Ah (Cp PassesOwn.never rfl (Bs rfl T.range (Aa (BR BV rfl T.len PySem.boot_len (Aa (pv 0) Ac)) Ac)) (Bp (i:=3) Uo.nd rfl (Or.inl rfl)) (Ah (Ce (FN (Ai GHa hrHa rfl N.FHa.2.2 N.FHa.1.kp N.FHa.2.1 .nil Av (Aa (Ar Bb (pv 1) (pv 3) (fun _ _=>rfl)) (Aa (pv 2) Ac)))) (Ah (Vo (pv 1) (pv 3) (BK Kl (Ar Bb (pv 1) (pv 3) (fun _ _=>rfl)) (Ar Bb (pv 1) (pv 2) (fun _ _=>rfl))) rfl)) Bh)))))
   (Ah (BL (pv 1))))),?_⟩
  have hS:Cg K H p (nV l0):=.inl (.inl hp)
  refine ⟨_,rfl,p,_,rfl,.inl hS,fun D hD=>?_⟩
  have s1:=An (o:=HO.lst (nV l0)) hD
  have a1:upd H D (HO.lst (nV l0)) D=some (.lst (nV l0)):=Af
  generalize upd H D (HO.lst (nV l0))=H1 at s1 a1 ⊢
  have hn:(nV l0).length=l0.length:=by unfold nV; exact List.length_map ..
  have hnt:(((nV l0).length:Nat):Int).toNat=l0.length:=by rw [Int.toNat_natCast,hn]
  refine ⟨_,rfl,p,_,rfl,.inl (s1.seq hS),_,rfl,by omega,by omega,?_⟩
  rw [hnt]
  refine Dq (lo:=0) (n:=l0.length) (fun w σ H4=>∃ (l:List Nat) (v2 v3:Option V),σ=[some (.ref p),some (.ref D),v2,v3]/\H4 D=some (.lst (nV l))/\l.length=l0.length/\Ak H H4/\∀ i,i<l0.length->∀ j,(l.getD i 0).testBit j=true ↔ Ww (st0 l0) w i j) ⟨l0,_,_,rfl,a1,rfl,s1,fun i hi j=>Iff.rfl⟩ ?_ ?_
  ·rintro w σ H4 hw ⟨l,v2,v3,rfl,a4,ln,s4,inv⟩
   have et:((0:Int)+(w:Int))=((w:Nat):Int):=by omega
   rw [et]
   refine ⟨_,rfl,p,_,rfl,.inl (s4.seq hS),_,rfl,by omega,by omega,?_⟩
   rw [hnt]
   refine Dq (lo:=0) (n:=l0.length) (fun m σ H5=>∃ (l:List Nat) (v3:Option V),σ=[some (.ref p),some (.ref D),some (.int (w:Nat)),v3]/\H5 D=some (.lst (nV l))/\l.length=l0.length/\Ak H H5/\∀ i,i<l0.length->∀ j,(l.getD i 0).testBit j=true ↔ (if i<m then Ww (st0 l0) (w+1) i j else Ww (st0 l0) w i j)) ⟨l,_,rfl,a4,ln,s4,fun i hi j=>by rw [if_neg (Nat.not_lt_zero _)]; exact inv i hi j⟩ ?_ ?_
   ·rintro m σ H5 hm ⟨l,v3,rfl,a5,ln,s5,inv⟩
    have et:((0:Int)+(m:Int))=((m:Nat):Int):=by omega
    rw [et]
    have lv:(nV l).length=l0.length:=by unfold nV; rw [List.length_map]; exact ln
    have hatm:=Iu (l:=l) (i:=m) (by omega)
    have hatw:=Iu (l:=l) (i:=w) (by omega)
    refine ⟨_,rfl,_,rfl,D,_,_,_,rfl,rfl,.inl (.inl a5),hatm,_,rfl,l.getD m 0,(w:Nat),rfl,_,rfl,?_⟩
    have eb:(decide ((0:Int)<=((w:Nat):Int)) && (l.getD m 0).testBit ((w:Nat):Int).toNat)=(l.getD m 0).testBit w:=by
     rw [decide_eq_true (by omega),Bool.true_and,Int.toNat_natCast]
    rw [eb]
    have bm:∀ j,(l.getD m 0).testBit j=true ↔ Ww (st0 l0) w m j:=fun j=>by
     have:=inv m hm j
     rw [if_neg (Nat.lt_irrefl _)] at this
     exact this
    have bw:∀ j,(l.getD w 0).testBit j=true ↔ Ww (st0 l0) w w j:=fun j=>by
     have:=inv w hw j
     by_cases e:w<m
     ·rw [if_pos e] at this
      exact this.trans Ww.to
     ·rw [if_neg e] at this
      exact this
    refine B_ (fun hb=>?_) (fun hb=>?_)
    ·have hmw:=(bm w).mp hb
     refine ⟨_,rfl,_,rfl,D,_,_,_,rfl,rfl,.inl (.inl a5),hatm,_,rfl,_,rfl,D,_,_,_,rfl,rfl,.inl (.inl a5),hatw,_,_,rfl,rfl,_,rfl,_,rfl,D,nV l,(m:Nat),rfl,rfl,a5,by omega,by omega,by omega,?_⟩
     dsimp only
     rw [GJ,Int.toNat_natCast,YX]
     refine ⟨_,_,rfl,Af,by rw [List.length_set]; exact ln,fun b u e=>by rw [Al (Aj e hD)]; exact s5 b u e,fun i hi j=>?_⟩
     rw [QJ (by omega)]
     by_cases e:i=m
     ·subst e
      rw [if_pos rfl,if_pos (Nat.lt_succ_self _),Nat.testBit_or,Bool.or_eq_true,bm,bw]
      exact ⟨fun z=>z.elim .inl fun z=>.inr ⟨hmw,z⟩,fun z=>z.elim .inl fun z=>.inr z.2⟩
     ·rw [if_neg e,inv i hi j]
      by_cases e2:i<m
      ·rw [if_pos e2,if_pos (by omega)]
      ·rw [if_neg e2,if_neg (by omega)]
    ·refine ⟨l,_,rfl,a5,ln,s5,fun i hi j=>?_⟩
     rw [inv i hi j]
     by_cases e:i=m
     ·subst e
      rw [if_neg (Nat.lt_irrefl _),if_pos (Nat.lt_succ_self _)]
      exact ⟨.inl,fun z=>z.elim id fun z=>absurd ((bm w).mpr z.1) hb⟩
     ·by_cases e2:i<m
      ·rw [if_pos e2,if_pos (by omega)]
      ·rw [if_neg e2,if_neg (by omega)]
   ·rintro σ H5 ⟨l,v3,rfl,a5,ln,s5,inv⟩
    exact ⟨l,_,_,rfl,a5,ln,s5,fun i hi j=>by rw [inv i hi j,if_pos hi]⟩
  ·rintro σ H4 ⟨l,v2,v3,rfl,a4,ln,s4,inv⟩
   exact ⟨_,rfl,q D l H4 hD s4 a4 ln inv⟩
theorem X7 {bs:List (Str × Nat)} {z:Kb} {i j:Nat} (h:gl bs z i=some j):i<(E_ bs).length:=by
 refine Classical.byContradiction fun hn=>?_
 have e:(E_ bs)[i]? = none:=List.getElem?_eq_none (by omega)
 cases z with
 | cp a b s =>
  simp only [gl,e] at h
  cases h
 | pl w a=>cases h
noncomputable def os0 (c:Nat->Str) (sz:List Nat) (kbs:List Kb) (cl:List Nat):List Nat:=(List.range sz.sum).map fun i=>Wd.mk (cl.filterMap (gk c sz kbs i))
theorem Io {c:Nat->Str} {sz:List Nat} {kbs:List Kb} {cl:List Nat}:(os0 c sz kbs cl).length=sz.sum:=by
 unfold os0
 rw [List.length_map,List.length_range]
theorem Uk {c:Nat->Str} {sz:List Nat} {kbs:List Kb} {cl:List Nat} {D:Nat} (hcl:∀ k,k∈cl ↔ ∃ z,kbs[k]? = some z/\TJ z=true/\D.testBit k=true) (a b:Nat):st0 (os0 c sz kbs cl) a b ↔ stp (CK c sz) kbs D a b:=by
 have eg:a<sz.sum->(os0 c sz kbs cl).getD a 0=Wd.mk (cl.filterMap (gk c sz kbs a)):=fun h=>by
  unfold os0
  rw [List.getD_eq_getElem?_getD,List.getElem?_map,List.getElem?_range h]
  rfl
 constructor
 ·intro h
  by_cases ha:a<sz.sum
  ·unfold st0 at h
   rw [eg ha,Wd.Lk,decide_eq_true_eq] at h
   obtain ⟨k,hk,e⟩:=List.mem_filterMap.mp h
   unfold gk at e
   obtain ⟨z,hz,e⟩:=Option.bind_eq_some_iff.mp e
   obtain ⟨_,_,_,hd⟩:=(hcl k).mp hk
   exact ⟨k,z,hd,hz,e⟩
  ·unfold st0 at h
   rw [List.getD_eq_getElem?_getD,List.getElem?_eq_none (by rw [Io]; omega)] at h
   simp at h
 ·rintro ⟨k,z,hd,hz,e⟩
  have ha:a<sz.sum:=by
   have:=X7 e
   rw [Ga,Cr] at this
   exact this
  unfold st0
  rw [eg ha,Wd.Lk,decide_eq_true_eq]
  refine List.mem_filterMap.mpr ⟨k,(hcl k).mpr ⟨z,hz,Zt e,hd⟩,?_⟩
  unfold gk
  rw [hz]
  exact e
noncomputable def aD (C:Addr):Sp:=fun vs H Q _=>∃ (x:Addr) (c:Nat->Str) (sz:List Nat) (kbs:List Kb) (D:Nat),vs=[.ref x,.int (D:Nat)]/\DY C H x (CK c sz) (Ea c kbs)/\Ui sz.length kbs /\
 ∀ DL (l:List Nat) H',H DL=none->Ak H H'->H' DL=some (.lst (nV l))->l.length=sz.sum->(∀ i,i<sz.sum->∀ j,(l.getD i 0).testBit j=true ↔ Ud (stp (CK c sz) kbs D) (fun a=>a=i) j)->Q (.ref DL) H'
theorem cV:Ay ["organ","knobs","couplers"] ["organ","knobs"] (Ab Xm):=⟨rfl,rfl,rfl,by decide +kernel,rfl,by decide +kernel,by decide +kernel⟩
include N T in
theorem Zm:A_ P w K mg base Bf 5 fCb dCb ["organ","knobs"] (aD C):=by
 have GDc:A_ P w K mg base Bf 2 fDc dDc ["organ","knobs","word"] (Uw C):=RN N T
 have GOc:A_ P w K mg base Bf 1 fOc dOc ["self"] (Wi C):=V9 N T
 have GLp:A_ P w K mg base Bf 4 fLp dLp ["organ","couplers","key"] (aV C):=au N T
 have GLq:A_ P w K mg base Bf 2 fLq dLq ["one_step"] cC:=Zo N T
 refine N.FCb.1.ok cV (fun vs H Q E h=>?_) (fun cdv A outer s H vs Q E hr h=>?_)
 ·obtain ⟨x,c,sz,kbs,D,rfl,_⟩:=h
  rfl
 ·obtain ⟨x,c,sz,kbs,D,rfl,O,hkb,q⟩:=h
  have hrDc:BZ 2 _:=hr.mono (by decide)
  have hrOc:BZ 1 _:=hr.mono (by decide)
  have hrLp:BZ 4 _:=hr.mono (by decide)
  have hrLq:BZ 2 _:=hr.mono (by decide)
  refine ⟨_,(Ae (Bq (i:=2) cV.nd rfl (Or.inr rfl) (Ai GDc hrDc rfl N.FDc.2.2 N.FDc.1.kp N.FDc.2.1 .nil Av (Aa (pv 0) (Aa (pv 1) (Aa Ba Ac)))))
   (Ah (BL (Ai GLq hrLq rfl N.FLq.2.2 N.FLq.1.kp N.FLq.2.1 .nil Av (Aa (Bl rfl (BX (osc:=Ab Xm) (N:=["organ","knobs","couplers"]) rfl rfl (by decide +kernel)) (Bs rfl T.range (Aa (Ew (pv 0) T.cl N.FOc.2.2 GOc hrOc N.FOc.2.1 .nil Av) Ac)) (fun _ _ _ _=>Bt) (fun _ _ _ _=>(Ai GLp hrLp rfl N.FLp.2.2 N.FLp.1.kp N.FLp.2.1 .nil Av (Aa (pv 1) (Aa (pv 3) (Aa (pv 0) Ac)))))) Ac))))),?_⟩
  have h305:sz.sum<=305:=by
   have:=K9 O
   rw [Cr] at this
   exact this
  refine ⟨_,rfl,_,rfl,x,CK c sz,Ea c kbs,"coupler",D,rfl,O,fun CL cl H1 hCL s1 hl1 hcl0 hcll=>?_⟩
  have hcl:∀ k,k∈cl ↔ ∃ z,kbs[k]? = some z/\TJ z=true/\D.testBit k=true:=fun k=>by
   rw [hcl0]
   constructor
   ·rintro ⟨r,hr,hw,hd⟩
    obtain ⟨z,hz,rfl⟩:=Fy hr
    rw [JM] at hw
    exact ⟨z,hz,decide_eq_true (congrArg V.str hw),hd⟩
   ·rintro ⟨z,hz,hc,hd⟩
    exact ⟨_,Fz hz,(JM _ _ _).trans (V.str.inj (of_decide_eq_true hc)),hd⟩
  have O1:=O.mono s1
  obtain ⟨⟨dx,fs,bl,bn,kp,kr,bvs,pvs,uvs,kvs,h1,l1,l2,l3,l4,lm,_⟩,_⟩:=id O1
  have epl:(((E_ (CK c sz)).length:Nat):Int).toNat=sz.sum:=by rw [Int.toNat_natCast,Ga,Cr]
  refine ⟨_,rfl,x,dx,fs,rfl,h1,lm _ (by decide +kernel),x,_,_,rfl,O1,_,rfl,by omega,by omega,?_⟩
  rw [epl]
  refine GX (lo:=0) (n:=sz.sum) (fun _=>true) (fun key=>.int (Wd.mk (cl.filterMap (gk c sz kbs key.toNat)):Nat)) (Aq (by omega)) (fun i hi H' hs R k=>k H' (Ak.refl H')) (fun i hi _ H' hs R k=>?_) (fun D3 H3 hD3 s3 hl3=>?_)
  ·have et:((0:Int)+(i:Int))=((i:Nat):Int):=by omega
   rw [et] at k ⊢
   refine ⟨_,rfl,_,rfl,_,rfl,x,CL,c,sz,kbs,cl,i,rfl,O1.mono hs,hkb,hs _ _ hl1,fun k0 hk0=>?_,hcll,hi,h305,fun H4 s4=>?_⟩
   ·obtain ⟨z,hz,hc,_⟩:=(hcl k0).mp hk0
    exact ⟨z,hz,hc⟩
   ·have kk:=k H4 s4
    rw [Int.toNat_natCast] at kk
    exact kk
  have hl3':H3 D3=some (.lst (nV (os0 c sz kbs cl))):=by
   rw [hl3,List.filter_eq_self.mpr (fun _ _=>rfl)]
   unfold nV os0
   rw [List.map_map,List.map_map]
   congr 2
   refine List.map_congr_left fun i _=>?_
   show V.int ((Wd.mk (cl.filterMap (gk c sz kbs ((0:Int)+(i:Int)).toNat)):Nat):Int)=V.int ((Wd.mk (cl.filterMap (gk c sz kbs i)):Nat):Int)
   rw [show ((0:Int)+(i:Int))=((i:Nat):Int) by omega,Int.toNat_natCast]
  refine ⟨D3,os0 c sz kbs cl,rfl,hl3',by rw [Io]; exact h305,fun DL l H4 hDL s4 hl4 ln inv=>?_⟩
  refine q DL l H4 ((s1.trans s3).free hDL) (s1.trans (s3.trans s4)) hl4 (ln.trans Io) fun i hi j=>?_
  rw [inv i (by rw [Io]; exact hi) j]
  have es:st0 (os0 c sz kbs cl)=stp (CK c sz) kbs D:=funext fun a=>funext fun b=>propext (Uk hcl a b)
  rw [es]
  refine Ww.lC fun a b hs=>?_
  obtain ⟨k,z,_,_,e⟩:=hs
  have:=Py e
  rw [Cr] at this
  rw [Io]
  exact this
noncomputable def UW (c:Nat->Str) (sz:List Nat) (rk:List (Str × Nat × Int)) (kbs:List Kb) (ls:List (List Ln)) (D i r:Nat):Prop:=∃ (cl:List Nat) (n:Nat),r=iW sz rk kbs ls cl n/\(∀ k,k∈cl ↔ ∃ z,kbs[k]? = some z/\z.w = "stop" /\ D.testBit k=true) /\
 ∀ j,n.testBit j=true ↔ Ud (stp (CK c sz) kbs D) (fun a=>a=i) j \/ (j=i/\∀ b,Yq sz j b->¬ Ou kbs D b)
noncomputable def Ck (rw:List Nat):List (Key × V):=rw.zipIdx.map fun p=>(kI p.2,V.int ((p.1:Nat):Int))
theorem Jk (rw:List Nat):(Ck rw).length=rw.length:=by
 unfold Ck
 rw [List.length_map,List.length_zipIdx]
theorem JV (rw:List Nat) (r:Nat):Ck (rw++[r])=Ck rw++[(kI rw.length,V.int ((r:Nat):Int))]:=by
 unfold Ck
 rw [List.zipIdx_append,List.map_append,Nat.zero_add]
 rfl
theorem getD_snoc (rw:List Nat) (r:Nat):(rw++[r]).getD rw.length 0=r:=by
 rw [List.getD_eq_getElem?_getD,List.getElem?_append_right (Nat.le_refl _),Nat.sub_self]
 rfl
theorem KD {rw:List Nat} {r i:Nat} (h:i<rw.length):(rw++[r]).getD i 0=rw.getD i 0:=by
 rw [List.getD_eq_getElem?_getD,List.getD_eq_getElem?_getD,List.getElem?_append_left h]
theorem Q4:∀ (n:Nat) (rw:List Nat),rw.length=n->∀ (i:Nat),Cj (Ck rw) (kI i)=if i<rw.length then some (V.int ((rw.getD i 0:Nat):Int)) else none:=fun n=>by
 induction n with
 | zero=>intro rw h i; rw [List.length_eq_zero_iff.mp h]; rfl
 | succ n ih0 =>
  intro rw h i
  obtain ⟨rw,r,rfl⟩:∃ r' x,rw=r'++[x]:=by
   rcases List.eq_nil_or_concat rw with e | ⟨a,b,e⟩
   ·rw [e] at h; cases h
   ·exact ⟨a,b,by rw [e,List.concat_eq_append]⟩
  have ih:=ih0 rw (by rw [List.length_append] at h; exact Nat.succ.inj h)
  have hnew:Cj (Ck rw) (kI rw.length)=none:=by rw [ih,if_neg (Nat.lt_irrefl _)]
  rw [JV,← Ml _ hnew,Cz,ih,List.length_append,List.length_singleton]
  by_cases e:i=rw.length
  ·subst e
   rw [if_pos rfl,if_pos (Nat.lt_succ_self _),getD_snoc]
  ·have ne:¬ (kI i=kI rw.length):=fun z=>e (Int.ofNat_inj.mp (Sum.inl.inj z))
   rw [if_neg ne]
   by_cases h:i<rw.length
   ·rw [if_pos h,if_pos (by omega),KD h]
   ·rw [if_neg h,if_neg (by omega)]
theorem Jw (rw:List Nat) (i:Nat):Cj (Ck rw) (kI i)=if i<rw.length then some (V.int ((rw.getD i 0:Nat):Int)) else none:=Q4 _ rw rfl i
theorem Jj {n m:Nat} (hm:m<=305) (h:∀ j,n.testBit j=true->j<m):n<2 ^ 1200:=by
 refine Nat.lt_pow_two_of_testBit n fun i hi=>?_
 cases e:n.testBit i with
 | false=>rfl
 | true=>have:=h i e; omega
noncomputable def eO (C:Addr):Sp:=fun vs H Q _=>∃ (x:Addr) (c:Nat->Str) (sz:List Nat) (rk:List (Str × Nat × Int)) (kbs:List Kb) (ls:List (List Ln)) (D:Nat),vs=[.ref x,.int (D:Nat)]/\Dk C H x (CK c sz) rk (Ea c kbs) ls/\Ui sz.length kbs/\gm rk ls /\
 ∀ dd (rw:List Nat) H',H dd=none->Ak H H'->H' dd=some (.dK (Ck rw))->rw.length=sz.sum->(∀ i,i<sz.sum->UW c sz rk kbs ls D i (rw.getD i 0))->Q (.ref dd) H'
theorem RV:Ay ["organ","knobs","rows","key","coupled","speaking"] ["organ","knobs"] (Ab YZ):=⟨rfl,rfl,rfl,by decide +kernel,rfl,by decide +kernel,by decide +kernel⟩
include N T in
theorem bC:A_ P w K mg base Bf 6 fCr dCr ["organ","knobs"] (eO C):=by
 have GCb:A_ P w K mg base Bf 5 fCb dCb ["organ","knobs"] (aD C):=Zm N T
 have GUk:A_ P w K mg base Bf 4 fUk dUk ["organ","knobs","keys"] (eF C):=Zn N T
 have GSt:A_ P w K mg base Bf 3 fSt dSt ["numbers"] Rp:=Ru N T
 have GBa:A_ P w K mg base Bf 5 fBa dBa ["organ","knobs","keys"] (dD C):=fJ N T
 refine N.FCr.1.ok RV (fun vs H Q E h=>?_) (fun cdv A outer s H vs Q E hr h=>?_)
 ·obtain ⟨x,c,sz,rk,kbs,ls,D,rfl,_⟩:=h
  rfl
 ·obtain ⟨x,c,sz,rk,kbs,ls,D,rfl,O,hkb,hls,q⟩:=h
  have hrCb:BZ 5 _:=hr.mono (by decide)
  have hrUk:BZ 4 _:=hr.mono (by decide)
  have hrSt:BZ 3 _:=hr.mono (by decide)
  have hrBa:BZ 5 _:=hr.mono (by decide)
  have hu:=HH hr
  refine ⟨_,(Ae (Bq (i:=2) RV.nd rfl (Or.inl rfl) Ig)
   (Ae (Cp PassesOwn.never rfl (Ik rfl T.enumerate (Aa (Ai GCb hrCb rfl N.FCb.2.2 N.FCb.1.kp N.FCb.2.1 .nil Av (Aa (pv 0) (Aa (pv 1) Ac))) Ac)) (Jl rfl (Di (Bp (i:=3) RV.nd rfl (Or.inl rfl)) (Di (Bp (i:=4) RV.nd rfl (Or.inl rfl)) Hw))) (Ae (Bq (i:=5) RV.nd rfl (Or.inl rfl) (BK Kl (pv 4) (Ai GUk hrUk rfl N.FUk.2.2 N.FUk.1.kp N.FUk.2.1 .nil Av (Aa (pv 0) (Aa (pv 1) (Aa (Ai GSt hrSt rfl N.FSt.2.2 N.FSt.1.kp N.FSt.2.1 .nil Av (Aa (Dw (Aa (pv 3) Ac)) Ac)) Ac))))))
   (Ah (G7 hu (pv 2) (pv 3) (Ai GBa hrBa rfl N.FBa.2.2 N.FBa.1.kp N.FBa.2.1 .nil Av (Aa (pv 0) (Aa (pv 1) (Aa (pv 5) Ac)))) rfl))))
   (Ah (BL (pv 2))))),?_⟩
  have h305:sz.sum<=305:=by
   have:=K9 O.o
   rw [Cr] at this
   exact this
  intro dd hdd
  have s0:=An (o:=HO.dK []) hdd
  have a0:upd H dd (HO.dK []) dd=some (.dK []):=Af
  generalize upd H dd (HO.dK [])=H0 at s0 a0 ⊢
  refine ⟨_,rfl,_,rfl,x,c,sz,kbs,D,rfl,(O.mono s0).o,hkb,fun DL l H1 hDL s1 hl1 ln inv=>?_⟩
  have nd:dd ≠ DL:=Aj a0 hDL
  have lv:(nV l).length=sz.sum:=by unfold nV; rw [List.length_map]; exact ln
  refine ⟨DL,rfl,⟨_,.inl (.inl hl1)⟩,H_ (K:=K) (a:=DL) (xs:=nV l) (fun i σ H4=>Ak H H4/\H4 DL=some (.lst (nV l))/\∃ (rw:List Nat) (v3 v4 v5:Option V),σ=[some (.ref x),some (.int (D:Nat)),some (.ref dd),v3,v4,v5]/\H4 dd=some (.dK (Ck rw))/\rw.length=i/\∀ k,k<i->UW c sz rk kbs ls D k (rw.getD k 0)) ⟨s0.trans s1,hl1,[],_,_,_,rfl,s1 _ _ a0,rfl,fun k hk=>absurd hk (Nat.not_lt_zero _)⟩ (fun i σ H4 _ h=>.inl (.inl h.2.1)) ?_ ?_⟩
  ·rintro i y σ H4 T0 hy ⟨s4,b4,rw,v3,v4,v5,rfl,d4,lr,hr4⟩ hT
   have hil:i<sz.sum:=by
    have:=(List.getElem?_eq_some_iff.mp hy).1
    omega
   obtain rfl:V.int ((l.getD i 0:Nat):Int)=y:=by
    unfold nV at hy
    rw [List.getElem?_map,List.getElem?_eq_getElem (by omega)] at hy
    rw [List.getD_eq_getElem?_getD,List.getElem?_eq_getElem (by omega)]
    exact Option.some.inj hy
   have s5:=An (o:=HO.tup [.int (i:Int),V.int ((l.getD i 0:Nat):Int)]) hT
   refine ⟨T0,_,rfl,.inl (.inl Af),rfl,_,_,rfl,_,_,rfl,rfl,?_⟩
   generalize upd H4 T0 (HO.tup [.int (i:Int),V.int ((l.getD i 0:Nat):Int)])=H5 at s5 ⊢
   refine ⟨_,rfl,_,rfl,_,rfl,_,rfl,by show 1<=sizeLine; decide,fun pp hpp=>?_⟩
   have s6:=An (o:=HO.lst [V.int (i:Int)]) hpp
   have a6:upd H5 pp (HO.lst [V.int (i:Int)]) pp=some (.lst (nV [i])):=Af
   generalize upd H5 pp (HO.lst [V.int (i:Int)])=H6 at s6 a6 ⊢
   have b1:∀ j,(Wd.mk [i]).testBit j=true ↔ j=i:=fun j=>by rw [Wd.Lk,decide_eq_true_eq,List.mem_singleton]
   refine ⟨pp,[i],rfl,a6,by show 1<=500; decide,fun n hn=>by rw [List.mem_singleton.mp hn]; omega,fun H7 s7=>?_⟩
   have s07:=s4.trans (s5.trans (s6.trans s7))
   refine ⟨x,c,sz,kbs,D,Wd.mk [i],rfl,(O.mono s07).o,hkb,Jj h305 fun j hj=>by rw [(b1 j).mp hj]; exact hil,fun j hj=>by rw [(b1 j).mp hj]; exact hil,h305,fun m H8 s8 hm=>⟨_,_,rfl,rfl,?_⟩⟩
   dsimp only
   rw [GJ]
   have bn:∀ j,(l.getD i 0 ||| m).testBit j=true ↔ Ud (stp (CK c sz) kbs D) (fun a=>a=i) j \/ (j=i/\∀ b,Yq sz j b->¬ Ou kbs D b):=fun j=>by
    rw [Nat.testBit_or,Bool.or_eq_true,inv i hil,hm,b1]
   have bl:∀ j,(l.getD i 0 ||| m).testBit j=true->j<sz.sum:=fun j hj=>by
    rcases (bn j).mp hj with z | z
    ·have:j<((CK c sz).map (·.2)).sum:=by
      cases z with
      | one _ b=>obtain ⟨_,_,_,_,e⟩:=b; exact Py e
      | more _ b=>obtain ⟨_,_,_,_,e⟩:=b; exact Py e
     rw [Cr] at this
     exact this
    ·rw [z.1]; exact hil
   have s08:=s07.trans s8
   refine ⟨_,rfl,_,rfl,_,rfl,x,c,sz,rk,kbs,ls,D,l.getD i 0 ||| m,rfl,O.mono s08,hkb,hls,Jj h305 bl,fun cl H9 s9 hcl=>?_⟩
   have s49:=s5.trans (s6.trans (s7.trans (s8.trans s9)))
   have d9:=s49 _ _ d4
   have lk:=Jk rw
   refine ⟨_,rfl,_,rfl,dd,_,rfl,KY.k (k:=kI i) d9 (Aq (by omega)),?_⟩
   have hnew:Cj (Ck rw) (kI i)=none:=by rw [Jw,if_neg (by omega)]
   rw [Ml _ hnew]
   refine ⟨fun b u e=>by rw [Al (Aj e hdd)]; exact s49 _ _ (s4 _ _ e),by rw [Al nd.symm]; exact s49 _ _ b4,rw++[iW sz rk kbs ls cl (l.getD i 0 ||| m)],_,_,_,rfl,?_,by rw [List.length_append,lr]; rfl,fun k hk=>?_⟩
   ·rw [Af,JV,lr]
   ·by_cases e:k<i
    ·rw [KD (by omega)]
     exact hr4 k e
    ·have e2:k=i:=by omega
     subst e2
     rw [← lr,getD_snoc,lr]
     exact ⟨cl,_,rfl,hcl,bn⟩
  ·rintro σ H4 ⟨s4,b4,rw,v3,v4,v5,rfl,d4,lr,hr4⟩
   rw [lv] at lr hr4
   exact ⟨_,rfl,q dd rw H4 hdd s4 d4 lr hr4⟩
structure Ek (Cy:Addr) (H:Hp) (y:Addr) (rw:List Nat):Prop where
 ex:∃ dy dd o,H y=some (.ins Cy dy [("row_sets",.ref dd)])/\H dd=some (.frz o (.dK (Ck rw)))
theorem Ek.mono {Cy:Addr} {H H':Hp} {y:Addr} {rw:List Nat} (s:Ak H H') (h:Ek Cy H y rw):Ek Cy H' y rw:=by
 obtain ⟨dy,dd,o,e1,e2⟩:=h.ex
 exact ⟨dy,dd,o,s _ _ e1,s _ _ e2⟩
noncomputable def gJ (C Cy:Addr):Sp:=fun vs H Q _=>∃ (y dy x:Addr) (c:Nat->Str) (sz:List Nat) (rk:List (Str × Nat × Int)) (kbs:List Kb) (ls:List (List Ln)) (D:Nat),vs=[.ref y,.ref x,.int (D:Nat)]/\H y=some (.ins Cy dy [])/\Dk C H x (CK c sz) rk (Ea c kbs) ls/\Ui sz.length kbs/\gm rk ls /\
 ∀ (rw:List Nat) H',SX y H H'->Ek Cy H' y rw->rw.length=sz.sum->(∀ i,i<sz.sum->UW c sz rk kbs ls D i (rw.getD i 0))->Q .non H'
noncomputable def Z0 (Cy:Addr):Sp:=fun vs H Q _=>∃ (y:Addr) (rw:List Nat) (i:Nat),vs=[.ref y,.int (i:Nat)]/\Ek Cy H y rw/\i<rw.length/\Q (.int ((rw.getD i 0:Nat):Int)) H
theorem iB:Ay ["self","organ","knobs"] ["self","organ","knobs"] (Ab Y_):=⟨rfl,rfl,rfl,by decide +kernel,rfl,by decide +kernel,by decide +kernel⟩
include N T in
theorem gD:A_ P w K mg base Bf 7 fRi dRi ["self","organ","knobs"] (gJ C Cy):=by
 have GCr:A_ P w K mg base Bf 6 fCr dCr ["organ","knobs"] (eO C):=bC N T
 refine N.FRi.1.ok iB (fun vs H Q E h=>?_) (fun cdv A outer s H vs Q E hr h=>?_)
 ·obtain ⟨y,dy,x,c,sz,rk,kbs,ls,D,rfl,_⟩:=h
  rfl
 ·obtain ⟨y,dy,x,c,sz,rk,kbs,ls,D,rfl,hy,O,hkb,hls,q⟩:=h
  have hrCr:BZ 6 _:=hr.mono (by decide)
  refine ⟨_,(YS (Ah (Ei (pv 0) (Ai GCr hrCr rfl N.FCr.2.2 N.FCr.1.kp N.FCr.2.1 .nil Av (Aa (pv 1) (Aa (pv 2) Ac))) rfl))),?_⟩
  refine ⟨_,rfl,_,rfl,x,c,sz,rk,kbs,ls,D,rfl,O,hkb,hls,fun dd rw H1 hdd s1 d1 lr hr1=>?_⟩
  have ny:dd ≠ y:=Ne.symm (Aj hy hdd)
  refine ⟨_,rfl,y,Cy,dy,_,rfl,s1 _ _ hy,T.clR,T.nr_row_sets,(by show 0<1000; decide),?_⟩
  refine ⟨dd,Ck rw,by rw [Al ny]; exact d1,fun o=>?_⟩
  refine q rw _ (fun b u e n=>?_) ⟨dy,dd,o,?_,Af⟩ lr hr1
  ·rw [Al (Aj e hdd),Al n]
   exact s1 _ _ e
  ·rw [Al (Ne.symm ny),Af]
   rfl
theorem jl:Ay ["self","key"] ["self","key"] (Ab Yi):=⟨rfl,rfl,rfl,by decide +kernel,rfl,by decide +kernel,by decide +kernel⟩
include N T in
theorem cT:A_ P w K mg base Bf 1 fRr dRr ["self","key"] (Z0 Cy):=by
 refine N.FRr.1.ok jl (fun vs H Q E h=>?_) (fun cdv A outer s H vs Q E hr h=>?_)
 ·obtain ⟨y,rw,i,rfl,_⟩:=h
  rfl
 ·obtain ⟨y,rw,i,rfl,R,hi,q⟩:=h
  have hu:=HH hr
  refine ⟨_,(Ah (BL (Ra hu (CZ (pv 0) rfl) (pv 1) Ad ⟨rfl,rfl,rfl,rfl⟩))),?_⟩
  obtain ⟨dy,dd,ob,e1,e2⟩:=R.ex
  refine ⟨_,rfl,y,Cy,dy,_,_,rfl,e1,T.clR,T.nr_row_sets,rfl,dd,rfl,.inl ⟨_,.inr ⟨ob,e2⟩⟩,_,rfl,_,.inl ⟨_,kI i,.inr ⟨ob,e2⟩,rfl,rfl⟩,?_⟩
  rw [Jw,if_pos hi]
  exact q
noncomputable def Za (rw:List Nat) (n:Nat):Nat:=Uc (((List.range rw.length).filter fun i=>n.testBit i).map fun i=>rw.getD i 0)
noncomputable def Zd (Cy:Addr):Sp:=fun vs H Q _=>∃ (y:Addr) (rw:List Nat) (n:Nat),vs=[.ref y,.int (n:Nat)]/\Ek Cy H y rw/\rw.length<=305/\∀ H',Ak H H'->Q (.int ((Za rw n:Nat):Int)) H'
theorem Oa {rw:List Nat} {kv:Key × V} (h:kv∈Ck rw):∃ i,i<rw.length/\kv=(kI i,V.int ((rw.getD i 0:Nat):Int)):=by
 obtain ⟨p,hp,rfl⟩:=List.mem_map.mp h
 obtain ⟨j,hj⟩:=List.getElem?_of_mem hp
 rw [List.getElem?_zipIdx] at hj
 obtain ⟨a,ha,e⟩:=Option.map_eq_some_iff.mp hj
 have e':p=(a,j):=by rw [← e]; simp
 subst e'
 refine ⟨j,(List.getElem?_eq_some_iff.mp ha).1,?_⟩
 rw [List.getD_eq_getElem?_getD,ha]
 rfl
theorem Ii (rw:List Nat):Ck rw=(List.range rw.length).map fun i=>(kI i,V.int ((rw.getD i 0:Nat):Int)):=by
 refine List.ext_getElem? fun i=>?_
 unfold Ck
 rw [List.getElem?_map,List.getElem?_zipIdx,List.getElem?_map]
 by_cases h:i<rw.length
 ·rw [List.getElem?_eq_getElem h,List.getElem?_range h]
  show some (kI (0+i),V.int ((rw[i]:Nat):Int))=some (kI i,V.int ((rw.getD i 0:Nat):Int))
  rw [List.getD_eq_getElem?_getD,List.getElem?_eq_getElem h,Nat.zero_add]
  rfl
 ·rw [List.getElem?_eq_none (by omega),List.getElem?_eq_none (by rw [List.length_range]; omega)]
  rfl
theorem ju:Ay ["self","held"] ["self","held"] (Ab Wv):=⟨rfl,rfl,rfl,by decide +kernel,rfl,by decide +kernel,by decide +kernel⟩
include N T in
theorem Z6:A_ P w K mg base Bf 2 fRs dRs ["self","held"] (Zd Cy):=by
 have GHa:A_ P w K mg base Bf 1 fHa dHa ["some","number"] R0:=Pq N T
 have GUn:A_ P w K mg base Bf 1 fUn dUn ["sets"] U_:=Sw N T
 refine N.FRs.1.ok ju (fun vs H Q E h=>?_) (fun cdv A outer s H vs Q E hr h=>?_)
 ·obtain ⟨y,rw,n,rfl,_⟩:=h
  rfl
 ·obtain ⟨y,rw,n,rfl,R,h305,q⟩:=h
  have hrHa:BZ 1 _:=hr.mono (by decide)
  have hrUn:BZ 1 _:=hr.mono (by decide)
  refine ⟨_,(Ah (BL (Ai GUn hrUn rfl N.FUn.2.2 N.FUn.1.kp N.FUn.2.1 .nil Av (Aa (Lb rfl (HQ (osc:=Ab Wv) (N:=["self","held"]) rfl rfl (by decide +kernel)) (SJ (CZ (pv 0) rfl)) (fun _ _ _ _=>HY (FN (Ai GHa hrHa rfl N.FHa.2.2 N.FHa.1.kp N.FHa.2.1 .nil Av (Aa (pv 3) (Aa (pv 0) Ac))))) (fun _ _ _ _=>(pv 1))) Ac)))),?_⟩
  obtain ⟨dy,dd,ob,e1,e2⟩:=R.ex
  have lk:=Jk rw
  refine ⟨_,rfl,y,Cy,dy,_,_,rfl,e1,T.clR,T.nr_row_sets,rfl,dd,ob,Ck rw,rfl,e2,?_⟩
  refine Ol (K:=K) (fun kv=>match kv.1 with | .inl i=>decide (0<=i) && n.testBit i.toNat | .inr _=>false) (fun kv=>kv.2) e2 (Aq (by omega)) (fun kv hkv H' hs R k=>?_) (fun kv hkv _ H' hs R k=>⟨_,rfl,k H' (Ak.refl H')⟩) (fun D3 H3 hD3 s3 hl3=>?_)
  ·obtain ⟨i,hi,rfl⟩:=Oa hkv
   exact ⟨_,rfl,_,rfl,n,(i:Nat),rfl,_,rfl,k H' (Ak.refl H')⟩
  have hl3':H3 D3=some (.lst (nV (((List.range rw.length).filter fun i=>n.testBit i).map fun i=>rw.getD i 0))):=by
   rw [hl3,Ii]
   unfold nV
   rw [List.filter_map,List.map_map,List.map_map]
   congr 2
  exact ⟨D3,_,rfl,hl3',by rw [List.length_map]; exact Nat.le_trans (List.length_filter_le _ _) (by rw [List.length_range]; omega),q H3 s3⟩
open Bw
theorem g_ {c:Int}:0<=(if c<0 then -c else c):=by split <;> omega
theorem QH:Ay ["_law_script","_law_start","_law_cells","_law_number","_law_k","_law_mixed"] ["_law_script","_law_start"] (Ab W4):=⟨rfl,rfl,rfl,by decide +kernel,rfl,by decide +kernel,by decide +kernel⟩
include N T in
theorem fQ:A_ P w K mg base Bf 1 fDn dDn ["_law_script","_law_start"] (bT K):=by
 refine N.FDn.1.ok QH (fun vs H Q E h=>?_) (fun cdv A outer s H vs Q E hr h=>?_)
 ·obtain ⟨a,st,ns,rfl,_⟩:=h
  rfl
 ·obtain ⟨a,st,ns,rfl,hS,h0,h1,hz,q⟩:=h
  refine ⟨_,(@Ae _ _ _ _ _ (@BW _ _ _ _ _ _ 2 QH.nd rfl (Or.inl rfl) (BK K7 (Bl rfl (BX (osc:=Ab W4) (N:=["_law_script","_law_start","_law_cells","_law_number","_law_k","_law_mixed"]) rfl rfl (by decide +kernel)) (Bj (Eg GD (pv 0) GR (Em Ad))) (fun _ _ _ _=>Bt) (fun _ _ _ _=>(BR Sh rfl T.abs PyProof.Rows.boot_abs (@Az _ _ _ _ _ rfl (pv 0) Ac)))) (@Dw _ _ _ _ (@Az _ _ _ _ _ rfl Ad Ac))) (by kernel_rfl) (.inl rfl))
   (@Ae _ _ _ _ _ (@BW _ _ _ _ _ _ 3 QH.nd rfl (Or.inl rfl) (pv 1) (by kernel_rfl) (.inl rfl))
   (@Ae _ _ _ _ _ (Cp PassesOwn.never rfl (Bs rfl T.range (@Az _ _ _ _ _ rfl (BR BV rfl T.len PySem.boot_len (@Az _ _ _ _ _ rfl (pv 2) Ac)) Ac)) (Bp (i:=4) QH.nd rfl (Or.inl rfl)) (@Ah _ _ _ (@BW _ _ _ _ _ _ 3 QH.nd rfl (Or.inl rfl) (BK Dl (BK Ca (BK Ca (BK Dv (pv 3) Ad) (BK Dv (BK Dl (@Ar _ _ _ _ _ _ _ Bb (pv 2) (pv 4) (fun _ _=>rfl)) Ad) (BK Ca (BK Dv (pv 4) (pv 4)) Ad))) Ad) Ad) (by kernel_rfl) (.inl rfl))))
   (@Ae _ _ _ _ _ (@BW _ _ _ _ _ _ 5 QH.nd rfl (Or.inl rfl) (BK Dv (BK Dl (@Ar _ _ _ _ _ _ _ Bb (pv 2) Ad (fun _ _=>rfl)) Ad) (BR BV rfl T.len PySem.boot_len (@Az _ _ _ _ _ rfl (pv 2) Ac))) (by kernel_rfl) (.inl rfl))
   (@Ae _ _ _ _ _ (JL (BK GQ (@Ar _ _ _ _ _ _ _ Bb (pv 2) Ad (fun _ _=>rfl)) Ad) (JP (pv 2) Ad set_list))
   (@Ah _ _ _ (@BL _ _ _ _ (@Dw _ _ _ _ (@Az _ _ _ _ _ rfl (pv 2) (@Az _ _ _ _ _ rfl (pv 5) (@Az _ _ _ _ _ rfl (pv 3) (@Az _ _ _ _ _ rfl Ad Ac)))))))))))),?_⟩
  refine ⟨_,rfl,_,rfl,a,_,rfl,hS,fun p1 hp1=>?_⟩
  obtain ⟨ms,em,hm⟩:=MK ns none (some 63)
  rw [em]
  have s1:=An (o:=HO.lst (ms.map V.int)) hp1
  have l1:Cg K (upd H p1 (HO.lst (ms.map V.int))) p1 (ms.map V.int):=.inl (.inl Af)
  generalize upd H p1 (HO.lst (ms.map V.int))=H1 at s1 l1 ⊢
  refine ⟨p1,rfl,⟨_,l1⟩,Cd (K:=K) (xs:=ms.map V.int) (fun _=>true) (fun v=>match v with | .int i=>.int (if i<0 then -i else i) | x=>x) l1 (Aq (by simp; omega)) (fun x hx H' hs R k=>k H' (Ak.refl H')) (fun x hx _ H' hs R k=>?_) (fun D H2 hD hs hl=>?_)⟩
  ·obtain ⟨i,_,rfl⟩:=List.mem_map.mp hx
   exact ⟨_,rfl,i,rfl,k H' (Ak.refl H')⟩
  rw [List.filter_eq_self.mpr (fun _ _=>rfl),List.map_map] at hl
  have hl':H2 D=some (.lst ((ms.map fun i=>if i<0 then -i else i).map V.int)):=by rw [hl,List.map_map]; rfl
  clear hl
  have hnn:∀ c∈ms.map (fun i:Int=>if i<0 then -i else i),(0:Int)<=c:=fun c hc=>by
   obtain ⟨i,_,rfl⟩:=List.mem_map.mp hc
   exact g_
  have hml:(ms.map fun i:Int=>if i<0 then -i else i).length<=63:=by rw [List.length_map]; omega
  generalize (ms.map fun i:Int=>if i<0 then -i else i)=as at hl' hnn hml
  refine ⟨by show 1<=sizeLine; decide,fun p3 hp3=>?_⟩
  have s3:=An (o:=HO.lst [V.int 0]) hp3
  have l3:upd H2 p3 (HO.lst [V.int 0]) p3=some (.lst [V.int 0]):=Af
  generalize upd H2 p3 (HO.lst [V.int 0])=H3 at s3 l3 ⊢
  refine ⟨D,p3,_,_,rfl,rfl,s3 _ _ hl',l3,Hn (by simp; omega),fun pc hpc=>?_⟩
  have s4:=An (o:=HO.lst (as.map V.int++[V.int 0])) hpc
  have l4:upd H3 pc (HO.lst (as.map V.int++[V.int 0])) pc=some (.lst ((as++[0]).map V.int)):=by rw [Af,List.map_append]; rfl
  have hn4:∀ c∈as++[0],(0:Int)<=c:=fun c hc=>by
   rcases List.mem_append.mp hc with h | h
   ·exact hnn c h
   ·rw [List.mem_singleton.mp h]; exact Int.le_refl _
  have hl4:0<(as++[0]).length/\(as++[(0:Int)]).length<=64:=by rw [List.length_append,List.length_singleton]; omega
  have hfree:H pc=none:=(s1.trans (hs.trans s3)).free hpc
  have s04:=s1.trans (hs.trans (s3.trans s4))
  generalize upd H3 pc (HO.lst (as.map V.int++[V.int 0]))=H4 at s4 l4 s04 ⊢
  generalize as++[0]=cs at l4 hn4 hl4
  clear s1 l1 hl' hnn hml s3 l3 s4 hpc hp3 hp1 hD hs
  have qc:Cg K H4 pc (cs.map V.int):=.inl (.inl l4)
  have hlen:(cs.map V.int).length=cs.length:=List.length_map ..
  refine ⟨_,rfl,?_⟩
  refine ⟨_,rfl,pc,_,rfl,.inl qc,_,rfl,by omega,by omega,Dq (lo:=0) (n:=(((cs.map V.int).length:Nat):Int).toNat) (fun i σ H5=>H5=H4/\∃ (num:Int) (v4:Option V),0<=num/\num<2147483647/\σ=[some (.ref a),some (.int st),some (.ref pc),some (.int num),v4,none]) ⟨rfl,st,none,h0,h1,rfl⟩ ?_ ?_⟩
  ·rintro i σ H5 hi ⟨rfl,num,v4,hn0,hn1,rfl⟩
   obtain ⟨c,_,hc,hat⟩:=Le (ns:=cs) (i:=(0:Int)+(i:Int)) (by omega) (by omega)
   have c0:0<=c % 2147483647/\c % 2147483647<2147483647:=⟨Int.emod_nonneg _ (by decide),Int.emod_lt_of_pos _ (by decide)⟩
   refine ⟨_,rfl,_,_,rfl,rfl,.inr ⟨by decide,by decide⟩,_,rfl,_,rfl,pc,_,_,_,rfl,rfl,qc,hat,_,_,rfl,rfl,(by show (0:Int)<2147483647; decide),_,rfl,_,rfl,_,_,rfl,rfl,.inl ⟨by omega,by omega⟩,_,_,rfl,rfl,_,_,rfl,rfl,.inl ⟨by omega,by omega⟩,_,_,rfl,rfl,_,_,rfl,rfl,_,_,rfl,rfl,(by show (0:Int)<2147483629; decide),?_⟩
   refine ⟨rfl,_,_,Int.emod_nonneg _ (by decide),?_,rfl⟩
   exact Int.lt_trans (Int.emod_lt_of_pos _ (by decide)) (by decide)
  ·rintro σ H5 ⟨rfl,num,v4,hn0,hn1,rfl⟩
   obtain ⟨c,ec,hc,hat⟩:=Le (ns:=cs) (i:=0) (by decide) (by omega)
   have m2:0<=c % 2/\c % 2<2:=⟨Int.emod_nonneg _ (by decide),Int.emod_lt_of_pos _ (by decide)⟩
   refine ⟨_,rfl,pc,_,_,_,rfl,rfl,qc,hat,_,_,rfl,rfl,(by show (0:Int)<2; decide),_,rfl,pc,_,rfl,.inl qc,_,_,rfl,rfl,.inl ⟨by omega,by omega⟩,?_⟩
   have hmx:0<=c % 2 * ((cs.map V.int).length:Int)/\c % 2 * ((cs.map V.int).length:Int)<=cs.length:=by
    rw [hlen]
    have:c % 2=0 \/ c % 2=1:=by omega
    rcases this with e | e <;> rw [e] <;> omega
   show Cq 5 (V.int (c % 2 * ((cs.map V.int).length:Int))) _ _ _
   generalize c % 2 * ((cs.map V.int).length:Int)=mx at hmx
   refine ⟨_,rfl,pc,_,_,_,rfl,rfl,qc,hat,_,_,rfl,rfl,⟨by decide,by decide⟩,_,rfl,pc,_,0,0,rfl,rfl,l4,Ss (by decide) (by omega),?_⟩
   have e5:((cs.map V.int).set 0 (V.int (c / 2)))=(cs.set 0 (c / 2)).map V.int:=by rw [List.map_set]
   have l5:upd H5 pc (HO.lst ((cs.map V.int).set 0 (V.int (c / 2)))) pc=some (.lst ((cs.set 0 (c / 2)).map V.int)):=by rw [Af,e5]
   have s5:Ak H (upd H5 pc (HO.lst ((cs.map V.int).set 0 (V.int (c / 2))))):=fun b o e=>by rw [Al (Aj e hfree)]; exact s04 b o e
   generalize upd H5 pc (HO.lst ((cs.map V.int).set 0 (V.int (c / 2))))=H6 at l5 s5 ⊢
   refine ⟨_,rfl,_,rfl,_,rfl,by show 4<=sizeLine; decide,fun dh hdh=>?_⟩
   refine q dh pc _ (s5.free hdh) hfree (s5.trans (An hdh)) ?_
   refine ⟨cs.set 0 (c / 2),mx,num,Af,?_,?_,?_,hmx.1,by rw [List.length_set]; exact hmx.2,hn0,hn1,by rw [List.length_set]; exact hl4.2⟩
   ·rw [Al (Aj l5 hdh)]
    exact l5
   ·intro e
    rw [e,l5] at hdh
    cases hdh
   ·intro x hx
    rcases List.mem_or_eq_of_mem_set hx with h | h
    ·exact hn4 x h
    ·rw [h]
     have:=hn4 c hc
     omega
theorem U0:Ay ["_law_drawn_here","_law_many","_law_cells","_law_turn","_law_digit"] ["_law_drawn_here","_law_many"] (Ab ZQ):=⟨rfl,rfl,rfl,by decide +kernel,rfl,by decide +kernel,by decide +kernel⟩
include N T in
theorem Sx:A_ P w K mg base Bf 1 fDw dDw ["_law_drawn_here","_law_many"] VH:=by
 refine N.FDw.1.ok U0 (fun vs H Q E h=>?_) (fun cdv A outer s H vs Q E hr h=>?_)
 ·obtain ⟨dh,pc,n,many,rfl,_⟩:=h
  rfl
 ·obtain ⟨dh,pc,n,many,rfl,⟨cs,m,r,hd,hp,ne,hn,hm0,hm1,hr0,hr1,hl⟩,hnn,hma,hmb,q⟩:=h
  refine ⟨_,(@Ae _ _ _ _ _ (@BW _ _ _ _ _ _ 2 U0.nd rfl (Or.inl rfl) (@Ar _ _ _ _ _ _ _ Bb (pv 0) Ad (fun _ _=>rfl)) (by kernel_rfl) (.inl rfl))
   (@Ae _ _ _ _ _ (JL (BK Ca (@Ar _ _ _ _ _ _ _ Bb (pv 0) Ad (fun _ _=>rfl)) Ad) (JP (pv 0) Ad set_list))
   (@Ae _ _ _ _ _ (Tv PassesOwn.never (PW.pt (R7 (Bc JW (@Ar _ _ _ _ _ _ _ Bb (pv 0) Ad (fun _ _=>rfl)) (BR BV rfl T.len PySem.boot_len (@Az _ _ _ _ _ rfl (pv 2) Ac)) (Bm _)) (O5 (Bc Dj (@Ar _ _ _ _ _ _ _ Bb (pv 2) (@Ar _ _ _ _ _ _ _ Bb (pv 0) Ad (fun _ _=>rfl)) (fun _ _=>rfl)) Ad (Bm _))))) (@Ah _ _ _ (JL (BK Ca (@Ar _ _ _ _ _ _ _ Bb (pv 0) Ad (fun _ _=>rfl)) Ad) (JP (pv 0) Ad set_list))))
   (@Ae _ _ _ _ _ (@Ce _ _ _ _ _ _ _ _ (Bc Dj (@Ar _ _ _ _ _ _ _ Bb (pv 0) Ad (fun _ _=>rfl)) (BR BV rfl T.len PySem.boot_len (@Az _ _ _ _ _ rfl (pv 2) Ac)) (Bm _)) (@Ae _ _ _ _ _ (@BW _ _ _ _ _ _ 3 U0.nd rfl (Or.inl rfl) (@Ar _ _ _ _ _ _ _ Bb (pv 0) Ad (fun _ _=>rfl)) (by kernel_rfl) (.inl rfl))
   (@Ae _ _ _ _ _ (JL (BK Dl (BK Ca (BK Ca (BK Dv (@Ar _ _ _ _ _ _ _ Bb (pv 0) Ad (fun _ _=>rfl)) Ad) (BK Dv (BK Dv (pv 3) (pv 3)) (pv 3))) Ad) Ad) (JP (pv 0) Ad set_list))
   (@Ah _ _ _ (@BL _ _ _ _ (BK Dl (BK GQ (BK Dl (BK Dv (@Ar _ _ _ _ _ _ _ Bb (pv 0) Ad (fun _ _=>rfl)) (@Ar _ _ _ _ _ _ _ Bb (pv 0) Ad (fun _ _=>rfl))) Ad) Ad) (pv 1)))))) Bh)
   (@Ae _ _ _ _ _ (@BW _ _ _ _ _ _ 4 U0.nd rfl (Or.inl rfl) (BK Dl (@Ar _ _ _ _ _ _ _ Bb (pv 2) (@Ar _ _ _ _ _ _ _ Bb (pv 0) Ad (fun _ _=>rfl)) (fun _ _=>rfl)) (pv 1)) (by kernel_rfl) (.inl rfl))
   (@Ae _ _ _ _ _ (JL (BK GQ (@Ar _ _ _ _ _ _ _ Bb (pv 2) (@Ar _ _ _ _ _ _ _ Bb (pv 0) Ad (fun _ _=>rfl)) (fun _ _=>rfl)) (pv 1)) (JP (pv 2) (@Ar _ _ _ _ _ _ _ Bb (pv 0) Ad (fun _ _=>rfl)) set_list))
   (@Ah _ _ _ (@BL _ _ _ _ (pv 4))))))))),?_⟩
  have qd:Cg K H dh _:=.inl (.inl hd)
  refine ⟨_,rfl,dh,_,_,_,rfl,rfl,qd,Ag (j:=0) rfl,?_⟩
  refine ⟨_,rfl,dh,_,_,_,rfl,rfl,qd,Ag (j:=3) rfl,_,_,rfl,rfl,_,rfl,dh,_,3,3,rfl,rfl,hd,rfl,?_⟩
  have d1:upd H dh (HO.lst ([V.ref pc,V.int m,V.int r,V.int (n:Int)].set 3 (V.int ((n:Int)+1)))) dh=some (.lst [V.ref pc,V.int m,V.int r,V.int ((n+1:Nat):Int)]):=Af
  have f1:bM H (upd H dh (HO.lst ([V.ref pc,V.int m,V.int r,V.int (n:Int)].set 3 (V.int ((n:Int)+1))))) dh pc:=fun b h1 h2=>Al h1
  have p1:upd H dh (HO.lst ([V.ref pc,V.int m,V.int r,V.int (n:Int)].set 3 (V.int ((n:Int)+1)))) pc=some (.lst (cs.map V.int)):=by rw [Al (Ne.symm ne)]; exact hp
  generalize upd H dh (HO.lst ([V.ref pc,V.int m,V.int r,V.int (n:Int)].set 3 (V.int ((n:Int)+1))))=H1 at d1 f1 p1 ⊢
  refine T4 ?_
  have hlen:(cs.map V.int).length=cs.length:=List.length_map ..
  refine UJ (fun σ H4=>σ=[some (.ref dh),some (.int many),some (.ref pc),none,none]/\∃ m,0<=m/\m<=(cs.length:Int)/\H4 dh=some (.lst [V.ref pc,V.int m,V.int r,V.int ((n+1:Nat):Int)])/\H4 pc=some (.lst (cs.map V.int))/\bM H H4 dh pc)
   (fun _ H4=>match H4 dh with | some (.lst [_,.int m,_,_])=>((cs.length:Int) - m).toNat | _=>0) ⟨rfl,m,hm0,hm1,d1,p1,f1⟩ ?_ ?_
  ·rintro σ H4 ⟨rfl,m,hm0,hm1,d4,p4,f4⟩
   have qd:Cg K H4 dh _:=.inl (.inl d4)
   have qc:Cg K H4 pc _:=.inl (.inl p4)
   refine ⟨_,rfl,dh,_,_,_,rfl,rfl,qd,Ag (j:=1) rfl,_,rfl,pc,_,rfl,.inl qc,_,_,rfl,rfl,_,rfl,?_⟩
   refine B_ (fun h1=>?_) (fun h1=>?_)
   ·have h1':m<cs.length:=by have:=of_decide_eq_true h1; omega
    obtain ⟨c,ec,hc,hat⟩:=Le (ns:=cs) (i:=m) hm0 h1'
    refine ⟨_,rfl,_,rfl,dh,_,_,_,rfl,rfl,qd,Ag (j:=1) rfl,pc,_,_,_,rfl,rfl,qc,hat,rfl,_,rfl,?_⟩
    refine B_ (fun h2=>?_) (fun h2=>?_)
    ·refine ⟨_,rfl,dh,_,_,_,rfl,rfl,qd,Ag (j:=1) rfl,_,_,rfl,rfl,_,rfl,dh,_,1,1,rfl,rfl,d4,rfl,?_⟩
     have d5:upd H4 dh (HO.lst ([V.ref pc,V.int m,V.int r,V.int ((n+1:Nat):Int)].set 1 (V.int (m+1)))) dh=some (.lst [V.ref pc,V.int (m+1),V.int r,V.int ((n+1:Nat):Int)]):=Af
     refine ⟨⟨rfl,m+1,by omega,by omega,d5,by rw [Al (Ne.symm ne)]; exact p4,fun b h3 h4=>by rw [Al h3]; exact f4 b h3 h4⟩,?_⟩
     dsimp only
     rw [d4,d5]
     show ((cs.length:Int) - (m+1)).toNat<((cs.length:Int) - m).toNat
     omega
    ·have hcz:c ≠ 0:=fun z=>h2 (by rw [z]; rfl)
     refine ⟨_,rfl,dh,_,_,_,rfl,rfl,qd,Ag (j:=1) rfl,_,rfl,pc,_,rfl,.inl qc,rfl,_,rfl,?_⟩
     refine B_ (fun h3=>?_) (fun h3=>?_)
     ·have h3':V.int m=V.int ((cs.map V.int).length:Int):=of_decide_eq_true h3
      have:=V.int.inj h3'
      omega
     ·refine ⟨_,rfl,_,rfl,dh,_,_,_,rfl,rfl,qd,Ag (j:=1) rfl,pc,_,_,_,rfl,rfl,qc,hat,_,rfl,_,_,rfl,rfl,hma,?_⟩
      refine ⟨_,rfl,_,rfl,dh,_,_,_,rfl,rfl,qd,Ag (j:=1) rfl,pc,_,_,_,rfl,rfl,qc,hat,_,rfl,_,_,rfl,rfl,⟨hma,hmb⟩,_,rfl,_,rfl,dh,_,_,_,rfl,rfl,qd,Ag (j:=1) rfl,pc,_,_,m.toNat,rfl,rfl,p4,Ss hm0 (by omega),?_⟩
      have l5:upd H4 pc (HO.lst ((cs.map V.int).set m.toNat (V.int (c / many)))) pc=some (.lst ((cs.set m.toNat (c / many)).map V.int)):=by rw [Af,List.map_set]
      refine ⟨_,rfl,q (c % many) _ (Int.emod_nonneg _ (by omega)) (Int.emod_lt_of_pos _ hma) ⟨cs.set m.toNat (c / many),m,r,by rw [Al ne]; exact d4,l5,ne,fun x hx=>?_,hm0,by rw [List.length_set]; omega,hr0,hr1,by rw [List.length_set]; exact hl⟩ (fun b h3 h4=>by rw [Al h4]; exact f4 b h3 h4)⟩
      rcases List.mem_or_eq_of_mem_set hx with h | h
      ·exact hn x h
      ·rw [h]
       exact Int.ediv_nonneg (hn c hc) (by omega)
   ·have h1':¬ m<cs.length:=fun z=>h1 (decide_eq_true (by omega))
    have em:m=((cs.map V.int).length:Int):=by omega
    refine ⟨_,rfl,dh,_,_,_,rfl,rfl,qd,Ag (j:=1) rfl,_,rfl,pc,_,rfl,.inl qc,rfl,_,rfl,?_⟩
    refine B_ (fun h3=>?_) (fun h3=>absurd (decide_eq_true (by rw [em])) h3)
    refine ⟨_,rfl,dh,_,_,_,rfl,rfl,qd,Ag (j:=3) rfl,?_⟩
    refine ⟨_,rfl,dh,_,_,_,rfl,rfl,qd,Ag (j:=2) rfl,_,_,rfl,rfl,.inr ⟨by decide,by decide⟩,_,rfl,_,rfl,_,_,rfl,rfl,.inl ⟨by omega,by omega⟩,_,rfl,_,_,rfl,rfl,.inr ⟨by omega,by omega⟩,_,_,rfl,rfl,_,_,rfl,rfl,_,_,rfl,rfl,(by show (0:Int)<2147483647; decide),_,rfl,dh,_,2,2,rfl,rfl,d4,rfl,?_⟩
    dsimp only
    have hb0:=Int.emod_nonneg (r * 48271+((n+1:Nat):Int) * ((n+1:Nat):Int) * ((n+1:Nat):Int)+1) (show (2147483647:Int) ≠ 0 by decide)
    have hb1:=Int.emod_lt_of_pos (r * 48271+((n+1:Nat):Int) * ((n+1:Nat):Int) * ((n+1:Nat):Int)+1) (show (0:Int)<2147483647 by decide)
    generalize (r * 48271+((n+1:Nat):Int) * ((n+1:Nat):Int) * ((n+1:Nat):Int)+1) % 2147483647=r2 at hb0 hb1 ⊢
    have d5:upd H4 dh (HO.lst ([V.ref pc,V.int m,V.int r,V.int ((n+1:Nat):Int)].set 2 (V.int r2))) dh=some (.lst [V.ref pc,V.int m,V.int r2,V.int ((n+1:Nat):Int)]):=Af
    have p5:upd H4 dh (HO.lst ([V.ref pc,V.int m,V.int r,V.int ((n+1:Nat):Int)].set 2 (V.int r2))) pc=some (.lst (cs.map V.int)):=by rw [Al (Ne.symm ne)]; exact p4
    have f5:bM H (upd H4 dh (HO.lst ([V.ref pc,V.int m,V.int r,V.int ((n+1:Nat):Int)].set 2 (V.int r2)))) dh pc:=fun b h3 h4=>by rw [Al h3]; exact f4 b h3 h4
    generalize upd H4 dh (HO.lst ([V.ref pc,V.int m,V.int r,V.int ((n+1:Nat):Int)].set 2 (V.int r2)))=H5 at d5 p5 f5 ⊢
    have qd5:Cg K H5 dh _:=.inl (.inl d5)
    refine ⟨_,rfl,dh,_,_,_,rfl,rfl,qd5,Ag (j:=2) rfl,_,rfl,dh,_,_,_,rfl,rfl,qd5,Ag (j:=2) rfl,_,_,rfl,rfl,.inl ⟨by omega,by omega⟩,_,_,rfl,rfl,(by show (0:Int)<2147483629; decide),_,_,rfl,rfl,⟨by decide,by decide⟩,_,rfl,_,_,rfl,rfl,hma,?_⟩
    exact q _ _ (Int.emod_nonneg _ (by omega)) (Int.emod_lt_of_pos _ hma) ⟨cs,m,r2,d5,p5,ne,hn,hm0,hm1,hb0,hb1,hl⟩ f5
  ·rintro σ H4 Q1 Q2 hq ⟨v,e1,p,xs,i,z,e2,e3,hs,ha,v2,e4,p2,ys,e5,hy,i2,j2,e6,e7,k,e8,hh⟩
   refine ⟨v,e1,p,xs,i,z,e2,e3,hs,ha,v2,e4,p2,ys,e5,hy,i2,j2,e6,e7,k,e8,?_⟩
   cases k with
   | false =>
    rw [if_neg Bool.false_ne_true] at hh
    exact Gh (hq _ _ hh)
   | true =>
    rw [if_pos rfl] at hh
    obtain ⟨v3,f1,v4,f2,p3,xs3,i3,z3,f3,f4,hs3,ha3,p4,xs4,i4,z4,f5,f6,hs4,ha4,f7,k2,f8,hQ⟩:=hh
    exact GZ ⟨v3,f1,v4,f2,p3,xs3,i3,z3,f3,f4,hs3,ha3,p4,xs4,i4,z4,f5,f6,hs4,ha4,f7,k2,f8,hq _ _ hQ⟩
open Bw
noncomputable def CW (H H':Hp) (dh pc:Addr):Prop:=∀ b u,b ≠ dh->b ≠ pc->H b=some u->H' b=some u
theorem CW.trans {H H1 H2:Hp} {dh pc:Addr} (a:CW H H1 dh pc) (b:CW H1 H2 dh pc):CW H H2 dh pc:=fun c u h1 h2 e=>b c u h1 h2 (a c u h1 h2 e)
theorem CW.of2 {H H1:Hp} {dh pc:Addr} (a:bM H H1 dh pc):CW H H1 dh pc:=fun c u h1 h2 e=>by rw [a c h1 h2]; exact e
theorem CW.of {H H1:Hp} {dh pc:Addr} (a:Ak H H1):CW H H1 dh pc:=fun c u _ _ e=>a c u e
structure Uh (H:Hp) (pS dh pc:Addr) (sz:List Nat):Prop where
 l:H pS=some (.lst (nV sz))
 n1:pS ≠ dh
 n2:pS ≠ pc
 l1:1<=sz.length
 l3:sz.length<=3
 z:∀ x∈sz,1<=x/\x<=61
theorem Uh.fr {H H':Hp} {pS dh pc:Addr} {sz:List Nat} (h:Uh H pS dh pc sz) (f:CW H H' dh pc):Uh H' pS dh pc sz:=⟨f _ _ h.n1 h.n2 h.l,h.n1,h.n2,h.l1,h.l3,h.z⟩
theorem Uh.len {H:Hp} {pS dh pc:Addr} {sz:List Nat} (h:Uh H pS dh pc sz):(nV sz).length=sz.length:=by unfold nV; exact List.length_map ..
noncomputable def Wh (H:Hp) (p:Addr) (g:Gp):Prop:=∃ vs,H p=some (.lst vs)/\Paired (fun (r:R) v=>TupAt H r.v v) g.rows vs
theorem SQ {G:Prop} {K:Int->Hp->Prop} (P:Int->Hp->Prop) (h1:(∀ s H,P s H->K s H)->G) (h2:∀ s H,P s H->K s H):G:=h1 h2
noncomputable def We:Sp:=fun vs H Q _=>∃ (dh pc:Addr) (n k:Nat) (pS:Addr) (sz:List Nat),vs=[.ref dh,.int (k:Nat),.ref pS]/\DH H dh pc n/\n<100000/\Uh H pS dh pc sz/\k<8 /\
 ∀ (p:Addr) (i j:Nat) (s:Int) (n':Nat) H',H p=none->p ≠ dh->p ≠ pc->Wh H' p (.cp k i j s)->(Gp.cp k i j s).ok sz 0->DH H' dh pc n'->n'<=n+5->CW H H' dh pc->Q (.ref p) H'
theorem U4:Ay ["_law_drawn_here","_law_k","_law_sizes","_law_shift","_law_first"] ["_law_drawn_here","_law_k","_law_sizes"] (Ab Y9):=⟨rfl,rfl,rfl,by decide +kernel,rfl,by decide +kernel,by decide +kernel⟩
include N T in
theorem dW:A_ P w K mg base Bf 2 fLc dLc ["_law_drawn_here","_law_k","_law_sizes"] We:=by
 have GDw:A_ P w K mg base Bf 1 fDw dDw ["_law_drawn_here","_law_many"] VH:=Sx N T
 refine N.FLc.1.ok U4 (fun vs H Q E h=>?_) (fun cdv A outer s H vs Q E hr h=>?_)
 ·obtain ⟨dh,pc,n,k,pS,sz,rfl,_⟩:=h
  rfl
 ·obtain ⟨dh,pc,n,k,pS,sz,rfl,D,hn,S,hk,q⟩:=h
  have hrDw:BZ 1 _:=hr.mono (by decide)
  refine ⟨_,(@Ae _ _ _ _ _ (@BW _ _ _ _ _ _ 3 U4.nd rfl (Or.inl rfl) (BK Ec (Ai GDw hrDw rfl N.FDw.2.2 N.FDw.1.kp N.FDw.2.1 .nil Av (@Az _ _ _ _ _ rfl (pv 0) (@Az _ _ _ _ _ rfl Ad Ac))) Ad) (by kernel_rfl) (.inl rfl))
   (@Ae _ _ _ _ _ (@Ce _ _ _ _ _ _ _ _ (Bc Dj (Ai GDw hrDw rfl N.FDw.2.2 N.FDw.1.kp N.FDw.2.1 .nil Av (@Az _ _ _ _ _ rfl (pv 0) (@Az _ _ _ _ _ rfl Ad Ac))) Ad (Bm _)) (@Ah _ _ _ (@BW _ _ _ _ _ _ 3 U4.nd rfl (Or.inl rfl) (BK Ec (Ai GDw hrDw rfl N.FDw.2.2 N.FDw.1.kp N.FDw.2.1 .nil Av (@Az _ _ _ _ _ rfl (pv 0) (@Az _ _ _ _ _ rfl Ad Ac))) Ad) (by kernel_rfl) (.inl rfl))) Bh)
   (@Ae _ _ _ _ _ (@BW _ _ _ _ _ _ 4 U4.nd rfl (Or.inl rfl) (@Ar _ _ _ _ _ _ _ Fo Ba (Ai GDw hrDw rfl N.FDw.2.2 N.FDw.1.kp N.FDw.2.1 .nil Av (@Az _ _ _ _ _ rfl (pv 0) (@Az _ _ _ _ _ rfl (BR BV rfl T.len PySem.boot_len (@Az _ _ _ _ _ rfl (pv 2) Ac)) Ac))) (fun _ _=>rfl)) (by kernel_rfl) (.inl rfl))
   (@Ah _ _ _ (@BL _ _ _ _ (@Dw _ _ _ _ (@Az _ _ _ _ _ rfl (@DG _ _ _ _ _ (@Az _ _ _ _ _ rfl Ba (@Az _ _ _ _ _ rfl (BK Hm Ba (@Ar _ _ _ _ _ _ _ Fo Ba (pv 1) (fun _ _=>rfl))) (@Az _ _ _ _ _ rfl (pv 4) (@Az _ _ _ _ _ rfl (@Ar _ _ _ _ _ _ _ Fo Ba (Ai GDw hrDw rfl N.FDw.2.2 N.FDw.1.kp N.FDw.2.1 .nil Av (@Az _ _ _ _ _ rfl (pv 0) (@Az _ _ _ _ _ rfl (BR BV rfl T.len PySem.boot_len (@Az _ _ _ _ _ rfl (pv 2) Ac)) Ac))) (fun _ _=>rfl)) (@Az _ _ _ _ _ rfl (pv 3) Ac)))))) Ac))))))),?_⟩
  have hl1:=S.l1
  have hl3:=S.l3
  have hln:=S.len
  refine ⟨_,rfl,dh,pc,n,11,rfl,D,by omega,by decide,by decide,fun x H1 x0 x1 D1 f1=>⟨_,_,rfl,rfl,?_⟩⟩
  apply SQ (P:=fun s H'=>-60<=s/\s<=60/\(∃ n',DH H' dh pc n'/\n'<=n+3)/\CW H H' dh pc)
  case h1 =>
   intro rest
   refine ⟨_,rfl,dh,pc,n+1,9,rfl,D1,by omega,by decide,by decide,fun y H2 y0 y1 D2 f2=>⟨rfl,_,rfl,B_ (fun _=>?_) (fun _=>?_)⟩⟩
   ·refine ⟨_,rfl,dh,pc,n+1+1,121,rfl,D2,by omega,by decide,by decide,fun z H3 z0 z1 D3 f3=>⟨_,_,rfl,rfl,?_⟩⟩
    have hb : -60<=z - 60/\z - 60<=60:=by omega
    show O4 _ ((_:St).set 3 (some (V.int (z - 60)))) H3
    generalize z - 60=s at hb ⊢
    exact rest s H3 ⟨hb.1,hb.2,⟨_,D3,by omega⟩,(CW.of2 f1).trans ((CW.of2 f2).trans (CW.of2 f3))⟩
   ·have hb : -60<=x - 5/\x - 5<=60:=by omega
    have F2:=(CW.of2 f1).trans (CW.of2 f2)
    exact rest _ H2 ⟨hb.1,hb.2,⟨_,D2,by omega⟩,F2⟩
  rintro s H3 ⟨s0,s1,⟨n3,D3,hn3⟩,F3⟩
  refine ⟨_,rfl,_,rfl,pS,_,rfl,.inl (.inl (.inl (S.fr F3).l)),dh,pc,n3,_,rfl,D3,by omega,by omega,by omega,fun i H4 i0 i1 D4 f4=>?_⟩
  obtain ⟨i,rfl⟩:∃ m:Nat,i=(m:Int):=⟨i.toNat,by omega⟩
  obtain ⟨c1,hc1,ec1⟩:=MT (k:=i) (by omega)
  obtain ⟨c2,hc2,ec2⟩:=bY hk
  have F4:=F3.trans (CW.of2 f4)
  refine ⟨"xyz",_,c1,rfl,rfl,by decide,hc1,?_⟩
  rw [ec1]
  refine ⟨_,rfl,"abcdefgh",_,c2,rfl,rfl,by decide,hc2,"c",_,rfl,rfl,by show 2<=sizeLine; decide,_,rfl,_,rfl,_,rfl,pS,_,rfl,.inl (.inl (.inl (S.fr F4).l)),dh,pc,_,_,rfl,D4,by omega,by omega,by omega,fun j H5 j0 j1 D5 f5=>?_⟩
  obtain ⟨j,rfl⟩:∃ m:Nat,j=(m:Int):=⟨j.toNat,by omega⟩
  obtain ⟨c3,hc3,ec3⟩:=MT (k:=j) (by omega)
  refine ⟨"xyz",_,c3,rfl,rfl,by decide,hc3,_,rfl,by show 5<=sizeLine; decide,fun T hT=>⟨by show 1<=sizeLine; decide,fun p hp=>?_⟩⟩
  rw [ec2,ec3] at hp ⊢
  have F5:=F4.trans (CW.of2 f5)
  have s6:=An (o:=HO.tup [V.str "coupler",V.str (O8.getD k ""),V.str (Fg i),V.str (Fg j),V.int s]) hT
  have a6:upd H5 T (HO.tup [V.str "coupler",V.str (O8.getD k ""),V.str (Fg i),V.str (Fg j),V.int s]) T=some (.tup (Gp.cp k i j s).head.v):=Af
  generalize upd H5 T (HO.tup [V.str "coupler",V.str (O8.getD k ""),V.str (Fg i),V.str (Fg j),V.int s])=H6 at s6 a6 hp ⊢
  have s7:=An (o:=HO.lst [V.ref T]) hp
  have D6:=D5.same s6
  obtain ⟨_,_,_,e1,e2,_⟩:=id D6
  have F7:=F5.trans (CW.of (s6.trans s7))
  have nd:p ≠ dh:=Ne.symm (Aj e1 hp)
  have np:p ≠ pc:=Ne.symm (Aj e2 hp)
  have hp0:H p=none:=by
   cases e:H p with
   | none=>rfl
   | some u =>
    have:=(F5.trans (CW.of s6)) p u nd np e
    rw [hp] at this
    cases this
  exact q p i j s _ _ hp0 nd np ⟨[V.ref T],Af,.cons ⟨T,rfl,s7 _ _ a6⟩ .nil⟩ ⟨hk,by omega,by omega,s0,s1⟩ (D6.same s7) (by omega) F7
theorem Rw {H H':Hp} {dh pc:Addr} {n:Nat} {xs:List V} {y:V} (D:DH H dh pc n) (f:CW H H' dh pc) (h:TupAt H xs y):TupAt H' xs y:=by
 obtain ⟨T,rfl,e⟩:=h
 obtain ⟨_,_,_,e1,e2,_⟩:=D
 exact ⟨T,rfl,f _ _ (fun z=>by rw [z,e1] at e; cases e) (fun z=>by rw [z,e2] at e; cases e) e⟩
theorem Ij {H H':Hp} {dh pc:Addr} {n:Nat} {rs:List R} {vs:List V} (D:DH H dh pc n) (f:CW H H' dh pc) (h:Paired (fun (r:R) v=>TupAt H r.v v) rs vs):Paired (fun (r:R) v=>TupAt H' r.v v) rs vs:=Paired.Eo h fun _ _ z=>Rw D f z
theorem VL (k b:Nat) (ls:List Ln) (l:Ln):(Gp.st k b (ls++[l])).rows=(Gp.st k b ls).rows++[Lr l]:=by
 show _::(ls++[l]).map Lr=_::ls.map Lr++[Lr l]
 rw [List.map_append]
 rfl
noncomputable def fG:Sp:=fun vs H Q _=>∃ (dh pc:Addr) (n k:Nat) (pS:Addr) (sz:List Nat) (nr:Nat),vs=[.ref dh,.int (k:Nat),.ref pS,.int (nr:Nat)]/\DH H dh pc n/\n<100000/\Uh H pS dh pc sz/\k<8/\1<=nr/\nr<=3 /\
 ∀ (p:Addr) (b:Nat) (ls:List Ln) (n':Nat) H',H p=none->p ≠ dh->p ≠ pc->Wh H' p (.st k b ls)->(Gp.st k b ls).ok sz nr->DH H' dh pc n'->n'<=n+40->CW H H' dh pc->Q (.ref p) H'
theorem NT:Ay ["_law_drawn_here","_law_k","_law_sizes","_law_ranks","_law_board","_law_rows","_law_line","_law_low","_law_high","_law_shift"] ["_law_drawn_here","_law_k","_law_sizes","_law_ranks"] (Ab ZL):=⟨rfl,rfl,rfl,by decide +kernel,rfl,by decide +kernel,by decide +kernel⟩
include N T in
theorem fW:A_ P w K mg base Bf 2 fLs dLs ["_law_drawn_here","_law_k","_law_sizes","_law_ranks"] fG:=by
 have GDw:A_ P w K mg base Bf 1 fDw dDw ["_law_drawn_here","_law_many"] VH:=Sx N T
 refine N.FLs.1.ok NT (fun vs H Q E h=>?_) (fun cdv A outer s H vs Q E hr h=>?_)
 ·obtain ⟨dh,pc,n,k,pS,sz,nr,rfl,_⟩:=h
  rfl
 ·obtain ⟨dh,pc,n,k,pS,sz,nr,rfl,D,hn,S,hk,nr1,nr3,q⟩:=h
  have hrDw:BZ 1 _:=hr.mono (by decide)
  refine ⟨_,(@Ae _ _ _ _ _ (@BW _ _ _ _ _ _ 4 NT.nd rfl (Or.inl rfl) (Ai GDw hrDw rfl N.FDw.2.2 N.FDw.1.kp N.FDw.2.1 .nil Av (@Az _ _ _ _ _ rfl (pv 0) (@Az _ _ _ _ _ rfl (BR BV rfl T.len PySem.boot_len (@Az _ _ _ _ _ rfl (pv 2) Ac)) Ac))) (by kernel_rfl) (.inl rfl))
   (@Ae _ _ _ _ _ (@BW _ _ _ _ _ _ 5 NT.nd rfl (Or.inl rfl) (@Dw _ _ _ _ (@Az _ _ _ _ _ rfl (@DG _ _ _ _ _ (@Az _ _ _ _ _ rfl Ba (@Az _ _ _ _ _ rfl (BK Hm Ba (@Ar _ _ _ _ _ _ _ Fo Ba (pv 1) (fun _ _=>rfl))) (@Az _ _ _ _ _ rfl (@Ar _ _ _ _ _ _ _ Fo Ba (pv 4) (fun _ _=>rfl)) Ac)))) Ac)) (by kernel_rfl) (.inl rfl))
   (@Ae _ _ _ _ _ (Cp PassesOwn.never rfl (Bs rfl T.range (@Az _ _ _ _ _ rfl (Ai GDw hrDw rfl N.FDw.2.2 N.FDw.1.kp N.FDw.2.1 .nil Av (@Az _ _ _ _ _ rfl (pv 0) (@Az _ _ _ _ _ rfl Ad Ac))) Ac)) (Bp (i:=6) NT.nd rfl (Or.inl rfl)) (@Ae _ _ _ _ _ (@BW _ _ _ _ _ _ 7 NT.nd rfl (Or.inl rfl) (Ai GDw hrDw rfl N.FDw.2.2 N.FDw.1.kp N.FDw.2.1 .nil Av (@Az _ _ _ _ _ rfl (pv 0) (@Az _ _ _ _ _ rfl (@Ar _ _ _ _ _ _ _ Bb (pv 2) (pv 4) (fun _ _=>rfl)) Ac))) (by kernel_rfl) (.inl rfl))
   (@Ae _ _ _ _ _ (@BW _ _ _ _ _ _ 8 NT.nd rfl (Or.inl rfl) (BK Ca (pv 7) (Ai GDw hrDw rfl N.FDw.2.2 N.FDw.1.kp N.FDw.2.1 .nil Av (@Az _ _ _ _ _ rfl (pv 0) (@Az _ _ _ _ _ rfl (BK Ec (@Ar _ _ _ _ _ _ _ Bb (pv 2) (pv 4) (fun _ _=>rfl)) (pv 7)) Ac)))) (by kernel_rfl) (.inl rfl))
   (@Ae _ _ _ _ _ (@BW _ _ _ _ _ _ 9 NT.nd rfl (Or.inl rfl) (BK Ec (Ai GDw hrDw rfl N.FDw.2.2 N.FDw.1.kp N.FDw.2.1 .nil Av (@Az _ _ _ _ _ rfl (pv 0) (@Az _ _ _ _ _ rfl Ad Ac))) Ad) (by kernel_rfl) (.inl rfl))
   (@Ae _ _ _ _ _ (@Ce _ _ _ _ _ _ _ _ (Bc Dj (Ai GDw hrDw rfl N.FDw.2.2 N.FDw.1.kp N.FDw.2.1 .nil Av (@Az _ _ _ _ _ rfl (pv 0) (@Az _ _ _ _ _ rfl Ad Ac))) Ad (Bm _)) (@Ah _ _ _ (@BW _ _ _ _ _ _ 9 NT.nd rfl (Or.inl rfl) (BK Ec (Ai GDw hrDw rfl N.FDw.2.2 N.FDw.1.kp N.FDw.2.1 .nil Av (@Az _ _ _ _ _ rfl (pv 0) (@Az _ _ _ _ _ rfl Ad Ac))) Ad) (by kernel_rfl) (.inl rfl))) Bh)
   (@Ah _ _ _ (Ed (Ih PySem.F.plainAttrs_list PySem.F.slot_list_append PySem.F.type_list_append Cm (pv 5) (@Az _ _ _ _ _ rfl (@DG _ _ _ _ _ (@Az _ _ _ _ _ rfl Ba (@Az _ _ _ _ _ rfl (@Ar _ _ _ _ _ _ _ Fo Ba (Ai GDw hrDw rfl N.FDw.2.2 N.FDw.1.kp N.FDw.2.1 .nil Av (@Az _ _ _ _ _ rfl (pv 0) (@Az _ _ _ _ _ rfl (pv 3) Ac))) (fun _ _=>rfl)) (@Az _ _ _ _ _ rfl (pv 9) (@Az _ _ _ _ _ rfl (pv 7) (@Az _ _ _ _ _ rfl (pv 8) Ac)))))) Ac)))))))))
   (@Ah _ _ _ (@BL _ _ _ _ (pv 5)))))),?_⟩
  have hl1:=S.l1
  have hl3:=S.l3
  have hln:=S.len
  refine ⟨_,rfl,_,rfl,pS,_,rfl,.inl (.inl (.inl S.l)),dh,pc,n,_,rfl,D,by omega,by omega,by omega,fun b H1 b0 b1 D1 f1=>?_⟩
  obtain ⟨b,rfl⟩:∃ m:Nat,b=(m:Int):=⟨b.toNat,by omega⟩
  obtain ⟨c1,hc1,ec1⟩:=MT (k:=b) (by omega)
  obtain ⟨c2,hc2,ec2⟩:=gC hk
  have F1:=CW.of2 f1
  refine ⟨_,rfl,"abcdefgh",_,c2,rfl,rfl,by decide,hc2,"s",_,rfl,rfl,by show 2<=sizeLine; decide,_,rfl,"xyz",_,c1,rfl,rfl,by decide,hc1,by show 3<=sizeLine; decide,fun T hT=>⟨by show 1<=sizeLine; decide,fun l hl=>?_⟩⟩
  rw [ec1,ec2] at hl ⊢
  have s2:=An (o:=HO.tup [V.str "stop",V.str (stL.getD k ""),V.str (Fg b)]) hT
  have a2:upd H1 T (HO.tup [V.str "stop",V.str (stL.getD k ""),V.str (Fg b)]) T=some (.tup (Gp.st k b []).head.v):=Af
  generalize upd H1 T (HO.tup [V.str "stop",V.str (stL.getD k ""),V.str (Fg b)])=H2 at s2 a2 hl ⊢
  have s3:=An (o:=HO.lst [V.ref T]) hl
  have D2:=D1.same s2
  obtain ⟨_,_,_,e1,e2,_⟩:=id D2
  have F2:=F1.trans (CW.of s2)
  have nd:l ≠ dh:=Ne.symm (Aj e1 hl)
  have np:l ≠ pc:=Ne.symm (Aj e2 hl)
  have hl0:H l=none:=by
   cases e:H l with
   | none=>rfl
   | some u =>
    have:=F2 l u nd np e
    rw [hl] at this
    cases this
  have P3:Paired (fun (r:R) v=>TupAt (upd H2 l (HO.lst [V.ref T])) r.v v) (Gp.st k b []).rows [V.ref T]:=.cons ⟨T,rfl,s3 _ _ a2⟩ .nil
  have a3:upd H2 l (HO.lst [V.ref T]) l=some (.lst [V.ref T]):=Af
  have D3:=D2.same s3
  have F3:=F2.trans (CW.of (dh:=dh) (pc:=pc) s3)
  generalize upd H2 l (HO.lst [V.ref T])=H3 at s3 P3 a3 D3 F3 ⊢
  clear e1 e2 s2 s3 a2 hl hT F1 F2 f1
  refine ⟨_,rfl,dh,pc,_,5,rfl,D3,by omega,by decide,by decide,fun m H4 m0 m1 D4 f4=>⟨_,rfl,by omega,by omega,?_⟩⟩
  have F4:=F3.trans (CW.of2 f4)
  have P4:=Ij D3 (CW.of2 f4) P3
  have a4:H4 l=some (.lst [V.ref T]):=by rw [f4 l nd np]; exact a3
  have zb:1<=sz.getD b 0/\sz.getD b 0<=61:=by
   rw [List.getD_eq_getElem?_getD,List.getElem?_eq_getElem (by omega)]
   exact S.z _ (List.getElem_mem _)
  have hat:=Iu (l:=sz) (i:=b) (by omega)
  obtain ⟨z,hz⟩:∃ z,sz.getD b 0=z:=⟨_,rfl⟩
  rw [hz] at zb hat
  refine Dq (lo:=0) (n:=m.toNat) (fun i σ H5=>∃ (ls:List Ln) (vs:List V) (nn:Nat) (v6 v7 v8 v9:Option V),σ=[some (.ref dh),some (.int (k:Nat)),some (.ref pS),some (.int (nr:Nat)),some (.int (b:Nat)),some (.ref l),v6,v7,v8,v9]/\H5 l=some (.lst vs)/\Paired (fun (r:R) v=>TupAt H5 r.v v) (Gp.st k b ls).rows vs/\ls.length=i/\(∀ t∈ls,Wm z nr t)/\DH H5 dh pc nn/\nn<=n+2+6 * i/\CW H H5 dh pc) ⟨[],[V.ref T],_,_,_,_,_,rfl,a4,P4,rfl,fun _ h=>absurd h List.not_mem_nil,D4,by omega,F4⟩ ?_ ?_
  ·rintro i σ H5 hi ⟨ls,vs,nn,v6,v7,v8,v9,rfl,a5,P5,li,ok5,D5,hnn,F5⟩
   have i4:i<5:=by omega
   have S5:=S.fr F5
   have lvs:=P5.length
   have lrow:(Gp.st k b ls).rows.length=1+i:=by
    show (_::ls.map Lr).length=_
    rw [List.length_cons,List.length_map,li]
    omega
   refine ⟨_,rfl,_,rfl,_,rfl,pS,_,_,_,rfl,rfl,.inl (.inl S5.l),hat,dh,pc,nn,_,rfl,D5,by omega,by omega,by omega,fun lo H6 lo0 lo1 D6 f6=>?_⟩
   have F6:=F5.trans (CW.of2 f6)
   refine ⟨_,rfl,_,rfl,_,rfl,_,rfl,pS,_,_,_,rfl,rfl,.inl (.inl (S.fr F6).l),hat,_,rfl,_,_,rfl,rfl,dh,pc,_,_,rfl,D6,by omega,by omega,by omega,fun dd H7 d0 d1 D7 f7=>⟨_,_,rfl,rfl,?_⟩⟩
   have F7:=F6.trans (CW.of2 f7)
   show Cq 8 (V.int (lo+dd)) _ H7 _
   obtain ⟨hi7,ehi⟩:∃ x:Int,lo+dd=x:=⟨_,rfl⟩
   rw [ehi]
   refine ⟨_,rfl,dh,pc,_,19,rfl,D7,by omega,by decide,by decide,fun x H8 x0 x1 D8 f8=>⟨_,_,rfl,rfl,?_⟩⟩
   apply SQ (P:=fun s H'=>-200<=s/\s<=200/\(∃ n',DH H' dh pc n'/\n'<=nn+5)/\CW H5 H' dh pc/\H' l=some (.lst vs))
   case h1 =>
    intro rest
    have F58:CW H5 H8 dh pc:=(CW.of2 f6).trans ((CW.of2 f7).trans (CW.of2 f8))
    have a8:H8 l=some (.lst vs):=F58 _ _ nd np a5
    refine ⟨_,rfl,dh,pc,_,9,rfl,D8,by omega,by decide,by decide,fun y H9 y0 y1 D9 f9=>⟨rfl,_,rfl,B_ (fun _=>?_) (fun _=>?_)⟩⟩
    ·refine ⟨_,rfl,dh,pc,_,401,rfl,D9,by omega,by decide,by decide,fun u Ha u0 u1 Da fa=>⟨_,_,rfl,rfl,?_⟩⟩
     have hb : -200<=u - 200/\u - 200<=200:=by omega
     show O4 _ ((_:St).set 9 (some (V.int (u - 200)))) Ha
     generalize u - 200=s at hb ⊢
     have Fa:=F58.trans ((CW.of2 f9).trans (CW.of2 fa))
     exact rest s Ha ⟨hb.1,hb.2,⟨_,Da,by omega⟩,Fa,Fa _ _ nd np a5⟩
    ·have hb : -200<=x - 9/\x - 9<=200:=by omega
     have F9:=F58.trans (CW.of2 f9)
     exact rest _ H9 ⟨hb.1,hb.2,⟨_,D9,by omega⟩,F9,F9 _ _ nd np a5⟩
   rintro s H9 ⟨s0,s1,⟨n9,D9,hn9⟩,F9,a9⟩
   refine ⟨_,rfl,.inl ⟨rfl,_,.inl (.inl a9)⟩,_,rfl,_,rfl,dh,pc,n9,_,rfl,D9,by omega,by omega,by omega,fun r Ha r0 r1 Da fa=>?_⟩
   obtain ⟨r,rfl⟩:∃ m:Nat,r=(m:Int):=⟨r.toNat,by omega⟩
   obtain ⟨c3,hc3,ec3⟩:=V1 (k:=r) (by omega)
   have Fa:=F9.trans (CW.of2 fa)
   have aa:Ha l=some (.lst vs):=Fa _ _ nd np a5
   refine ⟨"uvw",_,c3,rfl,rfl,by decide,hc3,_,rfl,_,rfl,_,rfl,by show 5<=sizeLine; decide,fun t6 ht6=>?_⟩
   rw [ec3]
   have s6:=An (o:=HO.tup [V.str "line",V.str (G9 r),V.int s,V.int lo,V.int hi7]) ht6
   have a6:upd Ha t6 (HO.tup [V.str "line",V.str (G9 r),V.int s,V.int lo,V.int hi7]) t6=some (.tup (Lr ⟨r,s,lo,hi7⟩).v):=Af
   generalize upd Ha t6 (HO.tup [V.str "line",V.str (G9 r),V.int s,V.int lo,V.int hi7])=Hb at s6 a6 ⊢
   have ab:=s6 _ _ aa
   have Db:=Da.same s6
   have Fb:=Fa.trans (CW.of (dh:=dh) (pc:=pc) s6)
   have Pb:=Ij D5 Fb P5
   refine ⟨l,_,_,rfl,rfl,ab,Aq (by omega),?_⟩
   refine ⟨ls++[⟨r,s,lo,hi7⟩],vs++[V.ref t6],_,_,_,_,_,rfl,Af,?_,by rw [List.length_append,li]; rfl,fun t ht=>?_,Db.upd nd np,by omega,?_⟩
   ·rw [VL]
    exact Paired.snoc (CP Pb ab) (TupAt.upd ⟨t6,rfl,a6⟩ ab)
   ·rcases List.mem_append.mp ht with h | h
    ·exact ok5 t h
    ·rw [List.mem_singleton.mp h]
     exact ⟨by show r<nr; omega,s0,s1,lo0,by show lo<=hi7; omega,by show hi7<(z:Int); omega⟩
   ·intro c u h1 h2 e
    have:=(F5.trans Fb) c u h1 h2 e
    rw [Al (Aj e hl0)]
    exact this
  ·rintro σ H5 ⟨ls,vs,nn,v6,v7,v8,v9,rfl,a5,P5,li,ok5,D5,hnn,F5⟩
   exact ⟨_,rfl,q l b ls nn H5 hl0 nd np ⟨vs,a5,P5⟩ ⟨hk,by omega,by omega,by rw [hz]; exact ok5⟩ D5 (by omega) F5⟩
theorem Fd {lo:Int} {n:Nat} {σ:St} {H1:Hp} {Q:VK} {te:TE} (Pv:Addr->Nat->List V->Hp->Prop) (hz:n<sizeLine) (h0:∀ D,H1 D=none->Pv D 0 [] (upd H1 D (.lst []))) (hlen:∀ D i ys H,Pv D i ys H->ys.length=i)
  (he:∀ D i ys H,H1 D=none->i<n->Pv D i ys H->∀ R:VK,(∀ y H',H' D=some (.lst ys)->Pv D (i+1) (ys++[y]) (upd H' D (.lst (ys++[y])))->R y H')->te (some (.int (lo+(i:Nat)))::σ) H R)
  (hq:∀ D ys H,H1 D=none->Pv D n ys H->Q (.ref D) H):Fl (VM lo n) σ H1 Q Qe te:=by
 intro D hD
 refine ⟨fun i m ys H=>m=n - i/\i<=n/\Pv D i ys H,⟨n,by simp,Nat.zero_le _,h0 D hD⟩,?_⟩
 rintro i m ys H ⟨rfl,hi,p⟩
 by_cases hlt:i<n
 ·refine .inr ⟨hlt,fun x H3 hy=>?_⟩
  obtain ⟨e1,e2⟩:=hy
  subst e1 e2
  unfold Qe
  exact GZ (he D i ys _ hD hlt p _ fun y H' e pv=>⟨e,by have:=hlen D i ys _ p; omega,n - (i+1),by omega,rfl,hlt,pv⟩)
 ·have e:i=n:=by omega
  subst e
  exact .inl ⟨Nat.le_refl _,hq D ys H hD p⟩
noncomputable def bF:Sp:=fun vs H Q _=>∃ (p:Addr) (rw:List Nat) (n:Nat),vs=[.ref p,.int (n:Nat)]/\H p=some (.lst (nV rw))/\rw.length<=305/\Q (.int ((Za rw n:Nat):Int)) H
theorem Vm:Ay ["_law_rows","_law_held_here","_law_pipes","_law_key"] ["_law_rows","_law_held_here"] (Ab ZW):=⟨rfl,rfl,rfl,by decide +kernel,rfl,by decide +kernel,by decide +kernel⟩
include N T in
theorem aY:A_ P w K mg base Bf 1 fLj dLj ["_law_rows","_law_held_here"] bF:=by
 refine N.FLj.1.ok Vm (fun vs H Q E h=>?_) (fun cdv A outer s H vs Q E hr h=>?_)
 ·obtain ⟨p,rw,n,rfl,_⟩:=h
  rfl
 ·obtain ⟨p,rw,n,rfl,hp,h305,q⟩:=h
  refine ⟨_,(@Ae _ _ _ _ _ (@BW _ _ _ _ _ _ 2 Vm.nd rfl (Or.inl rfl) Ad (by kernel_rfl) (.inl rfl))
   (@Ae _ _ _ _ _ (Cp PassesOwn.never rfl (Bs rfl T.range (@Az _ _ _ _ _ rfl (BR BV rfl T.len PySem.boot_len (@Az _ _ _ _ _ rfl (pv 0) Ac)) Ac)) (Bp (i:=3) Vm.nd rfl (Or.inl rfl)) (@Ah _ _ _ (@Ce _ _ _ _ _ _ _ _ (Bc Dj (BK J2 (BK Oo (pv 1) (pv 3)) Ad) Ad (Bm _)) (@Ah _ _ _ (@BW _ _ _ _ _ _ 2 Vm.nd rfl (Or.inl rfl) (BK Kl (pv 2) (@Ar _ _ _ _ _ _ _ Bb (pv 0) (pv 3) (fun _ _=>rfl))) (by kernel_rfl) (.inl rfl))) Bh)))
   (@Ah _ _ _ (@BL _ _ _ _ (pv 2))))),?_⟩
  have hS:Cg K H p (nV rw):=.inl (.inl hp)
  have hn:(nV rw).length=rw.length:=by unfold nV; exact List.length_map ..
  have hnt:(((nV rw).length:Nat):Int).toNat=rw.length:=by rw [Int.toNat_natCast,hn]
  refine ⟨_,rfl,p,_,rfl,.inl hS,_,rfl,by omega,by omega,?_⟩
  rw [hnt]
  refine Dq (lo:=0) (n:=rw.length) (fun i σ H4=>H4=H/\∃ (v3:Option V),σ=[some (.ref p),some (.int (n:Nat)),some (.int ((Uc (((List.range i).filter fun i=>n.testBit i).map fun i=>rw.getD i 0):Nat):Int)),v3]) ⟨rfl,_,rfl⟩ ?_ ?_
  ·rintro i σ H4 hi ⟨rfl,v3,rfl⟩
   have et:((0:Int)+(i:Int))=((i:Nat):Int):=by omega
   rw [et]
   have er:((List.range (i+1)).filter fun i=>n.testBit i)=((List.range i).filter fun i=>n.testBit i)++(if n.testBit i=true then [i] else []):=by
    rw [List.range_succ,List.filter_append]
    congr 1
    by_cases h:n.testBit i=true
    ·simp [h]
    ·simp [h]
   refine ⟨_,rfl,_,rfl,_,_,rfl,rfl,by omega,_,_,rfl,rfl,rfl,_,rfl,?_⟩
   have eb:decide (V.int (Builtin.bitAnd ((n:Int) / 2 ^ ((i:Nat):Int).toNat) 1)=V.int 1)=n.testBit i:=by
    have:=T_ (n:=n) (i:=(i:Int))
    rw [Int.toNat_natCast] at this
    exact this
   dsimp only
   rw [eb]
   refine B_ (fun h=>?_) (fun h=>?_)
   ·refine ⟨_,rfl,_,rfl,_,rfl,p,_,_,_,rfl,rfl,hS,Iu hi,_,_,rfl,rfl,?_⟩
    refine ⟨rfl,some (.int ((i:Nat):Int)),?_⟩
    dsimp only
    rw [GJ,er,if_pos h,List.map_append,List.map_singleton,Lw]
    rfl
   ·refine ⟨rfl,some (.int ((i:Nat):Int)),?_⟩
    rw [er,if_neg h,List.append_nil]
    rfl
  ·rintro σ H4 ⟨rfl,v3,rfl⟩
   exact ⟨_,rfl,q⟩
open Bw
theorem Ey {X:Cx} {K:PySem.W.Frag} (hk:X.K=K):YL X (XH K):=by
 subst hk
 exact Bb
theorem Vr (l:List Nat) (x:Nat):nV l++[V.int ((x:Nat):Int)]=nV (l++[x]):=by
 unfold nV
 rw [List.map_append]
 rfl
theorem DH.ne {H:Hp} {dh pc p:Addr} {n:Nat} (D:DH H dh pc n) (h:H p=none):p ≠ dh/\p ≠ pc:=by
 obtain ⟨_,_,_,e1,e2,_⟩:=D
 exact ⟨Ne.symm (Aj e1 h),Ne.symm (Aj e2 h)⟩
theorem CW.free {H H':Hp} {dh pc p:Addr} (f:CW H H' dh pc) (h:H' p=none) (n1:p ≠ dh) (n2:p ≠ pc):H p=none:=by
 cases e:H p with
 | none=>rfl
 | some u =>
  have:=f p u n1 n2 e
  rw [h] at this
  cases this
theorem CW.put {H H':Hp} {dh pc p:Addr} {u:HO} (f:CW H H' dh pc) (h:H p=none):CW H (upd H' p u) dh pc:=fun b v h1 h2 e=>by
 rw [Al (Aj e h)]
 exact f b v h1 h2 e
theorem Xe {sz:List Nat} {i:Nat} (h:i<sz.length):(Fx sz)[i]? = some (Fg i,sz.getD i 0):=by
 unfold Fx
 rw [List.getElem?_map,List.getElem?_zipIdx,List.getD_eq_getElem?_getD,List.getElem?_eq_getElem h]
 simp
theorem Up (sz:List Nat):(Fx sz).length=sz.length:=by unfold Fx; rw [List.length_map,List.length_zipIdx]
theorem Tt (rk:List (Nat × Int)) (x:Nat × Int):Gg (rk++[x])=Gg rk++[(G9 rk.length,x.1,x.2)]:=by
 unfold Gg
 rw [List.zipIdx_append,List.map_append,Nat.zero_add]
 rfl
noncomputable def Kf (dh pc:Addr) (H:Hp) (g:Gp) (y:V):Prop:=∃ p,y=.ref p/\p ≠ dh/\p ≠ pc/\Wh H p g
theorem Kf.fr {H H':Hp} {dh pc:Addr} {n:Nat} {g:Gp} {y:V} (D:DH H dh pc n) (f:CW H H' dh pc) (h:Kf dh pc H g y):Kf dh pc H' g y:=by
 obtain ⟨p,rfl,n1,n2,vs,e,P⟩:=h
 exact ⟨p,rfl,n1,n2,vs,f _ _ n1 n2 e,Ij D f P⟩
theorem Kf.upd {H:Hp} {dh pc l:Addr} {us ws:List V} {g:Gp} {y:V} (hl:H l=some (.lst us)) (hne:y ≠ .ref l) (h:Kf dh pc H g y):Kf dh pc (upd H l (.lst ws)) g y:=by
 obtain ⟨p,rfl,n1,n2,vs,e,P⟩:=h
 refine ⟨p,rfl,n1,n2,vs,?_,CP P hl⟩
 rw [Al fun z=>hne (by rw [z])]
 exact e
theorem Dz {α β:Type} {F G:α->β->Prop}:∀ {l:List α} {m:List β},Paired F l m->(∀ a b,b∈m->F a b->G a b)->Paired G l m
 | _,_,.nil,_=>.nil
 | _,_,.cons r t,f=>.cons (f _ _ (List.mem_cons_self ..) r) (Dz t fun a b hb h=>f a b (List.mem_cons_of_mem _ hb) h)
theorem CJ {α β:Type} {F:α->β->Prop}:∀ {l1 l2:List α} {m1 m2:List β},Paired F l1 m1->Paired F l2 m2->Paired F (l1++l2) (m1++m2)
 | _,_,_,_,.nil,h=>h
 | _,_,_,_,.cons r t,h=>.cons r (CJ t h)
theorem Ri {xs:List V} {k:Nat}:Ef xs (some (k:Int)) none=xs.drop k:=by
 unfold Ef
 rw [HT.Jc,HT.MJ]
 by_cases h:k<=xs.length
 ·rw [Nat.min_eq_left h,List.take_of_length_le (by rw [List.length_drop]; omega)]
 ·rw [Nat.min_eq_right (by omega),Nat.sub_self,List.take_zero,List.drop_of_length_le (by omega)]
theorem Rb {sz:List Nat} {nr:Nat} {g:Gp} (h:g.ok sz nr):g.rows.length<=5:=by
 have e:g.rows.length=g.QM.length+1:=by unfold Gp.rows; rw [List.length_cons,List.length_map]
 rw [e]
 cases g with
 | st k b ls=>have:=h.2.2.1; show ls.length+1<=5; omega
 | cp k a b c=>show 0+1<=5; omega
 | mu k b=>show 0+1<=5; omega
theorem JS {α β:Type} {F:α->β->Prop}:∀ (t:Nat) {l:List α} {m:List β},Paired F l m->Paired F (l.drop t) (m.drop t)
 | 0,_,_,h=>h
 | _+1,_,_,.nil=>.nil
 | t+1,_,_,.cons _ h=>JS t h
theorem LR {ns:List Str} {gs:List Gp} (hl:gs.length<=ns.length) (h:∀ (j:Nat) g,gs[j]? = some g->g.nm=ns.getD j ""):gs.map Gp.nm=ns.take gs.length:=by
 refine List.ext_getElem? fun j=>?_
 rw [List.getElem?_map,List.getElem?_take]
 by_cases hj:j<gs.length
 ·rw [if_pos hj,List.getElem?_eq_getElem hj,List.getElem?_eq_getElem (by omega)]
  have:=h j _ (List.getElem?_eq_getElem hj)
  rw [List.getD_eq_getElem?_getD,List.getElem?_eq_getElem (by omega)] at this
  show some (gs[j].nm)=some ns[j]
  rw [this]
  rfl
 ·rw [if_neg hj,List.getElem?_eq_none (by omega)]
  rfl
theorem Xr:(stL++O8++QB).Nodup:=by decide +kernel
theorem Vb {sz:List Nat} {rk:List (Nat × Int)} {gs gs2 gs3:List Gp} {t:Nat} (l1:1<=sz.length) (l3:sz.length<=3) (z:∀ x∈sz,1<=x/\x<=61) (r1:1<=rk.length) (r3:rk.length<=3) (r:∀ x∈rk,1<=x.1/\x.1<=97/\0<=x.2/\x.2<=1000000000)
  (a1:∀ (j:Nat) g,gs[j]? = some g->∃ b ls,g=.st j b ls) (a2:∀ (j:Nat) g,gs2[j]? = some g->∃ a b c,g=.cp j a b c) (a3:∀ (j:Nat) g,gs3[j]? = some g->∃ b,g=.mu j b)
  (o1:∀ g∈gs,g.ok sz rk.length) (o2:∀ g∈gs2,g.ok sz rk.length) (o3:∀ g∈gs3,g.ok sz rk.length) (b1:gs.length<=5) (b2:gs2.length<=5) (b3:gs3.length<=2) :
  Ue sz rk ((gs++gs2++gs3).drop t++(gs++gs2++gs3).take t):=by
 have pm:((gs++gs2++gs3).drop t++(gs++gs2++gs3).take t).Perm (gs++gs2++gs3):=by
  refine List.perm_append_comm.trans ?_
  rw [List.take_append_drop]
 have e1:gs.map Gp.nm=stL.take gs.length:=LR (by show _<=8; omega) fun j g h=>by obtain ⟨b,ls,rfl⟩:=a1 j g h; rfl
 have e2:gs2.map Gp.nm=O8.take gs2.length:=LR (by show _<=8; omega) fun j g h=>by obtain ⟨a,b,c,rfl⟩:=a2 j g h; rfl
 have e3:gs3.map Gp.nm=QB.take gs3.length:=LR (by show _<=2; omega) fun j g h=>by obtain ⟨b,rfl⟩:=a3 j g h; rfl
 refine ⟨l1,l3,z,r1,r3,r,fun g hg=>?_,?_,by rw [pm.length_eq,List.length_append,List.length_append]; omega,?_⟩
 ·rcases List.mem_append.mp (pm.mem_iff.mp hg) with hg | hg
  ·rcases List.mem_append.mp hg with hg | hg
   ·exact o1 g hg
   ·exact o2 g hg
  ·exact o3 g hg
 ·refine (pm.map Gp.nm).nodup_iff.mpr ?_
  rw [List.map_append,List.map_append,e1,e2,e3]
  exact Xr.sublist (((List.take_sublist _ _).append (List.take_sublist _ _)).append (List.take_sublist _ _))
 ·rw [(pm.filter _).length_eq,List.filter_append,List.filter_append,List.length_append,List.length_append]
  have f1:gs.filter (fun g=>decide (V.str g.head.w=V.str "mute"))=[]:=List.filter_eq_nil_iff.mpr fun g hg=>by
   obtain ⟨j,hj⟩:=List.getElem?_of_mem hg
   obtain ⟨b,ls,rfl⟩:=a1 j g hj
   show ¬ decide (V.str "stop" = V.str "mute")=true
   decide +kernel
  have f2:gs2.filter (fun g=>decide (V.str g.head.w=V.str "mute"))=[]:=List.filter_eq_nil_iff.mpr fun g hg=>by
   obtain ⟨j,hj⟩:=List.getElem?_of_mem hg
   obtain ⟨a,b,c,rfl⟩:=a2 j g hj
   show ¬ decide (V.str "coupler" = V.str "mute")=true
   decide +kernel
  rw [f1,f2]
  have:=List.length_filter_le (fun g=>decide (V.str (Gp.head g).w=V.str "mute")) gs3
  show 0+0+_<=2
  omega
theorem aG {G:Prop} {K:Hp->Prop} (P:Hp->Prop) (h1:(∀ H,P H->K H)->G) (h2:∀ H,P H->K H):G:=h1 h2
noncomputable def Zb:Sp:=fun vs H Q _=>∃ (dh pc:Addr) (n:Nat),vs=[.ref dh]/\DH H dh pc n/\n<=1000 /\
 ∀ (p:Addr) (vs:List V) (sz:List Nat) (rk:List (Nat × Int)) (gs:List Gp) (n':Nat) H',H p=none->p ≠ dh->p ≠ pc->H' p=some (.lst vs)->Paired (fun (r:R) v=>TupAt H' r.v v) (Ge sz rk gs) vs->Ue sz rk gs->DH H' dh pc n'->n'<=n+2000->CW H H' dh pc->Q (.ref p) H'
theorem Ib:Ay ["_law_drawn_here","_law_sizes","_law_ranks","_law_rows","_law_k","_law_pipes","_law_wind","_law_groups","_law_turn","_law_group"] ["_law_drawn_here"] (Ab Ug):=⟨rfl,rfl,rfl,by decide +kernel,rfl,by decide +kernel,by decide +kernel⟩
include N T in
theorem dz:A_ P w K mg base Bf 3 fLg dLg ["_law_drawn_here"] Zb:=by
 have GDw:A_ P w K mg base Bf 1 fDw dDw ["_law_drawn_here","_law_many"] VH:=Sx N T
 have GLs:A_ P w K mg base Bf 2 fLs dLs ["_law_drawn_here","_law_k","_law_sizes","_law_ranks"] fG:=fW N T
 have GLc:A_ P w K mg base Bf 2 fLc dLc ["_law_drawn_here","_law_k","_law_sizes"] We:=dW N T
 refine N.FLg.1.ok Ib (fun vs H Q E h=>?_) (fun cdv A outer s H vs Q E hr h=>?_)
 ·obtain ⟨dh,pc,n,rfl,_⟩:=h
  rfl
 ·obtain ⟨dh,pc,n,rfl,D,hn,q⟩:=h
  have hrDw:BZ 1 _:=hr.mono (by decide)
  have hrLs:BZ 2 _:=hr.mono (by decide)
  have hrLc:BZ 2 _:=hr.mono (by decide)
  refine ⟨_,(@Ae _ _ _ _ _ (Bq (i:=1) Ib.nd rfl (Or.inr rfl) (Bl rfl (BX (osc:=Ab Ug) (N:=["_law_drawn_here","_law_sizes","_law_ranks","_law_rows","_law_k","_law_pipes","_law_wind","_law_groups","_law_turn","_law_group"]) rfl rfl (by decide +kernel)) (Bs rfl T.range (@Az _ _ _ _ _ rfl (BK Ca Ad (Ai GDw hrDw rfl N.FDw.2.2 N.FDw.1.kp N.FDw.2.1 .nil Av (@Az _ _ _ _ _ rfl (pv 0) (@Az _ _ _ _ _ rfl Ad Ac)))) Ac)) (fun _ _ _ _=>Bt) (fun _ _ _ _=>(BK Ca Ad (Ai GDw hrDw rfl N.FDw.2.2 N.FDw.1.kp N.FDw.2.1 .nil Av (@Az _ _ _ _ _ rfl (pv 1) (@Az _ _ _ _ _ rfl Ad Ac)))))))
   (@Ae _ _ _ _ _ (@Ce _ _ _ _ _ _ _ _ (Bc Dj (Ai GDw hrDw rfl N.FDw.2.2 N.FDw.1.kp N.FDw.2.1 .nil Av (@Az _ _ _ _ _ rfl (pv 0) (@Az _ _ _ _ _ rfl Ad Ac))) Ad (Bm _)) (@Ah _ _ _ (JL (BK Ec Ad (Ai GDw hrDw rfl N.FDw.2.2 N.FDw.1.kp N.FDw.2.1 .nil Av (@Az _ _ _ _ _ rfl (pv 0) (@Az _ _ _ _ _ rfl Ad Ac)))) (JP (pv 1) Ad set_list))) Bh)
   (@Ae _ _ _ _ _ (@BW _ _ _ _ _ _ 2 Ib.nd rfl (Or.inr rfl) (BK Ca Ad (Ai GDw hrDw rfl N.FDw.2.2 N.FDw.1.kp N.FDw.2.1 .nil Av (@Az _ _ _ _ _ rfl (pv 0) (@Az _ _ _ _ _ rfl Ad Ac)))) (by kernel_rfl) (.inl rfl))
   (@Ae _ _ _ _ _ (Jh (i:=3) Ib.nd rfl rfl rfl (BX (osc:=Ab Ug) (N:=["_law_drawn_here","_law_sizes","_law_ranks","_law_rows","_law_k","_law_pipes","_law_wind","_law_groups","_law_turn","_law_group"]) rfl rfl (by decide +kernel)) (Bs rfl T.range (@Az _ _ _ _ _ rfl (BR BV rfl T.len PySem.boot_len (@Az _ _ _ _ _ rfl (pv 1) Ac)) Ac)) (fun _ _ _ _=>Bt) (fun _ _ _ _=>(@DG _ _ _ _ _ (@Az _ _ _ _ _ rfl Ba (@Az _ _ _ _ _ rfl (@Ar _ _ _ _ _ _ _ Fo Ba (pv 0) (fun _ _=>rfl)) (@Az _ _ _ _ _ rfl (@Ar _ _ _ _ _ _ _ (Ey (K:=K) rfl) (pv 2) (pv 0) (fun _ _=>rfl)) Ac))))))
   (@Ae _ _ _ _ _ (Cp PassesOwn.never rfl (Bs rfl T.range (@Az _ _ _ _ _ rfl (pv 2) Ac)) (Bp (i:=4) Ib.nd rfl (Or.inl rfl)) (@Ae _ _ _ _ _ (@BW _ _ _ _ _ _ 5 Ib.nd rfl (Or.inl rfl) (@Ar _ _ _ _ _ _ _ Bb (@Dw _ _ _ _ (@Az _ _ _ _ _ rfl (BK Ca Ad (Ai GDw hrDw rfl N.FDw.2.2 N.FDw.1.kp N.FDw.2.1 .nil Av (@Az _ _ _ _ _ rfl (pv 0) (@Az _ _ _ _ _ rfl Ad Ac)))) (@Az _ _ _ _ _ rfl Ad Ac))) (Et Q9 rfl T.int PyProof.Rows.boot_int (@Az _ _ _ _ _ rfl (El Dj (Ai GDw hrDw rfl N.FDw.2.2 N.FDw.1.kp N.FDw.2.1 .nil Av (@Az _ _ _ _ _ rfl (pv 0) (@Az _ _ _ _ _ rfl Ad Ac))) Ad (Bm _)) Ac)) (fun _ _=>rfl)) (by kernel_rfl) (.inl rfl))
   (@Ae _ _ _ _ _ (@BW _ _ _ _ _ _ 6 Ib.nd rfl (Or.inl rfl) (Ai GDw hrDw rfl N.FDw.2.2 N.FDw.1.kp N.FDw.2.1 .nil Av (@Az _ _ _ _ _ rfl (pv 0) (@Az _ _ _ _ _ rfl Ad Ac))) (by kernel_rfl) (.inl rfl))
   (@Ae _ _ _ _ _ (@Ce _ _ _ _ _ _ _ _ (Bc Dj (pv 6) Ad (Bm _)) (@Ah _ _ _ (@BW _ _ _ _ _ _ 6 Ib.nd rfl (Or.inl rfl) (BK Ec (BK XS Ad Ad) (Ai GDw hrDw rfl N.FDw.2.2 N.FDw.1.kp N.FDw.2.1 .nil Av (@Az _ _ _ _ _ rfl (pv 0) (@Az _ _ _ _ _ rfl Ad Ac)))) (by kernel_rfl) (.inl rfl))) Bh)
   (@Ah _ _ _ (Ed (Ih PySem.F.plainAttrs_list PySem.F.slot_list_append PySem.F.type_list_append Cm (pv 3) (@Az _ _ _ _ _ rfl (@DG _ _ _ _ _ (@Az _ _ _ _ _ rfl Ba (@Az _ _ _ _ _ rfl (@Ar _ _ _ _ _ _ _ Fo Ba (pv 4) (fun _ _=>rfl)) (@Az _ _ _ _ _ rfl (pv 5) (@Az _ _ _ _ _ rfl (pv 6) Ac))))) Ac))))))))
   (@Ae _ _ _ _ _ (Jh (i:=7) Ib.nd rfl rfl rfl (BX (osc:=Ab Ug) (N:=["_law_drawn_here","_law_sizes","_law_ranks","_law_rows","_law_k","_law_pipes","_law_wind","_law_groups","_law_turn","_law_group"]) rfl rfl (by decide +kernel)) (Bs rfl T.range (@Az _ _ _ _ _ rfl (Ai GDw hrDw rfl N.FDw.2.2 N.FDw.1.kp N.FDw.2.1 .nil Av (@Az _ _ _ _ _ rfl (pv 0) (@Az _ _ _ _ _ rfl Ad Ac))) Ac)) (fun _ _ _ _=>Bt) (fun _ _ _ _=>(Ai GLs hrLs rfl N.FLs.2.2 N.FLs.1.kp N.FLs.2.1 .nil Av (@Az _ _ _ _ _ rfl (pv 1) (@Az _ _ _ _ _ rfl (pv 0) (@Az _ _ _ _ _ rfl (pv 2) (@Az _ _ _ _ _ rfl (pv 3) Ac)))))))
   (@Ae _ _ _ _ _ (@BW _ _ _ _ _ _ 7 Ib.nd rfl (Or.inl rfl) (BK K7 (pv 7) (Bl rfl (BX (osc:=Ab Ug) (N:=["_law_drawn_here","_law_sizes","_law_ranks","_law_rows","_law_k","_law_pipes","_law_wind","_law_groups","_law_turn","_law_group"]) rfl rfl (by decide +kernel)) (Bs rfl T.range (@Az _ _ _ _ _ rfl (Ai GDw hrDw rfl N.FDw.2.2 N.FDw.1.kp N.FDw.2.1 .nil Av (@Az _ _ _ _ _ rfl (pv 0) (@Az _ _ _ _ _ rfl Ad Ac))) Ac)) (fun _ _ _ _=>Bt) (fun _ _ _ _=>(Ai GLc hrLc rfl N.FLc.2.2 N.FLc.1.kp N.FLc.2.1 .nil Av (@Az _ _ _ _ _ rfl (pv 1) (@Az _ _ _ _ _ rfl (pv 0) (@Az _ _ _ _ _ rfl (pv 2) Ac))))))) (by kernel_rfl) (.inl rfl))
   (@Ae _ _ _ _ _ (Cp PassesOwn.never rfl (Bs rfl T.range (@Az _ _ _ _ _ rfl (Ai GDw hrDw rfl N.FDw.2.2 N.FDw.1.kp N.FDw.2.1 .nil Av (@Az _ _ _ _ _ rfl (pv 0) (@Az _ _ _ _ _ rfl Ad Ac))) Ac)) (Bp (i:=4) Ib.nd rfl (Or.inl rfl)) (@Ah _ _ _ (Ed (Ih PySem.F.plainAttrs_list PySem.F.slot_list_append PySem.F.type_list_append Cm (pv 7) (@Az _ _ _ _ _ rfl (@Dw _ _ _ _ (@Az _ _ _ _ _ rfl (@DG _ _ _ _ _ (@Az _ _ _ _ _ rfl Ba (@Az _ _ _ _ _ rfl (BK Hm Ba (@Ar _ _ _ _ _ _ _ Fo Ba (pv 4) (fun _ _=>rfl))) (@Az _ _ _ _ _ rfl (@Ar _ _ _ _ _ _ _ Fo Ba (Ai GDw hrDw rfl N.FDw.2.2 N.FDw.1.kp N.FDw.2.1 .nil Av (@Az _ _ _ _ _ rfl (pv 0) (@Az _ _ _ _ _ rfl (BR BV rfl T.len PySem.boot_len (@Az _ _ _ _ _ rfl (pv 1) Ac)) Ac))) (fun _ _=>rfl)) Ac)))) Ac)) Ac)))))
   (@Ae _ _ _ _ _ (@BW _ _ _ _ _ _ 8 Ib.nd rfl (Or.inl rfl) (Ai GDw hrDw rfl N.FDw.2.2 N.FDw.1.kp N.FDw.2.1 .nil Av (@Az _ _ _ _ _ rfl (pv 0) (@Az _ _ _ _ _ rfl (BK Ca (BR BV rfl T.len PySem.boot_len (@Az _ _ _ _ _ rfl (pv 7) Ac)) Ad) Ac))) (by kernel_rfl) (.inl rfl))
   (@Ae _ _ _ _ _ (Cp PassesOwn.never rfl (Bj (BK K7 (Eg GD (pv 7) (Em (pv 8)) GR) (Eg GD (pv 7) GR (Em (pv 8))))) (Bp (i:=9) Ib.nd rfl (Or.inl rfl)) (@Ah _ _ _ (@BW _ _ _ _ _ _ 3 Ib.nd rfl (Or.inl rfl) (BK K7 (pv 3) (pv 9)) (by kernel_rfl) (.inl rfl))))
   (@Ah _ _ _ (@BL _ _ _ _ (pv 3))))))))))))),?_⟩
  refine ⟨_,rfl,dh,pc,n,3,rfl,D,by omega,by decide,by decide,fun x H1 x0 x1 D1 f1=>⟨_,_,rfl,rfl,_,rfl,by omega,by omega,?_⟩⟩
  have F1:=CW.of2 f1
  refine Fd (lo:=0) (n:=(1+x).toNat) (fun DD i ys H'=>∃ (sz:List Nat) (nn:Nat),ys=nV sz/\sz.length=i/\(∀ z∈sz,1<=z/\z<=61)/\H' DD=some (.lst ys)/\DH H' dh pc nn/\nn<=n+1+i/\CW H H' dh pc/\DD ≠ dh/\DD ≠ pc) (Aq (by omega)) (fun DD hDD=>?_) (fun DD i ys H' h=>?_) (fun DD i ys H' hDD hi h R kk=>?_) (fun pS ys H2 hpS h=>?_)
  ·obtain ⟨a1,a2⟩:=DH.ne D1 hDD
   exact ⟨[],_,rfl,rfl,fun _ h=>absurd h List.not_mem_nil,Af,D1.upd a1 a2,by omega,F1.trans (CW.of (An hDD)),a1,a2⟩
  ·obtain ⟨sz,nn,rfl,h1,_⟩:=h
   unfold nV
   rw [List.length_map]
   exact h1
  ·obtain ⟨sz,nn,rfl,h1,h2,h3,h4,h5,h6,h7,h8⟩:=h
   refine ⟨_,rfl,dh,pc,nn,9,rfl,h4,by omega,by decide,by decide,fun y H3 y0 y1 D3 f3=>⟨_,_,rfl,rfl,?_⟩⟩
   obtain ⟨y,rfl⟩:∃ m:Nat,y=(m:Int):=⟨y.toNat,by omega⟩
   have ev:(fun i j:Int=>V.int (i+j)) 1 ((y:Nat):Int)=V.int (((1+y:Nat)):Int):=by show V.int (1+(y:Int))=_; congr 1
   rw [ev]
   refine kk _ H3 (by rw [f3 DD h7 h8]; exact h3) ?_
   rw [Vr]
   refine ⟨sz++[1+y],_,rfl,by rw [List.length_append,h1]; rfl,fun z hz=>?_,Af,D3.upd h7 h8,by omega,?_,h7,h8⟩
   ·rcases List.mem_append.mp hz with hz | hz
    ·exact h2 z hz
    ·rw [List.mem_singleton.mp hz]; omega
   ·exact (h6.trans (CW.of2 f3)).put (F1.free hDD h7 h8)
  obtain ⟨sz,nn,rfl,h1,h2,h3,h4,h5,h6,h7,h8⟩:=h
  have hp0:=F1.free hpS h7 h8
  apply aG (P:=fun H'=>∃ (sz:List Nat) (nn:Nat),Uh H' pS dh pc sz/\DH H' dh pc nn/\nn<=n+10/\CW H H' dh pc)
  case h1 =>
   intro rest
   refine ⟨_,rfl,dh,pc,nn,16,rfl,h4,by omega,by decide,by decide,fun y H3 y0 y1 D3 f3=>⟨rfl,_,rfl,B_ (fun _=>?_) (fun _=>?_)⟩⟩
   ·refine ⟨_,rfl,dh,pc,_,3,rfl,D3,by omega,by decide,by decide,fun u H4 u0 u1 D4 f4=>⟨_,_,rfl,rfl,?_⟩⟩
    have F4:=h6.trans ((CW.of2 f3).trans (CW.of2 f4))
    have a4:H4 pS=some (.lst (nV sz)):=by rw [f4 pS h7 h8,f3 pS h7 h8]; exact h3
    obtain ⟨z0,sz',rfl⟩:∃ a l,sz=a::l:=by
     cases sz with
     | nil=>simp at h1; omega
     | cons a l=>exact ⟨a,l,rfl⟩
    obtain ⟨u,rfl⟩:∃ m:Nat,u=(m:Int):=⟨u.toNat,by omega⟩
    have ev:(fun i j:Int=>V.int (i - j)) 61 ((u:Nat):Int)=V.int (((61 - u:Nat)):Int):=by show V.int (61 - (u:Int))=_; congr 1; omega
    rw [ev]
    refine ⟨_,rfl,pS,_,0,0,rfl,rfl,a4,(by show RG ((nV sz').length+1) 0=some 0; unfold RG; simp),?_⟩
    have e0:(nV (z0::sz')).set 0 (V.int (((61 - u:Nat)):Int))=nV ((61 - u)::sz'):=rfl
    have S5:Uh (upd H4 pS (HO.lst ((nV (z0::sz')).set 0 (V.int (((61 - u:Nat)):Int))))) pS dh pc ((61 - u)::sz'):=⟨by rw [Af,e0],h7,h8,by simp,by simp at h1 ⊢; omega,fun z hz=>by
     rcases List.mem_cons.mp hz with e | hz
     ·rw [e]; omega
     ·exact h2 z (by simp [hz])⟩
    have D5:=D4.upd (o:=HO.lst ((nV (z0::sz')).set 0 (V.int (((61 - u:Nat)):Int)))) h7 h8
    have F5:=F4.put (u:=HO.lst ((nV (z0::sz')).set 0 (V.int (((61 - u:Nat)):Int)))) hp0
    generalize upd H4 pS (HO.lst ((nV (z0::sz')).set 0 (V.int (((61 - u:Nat)):Int))))=H5 at S5 D5 F5 ⊢
    exact rest H5 ⟨_,_,S5,D5,by simp at h1; omega,F5⟩
   ·have S3:Uh H3 pS dh pc sz:=⟨by rw [f3 pS h7 h8]; exact h3,h7,h8,by omega,by omega,h2⟩
    exact rest H3 ⟨_,_,S3,D3,by omega,h6.trans (CW.of2 f3)⟩
  clear h1 h2 h3 h4 h5 h6 F1 f1 D1
  rintro H3 ⟨sz,nn,S,D3,hnn,F3⟩
  have hl1:=S.l1
  have hl3:=S.l3
  refine ⟨_,rfl,dh,pc,nn,3,rfl,D3,by omega,by decide,by decide,fun r H4 r0 r1 D4 f4=>⟨_,_,rfl,rfl,?_⟩⟩
  obtain ⟨r,rfl⟩:∃ m:Nat,r=(m:Int):=⟨r.toNat,by omega⟩
  have ev:(fun i j:Int=>V.int (i+j)) 1 ((r:Nat):Int)=V.int (((1+r:Nat)):Int):=by show V.int (1+(r:Int))=_; congr 1
  rw [ev]
  obtain ⟨nr,enr⟩:∃ m,1+r=m:=⟨_,rfl⟩
  rw [enr]
  have nr1:1<=nr/\nr<=3:=by omega
  have F4:=F3.trans (CW.of2 f4)
  have S4:=S.fr (CW.of2 f4)
  clear ev enr r0 r1
  have hnt:(((nV sz).length:Nat):Int).toNat=sz.length:=by rw [Int.toNat_natCast,S.len]
  have hsl:=S.len
  refine ⟨_,rfl,pS,_,rfl,.inl (.inl (.inl S4.l)),_,rfl,by omega,by omega,?_⟩
  rw [hnt]
  refine Fd (lo:=0) (n:=sz.length) (fun DD i ys H'=>ys.length=i/\H' DD=some (.lst ys)/\Paired (fun (r:R) v=>TupAt H' r.v v) (((Fx sz).take i).map FT) ys/\CW H4 H' dh pc/\DH H' dh pc (nn+1)/\DD ≠ dh/\DD ≠ pc) (Aq (by omega)) (fun DD hDD=>?_) (fun DD i ys H' h=>h.1) (fun DD i ys H' hDD hi h R kk=>?_) (fun pR ys H5 hpR h=>?_)
  ·obtain ⟨a1,a2⟩:=DH.ne D4 hDD
   exact ⟨rfl,Af,.nil,CW.of (An hDD),D4.upd a1 a2,a1,a2⟩
  ·obtain ⟨g1,g2,g3,g4,g5,g6,g7⟩:=h
   have et:((0:Int)+(i:Int))=((i:Nat):Int):=by omega
   rw [et]
   obtain ⟨c1,hc1,ec1⟩:=MT (k:=i) (by omega)
   refine ⟨_,rfl,"xyz",_,c1,rfl,rfl,by decide,hc1,_,rfl,_,rfl,pS,_,_,_,rfl,rfl,.inl (.inl (S4.fr g4).l),Iu hi,by show 3<=sizeLine; decide,fun T hT=>?_⟩
   rw [ec1]
   have s6:=An (o:=HO.tup [V.str "board",V.str (Fg i),V.int ((sz.getD i 0:Nat):Int)]) hT
   have a6:upd H' T (HO.tup [V.str "board",V.str (Fg i),V.int ((sz.getD i 0:Nat):Int)]) T=some (.tup (FT (Fg i,sz.getD i 0)).v):=Af
   refine kk _ _ (s6 _ _ g2) ?_
   generalize upd H' T (HO.tup [V.str "board",V.str (Fg i),V.int ((sz.getD i 0:Nat):Int)])=H6 at s6 a6
   refine ⟨by rw [List.length_append,g1]; rfl,Af,?_,?_,(g5.same s6).upd g6 g7,g6,g7⟩
   ·rw [List.take_add_one,Xe hi,List.map_append]
    exact Paired.snoc (CP (Am s6 g3) (s6 _ _ g2)) (TupAt.upd ⟨T,rfl,a6⟩ (s6 _ _ g2))
   ·exact (g4.trans (CW.of s6)).put hDD
  obtain ⟨g1,g2,g3,g4,g5,g6,g7⟩:=h
  rw [List.take_of_length_le (by rw [Up]; exact Nat.le_refl _)] at g3
  have hpR0:=F4.free hpR g6 g7
  have F5:=F4.trans g4
  refine ⟨_,rfl,_,rfl,by omega,by omega,?_⟩
  have hnr:((nr:Nat):Int).toNat=nr:=Int.toNat_natCast nr
  rw [hnr]
  refine Dq (lo:=0) (n:=nr) (fun i σ H'=>∃ (rk:List (Nat × Int)) (vs:List V) (mm:Nat) (v4 v5 v6:Option V),σ=[some (.ref dh),some (.ref pS),some (.int (nr:Nat)),some (.ref pR),v4,v5,v6,none,none,none]/\H' pR=some (.lst vs)/\Paired (fun (r:R) v=>TupAt H' r.v v) ((Fx sz).map FT++(Gg rk).map Er) vs/\rk.length=i/\vs.length=sz.length+i/\(∀ x∈rk,1<=x.1/\x.1<=97/\0<=x.2/\x.2<=1000000000)/\DH H' dh pc mm/\mm<=n+20+5 * i/\CW H4 H' dh pc) ⟨[],ys,_,_,_,_,rfl,g2,by rw [show (Gg []).map Er=[] from rfl,List.append_nil]; exact g3,rfl,by omega,fun _ h=>absurd h List.not_mem_nil,g5,by omega,g4⟩ ?_ ?_
  ·rintro i σ H6 hi ⟨rk,vs,mm,v4,v5,v6,rfl,a6,P6,lrk,lvs,okr,D6,hmm,F46⟩
   have et:((0:Int)+(i:Int))=((i:Nat):Int):=by omega
   rw [et]
   refine ⟨_,rfl,dh,pc,mm,18,rfl,D6,by omega,by decide,by decide,fun x H7 x0 x1 D7 f7=>⟨_,_,rfl,rfl,by show 2<=sizeLine; decide,fun pl hpl=>?_⟩⟩
   obtain ⟨x,rfl⟩:∃ m:Nat,x=(m:Int):=⟨x.toNat,by omega⟩
   have s8:=An (o:=HO.lst [(fun i j:Int=>V.int (i+j)) 1 ((x:Nat):Int),V.int 97]) hpl
   have a8:upd H7 pl (HO.lst [(fun i j:Int=>V.int (i+j)) 1 ((x:Nat):Int),V.int 97]) pl=some (.lst [V.int (1+(x:Int)),V.int 97]):=Af
   obtain ⟨n1,n2⟩:=DH.ne D7 hpl
   have D8:=D7.same s8
   generalize upd H7 pl (HO.lst [(fun i j:Int=>V.int (i+j)) 1 ((x:Nat):Int),V.int 97])=H8 at s8 a8 D8 ⊢
   refine ⟨_,rfl,dh,pc,_,9,rfl,D8,by omega,by decide,by decide,fun y H9 y0 y1 D9 f9=>⟨rfl,.inr ⟨_,rfl,?_⟩⟩⟩
   have a9:H9 pl=some (.lst [V.int (1+(x:Int)),V.int 97]):=by rw [f9 pl n1 n2]; exact a8
   obtain ⟨pp,hpp,hat⟩:∃ pp:Nat,(1<=pp/\pp<=97)/\Ly [V.int (1+(x:Int)),V.int 97] (if decide (V.int y=V.int 4)=true then 1 else 0)=some (V.int ((pp:Nat):Int)):=by
    by_cases h:decide (V.int y=V.int 4)=true
    ·rw [if_pos h]; exact ⟨97,by omega,rfl⟩
    ·rw [if_neg h]
     refine ⟨1+x,by omega,?_⟩
     show some (V.int (1+(x:Int)))=_
     congr 2
   refine ⟨pl,_,_,_,rfl,rfl,.inl (.inl a9),hat,?_⟩
   have F69:CW H6 H9 dh pc:=(CW.of2 f7).trans ((CW.of s8).trans (CW.of2 f9))
   refine ⟨_,rfl,dh,pc,_,9,rfl,D9,by omega,by decide,by decide,fun wd Ha w0 w1 Da fa=>?_⟩
   apply SQ (P:=fun s H'=>0<=s/\s<=1000000000/\(∃ n',DH H' dh pc n'/\n'<=mm+4)/\CW H6 H' dh pc)
   case h1 =>
    intro rest
    have F6a:=F69.trans (CW.of2 fa)
    refine ⟨_,rfl,rfl,_,rfl,B_ (fun _=>?_) (fun _=>?_)⟩
    ·refine ⟨_,_,rfl,rfl,⟨by decide,by decide,by decide⟩,_,rfl,dh,pc,_,99,rfl,Da,by omega,by decide,by decide,fun u Hb u0 u1 Db fb=>⟨_,_,rfl,rfl,?_⟩⟩
     have hb:0<=(10:Int) ^ (9:Int).toNat - u/\(10:Int) ^ (9:Int).toNat - u<=1000000000:=by
      have:(10:Int) ^ (9:Int).toNat=1000000000:=by decide
      omega
     show O4 _ ((_:St).set 6 (some (V.int ((10:Int) ^ (9:Int).toNat - u)))) Hb
     generalize (10:Int) ^ (9:Int).toNat - u=s at hb ⊢
     exact rest s Hb ⟨hb.1,hb.2,⟨_,Db,by omega⟩,F6a.trans (CW.of2 fb)⟩
    ·exact rest wd Ha ⟨w0,by omega,⟨_,Da,by omega⟩,F6a⟩
   rintro wi Hb ⟨wi0,wi1,⟨nb,Db,hnb⟩,F6b⟩
   have ab:=F6b _ _ g6 g7 a6
   obtain ⟨c1,hc1,ec1⟩:=V1 (k:=i) (by omega)
   refine ⟨_,rfl,.inl ⟨rfl,_,.inl (.inl ab)⟩,_,rfl,"uvw",_,c1,rfl,rfl,by decide,hc1,_,rfl,_,rfl,by show 4<=sizeLine; decide,fun t6 ht6=>?_⟩
   rw [ec1]
   have sc:=An (o:=HO.tup [V.str "rank",V.str (G9 i),V.int ((pp:Nat):Int),V.int wi]) ht6
   have ac:upd Hb t6 (HO.tup [V.str "rank",V.str (G9 i),V.int ((pp:Nat):Int),V.int wi]) t6=some (.tup (Er (G9 i,pp,wi)).v):=Af
   generalize upd Hb t6 (HO.tup [V.str "rank",V.str (G9 i),V.int ((pp:Nat):Int),V.int wi])=Hc at sc ac ⊢
   have al:=sc _ _ ab
   have F6c:=F6b.trans (CW.of (dh:=dh) (pc:=pc) sc)
   refine ⟨pR,_,_,rfl,rfl,al,Aq (by omega),?_⟩
   refine ⟨rk++[(pp,wi)],vs++[V.ref t6],_,_,_,_,rfl,Af,?_,by rw [List.length_append,lrk]; rfl,by rw [List.length_append,lvs]; rfl,fun t ht=>?_,(Db.same sc).upd g6 g7,by omega,(F46.trans F6c).put hpR⟩
   ·rw [Tt,List.map_append,← List.append_assoc,lrk]
    exact Paired.snoc (CP (Ij D6 F6c P6) al) (TupAt.upd ⟨t6,rfl,ac⟩ al)
   ·rcases List.mem_append.mp ht with h | h
    ·exact okr t h
    ·rw [List.mem_singleton.mp h]
     exact ⟨hpp.1,hpp.2,wi0,wi1⟩
  rintro σ H6 ⟨rk,vs,mm,v4,v5,v6,rfl,a6,P6,lrk,lvs,okr,D6,hmm,F46⟩
  refine ⟨_,rfl,dh,pc,mm,6,rfl,D6,by omega,by decide,by decide,fun x H7 x0 x1 D7 f7=>⟨_,rfl,by omega,by omega,?_⟩⟩
  have F67:=CW.of2 f7
  have S7:=S4.fr (F46.trans F67)
  refine Fd (lo:=0) (n:=x.toNat) (fun DD i ys H'=>ys.length=i/\H' DD=some (.lst ys)/\(∀ y∈ys,y ≠ .ref DD)/\(∃ (gs:List Gp) (m':Nat),Paired (Kf dh pc H') gs ys/\(∀ (j:Nat) g,gs[j]? = some g->∃ b ls,g=.st j b ls)/\(∀ g∈gs,g.ok sz nr)/\DH H' dh pc m'/\m'<=mm+1+40 * i)/\CW H7 H' dh pc/\DD ≠ dh/\DD ≠ pc) (Aq (by omega)) (fun DD hDD=>?_) (fun DD i ys H' h=>h.1) (fun DD i ys H' hDD hi h R kk=>?_) (fun pG ys H8 hpG h=>?_)
  ·obtain ⟨a1,a2⟩:=DH.ne D7 hDD
   exact ⟨rfl,Af,fun _ h=>absurd h List.not_mem_nil,⟨[],_,.nil,fun j g h=>by simp at h,fun _ h=>absurd h List.not_mem_nil,D7.upd a1 a2,by omega⟩,CW.of (An hDD),a1,a2⟩
  ·obtain ⟨k1,k2,k3,⟨gs,m',k4,k5,k6,k7,k8⟩,k9,ka,kb⟩:=h
   have et:((0:Int)+(i:Int))=((i:Nat):Int):=by omega
   rw [et]
   refine ⟨_,rfl,_,rfl,_,rfl,_,rfl,dh,pc,m',i,pS,sz,nr,rfl,k7,by omega,S7.fr k9,by omega,nr1.1,nr1.2,fun p b ls n' H9 hp n1 n2 G ok D9 hn' F9=>?_⟩
   have a9:=F9 _ _ ka kb k2
   have npD:(V.ref p) ≠ .ref DD:=fun z=>by
    cases z
    rw [k2] at hp
    cases hp
   refine kk _ H9 a9 ?_
   refine ⟨by rw [List.length_append,k1]; rfl,Af,fun y hy=>?_,⟨gs++[.st i b ls],n',?_,fun j g hg=>?_,fun g hg=>?_,D9.upd ka kb,by omega⟩,(k9.trans F9).put hDD,ka,kb⟩
   ·rcases List.mem_append.mp hy with hy | hy
    ·exact k3 y hy
    ·rw [List.mem_singleton.mp hy]; exact npD
   ·have lg:=k4.length
    refine Paired.snoc ?_ (Kf.upd a9 npD ⟨p,rfl,n1,n2,G⟩)
    exact Dz k4 fun g y hy h=>Kf.upd a9 (k3 y hy) (h.fr k7 F9)
   ·have lg:=k4.length
    by_cases hj:j<gs.length
    ·rw [List.getElem?_append_left hj] at hg
     exact k5 j g hg
    ·rw [List.getElem?_append_right (by omega)] at hg
     have:j - gs.length=0:=by
      have:=(List.getElem?_eq_some_iff.mp hg).1
      simp at this
      omega
     rw [this] at hg
     cases hg
     have:j=i:=by omega
     rw [this]
     exact ⟨b,ls,rfl⟩
   ·rcases List.mem_append.mp hg with h | h
    ·exact k6 g h
    ·rw [List.mem_singleton.mp h]; exact ok
  obtain ⟨k1,k2,k3,⟨gs,m',k4,k5,k6,k7,k8⟩,k9,ka,kb⟩:=h
  have F78:=k9
  have lgs:=k4.length
  refine ⟨_,rfl,_,rfl,dh,pc,m',6,rfl,k7,by omega,by decide,by decide,fun x2 H9 y0 y1 D9 f9=>⟨_,rfl,by omega,by omega,?_⟩⟩
  have F89:=CW.of2 f9
  have S9:=S7.fr (F78.trans F89)
  have kG9:Paired (Kf dh pc H9) gs ys:=Paired.Eo k4 fun _ _ h=>h.fr k7 F89
  have aG9:=F89 _ _ ka kb k2
  refine Fd (lo:=0) (n:=x2.toNat) (fun DD i ys2 H'=>ys2.length=i/\H' DD=some (.lst ys2)/\(∀ y∈ys2,y ≠ .ref DD)/\(∃ (gs2:List Gp) (m2:Nat),Paired (Kf dh pc H') gs2 ys2/\(∀ (j:Nat) g,gs2[j]? = some g->∃ a b c,g=.cp j a b c)/\(∀ g∈gs2,g.ok sz nr)/\DH H' dh pc m2/\m2<=m'+1+5 * i)/\CW H9 H' dh pc/\DD ≠ dh/\DD ≠ pc) (Aq (by omega)) (fun DD hDD=>?_) (fun DD i ys2 H' h=>h.1) (fun DD i ys2 H' hDD hi h R kk=>?_) (fun pG2 ys2 Ha hpG2 h=>?_)
  ·obtain ⟨a1,a2⟩:=DH.ne D9 hDD
   exact ⟨rfl,Af,fun _ h=>absurd h List.not_mem_nil,⟨[],_,.nil,fun j g h=>by simp at h,fun _ h=>absurd h List.not_mem_nil,D9.upd a1 a2,by omega⟩,CW.of (An hDD),a1,a2⟩
  ·obtain ⟨j1,j2,j3,⟨gs2,m2,j4,j5,j6,j7,j8⟩,j9,ja,jb⟩:=h
   have et:((0:Int)+(i:Int))=((i:Nat):Int):=by omega
   rw [et]
   refine ⟨_,rfl,_,rfl,_,rfl,dh,pc,m2,i,pS,sz,rfl,j7,by omega,S9.fr j9,by omega,fun p a b c n' Hb hp n1 n2 G ok Db hn' Fb=>?_⟩
   have ab:=Fb _ _ ja jb j2
   have npD:(V.ref p) ≠ .ref DD:=fun z=>by
    cases z
    rw [j2] at hp
    cases hp
   refine kk _ Hb ab ?_
   refine ⟨by rw [List.length_append,j1]; rfl,Af,fun y hy=>?_,⟨gs2++[.cp i a b c],n',?_,fun j g hg=>?_,fun g hg=>?_,Db.upd ja jb,by omega⟩,(j9.trans Fb).put hDD,ja,jb⟩
   ·rcases List.mem_append.mp hy with hy | hy
    ·exact j3 y hy
    ·rw [List.mem_singleton.mp hy]; exact npD
   ·refine Paired.snoc ?_ (Kf.upd ab npD ⟨p,rfl,n1,n2,G⟩)
    exact Dz j4 fun g y hy h=>Kf.upd ab (j3 y hy) (h.fr j7 Fb)
   ·have lg:=j4.length
    by_cases hj:j<gs2.length
    ·rw [List.getElem?_append_left hj] at hg
     exact j5 j g hg
    ·rw [List.getElem?_append_right (by omega)] at hg
     have:j - gs2.length=0:=by
      have:=(List.getElem?_eq_some_iff.mp hg).1
      simp at this
      omega
     rw [this] at hg
     cases hg
     have:j=i:=by omega
     rw [this]
     exact ⟨a,b,c,rfl⟩
   ·rcases List.mem_append.mp hg with h | h
    ·exact j6 g h
    ·rw [List.mem_singleton.mp h]; exact ok
  obtain ⟨j1,j2,j3,⟨gs2,m2,j4,j5,j6,j7,j8⟩,j9,ja,jb⟩:=h
  have lgs2:=j4.length
  refine ⟨pG,pG2,_,_,rfl,rfl,j9 _ _ ka kb aG9,j2,Nat.le_of_lt (Aq (by omega)),fun pC hpC=>?_⟩
  have kA:Paired (Kf dh pc Ha) (gs++gs2) (ys++ys2):=CJ (Paired.Eo kG9 fun _ _ h=>h.fr D9 j9) j4
  obtain ⟨nC1,nC2⟩:=DH.ne j7 hpC
  have neC:∀ y∈ys++ys2,y ≠ .ref pC:=fun y hy e=>by
   obtain ⟨g,_,p,e2,_,_,vs',e3,_⟩:=Ci kA hy
   rw [e] at e2
   cases e2
   rw [hpC] at e3
   cases e3
  have sC:=An (o:=HO.lst (ys++ys2)) hpC
  have aC:upd Ha pC (HO.lst (ys++ys2)) pC=some (.lst (ys++ys2)):=Af
  have kC:Paired (Kf dh pc (upd Ha pC (HO.lst (ys++ys2)))) (gs++gs2) (ys++ys2):=Paired.Eo kA fun _ _ h=>h.fr j7 (CW.of sC)
  have DC:=j7.same sC
  have FaC:CW Ha (upd Ha pC (HO.lst (ys++ys2))) dh pc:=CW.of sC
  generalize upd Ha pC (HO.lst (ys++ys2))=HC at sC aC kC DC FaC ⊢
  refine ⟨_,rfl,dh,pc,m2,3,rfl,DC,by omega,by decide,by decide,fun x3 Hc z0 z1 Dc fc=>⟨_,rfl,by omega,by omega,?_⟩⟩
  have Fac:=FaC.trans (CW.of2 fc)
  have lyy:(ys++ys2).length=ys.length+ys2.length:=List.length_append
  refine Dq (lo:=0) (n:=x3.toNat) (fun i σ H'=>∃ (gs3:List Gp) (zs:List V) (m3:Nat) (u4:Option V),σ=[some (.ref dh),some (.ref pS),some (.int (nr:Nat)),some (.ref pR),u4,v5,v6,some (.ref pC),none,none]/\H' pC=some (.lst zs)/\zs.length=ys.length+ys2.length+i/\(∀ y∈zs,y ≠ .ref pC)/\Paired (Kf dh pc H') (gs++gs2++gs3) zs/\gs3.length=i/\(∀ (j:Nat) g,gs3[j]? = some g->∃ b,g=.mu j b)/\(∀ g∈gs3,g.ok sz nr)/\DH H' dh pc m3/\m3<=m2+1+i/\CW Ha H' dh pc) ⟨[],ys++ys2,_,_,rfl,by rw [fc pC nC1 nC2]; exact aC,by omega,neC,by rw [List.append_nil]; exact Paired.Eo kC fun _ _ h=>h.fr DC (CW.of2 fc),rfl,fun j g h=>by simp at h,fun _ h=>absurd h List.not_mem_nil,Dc,by omega,Fac⟩ ?_ ?_
  ·rintro i σ Hd hi ⟨gs3,zs,m3,u4,rfl,q1,q2,q3,q4,q5,q6,q7,q8,q9,qa⟩
   have et:((0:Int)+(i:Int))=((i:Nat):Int):=by omega
   rw [et]
   have Sd:=S9.fr (j9.trans qa)
   obtain ⟨c2,hc2,ec2⟩:=Zk (k:=i) (by omega)
   refine ⟨_,rfl,.inl ⟨rfl,_,.inl (.inl q1)⟩,_,rfl,"ab",_,c2,rfl,rfl,by decide,hc2,"m",_,rfl,rfl,by show 2<=sizeLine; decide,_,rfl,_,rfl,pS,_,rfl,.inl (.inl (.inl Sd.l)),dh,pc,m3,_,rfl,q8,by omega,by omega,by omega,fun b He b0 b1 De fe=>?_⟩
   obtain ⟨b,rfl⟩:∃ m:Nat,b=(m:Int):=⟨b.toNat,by omega⟩
   obtain ⟨c3,hc3,ec3⟩:=MT (k:=b) (by omega)
   refine ⟨"xyz",_,c3,rfl,rfl,by decide,hc3,by show 3<=sizeLine; decide,fun T hT=>⟨by show 1<=sizeLine; decide,fun p hp=>?_⟩⟩
   rw [ec2,ec3] at hp ⊢
   have sf:=An (o:=HO.tup [V.str "mute",V.str (QB.getD i ""),V.str (Fg b)]) hT
   have af:upd He T (HO.tup [V.str "mute",V.str (QB.getD i ""),V.str (Fg b)]) T=some (.tup (Gp.mu i b).head.v):=Af
   generalize upd He T (HO.tup [V.str "mute",V.str (QB.getD i ""),V.str (Fg b)])=Hf at sf af hp ⊢
   have sg:=An (o:=HO.lst [V.ref T]) hp
   have ag:upd Hf p (HO.lst [V.ref T]) p=some (.lst [V.ref T]):=Af
   have Df:=De.same sf
   obtain ⟨n1,n2⟩:=DH.ne Df hp
   have Fdf:CW Hd Hf dh pc:=(CW.of2 fe).trans (CW.of sf)
   have q1f:=Fdf _ _ nC1 nC2 q1
   have npC:V.ref p ≠ .ref pC:=fun z=>by
    cases z
    rw [hp] at q1f
    cases q1f
   have af2:=sg _ _ af
   have Dg:=Df.same sg
   have Fdg:CW Hd (upd Hf p (HO.lst [V.ref T])) dh pc:=Fdf.trans (CW.of sg)
   generalize upd Hf p (HO.lst [V.ref T])=Hg at sg ag af2 Dg Fdg ⊢
   have qg:=Fdg _ _ nC1 nC2 q1
   refine ⟨pC,_,_,rfl,rfl,qg,Aq (by omega),?_⟩
   refine ⟨gs3++[.mu i b],zs++[V.ref p],_,_,rfl,Af,by rw [List.length_append,q2]; rfl,fun y hy=>?_,?_,by rw [List.length_append,q5]; rfl,fun j g hg=>?_,fun g hg=>?_,Dg.upd nC1 nC2,by omega,(qa.trans Fdg).put hpC⟩
   ·rcases List.mem_append.mp hy with hy | hy
    ·exact q3 y hy
    ·rw [List.mem_singleton.mp hy]; exact npC
   ·rw [← List.append_assoc]
    refine Paired.snoc ?_ (Kf.upd qg npC ⟨p,rfl,n1,n2,[V.ref T],ag,.cons ⟨T,rfl,af2⟩ .nil⟩)
    exact Dz q4 fun g y hy h=>Kf.upd qg (q3 y hy) (h.fr q8 Fdg)
   ·by_cases hj:j<gs3.length
    ·rw [List.getElem?_append_left hj] at hg
     exact q6 j g hg
    ·rw [List.getElem?_append_right (by omega)] at hg
     have:j - gs3.length=0:=by
      have:=(List.getElem?_eq_some_iff.mp hg).1
      simp at this
      omega
     rw [this] at hg
     cases hg
     have:j=i:=by omega
     rw [this]
     exact ⟨b,rfl⟩
   ·rcases List.mem_append.mp hg with h | h
    ·exact q7 g h
    ·rw [List.mem_singleton.mp h]; exact ⟨by omega,by omega⟩
  rintro σ Hd ⟨gs3,zs,m3,u4,rfl,q1,q2,q3,q4,q5,q6,q7,q8,q9,qa⟩
  have lzs:=q4.length
  refine ⟨_,rfl,_,rfl,pC,_,rfl,.inl (.inl (.inl q1)),_,_,rfl,rfl,dh,pc,m3,_,rfl,q8,by omega,by omega,by omega,fun t He t0 t1 De fe=>?_⟩
  obtain ⟨t,rfl⟩:∃ m:Nat,t=(m:Int):=⟨t.toNat,by omega⟩
  have ht:t<=zs.length:=by omega
  have Fe:=CW.of2 fe
  have qe:=Fe _ _ nC1 nC2 q1
  have F6d:CW H6 Hd dh pc:=F67.trans (F78.trans (F89.trans (j9.trans qa)))
  have aRe:=(F6d.trans Fe) _ _ g6 g7 a6
  have PRe:=Ij D6 (F6d.trans Fe) P6
  have Ke:=Paired.Eo q4 fun _ _ h=>Kf.fr q8 Fe h
  have FHe:CW H He dh pc:=F4.trans (F46.trans (F6d.trans Fe))
  have W:=Vb (t:=t) hl1 hl3 S.z (by omega:1<=rk.length) (by omega) okr k5 j5 q6 (by rw [lrk]; exact k6) (by rw [lrk]; exact j6) (by rw [lrk]; exact q7) (by omega) (by omega) (by omega)
  generalize hall:gs++gs2++gs3=all at Ke W lzs
  clear q4 k4 kG9 kA kC j4 P6 g3
  refine ⟨_,rfl,_,rfl,_,rfl,pC,_,rfl,.inl (.inl qe),fun p1 hp1=>?_⟩
  rw [Ri]
  have s1:=An (o:=HO.lst (zs.drop t)) hp1
  have b1:upd He p1 (HO.lst (zs.drop t)) p1=some (.lst (zs.drop t)):=Af
  generalize upd He p1 (HO.lst (zs.drop t))=Hf at s1 b1 ⊢
  refine ⟨_,rfl,_,rfl,_,rfl,pC,_,rfl,.inl (.inl (s1 _ _ qe)),fun p2 hp2=>?_⟩
  rw [Hu zs t ht]
  have s2:=An (o:=HO.lst (zs.take t)) hp2
  have b2:upd Hf p2 (HO.lst (zs.take t)) p2=some (.lst (zs.take t)):=Af
  generalize upd Hf p2 (HO.lst (zs.take t))=Hg at s2 b2 ⊢
  refine ⟨p1,p2,_,_,rfl,rfl,s2 _ _ b1,b2,Nat.le_of_lt (Aq (by rw [List.length_drop,List.length_take]; omega)),fun p3 hp3=>?_⟩
  have s3:=An (o:=HO.lst (zs.drop t++zs.take t)) hp3
  have b3:upd Hg p3 (HO.lst (zs.drop t++zs.take t)) p3=some (.lst (zs.drop t++zs.take t)):=Af
  generalize upd Hg p3 (HO.lst (zs.drop t++zs.take t))=Hh at s3 b3 ⊢
  have s13:=s1.trans (s2.trans s3)
  have Dh:=De.same s13
  have Kr:Paired (Kf dh pc Hh) (all.drop t++all.take t) (zs.drop t++zs.take t):=CJ (JS t (Paired.Eo Ke fun _ _ h=>h.fr De (CW.of s13))) (Gj (Paired.Eo Ke fun _ _ h=>h.fr De (CW.of s13)) t)
  have FHh:=FHe.trans (CW.of (dh:=dh) (pc:=pc) s13)
  have aRh:=s13 _ _ aRe
  have PRh:=Am s13 PRe
  generalize all.drop t++all.take t=rot at W Kr
  generalize zs.drop t++zs.take t=rv at Kr b3
  clear s1 s2 s3 s13 b1 b2 hp1 hp2 hp3 Ke qe q1 q3 hall
  refine ⟨p3,rfl,⟨_,.inl (.inl b3)⟩,Ft (K:=K) (a:=p3) (xs:=rv) (fun i σ H'=>∃ (pX:Addr) (ws:List V) (u9:Option V),σ=[some (.ref dh),some (.ref pS),some (.int (nr:Nat)),some (.ref pX),u4,v5,v6,some (.ref pC),some (.int (t:Nat)),u9]/\H' pX=some (.lst ws)/\Paired (fun (r:R) v=>TupAt H' r.v v) ((Fx sz).map FT++(Gg rk).map Er++(rot.take i).flatMap Gp.rows) ws/\ws.length<=6+5 * i/\H pX=none/\pX ≠ dh/\pX ≠ pc/\Ak Hh H') ⟨pR,vs,_,rfl,aRh,by rw [List.take_zero,List.flatMap_nil,List.append_nil]; exact PRh,by omega,hpR0,g6,g7,Ak.refl _⟩ (fun i σ H' _ h=>by obtain ⟨_,_,_,_,_,_,_,_,_,_,s⟩:=h; exact .inl (.inl (s _ _ b3))) ?_ ?_⟩
  ·rintro i y σ H' hi ⟨pX,ws,u9,rfl,e1,e2,e3,e4,e5,e6,e7⟩
   have lr:=Kr.length
   have hwl:=W.len
   have hil:=(List.getElem?_eq_some_iff.mp hi).1
   obtain ⟨g,hg,pg,rfl,n1,n2,gv,eg,Pg⟩:=Og.Ff Kr hi
   have og:=W.ok g (List.mem_of_getElem? hg)
   have r5:=Rb og
   have lgv:=Pg.length
   refine ⟨_,rfl,_,rfl,pX,pg,_,_,rfl,rfl,e1,e7 _ _ eg,Nat.le_of_lt (Aq (by omega)),fun pN hpN=>?_⟩
   have sN:=An (o:=HO.lst (ws++gv)) hpN
   obtain ⟨m1,m2'⟩:=DH.ne (Dh.same e7) hpN
   refine ⟨pN,ws++gv,_,rfl,Af,?_,by rw [List.length_append]; omega,(FHh.trans (CW.of e7)).free hpN m1 m2',m1,m2',e7.trans sN⟩
   have et:(rot.take (i+1)).flatMap Gp.rows=(rot.take i).flatMap Gp.rows++g.rows:=by
    rw [List.take_add_one,hg,List.flatMap_append]
    simp
   rw [et,← List.append_assoc]
   exact Am sN (CJ e2 (Am e7 Pg))
  ·rintro σ H' ⟨pX,ws,u9,rfl,e1,e2,e3,e4,e5,e6,e7⟩
   have lr:=Kr.length
   rw [List.take_of_length_le (by omega)] at e2
   exact ⟨_,rfl,q pX ws sz rk rot _ H' e4 e5 e6 e1 e2 W (Dh.same e7) (by omega) (FHh.trans (CW.of e7))⟩
open Bw
theorem Us (a b:Nat):Builtin.bitXor (a:Int) (b:Int)=(((a ||| b) - (a &&& b):Nat):Int):=by
 have h:a &&& b<=a ||| b:=Nat.le_trans Nat.and_le_left Nat.left_le_or
 unfold Builtin.bitXor
 rw [GJ,Gw]
 omega
noncomputable def fU:Sp:=fun vs H Q _=>∃ (c:Int) (last many:Nat),vs=[.int c,.int (last:Nat),.int (many:Nat)]/\1<=many/\many<=305/\last<2 ^ many/\∀ (n:Nat) H',n<2 ^ many->Ak H H'->Q (.int (n:Nat)) H'
theorem QG:Ay ["_law_cell","_law_last","_law_many","_law_pick","_law_full","_law_one","_law_some"] ["_law_cell","_law_last","_law_many"] (Ab ZK):=⟨rfl,rfl,rfl,by decide +kernel,rfl,by decide +kernel,by decide +kernel⟩
include N T in
theorem Zh:A_ P w K mg base Bf 1 fLh dLh ["_law_cell","_law_last","_law_many"] fU:=by
 refine N.FLh.1.ok QG (fun vs H Q E h=>?_) (fun cdv A outer s H vs Q E hr h=>?_)
 ·obtain ⟨c,last,many,rfl,_⟩:=h
  rfl
 ·obtain ⟨c,last,many,rfl,m1,m3,hl,q⟩:=h
  refine ⟨_,(@Ae _ _ _ _ _ (@BW _ _ _ _ _ _ 3 QG.nd rfl (Or.inl rfl) (BK Dl (BK Dv (pv 0) Ad) Ad) (by kernel_rfl) (.inl rfl))
   (@Ae _ _ _ _ _ (@BW _ _ _ _ _ _ 4 QG.nd rfl (Or.inl rfl) (BK Ec (BK J0 Ad (pv 2)) Ad) (by kernel_rfl) (.inl rfl))
   (@Ae _ _ _ _ _ (@BW _ _ _ _ _ _ 5 QG.nd rfl (Or.inl rfl) (BK J0 Ad (BK Dl (BK GQ (pv 3) Ad) (pv 2))) (by kernel_rfl) (.inl rfl))
   (@Ae _ _ _ _ _ (@BW _ _ _ _ _ _ 6 QG.nd rfl (Or.inl rfl) (BK Dv (pv 3) (pv 3)) (by kernel_rfl) (.inl rfl))
   (@Ae _ _ _ _ _ (@BW _ _ _ _ _ _ 6 QG.nd rfl (Or.inl rfl) (BK Dl (BK GQ (BK Dv (BK Dv (pv 6) (pv 6)) (pv 6)) Ad) (BK Ca (pv 4) Ad)) (by kernel_rfl) (.inl rfl))
   (@Ah _ _ _ (@BL _ _ _ _ (@Ar _ _ _ _ _ _ _ Bb (@Dw _ _ _ _ (@Az _ _ _ _ _ rfl Ad (@Az _ _ _ _ _ rfl (pv 4) (@Az _ _ _ _ _ rfl (pv 5) (@Az _ _ _ _ _ rfl (pv 6) (@Az _ _ _ _ _ rfl (BK J2 (pv 6) (pv 1)) (@Az _ _ _ _ _ rfl (BK Xn (pv 1) (pv 5)) (@Az _ _ _ _ _ rfl (BK Kl (pv 1) (pv 5)) (@Az _ _ _ _ _ rfl (BK Ec (pv 1) (BK J2 (pv 1) (pv 5))) Ac))))))))) (BK Dl (pv 3) Ad) (fun _ _=>rfl))))))))),?_⟩
  refine ⟨_,rfl,_,_,rfl,rfl,.inr ⟨by decide,by decide⟩,_,_,rfl,rfl,(by show (0:Int)<2147483647; decide),?_⟩
  have hpk:0<=c * 397204094 % 2147483647/\c * 397204094 % 2147483647<2147483647:=⟨Int.emod_nonneg _ (by decide),Int.emod_lt_of_pos _ (by decide)⟩
  show Cq 3 (V.int (c * 397204094 % 2147483647)) _ H _
  generalize c * 397204094 % 2147483647=pk at hpk ⊢
  obtain ⟨pk,rfl⟩:∃ m:Nat,pk=(m:Int):=⟨pk.toNat,by omega⟩
  have two:1<=2 ^ many:=Nat.one_le_two_pow
  refine ⟨_,rfl,_,_,rfl,rfl,⟨by omega,by omega,by decide⟩,_,_,rfl,rfl,?_⟩
  have ef:(1:Int) * 2 ^ ((many:Nat):Int).toNat - 1=(((2 ^ many - 1:Nat)):Int):=by
   rw [Int.toNat_natCast,Int.one_mul]
   have:((2 ^ many:Nat):Int)=(2:Int) ^ many:=by push_cast; rfl
   omega
  show Cq 4 (V.int ((1:Int) * 2 ^ ((many:Nat):Int).toNat - 1)) _ H _
  rw [ef]
  refine ⟨_,rfl,_,_,rfl,rfl,⟨by decide,by decide⟩,_,rfl,_,_,rfl,rfl,(by show (0:Int)<(many:Int); omega),_,_,rfl,rfl,⟨Int.emod_nonneg _ (by omega),?_,by decide⟩,?_⟩
  ·have:=Int.emod_lt_of_pos ((pk:Int) / 8) (show (0:Int)<(many:Int) by omega)
   show (pk:Int) / 8 % (many:Int)<=1000000
   omega
  obtain ⟨one,eo,ho⟩:∃ one:Nat,(1:Int) * 2 ^ ((pk:Int) / 8 % (many:Int)).toNat=(one:Int)/\one<2 ^ many:=by
   refine ⟨2 ^ ((pk:Int) / 8 % (many:Int)).toNat,by rw [Int.one_mul]; push_cast; rfl,Nat.pow_lt_pow_right (by decide) ?_⟩
   have:=Int.emod_lt_of_pos ((pk:Int) / 8) (show (0:Int)<(many:Int) by omega)
   have:=Int.emod_nonneg ((pk:Int) / 8) (show (many:Int) ≠ 0 by omega)
   omega
  show Cq 5 (V.int ((1:Int) * 2 ^ ((pk:Int) / 8 % (many:Int)).toNat)) _ H _
  rw [eo]
  have pb:(pk:Int) * (pk:Int)<2147483647 * 2147483647:=by
   have h1:(pk:Int) * (pk:Int)<=2147483646 * (pk:Int):=Int.mul_le_mul_of_nonneg_right (by omega) (by omega)
   omega
  have pn:0<=(pk:Int) * (pk:Int):=Int.mul_nonneg (by omega) (by omega)
  refine ⟨_,rfl,_,rfl,_,_,rfl,rfl,.inl ⟨by omega,by omega⟩,?_⟩
  show Cq 6 (V.int ((pk:Int) * (pk:Int))) _ H _
  generalize (pk:Int) * (pk:Int)=sq at pb pn ⊢
  have f0:(0:Int)<((2 ^ many - 1:Nat):Int)+1:=by omega
  refine ⟨_,rfl,_,rfl,_,_,rfl,rfl,.inl ⟨by omega,by omega⟩,_,rfl,_,_,rfl,rfl,.inr ⟨by omega,by omega⟩,_,_,rfl,rfl,⟨by decide,by decide⟩,_,rfl,_,_,rfl,rfl,_,_,rfl,rfl,f0,?_⟩
  obtain ⟨sm,es,hs⟩:∃ sm:Nat,sq * sq * sq / 1024 % (((2 ^ many - 1:Nat):Int)+1)=(sm:Int)/\sm<2 ^ many:=by
   have a:=Int.emod_nonneg (sq * sq * sq / 1024) (show (((2 ^ many - 1:Nat):Int)+1) ≠ 0 by omega)
   have b:=Int.emod_lt_of_pos (sq * sq * sq / 1024) f0
   refine ⟨(sq * sq * sq / 1024 % (((2 ^ many - 1:Nat):Int)+1)).toNat,by omega,by omega⟩
  show Cq 6 (V.int (sq * sq * sq / 1024 % (((2 ^ many - 1:Nat):Int)+1))) _ H _
  rw [es]
  refine ⟨_,rfl,_,rfl,_,rfl,_,rfl,_,rfl,_,_,rfl,rfl,_,rfl,_,rfl,_,_,rfl,rfl,_,rfl,_,rfl,_,_,rfl,rfl,_,rfl,_,rfl,_,rfl,_,_,rfl,rfl,_,_,rfl,rfl,by show 8<=sizeLine; decide,fun pl hpl=>?_⟩
  have e4:=Gw sm last
  have e5:=Us last one
  have e6:=GJ last one
  have e7:((last:Nat):Int) - Builtin.bitAnd (last:Int) (one:Int)=((last - (last &&& one):Nat):Int):=by
   have:last &&& one<=last:=Nat.and_le_left
   rw [Gw]
   omega
  have s1:=An (o:=HO.lst [V.int 0,V.int ((2 ^ many - 1:Nat):Int),V.int (one:Int),V.int (sm:Int),V.int (Builtin.bitAnd (sm:Int) (last:Int)),V.int (Builtin.bitXor (last:Int) (one:Int)),V.int (Builtin.bitOr (last:Int) (one:Int)),V.int ((last:Int) - Builtin.bitAnd (last:Int) (one:Int))]) hpl
  have a1:upd H pl (HO.lst [V.int 0,V.int ((2 ^ many - 1:Nat):Int),V.int (one:Int),V.int (sm:Int),V.int (Builtin.bitAnd (sm:Int) (last:Int)),V.int (Builtin.bitXor (last:Int) (one:Int)),V.int (Builtin.bitOr (last:Int) (one:Int)),V.int ((last:Int) - Builtin.bitAnd (last:Int) (one:Int))]) pl=some (.lst (nV [0,2 ^ many - 1,one,sm,sm &&& last,(last ||| one) - (last &&& one),last ||| one,last - (last &&& one)])):=by
   rw [Af,e4,e5,e6,e7]
   rfl
  have hall:∀ n∈[0,2 ^ many - 1,one,sm,sm &&& last,(last ||| one) - (last &&& one),last ||| one,last - (last &&& one)],n<2 ^ many:=by
   have b1:last ||| one<2 ^ many:=Nat.or_lt_two_pow hl ho
   have b2:sm &&& last<=last:=Nat.and_le_right
   intro n hn
   simp only [List.mem_cons,List.not_mem_nil,or_false] at hn
   omega
  refine ⟨_,rfl,_,_,rfl,rfl,(by show (0:Int)<8; decide),pl,_,_,_,rfl,rfl,.inl (.inl a1),Iu (i:=pk % 8) (by show pk % 8<8; omega),?_⟩
  refine q _ _ (hall _ ?_) s1
  rw [List.getD_eq_getElem?_getD,List.getElem?_eq_getElem (by show pk % 8<8; omega)]
  exact List.getElem_mem _
open Bw
noncomputable def eG:Sp:=fun vs H Q _=>∃ (p:Addr) (vs':List V) (sz:List Nat) (rk:List (Nat × Int)) (gs:List Gp),vs=[.ref p]/\H p=some (.lst vs')/\Paired (fun (r:R) v=>TupAt H r.v v) (Ge sz rk gs) vs'/\Ue sz rk gs/\vs'.length<=500 /\
 ∀ (m:Addr) H',H m=none->Ak H H'->JQ H' m sz rk gs->Q (.ref m) H'
theorem PJ (z:Str):inV (.str z) [.str "stop",.str "coupler",.str "mute"]=true ↔ z = "stop" \/ z = "coupler" \/ z = "mute":=by
 unfold inV
 simp [Qt]
 constructor
 ·rintro (h | h | h)
  ·exact .inl h.symm
  ·exact .inr (.inl h.symm)
  ·exact .inr (.inr h.symm)
 ·rintro (h | h | h)
  ·exact .inl h.symm
  ·exact .inr (.inl h.symm)
  ·exact .inr (.inr h.symm)
theorem gH {z:Str} (h:z = "stop" \/ z = "coupler" \/ z = "mute"):z ≠ "board" /\ z ≠ "rank" /\ z ≠ "line":=by
 rcases h with rfl | rfl | rfl <;> decide +kernel
theorem Ny:Ay ["_law_rows","_law_model_here","_law_keys","_law_pipes","_law_row"] ["_law_rows"] (Ab Yb):=⟨rfl,rfl,rfl,by decide +kernel,rfl,by decide +kernel,by decide +kernel⟩
include N T in
theorem dI:A_ P w K mg base Bf 1 fLm dLm ["_law_rows"] eG:=by
 refine N.FLm.1.ok Ny (fun vs H Q E h=>?_) (fun cdv A outer s H vs Q E hr h=>?_)
 ·obtain ⟨p,vs',sz,rk,gs,rfl,_⟩:=h
  rfl
 ·obtain ⟨p,vs',sz,rk,gs,rfl,hp,P0,W,h500,q⟩:=h
  have hu:=HH hr
  refine ⟨_,(@Ae _ _ _ _ _ (@BW _ _ _ _ _ _ 1 Ny.nd rfl (Or.inl rfl) (@U5 _ _ _ _ _ (@KQ _ _ _ _ _ _ _ _ _ Ba Ig (@KQ _ _ _ _ _ _ _ _ _ Ba Ig (@KQ _ _ _ _ _ _ _ _ _ Ba (@Dw _ _ _ _ Ac) Vt))) rfl rfl (by intro h; cases h) (by decide)) (by kernel_rfl) (.inl rfl))
   (@Ae _ _ _ _ _ (@BW _ _ _ _ _ _ 2 Ny.nd rfl (Or.inl rfl) Ad (by kernel_rfl) (.inl rfl))
   (@Ae _ _ _ _ _ (@BW _ _ _ _ _ _ 3 Ny.nd rfl (Or.inl rfl) Ad (by kernel_rfl) (.inl rfl))
   (@Ae _ _ _ _ _ (Cp PassesOwn.never rfl (Bj (pv 0)) (Bp (i:=4) Ny.nd rfl (Or.inl rfl)) (@Ae _ _ _ _ _ (@Ce _ _ _ _ _ _ _ _ (Bc Dj (@Ar _ _ _ _ _ _ _ Ej (pv 4) Ad (fun _ _=>rfl)) Ba (Bm _)) (@Ae _ _ _ _ _ (G7 hu (DQ hu (pv 1) Ba (fun _ _=>rfl)) (@Ar _ _ _ _ _ _ _ Ej (pv 4) Ad (fun _ _=>rfl)) (@DG _ _ _ _ _ (@Az _ _ _ _ _ rfl (pv 2) (@Az _ _ _ _ _ rfl (@Ar _ _ _ _ _ _ _ Ej (pv 4) Ad (fun _ _=>rfl)) Ac))) rfl)
   (@Ah _ _ _ (@BW _ _ _ _ _ _ 2 Ny.nd rfl (Or.inl rfl) (BK Ca (pv 2) (@Ar _ _ _ _ _ _ _ Ej (pv 4) Ad (fun _ _=>rfl))) (by kernel_rfl) (.inl rfl)))) Bh)
   (@Ae _ _ _ _ _ (@Ce _ _ _ _ _ _ _ _ (Bc Dj (@Ar _ _ _ _ _ _ _ Ej (pv 4) Ad (fun _ _=>rfl)) Ba (Bm _)) (@Ae _ _ _ _ _ (G7 hu (DQ hu (pv 1) Ba (fun _ _=>rfl)) (@Ar _ _ _ _ _ _ _ Ej (pv 4) Ad (fun _ _=>rfl)) (@DG _ _ _ _ _ (@Az _ _ _ _ _ rfl (pv 3) (@Az _ _ _ _ _ rfl (@Ar _ _ _ _ _ _ _ Ej (pv 4) Ad (fun _ _=>rfl)) Ac))) rfl)
   (@Ah _ _ _ (@BW _ _ _ _ _ _ 3 Ny.nd rfl (Or.inl rfl) (BK Ca (pv 3) (@Ar _ _ _ _ _ _ _ Ej (pv 4) Ad (fun _ _=>rfl))) (by kernel_rfl) (.inl rfl)))) Bh)
   (@Ae _ _ _ _ _ (@Ce _ _ _ _ _ _ _ _ (Bc Ky (@Ar _ _ _ _ _ _ _ Ej (pv 4) Ad (fun _ _=>rfl)) (@DG _ _ _ _ _ (@Az _ _ _ _ _ rfl Ba (@Az _ _ _ _ _ rfl Ba (@Az _ _ _ _ _ rfl Ba Ac)))) rfl) (@Ah _ _ _ (Ed (Ih PySem.F.plainAttrs_list PySem.F.slot_list_append PySem.F.type_list_append Cm (DQ hu (pv 1) Ba (fun _ _=>rfl)) (@Az _ _ _ _ _ rfl (@DG _ _ _ _ _ (@Az _ _ _ _ _ rfl (pv 4) (@Az _ _ _ _ _ rfl (@Dw _ _ _ _ Ac) Ac))) Ac)))) Bh)
   (@Ah _ _ _ (@Ce _ _ _ _ _ _ _ _ (Bc Dj (@Ar _ _ _ _ _ _ _ Ej (pv 4) Ad (fun _ _=>rfl)) Ba (Bm _)) (@Ah _ _ _ (Ed (Ih PySem.F.plainAttrs_list PySem.F.slot_list_append PySem.F.type_list_append Cm (@Ar _ _ _ _ _ _ _ Ej (@Ar _ _ _ _ _ _ _ Bb (DQ hu (pv 1) Ba (fun _ _=>rfl)) (Mh Jy Ad) (fun _ _=>rfl)) Ad (fun _ _=>rfl)) (@Az _ _ _ _ _ rfl (pv 4) Ac)))) Bh))))))
   (@Ae _ _ _ _ _ (G7 hu (pv 1) Ba (pv 2) rfl)
   (@Ae _ _ _ _ _ (G7 hu (pv 1) Ba (pv 3) rfl)
   (@Ah _ _ _ (@BL _ _ _ _ (pv 1))))))))),?_⟩
  intro m hm db hdb dr hdr
  refine ⟨Hn (by simp),fun kn hkn=>?_⟩
  have s1:=An (o:=HO.dK []) hm
  have a1:upd H m (HO.dK []) m=some (.dK []):=Af
  generalize upd H m (HO.dK [])=H1 at s1 a1 hdb hdr hkn ⊢
  have s2:=An (o:=HO.dK []) hdb
  have a2:upd H1 db (HO.dK []) db=some (.dK []):=Af
  generalize upd H1 db (HO.dK [])=H2 at s2 a2 hdr hkn ⊢
  have s3:=An (o:=HO.dK []) hdr
  have a3:upd H2 dr (HO.dK []) dr=some (.dK []):=Af
  generalize upd H2 dr (HO.dK [])=H3 at s3 a3 hkn ⊢
  have s4:=An (o:=HO.lst []) hkn
  have a4:upd H3 kn (HO.lst []) kn=some (.lst []):=Af
  generalize upd H3 kn (HO.lst [])=H4 at s4 a4 ⊢
  have a14:=s4 _ _ (s3 _ _ (s2 _ _ a1))
  have a24:=s4 _ _ (s3 _ _ a2)
  have a34:=s4 _ _ a3
  refine ⟨a14,[(Sum.inr "boards",.ref db),(Sum.inr "ranks",.ref dr),(Sum.inr "knobs",.ref kn)],rfl,(by show 3<=15; decide),?_⟩
  have n1:m ≠ db:=Aj a1 hdb
  have n2:m ≠ dr:=Aj (s2 _ _ a1) hdr
  have n3:db ≠ dr:=Aj a2 hdr
  have n4:m ≠ kn:=Aj (s3 _ _ (s2 _ _ a1)) hkn
  have z1:=s1.free hdb
  have z2:=s1.free (s2.free hdr)
  have z3:=s1.free (s2.free (s3.free hkn))
  obtain ⟨kv0,ekv,vb,vr,vk,lkv⟩:∃ kv0:List (Key × V),JF [] [(Sum.inr "boards",V.ref db),(Sum.inr "ranks",.ref dr),(Sum.inr "knobs",.ref kn)]=kv0/\Cj kv0 (Sum.inr "boards")=some (.ref db)/\Cj kv0 (Sum.inr "ranks")=some (.ref dr)/\Cj kv0 (Sum.inr "knobs")=some (.ref kn)/\kv0.length<=3:=⟨_,rfl,rfl,rfl,rfl,Fi _ _⟩
  rw [ekv]
  have sA:Ak H (upd H4 m (HO.dK kv0)):=fun b u e=>by
   rw [Al (Aj e hm)]
   exact s4 _ _ (s3 _ _ (s2 _ _ (s1 _ _ e)))
  have aA:upd H4 m (HO.dK kv0) m=some (.dK kv0):=Af
  have bA:upd H4 m (HO.dK kv0) db=some (.dK []):=by rw [Al (Ne.symm n1)]; exact a24
  have cA:upd H4 m (HO.dK kv0) dr=some (.dK []):=by rw [Al (Ne.symm n2)]; exact a34
  have dA:upd H4 m (HO.dK kv0) kn=some (.lst []):=by rw [Al (Ne.symm n4)]; exact a4
  generalize upd H4 m (HO.dK kv0)=HA at sA aA bA cA dA ⊢
  have hS:Cg K HA p vs':=.inl (.inl (sA _ _ hp))
  have hlen:=P0.length
  refine ⟨_,rfl,p,rfl,⟨_,hS⟩,Ft (K:=K) (a:=p) (xs:=vs') (fun i σ H4=>Ak H H4/\H4 m=some (.dK kv0)/\∃ TL s v4,Gb H H4 db dr kn TL s i/\JT s ((Ge sz rk gs).drop i) (mW sz rk gs)/\σ=[some (.ref p),some (.ref m),some (.int (s.ke:Nat)),some (.int (s.pi:Nat)),v4])
   ⟨sA,aA,[],m0,_,⟨⟨[],bA,Nat.zero_le _,fun t x e=>nomatch e⟩,⟨[],cA,Nat.zero_le _,fun t x e=>nomatch e⟩,dA,List.nodup_nil,(fun a ha=>nomatch ha),.nil⟩,eU W,rfl⟩ (fun i σ H4 _ h=>.inl (.inl (h.1 _ _ hp))) ?_ ?_⟩
  ·rintro i x σ H4 hx ⟨s4,am,TL,s,v4,M,tr,rfl⟩
   obtain ⟨r,hr,hrx⟩:=Ff P0 hx
   have hi:i<vs'.length:=(List.getElem?_eq_some_iff.mp hx).1
   have ed:(Ge sz rk gs).drop i=r::(Ge sz rk gs).drop (i+1):=by
    have hir:i<(Ge sz rk gs).length:=(List.getElem?_eq_some_iff.mp hr).1
    rw [List.drop_eq_getElem_cons hir]
    congr 1
    exact (List.getElem?_eq_some_iff.mp hr).2
   rw [ed] at tr
   obtain ⟨r0,rfl,hr0⟩:=hrx.mono s4
   cases tr with
   | @cons _ s' _ _ _ st tr =>
   cases st with
   | b b =>
    obtain ⟨kvs,hd,hlk,h3⟩:=id M.b
    refine ⟨_,rfl,r0,_,_,_,rfl,rfl,.inl (.inl hr0),Ag (j:=0) rfl,rfl,_,rfl,B_ (fun _=>?_) (fun z=>absurd (decide_eq_true rfl) z)⟩
    refine ⟨_,rfl,_,rfl,r0,_,_,_,rfl,rfl,.inl (.inl hr0),Ag (j:=2) rfl,by show 2<=sizeLine; decide,fun T hT=>?_⟩
    have s5:=An (o:=HO.tup [.int (s.ke:Nat),.int (b.2:Nat)]) hT
    have u5:TupAt (upd H4 T (HO.tup [.int (s.ke:Nat),.int (b.2:Nat)])) [.int (s.ke:Nat),.int (b.2:Nat)] (.ref T):=⟨T,rfl,Af⟩
    generalize upd H4 T (HO.tup [.int (s.ke:Nat),.int (b.2:Nat)])=H5 at s5 u5 ⊢
    have M5:=M.mono s5 (Nat.le_refl _)
    have am5:=s5 _ _ am
    have hr5:=s5 _ _ hr0
    have d5:=s5 _ _ hd
    refine ⟨_,rfl,m,_,rfl,.inl ⟨kv0,Sum.inr "boards",.inl am5,rfl,vb.symm⟩,_,rfl,r0,_,_,_,rfl,rfl,.inl (.inl hr5),Ag (j:=1) rfl,db,_,rfl,KY.k (k:=Sum.inr b.1) d5 (Aq (by omega)),?_⟩
    have M6:=M5.iZ (b:=b) n3 d5 hlk (fun t x e=>by obtain ⟨v,e1,e2⟩:=h3 t x e; exact ⟨v,e1,e2.mono s5⟩) u5
    have am6:upd H5 db (HO.dK (putK kvs (Sum.inr b.1) (.ref T))) m=some (.dK kv0):=by rw [Al n1]; exact am5
    have s6:Ak H (upd H5 db (HO.dK (putK kvs (Sum.inr b.1) (.ref T)))):=fun a u e=>by rw [Al (Aj e z1)]; exact s5 _ _ (s4 _ _ e)
    have hr6:upd H5 db (HO.dK (putK kvs (Sum.inr b.1) (.ref T))) r0=some (.tup (FT b).v):=By hr5 d5 (by simp)
    generalize upd H5 db (HO.dK (putK kvs (Sum.inr b.1) (.ref T)))=H6 at M6 am6 s6 hr6 ⊢
    refine ⟨_,rfl,_,rfl,r0,_,_,_,rfl,rfl,.inl (.inl hr6),Ag (j:=2) rfl,_,_,rfl,rfl,?_⟩
    refine ⟨_,rfl,r0,_,_,_,rfl,rfl,.inl (.inl hr6),Ag (j:=0) rfl,rfl,_,rfl,B_ (fun z=>absurd (V.str.inj (of_decide_eq_true z)) (by show ¬ ("board" : Str) = "rank"; decide +kernel)) (fun _=>?_)⟩
    refine ⟨_,rfl,r0,_,_,_,rfl,rfl,.inl (.inl hr6),Ag (j:=0) rfl,by show 3<=sizeLine; decide,fun T7 hT7=>?_⟩
    have s7:=An (o:=HO.tup [.str "stop",.str "coupler",.str "mute"]) hT7
    have u7:upd H6 T7 (HO.tup [.str "stop",.str "coupler",.str "mute"]) T7=some (.tup [.str "stop",.str "coupler",.str "mute"]):=Af
    generalize upd H6 T7 (HO.tup [.str "stop",.str "coupler",.str "mute"])=H7 at s7 u7 ⊢
    refine ⟨T7,_,rfl,.inr (.inl (.inl u7)),rfl,rfl,_,rfl,B_ (fun z=>absurd ((PJ _).mp z) (by show ¬ (("board" : Str) = "stop" \/ ("board" : Str) = "coupler" \/ ("board" : Str) = "mute"); decide +kernel)) (fun _=>?_)⟩
    refine ⟨_,rfl,r0,_,_,_,rfl,rfl,.inl (.inl (s7 _ _ hr6)),Ag (j:=0) rfl,rfl,_,rfl,B_ (fun z=>absurd (V.str.inj (of_decide_eq_true z)) (by show ¬ ("board" : Str) = "line"; decide +kernel)) (fun _=>?_)⟩
    exact ⟨s6.trans s7,s7 _ _ am6,TL,_,_,M6.mono s7 (Nat.le_refl _),tr,rfl⟩
   | r b =>
    obtain ⟨kvs,hd,hlk,h3⟩:=id M.r
    refine ⟨_,rfl,r0,_,_,_,rfl,rfl,.inl (.inl hr0),Ag (j:=0) rfl,rfl,_,rfl,B_ (fun z=>absurd (V.str.inj (of_decide_eq_true z)) (by show ¬ ("rank" : Str) = "board"; decide +kernel)) (fun _=>?_)⟩
    refine ⟨_,rfl,r0,_,_,_,rfl,rfl,.inl (.inl hr0),Ag (j:=0) rfl,rfl,_,rfl,B_ (fun _=>?_) (fun z=>absurd (decide_eq_true rfl) z)⟩
    refine ⟨_,rfl,_,rfl,r0,_,_,_,rfl,rfl,.inl (.inl hr0),Ag (j:=2) rfl,by show 2<=sizeLine; decide,fun T hT=>?_⟩
    have s5:=An (o:=HO.tup [.int (s.pi:Nat),.int (b.2.1:Nat)]) hT
    have u5:TupAt (upd H4 T (HO.tup [.int (s.pi:Nat),.int (b.2.1:Nat)])) [.int (s.pi:Nat),.int (b.2.1:Nat)] (.ref T):=⟨T,rfl,Af⟩
    generalize upd H4 T (HO.tup [.int (s.pi:Nat),.int (b.2.1:Nat)])=H5 at s5 u5 ⊢
    have M5:=M.mono s5 (Nat.le_refl _)
    have am5:=s5 _ _ am
    have hr5:=s5 _ _ hr0
    have d5:=s5 _ _ hd
    refine ⟨_,rfl,m,_,rfl,.inl ⟨kv0,Sum.inr "ranks",.inl am5,rfl,vr.symm⟩,_,rfl,r0,_,_,_,rfl,rfl,.inl (.inl hr5),Ag (j:=1) rfl,dr,_,rfl,KY.k (k:=Sum.inr b.1) d5 (Aq (by omega)),?_⟩
    have M6:=M5.ik (b:=b) n3 d5 hlk (fun t x e=>by obtain ⟨v,e1,e2⟩:=h3 t x e; exact ⟨v,e1,e2.mono s5⟩) u5
    have am6:upd H5 dr (HO.dK (putK kvs (Sum.inr b.1) (.ref T))) m=some (.dK kv0):=by rw [Al n2]; exact am5
    have s6:Ak H (upd H5 dr (HO.dK (putK kvs (Sum.inr b.1) (.ref T)))):=fun a u e=>by rw [Al (Aj e z2)]; exact s5 _ _ (s4 _ _ e)
    have hr6:upd H5 dr (HO.dK (putK kvs (Sum.inr b.1) (.ref T))) r0=some (.tup (Er b).v):=By hr5 d5 (by simp)
    generalize upd H5 dr (HO.dK (putK kvs (Sum.inr b.1) (.ref T)))=H6 at M6 am6 s6 hr6 ⊢
    refine ⟨_,rfl,_,rfl,r0,_,_,_,rfl,rfl,.inl (.inl hr6),Ag (j:=2) rfl,_,_,rfl,rfl,?_⟩
    refine ⟨_,rfl,r0,_,_,_,rfl,rfl,.inl (.inl hr6),Ag (j:=0) rfl,by show 3<=sizeLine; decide,fun T7 hT7=>?_⟩
    have s7:=An (o:=HO.tup [.str "stop",.str "coupler",.str "mute"]) hT7
    have u7:upd H6 T7 (HO.tup [.str "stop",.str "coupler",.str "mute"]) T7=some (.tup [.str "stop",.str "coupler",.str "mute"]):=Af
    generalize upd H6 T7 (HO.tup [.str "stop",.str "coupler",.str "mute"])=H7 at s7 u7 ⊢
    refine ⟨T7,_,rfl,.inr (.inl (.inl u7)),rfl,rfl,_,rfl,B_ (fun z=>absurd ((PJ _).mp z) (by show ¬ (("rank" : Str) = "stop" \/ ("rank" : Str) = "coupler" \/ ("rank" : Str) = "mute"); decide +kernel)) (fun _=>?_)⟩
    refine ⟨_,rfl,r0,_,_,_,rfl,rfl,.inl (.inl (s7 _ _ hr6)),Ag (j:=0) rfl,rfl,_,rfl,B_ (fun z=>absurd (V.str.inj (of_decide_eq_true z)) (by show ¬ ("rank" : Str) = "line"; decide +kernel)) (fun _=>?_)⟩
    exact ⟨s6.trans s7,s7 _ _ am6,TL,_,_,M6.mono s7 (Nat.le_refl _),tr,rfl⟩
   | k _ hw hl =>
    obtain ⟨nb,nr,nl⟩:=gH hw
    refine ⟨_,rfl,r0,_,_,_,rfl,rfl,.inl (.inl hr0),Ag (j:=0) rfl,rfl,_,rfl,B_ (fun z=>absurd (V.str.inj (of_decide_eq_true z)) nb) (fun _=>?_)⟩
    refine ⟨_,rfl,r0,_,_,_,rfl,rfl,.inl (.inl hr0),Ag (j:=0) rfl,rfl,_,rfl,B_ (fun z=>absurd (V.str.inj (of_decide_eq_true z)) nr) (fun _=>?_)⟩
    refine ⟨_,rfl,r0,_,_,_,rfl,rfl,.inl (.inl hr0),Ag (j:=0) rfl,by show 3<=sizeLine; decide,fun T7 hT7=>?_⟩
    have s7:=An (o:=HO.tup [.str "stop",.str "coupler",.str "mute"]) hT7
    have u7:upd H4 T7 (HO.tup [.str "stop",.str "coupler",.str "mute"]) T7=some (.tup [.str "stop",.str "coupler",.str "mute"]):=Af
    generalize upd H4 T7 (HO.tup [.str "stop",.str "coupler",.str "mute"])=H7 at s7 u7 ⊢
    refine ⟨T7,_,rfl,.inr (.inl (.inl u7)),rfl,rfl,_,rfl,B_ (fun _=>?_) (fun z=>absurd ((PJ _).mpr hw) z)⟩
    have M7:=M.mono s7 (Nat.le_refl _)
    have am7:=s7 _ _ am
    have hr7:=s7 _ _ hr0
    refine ⟨_,rfl,m,_,rfl,.inl ⟨kv0,Sum.inr "knobs",.inl am7,rfl,vk.symm⟩,.inl ⟨rfl,_,.inl (.inl M7.k)⟩,_,rfl,Hn (by simp),fun L hL=>?_⟩
    have s8:=An (o:=HO.lst []) hL
    have u8:upd H7 L (HO.lst []) L=some (.lst []):=Af
    have nL:L ∉ TL.map (·.2):=fun hm=>by
     obtain ⟨a,ha,e⟩:=List.mem_map.mp hm
     obtain ⟨g,_,rv,lvs,_,_,h3,_⟩:=Ci M7.pr ha
     rw [e,hL] at h3
     cases h3
    have nk:L ≠ kn:=fun e=>by rw [e,M7.k] at hL; cases hL
    have zL:=s4.free (s7.free hL)
    generalize upd H7 L (HO.lst [])=H8 at s8 u8 ⊢
    refine ⟨by show 2<=sizeLine; decide,fun T hT=>?_⟩
    have s9:=An (o:=HO.tup [.ref r0,.ref L]) hT
    have u9:upd H8 T (HO.tup [.ref r0,.ref L]) T=some (.tup [.ref r0,.ref L]):=Af
    generalize upd H8 T (HO.tup [.ref r0,.ref L])=H9 at s9 u9 ⊢
    have s79:=s8.trans s9
    have M9:=M7.mono s79 (Nat.le_refl _)
    have hr9:=s79 _ _ hr7
    have lTL:TL.length=s.kn.length:=M.pr.length.symm
    refine ⟨kn,_,_,rfl,rfl,M9.k,Aq (by rw [List.length_map]; omega),?_⟩
    have M10:=M9.putK u9 (s9 _ _ u8) ⟨r0,rfl,hr9⟩ zL nk nL
    refine ⟨_,rfl,r0,_,_,_,rfl,rfl,.inl (.inl (By hr9 M9.k (by simp))),Ag (j:=0) rfl,rfl,_,rfl,B_ (fun z=>absurd (V.str.inj (of_decide_eq_true z)) nl) (fun _=>?_)⟩
    exact ⟨fun b u e=>by rw [Al (Aj e z3)]; exact s79 _ _ (s7 _ _ (s4 _ _ e)),By (s79 _ _ am7) M9.k (by simp),_,_,_,M10,tr,rfl⟩
   | l ks g ls l e hl =>
    refine ⟨_,rfl,r0,_,_,_,rfl,rfl,.inl (.inl hr0),Ag (j:=0) rfl,rfl,_,rfl,B_ (fun z=>absurd (V.str.inj (of_decide_eq_true z)) (by show ¬ ("line" : Str) = "board"; decide +kernel)) (fun _=>?_)⟩
    refine ⟨_,rfl,r0,_,_,_,rfl,rfl,.inl (.inl hr0),Ag (j:=0) rfl,rfl,_,rfl,B_ (fun z=>absurd (V.str.inj (of_decide_eq_true z)) (by show ¬ ("line" : Str) = "rank"; decide +kernel)) (fun _=>?_)⟩
    refine ⟨_,rfl,r0,_,_,_,rfl,rfl,.inl (.inl hr0),Ag (j:=0) rfl,by show 3<=sizeLine; decide,fun T7 hT7=>?_⟩
    have s7:=An (o:=HO.tup [.str "stop",.str "coupler",.str "mute"]) hT7
    have u7:upd H4 T7 (HO.tup [.str "stop",.str "coupler",.str "mute"]) T7=some (.tup [.str "stop",.str "coupler",.str "mute"]):=Af
    generalize upd H4 T7 (HO.tup [.str "stop",.str "coupler",.str "mute"])=H7 at s7 u7 ⊢
    refine ⟨T7,_,rfl,.inr (.inl (.inl u7)),rfl,rfl,_,rfl,B_ (fun z=>absurd ((PJ _).mp z) (by show ¬ (("line" : Str) = "stop" \/ ("line" : Str) = "coupler" \/ ("line" : Str) = "mute"); decide +kernel)) (fun _=>?_)⟩
    have M7:=M.mono s7 (Nat.le_refl _)
    have am7:=s7 _ _ am
    have hr7:=s7 _ _ hr0
    obtain ⟨tl,T,L,rv0,lvs,rfl,hT,hL,hll,zL,M8⟩:=M7.line e (l:=Lr l) ⟨r0,rfl,hr7⟩
    have hk7:=M7.k
    rw [List.map_append,List.map_cons,List.map_nil] at hk7
    refine ⟨_,rfl,r0,_,_,_,rfl,rfl,.inl (.inl hr7),Ag (j:=0) rfl,rfl,_,rfl,B_ (fun _=>?_) (fun z=>absurd (decide_eq_true rfl) z)⟩
    refine ⟨_,rfl,m,_,rfl,.inl ⟨kv0,Sum.inr "knobs",.inl am7,rfl,vk.symm⟩,_,rfl,kn,_,_,_,rfl,rfl,.inl (.inl hk7),Ov _ _,T,_,_,_,rfl,rfl,.inl (.inl hT),Ag (j:=1) rfl,.inl ⟨rfl,_,.inl (.inl hL)⟩,_,rfl,L,lvs,_,rfl,rfl,hL,Aq (by omega),?_⟩
    exact ⟨fun b u e=>by rw [Al (Aj e zL)]; exact s7 _ _ (s4 _ _ e),By am7 hL (by simp),_,_,_,M8,tr,rfl⟩
  ·rintro σ H4 ⟨s4,am,TL,s,v4,M,tr,rfl⟩
   rw [List.drop_of_length_le (by omega)] at tr
   cases tr
   refine ⟨_,rfl,_,rfl,m,_,rfl,KY.k (k:=Sum.inr "keys") am (Aq (by omega)),?_⟩
   have l1:=Ds kv0 (Sum.inr "keys") (.int ((mW sz rk gs).ke:Nat))
   refine ⟨_,rfl,_,rfl,m,_,rfl,KY.k (k:=Sum.inr "pipes") Af (Aq (by omega)),?_⟩
   have M1:Gb H (upd H4 m (HO.dK (putK kv0 (Sum.inr "keys") (.int ((mW sz rk gs).ke:Nat))))) db dr kn TL (mW sz rk gs) vs'.length:=⟨M.b.Ho am (by simp) (Ne.symm n1) (Nat.le_refl _),M.r.Ho am (by simp) (Ne.symm n2) (Nat.le_refl _),By M.k am (by simp),M.nd,M.fr,Paired.Eo M.pr fun _ _ q=>q.Ho am⟩
   generalize hv1:putK kv0 (Sum.inr "keys") (.int ((mW sz rk gs).ke:Nat))=kv1 at M1 l1 ⊢
   have am1:upd H4 m (HO.dK kv1) m=some (.dK kv1):=Af
   have s5:Ak H (upd H4 m (HO.dK kv1)):=fun b u e=>by rw [Al (Aj e hm)]; exact s4 _ _ e
   generalize upd H4 m (HO.dK kv1)=H5 at M1 am1 s5 ⊢
   have M2:Gb H (upd H5 m (HO.dK (putK kv1 (Sum.inr "pipes") (.int ((mW sz rk gs).pi:Nat))))) db dr kn TL (mW sz rk gs) vs'.length:=⟨M1.b.Ho am1 (by simp) (Ne.symm n1) (Nat.le_refl _),M1.r.Ho am1 (by simp) (Ne.symm n2) (Nat.le_refl _),By M1.k am1 (by simp),M1.nd,M1.fr,Paired.Eo M1.pr fun _ _ q=>q.Ho am1⟩
   have nk:∀ {a b:Str},a ≠ b->¬ (Sum.inr a:Key)=Sum.inr b:=fun h z=>h (Sum.inr.inj z)
   refine ⟨_,rfl,q m _ hm (fun b u e=>by rw [Al (Aj e hm)]; exact s5 _ _ e) ⟨H,_,db,dr,kn,TL,_,Af,?_,?_,?_,?_,M2⟩⟩
   ·rw [Cz,if_neg (nk (by decide +kernel)),← hv1,Cz,if_neg (nk (by decide +kernel))]
    exact vb
   ·rw [Cz,if_neg (nk (by decide +kernel)),← hv1,Cz,if_neg (nk (by decide +kernel))]
    exact vr
   ·rw [Cz,if_neg (nk (by decide +kernel)),← hv1,Cz,if_neg (nk (by decide +kernel))]
    exact vk
   ·rw [Cz,if_neg (nk (by decide +kernel)),← hv1,Cz,if_pos rfl,bU]
open Bw
noncomputable def Nk (p:Nat × Nat):List V:=[.int ((p.2:Nat):Int),.int ((p.1:Nat):Int)]
open Bw
noncomputable def cL (K:PySem.W.Frag):Sp:=fun vs H Q _=>∃ (a:Addr) (k:Nat) (ns:List Int),vs=[.ref a,.int (k:Nat)]/\Cg K H a (ns.map V.int)/\∀ i:Int,Q (.int i) H
theorem iR:Ay ["_law_script","_law_k"] ["_law_script","_law_k"] (Ab ZC):=⟨rfl,rfl,rfl,by decide +kernel,rfl,by decide +kernel,by decide +kernel⟩
include N T in
theorem aH:A_ P w K mg base Bf 1 fCe dCe ["_law_script","_law_k"] (cL K):=by
 refine N.FCe.1.ok iR (fun vs H Q E h=>?_) (fun cdv A outer s H vs Q E hr h=>?_)
 ·obtain ⟨a,k,ns,rfl,_⟩:=h
  rfl
 ·obtain ⟨a,k,ns,rfl,hS,q⟩:=h
  refine ⟨_,(@Ae _ _ _ _ _ (@Ce _ _ _ _ _ _ _ _ (Bc JW (pv 1) (BR BV rfl T.len PySem.boot_len (@Az _ _ _ _ _ rfl (pv 0) Ac)) (Bm _)) (@Ah _ _ _ (@BL _ _ _ _ (@Ar _ _ _ _ _ _ _ Bb (pv 0) (pv 1) (fun _ _=>rfl)))) Bh)
   (@Ah _ _ _ (@BL _ _ _ _ Ad))),?_⟩
  refine ⟨_,rfl,_,rfl,a,_,rfl,.inl hS,_,_,rfl,rfl,_,rfl,?_⟩
  refine B_ (fun h1=>?_) (fun _=>q 0)
  have hlt:k<ns.length:=by have:=of_decide_eq_true h1; rw [List.length_map] at this; omega
  exact ⟨_,rfl,_,rfl,a,_,_,.int ns[k],rfl,rfl,hS,Ag (by rw [List.getElem?_map,List.getElem?_eq_getElem hlt]; rfl),q _⟩
theorem iU:Ay ["_law_found"] ["_law_found"] (Ab Yl):=⟨rfl,rfl,rfl,by decide +kernel,rfl,by decide +kernel,by decide +kernel⟩
include N T in
theorem Zx:A_ P w K mg base Bf 1 fLw dLw ["_law_found"] Qq:=by
 refine N.FLw.1.ok iU (fun vs H Q E h=>?_) (fun cdv A outer s H vs Q E hr h=>?_)
 ·obtain ⟨i,rfl,_⟩:=h
  rfl
 ·obtain ⟨i,rfl,q⟩:=h
  refine ⟨_,(@Ah _ _ _ (@BL _ _ _ _ (Dy (BR DR rfl T.isin PyProof.Rows.boot_isinstance (@Az _ _ _ _ _ rfl (pv 0) (@Az _ _ _ _ _ rfl (Es (v:=.ty "int") rfl T.int PyProof.Rows.boot_int rfl) Ac))) (Dn (N8 (BR DR rfl T.isin PyProof.Rows.boot_isinstance (@Az _ _ _ _ _ rfl (pv 0) (@Az _ _ _ _ _ rfl (Es (v:=.ty "bool") rfl T.bool PyProof.Rows.boot_bool rfl) Ac)))))))),?_⟩
  refine ⟨_,rfl,_,"int",_,_,rfl,.int i,ty_int,_,rfl,GZ ?_⟩
  exact ⟨_,rfl,_,"bool",_,_,rfl,.int i,Vw,_,rfl,q⟩
open Bw
theorem OD {z:Str} (dd:Addr) (h:(z == "row_sets")=false):([("row_sets",V.ref dd)]:List (Str × V)).lookup z=none:=by
 rw [List.lookup_cons,h]
 rfl
theorem Ms {l:List Nat} {n:Nat} (h:l.length=n):(((List.range n).map fun (i:Nat)=>(0:Int)+(i:Int)).map fun i=>V.int ((l.getD i.toNat 0:Nat):Int))=nV l:=by
 rw [List.map_map]
 refine List.ext_getElem? fun i=>?_
 unfold nV
 rw [List.getElem?_map,List.getElem?_map]
 by_cases hi:i<n
 ·rw [List.getElem?_range hi,List.getElem?_eq_getElem (by omega)]
  show some (V.int ((l.getD ((0:Int)+(i:Int)).toNat 0:Nat):Int))=some (V.int ((l[i]:Nat):Int))
  rw [Int.zero_add,Int.toNat_natCast,List.getD_eq_getElem?_getD,List.getElem?_eq_getElem (by omega)]
  rfl
 ·rw [List.getElem?_eq_none (by rw [List.length_range]; omega),List.getElem?_eq_none (by omega)]
  rfl
theorem lE {sz:List Nat} {rk:List (Nat × Int)} {gs:List Gp} (h:Ue sz rk gs):gm (Gg rk) (gs.map Gp.QM):=fun l hl=>by
 obtain ⟨g,hg,rfl⟩:=List.mem_map.mp hl
 have l2:(Gg rk).length=rk.length:=by unfold Gg; rw [List.length_map,List.length_zipIdx]
 have ok:=h.ok g hg
 cases g with
 | st k b ls =>
  obtain ⟨o1,o2,o3,o4⟩:=ok
  refine ⟨by show ls.length<=100; omega,fun ln hln=>?_⟩
  obtain ⟨p1,p2,p3,p4,p5,p6⟩:=o4 ln hln
  have zb:sz.getD b 0<=61:=by
   rw [List.getD_eq_getElem?_getD,List.getElem?_eq_getElem o2]
   exact (h.z _ (List.getElem_mem _)).2
  exact ⟨by omega,p4,p5,by omega,p2,p3⟩
 | cp k i j s=>exact ⟨by show 0<=100; decide,fun ln hln=>nomatch hln⟩
 | mu k b=>exact ⟨by show 0<=100; decide,fun ln hln=>nomatch hln⟩
open Bw
noncomputable def Mj (K:PySem.W.Frag):Sp:=fun vs H Q _=>∃ (a:Addr) (ns:List Int),vs=[.ref a]/\Cg K H a (ns.map V.int)/\ns.length<=63/\∀ H',Q (.bl true) H'
theorem Ek.bu {Cy:Addr} {H:Hp} {y D:Addr} {rw:List Nat} {us:List V} {u:HO} (h:Ek Cy H y rw) (hD:H D=some (.lst us)):Ek Cy (upd H D u) y rw:=by
 obtain ⟨dy,dd,o,e1,e2⟩:=h.ex
 exact ⟨dy,dd,o,By e1 hD (by simp),By e2 hD (by simp)⟩
noncomputable def Su (scope osc:Scope):Scope:={ scope with names:=scope.names.map fun (n,k)=>if (k == NameKind.free && osc.kind == .function && osc.names.lookup n == some .cell) then (n,NameKind.cell) else (n,k) }
theorem HF {X:Cx} {x:Str} {scope osc:Scope} {C:Addr} {s₀:Shared} {H₀:Hp} {fp:List Addr} (h:X.env.scope=osc):(Bk X x scope C s₀ H₀ fp).env.scope=Su scope osc:=by
 subst h
 rfl
theorem Ek.Zf {Cy:Addr} {H:Hp} {y:Addr} {a b:List Nat} (h:Ek Cy H y a) (h':Ek Cy H y b):a=b:=by
 obtain ⟨dy,dd,o,e1,e2⟩:=h.ex
 obtain ⟨dy',dd',o',f1,f2⟩:=h'.ex
 rw [e1] at f1
 cases f1
 rw [e2] at f2
 have e:Ck a=Ck b:=by
  injection f2 with f3
  injection f3 with _ f4
  injection f4
 have key:∀ l:List Nat,(Ck l).map (fun kv=>kv.2)=nV l:=fun l=>by
  rw [Ii,List.map_map]
  refine List.ext_getElem? fun i=>?_
  unfold nV
  rw [List.getElem?_map,List.getElem?_map]
  by_cases hi:i<l.length
  ·rw [List.getElem?_range hi,List.getElem?_eq_getElem hi]
   show some (V.int ((l.getD i 0:Nat):Int))=some (V.int ((l[i]:Nat):Int))
   rw [List.getD_eq_getElem?_getD,List.getElem?_eq_getElem hi]
   rfl
  ·rw [List.getElem?_eq_none (by rw [List.length_range]; omega),List.getElem?_eq_none (by omega)]
   rfl
 have e3:nV a=nV b:=by rw [← key a,← key b,e]
 unfold nV at e3
 refine List.map_inj_right (f:=fun n:Nat=>V.int (n:Int)) (fun x y h=>?_) |>.mp e3
 have:=V.int.inj h
 omega
theorem WR {n:Nat} {H:Hp}:∀ {l:List Nat},Paired (Dp n H) (nV l) (nV l)
 | []=>.nil
 | _::_=>.cons (Uj rfl) WR
noncomputable def Yj (Cy:Addr) (n:Nat) (H:Hp) (v:V):Prop:=∃ y rw,v=.ref y/\Ek Cy H y rw/\rw.length=n
theorem Yj.mono {Cy:Addr} {n:Nat} {H H':Hp} {v:V} (s:Ak H H') (h:Yj Cy n H v):Yj Cy n H' v:=by
 obtain ⟨y,rw,e,h1,h2⟩:=h
 exact ⟨y,rw,e,h1.mono s,h2⟩
theorem M_ {Cy:Addr} {n:Nat} {H:Hp} {G:V->List V->Prop} {D D':Addr} {H1 H2:Hp} (hG:∀ x a b,G x a->G x b->a=b/\∃ l,a=nV l):∀ {vs xs ys:List V},Paired (fD G D H1 H) vs xs->Paired (fD G D' H2 H) vs ys->Paired (Dp 1 H) xs ys
 | [],_,_,.nil,.nil=>.nil
 | v::vs,_,_,.cons a b,.cons c d=>by
  obtain ⟨l1,z1,rfl,_,_,e1,g1⟩:=a
  obtain ⟨l2,z2,rfl,_,_,e2,g2⟩:=c
  obtain ⟨rfl,l,rfl⟩:=hG v z1 z2 g1 g2
  exact .cons (.inr ⟨l1,l2,_,_,rfl,rfl,.inl ⟨e1,e2⟩,WR⟩) (M_ (Cy:=Cy) (n:=n) hG b d)
theorem FJ:Ay ["_law_script","_law_drawn_here","_law_rows","_law_model_here","_law_many","_law_organ_here","_law_boards","_law_k","_law_knobs","_law_lanes","_law_held_here","_law_cell","_law_at","_law_found"] ["_law_script"] (Ab I_):=⟨rfl,rfl,rfl,by decide +kernel,rfl,by decide +kernel,by decide +kernel⟩
theorem Xh {f:Addr} {fd:FuncData} (F:DW K "law" "law" I_ f fd) (N:ig K mg C Cy fWh fMd fNm fRo fTo fWi fPa fHp fCl fIk fSb fWm fHr fIr fCk fNu fCa fPl fLi fMy fSt fHa fMe fSh fUn fLe fDc fLp fLq fCb fCr fMu fUk fNb fLl fBs fBa fCe fLw fDn fDw fLs fLc fLg fLm fLh fLj fOi fOb fOc fOk fOo fBk fOp fOr fOq fOe fOs fOm fOz fRi fRr fRs dWh dMd dNm dRo dTo dWi dPa dHp dCl dIk dSb dWm dHr dIr dCk dNu dCa dPl dLi dMy dSt dHa dMe dSh dUn dLe dDc dLp dLq dCb dCr dMu dUk dNb dLl dBs dBa dCe dLw dDn dDw dLs dLc dLg dLm dLh dLj dOi dOb dOc dOk dOo dBk dOp dOr dOq dOe dOs dOm dOz dRi dRr dRs) (T:Txt K w.params mg C Cy aN aK aB aP aM) (F0:Nj K aB aP aM):A_ P w K mg base Bf 11 f fd ["_law_script"] (Mj K):=by
 have GDn:A_ P w K mg base Bf 1 fDn dDn ["_law_script","_law_start"] (bT K):=fQ N T
 have GLg:A_ P w K mg base Bf 3 fLg dLg ["_law_drawn_here"] Zb:=dz N T
 have GLm:A_ P w K mg base Bf 1 fLm dLm ["_law_rows"] eG:=dI N T
 have GCe:A_ P w K mg base Bf 1 fCe dCe ["_law_script","_law_k"] (cL K):=aH N T
 have GOi:A_ P w K mg base Bf 9 fOi dOi ["self","rows"] (cu K aB aP aM C):=Zw N T
 have GRi:A_ P w K mg base Bf 7 fRi dRi ["self","organ","knobs"] (gJ C Cy):=gD N T
 have GRr:A_ P w K mg base Bf 1 fRr dRr ["self","key"] (Z0 Cy):=cT N T
 have GRs:A_ P w K mg base Bf 2 fRs dRs ["self","held"] (Zd Cy):=Z6 N T
 have GLh:A_ P w K mg base Bf 1 fLh dLh ["_law_cell","_law_last","_law_many"] fU:=Zh N T
 have GLj:A_ P w K mg base Bf 1 fLj dLj ["_law_rows","_law_held_here"] bF:=aY N T
 have GLw:A_ P w K mg base Bf 1 fLw dLw ["_law_found"] Qq:=Zx N T
 refine F.ok FJ (fun vs H Q E h=>?_) (fun cdv A outer s H vs Q E hr h=>?_)
 ·obtain ⟨a,ns,rfl,_⟩:=h
  rfl
 ·obtain ⟨a,ns,rfl,hS,hlen,q⟩:=h
  have hu:=HH hr
  have hrRi1:BZ 8 _:=hr.mono (by decide)
  have hrDn:BZ 1 _:=hr.mono (by decide)
  have hrLg:BZ 3 _:=hr.mono (by decide)
  have hrLm:BZ 1 _:=hr.mono (by decide)
  have hrCe:BZ 1 _:=hr.mono (by decide)
  have hrOi:BZ 9 _:=hr.mono (by decide)
  have hrRi:BZ 7 _:=hr.mono (by decide)
  have hrRr:BZ 1 _:=hr.mono (by decide)
  have hrRs:BZ 2 _:=hr.mono (by decide)
  have hrLh:BZ 1 _:=hr.mono (by decide)
  have hrLj:BZ 1 _:=hr.mono (by decide)
  have hrLw:BZ 1 _:=hr.mono (by decide)
  refine ⟨_,(@Ae _ _ _ _ _ (@BW _ _ _ _ _ _ 1 FJ.nd rfl (Or.inl rfl) (Ai GDn hrDn rfl N.FDn.2.2 N.FDn.1.kp N.FDn.2.1 .nil Av (@Az _ _ _ _ _ rfl (pv 0) (@Az _ _ _ _ _ rfl Ad Ac))) (by kernel_rfl) (.inl rfl))
   (@Ae _ _ _ _ _ (@BW _ _ _ _ _ _ 2 FJ.nd rfl (Or.inl rfl) (Ai GLg hrLg rfl N.FLg.2.2 N.FLg.1.kp N.FLg.2.1 .nil Av (@Az _ _ _ _ _ rfl (pv 1) Ac)) (by kernel_rfl) (.inl rfl))
   (@Ae _ _ _ _ _ (@BW _ _ _ _ _ _ 3 FJ.nd rfl (Or.inr rfl) (Ai GLm hrLm rfl N.FLm.2.2 N.FLm.1.kp N.FLm.2.1 .nil Av (@Az _ _ _ _ _ rfl (pv 2) Ac)) (by kernel_rfl) (.inl rfl))
   (@Ae _ _ _ _ _ (@BW _ _ _ _ _ _ 4 FJ.nd rfl (Or.inl rfl) (BK J0 Ad (BR BV rfl T.len PySem.boot_len (@Az _ _ _ _ _ rfl (DQ hu (pv 3) Ba (fun _ _=>rfl)) Ac))) (by kernel_rfl) (.inl rfl))
   (@Ae _ _ _ _ _ (@BW _ _ _ _ _ _ 5 FJ.nd rfl (Or.inl rfl) (PK N.FOi.2.2 GOi hr rfl T.mC N.FOi.2.1 .nil Av (@Az _ _ _ _ _ rfl (pv 2) Ac)) (by kernel_rfl) (.inl rfl))
   (@Ae _ _ _ _ _ (@BW _ _ _ _ _ _ 6 FJ.nd rfl (Or.inl rfl) (@Dw _ _ _ _ Ac) (by kernel_rfl) (.inl rfl))
   (@Ae _ _ _ _ _ (Cp PassesOwn.never rfl (Bs rfl T.range (@Az _ _ _ _ _ rfl Ad Ac)) (Bp (i:=7) FJ.nd rfl (Or.inl rfl)) (@Ae _ _ _ _ _ (@BW _ _ _ _ _ _ 8 FJ.nd rfl (Or.inl rfl) (BK Dl (BK GQ (BK Dl (BK Dv (Ai GCe hrCe rfl N.FCe.2.2 N.FCe.1.kp N.FCe.2.1 .nil Av (@Az _ _ _ _ _ rfl (pv 0) (@Az _ _ _ _ _ rfl (pv 7) Ac))) Ad) Ad) Ad) (pv 4)) (by kernel_rfl) (.inl rfl))
   (@Ah _ _ _ (Ed (Ih PySem.F.plainAttrs_list PySem.F.slot_list_append PySem.F.type_list_append Cm (pv 6) (@Az _ _ _ _ _ rfl (PK N.FRi.2.2 GRi hrRi1 rfl T.mCR N.FRi.2.1 .nil Av (@Az _ _ _ _ _ rfl (pv 5) (@Az _ _ _ _ _ rfl (pv 8) Ac))) Ac))))))
   (@Ae _ _ _ _ _ (Tf (i:=9) FJ.nd rfl rfl rfl (J_ (osc:=Ab I_) (N:=["_law_script","_law_drawn_here","_law_rows","_law_model_here","_law_many","_law_organ_here","_law_boards","_law_k","_law_knobs","_law_lanes","_law_held_here","_law_cell","_law_at","_law_found"]) rfl rfl (by decide +kernel)) (Bj (pv 6)) (fun _ _ _ _=>Bt) (fun _ _ _ _=>(Bl rfl (BX (osc:=Su _ (Ab I_)) (N:=["_law_relays","_law_script","_law_drawn_here","_law_rows","_law_model_here","_law_many","_law_organ_here","_law_boards","_law_k","_law_knobs","_law_lanes","_law_held_here","_law_cell","_law_at","_law_found"]) (HF rfl) rfl (by decide +kernel)) (Bs rfl T.range (@Az _ _ _ _ _ rfl (DQ hu (pv 4) Ba (fun _ _=>rfl)) Ac)) (fun _ _ _ _=>Bt) (fun _ _ _ _=>(Cv (pv 1) T.clR N.FRr.2.2 GRr hrRr N.FRr.2.1 .nil Av (@Az _ _ _ _ _ rfl (pv 0) Ac))))))
   (@Ae _ _ _ _ _ (@BW _ _ _ _ _ _ 10 FJ.nd rfl (Or.inl rfl) Ad (by kernel_rfl) (.inl rfl))
   (@Ae _ _ _ _ _ (Cp PassesOwn.never rfl (Bj (Eg GD (pv 0) (Em Ad) (Em Ad))) (Bp (i:=11) FJ.nd rfl (Or.inl rfl)) (@Ae _ _ _ _ _ (@BW _ _ _ _ _ _ 10 FJ.nd rfl (Or.inl rfl) (Ai GLh hrLh rfl N.FLh.2.2 N.FLh.1.kp N.FLh.2.1 .nil Av (@Az _ _ _ _ _ rfl (pv 11) (@Az _ _ _ _ _ rfl (pv 10) (@Az _ _ _ _ _ rfl (DQ hu (pv 3) Ba (fun _ _=>rfl)) Ac)))) (by kernel_rfl) (.inl rfl))
   (@Ae _ _ _ _ _ (@BW _ _ _ _ _ _ 12 FJ.nd rfl (Or.inl rfl) (BK Dl (BK GQ (BK Dl (BK Dv (pv 11) Ad) Ad) Ad) Ad) (by kernel_rfl) (.inl rfl))
   (@Ae _ _ _ _ _ (@BW _ _ _ _ _ _ 13 FJ.nd rfl (Or.inl rfl) (Cv (@Ar _ _ _ _ _ _ _ Bb (pv 6) (pv 12) (fun _ _=>rfl)) T.clR N.FRs.2.2 GRs hrRs N.FRs.2.1 .nil Av (@Az _ _ _ _ _ rfl (pv 10) Ac)) (by kernel_rfl) (.inl rfl))
   (@Ah _ _ _ (@Ce _ _ _ _ _ _ _ _ (PW.pt (Jz (Ex (FN (Ai GLw hrLw rfl N.FLw.2.2 N.FLw.1.kp N.FLw.2.1 .nil Av (@Az _ _ _ _ _ rfl (pv 13) Ac)))) (JH (Bc MN (pv 13) (Ai GLj hrLj rfl N.FLj.2.2 N.FLj.1.kp N.FLj.2.1 .nil Av (@Az _ _ _ _ _ rfl (@Ar _ _ _ _ _ _ _ Bb (pv 9) (pv 12) (fun _ _=>rfl)) (@Az _ _ _ _ _ rfl (pv 10) Ac))) (Bm _))))) (@Ah _ _ _ (@BL _ _ _ _ O6)) Bh))))))
   (@Ah _ _ _ (@BL _ _ _ _ (El (TX 1 (Nat.lt_of_le_of_lt (Nat.add_le_add_left (by decide:2<=64) _) hr.units)) (pv 9) (Tg rfl (J_ (osc:=Ab I_) (N:=["_law_script","_law_drawn_here","_law_rows","_law_model_here","_law_many","_law_organ_here","_law_boards","_law_k","_law_knobs","_law_lanes","_law_held_here","_law_cell","_law_at","_law_found"]) rfl rfl (by decide +kernel)) (Bj (pv 6)) (fun _ _ _ _=>Bt) (fun _ _ _ _=>(Bl rfl (BX (osc:=Su _ (Ab I_)) (N:=["_law_relays","_law_script","_law_drawn_here","_law_rows","_law_model_here","_law_many","_law_organ_here","_law_boards","_law_k","_law_knobs","_law_lanes","_law_held_here","_law_cell","_law_at","_law_found"]) (HF rfl) rfl (by decide +kernel)) (Bs rfl T.range (@Az _ _ _ _ _ rfl (DQ hu (pv 4) Ba (fun _ _=>rfl)) Ac)) (fun _ _ _ _=>Bt) (fun _ _ _ _=>(Cv (pv 1) T.clR N.FRr.2.2 GRr hrRr N.FRr.2.1 .nil Av (@Az _ _ _ _ _ rfl (pv 0) Ac)))))) (Bm _)))))))))))))),?_⟩
  refine ⟨_,rfl,a,_,ns,rfl,hS,by decide,by decide,hlen,fun dh pc H1 hdh hpc s1 D1=>?_⟩
  refine ⟨_,rfl,dh,pc,0,rfl,D1,by decide,fun p vs9 sz rk gs n9 H2 hp npd npc hl2 P2 W D2 hn9 fr2=>?_⟩
  have s02:Ak H H2:=fun b u e=>fr2 b u (Aj e hdh) (Aj e hpc) (s1 _ _ e)
  have hlv:vs9.length<=66:=by
   have:=P2.length
   have:=Kh W
   omega
  refine ⟨_,rfl,p,vs9,sz,rk,gs,rfl,hl2,P2,W,by omega,fun m H3 hm s3 M3=>?_⟩
  have hl3:=s3 _ _ hl2
  have P3:Paired (fun (r:R) v=>TupAt H3 r.v v) (Ge sz rk gs) vs9:=Am s3 P2
  have s03:=s02.trans s3
  obtain ⟨hs1,hs183⟩:=VJ W
  have hgl:=W.len
  obtain ⟨kn,TL,gk3,hk3,lTL,pTL⟩:=M3.aW
  have lTL':(TL.map fun a:Addr × Addr=>V.ref a.1).length=gs.length:=by rw [List.length_map]; exact lTL
  refine ⟨_,rfl,m,_,rfl,gk3,kn,_,rfl,.inl (.inl (.inl hk3)),_,_,rfl,rfl,⟨by omega,by omega,by decide⟩,?_⟩
  obtain ⟨mn,emn,pmn⟩:∃ mn:Int,(1:Int) * 2 ^ (((TL.map fun a:Addr × Addr=>V.ref a.1).length:Nat):Int).toNat=mn/\0<mn:=⟨_,rfl,by rw [Int.one_mul]; exact Int.pow_pos (by decide)⟩
  dsimp only
  rw [emn]
  obtain ⟨R3,O3,eL⟩:=Z3 F0 W P3
  refine ⟨_,rfl,?_⟩
  intro x dx nx ndx nex
  have sx:Ak H3 (upd (upd H3 dx (.own x)) x (.ins C dx [])):=fun b o e=>by
   rw [Al (Aj e nx),Al (Aj e ndx)]
   exact e
  refine ⟨x,dx,p,vs9,QZ H3,Fx sz,Gg rk,gs.map Gp.head,rfl,Af,sx _ _ hl3,R3.mono sx,O3,fun H10 OA SXh=>⟨rfl,?_⟩⟩
  rw [eL,← Wl gs W.l3,← Ws W.l3 W.ok] at OA
  have s310:Ak H3 H10:=fun b o e=>SXh b o (sx b o e) (Aj e nx)
  have s010:=s03.trans s310
  have M10:=M3.mono s310
  have hkb:=eZ W
  have hls:=lE W
  clear SXh sx nx ndx nex R3 O3 eL
  refine ⟨Hn (by simp),fun bl hbl=>?_⟩
  have t1:=An (o:=HO.lst []) hbl
  have u1:upd H10 bl (HO.lst []) bl=some (.lst []):=Af
  generalize upd H10 bl (HO.lst [])=H11 at t1 u1 ⊢
  refine ⟨_,rfl,by decide,by decide,?_⟩
  refine Dq (lo:=0) (n:=2) (fun i σ H4=>Ak H10 H4/\∃ (vs:List V) (v7 v8:Option V),H4 bl=some (.lst vs)/\vs.length=i/\(∀ v∈vs,Yj Cy sz.sum H4 v)/\σ=[some (.ref a),some (.ref dh),some (.ref p),some (.ref m),some (.int mn),some (.ref x),some (.ref bl),v7,v8,none,none,none,none,none]) ⟨t1,[],_,_,u1,rfl,(fun v hv=>nomatch hv),rfl⟩ ?_ ?_
  ·rintro i σ H4 hi ⟨s4,vs,v7,v8,b4,lv,hv4,rfl⟩
   have et:((0:Int)+(i:Int))=((i:Nat):Int):=by omega
   rw [et]
   refine ⟨_,rfl,_,rfl,a,i,ns,rfl,(s010.trans s4).seq hS,fun c0=>?_⟩
   refine ⟨_,_,rfl,rfl,.inr ⟨by decide,by decide⟩,_,_,rfl,rfl,(by show (0:Int)<2147483647; decide),_,_,rfl,rfl,⟨by decide,by decide⟩,_,rfl,_,_,rfl,rfl,pmn,?_⟩
   obtain ⟨D,eD⟩:∃ D:Nat,c0 * 630360016 % 2147483647 / 8 % mn=(D:Int):=⟨(c0 * 630360016 % 2147483647 / 8 % mn).toNat,by have:=Int.emod_nonneg (c0 * 630360016 % 2147483647 / 8) (Int.ne_of_gt pmn); omega⟩
   dsimp only
   rw [eD]
   refine ⟨_,rfl,.inl ⟨rfl,_,.inl (.inl b4)⟩,_,rfl,_,rfl,?_⟩
   intro y dy ny ndy ney
   have sy:Ak H4 (upd (upd H4 dy (.own y)) y (.ins Cy dy [])):=fun b o e=>by
    rw [Al (Aj e ny),Al (Aj e ndy)]
    exact e
   refine ⟨y,dy,x,Mq gs,sz,Gg rk,gs.map Gp.kb,gs.map Gp.QM,D,rfl,Af,(OA.mono s4).mono sy,hkb,hls,fun rw H5 SXy RA lr hrow=>⟨rfl,?_⟩⟩
   have s45:Ak H4 H5:=fun b o e=>SXy b o (sy b o e) (Aj e ny)
   have b5:=s45 _ _ b4
   refine ⟨bl,vs,_,rfl,rfl,b5,Aq (by omega),?_⟩
   refine ⟨fun b u e=>by rw [Al (Aj e hbl)]; exact s45 _ _ (s4 _ _ e),vs++[.ref y],_,_,Af,by rw [List.length_append,lv]; rfl,fun v hv=>?_,rfl⟩
   rcases List.mem_append.mp hv with z | z
   ·obtain ⟨y',rw',e,h1,h2⟩:=(hv4 v z).mono s45
    exact ⟨y',rw',e,h1.bu b5,h2⟩
   ·exact ⟨y,rw,List.mem_singleton.mp z,RA.bu b5,lr⟩
  ·rintro σ H4 ⟨s4,vs,v7,v8,b4,lv,hv4,rfl⟩
   have M4:=M10.mono s4
   have hSb:Cg K H4 bl vs:=.inl (.inl b4)
   refine ⟨_,rfl,bl,rfl,⟨_,hSb⟩,NZ (K:=K) (xs:=vs) (fun x ys=>∃ y rw,x=.ref y/\Ek Cy H4 y rw/\rw.length=sz.sum/\ys=nV rw) hSb (Aq (by omega)) (fun x hx H' hs R k=>k H' (Ak.refl H')) (fun x' hx H' hs R k=>?_) (fun LL H5 zs hLL s5 hl5 P5=>?_)⟩
   ·
    obtain ⟨y,rw,rfl,RA,lr⟩:=hv4 x' hx
    have RA':=RA.mono hs
    obtain ⟨dy1,dd,ob,e1,e2⟩:=RA'.ex
    refine ⟨_,rfl,m,_,rfl,(M4.mono hs).keys,_,rfl,by omega,by omega,?_⟩
    rw [Int.toNat_natCast]
    refine GX (lo:=0) (n:=sz.sum) (fun _=>true) (fun i=>.int ((rw.getD i.toNat 0:Nat):Int)) (Aq (by omega)) (fun i hi H2 hs2 R2 k2=>k2 H2 (Ak.refl H2)) (fun i hi _ H2 hs2 R2 k2=>?_) (fun D14 H14 hD14 s14 hl14=>?_)
    ·have et:((0:Int)+(i:Int))=((i:Nat):Int):=by omega
     rw [et] at k2 ⊢
     have kk:=k2 H2 (Ak.refl H2)
     rw [Int.toNat_natCast] at kk
     exact ⟨_,rfl,y,dy1,_,rfl,hs2 _ _ e1,OD dd (by decide +kernel),_,rfl,y,rw,i,rfl,RA'.mono hs2,by omega,kk⟩
    ·exact k D14 (nV rw) H14 hD14 s14 (by rw [hl14,List.filter_eq_self.mpr (fun _ _=>rfl),Ms lr]) ⟨y,rw,rfl,RA,lr,rfl⟩
   have lz:zs.length=2:=by have:=P5.length; omega
   have s05:=(s010.trans s4).trans s5
   have M5:=M4.mono s5
   have b5:=s5 _ _ b4
   have hv5:∀ v∈vs,Yj Cy sz.sum H5 v:=fun v hv=>(hv4 v hv).mono s5
   have hS5:Cg K H5 a (ns.map V.int):=s05.seq hS
   refine ⟨_,rfl,_,rfl,_,rfl,a,_,rfl,hS5,fun ps hps=>?_⟩
   obtain ⟨cs,ecs,lcs⟩:=MK ns (some 2) (some 86)
   have t2:=An (o:=HO.lst (Ef (ns.map V.int) (some 2) (some 86))) hps
   have u2:upd H5 ps (HO.lst (Ef (ns.map V.int) (some 2) (some 86))) ps=some (.lst (cs.map V.int)):=by rw [Af,ecs]
   generalize upd H5 ps (HO.lst (Ef (ns.map V.int) (some 2) (some 86)))=H6 at t2 u2 ⊢
   have hS6:Cg K H6 ps (cs.map V.int):=.inl (.inl u2)
   refine ⟨ps,rfl,⟨_,hS6⟩,Ft (K:=K) (a:=ps) (xs:=cs.map V.int) (fun t σ H7=>Ak H6 H7/\∃ (hd:Nat) (v11 v12 v13:Option V),hd<2 ^ sz.sum/\σ=[some (.ref a),some (.ref dh),some (.ref p),some (.ref m),some (.int mn),some (.ref x),some (.ref bl),v7,v8,some (.ref LL),some (.int (hd:Nat)),v11,v12,v13]) ⟨Ak.refl _,0,_,_,_,Nat.two_pow_pos _,rfl⟩ (fun t σ H7 _ h=>h.1.seq hS6) ?_ ?_⟩
   ·rintro t y0 σ H7 hy0 ⟨s7,hd,v11,v12,v13,hhd,rfl⟩
    obtain ⟨c0,_,rfl⟩:=List.mem_map.mp (List.mem_of_getElem? hy0)
    have s57:=t2.trans s7
    refine ⟨_,rfl,_,rfl,_,rfl,m,_,rfl,(M5.mono s57).keys,c0,hd,sz.sum,rfl,hs1,by omega,hhd,fun n H8 hn s8=>?_⟩
    refine ⟨_,rfl,_,_,rfl,rfl,.inr ⟨by decide,by decide⟩,_,_,rfl,rfl,(by show (0:Int)<2147483647; decide),_,_,rfl,rfl,⟨by decide,by decide⟩,_,_,rfl,rfl,(by show (0:Int)<2; decide),?_⟩
    obtain ⟨at0,eat,hat⟩:∃ at0:Nat,c0 * 62089911 % 2147483647 / 4 % 2=(at0:Int)/\at0<2:=⟨(c0 * 62089911 % 2147483647 / 4 % 2).toNat,by omega,by omega⟩
    show Cq 12 (V.int (c0 * 62089911 % 2147483647 / 4 % 2)) _ H8 _
    rw [eat]
    have s58:=s57.trans s8
    obtain ⟨v,hv⟩:∃ v,vs[at0]? = some v:=⟨_,List.getElem?_eq_getElem (by omega)⟩
    obtain ⟨y,rw,rfl,RA,lr⟩:=hv5 v (List.mem_of_getElem? hv)
    have RA8:=RA.mono s58
    obtain ⟨d1,dd,ob,e1,e2⟩:=RA8.ex
    refine ⟨_,rfl,_,rfl,bl,_,_,_,rfl,rfl,.inl (.inl (s58 _ _ b5)),Ag hv,y,d1,_,rfl,e1,OD dd (by decide +kernel),_,rfl,y,rw,n,rfl,RA8,by omega,fun H9 s9=>?_⟩
    refine ⟨_,rfl,_,rfl,_,rfl,Gh ?_⟩
    obtain ⟨z,hz⟩:∃ z,zs[at0]? = some z:=⟨_,List.getElem?_eq_getElem (by omega)⟩
    obtain ⟨v',hv',l1,ys1,rfl,_,_,hl1,y',rw',ey,RA',lr',rfl⟩:=Ff P5 hz
    rw [hv] at hv'
    cases hv'
    cases ey
    have erw:rw'=rw:=(RA'.mono s5).Zf RA
    subst erw
    have s59:=s58.trans s9
    refine ⟨_,rfl,_,rfl,_,rfl,LL,_,_,_,rfl,rfl,.inl (.inl (s59 _ _ hl5)),Ag hz,_,rfl,l1,rw',n,rfl,s59 _ _ hl1,by omega,rfl,_,rfl,B_ (fun z=>absurd z (by rw [decide_eq_true rfl]; decide)) (fun _=>?_)⟩
    exact ⟨s7.trans (s8.trans s9),n,_,_,_,hn,rfl⟩
   ·rintro σ H7 ⟨s7,hd,v11,v12,v13,hhd,rfl⟩
    have s57:=t2.trans s7
    have M7:=M5.mono s57
    have hv7:∀ v∈vs,Yj Cy sz.sum H7 v:=fun v hv=>(hv5 v hv).mono s57
    have hSb7:Cg K H7 bl vs:=.inl (.inl (s57 _ _ b5))
    refine ⟨_,rfl,_,rfl,bl,rfl,⟨_,hSb7⟩,NZ (K:=K) (xs:=vs) (fun x ys=>∃ y rw,x=.ref y/\Ek Cy H7 y rw/\rw.length=sz.sum/\ys=nV rw) hSb7 (Aq (by omega)) (fun x hx H' hs R k=>k H' (Ak.refl H')) (fun x' hx H' hs R k=>?_) (fun L2 H8 zs2 hL2 s8 hl8 P8=>?_)⟩
    ·
     obtain ⟨y,rw,rfl,RA,lr⟩:=hv7 x' hx
     have RA':=RA.mono hs
     obtain ⟨dy1,dd,ob,e1,e2⟩:=RA'.ex
     refine ⟨_,rfl,m,_,rfl,(M7.mono hs).keys,_,rfl,by omega,by omega,?_⟩
     rw [Int.toNat_natCast]
     refine GX (lo:=0) (n:=sz.sum) (fun _=>true) (fun i=>.int ((rw.getD i.toNat 0:Nat):Int)) (Aq (by omega)) (fun i hi H2 hs2 R2 k2=>k2 H2 (Ak.refl H2)) (fun i hi _ H2 hs2 R2 k2=>?_) (fun D14 H14 hD14 s14 hl14=>?_)
     ·have et:((0:Int)+(i:Int))=((i:Nat):Int):=by omega
      rw [et] at k2 ⊢
      have kk:=k2 H2 (Ak.refl H2)
      rw [Int.toNat_natCast] at kk
      exact ⟨_,rfl,y,dy1,_,rfl,hs2 _ _ e1,OD dd (by decide +kernel),_,rfl,y,rw,i,rfl,RA'.mono hs2,by omega,kk⟩
     ·exact k D14 (nV rw) H14 hD14 s14 (by rw [hl14,List.filter_eq_self.mpr (fun _ _=>rfl),Ms lr]) ⟨y,rw,rfl,RA,lr,rfl⟩
    have s58:=s57.trans s8
    refine ⟨LL,L2,rfl,rfl,.inr ⟨LL,L2,zs,zs2,rfl,rfl,.inl ⟨s58 _ _ hl5,hl8⟩,?_⟩,q _⟩
    have Q5:Paired (fD (fun x ys=>∃ y rw,x=.ref y/\Ek Cy H7 y rw/\rw.length=sz.sum/\ys=nV rw) LL H4 H8) vs zs:=Paired.Eo P5 fun v z h=>by
     obtain ⟨l1,ys1,e,n1,n2,h1,y',rw',ey,RA',lr',f⟩:=h
     exact ⟨l1,ys1,e,n1,n2,s58 _ _ h1,y',rw',ey,(RA'.mono s5).mono s57,lr',f⟩
    refine M_ (Cy:=Cy) (n:=sz.sum) (fun v a b ha hb=>?_) Q5 P8
    obtain ⟨y1,r1,ey1,R1,_,rfl⟩:=ha
    obtain ⟨y2,r2,ey2,R2,_,rfl⟩:=hb
    rw [ey1] at ey2
    cases ey2
    have:=R1.Zf R2
    subst this
    exact ⟨rfl,r1,rfl⟩
end
end K29
end PartK29a
section PartK29z
set_option maxHeartbeats 4000000
theorem UL1 {α:Type} {us:List α} (h:us.length=1):∃ a,us=[a]:=match us,h with | [a],_=>⟨a,rfl⟩
theorem UL2 {α:Type} {us:List α} (h:us.length=2):∃ a b,us=[a,b]:=match us,h with | [a,b],_=>⟨a,b,rfl⟩
theorem UL3 {α:Type} {us:List α} (h:us.length=3):∃ a b c,us=[a,b,c]:=match us,h with | [a,b,c],_=>⟨a,b,c,rfl⟩
theorem UL4 {α:Type} {us:List α} (h:us.length=4):∃ a b c d,us=[a,b,c,d]:=match us,h with | [a,b,c,d],_=>⟨a,b,c,d,rfl⟩
theorem UL5 {α:Type} {us:List α} (h:us.length=5):∃ a b c d e,us=[a,b,c,d,e]:=match us,h with | [a,b,c,d,e],_=>⟨a,b,c,d,e,rfl⟩
namespace K29
open PySem L2 Og
theorem Xi {l:PySem.W.OpenLaw} {w:World} {K:PySem.W.Frag} {h:Heap} {mg:Str->Option Value} {fa:Addr} (X:K.In h) (G:h.Ns mainGlobals mg) (hfa:mg "law" = some (.ref fa))
  {C Cy aN aK aB aP aM p1 p2 p3 p4 p5 p6 b1 b2 b3 b4 b5 b6 b7 fWh fMd fNm fRo fTo fWi fPa fHp fCl fIk fSb fWm fHr fIr fCk fNu fCa fPl fLi fMy fSt fHa fMe fSh fUn fLe fDc fLp fLq fCb fCr fMu fUk fNb fLl fBs fBa fCe fLw fDn fDw fLs fLc fLg fLm fLh fLj fOi fOb fOc fOk fOo fBk fOp fOr fOq fOe fOs fOm fOz fRi fRr fRs fZ:Addr} {odWh anWh odMd anMd odNm anNm odRo anRo odTo anTo odWi anWi odPa anPa odHp anHp odCl anCl odIk anIk odSb anSb odWm anWm odHr anHr odIr anIr odCk anCk odNu anNu odCa anCa odPl anPl odLi anLi odMy anMy odSt anSt odHa anHa odMe anMe odSh anSh odUn anUn odLe anLe odDc anDc odLp anLp odLq anLq odCb anCb odCr anCr odMu anMu odUk anUk odNb anNb odLl anLl odBs anBs odBa anBa odCe anCe odLw anLw odDn anDn odDw anDw odLs anLs odLc anLc odLg anLg odLm anLm odLh anLh odLj anLj odOi anOi odOb anOb odOc anOc odOk anOk odOo anOo odBk anBk odOp anOp odOr anOr odOq anOq odOe anOe odOs anOs odOm anOm odOz anOz odRi anRi odRr anRr odRs anRs odZ anZ:Option Addr} {slWh slMd slNm slRo slTo slWi slPa slHp slCl slIk slSb slWm slHr slIr slCk slNu slCa slPl slLi slMy slSt slHa slMe slSh slUn slLe slDc slLp slLq slCb slCr slMu slUk slNb slLl slBs slBa slCe slLw slDn slDw slLs slLc slLg slLm slLh slLj slOi slOb slOc slOk slOo slBk slOp slOr slOq slOe slOs slOm slOz slRi slRr slRs slZ:Array (Option Value)} {ocWh kVWh dcWh pmWh cdWh ctWh ocMd kVMd dcMd pmMd cdMd ctMd ocNm kVNm dcNm pmNm cdNm ctNm ocRo kVRo dcRo pmRo cdRo ctRo ocTo kVTo dcTo pmTo cdTo ctTo ocWi kVWi dcWi pmWi cdWi ctWi ocPa kVPa dcPa pmPa cdPa ctPa ocHp kVHp dcHp pmHp cdHp ctHp ocCl kVCl dcCl pmCl cdCl ctCl ocIk kVIk dcIk pmIk cdIk ctIk ocSb kVSb dcSb pmSb cdSb ctSb ocWm kVWm dcWm pmWm cdWm ctWm ocHr kVHr dcHr pmHr cdHr ctHr ocIr kVIr dcIr pmIr cdIr ctIr ocCk kVCk dcCk pmCk cdCk ctCk ocNu kVNu dcNu pmNu cdNu ctNu ocCa kVCa dcCa pmCa cdCa ctCa ocPl kVPl dcPl pmPl cdPl ctPl ocLi kVLi dcLi pmLi cdLi ctLi ocMy kVMy dcMy pmMy cdMy ctMy ocSt kVSt dcSt pmSt cdSt ctSt ocHa kVHa dcHa pmHa cdHa ctHa ocMe kVMe dcMe pmMe cdMe ctMe ocSh kVSh dcSh pmSh cdSh ctSh ocUn kVUn dcUn pmUn cdUn ctUn ocLe kVLe dcLe pmLe cdLe ctLe ocDc kVDc dcDc pmDc cdDc ctDc ocLp kVLp dcLp pmLp cdLp ctLp ocLq kVLq dcLq pmLq cdLq ctLq ocCb kVCb dcCb pmCb cdCb ctCb ocCr kVCr dcCr pmCr cdCr ctCr ocMu kVMu dcMu pmMu cdMu ctMu ocUk kVUk dcUk pmUk cdUk ctUk ocNb kVNb dcNb pmNb cdNb ctNb ocLl kVLl dcLl pmLl cdLl ctLl ocBs kVBs dcBs pmBs cdBs ctBs ocBa kVBa dcBa pmBa cdBa ctBa ocCe kVCe dcCe pmCe cdCe ctCe ocLw kVLw dcLw pmLw cdLw ctLw ocDn kVDn dcDn pmDn cdDn ctDn ocDw kVDw dcDw pmDw cdDw ctDw ocLs kVLs dcLs pmLs cdLs ctLs ocLc kVLc dcLc pmLc cdLc ctLc ocLg kVLg dcLg pmLg cdLg ctLg ocLm kVLm dcLm pmLm cdLm ctLm ocLh kVLh dcLh pmLh cdLh ctLh ocLj kVLj dcLj pmLj cdLj ctLj ocOi kVOi dcOi pmOi cdOi ctOi ocOb kVOb dcOb pmOb cdOb ctOb ocOc kVOc dcOc pmOc cdOc ctOc ocOk kVOk dcOk pmOk cdOk ctOk ocOo kVOo dcOo pmOo cdOo ctOo ocBk kVBk dcBk pmBk cdBk ctBk ocOp kVOp dcOp pmOp cdOp ctOp ocOr kVOr dcOr pmOr cdOr ctOr ocOq kVOq dcOq pmOq cdOq ctOq ocOe kVOe dcOe pmOe cdOe ctOe ocOs kVOs dcOs pmOs cdOs ctOs ocOm kVOm dcOm pmOm cdOm ctOm ocOz kVOz dcOz pmOz cdOz ctOz ocRi kVRi dcRi pmRi cdRi ctRi ocRr kVRr dcRr pmRr cdRr ctRr ocRs kVRs dcRs pmRs cdRs ctRs ocZ kVZ dcZ pmZ cdZ ctZ:Value}
  {tLET tML tMR tMLn tMB tm1 tm2 tm3 tm4 tm5 ttN_0 ttN_1 ttN_2 ttN_3 ttN_4 ttK_0 ttK_1 ttK_2 ttp1_0 ttp1_1 ttp2_0 ttp2_1 ttp3_0 ttp3_1 ttp4_0 ttp4_1 ttp4_2 ttp4_3 ttp5_0 ttp5_1 ttp5_2 ttp6_0 ttp6_1 ttp6_2 ttp6_3 ttb1_0 ttb1_1 ttb2_0 ttb2_1 ttb3_0 ttb3_1 ttb4_0 ttb4_1 ttb5_0 ttb5_1 ttb6_0 ttb6_1 ttb7_0 ttb7_1:Tok} {od_N od_K od_p1 od_p2 od_p3 od_p4 od_p5 od_p6 od_b1 od_b2 od_b3 od_b4 od_b5 od_b6 od_b7:Option Addr} {sl_N sl_K sl_p1 sl_p2 sl_p3 sl_p4 sl_p5 sl_p6 sl_b1 sl_b2 sl_b3 sl_b4 sl_b5 sl_b6 sl_b7:Array (Option Value)} {n_N n_K n_p1 n_p2 n_p3 n_p4 n_p5 n_p6 n_b1 n_b2 n_b3 n_b4 n_b5 n_b6 n_b7 nB nP nM:Nat} {eB eP eM:Array DictEntry}
  (aWh:PySem.W.nsIn K mainGlobals "is_whole" = some (some (.ref fWh)))
  (lWh:K.lookup fWh=some ⟨ocWh,odWh,.func (PySem.W.fnOf "is_whole" "is_whole" (Ax Yp) (Aw Yp) (Ab Yp) .none kVWh dcWh pmWh anWh cdWh ctWh),slWh⟩) (cWh:PySem.W.codeIn K cdWh "is_whole" = true) (kWh:PySem.W.keepIn K (.ref fWh)=true)
  (aMd:PySem.W.nsIn K mainGlobals "is_made_of" = some (some (.ref fMd)))
  (lMd:K.lookup fMd=some ⟨ocMd,odMd,.func (PySem.W.fnOf "is_made_of" "is_made_of" (Ax W2) (Aw W2) (Ab W2) .none kVMd dcMd pmMd anMd cdMd ctMd),slMd⟩) (cMd:PySem.W.codeIn K cdMd "is_made_of" = true) (kMd:PySem.W.keepIn K (.ref fMd)=true)
  (aNm:PySem.W.nsIn K mainGlobals "is_name" = some (some (.ref fNm)))
  (lNm:K.lookup fNm=some ⟨ocNm,odNm,.func (PySem.W.fnOf "is_name" "is_name" (Ax ZZ) (Aw ZZ) (Ab ZZ) .none kVNm dcNm pmNm anNm cdNm ctNm),slNm⟩) (cNm:PySem.W.codeIn K cdNm "is_name" = true) (kNm:PySem.W.keepIn K (.ref fNm)=true)
  (aRo:PySem.W.nsIn K mainGlobals "rows_of" = some (some (.ref fRo)))
  (lRo:K.lookup fRo=some ⟨ocRo,odRo,.func (PySem.W.fnOf "rows_of" "rows_of" (Ax Xf) (Aw Xf) (Ab Xf) .none kVRo dcRo pmRo anRo cdRo ctRo),slRo⟩) (cRo:PySem.W.codeIn K cdRo "rows_of" = true) (kRo:PySem.W.keepIn K (.ref fRo)=true)
  (aTo:PySem.W.nsIn K mainGlobals "is_told" = some (some (.ref fTo)))
  (lTo:K.lookup fTo=some ⟨ocTo,odTo,.func (PySem.W.fnOf "is_told" "is_told" (Ax X_) (Aw X_) (Ab X_) .none kVTo dcTo pmTo anTo cdTo ctTo),slTo⟩) (cTo:PySem.W.codeIn K cdTo "is_told" = true) (kTo:PySem.W.keepIn K (.ref fTo)=true)
  (aWi:PySem.W.nsIn K mainGlobals "is_within" = some (some (.ref fWi)))
  (lWi:K.lookup fWi=some ⟨ocWi,odWi,.func (PySem.W.fnOf "is_within" "is_within" (Ax Yy) (Aw Yy) (Ab Yy) .none kVWi dcWi pmWi anWi cdWi ctWi),slWi⟩) (cWi:PySem.W.codeIn K cdWi "is_within" = true) (kWi:PySem.W.keepIn K (.ref fWi)=true)
  (aPa:PySem.W.nsIn K mainGlobals "is_part" = some (some (.ref fPa)))
  (lPa:K.lookup fPa=some ⟨ocPa,odPa,.func (PySem.W.fnOf "is_part" "is_part" (Ax W8) (Aw W8) (Ab W8) .none kVPa dcPa pmPa anPa cdPa ctPa),slPa⟩) (cPa:PySem.W.codeIn K cdPa "is_part" = true) (kPa:PySem.W.keepIn K (.ref fPa)=true)
  (aHp:PySem.W.nsIn K mainGlobals "has_parts" = some (some (.ref fHp)))
  (lHp:K.lookup fHp=some ⟨ocHp,odHp,.func (PySem.W.fnOf "has_parts" "has_parts" (Ax W3) (Aw W3) (Ab W3) .none kVHp dcHp pmHp anHp cdHp ctHp),slHp⟩) (cHp:PySem.W.codeIn K cdHp "has_parts" = true) (kHp:PySem.W.keepIn K (.ref fHp)=true)
  (aCl:PySem.W.nsIn K mainGlobals "count_of_last_lines" = some (some (.ref fCl)))
  (lCl:K.lookup fCl=some ⟨ocCl,odCl,.func (PySem.W.fnOf "count_of_last_lines" "count_of_last_lines" (Ax Y5) (Aw Y5) (Ab Y5) .none kVCl dcCl pmCl anCl cdCl ctCl),slCl⟩) (cCl:PySem.W.codeIn K cdCl "count_of_last_lines" = true) (kCl:PySem.W.keepIn K (.ref fCl)=true)
  (aIk:PySem.W.nsIn K mainGlobals "is_key_of" = some (some (.ref fIk)))
  (lIk:K.lookup fIk=some ⟨ocIk,odIk,.func (PySem.W.fnOf "is_key_of" "is_key_of" (Ax YD) (Aw YD) (Ab YD) .none kVIk dcIk pmIk anIk cdIk ctIk),slIk⟩) (cIk:PySem.W.codeIn K cdIk "is_key_of" = true) (kIk:PySem.W.keepIn K (.ref fIk)=true)
  (aSb:PySem.W.nsIn K mainGlobals "stands_behind_stop" = some (some (.ref fSb)))
  (lSb:K.lookup fSb=some ⟨ocSb,odSb,.func (PySem.W.fnOf "stands_behind_stop" "stands_behind_stop" (Ax Ym) (Aw Ym) (Ab Ym) .none kVSb dcSb pmSb anSb cdSb ctSb),slSb⟩) (cSb:PySem.W.codeIn K cdSb "stands_behind_stop" = true) (kSb:PySem.W.keepIn K (.ref fSb)=true)
  (aWm:PySem.W.nsIn K mainGlobals "is_well_made" = some (some (.ref fWm)))
  (lWm:K.lookup fWm=some ⟨ocWm,odWm,.func (PySem.W.fnOf "is_well_made" "is_well_made" (Ax ZS) (Aw ZS) (Ab ZS) .none kVWm dcWm pmWm anWm cdWm ctWm),slWm⟩) (cWm:PySem.W.codeIn K cdWm "is_well_made" = true) (kWm:PySem.W.keepIn K (.ref fWm)=true)
  (aHr:PySem.W.nsIn K mainGlobals "has_room" = some (some (.ref fHr)))
  (lHr:K.lookup fHr=some ⟨ocHr,odHr,.func (PySem.W.fnOf "has_room" "has_room" (Ax ZF) (Aw ZF) (Ab ZF) .none kVHr dcHr pmHr anHr cdHr ctHr),slHr⟩) (cHr:PySem.W.codeIn K cdHr "has_room" = true) (kHr:PySem.W.keepIn K (.ref fHr)=true)
  (aIr:PySem.W.nsIn K mainGlobals "is_row" = some (some (.ref fIr)))
  (lIr:K.lookup fIr=some ⟨ocIr,odIr,.func (PySem.W.fnOf "is_row" "is_row" (Ax ZG) (Aw ZG) (Ab ZG) .none kVIr dcIr pmIr anIr cdIr ctIr),slIr⟩) (cIr:PySem.W.codeIn K cdIr "is_row" = true) (kIr:PySem.W.keepIn K (.ref fIr)=true)
  (aCk:PySem.W.nsIn K mainGlobals "check_rows" = some (some (.ref fCk)))
  (lCk:K.lookup fCk=some ⟨ocCk,odCk,.func (PySem.W.fnOf "check_rows" "check_rows" (Ax Yo) (Aw Yo) (Ab Yo) .none kVCk dcCk pmCk anCk cdCk ctCk),slCk⟩) (cCk:PySem.W.codeIn K cdCk "check_rows" = true) (kCk:PySem.W.keepIn K (.ref fCk)=true)
  (aNu:PySem.W.nsIn K mainGlobals "numbers_of" = some (some (.ref fNu)))
  (lNu:K.lookup fNu=some ⟨ocNu,odNu,.func (PySem.W.fnOf "numbers_of" "numbers_of" (Ax Yv) (Aw Yv) (Ab Yv) .none kVNu dcNu pmNu anNu cdNu ctNu),slNu⟩) (cNu:PySem.W.codeIn K cdNu "numbers_of" = true) (kNu:PySem.W.keepIn K (.ref fNu)=true)
  (aCa:PySem.W.nsIn K mainGlobals "count_in_all" = some (some (.ref fCa)))
  (lCa:K.lookup fCa=some ⟨ocCa,odCa,.func (PySem.W.fnOf "count_in_all" "count_in_all" (Ax YB) (Aw YB) (Ab YB) .none kVCa dcCa pmCa anCa cdCa ctCa),slCa⟩) (cCa:PySem.W.codeIn K cdCa "count_in_all" = true) (kCa:PySem.W.keepIn K (.ref fCa)=true)
  (aPl:PySem.W.nsIn K mainGlobals "places_of" = some (some (.ref fPl)))
  (lPl:K.lookup fPl=some ⟨ocPl,odPl,.func (PySem.W.fnOf "places_of" "places_of" (Ax W_) (Aw W_) (Ab W_) .none kVPl dcPl pmPl anPl cdPl ctPl),slPl⟩) (cPl:PySem.W.codeIn K cdPl "places_of" = true) (kPl:PySem.W.keepIn K (.ref fPl)=true)
  (aLi:PySem.W.nsIn K mainGlobals "lines_by_knob" = some (some (.ref fLi)))
  (lLi:K.lookup fLi=some ⟨ocLi,odLi,.func (PySem.W.fnOf "lines_by_knob" "lines_by_knob" (Ax Y0) (Aw Y0) (Ab Y0) .none kVLi dcLi pmLi anLi cdLi ctLi),slLi⟩) (cLi:PySem.W.codeIn K cdLi "lines_by_knob" = true) (kLi:PySem.W.keepIn K (.ref fLi)=true)
  (aMy:PySem.W.nsIn K mainGlobals "may_be_member" = some (some (.ref fMy)))
  (lMy:K.lookup fMy=some ⟨ocMy,odMy,.func (PySem.W.fnOf "may_be_member" "may_be_member" (Ax Yt) (Aw Yt) (Ab Yt) .none kVMy dcMy pmMy anMy cdMy ctMy),slMy⟩) (cMy:PySem.W.codeIn K cdMy "may_be_member" = true) (kMy:PySem.W.keepIn K (.ref fMy)=true)
  (aSt:PySem.W.nsIn K mainGlobals "set_of" = some (some (.ref fSt)))
  (lSt:K.lookup fSt=some ⟨ocSt,odSt,.func (PySem.W.fnOf "set_of" "set_of" (Ax YQ) (Aw YQ) (Ab YQ) .none kVSt dcSt pmSt anSt cdSt ctSt),slSt⟩) (cSt:PySem.W.codeIn K cdSt "set_of" = true) (kSt:PySem.W.keepIn K (.ref fSt)=true)
  (aHa:PySem.W.nsIn K mainGlobals "has_member" = some (some (.ref fHa)))
  (lHa:K.lookup fHa=some ⟨ocHa,odHa,.func (PySem.W.fnOf "has_member" "has_member" (Ax ZV) (Aw ZV) (Ab ZV) .none kVHa dcHa pmHa anHa cdHa ctHa),slHa⟩) (cHa:PySem.W.codeIn K cdHa "has_member" = true) (kHa:PySem.W.keepIn K (.ref fHa)=true)
  (aMe:PySem.W.nsIn K mainGlobals "members_of" = some (some (.ref fMe)))
  (lMe:K.lookup fMe=some ⟨ocMe,odMe,.func (PySem.W.fnOf "members_of" "members_of" (Ax Wu) (Aw Wu) (Ab Wu) .none kVMe dcMe pmMe anMe cdMe ctMe),slMe⟩) (cMe:PySem.W.codeIn K cdMe "members_of" = true) (kMe:PySem.W.keepIn K (.ref fMe)=true)
  (aSh:PySem.W.nsIn K mainGlobals "shifted" = some (some (.ref fSh)))
  (lSh:K.lookup fSh=some ⟨ocSh,odSh,.func (PySem.W.fnOf "shifted" "shifted" (Ax Yr) (Aw Yr) (Ab Yr) .none kVSh dcSh pmSh anSh cdSh ctSh),slSh⟩) (cSh:PySem.W.codeIn K cdSh "shifted" = true) (kSh:PySem.W.keepIn K (.ref fSh)=true)
  (aUn:PySem.W.nsIn K mainGlobals "union_of" = some (some (.ref fUn)))
  (lUn:K.lookup fUn=some ⟨ocUn,odUn,.func (PySem.W.fnOf "union_of" "union_of" (Ax Y8) (Aw Y8) (Ab Y8) .none kVUn dcUn pmUn anUn cdUn ctUn),slUn⟩) (cUn:PySem.W.codeIn K cdUn "union_of" = true) (kUn:PySem.W.keepIn K (.ref fUn)=true)
  (aLe:PySem.W.nsIn K mainGlobals "led_to" = some (some (.ref fLe)))
  (lLe:K.lookup fLe=some ⟨ocLe,odLe,.func (PySem.W.fnOf "led_to" "led_to" (Ax Yh) (Aw Yh) (Ab Yh) .none kVLe dcLe pmLe anLe cdLe ctLe),slLe⟩) (cLe:PySem.W.codeIn K cdLe "led_to" = true) (kLe:PySem.W.keepIn K (.ref fLe)=true)
  (aDc:PySem.W.nsIn K mainGlobals "drawn_of" = some (some (.ref fDc)))
  (lDc:K.lookup fDc=some ⟨ocDc,odDc,.func (PySem.W.fnOf "drawn_of" "drawn_of" (Ax Vz) (Aw Vz) (Ab Vz) .none kVDc dcDc pmDc anDc cdDc ctDc),slDc⟩) (cDc:PySem.W.codeIn K cdDc "drawn_of" = true) (kDc:PySem.W.keepIn K (.ref fDc)=true)
  (aLp:PySem.W.nsIn K mainGlobals "led_in_one_step" = some (some (.ref fLp)))
  (lLp:K.lookup fLp=some ⟨ocLp,odLp,.func (PySem.W.fnOf "led_in_one_step" "led_in_one_step" (Ax Vy) (Aw Vy) (Ab Vy) .none kVLp dcLp pmLp anLp cdLp ctLp),slLp⟩) (cLp:PySem.W.codeIn K cdLp "led_in_one_step" = true) (kLp:PySem.W.keepIn K (.ref fLp)=true)
  (aLq:PySem.W.nsIn K mainGlobals "led_in_all_steps" = some (some (.ref fLq)))
  (lLq:K.lookup fLq=some ⟨ocLq,odLq,.func (PySem.W.fnOf "led_in_all_steps" "led_in_all_steps" (Ax Ys) (Aw Ys) (Ab Ys) .none kVLq dcLq pmLq anLq cdLq ctLq),slLq⟩) (cLq:PySem.W.codeIn K cdLq "led_in_all_steps" = true) (kLq:PySem.W.keepIn K (.ref fLq)=true)
  (aCb:PySem.W.nsIn K mainGlobals "coupled_by_each" = some (some (.ref fCb)))
  (lCb:K.lookup fCb=some ⟨ocCb,odCb,.func (PySem.W.fnOf "coupled_by_each" "coupled_by_each" (Ax Xm) (Aw Xm) (Ab Xm) .none kVCb dcCb pmCb anCb cdCb ctCb),slCb⟩) (cCb:PySem.W.codeIn K cdCb "coupled_by_each" = true) (kCb:PySem.W.keepIn K (.ref fCb)=true)
  (aCr:PySem.W.nsIn K mainGlobals "compiled_rows" = some (some (.ref fCr)))
  (lCr:K.lookup fCr=some ⟨ocCr,odCr,.func (PySem.W.fnOf "compiled_rows" "compiled_rows" (Ax YZ) (Aw YZ) (Ab YZ) .none kVCr dcCr pmCr anCr cdCr ctCr),slCr⟩) (cCr:PySem.W.codeIn K cdCr "compiled_rows" = true) (kCr:PySem.W.keepIn K (.ref fCr)=true)
  (aMu:PySem.W.nsIn K mainGlobals "muted_boards" = some (some (.ref fMu)))
  (lMu:K.lookup fMu=some ⟨ocMu,odMu,.func (PySem.W.fnOf "muted_boards" "muted_boards" (Ax Wt) (Aw Wt) (Ab Wt) .none kVMu dcMu pmMu anMu cdMu ctMu),slMu⟩) (cMu:PySem.W.codeIn K cdMu "muted_boards" = true) (kMu:PySem.W.keepIn K (.ref fMu)=true)
  (aUk:PySem.W.nsIn K mainGlobals "unmuted_keys" = some (some (.ref fUk)))
  (lUk:K.lookup fUk=some ⟨ocUk,odUk,.func (PySem.W.fnOf "unmuted_keys" "unmuted_keys" (Ax X5) (Aw X5) (Ab X5) .none kVUk dcUk pmUk anUk cdUk ctUk),slUk⟩) (cUk:PySem.W.codeIn K cdUk "unmuted_keys" = true) (kUk:PySem.W.keepIn K (.ref fUk)=true)
  (aNb:PySem.W.nsIn K mainGlobals "numbers_on_board" = some (some (.ref fNb)))
  (lNb:K.lookup fNb=some ⟨ocNb,odNb,.func (PySem.W.fnOf "numbers_on_board" "numbers_on_board" (Ax Y7) (Aw Y7) (Ab Y7) .none kVNb dcNb pmNb anNb cdNb ctNb),slNb⟩) (cNb:PySem.W.codeIn K cdNb "numbers_on_board" = true) (kNb:PySem.W.keepIn K (.ref fNb)=true)
  (aLl:PySem.W.nsIn K mainGlobals "led_by_line" = some (some (.ref fLl)))
  (lLl:K.lookup fLl=some ⟨ocLl,odLl,.func (PySem.W.fnOf "led_by_line" "led_by_line" (Ax ZP) (Aw ZP) (Ab ZP) .none kVLl dcLl pmLl anLl cdLl ctLl),slLl⟩) (cLl:PySem.W.codeIn K cdLl "led_by_line" = true) (kLl:PySem.W.keepIn K (.ref fLl)=true)
  (aBs:PySem.W.nsIn K mainGlobals "brought_by_stop" = some (some (.ref fBs)))
  (lBs:K.lookup fBs=some ⟨ocBs,odBs,.func (PySem.W.fnOf "brought_by_stop" "brought_by_stop" (Ax YK) (Aw YK) (Ab YK) .none kVBs dcBs pmBs anBs cdBs ctBs),slBs⟩) (cBs:PySem.W.codeIn K cdBs "brought_by_stop" = true) (kBs:PySem.W.keepIn K (.ref fBs)=true)
  (aBa:PySem.W.nsIn K mainGlobals "brought_in_all" = some (some (.ref fBa)))
  (lBa:K.lookup fBa=some ⟨ocBa,odBa,.func (PySem.W.fnOf "brought_in_all" "brought_in_all" (Ax XR) (Aw XR) (Ab XR) .none kVBa dcBa pmBa anBa cdBa ctBa),slBa⟩) (cBa:PySem.W.codeIn K cdBa "brought_in_all" = true) (kBa:PySem.W.keepIn K (.ref fBa)=true)
  (aCe:PySem.W.nsIn K mainGlobals "_law_cell_at" = some (some (.ref fCe)))
  (lCe:K.lookup fCe=some ⟨ocCe,odCe,.func (PySem.W.fnOf "_law_cell_at" "_law_cell_at" (Ax ZC) (Aw ZC) (Ab ZC) .none kVCe dcCe pmCe anCe cdCe ctCe),slCe⟩) (cCe:PySem.W.codeIn K cdCe "_law_cell_at" = true) (kCe:PySem.W.keepIn K (.ref fCe)=true)
  (aLw:PySem.W.nsIn K mainGlobals "_law_whole" = some (some (.ref fLw)))
  (lLw:K.lookup fLw=some ⟨ocLw,odLw,.func (PySem.W.fnOf "_law_whole" "_law_whole" (Ax Yl) (Aw Yl) (Ab Yl) .none kVLw dcLw pmLw anLw cdLw ctLw),slLw⟩) (cLw:PySem.W.codeIn K cdLw "_law_whole" = true) (kLw:PySem.W.keepIn K (.ref fLw)=true)
  (aDn:PySem.W.nsIn K mainGlobals "_law_drawn" = some (some (.ref fDn)))
  (lDn:K.lookup fDn=some ⟨ocDn,odDn,.func (PySem.W.fnOf "_law_drawn" "_law_drawn" (Ax W4) (Aw W4) (Ab W4) .none kVDn dcDn pmDn anDn cdDn ctDn),slDn⟩) (cDn:PySem.W.codeIn K cdDn "_law_drawn" = true) (kDn:PySem.W.keepIn K (.ref fDn)=true)
  (aDw:PySem.W.nsIn K mainGlobals "_law_draw" = some (some (.ref fDw)))
  (lDw:K.lookup fDw=some ⟨ocDw,odDw,.func (PySem.W.fnOf "_law_draw" "_law_draw" (Ax ZQ) (Aw ZQ) (Ab ZQ) .none kVDw dcDw pmDw anDw cdDw ctDw),slDw⟩) (cDw:PySem.W.codeIn K cdDw "_law_draw" = true) (kDw:PySem.W.keepIn K (.ref fDw)=true)
  (aLs:PySem.W.nsIn K mainGlobals "_law_stop" = some (some (.ref fLs)))
  (lLs:K.lookup fLs=some ⟨ocLs,odLs,.func (PySem.W.fnOf "_law_stop" "_law_stop" (Ax ZL) (Aw ZL) (Ab ZL) .none kVLs dcLs pmLs anLs cdLs ctLs),slLs⟩) (cLs:PySem.W.codeIn K cdLs "_law_stop" = true) (kLs:PySem.W.keepIn K (.ref fLs)=true)
  (aLc:PySem.W.nsIn K mainGlobals "_law_coupler" = some (some (.ref fLc)))
  (lLc:K.lookup fLc=some ⟨ocLc,odLc,.func (PySem.W.fnOf "_law_coupler" "_law_coupler" (Ax Y9) (Aw Y9) (Ab Y9) .none kVLc dcLc pmLc anLc cdLc ctLc),slLc⟩) (cLc:PySem.W.codeIn K cdLc "_law_coupler" = true) (kLc:PySem.W.keepIn K (.ref fLc)=true)
  (aLg:PySem.W.nsIn K mainGlobals "_law_organ" = some (some (.ref fLg)))
  (lLg:K.lookup fLg=some ⟨ocLg,odLg,.func (PySem.W.fnOf "_law_organ" "_law_organ" (Ax Ug) (Aw Ug) (Ab Ug) .none kVLg dcLg pmLg anLg cdLg ctLg),slLg⟩) (cLg:PySem.W.codeIn K cdLg "_law_organ" = true) (kLg:PySem.W.keepIn K (.ref fLg)=true)
  (aLm:PySem.W.nsIn K mainGlobals "_law_model" = some (some (.ref fLm)))
  (lLm:K.lookup fLm=some ⟨ocLm,odLm,.func (PySem.W.fnOf "_law_model" "_law_model" (Ax Yb) (Aw Yb) (Ab Yb) .none kVLm dcLm pmLm anLm cdLm ctLm),slLm⟩) (cLm:PySem.W.codeIn K cdLm "_law_model" = true) (kLm:PySem.W.keepIn K (.ref fLm)=true)
  (aLh:PySem.W.nsIn K mainGlobals "_law_held" = some (some (.ref fLh)))
  (lLh:K.lookup fLh=some ⟨ocLh,odLh,.func (PySem.W.fnOf "_law_held" "_law_held" (Ax ZK) (Aw ZK) (Ab ZK) .none kVLh dcLh pmLh anLh cdLh ctLh),slLh⟩) (cLh:PySem.W.codeIn K cdLh "_law_held" = true) (kLh:PySem.W.keepIn K (.ref fLh)=true)
  (aLj:PySem.W.nsIn K mainGlobals "_law_joined" = some (some (.ref fLj)))
  (lLj:K.lookup fLj=some ⟨ocLj,odLj,.func (PySem.W.fnOf "_law_joined" "_law_joined" (Ax ZW) (Aw ZW) (Ab ZW) .none kVLj dcLj pmLj anLj cdLj ctLj),slLj⟩) (cLj:PySem.W.codeIn K cdLj "_law_joined" = true) (kLj:PySem.W.keepIn K (.ref fLj)=true)
  (aZ:PySem.W.nsIn K mainGlobals "law" = some (some (.ref fZ)))
  (lZ:K.lookup fZ=some ⟨ocZ,odZ,.func (PySem.W.fnOf "law" "law" (Ax I_) (Aw I_) (Ab I_) .none kVZ dcZ pmZ anZ cdZ ctZ),slZ⟩) (cZ:PySem.W.codeIn K cdZ "law" = true) (kZ:PySem.W.keepIn K (.ref fZ)=true)
  (aC:PySem.W.nsIn K mainGlobals "Organ" = some (some (.ref C)))
  (aOi:PySem.W.findIn K (.ref C) "__init__" = some (some (.ref fOi)))
  (iOi:PySem.W.isFn K (.ref fOi)=true)
  (lOi:K.lookup fOi=some ⟨ocOi,odOi,.func (PySem.W.fnOf "__init__" "Organ.__init__" (Ax QT) (Aw QT) (Ab QT) .none kVOi dcOi pmOi anOi cdOi ctOi),slOi⟩) (cOi:PySem.W.codeIn K cdOi "Organ.__init__" = true) (kOi:PySem.W.keepIn K (.ref fOi)=true)
  (aOb:PySem.W.findIn K (.ref C) "boards" = some (some (.ref fOb)))
  (iOb:PySem.W.isFn K (.ref fOb)=true)
  (lOb:K.lookup fOb=some ⟨ocOb,odOb,.func (PySem.W.fnOf "boards" "Organ.boards" (Ax Yx) (Aw Yx) (Ab Yx) .none kVOb dcOb pmOb anOb cdOb ctOb),slOb⟩) (cOb:PySem.W.codeIn K cdOb "Organ.boards" = true) (kOb:PySem.W.keepIn K (.ref fOb)=true)
  (aOc:PySem.W.findIn K (.ref C) "key_count" = some (some (.ref fOc)))
  (iOc:PySem.W.isFn K (.ref fOc)=true)
  (lOc:K.lookup fOc=some ⟨ocOc,odOc,.func (PySem.W.fnOf "key_count" "Organ.key_count" (Ax ZM) (Aw ZM) (Ab ZM) .none kVOc dcOc pmOc anOc cdOc ctOc),slOc⟩) (cOc:PySem.W.codeIn K cdOc "Organ.key_count" = true) (kOc:PySem.W.keepIn K (.ref fOc)=true)
  (aOk:PySem.W.findIn K (.ref C) "key" = some (some (.ref fOk)))
  (iOk:PySem.W.isFn K (.ref fOk)=true)
  (lOk:K.lookup fOk=some ⟨ocOk,odOk,.func (PySem.W.fnOf "key" "Organ.key" (Ax Yc) (Aw Yc) (Ab Yc) .none kVOk dcOk pmOk anOk cdOk ctOk),slOk⟩) (cOk:PySem.W.codeIn K cdOk "Organ.key" = true) (kOk:PySem.W.keepIn K (.ref fOk)=true)
  (aOo:PySem.W.findIn K (.ref C) "board_of" = some (some (.ref fOo)))
  (iOo:PySem.W.isFn K (.ref fOo)=true)
  (lOo:K.lookup fOo=some ⟨ocOo,odOo,.func (PySem.W.fnOf "board_of" "Organ.board_of" (Ax ZX) (Aw ZX) (Ab ZX) .none kVOo dcOo pmOo anOo cdOo ctOo),slOo⟩) (cOo:PySem.W.codeIn K cdOo "Organ.board_of" = true) (kOo:PySem.W.keepIn K (.ref fOo)=true)
  (aBk:PySem.W.findIn K (.ref C) "board_of_knob" = some (some (.ref fBk)))
  (iBk:PySem.W.isFn K (.ref fBk)=true)
  (lBk:K.lookup fBk=some ⟨ocBk,odBk,.func (PySem.W.fnOf "board_of_knob" "Organ.board_of_knob" (Ax Y6) (Aw Y6) (Ab Y6) .none kVBk dcBk pmBk anBk cdBk ctBk),slBk⟩) (cBk:PySem.W.codeIn K cdBk "Organ.board_of_knob" = true) (kBk:PySem.W.keepIn K (.ref fBk)=true)
  (aOp:PySem.W.findIn K (.ref C) "coupler" = some (some (.ref fOp)))
  (iOp:PySem.W.isFn K (.ref fOp)=true)
  (lOp:K.lookup fOp=some ⟨ocOp,odOp,.func (PySem.W.fnOf "coupler" "Organ.coupler" (Ax Yk) (Aw Yk) (Ab Yk) .none kVOp dcOp pmOp anOp cdOp ctOp),slOp⟩) (cOp:PySem.W.codeIn K cdOp "Organ.coupler" = true) (kOp:PySem.W.keepIn K (.ref fOp)=true)
  (aOr:PySem.W.findIn K (.ref C) "ranks" = some (some (.ref fOr)))
  (iOr:PySem.W.isFn K (.ref fOr)=true)
  (lOr:K.lookup fOr=some ⟨ocOr,odOr,.func (PySem.W.fnOf "ranks" "Organ.ranks" (Ax ZD) (Aw ZD) (Ab ZD) .none kVOr dcOr pmOr anOr cdOr ctOr),slOr⟩) (cOr:PySem.W.codeIn K cdOr "Organ.ranks" = true) (kOr:PySem.W.keepIn K (.ref fOr)=true)
  (aOq:PySem.W.findIn K (.ref C) "pipe_count" = some (some (.ref fOq)))
  (iOq:PySem.W.isFn K (.ref fOq)=true)
  (lOq:K.lookup fOq=some ⟨ocOq,odOq,.func (PySem.W.fnOf "pipe_count" "Organ.pipe_count" (Ax Yn) (Aw Yn) (Ab Yn) .none kVOq dcOq pmOq anOq cdOq ctOq),slOq⟩) (cOq:PySem.W.codeIn K cdOq "Organ.pipe_count" = true) (kOq:PySem.W.keepIn K (.ref fOq)=true)
  (aOe:PySem.W.findIn K (.ref C) "pipe" = some (some (.ref fOe)))
  (iOe:PySem.W.isFn K (.ref fOe)=true)
  (lOe:K.lookup fOe=some ⟨ocOe,odOe,.func (PySem.W.fnOf "pipe" "Organ.pipe" (Ax Yw) (Aw Yw) (Ab Yw) .none kVOe dcOe pmOe anOe cdOe ctOe),slOe⟩) (cOe:PySem.W.codeIn K cdOe "Organ.pipe" = true) (kOe:PySem.W.keepIn K (.ref fOe)=true)
  (aOs:PySem.W.findIn K (.ref C) "stop" = some (some (.ref fOs)))
  (iOs:PySem.W.isFn K (.ref fOs)=true)
  (lOs:K.lookup fOs=some ⟨ocOs,odOs,.func (PySem.W.fnOf "stop" "Organ.stop" (Ax Ye) (Aw Ye) (Ab Ye) .none kVOs dcOs pmOs anOs cdOs ctOs),slOs⟩) (cOs:PySem.W.codeIn K cdOs "Organ.stop" = true) (kOs:PySem.W.keepIn K (.ref fOs)=true)
  (aOm:PySem.W.findIn K (.ref C) "mute" = some (some (.ref fOm)))
  (iOm:PySem.W.isFn K (.ref fOm)=true)
  (lOm:K.lookup fOm=some ⟨ocOm,odOm,.func (PySem.W.fnOf "mute" "Organ.mute" (Ax ZJ) (Aw ZJ) (Ab ZJ) .none kVOm dcOm pmOm anOm cdOm ctOm),slOm⟩) (cOm:PySem.W.codeIn K cdOm "Organ.mute" = true) (kOm:PySem.W.keepIn K (.ref fOm)=true)
  (aOz:PySem.W.findIn K (.ref C) "knobs" = some (some (.ref fOz)))
  (iOz:PySem.W.isFn K (.ref fOz)=true)
  (lOz:K.lookup fOz=some ⟨ocOz,odOz,.func (PySem.W.fnOf "knobs" "Organ.knobs" (Ax Xa) (Aw Xa) (Ab Xa) .none kVOz dcOz pmOz anOz cdOz ctOz),slOz⟩) (cOz:PySem.W.codeIn K cdOz "Organ.knobs" = true) (kOz:PySem.W.keepIn K (.ref fOz)=true)
  (aCy:PySem.W.nsIn K mainGlobals "Relays" = some (some (.ref Cy)))
  (aRi:PySem.W.findIn K (.ref Cy) "__init__" = some (some (.ref fRi)))
  (iRi:PySem.W.isFn K (.ref fRi)=true)
  (lRi:K.lookup fRi=some ⟨ocRi,odRi,.func (PySem.W.fnOf "__init__" "Relays.__init__" (Ax Y_) (Aw Y_) (Ab Y_) .none kVRi dcRi pmRi anRi cdRi ctRi),slRi⟩) (cRi:PySem.W.codeIn K cdRi "Relays.__init__" = true) (kRi:PySem.W.keepIn K (.ref fRi)=true)
  (aRr:PySem.W.findIn K (.ref Cy) "row_of" = some (some (.ref fRr)))
  (iRr:PySem.W.isFn K (.ref fRr)=true)
  (lRr:K.lookup fRr=some ⟨ocRr,odRr,.func (PySem.W.fnOf "row_of" "Relays.row_of" (Ax Yi) (Aw Yi) (Ab Yi) .none kVRr dcRr pmRr anRr cdRr ctRr),slRr⟩) (cRr:PySem.W.codeIn K cdRr "Relays.row_of" = true) (kRr:PySem.W.keepIn K (.ref fRr)=true)
  (aRs:PySem.W.findIn K (.ref Cy) "sound" = some (some (.ref fRs)))
  (iRs:PySem.W.isFn K (.ref fRs)=true)
  (lRs:K.lookup fRs=some ⟨ocRs,odRs,.func (PySem.W.fnOf "sound" "Relays.sound" (Ax Wv) (Aw Wv) (Ab Wv) .none kVRs dcRs pmRs anRs cdRs ctRs),slRs⟩) (cRs:PySem.W.codeIn K cdRs "Relays.sound" = true) (kRs:PySem.W.keepIn K (.ref fRs)=true)
  (pg2:PySem.W.plainGet K Cy Str.empty=true)
  (hd2:PySem.W.hasDictIn K Cy=true)
  (po2:PySem.W.plainOver K Cy=true)
  (sa2:PySem.W.findIn K (.ref Cy) "__setattr__" = some (some (.builtin "object.__setattr__")))
  (mkC2:PySem.W.makesIn K Cy=true)
  (kc2:PySem.W.keepIn K (.ref Cy)=true)
  (nr2:PySem.W.findIn K (.ref Cy) "row_sets" = some none)
  (pg:PySem.W.plainGet K C Str.empty=true)
  (hd:PySem.W.hasDictIn K C=true)
  (po:PySem.W.plainOver K C=true)
  (sa:PySem.W.findIn K (.ref C) "__setattr__" = some (some (.builtin "object.__setattr__")))
  (mkC:PySem.W.makesIn K C=true)
  (kc:PySem.W.keepIn K (.ref C)=true)
  (n_row_list_:PySem.W.findIn K (.ref C) "row_list" = some none)
  (n_board_list_:PySem.W.findIn K (.ref C) "board_list" = some none)
  (n_rank_list_:PySem.W.findIn K (.ref C) "rank_list" = some none)
  (n_knob_rows_:PySem.W.findIn K (.ref C) "knob_rows" = some none)
  (n_board_numbers_:PySem.W.findIn K (.ref C) "board_numbers" = some none)
  (n_rank_numbers_:PySem.W.findIn K (.ref C) "rank_numbers" = some none)
  (n_knob_numbers_:PySem.W.findIn K (.ref C) "knob_numbers" = some none)
  (n_key_places_:PySem.W.findIn K (.ref C) "key_places" = some none)
  (n_pipe_places_:PySem.W.findIn K (.ref C) "pipe_places" = some none)
  (n_knob_lines_:PySem.W.findIn K (.ref C) "knob_lines" = some none)
  (n_step_sets_:PySem.W.findIn K (.ref C) "step_sets" = some none)
  (zlen:PySem.W.nsIn K mainGlobals "len" = some none)
  (zisinstance:PySem.W.nsIn K mainGlobals "isinstance" = some none)
  (zint:PySem.W.nsIn K mainGlobals "int" = some none)
  (zbool:PySem.W.nsIn K mainGlobals "bool" = some none)
  (zstr:PySem.W.nsIn K mainGlobals "str" = some none)
  (zlist:PySem.W.nsIn K mainGlobals "list" = some none)
  (ztuple:PySem.W.nsIn K mainGlobals "tuple" = some none)
  (zall:PySem.W.nsIn K mainGlobals "all" = some none)
  (zany:PySem.W.nsIn K mainGlobals "any" = some none)
  (zsum:PySem.W.nsIn K mainGlobals "sum" = some none)
  (zrange:PySem.W.nsIn K mainGlobals "range" = some none)
  (zzip:PySem.W.nsIn K mainGlobals "zip" = some none)
  (zenumerate:PySem.W.nsIn K mainGlobals "enumerate" = some none)
  (zmax:PySem.W.nsIn K mainGlobals "max" = some none)
  (zreversed:PySem.W.nsIn K mainGlobals "reversed" = some none)
  (zabs:PySem.W.nsIn K mainGlobals "abs" = some none)
  (zLET:PySem.W.nsIn K mainGlobals "LETTERS" = some (some (.str letters tLET)))
  (zML:PySem.W.nsIn K mainGlobals "MOST_LETTERS" = some (some (.int 8 tML)))
  (zMR:PySem.W.nsIn K mainGlobals "MOST_ROWS" = some (some (.int 150 tMR)))
  (zMLn:PySem.W.nsIn K mainGlobals "MOST_LINES" = some (some (.int 4 tMLn)))
  (zMB:PySem.W.nsIn K mainGlobals "MEMBERS_BELOW" = some (some (.int 1200 tMB)))
  (rN:PySem.W.nsIn K mainGlobals "NAMED" = some (some (.ref aN)))
  (rK:PySem.W.nsIn K mainGlobals "KNOBS" = some (some (.ref aK)))
  (rB:PySem.W.nsIn K mainGlobals "BOUNDS" = some (some (.ref aB)))
  (rP:PySem.W.nsIn K mainGlobals "PARTS" = some (some (.ref aP)))
  (rM:PySem.W.nsIn K mainGlobals "MOST_OF" = some (some (.ref aM)))
  (dB:K.lookup aB=some ⟨.type "dict",none,.dict eB nB,#[]⟩)
  (kB:PySem.W.KeysLit w.params eB.toList)
  (oB:(aB == sysModules)=false)
  (dP:K.lookup aP=some ⟨.type "dict",none,.dict eP nP,#[]⟩)
  (kP:PySem.W.KeysLit w.params eP.toList)
  (oP:(aP == sysModules)=false)
  (dM:K.lookup aM=some ⟨.type "dict",none,.dict eM nM,#[]⟩)
  (kM:PySem.W.KeysLit w.params eM.toList)
  (oM:(aM == sysModules)=false)
  (qp1:PySem.W.nsIn K aP "board" = some (some (.ref p1)))
  (qp2:PySem.W.nsIn K aP "stop" = some (some (.ref p2)))
  (qp3:PySem.W.nsIn K aP "mute" = some (some (.ref p3)))
  (qp4:PySem.W.nsIn K aP "coupler" = some (some (.ref p4)))
  (qp5:PySem.W.nsIn K aP "rank" = some (some (.ref p5)))
  (qp6:PySem.W.nsIn K aP "line" = some (some (.ref p6)))
  (qb1:PySem.W.nsIn K aB "keys" = some (some (.ref b1)))
  (qb2:PySem.W.nsIn K aB "leap" = some (some (.ref b2)))
  (qb3:PySem.W.nsIn K aB "pipes" = some (some (.ref b3)))
  (qb4:PySem.W.nsIn K aB "wind" = some (some (.ref b4)))
  (qb5:PySem.W.nsIn K aB "shift" = some (some (.ref b5)))
  (qb6:PySem.W.nsIn K aB "low" = some (some (.ref b6)))
  (qb7:PySem.W.nsIn K aB "high" = some (some (.ref b7)))
  (qn:PySem.W.nsIn K aB "new" = some none)
  (qb:PySem.W.nsIn K aB "board" = some none)
  (qr:PySem.W.nsIn K aB "rank" = some none)
  (ql:PySem.W.nsIn K aM "line" = some none)
  (qm1:PySem.W.nsIn K aM "board" = some (some (.int 5 tm1)))
  (qm2:PySem.W.nsIn K aM "stop" = some (some (.int 24 tm2)))
  (qm3:PySem.W.nsIn K aM "coupler" = some (some (.int 12 tm3)))
  (qm4:PySem.W.nsIn K aM "mute" = some (some (.int 5 tm4)))
  (qm5:PySem.W.nsIn K aM "rank" = some (some (.int 12 tm5)))
  (uN:K.lookup aN=some ⟨.type "tuple",od_N,.seq #[.str "board" ttN_0,.str "rank" ttN_1,.str "stop" ttN_2,.str "coupler" ttN_3,.str "mute" ttN_4] n_N,sl_N⟩)
  (uK:K.lookup aK=some ⟨.type "tuple",od_K,.seq #[.str "stop" ttK_0,.str "coupler" ttK_1,.str "mute" ttK_2] n_K,sl_K⟩)
  (up1:K.lookup p1=some ⟨.type "tuple",od_p1,.seq #[.str "new" ttp1_0,.str "keys" ttp1_1] n_p1,sl_p1⟩)
  (up2:K.lookup p2=some ⟨.type "tuple",od_p2,.seq #[.str "new" ttp2_0,.str "board" ttp2_1] n_p2,sl_p2⟩)
  (up3:K.lookup p3=some ⟨.type "tuple",od_p3,.seq #[.str "new" ttp3_0,.str "board" ttp3_1] n_p3,sl_p3⟩)
  (up4:K.lookup p4=some ⟨.type "tuple",od_p4,.seq #[.str "new" ttp4_0,.str "board" ttp4_1,.str "board" ttp4_2,.str "leap" ttp4_3] n_p4,sl_p4⟩)
  (up5:K.lookup p5=some ⟨.type "tuple",od_p5,.seq #[.str "new" ttp5_0,.str "pipes" ttp5_1,.str "wind" ttp5_2] n_p5,sl_p5⟩)
  (up6:K.lookup p6=some ⟨.type "tuple",od_p6,.seq #[.str "rank" ttp6_0,.str "shift" ttp6_1,.str "low" ttp6_2,.str "high" ttp6_3] n_p6,sl_p6⟩)
  (ub1:K.lookup b1=some ⟨.type "tuple",od_b1,.seq #[.int (1) ttb1_0,.int (61) ttb1_1] n_b1,sl_b1⟩)
  (ub2:K.lookup b2=some ⟨.type "tuple",od_b2,.seq #[.int (-60) ttb2_0,.int (60) ttb2_1] n_b2,sl_b2⟩)
  (ub3:K.lookup b3=some ⟨.type "tuple",od_b3,.seq #[.int (1) ttb3_0,.int (97) ttb3_1] n_b3,sl_b3⟩)
  (ub4:K.lookup b4=some ⟨.type "tuple",od_b4,.seq #[.int (0) ttb4_0,.int (1000000000) ttb4_1] n_b4,sl_b4⟩)
  (ub5:K.lookup b5=some ⟨.type "tuple",od_b5,.seq #[.int (-200) ttb5_0,.int (200) ttb5_1] n_b5,sl_b5⟩)
  (ub6:K.lookup b6=some ⟨.type "tuple",od_b6,.seq #[.int (0) ttb6_0,.int (60) ttb6_1] n_b6,sl_b6⟩)
  (ub7:K.lookup b7=some ⟨.type "tuple",od_b7,.seq #[.int (0) ttb7_0,.int (60) ttb7_1] n_b7,sl_b7⟩)
  : ∃ fd:FuncData,(∀ (s:Shared) (v:Value),BindsTo s fd ⟨[v],[]⟩ [("_law_script",v)])/\∀ base:Heap,K.In base->base.Ns mainGlobals mg->A_ l.prog w K mg base Bf 11 fa fd ["_law_script"] (Mj K):=by
 have e:=hfa.symm.trans (PySem.W.mg_of X G aZ)
 cases e
 have FWh:=BP (st:=Yp) lWh cWh kWh
 have FMd:=BP (st:=W2) lMd cMd kMd
 have FNm:=BP (st:=ZZ) lNm cNm kNm
 have FRo:=BP (st:=Xf) lRo cRo kRo
 have FTo:=BP (st:=X_) lTo cTo kTo
 have FWi:=BP (st:=Yy) lWi cWi kWi
 have FPa:=BP (st:=W8) lPa cPa kPa
 have FHp:=BP (st:=W3) lHp cHp kHp
 have FCl:=BP (st:=Y5) lCl cCl kCl
 have FIk:=BP (st:=YD) lIk cIk kIk
 have FSb:=BP (st:=Ym) lSb cSb kSb
 have FWm:=BP (st:=ZS) lWm cWm kWm
 have FHr:=BP (st:=ZF) lHr cHr kHr
 have FIr:=BP (st:=ZG) lIr cIr kIr
 have FCk:=BP (st:=Yo) lCk cCk kCk
 have FNu:=BP (st:=Yv) lNu cNu kNu
 have FCa:=BP (st:=YB) lCa cCa kCa
 have FPl:=BP (st:=W_) lPl cPl kPl
 have FLi:=BP (st:=Y0) lLi cLi kLi
 have FMy:=BP (st:=Yt) lMy cMy kMy
 have FSt:=BP (st:=YQ) lSt cSt kSt
 have FHa:=BP (st:=ZV) lHa cHa kHa
 have FMe:=BP (st:=Wu) lMe cMe kMe
 have FSh:=BP (st:=Yr) lSh cSh kSh
 have FUn:=BP (st:=Y8) lUn cUn kUn
 have FLe:=BP (st:=Yh) lLe cLe kLe
 have FDc:=BP (st:=Vz) lDc cDc kDc
 have FLp:=BP (st:=Vy) lLp cLp kLp
 have FLq:=BP (st:=Ys) lLq cLq kLq
 have FCb:=BP (st:=Xm) lCb cCb kCb
 have FCr:=BP (st:=YZ) lCr cCr kCr
 have FMu:=BP (st:=Wt) lMu cMu kMu
 have FUk:=BP (st:=X5) lUk cUk kUk
 have FNb:=BP (st:=Y7) lNb cNb kNb
 have FLl:=BP (st:=ZP) lLl cLl kLl
 have FBs:=BP (st:=YK) lBs cBs kBs
 have FBa:=BP (st:=XR) lBa cBa kBa
 have FCe:=BP (st:=ZC) lCe cCe kCe
 have FLw:=BP (st:=Yl) lLw cLw kLw
 have FDn:=BP (st:=W4) lDn cDn kDn
 have FDw:=BP (st:=ZQ) lDw cDw kDw
 have FLs:=BP (st:=ZL) lLs cLs kLs
 have FLc:=BP (st:=Y9) lLc cLc kLc
 have FLg:=BP (st:=Ug) lLg cLg kLg
 have FLm:=BP (st:=Yb) lLm cLm kLm
 have FLh:=BP (st:=ZK) lLh cLh kLh
 have FLj:=BP (st:=ZW) lLj cLj kLj
 have FOi:=BP (st:=QT) lOi cOi kOi
 have FOb:=BP (st:=Yx) lOb cOb kOb
 have FOc:=BP (st:=ZM) lOc cOc kOc
 have FOk:=BP (st:=Yc) lOk cOk kOk
 have FOo:=BP (st:=ZX) lOo cOo kOo
 have FBk:=BP (st:=Y6) lBk cBk kBk
 have FOp:=BP (st:=Yk) lOp cOp kOp
 have FOr:=BP (st:=ZD) lOr cOr kOr
 have FOq:=BP (st:=Yn) lOq cOq kOq
 have FOe:=BP (st:=Yw) lOe cOe kOe
 have FOs:=BP (st:=Ye) lOs cOs kOs
 have FOm:=BP (st:=ZJ) lOm cOm kOm
 have FOz:=BP (st:=Xa) lOz cOz kOz
 have FRi:=BP (st:=Y_) lRi cRi kRi
 have FRr:=BP (st:=Yi) lRr cRr kRr
 have FRs:=BP (st:=Wv) lRs cRs kRs
 have FZ:=BP (st:=I_) lZ cZ kZ
 have bWh:=FWh.binds (ps:=["thing"]) fun _ _ _ _ _ _ us hl=>(by obtain ⟨_,rfl⟩:=UL1 hl;exact rfl)
 have bMd:=FMd.binds (ps:=["text","signs","most"]) fun _ _ _ _ _ _ us hl=>(by obtain ⟨_,_,_,rfl⟩:=UL3 hl;exact rfl)
 have bNm:=FNm.binds (ps:=["thing"]) fun _ _ _ _ _ _ us hl=>(by obtain ⟨_,rfl⟩:=UL1 hl;exact rfl)
 have bRo:=FRo.binds (ps:=["rows","word"]) fun _ _ _ _ _ _ us hl=>(by obtain ⟨_,_,rfl⟩:=UL2 hl;exact rfl)
 have bTo:=FTo.binds (ps:=["rows","word","thing"]) fun _ _ _ _ _ _ us hl=>(by obtain ⟨_,_,_,rfl⟩:=UL3 hl;exact rfl)
 have bWi:=FWi.binds (ps:=["thing","bounds"]) fun _ _ _ _ _ _ us hl=>(by obtain ⟨_,_,rfl⟩:=UL2 hl;exact rfl)
 have bPa:=FPa.binds (ps:=["thing","part","ahead"]) fun _ _ _ _ _ _ us hl=>(by obtain ⟨_,_,_,rfl⟩:=UL3 hl;exact rfl)
 have bHp:=FHp.binds (ps:=["row","ahead"]) fun _ _ _ _ _ _ us hl=>(by obtain ⟨_,_,rfl⟩:=UL2 hl;exact rfl)
 have bCl:=FCl.binds (ps:=["rows"]) fun _ _ _ _ _ _ us hl=>(by obtain ⟨_,rfl⟩:=UL1 hl;exact rfl)
 have bIk:=FIk.binds (ps:=["number","board","ahead"]) fun _ _ _ _ _ _ us hl=>(by obtain ⟨_,_,_,rfl⟩:=UL3 hl;exact rfl)
 have bSb:=FSb.binds (ps:=["line","ahead"]) fun _ _ _ _ _ _ us hl=>(by obtain ⟨_,_,rfl⟩:=UL2 hl;exact rfl)
 have bWm:=FWm.binds (ps:=["row","ahead"]) fun _ _ _ _ _ _ us hl=>(by obtain ⟨_,_,rfl⟩:=UL2 hl;exact rfl)
 have bHr:=FHr.binds (ps:=["word","ahead"]) fun _ _ _ _ _ _ us hl=>(by obtain ⟨_,_,rfl⟩:=UL2 hl;exact rfl)
 have bIr:=FIr.binds (ps:=["thing","ahead"]) fun _ _ _ _ _ _ us hl=>(by obtain ⟨_,_,rfl⟩:=UL2 hl;exact rfl)
 have bCk:=FCk.binds (ps:=["rows"]) fun _ _ _ _ _ _ us hl=>(by obtain ⟨_,rfl⟩:=UL1 hl;exact rfl)
 have bNu:=FNu.binds (ps:=["names"]) fun _ _ _ _ _ _ us hl=>(by obtain ⟨_,rfl⟩:=UL1 hl;exact rfl)
 have bCa:=FCa.binds (ps:=["things"]) fun _ _ _ _ _ _ us hl=>(by obtain ⟨_,rfl⟩:=UL1 hl;exact rfl)
 have bPl:=FPl.binds (ps:=["things"]) fun _ _ _ _ _ _ us hl=>(by obtain ⟨_,rfl⟩:=UL1 hl;exact rfl)
 have bLi:=FLi.binds (ps:=["rows","rank_numbers"]) fun _ _ _ _ _ _ us hl=>(by obtain ⟨_,_,rfl⟩:=UL2 hl;exact rfl)
 have bMy:=FMy.binds (ps:=["thing"]) fun _ _ _ _ _ _ us hl=>(by obtain ⟨_,rfl⟩:=UL1 hl;exact rfl)
 have bSt:=FSt.binds (ps:=["numbers"]) fun _ _ _ _ _ _ us hl=>(by obtain ⟨_,rfl⟩:=UL1 hl;exact rfl)
 have bHa:=FHa.binds (ps:=["some","number"]) fun _ _ _ _ _ _ us hl=>(by obtain ⟨_,_,rfl⟩:=UL2 hl;exact rfl)
 have bMe:=FMe.binds (ps:=["some"]) fun _ _ _ _ _ _ us hl=>(by obtain ⟨_,rfl⟩:=UL1 hl;exact rfl)
 have bSh:=FSh.binds (ps:=["some","steps","count"]) fun _ _ _ _ _ _ us hl=>(by obtain ⟨_,_,_,rfl⟩:=UL3 hl;exact rfl)
 have bUn:=FUn.binds (ps:=["sets"]) fun _ _ _ _ _ _ us hl=>(by obtain ⟨_,rfl⟩:=UL1 hl;exact rfl)
 have bLe:=FLe.binds (ps:=["organ","knob","key"]) fun _ _ _ _ _ _ us hl=>(by obtain ⟨_,_,_,rfl⟩:=UL3 hl;exact rfl)
 have bDc:=FDc.binds (ps:=["organ","knobs","word"]) fun _ _ _ _ _ _ us hl=>(by obtain ⟨_,_,_,rfl⟩:=UL3 hl;exact rfl)
 have bLp:=FLp.binds (ps:=["organ","couplers","key"]) fun _ _ _ _ _ _ us hl=>(by obtain ⟨_,_,_,rfl⟩:=UL3 hl;exact rfl)
 have bLq:=FLq.binds (ps:=["one_step"]) fun _ _ _ _ _ _ us hl=>(by obtain ⟨_,rfl⟩:=UL1 hl;exact rfl)
 have bCb:=FCb.binds (ps:=["organ","knobs"]) fun _ _ _ _ _ _ us hl=>(by obtain ⟨_,_,rfl⟩:=UL2 hl;exact rfl)
 have bCr:=FCr.binds (ps:=["organ","knobs"]) fun _ _ _ _ _ _ us hl=>(by obtain ⟨_,_,rfl⟩:=UL2 hl;exact rfl)
 have bMu:=FMu.binds (ps:=["organ","knobs"]) fun _ _ _ _ _ _ us hl=>(by obtain ⟨_,_,rfl⟩:=UL2 hl;exact rfl)
 have bUk:=FUk.binds (ps:=["organ","knobs","keys"]) fun _ _ _ _ _ _ us hl=>(by obtain ⟨_,_,_,rfl⟩:=UL3 hl;exact rfl)
 have bNb:=FNb.binds (ps:=["organ","board","keys"]) fun _ _ _ _ _ _ us hl=>(by obtain ⟨_,_,_,rfl⟩:=UL3 hl;exact rfl)
 have bLl:=FLl.binds (ps:=["organ","line","numbers"]) fun _ _ _ _ _ _ us hl=>(by obtain ⟨_,_,_,rfl⟩:=UL3 hl;exact rfl)
 have bBs:=FBs.binds (ps:=["organ","knob","keys"]) fun _ _ _ _ _ _ us hl=>(by obtain ⟨_,_,_,rfl⟩:=UL3 hl;exact rfl)
 have bBa:=FBa.binds (ps:=["organ","knobs","keys"]) fun _ _ _ _ _ _ us hl=>(by obtain ⟨_,_,_,rfl⟩:=UL3 hl;exact rfl)
 have bCe:=FCe.binds (ps:=["_law_script","_law_k"]) fun _ _ _ _ _ _ us hl=>(by obtain ⟨_,_,rfl⟩:=UL2 hl;exact rfl)
 have bLw:=FLw.binds (ps:=["_law_found"]) fun _ _ _ _ _ _ us hl=>(by obtain ⟨_,rfl⟩:=UL1 hl;exact rfl)
 have bDn:=FDn.binds (ps:=["_law_script","_law_start"]) fun _ _ _ _ _ _ us hl=>(by obtain ⟨_,_,rfl⟩:=UL2 hl;exact rfl)
 have bDw:=FDw.binds (ps:=["_law_drawn_here","_law_many"]) fun _ _ _ _ _ _ us hl=>(by obtain ⟨_,_,rfl⟩:=UL2 hl;exact rfl)
 have bLs:=FLs.binds (ps:=["_law_drawn_here","_law_k","_law_sizes","_law_ranks"]) fun _ _ _ _ _ _ us hl=>(by obtain ⟨_,_,_,_,rfl⟩:=UL4 hl;exact rfl)
 have bLc:=FLc.binds (ps:=["_law_drawn_here","_law_k","_law_sizes"]) fun _ _ _ _ _ _ us hl=>(by obtain ⟨_,_,_,rfl⟩:=UL3 hl;exact rfl)
 have bLg:=FLg.binds (ps:=["_law_drawn_here"]) fun _ _ _ _ _ _ us hl=>(by obtain ⟨_,rfl⟩:=UL1 hl;exact rfl)
 have bLm:=FLm.binds (ps:=["_law_rows"]) fun _ _ _ _ _ _ us hl=>(by obtain ⟨_,rfl⟩:=UL1 hl;exact rfl)
 have bLh:=FLh.binds (ps:=["_law_cell","_law_last","_law_many"]) fun _ _ _ _ _ _ us hl=>(by obtain ⟨_,_,_,rfl⟩:=UL3 hl;exact rfl)
 have bLj:=FLj.binds (ps:=["_law_rows","_law_held_here"]) fun _ _ _ _ _ _ us hl=>(by obtain ⟨_,_,rfl⟩:=UL2 hl;exact rfl)
 have bOi:=FOi.binds (ps:=["self","rows"]) fun _ _ _ _ _ _ us hl=>(by obtain ⟨_,_,rfl⟩:=UL2 hl;exact rfl)
 have bOb:=FOb.binds (ps:=["self"]) fun _ _ _ _ _ _ us hl=>(by obtain ⟨_,rfl⟩:=UL1 hl;exact rfl)
 have bOc:=FOc.binds (ps:=["self"]) fun _ _ _ _ _ _ us hl=>(by obtain ⟨_,rfl⟩:=UL1 hl;exact rfl)
 have bOk:=FOk.binds (ps:=["self","board","number"]) fun _ _ _ _ _ _ us hl=>(by obtain ⟨_,_,_,rfl⟩:=UL3 hl;exact rfl)
 have bOo:=FOo.binds (ps:=["self","key"]) fun _ _ _ _ _ _ us hl=>(by obtain ⟨_,_,rfl⟩:=UL2 hl;exact rfl)
 have bBk:=FBk.binds (ps:=["self","knob"]) fun _ _ _ _ _ _ us hl=>(by obtain ⟨_,_,rfl⟩:=UL2 hl;exact rfl)
 have bOp:=FOp.binds (ps:=["self","knob"]) fun _ _ _ _ _ _ us hl=>(by obtain ⟨_,_,rfl⟩:=UL2 hl;exact rfl)
 have bOr:=FOr.binds (ps:=["self"]) fun _ _ _ _ _ _ us hl=>(by obtain ⟨_,rfl⟩:=UL1 hl;exact rfl)
 have bOq:=FOq.binds (ps:=["self"]) fun _ _ _ _ _ _ us hl=>(by obtain ⟨_,rfl⟩:=UL1 hl;exact rfl)
 have bOe:=FOe.binds (ps:=["self","rank","number"]) fun _ _ _ _ _ _ us hl=>(by obtain ⟨_,_,_,rfl⟩:=UL3 hl;exact rfl)
 have bOs:=FOs.binds (ps:=["self","knob"]) fun _ _ _ _ _ _ us hl=>(by obtain ⟨_,_,rfl⟩:=UL2 hl;exact rfl)
 have bOm:=FOm.binds (ps:=["self","knob"]) fun _ _ _ _ _ _ us hl=>(by obtain ⟨_,_,rfl⟩:=UL2 hl;exact rfl)
 have bOz:=FOz.binds (ps:=["self"]) fun _ _ _ _ _ _ us hl=>(by obtain ⟨_,rfl⟩:=UL1 hl;exact rfl)
 have bRi:=FRi.binds (ps:=["self","organ","knobs"]) fun _ _ _ _ _ _ us hl=>(by obtain ⟨_,_,_,rfl⟩:=UL3 hl;exact rfl)
 have bRr:=FRr.binds (ps:=["self","key"]) fun _ _ _ _ _ _ us hl=>(by obtain ⟨_,_,rfl⟩:=UL2 hl;exact rfl)
 have bRs:=FRs.binds (ps:=["self","held"]) fun _ _ _ _ _ _ us hl=>(by obtain ⟨_,_,rfl⟩:=UL2 hl;exact rfl)
 have gN:KTup K aN [.str "board",.str "rank",.str "stop",.str "coupler",.str "mute"]:=(⟨_,_,_,uN,rfl,rfl,by show 5<=sizeLine; decide,.cons ⟨_,rfl⟩ (.cons ⟨_,rfl⟩ (.cons ⟨_,rfl⟩ (.cons ⟨_,rfl⟩ (.cons ⟨_,rfl⟩ (.nil)))))⟩)
 have gK:KTup K aK [.str "stop",.str "coupler",.str "mute"]:=(⟨_,_,_,uK,rfl,rfl,by show 3<=sizeLine; decide,.cons ⟨_,rfl⟩ (.cons ⟨_,rfl⟩ (.cons ⟨_,rfl⟩ (.nil)))⟩)
 have gp1:KTup K p1 [.str "new",.str "keys"]:=(⟨_,_,_,up1,rfl,rfl,by show 2<=sizeLine; decide,.cons ⟨_,rfl⟩ (.cons ⟨_,rfl⟩ (.nil))⟩)
 have gp2:KTup K p2 [.str "new",.str "board"]:=(⟨_,_,_,up2,rfl,rfl,by show 2<=sizeLine; decide,.cons ⟨_,rfl⟩ (.cons ⟨_,rfl⟩ (.nil))⟩)
 have gp3:KTup K p3 [.str "new",.str "board"]:=(⟨_,_,_,up3,rfl,rfl,by show 2<=sizeLine; decide,.cons ⟨_,rfl⟩ (.cons ⟨_,rfl⟩ (.nil))⟩)
 have gp4:KTup K p4 [.str "new",.str "board",.str "board",.str "leap"]:=(⟨_,_,_,up4,rfl,rfl,by show 4<=sizeLine; decide,.cons ⟨_,rfl⟩ (.cons ⟨_,rfl⟩ (.cons ⟨_,rfl⟩ (.cons ⟨_,rfl⟩ (.nil))))⟩)
 have gp5:KTup K p5 [.str "new",.str "pipes",.str "wind"]:=(⟨_,_,_,up5,rfl,rfl,by show 3<=sizeLine; decide,.cons ⟨_,rfl⟩ (.cons ⟨_,rfl⟩ (.cons ⟨_,rfl⟩ (.nil)))⟩)
 have gp6:KTup K p6 [.str "rank",.str "shift",.str "low",.str "high"]:=(⟨_,_,_,up6,rfl,rfl,by show 4<=sizeLine; decide,.cons ⟨_,rfl⟩ (.cons ⟨_,rfl⟩ (.cons ⟨_,rfl⟩ (.cons ⟨_,rfl⟩ (.nil))))⟩)
 have gb1:KTup K b1 [.int (1),.int (61)]:=(⟨_,_,_,ub1,rfl,rfl,by show 2<=sizeLine; decide,.cons ⟨_,rfl⟩ (.cons ⟨_,rfl⟩ (.nil))⟩)
 have gb2:KTup K b2 [.int (-60),.int (60)]:=(⟨_,_,_,ub2,rfl,rfl,by show 2<=sizeLine; decide,.cons ⟨_,rfl⟩ (.cons ⟨_,rfl⟩ (.nil))⟩)
 have gb3:KTup K b3 [.int (1),.int (97)]:=(⟨_,_,_,ub3,rfl,rfl,by show 2<=sizeLine; decide,.cons ⟨_,rfl⟩ (.cons ⟨_,rfl⟩ (.nil))⟩)
 have gb4:KTup K b4 [.int (0),.int (1000000000)]:=(⟨_,_,_,ub4,rfl,rfl,by show 2<=sizeLine; decide,.cons ⟨_,rfl⟩ (.cons ⟨_,rfl⟩ (.nil))⟩)
 have gb5:KTup K b5 [.int (-200),.int (200)]:=(⟨_,_,_,ub5,rfl,rfl,by show 2<=sizeLine; decide,.cons ⟨_,rfl⟩ (.cons ⟨_,rfl⟩ (.nil))⟩)
 have gb6:KTup K b6 [.int (0),.int (60)]:=(⟨_,_,_,ub6,rfl,rfl,by show 2<=sizeLine; decide,.cons ⟨_,rfl⟩ (.cons ⟨_,rfl⟩ (.nil))⟩)
 have gb7:KTup K b7 [.int (0),.int (60)]:=(⟨_,_,_,ub7,rfl,rfl,by show 2<=sizeLine; decide,.cons ⟨_,rfl⟩ (.cons ⟨_,rfl⟩ (.nil))⟩)
 have F0:Nj K aB aP aM:=⟨⟨⟨_,qp1,gp1⟩,⟨_,qp2,gp2⟩,⟨_,qp3,gp3⟩,⟨_,qp4,gp4⟩,⟨_,qb1,gb1⟩,⟨_,qb2,gb2⟩,qn,qb,⟨_,qm1⟩,⟨_,qm2⟩,⟨_,qm3⟩,⟨_,qm4⟩⟩,⟨_,qp5,gp5⟩,⟨_,qp6,gp6⟩,⟨_,qb3,gb3⟩,⟨_,qb4,gb4⟩,⟨_,qb5,gb5⟩,⟨_,qb6,gb6⟩,⟨_,qb7,gb7⟩,qr,⟨_,qm5⟩,ql⟩
 have T:Txt K w.params mg C Cy aN aK aB aP aM:=⟨PySem.W.mg_none_of X G zlen,PySem.W.mg_none_of X G zisinstance,PySem.W.mg_none_of X G zint,PySem.W.mg_none_of X G zbool,PySem.W.mg_none_of X G zstr,PySem.W.mg_none_of X G zlist,PySem.W.mg_none_of X G ztuple,PySem.W.mg_none_of X G zall,PySem.W.mg_none_of X G zany,PySem.W.mg_none_of X G zsum,PySem.W.mg_none_of X G zrange,PySem.W.mg_none_of X G zzip,PySem.W.mg_none_of X G zenumerate,PySem.W.mg_none_of X G zmax,PySem.W.mg_none_of X G zreversed,PySem.W.mg_none_of X G zabs,⟨_,PySem.W.mg_of X G zLET⟩,⟨_,PySem.W.mg_of X G zML⟩,⟨_,PySem.W.mg_of X G zMR⟩,⟨_,PySem.W.mg_of X G zMLn⟩,⟨_,PySem.W.mg_of X G zMB⟩,PySem.W.mg_of X G rN,PySem.W.mg_of X G rK,PySem.W.mg_of X G rB,PySem.W.mg_of X G rP,PySem.W.mg_of X G rM,gN,gK,⟨⟨_,_,dB,kB⟩,oB⟩,⟨⟨_,_,dP,kP⟩,oP⟩,⟨⟨_,_,dM,kM⟩,oM⟩,⟨pg,hd,po,sa⟩,PySem.W.mg_of X G aC,⟨pg2,hd2,po2,sa2⟩,PySem.W.mg_of X G aCy,nr2,n_row_list_,n_board_list_,n_rank_list_,n_knob_rows_,n_board_numbers_,n_rank_numbers_,n_knob_numbers_,n_key_places_,n_pipe_places_,n_knob_lines_,n_step_sets_⟩
 have N:ig K mg C Cy fWh fMd fNm fRo fTo fWi fPa fHp fCl fIk fSb fWm fHr fIr fCk fNu fCa fPl fLi fMy fSt fHa fMe fSh fUn fLe fDc fLp fLq fCb fCr fMu fUk fNb fLl fBs fBa fCe fLw fDn fDw fLs fLc fLg fLm fLh fLj fOi fOb fOc fOk fOo fBk fOp fOr fOq fOe fOs fOm fOz fRi fRr fRs _ _ _ _ _ _ _ _ _ _ _ _ _ _ _ _ _ _ _ _ _ _ _ _ _ _ _ _ _ _ _ _ _ _ _ _ _ _ _ _ _ _ _ _ _ _ _ _ _ _ _ _ _ _ _ _ _ _ _ _ _ _ _:=⟨⟨FWh,bWh,PySem.W.mg_of X G aWh⟩,⟨FMd,bMd,PySem.W.mg_of X G aMd⟩,⟨FNm,bNm,PySem.W.mg_of X G aNm⟩,⟨FRo,bRo,PySem.W.mg_of X G aRo⟩,⟨FTo,bTo,PySem.W.mg_of X G aTo⟩,⟨FWi,bWi,PySem.W.mg_of X G aWi⟩,⟨FPa,bPa,PySem.W.mg_of X G aPa⟩,⟨FHp,bHp,PySem.W.mg_of X G aHp⟩,⟨FCl,bCl,PySem.W.mg_of X G aCl⟩,⟨FIk,bIk,PySem.W.mg_of X G aIk⟩,⟨FSb,bSb,PySem.W.mg_of X G aSb⟩,⟨FWm,bWm,PySem.W.mg_of X G aWm⟩,⟨FHr,bHr,PySem.W.mg_of X G aHr⟩,⟨FIr,bIr,PySem.W.mg_of X G aIr⟩,⟨FCk,bCk,PySem.W.mg_of X G aCk⟩,⟨FNu,bNu,PySem.W.mg_of X G aNu⟩,⟨FCa,bCa,PySem.W.mg_of X G aCa⟩,⟨FPl,bPl,PySem.W.mg_of X G aPl⟩,⟨FLi,bLi,PySem.W.mg_of X G aLi⟩,⟨FMy,bMy,PySem.W.mg_of X G aMy⟩,⟨FSt,bSt,PySem.W.mg_of X G aSt⟩,⟨FHa,bHa,PySem.W.mg_of X G aHa⟩,⟨FMe,bMe,PySem.W.mg_of X G aMe⟩,⟨FSh,bSh,PySem.W.mg_of X G aSh⟩,⟨FUn,bUn,PySem.W.mg_of X G aUn⟩,⟨FLe,bLe,PySem.W.mg_of X G aLe⟩,⟨FDc,bDc,PySem.W.mg_of X G aDc⟩,⟨FLp,bLp,PySem.W.mg_of X G aLp⟩,⟨FLq,bLq,PySem.W.mg_of X G aLq⟩,⟨FCb,bCb,PySem.W.mg_of X G aCb⟩,⟨FCr,bCr,PySem.W.mg_of X G aCr⟩,⟨FMu,bMu,PySem.W.mg_of X G aMu⟩,⟨FUk,bUk,PySem.W.mg_of X G aUk⟩,⟨FNb,bNb,PySem.W.mg_of X G aNb⟩,⟨FLl,bLl,PySem.W.mg_of X G aLl⟩,⟨FBs,bBs,PySem.W.mg_of X G aBs⟩,⟨FBa,bBa,PySem.W.mg_of X G aBa⟩,⟨FCe,bCe,PySem.W.mg_of X G aCe⟩,⟨FLw,bLw,PySem.W.mg_of X G aLw⟩,⟨FDn,bDn,PySem.W.mg_of X G aDn⟩,⟨FDw,bDw,PySem.W.mg_of X G aDw⟩,⟨FLs,bLs,PySem.W.mg_of X G aLs⟩,⟨FLc,bLc,PySem.W.mg_of X G aLc⟩,⟨FLg,bLg,PySem.W.mg_of X G aLg⟩,⟨FLm,bLm,PySem.W.mg_of X G aLm⟩,⟨FLh,bLh,PySem.W.mg_of X G aLh⟩,⟨FLj,bLj,PySem.W.mg_of X G aLj⟩,⟨FOi,bOi,⟨mkC,aOi,iOi,kc⟩⟩,⟨FOb,bOb,⟨aOb,iOb,kOb⟩⟩,⟨FOc,bOc,⟨aOc,iOc,kOc⟩⟩,⟨FOk,bOk,⟨aOk,iOk,kOk⟩⟩,⟨FOo,bOo,⟨aOo,iOo,kOo⟩⟩,⟨FBk,bBk,⟨aBk,iBk,kBk⟩⟩,⟨FOp,bOp,⟨aOp,iOp,kOp⟩⟩,⟨FOr,bOr,⟨aOr,iOr,kOr⟩⟩,⟨FOq,bOq,⟨aOq,iOq,kOq⟩⟩,⟨FOe,bOe,⟨aOe,iOe,kOe⟩⟩,⟨FOs,bOs,⟨aOs,iOs,kOs⟩⟩,⟨FOm,bOm,⟨aOm,iOm,kOm⟩⟩,⟨FOz,bOz,⟨aOz,iOz,kOz⟩⟩,⟨FRi,bRi,⟨mkC2,aRi,iRi,kc2⟩⟩,⟨FRr,bRr,⟨aRr,iRr,kRr⟩⟩,⟨FRs,bRs,⟨aRs,iRs,kRs⟩⟩⟩
 exact ⟨PySem.W.fnOf "law" "law" (Ax I_) (Aw I_) (Ab I_) .none kVZ dcZ pmZ anZ cdZ ctZ,fun s v=>.of_eq rfl,fun base _ _=>Xh FZ N T F0⟩
theorem walk {l:PySem.W.OpenLaw} {q:Program} {loose:List Str} {XP:(Str->Option Value)->Heap->Prop} {YP:World->Heap->Prop} {d:DefRec} {K:Params->PySem.W.Frag} (hn:l.most=some 63) (hdf:d.params.defaults=[])
  (hY:∀ (w:World) (h:Heap),YP w h->(K w.params).In h)
  (F:∀ (w:World) (mg:Str->Option Value) (fa:Addr) (h:Heap),(K w.params).In h->h.Ns mainGlobals mg->mg d.name=some (.ref fa) ->
   ∃ fd:FuncData,(∀ (s:Shared) (u:Value),BindsTo s fd ⟨[u],[]⟩ [("_law_script",u)])/\∀ base:Heap,(K w.params).In base->base.Ns mainGlobals mg->A_ l.prog w (K w.params) mg base Bf 11 fa fd ["_law_script"] (Mj (K w.params))) :
  PySem.W.WalkO q loose XP YP l.row.toRowW d [] (fun f vs=>PySem.call f vs) :=
 L2.VG (n:=63) (k:=11) (x:="_law_script") (CX:=fun _=>Bf) (sp:=fun w=>Mj (K w.params)) hn (by decide) hdf ⟨rfl,by decide,by decide⟩ hY F (fun _ _ a ns hl _ hS=>⟨a,ns,rfl,hS,hl,fun _=>rfl⟩) fun _ _ _ _ _ z=>z
end K29
open PySem PySem.W PyProof.Rows
noncomputable def PySem.W.Fast.tw13093444290229167223:Unit:=()
noncomputable def PySem.W.Fast.tw3731567865328056762:Unit:=()
noncomputable def PySem.W.Fast.tw11178209678696884606:Unit:=()
noncomputable def PySem.W.Fast.tw6730775004115396095:Unit:=()
noncomputable def PySem.W.Fast.tw8830060930913660831:Unit:=()
noncomputable def PySem.W.Fast.tw11480973862861105812:Unit:=()
noncomputable def PySem.W.Fast.tw17789376239637775106:Unit:=()
noncomputable def PySem.W.Fast.tw7790751046804065065:Unit:=()
noncomputable def PySem.W.Fast.tw11504097292400819071:Unit:=()
noncomputable def PySem.W.Fast.tw1443448114848229862:Unit:=()
noncomputable def PySem.W.Fast.tw4400486025311407785:Unit:=()
noncomputable def PySem.W.Fast.tw4988483933081166622:Unit:=()
noncomputable def PySem.W.Fast.tw6887178767073255809:Unit:=()
noncomputable def PySem.W.Fast.tw12411792818438699836:Unit:=()
noncomputable def PySem.W.Fast.tw18310849580940095945:Unit:=()
noncomputable def PySem.W.Fast.tw9726521986542321589:Unit:=()
noncomputable def PySem.W.Fast.tw17728940938812992660:Unit:=()
noncomputable def PySem.W.Fast.tw2937542432279512996:Unit:=()
noncomputable def PySem.W.Fast.tw6446476296836241831:Unit:=()
noncomputable def PySem.W.Fast.tw9975362156166853794:Unit:=()
noncomputable def PySem.W.Fast.tw8798995529114095669:Unit:=()
noncomputable def PySem.W.Fast.tw16794324204043910472:Unit:=()
noncomputable def PySem.W.Fast.tw4335732778993170514:Unit:=()
noncomputable def PySem.W.Fast.tw4845735329920598044:Unit:=()
noncomputable def PySem.W.Fast.tw11986556314394920650:Unit:=()
noncomputable def PySem.W.Fast.tw4183961962308973443:Unit:=()
noncomputable def PySem.W.Fast.tw1726163453851590378:Unit:=()
noncomputable def PySem.W.Fast.tw4324726924909869231:Unit:=()
noncomputable def PySem.W.Fast.tw7657564810189671823:Unit:=()
noncomputable def PySem.W.Fast.tw11630208235023024148:Unit:=()
noncomputable def PySem.W.Fast.tw10511210847977126648:Unit:=()
noncomputable def PySem.W.Fast.tw6974680139203144541:Unit:=()
noncomputable def PySem.W.Fast.tw13210129053000472584:Unit:=()
noncomputable def PySem.W.Fast.tw12350830348610984449:Unit:=()
noncomputable def PySem.W.Fast.tw17708207923380744125:Unit:=()
noncomputable def PySem.W.Fast.tw8676994314615765943:Unit:=()
noncomputable def PySem.W.Fast.tw6587265179934365131:Unit:=()
noncomputable def PySem.W.Fast.tw8356622479809473438:Unit:=()
noncomputable def PySem.W.Fast.tw16952352292411271000:Unit:=()
noncomputable def PySem.W.Fast.tw15650911433726761160:Unit:=()
noncomputable def PySem.W.Fast.tw5011879617178527504:Unit:=()
noncomputable def PySem.W.Fast.tw14489838681235359794:Unit:=()
noncomputable def PySem.W.Fast.tw11889305740479217985:Unit:=()
noncomputable def PySem.W.Fast.tw17155463802290960268:Unit:=()
noncomputable def PySem.W.Fast.tw4549843332323258793:Unit:=()
noncomputable def PySem.W.Fast.tw17585315612001382301:Unit:=()
noncomputable def PySem.W.Fast.tw4443173041018573369:Unit:=()
noncomputable def PySem.W.Fast.tw17429421796266599635:Unit:=()
noncomputable def PySem.W.Fast.tw8285946097723369961:Unit:=()
noncomputable def PySem.W.Fast.tw8243894805222842138:Unit:=()
noncomputable def PySem.W.Fast.tw2307156260714206949:Unit:=()
noncomputable def PySem.W.Fast.tw14779588795301726375:Unit:=()
noncomputable def PySem.W.Fast.tw5774738044374011539:Unit:=()
noncomputable def PySem.W.Fast.tw591189722292295612:Unit:=()
noncomputable def PySem.W.Fast.tw553842687206972238:Unit:=()
noncomputable def PySem.W.Fast.tw3699383233865091543:Unit:=()
noncomputable def PySem.W.Fast.tw16220866613510362577:Unit:=()
noncomputable def PySem.W.Fast.tw10500233557687175631:Unit:=()
noncomputable def PySem.W.Fast.tw5490455809777441766:Unit:=()
noncomputable def PySem.W.Fast.tw335046081651629297:Unit:=()
noncomputable def PySem.W.Fast.tw11957923314005044213:Unit:=()
noncomputable def PySem.W.Fast.tw10882690108031398792:Unit:=()
noncomputable def PySem.W.Fast.tw15046944360495636228:Unit:=()
noncomputable def PySem.W.Fast.tw11676075682367475524:Unit:=()
noncomputable def PySem.W.Fast.tw12433637954776440861:Unit:=()
noncomputable def PySem.W.Fast.tw2620507349059686275:Unit:=()
noncomputable def PySem.W.Fast.tw4021915200338566664:Unit:=()
noncomputable def PySem.W.Fast.tw4001183160086959446:Unit:=()
noncomputable def PySem.W.Fast.tw16030657512869349579:Unit:=()
noncomputable def PySem.W.Fast.tw16037426885358109203:Unit:=()
noncomputable def PySem.W.Fast.tw6733748887775289449:Unit:=()
noncomputable def PySem.W.Fast.tw5041813510129217252:Unit:=()
noncomputable def PySem.W.Fast.tw6313593450870811897:Unit:=()
noncomputable def PySem.W.Fast.tw10506938348662390845:Unit:=()
noncomputable def PySem.W.Fast.tw14546979788142993251:Unit:=()
noncomputable def PySem.W.Fast.tw17109268768393813316:Unit:=()
noncomputable def PySem.W.Fast.tw13433726008078627114:Unit:=()
noncomputable def PySem.W.Fast.tw13169221965746814595:Unit:=()
noncomputable def PySem.W.Fast.tw9547688500009956392:Unit:=()
noncomputable def PySem.W.Fast.tw3778029876791017680:Unit:=()
noncomputable def PySem.W.Fast.tw9740841698616489977:Unit:=()
noncomputable def PySem.W.Fast.tw3120158852912850070:Unit:=()
noncomputable def PySem.W.Fast.tw3904640803894268377:Unit:=()
noncomputable def PySem.W.Fast.tw16133659854083911038:Unit:=()
noncomputable def PySem.W.Fast.tw10888188199943039422:Unit:=()
noncomputable def PySem.W.Fast.tw8381493825288892259:Unit:=()
noncomputable def PySem.W.Fast.tw7640233900993684327:Unit:=()
noncomputable def PySem.W.Fast.tw724113044944957070:Unit:=()
noncomputable def PySem.W.Fast.tw14487138651193491089:Unit:=()
noncomputable def PySem.W.Fast.tw1169177409192845470:Unit:=()
noncomputable def PySem.W.Fast.tw17374575519200710364:Unit:=()
noncomputable def PySem.W.Fast.tw11854575936333428001:Unit:=()
noncomputable def PySem.W.Fast.tw6741902792868638426:Unit:=()
noncomputable def PySem.W.Fast.tw16319462720004780923:Unit:=()
noncomputable def PySem.W.Fast.tw11894021451091056902:Unit:=()
set_option maxRecDepth 100000 in
set_option maxHeartbeats 0 in
theorem PySem.Challenge.cw_windchest_k29_whole_held_keys_by_rows_holds : PySem.Challenge.rw_windchest_k29_whole_held_keys_by_rows.Holds := by
 w_on; o_law; k_head; (case hw=>w_witness2)
 k_fill
 refine K29.walk (l:=PySem.Challenge.rw_windchest_k29_whole_held_keys_by_rows) rfl rfl (fun w h Y=>PySem.W.kIn_of Y) ?F
 case F =>
  intro w mg fa h KX G hmg
  refine' K29.Xi KX G hmg ?aWh ?lWh ?cWh ?kWh ?aMd ?lMd ?cMd ?kMd ?aNm ?lNm ?cNm ?kNm ?aRo ?lRo ?cRo ?kRo ?aTo ?lTo ?cTo ?kTo ?aWi ?lWi ?cWi ?kWi ?aPa ?lPa ?cPa ?kPa ?aHp ?lHp ?cHp ?kHp ?aCl ?lCl ?cCl ?kCl ?aIk ?lIk ?cIk ?kIk ?aSb ?lSb ?cSb ?kSb ?aWm ?lWm ?cWm ?kWm ?aHr ?lHr ?cHr ?kHr ?aIr ?lIr ?cIr ?kIr ?aCk ?lCk ?cCk ?kCk ?aNu ?lNu ?cNu ?kNu ?aCa ?lCa ?cCa ?kCa ?aPl ?lPl ?cPl ?kPl ?aLi ?lLi ?cLi ?kLi ?aMy ?lMy ?cMy ?kMy ?aSt ?lSt ?cSt ?kSt ?aHa ?lHa ?cHa ?kHa ?aMe ?lMe ?cMe ?kMe ?aSh ?lSh ?cSh ?kSh ?aUn ?lUn ?cUn ?kUn ?aLe ?lLe ?cLe ?kLe ?aDc ?lDc ?cDc ?kDc ?aLp ?lLp ?cLp ?kLp ?aLq ?lLq ?cLq ?kLq ?aCb ?lCb ?cCb ?kCb ?aCr ?lCr ?cCr ?kCr ?aMu ?lMu ?cMu ?kMu ?aUk ?lUk ?cUk ?kUk ?aNb ?lNb ?cNb ?kNb ?aLl ?lLl ?cLl ?kLl ?aBs ?lBs ?cBs ?kBs ?aBa ?lBa ?cBa ?kBa ?aCe ?lCe ?cCe ?kCe ?aLw ?lLw ?cLw ?kLw ?aDn ?lDn ?cDn ?kDn ?aDw ?lDw ?cDw ?kDw ?aLs ?lLs ?cLs ?kLs ?aLc ?lLc ?cLc ?kLc ?aLg ?lLg ?cLg ?kLg ?aLm ?lLm ?cLm ?kLm ?aLh ?lLh ?cLh ?kLh ?aLj ?lLj ?cLj ?kLj ?aZ ?lZ ?cZ ?kZ ?aC ?aOi ?iOi ?lOi ?cOi ?kOi ?aOb ?iOb ?lOb ?cOb ?kOb ?aOc ?iOc ?lOc ?cOc ?kOc ?aOk ?iOk ?lOk ?cOk ?kOk ?aOo ?iOo ?lOo ?cOo ?kOo ?aBk ?iBk ?lBk ?cBk ?kBk ?aOp ?iOp ?lOp ?cOp ?kOp ?aOr ?iOr ?lOr ?cOr ?kOr ?aOq ?iOq ?lOq ?cOq ?kOq ?aOe ?iOe ?lOe ?cOe ?kOe ?aOs ?iOs ?lOs ?cOs ?kOs ?aOm ?iOm ?lOm ?cOm ?kOm ?aOz ?iOz ?lOz ?cOz ?kOz ?aCy ?aRi ?iRi ?lRi ?cRi ?kRi ?aRr ?iRr ?lRr ?cRr ?kRr ?aRs ?iRs ?lRs ?cRs ?kRs ?pg2 ?hd2 ?po2 ?sa2 ?mkC2 ?kc2 ?nr2 ?pg ?hd ?po ?sa ?mkC ?kc ?n_row_list_ ?n_board_list_ ?n_rank_list_ ?n_knob_rows_ ?n_board_numbers_ ?n_rank_numbers_ ?n_knob_numbers_ ?n_key_places_ ?n_pipe_places_ ?n_knob_lines_ ?n_step_sets_ ?zlen ?zisinstance ?zint ?zbool ?zstr ?zlist ?ztuple ?zall ?zany ?zsum ?zrange ?zzip ?zenumerate ?zmax ?zreversed ?zabs ?zLET ?zML ?zMR ?zMLn ?zMB ?rN ?rK ?rB ?rP ?rM ?dB ?kB ?oB ?dP ?kP ?oP ?dM ?kM ?oM ?qp1 ?qp2 ?qp3 ?qp4 ?qp5 ?qp6 ?qb1 ?qb2 ?qb3 ?qb4 ?qb5 ?qb6 ?qb7 ?qn ?qb ?qr ?ql ?qm1 ?qm2 ?qm3 ?qm4 ?qm5 ?uN ?uK ?up1 ?up2 ?up3 ?up4 ?up5 ?up6 ?ub1 ?ub2 ?ub3 ?ub4 ?ub5 ?ub6 ?ub7
  (case aWh=>k_is)
  (case lWh=>k_is)
  (case cWh=>k_is)
  (case kWh=>k_is)
  (case aMd=>k_is)
  (case lMd=>k_is)
  (case cMd=>k_is)
  (case kMd=>k_is)
  (case aNm=>k_is)
  (case lNm=>k_is)
  (case cNm=>k_is)
  (case kNm=>k_is)
  (case aRo=>k_is)
  (case lRo=>k_is)
  (case cRo=>k_is)
  (case kRo=>k_is)
  (case aTo=>k_is)
  (case lTo=>k_is)
  (case cTo=>k_is)
  (case kTo=>k_is)
  (case aWi=>k_is)
  (case lWi=>k_is)
  (case cWi=>k_is)
  (case kWi=>k_is)
  (case aPa=>k_is)
  (case lPa=>k_is)
  (case cPa=>k_is)
  (case kPa=>k_is)
  (case aHp=>k_is)
  (case lHp=>k_is)
  (case cHp=>k_is)
  (case kHp=>k_is)
  (case aCl=>k_is)
  (case lCl=>k_is)
  (case cCl=>k_is)
  (case kCl=>k_is)
  (case aIk=>k_is)
  (case lIk=>k_is)
  (case cIk=>k_is)
  (case kIk=>k_is)
  (case aSb=>k_is)
  (case lSb=>k_is)
  (case cSb=>k_is)
  (case kSb=>k_is)
  (case aWm=>k_is)
  (case lWm=>k_is)
  (case cWm=>k_is)
  (case kWm=>k_is)
  (case aHr=>k_is)
  (case lHr=>k_is)
  (case cHr=>k_is)
  (case kHr=>k_is)
  (case aIr=>k_is)
  (case lIr=>k_is)
  (case cIr=>k_is)
  (case kIr=>k_is)
  (case aCk=>k_is)
  (case lCk=>k_is)
  (case cCk=>k_is)
  (case kCk=>k_is)
  (case aNu=>k_is)
  (case lNu=>k_is)
  (case cNu=>k_is)
  (case kNu=>k_is)
  (case aCa=>k_is)
  (case lCa=>k_is)
  (case cCa=>k_is)
  (case kCa=>k_is)
  (case aPl=>k_is)
  (case lPl=>k_is)
  (case cPl=>k_is)
  (case kPl=>k_is)
  (case aLi=>k_is)
  (case lLi=>k_is)
  (case cLi=>k_is)
  (case kLi=>k_is)
  (case aMy=>k_is)
  (case lMy=>k_is)
  (case cMy=>k_is)
  (case kMy=>k_is)
  (case aSt=>k_is)
  (case lSt=>k_is)
  (case cSt=>k_is)
  (case kSt=>k_is)
  (case aHa=>k_is)
  (case lHa=>k_is)
  (case cHa=>k_is)
  (case kHa=>k_is)
  (case aMe=>k_is)
  (case lMe=>k_is)
  (case cMe=>k_is)
  (case kMe=>k_is)
  (case aSh=>k_is)
  (case lSh=>k_is)
  (case cSh=>k_is)
  (case kSh=>k_is)
  (case aUn=>k_is)
  (case lUn=>k_is)
  (case cUn=>k_is)
  (case kUn=>k_is)
  (case aLe=>k_is)
  (case lLe=>k_is)
  (case cLe=>k_is)
  (case kLe=>k_is)
  (case aDc=>k_is)
  (case lDc=>k_is)
  (case cDc=>k_is)
  (case kDc=>k_is)
  (case aLp=>k_is)
  (case lLp=>k_is)
  (case cLp=>k_is)
  (case kLp=>k_is)
  (case aLq=>k_is)
  (case lLq=>k_is)
  (case cLq=>k_is)
  (case kLq=>k_is)
  (case aCb=>k_is)
  (case lCb=>k_is)
  (case cCb=>k_is)
  (case kCb=>k_is)
  (case aCr=>k_is)
  (case lCr=>k_is)
  (case cCr=>k_is)
  (case kCr=>k_is)
  (case aMu=>k_is)
  (case lMu=>k_is)
  (case cMu=>k_is)
  (case kMu=>k_is)
  (case aUk=>k_is)
  (case lUk=>k_is)
  (case cUk=>k_is)
  (case kUk=>k_is)
  (case aNb=>k_is)
  (case lNb=>k_is)
  (case cNb=>k_is)
  (case kNb=>k_is)
  (case aLl=>k_is)
  (case lLl=>k_is)
  (case cLl=>k_is)
  (case kLl=>k_is)
  (case aBs=>k_is)
  (case lBs=>k_is)
  (case cBs=>k_is)
  (case kBs=>k_is)
  (case aBa=>k_is)
  (case lBa=>k_is)
  (case cBa=>k_is)
  (case kBa=>k_is)
  (case aCe=>k_is)
  (case lCe=>k_is)
  (case cCe=>k_is)
  (case kCe=>k_is)
  (case aLw=>k_is)
  (case lLw=>k_is)
  (case cLw=>k_is)
  (case kLw=>k_is)
  (case aDn=>k_is)
  (case lDn=>k_is)
  (case cDn=>k_is)
  (case kDn=>k_is)
  (case aDw=>k_is)
  (case lDw=>k_is)
  (case cDw=>k_is)
  (case kDw=>k_is)
  (case aLs=>k_is)
  (case lLs=>k_is)
  (case cLs=>k_is)
  (case kLs=>k_is)
  (case aLc=>k_is)
  (case lLc=>k_is)
  (case cLc=>k_is)
  (case kLc=>k_is)
  (case aLg=>k_is)
  (case lLg=>k_is)
  (case cLg=>k_is)
  (case kLg=>k_is)
  (case aLm=>k_is)
  (case lLm=>k_is)
  (case cLm=>k_is)
  (case kLm=>k_is)
  (case aLh=>k_is)
  (case lLh=>k_is)
  (case cLh=>k_is)
  (case kLh=>k_is)
  (case aLj=>k_is)
  (case lLj=>k_is)
  (case cLj=>k_is)
  (case kLj=>k_is)
  (case aZ=>k_is)
  (case lZ=>k_is)
  (case cZ=>k_is)
  (case kZ=>k_is)
  (case aC=>k_is)
  (case aOi=>k_is)
  (case iOi=>k_is)
  (case lOi=>k_is)
  (case cOi=>k_is)
  (case kOi=>k_is)
  (case aOb=>k_is)
  (case iOb=>k_is)
  (case lOb=>k_is)
  (case cOb=>k_is)
  (case kOb=>k_is)
  (case aOc=>k_is)
  (case iOc=>k_is)
  (case lOc=>k_is)
  (case cOc=>k_is)
  (case kOc=>k_is)
  (case aOk=>k_is)
  (case iOk=>k_is)
  (case lOk=>k_is)
  (case cOk=>k_is)
  (case kOk=>k_is)
  (case aOo=>k_is)
  (case iOo=>k_is)
  (case lOo=>k_is)
  (case cOo=>k_is)
  (case kOo=>k_is)
  (case aBk=>k_is)
  (case iBk=>k_is)
  (case lBk=>k_is)
  (case cBk=>k_is)
  (case kBk=>k_is)
  (case aOp=>k_is)
  (case iOp=>k_is)
  (case lOp=>k_is)
  (case cOp=>k_is)
  (case kOp=>k_is)
  (case aOr=>k_is)
  (case iOr=>k_is)
  (case lOr=>k_is)
  (case cOr=>k_is)
  (case kOr=>k_is)
  (case aOq=>k_is)
  (case iOq=>k_is)
  (case lOq=>k_is)
  (case cOq=>k_is)
  (case kOq=>k_is)
  (case aOe=>k_is)
  (case iOe=>k_is)
  (case lOe=>k_is)
  (case cOe=>k_is)
  (case kOe=>k_is)
  (case aOs=>k_is)
  (case iOs=>k_is)
  (case lOs=>k_is)
  (case cOs=>k_is)
  (case kOs=>k_is)
  (case aOm=>k_is)
  (case iOm=>k_is)
  (case lOm=>k_is)
  (case cOm=>k_is)
  (case kOm=>k_is)
  (case aOz=>k_is)
  (case iOz=>k_is)
  (case lOz=>k_is)
  (case cOz=>k_is)
  (case kOz=>k_is)
  (case aCy=>k_is)
  (case aRi=>k_is)
  (case iRi=>k_is)
  (case lRi=>k_is)
  (case cRi=>k_is)
  (case kRi=>k_is)
  (case aRr=>k_is)
  (case iRr=>k_is)
  (case lRr=>k_is)
  (case cRr=>k_is)
  (case kRr=>k_is)
  (case aRs=>k_is)
  (case iRs=>k_is)
  (case lRs=>k_is)
  (case cRs=>k_is)
  (case kRs=>k_is)
  (case pg2=>k_is)
  (case hd2=>k_is)
  (case po2=>k_is)
  (case sa2=>k_is)
  (case mkC2=>k_is)
  (case kc2=>k_is)
  (case nr2=>k_is)
  (case pg=>k_is)
  (case hd=>k_is)
  (case po=>k_is)
  (case sa=>k_is)
  (case mkC=>k_is)
  (case kc=>k_is)
  (case n_row_list_=>k_is)
  (case n_board_list_=>k_is)
  (case n_rank_list_=>k_is)
  (case n_knob_rows_=>k_is)
  (case n_board_numbers_=>k_is)
  (case n_rank_numbers_=>k_is)
  (case n_knob_numbers_=>k_is)
  (case n_key_places_=>k_is)
  (case n_pipe_places_=>k_is)
  (case n_knob_lines_=>k_is)
  (case n_step_sets_=>k_is)
  (case zlen=>k_is)
  (case zisinstance=>k_is)
  (case zint=>k_is)
  (case zbool=>k_is)
  (case zstr=>k_is)
  (case zlist=>k_is)
  (case ztuple=>k_is)
  (case zall=>k_is)
  (case zany=>k_is)
  (case zsum=>k_is)
  (case zrange=>k_is)
  (case zzip=>k_is)
  (case zenumerate=>k_is)
  (case zmax=>k_is)
  (case zreversed=>k_is)
  (case zabs=>k_is)
  (case zLET=>k_is)
  (case zML=>k_is)
  (case zMR=>k_is)
  (case zMLn=>k_is)
  (case zMB=>k_is)
  (case rN=>k_is)
  (case rK=>k_is)
  (case rB=>k_is)
  (case rP=>k_is)
  (case rM=>k_is)
  (case dB=>k_is)
  (case kB=>k_keys)
  (case oB=>decide)
  (case dP=>k_is)
  (case kP=>k_keys)
  (case oP=>decide)
  (case dM=>k_is)
  (case kM=>k_keys)
  (case oM=>decide)
  (case qp1=>k_is)
  (case qp2=>k_is)
  (case qp3=>k_is)
  (case qp4=>k_is)
  (case qp5=>k_is)
  (case qp6=>k_is)
  (case qb1=>k_is)
  (case qb2=>k_is)
  (case qb3=>k_is)
  (case qb4=>k_is)
  (case qb5=>k_is)
  (case qb6=>k_is)
  (case qb7=>k_is)
  (case qn=>k_is)
  (case qb=>k_is)
  (case qr=>k_is)
  (case ql=>k_is)
  (case qm1=>k_is)
  (case qm2=>k_is)
  (case qm3=>k_is)
  (case qm4=>k_is)
  (case qm5=>k_is)
  (case uN=>k_is)
  (case uK=>k_is)
  (case up1=>k_is)
  (case up2=>k_is)
  (case up3=>k_is)
  (case up4=>k_is)
  (case up5=>k_is)
  (case up6=>k_is)
  (case ub1=>k_is)
  (case ub2=>k_is)
  (case ub3=>k_is)
  (case ub4=>k_is)
  (case ub5=>k_is)
  (case ub6=>k_is)
  (case ub7=>k_is)
end PartK29z
