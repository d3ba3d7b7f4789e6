import PyProof.Rows.All
import Wide.All
import OpenK.AllK
import Wide.FinOn
import Lean
import PyProof.EqAt
import PyProof.EqKinds
import PyProof.TupleCall
import PyProof.ZipIter
import PyProof.WalksEnum
import PyProof.EnumMake
import PyProof.NeKinds
import KE.KDictList
import PyProof.Rows.SetFrom
import PyProof.StrWalks
import PyProof.CollectWalk
import PyProof.Rows.SortWalk
import PyProof.Rows.BitMore
import PyProof.Rows.IntCalls
import KE.KRevIter
import PyProof.SetRoads
import OpenK.KTop
import PyProof.Rows.StrWeight2
import PyProof.SumWalk
import PyProof.SliceList
import PyProof.Rows.StrClose
import PyProof.Rows.CatFin
import KE.KUnpack
import PySem.Challenge.RW_windchest_k23_why_pipes_sound
local macro_rules | `(tactic| omega) => `(tactic| lia)
set_option Elab.async false
set_option linter.all false
set_option maxRecDepth 100000
namespace L2
open PySem PySem.Spec PyProof.Rows
noncomputable abbrev Key:=Sum Int Str
noncomputable def Jb:Key->Value->Bool
 | .inl k,v=>Value.isInt k v
 | .inr x,v=>Value.isStrOf x v
noncomputable def eU (w:World):Key->Int
 | .inl k=>hashInt k
 | .inr x=>hashStr w x
theorem Cg:∀ {k:Key} {v:Value},Jb k v=true->(∃ i t,k=Sum.inl i/\v=Value.int i t) \/ (∃ x t,k=Sum.inr x/\v=Value.str x t)
 | .inl i,v,h=>by
  obtain ⟨t,e⟩:=Value.isInt_shape (k:=i) (v:=v) h
  exact .inl ⟨i,t,rfl,e⟩
 | .inr x,v,h=>by
  obtain ⟨t,e⟩:=Value.isStrOf_shape (x:=x) (v:=v) h
  exact .inr ⟨x,t,rfl,e⟩
theorem QS (i:Int) (t:Tok):Jb (.inl i) (.int i t)=true:=by simp [Jb,Value.isInt]
theorem Qc (x:Str) (t:Tok):Jb (.inr x) (.str x t)=true:=by simp [Jb,Value.isStrOf]
theorem Xw (a b:Int):decide ((Sum.inl a:Key)=Sum.inl b)=(a == b):=by
 by_cases e:a=b
 ·subst e; simp
 ·have h:¬ (Sum.inl a:Key)=Sum.inl b:=fun q=>e (Sum.inl.inj q)
  rw [decide_eq_false h]
  exact (beq_eq_false_iff_ne.mpr e).symm
theorem Xn (a b:Str):decide ((Sum.inr a:Key)=Sum.inr b)=decide (a=b):=by
 by_cases e:a=b
 ·subst e; simp
 ·have h:¬ (Sum.inr a:Key)=Sum.inr b:=fun q=>e (Sum.inr.inj q)
  rw [decide_eq_false h,decide_eq_false e]
theorem Wr (a:Int) (b:Str):decide ((Sum.inl a:Key)=Sum.inr b)=false:=decide_eq_false (fun q=>nomatch q)
theorem Xi (a:Str) (b:Int):decide ((Sum.inr a:Key)=Sum.inl b)=false:=decide_eq_false (fun q=>nomatch q)
noncomputable def Cj (prog:Program) (w:World):PySem.KeyKind prog w Key where
 is:=Jb
 hash:=eU w
 inj:=fun v a b ha hb=>by
  rcases Cg ha with ⟨i,t,rfl,rfl⟩ | ⟨x,t,rfl,rfl⟩
  ·rcases Cg hb with ⟨j,u,rfl,e⟩ | ⟨y,u,rfl,e⟩
   ·injection e with e1 _; rw [e1]
   ·exact nomatch e
  ·rcases Cg hb with ⟨j,u,rfl,e⟩ | ⟨y,u,rfl,e⟩
   ·exact nomatch e
   ·injection e with e1 _; rw [e1]
 byValue:=fun k v h=>by
  rcases Cg h with ⟨i,t,rfl,rfl⟩ | ⟨x,t,rfl,rfl⟩ <;> rfl
 pyHash:=fun hv h=>by
  rcases Cg hv with ⟨i,t,rfl,rfl⟩ | ⟨x,t,rfl,rfl⟩
  ·exact wpAny_pyHash_int h
  ·exact wpAny_pyHash_str h
 eqBool:=fun hu hv h=>by
  rcases Cg hu with ⟨i,t,rfl,rfl⟩ | ⟨x,t,rfl,rfl⟩
  ·rcases Cg hv with ⟨j,u,rfl,rfl⟩ | ⟨y,u,rfl,rfl⟩
   ·rw [Xw] at h; exact wpAny_eqBool_int h
   ·rw [Wr] at h; exact SeqAt.EqAt.int_str i t y u _ _ _ _ h
  ·rcases Cg hv with ⟨j,u,rfl,rfl⟩ | ⟨y,u,rfl,rfl⟩
   ·rw [Xi] at h; exact SeqAt.EqAt.str_int x t j u _ _ _ _ h
   ·rw [Xn] at h; exact wpAny_eqBool_str h
 «strs»:=fun k x t v h=>by
  rcases Cg h with ⟨i,u,rfl,e⟩ | ⟨y,u,rfl,e⟩
  ·exact nomatch e
  ·injection e with e1 _
   subst e1
   cases v <;> rfl
theorem MP (prog:Program) (w:World) (i:Int) (t:Tok):(Cj prog w).is (.inl i) (.int i t)=true:=QS i t
theorem MT (prog:Program) (w:World) (x:Str) (t:Tok):(Cj prog w).is (.inr x) (.str x t)=true:=Qc x t
end L2
namespace L2
open PySem PySem.Spec PyProof.Rows
inductive V where
 | non | bl (b:Bool) | int (i:Int) | str (x:Str) | byt (b:Array UInt8) | flt (b:UInt64) | ref (a:Addr) | ty (n:String)
 deriving DecidableEq
noncomputable def RelV:V->Value->Prop
 | .non,u=>u=Value.none
 | .bl b,u=>u=Value.bool b
 | .int i,u=>∃ t,u=Value.int i t
 | .str x,u=>∃ t,u=Value.str x t
 | .byt b,u=>∃ t,u=Value.bytes b t
 | .flt b,u=>∃ t,u=Value.float b t
 | .ref a,u=>u=Value.ref a
 | .ty n,u=>u=Value.type n
noncomputable abbrev Vals:List V->List Value->Prop:=Paired RelV
theorem Vals.length {xs:List V} {us:List Value} (r:Vals xs us):xs.length=us.length:=Paired.length r
theorem Vals.get:∀ {xs:List V} {us:List Value} {i:Nat} {x:V},Vals xs us->xs[i]? = some x->∃ u,us[i]? = some u/\RelV x u
 | _,_,_,_,.nil,e=>by simp at e
 | _,_,0,_,.cons r _,e=>by simp at e; subst e; exact ⟨_,rfl,r⟩
 | _,_,i+1,x,.cons _ t,e=>by
  obtain ⟨u,h1,h2⟩:=Vals.get (i:=i) (x:=x) t (by simpa using e)
  exact ⟨u,by simpa using h1,h2⟩
theorem Vals.append:∀ {xs ys:List V} {us ws:List Value},Vals xs us->Vals ys ws->Vals (xs++ys) (us++ws)
 | _,_,_,_,.nil,s=>s
 | _,_,_,_,.cons r t,s=>.cons r (Vals.append t s)
theorem Vals.take:∀ {xs:List V} {us:List Value} (n:Nat),Vals xs us->Vals (xs.take n) (us.take n)
 | _,_,0,_=>.nil
 | _,_,_+1,.nil=>.nil
 | _,_,n+1,.cons r t=>.cons r (Vals.take n t)
theorem Vals.drop:∀ {xs:List V} {us:List Value} (n:Nat),Vals xs us->Vals (xs.drop n) (us.drop n)
 | _,_,0,r=>r
 | _,_,_+1,.nil=>.nil
 | _,_,n+1,.cons _ t=>Vals.drop n t
noncomputable def Gs:Option V->Option Value->Prop
 | some v,some u=>RelV v u
 | none,none=>True
 | _,_=>False
noncomputable def KV {κ:Type}:List (κ × V)->List (κ × Value)->Prop:=Paired fun (p:κ × V) (q:κ × Value)=>p.1=q.1/\RelV p.2 q.2
noncomputable def kV:Key->V
 | .inl i=>.int i
 | .inr x=>.str x
inductive HO where
 | lst (xs:List V)
 | tup (xs:List V)
 | dK (kvs:List (Key × V)) | dT (kvs:List (List Key × V))
 | set (S:Int->Bool) (n:Nat)
 | ins (C dx:Addr) (fs:List (Str × V))
 | own (x:Addr)
 | xd (fs:List (Str × V))
 | met (f x:Addr)
 | rng (lo hi:Int)
 | frz (o:Obj) (u:HO)
 | tbl (ps:Array Value)
 | ext (φ:Heap->Prop)
noncomputable abbrev Hp:=Addr->Option HO
noncomputable def upd (H:Hp) (a:Addr) (o:HO):Hp:=fun b=>if b=a then some o else H b
theorem Aj {H:Hp} {a:Addr} {o:HO}:upd H a o a=some o:=by unfold upd; rw [if_pos rfl]
theorem BP {H:Hp} {a b:Addr} {o:HO} (h:b ≠ a):upd H a o b=H b:=by unfold upd; rw [if_neg h]
theorem V8 {H:Hp} {a b:Addr} {o u:HO} (h:H a=some o) (h':H b=some u) (d:o ≠ u):a ≠ b:=by
 intro e; subst e; rw [h] at h'; exact d (Option.some.inj h')
theorem A_ {H:Hp} {a b:Addr} {o:HO} (h:H a=some o) (h':H b=none):a ≠ b:=by
 intro e; subst e; rw [h] at h'; cases h'
section
variable (P:Program) (w:World)
noncomputable def Ce (H:Hp) (h:Heap) (a:Addr):HO->Prop
 | .lst xs=>xs.length<=sizeLine/\∃ (its:List Value) (n:Nat),Vals xs its/\h.get? a=some { cls:=.type "list",data:=.seq its.toArray n }
 | .tup xs=>xs.length<=sizeLine/\∃ its:List Value,Vals xs its/\IsTup h a its.toArray
 | .dK kvs=>kvs.length<=sizeLine/\(a == sysModules)=false/\∃ vs,KV kvs vs/\h.DictOf (Cj P w) a vs
 | .dT kvs=>kvs.length<=sizeLine/\(a == sysModules)=false/\∃ xs:List (List Key × Addr × Value),
   Paired (fun (p:List Key × V) (q:List Key × Addr × Value)=>p.1=q.1/\H q.2.1=some (.tup (p.1.map kV))/\RelV p.2 q.2.2) kvs xs /\
   ∃ o es ep,h.get? a=some o/\o.ExactDict/\o.data=.dict es ep/\es.toList=xs.map (entryOfKey (tupleKind (Cj P w)))/\(xs.map (·.1)).Nodup
 | .set S n=>h.SetOf (intKind P w) a S n
 | .ins C dx fs=>H dx=some (.own a)/\fs.length<=1000/\dx ≠ a/\h.get? a=some (PySem.W.instObj C dx) /\
   ∃ mA,h.Ns1 dx mA/\(∀ f,Gs (fs.lookup f) (mA f))/\PySem.Within mA (fs.map (·.1))
 | .own _=>∃ o,h.get? a=some o
 | .xd fs=>∃ mA,h.Ns1 a mA/\∀ f,Gs (fs.lookup f) (mA f)
 | .rng lo hi=>∃ t u v,h.get? a=some { cls:=.type "range",data:=.fields #[.int lo t,.int hi u,.int 1 v] }
 | .frz o u=>h.get? a=some o/\Ce H h a u
 | .tbl ps=>h.get? a=some { cls:=.none,data:=.fields ps }
 | .met f x=>h.get? a=some (PySem.W.methodObj (.ref f) (.ref x))
 | .ext φ=>φ h/\(∃ o,h.get? a=some o)/\∀ h1 h2:Heap,φ h1->(∀ o,h1.get? a=some o->h2.get? a=some o)->φ h2
noncomputable def Hn (H:Hp) (h:Heap):Prop:=∀ a o,H a=some o->Ce P w H h a o
end
section
variable {P:Program} {w:World} {H H':Hp} {h h':Heap} {a:Addr} {o:HO}
theorem Ce.lt (x:Ce P w H h a o):a<h.objs.size:=by
 cases o with
 | lst xs=>obtain ⟨_,_,_,_,e⟩:=x; exact Heap.lt_size e
 | tup xs=>obtain ⟨_,_,_,p⟩:=x; exact p.lt
 | dK kvs=>obtain ⟨_,_,_,_,o,_,_,e,_⟩:=x; exact Heap.lt_size e
 | dT kvs=>obtain ⟨_,_,_,_,o,_,_,e,_⟩:=x; exact Heap.lt_size e
 | set S n=>obtain ⟨o,_,_,_,e,_⟩:=x; exact Heap.lt_size e
 | ins C dx fs=>obtain ⟨_,_,_,e,_⟩:=x; exact Heap.lt_size e
 | own y=>obtain ⟨_,e⟩:=x; exact Heap.lt_size e
 | xd fs=>obtain ⟨_,⟨_,_,_,e,_⟩,_⟩:=x; exact Heap.lt_size e
 | rng lo hi=>obtain ⟨_,_,_,e⟩:=x; exact Heap.lt_size e
 | frz ob u=>obtain ⟨e,_⟩:=x; exact Heap.lt_size e
 | tbl ps=>exact Heap.lt_size (show h.get? a=some _ from x)
 | met f y=>exact Heap.lt_size (show h.get? a=some _ from x)
 | ext φ=>obtain ⟨_,⟨_,e⟩,_⟩:=x; exact Heap.lt_size e
theorem Paired.Fb {α β:Type} {F G:α->β->Prop}:∀ {l₁:List α} {l₂:List β},Paired F l₁ l₂->(∀ a b,F a b->G a b)->Paired G l₁ l₂
 | _,_,.nil,_=>.nil
 | _,_,.cons r t,f=>.cons (f _ _ r) (Paired.Fb t f)
theorem Ce.stay (x:Ce P w H h a o) (k:∀ b u,(b=a \/ H b=some (.own a))->h.get? b=some u->h'.get? b=some u)
  (ho:∀ b,H b=some (.own a)->H' b=some (.own a)) (ht:∀ b xs,H b=some (.tup xs)->H' b=some (.tup xs)):Ce P w H' h' a o:=by
 induction o with
 | lst xs=>obtain ⟨z,its,n,r,e⟩:=x; exact ⟨z,its,n,r,k _ _ (.inl rfl) e⟩
 | tup xs=>obtain ⟨z,its,r,ob,e,c⟩:=x; exact ⟨z,its,r,ob,k _ _ (.inl rfl) e,c⟩
 | dK kvs=>obtain ⟨z,y,vs,r,ob,es,ep,e,c⟩:=x; exact ⟨z,y,vs,r,ob,es,ep,k _ _ (.inl rfl) e,c⟩
 | dT kvs =>
  obtain ⟨z,y,xs,r,ob,es,ep,e,c⟩:=x
  exact ⟨z,y,xs,Paired.Fb r fun p q z=>⟨z.1,ht _ _ z.2.1,z.2.2⟩,ob,es,ep,k _ _ (.inl rfl) e,c⟩
 | set S n=>obtain ⟨ob,es,ep,t,e,c⟩:=x; exact ⟨ob,es,ep,t,k _ _ (.inl rfl) e,c⟩
 | ins C dx fs =>
  obtain ⟨d,z,ne,e,mA,⟨od,es,ep,e2,c⟩,r⟩:=x
  exact ⟨ho _ d,z,ne,k _ _ (.inl rfl) e,mA,⟨od,es,ep,k _ _ (.inr d) e2,c⟩,r⟩
 | own y=>obtain ⟨ob,e⟩:=x; exact ⟨ob,k _ _ (.inl rfl) e⟩
 | xd fs=>obtain ⟨mA,⟨od,es,ep,e,c⟩,r⟩:=x; exact ⟨mA,⟨od,es,ep,k _ _ (.inl rfl) e,c⟩,r⟩
 | rng lo hi=>obtain ⟨t,u,v,e⟩:=x; exact ⟨t,u,v,k _ _ (.inl rfl) e⟩
 | frz ob u ih=>obtain ⟨e,q⟩:=x; exact ⟨k _ _ (.inl rfl) e,ih q⟩
 | tbl ps =>
  have e:h.get? a=some { cls:=.none,data:=.fields ps }:=x
  show h'.get? a=some { cls:=.none,data:=.fields ps }
  exact k a _ (.inl rfl) e
 | met f y =>
  have e:h.get? a=some (PySem.W.methodObj (.ref f) (.ref y)):=x
  show h'.get? a=some (PySem.W.methodObj (.ref f) (.ref y))
  exact k a _ (.inl rfl) e
 | ext φ=>obtain ⟨p,⟨o,e⟩,st⟩:=x; exact ⟨st _ _ p fun o q=>k _ _ (.inl rfl) q,⟨o,k _ _ (.inl rfl) e⟩,st⟩
theorem Hn.lt (x:Hn P w H h) (e:H a=some o):a<h.objs.size:=(x a o e).lt
theorem Hn.fresh (x:Hn P w H h) (e:h.objs.size<=a):H a=none:=by
 cases q:H a with
 | none=>rfl
 | some u=>exact absurd (Nat.lt_of_lt_of_le (x.lt q) e) (Nat.lt_irrefl _)
theorem Hn.kept (x:Hn P w H h) (k:∀ b u,h.get? b=some u->h'.get? b=some u):Hn P w H h':=fun a o e =>
 (x a o e).stay (fun b u _ q=>k b u q) (fun _ q=>q) fun _ _ q=>q
theorem Hn.laid (x:Hn P w H h) (k:∀ b u,h.get? b=some u->h'.get? b=some u) (hp:h.objs.size<=a) (new:Ce P w (upd H a o) h' a o):Hn P w (upd H a o) h':=fun b u e=>by
 have hn:=x.fresh hp
 by_cases hb:b=a
 ·subst hb; rw [Aj] at e; cases e; exact new
 ·rw [BP hb] at e
  exact (x b u e).stay (fun c v _ q=>k c v q) (fun c q=>by rw [BP (A_ q hn)]; exact q) fun c xs q=>by rw [BP (A_ q hn)]; exact q
end
noncomputable def Rd (H:Hp) (a:Addr) (u:HO):Prop:=H a=some u \/ ∃ o,H a=some (.frz o u)
theorem Rd.ok {P:Program} {w:World} {H:Hp} {h:Heap} {a:Addr} {u:HO} (r:Rd H a u) (x:Hn P w H h):Ce P w H h a u:=by
 rcases r with r | ⟨o,r⟩
 ·exact x a u r
 ·obtain ⟨_,q⟩:=x a _ r
  exact q
noncomputable def aY:Option HO->Prop
 | some (.lst _)=>True
 | some (.dK _)=>True
 | some (.dT _)=>True
 | some (.set _ _)=>True
 | some (.ins _ _ _)=>True
 | some (.ext _)=>True
 | _=>False
section
variable {P:Program} {w:World} {H:Hp} {h h':Heap} {x e:Addr} {o':HO}
theorem Hn.write (ok:Hn P w H h) (mu:aY (H x)) (he:e=x \/ H e=some (.own x)) (k:∀ b u,b ≠ e->h.get? b=some u->h'.get? b=some u) (heo:∃ u,h'.get? e=some u)
  (new:Ce P w (upd H x o') h' x o'):Hn P w (upd H x o') h':=fun b u q=>by
 have nown:∀ c y,H c=some (.own y)->c ≠ x:=fun c y r z=>by subst z; rw [r] at mu; exact mu
 have ntup:∀ c xs,H c=some (.tup xs)->c ≠ x:=fun c xs r z=>by subst z; rw [r] at mu; exact mu
 by_cases hb:b=x
 ·subst hb; rw [Aj] at q; cases q; exact new
 ·rw [BP hb] at q
  by_cases hbe:b=e
  ·have q':H b=some (.own x):=by
    rcases he with z | z
    ·exact absurd (hbe.trans z) hb
    ·rw [hbe]; exact z
   rw [q] at q'; cases q'
   obtain ⟨v,hv⟩:=heo
   exact ⟨v,by rw [hbe]; exact hv⟩
  ·refine (ok b u q).stay (fun c v hc r=>k c v ?_ r) (fun c r=>by rw [BP (nown c b r)]; exact r) fun c xs r=>by rw [BP (ntup c xs r)]; exact r
   rcases hc with rfl | hc
   ·exact hbe
   ·rintro rfl
    rcases he with z | z
    ·exact nown c b hc z
    ·rw [hc] at z; cases z; exact hb rfl
end
structure Un (fs ex:List Addr) (H H':Hp) (h h':Heap):Prop where
 keep:∀ b o,h.get? b=some o->H b=none->b ∉ fs->b ∉ ex->h'.get? b=some o
 slot:∀ b o,h.get? b=some o->H b=none->b∈fs->b ∉ ex->∃ sl,h'.get? b=some { o with slots:=sl }
 free:∀ b o,h.get? b=some o->H b=none->b ∉ ex->H' b=none
 there:∀ b o,h.get? b=some o->b ∉ ex->∃ o',h'.get? b=some o'
 tups:∀ b xs,H b=some (.tup xs)->H' b=some (.tup xs)
 frzs:∀ b o u,H b=some (.frz o u)->H' b=some (.frz o u)
 tbls:∀ b ps,H b=some (.tbl ps)->∃ more,H' b=some (.tbl (ps++more))
section
variable {fs fs' ex ex':List Addr} {H H1 H2:Hp} {h h1 h2 h':Heap} {a x e:Addr} {o:HO}
theorem Un.any (u:Un fs ex H H1 h h1) {b:Addr} {ob:Obj} (q:h.get? b=some ob) (n:H b=none) (hx:b ∉ ex):∃ sl,h1.get? b=some { ob with slots:=sl }:=by
 by_cases hb:b∈fs
 ·exact u.slot b ob q n hb hx
 ·exact ⟨ob.slots,u.keep b ob q n hb hx⟩
theorem Un.kept (k:∀ b u,h.get? b=some u->h'.get? b=some u):Un fs ex H H h h' :=
 ⟨fun b ob q _ _ _=>k b ob q,fun b ob q _ _ _=>⟨ob.slots,k b ob q⟩,fun _ _ _ n _=>n,fun b ob q _=>⟨ob,k b ob q⟩,fun _ _ q=>q,fun _ _ _ q=>q,fun _ ps q=>⟨#[],by rw [q]; simp⟩⟩
theorem Un.refl:Un fs ex H H h h:=Un.kept fun _ _ q=>q
theorem Un.laid (k:∀ b u,h.get? b=some u->h'.get? b=some u) (hp:h.objs.size<=a) (hn:H a=none):Un fs ex H (upd H a o) h h' where
 keep:=fun b u q _ _ _=>k b u q
 slot:=fun b u q _ _ _=>⟨u.slots,k b u q⟩
 free:=fun b u q n _=>by rw [BP (Nat.ne_of_lt (Nat.lt_of_lt_of_le (Heap.lt_size q) hp))]; exact n
 there:=fun b u q _=>⟨u,k b u q⟩
 tups:=fun b xs q=>by rw [BP (A_ q hn)]; exact q
 frzs:=fun b u xs q=>by rw [BP (A_ q hn)]; exact q
 tbls:=fun b ps q=>⟨#[],by rw [BP (A_ q hn),q]; simp⟩
theorem Un.write (mu:aY (H x)) (he:e=x \/ H e=some (.own x)) (k:∀ b u,b ≠ e->h.get? b=some u->h'.get? b=some u) (heo:∃ u,h'.get? e=some u):Un fs ex H (upd H x o) h h':=by
 have hx:∀ b,H b=none->b ≠ x:=fun b n z=>by subst z; rw [n] at mu; exact mu
 have hb:∀ b,H b=none->b ≠ e:=fun b n z=>by
  subst z
  rcases he with r | r
  ·exact hx b n r
  ·rw [n] at r; cases r
 have hm:∀ b u,H b=some u->¬ aY (some u)->b ≠ x:=fun b u q nm z=>by subst z; rw [q] at mu; exact nm mu
 refine ⟨fun b u q n _ _=>k b u (hb b n) q,fun b u q n _ _=>⟨u.slots,k b u (hb b n) q⟩,fun b u q n _=>by rw [BP (hx b n)]; exact n,fun b u q _=>?_,
  fun b xs q=>by rw [BP (hm b _ q fun z=>z)]; exact q,fun b u xs q=>by rw [BP (hm b _ q fun z=>z)]; exact q,fun b ps q=>⟨#[],by rw [BP (hm b _ q fun z=>z),q]; simp⟩⟩
 by_cases hbe:b=e
 ·subst hbe; exact heo
 ·exact ⟨u,k b u hbe q⟩
end
noncomputable def eO (h:Heap) (H:Hp):List Addr:=(List.range h.objs.size).filter fun a=>(H a).isSome
noncomputable def K4 (h:Heap) (H:Hp):Heap:=PySem.W.hideAll h (eO h H)
theorem Qp (h:Heap) (H:Hp):(K4 h H).objs.size=h.objs.size:=PySem.W.hideAll_size _ _
theorem Tv {h:Heap} {H:Hp} {b:Addr} {o:Obj} (e:h.get? b=some o) (n:H b=none):(K4 h H).get? b=some o :=
 PySem.W.hideAll_get _ e fun hm=>by
  have q:(H b).isSome=true:=(List.mem_filter.mp hm).2
  rw [n] at q; simp at q
theorem Up {h:Heap} {H:Hp} {b:Addr} {o:Obj} (e:(K4 h H).get? b=some o):h.get? b=some o/\H b=none:=by
 have e':h.get? b=some o:=PySem.W.of_hideAll (eO h H) e
 refine ⟨e',?_⟩
 cases q:H b with
 | none=>rfl
 | some x =>
  have hm:b∈eO h H:=List.mem_filter.mpr ⟨List.mem_range.mpr (Heap.lt_size e'),by simp [q]⟩
  have z:(K4 h H).get? b=none:=PySem.W.hideAll_none (eO h H) hm
  rw [z] at e; cases e
noncomputable def U8 (g h:Heap) (L:Addr):List (Addr × Obj):=(List.range h.objs.size).filterMap fun a=>if a=L \/ (g.get? a).isSome=true then none else (h.get? a).map fun o=>(a,o)
noncomputable def rest (g h:Heap) (L d:Addr):List (Addr × Obj):=(U8 g h L).filter fun p=>decide (p.1 ≠ d)
end L2
namespace L2
open PySem PySem.Spec PyProof.Rows
structure Mod (K:PySem.W.Frag) (mg:Str->Option Value) (base:Heap):Prop where
 kin:K.In base
 glob:base.Ns mainGlobals mg
 blt:∃ mb,base.Ns builtinsNs mb/\∀ x:Str,x ≠ "__name__"->mb x=bootBuiltins x
 nolimit:base.NoLimit
structure Cx where
 prog:Program
 w:World
 K:PySem.W.Frag
 mg:Str->Option Value
 base:Heap
 A:Around
 N:List Str
 s₀:Shared
 H₀:Hp
 env:Env
 outer:List Env
 stack:List Env
 ex:List Addr
 fn:Str->Bool
 calm:Bool
 pn:List (Addr × Obj)
 xe:Value->Shared->Prop
noncomputable def frs (l:List Env):List Addr:=l.filterMap (·.frame)
noncomputable abbrev Cx.fs (X:Cx):List Addr:=frs X.outer
noncomputable def il (sc:Scope) (x:Str):Prop:=sc.names.lookup x=some .local \/ sc.names.lookup x=some .cell \/ sc.names.lookup x=some .free
noncomputable def Loc (sc:Scope) (x:Str):Prop:=sc.names.lookup x=some .local \/ sc.names.lookup x=some .cell
noncomputable def Look (env:Env) (h:Heap) (m:Str->Option Value) (x:Str) (u:Value):Prop :=
 (env.kindOf x=some .local/\m x=some u) \/ ((env.kindOf x=some .cell \/ env.kindOf x=some .free)/\∃ c,env.cells.lookup x=some c/\h.IsCell c (some u))
structure Cx.Ok (X:Cx):Prop where
 mod:Mod X.K X.mg X.base
 kind:X.env.scope.kind=.function
 glob:X.env.globals=mainGlobals
 blt:X.env.builtins=builtinsNs
 above:X.s₀.heap.objs.size<=X.env.locals
 inj:∀ x y c,X.env.cells.lookup x=some c->X.env.cells.lookup y=some c->x=y
 has:∀ x,(X.env.kindOf x=some .cell \/ X.env.kindOf x=some .free)->∃ c,X.env.cells.lookup x=some c
 cab:∀ x c,X.fn x=true->X.env.cells.lookup x=some c->X.s₀.heap.objs.size<=c
 hd:X.calm=true->X.A.handled=none
 frames:X.A.frames=some X.stack
 stk:X.stack=X.outer \/ (X.stack=X.env::X.outer/\X.env.frame=some X.env.locals)
 exf:∀ b∈X.ex,b ≠ X.env.locals/\∀ x c,X.env.cells.lookup x=some c->c ≠ b
 bs:∀ b o,X.base.get? b=some o->X.s₀.heap.get? b=some o/\X.H₀ b=none
 bsz:X.base.objs.size<=X.s₀.heap.objs.size
 noex:∀ b o,X.base.get? b=some o->b ∉ X.ex
 exfs:∀ b∈X.ex,b ∉ X.fs
 JR:X.s₀.heap.FunFrames X.base X.outer
 frf:∀ b∈X.fs,X.H₀ b=none
structure Inv (X:Cx) (pins:List (Addr × Obj)) (σ:List (Option V)) (H:Hp) (s:Shared):Prop where
 ok:X.Ok
 os:s.os=X.s₀.os
 bare:AllBare s.gens
 base:Un X.fs X.ex X.H₀ H X.s₀.heap s.heap
 loc:∃ m,s.heap.Ns X.env.locals m/\∀ (i:Nat) (x:Str) (v:V),X.N[i]? = some x->σ[i]? = some (some v)->il X.env.scope x->∃ u,RelV v u/\Look X.env s.heap m x u
 cell:∀ x c,X.env.cells.lookup x=some c->∃ v,s.heap.IsCell c v
 free:H X.env.locals=none
 freeC:∀ x c,X.env.cells.lookup x=some c->H c=none
 pin:∀ p∈X.pn++pins,s.heap.get? p.1=some p.2/\H p.1=none/\p.1 ≠ X.env.locals/\p.1 ∉ X.fs/\∀ v,p.2.data ≠ .cell v
 hok:Hn X.prog X.w H s.heap
 len:σ.length=X.N.length
section
variable {X:Cx} {pins:List (Addr × Obj)} {σ:List (Option V)} {H H':Hp} {s:Shared} {h':Heap}
theorem Cx.Ok.jw (ok:X.Ok) {b:Addr} {o:Obj} (e:X.base.get? b=some o):b ∉ X.fs:=fun hb=>by
 have:=(ok.JR.mem hb).1
 rw [e] at this; cases this
theorem Inv.bs (I:Inv X pins σ H s):∀ b o,X.base.get? b=some o->s.heap.get? b=some o/\H b=none:=fun b o e =>
 ⟨I.base.keep b o (I.ok.bs b o e).1 (I.ok.bs b o e).2 (I.ok.jw e) (I.ok.noex b o e),I.base.free b o (I.ok.bs b o e).1 (I.ok.bs b o e).2 (I.ok.noex b o e)⟩
theorem Inv.bk (I:Inv X pins σ H s):∀ b o,X.base.get? b=some o->s.heap.get? b=some o:=fun b o e=>(I.bs b o e).1
theorem Inv.mod (I:Inv X pins σ H s):Mod X.K X.mg X.base:=I.ok.mod
theorem Inv.Ii (I:Inv X pins σ H s):X.K.In s.heap:=I.ok.mod.kin.keeps I.bk
theorem Inv.lt (I:Inv X pins σ H s):X.env.locals<s.heap.objs.size:=let ⟨_,hn,_⟩:=I.loc; hn.lt
theorem Inv.sz (I:Inv X pins σ H s):X.s₀.heap.objs.size<=s.heap.objs.size:=Nat.le_trans I.ok.above (Nat.le_of_lt I.lt)
theorem Inv.jC (I:Inv X pins σ H s) {a:Addr} (h:s.heap.objs.size<=a):a ∉ X.fs:=fun hb=>by
 obtain ⟨_,o,ho,_⟩:=I.ok.JR.mem hb
 exact absurd (Nat.lt_of_lt_of_le (Heap.lt_size ho) (Nat.le_trans I.sz h)) (Nat.lt_irrefl _)
theorem Inv.Xz (I:Inv X pins σ H s):∀ x c,X.env.cells.lookup x=some c->c ≠ X.env.locals:=fun x c e z=>by
 obtain ⟨v,o,ho,hd⟩:=I.cell x c e
 obtain ⟨m,⟨o',es,ep,ho',hd',_⟩,_⟩:=I.loc
 rw [z,ho'] at ho; cases ho; rw [hd'] at hd; cases hd
theorem Inv.JR (I:Inv X pins σ H s):s.heap.FunFrames X.base X.outer:=by
 have all:∀ (l:List Env),(∀ b∈frs l,b∈X.fs)->X.s₀.heap.FunFrames X.base l->s.heap.FunFrames X.base l:=by
  intro l
  induction l with
  | nil=>intro _ _; trivial
  | cons env r ih =>
   intro hs hl
   obtain ⟨hk,⟨L,o,hf,hn,ho,hd⟩,hr⟩:=hl
   have hL:L∈X.fs:=hs L (by unfold frs; rw [List.filterMap_cons,hf]; exact List.mem_cons_self)
   obtain ⟨sl,e⟩:=I.base.slot L o ho (I.ok.frf L hL) hL fun z=>I.ok.exfs L z hL
   exact ⟨hk,⟨L,_,hf,hn,e,hd⟩,ih (fun b hb=>hs b (by unfold frs; rw [List.filterMap_cons,hf]; exact List.mem_cons_of_mem _ hb)) hr⟩
 exact all X.outer (fun _ hb=>hb) I.ok.JR
theorem Inv.stack (I:Inv X pins σ H s):s.heap.FunFrames X.base X.stack:=by
 rcases I.ok.stk with e | ⟨e,hf⟩
 ·rw [e]; exact I.JR
 ·rw [e]
  obtain ⟨m,hn,_⟩:=I.loc
  refine .cons (by rw [I.ok.kind]; decide) hf hn ?_ I.JR
  exact Heap.get?_none_of_le (Nat.le_trans I.ok.bsz I.ok.above)
theorem Inv.Le (I:Inv X pins σ H s):∀ b∈frs X.stack,b∈X.env.locals::X.fs:=fun b hb=>by
 rcases I.ok.stk with e | ⟨e,hf⟩
 ·rw [e] at hb; exact List.mem_cons_of_mem _ hb
 ·rw [e] at hb
  unfold frs at hb
  rw [List.filterMap_cons,hf] at hb
  exact hb
theorem Inv.K3 (I:Inv X pins σ H s):∀ b∈frs X.stack,H b=none:=fun b hb=>by
 rcases List.mem_cons.mp (I.Le b hb) with e | hb
 ·rw [e]; exact I.free
 ·obtain ⟨_,o,ho,_⟩:=I.ok.JR.mem hb
  exact I.base.free b o ho (I.ok.frf b hb) fun z=>I.ok.exfs b z hb
theorem Inv.step {g':Array GenState} {t':Nat} {d':Drawn} {ch:List Addr} (I:Inv X pins σ H s)
  (hch:∀ b∈ch,(b∈X.ex \/ X.s₀.heap.objs.size<=b)/\b ≠ X.env.locals/\(∀ x c,X.env.cells.lookup x=some c->c ≠ b)/\∀ p∈X.pn++pins,p.1 ≠ b)
  (keep:∀ b o,b ≠ X.env.locals->b ∉ X.fs->b ∉ ch->s.heap.get? b=some o->H b=none->h'.get? b=some o)
  (slot:∀ b o,b ≠ X.env.locals->b∈X.fs->b ∉ ch->s.heap.get? b=some o->H b=none->∃ sl,h'.get? b=some { o with slots:=sl }) (free:∀ b o,b ∉ ch->s.heap.get? b=some o->H b=none->H' b=none)
  (there:∀ b o,b ∉ ch->s.heap.get? b=some o->∃ o',h'.get? b=some o')
  (tups:∀ b xs,H b=some (.tup xs)->H' b=some (.tup xs)) (frzs:∀ b o u,H b=some (.frz o u)->H' b=some (.frz o u)) (tbls:∀ b ps,H b=some (.tbl ps)->∃ more,H' b=some (.tbl (ps++more)))
  (ns:∀ m,s.heap.Ns X.env.locals m->h'.Ns X.env.locals m) (hok:Hn X.prog X.w H' h') (hg:AllBare g') :
  Inv X pins σ H' { s with heap:=h',gens:=g',drawn:=d',toks:=t' }:=by
 have neL:∀ b o,X.s₀.heap.get? b=some o->b ≠ X.env.locals:=fun b o e=>Nat.ne_of_lt (Nat.lt_of_lt_of_le (Heap.lt_size e) I.ok.above)
 have neC:∀ b o,X.s₀.heap.get? b=some o->b ∉ X.ex->b ∉ ch:=fun b o e hx hb=>by
  rcases (hch b hb).1 with z | z
  ·exact hx z
  ·exact absurd (Nat.lt_of_lt_of_le (Heap.lt_size e) z) (Nat.lt_irrefl _)
 have cellK:∀ x c,X.env.cells.lookup x=some c->∀ v,s.heap.IsCell c v->h'.IsCell c v:=fun x c e v ⟨o,ho,hd⟩=>by
  have nch:c ∉ ch:=fun z=>(hch c z).2.2.1 x c e rfl
  by_cases hc:c∈X.fs
  ·obtain ⟨sl,q⟩:=slot c o (I.Xz x c e) hc nch ho (I.freeC x c e)
   exact ⟨_,q,hd⟩
  ·exact ⟨o,keep c o (I.Xz x c e) hc nch ho (I.freeC x c e),hd⟩
 refine ⟨I.ok,I.os,hg,⟨fun b o e n hb hx=>?_,fun b o e n hb hx=>?_,fun b o e n hx=>?_,fun b o e hx=>?_,fun b xs e=>tups b xs (I.base.tups b xs e),fun b o xs e=>frzs b o xs (I.base.frzs b o xs e),fun b ps e=>?_⟩,?_,fun x c e=>?_,?_,fun x c e=>?_,fun p hp=>?_,hok,I.len⟩
 ·exact keep b o (neL b o e) hb (neC b o e hx) (I.base.keep b o e n hb hx) (I.base.free b o e n hx)
 ·obtain ⟨sl,e1⟩:=I.base.slot b o e n hb hx
  obtain ⟨sl',e2⟩:=slot b _ (neL b o e) hb (neC b o e hx) e1 (I.base.free b o e n hx)
  exact ⟨sl',e2⟩
 ·obtain ⟨o',e1⟩:=I.base.there b o e hx
  exact free b o' (neC b o e hx) e1 (I.base.free b o e n hx)
 ·obtain ⟨o',e1⟩:=I.base.there b o e hx
  exact there b o' (neC b o e hx) e1
 ·obtain ⟨m1,e1⟩:=I.base.tbls b ps e
  obtain ⟨m2,e2⟩:=tbls b _ e1
  exact ⟨m1++m2,by rw [e2,Array.append_assoc]⟩
 ·obtain ⟨m,hn,hl⟩:=I.loc
  refine ⟨m,ns m hn,fun i x v e1 e2 e3=>?_⟩
  obtain ⟨u,r,l⟩:=hl i x v e1 e2 e3
  refine ⟨u,r,?_⟩
  rcases l with l | ⟨k,c,e,z⟩
  ·exact .inl l
  ·exact .inr ⟨k,c,e,cellK x c e _ z⟩
 ·obtain ⟨v,z⟩:=I.cell x c e
  exact ⟨v,cellK x c e v z⟩
 ·obtain ⟨m,⟨o,_,_,ho,_⟩,_⟩:=I.loc
  exact free _ o (fun z=>(hch _ z).2.1 rfl) ho I.free
 ·obtain ⟨v,o,ho,hd⟩:=I.cell x c e
  exact free c o (fun z=>(hch c z).2.2.1 x c e rfl) ho (I.freeC x c e)
 ·obtain ⟨e,n,ne,nf,d⟩:=I.pin p hp
  have nch:p.1 ∉ ch:=fun z=>(hch p.1 z).2.2.2 p hp rfl
  exact ⟨keep p.1 p.2 ne nf nch e n,free p.1 p.2 nch e n,ne,nf,d⟩
theorem Inv.un {t':Nat} (I:Inv X pins σ H s) (u:Un X.fs [] H H' s.heap h') (hok:Hn X.prog X.w H' h'):Inv X pins σ H' { s with heap:=h',toks:=t' }:=by
 obtain ⟨m,⟨o,es,ep,ho,r⟩,_⟩:=id I.loc
 obtain ⟨sl,hL⟩:=u.any ho I.free (by simp)
 exact I.step (g':=s.gens) (d':=s.drawn) (ch:=[]) (fun _ z=>nomatch z) (fun b o _ hb _ e n=>u.keep b o e n hb (by simp)) (fun b o _ hb _ e n=>u.slot b o e n hb (by simp)) (fun b o _ e n=>u.free b o e n (by simp)) (fun b o _ e=>u.there b o e (by simp)) u.tups u.frzs u.tbls (fun m' hm=>by
  obtain ⟨o',es',ep',ho',r'⟩:=hm
  rw [ho] at ho'; cases ho'
  exact ⟨_,es',ep',hL,r'⟩) hok I.bare
theorem Inv.call {g':Array GenState} {t':Nat} {d':Drawn} {ch:List Addr} (I:Inv X pins σ H s) (u:Un (frs X.stack) ch H H' s.heap h') (hok:Hn X.prog X.w H' h') (hg:AllBare g')
  (hch:∀ b∈ch,(b∈X.ex \/ X.s₀.heap.objs.size<=b)/\b ≠ X.env.locals/\(∀ x c,X.env.cells.lookup x=some c->c ≠ b)/\∀ p∈X.pn++pins,p.1 ≠ b) :
  Inv X pins σ H' { s with heap:=h',gens:=g',drawn:=d',toks:=t' }:=by
 obtain ⟨m,⟨o,es,ep,ho,r⟩,_⟩:=id I.loc
 obtain ⟨sl,hL⟩:=u.any ho I.free fun z=>(hch _ z).2.1 rfl
 exact I.step (ch:=ch) hch (fun b o hL hb hc e n=>u.keep b o e n (fun z=>(List.mem_cons.mp (I.Le b z)).elim hL hb) hc) (fun b o _ _ hc e n=>u.any e n hc) (fun b o hc e n=>u.free b o e n hc) (fun b o hc e=>u.there b o e hc) u.tups u.frzs u.tbls (fun m' hm=>by
  obtain ⟨o',es',ep',ho',r'⟩:=hm
  rw [ho] at ho'; cases ho'
  exact ⟨_,es',ep',hL,r'⟩) hok hg
theorem Inv.turned {t':Nat} {it:Addr} (I:Inv X pins σ H s) (k:∀ b o,b ≠ it->s.heap.get? b=some o->h'.get? b=some o) (hn:H it=none) (hL:it ≠ X.env.locals)
  (h1:it∈X.ex \/ X.s₀.heap.objs.size<=it) (h2:∀ x c,X.env.cells.lookup x=some c->c ≠ it) (h3:∀ p∈X.pn++pins,p.1 ≠ it):Inv X pins σ H { s with heap:=h',toks:=t' }:=by
 have nit:∀ b u,H b=some u->b ≠ it:=fun b u e z=>by rw [z,hn] at e; cases e
 refine I.step (g':=s.gens) (d':=s.drawn) (ch:=[it]) (fun b hb=>?_) (fun b o _ _ hc e _=>k b o (fun z=>hc (by simp [z])) e) (fun b o _ _ hc e _=>⟨o.slots,k b o (fun z=>hc (by simp [z])) e⟩) (fun _ _ _ _ n=>n)
  (fun b o hc e=>⟨o,k b o (fun z=>hc (by simp [z])) e⟩) (fun _ _ e=>e) (fun _ _ _ e=>e) (fun b ps e=>⟨#[],by rw [e]; simp⟩) (fun m hm=>?_) (fun b u e=>?_) I.bare
 ·have e:b=it:=by simpa using hb
  subst e
  exact ⟨h1,hL,h2,h3⟩
 ·obtain ⟨o,es,ep,ho,r⟩:=hm
  exact ⟨o,es,ep,k _ o (Ne.symm hL) ho,r⟩
 ·refine (I.hok b u e).stay (fun c v hc q=>k c v ?_ q) (fun _ q=>q) fun _ _ q=>q
  rcases hc with z | z
  ·rw [z]; exact nit b u e
  ·exact nit c _ z
theorem Inv.tok (I:Inv X pins σ H s) (t:Nat):Inv X pins σ H { s with toks:=t }:=I.un (h':=s.heap) (t':=t) Un.refl I.hok
theorem Inv.kept {t':Nat} (I:Inv X pins σ H s) (k:∀ b u,s.heap.get? b=some u->h'.get? b=some u):Inv X pins σ H { s with heap:=h',toks:=t' }:=I.un (Un.kept k) (I.hok.kept k)
theorem Inv.laid {a:Addr} {o:HO} {t':Nat} (I:Inv X pins σ H s) (k:∀ b u,s.heap.get? b=some u->h'.get? b=some u) (hp:s.heap.objs.size<=a) (new:Ce X.prog X.w (upd H a o) h' a o) :
  Inv X pins σ (upd H a o) { s with heap:=h',toks:=t' }:=I.un (Un.laid k hp (I.hok.fresh hp)) (I.hok.laid k hp new)
theorem Inv.write {x e:Addr} {o:HO} {t':Nat} (I:Inv X pins σ H s) (mu:aY (H x)) (he:e=x \/ H e=some (.own x)) (k:∀ b u,b ≠ e->s.heap.get? b=some u->h'.get? b=some u) (heo:∃ u,h'.get? e=some u)
  (new:Ce X.prog X.w (upd H x o) h' x o):Inv X pins σ (upd H x o) { s with heap:=h',toks:=t' }:=I.un (Un.write mu he k heo) (I.hok.write mu he k heo new)
theorem Inv.QB {pins':List (Addr × Obj)} (I:Inv X pins σ H s) (h:∀ p∈pins',s.heap.get? p.1=some p.2/\H p.1=none/\p.1 ≠ X.env.locals/\p.1 ∉ X.fs/\∀ v,p.2.data ≠ .cell v):Inv X pins' σ H s :=
 ⟨I.ok,I.os,I.bare,I.base,I.loc,I.cell,I.free,I.freeC,fun p hp=>(List.mem_append.mp hp).elim (fun z=>I.pin p (List.mem_append_left _ z)) (h p),I.hok,I.len⟩
theorem Mu {N:List Str} (hN:N.Nodup) {i j:Nat} {x:Str} (a:N[i]? = some x) (b:N[j]? = some x):i=j:=by
 obtain ⟨h1,e1⟩:=List.getElem?_eq_some_iff.mp a
 obtain ⟨h2,e2⟩:=List.getElem?_eq_some_iff.mp b
 exact (List.getElem_inj hN).mp (e1.trans e2.symm)
theorem Kf {M:Model} {A:Around} {E:Value->Shared->Prop} {i:Nat} {x:Str} {v:V} {u:Value} {Q:Unit->Shared->Prop} (I:Inv X pins σ H s) (hN:X.N.Nodup) (hi:X.N[i]? = some x) (hx:Loc X.env.scope x) (r:RelV v u)
  (h:∀ s',Inv X pins (σ.set i (some v)) H s'->(∃ a,Heap.SameBut a s.heap s'.heap/\(a=X.env.locals \/ X.env.cells.lookup x=some a))->Q () s') (hf:X.fn x=true \/ X.env.scope.names.lookup x=some .local:=by first | exact .inl rfl | exact .inr rfl | assumption):wpAny M A (storeName X.env x u) Q E s:=by
 obtain ⟨m,hn,hl⟩:=id I.loc
 have hcls:(X.env.scope.kind == .class || (X.env.scope.kind == .module && X.env.locals != X.env.globals))=false:=by rw [I.ok.kind]; rfl
 have hiσ:i<σ.length:=by rw [I.len]; exact (List.getElem?_eq_some_iff.mp hi).1
 have Xz:=I.Xz
 have tracked:∀ {a:Addr} {h':Heap},(∃ o,s.heap.get? a=some o/\H a=none)->Heap.SameBut a s.heap h'->Hn X.prog X.w H h':=fun {a h'} ha hs b ob e=>by
  obtain ⟨_,_,hfree⟩:=ha
  refine (I.hok b ob e).stay (fun c w' hc q=>(hs.2 c ?_).trans q) (fun _ q=>q) fun _ _ q=>q
  rintro rfl
  rcases hc with rfl | hc
  ·rw [hfree] at e; cases e
  ·rw [hfree] at hc; cases hc
 rcases hx with hk | hk
 ·refine wpAny_storeName_local hk hn (fun h' hn' hs=>?_) hcls
  obtain ⟨oL,_,_,hoL,_⟩:=id hn
  refine h _ ⟨I.ok,I.os,I.bare,⟨fun b o e n hb hx=>?_,fun b o e n hb hx=>?_,I.base.free,fun b o e hx=>?_,I.base.tups,I.base.frzs,I.base.tbls⟩,⟨_,hn',fun j y v' e1 e2 e3=>?_⟩,fun y c e=>?_,I.free,I.freeC,fun p hp=>?_,tracked ⟨oL,hoL,I.free⟩ hs,by simpa using I.len⟩ ⟨_,hs,.inl rfl⟩
  ·exact (hs.2 b (Nat.ne_of_lt (Nat.lt_of_lt_of_le (Heap.lt_size e) I.ok.above))).trans (I.base.keep b o e n hb hx)
  ·obtain ⟨sl,e1⟩:=I.base.slot b o e n hb hx
   exact ⟨sl,(hs.2 b (Nat.ne_of_lt (Nat.lt_of_lt_of_le (Heap.lt_size e) I.ok.above))).trans e1⟩
  ·obtain ⟨o',e1⟩:=I.base.there b o e hx
   exact ⟨o',(hs.2 b (Nat.ne_of_lt (Nat.lt_of_lt_of_le (Heap.lt_size e) I.ok.above))).trans e1⟩
  ·by_cases hj:j=i
   ·subst hj
    rw [hi] at e1; cases e1
    rw [List.getElem?_set_self hiσ] at e2
    cases e2
    exact ⟨u,r,.inl ⟨hk,by simp⟩⟩
   ·rw [List.getElem?_set_ne (Ne.symm hj)] at e2
    obtain ⟨u',r',q⟩:=hl j y v' e1 e2 e3
    refine ⟨u',r',?_⟩
    rcases q with ⟨k,e⟩ | ⟨k,c,e,z⟩
    ·refine .inl ⟨k,?_⟩
     have:y ≠ x:=fun e=>hj (Mu hN e1 (e ▸ hi))
     simp [this,e]
    ·exact .inr ⟨k,c,e,z.sameBut hs (Xz y c e)⟩
  ·obtain ⟨w',z⟩:=I.cell y c e
   exact ⟨w',z.sameBut hs (Xz y c e)⟩
  ·obtain ⟨e,n,ne,nf,d⟩:=I.pin p hp
   exact ⟨(hs.2 p.1 ne).trans e,n,ne,nf,d⟩
 ·have hfn:X.fn x=true:=by
   rcases hf with z | z
   ·exact z
   ·rw [z] at hk; cases hk
  obtain ⟨c,hc⟩:=I.ok.has x (.inl hk)
  obtain ⟨w',z⟩:=I.cell x c hc
  refine wpAny_storeName_cell I.ok.kind hk hc z (fun h' hc' hs=>?_)
  obtain ⟨oc,hoc,hocd⟩:=id z
  refine h { s with heap:=h' } ⟨I.ok,I.os,I.bare,⟨fun b o e n hb hx=>?_,fun b o e n hb hx=>?_,I.base.free,fun b o e hx=>?_,I.base.tups,I.base.frzs,I.base.tbls⟩,⟨m,hn.sameBut hs (Ne.symm (Xz x c hc)),fun j y v' e1 e2 e3=>?_⟩,fun y c' e=>?_,I.free,I.freeC,fun p hp=>?_,tracked ⟨oc,hoc,I.freeC x c hc⟩ hs,by simpa using I.len⟩ ⟨c,hs,.inr hc⟩
  ·exact (hs.2 b (Nat.ne_of_lt (Nat.lt_of_lt_of_le (Heap.lt_size e) (I.ok.cab x c hfn hc)))).trans (I.base.keep b o e n hb hx)
  ·obtain ⟨sl,e1⟩:=I.base.slot b o e n hb hx
   exact ⟨sl,(hs.2 b (Nat.ne_of_lt (Nat.lt_of_lt_of_le (Heap.lt_size e) (I.ok.cab x c hfn hc)))).trans e1⟩
  ·obtain ⟨o',e1⟩:=I.base.there b o e hx
   exact ⟨o',(hs.2 b (Nat.ne_of_lt (Nat.lt_of_lt_of_le (Heap.lt_size e) (I.ok.cab x c hfn hc)))).trans e1⟩
  ·by_cases hj:j=i
   ·subst hj
    rw [hi] at e1; cases e1
    rw [List.getElem?_set_self hiσ] at e2
    cases e2
    exact ⟨u,r,.inr ⟨.inl hk,c,hc,hc'⟩⟩
   ·rw [List.getElem?_set_ne (Ne.symm hj)] at e2
    obtain ⟨u',r',q⟩:=hl j y v' e1 e2 e3
    refine ⟨u',r',?_⟩
    rcases q with q | ⟨k,c',e,z'⟩
    ·exact .inl q
    ·refine .inr ⟨k,c',e,z'.sameBut hs ?_⟩
     rintro rfl
     exact hj (Mu hN e1 (I.ok.inj _ _ _ e hc ▸ hi))
  ·by_cases hcc:c'=c
   ·subst hcc; exact ⟨_,hc'⟩
   ·obtain ⟨w2,z2⟩:=I.cell y c' e
    exact ⟨w2,z2.sameBut hs hcc⟩
  ·obtain ⟨e,n,ne,nf,d⟩:=I.pin p hp
   refine ⟨(hs.2 p.1 ?_).trans e,n,ne,nf,d⟩
   intro q
   rw [q,hoc] at e
   have q':oc=p.2:=Option.some.inj e
   exact d w' (by rw [← q']; exact hocd)
theorem Jp {M:Model} {A:Around} {E:Value->Shared->Prop} {i:Nat} {x:Str} {v:V} {u:Value} {Q:Unit->Shared->Prop} (I:Inv X pins σ H s) (hN:X.N.Nodup) (hi:X.N[i]? = some x) (hx:Loc X.env.scope x) (r:RelV v u)
  (h:∀ s',Inv X pins (σ.set i (some v)) H s'->Q () s') (hf:X.fn x=true \/ X.env.scope.names.lookup x=some .local:=by first | exact .inl rfl | exact .inr rfl | assumption):wpAny M A (storeName X.env x u) Q E s :=
 Kf I hN hi hx r (fun s' I' _=>h s' I') hf
theorem Inv.call' {s':Shared} {ch:List Addr} (I:Inv X pins σ H s) (ho:s'.os=s.os) (u:Un (frs X.stack) ch H H' s.heap s'.heap) (hok:Hn X.prog X.w H' s'.heap) (hg:AllBare s'.gens)
  (hch:∀ b∈ch,(b∈X.ex \/ X.s₀.heap.objs.size<=b)/\b ≠ X.env.locals/\(∀ x c,X.env.cells.lookup x=some c->c ≠ b)/\∀ p∈X.pn++pins,p.1 ≠ b):Inv X pins σ H' s':=by
 obtain ⟨h',g',d',t',o'⟩:=s'
 have e:o'=s.os:=ho
 subst e
 exact I.call (g':=g') (t':=t') (d':=d') u hok hg hch
end
noncomputable abbrev XK:=Value->Option Addr->Hp->Prop
noncomputable abbrev St:=List (Option V)
noncomputable abbrev VK:=V->Hp->Prop
noncomputable abbrev TE:=St->Hp->VK->Prop
noncomputable abbrev TT:=St->Hp->(Bool->Hp->Prop)->Prop
noncomputable abbrev TA:=St->Hp->(List V->Hp->Prop)->Prop
structure Ends where
 nx:St->Hp->Prop
 rt:VK
 bk:St->Hp->Prop:=fun _ _=>False
 ct:St->Hp->Prop:=fun _ _=>False
noncomputable abbrev TS:=Ends->St->Hp->Prop
noncomputable def EP (X:Cx) (pins:List (Addr × Obj)) (σ:St) (Q:VK) (u:Value) (s':Shared):Prop:=∃ v H',Inv X pins σ H' s'/\RelV v u/\Q v H'
noncomputable def TP (X:Cx) (pins:List (Addr × Obj)) (σ:St) (Q:Bool->Hp->Prop) (b:Bool) (s':Shared):Prop:=∃ H',Inv X pins σ H' s'/\Q b H'
noncomputable def AP (X:Cx) (pins:List (Addr × Obj)) (σ:St) (Q:List V->Hp->Prop) (us:List Value) (s':Shared):Prop:=∃ vs H',Inv X pins σ H' s'/\Vals vs us/\Q vs H'
noncomputable def SP (X:Cx) (pins:List (Addr × Obj)) (D:Ends) (f:Flow) (s':Shared):Prop :=
 match f with
 | .next=>∃ σ' H',Inv X pins σ' H' s'/\D.nx σ' H'
 | .brk=>∃ σ' H',Inv X pins σ' H' s'/\D.bk σ' H'
 | .cont=>∃ σ' H',Inv X pins σ' H' s'/\D.ct σ' H'
 | .ret u=>∃ v σ' H',Inv X pins σ' H' s'/\RelV v u/\D.rt v H'
noncomputable def PE (X:Cx) (e:Expr) (t:TE):Prop :=
 ∀ (pins:List (Addr × Obj)) (s:Shared) (σ:St) (H:Hp) (Q:VK),Inv X pins σ H s->t σ H Q->wpAny (model X.prog X.w) X.A (eval e X.env) (EP X pins σ Q) X.xe s
noncomputable def PT (X:Cx) (e:Expr) (t:TT):Prop :=
 ∀ (pins:List (Addr × Obj)) (s:Shared) (σ:St) (H:Hp) (Q:Bool->Hp->Prop),Inv X pins σ H s->t σ H Q->wpAny (model X.prog X.w) X.A (isTrue e X.env (eval e X.env)) (TP X pins σ Q) X.xe s
noncomputable def PW (X:Cx) (e:Expr) (t:TT):Prop :=
 ∀ (whole:Sem Value) (pins:List (Addr × Obj)) (s:Shared) (σ:St) (H:Hp) (Q:Bool->Hp->Prop),Inv X pins σ H s->t σ H Q->wpAny (model X.prog X.w) X.A (isTrue e X.env whole) (TP X pins σ Q) X.xe s
theorem PW.pt {X:Cx} {e:Expr} {t:TT} (h:PW X e t):PT X e t:=h _
noncomputable def PA (X:Cx) (es:List Expr) (t:TA):Prop :=
 ∀ (pos:Pos) (pins:List (Addr × Obj)) (s:Shared) (σ:St) (H:Hp) (Q:List V->Hp->Prop),Inv X pins σ H s->t σ H Q->wpAny (model X.prog X.w) X.A (spliced (backTo pos (starEach es X.env))) (AP X pins σ Q) X.xe s
noncomputable def PS (X:Cx) (st:Stmt) (t:TS):Prop :=
 ∀ (pins:List (Addr × Obj)) (s:Shared) (σ:St) (H:Hp) (D:Ends),Inv X pins σ H s->t D σ H->wpAny (model X.prog X.w) X.A (exec st X.env) (SP X pins D) X.xe s
noncomputable def O_ (X:Cx) (st:List Stmt) (t:TS):Prop :=
 ∀ (pins:List (Addr × Obj)) (s:Shared) (σ:St) (H:Hp) (D:Ends),Inv X pins σ H s->t D σ H->wpAny (model X.prog X.w) X.A (execs st X.env) (SP X pins D) X.xe s
theorem CN {α:Type} {t:Sem α} {Q Q':α->Shared->Prop} {M:Model} {A:Around} {E:Value->Shared->Prop} {s:Shared} (h:wpAny M A t Q E s) (hQ:∀ a s,Q a s->Q' a s):wpAny M A t Q' E s:=wpAny_mono h hQ fun _ _ x=>x
end L2
namespace L2
open PySem PySem.Spec PyProof.Rows
section
variable {X:Cx}
noncomputable def Mf (i:Nat):TE:=fun σ H Q=>∃ v,σ[i]? = some (some v)/\Q v H
noncomputable def tC (v:V):TE:=fun _ H Q=>Q v H
theorem Wq {i:Nat} {x:Str} {pos:Pos} (hN:X.N[i]? = some x) (hv:il X.env.scope x) (hd:(x == ("__debug__" : Str))=false:=by decide) (hcd:(x == ("__classdict__" : Str))=false:=by decide):PE X (.Name x pos) (Mf i):=by
 intro pins s σ H Q I h
 obtain ⟨v,e,h⟩:=h
 obtain ⟨m,hn,hl⟩:=I.loc
 obtain ⟨u,r,l⟩:=hl i x v hN e hv
 have fin:EP X pins σ Q u s:=⟨v,H,I,r,h⟩
 rcases l with ⟨hk,hm⟩ | ⟨hk,c,hc,hcell⟩
 ·exact wpAny_Name (wpAny_loadName_local I.ok.kind hk hn hm fin) hd
 ·rcases hk with hk | hk
  ·exact wpAny_Name (wpAny_loadName_cell I.ok.kind hk hc hcell fin) hd
  ·exact wpAny_Name (wpAny_loadName_free I.ok.kind hk hc hcell fin hcd) hd
theorem Ab {i j pos}:PE X (.Constant (.int i) j pos) (tC (.int i)):=fun _ _ _ H _ I h=>wpAny_Constant_int ⟨.int i,H,I.tok _,⟨_,rfl⟩,h⟩
theorem Es {b j pos}:PE X (.Constant (.bool b) j pos) (tC (.bl b)):=fun _ _ _ H _ I h=>Constant_bool ⟨.bl b,H,I,rfl,h⟩
theorem Ge {j pos}:PE X (.Constant .none j pos) (tC .non):=fun _ _ _ H _ I h=>Constant_none ⟨.non,H,I,rfl,h⟩
theorem Bt {x j pos}:PE X (.Constant (.str x) j pos) (tC (.str x)):=fun _ _ _ H _ I h=>Calls.Constant_str ⟨.str x,H,I.tok _,⟨_,rfl⟩,h⟩
noncomputable def Gl (X:Cx) (x:Str):Prop:=X.env.kindOf x=some .globalImplicit
theorem K7 {E:Value->Shared->Prop} {pins:List (Addr × Obj)} {s:Shared} {σ:St} {H:Hp} {x:Str} {u:Value} {pos:Pos} {Q:Value->Shared->Prop} (I:Inv X pins σ H s) (hg:Gl X x) (hm:X.mg x=some u) (h:Q u s)
  (hd:(x == ("__debug__" : Str))=false:=by decide):wpAny (model X.prog X.w) X.A (eval (.Name x pos) X.env) Q E s :=
 Calls.Name_function_global I.ok.kind hg (Calls.loadGlobal_global (by rw [I.ok.glob]; exact I.mod.glob.keeps I.bk) hm h) hd
theorem Ft {E:Value->Shared->Prop} {pins:List (Addr × Obj)} {s:Shared} {σ:St} {H:Hp} {x:Str} {u:Value} {pos:Pos} {Q:Value->Shared->Prop} (I:Inv X pins σ H s) (hg:Gl X x) (hm:X.mg x=none) (hv:bootBuiltins x=some u) (h:Q u s)
  (hn:x ≠ "__name__":=by decide) (hd:(x == ("__debug__" : Str))=false:=by decide):wpAny (model X.prog X.w) X.A (eval (.Name x pos) X.env) Q E s:=by
 obtain ⟨mb,h1,h2⟩:=I.mod.blt
 exact Calls.Name_function_global I.ok.kind hg (Calls.loadGlobal_builtin (by rw [I.ok.glob]; exact I.mod.glob.keeps I.bk) hm (by rw [I.ok.blt]; exact h1.keeps I.bk) ((h2 x hn).trans hv) h) hd
theorem Dh {x:Str} {v:V} {u:Value} {pos:Pos} (hg:Gl X x) (hm:X.mg x=some u) (r:RelV v u) (hd:(x == ("__debug__" : Str))=false:=by decide):PE X (.Name x pos) (tC v) :=
 fun _ _ _ H _ I h=>K7 I hg hm ⟨v,H,I,r,h⟩ hd
theorem DQ {x:Str} {v:V} {u:Value} {pos:Pos} (hg:Gl X x) (hm:X.mg x=none) (hv:bootBuiltins x=some u) (r:RelV v u) (hn:x ≠ "__name__":=by decide) (hd:(x == ("__debug__" : Str))=false:=by decide):PE X (.Name x pos) (tC v) :=
 fun _ _ _ H _ I h=>Ft I hg hm hv ⟨v,H,I,r,h⟩ hn hd
variable {a b:Expr} {ta tb:TE} {pos:Pos}
noncomputable def PC (X:Cx) (op:CmpOp) (a b:Expr) (t:TE):Prop :=
 ∀ (pins:List (Addr × Obj)) (s:Shared) (σ:St) (H:Hp) (Q:VK),Inv X pins σ H s->t σ H Q ->
  wpAny (model X.prog X.w) X.A (eval a X.env) (fun v s₁=>wpAny (model X.prog X.w) X.A (eval b X.env) (fun u s₂=>wpAny (model X.prog X.w) X.A (compareOp op v u) (EP X pins σ Q) X.xe s₂) X.xe s₁) X.xe s
noncomputable def tB (t:TE):TT:=fun σ H Q=>t σ H fun x H1=>∃ c,x=.bl c/\Q c H1
theorem Tf {op:CmpOp} {t:TE} (h:PC X op a b t) (h1:behindInMarks op b=false:=by first | exact nobehind _ (by decide) (by decide) | rfl):PE X (.Compare a [op] [b] pos) t:=fun pins s σ H Q I hw=>wpAny_Compare1 (h pins s σ H Q I hw) h1
theorem N8 {op:CmpOp} {t:TE} (h:PC X op a b t) (h1:behindInMarks op b=false:=by first | exact nobehind _ (by decide) (by decide) | rfl):PT X (.Compare a [op] [b] pos) (tB t):=by
 intro pins s σ H Q I hw
 refine wpAny_isTrue_Compare1 (CN (h pins s σ H _ I hw) fun v s1 h1=>CN h1 fun u s2 h2=>CN h2 fun c s3 ⟨x,H1,I1,r1,q1⟩=>?_) h1
 obtain ⟨d,rfl,q⟩:=q1
 cases r1
 exact wpAny_truthy_bool ⟨H1,I1,q⟩
theorem CV {e:Expr} {t:TE} (h:PE X e t) (he:∀ whole,isTrue e X.env whole=(do let v ← whole; standAt e.pos; holding [v] (truthy v)):=by intro _; rfl):PT X e (tB t):=by
 intro pins s σ H Q I hw
 refine isTrue_plain (CN (h pins s σ H _ I hw) fun v s1 ⟨x,H1,I1,r1,q1⟩=>?_) (he _)
 obtain ⟨d,rfl,q⟩:=q1
 cases r1
 exact wpAny_truthy_bool ⟨H1,I1,q⟩
variable {tA tB':TT} {rest:List Expr}
noncomputable def iR (t u:TT):TT:=fun σ H Q=>t σ H fun c H1=>if c=true then u σ H1 Q else Q false H1
noncomputable def gm (t u:TT):TT:=fun σ H Q=>t σ H fun c H1=>if c=true then Q true H1 else u σ H1 Q
noncomputable def iQ (t:TT):TT:=fun σ H Q=>t σ H fun c H1=>Q (!c) H1
theorem Ht (ha:PT X a tA):PW X (.BoolOp .And [a] pos) tA:=by
 intro wh pins s σ H Q I h
 refine isTrue_and (CN (ha pins s σ H Q I h) fun c s1 e=>?_)
 cases c with
 | true=>exact isTrue_and_nil e
 | false=>exact e
theorem Eb (ha:PT X a tA):PW X (.BoolOp .Or [a] pos) tA:=by
 intro wh pins s σ H Q I h
 refine isTrue_or (CN (ha pins s σ H Q I h) fun c s1 e=>?_)
 cases c with
 | false=>exact isTrue_or_nil e
 | true=>exact e
theorem Im (ha:PT X a tA) (hb:PW X (.BoolOp .And (b::rest) pos) tB'):PW X (.BoolOp .And (a::b::rest) pos) (iR tA tB'):=by
 intro wh pins s σ H Q I h
 refine isTrue_and (CN (ha pins s σ H _ I h) fun c s1 hq0=>?_)
 obtain ⟨H1,I1,q1⟩:=hq0
 cases c with
 | true=>exact hb wh pins s1 σ H1 Q I1 q1
 | false=>exact ⟨H1,I1,q1⟩
theorem Dm (ha:PT X a tA) (hb:PW X (.BoolOp .Or (b::rest) pos) tB'):PW X (.BoolOp .Or (a::b::rest) pos) (gm tA tB'):=by
 intro wh pins s σ H Q I h
 refine isTrue_or (CN (ha pins s σ H _ I h) fun c s1 hq0=>?_)
 obtain ⟨H1,I1,q1⟩:=hq0
 cases c with
 | true=>exact ⟨H1,I1,q1⟩
 | false=>exact hb wh pins s1 σ H1 Q I1 q1
theorem CJ (ha:PT X a tA):PT X (.UnaryOp .Not a pos) (iQ tA):=by
 intro pins s σ H Q I h
 exact isTrue_not (ha pins s σ H (fun c H1=>Q (!c) H1) I h)
noncomputable def aq (ta tb:TE):TE:=fun σ H Q=>ta σ H fun x H1=>∃ c,x=.bl c/\if c=true then tb σ H1 Q else Q (.bl false) H1
noncomputable def jP (ta tb:TE):TE:=fun σ H Q=>ta σ H fun x H1=>∃ c,x=.bl c/\if c=true then Q (.bl true) H1 else tb σ H1 Q
noncomputable def YZ (ta:TE):TE:=fun σ H Q=>ta σ H fun x H1=>∃ c,x=.bl c/\Q (.bl (!c)) H1
theorem Ds {op} {t:TE} (h:PE X a t):PE X (.BoolOp op [a] pos) t:=fun pins s σ H Q I hw=>BoolOp_one (h pins s σ H Q I hw)
theorem Dw (ha:PE X a ta) (hb:PE X (.BoolOp .And (b::rest) pos) tb):PE X (.BoolOp .And (a::b::rest) pos) (aq ta tb):=by
 intro pins s σ H Q I h
 refine BoolOp_and (CN (ha pins s σ H _ I h) fun v s1 hq0=>?_)
 obtain ⟨x,H1,I1,r1,q1⟩:=hq0
 obtain ⟨c,rfl,q1⟩:=q1
 cases r1
 refine wpAny_truthy_bool ?_
 cases c with
 | true=>exact hb pins s1 σ H1 Q I1 q1
 | false=>exact ⟨.bl false,H1,I1,rfl,q1⟩
theorem Zk (ha:PE X a ta) (hb:PE X (.BoolOp .Or (b::rest) pos) tb):PE X (.BoolOp .Or (a::b::rest) pos) (jP ta tb):=by
 intro pins s σ H Q I h
 refine BoolOp_or (CN (ha pins s σ H _ I h) fun v s1 hq0=>?_)
 obtain ⟨x,H1,I1,r1,q1⟩:=hq0
 obtain ⟨c,rfl,q1⟩:=q1
 cases r1
 refine wpAny_truthy_bool ?_
 cases c with
 | false=>exact hb pins s1 σ H1 Q I1 q1
 | true=>exact ⟨.bl true,H1,I1,rfl,q1⟩
theorem Oq (ha:PE X a ta):PE X (.UnaryOp .Not a pos) (YZ ta):=by
 intro pins s σ H Q I h
 refine UnaryOp_ (CN (ha pins s σ H _ I h) fun v s1 hq0=>?_)
 obtain ⟨x,H1,I1,r1,q1⟩:=hq0
 obtain ⟨c,rfl,q1⟩:=q1
 cases r1
 exact not_of (wpAny_truthy_bool ⟨.bl (!c),H1,I1,rfl,q1⟩)
noncomputable def k_ (t:TT) (ta tb:TE):TE:=fun σ H Q=>t σ H fun c H1=>if c=true then ta σ H1 Q else tb σ H1 Q
theorem Jj {c:Expr} (hc:PT X c tA) (ha:PE X a ta) (hb:PE X b tb):PE X (.IfExp c a b pos) (k_ tA ta tb):=by
 intro pins s σ H Q I h
 refine wpAny_IfExp (CN (hc pins s σ H _ I h) fun d s1 hq0=>?_)
 obtain ⟨H1,I1,q1⟩:=hq0
 cases d with
 | true=>exact ha pins s1 σ H1 Q I1 q1
 | false=>exact hb pins s1 σ H1 Q I1 q1
end
end L2
namespace L2
open PySem PySem.Spec PyProof.Rows
noncomputable def CP (K:PySem.W.Frag) (H:Hp) (a:Addr) (xs:List V):Prop :=
 Rd H a (.lst xs) \/
  ∃ (o:Obj) (its:Array Value) (n:Nat),K.lookup a=some o/\o.cls=.type "list" /\ o.dict=none/\o.data=.seq its n/\its.size<=sizeLine/\Vals xs its.toList
noncomputable def Hf (K:PySem.W.Frag) (H:Hp) (a:Addr) (xs:List V):Prop :=
 Rd H a (.tup xs) \/
  ∃ (o:Obj) (its:Array Value) (n:Nat),K.lookup a=some o/\o.cls=.type "tuple" /\ o.data=.seq its n/\its.size<=sizeLine/\Vals xs its.toList
noncomputable def jx:Value->Option V
 | .none=>some .non
 | .bool b=>some (.bl b)
 | .int i _=>some (.int i)
 | .str x _=>some (.str x)
 | .bytes b _=>some (.byt b)
 | .float b _=>some (.flt b)
 | .ref a=>some (.ref a)
 | .type n=>some (.ty n)
 | _=>none
theorem RelV.abs {x:V} {u:Value} (r:RelV x u):jx u=some x:=by
 cases x with
 | non=>cases r; rfl
 | bl _=>cases r; rfl
 | int _=>obtain ⟨t,rfl⟩:=r; rfl
 | str _=>obtain ⟨t,rfl⟩:=r; rfl
 | byt _=>obtain ⟨t,rfl⟩:=r; rfl
 | flt _=>obtain ⟨t,rfl⟩:=r; rfl
 | ref _=>cases r; rfl
 | ty _=>cases r; rfl
theorem RelV.inj {x y:V} {u:Value} (r:RelV x u) (q:RelV y u):x=y:=Option.some.inj (r.abs.symm.trans q.abs)
theorem Vals.inj:∀ {xs ys:List V} {us:List Value},Vals xs us->Vals ys us->xs=ys
 | _,_,_,.nil,.nil=>rfl
 | _,_,_,.cons r t,.cons r' t'=>by rw [r.inj r',Vals.inj t t']
section
variable {X:Cx} {pins:List (Addr × Obj)} {σ:St} {H:Hp} {s:Shared} {a:Addr} {xs ys:List V}
theorem Inv.list (I:Inv X pins σ H s) (h:CP X.K H a xs):∃ its:List Value,Vals xs its/\PlainL s.heap a its.toArray/\xs.length<=sizeLine:=by
 rcases h with h | ⟨o,its,n,hk,hc,hd,hs,hz,r⟩
 ·obtain ⟨z,its,n,r,e⟩:=h.ok I.hok
  exact ⟨its,r,⟨_,n,e,rfl,rfl,rfl⟩,z⟩
 ·refine ⟨its.toList,r,⟨o,n,I.Ii a o hk,hc,hd,by simpa using hs⟩,?_⟩
  have e:=r.length
  simp only [Array.length_toList] at e
  omega
theorem Inv.tuple (I:Inv X pins σ H s) (h:Hf X.K H a xs):∃ its:List Value,Vals xs its/\IsTup s.heap a its.toArray/\xs.length<=sizeLine:=by
 rcases h with h | ⟨o,its,n,hk,hc,hs,hz,r⟩
 ·obtain ⟨z,its,r,p⟩:=h.ok I.hok
  exact ⟨its,r,p,z⟩
 ·refine ⟨its.toList,r,⟨o,I.Ii a o hk,hc,n,by simpa using hs⟩,?_⟩
  have e:=r.length
  simp only [Array.length_toList] at e
  omega
theorem Inv.Hw (I:Inv X pins σ H s) (h:CP X.K H a xs) (h':CP X.K H a ys):xs=ys:=by
 obtain ⟨its,r,⟨o,n,e,_,_,d⟩,_⟩:=I.list h
 obtain ⟨its',r',⟨o',n',e',_,_,d'⟩,_⟩:=I.list h'
 rw [e] at e'; cases e'
 rw [d] at d'
 injection d' with d1 _
 have:its=its':=by simpa using congrArg Array.toList d1
 subst this
 exact r.inj r'
theorem Inv.Iv (I:Inv X pins σ H s) (h:Hf X.K H a xs) (h':Hf X.K H a ys):xs=ys:=by
 obtain ⟨its,r,⟨o,e,_,n,d⟩,_⟩:=I.tuple h
 obtain ⟨its',r',⟨o',e',_,n',d'⟩,_⟩:=I.tuple h'
 rw [e] at e'; cases e'
 rw [d] at d'
 injection d' with d1 _
 have:its=its':=by simpa using congrArg Array.toList d1
 subst this
 exact r.inj r'
end
noncomputable abbrev Cx.wish (X:Cx) (E:Value->Shared->Prop):Cx:={ X with xe:=E }
noncomputable abbrev Cx.YB (X:Cx):Cx:=X.wish fun _ _=>False
theorem Cx.Ok.wish {X:Cx} (ok:X.Ok) (E:Value->Shared->Prop):(X.wish E).Ok :=
 ⟨ok.mod,ok.kind,ok.glob,ok.blt,ok.above,ok.inj,ok.has,ok.cab,ok.hd,ok.frames,ok.stk,ok.exf,ok.bs,ok.bsz,ok.noex,ok.exfs,ok.JR,ok.frf⟩
theorem Cx.Ok.Gw {X:Cx} {E:Value->Shared->Prop} (ok:(X.wish E).Ok):X.Ok :=
 ⟨ok.mod,ok.kind,ok.glob,ok.blt,ok.above,ok.inj,ok.has,ok.cab,ok.hd,ok.frames,ok.stk,ok.exf,ok.bs,ok.bsz,ok.noex,ok.exfs,ok.JR,ok.frf⟩
section
variable {X:Cx} {pins:List (Addr × Obj)} {σ:St} {H:Hp} {s:Shared} {E:Value->Shared->Prop}
theorem Inv.wish (I:Inv X pins σ H s) (E:Value->Shared->Prop):Inv (X.wish E) pins σ H s:=⟨I.ok.wish E,I.os,I.bare,I.base,I.loc,I.cell,I.free,I.freeC,I.pin,I.hok,I.len⟩
theorem Inv.Gw (I:Inv (X.wish E) pins σ H s):Inv X pins σ H s:=⟨I.ok.Gw,I.os,I.bare,I.base,I.loc,I.cell,I.free,I.freeC,I.pin,I.hok,I.len⟩
theorem SP.Gw {D:Ends} {f:Flow} {s':Shared} (h:SP (X.wish E) pins D f s'):SP X pins D f s':=by
 cases f with
 | next=>obtain ⟨σ',H',I,q⟩:=h; exact ⟨σ',H',I.Gw,q⟩
 | brk=>obtain ⟨σ',H',I,q⟩:=h; exact ⟨σ',H',I.Gw,q⟩
 | cont=>obtain ⟨σ',H',I,q⟩:=h; exact ⟨σ',H',I.Gw,q⟩
 | ret u=>obtain ⟨v,σ',H',I,r,q⟩:=h; exact ⟨v,σ',H',I.Gw,r,q⟩
theorem O_.YB {st:List Stmt} {t:TS} (h:O_ X.YB st t):O_ X st t:=fun pins s σ H D I hw =>
 wpAny_mono (h pins s σ H D (I.wish _) hw) (fun _ _ q=>q.Gw) fun _ _ z=>False.elim z
end
section
variable {X:Cx} {st:Stmt} {rest:List Stmt} {t u:TS} {e:Expr} {te:TE} {pos:Pos}
noncomputable def bx:TS:=fun D σ H=>D.nx σ H
noncomputable def Vs (t u:TS):TS:=fun D σ H=>t { D with nx:=u D } σ H
theorem Bb:O_ X [] bx:=fun _ _ σ H _ I h=>wpAny_execs_nil ⟨σ,H,I,h⟩
theorem Ae (h1:PS X st t) (h2:O_ X rest u):O_ X (st::rest) (Vs t u):=by
 intro pins s σ H D I h
 refine wpAny_execs_cons (CN (h1 pins s σ H { D with nx:=u D } I h) fun f s1 q=>?_)
 cases f with
 | next =>
  obtain ⟨σ',H',I',q⟩:=q
  exact h2 pins s1 σ' H' D I' q
 | ret v=>exact q
 | brk=>exact q
 | cont=>exact q
theorem Ah (h1:PS X st t):O_ X [st] t:=by
 intro pins s σ H D I h
 refine wpAny_execs_cons (CN (h1 pins s σ H D I h) fun f s1 q=>?_)
 cases f with
 | next=>exact wpAny_execs_nil q
 | ret v=>exact q
 | brk=>exact q
 | cont=>exact q
noncomputable def Xl:TS:=fun D σ H=>D.bk σ H
theorem Rm:PS X (.Break pos) Xl:=fun _ _ σ H _ I h=>wpAny_Break ⟨σ,H,I,h⟩
theorem Inv.quiet {pins:List (Addr × Obj)} {σ:St} {H:Hp} {s:Shared} (I:Inv X pins σ H s):interactive X.env=false:=by simp [interactive,I.ok.kind]
noncomputable def Ze (te:TE):TS:=fun D σ H=>te σ H fun _ H1=>D.nx σ H1
theorem C_ (he:PE X e te) (hs:swapsWith e none pos.line X.env=pure false:=by rfl):PS X (.Expr e pos) (Ze te):=by
 intro pins s σ H D I h
 exact wpAny_Expr_any (CN (he pins s σ H _ I h) fun v s1 ⟨x,H1,I1,r1,q1⟩=>⟨σ,H1,I1,q1⟩) I.quiet hs
noncomputable def bw (te:TE):TS:=fun D σ H=>te σ H D.rt
theorem Aw (he:PE X e te):PS X (.Return (some e) pos) (bw te):=by
 intro pins s σ H D I h
 exact wpAny_Return_some (CN (he pins s σ H _ I h) fun v s1 ⟨x,H1,I1,r1,q1⟩=>⟨x,σ,H1,I1,r1,q1⟩)
noncomputable def W5 (c:TT) (t u:TS):TS:=fun D σ H=>c σ H fun b H1=>if b=true then t D σ H1 else u D σ H1
theorem Br {c:Expr} {a b:List Stmt} {tc:TT} (hc:PT X c tc) (ha:O_ X a t) (hb:O_ X b u):PS X (.If c a b pos) (W5 tc t u):=by
 intro pins s σ H D I h
 refine wpAny_If (CN (hc pins s σ H _ I h) fun d s1 hq0=>?_)
 obtain ⟨H1,I1,q1⟩:=hq0
 cases d with
 | true=>exact ha pins s1 σ H1 D I1 q1
 | false=>exact hb pins s1 σ H1 D I1 q1
noncomputable def Wv:TS:=fun _ _ _=>False
theorem Gy:PS X st Wv:=fun _ _ _ _ _ _ h=>h.elim
end
noncomputable abbrev TG:=V->St->Hp->(St->Hp->Prop)->Prop
noncomputable abbrev U4:=List V->St->Hp->(St->Hp->Prop)->Prop
noncomputable def PG (X:Cx) (target:Expr) (t:TG):Prop :=
 ∀ (pins:List (Addr × Obj)) (s:Shared) (σ:St) (H:Hp) (v:V) (u:Value) (Q:St->Hp->Prop),Inv X pins σ H s->RelV v u->t v σ H Q ->
  wpAny (model X.prog X.w) X.A (assign target X.env u) (fun _ s'=>∃ σ' H',Inv X pins σ' H' s'/\Q σ' H') X.xe s
noncomputable def Yd (X:Cx) (ts:List Expr) (t:U4):Prop :=
 ∀ (pins:List (Addr × Obj)) (s:Shared) (σ:St) (H:Hp) (vs:List V) (us:List Value) (Q:St->Hp->Prop),Inv X pins σ H s->Vals vs us->t vs σ H Q ->
  wpAny (model X.prog X.w) X.A (assignInOrder ((assignEach ts X.env).map (·.2)) us) (fun _ s'=>∃ σ' H',Inv X pins σ' H' s'/\Q σ' H') X.xe s
section
variable {X:Cx} {pos:Pos}
noncomputable def Dg (i:Nat):TG:=fun v σ H Q=>Q (σ.set i (some v)) H
theorem Bd {i:Nat} {x:Str} (hN:X.N.Nodup) (hi:X.N[i]? = some x) (hx:Loc X.env.scope x) (hf:X.fn x=true \/ X.env.scope.names.lookup x=some .local:=by first | exact .inl rfl | exact .inr rfl | assumption):PG X (.Name x pos) (Dg i):=by
 intro pins s σ H v u Q I r h
 exact wpAny_assign_Name (Jp I hN hi hx r (fun s' I'=>⟨_,H,I',h⟩) hf)
noncomputable def Tu:U4:=fun vs σ H Q=>vs=[]/\Q σ H
noncomputable def H_ (t:TG) (u:U4):U4:=fun vs σ H Q=>∃ v r,vs=v::r/\t v σ H fun σ' H'=>u r σ' H' Q
theorem Ea:Yd X [] Tu:=by
 intro pins s σ H vs us Q I r h
 obtain ⟨e,h⟩:=h
 subst e
 cases r
 exact assignInOrder_nil ⟨σ,H,I,h⟩
theorem Bf {e:Expr} {es:List Expr} {t:TG} {u:U4} (h1:PG X e t) (h2:Yd X es u)
  (hs:(assignEach (e::es) X.env).map (·.2)=assign e X.env::(assignEach es X.env).map (·.2):=by rfl):Yd X (e::es) (H_ t u):=by
 intro pins s σ H vs us Q I r h
 obtain ⟨v,vr,e1,h⟩:=h
 subst e1
 cases r with
 | cons r rr =>
  rw [hs]
  refine assignInOrder_cons (CN (h1 pins s σ H _ _ _ I r h) fun _ s1 hq0=>?_)
  obtain ⟨σ1,H1,I1,q1⟩:=hq0
  exact h2 pins s1 σ1 H1 _ _ Q I1 rr q1
noncomputable def Sh (K:PySem.W.Frag) (n:Nat) (t:U4):TG:=fun v σ H Q=>∃ a xs,v=.ref a/\Hf K H a xs/\xs.length=n/\t xs σ H Q
theorem Fz {es:List Expr} {k:Nat} {t:U4} {n:Nat} (hc:X.calm=true) (h:Yd X es t)
  (hn:(assignEach es X.env).length=n:=by rfl) (hst:(assignEach es X.env).findIdx? (·.1)=none:=by rfl):PG X (.Tuple es k pos) (Sh X.K n t):=by
 intro pins s σ H v u Q I r hw
 obtain ⟨a,xs,e1,hq,hl,hw⟩:=hw
 subst e1
 cases r
 obtain ⟨its,rv,ht,hz⟩:=I.tuple hq
 refine assign_Tuple_tuple (I.ok.hd hc) ht (by simp [hn,← hl,rv.length]) hst fun h' hx=>?_
 have I1:Inv X pins σ H { s with heap:=h' }:=I.kept (t':=s.toks) fun b o e=>hx b o (Nat.ne_of_lt (Heap.lt_size e)) e
 exact h pins _ σ H xs _ Q I1 (by simpa using rv) hw
noncomputable def Uu (te:TE) (g:TG):TS:=fun D σ H=>te σ H fun x H1=>g x σ H1 D.nx
theorem Ot {tg e:Expr} {te:TE} {g:TG} (he:PE X e te) (hg:PG X tg g) (hs:swapsWithSole [tg] e pos.line X.env=pure false:=by rfl) (hw:swappedStores [tg] e X.env=pure none:=by rfl)
  (h1:(assignEach [tg] X.env).map (·.2)=[assign tg X.env]:=by rfl):PS X (.Assign [tg] e pos) (Uu te g):=by
 intro pins s σ H D I h
 refine wpAny_Assign_stores (CN (he pins s σ H _ I h) fun v s1 ⟨x,H1,I1,r1,q1⟩=>?_) hs hw
 rw [h1]
 exact CN (hg pins s1 σ H1 x v _ I1 r1 q1) fun _ s2 q=>q
theorem Az {i:Nat} {x:Str} {e:Expr} {te:TE} {pos':Pos} (hN:X.N.Nodup) (hi:X.N[i]? = some x) (hx:Loc X.env.scope x) (he:PE X e te) (hs:swapsWith e (some (.Name x pos')) pos.line X.env=pure false:=by rfl) (hf:X.fn x=true \/ X.env.scope.names.lookup x=some .local:=by first | exact .inl rfl | exact .inr rfl | assumption) :
  PS X (.Assign [.Name x pos'] e pos) (Uu te (Dg i)):=by
 intro pins s σ H D I h
 refine wpAny_Assign_Name (CN (he pins s σ H _ I h) fun v s1 ⟨y,H1,I1,r1,q1⟩=>?_) hs
 exact Jp I1 hN hi hx r1 (fun s2 I2=>⟨_,H1,I2,q1⟩) hf
end
section
variable {X:Cx} {pos:Pos}
noncomputable def Lj (c:TT) (tb:TS):TS:=fun D σ H=>∃ W:Nat->St->Hp->Prop,(∃ m,W m σ H)/\∀ m σ H,W m σ H ->
 c σ H fun b H1=>if b=true then ∃ N:St->Hp->Prop,(∀ σ' H',N σ' H'->∃ m',m'<m/\W m' σ' H')/\tb { D with nx:=N,ct:=N,bk:=D.nx } σ H1 else D.nx σ H1
theorem Jv {c:Expr} {body:List Stmt} {tc:TT} {tb:TS} (hp:PassesOwn (model X.prog X.w) X.A X.env X.xe) (hc:PT X c tc) (hb:O_ X body tb):PS X (.While c body [] pos) (Lj tc tb):=by
 intro pins s σ H D I h
 obtain ⟨W,⟨m0,w0⟩,turn⟩:=h
 refine wpAny_While (codeAny_whileLoop (fun n s'=>∃ σ' H',Inv X pins σ' H' s'/\W n σ' H') ?_ m0 ⟨σ,H,I,w0⟩)
 rintro n s1 ⟨σ1,H1,I1,w1⟩
 refine wpAny_passesOwn hp (CN (hc pins s1 σ1 H1 _ I1 (turn n σ1 H1 w1)) fun b s2 hq0=>?_)
 obtain ⟨H2,I2,q2⟩:=hq0
 cases b with
 | true =>
  obtain ⟨N,hN,q2⟩:=q2
  rw [if_pos rfl]
  refine wpAny_passesOwn hp (CN (hb pins s2 σ1 H2 _ I2 q2) fun f s3 q3=>?_)
  cases f with
  | next =>
   obtain ⟨σ3,H3,I3,n3⟩:=q3
   obtain ⟨m',hm,w3⟩:=hN σ3 H3 n3
   exact ⟨m',hm,σ3,H3,I3,w3⟩
  | cont =>
   obtain ⟨σ3,H3,I3,n3⟩:=q3
   obtain ⟨m',hm,w3⟩:=hN σ3 H3 n3
   exact ⟨m',hm,σ3,H3,I3,w3⟩
  | brk=>exact q3
  | ret v=>exact q3
 | false =>
  rw [if_neg Bool.false_ne_true]
  exact wpAny_execs_nil ⟨σ1,H2,I2,q2⟩
end
structure It where
 go:Nat->Hp->Prop
 yld:Nat->Hp->V->Hp->Prop
 stop:Nat->Hp->Prop
noncomputable def Gj (X:Cx) (pins:List (Addr × Obj)) (H:Hp) (b:Addr):Prop :=
 H b=none/\b ≠ X.env.locals/\b ∉ X.fs/\(b∈X.ex \/ X.s₀.heap.objs.size<=b)/\(∀ x c,X.env.cells.lookup x=some c->c ≠ b)/\∀ p∈X.pn++pins,p.1 ≠ b
theorem Inv.KQ {X:Cx} {pins:List (Addr × Obj)} {σ:St} {H H':Hp} {s:Shared} {b:Addr} (I:Inv X pins σ H s) (hb:s.heap.objs.size<=b) (hn:H' b=none):Gj X pins H' b:=by
 refine ⟨hn,Nat.ne_of_gt (Nat.lt_of_lt_of_le I.lt hb),I.jC hb,.inr (Nat.le_trans I.sz hb),fun x c e z=>?_,fun p hp z=>?_⟩
 ·obtain ⟨v,q⟩:=I.cell x c e
  exact absurd (Nat.lt_of_lt_of_le q.lt (by rw [z]; exact hb)) (Nat.lt_irrefl _)
 ·exact absurd (Nat.lt_of_lt_of_le (Heap.lt_size (I.pin p hp).1) (by rw [z]; exact hb)) (Nat.lt_irrefl _)
structure Turn (P:Program) (w:World) (K:PySem.W.Frag) (tg:Expr) (J:It) (fp:List Addr) (it:Addr) (tn:Nat->Heap->Prop):Prop where
 mem:it∈fp
 obj:∀ i h,tn i h->∀ b∈fp,∃ o,h.get? b=some o/\∀ v,o.data ≠ .cell v
 keep:∀ i h h',tn i h->(∀ b∈fp,∀ o,h.get? b=some o->h'.get? b=some o)->tn i h'
 item:∀ (X:Cx),X.prog=P->X.w=w->X.K=K->X.calm=true->∀ (i:Nat) (pins:List (Addr × Obj)) (s:Shared) (σ:St) (H:Hp) (E:Value->Shared->Prop),Inv X pins σ H s->(∀ b∈fp,Gj X pins H b)->tn i s.heap->J.go i H ->
  wpAny (model P w) X.A (pyNext (.ref it)) (fun r s1=>∃ u,r=some u /\
   wpAny (model P w) X.A (letOwnedTupleGo tg (.ref it) u) (fun _ s2=>∃ x H',Inv X pins σ H' s2/\RelV x u/\J.yld i H x H'/\tn (i+1) s2.heap/\∀ b∈fp,H' b=none) E s1) E s
 done:∀ (X:Cx),X.prog=P->X.w=w->X.K=K->X.calm=true->∀ (i:Nat) (pins:List (Addr × Obj)) (s:Shared) (σ:St) (H:Hp) (E:Value->Shared->Prop),Inv X pins σ H s->(∀ b∈fp,Gj X pins H b)->tn i s.heap->J.stop i H ->
  wpAny (model P w) X.A (pyNext (.ref it)) (fun r s1=>r=none/\Inv X pins σ H s1) E s
 self:∀ (A:Around) (i:Nat) (s:Shared) (Q:Value->Shared->Prop) (E:Value->Shared->Prop),tn i s.heap->Q (.ref it) s->wpAny (model P w) A (pyIter (.ref it)) Q E s
noncomputable abbrev TI:=St->Hp->(It->Hp->Prop)->Prop
noncomputable def PIE (X:Cx) (pins:List (Addr × Obj)) (σ:St) (tg:Expr) (R:It->Hp->Prop) (itv:Value) (s2:Shared):Prop :=
 ∃ (it:Addr) (fp:List Addr) (tn:Nat->Heap->Prop) (J:It) (H':Hp),itv=.ref it/\Inv X pins σ H' s2/\Turn X.prog X.w X.K tg J fp it tn/\tn 0 s2.heap/\(∀ b∈fp,Gj X pins H' b)/\R J H'
noncomputable def PI (X:Cx) (tg iter:Expr) (wi:TI):Prop :=
 ∀ (pins:List (Addr × Obj)) (s:Shared) (σ:St) (H:Hp) (R:It->Hp->Prop),Inv X pins σ H s->wi σ H R ->
  wpAny (model X.prog X.w) X.A (eval iter X.env) (fun v s1=>wpAny (model X.prog X.w) X.A (pyIter v) (PIE X pins σ tg R) X.xe s1) X.xe s
theorem Mg {M:Model} {A:Around} {E:Value->Shared->Prop} {s:Shared} {tg:Expr} {it:Addr} {u:Value} {o:Obj} {n:String} {vs:Array Value} {Q:Unit->Shared->Prop} (ho:s.heap.get? it=some o) (hc:o.cls=.type n) (hd:o.data=.fields vs)
  (hn:["enumerate","zip","dict_itemiterator","dict_reverseitemiterator","odict_iterator","itertools.zip_longest","itertools.pairwise"].contains n=false) (hQ:Q () s):wpAny M A (letOwnedTupleGo tg (.ref it) u) Q E s:=by
 unfold letOwnedTupleGo
 cases tg <;> first
  | exact wpAny_pure hQ
  | (cases u <;> first
    | exact wpAny_pure hQ
    | (refine wpAny_bind (wpAny_load ho ?_)
       rw [hc,hd]
       show wpAny M A (if (["enumerate","zip","dict_itemiterator","dict_reverseitemiterator","odict_iterator","itertools.zip_longest","itertools.pairwise"].contains n && vs[0]? == some (rawInt _))=true then _ else _) Q E s
       rw [if_neg (by intro h; rw [hn,Bool.false_and] at h; cases h)]
       exact wpAny_pure hQ))
noncomputable def Wk (K:PySem.W.Frag) (a:Addr):It :=
 ⟨fun i H=>∃ xs x,CP K H a xs/\xs[i]? = some x,fun i H x H'=>H'=H/\∀ xs,CP K H a xs->xs[i]? = some x,fun i H=>∃ xs,CP K H a xs/\xs.length<=i⟩
noncomputable def kE (K:PySem.W.Frag) (a:Addr):It :=
 ⟨fun i H=>∃ xs x,Hf K H a xs/\xs[i]? = some x,fun i H x H'=>H'=H/\∀ xs,Hf K H a xs->xs[i]? = some x,fun i H=>∃ xs,Hf K H a xs/\xs.length<=i⟩
noncomputable def Wj (lo:Int) (n:Nat):It:=⟨fun i _=>i<n,fun i H x H'=>H'=H/\x=.int (lo+i),fun i _=>n<=i⟩
theorem Qt {P:Program} {w:World} {K:PySem.W.Frag} {tg:Expr} (a it:Addr):Turn P w K tg (Wk K a) [it] it (fun i h=>h.IsListIter it a i) where
 mem:=by simp
 obj:=fun i h st b hb=>by
  have e:b=it:=by simpa using hb
  subst e
  obtain ⟨o,e,c,d⟩:=st
  exact ⟨o,e,fun v z=>by rw [d] at z; cases z⟩
 keep:=fun i h h' st k=>st.at fun o e=>k it (by simp) o e
 item:=by
  intro X hP hw hK hc i pins s σ H E I hf st hg
  subst hP hw hK
  obtain ⟨xs,x,hq,hx⟩:=hg
  obtain ⟨its,rv,p,hz⟩:=I.list hq
  obtain ⟨u,hu,ru⟩:=rv.get hx
  obtain ⟨f0,f1,f2,f3,f4,f5⟩:=hf it (by simp)
  refine wpAny_pyNext_list_item st p.isList (x:=u) (by simpa using hu) fun h' st' sb=>?_
  have I1:Inv X pins σ H { s with heap:=h' }:=I.turned (t':=s.toks) (fun b o hb e=>(sb.2 b hb).trans e) f0 f1 f3 f4 f5
  obtain ⟨o,e,c,d⟩:=id st'
  exact ⟨u,rfl,Mg (s:={ s with heap:=h' }) e c d (by decide) ⟨x,H,I1,ru,⟨rfl,fun ys hy=>by rw [I.Hw hy hq]; exact hx⟩,st',fun b hb=>(hf b hb).1⟩⟩
 done:=by
  intro X hP hw hK hc i pins s σ H E I hf st hg
  subst hP hw hK
  obtain ⟨xs,hq,hx⟩:=hg
  obtain ⟨its,rv,p,hz⟩:=I.list hq
  obtain ⟨f0,f1,f2,f3,f4,f5⟩:=hf it (by simp)
  have hl:=rv.length
  exact wpAny_pyNext_list_end (I.ok.hd hc) st p.isList (by simp; omega) fun h' eb=>⟨rfl,I.turned (t':=s.toks) (fun b o hb e=>eb b o hb e) f0 f1 f3 f4 f5⟩
 self:=fun _ _ _ _ _ st h=>wpAny_pyIter_listiter st h
theorem Nj {P:Program} {w:World} {K:PySem.W.Frag} {tg:Expr} (a it:Addr):Turn P w K tg (kE K a) [it] it (fun i h=>h.IsTupleIter it a i) where
 mem:=by simp
 obj:=fun i h st b hb=>by
  have e:b=it:=by simpa using hb
  subst e
  obtain ⟨o,e,c,d⟩:=st
  exact ⟨o,e,fun v z=>by rw [d] at z; cases z⟩
 keep:=fun i h h' st k=>st.at fun o e=>k it (by simp) o e
 item:=by
  intro X hP hw hK hc i pins s σ H E I hf st hg
  subst hP hw hK
  obtain ⟨xs,x,hq,hx⟩:=hg
  obtain ⟨its,rv,p,hz⟩:=I.tuple hq
  obtain ⟨u,hu,ru⟩:=rv.get hx
  obtain ⟨f0,f1,f2,f3,f4,f5⟩:=hf it (by simp)
  refine wpAny_pyNext_tuple_item st (show s.heap.IsTuple a its.toArray from p) (x:=u) (by simpa using hu) fun h' st' sb=>?_
  have I1:Inv X pins σ H { s with heap:=h' }:=I.turned (t':=s.toks) (fun b o hb e=>(sb.2 b hb).trans e) f0 f1 f3 f4 f5
  obtain ⟨o,e,c,d⟩:=id st'
  exact ⟨u,rfl,Mg (s:={ s with heap:=h' }) e c d (by decide) ⟨x,H,I1,ru,⟨rfl,fun ys hy=>by rw [I.Iv hy hq]; exact hx⟩,st',fun b hb=>(hf b hb).1⟩⟩
 done:=by
  intro X hP hw hK hc i pins s σ H E I hf st hg
  subst hP hw hK
  obtain ⟨xs,hq,hx⟩:=hg
  obtain ⟨its,rv,p,hz⟩:=I.tuple hq
  obtain ⟨f0,f1,f2,f3,f4,f5⟩:=hf it (by simp)
  have hl:=rv.length
  exact wpAny_pyNext_tuple_end (I.ok.hd hc) st (show s.heap.IsTuple a its.toArray from p) (by simp; omega) fun h' eb=>⟨rfl,I.turned (t':=s.toks) (fun b o hb e=>eb b o hb e) f0 f1 f3 f4 f5⟩
 self:=fun _ _ _ _ _ st h=>wpAny_pyIter_tupleiter st h
theorem OJ {P:Program} {w:World} {K:PySem.W.Frag} {tg:Expr} (it:Addr) (lo:Int) (n:Nat):Turn P w K tg (Wj lo n) [it] it (fun i h=>IsRangeIter h it (lo+(i:Nat) * 1) ((n:Int) - (i:Nat)) 1) where
 mem:=by simp
 obj:=fun i h st b hb=>by
  have e:b=it:=by simpa using hb
  subst e
  exact ⟨_,st,fun v z=>by
   have z':Data.fields _=Data.cell v:=z
   cases z'⟩
 keep:=fun i h h' st k=>k it (by simp) _ st
 item:=by
  intro X hP hw hK hc i pins s σ H E I hf st hg
  subst hP hw hK
  obtain ⟨f0,f1,f2,f3,f4,f5⟩:=hf it (by simp)
  have W:=Walks.range (prog:=X.prog) (w:=X.w) (I.ok.hd hc) it lo 1 n
  refine W.item i s _ _ hg st fun v h' tk hv st' kk=>?_
  obtain ⟨t,rfl⟩:=hv
  have I1:Inv X pins σ H { s with heap:=h',toks:=tk }:=I.turned (fun b o hb e=>kk b o (by simpa using hb) e) f0 f1 f3 f4 f5
  refine ⟨_,rfl,Mg (s:={ s with heap:=h',toks:=tk }) (n:="range_iterator") st' rfl rfl (by decide) ⟨.int (lo+i),H,I1,⟨t,?_⟩,⟨rfl,rfl⟩,st',fun b hb=>(hf b hb).1⟩⟩
  rw [Int.mul_one]
 done:=by
  intro X hP hw hK hc i pins s σ H E I hf st hg
  subst hP hw hK
  obtain ⟨f0,f1,f2,f3,f4,f5⟩:=hf it (by simp)
  exact wpAny_pyNext_range_end (I.ok.hd hc) st (by have:n<=i:=hg; omega) fun h' eb=>⟨rfl,I.turned (t':=s.toks) (fun b o hb e=>eb b o hb e) f0 f1 f3 f4 f5⟩
 self:=fun _ _ _ _ _ st h=>wpAny_pyIter_rangeiter st h
end L2
namespace L2
open PySem PySem.Spec PyProof.Rows
section
variable {X:Cx} {tg:Expr}
noncomputable def cT (K:PySem.W.Frag) (tl:TE):TI:=fun σ H R=>tl σ H fun x H1=>∃ a,x=.ref a/\(∃ xs,CP K H1 a xs)/\R (Wk K a) H1
noncomputable def je (K:PySem.W.Frag) (tl:TE):TI:=fun σ H R=>tl σ H fun x H1=>∃ a,x=.ref a/\(∃ xs,Hf K H1 a xs)/\R (kE K a) H1
theorem Bh {l:Expr} {tl:TE} (hl:PE X l tl):PI X tg l (cT X.K tl):=by
 intro pins s σ H R I h
 refine CN (hl pins s σ H _ I h) fun v s1 hq0=>?_
 obtain ⟨x,H1,I1,r1,q1⟩:=hq0
 obtain ⟨a,e,⟨xs,hq⟩,q⟩:=q1
 subst e
 cases r1
 obtain ⟨its,rv,p,hz⟩:=I1.list hq
 refine wpAny_pyIter_list p.isList ?_
 refine ⟨s1.heap.objs.size,[s1.heap.objs.size],_,_,H1,rfl,I1.kept (t':=s1.toks) fun b o e=>Heap.get?_push_of_some _ e,Qt a _,⟨_,Heap.get?_push_size _ rfl,rfl,rfl⟩,fun b hb=>?_,q⟩
 have e:b=s1.heap.objs.size:=by simpa using hb
 subst e
 exact I1.KQ (Nat.le_refl _) (I1.hok.fresh (Nat.le_refl _))
theorem XQ {l:Expr} {tl:TE} (hl:PE X l tl):PI X tg l (je X.K tl):=by
 intro pins s σ H R I h
 refine CN (hl pins s σ H _ I h) fun v s1 hq0=>?_
 obtain ⟨x,H1,I1,r1,q1⟩:=hq0
 obtain ⟨a,e,⟨xs,hq⟩,q⟩:=q1
 subst e
 cases r1
 obtain ⟨its,rv,p,hz⟩:=I1.tuple hq
 refine wpAny_pyIter_tuple (show s1.heap.IsTuple a its.toArray from p) ?_
 refine ⟨s1.heap.objs.size,[s1.heap.objs.size],_,_,H1,rfl,I1.kept (t':=s1.toks) fun b o e=>Heap.get?_push_of_some _ e,Nj a _,⟨_,Heap.get?_push_size _ rfl,rfl,rfl⟩,fun b hb=>?_,q⟩
 have e:b=s1.heap.objs.size:=by simpa using hb
 subst e
 exact I1.KQ (Nat.le_refl _) (I1.hok.fresh (Nat.le_refl _))
theorem Tp {pins:List (Addr × Obj)} {σ:St} {H:Hp} {s:Shared} {R:It->Hp->Prop} {E:Value->Shared->Prop} {lo hi:Int} {t u v:Tok} {tk:Nat} (I:Inv X pins σ H s) (h1 : -(2 ^ 62)<=lo) (h2:lo<2 ^ 62) (h3 : -(2 ^ 62)<=hi) (h4:hi<2 ^ 62)
  (q:R (Wj lo (hi - lo).toNat) H):wpAny (model X.prog X.w) X.A (pyIter (.ref s.heap.objs.size)) (PIE X pins σ tg R) E { s with heap:=s.heap.push { cls:=.type "range",data:=.fields #[.int lo t,.int hi u,.int 1 v] },toks:=tk }:=by
 refine wpAny_pyIter_range (IsRange.new ..) (small_one h1 h2 h3 h4) ?_
 have I1:Inv X pins σ H { s with heap:=s.heap.push { cls:=.type "range",data:=.fields #[.int lo t,.int hi u,.int 1 v] },toks:=tk }:=I.kept fun b o e=>Heap.get?_push_of_some _ e
 refine ⟨(s.heap.push { cls:=.type "range",data:=.fields #[.int lo t,.int hi u,.int 1 v] }).objs.size,[(s.heap.push { cls:=.type "range",data:=.fields #[.int lo t,.int hi u,.int 1 v] }).objs.size],_,_,H,rfl,
  I1.kept (t':=tk) fun b o e=>Heap.get?_push_of_some _ e,OJ _ lo (hi - lo).toNat,?_,fun b hb=>?_,q⟩
 ·have e1:lo+((0:Nat):Int) * 1=lo:=by simp
  have e2:(((hi - lo).toNat:Nat):Int) - ((0:Nat):Int)=Builtin.Range.rangeSize lo hi 1:=by rw [rangeSize_one]; split <;> omega
  show IsRangeIter _ _ (lo+((0:Nat):Int) * 1) ((((hi - lo).toNat:Nat):Int) - ((0:Nat):Int)) 1
  rw [e1,e2]
  exact Heap.get?_push_size _ rfl
 ·have e:b=(s.heap.push { cls:=.type "range",data:=.fields #[.int lo t,.int hi u,.int 1 v] }).objs.size:=by simpa using hb
  subst e
  exact I1.KQ (Nat.le_refl _) (I1.hok.fresh (Nat.le_refl _))
noncomputable def cQ (ta:TA):TI:=fun σ H R=>ta σ H fun vs H1=>∃ j:Int,vs=[.int j] /\ -(2 ^ 62)<=j/\j<2 ^ 62/\R (Wj 0 j.toNat) H1
theorem Cm {a:Expr} {ta:TA} {p pos:Pos} (hg:Gl X "range") (hm:X.mg "range" = none) (ha:PA X [a] ta) (hs:starEach [a] X.env=[(false,eval a X.env)]:=by rfl):PI X tg (.Call (.Name "range" p) [a] [] pos) (cQ ta):=by
 intro pins s σ H R I h
 refine Call_ (Ft I hg hm boot_range (PyProof.Rows.callWith_type1 (CN (ha pos pins s σ H _ I h) fun us s1 ⟨vs,H1,I1,r1,q1⟩=>?_) hs rfl))
 obtain ⟨j,e,q1,q2,q⟩:=q1
 subst e
 cases r1 with
 | cons r rr =>
  cases rr
  obtain ⟨t,rfl⟩:=r
  exact call_range_1 (Tp I1 (by omega) (by omega) q1 q2 (by simpa using q))
noncomputable def ie (wi:TI) (g:TG) (tb:TS):TS:=fun D σ H=>wi σ H fun J H1=>∃ W:Nat->Nat->St->Hp->Prop,(∃ m,W 0 m σ H1)/\∀ i m σ H,W i m σ H ->
 (J.stop i H/\D.nx σ H) \/ (J.go i H/\∃ N:St->Hp->Prop,(∀ σ' H',N σ' H'->∃ m',m'<m/\W (i+1) m' σ' H')/\∀ x H',J.yld i H x H'->g x σ H' fun σ2 H2=>tb { D with nx:=N,ct:=N,bk:=D.nx } σ2 H2)
noncomputable def Ip (fp:List Addr) (h:Heap):List (Addr × Obj):=fp.filterMap fun b=>(h.get? b).map fun o=>(b,o)
theorem Eh {fp:List Addr} {h:Heap} {b:Addr} {o:Obj} (hb:b∈fp) (e:h.get? b=some o):(b,o)∈Ip fp h:=List.mem_filterMap.mpr ⟨b,hb,by rw [e]; rfl⟩
theorem Qh {fp:List Addr} {h:Heap} {p:Addr × Obj} (hp:p∈Ip fp h):p.1∈fp/\h.get? p.1=some p.2:=by
 obtain ⟨b,hb,e⟩:=List.mem_filterMap.mp hp
 cases q:h.get? b with
 | none=>rw [q] at e; cases e
 | some o =>
  rw [q] at e
  have e':(b,o)=p:=Option.some.inj e
  subst e'
  exact ⟨hb,q⟩
theorem Inv.pinned {pins:List (Addr × Obj)} {σ:St} {H:Hp} {s:Shared} {fp:List Addr} (I:Inv X pins σ H s) (hf:∀ b∈fp,Gj X pins H b) (ho:∀ b∈fp,∃ o,s.heap.get? b=some o/\∀ v,o.data ≠ .cell v):Inv X (pins++Ip fp s.heap) σ H s :=
 I.QB fun p hp=>(List.mem_append.mp hp).elim (fun z=>I.pin p (List.mem_append_right _ z)) fun z=>by
  obtain ⟨hb,e⟩:=Qh z
  obtain ⟨f0,f1,f2,_⟩:=hf p.1 hb
  obtain ⟨o,e',d⟩:=ho p.1 hb
  rw [e] at e'; cases e'
  exact ⟨e,f0,f1,f2,d⟩
theorem Inv.Gr {pins pl:List (Addr × Obj)} {σ:St} {H:Hp} {s:Shared} (I:Inv X (pins++pl) σ H s):Inv X pins σ H s:=I.QB fun p hp=>I.pin p (List.mem_append_right _ (List.mem_append_left _ hp))
theorem DN {iter:Expr} {body:List Stmt} {wi:TI} {g:TG} {tb:TS} {pos:Pos} (hp:PassesOwn (model X.prog X.w) X.A X.env X.xe) (hc:X.calm=true) (hi:PI X tg iter wi) (hg:PG X tg g) (hb:O_ X body tb)
  (hs:∀ x,foldedSetIterable iter X.env x=pure x:=by intro _; rfl):PS X (.For tg iter body [] pos) (ie wi g tb):=by
 intro pins s σ H D I h
 refine wpAny_For (CN (hi pins s σ H _ I h) fun v s1 h1=>CN h1 fun itv s2 h2=>?_) hs
 obtain ⟨it,fp,tn,J,H2,e,I2,T,st2,f2,W,⟨m0,w0⟩,turn⟩:=h2
 subst e
 have stat:∀ {H':Hp},(∀ b∈fp,H' b=none)->∀ b∈fp,Gj X pins H' b:=fun hn b hb=>⟨hn b hb,(f2 b hb).2⟩
 refine codeAny_forLoop_any (fun n s'=>∃ i σ' H',Inv X pins σ' H' s'/\tn i s'.heap/\(∀ b∈fp,H' b=none)/\W i n σ' H') ?_ m0 ⟨0,σ,H2,I2,st2,fun b hb=>(f2 b hb).1,w0⟩
 rintro n s3 ⟨i,σ3,H3,I3,st3,fr3,w3⟩
 rcases turn i n σ3 H3 w3 with ⟨stop,qn⟩ | ⟨go,N,hN,step⟩
 ·refine wpAny_passesOwn hp (CN (T.done X rfl rfl rfl hc i pins s3 σ3 H3 X.xe I3 (stat fr3) st3 stop) fun r s4 ⟨hr,I4⟩=>?_)
  subst hr
  exact wpAny_execs_nil ⟨σ3,H3,I4,qn⟩
 ·refine wpAny_passesOwn hp (CN (T.item X rfl rfl rfl hc i pins s3 σ3 H3 X.xe I3 (stat fr3) st3 go) fun r s4 ⟨u,hr,h4⟩=>?_)
  subst hr
  refine wpAny_passesOwn hp (CN h4 fun _ s5 hq0=>?_)
  obtain ⟨x,H5,I5,r5,y5,st5,fr5⟩:=hq0
  have I5':=I5.pinned (stat fr5) (T.obj _ _ st5)
  refine wpAny_passesOwn hp (CN (hg _ s5 σ3 H5 x u _ I5' r5 (step x H5 y5)) fun _ s6 hq0=>?_)
  obtain ⟨σ6,H6,I6,q6⟩:=hq0
  refine wpAny_passesOwn hp (CN (hb _ s6 σ6 H6 _ I6 q6) fun f s7 q7=>?_)
  have again:∀ {σ7:St} {H7:Hp},Inv X (pins++Ip fp s5.heap) σ7 H7 s7->N σ7 H7->∃ m,m<n/\∃ i σ' H',Inv X pins σ' H' s7/\tn i s7.heap/\(∀ b∈fp,H' b=none)/\W i m σ' H':=fun {σ7 H7} I7 n7=>by
   obtain ⟨m',hm,w7⟩:=hN σ7 H7 n7
   refine ⟨m',hm,i+1,σ7,H7,I7.Gr,T.keep _ _ _ st5 fun b hb o e=>(I7.pin (b,o) (List.mem_append_right _ (List.mem_append_right _ (Eh hb e)))).1,fun b hb=>?_,w7⟩
   obtain ⟨o,e,d⟩:=T.obj _ _ st5 b hb
   exact (I7.pin (b,o) (List.mem_append_right _ (List.mem_append_right _ (Eh hb e)))).2.1
  cases f with
  | next=>obtain ⟨σ7,H7,I7,n7⟩:=q7; exact again I7 n7
  | cont=>obtain ⟨σ7,H7,I7,n7⟩:=q7; exact again I7 n7
  | brk=>obtain ⟨σ7,H7,I7,q7⟩:=q7; exact ⟨σ7,H7,I7.Gr,q7⟩
  | ret v=>obtain ⟨x7,σ7,H7,I7,r7,q7⟩:=q7; exact ⟨x7,σ7,H7,I7.Gr,r7,q7⟩
end
theorem Dl {K:PySem.W.Frag} {a:Addr} {xs:List V} {g:TG} {tb:TS} {D:Ends} {σ:St} {H:Hp} (Pv:Nat->St->Hp->Prop) (h0:Pv 0 σ H) (hl:∀ i σ H,i<=xs.length->Pv i σ H->CP K H a xs)
  (hs:∀ i x σ H,xs[i]? = some x->Pv i σ H->g x σ H fun σ2 H2=>tb { D with nx:=Pv (i+1),ct:=Pv (i+1),bk:=D.nx } σ2 H2) (hd:∀ σ H,Pv xs.length σ H->D.nx σ H) :
  ∃ W:Nat->Nat->St->Hp->Prop,(∃ m,W 0 m σ H)/\∀ i m σ H,W i m σ H ->
   ((Wk K a).stop i H/\D.nx σ H) \/ ((Wk K a).go i H/\∃ N:St->Hp->Prop,(∀ σ' H',N σ' H'->∃ m',m'<m/\W (i+1) m' σ' H')/\∀ x H',(Wk K a).yld i H x H'->g x σ H' fun σ2 H2=>tb { D with nx:=N,ct:=N,bk:=D.nx } σ2 H2):=by
 refine ⟨fun i m σ H=>m=xs.length - i/\i<=xs.length/\Pv i σ H,⟨xs.length,by simp,Nat.zero_le _,h0⟩,?_⟩
 rintro i m σ H ⟨rfl,hi,p⟩
 have q:=hl i σ H hi p
 by_cases hlt:i<xs.length
 ·refine .inr ⟨⟨xs,xs[i],q,by simp [hlt]⟩,Pv (i+1),fun σ' H' p'=>⟨xs.length - (i+1),by omega,rfl,hlt,p'⟩,fun x H' y=>?_⟩
  obtain ⟨e,y⟩:=y
  subst e
  exact hs i x σ _ (y xs q) p
 ·have e:i=xs.length:=by omega
  subst e
  exact .inl ⟨⟨xs,q,Nat.le_refl _⟩,hd σ H p⟩
theorem Ij {lo:Int} {n:Nat} {g:TG} {tb:TS} {D:Ends} {σ:St} {H:Hp} (Pv:Nat->St->Hp->Prop) (h0:Pv 0 σ H)
  (hs:∀ i σ H,i<n->Pv i σ H->g (.int (lo+i)) σ H fun σ2 H2=>tb { D with nx:=Pv (i+1),ct:=Pv (i+1),bk:=D.nx } σ2 H2) (hd:∀ σ H,Pv n σ H->D.nx σ H) :
  ∃ W:Nat->Nat->St->Hp->Prop,(∃ m,W 0 m σ H)/\∀ i m σ H,W i m σ H ->
   ((Wj lo n).stop i H/\D.nx σ H) \/ ((Wj lo n).go i H/\∃ N:St->Hp->Prop,(∀ σ' H',N σ' H'->∃ m',m'<m/\W (i+1) m' σ' H')/\∀ x H',(Wj lo n).yld i H x H'->g x σ H' fun σ2 H2=>tb { D with nx:=N,ct:=N,bk:=D.nx } σ2 H2):=by
 refine ⟨fun i m σ H=>m=n - i/\i<=n/\Pv i σ H,⟨n,by simp,Nat.zero_le _,h0⟩,?_⟩
 rintro i m σ H ⟨rfl,hi,p⟩
 by_cases hlt:i<n
 ·refine .inr ⟨hlt,Pv (i+1),fun σ' H' p'=>⟨n - (i+1),by omega,rfl,hlt,p'⟩,fun x H' y=>?_⟩
  obtain ⟨e,y⟩:=y
  subst e y
  exact hs i σ _ hlt p
 ·have e:i=n:=by omega
  subst e
  exact .inl ⟨Nat.le_refl _,hd σ H p⟩
theorem Jt {c:TT} {tb:TS} {D:Ends} {σ:St} {H:Hp} (Pv:St->Hp->Prop) (μ:St->Hp->Nat) (h0:Pv σ H)
  (hs:∀ σ H,Pv σ H->c σ H fun b H1=>if b=true then tb { D with nx:=fun σ' H'=>Pv σ' H'/\μ σ' H'<μ σ H,ct:=fun σ' H'=>Pv σ' H'/\μ σ' H'<μ σ H,bk:=D.nx } σ H1 else D.nx σ H1)
  (mono:∀ σ H Q Q',(∀ b H1,Q b H1->Q' b H1)->c σ H Q->c σ H Q'):Lj c tb D σ H:=by
 refine ⟨fun m σ H=>m=μ σ H/\Pv σ H,⟨_,rfl,h0⟩,?_⟩
 rintro m σ H ⟨rfl,p⟩
 refine mono σ H _ _ (fun b H1 q=>?_) (hs σ H p)
 cases b with
 | true=>exact ⟨_,fun σ' H' ⟨p',l⟩=>⟨_,l,rfl,p'⟩,q⟩
 | false=>exact q
end L2
namespace L2
open PySem PySem.Spec PyProof.Rows
noncomputable abbrev R2:=V->V->Hp->VK->Prop
noncomputable def Gp (X:Cx) (f:Value->Value->Sem Value) (r:R2):Prop :=
 ∀ (pins:List (Addr × Obj)) (s:Shared) (σ:St) (H:Hp) (x y:V) (v u:Value) (Q:VK),Inv X pins σ H s->RelV x v->RelV y u->r x y H Q ->
  wpAny (model X.prog X.w) X.A (f v u) (EP X pins σ Q) X.xe s
noncomputable def jW (X:Cx) (f:Value->Sem Value) (r:V->Hp->VK->Prop):Prop :=
 ∀ (pins:List (Addr × Obj)) (s:Shared) (σ:St) (H:Hp) (x:V) (v:Value) (Q:VK),Inv X pins σ H s->RelV x v->r x H Q ->
  wpAny (model X.prog X.w) X.A (f v) (EP X pins σ Q) X.xe s
noncomputable def Fg (X:Cx) (f:Value) (r:List V->Hp->VK->Prop):Prop :=
 ∀ (pins:List (Addr × Obj)) (s:Shared) (σ:St) (H:Hp) (xs:List V) (us:List Value) (Q:VK),Inv X pins σ H s->Vals xs us->r xs H Q ->
  wpAny (model X.prog X.w) X.A (call f us) (EP X pins σ Q) X.xe s
noncomputable def gw (X:Cx) (r:V->Hp->(Bool->Hp->Prop)->Prop):Prop :=
 ∀ (pins:List (Addr × Obj)) (s:Shared) (σ:St) (H:Hp) (x:V) (v:Value) (Q:Bool->Hp->Prop),Inv X pins σ H s->RelV x v->r x H Q ->
  wpAny (model X.prog X.w) X.A (truthy v) (TP X pins σ Q) X.xe s
noncomputable def M8 (r:R2) (ta tb:TE):TE:=fun σ H Q=>ta σ H fun x H1=>tb σ H1 fun y H2=>r x y H2 Q
noncomputable def lA (r:V->Hp->VK->Prop) (ta:TE):TE:=fun σ H Q=>ta σ H fun x H1=>r x H1 Q
noncomputable def rI (C:Int->Int->Prop) (g:Int->Int->V):R2:=fun x y H Q=>∃ i j,x=.int i/\y=.int j/\C i j/\Q (g i j) H
noncomputable def Qk (g:Int->Int->V):R2:=fun x y H Q=>∃ i j,x=.int i/\y=.int j/\Q (g i j) H
noncomputable def rU (g:Int->V):V->Hp->VK->Prop:=fun x H Q=>∃ i,x=.int i/\Q (g i) H
section
variable {X:Cx} {a b c:Expr} {ta tb tc:TE} {pos:Pos}
theorem Xu (ha:PE X a ta) (hb:PE X b tb) {pins:List (Addr × Obj)} {s:Shared} {σ:St} {H:Hp} {R:V->V->Hp->Prop} (I:Inv X pins σ H s)
  (h:ta σ H fun x H1=>tb σ H1 fun y H2=>R x y H2) {Q:Value->Shared->Prop} {f:Value->Value->Sem Value}
  (hf:∀ v u s2 x y H2,Inv X pins σ H2 s2->RelV x v->RelV y u->R x y H2->wpAny (model X.prog X.w) X.A (f v u) Q X.xe s2) :
  wpAny (model X.prog X.w) X.A (eval a X.env) (fun v s₁=>wpAny (model X.prog X.w) X.A (eval b X.env) (fun u s₂=>wpAny (model X.prog X.w) X.A (f v u) Q X.xe s₂) X.xe s₁) X.xe s:=by
 refine CN (ha pins s σ H _ I h) fun v s1 hq0=>?_
 obtain ⟨x,H1,I1,r1,q1⟩:=hq0
 refine CN (hb pins s1 σ H1 _ I1 q1) fun u s2 hq0=>?_
 obtain ⟨y,H2,I2,r2,q2⟩:=hq0
 exact hf v u s2 x y H2 I2 r1 r2 q2
theorem Ar {op:Operator} {r:R2} (ho:Gp X (binaryOp op) r) (ha:PE X a ta) (hb:PE X b tb):PE X (.BinOp a op b pos) (M8 r ta tb):=by
 intro pins s σ H Q I h
 exact wpAny_BinOp (Xu ha hb I h fun v u s2 x y H2 I2 rx ry q=>ho pins s2 σ H2 x y v u Q I2 rx ry q)
theorem G5 {op:UnaryOp} {r:V->Hp->VK->Prop} (ho:jW X (unaryOp op) r) (ha:PE X a ta):PE X (.UnaryOp op a pos) (lA r ta):=by
 intro pins s σ H Q I h
 exact UnaryOp_ (CN (ha pins s σ H _ I h) fun v s1 ⟨x,H1,I1,r1,q1⟩=>ho pins s1 σ H1 x v Q I1 r1 q1)
theorem XS {f:Value->Value->Sem Value} {C:Int->Int->Prop} {g:Int->Int->Int}
  (rule:∀ (i j:Int) (t u:Tok) (s:Shared) (Q:Value->Shared->Prop) (E:Value->Shared->Prop),C i j->Q (.int (g i j) s.toks) { s with toks:=s.toks+1 }->wpAny (model X.prog X.w) X.A (f (.int i t) (.int j u)) Q E s) :
  Gp X f (rI C fun i j=>.int (g i j)):=by
 intro pins s σ H x y v u Q I rx ry h
 obtain ⟨i,j,rfl,rfl,hc,q⟩:=h
 obtain ⟨t,rfl⟩:=rx
 obtain ⟨t',rfl⟩:=ry
 exact rule i j t t' s _ _ hc ⟨.int (g i j),H,I.tok _,⟨_,rfl⟩,q⟩
theorem Uv {f:Value->Value->Sem Value} {g:Int->Int->Int}
  (rule:∀ (i j:Int) (t u:Tok) (s:Shared) (Q:Value->Shared->Prop) (E:Value->Shared->Prop),Q (.int (g i j) s.toks) { s with toks:=s.toks+1 }->wpAny (model X.prog X.w) X.A (f (.int i t) (.int j u)) Q E s) :
  Gp X f (Qk fun i j=>.int (g i j)):=by
 intro pins s σ H x y v u Q I rx ry h
 obtain ⟨i,j,rfl,rfl,q⟩:=h
 obtain ⟨t,rfl⟩:=rx
 obtain ⟨t',rfl⟩:=ry
 exact rule i j t t' s _ _ ⟨.int (g i j),H,I.tok _,⟨_,rfl⟩,q⟩
theorem Um {f:Value->Value->Sem Value} {g:Int->Int->Bool}
  (rule:∀ (i j:Int) (t u:Tok) (s:Shared) (Q:Value->Shared->Prop) (E:Value->Shared->Prop),Q (.bool (g i j)) s->wpAny (model X.prog X.w) X.A (f (.int i t) (.int j u)) Q E s) :
  Gp X f (Qk fun i j=>.bl (g i j)):=by
 intro pins s σ H x y v u Q I rx ry h
 obtain ⟨i,j,rfl,rfl,q⟩:=h
 obtain ⟨t,rfl⟩:=rx
 obtain ⟨t',rfl⟩:=ry
 exact rule i j t t' s _ _ ⟨.bl (g i j),H,I,rfl,q⟩
noncomputable def fK (i j:Int):Prop:=0<j/\j<1073741824
noncomputable def ZX (i j:Int):Prop:=0<=j/\j<=1000000/\i.natAbs<2 ^ 64
noncomputable def Oh (i j:Int):Prop:=(-(2 ^ 64)<i/\i<2 ^ 64) \/ (-(2 ^ 64)<j/\j<2 ^ 64)
theorem Oh.ok {i j:Int} (h:Oh i j):IntMulOk i j:=by
 rcases h with ⟨h1,h2⟩ | ⟨h1,h2⟩
 ·exact .of_left (intBits_le_64 h1 h2)
 ·exact .of_right (intBits_le_64 h1 h2)
theorem two_pow_nn (k:Nat):(0:Int)<=2 ^ k:=by
 rw [two_pow_cast]
 exact Int.natCast_nonneg _
theorem Bm:Gp X (binaryOp .Add) (Qk fun i j=>.int (i+j)):=Uv fun _ _ _ _ _ _ _ q=>add_int q
theorem Dy:Gp X (binaryOp .Sub) (Qk fun i j=>.int (i - j)):=Uv fun _ _ _ _ _ _ _ q=>sub_int q
theorem Hd:Gp X (binaryOp .Mult) (rI Oh fun i j=>.int (i * j)):=XS fun _ _ _ _ _ _ _ hc q=>mul_int q hc.ok
theorem Cq:Gp X (binaryOp .FloorDiv) (rI fK fun i j=>.int (i / j)):=XS fun i j _ _ _ _ _ hc q=>by
 have h1:(0:Int)<j:=hc.1
 have h2:j<1073741824:=hc.2
 exact floordiv_int (by omega) (by rw [Int.fdiv_eq_ediv_of_nonneg i (by omega)]; exact q) (.inl (PyProof.noPylong_small (by omega)))
theorem Bp:Gp X (binaryOp .Mod) (rI (fun _ j=>0<j) fun i j=>.int (i % j)):=XS fun i j _ _ _ _ _ hc q=>by
 have h1:(0:Int)<j:=hc
 exact mod_int' (by omega) (by rw [Int.fmod_eq_emod_of_nonneg i (by omega)]; exact q)
theorem Ry:Gp X (binaryOp .Pow) (rI ZX fun i j=>.int (i ^ j.toNat)):=XS fun _ _ _ _ _ _ _ hc q=>pow_int_small hc.1 hc.2.1 hc.2.2 q
theorem Ol:Gp X (binaryOp .LShift) (rI ZX fun i j=>.int (i * 2 ^ j.toNat)):=XS fun _ _ _ _ _ _ _ hc q=>lshift_int_small hc.1 hc.2.1 hc.2.2 q
theorem Iz:Gp X (binaryOp .RShift) (rI (fun _ j=>0<=j) fun i j=>.int (i / 2 ^ j.toNat)):=XS fun i j _ _ _ _ _ hc q =>
 rshift_int hc (by rw [Int.fdiv_eq_ediv_of_nonneg i (two_pow_nn _)]; exact q)
theorem LQ:Gp X (binaryOp .BitAnd) (Qk fun i j=>.int (Builtin.bitAnd i j)):=Uv fun _ _ _ _ _ _ _ q=>and_int q
theorem Ph:Gp X (binaryOp .BitOr) (Qk fun i j=>.int (Builtin.bitOr i j)):=Uv fun _ _ _ _ _ _ _ q=>or_int q
theorem km {f:Value->Sem Value} {g:Int->Int}
  (rule:∀ (i:Int) (t:Tok) (s:Shared) (Q:Value->Shared->Prop) (E:Value->Shared->Prop),Q (.int (g i) s.toks) { s with toks:=s.toks+1 }->wpAny (model X.prog X.w) X.A (f (.int i t)) Q E s) :
  jW X f (rU fun i=>.int (g i)):=by
 intro pins s σ H x v Q I rx h
 obtain ⟨i,rfl,q⟩:=h
 obtain ⟨t,rfl⟩:=rx
 exact rule i t s _ _ ⟨.int (g i),H,I.tok _,⟨_,rfl⟩,q⟩
theorem FP:jW X (unaryOp .USub) (rU fun i=>.int (-i)):=km fun _ _ _ _ _ q=>neg_int q
end
noncomputable def bY:V->V->Bool
 | .non,.non=>true | .non,.int _=>true | .int _,.non=>true | .non,.bl _=>true | .bl _,.non=>true | .non,.str _=>true | .str _,.non=>true
 | .int _,.int _=>true | .bl _,.bl _=>true | .str _,.str _=>true | .byt _,.byt _=>true
 | .int _,.str _=>true | .str _,.int _=>true | .bl _,.str _=>true | .str _,.bl _=>true
 | _,_=>false
noncomputable def lC:R2:=fun x y H Q=>bY x y=true/\Q (.bl (decide (x=y))) H
noncomputable def kW:R2:=fun x y H Q=>bY x y=true/\Q (.bl (!decide (x=y))) H
theorem Pu {i j:Int}:decide (V.int i=V.int j)=(i == j):=by
 rw [Bool.eq_iff_iff]
 simp
theorem Rp {i j:Bool}:decide (V.bl i=V.bl j)=(i == j):=by
 rw [Bool.eq_iff_iff]
 simp
theorem HD {i j:Str}:decide (V.str i=V.str j)=(i == j):=by
 rw [Bool.eq_iff_iff]
 simp
theorem Py {i j:Array UInt8}:decide (V.byt i=V.byt j)=(i.toList == j.toList):=by
 rw [Bool.eq_iff_iff]
 cases i
 cases j
 simp
section
variable {X:Cx} {a b c:Expr} {ta tb tc:TE} {pos:Pos}
theorem Bu {pins:List (Addr × Obj)} {σ:St} {H:Hp} {s:Shared} {Q:VK} {k k':Bool} (I:Inv X pins σ H s) (q:Q (.bl k) H) (e:k=k'):EP X pins σ Q (.bool k') s:=by
 subst e
 exact ⟨.bl k,H,I,rfl,q⟩
theorem Du:Gp X (compareOp .Eq) lC:=by
 intro pins s σ H x y v u Q I rx ry h
 obtain ⟨hs,q⟩:=h
 cases x with
 | non =>
  cases rx
  cases y with
  | non=>cases ry; exact PySem.EqNone.eq_none_none (Bu I q (by simp))
  | bl j=>cases ry; exact PySem.EqNone.eq_none_bool (Bu I q (by simp))
  | int j=>obtain ⟨t',rfl⟩:=ry; exact PySem.EqNone.eq_none_int (Bu I q (by simp))
  | str j=>obtain ⟨t',rfl⟩:=ry; exact PySem.EqNone.eq_none_str (Bu I q (by simp))
  | _=>exact absurd (show false=true from hs) Bool.false_ne_true
 | bl i =>
  cases rx
  cases y with
  | non=>cases ry; exact PySem.EqNone.eq_bool_none (Bu I q (by simp))
  | bl j=>cases ry; exact eq_bool (Bu I q Rp)
  | str j=>obtain ⟨t',rfl⟩:=ry; exact PySem.EqMixed.eq_bool_str (Bu I q (by simp))
  | _=>exact absurd (show false=true from hs) Bool.false_ne_true
 | int i =>
  obtain ⟨t,rfl⟩:=rx
  cases y with
  | non=>cases ry; exact PySem.EqNone.eq_int_none (Bu I q (by simp))
  | int j=>obtain ⟨t',rfl⟩:=ry; exact eq_int (Bu I q Pu)
  | str j=>obtain ⟨t',rfl⟩:=ry; exact PySem.EqMixed.eq_int_str (Bu I q (by simp))
  | _=>exact absurd (show false=true from hs) Bool.false_ne_true
 | str i =>
  obtain ⟨t,rfl⟩:=rx
  cases y with
  | non=>cases ry; exact PySem.EqNone.eq_str_none (Bu I q (by simp))
  | bl j=>cases ry; exact PySem.EqMixed.eq_str_bool (Bu I q (by simp))
  | int j=>obtain ⟨t',rfl⟩:=ry; exact PySem.EqMixed.eq_str_int (Bu I q (by simp))
  | str j=>obtain ⟨t',rfl⟩:=ry; exact eq_str (Bu I q HD)
  | _=>exact absurd (show false=true from hs) Bool.false_ne_true
 | byt i =>
  obtain ⟨t,rfl⟩:=rx
  cases y with
  | byt j=>obtain ⟨t',rfl⟩:=ry; exact PySem.W.eq_bytes (Bu I q Py)
  | _=>exact absurd (show false=true from hs) Bool.false_ne_true
 | _=>cases y <;> exact absurd (show false=true from hs) Bool.false_ne_true
theorem E_:Gp X (compareOp .NotEq) kW:=by
 intro pins s σ H x y v u Q I rx ry h
 obtain ⟨hs,q⟩:=h
 cases x with
 | non =>
  cases rx
  cases y with
  | non=>cases ry; exact PySem.EqNone.ne_none_none (Bu I q (by simp))
  | bl j=>cases ry; exact PySem.EqNone.ne_none_bool (Bu I q (by simp))
  | int j=>obtain ⟨t',rfl⟩:=ry; exact PySem.EqNone.ne_none_int (Bu I q (by simp))
  | str j=>obtain ⟨t',rfl⟩:=ry; exact PySem.EqNone.ne_none_str (Bu I q (by simp))
  | _=>exact absurd (show false=true from hs) Bool.false_ne_true
 | bl i =>
  cases rx
  cases y with
  | non=>cases ry; exact PySem.EqNone.ne_bool_none (Bu I q (by simp))
  | bl j=>cases ry; exact ne_bool (Bu I q (congrArg not Rp))
  | str j=>obtain ⟨t',rfl⟩:=ry; exact PySem.EqMixed.ne_bool_str (Bu I q (by simp))
  | _=>exact absurd (show false=true from hs) Bool.false_ne_true
 | int i =>
  obtain ⟨t,rfl⟩:=rx
  cases y with
  | non=>cases ry; exact PySem.EqNone.ne_int_none (Bu I q (by simp))
  | int j=>obtain ⟨t',rfl⟩:=ry; exact ne_int (Bu I q (congrArg not Pu))
  | str j=>obtain ⟨t',rfl⟩:=ry; exact PySem.EqMixed.ne_int_str (Bu I q (by simp))
  | _=>exact absurd (show false=true from hs) Bool.false_ne_true
 | str i =>
  obtain ⟨t,rfl⟩:=rx
  cases y with
  | non=>cases ry; exact PySem.EqNone.ne_str_none (Bu I q (by simp))
  | bl j=>cases ry; exact PySem.EqMixed.ne_str_bool (Bu I q (by simp))
  | int j=>obtain ⟨t',rfl⟩:=ry; exact PySem.EqMixed.ne_str_int (Bu I q (by simp))
  | str j=>obtain ⟨t',rfl⟩:=ry; exact ne_str (Bu I q (congrArg not HD))
  | _=>exact absurd (show false=true from hs) Bool.false_ne_true
 | byt i =>
  obtain ⟨t,rfl⟩:=rx
  cases y with
  | byt j=>obtain ⟨t',rfl⟩:=ry; exact PySem.W.ne_bytes (Bu I q (congrArg not Py))
  | _=>exact absurd (show false=true from hs) Bool.false_ne_true
 | _=>cases y <;> exact absurd (show false=true from hs) Bool.false_ne_true
theorem GX:Gp X (compareOp .Lt) (Qk fun i j=>.bl (decide (i<j))):=Um fun _ _ _ _ _ _ _ q=>lt_int q
theorem Er:Gp X (compareOp .LtE) (Qk fun i j=>.bl (decide (i<=j))):=Um fun _ _ _ _ _ _ _ q=>le_int q
theorem WX:Gp X (compareOp .Gt) (Qk fun i j=>.bl (decide (j<i))):=Um fun _ _ _ _ _ _ _ q=>gt_int q
theorem SJ:Gp X (compareOp .GtE) (Qk fun i j=>.bl (decide (j<=i))):=Um fun _ _ _ _ _ _ _ q=>ge_int q
theorem Qi:Gp X (compareOp .In) (fun x y H Q=>∃ i j,x=.str i/\y=.str j/\Q (.bl (!(Builtin.Str.occurrences j i 0 j.length 1).isEmpty)) H):=by
 intro pins s σ H x y v u Q I rx ry h
 obtain ⟨i,j,rfl,rfl,q⟩:=h
 obtain ⟨t,rfl⟩:=rx
 obtain ⟨t',rfl⟩:=ry
 exact in_str (Bu I q rfl)
theorem Lr:Gp X (compareOp .IsNot) (fun x y H Q=>y=.non/\Q (.bl (!decide (x=.non))) H):=by
 intro pins s σ H x y v u Q I rx ry h
 obtain ⟨rfl,q⟩:=h
 cases ry
 refine isnot_none_gen (Bu I q ?_)
 cases x <;> first
  | (cases rx; rfl)
  | (obtain ⟨t,rfl⟩:=rx; rfl)
theorem Bc (b:Expr) {op:CmpOp} (h:op ≠ .In:=by decide) (h2:op ≠ .NotIn:=by decide):behindInMarks op b=false:=by
 have e1:(op == CmpOp.In)=false:=by cases op <;> first | rfl | exact absurd rfl h
 have e2:(op == CmpOp.NotIn)=false:=by cases op <;> first | rfl | exact absurd rfl h2
 cases b <;> simp [behindInMarks,e1,e2]
theorem Dq {op:CmpOp} {r:R2} (ho:Gp X (compareOp op) r) (ha:PE X a ta) (hb:PE X b tb) (hm:behindInMarks op b=false):PE X (.Compare a [op] [b] pos) (M8 r ta tb):=by
 intro pins s σ H Q I h
 exact wpAny_Compare1 (Xu ha hb I h fun v u s2 x y H2 I2 rx ry q=>ho pins s2 σ H2 x y v u Q I2 rx ry q) hm
noncomputable def Wh (t:TE):TT:=fun σ H Q=>t σ H fun x H'=>∃ k,x=.bl k/\Q k H'
theorem BW {op:CmpOp} {r:R2} (ho:Gp X (compareOp op) r) (ha:PE X a ta) (hb:PE X b tb) (hm:behindInMarks op b=false):PT X (.Compare a [op] [b] pos) (Wh (M8 r ta tb)):=by
 intro pins s σ H Q I h
 refine wpAny_isTrue_Compare1 (CN (ha pins s σ H _ I h) fun v s1 ⟨x,H1,I1,r1,q1⟩=>CN (hb pins s1 σ H1 _ I1 q1) fun u s2 ⟨y,H2,I2,r2,q2⟩ =>
  CN (ho pins s2 σ H2 x y v u _ I2 r1 r2 q2) fun c s3 ⟨z,H3,I3,r3,k,e,q3⟩=>?_) hm
 subst e
 cases r3
 exact wpAny_truthy_bool ⟨H3,I3,q3⟩
noncomputable def R7 (r r':R2) (ta tb tc:TE):TE:=fun σ H Q=>ta σ H fun x H1=>tb σ H1 fun y H2=>r x y H2 fun z H3=>∃ k,z=.bl k /\
 (if k=true then tc σ H3 fun w' H4=>r' y w' H4 Q else Q (.bl false) H3)
theorem Hq {op op':CmpOp} {r r':R2} (ho:Gp X (compareOp op) r) (ho':Gp X (compareOp op') r') (ha:PE X a ta) (hb:PE X b tb) (hc:PE X c tc)
  (hm:lastMarks [op,op'] [b,c]=false:=by with_unfolding_all rfl):PE X (.Compare a [op,op'] [b,c] pos) (R7 r r' ta tb tc):=by
 intro pins s σ H Q I h
 refine Compare_chain (CN (ha pins s σ H _ I h) fun v s1 ⟨x,H1,I1,r1,q1⟩=>chain_link (CN (hb pins s1 σ H1 _ I1 q1) fun u s2 ⟨y,H2,I2,r2,q2⟩ =>
  CN (ho pins s2 σ H2 x y v u _ I2 r1 r2 q2) fun d s3 ⟨z,H3,I3,r3,k,e,q3⟩=>?_)) hm
 subst e
 cases r3
 refine wpAny_truthy_bool ?_
 cases k with
 | false=>exact ite_ff ⟨.bl false,H3,I3,rfl,q3⟩
 | true=>exact ite_tt (chain_last (CN (hc pins s3 σ H3 _ I3 q3) fun w' s4 ⟨z',H4,I4,r4,q4⟩=>ho' pins s4 σ H4 y z' u w' Q I4 r2 r4 q4))
theorem FT {op op':CmpOp} {r r':R2} (ho:Gp X (compareOp op) r) (ho':Gp X (compareOp op') r') (ha:PE X a ta) (hb:PE X b tb) (hc:PE X c tc)
  (hm:lastMarks [op,op'] [b,c]=false:=by with_unfolding_all rfl):PT X (.Compare a [op,op'] [b,c] pos) (Wh (R7 r r' ta tb tc)):=by
 intro pins s σ H Q I h
 refine isTrue_chain (CN (ha pins s σ H _ I h) fun v s1 ⟨x,H1,I1,r1,q1⟩=>test_link (CN (hb pins s1 σ H1 _ I1 q1) fun u s2 ⟨y,H2,I2,r2,q2⟩ =>
  CN (ho pins s2 σ H2 x y v u _ I2 r1 r2 q2) fun d s3 ⟨z,H3,I3,r3,k,e,q3⟩=>?_)) hm
 subst e
 cases r3
 refine wpAny_truthy_bool ?_
 cases k with
 | false =>
  obtain ⟨k',e',q'⟩:=q3
  cases e'
  exact ite_ff ⟨H3,I3,q'⟩
 | true =>
  refine ite_tt (test_last (CN (hc pins s3 σ H3 _ I3 q3) fun w' s4 ⟨z',H4,I4,r4,q4⟩=>CN (ho' pins s4 σ H4 y z' u w' _ I4 r2 r4 q4) fun d' s5 hq0=>?_))
  obtain ⟨z2,H5,I5,r5,k2,e2,q5⟩:=hq0
  subst e2
  cases r5
  exact wpAny_truthy_bool ⟨H5,I5,q5⟩
noncomputable def az (K:PySem.W.Frag) (x:V) (H:Hp) (k:Bool):Prop :=
 match x with
 | .non=>k=false
 | .bl b=>k=b
 | .int i=>k=(i != 0)
 | .str y=>y.length<=sizeLine/\k=((y.length:Int) != 0)
 | .byt y=>y.size<=sizeLine/\k=((y.size:Int) != 0)
 | .ref p=>(∃ xs,CP K H p xs/\k = !xs.isEmpty) \/ (∃ xs,Hf K H p xs/\k = !xs.isEmpty) \/ ∃ kvs,H p=some (.dK kvs)/\k = !kvs.isEmpty
 | _=>False
theorem Nz {κ:Type} {kvs:List (κ × V)} {vs:List (κ × Value)} (r:KV kvs vs):(!vs.isEmpty) = !kvs.isEmpty:=by
 cases r <;> rfl
theorem Jy {xs:List V} {its:List Value} (r:Vals xs its):(!its.toArray.isEmpty) = !xs.isEmpty:=by
 cases r <;> simp
theorem Ir:(sizeLine:Nat)<2 ^ 63:=by rw [sizeLine_eq]; decide
theorem X4:gw X (fun x H Q=>∃ k,az X.K x H k/\Q k H):=by
 intro pins s σ H x v Q I rx h
 obtain ⟨k,e,q⟩:=h
 have hl:=Ir
 have hs:sizeLine=16777216:=sizeLine_eq
 cases x with
 | non =>
  cases rx
  have e':k=false:=e
  subst e'
  exact truthy_none ⟨H,I,q⟩
 | bl b =>
  cases rx
  have e':k=b:=e
  subst e'
  exact wpAny_truthy_bool ⟨H,I,q⟩
 | int i =>
  obtain ⟨t,rfl⟩:=rx
  have e':k=(i != 0):=e
  subst e'
  exact PySem.P.truthy_int ⟨H,I,q⟩
 | str y =>
  obtain ⟨t,rfl⟩:=rx
  obtain ⟨hy,e'⟩:y.length<=sizeLine/\k=((y.length:Int) != 0):=e
  subst e'
  exact PySem.P.truthy_str (by omega) ⟨H,I.tok _,q⟩
 | byt y =>
  obtain ⟨t,rfl⟩:=rx
  obtain ⟨hy,e'⟩:y.size<=sizeLine/\k=((y.size:Int) != 0):=e
  subst e'
  exact PySem.W.truthy_bytes (by omega) ⟨H,I.tok _,q⟩
 | ref p =>
  cases rx
  have e':(∃ xs,CP X.K H p xs/\k = !xs.isEmpty) \/ (∃ xs,Hf X.K H p xs/\k = !xs.isEmpty) \/ ∃ kvs,H p=some (.dK kvs)/\k = !kvs.isEmpty:=e
  rcases e' with ⟨xs,hx,e'⟩ | ⟨xs,hx,e'⟩ | ⟨kvs,hx,e'⟩
  ·subst e'
   obtain ⟨its,r,pl,hz⟩:=I.list hx
   have hlen:=r.length
   exact wpAny_truthy_list pl.isList (by simp only [List.size_toArray]; omega) ⟨H,I.tok _,by rw [Jy r]; exact q⟩
  ·subst e'
   obtain ⟨its,r,pl,hz⟩:=I.tuple hx
   have hlen:=r.length
   exact truthy_tuple pl (by simp only [List.size_toArray]; omega) ⟨H,I.tok _,by rw [Jy r]; exact q⟩
  ·subst e'
   obtain ⟨hz,hS,vs,r,m⟩:kvs.length<=sizeLine/\(p == sysModules)=false/\∃ vs,KV kvs vs/\s.heap.DictOf (Cj X.prog X.w) p vs:=I.hok p _ hx
   have hlen:kvs.length=vs.length:=Paired.length r
   exact wpAny_truthy_dict hS m (by omega) ⟨H,I.tok _,by rw [Nz r]; exact q⟩
 | _=>exact (show False from e).elim
theorem Jz (ha:PE X a ta) (he:∀ whole,isTrue a X.env whole=(do let v ← whole; standAt a.pos; holding [v] (truthy v))) :
  PT X a (fun σ H Q=>ta σ H fun x H'=>∃ k,az X.K x H' k/\Q k H'):=by
 intro pins s σ H Q I h
 exact isTrue_plain (CN (ha pins s σ H _ I h) fun v s1 ⟨x,H1,I1,r1,q1⟩=>X4 pins s1 σ H1 x v Q I1 r1 q1) (he _)
theorem Hc:Gp X (binaryOp .Add) (fun x y H Q=>∃ i j,x=.str i/\y=.str j/\i.length+j.length<=sizeLine/\Q (.str (i++j)) H):=by
 intro pins s σ H x y v u Q I rx ry h
 obtain ⟨i,j,rfl,rfl,hz,q⟩:=h
 obtain ⟨t,rfl⟩:=rx
 obtain ⟨t',rfl⟩:=ry
 exact add_str (fun t' tk=>⟨.str (i++j),H,I.tok _,⟨_,rfl⟩,q⟩) hz
theorem vals1 {x:V} {us:List Value} (r:Vals [x] us):∃ u,us=[u]/\RelV x u:=by
 cases r with
 | cons r1 r2=>cases r2; exact ⟨_,rfl,r1⟩
theorem vals2 {x y:V} {us:List Value} (r:Vals [x,y] us):∃ u w',us=[u,w']/\RelV x u/\RelV y w':=by
 cases r with
 | cons r1 r2 =>
  cases r2 with
  | cons r3 r4=>cases r4; exact ⟨_,_,rfl,r1,r3⟩
theorem Q8 (hc:X.calm=true):Fg X (.builtin "max") (fun xs H Q=>∃ i j,xs=[.int i,.int j]/\Q (.int (if j > i then j else i)) H):=by
 intro pins s σ H xs us Q I r h
 obtain ⟨i,j,rfl,q⟩:=h
 obtain ⟨u,w',rfl,⟨t,rfl⟩,⟨t',rfl⟩⟩:=vals2 r
 refine max_two_ints (I.ok.hd hc) fun h' tk k=>⟨_,H,I.kept k,?_,q⟩
 by_cases hj:j > i
 ·rw [if_pos hj,if_pos hj]; exact ⟨_,rfl⟩
 ·rw [if_neg hj,if_neg hj]; exact ⟨_,rfl⟩
theorem Kp:Fg X (.type "int") (fun xs H Q=>(∃ i,xs=[.int i]/\Q (.int i) H) \/ ∃ k,xs=[.bl k]/\Q (.int (if k then 1 else 0)) H):=by
 intro pins s σ H xs us Q I r h
 rcases h with ⟨i,rfl,q⟩ | ⟨k,rfl,q⟩
 ·obtain ⟨u,rfl,t,rfl⟩:=vals1 r
  exact call_int_int ⟨.int i,H,I,⟨_,rfl⟩,q⟩
 ·obtain ⟨u,rfl,r1⟩:=vals1 r
  cases r1
  exact call_int_bool ⟨.int (if k then 1 else 0),H,I.tok _,⟨_,rfl⟩,q⟩
end
end L2
namespace L2
open PySem PySem.Spec PyProof.Rows
structure Nm (h:Heap) (x dx C:Addr) (mA:Str->Option Value):Prop where
 obj:h.get? x=some (PySem.W.instObj C dx)
 ns:h.Ns1 dx mA
 ne:dx ≠ x
theorem QL {h:Heap} {dx:Addr} {mA:Str->Option Value} (n:h.Ns1 dx mA):∃ od,h.get? dx=some od/\∀ name,PySem.W.lookIn name od=some (mA name):=by
 obtain ⟨o,es,ep,ho,hd,hk,_,hm⟩:=n
 refine ⟨o,ho,fun name=>?_⟩
 have e:=hm name
 unfold nsFind findBy at e
 rw [← Array.find?_toList] at e
 unfold PySem.W.lookIn
 rw [hd]
 dsimp only
 split
 ·rename_i y q
  rw [q] at e
  exact congrArg some e
 ·rename_i q
  rw [q] at e
  have a:es.toList.any (·.refKey)=false:=by
   rw [List.any_eq_false]
   intro y hy
   obtain ⟨z,t,hkey⟩:=hk y (Array.mem_toList_iff.mp hy)
   simp [DictEntry.refKey,hkey]
  have a':¬ es.toList.any (·.refKey)=true:=by rw [a]; exact Bool.false_ne_true
  rw [if_neg a']
  exact congrArg some e
theorem Nm.look {h:Heap} {x dx C:Addr} {mA:Str->Option Value} (I:Nm h x dx C mA):∃ od,PySem.W.InstAt h x (PySem.W.instObj C dx) C (some od)/\∀ name,PySem.W.lookIn name od=some (mA name) :=
 let ⟨od,ho,hl⟩:=QL I.ns
 ⟨od,⟨I.obj,rfl,rfl,ho⟩,hl⟩
section
variable {prog:Program} {w:World} {A:Around} {E:Value->Shared->Prop} {s:Shared} {K:PySem.W.Frag} {x dx C f:Addr} {mA:Str->Option Value} {name:Str} {v:Value}
theorem VD {expr:Bool} {Q:Value->Shared->Prop} (X:K.In s.heap) (I:Nm s.heap x dx C mA) (hg:PySem.W.plainGet K C name=true) (hh:PySem.W.hasDictIn K C=true)
  (ha:PySem.W.findIn K (.ref C) name=some none) (hv:mA name=some v) (hv':PySem.W.handedIn v=true) (h:Q v { s with toks:=s.toks+1 }) :
  wpAny (model prog w) A (getAttr (.ref x) name expr) Q E s:=by
 obtain ⟨od,J,hl⟩:=I.look
 exact PySem.W.get_value X J (PySem.W.plainGet_of hg).1 (PySem.W.findObj_own hh ha rfl (by rw [hl,hv])) hv' h
theorem Rv {pl:Sem Bool} {Q:Value × List Value->Shared->Prop} (X:K.In s.heap) (I:Nm s.heap x dx C mA) (hg:PySem.W.plainGet K C name=true)
  (hf:PySem.W.findIn K (.ref C) name=some (some (.ref f))) (ht:PySem.W.isFn K (.ref f)=true) (hv:mA name=none) (h:Q (.ref f,[.ref x]) s) :
  wpAny (model prog w) A (getMethod (.ref x) name pl) Q E s:=by
 obtain ⟨od,J,hl⟩:=I.look
 exact PySem.W.method_fn X J (PySem.W.plainGet_of hg).1 (PySem.W.plainGet_of hg).2 hf (beq_iff_eq.mp ht) (by show (PySem.W.lookIn name od).map (·.isSome)=some false; rw [hl,hv]; rfl) h
theorem Ur {ns:List Str} {Q:Unit->Shared->Prop} (X:K.In s.heap) (I:Nm s.heap x dx C mA)
  (hs:PySem.W.findIn K (.ref C) "__setattr__" = some (some (.builtin "object.__setattr__"))) (hp:PySem.W.plainOver K C=true) (ht:PySem.W.takerIn K C name=some none) (hh:PySem.W.hasDictIn K C=true)
  (hw:PySem.Within mA ns) (hsz:ns.length<=sizeLine)
  (h:∀ h',Nm h' x dx C (fun y=>if y=name then some v else mA y)->Heap.SameBut dx s.heap h'->Q () { s with heap:=h',toks:=s.toks+2 }) :
  wpAny (model prog w) A (setAttr (.ref x) name v) Q E s:=by
 obtain ⟨od,J,hl⟩:=I.look
 refine PySem.W.set_plain X J hs (PySem.W.osa_open (s:={ s with toks:=s.toks+1 }) (r:=none) X J hp ht fun b=>?_)
 obtain ⟨cd,hc,hd'⟩:=PySem.W.any_some hh
 have hx:s.heap.get? x=some ⟨.ref C,some dx,.plain,#[]⟩:=I.obj
 refine wpAny_bind (wpAny_pure (wpAny_bind (wpAny_bind (wpAny_loadPart hx (wpAny_bind (PySem.W.Looks.here (s:={ s with toks:=s.toks+1 }) (PySem.W.looks_clsIn X hc) ?_))))))
 rw [hd']
 refine wpAny_pure (a:=some dx) (wpAny_bind (wpAny_pure (wpAny_bind ?_)))
 refine wpAny_nsSet1 (s:={ s with toks:=s.toks+1 }) I.ns fun h' hn2 hs2=>?_
 obtain ⟨oD,esD,epD,hoD,hdD,hcD⟩:=hn2.count (PySem.Within.cons name v hw)
 refine wpAny_bind (wpAny_lookBehind hoD (by rw [hdD]; exact pastItsLine_dict (Nat.le_trans hcD (by rw [List.length_cons]; omega))) ?_)
 exact wpAny_pure (h _ ⟨(hs2.2 _ (Ne.symm I.ne)).trans I.obj,hn2,I.ne⟩ hs2)
theorem Rk {R:Result->Shared->Prop} {vs:List Value} {kw:List (Str × Value)} (X:K.In s.heap) (hm:PySem.W.makesIn K C=true)
  (hi:PySem.W.findIn K (.ref C) "__init__" = some (some (.ref f))) (hf:PySem.W.typeIn K (.ref f)=some (.type "function"))
  (h:codeAny (model prog w) (A.under (.builtin "type.__call__" ⟨.ref C::vs,kw⟩)) (.call (.ref f) ⟨.ref (s.heap.objs.size+1)::vs,kw⟩) (PySem.W.InitBack (s.heap.objs.size+1) R)
   { s with heap:=(s.heap.push PySem.W.emptyDict).push (PySem.W.instObj C s.heap.objs.size) }) :
  codeAny (model prog w) A (.call (.ref C) ⟨vs,kw⟩) R s:=by
 obtain ⟨hh,g,d,t,os⟩:=s
 exact PySem.W.make_core (PySem.W.makes_of X hm) (PySem.W.looks_findIn X hi) (fun self=>PySem.W.bind_fn X self hf) (.inl rfl) h
end
noncomputable def Bj (f:Str) (v:V):List (Str × V)->List (Str × V)
 | []=>[(f,v)]
 | (g,x)::r=>if g=f then (g,v)::r else (g,x)::Bj f v r
theorem Ay (f g:Str) (v:V):∀ fs:List (Str × V),(Bj f v fs).lookup g=if g=f then some v else fs.lookup g
 | []=>by
  show List.lookup g [(f,v)]=_
  by_cases h:g=f
  ·have hb:(g == f)=true:=beq_iff_eq.mpr h
   simp only [List.lookup,hb,if_pos h]
  ·have hb:(g == f)=false:=beq_eq_false_iff_ne.mpr h
   simp only [List.lookup,hb,if_neg h]
 | (k,x)::r=>by
  have ih:=Ay f g v r
  rw [show Bj f v ((k,x)::r)=(if k=f then (k,v)::r else (k,x)::Bj f v r) from rfl]
  by_cases hk:k=f
  ·rw [if_pos hk]
   by_cases h:g=k
   ·have hb:(g == k)=true:=beq_iff_eq.mpr h
    simp only [List.lookup,hb,if_pos (h.trans hk)]
   ·have hb:(g == k)=false:=beq_eq_false_iff_ne.mpr h
    simp only [List.lookup,hb,if_neg (fun e:g=f=>h (e.trans hk.symm))]
  ·rw [if_neg hk]
   by_cases h:g=k
   ·have hb:(g == k)=true:=beq_iff_eq.mpr h
    simp only [List.lookup,hb,if_neg (fun e:g=f=>hk (h.symm.trans e))]
   ·have hb:(g == k)=false:=beq_eq_false_iff_ne.mpr h
    simp only [List.lookup,hb]
    exact ih
theorem Ik (f:Str) (v:V):∀ fs:List (Str × V),f∈(Bj f v fs).map (·.1)/\∀ g,g∈fs.map (·.1)->g∈(Bj f v fs).map (·.1)
 | []=>⟨by simp [Bj],fun g h=>by simp at h⟩
 | (k,x)::r=>by
  obtain ⟨i1,i2⟩:=Ik f v r
  rw [show Bj f v ((k,x)::r)=(if k=f then (k,v)::r else (k,x)::Bj f v r) from rfl]
  by_cases hk:k=f
  ·rw [if_pos hk]
   subst hk
   exact ⟨by simp,fun g h=>by simpa using h⟩
  ·rw [if_neg hk]
   refine ⟨?_,fun g h=>?_⟩
   ·rw [List.map_cons]
    exact List.mem_cons_of_mem _ i1
   ·rw [List.map_cons] at h ⊢
    rcases List.mem_cons.mp h with e | e
    ·exact List.mem_cons.mpr (.inl e)
    ·exact List.mem_cons_of_mem _ (i2 g e)
theorem JL (f:Str) (v:V):∀ fs:List (Str × V),(Bj f v fs).length<=fs.length+1
 | []=>by simp [Bj]
 | (k,x)::r=>by
  have ih:=JL f v r
  rw [show Bj f v ((k,x)::r)=(if k=f then (k,v)::r else (k,x)::Bj f v r) from rfl]
  by_cases hk:k=f
  ·rw [if_pos hk,List.length_cons,List.length_cons]; omega
  ·rw [if_neg hk,List.length_cons,List.length_cons]; omega
theorem Gs.some_of {v:V} {o:Option Value} (r:Gs (some v) o):∃ u,o=some u/\RelV v u:=by
 cases o with
 | none=>exact (show False from r).elim
 | some u=>exact ⟨u,rfl,r⟩
theorem Gs.none_of {o:Option Value} (r:Gs none o):o=none:=by
 cases o with
 | none=>rfl
 | some u=>exact (show False from r).elim
theorem Q3 {v:V} {u:Value} (r:RelV v u):PySem.W.handedIn u=true:=by
 cases v with
 | non=>cases (show u=Value.none from r); rfl
 | bl b=>cases (show u=Value.bool b from r); rfl
 | int i=>obtain ⟨t,e⟩:=(show ∃ t,u=Value.int i t from r); cases e; rfl
 | str x=>obtain ⟨t,e⟩:=(show ∃ t,u=Value.str x t from r); cases e; rfl
 | byt b=>obtain ⟨t,e⟩:=(show ∃ t,u=Value.bytes b t from r); cases e; rfl
 | flt b=>obtain ⟨t,e⟩:=(show ∃ t,u=Value.float b t from r); cases e; rfl
 | ref a=>cases (show u=Value.ref a from r); rfl
 | ty n=>cases (show u=Value.type n from r); rfl
section
variable {P:Program} {w:World} {H H':Hp} {h h':Heap} {a C dx:Addr} {fs fs':List (Str × V)}
theorem JW (hok:Hn P w H h) (e:H a=some (.ins C dx fs)):∃ mA,Nm h a dx C mA/\(∀ f,Gs (fs.lookup f) (mA f))/\PySem.Within mA (fs.map (·.1))/\fs.length<=1000/\H dx=some (.own a):=by
 obtain ⟨d,z,ne,ob,mA,n,r,q⟩:=(show Ce P w H h a (.ins C dx fs) from hok a _ e)
 exact ⟨mA,⟨ob,n,ne⟩,r,q,z,d⟩
end
structure RP (K:PySem.W.Frag) (C:Addr):Prop where
 pg:PySem.W.plainGet K C Str.empty=true
 hd:PySem.W.hasDictIn K C=true
 po:PySem.W.plainOver K C=true
 sa:PySem.W.findIn K (.ref C) "__setattr__" = some (some (.builtin "object.__setattr__"))
theorem RP.get {K:PySem.W.Frag} {C:Addr} (c:RP K C) (f:Str):PySem.W.plainGet K C f=true:=c.pg
noncomputable def Dk (K:PySem.W.Frag) (C:Addr) (f:Str):Prop:=PySem.W.findIn K (.ref C) f=some none
theorem Dk.taker {K:PySem.W.Frag} {C:Addr} {f:Str} (n:Dk K C f):PySem.W.takerIn K C f=some none:=by
 unfold PySem.W.takerIn
 rw [show PySem.W.findIn K (.ref C) f=some none from n]
 rfl
structure Meth (K:PySem.W.Frag) (C:Addr) (m:Str) (f:Addr):Prop where
 at_:PySem.W.findIn K (.ref C) m=some (some (.ref f))
 fn:PySem.W.isFn K (.ref f)=true
 kp:PySem.W.keepIn K (.ref f)=true
section
variable {X:Cx} {pins:List (Addr × Obj)} {σ:St} {H:Hp} {s:Shared} {a C dx:Addr} {fs:List (Str × V)} {f:Str} {v:V} {A:Around} {E:Value->Shared->Prop}
theorem NT {b:Bool} {Q:Value->Shared->Prop} (I:Inv X pins σ H s) (e:H a=some (.ins C dx fs)) (c:RP X.K C) (n:Dk X.K C f) (l:fs.lookup f=some v)
  (h:∀ u s',Inv X pins σ H s'->RelV v u->Q u s'):wpAny (model X.prog X.w) A (getAttr (.ref a) f b) Q E s:=by
 obtain ⟨mA,O,r,_,_,_⟩:=JW I.hok e
 obtain ⟨u,hu,ru⟩:=Gs.some_of (v:=v) (o:=mA f) (by rw [← l]; exact r f)
 exact VD I.Ii O (c.get f) c.hd n hu (Q3 ru) (h u _ (I.tok _) ru)
theorem Jc {m:Str} {g:Addr} {pl:Sem Bool} {Q:Value × List Value->Shared->Prop} (I:Inv X pins σ H s) (e:H a=some (.ins C dx fs)) (c:RP X.K C) (k:Meth X.K C m g) (l:fs.lookup m=none)
  (h:Q (.ref g,[.ref a]) s):wpAny (model X.prog X.w) A (getMethod (.ref a) m pl) Q E s:=by
 obtain ⟨mA,O,r,_,_,_⟩:=JW I.hok e
 have hn:mA m=none:=Gs.none_of (by rw [← l]; exact r m)
 exact Rv I.Ii O (c.get m) k.at_ k.fn hn h
theorem NK {y:V} {u:Value} {Q:Unit->Shared->Prop} (I:Inv X pins σ H s) (e:H a=some (.ins C dx fs)) (c:RP X.K C) (n:Dk X.K C f) (hl:fs.length<1000) (ry:RelV y u)
  (h:∀ s',Inv X pins σ (upd H a (.ins C dx (Bj f y fs))) s'->Q () s'):wpAny (model X.prog X.w) A (setAttr (.ref a) f u) Q E s:=by
 obtain ⟨mA,O,r,wi,_,ho⟩:=JW I.hok e
 have hz:(fs.map (·.1)).length<=sizeLine:=by rw [List.length_map,sizeLine_eq]; omega
 refine Ur I.Ii O c.sa c.po n.taker c.hd wi hz fun h' O' sb=>h _ ?_
 have hd:∃ o,h'.get? dx=some o:=let ⟨o,_,_,e',_⟩:=O'.ns; ⟨o,e'⟩
 refine I.write (x:=a) (e:=dx) (by rw [e]; exact True.intro) (.inr ho) (fun b q hb z=>(sb.2 b hb).trans z) hd ?_
 refine ⟨by rw [BP O.ne]; exact ho,?_,O.ne,O'.obj,_,O'.ns,fun g=>?_,fun g hg=>?_⟩
 ·have:=JL f y fs; omega
 ·show Gs ((Bj f y fs).lookup g) (if g=f then some u else mA g)
  rw [Ay]
  by_cases q:g=f
  ·rw [if_pos q,if_pos q]; exact ry
  ·rw [if_neg q,if_neg q]; exact r g
 ·by_cases q:g=f
  ·rw [q]; exact (Ik f y fs).1
  ·refine (Ik f y fs).2 g (wi g fun z=>hg ?_)
   show (if g=f then some u else mA g)=none
   rw [if_neg q]; exact z
theorem Inv.made (I:Inv X pins σ H s):Inv X pins σ (upd (upd H s.heap.objs.size (.own (s.heap.objs.size+1))) (s.heap.objs.size+1) (.ins C s.heap.objs.size []))
  { s with heap:=(s.heap.push PySem.W.emptyDict).push (PySem.W.instObj C s.heap.objs.size) }:=by
 have e1:(s.heap.push PySem.W.emptyDict).get? s.heap.objs.size=some PySem.W.emptyDict:=Heap.get?_push_size s.heap rfl
 have e2:((s.heap.push PySem.W.emptyDict).push (PySem.W.instObj C s.heap.objs.size)).get? (s.heap.objs.size+1)=some (PySem.W.instObj C s.heap.objs.size):=by
  have:=Heap.get?_push_size (s.heap.push PySem.W.emptyDict) (o:=PySem.W.instObj C s.heap.objs.size) rfl
  rwa [Heap.size_push] at this
 have e3:(s.heap.push PySem.W.emptyDict).Ns s.heap.objs.size (fun _=>none):=⟨PySem.W.emptyDict,#[],_,e1,rfl,(fun e he=>absurd he (by simp)),fun _=>rfl⟩
 have I1:=I.laid (a:=s.heap.objs.size) (o:=.own (s.heap.objs.size+1)) (h':=s.heap.push PySem.W.emptyDict) (t':=s.toks) (fun b u q=>Heap.get?_push_of_some _ q) (Nat.le_refl _) ⟨_,e1⟩
 refine I1.laid (a:=s.heap.objs.size+1) (o:=.ins C s.heap.objs.size []) (t':=s.toks) (fun b u q=>Heap.get?_push_of_some _ q) (Nat.le_of_eq (Heap.size_push _ _)) ?_
 have ne:s.heap.objs.size ≠ s.heap.objs.size+1:=Nat.ne_of_lt (Nat.lt_succ_self _)
 refine ⟨by rw [BP ne,Aj],Nat.zero_le _,ne,e2,fun _=>none,(Heap.Ns1.of_empty e3).at fun o q=>Heap.get?_push_of_some _ q,fun _=>True.intro,fun y hy=>absurd rfl hy⟩
theorem Ul {prog:Program} {w:World} {env:Env} {e:Expr} {f:Str} {pos:Pos} {s:Shared} {Q:Value->Shared->Prop} (hb:attributeBase e f env (eval e env)=eval e env)
  (h:wpAny (model prog w) A (eval e env) (fun o s₁=>wpAny (model prog w) A (getAttr o f true) Q E s₁) E s):wpAny (model prog w) A (eval (.Attribute e f pos) env) Q E s :=
 Attribute_any_ h (by rw [arm_eval_Attribute,hb])
end
noncomputable def jG (K:PySem.W.Frag) (ta:TE) (f:Str):TE:=fun σ H Q=>ta σ H fun x H1=>∃ a C dx fs v,x=.ref a/\H1 a=some (.ins C dx fs)/\RP K C/\Dk K C f/\fs.lookup f=some v/\Q v H1
noncomputable def fj (K:PySem.W.Frag) (ta tv:TE) (f:Str):TS:=fun D σ H=>tv σ H fun y H1=>ta σ H1 fun x H2=>∃ a C dx fs,x=.ref a/\H2 a=some (.ins C dx fs)/\RP K C/\Dk K C f/\fs.length<1000 /\
 D.nx σ (upd H2 a (.ins C dx (Bj f y fs)))
section
variable {X:Cx} {o e value:Expr} {f:Str} {pos pos' tpos:Pos} {ta tv:TE}
theorem Ck (he:PE X e ta) (hb:attributeBase e f X.env (eval e X.env)=eval e X.env):PE X (.Attribute e f pos) (jG X.K ta f):=by
 intro pins s σ H Q I h
 refine Ul hb (CN (he pins s σ H _ I h) fun u s1 hq0=>?_)
 obtain ⟨x,H1,I1,rx,a,C,dx,fs,v,ex,ea,c,n,l,q⟩:=hq0
 subst ex
 obtain rfl:u=Value.ref a:=rx
 exact NT I1 ea c n l fun u' s2 I2 ru=>⟨v,H1,I2,ru,q⟩
theorem Fe (ha:PE X o ta) (hv:PE X value tv) (hs:swapsWith value (some (.Attribute o f pos')) pos.line X.env=pure false):PS X (.Assign [.Attribute o f pos'] value pos) (fj X.K ta tv f):=by
 intro pins s σ H D I h
 refine plainObj_wpAny_Assign_Attribute (CN (hv pins s σ H _ I h) fun u s1 ⟨y,H1,I1,ry,q⟩=>CN (ha pins s1 σ H1 _ I1 q) fun ov s2 ⟨x,H2,I2,rx,a,C,dx,fs,ex,ea,c,n,l,q2⟩=>?_) hs
 subst ex
 obtain rfl:ov=Value.ref a:=rx
 exact NK I2 ea c n l ry fun s3 I3=>⟨σ,_,I3,q2⟩
end
section
variable {X:Cx} {pins:List (Addr × Obj)} {σ:St} {H:Hp} {s:Shared} {A:Around} {E:Value->Shared->Prop} {Q:Value->Shared->Prop} {c:Value} {b:Bool}
inductive Io (K:PySem.W.Frag) (H:Hp):V->Value->Prop where
 | non:Io K H .non (.type "NoneType")
 | bl (x:Bool):Io K H (.bl x) (.type "bool")
 | int (i:Int):Io K H (.int i) (.type "int")
 | str (x:Str):Io K H (.str x) (.type "str")
 | flt (x:UInt64):Io K H (.flt x) (.type "float")
 | lst {a:Addr} {xs:List V} (e:H a=some (.lst xs)):Io K H (.ref a) (.type "list")
 | frz {a:Addr} {o:Obj} {xs:List V} (e:H a=some (.frz o (.lst xs))):Io K H (.ref a) (.type "list")
 | tup {a:Addr} {xs:List V} (e:H a=some (.tup xs)):Io K H (.ref a) (.type "tuple")
 | dK {a:Addr} {kvs:List (Key × V)} (e:H a=some (.dK kvs)):Io K H (.ref a) (.type "dict")
 | dT {a:Addr} {kvs:List (List Key × V)} (e:H a=some (.dT kvs)):Io K H (.ref a) (.type "dict")
 | ins {a C dx:Addr} {fs:List (Str × V)} (e:H a=some (.ins C dx fs)) (cl:RP K C) (ha:PySem.W.findIn K (.ref C) "__class__" = some (some (.builtin "object.__class__")))
   (hn:PySem.W.specialIn K (.builtin "object.__class__") "__get__" = some (some (.builtin "getset_descriptor.__get__"))) (htk:PySem.W.takesIn K (.builtin "object.__class__")=some true)
   (hm:PySem.W.mroIn K C (.type "object")=some true):Io K H (.ref a) (.ref C)
theorem Q_ {x:V} {u t:Value} (I:Inv X pins σ H s) (rx:RelV x u) (ty:Io X.K H x t) (e:PySem.W.kitOne X.K t c=some b) (h:∀ tk,Q (.bool b) { s with toks:=tk }) :
  wpAny (model X.prog X.w) A (call (.builtin "isinstance") [u,c]) Q E s:=by
 cases ty with
 | non=>cases (show u=Value.none from rx); exact PySem.W.kia_one PySem.W.kitx_none I.Ii True.intro e (fun z=>nomatch z) h
 | bl y=>cases (show u=Value.bool y from rx); exact PySem.W.kia_one PySem.W.kitx_bool I.Ii True.intro e (fun z=>nomatch z) h
 | int i=>obtain ⟨t,q⟩:=(show ∃ t,u=Value.int i t from rx); cases q; exact PySem.W.kia_one PySem.W.kitx_int I.Ii True.intro e (fun z=>nomatch z) h
 | str y=>obtain ⟨t,q⟩:=(show ∃ t,u=Value.str y t from rx); cases q; exact PySem.W.kia_one PySem.W.kitx_str I.Ii True.intro e (fun z=>nomatch z) h
 | flt y=>obtain ⟨t,q⟩:=(show ∃ t,u=Value.float y t from rx); cases q; exact PySem.W.kia_one PySem.W.kitx_float I.Ii True.intro e (fun z=>nomatch z) h
 | @lst a xs ea =>
  cases (show u=Value.ref a from rx)
  obtain ⟨_,_,n,_,h1⟩:=(show Ce X.prog X.w H s.heap a (.lst xs) from I.hok a _ ea)
  exact PySem.W.kia_one PySem.W.kitx_list I.Ii ⟨_,h1,rfl⟩ e (fun z=>nomatch z) h
 | @frz a ob xs ea =>
  cases (show u=Value.ref a from rx)
  obtain ⟨_,_,_,n,_,h1⟩:=(show Ce X.prog X.w H s.heap a (.frz ob (.lst xs)) from I.hok a _ ea)
  exact PySem.W.kia_one PySem.W.kitx_list I.Ii ⟨_,h1,rfl⟩ e (fun z=>nomatch z) h
 | @tup a xs ea =>
  cases (show u=Value.ref a from rx)
  obtain ⟨_,_,_,p⟩:=(show Ce X.prog X.w H s.heap a (.tup xs) from I.hok a _ ea)
  obtain ⟨o,h1,h2,_⟩:=p
  exact PySem.W.kia_one PySem.W.kitx_tuple I.Ii ⟨o,h1,h2⟩ e (fun z=>nomatch z) h
 | @dK a kvs ea =>
  cases (show u=Value.ref a from rx)
  obtain ⟨_,_,vs,_,p⟩:=(show Ce X.prog X.w H s.heap a (.dK kvs) from I.hok a _ ea)
  obtain ⟨o,es,ep,h1,h2,_⟩:=p
  exact PySem.W.kia_one PySem.W.kitx_dict I.Ii ⟨o,h1,h2.1⟩ e (fun z=>nomatch z) h
 | @dT a kvs ea =>
  cases (show u=Value.ref a from rx)
  obtain ⟨_,_,xs,_,o,es,ep,h1,h2,_⟩:=(show Ce X.prog X.w H s.heap a (.dT kvs) from I.hok a _ ea)
  exact PySem.W.kia_one PySem.W.kitx_dict I.Ii ⟨o,h1,h2.1⟩ e (fun z=>nomatch z) h
 | @ins a C dx fs ea cl ha hn htk hm =>
  cases (show u=Value.ref a from rx)
  obtain ⟨mA,O,_⟩:=JW I.hok ea
  obtain ⟨od,J,_⟩:=O.look
  exact PySem.W.kia_one (PySem.W.kitx_own (cl.get _) cl.hd ha hn htk hm) I.Ii J e (fun z=>nomatch z) h
end
end L2
namespace L2
open PySem PySem.Spec PyProof.Rows
structure BR (k:Nat) (A:Around):Prop where
 hd:A.handled=none
 dp:A.depth+3 * k+5<recursionLimit
 un:A.units+16 * k+200<cLine
theorem BR.mono {j k:Nat} {A:Around} (r:BR k A) (h:j<=k):BR j A:=⟨r.hd,by have:=r.dp; omega,by have:=r.un; omega⟩
theorem BR.deeper {k:Nat} {A:Around} (r:BR (k+1) A) (env:Env):BR k (A.deeper env) :=
 ⟨r.hd,by have:=r.dp; show A.depth+1+3 * k+5<_; omega,by have:=r.un; show A.units+3+16 * k+200<_; omega⟩
theorem Np {A:Around} {C:Addr} {us:List Value} {kw:List (Str × Value)}:(A.under (.builtin "type.__call__" ⟨.ref C::us,kw⟩)).depth=A.depth+1:=by
 first | rfl | simp [Around.under,Code.weight,Code.isCreation,Code.isGuard,Code.isCaller,Code.frames,Code.isFrame,guardIds]
theorem Ox {A:Around} {C:Addr} {us:List Value} {kw:List (Str × Value)}:(A.under (.builtin "type.__call__" ⟨.ref C::us,kw⟩)).units=A.units+1:=by
 first | rfl | simp [Around.under,Code.cUnits,Code.frames,Code.isFrame]
theorem BR.make {k:Nat} {A:Around} (r:BR (k+1) A) (C:Addr) (us:List Value) (kw:List (Str × Value)):BR k (A.under (.builtin "type.__call__" ⟨.ref C::us,kw⟩)) :=
 ⟨r.hd,by have:=r.dp; rw [Np]; omega,by have:=r.un; rw [Ox]; omega⟩
theorem BR.depth {k:Nat} {A:Around} (r:BR k A):A.depth<recursionLimit:=by have:=r.dp; omega
theorem BR.units {k:Nat} {A:Around} (r:BR k A):A.units+64<cLine:=by have:=r.un; omega
noncomputable def cX:TA:=fun _ H Q=>Q [] H
noncomputable def Z4 (ta:TE) (tr:TA):TA:=fun σ H Q=>ta σ H fun x H1=>tr σ H1 fun xs H2=>Q (x::xs) H2
section
variable {X:Cx} {e:Expr} {es:List Expr} {te:TE} {t:TA} {pos:Pos}
theorem Ac:PA X [] cX:=fun _ _ _ _ H Q I h=>Calls.spliced_nil ⟨[],H,I,.nil,h⟩
theorem Aa (ha:PE X e te) (hr:PA X es t) (hs:starEach (e::es) X.env=(false,eval e X.env)::starEach es X.env:=by rfl):PA X (e::es) (Z4 te t):=by
 intro pos pins s σ H Q I h
 rw [hs]
 show wpAny _ _ (spliced ((false,eval e X.env)::backTo pos (starEach es X.env))) _ _ s
 refine Calls.spliced_cons (CN (ha pins s σ H _ I h) fun u s1 hq0=>?_)
 obtain ⟨x,H1,I1,r1,q1⟩:=hq0
 exact CN (hr pos pins s1 σ H1 _ I1 q1) fun us s2 ⟨xs,H2,I2,r2,q2⟩=>⟨x::xs,H2,I2,.cons r1 r2,q2⟩
noncomputable def jk (t:TA):TE:=fun σ H Q=>t σ H fun xs H1=>xs.length<=sizeLine/\∀ p,H1 p=none->Q (.ref p) (upd H1 p (.tup xs))
noncomputable def gF (t:TA):TE:=fun σ H Q=>t σ H fun xs H1=>xs.length<=sizeLine/\∀ p,H1 p=none->Q (.ref p) (upd H1 p (.lst xs))
theorem CQ {x1} (h:PA X es t):PE X (.Tuple es x1 pos) (jk t):=by
 intro pins s σ H Q I hq
 refine wpAny_Tuple_spliced (CN (h pos pins s σ H _ I hq) fun us s1 ⟨xs,H1,I1,r,z,q⟩=>⟨by rw [← r.length]; exact z,?_⟩)
 have hf:H1 s1.heap.objs.size=none:=I1.hok.fresh (Nat.le_refl _)
 refine ⟨.ref s1.heap.objs.size,upd H1 s1.heap.objs.size (.tup xs),I1.laid (t':=s1.toks) (fun b u e=>Heap.get?_push_of_some _ e) (Nat.le_refl _) ?_,rfl,q _ hf⟩
 exact ⟨z,us,r,⟨_,Heap.get?_push_size _ rfl,rfl,_,rfl⟩⟩
theorem Df (h:PA X es t):PE X (.List es pos) (gF t):=by
 intro pins s σ H Q I hq
 refine wpAny_List_spliced (CN (h pos pins s σ H _ I hq) fun us s1 ⟨xs,H1,I1,r,z,q⟩=>⟨by rw [← r.length]; exact z,?_⟩)
 have hf:H1 s1.heap.objs.size=none:=I1.hok.fresh (Nat.le_refl _)
 refine ⟨.ref s1.heap.objs.size,upd H1 s1.heap.objs.size (.lst xs),I1.laid (t':=s1.toks) (fun b u e=>Heap.get?_push_of_some _ e) (Nat.le_refl _) ?_,rfl,q _ hf⟩
 exact ⟨z,us,0,r,Heap.get?_push_size _ rfl⟩
end
noncomputable abbrev Sp:=List V->Hp->VK->XK->Prop
noncomputable abbrev Ra:=List Env->Hp->Shared->XK->Value->Shared->Prop
structure Ow (P:Program) (w:World) (K:PySem.W.Frag) (mg:Str->Option Value) (base:Heap) (A:Around) (outer:List Env) (s:Shared) (H:Hp):Prop where
 frames:A.frames=some outer
 mod:Mod K mg base
 bs:∀ b o,base.get? b=some o->s.heap.get? b=some o/\H b=none
 bsz:base.objs.size<=s.heap.objs.size
 JR:s.heap.FunFrames base outer
 frf:∀ b∈frs outer,H b=none
 hok:Hn P w H s.heap
 bare:AllBare s.gens
noncomputable def CE (outer:List Env) (P:Program) (w:World) (H:Hp) (s:Shared) (Q:VK) (u:Value) (s':Shared):Prop :=
 ∃ v H',s'.os=s.os/\AllBare s'.gens/\Un (frs outer) [] H H' s.heap s'.heap/\Hn P w H' s'.heap/\RelV v u/\Q v H'
noncomputable def CR (CX:Ra) (outer:List Env) (P:Program) (w:World) (H:Hp) (s:Shared) (Q:VK) (E:XK) (r:Result) (s':Shared):Prop :=
 match r with
 | .ok (.ret u)=>CE outer P w H s Q u s'
 | .ok _=>False
 | .error e=>CX outer H s E e s'
structure Aq (P:Program) (w:World) (K:PySem.W.Frag) (mg:Str->Option Value) (base:Heap) (CX:Ra) (k:Nat) (f:Addr) (fd:FuncData) (ps:List Str) (sp:Sp):Prop where
 len:∀ vs H Q E,sp vs H Q E->vs.length=ps.length
 run:∀ (A:Around) (outer:List Env) (s:Shared) (H:Hp) (args:Args) (us:List Value) (vs:List V) (Q:VK) (E:XK),BR k A->Ow P w K mg base A outer s H->BindsTo s fd args (ps.zip us)->Vals vs us->sp vs H Q E ->
  codeAny (model P w) A (.call (.ref f) args) (CR CX outer P w H s Q E) s
theorem Ow.make {P:Program} {w:World} {K:PySem.W.Frag} {mg:Str->Option Value} {base:Heap} {A:Around} {outer:List Env} {s:Shared} {H:Hp} (e:Ow P w K mg base A outer s H) (C:Addr) (us:List Value) (kw:List (Str × Value)) :
  Ow P w K mg base (A.under (.builtin "type.__call__" ⟨.ref C::us,kw⟩)) outer s H:=⟨by first | exact e.frames | (simpa [Around.under,Code.envs,Code.isFrame,pushEnvs] using e.frames),e.mod,e.bs,e.bsz,e.JR,e.frf,e.hok,e.bare⟩
section
variable {X:Cx} {pins:List (Addr × Obj)} {σ:St} {H:Hp} {s s':Shared}
theorem Inv.env0 (I:Inv X pins σ H s):Ow X.prog X.w X.K X.mg X.base X.A X.stack s H :=
 ⟨I.ok.frames,I.ok.mod,I.bs,Nat.le_trans I.ok.bsz I.sz,I.stack,I.K3,I.hok,I.bare⟩
theorem Inv.after {Q:VK} {u:Value} (I:Inv X pins σ H s) (h:CE X.stack X.prog X.w H s Q u s'):EP X pins σ Q u s':=by
 obtain ⟨v,H',os,bare,un,hok,r,q⟩:=h
 obtain ⟨hh,g,d,t,os'⟩:=s'
 obtain rfl:os'=s.os:=os
 exact ⟨v,H',I.call (h':=hh) (g':=g) (d':=d) (t':=t) (ch:=[]) un hok bare (fun b z=>absurd z (by simp)),r,q⟩
end
noncomputable def Yy (sp:Sp) (dvs:List V) (E:XK) (t:TA):TE:=fun σ H Q=>t σ H fun vs H1=>sp (vs++dvs) H1 Q E
noncomputable def WK (C:Addr) (m:Str) (sp:Sp) (dvs:List V) (E:XK) (ta:TE) (t:TA):TE:=fun σ H Q=>ta σ H fun x H1=>∃ a dx fs,x=.ref a/\H1 a=some (.ins C dx fs)/\fs.lookup m=none /\
 t σ H1 fun vs H2=>sp (x::(vs++dvs)) H2 Q E
noncomputable def aV (C:Addr) (sp:Sp) (dvs:List V) (E:XK) (t:TA):TE:=fun σ H Q=>t σ H fun vs H1=>∀ x dx,H1 x=none->H1 dx=none->dx ≠ x ->
 sp (.ref x::(vs++dvs)) (upd (upd H1 dx (.own x)) x (.ins C dx [])) (fun v H2=>v=.non/\Q (.ref x) H2) E
noncomputable def Binds (K:PySem.W.Frag) (fd:FuncData) (ps:List Str) (ds:List Value):Prop :=
 ∀ (s:Shared) (us:List Value),K.In s.heap->(us++ds).length=ps.length->BindsTo s fd ⟨us,[]⟩ (ps.zip (us++ds))
theorem Binds.all {K:PySem.W.Frag} {fd:FuncData} {ps:List Str} (h:∀ us:List Value,us.length=ps.length->bindArgs fd ⟨us,[]⟩=pure (ps.zip us)):Binds K fd ps []:=fun s us _ hl=>by
 rw [List.append_nil] at hl ⊢
 exact .of_eq (h us hl)
noncomputable def Hj (CX:Ra) (X:Cx) (E:XK):Prop:=∀ (pins:List (Addr × Obj)) (σ:St) (H:Hp) (s:Shared) (e:Value) (s':Shared),Inv X pins σ H s->CX X.stack H s E e s'->X.xe e s'
section
variable {X:Cx} {CX:Ra} {k:Nat} {f C:Addr} {fd:FuncData} {ps:List Str} {sp:Sp} {dvs:List V} {ds:List Value} {E:XK} {x m:Str} {p pos apos:Pos} {e o:Expr} {es:List Expr} {ta:TE} {t:TA}
theorem Nr {pins:List (Addr × Obj)} {σ:St} {H:Hp} {s:Shared} {Q:VK} {us:List Value} {vs:List V} (F:Aq X.prog X.w X.K X.mg X.base CX k f fd ps sp) (hr:BR k X.A) (hb:Binds X.K fd ps ds) (hd:Vals dvs ds) (hx:Hj CX X E)
  (I:Inv X pins σ H s) (r:Vals vs us) (h:sp (vs++dvs) H Q E):wpAny (model X.prog X.w) X.A (call (.ref f) us) (EP X pins σ Q) X.xe s:=by
 have r2:Vals (vs++dvs) (us++ds):=r.append hd
 have hl:(us++ds).length=ps.length:=by rw [← r2.length]; exact F.len _ _ _ _ h
 refine wpAny_call (codeAny_mono (F.run X.A X.stack s H ⟨us,[]⟩ (us++ds) (vs++dvs) Q E hr I.env0 (hb s us I.Ii hl) r2 h) fun r s' hq=>?_)
 cases r with
 | error e=>exact hx pins σ H s e s' I hq
 | ok fl =>
  cases fl with
  | ret u=>exact I.after hq
  | next=>exact False.elim hq
  | brk=>exact False.elim hq
  | cont=>exact False.elim hq
theorem Ai (F:Aq X.prog X.w X.K X.mg X.base CX k f fd ps sp) (hr:BR k X.A) (hg:Gl X x) (hm:X.mg x=some (.ref f)) (hk:PySem.W.keepIn X.K (.ref f)=true) (hb:Binds X.K fd ps ds) (hd:Vals dvs ds) (hx:Hj CX X E)
  (ha:PA X (e::es) t) (hdb:(x == ("__debug__" : Str))=false:=by decide) (he:starEach (e::es) X.env=(false,eval e X.env)::starEach es X.env:=by rfl) (hpl:(backTo pos (starEach es X.env)).any (·.1)=false:=by rfl) :
  PE X (.Call (.Name x p) (e::es) [] pos) (Yy sp dvs E t):=by
 intro pins s σ H Q I h
 refine wpAny_Call_Name_kw (K7 I hg hm ?_ hdb)
 refine PySem.W.callWith_K (h₀:=X.base) I.ok.mod.kin hk (CN (ha pos pins s σ H _ I h) fun us s1 ⟨vs,H1,I1,r,q⟩=>⟨I1.Ii,?_⟩) he hpl
 exact Nr F hr hb hd hx I1 r q
theorem Cz {pl:Sem Bool} (he:PE X o ta) (c:RP X.K C) (hm:Meth X.K C m f) (F:Aq X.prog X.w X.K X.mg X.base CX k f fd ps sp) (hr:BR k X.A) (hb:Binds X.K fd ps ds) (hd:Vals dvs ds) (hx:Hj CX X E) (ha:PA X (e::es) t)
  (hst:starEach (e::es) X.env=(false,eval e X.env)::starEach es X.env:=by rfl) (hpl:(backTo pos (starEach es X.env)).any (·.1)=false:=by rfl)
  (ht:eval (.Call (.Attribute o m apos) (e::es) [] pos) X.env=(do
   let ov ← eval o X.env
   standAt apos.atName
   let (f,first) ← holding [ov] (getMethod ov m pl)
   callWith pos f first (backTo pos (starEach (e::es) X.env)) (backToKw pos (keywordEach [] X.env))):=by rfl) :
  PE X (.Call (.Attribute o m apos) (e::es) [] pos) (WK C m sp dvs E ta t):=by
 intro pins s σ H Q I h
 refine PySem.W.methodCall_KW (pl:=pl) (CN (he pins s σ H _ I h) fun u s1 ⟨x,H1,I1,rx,a,dx,fs,ex,ea,l,q⟩=>?_) ht
 subst ex
 obtain rfl:u=Value.ref a:=rx
 refine Jc I1 ea c hm l ?_
 refine PySem.W.callWith_K (first:=[.ref a]) (h₀:=X.base) I.ok.mod.kin hm.kp (CN (ha pos pins s1 σ H1 _ I1 q) fun us s2 ⟨vs,H2,I2,r,q2⟩=>⟨I2.Ii,?_⟩) hst hpl
 exact Nr (us:=.ref a::us) (vs:=.ref a::vs) F hr hb hd hx I2 (.cons rfl r) q2
theorem Em {pl:Sem Bool} (he:PE X o ta) (c:RP X.K C) (hm:Meth X.K C m f) (F:Aq X.prog X.w X.K X.mg X.base CX k f fd ps sp) (hr:BR k X.A) (hb:Binds X.K fd ps ds) (hd:Vals dvs ds) (hx:Hj CX X E)
  (ht:eval (.Call (.Attribute o m apos) [] [] pos) X.env=(do
   let ov ← eval o X.env
   standAt apos.atName
   let (f,first) ← holding [ov] (getMethod ov m pl)
   callWith pos f first (backTo pos (starEach [] X.env)) (backToKw pos (keywordEach [] X.env))):=by rfl) :
  PE X (.Call (.Attribute o m apos) [] [] pos) (WK C m sp dvs E ta cX):=by
 intro pins s σ H Q I h
 refine PySem.W.methodCall_KW (pl:=pl) (CN (he pins s σ H _ I h) fun u s1 ⟨x,H1,I1,rx,a,dx,fs,ex,ea,l,q⟩=>?_) ht
 subst ex
 obtain rfl:u=Value.ref a:=rx
 refine Jc I1 ea c hm l ?_
 exact PySem.W.callWith_K0 (first:=[.ref a]) I1.Ii hm.kp (Nr (us:=[.ref a]) (vs:=[.ref a]) F hr hb hd hx I1 (.cons rfl .nil) q)
structure Mk (K:PySem.W.Frag) (C f:Addr):Prop where
 makes:PySem.W.makesIn K C=true
 init:PySem.W.findIn K (.ref C) "__init__" = some (some (.ref f))
 fn:PySem.W.isFn K (.ref f)=true
 kp:PySem.W.keepIn K (.ref C)=true
theorem Tj {pins:List (Addr × Obj)} {σ:St} {H:Hp} {s:Shared} {Q:VK} {us:List Value} {vs:List V} (M:Mk X.K C f) (F:Aq X.prog X.w X.K X.mg X.base CX k f fd ps sp) (hr:BR (k+1) X.A) (hb:Binds X.K fd ps ds) (hd:Vals dvs ds)
  (hx:Hj CX X E) (I:Inv X pins σ H s) (r:Vals vs us)
  (h:∀ x dx,H x=none->H dx=none->dx ≠ x->sp (.ref x::(vs++dvs)) (upd (upd H dx (.own x)) x (.ins C dx [])) (fun v H2=>v=.non/\Q (.ref x) H2) E) :
  wpAny (model X.prog X.w) X.A (call (.ref C) us) (EP X pins σ Q) X.xe s:=by
 have hq:=h (s.heap.objs.size+1) s.heap.objs.size (I.hok.fresh (Nat.le_succ _)) (I.hok.fresh (Nat.le_refl _)) (Nat.ne_of_lt (Nat.lt_succ_self _))
 have I2:=Inv.made (C:=C) I
 have r2:Vals (V.ref (s.heap.objs.size+1)::(vs++dvs)) (Value.ref (s.heap.objs.size+1)::(us++ds)):=.cons rfl (r.append hd)
 have hl:(Value.ref (s.heap.objs.size+1)::us++ds).length=ps.length:=by
  have e:=r2.length
  rw [F.len _ _ _ _ hq] at e
  exact e.symm
 refine wpAny_call (Rk (f:=f) I.Ii M.makes M.init (beq_iff_eq.mp M.fn) (codeAny_mono (F.run _ X.stack _ _ ⟨Value.ref (s.heap.objs.size+1)::us,[]⟩ (Value.ref (s.heap.objs.size+1)::(us++ds)) _ _ E (hr.make C us [])
  (I2.env0.make C us []) (hb _ (Value.ref (s.heap.objs.size+1)::us) I2.Ii hl) r2 hq) fun r s' hq'=>?_))
 cases r with
 | error e=>exact hx pins σ _ _ e s' I2 hq'
 | ok fl =>
  cases fl with
  | ret u =>
   obtain ⟨v,H',I3,rv,ev,q3⟩:=I2.after hq'
   subst ev
   exact ⟨rv,⟨V.ref (s.heap.objs.size+1),H',I3,rfl,q3⟩⟩
  | next=>exact False.elim hq'
  | brk=>exact False.elim hq'
  | cont=>exact False.elim hq'
theorem Vk (M:Mk X.K C f) (F:Aq X.prog X.w X.K X.mg X.base CX k f fd ps sp) (hr:BR (k+1) X.A) (hg:Gl X x) (hm:X.mg x=some (.ref C)) (hb:Binds X.K fd ps ds) (hd:Vals dvs ds) (hx:Hj CX X E)
  (ha:PA X (e::es) t) (hdb:(x == ("__debug__" : Str))=false:=by decide) (he:starEach (e::es) X.env=(false,eval e X.env)::starEach es X.env:=by rfl) (hpl:(backTo pos (starEach es X.env)).any (·.1)=false:=by rfl) :
  PE X (.Call (.Name x p) (e::es) [] pos) (aV C sp dvs E t):=by
 intro pins s σ H Q I h
 refine wpAny_Call_Name_kw (K7 I hg hm ?_ hdb)
 refine PySem.W.callWith_K (h₀:=X.base) I.ok.mod.kin M.kp (CN (ha pos pins s σ H _ I h) fun us s1 ⟨vs,H1,I1,r,q⟩=>⟨I1.Ii,?_⟩) he hpl
 exact Tj M F hr hb hd hx I1 r q
end
section
variable {X:Cx} {CX:Ra} {k:Nat} {f C:Addr} {fd:FuncData} {ps ks:List Str} {sp:Sp} {E:XK} {x m:Str} {p pos apos kpos:Pos} {e o:Expr} {es:List Expr} {kws:List Keyword} {te ta:TE} {t tk:TA} {nm:Option Str}
variable {g:List Value->List Value->List Value} {gV:List V->List V->List V}
end
structure Av (N P:List Str) (sc:Scope):Prop where
 kind:sc.kind=.function
 co:sc.isCoroutine=false
 gen:sc.isGenerator=false
 nd:N.Nodup
 pre:N.take P.length=P
 par:∀ x∈P,sc.names.lookup x=some .local \/ sc.names.lookup x=some .cell
 nofree:∀ y∈sc.names,y.2 ≠ .free
theorem Bl {N P:List Str} {sc:Scope} (a:sc.kind=.function:=by rfl) (b:sc.isCoroutine=false:=by rfl) (c:sc.isGenerator=false:=by rfl) (d:N.Nodup:=by decide +kernel) (e:N.take P.length=P:=by rfl) (f:∀ x∈P,sc.names.lookup x=some .local \/ sc.names.lookup x=some .cell:=by decide +kernel) (g:∀ y∈sc.names,y.2 ≠ .free:=by decide +kernel):Av N P sc:=⟨a,b,c,d,e,f,g⟩
theorem Ka {kindOf:Str->Option NameKind} {x:Str}:∀ {binds:List (Str × Value)} {m:Str->Option Value},(∀ v,(x,v) ∉ binds)->bindL kindOf binds m x=m x
 | [],_,_=>rfl
 | (n,v)::r,m,h=>by
  unfold bindL
  rw [Ka fun w hw=>h w (List.mem_cons_of_mem _ hw)]
  split
  ·have:x ≠ n:=by rintro rfl; exact h v List.mem_cons_self
   simp [this]
  ·rfl
theorem Ke {kindOf:Str->Option NameKind} {x:Str}:∀ {binds:List (Str × Value)} {m:Str->Option Value},(∀ v,(x,v) ∉ binds)->bindC kindOf binds m x=m x
 | [],_,_=>rfl
 | (n,v)::r,m,h=>by
  unfold bindC
  rw [Ke fun w hw=>h w (List.mem_cons_of_mem _ hw)]
  split
  ·rfl
  ·have:x ≠ n:=by rintro rfl; exact h v List.mem_cons_self
   simp [this]
theorem Kd {kindOf:Str->Option NameKind} {x:Str} {v:Value}:∀ {P:List Str} {vs:List Value} {i:Nat} {m:Str->Option Value},P.Nodup->P[i]? = some x->vs[i]? = some v->kindOf x=some .local ->
  bindL kindOf (P.zip vs) m x=some v
 | [],_,_,_,_,h,_,_=>by simp at h
 | _::_,[],_,_,_,_,h,_=>by simp at h
 | p::P,w::vs,0,m,nd,h1,h2,hk=>by
  simp at h1 h2; subst h1; subst h2
  show bindL kindOf ((p,w)::P.zip vs) m p=_
  unfold bindL
  rw [Ka fun v hv=>(List.nodup_cons.mp nd).1 (List.of_mem_zip hv).1,if_pos hk]
  simp
 | p::P,w::vs,i+1,m,nd,h1,h2,hk=>by
  show bindL kindOf ((p,w)::P.zip vs) m x=_
  unfold bindL
  exact Kd (i:=i) (List.nodup_cons.mp nd).2 (by simpa using h1) (by simpa using h2) hk
theorem Kw {kindOf:Str->Option NameKind} {x:Str} {v:Value}:∀ {P:List Str} {vs:List Value} {i:Nat} {m:Str->Option Value},P.Nodup->P[i]? = some x->vs[i]? = some v->kindOf x ≠ some .local ->
  bindC kindOf (P.zip vs) m x=some v
 | [],_,_,_,_,h,_,_=>by simp at h
 | _::_,[],_,_,_,_,h,_=>by simp at h
 | p::P,w::vs,0,m,nd,h1,h2,hk=>by
  simp at h1 h2; subst h1; subst h2
  show bindC kindOf ((p,w)::P.zip vs) m p=_
  unfold bindC
  rw [Ke fun v hv=>(List.nodup_cons.mp nd).1 (List.of_mem_zip hv).1,if_neg hk]
  simp
 | p::P,w::vs,i+1,m,nd,h1,h2,hk=>by
  show bindC kindOf ((p,w)::P.zip vs) m x=_
  unfold bindC
  exact Kw (i:=i) (List.nodup_cons.mp nd).2 (by simpa using h1) (by simpa using h2) hk
noncomputable def start (N:List Str) (vs:List V):St:=vs.map some++List.replicate (N.length - vs.length) none
noncomputable def NQ (CX:Ra) (P:Program) (w:World) (K:PySem.W.Frag) (mg:Str->Option Value) (base:Heap) (N:List Str) (qual:Str) (scope:Scope) (f:Addr) (cd:Value) (A:Around) (outer:List Env) (s:Shared) (H:Hp) (E:XK):Cx where
 prog:=P
 w:=w
 K:=K
 mg:=mg
 base:=base
 A:=A.deeper (envOfC qual scope s.heap.objs.size f cd)
 N:=N
 s₀:=s
 H₀:=H
 env:=envOfC qual scope s.heap.objs.size f cd
 outer:=outer
 stack:=envOfC qual scope s.heap.objs.size f cd::outer
 ex:=[]
 calm:=true
 fn:=fun _=>true
 pn:=[]
 xe:=fun e s'=>wpAny (model P w) (A.deeper (envOfC qual scope s.heap.objs.size f cd)) (leaving (envOfC qual scope s.heap.objs.size f cd) e) (fun _ s''=>CX outer H s E e s'') (fun e' s''=>CX outer H s E e' s'') s'
theorem My {sc:Scope} {n:Nat} {x:Str} (h:sc.names.lookup x=some .cell):∃ c,(cellsFrom n sc.names []).lookup x=some c:=by
 have q:=PySem.W.cellsFrom_some sc.names n [] (.inl h)
 exact Option.isSome_iff_exists.mp q
theorem Qf {CX:Ra} {P:Program} {w:World} {K:PySem.W.Frag} {mg:Str->Option Value} {base:Heap} {N ps:List Str} {qual:Str} {scope:Scope} {f:Addr} {cd:Value} {A:Around} {outer:List Env} {s s1:Shared} {H:Hp} {E:XK} {us:List Value} {vs:List V}
  (S:Av N ps scope) (hd:A.handled=none) (e0:Ow P w K mg base A outer s H) (hl:vs.length=ps.length) (r:Vals vs us)
  (x:InCallC s s.heap.objs.size (bindL (envOfC qual scope s.heap.objs.size f cd).kindOf (ps.zip us) fun _=>none) (cellsFrom (s.heap.objs.size+1) scope.names []) (bindC (envOfC qual scope s.heap.objs.size f cd).kindOf (ps.zip us) fun _=>none) s1) :
  Inv (NQ CX P w K mg base N qual scope f cd A outer s H E) [] (start N vs) H s1:=by
 have hpl:ps.length<=N.length:=by have:=congrArg List.length S.pre; rw [List.length_take] at this; omega
 obtain ⟨h1,tk,rfl,hk⟩:=x.done
 have noA:∀ b:Addr,b ∉ (NQ CX P w K mg base N qual scope f cd A outer s H E).ex:=fun b z=>absurd (show b∈([]:List Addr) from z) (by simp)
 refine ⟨⟨e0.mod,S.kind,rfl,rfl,Nat.le_refl _,fun y z c h1 h2=>?_,fun y hy=>?_,fun y c _ h=>?_,fun _=>hd,Around.frames_deeper e0.frames,.inr ⟨rfl,rfl⟩,fun b z=>absurd z (noA b),e0.bs,e0.bsz,fun b _ _=>noA b,fun b z=>absurd z (noA b),e0.JR,e0.frf⟩,
  rfl,e0.bare,Un.kept hk,⟨_,x.toInCall.ns,fun i y v h1 h2 h3=>?_⟩,fun y c h=>⟨_,x.cell y c h⟩,e0.hok.fresh (Nat.le_refl _),fun y c h=>?_,fun p hp=>absurd (show p∈([]:List (Addr × Obj)) from hp) (by simp),e0.hok.kept hk,?_⟩
 ·exact name_of_addr x.apart (PySem.mem_of_lookup h1) (PySem.mem_of_lookup h2)
 ·have hy:scope.names.lookup y=some .cell \/ scope.names.lookup y=some .free:=hy
  rcases hy with hy | hy
  ·exact My hy
  ·exact absurd rfl (S.nofree _ (PySem.mem_of_lookup hy))
 ·exact Nat.le_of_lt (x.above y c (PySem.mem_of_lookup h))
 ·have hi:i<vs.length:=by
   unfold start at h2
   by_cases hi:i<vs.length
   ·exact hi
   ·rw [List.getElem?_append_right (by simpa using hi)] at h2
    rw [List.getElem?_replicate] at h2
    split at h2 <;> cases h2
  have ha:vs[i]? = some v:=by
   unfold start at h2
   rw [List.getElem?_append_left (by simpa using hi),List.getElem?_map] at h2
   cases e:vs[i]? with
   | none=>rw [e] at h2; cases h2
   | some a=>rw [e] at h2; cases h2; rfl
  obtain ⟨u,hu,rv⟩:=r.get ha
  have hp:ps[i]? = some y:=by
   rw [← S.pre,List.getElem?_take_of_lt (by omega)]; exact h1
  have ndP:ps.Nodup:=by rw [← S.pre]; exact S.nd.sublist (List.take_sublist _ _)
  refine ⟨u,rv,?_⟩
  rcases S.par y (List.mem_of_getElem? hp) with k | k
  ·exact .inl ⟨k,Kd ndP hp hu k⟩
  ·obtain ⟨c,e⟩:=My (n:=s.heap.objs.size+1) k
   refine .inr ⟨.inl k,c,e,?_⟩
   have q:=x.cell y c e
   rw [Kw ndP hp hu (by show scope.names.lookup y ≠ _; rw [k]; decide)] at q
   exact q
 ·exact e0.hok.fresh (Nat.le_of_lt (x.above y c (PySem.mem_of_lookup h)))
 ·unfold start
  show _=N.length
  rw [List.length_append,List.length_map,List.length_replicate]
  omega
theorem V2 {CX:Ra} {P:Program} {w:World} {K:PySem.W.Frag} {mg:Str->Option Value} {base:Heap} {k:Nat} {f:Addr} {name qual:Str} {params:Arguments} {body:List Stmt} {scope:Scope} {dV kV doc pm cdv ct oc:Value} {an od:Option Addr}
  {osl:Array (Option Value)} {N ps:List Str} {sp:Sp} (lk:K.lookup f=some ⟨oc,od,.func (PySem.W.fnOf name qual params body scope dV kV doc pm an cdv ct),osl⟩) (hcd:PySem.W.codeIn K cdv qual=true) (S:Av N ps scope)
  (len:∀ vs H Q E,sp vs H Q E->vs.length=ps.length)
  (hbody:∀ (A:Around) (outer:List Env) (s:Shared) (H:Hp) (vs:List V) (Q:VK) (E:XK),BR k (A.deeper (envOfC qual scope s.heap.objs.size f cdv))->sp vs H Q E ->
   ∃ t,O_ (NQ CX P w K mg base N qual scope f cdv A outer s H E) body t/\t { nx:=fun _ H'=>Q .non H',rt:=Q } (start N vs) H) :
  Aq P w K mg base CX (k+1) f (PySem.W.fnOf name qual params body scope dV kV doc pm an cdv ct) ps sp:=by
 refine ⟨len,fun A outer s H args us vs Q E hr e0 hb r hsp=>?_⟩
 have hl:=len _ _ _ _ hsp
 have KX:K.In s.heap:=e0.mod.kin.keeps fun b o e=>(e0.bs b o e).1
 have lim:s.heap.NoLimit:=e0.mod.nolimit.keeps fun b o e=>(e0.bs b o e).1
 have hkind:∀ y∈ps.zip us,scope.names.lookup y.1=some .local \/ (scope.names.lookup y.1=some .cell/\((cellsFrom (s.heap.objs.size+1) scope.names []).lookup y.1).isSome=true):=fun ⟨n,v⟩ hy=>by
  rcases S.par n (List.of_mem_zip hy).1 with q | q
  ·exact .inl q
  ·exact .inr ⟨q,PySem.W.cellsFrom_some _ _ _ (.inl q)⟩
 refine codeAny_call_function hr.depth (KX _ _ lk) rfl S.co S.gen rfl (PySem.W.codeRec_of KX hcd) (hb _ _ _ _ ?_)
 refine wpAny_newFunctionEnv_cells S.kind hkind fun env he s1 x=>?_
 subst he
 refine ⟨lim.keeps x.toInCall.keep,codeAny_func ?_⟩
 obtain ⟨t,ht,hq⟩:=hbody A outer s H vs Q E (hr.deeper _) hsp
 have I:Inv (NQ CX P w K mg base N qual scope f cdv A outer s H E) [] (start N vs) H s1:=Qf S hr.hd e0 hl r x
 refine wpAny_mono (ht [] s1 (start N vs) H _ I hq) (fun fl s' hs=>?_) fun e s' hs=>hs
 have fin:∀ {σ':St} {H':Hp} {v:V} {u:Value},Inv (NQ CX P w K mg base N qual scope f cdv A outer s H E) [] σ' H' s'->RelV v u->Q v H'->CE outer P w H s Q u s' :=
  fun {σ' H' v u} J rv q=>⟨v,H',J.os,J.bare,J.base,J.hok,rv,q⟩
 cases fl with
 | ret u =>
  obtain ⟨v,σ',H',J,rv,q⟩:=hs
  exact fin J rv q
 | next =>
  obtain ⟨σ',H',J,q⟩:=hs
  exact fin (v:=V.non) (u:=Value.none) J rfl q
 | brk =>
  obtain ⟨_,_,_,q⟩:=hs
  exact False.elim q
 | cont =>
  obtain ⟨_,_,_,q⟩:=hs
  exact False.elim q
end L2
namespace L2
open PySem PySem.Spec PyProof.Rows
section
variable {X:Cx} {x:Str} {p pos:Pos} {e:Expr} {es:List Expr} {t:TA} {id T:String} {r:List V->Hp->VK->Prop}
noncomputable def j7 (r:List V->Hp->VK->Prop) (t:TA):TE:=fun σ H Q=>t σ H fun vs H1=>r vs H1 Q
theorem BL (hc:Fg X (.builtin id) r) (hg:Gl X x) (hm:X.mg x=none) (hv:bootBuiltins x=some (.builtin id)) (ha:PA X (e::es) t) (hn:x ≠ "__name__":=by decide) (hdb:(x == ("__debug__" : Str))=false:=by decide)
  (he:starEach (e::es) X.env=(false,eval e X.env)::starEach es X.env:=by rfl) (hpl:(backTo pos (starEach es X.env)).any (·.1)=false:=by rfl):PE X (.Call (.Name x p) (e::es) [] pos) (j7 r t):=by
 intro pins s σ H Q I h
 refine wpAny_Call_Name_kw (Ft I hg hm hv ?_ hn hdb)
 exact PyProof.Rows.callWith_builtin1 (CN (ha pos pins s σ H _ I h) fun us s1 ⟨vs,H1,I1,r1,q1⟩=>hc pins s1 σ H1 vs us Q I1 r1 q1) he hpl
theorem Dz (hc:Fg X (.type T) r) (hg:Gl X x) (hm:X.mg x=none) (hv:bootBuiltins x=some (.type T)) (ha:PA X (e::es) t) (hn:x ≠ "__name__":=by decide) (hdb:(x == ("__debug__" : Str))=false:=by decide)
  (he:starEach (e::es) X.env=(false,eval e X.env)::starEach es X.env:=by rfl) (hpl:(backTo pos (starEach es X.env)).any (·.1)=false:=by rfl):PE X (.Call (.Name x p) (e::es) [] pos) (j7 r t):=by
 intro pins s σ H Q I h
 refine wpAny_Call_Name_kw (Ft I hg hm hv ?_ hn hdb)
 exact PyProof.Rows.callWith_type1 (CN (ha pos pins s σ H _ I h) fun us s1 ⟨vs,H1,I1,r1,q1⟩=>hc pins s1 σ H1 vs us Q I1 r1 q1) he hpl
end
end L2
namespace L2
open PySem PySem.Spec PyProof.Rows
section
variable {κ:Type} [DecidableEq κ]
noncomputable def Dt (kvs:List (κ × V)) (k:κ):Option V:=(kvs.find? fun kv=>decide (kv.1=k)).map (·.2)
noncomputable def putK (kvs:List (κ × V)) (k:κ) (v:V):List (κ × V) :=
 if (kvs.any fun kv=>decide (kv.1=k))=true then kvs.map (fun kv=>if kv.1=k then (kv.1,v) else kv) else kvs++[(k,v)]
noncomputable def j6 (kvs:List (κ × V)) (k:κ):List (κ × V):=kvs.filter fun kv=>decide (kv.1 ≠ k)
theorem Dn {p:κ × V} {r:List (κ × V)} {k:κ} (e:p.1=k):Dt (p::r) k=some p.2:=by simp [Dt,List.find?_cons,e]
theorem Dj {p:κ × V} {r:List (κ × V)} {k:κ} (e:¬ p.1=k):Dt (p::r) k=Dt r k:=by simp [Dt,List.find?_cons,e]
theorem GR (k:κ):∀ kvs:List (κ × V),(kvs.any fun kv=>decide (kv.1=k))=(Dt kvs k).isSome
 | []=>rfl
 | p::r=>by
  rw [List.any_cons]
  by_cases e:p.1=k
  ·simp only [Dn e,decide_eq_true e,Bool.true_or,Option.isSome_some]
  ·rw [Dj e,decide_eq_false e,Bool.false_or]; exact GR k r
theorem Mz (k j:κ) (y:V):∀ kvs:List (κ × V),Dt (kvs.map fun kv=>if kv.1=k then (kv.1,y) else kv) j=(Dt kvs j).map fun x=>if j=k then y else x
 | []=>rfl
 | p::r=>by
  have ih:=Mz k j y r
  rw [List.map_cons]
  by_cases h:p.1=k
  ·rw [if_pos h]
   by_cases e:p.1=j
   ·rw [Dn (p:=(p.1,y)) e,Dn e,Option.map_some,if_pos (e.symm.trans h)]
   ·rw [Dj (p:=(p.1,y)) e,Dj e,ih]
  ·rw [if_neg h]
   by_cases e:p.1=j
   ·rw [Dn (p:=p) e,Dn e,Option.map_some,if_neg (fun z=>h (e.trans z))]
   ·rw [Dj (p:=p) e,Dj e,ih]
theorem G_ (k j:κ) (y:V):∀ kvs:List (κ × V),Dt kvs k=none->Dt (kvs++[(k,y)]) j=if j=k then some y else Dt kvs j
 | [],_=>by
  by_cases e:k=j
  ·rw [if_pos e.symm]; exact Dn (p:=(k,y)) e
  ·rw [if_neg (fun z=>e z.symm)]; exact Dj (p:=(k,y)) e
 | p::r,hn=>by
  rw [List.cons_append]
  have hk:¬ p.1=k:=fun z=>by rw [Dn z] at hn; cases hn
  rw [Dj hk] at hn
  have ih:=G_ k j y r hn
  by_cases e:p.1=j
  ·rw [Dn e,Dn e,if_neg (fun z=>hk (e.trans z))]
  ·rw [Dj e,Dj e,ih]
theorem S7 (kvs:List (κ × V)) (k j:κ) (y:V):Dt (putK kvs k y) j=if j=k then some y else Dt kvs j:=by
 unfold putK
 by_cases a:(kvs.any fun kv=>decide (kv.1=k))=true
 ·rw [if_pos a,Mz]
  rw [GR] at a
  by_cases e:j=k
  ·obtain ⟨x,hx⟩:=Option.isSome_iff_exists.mp a
   rw [if_pos e,e,hx,Option.map_some,if_pos rfl]
  ·rw [if_neg e]
   cases Dt kvs j with
   | none=>rfl
   | some x=>rw [Option.map_some,if_neg e]
 ·rw [if_neg a]
  refine G_ k j y kvs ?_
  rw [GR] at a
  cases q:Dt kvs k with
  | none=>rfl
  | some x=>rw [q] at a; exact (a rfl).elim
theorem Fj (kvs:List (κ × V)) (k:κ) (v:V):(putK kvs k v).length<=kvs.length+1:=by
 unfold putK
 split
 ·rw [List.length_map]; omega
 ·rw [List.length_append,List.length_cons,List.length_nil]; omega
theorem TX {kvs:List (κ × V)} {k:κ} (v:V) (h:Dt kvs k=none):putK kvs k v=kvs++[(k,v)]:=by
 unfold putK
 rw [GR,h]
 exact if_neg (by decide)
theorem Gs.GK {o:Option V} {u:Option Value} (r:Gs o u):o.isSome=u.isSome:=by
 cases o with
 | none=>cases u with
  | none=>rfl
  | some _=>exact (show False from r).elim
 | some _=>cases u with
  | none=>exact (show False from r).elim
  | some _=>rfl
theorem KV.val {kvs:List (κ × V)} {vs:List (κ × Value)} (r:KV kvs vs) (k:κ):Gs (Dt kvs k) (valueAt vs k):=by
 unfold KV at r
 induction r with
 | nil=>exact True.intro
 | @cons p q ps qs h t ih =>
  obtain ⟨h1,h2⟩:=h
  by_cases e:p.1=k
  ·have e':q.1=k:=h1.symm.trans e
   have b:valueAt (q::qs) k=some q.2:=by simp [valueAt,List.find?_cons,e']
   rw [Dn e,b]; exact h2
  ·have e':¬ q.1=k:=fun z=>e (h1.trans z)
   have b:valueAt (q::qs) k=valueAt qs k:=by simp [valueAt,List.find?_cons,e']
   rw [Dj e,b]; exact ih
theorem KV.any {kvs:List (κ × V)} {vs:List (κ × Value)} (r:KV kvs vs) (k:κ):(kvs.any fun kv=>decide (kv.1=k))=vs.any fun kv=>decide (kv.1=k):=by
 unfold KV at r
 induction r with
 | nil=>rfl
 | cons h t ih=>rw [List.any_cons,List.any_cons,ih,h.1]
theorem KV.repl {kvs:List (κ × V)} {vs:List (κ × Value)} (r:KV kvs vs) (k:κ) {y:V} {u:Value} (ry:RelV y u) :
  KV (kvs.map fun kv=>if kv.1=k then (kv.1,y) else kv) (vs.map fun kv=>if kv.1=k then (kv.1,u) else kv):=by
 unfold KV at r ⊢
 induction r with
 | nil=>exact .nil
 | @cons p q ps qs h t ih =>
  rw [List.map_cons,List.map_cons]
  refine .cons ?_ ih
  obtain ⟨h1,h2⟩:=h
  by_cases e:p.1=k
  ·rw [if_pos e,if_pos (h1.symm.trans e)]; exact ⟨h1,ry⟩
  ·rw [if_neg e,if_neg (fun z=>e (h1.trans z))]; exact ⟨h1,h2⟩
theorem KV.put {kvs:List (κ × V)} {vs:List (κ × Value)} (r:KV kvs vs) (k:κ) {y:V} {u:Value} (ry:RelV y u):KV (putK kvs k y) (stored vs k u):=by
 unfold putK stored
 rw [r.any k]
 by_cases e:(vs.any fun kv=>decide (kv.1=k))=true
 ·rw [if_pos e,if_pos e]; exact r.repl k ry
 ·rw [if_neg e,if_neg e]; exact Paired.snoc r ⟨rfl,ry⟩
theorem KV.length {kvs:List (κ × V)} {vs:List (κ × Value)} (r:KV kvs vs):kvs.length=vs.length:=Paired.length r
end
theorem Km {P:Program} {w:World} {k:Key} {u:Value} (r:RelV (kV k) u):(Cj P w).is k u=true:=by
 cases k with
 | inl i=>obtain ⟨t,e⟩:=(show ∃ t,u=Value.int i t from r); subst e; exact MP P w i t
 | inr x=>obtain ⟨t,e⟩:=(show ∃ t,u=Value.str x t from r); subst e; exact MT P w x t
theorem Kr {P:Program} {w:World}:∀ {ks:List Key} {us:List Value},Vals (ks.map kV) us->ItemsAre (Cj P w) ks us
 | [],_,r=>by rw [List.map_nil] at r; cases r; exact .nil
 | k::ks,_,r=>by
  rw [List.map_cons] at r
  cases r with
  | cons h t=>exact .cons (Km h) (Kr t)
noncomputable abbrev KT (H:Hp):List (List Key × V)->List (List Key × Addr × Value)->Prop:=Paired fun p q=>p.1=q.1/\H q.2.1=some (.tup (p.1.map kV))/\RelV p.2 q.2.2
theorem KT.val {H:Hp} {kvs:List (List Key × V)} {xs:List (List Key × Addr × Value)} (r:KT H kvs xs) (k:List Key):Gs (Dt kvs k) ((atKey xs k).map (·.2)):=by
 induction r with
 | nil=>exact True.intro
 | @cons p q ps qs h t ih =>
  obtain ⟨h1,_,h2⟩:=h
  by_cases e:p.1=k
  ·have e':q.1=k:=h1.symm.trans e
   have b:atKey (q::qs) k=some q.2:=by simp [atKey,List.find?_cons,e']
   rw [Dn e,b]; exact h2
  ·have e':¬ q.1=k:=fun z=>e (h1.trans z)
   have b:atKey (q::qs) k=atKey qs k:=by simp [atKey,List.find?_cons,e']
   rw [Dj e,b]; exact ih
theorem KT.repl {H:Hp} {kvs:List (List Key × V)} {xs:List (List Key × Addr × Value)} (r:KT H kvs xs) (k:List Key) {y:V} {u:Value} (ry:RelV y u) :
  KT H (kvs.map fun kv=>if kv.1=k then (kv.1,y) else kv) (xs.map (putAt k u)):=by
 induction r with
 | nil=>exact .nil
 | @cons p q ps qs h t ih =>
  rw [List.map_cons,List.map_cons]
  refine .cons ?_ ih
  obtain ⟨h1,h2,h3⟩:=h
  unfold putAt
  by_cases e:p.1=k
  ·rw [if_pos e,if_pos (h1.symm.trans e)]; exact ⟨h1,h2,ry⟩
  ·rw [if_neg e,if_neg (fun z=>e (h1.trans z))]; exact ⟨h1,h2,h3⟩
theorem KT.put {H:Hp} {kvs:List (List Key × V)} {xs:List (List Key × Addr × Value)} (r:KT H kvs xs) (k:List Key) {b:Addr} {y:V} {u:Value} (hb:H b=some (.tup (k.map kV))) (ry:RelV y u) :
  KT H (putK kvs k y) (storedH xs k b u):=by
 have e:(kvs.any fun kv=>decide (kv.1=k))=(atKey xs k).isSome:=by
  rw [GR,(r.val k).GK,Option.isSome_map]
 unfold putK storedH
 rw [e]
 by_cases q:(atKey xs k).isSome=true
 ·rw [if_pos q,if_pos q]; exact r.repl k ry
 ·rw [if_neg q,if_neg q]; exact Paired.snoc r ⟨rfl,hb,ry⟩
theorem KT.keeps {H H':Hp} {kvs:List (List Key × V)} {xs:List (List Key × Addr × Value)} (r:KT H kvs xs) (ht:∀ b ys,H b=some (.tup ys)->H' b=some (.tup ys)):KT H' kvs xs :=
 Paired.Fb r fun _ _ z=>⟨z.1,ht _ _ z.2.1,z.2.2⟩
section
variable {P:Program} {w:World} {H:Hp} {h:Heap} {a:Addr}
theorem V3 {u:HO} (ok:Hn P w H h) (e:Rd H a u):Ce P w H h a u:=e.ok ok
theorem Mj {kvs:List (Key × V)} (ok:Hn P w H h) (e:Rd H a (.dK kvs)):kvs.length<=sizeLine/\(a == sysModules)=false/\∃ vs,KV kvs vs/\h.DictOf (Cj P w) a vs :=
 show Ce P w H h a (.dK kvs) from V3 ok e
theorem V1 {kvs:List (Key × V)} (ok:Hn P w H h) (e:H a=some (.dK kvs)):kvs.length<=sizeLine/\(a == sysModules)=false/\∃ vs,KV kvs vs/\h.DictOf (Cj P w) a vs:=Mj ok (.inl e)
theorem Jh {ks:List Key} (ok:Hn P w H h) (e:H a=some (.tup (ks.map kV))):(tupleKind (Cj P w)).is h ks a:=by
 obtain ⟨_,its,r,o,h1,h2,n,h3⟩:=(show Ce P w H h a (.tup (ks.map kV)) from ok a _ e)
 exact ⟨o,its.toArray,n,h1,h2,h3,by simpa using Kr r⟩
theorem M4 {kvs:List (List Key × V)} (ok:Hn P w H h) (e:Rd H a (.dT kvs)):kvs.length<=sizeLine/\(a == sysModules)=false /\
  ∃ xs,KT H kvs xs/\h.DictOfH (tupleKind (Cj P w)) a xs:=by
 obtain ⟨z,y,xs,r,o,es,ep,h1,h2,h3,h4,h5⟩:=(show Ce P w H h a (.dT kvs) from V3 ok e)
 refine ⟨z,y,xs,r,o,es,ep,h1,h2,h3,h4,fun x hx=>?_,h5⟩
 have all:∀ {l:List (List Key × V)} {m:List (List Key × Addr × Value)},KT H l m->∀ x∈m,(tupleKind (Cj P w)).is h x.1 x.2.1:=by
  intro l m q
  induction q with
  | nil=>intro x hx; exact nomatch hx
  | @cons p q ps qs hq t ih =>
   intro x hx
   rcases List.mem_cons.mp hx with e | hx
   ·subst e
    exact Jh ok (by rw [← hq.1]; exact hq.2.1)
   ·exact ih x hx
 exact all r x hx
theorem Y0 {kvs:List (List Key × V)} (ok:Hn P w H h) (e:H a=some (.dT kvs)):kvs.length<=sizeLine/\(a == sysModules)=false /\
  ∃ xs,KT H kvs xs/\h.DictOfH (tupleKind (Cj P w)) a xs:=M4 ok (.inl e)
end
noncomputable def Fv (H:Hp) (a:Addr) (y:V) (r:Option V):Prop :=
 (∃ kvs k,Rd H a (.dK kvs)/\y=kV k/\r=Dt kvs k) \/ ∃ kvs k b,Rd H a (.dT kvs)/\y=.ref b/\H b=some (.tup (k.map kV))/\r=Dt kvs k
noncomputable def QF (H:Hp) (a:Addr) (y v:V) (H':Hp):Prop :=
 (∃ kvs k,H a=some (.dK kvs)/\y=kV k/\kvs.length<sizeLine/\H'=upd H a (.dK (putK kvs k v))) \/
 ∃ kvs k b,H a=some (.dT kvs)/\y=.ref b/\H b=some (.tup (k.map kV))/\kvs.length<sizeLine/\H'=upd H a (.dT (putK kvs k v))
theorem Fv.k {H:Hp} {a:Addr} {kvs:List (Key × V)} {k:Key} (e:H a=some (.dK kvs)):Fv H a (kV k) (Dt kvs k):=.inl ⟨kvs,k,.inl e,rfl,rfl⟩
theorem QF.k {H:Hp} {a:Addr} {kvs:List (Key × V)} {k:Key} {v:V} (e:H a=some (.dK kvs)) (hl:kvs.length<sizeLine):QF H a (kV k) v (upd H a (.dK (putK kvs k v))):=.inl ⟨kvs,k,e,rfl,hl,rfl⟩
section
variable {X:Cx} {pins:List (Addr × Obj)} {σ:St} {H:Hp} {s:Shared} {a:Addr} {y v:V} {u r:Value} {o:Option V} {A:Around} {E:Value->Shared->Prop}
theorem Inv.big (I:Inv X pins σ H s):sysModules<s.heap.objs.size:=by
 have h:mainGlobals<s.heap.objs.size:=(I.mod.glob.keeps I.bk).lt
 exact Nat.lt_trans (by decide) h
theorem Qz {Q:Value->Shared->Prop} (hu:A.units+1<cLine) (I:Inv X pins σ H s) (g:Fv H a y (some v)) (ry:RelV y u) (h:∀ w' s',Inv X pins σ H s'->RelV v w'->Q w' s') :
  wpAny (model X.prog X.w) A (getItem (.ref a) u) Q E s:=by
 rcases g with ⟨kvs,k,e,ey,l⟩ | ⟨kvs,k,b,e,ey,eb,l⟩
 ·subst ey
  obtain ⟨z,hd,vs,rel,dd⟩:=Mj I.hok e
  obtain ⟨w',hw,rw'⟩:=Gs.some_of (v:=v) (o:=valueAt vs k) (by rw [l]; exact rel.val k)
  exact wpAny_getItem_of (Km ry) dd.mapOf hw (h w' _ (I.tok _) rw')
 ·subst ey
  cases (show u=Value.ref b from ry)
  obtain ⟨z,hd,xs,rel,dd⟩:=M4 I.hok e
  obtain ⟨w',hw,rw'⟩:=Gs.some_of (v:=v) (o:=(atKey xs k).map (·.2)) (by rw [l]; exact rel.val k)
  obtain ⟨p,hp,hp2⟩:=Option.map_eq_some_iff.mp hw
  refine wpAny_getItem_heap (tupleKind_room_in1 hu) (Jh I.hok eb) dd hp ?_
  rw [hp2]
  exact h w' _ (I.tok _) rw'
theorem jB {Q:Value->Shared->Prop} (hu:A.units+1<cLine) (I:Inv X pins σ H s) (g:Fv H a y o) (ry:RelV y u) (h:∀ s',Inv X pins σ H s'->Q (.bool o.isSome) s') :
  wpAny (model X.prog X.w) A (compareOp .In u (.ref a)) Q E s:=by
 rcases g with ⟨kvs,k,e,ey,l⟩ | ⟨kvs,k,b,e,ey,eb,l⟩
 ·subst ey
  obtain ⟨z,hd,vs,rel,dd⟩:=Mj I.hok e
  refine wpAny_in_of (Km ry) hd dd.mapOf ?_
  rw [← (rel.val k).GK,← l]
  exact h _ (I.tok _)
 ·subst ey
  cases (show u=Value.ref b from ry)
  obtain ⟨z,hd,xs,rel,dd⟩:=M4 I.hok e
  refine wpAny_in_heap (tupleKind_room_in1 hu) (Jh I.hok eb) hd dd ?_
  have q:=(rel.val k).GK
  rw [Option.isSome_map] at q
  rw [← q,← l]
  exact h _ (I.tok _)
theorem Uw {Q:Value->Shared->Prop} (hu:A.units+1<cLine) (I:Inv X pins σ H s) (g:Fv H a y o) (ry:RelV y u) (h:∀ s',Inv X pins σ H s'->Q (.bool (!o.isSome)) s') :
  wpAny (model X.prog X.w) A (compareOp .NotIn u (.ref a)) Q E s:=by
 rcases g with ⟨kvs,k,e,ey,l⟩ | ⟨kvs,k,b,e,ey,eb,l⟩
 ·subst ey
  obtain ⟨z,hd,vs,rel,dd⟩:=Mj I.hok e
  refine wpAny_notIn_of (Km ry) hd dd.mapOf ?_
  rw [← (rel.val k).GK,← l]
  exact h _ (I.tok _)
 ·subst ey
  cases (show u=Value.ref b from ry)
  obtain ⟨z,hd,xs,rel,dd⟩:=M4 I.hok e
  refine wpAny_notIn_heap (tupleKind_room_in1 hu) (Jh I.hok eb) hd dd ?_
  have q:=(rel.val k).GK
  rw [Option.isSome_map] at q
  rw [← q,← l]
  exact h _ (I.tok _)
theorem Kz {h':Heap} {t':Nat} {ob:HO} (I:Inv X pins σ H s) (mu:aY (H a)) (hs:Heap.SameBut a s.heap h') (he:∃ q,h'.get? a=some q) (new:Ce X.prog X.w (upd H a ob) h' a ob) :
  Inv X pins σ (upd H a ob) { s with heap:=h',toks:=t' } :=
 I.write (x:=a) (e:=a) mu (.inl rfl) (fun b q hb z=>(hs.2 b hb).trans z) he new
theorem Tz {P:Program} {w:World} {H':Hp} {h':Heap} {kvs:List (Key × V)} {vs:List (Key × Value)} (z:kvs.length<=sizeLine) (hd:(a == sysModules)=false) (rel:KV kvs vs) (dd:h'.DictOf (Cj P w) a vs) :
  Ce P w H' h' a (.dK kvs):=⟨z,hd,vs,rel,dd⟩
theorem Qv {H':Hp} {Q:Unit->Shared->Prop} (hu:A.units+1<cLine) (I:Inv X pins σ H s) (g:QF H a y v H') (ry:RelV y u) (rv:RelV v r) (h:∀ s',Inv X pins σ H' s'->Q () s') :
  wpAny (model X.prog X.w) A (setItem (.ref a) u r) Q E s:=by
 rcases g with ⟨kvs,k,e,ey,l,eH⟩ | ⟨kvs,k,b,e,ey,eb,l,eH⟩
 ·subst ey eH
  obtain ⟨z,hd,vs,rel,dd⟩:=V1 I.hok e
  have hz:vs.length<=sizeLine:=by rw [← rel.length]; exact z
  have hl:(putK kvs k v).length<=sizeLine:=by have:=Fj kvs k v; omega
  refine wpAny_setItem_pairs (hsz:=hz) (Km ry) dd fun h' dd' hs=>h _ ?_
  have he:∃ q,h'.get? a=some q:=let ⟨q,_,_,hq,_⟩:=dd'; ⟨q,hq⟩
  exact Kz I (by rw [e]; exact True.intro) hs he (Tz hl hd (rel.put k rv) dd')
 ·subst ey eH
  cases (show u=Value.ref b from ry)
  obtain ⟨z,hd,xs,rel,dd⟩:=Y0 I.hok e
  have hz:xs.length<=sizeLine:=by rw [← Paired.length rel]; exact z
  have hl:(putK kvs k v).length<=sizeLine:=by have:=Fj kvs k v; omega
  refine wpAny_setItem_heap (hsz:=hz) (tupleKind_room_in1 hu) (Jh I.hok eb) dd fun h' dd' hs=>h _ ?_
  obtain ⟨q,es,ep,hq,h2,h3,h4,_,h5⟩:=dd'
  refine Kz I (by rw [e]; exact True.intro) hs ⟨q,hq⟩ ⟨hl,hd,_,(rel.put k eb rv).keeps fun c ys ec=>?_,q,es,ep,hq,h2,h3,h4,h5⟩
  rw [BP (V8 ec e (fun z=>nomatch z))]
  exact ec
end
section
variable {X:Cx} {pins:List (Addr × Obj)} {σ:St} {H:Hp} {s:Shared} {a:Addr} {kvs:List (Key × V)} {k:Key} {u:Value} {A:Around} {E:Value->Shared->Prop}
end
noncomputable def XX (i:Expr):Prop:=∀ ov iv,subscripted i false ov iv=operate [ov,iv] (getItem ov iv)
theorem Px {prog:Program} {w:World} {A:Around} {E:Value->Shared->Prop} {s:Shared} {env:Env} {value slice:Expr} {pos:Pos} {T id:String} {Q:Value->Shared->Prop}
  (hl:typeLookup (.type T) "__getitem__" = pure (some (.builtin id))) (hs:XX slice)
  (h:wpAny (model prog w) A (eval value env) (fun o s₁=>wpAny (model prog w) A (eval slice env) (fun i s₂=>s₂.TypeIs o T/\wpAny (model prog w) A (getItem o i) Q E s₂) E s₁) E s) :
  wpAny (model prog w) A (eval (.Subscript value slice pos) env) Q E s:=by
 refine Subscript_ (wpAny_mono h (fun o s₁ h₁=>wpAny_mono h₁ (fun i s₂ h₂=>?_) fun _ _ x=>x) fun _ _ x=>x)
 obtain ⟨hT,h₂⟩:=h₂
 unfold subscriptTail
 refine wpAny_bind ?_
 rw [getitemInPython_of_ne hT.not_modules]
 refine wpAny_bind (wpAny_specialOf hT hl ?_)
 have fin:wpAny (model prog w) A (subscripted slice false o i) (fun r s₃=>wpAny (model prog w) A (letTemporaryGo value o r >>= fun _=>pure r) Q E s₃) E s₂:=by
  rw [hs o i]
  exact wpAny_operating (wpAny_mono h₂ (fun r s₃ h₃=>wpAny_bind (wpAny_letTemporaryGo (wpAny_pure h₃))) fun _ _ x=>x)
 first
  | exact wpAny_pure (wpAny_bind fin)
  | exact wpAny_bind (wpAny_pure (wpAny_bind fin))
  | exact wpAny_bind fin
theorem Ma {X:Cx} {pins:List (Addr × Obj)} {σ:St} {H:Hp} {s:Shared} {a:Addr} {y:V} {o:Option V} (I:Inv X pins σ H s) (g:Fv H a y o):s.TypeIs (.ref a) "dict":=by
 rcases g with ⟨kvs,k,e,_,_⟩ | ⟨kvs,k,b,e,_,_,_⟩
 ·obtain ⟨_,_,vs,_,dd⟩:=Mj I.hok e
  exact dd.typeIs
 ·obtain ⟨_,_,xs,_,dd⟩:=M4 I.hok e
  exact dd.typeIs
noncomputable def Y7 (td ty:TE):TE:=fun σ H Q=>td σ H fun x H1=>ty σ H1 fun y H2=>∃ a v,x=.ref a/\Fv H2 a y (some v)/\Q v H2
noncomputable def gH (ty td:TE):TE:=fun σ H Q=>ty σ H fun y H1=>td σ H1 fun x H2=>∃ a o,x=.ref a/\Fv H2 a y o/\Q (.bl o.isSome) H2
noncomputable def U6 (ty td:TE):TE:=fun σ H Q=>ty σ H fun y H1=>td σ H1 fun x H2=>∃ a o,x=.ref a/\Fv H2 a y o/\Q (.bl (!o.isSome)) H2
noncomputable def aL (td ty tv:TE):TS:=fun D σ H=>tv σ H fun v H1=>td σ H1 fun x H2=>ty σ H2 fun y H3=>∃ a H4,x=.ref a/\QF H3 a y v H4/\D.nx σ H4
section
variable {X:Cx} {o i e value:Expr} {pos pos' tpos:Pos} {td ty tv:TE}
theorem Ej (hu:X.A.units+1<cLine) (ho:PE X o td) (hi:PE X i ty) (hs:XX i):PE X (.Subscript o i pos) (Y7 td ty):=by
 intro pins s σ H Q I h
 refine Px PySem.F.slot_dict_getitem.lookup hs (CN (ho pins s σ H _ I h) fun u s1 ⟨x,H1,I1,rx,q1⟩=>CN (hi pins s1 σ H1 _ I1 q1) fun iv s2 hq0=>?_)
 obtain ⟨y,H2,I2,ry,a,v,ex,g,q2⟩:=hq0
 subst ex
 obtain rfl:u=Value.ref a:=rx
 exact ⟨Ma I2 g,Qz hu I2 g ry fun w' s3 I3 rw'=>⟨v,H2,I3,rw',q2⟩⟩
theorem Ww (hu:X.A.units+1<cLine) (hi:PE X i ty) (ho:PE X o td):PC X .In i o (gH ty td):=by
 intro pins s σ H Q I h
 refine CN (hi pins s σ H _ I h) fun iv s1 ⟨y,H1,I1,ry,q1⟩=>CN (ho pins s1 σ H1 _ I1 q1) fun u s2 hq0=>?_
 obtain ⟨x,H2,I2,rx,a,ov,ex,g,q2⟩:=hq0
 subst ex
 obtain rfl:u=Value.ref a:=rx
 exact jB hu I2 g ry fun s3 I3=>⟨.bl ov.isSome,H2,I3,rfl,q2⟩
theorem QJ (hu:X.A.units+1<cLine) (hi:PE X i ty) (ho:PE X o td):PC X .NotIn i o (U6 ty td):=by
 intro pins s σ H Q I h
 refine CN (hi pins s σ H _ I h) fun iv s1 ⟨y,H1,I1,ry,q1⟩=>CN (ho pins s1 σ H1 _ I1 q1) fun u s2 hq0=>?_
 obtain ⟨x,H2,I2,rx,a,ov,ex,g,q2⟩:=hq0
 subst ex
 obtain rfl:u=Value.ref a:=rx
 exact Uw hu I2 g ry fun s3 I3=>⟨.bl (!ov.isSome),H2,I3,rfl,q2⟩
theorem PB (hu:X.A.units+1<cLine) (ho:PE X o td) (hi:PE X i ty) (hv:PE X value tv) (hs:swapsWith value (some (.Subscript o i pos')) pos.line X.env=pure false) :
  PS X (.Assign [.Subscript o i pos'] value pos) (aL td ty tv):=by
 intro pins s σ H D I h
 refine wpAny_Assign_Subscript (CN (hv pins s σ H _ I h) fun r s1 ⟨v,H1,I1,rv,q1⟩=>CN (ho pins s1 σ H1 _ I1 q1) fun u s2 ⟨x,H2,I2,rx,q2⟩=>CN (hi pins s2 σ H2 _ I2 q2) fun iv s3 ⟨y,H3,I3,ry,a,H4,ex,g,q3⟩=>?_) hs
 subst ex
 obtain rfl:u=Value.ref a:=rx
 exact Qv hu I3 g ry rv fun s4 I4=>⟨σ,H4,I4,q3⟩
end
theorem Mp {P:Program} {w:World} {H:Hp} (h:Heap) (hb:sysModules<h.objs.size):Ce P w H (h.push { cls:=.type "dict",data:=.dict #[] }) h.objs.size (.dK []) :=
 ⟨Nat.zero_le _,beq_eq_false_iff_ne.mpr (Ne.symm (Nat.ne_of_lt hb)),[],.nil,Heap.DictOf.new h⟩
noncomputable def X_:TE:=fun _ H Q=>∀ p,H p=none->Q (.ref p) (upd H p (.dK []))
section
variable {X:Cx} {pos:Pos}
theorem MN:PE X (.Dict [] [] pos) X_:=fun pins s σ H Q I h =>
 wpAny_Dict_empty ⟨.ref s.heap.objs.size,_,I.laid (a:=s.heap.objs.size) (o:=.dK []) (t':=s.toks) (fun _ _ q=>Heap.get?_push_of_some _ q) (Nat.le_refl _) (Mp s.heap I.big),rfl,h _ (I.hok.fresh (Nat.le_refl _))⟩
end
noncomputable def Om:List (TE × TE)->St->Hp->(List (V × V)->Hp->Prop)->Prop
 | [],_,H,Q=>Q [] H
 | (tk,tv)::r,σ,H,Q=>tk σ H fun x H1=>tv σ H1 fun y H2=>Om r σ H2 fun ps H3=>Q ((x,y)::ps) H3
noncomputable abbrev VV:List (V × V)->List (Value × Value)->Prop:=Paired fun p q=>RelV p.1 q.1/\RelV p.2 q.2
noncomputable def dw (X:Cx) (pos:Pos) (keys:List (Option Expr)) (values:List Expr) (trs:List (TE × TE)):Prop :=
 ∀ (pins:List (Addr × Obj)) (s:Shared) (σ:St) (H:Hp) (Q:List (V × V)->Hp->Prop),Inv X pins σ H s->Om trs σ H Q ->
  wpAny (model X.prog X.w) X.A (evalPairs (pairTrees keys values X.env pos)) (fun vs s'=>∃ ps H',Inv X pins σ H' s'/\VV ps vs/\Q ps H') X.xe s
theorem Vg {X:Cx} {pos:Pos}:dw X pos [] [] []:=fun pins s σ H Q I h=>pairTrees_nil_walk ⟨[],H,I,.nil,h⟩
theorem J6 {X:Cx} {pos:Pos} {k v:Expr} {ks:List (Option Expr)} {vs:List Expr} {tk tv:TE} {trs:List (TE × TE)} (hk:PE X k tk) (hv:PE X v tv) (hr:dw X pos ks vs trs) :
  dw X pos (some k::ks) (v::vs) ((tk,tv)::trs):=fun pins s σ H Q I h =>
 pairTrees_cons_walk (CN (hk pins s σ H _ I h) fun u s1 ⟨x,H1,I1,rx,q1⟩=>CN (hv pins s1 σ H1 _ I1 q1) fun w2 s2 ⟨y,H2,I2,ry,q2⟩ =>
  CN (hr pins s2 σ H2 _ I2 q2) fun ws s3 ⟨ps,H3,I3,rel,q3⟩=>⟨(x,y)::ps,H3,I3,.cons ⟨rx,ry⟩ rel,q3⟩)
noncomputable def Fp (kvs more:List (Key × V)):List (Key × V):=more.foldl (fun acc kv=>putK acc kv.1 kv.2) kvs
theorem KV.merge:∀ {more:List (Key × V)} {rs:List (Key × Value)} {kvs:List (Key × V)} {vs:List (Key × Value)},KV more rs->KV kvs vs->KV (Fp kvs more) (merged vs rs):=by
 intro more rs kvs vs r
 unfold KV at r
 induction r generalizing kvs vs with
 | nil=>intro q; exact q
 | @cons p q ps qs h t ih =>
  intro r0
  have e:KV (putK kvs p.1 p.2) (stored vs q.1 q.2):=by
   have:=r0.put p.1 h.2
   rw [← h.1]; exact this
  exact ih e
theorem HR:∀ (more kvs:List (Key × V)),(Fp kvs more).length<=kvs.length+more.length
 | [],kvs=>by show kvs.length<=kvs.length+0; omega
 | p::r,kvs=>by
  have h1:=HR r (putK kvs p.1 p.2)
  have h2:=Fj kvs p.1 p.2
  show (Fp (putK kvs p.1 p.2) r).length<=_
  rw [List.length_cons]; omega
theorem Jr {P:Program} {w:World}:∀ {kvs:List (Key × V)} {ws:List (Value × Value)},VV (kvs.map fun kv=>(kV kv.1,kv.2)) ws->∃ rs,Carries (Cj P w) ws rs/\KV kvs rs
 | [],_,r=>by rw [List.map_nil] at r; cases r; exact ⟨[],True.intro,.nil⟩
 | p::kvs,_,r=>by
  rw [List.map_cons] at r
  cases r with
  | @cons a b as bs h t =>
   obtain ⟨rs,c,q⟩:=Jr (P:=P) (w:=w) t
   obtain ⟨b1,b2⟩:=b
   exact ⟨(p.1,b2)::rs,⟨Km h.1,rfl,c⟩,.cons ⟨rfl,h.2⟩ q⟩
noncomputable def cJ (trs:List (TE × TE)):TE:=fun σ H Q=>∀ p,H p=none->Om trs σ (upd H p (.dK [])) fun ps H2=>H2 p=some (.dK [])/\∃ kvs:List (Key × V),ps=kvs.map (fun kv=>(kV kv.1,kv.2))/\kvs.length<=15/\Q (.ref p) (upd H2 p (.dK (Fp [] kvs)))
theorem Ue {X:Cx} {pos:Pos} {keys:List (Option Expr)} {values:List Expr} {trs:List (TE × TE)} (h:dw X pos keys values trs) (hall:keys.all (·.isSome)=true) (hl:keys.length=values.length) (h0:keys ≠ [])
  (h15:keys.length<=15):PE X (.Dict keys values pos) (cJ trs):=by
 intro pins s σ H Q I q
 have hn:=I.hok.fresh (Nat.le_refl s.heap.objs.size)
 have I1:=I.laid (a:=s.heap.objs.size) (o:=.dK []) (h':=s.heap.push { cls:=.type "dict",data:=.dict #[] }) (t':=s.toks) (fun _ _ q=>Heap.get?_push_of_some _ q) (Nat.le_refl _) (Mp s.heap I.big)
 refine wpAny_Dict_walk (knd:=Cj X.prog X.w) hall hl h0 h15 (CN (h pins _ σ _ _ I1 (q _ hn)) fun ws s2 hq0=>?_)
 obtain ⟨ps,H2,I2,rel,e,kvs,ep,lk,q2⟩:=hq0
 subst ep
 obtain ⟨rs,c,rk⟩:=Jr (P:=X.prog) (w:=X.w) rel
 obtain ⟨z,hd,vs0,r0,dd⟩:=V1 I2.hok e
 cases r0
 refine ⟨rs,c,dd,fun h' dd' hs=>⟨.ref s.heap.objs.size,_,?_,rfl,q2⟩⟩
 have hz:(Fp [] kvs).length<=sizeLine:=by
  have h1:=HR kvs []
  rw [List.length_nil] at h1
  rw [sizeLine_eq]; omega
 have he:∃ q,h'.get? s.heap.objs.size=some q:=let ⟨q,_,_,hq,_⟩:=dd'; ⟨q,hq⟩
 exact Kz I2 (by rw [e]; exact True.intro) hs he (Tz hz hd (rk.merge .nil) dd')
section
variable {X:Cx} {pins:List (Addr × Obj)} {σ:St} {H:Hp} {s:Shared} {a:Addr} {y d:V} {u r:Value} {o:Option V} {A:Around} {E:Value->Shared->Prop}
end
section
variable {X:Cx} {o e f:Expr} {apos cpos:Pos} {td ty tx:TE}
end
section
variable {X:Cx} {pins:List (Addr × Obj)} {σ:St} {H:Hp} {s:Shared} {a:Addr} {kvs:List (Key × V)} {A:Around} {E:Value->Shared->Prop}
end
section
variable {X:Cx} {pins:List (Addr × Obj)} {σ:St} {H:Hp} {s:Shared} {a:Addr} {y:V} {u:Value} {A:Around} {E:Value->Shared->Prop}
end
end L2
namespace HT
open PySem PyProof.Rows
section
open PySem.SeqAt
open PySem.AutoSeq1 (wpAny_loadPart')
open PySem.MeetsSeq PySem.MeetsSeq2 PySem.MeetsSeq3
end
section
variable {prog:Program} {w:World} {A:Around} {E:Value->Shared->Prop} {s:Shared}
noncomputable def D_ (n d:Nat):Option Int->Nat
 | none=>d
 | some v=>if v<0 then (v+(n:Int)).toNat else min v.toNat n
theorem Jl (n d:Nat):D_ n d none=d:=rfl
theorem Hy (n d k:Nat):D_ n d (some (k:Int))=min k n:=by
 show (if (k:Int)<0 then ((k:Int)+(n:Int)).toNat else min (k:Int).toNat n)=min k n
 rw [if_neg (by omega),Int.toNat_natCast]
theorem Wo (n d:Nat) (hd:d<=n) (o:Option Int):D_ n d o<=n:=by
 cases o with
 | none=>exact hd
 | some v =>
  show (if v<0 then (v+(n:Int)).toNat else min v.toNat n)<=n
  by_cases hv:v<0
  ·rw [if_pos hv]; omega
  ·rw [if_neg hv]; exact Nat.min_le_right _ _
theorem PL (v:Int) (n d:Nat):(if v<0 then max (v+(n:Int)) 0 else min v (n:Int))=((D_ n d (some v):Nat):Int):=by
 show (if v<0 then max (v+(n:Int)) 0 else min v (n:Int))=(((if v<0 then (v+(n:Int)).toNat else min v.toNat n):Nat):Int)
 by_cases hv:v<0
 ·simp only [if_pos hv]; omega
 ·simp only [if_neg hv]; omega
theorem Nf (lo hi:Option Int) (n:Nat):Builtin.Slice.sliceAdjust lo hi 1 (n:Int)=(((D_ n 0 lo:Nat):Int),((D_ n n hi:Nat):Int)):=by
 have h1:¬ ((1:Int)<0):=by omega
 unfold Builtin.Slice.sliceAdjust
 simp only [h1,if_false]
 refine Prod.ext ?_ ?_
 ·cases lo with
  | none=>rfl
  | some v=>exact PL v n 0
 ·cases hi with
  | none=>rfl
  | some v=>exact PL v n n
theorem Oe (i j:Nat):Builtin.Slice.slicePlaces (i:Int) (j:Int) 1=j - i:=by
 unfold Builtin.Slice.slicePlaces
 have h1:(1:Int) > 0:=by omega
 simp only [h1,if_true,Int.ediv_one]
 split <;> omega
theorem J0 {v:Value} {o:Option Int} {Q:Option Int->Shared->Prop} (p:IsPart v o) (h:Q o s):wpAny (model prog w) A (Builtin.Slice.slicePartIndex v) Q E s:=by
 cases p with
 | none=>exact slicePart_none h
 | int i t=>exact slicePart_int h
theorem JG {sl:Addr} {vl vu:Value} {lo hi:Option Int} {n:Nat} {Q:Int × Int × Nat->Shared->Prop} (hs:s.heap.IsSliceOf sl vl vu .none) (pl:IsPart vl lo) (pu:IsPart vu hi)
  (h:Q (((D_ n 0 lo:Nat):Int),1,D_ n n hi - D_ n 0 lo) s):wpAny (model prog w) A (Builtin.Slice.sliceApplied (.ref sl) (pure (n:Int))) Q E s:=by
 obtain ⟨os,hos,hcs,hds⟩:=id hs
 unfold Builtin.Slice.sliceApplied Builtin.Slice.sliceFields
 refine wpAny_bind (wpAny_bind (wpAny_field hos hds (x:=vl) rfl (wpAny_bind (wpAny_field hos hds (x:=vu) rfl (wpAny_bind (wpAny_field hos hds (x:=.none) rfl (wpAny_pure ?_)))))))
 refine wpAny_bind (slicePart_none ?_)
 show wpAny _ _ (if ((1:Int) == 0)=true then _ else _) _ _ s
 rw [if_neg (by decide)]
 refine wpAny_bind (J0 pl (wpAny_bind (J0 pu (wpAny_bind (wpAny_pure ?_)))))
 show wpAny _ _ (match Builtin.Slice.sliceAdjust lo hi 1 (n:Int) with | (lo,hi)=>pure (lo,(1:Int),Builtin.Slice.slicePlaces lo hi 1)) _ _ s
 rw [Nf lo hi n]
 show wpAny _ _ (pure (((D_ n 0 lo:Nat):Int),(1:Int),Builtin.Slice.slicePlaces ((D_ n 0 lo:Nat):Int) ((D_ n n hi:Nat):Int) 1)) _ _ s
 rw [Oe]
 exact wpAny_pure h
theorem R5 (xs:Array Value) (i k:Nat):((List.range k).filterMap fun (m:Nat)=>xs[((i:Int)+(m:Int) * 1).toNat]?).toArray=((xs.toList.drop i).take k).toArray:=by
 have e:(fun (m:Nat)=>xs[((i:Int)+(m:Int) * 1).toNat]?)=fun m=>xs[i+m]?:=by
  funext m
  have:((i:Int)+(m:Int) * 1).toNat=i+m:=by omega
  rw [this]
 rw [e]
 have:=pick_run xs i k
 rw [List.filterMap_map] at this
 have e2:((fun x=>xs[x]?) ∘ fun x=>i+x)=fun m=>xs[i+m]?:=rfl
 rw [e2] at this
 rw [this]
theorem Hu {t sl:Addr} {items:Array Value} {vl vu:Value} {lo hi:Option Int} {Q:Value->Shared->Prop} (ht:IsTup s.heap t items) (hs:s.heap.IsSliceOf sl vl vu .none) (pl:IsPart vl lo) (pu:IsPart vu hi)
  (hw:¬ (D_ items.size 0 lo=0/\D_ items.size items.size hi=items.size))
  (h:Q (.ref s.heap.objs.size) { s with heap:=s.heap.push { cls:=.type "tuple",data:=.seq ((items.toList.drop (D_ items.size 0 lo)).take (D_ items.size items.size hi - D_ items.size 0 lo)).toArray } })
  (hsz:items.size<=sizeLine):wpAny (model prog w) A (getItem (.ref t) (.ref sl)) Q E s:=by
 have htake:sizeOk (.seq ((items.toList.drop (D_ items.size 0 lo)).take (D_ items.size items.size hi - D_ items.size 0 lo)).toArray):=by
  show ((items.toList.drop (D_ items.size 0 lo)).take (D_ items.size items.size hi - D_ items.size 0 lo)).toArray.size<=sizeLine
  rw [List.size_toArray,List.length_take,List.length_drop,Array.length_toList]
  omega
 have hj:D_ items.size items.size hi<=items.size:=Wo _ _ (Nat.le_refl _) hi
 obtain ⟨os,hos,hcs,hds⟩:=id hs
 have hTs:s.TypeIs (.ref sl) "slice":=⟨os,hos,hcs⟩
 unfold getItem
 try with_reducible refine wpAny_holding ?_
 first | refine wpAny_bind (wpAny_pure ?_) | skip
 refine wpAny_bind (wpAny_sequenceKey ht.typeIs (by decide) ?_)
 refine wpAny_bind (wpAny_callSpecial?_slot (name:=Str.ofString "__getitem__") ht.typeIs PyProof.Rows.slot_tuple_getitem
  (wpAny_call_entry PyProof.Rows.slot_tuple_getitem ht.typeIs entry_tuple_getitem ?_ (args_tuple_getitem _ _)))
 show wpAny _ _ (Builtin.Tuple.tupleItemsOf (.ref t) >>= _) _ _ s
 refine wpAny_bind (tupleItemsOf_ ht ?_)
 refine wpAny_bind (wpAny_typeOf hTs ?_)
 rw [if_pos (by decide)]
 refine wpAny_bind (JG hs pl pu ?_)
 have hno:¬ ((((D_ items.size 0 lo:Nat):Int) == 0 && (1:Int) == 1 && (D_ items.size items.size hi - D_ items.size 0 lo) == items.size)=true):=by
  intro q
  rw [Bool.and_eq_true,Bool.and_eq_true] at q
  have q1:((D_ items.size 0 lo:Nat):Int)=0:=eq_of_beq q.1.1
  have q2:D_ items.size items.size hi - D_ items.size 0 lo=items.size:=eq_of_beq q.2
  exact hw ⟨by omega,by omega⟩
 show wpAny _ _ (if (((D_ items.size 0 lo:Nat):Int) == 0 && (1:Int) == 1 && (D_ items.size items.size hi - D_ items.size 0 lo) == items.size)=true then _ else _) _ _ s
 rw [if_neg hno,R5]
 first
  | exact wpAny_bind (m:=Builtin.Tuple.tupleExact _) (wpAny_newObj_type (wpAny_pure ⟨_,rfl,wpAny_pure h⟩) htake)
  | exact wpAny_bind (m:=Builtin.Tuple.tupleExact _) (wpAny_newObj_type (wpAny_bind (wpAny_pure (wpAny_pure ⟨_,rfl,wpAny_pure h⟩))) htake)
  | exact wpAny_bind (wpAny_bind (m:=Builtin.Tuple.tupleExact _) (wpAny_newObj_type (wpAny_pure (wpAny_pure ⟨_,rfl,wpAny_pure h⟩)) htake))
  | exact wpAny_bind (wpAny_bind (m:=Builtin.Tuple.tupleExact _) (wpAny_newObj_type (wpAny_pure ⟨_,rfl,wpAny_pure h⟩) htake))
end
end HT
namespace L2
open PySem PySem.Spec PyProof.Rows
noncomputable abbrev TO:=St->Hp->(Option Int->Hp->Prop)->Prop
noncomputable def PO (X:Cx) (e:Option Expr) (t:TO):Prop :=
 ∀ (pins:List (Addr × Obj)) (s:Shared) (σ:St) (H:Hp) (Q:Option Int->Hp->Prop),Inv X pins σ H s->t σ H Q ->
  wpAny (model X.prog X.w) X.A (evalPart e X.env) (fun u s'=>∃ o H',Inv X pins σ H' s'/\IsPart u o/\Q o H') X.xe s
noncomputable def U3:TO:=fun _ H Q=>Q none H
noncomputable def Yo (t:TE):TO:=fun σ H Q=>t σ H fun x H1=>∃ i,x=.int i/\Q (some i) H1
section
variable {X:Cx} {e:Expr} {te:TE} {lo hi:Option Expr} {tl th:TO} {pos p2:Pos}
theorem Ec:PO X none U3:=by
 intro pins s σ H Q I h
 rw [evalPart_none]
 exact wpAny_pure ⟨none,H,I,.none,h⟩
theorem Ca (h:PE X e te):PO X (some e) (Yo te):=by
 intro pins s σ H Q I hw
 rw [evalPart_some]
 refine CN (h pins s σ H _ I hw) fun u s1 hq0=>?_
 obtain ⟨x,H1,I1,r1,q1⟩:=hq0
 obtain ⟨i,rfl,q⟩:=q1
 obtain ⟨t,rfl⟩:=r1
 exact ⟨some i,H1,I1,.int i t,q⟩
noncomputable def dF (X:Cx) (r:V->Option Int->Option Int->Hp->VK->Prop):Prop :=
 ∀ (pins:List (Addr × Obj)) (s:Shared) (σ:St) (H:Hp) (x:V) (v vl vu:Value) (lo hi:Option Int) (sl:Addr) (Q:VK),Inv X pins σ H s->RelV x v->s.heap.IsSliceOf sl vl vu .none->IsPart vl lo->IsPart vu hi->r x lo hi H Q ->
  ∃ T id,typeLookup (.type T) "__getitem__" = pure (some (.builtin id))/\s.TypeIs v T/\wpAny (model X.prog X.w) X.A (getItem v (.ref sl)) (EP X pins σ Q) X.xe s
noncomputable def kO (r:V->Option Int->Option Int->Hp->VK->Prop) (te:TE) (tl th:TO):TE:=fun σ H Q=>te σ H fun x H1=>tl σ H1 fun l H2=>th σ H2 fun u H3=>r x l u H3 Q
theorem Dd {r:V->Option Int->Option Int->Hp->VK->Prop} (hr:dF X r) (he:PE X e te) (hl:PO X lo tl) (hu:PO X hi th):PE X (.Subscript e (.Slice lo hi none p2) pos) (kO r te tl th):=by
 intro pins s σ H Q I h
 refine Subscript_ (CN (he pins s σ H _ I h) fun v s1 hq0=>?_)
 obtain ⟨x,H1,I1,r1,q1⟩:=hq0
 refine wpAny_Slice (CN (hl pins s1 σ H1 _ I1 q1) fun vl s2 ⟨l,H2,I2,pl,q2⟩=>CN (hu pins s2 σ H2 _ I2 q2) fun vu s3 hq0=>?_)
 obtain ⟨u,H3,I3,pu,q3⟩:=hq0
 rw [evalPart_none]
 refine wpAny_pure ?_
 have I4:Inv X pins σ H3 { s3 with heap:=s3.heap.push { cls:=.type "slice",data:=.fields #[vl,vu,.none] } }:=I3.kept (t':=s3.toks) fun b ob q=>Heap.get?_push_of_some _ q
 obtain ⟨T,id,hT,ht,hg⟩:=hr pins { s3 with heap:=s3.heap.push { cls:=.type "slice",data:=.fields #[vl,vu,.none] } } σ H3 x v vl vu l u s3.heap.objs.size Q I4 r1 (Heap.IsSliceOf.new ..) pl pu q3
 show wpAny (model X.prog X.w) X.A (subscriptTail e (.Slice lo hi none p2) v (.ref s3.heap.objs.size)) (EP X pins σ Q) X.xe { s3 with heap:=s3.heap.push { cls:=.type "slice",data:=.fields #[vl,vu,.none] } }
 exact tail_any (ops:=[.ref s3.heap.objs.size,v]) ht hT hg (by with_unfolding_all rfl)
noncomputable def Cy (xs:List V) (lo hi:Option Int):List V:=(xs.drop (HT.D_ xs.length 0 lo)).take (HT.D_ xs.length xs.length hi - HT.D_ xs.length 0 lo)
theorem JM (xs:List V) (lo hi:Option Int):(Cy xs lo hi).length<=xs.length:=by
 unfold Cy
 rw [List.length_take,List.length_drop]
 omega
noncomputable def iM (K:PySem.W.Frag):V->Option Int->Option Int->Hp->VK->Prop:=fun x lo hi H Q=>∃ a xs,x=.ref a/\Hf K H a xs /\
 ¬ (HT.D_ xs.length 0 lo=0/\HT.D_ xs.length xs.length hi=xs.length)/\∀ p,H p=none->Q (.ref p) (upd H p (.tup (Cy xs lo hi)))
theorem X6:dF X (iM X.K):=by
 intro pins s σ H x v vl vu lo hi sl Q I rx hs pl pu h
 obtain ⟨a,xs,rfl,hx,hw,q⟩:=h
 cases rx
 obtain ⟨its,r,ht,hz⟩:=I.tuple hx
 have hlen:its.toArray.size=xs.length:=by rw [List.size_toArray]; exact r.length.symm
 refine ⟨"tuple",_,PyProof.Rows.slot_tuple_getitem.lookup,ht.typeIs,?_⟩
 refine HT.Hu ht hs pl pu (by rw [hlen]; exact hw) ?_ (by rw [hlen]; exact hz)
 rw [hlen]
 refine ⟨.ref s.heap.objs.size,_,I.laid (t':=s.toks) (o:=.tup (Cy xs lo hi)) (fun b ob q=>Heap.get?_push_of_some _ q) (Nat.le_refl _) ?_,rfl,q _ (I.hok.fresh (Nat.le_refl _))⟩
 exact ⟨Nat.le_trans (JM xs lo hi) hz,_,(r.drop (HT.D_ xs.length 0 lo)).take (HT.D_ xs.length xs.length hi - HT.D_ xs.length 0 lo),IsTup.new _ _⟩
end
end L2
namespace L2
open PySem PySem.Spec PyProof.Rows
noncomputable def WR (n:Nat) (i:Int):Option Nat:=if 0<=i then (if i<n then some i.toNat else none) else if -(n:Int)<=i then some (i+n).toNat else none
noncomputable def MJ {α:Type} (xs:List α) (i:Int):Option α:=(WR xs.length i).bind fun j=>xs[j]?
theorem Uj {n:Nat} {i:Int} {j:Nat} (h:WR n i=some j):seqIndex? i n=some j/\j<n /\ -(n:Int)<=i/\i<n:=by
 unfold WR at h
 by_cases h0:0<=i
 ·rw [if_pos h0] at h
  by_cases h1:i<n
  ·rw [if_pos h1] at h
   have e:i.toNat=j:=Option.some.inj h
   exact ⟨by rw [seqIndex_of h0 h1,e],by omega,by omega,h1⟩
  ·rw [if_neg h1] at h; cases h
 ·rw [if_neg h0] at h
  by_cases h1 : -(n:Int)<=i
  ·rw [if_pos h1] at h
   have e:(i+n).toNat=j:=Option.some.inj h
   exact ⟨by rw [seqIndex_neg (by omega) h1,e],by omega,h1,by omega⟩
  ·rw [if_neg h1] at h; cases h
theorem Ls {α:Type} {xs:List α} {i:Int} {v:α} (h:MJ xs i=some v):∃ j,seqIndex? i xs.length=some j/\xs[j]? = some v/\j<xs.length /\ -(xs.length:Int)<=i/\i<xs.length:=by
 unfold MJ at h
 cases e:WR xs.length i with
 | none=>rw [e] at h; cases h
 | some j =>
  rw [e] at h
  obtain ⟨h1,h2,h3,h4⟩:=Uj e
  exact ⟨j,h1,h,h2,h3,h4⟩
theorem Af {α:Type} {xs:List α} {j:Nat} {v:α} (h:xs[j]? = some v):MJ xs (j:Int)=some v:=by
 have hj:j<xs.length:=(List.getElem?_eq_some_iff.mp h).1
 have e:WR xs.length (j:Int)=some j:=by
  unfold WR
  rw [if_pos (by omega),if_pos (by omega)]; simp
 unfold MJ; rw [e]; exact h
noncomputable def Ui (b:Expr):Prop:=∀ o i,subscripted b false o i=operate [o,i] (getItem o i)
noncomputable def YG (X:Cx) (r:R2):Prop :=
 ∀ (value slice:Expr) (pins:List (Addr × Obj)) (s:Shared) (σ:St) (H:Hp) (x y:V) (v u:Value) (Q:VK),Inv X pins σ H s->RelV x v->RelV y u->r x y H Q ->
  subscripted slice false v u=operate [v,u] (getItem v u)->wpAny (model X.prog X.w) X.A (subscriptTail value slice v u) (EP X pins σ Q) X.xe s
noncomputable def dh (X:Cx) (id:String) (r:V->List V->Hp->VK->Prop):Prop :=
 ∀ (pins:List (Addr × Obj)) (s:Shared) (σ:St) (H:Hp) (x:V) (xs:List V) (v:Value) (us:List Value) (Q:VK),Inv X pins σ H s->RelV x v->Vals xs us->r x xs H Q ->
  wpAny (model X.prog X.w) X.A (call (.builtin id) (v::us)) (EP X pins σ Q) X.xe s
section
variable {X:Cx} {a b:Expr} {ta tb:TE} {pos:Pos}
theorem Am {r:R2} (hr:YG X r) (ha:PE X a ta) (hb:PE X b tb) (hs:Ui b):PE X (.Subscript a b pos) (M8 r ta tb):=by
 intro pins s σ H Q I h
 exact Subscript_ (Xu ha hb I h fun v u s2 x y H2 I2 rx ry q=>hr a b pins s2 σ H2 x y v u Q I2 rx ry q (hs _ _))
noncomputable def Yj (K:PySem.W.Frag):R2:=fun x y H Q=>∃ p xs i v,x=.ref p/\y=.int i/\CP K H p xs/\MJ xs i=some v/\Q v H
noncomputable def Z3 (K:PySem.W.Frag):R2:=fun x y H Q=>∃ p xs i v,x=.ref p/\y=.int i/\Hf K H p xs/\MJ xs i=some v/\Q v H
noncomputable def eZ:R2:=fun x y H Q=>∃ z i c,x=.str z/\y=.int i/\z.length<=sizeLine/\MJ z.cps.toList i=some c/\Q (.str ⟨#[c]⟩) H
theorem Ek:YG X (Yj X.K):=by
 intro value slice pins s σ H x y v u Q I rx ry h hs
 obtain ⟨p,xs,i,z,rfl,rfl,hq,he,q⟩:=h
 cases rx
 obtain ⟨t,rfl⟩:=ry
 obtain ⟨its,r,pl,hz⟩:=I.list hq
 obtain ⟨j,h1,h2,h3,h4,h5⟩:=Ls he
 obtain ⟨w,ew,rw'⟩:=r.get h2
 have hl:=r.length
 have hn:=Ir
 have fin:EP X pins σ Q w s:=⟨z,H,I,rw',q⟩
 by_cases h0:0<=i
 ·have hj:i.toNat=j:=by
   rw [seqIndex_of h0 h5] at h1
   exact Option.some.inj h1
  exact item_listR pl.isList h0 (by omega) (by rw [hj]; simpa using ew) fin hs
 ·have hj:(i+(its.toArray.size:Int)).toNat=j:=by
   rw [seqIndex_neg (by omega) h4] at h1
   rw [List.size_toArray,← hl]
   exact Option.some.inj h1
  exact subscriptTail_builtinR (x:=w) pl.isList.typeIs slot_list_getitem.lookup
   (wpAny_getItem_list_neg (Q:=fun r s'=>r=w/\EP X pins σ Q r s') pl.isList (by omega) (by rw [List.size_toArray] <;> omega) (by omega) (by rw [hj]; simpa using ew) ⟨rfl,fin⟩) hs
theorem X8:YG X (Z3 X.K):=by
 intro value slice pins s σ H x y v u Q I rx ry h hs
 obtain ⟨p,xs,i,z,rfl,rfl,hq,he,q⟩:=h
 cases rx
 obtain ⟨t,rfl⟩:=ry
 obtain ⟨its,r,pl,hz⟩:=I.tuple hq
 obtain ⟨j,h1,h2,h3,h4,h5⟩:=Ls he
 obtain ⟨w,ew,rw'⟩:=r.get h2
 have hl:=r.length
 have hn:=Ir
 have fin:EP X pins σ Q w s:=⟨z,H,I,rw',q⟩
 exact subscriptTail_builtinR (x:=w) pl.typeIs slot_tuple_getitem.lookup
  (getItem_tuple (j:=j) (Q:=fun r s'=>r=w/\EP X pins σ Q r s') pl (by omega) (by omega) (by rw [List.size_toArray,← hl]; exact h1) (by simpa using ew) ⟨rfl,fin⟩) hs
theorem Oj:YG X eZ:=by
 intro value slice pins s σ H x y v u Q I rx ry h hs
 obtain ⟨z,i,c,rfl,rfl,hz,he,q⟩:=h
 obtain ⟨t,rfl⟩:=rx
 obtain ⟨t',rfl⟩:=ry
 obtain ⟨j,h1,h2,h3,h4,h5⟩:=Ls he
 have hl:z.cps.toList.length=z.length:=by simp [Str.length]
 rw [hl] at h1 h4 h5
 have hn:=Ir
 exact tail_any (typeIs_str s z t) slot_str_getitem.lookup (getItem_str (c:=c) (by
  have e1:decide (i < -(2 ^ 63:Int))=false:=decide_eq_false (by omega)
  have e2:decide (i ≥ 2 ^ 63)=false:=decide_eq_false (by omega)
  rw [e1,e2,Bool.or_false]) (by rw [h1]; simpa using h2) ⟨.str ⟨#[c]⟩,H,I.tok _,⟨_,rfl⟩,q⟩) hs
theorem Lw (lo hi:Option Int) (n:Nat):(sliceBounds lo hi none n).1=((HT.D_ n 0 lo:Nat):Int)/\(sliceBounds lo hi none n).2.1=((HT.D_ n n hi:Nat):Int)/\(sliceBounds lo hi none n).2.2=1:=by
 refine ⟨?_,?_,rfl⟩
 ·cases lo with
  | none=>simp [sliceBounds,HT.D_]
  | some i =>
   simp only [sliceBounds,HT.D_,Option.getD_none,show (1:Int) > 0 by decide,if_true]
   by_cases h:i<0
   ·simp only [h,if_true] <;> omega
   ·simp only [h,if_false] <;> omega
 ·cases hi with
  | none=>simp [sliceBounds,HT.D_]
  | some i =>
   simp only [sliceBounds,HT.D_,Option.getD_none,show (1:Int) > 0 by decide,if_true]
   by_cases h:i<0
   ·simp only [h,if_true] <;> omega
   ·simp only [h,if_false] <;> omega
theorem KR (its:List Value) (lo hi:Option Int):slicePick its.toArray lo hi none=((its.drop (HT.D_ its.length 0 lo)).take (HT.D_ its.length its.length hi - HT.D_ its.length 0 lo)).toArray:=by
 obtain ⟨h1,h2,h3⟩:=Lw lo hi its.toArray.size
 unfold slicePick
 rw [h1,h2,h3]
 simp only [sliceRange_one,pick_run,List.size_toArray] <;> rfl
noncomputable def jT (K:PySem.W.Frag):V->Option Int->Option Int->Hp->VK->Prop:=fun x lo hi H Q=>∃ a xs,x=.ref a/\CP K H a xs/\∀ p,H p=none->Q (.ref p) (upd H p (.lst (Cy xs lo hi)))
theorem Ey:dF X (jT X.K):=by
 intro pins s σ H x v vl vu lo hi sl Q I rx hs pl pu h
 obtain ⟨a,xs,rfl,hx,q⟩:=h
 cases rx
 obtain ⟨its,r,ht,hz⟩:=I.list hx
 have hlen:=r.length
 refine ⟨"list",_,slot_list_getitem.lookup,ht.isList.typeIs,?_⟩
 refine wpAny_getItem_list_slice ht.isList hs pl pu .none (by simp) ?_ (by rw [List.size_toArray] <;> omega)
 rw [KR,← hlen]
 refine ⟨.ref s.heap.objs.size,_,I.laid (t':=s.toks) (o:=.lst (Cy xs lo hi)) (fun b ob q=>Heap.get?_push_of_some _ q) (Nat.le_refl _) ?_,rfl,q _ (I.hok.fresh (Nat.le_refl _))⟩
 exact ⟨Nat.le_trans (JM xs lo hi) hz,_,0,(r.drop (HT.D_ xs.length 0 lo)).take (HT.D_ xs.length xs.length hi - HT.D_ xs.length 0 lo),Heap.get?_push_size _ rfl⟩
noncomputable def HW:V->Bool
 | .non=>true
 | .bl _=>true
 | .int _=>true
 | .str _=>true
 | _=>false
noncomputable def WF:V->V->Bool
 | .non,.non=>true
 | .bl a,.bl b=>a == b
 | .bl a,.int b=>(if a then 1 else 0) == b
 | .int a,.bl b=>a == (if b then 1 else 0)
 | .int a,.int b=>a == b
 | .str a,.str b=>a == b
 | _,_=>false
theorem W4 {A:Around} {s:Shared} {y x:V} {u v:Value} (ry:RelV y u) (rx:RelV x v) (fy:HW y=true) (fx:HW x=true):SeqAt.EqAt A s u v (WF y x):=by
 cases y with
 | non =>
  cases ry
  cases x with
  | non=>cases rx; exact SeqAt.EqAt.same _
  | bl b=>cases rx; exact SeqAt.EqAt.none_bool b
  | int b=>obtain ⟨t,rfl⟩:=rx; exact SeqAt.EqAt.none_int b t
  | str b=>obtain ⟨t,rfl⟩:=rx; exact SeqAt.EqAt.none_str b t
  | _=>exact absurd (show false=true from fx) Bool.false_ne_true
 | bl a =>
  cases ry
  cases x with
  | non=>cases rx; exact SeqAt.EqAt.bool_none a
  | bl b=>cases rx; exact SeqAt.EqAt.bool_bool a b
  | int b=>obtain ⟨t,rfl⟩:=rx; exact SeqAt.EqAt.bool_int a b t
  | str b=>obtain ⟨t,rfl⟩:=rx; exact SeqAt.EqAt.bool_str a b t
  | _=>exact absurd (show false=true from fx) Bool.false_ne_true
 | int a =>
  obtain ⟨t',rfl⟩:=ry
  cases x with
  | non=>cases rx; exact SeqAt.EqAt.int_none a t'
  | bl b=>cases rx; exact SeqAt.EqAt.int_bool a t' b
  | int b=>obtain ⟨t,rfl⟩:=rx; exact SeqAt.EqAt.int_int a t' b t
  | str b=>obtain ⟨t,rfl⟩:=rx; exact SeqAt.EqAt.int_str a t' b t
  | _=>exact absurd (show false=true from fx) Bool.false_ne_true
 | str a =>
  obtain ⟨t',rfl⟩:=ry
  cases x with
  | non=>cases rx; exact SeqAt.EqAt.str_none a t'
  | bl b=>cases rx; exact SeqAt.EqAt.str_bool a t' b
  | int b=>obtain ⟨t,rfl⟩:=rx; exact SeqAt.EqAt.str_int a t' b t
  | str b=>obtain ⟨t,rfl⟩:=rx; exact SeqAt.EqAt.str_str a t' b t
  | _=>exact absurd (show false=true from fx) Bool.false_ne_true
 | _=>exact absurd (show false=true from fy) Bool.false_ne_true
noncomputable def Oa (x:V) (u:Value):Bool:=match u with
 | .none=>WF .non x
 | .bool b=>WF (.bl b) x
 | .int i _=>WF (.int i) x
 | .str z _=>WF (.str z) x
 | _=>false
theorem Ti {x y:V} {u:Value} (r:RelV y u) (f:HW y=true):Oa x u=WF y x:=by
 cases y with
 | non=>cases r; rfl
 | bl b=>cases r; rfl
 | int i=>obtain ⟨t,rfl⟩:=r; rfl
 | str z=>obtain ⟨t,rfl⟩:=r; rfl
 | _=>exact absurd (show false=true from f) Bool.false_ne_true
theorem Ie {x:V}:∀ {xs:List V} {us:List Value},Vals xs us->xs.all HW=true->us.any (Oa x)=xs.any fun y=>WF y x
 | _,_,.nil,_=>rfl
 | y::xs,u::us,.cons r t,f=>by
  rw [List.all_cons,Bool.and_eq_true] at f
  rw [List.any_cons,List.any_cons,Ti r f.1,Ie t f.2]
theorem G8 {A:Around} {s:Shared} {x:V} {v:Value} (rx:RelV x v) (fx:HW x=true):∀ {xs:List V} {us:List Value},Vals xs us->xs.all HW=true->∀ u∈us,SeqAt.EqAt A s u v (Oa x u)
 | _,_,.nil,_=>fun u hu=>by cases hu
 | y::xs,u::us,.cons r t,f=>fun u' hu=>by
  rw [List.all_cons,Bool.and_eq_true] at f
  rcases List.mem_cons.mp hu with rfl | hu
  ·rw [Ti r f.1]; exact W4 r rx f.1 fx
  ·exact G8 rx fx t f.2 u' hu
noncomputable def inV (x:V) (xs:List V):Bool:=xs.any fun y=>WF y x
noncomputable def dC (K:PySem.W.Frag) (neg:Bool):R2:=fun x y H Q=>∃ p xs,y=.ref p/\(CP K H p xs \/ Hf K H p xs)/\HW x=true/\xs.all HW=true/\Q (.bl (if neg then !inV x xs else inV x xs)) H
theorem JB:Gp X (compareOp .In) (dC X.K false):=by
 intro pins s σ H x y v u Q I rx ry h
 obtain ⟨p,xs,rfl,hq,fx,fs,q⟩:=h
 cases ry
 rcases hq with hq | hq
 ·obtain ⟨its,r,pl,hz⟩:=I.list hq
  refine SeqAt.in_listAt (Oa x) pl.isList (fun w hw=>G8 rx fx r fs w (by simpa using hw)) ⟨.bl _,H,I,rfl,?_⟩
  rw [show its.toArray.any (Oa x)=its.any (Oa x) by simp,Ie r fs]
  exact q
 ·obtain ⟨its,r,pl,hz⟩:=I.tuple hq
  refine SeqAt.in_tupleAt (Oa x) pl (fun w hw=>G8 rx fx r fs w (by simpa using hw)) ⟨.bl _,H,I,rfl,?_⟩
  rw [show its.toArray.any (Oa x)=its.any (Oa x) by simp,Ie r fs]
  exact q
theorem Ez:Gp X (compareOp .NotIn) (dC X.K true):=by
 intro pins s σ H x y v u Q I rx ry h
 obtain ⟨p,xs,rfl,hq,fx,fs,q⟩:=h
 cases ry
 rcases hq with hq | hq
 ·obtain ⟨its,r,pl,hz⟩:=I.list hq
  refine SeqAt.notIn_listAt (Oa x) pl.isList (fun w hw=>G8 rx fx r fs w (by simpa using hw)) ⟨.bl _,H,I,rfl,?_⟩
  rw [show its.toArray.any (Oa x)=its.any (Oa x) by simp,Ie r fs]
  exact q
 ·obtain ⟨its,r,pl,hz⟩:=I.tuple hq
  refine SeqAt.notIn_tupleAt (Oa x) pl (fun w hw=>G8 rx fx r fs w (by simpa using hw)) ⟨.bl _,H,I,rfl,?_⟩
  rw [show its.toArray.any (Oa x)=its.any (Oa x) by simp,Ie r fs]
  exact q
theorem BX:Fg X (.builtin "len") (fun xs H Q=>∃ p ys,xs=[.ref p]/\(CP X.K H p ys \/ Hf X.K H p ys)/\Q (.int ys.length) H):=by
 intro pins s σ H xs us Q I r h
 obtain ⟨p,ys,rfl,hq,q⟩:=h
 obtain ⟨u,rfl,rx⟩:=vals1 r
 cases rx
 have hn:=Ir
 rcases hq with hq | hq
 ·obtain ⟨its,r',pl,hz⟩:=I.list hq
  have hlen:=r'.length
  exact Calls.call_len_list pl.isList (by simp only [List.size_toArray] <;> omega) ⟨.int ys.length,H,I.tok _,⟨s.toks+1,by rw [List.size_toArray,hlen]⟩,q⟩
 ·obtain ⟨its,r',pl,hz⟩:=I.tuple hq
  have hlen:=r'.length
  exact len_tuple pl (by simp only [List.size_toArray] <;> omega) ⟨.int ys.length,H,I.tok _,⟨s.toks+1,by rw [List.size_toArray,hlen]⟩,q⟩
theorem Ky:Fg X (.builtin "len") (fun xs H Q=>∃ z,xs=[.str z]/\z.length<=sizeLine/\Q (.int z.length) H):=by
 intro pins s σ H xs us Q I r h
 obtain ⟨z,rfl,hz,q⟩:=h
 obtain ⟨u,rfl,t,rfl⟩:=vals1 r
 have hn:=Ir
 exact len_str (by omega) ⟨.int z.length,H,I.tok _,⟨_,rfl⟩,q⟩
theorem Ew:Fg X (.type "list") (fun xs H Q=>∃ p ys,xs=[.ref p]/\(CP X.K H p ys \/ Hf X.K H p ys)/\∀ l,H l=none->Q (.ref l) (upd H l (.lst ys))):=by
 intro pins s σ H xs us Q I r h
 obtain ⟨p,ys,rfl,hq,q⟩:=h
 obtain ⟨u,rfl,rx⟩:=vals1 r
 cases rx
 have fin:∀ (its:List Value),Vals ys its->ys.length<=sizeLine->∀ (h':Heap) (c':Nat),(∀ b o',s.heap.get? b=some o'->h'.get? b=some o') ->
   h'.get? s.heap.objs.size=some { cls:=.type "list",dict:=none,data:=.seq its.toArray c',slots:=#[] }->EP X pins σ Q (.ref s.heap.objs.size) { s with heap:=h' }:=fun its r' hz h' c' kp e =>
  ⟨.ref s.heap.objs.size,_,I.laid (t':=s.toks) kp (Nat.le_refl _) (show Ce X.prog X.w _ h' _ (.lst ys) from ⟨hz,its,c',r',e⟩),rfl,q _ (I.hok.fresh (Nat.le_refl _))⟩
 rcases hq with hq | hq
 ·obtain ⟨its,r',pl,hz⟩:=I.list hq
  have hlen:=r'.length
  obtain ⟨o,ho,hc,n,hd⟩:=pl.isList
  exact call_list_seq p (.inl rfl) ho hc hd (fun h' c' kp e=>fin its r' hz h' c' kp e) (by simp only [List.size_toArray] <;> omega)
 ·obtain ⟨its,r',pl,hz⟩:=I.tuple hq
  have hlen:=r'.length
  obtain ⟨o,ho,hc,n,hd⟩:=pl
  exact call_list_seq p (.inr rfl) ho hc hd (fun h' c' kp e=>fin its r' hz h' c' kp e) (by simp only [List.size_toArray] <;> omega)
noncomputable def gf (K:PySem.W.Frag) (T:String) (x:V) (H:Hp):Prop:=match x with
 | .str _=>T = "str"
 | .int _=>T = "int"
 | .ref p=>(T = "list" /\ ∃ xs,CP K H p xs) \/ (T = "tuple" /\ ∃ o,K.lookup p=some o/\o.cls=.type "tuple" /\ o.dict=none) \/
   (T = "dict" /\ ((∃ kvs,H p=some (.dK kvs)) \/ ∃ kvs,H p=some (.dT kvs))) \/ (T = "set" /\ ∃ S n,H p=some (.set S n))
 | _=>False
theorem Rt {pins:List (Addr × Obj)} {σ:St} {H:Hp} {s:Shared} {T:String} {x:V} {v:Value} (I:Inv X pins σ H s) (r:RelV x v) (ty:gf X.K T x H) :
  s.TypeIs v T/\∀ a,v=.ref a->∃ ob,s.heap.get? a=some ob/\ob.dict=none:=by
 cases x with
 | str z =>
  obtain ⟨t,rfl⟩:=r
  cases (show T = "str" from ty)
  exact ⟨typeIs_str s z t,fun _ e=>nomatch e⟩
 | int i =>
  obtain ⟨t,rfl⟩:=r
  cases (show T = "int" from ty)
  exact ⟨typeIs_int s i t,fun _ e=>nomatch e⟩
 | ref p =>
  cases r
  rcases ty with ⟨rfl,xs,hq⟩ | ⟨rfl,o,hk,hc,hd⟩ | ⟨rfl,hk⟩ | ⟨rfl,S,n,hk⟩
  ·obtain ⟨its,_,pl,_⟩:=I.list hq
   refine ⟨pl.isList.typeIs,fun a e=>?_⟩
   cases e
   obtain ⟨o,n,e,c,hd,_⟩:=pl
   exact ⟨o,e,hd⟩
  ·refine ⟨⟨o,I.Ii p o hk,hc⟩,fun a e=>?_⟩
   cases e
   exact ⟨o,I.Ii _ o hk,hd⟩
  ·have z:∃ o,s.heap.get? p=some o/\o.ExactDict:=by
    rcases hk with ⟨kvs,hk⟩ | ⟨kvs,hk⟩
    ·obtain ⟨_,_,_,_,o,_,_,e,ex,_⟩:=I.hok p _ hk
     exact ⟨o,e,ex⟩
    ·obtain ⟨_,_,_,_,o,_,_,e,ex,_⟩:=I.hok p _ hk
     exact ⟨o,e,ex⟩
   obtain ⟨o,e,ex⟩:=z
   refine ⟨⟨o,e,ex.1⟩,fun a e2=>?_⟩
   cases e2
   exact ⟨o,e,ex.2.1⟩
  ·obtain ⟨o,_,_,_,e,ex,_⟩:=I.hok p _ hk
   refine ⟨⟨o,e,ex.1⟩,fun a e2=>?_⟩
   cases e2
   exact ⟨o,e,ex.2.1⟩
 | _=>exact False.elim ty
noncomputable def fD (K:PySem.W.Frag) (T:String) (r:V->List V->Hp->VK->Prop) (to:TE):TE:=fun σ H Q=>to σ H fun x H1=>gf K T x H1/\r x [] H1 Q
noncomputable def lB (K:PySem.W.Frag) (T:String) (r:V->List V->Hp->VK->Prop) (to:TE) (t:TA):TE:=fun σ H Q=>to σ H fun x H1=>gf K T x H1/\t σ H1 fun xs H2=>r x xs H2 Q
variable {o e:Expr} {es:List Expr} {to:TE} {t:TA} {name:Str} {apos cpos:Pos} {T id:String} {r:V->List V->Hp->VK->Prop}
theorem Te (pa:PlainAttrs T) (slot:Slot T name id) (hty:typeOf (.builtin id)=pure (.type "method_descriptor")) (hm:dh X id r) (ho:PE X o to)
  (hbase:attributeBase o name X.env (eval o X.env)=eval o X.env:=by rfl) (hline:(apos.endLine == cpos.line)=true:=by rfl):PE X (.Call (.Attribute o name apos) [] [] cpos) (fD X.K T r to):=by
 intro pins s σ H Q I h
 refine wpAny_Call_method0_late hbase hline (CN (ho pins s σ H _ I h) fun v s1 hq0=>?_)
 obtain ⟨x,H1,I1,r1,ty,q1⟩:=hq0
 obtain ⟨h1,h2⟩:=Rt I1 r1 ty
 exact ⟨T,id,pa,slot,hty,h1,h2,Calls.callWith_builtin rfl (PySem.evalArgs_none (hm pins s1 σ H1 x [] v [] Q I1 r1 .nil q1))⟩
theorem En (pa:PlainAttrs T) (slot:Slot T name id) (hty:typeOf (.builtin id)=pure (.type "method_descriptor")) (hm:dh X id r) (ho:PE X o to) (ha:PA X (e::es) t)
  (hbase:attributeBase o name X.env (eval o X.env)=eval o X.env:=by rfl)
  (hfew:((backTo cpos (starEach (e::es) X.env)).all (fun x=>!x.1) && (backToKw cpos (keywordEach [] X.env)).all (fun x=>x.1.isSome)
   && decide ((e::es).length+([]:List Keyword).length+(if ([]:List Keyword).isEmpty then 0 else 1)<30))=true:=by rfl)
  (hline:(apos.endLine == cpos.line)=true:=by rfl) (hs:starEach (e::es) X.env=(false,eval e X.env)::starEach es X.env:=by rfl) (hplain:(backTo cpos (starEach es X.env)).any (·.1)=false:=by rfl) :
  PE X (.Call (.Attribute o name apos) (e::es) [] cpos) (lB X.K T r to t):=by
 intro pins s σ H Q I h
 refine wpAny_Call_method_late hbase hfew hline rfl (CN (ho pins s σ H _ I h) fun v s1 hq0=>?_)
 obtain ⟨x,H1,I1,r1,ty,q1⟩:=hq0
 obtain ⟨h1,h2⟩:=Rt I1 r1 ty
 refine ⟨T,id,pa,slot,hty,h1,h2,?_⟩
 have hA:=ha cpos pins s1 σ H1 _ I1 q1
 rw [hs] at hA ⊢
 refine Calls.callWith_builtin (by show (false || (backTo cpos (starEach es X.env)).any (·.1))=false; rw [hplain] <;> rfl) (Calls.evalArgs_plain ?_)
 exact CN hA fun us s2 ⟨vs,H2,I2,r2,q2⟩=>hm pins s2 σ H2 x vs v us Q I2 r1 r2 q2
end
end L2
namespace L2
open PySem PySem.Spec PyProof.Rows
noncomputable def fW (X:Cx) (id:String) (r:V->List V->Hp->VK->Prop):Prop :=
 ∀ (pins:List (Addr × Obj)) (s:Shared) (σ:St) (H:Hp) (x:V) (xs:List V) (v:Value) (us:List Value) (Q:VK),Inv X pins σ H s->RelV x v->Vals xs us->r x xs H Q ->
  wpAny (model X.prog X.w) X.A (call (.builtin id) (v::us)) (EP X pins σ Q) X.xe s
theorem Vals.one:∀ {x:V} {us:List Value},Vals [x] us->∃ u,us=[u]/\RelV x u
 | _,_,.cons r .nil=>⟨_,rfl,r⟩
theorem Vals.two:∀ {x y:V} {us:List Value},Vals [x,y] us->∃ u v,us=[u,v]/\RelV x u/\RelV y v
 | _,_,_,.cons r (.cons q .nil)=>⟨_,_,rfl,r,q⟩
theorem Vals.eraseIdx:∀ {xs:List V} {us:List Value} (i:Nat),Vals xs us->Vals (xs.eraseIdx i) (us.eraseIdx i)
 | _,_,_,.nil=>.nil
 | _,_,0,.cons _ t=>t
 | _,_,i+1,.cons r t=>.cons r (Vals.eraseIdx i t)
theorem Kv {α:Type}:∀ (l:List α) (i:Nat),(l.eraseIdx i).length<=l.length
 | [],_=>Nat.le_refl _
 | _::_,0=>Nat.le_succ _
 | _::r,i+1=>Nat.succ_le_succ (Kv r i)
section
variable {X:Cx} {pins:List (Addr × Obj)} {σ:St} {H:Hp} {s:Shared} {l b:Addr} {xs ys zs:List V}
theorem Inv.Xp {its its':List Value} {n:Nat} {f:Array Value->Array Value} {t':Nat} (I:Inv X pins σ H s) (hH:H l=some (.lst xs))
  (e:s.heap.get? l=some { cls:=.type "list",data:=.seq its.toArray n }) (hf:f its.toArray=its'.toArray) (hv:Vals ys its') (hz:ys.length<=sizeLine) :
  Inv X pins σ (upd H l (.lst ys)) { s with heap:=s.heap.update l (Obj.mapSeq f),toks:=t' }:=by
 have q:=PySem.IsL.update e f
 rw [hf] at q
 refine I.write (x:=l) (e:=l) (by rw [hH]; exact trivial) (.inl rfl) (fun b' u hb hu=>(Heap.get?_update_other s.heap (Obj.mapSeq f) (Ne.symm hb)).trans hu) ⟨_,q⟩ ?_
 exact ⟨hz,its',_,hv,q⟩
theorem Inv.Xf {its:List Value} {t':Nat} (I:Inv X pins σ H s) (hv:Vals ys its) (hz:ys.length<=sizeLine) :
  Inv X pins σ (upd H s.heap.objs.size (.lst ys)) { s with heap:=s.heap.push { cls:=.type "list",data:=.seq its.toArray },toks:=t' } :=
 I.laid (fun _ _ q=>Heap.get?_push_of_some _ q) (Nat.le_refl _) ⟨hz,its,0,hv,Heap.get?_push_size _ rfl⟩
theorem Inv.fresh (I:Inv X pins σ H s):H s.heap.objs.size=none:=I.hok.fresh (Nat.le_refl _)
theorem Inv.QQ (I:Inv X pins σ H s) (hH:H l=some (.lst xs)):xs.length<=sizeLine/\∃ (its:List Value) (n:Nat),Vals xs its/\xs.length=its.length/\s.heap.get? l=some { cls:=.type "list",data:=.seq its.toArray n }:=by
 obtain ⟨z,its,n,r,e⟩:=I.hok l _ hH
 exact ⟨z,its,n,r,r.length,e⟩
theorem Tt {n:Nat} (h:n<=sizeLine):Builtin.List.listTooLong n=false:=by
 unfold Builtin.List.listTooLong
 exact decide_eq_false (by omega)
end
section
variable {X:Cx}
noncomputable def Vj:V->List V->Hp->VK->Prop:=fun x vs H Q=>∃ l xs y,x=.ref l/\vs=[y]/\H l=some (.lst xs)/\xs.length<sizeLine/\Q .non (upd H l (.lst (xs++[y])))
theorem CG:fW X "list.append" Vj:=by
 intro pins s σ H x vs v us Q I rx rv h
 obtain ⟨l,xs,y,rfl,rfl,hH,hz,q⟩:=h
 cases rx
 obtain ⟨u,rfl,ru⟩:=rv.one
 obtain ⟨z,its,n,r,hl,e⟩:=I.QQ hH
 refine call_meets F.slot_list_append ⟨_,e,rfl⟩ F.entry_list_append (F.args_list_append_2 _ _) (PySem.list_append l its.toArray n u (by rw [List.size_toArray]; omega)) ⟨e,?_⟩
 refine ⟨.non,_,I.Xp (its':=its++[u]) hH e (by simp) (r.append (.cons ru .nil)) ?_,rfl,q⟩
 rw [List.length_append,List.length_singleton]
 omega
noncomputable def Vq:V->List V->Hp->VK->Prop:=fun x vs H Q=>∃ l b xs zs,x=.ref l/\vs=[.ref b]/\H l=some (.lst xs)/\H b=some (.lst zs)/\xs.length+zs.length<=sizeLine/\Q .non (upd H l (.lst (xs++zs)))
theorem Qs:fW X "list.extend" Vq:=by
 intro pins s σ H x vs v us Q I rx rv h
 obtain ⟨l,b,xs,zs,rfl,rfl,hH,hB,hz,q⟩:=h
 cases rx
 obtain ⟨u,rfl,ru⟩:=rv.one
 cases ru
 obtain ⟨z,its,n,r,hl,e⟩:=I.QQ hH
 obtain ⟨z2,its2,n2,r2,hl2,e2⟩:=I.QQ hB
 have hsz:its.toArray.size+its2.toArray.size<=sizeLine:=by rw [List.size_toArray,List.size_toArray]; omega
 have hlong:¬ (!its.toArray.isEmpty && Builtin.List.listTooLong (its.toArray.size+its2.toArray.size))=true:=by
  rw [Tt hsz,Bool.and_false]
  exact Bool.false_ne_true
 refine call_meets F.slot_list_extend ⟨_,e,rfl⟩ F.entry_list_extend (F.args_list_extend_2 _ _)
  (AutoSeq1.list_extend_list_list_0 l its.toArray n b its2.toArray n2 hlong (by rw [List.size_toArray]; omega) (by omega)) ⟨e,e2,?_⟩
 refine ⟨.non,_,I.Xp (its':=its++its2) hH e (by simp) (r.append r2) ?_,rfl,q⟩
 rw [List.length_append]
 omega
noncomputable def Xk:V->List V->Hp->VK->Prop:=fun x vs H Q=>∃ l xs i k y,x=.ref l/\vs=[.int i]/\H l=some (.lst xs) /\ -(2 ^ 63)<=i/\i<2 ^ 63/\seqIndex? i xs.length=some k/\xs[k]? = some y/\Q y (upd H l (.lst (xs.eraseIdx k)))
theorem RQ:fW X "list.pop" Xk:=by
 intro pins s σ H x vs v us Q I rx rv h
 obtain ⟨l,xs,i,k,y,rfl,rfl,hH,h1,h2,hk,hy,q⟩:=h
 cases rx
 obtain ⟨u,rfl,ru⟩:=rv.one
 obtain ⟨t,rfl⟩:=ru
 obtain ⟨z,its,n,r,hl,e⟩:=I.QQ hH
 obtain ⟨w,hw,rw'⟩:=r.get hy
 refine call_meets F.slot_list_pop ⟨_,e,rfl⟩ F.entry_list_pop (F.args_list_pop_2 _ _)
  (MeetsSeq.list_pop_at l its.toArray n i t k w (fitsIndex_both h1 h2) (by rw [List.size_toArray,← hl]; exact hk) (by rw [← Array.getElem?_toList]; exact hw) (by rw [List.size_toArray]; omega)) ⟨e,?_⟩
 refine ⟨y,_,I.Xp (its':=its.eraseIdx k) hH e ?_ (r.eraseIdx k) ?_,rw',q⟩
 ·show its.toArray.eraseIdxIfInBounds k=(its.eraseIdx k).toArray
  rw [List.eraseIdxIfInBounds_toArray]
 ·have:=Kv xs k
  omega
noncomputable def gB:R2:=fun x y H Q=>∃ l b xs zs,x=.ref l/\y=.ref b/\H l=some (.lst xs)/\H b=some (.lst zs)/\xs.length+zs.length<=sizeLine/\∀ p,H p=none->Q (.ref p) (upd H p (.lst (xs++zs)))
theorem Rr:Gp X (binaryOp .Add) gB:=by
 intro pins s σ H x y v u Q I rx ry h
 obtain ⟨l,b,xs,zs,rfl,rfl,hH,hB,hz,q⟩:=h
 cases rx
 cases ry
 obtain ⟨z,its,n,r,hl,e⟩:=I.QQ hH
 obtain ⟨z2,its2,n2,r2,hl2,e2⟩:=I.QQ hB
 refine PySem.P.add_list e e2 ?_ (by rw [List.size_toArray,List.size_toArray]; omega)
 have ea:its.toArray++its2.toArray=(its++its2).toArray:=by simp
 rw [ea]
 exact ⟨.ref _,_,I.Xf (t':=s.toks) (r.append r2) (by rw [List.length_append]; omega),rfl,q _ I.fresh⟩
end
section
variable {prog:Program} {w:World} {A:Around} {E:Value->Shared->Prop} {s:Shared}
end
section
variable {X:Cx}
end
end L2
namespace Att
open PySem PySem.W PySem.Calls PyProof.Rows
theorem JP {P:Params} {h:Heap}:∀ (ns:List Int) (vs:List Value),WellAll P h vs (ns.map WData.int)->IntsAre vs ns:=by
 intro ns
 induction ns with
 | nil =>
  intro vs w
  rw [List.map_nil] at w
  cases w
  exact .nil
 | cons n ns ih =>
  intro vs w
  rw [List.map_cons] at w
  cases w with
  | cons a b =>
   cases a
   exact .cons _ _ (ih _ b)
theorem Q5 {l:OpenLaw} {n:Nat} (hn:l.most=some n) {P:Params} {h:Heap} {args:List WData} {vals:List Value}
  (hpre:l.row.toRowW.claim.pre args=true) (hwl:WellAll P h vals args) :
  ∃ a vs ns,vals=[Value.ref a]/\args=[WData.list (ns.map WData.int)]/\h.get? a=some { cls:=.type "list",data:=.seq vs.toArray }/\IntsAre vs ns/\ns.length<=n:=by
 have hsh:WShape.hasAll [] args [.list .int]=true:=(pre_splitW hpre).1
 have hc:l.pre.holds [] { args:=args }=true:=(pre_splitW hpre).2
 obtain ⟨d,r,rfl,h1,h2⟩:=hasAllW_cons hsh
 obtain rfl:=hasAllW_nil h2
 obtain ⟨xs,rfl,h3⟩:=hasW_list h1
 obtain ⟨ns,rfl⟩:=items_int h3
 have hlen:ns.length<=n:=by
  unfold OpenLaw.pre at hc
  have h4:(WTm.not (.lt (.lit (.int (n:Int))) (.len (.arg 0)))).holds [] { args:=[.list (ns.map .int)] }=true:=by
   have h4:=(holds_andW hc).1
   rw [hn] at h4
   exact h4
  have h5:=condW_of h4 (w_not (w_lt w_lit (w_len_list (w_arg rfl))))
  rw [List.length_map] at h5
  refine Nat.le_of_not_lt fun q=>?_
  have q':(n:Int)<((ns.length:Nat):Int):=by omega
  first
   | (rw [decide_eq_true q'] at h5; exact absurd h5 (by decide))
   | (simp at h5; omega)
 cases hwl with
 | cons w1 w2 =>
  cases w2
  cases w1 with
  | list ho hall=>exact ⟨_,_,ns,rfl,rfl,ho,JP ns _ hall,hlen⟩
theorem QH (l:OpenLaw) (args:List WData):l.row.toRowW.claim.post args (.bool true) args=true :=
 postW_of (r:=l.row.toRowW) (X:=(true == true))
  (show WShape.has [] (.bool true) .bool=true by first | rfl | decide | simp [WShape.has,WShape.arms,WShape.armsAll])
  (show (WTm.eq .res (.lit (.bool true))).value [] { args:=args,res:=some (.bool true),after:=args }=some (.bool (true == true)) from w_eq_bool (w_res rfl) w_lit) rfl
theorem M5 {l:OpenLaw} {n:Nat} {q:Program} {loose:List Str} {XP:(Str->Option Value)->Heap->Prop} {YP:World->Heap->Prop} {d:DefRec}
  (hn:l.most=some n) (hdf:d.params.defaults=[])
  (call:∀ (w:World) (s₀ s₁:Shared) (mg mb:Str->Option Value) (fa:Addr) (o:Obj) (pm cd doc:Value) (a:Addr) (vs:List Value) (ns:List Int),
   Ground q loose [] XP w s₀ mg mb s₁.heap->YP w s₁.heap ->
   s₁.heap.get? fa=some o->o.data=.func (docDef d.name d.params d.body d.scope pm cd doc)->s₁.heap.CodeRec cd d.name->mg d.name=some (.ref fa) ->
   s₁.heap.get? a=some { cls:=.type "list",data:=.seq vs.toArray }->IntsAre vs ns->ns.length<=n->s₁.gens = #[] ->
   codeAny (model l.prog w) callerA (.call (.ref fa) ⟨[.ref a],[]⟩) (fun r s'=>r=.ok (.ret (.bool true))/\OldK s₁.heap s'.heap/\s'.os=s₁.os/\AllBare s'.gens) s₁) :
  WalkO q loose XP YP l.row.toRowW d [] (fun f vs=>PySem.call f vs):=by
 intro w s₀ s₁ mg mb G Y fa o pm cd doc dV kV ho hd hcd hD hmg hg args vals as hpre hlay hrd hwl hlo
 obtain rfl:dV=.none:=Dflts.none hD hdf
 obtain rfl:kV=.none:=Dflts.noKw hD
 obtain ⟨a,vs,ns,rfl,rfl,hobj,hints,hlen⟩:=Q5 hn hpre hwl
 refine enter_call (codeAny_mono (call w s₀ s₁ mg mb fa o pm cd doc a vs ns G Y ho (fd_plain hd) hcd hmg hobj hints hlen hg) fun r s' hq=>?_)
 obtain ⟨rfl,h2,h3,h4⟩:=hq
 exact ⟨.inl ⟨.bool true,.bool true,[],rfl,fun _=>rfl,.bool true,QH l _,fun _=>⟨List.Pairwise.nil,fun _ hm=>(nomatch hm)⟩⟩,h2,h3,h4⟩
section
variable {prog:Program} {w:World} {A:Around} {E:Value->Shared->Prop} {s:Shared} {K:Frag}
end
end Att
namespace L2
open PySem PySem.Spec PyProof.Rows
theorem Ks:∀ {vs:List Value} {ns:List Int},IntsAre vs ns->Vals (ns.map V.int) vs
 | _,_,.nil=>.nil
 | _,_,.cons n t h=>.cons ⟨t,rfl⟩ (Ks h)
noncomputable def Only (H:Hp):Prop:=∀ b,H b=none \/ ∃ o xs,H b=some (.frz o (.lst xs))
theorem TV {P:Program} {w:World} {K:PySem.W.Frag} {mg mb:Str->Option Value} {CX:Ra} {k:Nat} {fa a:Addr} {fd:FuncData} {x:Str} {sp:Sp} {s₁:Shared} {vs:List Value} {ns:List Int}
  (KX:K.In s₁.heap) (hns:s₁.heap.Ns mainGlobals mg) (hb:s₁.heap.Ns builtinsNs mb) (hbb:∀ x:Str,x ≠ "__name__"->mb x=bootBuiltins x) (hlim:s₁.heap.NoLimit) (hg:s₁.gens = #[])
  (ha:s₁.heap.get? a=some { cls:=.type "list",data:=.seq vs.toArray }) (hi:IntsAre vs ns) (hl:ns.length<=sizeLine) (hr:BR k callerA)
  (F:∀ base:Heap,K.In base->base.Ns mainGlobals mg->Aq P w K mg base CX k fa fd [x] sp) (hbind:∀ (s:Shared) (u:Value),BindsTo s fd ⟨[u],[]⟩ [(x,u)])
  (hsp:∀ H:Hp,Only H->CP K H a (ns.map V.int)->sp [.ref a] H (fun v _=>v=.bl true) fun _ _ _=>False)
  (hCX:∀ H e s',CX [] H s₁ (fun _ _ _=>False) e s'->False) :
  codeAny (model P w) callerA (.call (.ref fa) ⟨[.ref a],[]⟩) (fun r s'=>r=.ok (.ret (.bool true))/\OldK s₁.heap s'.heap/\s'.os=s₁.os/\AllBare s'.gens) s₁:=by
 have rv:=Ks hi
 have lenV:=hi.length
 have core:∀ H:Hp,Only H->CP K H a (ns.map V.int)->Hn P w H s₁.heap->(∀ b,H b ≠ none->b=a)->(H a ≠ none->K.lookup a=none) ->
   codeAny (model P w) callerA (.call (.ref fa) ⟨[.ref a],[]⟩) (fun r s'=>r=.ok (.ret (.bool true))/\OldK s₁.heap s'.heap/\s'.os=s₁.os/\AllBare s'.gens) s₁:=by
  intro H hO hS hok hA hK
  have base_of:∀ {b:Addr} {o:Obj},s₁.heap.get? b=some o->H b=none->(K4 s₁.heap H).get? b=some o:=fun e n=>Tv e n
  have noA:∀ {b:Addr} {o:Obj} {es:Array DictEntry} {ep:Nat},s₁.heap.get? b=some o->o.data=.dict es ep->H b=none:=fun {b o es ep} e d=>by
   cases q:H b with
   | none=>rfl
   | some u =>
    have e':b=a:=hA b (by rw [q]; simp)
    subst e'
    rw [ha] at e; cases e
    have d':Data.seq vs.toArray _=Data.dict es ep:=d
    cases d'
  have nsK:∀ {b:Addr} {m:Str->Option Value},s₁.heap.Ns b m->(K4 s₁.heap H).Ns b m:=fun {b m} ⟨o,es,ep,e,d,r⟩=>⟨o,es,ep,base_of e (noA e d),d,r⟩
  have hKb:K.In (K4 s₁.heap H):=fun b o e=>base_of (KX b o e) (by
   cases q:H b with
   | none=>rfl
   | some u =>
    have e':b=a:=hA b (by rw [q]; simp)
    subst e'
    rw [hK (by rw [q]; simp)] at e; cases e)
  have hM:Mod K mg (K4 s₁.heap H):=⟨hKb,nsK hns,⟨mb,nsK hb,hbb⟩,let ⟨mc,h1,h2⟩:=hlim; ⟨mc,nsK h1,h2⟩⟩
  have e0:Ow P w K mg (K4 s₁.heap H) callerA [] s₁ H:=⟨rfl,hM,fun b o e=>Up e,Nat.le_of_eq (Qp _ _),trivial,fun b hb=>absurd (show b∈([]:List Addr) from hb) (by simp),hok,.of_eq hg⟩
  refine codeAny_mono ((F _ hKb (nsK hns)).run callerA [] s₁ H ⟨[.ref a],[]⟩ [.ref a] [.ref a] _ _ hr e0 (hbind s₁ (.ref a)) (.cons rfl .nil) (hsp H hO hS)) fun r s' h=>?_
  cases r with
  | error e=>exact (hCX H e s' h).elim
  | ok fl =>
   cases fl with
   | next=>exact False.elim h
   | brk=>exact False.elim h
   | cont=>exact False.elim h
   | ret u =>
    obtain ⟨v,H',os,bare,un,hok',r',q⟩:=h
    have q':v=.bl true:=q
    subst q'
    obtain rfl:u=Value.bool true:=r'
    refine ⟨rfl,OldK.of_keep fun b o e=>?_,os,bare⟩
    cases q:H b with
    | none=>exact un.keep b o e q (by intro z; exact absurd (show b∈([]:List Addr) from z) (by simp)) (by simp)
    | some u =>
     rcases hO b with z | ⟨ob,xs,z⟩
     ·rw [q] at z; cases z
     ·have z2:=un.frzs b ob _ z
      obtain ⟨e1,_⟩:=hok b _ z
      obtain ⟨e2,_⟩:=hok' b _ z2
      rw [e] at e1; cases e1
      exact e2
 cases hk:K.lookup a with
 | some o =>
  have e:=KX a o hk
  rw [ha] at e
  cases e
  refine core (fun _=>none) (fun _=>.inl rfl) (.inr ⟨_,vs.toArray,_,hk,rfl,rfl,rfl,by rw [List.size_toArray,lenV]; exact hl,by simpa using rv⟩) (fun b u z=>by have z':(none:Option HO)=some u:=z; cases z') (fun b z=>absurd rfl z) fun z=>absurd rfl z
 | none =>
  refine core (fun b=>if b=a then some (.frz { cls:=.type "list",data:=.seq vs.toArray } (.lst (ns.map V.int))) else none) (fun b=>?_) (.inl (.inr ⟨{ cls:=.type "list",data:=.seq vs.toArray },if_pos rfl⟩)) (fun b u z=>?_) (fun b z=>?_) fun _=>hk
  ·by_cases hb:b=a
   ·exact .inr ⟨_,_,if_pos hb⟩
   ·exact .inl (if_neg hb)
  ·by_cases hb:b=a
   ·have z':=(if_pos hb).symm.trans z
    cases z'
    subst hb
    exact ⟨ha,by rw [List.length_map]; exact hl,vs,_,rv,ha⟩
   ·have z':=(if_neg hb).symm.trans z
    cases z'
  ·by_cases hb:b=a
   ·exact hb
   ·exact absurd (if_neg hb) z
end L2
namespace L2
open PySem PySem.Spec PyProof.Rows
theorem Uh {l:PySem.W.OpenLaw} {n k:Nat} {q:Program} {loose:List Str} {XP:(Str->Option Value)->Heap->Prop} {YP:World->Heap->Prop} {d:DefRec} {K:Params->PySem.W.Frag} {CX:World->Ra} {sp:World->Sp} {x:Str}
  (hn:l.most=some n) (hn2:n<=sizeLine) (hdf:d.params.defaults=[]) (hr:BR k callerA)
  (hY:∀ (w:World) (h:Heap),YP w h->(K w.params).In h)
  (F:∀ (w:World) (mg:Str->Option Value) (fa:Addr) (h:Heap),(K w.params).In h->h.Ns mainGlobals mg->mg d.name=some (.ref fa) ->
   ∃ fd:FuncData,(∀ (s:Shared) (u:Value),BindsTo s fd ⟨[u],[]⟩ [(x,u)]) /\
    ∀ base:Heap,(K w.params).In base->base.Ns mainGlobals mg->Aq l.prog w (K w.params) mg base (CX w) k fa fd [x] (sp w))
  (hsp:∀ (w:World) (H:Hp) (a:Addr) (ns:List Int),ns.length<=n->Only H->CP (K w.params) H a (ns.map V.int)->sp w [.ref a] H (fun v _=>v=.bl true) fun _ _ _=>False)
  (hCX:∀ (w:World) (H:Hp) (s:Shared) (e:Value) (s':Shared),CX w [] H s (fun _ _ _=>False) e s'->False) :
  PySem.W.WalkO q loose XP YP l.row.toRowW d [] (fun f vs=>PySem.call f vs):=by
 refine Att.M5 hn hdf fun w s₀ s₁ mg mb fa o pm cd doc a vs ns G Y ho hd hcd hmg hobj hints hlen hg=>?_
 have KX:=hY w _ Y
 obtain ⟨fd,hb,hF⟩:=F w mg fa _ KX G.T.g hmg
 exact TV KX G.T.g G.T.b G.T.builtins G.T.nolimit hg hobj hints (Nat.le_trans hlen hn2) hr hF hb (fun H hO hS=>hsp w H a ns hlen hO hS) fun H e s'=>hCX w H s₁ e s'
end L2
namespace L2
open PySem PySem.Spec PyProof.Rows
noncomputable def inClass (s:Stmt) (j:Nat):Stmt:=match s with
 | .ClassDef _ _ _ body _ _ _ _ _ _ _=>body.getD j (.Pass ⟨0,0,0,0⟩)
 | _=>.Pass ⟨0,0,0,0⟩
noncomputable def Cr (s:Stmt):Arguments:=match s with
 | .FunctionDef _ a _ _ _ _ _ _ _ _=>a
 | _=>{ posonlyargs:=[],args:=[],vararg:=none,kwonlyargs:=[],kw_defaults:=[],kwarg:=none,defaults:=[] }
noncomputable def Cd (s:Stmt):List Stmt:=match s with
 | .FunctionDef _ _ b _ _ _ _ _ _ _=>b
 | _=>[]
noncomputable def Ag (s:Stmt):Scope:=match s with
 | .FunctionDef _ _ _ _ _ _ sc _ _ _=>sc
 | _=>{ kind:=.function,names:=[],isGenerator:=false,isCoroutine:=false }
noncomputable abbrev Be:Ra:=fun _ _ _ _ _ _=>False
noncomputable abbrev E0:XK:=fun _ _ _=>False
theorem Ao {X:Cx}:Hj Be X E0:=fun _ _ _ _ _ _ _ h=>h.elim
structure Cu (K:PySem.W.Frag) (x qual:Str) (st:Stmt) (f:Addr) (fd:FuncData):Prop where
 ex:∃ (oc:Value) (od:Option Addr) (kV doc pm:Value) (an:Option Addr) (cdv ct:Value) (osl:Array (Option Value)),
  fd=PySem.W.fnOf x qual (Cr st) (Cd st) (Ag st) .none kV doc pm an cdv ct/\K.lookup f=some ⟨oc,od,.func fd,osl⟩/\PySem.W.codeIn K cdv qual=true
 kp:PySem.W.keepIn K (.ref f)=true
section
variable {P:Program} {w:World} {K:PySem.W.Frag} {mg:Str->Option Value} {base:Heap}
theorem Cu.ok {x qual:Str} {st:Stmt} {f:Addr} {fd:FuncData} {N ps:List Str} {k:Nat} {sp:Sp} (F:Cu K x qual st f fd) (S:Av N ps (Ag st)) (len:∀ vs H Q E,sp vs H Q E->vs.length=ps.length)
  (hbody:∀ (cdv:Value) (A:Around) (outer:List Env) (s:Shared) (H:Hp) (vs:List V) (Q:VK) (E:XK),BR k (A.deeper (envOfC qual (Ag st) s.heap.objs.size f cdv))->sp vs H Q E ->
   ∃ t,O_ (NQ Be P w K mg base N qual (Ag st) f cdv A outer s H E).YB (Cd st) t/\t { nx:=fun _ H'=>Q .non H',rt:=Q } (start N vs) H):Aq P w K mg base Be (k+1) f fd ps sp:=by
 obtain ⟨oc,od,kV,doc,pm,an,cdv,ct,osl,rfl,lk,hcd⟩:=F.ex
 refine V2 lk hcd S len fun A outer s H vs Q E hr hsp=>?_
 obtain ⟨t,h,q⟩:=hbody cdv A outer s H vs Q E hr hsp
 exact ⟨t,h.YB,q⟩
theorem Cu.binds {x qual:Str} {st:Stmt} {f:Addr} {fd:FuncData} {ps:List Str} (F:Cu K x qual st f fd)
  (h:∀ (kV doc pm:Value) (an:Option Addr) (cdv ct:Value) (us:List Value),us.length=ps.length->bindArgs (PySem.W.fnOf x qual (Cr st) (Cd st) (Ag st) .none kV doc pm an cdv ct) ⟨us,[]⟩=pure (ps.zip us)):Binds K fd ps []:=by
 obtain ⟨oc,od,kV,doc,pm,an,cdv,ct,osl,rfl,lk,hcd⟩:=F.ex
 exact .all (h kV doc pm an cdv ct)
theorem N_ {x qual:Str} {st:Stmt} {f:Addr} {oc:Value} {od an:Option Addr} {osl:Array (Option Value)} {kV doc pm cdv ct:Value} (l:K.lookup f=some ⟨oc,od,.func (PySem.W.fnOf x qual (Cr st) (Cd st) (Ag st) .none kV doc pm an cdv ct),osl⟩)
  (c:PySem.W.codeIn K cdv qual=true) (k:PySem.W.keepIn K (.ref f)=true):Cu K x qual st f (PySem.W.fnOf x qual (Cr st) (Cd st) (Ag st) .none kV doc pm an cdv ct):=⟨⟨oc,od,kV,doc,pm,an,cdv,ct,osl,rfl,l,c⟩,k⟩
end
theorem Fl {A:Around} {k:Nat} (hr:BR k A):A.units+1<cLine:=Nat.lt_of_le_of_lt (Nat.add_le_add_left (by decide:1<=64) _) hr.units
theorem BJ {n:Nat} (h:n<=1000):n<sizeLine:=Nat.lt_of_le_of_lt h (by decide)
section
variable {X:Cx}
theorem pv (i:Nat) {x:Str} {pos:Pos} (hN:X.N[i]? = some x:=by rfl) (hv:il X.env.scope x:=by first | exact Or.inl rfl | exact Or.inr (Or.inl rfl) | exact Or.inr (Or.inr rfl)) (hd:(x == ("__debug__" : Str))=false:=by decide)
  (hcd:(x == ("__classdict__" : Str))=false:=by decide):PE X (.Name x pos) (Mf i):=Wq hN hv hd hcd
end
theorem Bo {A B:Prop} (h:B):if false=true then A else B:=by
 rw [if_neg Bool.false_ne_true]
 exact h
theorem Cv {A B:Prop} (h:A):if true=true then A else B:=by
 rw [if_pos rfl]
 exact h
theorem Dr {c A B:Prop} [Decidable c] (h1:c->A) (h2:¬ c->B):if c then A else B:=by
 by_cases h:c
 ·rw [if_pos h]
  exact h1 h
 ·rw [if_neg h]
  exact h2 h
theorem Wg {c A B:Prop} [Decidable c] (hc:c) (h:B):if (!decide c)=true then A else B:=by
 rw [decide_eq_true hc]
 exact Bo h
noncomputable def An (H H':Hp):Prop:=∀ b o,H b=some o->H' b=some o
theorem An.refl (H:Hp):An H H:=fun _ _ h=>h
theorem An.trans {H H1 H2:Hp} (a:An H H1) (b:An H1 H2):An H H2:=fun c o h=>b c o (a c o h)
theorem An.free {H H':Hp} (e:An H H') {l:Addr} (h:H' l=Option.none):H l=Option.none:=by
 cases q:H l with
 | none=>rfl
 | some o =>
  rw [e l o q] at h
  cases h
theorem An.seq {K:PySem.W.Frag} {H H':Hp} {a:Addr} {xs:List V} (e:An H H') (h:CP K H a xs):CP K H' a xs:=by
 rcases h with (h | ⟨o,h⟩) | h
 ·exact .inl (.inl (e _ _ h))
 ·exact .inl (.inr ⟨o,e _ _ h⟩)
 ·exact .inr h
end L2
namespace L2
open PySem PySem.Spec PyProof.Rows
section
variable {X:Cx}
end
section
variable {κ:Type} [DecidableEq κ]
theorem Pz:∀ {l:List κ} {k:κ},l.Nodup->¬ k∈l->(l++[k]).Nodup
 | [],k,_,_=>by simp
 | a::r,k,h,hk=>by
  obtain ⟨h1,h2⟩:=List.nodup_cons.mp h
  show (a::(r++[k])).Nodup
  refine List.nodup_cons.mpr ⟨fun m=>?_,Pz h2 fun m=>hk (List.mem_cons.mpr (Or.inr m))⟩
  rcases List.mem_append.mp m with q | q
  ·exact h1 q
  ·exact hk (List.mem_cons.mpr (Or.inl (List.mem_singleton.mp q).symm))
end
end L2
namespace L2
open PySem PySem.Spec PyProof.Rows
section
variable {prog:Program} {w:World} {A:Around} {E:Value->Shared->Prop} {s:Shared}
theorem J7 {it a:Addr} {i:Nat} {items:Array Value} {x:Value} {Q:Value->Shared->Prop} (j:s.heap.IsTupleIter it a i) (ht:s.heap.IsTuple a items) (hx:items[i]? = some x)
  (q:∀ h',h'.IsTupleIter it a (i+1)->Heap.SameBut it s.heap h'->Q x { s with heap:=h' }):wpAny (model prog w) A (Builtin.SmallTypes.nextOf (.ref it)) Q E s:=by
 have j0:=j
 obtain ⟨o,e,c,d⟩:=j
 obtain ⟨oa,ea,_,n,da⟩:=ht
 unfold Builtin.SmallTypes.nextOf
 refine wpAny_bind (wpAny_callSpecial?_slot (name:=Str.ofString "__next__") j0.typeIs F.slot_tuple_iterator_next (wpAny_call_entry F.slot_tuple_iterator_next j0.typeIs F.entry_tuple_iterator_next ?_ (F.args_tuple_iterator_next_1 _)))
 refine (show wpAny _ _ (field (.ref it) 0 >>= _) _ _ s from wpAny_bind (wpAny_field e d (x:=.ref a) rfl ?_))
 refine (show wpAny _ _ (if (Value.ref a == Value.none)=true then _ else _) _ _ s from ?_)
 rw [if_neg (by exact Bool.false_ne_true)]
 refine (show wpAny _ _ (field (.ref it) 1 >>= _) _ _ s from wpAny_bind (wpAny_field e d (x:=.int i 0) rfl ?_))
 refine (show wpAny _ _ (seqItems? (.ref a) >>= _) _ _ s from wpAny_bind (wpAny_seqItems ea da ?_))
 simp only [Int.toNat_natCast,hx]
 exact wpAny_bind (wpAny_setField e d (by simp) (wpAny_pure ⟨x,rfl,wpAny_pure (q _ ⟨_,Heap.get?_update_self _ e (Obj.isFreed_of_fields (Obj.data_mapFields d _)),(Obj.cls_mapFields ..).trans c,by rw [Obj.data_mapFields d]; simp [rawInt]⟩ (Heap.SameBut.update ..))⟩))
theorem J5 {it a:Addr} {i:Nat} {items:Array Value} {Q:Value->Shared->Prop} (hh:A.handled=none) (j:s.heap.IsTupleIter it a i) (ht:s.heap.IsTuple a items) (hx:items[i]? = none)
  (q:∀ h' e,Heap.ExtBut it s.heap h'->(∃ o,h'.get? e=some o/\o.cls=.type "StopIteration")->E (.ref e) { s with heap:=h' }):wpAny (model prog w) A (Builtin.SmallTypes.nextOf (.ref it)) Q E s:=by
 have j0:=j
 obtain ⟨o,e,c,d⟩:=j
 obtain ⟨oa,ea,_,n,da⟩:=ht
 unfold Builtin.SmallTypes.nextOf
 refine wpAny_bind (wpAny_callSpecial?_slot (name:=Str.ofString "__next__") j0.typeIs F.slot_tuple_iterator_next (wpAny_call_entry F.slot_tuple_iterator_next j0.typeIs F.entry_tuple_iterator_next ?_ (F.args_tuple_iterator_next_1 _)))
 refine (show wpAny _ _ (field (.ref it) 0 >>= _) _ _ s from wpAny_bind (wpAny_field e d (x:=.ref a) rfl ?_))
 refine (show wpAny _ _ (if (Value.ref a == Value.none)=true then _ else _) _ _ s from ?_)
 rw [if_neg (by exact Bool.false_ne_true)]
 refine (show wpAny _ _ (field (.ref it) 1 >>= _) _ _ s from wpAny_bind (wpAny_field e d (x:=.int i 0) rfl ?_))
 refine (show wpAny _ _ (seqItems? (.ref a) >>= _) _ _ s from wpAny_bind (wpAny_seqItems ea da ?_))
 simp only [Int.toNat_natCast,hx]
 refine wpAny_bind (wpAny_rule (wpAny_bind (wpAny_setField e d (by simp) (show wpAny _ _ (newExc (.type "StopIteration") [] >>= _) _ _ _ from wpAny_bind ?_))))
 simp only [newExc,newTuple]
 refine wpAny_bind (wpAny_newObj_type (wpAny_bind (m:=firstArgMember _ _) (wpAny_of_eq (a:=Value.none) (by first | rfl | (simp only [firstArgMember]; rfl)) (wpAny_newObj_type ?_ (by size_fits)))) (by size_fits))
 simp only [raiseNew]
 refine wpAny_bind (wpAny_handled ?_)
 first | rw [show A.in1.handled=none from hh] | rw [hh]
 exact wpAny_bind (wpAny_pure (wpAny_throw (q _ _ (((Heap.SameBut.update ..).extBut.push _).push _) ⟨_,Heap.get?_push_size _ rfl,rfl⟩)))
theorem RB {z TI TO i1 i2 a1 a2:Addr} {k:Nat} {xs ys:Array Value} {x y a b:Value} {Q:Value->Shared->Prop} (D:ZipApart z TI TO i1 i2 a1 a2)
  (hz:IsZip s.heap z TI TO .none) (hI:IsPair s.heap TI (.ref i1) (.ref i2)) (hO:IsPair s.heap TO a b)
  (j1:s.heap.IsTupleIter i1 a1 k) (j2:s.heap.IsTupleIter i2 a2 k) (t1:s.heap.IsTuple a1 xs) (t2:s.heap.IsTuple a2 ys) (hx:xs[k]? = some x) (hy:ys[k]? = some y)
  (q:∀ h',IsZip h' z TI TO (rawInt s.heap.objs.size)->IsPair h' TO x y->h'.IsTupleIter i1 a1 (k+1)->h'.IsTupleIter i2 a2 (k+1)->IsPair h' s.heap.objs.size x y->h'.objs.size=s.heap.objs.size+1 ->
   (∀ c o,c ≠ z->c ≠ TO->c ≠ i1->c ≠ i2->s.heap.get? c=some o->h'.get? c=some o)->Q (.ref s.heap.objs.size) { s with heap:=h' }) :
  wpAny (model prog w) A (Builtin.«zip.__next__» ⟨[.ref z],[]⟩) (fun fin s'=>∃ v,fin=.done (.ret v)/\Q v s') E s:=by
 refine (show wpAny _ _ (field (.ref z) 2 >>= _) _ _ _ from wpAny_bind (wpAny_field hz rfl (x:=.bool false) rfl (show wpAny _ _ (field (.ref z) 3 >>= _) _ _ _ from wpAny_bind (wpAny_field hz rfl (x:=.ref TI) rfl (wpAny_bind (wpAny_seqItems hI rfl ?_))))))
 refine (show wpAny _ _ (Builtin.SmallTypes.ownedTupleIsFree (.ref z) >>= _) _ _ _ from wpAny_bind ?_)
 unfold Builtin.SmallTypes.ownedTupleIsFree
 refine wpAny_bind (wpAny_field hz rfl (x:=.none) rfl (wpAny_pure ?_))
 simp only [if_true]
 refine wpAny_bind (wpAny_rule (wpAny_bind (wpAny_field hz rfl (x:=.ref TO) rfl (wpAny_bind (wpAny_setField_rec hz (by simp) fun h1 z1 s1=>?_)))))
 have y1:IsZip h1 z TI TO .ellipsis:=z1
 refine wpAny_bind ?_
 simp only [List.zipIdx_cons,List.zipIdx_nil,List.forIn_cons,List.forIn_nil]
 refine wpAny_bind (wpAny_bind (wpAny_onRaise (show wpAny _ _ (Builtin.SmallTypes.nextOf (.ref i1) >>= _) _ _ _ from wpAny_bind (J7 (j1.at fun o e=>s1.extBut _ _ D.i1z e) (t1.at fun o e=>s1.extBut _ _ D.l1z e) hx fun h2 n1 s2=>wpAny_pure ?_))))
 have o2:IsPair h2 TO a b:=s2.extBut _ _ D.TOi1 (s1.extBut _ _ D.TOz hO)
 refine wpAny_bind (wpAny_seqItems o2 rfl (wpAny_bind (wpAny_updateSeq_pair o2 fun h3 p3 s3=>?_)))
 have o3:IsPair h3 TO x b:=p3
 refine wpAny_bind (wpAny_letGo (wpAny_pure ?_))
 refine wpAny_bind (wpAny_bind (wpAny_onRaise (show wpAny _ _ (Builtin.SmallTypes.nextOf (.ref i2) >>= _) _ _ _ from wpAny_bind (J7 (j2.at fun o e=>s3.extBut _ _ D.TOi2.symm (s2.extBut _ _ D.i12.symm (s1.extBut _ _ D.i2z e)))
  (t2.at fun o e=>s3.extBut _ _ D.l2TO (s2.extBut _ _ D.l2i1 (s1.extBut _ _ D.l2z e))) hy fun h4 n2 s4=>wpAny_pure ?_))))
 have o4:IsPair h4 TO x b:=s4.extBut _ _ D.TOi2 o3
 refine wpAny_bind (wpAny_seqItems o4 rfl (wpAny_bind (wpAny_updateSeq_pair o4 fun h5 p5 s5=>?_)))
 have o5:IsPair h5 TO x y:=p5
 refine wpAny_bind (wpAny_letGo (wpAny_pure (wpAny_pure (wpAny_bind (wpAny_seqItems o5 rfl (wpAny_bind (wpAny_newTuple ?_)))))))
 have zs:h5.objs.size=s.heap.objs.size:=by rw [s5.1,s4.1,s3.1,s2.1,s1.1]
 have y5:IsZip h5 z TI TO .ellipsis:=s5.extBut _ _ D.TOz.symm (s4.extBut _ _ D.i2z.symm (s3.extBut _ _ D.TOz.symm (s2.extBut _ _ D.i1z.symm y1)))
 have k5:∀ c o,c ≠ z->c ≠ TO->c ≠ i1->c ≠ i2->s.heap.get? c=some o->h5.get? c=some o:=fun c o c1 c2 c3 c4 e=>s5.extBut _ _ c2 (s4.extBut _ _ c4 (s3.extBut _ _ c2 (s2.extBut _ _ c3 (s1.extBut _ _ c1 e))))
 have m1:h5.IsTupleIter i1 a1 (k+1):=n1.at fun o e=>s5.extBut _ _ D.TOi1.symm (s4.extBut _ _ D.i12 (s3.extBut _ _ D.TOi1.symm e))
 have m2:h5.IsTupleIter i2 a2 (k+1):=n2.at fun o e=>s5.extBut _ _ D.TOi2.symm e
 have lz:z<h5.objs.size:=Heap.lt_size y5
 refine (show wpAny _ _ (Builtin.SmallTypes.ownedTupleHandOut (.ref z) (.ref h5.objs.size) >>= _) _ _ _ from wpAny_bind ?_)
 unfold Builtin.SmallTypes.ownedTupleHandOut
 have y6:IsZip (h5.push { cls:=.type "tuple",data:=.seq #[x,y] }) z TI TO .ellipsis:=Heap.get?_push_of_some _ y5
 refine wpAny_bind (wpAny_setField_rec y6 (by simp) fun h7 p7 s7=>?_)
 have y7:IsZip h7 z TI TO (rawInt h5.objs.size):=p7
 refine wpAny_setField_rec y7 (by simp) fun h8 p8 s8=>?_
 have y8:IsZip h8 z TI TO (rawInt h5.objs.size):=p8
 have up:∀ c o,c ≠ z->h5.get? c=some o->h8.get? c=some o:=fun c o c1 e=>s8.extBut _ _ c1 (s7.extBut _ _ c1 (Heap.get?_push_of_some _ e))
 have t8:IsPair h8 h5.objs.size x y:=s8.extBut _ _ (Nat.ne_of_gt lz) (s7.extBut _ _ (Nat.ne_of_gt lz) (Heap.get?_push_size _ rfl))
 have z8:h8.objs.size=h5.objs.size+1:=by rw [s8.1,s7.1,Heap.size_push]
 rw [zs] at y8 t8 z8
 refine wpAny_pure ⟨_,rfl,?_⟩
 show Q (.ref h5.objs.size) _
 rw [zs]
 exact q h8 y8 (up _ _ D.TOz o5) (m1.at fun o e=>up _ o D.i1z e) (m2.at fun o e=>up _ o D.i2z e) t8 z8 fun c o c1 c2 c3 c4 e=>up c o c1 (k5 c o c1 c2 c3 c4 e)
theorem RJ {z TI TO i1 i2 a1 a2:Addr} {k:Nat} {xs:Array Value} {a b:Value} {Q:Fin->Shared->Prop} (hh:A.handled=none) (D:ZipApart z TI TO i1 i2 a1 a2)
  (hz:IsZip s.heap z TI TO .none) (hI:IsPair s.heap TI (.ref i1) (.ref i2)) (hO:IsPair s.heap TO a b)
  (j1:s.heap.IsTupleIter i1 a1 k) (t1:s.heap.IsTuple a1 xs) (hx:xs[k]? = none)
  (q:∀ h' e,(∀ c o,c ≠ z->c ≠ TO->c ≠ i1->c ≠ i2->s.heap.get? c=some o->h'.get? c=some o)->(∃ o,h'.get? e=some o/\o.cls=.type "StopIteration")->E (.ref e) { s with heap:=h' }) :
  wpAny (model prog w) A (Builtin.«zip.__next__» ⟨[.ref z],[]⟩) Q E s:=by
 refine (show wpAny _ _ (field (.ref z) 2 >>= _) _ _ _ from wpAny_bind (wpAny_field hz rfl (x:=.bool false) rfl (show wpAny _ _ (field (.ref z) 3 >>= _) _ _ _ from wpAny_bind (wpAny_field hz rfl (x:=.ref TI) rfl (wpAny_bind (wpAny_seqItems hI rfl ?_))))))
 refine (show wpAny _ _ (Builtin.SmallTypes.ownedTupleIsFree (.ref z) >>= _) _ _ _ from wpAny_bind ?_)
 unfold Builtin.SmallTypes.ownedTupleIsFree
 refine wpAny_bind (wpAny_field hz rfl (x:=.none) rfl (wpAny_pure ?_))
 simp only [if_true]
 refine wpAny_bind (wpAny_rule (wpAny_bind (wpAny_field hz rfl (x:=.ref TO) rfl (wpAny_bind (wpAny_setField_rec hz (by simp) fun h1 z1 s1=>?_)))))
 have y1:IsZip h1 z TI TO .ellipsis:=z1
 refine wpAny_bind ?_
 simp only [List.zipIdx_cons,List.zipIdx_nil,List.forIn_cons,List.forIn_nil]
 refine wpAny_bind (wpAny_bind (wpAny_onRaise (show wpAny _ _ (Builtin.SmallTypes.nextOf (.ref i1) >>= _) _ _ _ from wpAny_bind (J5 hh (j1.at fun o e=>s1.extBut _ _ D.i1z e) (t1.at fun o e=>s1.extBut _ _ D.l1z e) hx fun h2 x s2 hx2=>?_))))
 obtain ⟨ox,ex,cx⟩:=hx2
 have y2:IsZip h2 z TI TO .ellipsis:=s2 _ _ D.i1z.symm y1
 have nz:x ≠ z:=fun u=>by subst u; rw [y2] at ex; cases ex; simp at cx
 exact wpAny_setField_rec y2 (by simp) fun h3 _ s3=>q h3 x (fun c o c1 _ c3 _ e=>s3.extBut _ _ c1 (s2 _ _ c3 (s1.extBut _ _ c1 e))) ⟨ox,s3.extBut _ _ nz ex,cx⟩
end
noncomputable abbrev dq (h:Heap) (a1:Addr):Heap:=h.push { cls:=.type "tuple_iterator",data:=.fields #[.ref a1,.int 0 0] }
noncomputable abbrev eG (h:Heap) (a1 a2:Addr):Heap:=(dq h a1).push { cls:=.type "tuple_iterator",data:=.fields #[.ref a2,.int 0 0] }
noncomputable abbrev di (h:Heap) (a1 a2:Addr):Heap:=(eG h a1 a2).push { cls:=.type "tuple",data:=.seq #[.ref h.objs.size,.ref (dq h a1).objs.size] }
noncomputable abbrev d_ (h:Heap) (a1 a2:Addr):Heap:=(di h a1 a2).push { cls:=.type "tuple",data:=.seq #[.none,.none] }
noncomputable abbrev Xd (h:Heap) (a1 a2:Addr):Heap:=(d_ h a1 a2).push { cls:=.type "zip",data:=.fields #[.none,.bool false,.bool false,.ref (eG h a1 a2).objs.size,.ref (di h a1 a2).objs.size] }
theorem TY (a1 a2:Addr) (xs ys:Array Value):Meets (Builtin.«zip.__new__» ⟨[.type "zip",.ref a1,.ref a2],[]⟩) (fun _ R s=>s.heap.IsTuple a1 xs/\s.heap.IsTuple a2 ys /\
   R (.ok (.ret (.ref (d_ s.heap a1 a2).objs.size))) { s with heap:=Xd s.heap a1 a2 }) :=
 .of_wp fun prog w A R s h=>by
  obtain ⟨hp,g,d,tk,os⟩:=s
  obtain ⟨t1,t2,h⟩:=h
  have hsub:=sub_zip
  have u1:Heap.IsTuple (Shared.heap ⟨hp,g,d,tk,os⟩) a1 xs:=t1
  have u2:Heap.IsTuple (Shared.heap ⟨hp.push { cls:=.type "tuple_iterator",data:=.fields #[.ref a1,.int 0 0] },g,d,tk,os⟩) a2 ys:=Heap.IsTuple.at t2 fun o e=>Heap.get?_push_of_some _ e
  wp_walk using wpAny_pyIter_tuple u1,wpAny_pyIter_tuple u2
  exact ⟨_,rfl,h⟩
section
variable {prog:Program} {w:World} {A:Around} {E:Value->Shared->Prop} {s:Shared}
theorem Q0 {a1 a2:Addr} {xs ys:Array Value} {Q:Value->Shared->Prop} (t1:s.heap.IsTuple a1 xs) (t2:s.heap.IsTuple a2 ys)
  (q:∀ h' n,n=s.heap.objs.size->IsZip h' (n+4) (n+2) (n+3) .none->IsPair h' (n+2) (.ref n) (.ref (n+1))->IsPair h' (n+3) .none .none->h'.IsTupleIter n a1 0->h'.IsTupleIter (n+1) a2 0->h'.objs.size=n+5 ->
   (∀ c o,s.heap.get? c=some o->h'.get? c=some o)->Q (.ref (n+4)) { s with heap:=h' }):wpAny (model prog w) A (call (.type "zip") [.ref a1,.ref a2]) Q E s:=by
 refine callType_new F.called_zip (by decide) (F.typeCall_zip_2 _ _) (F.newCall_zip_2 _ _) (fun obj=>F.args_object_init_3 obj _ _) F.entry_zip_new (TY a1 a2 xs ys) ⟨t1,t2,?_⟩
 have z1:(dq s.heap a1).objs.size=s.heap.objs.size+1:=Heap.size_push ..
 have z2:(eG s.heap a1 a2).objs.size=s.heap.objs.size+2:=by rw [Heap.size_push,z1]
 have z3:(di s.heap a1 a2).objs.size=s.heap.objs.size+3:=by rw [Heap.size_push,z2]
 have z4:(d_ s.heap a1 a2).objs.size=s.heap.objs.size+4:=by rw [Heap.size_push,z3]
 have z5:(Xd s.heap a1 a2).objs.size=s.heap.objs.size+5:=by rw [Heap.size_push,z4]
 have g5:(Xd s.heap a1 a2).get? (d_ s.heap a1 a2).objs.size=some _:=Heap.get?_push_size _ rfl
 have g4:(Xd s.heap a1 a2).get? (di s.heap a1 a2).objs.size=some _:=Heap.get?_push_of_some _ (Heap.get?_push_size _ rfl)
 have g3:(Xd s.heap a1 a2).get? (eG s.heap a1 a2).objs.size=some _:=Heap.get?_push_of_some _ (Heap.get?_push_of_some _ (Heap.get?_push_size _ rfl))
 have g2:(Xd s.heap a1 a2).get? (dq s.heap a1).objs.size=some _:=Heap.get?_push_of_some _ (Heap.get?_push_of_some _ (Heap.get?_push_of_some _ (Heap.get?_push_size _ rfl)))
 have g1:(Xd s.heap a1 a2).get? s.heap.objs.size=some _:=Heap.get?_push_of_some _ (Heap.get?_push_of_some _ (Heap.get?_push_of_some _ (Heap.get?_push_of_some _ (Heap.get?_push_size _ rfl))))
 refine (show _/\_ from ?_)
 rw [z2,z3,z4] at g5
 rw [z1,z2] at g3
 rw [z3] at g4
 rw [z1] at g2
 rw [z4]
 exact ⟨⟨_,g5,rfl⟩,q _ _ rfl g5 g3 g4 ⟨_,g1,rfl,rfl⟩ ⟨_,g2,rfl,rfl⟩ z5 fun c o e=>Heap.get?_push_of_some _ (Heap.get?_push_of_some _ (Heap.get?_push_of_some _ (Heap.get?_push_of_some _ (Heap.get?_push_of_some _ e))))⟩
end
end L2
namespace L2
open PySem PySem.Spec PyProof.Rows
noncomputable def Dc (env:Env):List (Str × NameKind)->List (Str × Addr)->List (Str × Addr)
 | [],acc=>acc
 | (n,k)::r,acc=>if k == .free then (match env.cells.lookup n with | some a=>Dc env r ((n,a)::acc) | none=>Dc env r acc) else Dc env r acc
theorem Hg {scope:Scope} {env:Env} (h:∀ y∈scope.names,y.2=.free->∃ c,env.cells.lookup y.1=some c):closureFor scope env=pure (Dc env scope.names []):=by
 unfold closureFor
 have key:∀ (l:List (Str × NameKind)) (acc:List (Str × Addr)),(∀ y∈l,y.2=.free->∃ c,env.cells.lookup y.1=some c) ->
   (forIn l acc fun (x:Str × NameKind) (cs:List (Str × Addr))=>(match x with | (name,kind)=>if (kind == NameKind.free)=true then (do let a ← cellOf env name; pure (ForInStep.yield ((name,a)::cs))) else pure (ForInStep.yield cs):Sem (ForInStep (List (Str × Addr)))))=(pure (Dc env l acc):Sem _):=by
  intro l
  induction l with
  | nil=>intro acc _; rfl
  | cons x r ih =>
   intro acc hl
   obtain ⟨n,k⟩:=x
   rw [List.forIn_cons]
   unfold Dc
   by_cases hk:(k == NameKind.free)=true
   ·obtain ⟨c,hc⟩:=hl (n,k) List.mem_cons_self (by simpa using hk)
    have hc':env.cells.lookup n=some c:=hc
    have e:cellOf env n=pure c:=by unfold cellOf; rw [hc']
    simp only [hk,if_true,e,hc']
    exact ih _ fun y hy=>hl y (List.mem_cons_of_mem _ hy)
   ·simp only [hk]
    exact ih _ fun y hy=>hl y (List.mem_cons_of_mem _ hy)
 have:=key scope.names [] h
 exact (congrArg (fun (m:Sem (List (Str × Addr)))=>m >>= fun z=>pure z) this).trans rfl
theorem GZ (env:Env):∀ (l:List (Str × NameKind)) (acc:List (Str × Addr)) (y:Str) (c:Addr),(Dc env l acc).lookup y=some c->acc.lookup y=some c \/ env.cells.lookup y=some c
 | [],_,_,_,h=>.inl h
 | (n,k)::r,acc,y,c,h=>by
  unfold Dc at h
  split at h
  ·split at h
   ·rename_i a ha
    rcases GZ env r _ y c h with z | z
    ·rw [List.lookup_cons] at z
     split at z
     ·rename_i e
      cases z
      have e':y=n:=by simpa using e
      subst e'
      exact .inr ha
     ·exact .inl z
    ·exact .inr z
   ·exact GZ env r _ y c h
  ·exact GZ env r _ y c h
theorem HH (env:Env):∀ (l:List (Str × NameKind)) (acc:List (Str × Addr)) (y:Str),(acc.lookup y).isSome=true->((Dc env l acc).lookup y).isSome=true
 | [],_,_,h=>h
 | (n,k)::r,acc,y,h=>by
  unfold Dc
  split
  ·split
   ·refine HH env r _ y ?_
    rw [List.lookup_cons]
    split
    ·rfl
    ·exact h
   ·exact HH env r _ y h
  ·exact HH env r _ y h
theorem Ef (env:Env):∀ (l:List (Str × NameKind)) (acc:List (Str × Addr)) (y:Str),(y,NameKind.free)∈l->(env.cells.lookup y).isSome=true->((Dc env l acc).lookup y).isSome=true
 | [],_,_,h,_=>nomatch h
 | (n,k)::r,acc,y,h,hc=>by
  unfold Dc
  rcases List.mem_cons.mp h with e | h
  ·obtain ⟨e1,e2⟩:=Prod.mk.inj e
   subst e1
   subst e2
   rw [if_pos (by decide)]
   split
   ·refine HH env r _ y ?_
    rw [List.lookup_cons]
    simp
   ·rename_i e
    rw [e] at hc
    cases hc
  ·split
   ·split
    ·exact Ef env r _ y h hc
    ·exact Ef env r _ y h hc
   ·exact Ef env r _ y h hc
end L2
namespace L2
open PySem PySem.Spec PyProof.Rows
noncomputable def HS (x:Str) (N:List Str):List Str:=N.map fun y=>if y=x then "" else y
noncomputable def CT (X:Cx) (x:Str) (scope:Scope) (C:Addr) (s₀:Shared) (H₀:Hp) (fp:List Addr):Cx where
 prog:=X.prog
 w:=X.w
 K:=X.K
 mg:=X.mg
 base:=X.base
 A:=X.A
 N:=x::HS x X.N
 s₀:=s₀
 H₀:=H₀
 env:=compEnvC scope (Dc X.env scope.names []) C X.env
 outer:=X.stack
 stack:=X.stack
 ex:=fp
 fn:=fun _=>false
 calm:=X.calm
 pn:=[]
 xe:=fun _ _=>False
theorem Ff (env:Env) (y:Str):∀ names:List (Str × NameKind),
  (names.map fun (n,k)=>if (k == NameKind.free && env.scope.kind == .function && env.kindOf n == some .cell) then (n,NameKind.cell) else (n,k)).lookup y =
   (names.lookup y).map fun k=>if (k == NameKind.free && env.scope.kind == .function && env.kindOf y == some .cell) then NameKind.cell else k
 | []=>rfl
 | (n,k)::r=>by
  have ih:=Ff env y r
  rw [List.map_cons]
  show List.lookup y ((if (k == NameKind.free && env.scope.kind == .function && env.kindOf n == some .cell)=true then (n,NameKind.cell) else (n,k))::_)=_
  have e0:(if (k == NameKind.free && env.scope.kind == .function && env.kindOf n == some .cell)=true then (n,NameKind.cell) else (n,k))=(n,if (k == NameKind.free && env.scope.kind == .function && env.kindOf n == some .cell)=true then NameKind.cell else k):=by split <;> rfl
  rw [e0,List.lookup_cons,List.lookup_cons]
  cases hx:y == n with
  | true =>
   have e:y=n:=by simpa using hx
   subst e
   rfl
  | false=>exact ih
structure GD (X:Cx) (x:Str) (scope:Scope):Prop where
 kind:scope.kind=.function
 nocell:∀ y∈scope.names,y.2 ≠ .cell
 names:∀ y∈scope.names,y.2=.local->scope.names.lookup y.1=some .local
 loc:scope.names.lookup x=some .local
 free:∀ y∈scope.names,y.2=.free->X.env.kindOf y.1=some .cell \/ X.env.kindOf y.1=some .free
 nd:(x::HS x X.N).Nodup
 only:∀ y∈HS x X.N,scope.names.lookup y ≠ some .local
 noE:scope.names.lookup ("" : Str)=none
section
variable {X:Cx} {pins:List (Addr × Obj)} {σ:St} {H:Hp} {s:Shared} {x:Str} {scope:Scope} {fp:List Addr} {C:Addr}
theorem Nx {h':Heap} {tk:Nat} {m:Str->Option Value} (I:Inv X pins σ H s) (S:GD X x scope) (hf:∀ b∈fp,Gj X pins H b) (hlt:∀ b∈fp,b<s.heap.objs.size) (hC:s.heap.objs.size<=C) (hn:h'.Ns C m)
  (hk:∀ b o,s.heap.get? b=some o->h'.get? b=some o):Inv (CT X x scope C s H fp) [] (none::σ) H { s with heap:=h',toks:=tk }:=by
 have cl:∀ y c,(Dc X.env scope.names []).lookup y=some c->X.env.cells.lookup y=some c:=fun y c e=>by
  rcases GZ X.env scope.names [] y c e with z | z
  ·cases z
  ·exact z
 have cellK:∀ c v,s.heap.IsCell c v->h'.IsCell c v:=fun c v ⟨o,ho,hd⟩=>⟨o,hk c o ho,hd⟩
 have look:∀ y,(CT X x scope C s H fp).env.scope.names.lookup y=(scope.names.lookup y).map fun k=>if (k == NameKind.free && X.env.scope.kind == .function && X.env.kindOf y == some .cell) then NameKind.cell else k:=fun y=>Ff X.env y scope.names
 refine ⟨⟨I.ok.mod,S.kind,I.ok.glob,I.ok.blt,hC,fun y z c e1 e2=>I.ok.inj y z c (cl y c e1) (cl z c e2),fun y hy=>?_,fun y c e _=>(by cases e),fun h=>I.ok.hd h,I.ok.frames,.inl rfl,fun b hb=>?_,I.bs,Nat.le_trans I.ok.bsz I.sz,fun b o e hb=>?_,fun b hb hb'=>?_,I.stack,I.K3⟩,
  rfl,I.bare,Un.kept hk,⟨m,hn,fun i y v h1 h2 h3=>?_⟩,fun y c e=>?_,I.hok.fresh hC,fun y c e=>I.freeC y c (cl y c e),fun p hp=>absurd (show p∈([]:List (Addr × Obj)) from hp) (by simp),I.hok.kept hk,?_⟩
 ·-- every cell of the block is there
  have hy':(CT X x scope C s H fp).env.scope.names.lookup y=some .cell \/ (CT X x scope C s H fp).env.scope.names.lookup y=some .free:=hy
  rw [look y] at hy'
  cases e:scope.names.lookup y with
  | none=>rw [e] at hy'; rcases hy' with z | z <;> cases z
  | some k =>
   have hm:=PySem.mem_of_lookup e
   have hfree:k=.free:=by
    rw [e] at hy'
    cases k with
    | free=>rfl
    | cell=>exact absurd rfl (S.nocell _ hm)
    | _=>rcases hy' with z | z <;> simp at z
   subst hfree
   obtain ⟨c,hc⟩:=I.ok.has y (S.free _ hm rfl)
   exact Option.isSome_iff_exists.mp (Ef X.env scope.names [] y hm (by rw [hc]; rfl))
 ·obtain ⟨f0,f1,f2,f3,f4,f5⟩:=hf b hb
  exact ⟨Nat.ne_of_lt (Nat.lt_of_lt_of_le (hlt b hb) hC),fun y c e=>f4 y c (cl y c e)⟩
 ·obtain ⟨f0,f1,f2,f3,f4,f5⟩:=hf b hb
  rcases f3 with z | z
  ·exact I.ok.noex b o e z
  ·exact absurd (Nat.lt_of_lt_of_le (Heap.lt_size e) (Nat.le_trans I.ok.bsz z)) (Nat.lt_irrefl _)
 ·obtain ⟨f0,f1,f2,f3,f4,f5⟩:=hf b hb
  rcases List.mem_cons.mp (I.Le b hb') with e | e
  ·exact f1 e
  ·exact f2 e
 ·cases i with
  | zero =>
   have h2':(some none:Option (Option V))=some (some v):=h2
   cases h2'
  | succ i =>
   have h1':(HS x X.N)[i]? = some y:=h1
   have h2':σ[i]? = some (some v):=h2
   have hmem:y∈HS x X.N:=List.mem_of_getElem? h1'
   unfold HS at h1'
   rw [List.getElem?_map] at h1'
   cases e0:X.N[i]? with
   | none=>rw [e0] at h1'; cases h1'
   | some y0 =>
    rw [e0] at h1'
    have h1'':(if y0=x then ("" : Str) else y0)=y:=Option.some.inj h1'
    have h3':(CT X x scope C s H fp).env.scope.names.lookup y=some .local \/ (CT X x scope C s H fp).env.scope.names.lookup y=some .cell \/ (CT X x scope C s H fp).env.scope.names.lookup y=some .free:=h3
    rw [look y] at h3'
    have hy0:y0=y:=by
     by_cases q:y0=x
     ·rw [if_pos q] at h1''
      rw [← h1'',S.noE] at h3'
      rcases h3' with z | z | z <;> cases z
     ·rw [if_neg q] at h1''
      exact h1''
    subst hy0
    cases e:scope.names.lookup y0 with
    | none=>rw [e] at h3'; rcases h3' with z | z | z <;> cases z
    | some k =>
     have hm:=PySem.mem_of_lookup e
     have hfree:k=.free:=by
      rw [e] at h3'
      cases k with
      | free=>rfl
      | cell=>exact absurd rfl (S.nocell _ hm)
      | «local»=>exact absurd e (S.only y0 hmem)
      | _=>rcases h3' with z | z | z <;> simp at z
     subst hfree
     have kd:=S.free _ hm rfl
     obtain ⟨m0,hn0,hl0⟩:=I.loc
     obtain ⟨u,r,l⟩:=hl0 i y0 v e0 h2' (by rcases kd with z | z; exact .inr (.inl z); exact .inr (.inr z))
     refine ⟨u,r,.inr ⟨?_,?_⟩⟩
     ·have hk':(CT X x scope C s H fp).env.scope.names.lookup y0=some (if (NameKind.free == NameKind.free && X.env.scope.kind == .function && X.env.kindOf y0 == some .cell) then NameKind.cell else NameKind.free):=by
       rw [look y0,e]; rfl
      by_cases c:(NameKind.free == NameKind.free && X.env.scope.kind == .function && X.env.kindOf y0 == some .cell)=true
      ·rw [if_pos c] at hk'; exact .inl hk'
      ·rw [if_neg c] at hk'; exact .inr hk'
     ·rcases l with ⟨lk,_⟩ | ⟨_,c,hc,hcell⟩
      ·exfalso
       rcases kd with z | z <;> (rw [show X.env.kindOf y0=some NameKind.local from lk] at z; cases z)
      ·obtain ⟨c',hc'⟩:=Option.isSome_iff_exists.mp (Ef X.env scope.names [] y0 hm (by rw [hc]; rfl))
       have:=cl y0 c' hc'
       rw [hc] at this
       cases this
       exact ⟨c,hc',cellK c _ hcell⟩
 ·obtain ⟨v,z⟩:=I.cell y c (cl y c e)
  exact ⟨v,cellK c v z⟩
 ·show (none::σ).length=(x::HS x X.N).length
  simp [HS,I.len]
end
noncomputable def Mt (X:Cx) (ifs:List Expr) (t:TT):Prop :=
 ∀ (pins:List (Addr × Obj)) (s:Shared) (σ:St) (H:Hp) (Q:Bool->Hp->Prop),Inv X pins σ H s->t σ H Q ->
  wpAny (model X.prog X.w) X.A (forIn ifs true fun c r=>if r=true then do let ok ← isTrue c X.env (eval c X.env); pure (ForInStep.yield ok) else pure (ForInStep.yield r)) (TP X pins σ Q) X.xe s
noncomputable def Ux:TT:=fun _ H Q=>Q true H
theorem CZ {X:Cx}:Mt X [] Ux:=fun _ _ _ H _ I h=>wpAny_tests_nil ⟨H,I,h⟩
theorem Gk {X:Cx} {c:Expr} {t:TT} (h:PT X c t):Mt X [c] t:=fun pins s σ H Q I q=>wpAny_tests_one (h pins s σ H Q I q)
noncomputable def Gx (J:It) (σ:St) (H1:Hp) (Q:VK) (tt:TT) (te:TE):Prop:=∀ D,H1 D=none->∃ W:Nat->Nat->List V->Hp->Prop,(∃ m,W 0 m [] (upd H1 D (.lst [])))/\∀ i m ys H2,W i m ys H2 ->
 (J.stop i H2/\Q (.ref D) H2) \/ (J.go i H2/\∀ x H3,J.yld i H2 x H3->tt (some x::σ) H3 fun b H4 =>
  if b=true then te (some x::σ) H4 fun y H5=>H5 D=some (.lst ys)/\ys.length<sizeLine/\∃ m',m'<m/\W (i+1) m' (ys++[y]) (upd H5 D (.lst (ys++[y])))
  else ∃ m',m'<m/\W (i+1) m' ys H4)
noncomputable def WY (wi:TI) (tt:TT) (te:TE):TE:=fun σ H Q=>wi σ H fun J H1=>Gx J σ H1 Q tt te
theorem Oc {α:Type} {t:Sem α} {Q Q':α->Shared->Prop} {M:Model} {A:Around} {E:Value->Shared->Prop} {s:Shared} (h:wpAny M A t Q (fun _ _=>False) s) (hQ:∀ a s,Q a s->Q' a s):wpAny M A t Q' E s:=wpAny_mono h hQ fun _ _ x=>x.elim
theorem Inv.sameBut {X:Cx} {pins:List (Addr × Obj)} {σ:St} {H:Hp} {s:Shared} {h':Heap} {C:Addr} (I:Inv X pins σ H s) (f:Gj X pins H C) (sb:Heap.SameBut C s.heap h'):Inv X pins σ H { s with heap:=h' } :=
 I.turned (t':=s.toks) (fun b o hb e=>(sb.2 b hb).trans e) f.1 f.2.1 f.2.2.2.1 f.2.2.2.2.1 f.2.2.2.2.2
section
variable {X:Cx} {x:Str} {scope:Scope}
theorem J3 {px pos:Pos} {iter elt:Expr} {ifs:List Expr} {tt:TT} {te:TE} {pins:List (Addr × Obj)} {σ:St} {s2:Shared} {H2:Hp} {it:Addr} {fp:List Addr} {tn:Nat->Heap->Prop} {J:It} {E:Value->Shared->Prop}
  {RR:Value->Addr->Result->Shared->Prop} {Q:VK}
  (hc:X.calm=true) (S:GD X x scope) (ht:∀ C s₀ H₀ fp,Mt (CT X x scope C s₀ H₀ fp) ifs tt) (he:∀ C s₀ H₀ fp,PE (CT X x scope C s₀ H₀ fp) elt te)
  (I2:Inv X pins σ H2 s2) (T:Turn X.prog X.w X.K (.Name x px) J fp it tn) (st2:tn 0 s2.heap) (f2:∀ b∈fp,Gj X pins H2 b)
  (q:∀ D,H2 D=none->∃ W:Nat->Nat->List V->Hp->Prop,(∃ m,W 0 m [] (upd H2 D (.lst [])))/\∀ i m ys H2,W i m ys H2 ->
   (J.stop i H2/\Q (.ref D) H2) \/ (J.go i H2/\∀ x H3,J.yld i H2 x H3->tt (some x::σ) H3 fun b H4 =>
    if b=true then te (some x::σ) H4 fun y H5=>H5 D=some (.lst ys)/\ys.length<sizeLine/\∃ m',m'<m/\W (i+1) m' (ys++[y]) (upd H5 D (.lst (ys++[y])))
    else ∃ m',m'<m/\W (i+1) m' ys H4))
  (hRR:∀ D C s' H' m,s'.heap.Ns C m->Gj X pins H' C->Inv X pins σ H' s'->Q (.ref D) H'->RR (.ref D) C (.ok .next) s') :
  wpAny (model X.prog X.w) X.A (newList []) (fun acc s₃=>wpAny (model X.prog X.w) X.A (newFunctionEnv scope X.env.globals (Dc X.env scope.names []) [] X.env.qual none .none (some X.env)) (fun cenv s₄ =>
   codeAny (model X.prog X.w) X.A (.compStart (.ListComp elt [⟨.Name x px,iter,ifs,0⟩] scope pos) 0 (.ref it) acc { cenv with scope:=relabel scope X.env }) (RR acc cenv.locals) s₄) E s₃) E s2:=by
 refine wpAny_newObj_type (wpAny_newFunctionEnv S.nocell (by intro y hy; simp at hy) (fun h₁ hns₁ hsb₁=>?_) S.kind)
 have I3:=I2.Xf (its:=[]) (ys:=[]) (t':=s2.toks) .nil (Nat.zero_le _)
 have hD0:H2 s2.heap.objs.size=none:=I2.fresh
 obtain ⟨W,⟨m0,w0⟩,turn⟩:=q _ hD0
 generalize hs3:({ s2 with heap:=s2.heap.push { cls:=.type "list",data:=.seq ([]:List Value).toArray },toks:=s2.toks }:Shared)=s3 at I3
 have e3:s3.heap=s2.heap.push { cls:=.type "list",data:=.seq ([]:List Value).toArray }:=by rw [← hs3]
 have hlt:∀ b∈fp,b<s2.heap.objs.size:=fun b hb=>let ⟨_,e,_⟩:=T.obj _ _ st2 b hb; Heap.lt_size e
 have hlt3:∀ b∈fp,b<s3.heap.objs.size:=fun b hb=>by rw [e3,Heap.size_push]; exact Nat.lt_succ_of_lt (hlt b hb)
 have f3:∀ b∈fp,Gj X pins (upd H2 s2.heap.objs.size (.lst [])) b:=fun b hb=>⟨by rw [BP (Nat.ne_of_lt (hlt b hb))]; exact (f2 b hb).1,(f2 b hb).2⟩
 have hk1:∀ b o,s3.heap.get? b=some o->h₁.get? b=some o:=fun b o e=>by
  have hne:b ≠ s3.heap.objs.size:=Nat.ne_of_lt (Heap.lt_size e)
  rw [e3] at e hne
  exact hsb₁.extBut b o hne (Heap.get?_push_of_some _ e)
 have hC:s3.heap.objs.size=(s2.heap.push { cls:=.type "list",data:=.seq ([]:List Value).toArray }).objs.size:=by rw [e3]
 have hns:h₁.Ns s3.heap.objs.size (fun x=>([]:List (Str × Value)).reverse.lookup x):=by rw [hC]; exact hns₁
 have st3:tn 0 h₁:=T.keep _ _ _ st2 fun b hb o e=>hk1 b o (by rw [e3]; exact Heap.get?_push_of_some _ e)
 have hDC:s2.heap.objs.size ≠ s3.heap.objs.size:=by rw [e3,Heap.size_push]; exact Nat.ne_of_lt (Nat.lt_succ_self _)
 have start:∀ tk,Inv (CT X x scope s3.heap.objs.size s3 (upd H2 s2.heap.objs.size (.lst [])) fp) [] (none::σ) (upd H2 s2.heap.objs.size (.lst [])) { s3 with heap:=h₁,toks:=tk }:=fun tk =>
  Nx I3 S f3 hlt3 (Nat.le_refl _) hns hk1
 generalize hX:CT X x scope s3.heap.objs.size s3 (upd H2 s2.heap.objs.size (.lst [])) fp=X' at start
 have eA:X'.A=X.A:=by rw [← hX]; rfl
 have eP:X'.prog=X.prog:=by rw [← hX]; rfl
 have eW:X'.w=X.w:=by rw [← hX]; rfl
 have eK:X'.K=X.K:=by rw [← hX]; rfl
 have eC:X'.env.locals=s3.heap.objs.size:=by rw [← hX]; rfl
 have loop:∀ tk,codeAny (model X.prog X.w) X.A (.compLoop (.ListComp elt [⟨.Name x px,iter,ifs,0⟩] scope pos) 0 (.ref it) (.ref s2.heap.objs.size) (compEnvC scope (Dc X.env scope.names []) s3.heap.objs.size X.env))
   (RR (.ref s2.heap.objs.size) s3.heap.objs.size) { s3 with heap:=h₁,toks:=tk }:=by
  intro tk
  subst hX
  refine codeAny_compLoop_tests (fun n s'=>∃ i ys v0 H',Inv (CT X x scope s3.heap.objs.size s3 (upd H2 s2.heap.objs.size (.lst [])) fp) [] (v0::σ) H' s'/\tn i s'.heap/\(∀ b∈fp,H' b=none)/\W i n ys H') ?_ m0
   ⟨0,[],none,_,start tk,st3,fun b hb=>(f3 b hb).1,w0⟩
  rintro n s4 ⟨i,ys,v0,H4,I4,st4,fr4,w4⟩
  have stat:∀ {H':Hp},(∀ b∈fp,H' b=none)->∀ b∈fp,Gj (CT X x scope s3.heap.objs.size s3 (upd H2 s2.heap.objs.size (.lst [])) fp) [] H' b:=fun hn b hb=>by
   refine ⟨hn b hb,(I4.ok.exf b hb).1,I4.ok.exfs b hb,.inl hb,(I4.ok.exf b hb).2,fun p hp=>absurd (show p∈([]:List (Addr × Obj)) from hp) (by simp)⟩
  rcases turn i n ys H4 w4 with ⟨stop,qn⟩ | ⟨go,step⟩
  ·refine CN (T.done (CT X x scope s3.heap.objs.size s3 (upd H2 s2.heap.objs.size (.lst [])) fp) rfl rfl rfl hc i [] s4 (v0::σ) H4 _ I4 (stat fr4) st4 stop) fun r s5 ⟨hr,I5⟩=>?_
   subst hr
   obtain ⟨m,hn,_⟩:=I5.loc
   refine hRR _ _ s5 H4 m hn (I3.KQ (Nat.le_refl _) I5.free) (I3.call' (s':=s5) (ch:=fp) I5.os I5.base I5.hok I5.bare (fun b hb=>?_)) qn
   obtain ⟨_,g1,_,g3,g4,g5⟩:=f3 b hb
   exact ⟨g3,g1,g4,g5⟩
  ·refine CN (T.item (CT X x scope s3.heap.objs.size s3 (upd H2 s2.heap.objs.size (.lst [])) fp) rfl rfl rfl hc i [] s4 (v0::σ) H4 _ I4 (stat fr4) st4 go) fun r s5 ⟨u,hr,h5⟩=>?_
   subst hr
   intro Γ p hΓ
   obtain ⟨xv,H6,I6,r6,y6,st6,fr6⟩:=h5 Γ p hΓ
   refine (?_:wpAny _ _ _ _ _ _) Γ p hΓ
   have I6':=I6.pinned (stat fr6) (T.obj _ _ st6)
   have hloc:(CT X x scope s3.heap.objs.size s3 (upd H2 s2.heap.objs.size (.lst [])) fp).env.scope.names.lookup x=some .local:=lookup_relabel_local S.loc
   have again:∀ {s7:Shared} {H7:Hp} {ys':List V},Inv (CT X x scope s3.heap.objs.size s3 (upd H2 s2.heap.objs.size (.lst [])) fp) ([]++Ip fp s5.heap) (some xv::σ) H7 s7->(∃ m',m'<n/\W (i+1) m' ys' H7) ->
     ∃ m,m<n/\∃ i ys v0 H',Inv (CT X x scope s3.heap.objs.size s3 (upd H2 s2.heap.objs.size (.lst [])) fp) [] (v0::σ) H' s7/\tn i s7.heap/\(∀ b∈fp,H' b=none)/\W i m ys H':=fun {s7 H7 ys'} I7 hw=>by
    obtain ⟨m',hm,w7⟩:=hw
    refine ⟨m',hm,i+1,ys',some xv,H7,I7.Gr,T.keep _ _ _ st6 fun b hb o e=>(I7.pin (b,o) (List.mem_append_right _ (List.mem_append_right _ (Eh hb e)))).1,fun b hb=>?_,w7⟩
    obtain ⟨o,e,d⟩:=T.obj _ _ st6 b hb
    exact (I7.pin (b,o) (List.mem_append_right _ (List.mem_append_right _ (Eh hb e)))).2.1
   refine wpAny_assign_Name (Jp (X:=CT X x scope s3.heap.objs.size s3 (upd H2 s2.heap.objs.size (.lst [])) fp) (i:=0) I6' S.nd rfl (.inl hloc) r6 (fun s7 I7=>?_) (.inr hloc))
   refine Oc (ht _ _ _ _ _ s7 (some xv::σ) H6 _ I7 (step xv H6 y6)) fun b s8 hq0=>?_
   obtain ⟨H8,I8,q8⟩:=hq0
   cases b with
   | false =>
    rw [if_neg Bool.false_ne_true] at q8 ⊢
    exact again I8 q8
   | true =>
    rw [if_pos rfl] at q8 ⊢
    refine Oc (he _ _ _ _ _ s8 (some xv::σ) H8 _ I8 q8) fun y s9 hq0=>?_
    obtain ⟨yv,H9,I9,r9,hD9,hz9,q9⟩:=hq0
    refine Oc (CG (X:=CT X x scope s3.heap.objs.size s3 (upd H2 s2.heap.objs.size (.lst [])) fp) _ s9 (some xv::σ) H9 (.ref s2.heap.objs.size) [yv] (.ref s2.heap.objs.size) [y] (fun _ H'=>H'=upd H9 s2.heap.objs.size (.lst (ys++[yv]))) I9 rfl (.cons r9 .nil)
     ⟨_,ys,yv,rfl,rfl,hD9,hz9,rfl⟩) fun _ s10 ⟨_,H10,I10,_,e10⟩=>?_
    subst e10
    exact again I10 q9
 have key:=fun tk=>codeAny_compStart_list (R:=RR (.ref s2.heap.objs.size) s3.heap.objs.size) (loop tk) (T.self X.A 0 { s3 with heap:=h₁,toks:=tk } (fun it' s'=>codeAny (model X.prog X.w) X.A (.compLoop (.ListComp elt [⟨.Name x px,iter,ifs,0⟩] scope pos) 0 it' (.ref s2.heap.objs.size) (compEnvC scope (Dc X.env scope.names []) s3.heap.objs.size X.env)) (RR (.ref s2.heap.objs.size) s3.heap.objs.size) s') _ st3 (loop tk))
 subst hs3
 exact key _
theorem Bs {px pos:Pos} {iter elt:Expr} {ifs:List Expr} {wi:TI} {tt:TT} {te:TE} (hc:X.calm=true) (S:GD X x scope) (hi:PI X (.Name x px) iter wi)
  (ht:∀ C s₀ H₀ fp,Mt (CT X x scope C s₀ H₀ fp) ifs tt) (he:∀ C s₀ H₀ fp,PE (CT X x scope C s₀ H₀ fp) elt te) (hs:∀ x,foldedSetIterable iter X.env x=pure x:=by intro _; rfl) :
  PE X (.ListComp elt [⟨.Name x px,iter,ifs,0⟩] scope pos) (WY wi tt te):=by
 intro pins s σ H Q I h
 rw [eval_ListComp]
 refine wpAny_comprehension_free (use:=none) (cl:=Dc X.env scope.names []) rfl hs (Hg fun y hy hk=>I.ok.has y.1 (S.free y hy hk)) S.kind S.names (CN (hi pins s σ H _ I h) fun v s1 h1=>CN h1 fun itv s2 h2=>?_)
 obtain ⟨it,fp,tn,J,H2,e,I2,T,st2,f2,q⟩:=h2
 subst e
 refine J3 (RR:=fun acc C=>compPost (model X.prog X.w) X.A X.xe none (EP X pins σ Q) acc C) (Q:=Q) hc S ht he I2 T st2 f2 q ?_
 intro D C s' H' m hn hf hI hq
 exact ⟨m,hn,fun h' sb=>⟨.ref D,H',hI.sameBut hf sb,rfl,hq⟩⟩
theorem Ho {i:Nat} {y:Str} {px py pos spos:Pos} {iter elt:Expr} {ifs:List Expr} {wi:TI} {tt:TT} {te:TE} (hN:X.N.Nodup) (hi':X.N[i]? = some y) (hy:X.env.scope.names.lookup y=some .local) (hc:X.calm=true) (S:GD X x scope) (hi:PI X (.Name x px) iter wi)
  (ht:∀ C s₀ H₀ fp,Mt (CT X x scope C s₀ H₀ fp) ifs tt) (he:∀ C s₀ H₀ fp,PE (CT X x scope C s₀ H₀ fp) elt te) (hsw:swapsWith (.ListComp elt [⟨.Name x px,iter,ifs,0⟩] scope pos) (some (.Name y py)) spos.line X.env=pure true:=by rfl) (hs:∀ x,foldedSetIterable iter X.env x=pure x:=by intro _; rfl) :
  PS X (.Assign [.Name y py] (.ListComp elt [⟨.Name x px,iter,ifs,0⟩] scope pos) spos) (Uu (WY wi tt te) (Dg i)):=by
 intro pins s σ H D' I h
 rw [exec_Assign_Name_used _ _ _ _ hsw]
 refine wpAny_bind (wpAny_standAt (wpAny_bind ?_))
 show wpAny _ X.A (do let _ ← comprehension (.ListComp elt [⟨.Name x px,iter,ifs,0⟩] scope pos) scope X.env _ (newList []) false (eval iter X.env) (some (assign (.Name y py) X.env))) _ _ s
 refine wpAny_bind (wpAny_mono (wpAny_comprehension_free (use:=some (assign (.Name y py) X.env)) (cl:=Dc X.env scope.names []) (Q:=fun _ s'=>SP X pins D' .next s') rfl hs (Hg fun y hy hk=>I.ok.has y.1 (S.free y hy hk)) S.kind S.names
  (CN (hi pins s σ H _ I h) fun v s1 h1=>CN h1 fun itv s2 h2=>?_)) (fun _ s' hq=>wpAny_pure (wpAny_pure hq)) fun _ _ e=>e)
 obtain ⟨it,fp,tn,J,H2,e,I2,T,st2,f2,q⟩:=h2
 subst e
 refine J3 (RR:=fun acc C=>compPost (model X.prog X.w) X.A X.xe (some (assign (.Name y py) X.env)) (fun _ s'=>SP X pins D' .next s') acc C) (Q:=fun x H1=>Dg i x σ H1 D'.nx) hc S ht he I2 T st2 f2 q ?_
 intro D C s' H' m hn hf hI hq
 show wpAny _ X.A (assign (.Name y py) X.env (.ref D)) _ _ _
 refine wpAny_assign_Name (Kf hI hN hi' (.inl hy) (v:=.ref D) rfl (fun s6 I6 hch=>?_) (.inr hy))
 obtain ⟨a,sb,ha⟩:=hch
 have hCa:C ≠ a:=by
  rcases ha with z | z
  ·rw [z]; exact hf.2.1
  ·exact Ne.symm (hf.2.2.2.2.1 y a z)
 exact ⟨m,hn.sameBut sb hCa,fun h' sb'=>⟨_,H',I6.sameBut hf sb',hq⟩⟩
end
end L2
namespace L2
open PySem PySem.Spec PyProof.Rows
section
variable {σ:St} {H1:Hp} {Q:VK} {tt:TT} {te:TE}
theorem IK {J:It} {xs:List V} (p:V->Bool) (f:V->V) (hz:xs.length<sizeLine)
  (hgo:∀ i H x,An H1 H->xs[i]? = some x->J.go i H) (hy:∀ i H y H',An H1 H->i<xs.length->J.yld i H y H'->H'=H/\xs[i]? = some y) (hstop:∀ H,An H1 H->J.stop xs.length H)
  (ht:∀ x∈xs,∀ H,An H1 H->∀ R:Bool->Hp->Prop,(∀ H',An H H'->R (p x) H')->tt (some x::σ) H R)
  (he:∀ x∈xs,p x=true->∀ H,An H1 H->∀ R:VK,(∀ H',An H H'->R (f x) H')->te (some x::σ) H R)
  (hq:∀ D H,H1 D=none->An H1 H->H D=some (.lst ((xs.filter p).map f))->Q (.ref D) H):Gx J σ H1 Q tt te:=by
 intro D hD
 have s0:An H1 (upd H1 D (.lst [])):=fun b o e=>by rw [BP (A_ e hD)]; exact e
 refine ⟨fun i m ys H=>m=xs.length - i/\i<=xs.length/\ys=((xs.take i).filter p).map f/\H D=some (.lst ys)/\An H1 H,⟨xs.length,by simp,Nat.zero_le _,by simp,Aj,s0⟩,?_⟩
 rintro i m ys H ⟨rfl,hi,rfl,hd,hs⟩
 by_cases hlt:i<xs.length
 ·obtain ⟨x,hx⟩:∃ x,xs[i]? = some x:=⟨xs[i],by simp [hlt]⟩
  refine .inr ⟨hgo i H x hs hx,fun y H3 hyl=>?_⟩
  obtain ⟨rfl,hy'⟩:=hy i H y H3 hs hlt hyl
  rw [hx] at hy'
  cases hy'
  have hm:x∈xs:=List.mem_of_getElem? hx
  have hlen:(((xs.take i).filter p).map f).length<sizeLine:=by
   rw [List.length_map]
   refine Nat.lt_of_le_of_lt (List.length_filter_le _ _) (Nat.lt_of_le_of_lt ?_ hz)
   rw [List.length_take]; omega
  refine ht x hm _ hs _ fun H4 s4=>?_
  by_cases hp:p x=true
  ·rw [if_pos hp]
   refine he x hm hp H4 (hs.trans s4) _ fun H5 s5=>?_
   refine ⟨s5 _ _ (s4 _ _ hd),hlen,xs.length - (i+1),by omega,rfl,hlt,?_,Aj,fun b o e=>?_⟩
   ·rw [take_succ_filter p xs i x hx,if_pos hp,List.map_append]; rfl
   ·rw [BP (A_ e hD)]; exact s5 _ _ (s4 _ _ (hs _ _ e))
  ·rw [if_neg hp]
   refine ⟨xs.length - (i+1),by omega,rfl,hlt,?_,s4 _ _ hd,hs.trans s4⟩
   rw [take_succ_filter p xs i x hx,if_neg hp,List.append_nil]
 ·have e:i=xs.length:=by omega
  subst e
  rw [List.take_length] at hd
  exact .inl ⟨hstop H hs,hq D H hD hs hd⟩
theorem Dv {lo:Int} {n:Nat} (p:Int->Bool) (f:Int->V) (hz:n<sizeLine)
  (ht:∀ i:Nat,i<n->∀ H,An H1 H->∀ R:Bool->Hp->Prop,(∀ H',An H H'->R (p (lo+i)) H')->tt (some (.int (lo+i))::σ) H R)
  (he:∀ i:Nat,i<n->p (lo+i)=true->∀ H,An H1 H->∀ R:VK,(∀ H',An H H'->R (f (lo+i)) H')->te (some (.int (lo+i))::σ) H R)
  (hq:∀ D H,H1 D=none->An H1 H->H D=some (.lst ((((List.range n).map fun (i:Nat)=>lo+(i:Int)).filter p).map f))->Q (.ref D) H):Gx (Wj lo n) σ H1 Q tt te:=by
 let g:V->Int:=fun v=>match v with | .int i=>i | _=>0
 have hxs:∀ i:Nat,i<n->((List.range n).map fun (i:Nat)=>V.int (lo+(i:Int)))[i]? = some (.int (lo+i)):=fun i hi=>by simp [hi]
 refine IK (xs:=(List.range n).map fun (i:Nat)=>V.int (lo+(i:Int))) (fun v=>p (g v)) (fun v=>f (g v)) (by simpa using hz) (fun i H x _ hx=>?_) (fun i H y H' _ hi hy=>?_) (fun H _=>?_) (fun x hx=>?_) (fun x hx=>?_) (fun D H h1 h2 h3=>?_)
 ·have:i<((List.range n).map fun (i:Nat)=>V.int (lo+(i:Int))).length:=(List.getElem?_eq_some_iff.mp hx).1
  show i<n
  simpa using this
 ·have hi':i<n:=by simpa using hi
  obtain ⟨e1,e2⟩:=hy
  subst e2
  exact ⟨e1,hxs i hi'⟩
 ·show n<=_
  simp
 ·obtain ⟨i,hi,rfl⟩:=List.mem_map.mp hx
  exact ht i (List.mem_range.mp hi)
 ·obtain ⟨i,hi,rfl⟩:=List.mem_map.mp hx
  exact he i (List.mem_range.mp hi)
 ·refine hq D H h1 h2 ?_
  rw [h3,List.filter_map,List.map_map,List.filter_map,List.map_map]
  rfl
noncomputable def dg (z:Str):It:=⟨fun i _=>i<z.cps.size,fun i H x H'=>H'=H/\∃ c,z.cps[i]? = some c/\x=.str ⟨#[c]⟩,fun i _=>z.cps.size<=i⟩
theorem RL {P:Program} {w:World} {K:PySem.W.Frag} {tg:Expr} {z:Str} {t0:Tok} {it:Addr} {ty:String} (hty:ty = "str_ascii_iterator" \/ ty = "str_iterator"):Turn P w K tg (dg z) [it] it (fun i h=>h.IsStrIter it ty z t0 i) where
 mem:=by simp
 obj:=fun i h st b hb=>by
  have e:b=it:=by simpa using hb
  subst e
  obtain ⟨o,ho,hc,hd⟩:=st
  exact ⟨o,ho,fun v q=>by rw [hd] at q; cases q⟩
 keep:=fun i h h' st k=>let ⟨o,ho,r⟩:=st; ⟨o,k it (by simp) o ho,r⟩
 item:=by
  intro X hP hw hK hc i pins s σ H E I hf st hg
  subst hP hw hK
  obtain ⟨f0,f1,f2,f3,f4,f5⟩:=hf it (by simp)
  have hg':i<z.cps.size:=hg
  have hx:z.cps[i]? = some z.cps[i]:=Array.getElem?_eq_getElem hg'
  have fin:∀ h',h'.IsStrIter it ty z t0 (i+1)->Heap.SameBut it s.heap h'->∃ u,some (Value.str ⟨#[z.cps[i]]⟩ s.toks)=some u /\
    wpAny (model X.prog X.w) X.A (letOwnedTupleGo tg (.ref it) u) (fun _ s2=>∃ x H',Inv X pins σ H' s2/\RelV x u/\(dg z).yld i H x H'/\s2.heap.IsStrIter it ty z t0 (i+1)/\∀ b∈[it],H' b=none) E { s with heap:=h',toks:=s.toks+1 }:=fun h' st' sb=>by
   have I1:Inv X pins σ H { s with heap:=h',toks:=s.toks+1 }:=I.turned (fun b o hb e=>(sb.2 b hb).trans e) f0 f1 f3 f4 f5
   obtain ⟨o,e,c,d⟩:=id st'
   refine ⟨_,rfl,Mg (s:={ s with heap:=h',toks:=s.toks+1 }) e c d (by rcases hty with rfl | rfl <;> decide) ⟨.str ⟨#[z.cps[i]]⟩,H,I1,⟨_,rfl⟩,⟨rfl,_,hx,rfl⟩,st',fun b hb=>(hf b hb).1⟩⟩
  rcases hty with rfl | rfl
  ·exact wpAny_pyNext_ascii_item st hx fin
  ·exact wpAny_pyNext_wide_item st hx fin
 done:=by
  intro X hP hw hK hc i pins s σ H E I hf st hg
  subst hP hw hK
  obtain ⟨f0,f1,f2,f3,f4,f5⟩:=hf it (by simp)
  have hx:z.cps[i]? = none:=by
   have hg':z.cps.size<=i:=hg
   simpa using hg'
  rcases hty with rfl | rfl
  ·exact wpAny_pyNext_ascii_end (I.ok.hd hc) st hx fun h' eb=>⟨rfl,I.turned (t':=s.toks) (fun b o hb e=>eb b o hb e) f0 f1 f3 f4 f5⟩
  ·exact wpAny_pyNext_wide_end (I.ok.hd hc) st hx fun h' eb=>⟨rfl,I.turned (t':=s.toks) (fun b o hb e=>eb b o hb e) f0 f1 f3 f4 f5⟩
 self:=fun A i s Q E st h=>by
  rcases hty with rfl | rfl
  ·exact wpAny_pyIter_striter_ascii st h
  ·exact wpAny_pyIter_striter_wide st h
end
section
variable {X:Cx} {tg:Expr}
noncomputable def fc (tl:TE):TI:=fun σ H R=>tl σ H fun x H1=>∃ z,x=.str z/\R (dg z) H1
theorem Wu {l:Expr} {tl:TE} (hl:PE X l tl):PI X tg l (fc tl):=by
 intro pins s σ H R I h
 refine CN (hl pins s σ H _ I h) fun v s1 hq0=>?_
 obtain ⟨x,H1,I1,r1,q1⟩:=hq0
 obtain ⟨z,e,q⟩:=q1
 subst e
 obtain ⟨t,rfl⟩:=r1
 have fin:∀ ty,(ty = "str_ascii_iterator" \/ ty = "str_iterator")->PIE X pins σ tg R (.ref s1.heap.objs.size) { s1 with heap:=s1.heap.push { cls:=.type ty,data:=.fields #[.str z t,.int 0 0] } }:=fun ty hty=>by
  refine ⟨s1.heap.objs.size,[s1.heap.objs.size],_,_,H1,rfl,I1.kept (t':=s1.toks) fun b o e=>Heap.get?_push_of_some _ e,RL (z:=z) (t0:=t) hty,⟨_,Heap.get?_push_size _ rfl,rfl,rfl⟩,fun b hb=>?_,q⟩
  have e:b=s1.heap.objs.size:=by simpa using hb
  subst e
  exact I1.KQ (Nat.le_refl _) (I1.hok.fresh (Nat.le_refl _))
 cases ha:z.cps.all (· < 128)
 ·exact wpAny_pyIter_wide ha (fin _ (.inr rfl))
 ·exact wpAny_pyIter_ascii ha (fin _ (.inl rfl))
end
section
variable {σ:St} {H1:Hp} {Q:VK} {tt:TT} {te:TE}
noncomputable def sgn (c:Nat):V:=.str ⟨#[c]⟩
theorem SQ {z:Str} (p:Nat->Bool) (f:Nat->V) (hz:z.length<sizeLine)
  (ht:∀ c∈z.cps.toList,∀ H,An H1 H->∀ R:Bool->Hp->Prop,(∀ H',An H H'->R (p c) H')->tt (some (sgn c)::σ) H R)
  (he:∀ c∈z.cps.toList,p c=true->∀ H,An H1 H->∀ R:VK,(∀ H',An H H'->R (f c) H')->te (some (sgn c)::σ) H R)
  (hq:∀ D H,H1 D=none->An H1 H->H D=some (.lst ((z.cps.toList.filter p).map f))->Q (.ref D) H):Gx (dg z) σ H1 Q tt te:=by
 let g:V->Nat:=fun v=>match v with | .str y=>y.cps.getD 0 0 | _=>0
 refine IK (xs:=z.cps.toList.map sgn) (fun v=>p (g v)) (fun v=>f (g v)) (by simpa [Str.length] using hz) (fun i H x _ hx=>?_) (fun i H y H' _ hi hy=>?_) (fun H _=>?_) (fun x hx=>?_) (fun x hx=>?_) (fun D H h1 h2 h3=>?_)
 ·have:i<(z.cps.toList.map sgn).length:=(List.getElem?_eq_some_iff.mp hx).1
  show i<z.cps.size
  simpa using this
 ·obtain ⟨e1,c,hc,rfl⟩:=hy
  refine ⟨e1,?_⟩
  rw [List.getElem?_map,Array.getElem?_toList,hc]; rfl
 ·show z.cps.size<=_
  simp
 ·obtain ⟨c,hc,rfl⟩:=List.mem_map.mp hx
  exact ht c hc
 ·obtain ⟨c,hc,rfl⟩:=List.mem_map.mp hx
  exact he c hc
 ·refine hq D H h1 h2 ?_
  rw [h3,List.filter_map,List.map_map]
  rfl
end
section
variable {X:Cx}
theorem range_all (bs:List Bool):((List.range bs.length).all fun i=>(bs[i]?).getD true)=bs.all id:=by
 rw [Bool.eq_iff_iff,List.all_eq_true,List.all_eq_true]
 constructor
 ·intro h b hb
  obtain ⟨i,hi,e⟩:=List.mem_iff_getElem.mp hb
  have:=h i (List.mem_range.mpr hi)
  rw [List.getElem?_eq_getElem hi,e] at this
  exact this
 ·intro h i hi
  have hi':=List.mem_range.mp hi
  rw [List.getElem?_eq_getElem hi']
  exact h _ (List.getElem_mem hi')
theorem J8 (hc:X.calm=true):Fg X (.builtin "all") (fun xs H Q=>∃ (p:Addr) (bs:List Bool),xs=[V.ref p]/\CP X.K H p (bs.map V.bl)/\Q (.bl (bs.all id)) H):=by
 intro pins s σ H xs us Q I r h
 obtain ⟨p,bs,rfl,hp,q⟩:=h
 obtain ⟨u,rfl,ru⟩:=vals1 r
 cases ru
 obtain ⟨its,rv,pl,hz⟩:=I.list hp
 have hlen:bs.length=its.length:=by have:=rv.length; rw [List.length_map] at this; exact this
 have hlt:p<s.heap.objs.size:=by obtain ⟨_,e,_⟩:=pl.isList; exact Heap.lt_size e
 refine call_all_walk (wpAny_pyIter_list pl.isList ?_)
 refine ⟨s.heap.objs.size,[s.heap.objs.size,p],[s.heap.objs.size],its.toArray.size,_,_,fun i=>(bs[i]?).getD true,rfl,Walks.list (A:=X.A.in1) (I.ok.hd hc) _ p (Nat.ne_of_lt hlt) its.toArray,
  ⟨⟨_,Heap.get?_push_size _ rfl,rfl,rfl⟩,pl.isList.push _⟩,fun i v s' Q' E' hP hQ=>?_,fun h' tk hk=>?_⟩
 ·have hP':its[i]? = some v:=by simpa using hP
  have hi:i<its.length:=(List.getElem?_eq_some_iff.mp hP').1
  have hb:bs[i]? = some bs[i]:=by simp [hlen,hi]
  obtain ⟨u,hu,ru⟩:=rv.get (i:=i) (x:=.bl bs[i]) (by rw [List.getElem?_map,hb]; rfl)
  rw [hP'] at hu
  cases hu
  cases ru
  dsimp only at hQ
  rw [hb] at hQ
  exact wpAny_truthy_bool hQ
 ·have e:((List.range its.toArray.size).all fun i=>(bs[i]?).getD true)=bs.all id:=by rw [List.size_toArray,← hlen]; exact range_all bs
  rw [e]
  refine ⟨.bl (bs.all id),H,I.kept (t':=tk) fun b o eb=>hk b o (fun hm=>?_) (Heap.get?_push_of_some _ eb),rfl,q⟩
  rw [List.mem_singleton.mp hm] at eb
  exact Nat.lt_irrefl _ (Heap.lt_size eb)
theorem CK:Fg X (.builtin "isinstance") (fun xs H Q=>∃ x T t b,xs=[x,V.ty T]/\Io X.K H x t/\PySem.W.kitOne X.K t (.type T)=some b/\Q (.bl b) H):=by
 intro pins s σ H xs us Q I r h
 obtain ⟨x,T,t,b,rfl,ty,e,q⟩:=h
 obtain ⟨u,v,rfl,ru,rv⟩:=Vals.two r
 cases rv
 exact Q_ I ru ty e fun tk=>⟨.bl b,H,I.tok _,rfl,q⟩
theorem R_:dF X (fun x lo hi H Q=>∃ z,x=.str z/\z.length<=sizeLine/\Q (.str (Txt.slice z lo hi)) H):=by
 intro pins s σ H x v vl vu lo hi sl Q I rx hs pl pu h
 obtain ⟨z,rfl,hz,q⟩:=h
 obtain ⟨t,rfl⟩:=rx
 refine ⟨"str",_,F.slot_str_getitem.lookup,typeIs_str _ _ _,?_⟩
 have fin:∀ t' k,EP X pins σ Q (.str (Txt.slice z lo hi) t') { s with toks:=k }:=fun t' k=>⟨.str _,H,I.tok _,⟨_,rfl⟩,q⟩
 cases pl with
 | none =>
  cases pu with
  | none=>exact wpAny_getItem_str_slice (l:=none) (u:=none) (st:=none) hs rfl (post_val_or_str ⟨Nat.le_trans (Txt.slice_le z _ _) hz,fin⟩)
  | int j uj=>exact wpAny_getItem_str_slice (l:=none) (u:=some (j,uj)) (st:=none) hs rfl (post_val_or_str ⟨Nat.le_trans (Txt.slice_le z _ _) hz,fin⟩)
 | int i ui =>
  cases pu with
  | none=>exact wpAny_getItem_str_slice (l:=some (i,ui)) (u:=none) (st:=none) hs rfl (post_val_or_str ⟨Nat.le_trans (Txt.slice_le z _ _) hz,fin⟩)
  | int j uj=>exact wpAny_getItem_str_slice (l:=some (i,ui)) (u:=some (j,uj)) (st:=none) hs rfl (post_val_or_str ⟨Nat.le_trans (Txt.slice_le z _ _) hz,fin⟩)
end
noncomputable def Pq (x:Str) (scope osc:Scope) (N:List Str):Bool :=
 (scope.kind == .function) && scope.names.all (fun y=>y.2 != .cell) && scope.names.all (fun y=>y.2 != .local || scope.names.lookup y.1 == some .local) && (scope.names.lookup x == some .local) &&
 scope.names.all (fun y=>y.2 != .free || osc.names.lookup y.1 == some .cell || osc.names.lookup y.1 == some .free) && decide ((x::HS x N).Nodup) && (HS x N).all (fun y=>scope.names.lookup y != some .local) && (scope.names.lookup ("" : Str) == none)
theorem Ba {X:Cx} {x:Str} {scope osc:Scope} {N:List Str} (hsc:X.env.scope=osc) (hN:X.N=N) (h:Pq x scope osc N=true):GD X x scope:=by
 unfold Pq at h
 simp only [Bool.and_eq_true] at h
 obtain ⟨⟨⟨⟨⟨⟨⟨h1,h2⟩,h3⟩,h4⟩,h5⟩,h6⟩,h7⟩,h8⟩:=h
 rw [List.all_eq_true] at h2 h3 h5 h7
 have kd:∀ y,X.env.kindOf y=osc.names.lookup y:=fun y=>by rw [← hsc]; rfl
 refine ⟨by simpa using h1,fun y hy=>by simpa using h2 y hy,fun y hy e=>?_,by simpa using h4,fun y hy e=>?_,by rw [hN]; exact of_decide_eq_true h6,fun y hy=>?_,by simpa using h8⟩
 ·have:=h3 y hy
  rw [e] at this
  simpa using this
 ·have:=h5 y hy
  rw [e] at this
  rw [kd]
  simpa using this
 ·rw [hN] at hy
  simpa using h7 y hy
theorem Lh {α:Type} {xs:List α} {i:Int} (h0:0<=i) (h1:i<xs.length):∃ v,MJ xs i=some v/\v∈xs:=by
 have hj:i.toNat<xs.length:=by omega
 refine ⟨xs[i.toNat],?_,List.getElem_mem hj⟩
 have:=Af (xs:=xs) (j:=i.toNat) (v:=xs[i.toNat]) (by simp [hj])
 have e:((i.toNat:Nat):Int)=i:=by omega
 rw [e] at this
 exact this
end L2
namespace L2
open PySem PySem.Spec PyProof.Rows
section
variable {X:Cx} {pins:List (Addr × Obj)} {σ:St} {H:Hp} {s:Shared} {h':Heap}
theorem Inv.Ja {ch:List Addr} {a:Addr} {o:HO} {t':Nat} (I:Inv X pins σ H s) (hf:∀ b∈ch,Gj X pins H b) (k:∀ b u,b ∉ ch->s.heap.get? b=some u->h'.get? b=some u) (hp:s.heap.objs.size<=a)
  (new:Ce X.prog X.w (upd H a o) h' a o):Inv X pins σ (upd H a o) { s with heap:=h',toks:=t' }:=by
 have hn:H a=none:=I.hok.fresh hp
 have up:∀ b u,H b=some u->upd H a o b=some u:=fun b u e=>by rw [BP (A_ e hn)]; exact e
 refine I.step (g':=s.gens) (d':=s.drawn) (ch:=ch) (fun b hb=>?_) (fun b u _ _ hc e _=>k b u hc e) (fun b u _ _ hc e _=>⟨u.slots,k b u hc e⟩) (fun b u _ e n=>?_)
  (fun b u hc e=>⟨u,k b u hc e⟩) (fun b xs e=>up _ _ e) (fun b u x e=>up _ _ e) (fun b ps e=>⟨#[],by rw [up _ _ e]; simp⟩) (fun m hm=>?_) (fun b u e=>?_) I.bare
 ·obtain ⟨f0,f1,f2,f3,f4,f5⟩:=hf b hb
  exact ⟨f3,f1,f4,f5⟩
 ·rw [BP (Nat.ne_of_lt (Nat.lt_of_lt_of_le (Heap.lt_size e) hp))]
  exact n
 ·obtain ⟨u,es,ep,ho,r⟩:=hm
  exact ⟨u,es,ep,k _ u (fun z=>(hf _ z).2.1 rfl) ho,r⟩
 ·by_cases hb:b=a
  ·subst hb
   rw [Aj] at e
   cases e
   exact new
  ·rw [BP hb] at e
   refine (I.hok b u e).stay (fun c v hc q=>k c v (fun z=>?_) q) (fun _ q=>up _ _ q) fun _ _ q=>up _ _ q
   have z1:=(hf c z).1
   rcases hc with hc | hc
   ·rw [hc,e] at z1
    cases z1
   ·rw [hc] at z1
    cases z1
theorem Inv.K_ {ch:List Addr} {t':Nat} (I:Inv X pins σ H s) (hf:∀ b∈ch,Gj X pins H b) (k:∀ b u,b ∉ ch->s.heap.get? b=some u->h'.get? b=some u):Inv X pins σ H { s with heap:=h',toks:=t' }:=by
 refine I.step (g':=s.gens) (d':=s.drawn) (ch:=ch) (fun b hb=>?_) (fun b u _ _ hc e _=>k b u hc e) (fun b u _ _ hc e _=>⟨u.slots,k b u hc e⟩) (fun b u _ e n=>n)
  (fun b u hc e=>⟨u,k b u hc e⟩) (fun b xs e=>e) (fun b u x e=>e) (fun b ps e=>⟨#[],by rw [e]; simp⟩) (fun m hm=>?_) (fun b u e=>?_) I.bare
 ·obtain ⟨f0,f1,f2,f3,f4,f5⟩:=hf b hb
  exact ⟨f3,f1,f4,f5⟩
 ·obtain ⟨u,es,ep,ho,r⟩:=hm
  exact ⟨u,es,ep,k _ u (fun z=>(hf _ z).2.1 rfl) ho,r⟩
 ·refine (I.hok b u e).stay (fun c v hc q=>k c v (fun z=>?_) q) (fun _ q=>q) fun _ _ q=>q
  have z1:=(hf c z).1
  rcases hc with hc | hc
  ·rw [hc,e] at z1
   cases z1
  ·rw [hc] at z1
   cases z1
end
noncomputable def YF (K:PySem.W.Frag) (a:Addr):It :=
 ⟨fun i H=>∃ xs x,CP K H a xs/\xs[i]? = some x,fun i H v H'=>∃ T,H T=none/\v=.ref T/\∀ xs,CP K H a xs->∃ x,xs[i]? = some x/\H'=upd H T (.tup [.int (i:Int),x]),fun i H=>∃ xs,CP K H a xs/\xs.length<=i⟩
noncomputable def jD (K:PySem.W.Frag) (a b:Addr):It :=
 ⟨fun i H=>∃ xs ys x y,Hf K H a xs/\Hf K H b ys/\xs[i]? = some x/\ys[i]? = some y,fun i H v H'=>∃ T,H T=none/\v=.ref T/\∀ xs ys,Hf K H a xs->Hf K H b ys->∃ x y,xs[i]? = some x/\ys[i]? = some y/\H'=upd H T (.tup [x,y]),
  fun i H=>∃ xs,Hf K H a xs/\xs.length<=i⟩
theorem RD {P:Program} {w:World} {K:PySem.W.Frag} {es:List Expr} {k1:Nat} {pos:Pos} (a e it:Addr) (hne:e ≠ it) :
  Turn P w K (.Tuple es k1 pos) (YF K a) [e,it] e (fun i h=>(∃ old,IsEnum h e it i old)/\h.IsListIter it a i) where
 mem:=by simp
 obj:=fun i h st b hb=>by
  obtain ⟨⟨old,he⟩,o,ho,c,d⟩:=st
  rcases List.mem_cons.mp hb with rfl | hb
  ·exact ⟨_,he,fun v z=>by
    have z':Data.fields _=Data.cell v:=z
    cases z'⟩
  ·have q:b=it:=by simpa using hb
   subst q
   exact ⟨o,ho,fun v z=>by rw [d] at z; cases z⟩
 keep:=fun i h h' st k=>by
  obtain ⟨⟨old,he⟩,hi⟩:=st
  exact ⟨⟨old,k e (by simp) _ he⟩,hi.at fun o q=>k it (by simp) o q⟩
 item:=by
  intro X hP hw hK hc i pins s σ H E I hf st hg
  subst hP hw hK
  obtain ⟨xs,x,hq,hx⟩:=hg
  obtain ⟨its,rv,p,hz⟩:=I.list hq
  obtain ⟨u,hu,ru⟩:=rv.get hx
  obtain ⟨⟨old,he⟩,hi⟩:=st
  refine wpAny_pyNext_enum_item he hi p.isList (x:=u) (by simpa using hu) hne fun h1 n1 n2 n3 n4 n5=>?_
  refine ⟨_,rfl,wpAny_letOwnedTupleGo_enum (s:={ s with heap:=h1,toks:=s.toks+1 }) n1 fun h2 m1 m2=>?_⟩
  have hT:s.heap.objs.size ≠ e:=Nat.ne_of_gt (Heap.lt_size he)
  have hI:s.heap.objs.size ≠ it:=by obtain ⟨_,q,_⟩:=hi; exact Nat.ne_of_gt (Heap.lt_size q)
  have fr:H s.heap.objs.size=none:=I.hok.fresh (Nat.le_refl _)
  have nw:Ce X.prog X.w (upd H s.heap.objs.size (.tup [.int (i:Int),x])) h2 s.heap.objs.size (.tup [.int (i:Int),x]) :=
   ⟨by show 2<=sizeLine; decide,[.int i s.toks,u],.cons ⟨_,rfl⟩ (.cons ru .nil),_,m2.extBut _ _ hT n3,rfl,_,rfl⟩
  refine ⟨.ref s.heap.objs.size,_,I.Ja (t':=s.toks+1) (ch:=[e,it]) hf (fun b o hb q=>?_) (Nat.le_refl _) nw,rfl,⟨_,fr,rfl,fun ys hy=>⟨x,by rw [I.Hw hy hq]; exact hx,rfl⟩⟩,⟨⟨u,?_⟩,n2.at fun o q=>m2.extBut _ _ (Ne.symm hne) q⟩,fun b hb=>?_⟩
  ·exact m2.extBut _ _ (fun z=>hb (by simp [z])) (n5 b o (fun z=>hb (by simp [z])) (fun z=>hb (by simp [z])) q)
  ·have e1:((i:Int)+1)=((i+1:Nat):Int):=by omega
   rw [← e1]
   exact m1
  ·have hb':=hb
   rcases List.mem_cons.mp hb with rfl | hb
   ·rw [BP (Ne.symm hT)]
    exact (hf _ hb').1
   ·have q:b=it:=by simpa using hb
    subst q
    rw [BP (Ne.symm hI)]
    exact (hf _ hb').1
 done:=by
  intro X hP hw hK hc i pins s σ H E I hf st hg
  subst hP hw hK
  obtain ⟨xs,hq,hx⟩:=hg
  obtain ⟨its,rv,p,hz⟩:=I.list hq
  obtain ⟨⟨old,he⟩,hi⟩:=st
  have hl:=rv.length
  exact wpAny_pyNext_enum_end (I.ok.hd hc) he hi p.isList (by simp; omega) fun h1 eb=>⟨rfl,I.K_ (t':=s.toks) (ch:=[e,it]) hf fun b o hb q=>eb b o (fun z=>hb (by simp [z])) q⟩
 self:=fun _ _ _ _ _ st h=>by
  obtain ⟨⟨old,he⟩,_⟩:=st
  exact wpAny_pyIter_enum he h
theorem Lk {n a b:Nat} (ha:a<n) (hb:b<n):ZipApart (n+4) (n+2) (n+3) n (n+1) a b:=by
 constructor <;> (refine (show @Ne Nat _ _ from ?_); omega)
theorem RC {n b:Nat} {P:Nat->Prop} (h0:P n) (h1:P (n+1)) (h2:P (n+2)) (h3:P (n+3)) (h4:P (n+4)) (hb:b∈[n,n+1,n+2,n+3,n+4]):P b:=by
 simp at hb
 rcases hb with rfl | rfl | rfl | rfl | rfl <;> assumption
theorem QT {P:Program} {w:World} {K:PySem.W.Frag} {es:List Expr} {k1:Nat} {pos:Pos} (a b n:Nat) (ha:a<n) (hb:b<n) :
  Turn P w K (.Tuple es k1 pos) (jD K a b) [n,n+1,n+2,n+3,n+4] (n+4) (fun i h=>IsZip h (n+4) (n+2) (n+3) .none/\IsPair h (n+2) (.ref n) (.ref (n+1))/\(∃ x y,IsPair h (n+3) x y)/\h.IsTupleIter n a i/\h.IsTupleIter (n+1) b i) where
 mem:=by simp
 obj:=fun i h st c hc=>by
  obtain ⟨hz,hI,⟨x,y,hO⟩,⟨o1,e1,_,d1⟩,⟨o2,e2,_,d2⟩⟩:=st
  refine RC (P:=fun c=>∃ o,h.get? c=some o/\∀ v,o.data ≠ .cell v) ⟨_,e1,fun v z=>?_⟩ ⟨_,e2,fun v z=>?_⟩ ⟨_,hI,fun v z=>?_⟩ ⟨_,hO,fun v z=>?_⟩ ⟨_,hz,fun v z=>?_⟩ hc
  ·rw [d1] at z; cases z
  ·rw [d2] at z; cases z
  ·have z':Data.seq _ _=Data.cell v:=z
   cases z'
  ·have z':Data.seq _ _=Data.cell v:=z
   cases z'
  ·have z':Data.fields _=Data.cell v:=z
   cases z'
 keep:=fun i h h' st k=>by
  obtain ⟨hz,hI,⟨x,y,hO⟩,j1,j2⟩:=st
  exact ⟨k _ (by simp) _ hz,k _ (by simp) _ hI,⟨x,y,k _ (by simp) _ hO⟩,j1.at fun o q=>k _ (by simp) o q,j2.at fun o q=>k _ (by simp) o q⟩
 item:=by
  intro X hP hw hK hc i pins s σ H E I hf st hg
  subst hP hw hK
  obtain ⟨xs,ys,x,y,q1,q2,hx,hy⟩:=hg
  obtain ⟨it1,r1,p1,_⟩:=I.tuple q1
  obtain ⟨it2,r2,p2,_⟩:=I.tuple q2
  obtain ⟨u,hu,ru⟩:=r1.get hx
  obtain ⟨v,hv,rv⟩:=r2.get hy
  obtain ⟨hz,hI,⟨x0,y0,hO⟩,j1,j2⟩:=st
  have D:=Lk ha hb
  have hT:s.TypeIs (.ref (n+4)) "zip":=⟨_,hz,rfl⟩
  have sz:n+4<s.heap.objs.size:=Heap.lt_size hz
  unfold pyNext
  refine wpAny_bind (wpAny_attempt (wpAny_callSpecial?_slot (name:=Str.ofString "__next__") hT F.slot_zip_next (wpAny_call_entry F.slot_zip_next hT F.entry_zip_next
   (RB D hz hI hO j1 j2 (show s.heap.IsTuple a it1.toArray from p1) (show s.heap.IsTuple b it2.toArray from p2) (x:=u) (y:=v) (by simpa using hu) (by simpa using hv) fun h1 n1 n2 n3 n4 n5 n6 n7=>wpAny_pure ?_) (F.args_zip_next_1 _))))
  refine ⟨_,rfl,wpAny_letOwnedTupleGo_zip (s:={ s with heap:=h1 }) n1 fun h2 m1 m2=>?_⟩
  have fr:H s.heap.objs.size=none:=I.hok.fresh (Nat.le_refl _)
  have nw:Ce X.prog X.w (upd H s.heap.objs.size (.tup [x,y])) h2 s.heap.objs.size (.tup [x,y]) :=
   ⟨by show 2<=sizeLine; decide,[u,v],.cons ru (.cons rv .nil),_,m2.extBut _ _ (Nat.ne_of_gt sz) n5,rfl,_,rfl⟩
  have hI2:IsPair h1 (n+2) (.ref n) (.ref (n+1)):=n7 _ _ D.TIz D.TITO D.TIi1 D.TIi2 hI
  refine ⟨.ref s.heap.objs.size,_,I.Ja (t':=s.toks) (ch:=[n,n+1,n+2,n+3,n+4]) hf (fun c o hc q=>?_) (Nat.le_refl _) nw,rfl,⟨_,fr,rfl,fun xs' ys' h1 h2=>⟨x,y,by rw [I.Iv h1 q1]; exact hx,by rw [I.Iv h2 q2]; exact hy,rfl⟩⟩,
   ⟨m1,m2.extBut _ _ D.TIz hI2,⟨u,v,m2.extBut _ _ D.TOz n2⟩,n3.at fun o q=>m2.extBut _ _ D.i1z q,n4.at fun o q=>m2.extBut _ _ D.i2z q⟩,fun c hc=>?_⟩
  ·have z:∀ d,d∈[n,n+1,n+2,n+3,n+4]->c ≠ d:=fun d hd q=>hc (q ▸ hd)
   exact m2.extBut _ _ (z _ (by simp)) (n7 c o (z _ (by simp)) (z _ (by simp)) (z _ (by simp)) (z _ (by simp)) q)
  ·rw [BP ?_]
   ·exact (hf c hc).1
   ·have lt:c<=n+4:=RC (P:=fun c=>c<=n+4) (by omega) (by omega) (by omega) (by omega) (Nat.le_refl _) hc
    exact Nat.ne_of_lt (Nat.lt_of_le_of_lt lt sz)
 done:=by
  intro X hP hw hK hc i pins s σ H E I hf st hg
  subst hP hw hK
  obtain ⟨xs,q1,hx⟩:=hg
  obtain ⟨it1,r1,p1,_⟩:=I.tuple q1
  obtain ⟨hz,hI,⟨x0,y0,hO⟩,j1,j2⟩:=st
  have D:=Lk ha hb
  have hT:s.TypeIs (.ref (n+4)) "zip":=⟨_,hz,rfl⟩
  have hl:=r1.length
  unfold pyNext
  refine wpAny_bind (wpAny_attempt (wpAny_callSpecial?_slot (name:=Str.ofString "__next__") hT F.slot_zip_next (wpAny_call_entry F.slot_zip_next hT F.entry_zip_next
   (RJ (I.ok.hd hc) D hz hI hO j1 (show s.heap.IsTuple a it1.toArray from p1) (by simp; omega) fun h1 x k1 hx1=>?_) (F.args_zip_next_1 _))))
  obtain ⟨o,ho,hco⟩:=hx1
  refine wpAny_bind (wpAny_isInstance (T:="StopIteration") (b:=true) ⟨o,ho,hco⟩ isSubtype_stop (wpAny_pure ?_))
  refine ⟨rfl,I.K_ (t':=s.toks) (ch:=[n,n+1,n+2,n+3,n+4]) hf fun c o hc q=>?_⟩
  have z:∀ d,d∈[n,n+1,n+2,n+3,n+4]->c ≠ d:=fun d hd q=>hc (q ▸ hd)
  exact k1 c o (z _ (by simp)) (z _ (by simp)) (z _ (by simp)) (z _ (by simp)) q
 self:=fun _ _ _ _ _ st h=>wpAny_pyIter_zip st.1 h
section
variable {X:Cx} {es:List Expr} {k1:Nat} {tpos:Pos}
noncomputable def ZR (K:PySem.W.Frag) (ta:TA):TI:=fun σ H R=>ta σ H fun vs H1=>∃ a,vs=[.ref a]/\(∃ xs,CP K H1 a xs)/\R (YF K a) H1
noncomputable def gU (K:PySem.W.Frag) (ta:TA):TI:=fun σ H R=>ta σ H fun vs H1=>∃ a b,vs=[.ref a,.ref b]/\(∃ xs,Hf K H1 a xs)/\(∃ ys,Hf K H1 b ys)/\R (jD K a b) H1
theorem Ia {l:Expr} {ta:TA} {p pos:Pos} (hg:Gl X "enumerate") (hm:X.mg "enumerate" = none) (ha:PA X [l] ta) (hs:starEach [l] X.env=[(false,eval l X.env)]:=by rfl) :
  PI X (.Tuple es k1 tpos) (.Call (.Name "enumerate" p) [l] [] pos) (ZR X.K ta):=by
 intro pins s σ H R I h
 refine Call_ (Ft I hg hm boot_enumerate (PyProof.Rows.callWith_type1 (CN (ha pos pins s σ H _ I h) fun us s1 ⟨vs,H1,I1,r1,q1⟩=>?_) hs rfl))
 obtain ⟨a,e,⟨xs,hq⟩,q⟩:=q1
 subst e
 obtain ⟨u,rfl,ru⟩:=vals1 r1
 cases ru
 obtain ⟨its,rv,pl,hz⟩:=I1.list hq
 refine call_enumerate_list pl.isList fun h1 n1 n2 n3 n4=>?_
 refine wpAny_pyIter_enum (s:={ s1 with heap:=h1 }) n1 ?_
 refine ⟨_,[s1.heap.objs.size+1,s1.heap.objs.size],_,_,H1,rfl,I1.kept (t':=s1.toks) n4,RD a _ _ (Nat.succ_ne_self _),⟨⟨_,n1⟩,n2⟩,fun b hb=>?_,q⟩
 have lt:s1.heap.objs.size<=b:=by
  rcases List.mem_cons.mp hb with rfl | hb
  ·exact Nat.le_succ _
  ·exact Nat.le_of_eq ((List.mem_singleton.mp hb).symm)
 exact I1.KQ lt (I1.hok.fresh lt)
theorem VR {x y:Expr} {ta:TA} {p pos:Pos} (hg:Gl X "zip") (hm:X.mg "zip" = none) (ha:PA X [x,y] ta) (hs:starEach [x,y] X.env=[(false,eval x X.env),(false,eval y X.env)]:=by rfl) (hs2:starEach [y] X.env=[(false,eval y X.env)]:=by rfl) :
  PI X (.Tuple es k1 tpos) (.Call (.Name "zip" p) [x,y] [] pos) (gU X.K ta):=by
 intro pins s σ H R I h
 refine Call_ (Ft I hg hm boot_zip (PyProof.Rows.callWith_type1 (CN (ha pos pins s σ H _ I h) fun us s1 ⟨vs,H1,I1,r1,q1⟩=>?_) (by rw [hs,hs2]) (by rw [hs2]; rfl)))
 obtain ⟨a,b,e,⟨xs,q1⟩,⟨ys,q2⟩,q⟩:=q1
 subst e
 obtain ⟨u,v,rfl,ru,rv⟩:=Vals.two r1
 cases ru
 cases rv
 obtain ⟨it1,r1,p1,_⟩:=I1.tuple q1
 obtain ⟨it2,r2,p2,_⟩:=I1.tuple q2
 refine Q0 (show s1.heap.IsTuple a it1.toArray from p1) (show s1.heap.IsTuple b it2.toArray from p2) fun h1 n hn n1 n2 n3 n4 n5 n6 n7=>?_
 refine wpAny_pyIter_zip (s:={ s1 with heap:=h1 }) n1 ?_
 have la:a<n:=by rw [hn]; exact p1.lt
 have lb:b<n:=by rw [hn]; exact p2.lt
 refine ⟨_,[n,n+1,n+2,n+3,n+4],_,_,H1,rfl,I1.kept (t':=s1.toks) n7,QT a b n la lb,⟨n1,n2,⟨_,_,n3⟩,n4,n5⟩,fun c hc=>?_,q⟩
 have lt:s1.heap.objs.size<=c:=by
  rw [← hn]
  exact RC (P:=fun c=>n<=c) (by omega) (by omega) (by omega) (by omega) (by omega) hc
 exact I1.KQ lt (I1.hok.fresh lt)
end
end L2
namespace L2
open PySem PySem.Spec PyProof.Rows
theorem U5 {prog:Program} {w:World} {A:Around} {R:Result->Shared->Prop} {s:Shared} {elt tg iter:Expr} {ifs:List Expr} {scope:Scope} {pos:Pos} {it acc:Value} {env:Env} (J:Nat->Shared->Prop) {E:Value->Shared->Prop} (hE:E=notedBy (model prog w) A env fun e s'=>R (.error e) s')
  (turn:∀ n s,J n s->wpAny (model prog w) A (pyNext it) (fun r s1=>match r with
   | none=>R (.ok .next) s1
   | some v=>wpAny (model prog w) A (letOwnedTupleGo tg it v) (fun _ s2=>wpAny (model prog w) A (assign tg env v) (fun _ s3 =>
     wpAny (model prog w) A (forIn ifs true fun c r=>if r=true then do let ok ← isTrue c env (eval c env); pure (ForInStep.yield ok) else pure (ForInStep.yield r)) (fun ok s4 =>
      if ok=true then wpAny (model prog w) A (eval elt env) (fun x s5=>wpAny (model prog w) A (call (.builtin "list.append") [acc,x]) (fun _ s6=>∃ m,m<n/\J m s6) E s5) E s4
      else ∃ m,m<n/\J m s4) E s3) E s2) E s1) E s) (n:Nat) (h:J n s) :
  codeAny (model prog w) A (.compLoop (.ListComp elt [⟨tg,iter,ifs,0⟩] scope pos) 0 it acc env) R s:=by
 subst hE
 refine codeAny_loop rfl J (fun n s hJ=>(show wpAny _ A ((compTurn (.ListComp elt [⟨tg,iter,ifs,0⟩] scope pos) 0 it acc env).onRaise (fun x=>do noteFrame x env; theTreesLotGoes x)) _ _ s from wpAny_noted ?_)) n h
 rw [compTurn_list]
 refine wpAny_bind (wpAny_standAt (wpAny_bind (wpAny_mono (turn n s hJ) (fun r s1 h1=>?_) fun _ _ q=>q)))
 cases r with
 | none=>exact wpAny_pure h1
 | some v =>
  refine wpAny_bind (wpAny_mono h1 (fun _ s2 h2=>wpAny_bind (wpAny_mono h2 (fun _ s3 h3=>wpAny_bind (wpAny_mono h3 (fun ok s4 h4=>?_) fun _ _ q=>q)) fun _ _ q=>q)) fun _ _ q=>q)
  cases ok with
  | false=>exact wpAny_pure ⟨rfl,h4⟩
  | true=>exact wpAny_bind (wpAny_bind (wpAny_mono h4 (fun x s5 h5=>wpAny_bind (wpAny_mono h5 (fun _ s6 h6=>wpAny_pure (wpAny_pure ⟨rfl,h6⟩)) fun _ _ q=>q)) fun _ _ q=>q))
noncomputable def Bk (X:Cx) (x z:Str) (scope:Scope) (C:Addr) (s₀:Shared) (H₀:Hp) (fp:List Addr):Cx where
 prog:=X.prog
 w:=X.w
 K:=X.K
 mg:=X.mg
 base:=X.base
 A:=X.A
 N:=x::z::X.N
 s₀:=s₀
 H₀:=H₀
 env:=compEnvC scope (Dc X.env scope.names []) C X.env
 outer:=X.stack
 stack:=X.stack
 ex:=fp
 fn:=fun _=>false
 calm:=X.calm
 pn:=[]
 xe:=fun _ _=>False
structure Eg (X:Cx) (x z:Str) (scope:Scope):Prop where
 kind:scope.kind=.function
 nocell:∀ y∈scope.names,y.2 ≠ .cell
 names:∀ y∈scope.names,y.2=.local->scope.names.lookup y.1=some .local
 loc:scope.names.lookup x=some .local
 loz:scope.names.lookup z=some .local
 free:∀ y∈scope.names,y.2=.free->X.env.kindOf y.1=some .cell \/ X.env.kindOf y.1=some .free
 nd:(x::z::X.N).Nodup
 only:∀ y∈X.N,scope.names.lookup y ≠ some .local
section
variable {X:Cx} {pins:List (Addr × Obj)} {σ:St} {H:Hp} {s:Shared} {x z:Str} {scope:Scope} {fp:List Addr} {C:Addr}
theorem Mh {h':Heap} {tk:Nat} {m:Str->Option Value} (I:Inv X pins σ H s) (S:Eg X x z scope) (hf:∀ b∈fp,Gj X pins H b) (hlt:∀ b∈fp,b<s.heap.objs.size) (hC:s.heap.objs.size<=C) (hn:h'.Ns C m)
  (hk:∀ b o,s.heap.get? b=some o->h'.get? b=some o):Inv (Bk X x z scope C s H fp) [] (none::none::σ) H { s with heap:=h',toks:=tk }:=by
 have cl:∀ y c,(Dc X.env scope.names []).lookup y=some c->X.env.cells.lookup y=some c:=fun y c e=>by
  rcases GZ X.env scope.names [] y c e with z | z
  ·cases z
  ·exact z
 have cellK:∀ c v,s.heap.IsCell c v->h'.IsCell c v:=fun c v ⟨o,ho,hd⟩=>⟨o,hk c o ho,hd⟩
 have look:∀ y,(Bk X x z scope C s H fp).env.scope.names.lookup y=(scope.names.lookup y).map fun k=>if (k == NameKind.free && X.env.scope.kind == .function && X.env.kindOf y == some .cell) then NameKind.cell else k:=fun y=>Ff X.env y scope.names
 refine ⟨⟨I.ok.mod,S.kind,I.ok.glob,I.ok.blt,hC,fun y z c e1 e2=>I.ok.inj y z c (cl y c e1) (cl z c e2),fun y hy=>?_,fun y c e _=>(by cases e),fun h=>I.ok.hd h,I.ok.frames,.inl rfl,fun b hb=>?_,I.bs,Nat.le_trans I.ok.bsz I.sz,fun b o e hb=>?_,fun b hb hb'=>?_,I.stack,I.K3⟩,
  rfl,I.bare,Un.kept hk,⟨m,hn,fun i y v h1 h2 h3=>?_⟩,fun y c e=>?_,I.hok.fresh hC,fun y c e=>I.freeC y c (cl y c e),fun p hp=>absurd (show p∈([]:List (Addr × Obj)) from hp) (by simp),I.hok.kept hk,?_⟩
 ·have hy':(Bk X x z scope C s H fp).env.scope.names.lookup y=some .cell \/ (Bk X x z scope C s H fp).env.scope.names.lookup y=some .free:=hy
  rw [look y] at hy'
  cases e:scope.names.lookup y with
  | none=>rw [e] at hy'; rcases hy' with z | z <;> cases z
  | some k =>
   have hm:=PySem.mem_of_lookup e
   have hfree:k=.free:=by
    rw [e] at hy'
    cases k with
    | free=>rfl
    | cell=>exact absurd rfl (S.nocell _ hm)
    | _=>rcases hy' with z | z <;> simp at z
   subst hfree
   obtain ⟨c,hc⟩:=I.ok.has y (S.free _ hm rfl)
   exact Option.isSome_iff_exists.mp (Ef X.env scope.names [] y hm (by rw [hc]; rfl))
 ·obtain ⟨f0,f1,f2,f3,f4,f5⟩:=hf b hb
  exact ⟨Nat.ne_of_lt (Nat.lt_of_lt_of_le (hlt b hb) hC),fun y c e=>f4 y c (cl y c e)⟩
 ·obtain ⟨f0,f1,f2,f3,f4,f5⟩:=hf b hb
  rcases f3 with z | z
  ·exact I.ok.noex b o e z
  ·exact absurd (Nat.lt_of_lt_of_le (Heap.lt_size e) (Nat.le_trans I.ok.bsz z)) (Nat.lt_irrefl _)
 ·obtain ⟨f0,f1,f2,f3,f4,f5⟩:=hf b hb
  rcases List.mem_cons.mp (I.Le b hb') with e | e
  ·exact f1 e
  ·exact f2 e
 ·match i,h1,h2 with
  | 0,h1,h2 =>
   have h2':(some none:Option (Option V))=some (some v):=h2
   cases h2'
  | 1,h1,h2 =>
   have h2':(some none:Option (Option V))=some (some v):=h2
   cases h2'
  | i+2,h1,h2 =>
   have e0:X.N[i]? = some y:=h1
   have h2':σ[i]? = some (some v):=h2
   have hmem:y∈X.N:=List.mem_of_getElem? e0
   have h3':(Bk X x z scope C s H fp).env.scope.names.lookup y=some .local \/ (Bk X x z scope C s H fp).env.scope.names.lookup y=some .cell \/ (Bk X x z scope C s H fp).env.scope.names.lookup y=some .free:=h3
   rw [look y] at h3'
   cases e:scope.names.lookup y with
   | none=>rw [e] at h3'; rcases h3' with z | z | z <;> cases z
   | some k =>
    have hm:=PySem.mem_of_lookup e
    have hfree:k=.free:=by
     rw [e] at h3'
     cases k with
     | free=>rfl
     | cell=>exact absurd rfl (S.nocell _ hm)
     | «local»=>exact absurd e (S.only y hmem)
     | _=>rcases h3' with z | z | z <;> simp at z
    subst hfree
    have kd:=S.free _ hm rfl
    obtain ⟨m0,hn0,hl0⟩:=I.loc
    obtain ⟨u,r,l⟩:=hl0 i y v e0 h2' (by rcases kd with z | z; exact .inr (.inl z); exact .inr (.inr z))
    refine ⟨u,r,.inr ⟨?_,?_⟩⟩
    ·have hk':(Bk X x z scope C s H fp).env.scope.names.lookup y=some (if (NameKind.free == NameKind.free && X.env.scope.kind == .function && X.env.kindOf y == some .cell) then NameKind.cell else NameKind.free):=by
      rw [look y,e]; rfl
     by_cases c:(NameKind.free == NameKind.free && X.env.scope.kind == .function && X.env.kindOf y == some .cell)=true
     ·rw [if_pos c] at hk'; exact .inl hk'
     ·rw [if_neg c] at hk'; exact .inr hk'
    ·rcases l with ⟨lk,_⟩ | ⟨_,c,hc,hcell⟩
     ·exfalso
      rcases kd with z | z <;> (rw [show X.env.kindOf y=some NameKind.local from lk] at z; cases z)
     ·obtain ⟨c',hc'⟩:=Option.isSome_iff_exists.mp (Ef X.env scope.names [] y hm (by rw [hc]; rfl))
      have:=cl y c' hc'
      rw [hc] at this
      cases this
      exact ⟨c,hc',cellK c _ hcell⟩
 ·obtain ⟨v,z⟩:=I.cell y c (cl y c e)
  exact ⟨v,cellK c v z⟩
 ·show (none::none::σ).length=(x::z::X.N).length
  simp [I.len]
end
noncomputable def JZ (J:It) (σ:St) (H1:Hp) (Q:VK) (g:TG) (tt:TT) (te:TE):Prop:=∀ D,H1 D=none->∃ W:Nat->Nat->List V->Hp->Prop,(∃ m,W 0 m [] (upd H1 D (.lst [])))/\∀ i m ys H2,W i m ys H2 ->
 (J.stop i H2/\Q (.ref D) H2) \/ (J.go i H2/\∀ x H3,J.yld i H2 x H3->∀ v0 v1,g x (v0::v1::σ) H3 fun σ' H3'=>(∃ w0 w1,σ'=w0::w1::σ)/\tt σ' H3' fun b H4 =>
  if b=true then te σ' H4 fun y H5=>H5 D=some (.lst ys)/\ys.length<sizeLine/\∃ m',m'<m/\W (i+1) m' (ys++[y]) (upd H5 D (.lst (ys++[y])))
  else ∃ m',m'<m/\W (i+1) m' ys H4)
noncomputable def Sx (wi:TI) (g:TG) (tt:TT) (te:TE):TE:=fun σ H Q=>wi σ H fun J H1=>JZ J σ H1 Q g tt te
section
variable {X:Cx} {x z:Str} {scope:Scope}
theorem MK {tg:Expr} {pos:Pos} {iter elt:Expr} {ifs:List Expr} {g:TG} {tt:TT} {te:TE} {pins:List (Addr × Obj)} {σ:St} {s2:Shared} {H2:Hp} {it:Addr} {fp:List Addr} {tn:Nat->Heap->Prop} {J:It} {E:Value->Shared->Prop}
  {RR:Value->Addr->Result->Shared->Prop} {Q:VK}
  (hc:X.calm=true) (S:Eg X x z scope) (hg:∀ C s₀ H₀ fp,PG (Bk X x z scope C s₀ H₀ fp) tg g) (ht:∀ C s₀ H₀ fp,Mt (Bk X x z scope C s₀ H₀ fp) ifs tt) (he:∀ C s₀ H₀ fp,PE (Bk X x z scope C s₀ H₀ fp) elt te)
  (I2:Inv X pins σ H2 s2) (T:Turn X.prog X.w X.K tg J fp it tn) (st2:tn 0 s2.heap) (f2:∀ b∈fp,Gj X pins H2 b) (q:JZ J σ H2 Q g tt te)
  (hRR:∀ D C s' H' m,s'.heap.Ns C m->Gj X pins H' C->Inv X pins σ H' s'->Q (.ref D) H'->RR (.ref D) C (.ok .next) s') :
  wpAny (model X.prog X.w) X.A (newList []) (fun acc s₃=>wpAny (model X.prog X.w) X.A (newFunctionEnv scope X.env.globals (Dc X.env scope.names []) [] X.env.qual none .none (some X.env)) (fun cenv s₄ =>
   codeAny (model X.prog X.w) X.A (.compStart (.ListComp elt [⟨tg,iter,ifs,0⟩] scope pos) 0 (.ref it) acc { cenv with scope:=relabel scope X.env }) (RR acc cenv.locals) s₄) E s₃) E s2:=by
 refine wpAny_newObj_type (wpAny_newFunctionEnv S.nocell (by intro y hy; simp at hy) (fun h₁ hns₁ hsb₁=>?_) S.kind)
 have I3:=I2.Xf (its:=[]) (ys:=[]) (t':=s2.toks) .nil (Nat.zero_le _)
 have hD0:H2 s2.heap.objs.size=none:=I2.fresh
 obtain ⟨W,⟨m0,w0⟩,turn⟩:=q _ hD0
 generalize hs3:({ s2 with heap:=s2.heap.push { cls:=.type "list",data:=.seq ([]:List Value).toArray },toks:=s2.toks }:Shared)=s3 at I3
 have e3:s3.heap=s2.heap.push { cls:=.type "list",data:=.seq ([]:List Value).toArray }:=by rw [← hs3]
 have hlt:∀ b∈fp,b<s2.heap.objs.size:=fun b hb=>let ⟨_,e,_⟩:=T.obj _ _ st2 b hb; Heap.lt_size e
 have hlt3:∀ b∈fp,b<s3.heap.objs.size:=fun b hb=>by rw [e3,Heap.size_push]; exact Nat.lt_succ_of_lt (hlt b hb)
 have f3:∀ b∈fp,Gj X pins (upd H2 s2.heap.objs.size (.lst [])) b:=fun b hb=>⟨by rw [BP (Nat.ne_of_lt (hlt b hb))]; exact (f2 b hb).1,(f2 b hb).2⟩
 have hk1:∀ b o,s3.heap.get? b=some o->h₁.get? b=some o:=fun b o e=>by
  have hne:b ≠ s3.heap.objs.size:=Nat.ne_of_lt (Heap.lt_size e)
  rw [e3] at e hne
  exact hsb₁.extBut b o hne (Heap.get?_push_of_some _ e)
 have hC:s3.heap.objs.size=(s2.heap.push { cls:=.type "list",data:=.seq ([]:List Value).toArray }).objs.size:=by rw [e3]
 have hns:h₁.Ns s3.heap.objs.size (fun x=>([]:List (Str × Value)).reverse.lookup x):=by rw [hC]; exact hns₁
 have st3:tn 0 h₁:=T.keep _ _ _ st2 fun b hb o e=>hk1 b o (by rw [e3]; exact Heap.get?_push_of_some _ e)
 have start:∀ tk,Inv (Bk X x z scope s3.heap.objs.size s3 (upd H2 s2.heap.objs.size (.lst [])) fp) [] (none::none::σ) (upd H2 s2.heap.objs.size (.lst [])) { s3 with heap:=h₁,toks:=tk }:=fun tk =>
  Mh I3 S f3 hlt3 (Nat.le_refl _) hns hk1
 have loop:∀ tk,codeAny (model X.prog X.w) X.A (.compLoop (.ListComp elt [⟨tg,iter,ifs,0⟩] scope pos) 0 (.ref it) (.ref s2.heap.objs.size) (compEnvC scope (Dc X.env scope.names []) s3.heap.objs.size X.env))
   (RR (.ref s2.heap.objs.size) s3.heap.objs.size) { s3 with heap:=h₁,toks:=tk }:=by
  intro tk
  refine U5 (fun n s'=>∃ i ys v0 v1 H',Inv (Bk X x z scope s3.heap.objs.size s3 (upd H2 s2.heap.objs.size (.lst [])) fp) [] (v0::v1::σ) H' s'/\tn i s'.heap/\(∀ b∈fp,H' b=none)/\W i n ys H') rfl ?_ m0
   ⟨0,[],none,none,_,start tk,st3,fun b hb=>(f3 b hb).1,w0⟩
  rintro n s4 ⟨i,ys,v0,v1,H4,I4,st4,fr4,w4⟩
  have stat:∀ {H':Hp},(∀ b∈fp,H' b=none)->∀ b∈fp,Gj (Bk X x z scope s3.heap.objs.size s3 (upd H2 s2.heap.objs.size (.lst [])) fp) [] H' b:=fun hn b hb=>by
   refine ⟨hn b hb,(I4.ok.exf b hb).1,I4.ok.exfs b hb,.inl hb,(I4.ok.exf b hb).2,fun p hp=>absurd (show p∈([]:List (Addr × Obj)) from hp) (by simp)⟩
  rcases turn i n ys H4 w4 with ⟨stop,qn⟩ | ⟨go,step⟩
  ·refine CN (T.done (Bk X x z scope s3.heap.objs.size s3 (upd H2 s2.heap.objs.size (.lst [])) fp) rfl rfl rfl hc i [] s4 (v0::v1::σ) H4 _ I4 (stat fr4) st4 stop) fun r s5 ⟨hr,I5⟩=>?_
   subst hr
   obtain ⟨m,hn,_⟩:=I5.loc
   refine hRR _ _ s5 H4 m hn (I3.KQ (Nat.le_refl _) I5.free) (I3.call' (s':=s5) (ch:=fp) I5.os I5.base I5.hok I5.bare (fun b hb=>?_)) qn
   obtain ⟨_,g1,_,g3,g4,g5⟩:=f3 b hb
   exact ⟨g3,g1,g4,g5⟩
  ·refine CN (T.item (Bk X x z scope s3.heap.objs.size s3 (upd H2 s2.heap.objs.size (.lst [])) fp) rfl rfl rfl hc i [] s4 (v0::v1::σ) H4 _ I4 (stat fr4) st4 go) fun r s5 ⟨u,hr,h5⟩=>?_
   subst hr
   refine CN h5 fun _ s6 h6=>?_
   obtain ⟨xv,H6,I6,r6,y6,st6,fr6⟩:=h6
   have I6':=I6.pinned (stat fr6) (T.obj _ _ st6)
   have again:∀ {s7:Shared} {H7:Hp} {ys':List V} {w0 w1:Option V},Inv (Bk X x z scope s3.heap.objs.size s3 (upd H2 s2.heap.objs.size (.lst [])) fp) ([]++Ip fp s6.heap) (w0::w1::σ) H7 s7->(∃ m',m'<n/\W (i+1) m' ys' H7) ->
     ∃ m,m<n/\∃ i ys v0 v1 H',Inv (Bk X x z scope s3.heap.objs.size s3 (upd H2 s2.heap.objs.size (.lst [])) fp) [] (v0::v1::σ) H' s7/\tn i s7.heap/\(∀ b∈fp,H' b=none)/\W i m ys H':=fun {s7 H7 ys' w0 w1} I7 hw=>by
    obtain ⟨m',hm,w7⟩:=hw
    refine ⟨m',hm,i+1,ys',w0,w1,H7,I7.Gr,T.keep _ _ _ st6 fun b hb o e=>(I7.pin (b,o) (List.mem_append_right _ (List.mem_append_right _ (Eh hb e)))).1,fun b hb=>?_,w7⟩
    obtain ⟨o,e,d⟩:=T.obj _ _ st6 b hb
    exact (I7.pin (b,o) (List.mem_append_right _ (List.mem_append_right _ (Eh hb e)))).2.1
   refine Oc (hg _ _ _ _ _ s6 (v0::v1::σ) H6 xv u _ I6' r6 (step xv H6 y6 v0 v1)) fun _ s7 ⟨σ7,H7,I7,⟨w0,w1,e7⟩,q7⟩=>?_
   subst e7
   refine Oc (ht _ _ _ _ _ s7 (w0::w1::σ) H7 _ I7 q7) fun b s8 hq0=>?_
   obtain ⟨H8,I8,q8⟩:=hq0
   cases b with
   | false =>
    rw [if_neg Bool.false_ne_true] at q8 ⊢
    exact again I8 q8
   | true =>
    rw [if_pos rfl] at q8 ⊢
    refine Oc (he _ _ _ _ _ s8 (w0::w1::σ) H8 _ I8 q8) fun y s9 hq0=>?_
    obtain ⟨yv,H9,I9,r9,hD9,hz9,q9⟩:=hq0
    refine Oc (CG (X:=Bk X x z scope s3.heap.objs.size s3 (upd H2 s2.heap.objs.size (.lst [])) fp) _ s9 (w0::w1::σ) H9 (.ref s2.heap.objs.size) [yv] (.ref s2.heap.objs.size) [y] (fun _ H'=>H'=upd H9 s2.heap.objs.size (.lst (ys++[yv]))) I9 rfl (.cons r9 .nil)
     ⟨_,ys,yv,rfl,rfl,hD9,hz9,rfl⟩) fun _ s10 ⟨_,H10,I10,_,e10⟩=>?_
    subst e10
    exact again I10 q9
 have key:=fun tk=>codeAny_compStart_list (R:=RR (.ref s2.heap.objs.size) s3.heap.objs.size) (loop tk) (T.self X.A 0 { s3 with heap:=h₁,toks:=tk } (fun it' s'=>codeAny (model X.prog X.w) X.A (.compLoop (.ListComp elt [⟨tg,iter,ifs,0⟩] scope pos) 0 it' (.ref s2.heap.objs.size) (compEnvC scope (Dc X.env scope.names []) s3.heap.objs.size X.env)) (RR (.ref s2.heap.objs.size) s3.heap.objs.size) s') _ st3 (loop tk))
 subst hs3
 exact key _
theorem Sd {tg:Expr} {pos:Pos} {iter elt:Expr} {ifs:List Expr} {wi:TI} {g:TG} {tt:TT} {te:TE} (hc:X.calm=true) (S:Eg X x z scope) (hi:PI X tg iter wi) (hg:∀ C s₀ H₀ fp,PG (Bk X x z scope C s₀ H₀ fp) tg g)
  (ht:∀ C s₀ H₀ fp,Mt (Bk X x z scope C s₀ H₀ fp) ifs tt) (he:∀ C s₀ H₀ fp,PE (Bk X x z scope C s₀ H₀ fp) elt te) (hs:∀ x,foldedSetIterable iter X.env x=pure x:=by intro _; rfl) :
  PE X (.ListComp elt [⟨tg,iter,ifs,0⟩] scope pos) (Sx wi g tt te):=by
 intro pins s σ H Q I h
 rw [eval_ListComp]
 refine wpAny_comprehension_free (use:=none) (cl:=Dc X.env scope.names []) rfl hs (Hg fun y hy hk=>I.ok.has y.1 (S.free y hy hk)) S.kind S.names (CN (hi pins s σ H _ I h) fun v s1 h1=>CN h1 fun itv s2 h2=>?_)
 obtain ⟨it,fp,tn,J,H2,e,I2,T,st2,f2,q⟩:=h2
 subst e
 refine MK (RR:=fun acc C=>compPost (model X.prog X.w) X.A X.xe none (EP X pins σ Q) acc C) (Q:=Q) hc S hg ht he I2 T st2 f2 q ?_
 intro D C s' H' m hn hf hI hq
 exact ⟨m,hn,fun h' sb=>⟨.ref D,H',hI.sameBut hf sb,rfl,hq⟩⟩
end
end L2
namespace L2
open PySem PySem.Spec PySem.Calls PyProof.Rows
theorem An.tup {K:PySem.W.Frag} {H H':Hp} {a:Addr} {xs:List V} (e:An H H') (h:Hf K H a xs):Hf K H' a xs:=by
 rcases h with (h | ⟨o,h⟩) | h
 ·exact .inl (.inl (e _ _ h))
 ·exact .inl (.inr ⟨o,e _ _ h⟩)
 ·exact .inr h
noncomputable def TupAt (H:Hp) (zs:List V) (y:V):Prop:=∃ T,y=.ref T/\H T=some (.tup zs)
theorem TupAt.mono {H H':Hp} {zs:List V} {y:V} (s:An H H') (h:TupAt H zs y):TupAt H' zs y:=let ⟨T,e,q⟩:=h; ⟨T,e,s _ _ q⟩
theorem TupAt.upd {H:Hp} {zs ys ws:List V} {y:V} {D:Addr} (h:TupAt H zs y) (hD:H D=some (.lst ys)):TupAt (upd H D (.lst ws)) zs y:=by
 obtain ⟨T,e,q⟩:=h
 refine ⟨T,e,?_⟩
 rw [BP fun z=>by rw [z,hD] at q; cases q]
 exact q
theorem By {α:Type} {H:Hp} {f:α->List V} {l:List α} {vs ys ws:List V} {D:Addr} (h:Paired (fun a y=>TupAt H (f a) y) l vs) (hD:H D=some (.lst ys)):Paired (fun a y=>TupAt (upd H D (.lst ws)) (f a) y) l vs:=Paired.Fb h fun _ _ q=>q.upd hD
theorem Al {α:Type} {H H':Hp} {f:α->List V} {l:List α} {vs:List V} (s:An H H') (h:Paired (fun a y=>TupAt H (f a) y) l vs):Paired (fun a y=>TupAt H' (f a) y) l vs:=Paired.Fb h fun _ _ q=>q.mono s
noncomputable def Mi (x z:Str) (scope osc:Scope) (N:List Str):Bool :=
 (scope.kind == .function) && scope.names.all (fun y=>y.2 != .cell && (y.2 != .local || scope.names.lookup y.1 == some .local) && (y.2 != .free || osc.names.lookup y.1 == some .cell || osc.names.lookup y.1 == some .free)) && (scope.names.lookup x == some .local) && (scope.names.lookup z == some .local) &&
 decide ((x::z::N).Nodup) && N.all (fun y=>scope.names.lookup y != some .local)
theorem J1 {X:Cx} {x z:Str} {scope osc:Scope} {N:List Str} (hsc:X.env.scope=osc) (hN:X.N=N) (h:Mi x z scope osc N=true):Eg X x z scope:=by
 unfold Mi at h
 simp only [Bool.and_eq_true] at h
 obtain ⟨⟨⟨⟨⟨h1,h2⟩,h3⟩,h3'⟩,h4⟩,h5⟩:=h
 rw [List.all_eq_true] at h2 h5
 have kind:∀ y,X.env.kindOf y=osc.names.lookup y:=fun y=>by show X.env.scope.names.lookup y=_; rw [hsc]
 refine ⟨by simpa using h1,fun y hy=>?_,fun y hy hk=>?_,by simpa using h3,by simpa using h3',fun y hy hk=>?_,by rw [hN]; exact of_decide_eq_true h4,fun y hy=>?_⟩
 ·have:=h2 y hy
  simp only [Bool.and_eq_true,bne_iff_ne] at this
  exact this.1.1
 ·have:=h2 y hy
  simp only [Bool.and_eq_true] at this
  simpa [hk] using this.1.2
 ·have:=h2 y hy
  simp only [Bool.and_eq_true] at this
  rw [kind]
  simpa [hk] using this.2
 ·have:=h5 y (by rw [← hN]; exact hy)
  simpa using this
section
variable {X:Cx} {x z:Str} {scope:Scope}
theorem U_ {px pz pos:Pos} {k:Nat} {C:Addr} {s₀:Shared} {H₀:Hp} {fp:List Addr} (hc:X.calm=true) (S:Eg X x z scope) :
  PG (Bk X x z scope C s₀ H₀ fp) (.Tuple [.Name x px,.Name z pz] k pos) (Sh X.K 2 (H_ (Dg 0) (H_ (Dg 1) Tu))):=by
 have l1:(Bk X x z scope C s₀ H₀ fp).env.scope.names.lookup x=some .local:=lookup_relabel_local S.loc
 have l2:(Bk X x z scope C s₀ H₀ fp).env.scope.names.lookup z=some .local:=lookup_relabel_local S.loz
 exact Fz (X:=Bk X x z scope C s₀ H₀ fp) (n:=2) hc (Bf (Bd (X:=Bk X x z scope C s₀ H₀ fp) (i:=0) S.nd rfl (.inl l1) (.inr l1)) (Bf (Bd (X:=Bk X x z scope C s₀ H₀ fp) (i:=1) S.nd rfl (.inl l2) (.inr l2)) Ea))
theorem O8 {px pz tpos:Pos} {k:Nat} {pos:Pos} {iter elt:Expr} {ifs:List Expr} {wi:TI} {tt:TT} {te:TE} (hc:X.calm=true) (S:Eg X x z scope) (hi:PI X (.Tuple [.Name x px,.Name z pz] k tpos) iter wi)
  (ht:∀ C s₀ H₀ fp,Mt (Bk X x z scope C s₀ H₀ fp) ifs tt) (he:∀ C s₀ H₀ fp,PE (Bk X x z scope C s₀ H₀ fp) elt te) (hs:∀ x,foldedSetIterable iter X.env x=pure x:=by intro _; rfl) :
  PE X (.ListComp elt [⟨.Tuple [.Name x px,.Name z pz] k tpos,iter,ifs,0⟩] scope pos) (Sx wi (Sh X.K 2 (H_ (Dg 0) (H_ (Dg 1) Tu))) tt te) :=
 Sd hc S hi (fun _ _ _ _=>U_ hc S) ht he hs
end
section
variable {σ:St} {H1:Hp} {Q:VK} {tt:TT} {te:TE}
theorem Cp {K:PySem.W.Frag} {a:Addr} {xs:List V} (p:V->Bool) (f:V->V) (hl:CP K H1 a xs) (hz:xs.length<sizeLine)
  (ht:∀ x∈xs,∀ H,An H1 H->∀ R:Bool->Hp->Prop,(∀ H',An H H'->R (p x) H')->tt (some x::σ) H R)
  (he:∀ x∈xs,p x=true->∀ H,An H1 H->∀ R:VK,(∀ H',An H H'->R (f x) H')->te (some x::σ) H R)
  (hq:∀ D H,H1 D=none->An H1 H->H D=some (.lst ((xs.filter p).map f))->Q (.ref D) H):Gx (Wk K a) σ H1 Q tt te :=
 IK p f hz (fun i H x hs hx=>⟨xs,x,hs.seq hl,hx⟩) (fun i H y H' hs _ hy=>⟨hy.1,hy.2 xs (hs.seq hl)⟩) (fun H hs=>⟨xs,hs.seq hl,Nat.le_refl _⟩) ht he hq
theorem Kh {J:It} {xs:List V} (p:V->Bool) (f:V->List V) (hz:xs.length<sizeLine)
  (hgo:∀ i H x,An H1 H->xs[i]? = some x->J.go i H) (hy:∀ i H y H',An H1 H->i<xs.length->J.yld i H y H'->H'=H/\xs[i]? = some y) (hstop:∀ H,An H1 H->J.stop xs.length H)
  (ht:∀ x∈xs,∀ H,An H1 H->∀ R:Bool->Hp->Prop,(∀ H',An H H'->R (p x) H')->tt (some x::σ) H R)
  (he:∀ x∈xs,p x=true->∀ H,An H1 H->∀ R:VK,(∀ y H',An H H'->TupAt H' (f x) y->R y H')->te (some x::σ) H R)
  (hq:∀ D H ys,H1 D=none->An H1 H->H D=some (.lst ys)->Paired (fun x y=>TupAt H (f x) y) (xs.filter p) ys->Q (.ref D) H):Gx J σ H1 Q tt te:=by
 intro D hD
 have s0:An H1 (upd H1 D (.lst [])):=fun b o e=>by rw [BP (A_ e hD)]; exact e
 refine ⟨fun i m ys H=>m=xs.length - i/\i<=xs.length/\H D=some (.lst ys)/\Paired (fun x y=>TupAt H (f x) y) ((xs.take i).filter p) ys/\An H1 H,⟨xs.length,by simp,Nat.zero_le _,Aj,by simpa using Paired.nil,s0⟩,?_⟩
 rintro i m ys H ⟨rfl,hi,hd,hp,hs⟩
 by_cases hlt:i<xs.length
 ·obtain ⟨x,hx⟩:∃ x,xs[i]? = some x:=⟨xs[i],by simp [hlt]⟩
  refine .inr ⟨hgo i H x hs hx,fun y H3 hyl=>?_⟩
  obtain ⟨rfl,hy'⟩:=hy i H y H3 hs hlt hyl
  rw [hx] at hy'
  cases hy'
  have hm:x∈xs:=List.mem_of_getElem? hx
  have hlen:ys.length<sizeLine:=by
   rw [← hp.length]
   refine Nat.lt_of_le_of_lt (List.length_filter_le _ _) (Nat.lt_of_le_of_lt ?_ hz)
   rw [List.length_take]; omega
  refine ht x hm _ hs _ fun H4 s4=>?_
  by_cases hpx:p x=true
  ·rw [if_pos hpx]
   refine he x hm hpx H4 (hs.trans s4) _ fun y H5 s5 hφ=>?_
   refine ⟨s5 _ _ (s4 _ _ hd),hlen,xs.length - (i+1),by omega,rfl,hlt,Aj,?_,fun b o e=>?_⟩
   ·rw [take_succ_filter p xs i x hx,if_pos hpx]
    exact (By (Al (s4.trans s5) hp) (s5 _ _ (s4 _ _ hd))).snoc (hφ.upd (s5 _ _ (s4 _ _ hd)))
   ·rw [BP (A_ e hD)]; exact s5 _ _ (s4 _ _ (hs _ _ e))
  ·rw [if_neg hpx]
   refine ⟨xs.length - (i+1),by omega,rfl,hlt,s4 _ _ hd,?_,hs.trans s4⟩
   rw [take_succ_filter p xs i x hx,if_neg hpx,List.append_nil]
   exact Al s4 hp
 ·have e:i=xs.length:=by omega
  subst e
  rw [List.take_length] at hp
  exact .inl ⟨hstop H hs,hq D H ys hD hs hd hp⟩
theorem Jk {K:PySem.W.Frag} {a:Addr} {xs:List V} (p:V->Bool) (f:V->List V) (hl:CP K H1 a xs) (hz:xs.length<sizeLine)
  (ht:∀ x∈xs,∀ H,An H1 H->∀ R:Bool->Hp->Prop,(∀ H',An H H'->R (p x) H')->tt (some x::σ) H R)
  (he:∀ x∈xs,p x=true->∀ H,An H1 H->∀ R:VK,(∀ y H',An H H'->TupAt H' (f x) y->R y H')->te (some x::σ) H R)
  (hq:∀ D H ys,H1 D=none->An H1 H->H D=some (.lst ys)->Paired (fun x y=>TupAt H (f x) y) (xs.filter p) ys->Q (.ref D) H):Gx (Wk K a) σ H1 Q tt te :=
 Kh p f hz (fun i H x hs hx=>⟨xs,x,hs.seq hl,hx⟩) (fun i H y H' hs _ hy=>⟨hy.1,hy.2 xs (hs.seq hl)⟩) (fun H hs=>⟨xs,hs.seq hl,Nat.le_refl _⟩) ht he hq
theorem K9 {α β:Type} {F:α->β->Prop} (g:Nat->α):∀ {n:Nat} {l:List α} {ys:List β},Paired F l ys->l=(List.range n).map g->Paired (fun i y=>F (g i) y) (List.range n) ys:=by
 intro n
 have key:∀ (js:List Nat) (ys:List β),Paired F (js.map g) ys->Paired (fun i y=>F (g i) y) js ys:=by
  intro js
  induction js with
  | nil=>intro ys h; cases h; exact .nil
  | cons j js ih =>
   intro ys h
   cases h with
   | cons a b=>exact .cons a (ih _ b)
 intro l ys h e
 subst e
 exact key _ _ h
theorem Ko {n:Nat} (f:Nat->List V) (hz:n<sizeLine)
  (he:∀ i:Nat,i<n->∀ H,An H1 H->∀ R:VK,(∀ y H',An H H'->TupAt H' (f i) y->R y H')->te (some (.int (i:Int))::σ) H R)
  (hq:∀ D H ys,H1 D=none->An H1 H->H D=some (.lst ys)->Paired (fun i y=>TupAt H (f i) y) (List.range n) ys->Q (.ref D) H):Gx (Wj 0 n) σ H1 Q Ux te:=by
 let g:V->Nat:=fun v=>match v with | .int i=>i.toNat | _=>0
 have hxs:∀ i:Nat,i<n->((List.range n).map fun (i:Nat)=>V.int (i:Int))[i]? = some (.int i):=fun i hi=>by simp [hi]
 refine Kh (xs:=(List.range n).map fun (i:Nat)=>V.int (i:Int)) (fun _=>true) (fun v=>f (g v)) (by simpa using hz) (fun i H x _ hx=>?_) (fun i H y H' _ hi hy=>?_) (fun H _=>?_) (fun x hx H hs R k=>k H (An.refl H)) (fun x hx _ H hs R k=>?_) (fun D H ys h1 h2 h3 h4=>?_)
 ·have:i<((List.range n).map fun (i:Nat)=>V.int (i:Int)).length:=(List.getElem?_eq_some_iff.mp hx).1
  show i<n
  simpa using this
 ·obtain ⟨e1,e2⟩:=hy
  have hi':i<n:=by simpa using hi
  refine ⟨e1,?_⟩
  rw [hxs i hi',e2,Int.zero_add]
 ·show n<=_
  simp
 ·obtain ⟨i,hi,rfl⟩:=List.mem_map.mp hx
  exact he i (List.mem_range.mp hi) H hs R k
 ·rw [List.filter_eq_self.mpr (fun _ _=>rfl)] at h4
  exact hq D H ys h1 h2 h3 (K9 (F:=fun x y=>TupAt H (f (g x)) y) (fun i=>V.int (i:Int)) h4 rfl)
theorem R1 {K:PySem.W.Frag} {a b:Addr} {xs ys:List V} (f:V->V->V) (hx:Hf K H1 a xs) (hy:Hf K H1 b ys) (hl:xs.length=ys.length) (hz:xs.length<sizeLine)
  (he:∀ (i:Nat) x y,xs[i]? = some x->ys[i]? = some y->∀ H,An H1 H->∀ R:VK,(∀ H',An H H'->R (f x y) H')->te (some x::some y::σ) H R)
  (hq:∀ D H,H1 D=none->An H1 H->H D=some (.lst (List.zipWith f xs ys))->Q (.ref D) H):JZ (jD K a b) σ H1 Q (Sh K 2 (H_ (Dg 0) (H_ (Dg 1) Tu))) Ux te:=by
 intro D hD
 have s0:An H1 (upd H1 D (.lst [])):=fun b o e=>by rw [BP (A_ e hD)]; exact e
 refine ⟨fun i m zs H=>m=xs.length - i/\i<=xs.length/\zs=(List.zipWith f xs ys).take i/\H D=some (.lst zs)/\An H1 H,⟨xs.length,by simp,Nat.zero_le _,by simp,Aj,s0⟩,?_⟩
 rintro i m zs H ⟨rfl,hi,rfl,hd,hs⟩
 have hzl:(List.zipWith f xs ys).length=xs.length:=by rw [List.length_zipWith]; omega
 by_cases hlt:i<xs.length
 ·have ex:xs[i]? = some xs[i]:=List.getElem?_eq_getElem hlt
  have ey:ys[i]? = some ys[i]:=List.getElem?_eq_getElem (hl ▸ hlt)
  refine .inr ⟨⟨xs,ys,_,_,hs.tup hx,hs.tup hy,ex,ey⟩,fun v H3 hv v0 v1=>?_⟩
  obtain ⟨T,hT,rfl,hv⟩:=hv
  obtain ⟨x,y,qx,qy,rfl⟩:=hv xs ys (hs.tup hx) (hs.tup hy)
  have s3:An H (upd H T (.tup [x,y])):=fun b o e=>by rw [BP (A_ e hT)]; exact e
  refine ⟨T,[x,y],rfl,.inl (.inl Aj),rfl,x,[y],rfl,y,[],rfl,rfl,⟨_,_,rfl⟩,?_⟩
  unfold Ux
  dsimp only
  rw [if_pos rfl]
  refine he i x y qx qy _ (hs.trans s3) _ fun H5 s5=>?_
  refine ⟨s5 _ _ (s3 _ _ hd),?_,xs.length - (i+1),by omega,rfl,hlt,?_,Aj,fun b o e=>?_⟩
  ·rw [List.length_take,hzl]
   omega
  ·rw [List.take_add_one,List.getElem?_zipWith,qx,qy]
   rfl
  ·rw [BP (A_ e hD)]
   exact s5 _ _ (s3 _ _ (hs _ _ e))
 ·have e:i=xs.length:=by omega
  subst e
  rw [← hzl,List.take_length] at hd
  exact .inl ⟨⟨xs,hs.tup hx,Nat.le_refl _⟩,hq D H hD hs hd⟩
theorem QR {K:PySem.W.Frag} {a:Addr} {xs:List V} (p:Nat->V->Bool) (f:Nat->V->V) (hx:CP K H1 a xs) (hz:xs.length<sizeLine)
  (ht:∀ (i:Nat) x,xs[i]? = some x->∀ H,An H1 H->∀ R:Bool->Hp->Prop,(∀ H',An H H'->R (p i x) H')->tt (some (.int (i:Int))::some x::σ) H R)
  (he:∀ (i:Nat) x,xs[i]? = some x->p i x=true->∀ H,An H1 H->∀ R:VK,(∀ H',An H H'->R (f i x) H')->te (some (.int (i:Int))::some x::σ) H R)
  (hq:∀ D H,H1 D=none->An H1 H->H D=some (.lst ((xs.zipIdx.filter fun q=>p q.2 q.1).map fun q=>f q.2 q.1))->Q (.ref D) H):JZ (YF K a) σ H1 Q (Sh K 2 (H_ (Dg 0) (H_ (Dg 1) Tu))) tt te:=by
 intro D hD
 have s0:An H1 (upd H1 D (.lst [])):=fun b o e=>by rw [BP (A_ e hD)]; exact e
 refine ⟨fun i m zs H=>m=xs.length - i/\i<=xs.length/\zs=(((xs.zipIdx.take i).filter fun q=>p q.2 q.1).map fun q=>f q.2 q.1)/\H D=some (.lst zs)/\An H1 H,⟨xs.length,by simp,Nat.zero_le _,by simp,Aj,s0⟩,?_⟩
 rintro i m zs H ⟨rfl,hi,rfl,hd,hs⟩
 by_cases hlt:i<xs.length
 ·have ex:xs[i]? = some xs[i]:=List.getElem?_eq_getElem hlt
  refine .inr ⟨⟨xs,_,hs.seq hx,ex⟩,fun v H3 hv v0 v1=>?_⟩
  obtain ⟨T,hT,rfl,hv⟩:=hv
  obtain ⟨x,qx,rfl⟩:=hv xs (hs.seq hx)
  have s3:An H (upd H T (.tup [.int (i:Int),x])):=fun b o e=>by rw [BP (A_ e hT)]; exact e
  have ez:xs.zipIdx[i]? = some (x,i):=by rw [List.getElem?_zipIdx,qx]; simp
  have hlen:(((xs.zipIdx.take i).filter fun q=>p q.2 q.1).map fun q=>f q.2 q.1).length<sizeLine:=by
   rw [List.length_map]
   refine Nat.lt_of_le_of_lt (List.length_filter_le _ _) (Nat.lt_of_le_of_lt ?_ hz)
   rw [List.length_take,List.length_zipIdx]; omega
  refine ⟨T,[.int (i:Int),x],rfl,.inl (.inl Aj),rfl,_,[x],rfl,x,[],rfl,rfl,⟨_,_,rfl⟩,?_⟩
  refine ht i x qx _ (hs.trans s3) _ fun H4 s4=>?_
  by_cases hp:p i x=true
  ·rw [if_pos hp]
   refine he i x qx hp _ (hs.trans (s3.trans s4)) _ fun H5 s5=>?_
   refine ⟨s5 _ _ (s4 _ _ (s3 _ _ hd)),hlen,xs.length - (i+1),by omega,rfl,hlt,?_,Aj,fun b o e=>?_⟩
   ·rw [take_succ_filter (fun q:V × Nat=>p q.2 q.1) xs.zipIdx i (x,i) ez,if_pos hp,List.map_append]
    rfl
   ·rw [BP (A_ e hD)]
    exact s5 _ _ (s4 _ _ (s3 _ _ (hs _ _ e)))
  ·rw [if_neg hp]
   refine ⟨xs.length - (i+1),by omega,rfl,hlt,?_,s4 _ _ (s3 _ _ hd),hs.trans (s3.trans s4)⟩
   rw [take_succ_filter (fun q:V × Nat=>p q.2 q.1) xs.zipIdx i (x,i) ez,if_neg hp,List.append_nil]
 ·have e:i=xs.length:=by omega
  subst e
  rw [List.take_of_length_le (by simp)] at hd
  exact .inl ⟨⟨xs,hs.seq hx,Nat.le_refl _⟩,hq D H hD hs hd⟩
end
theorem IV {K:PySem.W.Frag} {a:Addr} {xs:List V} {g:TG} {tb:TS} {D:Ends} {σ:St} {H:Hp} (Pv:Nat->St->Hp->Prop) (h0:Pv 0 σ H) (hl:∀ i σ H,i<=xs.length->Pv i σ H->CP K H a xs)
  (hb:∀ (i:Nat) x σ H T,xs[i]? = some x->Pv i σ H->H T=none->g (.ref T) σ (upd H T (.tup [.int (i:Int),x])) fun σ' H'=>tb { D with nx:=Pv (i+1),ct:=Pv (i+1),bk:=D.nx } σ' H')
  (hn:∀ σ H,Pv xs.length σ H->D.nx σ H):∃ W:Nat->Nat->St->Hp->Prop,(∃ m,W 0 m σ H)/\∀ i m σ H,W i m σ H ->
   ((YF K a).stop i H/\D.nx σ H) \/ ((YF K a).go i H/\∃ N:St->Hp->Prop,(∀ σ H,N σ H->∃ m',m'<m/\W (i+1) m' σ H)/\∀ x H',(YF K a).yld i H x H'->g x σ H' fun σ' H''=>tb { D with nx:=N,ct:=N,bk:=D.nx } σ' H''):=by
 refine ⟨fun i m σ H=>m=xs.length - i/\i<=xs.length/\Pv i σ H,⟨_,rfl,Nat.zero_le _,h0⟩,?_⟩
 rintro i m σ H ⟨rfl,hi,hp⟩
 by_cases hlt:i<xs.length
 ·refine .inr ⟨⟨xs,_,hl i σ H hi hp,List.getElem?_eq_getElem hlt⟩,Pv (i+1),fun σ' H' h=>⟨xs.length - (i+1),by omega,rfl,hlt,h⟩,fun v H' hv=>?_⟩
  obtain ⟨T,hT,rfl,hv⟩:=hv
  obtain ⟨x,qx,rfl⟩:=hv xs (hl i σ H hi hp)
  exact hb i x σ H T qx hp hT
 ·have e:i=xs.length:=by omega
  subst e
  exact .inl ⟨⟨xs,hl _ σ H hi hp,Nat.le_refl _⟩,hn σ H hp⟩
end L2
namespace L2
open PySem PySem.Spec PySem.Calls PyProof.Rows
section
variable {prog:Program} {w:World} {A:Around} {E:Value->Shared->Prop} {s:Shared} {K:PySem.W.Frag} {x C:Addr} {ox:Obj} {od:Option Obj} {name:Str} {tk:Tok} {R:Result->Shared->Prop}
end
end L2
namespace L2
open PySem PySem.Spec PySem.Calls PyProof.Rows
section
variable {prog:Program} {w:World} {A:Around} {E:Value->Shared->Prop} {K:PySem.W.Frag} {C:Addr} {h:Heap} {g:Array GenState} {d:Drawn} {t:Nat} {os:OsState}
end
end L2
namespace L2
open PySem PySem.Spec PySem.Calls PyProof.Rows
noncomputable def Zm (x C:Addr) (od:Option Addr):HO:=.ext fun h=>∃ (d:Data) (sl:Array (Option Value)),h.get? x=some ⟨.ref C,od,d,sl⟩/\PySem.W.notCls ⟨.ref C,od,d,sl⟩=true
noncomputable def kY (dx:Addr) (fs:List (Str × V)):HO:=.ext fun h=>∃ mA,h.Ns1 dx mA/\∀ f,Gs (fs.lookup f) (mA f)
section
variable {P:Program} {w:World} {H H':Hp} {h:Heap} {x C dx:Addr} {od:Option Addr} {fs:List (Str × V)}
inductive Vv (H:Hp) (x C:Addr):List (Str × V)->Prop where
 | bare (e:H x=some (Zm x C none)):Vv H x C []
 | full {dx:Addr} {fs:List (Str × V)} (e:H x=some (Zm x C (some dx))) (d:H dx=some (kY dx fs)):Vv H x C fs
end
section
variable {P:Program} {w:World} {X:Cx} {pins:List (Addr × Obj)} {σ:St} {H:Hp} {s:Shared} {h':Heap} {a:Addr} {o:HO}
end
section
variable {X:Cx} {C:Addr} {x:Str} {e:Expr} {es:List Expr} {t:TA} {p pos:Pos}
end
section
variable {X:Cx} {e:Expr} {f:Str} {pos:Pos} {ta:TE}
end
section
variable {prog:Program} {w:World} {A:Around} {E:Value->Shared->Prop} {s:Shared} {K:PySem.W.Frag} {x C:Addr} {name:Str} {v:Value} {R:Result->Shared->Prop} {d:Data} {sl:Array (Option Value)}
end
section
variable {X:Cx} {pins:List (Addr × Obj)} {σ:St} {H:Hp} {s:Shared} {h':Heap} {x C dx:Addr} {f:Str} {y:V} {u:Value}
end
section
variable {X:Cx} {o value:Expr} {f:Str} {pos pos':Pos} {ta tv:TE}
end
section
variable {X:Cx} {C f:Addr} {fd:FuncData} {ps:List Str} {sp:Sp} {k:Nat} {x:Str} {e:Expr} {es:List Expr} {t:TA} {p pos:Pos}
end
section
variable {X:Cx}
end
end L2
namespace Wd
noncomputable def mk (l:List Nat):Nat:=l.foldl (fun s n=>s ||| 2 ^ n) 0
theorem QD (l:List Nat):∀ (s i:Nat),(l.foldl (fun s n=>s ||| 2 ^ n) s).testBit i=(s.testBit i || decide (i∈l)):=by
 induction l with
 | nil=>intro s i; simp
 | cons n l ih =>
  intro s i
  rw [List.foldl_cons,ih,Nat.testBit_or,Nat.testBit_two_pow]
  by_cases h:n=i
  ·subst h; simp
  ·have h':¬ i=n:=fun e=>h e.symm
   simp [h,h']
theorem JK (l:List Nat) (i:Nat):(mk l).testBit i=decide (i∈l):=by
 unfold mk; rw [QD]; simp
noncomputable def len (n:Nat):Nat:=if n=0 then 0 else n.log2+1
theorem RW {n i:Nat} (h:n.testBit i=true):i<len n:=by
 unfold len
 have h0:n ≠ 0:=by intro e; subst e; simp at h
 rw [if_neg h0]
 have h1:2 ^ i<=n:=Nat.ge_two_pow_of_testBit h
 have h2:i<=n.log2:=(Nat.le_log2 h0).mpr h1
 omega
noncomputable def mem (n:Nat):List Nat:=(List.range (len n)).filter n.testBit
theorem mem_iff {n i:Nat}:i∈mem n ↔ n.testBit i=true:=by
 unfold mem
 rw [List.mem_filter,List.mem_range]
 exact ⟨fun h=>h.2,fun h=>⟨RW h,h⟩⟩
theorem Lb {n k:Nat} (h:n<2 ^ k):len n<=k:=by
 unfold len
 split
 ·omega
 ·rename_i h0
  have:n.log2<k:=(Nat.log2_lt h0).mpr h
  omega
noncomputable def mv (n:Nat) (k:Int) (c:Nat):Nat:=(if 0<k then n * 2 ^ k.toNat else n / 2 ^ (-k).toNat) % 2 ^ c
theorem Jf (n:Nat) (k:Int) (c i:Nat):(mv n k c).testBit i=(decide (i<c) && (decide (0<=(i:Int) - k) && n.testBit ((i:Int) - k).toNat)):=by
 unfold mv
 rw [Nat.testBit_mod_two_pow]
 congr 1
 split
 ·rename_i h
  rw [Nat.testBit_mul_two_pow]
  by_cases h1:k.toNat<=i
  ·have e:((i:Int) - k).toNat=i - k.toNat:=by omega
   have e2:(0:Int)<=i - k:=by omega
   rw [decide_eq_true e2,e]; simp [h1]
  ·have e2:¬ (0:Int)<=i - k:=by omega
   rw [decide_eq_false e2]; simp [h1]
 ·rename_i h
  rw [Nat.testBit_div_two_pow]
  have e:((i:Int) - k).toNat=i+(-k).toNat:=by omega
  have e2:(0:Int)<=i - k:=by omega
  rw [decide_eq_true e2,e]; simp
noncomputable def stay (l:List Nat) (k:Int) (c:Nat):List Nat:=l.filter fun n=>decide (0<=(n:Int)+k) && decide ((n:Int)+k<c)
theorem aF {l:List Nat} (hb:∀ n∈l,n<1200):mk l<2 ^ 1200:=by
 refine Nat.lt_pow_two_of_testBit _ fun i hi=>?_
 rw [JK]
 exact decide_eq_false fun h=>absurd (hb i h) (by omega)
theorem VJ (l:List Nat) (n:Nat):mk (l++[n])=mk l ||| 2 ^ n:=by
 unfold mk; rw [List.foldl_append]; rfl
end Wd
namespace L2
open PySem PySem.Spec PySem.Calls PyProof.Rows
theorem Ld:∀ {xs:List V} {us:List Value},xs.length=us.length->(∀ (j:Nat) x u,xs[j]? = some x->us[j]? = some u->RelV x u)->Vals xs us
 | [],[],_,_=>.nil
 | [],_::_,h,_=>by simp at h
 | _::_,[],h,_=>by simp at h
 | x::xs,u::us,h,f=>.cons (f 0 x u rfl rfl) (Ld (by simpa using h) fun j y v hy hv=>f (j+1) y v (by simpa using hy) (by simpa using hv))
noncomputable def Rh (K:PySem.W.Frag) (a b:Addr):It :=
 ⟨fun i H=>∃ xs ys x y,CP K H a xs/\CP K H b ys/\xs[i]? = some x/\ys[i]? = some y,fun i H v H'=>∃ T,H T=none/\v=.ref T/\∀ xs ys,CP K H a xs->CP K H b ys->∃ x y,xs[i]? = some x/\ys[i]? = some y/\H'=upd H T (.tup [x,y]),
  fun i H=>∃ xs ys,CP K H a xs/\CP K H b ys/\(xs.length<=i \/ ys.length<=i)⟩
theorem Qj {P:Program} {w:World} {K:PySem.W.Frag} {es:List Expr} {k1:Nat} {pos:Pos} (a b n:Nat) (ha:a<n) (hb:b<n) :
  Turn P w K (.Tuple es k1 pos) (Rh K a b) [n,n+1,n+2,n+3,n+4] (n+4) (fun i h=>IsZip h (n+4) (n+2) (n+3) .none/\IsPair h (n+2) (.ref n) (.ref (n+1))/\(∃ x y,IsPair h (n+3) x y)/\h.IsListIter n a i/\h.IsListIter (n+1) b i) where
 mem:=by simp
 obj:=fun i h st c hc=>by
  obtain ⟨hz,hI,⟨x,y,hO⟩,⟨o1,e1,_,d1⟩,⟨o2,e2,_,d2⟩⟩:=st
  refine RC (P:=fun c=>∃ o,h.get? c=some o/\∀ v,o.data ≠ .cell v) ⟨_,e1,fun v z=>?_⟩ ⟨_,e2,fun v z=>?_⟩ ⟨_,hI,fun v z=>?_⟩ ⟨_,hO,fun v z=>?_⟩ ⟨_,hz,fun v z=>?_⟩ hc
  ·rw [d1] at z; cases z
  ·rw [d2] at z; cases z
  ·have z':Data.seq _ _=Data.cell v:=z
   cases z'
  ·have z':Data.seq _ _=Data.cell v:=z
   cases z'
  ·have z':Data.fields _=Data.cell v:=z
   cases z'
 keep:=fun i h h' st k=>by
  obtain ⟨hz,hI,⟨x,y,hO⟩,j1,j2⟩:=st
  exact ⟨k _ (by simp) _ hz,k _ (by simp) _ hI,⟨x,y,k _ (by simp) _ hO⟩,j1.at fun o q=>k _ (by simp) o q,j2.at fun o q=>k _ (by simp) o q⟩
 item:=by
  intro X hP hw hK hc i pins s σ H E I hf st hg
  subst hP hw hK
  obtain ⟨xs,ys,x,y,q1,q2,hx,hy⟩:=hg
  obtain ⟨it1,r1,p1,_⟩:=I.list q1
  obtain ⟨it2,r2,p2,_⟩:=I.list q2
  obtain ⟨u,hu,ru⟩:=r1.get hx
  obtain ⟨v,hv,rv⟩:=r2.get hy
  obtain ⟨hz,hI,⟨x0,y0,hO⟩,j1,j2⟩:=st
  have D:=Lk ha hb
  have sz:n+4<s.heap.objs.size:=Heap.lt_size hz
  refine wpAny_pyNext_zip_item D hz hI hO j1 j2 p1.isList p2.isList (x:=u) (y:=v) (by simpa using hu) (by simpa using hv) fun h1 n1 n2 n3 n4 n5 n6 n7=>?_
  refine ⟨_,rfl,wpAny_letOwnedTupleGo_zip (s:={ s with heap:=h1 }) n1 fun h2 m1 m2=>?_⟩
  have fr:H s.heap.objs.size=none:=I.hok.fresh (Nat.le_refl _)
  have nw:Ce X.prog X.w (upd H s.heap.objs.size (.tup [x,y])) h2 s.heap.objs.size (.tup [x,y]) :=
   ⟨by show 2<=sizeLine; decide,[u,v],.cons ru (.cons rv .nil),_,m2.extBut _ _ (Nat.ne_of_gt sz) n5,rfl,_,rfl⟩
  have hI2:IsPair h1 (n+2) (.ref n) (.ref (n+1)):=n7 _ _ D.TIz D.TITO D.TIi1 D.TIi2 hI
  refine ⟨.ref s.heap.objs.size,_,I.Ja (t':=s.toks) (ch:=[n,n+1,n+2,n+3,n+4]) hf (fun c o hc q=>?_) (Nat.le_refl _) nw,rfl,⟨_,fr,rfl,fun xs' ys' h1 h2=>⟨x,y,by rw [I.Hw h1 q1]; exact hx,by rw [I.Hw h2 q2]; exact hy,rfl⟩⟩,
   ⟨m1,m2.extBut _ _ D.TIz hI2,⟨u,v,m2.extBut _ _ D.TOz n2⟩,n3.at fun o q=>m2.extBut _ _ D.i1z q,n4.at fun o q=>m2.extBut _ _ D.i2z q⟩,fun c hc=>?_⟩
  ·have z:∀ d,d∈[n,n+1,n+2,n+3,n+4]->c ≠ d:=fun d hd q=>hc (q ▸ hd)
   exact m2.extBut _ _ (z _ (by simp)) (n7 c o (z _ (by simp)) (z _ (by simp)) (z _ (by simp)) (z _ (by simp)) q)
  ·rw [BP ?_]
   ·exact (hf c hc).1
   ·have lt:c<=n+4:=RC (P:=fun c=>c<=n+4) (by omega) (by omega) (by omega) (by omega) (Nat.le_refl _) hc
    exact Nat.ne_of_lt (Nat.lt_of_le_of_lt lt sz)
 done:=by
  intro X hP hw hK hc i pins s σ H E I hf st hg
  subst hP hw hK
  obtain ⟨xs,ys,q1,q2,hx⟩:=hg
  obtain ⟨it1,r1,p1,_⟩:=I.list q1
  obtain ⟨it2,r2,p2,_⟩:=I.list q2
  obtain ⟨hz,hI,⟨x0,y0,hO⟩,j1,j2⟩:=st
  have D:=Lk ha hb
  have l1:=r1.length
  have l2:=r2.length
  refine wpAny_pyNext_zip_end (I.ok.hd hc) D hz hI hO j1 j2 p1.isList p2.isList (by rcases hx with h | h; exact .inl (by simp; omega); exact .inr (by simp; omega)) fun h1 k1=>?_
  refine ⟨rfl,I.K_ (t':=s.toks) (ch:=[n,n+1,n+2,n+3,n+4]) hf fun c o hc q=>?_⟩
  have z:∀ d,d∈[n,n+1,n+2,n+3,n+4]->c ≠ d:=fun d hd q=>hc (q ▸ hd)
  exact k1 c o (z _ (by simp)) (z _ (by simp)) (z _ (by simp)) (z _ (by simp)) q
 self:=fun _ _ _ _ _ st h=>wpAny_pyIter_zip st.1 h
section
variable {X:Cx} {es:List Expr} {k1:Nat} {tpos:Pos}
noncomputable def Zo (K:PySem.W.Frag) (ta:TA):TI:=fun σ H R=>ta σ H fun vs H1=>∃ a b,vs=[.ref a,.ref b]/\(∃ xs,CP K H1 a xs)/\(∃ ys,CP K H1 b ys)/\R (Rh K a b) H1
theorem Vf {x y:Expr} {ta:TA} {p pos:Pos} (hg:Gl X "zip") (hm:X.mg "zip" = none) (ha:PA X [x,y] ta) (hs:starEach [x,y] X.env=[(false,eval x X.env),(false,eval y X.env)]:=by rfl) (hs2:starEach [y] X.env=[(false,eval y X.env)]:=by rfl) :
  PI X (.Tuple es k1 tpos) (.Call (.Name "zip" p) [x,y] [] pos) (Zo X.K ta):=by
 intro pins s σ H R I h
 refine Call_ (Ft I hg hm boot_zip (PyProof.Rows.callWith_type1 (CN (ha pos pins s σ H _ I h) fun us s1 ⟨vs,H1,I1,r1,q1⟩=>?_) (by rw [hs,hs2]) (by rw [hs2]; rfl)))
 obtain ⟨a,b,e,⟨xs,q1⟩,⟨ys,q2⟩,q⟩:=q1
 subst e
 obtain ⟨u,v,rfl,ru,rv⟩:=Vals.two r1
 cases ru
 cases rv
 obtain ⟨it1,r1,p1,_⟩:=I1.list q1
 obtain ⟨it2,r2,p2,_⟩:=I1.list q2
 have l1:a<s1.heap.objs.size:=by obtain ⟨_,e,_⟩:=p1.isList; exact Heap.lt_size e
 have l2:b<s1.heap.objs.size:=by obtain ⟨_,e,_⟩:=p2.isList; exact Heap.lt_size e
 refine call_zip_2 p1.isList p2.isList fun h1 n1 n2 n3 n4 n5 n6 n7=>?_
 refine wpAny_pyIter_zip (s:={ s1 with heap:=h1 }) n1 ?_
 refine ⟨_,[s1.heap.objs.size,s1.heap.objs.size+1,s1.heap.objs.size+2,s1.heap.objs.size+3,s1.heap.objs.size+4],_,_,H1,rfl,I1.kept (t':=s1.toks) n7,Qj a b s1.heap.objs.size l1 l2,⟨n1,n2,⟨_,_,n3⟩,n4,n5⟩,fun c hc=>?_,q⟩
 have lt:s1.heap.objs.size<=c:=RC (P:=fun c=>s1.heap.objs.size<=c) (by omega) (by omega) (by omega) (by omega) (by omega) hc
 exact I1.KQ lt (I1.hok.fresh lt)
theorem R0 {K:PySem.W.Frag} {a b:Addr} {xs ys:List V} {g:TG} {tb:TS} {D:Ends} {σ:St} {H:Hp} (Pv:Nat->St->Hp->Prop) (h0:Pv 0 σ H) (hl:∀ i σ H,i<=xs.length->Pv i σ H->CP K H a xs/\CP K H b ys)
  (hb:∀ (i:Nat) x y σ H T,xs[i]? = some x->ys[i]? = some y->Pv i σ H->H T=none->g (.ref T) σ (upd H T (.tup [x,y])) fun σ' H'=>tb { D with nx:=Pv (i+1),ct:=Pv (i+1),bk:=D.nx } σ' H')
  (hn:∀ i σ H,Pv i σ H->D.nx σ H):∃ W:Nat->Nat->St->Hp->Prop,(∃ m,W 0 m σ H)/\∀ i m σ H,W i m σ H ->
   ((Rh K a b).stop i H/\D.nx σ H) \/ ((Rh K a b).go i H/\∃ N:St->Hp->Prop,(∀ σ H,N σ H->∃ m',m'<m/\W (i+1) m' σ H)/\∀ x H',(Rh K a b).yld i H x H'->g x σ H' fun σ' H''=>tb { D with nx:=N,ct:=N,bk:=D.nx } σ' H''):=by
 refine ⟨fun i m σ H=>m=xs.length - i/\i<=xs.length/\Pv i σ H,⟨_,rfl,Nat.zero_le _,h0⟩,?_⟩
 rintro i m σ H ⟨rfl,hi,hp⟩
 obtain ⟨q1,q2⟩:=hl i σ H hi hp
 by_cases hlt:i<xs.length/\i<ys.length
 ·refine .inr ⟨⟨xs,ys,_,_,q1,q2,List.getElem?_eq_getElem hlt.1,List.getElem?_eq_getElem hlt.2⟩,Pv (i+1),fun σ' H' h=>⟨xs.length - (i+1),by omega,rfl,hlt.1,h⟩,fun v H' hv=>?_⟩
  obtain ⟨T,hT,rfl,hv⟩:=hv
  obtain ⟨x,y,qx,qy,rfl⟩:=hv xs ys q1 q2
  exact hb i x y σ H T qx qy hp hT
 ·exact .inl ⟨⟨xs,ys,q1,q2,by omega⟩,hn i σ H hp⟩
theorem Jq (hc:X.calm=true):Fg X (.type "list") (fun xs H Q=>∃ (a:Addr) (kvs:List (Key × V)) (js:List Int),xs=[V.ref a]/\H a=some (.dK kvs)/\kvs.map (·.1)=js.map Sum.inl/\∀ l,H l=none->Q (.ref l) (upd H l (.lst (js.map V.int)))):=by
 intro pins s σ H xs us Q I r h
 obtain ⟨a,kvs,js,rfl,ha,hj,q⟩:=h
 obtain ⟨u,rfl,ru⟩:=vals1 r
 cases ru
 obtain ⟨hz,lo,vs,rel,o,es,ep,e1,e2,e3,e4,e5,e6⟩:=I.hok a _ ha
 have hl:kvs.length=vs.length:=Paired.length rel
 have hda:s.heap.DictAt (Cj X.prog X.w) a vs ep:=⟨o,es,e1,e2,e3,e4,e5,e6⟩
 refine PySem.W.kdl_call (PySem.W.kdl_dict (knd:=Cj X.prog X.w) (kvs:=vs) (ep:=ep) lo) (I.ok.hd hc) hda (by omega) ?_
 intro h' tk acc' c' hk hD hacc
 have hjl:js.length=vs.length:=by
  have:=congrArg List.length hj
  rw [List.length_map,List.length_map] at this
  omega
 have hv:Vals (js.map V.int) acc'.toList:=by
  refine Ld (by have h1:acc'.toList.length=acc'.size:=Array.length_toList; have h2:=hacc.1; rw [List.length_map]; omega) fun j x u hx hu=>?_
  rw [Array.getElem?_toList] at hu
  obtain ⟨k,y,hk1,hk2⟩:=hacc.2 j u hu
  rw [List.getElem?_map] at hx
  obtain ⟨i,hi,rfl⟩:=Option.map_eq_some_iff.mp hx
  have e1:(kvs.map (·.1))[j]? = some (Sum.inl i):=by rw [hj,List.getElem?_map,hi]; rfl
  rw [List.getElem?_map] at e1
  obtain ⟨kv,hkv,ekv⟩:=Option.map_eq_some_iff.mp e1
  have rel':∀ {l:List (Key × V)} {m:List (Key × Value)},KV l m->∀ {j:Nat} {p q},l[j]? = some p->m[j]? = some q->p.1=q.1:=by
   intro l m h
   unfold KV at h
   induction h with
   | nil=>intro j p q hp; simp at hp
   | cons a b ih =>
    intro j p q hp hq
    cases j with
    | zero =>
     simp at hp hq
     subst hp hq
     exact a.1
    | succ j=>exact ih (by simpa using hp) (by simpa using hq)
  have e2:=rel' rel hkv hk1
  rw [ekv] at e2
  have e3:k=Sum.inl i:=e2.symm
  subst e3
  rcases Cg (show Jb (Sum.inl i) u=true from hk2) with ⟨i',t,e,rfl⟩ | ⟨x,t,e,_⟩
  ·cases e
   exact ⟨t,rfl⟩
  ·cases e
 refine ⟨.ref s.heap.objs.size,_,I.laid (t':=tk) (o:=.lst (js.map V.int)) hk (Nat.le_refl _) ⟨by rw [List.length_map]; omega,acc'.toList,c',hv,by simpa using hD⟩,rfl,q _ (I.hok.fresh (Nat.le_refl _))⟩
theorem Mr:dh X "int.bit_length" (fun x xs H Q=>∃ i,x=V.int i/\xs=[]/\Q (.int (Builtin.Int.intBits i)) H):=by
 intro pins s σ H x xs v us Q I rx r h
 obtain ⟨i,rfl,rfl,q⟩:=h
 obtain ⟨t,rfl⟩:=rx
 cases r
 exact PyProof.Rows.call_int_bit_length ⟨.int _,H,I.tok _,⟨_,rfl⟩,q⟩
end
theorem K5 (a b:Nat):Builtin.bitOr (a:Int) (b:Int)=((a ||| b:Nat):Int):=by
 have h1:¬ 0<=Builtin.bitNot (a:Int):=by unfold Builtin.bitNot; omega
 have h2:¬ 0<=Builtin.bitNot (b:Int):=by unfold Builtin.bitNot; omega
 have nn:∀ x:Int,Builtin.bitNot (Builtin.bitNot x)=x:=fun x=>by unfold Builtin.bitNot; omega
 unfold Builtin.bitOr
 rw [bitAnd_nn h1 h2,nn,nn,nn]
 simp
theorem Mm (a b:Nat):Builtin.bitAnd (a:Int) (b:Int)=((a &&& b:Nat):Int):=by
 rw [bitAnd_pp (Int.natCast_nonneg a) (Int.natCast_nonneg b)]
 simp
theorem Iu (n:Nat):Builtin.Int.intBits (n:Int)=Wd.len n:=by
 unfold Builtin.Int.intBits Wd.len
 by_cases h:n=0
 ·subst h; rfl
 ·have h':((n:Int) == 0)=false:=by simpa using h
  rw [h',if_neg h]
  simp
theorem Gz (k:Nat):(2:Int) ^ k=((2 ^ k:Nat):Int):=by simp
end L2
namespace Wd
open PySem
noncomputable abbrev Va (xs:Array Nat):Prop:=xs.toList.Pairwise (· < ·)
theorem Nq {xs:Array Nat} (r:Va xs) {i k:Nat} (h:i<k) (hk:k<xs.size):xs.getD i 0<xs.getD k 0:=by
 have hi:i<xs.size:=Nat.lt_trans h hk
 have:=(List.pairwise_iff_getElem.mp r) i k (by simpa using hi) (by simpa using hk) h
 simpa [Array.getD,hi,hk] using this
structure Cut (xs:Array Nat) (j p:Nat):Prop where
 le:p<=xs.size
 lo:∀ i,i<p->xs.getD i 0<j
 hi:∀ i,p<=i->i<xs.size->j<=xs.getD i 0
theorem Je {xs:Array Nat} (r:Va xs) (j:Nat):∀ (fuel lo hi:Nat),hi<=xs.size->hi - lo<=fuel->lo<=hi->(∀ i,i<lo->xs.getD i 0<j)->(∀ i,hi<=i->i<xs.size->j<=xs.getD i 0)->Cut xs j (SetTable.below.go xs j fuel lo hi)
 | 0,lo,hi,h1,h2,h3,a,b=>by
  have e:lo=hi:=by omega
  subst e
  exact ⟨h1,a,b⟩
 | fuel+1,lo,hi,h1,h2,h3,a,b=>by
  unfold SetTable.below.go
  split
  ·rename_i hlt
   have hm:(lo+hi) / 2<xs.size:=by omega
   have e:xs.getD ((lo+hi) / 2) j=xs.getD ((lo+hi) / 2) 0:=by simp [Array.getD,hm]
   dsimp only
   rw [e]
   by_cases hj:xs.getD ((lo+hi) / 2) 0<j
   ·rw [if_pos hj]
    refine Je r j fuel ((lo+hi) / 2+1) hi h1 (by omega) (by omega) (fun i hi'=>?_) b
    by_cases q:i=(lo+hi) / 2
    ·rw [q]; exact hj
    ·have:=Nq r (i:=i) (k:=(lo+hi) / 2) (by omega) hm
     omega
   ·rw [if_neg hj]
    refine Je r j fuel lo ((lo+hi) / 2) (by omega) (by omega) (by omega) a fun i hi' hs=>?_
    by_cases q:i=(lo+hi) / 2
    ·rw [q]; omega
    ·have:=Nq r (i:=(lo+hi) / 2) (k:=i) (by omega) hs
     omega
  ·have e:lo=hi:=by omega
   subst e
   exact ⟨h1,a,b⟩
theorem KZ {xs:Array Nat} (r:Va xs) (j:Nat):Cut xs j (SetTable.below xs j) :=
 Je r j xs.size 0 xs.size (Nat.le_refl _) (by omega) (Nat.zero_le _) (fun i h=>absurd h (Nat.not_lt_zero _)) (fun i h1 h2=>absurd h2 (by omega))
theorem Nt {xs:Array Nat} {j:Nat} (r:Va xs) (h:xs[SetTable.below xs j]? ≠ some j):j ∉ xs.toList:=fun hm=>by
 have c:=KZ r j
 obtain ⟨i,hi,e⟩:=List.mem_iff_getElem.mp hm
 have hi':i<xs.size:=by simpa using hi
 have ei:xs.getD i 0=j:=by simpa [Array.getD,hi'] using e
 have h1:SetTable.below xs j<=i:=by
  rcases Nat.lt_or_ge i (SetTable.below xs j) with q | q
  ·have:=c.lo i q; omega
  ·exact q
 have h2:SetTable.below xs j<xs.size:=Nat.lt_of_le_of_lt h1 hi'
 have h3:=c.hi _ (Nat.le_refl _) h2
 have h4:SetTable.below xs j=i:=by
  rcases Nat.lt_or_ge (SetTable.below xs j) i with q | q
  ·have:=Nq r q hi'; omega
  ·omega
 refine h ?_
 have e':xs[i]=j:=by simpa [Array.getD,hi'] using ei
 rw [h4,Array.getElem?_eq_getElem hi',e']
theorem OD {xs:Array Nat} {j:Nat} (r:Va xs) (h:xs[SetTable.below xs j]? ≠ some j):Va (SetTable.insertAt xs (SetTable.below xs j) j):=by
 have c:=KZ r j
 have nm:=Nt r h
 show (SetTable.insertAt xs (SetTable.below xs j) j).toList.Pairwise _
 rw [SetTable.toList_insertAt,List.pairwise_append,List.pairwise_cons]
 have lt1:∀ a∈xs.toList.take (SetTable.below xs j),a<j:=fun a ha=>by
  obtain ⟨i,hi,e⟩:=List.mem_iff_getElem.mp ha
  rw [List.length_take] at hi
  have hi2:i<xs.size:=by simp at hi; omega
  have:=c.lo i (by omega)
  simp [Array.getD,hi2] at this
  rw [List.getElem_take] at e
  rw [← e]
  simpa using this
 have lt2:∀ a∈xs.toList.drop (SetTable.below xs j),j<a:=fun a ha=>by
  obtain ⟨i,hi,e⟩:=List.mem_iff_getElem.mp ha
  rw [List.length_drop] at hi
  have hi2:SetTable.below xs j+i<xs.size:=by simp at hi; omega
  have:=c.hi (SetTable.below xs j+i) (Nat.le_add_right _ _) hi2
  simp [Array.getD,hi2] at this
  rw [List.getElem_drop] at e
  have hle:j<=a:=by rw [← e]; simpa using this
  have hne:j ≠ a:=fun z=>nm (by rw [z]; exact List.mem_of_mem_drop ha)
  omega
 exact ⟨r.sublist (List.take_sublist _ _),⟨lt2,r.sublist (List.drop_sublist _ _)⟩,fun a ha b hb=>by
  rcases List.mem_cons.mp hb with e | hb
  ·rw [e]; exact lt1 a ha
  ·have:=lt1 a ha; have:=lt2 b hb; omega⟩
theorem Qn {t:SetTable} {j:Nat} (h:∀ i,t.slot j ≠ .live i):t.place[SetTable.below t.place j]? ≠ some j:=fun e=>by
 refine h (SetTable.below t.place j) ?_
 unfold SetTable.slot
 dsimp only
 rw [e]
 simp
theorem HX (t:SetTable) (p:SetTable.Probe):(t.advance p).dummy=p.dummy:=by
 unfold SetTable.advance
 split <;> rfl
theorem Hk {t:SetTable} {f:Nat->Int} {h:Int}:∀ (fuel:Nat) (p:SetTable.Probe) (j:Nat) (dm:Option Nat),(∀ d,p.dummy=some d->t.slot d=.dummy)->SetTable.probe.go t f h fuel p=some (.empty j dm) ->
  t.slot j=.empty/\∀ d,dm=some d->t.slot d=.dummy
 | 0,p,j,dm,hd,e=>by unfold SetTable.probe.go at e; cases e
 | fuel+1,p,j,dm,hd,e=>by
  unfold SetTable.probe.go at e
  split at e
  ·rename_i hs
   cases e
   exact ⟨hs,hd⟩
  ·rename_i hs
   refine Hk fuel _ j dm (fun d q=>?_) e
   rw [HX] at q
   cases q
   exact hs
  ·split at e
   ·cases e
   ·refine Hk fuel _ j dm (fun d q=>?_) e
    rw [HX] at q
    exact hd d q
theorem QW {t:SetTable} {h:Int} {j:Nat} {d:Bool} (e:t.freeSlot h=some (j,d)):∀ i,t.slot j ≠ .live i:=by
 unfold SetTable.freeSlot at e
 split at e
 ·rename_i j' dm q
  unfold SetTable.probe at q
  obtain ⟨h1,h2⟩:=Hk _ _ _ _ (fun d hd=>by simp [SetTable.probeStart] at hd) q
  cases dm with
  | none=>cases e; intro i z; rw [show (none:Option Nat).getD j'=j' from rfl,h1] at z; cases z
  | some d' =>
   cases e
   intro i z
   rw [show (some d').getD j'=d' from rfl,h2 d' rfl] at z
   cases z
 ·cases e
structure Good (t:SetTable) (led:Bool):Prop where
 led:t.led=led
 ris:t.plain=true->Va t.place
theorem Ny (led:Bool):Good (.fresh 0 0 led) led:=⟨rfl,fun _=>by simp [SetTable.fresh,Va]⟩
theorem Gd {t:SetTable} {led:Bool} (g:Good t led) (n:Nat):Good (t.standIn n) led:=⟨g.led,fun h=>by simp [SetTable.standIn] at h⟩
theorem Vm {t:SetTable} {led:Bool} (g:Good t led) (n:Nat):Good (t.orStandIn n) led:=by
 unfold SetTable.orStandIn
 split
 ·exact g
 ·exact Gd g n
theorem Su {t:SetTable} {led:Bool} (g:Good t led) (es:Array (Int × Value)) (h:Int) (x:Value):Good (layNew t es h x).2.1 led:=by
 unfold layNew
 split
 ·rename_i slot wd e
  refine Vm (t:=(t.put slot).1) ⟨g.led,fun hp=>?_⟩ _
  exact OD (g.ris hp) (Qn (QW e))
 ·exact Gd g _
theorem Qm {mask finger moves:Nat} {led plain:Bool} {hs:Array Int} {t:SetTable} {o:Array Nat} (e:SetTable.laid mask finger moves led plain hs=some (t,o)):Good t led/\t.plain=plain:=by
 unfold SetTable.laid at e
 simp only [Option.bind_eq_bind,Option.bind_eq_some_iff] at e
 obtain ⟨owner,_,e⟩:=e
 cases e
 refine ⟨⟨rfl,fun _=>?_⟩,rfl⟩
 show List.Pairwise _ ((List.map _ _).toArray).toList
 rw [List.pairwise_map,List.pairwise_filterMap]
 refine List.pairwise_lt_range.imp fun {a b} hab x hx y hy=>?_
 obtain ⟨u,_,rfl⟩:=Option.map_eq_some_iff.mp hx
 obtain ⟨v,_,rfl⟩:=Option.map_eq_some_iff.mp hy
 exact hab
theorem Nb {t:SetTable} {led:Bool} (g:Good t led) (es:Array (Int × Value)) (n:Nat):Good (relayAll t es n).2.1 led:=by
 unfold relayAll
 split
 ·rename_i t' order e
  dsimp only
  split
  ·have:=Qm e
   rw [g.led] at this
   exact this.1
  ·exact Gd g _
 ·exact Gd g _
end Wd
namespace Wd
open PySem PySem.Spec PyProof.Rows
noncomputable def Ib (prog:Program) (w:World) (h:Heap) (a:Addr) (led:Bool) (σ:List Int):Prop :=
 ∃ es ep t,h.get? a=some { cls:=.type "set",dict:=none,data:=.set es ep t }/\ElemsOf (intKind prog w) es.toList/\(∀ k,k∈σ ↔ ∃ e∈es.toList,(intKind prog w).is k e.2=true)/\es.size=σ.length/\σ.Nodup /\
  σ.length<scanBound/\t.fits es.size=true/\Good t led
noncomputable def Gf (σ:List Int) (k:Int):List Int:=if k∈σ then σ else σ++[k]
section
variable {prog:Program} {w:World} {A:Around} {E:Value->Shared->Prop} {s:Shared} {a:Addr} {led:Bool} {σ:List Int} {k:Int} {tk:Tok}
theorem PX {h:Heap} {es es':Array (Int × Value)} {ep:Nat} {t t':SetTable} (ho:h.get? a=some { cls:=.type "set",dict:=none,data:=.set es ep t }) :
  (h.update a (Obj.putSet es' t')).get? a=some { cls:=.type "set",dict:=none,data:=.set es' (ep+1) t' } :=
 (Heap.get?_update_self (Obj.putSet es' t') ho (by rw [putSet_of es' t' rfl]; rfl)).trans (by rw [putSet_of es' t' rfl])
theorem aX {Q:Bool->Shared->Prop} (hS:Ib prog w s.heap a led σ) (room:σ.length+1<scanBound)
  (h:∀ b h',Heap.SameBut a s.heap h'->Ib prog w h' a led (Gf σ k)->Q b { s with heap:=h' }):wpAny (model prog w) A (setAddHashed a (.int k tk) ((intKind prog w).hash k)) Q E s:=by
 obtain ⟨es,ep,t,ho,hel,hmem,hn,nd,hb,hf,g⟩:=hS
 have hkey:(intKind prog w).is k (.int k tk)=true:=intKind_is _ _ _ _
 have hbe:es.size<scanBound:=by rw [hn]; exact hb
 unfold setAddHashed setAddHashedIn
 refine wpAny_holding (wpAny_bind (wpAny_setState_of ho rfl hf ?_))
 dsimp only
 rw [byScan_of rfl hbe hel,if_pos rfl]
 unfold setAddByScan
 refine wpAny_bind (wpAny_bind (wpAny_rule (wpAny_bind (wpAny_setScan_of hkey ho rfl hf hel ?_))))
 cases hr:List.findIdx? (fun e=>(intKind prog w).is k e.2) es.toList with
 | some j =>
  obtain ⟨hj,hpj,_⟩:=List.findIdx?_eq_some_iff_getElem.mp hr
  have hk:k∈σ:=(hmem k).mpr ⟨_,List.getElem_mem hj,hpj⟩
  refine wpAny_pure (wpAny_pure ?_)
  have:=h false s.heap (Heap.SameBut.refl a s.heap) (by unfold Gf; rw [if_pos hk]; exact ⟨es,ep,t,ho,hel,hmem,hn,nd,hb,hf,g⟩)
  exact this
 | none =>
  have hk:k ∉ σ:=fun q=>by
   obtain ⟨e,he,hp⟩:=(hmem k).mp q
   have:=List.findIdx?_eq_none_iff.mp hr e he
   rw [hp] at this
   cases this
  dsimp only
  have hperm:=layNew_perm t es ((intKind prog w).hash k) (.int k tk)
  have hfits:=layNew_fits t es ((intKind prog w).hash k) (.int k tk)
  have hgood:=Su g es ((intKind prog w).hash k) (.int k tk)
  generalize layNew t es ((intKind prog w).hash k) (.int k tk)=L at hperm hfits hgood ⊢
  obtain ⟨es1,t1,wd,gave⟩:=L
  dsimp only at hperm hfits hgood ⊢
  rw [Array.toList_push] at hperm
  have hel1:ElemsOf (intKind prog w) es1.toList:=(hel.push hkey rfl).perm hperm
  have sz1:es1.size=(σ++[k]).length:=by
   have:=hperm.length_eq
   simp only [List.length_append,Array.length_toList,List.length_singleton] at this
   simp only [List.length_append,List.length_singleton]
   omega
  have mem1:∀ k',k'∈σ++[k] ↔ ∃ e∈es1.toList,(intKind prog w).is k' e.2=true:=fun k'=>by
   have:=mem_push_iff (knd:=intKind prog w) (S:=fun k'=>decide (k'∈σ)) hkey (fun k'=>by rw [decide_eq_true_eq]; exact hmem k') hperm k'
   rw [← this]
   simp
  have nd1:(σ++[k]).Nodup:=List.nodup_append.mpr ⟨nd,by simp,fun x hx y hy=>by
   rw [List.mem_singleton.mp hy]
   intro q
   exact hk (q ▸ hx)⟩
  have hb1:(σ++[k]).length<scanBound:=by simp only [List.length_append,List.length_singleton]; exact room
  have hb1':es1.size<scanBound:=by rw [sz1]; exact hb1
  have fin:∀ (es2:Array (Int × Value)) (t2:SetTable) (ep2:Nat) (h2:Heap),Heap.SameBut a s.heap h2->h2.get? a=some { cls:=.type "set",dict:=none,data:=.set es2 ep2 t2 }->es2.toList.Perm es1.toList->t2.fits es2.size=true->Good t2 led ->
    Q true { s with heap:=h2 }:=fun es2 t2 ep2 h2 sb e2 p2 f2 g2=>by
   refine h true h2 sb ?_
   unfold Gf
   rw [if_neg hk]
   refine ⟨es2,ep2,t2,e2,hel1.perm p2,fun k'=>(mem1 k').trans ⟨fun ⟨e,he,q⟩=>⟨e,p2.mem_iff.mpr he,q⟩,fun ⟨e,he,q⟩=>⟨e,p2.mem_iff.mp he,q⟩⟩,?_,nd1,hb1,f2,g2⟩
   rw [← Array.length_toList,p2.length_eq,Array.length_toList,sz1]
  have tail:∀ (t2:SetTable),t2.fits es1.size=true->Good t2 led->wpAny (model prog w) A (do
    storeSet a es1 t2
    if (!wd && t2.tooFull)=true then do
      (match (relayAll t2 es1 (SetTable.grown es1.size)).2.2 with | true=>rule "set.scan.the-table-gave-way" | false=>pure ())
      storeSet a (relayAll t2 es1 (SetTable.grown es1.size)).1 (relayAll t2 es1 (SetTable.grown es1.size)).2.1
      pure (some true)
     else pure (some true)) (fun r s'=>match r with | some b=>Q b s' | none=>False) E s:=fun t2 f2 g2=>by
   refine wpAny_bind (wpAny_storeSet_of ho rfl ?_ (fits_of_scanBound hb1'))
   have sb1:=Heap.SameBut.update s.heap a (Obj.putSet es1 t2)
   have e1:=PX (es':=es1) (t':=t2) ho
   split
   ·have hp:=relayAll_perm t2 es1 (SetTable.grown es1.size)
    have hq:=relayAll_fits t2 es1 (SetTable.grown es1.size)
    have hg:=Nb g2 es1 (SetTable.grown es1.size)
    generalize relayAll t2 es1 (SetTable.grown es1.size)=R at hp hq hg ⊢
    obtain ⟨es2,t3,gv⟩:=R
    dsimp only at hp hq hg ⊢
    have hb2:es2.size<scanBound:=by rw [← Array.length_toList,hp.length_eq,Array.length_toList]; exact hb1'
    have last:wpAny (model prog w) A (do storeSet a es2 t3; pure (some true)) (fun r s'=>match r with | some b=>Q b s' | none=>False) E { s with heap:=s.heap.update a (Obj.putSet es1 t2) }:=by
     refine wpAny_bind (wpAny_storeSet_of e1 rfl ?_ (fits_of_scanBound hb2))
     exact wpAny_pure (fin es2 t3 _ _ (sb1.trans (Heap.SameBut.update _ a _)) (PX e1) hp hq hg)
    cases gv
    ·exact wpAny_bind (wpAny_pure last)
    ·exact wpAny_bind (wpAny_rule last)
   ·exact wpAny_pure (fin es1 t2 _ _ sb1 e1 (List.Perm.refl _) f2 g2)
  have tail':∀ (t2:SetTable),t2.fits es1.size=true->Good t2 led->wpAny (model prog w) A (do
    storeSet a es1 t2
    if (!wd && t2.tooFull)=true then do
      (match (relayAll t2 es1 (SetTable.grown es1.size)).2.2 with | true=>rule "set.scan.the-table-gave-way" | false=>pure ())
      storeSet a (relayAll t2 es1 (SetTable.grown es1.size)).1 (relayAll t2 es1 (SetTable.grown es1.size)).2.1
      pure (some true)
     else pure (some true)) (fun r s'=>wpAny (model prog w) A (match r with | some added=>pure added | none=>setAddHashedIn a (.int k tk) ((intKind prog w).hash k) 99999) Q E s') E s:=fun t2 f2 g2 =>
   wpAny_mono (tail t2 f2 g2) (fun r s' q=>by
    cases r with
    | none=>exact q.elim
    | some b=>exact wpAny_pure q) fun _ _ e=>e
  have mid:wpAny (model prog w) A (do
    let byValue ← if t1.plain then hashByValue 8 (.int k tk) else pure true
    let t2:=if byValue=true then t1 else { t1 with plain:=false }
    storeSet a es1 t2
    if (!wd && t2.tooFull)=true then do
      (match (relayAll t2 es1 (SetTable.grown es1.size)).2.2 with | true=>rule "set.scan.the-table-gave-way" | false=>pure ())
      storeSet a (relayAll t2 es1 (SetTable.grown es1.size)).1 (relayAll t2 es1 (SetTable.grown es1.size)).2.1
      pure (some true)
     else pure (some true)) (fun r s'=>wpAny (model prog w) A (match r with | some added=>pure added | none=>setAddHashedIn a (.int k tk) ((intKind prog w).hash k) 99999) Q E s') E s:=by
   split
   ·rw [hashByValue_scannable 8 rfl]
    exact wpAny_bind (wpAny_pure (tail' t1 hfits hgood))
   ·exact wpAny_bind (wpAny_pure (tail' t1 hfits hgood))
  cases gave
  ·exact wpAny_bind (wpAny_pure mid)
  ·exact wpAny_bind (wpAny_rule mid)
end
end Wd
namespace Wd
open PySem PySem.Spec PyProof.Rows
theorem Ib.keep {prog:Program} {w:World} {h h':Heap} {a:Addr} {led:Bool} {σ:List Int} (g:Ib prog w h a led σ) (k:∀ o,h.get? a=some o->h'.get? a=some o):Ib prog w h' a led σ :=
 let ⟨es,ep,t,e,r⟩:=g; ⟨es,ep,t,k _ e,r⟩
theorem Sg (σ:List Int) (k:Int):(Gf σ k).length<=σ.length+1:=by
 unfold Gf
 split
 ·omega
 ·simp
theorem Kg:∀ (ns:List Int) (σ:List Int),(ns.foldl Gf σ).length<=σ.length+ns.length
 | [],σ=>by simp
 | k::ns,σ=>by
  have h1:=Kg ns (Gf σ k)
  have h2:=Sg σ k
  simp only [List.foldl_cons,List.length_cons]
  omega
section
variable {prog:Program} {w:World} {A:Around} {R:Result->Shared->Prop} {I:Addr} {fp wr:List Addr} {G:Array GenState->Array GenState->Prop} {n:Nat} {P:Nat->Value->Prop} {St:Nat->Shared->Prop} {led:Bool}
theorem Wx (W:WalksS prog w A.in1 I fp wr G n P St) (S:Addr) (hSf:S ∉ fp) (ns:List Int) (hn:ns.length=n) (hval:∀ i v,P i v->∃ t,v=.int (ns.getD i 0) t) (hb:n+1<scanBound) :
  ∀ (k i:Nat) (s:Shared),n - i=k->i<=n->St i s->Ib prog w s.heap S led ((ns.take i).foldl Gf []) ->
   (∀ s',Moved (S::wr) G s s'->Ib prog w s'.heap S led (ns.foldl Gf [])->R (.ok (.ret .none)) s')->codeAny (model prog w) A (.builtin "set.update.loop" ⟨[.ref S,.ref I],[]⟩) R s:=by
 have nw:S ∉ wr:=fun z=>hSf (W.sub _ z)
 have up:∀ b∈wr,b∈S::wr:=fun b z=>List.mem_cons_of_mem _ z
 intro k
 induction k with
 | zero =>
  intro i s hk hi st g hR
  obtain rfl:i=n:=by omega
  refine codeAny_builtin F.entry_set_update_loop ?_
  rw [Around.under_plainId F.plain_set_update_loop _]
  refine wpAny_bind (W.done s _ _ st fun s' m=>wpAny_pure (hR s' (m.mono up) ?_))
  rw [List.take_of_length_le (by omega)] at g
  exact g.keep fun o e=>m.heap S o nw e
 | succ k ih =>
  intro i s hk hi st g hR
  have lt:i<n:=by omega
  refine codeAny_builtin F.entry_set_update_loop ?_
  rw [Around.under_plainId F.plain_set_update_loop _]
  refine wpAny_bind (W.item i s _ _ lt st fun v s' p st' m=>?_)
  obtain ⟨t,rfl⟩:=hval i v p
  have g':=g.keep (h':=s'.heap) fun o e=>m.heap S o nw e
  refine wpAny_bind (wpAny_holding (wpAny_holding (wpAny_bind ((intKind prog w).pyHash (k:=ns.getD i 0) (intKind_is _ _ _ _) ?_))))
  have room:((ns.take i).foldl Gf []).length+1<scanBound:=by
   have:=Kg (ns.take i) []
   rw [List.length_take] at this
   simp at this
   omega
  have tk:ns.take (i+1)=ns.take i++[ns.getD i 0]:=by
   have hl:i<ns.length:=by omega
   rw [List.take_add_one,List.getElem?_eq_getElem hl]
   simp [hl]
  refine aX (s:={ s' with toks:=s'.toks+1 }) g' room fun b h' sb g2=>?_
  have g3:Ib prog w h' S led ((ns.take (i+1)).foldl Gf []):=by
   rw [tk,List.foldl_append]
   exact g2
  refine wpAny_pure ⟨plainId_quiet F.plain_set_update_loop _,ih (i+1) _ (by omega) lt (W.frame _ s' _ _ st' (Nat.le_succ _) fun b hb o e=>?_) g3 fun s'' m2 g4=>?_⟩
  ·rw [sb.2 b (fun z:b=S=>hSf (z ▸ hb))]
   exact e
  ·refine hR s'' (Moved.trans W.gtrans ((m.mono up).then_heap (Nat.le_succ _) fun b o hb e=>?_) m2) g4
   rw [sb.2 b (fun z:b=S=>hb (by rw [z]; exact List.mem_cons_self))]
   exact e
end
section
variable {prog:Program} {w:World} {A:Around} {E:Value->Shared->Prop} {s:Shared}
noncomputable abbrev El (w:World):Bool:=!w.params.followText "set-order"
theorem Ve (h:Heap):Ib prog w (h.push { cls:=.type "set",dict:=none,data:=.set #[] 0 (.fresh 0 0 (El w)) }) h.objs.size (El w) [] :=
 ⟨#[],0,_,Heap.get?_push_size _ rfl,fun e he=>by simp at he,fun k=>by simp,rfl,.nil,by decide,by rfl,Ny _⟩
theorem ak (a:Value) {Q1:Value->Shared->Prop} (h:Q1 (.ref s.heap.objs.size) { s with heap:=s.heap.push { cls:=.type "set",dict:=none,data:=.set #[] 0 (.fresh 0 0 (El w)) } }) :
  codeAny (model prog w) A (.call (.builtin "set.__new__") ⟨[.type "set",a],[]⟩) (wants Q1 E) s:=by
 refine codeAny_of_tree ?_
 show wpAny _ A.in1 (do checkBuiltinCall "set.__new__" ⟨[.type "set",a],[]⟩; again (.builtin "set.__new__" ⟨[.type "set",a],[]⟩)) _ _ s
 refine wpAny_bind (wpAny_of_eq (F.newCall_set_1 a) (wpAny_pure ⟨plainId_quiet F.plain_set_new _,codeAny_builtin F.entry_set_new ?_⟩))
 rw [Around.under_plainId F.plain_set_new _]
 unfold Builtin.«set.__new__» Builtin.Frozenset.newClass
 have hsub:=sub_set_self
 obtain ⟨hp,g,d,tk,os⟩:=s
 dsimp only
 wp_walk
 refine wpAny_askSetting (wpAny_pure ?_)
 dsimp only
 simp only [newObj]
 exact wpAny_bind (wpAny_alloc (wpAny_pure (wpAny_pure h)))
set_option maxHeartbeats 4000000 in
theorem Zw {l:Addr} {items:Array Value} {ns:List Int} {Q:Value->Shared->Prop} (hh:A.handled=none) (hl:s.heap.IsList l items) (hi:IntsAre items.toList ns) (hb:ns.length+1<scanBound)
  (h:∀ h' tk,Ib prog w h' s.heap.objs.size (El w) (ns.foldl Gf [])->(∀ b o,s.heap.get? b=some o->h'.get? b=some o)->Q (.ref s.heap.objs.size) { s with heap:=h',toks:=tk }) :
  wpAny (model prog w) A (call (.type "set") [.ref l]) Q E s:=by
 obtain ⟨c,tl,hmro⟩:=F.called_set.mro
 have hmade:=F.called_set.made
 have hsub:=F.called_set.sub
 have hlen:items.size=ns.length:=by rw [← IntsAre.length hi]; simp
 refine wpAny_call (codeAny_of_tree ?_)
 show wpAny _ _ (callAny (.type "set") _) _ _ _
 refine wpAny_pure ⟨Code.quiet_builtin _ (by decide +kernel),codeAny_builtin F.entry_type_call ?_⟩
 rw [Around.under_plain (weight_type_call_type "set" [.ref l] []) rfl]
 have h1:=F.called_set.notType
 have h2:=F.called_set.canCreate
 have hct:=F.typeCall_set_1 (.ref l)
 repeat (any_goals (first | assumption | wp_step))
 refine codeAny_mono (ak (.ref l) (E:=E) (Q1:=fun obj s1=>obj=.ref s.heap.objs.size/\s1 = { s with heap:=s.heap.push { cls:=.type "set",dict:=none,data:=.set #[] 0 (.fresh 0 0 (El w)) } }) ⟨rfl,rfl⟩) fun r s1 hr=>?_
 rcases r with e | fl
 ·exact hr
 obtain ⟨obj,rfl,hr⟩:∃ obj,fl=.ret obj/\(obj=.ref s.heap.objs.size/\s1 = { s with heap:=s.heap.push { cls:=.type "set",dict:=none,data:=.set #[] 0 (.fresh 0 0 (El w)) } }):=by
  cases fl with
  | ret v=>exact ⟨v,rfl,hr⟩
  | _=>exact hr.elim
 obtain ⟨rfl,rfl⟩:=hr
 have hS:(s.heap.push { cls:=.type "set",dict:=none,data:=.set #[] 0 (.fresh 0 0 (El w)) }).get? s.heap.objs.size=some { cls:=.type "set",dict:=none,data:=.set #[] 0 (.fresh 0 0 (El w)) }:=Heap.get?_push_size _ rfl
 have hT:Shared.TypeIs { s with heap:=s.heap.push { cls:=.type "set",dict:=none,data:=.set #[] 0 (.fresh 0 0 (El w)) } } (.ref s.heap.objs.size) "set":=⟨_,hS,rfl⟩
 have hli:=F.called_set.init.lookup
 have hbi:=F.called_set.init.bind (.ref s.heap.objs.size)
 repeat (any_goals (first | assumption | wp_step))
 refine codeAny_mono (codeAny_call_builtin (R:=wants (fun r s2=>r=.none/\∃ h' tk,s2 = { s with heap:=h',toks:=tk }/\Ib prog w h' s.heap.objs.size (El w) (ns.foldl Gf [])/\∀ b o,s.heap.get? b=some o->h'.get? b=some o) E)
  F.called_set.init.plain F.entry_set_init (check_set_init_1 hT ?_)) fun r2 s2 hr2=>?_
 ·obtain ⟨ol,hol,hcl,nl,hdl⟩:=hl
  obtain ⟨ocls,odict,odata,oslots⟩:=ol
  simp only at hcl hdl
  subst hcl; subst hdl
  have hol':(s.heap.push { cls:=.type "set",dict:=none,data:=.set #[] 0 (.fresh 0 0 (El w)) }).get? l=some { cls:=.type "list",dict:=odict,data:=.seq items nl,slots:=oslots }:=Heap.get?_push_of_some _ hol
  have hsls:=F.sub_list_set
  have hslf:=F.sub_list_frozenset
  have hne:(Value.type "list" == Value.type "dict")=false:=by decide
  have hl1:(s.heap.push { cls:=.type "set",dict:=none,data:=.set #[] 0 (.fresh 0 0 (El w)) }).IsList l items:=⟨_,hol',rfl,nl,rfl⟩
  unfold Builtin.«set.__init__» noKeywords Builtin.Frozenset.updateFrom
  generalize hPI:pyIter=PI
  wp_walk
  subst hPI
  refine wpAny_pyIter_list hl1 (wpAny_bind (wpAny_runValue ?_))
  have lS:l<s.heap.objs.size:=Heap.lt_size hol
  have h3:A.in1.in1.in1.handled=none:=by simp [hh]
  have nI:l ≠ (s.heap.push { cls:=.type "set",dict:=none,data:=.set #[] 0 (.fresh 0 0 (El w)) }).objs.size:=by
   rw [Heap.size_push]
   exact Nat.ne_of_lt (Nat.lt_succ_of_lt lS)
  have nf:s.heap.objs.size ∉ [(s.heap.push { cls:=.type "set",dict:=none,data:=.set #[] 0 (.fresh 0 0 (El w)) }).objs.size,l]:=by
   rw [Heap.size_push]
   intro z
   rcases List.mem_cons.mp z with q | q
   ·exact absurd q (Nat.ne_of_lt (Nat.lt_succ_self _))
   ·exact absurd (List.mem_singleton.mp q) (Nat.ne_of_gt lS)
  refine Wx ((Walks.list h3 _ l nI items).toS) s.heap.objs.size nf ns hlen.symm (fun i v hv=>IntsAre.int_at hi i v (by rw [Array.getElem?_toList]; exact hv)) (by rw [hlen]; exact hb) (items.size - 0) 0 _ rfl (Nat.zero_le _)
   ⟨⟨_,Heap.get?_push_size _ rfl,rfl,rfl⟩,(hl1.push _)⟩ ((Ve s.heap).keep fun o e=>Heap.get?_push_of_some _ e) fun s' m g=>?_
  obtain ⟨h',g',d',tk',os'⟩:=s'
  obtain rfl:g'=s.gens:=m.gens
  obtain rfl:d'=s.drawn:=m.drawn
  obtain rfl:os'=s.os:=m.os
  show wpAny _ _ _ _ _ _
  refine wpAny_pure ?_
  show wpAny _ _ (ret Value.none) _ _ _
  refine wpAny_pure ⟨rfl,h',tk',rfl,g,fun b o e=>?_⟩
  have b1:=Heap.lt_size e
  refine m.heap b o (fun z=>?_) (Heap.get?_push_of_some _ (Heap.get?_push_of_some _ e))
  rcases List.mem_cons.mp z with q | q
  ·exact absurd q (Nat.ne_of_lt b1)
  ·have:=List.mem_singleton.mp q
   rw [Heap.size_push] at this
   exact absurd this (Nat.ne_of_lt (Nat.lt_succ_of_lt b1))
 ·rcases r2 with e | fl2
  ·exact hr2
  obtain ⟨r,rfl,hr2⟩:∃ r,fl2=.ret r/\(r=.none/\∃ h' tk,s2 = { s with heap:=h',toks:=tk }/\Ib prog w h' s.heap.objs.size (El w) (ns.foldl Gf [])/\∀ b o,s.heap.get? b=some o->h'.get? b=some o):=by
   cases fl2 with
   | ret v=>exact ⟨v,rfl,hr2⟩
   | _=>exact hr2.elim
  obtain ⟨rfl,h',tk,rfl,g,hk⟩:=hr2
  repeat (any_goals (first | assumption | wp_step))
  exact h _ _ g hk
end
end Wd
namespace Wd
open PySem PySem.Spec PyProof.Rows
end Wd
namespace Wd
open PySem PySem.Spec PyProof.Rows
section
variable {M:Model} {A:Around} {E:Value->Shared->Prop}
end
inductive Way (w:World) (a:Addr) (es:Array (Int × Value)) (ep:Nat) (t:SetTable) (h:Heap):(Nat->Value)->List Value->List Addr->Prop where
 | text (hb:w.params.followText "set-order" = true):Way w a es ep t h (fun _=>rawInt 0) ((pickOrder (w.params.setOrder a ep) es).toList.map (·.2)) []
 | drawn {tp:Addr} {ps:List Nat} (hb:w.params.followText "set-order" = false) (hp:ps.Perm (List.range es.size)) (ht:∃ n,h.get? tp=some { cls:=.type "tuple",data:=.seq (ps.map fun (i:Nat)=>rawInt i).toArray n }) :
   Way w a es ep t h (fun _=>.ref tp) (ps.map fun i=>(es.getD i (0,.none)).2) [tp]
 | plain (hb:w.params.followText "set-order" = false) (hd:(!t.plain && decide (es.size > 1))=false) (hl:t.led=true) (hr:Va t.place) (hs:t.place.size=es.size) :
   Way w a es ep t h (fun i=>rawInt (if i=0 then 0 else t.place.getD (i - 1) 0+1:Nat)) (es.toList.map (·.2)) []
section
variable {prog:Program} {w:World} {A:Around} {E:Value->Shared->Prop} {s:Shared} {a it:Addr} {es:Array (Int × Value)} {ep:Nat} {t:SetTable} {first:Nat->Value} {vs:List Value} {more:List Addr}
end
end Wd
section PartSetJ
set_option maxHeartbeats 1000000
namespace Wd
open PySem PySem.Spec PyProof.Rows
section
variable {prog:Program} {w:World} {A:Around} {E:Value->Shared->Prop} {s:Shared} {a:Addr} {σ:List Int}
end
end Wd
end PartSetJ
section PartSetK
set_option maxHeartbeats 1000000
namespace Wd
open PySem PySem.Spec PyProof.Rows
section
variable {prog:Program} {w:World} {A:Around} {E:Value->Shared->Prop} {s:Shared} {a:Addr} {σ:List Int}
end
end Wd
end PartSetK
namespace L2
open PySem PySem.Spec PyProof.Rows
noncomputable def Ud (P:Program) (w:World) (a:Addr) (τ:List Int):HO:=.ext fun h=>Wd.Ib P w h a (Wd.El w) τ
theorem Us {P:Program} {w:World} {H:Hp} {h:Heap} {a:Addr} {τ:List Int} (g:Wd.Ib P w h a (Wd.El w) τ):Ce P w H h a (Ud P w a τ) :=
 ⟨g,(let ⟨_,_,_,e,_⟩:=g; ⟨_,e⟩),fun _ _ g k=>g.keep k⟩
theorem KY:∀ {ns:List Int} {us:List Value},Vals (ns.map V.int) us->IntsAre us ns
 | [],_,r=>by cases r; exact .nil
 | n::ns,_,r=>by
  cases r with
  | cons r t =>
   obtain ⟨tk,rfl⟩:=r
   exact .cons n tk (KY t)
section
variable {X:Cx} {pins:List (Addr × Obj)} {σ:St} {H:Hp} {s:Shared} {h':Heap} {a:Addr} {o:HO}
theorem Rq (hc:X.calm=true):Fg X (.type "set") (fun xs H Q=>∃ (l:Addr) (ns:List Int),xs=[V.ref l]/\CP X.K H l (ns.map V.int)/\ns.length<=1000/\∀ p,H p=none->Q (.ref p) (upd H p (Ud X.prog X.w p (ns.foldl Wd.Gf [])))):=by
 intro pins s σ H xs us Q I r h
 obtain ⟨l,ns,rfl,hl,hz,q⟩:=h
 obtain ⟨u,rfl,ru⟩:=vals1 r
 cases ru
 obtain ⟨its,rv,pl,_⟩:=I.list hl
 have hn:H s.heap.objs.size=none:=I.hok.fresh (Nat.le_refl _)
 refine Wd.Zw (I.ok.hd hc) pl.isList (by simpa using KY rv) (by unfold scanBound; omega) fun h' tk g k=>?_
 exact ⟨.ref s.heap.objs.size,_,I.laid (t':=tk) k (Nat.le_refl _) (Us g),rfl,q _ hn⟩
theorem Ut:Gp X (binaryOp .LShift) (rI (fun i j=>0<=j/\(Builtin.Int.intBits i:Int)+j<=2 ^ 27) fun i j=>.int (i * 2 ^ j.toNat)):=XS fun _ _ _ _ _ _ _ hc q=>lshift_int hc.1 hc.2 q
end
end L2
namespace L2
open PySem PySem.Spec PyProof.Rows
section
variable {X:Cx}
theorem J9:Fg X (.builtin "len") (fun xs H Q=>∃ (a:Addr) (τ:List Int),xs=[V.ref a]/\H a=some (Ud X.prog X.w a τ)/\Q (.int (τ.length:Nat)) H):=by
 intro pins s σ H xs us Q I r h
 obtain ⟨a,τ,rfl,ha,q⟩:=h
 obtain ⟨u,rfl,ru⟩:=vals1 r
 cases ru
 obtain ⟨⟨es,ep,t,e1,e2,e3,e4,e5,e6,e7,e8⟩,_,_⟩:=(show Ce X.prog X.w H s.heap a (Ud X.prog X.w a τ) from I.hok a _ ha)
 have e6':σ.length+0=σ.length:=rfl
 unfold scanBound at e6
 refine call_len_set e1 ⟨rfl,rfl,rfl⟩ rfl e7 (by omega) ⟨.int ((es.size:Nat):Int),H,I.tok _,⟨_,rfl⟩,?_⟩
 rw [e4]
 exact q
end
section
variable {prog:Program} {w:World} {A:Around} {E:Value->Shared->Prop} {s:Shared} {r l:Addr}
theorem R8:typeLookup (.type "list_reverseiterator") "__len__" = pure none:=by rw [typeLookup_type,builtinLookup_eq_fast]; kernel_rfl
theorem Uk:typeLookup (.type "list_reverseiterator") "__length_hint__" = pure (some (.builtin "list_reverseiterator.__length_hint__")):=by rw [typeLookup_type,builtinLookup_eq_fast]; kernel_rfl
theorem S5 {Q:Bool->Shared->Prop} (hT:s.TypeIs (.ref r) "list_reverseiterator") (h:Q false s):wpAny (model prog w) A (Builtin.List.listLengthHint (.ref r)) Q E s:=by
 unfold Builtin.List.listLengthHint
 refine wpAny_bind (wpAny_specialOf hT R8 ?_)
 show wpAny _ _ (specialOf (Value.ref r) (Str.ofString "__length_hint__") >>= _) _ _ _
 refine wpAny_bind (wpAny_specialOf hT Uk ?_)
 generalize hid:("list_reverseiterator.__length_hint__" : String)=id0
 wp_delta
 rw [show splitId id0=some ("list_reverseiterator","__length_hint__") from by subst hid; decide +kernel]
 subst hid
 refine wpAny_bind (wpAny_isInstance (b:=true) hT (by rw [isSubtype_type]; kernel_rfl) ?_)
 exact wpAny_pure h
theorem Nh {R:Result->Shared->Prop} (hh:A.handled=none) {items:Array Value} (hit:s.heap.IsRevIter r l ((items.size:Int) - 1)) (hl:s.heap.IsList l items) (hlr:l ≠ r) (S:Addr) (hSr:S ≠ r) (hSl:S ≠ l) (res:Value) (c₀:Nat) (hS:s.heap.get? S=some { cls:=.type "list",data:=.seq #[] c₀ })
  (hR:∀ h' tk acc' c',(∀ b o,b ≠ S->b ≠ r->s.heap.get? b=some o->h'.get? b=some o)->h'.get? S=some { cls:=.type "list",dict:=none,data:=.seq acc' c',slots:=#[] }->ItemsOf (fun i v=>items[items.size - 1 - i]? = some v) acc' items.size->R (.ok (.ret res)) { s with heap:=h',toks:=tk }) (hn:items.size<=sizeLine) :
  wpAny (model prog w) A.in1 (Builtin.List.listExtendWith (.ref S) (.ref r) res)
   (fun fin s'=>match fin with | .done f=>R (.ok f) s' | .again c'=>c'.quiet=true/\codeAny (model prog w) A c' R s') (fun e s'=>R (.error e) s') s:=by
 have hSf:S ∉ [r,l]:=by simp only [List.mem_cons,List.not_mem_nil,or_false,not_or]; exact ⟨hSr,hSl⟩
 have W:=Walks.listRev (prog:=prog) (w:=w) (A:=A.in1) hh r l hlr items
 have hst:0<=items.size/\s.heap.IsRevIter r l ((items.size:Int) - 1 - ((0:Nat):Int))/\s.heap.IsList l items:=⟨Nat.zero_le _,by simpa using hit,hl⟩
 have key:codeAny (model prog w) A (.builtin "list.extend.loop" ⟨[.ref S,.ref r,res],[]⟩) R s:=by
  refine codeAny_extend_loopS W.toS hn S hSf res items.size 0 _ #[] c₀ rfl (Nat.zero_le _) hst hS (ItemsOf.nil _) fun s' acc' c' hm hS' hacc=>?_
  rw [Moved.eq_with hm]
  refine hR s'.heap s'.toks acc' c' (fun b o hb hbr e=>hm.heap b o (fun hmem=>?_) e) hS' hacc
  rcases List.mem_cons.mp hmem with e' | hmem
  ·exact hb e'
  ·exact hbr (List.mem_singleton.mp hmem)
 unfold Builtin.List.listExtendWith
 refine wpAny_bind (wpAny_typeOf (T:="list_reverseiterator") hit.typeIs ?_)
 have h1:Builtin.List.listSameRef (.ref S) (.ref r)=false:=by simp [Builtin.List.listSameRef,hSr]
 rw [if_neg (by rw [h1]; decide)]
 refine wpAny_bind (wpAny_pyIter_revIter hit ?_)
 refine wpAny_bind (wpAny_holding (S5 hit.typeIs ?_))
 rw [if_neg (by decide)]
 exact wpAny_pure ⟨plainId_quiet PySem.F.plain_extend_loop _,key⟩
theorem RT {R:Result->Shared->Prop} (hh:A.handled=none) {items:Array Value} (hit:s.heap.IsRevIter r l ((items.size:Int) - 1)) (hl:s.heap.IsList l items) (hlr:l ≠ r) (S:Addr) (hSr:S ≠ r) (hSl:S ≠ l) (hS:s.heap.get? S=some { cls:=.type "list",data:=.seq #[] })
  (hR:∀ h' tk acc' c',(∀ b o,b ≠ S->b ≠ r->s.heap.get? b=some o->h'.get? b=some o)->h'.get? S=some { cls:=.type "list",dict:=none,data:=.seq acc' c',slots:=#[] }->ItemsOf (fun i v=>items[items.size - 1 - i]? = some v) acc' items.size->R (.ok (.ret .none)) { s with heap:=h',toks:=tk }) (hn:items.size<=sizeLine) :
  wpAny (model prog w) A.in1 (Builtin.«list.__init__» ⟨[.ref S,.ref r],[]⟩)
   (fun fin s'=>match fin with | .done f=>R (.ok f) s' | .again c'=>c'.quiet=true/\codeAny (model prog w) A c' R s') (fun e s'=>R (.error e) s') s:=by
 show wpAny _ _ (do let old ← Builtin.List.listItems (.ref S); Builtin.List.listUpdate (.ref S) (fun _=>#[]); letGo old.toList.reverse; Builtin.List.listExtendWith (.ref S) (.ref r) .none) _ _ s
 refine wpAny_bind ?_
 unfold Builtin.List.listItems
 refine wpAny_bind (wpAny_seqItems hS rfl (wpAny_pure ?_))
 show wpAny _ _ (updateSeq S (fun _=>#[]) >>= fun _=>letGo (#[]:Array Value).toList.reverse >>= fun _=>Builtin.List.listExtendWith (.ref S) (.ref r) .none) _ _ s
 refine wpAny_bind (wpAny_updateSeq hS rfl ?_)
 have hS₂:=Heap.get?_update_self (Obj.mapSeq (fun _=>(#[]:Array Value))) hS rfl
 have oth:∀ b o,b ≠ S->s.heap.get? b=some o->(s.heap.update S (Obj.mapSeq (fun _=>(#[]:Array Value)))).get? b=some o :=
  fun b o hb e=>(Heap.get?_update_other _ _ (Ne.symm hb)).trans e
 refine wpAny_bind (wpAny_letGo ?_)
 refine Nh hh (hit.at fun o e=>oth r o hSr.symm e) (hl.at fun o e=>oth l o hSl.symm e) hlr S hSr hSl .none _ hS₂ (fun h' tk acc' c' hk hS' hacc=>?_) hn
 exact hR h' tk acc' c' (fun b o hb hbr e=>hk b o hb hbr (oth b o hb e)) hS' hacc
theorem R4 {Q:Value->Shared->Prop} (hh:A.handled=none) {items:Array Value} (hit:s.heap.IsRevIter r l ((items.size:Int) - 1)) (hl:s.heap.IsList l items) (hlr:l ≠ r) (hrs:r<s.heap.objs.size) (hls:l<s.heap.objs.size) (hn:items.size<=sizeLine)
  (hQ:∀ h' tk acc' c',(∀ b o,b ≠ r->s.heap.get? b=some o->h'.get? b=some o)->h'.get? s.heap.objs.size=some { cls:=.type "list",dict:=none,data:=.seq acc' c',slots:=#[] }->ItemsOf (fun i v=>items[items.size - 1 - i]? = some v) acc' items.size->Q (.ref s.heap.objs.size) { s with heap:=h',toks:=tk }) :
  wpAny (model prog w) A (call (.type "list") [.ref r]) Q E s:=by
 refine callType_codes (Q₁:=fun obj s₁=>obj=.ref s.heap.objs.size/\s₁ = { s with heap:=s.heap.push { cls:=.type "list",data:=.seq #[] } }) PySem.F.called_list (PySem.F.typeCall_list_1 _) PySem.F.entry_list_init
  (code_list_new _ ⟨rfl,rfl⟩) fun obj s₁ h₁=>?_
 obtain ⟨rfl,rfl⟩:=h₁
 have hS:(s.heap.push { cls:=.type "list",data:=.seq #[] }).get? s.heap.objs.size=some { cls:=.type "list",data:=.seq #[] }:=Heap.get?_push_size _ rfl
 refine ⟨⟨_,hS,rfl⟩,PySem.F.args_list_init_2 _ _,RT (A:=A.in1) hh (hit.at fun o e=>Heap.get?_push_of_some _ e) (hl.at fun o e=>Heap.get?_push_of_some _ e) hlr _ (Nat.ne_of_gt hrs) (Nat.ne_of_gt hls) hS (fun h' tk acc' c' hk hS' hacc=>?_) hn⟩
 exact ⟨rfl,hQ h' tk acc' c' (fun b o hbr e=>hk b o (Nat.ne_of_lt (Heap.lt_size e)) hbr (Heap.get?_push_of_some _ e)) hS' hacc⟩
end
section
variable {X:Cx} {p1 p2 q1 q2:Pos} {e:Expr} {te:TE}
noncomputable def YS (K:PySem.W.Frag) (te:TE):TE:=fun σ H Q=>te σ H fun x H1=>∃ a xs,x=.ref a/\CP K H1 a xs/\∀ l,H1 l=none->Q (.ref l) (upd H1 l (.lst xs.reverse))
theorem Oz (hc:X.calm=true) (hg:Gl X "list") (hm:X.mg "list" = none) (hg2:Gl X "reversed") (hm2:X.mg "reversed" = none) (he:PE X e te)
  (hs1:starEach [.Call (.Name "reversed" p2) [e] [] q2] X.env=[(false,eval (.Call (.Name "reversed" p2) [e] [] q2) X.env)]:=by rfl) (hs2:starEach [e] X.env=[(false,eval e X.env)]:=by rfl) (hs3:starEach ([]:List Expr) X.env=[]:=by rfl) :
  PE X (.Call (.Name "list" p1) [.Call (.Name "reversed" p2) [e] [] q2] [] q1) (YS X.K te):=by
 intro pins s σ H Q I h
 refine wpAny_Call_Name_kw (Ft I hg hm PyProof.Rows.boot_list ?_ (by decide) (by decide))
 refine PyProof.Rows.callWith_type1 ?_ (by rw [hs1,hs3]) (by rw [hs3]; rfl)
 rw [hs1]
 show wpAny _ _ (spliced [(false,eval (.Call (.Name "reversed" p2) [e] [] q2) X.env)]) _ _ s
 refine Calls.spliced_cons ?_
 refine wpAny_Call_Name_kw (Ft I hg2 hm2 PyProof.Rows.boot_reversed ?_ (by decide) (by decide))
 refine PyProof.Rows.callWith_type1 ?_ (by rw [hs2,hs3]) (by rw [hs3]; rfl)
 rw [hs2]
 show wpAny _ _ (spliced [(false,eval e X.env)]) _ _ s
 refine Calls.spliced_cons (CN (he pins s σ H _ I h) fun u s1 hq0=>?_)
 obtain ⟨x,H1,I1,r1,a,xs,ex,hS,q⟩:=hq0
 subst ex
 cases r1
 refine Calls.spliced_nil ?_
 obtain ⟨its,rv,pl,hz⟩:=I1.list hS
 have la:a<s1.heap.objs.size:=by obtain ⟨_,e,_⟩:=pl.isList; exact Heap.lt_size e
 refine call_reversed_list pl.isList ?_
 refine Calls.spliced_nil ?_
 have hsz:(s1.heap.push (revObj a (((its.toArray.size:Nat):Int) - 1))).objs.size=s1.heap.objs.size+1:=by simp [Heap.push]
 have hlen:its.toArray.size=xs.length:=by have:=rv.length; simp; omega
 refine R4 (I1.ok.hd hc) (r:=s1.heap.objs.size) (l:=a) (items:=its.toArray) ⟨_,Heap.get?_push_size _ rfl,rfl,rfl⟩ (pl.isList.at fun o e=>Heap.get?_push_of_some _ e) (Nat.ne_of_lt la) (by rw [hsz]; exact Nat.lt_succ_self _) (by rw [hsz]; exact Nat.lt_succ_of_lt la) (by omega) fun h' tk acc' c' hk hD hacc=>?_
 rw [hsz] at hD ⊢
 have hv:Vals xs.reverse acc'.toList:=by
  refine Ld (by have h1:acc'.toList.length=acc'.size:=Array.length_toList; have h2:=hacc.1; rw [List.length_reverse]; omega) fun j x u hx hu=>?_
  rw [Array.getElem?_toList] at hu
  have h3:=hacc.2 j u hu
  have hj:j<xs.length:=by have:=(List.getElem?_eq_some_iff.mp hx).1; rwa [List.length_reverse] at this
  rw [List.getElem?_reverse hj] at hx
  obtain ⟨u',hu',ru⟩:=rv.get hx
  rw [hlen] at h3
  have h4:its[xs.length - 1 - j]? = some u:=by simpa using h3
  rw [h4] at hu'
  cases hu'
  exact ru
 refine ⟨.ref (s1.heap.objs.size+1),_,I1.laid (t':=tk) (o:=.lst xs.reverse) (fun b o e=>hk b o (Nat.ne_of_lt (Heap.lt_size e)) (Heap.get?_push_of_some _ e)) (Nat.le_succ _) ⟨by rw [List.length_reverse]; omega,acc'.toList,c',hv,by simpa using hD⟩,rfl,q _ (I1.hok.fresh (Nat.le_succ _))⟩
end
end L2
namespace L2
open PySem PySem.Spec PyProof.Rows
noncomputable def ZV (K:PySem.W.Frag) (a:Addr) (xs:List V):It :=
 ⟨fun i H=>CP K H a xs/\i<xs.length,fun i H x H'=>H'=H/\xs[xs.length - 1 - i]? = some x,fun i H=>CP K H a xs/\i=xs.length⟩
theorem S9 {P:Program} {w:World} {K:PySem.W.Frag} {tg:Expr} (a it:Addr) (xs:List V):Turn P w K tg (ZV K a xs) [it] it (fun i h=>h.IsRevIter it a ((xs.length:Int) - 1 - (i:Nat))) where
 mem:=by simp
 obj:=fun i h st b hb=>by
  have e:b=it:=by simpa using hb
  subst e
  obtain ⟨o,e,c,d⟩:=st
  exact ⟨o,e,fun v z=>by rw [d] at z; cases z⟩
 keep:=fun i h h' st k=>st.at fun o e=>k it (by simp) o e
 item:=by
  intro X hP hw hK hc i pins s σ H E I hf st hg
  subst hP hw hK
  obtain ⟨hq,hlt⟩:=hg
  obtain ⟨its,rv,p,hz⟩:=I.list hq
  have hx:xs[xs.length - 1 - i]? = some (xs[xs.length - 1 - i]'(by omega)):=List.getElem?_eq_getElem (by omega)
  obtain ⟨u,hu,ru⟩:=rv.get hx
  obtain ⟨f0,f1,f2,f3,f4,f5⟩:=hf it (by simp)
  have e:(xs.length:Int) - 1 - ((i:Nat):Int)=((xs.length - 1 - i:Nat):Int):=by omega
  rw [e] at st
  refine wpAny_pyNext_rev_item st p.isList (x:=u) (by simpa using hu) fun h' st' sb=>?_
  have I1:Inv X pins σ H { s with heap:=h' }:=I.turned (t':=s.toks) (fun b o hb e=>(sb.2 b hb).trans e) f0 f1 f3 f4 f5
  have e2:((xs.length - 1 - i:Nat):Int) - 1=(xs.length:Int) - 1 - ((i+1:Nat):Int):=by omega
  rw [e2] at st'
  obtain ⟨o,eo,c,d⟩:=id st'
  exact ⟨u,rfl,Mg (s:={ s with heap:=h' }) eo c d (by decide) ⟨_,H,I1,ru,⟨rfl,hx⟩,st',fun b hb=>(hf b hb).1⟩⟩
 done:=by
  intro X hP hw hK hc i pins s σ H E I hf st hg
  subst hP hw hK
  obtain ⟨hq,rfl⟩:=hg
  obtain ⟨f0,f1,f2,f3,f4,f5⟩:=hf it (by simp)
  have e:(xs.length:Int) - 1 - ((xs.length:Nat):Int) = -1:=by omega
  rw [e] at st
  exact wpAny_pyNext_rev_end (I.ok.hd hc) st fun h' eb=>⟨rfl,I.turned (t':=s.toks) (fun b o hb e=>eb b o hb e) f0 f1 f3 f4 f5⟩
 self:=fun _ _ _ _ _ st h=>wpAny_pyIter_revIter st h
section
variable {X:Cx} {tg:Expr}
noncomputable def ir (K:PySem.W.Frag) (ta:TA):TI:=fun σ H R=>ta σ H fun vs H1=>∃ a xs,vs=[.ref a]/\CP K H1 a xs/\R (ZV K a xs) H1
theorem Xe {l:Expr} {ta:TA} {p pos:Pos} (hg:Gl X "reversed") (hm:X.mg "reversed" = none) (ha:PA X [l] ta) (hs:starEach [l] X.env=[(false,eval l X.env)]:=by rfl):PI X tg (.Call (.Name "reversed" p) [l] [] pos) (ir X.K ta):=by
 intro pins s σ H R I h
 refine Call_ (Ft I hg hm PyProof.Rows.boot_reversed (PyProof.Rows.callWith_type1 (CN (ha pos pins s σ H _ I h) fun us s1 ⟨vs,H1,I1,r1,q1⟩=>?_) hs rfl))
 obtain ⟨a,xs,e,hq,q⟩:=q1
 subst e
 obtain ⟨u,rfl,ru⟩:=vals1 r1
 cases ru
 obtain ⟨its,rv,pl,hz⟩:=I1.list hq
 refine call_reversed_list pl.isList ?_
 have hit:(s1.heap.push (revObj a ((its.toArray.size:Int) - 1))).IsRevIter s1.heap.objs.size a ((its.toArray.size:Int) - 1):=⟨_,Heap.get?_push_size _ rfl,rfl,rfl⟩
 refine wpAny_pyIter_revIter (s:={ s1 with heap:=s1.heap.push (revObj a ((its.toArray.size:Int) - 1)) }) hit ?_
 refine ⟨s1.heap.objs.size,[s1.heap.objs.size],_,_,H1,rfl,I1.kept (t':=s1.toks) fun b o e=>Heap.get?_push_of_some _ e,S9 a _ xs,?_,fun b hb=>?_,q⟩
 ·have hl:=rv.length
  have e2:((its.toArray.size:Nat):Int) - 1=(xs.length:Int) - 1 - ((0:Nat):Int):=by
   rw [List.size_toArray]
   omega
  show (s1.heap.push (revObj a ((its.toArray.size:Int) - 1))).IsRevIter s1.heap.objs.size a ((xs.length:Int) - 1 - ((0:Nat):Int))
  rw [← e2]
  exact hit
 ·have e:b=s1.heap.objs.size:=by simpa using hb
  subst e
  exact I1.KQ (Nat.le_refl _) (I1.hok.fresh (Nat.le_refl _))
theorem Uy {K:PySem.W.Frag} {a:Addr} {xs:List V} {g:TG} {tb:TS} {D:Ends} {σ:St} {H:Hp} (Pv:Nat->St->Hp->Prop) (h0:Pv 0 σ H) (hl:∀ i σ H,i<=xs.length->Pv i σ H->CP K H a xs)
  (hs:∀ i x σ H,i<xs.length->xs[xs.length - 1 - i]? = some x->Pv i σ H->g x σ H fun σ2 H2=>tb { D with nx:=Pv (i+1),ct:=Pv (i+1),bk:=D.nx } σ2 H2) (hd:∀ σ H,Pv xs.length σ H->D.nx σ H) :
  ∃ W:Nat->Nat->St->Hp->Prop,(∃ m,W 0 m σ H)/\∀ i m σ H,W i m σ H ->
   ((ZV K a xs).stop i H/\D.nx σ H) \/ ((ZV K a xs).go i H/\∃ N:St->Hp->Prop,(∀ σ' H',N σ' H'->∃ m',m'<m/\W (i+1) m' σ' H')/\∀ x H',(ZV K a xs).yld i H x H'->g x σ H' fun σ2 H2=>tb { D with nx:=N,ct:=N,bk:=D.nx } σ2 H2):=by
 refine ⟨fun i m σ H=>m=xs.length - i/\i<=xs.length/\Pv i σ H,⟨xs.length,by simp,Nat.zero_le _,h0⟩,?_⟩
 rintro i m σ H ⟨rfl,hi,p⟩
 have q:=hl i σ H hi p
 by_cases hlt:i<xs.length
 ·refine .inr ⟨⟨q,hlt⟩,Pv (i+1),fun σ' H' p'=>⟨xs.length - (i+1),by omega,rfl,by omega,p'⟩,?_⟩
  rintro x H' ⟨rfl,hx⟩
  exact hs i x σ H' hlt hx p
 ·have e:i=xs.length:=by omega
  subst e
  exact .inl ⟨⟨q,rfl⟩,hd σ H p⟩
end
end L2
namespace L2
open PySem PySem.Spec PyProof.Rows
structure Uo (K:PySem.W.Frag) (x qual:Str) (st:Stmt) (f:Addr) (fd:FuncData):Prop where
 ex:∃ (oc:Value) (od:Option Addr) (dV kV doc pm:Value) (an:Option Addr) (cdv ct:Value) (osl:Array (Option Value)),
  fd=PySem.W.fnOf x qual (Cr st) (Cd st) (Ag st) dV kV doc pm an cdv ct/\K.lookup f=some ⟨oc,od,.func fd,osl⟩/\PySem.W.codeIn K cdv qual=true
 kp:PySem.W.keepIn K (.ref f)=true
section
variable {P:Program} {w:World} {K:PySem.W.Frag} {mg:Str->Option Value} {base:Heap}
theorem Uo.ok {x qual:Str} {st:Stmt} {f:Addr} {fd:FuncData} {N ps:List Str} {k:Nat} {sp:Sp} (F:Uo K x qual st f fd) (S:Av N ps (Ag st)) (len:∀ vs H Q E,sp vs H Q E->vs.length=ps.length)
  (hbody:∀ (cdv:Value) (A:Around) (outer:List Env) (s:Shared) (H:Hp) (vs:List V) (Q:VK) (E:XK),BR k (A.deeper (envOfC qual (Ag st) s.heap.objs.size f cdv))->sp vs H Q E ->
   ∃ t,O_ (NQ Be P w K mg base N qual (Ag st) f cdv A outer s H E).YB (Cd st) t/\t { nx:=fun _ H'=>Q .non H',rt:=Q } (start N vs) H):Aq P w K mg base Be (k+1) f fd ps sp:=by
 obtain ⟨oc,od,dV,kV,doc,pm,an,cdv,ct,osl,rfl,lk,hcd⟩:=F.ex
 refine V2 lk hcd S len fun A outer s H vs Q E hr hsp=>?_
 obtain ⟨t,h,q⟩:=hbody cdv A outer s H vs Q E hr hsp
 exact ⟨t,h.YB,q⟩
theorem U7 {x qual:Str} {st:Stmt} {f:Addr} {oc:Value} {od an:Option Addr} {osl:Array (Option Value)} {dV kV doc pm cdv ct:Value} (l:K.lookup f=some ⟨oc,od,.func (PySem.W.fnOf x qual (Cr st) (Cd st) (Ag st) dV kV doc pm an cdv ct),osl⟩)
  (c:PySem.W.codeIn K cdv qual=true) (k:PySem.W.keepIn K (.ref f)=true):Uo K x qual st f (PySem.W.fnOf x qual (Cr st) (Cd st) (Ag st) dV kV doc pm an cdv ct):=⟨⟨oc,od,dV,kV,doc,pm,an,cdv,ct,osl,rfl,l,c⟩,k⟩
theorem W_ {fd:FuncData} {ps:List Str} {t:Addr} {ot:Value} {odt:Option Addr} {items:Array Value} {n:Nat} {slt:Array (Option Value)} (lt:K.lookup t=some ⟨ot,odt,.seq items n,slt⟩) (hd:fd.defaults=.ref t)
  (h:∀ us:List Value,us.length=ps.length->∃ k,bindArgs fd ⟨us,[]⟩=seqItems? fd.defaults >>= k/\k (some items)=pure (ps.zip us)):Binds K fd ps []:=fun s us hK hl=>by
 rw [List.append_nil] at hl ⊢
 obtain ⟨k,h1,h2⟩:=h us hl
 exact BindsTo.of_defaults hd (hK _ _ lt) rfl h1 h2
end
end L2
namespace L2
open PySem PySem.Spec PyProof.Rows
section
variable {K:PySem.W.Frag}
end
end L2
namespace L2
open PySem PySem.Spec PySem.Calls PyProof.Rows
section
variable {X:Cx}
theorem range_any (bs:List Bool):((List.range bs.length).any fun i=>(bs[i]?).getD false)=bs.any id:=by
 rw [Bool.eq_iff_iff,List.any_eq_true,List.any_eq_true]
 constructor
 ·rintro ⟨i,hi,e⟩
  have hi':=List.mem_range.mp hi
  rw [List.getElem?_eq_getElem hi'] at e
  exact ⟨_,List.getElem_mem hi',e⟩
 ·rintro ⟨b,hb,e⟩
  obtain ⟨i,hi,q⟩:=List.mem_iff_getElem.mp hb
  refine ⟨i,List.mem_range.mpr hi,?_⟩
  rw [List.getElem?_eq_getElem hi,q]
  exact e
theorem Jg (hc:X.calm=true):Fg X (.builtin "any") (fun xs H Q=>∃ (p:Addr) (bs:List Bool),xs=[V.ref p]/\CP X.K H p (bs.map V.bl)/\Q (.bl (bs.any id)) H):=by
 intro pins s σ H xs us Q I r h
 obtain ⟨p,bs,rfl,hp,q⟩:=h
 obtain ⟨u,rfl,ru⟩:=vals1 r
 cases ru
 obtain ⟨its,rv,pl,hz⟩:=I.list hp
 have hlen:bs.length=its.length:=by have:=rv.length; rw [List.length_map] at this; exact this
 have hlt:p<s.heap.objs.size:=by obtain ⟨_,e,_⟩:=pl.isList; exact Heap.lt_size e
 refine call_any_walk (wpAny_pyIter_list pl.isList ?_)
 refine ⟨s.heap.objs.size,[s.heap.objs.size,p],[s.heap.objs.size],its.toArray.size,_,_,fun i=>(bs[i]?).getD false,rfl,Walks.list (A:=X.A.in1) (I.ok.hd hc) _ p (Nat.ne_of_lt hlt) its.toArray,
  ⟨⟨_,Heap.get?_push_size _ rfl,rfl,rfl⟩,pl.isList.push _⟩,fun i v s' Q' E' hP hQ=>?_,fun h' tk hk=>?_⟩
 ·have hP':its[i]? = some v:=by simpa using hP
  have hi:i<its.length:=(List.getElem?_eq_some_iff.mp hP').1
  have hb:bs[i]? = some bs[i]:=by simp [hlen,hi]
  obtain ⟨u,hu,ru⟩:=rv.get (i:=i) (x:=.bl bs[i]) (by rw [List.getElem?_map,hb]; rfl)
  rw [hP'] at hu
  cases hu
  cases ru
  dsimp only at hQ
  rw [hb] at hQ
  exact wpAny_truthy_bool hQ
 ·have e:((List.range its.toArray.size).any fun i=>(bs[i]?).getD false)=bs.any id:=by rw [List.size_toArray,← hlen]; exact range_any bs
  rw [e]
  refine ⟨.bl (bs.any id),H,I.kept (t':=tk) fun b o eb=>hk b o (fun hm=>?_) (Heap.get?_push_of_some _ eb),rfl,q⟩
  rw [List.mem_singleton.mp hm] at eb
  exact Nat.lt_irrefl _ (Heap.lt_size eb)
theorem Gu (ns:List Int):∀ j,j<=ns.length->preSum (fun i=>(ns[i]?).getD 0) j=(ns.take j).sum
 | 0,_=>rfl
 | j+1,h=>by
  have ih:=Gu ns j (by omega)
  show preSum _ j+(ns[j]?).getD 0=_
  rw [ih,List.take_add_one,List.getElem?_eq_getElem (by omega),List.sum_append]
  simp
theorem Tr (M:Int):∀ ns:List Int,(∀ n∈ns,0<=n/\n<=M)->0<=ns.sum/\ns.sum<=ns.length * M
 | [],_=>by simp
 | n::r,h=>by
  have h1:=h n (List.mem_cons_self ..)
  have h2:=Tr M r fun x hx=>h x (List.mem_cons_of_mem _ hx)
  have e:((n::r).length:Int) * M=r.length * M+M:=by rw [List.length_cons]; push_cast; rw [Int.add_mul,Int.one_mul]
  rw [e,List.sum_cons]
  omega
theorem GC (hc:X.calm=true):Fg X (.builtin "sum") (fun xs H Q=>∃ (p:Addr) (ns:List Int),xs=[V.ref p]/\CP X.K H p (ns.map V.int)/\(∀ n∈ns,0<=n/\n<=100000)/\ns.length<=1000/\Q (.int ns.sum) H):=by
 intro pins s σ H xs us Q I r h
 obtain ⟨p,ns,rfl,hp,hb,hl,q⟩:=h
 obtain ⟨u,rfl,ru⟩:=vals1 r
 cases ru
 obtain ⟨its,rv,pl,hz⟩:=I.list hp
 have hlen:ns.length=its.length:=by have:=rv.length; rw [List.length_map] at this; exact this
 have hlt:p<s.heap.objs.size:=by obtain ⟨_,e,_⟩:=pl.isList; exact Heap.lt_size e
 refine call_sum_walk (wpAny_pyIter_list pl.isList ?_)
 refine ⟨s.heap.objs.size,[s.heap.objs.size,p],[s.heap.objs.size],its.toArray.size,_,_,fun i=>(ns[i]?).getD 0,rfl,Walks.list (A:=X.A.in1) (I.ok.hd hc) _ p (Nat.ne_of_lt hlt) its.toArray,
  ⟨⟨_,Heap.get?_push_size _ rfl,rfl,rfl⟩,pl.isList.push _⟩,fun b hb=>?_,fun i v hP=>?_,fun j hj=>?_,fun h' tk t' hk=>?_⟩
 ·rw [Heap.size_push]
  rcases List.mem_cons.mp hb with rfl | hb
  ·exact Nat.lt_succ_self _
  ·rw [List.mem_singleton.mp hb]
   exact Nat.lt_succ_of_lt hlt
 ·have hP':its[i]? = some v:=by simpa using hP
  have hi:i<its.length:=(List.getElem?_eq_some_iff.mp hP').1
  have hb:ns[i]? = some ns[i]:=by simp [hlen,hi]
  obtain ⟨u,hu,ru⟩:=rv.get (i:=i) (x:=.int ns[i]) (by rw [List.getElem?_map,hb]; rfl)
  rw [hP'] at hu
  cases hu
  obtain ⟨t,rfl⟩:=ru
  exact ⟨t,by dsimp only; rw [hb]; rfl⟩
 ·have hj':j<ns.length:=by rw [hlen]; simpa using hj
  rw [Gu ns (j+1) (by omega)]
  have h1:=hb ns[j] (List.getElem_mem hj')
  have h2:=Tr 100000 (ns.take (j+1)) fun n hn=>hb n (List.mem_of_mem_take hn)
  have h3:(ns.take (j+1)).length<=1000:=by rw [List.length_take]; omega
  unfold InLong
  dsimp only
  rw [List.getElem?_eq_getElem hj']
  rw [Option.getD_some]
  refine ⟨⟨?_,?_⟩,⟨?_,?_⟩⟩ <;> omega
 ·have e:preSum (fun i=>(ns[i]?).getD 0) its.toArray.size=ns.sum:=by rw [List.size_toArray,← hlen,Gu ns _ (Nat.le_refl _),List.take_length]
  rw [e]
  refine ⟨.int ns.sum,H,I.kept (t':=tk) fun b o eb=>hk b o (fun hm=>?_) (Heap.get?_push_of_some _ eb),⟨_,rfl⟩,q⟩
  rw [List.mem_singleton.mp hm] at eb
  exact Nat.lt_irrefl _ (Heap.lt_size eb)
theorem Mw:∀ {ts:List Str} {its:List Value},Vals (ts.map V.str) its->∃ l:List (Str × Tok),its=strValues l/\l.map (·.1)=ts
 | [],_,h=>by
  cases h
  exact ⟨[],rfl,rfl⟩
 | t::ts,_,h=>by
  cases h with
  | cons a b =>
   obtain ⟨k,rfl⟩:=a
   obtain ⟨l,rfl,rfl⟩:=Mw b
   exact ⟨(t,k)::l,rfl,rfl⟩
theorem Vo:dh X "str.join" (fun x xs H Q=>∃ (z:Str) (p:Addr) (ts:List Str),x=V.str z/\xs=[V.ref p]/\CP X.K H p (ts.map V.str)/\JoinOk z ts=true/\Q (.str (Txt.join z ts)) H):=by
 intro pins s σ H x xs v us Q I rx r h
 obtain ⟨z,p,ts,rfl,rfl,hp,hj,q⟩:=h
 obtain ⟨t,rfl⟩:=rx
 obtain ⟨w,rfl,rw'⟩:=Vals.one r
 cases rw'
 obtain ⟨its,rv,pl,hz⟩:=I.list hp
 obtain ⟨l,rfl,el⟩:=Mw rv
 exact SC.join pl.isList el hj fun t' k=>⟨.str _,H,I.tok _,⟨_,rfl⟩,q⟩
structure KDict (K:PySem.W.Frag) (P:Params) (a:Addr):Prop where
 is:∃ es n,K.lookup a=some ⟨.type "dict",none,.dict es n,#[]⟩/\PySem.W.KeysLit P es.toList
 lo:(a == sysModules)=false
noncomputable def bH (K:PySem.W.Frag) (P:Params) (td ty:TE):TE:=fun σ H Q=>td σ H fun x H1=>ty σ H1 fun y H2=>∃ a z v u,x=.ref a/\y=.str z/\KDict K P a/\PySem.W.nsIn K a z=some (some u)/\RelV v u/\Q v H2
noncomputable def Yh (K:PySem.W.Frag) (P:Params) (neg:Bool) (ty td:TE):TE:=fun σ H Q=>ty σ H fun y H1=>td σ H1 fun x H2=>∃ a z r,x=.ref a/\y=.str z/\KDict K P a/\PySem.W.nsIn K a z=some r/\Q (.bl (if neg then !r.isSome else r.isSome)) H2
variable {o i:Expr} {pos:Pos} {td ty:TE}
theorem Li (ho:PE X o td) (hi:PE X i ty) (hs:XX i):PE X (.Subscript o i pos) (bH X.K X.w.params td ty):=by
 intro pins s σ H Q I h
 refine Px PySem.F.slot_dict_getitem.lookup hs (CN (ho pins s σ H _ I h) fun u s1 ⟨x,H1,I1,rx,q1⟩=>CN (hi pins s1 σ H1 _ I1 q1) fun iv s2 hq0=>?_)
 obtain ⟨y,H2,I2,ry,a,z,v,w,ex,ey,kd,hw,rw',q2⟩:=hq0
 subst ex ey
 cases rx
 obtain ⟨t,rfl⟩:=ry
 obtain ⟨⟨es,n,hl,hk⟩,lo⟩:=kd
 have hm:=PySem.W.mapOf_K (prog:=X.prog) I2.Ii hl hk
 exact ⟨hm.typeIs,wpAny_getItem_of (strKind_is X.prog X.w z t) hm (PySem.W.find_K hl hw) ⟨v,H2,I2.tok _,rw',q2⟩⟩
theorem Rc (hi:PE X i ty) (ho:PE X o td):PC X .In i o (Yh X.K X.w.params false ty td):=by
 intro pins s σ H Q I h
 refine CN (hi pins s σ H _ I h) fun iv s1 ⟨y,H1,I1,ry,q1⟩=>CN (ho pins s1 σ H1 _ I1 q1) fun u s2 hq0=>?_
 obtain ⟨x,H2,I2,rx,a,z,r,ex,ey,kd,hw,q2⟩:=hq0
 subst ex ey
 cases rx
 obtain ⟨t,rfl⟩:=ry
 obtain ⟨⟨es,n,hl,hk⟩,lo⟩:=kd
 refine wpAny_in_of (strKind_is X.prog X.w z t) lo (PySem.W.mapOf_K (prog:=X.prog) I2.Ii hl hk) ?_
 rw [PySem.W.find_K hl hw]
 exact ⟨.bl r.isSome,H2,I2.tok _,rfl,q2⟩
theorem Q9 (hi:PE X i ty) (ho:PE X o td):PC X .NotIn i o (Yh X.K X.w.params true ty td):=by
 intro pins s σ H Q I h
 refine CN (hi pins s σ H _ I h) fun iv s1 ⟨y,H1,I1,ry,q1⟩=>CN (ho pins s1 σ H1 _ I1 q1) fun u s2 hq0=>?_
 obtain ⟨x,H2,I2,rx,a,z,r,ex,ey,kd,hw,q2⟩:=hq0
 subst ex ey
 cases rx
 obtain ⟨t,rfl⟩:=ry
 obtain ⟨⟨es,n,hl,hk⟩,lo⟩:=kd
 refine wpAny_notIn_of (strKind_is X.prog X.w z t) lo (PySem.W.mapOf_K (prog:=X.prog) I2.Ii hl hk) ?_
 rw [PySem.W.find_K hl hw]
 exact ⟨.bl (!r.isSome),H2,I2.tok _,rfl,q2⟩
end
noncomputable def stepV (xs:List V) (lo hi:Option Int) (k:Int):List V:=(sliceRange (sliceBounds lo hi (some k) xs.length).1 (sliceBounds lo hi (some k) xs.length).2.1 (sliceBounds lo hi (some k) xs.length).2.2).filterMap (xs[·]?)
theorem Qq {xs:List V} {lo hi:Option Int} {k:Int} {y:V} (h:y∈stepV xs lo hi k):y∈xs:=by
 obtain ⟨j,_,e⟩:=List.mem_filterMap.mp h
 exact List.mem_of_getElem? e
theorem QK:∀ {xs:List V} {us:List Value},Vals xs us->∀ js:List Nat,Vals (js.filterMap (xs[·]?)) (js.filterMap (us[·]?)):=by
 intro xs us h js
 induction js with
 | nil=>exact .nil
 | cons j js ih =>
  rw [List.filterMap_cons,List.filterMap_cons]
  by_cases hj:j<xs.length
  ·have ex:xs[j]? = some xs[j]:=List.getElem?_eq_getElem hj
   obtain ⟨u,hu,ru⟩:=h.get ex
   rw [ex,hu]
   exact .cons ru ih
  ·have hl:=h.length
   rw [List.getElem?_eq_none (by omega),List.getElem?_eq_none (by omega)]
   exact ih
noncomputable def ZD (K:PySem.W.Frag) (te:TE) (tl th:TO) (ts:TE):TE:=fun σ H Q=>te σ H fun x H1=>tl σ H1 fun lo H2=>th σ H2 fun hi H3=>ts σ H3 fun k H4=>∃ j,k=.int j/\0<j/\∃ a xs,x=.ref a/\CP K H4 a xs/\∀ p,H4 p=none->(stepV xs lo hi j).length<=xs.length->Q (.ref p) (upd H4 p (.lst (stepV xs lo hi j)))
section
variable {X:Cx} {e st:Expr} {lo hi:Option Expr} {te ts:TE} {tl th:TO} {p2 pos:Pos}
theorem Lg (he:PE X e te) (hl:PO X lo tl) (hu:PO X hi th) (hst:PE X st ts):PE X (.Subscript e (.Slice lo hi (some st) p2) pos) (ZD X.K te tl th ts):=by
 intro pins s σ H Q I h
 refine Subscript_ (CN (he pins s σ H _ I h) fun v s1 hq0=>?_)
 obtain ⟨x,H1,I1,r1,q1⟩:=hq0
 refine wpAny_Slice (CN (hl pins s1 σ H1 _ I1 q1) fun vl s2 ⟨l,H2,I2,rl,q2⟩=>CN (hu pins s2 σ H2 _ I2 q2) fun vu s3 hq0=>?_)
 obtain ⟨u,H3,I3,ru,q3⟩:=hq0
 rw [evalPart_some]
 refine CN (hst pins s3 σ H3 _ I3 q3) fun vk s4 hq0=>?_
 obtain ⟨k,H4,I4,rk,j,ek,hj,a,xs,ex,hx,q⟩:=hq0
 subst ek ex
 obtain ⟨t,rfl⟩:=rk
 cases r1
 have I5:Inv X pins σ H4 { s4 with heap:=s4.heap.push { cls:=.type "slice",data:=.fields #[vl,vu,.int j t] } }:=I4.kept (t':=s4.toks) fun b ob q=>Heap.get?_push_of_some _ q
 obtain ⟨its,r,ht,hz⟩:=I5.list hx
 have hlen:=r.length
 show wpAny (model X.prog X.w) X.A (subscriptTail e (.Slice lo hi (some st) p2) (.ref a) (.ref s4.heap.objs.size)) (EP X pins σ Q) X.xe { s4 with heap:=s4.heap.push { cls:=.type "slice",data:=.fields #[vl,vu,.int j t] } }
 refine tail_any (ops:=[.ref a,.ref s4.heap.objs.size]) ht.isList.typeIs slot_list_getitem.lookup ?_ (by with_unfolding_all rfl)
 refine wpAny_getItem_list_slice ht.isList (Heap.IsSliceOf.new ..) rl ru (.int j t) (by intro z; cases z; omega) ?_ (by rw [List.size_toArray] <;> omega)
 have ep:slicePick its.toArray l u (some j)=((sliceRange (sliceBounds l u (some j) xs.length).1 (sliceBounds l u (some j) xs.length).2.1 (sliceBounds l u (some j) xs.length).2.2).filterMap (its[·]?)).toArray:=by
  unfold slicePick
  rw [List.size_toArray,hlen]
  simp only [List.getElem?_toArray]
 have hv:Vals (stepV xs l u j) ((sliceRange (sliceBounds l u (some j) xs.length).1 (sliceBounds l u (some j) xs.length).2.1 (sliceBounds l u (some j) xs.length).2.2).filterMap (its[·]?)):=QK r _
 have hsz:(stepV xs l u j).length<=xs.length:=by
  have:=slicePick_size_le its.toArray l u (some j)
  rw [ep,List.size_toArray,List.size_toArray,← hv.length] at this
  omega
 rw [ep]
 exact ⟨.ref _,_,I5.laid (t':=s4.toks) (o:=.lst (stepV xs l u j)) (fun b ob q=>Heap.get?_push_of_some _ q) (Nat.le_refl _) ⟨Nat.le_trans hsz hz,_,0,hv,Heap.get?_push_size _ rfl⟩,rfl,q _ (I5.hok.fresh (Nat.le_refl _)) hsz⟩
end
end L2
namespace Og
open PySem L2
theorem Ak {X:Cx} {K:PySem.W.Frag} (h:X.K=K):YG X (Z3 K):=h ▸ X8
theorem BV {X:Cx} {K:PySem.W.Frag} (h:X.K=K):YG X (Yj K):=h ▸ Ek
theorem Jw {X:Cx} {K:PySem.W.Frag} (h:X.K=K):Gp X (compareOp .In) (dC K false):=h ▸ JB
theorem Td {X:Cx} {e:Expr}:PE X e (fun _ _ _=>False):=fun _ _ _ _ _ _ h=>h.elim
structure R where
 w:Str
 nm:Str
 rest:List V
noncomputable abbrev R.v (r:R):List V:=.str r.w :: .str r.nm::r.rest
noncomputable def isNm (z:Str):Prop:=1<=z.length/\z.length<=8/\∀ c∈z.cps.toList,97<=c/\c<=122
noncomputable def Rows (H:Hp) (ρ:V->R) (vs:List V):Prop:=∀ v∈vs,TupAt H (ρ v).v v
theorem Rows.mono {H H':Hp} {ρ:V->R} {vs:List V} (s:An H H') (h:Rows H ρ vs):Rows H' ρ vs:=fun v hv=>(h v hv).mono s
theorem Rows.sub {H:Hp} {ρ:V->R} {vs us:List V} (h:Rows H ρ vs) (hs:∀ v∈us,v∈vs):Rows H ρ us:=fun v hv=>h v (hs v hv)
noncomputable abbrev pw (ρ:V->R) (w:Str) (v:V):Bool:=decide (V.str (ρ v).w=V.str w)
noncomputable abbrev pn (ρ:V->R) (t:Str) (v:V):Bool:=decide (V.str (ρ v).nm=V.str t)
noncomputable def V5 (ρ:V->R) (vs:List V) (w t:Str):Bool:=(vs.filter (pw ρ w)).any (pn ρ t)
noncomputable def KTup (K:PySem.W.Frag) (a:Addr) (xs:List V):Prop:=∃ (o:Obj) (its:Array Value) (n:Nat),K.lookup a=some o/\o.cls=.type "tuple" /\ o.data=.seq its n/\its.size<=sizeLine/\Vals xs its.toList
theorem KTup.sq {K:PySem.W.Frag} {a:Addr} {xs:List V} (h:KTup K a xs) (H:Hp):Hf K H a xs:=.inr h
noncomputable abbrev named:List Str:=["board","rank","stop","coupler","mute"]
noncomputable def Hm (K:PySem.W.Frag) (aB:Addr) (ρ:V->R) (vs:List V) (x:V) (part:Str):Prop :=
 (∃ (i lo hi:Int) (b:Addr),x=.int i/\PySem.W.nsIn K aB part=some (some (.ref b))/\KTup K b [.int lo,.int hi]/\lo<=i/\i<=hi) \/
 (PySem.W.nsIn K aB part=some none/\part = "new" /\ ∃ t,x=.str t/\isNm t/\∀ w∈named,V5 ρ vs w t=false) \/
 (PySem.W.nsIn K aB part=some none/\¬ part = "new" /\ ∃ t,x=.str t/\isNm t/\V5 ρ vs part t=true)
structure Kc (K:PySem.W.Frag) (aB aP aM:Addr) (ρ:V->R) (vs:List V) (r:R):Prop where
 ns:¬ r.w = "step"
 nl:¬ r.w = "line"
 parts:∃ (ap:Addr) (ps:List Str),PySem.W.nsIn K aP r.w=some (some (.ref ap))/\KTup K ap (ps.map V.str)/\(V.str r.nm::r.rest).length=ps.length/\ps.length<=10 /\
  ∀ (i:Nat) x y,(V.str r.nm::r.rest)[i]? = some x->ps[i]? = some y->Hm K aB ρ vs x y
 room:∃ (m:Int) (t:Tok),PySem.W.nsIn K aM r.w=some (some (.int m t))/\(((vs.filter (pw ρ r.w)).length:Nat):Int)<m
noncomputable def letters:Str:="abcdefghijklmnopqrstuvwxyz"
noncomputable abbrev Y_ (y:Str) (c:Nat):Bool:=!(Builtin.Str.occurrences y ⟨#[c]⟩ 0 y.length 1).isEmpty
theorem Vp:∀ c<128,Y_ letters c=decide (97<=c/\c<=122):=by decide +kernel
theorem Ax {H:Hp} {p:Addr} {o:HO} (h:H p=none):An H (upd H p o):=fun b u e=>by rw [BP (A_ e h)]; exact e
theorem JC {H:Hp} {p:Addr} {o:HO} (h:H p=none):∃ H',upd H p o=H'/\An H H'/\H' p=some o:=⟨_,rfl,Ax h,Aj⟩
theorem DY {n:Nat} (h:n<=1000):n<=sizeLine:=Nat.le_of_lt (BJ h)
theorem ty_int {K:PySem.W.Frag}:PySem.W.kitOne K (.type "int") (.type "int")=some true:=by kernel_rfl
theorem V9 {K:PySem.W.Frag}:PySem.W.kitOne K (.type "int") (.type "bool")=some false:=by kernel_rfl
theorem Pn {K:PySem.W.Frag}:PySem.W.kitOne K (.type "list") (.type "list")=some true:=by kernel_rfl
theorem MF {K:PySem.W.Frag}:PySem.W.kitOne K (.type "tuple") (.type "tuple")=some true:=by kernel_rfl
theorem Vz {K:PySem.W.Frag}:PySem.W.kitOne K (.type "str") (.type "str")=some true:=by kernel_rfl
theorem G7 (vs:List V) (n:Nat) (h:n<=vs.length):Cy vs none (some (n:Int))=vs.take n:=by
 unfold Cy
 have e1:HT.D_ vs.length 0 none=0:=rfl
 have e2:HT.D_ vs.length vs.length (some (n:Int))=n:=by
  rw [HT.Hy]
  omega
 rw [e1,e2]
 simp
theorem Ha {α:Type} (p:α->Bool) (l:List α):(l.filter p).length<=l.length:=List.length_filter_le _ _
noncomputable abbrev bV (b:Str × Nat):List V:=[.str b.1,.int (b.2:Nat)]
noncomputable abbrev Fw (b:Str × Nat):R:=⟨"board",b.1,[.int (b.2:Nat)]⟩
noncomputable abbrev qV (q:Nat × Nat):List V:=[.int (q.1:Nat),.int (q.2:Nat)]
noncomputable def Ed (bs:List (Str × Nat)):List (Nat × Nat):=bs.zipIdx.flatMap fun p=>(List.range p.1.2).map fun e=>(p.2,e)
theorem Sy (bs:List (Str × Nat)) (b:Str × Nat):Ed (bs++[b])=Ed bs++(List.range b.2).map fun e=>(bs.length,e):=by
 unfold Ed
 rw [List.zipIdx_append]
 simp
theorem G4 {bs:List (Str × Nat)} {i:Nat} {b:Str × Nat} (h:bs[i]? = some b):Ed (bs.take (i+1))=Ed (bs.take i)++(List.range b.2).map fun e=>(i,e):=by
 have hi:i<bs.length:=(List.getElem?_eq_some_iff.mp h).1
 rw [List.take_add_one,h]
 show Ed (bs.take i++[b])=_
 rw [Sy,List.length_take,Nat.min_eq_left (by omega)]
theorem K1 (bs:List (Str × Nat)) (M:Nat):(∀ b∈bs,b.2<=M)->(Ed bs).length<=bs.length * M:=by
 intro h
 have key:∀ i,i<=bs.length->(Ed (bs.take i)).length<=i * M:=by
  intro i
  induction i with
  | zero=>intro _; simp [Ed]
  | succ i ih =>
   intro hi
   have hlt:i<bs.length:=by omega
   rw [G4 (List.getElem?_eq_getElem hlt),List.length_append,List.length_map,List.length_range]
   have h1:=ih (by omega)
   have h2:=h bs[i] (List.getElem_mem hlt)
   have:(i+1) * M=i * M+M:=by rw [Nat.add_mul,Nat.one_mul]
   omega
 have:=key bs.length (Nat.le_refl _)
 rw [List.take_length] at this
 exact this
theorem DX {α β:Type} {F:α->β->Prop} {l:List α} {vs:List β} (h:Paired F l vs):∀ {v},v∈vs->∃ a∈l,F a v:=by
 induction h with
 | nil=>intro v hv; cases hv
 | cons a b ih =>
  intro v hv
  rcases List.mem_cons.mp hv with rfl | hv
  ·exact ⟨_,List.mem_cons_self ..,a⟩
  ·obtain ⟨x,hx,q⟩:=ih hv
   exact ⟨x,List.mem_cons_of_mem _ hx,q⟩
theorem Bq {α β:Type} {F:α->β->Prop} {l:List α} {vs:List β} (h:Paired F l vs):∀ {i:Nat} {a},l[i]? = some a->∃ v,vs[i]? = some v/\F a v:=by
 induction h with
 | nil=>intro i a ha; simp at ha
 | cons x y ih =>
  intro i a ha
  cases i with
  | zero =>
   simp at ha
   subst ha
   exact ⟨_,rfl,x⟩
  | succ i=>exact ih (by simpa using ha)
theorem Eo {α β:Type} {F:α->β->Prop} {l:List α} {vs:List β} (h:Paired F l vs):∀ {i:Nat} {v},vs[i]? = some v->∃ a,l[i]? = some a/\F a v:=by
 induction h with
 | nil=>intro i a ha; simp at ha
 | cons x y ih =>
  intro i a ha
  cases i with
  | zero =>
   simp at ha
   subst ha
   exact ⟨_,rfl,x⟩
  | succ i=>exact ih (by simpa using ha)
theorem JN {α β:Type} {F:α->β->Prop} {l:List α} {vs:List β} (h:Paired F l vs):∀ n:Nat,Paired F (l.take n) (vs.take n):=by
 induction h with
 | nil=>intro n; simp; exact .nil
 | cons x y ih =>
  intro n
  cases n with
  | zero=>exact .nil
  | succ n=>exact .cons x (ih n)
theorem FQ {α β:Type} {F:α->β->Prop} {l l':List α} {vs vs':List β} (h:Paired F l vs) (h':Paired F l' vs'):Paired F (l++l') (vs++vs'):=by
 induction h with
 | nil=>exact h'
 | cons x y ih=>exact .cons x ih
theorem Bx {α β γ:Type} {F:γ->β->Prop} (g:α->γ) {l:List α} {vs:List β} (h:Paired (fun a v=>F (g a) v) l vs):Paired F (l.map g) vs:=by
 induction h with
 | nil=>exact .nil
 | cons x y ih=>exact .cons x ih
theorem Fy {α β γ:Type} {F:γ->β->Prop} (g:α->γ):∀ {l:List α} {vs:List β},Paired F (l.map g) vs->Paired (fun a v=>F (g a) v) l vs
 | [],_,h=>by cases h; exact .nil
 | a::l,_,h=>by
  cases h with
  | cons x y=>exact .cons x (Fy g y)
noncomputable def Jd (H:Hp) (k:Nat):V->V
 | .ref T=>match H T with
  | some (.tup xs)=>xs.getD k .non
  | _=>.non
 | _=>.non
theorem Gg {H:Hp} {zs:List V} {v:V} (h:TupAt H zs v) (k:Nat):Jd H k v=zs.getD k .non:=by
 obtain ⟨T,rfl,e⟩:=h
 show (match H T with | some (.tup xs)=>xs.getD k V.non | _=>V.non)=_
 rw [e]
theorem JV {α:Type} {H:Hp} {g:α->List V} (k:Nat) {l:List α} {vs:List V} (h:Paired (fun a v=>TupAt H (g a) v) l vs):vs.map (Jd H k)=l.map fun a=>(g a).getD k .non:=by
 induction h with
 | nil=>rfl
 | cons x y ih=>rw [List.map_cons,List.map_cons,ih,Gg x]
noncomputable def SX (x:Addr) (H H':Hp):Prop:=∀ b o,H b=some o->b ≠ x->H' b=some o
theorem SX.trans {x:Addr} {H H1 H2:Hp} (a:SX x H H1) (b:SX x H1 H2):SX x H H2:=fun c o h n=>b c o (a c o h n) n
theorem SX.of {x:Addr} {H H':Hp} (s:An H H'):SX x H H':=fun b o h _=>s b o h
theorem SX.up {x:Addr} {H:Hp} {o:HO}:SX x H (upd H x o):=fun b u h n=>by rw [BP n]; exact h
theorem SX.tup {x:Addr} {H H':Hp} {zs:List V} {y:V} {C dx:Addr} {fs:List (Str × V)} (s:SX x H H') (hx:H x=some (.ins C dx fs)) (h:TupAt H zs y):TupAt H' zs y:=by
 obtain ⟨T,e,q⟩:=h
 exact ⟨T,e,s _ _ q fun z=>by rw [z,hx] at q; cases q⟩
theorem SX.pair {α:Type} {x:Addr} {H H':Hp} {f:α->List V} {l:List α} {vs:List V} {C dx:Addr} {fs:List (Str × V)} (s:SX x H H') (hx:H x=some (.ins C dx fs)) (h:Paired (fun a y=>TupAt H (f a) y) l vs):Paired (fun a y=>TupAt H' (f a) y) l vs:=Paired.Fb h fun _ _ q=>s.tup hx q
theorem SX.lst {x a:Addr} {H H':Hp} {xs:List V} {C dx:Addr} {fs:List (Str × V)} (s:SX x H H') (hx:H x=some (.ins C dx fs)) (h:H a=some (.lst xs)):H' a=some (.lst xs):=s _ _ h fun z=>by rw [z,hx] at h; cases h
theorem SX.dk {x a:Addr} {H H':Hp} {kvs:List (Key × V)} {C dx:Addr} {fs:List (Str × V)} (s:SX x H H') (hx:H x=some (.ins C dx fs)) (h:H a=some (.dK kvs)):H' a=some (.dK kvs):=s _ _ h fun z=>by rw [z,hx] at h; cases h
noncomputable abbrev meths:List Str:=["ranks","pipe_count","pipe","rank_of","board_of_knob","boards","key_count","key","board_of","coupler","knobs","knob_number","board_number","stop","mute","steps","rows"]
structure Di (C:Addr) (H:Hp) (x:Addr) (bs:List (Str × Nat)) (ks:List R):Prop where
 ob:∃ (dx:Addr) (fs:List (Str × V)) (bl bn kp kr:Addr) (bvs pvs uvs:List V) (kvs:List (Key × V)),H x=some (.ins C dx fs)/\fs.lookup ("board_list" : Str)=some (.ref bl)/\fs.lookup ("board_numbers" : Str)=some (.ref bn)/\fs.lookup ("key_places" : Str)=some (.ref kp)/\fs.lookup ("knob_rows" : Str)=some (.ref kr) /\
  (∀ m∈meths,fs.lookup m=none)/\H bl=some (.lst bvs)/\Paired (fun b y=>TupAt H (bV b) y) bs bvs/\H bn=some (.dK kvs)/\(∀ (i:Nat) b,bs[i]? = some b->Dt kvs (Sum.inr b.1)=some (.int (i:Nat))) /\
  H kp=some (.lst pvs)/\Paired (fun q y=>TupAt H (qV q) y) (Ed bs) pvs/\H kr=some (.lst uvs)/\Paired (fun (r:R) y=>TupAt H r.v y) ks uvs
 nb:bs.length<=5
 sz:∀ b∈bs,b.2<=61
 nk:ks.length<=200
theorem Di.mono {C:Addr} {H H':Hp} {x:Addr} {bs:List (Str × Nat)} {ks:List R} (s:An H H') (h:Di C H x bs ks):Di C H' x bs ks:=by
 obtain ⟨⟨dx,fs,bl,bn,kp,kr,bvs,pvs,uvs,kvs,h1,l1,l2,l3,l4,lm,h2,h3,h4,h5,h6,h7,h8,h9⟩,a,b,c⟩:=h
 exact ⟨⟨dx,fs,bl,bn,kp,kr,bvs,pvs,uvs,kvs,s _ _ h1,l1,l2,l3,l4,lm,s _ _ h2,Al s h3,s _ _ h4,h5,s _ _ h6,Al s h7,s _ _ h8,Al s h9⟩,a,b,c⟩
end Og
namespace Og
open PySem L2 PyProof.Rows
inductive Kb where
 | cp (i j:Nat) (s:Int)
 | pl (w:Str) (i:Nat)
noncomputable def Kb.w:Kb->Str
 | .cp _ _ _=>"coupler"
 | .pl w _=>w
noncomputable def Kb.v:Kb->List V
 | .cp i j s=>[.str "coupler",.int (i:Nat),.int (j:Nat),.int s]
 | .pl w i=>[.str w,.int (i:Nat)]
noncomputable def Kb.ok (n:Nat):Kb->Prop
 | .cp i j s=>i<n/\j<n /\ -60<=s/\s<=60
 | .pl w i=>i<n/\(w = "mute" \/ w = "stop")
theorem Kb.wo {n:Nat} {k:Kb} (h:k.ok n):k.w = "stop" \/ k.w = "coupler" \/ k.w = "mute":=by
 cases k with
 | cp i j s=>exact .inr (.inl rfl)
 | pl w i=>rcases h.2 with e | e; exact .inr (.inr e); exact .inl e
theorem Kb.v0 (k:Kb):∃ r,k.v=.str k.w::r:=by cases k <;> exact ⟨_,rfl⟩
noncomputable def Fo (w:Str):Nat:=if w = "coupler" then 12 else if w = "mute" then 5 else 24
noncomputable abbrev G3 (w:Str) (z:Kb):Bool:=decide (V.str z.w=V.str w)
structure Lx (n:Nat) (kbs:List Kb):Prop where
 ok:∀ k∈kbs,k.ok n
 room:∀ (i:Nat) k,kbs[i]? = some k->((kbs.take i).filter (G3 k.w)).length<Fo k.w
 len:kbs.length<=70
noncomputable def JQ (c:Nat->Str) (k:Nat):Kb->R
 | .cp i j s=>⟨"coupler",c (30+k),[.str (c i),.str (c j),.int s]⟩
 | .pl w i=>⟨w,c (30+k),[.str (c i)]⟩
theorem Gb (c:Nat->Str) (k:Nat) (z:Kb):(JQ c k z).w=z.w:=by cases z <;> rfl
theorem P_ (c:Nat->Str) (k:Nat) (z:Kb):(JQ c k z).nm=c (30+k):=by cases z <;> rfl
noncomputable def BZ (c:Nat->Str) (sz:List Nat):List (Str × Nat):=sz.zipIdx.map fun p=>(c p.2,p.1)
noncomputable def Bw (c:Nat->Str) (kbs:List Kb):List R:=kbs.zipIdx.map fun p=>JQ c p.2 p.1
theorem Ci {c:Nat->Str} {sz:List Nat} {i z:Nat} (h:sz[i]? = some z):(BZ c sz)[i]? = some (c i,z):=by
 unfold BZ
 rw [List.getElem?_map,List.getElem?_zipIdx,h]
 simp
theorem GJ {c:Nat->Str} {sz:List Nat} {i:Nat} {b:Str × Nat} (h:(BZ c sz)[i]? = some b):∃ z,sz[i]? = some z/\b=(c i,z):=by
 have hi:i<(BZ c sz).length:=(List.getElem?_eq_some_iff.mp h).1
 have hi':i<sz.length:=by simpa [BZ] using hi
 refine ⟨sz[i],List.getElem?_eq_getElem hi',?_⟩
 rw [Ci (List.getElem?_eq_getElem hi')] at h
 exact (Option.some.inj h).symm
theorem GP (c:Nat->Str) (sz:List Nat):(BZ c sz).length=sz.length:=by simp [BZ]
theorem B_ (c:Nat->Str) (sz:List Nat):(BZ c sz).map (·.2)=sz:=by
 unfold BZ
 rw [List.map_map]
 refine List.ext_getElem? fun i=>?_
 rw [List.getElem?_map,List.getElem?_zipIdx]
 cases sz[i]? <;> simp
theorem De {c:Nat->Str} {kbs:List Kb} {i:Nat} {z:Kb} (h:kbs[i]? = some z):(Bw c kbs)[i]? = some (JQ c i z):=by
 unfold Bw
 rw [List.getElem?_map,List.getElem?_zipIdx,h]
 simp
theorem Do {c:Nat->Str} {kbs:List Kb} {i:Nat} {r:R} (h:(Bw c kbs)[i]? = some r):∃ z,kbs[i]? = some z/\r=JQ c i z:=by
 have hi:i<(Bw c kbs).length:=(List.getElem?_eq_some_iff.mp h).1
 have hi':i<kbs.length:=by simpa [Bw] using hi
 refine ⟨kbs[i],List.getElem?_eq_getElem hi',?_⟩
 rw [De (List.getElem?_eq_getElem hi')] at h
 exact (Option.some.inj h).symm
theorem GQ (c:Nat->Str) (kbs:List Kb):(Bw c kbs).length=kbs.length:=by simp [Bw]
structure KF (K:PySem.W.Frag) (aB aP aM:Addr):Prop where
 pB:∃ a,PySem.W.nsIn K aP "board" = some (some (.ref a))/\KTup K a (["new","keys"].map fun s:String=>V.str s)
 pS:∃ a,PySem.W.nsIn K aP "stop" = some (some (.ref a))/\KTup K a (["new","board"].map fun s:String=>V.str s)
 pM:∃ a,PySem.W.nsIn K aP "mute" = some (some (.ref a))/\KTup K a (["new","board"].map fun s:String=>V.str s)
 pC:∃ a,PySem.W.nsIn K aP "coupler" = some (some (.ref a))/\KTup K a (["new","board","board","leap"].map fun s:String=>V.str s)
 bK:∃ a,PySem.W.nsIn K aB "keys" = some (some (.ref a))/\KTup K a [.int 1,.int 61]
 bL:∃ a,PySem.W.nsIn K aB "leap" = some (some (.ref a))/\KTup K a [.int (-60),.int 60]
 bN:PySem.W.nsIn K aB "new" = some none
 bB:PySem.W.nsIn K aB "board" = some none
 mB:∃ t,PySem.W.nsIn K aM "board" = some (some (.int 5 t))
 mS:∃ t,PySem.W.nsIn K aM "stop" = some (some (.int 24 t))
 mC:∃ t,PySem.W.nsIn K aM "coupler" = some (some (.int 12 t))
 mM:∃ t,PySem.W.nsIn K aM "mute" = some (some (.int 5 t))
noncomputable def UG (H:Hp):V->R
 | .ref T=>match H T with
  | some (.tup (.str w :: .str n::r))=>⟨w,n,r⟩
  | _=>⟨"","",[]⟩
 | _=>⟨"","",[]⟩
theorem N5 {H:Hp} {r:R} {v:V} (h:TupAt H r.v v):UG H v=r:=by
 obtain ⟨T,rfl,e⟩:=h
 show (match H T with | some (.tup (.str w :: .str n::r))=>(⟨w,n,r⟩:R) | _=>⟨"","",[]⟩)=r
 rw [e]
theorem PK {H:Hp} {rs:List R} {vs:List V} (h:Paired (fun (r:R) v=>TupAt H r.v v) rs vs):vs.map (UG H)=rs:=by
 induction h with
 | nil=>rfl
 | cons x y ih=>rw [List.map_cons,ih,N5 x]
theorem Bv (f:Str) (v:V):∀ l:List (Str × V),(Bj f v l).length<=l.length+1
 | []=>Nat.le_refl _
 | p::r=>by
  unfold Bj
  split
  ·simp
  ·have:=Bv f v r
   simp only [List.length_cons]
   omega
noncomputable abbrev Iw (s:Str):Bool:=inV (.str s) [.str "stop",.str "coupler",.str "mute"]
structure lG (K:PySem.W.Frag) (aB aP aM:Addr) (ρ:V->R) (us:List V) (bs:List (Str × Nat)) (ks:List R):Prop where
 kinds:∀ v∈us,(ρ v).w = "board" \/ (ρ v).w = "stop" \/ (ρ v).w = "coupler" \/ (ρ v).w = "mute"
 eb:(us.filter (pw ρ "board")).map ρ=bs.map Fw
 ek:(us.filter (fun v=>Iw (ρ v).w)).map ρ=ks
 b0:1<=bs.length
 b5:bs.length<=5
 sz:∀ b∈bs,b.2<=61
 nk:ks.length<=100
 nb:(bs.map (·.1)).Nodup
 nn:(ks.map (·.nm)).Nodup
 len:us.length<=105
 ok:∀ (i:Nat) v,us[i]? = some v->Kc K aB aP aM ρ (us.take i) (ρ v)
noncomputable def G9 (ρ:V->R) (vs:List V):List (Str × Str):=vs.map fun v=>((ρ v).w,(ρ v).nm)
noncomputable abbrev Pg (wn:List (Str × Str)) (w t:Str):Bool:=(wn.filter fun p=>decide (p.1=w)).any fun p=>decide (p.2=t)
noncomputable abbrev S_ (wn:List (Str × Str)) (w:Str):Nat:=(wn.filter fun p=>decide (p.1=w)).length
theorem HD (a b:Str):decide (V.str a=V.str b)=decide (a=b):=by
 rw [Bool.eq_iff_iff,decide_eq_true_eq,decide_eq_true_eq]
 exact ⟨V.str.inj,congrArg V.str⟩
theorem JH (ρ:V->R) (vs:List V) (w t:Str):V5 ρ vs w t=Pg (G9 ρ vs) w t:=by
 unfold V5 G9
 show _=((vs.map fun v=>((ρ v).w,(ρ v).nm)).filter fun p=>decide (p.1=w)).any fun p=>decide (p.2=t)
 rw [List.filter_map,List.any_map]
 have e1:pw ρ w=(fun p:Str × Str=>decide (p.1=w)) ∘ fun v=>((ρ v).w,(ρ v).nm):=by
  funext v
  exact HD _ _
 have e2:pn ρ t=(fun p:Str × Str=>decide (p.2=t)) ∘ fun v=>((ρ v).w,(ρ v).nm):=by
  funext v
  exact HD _ _
 rw [e1,e2]
theorem Hb (ρ:V->R) (vs:List V) (w:Str):(vs.filter (pw ρ w)).length=S_ (G9 ρ vs) w:=by
 unfold G9
 show _=((vs.map fun v=>((ρ v).w,(ρ v).nm)).filter fun p=>decide (p.1=w)).length
 rw [List.filter_map,List.length_map]
 have e1:pw ρ w=(fun p:Str × Str=>decide (p.1=w)) ∘ fun v=>((ρ v).w,(ρ v).nm):=by
  funext v
  exact HD _ _
 rw [e1]
section
variable {K:PySem.W.Frag} {aB aP aM:Addr} {ρ:V->R} {vs:List V} {wn:List (Str × Str)} {t:Str}
theorem Hz (F:KF K aB aP aM) (e:G9 ρ vs=wn) (ht:isNm t) (h:∀ w∈named,Pg wn w t=false):Hm K aB ρ vs (.str t) "new" :=
 .inr (.inl ⟨F.bN,rfl,_,rfl,ht,fun w hw=>by rw [JH,e]; exact h w hw⟩)
theorem Hh (F:KF K aB aP aM) (e:G9 ρ vs=wn) (ht:isNm t) (h:Pg wn "board" t=true):Hm K aB ρ vs (.str t) "board" :=
 .inr (.inr ⟨F.bB,by decide +kernel,_,rfl,ht,by rw [JH,e]; exact h⟩)
theorem Qo (F:KF K aB aP aM) (e:G9 ρ vs=wn) (ht:isNm t) (h:∀ w∈named,Pg wn w t=false) (hc:S_ wn "board" < 5) {n:Nat} (h1:1<=n) (h2:n<=61):Kc K aB aP aM ρ vs (Fw (t,n)):=by
 obtain ⟨ap,g1,g2⟩:=F.pB
 obtain ⟨ab,g3,g4⟩:=F.bK
 obtain ⟨tk,g5⟩:=F.mB
 refine ⟨by show ¬ ("board" : Str) = "step"; decide +kernel,by show ¬ ("board" : Str) = "line"; decide +kernel,⟨ap,["new","keys"],g1,g2,rfl,by decide,fun j x y hx hy=>?_⟩,⟨5,tk,g5,?_⟩⟩
 ·match j,hx,hy with
  | 0,hx,hy =>
   cases (Option.some.inj hx)
   cases (Option.some.inj hy)
   exact Hz F e ht h
  | 1,hx,hy =>
   cases (Option.some.inj hx)
   cases (Option.some.inj hy)
   exact .inl ⟨_,1,61,ab,rfl,g3,g4,by omega,by omega⟩
  | j+2,hx,hy=>simp at hy
 ·rw [Hb,e]
  show ((S_ wn "board" : Nat):Int)<5
  omega
theorem Ms (F:KF K aB aP aM) (e:G9 ρ vs=wn) (ht:isNm t) (h:∀ w∈named,Pg wn w t=false) (hc:S_ wn "coupler" < 12) {a b:Str} (ha:isNm a) (ha':Pg wn "board" a=true) (hb:isNm b) (hb':Pg wn "board" b=true) {s:Int} (h1 : -60<=s) (h2:s<=60):Kc K aB aP aM ρ vs ⟨"coupler",t,[.str a,.str b,.int s]⟩:=by
 obtain ⟨ap,g1,g2⟩:=F.pC
 obtain ⟨ab,g3,g4⟩:=F.bL
 obtain ⟨tk,g5⟩:=F.mC
 refine ⟨by show ¬ ("coupler" : Str) = "step"; decide +kernel,by show ¬ ("coupler" : Str) = "line"; decide +kernel,⟨ap,["new","board","board","leap"],g1,g2,rfl,by decide,fun j x y hx hy=>?_⟩,⟨12,tk,g5,?_⟩⟩
 ·match j,hx,hy with
  | 0,hx,hy =>
   cases (Option.some.inj hx)
   cases (Option.some.inj hy)
   exact Hz F e ht h
  | 1,hx,hy =>
   cases (Option.some.inj hx)
   cases (Option.some.inj hy)
   exact Hh F e ha ha'
  | 2,hx,hy =>
   cases (Option.some.inj hx)
   cases (Option.some.inj hy)
   exact Hh F e hb hb'
  | 3,hx,hy =>
   cases (Option.some.inj hx)
   cases (Option.some.inj hy)
   exact .inl ⟨_,-60,60,ab,rfl,g3,g4,h1,h2⟩
  | j+4,hx,hy=>simp at hy
 ·rw [Hb,e]
  show ((S_ wn "coupler" : Nat):Int)<12
  omega
end
theorem HF {α:Type} {l:List α} (h:∀ (i j:Nat) x,l[i]? = some x->l[j]? = some x->i=j):l.Nodup:=by
 refine List.pairwise_iff_getElem.mpr fun i j hi hj hij e=>?_
 have:=h i j l[i] (List.getElem?_eq_getElem hi) (by rw [e]; exact List.getElem?_eq_getElem hj)
 omega
theorem PP {bs:List (Str × Nat)}:∀ {i a n:Nat},(Ed bs)[i]? = some (a,n)->∃ b,bs[a]? = some b/\n<b.2/\i=((bs.map (·.2)).take a).sum+n:=by
 have key:∀ m,m<=bs.length->∀ {i a n:Nat},(Ed (bs.take m))[i]? = some (a,n)->∃ b,bs[a]? = some b/\n<b.2/\i=((bs.map (·.2)).take a).sum+n:=by
  intro m
  induction m with
  | zero =>
   intro _ i a n h
   simp [Ed] at h
  | succ m ih =>
   intro hm i a n h
   have hlt:m<bs.length:=by omega
   have hb:=List.getElem?_eq_getElem hlt
   rw [G4 hb] at h
   have hlen:(Ed (bs.take m)).length=((bs.map (·.2)).take m).sum:=by
    have g:∀ m,m<=bs.length->(Ed (bs.take m)).length=((bs.map (·.2)).take m).sum:=by
     intro m
     induction m with
     | zero=>intro _; simp [Ed]
     | succ m ih =>
      intro hm
      have hlt:m<bs.length:=by omega
      rw [G4 (List.getElem?_eq_getElem hlt),List.length_append,ih (by omega),List.length_map,List.length_range,List.take_add_one,List.getElem?_map,List.getElem?_eq_getElem hlt,List.sum_append]
      simp
    exact g m (by omega)
   by_cases hi:i<(Ed (bs.take m)).length
   ·rw [List.getElem?_append_left hi] at h
    exact ih (by omega) h
   ·rw [List.getElem?_append_right (by omega),List.getElem?_map] at h
    obtain ⟨e,he,q⟩:=Option.map_eq_some_iff.mp h
    have he':i - (Ed (bs.take m)).length<bs[m].2/\e=i - (Ed (bs.take m)).length:=by
     obtain ⟨h1,h2⟩:=List.getElem?_eq_some_iff.mp he
     rw [List.length_range] at h1
     rw [List.getElem_range] at h2
     exact ⟨h1,h2.symm⟩
    obtain ⟨q1,q2⟩:=Prod.mk.inj q
    subst q1 q2
    refine ⟨bs[m],hb,by omega,?_⟩
    rw [← hlen]
    omega
 intro i a n h
 refine key bs.length (Nat.le_refl _) ?_
 rw [List.take_length]
 exact h
theorem Fi (bs:List (Str × Nat)):(Ed bs).length=(bs.map (·.2)).sum:=by
 unfold Ed
 rw [List.length_flatMap]
 have:(bs.zipIdx.map fun p=>((List.range p.1.2).map fun e=>(p.2,e)).length)=bs.map (·.2):=by
  refine List.ext_getElem? fun i=>?_
  rw [List.getElem?_map,List.getElem?_map,List.getElem?_zipIdx]
  cases bs[i]? <;> simp
 rw [this]
end Og
namespace Og
open PySem L2
noncomputable def Ji (bs:List (Str × Nat)) (j1 j2:Nat) (s:Int) (qd:Nat × Nat) (z2:Nat):V :=
 if qd.1=j1/\0<=(qd.2:Int)+s/\(qd.2:Int)+s<z2 then .int ((((bs.take j2).map (·.2)).sum:Nat)+((qd.2:Int)+s)) else .non
noncomputable def gl (bs:List (Str × Nat)):Kb->Nat->Option Nat
 | .cp j1 j2 s,i=>match (Ed bs)[i]?,bs[j2]? with
  | some qd,some b2=>match Ji bs j1 j2 s qd b2.2 with
   | .int v=>some v.toNat
   | _=>none
  | _,_=>none
 | .pl _ _,_=>none
theorem LR (l:List Nat):∀ {a b:Nat},a<=b->(l.take a).sum<=(l.take b).sum:=by
 intro a b h
 have e:l.take a=(l.take b).take a:=by rw [List.take_take,Nat.min_eq_left h]
 rw [e]
 have:=congrArg List.sum (List.take_append_drop a (l.take b))
 rw [List.sum_append] at this
 omega
theorem Od {bs:List (Str × Nat)} {j1 j2 i:Nat} {s:Int} {qd:Nat × Nat} {b2:Str × Nat} (hq:(Ed bs)[i]? = some qd) (hb:bs[j2]? = some b2) :
  (Ji bs j1 j2 s qd b2.2=.non/\gl bs (.cp j1 j2 s) i=none) \/ ∃ j:Nat,Ji bs j1 j2 s qd b2.2=.int (j:Nat)/\gl bs (.cp j1 j2 s) i=some j/\j<(bs.map (·.2)).sum:=by
 have e:gl bs (.cp j1 j2 s) i=match Ji bs j1 j2 s qd b2.2 with | .int v=>some v.toNat | _=>none:=by
  simp only [gl,hq,hb]
 rw [e]
 unfold Ji
 by_cases h:qd.1=j1/\0<=(qd.2:Int)+s/\(qd.2:Int)+s<b2.2
 ·rw [if_pos h]
  obtain ⟨h1,h2,h3⟩:=h
  have hs:((bs.map (·.2)).take (j2+1)).sum=(((bs.take j2).map (·.2)).sum+b2.2):=by
   rw [List.take_add_one,List.getElem?_map,hb,List.sum_append,List.map_take]
   simp
  have hle:((bs.map (·.2)).take (j2+1)).sum<=(bs.map (·.2)).sum:=by
   have:=congrArg List.sum (List.take_append_drop (j2+1) (bs.map (·.2)))
   rw [List.sum_append] at this
   omega
  refine .inr ⟨((((bs.take j2).map (·.2)).sum:Nat)+((qd.2:Int)+s)).toNat,?_,rfl,by omega⟩
  rw [Int.toNat_of_nonneg (by omega)]
 ·rw [if_neg h]
  exact .inl ⟨rfl,rfl⟩
theorem V6 {bs:List (Str × Nat)} {z:Kb} {i j:Nat} (h:gl bs z i=some j):j<(bs.map (·.2)).sum:=by
 cases z with
 | pl w a=>cases h
 | cp j1 j2 s =>
  cases hq:(Ed bs)[i]? with
  | none =>
   simp only [gl,hq] at h
   cases h
  | some qd =>
   cases hb:bs[j2]? with
   | none =>
    simp only [gl,hq,hb] at h
    cases h
   | some b2 =>
    rcases Od (j1:=j1) (s:=s) hq hb with ⟨_,e⟩ | ⟨j',_,e,lt⟩
    ·rw [e] at h
     cases h
    ·rw [e] at h
     cases h
     exact lt
noncomputable abbrev Wn (z:Kb):Bool:=decide (V.str z.w=V.str "coupler")
theorem WD {bs:List (Str × Nat)} {z:Kb} {i j:Nat} (h:gl bs z i=some j):Wn z=true:=by
 cases z with
 | pl w a=>cases h
 | cp j1 j2 s=>exact decide_eq_true rfl
theorem Pj {n:Nat} {z:Kb} (ho:z.ok n) (h:Wn z=true):∃ i j s,z=.cp i j s:=by
 cases z with
 | cp i j s=>exact ⟨i,j,s,rfl⟩
 | pl w i =>
  exfalso
  have h':=V.str.inj (of_decide_eq_true h)
  rcases ho.2 with rfl | rfl
  ·exact absurd h' (by show ¬ ("mute" : Str) = "coupler"; decide +kernel)
  ·exact absurd h' (by show ¬ ("stop" : Str) = "coupler"; decide +kernel)
noncomputable def stp (bs:List (Str × Nat)) (kbs:List Kb) (D:Nat) (i j:Nat):Prop:=∃ k z,D.testBit k=true/\kbs[k]? = some z/\gl bs z i=some j
inductive Lq (st:Nat->Nat->Prop) (hd:Nat->Prop):Nat->Prop
 | one {i j:Nat}:hd i->st i j->Lq st hd j
 | more {i j:Nat}:Lq st hd i->st i j->Lq st hd j
theorem Lq.lt {bs:List (Str × Nat)} {kbs:List Kb} {D:Nat} {h:Nat->Prop} {j:Nat} (r:Lq (stp bs kbs D) h j):j<(bs.map (·.2)).sum:=by
 cases r with
 | one a b=>obtain ⟨k,z,_,_,e⟩:=b; exact V6 e
 | more a b=>obtain ⟨k,z,_,_,e⟩:=b; exact V6 e
theorem Lq.all {st:Nat->Nat->Prop} {hd:Nat->Prop} {W:Nat->Prop} (h1:∀ j,W j->Lq st hd j) (h2:∀ i,(hd i \/ W i)->∀ j,st i j->W j) (j:Nat):W j ↔ Lq st hd j:=by
 refine ⟨h1 j,fun h=>?_⟩
 induction h with
 | one a b=>exact h2 _ (.inl a) _ b
 | more a b ih=>exact h2 _ (.inr ih) _ b
theorem Dp:∀ (T:Nat) {l:List Nat},l.Nodup->(∀ x∈l,x<T)->l.length<=T
 | 0,l,_,h=>by
  cases l with
  | nil=>exact Nat.le_refl _
  | cons a l=>exact absurd (h a (List.mem_cons_self ..)) (Nat.not_lt_zero _)
 | T+1,l,nd,h=>by
  have ih:=Dp T (l:=l.erase T) (nd.erase T) fun x hx=>by
   have h1:=h x (List.mem_of_mem_erase hx)
   have h2:x ≠ T:=fun z=>by
    subst z
    exact nd.not_mem_erase hx
   omega
  have:=List.length_erase (a:=T) (l:=l)
  split at this <;> omega
theorem Rz (a b i:Nat):(a ||| b).testBit i=true ↔ a.testBit i=true \/ b.testBit i=true:=by
 rw [Nat.testBit_or,Bool.or_eq_true]
theorem K6 {a b:Nat} (h:∀ i,a.testBit i=true ↔ b.testBit i=true):a=b:=Nat.eq_of_testBit_eq fun i=>Bool.eq_iff_iff.mpr (h i)
end Og
namespace Og
open PySem L2 PyProof.Rows
noncomputable abbrev Th:=Str × Nat × List V
noncomputable abbrev tV (a:Th):List V:=.str a.1 :: .int (a.2.1:Nat)::a.2.2
noncomputable abbrev tN (a:Th):Str × Nat:=(a.1,a.2.1)
noncomputable abbrev Rg (r:Str × Nat × Int):Th:=(r.1,r.2.1,[.int r.2.2])
noncomputable abbrev YK (b:Str × Nat):Th:=(b.1,b.2,[])
noncomputable abbrev QZ (r:Str × Nat × Int):Str × Nat:=(r.1,r.2.1)
noncomputable abbrev Hv (r:Str × Nat × Int):R:=⟨"rank",r.1,[.int (r.2.1:Nat),.int r.2.2]⟩
structure Ln where
 r:Nat
 sh:Int
 lo:Int
 hi:Int
noncomputable abbrev RG (l:Ln):List V:=[.int (l.r:Nat),.int l.sh,.int l.lo,.int l.hi]
noncomputable def Hl (H:Hp) (l:List Ln) (v:V):Prop:=∃ (A:Addr) (ts:List V),v=.ref A/\H A=some (.lst ts)/\Paired (fun x y=>TupAt H (RG x) y) l ts
noncomputable def Gh (H:Hp) (D:Addr) (ls:List (List Ln)):Prop:=∃ lv,H D=some (.lst lv)/\Paired (fun l v=>Hl H l v) ls lv
theorem Hl.mono {H H':Hp} {l:List Ln} {v:V} (s:An H H') (h:Hl H l v):Hl H' l v:=by
 obtain ⟨A,ts,e,h1,h2⟩:=h
 exact ⟨A,ts,e,s _ _ h1,Al s h2⟩
theorem Gh.mono {H H':Hp} {D:Addr} {ls:List (List Ln)} (s:An H H') (h:Gh H D ls):Gh H' D ls:=by
 obtain ⟨lv,h1,h2⟩:=h
 exact ⟨lv,s _ _ h1,Paired.Fb h2 fun _ _ q=>q.mono s⟩
structure Cw (C:Addr) (H:Hp) (x:Addr) (bs:List (Str × Nat)) (rk:List (Str × Nat × Int)) (ks:List R) (ls:List (List Ln)):Prop where
 o:Di C H x bs ks
 r:∃ (dx:Addr) (fs:List (Str × V)) (rl rn pp kl:Addr) (rvs pvs:List V) (kvs:List (Key × V)),H x=some (.ins C dx fs)/\fs.lookup ("rank_list" : Str)=some (.ref rl)/\fs.lookup ("rank_numbers" : Str)=some (.ref rn)/\fs.lookup ("pipe_places" : Str)=some (.ref pp)/\fs.lookup ("knob_lines" : Str)=some (.ref kl) /\
  H rl=some (.lst rvs)/\Paired (fun (a:Th) y=>TupAt H (tV a) y) (rk.map Rg) rvs/\H rn=some (.dK kvs)/\(∀ (i:Nat) r,rk[i]? = some r->Dt kvs (Sum.inr r.1)=some (.int (i:Nat))) /\
  H pp=some (.lst pvs)/\Paired (fun q y=>TupAt H (qV q) y) (Ed (rk.map QZ)) pvs/\Gh H kl ls
 nr:rk.length<=12
 nz:∀ r∈rk,r.2.1<=97
 nl:ls.length=ks.length
theorem Cw.mono {C:Addr} {H H':Hp} {x:Addr} {bs:List (Str × Nat)} {rk:List (Str × Nat × Int)} {ks:List R} {ls:List (List Ln)} (s:An H H') (h:Cw C H x bs rk ks ls):Cw C H' x bs rk ks ls:=by
 obtain ⟨o,⟨dx,fs,rl,rn,pp,kl,rvs,pvs,kvs,h1,l1,l2,l3,l4,h2,h3,h4,h5,h6,h7,h8⟩,a,b,c⟩:=h
 exact ⟨o.mono s,⟨dx,fs,rl,rn,pp,kl,rvs,pvs,kvs,s _ _ h1,l1,l2,l3,l4,s _ _ h2,Al s h3,s _ _ h4,h5,s _ _ h6,Al s h7,h8.mono s⟩,a,b,c⟩
structure WT (ρ:V->R) (us:List V) (i:Nat):Prop where
 all:∀ j,j<i->∃ v,us[us.length - 1 - j]? = some v/\(ρ v).w = "line"
 lt:i<us.length
 no:∃ v,us[us.length - 1 - i]? = some v/\¬ (ρ v).w = "line"
noncomputable def XF (r:R):Int:=match r.rest with
 | [.int m]=>m
 | _=>0
noncomputable abbrev keyOf (ρ:V->R) (us:List V) (bd:Str) (n:Int):Bool:=(us.filter (pw ρ "board")).any fun v=>pn ρ bd v && decide (n<XF (ρ v))
structure NB (ρ:V->R) (us:List V) (ro:R):Prop where
 ex:∃ (cnt:Nat) (v:V) (sh lo hi:Int) (bd:Str) (rs:List V),ro.rest=[.int sh,.int lo,.int hi]/\WT ρ us cnt/\cnt<4/\us[us.length - 1 - cnt]? = some v/\(ρ v).w = "stop" /\ (ρ v).rest=.str bd::rs/\lo<=hi/\keyOf ρ us bd hi=true
noncomputable abbrev FN (ρ:V->R) (us:List V):Prop:=∀ v∈us,(ρ v).w = "board"->∃ m,(ρ v).rest=[.int m]
structure Gq (K:PySem.W.Frag) (aB aP aM:Addr) (ρ:V->R) (vs:List V) (r:R):Prop where
 ns:¬ r.w = "step"
 parts:∃ (ap:Addr) (ps:List Str),PySem.W.nsIn K aP r.w=some (some (.ref ap))/\KTup K ap (ps.map V.str)/\(V.str r.nm::r.rest).length=ps.length/\ps.length<=10 /\
  ∀ (i:Nat) x y,(V.str r.nm::r.rest)[i]? = some x->ps[i]? = some y->Hm K aB ρ vs x y
 room:(r.w = "line" /\ PySem.W.nsIn K aM r.w=some none) \/ ∃ (m:Int) (t:Tok),PySem.W.nsIn K aM r.w=some (some (.int m t))/\(((vs.filter (pw ρ r.w)).length:Nat):Int)<m
 line:r.w = "line"->NB ρ vs r
 YC:FN ρ vs
noncomputable def lnOf (rk:List (Str × Nat × Int)) (r:R):Ln:=match r.rest with
 | [.int sh,.int lo,.int hi]=>⟨(rk.map (·.1)).idxOf r.nm,sh,lo,hi⟩
 | _=>⟨0,0,0,0⟩
noncomputable def putL (acc:List (List Ln)) (l:Ln):List (List Ln):=match acc.getLast? with
 | some z=>acc.dropLast++[z++[l]]
 | none=>[]
noncomputable def Fx (rk:List (Str × Nat × Int)) (acc:List (List Ln)) (r:R):List (List Ln):=if Iw r.w=true then acc++[[]] else if r.w = "line" then putL acc (lnOf rk r) else acc
noncomputable def linesOf (rk:List (Str × Nat × Int)) (rs:List R):List (List Ln):=rs.foldl (Fx rk) []
theorem CW (rk:List (Str × Nat × Int)) (rs:List R) (r:R):linesOf rk (rs++[r])=Fx rk (linesOf rk rs) r:=by
 unfold linesOf
 rw [List.foldl_append]
 rfl
theorem HB (acc:List (List Ln)) (z:List Ln) (l:Ln):putL (acc++[z]) l=acc++[z++[l]]:=by
 unfold putL
 rw [List.getLast?_concat,List.dropLast_concat]
structure c7 (K:PySem.W.Frag) (aB aP aM:Addr) (ρ:V->R) (us:List V) (bs:List (Str × Nat)) (rk:List (Str × Nat × Int)) (ks:List R):Prop where
 kinds:∀ v∈us,(ρ v).w = "board" \/ (ρ v).w = "rank" \/ (ρ v).w = "line" \/ (ρ v).w = "stop" \/ (ρ v).w = "coupler" \/ (ρ v).w = "mute"
 eb:(us.filter (pw ρ "board")).map ρ=bs.map Fw
 er:(us.filter (pw ρ "rank")).map ρ=rk.map Hv
 ek:(us.filter (fun v=>Iw (ρ v).w)).map ρ=ks
 ln:∀ (i:Nat) v,us[i]? = some v->(ρ v).w = "line"->(∃ (j:Nat) (r:Str × Nat × Int) (sh lo hi:Int),rk[j]? = some r/\r.1=(ρ v).nm/\(ρ v).rest=[.int sh,.int lo,.int hi])/\∃ u∈us.take i,Iw (ρ u).w=true
 b0:1<=bs.length
 b5:bs.length<=5
 sz:∀ b∈bs,b.2<=61
 nr:rk.length<=12
 nz:∀ r∈rk,r.2.1<=97
 nk:ks.length<=100
 nb:(bs.map (·.1)).Nodup
 nrr:(rk.map (·.1)).Nodup
 nn:(ks.map (·.nm)).Nodup
 len:us.length<=150
 ok:∀ (i:Nat) v,us[i]? = some v->Gq K aB aP aM ρ (us.take i) (ρ v)
theorem c7.none {K:PySem.W.Frag} {aB aP aM:Addr} {ρ:V->R} {us:List V} {bs:List (Str × Nat)} {rk:List (Str × Nat × Int)} {ks:List R} (h:c7 K aB aP aM ρ us bs rk ks):us.filter (pw ρ "step")=[]:=by
 refine List.filter_eq_nil_iff.mpr fun v hv=>?_
 unfold pw
 rcases h.kinds v hv with e | e | e | e | e | e <;> rw [e] <;> decide +kernel
end Og
namespace Og
open PySem L2
noncomputable abbrev Pt:=Nat × Nat
noncomputable def lF (nx:Pt->Option Pt) (p0:Pt) (ps:List Pt):Prop:=∀ (i:Nat) (p q:Pt),(p0::ps)[i]? = some p->(p0::ps)[i+1]? = some q->nx p=some q
noncomputable def j_ (s0 s1 b:Nat):Nat:=if b=0 then s0 else s1
noncomputable def enc (s0:Nat) (p:Pt):Nat:=p.1 * s0+p.2
noncomputable abbrev Way:=Option (Nat × Int)
noncomputable def wy (w0 w1:Way) (b:Nat):Way:=if b=0 then w0 else w1
noncomputable def nxt (s0 s1:Nat) (w0 w1:Way) (p:Pt):Option Pt:=match wy w0 w1 p.1 with
 | none=>none
 | some (g,s)=>if 0<=(p.2:Int)+s/\(p.2:Int)+s<(j_ s0 s1 g:Nat) then some (g,((p.2:Int)+s).toNat) else none
structure lD (s0 s1:Nat) (p:Pt):Prop where
 b:p.1<2
 n:p.2<j_ s0 s1 p.1
structure lE (kbs:List Kb) (D:Nat) (w0 w1:Way):Prop where
 out:∀ k z,D.testBit k=true->kbs[k]? = some z->∃ j1 j2 s,z=.cp j1 j2 s/\wy w0 w1 j1=some (j2,s)/\j2<2
 back:∀ b g s,b<2->wy w0 w1 b=some (g,s)->∃ k,D.testBit k=true/\kbs[k]? = some (.cp b g s)
end Og
namespace Og
open PySem L2
inductive Xr (nx:Pt->Option Pt) (hd:Pt->Prop):Pt->Prop
 | one {p q:Pt}:hd p->nx p=some q->Xr nx hd q
 | more {p q:Pt}:Xr nx hd p->nx p=some q->Xr nx hd q
structure kh (kbs:List Kb) (D:Nat) (w0 w1:Way):Prop where
 out:∀ (k:Nat) (z:Kb),D.testBit k=true->kbs[k]? = some z->(∃ w i,z=.pl w i) \/ ∃ j1 j2 s,z=.cp j1 j2 s/\wy w0 w1 j1=some (j2,s)/\j2<2
 back:∀ b g s,b<2->wy w0 w1 b=some (g,s)->∃ k:Nat,D.testBit k=true/\kbs[k]? = some (.cp b g s)
end Og
namespace L2
open PySem PySem.Spec PySem.Calls PyProof.Rows
noncomputable abbrev pV (q:Int × Int):List V:=[.int q.1,.int q.2]
section
variable {X:Cx}
end
end L2
namespace L2
open PySem PySem.Spec PySem.Calls PyProof.Rows
section
variable {X:Cx}
theorem RM (hu:X.A.units<cLine):Gp X (compareOp .NotEq) (fun x y H Q=>∃ p q xs,x=V.ref p/\y=V.ref q/\CP X.K H p xs/\CP X.K H q []/\Q (.bl (!xs.isEmpty)) H):=by
 intro pins s σ H x y v u Q I rx ry h
 obtain ⟨p,q,xs,rfl,rfl,hp,hq,k⟩:=h
 cases rx
 cases ry
 obtain ⟨its,r,pl,hz⟩:=I.list hp
 obtain ⟨its2,r2,pl2,hz2⟩:=I.list hq
 have l1:=r.length
 cases r2
 cases xs with
 | nil =>
  cases r
  refine SeqAt.RcNeAt.lists (e:=fun _=>true) pl.isList pl2.isList rfl hu (fun j h1 h2=>?_) _ _ _ _ ⟨.bl _,H,I,rfl,k⟩
  exact absurd h1 (Nat.not_lt_zero _)
 | cons a b =>
  refine SeqAt.RcNeAt.lists_lengths pl.isList pl2.isList (by simp; intro z; rw [z] at l1; simp at l1) hu _ _ _ _ ⟨.bl _,H,I,rfl,k⟩
end
end L2
namespace Og
open PySem L2 PyProof.Rows
variable {K:PySem.W.Frag}
structure PQ (K:PySem.W.Frag) (aB aP aM:Addr):Prop where
 f:KF K aB aP aM
 pR:∃ a,PySem.W.nsIn K aP "rank" = some (some (.ref a))/\KTup K a (["new","pipes","wind"].map fun s:String=>V.str s)
 pL:∃ a,PySem.W.nsIn K aP "line" = some (some (.ref a))/\KTup K a (["rank","shift","low","high"].map fun s:String=>V.str s)
 bP:∃ a,PySem.W.nsIn K aB "pipes" = some (some (.ref a))/\KTup K a [.int 1,.int 97]
 bW:∃ a,PySem.W.nsIn K aB "wind" = some (some (.ref a))/\KTup K a [.int 0,.int 1000000000]
 bS:∃ a,PySem.W.nsIn K aB "shift" = some (some (.ref a))/\KTup K a [.int (-200),.int 200]
 bLo:∃ a,PySem.W.nsIn K aB "low" = some (some (.ref a))/\KTup K a [.int 0,.int 60]
 bHi:∃ a,PySem.W.nsIn K aB "high" = some (some (.ref a))/\KTup K a [.int 0,.int 60]
 bR:PySem.W.nsIn K aB "rank" = some none
 mR:∃ t,PySem.W.nsIn K aM "rank" = some (some (.int 12 t))
 mL:PySem.W.nsIn K aM "line" = some none
section
variable {aB aP aM:Addr} {ρ:V->R} {vs:List V} {wn:List (Str × Str)} {t:Str}
theorem Pa {r:R} (h:Kc K aB aP aM ρ vs r) (hb:FN ρ vs):Gq K aB aP aM ρ vs r:=⟨h.ns,h.parts,.inr h.room,fun z=>absurd z h.nl,hb⟩
theorem QV (F:KF K aB aP aM) {wd:Str} (hw:wd = "stop" \/ wd = "mute") (e:G9 ρ vs=wn) (ht:isNm t) (h:∀ w∈named,Pg wn w t=false) (hc:S_ wn wd<Fo wd) {a:Str} (ha:isNm a) (ha':Pg wn "board" a=true):Kc K aB aP aM ρ vs ⟨wd,t,[.str a]⟩:=by
 have parts:∀ (j:Nat) x (y:Str),[V.str t,.str a][j]? = some x->(["new","board"]:List Str)[j]? = some y->Hm K aB ρ vs x y:=fun j x y hx hy=>by
  match j,hx,hy with
  | 0,hx,hy =>
   cases (Option.some.inj hx)
   cases (Option.some.inj hy)
   exact Hz F e ht h
  | 1,hx,hy =>
   cases (Option.some.inj hx)
   cases (Option.some.inj hy)
   exact Hh F e ha ha'
  | j+2,hx,hy=>simp at hy
 have hcnt:=Hb ρ vs wd
 rw [e] at hcnt
 rcases hw with rfl | rfl
 ·obtain ⟨ap,g1,g2⟩:=F.pS
  obtain ⟨tk,g5⟩:=F.mS
  have hm:Fo "stop" = 24:=by decide +kernel
  refine ⟨by show ¬ ("stop" : Str) = "step"; decide +kernel,by show ¬ ("stop" : Str) = "line"; decide +kernel,⟨ap,["new","board"],g1,g2,rfl,by decide,parts⟩,⟨24,tk,g5,?_⟩⟩
  show (((vs.filter (pw ρ "stop")).length:Nat):Int)<24
  omega
 ·obtain ⟨ap,g1,g2⟩:=F.pM
  obtain ⟨tk,g5⟩:=F.mM
  have hm:Fo "mute" = 5:=by decide +kernel
  refine ⟨by show ¬ ("mute" : Str) = "step"; decide +kernel,by show ¬ ("mute" : Str) = "line"; decide +kernel,⟨ap,["new","board"],g1,g2,rfl,by decide,parts⟩,⟨5,tk,g5,?_⟩⟩
  show (((vs.filter (pw ρ "mute")).length:Nat):Int)<5
  omega
theorem Qy (F:PQ K aB aP aM) (e:G9 ρ vs=wn) (ht:isNm t) (h:∀ w∈named,Pg wn w t=false) (hc:S_ wn "rank" < 12) {n:Nat} {wi:Int} (h1:1<=n) (h2:n<=97) (h3:0<=wi) (h4:wi<=1000000000) (hb:FN ρ vs):Gq K aB aP aM ρ vs (Hv (t,n,wi)):=by
 obtain ⟨ap,g1,g2⟩:=F.pR
 obtain ⟨ab,g3,g4⟩:=F.bP
 obtain ⟨aw,g6,g7⟩:=F.bW
 obtain ⟨tk,g5⟩:=F.mR
 refine ⟨by show ¬ ("rank" : Str) = "step"; decide +kernel,⟨ap,["new","pipes","wind"],g1,g2,rfl,by decide,fun j x y hx hy=>?_⟩,.inr ⟨12,tk,g5,?_⟩,fun z=>absurd z (by show ¬ ("rank" : Str) = "line"; decide +kernel),hb⟩
 ·match j,hx,hy with
  | 0,hx,hy =>
   cases (Option.some.inj hx)
   cases (Option.some.inj hy)
   exact Hz F.f e ht h
  | 1,hx,hy =>
   cases (Option.some.inj hx)
   cases (Option.some.inj hy)
   exact .inl ⟨((n:Nat):Int),1,97,ab,rfl,g3,g4,by omega,by omega⟩
  | 2,hx,hy =>
   cases (Option.some.inj hx)
   cases (Option.some.inj hy)
   exact .inl ⟨_,0,1000000000,aw,rfl,g6,g7,h3,h4⟩
  | j+3,hx,hy=>simp at hy
 ·rw [Hb,e]
  show ((S_ wn "rank" : Nat):Int)<12
  omega
theorem Qw (F:PQ K aB aP aM) (e:G9 ρ vs=wn) (ht:isNm t) (h:Pg wn "rank" t=true) {sh lo hi:Int} (b1 : -200<=sh) (b2:sh<=200) (b3:0<=lo) (b4:lo<=60) (b5:0<=hi) (b6:hi<=60) (hb:FN ρ vs) (hl:NB ρ vs ⟨"line",t,[.int sh,.int lo,.int hi]⟩):Gq K aB aP aM ρ vs ⟨"line",t,[.int sh,.int lo,.int hi]⟩:=by
 obtain ⟨ap,g1,g2⟩:=F.pL
 obtain ⟨a1,g3,g4⟩:=F.bS
 obtain ⟨a2,g5,g6⟩:=F.bLo
 obtain ⟨a3,g7,g8⟩:=F.bHi
 refine ⟨by show ¬ ("line" : Str) = "step"; decide +kernel,⟨ap,["rank","shift","low","high"],g1,g2,rfl,by decide,fun j x y hx hy=>?_⟩,.inl ⟨rfl,F.mL⟩,fun _=>hl,hb⟩
 match j,hx,hy with
 | 0,hx,hy =>
  cases (Option.some.inj hx)
  cases (Option.some.inj hy)
  exact .inr (.inr ⟨F.bR,by decide +kernel,_,rfl,ht,by rw [JH,e]; exact h⟩)
 | 1,hx,hy =>
  cases (Option.some.inj hx)
  cases (Option.some.inj hy)
  exact .inl ⟨_,-200,200,a1,rfl,g3,g4,b1,b2⟩
 | 2,hx,hy =>
  cases (Option.some.inj hx)
  cases (Option.some.inj hy)
  exact .inl ⟨_,0,60,a2,rfl,g5,g6,b3,b4⟩
 | 3,hx,hy =>
  cases (Option.some.inj hx)
  cases (Option.some.inj hy)
  exact .inl ⟨_,0,60,a3,rfl,g7,g8,b5,b6⟩
 | j+4,hx,hy=>simp at hy
end
structure Hi (K:PySem.W.Frag) (aB aP aM:Addr) (ρ:V->R) (us:List V) (bs:List (Str × Nat)) (rk:List (Str × Nat × Int)) (ks:List R):Prop where
 kinds:∀ v∈us,(ρ v).w = "board" \/ (ρ v).w = "rank" \/ (ρ v).w = "line" \/ (ρ v).w = "stop" \/ (ρ v).w = "coupler" \/ (ρ v).w = "mute"
 eb:(us.filter (pw ρ "board")).map ρ=bs.map Fw
 er:(us.filter (pw ρ "rank")).map ρ=rk.map Hv
 ek:(us.filter (fun v=>Iw (ρ v).w)).map ρ=ks
 ln:∀ (i:Nat) v,us[i]? = some v->(ρ v).w = "line"->(∃ (j:Nat) (r:Str × Nat × Int) (sh lo hi:Int),rk[j]? = some r/\r.1=(ρ v).nm/\(ρ v).rest=[.int sh,.int lo,.int hi])/\∃ u∈us.take i,Iw (ρ u).w=true
 ok:∀ (i:Nat) v,us[i]? = some v->Gq K aB aP aM ρ (us.take i) (ρ v)
section
variable {aB aP aM:Addr} {ρ:V->R} {us:List V} {v:V} {bs bs':List (Str × Nat)} {rk rk':List (Str × Nat × Int)} {ks ks':List R}
theorem K8 {w t:Str}:V5 ρ us w t=true ↔ ∃ v∈us,(ρ v).w=w/\(ρ v).nm=t:=by
 unfold V5
 rw [List.any_eq_true]
 constructor
 ·rintro ⟨v,hv,hn⟩
  obtain ⟨h1,h2⟩:=List.mem_filter.mp hv
  exact ⟨v,h1,V.str.inj (of_decide_eq_true h2),V.str.inj (of_decide_eq_true hn)⟩
 ·rintro ⟨v,hv,h1,h2⟩
  exact ⟨v,List.mem_filter.mpr ⟨hv,decide_eq_true (congrArg V.str h1)⟩,decide_eq_true (congrArg V.str h2)⟩
theorem Hi.nil:Hi K aB aP aM ρ [] [] [] []:=⟨(fun _ h=>nomatch h),rfl,rfl,rfl,(fun i v h=>by simp at h),(fun i v h=>by simp at h)⟩
theorem Hi.WM (h:Hi K aB aP aM ρ us bs rk ks) (hv:v∈us) (hw:(ρ v).w = "board"):∃ b∈bs,Fw b=ρ v:=by
 have:ρ v∈(us.filter (pw ρ "board")).map ρ:=List.mem_map_of_mem (List.mem_filter.mpr ⟨hv,decide_eq_true (congrArg V.str hw)⟩)
 rw [h.eb] at this
 exact List.mem_map.mp this
theorem Hi.cB (h:Hi K aB aP aM ρ us bs rk ks) (hv:v∈us) (hw:(ρ v).w = "rank"):∃ b∈rk,Hv b=ρ v:=by
 have:ρ v∈(us.filter (pw ρ "rank")).map ρ:=List.mem_map_of_mem (List.mem_filter.mpr ⟨hv,decide_eq_true (congrArg V.str hw)⟩)
 rw [h.er] at this
 exact List.mem_map.mp this
theorem Hi.Rx (h:Hi K aB aP aM ρ us bs rk ks) (hv:v∈us) (hw:Iw (ρ v).w=true):ρ v∈ks:=by
 have:ρ v∈(us.filter (fun v=>Iw (ρ v).w)).map ρ:=List.mem_map_of_mem (List.mem_filter.mpr ⟨hv,hw⟩)
 rw [h.ek] at this
 exact this
theorem Hi.YC (h:Hi K aB aP aM ρ us bs rk ks):FN ρ us:=fun v hv hw=>by
 obtain ⟨b,_,e⟩:=h.WM hv hw
 exact ⟨_,by rw [← e]⟩
theorem Hi.Vt (h:Hi K aB aP aM ρ us bs rk ks) {b:Str × Nat} (hb:b∈bs):∃ v∈us,ρ v=Fw b:=by
 have:Fw b∈(us.filter (pw ρ "board")).map ρ:=by rw [h.eb]; exact List.mem_map_of_mem hb
 obtain ⟨v,hv,e⟩:=List.mem_map.mp this
 exact ⟨v,(List.mem_filter.mp hv).1,e⟩
theorem Hi.Y5 (h:Hi K aB aP aM ρ us bs rk ks) {r:Str × Nat × Int} (hr:r∈rk):∃ v∈us,ρ v=Hv r:=by
 have:Hv r∈(us.filter (pw ρ "rank")).map ρ:=by rw [h.er]; exact List.mem_map_of_mem hr
 obtain ⟨v,hv,e⟩:=List.mem_map.mp this
 exact ⟨v,(List.mem_filter.mp hv).1,e⟩
theorem Hi.Nu (h:Hi K aB aP aM ρ us bs rk ks) {b:Str × Nat} (hb:b∈bs):Pg (G9 ρ us) "board" b.1=true:=by
 obtain ⟨v,hv,e⟩:=h.Vt hb
 rw [← JH,K8]
 exact ⟨v,hv,by rw [e],by rw [e]⟩
theorem Hi.Xa (h:Hi K aB aP aM ρ us bs rk ks) {r:Str × Nat × Int} (hr:r∈rk):Pg (G9 ρ us) "rank" r.1=true:=by
 obtain ⟨v,hv,e⟩:=h.Y5 hr
 rw [← JH,K8]
 exact ⟨v,hv,by rw [e],by rw [e]⟩
theorem Jo {w:Str} (h:w = "stop" \/ w = "coupler" \/ w = "mute"):Iw w=true:=by rcases h with rfl | rfl | rfl <;> decide +kernel
theorem Hi.fresh (h:Hi K aB aP aM ρ us bs rk ks) {t:Str} (hb:∀ b∈bs,b.1 ≠ t) (hr:∀ r∈rk,r.1 ≠ t) (hk:∀ k∈ks,k.nm ≠ t):∀ w∈named,Pg (G9 ρ us) w t=false:=by
 intro w hw
 rw [← JH,← Bool.not_eq_true,K8]
 rintro ⟨v,hv,hw',hn⟩
 simp only [List.mem_cons,List.mem_singleton,List.not_mem_nil,or_false] at hw
 rcases hw with rfl | rfl | rfl | rfl | rfl
 ·obtain ⟨b,hb',e⟩:=h.WM hv hw'
  exact hb b hb' (by rw [← hn,← e])
 ·obtain ⟨b,hb',e⟩:=h.cB hv hw'
  exact hr b hb' (by rw [← hn,← e])
 ·exact hk _ (h.Rx hv (Jo (.inl hw'))) hn
 ·exact hk _ (h.Rx hv (Jo (.inr (.inl hw')))) hn
 ·exact hk _ (h.Rx hv (Jo (.inr (.inr hw')))) hn
theorem Hi.ZZ (h:Hi K aB aP aM ρ us bs rk ks):S_ (G9 ρ us) "board" = bs.length:=by
 rw [← Hb,← List.length_map (f:=ρ),h.eb,List.length_map]
theorem Hi.Z2 (h:Hi K aB aP aM ρ us bs rk ks):S_ (G9 ρ us) "rank" = rk.length:=by
 rw [← Hb,← List.length_map (f:=ρ),h.er,List.length_map]
theorem Hi.V4 (h:Hi K aB aP aM ρ us bs rk ks) {w:Str} (hw:w = "stop" \/ w = "coupler" \/ w = "mute"):S_ (G9 ρ us) w=(ks.filter fun r=>decide (V.str r.w=V.str w)).length:=by
 rw [← Hb,← h.ek,List.filter_map,List.length_map,List.filter_filter]
 refine congrArg List.length (List.filter_congr fun v _=>?_)
 show pw ρ w v=(pw ρ w v && Iw (ρ v).w)
 by_cases e:(ρ v).w=w
 ·rw [Jo (by rw [e]; exact hw),Bool.and_true]
 ·have:pw ρ w v=false:=decide_eq_false fun z=>e (V.str.inj z)
  rw [this,Bool.false_and]
theorem Hi.snoc (h:Hi K aB aP aM ρ us bs rk ks) (hk:(ρ v).w = "board" \/ (ρ v).w = "rank" \/ (ρ v).w = "line" \/ (ρ v).w = "stop" \/ (ρ v).w = "coupler" \/ (ρ v).w = "mute")
  (eb:((us++[v]).filter (pw ρ "board")).map ρ=bs'.map Fw) (er:((us++[v]).filter (pw ρ "rank")).map ρ=rk'.map Hv) (ek:((us++[v]).filter (fun v=>Iw (ρ v).w)).map ρ=ks')
  (hr:∀ (j:Nat) r,rk[j]? = some r->rk'[j]? = some r)
  (hl:(ρ v).w = "line"->(∃ (j:Nat) (r:Str × Nat × Int) (sh lo hi:Int),rk'[j]? = some r/\r.1=(ρ v).nm/\(ρ v).rest=[.int sh,.int lo,.int hi])/\∃ u∈us,Iw (ρ u).w=true)
  (ok:Gq K aB aP aM ρ us (ρ v)):Hi K aB aP aM ρ (us++[v]) bs' rk' ks':=by
 have at_:∀ {i:Nat} {u:V},(us++[v])[i]? = some u->us[i]? = some u/\(us++[v]).take i=us.take i \/ u=v/\(us++[v]).take i=us:=fun {i u} hi=>by
  by_cases hlt:i<us.length
  ·rw [List.getElem?_append_left hlt] at hi
   exact .inl ⟨hi,List.take_append_of_le_length (Nat.le_of_lt hlt)⟩
  ·have h2:=(List.getElem?_eq_some_iff.mp hi).1
   rw [List.length_append,List.length_singleton] at h2
   have hil:i=us.length:=by omega
   subst hil
   rw [List.getElem?_append_right (Nat.le_refl _),Nat.sub_self] at hi
   exact .inr ⟨(Option.some.inj hi).symm,by rw [List.take_append_of_le_length (Nat.le_refl _),List.take_length]⟩
 refine ⟨fun u hu=>?_,eb,er,ek,fun i u hi hw=>?_,fun i u hi=>?_⟩
 ·rcases List.mem_append.mp hu with h' | h'
  ·exact h.kinds u h'
  ·rw [List.mem_singleton.mp h']
   exact hk
 ·rcases at_ hi with ⟨h1,h2⟩ | ⟨rfl,h2⟩
  ·rw [h2]
   obtain ⟨⟨j,r,sh,lo,hi',g1,g2,g3⟩,g4⟩:=h.ln i u h1 hw
   exact ⟨⟨j,r,sh,lo,hi',hr j r g1,g2,g3⟩,g4⟩
  ·rw [h2]
   exact hl hw
 ·rcases at_ hi with ⟨h1,h2⟩ | ⟨rfl,h2⟩
  ·rw [h2]
   exact h.ok i u h1
  ·rw [h2]
   exact ok
theorem Jm {p:V->Bool} (h:p v=true):(us++[v]).filter p=us.filter p++[v]:=by
 rw [List.filter_append,List.filter_cons,if_pos h]
 rfl
theorem Eu {p:V->Bool} (h:p v=false):(us++[v]).filter p=us.filter p:=by
 rw [List.filter_append,List.filter_cons,if_neg (by rw [h]; decide)]
 simp
end
structure HQ (K:PySem.W.Frag) (aB aP aM:Addr) (rows:List R) (bs:List (Str × Nat)) (rk:List (Str × Nat × Int)) (ks:List R) (ls:List (List Ln)):Prop where
 ok:∀ (ρ:V->R) (us:List V),us.map ρ=rows->Hi K aB aP aM ρ us bs rk ks
 ln0:ks=[]->∀ rk',linesOf rk' rows=[]
 ln:linesOf rk rows=ls
section
variable {aB aP aM:Addr} {rows:List R} {bs:List (Str × Nat)} {rk:List (Str × Nat × Int)} {ks:List R} {ls:List (List Ln)}
theorem HQ.nil:HQ K aB aP aM [] [] [] [] []:=⟨fun ρ us e=>by rw [List.map_eq_nil_iff.mp e]; exact Hi.nil,fun _ _=>rfl,rfl⟩
theorem JX {ρ:V->R} {us:List V} {r:R} (e:us.map ρ=rows++[r]):∃ us' v,us=us'++[v]/\us'.map ρ=rows/\ρ v=r:=by
 obtain ⟨a,b,rfl,h1,h2⟩:=List.map_eq_append_iff.mp e
 obtain ⟨v,l,rfl,h3,h4⟩:=List.map_eq_cons_iff.mp h2
 rw [List.map_eq_nil_iff.mp h4]
 exact ⟨a,v,rfl,h1,h3⟩
theorem HQ.Yk (F:PQ K aB aP aM) (h:HQ K aB aP aM rows bs [] [] []) {t:Str} {n:Nat} (ht:isNm t) (hf:∀ b∈bs,b.1 ≠ t) (hb:bs.length<5) (h1:1<=n) (h2:n<=61):HQ K aB aP aM (rows++[Fw (t,n)]) (bs++[(t,n)]) [] [] []:=by
 refine ⟨fun ρ us e=>?_,fun _ rk'=>?_,?_⟩
 ·obtain ⟨us',v,rfl,e',hv⟩:=JX e
  have O:=h.ok ρ us' e'
  refine O.snoc (.inl (by rw [hv])) ?_ ?_ ?_ (fun _ _ h=>h) (fun z=>absurd (hv ▸ z) (by show ¬ ("board" : Str) = "line"; decide +kernel)) ?_
  ·rw [Jm (by unfold pw; rw [hv]; exact decide_eq_true rfl),List.map_append,O.eb,List.map_append,List.map_singleton,hv]
   rfl
  ·rw [Eu (by unfold pw; rw [hv]; show decide (V.str "board" = V.str "rank")=false; decide +kernel),O.er]
  ·rw [Eu (by rw [hv]; show Iw "board" = false; decide +kernel),O.ek]
  ·rw [hv]
   exact Pa (Qo F.f rfl ht (O.fresh hf (fun _ z=>nomatch z) (fun _ z=>nomatch z)) (by rw [O.ZZ]; exact hb) h1 h2) O.YC
 ·rw [CW,h.ln0 rfl rk']
  rfl
 ·rw [CW,h.ln0 rfl []]
  rfl
theorem HQ.rank (F:PQ K aB aP aM) (h:HQ K aB aP aM rows bs rk [] []) {t:Str} {n:Nat} {wi:Int} (ht:isNm t) (hf:∀ b∈bs,b.1 ≠ t) (hr:∀ r∈rk,r.1 ≠ t) (hc:rk.length<12) (h1:1<=n) (h2:n<=97) (h3:0<=wi) (h4:wi<=1000000000):HQ K aB aP aM (rows++[Hv (t,n,wi)]) bs (rk++[(t,n,wi)]) [] []:=by
 refine ⟨fun ρ us e=>?_,fun _ rk'=>?_,?_⟩
 ·obtain ⟨us',v,rfl,e',hv⟩:=JX e
  have O:=h.ok ρ us' e'
  refine O.snoc (.inr (.inl (by rw [hv]))) ?_ ?_ ?_ (fun j r h=>by rw [List.getElem?_append_left (List.getElem?_eq_some_iff.mp h).1]; exact h) (fun z=>absurd (hv ▸ z) (by show ¬ ("rank" : Str) = "line"; decide +kernel)) ?_
  ·rw [Eu (by unfold pw; rw [hv]; show decide (V.str "rank" = V.str "board")=false; decide +kernel),O.eb]
  ·rw [Jm (by unfold pw; rw [hv]; exact decide_eq_true rfl),List.map_append,O.er,List.map_append,List.map_singleton,hv]
   rfl
  ·rw [Eu (by rw [hv]; show Iw "rank" = false; decide +kernel),O.ek]
  ·rw [hv]
   exact Qy F rfl ht (O.fresh hf hr (fun _ z=>nomatch z)) (by rw [O.Z2]; exact hc) h1 h2 h3 h4 O.YC
 ·rw [CW,h.ln0 rfl rk']
  rfl
 ·rw [CW,h.ln0 rfl _]
  rfl
theorem HQ.WL (h:HQ K aB aP aM rows bs rk ks ls) {r:R} (hw:r.w = "stop" \/ r.w = "coupler" \/ r.w = "mute") (hr:∀ (ρ:V->R) (us:List V),us.map ρ=rows->Kc K aB aP aM ρ us r):HQ K aB aP aM (rows++[r]) bs rk (ks++[r]) (ls++[[]]):=by
 have hK:=Jo hw
 refine ⟨fun ρ us e=>?_,fun z=>by simp at z,?_⟩
 ·obtain ⟨us',v,rfl,e',hv⟩:=JX e
  have O:=h.ok ρ us' e'
  refine O.snoc (.inr (.inr (.inr (by rw [hv]; exact hw)))) ?_ ?_ ?_ (fun _ _ h=>h) (fun z=>?_) ?_
  ·rw [Eu (by unfold pw; rw [hv]; rcases hw with e | e | e <;> rw [e] <;> decide +kernel),O.eb]
  ·rw [Eu (by unfold pw; rw [hv]; rcases hw with e | e | e <;> rw [e] <;> decide +kernel),O.er]
  ·rw [Jm (by rw [hv]; exact hK),List.map_append,O.ek,List.map_singleton,hv]
  ·rw [hv] at z
   rcases hw with e | e | e <;> rw [e] at z <;> exact absurd z (by decide +kernel)
  ·rw [hv]
   exact Pa (hr ρ us' e') O.YC
 ·rw [CW,h.ln]
  unfold Fx
  rw [if_pos hK]
theorem HQ.Vr (F:PQ K aB aP aM) (h:HQ K aB aP aM rows bs rk ks ls) {t a b:Str} {n m:Nat} {s:Int} (ht:isNm t) (hb:∀ b∈bs,b.1 ≠ t) (hr:∀ r∈rk,r.1 ≠ t) (hk:∀ k∈ks,k.nm ≠ t) (hc:(ks.filter fun r=>decide (V.str r.w=V.str "coupler")).length<12) (ha:isNm a) (ha':(a,n)∈bs) (hb1:isNm b) (hb':(b,m)∈bs) (h1 : -60<=s) (h2:s<=60) :
  HQ K aB aP aM (rows++[⟨"coupler",t,[.str a,.str b,.int s]⟩]) bs rk (ks++[⟨"coupler",t,[.str a,.str b,.int s]⟩]) (ls++[[]]) :=
 h.WL (.inr (.inl rfl)) fun ρ us e=>by
  have O:=h.ok ρ us e
  exact Ms F.f rfl ht (O.fresh hb hr hk) (by rw [O.V4 (.inr (.inl rfl))]; exact hc) ha (O.Nu ha') hb1 (O.Nu hb') h1 h2
theorem HQ.plain (F:PQ K aB aP aM) (h:HQ K aB aP aM rows bs rk ks ls) {wd t a:Str} {n:Nat} (hw:wd = "stop" \/ wd = "mute") (ht:isNm t) (hb:∀ b∈bs,b.1 ≠ t) (hr:∀ r∈rk,r.1 ≠ t) (hk:∀ k∈ks,k.nm ≠ t) (hc:(ks.filter fun r=>decide (V.str r.w=V.str wd)).length<Fo wd) (ha:isNm a) (ha':(a,n)∈bs) :
  HQ K aB aP aM (rows++[⟨wd,t,[.str a]⟩]) bs rk (ks++[⟨wd,t,[.str a]⟩]) (ls++[[]]):=by
 have hw3:wd = "stop" \/ wd = "coupler" \/ wd = "mute":=by rcases hw with e | e; exact .inl e; exact .inr (.inr e)
 exact h.WL hw3 fun ρ us e=>by
  have O:=h.ok ρ us e
  exact QV F.f hw rfl ht (O.fresh hb hr hk) (by rw [O.V4 hw3]; exact hc) ha (O.Nu ha')
noncomputable def Tl (rows:List R) (bd:Str) (cnt:Nat):Prop:=∃ (r0:List R) (st:R) (lr:List R),rows=r0++st::lr/\st.w = "stop" /\ st.rest=[.str bd]/\lr.length=cnt/\∀ r∈lr,r.w = "line"
theorem Tl.stop (rows:List R) (t bd:Str):Tl (rows++[⟨"stop",t,[.str bd]⟩]) bd 0:=⟨rows,_,[],rfl,rfl,rfl,rfl,fun _ h=>nomatch h⟩
theorem Tl.line {bd:Str} {cnt:Nat} {r:R} (h:Tl rows bd cnt) (hw:r.w = "line"):Tl (rows++[r]) bd (cnt+1):=by
 obtain ⟨r0,st,lr,rfl,h1,h2,h3,h4⟩:=h
 refine ⟨r0,st,lr++[r],by simp,h1,h2,by simp [h3],fun x hx=>?_⟩
 rcases List.mem_append.mp hx with g | g
 ·exact h4 x g
 ·rw [List.mem_singleton.mp g]
  exact hw
theorem HQ.line (F:PQ K aB aP aM) {l0:List Ln} (h:HQ K aB aP aM rows bs rk ks (ls++[l0])) {bd:Str} {cnt:Nat} (T:Tl rows bd cnt) (hc:cnt<4) {j n m:Nat} {t:Str} {wi sh lo hi:Int} (hj:rk[j]? = some (t,m,wi)) (hnd:(rk.map (·.1)).Nodup) (ht:isNm t) (hbd:(bd,n)∈bs) (hle:lo<=hi) (hn:hi<(n:Int)) (b1 : -200<=sh) (b2:sh<=200) (b3:0<=lo) (b6:hi<=60) :
  HQ K aB aP aM (rows++[⟨"line",t,[.int sh,.int lo,.int hi]⟩]) bs rk ks (ls++[l0++[⟨j,sh,lo,hi⟩]]):=by
 obtain ⟨r0,st,lr,er,g1,g2,g3,g4⟩:=T
 have nK:Iw "line" = false:=by decide +kernel
 refine ⟨fun ρ us e=>?_,fun z=>?_,?_⟩
 ·obtain ⟨us',v,rfl,e',hv⟩:=JX e
  have O:=h.ok ρ us' e'
  obtain ⟨u0,u1,eu,m1,m2⟩:=List.map_eq_append_iff.mp (e'.trans er)
  obtain ⟨sv,lv,e1,m3,m4⟩:=List.map_eq_cons_iff.mp m2
  subst e1
  have hsv:sv∈us':=by rw [eu]; simp
  have hlv:lv.length=cnt:=by rw [← g3,← m4,List.length_map]
  have hus:us'.length=u0.length+(cnt+1):=by rw [eu,List.length_append,List.length_cons,hlv]
  refine O.snoc (.inr (.inr (.inl (by rw [hv])))) ?_ ?_ ?_ (fun _ _ h=>h) (fun _=>⟨⟨j,_,sh,lo,hi,hj,by rw [hv],by rw [hv]⟩,sv,hsv,by rw [m3,g1]; decide +kernel⟩) ?_
  ·rw [Eu (by unfold pw; rw [hv]; show decide (V.str "line" = V.str "board")=false; decide +kernel),O.eb]
  ·rw [Eu (by unfold pw; rw [hv]; show decide (V.str "line" = V.str "rank")=false; decide +kernel),O.er]
  ·rw [Eu (by rw [hv]; exact nK),O.ek]
  ·rw [hv]
   have hst:us'[us'.length - 1 - cnt]? = some sv:=by
    have:us'.length - 1 - cnt=u0.length:=by omega
    rw [this,eu,List.getElem?_append_right (Nat.le_refl _),Nat.sub_self]
    rfl
   refine Qw F rfl ht (O.Xa (List.mem_of_getElem? hj)) b1 b2 b3 (by omega) (by omega) b6 O.YC ⟨cnt,sv,sh,lo,hi,bd,[],rfl,⟨fun i hi'=>?_,by omega,sv,hst,by rw [m3,g1]; decide +kernel⟩,hc,hst,by rw [m3,g1],by rw [m3,g2],hle,?_⟩
   ·have hi2:cnt - 1 - i<lv.length:=by omega
    refine ⟨lv[cnt - 1 - i],?_,?_⟩
    ·have:us'.length - 1 - i=u0.length+((cnt - 1 - i)+1):=by omega
     rw [this,eu,List.getElem?_append_right (Nat.le_add_right _ _),Nat.add_sub_cancel_left,List.getElem?_cons_succ]
     exact List.getElem?_eq_getElem hi2
    ·refine g4 _ ?_
     rw [← m4]
     exact List.mem_map_of_mem (List.getElem_mem hi2)
   ·obtain ⟨u,hu,hub⟩:=O.Vt hbd
    rw [List.any_eq_true]
    refine ⟨u,List.mem_filter.mpr ⟨hu,?_⟩,?_⟩
    ·unfold pw
     rw [hub]
     exact decide_eq_true rfl
    ·show (pn ρ bd u && decide (hi<XF (ρ u)))=true
     unfold pn
     rw [hub,Bool.and_eq_true]
     exact ⟨decide_eq_true rfl,decide_eq_true hn⟩
 ·subst z
  have:=h.ln0 rfl rk
  rw [h.ln] at this
  simp at this
 ·rw [CW,h.ln]
  unfold Fx
  rw [if_neg (by show ¬ Iw "line" = true; rw [nK]; decide),if_pos rfl,HB]
  have hjl:=(List.getElem?_eq_some_iff.mp hj).1
  have:(rk.map (·.1)).idxOf t=j:=by
   have hl:j<(rk.map (·.1)).length:=by rw [List.length_map]; exact hjl
   have e2:(rk.map (·.1))[j]=t:=by
    rw [List.getElem_map]
    have:=(List.getElem?_eq_some_iff.mp hj).2
    rw [this]
   rw [← e2]
   exact hnd.idxOf_getElem j hl
  show ls++[l0++[⟨(rk.map (·.1)).idxOf t,sh,lo,hi⟩]]=_
  rw [this]
theorem HQ.fin {H:Hp} {vs:List V} (h:HQ K aB aP aM rows bs rk ks ls) (hv:Paired (fun (r:R) v=>TupAt H r.v v) rows vs) (b0:1<=bs.length) (b5:bs.length<=5) (sz:∀ b∈bs,b.2<=61) (nr:rk.length<=12) (nz:∀ r∈rk,r.2.1<=97) (nk:ks.length<=100) (nb:(bs.map (·.1)).Nodup) (nrr:(rk.map (·.1)).Nodup) (nn:(ks.map (·.nm)).Nodup) (len:rows.length<=150) :
  Rows H (UG H) vs/\c7 K aB aP aM (UG H) vs bs rk ks/\linesOf rk (vs.map (UG H))=ls:=by
 have em:=PK hv
 have O:=h.ok (UG H) vs em
 refine ⟨fun v hv'=>?_,⟨O.kinds,O.eb,O.er,O.ek,O.ln,b0,b5,sz,nr,nz,nk,nb,nrr,nn,by rw [← hv.length]; exact len,O.ok⟩,by rw [em]; exact h.ln⟩
 obtain ⟨r,_,hr⟩:=DX hv hv'
 rw [N5 hr]
 exact hr
end
end Og
namespace Og
open PySem L2 PyProof.Rows
noncomputable def bI (c k:Int):Int:=((c % 1000003+7919 * k * k+k+1) * 48271 % 2147483629) * ((c % 1000003+7919 * k * k+k+1) * 48271 % 2147483629) % 2147483587
noncomputable def Bg (c k:Int):Int:=if (decide ((10:Int) ^ (18:Int).toNat<=c) && decide (0<c / 2 ^ (31 * k).toNat))=true then c / 2 ^ (31 * k).toNat % 2147483587 else bI c k
theorem Vc {a b:Str} (h:a.cps.toList=b.cps.toList):a=b:=by
 cases a; cases b; simp at h; simp [h]
theorem W6:∀ n<26,letters.cps.toList[n]? = some (97+n):=by decide +kernel
theorem Nv {i:Int} (h0:0<=i) (h1:i<26):MJ letters.cps.toList i=some (97+i.toNat):=by
 have h:=Af (W6 i.toNat (by omega))
 have e:((i.toNat:Nat):Int)=i:=by omega
 rw [e] at h
 exact h
theorem Ub:(("" : Str)).cps = #[]:=by decide +kernel
theorem Ov (cs:List Nat):(Txt.join ("" : Str) (cs.map fun c=>(⟨#[c]⟩:Str))).cps.toList=cs:=by
 have key:∀ (l:List Nat) (acc:Array Nat),((l.map fun c=>(⟨#[c]⟩:Str)).foldl (fun acc p=>acc++("" : Str).cps++p.cps) acc).toList=acc.toList++l:=by
  intro l
  induction l with
  | nil=>intro acc; simp
  | cons c l ih =>
   intro acc
   rw [List.map_cons,List.foldl_cons,ih,Ub]
   simp
 unfold Txt.join Builtin.Str.glued
 cases cs with
 | nil=>decide +kernel
 | cons c l =>
  show (((((c::l).map fun c=>(⟨#[c]⟩:Str)).drop 1)).foldl (fun acc p=>acc++("" : Str).cps++p.cps) #[c]).toList=_
  rw [List.map_cons,List.drop_succ_cons,List.drop_zero,key]
  rfl
theorem Nk {z:Str} {n:Nat} (h:n<=z.length):(Txt.slice z none (some (n:Int))).cps.toList=z.cps.toList.take n:=by
 have hl:z.length=z.cps.toList.length:=by simp [Str.length]
 have e:=beq_iff_eq.mp (slice_closes_to (x:=z) (j:=(n:Int)) ⟨by omega,by omega⟩)
 rw [e,List.toList_toArray]
 simp
theorem NZ {z:Str} {n:Nat} (h:n<=z.length):(Txt.slice z (some (n:Int)) none).cps.toList=z.cps.toList.drop n:=by
 have hl:z.length=z.cps.toList.length:=by simp [Str.length]
 rw [slice_from_eq (x:=z) (i:=(n:Int)) (b:=(z.length:Int)) (by omega) (by omega) rfl,List.toList_toArray,Int.toNat_natCast]
 refine List.take_of_length_le ?_
 rw [List.length_drop]
 omega
noncomputable def Ni (c:Int):Nat:=(2+c % 7).toNat
theorem Tw (c:Int):2<=Ni c/\Ni c<=8:=by unfold Ni; omega
noncomputable def GF (c:Int):List Nat:=(List.range (Ni c)).map fun (j:Nat)=>97+(Bg (c / 7) (j:Nat) % 26).toNat
theorem F_ (c:Int):(GF c).length=Ni c:=by simp [GF]
theorem O5 {c:Int} {x:Nat} (h:x∈GF c):97<=x/\x<=122:=by
 obtain ⟨j,_,rfl⟩:=List.mem_map.mp h
 have h1:0<=Bg (c / 7) (j:Nat) % 26:=Int.emod_nonneg _ (by decide)
 have h2:Bg (c / 7) (j:Nat) % 26<26:=Int.emod_lt_of_pos _ (by decide)
 omega
noncomputable def M_ (c:Int):Nat:=(c / 49 % (2+c % 7 - 1)).toNat
theorem Rn (c:Int):M_ c+2<=Ni c:=by
 unfold M_ Ni
 have h1:0<=c / 49 % (2+c % 7 - 1):=Int.emod_nonneg _ (by omega)
 have h2:c / 49 % (2+c % 7 - 1)<2+c % 7 - 1:=Int.emod_lt_of_pos _ (by omega)
 omega
noncomputable def IW (c:Int) (k:Nat):List Nat:=(GF c).take (M_ c)++[97+k / 26,97+k % 26]++(GF c).drop (M_ c+2)
noncomputable def DG (c:Int) (k:Nat):Str:=⟨(IW c k).toArray⟩
theorem X7 (c:Int) (k:Nat):(IW c k).length=Ni c:=by
 have:=Rn c
 have:=F_ c
 simp [IW]
 omega
theorem cO (c:Int) {k:Nat} (h:k<676):isNm (DG c k):=by
 have:=Tw c
 have e:(DG c k).length=Ni c:=by simp [DG,Str.length,X7]
 refine ⟨by omega,by omega,fun x hx=>?_⟩
 have hx':x∈IW c k:=by simpa [DG] using hx
 unfold IW at hx'
 rcases List.mem_append.mp hx' with hx' | hx'
 ·rcases List.mem_append.mp hx' with hx' | hx'
  ·exact O5 (List.mem_of_mem_take hx')
  ·have:k / 26<26:=by omega
   have:k % 26<26:=Nat.mod_lt _ (by decide)
   rcases List.mem_cons.mp hx' with rfl | hx'
   ·omega
   ·rw [List.mem_singleton.mp hx']
    omega
 ·exact O5 (List.mem_of_mem_drop hx')
theorem Ju {c:Int} {k l:Nat} (h:DG c k=DG c l):k=l:=by
 have h1:IW c k=IW c l:=by
  have:=congrArg (fun s:Str=>s.cps.toList) h
  simpa [DG] using this
 unfold IW at h1
 rw [List.append_assoc,List.append_assoc] at h1
 have h2:=List.append_cancel_left h1
 have e1:97+k / 26=97+l / 26:=by
  have:=congrArg (fun t=>t.head?) h2
  simpa using this
 have e2:97+k % 26=97+l % 26:=by
  have:=congrArg (fun t=>t[1]?) h2
  simpa using this
 omega
end Og
namespace Og
open PySem L2 PyProof.Rows
theorem RN {w:Str} (h:w = "stop" \/ w = "coupler" \/ w = "mute"):Dt (Fp [] [(Sum.inr "coupler",V.int 12),(Sum.inr "mute",.int 5),(Sum.inr "stop",.int 24)]) (Sum.inr w:Key)=some (.int (Fo w:Nat)):=by
 rcases h with rfl | rfl | rfl <;> decide +kernel
theorem Lx.snoc {n:Nat} {kbs:List Kb} {k:Kb} (h:∀ z∈kbs,z.ok n) (hr:∀ (i:Nat) z,kbs[i]? = some z->((kbs.take i).filter (G3 z.w)).length<Fo z.w) (ho:k.ok n) (hk:(kbs.filter (G3 k.w)).length<Fo k.w) :
  (∀ z∈kbs++[k],z.ok n)/\∀ (i:Nat) z,(kbs++[k])[i]? = some z->(((kbs++[k]).take i).filter (G3 z.w)).length<Fo z.w:=by
 refine ⟨fun z hz=>?_,fun i z hz=>?_⟩
 ·rcases List.mem_append.mp hz with q | q
  ·exact h z q
  ·rw [List.mem_singleton.mp q]
   exact ho
 ·by_cases hi:i<kbs.length
  ·rw [List.getElem?_append_left hi] at hz
   rw [List.take_append_of_le_length (by omega)]
   exact hr i z hz
  ·have:i=kbs.length:=by
    have:=(List.getElem?_eq_some_iff.mp hz).1
    rw [List.length_append,List.length_singleton] at this
    omega
   subst this
   rw [List.getElem?_append_right (Nat.le_refl _)] at hz
   simp at hz
   subst hz
   rw [List.take_append_of_le_length (Nat.le_refl _),List.take_length]
   exact hk
structure YH (s:Nat) (pz:List Nat) (l:Ln):Prop where
 r:l.r<pz.length
 lo:0<=l.lo
 le:l.lo<=l.hi
 hi:l.hi<(s:Int)
 s1 : -200<=l.sh
 s2:l.sh<=200
noncomputable abbrev Kl:=Kb × List Ln
noncomputable def Kb.bd:Kb->Nat
 | .cp i _ _=>i
 | .pl _ i=>i
noncomputable def Kb.Yx {n:Nat} {k:Kb} (h:k.ok n):k.bd<n:=by
 cases k with
 | cp i j s=>exact h.1
 | pl w i=>exact h.1
noncomputable def FJ (Dx:Addr) (H:Hp) (z:Kl) (y:V):Prop:=∃ ex,TupAt H (z.1.v++ex) y/\((ex=[]/\z.2=[]/\¬ z.1.w = "stop") \/ (z.1.w = "stop" /\ ∃ A ts,ex=[.ref A]/\¬ A=Dx/\H A=some (.lst ts)/\Paired (fun x y=>TupAt H (RG x) y) z.2 ts))
theorem FJ.mono {Dx:Addr} {H H':Hp} {z:Kl} {y:V} (s:An H H') (h:FJ Dx H z y):FJ Dx H' z y:=by
 obtain ⟨ex,h1,h2⟩:=h
 refine ⟨ex,h1.mono s,?_⟩
 rcases h2 with h2 | ⟨h3,A,ts,e,hn,ha,hp⟩
 ·exact .inl h2
 ·exact .inr ⟨h3,A,ts,e,hn,s _ _ ha,Al s hp⟩
theorem FJ.upd {Dx:Addr} {H:Hp} {z:Kl} {y:V} {ys ws:List V} (h:FJ Dx H z y) (hD:H Dx=some (.lst ys)):FJ Dx (upd H Dx (.lst ws)) z y:=by
 obtain ⟨ex,h1,h2⟩:=h
 refine ⟨ex,h1.upd hD,?_⟩
 rcases h2 with h2 | ⟨h3,A,ts,e,hn,ha,hp⟩
 ·exact .inl h2
 ·exact .inr ⟨h3,A,ts,e,hn,by rw [BP hn]; exact ha,By hp hD⟩
theorem FJ.w0 {Dx:Addr} {H:Hp} {z:Kl} {y:V} (h:FJ Dx H z y):∃ T r,y=.ref T/\H T=some (.tup (.str z.1.w::r)):=by
 obtain ⟨ex,⟨T,e,ht⟩,_⟩:=h
 obtain ⟨r,e2⟩:=z.1.v0
 rw [e2] at ht
 exact ⟨T,_,e,ht⟩
theorem S6 {Dx:Addr} {H:Hp} {kls:List Kl} {us:List V} (w:Str) (h:Paired (fun z y=>FJ Dx H z y) kls us):(us.filter fun v=>decide (Jd H 0 v=V.str w)).length=((kls.map (·.1)).filter (G3 w)).length:=by
 induction h with
 | nil=>rfl
 | @cons a b l m x y ih =>
  have e:Jd H 0 b=V.str a.1.w:=by
   obtain ⟨ex,h1,_⟩:=x
   rw [Gg h1 0]
   obtain ⟨r,e⟩:=a.1.v0
   rw [e]
   rfl
  rw [List.map_cons,List.filter_cons,List.filter_cons]
  have e2:decide (Jd H 0 b=V.str w)=G3 w a.1:=by rw [e]
  rw [e2]
  cases G3 w a.1 <;> simp [ih]
structure Qe (sz pz:List Nat) (kls:List Kl):Prop where
 ok:∀ k∈kls.map (·.1),k.ok sz.length
 room:∀ (i:Nat) k,(kls.map (·.1))[i]? = some k->(((kls.map (·.1)).take i).filter (G3 k.w)).length<Fo k.w
 ln:∀ z∈kls,z.2.length<=4/\(∀ x∈z.2,YH (sz.getD z.1.bd 0) pz x)/\(¬ z.1.w = "stop"->z.2=[])
theorem Qe.nil {sz pz:List Nat}:Qe sz pz []:=⟨(fun _ h=>nomatch h),(fun i k h=>by simp at h),(fun _ h=>nomatch h)⟩
theorem Qe.snoc {sz pz:List Nat} {kls:List Kl} {z:Kl} (h:Qe sz pz kls) (ho:z.1.ok sz.length) (hk:((kls.map (·.1)).filter (G3 z.1.w)).length<Fo z.1.w) (hl:z.2.length<=4/\(∀ x∈z.2,YH (sz.getD z.1.bd 0) pz x)/\(¬ z.1.w = "stop"->z.2=[])):Qe sz pz (kls++[z]):=by
 obtain ⟨a,b⟩:=Lx.snoc h.ok h.room ho hk
 refine ⟨by rw [List.map_append]; exact a,by rw [List.map_append]; exact b,fun x hx=>?_⟩
 rcases List.mem_append.mp hx with g | g
 ·exact h.ln x g
 ·rw [List.mem_singleton.mp g]
  exact hl
end Og
namespace L2
open PySem PySem.Spec PyProof.Rows
end L2
namespace L2
open PySem PySem.Spec PyProof.Rows
section
variable {X:Cx} {pins:List (Addr × Obj)} {σ:St} {H:Hp} {s:Shared} {x z:Str} {scope:Scope} {fp:List Addr} {C:Addr}
end
section
variable {X:Cx} {x z:Str} {scope:Scope}
end
section
variable {X:Cx} {x z:Str} {scope:Scope}
end
end L2
namespace L2
open PySem PySem.Spec PyProof.Rows
section
variable {X:Cx}
noncomputable def jc (K:PySem.W.Frag) (n:Nat) (t:U4):TG:=fun v σ H Q=>∃ a xs,v=.ref a/\CP K H a xs/\xs.length=n/\t xs σ H Q
theorem XR {es:List Expr} {k} {pos:Pos} {t:U4} {n:Nat} (hc:X.calm=true) (h:Yd X es t)
  (hn:(assignEach es X.env).length=n:=by rfl) (hst:(assignEach es X.env).findIdx? (·.1)=none:=by rfl):PG X (.Tuple es k pos) (jc X.K n t):=by
 intro pins s σ H v u Q I r hw
 obtain ⟨a,xs,e1,hq,hl,hw⟩:=hw
 subst e1
 cases r
 obtain ⟨its,rv,p,hz⟩:=I.list hq
 rw [assign_Tuple]
 refine wpAny_bind (wpAny_standAt ?_)
 unfold unpack
 have hlen:(assignEach es X.env).length=its.toArray.size:=by simp [hn,← hl,rv.length]
 rw [hlen,hst]
 refine wpAny_bind (wpAny_holding (PySem.W.kun_itemsOf (I.ok.hd hc) p.isList fun h' hx=>?_))
 have I1:Inv X pins σ H { s with heap:=h' }:=I.kept (t':=s.toks) fun b o e=>hx b o (Nat.ne_of_lt (Heap.lt_size e)) e
 exact h pins _ σ H xs _ Q I1 (by simpa using rv) hw
end
end L2
section PartK23a
set_option maxHeartbeats 4000000
namespace K23
open PySem L2 Og
noncomputable def top (i:Nat):Stmt:=PySem.Challenge.pw_windchest_k23_why_pipes_sound.main.body.getD i (.Pass ⟨0,0,0,0⟩)
noncomputable abbrev gn:Stmt:=top 8
noncomputable abbrev dO:Stmt:=top 9
noncomputable abbrev gh:Stmt:=top 10
noncomputable abbrev dI:Stmt:=top 46
noncomputable abbrev cu:Stmt:=top 47
noncomputable abbrev iW:Stmt:=top 48
noncomputable abbrev cj:Stmt:=top 49
noncomputable abbrev du:Stmt:=top 50
noncomputable abbrev gD:Stmt:=top 51
noncomputable abbrev dD:Stmt:=top 52
noncomputable abbrev iU:Stmt:=top 53
noncomputable abbrev jn:Stmt:=top 55
noncomputable abbrev gr:Stmt:=top 56
noncomputable abbrev jt:Stmt:=top 57
noncomputable abbrev eX:Stmt:=top 58
noncomputable abbrev gq:Stmt:=top 61
noncomputable abbrev dH:Stmt:=top 62
noncomputable abbrev dX:Stmt:=top 63
noncomputable abbrev iJ:Stmt:=top 64
noncomputable abbrev fL:Stmt:=top 13
noncomputable abbrev dU:Stmt:=top 14
noncomputable abbrev iy:Stmt:=top 15
noncomputable abbrev dJ:Stmt:=top 16
noncomputable abbrev jF:Stmt:=top 17
noncomputable abbrev gW:Stmt:=top 18
noncomputable abbrev gJ:Stmt:=top 20
noncomputable abbrev bU:Stmt:=top 21
noncomputable abbrev iu:Stmt:=top 22
noncomputable abbrev gY:Stmt:=top 23
noncomputable abbrev ig:Stmt:=top 24
noncomputable abbrev jA:Stmt:=top 25
noncomputable abbrev UT:Stmt:=top 26
noncomputable abbrev eN:Stmt:=top 28
noncomputable abbrev dR:Stmt:=top 29
noncomputable abbrev eV:Stmt:=top 30
noncomputable abbrev g_:Stmt:=top 31
noncomputable abbrev fJ:Stmt:=top 32
noncomputable abbrev dz:Stmt:=top 33
noncomputable abbrev eQ:Stmt:=top 34
noncomputable abbrev iD:Stmt:=top 35
noncomputable abbrev jN:Stmt:=top 36
noncomputable abbrev gQ:Stmt:=top 37
noncomputable abbrev i_:Stmt:=top 38
noncomputable abbrev fY:Stmt:=top 68
noncomputable abbrev jQ:Stmt:=top 69
noncomputable abbrev jU:Stmt:=top 70
noncomputable abbrev gR:Stmt:=top 71
noncomputable abbrev d9:Stmt:=top 72
noncomputable abbrev dY:Stmt:=top 73
noncomputable abbrev gC:Stmt:=top 74
noncomputable abbrev gZ:Stmt:=top 75
noncomputable abbrev eF:Stmt:=top 76
noncomputable abbrev cz:Stmt:=top 77
noncomputable abbrev jM:Stmt:=top 78
noncomputable abbrev d8:Stmt:=top 81
noncomputable abbrev dZ:Stmt:=top 79
noncomputable abbrev dW:Stmt:=top 80
noncomputable abbrev iG:Stmt:=top 83
noncomputable abbrev jZ:Stmt:=top 82
noncomputable abbrev iz:Stmt:=top 84
noncomputable abbrev dG:Stmt:=top 85
noncomputable abbrev UL:Stmt:=inClass (top 66) 0
noncomputable abbrev ik:Stmt:=inClass (top 66) 2
noncomputable abbrev jX:Stmt:=inClass (top 66) 5
noncomputable abbrev iV:Stmt:=inClass (top 66) 7
noncomputable abbrev fQ:Stmt:=inClass (top 66) 8
noncomputable abbrev jO:Stmt:=inClass (top 66) 13
noncomputable abbrev eY:Stmt:=inClass (top 66) 15
noncomputable abbrev gM:Stmt:=inClass (top 66) 3
noncomputable abbrev jh:Stmt:=inClass (top 66) 6
noncomputable abbrev iC:Stmt:=inClass (top 66) 9
noncomputable abbrev fu:Stmt:=inClass (top 66) 14
noncomputable abbrev h_:Stmt:=inClass (top 66) 16
noncomputable abbrev jl:Stmt:=inClass (top 66) 10
noncomputable abbrev dN:Stmt:=inClass (top 66) 4
noncomputable abbrev KH:Stmt:=top 86
structure Txt (K:PySem.W.Frag) (P:Params) (mg:Str->Option Value) (C aN aK aB aP aM:Addr):Prop where
 len:mg "len" = none
 isin:mg "isinstance" = none
 int:mg "int" = none
 bool:mg "bool" = none
 str:mg "str" = none
 list:mg "list" = none
 tuple:mg "tuple" = none
 all:mg "all" = none
 any:mg "any" = none
 sum:mg "sum" = none
 range:mg "range" = none
 zip:mg "zip" = none
 enumerate:mg "enumerate" = none
 max:mg "max" = none
 reversed:mg "reversed" = none
 set:mg "set" = none
 letters:∃ t,mg "LETTERS" = some (.str letters t)
 mostL:∃ t,mg "MOST_LETTERS" = some (.int 8 t)
 mostR:∃ t,mg "MOST_ROWS" = some (.int 150 t)
 mostLn:∃ t,mg "MOST_LINES" = some (.int 4 t)
 below:∃ t,mg "MEMBERS_BELOW" = some (.int 1200 t)
 mN:mg "NAMED" = some (.ref aN)
 mK:mg "KNOBS" = some (.ref aK)
 mB:mg "BOUNDS" = some (.ref aB)
 mP:mg "PARTS" = some (.ref aP)
 mM:mg "MOST_OF" = some (.ref aM)
 tN:KTup K aN (named.map V.str)
 tK:KTup K aK [.str "stop",.str "coupler",.str "mute"]
 dB:KDict K P aB
 dP:KDict K P aP
 dM:KDict K P aM
 cl:RP K C
 mC:mg "Organ" = some (.ref C)
 n_row_list:Dk K C "row_list"
 n_board_list:Dk K C "board_list"
 n_rank_list:Dk K C "rank_list"
 n_knob_rows:Dk K C "knob_rows"
 n_board_numbers:Dk K C "board_numbers"
 n_rank_numbers:Dk K C "rank_numbers"
 n_knob_numbers:Dk K C "knob_numbers"
 n_key_places:Dk K C "key_places"
 n_pipe_places:Dk K C "pipe_places"
 n_knob_lines:Dk K C "knob_lines"
 n_step_sets:Dk K C "step_sets"
set_option genInjectivity false in
set_option genSizeOf false in
set_option genSizeOfSpec false in
structure Ad where
 (fWh fMd fNm fRo fTo fWi fPa fHp fCl fIk fSb fWm fHr fIr fCk fNu fCa fPl fLi fMy fSt fHa fMe fSh fUn fLe fDc fHk fWa fCq fTb fTt fMu fUk fSk fNb fLl fBs fBa fSo fLt fKa fWs fCe fLw fMx fBi fNa fSz fLn fKn fKs fRw fSp fWd fDr fHd fGo fPi fLd fSw fOi fOb fOc fOk fOo fBk fOp fOr fOq fOe fOs fOm fOx fOz:Addr)
 (dWh dMd dNm dRo dTo dWi dPa dHp dCl dIk dSb dWm dHr dIr dCk dNu dCa dPl dLi dMy dSt dHa dMe dSh dUn dLe dDc dHk dWa dCq dTb dTt dMu dUk dSk dNb dLl dBs dBa dSo dLt dKa dWs dCe dLw dMx dBi dNa dSz dLn dKn dKs dRw dSp dWd dDr dHd dGo dPi dLd dSw dOi dOb dOc dOk dOo dBk dOp dOr dOq dOe dOs dOm dOx dOz:FuncData)
structure jg (K:PySem.W.Frag) (mg:Str->Option Value) (C:Addr) (aD:Ad):Prop where
 FWh:Cu K "is_whole" "is_whole" gn aD.fWh aD.dWh∧Binds K aD.dWh ["thing"] []∧mg "is_whole" = some (.ref aD.fWh)
 FMd:Cu K "is_made_of" "is_made_of" dO aD.fMd aD.dMd∧Binds K aD.dMd ["text","signs","most"] []∧mg "is_made_of" = some (.ref aD.fMd)
 FNm:Cu K "is_name" "is_name" gh aD.fNm aD.dNm∧Binds K aD.dNm ["thing"] []∧mg "is_name" = some (.ref aD.fNm)
 FRo:Cu K "rows_of" "rows_of" dI aD.fRo aD.dRo∧Binds K aD.dRo ["rows","word"] []∧mg "rows_of" = some (.ref aD.fRo)
 FTo:Cu K "is_told" "is_told" cu aD.fTo aD.dTo∧Binds K aD.dTo ["rows","word","thing"] []∧mg "is_told" = some (.ref aD.fTo)
 FWi:Cu K "is_within" "is_within" iW aD.fWi aD.dWi∧Binds K aD.dWi ["thing","bounds"] []∧mg "is_within" = some (.ref aD.fWi)
 FPa:Cu K "is_part" "is_part" cj aD.fPa aD.dPa∧Binds K aD.dPa ["thing","part","ahead"] []∧mg "is_part" = some (.ref aD.fPa)
 FHp:Cu K "has_parts" "has_parts" du aD.fHp aD.dHp∧Binds K aD.dHp ["row","ahead"] []∧mg "has_parts" = some (.ref aD.fHp)
 FCl:Cu K "count_of_last_lines" "count_of_last_lines" gD aD.fCl aD.dCl∧Binds K aD.dCl ["rows"] []∧mg "count_of_last_lines" = some (.ref aD.fCl)
 FIk:Cu K "is_key_of" "is_key_of" dD aD.fIk aD.dIk∧Binds K aD.dIk ["number","board","ahead"] []∧mg "is_key_of" = some (.ref aD.fIk)
 FSb:Cu K "stands_behind_stop" "stands_behind_stop" iU aD.fSb aD.dSb∧Binds K aD.dSb ["line","ahead"] []∧mg "stands_behind_stop" = some (.ref aD.fSb)
 FWm:Cu K "is_well_made" "is_well_made" jn aD.fWm aD.dWm∧Binds K aD.dWm ["row","ahead"] []∧mg "is_well_made" = some (.ref aD.fWm)
 FHr:Cu K "has_room" "has_room" gr aD.fHr aD.dHr∧Binds K aD.dHr ["word","ahead"] []∧mg "has_room" = some (.ref aD.fHr)
 FIr:Cu K "is_row" "is_row" jt aD.fIr aD.dIr∧Binds K aD.dIr ["thing","ahead"] []∧mg "is_row" = some (.ref aD.fIr)
 FCk:Cu K "check_rows" "check_rows" eX aD.fCk aD.dCk∧Binds K aD.dCk ["rows"] []∧mg "check_rows" = some (.ref aD.fCk)
 FNu:Cu K "numbers_of" "numbers_of" gq aD.fNu aD.dNu∧Binds K aD.dNu ["names"] []∧mg "numbers_of" = some (.ref aD.fNu)
 FCa:Cu K "count_in_all" "count_in_all" dH aD.fCa aD.dCa∧Binds K aD.dCa ["things"] []∧mg "count_in_all" = some (.ref aD.fCa)
 FPl:Cu K "places_of" "places_of" dX aD.fPl aD.dPl∧Binds K aD.dPl ["things"] []∧mg "places_of" = some (.ref aD.fPl)
 FLi:Cu K "lines_by_knob" "lines_by_knob" iJ aD.fLi aD.dLi∧Binds K aD.dLi ["rows","rank_numbers"] []∧mg "lines_by_knob" = some (.ref aD.fLi)
 FMy:Cu K "may_be_member" "may_be_member" fL aD.fMy aD.dMy∧Binds K aD.dMy ["thing"] []∧mg "may_be_member" = some (.ref aD.fMy)
 FSt:Cu K "set_of" "set_of" dU aD.fSt aD.dSt∧Binds K aD.dSt ["numbers"] []∧mg "set_of" = some (.ref aD.fSt)
 FHa:Cu K "has_member" "has_member" iy aD.fHa aD.dHa∧Binds K aD.dHa ["some","number"] []∧mg "has_member" = some (.ref aD.fHa)
 FMe:Cu K "members_of" "members_of" dJ aD.fMe aD.dMe∧Binds K aD.dMe ["some"] []∧mg "members_of" = some (.ref aD.fMe)
 FSh:Cu K "shifted" "shifted" jF aD.fSh aD.dSh∧Binds K aD.dSh ["some","steps","count"] []∧mg "shifted" = some (.ref aD.fSh)
 FUn:Cu K "union_of" "union_of" gW aD.fUn aD.dUn∧Binds K aD.dUn ["sets"] []∧mg "union_of" = some (.ref aD.fUn)
 FLe:Cu K "led_to" "led_to" gJ aD.fLe aD.dLe∧Binds K aD.dLe ["organ","knob","key"] []∧mg "led_to" = some (.ref aD.fLe)
 FDc:Cu K "drawn_of" "drawn_of" bU aD.fDc aD.dDc∧Binds K aD.dDc ["organ","knobs","word"] []∧mg "drawn_of" = some (.ref aD.fDc)
 FHk:Cu K "held_keys" "held_keys" iu aD.fHk aD.dHk∧Binds K aD.dHk ["organ","held"] []∧mg "held_keys" = some (.ref aD.fHk)
 FWa:Cu K "coupled_ways" "coupled_ways" gY aD.fWa aD.dWa∧Binds K aD.dWa ["organ","knobs","held"] []∧mg "coupled_ways" = some (.ref aD.fWa)
 FCq:Cu K "coupled_keys" "coupled_keys" ig aD.fCq aD.dCq∧Binds K aD.dCq ["organ","knobs","held"] []∧mg "coupled_keys" = some (.ref aD.fCq)
 FTb:Cu K "trail_back" "trail_back" jA aD.fTb aD.dTb∧Binds K aD.dTb ["ways","held","key"] []∧mg "trail_back" = some (.ref aD.fTb)
 FTt:Uo K "trail_to" "trail_to" UT aD.fTt aD.dTt∧Binds K aD.dTt ["organ","knobs","held","key","least"] []∧mg "trail_to" = some (.ref aD.fTt)
 FMu:Cu K "muted_boards" "muted_boards" eN aD.fMu aD.dMu∧Binds K aD.dMu ["organ","knobs"] []∧mg "muted_boards" = some (.ref aD.fMu)
 FUk:Cu K "unmuted_keys" "unmuted_keys" dR aD.fUk aD.dUk∧Binds K aD.dUk ["organ","knobs","keys"] []∧mg "unmuted_keys" = some (.ref aD.fUk)
 FSk:Cu K "speaking_keys" "speaking_keys" eV aD.fSk aD.dSk∧Binds K aD.dSk ["organ","knobs","held"] []∧mg "speaking_keys" = some (.ref aD.fSk)
 FNb:Cu K "numbers_on_board" "numbers_on_board" g_ aD.fNb aD.dNb∧Binds K aD.dNb ["organ","board","keys"] []∧mg "numbers_on_board" = some (.ref aD.fNb)
 FLl:Cu K "led_by_line" "led_by_line" fJ aD.fLl aD.dLl∧Binds K aD.dLl ["organ","line","numbers"] []∧mg "led_by_line" = some (.ref aD.fLl)
 FBs:Cu K "brought_by_stop" "brought_by_stop" dz aD.fBs aD.dBs∧Binds K aD.dBs ["organ","knob","keys"] []∧mg "brought_by_stop" = some (.ref aD.fBs)
 FBa:Cu K "brought_in_all" "brought_in_all" eQ aD.fBa aD.dBa∧Binds K aD.dBa ["organ","knobs","keys"] []∧mg "brought_in_all" = some (.ref aD.fBa)
 FSo:Cu K "sounding_pipes" "sounding_pipes" iD aD.fSo aD.dSo∧Binds K aD.dSo ["organ","knobs","held"] []∧mg "sounding_pipes" = some (.ref aD.fSo)
 FLt:Cu K "lines_leading_to" "lines_leading_to" jN aD.fLt aD.dLt∧Binds K aD.dLt ["organ","knobs","keys","pipe"] []∧mg "lines_leading_to" = some (.ref aD.fLt)
 FKa:Cu K "key_ahead" "key_ahead" gQ aD.fKa aD.dKa∧Binds K aD.dKa ["organ","knob","number","pipe"] []∧mg "key_ahead" = some (.ref aD.fKa)
 FWs:Cu K "why_sounds" "why_sounds" i_ aD.fWs aD.dWs∧Binds K aD.dWs ["organ","knobs","held","pipe"] []∧mg "why_sounds" = some (.ref aD.fWs)
 FCe:Cu K "_law_cell_at" "_law_cell_at" fY aD.fCe aD.dCe∧Binds K aD.dCe ["_law_script","_law_k"] []∧mg "_law_cell_at" = some (.ref aD.fCe)
 FLw:Cu K "_law_whole" "_law_whole" jQ aD.fLw aD.dLw∧Binds K aD.dLw ["_law_found"] []∧mg "_law_whole" = some (.ref aD.fLw)
 FMx:Cu K "_law_mixed" "_law_mixed" jU aD.fMx aD.dMx∧Binds K aD.dMx ["_law_cell","_law_k"] []∧mg "_law_mixed" = some (.ref aD.fMx)
 FBi:Cu K "_law_bits" "_law_bits" gR aD.fBi aD.dBi∧Binds K aD.dBi ["_law_numbers"] []∧mg "_law_bits" = some (.ref aD.fBi)
 FNa:Cu K "_law_name" "_law_name" d9 aD.fNa aD.dNa∧Binds K aD.dNa ["_law_cell","_law_k"] []∧mg "_law_name" = some (.ref aD.fNa)
 FSz:Cu K "_law_sizes" "_law_sizes" dY aD.fSz aD.dSz∧Binds K aD.dSz ["_law_cell","_law_many","_law_most"] []∧mg "_law_sizes" = some (.ref aD.fSz)
 FLn:Cu K "_law_lines" "_law_lines" gC aD.fLn aD.dLn∧Binds K aD.dLn ["_law_cell","_law_size","_law_pipes"] []∧mg "_law_lines" = some (.ref aD.fLn)
 FKn:Cu K "_law_knob" "_law_knob" gZ aD.fKn aD.dKn∧Binds K aD.dKn ["_law_cell","_law_sizes_here","_law_pipes"] []∧mg "_law_knob" = some (.ref aD.fKn)
 FKs:Cu K "_law_knobs" "_law_knobs" eF aD.fKs aD.dKs∧Binds K aD.dKs ["_law_cells","_law_sizes_here","_law_pipes"] []∧mg "_law_knobs" = some (.ref aD.fKs)
 FRw:Cu K "_law_rows" "_law_rows" cz aD.fRw aD.dRw∧Binds K aD.dRw ["_law_cell","_law_sizes_here","_law_pipes","_law_knobs_here"] []∧mg "_law_rows" = some (.ref aD.fRw)
 FSp:Cu K "_law_spot" "_law_spot" jM aD.fSp aD.dSp∧Binds K aD.dSp ["_law_sizes_here","_law_key"] []∧mg "_law_spot" = some (.ref aD.fSp)
 FWd:Cu K "_law_world" "_law_world" d8 aD.fWd aD.dWd∧Binds K aD.dWd ["_law_script"] []∧mg "_law_world" = some (.ref aD.fWd)
 FDr:Cu K "_law_drawn" "_law_drawn" dZ aD.fDr aD.dDr∧Binds K aD.dDr ["_law_cell","_law_count"] []∧mg "_law_drawn" = some (.ref aD.fDr)
 FHd:Cu K "_law_held" "_law_held" dW aD.fHd aD.dHd∧Binds K aD.dHd ["_law_cell","_law_count"] []∧mg "_law_held" = some (.ref aD.fHd)
 FGo:Cu K "_law_goal" "_law_goal" iG aD.fGo aD.dGo∧Binds K aD.dGo ["_law_sizes_here","_law_knob_here","_law_key"] []∧mg "_law_goal" = some (.ref aD.fGo)
 FPi:Cu K "_law_pipes_of" "_law_pipes_of" jZ aD.fPi aD.dPi∧Binds K aD.dPi ["_law_sizes_here","_law_pipes","_law_knob_here","_law_key"] []∧mg "_law_pipes_of" = some (.ref aD.fPi)
 FLd:Cu K "_law_leads" "_law_leads" iz aD.fLd aD.dLd∧Binds K aD.dLd ["_law_sizes_here","_law_knobs_here","_law_drawn_here","_law_held_here","_law_key","_law_least","_law_trail"] []∧mg "_law_leads" = some (.ref aD.fLd)
 FSw:Cu K "_law_shows" "_law_shows" dG aD.fSw aD.dSw∧Binds K aD.dSw ["_law_world_here","_law_drawn_here","_law_held_here","_law_pipe","_law_found"] []∧mg "_law_shows" = some (.ref aD.fSw)
 FOi:Cu K "__init__" "Organ.__init__" UL aD.fOi aD.dOi∧Binds K aD.dOi ["self","rows"] []∧Mk K C aD.fOi
 FOb:Cu K "boards" "Organ.boards" ik aD.fOb aD.dOb∧Binds K aD.dOb ["self"] []∧Meth K C "boards" aD.fOb
 FOc:Cu K "key_count" "Organ.key_count" jX aD.fOc aD.dOc∧Binds K aD.dOc ["self"] []∧Meth K C "key_count" aD.fOc
 FOk:Cu K "key" "Organ.key" iV aD.fOk aD.dOk∧Binds K aD.dOk ["self","board","number"] []∧Meth K C "key" aD.fOk
 FOo:Cu K "board_of" "Organ.board_of" fQ aD.fOo aD.dOo∧Binds K aD.dOo ["self","key"] []∧Meth K C "board_of" aD.fOo
 FBk:Cu K "board_of_knob" "Organ.board_of_knob" jO aD.fBk aD.dBk∧Binds K aD.dBk ["self","knob"] []∧Meth K C "board_of_knob" aD.fBk
 FOp:Cu K "coupler" "Organ.coupler" eY aD.fOp aD.dOp∧Binds K aD.dOp ["self","knob"] []∧Meth K C "coupler" aD.fOp
 FOr:Cu K "ranks" "Organ.ranks" gM aD.fOr aD.dOr∧Binds K aD.dOr ["self"] []∧Meth K C "ranks" aD.fOr
 FOq:Cu K "pipe_count" "Organ.pipe_count" jh aD.fOq aD.dOq∧Binds K aD.dOq ["self"] []∧Meth K C "pipe_count" aD.fOq
 FOe:Cu K "pipe" "Organ.pipe" iC aD.fOe aD.dOe∧Binds K aD.dOe ["self","rank","number"] []∧Meth K C "pipe" aD.fOe
 FOs:Cu K "stop" "Organ.stop" fu aD.fOs aD.dOs∧Binds K aD.dOs ["self","knob"] []∧Meth K C "stop" aD.fOs
 FOm:Cu K "mute" "Organ.mute" h_ aD.fOm aD.dOm∧Binds K aD.dOm ["self","knob"] []∧Meth K C "mute" aD.fOm
 FOx:Cu K "rank_of" "Organ.rank_of" jl aD.fOx aD.dOx∧Binds K aD.dOx ["self","pipe"] []∧Meth K C "rank_of" aD.fOx
 FOz:Cu K "knobs" "Organ.knobs" dN aD.fOz aD.dOz∧Binds K aD.dOz ["self"] []∧Meth K C "knobs" aD.fOz
section
variable {P:Program} {w:World} {K:PySem.W.Frag} {mg:Str->Option Value} {base:Heap} {C aN aK aB aP aM:Addr} {aD:Ad}
variable (N:jg K mg C aD) (T:Txt K w.params mg C aN aK aB aP aM)
noncomputable def QC:Sp:=fun vs H Q _=>∃ i:Int,vs=[.int i]/\Q (.bl true) H
theorem jK:Av ["thing"] ["thing"] (Ag gn):=Bl
include N T in
theorem V0:Aq P w K mg base Be 1 aD.fWh aD.dWh ["thing"] QC:=by
 refine N.FWh.1.ok jK (fun vs H Q E h=>?_) (fun cdv A outer s H vs Q E hr h=>?_)
 ·obtain ⟨i,rfl,_⟩:=h
  rfl
 ·obtain ⟨i,rfl,q⟩:=h
  refine ⟨_,(Ah (Aw (Dw (BL CK rfl T.isin PyProof.Rows.boot_isinstance (Aa (pv 0) (Aa (DQ (v:=.ty "int") rfl T.int PyProof.Rows.boot_int rfl) Ac))) (Ds (Oq (BL CK rfl T.isin PyProof.Rows.boot_isinstance (Aa (pv 0) (Aa (DQ (v:=.ty "bool") rfl T.bool PyProof.Rows.boot_bool rfl) Ac)))))))),?_⟩
  refine ⟨_,rfl,_,"int",_,_,rfl,.int i,ty_int,_,rfl,Cv ?_⟩
  exact ⟨_,rfl,_,"bool",_,_,rfl,.int i,V9,_,rfl,q⟩
noncomputable def ZK:Sp:=fun vs H Q _=>∃ z:Str,vs=[.str z,.str letters,.int 8]/\isNm z/\∀ H',An H H'->Q (.bl true) H'
theorem gG:Av ["text","signs","most"] ["text","signs","most"] (Ag dO):=Bl
include N T in
theorem bJ:Aq P w K mg base Be 1 aD.fMd aD.dMd ["text","signs","most"] ZK:=by
 refine N.FMd.1.ok gG (fun vs H Q E h=>?_) (fun cdv A outer s H vs Q E hr h=>?_)
 ·obtain ⟨z,rfl,_⟩:=h
  rfl
 ·obtain ⟨z,rfl,hz,q⟩:=h
  refine ⟨_,(Ah (Aw (Dw (Hq Er Er Ab (BL Ky rfl T.len PySem.boot_len (Aa (pv 0) Ac)) (pv 2)) (Ds (BL (J8 rfl) rfl T.all PyProof.Rows.boot_all (Aa (Bs rfl (Ba (osc:=Ag dO) (N:=["text","signs","most"]) rfl rfl (by decide +kernel)) (Wu (pv 0)) (fun _ _ _ _=>CZ) (fun _ _ _ _=>(Dq Qi (pv 0) (pv 2) rfl))) Ac)))))),?_⟩
  have hzl:z.length<sizeLine:=BJ (by have:=hz.2.1; omega)
  refine ⟨_,rfl,z,rfl,Nat.le_of_lt hzl,_,_,rfl,rfl,_,rfl,?_⟩
  refine Dr (fun h1=>?_) (fun h1=>absurd (decide_eq_true (by have:=hz.1; omega)) h1)
  refine ⟨_,rfl,_,_,rfl,rfl,_,rfl,?_⟩
  refine Dr (fun h2=>?_) (fun h2=>absurd (decide_eq_true (by have:=hz.2.1; omega)) h2)
  refine ⟨_,rfl,z,rfl,SQ (fun _=>true) (fun c=>.bl (Y_ letters c)) hzl (fun c hc H' hs R k=>k H' (An.refl H')) (fun c hc _ H' hs R k=>⟨_,rfl,_,rfl,_,_,rfl,rfl,k H' (An.refl H')⟩) (fun D H' hD hs hl=>?_)⟩
  refine ⟨D,z.cps.toList.map (Y_ letters),rfl,.inl (.inl ?_),?_⟩
  ·rw [hl,List.filter_eq_self.mpr (fun _ _=>rfl),List.map_map]
   rfl
  ·have e:(z.cps.toList.map (Y_ letters)).all id=true:=by
    rw [List.all_map,List.all_eq_true]
    intro c hc
    have:=hz.2.2 c hc
    show Y_ letters c=true
    rw [Vp c (by omega)]
    exact decide_eq_true this
   rw [e]
   exact q H' hs
noncomputable def W3:Sp:=fun vs H Q _=>∃ z:Str,vs=[.str z]/\isNm z/\∀ H',An H H'->Q (.bl true) H'
theorem jR:Av ["thing"] ["thing"] (Ag gh):=Bl
include N T in
theorem V_:Aq P w K mg base Be 2 aD.fNm aD.dNm ["thing"] W3:=by
 have GMd:Aq P w K mg base Be 1 aD.fMd aD.dMd ["text","signs","most"] ZK:=bJ N T
 refine N.FNm.1.ok jR (fun vs H Q E h=>?_) (fun cdv A outer s H vs Q E hr h=>?_)
 ·obtain ⟨z,rfl,_⟩:=h
  rfl
 ·obtain ⟨z,rfl,hz,q⟩:=h
  have hrMd:BR 1 _:=hr.mono (by decide)
  obtain ⟨tLET,hLET⟩:=T.letters
  obtain ⟨tML,hML⟩:=T.mostL
  refine ⟨_,(Ah (Aw (Dw (BL CK rfl T.isin PyProof.Rows.boot_isinstance (Aa (pv 0) (Aa (DQ (v:=.ty "str") rfl T.str PyProof.Rows.boot_str rfl) Ac))) (Ds (Ai GMd hrMd rfl N.FMd.2.2 N.FMd.1.kp N.FMd.2.1 .nil Ao (Aa (pv 0) (Aa (Dh (v:=.str letters) rfl hLET ⟨tLET,rfl⟩) (Aa (Dh (v:=.int 8) rfl hML ⟨tML,rfl⟩) Ac)))))))),?_⟩
  refine ⟨_,rfl,_,"str",_,_,rfl,.str z,Vz,_,rfl,Cv ?_⟩
  exact ⟨_,rfl,z,rfl,hz,q⟩
noncomputable def Qd:Sp:=fun vs H Q _=>∃ (p:Addr) (us:List V) (w:Str) (ρ:V->R),vs=[.ref p,.str w]/\H p=some (.lst us)/\Rows H ρ us/\us.length<=500/\∀ D H',H D=none->An H H'->H' D=some (.lst (us.filter (pw ρ w)))->Q (.ref D) H'
theorem jf:Av ["rows","word"] ["rows","word"] (Ag dI):=Bl
include N T in
theorem Ml:Aq P w K mg base Be 1 aD.fRo aD.dRo ["rows","word"] Qd:=by
 refine N.FRo.1.ok jf (fun vs H Q E h=>?_) (fun cdv A outer s H vs Q E hr h=>?_)
 ·obtain ⟨p,us,w,ρ,rfl,_⟩:=h
  rfl
 ·obtain ⟨p,us,w,ρ,rfl,hp,hR,hl,q⟩:=h
  refine ⟨_,(Ah (Aw (Bs rfl (Ba (osc:=Ag dI) (N:=["rows","word"]) rfl rfl (by decide +kernel)) (Bh (pv 0)) (fun _ _ _ _=>(Gk (BW Du (Am (Ak (K:=K) rfl) (pv 0) Ab (fun _ _=>rfl)) (pv 2) (Bc _)))) (fun _ _ _ _=>(pv 0))))),?_⟩
  have hS:CP K H p us:=.inl (.inl hp)
  refine ⟨_,rfl,p,rfl,⟨_,hS⟩,Cp (K:=K) (xs:=us) (pw ρ w) id hS (BJ (by omega)) (fun x hx H' hs R k=>?_) (fun x hx _ H' hs R k=>⟨_,rfl,k H' (An.refl H')⟩) (fun D H' hD hs hl'=>?_)⟩
  ·obtain ⟨T0,rfl,hT⟩:=(hR x hx).mono hs
   exact ⟨_,rfl,T0,_,_,_,rfl,rfl,.inl (.inl hT),Af (j:=0) rfl,_,rfl,rfl,_,rfl,k H' (An.refl H')⟩
  ·rw [List.map_id] at hl'
   exact q D H' hD hs hl'
noncomputable def bA:Sp:=fun vs H Q _=>∃ (p:Addr) (us:List V) (w t:Str) (ρ:V->R),vs=[.ref p,.str w,.str t]/\H p=some (.lst us)/\Rows H ρ us/\us.length<=500/\isNm t/\∀ H',An H H'->Q (.bl (V5 ρ us w t)) H'
theorem fM:Av ["rows","word","thing"] ["rows","word","thing"] (Ag cu):=Bl
include N T in
theorem Y6:Aq P w K mg base Be 3 aD.fTo aD.dTo ["rows","word","thing"] bA:=by
 have GNm:Aq P w K mg base Be 2 aD.fNm aD.dNm ["thing"] W3:=V_ N T
 have GRo:Aq P w K mg base Be 1 aD.fRo aD.dRo ["rows","word"] Qd:=Ml N T
 refine N.FTo.1.ok fM (fun vs H Q E h=>?_) (fun cdv A outer s H vs Q E hr h=>?_)
 ·obtain ⟨p,us,w,t,ρ,rfl,_⟩:=h
  rfl
 ·obtain ⟨p,us,w,t,ρ,rfl,hp,hR,hl,ht,q⟩:=h
  have hrNm:BR 2 _:=hr.mono (by decide)
  have hrRo:BR 1 _:=hr.mono (by decide)
  refine ⟨_,(Ah (Aw (Dw (Ai GNm hrNm rfl N.FNm.2.2 N.FNm.1.kp N.FNm.2.1 .nil Ao (Aa (pv 2) Ac)) (Ds (BL (Jg rfl) rfl T.any PyProof.Rows.boot_any (Aa (Bs rfl (Ba (osc:=Ag cu) (N:=["rows","word","thing"]) rfl rfl (by decide +kernel)) (Bh (Ai GRo hrRo rfl N.FRo.2.2 N.FRo.1.kp N.FRo.2.1 .nil Ao (Aa (pv 0) (Aa (pv 1) Ac)))) (fun _ _ _ _=>CZ) (fun _ _ _ _=>(Dq Du (Am (Ak (K:=K) rfl) (pv 0) Ab (fun _ _=>rfl)) (pv 3) (Bc _)))) Ac)))))),?_⟩
  refine ⟨_,rfl,t,rfl,ht,fun H1 s1=>⟨_,rfl,Cv ?_⟩⟩
  refine ⟨_,rfl,_,rfl,p,us,w,ρ,rfl,s1 _ _ hp,hR.mono s1,hl,fun D H2 hD s2 hl2=>?_⟩
  have hS:CP K H2 D (us.filter (pw ρ w)):=.inl (.inl hl2)
  refine ⟨D,rfl,⟨_,hS⟩,Cp (K:=K) (xs:=us.filter (pw ρ w)) (fun _=>true) (fun v=>.bl (pn ρ t v)) hS (BJ (by have:=Ha (pw ρ w) us; omega)) (fun x hx H' hs R k=>k H' (An.refl H')) (fun x hx _ H' hs R k=>?_) (fun D3 H3 hD3 s3 hl3=>?_)⟩
  ·obtain ⟨T0,rfl,hT⟩:=(((hR.mono s1).mono s2).mono hs) x (List.mem_filter.mp hx).1
   exact ⟨_,rfl,T0,_,_,_,rfl,rfl,.inl (.inl hT),Af (j:=1) rfl,_,rfl,rfl,k H' (An.refl H')⟩
  ·refine ⟨D3,(us.filter (pw ρ w)).map (pn ρ t),rfl,.inl (.inl ?_),?_⟩
   ·rw [hl3,List.filter_eq_self.mpr (fun _ _=>rfl),List.map_map]
    rfl
   ·have e:((us.filter (pw ρ w)).map (pn ρ t)).any id=V5 ρ us w t:=by
     rw [List.any_map]
     rfl
    rw [e]
    exact q H3 ((s1.trans s2).trans s3)
noncomputable def cU (K:PySem.W.Frag):Sp:=fun vs H Q _=>∃ (i lo hi:Int) (b:Addr),vs=[.int i,.ref b]/\KTup K b [.int lo,.int hi]/\lo<=i/\i<=hi/\Q (.bl true) H
theorem iH:Av ["thing","bounds"] ["thing","bounds"] (Ag iW):=Bl
include N T in
theorem ZF:Aq P w K mg base Be 2 aD.fWi aD.dWi ["thing","bounds"] (cU K):=by
 have GWh:Aq P w K mg base Be 1 aD.fWh aD.dWh ["thing"] QC:=V0 N T
 refine N.FWi.1.ok iH (fun vs H Q E h=>?_) (fun cdv A outer s H vs Q E hr h=>?_)
 ·obtain ⟨i,lo,hi,b,rfl,_⟩:=h
  rfl
 ·obtain ⟨i,lo,hi,b,rfl,hb,h1,h2,q⟩:=h
  have hrWh:BR 1 _:=hr.mono (by decide)
  refine ⟨_,(Ah (Aw (Dw (Ai GWh hrWh rfl N.FWh.2.2 N.FWh.1.kp N.FWh.2.1 .nil Ao (Aa (pv 0) Ac)) (Ds (Hq Er Er (Am (Ak (K:=K) rfl) (pv 1) Ab (fun _ _=>rfl)) (pv 0) (Am (Ak (K:=K) rfl) (pv 1) Ab (fun _ _=>rfl))))))),?_⟩
  refine ⟨_,rfl,i,rfl,_,rfl,Cv ?_⟩
  refine ⟨_,rfl,b,_,_,_,rfl,rfl,hb.sq _,Af (j:=0) rfl,_,rfl,_,_,rfl,rfl,_,rfl,?_⟩
  refine Dr (fun _=>?_) (fun z=>absurd (decide_eq_true h1) z)
  refine ⟨_,rfl,b,_,_,_,rfl,rfl,hb.sq _,Af (j:=1) rfl,_,_,rfl,rfl,?_⟩
  show Q (.bl (decide (i<=hi))) H
  rw [decide_eq_true h2]
  exact q
noncomputable def bT (K:PySem.W.Frag) (aB:Addr):Sp:=fun vs H Q _=>∃ (x:V) (part:Str) (p:Addr) (us:List V) (ρ:V->R),vs=[x,.str part,.ref p]/\H p=some (.lst us)/\Rows H ρ us/\us.length<=500/\Hm K aB ρ us x part/\∀ H',An H H'->Q (.bl true) H'
theorem jJ:Av ["thing","part","ahead"] ["thing","part","ahead"] (Ag cj):=Bl
include N T in
theorem Zt:Aq P w K mg base Be 4 aD.fPa aD.dPa ["thing","part","ahead"] (bT K aB):=by
 have GNm:Aq P w K mg base Be 2 aD.fNm aD.dNm ["thing"] W3:=V_ N T
 have GTo:Aq P w K mg base Be 3 aD.fTo aD.dTo ["rows","word","thing"] bA:=Y6 N T
 have GWi:Aq P w K mg base Be 2 aD.fWi aD.dWi ["thing","bounds"] (cU K):=ZF N T
 refine N.FPa.1.ok jJ (fun vs H Q E h=>?_) (fun cdv A outer s H vs Q E hr h=>?_)
 ·obtain ⟨x,part,p,us,ρ,rfl,_⟩:=h
  rfl
 ·obtain ⟨x,part,p,us,ρ,rfl,hp,hR,hl,hok,q⟩:=h
  have hrNm:BR 2 _:=hr.mono (by decide)
  have hrTo:BR 3 _:=hr.mono (by decide)
  have hrWi:BR 2 _:=hr.mono (by decide)
  refine ⟨_,(Ae (Br (N8 (Rc (pv 1) (Dh (v:=.ref aB) rfl T.mB rfl))) (Ah (Aw (Ai GWi hrWi rfl N.FWi.2.2 N.FWi.1.kp N.FWi.2.1 .nil Ao (Aa (pv 0) (Aa (Li (Dh (v:=.ref aB) rfl T.mB rfl) (pv 1) (fun _ _=>rfl)) Ac))))) Bb)
   (Ae (Br (BW Du (pv 1) Bt (Bc _)) (Ah (Aw (Dw (Ai GNm hrNm rfl N.FNm.2.2 N.FNm.1.kp N.FNm.2.1 .nil Ao (Aa (pv 0) Ac)) (Ds (Oq (BL (Jg rfl) rfl T.any PyProof.Rows.boot_any (Aa (Bs rfl (Ba (osc:=Ag cj) (N:=["thing","part","ahead"]) rfl rfl (by decide +kernel)) (XQ (Dh (v:=.ref aN) rfl T.mN rfl)) (fun _ _ _ _=>CZ) (fun _ _ _ _=>(Ai GTo hrTo rfl N.FTo.2.2 N.FTo.1.kp N.FTo.2.1 .nil Ao (Aa (pv 3) (Aa (pv 0) (Aa (pv 1) Ac)))))) Ac))))))) Bb)
   (Ah (Aw (Ai GTo hrTo rfl N.FTo.2.2 N.FTo.1.kp N.FTo.2.1 .nil Ao (Aa (pv 2) (Aa (pv 1) (Aa (pv 0) Ac)))))))),?_⟩
  rcases hok with ⟨i,lo,hi,b,rfl,hn,hb,h1,h2⟩ | ⟨hn,rfl,t,rfl,ht,hno⟩ | ⟨hn,hne,t,rfl,ht,hyes⟩
  ·refine ⟨_,rfl,aB,part,_,rfl,rfl,T.dB,hn,_,rfl,Cv ?_⟩
   exact ⟨_,rfl,_,rfl,aB,part,.ref b,_,rfl,rfl,T.dB,hn,rfl,i,lo,hi,b,rfl,hb,h1,h2,q H (An.refl H)⟩
  ·refine ⟨_,rfl,aB,_,_,rfl,rfl,T.dB,hn,_,rfl,Bo ?_⟩
   refine ⟨_,rfl,rfl,_,rfl,Cv ?_⟩
   refine ⟨_,rfl,t,rfl,ht,fun H1 s1=>⟨_,rfl,Cv ?_⟩⟩
   have hS:Hf K H1 aN (named.map V.str):=T.tN.sq _
   refine ⟨aN,rfl,⟨_,hS⟩,IK (xs:=named.map V.str) (fun _=>true) (fun _=>.bl false) (by show 5<sizeLine; decide) (fun i H2 x hs hx=>⟨_,x,hs.tup hS,hx⟩) (fun i H2 y H3 hs _ hy=>⟨hy.1,hy.2 _ (hs.tup hS)⟩) (fun H2 hs=>⟨_,hs.tup hS,Nat.le_refl _⟩)
    (fun x hx H' hs R k=>k H' (An.refl H')) (fun x hx _ H' hs R k=>?_) (fun D H2 hD s2 hl2=>?_)⟩
   ·obtain ⟨w0,hw0,rfl⟩:=List.mem_map.mp hx
    refine ⟨_,rfl,_,rfl,_,rfl,p,us,w0,t,ρ,rfl,hs _ _ (s1 _ _ hp),(hR.mono s1).mono hs,hl,ht,fun H'' s''=>?_⟩
    rw [hno w0 hw0]
    exact k H'' s''
   ·refine ⟨D,[false,false,false,false,false],rfl,.inl (.inl hl2),_,rfl,?_⟩
    exact q H2 (s1.trans s2)
  ·refine ⟨_,rfl,aB,_,_,rfl,rfl,T.dB,hn,_,rfl,Bo ?_⟩
   refine ⟨_,rfl,rfl,_,rfl,?_⟩
   refine Dr (fun z=>absurd (V.str.inj (of_decide_eq_true z)) hne) (fun _=>?_)
   refine ⟨_,rfl,_,rfl,_,rfl,p,us,part,t,ρ,rfl,hp,hR,hl,ht,fun H' hs=>?_⟩
   rw [hyes]
   exact q H' hs
noncomputable def Zn (K:PySem.W.Frag) (aB aP:Addr):Sp:=fun vs H Q _=>∃ (r p:Addr) (w:Str) (xs:List V) (us:List V) (ρ:V->R) (ap:Addr) (ps:List Str),vs=[.ref r,.ref p]/\H r=some (.tup (.str w::xs))/\H p=some (.lst us)/\Rows H ρ us/\us.length<=500 /\
 PySem.W.nsIn K aP w=some (some (.ref ap))/\KTup K ap (ps.map V.str)/\xs.length=ps.length/\ps.length<=10/\(∀ (i:Nat) x y,xs[i]? = some x->ps[i]? = some y->Hm K aB ρ us x y)/\∀ H',An H H'->Q (.bl true) H'
theorem Zr:Av ["row","ahead","parts"] ["row","ahead"] (Ag du):=Bl
include N T in
theorem aJ:Aq P w K mg base Be 5 aD.fHp aD.dHp ["row","ahead"] (Zn K aB aP):=by
 have GPa:Aq P w K mg base Be 4 aD.fPa aD.dPa ["thing","part","ahead"] (bT K aB):=Zt N T
 refine N.FHp.1.ok Zr (fun vs H Q E h=>?_) (fun cdv A outer s H vs Q E hr h=>?_)
 ·obtain ⟨r,p,w,xs,us,ρ,ap,ps,rfl,_⟩:=h
  rfl
 ·obtain ⟨r,p,w,xs,us,ρ,ap,ps,rfl,hr0,hp,hR,hl,hn,hap,hlen,hps,hok,q⟩:=h
  have hrPa:BR 4 _:=hr.mono (by decide)
  refine ⟨_,(Ae (Az (i:=2) Zr.nd rfl (Or.inl rfl) (Li (Dh (v:=.ref aP) rfl T.mP rfl) (Am (Ak (K:=K) rfl) (pv 0) Ab (fun _ _=>rfl)) (fun _ _=>rfl)))
   (Ae (Br (BW E_ (BL BX rfl T.len PySem.boot_len (Aa (pv 0) Ac)) (Ar Bm Ab (BL BX rfl T.len PySem.boot_len (Aa (pv 2) Ac))) (Bc _)) (Ah (Aw Es)) Bb)
   (Ah (Aw (BL (J8 rfl) rfl T.all PyProof.Rows.boot_all (Aa (O8 rfl (J1 (osc:=Ag du) (N:=["row","ahead","parts"]) rfl rfl (by decide +kernel)) (VR rfl T.zip (Aa (Dd X6 (pv 0) (Ca Ab) Ec) (Aa (pv 2) Ac))) (fun _ _ _ _=>CZ) (fun _ _ _ _=>(Ai GPa hrPa rfl N.FPa.2.2 N.FPa.1.kp N.FPa.2.1 .nil Ao (Aa (pv 0) (Aa (pv 1) (Aa (pv 3) Ac)))))) Ac)))))),?_⟩
  refine ⟨_,rfl,r,_,_,_,rfl,rfl,.inl (.inl hr0),Af (j:=0) rfl,aP,w,.ref ap,_,rfl,rfl,T.dP,hn,rfl,?_⟩
  refine ⟨_,rfl,r,_,rfl,.inr (.inl (.inl hr0)),_,rfl,ap,_,rfl,.inr (hap.sq _),_,_,rfl,rfl,rfl,_,rfl,?_⟩
  refine Dr (fun z=>?_) (fun _=>?_)
  ·exfalso
   have e:(((V.str w::xs).length:Nat):Int)=1+(((ps.map V.str).length:Nat):Int):=by
    rw [List.length_cons,List.length_map,hlen]
    omega
   rw [e] at z
   simp at z
  ·have hcut:Cy (V.str w::xs) (some 1) none=xs:=by
    unfold Cy
    have e1:HT.D_ (V.str w::xs).length 0 (some ((1:Nat):Int))=1:=by rw [HT.Hy,List.length_cons]; omega
    have e1':HT.D_ (V.str w::xs).length 0 (some (1:Int))=1:=e1
    rw [e1',HT.Jl,List.drop_succ_cons,List.drop_zero]
    exact List.take_of_length_le (by rw [List.length_cons]; omega)
   refine ⟨_,rfl,_,rfl,r,_,rfl,.inl (.inl hr0),(fun z=>?_),fun p2 hp2=>?_⟩
   ·have e1:HT.D_ (V.str w::xs).length 0 (some ((1:Nat):Int))=1:=by rw [HT.Hy,List.length_cons]; omega
    have:=z.1.symm.trans e1
    cases this
   rw [hcut]
   obtain ⟨H2,eqH,s2,a2⟩:=JC (o:=HO.tup xs) hp2
   rw [eqH]
   have h1:Hf K H2 p2 xs:=.inl (.inl a2)
   refine ⟨_,rfl,p2,ap,rfl,⟨_,h1⟩,⟨_,hap.sq _⟩,R1 (K:=K) (xs:=xs) (ys:=ps.map V.str) (fun _ _=>.bl true) h1 (hap.sq _) (by rw [List.length_map]; exact hlen) (BJ (by omega)) (fun i x y hx hy H3 s3 R k=>?_) (fun D H3 hD s3 hl3=>?_)⟩
   ·rw [List.getElem?_map] at hy
    obtain ⟨part,hpart,rfl⟩:=Option.map_eq_some_iff.mp hy
    exact ⟨_,rfl,_,rfl,_,rfl,x,part,p,us,ρ,rfl,s3 _ _ (s2 _ _ hp),(hR.mono s2).mono s3,hl,hok i x part hx hpart,fun H4 s4=>k H4 s4⟩
   ·have e:List.zipWith (fun _ _=>V.bl true) xs (ps.map V.str)=(List.replicate xs.length true).map V.bl:=by
     rw [List.map_replicate]
     refine List.ext_getElem? fun i=>?_
     rw [List.getElem?_zipWith]
     by_cases hi:i<xs.length
     ·rw [List.getElem?_eq_getElem hi,List.getElem?_eq_getElem (by rw [List.length_map]; omega),List.getElem?_eq_getElem (by rw [List.length_replicate]; exact hi)]
      simp
     ·rw [List.getElem?_eq_none (by omega),List.getElem?_eq_none (l:=List.replicate _ _) (by rw [List.length_replicate]; omega)]
    rw [e] at hl3
    refine ⟨D,List.replicate xs.length true,rfl,.inl (.inl hl3),?_⟩
    have e2:(List.replicate xs.length true).all id=true:=by simp
    rw [e2]
    exact q H3 (s2.trans s3)
noncomputable def Yi:Sp:=fun vs H Q _=>∃ (p:Addr) (us:List V) (ρ:V->R) (c:Nat),vs=[.ref p]/\H p=some (.lst us)/\Rows H ρ us/\us.length<=500/\WT ρ us c/\Q (.int (c:Nat)) H
theorem VM:Av ["rows","count","row"] ["rows"] (Ag gD):=Bl
include N T in
theorem a_:Aq P w K mg base Be 1 aD.fCl aD.dCl ["rows"] Yi:=by
 refine N.FCl.1.ok VM (fun vs H Q E h=>?_) (fun cdv A outer s H vs Q E hr h=>?_)
 ·obtain ⟨p,us,ρ,c,rfl,_⟩:=h
  rfl
 ·obtain ⟨p,us,ρ,c,rfl,hp,hR,hl,hc,q⟩:=h
  refine ⟨_,(Ae (Az (i:=1) VM.nd rfl (Or.inl rfl) Ab)
   (Ae (DN PassesOwn.never rfl (Xe rfl T.reversed (Aa (pv 0) Ac)) (Bd (i:=2) VM.nd rfl (Or.inl rfl)) (Ae (Br (BW E_ (Am (Ak (K:=K) rfl) (pv 2) Ab (fun _ _=>rfl)) Bt (Bc _)) (Ah Rm) Bb)
   (Ah (Az (i:=1) VM.nd rfl (Or.inl rfl) (Ar Bm (pv 1) Ab)))))
   (Ah (Aw (pv 1))))),?_⟩
  have hS:CP K H p us:=.inl (.inl hp)
  refine ⟨_,rfl,p,us,rfl,hS,Uy (K:=K) (a:=p) (xs:=us) (fun i σ H4=>H4=H/\i<=c/\∃ v2,σ=[some (.ref p),some (.int (i:Nat)),v2]) ⟨rfl,Nat.zero_le _,_,rfl⟩ (fun i σ H4 _ h=>by rw [h.1]; exact hS) ?_ ?_⟩
  ·rintro i x σ H4 hi hx ⟨rfl,hic,v2,rfl⟩
   obtain ⟨r,rfl,hr0⟩:=hR x (List.mem_of_getElem? hx)
   refine ⟨_,rfl,r,_,_,_,rfl,rfl,.inl (.inl hr0),Af (j:=0) rfl,rfl,_,rfl,?_⟩
   by_cases e:(ρ (.ref r)).w = "line"
   ·have hne:i ≠ c:=fun z=>by
     obtain ⟨v,hv,hno⟩:=hc.no
     rw [← z,hx] at hv
     cases hv
     exact hno e
    refine Wg (congrArg V.str e) ?_
    exact ⟨_,rfl,_,_,rfl,rfl,rfl,by omega,_,rfl⟩
   ·have hic':i=c:=by
     refine Classical.byContradiction fun z=>?_
     obtain ⟨v,hv,hyes⟩:=hc.all i (by omega)
     rw [hx] at hv
     cases hv
     exact e hyes
    subst hic'
    rw [decide_eq_false fun z=>e (V.str.inj z)]
    refine Cv ?_
    exact ⟨_,rfl,q⟩
  ·rintro σ H4 ⟨rfl,hic,v2,rfl⟩
   have:=hc.lt
   omega
noncomputable def Zq:Sp:=fun vs H Q _=>∃ (n:Int) (bd:Str) (p:Addr) (us:List V) (ρ:V->R),vs=[.int n,.str bd,.ref p]/\H p=some (.lst us)/\Rows H ρ us/\us.length<=500/\FN ρ us/\∀ H',An H H'->Q (.bl (keyOf ρ us bd n)) H'
theorem iZ:Av ["number","board","ahead"] ["number","board","ahead"] (Ag dD):=Bl
include N T in
theorem Zv:Aq P w K mg base Be 2 aD.fIk aD.dIk ["number","board","ahead"] Zq:=by
 have GRo:Aq P w K mg base Be 1 aD.fRo aD.dRo ["rows","word"] Qd:=Ml N T
 refine N.FIk.1.ok iZ (fun vs H Q E h=>?_) (fun cdv A outer s H vs Q E hr h=>?_)
 ·obtain ⟨n,bd,p,us,ρ,rfl,_⟩:=h
  rfl
 ·obtain ⟨n,bd,p,us,ρ,rfl,hp,hR,hl,hB,q⟩:=h
  have hrRo:BR 1 _:=hr.mono (by decide)
  refine ⟨_,(Ah (Aw (BL (Jg rfl) rfl T.any PyProof.Rows.boot_any (Aa (Bs rfl (Ba (osc:=Ag dD) (N:=["number","board","ahead"]) rfl rfl (by decide +kernel)) (Bh (Ai GRo hrRo rfl N.FRo.2.2 N.FRo.1.kp N.FRo.2.1 .nil Ao (Aa (pv 2) (Aa Bt Ac)))) (fun _ _ _ _=>CZ) (fun _ _ _ _=>(Dw (Dq Du (Am (Ak (K:=K) rfl) (pv 0) Ab (fun _ _=>rfl)) (pv 2) (Bc _)) (Ds (Dq GX (pv 1) (Am (Ak (K:=K) rfl) (pv 0) Ab (fun _ _=>rfl)) (Bc _)))))) Ac)))),?_⟩
  refine ⟨_,rfl,p,us,"board",ρ,rfl,hp,hR,hl,fun D H2 hD s2 hl2=>?_⟩
  have hS:CP K H2 D (us.filter (pw ρ "board")):=.inl (.inl hl2)
  refine ⟨D,rfl,⟨_,hS⟩,Cp (K:=K) (xs:=us.filter (pw ρ "board")) (fun _=>true) (fun v=>.bl (pn ρ bd v && decide (n<XF (ρ v)))) hS (BJ (by have:=Ha (pw ρ "board") us; omega)) (fun x hx H' hs R k=>k H' (An.refl H')) (fun x hx _ H' hs R k=>?_) (fun D3 H3 hD3 s3 hl3=>?_)⟩
  ·have hx':=List.mem_filter.mp hx
   obtain ⟨m,em⟩:=hB x hx'.1 (V.str.inj (of_decide_eq_true hx'.2))
   have hz:XF (ρ x)=m:=by unfold XF; rw [em]
   have hT:=((hR.mono s2).mono hs) x hx'.1
   have kk:=k H' (An.refl H')
   rw [hz] at kk
   obtain ⟨T0,rfl,hT⟩:=hT
   have kk:R (.bl (decide (V.str (ρ (.ref T0)).nm=V.str bd) && decide (n<m))) H':=kk
   have hT':H' T0=some (.tup (.str (ρ (.ref T0)).w :: .str (ρ (.ref T0)).nm::(ρ (.ref T0)).rest)):=hT
   rw [em] at hT'
   refine ⟨_,rfl,T0,_,_,_,rfl,rfl,.inl (.inl hT'),Af (j:=1) rfl,_,rfl,rfl,_,rfl,?_⟩
   refine Dr (fun g=>?_) (fun g=>?_)
   ·rw [g,Bool.true_and] at kk
    exact ⟨_,rfl,_,rfl,T0,_,_,_,rfl,rfl,.inl (.inl hT'),Af (j:=2) rfl,_,_,rfl,rfl,kk⟩
   ·rw [(Bool.not_eq_true _).mp g,Bool.false_and] at kk
    exact kk
  ·refine ⟨D3,(us.filter (pw ρ "board")).map (fun v=>pn ρ bd v && decide (n<XF (ρ v))),rfl,.inl (.inl ?_),?_⟩
   ·rw [hl3,List.filter_eq_self.mpr (fun _ _=>rfl),List.map_map]
    rfl
   ·have e:((us.filter (pw ρ "board")).map (fun v=>pn ρ bd v && decide (n<XF (ρ v)))).any id=keyOf ρ us bd n:=by
     rw [List.any_map]
     rfl
    rw [e]
    exact q H3 (s2.trans s3)
noncomputable def YW:Sp:=fun vs H Q _=>∃ (r p:Addr) (ro:R) (us:List V) (ρ:V->R),vs=[.ref r,.ref p]/\H r=some (.tup ro.v)/\H p=some (.lst us)/\Rows H ρ us/\us.length<=500/\NB ρ us ro/\FN ρ us/\∀ H',An H H'->Q (.bl true) H'
theorem Xq:Av ["line","ahead","count","row"] ["line","ahead"] (Ag iU):=Bl
include N T in
theorem Z_:Aq P w K mg base Be 3 aD.fSb aD.dSb ["line","ahead"] YW:=by
 have GCl:Aq P w K mg base Be 1 aD.fCl aD.dCl ["rows"] Yi:=a_ N T
 have GIk:Aq P w K mg base Be 2 aD.fIk aD.dIk ["number","board","ahead"] Zq:=Zv N T
 refine N.FSb.1.ok Xq (fun vs H Q E h=>?_) (fun cdv A outer s H vs Q E hr h=>?_)
 ·obtain ⟨r,p,ro,us,ρ,rfl,_⟩:=h
  rfl
 ·obtain ⟨r,p,ro,us,ρ,rfl,hr0,hp,hR,hl,hL,hB,q⟩:=h
  have hrCl:BR 1 _:=hr.mono (by decide)
  have hrIk:BR 2 _:=hr.mono (by decide)
  obtain ⟨tML4,hML4⟩:=T.mostLn
  refine ⟨_,(Ae (Az (i:=2) Xq.nd rfl (Or.inl rfl) (Ai GCl hrCl rfl N.FCl.2.2 N.FCl.1.kp N.FCl.2.1 .nil Ao (Aa (pv 1) Ac)))
   (Ae (Az (i:=3) Xq.nd rfl (Or.inl rfl) (Am Ek (pv 1) (Ar Dy (Ar Dy (BL BX rfl T.len PySem.boot_len (Aa (pv 1) Ac)) Ab) (pv 2)) (fun _ _=>rfl)))
   (Ae (Br (PW.pt (Dm (BW E_ (Am (Ak (K:=K) rfl) (pv 3) Ab (fun _ _=>rfl)) Bt (Bc _)) (Eb (BW SJ (pv 2) (Dh (v:=.int 4) rfl hML4 ⟨tML4,rfl⟩) (Bc _))))) (Ah (Aw Es)) Bb)
   (Ah (Aw (Dw (Dq Er (Am (Ak (K:=K) rfl) (pv 0) Ab (fun _ _=>rfl)) (Am (Ak (K:=K) rfl) (pv 0) Ab (fun _ _=>rfl)) (Bc _)) (Ds (Ai GIk hrIk rfl N.FIk.2.2 N.FIk.1.kp N.FIk.2.1 .nil Ao (Aa (Am (Ak (K:=K) rfl) (pv 0) Ab (fun _ _=>rfl)) (Aa (Am (Ak (K:=K) rfl) (pv 3) Ab (fun _ _=>rfl)) (Aa (pv 1) Ac))))))))))),?_⟩
  obtain ⟨cnt,v,sh,lo,hi,bd,rs,er,hc,h4,hv,hw,hrest,hle,hk⟩:=hL.ex
  have hr1:H r=some (.tup [.str ro.w,.str ro.nm,.int sh,.int lo,.int hi]):=by rw [hr0,← er]
  obtain ⟨r2,rfl,hr2⟩:=hR v (List.mem_of_getElem? hv)
  have hr2':H r2=some (.tup (.str (ρ (.ref r2)).w :: .str (ρ (.ref r2)).nm :: .str bd::rs)):=by rw [hr2,← hrest]
  have hlt:=hc.lt
  have ei:((us.length:Nat):Int) - 1 - ((cnt:Nat):Int)=((us.length - 1 - cnt:Nat):Int):=by omega
  have hS:CP K H p us:=.inl (.inl hp)
  refine ⟨_,rfl,p,us,ρ,cnt,rfl,hp,hR,hl,hc,?_⟩
  refine ⟨_,rfl,_,rfl,p,us,rfl,.inl hS,_,_,rfl,rfl,_,rfl,_,_,rfl,rfl,p,us,_,_,rfl,rfl,hS,(by rw [ei]; exact Af hv),?_⟩
  refine ⟨_,rfl,r2,_,_,_,rfl,rfl,.inl (.inl hr2'),Af (j:=0) rfl,rfl,_,rfl,Wg (congrArg V.str hw) ?_⟩
  refine ⟨_,rfl,_,_,rfl,rfl,_,rfl,?_⟩
  refine Dr (fun z=>?_) (fun _=>?_)
  ·have:=of_decide_eq_true z
   omega
  refine ⟨_,rfl,r,_,_,_,rfl,rfl,.inl (.inl hr1),Af (j:=3) rfl,_,rfl,r,_,_,_,rfl,rfl,.inl (.inl hr1),Af (j:=4) rfl,_,_,rfl,rfl,_,rfl,?_⟩
  refine Dr (fun _=>?_) (fun z=>absurd (decide_eq_true hle) z)
  refine ⟨_,rfl,r,_,_,_,rfl,rfl,.inl (.inl hr1),Af (j:=4) rfl,_,rfl,r2,_,_,_,rfl,rfl,.inl (.inl hr2'),Af (j:=2) rfl,_,rfl,hi,bd,p,us,ρ,rfl,hp,hR,hl,hB,fun H' s'=>?_⟩
  rw [hk]
  exact q H' s'
noncomputable def XM (K:PySem.W.Frag) (aB aP aM:Addr):Sp:=fun vs H Q _=>∃ (r p:Addr) (ro:R) (us:List V) (ρ:V->R),vs=[.ref r,.ref p]/\H r=some (.tup ro.v)/\H p=some (.lst us)/\Rows H ρ us/\us.length<=500/\Gq K aB aP aM ρ us ro/\∀ H',An H H'->Q (.bl true) H'
theorem gP:Av ["row","ahead"] ["row","ahead"] (Ag jn):=Bl
include N T in
theorem ao:Aq P w K mg base Be 6 aD.fWm aD.dWm ["row","ahead"] (XM K aB aP aM):=by
 have GHp:Aq P w K mg base Be 5 aD.fHp aD.dHp ["row","ahead"] (Zn K aB aP):=aJ N T
 have GSb:Aq P w K mg base Be 3 aD.fSb aD.dSb ["line","ahead"] YW:=Z_ N T
 refine N.FWm.1.ok gP (fun vs H Q E h=>?_) (fun cdv A outer s H vs Q E hr h=>?_)
 ·obtain ⟨r,p,ro,us,ρ,rfl,_⟩:=h
  rfl
 ·obtain ⟨r,p,ro,us,ρ,rfl,hr0,hp,hR,hl,ok,q⟩:=h
  have hrHp:BR 5 _:=hr.mono (by decide)
  have hrSb:BR 3 _:=hr.mono (by decide)
  refine ⟨_,(Ae (Br (BW Du (Am (Ak (K:=K) rfl) (pv 0) Ab (fun _ _=>rfl)) Bt (Bc _)) (Ah Gy) Bb)
   (Ae (Br (BW Du (Am (Ak (K:=K) rfl) (pv 0) Ab (fun _ _=>rfl)) Bt (Bc _)) (Ah (Aw (Dw (Ai GHp hrHp rfl N.FHp.2.2 N.FHp.1.kp N.FHp.2.1 .nil Ao (Aa (pv 0) (Aa (pv 1) Ac))) (Ds (Ai GSb hrSb rfl N.FSb.2.2 N.FSb.1.kp N.FSb.2.1 .nil Ao (Aa (pv 0) (Aa (pv 1) Ac))))))) Bb)
   (Ah (Aw (Dw (Tf (Rc (Am (Ak (K:=K) rfl) (pv 0) Ab (fun _ _=>rfl)) (Dh (v:=.ref aP) rfl T.mP rfl))) (Ds (Ai GHp hrHp rfl N.FHp.2.2 N.FHp.1.kp N.FHp.2.1 .nil Ao (Aa (pv 0) (Aa (pv 1) Ac))))))))),?_⟩
  obtain ⟨ap,ps,hn,hap,hlen,hps,hok⟩:=ok.parts
  refine ⟨_,rfl,r,_,_,_,rfl,rfl,.inl (.inl hr0),Af (j:=0) rfl,rfl,_,rfl,?_⟩
  refine Dr (fun z=>absurd (V.str.inj (of_decide_eq_true z)) ok.ns) (fun _=>?_)
  refine ⟨_,rfl,r,_,_,_,rfl,rfl,.inl (.inl hr0),Af (j:=0) rfl,rfl,_,rfl,?_⟩
  refine Dr (fun z=>?_) (fun _=>?_)
  ·have hline:=ok.line (V.str.inj (of_decide_eq_true z))
   refine ⟨_,rfl,_,rfl,r,p,ro.w,_,us,ρ,ap,ps,rfl,hr0,hp,hR,hl,hn,hap,hlen,hps,hok,fun H1 s1=>⟨_,rfl,Cv ?_⟩⟩
   exact ⟨_,rfl,_,rfl,r,p,ro,us,ρ,rfl,s1 _ _ hr0,s1 _ _ hp,hR.mono s1,hl,hline,ok.YC,fun H2 s2=>q H2 (s1.trans s2)⟩
  refine ⟨_,rfl,r,_,_,_,rfl,rfl,.inl (.inl hr0),Af (j:=0) rfl,aP,_,_,rfl,rfl,T.dP,hn,_,rfl,Cv ?_⟩
  exact ⟨_,rfl,_,rfl,r,p,ro.w,_,us,ρ,ap,ps,rfl,hr0,hp,hR,hl,hn,hap,hlen,hps,hok,q⟩
noncomputable def Y8 (K:PySem.W.Frag) (aM:Addr):Sp:=fun vs H Q _=>∃ (p:Addr) (w:Str) (us:List V) (ρ:V->R),vs=[.str w,.ref p]/\H p=some (.lst us)/\Rows H ρ us/\us.length<=500/\(PySem.W.nsIn K aM w=some none \/ ∃ (m:Int) (t:Tok),PySem.W.nsIn K aM w=some (some (.int m t))/\(((us.filter (pw ρ w)).length:Nat):Int)<m)/\∀ H',An H H'->Q (.bl true) H'
theorem jH:Av ["word","ahead"] ["word","ahead"] (Ag gr):=Bl
include N T in
theorem bh:Aq P w K mg base Be 2 aD.fHr aD.dHr ["word","ahead"] (Y8 K aM):=by
 have GRo:Aq P w K mg base Be 1 aD.fRo aD.dRo ["rows","word"] Qd:=Ml N T
 refine N.FHr.1.ok jH (fun vs H Q E h=>?_) (fun cdv A outer s H vs Q E hr h=>?_)
 ·obtain ⟨p,w,us,ρ,rfl,_⟩:=h
  rfl
 ·obtain ⟨p,w,us,ρ,rfl,hp,hR,hl,hroom,q⟩:=h
  have hrRo:BR 1 _:=hr.mono (by decide)
  refine ⟨_,(Ah (Aw (Zk (Tf (Q9 (pv 0) (Dh (v:=.ref aM) rfl T.mM rfl))) (Ds (Dq GX (BL BX rfl T.len PySem.boot_len (Aa (Ai GRo hrRo rfl N.FRo.2.2 N.FRo.1.kp N.FRo.2.1 .nil Ao (Aa (pv 1) (Aa (pv 0) Ac))) Ac)) (Li (Dh (v:=.ref aM) rfl T.mM rfl) (pv 0) (fun _ _=>rfl)) (Bc _)))))),?_⟩
  rcases hroom with hn | ⟨m,t,hn,hm⟩
  ·refine ⟨_,rfl,aM,w,_,rfl,rfl,T.dM,hn,_,rfl,Cv ?_⟩
   exact q H (An.refl H)
  refine ⟨_,rfl,aM,w,_,rfl,rfl,T.dM,hn,_,rfl,Bo ?_⟩
  refine ⟨_,rfl,_,rfl,p,us,w,ρ,rfl,hp,hR,hl,fun D H2 hD s2 hl2=>?_⟩
  refine ⟨D,_,rfl,.inl (.inl (.inl hl2)),_,rfl,aM,w,.int m,_,rfl,rfl,T.dM,hn,⟨t,rfl⟩,_,_,rfl,rfl,?_⟩
  show Q (.bl (decide ((((us.filter (pw ρ w)).length:Nat):Int)<m))) H2
  rw [decide_eq_true hm]
  exact q H2 s2
noncomputable def aW (K:PySem.W.Frag) (aB aP aM:Addr):Sp:=XM K aB aP aM
theorem jm:Av ["thing","ahead"] ["thing","ahead"] (Ag jt):=Bl
include N T in
theorem cL:Aq P w K mg base Be 7 aD.fIr aD.dIr ["thing","ahead"] (aW K aB aP aM):=by
 have GWm:Aq P w K mg base Be 6 aD.fWm aD.dWm ["row","ahead"] (XM K aB aP aM):=ao N T
 have GHr:Aq P w K mg base Be 2 aD.fHr aD.dHr ["word","ahead"] (Y8 K aM):=bh N T
 refine N.FIr.1.ok jm (fun vs H Q E h=>?_) (fun cdv A outer s H vs Q E hr h=>?_)
 ·obtain ⟨r,p,ro,us,ρ,rfl,_⟩:=h
  rfl
 ·obtain ⟨r,p,ro,us,ρ,rfl,hr0,hp,hR,hl,ok,q⟩:=h
  have hrWm:BR 6 _:=hr.mono (by decide)
  have hrHr:BR 2 _:=hr.mono (by decide)
  refine ⟨_,(Ae (Br (PW.pt (Dm (CJ (CV (BL CK rfl T.isin PyProof.Rows.boot_isinstance (Aa (pv 0) (Aa (DQ (v:=.ty "tuple") rfl T.tuple PyProof.Rows.boot_tuple rfl) Ac))))) (Dm (BW Du (BL BX rfl T.len PySem.boot_len (Aa (pv 0) Ac)) Ab (Bc _)) (Eb (CJ (CV (BL CK rfl T.isin PyProof.Rows.boot_isinstance (Aa (Am (Ak (K:=K) rfl) (pv 0) Ab (fun _ _=>rfl)) (Aa (DQ (v:=.ty "str") rfl T.str PyProof.Rows.boot_str rfl) Ac))))))))) (Ah (Aw Es)) Bb)
   (Ah (Aw (Dw (Ai GWm hrWm rfl N.FWm.2.2 N.FWm.1.kp N.FWm.2.1 .nil Ao (Aa (pv 0) (Aa (pv 1) Ac))) (Ds (Ai GHr hrHr rfl N.FHr.2.2 N.FHr.1.kp N.FHr.2.1 .nil Ao (Aa (Am (Ak (K:=K) rfl) (pv 0) Ab (fun _ _=>rfl)) (Aa (pv 1) Ac)))))))),?_⟩
  have hroom:PySem.W.nsIn K aM ro.w=some none \/ ∃ (m:Int) (t:Tok),PySem.W.nsIn K aM ro.w=some (some (.int m t))/\(((us.filter (pw ρ ro.w)).length:Nat):Int)<m:=ok.room.elim (fun z=>.inl z.2) .inr
  refine ⟨_,rfl,_,"tuple",_,_,rfl,.tup hr0,MF,_,rfl,Bo ?_⟩
  refine ⟨_,rfl,r,_,rfl,.inr (.inl (.inl hr0)),rfl,_,rfl,?_⟩
  refine Dr (fun z=>?_) (fun _=>?_)
  ·exfalso
   have:=of_decide_eq_true z
   have:=V.int.inj this
   simp at this
   omega
  refine ⟨_,rfl,r,_,_,_,rfl,rfl,.inl (.inl hr0),Af (j:=0) rfl,_,"str",_,_,rfl,.str _,Vz,_,rfl,Bo ?_⟩
  refine ⟨_,rfl,_,rfl,r,p,ro,us,ρ,rfl,hr0,hp,hR,hl,ok,fun H1 s1=>⟨_,rfl,Cv ?_⟩⟩
  exact ⟨_,rfl,r,_,_,_,rfl,rfl,.inl (.inl (s1 _ _ hr0)),Af (j:=0) rfl,_,rfl,p,ro.w,us,ρ,rfl,s1 _ _ hp,hR.mono s1,hl,hroom,fun H2 s2=>q H2 (s1.trans s2)⟩
noncomputable def cg (K:PySem.W.Frag) (aB aP aM:Addr):Sp:=fun vs H Q _=>∃ (p:Addr) (us:List V) (ρ:V->R),vs=[.ref p]/\H p=some (.lst us)/\Rows H ρ us/\1<=us.length/\us.length<=150/\(∀ (i:Nat) v,us[i]? = some v->Gq K aB aP aM ρ (us.take i) (ρ v))/\(us.filter (pw ρ "board")).isEmpty=false/\∀ H',An H H'->Q .non H'
theorem Wz:Av ["rows","at","row"] ["rows"] (Ag eX):=Bl
include N T in
theorem Yz:Aq P w K mg base Be 8 aD.fCk aD.dCk ["rows"] (cg K aB aP aM):=by
 have GIr:Aq P w K mg base Be 7 aD.fIr aD.dIr ["thing","ahead"] (aW K aB aP aM):=cL N T
 have GRo:Aq P w K mg base Be 1 aD.fRo aD.dRo ["rows","word"] Qd:=Ml N T
 refine N.FCk.1.ok Wz (fun vs H Q E h=>?_) (fun cdv A outer s H vs Q E hr h=>?_)
 ·obtain ⟨p,us,ρ,rfl,_⟩:=h
  rfl
 ·obtain ⟨p,us,ρ,rfl,hp,hR,h1,h2,hok,hb,q⟩:=h
  have hrIr:BR 7 _:=hr.mono (by decide)
  have hrRo:BR 1 _:=hr.mono (by decide)
  obtain ⟨tMR,hMR⟩:=T.mostR
  refine ⟨_,(Ae (Br (PW.pt (Dm (CJ (CV (BL CK rfl T.isin PyProof.Rows.boot_isinstance (Aa (pv 0) (Aa (DQ (v:=.ty "list") rfl T.list PyProof.Rows.boot_list rfl) Ac))))) (Eb (CJ (FT Er Er Ab (BL BX rfl T.len PySem.boot_len (Aa (pv 0) Ac)) (Dh (v:=.int 150) rfl hMR ⟨tMR,rfl⟩)))))) (Ah Gy) Bb)
   (Ae (DN PassesOwn.never rfl (Ia rfl T.enumerate (Aa (pv 0) Ac)) (Fz rfl (Bf (Bd (i:=1) Wz.nd rfl (Or.inl rfl)) (Bf (Bd (i:=2) Wz.nd rfl (Or.inl rfl)) Ea))) (Ah (Br (CJ (CV (Ai GIr hrIr rfl N.FIr.2.2 N.FIr.1.kp N.FIr.2.1 .nil Ao (Aa (pv 2) (Aa (Dd Ey (pv 0) Ec (Ca (pv 1))) Ac))))) (Ah Gy) Bb)))
   (Ah (Br (CJ (Jz (Ai GRo hrRo rfl N.FRo.2.2 N.FRo.1.kp N.FRo.2.1 .nil Ao (Aa (pv 0) (Aa Bt Ac))) (fun _=>rfl))) (Ah Gy) Bb)))),?_⟩
  have hS:CP K H p us:=.inl (.inl hp)
  refine ⟨_,rfl,_,"list",_,_,rfl,.lst hp,Pn,_,rfl,Bo ?_⟩
  refine ⟨_,rfl,p,_,rfl,.inl hS,_,_,rfl,rfl,_,rfl,?_⟩
  refine Dr (fun _=>?_) (fun z=>absurd (decide_eq_true (by omega)) z)
  refine ⟨_,_,rfl,rfl,_,rfl,?_⟩
  have e150:decide ((us.length:Int)<=150)=true:=decide_eq_true (by omega)
  rw [e150]
  refine Bo ?_
  refine ⟨_,rfl,p,rfl,⟨_,hS⟩,IV (K:=K) (a:=p) (xs:=us) (fun i σ H4=>An H H4/\∃ v1 v2,σ=[some (.ref p),v1,v2]) ⟨An.refl H,_,_,rfl⟩ (fun i σ H4 _ h=>h.1.seq hS) ?_ ?_⟩
  ·rintro i x σ H4 T0 hx ⟨s4,v1,v2,rfl⟩ hT
   have s5:=Ax (o:=HO.tup [.int (i:Int),x]) hT
   refine ⟨T0,_,rfl,.inl (.inl Aj),rfl,_,_,rfl,_,_,rfl,rfl,?_⟩
   generalize upd H4 T0 (HO.tup [.int (i:Int),x])=H5 at s5 ⊢
   have s05:=s4.trans s5
   have hi:i<us.length:=(List.getElem?_eq_some_iff.mp hx).1
   obtain ⟨r,rfl,hr0⟩:=(hR.mono s05) x (List.mem_of_getElem? hx)
   refine ⟨_,rfl,_,rfl,_,rfl,_,rfl,p,_,rfl,s05.seq hS,fun p6 hp6=>?_⟩
   have s6:=Ax (o:=HO.lst (Cy us none (some (i:Int)))) hp6
   have a6:upd H5 p6 (HO.lst (Cy us none (some (i:Int)))) p6=_:=Aj
   generalize upd H5 p6 (HO.lst (Cy us none (some (i:Int))))=H6 at s6 a6 ⊢
   rw [G7 us i (by omega)] at a6
   have s06:=s05.trans s6
   refine ⟨r,p6,ρ (.ref r),us.take i,ρ,rfl,s6 _ _ hr0,a6,(hR.mono s06).sub fun v hv=>List.mem_of_mem_take hv,by rw [List.length_take]; omega,hok i _ hx,fun H7 s7=>⟨_,rfl,Bo ?_⟩⟩
   exact ⟨s06.trans s7,_,_,rfl⟩
  ·rintro σ H4 ⟨s4,v1,v2,rfl⟩
   refine ⟨_,rfl,p,us,"board",ρ,rfl,s4 _ _ hp,hR.mono s4,by omega,fun D H5 hD s5 hl5=>?_⟩
   refine ⟨_,.inl ⟨_,.inl (.inl hl5),rfl⟩,?_⟩
   rw [hb]
   exact Bo (q H5 (s4.trans s5))
noncomputable def Zj:Sp:=fun vs H Q _=>∃ (p:Addr) (ts:List Str),vs=[.ref p]/\H p=some (.lst (ts.map V.str))/\ts.length<=300/\ts.Nodup/\∀ D (kvs:List (Key × V)) H',H D=none->An H H'->H' D=some (.dK kvs)->(∀ (i:Nat) t,ts[i]? = some t->Dt kvs (Sum.inr t)=some (.int (i:Nat)))->Q (.ref D) H'
theorem U0:Av ["names","numbers","number","name"] ["names"] (Ag gq):=Bl
include N T in
theorem ZJ:Aq P w K mg base Be 1 aD.fNu aD.dNu ["names"] Zj:=by
 refine N.FNu.1.ok U0 (fun vs H Q E h=>?_) (fun cdv A outer s H vs Q E hr h=>?_)
 ·obtain ⟨p,ts,rfl,_⟩:=h
  rfl
 ·obtain ⟨p,ts,rfl,hp,hl,nd,q⟩:=h
  have hu:=Fl hr
  refine ⟨_,(Ae (Az (i:=1) U0.nd rfl (Or.inl rfl) MN)
   (Ae (DN PassesOwn.never rfl (Ia rfl T.enumerate (Aa (pv 0) Ac)) (Fz rfl (Bf (Bd (i:=2) U0.nd rfl (Or.inl rfl)) (Bf (Bd (i:=3) U0.nd rfl (Or.inl rfl)) Ea))) (Ah (PB hu (pv 1) (pv 3) (pv 2) rfl)))
   (Ah (Aw (pv 1))))),?_⟩
  intro D hD
  have s0:=Ax (o:=HO.dK []) hD
  have hS:CP K H p (ts.map V.str):=.inl (.inl hp)
  refine ⟨_,rfl,p,rfl,⟨_,s0.seq hS⟩,IV (K:=K) (a:=p) (xs:=ts.map V.str) (fun i σ H4=>An H H4/\∃ (kvs:List (Key × V)),H4 D=some (.dK kvs)/\kvs.length<=i/\(∀ (j:Nat) t,j<i->ts[j]? = some t->Dt kvs (Sum.inr t)=some (.int (j:Nat)))/\∃ v2 v3,σ=[some (.ref p),some (.ref D),v2,v3])
   ⟨s0,[],Aj,Nat.le_refl _,fun j t hj=>absurd hj (Nat.not_lt_zero _),_,_,rfl⟩ (fun i σ H4 _ h=>h.1.seq hS) ?_ ?_⟩
  ·rintro i x σ H4 T0 hx ⟨s4,kvs,hd,hk,hv,v2,v3,rfl⟩ hT
   rw [List.getElem?_map] at hx
   obtain ⟨t,ht,rfl⟩:=Option.map_eq_some_iff.mp hx
   have hi:i<ts.length:=(List.getElem?_eq_some_iff.mp ht).1
   have s5:=Ax (o:=HO.tup [.int (i:Int),.str t]) hT
   refine ⟨T0,_,rfl,.inl (.inl Aj),rfl,_,_,rfl,_,_,rfl,rfl,?_⟩
   generalize upd H4 T0 (HO.tup [.int (i:Int),.str t])=H5 at s5 ⊢
   refine ⟨_,rfl,_,rfl,_,rfl,D,_,rfl,QF.k (k:=Sum.inr t) (s5 _ _ hd) (BJ (by omega)),?_⟩
   refine ⟨fun b u e=>?_,putK kvs (Sum.inr t) (.int (i:Int)),Aj,Nat.le_trans (Fj _ _ _) (by omega),fun j t' hj ht'=>?_,_,_,rfl⟩
   ·rw [BP (A_ e hD)]
    exact s5 _ _ (s4 _ _ e)
   ·rw [S7]
    by_cases e:t'=t
    ·subst e
     have:j=i:=by
      obtain ⟨h1,e1⟩:=List.getElem?_eq_some_iff.mp ht'
      obtain ⟨h2,e2⟩:=List.getElem?_eq_some_iff.mp ht
      exact (List.getElem_inj nd).mp (e1.trans e2.symm)
     subst this
     rw [if_pos rfl]
    ·rw [if_neg fun z=>e (Sum.inr.inj z)]
     refine hv j t' ?_ ht'
     rcases Nat.lt_succ_iff_lt_or_eq.mp hj with z | z
     ·exact z
     ·subst z
      rw [ht] at ht'
      exact absurd (Option.some.inj ht').symm e
  ·rintro σ H4 ⟨s4,kvs,hd,hk,hv,v2,v3,rfl⟩
   refine ⟨_,rfl,q D kvs H4 hD s4 hd fun i t ht=>hv i t ?_ ht⟩
   rw [List.length_map]
   exact (List.getElem?_eq_some_iff.mp ht).1
noncomputable def XJ:Sp:=fun vs H Q _=>∃ (p:Addr) (as:List Th) (us:List V),vs=[.ref p]/\H p=some (.lst us)/\Paired (fun (a:Th) y=>TupAt H (tV a) y) as us/\as.length<=500/\(∀ a∈as,a.2.1<=100)/\∀ H',An H H'->Q (.int ((as.map fun a=>a.2.1).sum:Nat)) H'
theorem Gi:∀ l:List Nat,(l.map fun n:Nat=>(n:Int)).sum=((l.sum:Nat):Int)
 | []=>rfl
 | n::l=>by
  rw [List.map_cons,List.sum_cons,List.sum_cons,Gi l]
  omega
theorem fC:Av ["things"] ["things"] (Ag dH):=Bl
include N T in
theorem We:Aq P w K mg base Be 1 aD.fCa aD.dCa ["things"] XJ:=by
 refine N.FCa.1.ok fC (fun vs H Q E h=>?_) (fun cdv A outer s H vs Q E hr h=>?_)
 ·obtain ⟨p,as,us,rfl,_⟩:=h
  rfl
 ·obtain ⟨p,as,us,rfl,hp,hb,hl,hz,q⟩:=h
  refine ⟨_,(Ah (Aw (BL (GC rfl) rfl T.sum PyProof.Rows.boot_sum (Aa (Bs rfl (Ba (osc:=Ag dH) (N:=["things"]) rfl rfl (by decide +kernel)) (Bh (pv 0)) (fun _ _ _ _=>CZ) (fun _ _ _ _=>(Am (Ak (K:=K) rfl) (pv 0) Ab (fun _ _=>rfl)))) Ac)))),?_⟩
  have hS:CP K H p us:=.inl (.inl hp)
  have hul:=hb.length
  refine ⟨_,rfl,p,rfl,⟨_,hS⟩,Cp (K:=K) (xs:=us) (fun _=>true) (Jd H 1) hS (BJ (by omega)) (fun x hx H' hs R k=>k H' (An.refl H')) (fun x hx _ H' hs R k=>?_) (fun D H' hD hs hl'=>?_)⟩
  ·obtain ⟨b,_,hx'⟩:=DX hb hx
   have e:=Gg hx' 1
   obtain ⟨T0,rfl,hT⟩:=hx'.mono hs
   refine ⟨_,rfl,T0,_,_,_,rfl,rfl,.inl (.inl hT),Af (j:=1) rfl,?_⟩
   have:=k H' (An.refl H')
   rw [e] at this
   exact this
  ·rw [List.filter_eq_self.mpr (fun _ _=>rfl),JV 1 hb] at hl'
   have e:(as.map fun a=>(tV a).getD 1 V.non)=((as.map fun a=>a.2.1).map fun n:Nat=>(n:Int)).map V.int:=by
    rw [List.map_map,List.map_map]
    rfl
   rw [e] at hl'
   refine ⟨D,_,rfl,.inl (.inl hl'),fun n hn=>?_,by simp; omega,?_⟩
   ·obtain ⟨m,hm,rfl⟩:=List.mem_map.mp hn
    obtain ⟨b,hb',rfl⟩:=List.mem_map.mp hm
    have:=hz b hb'
    omega
   ·rw [Gi]
    exact q H' hs
theorem cD {n:Nat} (h:n<=3000):n<sizeLine:=Nat.lt_of_le_of_lt h (by decide)
noncomputable def bf:Sp:=fun vs H Q _=>∃ (p:Addr) (as:List Th) (us:List V),vs=[.ref p]/\H p=some (.lst us)/\Paired (fun (a:Th) y=>TupAt H (tV a) y) as us/\as.length<=12/\(∀ a∈as,a.2.1<=97)/\∀ D ys H',H D=none->An H H'->H' D=some (.lst ys)->Paired (fun q y=>TupAt H' (qV q) y) (Ed (as.map tN)) ys->Q (.ref D) H'
theorem Vh:Av ["things","places","number","thing"] ["things"] (Ag dX):=Bl
include N T in
theorem Zu:Aq P w K mg base Be 1 aD.fPl aD.dPl ["things"] bf:=by
 refine N.FPl.1.ok Vh (fun vs H Q E h=>?_) (fun cdv A outer s H vs Q E hr h=>?_)
 ·obtain ⟨p,as,us,rfl,_⟩:=h
  rfl
 ·obtain ⟨p,as,us,rfl,hp,hb,hl,hz,q⟩:=h
  refine ⟨_,(Ae (Az (i:=1) Vh.nd rfl (Or.inl rfl) (Df Ac))
   (Ae (DN PassesOwn.never rfl (Ia rfl T.enumerate (Aa (pv 0) Ac)) (Fz rfl (Bf (Bd (i:=2) Vh.nd rfl (Or.inr rfl)) (Bf (Bd (i:=3) Vh.nd rfl (Or.inl rfl)) Ea))) (Ah (C_ (En PySem.F.plainAttrs_list PySem.F.slot_list_extend PySem.F.type_list_extend Qs (pv 1) (Aa (Bs rfl (Ba (osc:=Ag dX) (N:=["things","places","number","thing"]) rfl rfl (by decide +kernel)) (Cm rfl T.range (Aa (Am (Ak (K:=K) rfl) (pv 3) Ab (fun _ _=>rfl)) Ac)) (fun _ _ _ _=>CZ) (fun _ _ _ _=>(CQ (Aa (pv 3) (Aa (pv 0) Ac))))) Ac)))))
   (Ah (Aw (pv 1))))),?_⟩
  refine ⟨DY (by simp),fun D hD=>?_⟩
  have s0:=Ax (o:=HO.lst []) hD
  have hS:CP K H p us:=.inl (.inl hp)
  have hul:=hb.length
  refine ⟨_,rfl,p,rfl,⟨_,s0.seq hS⟩,IV (K:=K) (a:=p) (xs:=us) (fun i σ H4=>An H H4/\∃ ys,H4 D=some (.lst ys)/\Paired (fun q y=>TupAt H4 (qV q) y) (Ed ((as.map tN).take i)) ys/\∃ v2 v3,σ=[some (.ref p),some (.ref D),v2,v3])
   ⟨s0,[],Aj,.nil,_,_,rfl⟩ (fun i σ H4 _ h=>h.1.seq hS) ?_ ?_⟩
  ·rintro i x σ H4 T0 hx ⟨s4,ys,hd,hpr,v2,v3,rfl⟩ hT
   obtain ⟨b,hbi,hxb⟩:=Eo hb hx
   have hi:i<as.length:=(List.getElem?_eq_some_iff.mp hbi).1
   have hb97:=hz b (List.mem_of_getElem? hbi)
   have hbi':(as.map tN)[i]? = some (tN b):=by rw [List.getElem?_map,hbi]; rfl
   have s5:=Ax (o:=HO.tup [.int (i:Int),x]) hT
   refine ⟨T0,_,rfl,.inl (.inl Aj),rfl,_,_,rfl,_,_,rfl,rfl,?_⟩
   generalize upd H4 T0 (HO.tup [.int (i:Int),x])=H5 at s5 ⊢
   obtain ⟨r,rfl,hr0⟩:=hxb.mono (s4.trans s5)
   have p5:=Al s5 hpr
   have d5:=s5 _ _ hd
   refine ⟨_,rfl,.inl ⟨rfl,_,.inl (.inl d5)⟩,_,rfl,r,_,_,_,rfl,rfl,.inl (.inl hr0),Af (j:=1) rfl,_,rfl,by omega,by omega,?_⟩
   rw [Int.toNat_natCast]
   refine Ko (n:=b.2.1) (fun e=>qV (i,e)) (BJ (by omega)) (fun e he H6 s6 R k=>?_) (fun D6 H6 zs hD6 s6 hl6 hz6=>?_)
   ·refine ⟨_,rfl,_,rfl,by show 2<=sizeLine; decide,fun T6 hT6=>?_⟩
    exact k _ _ (Ax hT6) ⟨T6,rfl,Aj⟩
   ·have ly:=(Al s6 p5).length
    have lz:=hz6.length
    have lp:=K1 ((as.map tN).take i) 97 fun b hb=>by
     obtain ⟨a,ha,rfl⟩:=List.mem_map.mp (List.mem_of_mem_take hb)
     exact hz a ha
    rw [List.length_take,List.length_map] at lp
    rw [List.length_range] at lz
    have:min i as.length * 97<=12 * 97:=Nat.mul_le_mul_right _ (by omega)
    refine ⟨D,D6,ys,zs,rfl,rfl,s6 _ _ d5,hl6,Nat.le_of_lt (cD (by omega)),?_⟩
    refine ⟨fun b u e=>?_,ys++zs,Aj,?_,_,_,rfl⟩
    ·rw [BP (A_ e hD)]
     exact s6 _ _ (s5 _ _ (s4 _ _ e))
    ·rw [G4 hbi']
     exact FQ (By (Al s6 p5) (s6 _ _ d5)) (Bx (F:=fun q y=>TupAt _ (qV q) y) (fun e=>(i,e)) (By hz6 (s6 _ _ d5)))
  ·rintro σ H4 ⟨s4,ys,hd,hpr,v2,v3,rfl⟩
   rw [← hul,List.take_of_length_le (by rw [List.length_map]; exact Nat.le_refl _)] at hpr
   exact ⟨_,rfl,q D ys H4 hD s4 hd hpr⟩
theorem Vb {α:Type} (l:List α) (x:α):MJ (l++[x]) (-1)=some x:=by
 unfold MJ WR
 rw [if_neg (by decide),if_pos (by rw [List.length_append,List.length_singleton]; omega)]
 show (l++[x])[(-1+(((l++[x]).length:Nat):Int)).toNat]? = some x
 have e:(-1+(((l++[x]).length:Nat):Int)).toNat=l.length:=by
  rw [List.length_append,List.length_singleton]
  omega
 rw [e,List.getElem?_append_right (Nat.le_refl _),Nat.sub_self]
 rfl
theorem J4 {H:Hp} {l:List Ln} {v:V} {A:Addr} {xs ys:List V} (h:Hl H l v) (hA:H A=some (.lst xs)) (hv:v ≠ .ref A):Hl (upd H A (.lst ys)) l v:=by
 obtain ⟨B,ts,rfl,h1,h2⟩:=h
 have:B ≠ A:=fun z=>hv (by rw [z])
 exact ⟨B,ts,rfl,by rw [BP this]; exact h1,By h2 hA⟩
theorem Gv {α β:Type} {F G:α->β->Prop}:∀ {l:List α} {vs:List β},Paired F l vs->(∀ a b,b∈vs->F a b->G a b)->Paired G l vs
 | [],_,h,_=>by cases h; exact .nil
 | a::l,_,h,k=>by
  cases h with
  | cons x y=>exact .cons (k _ _ (List.mem_cons_self ..) x) (Gv y fun a b hb=>k a b (List.mem_cons_of_mem _ hb))
theorem Hr {α β:Type} {F:α->β->Prop}:∀ {l:List α} {z:α} {vs:List β},Paired F (l++[z]) vs->∃ us u,vs=us++[u]/\Paired F l us/\F z u
 | [],z,_,h=>by
  cases h with
  | cons x y=>cases y; exact ⟨[],_,rfl,.nil,x⟩
 | a::l,z,_,h=>by
  cases h with
  | cons x y =>
   obtain ⟨us,u,rfl,h1,h2⟩:=Hr y
   exact ⟨_::us,u,rfl,.cons x h1,h2⟩
theorem Ep {α:Type} {l:List α} (h:l ≠ []):∃ a z,l=a++[z]:=⟨l.dropLast,l.getLast h,(List.dropLast_concat_getLast h).symm⟩
theorem Mv {rk:List (Str × Nat × Int)}:∀ {rs:List R},(∃ r∈rs,Iw r.w=true)->linesOf rk rs ≠ []:=by
 have key:∀ (n:Nat) (rs:List R),rs.length=n->(∃ r∈rs,Iw r.w=true)->linesOf rk rs ≠ []:=by
  intro n
  induction n with
  | zero =>
   rintro rs hl ⟨r,hr,_⟩
   cases rs with
   | nil=>cases hr
   | cons a b=>cases hl
  | succ n ih =>
   rintro rs hl ⟨r,hr,hk⟩
   obtain ⟨a,z,rfl⟩:=Ep (l:=rs) (by intro e; rw [e] at hl; cases hl)
   rw [CW]
   rw [List.length_append,List.length_singleton] at hl
   unfold Fx
   by_cases hz:Iw z.w=true
   ·rw [if_pos hz]
    simp
   ·rw [if_neg hz]
    have hr':r∈a:=by
     rcases List.mem_append.mp hr with h | h
     ·exact h
     ·rw [List.mem_singleton.mp h] at hk
      exact absurd hk hz
    have ih':=ih a (by omega) ⟨r,hr',hk⟩
    split
    ·obtain ⟨b,y,e⟩:=Ep ih'
     rw [e,HB]
     simp
    ·exact ih'
 exact fun {rs} h=>key rs.length rs rfl h
noncomputable def Zf:Sp:=fun vs H Q _=>∃ (p d:Addr) (us:List V) (ρ:V->R) (rk:List (Str × Nat × Int)) (kvs:List (Key × V)),vs=[.ref p,.ref d]/\H p=some (.lst us)/\Rows H ρ us/\us.length<=500/\H d=some (.dK kvs)/\(∀ (i:Nat) r,rk[i]? = some r->Dt kvs (Sum.inr r.1)=some (.int (i:Nat)))/\(rk.map (·.1)).Nodup /\
 (∀ (i:Nat) v,us[i]? = some v->(ρ v).w = "line"->(∃ (j:Nat) (r:Str × Nat × Int) (sh lo hi:Int),rk[j]? = some r/\r.1=(ρ v).nm/\(ρ v).rest=[.int sh,.int lo,.int hi])/\∃ u∈us.take i,Iw (ρ u).w=true)/\∀ D H',H D=none->An H H'->Gh H' D (linesOf rk (us.map ρ))->Q (.ref D) H'
theorem Wy {rk:List (Str × Nat × Int)} {j:Nat} {r:Str × Nat × Int} (nd:(rk.map (·.1)).Nodup) (h:rk[j]? = some r):(rk.map (·.1)).idxOf r.1=j:=by
 have hj:j<(rk.map (·.1)).length:=by rw [List.length_map]; exact (List.getElem?_eq_some_iff.mp h).1
 have e:(rk.map (·.1))[j]=r.1:=by
  rw [List.getElem_map]
  exact congrArg (·.1) (List.getElem?_eq_some_iff.mp h).2
 rw [← e]
 exact List.Nodup.idxOf_getElem nd j hj
theorem Xb:Av ["rows","rank_numbers","lines","row"] ["rows","rank_numbers"] (Ag iJ):=Bl
include N T in
theorem Yp:Aq P w K mg base Be 1 aD.fLi aD.dLi ["rows","rank_numbers"] Zf:=by
 refine N.FLi.1.ok Xb (fun vs H Q E h=>?_) (fun cdv A outer s H vs Q E hr h=>?_)
 ·obtain ⟨p,d,us,ρ,rk,kvs,rfl,_⟩:=h
  rfl
 ·obtain ⟨p,d,us,ρ,rk,kvs,rfl,hp,hR,hl,hdk,hval,hnd,hln,q⟩:=h
  have hu:=Fl hr
  refine ⟨_,(Ae (Az (i:=2) Xb.nd rfl (Or.inl rfl) (Df Ac))
   (Ae (DN PassesOwn.never rfl (Bh (pv 0)) (Bd (i:=3) Xb.nd rfl (Or.inl rfl)) (Ae (Br (BW (Jw (K:=K) rfl) (Am (Ak (K:=K) rfl) (pv 3) Ab (fun _ _=>rfl)) (Dh (v:=.ref aK) rfl T.mK rfl) rfl) (Ah (C_ (En PySem.F.plainAttrs_list PySem.F.slot_list_append PySem.F.type_list_append CG (pv 2) (Aa (Df Ac) Ac)))) Bb)
   (Ah (Br (BW Du (Am (Ak (K:=K) rfl) (pv 3) Ab (fun _ _=>rfl)) Bt (Bc _)) (Ah (C_ (En PySem.F.plainAttrs_list PySem.F.slot_list_append PySem.F.type_list_append CG (Am (BV (K:=K) rfl) (pv 2) (G5 FP Ab) (fun _ _=>rfl)) (Aa (CQ (Aa (Ej hu (pv 1) (Am (Ak (K:=K) rfl) (pv 3) Ab (fun _ _=>rfl)) (fun _ _=>rfl)) (Aa (Am (Ak (K:=K) rfl) (pv 3) Ab (fun _ _=>rfl)) (Aa (Am (Ak (K:=K) rfl) (pv 3) Ab (fun _ _=>rfl)) (Aa (Am (Ak (K:=K) rfl) (pv 3) Ab (fun _ _=>rfl)) Ac))))) Ac)))) Bb))))
   (Ah (Aw (pv 2))))),?_⟩
  refine ⟨DY (by simp),fun D hD=>?_⟩
  have s0:=Ax (o:=HO.lst []) hD
  have hS:CP K H p us:=.inl (.inl hp)
  refine ⟨_,rfl,p,rfl,⟨_,s0.seq hS⟩,Dl (K:=K) (a:=p) (xs:=us) (fun i σ H4=>An H H4/\∃ lv,H4 D=some (.lst lv)/\Paired (fun l v=>Hl H4 l v) (linesOf rk ((us.take i).map ρ)) lv/\lv.Nodup/\(∀ v∈lv,v ≠ .ref D)/\(∀ v∈lv,∃ A,v=.ref A/\H A=none)/\lv.length<=i/\(∀ l∈linesOf rk ((us.take i).map ρ),l.length<=i)/\∃ v3,σ=[some (.ref p),some (.ref d),some (.ref D),v3])
   ⟨s0,[],Aj,.nil,List.nodup_nil,(fun v hv=>nomatch hv),(fun v hv=>nomatch hv),Nat.le_refl _,(fun l hl=>nomatch hl),_,rfl⟩ (fun i σ H4 _ h=>h.1.seq hS) ?_ ?_⟩
  ·rintro i x σ H4 hx ⟨s4,lv,hd,hpr,nd,hne,hA0,hlv,hll,v3,rfl⟩
   have hm:=List.mem_of_getElem? hx
   have hi:i<us.length:=(List.getElem?_eq_some_iff.mp hx).1
   obtain ⟨r,rfl,hr0⟩:=(hR.mono s4) x hm
   have etake:(us.take (i+1)).map ρ=(us.take i).map ρ++[ρ (.ref r)]:=by
    rw [List.take_add_one,hx,List.map_append]
    rfl
   have est:linesOf rk ((us.take (i+1)).map ρ)=Fx rk (linesOf rk ((us.take i).map ρ)) (ρ (.ref r)):=by rw [etake,CW]
   have lvl:(linesOf rk ((us.take i).map ρ)).length=lv.length:=hpr.length
   by_cases hk:Iw (ρ (.ref r)).w=true
   ·have hnl:¬ (ρ (.ref r)).w = "line":=fun z=>by rw [z] at hk; exact absurd hk (by decide +kernel)
    have est2:linesOf rk ((us.take (i+1)).map ρ)=linesOf rk ((us.take i).map ρ)++[[]]:=by rw [est]; unfold Fx; rw [if_pos hk]
    refine ⟨_,rfl,r,_,_,_,rfl,rfl,.inl (.inl hr0),Af (j:=0) rfl,aK,_,rfl,.inr (T.tK.sq _),rfl,rfl,_,rfl,?_⟩
    refine Dr (fun _=>?_) (fun z=>absurd hk z)
    refine ⟨_,rfl,.inl ⟨rfl,_,.inl (.inl hd)⟩,DY (by simp),fun p5 hp5=>?_⟩
    obtain ⟨H5,eqH,s5,u5⟩:=JC (o:=HO.lst []) hp5
    rw [eqH]
    have hd5:=s5 _ _ hd
    refine ⟨D,lv,_,rfl,rfl,hd5,BJ (by omega),?_⟩
    have hrD:r ≠ D:=V8 (s5 _ _ hr0) hd5 (by intro z; cases z)
    have hpD:p5 ≠ D:=fun z=>by rw [z,hd] at hp5; cases hp5
    refine ⟨_,rfl,r,_,_,_,rfl,rfl,.inl (.inl (by rw [BP hrD]; exact s5 _ _ hr0)),Af (j:=0) rfl,rfl,_,rfl,?_⟩
    refine Dr (fun z=>absurd (V.str.inj (of_decide_eq_true z)) hnl) (fun _=>?_)
    refine ⟨fun b u e=>?_,lv++[.ref p5],Aj,?_,?_,?_,?_,by simp; omega,?_,_,rfl⟩
    ·rw [BP (A_ e hD)]
     exact s5 _ _ (s4 _ _ e)
    ·rw [est2]
     refine FQ (Gv hpr fun l v hv h=>J4 (h.mono s5) hd5 (hne v hv)) (.cons ⟨p5,[],rfl,by rw [BP hpD]; exact u5,.nil⟩ .nil)
    ·refine Pz nd fun hm=>?_
     obtain ⟨l,_,hA⟩:=DX hpr hm
     obtain ⟨A,ts,e,h1,_⟩:=hA
     cases e
     rw [h1] at hp5
     cases hp5
    ·intro v hv
     rcases List.mem_append.mp hv with h | h
     ·exact hne v h
     ·rw [List.mem_singleton.mp h]
      intro z
      exact hpD (V.ref.inj z)
    ·intro v hv
     rcases List.mem_append.mp hv with h | h
     ·exact hA0 v h
     ·exact ⟨p5,List.mem_singleton.mp h,s4.free hp5⟩
    ·intro l hl'
     rw [est2] at hl'
     rcases List.mem_append.mp hl' with h | h
     ·exact Nat.le_succ_of_le (hll l h)
     ·rw [List.mem_singleton.mp h]
      exact Nat.zero_le _
   ·refine ⟨_,rfl,r,_,_,_,rfl,rfl,.inl (.inl hr0),Af (j:=0) rfl,aK,_,rfl,.inr (T.tK.sq _),rfl,rfl,_,rfl,?_⟩
    refine Dr (fun z=>absurd z hk) (fun _=>?_)
    refine ⟨_,rfl,r,_,_,_,rfl,rfl,.inl (.inl hr0),Af (j:=0) rfl,rfl,_,rfl,?_⟩
    by_cases hwl:(ρ (.ref r)).w = "line"
    ·refine Dr (fun _=>?_) (fun z=>absurd (decide_eq_true (congrArg V.str hwl)) z)
     obtain ⟨⟨j,rr,sh,lo,hi',hj,hnm,hrest⟩,u,hu,hku⟩:=hln i _ hx hwl
     have hne0:linesOf rk ((us.take i).map ρ) ≠ []:=Mv ⟨ρ u,List.mem_map_of_mem hu,hku⟩
     obtain ⟨ac,z,eac⟩:=Ep hne0
     rw [eac] at hpr
     obtain ⟨lv',v,rfl,hpr',hz⟩:=Hr hpr
     obtain ⟨A,ts,rfl,hA,htp⟩:=hz
     have est2:linesOf rk ((us.take (i+1)).map ρ)=ac++[z++[⟨j,sh,lo,hi'⟩]]:=by
      rw [est]
      unfold Fx
      rw [if_neg hk,if_pos hwl,eac,HB]
      unfold lnOf
      rw [hrest,← hnm,Wy hnd hj]
     have hr1:H4 r=some (.tup [.str (ρ (.ref r)).w,.str (ρ (.ref r)).nm,.int sh,.int lo,.int hi']):=by rw [hr0,← hrest]
     have g:=Fv.k (k:=Sum.inr rr.1) (s4 _ _ hdk)
     rw [hval j rr hj,hnm] at g
     have hAD:A ≠ D:=fun e=>hne (.ref A) (by simp) (by rw [e])
     have hzl:z.length<=i:=hll z (by rw [eac]; simp)
     have htl:=htp.length
     refine ⟨_,rfl,_,rfl,D,_,_,_,rfl,rfl,.inl (.inl hd),Vb lv' (V.ref A),.inl ⟨rfl,_,.inl (.inl hA)⟩,_,rfl,_,rfl,r,_,_,_,rfl,rfl,.inl (.inl hr1),Af (j:=1) rfl,d,_,rfl,g,_,rfl,r,_,_,_,rfl,rfl,.inl (.inl hr1),Af (j:=2) rfl,_,rfl,r,_,_,_,rfl,rfl,.inl (.inl hr1),Af (j:=3) rfl,_,rfl,r,_,_,_,rfl,rfl,.inl (.inl hr1),Af (j:=4) rfl,by show 4<=sizeLine; decide,fun T5 hT5=>?_⟩
     obtain ⟨H5,eqH,s5,u5⟩:=JC (o:=HO.tup [.int (j:Nat),.int sh,.int lo,.int hi']) hT5
     rw [eqH]
     have hA5:=s5 _ _ hA
     have hTA:T5 ≠ A:=fun e=>by rw [e,hA] at hT5; cases hT5
     have hdj:D ≠ A:=fun e=>hAD e.symm
     obtain ⟨nd1,_,hdisj⟩:=List.nodup_append.mp nd
     refine ⟨A,ts,_,rfl,rfl,hA5,BJ (by omega),?_⟩
     refine ⟨fun b u e=>?_,lv'++[.ref A],by rw [BP hdj]; exact s5 _ _ hd,?_,nd,hne,hA0,by omega,?_,_,rfl⟩
     ·obtain ⟨A',eA,hA'⟩:=hA0 (.ref A) (by simp)
      cases eA
      rw [BP (A_ e hA')]
      exact s5 _ _ (s4 _ _ e)
     ·rw [est2]
      refine FQ (Gv hpr' fun l v hv h=>J4 (h.mono s5) hA5 (fun e=>hdisj v hv _ (List.mem_singleton.mpr rfl) e)) (.cons ⟨A,ts++[.ref T5],rfl,Aj,FQ (By (Al s5 htp) hA5) (.cons ⟨T5,rfl,by rw [BP hTA]; exact u5⟩ .nil)⟩ .nil)
     ·intro l hl'
      rw [est2] at hl'
      rcases List.mem_append.mp hl' with h | h
      ·exact Nat.le_succ_of_le (hll l (by rw [eac]; exact List.mem_append_left _ h))
      ·rw [List.mem_singleton.mp h,List.length_append,List.length_singleton]
       omega
    ·refine Dr (fun z=>absurd (V.str.inj (of_decide_eq_true z)) hwl) (fun _=>?_)
     have est2:linesOf rk ((us.take (i+1)).map ρ)=linesOf rk ((us.take i).map ρ):=by rw [est]; unfold Fx; rw [if_neg hk,if_neg hwl]
     rw [← est2] at hpr hll
     exact ⟨s4,lv,hd,hpr,nd,hne,hA0,by omega,fun l hl'=>Nat.le_succ_of_le (hll l hl'),_,rfl⟩
  ·rintro σ H4 ⟨s4,lv,hd,hpr,nd,hne,hA0,hlv,hll,v3,rfl⟩
   rw [List.take_length] at hpr
   exact ⟨_,rfl,q D H4 hD s4 ⟨lv,hd,hpr⟩⟩
noncomputable abbrev VH:List Str:=["row_list","board_list","rank_list","knob_rows","board_numbers","rank_numbers","knob_numbers","key_places","pipe_places","knob_lines","step_sets"]
theorem EY:∀ m∈meths,∀ f∈VH,¬ m=f:=by decide +kernel
theorem M3 {H H':Hp} {D x C dx:Addr} {fs:List (Str × V)} {ls:List (List Ln)} (h:Gh H D ls) (s:SX x H H') (hx:H x=some (.ins C dx fs)):Gh H' D ls:=by
 obtain ⟨lv,h1,h2⟩:=h
 refine ⟨lv,s.lst hx h1,Paired.Fb h2 fun _ _ q=>?_⟩
 obtain ⟨A,ts,e,h3,h4⟩:=q
 exact ⟨A,ts,e,s.lst hx h3,s.pair hx h4⟩
theorem QX {rk:List (Str × Nat × Int)} {ρ:V->R} {us:List V} {P1:Nat->V->Prop} (h:∀ (i:Nat) v,us[i]? = some v->(ρ v).w = "line"->P1 i v/\∃ u∈us.take i,Iw (ρ u).w=true):(linesOf rk (us.map ρ)).length=(us.filter (fun v=>Iw (ρ v).w)).length:=by
 have key:∀ n,n<=us.length->(linesOf rk ((us.take n).map ρ)).length=((us.take n).filter (fun v=>Iw (ρ v).w)).length:=by
  intro n
  induction n with
  | zero=>intro _; rfl
  | succ n ih =>
   intro hn
   have hx:=List.getElem?_eq_getElem (l:=us) (i:=n) (by omega)
   rw [List.take_add_one,hx,List.map_append]
   show (linesOf rk ((us.take n).map ρ++[ρ us[n]])).length=((us.take n++[us[n]]).filter _).length
   rw [CW,List.filter_append,List.length_append,← ih (by omega)]
   unfold Fx
   by_cases hk:Iw (ρ us[n]).w=true
   ·rw [if_pos hk,List.filter_cons,if_pos hk]
    simp
   ·rw [if_neg hk,List.filter_cons,if_neg hk]
    by_cases hl:(ρ us[n]).w = "line"
    ·rw [if_pos hl]
     obtain ⟨_,u,hu,hku⟩:=h n _ hx hl
     obtain ⟨a,z,e⟩:=Ep (Mv (rk:=rk) ⟨ρ u,List.mem_map_of_mem hu,hku⟩)
     rw [e,HB]
     simp
    ·rw [if_neg hl]
     simp
 have:=key us.length (Nat.le_refl _)
 rw [List.take_length] at this
 exact this
noncomputable def Yq (K:PySem.W.Frag) (aB aP aM C:Addr):Sp:=fun vs H Q _=>∃ (x dx p:Addr) (us:List V) (ρ:V->R) (bs:List (Str × Nat)) (rk:List (Str × Nat × Int)) (ks:List R),vs=[.ref x,.ref p]/\H x=some (.ins C dx [])/\H p=some (.lst us)/\Rows H ρ us/\c7 K aB aP aM ρ us bs rk ks/\∀ H',Cw C H' x bs rk ks (linesOf rk (us.map ρ))->SX x H H'->Q .non H'
theorem j4:Av ["self","rows"] ["self","rows"] (Ag UL):=Bl
include N T in
theorem aH:Aq P w K mg base Be 9 aD.fOi aD.dOi ["self","rows"] (Yq K aB aP aM C):=by
 have GCk:Aq P w K mg base Be 8 aD.fCk aD.dCk ["rows"] (cg K aB aP aM):=Yz N T
 have GRo:Aq P w K mg base Be 1 aD.fRo aD.dRo ["rows","word"] Qd:=Ml N T
 have GNu:Aq P w K mg base Be 1 aD.fNu aD.dNu ["names"] Zj:=ZJ N T
 have GPl:Aq P w K mg base Be 1 aD.fPl aD.dPl ["things"] bf:=Zu N T
 have GLi:Aq P w K mg base Be 1 aD.fLi aD.dLi ["rows","rank_numbers"] Zf:=Yp N T
 refine N.FOi.1.ok j4 (fun vs H Q E h=>?_) (fun cdv A outer s H vs Q E hr h=>?_)
 ·obtain ⟨x,dx,p,us,ρ,bs,rk,ks,rfl,_⟩:=h
  rfl
 ·obtain ⟨x,dx,p,us,ρ,bs,rk,ks,rfl,hx,hp,hR,O,q⟩:=h
  have hrCk:BR 8 _:=hr.mono (by decide)
  have hrRo:BR 1 _:=hr.mono (by decide)
  have hrNu:BR 1 _:=hr.mono (by decide)
  have hrPl:BR 1 _:=hr.mono (by decide)
  have hrLi:BR 1 _:=hr.mono (by decide)
  refine ⟨_,(Ae (C_ (Ai GCk hrCk rfl N.FCk.2.2 N.FCk.1.kp N.FCk.2.1 .nil Ao (Aa (pv 1) Ac)))
   (Ae (Fe (pv 0) (Dz Ew rfl T.list PyProof.Rows.boot_list (Aa (pv 1) Ac)) rfl)
   (Ae (Fe (pv 0) (Bs rfl (Ba (osc:=Ag UL) (N:=["self","rows"]) rfl rfl (by decide +kernel)) (Bh (Ai GRo hrRo rfl N.FRo.2.2 N.FRo.1.kp N.FRo.2.1 .nil Ao (Aa (pv 1) (Aa Bt Ac)))) (fun _ _ _ _=>CZ) (fun _ _ _ _=>(CQ (Aa (Am (Ak (K:=K) rfl) (pv 0) Ab (fun _ _=>rfl)) (Aa (Am (Ak (K:=K) rfl) (pv 0) Ab (fun _ _=>rfl)) Ac))))) rfl)
   (Ae (Fe (pv 0) (Bs rfl (Ba (osc:=Ag UL) (N:=["self","rows"]) rfl rfl (by decide +kernel)) (Bh (Ai GRo hrRo rfl N.FRo.2.2 N.FRo.1.kp N.FRo.2.1 .nil Ao (Aa (pv 1) (Aa Bt Ac)))) (fun _ _ _ _=>CZ) (fun _ _ _ _=>(CQ (Aa (Am (Ak (K:=K) rfl) (pv 0) Ab (fun _ _=>rfl)) (Aa (Am (Ak (K:=K) rfl) (pv 0) Ab (fun _ _=>rfl)) (Aa (Am (Ak (K:=K) rfl) (pv 0) Ab (fun _ _=>rfl)) Ac)))))) rfl)
   (Ae (Fe (pv 0) (Bs rfl (Ba (osc:=Ag UL) (N:=["self","rows"]) rfl rfl (by decide +kernel)) (Bh (pv 1)) (fun _ _ _ _=>(Gk (BW (Jw (K:=K) rfl) (Am (Ak (K:=K) rfl) (pv 0) Ab (fun _ _=>rfl)) (Dh (v:=.ref aK) rfl T.mK rfl) rfl))) (fun _ _ _ _=>(pv 0))) rfl)
   (Ae (Fe (pv 0) (Ai GNu hrNu rfl N.FNu.2.2 N.FNu.1.kp N.FNu.2.1 .nil Ao (Aa (Bs rfl (Ba (osc:=Ag UL) (N:=["self","rows"]) rfl rfl (by decide +kernel)) (Bh (Ck (pv 0) rfl)) (fun _ _ _ _=>CZ) (fun _ _ _ _=>(Am (Ak (K:=K) rfl) (pv 0) Ab (fun _ _=>rfl)))) Ac)) rfl)
   (Ae (Fe (pv 0) (Ai GNu hrNu rfl N.FNu.2.2 N.FNu.1.kp N.FNu.2.1 .nil Ao (Aa (Bs rfl (Ba (osc:=Ag UL) (N:=["self","rows"]) rfl rfl (by decide +kernel)) (Bh (Ck (pv 0) rfl)) (fun _ _ _ _=>CZ) (fun _ _ _ _=>(Am (Ak (K:=K) rfl) (pv 0) Ab (fun _ _=>rfl)))) Ac)) rfl)
   (Ae (Fe (pv 0) (Ai GNu hrNu rfl N.FNu.2.2 N.FNu.1.kp N.FNu.2.1 .nil Ao (Aa (Bs rfl (Ba (osc:=Ag UL) (N:=["self","rows"]) rfl rfl (by decide +kernel)) (Bh (Ck (pv 0) rfl)) (fun _ _ _ _=>CZ) (fun _ _ _ _=>(Am (Ak (K:=K) rfl) (pv 0) Ab (fun _ _=>rfl)))) Ac)) rfl)
   (Ae (Fe (pv 0) (Ai GPl hrPl rfl N.FPl.2.2 N.FPl.1.kp N.FPl.2.1 .nil Ao (Aa (Ck (pv 0) rfl) Ac)) rfl)
   (Ae (Fe (pv 0) (Ai GPl hrPl rfl N.FPl.2.2 N.FPl.1.kp N.FPl.2.1 .nil Ao (Aa (Ck (pv 0) rfl) Ac)) rfl)
   (Ae (Fe (pv 0) (Ai GLi hrLi rfl N.FLi.2.2 N.FLi.1.kp N.FLi.2.1 .nil Ao (Aa (pv 1) (Aa (Ck (pv 0) rfl) Ac))) rfl)
   (Ah (Fe (pv 0) (Bs rfl (Ba (osc:=Ag UL) (N:=["self","rows"]) rfl rfl (by decide +kernel)) (Bh (Ai GRo hrRo rfl N.FRo.2.2 N.FRo.1.kp N.FRo.2.1 .nil Ao (Aa (pv 1) (Aa Bt Ac)))) (fun _ _ _ _=>CZ) (fun _ _ _ _=>Td)) rfl))))))))))))),?_⟩
  have hlen:=O.len
  obtain ⟨ur,hur⟩:∃ ur,us.filter (pw ρ "rank")=ur:=⟨_,rfl⟩
  have er:ur.map ρ=rk.map Hv:=by rw [← hur]; exact O.er
  have lr:ur.length=rk.length:=by have:=congrArg List.length er; simpa using this
  have inR:∀ {v},v∈ur->v∈us:=fun {v} hv=>by rw [← hur] at hv; exact (List.mem_filter.mp hv).1
  have ofR:∀ {v},v∈ur->∃ b∈rk,ρ v=Hv b:=fun {v} hv=>by
   have:ρ v∈rk.map Hv:=by rw [← er]; exact List.mem_map_of_mem hv
   obtain ⟨b,hb,e⟩:=List.mem_map.mp this
   exact ⟨b,hb,e.symm⟩
  obtain ⟨ub,hub⟩:∃ ub,us.filter (pw ρ "board")=ub:=⟨_,rfl⟩
  obtain ⟨uk,huk⟩:∃ uk,us.filter (fun v=>Iw (ρ v).w)=uk:=⟨_,rfl⟩
  have eb:ub.map ρ=bs.map Fw:=by rw [← hub]; exact O.eb
  have ek:uk.map ρ=ks:=by rw [← huk]; exact O.ek
  have lb:ub.length=bs.length:=by have:=congrArg List.length eb; simpa using this
  have lku:uk.length=ks.length:=by have:=congrArg List.length ek; simpa using this
  have inB:∀ {v},v∈ub->v∈us:=fun {v} hv=>by rw [← hub] at hv; exact (List.mem_filter.mp hv).1
  have inKn:∀ {v},v∈uk->v∈us:=fun {v} hv=>by rw [← huk] at hv; exact (List.mem_filter.mp hv).1
  have ofB:∀ {v},v∈ub->∃ b∈bs,ρ v=Fw b:=fun {v} hv=>by
   have:ρ v∈bs.map Fw:=by rw [← eb]; exact List.mem_map_of_mem hv
   obtain ⟨b,hb,e⟩:=List.mem_map.mp this
   exact ⟨b,hb,e.symm⟩
  have l1us:1<=us.length:=by
   have h1:=O.b0
   have h2:ub.length<=us.length:=by rw [← hub]; exact List.length_filter_le _ _
   omega
  refine ⟨_,rfl,p,us,ρ,rfl,hp,hR,l1us,by omega,O.ok,?_,fun H1 s1=>?_⟩
  ·rw [hub]
   cases ub with
   | nil =>
    have:=O.b0
    simp at lb
    omega
   | cons a b=>rfl
  have c1:SX x H H1:=SX.of s1
  have x1:=s1 _ _ hx
  refine ⟨_,rfl,p,_,rfl,.inl (.inl (.inl (s1 _ _ hp))),fun l1 hl1=>?_⟩
  have s2:=Ax (o:=HO.lst us) hl1
  generalize upd H1 l1 (HO.lst us)=H2 at s2 ⊢
  refine ⟨_,rfl,x,C,dx,_,rfl,s2 _ _ x1,T.cl,T.n_row_list,(by show 0<1000; decide),?_⟩
  have c2:SX x H _:=(c1.trans (SX.of s2)).trans (SX.up (o:=HO.ins C dx (Bj "row_list" (.ref l1) [])))
  have x2:upd H2 x (HO.ins C dx (Bj "row_list" (.ref l1) [])) x=_:=Aj
  generalize upd H2 x (HO.ins C dx (Bj "row_list" (.ref l1) []))=H3 at c2 x2 ⊢
  have R3:Rows H3 ρ us:=fun v hv=>c2.tup hx (hR v hv)
  refine ⟨_,rfl,p,_,"board",ρ,rfl,c2.lst hx hp,R3,by omega,fun D4 H4 hD4 s4 hl4=>?_⟩
  rw [hub] at hl4
  have hS4:CP K H4 D4 ub:=.inl (.inl hl4)
  refine ⟨D4,rfl,⟨_,hS4⟩,Jk (K:=K) (xs:=ub) (fun _=>true) (fun v=>[.str (ρ v).nm,(ρ v).rest.getD 0 .non]) hS4 (BJ (by have:=O.b5; omega)) (fun y hy H' hs R k=>k H' (An.refl H')) (fun y hy _ H' hs R k=>?_) (fun D5 H5 bvs hD5 s5 hl5 hb5=>?_)⟩
  ·obtain ⟨b,_,e⟩:=ofB hy
   have hT:=(R3 y (inB hy)).mono (s4.trans hs)
   rw [e] at hT k
   obtain ⟨T0,rfl,hT⟩:=hT
   exact ⟨_,rfl,T0,_,_,_,rfl,rfl,.inl (.inl hT),Af (j:=1) rfl,_,rfl,T0,_,_,_,rfl,rfl,.inl (.inl hT),Af (j:=2) rfl,by show 2<=sizeLine; decide,fun T6 hT6=>k _ _ (Ax hT6) ⟨T6,rfl,Aj⟩⟩
  rw [List.filter_eq_self.mpr (fun _ _=>rfl)] at hb5
  have hb5':Paired (fun b y=>TupAt H5 (bV b) y) bs bvs:=by
   have h1:=Bx (F:=fun (r:R) y=>TupAt H5 [.str r.nm,r.rest.getD 0 .non] y) ρ hb5
   rw [eb] at h1
   exact Fy Fw h1
  clear hb5
  refine ⟨_,rfl,x,C,dx,_,rfl,s5 _ _ (s4 _ _ x2),T.cl,T.n_board_list,Nat.lt_of_le_of_lt (Bv _ _ _) (by show 1<1000; decide),?_⟩
  have u6:SX x H5 _:=SX.up (o:=HO.ins C dx (Bj "board_list" (.ref D5) (Bj "row_list" (.ref l1) [])))
  have x5:=s5 _ _ (s4 _ _ x2)
  have c6:SX x H _:=(c2.trans (SX.of (s4.trans s5))).trans u6
  have x6:upd H5 x (HO.ins C dx (Bj "board_list" (.ref D5) (Bj "row_list" (.ref l1) []))) x=_:=Aj
  have hl6:=u6.lst x5 hl5
  have hb6:=u6.pair x5 hb5'
  generalize upd H5 x (HO.ins C dx (Bj "board_list" (.ref D5) (Bj "row_list" (.ref l1) [])))=H6 at c6 x6 hl6 hb6 ⊢
  clear u6
  have R6:Rows H6 ρ us:=fun v hv=>c6.tup hx (hR v hv)
  refine ⟨_,rfl,p,_,"rank",ρ,rfl,c6.lst hx hp,R6,by omega,fun D7 H7 hD7 s7 hl7=>?_⟩
  rw [hur] at hl7
  have hS7:CP K H7 D7 ur:=.inl (.inl hl7)
  refine ⟨D7,rfl,⟨_,hS7⟩,Jk (K:=K) (xs:=ur) (fun _=>true) (fun v=>[.str (ρ v).nm,(ρ v).rest.getD 0 .non,(ρ v).rest.getD 1 .non]) hS7 (BJ (by have:=O.nr; omega)) (fun y hy H' hs R k=>k H' (An.refl H')) (fun y hy _ H' hs R k=>?_) (fun D8 H8 rvs hD8 s8 hl8 hr8=>?_)⟩
  ·obtain ⟨b,_,e⟩:=ofR hy
   have hT:=(R6 y (inR hy)).mono (s7.trans hs)
   rw [e] at hT k
   obtain ⟨T0,rfl,hT⟩:=hT
   exact ⟨_,rfl,T0,_,_,_,rfl,rfl,.inl (.inl hT),Af (j:=1) rfl,_,rfl,T0,_,_,_,rfl,rfl,.inl (.inl hT),Af (j:=2) rfl,_,rfl,T0,_,_,_,rfl,rfl,.inl (.inl hT),Af (j:=3) rfl,by show 3<=sizeLine; decide,fun T6 hT6=>k _ _ (Ax hT6) ⟨T6,rfl,Aj⟩⟩
  rw [List.filter_eq_self.mpr (fun _ _=>rfl)] at hr8
  have hr8':Paired (fun (a:Th) y=>TupAt H8 (tV a) y) (rk.map Rg) rvs:=by
   have h1:=Bx (F:=fun (r:R) y=>TupAt H8 [.str r.nm,r.rest.getD 0 .non,r.rest.getD 1 .non] y) ρ hr8
   rw [er] at h1
   exact Bx (F:=fun (a:Th) y=>TupAt H8 (tV a) y) Rg (Fy Hv h1)
  clear hr8
  refine ⟨_,rfl,x,C,dx,_,rfl,s8 _ _ (s7 _ _ x6),T.cl,T.n_rank_list,Nat.lt_of_le_of_lt (Nat.le_trans (Bv _ _ _) (Nat.succ_le_succ (Bv _ _ _))) (by show 2<1000; decide),?_⟩
  have s68:=s7.trans s8
  have x8:=s68 _ _ x6
  have c8:SX x H H8:=c6.trans (SX.of s68)
  have hl8b:=s68 _ _ hl6
  have hb8:=Al s68 hb6
  have u9:SX x H8 _:=SX.up (o:=HO.ins C dx (Bj "rank_list" (.ref D8) (Bj "board_list" (.ref D5) (Bj "row_list" (.ref l1) []))))
  have x9:upd H8 x (HO.ins C dx (Bj "rank_list" (.ref D8) (Bj "board_list" (.ref D5) (Bj "row_list" (.ref l1) [])))) x=_:=Aj
  have c9:=c8.trans u9
  have bl9:=u9.lst x8 hl8b
  have bp9:=u9.pair x8 hb8
  have rl9:=u9.lst x8 hl8
  have rp9:=u9.pair x8 hr8'
  generalize hf9:Bj "rank_list" (.ref D8) (Bj "board_list" (.ref D5) (Bj "row_list" (.ref l1) []))=f9 at x9 c9 bl9 bp9 rl9 rp9 u9 ⊢
  generalize upd H8 x (HO.ins C dx f9)=H9 at x9 c9 bl9 bp9 rl9 rp9 ⊢
  have n9:f9.length<=3:=by rw [← hf9]; exact Nat.le_trans (Bv _ _ _) (Nat.succ_le_succ (Nat.le_trans (Bv _ _ _) (Nat.succ_le_succ (Bv _ _ _))))
  have lb9:f9.lookup ("board_list" : Str)=some (.ref D5):=by rw [← hf9,Ay,if_neg (by decide +kernel),Ay,if_pos rfl]
  have lr9:f9.lookup ("rank_list" : Str)=some (.ref D8):=by rw [← hf9,Ay,if_pos rfl]
  have no9:∀ m∈meths,f9.lookup m=none:=fun m hm=>by
   rw [← hf9,Ay,if_neg (EY m hm _ (by decide +kernel)),Ay,if_neg (EY m hm _ (by decide +kernel)),Ay,if_neg (EY m hm _ (by decide +kernel))]
   rfl
  clear u9 hf9
  have R9:Rows H9 ρ us:=fun v hv=>c9.tup hx (hR v hv)
  have hS9:CP K H9 p us:=.inl (.inl (c9.lst hx hp))
  refine ⟨_,rfl,p,rfl,⟨_,hS9⟩,Cp (K:=K) (xs:=us) (fun v=>Iw (ρ v).w) id hS9 (BJ (by omega)) (fun y hy H' hs R k=>?_) (fun y hy _ H' hs R k=>⟨_,rfl,k H' (An.refl H')⟩) (fun D10 H10 hD10 s10 hl10=>?_)⟩
  ·obtain ⟨T0,rfl,hT⟩:=(R9.mono hs) y hy
   exact ⟨_,rfl,T0,_,_,_,rfl,rfl,.inl (.inl hT),Af (j:=0) rfl,aK,_,rfl,.inr (T.tK.sq _),rfl,rfl,_,rfl,k H' (An.refl H')⟩
  rw [List.map_id,huk] at hl10
  refine ⟨_,rfl,x,C,dx,_,rfl,s10 _ _ x9,T.cl,T.n_knob_rows,by omega,?_⟩
  have x10:=s10 _ _ x9
  have u11:SX x H10 _:=SX.up (o:=HO.ins C dx (Bj "knob_rows" (.ref D10) f9))
  have x11:upd H10 x (HO.ins C dx (Bj "knob_rows" (.ref D10) f9)) x=_:=Aj
  have c11:=(c9.trans (SX.of s10)).trans u11
  have bl11:=u11.lst x10 (s10 _ _ bl9)
  have bp11:=u11.pair x10 (Al s10 bp9)
  have rl11:=u11.lst x10 (s10 _ _ rl9)
  have rp11:=u11.pair x10 (Al s10 rp9)
  have kr11:=u11.lst x10 hl10
  generalize upd H10 x (HO.ins C dx (Bj "knob_rows" (.ref D10) f9))=H11 at x11 c11 bl11 bp11 rl11 rp11 kr11 ⊢
  clear u11
  have hul:=bp11.length
  have hS11:CP K H11 D5 bvs:=.inl (.inl bl11)
  refine ⟨_,rfl,x,C,dx,_,_,rfl,x11,T.cl,T.n_board_list,(by rw [Ay,if_neg (by decide +kernel)]; exact lb9),D5,rfl,⟨_,hS11⟩,Cp (K:=K) (xs:=bvs) (fun _=>true) (Jd H11 0) hS11 (BJ (by have:=O.b5; omega)) (fun y hy H' hs R k=>k H' (An.refl H')) (fun y hy _ H' hs R k=>?_) (fun D12 H12 hD12 s12 hl12=>?_)⟩
  ·obtain ⟨b,_,hx'⟩:=DX bp11 hy
   have e:=Gg hx' 0
   obtain ⟨T0,rfl,hT⟩:=hx'.mono hs
   refine ⟨_,rfl,T0,_,_,_,rfl,rfl,.inl (.inl hT),Af (j:=0) rfl,?_⟩
   have:=k H' (An.refl H')
   rw [e] at this
   exact this
  rw [List.filter_eq_self.mpr (fun _ _=>rfl),JV 0 bp11] at hl12
  have e12:(bs.map fun b=>(bV b).getD 0 V.non)=(bs.map (·.1)).map V.str:=by
   rw [List.map_map]
   rfl
  rw [e12] at hl12
  refine ⟨D12,_,rfl,hl12,by rw [List.length_map]; have:=O.b5; omega,O.nb,fun D13 kvs H13 hD13 s13 hl13 hv13=>?_⟩
  have s1113:=s12.trans s13
  have x13:=s1113 _ _ x11
  refine ⟨_,rfl,x,C,dx,_,rfl,x13,T.cl,T.n_board_numbers,Nat.lt_of_le_of_lt (Bv _ _ _) (by omega),?_⟩
  have u14:SX x H13 _:=SX.up (o:=HO.ins C dx (Bj "board_numbers" (.ref D13) (Bj "knob_rows" (.ref D10) f9)))
  have x14:upd H13 x (HO.ins C dx (Bj "board_numbers" (.ref D13) (Bj "knob_rows" (.ref D10) f9))) x=_:=Aj
  have c14:=(c11.trans (SX.of s1113)).trans u14
  have bl14:=u14.lst x13 (s1113 _ _ bl11)
  have bp14:=u14.pair x13 (Al s1113 bp11)
  have rl14:=u14.lst x13 (s1113 _ _ rl11)
  have rp14:=u14.pair x13 (Al s1113 rp11)
  have kr14:=u14.lst x13 (s1113 _ _ kr11)
  have bn14:=u14.dk x13 hl13
  generalize upd H13 x (HO.ins C dx (Bj "board_numbers" (.ref D13) (Bj "knob_rows" (.ref D10) f9)))=H14 at x14 c14 bl14 bp14 rl14 rp14 kr14 bn14 ⊢
  clear u14
  have hrl:=rp14.length
  rw [List.length_map] at hrl
  have hS14:CP K H14 D8 rvs:=.inl (.inl rl14)
  refine ⟨_,rfl,x,C,dx,_,_,rfl,x14,T.cl,T.n_rank_list,(by rw [Ay,if_neg (by decide +kernel),Ay,if_neg (by decide +kernel)]; exact lr9),D8,rfl,⟨_,hS14⟩,Cp (K:=K) (xs:=rvs) (fun _=>true) (Jd H14 0) hS14 (BJ (by have:=O.nr; omega)) (fun y hy H' hs R k=>k H' (An.refl H')) (fun y hy _ H' hs R k=>?_) (fun D15 H15 hD15 s15 hl15=>?_)⟩
  ·obtain ⟨b,_,hx'⟩:=DX rp14 hy
   have e:=Gg hx' 0
   obtain ⟨T0,rfl,hT⟩:=hx'.mono hs
   refine ⟨_,rfl,T0,_,_,_,rfl,rfl,.inl (.inl hT),Af (j:=0) rfl,?_⟩
   have:=k H' (An.refl H')
   rw [e] at this
   exact this
  rw [List.filter_eq_self.mpr (fun _ _=>rfl),JV 0 rp14] at hl15
  have e15:((rk.map Rg).map fun b=>(tV b).getD 0 V.non)=(rk.map (·.1)).map V.str:=by
   rw [List.map_map,List.map_map]
   rfl
  rw [e15] at hl15
  refine ⟨D15,_,rfl,hl15,by rw [List.length_map]; have:=O.nr; omega,O.nrr,fun D16 kvs16 H16 hD16 s16 hl16 hv16=>?_⟩
  have s1416:=s15.trans s16
  have x16:=s1416 _ _ x14
  refine ⟨_,rfl,x,C,dx,_,rfl,x16,T.cl,T.n_rank_numbers,Nat.lt_of_le_of_lt (Nat.le_trans (Bv _ _ _) (Nat.succ_le_succ (Bv _ _ _))) (by omega),?_⟩
  have u17:SX x H16 _:=SX.up (o:=HO.ins C dx (Bj "rank_numbers" (.ref D16) (Bj "board_numbers" (.ref D13) (Bj "knob_rows" (.ref D10) f9))))
  have x17:upd H16 x (HO.ins C dx (Bj "rank_numbers" (.ref D16) (Bj "board_numbers" (.ref D13) (Bj "knob_rows" (.ref D10) f9)))) x=_:=Aj
  have c17:=(c14.trans (SX.of s1416)).trans u17
  have bl17:=u17.lst x16 (s1416 _ _ bl14)
  have bp17:=u17.pair x16 (Al s1416 bp14)
  have rl17:=u17.lst x16 (s1416 _ _ rl14)
  have rp17:=u17.pair x16 (Al s1416 rp14)
  have kr17:=u17.lst x16 (s1416 _ _ kr14)
  have bn17:=u17.dk x16 (s1416 _ _ bn14)
  have rn17:=u17.dk x16 hl16
  generalize hf17:Bj "rank_numbers" (.ref D16) (Bj "board_numbers" (.ref D13) (Bj "knob_rows" (.ref D10) f9))=f17 at x17 c17 bl17 bp17 rl17 rp17 kr17 bn17 rn17 u17 ⊢
  generalize upd H16 x (HO.ins C dx f17)=H17 at x17 c17 bl17 bp17 rl17 rp17 kr17 bn17 rn17 ⊢
  have n17:f17.length<=6:=by rw [← hf17]; exact Nat.le_trans (Bv _ _ _) (Nat.succ_le_succ (Nat.le_trans (Bv _ _ _) (Nat.succ_le_succ (Nat.le_trans (Bv _ _ _) (Nat.succ_le_succ n9)))))
  have lb17:f17.lookup ("board_list" : Str)=some (.ref D5):=by rw [← hf17,Ay,if_neg (by decide +kernel),Ay,if_neg (by decide +kernel),Ay,if_neg (by decide +kernel)]; exact lb9
  have lr17:f17.lookup ("rank_list" : Str)=some (.ref D8):=by rw [← hf17,Ay,if_neg (by decide +kernel),Ay,if_neg (by decide +kernel),Ay,if_neg (by decide +kernel)]; exact lr9
  have lrn17:f17.lookup ("rank_numbers" : Str)=some (.ref D16):=by rw [← hf17,Ay,if_pos rfl]
  have lbn17:f17.lookup ("board_numbers" : Str)=some (.ref D13):=by rw [← hf17,Ay,if_neg (by decide +kernel),Ay,if_pos rfl]
  have lkr17:f17.lookup ("knob_rows" : Str)=some (.ref D10):=by rw [← hf17,Ay,if_neg (by decide +kernel),Ay,if_neg (by decide +kernel),Ay,if_pos rfl]
  have no17:∀ m∈meths,f17.lookup m=none:=fun m hm=>by
   rw [← hf17,Ay,if_neg (EY m hm _ (by decide +kernel)),Ay,if_neg (EY m hm _ (by decide +kernel)),Ay,if_neg (EY m hm _ (by decide +kernel))]
   exact no9 m hm
  clear u17 hf17
  have hS17:CP K H17 D10 uk:=.inl (.inl kr17)
  have R17:Rows H17 ρ us:=fun v hv=>c17.tup hx (hR v hv)
  refine ⟨_,rfl,x,C,dx,_,_,rfl,x17,T.cl,T.n_knob_rows,lkr17,D10,rfl,⟨_,hS17⟩,Cp (K:=K) (xs:=uk) (fun _=>true) (fun v=>.str (ρ v).nm) hS17 (BJ (by have:=O.nk; omega)) (fun y hy H' hs R k=>k H' (An.refl H')) (fun y hy _ H' hs R k=>?_) (fun D18 H18 hD18 s18 hl18=>?_)⟩
  ·obtain ⟨T0,rfl,hT⟩:=(R17.mono hs) y (inKn hy)
   exact ⟨_,rfl,T0,_,_,_,rfl,rfl,.inl (.inl hT),Af (j:=1) rfl,k H' (An.refl H')⟩
  rw [List.filter_eq_self.mpr (fun _ _=>rfl)] at hl18
  have e18:(uk.map fun v=>V.str (ρ v).nm)=(ks.map (·.nm)).map V.str:=by
   rw [← ek,List.map_map,List.map_map]
   rfl
  rw [e18] at hl18
  refine ⟨D18,_,rfl,hl18,by rw [List.length_map]; have:=O.nk; omega,O.nn,fun D19 kvs19 H19 hD19 s19 hl19 hv19=>?_⟩
  have s1719:=s18.trans s19
  have x19:=s1719 _ _ x17
  refine ⟨_,rfl,x,C,dx,_,rfl,x19,T.cl,T.n_knob_numbers,by omega,?_⟩
  have u20:SX x H19 _:=SX.up (o:=HO.ins C dx (Bj "knob_numbers" (.ref D19) f17))
  have x20:upd H19 x (HO.ins C dx (Bj "knob_numbers" (.ref D19) f17)) x=_:=Aj
  have c20:=(c17.trans (SX.of s1719)).trans u20
  have bl20:=u20.lst x19 (s1719 _ _ bl17)
  have bp20:=u20.pair x19 (Al s1719 bp17)
  have rl20:=u20.lst x19 (s1719 _ _ rl17)
  have rp20:=u20.pair x19 (Al s1719 rp17)
  have kr20:=u20.lst x19 (s1719 _ _ kr17)
  have bn20:=u20.dk x19 (s1719 _ _ bn17)
  have rn20:=u20.dk x19 (s1719 _ _ rn17)
  generalize upd H19 x (HO.ins C dx (Bj "knob_numbers" (.ref D19) f17))=H20 at x20 c20 bl20 bp20 rl20 rp20 kr20 bn20 rn20 ⊢
  clear u20
  refine ⟨_,rfl,x,C,dx,_,_,rfl,x20,T.cl,T.n_board_list,(by rw [Ay,if_neg (by decide +kernel)]; exact lb17),D5,bs.map YK,bvs,rfl,bl20,Bx (F:=fun (a:Th) y=>TupAt H20 (tV a) y) YK bp20,(by rw [List.length_map]; have:=O.b5; omega),(fun a ha=>by obtain ⟨b,hb,rfl⟩:=List.mem_map.mp ha; have:=O.sz b hb; show b.2<=97; omega),fun D21 pvs H21 hD21 s21 hl21 hp21=>?_⟩
  have e21:(bs.map YK).map tN=bs:=by
   rw [List.map_map]
   exact List.map_id bs
  rw [e21] at hp21
  have x21:=s21 _ _ x20
  refine ⟨_,rfl,x,C,dx,_,rfl,x21,T.cl,T.n_key_places,Nat.lt_of_le_of_lt (Bv _ _ _) (by omega),?_⟩
  have u22:SX x H21 _:=SX.up (o:=HO.ins C dx (Bj "key_places" (.ref D21) (Bj "knob_numbers" (.ref D19) f17)))
  have x22:upd H21 x (HO.ins C dx (Bj "key_places" (.ref D21) (Bj "knob_numbers" (.ref D19) f17))) x=_:=Aj
  have c22:=(c20.trans (SX.of s21)).trans u22
  have bl22:=u22.lst x21 (s21 _ _ bl20)
  have bp22:=u22.pair x21 (Al s21 bp20)
  have rl22:=u22.lst x21 (s21 _ _ rl20)
  have rp22:=u22.pair x21 (Al s21 rp20)
  have kr22:=u22.lst x21 (s21 _ _ kr20)
  have bn22:=u22.dk x21 (s21 _ _ bn20)
  have rn22:=u22.dk x21 (s21 _ _ rn20)
  have kp22:=u22.lst x21 hl21
  have kq22:=u22.pair x21 hp21
  generalize upd H21 x (HO.ins C dx (Bj "key_places" (.ref D21) (Bj "knob_numbers" (.ref D19) f17)))=H22 at x22 c22 bl22 bp22 rl22 rp22 kr22 bn22 rn22 kp22 kq22 ⊢
  clear u22
  refine ⟨_,rfl,x,C,dx,_,_,rfl,x22,T.cl,T.n_rank_list,(by rw [Ay,if_neg (by decide +kernel),Ay,if_neg (by decide +kernel)]; exact lr17),D8,rk.map Rg,rvs,rfl,rl22,rp22,(by rw [List.length_map]; exact O.nr),(fun a ha=>by obtain ⟨r,hr,rfl⟩:=List.mem_map.mp ha; exact O.nz r hr),fun D23 qvs H23 hD23 s23 hl23 hp23=>?_⟩
  have e23:(rk.map Rg).map tN=rk.map QZ:=by
   rw [List.map_map]
   rfl
  rw [e23] at hp23
  have x23:=s23 _ _ x22
  refine ⟨_,rfl,x,C,dx,_,rfl,x23,T.cl,T.n_pipe_places,Nat.lt_of_le_of_lt (Nat.le_trans (Bv _ _ _) (Nat.succ_le_succ (Bv _ _ _))) (by omega),?_⟩
  have u24:SX x H23 _:=SX.up (o:=HO.ins C dx (Bj "pipe_places" (.ref D23) (Bj "key_places" (.ref D21) (Bj "knob_numbers" (.ref D19) f17))))
  have x24:upd H23 x (HO.ins C dx (Bj "pipe_places" (.ref D23) (Bj "key_places" (.ref D21) (Bj "knob_numbers" (.ref D19) f17)))) x=_:=Aj
  have c24:=(c22.trans (SX.of s23)).trans u24
  have bl24:=u24.lst x23 (s23 _ _ bl22)
  have bp24:=u24.pair x23 (Al s23 bp22)
  have kr24:=u24.lst x23 (s23 _ _ kr22)
  have rl24:=u24.lst x23 (s23 _ _ rl22)
  have rp24:=u24.pair x23 (Al s23 rp22)
  have pp24:=u24.lst x23 hl23
  have pq24:=u24.pair x23 hp23
  have bn24:=u24.dk x23 (s23 _ _ bn22)
  have rn24:=u24.dk x23 (s23 _ _ rn22)
  have kp24:=u24.lst x23 (s23 _ _ kp22)
  have kq24:=u24.pair x23 (Al s23 kq22)
  generalize hf24:Bj "pipe_places" (.ref D23) (Bj "key_places" (.ref D21) (Bj "knob_numbers" (.ref D19) f17))=f24 at x24 c24 bl24 bp24 kr24 rl24 rp24 pp24 pq24 bn24 rn24 kp24 kq24 u24 ⊢
  generalize upd H23 x (HO.ins C dx f24)=H24 at x24 c24 bl24 bp24 kr24 rl24 rp24 pp24 pq24 bn24 rn24 kp24 kq24 ⊢
  have n24:f24.length<=9:=by rw [← hf24]; exact Nat.le_trans (Bv _ _ _) (Nat.succ_le_succ (Nat.le_trans (Bv _ _ _) (Nat.succ_le_succ (Nat.le_trans (Bv _ _ _) (Nat.succ_le_succ n17)))))
  have old24:∀ {f:Str} {v:V},¬ f = "pipe_places"->¬ f = "key_places"->¬ f = "knob_numbers"->f17.lookup f=some v->f24.lookup f=some v:=fun h1 h2 h3 h=>by
   rw [← hf24,Ay,if_neg h1,Ay,if_neg h2,Ay,if_neg h3]; exact h
  have lb24:=old24 (by decide +kernel) (by decide +kernel) (by decide +kernel) lb17
  have lbn24:=old24 (by decide +kernel) (by decide +kernel) (by decide +kernel) lbn17
  have lr24:=old24 (by decide +kernel) (by decide +kernel) (by decide +kernel) lr17
  have lpp24:f24.lookup ("pipe_places" : Str)=some (.ref D23):=by rw [← hf24,Ay,if_pos rfl]
  have lrn24:=old24 (by decide +kernel) (by decide +kernel) (by decide +kernel) lrn17
  have lkr24:=old24 (by decide +kernel) (by decide +kernel) (by decide +kernel) lkr17
  have lkp24:f24.lookup ("key_places" : Str)=some (.ref D21):=by rw [← hf24,Ay,if_neg (by decide +kernel),Ay,if_pos rfl]
  have no24:∀ m∈meths,f24.lookup m=none:=fun m hm=>by
   rw [← hf24,Ay,if_neg (EY m hm _ (by decide +kernel)),Ay,if_neg (EY m hm _ (by decide +kernel)),Ay,if_neg (EY m hm _ (by decide +kernel))]
   exact no17 m hm
  clear u24 hf24 old24
  have R24:Rows H24 ρ us:=fun v hv=>c24.tup hx (hR v hv)
  refine ⟨_,rfl,_,rfl,x,C,dx,_,_,rfl,x24,T.cl,T.n_rank_numbers,lrn24,p,D16,us,ρ,rk,kvs16,rfl,c24.lst hx hp,R24,by omega,rn24,(fun i r hr=>hv16 i r.1 (by rw [List.getElem?_map,hr]; rfl)),O.nrr,O.ln,fun D25 H25 hD25 s25 hl25=>?_⟩
  have x25:=s25 _ _ x24
  refine ⟨_,rfl,x,C,dx,_,rfl,x25,T.cl,T.n_knob_lines,by omega,?_⟩
  have u26:SX x H25 _:=SX.up (o:=HO.ins C dx (Bj "knob_lines" (.ref D25) f24))
  have x26:upd H25 x (HO.ins C dx (Bj "knob_lines" (.ref D25) f24)) x=_:=Aj
  have c26:=(c24.trans (SX.of s25)).trans u26
  have bl26:=u26.lst x25 (s25 _ _ bl24)
  have bp26:=u26.pair x25 (Al s25 bp24)
  have kr26:=u26.lst x25 (s25 _ _ kr24)
  have rl26:=u26.lst x25 (s25 _ _ rl24)
  have rp26:=u26.pair x25 (Al s25 rp24)
  have pp26:=u26.lst x25 (s25 _ _ pp24)
  have pq26:=u26.pair x25 (Al s25 pq24)
  have ln26:=M3 hl25 u26 x25
  have bn26:=u26.dk x25 (s25 _ _ bn24)
  have rn26:=u26.dk x25 (s25 _ _ rn24)
  have kp26:=u26.lst x25 (s25 _ _ kp24)
  have kq26:=u26.pair x25 (Al s25 kq24)
  generalize upd H25 x (HO.ins C dx (Bj "knob_lines" (.ref D25) f24))=H26 at x26 c26 bl26 bp26 kr26 rl26 rp26 pp26 pq26 ln26 bn26 rn26 kp26 kq26 ⊢
  clear u26
  have R26:Rows H26 ρ us:=fun v hv=>c26.tup hx (hR v hv)
  refine ⟨_,rfl,p,_,"step",ρ,rfl,c26.lst hx hp,R26,by omega,fun D27 H27 hD27 s27 hl27=>?_⟩
  rw [O.none] at hl27
  have hS27:CP K H27 D27 []:=.inl (.inl hl27)
  refine ⟨D27,rfl,⟨_,hS27⟩,Cp (K:=K) (xs:=[]) (fun _=>true) id hS27 (BJ (by simp)) (fun y hy=>nomatch hy) (fun y hy=>nomatch hy) (fun D28 H28 hD28 s28 hl28=>?_)⟩
  have s2628:=s27.trans s28
  have x28:=s2628 _ _ x26
  refine ⟨_,rfl,x,C,dx,_,rfl,x28,T.cl,T.n_step_sets,Nat.lt_of_le_of_lt (Bv _ _ _) (by omega),?_⟩
  have u29:SX x H28 _:=SX.up (o:=HO.ins C dx (Bj "step_sets" (.ref D28) (Bj "knob_lines" (.ref D25) f24)))
  have old:∀ {f:Str},¬ f = "step_sets"->¬ f = "knob_lines"->(Bj "step_sets" (.ref D28) (Bj "knob_lines" (.ref D25) f24)).lookup f=f24.lookup f:=fun h1 h2=>by rw [Ay,if_neg h1,Ay,if_neg h2]
  refine q _ ⟨⟨⟨dx,_,D5,D13,D21,D10,bvs,pvs,uk,kvs,Aj,(old (by decide +kernel) (by decide +kernel)).trans lb24,(old (by decide +kernel) (by decide +kernel)).trans lbn24,(old (by decide +kernel) (by decide +kernel)).trans lkp24,(old (by decide +kernel) (by decide +kernel)).trans lkr24,
   fun m hm=>(old (EY m hm _ (by decide +kernel)) (EY m hm _ (by decide +kernel))).trans (no24 m hm),u29.lst x28 (s2628 _ _ bl26),u29.pair x28 (Al s2628 bp26),u29.dk x28 (s2628 _ _ bn26),fun i b hb=>hv13 i b.1 (by rw [List.getElem?_map,hb]; rfl),u29.lst x28 (s2628 _ _ kp26),u29.pair x28 (Al s2628 kq26),u29.lst x28 (s2628 _ _ kr26),?_⟩,O.b5,O.sz,by have:=O.nk; omega⟩,⟨dx,_,D8,D16,D23,D25,rvs,qvs,kvs16,Aj,(old (by decide +kernel) (by decide +kernel)).trans lr24,(old (by decide +kernel) (by decide +kernel)).trans lrn24,(old (by decide +kernel) (by decide +kernel)).trans lpp24,(by rw [Ay,if_neg (by decide +kernel),Ay,if_pos rfl]),u29.lst x28 (s2628 _ _ rl26),u29.pair x28 (Al s2628 rp26),u29.dk x28 (s2628 _ _ rn26),(fun i r hr=>hv16 i r.1 (by rw [List.getElem?_map,hr]; rfl)),u29.lst x28 (s2628 _ _ pp26),u29.pair x28 (Al s2628 pq26),M3 (ln26.mono s2628) u29 x28⟩,O.nr,O.nz,?_⟩ ((c26.trans (SX.of s2628)).trans u29)
  case refine_2=>rw [QX O.ln,← ek,List.length_map,huk]
  rw [← ek]
  refine Bx (F:=fun (r:R) y=>TupAt _ r.v y) ρ ?_
  have R29:Rows _ ρ uk:=fun v hv=>u29.tup x28 ((R26.mono s2628) v (inKn hv))
  generalize upd H28 x _=H29 at R29 ⊢
  have key:∀ l:List V,(∀ v∈l,TupAt H29 (ρ v).v v)->Paired (fun v y=>TupAt H29 (ρ v).v y) l l:=by
   intro l
   induction l with
   | nil=>intro _; exact .nil
   | cons a b ih=>intro h; exact .cons (h a (List.mem_cons_self ..)) (ih fun v hv=>h v (List.mem_cons_of_mem _ hv))
  exact key uk R29
noncomputable def VN (C:Addr):Sp:=fun vs H Q _=>∃ (x:Addr) (bs:List (Str × Nat)) (ks:List R),vs=[.ref x]/\Di C H x bs ks/\∀ D bvs H',H D=none->An H H'->H' D=some (.lst bvs)->Paired (fun b y=>TupAt H' (bV b) y) bs bvs->Q (.ref D) H'
theorem jq:Av ["self"] ["self"] (Ag ik):=Bl
include N T in
theorem Sw:Aq P w K mg base Be 1 aD.fOb aD.dOb ["self"] (VN C):=by
 refine N.FOb.1.ok jq (fun vs H Q E h=>?_) (fun cdv A outer s H vs Q E hr h=>?_)
 ·obtain ⟨x,bs,ks,rfl,_⟩:=h
  rfl
 ·obtain ⟨x,bs,ks,rfl,O,q⟩:=h
  refine ⟨_,(Ah (Aw (Dz Ew rfl T.list PyProof.Rows.boot_list (Aa (Ck (pv 0) rfl) Ac)))),?_⟩
  obtain ⟨⟨dx,fs,bl,bn,kp,kr,bvs,pvs,uvs,kvs,h1,l1,l2,l3,l4,lm,h2,h3,h4,h5,h6,h7,h8,h9⟩,ob5,osz,onk⟩:=id O
  exact ⟨_,rfl,x,C,dx,_,_,rfl,h1,T.cl,T.n_board_list,l1,bl,bvs,rfl,.inl (.inl (.inl h2)),fun l hl=>q l bvs _ hl (Ax hl) Aj (Al (Ax hl) h3)⟩
noncomputable def X3 (C:Addr):Sp:=fun vs H Q _=>∃ (x:Addr) (bs:List (Str × Nat)) (ks:List R),vs=[.ref x]/\Di C H x bs ks/\Q (.int ((Ed bs).length:Nat)) H
theorem jY:Av ["self"] ["self"] (Ag jX):=Bl
include N T in
theorem Wf:Aq P w K mg base Be 1 aD.fOc aD.dOc ["self"] (X3 C):=by
 refine N.FOc.1.ok jY (fun vs H Q E h=>?_) (fun cdv A outer s H vs Q E hr h=>?_)
 ·obtain ⟨x,bs,ks,rfl,_⟩:=h
  rfl
 ·obtain ⟨x,bs,ks,rfl,O,q⟩:=h
  refine ⟨_,(Ah (Aw (BL BX rfl T.len PySem.boot_len (Aa (Ck (pv 0) rfl) Ac)))),?_⟩
  obtain ⟨⟨dx,fs,bl,bn,kp,kr,bvs,pvs,uvs,kvs,h1,l1,l2,l3,l4,lm,h2,h3,h4,h5,h6,h7,h8,h9⟩,ob5,osz,onk⟩:=id O
  refine ⟨_,rfl,x,C,dx,_,_,rfl,h1,T.cl,T.n_key_places,l3,kp,pvs,rfl,.inl (.inl (.inl h6)),?_⟩
  rw [← h7.length]
  exact q
noncomputable def Vn (C:Addr):Sp:=fun vs H Q _=>∃ (x:Addr) (bs:List (Str × Nat)) (ks:List R) (j:Nat) (b:Str × Nat) (n:Int),vs=[.ref x,.str b.1,.int n]/\Di C H x bs ks/\bs[j]? = some b/\∀ H',An H H'->Q (.int ((((bs.take j).map (·.2)).sum:Nat)+n)) H'
theorem fG:Av ["self","board","number"] ["self","board","number"] (Ag iV):=Bl
include N T in
theorem TJ:Aq P w K mg base Be 2 aD.fOk aD.dOk ["self","board","number"] (Vn C):=by
 have GCa:Aq P w K mg base Be 1 aD.fCa aD.dCa ["things"] XJ:=We N T
 refine N.FOk.1.ok fG (fun vs H Q E h=>?_) (fun cdv A outer s H vs Q E hr h=>?_)
 ·obtain ⟨x,bs,ks,j,b,n,rfl,_⟩:=h
  rfl
 ·obtain ⟨x,bs,ks,j,b,n,rfl,O,hb,q⟩:=h
  have hrCa:BR 1 _:=hr.mono (by decide)
  have hu:=Fl hr
  refine ⟨_,(Ah (Aw (Ar Bm (Ai GCa hrCa rfl N.FCa.2.2 N.FCa.1.kp N.FCa.2.1 .nil Ao (Aa (Dd Ey (Ck (pv 0) rfl) Ec (Ca (Ej hu (Ck (pv 0) rfl) (pv 1) (fun _ _=>rfl)))) Ac)) (pv 2)))),?_⟩
  obtain ⟨⟨dx,fs,bl,bn,kp,kr,bvs,pvs,uvs,kvs,h1,l1,l2,l3,l4,lm,h2,h3,h4,h5,h6,h7,h8,h9⟩,ob5,osz,onk⟩:=id O
  have hj:j<bs.length:=(List.getElem?_eq_some_iff.mp hb).1
  have hl:=h3.length
  have g:=Fv.k (k:=Sum.inr b.1) h4
  rw [h5 j b hb] at g
  refine ⟨_,rfl,x,C,dx,_,_,rfl,h1,T.cl,T.n_board_list,l1,_,rfl,x,C,dx,_,_,rfl,h1,T.cl,T.n_board_numbers,l2,_,rfl,bn,_,rfl,g,_,rfl,bl,bvs,rfl,.inl (.inl h2),fun p6 hp6=>?_⟩
  have s6:=Ax (o:=HO.lst (Cy bvs none (some (j:Int)))) hp6
  have a6:upd H p6 (HO.lst (Cy bvs none (some (j:Int)))) p6=_:=Aj
  generalize upd H p6 (HO.lst (Cy bvs none (some (j:Int))))=H6 at s6 a6 ⊢
  rw [G7 bvs j (by omega)] at a6
  refine ⟨p6,(bs.take j).map YK,bvs.take j,rfl,a6,Bx (F:=fun (a:Th) y=>TupAt H6 (tV a) y) YK (JN (Al s6 h3) j),(by rw [List.length_map,List.length_take]; omega),(fun a ha=>by obtain ⟨b',hb',rfl⟩:=List.mem_map.mp ha; exact Nat.le_trans (osz b' (List.mem_of_mem_take hb')) (by show 61<=100; decide)),fun H7 s7=>?_⟩
  have e7:((bs.take j).map YK).map (fun a=>a.2.1)=(bs.take j).map (·.2):=by
   rw [List.map_map]
   rfl
  rw [e7]
  exact ⟨_,rfl,_,_,rfl,rfl,q H7 (s6.trans s7)⟩
noncomputable def Wt (C:Addr):Sp:=fun vs H Q _=>∃ (x:Addr) (bs:List (Str × Nat)) (ks:List R) (i:Nat) (qd:Nat × Nat),vs=[.ref x,.int (i:Nat)]/\Di C H x bs ks/\(Ed bs)[i]? = some qd/\∀ y,TupAt H (qV qd) y->Q y H
theorem iw:Av ["self","key"] ["self","key"] (Ag fQ):=Bl
include N T in
theorem WP:Aq P w K mg base Be 1 aD.fOo aD.dOo ["self","key"] (Wt C):=by
 refine N.FOo.1.ok iw (fun vs H Q E h=>?_) (fun cdv A outer s H vs Q E hr h=>?_)
 ·obtain ⟨x,bs,ks,i,qd,rfl,_⟩:=h
  rfl
 ·obtain ⟨x,bs,ks,i,qd,rfl,O,hq,q⟩:=h
  refine ⟨_,(Ah (Aw (Am Ek (Ck (pv 0) rfl) (pv 1) (fun _ _=>rfl)))),?_⟩
  obtain ⟨⟨dx,fs,bl,bn,kp,kr,bvs,pvs,uvs,kvs,h1,l1,l2,l3,l4,lm,h2,h3,h4,h5,h6,h7,h8,h9⟩,ob5,osz,onk⟩:=id O
  obtain ⟨y,hy,ht⟩:=Bq h7 hq
  exact ⟨_,rfl,x,C,dx,_,_,rfl,h1,T.cl,T.n_key_places,l3,_,rfl,kp,pvs,_,_,rfl,rfl,.inl (.inl h6),Af hy,q y ht⟩
noncomputable def Zi (C:Addr):Sp:=fun vs H Q _=>∃ (x:Addr) (bs:List (Str × Nat)) (ks:List R) (k j1 j2:Nat) (b1 b2:Str × Nat) (nm:Str) (s:Int),vs=[.ref x,.int (k:Nat)]/\Di C H x bs ks/\ks[k]? = some ⟨"coupler",nm,[.str b1.1,.str b2.1,.int s]⟩/\bs[j1]? = some b1/\bs[j2]? = some b2/\∀ y H',An H H'->TupAt H' [.int (j1:Nat),.int (j2:Nat),.int s] y->Q y H'
noncomputable def Ou (C:Addr):Sp:=fun vs H Q _=>∃ (x:Addr) (bs:List (Str × Nat)) (ks:List R) (k j1:Nat) (b1:Str × Nat) (wd nm:Str) (rs:List V),vs=[.ref x,.int (k:Nat)]/\Di C H x bs ks/\ks[k]? = some ⟨wd,nm,.str b1.1::rs⟩/\bs[j1]? = some b1/\Q (.int (j1:Nat)) H
theorem jr:Av ["self","knob"] ["self","knob"] (Ag jO):=Bl
include N T in
theorem Pk:Aq P w K mg base Be 1 aD.fBk aD.dBk ["self","knob"] (Ou C):=by
 refine N.FBk.1.ok jr (fun vs H Q E h=>?_) (fun cdv A outer s H vs Q E hr h=>?_)
 ·obtain ⟨x,bs,ks,k,j1,b1,wd,nm,rs,rfl,_⟩:=h
  rfl
 ·obtain ⟨x,bs,ks,k,j1,b1,wd,nm,rs,rfl,O,hk,hb1,q⟩:=h
  have hu:=Fl hr
  refine ⟨_,(Ah (Aw (Ej hu (Ck (pv 0) rfl) (Am (Ak (K:=K) rfl) (Am Ek (Ck (pv 0) rfl) (pv 1) (fun _ _=>rfl)) Ab (fun _ _=>rfl)) (fun _ _=>rfl)))),?_⟩
  obtain ⟨⟨dx,fs,bl,bn,kp,kr,bvs,pvs,uvs,kvs,h1,l1,l2,l3,l4,lm,h2,h3,h4,h5,h6,h7,h8,h9⟩,ob5,osz,onk⟩:=id O
  obtain ⟨y,hy,T0,rfl,ht⟩:=Bq h9 hk
  have g1:=Fv.k (k:=Sum.inr b1.1) h4
  rw [h5 j1 b1 hb1] at g1
  exact ⟨_,rfl,x,C,dx,_,_,rfl,h1,T.cl,T.n_board_numbers,l2,_,rfl,x,C,dx,_,_,rfl,h1,T.cl,T.n_knob_rows,l4,_,rfl,kr,uvs,_,_,rfl,rfl,.inl (.inl h8),Af hy,T0,_,_,_,rfl,rfl,.inl (.inl ht),Af (j:=2) rfl,bn,_,rfl,g1,q⟩
theorem cP:Av ["self","knob","row"] ["self","knob"] (Ag eY):=Bl
include N T in
theorem cR:Aq P w K mg base Be 2 aD.fOp aD.dOp ["self","knob"] (Zi C):=by
 have GBk:Aq P w K mg base Be 1 aD.fBk aD.dBk ["self","knob"] (Ou C):=Pk N T
 refine N.FOp.1.ok cP (fun vs H Q E h=>?_) (fun cdv A outer s H vs Q E hr h=>?_)
 ·obtain ⟨x,bs,ks,k,j1,j2,b1,b2,nm,s0,rfl,_⟩:=h
  rfl
 ·obtain ⟨x,bs,ks,k,j1,j2,b1,b2,nm,s0,rfl,O,hk,hb1,hb2,q⟩:=h
  have hrBk:BR 1 _:=hr.mono (by decide)
  have hu:=Fl hr
  refine ⟨_,(Ae (Az (i:=2) cP.nd rfl (Or.inl rfl) (Am Ek (Ck (pv 0) rfl) (pv 1) (fun _ _=>rfl)))
   (Ah (Aw (CQ (Aa (Cz (pv 0) T.cl N.FBk.2.2 GBk hrBk N.FBk.2.1 .nil Ao (Aa (pv 1) Ac)) (Aa (Ej hu (Ck (pv 0) rfl) (Am (Ak (K:=K) rfl) (pv 2) Ab (fun _ _=>rfl)) (fun _ _=>rfl)) (Aa (Am (Ak (K:=K) rfl) (pv 2) Ab (fun _ _=>rfl)) Ac))))))),?_⟩
  obtain ⟨⟨dx,fs,bl,bn,kp,kr,bvs,pvs,uvs,kvs,h1,l1,l2,l3,l4,lm,h2,h3,h4,h5,h6,h7,h8,h9⟩,ob5,osz,onk⟩:=id O
  obtain ⟨y,hy,T0,rfl,ht⟩:=Bq h9 hk
  have g1:=Fv.k (k:=Sum.inr b1.1) h4
  rw [h5 j1 b1 hb1] at g1
  have g2:=Fv.k (k:=Sum.inr b2.1) h4
  rw [h5 j2 b2 hb2] at g2
  refine ⟨_,rfl,x,C,dx,_,_,rfl,h1,T.cl,T.n_knob_rows,l4,_,rfl,kr,uvs,_,_,rfl,rfl,.inl (.inl h8),Af hy,?_⟩
  refine ⟨_,rfl,x,dx,fs,rfl,h1,lm _ (by decide +kernel),_,rfl,x,bs,ks,k,j1,b1,_,_,_,rfl,O,hk,hb1,?_⟩
  refine ⟨_,rfl,x,C,dx,_,_,rfl,h1,T.cl,T.n_board_numbers,l2,_,rfl,T0,_,_,_,rfl,rfl,.inl (.inl ht),Af (j:=3) rfl,bn,_,rfl,g2,?_⟩
  exact ⟨_,rfl,T0,_,_,_,rfl,rfl,.inl (.inl ht),Af (j:=4) rfl,by show 3<=sizeLine; decide,fun p hp=>q _ _ (Ax hp) ⟨p,rfl,Aj⟩⟩
noncomputable def ZS (C:Addr):Sp:=fun vs H Q _=>∃ (x:Addr) (bs:List (Str × Nat)) (ks:List R) (k i j1 j2:Nat) (b1 b2:Str × Nat) (qd:Nat × Nat) (nm:Str) (s:Int),vs=[.ref x,.int (k:Nat),.int (i:Nat)]/\Di C H x bs ks/\(Ed bs)[i]? = some qd/\ks[k]? = some ⟨"coupler",nm,[.str b1.1,.str b2.1,.int s]⟩/\bs[j1]? = some b1/\bs[j2]? = some b2 /\
 ∀ H',An H H'->Q (Ji bs j1 j2 s qd b2.2) H'
theorem RX:Av ["organ","knob","key","coupler","place","second","number"] ["organ","knob","key"] (Ag gJ):=Bl
include N T in
theorem bQ:Aq P w K mg base Be 3 aD.fLe aD.dLe ["organ","knob","key"] (ZS C):=by
 have GOc:Aq P w K mg base Be 1 aD.fOc aD.dOc ["self"] (X3 C):=Wf N T
 have GOp:Aq P w K mg base Be 2 aD.fOp aD.dOp ["self","knob"] (Zi C):=cR N T
 have GOo:Aq P w K mg base Be 1 aD.fOo aD.dOo ["self","key"] (Wt C):=WP N T
 have GOb:Aq P w K mg base Be 1 aD.fOb aD.dOb ["self"] (VN C):=Sw N T
 have GOk:Aq P w K mg base Be 2 aD.fOk aD.dOk ["self","board","number"] (Vn C):=TJ N T
 refine N.FLe.1.ok RX (fun vs H Q E h=>?_) (fun cdv A outer s H vs Q E hr h=>?_)
 ·obtain ⟨x,bs,ks,k,i,j1,j2,b1,b2,qd,nm,s0,rfl,_⟩:=h
  rfl
 ·obtain ⟨x,bs,ks,k,i,j1,j2,b1,b2,qd,nm,s0,rfl,O,hq,hk,hb1,hb2,q⟩:=h
  have hrOc:BR 1 _:=hr.mono (by decide)
  have hrOp:BR 2 _:=hr.mono (by decide)
  have hrOo:BR 1 _:=hr.mono (by decide)
  have hrOb:BR 1 _:=hr.mono (by decide)
  have hrOk:BR 2 _:=hr.mono (by decide)
  refine ⟨_,(Ae (Br (CJ (FT Er GX Ab (pv 2) (Em (pv 0) T.cl N.FOc.2.2 GOc hrOc N.FOc.2.1 .nil Ao))) (Ah (Aw Ge)) Bb)
   (Ae (Az (i:=3) RX.nd rfl (Or.inl rfl) (Cz (pv 0) T.cl N.FOp.2.2 GOp hrOp N.FOp.2.1 .nil Ao (Aa (pv 1) Ac)))
   (Ae (Az (i:=4) RX.nd rfl (Or.inl rfl) (Cz (pv 0) T.cl N.FOo.2.2 GOo hrOo N.FOo.2.1 .nil Ao (Aa (pv 2) Ac)))
   (Ae (Az (i:=5) RX.nd rfl (Or.inl rfl) (Am (BV (K:=K) rfl) (Em (pv 0) T.cl N.FOb.2.2 GOb hrOb N.FOb.2.1 .nil Ao) (Am (Ak (K:=K) rfl) (pv 3) Ab (fun _ _=>rfl)) (fun _ _=>rfl)))
   (Ae (Az (i:=6) RX.nd rfl (Or.inl rfl) (Ar Bm (Am (Ak (K:=K) rfl) (pv 4) Ab (fun _ _=>rfl)) (Am (Ak (K:=K) rfl) (pv 3) Ab (fun _ _=>rfl))))
   (Ae (Br (PW.pt (Dm (BW E_ (Am (Ak (K:=K) rfl) (pv 4) Ab (fun _ _=>rfl)) (Am (Ak (K:=K) rfl) (pv 3) Ab (fun _ _=>rfl)) (Bc _)) (Eb (CJ (FT Er GX Ab (pv 6) (Am (Ak (K:=K) rfl) (pv 5) Ab (fun _ _=>rfl))))))) (Ah (Aw Ge)) Bb)
   (Ah (Aw (Cz (pv 0) T.cl N.FOk.2.2 GOk hrOk N.FOk.2.1 .nil Ao (Aa (Am (Ak (K:=K) rfl) (pv 5) Ab (fun _ _=>rfl)) (Aa (pv 6) Ac))))))))))),?_⟩
  have hi:i<(Ed bs).length:=(List.getElem?_eq_some_iff.mp hq).1
  have meth:∀ {H':Hp},Di C H' x bs ks->∃ dx fs,H' x=some (.ins C dx fs)/\∀ m∈meths,fs.lookup m=none:=fun O'=>by
   obtain ⟨⟨dx,fs,_,_,_,_,_,_,_,_,h1,_,_,_,_,lm,_⟩,_⟩:=O'
   exact ⟨dx,fs,h1,lm⟩
  obtain ⟨dx,fs,hx,lm⟩:=meth O
  refine ⟨_,rfl,_,_,rfl,rfl,_,rfl,?_⟩
  refine Dr (fun _=>?_) (fun z=>absurd (decide_eq_true (by omega)) z)
  refine ⟨_,rfl,x,dx,fs,rfl,hx,lm _ (by decide +kernel),x,bs,ks,rfl,O,_,_,rfl,rfl,_,rfl,?_⟩
  rw [decide_eq_true (by omega:(i:Int)<((Ed bs).length:Nat))]
  refine Bo ?_
  refine ⟨_,rfl,x,dx,fs,rfl,hx,lm _ (by decide +kernel),_,rfl,x,bs,ks,k,j1,j2,b1,b2,nm,s0,rfl,O,hk,hb1,hb2,fun y1 H1 s1 hy1=>?_⟩
  have O1:=O.mono s1
  obtain ⟨dx1,fs1,hx1,lm1⟩:=meth O1
  refine ⟨_,rfl,x,dx1,fs1,rfl,hx1,lm1 _ (by decide +kernel),_,rfl,x,bs,ks,i,qd,rfl,O1,hq,fun y2 hy2=>?_⟩
  refine ⟨_,rfl,x,dx1,fs1,rfl,hx1,lm1 _ (by decide +kernel),x,bs,ks,rfl,O1,fun D bvs H2 hD s2 hl2 hb2'=>?_⟩
  obtain ⟨T1,rfl,ht1⟩:=hy1.mono s2
  obtain ⟨T2,rfl,ht2⟩:=hy2.mono s2
  obtain ⟨v3,hv3,T3,rfl,ht3⟩:=Bq hb2' hb2
  refine ⟨_,rfl,T1,_,_,_,rfl,rfl,.inl (.inl ht1),Af (j:=1) rfl,D,bvs,_,_,rfl,rfl,.inl (.inl hl2),Af hv3,?_⟩
  refine ⟨_,rfl,T2,_,_,_,rfl,rfl,.inl (.inl ht2),Af (j:=1) rfl,_,rfl,T1,_,_,_,rfl,rfl,.inl (.inl ht1),Af (j:=2) rfl,_,_,rfl,rfl,?_⟩
  refine ⟨_,rfl,T2,_,_,_,rfl,rfl,.inl (.inl ht2),Af (j:=0) rfl,_,rfl,T1,_,_,_,rfl,rfl,.inl (.inl ht1),Af (j:=0) rfl,rfl,_,rfl,?_⟩
  have fin:=q H2 (s1.trans s2)
  unfold Ji at fin
  by_cases e1:qd.1=j1
  ·have z:(!decide (V.int (qd.1:Nat)=V.int (j1:Nat)))=false:=by rw [e1]; simp
   rw [z]
   refine Bo ?_
   refine ⟨_,rfl,_,_,rfl,rfl,_,rfl,?_⟩
   refine Dr (fun g1=>?_) (fun g1=>?_)
   ·refine ⟨_,rfl,T3,_,_,_,rfl,rfl,.inl (.inl ht3),Af (j:=1) rfl,_,_,rfl,rfl,_,rfl,?_⟩
    have g1':0<=(qd.2:Int)+s0:=of_decide_eq_true g1
    by_cases g2:(qd.2:Int)+s0<(b2.2:Nat)
    ·have z2:decide ((qd.2:Int)+s0<(b2.2:Nat))=true:=decide_eq_true g2
     rw [z2]
     refine Bo ?_
     rw [if_pos ⟨e1,g1',g2⟩] at fin
     obtain ⟨dx2,fs2,hx2,lm2⟩:=meth (O1.mono s2)
     refine ⟨_,rfl,x,dx2,fs2,rfl,hx2,lm2 _ (by decide +kernel),_,rfl,T3,_,_,_,rfl,rfl,.inl (.inl ht3),Af (j:=0) rfl,_,rfl,x,bs,ks,j2,b2,_,rfl,O1.mono s2,hb2,fun H3 s3=>?_⟩
     have fin3:=q H3 ((s1.trans s2).trans s3)
     unfold Ji at fin3
     rw [if_pos ⟨e1,g1',g2⟩] at fin3
     exact fin3
    ·have z2:decide ((qd.2:Int)+s0<(b2.2:Nat))=false:=decide_eq_false g2
     rw [z2]
     refine Cv ?_
     rw [if_neg fun z=>g2 z.2.2] at fin
     exact fin
   ·refine ⟨_,rfl,?_⟩
    have g1':decide (0<=(qd.2:Int)+s0)=false:=(Bool.not_eq_true _).mp g1
    rw [if_neg fun z=>absurd (decide_eq_true z.2.1) g1] at fin
    exact Cv fin
  ·have z:(!decide (V.int (qd.1:Nat)=V.int (j1:Nat)))=true:=by
    rw [decide_eq_false fun z=>e1 (by have:=V.int.inj z; omega)]
    rfl
   rw [z]
   refine Cv ?_
   rw [if_neg fun z=>e1 z.1] at fin
   exact fin
noncomputable abbrev nV (l:List Nat):List V:=l.map fun n:Nat=>V.int (n:Int)
noncomputable def Yw:Sp:=fun vs H Q _=>∃ i:Int,vs=[.int i]/\Q (.bl (decide (0<=i) && decide (i<1200))) H
theorem iB:Av ["thing"] ["thing"] (Ag fL):=Bl
include N T in
theorem Ym:Aq P w K mg base Be 2 aD.fMy aD.dMy ["thing"] Yw:=by
 have GWh:Aq P w K mg base Be 1 aD.fWh aD.dWh ["thing"] QC:=V0 N T
 refine N.FMy.1.ok iB (fun vs H Q E h=>?_) (fun cdv A outer s H vs Q E hr h=>?_)
 ·obtain ⟨i,rfl,_⟩:=h
  rfl
 ·obtain ⟨i,rfl,q⟩:=h
  have hrWh:BR 1 _:=hr.mono (by decide)
  obtain ⟨tMB,hMB⟩:=T.below
  refine ⟨_,(Ah (Aw (Dw (Ai GWh hrWh rfl N.FWh.2.2 N.FWh.1.kp N.FWh.2.1 .nil Ao (Aa (pv 0) Ac)) (Ds (Hq Er GX Ab (pv 0) (Dh (v:=.int 1200) rfl hMB ⟨tMB,rfl⟩)))))),?_⟩
  refine ⟨_,rfl,i,rfl,_,rfl,Cv ?_⟩
  refine ⟨_,rfl,_,_,rfl,rfl,_,rfl,?_⟩
  refine Dr (fun h1=>?_) (fun h1=>?_)
  ·rw [h1,Bool.true_and] at q
   exact ⟨_,_,rfl,rfl,q⟩
  ·rw [(Bool.not_eq_true _).mp h1,Bool.false_and] at q
   exact q
noncomputable def X5:Sp:=fun vs H Q _=>∃ (p:Addr) (l:List Nat),vs=[.ref p]/\H p=some (.lst (nV l))/\l.length<=500/\(∀ n∈l,n<1200)/\∀ H',An H H'->Q (.int (Wd.mk l:Nat)) H'
theorem WQ (l:List Nat) (n:Nat):Builtin.bitOr ((Wd.mk l:Nat):Int) (1 * 2 ^ ((n:Nat):Int).toNat)=((Wd.mk (l++[n]):Nat):Int):=by
 rw [Int.one_mul,Int.toNat_natCast,Gz,K5,Wd.VJ]
theorem U9:Av ["numbers","some","number"] ["numbers"] (Ag dU):=Bl
include N T in
theorem WW:Aq P w K mg base Be 3 aD.fSt aD.dSt ["numbers"] X5:=by
 have GMy:Aq P w K mg base Be 2 aD.fMy aD.dMy ["thing"] Yw:=Ym N T
 refine N.FSt.1.ok U9 (fun vs H Q E h=>?_) (fun cdv A outer s H vs Q E hr h=>?_)
 ·obtain ⟨p,l,rfl,_⟩:=h
  rfl
 ·obtain ⟨p,l,rfl,hp,hz,hb,q⟩:=h
  have hrMy:BR 2 _:=hr.mono (by decide)
  refine ⟨_,(Ae (Br (PW.pt (Dm (CJ (CV (BL CK rfl T.isin PyProof.Rows.boot_isinstance (Aa (pv 0) (Aa (DQ (v:=.ty "list") rfl T.list PyProof.Rows.boot_list rfl) Ac))))) (Eb (CJ (CV (BL (J8 rfl) rfl T.all PyProof.Rows.boot_all (Aa (Bs rfl (Ba (osc:=Ag dU) (N:=["numbers","some","number"]) rfl rfl (by decide +kernel)) (Bh (pv 0)) (fun _ _ _ _=>CZ) (fun _ _ _ _=>(Ai GMy hrMy rfl N.FMy.2.2 N.FMy.1.kp N.FMy.2.1 .nil Ao (Aa (pv 0) Ac)))) Ac))))))) (Ah Gy) Bb)
   (Ae (Az (i:=1) U9.nd rfl (Or.inl rfl) Ab)
   (Ae (DN PassesOwn.never rfl (Bh (pv 0)) (Bd (i:=2) U9.nd rfl (Or.inl rfl)) (Ah (Az (i:=1) U9.nd rfl (Or.inl rfl) (Ar Ph (pv 1) (Ar Ol Ab (pv 2))))))
   (Ah (Aw (pv 1)))))),?_⟩
  have hS:CP K H p (nV l):=.inl (.inl hp)
  refine ⟨_,rfl,_,"list",_,_,rfl,.lst hp,Pn,_,rfl,Bo ?_⟩
  have hzl:(nV l).length<sizeLine:=BJ (by simp; omega)
  refine ⟨_,rfl,p,rfl,⟨_,hS⟩,Cp (K:=K) (xs:=nV l) (fun _=>true) (fun _=>.bl true) hS hzl (fun x hx H' hs R k=>k H' (An.refl H')) (fun x hx _ H' hs R k=>?_) (fun D H' hD hs hl=>?_)⟩
  ·obtain ⟨n,hn,rfl⟩:=List.mem_map.mp hx
   refine ⟨_,rfl,(n:Int),rfl,?_⟩
   have e:(decide ((0:Int)<=(n:Int)) && decide ((n:Int)<1200))=true:=by
    have:=hb n hn
    simp
    omega
   rw [e]
   exact k H' (An.refl H')
  ·refine ⟨D,(nV l).map fun _=>true,rfl,.inl (.inl ?_),?_⟩
   ·rw [hl,List.filter_eq_self.mpr (fun _ _=>rfl)]
    simp
   ·have e:((nV l).map fun _=>true).all id=true:=by simp
    rw [e]
    refine ⟨_,rfl,Bo ?_⟩
    refine ⟨_,rfl,p,rfl,⟨_,hs.seq hS⟩,Dl (K:=K) (a:=p) (xs:=nV l) (fun i σ H4=>H4=H'/\∃ v2,σ=[some (.ref p),some (.int (Wd.mk (l.take i):Nat)),v2]) ⟨rfl,_,rfl⟩ (fun i σ H4 _ h=>by rw [h.1]; exact hs.seq hS) ?_ ?_⟩
    ·rintro i y σ H4 hi ⟨rfl,v2,rfl⟩
     rw [List.getElem?_map] at hi
     obtain ⟨n,hn,rfl⟩:=Option.map_eq_some_iff.mp hi
     have hn':=hb n (List.mem_of_getElem? hn)
     refine ⟨_,rfl,_,rfl,_,_,rfl,rfl,⟨by omega,by omega,by decide⟩,_,_,rfl,rfl,?_⟩
     refine ⟨rfl,some (.int (n:Int)),?_⟩
     dsimp only
     rw [WQ,List.take_add_one,hn]
     rfl
    ·rintro σ H4 ⟨rfl,v2,rfl⟩
     have el:l.take (nV l).length=l:=List.take_of_length_le (by simp)
     rw [el]
     exact ⟨_,rfl,q _ hs⟩
noncomputable def Oi:Sp:=fun vs H Q _=>∃ (n:Nat) (i:Int),vs=[.int n,.int i]/\Q (.bl (decide (0<=i) && n.testBit i.toNat)) H
theorem Ob (n:Nat) (i:Int):decide (V.int (Builtin.bitAnd ((n:Int) / 2 ^ i.toNat) 1)=V.int 1)=n.testBit i.toNat:=by
 rw [Gz,show (1:Int)=((1:Nat):Int) from rfl,← Int.natCast_ediv,Mm,Bool.eq_iff_iff]
 rw [Nat.testBit_eq_decide_div_mod_eq,Nat.and_one_is_mod]
 simp only [decide_eq_true_eq,V.int.injEq]
 exact Int.ofNat_inj
theorem fB:Av ["some","number"] ["some","number"] (Ag iy):=Bl
include N T in
theorem Ku:Aq P w K mg base Be 1 aD.fHa aD.dHa ["some","number"] Oi:=by
 refine N.FHa.1.ok fB (fun vs H Q E h=>?_) (fun cdv A outer s H vs Q E hr h=>?_)
 ·obtain ⟨n,i,rfl,_⟩:=h
  rfl
 ·obtain ⟨n,i,rfl,q⟩:=h
  refine ⟨_,(Ah (Aw (Dw (Hq Er GX Ab (pv 1) (Te PySem.F.plainAttrs_int PySem.F.slot_int_bit_length PySem.F.type_int_bit_length Mr (pv 0))) (Ds (Dq Du (Ar LQ (Ar Iz (pv 0) (pv 1)) Ab) Ab (Bc _)))))),?_⟩
  refine ⟨_,rfl,_,_,rfl,rfl,_,rfl,?_⟩
  refine Dr (fun h1=>?_) (fun h1=>?_)
  ·have hi:0<=i:=of_decide_eq_true h1
   refine ⟨_,rfl,rfl,(n:Int),rfl,rfl,_,_,rfl,rfl,_,rfl,?_⟩
   rw [Iu]
   refine Dr (fun h2=>?_) (fun h2=>?_)
   ·refine ⟨_,rfl,_,rfl,_,_,rfl,rfl,hi,_,_,rfl,rfl,rfl,?_⟩
    dsimp only
    rw [Ob]
    rw [h1,Bool.true_and] at q
    exact q
   ·have e:n.testBit i.toNat=false:=by
     cases hb:n.testBit i.toNat with
     | false=>rfl
     | true =>
      have:=Wd.RW hb
      exact absurd (decide_eq_true (by omega:i<(Wd.len n:Int))) h2
    rw [e,Bool.and_false] at q
    exact q
  ·rw [(Bool.not_eq_true _).mp h1,Bool.false_and] at q
   exact ⟨_,rfl,Bo q⟩
noncomputable def Xx:Sp:=fun vs H Q _=>∃ n:Nat,vs=[.int n]/\n<2 ^ 1200/\∀ p H',H p=none->An H H'->H' p=some (.lst (nV (Wd.mem n)))->Q (.ref p) H'
theorem TQ (n:Nat):((((List.range (Wd.len n)).map fun (i:Nat)=>(0:Int)+(i:Int)).filter fun i=>decide (0<=i) && n.testBit i.toNat).map fun i=>V.int i)=nV (Wd.mem n):=by
 unfold Wd.mem
 rw [List.filter_map,List.map_map]
 have e:((fun i:Int=>decide (0<=i) && n.testBit i.toNat) ∘ fun (i:Nat)=>(0:Int)+(i:Int))=n.testBit:=by
  funext i
  show (decide (0<=(0:Int)+(i:Int)) && n.testBit ((0:Int)+(i:Int)).toNat)=n.testBit i
  have h1:(0:Int)<=0+(i:Int):=by omega
  have h2:((0:Int)+(i:Int)).toNat=i:=by omega
  rw [decide_eq_true h1,h2,Bool.true_and]
 rw [e]
 refine List.map_congr_left fun i _=>?_
 show V.int ((0:Int)+(i:Int))=V.int (i:Int)
 rw [Int.zero_add]
theorem fO:Av ["some"] ["some"] (Ag dJ):=Bl
include N T in
theorem V7:Aq P w K mg base Be 2 aD.fMe aD.dMe ["some"] Xx:=by
 have GHa:Aq P w K mg base Be 1 aD.fHa aD.dHa ["some","number"] Oi:=Ku N T
 refine N.FMe.1.ok fO (fun vs H Q E h=>?_) (fun cdv A outer s H vs Q E hr h=>?_)
 ·obtain ⟨n,rfl,_⟩:=h
  rfl
 ·obtain ⟨n,rfl,hn,q⟩:=h
  have hrHa:BR 1 _:=hr.mono (by decide)
  refine ⟨_,(Ah (Aw (Bs rfl (Ba (osc:=Ag dJ) (N:=["some"]) rfl rfl (by decide +kernel)) (Cm rfl T.range (Aa (Te PySem.F.plainAttrs_int PySem.F.slot_int_bit_length PySem.F.type_int_bit_length Mr (pv 0)) Ac)) (fun _ _ _ _=>(Gk (CV (Ai GHa hrHa rfl N.FHa.2.2 N.FHa.1.kp N.FHa.2.1 .nil Ao (Aa (pv 1) (Aa (pv 0) Ac)))))) (fun _ _ _ _=>(pv 0))))),?_⟩
  have hlen:Wd.len n<=1200:=Wd.Lb hn
  refine ⟨_,rfl,rfl,(n:Int),rfl,rfl,?_⟩
  rw [Iu]
  refine ⟨_,rfl,by omega,by omega,?_⟩
  rw [Int.toNat_natCast]
  refine Dv (lo:=0) (n:=Wd.len n) (fun i=>decide (0<=i) && n.testBit i.toNat) (fun i=>.int i) (Nat.lt_of_le_of_lt hlen (by decide)) (fun i hi H' hs R k=>?_) (fun i hi _ H' hs R k=>⟨_,rfl,k H' (An.refl H')⟩) (fun D H' hD hs hl=>?_)
  ·exact ⟨_,rfl,_,rfl,n,_,rfl,_,rfl,k H' (An.refl H')⟩
  ·rw [TQ] at hl
   exact q D H' hD hs hl
noncomputable def Uz:Sp:=fun vs H Q _=>∃ (n:Nat) (k:Int) (c:Nat),vs=[.int n,.int k,.int c]/\n<2 ^ 1200 /\ -1200<=k/\k<=1200/\c<=1200/\Q (.int (Wd.mv n k c:Nat)) H
theorem PN (m c:Nat):Builtin.bitAnd (m:Int) (1 * 2 ^ ((if (0:Int) > (c:Int) then (0:Int) else (c:Int))).toNat - 1)=((m % 2 ^ c:Nat):Int):=by
 have h:¬ (0:Int) > (c:Int):=by omega
 rw [if_neg h,Int.one_mul,Int.toNat_natCast,Gz]
 have hp:1<=2 ^ c:=Nat.one_le_two_pow
 have e:((2 ^ c:Nat):Int) - 1=((2 ^ c - 1:Nat):Int):=by omega
 rw [e,Mm,Nat.and_two_pow_sub_one_eq_mod]
theorem ZW:Av ["some","steps","count","moved"] ["some","steps","count"] (Ag jF):=Bl
include N T in
theorem Rw:Aq P w K mg base Be 1 aD.fSh aD.dSh ["some","steps","count"] Uz:=by
 refine N.FSh.1.ok ZW (fun vs H Q E h=>?_) (fun cdv A outer s H vs Q E hr h=>?_)
 ·obtain ⟨n,k,c,rfl,_⟩:=h
  rfl
 ·obtain ⟨n,k,c,rfl,hn,k1,k2,hc,q⟩:=h
  refine ⟨_,(Ae (Az (i:=3) ZW.nd rfl (Or.inl rfl) (Jj (BW WX (pv 1) Ab (Bc _)) (Ar Ut (pv 0) (pv 1)) (Ar Iz (pv 0) (G5 FP (pv 1)))))
   (Ah (Aw (Ar LQ (pv 3) (Ar Dy (Ar Ol Ab (BL (Q8 rfl) rfl T.max PyProof.Rows.boot_max (Aa (pv 2) (Aa Ab Ac)))) Ab))))),?_⟩
  have hlen:Wd.len n<=1200:=Wd.Lb hn
  have p1:(2:Int) ^ 27=134217728:=by decide
  refine ⟨_,rfl,_,_,rfl,rfl,_,rfl,?_⟩
  refine Dr (fun h1=>?_) (fun h1=>?_)
  ·have hk:0<k:=of_decide_eq_true h1
   refine ⟨_,rfl,_,rfl,_,_,rfl,rfl,⟨by omega,by rw [Iu,p1]; omega⟩,?_⟩
   refine ⟨_,rfl,_,rfl,_,_,rfl,⟨_,_,rfl,rfl,⟨by split <;> omega,by split <;> omega,by decide⟩,_,_,rfl,rfl,_,_,rfl,rfl,?_⟩⟩
   dsimp only
   have e:((n:Int) * 2 ^ k.toNat)=((n * 2 ^ k.toNat:Nat):Int):=by rw [Gz]; simp
   rw [e,PN]
   unfold Wd.mv at q
   rw [if_pos hk] at q
   exact q
  ·have hk:¬ 0<k:=fun z=>h1 (decide_eq_true z)
   refine ⟨_,rfl,_,rfl,_,rfl,_,_,rfl,rfl,by omega,?_⟩
   refine ⟨_,rfl,_,rfl,_,_,rfl,⟨_,_,rfl,rfl,⟨by split <;> omega,by split <;> omega,by decide⟩,_,_,rfl,rfl,_,_,rfl,rfl,?_⟩⟩
   dsimp only
   have e:((n:Int) / 2 ^ (-k).toNat)=((n / 2 ^ (-k).toNat:Nat):Int):=by rw [Gz]; simp
   rw [e,PN]
   unfold Wd.mv at q
   rw [if_neg hk] at q
   exact q
noncomputable def Z6 (C:Addr):Sp:=fun vs H Q _=>∃ (x:Addr) (bs:List (Str × Nat)) (ks:List R),vs=[.ref x]/\Di C H x bs ks/\∀ D ys H',H D=none->An H H'->H' D=some (.lst ys)->Paired (fun (r:R) y=>TupAt H' [.str r.w,.str r.nm] y) ks ys->Q (.ref D) H'
theorem gA:Av ["self"] ["self"] (Ag dN):=Bl
include N T in
theorem b8:Aq P w K mg base Be 1 aD.fOz aD.dOz ["self"] (Z6 C):=by
 refine N.FOz.1.ok gA (fun vs H Q E h=>?_) (fun cdv A outer s H vs Q E hr h=>?_)
 ·obtain ⟨x,bs,ks,rfl,_⟩:=h
  rfl
 ·obtain ⟨x,bs,ks,rfl,O,q⟩:=h
  refine ⟨_,(Ah (Aw (Bs rfl (Ba (osc:=Ag dN) (N:=["self"]) rfl rfl (by decide +kernel)) (Bh (Ck (pv 0) rfl)) (fun _ _ _ _=>CZ) (fun _ _ _ _=>(CQ (Aa (Am (Ak (K:=K) rfl) (pv 0) Ab (fun _ _=>rfl)) (Aa (Am (Ak (K:=K) rfl) (pv 0) Ab (fun _ _=>rfl)) Ac))))))),?_⟩
  obtain ⟨⟨dx,fs,bl,bn,kp,kr,bvs,pvs,uvs,kvs,h1,l1,l2,l3,l4,lm,h2,h3,h4,h5,h6,h7,h8,h9⟩,ob5,osz,onk⟩:=id O
  have hS:CP K H kr uvs:=.inl (.inl h8)
  have hul:=h9.length
  refine ⟨_,rfl,x,C,dx,_,_,rfl,h1,T.cl,T.n_knob_rows,l4,kr,rfl,⟨_,hS⟩,Jk (K:=K) (xs:=uvs) (fun _=>true) (fun v=>[.str (UG H v).w,.str (UG H v).nm]) hS (BJ (by omega)) (fun y hy H' hs R k=>k H' (An.refl H')) (fun y hy _ H' hs R k=>?_) (fun D H' ys hD hs hl hv=>?_)⟩
  ·obtain ⟨r,_,hr0⟩:=DX h9 hy
   have e:=N5 hr0
   rw [e] at k
   obtain ⟨T0,rfl,hT⟩:=hr0.mono hs
   exact ⟨_,rfl,T0,_,_,_,rfl,rfl,.inl (.inl hT),Af (j:=0) rfl,_,rfl,T0,_,_,_,rfl,rfl,.inl (.inl hT),Af (j:=1) rfl,by show 2<=sizeLine; decide,fun T6 hT6=>k _ _ (Ax hT6) ⟨T6,rfl,Aj⟩⟩
  ·rw [List.filter_eq_self.mpr (fun _ _=>rfl)] at hv
   have h:=Bx (F:=fun (r:R) y=>TupAt H' [.str r.w,.str r.nm] y) (UG H) hv
   rw [PK h9] at h
   exact q D ys H' hD hs hl h
noncomputable def Rb (C:Addr):Sp:=fun vs H Q _=>∃ (x:Addr) (bs:List (Str × Nat)) (ks:List R) (wd:Str) (D:Nat),vs=[.ref x,.int (D:Nat),.str wd]/\Di C H x bs ks/\∀ L (cl:List Nat) H',H L=none->An H H'->H' L=some (.lst (nV cl))->(∀ k,k∈cl ↔ ∃ r,ks[k]? = some r/\r.w=wd/\D.testBit k=true)->cl.length<=200->Q (.ref L) H'
theorem aO:Av ["organ","knobs","word","words"] ["organ","knobs","word"] (Ag bU):=Bl
include N T in
theorem Pr:Aq P w K mg base Be 2 aD.fDc aD.dDc ["organ","knobs","word"] (Rb C):=by
 have GOz:Aq P w K mg base Be 1 aD.fOz aD.dOz ["self"] (Z6 C):=b8 N T
 have GHa:Aq P w K mg base Be 1 aD.fHa aD.dHa ["some","number"] Oi:=Ku N T
 refine N.FDc.1.ok aO (fun vs H Q E h=>?_) (fun cdv A outer s H vs Q E hr h=>?_)
 ·obtain ⟨x,bs,ks,wd,D,rfl,_⟩:=h
  rfl
 ·obtain ⟨x,bs,ks,wd,D,rfl,O,q⟩:=h
  have hrOz:BR 1 _:=hr.mono (by decide)
  have hrHa:BR 1 _:=hr.mono (by decide)
  refine ⟨_,(Ae (Ho (i:=3) aO.nd rfl rfl rfl (Ba (osc:=Ag bU) (N:=["organ","knobs","word","words"]) rfl rfl (by decide +kernel)) (Bh (Em (pv 0) T.cl N.FOz.2.2 GOz hrOz N.FOz.2.1 .nil Ao)) (fun _ _ _ _=>CZ) (fun _ _ _ _=>(Am (Ak (K:=K) rfl) (pv 0) Ab (fun _ _=>rfl))))
   (Ah (Aw (O8 rfl (J1 (osc:=Ag bU) (N:=["organ","knobs","word","words"]) rfl rfl (by decide +kernel)) (Ia rfl T.enumerate (Aa (pv 3) Ac)) (fun _ _ _ _=>Gk (PW.pt (Im (BW Du (pv 1) (pv 4) (Bc _)) (Ht (CV (Ai GHa hrHa rfl N.FHa.2.2 N.FHa.1.kp N.FHa.2.1 .nil Ao (Aa (pv 3) (Aa (pv 0) Ac)))))))) (fun _ _ _ _=>(pv 0)))))),?_⟩
  obtain ⟨⟨dx,fs,bl,bn,kp,kr,bvs,pvs,uvs,kvs,h1,l1,l2,l3,l4,lm,h2,h3,h4,h5,h6,h7,h8,h9⟩,ob5,osz,onk⟩:=id O
  refine ⟨_,rfl,x,dx,fs,rfl,h1,lm _ (by decide +kernel),x,_,_,rfl,O,fun D1 ys H1 hD1 s1 hl1 hv1=>?_⟩
  have hS1:CP K H1 D1 ys:=.inl (.inl hl1)
  have hyl:=hv1.length
  refine ⟨D1,rfl,⟨_,hS1⟩,Cp (K:=K) (xs:=ys) (fun _=>true) (Jd H1 0) hS1 (BJ (by omega)) (fun y hy H' hs R k=>k H' (An.refl H')) (fun y hy _ H' hs R k=>?_) (fun D2 H2 hD2 s2 hl2=>?_)⟩
  ·obtain ⟨r,_,hr0⟩:=DX hv1 hy
   have e:=Gg hr0 0
   obtain ⟨T0,rfl,hT⟩:=hr0.mono hs
   have kk:=k H' (An.refl H')
   rw [e] at kk
   exact ⟨_,rfl,T0,_,_,_,rfl,rfl,.inl (.inl hT),Af (j:=0) rfl,kk⟩
  rw [List.filter_eq_self.mpr (fun _ _=>rfl),JV 0 hv1] at hl2
  have e2:(ks.map fun r=>([V.str r.w,V.str r.nm]:List V).getD 0 .non)=ks.map fun r=>V.str r.w:=rfl
  rw [e2] at hl2
  have hS2:CP K H2 D2 (ks.map fun r=>V.str r.w):=.inl (.inl hl2)
  refine ⟨_,rfl,D2,rfl,⟨_,hS2⟩,QR (K:=K) (xs:=ks.map fun r=>V.str r.w) (fun i v=>decide (v=.str wd) && D.testBit i) (fun i _=>.int (i:Nat)) hS2 (BJ (by rw [List.length_map]; omega)) (fun i v hv H' hs R k=>?_) (fun i v hv _ H' hs R k=>⟨_,rfl,k H' (An.refl H')⟩) (fun D3 H3 hD3 s3 hl3=>?_)⟩
  ·rw [List.getElem?_map] at hv
   obtain ⟨z,hz,rfl⟩:=Option.map_eq_some_iff.mp hv
   have kk:=k H' (An.refl H')
   refine ⟨_,rfl,_,rfl,rfl,_,rfl,?_⟩
   refine Dr (fun g=>?_) (fun g=>?_)
   ·rw [g,Bool.true_and] at kk
    refine ⟨_,rfl,_,rfl,D,_,rfl,_,rfl,?_⟩
    rw [decide_eq_true (by omega:(0:Int)<=(i:Nat)),Bool.true_and,Int.toNat_natCast]
    exact kk
   ·rw [(Bool.not_eq_true _).mp g,Bool.false_and] at kk
    exact kk
  ·refine q D3 (((ks.map fun r=>V.str r.w).zipIdx.filter fun p=>decide (p.1=V.str wd) && D.testBit p.2).map (·.2)) H3 ((s1.trans s2).free hD3) ((s1.trans s2).trans s3) ?_ (fun k=>?_) ?_
   ·rw [hl3]
    refine congrArg (fun l=>some (HO.lst l)) ?_
    unfold nV
    rw [List.map_map]
    rfl
   ·constructor
    ·intro hk
     obtain ⟨⟨v,k'⟩,hm,rfl⟩:=List.mem_map.mp hk
     obtain ⟨h1,h2⟩:=List.mem_filter.mp hm
     have h3:=List.mem_zipIdx' h1
     rw [List.getElem_map] at h3
     obtain ⟨hlt,h3⟩:=h3
     rw [Bool.and_eq_true] at h2
     have hlt':k'<ks.length:=by simpa using hlt
     refine ⟨ks[k'],List.getElem?_eq_getElem hlt',?_,h2.2⟩
     have:=h2.1
     rw [h3] at this
     exact V.str.inj (of_decide_eq_true this)
    ·rintro ⟨z,hz,hc,hd⟩
     refine List.mem_map.mpr ⟨(V.str z.w,k),List.mem_filter.mpr ⟨?_,?_⟩,rfl⟩
     ·rw [List.mem_zipIdx_iff_getElem?,List.getElem?_map,hz]
      rfl
     ·show (decide (V.str z.w=V.str wd) && D.testBit k)=true
      rw [hc,hd,decide_eq_true rfl]
      rfl
   ·rw [List.length_map]
    refine Nat.le_trans (List.length_filter_le _ _) ?_
    rw [List.length_zipIdx,List.length_map]
    omega
noncomputable def VG (C:Addr):Sp:=fun vs H Q _=>∃ (x:Addr) (bs:List (Str × Nat)) (ks:List R) (n:Nat),vs=[.ref x,.int (n:Nat)]/\Di C H x bs ks/\n<2 ^ 1200/\Q (.int (Wd.mv n 0 (bs.map (·.2)).sum:Nat)) H
theorem Ei {C:Addr} {H:Hp} {x:Addr} {bs:List (Str × Nat)} {ks:List R} (O:Di C H x bs ks):(bs.map (·.2)).sum<=305:=by
 have h:=K1 bs 61 O.sz
 rw [Fi] at h
 have:=O.nb
 have:bs.length * 61<=5 * 61:=Nat.mul_le_mul_right _ this
 omega
theorem iK:Av ["organ","held"] ["organ","held"] (Ag iu):=Bl
include N T in
theorem Ru:Aq P w K mg base Be 2 aD.fHk aD.dHk ["organ","held"] (VG C):=by
 have GSh:Aq P w K mg base Be 1 aD.fSh aD.dSh ["some","steps","count"] Uz:=Rw N T
 have GOc:Aq P w K mg base Be 1 aD.fOc aD.dOc ["self"] (X3 C):=Wf N T
 refine N.FHk.1.ok iK (fun vs H Q E h=>?_) (fun cdv A outer s H vs Q E hr h=>?_)
 ·obtain ⟨x,bs,ks,n,rfl,_⟩:=h
  rfl
 ·obtain ⟨x,bs,ks,n,rfl,O,hn,q⟩:=h
  have hrSh:BR 1 _:=hr.mono (by decide)
  have hrOc:BR 1 _:=hr.mono (by decide)
  refine ⟨_,(Ah (Aw (Ai GSh hrSh rfl N.FSh.2.2 N.FSh.1.kp N.FSh.2.1 .nil Ao (Aa (pv 1) (Aa Ab (Aa (Em (pv 0) T.cl N.FOc.2.2 GOc hrOc N.FOc.2.1 .nil Ao) Ac)))))),?_⟩
  obtain ⟨⟨dx,fs,bl,bn,kp,kr,bvs,pvs,uvs,kvs,h1,l1,l2,l3,l4,lm,_⟩,_⟩:=id O
  have h305:=Ei O
  refine ⟨_,rfl,_,rfl,x,dx,fs,rfl,h1,lm _ (by decide +kernel),x,bs,ks,rfl,O,n,0,(Ed bs).length,rfl,hn,by decide,by decide,by rw [Fi]; omega,?_⟩
  rw [Fi]
  exact q
theorem Lf {n:Nat} (h:n<=3000):n<sizeLine:=Nat.lt_of_le_of_lt h (by decide)
theorem Mq {i:Nat} {v:V} {σ:St} {H:Hp} {Q:St->Hp->Prop}:Dg i v σ H Q=Q (σ.set i (some v)) H:=rfl
theorem L_ {c:TT} {tb u:TS} {D:Ends} {r:VK} {b k:St->Hp->Prop} {σ:St} {H:Hp} (h:Lj c tb { D with nx:=u D } σ H):({ nx:=Vs (Lj c tb) u D,rt:=r,bk:=b,ct:=k }:Ends).nx σ H:=h
noncomputable def Ql:Option HO->Nat
 | some (.lst xs)=>xs.length
 | _=>0
noncomputable def Ws:Option HO->Nat
 | some (.dK kvs)=>kvs.length
 | _=>0
noncomputable abbrev kI (j:Nat):Key:=Sum.inl ((j:Nat):Int)
theorem La {kvs:List (Key × V)} {js:List Nat} (h:kvs.map (·.1)=js.map kI) (j:Nat):(Dt kvs (kI j)).isSome=decide (j∈js):=by
 rw [← GR]
 rw [Bool.eq_iff_iff,List.any_eq_true,decide_eq_true_eq]
 constructor
 ·rintro ⟨p,hp,e⟩
  have:p.1∈js.map kI:=by rw [← h]; exact List.mem_map_of_mem hp
  obtain ⟨j',hj',e'⟩:=List.mem_map.mp this
  have e2:kI j'=kI j:=e'.trans (of_decide_eq_true e)
  have:((j':Nat):Int)=(j:Nat):=Sum.inl.inj e2
  have:j'=j:=by omega
  subst this
  exact hj'
 ·intro hj
  have:kI j∈kvs.map (·.1):=by rw [h]; exact List.mem_map_of_mem hj
  obtain ⟨p,hp,e⟩:=List.mem_map.mp this
  exact ⟨p,hp,decide_eq_true e⟩
noncomputable def Ly (H:Hp) (bs:List (Str × Nat)) (kbs:List Kb) (D n:Nat) (kvs:List (Key × V)) (js:List Nat):Prop:=∀ (m j:Nat),js[m]? = some j->∃ (k i:Nat) (T:Addr) (z:Kb),Dt kvs (kI j)=some (.ref T)/\H T=some (.tup [V.int (k:Nat),V.int (i:Nat)])/\D.testBit k=true/\kbs[k]? = some z/\gl bs z i=some j/\(n.testBit i=true \/ i∈js.take m)
theorem Ly.kJ {H H':Hp} {bs:List (Str × Nat)} {kbs:List Kb} {D n:Nat} {kvs:List (Key × V)} {js:List Nat} (h:Ly H bs kbs D n kvs js) (hs:∀ T xs,H T=some (.tup xs)->H' T=some (.tup xs)):Ly H' bs kbs D n kvs js:=fun m j hm=>by
 obtain ⟨k,i,T,z,h1,h2,h3⟩:=h m j hm
 exact ⟨k,i,T,z,h1,hs _ _ h2,h3⟩
theorem Ly.mono {H H':Hp} {bs:List (Str × Nat)} {kbs:List Kb} {D n:Nat} {kvs:List (Key × V)} {js:List Nat} (h:Ly H bs kbs D n kvs js) (s:An H H'):Ly H' bs kbs D n kvs js:=h.kJ fun T xs e=>s _ _ e
theorem Ly.upd {H:Hp} {bs:List (Str × Nat)} {kbs:List Kb} {D n:Nat} {kvs:List (Key × V)} {js:List Nat} {A:Addr} {o u:HO} (h:Ly H bs kbs D n kvs js) (ha:H A=some u) (hu:∀ xs,u ≠ .tup xs):Ly (L2.upd H A o) bs kbs D n kvs js:=h.kJ fun T xs e=>by
 rw [BP (fun z=>by rw [z,ha] at e; exact hu xs (Option.some.inj e))]
 exact e
theorem Ly.snoc {H:Hp} {bs:List (Str × Nat)} {kbs:List Kb} {D n:Nat} {kvs:List (Key × V)} {js:List Nat} {k i0 j:Nat} {T:Addr} {z:Kb} (h:Ly H bs kbs D n kvs js) (nv:Dt kvs (kI j)=none) (hT:H T=some (.tup [V.int (k:Nat),V.int (i0:Nat)])) (hk:D.testBit k=true) (hz:kbs[k]? = some z) (hg:gl bs z i0=some j) (hi:n.testBit i0=true \/ i0∈js) :
  Ly H bs kbs D n (kvs++[(kI j,.ref T)]) (js++[j]):=fun m j' hm=>by
 by_cases hlt:m<js.length
 ·rw [List.getElem?_append_left hlt] at hm
  obtain ⟨k',i',T',z',h1,h2,h3,h4,h5,h6⟩:=h m j' hm
  refine ⟨k',i',T',z',?_,h2,h3,h4,h5,?_⟩
  ·rw [G_ _ _ _ _ nv]
   by_cases e:kI j'=kI j
   ·rw [e,nv] at h1
    cases h1
   ·rw [if_neg e]
    exact h1
  ·rw [List.take_append_of_le_length (Nat.le_of_lt hlt)]
   exact h6
 ·have hm':=(List.getElem?_eq_some_iff.mp hm).1
  rw [List.length_append,List.length_singleton] at hm'
  have em:m=js.length:=by omega
  subst em
  rw [List.getElem?_append_right (Nat.le_refl _),Nat.sub_self] at hm
  have ej:j=j':=by simpa using hm
  subst ej
  refine ⟨k,i0,T,z,?_,hT,hk,hz,hg,?_⟩
  ·rw [G_ _ _ _ _ nv,if_pos rfl]
  ·rw [List.take_append_of_le_length (Nat.le_refl _),List.take_length]
   exact hi
noncomputable def Xg (C:Addr):Sp:=fun vs H Q _=>∃ (x:Addr) (c:Nat->Str) (sz:List Nat) (kbs:List Kb) (D n:Nat),vs=[.ref x,.int (D:Nat),.int (n:Nat)]/\Di C H x (BZ c sz) (Bw c kbs)/\Lx sz.length kbs/\n<2 ^ 1200/\(∀ i,n.testBit i=true->i<sz.sum) /\
 ∀ W (kvs:List (Key × V)) (js:List Nat) H',H W=none->An H H'->H' W=some (.dK kvs)->kvs.map (·.1)=js.map kI->js.Nodup->Ly H' (BZ c sz) kbs D n kvs js->(∀ j,j∈js ↔ Lq (stp (BZ c sz) kbs D) (fun i=>n.testBit i=true) j)->Q (.ref W) H'
theorem Ng:Av ["organ","knobs","held","couplers","ways","left","ahead","knob","key"] ["organ","knobs","held"] (Ag gY):=Bl
include N T in
theorem Vw:Aq P w K mg base Be 4 aD.fWa aD.dWa ["organ","knobs","held"] (Xg C):=by
 have GDc:Aq P w K mg base Be 2 aD.fDc aD.dDc ["organ","knobs","word"] (Rb C):=Pr N T
 have GMe:Aq P w K mg base Be 2 aD.fMe aD.dMe ["some"] Xx:=V7 N T
 have GLe:Aq P w K mg base Be 3 aD.fLe aD.dLe ["organ","knob","key"] (ZS C):=bQ N T
 have GHa:Aq P w K mg base Be 1 aD.fHa aD.dHa ["some","number"] Oi:=Ku N T
 refine N.FWa.1.ok Ng (fun vs H Q E h=>?_) (fun cdv A outer s H vs Q E hr h=>?_)
 ·obtain ⟨x,c,sz,kbs,D,n,rfl,_⟩:=h
  rfl
 ·obtain ⟨x,c,sz,kbs,D,n,rfl,O,hkb,hn,hnt,q⟩:=h
  have hrDc:BR 2 _:=hr.mono (by decide)
  have hrMe:BR 2 _:=hr.mono (by decide)
  have hrLe:BR 3 _:=hr.mono (by decide)
  have hrHa:BR 1 _:=hr.mono (by decide)
  have hu:=Fl hr
  refine ⟨_,(Ae (Az (i:=3) Ng.nd rfl (Or.inl rfl) (Ai GDc hrDc rfl N.FDc.2.2 N.FDc.1.kp N.FDc.2.1 .nil Ao (Aa (pv 0) (Aa (pv 1) (Aa Bt Ac)))))
   (Ae (Az (i:=4) Ng.nd rfl (Or.inl rfl) MN)
   (Ae (Az (i:=5) Ng.nd rfl (Or.inl rfl) (Ai GMe hrMe rfl N.FMe.2.2 N.FMe.1.kp N.FMe.2.1 .nil Ao (Aa (pv 2) Ac)))
   (Ae (Jv PassesOwn.never (Jz (pv 5) (fun _=>rfl)) (Ae (Az (i:=6) Ng.nd rfl (Or.inl rfl) (En PySem.F.plainAttrs_list PySem.F.slot_list_pop PySem.F.type_list_pop RQ (pv 5) (Aa Ab Ac)))
   (Ah (DN PassesOwn.never rfl (Bh (pv 3)) (Bd (i:=7) Ng.nd rfl (Or.inl rfl)) (Ae (Az (i:=8) Ng.nd rfl (Or.inl rfl) (Ai GLe hrLe rfl N.FLe.2.2 N.FLe.1.kp N.FLe.2.1 .nil Ao (Aa (pv 0) (Aa (pv 7) (Aa (pv 6) Ac)))))
   (Ah (Br (PW.pt (Im (BW Lr (pv 8) Ge (Bc _)) (Ht (N8 (QJ hu (pv 8) (pv 4)))))) (Ae (PB hu (pv 4) (pv 8) (CQ (Aa (pv 7) (Aa (pv 6) Ac))) rfl)
   (Ah (Br (CJ (CV (Ai GHa hrHa rfl N.FHa.2.2 N.FHa.1.kp N.FHa.2.1 .nil Ao (Aa (pv 2) (Aa (pv 8) Ac))))) (Ah (C_ (En PySem.F.plainAttrs_list PySem.F.slot_list_append PySem.F.type_list_append CG (pv 5) (Aa (pv 8) Ac)))) Bb))) Bb)))))))
   (Ah (Aw (pv 4))))))),?_⟩
  have hsum:((BZ c sz).map (·.2)).sum=sz.sum:=by rw [B_]
  generalize hst:stp (BZ c sz) kbs D=st
  have hR:∀ {j},Lq st (fun i=>n.testBit i=true) j->j<sz.sum:=fun {j} r=>by
   rw [← hst] at r
   have:=r.lt
   rw [hsum] at this
   exact this
  refine ⟨_,rfl,_,rfl,x,BZ c sz,Bw c kbs,"coupler",D,rfl,O,fun CL cl H1 hCL s1 hl1 hcl0 hcll=>?_⟩
  have hcl:∀ k,k∈cl ↔ ∃ z,kbs[k]? = some z/\Wn z=true/\D.testBit k=true:=fun k=>by
   rw [hcl0]
   constructor
   ·rintro ⟨r,hr,hw,hd⟩
    obtain ⟨z,hz,rfl⟩:=Do hr
    rw [Gb] at hw
    exact ⟨z,hz,decide_eq_true (congrArg V.str hw),hd⟩
   ·rintro ⟨z,hz,hc,hd⟩
    exact ⟨_,De hz,(Gb _ _ _).trans (V.str.inj (of_decide_eq_true hc)),hd⟩
  intro W hW
  obtain ⟨H2,eqH,t2,u2⟩:=JC (o:=HO.dK []) hW
  rw [eqH]
  refine ⟨_,rfl,n,rfl,hn,fun L H3 hL s3 hl3=>?_⟩
  have s13:=t2.trans s3
  have s03:=s1.trans s13
  have hW0:H W=none:=s1.free hW
  have hL0:H L=none:=(s1.trans t2).free hL
  have hWL:W ≠ L:=fun z=>by rw [← z,s3 _ _ u2] at hl3; cases hl3
  have c3:=s13 _ _ hl1
  have hS3:CP K H3 CL (nV cl):=.inl (.inl c3)
  have hCW:CL ≠ W:=fun z=>by rw [z,s3 _ _ u2] at c3; cases c3
  have hCL':CL ≠ L:=fun z=>by rw [z] at hl1; rw [t2 _ _ hl1] at hL; cases hL
  show Dg 5 _ _ _ _
  rw [Mq]
  refine L_ ?_
  refine Jt (fun σ H4=>An H H4/\H4 CL=some (.lst (nV cl))/\∃ (kvs:List (Key × V)) (js ls:List Nat),H4 W=some (.dK kvs)/\H4 L=some (.lst (nV ls))/\kvs.map (·.1)=js.map kI/\js.Nodup/\Ly H4 (BZ c sz) kbs D n kvs js/\(∀ j∈js,Lq st (fun i=>n.testBit i=true) j)/\(∀ i∈ls,n.testBit i=true \/ i∈js)/\(∀ i,(n.testBit i=true \/ i∈js)->i∈ls \/ ∀ j,st i j->j∈js)/\ls.length+(sz.sum - js.length)<=1600/\∃ v6 v7 v8,σ=[some (.ref x),some (.int (D:Nat)),some (.int (n:Nat)),some (.ref CL),some (.ref W),some (.ref L),v6,v7,v8])
   (fun _ H4=>Ql (H4 L)+(sz.sum - Ws (H4 W))) ⟨s03,c3,[],[],Wd.mem n,s3 _ _ u2,hl3,rfl,List.nodup_nil,(fun m j hm=>by simp at hm),(fun j hj=>nomatch hj),(fun i hi=>.inl (Wd.mem_iff.mp hi)),(fun i hi=>.inl (Wd.mem_iff.mpr (hi.resolve_right (by simp)))),?_,_,_,_,rfl⟩ ?_ ?_
  ·have:=Wd.Lb hn
   have:(Wd.mem n).length<=Wd.len n:=by unfold Wd.mem; exact Nat.le_trans (List.length_filter_le _ _) (by simp)
   have h305:=Ei O
   rw [hsum] at h305
   simp
   omega
  ·rintro σ H4 ⟨s4,c4,kvs,js,ls,hw,hl,hkv,nd,hpar,hj,hls,hcl4,hbig,v6,v7,v8,rfl⟩
   refine ⟨_,rfl,_,.inl ⟨_,.inl (.inl hl),rfl⟩,?_⟩
   have hjl:js.length<=sz.sum:=Dp sz.sum nd fun j h=>hR (hj j h)
   have hkl:kvs.length=js.length:=by have:=congrArg List.length hkv; simpa using this
   cases ls with
   | nil =>
    refine Bo ?_
    refine ⟨_,rfl,q W kvs js H4 hW0 s4 hw hkv nd hpar fun j=>?_⟩
    rw [hst]
    exact Lq.all (W:=fun j=>j∈js) hj (fun i hi=>(hcl4 i hi).resolve_left (by simp)) j
   | cons i0 ls =>
    refine Cv ?_
    refine ⟨_,rfl,.inl ⟨rfl,_,.inl (.inl hl)⟩,L,_,0,0,.int (i0:Nat),rfl,rfl,hl,by decide,by decide,seqIndex_of (by decide) (by simp),rfl,?_⟩
    have w5:upd H4 L (.lst ((nV (i0::ls)).eraseIdx 0)) W=some (.dK kvs):=by rw [BP hWL]; exact hw
    have l5:upd H4 L (.lst ((nV (i0::ls)).eraseIdx 0)) L=some (.lst (nV ls)):=Aj
    have c5:upd H4 L (.lst ((nV (i0::ls)).eraseIdx 0)) CL=some (.lst (nV cl)):=by rw [BP hCL']; exact c4
    have s5:An H (upd H4 L (.lst ((nV (i0::ls)).eraseIdx 0))):=fun b o e=>by rw [BP (A_ e hL0)]; exact s4 _ _ e
    have em:Ql (H4 L)+(sz.sum - Ws (H4 W))=ls.length+1+(sz.sum - js.length):=by
     rw [hl,hw]
     show (nV (i0::ls)).length+(sz.sum - kvs.length)=_
     rw [hkl]
     simp
    rw [em]
    have par5:Ly (upd H4 L (.lst ((nV (i0::ls)).eraseIdx 0))) (BZ c sz) kbs D n kvs js:=hpar.upd hl (fun xs z=>by cases z)
    generalize upd H4 L (.lst ((nV (i0::ls)).eraseIdx 0))=H5 at w5 l5 c5 s5 par5 ⊢
    have hi0:i0<sz.sum:=by
     rcases hls i0 (List.mem_cons_self ..) with h | h
     ·exact hnt i0 h
     ·exact hR (hj i0 h)
    have hi0R:∀ j,st i0 j->Lq st (fun i=>n.testBit i=true) j:=fun j h=>by
     rcases hls i0 (List.mem_cons_self ..) with g | g
     ·exact .one g h
     ·exact .more (hj i0 g) h
    obtain ⟨qd,hq⟩:∃ qd,(Ed (BZ c sz))[i0]? = some qd:=⟨_,List.getElem?_eq_getElem (by rw [Fi,hsum]; exact hi0)⟩
    have M:ls.length+(sz.sum - js.length)<ls.length+1+(sz.sum - js.length):=by omega
    refine ⟨_,rfl,CL,rfl,⟨_,.inl (.inl c5)⟩,Dl (K:=K) (a:=CL) (xs:=nV cl) (fun m σ H6=>An H H6/\H6 CL=some (.lst (nV cl))/\∃ (kvs6:List (Key × V)) (js6 ls6:List Nat),H6 W=some (.dK kvs6)/\H6 L=some (.lst (nV ls6))/\kvs6.map (·.1)=js6.map kI/\js6.Nodup/\Ly H6 (BZ c sz) kbs D n kvs6 js6/\(∀ j∈js6,Lq st (fun i=>n.testBit i=true) j)/\(∀ i∈ls6,n.testBit i=true \/ i∈js6)/\(∀ i,(n.testBit i=true \/ i∈js6)->i=i0 \/ i∈ls6 \/ ∀ j,st i j->j∈js6)/\(∀ k∈cl.take m,∀ z j,kbs[k]? = some z->gl (BZ c sz) z i0=some j->j∈js6)/\(n.testBit i0=true \/ i0∈js6)/\ls6.length+(sz.sum - js6.length)<=ls.length+(sz.sum - js.length)/\∃ v7 v8,σ=[some (.ref x),some (.int (D:Nat)),some (.int (n:Nat)),some (.ref CL),some (.ref W),some (.ref L),some (.int (i0:Nat)),v7,v8])
     ⟨s5,c5,kvs,js,ls,w5,l5,hkv,nd,par5,hj,(fun i hi=>hls i (List.mem_cons_of_mem _ hi)),(fun i hi=>?_),(fun k hk=>by simp at hk),hls i0 (List.mem_cons_self ..),Nat.le_refl _,_,_,rfl⟩ (fun m σ H6 _ h=>.inl (.inl h.2.1)) ?_ ?_⟩
    ·rcases hcl4 i hi with h | h
     ·rcases List.mem_cons.mp h with rfl | h
      ·exact .inl rfl
      ·exact .inr (.inl h)
     ·exact .inr (.inr h)
    ·rintro m y σ H6 hm ⟨s6,c6,kvs6,js6,ls6,w6,l6,kv6,nd6,par6,hj6,hls6,hcl6,hdone,hi06,hmeas,v7,v8,rfl⟩
     rw [List.getElem?_map] at hm
     obtain ⟨k,hk,rfl⟩:=Option.map_eq_some_iff.mp hm
     obtain ⟨z,hz,hzc,hzd⟩:=(hcl k).mp (List.mem_of_getElem? hk)
     have zok:=hkb.ok z (List.mem_of_getElem? hz)
     obtain ⟨j1,j2,s0,rfl⟩:=Pj zok hzc
     obtain ⟨hj1,hj2,_,_⟩:=zok
     have hbj1:(BZ c sz)[j1]? = some (c j1,sz[j1]):=Ci (List.getElem?_eq_getElem hj1)
     have hbj2:(BZ c sz)[j2]? = some (c j2,sz[j2]):=Ci (List.getElem?_eq_getElem hj2)
     have hkrow:(Bw c kbs)[k]? = some ⟨"coupler",c (30+k),[.str (c j1),.str (c j2),.int s0]⟩:=De hz
     have hjl6:js6.length<=sz.sum:=Dp sz.sum nd6 fun j h=>hR (hj6 j h)
     have hkl6:kvs6.length=js6.length:=by have:=congrArg List.length kv6; simpa using this
     have h305:=Ei O
     rw [hsum] at h305
     refine ⟨_,rfl,_,rfl,_,rfl,x,BZ c sz,Bw c kbs,k,i0,j1,j2,(c j1,sz[j1]),(c j2,sz[j2]),qd,c (30+k),s0,rfl,O.mono s6,hq,hkrow,hbj1,hbj2,fun H7 s7=>?_⟩
     have done':∀ {js':List Nat},(∀ j∈js6,j∈js')->(∀ j,gl (BZ c sz) (.cp j1 j2 s0) i0=some j->j∈js')->∀ k'∈cl.take (m+1),∀ z j,kbs[k']? = some z->gl (BZ c sz) z i0=some j->j∈js':=fun {js'} hsub hnew k' hk' z' j hz' hg=>by
      rw [List.take_add_one,hk] at hk'
      rcases List.mem_append.mp hk' with h | h
      ·exact hsub j (hdone k' h z' j hz' hg)
      ·have:k'=k:=by simpa using h
       subst this
       rw [hz] at hz'
       cases hz'
       exact hnew j hg
     rcases Od (j1:=j1) (s:=s0) hq hbj2 with ⟨e,eg⟩ | ⟨j,e,eg,hjt⟩
     ·rw [e]
      refine ⟨_,rfl,rfl,_,rfl,Bo (Bo ?_)⟩
      exact ⟨s6.trans s7,s7 _ _ c6,kvs6,js6,ls6,s7 _ _ w6,s7 _ _ l6,kv6,nd6,par6.mono s7,hj6,hls6,hcl6,done' (fun j h=>h) (fun j h=>by rw [eg] at h; cases h),hi06,hmeas,_,_,rfl⟩
     ·rw [e]
      have hstj:st i0 j:=by rw [← hst]; exact ⟨k,_,hzd,hz,eg⟩
      refine ⟨_,rfl,rfl,_,rfl,Cv ?_⟩
      refine ⟨_,rfl,_,rfl,W,_,rfl,Fv.k (k:=kI j) (s7 _ _ w6),_,rfl,?_⟩
      rw [La kv6 j]
      by_cases hin:j∈js6
      ·rw [decide_eq_true hin]
       refine Bo ?_
       exact ⟨s6.trans s7,s7 _ _ c6,kvs6,js6,ls6,s7 _ _ w6,s7 _ _ l6,kv6,nd6,par6.mono s7,hj6,hls6,hcl6,done' (fun j h=>h) (fun j' h=>by rw [eg] at h; cases h; exact hin),hi06,hmeas,_,_,rfl⟩
      ·rw [decide_eq_false hin]
       refine Cv ?_
       have nv:Dt kvs6 (kI j)=none:=by
        have:=La kv6 j
        rw [decide_eq_false hin] at this
        exact Option.not_isSome_iff_eq_none.mp (by rw [this]; decide)
       have nd7:(js6++[j]).Nodup:=List.nodup_append.mpr ⟨nd6,by simp,fun a ha b hb=>by rw [List.mem_singleton.mp hb]; intro z; exact hin (z ▸ ha)⟩
       have hj7:∀ j'∈js6++[j],Lq st (fun i=>n.testBit i=true) j':=fun j' h=>by
        rcases List.mem_append.mp h with h | h
        ·exact hj6 j' h
        ·rw [List.mem_singleton.mp h]
         exact hi0R j hstj
       have hjl7:(js6++[j]).length<=sz.sum:=Dp sz.sum nd7 fun j h=>hR (hj7 j h)
       rw [List.length_append,List.length_singleton] at hjl7
       refine ⟨_,rfl,_,rfl,by show 2<=sizeLine; decide,fun T8 hT8=>?_⟩
       obtain ⟨H8,eqH,t8,uT8⟩:=JC (o:=HO.tup [V.int (k:Nat),V.int (i0:Nat)]) hT8
       rw [eqH]
       have w8:=t8 _ _ (s7 _ _ w6)
       refine ⟨_,rfl,_,rfl,W,_,rfl,QF.k (k:=kI j) w8 (BJ (by omega)),?_⟩
       have u9:upd H8 W (.dK (putK kvs6 (kI j) (.ref T8))) W=some (.dK (kvs6++[(kI j,.ref T8)])):=by rw [← TX _ nv]; exact Aj
       have l9:upd H8 W (.dK (putK kvs6 (kI j) (.ref T8))) L=some (.lst (nV ls6)):=by rw [BP hWL.symm]; exact t8 _ _ (s7 _ _ l6)
       have c9:upd H8 W (.dK (putK kvs6 (kI j) (.ref T8))) CL=some (.lst (nV cl)):=by rw [BP hCW]; exact t8 _ _ (s7 _ _ c6)
       have s9:An H (upd H8 W (.dK (putK kvs6 (kI j) (.ref T8)))):=fun b o e=>by rw [BP (A_ e hW0)]; exact t8 _ _ (s7 _ _ (s6 _ _ e))
       have par9:Ly (upd H8 W (.dK (putK kvs6 (kI j) (.ref T8)))) (BZ c sz) kbs D n (kvs6++[(kI j,.ref T8)]) (js6++[j]):=by
        have p8:=((par6.mono s7).mono t8).upd (o:=.dK (putK kvs6 (kI j) (.ref T8))) w8 (fun xs z=>by cases z)
        exact p8.snoc nv (by rw [BP (fun z=>by rw [z,w8] at uT8; cases uT8)]; exact uT8) hzd hz eg hi06
       generalize upd H8 W (.dK (putK kvs6 (kI j) (.ref T8)))=H9 at u9 l9 c9 s9 par9 ⊢
       have kv9:(kvs6++[(kI j,V.ref T8)]).map (·.1)=(js6++[j]).map kI:=by rw [List.map_append,List.map_append,kv6]; rfl
       refine ⟨_,rfl,_,rfl,n,_,rfl,_,rfl,?_⟩
       have eb:(decide ((0:Int)<=(j:Nat)) && n.testBit ((j:Nat):Int).toNat)=n.testBit j:=by rw [decide_eq_true (by omega),Bool.true_and,Int.toNat_natCast]
       rw [eb]
       cases hb:n.testBit j with
       | true =>
        refine Bo ?_
        refine ⟨s9,c9,_,js6++[j],ls6,u9,l9,kv9,nd7,par9,hj7,(fun i h=>(hls6 i h).imp id (List.mem_append_left _)),(fun i h=>?_),done' (fun j h=>List.mem_append_left _ h) (fun j' h=>by rw [eg] at h; cases h; simp),hi06.imp id (List.mem_append_left _),?_,_,_,rfl⟩
        ·have h':n.testBit i=true \/ i∈js6:=by
          rcases h with h | h
          ·exact .inl h
          ·rcases List.mem_append.mp h with h | h
           ·exact .inr h
           ·rw [List.mem_singleton.mp h]
            exact .inl hb
         rcases hcl6 i h' with g | g | g
         ·exact .inl g
         ·exact .inr (.inl g)
         ·exact .inr (.inr fun j' hj'=>List.mem_append_left _ (g j' hj'))
        ·rw [List.length_append,List.length_singleton]
         omega
       | false =>
        refine Cv ?_
        refine ⟨_,rfl,.inl ⟨rfl,_,.inl (.inl l9)⟩,_,rfl,L,_,_,rfl,rfl,l9,Lf (by simp only [List.length_cons] at hbig; rw [List.length_map]; omega),?_⟩
        have l10:upd H9 L (.lst (nV ls6++[V.int (j:Nat)])) L=some (.lst (nV (ls6++[j]))):=by
         have e9:nV (ls6++[j])=nV ls6++[V.int (j:Nat)]:=List.map_append
         rw [e9]
         exact Aj
        have w10:upd H9 L (.lst (nV ls6++[V.int (j:Nat)])) W=some (.dK (kvs6++[(kI j,.ref T8)])):=by rw [BP hWL]; exact u9
        have c10:upd H9 L (.lst (nV ls6++[V.int (j:Nat)])) CL=some (.lst (nV cl)):=by rw [BP hCL']; exact c9
        have s10:An H (upd H9 L (.lst (nV ls6++[V.int (j:Nat)]))):=fun b o e=>by rw [BP (A_ e hL0)]; exact s9 _ _ e
        refine ⟨s10,c10,_,js6++[j],ls6++[j],w10,l10,kv9,nd7,par9.upd l9 (fun xs z=>by cases z),hj7,(fun i h=>?_),(fun i h=>?_),done' (fun j h=>List.mem_append_left _ h) (fun j' h=>by rw [eg] at h; cases h; simp),hi06.imp id (List.mem_append_left _),?_,_,_,rfl⟩
        ·rcases List.mem_append.mp h with h | h
         ·exact (hls6 i h).imp id (List.mem_append_left _)
         ·exact .inr (List.mem_append_right _ h)
        ·have h':(n.testBit i=true \/ i∈js6) \/ i=j:=by
          rcases h with h | h
          ·exact .inl (.inl h)
          ·rcases List.mem_append.mp h with h | h
           ·exact .inl (.inr h)
           ·exact .inr (List.mem_singleton.mp h)
         rcases h' with h' | rfl
         ·rcases hcl6 i h' with g | g | g
          ·exact .inl g
          ·exact .inr (.inl (List.mem_append_left _ g))
          ·exact .inr (.inr fun j' hj'=>List.mem_append_left _ (g j' hj'))
         ·exact .inr (.inl (by simp))
        ·rw [List.length_append,List.length_append,List.length_singleton]
         omega
    ·rintro σ H6 ⟨s6,c6,kvs6,js6,ls6,w6,l6,kv6,nd6,par6,hj6,hls6,hcl6,hdone,hi06,hmeas,v7,v8,rfl⟩
     have hkl6:kvs6.length=js6.length:=by have:=congrArg List.length kv6; simpa using this
     refine ⟨⟨s6,c6,kvs6,js6,ls6,w6,l6,kv6,nd6,par6,hj6,hls6,(fun i hi=>?_),by simp only [List.length_cons] at hbig; omega,_,_,_,rfl⟩,?_⟩
     ·rcases hcl6 i hi with rfl | g | g
      ·refine .inr fun j hij=>?_
       rw [← hst] at hij
       obtain ⟨k,z,hkd,hkz,hg⟩:=hij
       refine hdone k ?_ z j hkz hg
       rw [List.take_of_length_le (by simp)]
       exact (hcl k).mpr ⟨z,hkz,WD hg,hkd⟩
      ·exact .inl g
      ·exact .inr g
     ·show Ql (H6 L)+(sz.sum - Ws (H6 W))<_
      rw [l6,w6]
      show (nV ls6).length+(sz.sum - kvs6.length)<_
      rw [List.length_map,hkl6]
      omega
  ·rintro σ H' Q1 Q2 hm ⟨v,hv,k,hk,h⟩
   exact ⟨v,hv,k,hk,hm _ _ h⟩
noncomputable def bC (C:Addr):Sp:=fun vs H Q _=>∃ (x:Addr) (c:Nat->Str) (sz:List Nat) (kbs:List Kb) (D n:Nat),vs=[.ref x,.int (D:Nat),.int (n:Nat)]/\Di C H x (BZ c sz) (Bw c kbs)/\Lx sz.length kbs/\n<2 ^ 1200/\(∀ i,n.testBit i=true->i<sz.sum) /\
 ∀ (m:Nat) H',An H H'->(∀ j,m.testBit j=true ↔ Lq (stp (BZ c sz) kbs D) (fun i=>n.testBit i=true) j)->Q (.int (m:Nat)) H'
theorem LK {n T:Nat} (h:∀ i,n.testBit i=true->i<T):Wd.mv n 0 T=n:=by
 refine K6 fun i=>?_
 rw [Wd.Jf]
 simp
 intro hi
 exact h i hi
theorem jo:Av ["organ","knobs","held"] ["organ","knobs","held"] (Ag ig):=Bl
include N T in
theorem ZQ:Aq P w K mg base Be 5 aD.fCq aD.dCq ["organ","knobs","held"] (bC C):=by
 have GSt:Aq P w K mg base Be 3 aD.fSt aD.dSt ["numbers"] X5:=WW N T
 have GWa:Aq P w K mg base Be 4 aD.fWa aD.dWa ["organ","knobs","held"] (Xg C):=Vw N T
 have GHk:Aq P w K mg base Be 2 aD.fHk aD.dHk ["organ","held"] (VG C):=Ru N T
 refine N.FCq.1.ok jo (fun vs H Q E h=>?_) (fun cdv A outer s H vs Q E hr h=>?_)
 ·obtain ⟨x,c,sz,kbs,D,n,rfl,_⟩:=h
  rfl
 ·obtain ⟨x,c,sz,kbs,D,n,rfl,O,hkb,hn,hnt,q⟩:=h
  have hrSt:BR 3 _:=hr.mono (by decide)
  have hrWa:BR 4 _:=hr.mono (by decide)
  have hrHk:BR 2 _:=hr.mono (by decide)
  refine ⟨_,(Ah (Aw (Ai GSt hrSt rfl N.FSt.2.2 N.FSt.1.kp N.FSt.2.1 .nil Ao (Aa (Dz (Jq rfl) rfl T.list PyProof.Rows.boot_list (Aa (Ai GWa hrWa rfl N.FWa.2.2 N.FWa.1.kp N.FWa.2.1 .nil Ao (Aa (pv 0) (Aa (pv 1) (Aa (Ai GHk hrHk rfl N.FHk.2.2 N.FHk.1.kp N.FHk.2.1 .nil Ao (Aa (pv 0) (Aa (pv 2) Ac))) Ac)))) Ac)) Ac)))),?_⟩
  have hsum:((BZ c sz).map (·.2)).sum=sz.sum:=by rw [B_]
  have h305:=Ei O
  rw [hsum] at h305
  refine ⟨_,rfl,_,rfl,_,rfl,_,rfl,x,BZ c sz,Bw c kbs,n,rfl,O,hn,?_⟩
  rw [hsum,LK hnt]
  refine ⟨x,c,sz,kbs,D,n,rfl,O,hkb,hn,hnt,fun W kvs js H1 hW s1 hw hkv nd _ hj=>?_⟩
  have hlt:∀ j∈js,j<sz.sum:=fun j h=>by
   have:=((hj j).mp h).lt
   rw [hsum] at this
   exact this
  have hjl:=Dp sz.sum nd hlt
  have hkv':kvs.map (·.1)=(js.map fun j:Nat=>(j:Int)).map Sum.inl:=by rw [hkv,List.map_map]; rfl
  refine ⟨W,kvs,_,rfl,hw,hkv',fun l hl=>?_⟩
  have ev:(js.map fun j:Nat=>(j:Int)).map V.int=nV js:=by rw [List.map_map]; rfl
  rw [ev]
  refine ⟨l,js,rfl,Aj,by omega,fun j h=>by have:=hlt j h; omega,fun H2 s2=>?_⟩
  refine q (Wd.mk js) H2 ((s1.trans (Ax hl)).trans s2) fun j=>?_
  rw [Wd.JK,decide_eq_true_eq]
  exact hj j
noncomputable def cV:Sp:=fun vs H Q _=>∃ (p:Addr) (l:List Nat),vs=[.ref p]/\H p=some (.lst (nV l))/\l.length<=500/\(∀ n∈l,n<1200)/\Q (.int (Wd.mk l:Nat)) H
theorem Vl:Av ["_law_numbers","_law_found","_law_number"] ["_law_numbers"] (Ag gR):=Bl
include N T in
theorem Y4:Aq P w K mg base Be 1 aD.fBi aD.dBi ["_law_numbers"] cV:=by
 refine N.FBi.1.ok Vl (fun vs H Q E h=>?_) (fun cdv A outer s H vs Q E hr h=>?_)
 ·obtain ⟨p,l,rfl,_⟩:=h
  rfl
 ·obtain ⟨p,l,rfl,hp,hz,hb,q⟩:=h
  refine ⟨_,(Ae (Az (i:=1) Vl.nd rfl (Or.inl rfl) Ab)
   (Ae (DN PassesOwn.never rfl (Bh (pv 0)) (Bd (i:=2) Vl.nd rfl (Or.inl rfl)) (Ah (Az (i:=1) Vl.nd rfl (Or.inl rfl) (Ar Ph (pv 1) (Ar Ol Ab (pv 2))))))
   (Ah (Aw (pv 1))))),?_⟩
  have hS:CP K H p (nV l):=.inl (.inl hp)
  refine ⟨_,rfl,p,rfl,⟨_,hS⟩,Dl (K:=K) (a:=p) (xs:=nV l) (fun i σ H4=>H4=H/\∃ v2,σ=[some (.ref p),some (.int (Wd.mk (l.take i):Nat)),v2]) ⟨rfl,_,rfl⟩ (fun i σ H4 _ h=>by rw [h.1]; exact hS) ?_ ?_⟩
  ·rintro i y σ H4 hi ⟨rfl,v2,rfl⟩
   rw [List.getElem?_map] at hi
   obtain ⟨n,hn,rfl⟩:=Option.map_eq_some_iff.mp hi
   have hn':=hb n (List.mem_of_getElem? hn)
   refine ⟨_,rfl,_,rfl,_,_,rfl,rfl,⟨by omega,by omega,by decide⟩,_,_,rfl,rfl,?_⟩
   refine ⟨rfl,some (.int (n:Int)),?_⟩
   dsimp only
   rw [WQ,List.take_add_one,hn]
   rfl
  ·rintro σ H4 ⟨rfl,v2,rfl⟩
   have el:l.take (nV l).length=l:=List.take_of_length_le (by simp)
   rw [el]
   exact ⟨_,rfl,q⟩
theorem HY {X:Cx} {K:PySem.W.Frag} (h:X.K=K):Gp X (compareOp .NotIn) (dC K true):=h ▸ Ez
theorem Rf (l:List Nat):(nV l).all HW=true:=List.all_eq_true.mpr fun v hv=>by
 obtain ⟨n,_,rfl⟩:=List.mem_map.mp hv
 rfl
theorem Gn (j:Nat) (js:List Nat):inV (.int (j:Nat)) (nV js)=decide (j∈js):=by
 rw [Bool.eq_iff_iff,decide_eq_true_eq]
 unfold inV
 rw [List.any_eq_true]
 constructor
 ·rintro ⟨y,hy,e⟩
  obtain ⟨n,hn,rfl⟩:=List.mem_map.mp hy
  have e':(((n:Nat):Int) == ((j:Nat):Int))=true:=e
  have e2:((n:Nat):Int)=(j:Nat):=eq_of_beq e'
  have:n=j:=by omega
  subst this
  exact hn
 ·intro h
  exact ⟨_,List.mem_map_of_mem h,by show (((j:Nat):Int) == ((j:Nat):Int))=true; exact beq_self_eq_true _⟩
theorem ji:Av ["self","knob"] ["self","knob"] (Ag h_):=Bl
include N T in
theorem Yn:Aq P w K mg base Be 2 aD.fOm aD.dOm ["self","knob"] (Ou C):=by
 have GBk:Aq P w K mg base Be 1 aD.fBk aD.dBk ["self","knob"] (Ou C):=Pk N T
 refine N.FOm.1.ok ji (fun vs H Q E h=>?_) (fun cdv A outer s H vs Q E hr h=>?_)
 ·obtain ⟨x,bs,ks,k,j1,b1,wd,nm,rs,rfl,_⟩:=h
  rfl
 ·obtain ⟨x,bs,ks,k,j1,b1,wd,nm,rs,rfl,O,hk,hb1,q⟩:=h
  have hrBk:BR 1 _:=hr.mono (by decide)
  refine ⟨_,(Ah (Aw (Cz (pv 0) T.cl N.FBk.2.2 GBk hrBk N.FBk.2.1 .nil Ao (Aa (pv 1) Ac)))),?_⟩
  obtain ⟨⟨dx,fs,bl,bn,kp,kr,bvs,pvs,uvs,kvs,h1,l1,l2,l3,l4,lm,h2,h3,h4,h5,h6,h7,h8,h9⟩,ob5,osz,onk⟩:=id O
  exact ⟨_,rfl,x,dx,fs,rfl,h1,lm _ (by decide +kernel),_,rfl,x,bs,ks,k,j1,b1,wd,nm,rs,rfl,O,hk,hb1,q⟩
noncomputable def Uc (C:Addr):Sp:=fun vs H Q _=>∃ (x:Addr) (bs:List (Str × Nat)) (rk:List (Str × Nat × Int)) (ks:List R) (ls:List (List Ln)) (k j1:Nat) (b1:Str × Nat) (wd nm:Str) (rs:List V) (l:List Ln),vs=[.ref x,.int (k:Nat)]/\Cw C H x bs rk ks ls/\ks[k]? = some ⟨wd,nm,.str b1.1::rs⟩/\bs[j1]? = some b1/\ls[k]? = some l /\
 ∀ (T0 L0:Addr) (ts:List V) H',H L0=none->An H H'->H' T0=some (.tup [.int (j1:Nat),.ref L0])->H' L0=some (.lst ts)->Paired (fun x y=>TupAt H' (RG x) y) l ts->Q (.ref T0) H'
theorem fX:Av ["self","knob"] ["self","knob"] (Ag fu):=Bl
include N T in
theorem RV:Aq P w K mg base Be 2 aD.fOs aD.dOs ["self","knob"] (Uc C):=by
 have GBk:Aq P w K mg base Be 1 aD.fBk aD.dBk ["self","knob"] (Ou C):=Pk N T
 refine N.FOs.1.ok fX (fun vs H Q E h=>?_) (fun cdv A outer s H vs Q E hr h=>?_)
 ·obtain ⟨x,bs,rk,ks,ls,k,j1,b1,wd,nm,rs,l,rfl,_⟩:=h
  rfl
 ·obtain ⟨x,bs,rk,ks,ls,k,j1,b1,wd,nm,rs,l,rfl,O,hk,hb1,hl,q⟩:=h
  have hrBk:BR 1 _:=hr.mono (by decide)
  refine ⟨_,(Ah (Aw (CQ (Aa (Cz (pv 0) T.cl N.FBk.2.2 GBk hrBk N.FBk.2.1 .nil Ao (Aa (pv 1) Ac)) (Aa (Dz Ew rfl T.list PyProof.Rows.boot_list (Aa (Am (BV (K:=K) rfl) (Ck (pv 0) rfl) (pv 1) (fun _ _=>rfl)) Ac)) Ac))))),?_⟩
  obtain ⟨⟨dx,fs,bl,bn,kp,kr,bvs,pvs,uvs,kvs,h1,l1,l2,l3,l4,lm,h2,h3,h4,h5,h6,h7,h8,h9⟩,ob5,osz,onk⟩:=id O.o
  obtain ⟨dx',fs',rl,rn,pp,kl,rvs,qvs,kvs',g1,m1,m2,m3,m4,g2,g3,g4,g5,g6,g7,lv,g8,g9⟩:=id O.r
  obtain ⟨e1,e2⟩:dx'=dx/\fs'=fs:=by rw [h1] at g1; cases g1; exact ⟨rfl,rfl⟩
  subst e1 e2
  obtain ⟨y,hy,A,ts,rfl,hA,htp⟩:=Bq g9 hl
  refine ⟨_,rfl,x,_,_,rfl,h1,lm _ (by decide +kernel),_,rfl,x,bs,ks,k,j1,b1,wd,nm,rs,rfl,O.o,hk,hb1,?_⟩
  refine ⟨_,rfl,x,C,_,_,_,rfl,h1,T.cl,T.n_knob_lines,m4,_,rfl,kl,lv,_,_,rfl,rfl,.inl (.inl g8),Af hy,A,ts,rfl,.inl (.inl (.inl hA)),fun L0 hL0=>?_⟩
  obtain ⟨H1,eqH,t1,u1⟩:=JC (o:=HO.lst ts) hL0
  rw [eqH]
  refine ⟨by show 2<=sizeLine; decide,fun T0 hT0=>?_⟩
  have t2:=Ax (o:=HO.tup [.int (j1:Nat),.ref L0]) hT0
  exact q T0 L0 ts _ hL0 (t1.trans t2) Aj (t2 _ _ u1) (Al (t1.trans t2) htp)
noncomputable def cY (C:Addr):Sp:=fun vs H Q _=>∃ (x:Addr) (bs:List (Str × Nat)) (rk:List (Str × Nat × Int)) (ks:List R) (ls:List (List Ln)),vs=[.ref x]/\Cw C H x bs rk ks ls/\∀ D rvs H',H D=none->An H H'->H' D=some (.lst rvs)->Paired (fun (a:Th) y=>TupAt H' (tV a) y) (rk.map Rg) rvs->Q (.ref D) H'
theorem fP:Av ["self"] ["self"] (Ag gM):=Bl
include N T in
theorem Z1:Aq P w K mg base Be 1 aD.fOr aD.dOr ["self"] (cY C):=by
 refine N.FOr.1.ok fP (fun vs H Q E h=>?_) (fun cdv A outer s H vs Q E hr h=>?_)
 ·obtain ⟨x,bs,rk,ks,ls,rfl,_⟩:=h
  rfl
 ·obtain ⟨x,bs,rk,ks,ls,rfl,O,q⟩:=h
  refine ⟨_,(Ah (Aw (Dz Ew rfl T.list PyProof.Rows.boot_list (Aa (Ck (pv 0) rfl) Ac)))),?_⟩
  obtain ⟨⟨dx,fs,bl,bn,kp,kr,bvs,pvs,uvs,kvs,h1,l1,l2,l3,l4,lm,h2,h3,h4,h5,h6,h7,h8,h9⟩,ob5,osz,onk⟩:=id O.o
  obtain ⟨dx',fs',rl,rn,pp,kl,rvs,qvs,kvs',g1,m1,m2,m3,m4,g2,g3,g4,g5,g6,g7,lv,g8,g9⟩:=id O.r
  obtain ⟨e1,e2⟩:dx'=dx/\fs'=fs:=by rw [h1] at g1; cases g1; exact ⟨rfl,rfl⟩
  subst e1 e2
  exact ⟨_,rfl,x,C,_,_,_,rfl,h1,T.cl,T.n_rank_list,m1,rl,rvs,rfl,.inl (.inl (.inl g2)),fun l hl=>q l rvs _ hl (Ax hl) Aj (Al (Ax hl) g3)⟩
noncomputable def bj (C:Addr):Sp:=fun vs H Q _=>∃ (x:Addr) (bs:List (Str × Nat)) (rk:List (Str × Nat × Int)) (ks:List R) (ls:List (List Ln)),vs=[.ref x]/\Cw C H x bs rk ks ls/\Q (.int ((Ed (rk.map QZ)).length:Nat)) H
theorem jL:Av ["self"] ["self"] (Ag jh):=Bl
include N T in
theorem Yb:Aq P w K mg base Be 1 aD.fOq aD.dOq ["self"] (bj C):=by
 refine N.FOq.1.ok jL (fun vs H Q E h=>?_) (fun cdv A outer s H vs Q E hr h=>?_)
 ·obtain ⟨x,bs,rk,ks,ls,rfl,_⟩:=h
  rfl
 ·obtain ⟨x,bs,rk,ks,ls,rfl,O,q⟩:=h
  refine ⟨_,(Ah (Aw (BL BX rfl T.len PySem.boot_len (Aa (Ck (pv 0) rfl) Ac)))),?_⟩
  obtain ⟨⟨dx,fs,bl,bn,kp,kr,bvs,pvs,uvs,kvs,h1,l1,l2,l3,l4,lm,h2,h3,h4,h5,h6,h7,h8,h9⟩,ob5,osz,onk⟩:=id O.o
  obtain ⟨dx',fs',rl,rn,pp,kl,rvs,qvs,kvs',g1,m1,m2,m3,m4,g2,g3,g4,g5,g6,g7,lv,g8,g9⟩:=id O.r
  obtain ⟨e1,e2⟩:dx'=dx/\fs'=fs:=by rw [h1] at g1; cases g1; exact ⟨rfl,rfl⟩
  subst e1 e2
  refine ⟨_,rfl,x,C,_,_,_,rfl,h1,T.cl,T.n_pipe_places,m3,pp,qvs,rfl,.inl (.inl (.inl g6)),?_⟩
  rw [← g7.length]
  exact q
noncomputable def bG (C:Addr):Sp:=fun vs H Q _=>∃ (x:Addr) (bs:List (Str × Nat)) (rk:List (Str × Nat × Int)) (ks:List R) (ls:List (List Ln)) (j:Nat) (r:Str × Nat × Int) (n:Int),vs=[.ref x,.str r.1,.int n]/\Cw C H x bs rk ks ls/\rk[j]? = some r/\∀ H',An H H'->Q (.int ((((rk.take j).map (fun r=>r.2.1)).sum:Nat)+n)) H'
theorem jE:Av ["self","rank","number"] ["self","rank","number"] (Ag iC):=Bl
include N T in
theorem bz:Aq P w K mg base Be 2 aD.fOe aD.dOe ["self","rank","number"] (bG C):=by
 have GCa:Aq P w K mg base Be 1 aD.fCa aD.dCa ["things"] XJ:=We N T
 refine N.FOe.1.ok jE (fun vs H Q E h=>?_) (fun cdv A outer s H vs Q E hr h=>?_)
 ·obtain ⟨x,bs,rk,ks,ls,j,r,n,rfl,_⟩:=h
  rfl
 ·obtain ⟨x,bs,rk,ks,ls,j,r,n,rfl,O,hb,q⟩:=h
  have hrCa:BR 1 _:=hr.mono (by decide)
  have hu:=Fl hr
  refine ⟨_,(Ah (Aw (Ar Bm (Ai GCa hrCa rfl N.FCa.2.2 N.FCa.1.kp N.FCa.2.1 .nil Ao (Aa (Dd Ey (Ck (pv 0) rfl) Ec (Ca (Ej hu (Ck (pv 0) rfl) (pv 1) (fun _ _=>rfl)))) Ac)) (pv 2)))),?_⟩
  obtain ⟨⟨dx,fs,bl,bn,kp,kr,bvs,pvs,uvs,kvs,h1,l1,l2,l3,l4,lm,h2,h3,h4,h5,h6,h7,h8,h9⟩,ob5,osz,onk⟩:=id O.o
  obtain ⟨dx',fs',rl,rn,pp,kl,rvs,qvs,kvs',g1,m1,m2,m3,m4,g2,g3,g4,g5,g6,g7,lv,g8,g9⟩:=id O.r
  obtain ⟨e1,e2⟩:dx'=dx/\fs'=fs:=by rw [h1] at g1; cases g1; exact ⟨rfl,rfl⟩
  subst e1 e2
  have hj:j<rk.length:=(List.getElem?_eq_some_iff.mp hb).1
  have hl:=g3.length
  rw [List.length_map] at hl
  have g:=Fv.k (k:=Sum.inr r.1) g4
  rw [g5 j r hb] at g
  refine ⟨_,rfl,x,C,_,_,_,rfl,h1,T.cl,T.n_rank_list,m1,_,rfl,x,C,_,_,_,rfl,h1,T.cl,T.n_rank_numbers,m2,_,rfl,rn,_,rfl,g,_,rfl,rl,rvs,rfl,.inl (.inl g2),fun p6 hp6=>?_⟩
  have s6:=Ax (o:=HO.lst (Cy rvs none (some (j:Int)))) hp6
  have a6:upd H p6 (HO.lst (Cy rvs none (some (j:Int)))) p6=_:=Aj
  generalize upd H p6 (HO.lst (Cy rvs none (some (j:Int))))=H6 at s6 a6 ⊢
  rw [G7 rvs j (by omega)] at a6
  refine ⟨p6,(rk.map Rg).take j,rvs.take j,rfl,a6,JN (Al s6 g3) j,(by rw [List.length_take,List.length_map]; have:=O.nr; omega),(fun a ha=>by obtain ⟨r',hr',rfl⟩:=List.mem_map.mp (List.mem_of_mem_take ha); exact Nat.le_trans (O.nz r' hr') (by decide)),fun H7 s7=>?_⟩
  have e7:(((rk.map Rg).take j).map fun a=>a.2.1)=(rk.take j).map (fun r=>r.2.1):=by
   rw [← List.map_take,List.map_map]
   rfl
  rw [e7]
  exact ⟨_,rfl,_,_,rfl,rfl,q H7 (s6.trans s7)⟩
noncomputable def T4 (l:List Nat):Nat:=l.foldl (· ||| ·) 0
theorem M7 (l:List Nat) (n:Nat):T4 (l++[n])=T4 l ||| n:=by
 unfold T4
 rw [List.foldl_append]
 rfl
theorem LC:∀ (l:List Nat) (i:Nat),(T4 l).testBit i=true ↔ ∃ n∈l,n.testBit i=true:=by
 have key:∀ (k:Nat) (l:List Nat) (i:Nat),l.length=k->((T4 l).testBit i=true ↔ ∃ n∈l,n.testBit i=true):=by
  intro k
  induction k with
  | zero =>
   intro l i h
   cases l with
   | nil=>exact ⟨fun z=>absurd z (by unfold T4; rw [List.foldl_nil,Nat.zero_testBit]; decide),fun ⟨n,hn,_⟩=>nomatch hn⟩
   | cons a b=>cases h
  | succ k ih =>
   intro l i h
   obtain ⟨a,z,rfl⟩:=Ep (l:=l) (by intro e; rw [e] at h; cases h)
   rw [List.length_append,List.length_singleton] at h
   rw [M7,Rz,ih a i (by omega)]
   constructor
   ·rintro (⟨n,hn,hb⟩ | hb)
    ·exact ⟨n,List.mem_append_left _ hn,hb⟩
    ·exact ⟨z,by simp,hb⟩
   ·rintro ⟨n,hn,hb⟩
    rcases List.mem_append.mp hn with h | h
    ·exact .inl ⟨n,h,hb⟩
    ·rw [List.mem_singleton.mp h] at hb
     exact .inr hb
 exact fun l i=>key l.length l i rfl
noncomputable def Xo:Sp:=fun vs H Q _=>∃ (p:Addr) (l:List Nat),vs=[.ref p]/\H p=some (.lst (nV l))/\l.length<=500/\Q (.int (T4 l:Nat)) H
theorem VP:Av ["sets","some","each"] ["sets"] (Ag gW):=Bl
include N T in
theorem WN:Aq P w K mg base Be 1 aD.fUn aD.dUn ["sets"] Xo:=by
 refine N.FUn.1.ok VP (fun vs H Q E h=>?_) (fun cdv A outer s H vs Q E hr h=>?_)
 ·obtain ⟨p,l,rfl,_⟩:=h
  rfl
 ·obtain ⟨p,l,rfl,hp,hz,q⟩:=h
  refine ⟨_,(Ae (Az (i:=1) VP.nd rfl (Or.inl rfl) Ab)
   (Ae (DN PassesOwn.never rfl (Bh (pv 0)) (Bd (i:=2) VP.nd rfl (Or.inl rfl)) (Ah (Az (i:=1) VP.nd rfl (Or.inl rfl) (Ar Ph (pv 1) (pv 2)))))
   (Ah (Aw (pv 1))))),?_⟩
  have hS:CP K H p (nV l):=.inl (.inl hp)
  refine ⟨_,rfl,p,rfl,⟨_,hS⟩,Dl (K:=K) (a:=p) (xs:=nV l) (fun i σ H4=>H4=H/\∃ v2,σ=[some (.ref p),some (.int (T4 (l.take i):Nat)),v2]) ⟨rfl,_,rfl⟩ (fun i σ H4 _ h=>by rw [h.1]; exact hS) ?_ ?_⟩
  ·rintro i y σ H4 hi ⟨rfl,v2,rfl⟩
   rw [List.getElem?_map] at hi
   obtain ⟨n,hn,rfl⟩:=Option.map_eq_some_iff.mp hi
   refine ⟨_,rfl,_,rfl,_,_,rfl,rfl,?_⟩
   refine ⟨rfl,some (.int (n:Int)),?_⟩
   dsimp only
   rw [K5,List.take_add_one,hn]
   show _=[some (V.ref p),some (V.int ((T4 (l.take i++[n]):Nat):Int)),_]
   rw [M7]
   rfl
  ·rintro σ H4 ⟨rfl,v2,rfl⟩
   have el:l.take (nV l).length=l:=List.take_of_length_le (by simp)
   rw [el]
   exact ⟨_,rfl,q⟩
noncomputable def DW (kbs:List Kb) (k:Nat):Nat:=match kbs[k]? with
 | some (.pl _ b)=>b
 | some (.cp b _ _)=>b
 | none=>0
theorem Ig {c:Nat->Str} {kbs:List Kb} {k:Nat} {r:R} (h:(Bw c kbs)[k]? = some r):∃ rs,r=⟨r.w,r.nm,.str (c (DW kbs k))::rs⟩:=by
 obtain ⟨z,hz,rfl⟩:=Do h
 unfold DW
 rw [hz]
 cases z with
 | cp i j s=>exact ⟨_,rfl⟩
 | pl w i=>exact ⟨_,rfl⟩
theorem Il {n:Nat} {kbs:List Kb} {k:Nat} {z:Kb} (h:Lx n kbs) (hz:kbs[k]? = some z):DW kbs k<n:=by
 have ho:=h.ok z (List.mem_of_getElem? hz)
 unfold DW
 rw [hz]
 cases z with
 | cp i j s=>exact ho.1
 | pl w i=>exact ho.1
noncomputable def Kq (kbs:List Kb) (D b:Nat):Prop:=∃ (k:Nat) (z:Kb),kbs[k]? = some z/\z.w = "mute" /\ D.testBit k=true/\DW kbs k=b
noncomputable def Xy (C:Addr):Sp:=fun vs H Q _=>∃ (x:Addr) (c:Nat->Str) (sz:List Nat) (kbs:List Kb) (D:Nat),vs=[.ref x,.int (D:Nat)]/\Di C H x (BZ c sz) (Bw c kbs)/\Lx sz.length kbs/\∀ L (ml:List Nat) H',H L=none->An H H'->H' L=some (.lst (nV ml))->(∀ b,b∈ml ↔ Kq kbs D b)->ml.length<=200->Q (.ref L) H'
theorem iT:Av ["organ","knobs"] ["organ","knobs"] (Ag eN):=Bl
include N T in
theorem Wi:Aq P w K mg base Be 3 aD.fMu aD.dMu ["organ","knobs"] (Xy C):=by
 have GDc:Aq P w K mg base Be 2 aD.fDc aD.dDc ["organ","knobs","word"] (Rb C):=Pr N T
 have GOm:Aq P w K mg base Be 2 aD.fOm aD.dOm ["self","knob"] (Ou C):=Yn N T
 refine N.FMu.1.ok iT (fun vs H Q E h=>?_) (fun cdv A outer s H vs Q E hr h=>?_)
 ·obtain ⟨x,c,sz,kbs,D,rfl,_⟩:=h
  rfl
 ·obtain ⟨x,c,sz,kbs,D,rfl,O,hkb,q⟩:=h
  have hrDc:BR 2 _:=hr.mono (by decide)
  have hrOm:BR 2 _:=hr.mono (by decide)
  refine ⟨_,(Ah (Aw (Bs rfl (Ba (osc:=Ag eN) (N:=["organ","knobs"]) rfl rfl (by decide +kernel)) (Bh (Ai GDc hrDc rfl N.FDc.2.2 N.FDc.1.kp N.FDc.2.1 .nil Ao (Aa (pv 0) (Aa (pv 1) (Aa Bt Ac))))) (fun _ _ _ _=>CZ) (fun _ _ _ _=>(Cz (pv 1) T.cl N.FOm.2.2 GOm hrOm N.FOm.2.1 .nil Ao (Aa (pv 0) Ac)))))),?_⟩
  refine ⟨_,rfl,_,rfl,x,BZ c sz,Bw c kbs,"mute",D,rfl,O,fun CL cl H1 hCL s1 hl1 hcl hcll=>?_⟩
  have hS1:CP K H1 CL (nV cl):=.inl (.inl hl1)
  have O1:=O.mono s1
  let g:V->V:=fun v=>match v with | .int k=>.int (DW kbs k.toNat:Nat) | _=>.non
  refine ⟨CL,rfl,⟨_,hS1⟩,Cp (K:=K) (xs:=nV cl) (fun _=>true) g hS1 (BJ (by rw [List.length_map]; omega)) (fun y hy H' hs R k=>k H' (An.refl H')) (fun y hy _ H' hs R k=>?_) (fun D2 H2 hD2 s2 hl2=>?_)⟩
  ·obtain ⟨i,hi,rfl⟩:=List.mem_map.mp hy
   obtain ⟨r,hr,hw,hd⟩:=(hcl i).mp hi
   obtain ⟨rs,er⟩:=Ig hr
   rw [er] at hr
   obtain ⟨z,hz,_⟩:=Do hr
   have hb:=Il hkb hz
   obtain ⟨⟨dx,fs,bl,bn,kp,kr,bvs,pvs,uvs,kvs,h1,l1,l2,l3,l4,lm,_⟩,_⟩:=id (O1.mono hs)
   have kk:=k H' (An.refl H')
   refine ⟨_,rfl,x,dx,fs,rfl,h1,lm _ (by decide +kernel),_,rfl,x,BZ c sz,Bw c kbs,i,DW kbs i,(c (DW kbs i),sz[DW kbs i]),_,_,rs,rfl,O1.mono hs,hr,Ci (List.getElem?_eq_getElem hb),kk⟩
  ·rw [List.filter_eq_self.mpr (fun _ _=>rfl)] at hl2
   have e:(nV cl).map g=nV (cl.map (DW kbs)):=by
    unfold nV
    rw [List.map_map,List.map_map]
    rfl
   rw [e] at hl2
   refine q D2 _ H2 (s1.free hD2) (s1.trans s2) hl2 (fun b=>?_) (by rw [List.length_map]; exact hcll)
   rw [List.mem_map]
   constructor
   ·rintro ⟨k,hk,rfl⟩
    obtain ⟨r,hr,hw,hd⟩:=(hcl k).mp hk
    obtain ⟨z,hz,rfl⟩:=Do hr
    exact ⟨k,z,hz,(Gb _ _ _).symm.trans hw,hd,rfl⟩
   ·rintro ⟨k,z,hz,hw,hd,rfl⟩
    exact ⟨k,(hcl k).mpr ⟨_,De hz,(Gb _ _ _).trans hw,hd⟩,rfl⟩
noncomputable def YD (sz:List Nat) (i b:Nat):Prop:=∃ n,n<sz.getD b 0/\b<sz.length/\i=(sz.take b).sum+n
theorem Ri {c:Nat->Str} {sz:List Nat} {i a n:Nat} (h:(Ed (BZ c sz))[i]? = some (a,n)):YD sz i a:=by
 obtain ⟨b,hb,hn,hi⟩:=PP h
 obtain ⟨z,hz,rfl⟩:=GJ hb
 rw [B_] at hi
 refine ⟨n,?_,(List.getElem?_eq_some_iff.mp hz).1,hi⟩
 rw [List.getD_eq_getElem?_getD,hz]
 exact hn
theorem Tn {sz:List Nat} {i a b:Nat} (h1:YD sz i a) (h2:YD sz i b):a=b:=by
 obtain ⟨n,hn,ha,rfl⟩:=h1
 obtain ⟨m,hm,hb,e⟩:=h2
 have key:∀ {a b n m:Nat},a<b->b<sz.length->n<sz.getD a 0->(sz.take a).sum+n ≠ (sz.take b).sum+m:=fun {a b n m} hab hb hn e=>by
  have h1:(sz.take (a+1)).sum<=(sz.take b).sum:=LR sz (by omega)
  have ha:a<sz.length:=by omega
  rw [List.take_add_one,List.getElem?_eq_getElem ha,List.sum_append] at h1
  rw [List.getD_eq_getElem?_getD,List.getElem?_eq_getElem ha] at hn
  have hn':n<sz[a]:=hn
  simp at h1
  omega
 rcases Nat.lt_trichotomy a b with h | h | h
 ·exact absurd e (key h hb hn)
 ·exact h
 ·exact absurd e.symm (key h ha hm)
noncomputable def Zz (C:Addr):Sp:=fun vs H Q _=>∃ (x:Addr) (c:Nat->Str) (sz:List Nat) (kbs:List Kb) (D n:Nat),vs=[.ref x,.int (D:Nat),.int (n:Nat)]/\Di C H x (BZ c sz) (Bw c kbs)/\Lx sz.length kbs/\n<2 ^ 1200/\(∀ i,n.testBit i=true->i<sz.sum)/\sz.sum<=305 /\
 ∀ (m:Nat) H',An H H'->(∀ j,m.testBit j=true ↔ n.testBit j=true/\∀ b,YD sz j b->¬ Kq kbs D b)->Q (.int (m:Nat)) H'
theorem cF:Av ["organ","knobs","keys","muted"] ["organ","knobs","keys"] (Ag dR):=Bl
include N T in
theorem aG:Aq P w K mg base Be 4 aD.fUk aD.dUk ["organ","knobs","keys"] (Zz C):=by
 have GMu:Aq P w K mg base Be 3 aD.fMu aD.dMu ["organ","knobs"] (Xy C):=Wi N T
 have GMe:Aq P w K mg base Be 2 aD.fMe aD.dMe ["some"] Xx:=V7 N T
 have GOo:Aq P w K mg base Be 1 aD.fOo aD.dOo ["self","key"] (Wt C):=WP N T
 have GSt:Aq P w K mg base Be 3 aD.fSt aD.dSt ["numbers"] X5:=WW N T
 refine N.FUk.1.ok cF (fun vs H Q E h=>?_) (fun cdv A outer s H vs Q E hr h=>?_)
 ·obtain ⟨x,c,sz,kbs,D,n,rfl,_⟩:=h
  rfl
 ·obtain ⟨x,c,sz,kbs,D,n,rfl,O,hkb,hn,hnt,h305,q⟩:=h
  have hrMu:BR 3 _:=hr.mono (by decide)
  have hrMe:BR 2 _:=hr.mono (by decide)
  have hrOo:BR 1 _:=hr.mono (by decide)
  have hrSt:BR 3 _:=hr.mono (by decide)
  refine ⟨_,(Ae (Az (i:=3) cF.nd rfl (Or.inr rfl) (Ai GMu hrMu rfl N.FMu.2.2 N.FMu.1.kp N.FMu.2.1 .nil Ao (Aa (pv 0) (Aa (pv 1) Ac))))
   (Ah (Aw (Ai GSt hrSt rfl N.FSt.2.2 N.FSt.1.kp N.FSt.2.1 .nil Ao (Aa (Bs rfl (Ba (osc:=Ag dR) (N:=["organ","knobs","keys","muted"]) rfl rfl (by decide +kernel)) (Bh (Ai GMe hrMe rfl N.FMe.2.2 N.FMe.1.kp N.FMe.2.1 .nil Ao (Aa (pv 2) Ac))) (fun _ _ _ _=>(Gk (BW (HY (K:=K) rfl) (Am (Ak (K:=K) rfl) (Cz (pv 1) T.cl N.FOo.2.2 GOo hrOo N.FOo.2.1 .nil Ao (Aa (pv 0) Ac)) Ab (fun _ _=>rfl)) (pv 4) rfl))) (fun _ _ _ _=>(pv 0))) Ac))))),?_⟩
  refine ⟨_,rfl,_,rfl,x,c,sz,kbs,D,rfl,O,hkb,fun ML ml H1 hML s1 hl1 hml hmll=>?_⟩
  refine ⟨_,rfl,n,rfl,hn,fun P1 H2 hP1 s2 hl2=>?_⟩
  have hS2:CP K H2 P1 (nV (Wd.mem n)):=.inl (.inl hl2)
  have O2:=O.mono (s1.trans s2)
  have hlen:=Wd.Lb hn
  have hml1:(Wd.mem n).length<=305:=by
   have nd:(Wd.mem n).Nodup:=by unfold Wd.mem; exact List.Pairwise.filter _ List.nodup_range
   refine Nat.le_trans (Dp sz.sum nd fun i hi=>hnt i (Wd.mem_iff.mp hi)) h305
  have place:∀ {i},i∈Wd.mem n->∃ a m,(Ed (BZ c sz))[i]? = some (a,m):=fun {i} hi=>by
   have hlt:i<(Ed (BZ c sz)).length:=by rw [Fi,B_]; exact hnt i (Wd.mem_iff.mp hi)
   exact ⟨_,_,List.getElem?_eq_getElem hlt⟩
  let p:V->Bool:=fun v=>match v with | .int i=>(match (Ed (BZ c sz))[i.toNat]? with | some (a,_)=>!decide (a∈ml) | none=>true) | _=>true
  refine ⟨P1,rfl,⟨_,hS2⟩,Cp (K:=K) (xs:=nV (Wd.mem n)) p id hS2 (BJ (by rw [List.length_map]; omega)) (fun y hy H' hs R k=>?_) (fun y hy _ H' hs R k=>⟨_,rfl,k H' (An.refl H')⟩) (fun D3 H3 hD3 s3 hl3=>?_)⟩
  ·obtain ⟨i,hi,rfl⟩:=List.mem_map.mp hy
   obtain ⟨a,m,hpl⟩:=place hi
   have ep:p (V.int (i:Nat)) = !decide (a∈ml):=by
    show (match (Ed (BZ c sz))[((i:Nat):Int).toNat]? with | some (a,_)=>!decide (a∈ml) | none=>true)=_
    rw [Int.toNat_natCast,hpl]
   have kk:=k H' (An.refl H')
   rw [ep] at kk
   obtain ⟨⟨dx,fs,bl,bn,kp,kr,bvs,pvs,uvs,kvs,h1,l1,l2,l3,l4,lm,_⟩,_⟩:=id (O2.mono hs)
   refine ⟨_,rfl,x,dx,fs,rfl,h1,lm _ (by decide +kernel),_,rfl,x,BZ c sz,Bw c kbs,i,(a,m),rfl,O2.mono hs,hpl,fun yv hyv=>?_⟩
   obtain ⟨T0,rfl,hT⟩:=hyv
   refine ⟨T0,_,_,_,rfl,rfl,.inl (.inl hT),Af (j:=0) rfl,_,rfl,ML,_,rfl,.inl (.inl (.inl (hs _ _ (s2 _ _ hl1)))),rfl,Rf ml,_,rfl,?_⟩
   have ein:inV (V.int (a:Nat)) (nV ml)=decide (a∈ml):=Gn a ml
   rw [ein]
   exact kk
  ·rw [List.map_id] at hl3
   have e3:(nV (Wd.mem n)).filter p=nV ((Wd.mem n).filter fun i=>p (.int (i:Nat))):=by
    unfold nV
    rw [List.filter_map]
    rfl
   rw [e3] at hl3
   have hsub:∀ i∈(Wd.mem n).filter (fun i=>p (.int (i:Nat))),i<sz.sum:=fun i hi=>hnt i (Wd.mem_iff.mp (List.mem_filter.mp hi).1)
   refine ⟨D3,_,rfl,hl3,Nat.le_trans (List.length_filter_le _ _) (by omega),fun i hi=>by have:=hsub i hi; omega,fun H4 s4=>?_⟩
   refine q _ H4 (s1.trans (s2.trans (s3.trans s4))) fun j=>?_
   rw [Wd.JK,decide_eq_true_eq,List.mem_filter,Wd.mem_iff]
   constructor
   ·rintro ⟨h1,h2⟩
    refine ⟨h1,fun b hb hm=>?_⟩
    obtain ⟨a,m,hpl⟩:=place (Wd.mem_iff.mpr h1)
    have ep:p (V.int (j:Nat)) = !decide (a∈ml):=by
     show (match (Ed (BZ c sz))[((j:Nat):Int).toNat]? with | some (a,_)=>!decide (a∈ml) | none=>true)=_
     rw [Int.toNat_natCast,hpl]
    rw [ep] at h2
    have hba:=Tn hb (Ri hpl)
    subst hba
    rw [decide_eq_true ((hml b).mpr hm)] at h2
    cases h2
   ·rintro ⟨h1,h2⟩
    refine ⟨h1,?_⟩
    obtain ⟨a,m,hpl⟩:=place (Wd.mem_iff.mpr h1)
    have ep:p (V.int (j:Nat)) = !decide (a∈ml):=by
     show (match (Ed (BZ c sz))[((j:Nat):Int).toNat]? with | some (a,_)=>!decide (a∈ml) | none=>true)=_
     rw [Int.toNat_natCast,hpl]
    rw [ep,decide_eq_false fun z=>h2 a (Ri hpl) ((hml a).mp z)]
    rfl
noncomputable def J2 (c:Nat->Str) (sz:List Nat) (kbs:List Kb) (D n j:Nat):Prop:=Lq (stp (BZ c sz) kbs D) (fun i=>n.testBit i=true) j \/ (n.testBit j=true/\∀ b,YD sz j b->¬ Kq kbs D b)
noncomputable def W9 (C:Addr):Sp:=fun vs H Q _=>∃ (x:Addr) (c:Nat->Str) (sz:List Nat) (kbs:List Kb) (D n:Nat),vs=[.ref x,.int (D:Nat),.int (n:Nat)]/\Di C H x (BZ c sz) (Bw c kbs)/\Lx sz.length kbs/\n<2 ^ 1200/\(∀ i,n.testBit i=true->i<sz.sum) /\
 ∀ (m:Nat) H',An H H'->(∀ j,m.testBit j=true ↔ J2 c sz kbs D n j)->Q (.int (m:Nat)) H'
theorem jy:Av ["organ","knobs","held"] ["organ","knobs","held"] (Ag eV):=Bl
include N T in
theorem Vu:Aq P w K mg base Be 6 aD.fSk aD.dSk ["organ","knobs","held"] (W9 C):=by
 have GCq:Aq P w K mg base Be 5 aD.fCq aD.dCq ["organ","knobs","held"] (bC C):=ZQ N T
 have GUk:Aq P w K mg base Be 4 aD.fUk aD.dUk ["organ","knobs","keys"] (Zz C):=aG N T
 have GHk:Aq P w K mg base Be 2 aD.fHk aD.dHk ["organ","held"] (VG C):=Ru N T
 refine N.FSk.1.ok jy (fun vs H Q E h=>?_) (fun cdv A outer s H vs Q E hr h=>?_)
 ·obtain ⟨x,c,sz,kbs,D,n,rfl,_⟩:=h
  rfl
 ·obtain ⟨x,c,sz,kbs,D,n,rfl,O,hkb,hn,hnt,q⟩:=h
  have hrCq:BR 5 _:=hr.mono (by decide)
  have hrUk:BR 4 _:=hr.mono (by decide)
  have hrHk:BR 2 _:=hr.mono (by decide)
  refine ⟨_,(Ah (Aw (Ar Ph (Ai GCq hrCq rfl N.FCq.2.2 N.FCq.1.kp N.FCq.2.1 .nil Ao (Aa (pv 0) (Aa (pv 1) (Aa (pv 2) Ac)))) (Ai GUk hrUk rfl N.FUk.2.2 N.FUk.1.kp N.FUk.2.1 .nil Ao (Aa (pv 0) (Aa (pv 1) (Aa (Ai GHk hrHk rfl N.FHk.2.2 N.FHk.1.kp N.FHk.2.1 .nil Ao (Aa (pv 0) (Aa (pv 2) Ac))) Ac))))))),?_⟩
  have hsum:((BZ c sz).map (·.2)).sum=sz.sum:=by rw [B_]
  have h305:=Ei O
  rw [hsum] at h305
  refine ⟨_,rfl,_,rfl,_,rfl,x,c,sz,kbs,D,n,rfl,O,hkb,hn,hnt,fun m1 H1 s1 hm1=>?_⟩
  refine ⟨_,rfl,_,rfl,_,rfl,_,rfl,x,BZ c sz,Bw c kbs,n,rfl,O.mono s1,hn,?_⟩
  rw [hsum,LK hnt]
  refine ⟨x,c,sz,kbs,D,n,rfl,O.mono s1,hkb,hn,hnt,h305,fun m2 H2 s2 hm2=>?_⟩
  refine ⟨_,_,rfl,rfl,?_⟩
  show Q (.int (Builtin.bitOr (m1:Int) (m2:Int))) H2
  rw [K5]
  refine q (m1 ||| m2) H2 (s1.trans s2) fun j=>?_
  rw [Rz,hm1,hm2]
  rfl
noncomputable def M9 (sz:List Nat) (b n:Nat):Nat:=Wd.mv n (-((sz.take b).sum:Int)) (sz.getD b 0)
theorem Pb (n:Nat) (k:Int) (c:Nat):Wd.mv n k c<2 ^ c:=by
 unfold Wd.mv
 exact Nat.mod_lt _ (Nat.two_pow_pos _)
noncomputable def XC (C:Addr):Sp:=fun vs H Q _=>∃ (x:Addr) (c:Nat->Str) (sz:List Nat) (ks:List R) (b n:Nat),vs=[.ref x,.int (b:Nat),.int (n:Nat)]/\Di C H x (BZ c sz) ks/\b<sz.length/\n<2 ^ 1200/\∀ H',An H H'->Q (.int (M9 sz b n:Nat)) H'
theorem Yl:Av ["organ","board","keys","told"] ["organ","board","keys"] (Ag g_):=Bl
include N T in
theorem Wc:Aq P w K mg base Be 3 aD.fNb aD.dNb ["organ","board","keys"] (XC C):=by
 have GOb:Aq P w K mg base Be 1 aD.fOb aD.dOb ["self"] (VN C):=Sw N T
 have GOk:Aq P w K mg base Be 2 aD.fOk aD.dOk ["self","board","number"] (Vn C):=TJ N T
 have GSh:Aq P w K mg base Be 1 aD.fSh aD.dSh ["some","steps","count"] Uz:=Rw N T
 refine N.FNb.1.ok Yl (fun vs H Q E h=>?_) (fun cdv A outer s H vs Q E hr h=>?_)
 ·obtain ⟨x,c,sz,ks,b,n,rfl,_⟩:=h
  rfl
 ·obtain ⟨x,c,sz,ks,b,n,rfl,O,hb,hn,q⟩:=h
  have hrOb:BR 1 _:=hr.mono (by decide)
  have hrOk:BR 2 _:=hr.mono (by decide)
  have hrSh:BR 1 _:=hr.mono (by decide)
  refine ⟨_,(Ae (Az (i:=3) Yl.nd rfl (Or.inl rfl) (Am (BV (K:=K) rfl) (Em (pv 0) T.cl N.FOb.2.2 GOb hrOb N.FOb.2.1 .nil Ao) (pv 1) (fun _ _=>rfl)))
   (Ah (Aw (Ai GSh hrSh rfl N.FSh.2.2 N.FSh.1.kp N.FSh.2.1 .nil Ao (Aa (pv 2) (Aa (G5 FP (Cz (pv 0) T.cl N.FOk.2.2 GOk hrOk N.FOk.2.1 .nil Ao (Aa (Am (Ak (K:=K) rfl) (pv 3) Ab (fun _ _=>rfl)) (Aa Ab Ac)))) (Aa (Am (Ak (K:=K) rfl) (pv 3) Ab (fun _ _=>rfl)) Ac))))))),?_⟩
  have h305:=Ei O
  rw [B_] at h305
  have hst:(sz.take b).sum<=sz.sum:=by
   have:=congrArg List.sum (List.take_append_drop b sz)
   rw [List.sum_append] at this
   omega
  have hbs:(BZ c sz)[b]? = some (c b,sz[b]):=Ci (List.getElem?_eq_getElem hb)
  have h61:=O.sz (c b,sz[b]) (List.mem_of_getElem? hbs)
  have h61':sz[b]<=61:=h61
  have esum:(((BZ c sz).take b).map (·.2)).sum=(sz.take b).sum:=by rw [List.map_take,B_]
  have egd:sz.getD b 0=sz[b]:=by rw [List.getD_eq_getElem?_getD,List.getElem?_eq_getElem hb]; rfl
  have meth:∀ {H':Hp},Di C H' x (BZ c sz) ks->∃ dx fs,H' x=some (.ins C dx fs)/\∀ m∈meths,fs.lookup m=none:=fun O'=>by
   obtain ⟨⟨dx,fs,_,_,_,_,_,_,_,_,h1,_,_,_,_,lm,_⟩,_⟩:=O'
   exact ⟨dx,fs,h1,lm⟩
  obtain ⟨dx,fs,hx,lm⟩:=meth O
  refine ⟨_,rfl,x,dx,fs,rfl,hx,lm _ (by decide +kernel),x,BZ c sz,ks,rfl,O,fun D bvs H2 hD s2 hl2 hb2=>?_⟩
  obtain ⟨v3,hv3,T3,rfl,ht3⟩:=Bq hb2 hbs
  refine ⟨_,rfl,D,bvs,_,_,rfl,rfl,.inl (.inl hl2),Af hv3,?_⟩
  obtain ⟨dx2,fs2,hx2,lm2⟩:=meth (O.mono s2)
  refine ⟨_,rfl,_,rfl,x,dx2,fs2,rfl,hx2,lm2 _ (by decide +kernel),_,rfl,T3,_,_,_,rfl,rfl,.inl (.inl ht3),Af (j:=0) rfl,x,BZ c sz,ks,b,(c b,sz[b]),0,rfl,O.mono s2,hbs,fun H3 s3=>?_⟩
  refine ⟨_,rfl,_,rfl,T3,_,_,_,rfl,rfl,.inl (.inl (s3 _ _ ht3)),Af (j:=1) rfl,n,_,sz[b],rfl,hn,?_,?_,by omega,?_⟩
  ·rw [esum]
   omega
  ·rw [esum]
   omega
  ·have fin:=q H3 (s2.trans s3)
   unfold M9 at fin
   rw [egd] at fin
   rw [esum,Int.add_zero]
   exact fin
noncomputable def QM (rk:List (Str × Nat × Int)) (r:Nat):Nat:=((rk.take r).map (fun r=>r.2.1)).sum
noncomputable def JT (rk:List (Str × Nat × Int)) (r:Nat):Nat:=(rk.map (fun r=>r.2.1)).getD r 0
noncomputable def YL (rk:List (Str × Nat × Int)):Nat:=(rk.map (fun r=>r.2.1)).sum
structure dj (rk:List (Str × Nat × Int)) (l:Ln):Prop where
 r:l.r<rk.length
 lo:0<=l.lo
 le:l.lo<=l.hi
 hi:l.hi<=60
 s1 : -200<=l.sh
 s2:l.sh<=200
noncomputable def JD (rk:List (Str × Nat × Int)) (l:Ln) (n:Nat):Nat:=Wd.mv (Wd.mv (Wd.mv n (-l.lo) (l.hi - l.lo+1).toNat) (l.lo+l.sh) (JT rk l.r)) (QM rk l.r:Nat) (YL rk)
theorem Tc {rk:List (Str × Nat × Int)} {r:Nat} (h:r<rk.length):QM rk r+JT rk r<=YL rk:=by
 unfold QM JT YL
 have e:((rk.map (fun r=>r.2.1)).take (r+1)).sum=((rk.take r).map (fun r=>r.2.1)).sum+(rk.map (fun r=>r.2.1)).getD r 0:=by
  rw [List.take_add_one,List.getElem?_eq_getElem (by rw [List.length_map]; exact h),List.sum_append,List.map_take,List.getD_eq_getElem?_getD,List.getElem?_eq_getElem (by rw [List.length_map]; exact h)]
  simp
 have:=congrArg List.sum (List.take_append_drop (r+1) (rk.map (fun r=>r.2.1)))
 rw [List.sum_append] at this
 omega
theorem Wm {rk:List (Str × Nat × Int)} (h1:rk.length<=12) (h2:∀ r∈rk,r.2.1<=97):YL rk<=1164:=by
 have h:=K1 (rk.map QZ) 97 fun b hb=>by
  obtain ⟨r,hr,rfl⟩:=List.mem_map.mp hb
  exact h2 r hr
 rw [Fi,List.map_map,List.length_map] at h
 have:rk.length * 97<=12 * 97:=Nat.mul_le_mul_right _ h1
 have e:YL rk=(rk.map ((·.2) ∘ QZ)).sum:=rfl
 omega
noncomputable def Xm (C:Addr):Sp:=fun vs H Q _=>∃ (x:Addr) (bs:List (Str × Nat)) (rk:List (Str × Nat × Int)) (ks:List R) (ls:List (List Ln)) (y:V) (l:Ln) (n:Nat),vs=[.ref x,y,.int (n:Nat)]/\Cw C H x bs rk ks ls/\TupAt H (RG l) y/\dj rk l/\n<2 ^ 1200/\∀ H',An H H'->Q (.int (JD rk l n:Nat)) H'
theorem Vi:Av ["organ","line","numbers","rank","from_low","on_rank"] ["organ","line","numbers"] (Ag fJ):=Bl
include N T in
theorem Vx:Aq P w K mg base Be 3 aD.fLl aD.dLl ["organ","line","numbers"] (Xm C):=by
 have GOr:Aq P w K mg base Be 1 aD.fOr aD.dOr ["self"] (cY C):=Z1 N T
 have GSh:Aq P w K mg base Be 1 aD.fSh aD.dSh ["some","steps","count"] Uz:=Rw N T
 have GOe:Aq P w K mg base Be 2 aD.fOe aD.dOe ["self","rank","number"] (bG C):=bz N T
 have GOq:Aq P w K mg base Be 1 aD.fOq aD.dOq ["self"] (bj C):=Yb N T
 refine N.FLl.1.ok Vi (fun vs H Q E h=>?_) (fun cdv A outer s H vs Q E hr h=>?_)
 ·obtain ⟨x,bs,rk,ks,ls,y,l,n,rfl,_⟩:=h
  rfl
 ·obtain ⟨x,bs,rk,ks,ls,y,l,n,rfl,O,hy,hg,hn,q⟩:=h
  have hrOr:BR 1 _:=hr.mono (by decide)
  have hrSh:BR 1 _:=hr.mono (by decide)
  have hrOe:BR 2 _:=hr.mono (by decide)
  have hrOq:BR 1 _:=hr.mono (by decide)
  refine ⟨_,(Ae (Az (i:=3) Vi.nd rfl (Or.inl rfl) (Am (BV (K:=K) rfl) (Em (pv 0) T.cl N.FOr.2.2 GOr hrOr N.FOr.2.1 .nil Ao) (Am (Ak (K:=K) rfl) (pv 1) Ab (fun _ _=>rfl)) (fun _ _=>rfl)))
   (Ae (Az (i:=4) Vi.nd rfl (Or.inl rfl) (Ai GSh hrSh rfl N.FSh.2.2 N.FSh.1.kp N.FSh.2.1 .nil Ao (Aa (pv 2) (Aa (G5 FP (Am (Ak (K:=K) rfl) (pv 1) Ab (fun _ _=>rfl))) (Aa (Ar Bm (Ar Dy (Am (Ak (K:=K) rfl) (pv 1) Ab (fun _ _=>rfl)) (Am (Ak (K:=K) rfl) (pv 1) Ab (fun _ _=>rfl))) Ab) Ac)))))
   (Ae (Az (i:=5) Vi.nd rfl (Or.inl rfl) (Ai GSh hrSh rfl N.FSh.2.2 N.FSh.1.kp N.FSh.2.1 .nil Ao (Aa (pv 4) (Aa (Ar Bm (Am (Ak (K:=K) rfl) (pv 1) Ab (fun _ _=>rfl)) (Am (Ak (K:=K) rfl) (pv 1) Ab (fun _ _=>rfl))) (Aa (Am (Ak (K:=K) rfl) (pv 3) Ab (fun _ _=>rfl)) Ac)))))
   (Ah (Aw (Ai GSh hrSh rfl N.FSh.2.2 N.FSh.1.kp N.FSh.2.1 .nil Ao (Aa (pv 5) (Aa (Cz (pv 0) T.cl N.FOe.2.2 GOe hrOe N.FOe.2.1 .nil Ao (Aa (Am (Ak (K:=K) rfl) (pv 3) Ab (fun _ _=>rfl)) (Aa Ab Ac))) (Aa (Em (pv 0) T.cl N.FOq.2.2 GOq hrOq N.FOq.2.1 .nil Ao) Ac))))))))),?_⟩
  obtain ⟨T0,rfl,hT⟩:=hy
  have hto:=Wm O.nr O.nz
  have hlr:l.r<rk.length:=hg.r
  have hst:=Tc hlr
  have hrk:=List.getElem?_eq_getElem hlr
  have h97:rk[l.r].2.1<=97:=O.nz _ (List.getElem_mem hg.r)
  have esz:JT rk l.r=rk[l.r].2.1:=by
   unfold JT
   rw [List.getD_eq_getElem?_getD,List.getElem?_map,hrk]
   rfl
  have etot:(Ed (rk.map QZ)).length=YL rk:=by
   rw [Fi,List.map_map]
   rfl
  have h1:=hg.lo
  have h2:=hg.le
  have h3:=hg.hi
  have h4:=hg.s1
  have h5:=hg.s2
  have meth:∀ {H':Hp},Cw C H' x bs rk ks ls->∃ dx fs,H' x=some (.ins C dx fs)/\∀ m∈meths,fs.lookup m=none:=fun O'=>by
   obtain ⟨⟨dx,fs,_,_,_,_,_,_,_,_,h1,_,_,_,_,lm,_⟩,_⟩:=O'.o
   exact ⟨dx,fs,h1,lm⟩
  obtain ⟨dx,fs,hx,lm⟩:=meth O
  refine ⟨_,rfl,x,dx,fs,rfl,hx,lm _ (by decide +kernel),x,bs,rk,ks,ls,rfl,O,fun D rvs H2 hD s2 hl2 hb2=>?_⟩
  have hT2:=s2 _ _ hT
  have hrk3:(rk.map Rg)[l.r]? = some (Rg rk[l.r]):=by rw [List.getElem?_map,hrk]; rfl
  obtain ⟨v3,hv3,T3,rfl,ht3⟩:=Bq hb2 hrk3
  refine ⟨_,rfl,T0,_,_,_,rfl,rfl,.inl (.inl hT2),Af (j:=0) rfl,D,rvs,_,_,rfl,rfl,.inl (.inl hl2),Af hv3,?_⟩
  have e1:l.hi - l.lo+1=(((l.hi - l.lo+1).toNat:Nat):Int):=by omega
  refine ⟨_,rfl,_,rfl,T0,_,_,_,rfl,rfl,.inl (.inl hT2),Af (j:=2) rfl,_,rfl,_,rfl,T0,_,_,_,rfl,rfl,.inl (.inl hT2),Af (j:=3) rfl,_,rfl,T0,_,_,_,rfl,rfl,.inl (.inl hT2),Af (j:=2) rfl,_,_,rfl,rfl,_,_,rfl,rfl,n,-l.lo,(l.hi - l.lo+1).toNat,(by rw [← e1] <;> rfl),hn,by omega,by omega,by omega,?_⟩
  have n1:=Pb n (-l.lo) (l.hi - l.lo+1).toNat
  generalize hn1:Wd.mv n (-l.lo) (l.hi - l.lo+1).toNat=a1 at n1 ⊢
  have n1':a1<2 ^ 1200:=Nat.lt_of_lt_of_le n1 (Nat.pow_le_pow_right (by decide) (by omega))
  refine ⟨_,rfl,_,rfl,T0,_,_,_,rfl,rfl,.inl (.inl hT2),Af (j:=2) rfl,_,rfl,T0,_,_,_,rfl,rfl,.inl (.inl hT2),Af (j:=1) rfl,_,_,rfl,rfl,_,rfl,T3,_,_,_,rfl,rfl,.inl (.inl ht3),Af (j:=1) rfl,a1,l.lo+l.sh,rk[l.r].2.1,rfl,n1',by omega,by omega,by omega,?_⟩
  have n2:=Pb a1 (l.lo+l.sh) rk[l.r].2.1
  generalize hn2:Wd.mv a1 (l.lo+l.sh) rk[l.r].2.1=a2 at n2 ⊢
  have n2':a2<2 ^ 1200:=Nat.lt_of_lt_of_le n2 (Nat.pow_le_pow_right (by decide) (by omega))
  obtain ⟨dx2,fs2,hx2,lm2⟩:=meth (O.mono s2)
  refine ⟨_,rfl,_,rfl,x,dx2,fs2,rfl,hx2,lm2 _ (by decide +kernel),_,rfl,T3,_,_,_,rfl,rfl,.inl (.inl ht3),Af (j:=0) rfl,x,bs,rk,ks,ls,l.r,rk[l.r],0,rfl,O.mono s2,hrk,fun H3 s3=>?_⟩
  obtain ⟨dx3,fs3,hx3,lm3⟩:=meth ((O.mono s2).mono s3)
  refine ⟨_,rfl,x,dx3,fs3,rfl,hx3,lm3 _ (by decide +kernel),x,bs,rk,ks,ls,rfl,(O.mono s2).mono s3,a2,_,(Ed (rk.map QZ)).length,rfl,n2',?_,?_,?_,?_⟩
  ·omega
  ·have:((rk.take l.r).map (fun r=>r.2.1)).sum=QM rk l.r:=rfl
   omega
  ·omega
  ·have fin:=q H3 (s2.trans s3)
   unfold JD at fin
   rw [hn1,esz,hn2] at fin
   rw [etot,Int.add_zero]
   exact fin
noncomputable def eE (H:Hp):V->Ln
 | .ref T=>match H T with
  | some (.tup [.int r,.int sh,.int lo,.int hi])=>⟨r.toNat,sh,lo,hi⟩
  | _=>⟨0,0,0,0⟩
 | _=>⟨0,0,0,0⟩
theorem S8 {H:Hp} {l:Ln} {v:V} (h:TupAt H (RG l) v):eE H v=l:=by
 obtain ⟨T,rfl,e⟩:=h
 show (match H T with | some (.tup [.int r,.int sh,.int lo,.int hi])=>(⟨r.toNat,sh,lo,hi⟩:Ln) | _=>⟨0,0,0,0⟩)=l
 rw [e]
 show (⟨((l.r:Nat):Int).toNat,l.sh,l.lo,l.hi⟩:Ln)=l
 rw [Int.toNat_natCast]
theorem UV {H:Hp} {l:List Ln} {vs:List V} (h:Paired (fun x y=>TupAt H (RG x) y) l vs):vs.map (eE H)=l:=by
 induction h with
 | nil=>rfl
 | cons x y ih=>rw [List.map_cons,ih,S8 x]
noncomputable def Wa (sz:List Nat) (rk:List (Str × Nat × Int)) (b:Nat) (l:List Ln) (n:Nat):Nat:=T4 (l.map fun ln=>JD rk ln (M9 sz b n))
noncomputable def aj (C:Addr):Sp:=fun vs H Q _=>∃ (x:Addr) (c:Nat->Str) (sz:List Nat) (rk:List (Str × Nat × Int)) (kbs:List Kb) (ls:List (List Ln)) (k n:Nat) (z:Kb) (l:List Ln),vs=[.ref x,.int (k:Nat),.int (n:Nat)]/\Cw C H x (BZ c sz) rk (Bw c kbs) ls/\Lx sz.length kbs/\kbs[k]? = some z/\ls[k]? = some l/\l.length<=100/\(∀ ln∈l,dj rk ln)/\n<2 ^ 1200/\∀ H',An H H'->Q (.int (Wa sz rk (DW kbs k) l n:Nat)) H'
theorem Xc:Av ["organ","knob","keys","stop","numbers"] ["organ","knob","keys"] (Ag dz):=Bl
include N T in
theorem Zd:Aq P w K mg base Be 4 aD.fBs aD.dBs ["organ","knob","keys"] (aj C):=by
 have GOs:Aq P w K mg base Be 2 aD.fOs aD.dOs ["self","knob"] (Uc C):=RV N T
 have GNb:Aq P w K mg base Be 3 aD.fNb aD.dNb ["organ","board","keys"] (XC C):=Wc N T
 have GLl:Aq P w K mg base Be 3 aD.fLl aD.dLl ["organ","line","numbers"] (Xm C):=Vx N T
 have GUn:Aq P w K mg base Be 1 aD.fUn aD.dUn ["sets"] Xo:=WN N T
 refine N.FBs.1.ok Xc (fun vs H Q E h=>?_) (fun cdv A outer s H vs Q E hr h=>?_)
 ·obtain ⟨x,c,sz,rk,kbs,ls,k,n,z,l,rfl,_⟩:=h
  rfl
 ·obtain ⟨x,c,sz,rk,kbs,ls,k,n,z,l,rfl,O,hkb,hz,hl,hl100,hg,hn,q⟩:=h
  have hrOs:BR 2 _:=hr.mono (by decide)
  have hrNb:BR 3 _:=hr.mono (by decide)
  have hrLl:BR 3 _:=hr.mono (by decide)
  have hrUn:BR 1 _:=hr.mono (by decide)
  refine ⟨_,(Ae (Az (i:=3) Xc.nd rfl (Or.inl rfl) (Cz (pv 0) T.cl N.FOs.2.2 GOs hrOs N.FOs.2.1 .nil Ao (Aa (pv 1) Ac)))
   (Ae (Az (i:=4) Xc.nd rfl (Or.inr rfl) (Ai GNb hrNb rfl N.FNb.2.2 N.FNb.1.kp N.FNb.2.1 .nil Ao (Aa (pv 0) (Aa (Am (Ak (K:=K) rfl) (pv 3) Ab (fun _ _=>rfl)) (Aa (pv 2) Ac)))))
   (Ah (Aw (Ai GUn hrUn rfl N.FUn.2.2 N.FUn.1.kp N.FUn.2.1 .nil Ao (Aa (Bs rfl (Ba (osc:=Ag dz) (N:=["organ","knob","keys","stop","numbers"]) rfl rfl (by decide +kernel)) (Bh (Am (Ak (K:=K) rfl) (pv 3) Ab (fun _ _=>rfl))) (fun _ _ _ _=>CZ) (fun _ _ _ _=>(Ai GLl hrLl rfl N.FLl.2.2 N.FLl.1.kp N.FLl.2.1 .nil Ao (Aa (pv 1) (Aa (pv 0) (Aa (pv 5) Ac)))))) Ac)))))),?_⟩
  have hr:=De (c:=c) hz
  obtain ⟨rs,er⟩:=Ig hr
  rw [er] at hr
  have hb:=Il hkb hz
  have hbs:(BZ c sz)[DW kbs k]? = some (c (DW kbs k),sz[DW kbs k]):=Ci (List.getElem?_eq_getElem hb)
  have meth:∀ {H':Hp},Cw C H' x (BZ c sz) rk (Bw c kbs) ls->∃ dx fs,H' x=some (.ins C dx fs)/\∀ m∈meths,fs.lookup m=none:=fun O'=>by
   obtain ⟨⟨dx,fs,_,_,_,_,_,_,_,_,h1,_,_,_,_,lm,_⟩,_⟩:=O'.o
   exact ⟨dx,fs,h1,lm⟩
  obtain ⟨dx,fs,hx,lm⟩:=meth O
  refine ⟨_,rfl,x,dx,fs,rfl,hx,lm _ (by decide +kernel),_,rfl,x,BZ c sz,rk,Bw c kbs,ls,k,DW kbs k,(c (DW kbs k),sz[DW kbs k]),_,_,rs,l,rfl,O,hr,hbs,hl,fun T0 L0 ts H1 _ s1 hT0 hL0 htp=>?_⟩
  have O1:=O.mono s1
  refine ⟨_,rfl,_,rfl,T0,_,_,_,rfl,rfl,.inl (.inl hT0),Af (j:=0) rfl,_,rfl,x,c,sz,Bw c kbs,DW kbs k,n,rfl,O1.o,hb,hn,fun H2 s2=>?_⟩
  have O2:=O1.mono s2
  have nlt:=Pb n (-((sz.take (DW kbs k)).sum:Int)) (sz.getD (DW kbs k) 0)
  have h61:sz.getD (DW kbs k) 0<=61:=by
   rw [List.getD_eq_getElem?_getD,List.getElem?_eq_getElem hb]
   exact O.o.sz _ (List.mem_of_getElem? hbs)
  have nlt':M9 sz (DW kbs k) n<2 ^ 1200:=Nat.lt_of_lt_of_le nlt (Nat.pow_le_pow_right (by decide) (by omega))
  have hL2:=s2 _ _ hL0
  have htp2:=Al s2 htp
  have hlt:=htp2.length
  have hS2:CP K H2 L0 ts:=.inl (.inl hL2)
  refine ⟨_,rfl,T0,_,_,_,rfl,rfl,.inl (.inl (s2 _ _ hT0)),Af (j:=1) rfl,L0,rfl,⟨_,hS2⟩,Cp (K:=K) (xs:=ts) (fun _=>true) (fun v=>.int (JD rk (eE H2 v) (M9 sz (DW kbs k) n):Nat)) hS2 (BJ (by omega)) (fun y hy H' hs R k=>k H' (An.refl H')) (fun y hy _ H' hs R k'=>?_) (fun D3 H3 hD3 s3 hl3=>?_)⟩
  ·obtain ⟨ln,hln,hyt⟩:=DX htp2 hy
   have e:=S8 hyt
   rw [e] at k'
   exact ⟨_,rfl,_,rfl,_,rfl,x,BZ c sz,rk,Bw c kbs,ls,y,ln,_,rfl,O2.mono hs,hyt.mono hs,hg ln hln,nlt',fun H4 s4=>k' H4 s4⟩
  ·rw [List.filter_eq_self.mpr (fun _ _=>rfl)] at hl3
   have e3:(ts.map fun v=>V.int (JD rk (eE H2 v) (M9 sz (DW kbs k) n):Nat))=nV (l.map fun ln=>JD rk ln (M9 sz (DW kbs k) n)):=by
    rw [← UV htp2]
    unfold nV
    rw [List.map_map,List.map_map]
    rfl
   rw [e3] at hl3
   exact ⟨D3,_,rfl,hl3,(by rw [List.length_map]; omega),q H3 (s1.trans (s2.trans s3))⟩
noncomputable def YJ (sz:List Nat) (rk:List (Str × Nat × Int)) (kbs:List Kb) (ls:List (List Ln)) (cl:List Nat) (n:Nat):Nat:=T4 (cl.map fun k=>Wa sz rk (DW kbs k) (ls.getD k []) n)
noncomputable abbrev Z9 (rk:List (Str × Nat × Int)) (ls:List (List Ln)):Prop:=∀ l∈ls,l.length<=100/\∀ ln∈l,dj rk ln
noncomputable def Yt (C:Addr):Sp:=fun vs H Q _=>∃ (x:Addr) (c:Nat->Str) (sz:List Nat) (rk:List (Str × Nat × Int)) (kbs:List Kb) (ls:List (List Ln)) (D n:Nat),vs=[.ref x,.int (D:Nat),.int (n:Nat)]/\Cw C H x (BZ c sz) rk (Bw c kbs) ls/\Lx sz.length kbs/\Z9 rk ls/\n<2 ^ 1200 /\
 ∀ (cl:List Nat) H',An H H'->(∀ k,k∈cl ↔ ∃ z,kbs[k]? = some z/\z.w = "stop" /\ D.testBit k=true)->Q (.int (YJ sz rk kbs ls cl n:Nat)) H'
theorem jd:Av ["organ","knobs","keys"] ["organ","knobs","keys"] (Ag eQ):=Bl
include N T in
theorem bM:Aq P w K mg base Be 5 aD.fBa aD.dBa ["organ","knobs","keys"] (Yt C):=by
 have GDc:Aq P w K mg base Be 2 aD.fDc aD.dDc ["organ","knobs","word"] (Rb C):=Pr N T
 have GBs:Aq P w K mg base Be 4 aD.fBs aD.dBs ["organ","knob","keys"] (aj C):=Zd N T
 have GUn:Aq P w K mg base Be 1 aD.fUn aD.dUn ["sets"] Xo:=WN N T
 refine N.FBa.1.ok jd (fun vs H Q E h=>?_) (fun cdv A outer s H vs Q E hr h=>?_)
 ·obtain ⟨x,c,sz,rk,kbs,ls,D,n,rfl,_⟩:=h
  rfl
 ·obtain ⟨x,c,sz,rk,kbs,ls,D,n,rfl,O,hkb,hls,hn,q⟩:=h
  have hrDc:BR 2 _:=hr.mono (by decide)
  have hrBs:BR 4 _:=hr.mono (by decide)
  have hrUn:BR 1 _:=hr.mono (by decide)
  refine ⟨_,(Ah (Aw (Ai GUn hrUn rfl N.FUn.2.2 N.FUn.1.kp N.FUn.2.1 .nil Ao (Aa (Bs rfl (Ba (osc:=Ag eQ) (N:=["organ","knobs","keys"]) rfl rfl (by decide +kernel)) (Bh (Ai GDc hrDc rfl N.FDc.2.2 N.FDc.1.kp N.FDc.2.1 .nil Ao (Aa (pv 0) (Aa (pv 1) (Aa Bt Ac))))) (fun _ _ _ _=>CZ) (fun _ _ _ _=>(Ai GBs hrBs rfl N.FBs.2.2 N.FBs.1.kp N.FBs.2.1 .nil Ao (Aa (pv 1) (Aa (pv 0) (Aa (pv 3) Ac)))))) Ac)))),?_⟩
  refine ⟨_,rfl,_,rfl,x,BZ c sz,Bw c kbs,"stop",D,rfl,O.o,fun CL cl H1 hCL s1 hl1 hcl0 hcll=>?_⟩
  have hcl:∀ k,k∈cl ↔ ∃ z,kbs[k]? = some z/\z.w = "stop" /\ D.testBit k=true:=fun k=>by
   rw [hcl0]
   constructor
   ·rintro ⟨r,hr,hw,hd⟩
    obtain ⟨z,hz,rfl⟩:=Do hr
    exact ⟨z,hz,(Gb _ _ _).symm.trans hw,hd⟩
   ·rintro ⟨z,hz,hw,hd⟩
    exact ⟨_,De hz,(Gb _ _ _).trans hw,hd⟩
  have hS1:CP K H1 CL (nV cl):=.inl (.inl hl1)
  have O1:=O.mono s1
  let g:V->V:=fun v=>match v with | .int k=>.int (Wa sz rk (DW kbs k.toNat) (ls.getD k.toNat []) n:Nat) | _=>.non
  refine ⟨CL,rfl,⟨_,hS1⟩,Cp (K:=K) (xs:=nV cl) (fun _=>true) g hS1 (BJ (by rw [List.length_map]; omega)) (fun y hy H' hs R k=>k H' (An.refl H')) (fun y hy _ H' hs R k=>?_) (fun D2 H2 hD2 s2 hl2=>?_)⟩
  ·obtain ⟨i,hi,rfl⟩:=List.mem_map.mp hy
   obtain ⟨z,hz,hw,hd⟩:=(hcl i).mp hi
   have hik:i<ls.length:=by
    rw [O.nl,GQ]
    exact (List.getElem?_eq_some_iff.mp hz).1
   have hli:=List.getElem?_eq_getElem hik
   have egd:ls.getD i []=ls[i]:=by rw [List.getD_eq_getElem?_getD,hli]; rfl
   have hg:=hls ls[i] (List.getElem_mem hik)
   refine ⟨_,rfl,_,rfl,_,rfl,x,c,sz,rk,kbs,ls,i,n,z,ls[i],rfl,O1.mono hs,hkb,hz,hli,hg.1,hg.2,hn,fun H4 s4=>?_⟩
   have kk:R (.int (Wa sz rk (DW kbs i) (ls.getD i []) n:Nat)) H4:=k H4 s4
   rw [egd] at kk
   exact kk
  ·rw [List.filter_eq_self.mpr (fun _ _=>rfl)] at hl2
   have e:(nV cl).map g=nV (cl.map fun k=>Wa sz rk (DW kbs k) (ls.getD k []) n):=by
    unfold nV
    rw [List.map_map,List.map_map]
    rfl
   rw [e] at hl2
   exact ⟨D2,_,rfl,hl2,(by rw [List.length_map]; omega),q cl H2 (s1.trans s2) hcl⟩
noncomputable def cH (C:Addr):Sp:=fun vs H Q _=>∃ (x:Addr) (c:Nat->Str) (sz:List Nat) (rk:List (Str × Nat × Int)) (kbs:List Kb) (ls:List (List Ln)) (D n:Nat),vs=[.ref x,.int (D:Nat),.int (n:Nat)]/\Cw C H x (BZ c sz) rk (Bw c kbs) ls/\Lx sz.length kbs/\Z9 rk ls/\n<2 ^ 1200/\(∀ i,n.testBit i=true->i<sz.sum) /\
 ∀ (cl:List Nat) (m:Nat) H',An H H'->(∀ k,k∈cl ↔ ∃ z,kbs[k]? = some z/\z.w = "stop" /\ D.testBit k=true)->(∀ j,m.testBit j=true ↔ J2 c sz kbs D n j)->Q (.int (YJ sz rk kbs ls cl m:Nat)) H'
theorem fH:Av ["organ","knobs","held"] ["organ","knobs","held"] (Ag iD):=Bl
include N T in
theorem ZM:Aq P w K mg base Be 7 aD.fSo aD.dSo ["organ","knobs","held"] (cH C):=by
 have GSk:Aq P w K mg base Be 6 aD.fSk aD.dSk ["organ","knobs","held"] (W9 C):=Vu N T
 have GBa:Aq P w K mg base Be 5 aD.fBa aD.dBa ["organ","knobs","keys"] (Yt C):=bM N T
 refine N.FSo.1.ok fH (fun vs H Q E h=>?_) (fun cdv A outer s H vs Q E hr h=>?_)
 ·obtain ⟨x,c,sz,rk,kbs,ls,D,n,rfl,_⟩:=h
  rfl
 ·obtain ⟨x,c,sz,rk,kbs,ls,D,n,rfl,O,hkb,hls,hn,hnt,q⟩:=h
  have hrSk:BR 6 _:=hr.mono (by decide)
  have hrBa:BR 5 _:=hr.mono (by decide)
  refine ⟨_,(Ah (Aw (Ai GBa hrBa rfl N.FBa.2.2 N.FBa.1.kp N.FBa.2.1 .nil Ao (Aa (pv 0) (Aa (pv 1) (Aa (Ai GSk hrSk rfl N.FSk.2.2 N.FSk.1.kp N.FSk.2.1 .nil Ao (Aa (pv 0) (Aa (pv 1) (Aa (pv 2) Ac)))) Ac)))))),?_⟩
  have h305:=Ei O.o
  rw [B_] at h305
  refine ⟨_,rfl,_,rfl,_,rfl,_,rfl,_,rfl,x,c,sz,kbs,D,n,rfl,O.o,hkb,hn,hnt,fun m H1 s1 hm=>?_⟩
  have hm12:m<2 ^ 1200:=by
   refine Nat.lt_pow_two_of_testBit m fun i hi=>?_
   rw [← Bool.not_eq_true]
   intro hb
   rcases (hm i).mp hb with h | h
   ·have:=h.lt
    rw [B_] at this
    omega
   ·have:=hnt i h.1
    omega
  exact ⟨x,c,sz,rk,kbs,ls,D,m,rfl,O.mono s1,hkb,hls,hm12,fun cl H2 s2 hcl=>q cl m H2 (s1.trans s2) hcl hm⟩
theorem XD (sz:List Nat) (b n i:Nat):(M9 sz b n).testBit i=true ↔ i<sz.getD b 0/\n.testBit ((sz.take b).sum+i)=true:=by
 unfold M9
 rw [Wd.Jf]
 have e:((i:Int) - -(((sz.take b).sum:Nat):Int)).toNat=(sz.take b).sum+i:=by omega
 rw [e,Bool.and_eq_true,Bool.and_eq_true,decide_eq_true_eq,decide_eq_true_eq]
 exact ⟨fun h=>⟨h.1,h.2.2⟩,fun h=>⟨h.1,by omega,h.2⟩⟩
theorem VF {rk:List (Str × Nat × Int)} {l:Ln} (g:dj rk l) (n p:Nat):(JD rk l n).testBit p=true ↔ ∃ i:Nat,n.testBit i=true/\l.lo<=(i:Int)/\(i:Int)<=l.hi/\0<=(i:Int)+l.sh/\(i:Int)+l.sh<(JT rk l.r:Nat)/\(p:Int)=(QM rk l.r:Nat)+((i:Int)+l.sh):=by
 have h1:=g.lo
 have h2:=g.le
 have h3:=Tc g.r
 unfold JD
 rw [Wd.Jf,Wd.Jf,Wd.Jf]
 simp only [Bool.and_eq_true,decide_eq_true_eq]
 constructor
 ·rintro ⟨a1,a2,b1,b2,c1,c2,hn⟩
  exact ⟨_,hn,by omega,by omega,by omega,by omega,by omega⟩
 ·rintro ⟨i,hn,a1,a2,a3,a4,e⟩
  have ei:(((((((p:Int) - ((QM rk l.r:Nat):Int)).toNat:Nat):Int) - (l.lo+l.sh)).toNat:Nat):Int) - -l.lo=(i:Int):=by omega
  refine ⟨by omega,by omega,by omega,by omega,by omega,by omega,?_⟩
  rw [ei,Int.toNat_natCast]
  exact hn
theorem Wl {sz:List Nat} {rk:List (Str × Nat × Int)} {kbs:List Kb} {ls:List (List Ln)} {cl:List Nat} {n p:Nat}:(YJ sz rk kbs ls cl n).testBit p=true ↔ ∃ k∈cl,(Wa sz rk (DW kbs k) (ls.getD k []) n).testBit p=true:=by
 unfold YJ
 rw [LC]
 constructor
 ·rintro ⟨m,hm,hb⟩
  obtain ⟨k,hk,rfl⟩:=List.mem_map.mp hm
  exact ⟨k,hk,hb⟩
 ·rintro ⟨k,hk,hb⟩
  exact ⟨_,List.mem_map_of_mem hk,hb⟩
noncomputable def aA (K:PySem.W.Frag):Sp:=fun vs H Q _=>∃ (a:Addr) (k:Nat) (ns:List Int),vs=[.ref a,.int (k:Nat)]/\CP K H a (ns.map V.int)/\∀ i:Int,Q (.int i) H
theorem gj:Av ["_law_script","_law_k"] ["_law_script","_law_k"] (Ag fY):=Bl
include N T in
theorem Y9:Aq P w K mg base Be 1 aD.fCe aD.dCe ["_law_script","_law_k"] (aA K):=by
 refine N.FCe.1.ok gj (fun vs H Q E h=>?_) (fun cdv A outer s H vs Q E hr h=>?_)
 ·obtain ⟨a,k,ns,rfl,_⟩:=h
  rfl
 ·obtain ⟨a,k,ns,rfl,hS,q⟩:=h
  refine ⟨_,(Ae (Br (BW GX (pv 1) (BL BX rfl T.len PySem.boot_len (Aa (pv 0) Ac)) (Bc _)) (Ah (Aw (Am Ek (pv 0) (pv 1) (fun _ _=>rfl)))) Bb)
   (Ah (Aw Ab))),?_⟩
  refine ⟨_,rfl,_,rfl,a,_,rfl,.inl hS,_,_,rfl,rfl,_,rfl,?_⟩
  refine Dr (fun h1=>?_) (fun _=>q 0)
  have hlt:k<ns.length:=by have:=of_decide_eq_true h1; rw [List.length_map] at this; omega
  exact ⟨_,rfl,_,rfl,a,_,_,.int ns[k],rfl,rfl,hS,Af (by rw [List.getElem?_map,List.getElem?_eq_getElem hlt]; rfl),q _⟩
theorem ju:Av ["_law_found"] ["_law_found"] (Ag jQ):=Bl
include N T in
theorem Wb:Aq P w K mg base Be 1 aD.fLw aD.dLw ["_law_found"] QC:=by
 refine N.FLw.1.ok ju (fun vs H Q E h=>?_) (fun cdv A outer s H vs Q E hr h=>?_)
 ·obtain ⟨i,rfl,_⟩:=h
  rfl
 ·obtain ⟨i,rfl,q⟩:=h
  refine ⟨_,(Ah (Aw (Dw (BL CK rfl T.isin PyProof.Rows.boot_isinstance (Aa (pv 0) (Aa (DQ (v:=.ty "int") rfl T.int PyProof.Rows.boot_int rfl) Ac))) (Ds (Oq (BL CK rfl T.isin PyProof.Rows.boot_isinstance (Aa (pv 0) (Aa (DQ (v:=.ty "bool") rfl T.bool PyProof.Rows.boot_bool rfl) Ac)))))))),?_⟩
  refine ⟨_,rfl,_,"int",_,_,rfl,.int i,ty_int,_,rfl,Cv ?_⟩
  exact ⟨_,rfl,_,"bool",_,_,rfl,.int i,V9,_,rfl,q⟩
noncomputable def J_:Sp:=fun vs H Q _=>∃ (c k:Int),vs=[.int c,.int k]/\0<=k/\k<=1000/\Q (.int (Bg c k)) H
theorem Yu:Av ["_law_cell","_law_k","_law_number"] ["_law_cell","_law_k"] (Ag jU):=Bl
include N T in
theorem Hs:Aq P w K mg base Be 1 aD.fMx aD.dMx ["_law_cell","_law_k"] J_:=by
 refine N.FMx.1.ok Yu (fun vs H Q E h=>?_) (fun cdv A outer s H vs Q E hr h=>?_)
 ·obtain ⟨c,k,rfl,_⟩:=h
  rfl
 ·obtain ⟨c,k,rfl,h0,h1,q⟩:=h
  refine ⟨_,(Ae (Br (PW.pt (Im (BW SJ (pv 0) (Ar Ry Ab Ab) (Bc _)) (Ht (BW WX (Ar Iz (pv 0) (Ar Hd Ab (pv 1))) Ab (Bc _))))) (Ah (Aw (Ar Bp (Ar Iz (pv 0) (Ar Hd Ab (pv 1))) Ab))) Bb)
   (Ae (Az (i:=2) Yu.nd rfl (Or.inl rfl) (Ar Bp (Ar Hd (Ar Bm (Ar Bm (Ar Bm (Ar Bp (pv 0) Ab) (Ar Hd (Ar Hd Ab (pv 1)) (pv 1))) (pv 1)) Ab) Ab) Ab))
   (Ah (Aw (Ar Bp (Ar Hd (pv 2) (pv 2)) Ab))))),?_⟩
  have rest:(decide ((10:Int) ^ (18:Int).toNat<=c) && decide (0<c / 2 ^ (31 * k).toNat))=false->Vs (Uu (M8 (rI (fun _ j=>0<j) fun i j=>.int (i % j)) (M8 (rI Oh fun i j=>.int (i * j)) (M8 (Qk fun i j=>.int (i+j)) (M8 (Qk fun i j=>.int (i+j)) (M8 (Qk fun i j=>.int (i+j)) (M8 (rI (fun _ j=>0<j) fun i j=>.int (i % j)) (Mf 0) (tC (.int 1000003))) (M8 (rI Oh fun i j=>.int (i * j)) (M8 (rI Oh fun i j=>.int (i * j)) (tC (.int 7919)) (Mf 1)) (Mf 1))) (Mf 1)) (tC (.int 1))) (tC (.int 48271))) (tC (.int 2147483629))) (Dg 2)) (bw (M8 (rI (fun _ j=>0<j) fun i j=>.int (i % j)) (M8 (rI Oh fun i j=>.int (i * j)) (Mf 2) (Mf 2)) (tC (.int 2147483587)))) { nx:=fun _ H'=>Q .non H',rt:=Q } [some (.int c),some (.int k),none] H:=fun g=>by
   refine ⟨_,rfl,_,_,rfl,rfl,(by show (0:Int)<1000003; decide),_,rfl,_,_,rfl,rfl,.inl ⟨by decide,by decide⟩,_,rfl,_,_,rfl,rfl,.inl ⟨by omega,by omega⟩,_,_,rfl,rfl,_,rfl,_,_,rfl,rfl,_,_,rfl,rfl,_,_,rfl,rfl,.inr ⟨by decide,by decide⟩,_,_,rfl,rfl,(by show (0:Int)<2147483629; decide),?_⟩
   have g1:0<=(c % 1000003+7919 * k * k+k+1) * 48271 % 2147483629:=Int.emod_nonneg _ (by decide)
   have g2:(c % 1000003+7919 * k * k+k+1) * 48271 % 2147483629<2147483629:=Int.emod_lt_of_pos _ (by decide)
   have q':=q
   unfold Bg bI at q'
   rw [g,if_neg Bool.false_ne_true] at q'
   exact ⟨_,rfl,_,rfl,_,_,rfl,rfl,.inl ⟨by omega,by omega⟩,_,_,rfl,rfl,(by show (0:Int)<2147483587; decide),q'⟩
  refine ⟨_,rfl,_,_,rfl,rfl,⟨by decide,by decide,by decide⟩,_,_,rfl,rfl,_,rfl,?_⟩
  refine Dr (fun ga=>?_) (fun ga=>?_)
  ·refine ⟨_,rfl,_,rfl,_,_,rfl,rfl,.inl ⟨by decide,by decide⟩,_,_,rfl,rfl,(by show (0:Int)<=31 * k; omega),_,_,rfl,rfl,_,rfl,?_⟩
   refine Dr (fun gb=>?_) (fun gb=>?_)
   ·refine ⟨_,rfl,_,rfl,_,_,rfl,rfl,.inl ⟨by decide,by decide⟩,_,_,rfl,rfl,(by show (0:Int)<=31 * k; omega),_,_,rfl,rfl,(by show (0:Int)<2147483587; decide),?_⟩
    have q':=q
    unfold Bg at q'
    rw [if_pos (by rw [Bool.and_eq_true]; exact ⟨ga,gb⟩)] at q'
    exact q'
   ·exact rest (by rw [(Bool.not_eq_true _).mp gb,Bool.and_false])
  ·refine Bo (rest (by rw [(Bool.not_eq_true _).mp ga,Bool.false_and]))
noncomputable def bZ:Sp:=fun vs H Q _=>∃ (c:Int) (k:Nat),vs=[.int c,.int (k:Nat)]/\k<676/\∀ H',An H H'->Q (.str (DG c k)) H'
theorem Q6:Av ["_law_cell","_law_k","_law_letters","_law_size","_law_name_here","_law_at","_law_two"] ["_law_cell","_law_k"] (Ag d9):=Bl
include N T in
theorem bO:Aq P w K mg base Be 2 aD.fNa aD.dNa ["_law_cell","_law_k"] bZ:=by
 have GMx:Aq P w K mg base Be 1 aD.fMx aD.dMx ["_law_cell","_law_k"] J_:=Hs N T
 refine N.FNa.1.ok Q6 (fun vs H Q E h=>?_) (fun cdv A outer s H vs Q E hr h=>?_)
 ·obtain ⟨c,k,rfl,_⟩:=h
  rfl
 ·obtain ⟨c,k,rfl,hk,q⟩:=h
  have hrMx:BR 1 _:=hr.mono (by decide)
  refine ⟨_,(Ae (Az (i:=2) Q6.nd rfl (Or.inr rfl) Bt)
   (Ae (Az (i:=3) Q6.nd rfl (Or.inl rfl) (Ar Bm Ab (Ar Bp (pv 0) Ab)))
   (Ae (Az (i:=4) Q6.nd rfl (Or.inl rfl) (En PySem.F.plainAttrs_str PySem.F.slot_str_join PySem.F.type_str_join Vo Bt (Aa (Bs rfl (Ba (osc:=Ag d9) (N:=["_law_cell","_law_k","_law_letters","_law_size","_law_name_here","_law_at","_law_two"]) rfl rfl (by decide +kernel)) (Cm rfl T.range (Aa (pv 3) Ac)) (fun _ _ _ _=>CZ) (fun _ _ _ _=>(Am Oj (pv 3) (Ar Bp (Ai GMx hrMx rfl N.FMx.2.2 N.FMx.1.kp N.FMx.2.1 .nil Ao (Aa (Ar Cq (pv 1) Ab) (Aa (pv 0) Ac))) Ab) (fun _ _=>rfl)))) Ac)))
   (Ae (Az (i:=5) Q6.nd rfl (Or.inl rfl) (Ar Bp (Ar Cq (pv 0) Ab) (Ar Dy (pv 3) Ab)))
   (Ae (Az (i:=6) Q6.nd rfl (Or.inl rfl) (Ar Hc (Am Oj (pv 2) (Ar Cq (pv 1) Ab) (fun _ _=>rfl)) (Am Oj (pv 2) (Ar Bp (pv 1) Ab) (fun _ _=>rfl))))
   (Ah (Aw (Ar Hc (Ar Hc (Dd R_ (pv 4) Ec (Ca (pv 5))) (pv 6)) (Dd R_ (pv 4) (Ca (Ar Bm (pv 5) Ab)) Ec))))))))),?_⟩
  have zl:=Tw c
  have ez:2+c % 7=((Ni c:Nat):Int):=by unfold Ni; omega
  refine ⟨_,rfl,_,_,rfl,rfl,(by show (0:Int)<7; decide),_,_,rfl,rfl,rfl,?_⟩
  refine ⟨_,rfl,2+c % 7,rfl,by omega,by omega,?_⟩
  refine Dv (lo:=0) (n:=Ni c) (fun _=>true) (fun i=>.str ⟨#[97+(Bg (c / 7) i % 26).toNat]⟩) (Nat.lt_of_le_of_lt zl.2 (by decide)) (fun i hi H' hs R k=>k H' (An.refl H')) (fun i hi _ H' hs R k=>?_) (fun D H1 hD s1 hl1=>?_)
  ·have m0:0<=Bg (c / 7) (0+(i:Nat)) % 26:=Int.emod_nonneg _ (by decide)
   have m1:Bg (c / 7) (0+(i:Nat)) % 26<26:=Int.emod_lt_of_pos _ (by decide)
   exact ⟨_,rfl,_,rfl,_,_,rfl,rfl,⟨by decide,by decide⟩,_,rfl,_,_,rfl,by omega,by omega,_,_,rfl,rfl,(by show (0:Int)<26; decide),letters,_,_,rfl,rfl,DY (by decide +kernel),Nv m0 m1,k H' (An.refl H')⟩
  have e1:((((List.range (Ni c)).map fun (i:Nat)=>(0:Int)+(i:Int)).filter fun _=>true).map fun i=>V.str ⟨#[97+(Bg (c / 7) i % 26).toNat]⟩)=((GF c).map fun x=>(⟨#[x]⟩:Str)).map V.str:=by
   rw [List.filter_eq_self.mpr (fun _ _=>rfl)]
   unfold GF
   rw [List.map_map,List.map_map,List.map_map]
   refine List.map_congr_left fun i _=>?_
   show V.str ⟨#[97+(Bg (c / 7) (0+(i:Nat)) % 26).toNat]⟩=V.str ⟨#[97+(Bg (c / 7) (i:Nat) % 26).toNat]⟩
   rw [Int.zero_add]
  rw [e1] at hl1
  have hj:JoinOk ("" : Str) ((GF c).map fun x=>(⟨#[x]⟩:Str))=true:=by
   refine PyProof.Rows.joinOk_of_weight ?_ (by decide +kernel)
   rw [List.map_map,List.length_map,F_]
   have e2:((GF c).map ((fun x:Str=>x.length) ∘ fun x=>(⟨#[x]⟩:Str))).sum=(GF c).length:=by
    generalize GF c=l
    induction l with
    | nil=>rfl
    | cons a l ih =>
     rw [List.map_cons,List.sum_cons,ih,List.length_cons]
     show 1+l.length=l.length+1
     omega
   rw [e2,F_]
   omega
  refine ⟨("" : Str),D,_,rfl,rfl,.inl (.inl hl1),hj,?_⟩
  have ej:=Ov (GF c)
  generalize Txt.join ("" : Str) ((GF c).map fun x=>(⟨#[x]⟩:Str))=z at ej ⊢
  have lz:z.length=Ni c:=by
   have:z.length=z.cps.toList.length:=by simp [Str.length]
   rw [this,ej,F_]
  have la:=Rn c
  have ea:c / 49 % (2+c % 7 - 1)=((M_ c:Nat):Int):=by
   have h1:0<=c / 49 % (2+c % 7 - 1):=Int.emod_nonneg _ (by omega)
   unfold M_
   omega
  refine ⟨_,rfl,_,_,rfl,rfl,⟨by decide,by decide⟩,_,rfl,_,_,rfl,rfl,_,_,rfl,rfl,(by show (0:Int)<2+c % 7 - 1; omega),?_⟩
  refine ⟨_,rfl,_,rfl,_,_,rfl,rfl,⟨by decide,by decide⟩,letters,_,_,rfl,rfl,DY (by decide +kernel),Nv (by omega) (by omega),_,rfl,_,rfl,_,_,rfl,rfl,(by show (0:Int)<26; decide),letters,_,_,rfl,rfl,DY (by decide +kernel),Nv (by omega) (by omega),_,_,rfl,rfl,DY (by show 1+1<=1000; decide),?_⟩
  have s1e:=Nk (z:=z) (n:=M_ c) (by omega)
  have s2e:=NZ (z:=z) (n:=M_ c+2) (by omega)
  rw [ej] at s1e s2e
  have l1:(Txt.slice z none (some ((M_ c:Nat):Int))).length=M_ c:=by
   have:(Txt.slice z none (some ((M_ c:Nat):Int))).length=(Txt.slice z none (some ((M_ c:Nat):Int))).cps.toList.length:=by simp [Str.length]
   rw [this,s1e,List.length_take,F_]
   omega
  have l2:(Txt.slice z (some ((M_ c+2:Nat):Int)) none).length<=Ni c:=by
   have:(Txt.slice z (some ((M_ c+2:Nat):Int)) none).length=(Txt.slice z (some ((M_ c+2:Nat):Int)) none).cps.toList.length:=by simp [Str.length]
   rw [this,s2e,List.length_drop,F_]
   omega
  have ea2:c / 49 % (2+c % 7 - 1)+2=((M_ c+2:Nat):Int):=by rw [ea]; rfl
  have la2:∀ a b:Str,(a++b).length=a.length+b.length:=fun a b=>by
   show (a.cps++b.cps).size=a.cps.size+b.cps.size
   simp
  have lt:((⟨#[97+((k:Int) / 26).toNat]⟩:Str)++(⟨#[97+((k:Int) % 26).toNat]⟩:Str)).length=2:=by rw [la2]; rfl
  refine ⟨_,rfl,_,rfl,_,rfl,z,rfl,DY (by omega),_,rfl,_,_,rfl,rfl,DY (by show (Txt.slice z none (some (c / 49 % (2+c % 7 - 1)))).length+((⟨#[97+((k:Int) / 26).toNat]⟩:Str)++(⟨#[97+((k:Int) % 26).toNat]⟩:Str)).length<=1000; rw [ea,l1,lt]; omega),_,rfl,_,rfl,_,_,rfl,rfl,_,rfl,z,rfl,DY (by omega),_,_,rfl,rfl,DY (by
   show (Txt.slice z none (some (c / 49 % (2+c % 7 - 1)))++((⟨#[97+((k:Int) / 26).toNat]⟩:Str)++(⟨#[97+((k:Int) % 26).toNat]⟩:Str))).length+(Txt.slice z (some (c / 49 % (2+c % 7 - 1)+2)) none).length<=1000
   rw [la2,lt,ea2,ea,l1]
   omega),?_⟩
  have fin:=q H1 s1
  have e9:(Txt.slice z none (some (c / 49 % (2+c % 7 - 1)))++((⟨#[97+((k:Int) / 26).toNat]⟩:Str)++(⟨#[97+((k:Int) % 26).toNat]⟩:Str)))++Txt.slice z (some (c / 49 % (2+c % 7 - 1)+2)) none=DG c k:=by
   rw [ea2,ea]
   refine Vc ?_
   have la3:∀ a b:Str,(a++b).cps.toList=a.cps.toList++b.cps.toList:=fun a b=>by
    show (a.cps++b.cps).toList=_
    simp
   rw [la3,la3,la3,s1e,s2e]
   have k1:((k:Int) / 26).toNat=k / 26:=by omega
   have k2:((k:Int) % 26).toNat=k % 26:=by omega
   rw [k1,k2]
   simp [DG,IW]
  rw [← e9] at fin
  exact fin
noncomputable def cC:Sp:=fun vs H Q _=>∃ (c:Int) (m mx:Nat),vs=[.int c,.int (m:Nat),.int (mx:Nat)]/\1<=m/\m<=5/\1<=mx/\mx<=61/\∀ D (sz:List Nat) H',H D=none->An H H'->H' D=some (.lst (sz.map fun n:Nat=>V.int (n:Nat)))->sz.length=m->(∀ s∈sz,1<=s/\s<=mx)->Q (.ref D) H'
theorem iY:Av ["_law_cell","_law_many","_law_most"] ["_law_cell","_law_many","_law_most"] (Ag dY):=Bl
include N T in
theorem cN:Aq P w K mg base Be 2 aD.fSz aD.dSz ["_law_cell","_law_many","_law_most"] cC:=by
 have GMx:Aq P w K mg base Be 1 aD.fMx aD.dMx ["_law_cell","_law_k"] J_:=Hs N T
 refine N.FSz.1.ok iY (fun vs H Q E h=>?_) (fun cdv A outer s H vs Q E hr h=>?_)
 ·obtain ⟨c,m,mx,rfl,_⟩:=h
  rfl
 ·obtain ⟨c,m,mx,rfl,hm0,hm,hx0,hx,q⟩:=h
  have hrMx:BR 1 _:=hr.mono (by decide)
  refine ⟨_,(Ah (Aw (Bs rfl (Ba (osc:=Ag dY) (N:=["_law_cell","_law_many","_law_most"]) rfl rfl (by decide +kernel)) (Cm rfl T.range (Aa (pv 1) Ac)) (fun _ _ _ _=>CZ) (fun _ _ _ _=>(Ar Bm Ab (Ar Bp (Ai GMx hrMx rfl N.FMx.2.2 N.FMx.1.kp N.FMx.2.1 .nil Ao (Aa (pv 1) (Aa (Ar Bm Ab (pv 0)) Ac))) (pv 3))))))),?_⟩
  refine ⟨_,rfl,_,rfl,by omega,by omega,?_⟩
  rw [Int.toNat_natCast]
  refine Dv (lo:=0) (n:=m) (fun _=>true) (fun i=>.int (1+Bg c (50+i) % (mx:Nat))) (Nat.lt_of_le_of_lt hm (by decide)) (fun i hi H' hs R k=>k H' (An.refl H')) (fun i hi _ H' hs R k=>?_) (fun D H1 hD s1 hl1=>?_)
  ·exact ⟨_,rfl,_,rfl,_,_,rfl,rfl,_,_,rfl,by omega,by omega,_,rfl,_,_,rfl,rfl,(by show (0:Int)<(mx:Nat); omega),_,_,rfl,rfl,k H' (An.refl H')⟩
  ·refine q D ((List.range m).map fun (i:Nat)=>(1+Bg c (50+(0+(i:Nat))) % (mx:Nat)).toNat) H1 hD s1 ?_ (by simp) (fun s hs=>?_)
   ·rw [hl1,List.filter_eq_self.mpr (fun _ _=>rfl),List.map_map,List.map_map]
    refine congrArg (fun l=>some (HO.lst l)) (List.map_congr_left fun i _=>?_)
    have h1:0<=Bg c (50+(0+(i:Int))) % (mx:Nat):=Int.emod_nonneg _ (by omega)
    show V.int (1+Bg c (50+(0+(i:Int))) % (mx:Nat))=V.int (((1+Bg c (50+(0+(i:Int))) % (mx:Nat)).toNat:Nat):Int)
    rw [Int.toNat_of_nonneg (by omega)]
   ·obtain ⟨i,_,rfl⟩:=List.mem_map.mp hs
    have h1:0<=Bg c (50+(0+(i:Int))) % (mx:Nat):=Int.emod_nonneg _ (by omega)
    have h2:Bg c (50+(0+(i:Int))) % (mx:Nat)<(mx:Nat):=Int.emod_lt_of_pos _ (by omega)
    omega
noncomputable def Zb:Sp:=fun vs H Q _=>∃ (c:Int) (s:Nat) (p:Addr) (pz:List Nat),vs=[.int c,.int (s:Nat),.ref p]/\H p=some (.lst (pz.map fun n:Nat=>V.int (n:Nat)))/\1<=pz.length/\pz.length<=4/\(∀ z∈pz,1<=z/\z<=97)/\1<=s/\s<=61/\∀ A (l:List Ln) ts H',H A=none->An H H'->H' A=some (.lst ts)->Paired (fun x y=>TupAt H' (RG x) y) l ts->l.length<=4->(∀ x∈l,YH s pz x)->Q (.ref A) H'
theorem M6:Av ["_law_cell","_law_size","_law_pipes","_law_lines_here","_law_k","_law_rank","_law_low","_law_high","_law_number","_law_shift"] ["_law_cell","_law_size","_law_pipes"] (Ag gC):=Bl
include N T in
theorem Ys:Aq P w K mg base Be 2 aD.fLn aD.dLn ["_law_cell","_law_size","_law_pipes"] Zb:=by
 have GMx:Aq P w K mg base Be 1 aD.fMx aD.dMx ["_law_cell","_law_k"] J_:=Hs N T
 refine N.FLn.1.ok M6 (fun vs H Q E h=>?_) (fun cdv A outer s H vs Q E hr h=>?_)
 ·obtain ⟨c,s0,p,pz,rfl,_⟩:=h
  rfl
 ·obtain ⟨c,s0,p,pz,rfl,hp,h0,h4,hz,hs0,hs1,q⟩:=h
  have hrMx:BR 1 _:=hr.mono (by decide)
  refine ⟨_,(Ae (Az (i:=3) M6.nd rfl (Or.inl rfl) (Df Ac))
   (Ae (DN PassesOwn.never rfl (Cm rfl T.range (Aa (Ar Bm (Ar Bp (Ai GMx hrMx rfl N.FMx.2.2 N.FMx.1.kp N.FMx.2.1 .nil Ao (Aa (pv 0) (Aa Ab Ac))) Ab) (Dz Kp rfl T.int PyProof.Rows.boot_int (Aa (Dq Du (Ar Bp (Ai GMx hrMx rfl N.FMx.2.2 N.FMx.1.kp N.FMx.2.1 .nil Ao (Aa (pv 0) (Aa Ab Ac))) Ab) Ab (Bc _)) Ac))) Ac)) (Bd (i:=4) M6.nd rfl (Or.inl rfl)) (Ae (Az (i:=5) M6.nd rfl (Or.inl rfl) (Ar Bp (Ai GMx hrMx rfl N.FMx.2.2 N.FMx.1.kp N.FMx.2.1 .nil Ao (Aa (pv 0) (Aa (Ar Bm Ab (pv 4)) Ac))) (BL BX rfl T.len PySem.boot_len (Aa (pv 2) Ac))))
   (Ae (Az (i:=6) M6.nd rfl (Or.inl rfl) (Ar Bp (Ai GMx hrMx rfl N.FMx.2.2 N.FMx.1.kp N.FMx.2.1 .nil Ao (Aa (pv 0) (Aa (Ar Bm Ab (pv 4)) Ac))) (pv 1)))
   (Ae (Az (i:=7) M6.nd rfl (Or.inl rfl) (Ar Bm (pv 6) (Ar Bp (Ai GMx hrMx rfl N.FMx.2.2 N.FMx.1.kp N.FMx.2.1 .nil Ao (Aa (pv 0) (Aa (Ar Bm Ab (pv 4)) Ac))) (Ar Dy (pv 1) (pv 6)))))
   (Ae (Az (i:=8) M6.nd rfl (Or.inl rfl) (Ai GMx hrMx rfl N.FMx.2.2 N.FMx.1.kp N.FMx.2.1 .nil Ao (Aa (pv 0) (Aa (Ar Bm Ab (pv 4)) Ac))))
   (Ae (Az (i:=9) M6.nd rfl (Or.inl rfl) (Am Ek (Df (Aa Ab (Aa (Ar Dy (Ar Bp (Ar Cq (pv 8) Ab) Ab) Ab) (Aa (Ar Dy (Ar Dy (Am (BV (K:=K) rfl) (pv 2) (pv 5) (fun _ _=>rfl)) Ab) (pv 7)) (Aa (Ar Dy (Ar Bp (Ar Cq (pv 8) Ab) Ab) Ab) Ac))))) (Ar Bp (pv 8) Ab) (fun _ _=>rfl)))
   (Ah (C_ (En PySem.F.plainAttrs_list PySem.F.slot_list_append PySem.F.type_list_append CG (pv 3) (Aa (CQ (Aa (pv 5) (Aa (pv 9) (Aa (pv 6) (Aa (pv 7) Ac))))) Ac))))))))))
   (Ah (Aw (pv 3))))),?_⟩
  have hlen:(((pz.map fun n:Nat=>V.int (n:Nat)).length:Nat):Int)=((pz.length:Nat):Int):=by rw [List.length_map]
  refine ⟨DY (by simp),fun D hD=>?_⟩
  obtain ⟨H0,eqH,t0,u0⟩:=JC (o:=HO.lst []) hD
  rw [eqH]
  have m4:0<=Bg c 21 % 4/\Bg c 21 % 4<4:=⟨Int.emod_nonneg _ (by decide),Int.emod_lt_of_pos _ (by decide)⟩
  have bl:∀ b:Bool,0<=(if b=true then (1:Int) else 0)/\(if b=true then (1:Int) else 0)<=1:=fun b=>by cases b <;> decide
  refine ⟨_,rfl,_,_,rfl,by decide,by decide,_,_,rfl,rfl,(by show (0:Int)<4; decide),_,rfl,_,_,rfl,by decide,by decide,_,_,rfl,rfl,(by show (0:Int)<8; decide),rfl,.inr ⟨_,rfl,?_⟩⟩
  have bb:=bl (decide (V.int (Bg c 22 % 8)=V.int 0))
  generalize (if decide (V.int (Bg c 22 % 8)=V.int 0)=true then (1:Int) else 0)=b0 at bb ⊢
  obtain ⟨n,en,hn⟩:∃ n:Nat,Bg c 21 % 4+b0=(n:Int)/\n<=4:=⟨(Bg c 21 % 4+b0).toNat,by omega,by omega⟩
  refine ⟨_,_,rfl,rfl,_,rfl,(by rw [en]; omega),(by rw [en]; omega),?_⟩
  rw [en,Int.toNat_natCast]
  refine Ij (lo:=0) (n:=n) (fun i σ H4=>An H H4/\∃ (l:List Ln) (ts:List V),H4 D=some (.lst ts)/\Paired (fun x y=>TupAt H4 (RG x) y) l ts/\l.length=i/\(∀ x∈l,YH s0 pz x)/\∃ v4 v5 v6 v7 v8 v9,σ=[some (.int c),some (.int (s0:Nat)),some (.ref p),some (.ref D),v4,v5,v6,v7,v8,v9])
   ⟨t0,[],[],u0,.nil,rfl,(fun x hx=>nomatch hx),_,_,_,_,_,_,rfl⟩ ?_ ?_
  ·rintro i σ H4 hi ⟨s4,l,ts,hd,hpr,hll,hg,v4,v5,v6,v7,v8,v9,rfl⟩
   have hp4:=s4 _ _ hp
   refine ⟨_,rfl,_,rfl,_,_,rfl,rfl,_,_,rfl,by omega,by omega,_,rfl,p,_,rfl,.inl (.inl (.inl hp4)),_,_,rfl,rfl,(by show (0:Int)<(((pz.map fun n:Nat=>V.int (n:Nat)).length:Nat):Int); rw [hlen]; omega),?_⟩
   rw [hlen]
   show Dg 5 (V.int (Bg c (23+(0+(i:Int))) % ((pz.length:Nat):Int))) _ _ _
   obtain ⟨r,er,hr⟩:∃ r:Nat,Bg c (23+(0+(i:Int))) % ((pz.length:Nat):Int)=(r:Int)/\r<pz.length:=by
    have g1:0<=Bg c (23+(0+(i:Int))) % ((pz.length:Nat):Int):=Int.emod_nonneg _ (by omega)
    have g2:Bg c (23+(0+(i:Int))) % ((pz.length:Nat):Int)<((pz.length:Nat):Int):=Int.emod_lt_of_pos _ (by omega)
    exact ⟨(Bg c (23+(0+(i:Int))) % ((pz.length:Nat):Int)).toNat,by omega,by omega⟩
   rw [er]
   refine ⟨_,rfl,_,rfl,_,_,rfl,rfl,_,_,rfl,by omega,by omega,_,rfl,_,_,rfl,rfl,(by show (0:Int)<((s0:Nat):Int); omega),?_⟩
   show Dg 6 (V.int (Bg c (28+(0+(i:Int))) % ((s0:Nat):Int))) _ _ _
   have lo0:0<=Bg c (28+(0+(i:Int))) % ((s0:Nat):Int):=Int.emod_nonneg _ (by omega)
   have lo1:Bg c (28+(0+(i:Int))) % ((s0:Nat):Int)<((s0:Nat):Int):=Int.emod_lt_of_pos _ (by omega)
   generalize Bg c (28+(0+(i:Int))) % ((s0:Nat):Int)=lo at lo0 lo1 ⊢
   refine ⟨_,rfl,_,rfl,_,rfl,_,_,rfl,rfl,_,_,rfl,by omega,by omega,_,rfl,_,rfl,_,_,rfl,rfl,_,_,rfl,rfl,(by show (0:Int)<((s0:Nat):Int) - lo; omega),_,_,rfl,rfl,?_⟩
   show Dg 7 (V.int (lo+Bg c (33+(0+(i:Int))) % (((s0:Nat):Int) - lo))) _ _ _
   have hi0:0<=Bg c (33+(0+(i:Int))) % (((s0:Nat):Int) - lo):=Int.emod_nonneg _ (by omega)
   have hi1:Bg c (33+(0+(i:Int))) % (((s0:Nat):Int) - lo)<((s0:Nat):Int) - lo:=Int.emod_lt_of_pos _ (by omega)
   generalize Bg c (33+(0+(i:Int))) % (((s0:Nat):Int) - lo)=hx at hi0 hi1 ⊢
   refine ⟨_,rfl,_,rfl,_,_,rfl,rfl,_,_,rfl,by omega,by omega,?_⟩
   show Dg 8 (V.int (Bg c (38+(0+(i:Int))))) _ _ _
   generalize Bg c (38+(0+(i:Int)))=nu
   have hpr4:MJ (pz.map fun n:Nat=>V.int (n:Nat)) (r:Int)=some (.int (pz[r]:Nat)):=Af (by rw [List.getElem?_map,List.getElem?_eq_getElem hr]; rfl)
   have hzr:=hz pz[r] (List.getElem_mem hr)
   have m5:0<=nu / 8 % 5/\nu / 8 % 5<5:=⟨Int.emod_nonneg _ (by decide),Int.emod_lt_of_pos _ (by decide)⟩
   have m401:0<=nu / 8 % 401/\nu / 8 % 401<401:=⟨Int.emod_nonneg _ (by decide),Int.emod_lt_of_pos _ (by decide)⟩
   have mm4:0<=nu % 4/\nu % 4<4:=⟨Int.emod_nonneg _ (by decide),Int.emod_lt_of_pos _ (by decide)⟩
   obtain ⟨v,hv,hm⟩:=Lh (xs:=[V.int 0,V.int (nu / 8 % 5 - 2),V.int (((pz[r]:Nat):Int) - 1 - (lo+hx)),V.int (nu / 8 % 401 - 200)]) (i:=nu % 4) mm4.1 mm4.2
   obtain ⟨sh,rfl,hsh0,hsh1⟩:∃ sh:Int,v=.int sh /\ -200<=sh/\sh<=200:=by
    simp only [List.mem_cons,List.mem_singleton,List.not_mem_nil,or_false] at hm
    rcases hm with rfl | rfl | rfl | rfl
    ·exact ⟨_,rfl,by decide,by decide⟩
    ·exact ⟨_,rfl,by omega,by omega⟩
    ·exact ⟨_,rfl,by omega,by omega⟩
    ·exact ⟨_,rfl,by omega,by omega⟩
   refine ⟨_,rfl,_,_,rfl,rfl,⟨by decide,by decide⟩,_,_,rfl,rfl,(by show (0:Int)<5; decide),_,_,rfl,rfl,_,rfl,_,rfl,p,_,_,_,rfl,rfl,.inl (.inl hp4),hpr4,_,_,rfl,rfl,_,rfl,_,_,rfl,rfl,_,rfl,_,_,rfl,rfl,⟨by decide,by decide⟩,_,_,rfl,rfl,(by show (0:Int)<401; decide),_,_,rfl,rfl,by show 4<=sizeLine; decide,fun L5 hL5=>?_⟩
   obtain ⟨H5,eqH,t5,u5⟩:=JC (o:=HO.lst [V.int 0,V.int (nu / 8 % 5 - 2),V.int (((pz[r]:Nat):Int) - 1 - (lo+hx)),V.int (nu / 8 % 401 - 200)]) hL5
   rw [eqH]
   refine ⟨_,rfl,_,_,rfl,rfl,(by show (0:Int)<4; decide),L5,_,_,_,rfl,rfl,.inl (.inl u5),hv,?_⟩
   have hd5:=t5 _ _ hd
   refine ⟨_,rfl,.inl ⟨rfl,_,.inl (.inl hd5)⟩,_,rfl,_,rfl,_,rfl,_,rfl,by show 4<=sizeLine; decide,fun T6 hT6=>?_⟩
   have t6:=Ax (o:=HO.tup [V.int (r:Nat),V.int sh,V.int lo,V.int (lo+hx)]) hT6
   have u6:upd H5 T6 (HO.tup [V.int (r:Nat),V.int sh,V.int lo,V.int (lo+hx)]) T6=some (.tup (RG ⟨r,sh,lo,lo+hx⟩)):=Aj
   generalize upd H5 T6 (HO.tup [V.int (r:Nat),V.int sh,V.int lo,V.int (lo+hx)])=H6 at t6 u6 ⊢
   have hd6:=t6 _ _ hd5
   have hlt:=hpr.length
   refine ⟨D,ts,_,rfl,rfl,hd6,BJ (by omega),?_⟩
   refine ⟨fun b o e=>?_,l++[⟨r,sh,lo,lo+hx⟩],ts++[V.ref T6],Aj,(By (Al (t5.trans t6) hpr) hd6).snoc (TupAt.upd ⟨T6,rfl,u6⟩ hd6),by rw [List.length_append,List.length_singleton,hll],fun x hx'=>?_,_,_,_,_,_,_,rfl⟩
   ·rw [BP (A_ e hD)]
    exact t6 _ _ (t5 _ _ (s4 _ _ e))
   ·rcases List.mem_append.mp hx' with g | g
    ·exact hg x g
    ·rw [List.mem_singleton.mp g]
     exact ⟨hr,lo0,by show lo<=lo+hx; omega,by show lo+hx<((s0:Nat):Int); omega,hsh0,hsh1⟩
  ·rintro σ H4 ⟨s4,l,ts,hd,hpr,hll,hg,v4,v5,v6,v7,v8,v9,rfl⟩
   exact ⟨_,rfl,q D l ts H4 hD s4 hd hpr (by omega) hg⟩
noncomputable abbrev e_ (sz pz:List Nat) (z:Kl):Prop:=z.2.length<=4/\(∀ x∈z.2,YH (sz.getD z.1.bd 0) pz x)/\(¬ z.1.w = "stop"->z.2=[])
noncomputable def Zc:Sp:=fun vs H Q _=>∃ (c:Int) (p pp:Addr) (sz pz:List Nat),vs=[.int c,.ref p,.ref pp]/\H p=some (.lst (sz.map fun n:Nat=>V.int (n:Nat)))/\H pp=some (.lst (pz.map fun n:Nat=>V.int (n:Nat)))/\1<=sz.length/\sz.length<=5/\(∀ s∈sz,1<=s/\s<=61)/\1<=pz.length/\pz.length<=4/\(∀ z∈pz,1<=z/\z<=97)/\∀ (z:Kl) y H',An H H'->z.1.ok sz.length->e_ sz pz z->(c % 8=4->z.1.w = "stop")->(∀ Dx o,H Dx=some o->FJ Dx H' z y)->Q y H'
theorem RK:Av ["_law_cell","_law_sizes_here","_law_pipes","_law_many","_law_one","_law_other","_law_shift"] ["_law_cell","_law_sizes_here","_law_pipes"] (Ag gZ):=Bl
include N T in
theorem Zy:Aq P w K mg base Be 3 aD.fKn aD.dKn ["_law_cell","_law_sizes_here","_law_pipes"] Zc:=by
 have GMx:Aq P w K mg base Be 1 aD.fMx aD.dMx ["_law_cell","_law_k"] J_:=Hs N T
 have GLn:Aq P w K mg base Be 2 aD.fLn aD.dLn ["_law_cell","_law_size","_law_pipes"] Zb:=Ys N T
 refine N.FKn.1.ok RK (fun vs H Q E h=>?_) (fun cdv A outer s H vs Q E hr h=>?_)
 ·obtain ⟨c,p,pp,sz,pz,rfl,_⟩:=h
  rfl
 ·obtain ⟨c,p,pp,sz,pz,rfl,hp,hpp,h0,h5,hsz,g0,g4,hpz,q⟩:=h
  have hrMx:BR 1 _:=hr.mono (by decide)
  have hrLn:BR 2 _:=hr.mono (by decide)
  refine ⟨_,(Ae (Az (i:=3) RK.nd rfl (Or.inl rfl) (BL BX rfl T.len PySem.boot_len (Aa (pv 1) Ac)))
   (Ae (Az (i:=4) RK.nd rfl (Or.inl rfl) (Ar Bp (Ai GMx hrMx rfl N.FMx.2.2 N.FMx.1.kp N.FMx.2.1 .nil Ao (Aa (Ar Cq (pv 0) Ab) (Aa Ab Ac))) (pv 3)))
   (Ae (Az (i:=5) RK.nd rfl (Or.inl rfl) (Ar Bp (Ai GMx hrMx rfl N.FMx.2.2 N.FMx.1.kp N.FMx.2.1 .nil Ao (Aa (Ar Cq (pv 0) Ab) (Aa Ab Ac))) (pv 3)))
   (Ae (Br (BW GX (Ar Bp (pv 0) Ab) Ab (Bc _)) (Ae (Az (i:=6) RK.nd rfl (Or.inl rfl) (Df (Aa Ab (Aa Ab (Aa (G5 FP Ab) (Aa Ab (Aa (Ar Dy (Ar Bp (Ai GMx hrMx rfl N.FMx.2.2 N.FMx.1.kp N.FMx.2.1 .nil Ao (Aa (Ar Cq (pv 0) Ab) (Aa Ab Ac))) Ab) Ab) (Aa (Ar Dy (Ar Bp (Ai GMx hrMx rfl N.FMx.2.2 N.FMx.1.kp N.FMx.2.1 .nil Ao (Aa (Ar Cq (pv 0) Ab) (Aa Ab Ac))) Ab) Ab) Ac))))))))
   (Ah (Aw (CQ (Aa Bt (Aa (pv 4) (Aa (pv 5) (Aa (Am Ek (pv 6) (Ar Bp (Ai GMx hrMx rfl N.FMx.2.2 N.FMx.1.kp N.FMx.2.1 .nil Ao (Aa (Ar Cq (pv 0) Ab) (Aa Ab Ac))) Ab) (fun _ _=>rfl)) Ac)))))))) Bb)
   (Ae (Br (BW Du (Ar Bp (pv 0) Ab) Ab (Bc _)) (Ah (Aw (CQ (Aa Bt (Aa (pv 4) Ac))))) Bb)
   (Ah (Aw (CQ (Aa Bt (Aa (pv 4) (Aa (Ai GLn hrLn rfl N.FLn.2.2 N.FLn.1.kp N.FLn.2.1 .nil Ao (Aa (Ar Cq (pv 0) Ab) (Aa (Am (BV (K:=K) rfl) (pv 1) (pv 4) (fun _ _=>rfl)) (Aa (pv 2) Ac)))) Ac))))))))))),?_⟩
  have hlen:(((sz.map fun n:Nat=>V.int (n:Nat)).length:Nat):Int)=((sz.length:Nat):Int):=by rw [List.length_map]
  have hpos:(0:Int)<((sz.length:Nat):Int):=by omega
  refine ⟨_,rfl,p,_,rfl,.inl (.inl (.inl hp)),?_⟩
  rw [hlen]
  obtain ⟨a,ea,ha⟩:∃ a:Nat,Bg (c / 8) 11 % ((sz.length:Nat):Int)=(a:Int)/\a<sz.length:=by
   have g1:0<=Bg (c / 8) 11 % ((sz.length:Nat):Int):=Int.emod_nonneg _ (by omega)
   have g2:Bg (c / 8) 11 % ((sz.length:Nat):Int)<((sz.length:Nat):Int):=Int.emod_lt_of_pos _ hpos
   exact ⟨(Bg (c / 8) 11 % ((sz.length:Nat):Int)).toNat,by omega,by omega⟩
  obtain ⟨b,eb,hb⟩:∃ b:Nat,Bg (c / 8) 12 % ((sz.length:Nat):Int)=(b:Int)/\b<sz.length:=by
   have g1:0<=Bg (c / 8) 12 % ((sz.length:Nat):Int):=Int.emod_nonneg _ (by omega)
   have g2:Bg (c / 8) 12 % ((sz.length:Nat):Int)<((sz.length:Nat):Int):=Int.emod_lt_of_pos _ hpos
   exact ⟨(Bg (c / 8) 12 % ((sz.length:Nat):Int)).toNat,by omega,by omega⟩
  refine ⟨_,rfl,_,_,rfl,rfl,⟨by decide,by decide⟩,_,_,rfl,by decide,by decide,_,rfl,_,_,rfl,rfl,hpos,?_⟩
  show Dg 4 (V.int (Bg (c / 8) 11 % ((sz.length:Nat):Int))) _ _ _
  rw [ea]
  refine ⟨_,rfl,_,_,rfl,rfl,⟨by decide,by decide⟩,_,_,rfl,by decide,by decide,_,rfl,_,_,rfl,rfl,hpos,?_⟩
  show Dg 5 (V.int (Bg (c / 8) 12 % ((sz.length:Nat):Int))) _ _ _
  rw [eb]
  refine ⟨_,rfl,_,_,rfl,rfl,(by show (0:Int)<8; decide),_,_,rfl,rfl,_,rfl,?_⟩
  refine Dr (fun g=>?_) (fun g=>?_)
  ·refine ⟨_,rfl,_,rfl,_,_,rfl,rfl,⟨by decide,by decide⟩,_,_,rfl,by decide,by decide,_,_,rfl,rfl,(by show (0:Int)<17; decide),_,_,rfl,rfl,_,rfl,_,_,rfl,rfl,⟨by decide,by decide⟩,_,_,rfl,by decide,by decide,_,_,rfl,rfl,(by show (0:Int)<121; decide),_,_,rfl,rfl,by show 6<=sizeLine; decide,fun l hl=>?_⟩
   have m1:0<=Bg (c / 8) 13 % 17/\Bg (c / 8) 13 % 17<17:=⟨Int.emod_nonneg _ (by decide),Int.emod_lt_of_pos _ (by decide)⟩
   have m2:0<=Bg (c / 8) 13 % 121/\Bg (c / 8) 13 % 121<121:=⟨Int.emod_nonneg _ (by decide),Int.emod_lt_of_pos _ (by decide)⟩
   have m3:0<=Bg (c / 8) 14 % 6/\Bg (c / 8) 14 % 6<6:=⟨Int.emod_nonneg _ (by decide),Int.emod_lt_of_pos _ (by decide)⟩
   obtain ⟨v,hv,hm⟩:=Lh (xs:=[V.int 0,V.int 1,V.int (-1),V.int 2,V.int (Bg (c / 8) 13 % 17 - 8),V.int (Bg (c / 8) 13 % 121 - 60)]) (i:=Bg (c / 8) 14 % 6) m3.1 m3.2
   obtain ⟨s0,rfl,hs0,hs1⟩:∃ s0:Int,v=.int s0 /\ -60<=s0/\s0<=60:=by
    simp only [List.mem_cons,List.mem_singleton,List.not_mem_nil,or_false] at hm
    rcases hm with rfl | rfl | rfl | rfl | rfl | rfl
    ·exact ⟨_,rfl,by decide,by decide⟩
    ·exact ⟨_,rfl,by decide,by decide⟩
    ·exact ⟨_,rfl,by decide,by decide⟩
    ·exact ⟨_,rfl,by decide,by decide⟩
    ·exact ⟨_,rfl,by omega,by omega⟩
    ·exact ⟨_,rfl,by omega,by omega⟩
   refine ⟨_,rfl,_,rfl,_,rfl,_,rfl,_,_,rfl,rfl,⟨by decide,by decide⟩,_,_,rfl,by decide,by decide,_,_,rfl,rfl,(by show (0:Int)<6; decide),l,_,_,_,rfl,rfl,.inl (.inl Aj),hv,by show 4<=sizeLine; decide,fun T6 hT6=>?_⟩
   exact q (.cp a b s0,[]) _ _ ((Ax hl).trans (Ax hT6)) ⟨ha,hb,hs0,hs1⟩ ⟨by show 0<=4; decide,(fun x hx=>nomatch hx),fun _=>rfl⟩ (fun z=>absurd (of_decide_eq_true g) (by omega)) fun Dx o hDx=>⟨[],⟨T6,rfl,Aj⟩,.inl ⟨rfl,rfl,by show ¬ ("coupler" : Str) = "stop"; decide +kernel⟩⟩
  ·refine ⟨_,rfl,_,_,rfl,rfl,(by show (0:Int)<8; decide),rfl,_,rfl,?_⟩
   refine Dr (fun g2=>?_) (fun g2=>?_)
   ·refine ⟨_,rfl,by show 2<=sizeLine; decide,fun T6 hT6=>?_⟩
    exact q (.pl "mute" a,[]) _ _ (Ax hT6) ⟨ha,.inl rfl⟩ ⟨by show 0<=4; decide,(fun x hx=>nomatch hx),fun _=>rfl⟩ (fun z=>absurd (V.int.inj (of_decide_eq_true g2)) (by omega)) fun Dx o hDx=>⟨[],⟨T6,rfl,Aj⟩,.inl ⟨rfl,rfl,by show ¬ ("mute" : Str) = "stop"; decide +kernel⟩⟩
   ·have hat:MJ (sz.map fun n:Nat=>V.int (n:Nat)) (a:Int)=some (.int (sz[a]:Nat)):=Af (by rw [List.getElem?_map,List.getElem?_eq_getElem ha]; rfl)
    have hsa:=hsz sz[a] (List.getElem_mem ha)
    refine ⟨_,rfl,_,rfl,_,_,rfl,rfl,⟨by decide,by decide⟩,_,rfl,_,rfl,p,_,_,_,rfl,rfl,.inl (.inl hp),hat,_,rfl,c / 8,sz[a],pp,pz,rfl,hpp,g0,g4,hpz,hsa.1,hsa.2,fun A0 l ts H5 hA s5 hA5 hp5 hl4 hg=>?_⟩
    refine ⟨by show 3<=sizeLine; decide,fun T6 hT6=>?_⟩
    have t6:=Ax (o:=HO.tup [V.str "stop",V.int (a:Nat),V.ref A0]) hT6
    refine q (.pl "stop" a,l) _ _ (s5.trans t6) ⟨ha,.inr rfl⟩ ⟨hl4,fun x hx=>?_,fun z=>absurd rfl z⟩ (fun _=>rfl) fun Dx o hDx=>⟨[.ref A0],⟨T6,rfl,Aj⟩,.inr ⟨rfl,A0,ts,rfl,(fun z=>by rw [z,hDx] at hA; cases hA),t6 _ _ hA5,Al t6 hp5⟩⟩
    have:sz.getD a 0=sz[a]:=by rw [List.getD_eq_getElem?_getD,List.getElem?_eq_getElem ha]; rfl
    show YH (sz.getD a 0) pz x
    rw [this]
    exact hg x hx
noncomputable def YQ:Sp:=fun vs H Q _=>∃ (q0 p pp:Addr) (cs:List Int) (sz pz:List Nat),vs=[.ref q0,.ref p,.ref pp]/\H q0=some (.lst (cs.map V.int))/\cs.length<=21/\H p=some (.lst (sz.map fun n:Nat=>V.int (n:Nat)))/\H pp=some (.lst (pz.map fun n:Nat=>V.int (n:Nat)))/\1<=sz.length/\sz.length<=5/\(∀ s∈sz,1<=s/\s<=61)/\1<=pz.length/\pz.length<=4/\(∀ z∈pz,1<=z/\z<=97)/\∀ D (kls:List Kl) us H',H D=none->An H H'->H' D=some (.lst us)->Paired (fun z y=>FJ D H' z y) kls us->Qe sz pz kls->kls.length<=21->((∃ c∈cs,c % 8=4)->∃ z∈kls,z.1.w = "stop")->Q (.ref D) H'
theorem TF:Av ["_law_cells","_law_sizes_here","_law_pipes","_law_knobs_here","_law_cell","_law_knob_here","_law_most"] ["_law_cells","_law_sizes_here","_law_pipes"] (Ag eF):=Bl
include N T in
theorem ZL:Aq P w K mg base Be 4 aD.fKs aD.dKs ["_law_cells","_law_sizes_here","_law_pipes"] YQ:=by
 have GKn:Aq P w K mg base Be 3 aD.fKn aD.dKn ["_law_cell","_law_sizes_here","_law_pipes"] Zc:=Zy N T
 refine N.FKs.1.ok TF (fun vs H Q E h=>?_) (fun cdv A outer s H vs Q E hr h=>?_)
 ·obtain ⟨q0,p,pp,cs,sz,pz,rfl,_⟩:=h
  rfl
 ·obtain ⟨q0,p,pp,cs,sz,pz,rfl,hq,hc,hp,hpp,h0,h5,hsz,g0,g4,hpz,q⟩:=h
  have hrKn:BR 3 _:=hr.mono (by decide)
  have hu:=Fl hr
  refine ⟨_,(Ae (Az (i:=3) TF.nd rfl (Or.inl rfl) (Df Ac))
   (Ae (DN PassesOwn.never rfl (Bh (pv 0)) (Bd (i:=4) TF.nd rfl (Or.inl rfl)) (Ae (Az (i:=5) TF.nd rfl (Or.inr rfl) (Ai GKn hrKn rfl N.FKn.2.2 N.FKn.1.kp N.FKn.2.1 .nil Ao (Aa (pv 4) (Aa (pv 1) (Aa (pv 2) Ac)))))
   (Ae (Az (i:=6) TF.nd rfl (Or.inl rfl) (Ej hu (Ue (J6 Bt Ab (J6 Bt Ab (J6 Bt Ab Vg))) rfl rfl (by intro h; cases h) (by decide)) (Am (Ak (K:=K) rfl) (pv 5) Ab (fun _ _=>rfl)) (fun _ _=>rfl)))
   (Ah (Br (BW GX (BL BX rfl T.len PySem.boot_len (Aa (Bs rfl (Ba (osc:=Ag eF) (N:=["_law_cells","_law_sizes_here","_law_pipes","_law_knobs_here","_law_cell","_law_knob_here","_law_most"]) rfl rfl (by decide +kernel)) (Bh (pv 3)) (fun _ _ _ _=>(Gk (BW Du (Am (Ak (K:=K) rfl) (pv 0) Ab (fun _ _=>rfl)) (Am (Ak (K:=K) rfl) (pv 6) Ab (fun _ _=>rfl)) (Bc _)))) (fun _ _ _ _=>(pv 0))) Ac)) (pv 6) (Bc _)) (Ah (C_ (En PySem.F.plainAttrs_list PySem.F.slot_list_append PySem.F.type_list_append CG (pv 3) (Aa (pv 5) Ac)))) Bb)))))
   (Ah (Aw (pv 3))))),?_⟩
  refine ⟨DY (by simp),fun D hD=>?_⟩
  have s0:=Ax (o:=HO.lst []) hD
  have hS:CP K H q0 (cs.map V.int):=.inl (.inl hq)
  refine ⟨_,rfl,q0,rfl,⟨_,s0.seq hS⟩,Dl (K:=K) (a:=q0) (xs:=cs.map V.int) (fun i σ H4=>An H H4/\∃ (kls:List Kl) (us:List V),H4 D=some (.lst us)/\Paired (fun z y=>FJ D H4 z y) kls us/\Qe sz pz kls/\kls.length<=i/\(∀ (j:Nat) c,j<i->cs[j]? = some c->c % 8=4->∃ z∈kls,z.1.w = "stop")/\∃ v3 v4 v5,σ=[some (.ref q0),some (.ref p),some (.ref pp),some (.ref D),v3,v4,v5])
   ⟨s0,[],[],Aj,.nil,Qe.nil,Nat.le_refl _,(fun j c hj=>absurd hj (Nat.not_lt_zero _)),_,_,_,rfl⟩ (fun i σ H4 _ h=>h.1.seq hS) ?_ ?_⟩
  ·rintro i x σ H4 hx ⟨s4,kls,us,hd,hpr,hok,hlen,hst,v3,v4,v5,rfl⟩
   rw [List.getElem?_map] at hx
   obtain ⟨c,hci,rfl⟩:=Option.map_eq_some_iff.mp hx
   have hi:i<cs.length:=(List.getElem?_eq_some_iff.mp hci).1
   refine ⟨_,rfl,_,rfl,_,rfl,c,p,pp,sz,pz,rfl,s4 _ _ hp,s4 _ _ hpp,h0,h5,hsz,g0,g4,hpz,fun kb y H5 s5 ho hlw hs4 hy=>?_⟩
   have hy:=hy D _ hd
   obtain ⟨T5,r5,rfl,ht5'⟩:=hy.w0
   refine fun p6 hp6=>⟨Aj,[(Sum.inr "coupler",.int 12),(Sum.inr "mute",.int 5),(Sum.inr "stop",.int 24)],rfl,by decide,?_⟩
   have s6:An H5 (upd (upd H5 p6 (.dK [])) p6 (.dK (Fp [] [(Sum.inr "coupler",.int 12),(Sum.inr "mute",.int 5),(Sum.inr "stop",.int 24)]))):=fun b u e=>by rw [BP (A_ e hp6),BP (A_ e hp6)]; exact e
   have a6:upd (upd H5 p6 (.dK [])) p6 (.dK (Fp [] [(Sum.inr "coupler",.int 12),(Sum.inr "mute",.int 5),(Sum.inr "stop",.int 24)])) p6=some (.dK (Fp [] [(Sum.inr "coupler",.int 12),(Sum.inr "mute",.int 5),(Sum.inr "stop",.int 24)])):=Aj
   generalize upd (upd H5 p6 (.dK [])) p6 (.dK (Fp [] [(Sum.inr "coupler",.int 12),(Sum.inr "mute",.int 5),(Sum.inr "stop",.int 24)]))=H6 at s6 a6 ⊢
   have g:=Fv.k (k:=Sum.inr kb.1.w) a6
   rw [RN (Kb.wo ho)] at g
   refine ⟨_,rfl,T5,_,_,_,rfl,rfl,.inl (.inl (s6 _ _ ht5')),Af (j:=0) rfl,p6,_,rfl,g,?_⟩
   have s46:=s5.trans s6
   have d6:=s46 _ _ hd
   have pr6:Paired (fun z y=>FJ D H6 z y) kls us:=Paired.Fb hpr fun _ _ q=>q.mono s46
   have hS6:CP K H6 D us:=.inl (.inl d6)
   have hlu:=pr6.length
   refine ⟨_,rfl,D,rfl,⟨_,hS6⟩,Cp (K:=K) (xs:=us) (fun v=>decide (Jd H6 0 v=V.str kb.1.w)) id hS6 (BJ (by omega)) (fun x hx H' hs R k=>?_) (fun x hx _ H' hs R k=>⟨_,rfl,k H' (An.refl H')⟩) (fun D7 H7 hD7 s7 hl7=>?_)⟩
   ·obtain ⟨k1,_,hk1⟩:=DX pr6 hx
    obtain ⟨T1,r1,rfl,ht1⟩:=hk1.w0
    have e1:Jd H6 0 (.ref T1)=V.str k1.1.w:=by rw [Gg ⟨T1,rfl,ht1⟩ 0]; rfl
    have ht1:=hs _ _ ht1
    have kk:=k H' (An.refl H')
    rw [e1] at kk
    exact ⟨_,rfl,T1,_,_,_,rfl,rfl,.inl (.inl ht1),Af (j:=0) rfl,_,rfl,T5,_,_,_,rfl,rfl,.inl (.inl (hs _ _ (s6 _ _ ht5'))),Af (j:=0) rfl,rfl,_,rfl,kk⟩
   rw [List.map_id] at hl7
   have cnt:=S6 kb.1.w pr6
   refine ⟨D7,_,rfl,.inl (.inl (.inl hl7)),_,rfl,_,_,rfl,rfl,_,rfl,?_⟩
   have d7:=s7 _ _ d6
   have pr7:Paired (fun z y=>FJ D H7 z y) kls us:=Paired.Fb pr6 fun _ _ q=>q.mono s7
   refine Dr (fun g1=>?_) (fun g1=>?_)
   ·have g2:=of_decide_eq_true g1
    rw [cnt] at g2
    have n1:=Qe.snoc hok ho (by omega) hlw
    refine ⟨_,rfl,.inl ⟨rfl,_,.inl (.inl d7)⟩,_,rfl,D,us,_,rfl,rfl,d7,BJ (by omega),?_⟩
    refine ⟨fun b u e=>?_,kls++[kb],us++[.ref T5],Aj,(Paired.Fb pr7 fun _ _ q=>q.upd d7).snoc (((hy.mono s6).mono s7).upd d7),n1,by rw [List.length_append,List.length_singleton]; omega,(fun j c' hj hc' h4=>?_),_,_,_,rfl⟩
    rotate_left
    ·rcases Nat.lt_succ_iff_lt_or_eq.mp hj with h | rfl
     ·obtain ⟨z,hz,hw⟩:=hst j c' h hc' h4
      exact ⟨z,List.mem_append_left _ hz,hw⟩
     ·rw [hci] at hc'
      cases hc'
      exact ⟨kb,by simp,hs4 h4⟩
    rw [BP (A_ e hD)]
    exact s7 _ _ (s46 _ _ (s4 _ _ e))
   ·exact ⟨(s4.trans s46).trans s7,kls,us,d7,pr7,hok,by omega,(fun j c' hj hc' h4=>by
     rcases Nat.lt_succ_iff_lt_or_eq.mp hj with h | rfl
     ·exact hst j c' h hc' h4
     ·rw [hci] at hc'
      cases hc'
      exfalso
      refine g1 (decide_eq_true ?_)
      rw [cnt,hs4 h4]
      have hm:Fo "stop" = 24:=by decide +kernel
      have hle:=List.length_filter_le (G3 "stop") (kls.map (·.1))
      rw [List.length_map] at hle
      rw [hm]
      omega),_,_,_,rfl⟩
  ·rintro σ H4 ⟨s4,kls,us,hd,hpr,hok,hlen,hst,v3,v4,v5,rfl⟩
   rw [List.length_map] at hlen
   exact ⟨_,rfl,q D kls us H4 hD s4 hd hpr hok (by omega) fun ⟨c,hc',h4⟩=>by
    obtain ⟨j,hj,e⟩:=List.getElem_of_mem hc'
    exact hst j c (by rw [List.length_map]; exact hj) (by rw [← e]; exact List.getElem?_eq_getElem hj) h4⟩
noncomputable abbrev HJ (c:Nat->Str) (pz:List Nat) (wi:Nat->Int):List (Str × Nat × Int):=pz.zipIdx.map fun p=>(c (10+p.2),p.1,wi p.2)
theorem Ga (c:Nat->Str) (pz:List Nat) (wi:Nat->Int):(HJ c pz wi).length=pz.length:=by simp [HJ]
theorem Lp {c:Nat->Str} {pz:List Nat} {wi:Nat->Int} {i z:Nat} (h:pz[i]? = some z):(HJ c pz wi)[i]? = some (c (10+i),z,wi i):=by
 rw [List.getElem?_map,List.getElem?_zipIdx,h]
 simp
theorem FW {c:Nat->Str} {pz:List Nat} {wi:Nat->Int} {i:Nat} {r:Str × Nat × Int} (h:(HJ c pz wi)[i]? = some r):∃ z,pz[i]? = some z/\r=(c (10+i),z,wi i):=by
 have hi:i<pz.length:=by
  have:=(List.getElem?_eq_some_iff.mp h).1
  rw [Ga] at this
  exact this
 rw [Lp (List.getElem?_eq_getElem hi)] at h
 exact ⟨_,List.getElem?_eq_getElem hi,(Option.some.inj h).symm⟩
theorem Sq {c:Nat->Str} {pz:List Nat} {wi:Nat->Int} {i z:Nat} (h:pz[i]? = some z):(HJ c pz wi).take (i+1)=(HJ c pz wi).take i++[(c (10+i),z,wi i)]:=by
 rw [List.take_add_one,Lp h]
 rfl
theorem Q7 {c:Nat->Str} {sz:List Nat} {i z:Nat} (h:sz[i]? = some z):(BZ c sz).take (i+1)=(BZ c sz).take i++[(c i,z)]:=by
 rw [List.take_add_one,Ci h]
 rfl
theorem Qu {c:Nat->Str} {kbs:List Kb} {i:Nat} {z:Kb} (h:kbs[i]? = some z):(Bw c kbs).take (i+1)=(Bw c kbs).take i++[JQ c i z]:=by
 rw [List.take_add_one,De h]
 rfl
theorem Fq {c:Nat->Str} {sz:List Nat} {i:Nat} {b:Str × Nat} (h:b∈(BZ c sz).take i):∃ j,j<i/\j<sz.length/\b.1=c j:=by
 obtain ⟨j,hj,e⟩:=List.mem_take_iff_getElem.mp h
 have hj2:(BZ c sz)[j]? = some b:=by rw [← e]; exact List.getElem?_eq_getElem _
 obtain ⟨z,hz,rfl⟩:=GJ hj2
 exact ⟨j,by omega,(List.getElem?_eq_some_iff.mp hz).1,rfl⟩
theorem Hx {c:Nat->Str} {pz:List Nat} {wi:Nat->Int} {i:Nat} {r:Str × Nat × Int} (h:r∈(HJ c pz wi).take i):∃ j,j<i/\j<pz.length/\r.1=c (10+j):=by
 obtain ⟨j,hj,e⟩:=List.mem_take_iff_getElem.mp h
 have hj2:(HJ c pz wi)[j]? = some r:=by rw [← e]; exact List.getElem?_eq_getElem _
 obtain ⟨z,hz,rfl⟩:=FW hj2
 exact ⟨j,by omega,(List.getElem?_eq_some_iff.mp hz).1,rfl⟩
theorem KN {c:Nat->Str} {kbs:List Kb} {i:Nat} {r:R} (h:r∈(Bw c kbs).take i):∃ j,j<i/\j<kbs.length/\r.nm=c (30+j):=by
 obtain ⟨j,hj,e⟩:=List.mem_take_iff_getElem.mp h
 have hj2:(Bw c kbs)[j]? = some r:=by rw [← e]; exact List.getElem?_eq_getElem _
 obtain ⟨z,hz,rfl⟩:=Do hj2
 exact ⟨j,by omega,(List.getElem?_eq_some_iff.mp hz).1,P_ _ _ _⟩
theorem G6 {α:Type} {l:List α} {x:α} (h:x∈l):x∈l.take l.length:=by rw [List.take_length]; exact h
section
variable {c:Nat->Str} {sz pz:List Nat} {wi:Nat->Int} {aB aP aM:Addr}
theorem N6 (F:PQ K aB aP aM) (hn:∀ k,k<100->isNm (c k)) (hi:∀ k l,c k=c l->k=l) (h5:sz.length<=5) (hs:∀ s∈sz,1<=s/\s<=61):∀ i,i<=sz.length->HQ K aB aP aM (((BZ c sz).take i).map Fw) ((BZ c sz).take i) [] [] []:=by
 intro i
 induction i with
 | zero=>exact fun _=>HQ.nil
 | succ i ih =>
  intro hl
  have hz:=List.getElem?_eq_getElem (l:=sz) (i:=i) (by omega)
  have g:=hs _ (List.getElem_mem (l:=sz) (n:=i) (by omega))
  rw [Q7 hz,List.map_append]
  refine (ih (by omega)).Yk F (hn _ (by omega)) (fun b hb e=>?_) (by rw [List.length_take,GP]; omega) g.1 g.2
  obtain ⟨j,hj,_,e2⟩:=Fq hb
  have:=hi _ _ (e2.symm.trans e)
  omega
theorem Tg (F:PQ K aB aP aM) (hn:∀ k,k<100->isNm (c k)) (hi:∀ k l,c k=c l->k=l) (h5:sz.length<=5) (h4:pz.length<=4) (hp:∀ z∈pz,1<=z/\z<=97) (hw:∀ i,0<=wi i/\wi i<=1000000000) {rows:List R} {i z:Nat} (hz:pz[i]? = some z) (B:HQ K aB aP aM rows (BZ c sz) ((HJ c pz wi).take i) [] []):HQ K aB aP aM (rows++[Hv (c (10+i),z,wi i)]) (BZ c sz) ((HJ c pz wi).take (i+1)) [] []:=by
 have hl:=(List.getElem?_eq_some_iff.mp hz).1
 have g:=hp z (List.mem_of_getElem? hz)
 rw [Sq hz]
 refine B.rank F (hn _ (by omega)) (fun b hb e=>?_) (fun r hr e=>?_) (by rw [List.length_take,Ga]; omega) g.1 g.2 (hw i).1 (hw i).2
 ·obtain ⟨j,_,hj,e2⟩:=Fq (G6 hb)
  have:=hi _ _ (e2.symm.trans e)
  omega
 ·obtain ⟨j,hj,_,e2⟩:=Hx hr
  have:=hi _ _ (e2.symm.trans e)
  omega
theorem Xv {kls:List Kl} (w:Str) (i:Nat):(((Bw c (kls.map (·.1))).take i).filter fun r=>decide (V.str r.w=V.str w)).length=(((kls.map (·.1)).take i).filter (G3 w)).length:=by
 have e:(Bw c (kls.map (·.1))).map (·.w)=(kls.map (·.1)).map (·.w):=by
  refine List.ext_getElem? fun j=>?_
  rw [List.getElem?_map,List.getElem?_map]
  cases h:(kls.map (·.1))[j]? with
  | none=>rw [List.getElem?_eq_none (by rw [GQ]; exact List.getElem?_eq_none_iff.mp h)]; rfl
  | some z=>rw [De h]; exact congrArg some (Gb _ _ _)
 have f:∀ {α:Type} (g:α->Str) (l:List α),(l.filter fun r=>decide (V.str (g r)=V.str w)).length=((l.map g).filter fun s=>decide (V.str s=V.str w)).length:=fun g l=>by
  rw [List.filter_map,List.length_map]
  rfl
 rw [f (fun r:R=>r.w),f (fun z:Kb=>z.w),List.map_take,List.map_take,e]
theorem T7 (F:PQ K aB aP aM) (hn:∀ k,k<100->isNm (c k)) (hi:∀ k l,c k=c l->k=l) (h5:sz.length<=5) (h4:pz.length<=4) {kls:List Kl} (hk:Qe sz pz kls) (hkl:kls.length<=21) {rows:List R} {ls:List (List Ln)} {i:Nat} {z:Kb} (hz:(kls.map (·.1))[i]? = some z) (B:HQ K aB aP aM rows (BZ c sz) (HJ c pz wi) ((Bw c (kls.map (·.1))).take i) ls):HQ K aB aP aM (rows++[JQ c i z]) (BZ c sz) (HJ c pz wi) ((Bw c (kls.map (·.1))).take (i+1)) (ls++[[]]):=by
 have hl:=(List.getElem?_eq_some_iff.mp hz).1
 rw [List.length_map] at hl
 have ho:=hk.ok z (List.mem_of_getElem? hz)
 have hroom:=hk.room i z hz
 rw [← Xv (c:=c)] at hroom
 rw [Qu hz]
 have f1:∀ b∈BZ c sz,b.1 ≠ c (30+i):=fun b hb e=>by
  obtain ⟨j,_,hj,e2⟩:=Fq (G6 hb)
  have:=hi _ _ (e2.symm.trans e)
  omega
 have f2:∀ r∈HJ c pz wi,r.1 ≠ c (30+i):=fun r hr e=>by
  obtain ⟨j,_,hj,e2⟩:=Hx (G6 hr)
  have:=hi _ _ (e2.symm.trans e)
  omega
 have f3:∀ k∈(Bw c (kls.map (·.1))).take i,k.nm ≠ c (30+i):=fun r hr e=>by
  obtain ⟨j,hj,_,e2⟩:=KN hr
  have:=hi _ _ (e2.symm.trans e)
  omega
 have mb:∀ {a:Nat} (ha:a<sz.length),(c a,sz[a])∈BZ c sz:=fun ha=>List.mem_of_getElem? (Ci (List.getElem?_eq_getElem ha))
 cases z with
 | cp a b s0 =>
  obtain ⟨ha,hb,hs0,hs1⟩:=ho
  have hm:Fo "coupler" = 12:=by decide +kernel
  have hroom':(((Bw c (kls.map (·.1))).take i).filter fun r=>decide (V.str r.w=V.str "coupler")).length<Fo "coupler":=hroom
  exact B.Vr F (hn _ (by omega)) f1 f2 f3 (by omega) (hn _ (by omega)) (mb ha) (hn _ (by omega)) (mb hb) hs0 hs1
 | pl w0 a =>
  obtain ⟨ha,hw⟩:=ho
  exact B.plain F (by rcases hw with e | e; exact .inr e; exact .inl e) (hn _ (by omega)) f1 f2 f3 hroom (hn _ (by omega)) (mb ha)
end
theorem N7 (c:Nat->Str) (sz:List Nat):(BZ c sz).map Fw=(List.range sz.length).map fun i=>Fw (c i,sz.getD i 0):=by
 refine List.ext_getElem? fun i=>?_
 rw [List.getElem?_map,List.getElem?_map]
 by_cases hi:i<sz.length
 ·rw [Ci (List.getElem?_eq_getElem hi),List.getElem?_range hi]
  show some (Fw (c i,sz[i]))=some (Fw (c i,sz.getD i 0))
  rw [List.getD_eq_getElem?_getD,List.getElem?_eq_getElem hi]
  rfl
 ·rw [List.getElem?_eq_none (by rw [GP]; omega),List.getElem?_eq_none (l:=List.range _) (by rw [List.length_range]; omega)]
  rfl
noncomputable abbrev Jx (c:Int) (i:Nat):Int:=Bg c (i:Int) % 10 ^ (9:Int).toNat
theorem Za (c:Int) (i:Nat):0<=Jx c i/\Jx c i<=1000000000:=by
 have h1:0<=Jx c i:=Int.emod_nonneg _ (by decide)
 have h2:Jx c i<10 ^ (9:Int).toNat:=Int.emod_lt_of_pos _ (by decide)
 have e:(10:Int) ^ (9:Int).toNat=1000000000:=by decide
 rw [e] at h2
 omega
noncomputable def cI (K:PySem.W.Frag) (aB aP aM:Addr):Sp:=fun vs H Q _=>∃ (c:Int) (p pp q0 Dx:Addr) (sz pz:List Nat) (kls:List Kl) (us:List V),vs=[.int c,.ref p,.ref pp,.ref q0]/\H p=some (.lst (sz.map fun n:Nat=>V.int (n:Nat)))/\H pp=some (.lst (pz.map fun n:Nat=>V.int (n:Nat)))/\1<=sz.length/\sz.length<=5/\(∀ s∈sz,1<=s/\s<=61)/\1<=pz.length/\pz.length<=4/\(∀ z∈pz,1<=z/\z<=97)/\H q0=some (.lst us)/\Paired (fun z y=>FJ Dx H z y) kls us/\Qe sz pz kls/\kls.length<=21/\PQ K aB aP aM /\
 ∀ D rows vs' H',H D=none->An H H'->H' D=some (.lst vs')->Paired (fun (r:R) v=>TupAt H' r.v v) rows vs'->HQ K aB aP aM rows (BZ (DG c) sz) (HJ (DG c) pz (Jx c)) (Bw (DG c) (kls.map (·.1))) (kls.map (·.2))->rows.length<=150->Q (.ref D) H'
theorem KJ:Av ["_law_cell","_law_sizes_here","_law_pipes","_law_knobs_here","_law_rows_here","_law_k","_law_name_here","_law_board","_law_rank","_law_shift","_law_low","_law_high"] ["_law_cell","_law_sizes_here","_law_pipes","_law_knobs_here"] (Ag cz):=Bl
include N T in
theorem Z8:Aq P w K mg base Be 3 aD.fRw aD.dRw ["_law_cell","_law_sizes_here","_law_pipes","_law_knobs_here"] (cI K aB aP aM):=by
 have GNa:Aq P w K mg base Be 2 aD.fNa aD.dNa ["_law_cell","_law_k"] bZ:=bO N T
 have GMx:Aq P w K mg base Be 1 aD.fMx aD.dMx ["_law_cell","_law_k"] J_:=Hs N T
 refine N.FRw.1.ok KJ (fun vs H Q E h=>?_) (fun cdv A outer s H vs Q E hr h=>?_)
 ·obtain ⟨c,p,pp,q0,Dx,sz,pz,kls,us,rfl,_⟩:=h
  rfl
 ·obtain ⟨c,p,pp,q0,Dx,sz,pz,kls,us,rfl,hp,hpp,h0,h5,hsz,g0,g4,hpz,hq,hpr,hk,hkl,F0,q⟩:=h
  have hrNa:BR 2 _:=hr.mono (by decide)
  have hrMx:BR 1 _:=hr.mono (by decide)
  refine ⟨_,(Ae (Ho (i:=4) KJ.nd rfl rfl rfl (Ba (osc:=Ag cz) (N:=["_law_cell","_law_sizes_here","_law_pipes","_law_knobs_here","_law_rows_here","_law_k","_law_name_here","_law_board","_law_rank","_law_shift","_law_low","_law_high"]) rfl rfl (by decide +kernel)) (Cm rfl T.range (Aa (BL BX rfl T.len PySem.boot_len (Aa (pv 1) Ac)) Ac)) (fun _ _ _ _=>CZ) (fun _ _ _ _=>(CQ (Aa Bt (Aa (Ai GNa hrNa rfl N.FNa.2.2 N.FNa.1.kp N.FNa.2.1 .nil Ao (Aa (pv 1) (Aa (pv 0) Ac))) (Aa (Am (BV (K:=K) rfl) (pv 2) (pv 0) (fun _ _=>rfl)) Ac))))))
   (Ae (DN PassesOwn.never rfl (Cm rfl T.range (Aa (BL BX rfl T.len PySem.boot_len (Aa (pv 2) Ac)) Ac)) (Bd (i:=5) KJ.nd rfl (Or.inl rfl)) (Ah (C_ (En PySem.F.plainAttrs_list PySem.F.slot_list_append PySem.F.type_list_append CG (pv 4) (Aa (CQ (Aa Bt (Aa (Ai GNa hrNa rfl N.FNa.2.2 N.FNa.1.kp N.FNa.2.1 .nil Ao (Aa (pv 0) (Aa (Ar Bm Ab (pv 5)) Ac))) (Aa (Am (BV (K:=K) rfl) (pv 2) (pv 5) (fun _ _=>rfl)) (Aa (Ar Bp (Ai GMx hrMx rfl N.FMx.2.2 N.FMx.1.kp N.FMx.2.1 .nil Ao (Aa (pv 0) (Aa (pv 5) Ac))) (Ar Ry Ab Ab)) Ac))))) Ac)))))
   (Ae (DN PassesOwn.never rfl (Cm rfl T.range (Aa (BL BX rfl T.len PySem.boot_len (Aa (pv 3) Ac)) Ac)) (Bd (i:=5) KJ.nd rfl (Or.inl rfl)) (Ae (Az (i:=6) KJ.nd rfl (Or.inl rfl) (Ai GNa hrNa rfl N.FNa.2.2 N.FNa.1.kp N.FNa.2.1 .nil Ao (Aa (pv 0) (Aa (Ar Bm Ab (pv 5)) Ac))))
   (Ae (Az (i:=7) KJ.nd rfl (Or.inl rfl) (Ai GNa hrNa rfl N.FNa.2.2 N.FNa.1.kp N.FNa.2.1 .nil Ao (Aa (pv 0) (Aa (Am (Ak (K:=K) rfl) (Am (BV (K:=K) rfl) (pv 3) (pv 5) (fun _ _=>rfl)) Ab (fun _ _=>rfl)) Ac))))
   (Ae (Br (BW Du (Am (Ak (K:=K) rfl) (Am (BV (K:=K) rfl) (pv 3) (pv 5) (fun _ _=>rfl)) Ab (fun _ _=>rfl)) Bt (Bc _)) (Ah (C_ (En PySem.F.plainAttrs_list PySem.F.slot_list_append PySem.F.type_list_append CG (pv 4) (Aa (CQ (Aa Bt (Aa (pv 6) (Aa (pv 7) (Aa (Ai GNa hrNa rfl N.FNa.2.2 N.FNa.1.kp N.FNa.2.1 .nil Ao (Aa (pv 0) (Aa (Am (Ak (K:=K) rfl) (Am (BV (K:=K) rfl) (pv 3) (pv 5) (fun _ _=>rfl)) Ab (fun _ _=>rfl)) Ac))) (Aa (Am (Ak (K:=K) rfl) (Am (BV (K:=K) rfl) (pv 3) (pv 5) (fun _ _=>rfl)) Ab (fun _ _=>rfl)) Ac)))))) Ac)))) (Ah (C_ (En PySem.F.plainAttrs_list PySem.F.slot_list_append PySem.F.type_list_append CG (pv 4) (Aa (CQ (Aa (Am (Ak (K:=K) rfl) (Am (BV (K:=K) rfl) (pv 3) (pv 5) (fun _ _=>rfl)) Ab (fun _ _=>rfl)) (Aa (pv 6) (Aa (pv 7) Ac)))) Ac)))))
   (Ah (Br (BW Du (Am (Ak (K:=K) rfl) (Am (BV (K:=K) rfl) (pv 3) (pv 5) (fun _ _=>rfl)) Ab (fun _ _=>rfl)) Bt (Bc _)) (Ah (DN PassesOwn.never rfl (Bh (Am (Ak (K:=K) rfl) (Am (BV (K:=K) rfl) (pv 3) (pv 5) (fun _ _=>rfl)) Ab (fun _ _=>rfl))) (Fz rfl (Bf (Bd (i:=8) KJ.nd rfl (Or.inl rfl)) (Bf (Bd (i:=9) KJ.nd rfl (Or.inl rfl)) (Bf (Bd (i:=10) KJ.nd rfl (Or.inl rfl)) (Bf (Bd (i:=11) KJ.nd rfl (Or.inl rfl)) Ea))))) (Ah (C_ (En PySem.F.plainAttrs_list PySem.F.slot_list_append PySem.F.type_list_append CG (pv 4) (Aa (CQ (Aa Bt (Aa (Ai GNa hrNa rfl N.FNa.2.2 N.FNa.1.kp N.FNa.2.1 .nil Ao (Aa (pv 0) (Aa (Ar Bm Ab (pv 8)) Ac))) (Aa (pv 9) (Aa (pv 10) (Aa (pv 11) Ac)))))) Ac)))))) Bb))))))
   (Ah (Aw (pv 4)))))),?_⟩
  have hlen:((sz.map fun n:Nat=>V.int (n:Nat)).length:Nat)=sz.length:=by rw [List.length_map]
  have hlenp:((pz.map fun n:Nat=>V.int (n:Nat)).length:Nat)=pz.length:=by rw [List.length_map]
  have hnm:∀ k,k<100->isNm (DG c k):=fun k h=>cO c (by omega)
  have hin:∀ k l,DG c k=DG c l->k=l:=fun k l h=>Ju h
  refine ⟨_,rfl,p,_,rfl,.inl (.inl (.inl hp)),_,rfl,by omega,by omega,?_⟩
  rw [Int.toNat_natCast]
  refine Ko (n:=(sz.map fun n:Nat=>V.int (n:Nat)).length) (fun i=>(Fw (DG c i,sz.getD i 0)).v) (BJ (by omega)) (fun i hi H1 s1 R k=>?_) (fun D H1 vs1 hD s1 hl1 hv1=>?_)
  ·rw [hlen] at hi
   refine ⟨_,rfl,_,rfl,c,i,rfl,by omega,fun H2 s2=>?_⟩
   refine ⟨_,rfl,_,rfl,p,_,_,.int (sz.getD i 0:Nat),rfl,rfl,.inl (.inl (s2 _ _ (s1 _ _ hp))),Af (by rw [List.getElem?_map,List.getElem?_eq_getElem hi,List.getD_eq_getElem?_getD,List.getElem?_eq_getElem hi]; rfl),by show 3<=sizeLine; decide,fun T6 hT6=>?_⟩
   exact k _ _ (s2.trans (Ax hT6)) ⟨T6,rfl,Aj⟩
  rw [hlen] at hv1
  have hv1':Paired (fun (r:R) v=>TupAt H1 r.v v) ((BZ (DG c) sz).map Fw) vs1:=by
   rw [N7]
   exact Bx (F:=fun (r:R) v=>TupAt H1 r.v v) (fun i=>Fw (DG c i,sz.getD i 0)) hv1
  clear hv1
  have B0:=N6 (K:=K) (aB:=aB) (aP:=aP) (aM:=aM) F0 hnm hin h5 hsz sz.length (Nat.le_refl _)
  rw [List.take_of_length_le (by rw [GP]; exact Nat.le_refl _)] at B0
  refine ⟨_,rfl,pp,_,rfl,.inl (.inl (.inl (s1 _ _ hpp))),_,rfl,by omega,by omega,?_⟩
  rw [Int.toNat_natCast]
  refine Ij (lo:=0) (n:=(pz.map fun n:Nat=>V.int (n:Nat)).length) (fun i σ H4=>An H H4/\∃ (rows:List R) (vs4:List V),H4 D=some (.lst vs4)/\Paired (fun (r:R) v=>TupAt H4 r.v v) rows vs4/\HQ K aB aP aM rows (BZ (DG c) sz) ((HJ (DG c) pz (Jx c)).take i) [] []/\rows.length=sz.length+i/\∃ v5 v6 v7 v8 v9 v10 v11,σ=[some (.int c),some (.ref p),some (.ref pp),some (.ref q0),some (.ref D),v5,v6,v7,v8,v9,v10,v11])
   ⟨s1,_,vs1,hl1,hv1',B0,by rw [List.length_map,GP,Nat.add_zero],_,_,_,_,_,_,_,rfl⟩ ?_ ?_
  ·rintro i σ H4 hi ⟨s4,rows,vs4,hd,hv4,B,hrl,v5,v6,v7,v8,v9,v10,v11,rfl⟩
   rw [hlenp] at hi
   have ei:((0:Int)+(i:Int))=(i:Int):=Int.zero_add _
   have hz:=List.getElem?_eq_getElem hi
   refine ⟨_,rfl,.inl ⟨rfl,_,.inl (.inl hd)⟩,_,rfl,_,rfl,_,_,rfl,rfl,c,10+i,?_,by omega,fun H5 s5=>?_⟩
   ·rw [ei]
    rfl
   refine ⟨_,rfl,_,rfl,pp,_,_,.int (pz[i]:Nat),rfl,rfl,.inl (.inl (s5 _ _ (s4 _ _ hpp))),(by rw [ei]; exact Af (by rw [List.getElem?_map,hz]; rfl)),_,rfl,_,rfl,_,_,rfl,by omega,by omega,_,_,rfl,rfl,⟨by decide,by decide,by decide⟩,_,_,rfl,rfl,(by show (0:Int)<10 ^ (9:Int).toNat; decide),by show 4<=sizeLine; decide,fun T6 hT6=>?_⟩
   have t6:=Ax (o:=HO.tup [V.str "rank",V.str (DG c (10+i)),V.int (pz[i]:Nat),V.int (Bg c (0+(i:Int)) % 10 ^ (9:Int).toNat)]) hT6
   have u6:upd H5 T6 (HO.tup [V.str "rank",V.str (DG c (10+i)),V.int (pz[i]:Nat),V.int (Bg c (0+(i:Int)) % 10 ^ (9:Int).toNat)]) T6=some (.tup (Hv (DG c (10+i),pz[i],Jx c i)).v):=by rw [Aj,ei]
   generalize upd H5 T6 (HO.tup [V.str "rank",V.str (DG c (10+i)),V.int (pz[i]:Nat),V.int (Bg c (0+(i:Int)) % 10 ^ (9:Int).toNat)])=H6 at t6 u6 ⊢
   have hd6:=t6 _ _ (s5 _ _ hd)
   have hvl:=hv4.length
   refine ⟨D,vs4,_,rfl,rfl,hd6,BJ (by omega),?_⟩
   refine ⟨fun b o e=>?_,_,vs4++[V.ref T6],Aj,(By (Al (s5.trans t6) hv4) hd6).snoc (TupAt.upd ⟨T6,rfl,u6⟩ hd6),Tg F0 hnm hin h5 g4 hpz (Za c) hz B,by rw [List.length_append,List.length_singleton]; omega,_,_,_,_,_,_,_,rfl⟩
   rw [BP (A_ e hD)]
   exact t6 _ _ (s5 _ _ (s4 _ _ e))
  rintro σ H3 ⟨s3,rows0,vs3,hd3,hv3,B3,hrl3,v5,v6,v7,v8,v9,v10,v11,rfl⟩
  rw [hlenp,List.take_of_length_le (by rw [Ga]; exact Nat.le_refl _)] at B3
  rw [hlenp] at hrl3
  have hlu:=hpr.length
  refine ⟨_,rfl,q0,_,rfl,.inl (.inl (.inl (s3 _ _ hq))),_,rfl,by omega,by omega,?_⟩
  rw [Int.toNat_natCast]
  have hnd:((HJ (DG c) pz (Jx c)).map (·.1)).Nodup:=by
   refine HF fun i j x hi hj=>?_
   rw [List.getElem?_map] at hi hj
   obtain ⟨a,ha,e1⟩:=Option.map_eq_some_iff.mp hi
   obtain ⟨b,hb,e2⟩:=Option.map_eq_some_iff.mp hj
   obtain ⟨_,_,rfl⟩:=FW ha
   obtain ⟨_,_,rfl⟩:=FW hb
   have:=Ju (e1.trans e2.symm)
   omega
  refine Ij (lo:=0) (n:=us.length) (fun i σ H4=>An H H4/\∃ (rows:List R) (vs4:List V),H4 D=some (.lst vs4)/\Paired (fun (r:R) v=>TupAt H4 r.v v) rows vs4/\HQ K aB aP aM rows (BZ (DG c) sz) (HJ (DG c) pz (Jx c)) ((Bw (DG c) (kls.map (·.1))).take i) ((kls.map (·.2)).take i)/\rows.length<=9+5 * i/\∃ v5 v6 v7 v8 v9 v10 v11,σ=[some (.int c),some (.ref p),some (.ref pp),some (.ref q0),some (.ref D),v5,v6,v7,v8,v9,v10,v11])
   ⟨s3,rows0,vs3,hd3,hv3,B3,by omega,_,_,_,_,_,_,_,rfl⟩ ?_ ?_
  ·rintro i σ H4 hi ⟨s4,rows,vs4,hd,hv4,B,hrl,w5,w6,w7,w8,w9,w10,w11,rfl⟩
   have hik:i<kls.length:=by omega
   have hkb:=List.getElem?_eq_getElem hik
   obtain ⟨y,hy,hty⟩:=Bq hpr hkb
   have hz1:(kls.map (·.1))[i]? = some (kls[i]).1:=by rw [List.getElem?_map,hkb]; rfl
   have hz2:(kls.map (·.2))[i]? = some (kls[i]).2:=by rw [List.getElem?_map,hkb]; rfl
   have hok:=hk.ok _ (List.mem_of_getElem? hz1)
   have hlw:=hk.ln _ (List.mem_of_getElem? hkb)
   have BK:=T7 F0 hnm hin h5 g4 hk hkl hz1 B
   generalize kls[i]=kb at hkb hty hok hz1 hz2 hlw BK
   have etk:∀ {l:List Ln},l=kb.2->(kls.map (·.2)).take i++[l]=(kls.map (·.2)).take (i+1):=fun e=>by rw [List.take_add_one,hz2,e]; rfl
   have ei:((0:Int)+(i:Int))=(i:Int):=Int.zero_add _
   have hy':∀ {H5:Hp},An H H5->CP K H5 q0 us/\MJ us (0+(i:Int))=some y:=fun s5=>⟨.inl (.inl (s5 _ _ hq)),by rw [ei]; exact Af hy⟩
   obtain ⟨ex,⟨T1,rfl,ht1⟩,hex⟩:=hty
   have hvl:=hv4.length
   refine ⟨_,rfl,_,rfl,_,_,rfl,rfl,c,30+i,?_,by omega,fun H5 s5=>?_⟩
   ·rw [ei]
    rfl
   have s05:=s4.trans s5
   obtain ⟨kb,ll⟩:=kb
   cases kb with
   | cp a b s0 =>
    obtain ⟨ha,hb,_,_⟩:=hok
    obtain ⟨rfl,hl0⟩:ex=[]/\ll=[]:=by
     rcases hex with ⟨e1,e2,_⟩ | ⟨e,_⟩
     ·exact ⟨e1,e2⟩
     ·exact absurd (show ("coupler" : Str) = "stop" from e) (by decide +kernel)
    refine ⟨_,rfl,_,rfl,_,rfl,q0,us,_,_,rfl,rfl,(hy' s05).1,(hy' s05).2,T1,_,_,_,rfl,rfl,.inl (.inl (s05 _ _ ht1)),Af (j:=1) rfl,c,a,rfl,by omega,fun H6 s6=>?_⟩
    have s06:=s05.trans s6
    refine ⟨_,rfl,_,rfl,q0,us,_,_,rfl,rfl,(hy' s06).1,(hy' s06).2,T1,_,_,_,rfl,rfl,.inl (.inl (s06 _ _ ht1)),Af (j:=0) rfl,rfl,_,rfl,Cv ?_⟩
    have hd6:=s6 _ _ (s5 _ _ hd)
    refine ⟨_,rfl,.inl ⟨rfl,_,.inl (.inl hd6)⟩,_,rfl,_,rfl,_,rfl,_,rfl,_,rfl,q0,us,_,_,rfl,rfl,(hy' s06).1,(hy' s06).2,T1,_,_,_,rfl,rfl,.inl (.inl (s06 _ _ ht1)),Af (j:=2) rfl,c,b,rfl,by omega,fun H7 s7=>?_⟩
    have s07:=s06.trans s7
    refine ⟨_,rfl,_,rfl,q0,us,_,_,rfl,rfl,(hy' s07).1,(hy' s07).2,T1,_,_,_,rfl,rfl,.inl (.inl (s07 _ _ ht1)),Af (j:=3) rfl,by show 5<=sizeLine; decide,fun T8 hT8=>?_⟩
    have t8:=Ax (o:=HO.tup (JQ (DG c) i (Kb.cp a b s0)).v) hT8
    have u8:upd H7 T8 (HO.tup (JQ (DG c) i (Kb.cp a b s0)).v) T8=some (.tup (JQ (DG c) i (Kb.cp a b s0)).v):=Aj
    refine ⟨D,vs4,_,rfl,rfl,t8 _ _ (s7 _ _ hd6),BJ (by omega),?_⟩
    have s48:=s5.trans (s6.trans (s7.trans t8))
    have hd8:=s48 _ _ hd
    have s09:An H (upd (upd H7 T8 (HO.tup (JQ (DG c) i (Kb.cp a b s0)).v)) D (.lst (vs4++[V.ref T8]))):=fun b o e=>by
     rw [BP (A_ e hD)]
     exact s48 _ _ (s4 _ _ e)
    refine ⟨_,rfl,_,rfl,q0,us,_,_,rfl,rfl,(hy' s09).1,(hy' s09).2,T1,_,_,_,rfl,rfl,.inl (.inl (s09 _ _ ht1)),Af (j:=0) rfl,rfl,_,rfl,Bo ?_⟩
    exact ⟨s09,_,_,Aj,(By (Al s48 hv4) hd8).snoc (TupAt.upd ⟨T8,rfl,u8⟩ hd8),by rw [← etk hl0.symm]; exact BK,by rw [List.length_append,List.length_singleton]; omega,_,_,_,_,_,_,_,rfl⟩
   | pl w0 a =>
    obtain ⟨ha,hw⟩:=hok
    have nw:¬ V.str w0=V.str "coupler":=by rcases hw with rfl | rfl <;> decide +kernel
    have T1e:∀ {H':Hp},An H H'->H' T1=some (.tup (V.str w0::V.int (a:Nat)::ex)):=fun s=>s _ _ ht1
    refine ⟨_,rfl,_,rfl,_,rfl,q0,us,_,_,rfl,rfl,(hy' s05).1,(hy' s05).2,T1,_,_,_,rfl,rfl,.inl (.inl (T1e s05)),Af (j:=1) rfl,c,a,rfl,by omega,fun H6 s6=>?_⟩
    have s06:=s05.trans s6
    refine ⟨_,rfl,_,rfl,q0,us,_,_,rfl,rfl,(hy' s06).1,(hy' s06).2,T1,_,_,_,rfl,rfl,.inl (.inl (T1e s06)),Af (j:=0) rfl,rfl,_,rfl,?_⟩
    rw [decide_eq_false nw]
    refine Bo ?_
    have hd6:=s6 _ _ (s5 _ _ hd)
    refine ⟨_,rfl,.inl ⟨rfl,_,.inl (.inl hd6)⟩,_,rfl,_,rfl,q0,us,_,_,rfl,rfl,(hy' s06).1,(hy' s06).2,T1,_,_,_,rfl,rfl,.inl (.inl (T1e s06)),Af (j:=0) rfl,_,rfl,_,rfl,by show 3<=sizeLine; decide,fun T8 hT8=>?_⟩
    have t8:=Ax (o:=HO.tup [V.str w0,V.str (DG c (30+i)),V.str (DG c a)]) hT8
    have u8:upd H6 T8 (HO.tup [V.str w0,V.str (DG c (30+i)),V.str (DG c a)]) T8=some (.tup (JQ (DG c) i (Kb.pl w0 a)).v):=Aj
    refine ⟨D,vs4,_,rfl,rfl,t8 _ _ hd6,BJ (by omega),?_⟩
    have s48:=s5.trans (s6.trans t8)
    have hd8:=s48 _ _ hd
    have s09:An H (upd (upd H6 T8 (HO.tup [V.str w0,V.str (DG c (30+i)),V.str (DG c a)])) D (.lst (vs4++[V.ref T8]))):=fun b o e=>by
     rw [BP (A_ e hD)]
     exact s48 _ _ (s4 _ _ e)
    have hv9:=(By (ws:=vs4++[V.ref T8]) (Al s48 hv4) hd8).snoc (TupAt.upd (ws:=vs4++[V.ref T8]) (D:=D) ⟨T8,rfl,u8⟩ hd8)
    have hd9:upd (upd H6 T8 (HO.tup [V.str w0,V.str (DG c (30+i)),V.str (DG c a)])) D (.lst (vs4++[V.ref T8])) D=some (.lst (vs4++[V.ref T8])):=Aj
    clear u8 t8 s48 hd8 hd6
    generalize upd (upd H6 T8 (HO.tup [V.str w0,V.str (DG c (30+i)),V.str (DG c a)])) D (.lst (vs4++[V.ref T8]))=H9 at s09 hv9 hd9 ⊢
    refine ⟨_,rfl,_,rfl,q0,us,_,_,rfl,rfl,(hy' s09).1,(hy' s09).2,T1,_,_,_,rfl,rfl,.inl (.inl (T1e s09)),Af (j:=0) rfl,rfl,_,rfl,?_⟩
    rcases hex with ⟨rfl,hl0,hns⟩ | ⟨hst,A,ts,rfl,_,hA,hts⟩
    ·have hns':¬ V.str w0=V.str "stop":=fun e=>hns (V.str.inj e)
     rw [decide_eq_false hns']
     refine Bo ?_
     exact ⟨s09,_,_,hd9,hv9,by rw [← etk (show ([]:List Ln)=ll from hl0.symm)]; exact BK,by rw [List.length_append,List.length_singleton]; omega,_,_,_,_,_,_,_,rfl⟩
    ·have hst':w0 = "stop":=hst
     subst hst'
     rw [decide_eq_true rfl]
     refine Cv ?_
     have hA9:=s09 _ _ hA
     have hS9:CP K H9 A ts:=.inl (.inl hA9)
     have hAD:¬ A=D:=fun z=>by rw [z,hD] at hA; cases hA
     have hl4:=hlw.1
     have hlw2:=hlw.2.1
     have htl:=hts.length
     have hsa:sz.getD a 0=sz[a]:=by rw [List.getD_eq_getElem?_getD,List.getElem?_eq_getElem ha]; rfl
     have hs61:=hsz sz[a] (List.getElem_mem ha)
     have mb:(DG c a,sz[a])∈BZ (DG c) sz:=List.mem_of_getElem? (Ci (List.getElem?_eq_getElem ha))
     refine ⟨_,rfl,_,rfl,q0,us,_,_,rfl,rfl,(hy' s09).1,(hy' s09).2,T1,_,_,_,rfl,rfl,.inl (.inl (T1e s09)),Af (j:=2) rfl,A,rfl,⟨_,hS9⟩,Dl (K:=K) (a:=A) (xs:=ts) (fun j σ H4=>An H H4/\∃ (rows:List R) (vs4:List V),H4 D=some (.lst vs4)/\Paired (fun (r:R) v=>TupAt H4 r.v v) rows vs4/\HQ K aB aP aM rows (BZ (DG c) sz) (HJ (DG c) pz (Jx c)) ((Bw (DG c) (kls.map (·.1))).take (i+1)) ((kls.map (·.2)).take i++[ll.take j])/\Tl rows (DG c a) j/\rows.length<=9+5 * i+1+j/\∃ v8 v9 v10 v11,σ=[some (.int c),some (.ref p),some (.ref pp),some (.ref q0),some (.ref D),some (.int (0+(i:Int))),some (.str (DG c (30+i))),some (.str (DG c a)),v8,v9,v10,v11])
      ⟨s09,_,_,hd9,hv9,BK,Tl.stop rows _ _,by rw [List.length_append,List.length_singleton]; omega,_,_,_,_,rfl⟩ (fun j σ H4 _ h=>.inl (.inl (h.1 _ _ hA))) ?_ ?_⟩
     ·rintro j x σ H10 hj ⟨s10,rows',vs10,hd10,hv10,B10,T10,hr10,v8,v9,v10,v11,rfl⟩
      obtain ⟨ln,hln,T2,rfl,ht2⟩:=Eo hts hj
      have hg:=hlw2 ln (List.mem_of_getElem? hln)
      have hg1:=hg.r
      have hg2:=hg.lo
      have hg3:=hg.le
      have hg4:=hg.hi
      have hjl:=(List.getElem?_eq_some_iff.mp hln).1
      have hjl4:j<4:=by omega
      rw [show sz.getD (Kb.pl "stop" a).bd 0=sz[a] from hsa] at hg4
      refine ⟨T2,_,rfl,.inl (.inl (s10 _ _ ht2)),rfl,_,_,rfl,_,_,rfl,_,_,rfl,_,_,rfl,rfl,?_⟩
      refine ⟨_,rfl,.inl ⟨rfl,_,.inl (.inl hd10)⟩,_,rfl,_,rfl,_,_,rfl,rfl,c,10+ln.r,rfl,by omega,fun H11 s11=>?_⟩
      refine ⟨_,rfl,_,rfl,_,rfl,by show 5<=sizeLine; decide,fun T12 hT12=>?_⟩
      have t12:=Ax (o:=HO.tup [V.str "line",V.str (DG c (10+ln.r)),V.int ln.sh,V.int ln.lo,V.int ln.hi]) hT12
      have u12:upd H11 T12 (HO.tup [V.str "line",V.str (DG c (10+ln.r)),V.int ln.sh,V.int ln.lo,V.int ln.hi]) T12=some (.tup (R.v ⟨"line",DG c (10+ln.r),[.int ln.sh,.int ln.lo,.int ln.hi]⟩)):=Aj
      generalize upd H11 T12 (HO.tup [V.str "line",V.str (DG c (10+ln.r)),V.int ln.sh,V.int ln.lo,V.int ln.hi])=H12 at t12 u12 ⊢
      have hd12:=t12 _ _ (s11 _ _ hd10)
      have hvl10:=hv10.length
      refine ⟨D,vs10,_,rfl,rfl,hd12,BJ (by omega),?_⟩
      refine ⟨fun b o e=>?_,_,vs10++[V.ref T12],Aj,(By (Al (s11.trans t12) hv10) hd12).snoc (TupAt.upd ⟨T12,rfl,u12⟩ hd12),?_,T10.line rfl,by rw [List.length_append,List.length_singleton]; omega,_,_,_,_,rfl⟩
      ·rw [BP (A_ e hD)]
       exact t12 _ _ (s11 _ _ (s10 _ _ e))
      ·have e11:ll.take (j+1)=ll.take j++[ln]:=by
        rw [List.take_add_one,show ll[j]? = some ln from hln]
        rfl
       rw [e11]
       exact B10.line F0 T10 hjl4 (Lp (List.getElem?_eq_getElem hg1)) hnd (hnm _ (by omega)) mb hg3 hg4 hg.s1 hg.s2 hg2 (by omega)
     ·rintro σ H10 ⟨s10,rows',vs10,hd10,hv10,B10,T10,hr10,v8,v9,v10,v11,rfl⟩
      rw [etk (List.take_of_length_le (by omega))] at B10
      exact ⟨s10,_,_,hd10,hv10,B10,by omega,_,_,_,_,_,_,_,rfl⟩
  ·rintro σ H4 ⟨s4,rows,vs4,hd,hv4,B,hrl,w5,w6,w7,w8,w9,w10,w11,rfl⟩
   rw [List.take_of_length_le (by rw [GQ,List.length_map]; omega),List.take_of_length_le (by rw [List.length_map]; omega)] at B
   exact ⟨_,rfl,q D rows vs4 H4 hD s4 hd hv4 B (by omega)⟩
noncomputable def gO (K:PySem.W.Frag) (aB aP aM:Addr) (H:Hp) (DS DP DK DR:Addr) (c:Int) (sz pz:List Nat) (kls:List Kl) (us:List V) (rows:List R) (vs:List V):Prop:=H DS=some (.lst (sz.map fun n:Nat=>V.int (n:Nat)))/\H DP=some (.lst (pz.map fun n:Nat=>V.int (n:Nat)))/\(1<=sz.length/\sz.length<=5/\(∀ s∈sz,1<=s/\s<=61)/\1<=pz.length/\pz.length<=4/\(∀ z∈pz,1<=z/\z<=97))/\H DK=some (.lst us)/\Paired (fun z y=>FJ DK H z y) kls us/\Qe sz pz kls/\kls.length<=21/\(∃ z∈kls,z.1.w = "stop")/\H DR=some (.lst vs)/\Paired (fun (r:R) v=>TupAt H r.v v) rows vs/\HQ K aB aP aM rows (BZ (DG c) sz) (HJ (DG c) pz (Jx c)) (Bw (DG c) (kls.map (·.1))) (kls.map (·.2))/\rows.length<=150
noncomputable def ZP (K:PySem.W.Frag) (aB aP aM:Addr):Sp:=fun vs H Q _=>∃ (a:Addr) (ns:List Int),vs=[.ref a]/\CP K H a (ns.map V.int)/\ns.length<=63/\PQ K aB aP aM/\∀ (W DS DP DK DR:Addr) (c:Int) (sz pz:List Nat) (kls:List Kl) (us:List V) (rows:List R) (vs':List V) H',An H H'->H' W=some (.lst [.ref DS,.ref DP,.ref DK,.ref DR])->gO K aB aP aM H' DS DP DK DR c sz pz kls us rows vs'->Q (.ref W) H'
theorem ints_of:∀ {xs:List V},(∀ y∈xs,∃ c:Int,y=.int c)->∃ cs:List Int,xs=cs.map V.int
 | [],_=>⟨[],rfl⟩
 | y::xs,h=>by
  obtain ⟨c,rfl⟩:=h y (List.mem_cons_self ..)
  obtain ⟨cs,rfl⟩:=ints_of fun z hz=>h z (List.mem_cons_of_mem _ hz)
  exact ⟨c::cs,rfl⟩
theorem JF {ns:List Int} {lo hi:Option Int} {k:Int}:∀ y∈stepV (ns.map V.int) lo hi k,∃ c:Int,y=.int c:=fun y hy=>by
 obtain ⟨c,_,e⟩:=List.mem_map.mp (Qq hy)
 exact ⟨c,e.symm⟩
theorem Ro {ns:List Int} (h:ns.length<=63):(stepV (ns.map V.int) (some 3) (some 63) 3).length<=20:=by
 unfold stepV
 refine Nat.le_trans (List.length_filterMap_le _ _) ?_
 have e:sliceBounds (some 3) (some 63) (some 3) (ns.map V.int).length=(max 0 (min 3 ((ns.length:Nat):Int)),max 0 (min 63 ((ns.length:Nat):Int)),3):=by rw [List.length_map]; rfl
 rw [e]
 show (sliceRange (max 0 (min 3 ((ns.length:Nat):Int))) (max 0 (min 63 ((ns.length:Nat):Int))) 3).length<=20
 unfold sliceRange
 rw [List.length_map,List.length_range]
 show (if (3:Int) > 0 then (if max 0 (min 3 ((ns.length:Nat):Int))<max 0 (min 63 ((ns.length:Nat):Int)) then (max 0 (min 63 ((ns.length:Nat):Int)) - max 0 (min 3 ((ns.length:Nat):Int))+3 - 1) / 3 else 0) else _).toNat<=20
 rw [if_pos (by decide)]
 split <;> omega
theorem QG:Av ["_law_script","_law_first","_law_second","_law_sizes_here","_law_pipes","_law_knobs_here"] ["_law_script"] (Ag d8):=Bl
include N T in
theorem Ye:Aq P w K mg base Be 6 aD.fWd aD.dWd ["_law_script"] (ZP K aB aP aM):=by
 have GCe:Aq P w K mg base Be 1 aD.fCe aD.dCe ["_law_script","_law_k"] (aA K):=Y9 N T
 have GSz:Aq P w K mg base Be 2 aD.fSz aD.dSz ["_law_cell","_law_many","_law_most"] cC:=cN N T
 have GMx:Aq P w K mg base Be 1 aD.fMx aD.dMx ["_law_cell","_law_k"] J_:=Hs N T
 have GKs:Aq P w K mg base Be 4 aD.fKs aD.dKs ["_law_cells","_law_sizes_here","_law_pipes"] YQ:=ZL N T
 have GRw:Aq P w K mg base Be 3 aD.fRw aD.dRw ["_law_cell","_law_sizes_here","_law_pipes","_law_knobs_here"] (cI K aB aP aM):=Z8 N T
 refine N.FWd.1.ok QG (fun vs H Q E h=>?_) (fun cdv A outer s H vs Q E hr h=>?_)
 ·obtain ⟨a,ns,rfl,_⟩:=h
  rfl
 ·obtain ⟨a,ns,rfl,hS,hlen,F0,q⟩:=h
  have hrCe:BR 1 _:=hr.mono (by decide)
  have hrSz:BR 2 _:=hr.mono (by decide)
  have hrMx:BR 1 _:=hr.mono (by decide)
  have hrKs:BR 4 _:=hr.mono (by decide)
  have hrRw:BR 3 _:=hr.mono (by decide)
  refine ⟨_,(Ae (Az (i:=1) QG.nd rfl (Or.inr rfl) (Ai GCe hrCe rfl N.FCe.2.2 N.FCe.1.kp N.FCe.2.1 .nil Ao (Aa (pv 0) (Aa Ab Ac))))
   (Ae (Az (i:=2) QG.nd rfl (Or.inr rfl) (Ai GCe hrCe rfl N.FCe.2.2 N.FCe.1.kp N.FCe.2.1 .nil Ao (Aa (pv 0) (Aa Ab Ac))))
   (Ae (Az (i:=3) QG.nd rfl (Or.inl rfl) (Ai GSz hrSz rfl N.FSz.2.2 N.FSz.1.kp N.FSz.2.1 .nil Ao (Aa (pv 2) (Aa (Am Ek (Df (Aa Ab (Aa Ab (Aa Ab (Aa Ab (Aa Ab Ac)))))) (Ar Bp (pv 1) Ab) (fun _ _=>rfl)) (Aa Ab Ac)))))
   (Ae (Ho (i:=4) QG.nd rfl rfl rfl (Ba (osc:=Ag d8) (N:=["_law_script","_law_first","_law_second","_law_sizes_here","_law_pipes","_law_knobs_here"]) rfl rfl (by decide +kernel)) (Cm rfl T.range (Aa (Ar Bm Ab (Ar Bp (Ar Cq (pv 1) Ab) Ab)) Ac)) (fun _ _ _ _=>CZ) (fun _ _ _ _=>(Ar Bm Ab (Ar Bp (Ai GMx hrMx rfl N.FMx.2.2 N.FMx.1.kp N.FMx.2.1 .nil Ao (Aa (pv 3) (Aa (Ar Bm Ab (pv 0)) Ac))) (Am (BV (K:=K) rfl) (Df (Aa Ab (Aa Ab (Aa Ab (Aa Ab Ac))))) (Ar Bp (Ar Cq (pv 2) Ab) Ab) (fun _ _=>rfl))))))
   (Ae (Az (i:=5) QG.nd rfl (Or.inl rfl) (Ai GKs hrKs rfl N.FKs.2.2 N.FKs.1.kp N.FKs.2.1 .nil Ao (Aa (Ar Rr (Lg (pv 0) (Ca Ab) (Ca Ab) Ab) (Df (Aa (Ar Bm (Ar Hd Ab (pv 1)) Ab) Ac))) (Aa (pv 3) (Aa (pv 4) Ac)))))
   (Ah (Aw (Df (Aa (pv 3) (Aa (pv 4) (Aa (pv 5) (Aa (Ai GRw hrRw rfl N.FRw.2.2 N.FRw.1.kp N.FRw.2.1 .nil Ao (Aa (Ai GCe hrCe rfl N.FCe.2.2 N.FCe.1.kp N.FCe.2.1 .nil Ao (Aa (pv 0) (Aa Ab Ac))) (Aa (pv 3) (Aa (pv 4) (Aa (pv 5) Ac))))) Ac)))))))))))),?_⟩
  refine ⟨_,rfl,a,0,ns,rfl,hS,fun first=>?_⟩
  refine ⟨_,rfl,a,1,ns,rfl,hS,fun c1=>?_⟩
  refine ⟨_,rfl,by show 5<=sizeLine; decide,fun l1 hl1=>?_⟩
  obtain ⟨H1,eqH,t1,u1⟩:=JC (o:=HO.lst [V.int 1,V.int 2,V.int 2,V.int 3,V.int 5]) hl1
  rw [eqH]
  have f0:0<=first % 5/\first % 5<5:=⟨Int.emod_nonneg _ (by decide),Int.emod_lt_of_pos _ (by decide)⟩
  obtain ⟨v,hv,hm⟩:=Lh (xs:=[V.int 1,V.int 2,V.int 2,V.int 3,V.int 5]) (i:=first % 5) f0.1 f0.2
  obtain ⟨m,rfl,hm0,hm5⟩:∃ m:Nat,v=.int (m:Nat)/\1<=m/\m<=5:=by
   simp only [List.mem_cons,List.mem_singleton,List.not_mem_nil,or_false] at hm
   rcases hm with rfl | rfl | rfl | rfl | rfl
   ·exact ⟨1,rfl,by decide,by decide⟩
   ·exact ⟨2,rfl,by decide,by decide⟩
   ·exact ⟨2,rfl,by decide,by decide⟩
   ·exact ⟨3,rfl,by decide,by decide⟩
   ·exact ⟨5,rfl,by decide,by decide⟩
  refine ⟨_,rfl,_,_,rfl,rfl,(by show (0:Int)<5; decide),l1,_,_,_,rfl,rfl,.inl (.inl u1),hv,?_⟩
  refine ⟨c1,m,5,rfl,hm0,hm5,by decide,by decide,fun DS sz H3 hDS s3 hl3 hsl hsb=>?_⟩
  have s03:=t1.trans s3
  obtain ⟨n,en,hn1,hn4⟩:∃ n:Nat,1+first / 20 % 4=(n:Int)/\1<=n/\n<=4:=⟨(1+first / 20 % 4).toNat,by omega,by omega,by omega⟩
  refine ⟨_,rfl,_,_,rfl,rfl,⟨by decide,by decide⟩,_,_,rfl,rfl,(by show (0:Int)<4; decide),_,_,rfl,rfl,_,rfl,(by rw [en]; omega),(by rw [en]; omega),?_⟩
  rw [en,Int.toNat_natCast]
  have f4:0<=first / 5 % 4/\first / 5 % 4<4:=⟨Int.emod_nonneg _ (by decide),Int.emod_lt_of_pos _ (by decide)⟩
  obtain ⟨v4,hv4,hm4⟩:=Lh (xs:=[V.int 12,V.int 12,V.int 12,V.int 97]) (i:=first / 5 % 4) f4.1 f4.2
  obtain ⟨mp,rfl,hmp0,hmp1⟩:∃ m:Nat,v4=.int (m:Nat)/\1<=m/\m<=97:=by
   simp only [List.mem_cons,List.mem_singleton,List.not_mem_nil,or_false] at hm4
   rcases hm4 with rfl | rfl | rfl | rfl
   ·exact ⟨12,rfl,by decide,by decide⟩
   ·exact ⟨12,rfl,by decide,by decide⟩
   ·exact ⟨12,rfl,by decide,by decide⟩
   ·exact ⟨97,rfl,by decide,by decide⟩
  refine Dv (lo:=0) (n:=n) (fun _=>true) (fun i=>.int (1+Bg c1 (60+i) % (mp:Nat))) (BJ (by omega)) (fun i hi H' hs R k=>k H' (An.refl H')) (fun i hi _ H' hs R k=>?_) (fun DP H4 hDP s4 hl4=>?_)
  ·refine ⟨_,rfl,_,rfl,_,_,rfl,rfl,_,_,rfl,by omega,by omega,by show 4<=sizeLine; decide,fun l5 hl5=>?_⟩
   refine ⟨_,rfl,_,_,rfl,rfl,⟨by decide,by decide⟩,_,_,rfl,rfl,(by show (0:Int)<4; decide),l5,_,_,_,rfl,rfl,.inl (.inl Aj),hv4,_,_,rfl,rfl,(by show (0:Int)<(mp:Nat); omega),_,_,rfl,rfl,k _ (Ax hl5)⟩
  obtain ⟨pz,epz,hpzl,hpz⟩:∃ pz:List Nat,(((((List.range n).map fun (i:Nat)=>(0:Int)+(i:Int)).filter fun _=>true).map fun i=>V.int (1+Bg c1 (60+i) % (mp:Nat))))=(pz.map fun n:Nat=>V.int (n:Nat))/\pz.length=n/\∀ z∈pz,1<=z/\z<=97:=by
   refine ⟨(List.range n).map fun (i:Nat)=>(1+Bg c1 (60+(0+(i:Nat))) % (mp:Nat)).toNat,?_,by simp,fun z hz=>?_⟩
   ·rw [List.filter_eq_self.mpr (fun _ _=>rfl),List.map_map,List.map_map]
    refine List.map_congr_left fun i _=>?_
    have h1:0<=Bg c1 (60+(0+(i:Int))) % (mp:Nat):=Int.emod_nonneg _ (by omega)
    show V.int (1+Bg c1 (60+(0+(i:Int))) % (mp:Nat))=V.int (((1+Bg c1 (60+(0+(i:Int))) % (mp:Nat)).toNat:Nat):Int)
    rw [Int.toNat_of_nonneg (by omega)]
   ·obtain ⟨i,_,rfl⟩:=List.mem_map.mp hz
    have h1:0<=Bg c1 (60+(0+(i:Int))) % (mp:Nat):=Int.emod_nonneg _ (by omega)
    have h2:Bg c1 (60+(0+(i:Int))) % (mp:Nat)<(mp:Nat):=Int.emod_lt_of_pos _ (by omega)
    omega
  rw [epz] at hl4
  clear epz
  have s04:=s03.trans s4
  have hS4:=s4 _ _ hl3
  refine ⟨_,rfl,_,rfl,_,rfl,3,rfl,by decide,a,_,rfl,s04.seq hS,fun p5 hp5 hl5=>?_⟩
  have t5:=Ax (o:=HO.lst (stepV (ns.map V.int) (some 3) (some 63) 3)) hp5
  have u5:upd H4 p5 (HO.lst (stepV (ns.map V.int) (some 3) (some 63) 3)) p5=_:=Aj
  obtain ⟨cs,ecs⟩:=ints_of (JF (ns:=ns) (lo:=some 3) (hi:=some 63) (k:=3))
  have hcs:cs.length<=20:=by
   have:=Ro (ns:=ns) hlen
   rw [ecs,List.length_map] at this
   exact this
  generalize upd H4 p5 (HO.lst (stepV (ns.map V.int) (some 3) (some 63) 3))=H5 at t5 u5 ⊢
  rw [ecs] at u5
  refine ⟨_,rfl,_,_,rfl,rfl,.inl ⟨by decide,by decide⟩,_,_,rfl,rfl,by show 1<=sizeLine; decide,fun p6 hp6=>?_⟩
  have t6:=Ax (o:=HO.lst [V.int (8 * first+4)]) hp6
  have u6:upd H5 p6 (HO.lst [V.int (8 * first+4)]) p6=some (.lst [V.int (8 * first+4)]):=Aj
  refine ⟨p5,p6,_,_,rfl,rfl,t6 _ _ u5,u6,DY (by rw [List.length_map]; show cs.length+1<=1000; omega),fun p7 hp7=>?_⟩
  have t7:=Ax (o:=HO.lst (cs.map V.int++[V.int (8 * first+4)])) hp7
  have u7:upd (upd H5 p6 (HO.lst [V.int (8 * first+4)])) p7 (HO.lst (cs.map V.int++[V.int (8 * first+4)])) p7=some (.lst ((cs++[8 * first+4]).map V.int)):=by rw [List.map_append]; exact Aj
  have s47:=t5.trans (t6.trans t7)
  have l7:=s47 _ _ hS4
  have lp7:=s47 _ _ hl4
  have wh:1<=sz.length/\sz.length<=5/\(∀ s∈sz,1<=s/\s<=61)/\1<=pz.length/\pz.length<=4/\(∀ z∈pz,1<=z/\z<=97):=⟨by omega,by omega,fun s hs=>⟨(hsb s hs).1,by have:=(hsb s hs).2; omega⟩,by omega,by omega,hpz⟩
  obtain ⟨w1,w2,w3,w4,w5,w6⟩:=id wh
  refine ⟨_,rfl,_,rfl,p7,DS,DP,cs++[8 * first+4],sz,pz,rfl,u7,by rw [List.length_append,List.length_singleton]; omega,l7,lp7,w1,w2,w3,w4,w5,w6,fun DK kls us H8 hDK s8 hl8 hp8 hkb hkl hst=>?_⟩
  have hst:=hst ⟨8 * first+4,by simp,by omega⟩
  have s08:=s04.trans (s47.trans s8)
  have l8:=s8 _ _ l7
  have lp8:=s8 _ _ lp7
  clear u7 t7 u6 t6 u5 t5 l7 lp7
  refine ⟨_,rfl,_,rfl,_,rfl,_,rfl,a,2,ns,rfl,s08.seq hS,fun c2=>?_⟩
  refine ⟨_,rfl,_,rfl,_,rfl,c2,DS,DP,DK,DK,sz,pz,kls,us,rfl,l8,lp8,w1,w2,w3,w4,w5,w6,hl8,hp8,hkb,hkl,F0,fun DR rows vs9 H9 hDR s9 hl9 hv9 B9 hr9=>?_⟩
  refine ⟨by show 4<=sizeLine; decide,fun W hW=>?_⟩
  have t10:=Ax (o:=HO.lst [V.ref DS,V.ref DP,V.ref DK,V.ref DR]) hW
  have s910:=s9.trans t10
  exact q W DS DP DK DR c2 sz pz kls us rows vs9 _ (s08.trans s910) Aj ⟨s910 _ _ l8,s910 _ _ lp8,wh,s910 _ _ hl8,Paired.Fb hp8 (fun _ _ z=>z.mono s910),hkb,hkl,hst,t10 _ _ hl9,Al t10 hv9,B9,hr9⟩
theorem Mx (l:List Nat):∀ {a b:Nat},a<=b->(l.take a).sum<=(l.take b).sum:=by
 intro a b h
 have e:l.take a=(l.take b).take a:=by rw [List.take_take,Nat.min_eq_left h]
 rw [e]
 have:=congrArg List.sum (List.take_append_drop a (l.take b))
 rw [List.sum_append] at this
 omega
theorem sum_take_succ {l:List Nat} {a z:Nat} (h:l[a]? = some z):(l.take (a+1)).sum=(l.take a).sum+z:=by
 rw [List.take_add_one,h,List.sum_append]
 simp
noncomputable def UW:Sp:=fun vs H Q _=>∃ (p:Addr) (bs:List (Str × Nat)) (i:Nat) (qd:Nat × Nat),vs=[.ref p,.int (i:Nat)]/\H p=some (.lst ((bs.map (·.2)).map fun n:Nat=>V.int (n:Nat)))/\(Ed bs)[i]? = some qd/\∀ y H',An H H'->TupAt H' (qV qd) y->Q y H'
theorem Ua:Av ["_law_sizes_here","_law_key","_law_board"] ["_law_sizes_here","_law_key"] (Ag jM):=Bl
include N T in
theorem RZ:Aq P w K mg base Be 1 aD.fSp aD.dSp ["_law_sizes_here","_law_key"] UW:=by
 refine N.FSp.1.ok Ua (fun vs H Q E h=>?_) (fun cdv A outer s H vs Q E hr h=>?_)
 ·obtain ⟨p,bs,i,qd,rfl,_⟩:=h
  rfl
 ·obtain ⟨p,bs,i,qd,rfl,hp,hq,q⟩:=h
  refine ⟨_,(Ae (Az (i:=2) Ua.nd rfl (Or.inl rfl) Ab)
   (Ae (Jv PassesOwn.never (BW SJ (pv 1) (Am (BV (K:=K) rfl) (pv 0) (pv 2) (fun _ _=>rfl)) (Bc _)) (Ae (Az (i:=1) Ua.nd rfl (Or.inl rfl) (Ar Dy (pv 1) (Am (BV (K:=K) rfl) (pv 0) (pv 2) (fun _ _=>rfl))))
   (Ah (Az (i:=2) Ua.nd rfl (Or.inl rfl) (Ar Bm (pv 2) Ab)))))
   (Ah (Aw (CQ (Aa (pv 2) (Aa (pv 1) Ac))))))),?_⟩
  obtain ⟨a,n⟩:=qd
  obtain ⟨b,hb,hn,hi⟩:=PP hq
  have hsz:∀ {j:Nat},j<=a->∃ z,(bs.map (·.2))[j]? = some z:=fun {j} hj=>by
   have ha:a<bs.length:=(List.getElem?_eq_some_iff.mp hb).1
   exact ⟨_,List.getElem?_eq_getElem (by rw [List.length_map]; omega)⟩
  have ha:(bs.map (·.2))[a]? = some b.2:=by rw [List.getElem?_map,hb]; rfl
  generalize hS:bs.map (·.2)=sz at hp hsz ha hi
  have hSq:CP K H p (sz.map fun n:Nat=>V.int (n:Nat)):=.inl (.inl hp)
  have hat:∀ {j z:Nat},sz[j]? = some z->MJ (sz.map fun n:Nat=>V.int (n:Nat)) (j:Int)=some (.int (z:Nat)):=fun h=>Af (by rw [List.getElem?_map,h]; rfl)
  refine Jt (fun σ H'=>H'=H/\∃ j:Nat,j<=a/\σ=[some (.ref p),some (.int ((i:Int) - ((sz.take j).sum:Nat))),some (.int (j:Nat))]) (fun σ _=>match σ with | [_,_,some (.int j)]=>a - j.toNat | _=>0) ⟨rfl,0,Nat.zero_le _,?_⟩ ?_ ?_
  ·show ([some (.ref p),some (.int (i:Nat)),some (.int 0)]:St)=_
   simp
  ·rintro σ H' ⟨rfl,j,hj,rfl⟩
   obtain ⟨z,hz⟩:=hsz hj
   have st:=sum_take_succ hz
   refine ⟨_,rfl,_,rfl,_,rfl,p,_,_,_,rfl,rfl,hSq,hat hz,_,_,rfl,rfl,_,rfl,?_⟩
   refine Dr (fun g=>?_) (fun g=>?_)
   ·have g':=of_decide_eq_true g
    have hlt:j<a:=by
     rcases Nat.lt_or_ge j a with h | h
     ·exact h
     ·have:j=a:=by omega
      subst this
      rw [ha] at hz
      cases hz
      omega
    refine ⟨_,rfl,_,rfl,_,rfl,p,_,_,_,rfl,rfl,hSq,hat hz,_,_,rfl,rfl,?_⟩
    refine ⟨_,rfl,_,_,rfl,rfl,⟨rfl,j+1,hlt,?_⟩,?_⟩
    ·have e1:(i:Int) - ((sz.take j).sum:Nat) - (z:Nat)=(i:Int) - ((sz.take (j+1)).sum:Nat):=by rw [st]; omega
     have e2:((j:Nat):Int)+1=((j+1:Nat):Int):=by omega
     show ([some (.ref p),some (.int ((i:Int) - ((sz.take j).sum:Nat) - (z:Nat))),some (.int (((j:Nat):Int)+1))]:St)=_
     rw [e1,e2]
    ·show a - (((j:Nat):Int)+1).toNat<a - ((j:Nat):Int).toNat
     omega
   ·have g':=of_decide_eq_false ((Bool.not_eq_true _).mp g)
    have heq:j=a:=by
     rcases Nat.lt_or_ge j a with h | h
     ·have:=Mx sz (a:=j+1) (b:=a) h
      omega
     ·omega
    subst heq
    refine ⟨_,rfl,_,rfl,by show 2<=sizeLine; decide,fun T6 hT6=>?_⟩
    refine q _ _ (Ax hT6) ⟨T6,rfl,?_⟩
    have e1:(i:Int) - ((sz.take j).sum:Nat)=(n:Nat):=by omega
    rw [e1]
    exact Aj
  ·rintro σ H' Q1 Q2 hm ⟨x1,hx1,x2,hx2,x3,hx3,p4,xs4,i4,v4,hx4,hx5,hs4,hv4,i5,j5,hx6,hx7,k8,hx8,hq8⟩
   exact ⟨x1,hx1,x2,hx2,x3,hx3,p4,xs4,i4,v4,hx4,hx5,hs4,hv4,i5,j5,hx6,hx7,k8,hx8,hm _ _ hq8⟩
noncomputable def Z0:Sp:=fun vs H Q _=>∃ (p:Addr) (y:V) (bs:List (Str × Nat)) (i j1 j2:Nat) (s:Int) (b2:Str × Nat) (qd:Nat × Nat),vs=[.ref p,y,.int (i:Nat)]/\H p=some (.lst ((bs.map (·.2)).map fun n:Nat=>V.int (n:Nat)))/\bs.length<=5/\(∀ b∈bs,b.2<=61)/\(Ed bs)[i]? = some qd/\bs[j2]? = some b2/\TupAt H (Kb.cp j1 j2 s).v y/\∀ H',An H H'->Q (Ji bs j1 j2 s qd b2.2) H'
theorem Xj:Av ["_law_sizes_here","_law_knob_here","_law_key","_law_board","_law_number"] ["_law_sizes_here","_law_knob_here","_law_key"] (Ag iG):=Bl
include N T in
theorem bD:Aq P w K mg base Be 2 aD.fGo aD.dGo ["_law_sizes_here","_law_knob_here","_law_key"] Z0:=by
 have GSp:Aq P w K mg base Be 1 aD.fSp aD.dSp ["_law_sizes_here","_law_key"] UW:=RZ N T
 refine N.FGo.1.ok Xj (fun vs H Q E h=>?_) (fun cdv A outer s H vs Q E hr h=>?_)
 ·obtain ⟨p,y,bs,i,j1,j2,s0,b2,qd,rfl,_⟩:=h
  rfl
 ·obtain ⟨p,y,bs,i,j1,j2,s0,b2,qd,rfl,hp,h5,h61,hq,hb2,hy,q⟩:=h
  have hrSp:BR 1 _:=hr.mono (by decide)
  refine ⟨_,(Ae (Ot (Ai GSp hrSp rfl N.FSp.2.2 N.FSp.1.kp N.FSp.2.1 .nil Ao (Aa (pv 0) (Aa (pv 2) Ac))) (Fz rfl (Bf (Bd (i:=3) Xj.nd rfl (Or.inl rfl)) (Bf (Bd (i:=4) Xj.nd rfl (Or.inl rfl)) Ea))))
   (Ae (Br (PW.pt (Dm (BW E_ (pv 3) (Am (Ak (K:=K) rfl) (pv 1) Ab (fun _ _=>rfl)) (Bc _)) (Eb (CJ (FT Er GX Ab (Ar Bm (pv 4) (Am (Ak (K:=K) rfl) (pv 1) Ab (fun _ _=>rfl))) (Am (BV (K:=K) rfl) (pv 0) (Am (Ak (K:=K) rfl) (pv 1) Ab (fun _ _=>rfl)) (fun _ _=>rfl))))))) (Ah (Aw Ge)) Bb)
   (Ah (Aw (Ar Bm (Ar Bm (BL (GC rfl) rfl T.sum PyProof.Rows.boot_sum (Aa (Dd Ey (pv 0) Ec (Ca (Am (Ak (K:=K) rfl) (pv 1) Ab (fun _ _=>rfl)))) Ac)) (pv 4)) (Am (Ak (K:=K) rfl) (pv 1) Ab (fun _ _=>rfl))))))),?_⟩
  have hj2:j2<bs.length:=(List.getElem?_eq_some_iff.mp hb2).1
  refine ⟨_,rfl,_,rfl,p,bs,i,qd,rfl,hp,hq,fun y1 H1 s1 hy1=>?_⟩
  obtain ⟨T1,rfl,ht1⟩:=hy1
  obtain ⟨T2,rfl,ht2⟩:=hy.mono s1
  have hS1:CP K H1 p ((bs.map (·.2)).map fun n:Nat=>V.int (n:Nat)):=.inl (.inl (s1 _ _ hp))
  refine ⟨T1,_,rfl,.inl (.inl ht1),rfl,_,_,rfl,_,_,rfl,rfl,?_⟩
  refine ⟨_,rfl,_,rfl,T2,_,_,_,rfl,rfl,.inl (.inl ht2),Af (j:=1) rfl,rfl,_,rfl,?_⟩
  have fin:=q H1 s1
  unfold Ji at fin
  by_cases e1:qd.1=j1
  ·have z:(!decide (V.int (qd.1:Nat)=V.int (j1:Nat)))=false:=by rw [e1]; simp
   rw [z]
   refine Bo ?_
   refine ⟨_,rfl,_,rfl,T2,_,_,_,rfl,rfl,.inl (.inl ht2),Af (j:=3) rfl,_,_,rfl,rfl,_,_,rfl,rfl,_,rfl,?_⟩
   refine Dr (fun g1=>?_) (fun g1=>?_)
   ·refine ⟨_,rfl,_,rfl,T2,_,_,_,rfl,rfl,.inl (.inl ht2),Af (j:=2) rfl,p,_,_,.int (b2.2:Nat),rfl,rfl,hS1,Af (by rw [List.getElem?_map,List.getElem?_map,hb2]; rfl),_,_,rfl,rfl,_,rfl,?_⟩
    have g1':0<=(qd.2:Int)+s0:=of_decide_eq_true g1
    by_cases g2:(qd.2:Int)+s0<(b2.2:Nat)
    ·have z2:decide ((qd.2:Int)+s0<(b2.2:Nat))=true:=decide_eq_true g2
     rw [z2]
     refine Bo ?_
     rw [if_pos ⟨e1,g1',g2⟩] at fin
     refine ⟨_,rfl,_,rfl,T2,_,_,_,rfl,rfl,.inl (.inl ht2),Af (j:=2) rfl,_,rfl,p,_,rfl,hS1,fun p3 hp3=>?_⟩
     have s3:=Ax (o:=HO.lst (Cy ((bs.map (·.2)).map fun n:Nat=>V.int (n:Nat)) none (some (j2:Int)))) hp3
     have a3:upd H1 p3 (HO.lst (Cy ((bs.map (·.2)).map fun n:Nat=>V.int (n:Nat)) none (some (j2:Int)))) p3=_:=Aj
     generalize upd H1 p3 (HO.lst (Cy ((bs.map (·.2)).map fun n:Nat=>V.int (n:Nat)) none (some (j2:Int))))=H3 at s3 a3 ⊢
     rw [G7 _ j2 (by rw [List.length_map,List.length_map]; omega)] at a3
     have e3:((bs.map (·.2)).map fun n:Nat=>V.int (n:Nat)).take j2=(((bs.take j2).map (·.2)).map fun n:Nat=>(n:Int)).map V.int:=by
      rw [← List.map_take,← List.map_take,List.map_map,List.map_map,List.map_map]
      rfl
     rw [e3] at a3
     refine ⟨p3,_,rfl,.inl (.inl a3),fun m hm=>?_,by simp; omega,?_⟩
     ·obtain ⟨k,hk,rfl⟩:=List.mem_map.mp hm
      obtain ⟨b,hb,rfl⟩:=List.mem_map.mp hk
      have:=h61 b (List.mem_of_mem_take hb)
      omega
     rw [Gi]
     refine ⟨_,rfl,_,_,rfl,rfl,_,rfl,T2,_,_,_,rfl,rfl,.inl (.inl (s3 _ _ ht2)),Af (j:=3) rfl,_,_,rfl,rfl,?_⟩
     have fin3:=q H3 (s1.trans s3)
     unfold Ji at fin3
     rw [if_pos ⟨e1,g1',g2⟩,← Int.add_assoc] at fin3
     exact fin3
    ·have z2:decide ((qd.2:Int)+s0<(b2.2:Nat))=false:=decide_eq_false g2
     rw [z2]
     refine Cv ?_
     rw [if_neg fun z=>g2 z.2.2] at fin
     exact fin
   ·refine ⟨_,rfl,?_⟩
    rw [if_neg fun z=>absurd (decide_eq_true z.2.1) g1] at fin
    exact Cv fin
  ·have z:(!decide (V.int (qd.1:Nat)=V.int (j1:Nat)))=true:=by
    rw [decide_eq_false fun z=>e1 (by have:=V.int.inj z; omega)]
    rfl
   rw [z]
   refine Cv ?_
   rw [if_neg fun z=>e1 z.1] at fin
   exact fin
noncomputable def aR:Sp:=fun vs H Q _=>∃ (c:Int) (m:Nat),vs=[.int c,.int (m:Nat)]/\m<=100/\∀ D (l:List Nat) H',H D=none->An H H'->H' D=some (.lst (nV l))->(∀ k∈l,k<m)->l.length<=100->Q (.ref D) H'
theorem iI:Av ["_law_cell","_law_count"] ["_law_cell","_law_count"] (Ag dZ):=Bl
include N T in
theorem ZG:Aq P w K mg base Be 2 aD.fDr aD.dDr ["_law_cell","_law_count"] aR:=by
 have GMx:Aq P w K mg base Be 1 aD.fMx aD.dMx ["_law_cell","_law_k"] J_:=Hs N T
 refine N.FDr.1.ok iI (fun vs H Q E h=>?_) (fun cdv A outer s H vs Q E hr h=>?_)
 ·obtain ⟨c,m,rfl,_⟩:=h
  rfl
 ·obtain ⟨c,m,rfl,hm,q⟩:=h
  have hrMx:BR 1 _:=hr.mono (by decide)
  refine ⟨_,(Ah (Aw (Bs rfl (Ba (osc:=Ag dZ) (N:=["_law_cell","_law_count"]) rfl rfl (by decide +kernel)) (Cm rfl T.range (Aa (pv 1) Ac)) (fun _ _ _ _=>(Gk (BW Er (Ar Bp (Ar Cq (Ai GMx hrMx rfl N.FMx.2.2 N.FMx.1.kp N.FMx.2.1 .nil Ao (Aa (Ar Cq (pv 1) Ab) (Aa (Ar Bm Ab (pv 0)) Ac))) Ab) Ab) (Ar Bp (pv 1) Ab) (Bc _)))) (fun _ _ _ _=>(pv 0))))),?_⟩
  refine ⟨_,rfl,_,rfl,by omega,by omega,?_⟩
  rw [Int.toNat_natCast]
  refine Dv (lo:=0) (n:=m) (fun i=>decide (Bg (c / 4) (70+i) / 16 % 4<=c % 4)) (fun i=>.int i) (BJ (by omega)) (fun i hi H' hs R k=>?_) (fun i hi _ H' hs R k=>⟨_,rfl,k H' (An.refl H')⟩) (fun D H' hD hs hl=>?_)
  ·exact ⟨_,rfl,_,_,rfl,rfl,⟨by decide,by decide⟩,_,rfl,_,_,rfl,rfl,_,_,rfl,by omega,by omega,_,_,rfl,rfl,⟨by decide,by decide⟩,_,_,rfl,rfl,(by show (0:Int)<4; decide),_,rfl,_,_,rfl,rfl,(by show (0:Int)<4; decide),_,_,rfl,rfl,_,rfl,k H' (An.refl H')⟩
  ·refine q D ((List.range m).filter fun (i:Nat)=>decide (Bg (c / 4) (70+(0+(i:Int))) / 16 % 4<=c % 4)) H' hD hs ?_ (fun k hk=>List.mem_range.mp (List.mem_filter.mp hk).1) ?_
   ·rw [hl,List.filter_map,List.map_map]
    refine congrArg (fun l=>some (HO.lst l)) (List.map_congr_left fun i _=>?_)
    show V.int ((0:Int)+(i:Int))=V.int (i:Int)
    rw [Int.zero_add]
   ·refine Nat.le_trans (List.length_filter_le _ _) ?_
    rw [List.length_range]
    exact hm
noncomputable def Zg:Sp:=fun vs H Q _=>∃ (c:Int) (m:Nat),vs=[.int c,.int (m:Nat)]/\1<=m/\∀ D (l:List Nat) H',H D=none->An H H'->H' D=some (.lst (nV l))->(∀ k∈l,k<m)->l.length<=4->Q (.ref D) H'
theorem fV:Av ["_law_cell","_law_count"] ["_law_cell","_law_count"] (Ag dW):=Bl
include N T in
theorem cG:Aq P w K mg base Be 2 aD.fHd aD.dHd ["_law_cell","_law_count"] Zg:=by
 have GMx:Aq P w K mg base Be 1 aD.fMx aD.dMx ["_law_cell","_law_k"] J_:=Hs N T
 refine N.FHd.1.ok fV (fun vs H Q E h=>?_) (fun cdv A outer s H vs Q E hr h=>?_)
 ·obtain ⟨c,m,rfl,_⟩:=h
  rfl
 ·obtain ⟨c,m,rfl,hm,q⟩:=h
  have hrMx:BR 1 _:=hr.mono (by decide)
  refine ⟨_,(Ah (Aw (Bs rfl (Ba (osc:=Ag dW) (N:=["_law_cell","_law_count"]) rfl rfl (by decide +kernel)) (Cm rfl T.range (Aa (Ar Bp (pv 0) Ab) Ac)) (fun _ _ _ _=>CZ) (fun _ _ _ _=>(Ar Bp (Ai GMx hrMx rfl N.FMx.2.2 N.FMx.1.kp N.FMx.2.1 .nil Ao (Aa (Ar Cq (pv 1) Ab) (Aa (Ar Bm Ab (pv 0)) Ac))) (pv 2)))))),?_⟩
  have c0:0<=c % 5/\c % 5<5:=⟨Int.emod_nonneg _ (by decide),Int.emod_lt_of_pos _ (by decide)⟩
  refine ⟨_,rfl,_,_,rfl,rfl,(by show (0:Int)<5; decide),c % 5,rfl,by omega,by omega,?_⟩
  refine Dv (lo:=0) (n:=(c % 5).toNat) (fun _=>true) (fun i=>.int (Bg (c / 5) (100+i) % (m:Nat))) (BJ (by omega)) (fun i hi H' hs R k=>k H' (An.refl H')) (fun i hi _ H' hs R k=>?_) (fun D H' hD hs hl=>?_)
  ·exact ⟨_,rfl,_,_,rfl,rfl,⟨by decide,by decide⟩,_,rfl,_,_,rfl,rfl,_,_,rfl,by omega,by omega,_,rfl,_,_,rfl,rfl,(by show (0:Int)<(m:Nat); omega),k H' (An.refl H')⟩
  ·have nn:∀ i:Int,0<=Bg (c / 5) (100+i) % (m:Nat)/\Bg (c / 5) (100+i) % (m:Nat)<(m:Nat):=fun i=>⟨Int.emod_nonneg _ (by omega),Int.emod_lt_of_pos _ (by omega)⟩
   refine q D ((List.range (c % 5).toNat).map fun (i:Nat)=>(Bg (c / 5) (100+(0+(i:Int))) % (m:Nat)).toNat) H' hD hs ?_ (fun k hk=>?_) (by simp; omega)
   ·rw [hl,List.filter_eq_self.mpr (fun _ _=>rfl),List.map_map]
    unfold nV
    rw [List.map_map]
    refine congrArg (fun l=>some (HO.lst l)) (List.map_congr_left fun i _=>?_)
    have:=nn (0+(i:Int))
    show V.int (Bg (c / 5) (100+(0+(i:Int))) % (m:Nat))=V.int (((Bg (c / 5) (100+(0+(i:Int))) % (m:Nat)).toNat:Nat):Int)
    rw [Int.toNat_of_nonneg this.1]
   ·obtain ⟨i,_,rfl⟩:=List.mem_map.mp hk
    have:=nn (0+(i:Int))
    omega
noncomputable def I_ (H:Hp) (k:Kb) (y:V):Prop:=(∃ T r,y=.ref T/\H T=some (.tup (.str k.w :: .int (k.bd:Nat)::r)))/\(k.w = "coupler"->TupAt H k.v y)
theorem I_.mono {H H':Hp} {k:Kb} {y:V} (s:An H H') (h:I_ H k y):I_ H' k y:=by
 obtain ⟨⟨T,r,e,ht⟩,h2⟩:=h
 exact ⟨⟨T,r,e,s _ _ ht⟩,fun z=>(h2 z).mono s⟩
theorem Zx {Dx:Addr} {H:Hp} {z:Kl} {y:V} (h:FJ Dx H z y):I_ H z.1 y:=by
 obtain ⟨ex,⟨T,e,ht⟩,h2⟩:=h
 obtain ⟨k,l⟩:=z
 cases k with
 | cp i j s =>
  refine ⟨⟨T,_,e,ht⟩,fun _=>⟨T,e,?_⟩⟩
  rcases h2 with ⟨rfl,_⟩ | ⟨z,_⟩
  ·exact ht
  ·exact absurd (show ("coupler" : Str) = "stop" from z) (by decide +kernel)
 | pl w i =>
  refine ⟨⟨T,_,e,ht⟩,fun z=>?_⟩
  rcases h2 with ⟨rfl,_⟩ | ⟨z2,_⟩
  ·exact ⟨T,e,ht⟩
  ·have z':w = "coupler":=z
   have z2':w = "stop":=z2
   exact absurd (z'.symm.trans z2') (by decide +kernel)
theorem Q4 {Dx:Addr} {H:Hp} {kls:List Kl} {us:List V} (h:Paired (fun z y=>FJ Dx H z y) kls us):Paired (fun (k:Kb) y=>I_ H k y) (kls.map (·.1)) us:=Bx (F:=fun (k:Kb) y=>I_ H k y) (·.1) (Paired.Fb h fun _ _ q=>Zx q)
theorem HN (l:List Nat):(nV l).all HW=true:=List.all_eq_true.mpr fun v hv=>by
 obtain ⟨n,_,rfl⟩:=List.mem_map.mp hv
 rfl
theorem SM (a b:List Nat):nV a++nV b=nV (a++b):=List.map_append.symm
theorem VB (l:List Nat) (j:Nat):nV l++[V.int (j:Nat)]=nV (l++[j]):=SM l [j]
noncomputable def KC (pz:List Nat) (a:Nat) (qd:Nat × Nat) (x:Ln):V:=if qd.1=a/\x.lo<=(qd.2:Int)/\(qd.2:Int)<=x.hi/\0<=(qd.2:Int)+x.sh/\(qd.2:Int)+x.sh<(pz.getD x.r 0:Nat) then .int ((((pz.take x.r).sum:Nat):Int)+(qd.2:Int)+x.sh) else .non
noncomputable def bu:Sp:=fun vs H Q _=>∃ (p pp T1 A:Addr) (bs:List (Str × Nat)) (pz:List Nat) (a i:Nat) (l:List Ln) (ts:List V) (qd:Nat × Nat),vs=[.ref p,.ref pp,.ref T1,.int (i:Nat)]/\H p=some (.lst ((bs.map (·.2)).map fun n:Nat=>V.int (n:Nat)))/\(Ed bs)[i]? = some qd/\H pp=some (.lst (pz.map fun n:Nat=>V.int (n:Nat)))/\pz.length<=4/\(∀ z∈pz,1<=z/\z<=97)/\H T1=some (.tup [.str "stop",.int (a:Nat),.ref A])/\H A=some (.lst ts)/\Paired (fun x y=>TupAt H (RG x) y) l ts/\l.length<=4/\(∀ x∈l,x.r<pz.length)/\∀ D H',H D=none->An H H'->H' D=some (.lst (l.map (KC pz a qd)))->Q (.ref D) H'
theorem KD:Av ["_law_sizes_here","_law_pipes","_law_knob_here","_law_key","_law_board","_law_number","_law_found","_law_rank","_law_shift","_law_low","_law_high","_law_pipe"] ["_law_sizes_here","_law_pipes","_law_knob_here","_law_key"] (Ag jZ):=Bl
include N T in
theorem Yc:Aq P w K mg base Be 2 aD.fPi aD.dPi ["_law_sizes_here","_law_pipes","_law_knob_here","_law_key"] bu:=by
 have GSp:Aq P w K mg base Be 1 aD.fSp aD.dSp ["_law_sizes_here","_law_key"] UW:=RZ N T
 refine N.FPi.1.ok KD (fun vs H Q E h=>?_) (fun cdv A outer s H vs Q E hr h=>?_)
 ·obtain ⟨p,pp,T1,A0,bs,pz,a,i,l,ts,qd,rfl,_⟩:=h
  rfl
 ·obtain ⟨p,pp,T1,A0,bs,pz,a,i,l,ts,qd,rfl,hp,hq,hpp,h4,hpz,hT1,hA,hts,hl4,hlr,q⟩:=h
  have hrSp:BR 1 _:=hr.mono (by decide)
  refine ⟨_,(Ae (Ot (Ai GSp hrSp rfl N.FSp.2.2 N.FSp.1.kp N.FSp.2.1 .nil Ao (Aa (pv 0) (Aa (pv 3) Ac))) (Fz rfl (Bf (Bd (i:=4) KD.nd rfl (Or.inl rfl)) (Bf (Bd (i:=5) KD.nd rfl (Or.inl rfl)) Ea))))
   (Ae (Az (i:=6) KD.nd rfl (Or.inl rfl) (Df Ac))
   (Ae (DN PassesOwn.never rfl (Bh (Am (Ak (K:=K) rfl) (pv 2) Ab (fun _ _=>rfl))) (Fz rfl (Bf (Bd (i:=7) KD.nd rfl (Or.inl rfl)) (Bf (Bd (i:=8) KD.nd rfl (Or.inl rfl)) (Bf (Bd (i:=9) KD.nd rfl (Or.inl rfl)) (Bf (Bd (i:=10) KD.nd rfl (Or.inl rfl)) Ea))))) (Ae (Az (i:=11) KD.nd rfl (Or.inl rfl) Ge)
   (Ae (Br (PW.pt (Im (BW Du (pv 4) (Am (Ak (K:=K) rfl) (pv 2) Ab (fun _ _=>rfl)) (Bc _)) (Im (FT Er Er (pv 9) (pv 5) (pv 10)) (Ht (FT Er GX Ab (Ar Bm (pv 5) (pv 8)) (Am (BV (K:=K) rfl) (pv 1) (pv 7) (fun _ _=>rfl))))))) (Ah (Az (i:=11) KD.nd rfl (Or.inl rfl) (Ar Bm (Ar Bm (BL (GC rfl) rfl T.sum PyProof.Rows.boot_sum (Aa (Dd Ey (pv 1) Ec (Ca (pv 7))) Ac)) (pv 5)) (pv 8)))) Bb)
   (Ah (C_ (En PySem.F.plainAttrs_list PySem.F.slot_list_append PySem.F.type_list_append CG (pv 6) (Aa (pv 11) Ac)))))))
   (Ah (Aw (pv 6)))))),?_⟩
  refine ⟨_,rfl,_,rfl,p,bs,i,qd,rfl,hp,hq,fun y1 H1 s1 hy1=>?_⟩
  obtain ⟨T2,rfl,ht2⟩:=hy1
  refine ⟨T2,_,rfl,.inl (.inl ht2),rfl,_,_,rfl,_,_,rfl,rfl,?_⟩
  refine ⟨DY (by simp),fun D hD=>?_⟩
  have hD0:=s1.free hD
  obtain ⟨H2,eqH,t0,u0⟩:=JC (o:=HO.lst []) hD
  rw [eqH]
  have s02:=s1.trans t0
  have hS2:CP K H2 A0 ts:=.inl (.inl (s02 _ _ hA))
  have htl:=hts.length
  refine ⟨_,rfl,T1,_,_,_,rfl,rfl,.inl (.inl (s02 _ _ hT1)),Af (j:=2) rfl,A0,rfl,⟨_,hS2⟩,Dl (K:=K) (a:=A0) (xs:=ts) (fun j σ H4=>An H H4/\H4 D=some (.lst ((l.take j).map (KC pz a qd)))/\∃ v7 v8 v9 v10 v11,σ=[some (.ref p),some (.ref pp),some (.ref T1),some (.int (i:Nat)),some (.int (qd.1:Nat)),some (.int (qd.2:Nat)),some (.ref D),v7,v8,v9,v10,v11])
   ⟨s02,u0,_,_,_,_,_,rfl⟩ (fun j σ H4 _ h=>.inl (.inl (h.1 _ _ hA))) ?_ ?_⟩
  ·rintro j y σ H4 hj ⟨s4,hd,v7,v8,v9,v10,v11,rfl⟩
   obtain ⟨x,hx,T3,rfl,ht3⟩:=Eo hts hj
   have hxr:=hlr x (List.mem_of_getElem? hx)
   have hzr:=hpz pz[x.r] (List.getElem_mem hxr)
   have ezr:pz.getD x.r 0=pz[x.r]:=by rw [List.getD_eq_getElem?_getD,List.getElem?_eq_getElem hxr]; rfl
   have hpp4:=s4 _ _ hpp
   have fin:∀ {H5:Hp} (pv:V),An H4 H5->H5 D=some (.lst ((l.take j).map (KC pz a qd)))->KC pz a qd x=pv->An H (upd H5 D (.lst ((l.take j).map (KC pz a qd)++[pv])))/\upd H5 D (.lst ((l.take j).map (KC pz a qd)++[pv])) D=some (.lst ((l.take (j+1)).map (KC pz a qd)))/\∃ v7 v8 v9 v10 v11,[some (V.ref p),some (.ref pp),some (.ref T1),some (.int (i:Nat)),some (.int (qd.1:Nat)),some (.int (qd.2:Nat)),some (.ref D),some (.int (x.r:Nat)),some (.int x.sh),some (.int x.lo),some (.int x.hi),some pv]=[some (.ref p),some (.ref pp),some (.ref T1),some (.int (i:Nat)),some (.int (qd.1:Nat)),some (.int (qd.2:Nat)),some (.ref D),v7,v8,v9,v10,v11]:=fun {H5} pv s5 hd5 e=>by
    refine ⟨fun b o z=>?_,?_,_,_,_,_,_,rfl⟩
    ·rw [BP (A_ z hD0)]
     exact s5 _ _ (s4 _ _ z)
    ·rw [Aj,List.take_add_one,hx,List.map_append,← e]
     rfl
   refine ⟨T3,_,rfl,.inl (.inl (s4 _ _ ht3)),rfl,_,_,rfl,_,_,rfl,_,_,rfl,_,_,rfl,rfl,?_⟩
   refine ⟨_,rfl,_,rfl,T1,_,_,_,rfl,rfl,.inl (.inl (s4 _ _ hT1)),Af (j:=1) rfl,rfl,_,rfl,?_⟩
   by_cases e1:qd.1=a
   rotate_left
   ·have z:decide (V.int (qd.1:Nat)=V.int (a:Nat))=false:=decide_eq_false fun z=>e1 (by have:=V.int.inj z; omega)
    rw [z]
    repeat refine Bo ?_
    exact ⟨_,rfl,.inl ⟨rfl,_,.inl (.inl hd)⟩,_,rfl,D,_,_,rfl,rfl,hd,BJ (by rw [List.length_map,List.length_take]; omega),fin _ (An.refl _) hd (if_neg (fun z=>absurd z.1 e1))⟩
   have z:decide (V.int (qd.1:Nat)=V.int (a:Nat))=true:=by rw [e1]; exact decide_eq_true rfl
   rw [z]
   refine Cv ?_
   refine ⟨_,rfl,_,rfl,_,_,rfl,rfl,_,rfl,?_⟩
   by_cases e2:x.lo<=(qd.2:Int)
   rotate_left
   ·rw [decide_eq_false e2]
    refine Bo ⟨_,rfl,?_⟩
    repeat refine Bo ?_
    exact ⟨_,rfl,.inl ⟨rfl,_,.inl (.inl hd)⟩,_,rfl,D,_,_,rfl,rfl,hd,BJ (by rw [List.length_map,List.length_take]; omega),fin _ (An.refl _) hd (if_neg (fun z=>absurd z.2.1 e2))⟩
   rw [decide_eq_true e2]
   refine Cv ?_
   refine ⟨_,rfl,_,_,rfl,rfl,_,rfl,?_⟩
   by_cases e3:(qd.2:Int)<=x.hi
   rotate_left
   ·rw [decide_eq_false e3]
    repeat refine Bo ?_
    exact ⟨_,rfl,.inl ⟨rfl,_,.inl (.inl hd)⟩,_,rfl,D,_,_,rfl,rfl,hd,BJ (by rw [List.length_map,List.length_take]; omega),fin _ (An.refl _) hd (if_neg (fun z=>absurd z.2.2.1 e3))⟩
   rw [decide_eq_true e3]
   refine Cv ?_
   refine ⟨_,rfl,_,rfl,_,_,rfl,rfl,_,_,rfl,rfl,_,rfl,?_⟩
   by_cases e4:0<=(qd.2:Int)+x.sh
   rotate_left
   ·rw [decide_eq_false e4]
    refine Bo ⟨_,rfl,?_⟩
    repeat refine Bo ?_
    exact ⟨_,rfl,.inl ⟨rfl,_,.inl (.inl hd)⟩,_,rfl,D,_,_,rfl,rfl,hd,BJ (by rw [List.length_map,List.length_take]; omega),fin _ (An.refl _) hd (if_neg (fun z=>absurd z.2.2.2.1 e4))⟩
   rw [decide_eq_true e4]
   refine Cv ?_
   refine ⟨_,rfl,_,rfl,pp,_,_,.int (pz[x.r]:Nat),rfl,rfl,.inl (.inl hpp4),Af (by rw [List.getElem?_map,List.getElem?_eq_getElem hxr]; rfl),_,_,rfl,rfl,_,rfl,?_⟩
   by_cases e5:(qd.2:Int)+x.sh<(pz[x.r]:Nat)
   rotate_left
   ·rw [decide_eq_false e5]
    repeat refine Bo ?_
    exact ⟨_,rfl,.inl ⟨rfl,_,.inl (.inl hd)⟩,_,rfl,D,_,_,rfl,rfl,hd,BJ (by rw [List.length_map,List.length_take]; omega),fin _ (An.refl _) hd (if_neg (fun z=>absurd (show (qd.2:Int)+x.sh<(pz[x.r]:Nat) from ezr ▸ z.2.2.2.2) e5))⟩
   rw [decide_eq_true e5]
   refine Cv ?_
   have pzi:(pz.map fun n:Nat=>V.int (n:Nat))=(pz.map fun n:Nat=>(n:Int)).map V.int:=by rw [List.map_map]; rfl
   rw [pzi] at hpp4
   refine ⟨_,rfl,_,rfl,_,rfl,pp,_,rfl,.inl (.inl hpp4),fun p6 hp6=>?_⟩
   have t6:=Ax (o:=HO.lst (Cy ((pz.map fun n:Nat=>(n:Int)).map V.int) none (some (x.r:Int)))) hp6
   have u6:upd H4 p6 (HO.lst (Cy ((pz.map fun n:Nat=>(n:Int)).map V.int) none (some (x.r:Int)))) p6=_:=Aj
   generalize upd H4 p6 (HO.lst (Cy ((pz.map fun n:Nat=>(n:Int)).map V.int) none (some (x.r:Int))))=H6 at t6 u6 ⊢
   rw [G7 _ x.r (by rw [List.length_map,List.length_map]; omega),← List.map_take,← List.map_take] at u6
   have hd6:=t6 _ _ hd
   refine ⟨p6,_,rfl,.inl (.inl u6),(fun n hn=>by
    obtain ⟨m,hm,rfl⟩:=List.mem_map.mp hn
    have:=(hpz m (List.mem_of_mem_take hm)).2
    omega),(by simp; omega),?_⟩
   rw [Gi]
   refine ⟨_,rfl,_,_,rfl,rfl,_,rfl,_,_,rfl,rfl,?_⟩
   exact ⟨_,rfl,.inl ⟨rfl,_,.inl (.inl hd6)⟩,_,rfl,D,_,_,rfl,rfl,hd6,BJ (by rw [List.length_map,List.length_take]; omega),fin _ t6 hd6 (if_pos ⟨e1,e2,e3,e4,by rw [ezr]; exact e5⟩)⟩
  ·rintro σ H4 ⟨s4,hd,v7,v8,v9,v10,v11,rfl⟩
   rw [List.take_of_length_le (by omega)] at hd
   exact ⟨_,rfl,q D H4 hD0 s4 hd⟩
noncomputable def Zh (st:Nat->Nat->Nat->Prop):Nat->List (Nat × Nat)->Prop
 | _,[]=>True
 | i,p::r=>st i p.1 p.2/\Zh st p.2 r
noncomputable def fU (bs:List (Str × Nat)) (kbs:List Kb) (D i k j:Nat):Prop:=D.testBit k=true/\∃ z,kbs[k]? = some z/\gl bs z i=some j
structure gk (bs:List (Str × Nat)) (kbs:List Kb) (D n T key f:Nat) (pre:List (Nat × Nat)) (k:Nat):Prop where
 held:n.testBit f=true
 chn:Zh (fU bs kbs D) f (pre++[(k,key)])
 nd:(pre.map (·.2)++[key]).Nodup
 new:∀ p∈pre,n.testBit p.2=false
 lt:∀ p∈pre,p.2<T
theorem NP {α β:Type} {F:α->β->Prop} {l:List α} {vs:List β} (h:Paired F l vs):Paired F l.reverse vs.reverse:=by
 induction h with
 | nil=>exact .nil
 | cons a b ih =>
  rw [List.reverse_cons,List.reverse_cons]
  exact FQ ih (.cons a .nil)
noncomputable abbrev pV (p:Nat × Nat):List V:=[V.int (p.1:Nat),V.int (p.2:Nat)]
noncomputable def aU:Sp:=fun vs H Q _=>∃ (W:Addr) (n key T:Nat) (bs:List (Str × Nat)) (kbs:List Kb) (D:Nat) (kvs:List (Key × V)) (js:List Nat),vs=[.ref W,.int (n:Nat),.int (key:Nat)]/\H W=some (.dK kvs)/\js.Nodup/\Ly H bs kbs D n kvs js/\key∈js/\(∀ j∈js,j<T)/\T<=400 /\
 ∀ y H' (f:Nat) (pre:List (Nat × Nat)) (k:Nat) (L:Addr) (ys:List V),H L=none->An H H'->TupAt H' [.int (f:Nat),.ref L] y->H' L=some (.lst ys)->Paired (fun (p:Nat × Nat) v=>TupAt H' (pV p) v) (pre++[(k,key)]) ys->gk bs kbs D n T key f pre k->Q y H'
theorem VL:Av ["ways","held","key","steps","first"] ["ways","held","key"] (Ag jA):=Bl
include N T in
theorem Z5:Aq P w K mg base Be 2 aD.fTb aD.dTb ["ways","held","key"] aU:=by
 have GHa:Aq P w K mg base Be 1 aD.fHa aD.dHa ["some","number"] Oi:=Ku N T
 refine N.FTb.1.ok VL (fun vs H Q E h=>?_) (fun cdv A outer s H vs Q E hr h=>?_)
 ·obtain ⟨W,n,key,TM,bs,kbs,D,kvs,js,rfl,_⟩:=h
  rfl
 ·obtain ⟨W,n,key,TM,bs,kbs,D,kvs,js,rfl,hW,ndj,hpar,hkey,hlt,hT4,q⟩:=h
  have hrHa:BR 1 _:=hr.mono (by decide)
  have hu:=Fl hr
  refine ⟨_,(Ae (Az (i:=3) VL.nd rfl (Or.inl rfl) (Df (Aa (CQ (Aa (Am (Ak (K:=K) rfl) (Ej hu (pv 0) (pv 2) (fun _ _=>rfl)) Ab (fun _ _=>rfl)) (Aa (pv 2) Ac))) Ac)))
   (Ae (Az (i:=4) VL.nd rfl (Or.inl rfl) (Am (Ak (K:=K) rfl) (Ej hu (pv 0) (pv 2) (fun _ _=>rfl)) Ab (fun _ _=>rfl)))
   (Ae (Jv PassesOwn.never (CJ (CV (Ai GHa hrHa rfl N.FHa.2.2 N.FHa.1.kp N.FHa.2.1 .nil Ao (Aa (pv 1) (Aa (pv 4) Ac))))) (Ae (C_ (En PySem.F.plainAttrs_list PySem.F.slot_list_append PySem.F.type_list_append CG (pv 3) (Aa (CQ (Aa (Am (Ak (K:=K) rfl) (Ej hu (pv 0) (pv 4) (fun _ _=>rfl)) Ab (fun _ _=>rfl)) (Aa (pv 4) Ac))) Ac)))
   (Ah (Az (i:=4) VL.nd rfl (Or.inl rfl) (Am (Ak (K:=K) rfl) (Ej hu (pv 0) (pv 4) (fun _ _=>rfl)) Ab (fun _ _=>rfl))))))
   (Ah (Aw (CQ (Aa (pv 4) (Aa (Oz rfl rfl T.list rfl T.reversed (pv 3)) Ac)))))))),?_⟩
  obtain ⟨m0,hm0⟩:=List.mem_iff_getElem?.mp hkey
  obtain ⟨k0,i0,T0,z0,hv0,hT0,hk0,hz0,hg0,hi0⟩:=hpar m0 key hm0
  have dgt:∀ {H':Hp} {j:Nat} {v:V},An H H'->Dt kvs (kI j)=some v->Fv H' W (.int (j:Nat)) (some v):=fun {H' j v} s' e=>by
   have h:=Fv.k (k:=kI j) (s' _ _ hW)
   rw [e] at h
   exact h
  refine ⟨_,rfl,_,rfl,W,_,rfl,dgt (An.refl H) hv0,T0,_,_,_,rfl,rfl,.inl (.inl hT0),Af (j:=0) rfl,_,rfl,by show 2<=sizeLine; decide,fun P1 hP1=>⟨by show 1<=sizeLine; decide,fun S hS=>?_⟩⟩
  have t1:=Ax (o:=HO.tup [V.int (k0:Nat),V.int (key:Nat)]) hP1
  have uP1:upd H P1 (HO.tup [V.int (k0:Nat),V.int (key:Nat)]) P1=some (.tup (pV (k0,key))):=Aj
  have hS0:H S=none:=t1.free hS
  generalize upd H P1 (HO.tup [V.int (k0:Nat),V.int (key:Nat)])=H1 at t1 uP1 hS ⊢
  obtain ⟨H2,eqH,t2,uS⟩:=JC (o:=HO.lst [V.ref P1]) hS
  rw [eqH]
  have s02:=t1.trans t2
  refine ⟨_,rfl,_,rfl,W,_,rfl,dgt s02 hv0,T0,_,_,_,rfl,rfl,.inl (.inl (s02 _ _ hT0)),Af (j:=1) rfl,?_⟩
  show Dg 4 _ _ _ _
  rw [Mq]
  refine L_ ?_
  refine Jt (fun σ H4=>An H H4/\∃ (i M:Nat) (rest:List (Nat × Nat)) (ys:List V),H4 S=some (.lst ys)/\Paired (fun (p:Nat × Nat) v=>TupAt H4 (pV p) v) ((k0,key)::rest) ys/\Zh (fU bs kbs D) i ((k0,key)::rest).reverse/\(key::rest.map (·.2)).Nodup/\(∀ x∈key::rest.map (·.2),x∈js.drop M)/\(n.testBit i=true \/ i∈js.take M)/\(∀ p∈rest,n.testBit p.2=false)/\σ=[some (.ref W),some (.int (n:Nat)),some (.int (key:Nat)),some (.ref S),some (.int (i:Nat))])
   (fun _ H4=>TM - Ql (H4 S)) ⟨s02,i0,m0,[],[V.ref P1],uS,.cons ⟨P1,rfl,t2 _ _ uP1⟩ .nil,⟨⟨hk0,z0,hz0,hg0⟩,trivial⟩,(by simp),(fun x hx=>?_),hi0,(fun p hp=>nomatch hp),rfl⟩ ?_ ?_
  ·have:x=key:=by simpa using hx
   subst this
   have hml:=(List.getElem?_eq_some_iff.mp hm0).1
   have:js.drop m0=js[m0]::js.drop (m0+1):=List.drop_eq_getElem_cons hml
   rw [this]
   have e:=(List.getElem?_eq_some_iff.mp hm0).2
   rw [e]
   exact List.mem_cons_self ..
  ·rintro σ H4 ⟨s4,i,M,rest,ys,hS4,hp4,hch,nd4,hdr,hi,hnew,rfl⟩
   have hyl:=hp4.length
   have hall:∀ x∈key::rest.map (·.2),x<TM:=fun x hx=>hlt x (List.mem_of_mem_drop (hdr x hx))
   have hrl:=Dp TM nd4 hall
   rw [List.length_cons,List.length_map] at hrl
   rw [List.length_cons] at hyl
   refine ⟨_,rfl,_,rfl,n,_,rfl,_,rfl,?_⟩
   have eb:(decide ((0:Int)<=(i:Nat)) && n.testBit ((i:Nat):Int).toNat)=n.testBit i:=by rw [decide_eq_true (by omega),Bool.true_and,Int.toNat_natCast]
   rw [eb]
   cases hb:n.testBit i with
   | true =>
    refine Bo ?_
    refine ⟨_,rfl,_,rfl,S,ys,rfl,.inl (.inl hS4),fun L hL=>⟨by show 2<=sizeLine; decide,fun P hP=>?_⟩⟩
    have t5:=Ax (o:=HO.lst ys.reverse) hL
    have uL:upd H4 L (HO.lst ys.reverse) L=some (.lst ys.reverse):=Aj
    generalize upd H4 L (HO.lst ys.reverse)=H5 at t5 uL hP ⊢
    have t6:=Ax (o:=HO.tup [V.int (i:Nat),V.ref L]) hP
    refine q _ _ i rest.reverse k0 L ys.reverse (s4.free hL) (s4.trans (t5.trans t6)) ⟨P,rfl,Aj⟩ (t6 _ _ uL) ?_ ⟨hb,?_,?_,(fun p hp=>hnew p (List.mem_reverse.mp hp)),(fun p hp=>hall _ (List.mem_cons_of_mem _ (List.mem_map_of_mem (List.mem_reverse.mp hp))))⟩
    ·rw [← List.reverse_cons]
     exact Al t6 (Al t5 (NP hp4))
    ·rw [← List.reverse_cons]
     exact hch
    ·have h:(key::rest.map (·.2)).reverse.Nodup:=List.pairwise_reverse.mpr (List.Pairwise.imp (fun h=>h.symm) nd4)
     rw [List.reverse_cons,← List.map_reverse] at h
     exact h
   | false =>
    refine Cv ?_
    have hi':i∈js.take M:=hi.resolve_left (by rw [hb]; decide)
    obtain ⟨m',hm'⟩:=List.mem_iff_getElem?.mp hi'
    have hmM:m'<M:=by
     have:=(List.getElem?_eq_some_iff.mp hm').1
     rw [List.length_take] at this
     omega
    rw [List.getElem?_take_of_lt hmM] at hm'
    obtain ⟨k,i2,T2,z,hv,hT2,hk,hz,hg,hi2⟩:=hpar m' i hm'
    refine ⟨_,rfl,.inl ⟨rfl,_,.inl (.inl hS4)⟩,_,rfl,_,rfl,W,_,rfl,dgt s4 hv,T2,_,_,_,rfl,rfl,.inl (.inl (s4 _ _ hT2)),Af (j:=0) rfl,_,rfl,by show 2<=sizeLine; decide,fun P hP=>?_⟩
    have t5:=Ax (o:=HO.tup [V.int (k:Nat),V.int (i:Nat)]) hP
    have uP:upd H4 P (HO.tup [V.int (k:Nat),V.int (i:Nat)]) P=some (.tup (pV (k,i))):=Aj
    generalize upd H4 P (HO.tup [V.int (k:Nat),V.int (i:Nat)])=H5 at t5 uP ⊢
    have hS5:=t5 _ _ hS4
    refine ⟨S,_,_,rfl,rfl,hS5,Lf (by omega),?_⟩
    have uS6:upd H5 S (.lst (ys++[V.ref P])) S=some (.lst (ys++[V.ref P])):=Aj
    have s6:An H (upd H5 S (.lst (ys++[V.ref P]))):=fun b o e=>by rw [BP (A_ e hS0)]; exact t5 _ _ (s4 _ _ e)
    have hp6:Paired (fun (p:Nat × Nat) v=>TupAt (upd H5 S (.lst (ys++[V.ref P]))) (pV p) v) ((k0,key)::(rest++[(k,i)])) (ys++[V.ref P]):=by
     have h1:=(By (ws:=ys++[V.ref P]) (Al t5 hp4) hS5).snoc (TupAt.upd (ws:=ys++[V.ref P]) ⟨P,rfl,uP⟩ hS5)
     rwa [List.cons_append] at h1
    generalize upd H5 S (.lst (ys++[V.ref P]))=H6 at uS6 s6 hp6 ⊢
    refine ⟨_,rfl,_,rfl,W,_,rfl,dgt s6 hv,T2,_,_,_,rfl,rfl,.inl (.inl (s6 _ _ hT2)),Af (j:=1) rfl,⟨s6,i2,m',rest++[(k,i)],ys++[V.ref P],uS6,hp6,?_,?_,?_,hi2,?_,rfl⟩,?_⟩
    ·rw [← List.cons_append,List.reverse_append]
     exact ⟨⟨hk,z,hz,hg⟩,hch⟩
    ·rw [List.map_append,← List.cons_append]
     refine List.nodup_append.mpr ⟨nd4,by simp,fun a ha b hb'=>?_⟩
     have eb':b=i:=by simpa using hb'
     subst eb'
     intro e
     subst e
     have hd:=hdr _ ha
     have hnd:=ndj
     rw [← List.take_append_drop M js] at hnd
     exact (List.nodup_append.mp hnd).2.2 _ hi' _ hd rfl
    ·intro x hx
     rw [List.map_append,← List.cons_append] at hx
     rcases List.mem_append.mp hx with h | h
     ·have h2:=hdr x h
      have e:js.drop M=(js.drop m').drop (M - m'):=by rw [List.drop_drop]; congr 1; omega
      rw [e] at h2
      exact List.mem_of_mem_drop h2
     ·have:x=i:=by simpa using h
      subst this
      have hml:=(List.getElem?_eq_some_iff.mp hm').1
      have e2:js.drop m'=js[m']::js.drop (m'+1):=List.drop_eq_getElem_cons hml
      rw [e2]
      have e3:=(List.getElem?_eq_some_iff.mp hm').2
      rw [e3]
      exact List.mem_cons_self ..
    ·intro p hp
     rcases List.mem_append.mp hp with h | h
     ·exact hnew p h
     ·have:p=(k,i):=by simpa using h
      rw [this]
      exact hb
    ·have hxi:i<TM:=hlt i (List.mem_of_getElem? hm')
     have hni:(key::rest.map (·.2)++[i]).Nodup:=by
      refine List.nodup_append.mpr ⟨nd4,by simp,fun a ha b hb'=>?_⟩
      have eb':b=i:=by simpa using hb'
      subst eb'
      intro e
      subst e
      have hd:=hdr _ ha
      have hnd:=ndj
      rw [← List.take_append_drop M js] at hnd
      exact (List.nodup_append.mp hnd).2.2 _ hi' _ hd rfl
     have hrl2:=Dp TM hni fun x hx=>by
      rcases List.mem_append.mp hx with h | h
      ·exact hall x h
      ·have:x=i:=by simpa using h
       rw [this]
       exact hxi
     rw [List.length_append,List.length_cons,List.length_map,List.length_singleton] at hrl2
     show TM - Ql (H6 S)<TM - Ql (H4 S)
     rw [uS6,hS4]
     show TM - (ys++[V.ref P]).length<TM - ys.length
     rw [List.length_append,List.length_singleton]
     omega
  ·rintro σ H' Q1 Q2 hm ⟨v1,h1,v2,h2,n',i',e,k,hk,h⟩
   exact ⟨v1,h1,v2,h2,n',i',e,k,hk,hm _ _ h⟩
structure aa (bs:List (Str × Nat)) (kbs:List Kb) (D n key f:Nat) (st:List (Nat × Nat)) (least:Nat):Prop where
 held:n.testBit f=true
 chn:Zh (fU bs kbs D) f st
 last:(f::st.map (·.2)).getLast? = some key
 nd:(f::st.map (·.2)).dropLast.Nodup
 new:key ∉ (st.map (·.2)).dropLast
 few:least<=st.length
 len:st.length<=400
theorem gk.UJ {bs:List (Str × Nat)} {kbs:List Kb} {D n T key f:Nat} {pre:List (Nat × Nat)} {k least:Nat} (h:gk bs kbs D n T key f pre k) (hT:T<=305) (hl:least<=1):aa bs kbs D n key f (pre++[(k,key)]) least:=by
 have e:(pre++[(k,key)]).map (·.2)=pre.map (·.2)++[key]:=by rw [List.map_append]; rfl
 have ndA:=(List.nodup_append.mp h.nd).1
 have hfA:f ∉ pre.map (·.2):=fun hm=>by
  obtain ⟨p,hp,e⟩:=List.mem_map.mp hm
  have:=h.new p hp
  rw [e,h.held] at this
  cases this
 have hpl:=Dp T ndA fun x hx=>by
  obtain ⟨p,hp,rfl⟩:=List.mem_map.mp hx
  exact h.lt p hp
 rw [List.length_map] at hpl
 refine ⟨h.held,h.chn,?_,?_,?_,?_,?_⟩
 ·rw [e,← List.cons_append,List.getLast?_append]
  rfl
 ·rw [e,← List.cons_append,List.dropLast_concat]
  exact List.nodup_cons.mpr ⟨hfA,ndA⟩
 ·rw [e,List.dropLast_concat]
  exact fun hm=>(List.nodup_append.mp h.nd).2.2 key hm key (by simp) rfl
 ·rw [List.length_append,List.length_singleton]
  omega
 ·rw [List.length_append,List.length_singleton]
  omega
noncomputable def b_ (C:Addr):Sp:=fun vs H Q _=>∃ (x:Addr) (c:Nat->Str) (sz:List Nat) (kbs:List Kb) (D n key least:Nat),vs=[.ref x,.int (D:Nat),.int (n:Nat),.int (key:Nat),.int (least:Nat)]/\Di C H x (BZ c sz) (Bw c kbs)/\Lx sz.length kbs/\n<2 ^ 1200/\(∀ i,n.testBit i=true->i<sz.sum)/\least<=1 /\
 (∀ y H' (f:Nat) (st:List (Nat × Nat)) (L:Addr) (ys:List V),H L=none->An H H'->TupAt H' [.int (f:Nat),.ref L] y->H' L=some (.lst ys)->Paired (fun (p:Nat × Nat) v=>TupAt H' (pV p) v) st ys->aa (BZ c sz) kbs D n key f st least->((least=0/\n.testBit key=true) \/ Lq (stp (BZ c sz) kbs D) (fun i=>n.testBit i=true) key)->Q y H') /\
 ∀ H',An H H'->¬ (least=0/\n.testBit key=true)->¬ Lq (stp (BZ c sz) kbs D) (fun i=>n.testBit i=true) key->Q .non H'
theorem W8:Av ["organ","knobs","held","key","least","keys","ways"] ["organ","knobs","held","key","least"] (Ag UT):=Bl
include N T in
theorem YM:Aq P w K mg base Be 6 aD.fTt aD.dTt ["organ","knobs","held","key","least"] (b_ C):=by
 have GHk:Aq P w K mg base Be 2 aD.fHk aD.dHk ["organ","held"] (VG C):=Ru N T
 have GHa:Aq P w K mg base Be 1 aD.fHa aD.dHa ["some","number"] Oi:=Ku N T
 have GWa:Aq P w K mg base Be 4 aD.fWa aD.dWa ["organ","knobs","held"] (Xg C):=Vw N T
 have GTb:Aq P w K mg base Be 2 aD.fTb aD.dTb ["ways","held","key"] aU:=Z5 N T
 refine N.FTt.1.ok W8 (fun vs H Q E h=>?_) (fun cdv A outer s H vs Q E hr h=>?_)
 ·obtain ⟨x,c,sz,kbs,D,n,key,least,rfl,_⟩:=h
  rfl
 ·obtain ⟨x,c,sz,kbs,D,n,key,least,rfl,O,hkb,hn,hnt,hle,q,q0⟩:=h
  have hrHk:BR 2 _:=hr.mono (by decide)
  have hrHa:BR 1 _:=hr.mono (by decide)
  have hrWa:BR 4 _:=hr.mono (by decide)
  have hrTb:BR 2 _:=hr.mono (by decide)
  have hu:=Fl hr
  refine ⟨_,(Ae (Az (i:=5) W8.nd rfl (Or.inl rfl) (Ai GHk hrHk rfl N.FHk.2.2 N.FHk.1.kp N.FHk.2.1 .nil Ao (Aa (pv 0) (Aa (pv 2) Ac))))
   (Ae (Br (PW.pt (Im (BW Du (pv 4) Ab (Bc _)) (Ht (CV (Ai GHa hrHa rfl N.FHa.2.2 N.FHa.1.kp N.FHa.2.1 .nil Ao (Aa (pv 5) (Aa (pv 3) Ac))))))) (Ah (Aw (CQ (Aa (pv 3) (Aa (Df Ac) Ac))))) Bb)
   (Ae (Az (i:=6) W8.nd rfl (Or.inl rfl) (Ai GWa hrWa rfl N.FWa.2.2 N.FWa.1.kp N.FWa.2.1 .nil Ao (Aa (pv 0) (Aa (pv 1) (Aa (pv 5) Ac)))))
   (Ah (Aw (Jj (N8 (Ww hu (pv 3) (pv 6))) (Ai GTb hrTb rfl N.FTb.2.2 N.FTb.1.kp N.FTb.2.1 .nil Ao (Aa (pv 6) (Aa (pv 5) (Aa (pv 3) Ac)))) Ge)))))),?_⟩
  have hsum:((BZ c sz).map (·.2)).sum=sz.sum:=by rw [B_]
  have h305:=Ei O
  rw [hsum] at h305
  refine ⟨_,rfl,_,rfl,x,BZ c sz,Bw c kbs,n,rfl,O,hn,?_⟩
  rw [hsum,LK hnt]
  refine ⟨_,rfl,rfl,_,rfl,?_⟩
  have eb:(decide ((0:Int)<=(key:Nat)) && n.testBit ((key:Nat):Int).toNat)=n.testBit key:=by rw [decide_eq_true (by omega),Bool.true_and,Int.toNat_natCast]
  by_cases hz:least=0
  ·subst hz
   refine Cv ?_
   refine ⟨_,rfl,_,rfl,n,_,rfl,_,rfl,?_⟩
   rw [eb]
   cases hb:n.testBit key with
   | true =>
    refine Cv ?_
    refine ⟨_,rfl,DY (by simp),fun L hL=>⟨by show 2<=sizeLine; decide,fun P1 hP1=>?_⟩⟩
    have t1:=Ax (o:=HO.lst []) hL
    have u1:upd H L (HO.lst []) L=some (.lst []):=Aj
    generalize upd H L (HO.lst [])=H1 at t1 u1 hP1 ⊢
    exact q _ _ key [] L [] hL (t1.trans (Ax hP1)) ⟨P1,rfl,Aj⟩ ((Ax hP1) _ _ u1) .nil ⟨hb,trivial,rfl,List.nodup_nil,by simp,Nat.zero_le _,Nat.zero_le _⟩ (.inl ⟨rfl,hb⟩)
   | false =>
    refine Bo ?_
    have hnz:¬ ((0:Nat)=0/\n.testBit key=true):=fun z=>by rw [hb] at z; cases z.2
    refine ⟨_,rfl,_,rfl,_,rfl,x,c,sz,kbs,D,n,rfl,O,hkb,hn,hnt,fun W kvs js H1 hW s1 hw hkv nd hpar hj=>?_⟩
    have hlt:∀ j∈js,j<sz.sum:=fun j h=>by
     have:=((hj j).mp h).lt
     rw [hsum] at this
     exact this
    refine ⟨_,rfl,_,rfl,W,_,rfl,Fv.k (k:=kI key) hw,_,rfl,?_⟩
    rw [La hkv key]
    by_cases hkin:key∈js
    ·rw [decide_eq_true hkin]
     refine Cv ?_
     exact ⟨_,rfl,_,rfl,_,rfl,W,n,key,sz.sum,BZ c sz,kbs,D,kvs,js,rfl,hw,nd,hpar,hkin,hlt,by omega,fun y H' f pre k L ys hL0 s' hy hL hp ht=>q y H' f _ L ys (s1.free hL0) (s1.trans s') hy hL hp (ht.UJ h305 hle) (.inr ((hj key).mp hkin))⟩
    ·rw [decide_eq_false hkin]
     exact Bo (q0 H1 s1 hnz fun r=>hkin ((hj key).mpr r))
  ·have ez:decide (V.int (least:Nat)=V.int 0)=false:=decide_eq_false fun z=>hz (by have:=V.int.inj z; omega)
   rw [ez]
   refine Bo (Bo ?_)
   have hnz:¬ (least=0/\n.testBit key=true):=fun z=>hz z.1
   refine ⟨_,rfl,_,rfl,_,rfl,x,c,sz,kbs,D,n,rfl,O,hkb,hn,hnt,fun W kvs js H1 hW s1 hw hkv nd hpar hj=>?_⟩
   have hlt:∀ j∈js,j<sz.sum:=fun j h=>by
    have:=((hj j).mp h).lt
    rw [hsum] at this
    exact this
   refine ⟨_,rfl,_,rfl,W,_,rfl,Fv.k (k:=kI key) hw,_,rfl,?_⟩
   rw [La hkv key]
   by_cases hkin:key∈js
   ·rw [decide_eq_true hkin]
    refine Cv ?_
    exact ⟨_,rfl,_,rfl,_,rfl,W,n,key,sz.sum,BZ c sz,kbs,D,kvs,js,rfl,hw,nd,hpar,hkin,hlt,by omega,fun y H' f pre k L ys hL0 s' hy hL hp ht=>q y H' f _ L ys (s1.free hL0) (s1.trans s') hy hL hp (ht.UJ h305 hle) (.inr ((hj key).mp hkin))⟩
   ·rw [decide_eq_false hkin]
    exact Bo (q0 H1 s1 hnz fun r=>hkin ((hj key).mpr r))
theorem Ss {st:Nat->Nat->Nat->Prop}:∀ {f:Nat} {l:List (Nat × Nat)},Zh st f l->∀ {m:Nat} {p:Nat × Nat},l[m]? = some p->∃ b,(f::l.map (·.2))[m]? = some b/\st b p.1 p.2
 | f,[],_,m,p,hp=>by simp at hp
 | f,a::l,h,0,p,hp=>by
  have:a=p:=by simpa using hp
  subst this
  exact ⟨f,rfl,h.1⟩
 | f,a::l,h,m+1,p,hp=>by
  have hp':l[m]? = some p:=by simpa using hp
  obtain ⟨b,hb,hs⟩:=Ss h.2 hp'
  exact ⟨b,by simpa using hb,hs⟩
theorem Ih {xs:List V} {v:V} (h:xs.getLast? = some v):MJ xs (-1)=some v:=by
 have hne:xs ≠ []:=fun z=>by rw [z] at h; cases h
 have hl:1<=xs.length:=by cases xs with | nil=>exact absurd rfl hne | cons a l=>simp
 unfold MJ WR
 rw [if_neg (by decide),if_pos (by omega)]
 show xs[((-1:Int)+(xs.length:Int)).toNat]? = some v
 have e:((-1:Int)+(xs.length:Int)).toNat=xs.length - 1:=by omega
 rw [e,← List.getLast?_eq_getElem?]
 exact h
theorem XN (xs:List V):Cy xs none (some (-1))=xs.dropLast:=by
 unfold Cy
 show (xs.drop 0).take ((if (-1:Int)<0 then ((-1:Int)+(xs.length:Int)).toNat else min (-1:Int).toNat xs.length) - 0)=_
 rw [if_pos (by decide),List.drop_zero,List.dropLast_eq_take]
 congr 1
 omega
theorem Vd (xs:List V) (h:1<=xs.length):Cy xs (some 1) (some (-1))=(xs.drop 1).dropLast:=by
 unfold Cy
 show (xs.drop (if (1:Int)<0 then ((1:Int)+(xs.length:Int)).toNat else min (1:Int).toNat xs.length)).take ((if (-1:Int)<0 then ((-1:Int)+(xs.length:Int)).toNat else min (-1:Int).toNat xs.length) - (if (1:Int)<0 then ((1:Int)+(xs.length:Int)).toNat else min (1:Int).toNat xs.length))=_
 have e1:(if (1:Int)<0 then ((1:Int)+(xs.length:Int)).toNat else min (1:Int).toNat xs.length)=1:=by
  rw [if_neg (by decide)]
  show min 1 xs.length=1
  omega
 rw [e1,if_pos (by decide),List.dropLast_eq_take,List.length_drop]
 congr 1
 omega
theorem Js:∀ (ns acc:List Int),(acc++ns).Nodup->ns.foldl Wd.Gf acc=acc++ns
 | [],acc,_=>by rw [List.append_nil]; rfl
 | a::ns,acc,h=>by
  have hna:¬ a∈acc:=fun hm=>(List.nodup_append.mp h).2.2 a hm a (List.mem_cons_self ..) rfl
  have e:Wd.Gf acc a=acc++[a]:=by unfold Wd.Gf; rw [if_neg hna]
  rw [List.foldl_cons,e,Js ns (acc++[a]) (by rw [List.append_assoc]; exact h),List.append_assoc]
  rfl
theorem Sv {a b:Nat} (h:a=b):(!decide (V.int (a:Nat)=V.int (b:Nat)))=false:=by rw [h]; simp
theorem Qa {l:List Nat} {m b:Nat} (h:l[m]? = some b):(l.take (m+1)).getLast? = some b:=by
 rw [List.take_add_one,h]
 simp
noncomputable def Yr:Sp:=fun vs H Q _=>∃ (DS DK DD DH L:Addr) (y:V) (c:Nat->Str) (sz:List Nat) (kbs:List Kb) (us ys:List V) (dl hl:List Nat) (key f least:Nat) (st:List (Nat × Nat)),vs=[.ref DS,.ref DK,.ref DD,.ref DH,.int (key:Nat),.int (least:Nat),y]/\H DS=some (.lst (nV sz))/\sz.length<=5/\(∀ s∈sz,s<=61)/\sz.sum<=305/\H DK=some (.lst us)/\Paired (fun (k:Kb) y=>I_ H k y) kbs us/\Lx sz.length kbs/\H DD=some (.lst (nV dl))/\H DH=some (.lst (nV hl)) /\
 TupAt H [.int (f:Nat),.ref L] y/\H L=some (.lst ys)/\Paired (fun (p:Nat × Nat) v=>TupAt H (pV p) v) st ys/\aa (BZ c sz) kbs (Wd.mk dl) (Wd.mk hl) key f st least/\∀ H',An H H'->Q (.bl true) H'
theorem Xh:Av ["_law_sizes_here","_law_knobs_here","_law_drawn_here","_law_held_here","_law_key","_law_least","_law_trail","_law_seen","_law_step"] ["_law_sizes_here","_law_knobs_here","_law_drawn_here","_law_held_here","_law_key","_law_least","_law_trail"] (Ag iz):=Bl
include N T in
theorem cW:Aq P w K mg base Be 3 aD.fLd aD.dLd ["_law_sizes_here","_law_knobs_here","_law_drawn_here","_law_held_here","_law_key","_law_least","_law_trail"] Yr:=by
 have GLw:Aq P w K mg base Be 1 aD.fLw aD.dLw ["_law_found"] QC:=Wb N T
 have GGo:Aq P w K mg base Be 2 aD.fGo aD.dGo ["_law_sizes_here","_law_knob_here","_law_key"] Z0:=bD N T
 refine N.FLd.1.ok Xh (fun vs H Q E h=>?_) (fun cdv A outer s H vs Q E hr h=>?_)
 ·obtain ⟨DS,DK,DD,DH,L,y,c,sz,kbs,us,ys,dl,hl,key,f,least,st,rfl,_⟩:=h
  rfl
 ·obtain ⟨DS,DK,DD,DH,L,y,c,sz,kbs,us,ys,dl,hl,key,f,least,st,rfl,hS0,h5,h61,h305,hK0,hpr,hkb,hd,hh,hy,hL,hst,trl,q⟩:=h
  have hrLw:BR 1 _:=hr.mono (by decide)
  have hrGo:BR 2 _:=hr.mono (by decide)
  refine ⟨_,(Ae (Br (PW.pt (Dm (CJ (CV (BL CK rfl T.isin PyProof.Rows.boot_isinstance (Aa (pv 6) (Aa (DQ (v:=.ty "tuple") rfl T.tuple PyProof.Rows.boot_tuple rfl) Ac))))) (Dm (BW E_ (BL BX rfl T.len PySem.boot_len (Aa (pv 6) Ac)) Ab (Bc _)) (Dm (CJ (CV (Ai GLw hrLw rfl N.FLw.2.2 N.FLw.1.kp N.FLw.2.1 .nil Ao (Aa (Am (Ak (K:=K) rfl) (pv 6) Ab (fun _ _=>rfl)) Ac)))) (Eb (CJ (CV (BL CK rfl T.isin PyProof.Rows.boot_isinstance (Aa (Am (Ak (K:=K) rfl) (pv 6) Ab (fun _ _=>rfl)) (Aa (DQ (v:=.ty "list") rfl T.list PyProof.Rows.boot_list rfl) Ac)))))))))) (Ah (Aw Es)) Bb)
   (Ae (Br (PW.pt (Dm (BW Ez (Am (Ak (K:=K) rfl) (pv 6) Ab (fun _ _=>rfl)) (pv 3) rfl) (Eb (BW GX (BL BX rfl T.len PySem.boot_len (Aa (Am (Ak (K:=K) rfl) (pv 6) Ab (fun _ _=>rfl)) Ac)) (pv 5) (Bc _))))) (Ah (Aw Es)) Bb)
   (Ae (Az (i:=7) Xh.nd rfl (Or.inl rfl) (Df (Aa (Am (Ak (K:=K) rfl) (pv 6) Ab (fun _ _=>rfl)) Ac)))
   (Ae (DN PassesOwn.never rfl (Bh (Am (Ak (K:=K) rfl) (pv 6) Ab (fun _ _=>rfl))) (Bd (i:=8) Xh.nd rfl (Or.inl rfl)) (Ae (Br (PW.pt (Dm (CJ (CV (BL CK rfl T.isin PyProof.Rows.boot_isinstance (Aa (pv 8) (Aa (DQ (v:=.ty "tuple") rfl T.tuple PyProof.Rows.boot_tuple rfl) Ac))))) (Dm (BW E_ (BL BX rfl T.len PySem.boot_len (Aa (pv 8) Ac)) Ab (Bc _)) (Dm (CJ (CV (Ai GLw hrLw rfl N.FLw.2.2 N.FLw.1.kp N.FLw.2.1 .nil Ao (Aa (Am (Ak (K:=K) rfl) (pv 8) Ab (fun _ _=>rfl)) Ac)))) (Eb (CJ (CV (Ai GLw hrLw rfl N.FLw.2.2 N.FLw.1.kp N.FLw.2.1 .nil Ao (Aa (Am (Ak (K:=K) rfl) (pv 8) Ab (fun _ _=>rfl)) Ac))))))))) (Ah (Aw Es)) Bb)
   (Ae (Br (PW.pt (Dm (BW Ez (Am (Ak (K:=K) rfl) (pv 8) Ab (fun _ _=>rfl)) (pv 2) rfl) (Eb (BW E_ (Am (Ak (K:=K) rfl) (Am (BV (K:=K) rfl) (pv 1) (Am (Ak (K:=K) rfl) (pv 8) Ab (fun _ _=>rfl)) (fun _ _=>rfl)) Ab (fun _ _=>rfl)) Bt (Bc _))))) (Ah (Aw Es)) Bb)
   (Ae (Br (BW E_ (Ai GGo hrGo rfl N.FGo.2.2 N.FGo.1.kp N.FGo.2.1 .nil Ao (Aa (pv 0) (Aa (Am (BV (K:=K) rfl) (pv 1) (Am (Ak (K:=K) rfl) (pv 8) Ab (fun _ _=>rfl)) (fun _ _=>rfl)) (Aa (Am (BV (K:=K) rfl) (pv 7) (G5 FP Ab) (fun _ _=>rfl)) Ac)))) (Am (Ak (K:=K) rfl) (pv 8) Ab (fun _ _=>rfl)) (Bc _)) (Ah (Aw Es)) Bb)
   (Ah (C_ (En PySem.F.plainAttrs_list PySem.F.slot_list_append PySem.F.type_list_append CG (pv 7) (Aa (Am (Ak (K:=K) rfl) (pv 8) Ab (fun _ _=>rfl)) Ac))))))))
   (Ae (Br (PW.pt (Dm (BW E_ (Am (BV (K:=K) rfl) (pv 7) (G5 FP Ab) (fun _ _=>rfl)) (pv 4) (Bc _)) (Eb (BW E_ (BL J9 rfl T.len PySem.boot_len (Aa (Dz (Rq rfl) rfl T.set PyProof.Rows.boot_set (Aa (Dd Ey (pv 7) Ec (Ca (G5 FP Ab))) Ac)) Ac)) (Ar Dy (BL BX rfl T.len PySem.boot_len (Aa (pv 7) Ac)) Ab) (Bc _))))) (Ah (Aw Es)) Bb)
   (Ah (Aw (Dq Ez (Am (BV (K:=K) rfl) (pv 7) (G5 FP Ab) (fun _ _=>rfl)) (Dd Ey (pv 7) (Ca Ab) (Ca (G5 FP Ab))) rfl)))))))),?_⟩
  obtain ⟨T0,rfl,hT0⟩:=hy
  obtain ⟨tr1,tr2,tr3,tr4,tr5,tr6,tr7⟩:=trl
  have bitL:∀ (l:List Nat) k,(Wd.mk l).testBit k=true ↔ k∈l:=fun l k=>by rw [Wd.JK,decide_eq_true_eq]
  have hfh:f∈hl:=(bitL hl f).mp tr1
  have hyl:=hst.length
  refine ⟨_,rfl,_,"tuple",_,_,rfl,.tup hT0,MF,_,rfl,Bo ?_⟩
  refine ⟨_,rfl,T0,_,rfl,.inr (.inl (.inl hT0)),rfl,_,rfl,Bo ?_⟩
  refine ⟨_,rfl,T0,_,_,_,rfl,rfl,.inl (.inl hT0),Af (j:=0) rfl,_,rfl,_,rfl,Bo ?_⟩
  refine ⟨_,rfl,T0,_,_,_,rfl,rfl,.inl (.inl hT0),Af (j:=1) rfl,_,"list",_,_,rfl,.lst hL,Pn,_,rfl,Bo ?_⟩
  refine ⟨_,rfl,T0,_,_,_,rfl,rfl,.inl (.inl hT0),Af (j:=0) rfl,_,rfl,DH,_,rfl,.inl (.inl (.inl hh)),rfl,HN _,_,rfl,?_⟩
  rw [Gn,decide_eq_true hfh]
  refine Bo ?_
  refine ⟨_,rfl,T0,_,_,_,rfl,rfl,.inl (.inl hT0),Af (j:=1) rfl,L,_,rfl,.inl (.inl (.inl hL)),_,rfl,_,_,rfl,rfl,_,rfl,?_⟩
  refine Dr (fun z=>?_) (fun _=>?_)
  ·exfalso
   have z':=of_decide_eq_true z
   omega
  have hSL:CP K H L ys:=.inl (.inl hL)
  refine ⟨_,rfl,T0,_,_,_,rfl,rfl,.inl (.inl hT0),Af (j:=0) rfl,by show 1<=sizeLine; decide,fun SN hSN=>?_⟩
  have t1:=Ax (o:=HO.lst [V.int (f:Nat)]) hSN
  have u1:upd H SN (HO.lst [V.int (f:Nat)]) SN=some (.lst (nV (f::(st.map (·.2)).take 0))):=Aj
  generalize upd H SN (HO.lst [V.int (f:Nat)])=H1 at t1 u1 ⊢
  have hfl:(st.map (·.2)).length=ys.length:=by rw [List.length_map]; exact hyl
  have hsl:ys.length<=400:=by omega
  refine ⟨_,rfl,T0,_,_,_,rfl,rfl,.inl (.inl (t1 _ _ hT0)),Af (j:=1) rfl,L,rfl,⟨_,t1.seq hSL⟩,Dl (K:=K) (a:=L) (xs:=ys) (fun m σ H4=>An H H4/\H4 SN=some (.lst (nV (f::(st.map (·.2)).take m)))/\∃ v8,σ=[some (.ref DS),some (.ref DK),some (.ref DD),some (.ref DH),some (.int (key:Nat)),some (.int (least:Nat)),some (.ref T0),some (.ref SN),v8]) ⟨t1,u1,_,rfl⟩ (fun m σ H4 _ h=>h.1.seq hSL) ?_ ?_⟩
  ·rintro m y σ H4 hm ⟨s4,hs4,v8,rfl⟩
   obtain ⟨⟨kk,jj⟩,hfm,hty⟩:=Eo (Al s4 hst) hm
   obtain ⟨T1,rfl,hT1⟩:=hty
   obtain ⟨b,hb,hld⟩:=Ss tr2 hfm
   obtain ⟨hkd,z,hz,hg⟩:=hld
   have hkd':kk∈dl:=(bitL dl kk).mp hkd
   have hT1q:Hf K H4 T1 [V.int (kk:Nat),V.int (jj:Nat)]:=.inl (.inl hT1)
   refine ⟨_,rfl,_,"tuple",_,_,rfl,.tup hT1,MF,_,rfl,Bo ?_⟩
   refine ⟨_,rfl,T1,_,rfl,.inr (.inl (.inl hT1)),rfl,_,rfl,Bo ?_⟩
   refine ⟨_,rfl,T1,_,_,_,rfl,rfl,hT1q,Af (j:=0) rfl,_,rfl,_,rfl,Bo ?_⟩
   refine ⟨_,rfl,T1,_,_,_,rfl,rfl,hT1q,Af (j:=1) rfl,_,rfl,_,rfl,Bo ?_⟩
   refine ⟨_,rfl,T1,_,_,_,rfl,rfl,hT1q,Af (j:=0) rfl,_,rfl,DD,_,rfl,.inl (.inl (.inl (s4 _ _ hd))),rfl,HN _,_,rfl,?_⟩
   rw [Gn,decide_eq_true hkd']
   refine Bo ?_
   obtain ⟨y2,hy2,hkv⟩:=Bq (Paired.Fb hpr fun _ _ q=>I_.mono s4 q) hz
   have hzc:=WD hg
   have zok:=hkb.ok z (List.mem_of_getElem? hz)
   obtain ⟨j1,j2,s0,rfl⟩:=Pj zok hzc
   obtain ⟨hj1,hj2,_,_⟩:=zok
   obtain ⟨T2,rfl,hT2⟩:=hkv.2 rfl
   have hKq:CP K H4 DK us:=.inl (.inl (s4 _ _ hK0))
   refine ⟨_,rfl,_,rfl,T1,_,_,_,rfl,rfl,hT1q,Af (j:=0) rfl,DK,us,_,_,rfl,rfl,hKq,Af hy2,T2,_,_,_,rfl,rfl,.inl (.inl hT2),Af (j:=0) rfl,rfl,_,rfl,Bo ?_⟩
   have hbj2:(BZ c sz)[j2]? = some (c j2,sz[j2]):=Ci (List.getElem?_eq_getElem hj2)
   obtain ⟨qd,hq⟩:∃ qd,(Ed (BZ c sz))[b]? = some qd:=by
    cases hq:(Ed (BZ c sz))[b]? with
    | some qd=>exact ⟨qd,rfl⟩
    | none =>
     simp only [gl,hq] at hg
     cases hg
   have hb61:∀ b∈BZ c sz,b.2<=61:=fun b hb=>by
    have h:=List.mem_map_of_mem (f:=(·.2)) hb
    rw [B_] at h
    exact h61 _ h
   have hlast:(nV (f::(st.map (·.2)).take m)).getLast? = some (V.int (b:Nat)):=by
    have h1:(f::(st.map (·.2)).take m)=(f::st.map (·.2)).take (m+1):=rfl
    rw [h1,List.getLast?_map,Qa hb]
    rfl
   have hNq:CP K H4 SN (nV (f::(st.map (·.2)).take m)):=.inl (.inl hs4)
   refine ⟨_,rfl,_,rfl,_,rfl,T1,_,_,_,rfl,rfl,hT1q,Af (j:=0) rfl,DK,us,_,_,rfl,rfl,hKq,Af hy2,_,rfl,_,rfl,SN,_,_,_,rfl,rfl,hNq,Ih hlast,DS,.ref T2,BZ c sz,b,j1,j2,s0,(c j2,sz[j2]),qd,rfl,by rw [B_]; exact s4 _ _ hS0,by rw [GP]; exact h5,hb61,hq,hbj2,⟨T2,rfl,hT2⟩,fun H5 s5=>?_⟩
   rcases Od (j1:=j1) (s:=s0) hq hbj2 with ⟨e,eg⟩ | ⟨j,e,eg,hjt⟩
   ·rw [eg] at hg
    cases hg
   ·rw [eg] at hg
    cases hg
    rw [e]
    have hT1q5:Hf K H5 T1 [V.int (kk:Nat),V.int (jj:Nat)]:=s5.tup hT1q
    refine ⟨_,rfl,T1,_,_,_,rfl,rfl,hT1q5,Af (j:=1) rfl,rfl,_,rfl,?_⟩
    rw [Sv rfl]
    refine Bo ?_
    have hs5:=s5 _ _ hs4
    have hml:m<ys.length:=(List.getElem?_eq_some_iff.mp hm).1
    refine ⟨_,rfl,.inl ⟨rfl,_,.inl (.inl hs5)⟩,_,rfl,T1,_,_,_,rfl,rfl,hT1q5,Af (j:=1) rfl,SN,_,_,rfl,rfl,hs5,Lf (by rw [List.length_map,List.length_cons,List.length_take]; omega),?_⟩
    refine ⟨fun b' o e'=>by rw [BP (A_ e' hSN)]; exact s5 _ _ (s4 _ _ e'),?_,_,rfl⟩
    have e9:nV (f::(st.map (·.2)).take (m+1))=nV (f::(st.map (·.2)).take m)++[V.int (jj:Nat)]:=by
     rw [VB,List.take_add_one,List.getElem?_map,hfm]
     rfl
    rw [e9]
    exact Aj
  ·rintro σ H4 ⟨s4,hs4,v8,rfl⟩
   rw [List.take_of_length_le (by omega)] at hs4
   have hNq:CP K H4 SN (nV (f::st.map (·.2))):=.inl (.inl hs4)
   have hlast:(nV (f::st.map (·.2))).getLast? = some (V.int (key:Nat)):=by
    rw [List.getLast?_map,tr3]
    rfl
   have hdrop:(nV (f::st.map (·.2))).dropLast=nV (f::st.map (·.2)).dropLast:=List.map_dropLast.symm
   refine ⟨_,rfl,_,rfl,SN,_,_,_,rfl,rfl,hNq,Ih hlast,_,rfl,rfl,_,rfl,?_⟩
   rw [Sv rfl]
   refine Bo ?_
   refine ⟨_,rfl,_,rfl,_,rfl,SN,_,rfl,hNq,fun p5 hp5=>?_⟩
   have t5:=Ax (o:=HO.lst (Cy (nV (f::st.map (·.2))) none (some (-1)))) hp5
   have u5:upd H4 p5 (HO.lst (Cy (nV (f::st.map (·.2))) none (some (-1)))) p5=_:=Aj
   generalize upd H4 p5 (HO.lst (Cy (nV (f::st.map (·.2))) none (some (-1))))=H5 at t5 u5 ⊢
   rw [XN,hdrop] at u5
   have ei:nV (f::st.map (·.2)).dropLast=((f::st.map (·.2)).dropLast.map fun n:Nat=>(n:Int)).map V.int:=by rw [List.map_map]; rfl
   rw [ei] at u5
   have ndN:((f::st.map (·.2)).dropLast.map fun n:Nat=>(n:Int)).Nodup:=by
    refine List.Pairwise.map _ (fun a b (h:a ≠ b)=>?_) tr4
    intro z
    exact h (by omega)
   refine ⟨p5,_,rfl,.inl (.inl u5),by rw [List.length_map,List.length_dropLast,List.length_cons,List.length_map]; omega,fun p6 hp6=>⟨p6,_,rfl,Aj,_,rfl,SN,_,rfl,.inl (.inl (.inl ((Ax hp6) _ _ (t5 _ _ hs4)))),_,_,rfl,rfl,rfl,_,rfl,?_⟩⟩
   have e6:(!decide (V.int ((((f::st.map (·.2)).dropLast.map fun n:Nat=>(n:Int)).foldl Wd.Gf []).length:Nat)=V.int (((nV (f::st.map (·.2))).length:Nat) - 1)))=false:=by
    rw [Js _ _ (by rw [List.nil_append]; exact ndN)]
    have:(((([]:List Int)++(f::st.map (·.2)).dropLast.map fun n:Nat=>(n:Int)).length:Nat):Int)=(((nV (f::st.map (·.2))).length:Nat):Int) - 1:=by
     simp only [List.nil_append,List.length_map,List.length_dropLast,List.length_cons]
     omega
    rw [this]
    simp
   rw [e6]
   refine Bo ?_
   have s6:=fun o:HO=>t5.trans (Ax (o:=o) hp6)
   have e8:Cy (nV (f::st.map (·.2))) (some 1) (some (-1))=nV (st.map (·.2)).dropLast:=by
    rw [Vd _ (by simp)]
    show (nV (st.map (·.2))).dropLast=_
    exact List.map_dropLast.symm
   refine ⟨_,rfl,_,rfl,SN,_,_,_,rfl,rfl,(s6 _).seq hNq,Ih hlast,_,rfl,_,rfl,_,rfl,_,rfl,SN,_,rfl,(s6 _).seq hNq,fun p7 hp7=>⟨p7,_,rfl,.inl (.inl (.inl Aj)),rfl,?_,?_⟩⟩
   ·rw [e8]
    exact HN _
   ·have e9:(if true=true then !inV (V.int (key:Nat)) (Cy (nV (f::st.map (·.2))) (some 1) (some (-1))) else inV (V.int (key:Nat)) (Cy (nV (f::st.map (·.2))) (some 1) (some (-1))))=true:=by
     rw [e8,Gn,decide_eq_false tr5]
     rfl
    show Q (V.bl (if true=true then !inV (V.int (key:Nat)) (Cy (nV (f::st.map (·.2))) (some 1) (some (-1))) else inV (V.int (key:Nat)) (Cy (nV (f::st.map (·.2))) (some 1) (some (-1))))) _
    rw [e9]
    exact q _ ((s4.trans (s6 _)).trans (Ax hp7))
theorem Qg (a b:List (Str × Nat)):∃ t,Ed (a++b)=Ed a++t:=by
 unfold Ed
 rw [List.zipIdx_append,List.flatMap_append]
 exact ⟨_,rfl⟩
theorem O7 {bs:List (Str × Nat)} {i n:Nat} {b:Str × Nat} (h:bs[i]? = some b) (hn:n<b.2):(Ed bs)[((bs.take i).map (·.2)).sum+n]? = some (i,n):=by
 obtain ⟨t,e⟩:=Qg (bs.take (i+1)) (bs.drop (i+1))
 rw [List.take_append_drop] at e
 have hl:=Fi (bs.take i)
 rw [e,G4 h,List.append_assoc,List.getElem?_append_right (by omega),← hl,Nat.add_sub_cancel_left,List.getElem?_append_left (by rw [List.length_map,List.length_range]; exact hn),List.getElem?_map,List.getElem?_range hn]
 rfl
noncomputable def YT (C:Addr):Sp:=fun vs H Q _=>∃ (x:Addr) (bs:List (Str × Nat)) (rk:List (Str × Nat × Int)) (ks:List R) (ls:List (List Ln)) (i:Nat) (qd:Nat × Nat),vs=[.ref x,.int (i:Nat)]/\Cw C H x bs rk ks ls/\(Ed (rk.map QZ))[i]? = some qd/\∀ y,TupAt H (qV qd) y->Q y H
theorem jz:Av ["self","pipe"] ["self","pipe"] (Ag jl):=Bl
include N T in
theorem Yg:Aq P w K mg base Be 1 aD.fOx aD.dOx ["self","pipe"] (YT C):=by
 refine N.FOx.1.ok jz (fun vs H Q E h=>?_) (fun cdv A outer s H vs Q E hr h=>?_)
 ·obtain ⟨x,bs,rk,ks,ls,i,qd,rfl,_⟩:=h
  rfl
 ·obtain ⟨x,bs,rk,ks,ls,i,qd,rfl,O,hq,q⟩:=h
  refine ⟨_,(Ah (Aw (Am Ek (Ck (pv 0) rfl) (pv 1) (fun _ _=>rfl)))),?_⟩
  obtain ⟨⟨dx,fs,bl,bn,kp,kr,bvs,pvs,uvs,kvs,h1,l1,l2,l3,l4,lm,h2,h3,h4,h5,h6,h7,h8,h9⟩,ob5,osz,onk⟩:=id O.o
  obtain ⟨dx',fs',rl,rn,pp,kl,rvs,qvs,kvs',g1,m1,m2,m3,m4,g2,g3,g4,g5,g6,g7,lv,g8,g9⟩:=id O.r
  obtain ⟨e1,e2⟩:dx'=dx/\fs'=fs:=by rw [h1] at g1; cases g1; exact ⟨rfl,rfl⟩
  subst e1 e2
  obtain ⟨y,hy,ht⟩:=Bq g7 hq
  exact ⟨_,rfl,x,C,_,_,_,rfl,h1,T.cl,T.n_pipe_places,m3,_,rfl,pp,qvs,_,_,rfl,rfl,.inl (.inl g6),Af hy,q y ht⟩
noncomputable def Lz (sz:List Nat) (rk:List (Str × Nat × Int)) (kbs:List Kb) (ls:List (List Ln)) (D n p:Nat) (q:Nat × Nat):Prop:=∃ (z:Kb) (l:Ln),kbs[q.1]? = some z/\z.w = "stop" /\ D.testBit q.1=true/\(ls.getD q.1 [])[q.2]? = some l/\(JD rk l (M9 sz (DW kbs q.1) n)).testBit p=true
noncomputable def cA (C:Addr):Sp:=fun vs H Q _=>∃ (x:Addr) (c:Nat->Str) (sz:List Nat) (rk:List (Str × Nat × Int)) (kbs:List Kb) (ls:List (List Ln)) (D n p:Nat),vs=[.ref x,.int (D:Nat),.int (n:Nat),.int (p:Nat)]/\Cw C H x (BZ c sz) rk (Bw c kbs) ls/\Lx sz.length kbs/\Z9 rk ls/\n<2 ^ 1200 /\
 ∀ F (ps:List (Nat × Nat)) (ys:List V) H',H F=none->An H H'->H' F=some (.lst ys)->Paired (fun (p:Nat × Nat) v=>TupAt H' (pV p) v) ps ys->(∀ q,q∈ps ↔ Lz sz rk kbs ls D n p q)->Q (.ref F) H'
theorem Oo:Av ["organ","knobs","keys","pipe","found","knob","stop","numbers","number","line"] ["organ","knobs","keys","pipe"] (Ag jN):=Bl
include N T in
theorem Yv:Aq P w K mg base Be 4 aD.fLt aD.dLt ["organ","knobs","keys","pipe"] (cA C):=by
 have GDc:Aq P w K mg base Be 2 aD.fDc aD.dDc ["organ","knobs","word"] (Rb C):=Pr N T
 have GOs:Aq P w K mg base Be 2 aD.fOs aD.dOs ["self","knob"] (Uc C):=RV N T
 have GNb:Aq P w K mg base Be 3 aD.fNb aD.dNb ["organ","board","keys"] (XC C):=Wc N T
 have GLl:Aq P w K mg base Be 3 aD.fLl aD.dLl ["organ","line","numbers"] (Xm C):=Vx N T
 have GHa:Aq P w K mg base Be 1 aD.fHa aD.dHa ["some","number"] Oi:=Ku N T
 refine N.FLt.1.ok Oo (fun vs H Q E h=>?_) (fun cdv A outer s H vs Q E hr h=>?_)
 ·obtain ⟨x,c,sz,rk,kbs,ls,D,n,p,rfl,_⟩:=h
  rfl
 ·obtain ⟨x,c,sz,rk,kbs,ls,D,n,p,rfl,O,hkb,hls,hn,q⟩:=h
  have hrDc:BR 2 _:=hr.mono (by decide)
  have hrOs:BR 2 _:=hr.mono (by decide)
  have hrNb:BR 3 _:=hr.mono (by decide)
  have hrLl:BR 3 _:=hr.mono (by decide)
  have hrHa:BR 1 _:=hr.mono (by decide)
  have hu:=Fl hr
  refine ⟨_,(Ae (Az (i:=4) Oo.nd rfl (Or.inl rfl) (Df Ac))
   (Ae (DN PassesOwn.never rfl (Bh (Ai GDc hrDc rfl N.FDc.2.2 N.FDc.1.kp N.FDc.2.1 .nil Ao (Aa (pv 0) (Aa (pv 1) (Aa Bt Ac))))) (Bd (i:=5) Oo.nd rfl (Or.inl rfl)) (Ae (Az (i:=6) Oo.nd rfl (Or.inl rfl) (Cz (pv 0) T.cl N.FOs.2.2 GOs hrOs N.FOs.2.1 .nil Ao (Aa (pv 5) Ac)))
   (Ae (Az (i:=7) Oo.nd rfl (Or.inl rfl) (Ai GNb hrNb rfl N.FNb.2.2 N.FNb.1.kp N.FNb.2.1 .nil Ao (Aa (pv 0) (Aa (Am (Ak (K:=K) rfl) (pv 6) Ab (fun _ _=>rfl)) (Aa (pv 2) Ac)))))
   (Ah (DN PassesOwn.never rfl (Ia rfl T.enumerate (Aa (Am (Ak (K:=K) rfl) (pv 6) Ab (fun _ _=>rfl)) Ac)) (Fz rfl (Bf (Bd (i:=8) Oo.nd rfl (Or.inl rfl)) (Bf (Bd (i:=9) Oo.nd rfl (Or.inl rfl)) Ea))) (Ah (Br (CV (Ai GHa hrHa rfl N.FHa.2.2 N.FHa.1.kp N.FHa.2.1 .nil Ao (Aa (Ai GLl hrLl rfl N.FLl.2.2 N.FLl.1.kp N.FLl.2.1 .nil Ao (Aa (pv 0) (Aa (pv 9) (Aa (pv 7) Ac)))) (Aa (pv 3) Ac)))) (Ah (C_ (En PySem.F.plainAttrs_list PySem.F.slot_list_append PySem.F.type_list_append CG (pv 4) (Aa (CQ (Aa (pv 5) (Aa (pv 8) Ac))) Ac)))) Bb)))))))
   (Ah (Aw (pv 4))))),?_⟩
  have meth:∀ {H':Hp},Cw C H' x (BZ c sz) rk (Bw c kbs) ls->∃ dx fs,H' x=some (.ins C dx fs)/\∀ m∈meths,fs.lookup m=none:=fun O'=>by
   obtain ⟨⟨dx,fs,_,_,_,_,_,_,_,_,h1,_,_,_,_,lm,_⟩,_⟩:=O'.o
   exact ⟨dx,fs,h1,lm⟩
  refine ⟨DY (by simp),fun F hF=>?_⟩
  obtain ⟨H0,eqH,t0,u0⟩:=JC (o:=HO.lst []) hF
  rw [eqH]
  refine ⟨_,rfl,_,rfl,x,BZ c sz,Bw c kbs,"stop",D,rfl,(O.mono t0).o,fun CL cl H1 hCL s1 hl1 hcl hcll=>?_⟩
  have hcl':∀ k,k∈cl ↔ ∃ z,kbs[k]? = some z/\z.w = "stop" /\ D.testBit k=true:=fun k=>by
   rw [hcl]
   constructor
   ·rintro ⟨r,hr,hw,hd⟩
    obtain ⟨z,hz,rfl⟩:=Do hr
    rw [Gb] at hw
    exact ⟨z,hz,hw,hd⟩
   ·rintro ⟨z,hz,hc,hd⟩
    exact ⟨_,De hz,(Gb _ _ _).trans hc,hd⟩
  have hS1:CP K H1 CL (nV cl):=.inl (.inl hl1)
  have s01:=t0.trans s1
  have u0':=u0
  have hCL0:=hCL
  refine ⟨CL,rfl,⟨_,hS1⟩,Dl (K:=K) (a:=CL) (xs:=nV cl) (fun i σ H'=>An H H'/\H' CL=some (.lst (nV cl))/\∃ (ps:List (Nat × Nat)) (ys:List V) (v5 v6 v7 v8 v9:Option V),H' F=some (.lst ys)/\Paired (fun (p:Nat × Nat) v=>TupAt H' (pV p) v) ps ys/\ps.length<=100 * i/\(∀ q,q∈ps ↔ Lz sz rk kbs ls D n p q/\q.1∈cl.take i)/\σ=[some (.ref x),some (.int (D:Nat)),some (.int (n:Nat)),some (.int (p:Nat)),some (.ref F),v5,v6,v7,v8,v9]) ⟨s01,hl1,[],[],_,_,_,_,_,s1 _ _ u0,.nil,Nat.zero_le _,(fun q=>⟨(fun z=>nomatch z),(fun z=>nomatch z.2)⟩),rfl⟩ (fun i σ H' _ h=>.inl (.inl h.2.1)) ?_ ?_⟩
  ·rintro i y σ H2 hy ⟨s2,hl2,ps,ys,v5,v6,v7,v8,v9,hF2,hps,hlen,hiff,rfl⟩
   rw [List.getElem?_map] at hy
   obtain ⟨k,hk,rfl⟩:=Option.map_eq_some_iff.mp hy
   have hi:i<cl.length:=(List.getElem?_eq_some_iff.mp hk).1
   obtain ⟨z,hz,hzw,hzD⟩:=(hcl' k).mp (List.mem_of_getElem? hk)
   have hr:=De (c:=c) hz
   obtain ⟨rs,er⟩:=Ig hr
   rw [er] at hr
   have hb:=Il hkb hz
   have hbs:(BZ c sz)[DW kbs k]? = some (c (DW kbs k),sz[DW kbs k]):=Ci (List.getElem?_eq_getElem hb)
   have hkl:k<ls.length:=by
    rw [O.nl,GQ]
    exact (List.getElem?_eq_some_iff.mp hz).1
   obtain ⟨l,hl⟩:∃ l,ls[k]? = some l:=⟨_,List.getElem?_eq_getElem hkl⟩
   have hlG:=hls l (List.mem_of_getElem? hl)
   have elD:ls.getD k []=l:=by rw [List.getD_eq_getElem?_getD,hl]; rfl
   have O2:=O.mono s2
   obtain ⟨dx,fs,hx,lm⟩:=meth O2
   refine ⟨_,rfl,x,dx,fs,rfl,hx,lm _ (by decide +kernel),_,rfl,x,BZ c sz,rk,Bw c kbs,ls,k,DW kbs k,(c (DW kbs k),sz[DW kbs k]),_,_,rs,l,rfl,O2,hr,hbs,hl,fun T0 L0 ts H3 fL0 s3 hT0 hL0 htp=>?_⟩
   have O3:=O2.mono s3
   refine ⟨_,rfl,_,rfl,T0,_,_,_,rfl,rfl,.inl (.inl hT0),Af (j:=0) rfl,_,rfl,x,c,sz,Bw c kbs,DW kbs k,n,rfl,O3.o,hb,hn,fun H4 s4=>?_⟩
   have nlt:=Pb n (-((sz.take (DW kbs k)).sum:Int)) (sz.getD (DW kbs k) 0)
   have h61:sz.getD (DW kbs k) 0<=61:=by
    rw [List.getD_eq_getElem?_getD,List.getElem?_eq_getElem hb]
    exact O.o.sz _ (List.mem_of_getElem? hbs)
   have nlt':M9 sz (DW kbs k) n<2 ^ 1200:=Nat.lt_of_lt_of_le nlt (Nat.pow_le_pow_right (by decide) (by omega))
   have s34:=s3.trans s4
   have s24:=s2.trans s34
   have hL4:=s4 _ _ hL0
   have hT4:=s4 _ _ hT0
   have htp4:=Al s4 htp
   have hlt:=htp4.length
   have hF4:=s34 _ _ hF2
   have hCL4:=s34 _ _ hl2
   have nFL:L0 ≠ F:=Ne.symm (A_ hF2 fL0)
   have hps4:=Al s34 hps
   have hS4:CP K H4 L0 ts:=.inl (.inl hL4)
   refine ⟨_,rfl,T0,_,_,_,rfl,rfl,.inl (.inl hT4),Af (j:=1) rfl,L0,rfl,⟨_,hS4⟩,IV (K:=K) (a:=L0) (xs:=ts) (fun j σ H'=>An H H'/\H' CL=some (.lst (nV cl))/\H' L0=some (.lst ts)/\Paired (fun x y=>TupAt H' (RG x) y) l ts/\∃ (ps:List (Nat × Nat)) (ys:List V) (v8 v9:Option V),H' F=some (.lst ys)/\Paired (fun (p:Nat × Nat) v=>TupAt H' (pV p) v) ps ys/\ps.length<=100 * i+j/\(∀ q,q∈ps ↔ Lz sz rk kbs ls D n p q/\(q.1∈cl.take i \/ (q.1=k/\q.2<j)))/\σ=[some (.ref x),some (.int (D:Nat)),some (.int (n:Nat)),some (.int (p:Nat)),some (.ref F),some (.int (k:Nat)),some (.ref T0),some (.int (M9 sz (DW kbs k) n:Nat)),v8,v9]) ⟨s24,hCL4,hL4,htp4,ps,ys,_,_,hF4,hps4,by omega,(fun q=>by rw [hiff]; exact and_congr_right fun _=>⟨.inl,fun z=>z.elim id fun w=>absurd w.2 (Nat.not_lt_zero _)⟩),rfl⟩ (fun j σ H' _ h=>.inl (.inl h.2.2.1)) ?_ ?_⟩
   ·rintro j y σ H5 T5 hy ⟨s5,hCL5,hL5,htp5,ps5,ys5,v8,v9,hF5,hps5,hlen5,hiff5,rfl⟩ hT
    have hjl:j<ts.length:=(List.getElem?_eq_some_iff.mp hy).1
    obtain ⟨ln,hln,hyt⟩:=Eo htp5 hy
    have t6:=Ax (o:=HO.tup [V.int ((j:Nat):Int),y]) hT
    refine ⟨T5,_,rfl,.inl (.inl Aj),rfl,_,_,rfl,_,_,rfl,rfl,?_⟩
    generalize upd H5 T5 (HO.tup [V.int ((j:Nat):Int),y])=H6 at t6 ⊢
    have O6:=O.mono (s5.trans t6)
    refine ⟨_,rfl,_,rfl,_,rfl,x,BZ c sz,rk,Bw c kbs,ls,y,ln,_,rfl,O6,hyt.mono t6,hlG.2 ln (List.mem_of_getElem? hln),nlt',fun H7 s7=>⟨_,rfl,_,_,rfl,_,rfl,?_⟩⟩
    have t57:=t6.trans s7
    have s07:=s5.trans t57
    have eb:(decide ((0:Int)<=(p:Nat)) && (JD rk ln (M9 sz (DW kbs k) n)).testBit ((p:Nat):Int).toNat)=(JD rk ln (M9 sz (DW kbs k) n)).testBit p:=by rw [decide_eq_true (by omega),Bool.true_and,Int.toNat_natCast]
    rw [eb]
    have hF7:=t57 _ _ hF5
    have hps7:=Al t57 hps5
    have htp7:=Al t57 htp5
    have leadj:Lz sz rk kbs ls D n p (k,j) ↔ (JD rk ln (M9 sz (DW kbs k) n)).testBit p=true:=by
     constructor
     ·rintro ⟨z',l',h1,h2,h3,h4,h5⟩
      have h4':(ls.getD k [])[j]? = some l':=h4
      rw [elD,hln] at h4'
      cases h4'
      exact h5
     ·intro h
      exact ⟨z,ln,hz,hzw,hzD,by rw [elD]; exact hln,h⟩
    have hyl:=hps7.length
    cases hbit:(JD rk ln (M9 sz (DW kbs k) n)).testBit p with
    | false =>
     refine Bo ⟨s07,t57 _ _ hCL5,t57 _ _ hL5,htp7,ps5,ys5,_,_,hF7,hps7,by omega,(fun q=>?_),rfl⟩
     rw [hiff5]
     refine and_congr_right fun hq=>or_congr Iff.rfl ⟨fun w=>⟨w.1,by omega⟩,fun w=>⟨w.1,?_⟩⟩
     rcases Nat.lt_or_ge q.2 j with h | h
     ·exact h
     ·exfalso
      have e2:q=(k,j):=Prod.ext w.1 (by show q.2=j; omega)
      rw [e2,leadj,hbit] at hq
      cases hq
    | true =>
     refine Cv ⟨_,rfl,.inl ⟨rfl,_,.inl (.inl hF7)⟩,_,rfl,_,rfl,by show 2<=sizeLine; decide,fun P1 hP1=>?_⟩
     have t8:=Ax (o:=HO.tup [V.int (k:Nat),V.int (j:Nat)]) hP1
     have u8:upd H7 P1 (HO.tup [V.int (k:Nat),V.int (j:Nat)]) P1=some (.tup (pV (k,j))):=Aj
     generalize upd H7 P1 (HO.tup [V.int (k:Nat),V.int (j:Nat)])=H8 at t8 u8 ⊢
     have hF8:=t8 _ _ hF7
     have t58:=t57.trans t8
     refine ⟨F,ys5,_,rfl,rfl,hF8,Nat.lt_of_le_of_lt (show ys5.length<=30000 by omega) (by decide),?_⟩
     refine ⟨fun b' o e'=>by rw [BP (A_ e' hF)]; exact t8 _ _ (s07 _ _ e'),?_,?_,By (Al t8 htp7) hF8,ps5++[(k,j)],ys5++[V.ref P1],_,_,Aj,(By (ws:=ys5++[V.ref P1]) (Al t8 hps7) hF8).snoc (TupAt.upd (ws:=ys5++[V.ref P1]) ⟨P1,rfl,u8⟩ hF8),?_,(fun q=>?_),rfl⟩
     ·rw [BP (Ne.symm (A_ u0' hCL0))]
      exact t58 _ _ hCL5
     ·rw [BP nFL]
      exact t58 _ _ hL5
     ·rw [List.length_append]
      show ps5.length+1<=_
      omega
     ·rw [List.mem_append,hiff5,List.mem_singleton]
      constructor
      ·rintro (⟨h1,h2⟩ | rfl)
       ·exact ⟨h1,h2.imp id fun w=>⟨w.1,by omega⟩⟩
       ·exact ⟨leadj.mpr hbit,.inr ⟨rfl,Nat.lt_succ_self _⟩⟩
      ·rintro ⟨h1,h2 | ⟨h3,h4⟩⟩
       ·exact .inl ⟨h1,.inl h2⟩
       ·rcases Nat.lt_or_ge q.2 j with h | h
        ·exact .inl ⟨h1,.inr ⟨h3,h⟩⟩
        ·exact .inr (Prod.ext h3 (by show q.2=j; omega))
   ·rintro σ H5 ⟨s5,hCL5,hL5,htp5,ps5,ys5,v8,v9,hF5,hps5,hlen5,hiff5,rfl⟩
    refine ⟨s5,hCL5,ps5,ys5,_,_,_,_,_,hF5,hps5,by have:=hlG.1; omega,(fun q=>?_),rfl⟩
    rw [hiff5,List.take_add_one,hk]
    refine and_congr_right fun hq=>?_
    show _ ↔ q.1∈cl.take i++[k]
    rw [List.mem_append,List.mem_singleton]
    refine or_congr Iff.rfl ⟨fun w=>w.1,fun w=>⟨w,?_⟩⟩
    obtain ⟨z',l',h1,h2,h3,h4,h5⟩:=hq
    rw [w,elD] at h4
    have:=(List.getElem?_eq_some_iff.mp h4).1
    omega
  ·rintro σ H2 ⟨s2,hl2,ps,ys,v5,v6,v7,v8,v9,hF2,hps,hlen,hiff,rfl⟩
   refine ⟨_,rfl,q F ps ys H2 hF s2 hF2 hps fun q'=>?_⟩
   rw [hiff]
   refine ⟨fun z=>z.1,fun z=>⟨z,?_⟩⟩
   obtain ⟨z',l',h1,h2,h3,h4,h5⟩:=z
   have el:(nV cl).length=cl.length:=List.length_map _
   rw [el,List.take_length]
   exact (hcl' _).mpr ⟨z',h1,h2,h3⟩
noncomputable def bF (C:Addr):Sp:=fun vs H Q _=>∃ (x:Addr) (c:Nat->Str) (sz:List Nat) (rk:List (Str × Nat × Int)) (kbs:List Kb) (ls:List (List Ln)) (k j p:Nat) (z:Kb) (l:List Ln) (ln:Ln) (qd:Nat × Nat),vs=[.ref x,.int (k:Nat),.int (j:Nat),.int (p:Nat)]/\Cw C H x (BZ c sz) rk (Bw c kbs) ls/\Lx sz.length kbs/\kbs[k]? = some z/\ls[k]? = some l/\l[j]? = some ln/\(Ed (rk.map QZ))[p]? = some qd/\∀ H',An H H'->Q (.int (((sz.take (DW kbs k)).sum:Nat)+((qd.2:Nat) - ln.sh))) H'
theorem W7:Av ["organ","knob","number","pipe","stop","board"] ["organ","knob","number","pipe"] (Ag gQ):=Bl
include N T in
theorem Z7:Aq P w K mg base Be 3 aD.fKa aD.dKa ["organ","knob","number","pipe"] (bF C):=by
 have GOs:Aq P w K mg base Be 2 aD.fOs aD.dOs ["self","knob"] (Uc C):=RV N T
 have GOb:Aq P w K mg base Be 1 aD.fOb aD.dOb ["self"] (VN C):=Sw N T
 have GOk:Aq P w K mg base Be 2 aD.fOk aD.dOk ["self","board","number"] (Vn C):=TJ N T
 have GOx:Aq P w K mg base Be 1 aD.fOx aD.dOx ["self","pipe"] (YT C):=Yg N T
 refine N.FKa.1.ok W7 (fun vs H Q E h=>?_) (fun cdv A outer s H vs Q E hr h=>?_)
 ·obtain ⟨x,c,sz,rk,kbs,ls,k,j,p,z,l,ln,qd,rfl,_⟩:=h
  rfl
 ·obtain ⟨x,c,sz,rk,kbs,ls,k,j,p,z,l,ln,qd,rfl,O,hkb,hz,hl,hln,hq,q⟩:=h
  have hrOs:BR 2 _:=hr.mono (by decide)
  have hrOb:BR 1 _:=hr.mono (by decide)
  have hrOk:BR 2 _:=hr.mono (by decide)
  have hrOx:BR 1 _:=hr.mono (by decide)
  have hu:=Fl hr
  refine ⟨_,(Ae (Az (i:=4) W7.nd rfl (Or.inl rfl) (Cz (pv 0) T.cl N.FOs.2.2 GOs hrOs N.FOs.2.1 .nil Ao (Aa (pv 1) Ac)))
   (Ae (Az (i:=5) W7.nd rfl (Or.inl rfl) (Am (BV (K:=K) rfl) (Em (pv 0) T.cl N.FOb.2.2 GOb hrOb N.FOb.2.1 .nil Ao) (Am (Ak (K:=K) rfl) (pv 4) Ab (fun _ _=>rfl)) (fun _ _=>rfl)))
   (Ah (Aw (Cz (pv 0) T.cl N.FOk.2.2 GOk hrOk N.FOk.2.1 .nil Ao (Aa (Am (Ak (K:=K) rfl) (pv 5) Ab (fun _ _=>rfl)) (Aa (Ar Dy (Am (Ak (K:=K) rfl) (Cz (pv 0) T.cl N.FOx.2.2 GOx hrOx N.FOx.2.1 .nil Ao (Aa (pv 3) Ac)) Ab (fun _ _=>rfl)) (Am (Ak (K:=K) rfl) (Am (BV (K:=K) rfl) (Am (Ak (K:=K) rfl) (pv 4) Ab (fun _ _=>rfl)) (pv 2) (fun _ _=>rfl)) Ab (fun _ _=>rfl))) Ac))))))),?_⟩
  have meth:∀ {H':Hp},Cw C H' x (BZ c sz) rk (Bw c kbs) ls->∃ dx fs,H' x=some (.ins C dx fs)/\∀ m∈meths,fs.lookup m=none:=fun O'=>by
   obtain ⟨⟨dx,fs,_,_,_,_,_,_,_,_,h1,_,_,_,_,lm,_⟩,_⟩:=O'.o
   exact ⟨dx,fs,h1,lm⟩
  have hr:=De (c:=c) hz
  obtain ⟨rs,er⟩:=Ig hr
  rw [er] at hr
  have hb:=Il hkb hz
  have hbs:(BZ c sz)[DW kbs k]? = some (c (DW kbs k),sz[DW kbs k]):=Ci (List.getElem?_eq_getElem hb)
  obtain ⟨dx,fs,hx,lm⟩:=meth O
  refine ⟨_,rfl,x,dx,fs,rfl,hx,lm _ (by decide +kernel),_,rfl,x,BZ c sz,rk,Bw c kbs,ls,k,DW kbs k,(c (DW kbs k),sz[DW kbs k]),_,_,rs,l,rfl,O,hr,hbs,hl,fun T0 L0 ts H1 _ s1 hT0 hL0 htp=>?_⟩
  have O1:=O.mono s1
  have hx1:=s1 _ _ hx
  refine ⟨_,rfl,x,dx,fs,rfl,hx1,lm _ (by decide +kernel),x,BZ c sz,Bw c kbs,rfl,O1.o,fun DB bvs H2 hDB s2 hl2 hp2=>?_⟩
  obtain ⟨yb,hyb,Tb,rfl,htb⟩:=Bq hp2 hbs
  have s12:=s1.trans s2
  have O2:=O1.mono s2
  refine ⟨_,rfl,T0,_,_,_,rfl,rfl,.inl (.inl (s2 _ _ hT0)),Af (j:=0) rfl,DB,bvs,_,_,rfl,rfl,.inl (.inl hl2),Af hyb,?_⟩
  obtain ⟨yl,hyl,Tl,rfl,htl⟩:=Bq (Al s2 htp) hln
  refine ⟨_,rfl,x,dx,fs,rfl,s2 _ _ hx1,lm _ (by decide +kernel),_,rfl,Tb,_,_,_,rfl,rfl,.inl (.inl htb),Af (j:=0) rfl,_,rfl,x,dx,fs,rfl,s2 _ _ hx1,lm _ (by decide +kernel),_,rfl,x,BZ c sz,rk,Bw c kbs,ls,p,qd,rfl,O2,hq,fun yq hyq=>?_⟩
  obtain ⟨Tq,rfl,htq⟩:=hyq
  refine ⟨Tq,_,_,_,rfl,rfl,.inl (.inl htq),Af (j:=1) rfl,_,rfl,T0,_,_,_,rfl,rfl,.inl (.inl (s2 _ _ hT0)),Af (j:=1) rfl,_,rfl,L0,ts,_,_,rfl,rfl,.inl (.inl (s2 _ _ hL0)),Af hyl,Tl,_,_,_,rfl,rfl,.inl (.inl htl),Af (j:=1) rfl,_,_,rfl,rfl,x,BZ c sz,Bw c kbs,DW kbs k,(c (DW kbs k),sz[DW kbs k]),_,rfl,O2.o,hbs,fun H3 s3=>?_⟩
  have e:(((BZ c sz).take (DW kbs k)).map (·.2)).sum=(sz.take (DW kbs k)).sum:=by rw [List.map_take,B_]
  rw [e]
  exact q _ (s12.trans s3)
structure Vy (sz:List Nat) (rk:List (Str × Nat × Int)) (kbs:List Kb) (ls:List (List Ln)) (D p k j key least:Nat):Prop where
 ex:∃ (z:Kb) (l:List Ln) (ln:Ln) (i:Nat),kbs[k]? = some z/\z.w = "stop" /\ D.testBit k=true/\ls[k]? = some l/\l[j]? = some ln/\key=(sz.take (DW kbs k)).sum+i/\i<sz.getD (DW kbs k) 0/\ln.lo<=(i:Int)/\(i:Int)<=ln.hi/\0<=(i:Int)+ln.sh/\(i:Int)+ln.sh<(JT rk ln.r:Nat)/\(p:Int)=(QM rk ln.r:Nat)+((i:Int)+ln.sh)
 lst:least=1/\Kq kbs D (DW kbs k) \/ least=0/\¬ Kq kbs D (DW kbs k)
noncomputable def cM (C:Addr):Sp:=fun vs H Q _=>∃ (x:Addr) (c:Nat->Str) (sz:List Nat) (rk:List (Str × Nat × Int)) (kbs:List Kb) (ls:List (List Ln)) (D n p:Nat),vs=[.ref x,.int (D:Nat),.int (n:Nat),.int (p:Nat)]/\Cw C H x (BZ c sz) rk (Bw c kbs) ls/\Lx sz.length kbs/\Z9 rk ls/\n<2 ^ 1200/\(∀ i,n.testBit i=true->i<sz.sum) /\
 (∀ (W TT L:Addr) (f k j key least m:Nat) (st:List (Nat × Nat)) (ys:List V) H',H L=none->An H H'->H' W=some (.tup [.ref TT,.int (k:Nat),.int (j:Nat)])->H' TT=some (.tup [.int (f:Nat),.ref L])->H' L=some (.lst ys)->Paired (fun (p:Nat × Nat) v=>TupAt H' (pV p) v) st ys->aa (BZ c sz) kbs D n key f st least->Vy sz rk kbs ls D p k j key least->(∀ j,m.testBit j=true ↔ J2 c sz kbs D n j)->Lz sz rk kbs ls D m p (k,j)->Q (.ref W) H') /\
 ∀ m H',An H H'->(∀ j,m.testBit j=true ↔ J2 c sz kbs D n j)->(∀ q,¬ Lz sz rk kbs ls D m p q)->Q .non H'
theorem Qx:Av ["organ","knobs","held","pipe","found","knob","number","key","least"] ["organ","knobs","held","pipe"] (Ag i_):=Bl
include N T in
theorem ZC:Aq P w K mg base Be 8 aD.fWs aD.dWs ["organ","knobs","held","pipe"] (cM C):=by
 have GSk:Aq P w K mg base Be 6 aD.fSk aD.dSk ["organ","knobs","held"] (W9 C):=Vu N T
 have GLt:Aq P w K mg base Be 4 aD.fLt aD.dLt ["organ","knobs","keys","pipe"] (cA C):=Yv N T
 have GKa:Aq P w K mg base Be 3 aD.fKa aD.dKa ["organ","knob","number","pipe"] (bF C):=Z7 N T
 have GBk:Aq P w K mg base Be 1 aD.fBk aD.dBk ["self","knob"] (Ou C):=Pk N T
 have GMu:Aq P w K mg base Be 3 aD.fMu aD.dMu ["organ","knobs"] (Xy C):=Wi N T
 have GTt:Aq P w K mg base Be 6 aD.fTt aD.dTt ["organ","knobs","held","key","least"] (b_ C):=YM N T
 refine N.FWs.1.ok Qx (fun vs H Q E h=>?_) (fun cdv A outer s H vs Q E hr h=>?_)
 ·obtain ⟨x,c,sz,rk,kbs,ls,D,n,p,rfl,_⟩:=h
  rfl
 ·obtain ⟨x,c,sz,rk,kbs,ls,D,n,p,rfl,O,hkb,hls,hn,hnt,q,q0⟩:=h
  have hrSk:BR 6 _:=hr.mono (by decide)
  have hrLt:BR 4 _:=hr.mono (by decide)
  have hrKa:BR 3 _:=hr.mono (by decide)
  have hrBk:BR 1 _:=hr.mono (by decide)
  have hrMu:BR 3 _:=hr.mono (by decide)
  have hrTt:BR 6 _:=hr.mono (by decide)
  have hu:=Fl hr
  refine ⟨_,(Ae (Az (i:=4) Qx.nd rfl (Or.inl rfl) (Ai GLt hrLt rfl N.FLt.2.2 N.FLt.1.kp N.FLt.2.1 .nil Ao (Aa (pv 0) (Aa (pv 1) (Aa (Ai GSk hrSk rfl N.FSk.2.2 N.FSk.1.kp N.FSk.2.1 .nil Ao (Aa (pv 0) (Aa (pv 1) (Aa (pv 2) Ac)))) (Aa (pv 3) Ac))))))
   (Ae (Br (CJ (Jz (pv 4) (fun _=>rfl))) (Ah (Aw Ge)) Bb)
   (Ae (Az (i:=5) Qx.nd rfl (Or.inl rfl) (Am (Ak (K:=K) rfl) (Am (BV (K:=K) rfl) (pv 4) Ab (fun _ _=>rfl)) Ab (fun _ _=>rfl)))
   (Ae (Az (i:=6) Qx.nd rfl (Or.inl rfl) (Am (Ak (K:=K) rfl) (Am (BV (K:=K) rfl) (pv 4) Ab (fun _ _=>rfl)) Ab (fun _ _=>rfl)))
   (Ae (Az (i:=7) Qx.nd rfl (Or.inl rfl) (Ai GKa hrKa rfl N.FKa.2.2 N.FKa.1.kp N.FKa.2.1 .nil Ao (Aa (pv 0) (Aa (pv 5) (Aa (pv 6) (Aa (pv 3) Ac))))))
   (Ae (Az (i:=8) Qx.nd rfl (Or.inl rfl) (Jj (BW JB (Cz (pv 0) T.cl N.FBk.2.2 GBk hrBk N.FBk.2.1 .nil Ao (Aa (pv 5) Ac)) (Ai GMu hrMu rfl N.FMu.2.2 N.FMu.1.kp N.FMu.2.1 .nil Ao (Aa (pv 0) (Aa (pv 1) Ac))) rfl) Ab Ab))
   (Ah (Aw (CQ (Aa (Ai GTt hrTt rfl N.FTt.2.2 N.FTt.1.kp N.FTt.2.1 .nil Ao (Aa (pv 0) (Aa (pv 1) (Aa (pv 2) (Aa (pv 7) (Aa (pv 8) Ac)))))) (Aa (pv 5) (Aa (pv 6) Ac)))))))))))),?_⟩
  have meth:∀ {H':Hp},Cw C H' x (BZ c sz) rk (Bw c kbs) ls->∃ dx fs,H' x=some (.ins C dx fs)/\∀ m∈meths,fs.lookup m=none:=fun O'=>by
   obtain ⟨⟨dx,fs,_,_,_,_,_,_,_,_,h1,_,_,_,_,lm,_⟩,_⟩:=O'.o
   exact ⟨dx,fs,h1,lm⟩
  refine ⟨_,rfl,_,rfl,_,rfl,_,rfl,_,rfl,x,c,sz,kbs,D,n,rfl,O.o,hkb,hn,hnt,fun m H1 s1 hm=>?_⟩
  have h305:=Ei O.o
  rw [B_] at h305
  have hm12:m<2 ^ 1200:=by
   refine Nat.lt_pow_two_of_testBit _ fun i hi=>?_
   cases hb:m.testBit i with
   | false=>rfl
   | true =>
    have:=(hm i).mp hb
    have hlt:i<sz.sum:=by
     rcases this with h | ⟨h,_⟩
     ·have:=h.lt
      rw [B_] at this
      exact this
     ·exact hnt i h
    omega
  refine ⟨_,rfl,x,c,sz,rk,kbs,ls,D,m,p,rfl,O.mono s1,hkb,hls,hm12,fun F ps ys H2 hF s2 hF2 hps hiff=>?_⟩
  have s12:=s1.trans s2
  have O2:=O.mono s12
  have hyl:=hps.length
  cases ps with
  | nil =>
   cases ys with
   | cons _ _=>cases hyl
   | nil =>
    refine ⟨_,rfl,_,.inl ⟨_,.inl (.inl hF2),rfl⟩,Cv (q0 m H2 s12 hm fun q' hq'=>?_)⟩
    exact nomatch (hiff q').mpr hq'
  | cons kj ps' =>
   obtain ⟨k,j⟩:=kj
   obtain ⟨y0,ys',rfl⟩:∃ y0 ys',ys=y0::ys':=by
    cases ys with
    | nil=>cases hyl
    | cons a b=>exact ⟨a,b,rfl⟩
   obtain ⟨T1,rfl,hT1⟩:TupAt H2 (pV (k,j)) y0:=by
    obtain ⟨y',hy',ht'⟩:=Bq (i:=0) hps rfl
    have:y0=y':=Option.some.inj hy'
    rw [this]
    exact ht'
   have lead:=(hiff (k,j)).mp (List.mem_cons_self ..)
   obtain ⟨z,ln,hz,hzw,hzD,hln,hbit⟩:=id lead
   have hkl:k<ls.length:=by
    rw [O.nl,GQ]
    exact (List.getElem?_eq_some_iff.mp hz).1
   obtain ⟨l,hl⟩:∃ l,ls[k]? = some l:=⟨_,List.getElem?_eq_getElem hkl⟩
   have hlG:=hls l (List.mem_of_getElem? hl)
   have elD:ls.getD k []=l:=by rw [List.getD_eq_getElem?_getD,hl]; rfl
   have hln':l[j]? = some ln:=by rw [← elD]; exact hln
   have g:=hlG.2 ln (List.mem_of_getElem? hln')
   obtain ⟨i,hi1,hlo,hhi,hs0,hs1,hp⟩:=(VF g _ _).mp hbit
   obtain ⟨hib,hmb⟩:=(XD _ _ _ _).mp hi1
   obtain ⟨key,ekey⟩:∃ key,key=(sz.take (DW kbs k)).sum+i:=⟨_,rfl⟩
   rw [← ekey] at hmb
   have hb:=Il hkb hz
   have hsp:=(hm key).mp hmb
   obtain ⟨np,enp⟩:=Int.eq_ofNat_of_zero_le hs0
   have hrk:(rk.map QZ)[ln.r]? = some (QZ (rk[ln.r]'g.r)):=by rw [List.getElem?_map,List.getElem?_eq_getElem g.r]; rfl
   have ezr:JT rk ln.r=(QZ (rk[ln.r]'g.r)).2:=by
    unfold JT
    rw [List.getD_eq_getElem?_getD,List.getElem?_map,List.getElem?_eq_getElem g.r]
    rfl
   have hplc:=O7 hrk (n:=np) (by rw [← ezr]; omega)
   have est:(((rk.map QZ).take ln.r).map (·.2)).sum=QM rk ln.r:=by
    unfold QM
    rw [← List.map_take,List.map_map]
    rfl
   rw [est] at hplc
   have ep:p=QM rk ln.r+np:=by omega
   rw [← ep] at hplc
   refine ⟨_,rfl,_,.inl ⟨_,.inl (.inl hF2),rfl⟩,Bo ?_⟩
   refine ⟨_,rfl,F,_,_,_,rfl,rfl,.inl (.inl hF2),Af (j:=0) rfl,T1,_,_,_,rfl,rfl,.inl (.inl hT1),Af (j:=0) rfl,_,rfl,F,_,_,_,rfl,rfl,.inl (.inl hF2),Af (j:=0) rfl,T1,_,_,_,rfl,rfl,.inl (.inl hT1),Af (j:=1) rfl,?_⟩
   refine ⟨_,rfl,_,rfl,_,rfl,_,rfl,x,c,sz,rk,kbs,ls,k,j,p,z,l,ln,_,rfl,O2,hkb,hz,hl,hln',hplc,fun H3 s3=>?_⟩
   have ek:(((sz.take (DW kbs k)).sum:Nat):Int)+(((np:Nat):Int) - ln.sh)=((key:Nat):Int):=by omega
   dsimp only
   rw [ek]
   have O3:=O2.mono s3
   obtain ⟨dx,fs,hx,lm⟩:=meth O3
   have hr:=De (c:=c) hz
   obtain ⟨rs,er⟩:=Ig hr
   rw [er] at hr
   have hbs:(BZ c sz)[DW kbs k]? = some (c (DW kbs k),sz[DW kbs k]):=Ci (List.getElem?_eq_getElem hb)
   refine ⟨_,rfl,x,dx,fs,rfl,hx,lm _ (by decide +kernel),_,rfl,x,BZ c sz,Bw c kbs,k,DW kbs k,(c (DW kbs k),sz[DW kbs k]),_,_,rs,rfl,O3.o,hr,hbs,_,rfl,_,rfl,x,c,sz,kbs,D,rfl,O3.o,hkb,fun ML ml H4 hML s4 hl4 hml hmll=>⟨ML,_,rfl,.inl (.inl (.inl hl4)),rfl,HN _,_,rfl,?_⟩⟩
   have s04:=s12.trans (s3.trans s4)
   have O4:=O3.mono s4
   rw [if_neg Bool.false_ne_true,Gn]
   have hbrd:YD sz key (DW kbs k):=⟨i,hib,hb,ekey⟩
   by_cases hmu:DW kbs k∈ml
   ·rw [decide_eq_true hmu]
    refine Cv ?_
    refine ⟨_,rfl,_,rfl,_,rfl,_,rfl,_,rfl,x,c,sz,kbs,D,n,key,1,rfl,O4.o,hkb,hn,hnt,by decide,(fun yt H5 f st L ys5 hL s5 hyt hL5 hp5 UJ _=>?_),(fun H5 s5 n1 n2=>?_)⟩
    rotate_left
    ·exfalso
     rcases hsp with h | ⟨_,h⟩
     ·exact n2 h
     ·exact h _ hbrd ((hml _).mp hmu)
    obtain ⟨TT,rfl,hTT⟩:=hyt
    refine ⟨_,rfl,_,rfl,by show 3<=sizeLine; decide,fun W hW=>?_⟩
    have t6:=Ax (o:=HO.tup [V.ref TT,V.int (k:Nat),V.int (j:Nat)]) hW
    have s6:=s5.trans t6
    exact q W TT L f k j key 1 m st ys5 _ (s04.free hL) (s04.trans s6) Aj (t6 _ _ hTT) (t6 _ _ hL5) (Al t6 hp5) UJ ⟨⟨z,l,ln,i,hz,hzw,hzD,hl,hln',ekey,hib,hlo,hhi,hs0,hs1,hp⟩,.inl ⟨rfl,(hml _).mp hmu⟩⟩ hm lead
   ·rw [decide_eq_false hmu]
    refine Bo ?_
    refine ⟨_,rfl,_,rfl,_,rfl,_,rfl,_,rfl,x,c,sz,kbs,D,n,key,0,rfl,O4.o,hkb,hn,hnt,by decide,(fun yt H5 f st L ys5 hL s5 hyt hL5 hp5 UJ _=>?_),(fun H5 s5 n1 n2=>?_)⟩
    rotate_left
    ·exfalso
     rcases hsp with h | ⟨h,_⟩
     ·exact n2 h
     ·exact n1 ⟨rfl,h⟩
    obtain ⟨TT,rfl,hTT⟩:=hyt
    refine ⟨_,rfl,_,rfl,by show 3<=sizeLine; decide,fun W hW=>?_⟩
    have t6:=Ax (o:=HO.tup [V.ref TT,V.int (k:Nat),V.int (j:Nat)]) hW
    have s6:=s5.trans t6
    exact q W TT L f k j key 0 m st ys5 _ (s04.free hL) (s04.trans s6) Aj (t6 _ _ hTT) (t6 _ _ hL5) (Al t6 hp5) UJ ⟨⟨z,l,ln,i,hz,hzw,hzD,hl,hln',ekey,hib,hlo,hhi,hs0,hs1,hp⟩,.inr ⟨rfl,fun z=>hmu ((hml _).mpr z)⟩⟩ hm lead
theorem aQ {c:TT} {t t2 u:TS} {D:Ends} {σ:St} {H:Hp} (P:St->Hp->Prop) (h1:∀ D':Ends,(∀ σ' H',P σ' H'->D'.nx σ' H')->W5 c t t2 D' σ H) (h2:∀ σ' H',P σ' H'->u D σ' H'):Vs (W5 c t t2) u D σ H:=h1 { D with nx:=u D } h2
noncomputable def au:Sp:=fun vs H Q _=>∃ (W DS DP DK DR DD DH W0 TT L:Addr) (c:Nat->Str) (sz pz:List Nat) (rk:List (Str × Nat × Int)) (kls:List Kl) (us ys:List V) (dl hl:List Nat) (p f k j key least:Nat) (st:List (Nat × Nat)),vs=[.ref W,.ref DD,.ref DH,.int (p:Nat),.ref W0]/\H W=some (.lst [.ref DS,.ref DP,.ref DK,.ref DR])/\H DS=some (.lst (nV sz))/\H DP=some (.lst (nV pz))/\sz.length<=5/\(∀ s∈sz,s<=61)/\sz.sum<=305/\pz.length<=4/\(∀ z∈pz,1<=z/\z<=97)/\H DK=some (.lst us)/\Paired (fun z y=>FJ DK H z y) kls us/\Qe sz pz kls/\Lx sz.length (kls.map (·.1))/\H DD=some (.lst (nV dl))/\dl.length<=100/\(∀ k∈dl,k<us.length)/\H DH=some (.lst (nV hl)) /\
 (∀ r,JT rk r=pz.getD r 0/\QM rk r=(pz.take r).sum) /\
 H W0=some (.tup [.ref TT,.int (k:Nat),.int (j:Nat)])/\H TT=some (.tup [.int (f:Nat),.ref L])/\H L=some (.lst ys)/\Paired (fun (p:Nat × Nat) v=>TupAt H (pV p) v) st ys/\aa (BZ c sz) (kls.map (·.1)) (Wd.mk dl) (Wd.mk hl) key f st least/\Vy sz rk (kls.map (·.1)) (kls.map (·.2)) (Wd.mk dl) p k j key least/\∀ H',An H H'->Q (.bl true) H'
theorem JS:Av ["_law_world_here","_law_drawn_here","_law_held_here","_law_pipe","_law_found","_law_sizes_here","_law_pipes","_law_knobs_here","_law_rows_here","_law_trail","_law_key","_law_muted","_law_least","_law_good","_law_brought"] ["_law_world_here","_law_drawn_here","_law_held_here","_law_pipe","_law_found"] (Ag dG):=Bl
include N T in
theorem YX:Aq P w K mg base Be 5 aD.fSw aD.dSw ["_law_world_here","_law_drawn_here","_law_held_here","_law_pipe","_law_found"] au:=by
 have GLw:Aq P w K mg base Be 1 aD.fLw aD.dLw ["_law_found"] QC:=Wb N T
 have GSp:Aq P w K mg base Be 1 aD.fSp aD.dSp ["_law_sizes_here","_law_key"] UW:=RZ N T
 have GLd:Aq P w K mg base Be 3 aD.fLd aD.dLd ["_law_sizes_here","_law_knobs_here","_law_drawn_here","_law_held_here","_law_key","_law_least","_law_trail"] Yr:=cW N T
 have GPi:Aq P w K mg base Be 2 aD.fPi aD.dPi ["_law_sizes_here","_law_pipes","_law_knob_here","_law_key"] bu:=Yc N T
 refine N.FSw.1.ok JS (fun vs H Q E h=>?_) (fun cdv A outer s H vs Q E hr h=>?_)
 ·obtain ⟨W,DS,DP,DK,DR,DD,DH,W0,TT,L,c,sz,pz,rk,kls,us,ys,dl,hl,p,f,k,j,key,least,st,rfl,_⟩:=h
  rfl
 ·obtain ⟨W,DS,DP,DK,DR,DD,DH,W0,TT,L,c,sz,pz,rk,kls,us,ys,dl,hl9,p,f,k,j,key,least,st,rfl,hW,hS0,hP0,h5,h61,h305,h4,hpz,hK0,hpr,hkls,hkbs,hd,hdl,hdb,hh,hrk,hW0,hTT,hL,hst,UJ,sho,q⟩:=h
  have hrLw:BR 1 _:=hr.mono (by decide)
  have hrSp:BR 1 _:=hr.mono (by decide)
  have hrLd:BR 3 _:=hr.mono (by decide)
  have hrPi:BR 2 _:=hr.mono (by decide)
  have hu:=Fl hr
  refine ⟨_,(Ae (Ot (pv 0) (XR rfl (Bf (Bd (i:=5) JS.nd rfl (Or.inl rfl)) (Bf (Bd (i:=6) JS.nd rfl (Or.inl rfl)) (Bf (Bd (i:=7) JS.nd rfl (Or.inr rfl)) (Bf (Bd (i:=8) JS.nd rfl (Or.inl rfl)) Ea))))))
   (Ae (Br (PW.pt (Dm (CJ (CV (BL CK rfl T.isin PyProof.Rows.boot_isinstance (Aa (pv 4) (Aa (DQ (v:=.ty "tuple") rfl T.tuple PyProof.Rows.boot_tuple rfl) Ac))))) (Dm (BW E_ (BL BX rfl T.len PySem.boot_len (Aa (pv 4) Ac)) Ab (Bc _)) (Dm (CJ (CV (Ai GLw hrLw rfl N.FLw.2.2 N.FLw.1.kp N.FLw.2.1 .nil Ao (Aa (Am (Ak (K:=K) rfl) (pv 4) Ab (fun _ _=>rfl)) Ac)))) (Eb (CJ (CV (Ai GLw hrLw rfl N.FLw.2.2 N.FLw.1.kp N.FLw.2.1 .nil Ao (Aa (Am (Ak (K:=K) rfl) (pv 4) Ab (fun _ _=>rfl)) Ac))))))))) (Ah (Aw Es)) Bb)
   (Ae (Br (PW.pt (Dm (BW (HY (K:=K) rfl) (Am (Ak (K:=K) rfl) (pv 4) Ab (fun _ _=>rfl)) (pv 1) rfl) (Dm (BW E_ (Am (Ak (K:=K) rfl) (Am (BV (K:=K) rfl) (pv 7) (Am (Ak (K:=K) rfl) (pv 4) Ab (fun _ _=>rfl)) (fun _ _=>rfl)) Ab (fun _ _=>rfl)) Bt (Bc _)) (Eb (CJ (FT Er GX Ab (Am (Ak (K:=K) rfl) (pv 4) Ab (fun _ _=>rfl)) (BL BX rfl T.len PySem.boot_len (Aa (Am (Ak (K:=K) rfl) (Am (BV (K:=K) rfl) (pv 7) (Am (Ak (K:=K) rfl) (pv 4) Ab (fun _ _=>rfl)) (fun _ _=>rfl)) Ab (fun _ _=>rfl)) Ac)))))))) (Ah (Aw Es)) Bb)
   (Ae (Az (i:=9) JS.nd rfl (Or.inl rfl) (Am (Ak (K:=K) rfl) (pv 4) Ab (fun _ _=>rfl)))
   (Ae (Br (PW.pt (Dm (CJ (CV (BL CK rfl T.isin PyProof.Rows.boot_isinstance (Aa (pv 9) (Aa (DQ (v:=.ty "tuple") rfl T.tuple PyProof.Rows.boot_tuple rfl) Ac))))) (Dm (BW E_ (BL BX rfl T.len PySem.boot_len (Aa (pv 9) Ac)) Ab (Bc _)) (Eb (CJ (CV (BL CK rfl T.isin PyProof.Rows.boot_isinstance (Aa (Am (Ak (K:=K) rfl) (pv 9) Ab (fun _ _=>rfl)) (Aa (DQ (v:=.ty "list") rfl T.list PyProof.Rows.boot_list rfl) Ac))))))))) (Ah (Aw Es)) Bb)
   (Ae (Az (i:=10) JS.nd rfl (Or.inl rfl) (Am (Ak (K:=K) rfl) (pv 9) Ab (fun _ _=>rfl)))
   (Ae (Br (BW (RM (Nat.lt_of_succ_lt hu)) (Am (Ak (K:=K) rfl) (pv 9) Ab (fun _ _=>rfl)) (Df Ac) (Bc _)) (Ah (Az (i:=10) JS.nd rfl (Or.inl rfl) (Am (Ak (K:=K) rfl) (Am (BV (K:=K) rfl) (Am (Ak (K:=K) rfl) (pv 9) Ab (fun _ _=>rfl)) (G5 FP Ab) (fun _ _=>rfl)) Ab (fun _ _=>rfl)))) Bb)
   (Ae (Ho (i:=11) JS.nd rfl rfl rfl (Ba (osc:=Ag dG) (N:=["_law_world_here","_law_drawn_here","_law_held_here","_law_pipe","_law_found","_law_sizes_here","_law_pipes","_law_knobs_here","_law_rows_here","_law_trail","_law_key","_law_muted","_law_least","_law_good","_law_brought"]) rfl rfl (by decide +kernel)) (Bh (pv 1)) (fun _ _ _ _=>(Gk (BW Du (Am (Ak (K:=K) rfl) (Am (BV (K:=K) rfl) (pv 8) (pv 0) (fun _ _=>rfl)) Ab (fun _ _=>rfl)) Bt (Bc _)))) (fun _ _ _ _=>(Am (Ak (K:=K) rfl) (Am (BV (K:=K) rfl) (pv 8) (pv 0) (fun _ _=>rfl)) Ab (fun _ _=>rfl))))
   (Ae (Az (i:=12) JS.nd rfl (Or.inl rfl) (Dz Kp rfl T.int PyProof.Rows.boot_int (Aa (Dq JB (Am (Ak (K:=K) rfl) (Ai GSp hrSp rfl N.FSp.2.2 N.FSp.1.kp N.FSp.2.1 .nil Ao (Aa (pv 5) (Aa (pv 10) Ac))) Ab (fun _ _=>rfl)) (pv 11) rfl) Ac)))
   (Ae (Az (i:=13) JS.nd rfl (Or.inl rfl) (Ai GLd hrLd rfl N.FLd.2.2 N.FLd.1.kp N.FLd.2.1 .nil Ao (Aa (pv 5) (Aa (pv 7) (Aa (pv 1) (Aa (pv 2) (Aa (pv 10) (Aa (pv 12) (Aa (pv 9) Ac)))))))))
   (Ae (Az (i:=14) JS.nd rfl (Or.inl rfl) (Ai GPi hrPi rfl N.FPi.2.2 N.FPi.1.kp N.FPi.2.1 .nil Ao (Aa (pv 5) (Aa (pv 6) (Aa (Am (BV (K:=K) rfl) (pv 7) (Am (Ak (K:=K) rfl) (pv 4) Ab (fun _ _=>rfl)) (fun _ _=>rfl)) (Aa (pv 10) Ac))))))
   (Ah (Aw (Dw (pv 13) (Ds (Dq Du (Am (BV (K:=K) rfl) (pv 14) (Am (Ak (K:=K) rfl) (pv 4) Ab (fun _ _=>rfl)) (fun _ _=>rfl)) (pv 3) (Bc _))))))))))))))))),?_⟩
  obtain ⟨⟨z1,l,ln,i,hz1,hzw,hzD,hl,hln,ekey,hib,hlo,hhi,hs0,hs1,hp⟩,hlst⟩:=sho
  have bitL:∀ k,(Wd.mk dl).testBit k=true ↔ k∈dl:=fun k=>by rw [Wd.JK,decide_eq_true_eq]
  have hkd:k∈dl:=(bitL k).mp hzD
  have hul:=hpr.length
  obtain ⟨kl,hkl,ek1⟩:∃ kl,kls[k]? = some kl/\kl.1=z1:=by
   rw [List.getElem?_map] at hz1
   obtain ⟨kl,h1,h2⟩:=Option.map_eq_some_iff.mp hz1
   exact ⟨kl,h1,h2⟩
  have ek2:kl.2=l:=by
   rw [List.getElem?_map,hkl] at hl
   exact Option.some.inj hl
  have hkw:kl.1.w = "stop":=by rw [ek1]; exact hzw
  have ebd:DW (kls.map (·.1)) k=kl.1.bd:=by
   unfold DW
   rw [List.getElem?_map,hkl]
   cases kl with
   | mk kb l9=>cases kb <;> rfl
  obtain ⟨y1,hy1,ex1,⟨T1,rfl,ht1⟩,hex⟩:=Bq hpr hkl
  obtain ⟨A,ts,rfl,nA,hA,hts⟩:∃ A ts,ex1=[.ref A]/\¬ A=DK/\H A=some (.lst ts)/\Paired (fun x y=>TupAt H (RG x) y) l ts:=by
   rcases hex with ⟨_,_,h⟩ | ⟨_,A,ts,h1,h2,h3,h4⟩
   ·exact (h hkw).elim
   ·exact ⟨A,ts,h1,h2,h3,by rw [← ek2]; exact h4⟩
  have ev:kl.1.v++[.ref A]=[.str "stop",.int (kl.1.bd:Nat),.ref A]:=by
   obtain ⟨kb,l9⟩:=kl
   cases kb with
   | cp a b s9=>exact absurd (show ("coupler" : Str) = "stop" from hkw) (by decide +kernel)
   | pl w9 a =>
    have:w9 = "stop":=hkw
    rw [this]
    rfl
  rw [ev] at ht1
  have hKq:CP K H DK us:=.inl (.inl hK0)
  have hln4:=hkls.ln kl (List.mem_of_getElem? hkl)
  rw [ek2] at hln4
  have htl:=hts.length
  have hjl:j<l.length:=(List.getElem?_eq_some_iff.mp hln).1
  refine ⟨_,rfl,W,_,rfl,.inl (.inl hW),rfl,_,_,rfl,_,_,rfl,_,_,rfl,_,_,rfl,rfl,?_⟩
  refine ⟨_,rfl,_,"tuple",_,_,rfl,.tup hW0,MF,_,rfl,Bo ?_⟩
  refine ⟨_,rfl,W0,_,rfl,.inr (.inl (.inl hW0)),rfl,_,rfl,Bo ?_⟩
  refine ⟨_,rfl,W0,_,_,_,rfl,rfl,.inl (.inl hW0),Af (j:=1) rfl,_,rfl,_,rfl,Bo ?_⟩
  refine ⟨_,rfl,W0,_,_,_,rfl,rfl,.inl (.inl hW0),Af (j:=2) rfl,_,rfl,_,rfl,Bo ?_⟩
  refine ⟨_,rfl,W0,_,_,_,rfl,rfl,.inl (.inl hW0),Af (j:=1) rfl,_,rfl,DD,_,rfl,.inl (.inl (.inl hd)),rfl,HN _,_,rfl,?_⟩
  rw [Gn,decide_eq_true hkd]
  refine Bo ⟨_,rfl,_,rfl,W0,_,_,_,rfl,rfl,.inl (.inl hW0),Af (j:=1) rfl,DK,us,_,_,rfl,rfl,hKq,Af hy1,T1,_,_,_,rfl,rfl,.inl (.inl ht1),Af (j:=0) rfl,rfl,_,rfl,Bo ?_⟩
  refine ⟨_,rfl,W0,_,_,_,rfl,rfl,.inl (.inl hW0),Af (j:=2) rfl,_,_,rfl,rfl,_,rfl,?_⟩
  rw [decide_eq_true (show (0:Int)<=((j:Nat):Int) by omega)]
  refine Cv ⟨_,rfl,_,rfl,W0,_,_,_,rfl,rfl,.inl (.inl hW0),Af (j:=1) rfl,DK,us,_,_,rfl,rfl,hKq,Af hy1,T1,_,_,_,rfl,rfl,.inl (.inl ht1),Af (j:=2) rfl,A,_,rfl,.inl (.inl (.inl hA)),_,_,rfl,rfl,_,rfl,?_⟩
  rw [decide_eq_true (show ((j:Nat):Int)<((ts.length:Nat):Int) by omega)]
  refine Bo ?_
  refine ⟨_,rfl,W0,_,_,_,rfl,rfl,.inl (.inl hW0),Af (j:=0) rfl,?_⟩
  refine ⟨_,rfl,_,"tuple",_,_,rfl,.tup hTT,MF,_,rfl,Bo ?_⟩
  refine ⟨_,rfl,TT,_,rfl,.inr (.inl (.inl hTT)),rfl,_,rfl,Bo ?_⟩
  refine ⟨_,rfl,TT,_,_,_,rfl,rfl,.inl (.inl hTT),Af (j:=1) rfl,_,"list",_,_,rfl,.lst hL,Pn,_,rfl,Bo ?_⟩
  refine ⟨_,rfl,TT,_,_,_,rfl,rfl,.inl (.inl hTT),Af (j:=0) rfl,?_⟩
  show Dg 10 _ _ _ _
  unfold Dg
  dsimp only
  refine aQ (fun σ' H'=>An H H'/\σ'=[some (.ref W),some (.ref DD),some (.ref DH),some (.int (p:Nat)),some (.ref W0),some (.ref DS),some (.ref DP),some (.ref DK),some (.ref DR),some (.ref TT),some (.int (key:Nat)),none,none,none,none]) (fun D' hD'=>?_) ?_
  ·refine ⟨_,rfl,TT,_,_,_,rfl,rfl,.inl (.inl hTT),Af (j:=1) rfl,DY (by simp),fun E1 hE1=>?_⟩
   obtain ⟨H1,eqH,t1,u1⟩:=JC (o:=HO.lst []) hE1
   rw [eqH]
   refine ⟨L,E1,_,rfl,rfl,.inl (.inl (t1 _ _ hL)),.inl (.inl u1),_,rfl,?_⟩
   have hlast:=UJ.last
   have hyl:=hst.length
   cases st with
   | nil =>
    obtain rfl:ys=[]:=List.eq_nil_of_length_eq_zero hyl.symm
    obtain rfl:f=key:=Option.some.inj hlast
    exact Bo (hD' _ _ ⟨t1,rfl⟩)
   | cons a st' =>
    have hne:ys ≠ []:=fun z=>by rw [z] at hyl; cases hyl
    rw [show ys.isEmpty=false by cases h:ys with | nil=>exact (hne h).elim | cons _ _=>rfl]
    have hlast':((a::st').map (·.2)).getLast? = some key:=by
     rw [List.map_cons] at hlast ⊢
     rw [List.getLast?_cons_cons] at hlast
     exact hlast
    rw [List.getLast?_map] at hlast'
    obtain ⟨⟨k9,key9⟩,hpr9,e9⟩:=Option.map_eq_some_iff.mp hlast'
    obtain rfl:key9=key:=e9
    rw [List.getLast?_eq_getElem?] at hpr9
    obtain ⟨y9,hy9,T9,rfl,hT9⟩:=Bq hst hpr9
    rw [hyl,← List.getLast?_eq_getElem?] at hy9
    exact Cv ⟨_,rfl,TT,_,_,_,rfl,rfl,.inl (.inl (t1 _ _ hTT)),Af (j:=1) rfl,_,rfl,L,ys,_,_,rfl,rfl,.inl (.inl (t1 _ _ hL)),Ih hy9,T9,_,_,_,rfl,rfl,.inl (.inl (t1 _ _ hT9)),Af (j:=1) rfl,hD' _ _ ⟨t1,rfl⟩⟩
  rintro σ' H1 ⟨s1,rfl⟩
  have hprK:Paired (fun (k:Kb) y=>I_ H1 k y) (kls.map (·.1)) us:=Paired.Fb (Q4 hpr) fun _ _ q=>I_.mono s1 q
  have hKn1:Paired (fun z y=>FJ DK H1 z y) kls us:=Paired.Fb hpr fun _ _ q=>FJ.mono s1 q
  have ht11:=s1 _ _ ht1
  have hW01:=s1 _ _ hW0
  clear hpr
  have hpr:=hprK
  rw [ebd] at ekey hib hlst
  have hKL:kls.length=us.length:=hul
  obtain ⟨kbs,ekb⟩:∃ kbs,kls.map (·.1)=kbs:=⟨_,rfl⟩
  have hul:kbs.length=us.length:=by rw [← ekb,List.length_map]; exact hKL
  rw [ekb] at hpr hkbs UJ hlst
  have hK00:=hK0
  have hK0:=s1 _ _ hK00
  have hd0:=hd
  have hd:=s1 _ _ hd0
  have hSd:CP K H1 DD (nV dl):=.inl (.inl hd)
  let pm:V->Bool:=fun v=>match v with | .int k=>(match kbs[k.toNat]? with | some z=>decide (V.str z.w=V.str "mute") | none=>false) | _=>false
  let fm:V->V:=fun v=>match v with | .int k=>.int (DW kbs k.toNat:Nat) | _=>.non
  refine ⟨_,rfl,DD,rfl,⟨_,hSd⟩,Cp (K:=K) (xs:=nV dl) pm fm hSd (BJ (by rw [List.length_map]; omega)) (fun v hv H' hs R k=>?_) (fun v hv _ H' hs R k=>?_) (fun ML H2 hML s2 hl1=>?_)⟩
  ·obtain ⟨kk,hkk,rfl⟩:=List.mem_map.mp hv
   have hik:kk<kbs.length:=by have:=hdb kk hkk; omega
   obtain ⟨y,hy,⟨T1,r1,rfl,ht1⟩,_⟩:=Bq (Paired.Fb hpr fun _ _ q=>I_.mono hs q) (List.getElem?_eq_getElem hik)
   have q1:=k H' (An.refl H')
   have e0:pm (V.int (kk:Nat))=decide (V.str (kbs[kk]).w=V.str "mute"):=by
    show (match kbs[((kk:Nat):Int).toNat]? with | some z=>decide (V.str z.w=V.str "mute") | none=>false)=_
    rw [Int.toNat_natCast,List.getElem?_eq_getElem hik]
   rw [e0] at q1
   exact ⟨_,rfl,_,rfl,DK,us,_,_,rfl,rfl,.inl (.inl (hs _ _ hK0)),Af hy,T1,_,_,_,rfl,rfl,.inl (.inl ht1),Af (j:=0) rfl,rfl,_,rfl,q1⟩
  ·obtain ⟨kk,hkk,rfl⟩:=List.mem_map.mp hv
   have hik:kk<kbs.length:=by have:=hdb kk hkk; omega
   obtain ⟨y,hy,⟨T1,r1,rfl,ht1⟩,_⟩:=Bq (Paired.Fb hpr fun _ _ q=>I_.mono hs q) (List.getElem?_eq_getElem hik)
   have q1:=k H' (An.refl H')
   have e0:fm (V.int (kk:Nat))=.int ((kbs[kk]).bd:Nat):=by
    show V.int (DW kbs ((kk:Nat):Int).toNat:Nat)=_
    unfold DW
    rw [Int.toNat_natCast,List.getElem?_eq_getElem hik]
    cases kbs[kk] <;> rfl
   rw [e0] at q1
   exact ⟨_,rfl,_,rfl,DK,us,_,_,rfl,rfl,.inl (.inl (hs _ _ hK0)),Af hy,T1,_,_,_,rfl,rfl,.inl (.inl ht1),Af (j:=1) rfl,q1⟩
  obtain ⟨ml,eml,hml⟩:∃ ml:List Nat,((nV dl).filter pm).map fm=nV ml/\∀ b,b∈ml ↔ Kq kbs (Wd.mk dl) b:=by
   refine ⟨(dl.filter fun k=>pm (.int (k:Nat))).map (DW kbs),?_,fun b=>?_⟩
   ·unfold nV
    rw [List.filter_map,List.map_map,List.map_map]
    rfl
   ·rw [List.mem_map]
    constructor
    ·rintro ⟨k,hk,rfl⟩
     obtain ⟨h1,h2⟩:=List.mem_filter.mp hk
     have h2':(match kbs[((k:Nat):Int).toNat]? with | some z=>decide (V.str z.w=V.str "mute") | none=>false)=true:=h2
     rw [Int.toNat_natCast] at h2'
     cases e:kbs[k]? with
     | none=>rw [e] at h2'; cases h2'
     | some z=>rw [e] at h2'; exact ⟨k,z,e,V.str.inj (of_decide_eq_true h2'),(bitL k).mpr h1,rfl⟩
    ·rintro ⟨k,z,hz,hw,hd',rfl⟩
     refine ⟨k,List.mem_filter.mpr ⟨(bitL k).mp hd',?_⟩,rfl⟩
     show (match kbs[((k:Nat):Int).toNat]? with | some z=>decide (V.str z.w=V.str "mute") | none=>false)=true
     rw [Int.toNat_natCast,hz]
     exact decide_eq_true (congrArg V.str hw)
  rw [eml] at hl1
  clear eml
  have hb:kl.1.bd<sz.length:=by
   have:=Il (k:=k) hkbs (z:=kl.1) (by rw [← ekb,List.getElem?_map,hkl]; rfl)
   rw [← ekb,ebd] at this
   exact this
  have hplc:(Ed (BZ c sz))[key]? = some (kl.1.bd,i):=by
   have hbs:(BZ c sz)[kl.1.bd]? = some (c kl.1.bd,sz[kl.1.bd]):=Ci (List.getElem?_eq_getElem hb)
   have:=O7 hbs (n:=i) (by
    rw [List.getD_eq_getElem?_getD,List.getElem?_eq_getElem hb] at hib
    exact hib)
   rw [List.map_take,B_,← ekey] at this
   exact this
  have s12:=s1.trans s2
  refine ⟨_,rfl,_,rfl,DS,BZ c sz,key,(kl.1.bd,i),rfl,(by rw [B_]; exact s12 _ _ hS0),hplc,fun y2 H3 s3 hy2=>?_⟩
  obtain ⟨T2,rfl,ht2⟩:=hy2
  have s13:=s12.trans s3
  refine ⟨T2,_,_,_,rfl,rfl,.inl (.inl ht2),Af (j:=0) rfl,_,rfl,ML,_,rfl,.inl (.inl (.inl (s3 _ _ hl1))),rfl,HN _,.inr ⟨_,rfl,?_⟩⟩
  rw [if_neg Bool.false_ne_true,Gn]
  have el:(if decide (kl.1.bd∈ml)=true then (1:Int) else 0)=((least:Nat):Int):=by
   rcases hlst with ⟨e,h⟩ | ⟨e,h⟩
   ·rw [decide_eq_true ((hml _).mpr h),if_pos rfl,e]
    rfl
   ·rw [decide_eq_false fun z=>h ((hml _).mp z),if_neg Bool.false_ne_true,e]
    rfl
  dsimp only
  rw [el]
  refine ⟨_,rfl,_,rfl,_,rfl,_,rfl,_,rfl,_,rfl,_,rfl,DS,DK,DD,DH,L,.ref TT,c,sz,kbs,us,ys,dl,hl9,key,f,least,st,rfl,s13 _ _ hS0,h5,h61,h305,s13 _ _ hK00,(Paired.Fb hpr fun _ _ q=>I_.mono (s2.trans s3) q),hkbs,s13 _ _ hd0,s13 _ _ hh,⟨TT,rfl,s13 _ _ hTT⟩,s13 _ _ hL,Al s13 hst,UJ,fun H4 s4=>?_⟩
  have s14:=s13.trans s4
  refine ⟨_,rfl,_,rfl,_,rfl,_,rfl,W0,_,_,_,rfl,rfl,.inl (.inl (s14 _ _ hW0)),Af (j:=1) rfl,DK,us,_,_,rfl,rfl,.inl (.inl (s14 _ _ hK00)),Af hy1,_,rfl,DS,DP,T1,A,BZ c sz,pz,kl.1.bd,key,l,ts,(kl.1.bd,i),rfl,(by rw [B_]; exact s14 _ _ hS0),hplc,s14 _ _ hP0,h4,hpz,s14 _ _ ht1,s14 _ _ hA,Al s14 hts,hln4.1,(fun x hx=>(hln4.2.1 x hx).r),fun D5 H5 hD5 s5 hl5=>?_⟩
  have hget:(l.map (KC pz kl.1.bd (kl.1.bd,i)))[j]? = some (.int (p:Nat)):=by
   rw [List.getElem?_map,hln]
   show some (KC pz kl.1.bd (kl.1.bd,i) ln)=_
   unfold KC
   have h1:=(hrk ln.r).1
   have h2:=(hrk ln.r).2
   rw [if_pos ⟨rfl,hlo,hhi,hs0,by rw [← h1]; exact hs1⟩]
   congr 2
   rw [hp,h2]
   show _+(i:Int)+_=_
   omega
  refine ⟨_,rfl,_,rfl,Cv ⟨_,rfl,_,rfl,W0,_,_,_,rfl,rfl,.inl (.inl (s5 _ _ (s14 _ _ hW0))),Af (j:=2) rfl,D5,_,_,_,rfl,rfl,.inl (.inl hl5),Af hget,_,rfl,rfl,?_⟩⟩
  rw [decide_eq_true rfl]
  exact q _ (s14.trans s5)
noncomputable def P0 (K:PySem.W.Frag):Sp:=fun vs H Q _=>∃ (a:Addr) (ns:List Int),vs=[.ref a]/\CP K H a (ns.map V.int)/\ns.length<=63/\∀ H',Q (.bl true) H'
theorem PJ {l:List Nat} (h:1<=l.length) (hs:∀ s∈l,1<=s):1<=l.sum:=by
 cases l with
 | nil=>simp at h
 | cons a l =>
  have:=hs a (List.mem_cons_self ..)
  rw [List.sum_cons]
  omega
theorem K6 {a b:Nat} (h:∀ p,a.testBit p=true ↔ b.testBit p=true):a=b:=Nat.eq_of_testBit_eq fun p=>Bool.eq_iff_iff.mpr (h p)
theorem Uq {sz:List Nat} {rk:List (Str × Nat × Int)} {kbs:List Kb} {ls:List (List Ln)} {cl:List Nat} {D m p:Nat} (hcl:∀ k,k∈cl ↔ ∃ z,kbs[k]? = some z/\z.w = "stop" /\ D.testBit k=true):(YJ sz rk kbs ls cl m).testBit p=true ↔ ∃ q,Lz sz rk kbs ls D m p q:=by
 rw [Wl]
 constructor
 ·rintro ⟨k,hk,hb⟩
  obtain ⟨z,hz,hw,hd⟩:=(hcl k).mp hk
  unfold Wa at hb
  obtain ⟨n,hn,hbn⟩:=(LC _ _).mp hb
  obtain ⟨ln,hln,rfl⟩:=List.mem_map.mp hn
  obtain ⟨j,hj⟩:=List.mem_iff_getElem?.mp hln
  exact ⟨(k,j),z,ln,hz,hw,hd,hj,hbn⟩
 ·rintro ⟨⟨k,j⟩,z,ln,hz,hw,hd,hj,hbn⟩
  refine ⟨k,(hcl k).mpr ⟨z,hz,hw,hd⟩,?_⟩
  unfold Wa
  exact (LC _ _).mpr ⟨_,List.mem_map_of_mem (List.mem_of_getElem? hj),hbn⟩
theorem T_ (l:List Nat) (a:Nat):Cy (nV l) (some (a:Nat)) none=nV (l.drop (min a l.length)):=by
 unfold Cy nV
 rw [HT.Hy,HT.Jl,List.length_map,← List.map_drop]
 rw [List.take_of_length_le (by rw [List.length_map,List.length_drop]; omega)]
theorem Ug (l:List Nat):Cy (nV l) none (some 1)=nV (l.take (min 1 l.length)):=by
 unfold Cy nV
 have e:HT.D_ (List.map (fun i:Nat=>V.int (i:Nat)) l).length (List.map (fun i:Nat=>V.int (i:Nat)) l).length (some (1:Int))=min 1 l.length:=by
  rw [List.length_map]
  exact HT.Hy _ _ 1
 rw [HT.Jl]
 show List.take (HT.D_ _ _ _ - 0) _=_
 rw [e,List.drop_zero,← List.map_take,Nat.sub_zero]
theorem bc (c:Nat->Str) (pz:List Nat) (wi:Nat->Int):(HJ c pz wi).map (fun r=>r.2.1)=pz:=by
 refine List.ext_getElem? fun i=>?_
 rw [List.getElem?_map]
 cases h:pz[i]? with
 | none =>
  have hl:(HJ c pz wi).length<=i:=by rw [Ga]; exact List.getElem?_eq_none_iff.mp h
  rw [List.getElem?_eq_none hl]
  rfl
 | some z =>
  cases h2:(HJ c pz wi)[i]? with
  | none =>
   have:=List.getElem?_eq_none_iff.mp h2
   rw [Ga] at this
   have:=(List.getElem?_eq_some_iff.mp h).1
   omega
  | some r =>
   obtain ⟨z',hz',rfl⟩:=FW h2
   rw [h] at hz'
   cases hz'
   rfl
theorem Fd:Av ["_law_script","_law_world_here","_law_organ","_law_one","_law_two","_law_drawn_here","_law_held_here","_law_sound","_law_some","_law_any_pipe","_law_pipe","_law_found","_law_good"] ["_law_script"] (Ag KH):=Bl
set_option maxHeartbeats 0 in
theorem XH {f:Addr} {fd:FuncData} (F:Cu K "law" "law" KH f fd) (N:jg K mg C aD) (T:Txt K w.params mg C aN aK aB aP aM) (F0:PQ K aB aP aM):Aq P w K mg base Be 11 f fd ["_law_script"] (P0 K):=by
 have GWd:Aq P w K mg base Be 6 aD.fWd aD.dWd ["_law_script"] (ZP K aB aP aM):=Ye N T
 have GOi:Aq P w K mg base Be 9 aD.fOi aD.dOi ["self","rows"] (Yq K aB aP aM C):=aH N T
 have GDr:Aq P w K mg base Be 2 aD.fDr aD.dDr ["_law_cell","_law_count"] aR:=ZG N T
 have GHd:Aq P w K mg base Be 2 aD.fHd aD.dHd ["_law_cell","_law_count"] Zg:=cG N T
 have GBi:Aq P w K mg base Be 1 aD.fBi aD.dBi ["_law_numbers"] cV:=Y4 N T
 have GMx:Aq P w K mg base Be 1 aD.fMx aD.dMx ["_law_cell","_law_k"] J_:=Hs N T
 have GSo:Aq P w K mg base Be 7 aD.fSo aD.dSo ["organ","knobs","held"] (cH C):=ZM N T
 have GWs:Aq P w K mg base Be 8 aD.fWs aD.dWs ["organ","knobs","held","pipe"] (cM C):=ZC N T
 have GSw:Aq P w K mg base Be 5 aD.fSw aD.dSw ["_law_world_here","_law_drawn_here","_law_held_here","_law_pipe","_law_found"] au:=YX N T
 refine F.ok Fd (fun vs H Q E h=>?_) (fun cdv A outer s H vs Q E hr h=>?_)
 ·obtain ⟨a,ns,rfl,_⟩:=h
  rfl
 ·obtain ⟨a,ns,rfl,hS,hlen,q⟩:=h
  have hrWd:BR 6 _:=hr.mono (by decide)
  have hrOi:BR 9 _:=hr.mono (by decide)
  have hrDr:BR 2 _:=hr.mono (by decide)
  have hrHd:BR 2 _:=hr.mono (by decide)
  have hrBi:BR 1 _:=hr.mono (by decide)
  have hrMx:BR 1 _:=hr.mono (by decide)
  have hrSo:BR 7 _:=hr.mono (by decide)
  have hrWs:BR 8 _:=hr.mono (by decide)
  have hrSw:BR 5 _:=hr.mono (by decide)
  refine ⟨_,(Ae (Az (i:=1) Fd.nd rfl (Or.inl rfl) (Ai GWd hrWd rfl N.FWd.2.2 N.FWd.1.kp N.FWd.2.1 .nil Ao (Aa (pv 0) Ac)))
   (Ae (Az (i:=2) Fd.nd rfl (Or.inl rfl) (Vk N.FOi.2.2 GOi hr rfl T.mC N.FOi.2.1 .nil Ao (Aa (Am (BV (K:=K) rfl) (pv 1) Ab (fun _ _=>rfl)) Ac)))
   (Ae (DN PassesOwn.never rfl (Vf rfl T.zip (Aa (Lg (pv 0) (Ca Ab) (Ca Ab) Ab) (Aa (Lg (pv 0) (Ca Ab) (Ca Ab) Ab) Ac))) (Fz rfl (Bf (Bd (i:=3) Fd.nd rfl (Or.inl rfl)) (Bf (Bd (i:=4) Fd.nd rfl (Or.inl rfl)) Ea))) (Ae (Az (i:=5) Fd.nd rfl (Or.inl rfl) (Ai GDr hrDr rfl N.FDr.2.2 N.FDr.1.kp N.FDr.2.1 .nil Ao (Aa (pv 3) (Aa (BL BX rfl T.len PySem.boot_len (Aa (Am (BV (K:=K) rfl) (pv 1) Ab (fun _ _=>rfl)) Ac)) Ac))))
   (Ae (Az (i:=6) Fd.nd rfl (Or.inl rfl) (Ai GHd hrHd rfl N.FHd.2.2 N.FHd.1.kp N.FHd.2.1 .nil Ao (Aa (pv 4) (Aa (BL (GC rfl) rfl T.sum PyProof.Rows.boot_sum (Aa (Am (BV (K:=K) rfl) (pv 1) Ab (fun _ _=>rfl)) Ac)) Ac))))
   (Ae (Az (i:=7) Fd.nd rfl (Or.inr rfl) (Ai GSo hrSo rfl N.FSo.2.2 N.FSo.1.kp N.FSo.2.1 .nil Ao (Aa (pv 2) (Aa (Ai GBi hrBi rfl N.FBi.2.2 N.FBi.1.kp N.FBi.2.1 .nil Ao (Aa (pv 5) Ac)) (Aa (Ai GBi hrBi rfl N.FBi.2.2 N.FBi.1.kp N.FBi.2.1 .nil Ao (Aa (pv 6) Ac)) Ac)))))
   (Ae (Ho (i:=8) Fd.nd rfl rfl rfl (Ba (osc:=Ag KH) (N:=["_law_script","_law_world_here","_law_organ","_law_one","_law_two","_law_drawn_here","_law_held_here","_law_sound","_law_some","_law_any_pipe","_law_pipe","_law_found","_law_good"]) rfl rfl (by decide +kernel)) (Cm rfl T.range (Aa (BL (GC rfl) rfl T.sum PyProof.Rows.boot_sum (Aa (Am (BV (K:=K) rfl) (pv 1) Ab (fun _ _=>rfl)) Ac)) Ac)) (fun _ _ _ _=>(Gk (BW Du (Ar LQ (Ar Iz (pv 8) (pv 0)) Ab) Ab (Bc _)))) (fun _ _ _ _=>(pv 0)))
   (Ae (Az (i:=9) Fd.nd rfl (Or.inl rfl) (Ar Bp (Ai GMx hrMx rfl N.FMx.2.2 N.FMx.1.kp N.FMx.2.1 .nil Ao (Aa (pv 3) (Aa Ab Ac))) (BL (GC rfl) rfl T.sum PyProof.Rows.boot_sum (Aa (Am (BV (K:=K) rfl) (pv 1) Ab (fun _ _=>rfl)) Ac))))
   (Ah (DN PassesOwn.never rfl (Bh (Ar Rr (Dd Ey (Dd Ey (pv 8) (Ca (Ar Bp (Ar Cq (pv 4) Ab) (Ar Bm (BL BX rfl T.len PySem.boot_len (Aa (pv 8) Ac)) Ab))) Ec) Ec (Ca Ab)) (Df (Aa (pv 9) Ac)))) (Bd (i:=10) Fd.nd rfl (Or.inl rfl)) (Ae (Az (i:=11) Fd.nd rfl (Or.inl rfl) (Ai GWs hrWs rfl N.FWs.2.2 N.FWs.1.kp N.FWs.2.1 .nil Ao (Aa (pv 2) (Aa (Ai GBi hrBi rfl N.FBi.2.2 N.FBi.1.kp N.FBi.2.1 .nil Ao (Aa (pv 5) Ac)) (Aa (Ai GBi hrBi rfl N.FBi.2.2 N.FBi.1.kp N.FBi.2.1 .nil Ao (Aa (pv 6) Ac)) (Aa (pv 10) Ac))))))
   (Ae (Br (BW E_ (Dq Lr (pv 11) Ge (Bc _)) (Dq Du (Ar LQ (Ar Iz (pv 7) (pv 10)) Ab) Ab (Bc _)) (Bc _)) (Ah (Aw Es)) Bb)
   (Ah (Br (BW Lr (pv 11) Ge (Bc _)) (Ae (Az (i:=12) Fd.nd rfl (Or.inl rfl) (Ai GSw hrSw rfl N.FSw.2.2 N.FSw.1.kp N.FSw.2.1 .nil Ao (Aa (pv 1) (Aa (pv 5) (Aa (pv 6) (Aa (pv 10) (Aa (pv 11) Ac)))))))
   (Ae (Br (CJ (CV (pv 12))) (Ah (Aw Es)) Bb)
   (Ae (C_ (En PySem.F.plainAttrs_list PySem.F.slot_list_append PySem.F.type_list_append CG (Am (Ak (K:=K) rfl) (Am (Ak (K:=K) rfl) (pv 11) Ab (fun _ _=>rfl)) Ab (fun _ _=>rfl)) (Aa (CQ (Aa Ab (Aa Ab Ac))) Ac)))
   (Ae (Az (i:=11) Fd.nd rfl (Or.inl rfl) (Ai GWs hrWs rfl N.FWs.2.2 N.FWs.1.kp N.FWs.2.1 .nil Ao (Aa (pv 2) (Aa (Ai GBi hrBi rfl N.FBi.2.2 N.FBi.1.kp N.FBi.2.1 .nil Ao (Aa (pv 5) Ac)) (Aa (Ai GBi hrBi rfl N.FBi.2.2 N.FBi.1.kp N.FBi.2.1 .nil Ao (Aa (pv 6) Ac)) (Aa (pv 10) Ac))))))
   (Ae (Az (i:=12) Fd.nd rfl (Or.inl rfl) (Ai GSw hrSw rfl N.FSw.2.2 N.FSw.1.kp N.FSw.2.1 .nil Ao (Aa (pv 1) (Aa (pv 5) (Aa (pv 6) (Aa (pv 10) (Aa (pv 11) Ac)))))))
   (Ah (Br (CJ (CV (pv 12))) (Ah (Aw Es)) Bb))))))) Bb))))))))))))
   (Ah (Aw Es))))),?_⟩
  refine ⟨_,rfl,a,ns,rfl,hS,hlen,F0,fun W DS DP DK DR c2 sz pz kls us rows vs9 H9 s09 hW OW=>?_⟩
  obtain ⟨l9,lp9,⟨w1,w2,w3,w4,w5,w6⟩,k9,kp9,hkls,hkl,hst,hl9,hv9,B,hrl⟩:=OW
  have hbl:(BZ (DG c2) sz).length=sz.length:=GP _ sz
  have hbz:(BZ (DG c2) sz).map (·.2)=sz:=B_ _ sz
  have ndb:((BZ (DG c2) sz).map (·.1)).Nodup:=by
   refine HF fun i j x hi hj=>?_
   rw [List.getElem?_map] at hi hj
   obtain ⟨b1,hb1,e1⟩:=Option.map_eq_some_iff.mp hi
   obtain ⟨b2,hb2,e2⟩:=Option.map_eq_some_iff.mp hj
   obtain ⟨_,_,rfl⟩:=GJ hb1
   obtain ⟨_,_,rfl⟩:=GJ hb2
   exact Ju (e1.trans e2.symm)
  have ndr:((HJ (DG c2) pz (Jx c2)).map (·.1)).Nodup:=by
   refine HF fun i j x hi hj=>?_
   rw [List.getElem?_map] at hi hj
   obtain ⟨b1,hb1,e1⟩:=Option.map_eq_some_iff.mp hi
   obtain ⟨b2,hb2,e2⟩:=Option.map_eq_some_iff.mp hj
   obtain ⟨_,_,rfl⟩:=FW hb1
   obtain ⟨_,_,rfl⟩:=FW hb2
   have:=Ju (e1.trans e2.symm)
   omega
  have ndk:((Bw (DG c2) (kls.map (·.1))).map (·.nm)).Nodup:=by
   refine HF fun i j x hi hj=>?_
   rw [List.getElem?_map] at hi hj
   obtain ⟨b1,hb1,e1⟩:=Option.map_eq_some_iff.mp hi
   obtain ⟨b2,hb2,e2⟩:=Option.map_eq_some_iff.mp hj
   obtain ⟨_,_,rfl⟩:=Do hb1
   obtain ⟨_,_,rfl⟩:=Do hb2
   rw [P_] at e1 e2
   have:=Ju (e1.trans e2.symm)
   omega
  obtain ⟨R9,O9,eL⟩:=B.fin hv9 (by omega) (by omega) (fun b hb=>by
   obtain ⟨j,hj⟩:=List.mem_iff_getElem?.mp hb
   obtain ⟨z,hz,rfl⟩:=GJ hj
   exact (w3 z (List.mem_of_getElem? hz)).2) (by rw [Ga]; omega) (fun r hr'=>by
   obtain ⟨j,hj⟩:=List.mem_iff_getElem?.mp hr'
   obtain ⟨z,hz,rfl⟩:=FW hj
   exact (w6 z (List.mem_of_getElem? hz)).2) (by rw [GQ,List.length_map]; omega) ndb ndr ndk hrl
  refine ⟨_,rfl,W,_,_,_,rfl,rfl,.inl (.inl hW),Af (j:=3) rfl,?_⟩
  intro x dx nx ndx nex
  have sx:An H9 (upd (upd H9 dx (.own x)) x (.ins C dx [])):=fun b o e=>by
   rw [BP (A_ e nx),BP (A_ e ndx)]
   exact e
  refine ⟨x,dx,DR,vs9,UG H9,BZ (DG c2) sz,HJ (DG c2) pz (Jx c2),Bw (DG c2) (kls.map (·.1)),rfl,Aj,sx _ _ hl9,R9.mono sx,O9,fun H10 OA SXh=>⟨rfl,?_⟩⟩
  rw [eL] at OA
  have s910:An H9 H10:=fun b o e=>SXh b o (sx b o e) (A_ e nx)
  have s010:=s09.trans s910
  have l10:=s910 _ _ l9
  have lp10:=s910 _ _ lp9
  have k10:=s910 _ _ k9
  have W10:=s910 _ _ hW
  have kp10:Paired (fun z y=>FJ DK H10 z y) kls us:=Paired.Fb kp9 fun _ _ z=>z.mono s910
  clear SXh sx nx ndx nex R9 O9 hv9 hl9 eL
  have hul:=kp10.length
  have hkbs:Lx sz.length (kls.map (·.1)):=⟨hkls.ok,hkls.room,by rw [List.length_map]; omega⟩
  have h305:=Ei OA.o
  rw [hbz] at h305
  have hsum:1<=sz.sum:=PJ (by omega) fun s hs=>(w3 s hs).1
  have hLs:Z9 (HJ (DG c2) pz (Jx c2)) (kls.map (·.2)):=fun l hl=>by
   obtain ⟨z,hz,rfl⟩:=List.mem_map.mp hl
   have hlw:=hkls.ln z hz
   have hb:=Kb.Yx (hkls.ok z.1 (List.mem_map_of_mem hz))
   have hsa:sz.getD z.1.bd 0<=61:=by
    rw [List.getD_eq_getElem?_getD,List.getElem?_eq_getElem hb]
    exact (w3 _ (List.getElem_mem hb)).2
   refine ⟨by have:=hlw.1; omega,fun ln hln=>?_⟩
   have g:=hlw.2.1 ln hln
   have g4:=g.hi
   exact ⟨by rw [Ga]; exact g.r,g.lo,g.le,by omega,g.s1,g.s2⟩
  refine ⟨_,rfl,_,rfl,_,rfl,3,rfl,by decide,a,_,rfl,s010.seq hS,fun p13 hp13 hl13=>?_⟩
  have t13:=Ax (o:=HO.lst (stepV (ns.map V.int) (some 4) (some 64) 3)) hp13
  have u13:upd H10 p13 (HO.lst (stepV (ns.map V.int) (some 4) (some 64) 3)) p13=_:=Aj
  generalize upd H10 p13 (HO.lst (stepV (ns.map V.int) (some 4) (some 64) 3))=H13 at t13 u13 ⊢
  refine ⟨_,rfl,_,rfl,_,rfl,3,rfl,by decide,a,_,rfl,(s010.trans t13).seq hS,fun p14 hp14 hl14=>?_⟩
  have t14:=Ax (o:=HO.lst (stepV (ns.map V.int) (some 5) (some 65) 3)) hp14
  have u14:upd H13 p14 (HO.lst (stepV (ns.map V.int) (some 5) (some 65) 3)) p14=_:=Aj
  generalize upd H13 p14 (HO.lst (stepV (ns.map V.int) (some 5) (some 65) 3))=H15 at t14 u14 ⊢
  have int1:=JF (ns:=ns) (lo:=some 4) (hi:=some 64) (k:=3)
  have int2:=JF (ns:=ns) (lo:=some 5) (hi:=some 65) (k:=3)
  have u13':=t14 _ _ u13
  generalize stepV (ns.map V.int) (some 4) (some 64) 3=xs at u13' int1
  generalize stepV (ns.map V.int) (some 5) (some 65) 3=ys at u14 int2
  have s1015:=t13.trans t14
  have OA15:=OA.mono s1015
  have l15:=s1015 _ _ l10
  have lp15:=s1015 _ _ lp10
  have W15:=s1015 _ _ W10
  have kn15:Paired (fun z y=>FJ DK H15 z y) kls us:=Paired.Fb kp10 fun _ _ z=>z.mono s1015
  have k15:=s1015 _ _ k10
  have hS1:CP K H15 p13 xs:=.inl (.inl u13')
  have hS2:CP K H15 p14 ys:=.inl (.inl u14)
  have h61:∀ s∈sz,s<=61:=fun s hs=>(w3 s hs).2
  have hrk:∀ r,JT (HJ (DG c2) pz (Jx c2)) r=pz.getD r 0/\QM (HJ (DG c2) pz (Jx c2)) r=(pz.take r).sum:=fun r=>by
   unfold JT QM
   rw [List.map_take,bc]
   exact ⟨rfl,rfl⟩
  refine ⟨p13,p14,rfl,⟨_,hS1⟩,⟨_,hS2⟩,R0 (K:=K) (a:=p13) (b:=p14) (xs:=xs) (ys:=ys) (fun i σ H16=>An H15 H16/\∃ v3 v4 v5 v6 v7 v8 v9 v10 v11 v12,σ=[some (.ref a),some (.ref W),some (.ref x),v3,v4,v5,v6,v7,v8,v9,v10,v11,v12]) ⟨An.refl _,_,_,_,_,_,_,_,_,_,_,rfl⟩ (fun i σ H16 _ h=>⟨h.1.seq hS1,h.1.seq hS2⟩) ?_ ?_⟩
  rotate_left
  ·intros
   exact q _
  rintro i y1 y2 σ H16 T0 hy1 hy2 ⟨s16,v3,v4,v5,v6,v7,v8,v9,v10,v11,v12,rfl⟩ hT
  obtain ⟨o1,rfl⟩:=int1 _ (List.mem_of_getElem? hy1)
  obtain ⟨o2,rfl⟩:=int2 _ (List.mem_of_getElem? hy2)
  have tT:=Ax (o:=HO.tup [V.int o1,V.int o2]) hT
  refine ⟨T0,_,rfl,.inl (.inl Aj),rfl,_,_,rfl,_,_,rfl,rfl,?_⟩
  generalize upd H16 T0 (HO.tup [V.int o1,V.int o2])=H17 at tT ⊢
  have s17:=s16.trans tT
  clear s16 tT hT
  refine ⟨_,rfl,_,rfl,W,_,_,_,rfl,rfl,.inl (.inl (s17 _ _ W15)),Af (j:=2) rfl,DK,_,rfl,.inl (.inl (.inl (s17 _ _ k15))),o1,us.length,rfl,by omega,fun DD dl H18 hDD s18 hd18 hdb hdl=>?_⟩
  have s1518:=s17.trans s18
  have szi:∀ l:List Nat,(l.map fun n:Nat=>V.int (n:Nat))=(l.map fun n:Nat=>(n:Int)).map V.int:=fun l=>by rw [List.map_map]; rfl
  have bnd:∀ n∈sz.map (fun n:Nat=>(n:Int)),0<=n/\n<=100000:=fun n hn=>by
   obtain ⟨m,hm,rfl⟩:=List.mem_map.mp hn
   have:=(w3 m hm).2
   omega
  have bnp:∀ n∈pz.map (fun n:Nat=>(n:Int)),0<=n/\n<=100000:=fun n hn=>by
   obtain ⟨m,hm,rfl⟩:=List.mem_map.mp hn
   have:=(w6 m hm).2
   omega
  have lS:∀ {H':Hp},An H15 H'->CP K H' DS ((sz.map fun n:Nat=>(n:Int)).map V.int):=fun s'=>by rw [← szi]; exact .inl (.inl (s' _ _ l15))
  have lP:∀ {H':Hp},An H15 H'->CP K H' DP ((pz.map fun n:Nat=>(n:Int)).map V.int):=fun s'=>by rw [← szi]; exact .inl (.inl (s' _ _ lp15))
  refine ⟨_,rfl,_,rfl,W,_,_,_,rfl,rfl,.inl (.inl (s1518 _ _ W15)),Af (j:=0) rfl,DS,_,rfl,lS s1518,bnd,by simp; omega,?_⟩
  rw [Gi]
  refine ⟨o2,sz.sum,rfl,hsum,fun DH hl H19 hDH s19 hh19 hhb hhl=>?_⟩
  have s1519:=s1518.trans s19
  have hdb':∀ k∈dl,k<1200:=fun k hk=>by have:=hdb k hk; omega
  have hhb':∀ k∈hl,k<1200:=fun k hk=>by have:=hhb k hk; omega
  have hdl5:dl.length<=500:=by omega
  have hhl5:hl.length<=500:=by omega
  have d19:=s19 _ _ hd18
  have hn12:Wd.mk hl<2 ^ 1200:=Wd.aF hhb'
  have hnt:∀ i,(Wd.mk hl).testBit i=true->i<sz.sum:=fun i hi=>by
   rw [Wd.JK,decide_eq_true_eq] at hi
   exact hhb i hi
  refine ⟨_,rfl,_,rfl,DD,dl,rfl,d19,hdl5,hdb',_,rfl,DH,hl,rfl,hh19,hhl5,hhb',x,DG c2,sz,HJ (DG c2) pz (Jx c2),kls.map (·.1),kls.map (·.2),Wd.mk dl,Wd.mk hl,rfl,OA15.mono s1519,hkbs,hLs,hn12,hnt,fun cl m H20 s20 hcl hm=>?_⟩
  have s1520:=s1519.trans s20
  obtain ⟨sn,esn⟩:∃ sn,YJ sz (HJ (DG c2) pz (Jx c2)) (kls.map (·.1)) (kls.map (·.2)) cl m=sn:=⟨_,rfl⟩
  have hsn:∀ p,sn.testBit p=true ↔ ∃ q,Lz sz (HJ (DG c2) pz (Jx c2)) (kls.map (·.1)) (kls.map (·.2)) (Wd.mk dl) m p q:=fun p=>by
   rw [← esn]
   exact Uq hcl
  rw [esn]
  have hps:pz.sum<=388:=by
   have:∀ {l:List Nat},(∀ s∈l,s<=97)->l.sum<=97 * l.length:=by
    intro l
    induction l with
    | nil=>intro _; simp
    | cons a l ih =>
     intro h
     have h1:=h a (List.mem_cons_self ..)
     have h2:=ih fun z hz=>h z (List.mem_cons_of_mem _ hz)
     rw [List.sum_cons,List.length_cons]
     omega
   have:=this fun s hs=>(w6 s hs).2
   omega
  have hp1:1<=pz.sum:=PJ (by omega) fun s hs=>(w6 s hs).1
  refine ⟨_,rfl,W,_,_,_,rfl,rfl,.inl (.inl (s1520 _ _ W15)),Af (j:=1) rfl,DP,_,rfl,lP s1520,bnp,by simp; omega,?_⟩
  rw [Gi]
  refine ⟨_,rfl,by omega,by omega,Dv (lo:=0) (n:=pz.sum) (fun v=>sn.testBit v.toNat) (fun v=>.int v) (BJ (by omega)) (fun i hi H' hs R k=>?_) (fun i hi _ H' hs R k=>⟨_,rfl,k H' (An.refl H')⟩) (fun SL H21 hSL s21 hl21=>?_)⟩
  ·refine ⟨_,rfl,_,rfl,_,_,rfl,rfl,(by show (0:Int)<=0+(i:Nat); omega),_,_,rfl,rfl,rfl,_,rfl,?_⟩
   dsimp only
   rw [Ob]
   exact k H' (An.refl H')
  obtain ⟨sl,esl⟩:∃ sl:List Nat,((((List.range pz.sum).map fun (i:Nat)=>(0:Int)+(i:Int)).filter fun v=>sn.testBit v.toNat).map fun v=>V.int v)=nV sl:=by
   refine ⟨(List.range pz.sum).filter fun i=>sn.testBit ((0:Int)+(i:Int)).toNat,?_⟩
   unfold nV
   rw [List.filter_map,List.map_map]
   refine List.map_congr_left fun i _=>?_
   show V.int (0+(i:Int))=V.int ((i:Nat):Int)
   rw [Int.zero_add]
  rw [esl] at hl21
  have lsl:sl.length<=388:=by
   have h1:=congrArg List.length esl
   unfold nV at h1
   rw [List.length_map,List.length_map] at h1
   have h2:=List.length_filter_le (fun v:Int=>sn.testBit v.toNat) ((List.range pz.sum).map fun (i:Nat)=>(0:Int)+(i:Int))
   rw [List.length_map,List.length_range] at h2
   omega
  have s1521:=s1520.trans s21
  refine ⟨_,rfl,o1,17,rfl,by decide,by decide,_,rfl,W,_,_,_,rfl,rfl,.inl (.inl (s1521 _ _ W15)),Af (j:=1) rfl,DP,_,rfl,lP s1521,bnp,by simp; omega,?_⟩
  rw [Gi]
  refine ⟨_,_,rfl,rfl,(by show (0:Int)<((pz.sum:Nat):Int); omega),?_⟩
  obtain ⟨an,ean⟩:∃ an:Nat,Bg o1 17 % ((pz.sum:Nat):Int)=(an:Int):=Int.eq_ofNat_of_zero_le (Int.emod_nonneg _ (by omega))
  have enl:(nV sl).length=sl.length:=List.length_map _
  obtain ⟨bn,ebn⟩:∃ bn:Nat,o2 / 5 % ((((nV sl).length:Nat):Int)+1)=(bn:Int):=Int.eq_ofNat_of_zero_le (Int.emod_nonneg _ (by omega))
  refine ⟨_,rfl,_,rfl,_,_,rfl,rfl,⟨by decide,by decide⟩,_,rfl,SL,_,rfl,.inl (.inl (.inl hl21)),_,_,rfl,rfl,_,_,rfl,rfl,(by show (0:Int)<(((nV sl).length:Nat):Int)+1; omega),_,rfl,SL,_,rfl,.inl (.inl hl21),fun p22 hp22=>?_⟩
  obtain ⟨q22,e22⟩:∃ q22,sl.drop (min bn sl.length)=q22:=⟨_,rfl⟩
  have lq:q22.length<=388:=by rw [← e22,List.length_drop]; omega
  generalize h22:upd H21 p22 (HO.lst _)=H22
  have t22:An H21 H22:=h22 ▸ Ax hp22
  have l22:H22 p22=some (.lst (nV q22)):=by
   refine (congrFun h22 p22).symm.trans (Aj.trans ?_)
   show some (HO.lst (Cy (nV sl) (some (o2 / 5 % ((((nV sl).length:Nat):Int)+1))) none))=_
   rw [ebn,T_,e22]
  clear h22
  refine ⟨_,rfl,p22,_,rfl,.inl (.inl l22),fun p23 hp23=>?_⟩
  obtain ⟨q23,e23⟩:∃ q23,q22.take (min 1 q22.length)=q23:=⟨_,rfl⟩
  have lq3:q23.length<=1:=by rw [← e23,List.length_take]; omega
  generalize h23:upd H22 p23 (HO.lst _)=H23
  have t23:An H22 H23:=h23 ▸ Ax hp23
  have l23:H23 p23=some (.lst (nV q23)):=by
   refine (congrFun h23 p23).symm.trans (Aj.trans ?_)
   rw [Ug,e23]
  clear h23
  refine ⟨_,rfl,by show 1<=sizeLine; decide,fun p24 hp24=>?_⟩
  generalize h24:upd H23 p24 (HO.lst _)=H24
  have t24:An H23 H24:=h24 ▸ Ax hp24
  have l24:H24 p24=some (.lst (nV [an])):=by
   refine (congrFun h24 p24).symm.trans (Aj.trans ?_)
   show some (HO.lst [V.int (Bg o1 17 % ((pz.sum:Nat):Int))])=_
   rw [ean]
   rfl
  clear h24
  refine ⟨p23,p24,_,_,rfl,rfl,t24 _ _ l23,l24,DY (by rw [List.length_map,List.length_map]; show q23.length+1<=1000; omega),fun p25 hp25=>?_⟩
  generalize h25':upd H24 p25 (HO.lst _)=H25
  have t25:An H24 H25:=h25' ▸ Ax hp25
  have l25:H25 p25=some (.lst (nV (q23++[an]))):=by
   refine (congrFun h25' p25).symm.trans (Aj.trans ?_)
   rw [SM]
  clear h25'
  have s2025:=s21.trans (t22.trans (t23.trans (t24.trans t25)))
  have s1525:=s1520.trans s2025
  have d25:=s2025 _ _ (s20 _ _ d19)
  have h25:=s2025 _ _ (s20 _ _ hh19)
  have hS25:CP K H25 p25 (nV (q23++[an])):=.inl (.inl l25)
  refine ⟨p25,rfl,⟨_,hS25⟩,Dl (K:=K) (a:=p25) (xs:=nV (q23++[an])) (fun j σ H'=>An H25 H'/\∃ v10 v11 v12,σ=[some (.ref a),some (.ref W),some (.ref x),some (.int o1),some (.int o2),some (.ref DD),some (.ref DH),some (.int (sn:Nat)),some (.ref SL),some (.int (Bg o1 17 % ((pz.sum:Nat):Int))),v10,v11,v12]) ⟨An.refl _,_,_,_,rfl⟩ (fun j σ H' _ h=>h.1.seq hS25) ?_ ?_⟩
  rotate_left
  ·rintro σ H26 ⟨s26,v10,v11,v12,rfl⟩
   exact ⟨s1525.trans s26,_,_,_,_,_,_,_,_,_,_,rfl⟩
  rintro j0 yv σ H26 hy ⟨s26,v10,v11,v12,rfl⟩
  obtain ⟨p,_,rfl⟩:=List.mem_map.mp (List.mem_of_getElem? hy)
  have s1526:=s1525.trans s26
  have msame:∀ {m':Nat},(∀ j,m'.testBit j=true ↔ J2 (DG c2) sz (kls.map (·.1)) (Wd.mk dl) (Wd.mk hl) j)->m'=m:=fun {m'} h=>K6 fun j=>(h j).trans (hm j).symm
  have bitp:decide (V.int (Builtin.bitAnd (((sn:Nat):Int) / 2 ^ ((p:Nat):Int).toNat) 1)=V.int 1)=sn.testBit p:=by rw [Ob,Int.toNat_natCast]
  have TST:∀ {b:Bool},(!decide (V.bl b=V.bl b))=false:=fun {b}=>by rw [decide_eq_true rfl]; rfl
  refine ⟨_,rfl,_,rfl,DD,dl,rfl,s26 _ _ d25,hdl5,hdb',_,rfl,DH,hl,rfl,s26 _ _ h25,hhl5,hhb',_,rfl,x,DG c2,sz,HJ (DG c2) pz (Jx c2),kls.map (·.1),kls.map (·.2),Wd.mk dl,Wd.mk hl,p,rfl,OA15.mono s1526,hkbs,hLs,hn12,hnt,(fun W0 TT L f9 k9 j9 key9 least9 m9 st9 ys9 H27 hL s27 hW0 hTT hL27 hst9 trg9 sho9 hm9 lead9=>?_),(fun m9 H27 s27 hm9 nolead=>?_)⟩
  rotate_left
  ·obtain rfl:=msame hm9
   have hb:sn.testBit p=false:=by
    cases h:sn.testBit p with
    | false=>rfl
    | true =>
     obtain ⟨q',hq'⟩:=(hsn p).mp h
     exact (nolead q' hq').elim
   refine ⟨_,rfl,rfl,_,rfl,_,rfl,_,_,rfl,rfl,(by show (0:Int)<=((p:Nat):Int); omega),_,_,rfl,rfl,rfl,rfl,_,rfl,?_⟩
   dsimp only
   rw [bitp,hb]
   refine Bo ⟨_,rfl,rfl,_,rfl,Bo ?_⟩
   exact ⟨s26.trans s27,_,_,_,rfl⟩
  obtain rfl:=msame hm9
  have hb:sn.testBit p=true:=(hsn p).mpr ⟨_,lead9⟩
  refine ⟨_,rfl,rfl,_,rfl,_,rfl,_,_,rfl,rfl,(by show (0:Int)<=((p:Nat):Int); omega),_,_,rfl,rfl,rfl,rfl,_,rfl,?_⟩
  dsimp only
  rw [bitp,hb]
  refine Bo ⟨_,rfl,rfl,_,rfl,Cv ?_⟩
  have s1527:=s1526.trans s27
  have d27:=s27 _ _ (s26 _ _ d25)
  have h27:=s27 _ _ (s26 _ _ h25)
  refine ⟨_,rfl,_,rfl,_,rfl,_,rfl,_,rfl,W,DS,DP,DK,DR,DD,DH,W0,TT,L,DG c2,sz,pz,HJ (DG c2) pz (Jx c2),kls,us,ys9,dl,hl,p,f9,k9,j9,key9,least9,st9,rfl,s1527 _ _ W15,s1527 _ _ l15,s1527 _ _ lp15,by omega,h61,h305,by omega,w6,s1527 _ _ k15,(Paired.Fb kn15 fun _ _ z=>z.mono s1527),hkls,hkbs,d27,by omega,hdb,h27,hrk,hW0,hTT,hL27,hst9,trg9,sho9,fun H28 s28=>?_⟩
  refine ⟨_,rfl,_,rfl,Bo ?_⟩
  have hyl9:=hst9.length
  have hlen9:=trg9.len
  refine ⟨_,rfl,W0,_,_,_,rfl,rfl,.inl (.inl (s28 _ _ hW0)),Af (j:=0) rfl,TT,_,_,_,rfl,rfl,.inl (.inl (s28 _ _ hTT)),Af (j:=1) rfl,.inl ⟨rfl,_,.inl (.inl (s28 _ _ hL27))⟩,by show 2<=sizeLine; decide,fun P1 hP1=>?_⟩
  have t29:=Ax (o:=HO.tup [V.int 0,V.int 0]) hP1
  generalize upd H28 P1 (HO.tup [V.int 0,V.int 0])=H29 at t29 ⊢
  refine ⟨L,ys9,_,rfl,rfl,t29 _ _ (s28 _ _ hL27),BJ (by omega),?_⟩
  have s2630:An H26 (upd H29 L (HO.lst (ys9++[V.ref P1]))):=fun b o e=>by
   rw [BP (A_ e hL)]
   exact t29 _ _ (s28 _ _ (s27 _ _ e))
  generalize upd H29 L (HO.lst (ys9++[V.ref P1]))=H30 at s2630 ⊢
  have s1530:=s1526.trans s2630
  refine ⟨_,rfl,_,rfl,DD,dl,rfl,s2630 _ _ (s26 _ _ d25),hdl5,hdb',_,rfl,DH,hl,rfl,s2630 _ _ (s26 _ _ h25),hhl5,hhb',_,rfl,x,DG c2,sz,HJ (DG c2) pz (Jx c2),kls.map (·.1),kls.map (·.2),Wd.mk dl,Wd.mk hl,p,rfl,OA15.mono s1530,hkbs,hLs,hn12,hnt,(fun W1 TT1 L1 f8 k8 j8 key8 least8 m8 st8 ys8 H31 hL1 s31 hW1 hTT1 hL31 hst8 trg8 sho8 hm8 lead8=>?_),(fun m8 H31 s31 hm8 nolead=>?_)⟩
  rotate_left
  ·obtain rfl:=msame hm8
   exact (nolead _ lead9).elim
  have s1531:=s1530.trans s31
  have d31:=s31 _ _ (s2630 _ _ (s26 _ _ d25))
  have h31:=s31 _ _ (s2630 _ _ (s26 _ _ h25))
  refine ⟨_,rfl,_,rfl,_,rfl,_,rfl,_,rfl,W,DS,DP,DK,DR,DD,DH,W1,TT1,L1,DG c2,sz,pz,HJ (DG c2) pz (Jx c2),kls,us,ys8,dl,hl,p,f8,k8,j8,key8,least8,st8,rfl,s1531 _ _ W15,s1531 _ _ l15,s1531 _ _ lp15,by omega,h61,h305,by omega,w6,s1531 _ _ k15,(Paired.Fb kn15 fun _ _ z=>z.mono s1531),hkls,hkbs,d31,by omega,hdb,h31,hrk,hW1,hTT1,hL31,hst8,trg8,sho8,fun H32 s32=>?_⟩
  refine ⟨_,rfl,_,rfl,Bo ?_⟩
  exact ⟨s26.trans (s2630.trans (s31.trans s32)),_,_,_,rfl⟩
end
end K23
end PartK23a
section PartK23z
set_option maxHeartbeats 4000000
theorem UL1 {α:Type} {us:List α} (h:us.length=1):∃ a,us=[a]:=match us,h with | [a],_=>⟨a,rfl⟩
theorem UL2 {α:Type} {us:List α} (h:us.length=2):∃ a b,us=[a,b]:=match us,h with | [a,b],_=>⟨a,b,rfl⟩
theorem UL3 {α:Type} {us:List α} (h:us.length=3):∃ a b c,us=[a,b,c]:=match us,h with | [a,b,c],_=>⟨a,b,c,rfl⟩
theorem UL4 {α:Type} {us:List α} (h:us.length=4):∃ a b c d,us=[a,b,c,d]:=match us,h with | [a,b,c,d],_=>⟨a,b,c,d,rfl⟩
theorem UL5 {α:Type} {us:List α} (h:us.length=5):∃ a b c d e,us=[a,b,c,d,e]:=match us,h with | [a,b,c,d,e],_=>⟨a,b,c,d,e,rfl⟩
namespace K23
open PySem L2 Og
section
variable {K:W.Frag}
noncomputable abbrev DA (K:W.Frag) (x:Str) (st:Stmt) (f:Addr):Prop:=W.nsIn K mainGlobals x=some (some (.ref f))/\∃ fd,Cu K x x st f fd
noncomputable abbrev MA (K:W.Frag) (C:Addr) (x q:Str) (st:Stmt) (f:Addr):Prop:=W.findIn K (.ref C) x=some (some (.ref f))/\W.isFn K (.ref f)=true/\∃ fd,Cu K x q st f fd
theorem Gm {x q:Str} {st:Stmt} {f:Addr} {fd:FuncData} {ps:List Str} (F:Cu K x q st f fd) (hl:ps.length=1:=by rfl) (h:∀ (kV doc pm:Value) (an:Option Addr) (cdv ct:Value) (u:Value),bindArgs (W.fnOf x q (Cr st) (Cd st) (Ag st) .none kV doc pm an cdv ct) ⟨[u],[]⟩=pure (ps.zip [u]):=by intros; rfl):Binds K fd ps []:=F.binds fun kV doc pm an cdv ct us hu=>match us,hu.trans hl with | [u],_=>h kV doc pm an cdv ct u
theorem Et {x q:Str} {st:Stmt} {f:Addr} {fd:FuncData} {ps:List Str} (F:Cu K x q st f fd) (hl:ps.length=2:=by rfl) (h:∀ (kV doc pm:Value) (an:Option Addr) (cdv ct:Value) (u v:Value),bindArgs (W.fnOf x q (Cr st) (Cd st) (Ag st) .none kV doc pm an cdv ct) ⟨[u,v],[]⟩=pure (ps.zip [u,v]):=by intros; rfl):Binds K fd ps []:=F.binds fun kV doc pm an cdv ct us hu=>match us,hu.trans hl with | [u,v],_=>h kV doc pm an cdv ct u v
theorem Ex {x q:Str} {st:Stmt} {f:Addr} {fd:FuncData} {ps:List Str} (F:Cu K x q st f fd) (hl:ps.length=3:=by rfl) (h:∀ (kV doc pm:Value) (an:Option Addr) (cdv ct:Value) (u v a:Value),bindArgs (W.fnOf x q (Cr st) (Cd st) (Ag st) .none kV doc pm an cdv ct) ⟨[u,v,a],[]⟩=pure (ps.zip [u,v,a]):=by intros; rfl):Binds K fd ps []:=F.binds fun kV doc pm an cdv ct us hu=>match us,hu.trans hl with | [u,v,a],_=>h kV doc pm an cdv ct u v a
theorem Rj {x q:Str} {st:Stmt} {f:Addr} {fd:FuncData} {ps:List Str} (F:Cu K x q st f fd) (hl:ps.length=4:=by rfl) (h:∀ (kV doc pm:Value) (an:Option Addr) (cdv ct:Value) (u v a b:Value),bindArgs (W.fnOf x q (Cr st) (Cd st) (Ag st) .none kV doc pm an cdv ct) ⟨[u,v,a,b],[]⟩=pure (ps.zip [u,v,a,b]):=by intros; rfl):Binds K fd ps []:=F.binds fun kV doc pm an cdv ct us hu=>match us,hu.trans hl with | [u,v,a,b],_=>h kV doc pm an cdv ct u v a b
theorem jb {x q:Str} {st:Stmt} {f:Addr} {fd:FuncData} {ps:List Str} (F:Cu K x q st f fd) (hl:ps.length=5:=by rfl) (h:∀ (kV doc pm:Value) (an:Option Addr) (cdv ct:Value) (u v a b c:Value),bindArgs (W.fnOf x q (Cr st) (Cd st) (Ag st) .none kV doc pm an cdv ct) ⟨[u,v,a,b,c],[]⟩=pure (ps.zip [u,v,a,b,c]):=by intros; rfl):Binds K fd ps []:=F.binds fun kV doc pm an cdv ct us hu=>match us,hu.trans hl with | [u,v,a,b,c],_=>h kV doc pm an cdv ct u v a b c
theorem jV {x q:Str} {st:Stmt} {f:Addr} {fd:FuncData} {ps:List Str} (F:Cu K x q st f fd) (hl:ps.length=7:=by rfl) (h:∀ (kV doc pm:Value) (an:Option Addr) (cdv ct:Value) (u v a b c d e:Value),bindArgs (W.fnOf x q (Cr st) (Cd st) (Ag st) .none kV doc pm an cdv ct) ⟨[u,v,a,b,c,d,e],[]⟩=pure (ps.zip [u,v,a,b,c,d,e]):=by intros; rfl):Binds K fd ps []:=F.binds fun kV doc pm an cdv ct us hu=>match us,hu.trans hl with | [u,v,a,b,c,d,e],_=>h kV doc pm an cdv ct u v a b c d e
end
theorem W2 {l:W.OpenLaw} {w:World} {K:W.Frag} {h:Heap} {mg:Str->Option Value} {fa:Addr} (X:K.In h) (G:h.Ns mainGlobals mg) (hfa:mg "law" = some (.ref fa))
  {C aN aK aB aP aM p1 p2 p3 p4 p5 p6 b1 b2 b3 b4 b5 b6 b7 fWh fMd fNm fRo fTo fWi fPa fHp fCl fIk fSb fWm fHr fIr fCk fNu fCa fPl fLi fMy fSt fHa fMe fSh fUn fLe fDc fHk fWa fCq fTb fTt fMu fUk fSk fNb fLl fBs fBa fSo fLt fKa fWs fCe fLw fMx fBi fNa fSz fLn fKn fKs fRw fSp fWd fDr fHd fGo fPi fLd fSw fOi fOb fOc fOk fOo fBk fOp fOr fOq fOe fOs fOm fOx fOz fZ:Addr} {odTt anTt odZ anZ:Option Addr} {slTt slZ:Array (Option Value)} {ocTt kVTt dcTt pmTt cdTt ctTt ocZ kVZ dcZ pmZ cdZ ctZ:Value}
  {tLET tML tMR tMLn tMB tm1 tm2 tm3 tm4 tm5 ttN_0 ttN_1 ttN_2 ttN_3 ttN_4 ttK_0 ttK_1 ttK_2 ttp1_0 ttp1_1 ttp2_0 ttp2_1 ttp3_0 ttp3_1 ttp4_0 ttp4_1 ttp4_2 ttp4_3 ttp5_0 ttp5_1 ttp5_2 ttp6_0 ttp6_1 ttp6_2 ttp6_3 ttb1_0 ttb1_1 ttb2_0 ttb2_1 ttb3_0 ttb3_1 ttb4_0 ttb4_1 ttb5_0 ttb5_1 ttb6_0 ttb6_1 ttb7_0 ttb7_1:Tok} {od_N od_K od_p1 od_p2 od_p3 od_p4 od_p5 od_p6 od_b1 od_b2 od_b3 od_b4 od_b5 od_b6 od_b7:Option Addr} {sl_N sl_K sl_p1 sl_p2 sl_p3 sl_p4 sl_p5 sl_p6 sl_b1 sl_b2 sl_b3 sl_b4 sl_b5 sl_b6 sl_b7:Array (Option Value)} {n_N n_K n_p1 n_p2 n_p3 n_p4 n_p5 n_p6 n_b1 n_b2 n_b3 n_b4 n_b5 n_b6 n_b7 nB nP nM:Nat} {eB eP eM:Array DictEntry}
  {tDTt:Addr} {oDTt:Option Addr} {sDTt:Array (Option Value)} {nDTt:Nat} {kDTt:Tok}
  (FWh:DA K "is_whole" gn fWh)
  (FMd:DA K "is_made_of" dO fMd)
  (FNm:DA K "is_name" gh fNm)
  (FRo:DA K "rows_of" dI fRo)
  (FTo:DA K "is_told" cu fTo)
  (FWi:DA K "is_within" iW fWi)
  (FPa:DA K "is_part" cj fPa)
  (FHp:DA K "has_parts" du fHp)
  (FCl:DA K "count_of_last_lines" gD fCl)
  (FIk:DA K "is_key_of" dD fIk)
  (FSb:DA K "stands_behind_stop" iU fSb)
  (FWm:DA K "is_well_made" jn fWm)
  (FHr:DA K "has_room" gr fHr)
  (FIr:DA K "is_row" jt fIr)
  (FCk:DA K "check_rows" eX fCk)
  (FNu:DA K "numbers_of" gq fNu)
  (FCa:DA K "count_in_all" dH fCa)
  (FPl:DA K "places_of" dX fPl)
  (FLi:DA K "lines_by_knob" iJ fLi)
  (FMy:DA K "may_be_member" fL fMy)
  (FSt:DA K "set_of" dU fSt)
  (FHa:DA K "has_member" iy fHa)
  (FMe:DA K "members_of" dJ fMe)
  (FSh:DA K "shifted" jF fSh)
  (FUn:DA K "union_of" gW fUn)
  (FLe:DA K "led_to" gJ fLe)
  (FDc:DA K "drawn_of" bU fDc)
  (FHk:DA K "held_keys" iu fHk)
  (FWa:DA K "coupled_ways" gY fWa)
  (FCq:DA K "coupled_keys" ig fCq)
  (FTb:DA K "trail_back" jA fTb)
  (aTt:W.nsIn K mainGlobals "trail_to" = some (some (.ref fTt)))
  (lTt:K.lookup fTt=some ⟨ocTt,odTt,.func (W.fnOf "trail_to" "trail_to" (Cr UT) (Cd UT) (Ag UT) (.ref tDTt) kVTt dcTt pmTt anTt cdTt ctTt),slTt⟩) (cTt:W.codeIn K cdTt "trail_to" = true) (kTt:W.keepIn K (.ref fTt)=true)
  (FMu:DA K "muted_boards" eN fMu)
  (FUk:DA K "unmuted_keys" dR fUk)
  (FSk:DA K "speaking_keys" eV fSk)
  (FNb:DA K "numbers_on_board" g_ fNb)
  (FLl:DA K "led_by_line" fJ fLl)
  (FBs:DA K "brought_by_stop" dz fBs)
  (FBa:DA K "brought_in_all" eQ fBa)
  (FSo:DA K "sounding_pipes" iD fSo)
  (FLt:DA K "lines_leading_to" jN fLt)
  (FKa:DA K "key_ahead" gQ fKa)
  (FWs:DA K "why_sounds" i_ fWs)
  (FCe:DA K "_law_cell_at" fY fCe)
  (FLw:DA K "_law_whole" jQ fLw)
  (FMx:DA K "_law_mixed" jU fMx)
  (FBi:DA K "_law_bits" gR fBi)
  (FNa:DA K "_law_name" d9 fNa)
  (FSz:DA K "_law_sizes" dY fSz)
  (FLn:DA K "_law_lines" gC fLn)
  (FKn:DA K "_law_knob" gZ fKn)
  (FKs:DA K "_law_knobs" eF fKs)
  (FRw:DA K "_law_rows" cz fRw)
  (FSp:DA K "_law_spot" jM fSp)
  (FWd:DA K "_law_world" d8 fWd)
  (FDr:DA K "_law_drawn" dZ fDr)
  (FHd:DA K "_law_held" dW fHd)
  (FGo:DA K "_law_goal" iG fGo)
  (FPi:DA K "_law_pipes_of" jZ fPi)
  (FLd:DA K "_law_leads" iz fLd)
  (FSw:DA K "_law_shows" dG fSw)
  (aZ:W.nsIn K mainGlobals "law" = some (some (.ref fZ)))
  (lZ:K.lookup fZ=some ⟨ocZ,odZ,.func (W.fnOf "law" "law" (Cr KH) (Cd KH) (Ag KH) .none kVZ dcZ pmZ anZ cdZ ctZ),slZ⟩) (cZ:W.codeIn K cdZ "law" = true) (kZ:W.keepIn K (.ref fZ)=true)
  (aC:W.nsIn K mainGlobals "Organ" = some (some (.ref C)))
  (FOi:MA K C "__init__" "Organ.__init__" UL fOi)
  (FOb:MA K C "boards" "Organ.boards" ik fOb)
  (FOc:MA K C "key_count" "Organ.key_count" jX fOc)
  (FOk:MA K C "key" "Organ.key" iV fOk)
  (FOo:MA K C "board_of" "Organ.board_of" fQ fOo)
  (FBk:MA K C "board_of_knob" "Organ.board_of_knob" jO fBk)
  (FOp:MA K C "coupler" "Organ.coupler" eY fOp)
  (FOr:MA K C "ranks" "Organ.ranks" gM fOr)
  (FOq:MA K C "pipe_count" "Organ.pipe_count" jh fOq)
  (FOe:MA K C "pipe" "Organ.pipe" iC fOe)
  (FOs:MA K C "stop" "Organ.stop" fu fOs)
  (FOm:MA K C "mute" "Organ.mute" h_ fOm)
  (FOx:MA K C "rank_of" "Organ.rank_of" jl fOx)
  (FOz:MA K C "knobs" "Organ.knobs" dN fOz)
  (pg:W.plainGet K C Str.empty=true)
  (hd:W.hasDictIn K C=true)
  (po:W.plainOver K C=true)
  (sa:W.findIn K (.ref C) "__setattr__" = some (some (.builtin "object.__setattr__")))
  (mkC:W.makesIn K C=true)
  (kc:W.keepIn K (.ref C)=true)
  (n_row_list_:W.findIn K (.ref C) "row_list" = some none)
  (n_board_list_:W.findIn K (.ref C) "board_list" = some none)
  (n_rank_list_:W.findIn K (.ref C) "rank_list" = some none)
  (n_knob_rows_:W.findIn K (.ref C) "knob_rows" = some none)
  (n_board_numbers_:W.findIn K (.ref C) "board_numbers" = some none)
  (n_rank_numbers_:W.findIn K (.ref C) "rank_numbers" = some none)
  (n_knob_numbers_:W.findIn K (.ref C) "knob_numbers" = some none)
  (n_key_places_:W.findIn K (.ref C) "key_places" = some none)
  (n_pipe_places_:W.findIn K (.ref C) "pipe_places" = some none)
  (n_knob_lines_:W.findIn K (.ref C) "knob_lines" = some none)
  (n_step_sets_:W.findIn K (.ref C) "step_sets" = some none)
  (zlen:W.nsIn K mainGlobals "len" = some none)
  (zisinstance:W.nsIn K mainGlobals "isinstance" = some none)
  (zint:W.nsIn K mainGlobals "int" = some none)
  (zbool:W.nsIn K mainGlobals "bool" = some none)
  (zstr:W.nsIn K mainGlobals "str" = some none)
  (zlist:W.nsIn K mainGlobals "list" = some none)
  (ztuple:W.nsIn K mainGlobals "tuple" = some none)
  (zall:W.nsIn K mainGlobals "all" = some none)
  (zany:W.nsIn K mainGlobals "any" = some none)
  (zsum:W.nsIn K mainGlobals "sum" = some none)
  (zrange:W.nsIn K mainGlobals "range" = some none)
  (zzip:W.nsIn K mainGlobals "zip" = some none)
  (zenumerate:W.nsIn K mainGlobals "enumerate" = some none)
  (zmax:W.nsIn K mainGlobals "max" = some none)
  (zreversed:W.nsIn K mainGlobals "reversed" = some none)
  (zset:W.nsIn K mainGlobals "set" = some none)
  (zLET:W.nsIn K mainGlobals "LETTERS" = some (some (.str letters tLET)))
  (zML:W.nsIn K mainGlobals "MOST_LETTERS" = some (some (.int 8 tML)))
  (zMR:W.nsIn K mainGlobals "MOST_ROWS" = some (some (.int 150 tMR)))
  (zMLn:W.nsIn K mainGlobals "MOST_LINES" = some (some (.int 4 tMLn)))
  (zMB:W.nsIn K mainGlobals "MEMBERS_BELOW" = some (some (.int 1200 tMB)))
  (rN:W.nsIn K mainGlobals "NAMED" = some (some (.ref aN)))
  (rK:W.nsIn K mainGlobals "KNOBS" = some (some (.ref aK)))
  (rB:W.nsIn K mainGlobals "BOUNDS" = some (some (.ref aB)))
  (rP:W.nsIn K mainGlobals "PARTS" = some (some (.ref aP)))
  (rM:W.nsIn K mainGlobals "MOST_OF" = some (some (.ref aM)))
  (dB:K.lookup aB=some ⟨.type "dict",none,.dict eB nB,#[]⟩)
  (kB:W.KeysLit w.params eB.toList)
  (oB:(aB == sysModules)=false)
  (dP:K.lookup aP=some ⟨.type "dict",none,.dict eP nP,#[]⟩)
  (kP:W.KeysLit w.params eP.toList)
  (oP:(aP == sysModules)=false)
  (dM:K.lookup aM=some ⟨.type "dict",none,.dict eM nM,#[]⟩)
  (kM:W.KeysLit w.params eM.toList)
  (oM:(aM == sysModules)=false)
  (qp1:W.nsIn K aP "board" = some (some (.ref p1)))
  (qp2:W.nsIn K aP "stop" = some (some (.ref p2)))
  (qp3:W.nsIn K aP "mute" = some (some (.ref p3)))
  (qp4:W.nsIn K aP "coupler" = some (some (.ref p4)))
  (qp5:W.nsIn K aP "rank" = some (some (.ref p5)))
  (qp6:W.nsIn K aP "line" = some (some (.ref p6)))
  (qb1:W.nsIn K aB "keys" = some (some (.ref b1)))
  (qb2:W.nsIn K aB "leap" = some (some (.ref b2)))
  (qb3:W.nsIn K aB "pipes" = some (some (.ref b3)))
  (qb4:W.nsIn K aB "wind" = some (some (.ref b4)))
  (qb5:W.nsIn K aB "shift" = some (some (.ref b5)))
  (qb6:W.nsIn K aB "low" = some (some (.ref b6)))
  (qb7:W.nsIn K aB "high" = some (some (.ref b7)))
  (qn:W.nsIn K aB "new" = some none)
  (qb:W.nsIn K aB "board" = some none)
  (qr:W.nsIn K aB "rank" = some none)
  (ql:W.nsIn K aM "line" = some none)
  (qm1:W.nsIn K aM "board" = some (some (.int 5 tm1)))
  (qm2:W.nsIn K aM "stop" = some (some (.int 24 tm2)))
  (qm3:W.nsIn K aM "coupler" = some (some (.int 12 tm3)))
  (qm4:W.nsIn K aM "mute" = some (some (.int 5 tm4)))
  (qm5:W.nsIn K aM "rank" = some (some (.int 12 tm5)))
  (uN:K.lookup aN=some ⟨.type "tuple",od_N,.seq #[.str "board" ttN_0,.str "rank" ttN_1,.str "stop" ttN_2,.str "coupler" ttN_3,.str "mute" ttN_4] n_N,sl_N⟩)
  (uK:K.lookup aK=some ⟨.type "tuple",od_K,.seq #[.str "stop" ttK_0,.str "coupler" ttK_1,.str "mute" ttK_2] n_K,sl_K⟩)
  (up1:K.lookup p1=some ⟨.type "tuple",od_p1,.seq #[.str "new" ttp1_0,.str "keys" ttp1_1] n_p1,sl_p1⟩)
  (up2:K.lookup p2=some ⟨.type "tuple",od_p2,.seq #[.str "new" ttp2_0,.str "board" ttp2_1] n_p2,sl_p2⟩)
  (up3:K.lookup p3=some ⟨.type "tuple",od_p3,.seq #[.str "new" ttp3_0,.str "board" ttp3_1] n_p3,sl_p3⟩)
  (up4:K.lookup p4=some ⟨.type "tuple",od_p4,.seq #[.str "new" ttp4_0,.str "board" ttp4_1,.str "board" ttp4_2,.str "leap" ttp4_3] n_p4,sl_p4⟩)
  (up5:K.lookup p5=some ⟨.type "tuple",od_p5,.seq #[.str "new" ttp5_0,.str "pipes" ttp5_1,.str "wind" ttp5_2] n_p5,sl_p5⟩)
  (up6:K.lookup p6=some ⟨.type "tuple",od_p6,.seq #[.str "rank" ttp6_0,.str "shift" ttp6_1,.str "low" ttp6_2,.str "high" ttp6_3] n_p6,sl_p6⟩)
  (uTt:K.lookup tDTt=some ⟨.type "tuple",oDTt,.seq #[.int 0 kDTt] nDTt,sDTt⟩)
  (ub1:K.lookup b1=some ⟨.type "tuple",od_b1,.seq #[.int (1) ttb1_0,.int (61) ttb1_1] n_b1,sl_b1⟩)
  (ub2:K.lookup b2=some ⟨.type "tuple",od_b2,.seq #[.int (-60) ttb2_0,.int (60) ttb2_1] n_b2,sl_b2⟩)
  (ub3:K.lookup b3=some ⟨.type "tuple",od_b3,.seq #[.int (1) ttb3_0,.int (97) ttb3_1] n_b3,sl_b3⟩)
  (ub4:K.lookup b4=some ⟨.type "tuple",od_b4,.seq #[.int (0) ttb4_0,.int (1000000000) ttb4_1] n_b4,sl_b4⟩)
  (ub5:K.lookup b5=some ⟨.type "tuple",od_b5,.seq #[.int (-200) ttb5_0,.int (200) ttb5_1] n_b5,sl_b5⟩)
  (ub6:K.lookup b6=some ⟨.type "tuple",od_b6,.seq #[.int (0) ttb6_0,.int (60) ttb6_1] n_b6,sl_b6⟩)
  (ub7:K.lookup b7=some ⟨.type "tuple",od_b7,.seq #[.int (0) ttb7_0,.int (60) ttb7_1] n_b7,sl_b7⟩)
  : ∃ fd:FuncData,(∀ (s:Shared) (v:Value),BindsTo s fd ⟨[v],[]⟩ [("_law_script",v)])/\∀ base:Heap,K.In base->base.Ns mainGlobals mg->Aq l.prog w K mg base Be 11 fa fd ["_law_script"] (P0 K):=by
 obtain ⟨aWh,dWh,FWh⟩:=FWh
 obtain ⟨aMd,dMd,FMd⟩:=FMd
 obtain ⟨aNm,dNm,FNm⟩:=FNm
 obtain ⟨aRo,dRo,FRo⟩:=FRo
 obtain ⟨aTo,dTo,FTo⟩:=FTo
 obtain ⟨aWi,dWi,FWi⟩:=FWi
 obtain ⟨aPa,dPa,FPa⟩:=FPa
 obtain ⟨aHp,dHp,FHp⟩:=FHp
 obtain ⟨aCl,dCl,FCl⟩:=FCl
 obtain ⟨aIk,dIk,FIk⟩:=FIk
 obtain ⟨aSb,dSb,FSb⟩:=FSb
 obtain ⟨aWm,dWm,FWm⟩:=FWm
 obtain ⟨aHr,dHr,FHr⟩:=FHr
 obtain ⟨aIr,dIr,FIr⟩:=FIr
 obtain ⟨aCk,dCk,FCk⟩:=FCk
 obtain ⟨aNu,dNu,FNu⟩:=FNu
 obtain ⟨aCa,dCa,FCa⟩:=FCa
 obtain ⟨aPl,dPl,FPl⟩:=FPl
 obtain ⟨aLi,dLi,FLi⟩:=FLi
 obtain ⟨aMy,dMy,FMy⟩:=FMy
 obtain ⟨aSt,dSt,FSt⟩:=FSt
 obtain ⟨aHa,dHa,FHa⟩:=FHa
 obtain ⟨aMe,dMe,FMe⟩:=FMe
 obtain ⟨aSh,dSh,FSh⟩:=FSh
 obtain ⟨aUn,dUn,FUn⟩:=FUn
 obtain ⟨aLe,dLe,FLe⟩:=FLe
 obtain ⟨aDc,dDc,FDc⟩:=FDc
 obtain ⟨aHk,dHk,FHk⟩:=FHk
 obtain ⟨aWa,dWa,FWa⟩:=FWa
 obtain ⟨aCq,dCq,FCq⟩:=FCq
 obtain ⟨aTb,dTb,FTb⟩:=FTb
 obtain ⟨aMu,dMu,FMu⟩:=FMu
 obtain ⟨aUk,dUk,FUk⟩:=FUk
 obtain ⟨aSk,dSk,FSk⟩:=FSk
 obtain ⟨aNb,dNb,FNb⟩:=FNb
 obtain ⟨aLl,dLl,FLl⟩:=FLl
 obtain ⟨aBs,dBs,FBs⟩:=FBs
 obtain ⟨aBa,dBa,FBa⟩:=FBa
 obtain ⟨aSo,dSo,FSo⟩:=FSo
 obtain ⟨aLt,dLt,FLt⟩:=FLt
 obtain ⟨aKa,dKa,FKa⟩:=FKa
 obtain ⟨aWs,dWs,FWs⟩:=FWs
 obtain ⟨aCe,dCe,FCe⟩:=FCe
 obtain ⟨aLw,dLw,FLw⟩:=FLw
 obtain ⟨aMx,dMx,FMx⟩:=FMx
 obtain ⟨aBi,dBi,FBi⟩:=FBi
 obtain ⟨aNa,dNa,FNa⟩:=FNa
 obtain ⟨aSz,dSz,FSz⟩:=FSz
 obtain ⟨aLn,dLn,FLn⟩:=FLn
 obtain ⟨aKn,dKn,FKn⟩:=FKn
 obtain ⟨aKs,dKs,FKs⟩:=FKs
 obtain ⟨aRw,dRw,FRw⟩:=FRw
 obtain ⟨aSp,dSp,FSp⟩:=FSp
 obtain ⟨aWd,dWd,FWd⟩:=FWd
 obtain ⟨aDr,dDr,FDr⟩:=FDr
 obtain ⟨aHd,dHd,FHd⟩:=FHd
 obtain ⟨aGo,dGo,FGo⟩:=FGo
 obtain ⟨aPi,dPi,FPi⟩:=FPi
 obtain ⟨aLd,dLd,FLd⟩:=FLd
 obtain ⟨aSw,dSw,FSw⟩:=FSw
 obtain ⟨aOi,iOi,dOi,FOi⟩:=FOi
 obtain ⟨aOb,iOb,dOb,FOb⟩:=FOb
 obtain ⟨aOc,iOc,dOc,FOc⟩:=FOc
 obtain ⟨aOk,iOk,dOk,FOk⟩:=FOk
 obtain ⟨aOo,iOo,dOo,FOo⟩:=FOo
 obtain ⟨aBk,iBk,dBk,FBk⟩:=FBk
 obtain ⟨aOp,iOp,dOp,FOp⟩:=FOp
 obtain ⟨aOr,iOr,dOr,FOr⟩:=FOr
 obtain ⟨aOq,iOq,dOq,FOq⟩:=FOq
 obtain ⟨aOe,iOe,dOe,FOe⟩:=FOe
 obtain ⟨aOs,iOs,dOs,FOs⟩:=FOs
 obtain ⟨aOm,iOm,dOm,FOm⟩:=FOm
 obtain ⟨aOx,iOx,dOx,FOx⟩:=FOx
 obtain ⟨aOz,iOz,dOz,FOz⟩:=FOz
 have e:=hfa.symm.trans (W.mg_of X G aZ)
 cases e
 have FTt:=U7 (st:=UT) lTt cTt kTt
 have FZ:=N_ (st:=KH) lZ cZ kZ
 have bTt:Binds K (W.fnOf "trail_to" "trail_to" (Cr UT) (Cd UT) (Ag UT) (.ref tDTt) kVTt dcTt pmTt anTt cdTt ctTt) ["organ","knobs","held","key","least"] []:=W_ uTt rfl fun us hl=>match us,hl with | [_,_,_,_,_],_=>⟨_,rfl,rfl⟩
 have gN:KTup K aN [.str "board",.str "rank",.str "stop",.str "coupler",.str "mute"]:=(⟨_,_,_,uN,rfl,rfl,by show 5<=sizeLine; decide,.cons ⟨_,rfl⟩ (.cons ⟨_,rfl⟩ (.cons ⟨_,rfl⟩ (.cons ⟨_,rfl⟩ (.cons ⟨_,rfl⟩ (.nil)))))⟩)
 have gK:KTup K aK [.str "stop",.str "coupler",.str "mute"]:=(⟨_,_,_,uK,rfl,rfl,by show 3<=sizeLine; decide,.cons ⟨_,rfl⟩ (.cons ⟨_,rfl⟩ (.cons ⟨_,rfl⟩ (.nil)))⟩)
 have gp1:KTup K p1 [.str "new",.str "keys"]:=(⟨_,_,_,up1,rfl,rfl,by show 2<=sizeLine; decide,.cons ⟨_,rfl⟩ (.cons ⟨_,rfl⟩ (.nil))⟩)
 have gp2:KTup K p2 [.str "new",.str "board"]:=(⟨_,_,_,up2,rfl,rfl,by show 2<=sizeLine; decide,.cons ⟨_,rfl⟩ (.cons ⟨_,rfl⟩ (.nil))⟩)
 have gp3:KTup K p3 [.str "new",.str "board"]:=(⟨_,_,_,up3,rfl,rfl,by show 2<=sizeLine; decide,.cons ⟨_,rfl⟩ (.cons ⟨_,rfl⟩ (.nil))⟩)
 have gp4:KTup K p4 [.str "new",.str "board",.str "board",.str "leap"]:=(⟨_,_,_,up4,rfl,rfl,by show 4<=sizeLine; decide,.cons ⟨_,rfl⟩ (.cons ⟨_,rfl⟩ (.cons ⟨_,rfl⟩ (.cons ⟨_,rfl⟩ (.nil))))⟩)
 have gp5:KTup K p5 [.str "new",.str "pipes",.str "wind"]:=(⟨_,_,_,up5,rfl,rfl,by show 3<=sizeLine; decide,.cons ⟨_,rfl⟩ (.cons ⟨_,rfl⟩ (.cons ⟨_,rfl⟩ (.nil)))⟩)
 have gp6:KTup K p6 [.str "rank",.str "shift",.str "low",.str "high"]:=(⟨_,_,_,up6,rfl,rfl,by show 4<=sizeLine; decide,.cons ⟨_,rfl⟩ (.cons ⟨_,rfl⟩ (.cons ⟨_,rfl⟩ (.cons ⟨_,rfl⟩ (.nil))))⟩)
 have gb1:KTup K b1 [.int (1),.int (61)]:=(⟨_,_,_,ub1,rfl,rfl,by show 2<=sizeLine; decide,.cons ⟨_,rfl⟩ (.cons ⟨_,rfl⟩ (.nil))⟩)
 have gb2:KTup K b2 [.int (-60),.int (60)]:=(⟨_,_,_,ub2,rfl,rfl,by show 2<=sizeLine; decide,.cons ⟨_,rfl⟩ (.cons ⟨_,rfl⟩ (.nil))⟩)
 have gb3:KTup K b3 [.int (1),.int (97)]:=(⟨_,_,_,ub3,rfl,rfl,by show 2<=sizeLine; decide,.cons ⟨_,rfl⟩ (.cons ⟨_,rfl⟩ (.nil))⟩)
 have gb4:KTup K b4 [.int (0),.int (1000000000)]:=(⟨_,_,_,ub4,rfl,rfl,by show 2<=sizeLine; decide,.cons ⟨_,rfl⟩ (.cons ⟨_,rfl⟩ (.nil))⟩)
 have gb5:KTup K b5 [.int (-200),.int (200)]:=(⟨_,_,_,ub5,rfl,rfl,by show 2<=sizeLine; decide,.cons ⟨_,rfl⟩ (.cons ⟨_,rfl⟩ (.nil))⟩)
 have gb6:KTup K b6 [.int (0),.int (60)]:=(⟨_,_,_,ub6,rfl,rfl,by show 2<=sizeLine; decide,.cons ⟨_,rfl⟩ (.cons ⟨_,rfl⟩ (.nil))⟩)
 have gb7:KTup K b7 [.int (0),.int (60)]:=(⟨_,_,_,ub7,rfl,rfl,by show 2<=sizeLine; decide,.cons ⟨_,rfl⟩ (.cons ⟨_,rfl⟩ (.nil))⟩)
 have F0:PQ K aB aP aM:=⟨⟨⟨_,qp1,gp1⟩,⟨_,qp2,gp2⟩,⟨_,qp3,gp3⟩,⟨_,qp4,gp4⟩,⟨_,qb1,gb1⟩,⟨_,qb2,gb2⟩,qn,qb,⟨_,qm1⟩,⟨_,qm2⟩,⟨_,qm3⟩,⟨_,qm4⟩⟩,⟨_,qp5,gp5⟩,⟨_,qp6,gp6⟩,⟨_,qb3,gb3⟩,⟨_,qb4,gb4⟩,⟨_,qb5,gb5⟩,⟨_,qb6,gb6⟩,⟨_,qb7,gb7⟩,qr,⟨_,qm5⟩,ql⟩
 have T:Txt K w.params mg C aN aK aB aP aM:=⟨W.mg_none_of X G zlen,W.mg_none_of X G zisinstance,W.mg_none_of X G zint,W.mg_none_of X G zbool,W.mg_none_of X G zstr,W.mg_none_of X G zlist,W.mg_none_of X G ztuple,W.mg_none_of X G zall,W.mg_none_of X G zany,W.mg_none_of X G zsum,W.mg_none_of X G zrange,W.mg_none_of X G zzip,W.mg_none_of X G zenumerate,W.mg_none_of X G zmax,W.mg_none_of X G zreversed,W.mg_none_of X G zset,⟨_,W.mg_of X G zLET⟩,⟨_,W.mg_of X G zML⟩,⟨_,W.mg_of X G zMR⟩,⟨_,W.mg_of X G zMLn⟩,⟨_,W.mg_of X G zMB⟩,W.mg_of X G rN,W.mg_of X G rK,W.mg_of X G rB,W.mg_of X G rP,W.mg_of X G rM,gN,gK,⟨⟨_,_,dB,kB⟩,oB⟩,⟨⟨_,_,dP,kP⟩,oP⟩,⟨⟨_,_,dM,kM⟩,oM⟩,⟨pg,hd,po,sa⟩,W.mg_of X G aC,n_row_list_,n_board_list_,n_rank_list_,n_knob_rows_,n_board_numbers_,n_rank_numbers_,n_knob_numbers_,n_key_places_,n_pipe_places_,n_knob_lines_,n_step_sets_⟩
 have N:jg K mg C ⟨fWh,fMd,fNm,fRo,fTo,fWi,fPa,fHp,fCl,fIk,fSb,fWm,fHr,fIr,fCk,fNu,fCa,fPl,fLi,fMy,fSt,fHa,fMe,fSh,fUn,fLe,fDc,fHk,fWa,fCq,fTb,fTt,fMu,fUk,fSk,fNb,fLl,fBs,fBa,fSo,fLt,fKa,fWs,fCe,fLw,fMx,fBi,fNa,fSz,fLn,fKn,fKs,fRw,fSp,fWd,fDr,fHd,fGo,fPi,fLd,fSw,fOi,fOb,fOc,fOk,fOo,fBk,fOp,fOr,fOq,fOe,fOs,fOm,fOx,fOz,_,_,_,_,_,_,_,_,_,_,_,_,_,_,_,_,_,_,_,_,_,_,_,_,_,_,_,_,_,_,_,_,_,_,_,_,_,_,_,_,_,_,_,_,_,_,_,_,_,_,_,_,_,_,_,_,_,_,_,_,_,_,_,_,_,_,_,_,_,_,_,_,_,_,_⟩:=⟨⟨FWh,(Gm FWh),W.mg_of X G aWh⟩,⟨FMd,(Ex FMd),W.mg_of X G aMd⟩,⟨FNm,(Gm FNm),W.mg_of X G aNm⟩,⟨FRo,(Et FRo),W.mg_of X G aRo⟩,⟨FTo,(Ex FTo),W.mg_of X G aTo⟩,⟨FWi,(Et FWi),W.mg_of X G aWi⟩,⟨FPa,(Ex FPa),W.mg_of X G aPa⟩,⟨FHp,(Et FHp),W.mg_of X G aHp⟩,⟨FCl,(Gm FCl),W.mg_of X G aCl⟩,⟨FIk,(Ex FIk),W.mg_of X G aIk⟩,⟨FSb,(Et FSb),W.mg_of X G aSb⟩,⟨FWm,(Et FWm),W.mg_of X G aWm⟩,⟨FHr,(Et FHr),W.mg_of X G aHr⟩,⟨FIr,(Et FIr),W.mg_of X G aIr⟩,⟨FCk,(Gm FCk),W.mg_of X G aCk⟩,⟨FNu,(Gm FNu),W.mg_of X G aNu⟩,⟨FCa,(Gm FCa),W.mg_of X G aCa⟩,⟨FPl,(Gm FPl),W.mg_of X G aPl⟩,⟨FLi,(Et FLi),W.mg_of X G aLi⟩,⟨FMy,(Gm FMy),W.mg_of X G aMy⟩,⟨FSt,(Gm FSt),W.mg_of X G aSt⟩,⟨FHa,(Et FHa),W.mg_of X G aHa⟩,⟨FMe,(Gm FMe),W.mg_of X G aMe⟩,⟨FSh,(Ex FSh),W.mg_of X G aSh⟩,⟨FUn,(Gm FUn),W.mg_of X G aUn⟩,⟨FLe,(Ex FLe),W.mg_of X G aLe⟩,⟨FDc,(Ex FDc),W.mg_of X G aDc⟩,⟨FHk,(Et FHk),W.mg_of X G aHk⟩,⟨FWa,(Ex FWa),W.mg_of X G aWa⟩,⟨FCq,(Ex FCq),W.mg_of X G aCq⟩,⟨FTb,(Ex FTb),W.mg_of X G aTb⟩,⟨FTt,bTt,W.mg_of X G aTt⟩,⟨FMu,(Et FMu),W.mg_of X G aMu⟩,⟨FUk,(Ex FUk),W.mg_of X G aUk⟩,⟨FSk,(Ex FSk),W.mg_of X G aSk⟩,⟨FNb,(Ex FNb),W.mg_of X G aNb⟩,⟨FLl,(Ex FLl),W.mg_of X G aLl⟩,⟨FBs,(Ex FBs),W.mg_of X G aBs⟩,⟨FBa,(Ex FBa),W.mg_of X G aBa⟩,⟨FSo,(Ex FSo),W.mg_of X G aSo⟩,⟨FLt,(Rj FLt),W.mg_of X G aLt⟩,⟨FKa,(Rj FKa),W.mg_of X G aKa⟩,⟨FWs,(Rj FWs),W.mg_of X G aWs⟩,⟨FCe,(Et FCe),W.mg_of X G aCe⟩,⟨FLw,(Gm FLw),W.mg_of X G aLw⟩,⟨FMx,(Et FMx),W.mg_of X G aMx⟩,⟨FBi,(Gm FBi),W.mg_of X G aBi⟩,⟨FNa,(Et FNa),W.mg_of X G aNa⟩,⟨FSz,(Ex FSz),W.mg_of X G aSz⟩,⟨FLn,(Ex FLn),W.mg_of X G aLn⟩,⟨FKn,(Ex FKn),W.mg_of X G aKn⟩,⟨FKs,(Ex FKs),W.mg_of X G aKs⟩,⟨FRw,(Rj FRw),W.mg_of X G aRw⟩,⟨FSp,(Et FSp),W.mg_of X G aSp⟩,⟨FWd,(Gm FWd),W.mg_of X G aWd⟩,⟨FDr,(Et FDr),W.mg_of X G aDr⟩,⟨FHd,(Et FHd),W.mg_of X G aHd⟩,⟨FGo,(Ex FGo),W.mg_of X G aGo⟩,⟨FPi,(Rj FPi),W.mg_of X G aPi⟩,⟨FLd,(jV FLd),W.mg_of X G aLd⟩,⟨FSw,(jb FSw),W.mg_of X G aSw⟩,⟨FOi,(Et FOi),⟨mkC,aOi,iOi,kc⟩⟩,⟨FOb,(Gm FOb),⟨aOb,iOb,FOb.kp⟩⟩,⟨FOc,(Gm FOc),⟨aOc,iOc,FOc.kp⟩⟩,⟨FOk,(Ex FOk),⟨aOk,iOk,FOk.kp⟩⟩,⟨FOo,(Et FOo),⟨aOo,iOo,FOo.kp⟩⟩,⟨FBk,(Et FBk),⟨aBk,iBk,FBk.kp⟩⟩,⟨FOp,(Et FOp),⟨aOp,iOp,FOp.kp⟩⟩,⟨FOr,(Gm FOr),⟨aOr,iOr,FOr.kp⟩⟩,⟨FOq,(Gm FOq),⟨aOq,iOq,FOq.kp⟩⟩,⟨FOe,(Ex FOe),⟨aOe,iOe,FOe.kp⟩⟩,⟨FOs,(Et FOs),⟨aOs,iOs,FOs.kp⟩⟩,⟨FOm,(Et FOm),⟨aOm,iOm,FOm.kp⟩⟩,⟨FOx,(Et FOx),⟨aOx,iOx,FOx.kp⟩⟩,⟨FOz,(Gm FOz),⟨aOz,iOz,FOz.kp⟩⟩⟩
 exact ⟨W.fnOf "law" "law" (Cr KH) (Cd KH) (Ag KH) .none kVZ dcZ pmZ anZ cdZ ctZ,fun s v=>.of_eq rfl,fun base _ _=>XH FZ N T F0⟩
theorem walk {l:W.OpenLaw} {q:Program} {loose:List Str} {XP:(Str->Option Value)->Heap->Prop} {YP:World->Heap->Prop} {d:DefRec} {K:Params->W.Frag} (hn:l.most=some 63) (hdf:d.params.defaults=[])
  (hY:∀ (w:World) (h:Heap),YP w h->(K w.params).In h)
  (F:∀ (w:World) (mg:Str->Option Value) (fa:Addr) (h:Heap),(K w.params).In h->h.Ns mainGlobals mg->mg d.name=some (.ref fa) ->
   ∃ fd:FuncData,(∀ (s:Shared) (u:Value),BindsTo s fd ⟨[u],[]⟩ [("_law_script",u)])/\∀ base:Heap,(K w.params).In base->base.Ns mainGlobals mg->Aq l.prog w (K w.params) mg base Be 11 fa fd ["_law_script"] (P0 (K w.params))) :
  W.WalkO q loose XP YP l.row.toRowW d [] (fun f vs=>PySem.call f vs) :=
 L2.Uh (n:=63) (k:=11) (x:="_law_script") (CX:=fun _=>Be) (sp:=fun w=>P0 (K w.params)) hn (by decide) hdf ⟨rfl,by decide,by decide⟩ hY F (fun _ _ a ns hl _ hS=>⟨a,ns,rfl,hS,hl,fun _=>rfl⟩) fun _ _ _ _ _ z=>z
end K23
open PySem PySem.W PyProof.Rows
noncomputable def PySem.W.Fast.tw16319497966102854710:Unit:=()
noncomputable def PySem.W.Fast.tw5068958763047733943:Unit:=()
noncomputable def PySem.W.Fast.tw9212825428966375277:Unit:=()
noncomputable def PySem.W.Fast.tw8066254393634615851:Unit:=()
noncomputable def PySem.W.Fast.tw14580411156368084577:Unit:=()
noncomputable def PySem.W.Fast.tw7934624615214820722:Unit:=()
noncomputable def PySem.W.Fast.tw3722241989993982274:Unit:=()
noncomputable def PySem.W.Fast.tw7251593757182720545:Unit:=()
noncomputable def PySem.W.Fast.tw12170185235665390308:Unit:=()
noncomputable def PySem.W.Fast.tw6957701637862510313:Unit:=()
noncomputable def PySem.W.Fast.tw7506441824738247690:Unit:=()
noncomputable def PySem.W.Fast.tw9498551755620005356:Unit:=()
noncomputable def PySem.W.Fast.tw3187625461962254185:Unit:=()
noncomputable def PySem.W.Fast.tw3801844209334154575:Unit:=()
noncomputable def PySem.W.Fast.tw12616838743443168484:Unit:=()
noncomputable def PySem.W.Fast.tw16461513301294236520:Unit:=()
noncomputable def PySem.W.Fast.tw5637667739277111939:Unit:=()
noncomputable def PySem.W.Fast.tw10121797541044981804:Unit:=()
noncomputable def PySem.W.Fast.tw11399332471692609544:Unit:=()
noncomputable def PySem.W.Fast.tw3695387524849924902:Unit:=()
noncomputable def PySem.W.Fast.tw15375419561460497826:Unit:=()
noncomputable def PySem.W.Fast.tw3789435410649650342:Unit:=()
noncomputable def PySem.W.Fast.tw340070355872908886:Unit:=()
noncomputable def PySem.W.Fast.tw11704300893904539605:Unit:=()
noncomputable def PySem.W.Fast.tw10866366320242680525:Unit:=()
noncomputable def PySem.W.Fast.tw13725067448112817912:Unit:=()
noncomputable def PySem.W.Fast.tw10308341372386723719:Unit:=()
noncomputable def PySem.W.Fast.tw5360102233943994960:Unit:=()
noncomputable def PySem.W.Fast.tw1341626465192120265:Unit:=()
noncomputable def PySem.W.Fast.tw13951431895310137914:Unit:=()
noncomputable def PySem.W.Fast.tw4378271215547415167:Unit:=()
noncomputable def PySem.W.Fast.tw16796510926865592321:Unit:=()
noncomputable def PySem.W.Fast.tw15127419553972527843:Unit:=()
noncomputable def PySem.W.Fast.tw9444343536936778799:Unit:=()
noncomputable def PySem.W.Fast.tw10070942069250808357:Unit:=()
noncomputable def PySem.W.Fast.tw12686442128465591589:Unit:=()
noncomputable def PySem.W.Fast.tw17719973185106784837:Unit:=()
noncomputable def PySem.W.Fast.tw8751313960363052222:Unit:=()
noncomputable def PySem.W.Fast.tw15839527684752595096:Unit:=()
noncomputable def PySem.W.Fast.tw2452088046281437901:Unit:=()
noncomputable def PySem.W.Fast.tw11295098771831211803:Unit:=()
noncomputable def PySem.W.Fast.tw7468200942334192314:Unit:=()
noncomputable def PySem.W.Fast.tw9040283529711475445:Unit:=()
noncomputable def PySem.W.Fast.tw8906911499615993823:Unit:=()
noncomputable def PySem.W.Fast.tw9052215637675009029:Unit:=()
noncomputable def PySem.W.Fast.tw14905844034674611186:Unit:=()
noncomputable def PySem.W.Fast.tw13086807921390546254:Unit:=()
noncomputable def PySem.W.Fast.tw12829993268332747553:Unit:=()
noncomputable def PySem.W.Fast.tw4531510619420901335:Unit:=()
noncomputable def PySem.W.Fast.tw10831615854517628124:Unit:=()
noncomputable def PySem.W.Fast.tw5263246443883475873:Unit:=()
noncomputable def PySem.W.Fast.tw16207791985759933169:Unit:=()
noncomputable def PySem.W.Fast.tw8213800493042997900:Unit:=()
noncomputable def PySem.W.Fast.tw1698694380044972042:Unit:=()
noncomputable def PySem.W.Fast.tw11062638791005865609:Unit:=()
noncomputable def PySem.W.Fast.tw17384243524857778131:Unit:=()
noncomputable def PySem.W.Fast.tw13379587849054063100:Unit:=()
noncomputable def PySem.W.Fast.tw8291614041183442424:Unit:=()
noncomputable def PySem.W.Fast.tw7402609462428274951:Unit:=()
noncomputable def PySem.W.Fast.tw11508754315664283366:Unit:=()
noncomputable def PySem.W.Fast.tw1397340343710486377:Unit:=()
noncomputable def PySem.W.Fast.tw6934644612966878185:Unit:=()
noncomputable def PySem.W.Fast.tw3992200881158182625:Unit:=()
noncomputable def PySem.W.Fast.tw1348433887014841141:Unit:=()
noncomputable def PySem.W.Fast.tw2387661203115675573:Unit:=()
noncomputable def PySem.W.Fast.tw13502928529547951804:Unit:=()
noncomputable def PySem.W.Fast.tw2388007456347107809:Unit:=()
noncomputable def PySem.W.Fast.tw3911257162770003659:Unit:=()
noncomputable def PySem.W.Fast.tw9873889680975133268:Unit:=()
noncomputable def PySem.W.Fast.tw16244890946772465882:Unit:=()
noncomputable def PySem.W.Fast.tw6756151924710686029:Unit:=()
noncomputable def PySem.W.Fast.tw5683984921494483276:Unit:=()
noncomputable def PySem.W.Fast.tw948962697933128052:Unit:=()
noncomputable def PySem.W.Fast.tw3945229371480048706:Unit:=()
noncomputable def PySem.W.Fast.tw6855874306251877968:Unit:=()
noncomputable def PySem.W.Fast.tw16501790467039363049:Unit:=()
noncomputable def PySem.W.Fast.tw17455246057942850549:Unit:=()
noncomputable def PySem.W.Fast.tw17833994829711742389:Unit:=()
noncomputable def PySem.W.Fast.tw3767384391963932598:Unit:=()
noncomputable def PySem.W.Fast.tw8908457854398777958:Unit:=()
noncomputable def PySem.W.Fast.tw14329729074504184825:Unit:=()
noncomputable def PySem.W.Fast.tw13288984598208826226:Unit:=()
noncomputable def PySem.W.Fast.tw16727222119854107340:Unit:=()
noncomputable def PySem.W.Fast.tw14648694888745343532:Unit:=()
noncomputable def PySem.W.Fast.tw3181705461401233864:Unit:=()
noncomputable def PySem.W.Fast.tw653322188532610953:Unit:=()
noncomputable def PySem.W.Fast.tw15564421233500383158:Unit:=()
noncomputable def PySem.W.Fast.tw2548171189249382227:Unit:=()
noncomputable def PySem.W.Fast.tw9732441720695296618:Unit:=()
noncomputable def PySem.W.Fast.tw15974301597002655083:Unit:=()
noncomputable def PySem.W.Fast.tw15382465073927991168:Unit:=()
noncomputable def PySem.W.Fast.tw16662701750801623318:Unit:=()
noncomputable def PySem.W.Fast.tw992079107806316880:Unit:=()
noncomputable def PySem.W.Fast.tw10602532535311031000:Unit:=()
noncomputable def PySem.W.Fast.tw13995877387791345852:Unit:=()
noncomputable def PySem.W.Fast.tw8550107570487269514:Unit:=()
noncomputable def PySem.W.Fast.tw17957361874558618676:Unit:=()
noncomputable def PySem.W.Fast.tw8471824283066169039:Unit:=()
noncomputable def PySem.W.Fast.tw741712876086884983:Unit:=()
noncomputable def PySem.W.Fast.tw3316699153499972438:Unit:=()
noncomputable def PySem.W.Fast.tw7228110673363754434:Unit:=()
noncomputable def PySem.W.Fast.tw3931844737285588999:Unit:=()
noncomputable def PySem.W.Fast.tw18319234704663398651:Unit:=()
noncomputable def PySem.W.Fast.tw14026916472870011440:Unit:=()
set_option maxRecDepth 100000 in
set_option maxHeartbeats 0 in
theorem PySem.Challenge.cw_windchest_k23_why_pipes_sound_holds : PySem.Challenge.rw_windchest_k23_why_pipes_sound.Holds := by
 w_on; o_law; k_head; (case hw=>w_witness2)
 k_fill
 refine K23.walk (l:=PySem.Challenge.rw_windchest_k23_why_pipes_sound) rfl rfl (fun w h Y=>PySem.W.kIn_of Y) ?F
 case F =>
  intro w mg fa h KX G hmg
  refine' K23.W2 KX G hmg ?_ ?_ ?_ ?_ ?_ ?_ ?_ ?_ ?_ ?_ ?_ ?_ ?_ ?_ ?_ ?_ ?_ ?_ ?_ ?_ ?_ ?_ ?_ ?_ ?_ ?_ ?_ ?_ ?_ ?_ ?_ ?_ ?_ ?_ ?_ ?_ ?_ ?_ ?_ ?_ ?_ ?_ ?_ ?_ ?_ ?_ ?_ ?_ ?_ ?_ ?_ ?_ ?_ ?_ ?_ ?_ ?_ ?_ ?_ ?_ ?_ ?_ ?_ ?_ ?_ ?_ ?_ ?_ ?_ ?_ ?_ ?_ ?_ ?_ ?_ ?_ ?_ ?_ ?_ ?_ ?_ ?_ ?_ ?_ ?_ ?_ ?_ ?_ ?_ ?_ ?_ ?_ ?_ ?_ ?_ ?_ ?_ ?_ ?_ ?_ ?_ ?_ ?_ ?_ ?_ ?_ ?_ ?_ ?_ ?_ ?_ ?_ ?_ ?_ ?_ ?_ ?_ ?_ ?_ ?_ ?_ ?_ ?_ ?_ ?_ ?_ ?_ ?_ ?_ ?_ ?_ ?_ ?_ ?_ ?_ ?_ ?_ ?_ ?_ ?_ ?_ ?_ ?_ ?_ ?_ ?_ ?_ ?_ ?_ ?_ ?_ ?_ ?_ ?_ ?_ ?_ ?_ ?_ ?_ ?_ ?_ ?_ ?_ ?_ ?_ ?_ ?_ ?_ ?_ ?_ ?_ ?_ ?_
  all_goals first | (k_is; done) | (refine' ⟨?a,_,L2.N_ ?l ?c ?k⟩; (case a=>k_is); (case l=>k_is); (case c=>k_is); case k=>k_is) | (refine' ⟨?a,?i,_,L2.N_ ?l ?c ?k⟩; (case a=>k_is); (case i=>k_is); (case l=>k_is); (case c=>k_is); case k=>k_is) | (k_keys; done) | decide | kernel_rfl! | skip
end PartK23z
