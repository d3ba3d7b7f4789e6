import PyProof.Rows.All
import Wide.All
import OpenK.AllK
import Wide.FinOn
import Lean
import PyProof.EqAt
import PyProof.EqKinds
import PyProof.TupleCall
import PyProof.ZipIter
import PyProof.WalksEnum
import PyProof.EnumMake
import PyProof.NeKinds
import KE.KDictList
import PyProof.Rows.SetFrom
import PyProof.StrWalks
import PyProof.CollectWalk
import PyProof.Rows.SortWalk
import PyProof.Rows.BitMore
import PyProof.Rows.IntCalls
import KE.KRevIter
import PyProof.SetRoads
import OpenK.KTop
import PyProof.Rows.StrWeight2
import PyProof.SumWalk
import PyProof.SliceList
import PyProof.FactsAll.subtypes_4
import PyProof.StationsW
import PyProof.NsDelKeeps
import PyProof.Conv_int
import PyProof.StrLawsIn
import PyProof.MeetsStr2
import PyProof.Rows.CatFin
import PyProof.Rows.StrClose
import PyProof.StrLawsChain
import PyProof.MeetsStr
import PyProof.CallStr
import PyProof.Rows.ReprOcc
import PyProof.SeqI3
import PyProof.IsRules
import PyProof.Rows.StrCase
import PyProof.PureStr
import PySem.Challenge.RW_windchest_k12_organs_written_and_read
theorem byC {p:Prop} (h:¬¬p):p:=Classical.byContradiction h
local macro_rules | `(tactic| omega) => `(tactic| lia)
set_option Elab.async false
set_option linter.all false
set_option maxRecDepth 100000
namespace L2
open PySem PySem.Spec PyProof.Rows
noncomputable abbrev Key:=Sum Int Str
noncomputable def J3:Key->Value->Bool
 | .inl k,v=>Value.isInt k v
 | .inr x,v=>Value.isStrOf x v
noncomputable def bC (w:World):Key->Int
 | .inl k=>hashInt k
 | .inr x=>hashStr w x
theorem CN:∀ {k:Key} {v:Value},J3 k v=true->(∃ i t,k=Sum.inl i/\v=Value.int i t) \/ (∃ x t,k=Sum.inr x/\v=Value.str x t)
 | .inl i,v,h=>by
  obtain ⟨t,e⟩:=Value.isInt_shape (k:=i) (v:=v) h
  exact .inl ⟨i,t,rfl,e⟩
 | .inr x,v,h=>by
  obtain ⟨t,e⟩:=Value.isStrOf_shape (x:=x) (v:=v) h
  exact .inr ⟨x,t,rfl,e⟩
theorem QX (i:Int) (t:Tok):J3 (.inl i) (.int i t)=true:=by simp [J3,Value.isInt]
theorem QK (x:Str) (t:Tok):J3 (.inr x) (.str x t)=true:=by simp [J3,Value.isStrOf]
theorem WP (a b:Int):decide ((Sum.inl a:Key)=Sum.inl b)=(a == b):=by
 by_cases e:a=b
 ·subst e; simp
 ·have h:¬ (Sum.inl a:Key)=Sum.inl b:=fun q=>e (Sum.inl.inj q)
  rw [decide_eq_false h]
  exact (beq_eq_false_iff_ne.mpr e).symm
theorem WR (a b:Str):decide ((Sum.inr a:Key)=Sum.inr b)=decide (a=b):=by
 by_cases e:a=b
 ·subst e; simp
 ·have h:¬ (Sum.inr a:Key)=Sum.inr b:=fun q=>e (Sum.inr.inj q)
  rw [decide_eq_false h,decide_eq_false e]
theorem WX (a:Int) (b:Str):decide ((Sum.inl a:Key)=Sum.inr b)=false:=decide_eq_false (fun q=>nomatch q)
theorem Wv (a:Str) (b:Int):decide ((Sum.inr a:Key)=Sum.inl b)=false:=decide_eq_false (fun q=>nomatch q)
noncomputable def Ca (prog:Program) (w:World):PySem.KeyKind prog w Key where
 is:=J3
 hash:=bC w
 inj:=fun v a b ha hb=>by
  rcases CN ha with ⟨i,t,rfl,rfl⟩ | ⟨x,t,rfl,rfl⟩
  ·rcases CN hb with ⟨j,u,rfl,e⟩ | ⟨y,u,rfl,e⟩
   ·injection e with e1 _; rw [e1]
   ·exact nomatch e
  ·rcases CN hb with ⟨j,u,rfl,e⟩ | ⟨y,u,rfl,e⟩
   ·exact nomatch e
   ·injection e with e1 _; rw [e1]
 byValue:=fun k v h=>by
  rcases CN h with ⟨i,t,rfl,rfl⟩ | ⟨x,t,rfl,rfl⟩ <;> rfl
 pyHash:=fun hv h=>by
  rcases CN hv with ⟨i,t,rfl,rfl⟩ | ⟨x,t,rfl,rfl⟩
  ·exact wpAny_pyHash_int h
  ·exact wpAny_pyHash_str h
 eqBool:=fun hu hv h=>by
  rcases CN hu with ⟨i,t,rfl,rfl⟩ | ⟨x,t,rfl,rfl⟩
  ·rcases CN hv with ⟨j,u,rfl,rfl⟩ | ⟨y,u,rfl,rfl⟩
   ·rw [WP] at h; exact wpAny_eqBool_int h
   ·rw [WX] at h; exact SeqAt.EqAt.int_str i t y u _ _ _ _ h
  ·rcases CN hv with ⟨j,u,rfl,rfl⟩ | ⟨y,u,rfl,rfl⟩
   ·rw [Wv] at h; exact SeqAt.EqAt.str_int x t j u _ _ _ _ h
   ·rw [WR] at h; exact wpAny_eqBool_str h
 «strs»:=fun k x t v h=>by
  rcases CN h with ⟨i,u,rfl,e⟩ | ⟨y,u,rfl,e⟩
  ·exact nomatch e
  ·injection e with e1 _
   subst e1
   cases v <;> rfl
theorem LC (prog:Program) (w:World) (i:Int) (t:Tok):(Ca prog w).is (.inl i) (.int i t)=true:=QX i t
theorem Lr (prog:Program) (w:World) (x:Str) (t:Tok):(Ca prog w).is (.inr x) (.str x t)=true:=QK x t
end L2
namespace L2
open PySem PySem.Spec PyProof.Rows
inductive V where
 | non | bl (b:Bool) | int (i:Int) | str (x:Str) | byt (b:Array UInt8) | flt (b:UInt64) | ref (a:Addr) | ty (n:String)
 deriving DecidableEq
noncomputable def RelV:V->Value->Prop
 | .non,u=>u=Value.none
 | .bl b,u=>u=Value.bool b
 | .int i,u=>∃ t,u=Value.int i t
 | .str x,u=>∃ t,u=Value.str x t
 | .byt b,u=>∃ t,u=Value.bytes b t
 | .flt b,u=>∃ t,u=Value.float b t
 | .ref a,u=>u=Value.ref a
 | .ty n,u=>u=Value.type n
noncomputable abbrev Vals:List V->List Value->Prop:=Paired RelV
theorem Vals.length {xs:List V} {us:List Value} (r:Vals xs us):xs.length=us.length:=Paired.length r
theorem Vals.get:∀ {xs:List V} {us:List Value} {i:Nat} {x:V},Vals xs us->xs[i]? = some x->∃ u,us[i]? = some u/\RelV x u
 | _,_,_,_,.nil,e=>by simp at e
 | _,_,0,_,.cons r _,e=>by simp at e; subst e; exact ⟨_,rfl,r⟩
 | _,_,i+1,x,.cons _ t,e=>by
  obtain ⟨u,h1,h2⟩:=Vals.get (i:=i) (x:=x) t (by simpa using e)
  exact ⟨u,by simpa using h1,h2⟩
theorem Vals.append:∀ {xs ys:List V} {us ws:List Value},Vals xs us->Vals ys ws->Vals (xs++ys) (us++ws)
 | _,_,_,_,.nil,s=>s
 | _,_,_,_,.cons r t,s=>.cons r (Vals.append t s)
theorem Vals.take:∀ {xs:List V} {us:List Value} (n:Nat),Vals xs us->Vals (xs.take n) (us.take n)
 | _,_,0,_=>.nil
 | _,_,_+1,.nil=>.nil
 | _,_,n+1,.cons r t=>.cons r (Vals.take n t)
theorem Vals.drop:∀ {xs:List V} {us:List Value} (n:Nat),Vals xs us->Vals (xs.drop n) (us.drop n)
 | _,_,0,r=>r
 | _,_,_+1,.nil=>.nil
 | _,_,n+1,.cons _ t=>Vals.drop n t
noncomputable def GK:Option V->Option Value->Prop
 | some v,some u=>RelV v u
 | none,none=>True
 | _,_=>False
noncomputable def KV {κ:Type}:List (κ × V)->List (κ × Value)->Prop:=Paired fun (p:κ × V) (q:κ × Value)=>p.1=q.1/\RelV p.2 q.2
noncomputable def kV:Key->V
 | .inl i=>.int i
 | .inr x=>.str x
inductive HO where
 | lst (xs:List V)
 | tup (xs:List V)
 | dK (kvs:List (Key × V)) | dT (kvs:List (List Key × V))
 | set (S:Int->Bool) (n:Nat)
 | ins (C dx:Addr) (fs:List (Str × V))
 | own (x:Addr)
 | xd (fs:List (Str × V))
 | met (f x:Addr)
 | rng (lo hi:Int)
 | frz (o:Obj) (u:HO)
 | tbl (ps:Array Value)
 | ext (φ:Heap->Prop)
noncomputable abbrev Hp:=Addr->Option HO
noncomputable def upd (H:Hp) (a:Addr) (o:HO):Hp:=fun b=>if b=a then some o else H b
theorem Ah {H:Hp} {a:Addr} {o:HO}:upd H a o a=some o:=by unfold upd; rw [if_pos rfl]
theorem An {H:Hp} {a b:Addr} {o:HO} (h:b ≠ a):upd H a o b=H b:=by unfold upd; rw [if_neg h]
theorem Lb {H:Hp} {a b:Addr} {o u:HO} (h:H a=some o) (h':H b=some u) (d:o ≠ u):a ≠ b:=by
 intro e; subst e; rw [h] at h'; exact d (Option.some.inj h')
theorem Al {H:Hp} {a b:Addr} {o:HO} (h:H a=some o) (h':H b=none):a ≠ b:=by
 intro e; subst e; rw [h] at h'; cases h'
section
variable (P:Program) (w:World)
noncomputable def By (H:Hp) (h:Heap) (a:Addr):HO->Prop
 | .lst xs=>xs.length<=sizeLine/\∃ (its:List Value) (n:Nat),Vals xs its/\h.get? a=some { cls:=.type "list",data:=.seq its.toArray n }
 | .tup xs=>xs.length<=sizeLine/\∃ its:List Value,Vals xs its/\IsTup h a its.toArray
 | .dK kvs=>kvs.length<=sizeLine/\(a == sysModules)=false/\∃ vs,KV kvs vs/\h.DictOf (Ca P w) a vs
 | .dT kvs=>kvs.length<=sizeLine/\(a == sysModules)=false/\∃ xs:List (List Key × Addr × Value),
   Paired (fun (p:List Key × V) (q:List Key × Addr × Value)=>p.1=q.1/\H q.2.1=some (.tup (p.1.map kV))/\RelV p.2 q.2.2) kvs xs /\
   ∃ o es ep,h.get? a=some o/\o.ExactDict/\o.data=.dict es ep/\es.toList=xs.map (entryOfKey (tupleKind (Ca P w)))/\(xs.map (·.1)).Nodup
 | .set S n=>h.SetOf (intKind P w) a S n
 | .ins C dx fs=>H dx=some (.own a)/\fs.length<=1000/\dx ≠ a/\h.get? a=some (PySem.W.instObj C dx) /\
   ∃ mA,h.Ns1 dx mA/\(∀ f,GK (fs.lookup f) (mA f))/\PySem.Within mA (fs.map (·.1))
 | .own _=>∃ o,h.get? a=some o
 | .xd fs=>∃ mA,h.Ns1 a mA/\∀ f,GK (fs.lookup f) (mA f)
 | .rng lo hi=>∃ t u v,h.get? a=some { cls:=.type "range",data:=.fields #[.int lo t,.int hi u,.int 1 v] }
 | .frz o u=>h.get? a=some o/\By H h a u
 | .tbl ps=>h.get? a=some { cls:=.none,data:=.fields ps }
 | .met f x=>h.get? a=some (PySem.W.methodObj (.ref f) (.ref x))
 | .ext φ=>φ h/\(∃ o,h.get? a=some o)/\∀ h1 h2:Heap,φ h1->(∀ o,h1.get? a=some o->h2.get? a=some o)->φ h2
noncomputable def HJ (H:Hp) (h:Heap):Prop:=∀ a o,H a=some o->By P w H h a o
end
section
variable {P:Program} {w:World} {H H':Hp} {h h':Heap} {a:Addr} {o:HO}
theorem By.lt (x:By P w H h a o):a<h.objs.size:=by
 cases o with
 | lst xs=>obtain ⟨_,_,_,_,e⟩:=x; exact Heap.lt_size e
 | tup xs=>obtain ⟨_,_,_,p⟩:=x; exact p.lt
 | dK kvs=>obtain ⟨_,_,_,_,o,_,_,e,_⟩:=x; exact Heap.lt_size e
 | dT kvs=>obtain ⟨_,_,_,_,o,_,_,e,_⟩:=x; exact Heap.lt_size e
 | set S n=>obtain ⟨o,_,_,_,e,_⟩:=x; exact Heap.lt_size e
 | ins C dx fs=>obtain ⟨_,_,_,e,_⟩:=x; exact Heap.lt_size e
 | own y=>obtain ⟨_,e⟩:=x; exact Heap.lt_size e
 | xd fs=>obtain ⟨_,⟨_,_,_,e,_⟩,_⟩:=x; exact Heap.lt_size e
 | rng lo hi=>obtain ⟨_,_,_,e⟩:=x; exact Heap.lt_size e
 | frz ob u=>obtain ⟨e,_⟩:=x; exact Heap.lt_size e
 | tbl ps=>exact Heap.lt_size (show h.get? a=some _ from x)
 | met f y=>exact Heap.lt_size (show h.get? a=some _ from x)
 | ext φ=>obtain ⟨_,⟨_,e⟩,_⟩:=x; exact Heap.lt_size e
theorem Paired.Ex {α β:Type} {F G:α->β->Prop}:∀ {l₁:List α} {l₂:List β},Paired F l₁ l₂->(∀ a b,F a b->G a b)->Paired G l₁ l₂
 | _,_,.nil,_=>.nil
 | _,_,.cons r t,f=>.cons (f _ _ r) (Paired.Ex t f)
theorem By.stay (x:By P w H h a o) (k:∀ b u,(b=a \/ H b=some (.own a))->h.get? b=some u->h'.get? b=some u)
  (ho:∀ b,H b=some (.own a)->H' b=some (.own a)) (ht:∀ b xs,H b=some (.tup xs)->H' b=some (.tup xs)):By P w H' h' a o:=by
 induction o with
 | lst xs=>obtain ⟨z,its,n,r,e⟩:=x; exact ⟨z,its,n,r,k _ _ (.inl rfl) e⟩
 | tup xs=>obtain ⟨z,its,r,ob,e,c⟩:=x; exact ⟨z,its,r,ob,k _ _ (.inl rfl) e,c⟩
 | dK kvs=>obtain ⟨z,y,vs,r,ob,es,ep,e,c⟩:=x; exact ⟨z,y,vs,r,ob,es,ep,k _ _ (.inl rfl) e,c⟩
 | dT kvs =>
  obtain ⟨z,y,xs,r,ob,es,ep,e,c⟩:=x
  exact ⟨z,y,xs,Paired.Ex r fun p q z=>⟨z.1,ht _ _ z.2.1,z.2.2⟩,ob,es,ep,k _ _ (.inl rfl) e,c⟩
 | set S n=>obtain ⟨ob,es,ep,t,e,c⟩:=x; exact ⟨ob,es,ep,t,k _ _ (.inl rfl) e,c⟩
 | ins C dx fs =>
  refine byC fun w_=>?_;obtain ⟨d,z,ne,e,mA,⟨od,es,ep,e2,c⟩,r⟩:=x;refine w_ ?_
  exact ⟨ho _ d,z,ne,k _ _ (.inl rfl) e,mA,⟨od,es,ep,k _ _ (.inr d) e2,c⟩,r⟩
 | own y=>obtain ⟨ob,e⟩:=x; exact ⟨ob,k _ _ (.inl rfl) e⟩
 | xd fs=>obtain ⟨mA,⟨od,es,ep,e,c⟩,r⟩:=x; exact ⟨mA,⟨od,es,ep,k _ _ (.inl rfl) e,c⟩,r⟩
 | rng lo hi=>obtain ⟨t,u,v,e⟩:=x; exact ⟨t,u,v,k _ _ (.inl rfl) e⟩
 | frz ob u ih=>obtain ⟨e,q⟩:=x; exact ⟨k _ _ (.inl rfl) e,ih q⟩
 | tbl ps =>
  have e:h.get? a=some { cls:=.none,data:=.fields ps }:=x
  show h'.get? a=some { cls:=.none,data:=.fields ps }
  exact k a _ (.inl rfl) e
 | met f y =>
  have e:h.get? a=some (PySem.W.methodObj (.ref f) (.ref y)):=x
  show h'.get? a=some (PySem.W.methodObj (.ref f) (.ref y))
  exact k a _ (.inl rfl) e
 | ext φ=>obtain ⟨p,⟨o,e⟩,st⟩:=x; exact ⟨st _ _ p fun o q=>k _ _ (.inl rfl) q,⟨o,k _ _ (.inl rfl) e⟩,st⟩
theorem HJ.lt (x:HJ P w H h) (e:H a=some o):a<h.objs.size:=(x a o e).lt
theorem HJ.fresh (x:HJ P w H h) (e:h.objs.size<=a):H a=none:=by
 cases q:H a with
 | none=>rfl
 | some u=>exact absurd (Nat.lt_of_lt_of_le (x.lt q) e) (Nat.lt_irrefl _)
theorem HJ.kept (x:HJ P w H h) (k:∀ b u,h.get? b=some u->h'.get? b=some u):HJ P w H h':=fun a o e =>
 (x a o e).stay (fun b u _ q=>k b u q) (fun _ q=>q) fun _ _ q=>q
theorem HJ.laid (x:HJ P w H h) (k:∀ b u,h.get? b=some u->h'.get? b=some u) (hp:h.objs.size<=a) (new:By P w (upd H a o) h' a o):HJ P w (upd H a o) h':=fun b u e=>by
 have hn:=x.fresh hp
 by_cases hb:b=a
 ·subst hb; rw [Ah] at e; cases e; exact new
 ·rw [An hb] at e
  exact (x b u e).stay (fun c v _ q=>k c v q) (fun c q=>by rw [An (Al q hn)]; exact q) fun c xs q=>by rw [An (Al q hn)]; exact q
end
noncomputable def Rd (H:Hp) (a:Addr) (u:HO):Prop:=H a=some u \/ ∃ o,H a=some (.frz o u)
theorem Rd.ok {P:Program} {w:World} {H:Hp} {h:Heap} {a:Addr} {u:HO} (r:Rd H a u) (x:HJ P w H h):By P w H h a u:=by
 rcases r with r | ⟨o,r⟩
 ·exact x a u r
 ·obtain ⟨_,q⟩:=x a _ r
  exact q
noncomputable def Yk:Option HO->Prop
 | some (.lst _)=>True
 | some (.dK _)=>True
 | some (.dT _)=>True
 | some (.set _ _)=>True
 | some (.ins _ _ _)=>True
 | some (.ext _)=>True
 | _=>False
section
variable {P:Program} {w:World} {H:Hp} {h h':Heap} {x e:Addr} {o':HO}
theorem HJ.write (ok:HJ P w H h) (mu:Yk (H x)) (he:e=x \/ H e=some (.own x)) (k:∀ b u,b ≠ e->h.get? b=some u->h'.get? b=some u) (heo:∃ u,h'.get? e=some u)
  (new:By P w (upd H x o') h' x o'):HJ P w (upd H x o') h':=fun b u q=>by
 have nown:∀ c y,H c=some (.own y)->c ≠ x:=fun c y r z=>by subst z; rw [r] at mu; exact mu
 have ntup:∀ c xs,H c=some (.tup xs)->c ≠ x:=fun c xs r z=>by subst z; rw [r] at mu; exact mu
 by_cases hb:b=x
 ·subst hb; rw [Ah] at q; cases q; exact new
 ·rw [An hb] at q
  by_cases hbe:b=e
  ·have q':H b=some (.own x):=by
    rcases he with z | z
    ·exact absurd (hbe.trans z) hb
    ·rw [hbe]; exact z
   rw [q] at q'; cases q'
   obtain ⟨v,hv⟩:=heo
   exact ⟨v,by rw [hbe]; exact hv⟩
  ·refine (ok b u q).stay (fun c v hc r=>k c v ?_ r) (fun c r=>by rw [An (nown c b r)]; exact r) fun c xs r=>by rw [An (ntup c xs r)]; exact r
   rcases hc with rfl | hc
   ·exact hbe
   ·rintro rfl
    rcases he with z | z
    ·exact nown c b hc z
    ·rw [hc] at z; cases z; exact hb rfl
end
structure Un (fs ex:List Addr) (H H':Hp) (h h':Heap):Prop where
 keep:∀ b o,h.get? b=some o->H b=none->b ∉ fs->b ∉ ex->h'.get? b=some o
 slot:∀ b o,h.get? b=some o->H b=none->b∈fs->b ∉ ex->∃ sl,h'.get? b=some { o with slots:=sl }
 free:∀ b o,h.get? b=some o->H b=none->b ∉ ex->H' b=none
 there:∀ b o,h.get? b=some o->b ∉ ex->∃ o',h'.get? b=some o'
 tups:∀ b xs,H b=some (.tup xs)->H' b=some (.tup xs)
 frzs:∀ b o u,H b=some (.frz o u)->H' b=some (.frz o u)
 tbls:∀ b ps,H b=some (.tbl ps)->∃ more,H' b=some (.tbl (ps++more))
section
variable {fs fs' ex ex':List Addr} {H H1 H2:Hp} {h h1 h2 h':Heap} {a x e:Addr} {o:HO}
theorem Un.any (u:Un fs ex H H1 h h1) {b:Addr} {ob:Obj} (q:h.get? b=some ob) (n:H b=none) (hx:b ∉ ex):∃ sl,h1.get? b=some { ob with slots:=sl }:=by
 by_cases hb:b∈fs
 ·exact u.slot b ob q n hb hx
 ·exact ⟨ob.slots,u.keep b ob q n hb hx⟩
theorem Un.kept (k:∀ b u,h.get? b=some u->h'.get? b=some u):Un fs ex H H h h' :=
 ⟨fun b ob q _ _ _=>k b ob q,fun b ob q _ _ _=>⟨ob.slots,k b ob q⟩,fun _ _ _ n _=>n,fun b ob q _=>⟨ob,k b ob q⟩,fun _ _ q=>q,fun _ _ _ q=>q,fun _ ps q=>⟨#[],by rw [q]; simp⟩⟩
theorem Un.refl:Un fs ex H H h h:=Un.kept fun _ _ q=>q
theorem Un.laid (k:∀ b u,h.get? b=some u->h'.get? b=some u) (hp:h.objs.size<=a) (hn:H a=none):Un fs ex H (upd H a o) h h' where
 keep:=fun b u q _ _ _=>k b u q
 slot:=fun b u q _ _ _=>⟨u.slots,k b u q⟩
 free:=fun b u q n _=>by rw [An (Nat.ne_of_lt (Nat.lt_of_lt_of_le (Heap.lt_size q) hp))]; exact n
 there:=fun b u q _=>⟨u,k b u q⟩
 tups:=fun b xs q=>by rw [An (Al q hn)]; exact q
 frzs:=fun b u xs q=>by rw [An (Al q hn)]; exact q
 tbls:=fun b ps q=>⟨#[],by rw [An (Al q hn),q]; simp⟩
theorem Un.write (mu:Yk (H x)) (he:e=x \/ H e=some (.own x)) (k:∀ b u,b ≠ e->h.get? b=some u->h'.get? b=some u) (heo:∃ u,h'.get? e=some u):Un fs ex H (upd H x o) h h':=by
 have hx:∀ b,H b=none->b ≠ x:=fun b n z=>by subst z; rw [n] at mu; exact mu
 have hb:∀ b,H b=none->b ≠ e:=fun b n z=>by
  subst z
  rcases he with r | r
  ·exact hx b n r
  ·rw [n] at r; cases r
 have hm:∀ b u,H b=some u->¬ Yk (some u)->b ≠ x:=fun b u q nm z=>by subst z; rw [q] at mu; exact nm mu
 refine ⟨fun b u q n _ _=>k b u (hb b n) q,fun b u q n _ _=>⟨u.slots,k b u (hb b n) q⟩,fun b u q n _=>by rw [An (hx b n)]; exact n,fun b u q _=>?_,
  fun b xs q=>by rw [An (hm b _ q fun z=>z)]; exact q,fun b u xs q=>by rw [An (hm b _ q fun z=>z)]; exact q,fun b ps q=>⟨#[],by rw [An (hm b _ q fun z=>z),q]; simp⟩⟩
 by_cases hbe:b=e
 ·subst hbe; exact heo
 ·exact ⟨u,k b u hbe q⟩
end
noncomputable def aH (h:Heap) (H:Hp):List Addr:=(List.range h.objs.size).filter fun a=>(H a).isSome
noncomputable def KN (h:Heap) (H:Hp):Heap:=PySem.W.hideAll h (aH h H)
theorem QJ (h:Heap) (H:Hp):(KN h H).objs.size=h.objs.size:=PySem.W.hideAll_size _ _
theorem Rm {h:Heap} {H:Hp} {b:Addr} {o:Obj} (e:h.get? b=some o) (n:H b=none):(KN h H).get? b=some o :=
 PySem.W.hideAll_get _ e fun hm=>by
  have q:(H b).isSome=true:=(List.mem_filter.mp hm).2
  rw [n] at q; simp at q
theorem Uv {h:Heap} {H:Hp} {b:Addr} {o:Obj} (e:(KN h H).get? b=some o):h.get? b=some o/\H b=none:=by
 have e':h.get? b=some o:=PySem.W.of_hideAll (aH h H) e
 refine ⟨e',?_⟩
 cases q:H b with
 | none=>rfl
 | some x =>
  have hm:b∈aH h H:=List.mem_filter.mpr ⟨List.mem_range.mpr (Heap.lt_size e'),by simp [q]⟩
  have z:(KN h H).get? b=none:=PySem.W.hideAll_none (aH h H) hm
  rw [z] at e; cases e
noncomputable def Tw (g h:Heap) (L:Addr):List (Addr × Obj):=(List.range h.objs.size).filterMap fun a=>if a=L \/ (g.get? a).isSome=true then none else (h.get? a).map fun o=>(a,o)
noncomputable def rest (g h:Heap) (L d:Addr):List (Addr × Obj):=(Tw g h L).filter fun p=>decide (p.1 ≠ d)
end L2
namespace L2
open PySem PySem.Spec PyProof.Rows
structure Mod (K:PySem.W.Frag) (mg:Str->Option Value) (base:Heap):Prop where
 kin:K.In base
 glob:base.Ns mainGlobals mg
 blt:∃ mb,base.Ns builtinsNs mb/\∀ x:Str,x ≠ "__name__"->mb x=bootBuiltins x
 nolimit:base.NoLimit
structure Cx where
 prog:Program
 w:World
 K:PySem.W.Frag
 mg:Str->Option Value
 base:Heap
 A:Around
 N:List Str
 s₀:Shared
 H₀:Hp
 env:Env
 outer:List Env
 stack:List Env
 ex:List Addr
 fn:Str->Bool
 calm:Bool
 pn:List (Addr × Obj)
 xe:Value->Shared->Prop
noncomputable def frs (l:List Env):List Addr:=l.filterMap (·.frame)
noncomputable abbrev Cx.fs (X:Cx):List Addr:=frs X.outer
noncomputable def cT (sc:Scope) (x:Str):Prop:=sc.names.lookup x=some .local \/ sc.names.lookup x=some .cell \/ sc.names.lookup x=some .free
noncomputable def Loc (sc:Scope) (x:Str):Prop:=sc.names.lookup x=some .local \/ sc.names.lookup x=some .cell
noncomputable def Look (env:Env) (h:Heap) (m:Str->Option Value) (x:Str) (u:Value):Prop :=
 (env.kindOf x=some .local/\m x=some u) \/ ((env.kindOf x=some .cell \/ env.kindOf x=some .free)/\∃ c,env.cells.lookup x=some c/\h.IsCell c (some u))
structure Cx.Ok (X:Cx):Prop where
 mod:Mod X.K X.mg X.base
 kind:X.env.scope.kind=.function
 glob:X.env.globals=mainGlobals
 blt:X.env.builtins=builtinsNs
 above:X.s₀.heap.objs.size<=X.env.locals
 inj:∀ x y c,X.env.cells.lookup x=some c->X.env.cells.lookup y=some c->x=y
 has:∀ x,(X.env.kindOf x=some .cell \/ X.env.kindOf x=some .free)->∃ c,X.env.cells.lookup x=some c
 cab:∀ x c,X.fn x=true->X.env.cells.lookup x=some c->X.s₀.heap.objs.size<=c
 hd:X.calm=true->X.A.handled=none
 frames:X.A.frames=some X.stack
 stk:X.stack=X.outer \/ (X.stack=X.env::X.outer/\X.env.frame=some X.env.locals)
 exf:∀ b∈X.ex,b ≠ X.env.locals/\∀ x c,X.env.cells.lookup x=some c->c ≠ b
 bs:∀ b o,X.base.get? b=some o->X.s₀.heap.get? b=some o/\X.H₀ b=none
 bsz:X.base.objs.size<=X.s₀.heap.objs.size
 noex:∀ b o,X.base.get? b=some o->b ∉ X.ex
 exfs:∀ b∈X.ex,b ∉ X.fs
 Il:X.s₀.heap.FunFrames X.base X.outer
 frf:∀ b∈X.fs,X.H₀ b=none
structure Inv (X:Cx) (pins:List (Addr × Obj)) (σ:List (Option V)) (H:Hp) (s:Shared):Prop where
 ok:X.Ok
 os:s.os=X.s₀.os
 bare:AllBare s.gens
 base:Un X.fs X.ex X.H₀ H X.s₀.heap s.heap
 loc:∃ m,s.heap.Ns X.env.locals m/\∀ (i:Nat) (x:Str) (v:V),X.N[i]? = some x->σ[i]? = some (some v)->cT X.env.scope x->∃ u,RelV v u/\Look X.env s.heap m x u
 cell:∀ x c,X.env.cells.lookup x=some c->∃ v,s.heap.IsCell c v
 free:H X.env.locals=none
 freeC:∀ x c,X.env.cells.lookup x=some c->H c=none
 pin:∀ p∈X.pn++pins,s.heap.get? p.1=some p.2/\H p.1=none/\p.1 ≠ X.env.locals/\p.1 ∉ X.fs/\∀ v,p.2.data ≠ .cell v
 hok:HJ X.prog X.w H s.heap
 len:σ.length=X.N.length
section
variable {X:Cx} {pins:List (Addr × Obj)} {σ:List (Option V)} {H H':Hp} {s:Shared} {h':Heap}
theorem Cx.Ok.dj (ok:X.Ok) {b:Addr} {o:Obj} (e:X.base.get? b=some o):b ∉ X.fs:=fun hb=>by
 have:=(ok.Il.mem hb).1
 rw [e] at this; cases this
theorem Inv.bs (I:Inv X pins σ H s):∀ b o,X.base.get? b=some o->s.heap.get? b=some o/\H b=none:=fun b o e =>
 ⟨I.base.keep b o (I.ok.bs b o e).1 (I.ok.bs b o e).2 (I.ok.dj e) (I.ok.noex b o e),I.base.free b o (I.ok.bs b o e).1 (I.ok.bs b o e).2 (I.ok.noex b o e)⟩
theorem Inv.bk (I:Inv X pins σ H s):∀ b o,X.base.get? b=some o->s.heap.get? b=some o:=fun b o e=>(I.bs b o e).1
theorem Inv.mod (I:Inv X pins σ H s):Mod X.K X.mg X.base:=I.ok.mod
theorem Inv.Ho (I:Inv X pins σ H s):X.K.In s.heap:=I.ok.mod.kin.keeps I.bk
theorem Inv.lt (I:Inv X pins σ H s):X.env.locals<s.heap.objs.size:=let ⟨_,hn,_⟩:=I.loc; hn.lt
theorem Inv.sz (I:Inv X pins σ H s):X.s₀.heap.objs.size<=s.heap.objs.size:=Nat.le_trans I.ok.above (Nat.le_of_lt I.lt)
theorem Inv.cF (I:Inv X pins σ H s) {a:Addr} (h:s.heap.objs.size<=a):a ∉ X.fs:=fun hb=>by
 obtain ⟨_,o,ho,_⟩:=I.ok.Il.mem hb
 exact absurd (Nat.lt_of_lt_of_le (Heap.lt_size ho) (Nat.le_trans I.sz h)) (Nat.lt_irrefl _)
theorem Inv.Vy (I:Inv X pins σ H s):∀ x c,X.env.cells.lookup x=some c->c ≠ X.env.locals:=fun x c e z=>by
 obtain ⟨v,o,ho,hd⟩:=I.cell x c e
 obtain ⟨m,⟨o',es,ep,ho',hd',_⟩,_⟩:=I.loc
 rw [z,ho'] at ho; cases ho; rw [hd'] at hd; cases hd
theorem Inv.Il (I:Inv X pins σ H s):s.heap.FunFrames X.base X.outer:=by
 have all:∀ (l:List Env),(∀ b∈frs l,b∈X.fs)->X.s₀.heap.FunFrames X.base l->s.heap.FunFrames X.base l:=by
  intro l
  induction l with
  | nil=>intro _ _; trivial
  | cons env r ih =>
   intro hs hl
   obtain ⟨hk,⟨L,o,hf,hn,ho,hd⟩,hr⟩:=hl
   have hL:L∈X.fs:=hs L (by unfold frs; rw [List.filterMap_cons,hf]; exact List.mem_cons_self)
   obtain ⟨sl,e⟩:=I.base.slot L o ho (I.ok.frf L hL) hL fun z=>I.ok.exfs L z hL
   exact ⟨hk,⟨L,_,hf,hn,e,hd⟩,ih (fun b hb=>hs b (by unfold frs; rw [List.filterMap_cons,hf]; exact List.mem_cons_of_mem _ hb)) hr⟩
 exact all X.outer (fun _ hb=>hb) I.ok.Il
theorem Inv.stack (I:Inv X pins σ H s):s.heap.FunFrames X.base X.stack:=by
 rcases I.ok.stk with e | ⟨e,hf⟩
 ·rw [e]; exact I.Il
 ·rw [e]
  obtain ⟨m,hn,_⟩:=I.loc
  refine .cons (by rw [I.ok.kind]; decide) hf hn ?_ I.Il
  exact Heap.get?_none_of_le (Nat.le_trans I.ok.bsz I.ok.above)
theorem Inv.Kq (I:Inv X pins σ H s):∀ b∈frs X.stack,b∈X.env.locals::X.fs:=fun b hb=>by
 rcases I.ok.stk with e | ⟨e,hf⟩
 ·rw [e] at hb; exact List.mem_cons_of_mem _ hb
 ·rw [e] at hb
  unfold frs at hb
  rw [List.filterMap_cons,hf] at hb
  exact hb
theorem Inv.KY (I:Inv X pins σ H s):∀ b∈frs X.stack,H b=none:=fun b hb=>by
 rcases List.mem_cons.mp (I.Kq b hb) with e | hb
 ·rw [e]; exact I.free
 ·obtain ⟨_,o,ho,_⟩:=I.ok.Il.mem hb
  exact I.base.free b o ho (I.ok.frf b hb) fun z=>I.ok.exfs b z hb
theorem Inv.step {g':Array GenState} {t':Nat} {d':Drawn} {ch:List Addr} (I:Inv X pins σ H s)
  (hch:∀ b∈ch,(b∈X.ex \/ X.s₀.heap.objs.size<=b)/\b ≠ X.env.locals/\(∀ x c,X.env.cells.lookup x=some c->c ≠ b)/\∀ p∈X.pn++pins,p.1 ≠ b)
  (keep:∀ b o,b ≠ X.env.locals->b ∉ X.fs->b ∉ ch->s.heap.get? b=some o->H b=none->h'.get? b=some o)
  (slot:∀ b o,b ≠ X.env.locals->b∈X.fs->b ∉ ch->s.heap.get? b=some o->H b=none->∃ sl,h'.get? b=some { o with slots:=sl }) (free:∀ b o,b ∉ ch->s.heap.get? b=some o->H b=none->H' b=none)
  (there:∀ b o,b ∉ ch->s.heap.get? b=some o->∃ o',h'.get? b=some o')
  (tups:∀ b xs,H b=some (.tup xs)->H' b=some (.tup xs)) (frzs:∀ b o u,H b=some (.frz o u)->H' b=some (.frz o u)) (tbls:∀ b ps,H b=some (.tbl ps)->∃ more,H' b=some (.tbl (ps++more)))
  (ns:∀ m,s.heap.Ns X.env.locals m->h'.Ns X.env.locals m) (hok:HJ X.prog X.w H' h') (hg:AllBare g') :
  Inv X pins σ H' { s with heap:=h',gens:=g',drawn:=d',toks:=t' }:=by
 have neL:∀ b o,X.s₀.heap.get? b=some o->b ≠ X.env.locals:=fun b o e=>Nat.ne_of_lt (Nat.lt_of_lt_of_le (Heap.lt_size e) I.ok.above)
 have neC:∀ b o,X.s₀.heap.get? b=some o->b ∉ X.ex->b ∉ ch:=fun b o e hx hb=>by
  rcases (hch b hb).1 with z | z
  ·exact hx z
  ·exact absurd (Nat.lt_of_lt_of_le (Heap.lt_size e) z) (Nat.lt_irrefl _)
 have cellK:∀ x c,X.env.cells.lookup x=some c->∀ v,s.heap.IsCell c v->h'.IsCell c v:=fun x c e v ⟨o,ho,hd⟩=>by
  have nch:c ∉ ch:=fun z=>(hch c z).2.2.1 x c e rfl
  by_cases hc:c∈X.fs
  ·obtain ⟨sl,q⟩:=slot c o (I.Vy x c e) hc nch ho (I.freeC x c e)
   exact ⟨_,q,hd⟩
  ·exact ⟨o,keep c o (I.Vy x c e) hc nch ho (I.freeC x c e),hd⟩
 refine ⟨I.ok,I.os,hg,⟨fun b o e n hb hx=>?_,fun b o e n hb hx=>?_,fun b o e n hx=>?_,fun b o e hx=>?_,fun b xs e=>tups b xs (I.base.tups b xs e),fun b o xs e=>frzs b o xs (I.base.frzs b o xs e),fun b ps e=>?_⟩,?_,fun x c e=>?_,?_,fun x c e=>?_,fun p hp=>?_,hok,I.len⟩
 ·exact keep b o (neL b o e) hb (neC b o e hx) (I.base.keep b o e n hb hx) (I.base.free b o e n hx)
 ·obtain ⟨sl,e1⟩:=I.base.slot b o e n hb hx
  obtain ⟨sl',e2⟩:=slot b _ (neL b o e) hb (neC b o e hx) e1 (I.base.free b o e n hx)
  exact ⟨sl',e2⟩
 ·obtain ⟨o',e1⟩:=I.base.there b o e hx
  exact free b o' (neC b o e hx) e1 (I.base.free b o e n hx)
 ·obtain ⟨o',e1⟩:=I.base.there b o e hx
  exact there b o' (neC b o e hx) e1
 ·obtain ⟨m1,e1⟩:=I.base.tbls b ps e
  obtain ⟨m2,e2⟩:=tbls b _ e1
  exact ⟨m1++m2,by rw [e2,Array.append_assoc]⟩
 ·obtain ⟨m,hn,hl⟩:=I.loc
  refine ⟨m,ns m hn,fun i x v e1 e2 e3=>?_⟩
  obtain ⟨u,r,l⟩:=hl i x v e1 e2 e3
  refine ⟨u,r,?_⟩
  rcases l with l | ⟨k,c,e,z⟩
  ·exact .inl l
  ·exact .inr ⟨k,c,e,cellK x c e _ z⟩
 ·obtain ⟨v,z⟩:=I.cell x c e
  exact ⟨v,cellK x c e v z⟩
 ·obtain ⟨m,⟨o,_,_,ho,_⟩,_⟩:=I.loc
  exact free _ o (fun z=>(hch _ z).2.1 rfl) ho I.free
 ·obtain ⟨v,o,ho,hd⟩:=I.cell x c e
  exact free c o (fun z=>(hch c z).2.2.1 x c e rfl) ho (I.freeC x c e)
 ·obtain ⟨e,n,ne,nf,d⟩:=I.pin p hp
  have nch:p.1 ∉ ch:=fun z=>(hch p.1 z).2.2.2 p hp rfl
  exact ⟨keep p.1 p.2 ne nf nch e n,free p.1 p.2 nch e n,ne,nf,d⟩
theorem Inv.un {t':Nat} (I:Inv X pins σ H s) (u:Un X.fs [] H H' s.heap h') (hok:HJ X.prog X.w H' h'):Inv X pins σ H' { s with heap:=h',toks:=t' }:=by
 obtain ⟨m,⟨o,es,ep,ho,r⟩,_⟩:=id I.loc
 obtain ⟨sl,hL⟩:=u.any ho I.free (by simp)
 exact I.step (g':=s.gens) (d':=s.drawn) (ch:=[]) (fun _ z=>nomatch z) (fun b o _ hb _ e n=>u.keep b o e n hb (by simp)) (fun b o _ hb _ e n=>u.slot b o e n hb (by simp)) (fun b o _ e n=>u.free b o e n (by simp)) (fun b o _ e=>u.there b o e (by simp)) u.tups u.frzs u.tbls (fun m' hm=>by
  obtain ⟨o',es',ep',ho',r'⟩:=hm
  rw [ho] at ho'; cases ho'
  exact ⟨_,es',ep',hL,r'⟩) hok I.bare
theorem Inv.call {g':Array GenState} {t':Nat} {d':Drawn} {ch:List Addr} (I:Inv X pins σ H s) (u:Un (frs X.stack) ch H H' s.heap h') (hok:HJ X.prog X.w H' h') (hg:AllBare g')
  (hch:∀ b∈ch,(b∈X.ex \/ X.s₀.heap.objs.size<=b)/\b ≠ X.env.locals/\(∀ x c,X.env.cells.lookup x=some c->c ≠ b)/\∀ p∈X.pn++pins,p.1 ≠ b) :
  Inv X pins σ H' { s with heap:=h',gens:=g',drawn:=d',toks:=t' }:=by
 obtain ⟨m,⟨o,es,ep,ho,r⟩,_⟩:=id I.loc
 obtain ⟨sl,hL⟩:=u.any ho I.free fun z=>(hch _ z).2.1 rfl
 exact I.step (ch:=ch) hch (fun b o hL hb hc e n=>u.keep b o e n (fun z=>(List.mem_cons.mp (I.Kq b z)).elim hL hb) hc) (fun b o _ _ hc e n=>u.any e n hc) (fun b o hc e n=>u.free b o e n hc) (fun b o hc e=>u.there b o e hc) u.tups u.frzs u.tbls (fun m' hm=>by
  obtain ⟨o',es',ep',ho',r'⟩:=hm
  rw [ho] at ho'; cases ho'
  exact ⟨_,es',ep',hL,r'⟩) hok hg
theorem Inv.turned {t':Nat} {it:Addr} (I:Inv X pins σ H s) (k:∀ b o,b ≠ it->s.heap.get? b=some o->h'.get? b=some o) (hn:H it=none) (hL:it ≠ X.env.locals)
  (h1:it∈X.ex \/ X.s₀.heap.objs.size<=it) (h2:∀ x c,X.env.cells.lookup x=some c->c ≠ it) (h3:∀ p∈X.pn++pins,p.1 ≠ it):Inv X pins σ H { s with heap:=h',toks:=t' }:=by
 have nit:∀ b u,H b=some u->b ≠ it:=fun b u e z=>by rw [z,hn] at e; cases e
 refine I.step (g':=s.gens) (d':=s.drawn) (ch:=[it]) (fun b hb=>?_) (fun b o _ _ hc e _=>k b o (fun z=>hc (by simp [z])) e) (fun b o _ _ hc e _=>⟨o.slots,k b o (fun z=>hc (by simp [z])) e⟩) (fun _ _ _ _ n=>n)
  (fun b o hc e=>⟨o,k b o (fun z=>hc (by simp [z])) e⟩) (fun _ _ e=>e) (fun _ _ _ e=>e) (fun b ps e=>⟨#[],by rw [e]; simp⟩) (fun m hm=>?_) (fun b u e=>?_) I.bare
 ·have e:b=it:=by simpa using hb
  subst e
  exact ⟨h1,hL,h2,h3⟩
 ·obtain ⟨o,es,ep,ho,r⟩:=hm
  exact ⟨o,es,ep,k _ o (Ne.symm hL) ho,r⟩
 ·refine (I.hok b u e).stay (fun c v hc q=>k c v ?_ q) (fun _ q=>q) fun _ _ q=>q
  rcases hc with z | z
  ·rw [z]; exact nit b u e
  ·exact nit c _ z
theorem Inv.tok (I:Inv X pins σ H s) (t:Nat):Inv X pins σ H { s with toks:=t }:=I.un (h':=s.heap) (t':=t) Un.refl I.hok
theorem Inv.kept {t':Nat} (I:Inv X pins σ H s) (k:∀ b u,s.heap.get? b=some u->h'.get? b=some u):Inv X pins σ H { s with heap:=h',toks:=t' }:=I.un (Un.kept k) (I.hok.kept k)
theorem Inv.laid {a:Addr} {o:HO} {t':Nat} (I:Inv X pins σ H s) (k:∀ b u,s.heap.get? b=some u->h'.get? b=some u) (hp:s.heap.objs.size<=a) (new:By X.prog X.w (upd H a o) h' a o) :
  Inv X pins σ (upd H a o) { s with heap:=h',toks:=t' }:=I.un (Un.laid k hp (I.hok.fresh hp)) (I.hok.laid k hp new)
theorem Inv.write {x e:Addr} {o:HO} {t':Nat} (I:Inv X pins σ H s) (mu:Yk (H x)) (he:e=x \/ H e=some (.own x)) (k:∀ b u,b ≠ e->s.heap.get? b=some u->h'.get? b=some u) (heo:∃ u,h'.get? e=some u)
  (new:By X.prog X.w (upd H x o) h' x o):Inv X pins σ (upd H x o) { s with heap:=h',toks:=t' }:=I.un (Un.write mu he k heo) (I.hok.write mu he k heo new)
theorem Inv.PX {pins':List (Addr × Obj)} (I:Inv X pins σ H s) (h:∀ p∈pins',s.heap.get? p.1=some p.2/\H p.1=none/\p.1 ≠ X.env.locals/\p.1 ∉ X.fs/\∀ v,p.2.data ≠ .cell v):Inv X pins' σ H s :=
 ⟨I.ok,I.os,I.bare,I.base,I.loc,I.cell,I.free,I.freeC,fun p hp=>(List.mem_append.mp hp).elim (fun z=>I.pin p (List.mem_append_left _ z)) (h p),I.hok,I.len⟩
theorem Mr {N:List Str} (hN:N.Nodup) {i j:Nat} {x:Str} (a:N[i]? = some x) (b:N[j]? = some x):i=j:=by
 obtain ⟨h1,e1⟩:=List.getElem?_eq_some_iff.mp a
 obtain ⟨h2,e2⟩:=List.getElem?_eq_some_iff.mp b
 exact (List.getElem_inj hN).mp (e1.trans e2.symm)
theorem Jy {M:Model} {A:Around} {E:Value->Shared->Prop} {i:Nat} {x:Str} {v:V} {u:Value} {Q:Unit->Shared->Prop} (I:Inv X pins σ H s) (hN:X.N.Nodup) (hi:X.N[i]? = some x) (hx:Loc X.env.scope x) (r:RelV v u)
  (h:∀ s',Inv X pins (σ.set i (some v)) H s'->(∃ a,Heap.SameBut a s.heap s'.heap/\(a=X.env.locals \/ X.env.cells.lookup x=some a))->Q () s') (hf:X.fn x=true \/ X.env.scope.names.lookup x=some .local:=by first | exact .inl rfl | exact .inr rfl | assumption):wpAny M A (storeName X.env x u) Q E s:=by
 obtain ⟨m,hn,hl⟩:=id I.loc
 have hcls:(X.env.scope.kind == .class || (X.env.scope.kind == .module && X.env.locals != X.env.globals))=false:=by rw [I.ok.kind]; rfl
 have hiσ:i<σ.length:=by rw [I.len]; exact (List.getElem?_eq_some_iff.mp hi).1
 have Vy:=I.Vy
 have tracked:∀ {a:Addr} {h':Heap},(∃ o,s.heap.get? a=some o/\H a=none)->Heap.SameBut a s.heap h'->HJ X.prog X.w H h':=fun {a h'} ha hs b ob e=>by
  obtain ⟨_,_,hfree⟩:=ha
  refine (I.hok b ob e).stay (fun c w' hc q=>(hs.2 c ?_).trans q) (fun _ q=>q) fun _ _ q=>q
  rintro rfl
  rcases hc with rfl | hc
  ·rw [hfree] at e; cases e
  ·rw [hfree] at hc; cases hc
 rcases hx with hk | hk
 ·refine wpAny_storeName_local hk hn (fun h' hn' hs=>?_) hcls
  obtain ⟨oL,_,_,hoL,_⟩:=id hn
  refine h _ ⟨I.ok,I.os,I.bare,⟨fun b o e n hb hx=>?_,fun b o e n hb hx=>?_,I.base.free,fun b o e hx=>?_,I.base.tups,I.base.frzs,I.base.tbls⟩,⟨_,hn',fun j y v' e1 e2 e3=>?_⟩,fun y c e=>?_,I.free,I.freeC,fun p hp=>?_,tracked ⟨oL,hoL,I.free⟩ hs,by simpa using I.len⟩ ⟨_,hs,.inl rfl⟩
  ·exact (hs.2 b (Nat.ne_of_lt (Nat.lt_of_lt_of_le (Heap.lt_size e) I.ok.above))).trans (I.base.keep b o e n hb hx)
  ·obtain ⟨sl,e1⟩:=I.base.slot b o e n hb hx
   exact ⟨sl,(hs.2 b (Nat.ne_of_lt (Nat.lt_of_lt_of_le (Heap.lt_size e) I.ok.above))).trans e1⟩
  ·obtain ⟨o',e1⟩:=I.base.there b o e hx
   exact ⟨o',(hs.2 b (Nat.ne_of_lt (Nat.lt_of_lt_of_le (Heap.lt_size e) I.ok.above))).trans e1⟩
  ·by_cases hj:j=i
   ·subst hj
    rw [hi] at e1; cases e1
    rw [List.getElem?_set_self hiσ] at e2
    cases e2
    exact ⟨u,r,.inl ⟨hk,by simp⟩⟩
   ·rw [List.getElem?_set_ne (Ne.symm hj)] at e2
    obtain ⟨u',r',q⟩:=hl j y v' e1 e2 e3
    refine ⟨u',r',?_⟩
    rcases q with ⟨k,e⟩ | ⟨k,c,e,z⟩
    ·refine .inl ⟨k,?_⟩
     have:y ≠ x:=fun e=>hj (Mr hN e1 (e ▸ hi))
     simp [this,e]
    ·exact .inr ⟨k,c,e,z.sameBut hs (Vy y c e)⟩
  ·obtain ⟨w',z⟩:=I.cell y c e
   exact ⟨w',z.sameBut hs (Vy y c e)⟩
  ·obtain ⟨e,n,ne,nf,d⟩:=I.pin p hp
   exact ⟨(hs.2 p.1 ne).trans e,n,ne,nf,d⟩
 ·have hfn:X.fn x=true:=by
   rcases hf with z | z
   ·exact z
   ·rw [z] at hk; cases hk
  obtain ⟨c,hc⟩:=I.ok.has x (.inl hk)
  obtain ⟨w',z⟩:=I.cell x c hc
  refine wpAny_storeName_cell I.ok.kind hk hc z (fun h' hc' hs=>?_)
  obtain ⟨oc,hoc,hocd⟩:=id z
  refine h { s with heap:=h' } ⟨I.ok,I.os,I.bare,⟨fun b o e n hb hx=>?_,fun b o e n hb hx=>?_,I.base.free,fun b o e hx=>?_,I.base.tups,I.base.frzs,I.base.tbls⟩,⟨m,hn.sameBut hs (Ne.symm (Vy x c hc)),fun j y v' e1 e2 e3=>?_⟩,fun y c' e=>?_,I.free,I.freeC,fun p hp=>?_,tracked ⟨oc,hoc,I.freeC x c hc⟩ hs,by simpa using I.len⟩ ⟨c,hs,.inr hc⟩
  ·exact (hs.2 b (Nat.ne_of_lt (Nat.lt_of_lt_of_le (Heap.lt_size e) (I.ok.cab x c hfn hc)))).trans (I.base.keep b o e n hb hx)
  ·obtain ⟨sl,e1⟩:=I.base.slot b o e n hb hx
   exact ⟨sl,(hs.2 b (Nat.ne_of_lt (Nat.lt_of_lt_of_le (Heap.lt_size e) (I.ok.cab x c hfn hc)))).trans e1⟩
  ·obtain ⟨o',e1⟩:=I.base.there b o e hx
   exact ⟨o',(hs.2 b (Nat.ne_of_lt (Nat.lt_of_lt_of_le (Heap.lt_size e) (I.ok.cab x c hfn hc)))).trans e1⟩
  ·by_cases hj:j=i
   ·subst hj
    rw [hi] at e1; cases e1
    rw [List.getElem?_set_self hiσ] at e2
    cases e2
    exact ⟨u,r,.inr ⟨.inl hk,c,hc,hc'⟩⟩
   ·rw [List.getElem?_set_ne (Ne.symm hj)] at e2
    obtain ⟨u',r',q⟩:=hl j y v' e1 e2 e3
    refine ⟨u',r',?_⟩
    rcases q with q | ⟨k,c',e,z'⟩
    ·exact .inl q
    ·refine .inr ⟨k,c',e,z'.sameBut hs ?_⟩
     rintro rfl
     exact hj (Mr hN e1 (I.ok.inj _ _ _ e hc ▸ hi))
  ·by_cases hcc:c'=c
   ·subst hcc; exact ⟨_,hc'⟩
   ·obtain ⟨w2,z2⟩:=I.cell y c' e
    exact ⟨w2,z2.sameBut hs hcc⟩
  ·obtain ⟨e,n,ne,nf,d⟩:=I.pin p hp
   refine ⟨(hs.2 p.1 ?_).trans e,n,ne,nf,d⟩
   intro q
   rw [q,hoc] at e
   have q':oc=p.2:=Option.some.inj e
   exact d w' (by rw [← q']; exact hocd)
theorem JX {M:Model} {A:Around} {E:Value->Shared->Prop} {i:Nat} {x:Str} {v:V} {u:Value} {Q:Unit->Shared->Prop} (I:Inv X pins σ H s) (hN:X.N.Nodup) (hi:X.N[i]? = some x) (hx:Loc X.env.scope x) (r:RelV v u)
  (h:∀ s',Inv X pins (σ.set i (some v)) H s'->Q () s') (hf:X.fn x=true \/ X.env.scope.names.lookup x=some .local:=by first | exact .inl rfl | exact .inr rfl | assumption):wpAny M A (storeName X.env x u) Q E s :=
 Jy I hN hi hx r (fun s' I' _=>h s' I') hf
theorem Inv.call' {s':Shared} {ch:List Addr} (I:Inv X pins σ H s) (ho:s'.os=s.os) (u:Un (frs X.stack) ch H H' s.heap s'.heap) (hok:HJ X.prog X.w H' s'.heap) (hg:AllBare s'.gens)
  (hch:∀ b∈ch,(b∈X.ex \/ X.s₀.heap.objs.size<=b)/\b ≠ X.env.locals/\(∀ x c,X.env.cells.lookup x=some c->c ≠ b)/\∀ p∈X.pn++pins,p.1 ≠ b):Inv X pins σ H' s':=by
 obtain ⟨h',g',d',t',o'⟩:=s'
 have e:o'=s.os:=ho
 subst e
 exact I.call (g':=g') (t':=t') (d':=d') u hok hg hch
end
noncomputable abbrev XK:=Value->Option Addr->Hp->Prop
noncomputable abbrev St:=List (Option V)
noncomputable abbrev VK:=V->Hp->Prop
noncomputable abbrev TE:=St->Hp->VK->Prop
noncomputable abbrev TT:=St->Hp->(Bool->Hp->Prop)->Prop
noncomputable abbrev TA:=St->Hp->(List V->Hp->Prop)->Prop
structure Ends where
 nx:St->Hp->Prop
 rt:VK
 bk:St->Hp->Prop:=fun _ _=>False
 ct:St->Hp->Prop:=fun _ _=>False
noncomputable abbrev TS:=Ends->St->Hp->Prop
noncomputable def EP (X:Cx) (pins:List (Addr × Obj)) (σ:St) (Q:VK) (u:Value) (s':Shared):Prop:=∃ v H',Inv X pins σ H' s'/\RelV v u/\Q v H'
noncomputable def TP (X:Cx) (pins:List (Addr × Obj)) (σ:St) (Q:Bool->Hp->Prop) (b:Bool) (s':Shared):Prop:=∃ H',Inv X pins σ H' s'/\Q b H'
noncomputable def AP (X:Cx) (pins:List (Addr × Obj)) (σ:St) (Q:List V->Hp->Prop) (us:List Value) (s':Shared):Prop:=∃ vs H',Inv X pins σ H' s'/\Vals vs us/\Q vs H'
noncomputable def SP (X:Cx) (pins:List (Addr × Obj)) (D:Ends) (f:Flow) (s':Shared):Prop :=
 match f with
 | .next=>∃ σ' H',Inv X pins σ' H' s'/\D.nx σ' H'
 | .brk=>∃ σ' H',Inv X pins σ' H' s'/\D.bk σ' H'
 | .cont=>∃ σ' H',Inv X pins σ' H' s'/\D.ct σ' H'
 | .ret u=>∃ v σ' H',Inv X pins σ' H' s'/\RelV v u/\D.rt v H'
noncomputable def PE (X:Cx) (e:Expr) (t:TE):Prop :=
 ∀ (pins:List (Addr × Obj)) (s:Shared) (σ:St) (H:Hp) (Q:VK),Inv X pins σ H s->t σ H Q->wpAny (model X.prog X.w) X.A (eval e X.env) (EP X pins σ Q) X.xe s
noncomputable def PT (X:Cx) (e:Expr) (t:TT):Prop :=
 ∀ (pins:List (Addr × Obj)) (s:Shared) (σ:St) (H:Hp) (Q:Bool->Hp->Prop),Inv X pins σ H s->t σ H Q->wpAny (model X.prog X.w) X.A (isTrue e X.env (eval e X.env)) (TP X pins σ Q) X.xe s
noncomputable def PW (X:Cx) (e:Expr) (t:TT):Prop :=
 ∀ (whole:Sem Value) (pins:List (Addr × Obj)) (s:Shared) (σ:St) (H:Hp) (Q:Bool->Hp->Prop),Inv X pins σ H s->t σ H Q->wpAny (model X.prog X.w) X.A (isTrue e X.env whole) (TP X pins σ Q) X.xe s
theorem PW.pt {X:Cx} {e:Expr} {t:TT} (h:PW X e t):PT X e t:=h _
noncomputable def PA (X:Cx) (es:List Expr) (t:TA):Prop :=
 ∀ (pos:Pos) (pins:List (Addr × Obj)) (s:Shared) (σ:St) (H:Hp) (Q:List V->Hp->Prop),Inv X pins σ H s->t σ H Q->wpAny (model X.prog X.w) X.A (spliced (backTo pos (starEach es X.env))) (AP X pins σ Q) X.xe s
noncomputable def PS (X:Cx) (st:Stmt) (t:TS):Prop :=
 ∀ (pins:List (Addr × Obj)) (s:Shared) (σ:St) (H:Hp) (D:Ends),Inv X pins σ H s->t D σ H->wpAny (model X.prog X.w) X.A (exec st X.env) (SP X pins D) X.xe s
noncomputable def P_ (X:Cx) (st:List Stmt) (t:TS):Prop :=
 ∀ (pins:List (Addr × Obj)) (s:Shared) (σ:St) (H:Hp) (D:Ends),Inv X pins σ H s->t D σ H->wpAny (model X.prog X.w) X.A (execs st X.env) (SP X pins D) X.xe s
theorem CG {α:Type} {t:Sem α} {Q Q':α->Shared->Prop} {M:Model} {A:Around} {E:Value->Shared->Prop} {s:Shared} (h:wpAny M A t Q E s) (hQ:∀ a s,Q a s->Q' a s):wpAny M A t Q' E s:=wpAny_mono h hQ fun _ _ x=>x
end L2
namespace L2
open PySem PySem.Spec PyProof.Rows
section
variable {X:Cx}
noncomputable def Yw (i:Nat):TE:=fun σ H Q=>∃ v,σ[i]? = some (some v)/\Q v H
noncomputable def tC (v:V):TE:=fun _ H Q=>Q v H
theorem V7 {i:Nat} {x:Str} {pos:Pos} (hN:X.N[i]? = some x) (hv:cT X.env.scope x) (hd:(x == ("__debug__" : Str))=false:=by decide) (hcd:(x == ("__classdict__" : Str))=false:=by decide):PE X (.Name x pos) (Yw i):=by
 intro pins s σ H Q I h
 obtain ⟨v,e,h⟩:=h
 obtain ⟨m,hn,hl⟩:=I.loc
 obtain ⟨u,r,l⟩:=hl i x v hN e hv
 have fin:EP X pins σ Q u s:=⟨v,H,I,r,h⟩
 rcases l with ⟨hk,hm⟩ | ⟨hk,c,hc,hcell⟩
 ·exact wpAny_Name (wpAny_loadName_local I.ok.kind hk hn hm fin) hd
 ·rcases hk with hk | hk
  ·exact wpAny_Name (wpAny_loadName_cell I.ok.kind hk hc hcell fin) hd
  ·exact wpAny_Name (wpAny_loadName_free I.ok.kind hk hc hcell fin hcd) hd
theorem Ae {i j pos}:PE X (.Constant (.int i) j pos) (tC (.int i)):=fun _ _ _ H _ I h=>wpAny_Constant_int ⟨.int i,H,I.tok _,⟨_,rfl⟩,h⟩
theorem E_ {b j pos}:PE X (.Constant (.bool b) j pos) (tC (.bl b)):=fun _ _ _ H _ I h=>Constant_bool ⟨.bl b,H,I,rfl,h⟩
theorem JL {j pos}:PE X (.Constant .none j pos) (tC .non):=fun _ _ _ H _ I h=>Constant_none ⟨.non,H,I,rfl,h⟩
theorem Am {x j pos}:PE X (.Constant (.str x) j pos) (tC (.str x)):=fun _ _ _ H _ I h=>Calls.Constant_str ⟨.str x,H,I.tok _,⟨_,rfl⟩,h⟩
noncomputable def Gl (X:Cx) (x:Str):Prop:=X.env.kindOf x=some .globalImplicit
theorem Km {E:Value->Shared->Prop} {pins:List (Addr × Obj)} {s:Shared} {σ:St} {H:Hp} {x:Str} {u:Value} {pos:Pos} {Q:Value->Shared->Prop} (I:Inv X pins σ H s) (hg:Gl X x) (hm:X.mg x=some u) (h:Q u s)
  (hd:(x == ("__debug__" : Str))=false:=by decide):wpAny (model X.prog X.w) X.A (eval (.Name x pos) X.env) Q E s :=
 Calls.Name_function_global I.ok.kind hg (Calls.loadGlobal_global (by rw [I.ok.glob]; exact I.mod.glob.keeps I.bk) hm h) hd
theorem G_ {E:Value->Shared->Prop} {pins:List (Addr × Obj)} {s:Shared} {σ:St} {H:Hp} {x:Str} {u:Value} {pos:Pos} {Q:Value->Shared->Prop} (I:Inv X pins σ H s) (hg:Gl X x) (hm:X.mg x=none) (hv:bootBuiltins x=some u) (h:Q u s)
  (hn:x ≠ "__name__":=by decide) (hd:(x == ("__debug__" : Str))=false:=by decide):wpAny (model X.prog X.w) X.A (eval (.Name x pos) X.env) Q E s:=by
 obtain ⟨mb,h1,h2⟩:=I.mod.blt
 exact Calls.Name_function_global I.ok.kind hg (Calls.loadGlobal_builtin (by rw [I.ok.glob]; exact I.mod.glob.keeps I.bk) hm (by rw [I.ok.blt]; exact h1.keeps I.bk) ((h2 x hn).trans hv) h) hd
theorem CP {x:Str} {v:V} {u:Value} {pos:Pos} (hg:Gl X x) (hm:X.mg x=some u) (r:RelV v u) (hd:(x == ("__debug__" : Str))=false:=by decide):PE X (.Name x pos) (tC v) :=
 fun _ _ _ H _ I h=>Km I hg hm ⟨v,H,I,r,h⟩ hd
theorem CW {x:Str} {v:V} {u:Value} {pos:Pos} (hg:Gl X x) (hm:X.mg x=none) (hv:bootBuiltins x=some u) (r:RelV v u) (hn:x ≠ "__name__":=by decide) (hd:(x == ("__debug__" : Str))=false:=by decide):PE X (.Name x pos) (tC v) :=
 fun _ _ _ H _ I h=>G_ I hg hm hv ⟨v,H,I,r,h⟩ hn hd
variable {a b:Expr} {ta tb:TE} {pos:Pos}
noncomputable def PC (X:Cx) (op:CmpOp) (a b:Expr) (t:TE):Prop :=
 ∀ (pins:List (Addr × Obj)) (s:Shared) (σ:St) (H:Hp) (Q:VK),Inv X pins σ H s->t σ H Q ->
  wpAny (model X.prog X.w) X.A (eval a X.env) (fun v s₁=>wpAny (model X.prog X.w) X.A (eval b X.env) (fun u s₂=>wpAny (model X.prog X.w) X.A (compareOp op v u) (EP X pins σ Q) X.xe s₂) X.xe s₁) X.xe s
noncomputable def tB (t:TE):TT:=fun σ H Q=>t σ H fun x H1=>∃ c,x=.bl c/\Q c H1
theorem RZ {op:CmpOp} {t:TE} (h:PC X op a b t) (h1:behindInMarks op b=false:=by first | exact nobehind _ (by decide) (by decide) | rfl):PE X (.Compare a [op] [b] pos) t:=fun pins s σ H Q I hw=>wpAny_Compare1 (h pins s σ H Q I hw) h1
theorem WY {op:CmpOp} {t:TE} (h:PC X op a b t) (h1:behindInMarks op b=false:=by first | exact nobehind _ (by decide) (by decide) | rfl):PT X (.Compare a [op] [b] pos) (tB t):=by
 intro pins s σ H Q I hw
 refine wpAny_isTrue_Compare1 (CG (h pins s σ H _ I hw) fun v s1 h1=>CG h1 fun u s2 h2=>CG h2 fun c s3 ⟨x,H1,I1,r1,q1⟩=>?_) h1
 obtain ⟨d,rfl,q⟩:=q1
 cases r1
 exact wpAny_truthy_bool ⟨H1,I1,q⟩
theorem Cg {e:Expr} {t:TE} (h:PE X e t) (he:∀ whole,isTrue e X.env whole=(do let v ← whole; standAt e.pos; holding [v] (truthy v)):=by intro _; rfl):PT X e (tB t):=by
 intro pins s σ H Q I hw
 refine isTrue_plain (CG (h pins s σ H _ I hw) fun v s1 ⟨x,H1,I1,r1,q1⟩=>?_) (he _)
 obtain ⟨d,rfl,q⟩:=q1
 cases r1
 exact wpAny_truthy_bool ⟨H1,I1,q⟩
variable {tA tB':TT} {rest:List Expr}
noncomputable def eG (t u:TT):TT:=fun σ H Q=>t σ H fun c H1=>if c=true then u σ H1 Q else Q false H1
noncomputable def dq (t u:TT):TT:=fun σ H Q=>t σ H fun c H1=>if c=true then Q true H1 else u σ H1 Q
noncomputable def cX (t:TT):TT:=fun σ H Q=>t σ H fun c H1=>Q (!c) H1
theorem Fv (ha:PT X a tA):PW X (.BoolOp .And [a] pos) tA:=by
 intro wh pins s σ H Q I h
 refine isTrue_and (CG (ha pins s σ H Q I h) fun c s1 e=>?_)
 cases c with
 | true=>exact isTrue_and_nil e
 | false=>exact e
theorem Ek (ha:PT X a tA):PW X (.BoolOp .Or [a] pos) tA:=by
 intro wh pins s σ H Q I h
 refine isTrue_or (CG (ha pins s σ H Q I h) fun c s1 e=>?_)
 cases c with
 | false=>exact isTrue_or_nil e
 | true=>exact e
theorem Fi (ha:PT X a tA) (hb:PW X (.BoolOp .And (b::rest) pos) tB'):PW X (.BoolOp .And (a::b::rest) pos) (eG tA tB'):=by
 intro wh pins s σ H Q I h
 refine isTrue_and (CG (ha pins s σ H _ I h) fun c s1 hq0=>?_)
 obtain ⟨H1,I1,q1⟩:=hq0
 cases c with
 | true=>exact hb wh pins s1 σ H1 Q I1 q1
 | false=>exact ⟨H1,I1,q1⟩
theorem FQ (ha:PT X a tA) (hb:PW X (.BoolOp .Or (b::rest) pos) tB'):PW X (.BoolOp .Or (a::b::rest) pos) (dq tA tB'):=by
 intro wh pins s σ H Q I h
 refine isTrue_or (CG (ha pins s σ H _ I h) fun c s1 hq0=>?_)
 obtain ⟨H1,I1,q1⟩:=hq0
 cases c with
 | true=>exact ⟨H1,I1,q1⟩
 | false=>exact hb wh pins s1 σ H1 Q I1 q1
theorem Ci (ha:PT X a tA):PT X (.UnaryOp .Not a pos) (cX tA):=by
 intro pins s σ H Q I h
 exact isTrue_not (ha pins s σ H (fun c H1=>Q (!c) H1) I h)
noncomputable def Xq (ta tb:TE):TE:=fun σ H Q=>ta σ H fun x H1=>∃ c,x=.bl c/\if c=true then tb σ H1 Q else Q (.bl false) H1
noncomputable def fC (ta tb:TE):TE:=fun σ H Q=>ta σ H fun x H1=>∃ c,x=.bl c/\if c=true then Q (.bl true) H1 else tb σ H1 Q
noncomputable def Yp (ta:TE):TE:=fun σ H Q=>ta σ H fun x H1=>∃ c,x=.bl c/\Q (.bl (!c)) H1
theorem DN {op} {t:TE} (h:PE X a t):PE X (.BoolOp op [a] pos) t:=fun pins s σ H Q I hw=>BoolOp_one (h pins s σ H Q I hw)
theorem Dd (ha:PE X a ta) (hb:PE X (.BoolOp .And (b::rest) pos) tb):PE X (.BoolOp .And (a::b::rest) pos) (Xq ta tb):=by
 intro pins s σ H Q I h
 refine BoolOp_and (CG (ha pins s σ H _ I h) fun v s1 hq0=>?_)
 obtain ⟨x,H1,I1,r1,q1⟩:=hq0
 obtain ⟨c,rfl,q1⟩:=q1
 cases r1
 refine wpAny_truthy_bool ?_
 cases c with
 | true=>exact hb pins s1 σ H1 Q I1 q1
 | false=>exact ⟨.bl false,H1,I1,rfl,q1⟩
theorem Zw (ha:PE X a ta) (hb:PE X (.BoolOp .Or (b::rest) pos) tb):PE X (.BoolOp .Or (a::b::rest) pos) (fC ta tb):=by
 intro pins s σ H Q I h
 refine BoolOp_or (CG (ha pins s σ H _ I h) fun v s1 hq0=>?_)
 obtain ⟨x,H1,I1,r1,q1⟩:=hq0
 obtain ⟨c,rfl,q1⟩:=q1
 cases r1
 refine wpAny_truthy_bool ?_
 cases c with
 | false=>exact hb pins s1 σ H1 Q I1 q1
 | true=>exact ⟨.bl true,H1,I1,rfl,q1⟩
theorem Kp (ha:PE X a ta):PE X (.UnaryOp .Not a pos) (Yp ta):=by
 intro pins s σ H Q I h
 refine UnaryOp_ (CG (ha pins s σ H _ I h) fun v s1 hq0=>?_)
 obtain ⟨x,H1,I1,r1,q1⟩:=hq0
 obtain ⟨c,rfl,q1⟩:=q1
 cases r1
 exact not_of (wpAny_truthy_bool ⟨.bl (!c),H1,I1,rfl,q1⟩)
noncomputable def iM (t:TT) (ta tb:TE):TE:=fun σ H Q=>t σ H fun c H1=>if c=true then ta σ H1 Q else tb σ H1 Q
theorem MT {c:Expr} (hc:PT X c tA) (ha:PE X a ta) (hb:PE X b tb):PE X (.IfExp c a b pos) (iM tA ta tb):=by
 intro pins s σ H Q I h
 refine wpAny_IfExp (CG (hc pins s σ H _ I h) fun d s1 hq0=>?_)
 obtain ⟨H1,I1,q1⟩:=hq0
 cases d with
 | true=>exact ha pins s1 σ H1 Q I1 q1
 | false=>exact hb pins s1 σ H1 Q I1 q1
end
end L2
namespace L2
open PySem PySem.Spec PyProof.Rows
noncomputable def Cp (K:PySem.W.Frag) (H:Hp) (a:Addr) (xs:List V):Prop :=
 Rd H a (.lst xs) \/
  ∃ (o:Obj) (its:Array Value) (n:Nat),K.lookup a=some o/\o.cls=.type "list" /\ o.dict=none/\o.data=.seq its n/\its.size<=sizeLine/\Vals xs its.toList
noncomputable def Ey (K:PySem.W.Frag) (H:Hp) (a:Addr) (xs:List V):Prop :=
 Rd H a (.tup xs) \/
  ∃ (o:Obj) (its:Array Value) (n:Nat),K.lookup a=some o/\o.cls=.type "tuple" /\ o.data=.seq its n/\its.size<=sizeLine/\Vals xs its.toList
noncomputable def c7:Value->Option V
 | .none=>some .non
 | .bool b=>some (.bl b)
 | .int i _=>some (.int i)
 | .str x _=>some (.str x)
 | .bytes b _=>some (.byt b)
 | .float b _=>some (.flt b)
 | .ref a=>some (.ref a)
 | .type n=>some (.ty n)
 | _=>none
theorem RelV.abs {x:V} {u:Value} (r:RelV x u):c7 u=some x:=by
 cases x with
 | non=>cases r; rfl
 | bl _=>cases r; rfl
 | int _=>obtain ⟨t,rfl⟩:=r; rfl
 | str _=>obtain ⟨t,rfl⟩:=r; rfl
 | byt _=>obtain ⟨t,rfl⟩:=r; rfl
 | flt _=>obtain ⟨t,rfl⟩:=r; rfl
 | ref _=>cases r; rfl
 | ty _=>cases r; rfl
theorem RelV.inj {x y:V} {u:Value} (r:RelV x u) (q:RelV y u):x=y:=Option.some.inj (r.abs.symm.trans q.abs)
theorem Vals.inj:∀ {xs ys:List V} {us:List Value},Vals xs us->Vals ys us->xs=ys
 | _,_,_,.nil,.nil=>rfl
 | _,_,_,.cons r t,.cons r' t'=>by rw [r.inj r',Vals.inj t t']
section
variable {X:Cx} {pins:List (Addr × Obj)} {σ:St} {H:Hp} {s:Shared} {a:Addr} {xs ys:List V}
theorem Inv.list (I:Inv X pins σ H s) (h:Cp X.K H a xs):∃ its:List Value,Vals xs its/\PlainL s.heap a its.toArray/\xs.length<=sizeLine:=by
 rcases h with h | ⟨o,its,n,hk,hc,hd,hs,hz,r⟩
 ·obtain ⟨z,its,n,r,e⟩:=h.ok I.hok
  exact ⟨its,r,⟨_,n,e,rfl,rfl,rfl⟩,z⟩
 ·refine ⟨its.toList,r,⟨o,n,I.Ho a o hk,hc,hd,by simpa using hs⟩,?_⟩
  have e:=r.length
  simp only [Array.length_toList] at e
  omega
theorem Inv.tuple (I:Inv X pins σ H s) (h:Ey X.K H a xs):∃ its:List Value,Vals xs its/\IsTup s.heap a its.toArray/\xs.length<=sizeLine:=by
 rcases h with h | ⟨o,its,n,hk,hc,hs,hz,r⟩
 ·obtain ⟨z,its,r,p⟩:=h.ok I.hok
  exact ⟨its,r,p,z⟩
 ·refine ⟨its.toList,r,⟨o,I.Ho a o hk,hc,n,by simpa using hs⟩,?_⟩
  have e:=r.length
  simp only [Array.length_toList] at e
  omega
theorem Inv.Mi (I:Inv X pins σ H s) (h:Cp X.K H a xs) (h':Cp X.K H a ys):xs=ys:=by
 obtain ⟨its,r,⟨o,n,e,_,_,d⟩,_⟩:=I.list h
 obtain ⟨its',r',⟨o',n',e',_,_,d'⟩,_⟩:=I.list h'
 rw [e] at e'; cases e'
 rw [d] at d'
 injection d' with d1 _
 have:its=its':=by simpa using congrArg Array.toList d1
 subst this
 exact r.inj r'
theorem Inv.Ht (I:Inv X pins σ H s) (h:Ey X.K H a xs) (h':Ey X.K H a ys):xs=ys:=by
 obtain ⟨its,r,⟨o,e,_,n,d⟩,_⟩:=I.tuple h
 obtain ⟨its',r',⟨o',e',_,n',d'⟩,_⟩:=I.tuple h'
 rw [e] at e'; cases e'
 rw [d] at d'
 injection d' with d1 _
 have:its=its':=by simpa using congrArg Array.toList d1
 subst this
 exact r.inj r'
end
noncomputable abbrev Cx.wish (X:Cx) (E:Value->Shared->Prop):Cx:={ X with xe:=E }
noncomputable abbrev Cx.aA (X:Cx):Cx:=X.wish fun _ _=>False
theorem Cx.Ok.wish {X:Cx} (ok:X.Ok) (E:Value->Shared->Prop):(X.wish E).Ok :=
 ⟨ok.mod,ok.kind,ok.glob,ok.blt,ok.above,ok.inj,ok.has,ok.cab,ok.hd,ok.frames,ok.stk,ok.exf,ok.bs,ok.bsz,ok.noex,ok.exfs,ok.Il,ok.frf⟩
theorem Cx.Ok.Gd {X:Cx} {E:Value->Shared->Prop} (ok:(X.wish E).Ok):X.Ok :=
 ⟨ok.mod,ok.kind,ok.glob,ok.blt,ok.above,ok.inj,ok.has,ok.cab,ok.hd,ok.frames,ok.stk,ok.exf,ok.bs,ok.bsz,ok.noex,ok.exfs,ok.Il,ok.frf⟩
section
variable {X:Cx} {pins:List (Addr × Obj)} {σ:St} {H:Hp} {s:Shared} {E:Value->Shared->Prop}
theorem Inv.wish (I:Inv X pins σ H s) (E:Value->Shared->Prop):Inv (X.wish E) pins σ H s:=⟨I.ok.wish E,I.os,I.bare,I.base,I.loc,I.cell,I.free,I.freeC,I.pin,I.hok,I.len⟩
theorem Inv.Gd (I:Inv (X.wish E) pins σ H s):Inv X pins σ H s:=⟨I.ok.Gd,I.os,I.bare,I.base,I.loc,I.cell,I.free,I.freeC,I.pin,I.hok,I.len⟩
theorem SP.Gd {D:Ends} {f:Flow} {s':Shared} (h:SP (X.wish E) pins D f s'):SP X pins D f s':=by
 cases f with
 | next=>obtain ⟨σ',H',I,q⟩:=h; exact ⟨σ',H',I.Gd,q⟩
 | brk=>obtain ⟨σ',H',I,q⟩:=h; exact ⟨σ',H',I.Gd,q⟩
 | cont=>obtain ⟨σ',H',I,q⟩:=h; exact ⟨σ',H',I.Gd,q⟩
 | ret u=>obtain ⟨v,σ',H',I,r,q⟩:=h; exact ⟨v,σ',H',I.Gd,r,q⟩
theorem P_.aA {st:List Stmt} {t:TS} (h:P_ X.aA st t):P_ X st t:=fun pins s σ H D I hw =>
 wpAny_mono (h pins s σ H D (I.wish _) hw) (fun _ _ q=>q.Gd) fun _ _ z=>False.elim z
end
section
variable {X:Cx} {st:Stmt} {rest:List Stmt} {t u:TS} {e:Expr} {te:TE} {pos:Pos}
noncomputable def Vl:TS:=fun D σ H=>D.nx σ H
noncomputable def Vw (t u:TS):TS:=fun D σ H=>t { D with nx:=u D } σ H
theorem BZ:P_ X [] Vl:=fun _ _ σ H _ I h=>wpAny_execs_nil ⟨σ,H,I,h⟩
theorem Ac (h1:PS X st t) (h2:P_ X rest u):P_ X (st::rest) (Vw t u):=by
 intro pins s σ H D I h
 refine wpAny_execs_cons (CG (h1 pins s σ H { D with nx:=u D } I h) fun f s1 q=>?_)
 cases f with
 | next =>
  obtain ⟨σ',H',I',q⟩:=q
  exact h2 pins s1 σ' H' D I' q
 | ret v=>exact q
 | brk=>exact q
 | cont=>exact q
theorem Af (h1:PS X st t):P_ X [st] t:=by
 intro pins s σ H D I h
 refine wpAny_execs_cons (CG (h1 pins s σ H D I h) fun f s1 q=>?_)
 cases f with
 | next=>exact wpAny_execs_nil q
 | ret v=>exact q
 | brk=>exact q
 | cont=>exact q
noncomputable def V5:TS:=fun D σ H=>D.bk σ H
theorem RP:PS X (.Break pos) V5:=fun _ _ σ H _ I h=>wpAny_Break ⟨σ,H,I,h⟩
theorem Inv.quiet {pins:List (Addr × Obj)} {σ:St} {H:Hp} {s:Shared} (I:Inv X pins σ H s):interactive X.env=false:=by simp [interactive,I.ok.kind]
noncomputable def W3 (te:TE):TS:=fun D σ H=>te σ H fun _ H1=>D.nx σ H1
theorem CZ (he:PE X e te) (hs:swapsWith e none pos.line X.env=pure false:=by rfl):PS X (.Expr e pos) (W3 te):=by
 intro pins s σ H D I h
 exact wpAny_Expr_any (CG (he pins s σ H _ I h) fun v s1 ⟨x,H1,I1,r1,q1⟩=>⟨σ,H1,I1,q1⟩) I.quiet hs
noncomputable def cC (te:TE):TS:=fun D σ H=>te σ H D.rt
theorem Aw (he:PE X e te):PS X (.Return (some e) pos) (cC te):=by
 intro pins s σ H D I h
 exact wpAny_Return_some (CG (he pins s σ H _ I h) fun v s1 ⟨x,H1,I1,r1,q1⟩=>⟨x,σ,H1,I1,r1,q1⟩)
noncomputable def TF (c:TT) (t u:TS):TS:=fun D σ H=>c σ H fun b H1=>if b=true then t D σ H1 else u D σ H1
theorem Bh {c:Expr} {a b:List Stmt} {tc:TT} (hc:PT X c tc) (ha:P_ X a t) (hb:P_ X b u):PS X (.If c a b pos) (TF tc t u):=by
 intro pins s σ H D I h
 refine wpAny_If (CG (hc pins s σ H _ I h) fun d s1 hq0=>?_)
 obtain ⟨H1,I1,q1⟩:=hq0
 cases d with
 | true=>exact ha pins s1 σ H1 D I1 q1
 | false=>exact hb pins s1 σ H1 D I1 q1
noncomputable def Vt:TS:=fun _ _ _=>False
theorem FN:PS X st Vt:=fun _ _ _ _ _ _ h=>h.elim
end
noncomputable abbrev TG:=V->St->Hp->(St->Hp->Prop)->Prop
noncomputable abbrev Wo:=List V->St->Hp->(St->Hp->Prop)->Prop
noncomputable def PG (X:Cx) (target:Expr) (t:TG):Prop :=
 ∀ (pins:List (Addr × Obj)) (s:Shared) (σ:St) (H:Hp) (v:V) (u:Value) (Q:St->Hp->Prop),Inv X pins σ H s->RelV v u->t v σ H Q ->
  wpAny (model X.prog X.w) X.A (assign target X.env u) (fun _ s'=>∃ σ' H',Inv X pins σ' H' s'/\Q σ' H') X.xe s
noncomputable def ak (X:Cx) (ts:List Expr) (t:Wo):Prop :=
 ∀ (pins:List (Addr × Obj)) (s:Shared) (σ:St) (H:Hp) (vs:List V) (us:List Value) (Q:St->Hp->Prop),Inv X pins σ H s->Vals vs us->t vs σ H Q ->
  wpAny (model X.prog X.w) X.A (assignInOrder ((assignEach ts X.env).map (·.2)) us) (fun _ s'=>∃ σ' H',Inv X pins σ' H' s'/\Q σ' H') X.xe s
section
variable {X:Cx} {pos:Pos}
noncomputable def DR (i:Nat):TG:=fun v σ H Q=>Q (σ.set i (some v)) H
theorem Bx {i:Nat} {x:Str} (hN:X.N.Nodup) (hi:X.N[i]? = some x) (hx:Loc X.env.scope x) (hf:X.fn x=true \/ X.env.scope.names.lookup x=some .local:=by first | exact .inl rfl | exact .inr rfl | assumption):PG X (.Name x pos) (DR i):=by
 intro pins s σ H v u Q I r h
 exact wpAny_assign_Name (JX I hN hi hx r (fun s' I'=>⟨_,H,I',h⟩) hf)
noncomputable def Uo:Wo:=fun vs σ H Q=>vs=[]/\Q σ H
noncomputable def JM (t:TG) (u:Wo):Wo:=fun vs σ H Q=>∃ v r,vs=v::r/\t v σ H fun σ' H'=>u r σ' H' Q
theorem Iu:ak X [] Uo:=by
 intro pins s σ H vs us Q I r h
 obtain ⟨e,h⟩:=h
 subst e
 cases r
 exact assignInOrder_nil ⟨σ,H,I,h⟩
theorem Dz {e:Expr} {es:List Expr} {t:TG} {u:Wo} (h1:PG X e t) (h2:ak X es u)
  (hs:(assignEach (e::es) X.env).map (·.2)=assign e X.env::(assignEach es X.env).map (·.2):=by rfl):ak X (e::es) (JM t u):=by
 intro pins s σ H vs us Q I r h
 obtain ⟨v,vr,e1,h⟩:=h
 subst e1
 cases r with
 | cons r rr =>
  rw [hs]
  refine assignInOrder_cons (CG (h1 pins s σ H _ _ _ I r h) fun _ s1 hq0=>?_)
  obtain ⟨σ1,H1,I1,q1⟩:=hq0
  exact h2 pins s1 σ1 H1 _ _ Q I1 rr q1
noncomputable def UV (K:PySem.W.Frag) (n:Nat) (t:Wo):TG:=fun v σ H Q=>∃ a xs,v=.ref a/\Ey K H a xs/\xs.length=n/\t xs σ H Q
theorem Ks {es:List Expr} {k:Nat} {t:Wo} {n:Nat} (hc:X.calm=true) (h:ak X es t)
  (hn:(assignEach es X.env).length=n:=by rfl) (hst:(assignEach es X.env).findIdx? (·.1)=none:=by rfl):PG X (.Tuple es k pos) (UV X.K n t):=by
 intro pins s σ H v u Q I r hw
 obtain ⟨a,xs,e1,hq,hl,hw⟩:=hw
 subst e1
 cases r
 obtain ⟨its,rv,ht,hz⟩:=I.tuple hq
 refine assign_Tuple_tuple (I.ok.hd hc) ht (by simp [hn,← hl,rv.length]) hst fun h' hx=>?_
 have I1:Inv X pins σ H { s with heap:=h' }:=I.kept (t':=s.toks) fun b o e=>hx b o (Nat.ne_of_lt (Heap.lt_size e)) e
 exact h pins _ σ H xs _ Q I1 (by simpa using rv) hw
noncomputable def V6 (te:TE) (g:TG):TS:=fun D σ H=>te σ H fun x H1=>g x σ H1 D.nx
theorem BP {i:Nat} {x:Str} {e:Expr} {te:TE} {pos':Pos} (hN:X.N.Nodup) (hi:X.N[i]? = some x) (hx:Loc X.env.scope x) (he:PE X e te) (hs:swapsWith e (some (.Name x pos')) pos.line X.env=pure false:=by rfl) (hf:X.fn x=true \/ X.env.scope.names.lookup x=some .local:=by first | exact .inl rfl | exact .inr rfl | assumption) :
  PS X (.Assign [.Name x pos'] e pos) (V6 te (DR i)):=by
 intro pins s σ H D I h
 refine wpAny_Assign_Name (CG (he pins s σ H _ I h) fun v s1 ⟨y,H1,I1,r1,q1⟩=>?_) hs
 exact JX I1 hN hi hx r1 (fun s2 I2=>⟨_,H1,I2,q1⟩) hf
end
section
variable {X:Cx} {pos:Pos}
noncomputable def Vn (c:TT) (tb:TS):TS:=fun D σ H=>∃ W:Nat->St->Hp->Prop,(∃ m,W m σ H)/\∀ m σ H,W m σ H ->
 c σ H fun b H1=>if b=true then ∃ N:St->Hp->Prop,(∀ σ' H',N σ' H'->∃ m',m'<m/\W m' σ' H')/\tb { D with nx:=N,ct:=N,bk:=D.nx } σ H1 else D.nx σ H1
theorem Rh {c:Expr} {body:List Stmt} {tc:TT} {tb:TS} (hp:PassesOwn (model X.prog X.w) X.A X.env X.xe) (hc:PT X c tc) (hb:P_ X body tb):PS X (.While c body [] pos) (Vn tc tb):=by
 intro pins s σ H D I h
 obtain ⟨W,⟨m0,w0⟩,turn⟩:=h
 refine wpAny_While (codeAny_whileLoop (fun n s'=>∃ σ' H',Inv X pins σ' H' s'/\W n σ' H') ?_ m0 ⟨σ,H,I,w0⟩)
 rintro n s1 ⟨σ1,H1,I1,w1⟩
 refine wpAny_passesOwn hp (CG (hc pins s1 σ1 H1 _ I1 (turn n σ1 H1 w1)) fun b s2 hq0=>?_)
 obtain ⟨H2,I2,q2⟩:=hq0
 cases b with
 | true =>
  obtain ⟨N,hN,q2⟩:=q2
  rw [if_pos rfl]
  refine wpAny_passesOwn hp (CG (hb pins s2 σ1 H2 _ I2 q2) fun f s3 q3=>?_)
  cases f with
  | next =>
   obtain ⟨σ3,H3,I3,n3⟩:=q3
   obtain ⟨m',hm,w3⟩:=hN σ3 H3 n3
   exact ⟨m',hm,σ3,H3,I3,w3⟩
  | cont =>
   obtain ⟨σ3,H3,I3,n3⟩:=q3
   obtain ⟨m',hm,w3⟩:=hN σ3 H3 n3
   exact ⟨m',hm,σ3,H3,I3,w3⟩
  | brk=>exact q3
  | ret v=>exact q3
 | false =>
  rw [if_neg Bool.false_ne_true]
  exact wpAny_execs_nil ⟨σ1,H2,I2,q2⟩
end
structure It where
 go:Nat->Hp->Prop
 yld:Nat->Hp->V->Hp->Prop
 stop:Nat->Hp->Prop
noncomputable def Fj (X:Cx) (pins:List (Addr × Obj)) (H:Hp) (b:Addr):Prop :=
 H b=none/\b ≠ X.env.locals/\b ∉ X.fs/\(b∈X.ex \/ X.s₀.heap.objs.size<=b)/\(∀ x c,X.env.cells.lookup x=some c->c ≠ b)/\∀ p∈X.pn++pins,p.1 ≠ b
theorem Inv.Kf {X:Cx} {pins:List (Addr × Obj)} {σ:St} {H H':Hp} {s:Shared} {b:Addr} (I:Inv X pins σ H s) (hb:s.heap.objs.size<=b) (hn:H' b=none):Fj X pins H' b:=by
 refine ⟨hn,Nat.ne_of_gt (Nat.lt_of_lt_of_le I.lt hb),I.cF hb,.inr (Nat.le_trans I.sz hb),fun x c e z=>?_,fun p hp z=>?_⟩
 ·obtain ⟨v,q⟩:=I.cell x c e
  exact absurd (Nat.lt_of_lt_of_le q.lt (by rw [z]; exact hb)) (Nat.lt_irrefl _)
 ·exact absurd (Nat.lt_of_lt_of_le (Heap.lt_size (I.pin p hp).1) (by rw [z]; exact hb)) (Nat.lt_irrefl _)
structure Turn (P:Program) (w:World) (K:PySem.W.Frag) (tg:Expr) (J:It) (fp:List Addr) (it:Addr) (tn:Nat->Heap->Prop):Prop where
 mem:it∈fp
 obj:∀ i h,tn i h->∀ b∈fp,∃ o,h.get? b=some o/\∀ v,o.data ≠ .cell v
 keep:∀ i h h',tn i h->(∀ b∈fp,∀ o,h.get? b=some o->h'.get? b=some o)->tn i h'
 item:∀ (X:Cx),X.prog=P->X.w=w->X.K=K->X.calm=true->∀ (i:Nat) (pins:List (Addr × Obj)) (s:Shared) (σ:St) (H:Hp) (E:Value->Shared->Prop),Inv X pins σ H s->(∀ b∈fp,Fj X pins H b)->tn i s.heap->J.go i H ->
  wpAny (model P w) X.A (pyNext (.ref it)) (fun r s1=>∃ u,r=some u /\
   wpAny (model P w) X.A (letOwnedTupleGo tg (.ref it) u) (fun _ s2=>∃ x H',Inv X pins σ H' s2/\RelV x u/\J.yld i H x H'/\tn (i+1) s2.heap/\∀ b∈fp,H' b=none) E s1) E s
 done:∀ (X:Cx),X.prog=P->X.w=w->X.K=K->X.calm=true->∀ (i:Nat) (pins:List (Addr × Obj)) (s:Shared) (σ:St) (H:Hp) (E:Value->Shared->Prop),Inv X pins σ H s->(∀ b∈fp,Fj X pins H b)->tn i s.heap->J.stop i H ->
  wpAny (model P w) X.A (pyNext (.ref it)) (fun r s1=>r=none/\Inv X pins σ H s1) E s
 self:∀ (A:Around) (i:Nat) (s:Shared) (Q:Value->Shared->Prop) (E:Value->Shared->Prop),tn i s.heap->Q (.ref it) s->wpAny (model P w) A (pyIter (.ref it)) Q E s
noncomputable abbrev TI:=St->Hp->(It->Hp->Prop)->Prop
noncomputable def PIE (X:Cx) (pins:List (Addr × Obj)) (σ:St) (tg:Expr) (R:It->Hp->Prop) (itv:Value) (s2:Shared):Prop :=
 ∃ (it:Addr) (fp:List Addr) (tn:Nat->Heap->Prop) (J:It) (H':Hp),itv=.ref it/\Inv X pins σ H' s2/\Turn X.prog X.w X.K tg J fp it tn/\tn 0 s2.heap/\(∀ b∈fp,Fj X pins H' b)/\R J H'
noncomputable def PI (X:Cx) (tg iter:Expr) (wi:TI):Prop :=
 ∀ (pins:List (Addr × Obj)) (s:Shared) (σ:St) (H:Hp) (R:It->Hp->Prop),Inv X pins σ H s->wi σ H R ->
  wpAny (model X.prog X.w) X.A (eval iter X.env) (fun v s1=>wpAny (model X.prog X.w) X.A (pyIter v) (PIE X pins σ tg R) X.xe s1) X.xe s
theorem Mj {M:Model} {A:Around} {E:Value->Shared->Prop} {s:Shared} {tg:Expr} {it:Addr} {u:Value} {o:Obj} {n:String} {vs:Array Value} {Q:Unit->Shared->Prop} (ho:s.heap.get? it=some o) (hc:o.cls=.type n) (hd:o.data=.fields vs)
  (hn:["enumerate","zip","dict_itemiterator","dict_reverseitemiterator","odict_iterator","itertools.zip_longest","itertools.pairwise"].contains n=false) (hQ:Q () s):wpAny M A (letOwnedTupleGo tg (.ref it) u) Q E s:=by
 unfold letOwnedTupleGo
 cases tg <;> first
  | exact wpAny_pure hQ
  | (cases u <;> first
    | exact wpAny_pure hQ
    | (refine wpAny_bind (wpAny_load ho ?_)
       rw [hc,hd]
       show wpAny M A (if (["enumerate","zip","dict_itemiterator","dict_reverseitemiterator","odict_iterator","itertools.zip_longest","itertools.pairwise"].contains n && vs[0]? == some (rawInt _))=true then _ else _) Q E s
       rw [if_neg (by intro h; rw [hn,Bool.false_and] at h; cases h)]
       exact wpAny_pure hQ))
noncomputable def Wm (K:PySem.W.Frag) (a:Addr):It :=
 ⟨fun i H=>∃ xs x,Cp K H a xs/\xs[i]? = some x,fun i H x H'=>H'=H/\∀ xs,Cp K H a xs->xs[i]? = some x,fun i H=>∃ xs,Cp K H a xs/\xs.length<=i⟩
noncomputable def Ww (K:PySem.W.Frag) (a:Addr):It :=
 ⟨fun i H=>∃ xs x,Ey K H a xs/\xs[i]? = some x,fun i H x H'=>H'=H/\∀ xs,Ey K H a xs->xs[i]? = some x,fun i H=>∃ xs,Ey K H a xs/\xs.length<=i⟩
noncomputable def VF (lo:Int) (n:Nat):It:=⟨fun i _=>i<n,fun i H x H'=>H'=H/\x=.int (lo+i),fun i _=>n<=i⟩
theorem Pz {P:Program} {w:World} {K:PySem.W.Frag} {tg:Expr} (a it:Addr):Turn P w K tg (Wm K a) [it] it (fun i h=>h.IsListIter it a i) where
 mem:=by simp
 obj:=fun i h st b hb=>by
  have e:b=it:=by simpa using hb
  subst e
  obtain ⟨o,e,c,d⟩:=st
  exact ⟨o,e,fun v z=>by rw [d] at z; cases z⟩
 keep:=fun i h h' st k=>st.at fun o e=>k it (by simp) o e
 item:=by
  intro X hP hw hK hc i pins s σ H E I hf st hg
  subst hP hw hK
  obtain ⟨xs,x,hq,hx⟩:=hg
  obtain ⟨its,rv,p,hz⟩:=I.list hq
  obtain ⟨u,hu,ru⟩:=rv.get hx
  obtain ⟨f0,f1,f2,f3,f4,f5⟩:=hf it (by simp)
  refine wpAny_pyNext_list_item st p.isList (x:=u) (by simpa using hu) fun h' st' sb=>?_
  have I1:Inv X pins σ H { s with heap:=h' }:=I.turned (t':=s.toks) (fun b o hb e=>(sb.2 b hb).trans e) f0 f1 f3 f4 f5
  obtain ⟨o,e,c,d⟩:=id st'
  exact ⟨u,rfl,Mj (s:={ s with heap:=h' }) e c d (by decide) ⟨x,H,I1,ru,⟨rfl,fun ys hy=>by rw [I.Mi hy hq]; exact hx⟩,st',fun b hb=>(hf b hb).1⟩⟩
 done:=by
  intro X hP hw hK hc i pins s σ H E I hf st hg
  subst hP hw hK
  obtain ⟨xs,hq,hx⟩:=hg
  obtain ⟨its,rv,p,hz⟩:=I.list hq
  obtain ⟨f0,f1,f2,f3,f4,f5⟩:=hf it (by simp)
  have hl:=rv.length
  exact wpAny_pyNext_list_end (I.ok.hd hc) st p.isList (by simp; omega) fun h' eb=>⟨rfl,I.turned (t':=s.toks) (fun b o hb e=>eb b o hb e) f0 f1 f3 f4 f5⟩
 self:=fun _ _ _ _ _ st h=>wpAny_pyIter_listiter st h
theorem Nu {P:Program} {w:World} {K:PySem.W.Frag} {tg:Expr} (a it:Addr):Turn P w K tg (Ww K a) [it] it (fun i h=>h.IsTupleIter it a i) where
 mem:=by simp
 obj:=fun i h st b hb=>by
  have e:b=it:=by simpa using hb
  subst e
  obtain ⟨o,e,c,d⟩:=st
  exact ⟨o,e,fun v z=>by rw [d] at z; cases z⟩
 keep:=fun i h h' st k=>st.at fun o e=>k it (by simp) o e
 item:=by
  intro X hP hw hK hc i pins s σ H E I hf st hg
  subst hP hw hK
  obtain ⟨xs,x,hq,hx⟩:=hg
  obtain ⟨its,rv,p,hz⟩:=I.tuple hq
  obtain ⟨u,hu,ru⟩:=rv.get hx
  obtain ⟨f0,f1,f2,f3,f4,f5⟩:=hf it (by simp)
  refine wpAny_pyNext_tuple_item st (show s.heap.IsTuple a its.toArray from p) (x:=u) (by simpa using hu) fun h' st' sb=>?_
  have I1:Inv X pins σ H { s with heap:=h' }:=I.turned (t':=s.toks) (fun b o hb e=>(sb.2 b hb).trans e) f0 f1 f3 f4 f5
  obtain ⟨o,e,c,d⟩:=id st'
  exact ⟨u,rfl,Mj (s:={ s with heap:=h' }) e c d (by decide) ⟨x,H,I1,ru,⟨rfl,fun ys hy=>by rw [I.Ht hy hq]; exact hx⟩,st',fun b hb=>(hf b hb).1⟩⟩
 done:=by
  intro X hP hw hK hc i pins s σ H E I hf st hg
  subst hP hw hK
  obtain ⟨xs,hq,hx⟩:=hg
  obtain ⟨its,rv,p,hz⟩:=I.tuple hq
  obtain ⟨f0,f1,f2,f3,f4,f5⟩:=hf it (by simp)
  have hl:=rv.length
  exact wpAny_pyNext_tuple_end (I.ok.hd hc) st (show s.heap.IsTuple a its.toArray from p) (by simp; omega) fun h' eb=>⟨rfl,I.turned (t':=s.toks) (fun b o hb e=>eb b o hb e) f0 f1 f3 f4 f5⟩
 self:=fun _ _ _ _ _ st h=>wpAny_pyIter_tupleiter st h
theorem M4 {P:Program} {w:World} {K:PySem.W.Frag} {tg:Expr} (it:Addr) (lo:Int) (n:Nat):Turn P w K tg (VF lo n) [it] it (fun i h=>IsRangeIter h it (lo+(i:Nat) * 1) ((n:Int) - (i:Nat)) 1) where
 mem:=by simp
 obj:=fun i h st b hb=>by
  have e:b=it:=by simpa using hb
  subst e
  exact ⟨_,st,fun v z=>by
   have z':Data.fields _=Data.cell v:=z
   cases z'⟩
 keep:=fun i h h' st k=>k it (by simp) _ st
 item:=by
  intro X hP hw hK hc i pins s σ H E I hf st hg
  subst hP hw hK
  obtain ⟨f0,f1,f2,f3,f4,f5⟩:=hf it (by simp)
  have W:=Walks.range (prog:=X.prog) (w:=X.w) (I.ok.hd hc) it lo 1 n
  refine W.item i s _ _ hg st fun v h' tk hv st' kk=>?_
  obtain ⟨t,rfl⟩:=hv
  have I1:Inv X pins σ H { s with heap:=h',toks:=tk }:=I.turned (fun b o hb e=>kk b o (by simpa using hb) e) f0 f1 f3 f4 f5
  refine ⟨_,rfl,Mj (s:={ s with heap:=h',toks:=tk }) (n:="range_iterator") st' rfl rfl (by decide) ⟨.int (lo+i),H,I1,⟨t,?_⟩,⟨rfl,rfl⟩,st',fun b hb=>(hf b hb).1⟩⟩
  rw [Int.mul_one]
 done:=by
  intro X hP hw hK hc i pins s σ H E I hf st hg
  subst hP hw hK
  obtain ⟨f0,f1,f2,f3,f4,f5⟩:=hf it (by simp)
  exact wpAny_pyNext_range_end (I.ok.hd hc) st (by have:n<=i:=hg; omega) fun h' eb=>⟨rfl,I.turned (t':=s.toks) (fun b o hb e=>eb b o hb e) f0 f1 f3 f4 f5⟩
 self:=fun _ _ _ _ _ st h=>wpAny_pyIter_rangeiter st h
end L2
namespace L2
open PySem PySem.Spec PyProof.Rows
section
variable {X:Cx} {tg:Expr}
noncomputable def Yo (K:PySem.W.Frag) (tl:TE):TI:=fun σ H R=>tl σ H fun x H1=>∃ a,x=.ref a/\(∃ xs,Cp K H1 a xs)/\R (Wm K a) H1
noncomputable def bI (K:PySem.W.Frag) (tl:TE):TI:=fun σ H R=>tl σ H fun x H1=>∃ a,x=.ref a/\(∃ xs,Ey K H1 a xs)/\R (Ww K a) H1
theorem Bq {l:Expr} {tl:TE} (hl:PE X l tl):PI X tg l (Yo X.K tl):=by
 intro pins s σ H R I h
 refine CG (hl pins s σ H _ I h) fun v s1 hq0=>?_
 obtain ⟨x,H1,I1,r1,q1⟩:=hq0
 obtain ⟨a,e,⟨xs,hq⟩,q⟩:=q1
 subst e
 cases r1
 obtain ⟨its,rv,p,hz⟩:=I1.list hq
 refine wpAny_pyIter_list p.isList ?_
 refine ⟨s1.heap.objs.size,[s1.heap.objs.size],_,_,H1,rfl,I1.kept (t':=s1.toks) fun b o e=>Heap.get?_push_of_some _ e,Pz a _,⟨_,Heap.get?_push_size _ rfl,rfl,rfl⟩,fun b hb=>?_,q⟩
 have e:b=s1.heap.objs.size:=by simpa using hb
 subst e
 exact I1.Kf (Nat.le_refl _) (I1.hok.fresh (Nat.le_refl _))
theorem Hv {l:Expr} {tl:TE} (hl:PE X l tl):PI X tg l (bI X.K tl):=by
 intro pins s σ H R I h
 refine CG (hl pins s σ H _ I h) fun v s1 hq0=>?_
 obtain ⟨x,H1,I1,r1,q1⟩:=hq0
 obtain ⟨a,e,⟨xs,hq⟩,q⟩:=q1
 subst e
 cases r1
 obtain ⟨its,rv,p,hz⟩:=I1.tuple hq
 refine wpAny_pyIter_tuple (show s1.heap.IsTuple a its.toArray from p) ?_
 refine ⟨s1.heap.objs.size,[s1.heap.objs.size],_,_,H1,rfl,I1.kept (t':=s1.toks) fun b o e=>Heap.get?_push_of_some _ e,Nu a _,⟨_,Heap.get?_push_size _ rfl,rfl,rfl⟩,fun b hb=>?_,q⟩
 have e:b=s1.heap.objs.size:=by simpa using hb
 subst e
 exact I1.Kf (Nat.le_refl _) (I1.hok.fresh (Nat.le_refl _))
theorem Q4 {pins:List (Addr × Obj)} {σ:St} {H:Hp} {s:Shared} {R:It->Hp->Prop} {E:Value->Shared->Prop} {lo hi:Int} {t u v:Tok} {tk:Nat} (I:Inv X pins σ H s) (h1 : -(2 ^ 62)<=lo) (h2:lo<2 ^ 62) (h3 : -(2 ^ 62)<=hi) (h4:hi<2 ^ 62)
  (q:R (VF lo (hi - lo).toNat) H):wpAny (model X.prog X.w) X.A (pyIter (.ref s.heap.objs.size)) (PIE X pins σ tg R) E { s with heap:=s.heap.push { cls:=.type "range",data:=.fields #[.int lo t,.int hi u,.int 1 v] },toks:=tk }:=by
 refine wpAny_pyIter_range (IsRange.new ..) (small_one h1 h2 h3 h4) ?_
 have I1:Inv X pins σ H { s with heap:=s.heap.push { cls:=.type "range",data:=.fields #[.int lo t,.int hi u,.int 1 v] },toks:=tk }:=I.kept fun b o e=>Heap.get?_push_of_some _ e
 refine ⟨(s.heap.push { cls:=.type "range",data:=.fields #[.int lo t,.int hi u,.int 1 v] }).objs.size,[(s.heap.push { cls:=.type "range",data:=.fields #[.int lo t,.int hi u,.int 1 v] }).objs.size],_,_,H,rfl,
  I1.kept (t':=tk) fun b o e=>Heap.get?_push_of_some _ e,M4 _ lo (hi - lo).toNat,?_,fun b hb=>?_,q⟩
 ·have e1:lo+((0:Nat):Int) * 1=lo:=by simp
  have e2:(((hi - lo).toNat:Nat):Int) - ((0:Nat):Int)=Builtin.Range.rangeSize lo hi 1:=by rw [rangeSize_one]; split <;> omega
  show IsRangeIter _ _ (lo+((0:Nat):Int) * 1) ((((hi - lo).toNat:Nat):Int) - ((0:Nat):Int)) 1
  rw [e1,e2]
  exact Heap.get?_push_size _ rfl
 ·have e:b=(s.heap.push { cls:=.type "range",data:=.fields #[.int lo t,.int hi u,.int 1 v] }).objs.size:=by simpa using hb
  subst e
  exact I1.Kf (Nat.le_refl _) (I1.hok.fresh (Nat.le_refl _))
noncomputable def Y9 (ta:TA):TI:=fun σ H R=>ta σ H fun vs H1=>∃ j:Int,vs=[.int j] /\ -(2 ^ 62)<=j/\j<2 ^ 62/\R (VF 0 j.toNat) H1
theorem FT {a:Expr} {ta:TA} {p pos:Pos} (hg:Gl X "range") (hm:X.mg "range" = none) (ha:PA X [a] ta) (hs:starEach [a] X.env=[(false,eval a X.env)]:=by rfl):PI X tg (.Call (.Name "range" p) [a] [] pos) (Y9 ta):=by
 intro pins s σ H R I h
 refine Call_ (G_ I hg hm boot_range (PyProof.Rows.callWith_type1 (CG (ha pos pins s σ H _ I h) fun us s1 ⟨vs,H1,I1,r1,q1⟩=>?_) hs rfl))
 obtain ⟨j,e,q1,q2,q⟩:=q1
 subst e
 cases r1 with
 | cons r rr =>
  cases rr
  obtain ⟨t,rfl⟩:=r
  exact call_range_1 (Q4 I1 (by omega) (by omega) q1 q2 (by simpa using q))
noncomputable def bj (wi:TI) (g:TG) (tb:TS):TS:=fun D σ H=>wi σ H fun J H1=>∃ W:Nat->Nat->St->Hp->Prop,(∃ m,W 0 m σ H1)/\∀ i m σ H,W i m σ H ->
 (J.stop i H/\D.nx σ H) \/ (J.go i H/\∃ N:St->Hp->Prop,(∀ σ' H',N σ' H'->∃ m',m'<m/\W (i+1) m' σ' H')/\∀ x H',J.yld i H x H'->g x σ H' fun σ2 H2=>tb { D with nx:=N,ct:=N,bk:=D.nx } σ2 H2)
noncomputable def Hq (fp:List Addr) (h:Heap):List (Addr × Obj):=fp.filterMap fun b=>(h.get? b).map fun o=>(b,o)
theorem Dq {fp:List Addr} {h:Heap} {b:Addr} {o:Obj} (hb:b∈fp) (e:h.get? b=some o):(b,o)∈Hq fp h:=List.mem_filterMap.mpr ⟨b,hb,by rw [e]; rfl⟩
theorem Qc {fp:List Addr} {h:Heap} {p:Addr × Obj} (hp:p∈Hq fp h):p.1∈fp/\h.get? p.1=some p.2:=by
 obtain ⟨b,hb,e⟩:=List.mem_filterMap.mp hp
 cases q:h.get? b with
 | none=>rw [q] at e; cases e
 | some o =>
  rw [q] at e
  have e':(b,o)=p:=Option.some.inj e
  subst e'
  exact ⟨hb,q⟩
theorem Inv.pinned {pins:List (Addr × Obj)} {σ:St} {H:Hp} {s:Shared} {fp:List Addr} (I:Inv X pins σ H s) (hf:∀ b∈fp,Fj X pins H b) (ho:∀ b∈fp,∃ o,s.heap.get? b=some o/\∀ v,o.data ≠ .cell v):Inv X (pins++Hq fp s.heap) σ H s :=
 I.PX fun p hp=>(List.mem_append.mp hp).elim (fun z=>I.pin p (List.mem_append_right _ z)) fun z=>by
  obtain ⟨hb,e⟩:=Qc z
  obtain ⟨f0,f1,f2,_⟩:=hf p.1 hb
  obtain ⟨o,e',d⟩:=ho p.1 hb
  rw [e] at e'; cases e'
  exact ⟨e,f0,f1,f2,d⟩
theorem Inv.Ge {pins pl:List (Addr × Obj)} {σ:St} {H:Hp} {s:Shared} (I:Inv X (pins++pl) σ H s):Inv X pins σ H s:=I.PX fun p hp=>I.pin p (List.mem_append_right _ (List.mem_append_left _ hp))
theorem Dg {iter:Expr} {body:List Stmt} {wi:TI} {g:TG} {tb:TS} {pos:Pos} (hp:PassesOwn (model X.prog X.w) X.A X.env X.xe) (hc:X.calm=true) (hi:PI X tg iter wi) (hg:PG X tg g) (hb:P_ X body tb)
  (hs:∀ x,foldedSetIterable iter X.env x=pure x:=by intro _; rfl):PS X (.For tg iter body [] pos) (bj wi g tb):=by
 intro pins s σ H D I h
 refine wpAny_For (CG (hi pins s σ H _ I h) fun v s1 h1=>CG h1 fun itv s2 h2=>?_) hs
 obtain ⟨it,fp,tn,J,H2,e,I2,T,st2,f2,W,⟨m0,w0⟩,turn⟩:=h2
 subst e
 have stat:∀ {H':Hp},(∀ b∈fp,H' b=none)->∀ b∈fp,Fj X pins H' b:=fun hn b hb=>⟨hn b hb,(f2 b hb).2⟩
 refine codeAny_forLoop_any (fun n s'=>∃ i σ' H',Inv X pins σ' H' s'/\tn i s'.heap/\(∀ b∈fp,H' b=none)/\W i n σ' H') ?_ m0 ⟨0,σ,H2,I2,st2,fun b hb=>(f2 b hb).1,w0⟩
 rintro n s3 ⟨i,σ3,H3,I3,st3,fr3,w3⟩
 rcases turn i n σ3 H3 w3 with ⟨stop,qn⟩ | ⟨go,N,hN,step⟩
 ·refine wpAny_passesOwn hp (CG (T.done X rfl rfl rfl hc i pins s3 σ3 H3 X.xe I3 (stat fr3) st3 stop) fun r s4 ⟨hr,I4⟩=>?_)
  subst hr
  exact wpAny_execs_nil ⟨σ3,H3,I4,qn⟩
 ·refine wpAny_passesOwn hp (CG (T.item X rfl rfl rfl hc i pins s3 σ3 H3 X.xe I3 (stat fr3) st3 go) fun r s4 ⟨u,hr,h4⟩=>?_)
  subst hr
  refine wpAny_passesOwn hp (CG h4 fun _ s5 hq0=>?_)
  obtain ⟨x,H5,I5,r5,y5,st5,fr5⟩:=hq0
  have I5':=I5.pinned (stat fr5) (T.obj _ _ st5)
  refine wpAny_passesOwn hp (CG (hg _ s5 σ3 H5 x u _ I5' r5 (step x H5 y5)) fun _ s6 hq0=>?_)
  obtain ⟨σ6,H6,I6,q6⟩:=hq0
  refine wpAny_passesOwn hp (CG (hb _ s6 σ6 H6 _ I6 q6) fun f s7 q7=>?_)
  have again:∀ {σ7:St} {H7:Hp},Inv X (pins++Hq fp s5.heap) σ7 H7 s7->N σ7 H7->∃ m,m<n/\∃ i σ' H',Inv X pins σ' H' s7/\tn i s7.heap/\(∀ b∈fp,H' b=none)/\W i m σ' H':=fun {σ7 H7} I7 n7=>by
   obtain ⟨m',hm,w7⟩:=hN σ7 H7 n7
   refine ⟨m',hm,i+1,σ7,H7,I7.Ge,T.keep _ _ _ st5 fun b hb o e=>(I7.pin (b,o) (List.mem_append_right _ (List.mem_append_right _ (Dq hb e)))).1,fun b hb=>?_,w7⟩
   obtain ⟨o,e,d⟩:=T.obj _ _ st5 b hb
   exact (I7.pin (b,o) (List.mem_append_right _ (List.mem_append_right _ (Dq hb e)))).2.1
  cases f with
  | next=>obtain ⟨σ7,H7,I7,n7⟩:=q7; exact again I7 n7
  | cont=>obtain ⟨σ7,H7,I7,n7⟩:=q7; exact again I7 n7
  | brk=>obtain ⟨σ7,H7,I7,q7⟩:=q7; exact ⟨σ7,H7,I7.Ge,q7⟩
  | ret v=>obtain ⟨x7,σ7,H7,I7,r7,q7⟩:=q7; exact ⟨x7,σ7,H7,I7.Ge,r7,q7⟩
end
theorem GC {K:PySem.W.Frag} {a:Addr} {xs:List V} {g:TG} {tb:TS} {D:Ends} {σ:St} {H:Hp} (Pv:Nat->St->Hp->Prop) (h0:Pv 0 σ H) (hl:∀ i σ H,i<=xs.length->Pv i σ H->Cp K H a xs)
  (hs:∀ i x σ H,xs[i]? = some x->Pv i σ H->g x σ H fun σ2 H2=>tb { D with nx:=Pv (i+1),ct:=Pv (i+1),bk:=D.nx } σ2 H2) (hd:∀ σ H,Pv xs.length σ H->D.nx σ H) :
  ∃ W:Nat->Nat->St->Hp->Prop,(∃ m,W 0 m σ H)/\∀ i m σ H,W i m σ H ->
   ((Wm K a).stop i H/\D.nx σ H) \/ ((Wm K a).go i H/\∃ N:St->Hp->Prop,(∀ σ' H',N σ' H'->∃ m',m'<m/\W (i+1) m' σ' H')/\∀ x H',(Wm K a).yld i H x H'->g x σ H' fun σ2 H2=>tb { D with nx:=N,ct:=N,bk:=D.nx } σ2 H2):=by
 refine ⟨fun i m σ H=>m=xs.length - i/\i<=xs.length/\Pv i σ H,⟨xs.length,by simp,Nat.zero_le _,h0⟩,?_⟩
 rintro i m σ H ⟨rfl,hi,p⟩
 have q:=hl i σ H hi p
 by_cases hlt:i<xs.length
 ·refine .inr ⟨⟨xs,xs[i],q,by simp [hlt]⟩,Pv (i+1),fun σ' H' p'=>⟨xs.length - (i+1),by omega,rfl,hlt,p'⟩,fun x H' y=>?_⟩
  obtain ⟨e,y⟩:=y
  subst e
  exact hs i x σ _ (y xs q) p
 ·have e:i=xs.length:=by omega
  subst e
  exact .inl ⟨⟨xs,q,Nat.le_refl _⟩,hd σ H p⟩
theorem PJ {K:PySem.W.Frag} {a:Addr} {xs:List V} {g:TG} {tb:TS} {D:Ends} {σ:St} {H:Hp} (Pv:Nat->St->Hp->Prop) (h0:Pv 0 σ H) (hl:∀ i σ H,i<=xs.length->Pv i σ H->Ey K H a xs)
  (hs:∀ i x σ H,xs[i]? = some x->Pv i σ H->g x σ H fun σ2 H2=>tb { D with nx:=Pv (i+1),ct:=Pv (i+1),bk:=D.nx } σ2 H2) (hd:∀ σ H,Pv xs.length σ H->D.nx σ H) :
  ∃ W:Nat->Nat->St->Hp->Prop,(∃ m,W 0 m σ H)/\∀ i m σ H,W i m σ H ->
   ((Ww K a).stop i H/\D.nx σ H) \/ ((Ww K a).go i H/\∃ N:St->Hp->Prop,(∀ σ' H',N σ' H'->∃ m',m'<m/\W (i+1) m' σ' H')/\∀ x H',(Ww K a).yld i H x H'->g x σ H' fun σ2 H2=>tb { D with nx:=N,ct:=N,bk:=D.nx } σ2 H2):=by
 refine ⟨fun i m σ H=>m=xs.length - i/\i<=xs.length/\Pv i σ H,⟨xs.length,by simp,Nat.zero_le _,h0⟩,?_⟩
 rintro i m σ H ⟨rfl,hi,p⟩
 have q:=hl i σ H hi p
 by_cases hlt:i<xs.length
 ·refine .inr ⟨⟨xs,xs[i],q,by simp [hlt]⟩,Pv (i+1),fun σ' H' p'=>⟨xs.length - (i+1),by omega,rfl,hlt,p'⟩,fun x H' y=>?_⟩
  obtain ⟨e,y⟩:=y
  subst e
  exact hs i x σ _ (y xs q) p
 ·have e:i=xs.length:=by omega
  subst e
  exact .inl ⟨⟨xs,q,Nat.le_refl _⟩,hd σ H p⟩
theorem IK {lo:Int} {n:Nat} {g:TG} {tb:TS} {D:Ends} {σ:St} {H:Hp} (Pv:Nat->St->Hp->Prop) (h0:Pv 0 σ H)
  (hs:∀ i σ H,i<n->Pv i σ H->g (.int (lo+i)) σ H fun σ2 H2=>tb { D with nx:=Pv (i+1),ct:=Pv (i+1),bk:=D.nx } σ2 H2) (hd:∀ σ H,Pv n σ H->D.nx σ H) :
  ∃ W:Nat->Nat->St->Hp->Prop,(∃ m,W 0 m σ H)/\∀ i m σ H,W i m σ H ->
   ((VF lo n).stop i H/\D.nx σ H) \/ ((VF lo n).go i H/\∃ N:St->Hp->Prop,(∀ σ' H',N σ' H'->∃ m',m'<m/\W (i+1) m' σ' H')/\∀ x H',(VF lo n).yld i H x H'->g x σ H' fun σ2 H2=>tb { D with nx:=N,ct:=N,bk:=D.nx } σ2 H2):=by
 refine ⟨fun i m σ H=>m=n - i/\i<=n/\Pv i σ H,⟨n,by simp,Nat.zero_le _,h0⟩,?_⟩
 rintro i m σ H ⟨rfl,hi,p⟩
 by_cases hlt:i<n
 ·refine .inr ⟨hlt,Pv (i+1),fun σ' H' p'=>⟨n - (i+1),by omega,rfl,hlt,p'⟩,fun x H' y=>?_⟩
  obtain ⟨e,y⟩:=y
  subst e y
  exact hs i σ _ hlt p
 ·have e:i=n:=by omega
  subst e
  exact .inl ⟨Nat.le_refl _,hd σ H p⟩
end L2
namespace L2
open PySem PySem.Spec PyProof.Rows
noncomputable abbrev R2:=V->V->Hp->VK->Prop
noncomputable def Gp (X:Cx) (f:Value->Value->Sem Value) (r:R2):Prop :=
 ∀ (pins:List (Addr × Obj)) (s:Shared) (σ:St) (H:Hp) (x y:V) (v u:Value) (Q:VK),Inv X pins σ H s->RelV x v->RelV y u->r x y H Q ->
  wpAny (model X.prog X.w) X.A (f v u) (EP X pins σ Q) X.xe s
noncomputable def cM (X:Cx) (f:Value->Sem Value) (r:V->Hp->VK->Prop):Prop :=
 ∀ (pins:List (Addr × Obj)) (s:Shared) (σ:St) (H:Hp) (x:V) (v:Value) (Q:VK),Inv X pins σ H s->RelV x v->r x H Q ->
  wpAny (model X.prog X.w) X.A (f v) (EP X pins σ Q) X.xe s
noncomputable def EY (X:Cx) (f:Value) (r:List V->Hp->VK->Prop):Prop :=
 ∀ (pins:List (Addr × Obj)) (s:Shared) (σ:St) (H:Hp) (xs:List V) (us:List Value) (Q:VK),Inv X pins σ H s->Vals xs us->r xs H Q ->
  wpAny (model X.prog X.w) X.A (call f us) (EP X pins σ Q) X.xe s
noncomputable def bZ (X:Cx) (r:V->Hp->(Bool->Hp->Prop)->Prop):Prop :=
 ∀ (pins:List (Addr × Obj)) (s:Shared) (σ:St) (H:Hp) (x:V) (v:Value) (Q:Bool->Hp->Prop),Inv X pins σ H s->RelV x v->r x H Q ->
  wpAny (model X.prog X.w) X.A (truthy v) (TP X pins σ Q) X.xe s
noncomputable def YJ (r:R2) (ta tb:TE):TE:=fun σ H Q=>ta σ H fun x H1=>tb σ H1 fun y H2=>r x y H2 Q
noncomputable def iH (r:V->Hp->VK->Prop) (ta:TE):TE:=fun σ H Q=>ta σ H fun x H1=>r x H1 Q
noncomputable def rI (C:Int->Int->Prop) (g:Int->Int->V):R2:=fun x y H Q=>∃ i j,x=.int i/\y=.int j/\C i j/\Q (g i j) H
noncomputable def Tq (g:Int->Int->V):R2:=fun x y H Q=>∃ i j,x=.int i/\y=.int j/\Q (g i j) H
noncomputable def rU (g:Int->V):V->Hp->VK->Prop:=fun x H Q=>∃ i,x=.int i/\Q (g i) H
section
variable {X:Cx} {a b c:Expr} {ta tb tc:TE} {pos:Pos}
theorem WK (ha:PE X a ta) (hb:PE X b tb) {pins:List (Addr × Obj)} {s:Shared} {σ:St} {H:Hp} {R:V->V->Hp->Prop} (I:Inv X pins σ H s)
  (h:ta σ H fun x H1=>tb σ H1 fun y H2=>R x y H2) {Q:Value->Shared->Prop} {f:Value->Value->Sem Value}
  (hf:∀ v u s2 x y H2,Inv X pins σ H2 s2->RelV x v->RelV y u->R x y H2->wpAny (model X.prog X.w) X.A (f v u) Q X.xe s2) :
  wpAny (model X.prog X.w) X.A (eval a X.env) (fun v s₁=>wpAny (model X.prog X.w) X.A (eval b X.env) (fun u s₂=>wpAny (model X.prog X.w) X.A (f v u) Q X.xe s₂) X.xe s₁) X.xe s:=by
 refine CG (ha pins s σ H _ I h) fun v s1 hq0=>?_
 obtain ⟨x,H1,I1,r1,q1⟩:=hq0
 refine CG (hb pins s1 σ H1 _ I1 q1) fun u s2 hq0=>?_
 obtain ⟨y,H2,I2,r2,q2⟩:=hq0
 exact hf v u s2 x y H2 I2 r1 r2 q2
theorem BW {op:Operator} {r:R2} (ho:Gp X (binaryOp op) r) (ha:PE X a ta) (hb:PE X b tb):PE X (.BinOp a op b pos) (YJ r ta tb):=by
 intro pins s σ H Q I h
 exact wpAny_BinOp (WK ha hb I h fun v u s2 x y H2 I2 rx ry q=>ho pins s2 σ H2 x y v u Q I2 rx ry q)
theorem VM {op:UnaryOp} {r:V->Hp->VK->Prop} (ho:cM X (unaryOp op) r) (ha:PE X a ta):PE X (.UnaryOp op a pos) (iH r ta):=by
 intro pins s σ H Q I h
 exact UnaryOp_ (CG (ha pins s σ H _ I h) fun v s1 ⟨x,H1,I1,r1,q1⟩=>ho pins s1 σ H1 x v Q I1 r1 q1)
theorem Yt {f:Value->Value->Sem Value} {C:Int->Int->Prop} {g:Int->Int->Int}
  (rule:∀ (i j:Int) (t u:Tok) (s:Shared) (Q:Value->Shared->Prop) (E:Value->Shared->Prop),C i j->Q (.int (g i j) s.toks) { s with toks:=s.toks+1 }->wpAny (model X.prog X.w) X.A (f (.int i t) (.int j u)) Q E s) :
  Gp X f (rI C fun i j=>.int (g i j)):=by
 intro pins s σ H x y v u Q I rx ry h
 obtain ⟨i,j,rfl,rfl,hc,q⟩:=h
 obtain ⟨t,rfl⟩:=rx
 obtain ⟨t',rfl⟩:=ry
 exact rule i j t t' s _ _ hc ⟨.int (g i j),H,I.tok _,⟨_,rfl⟩,q⟩
theorem WT {f:Value->Value->Sem Value} {g:Int->Int->Int}
  (rule:∀ (i j:Int) (t u:Tok) (s:Shared) (Q:Value->Shared->Prop) (E:Value->Shared->Prop),Q (.int (g i j) s.toks) { s with toks:=s.toks+1 }->wpAny (model X.prog X.w) X.A (f (.int i t) (.int j u)) Q E s) :
  Gp X f (Tq fun i j=>.int (g i j)):=by
 intro pins s σ H x y v u Q I rx ry h
 obtain ⟨i,j,rfl,rfl,q⟩:=h
 obtain ⟨t,rfl⟩:=rx
 obtain ⟨t',rfl⟩:=ry
 exact rule i j t t' s _ _ ⟨.int (g i j),H,I.tok _,⟨_,rfl⟩,q⟩
theorem Tg {f:Value->Value->Sem Value} {g:Int->Int->Bool}
  (rule:∀ (i j:Int) (t u:Tok) (s:Shared) (Q:Value->Shared->Prop) (E:Value->Shared->Prop),Q (.bool (g i j)) s->wpAny (model X.prog X.w) X.A (f (.int i t) (.int j u)) Q E s) :
  Gp X f (Tq fun i j=>.bl (g i j)):=by
 intro pins s σ H x y v u Q I rx ry h
 obtain ⟨i,j,rfl,rfl,q⟩:=h
 obtain ⟨t,rfl⟩:=rx
 obtain ⟨t',rfl⟩:=ry
 exact rule i j t t' s _ _ ⟨.bl (g i j),H,I,rfl,q⟩
noncomputable def d8 (i j:Int):Prop:=0<j/\j<1073741824
noncomputable def Xf (i j:Int):Prop:=0<=j/\j<=1000000/\i.natAbs<2 ^ 64
noncomputable def V_ (i j:Int):Prop:=(-(2 ^ 64)<i/\i<2 ^ 64) \/ (-(2 ^ 64)<j/\j<2 ^ 64)
theorem V_.ok {i j:Int} (h:V_ i j):IntMulOk i j:=by
 rcases h with ⟨h1,h2⟩ | ⟨h1,h2⟩
 ·exact .of_left (intBits_le_64 h1 h2)
 ·exact .of_right (intBits_le_64 h1 h2)
theorem Dh:Gp X (binaryOp .Add) (Tq fun i j=>.int (i+j)):=WT fun _ _ _ _ _ _ _ q=>add_int q
theorem G5:Gp X (binaryOp .Sub) (Tq fun i j=>.int (i - j)):=WT fun _ _ _ _ _ _ _ q=>sub_int q
theorem Gg:Gp X (binaryOp .Mult) (rI V_ fun i j=>.int (i * j)):=Yt fun _ _ _ _ _ _ _ hc q=>mul_int q hc.ok
theorem Dv:Gp X (binaryOp .FloorDiv) (rI d8 fun i j=>.int (i / j)):=Yt fun i j _ _ _ _ _ hc q=>by
 have h1:(0:Int)<j:=hc.1
 have h2:j<1073741824:=hc.2
 exact floordiv_int (by omega) (by rw [Int.fdiv_eq_ediv_of_nonneg i (by omega)]; exact q) (.inl (PyProof.noPylong_small (by omega)))
theorem Cw:Gp X (binaryOp .Mod) (rI (fun _ j=>0<j) fun i j=>.int (i % j)):=Yt fun i j _ _ _ _ _ hc q=>by
 have h1:(0:Int)<j:=hc
 exact mod_int' (by omega) (by rw [Int.fmod_eq_emod_of_nonneg i (by omega)]; exact q)
theorem OJ:Gp X (binaryOp .Pow) (rI Xf fun i j=>.int (i ^ j.toNat)):=Yt fun _ _ _ _ _ _ _ hc q=>pow_int_small hc.1 hc.2.1 hc.2.2 q
theorem Wt:Gp X (binaryOp .LShift) (rI Xf fun i j=>.int (i * 2 ^ j.toNat)):=Yt fun _ _ _ _ _ _ _ hc q=>lshift_int_small hc.1 hc.2.1 hc.2.2 q
theorem Zy:Gp X (binaryOp .BitOr) (Tq fun i j=>.int (Builtin.bitOr i j)):=WT fun _ _ _ _ _ _ _ q=>or_int q
theorem iT {f:Value->Sem Value} {g:Int->Int}
  (rule:∀ (i:Int) (t:Tok) (s:Shared) (Q:Value->Shared->Prop) (E:Value->Shared->Prop),Q (.int (g i) s.toks) { s with toks:=s.toks+1 }->wpAny (model X.prog X.w) X.A (f (.int i t)) Q E s) :
  cM X f (rU fun i=>.int (g i)):=by
 intro pins s σ H x v Q I rx h
 obtain ⟨i,rfl,q⟩:=h
 obtain ⟨t,rfl⟩:=rx
 exact rule i t s _ _ ⟨.int (g i),H,I.tok _,⟨_,rfl⟩,q⟩
theorem RB:cM X (unaryOp .USub) (rU fun i=>.int (-i)):=iT fun _ _ _ _ _ q=>neg_int q
end
noncomputable def Y7:V->V->Bool
 | .non,.non=>true | .non,.int _=>true | .int _,.non=>true | .non,.bl _=>true | .bl _,.non=>true | .non,.str _=>true | .str _,.non=>true
 | .int _,.int _=>true | .bl _,.bl _=>true | .str _,.str _=>true | .byt _,.byt _=>true
 | .int _,.str _=>true | .str _,.int _=>true | .bl _,.str _=>true | .str _,.bl _=>true
 | _,_=>false
noncomputable def iU:R2:=fun x y H Q=>Y7 x y=true/\Q (.bl (decide (x=y))) H
noncomputable def iJ:R2:=fun x y H Q=>Y7 x y=true/\Q (.bl (!decide (x=y))) H
theorem PK {i j:Int}:decide (V.int i=V.int j)=(i == j):=by
 rw [Bool.eq_iff_iff]
 simp
theorem RK {i j:Bool}:decide (V.bl i=V.bl j)=(i == j):=by
 rw [Bool.eq_iff_iff]
 simp
theorem Gk {i j:Str}:decide (V.str i=V.str j)=(i == j):=by
 rw [Bool.eq_iff_iff]
 simp
theorem O5 {i j:Array UInt8}:decide (V.byt i=V.byt j)=(i.toList == j.toList):=by
 rw [Bool.eq_iff_iff]
 cases i
 cases j
 simp
section
variable {X:Cx} {a b c:Expr} {ta tb tc:TE} {pos:Pos}
theorem Bj {pins:List (Addr × Obj)} {σ:St} {H:Hp} {s:Shared} {Q:VK} {k k':Bool} (I:Inv X pins σ H s) (q:Q (.bl k) H) (e:k=k'):EP X pins σ Q (.bool k') s:=by
 subst e
 exact ⟨.bl k,H,I,rfl,q⟩
theorem DP:Gp X (compareOp .Eq) iU:=by
 intro pins s σ H x y v u Q I rx ry h
 obtain ⟨hs,q⟩:=h
 cases x with
 | non =>
  cases rx
  cases y with
  | non=>cases ry; exact PySem.EqNone.eq_none_none (Bj I q (by simp))
  | bl j=>cases ry; exact PySem.EqNone.eq_none_bool (Bj I q (by simp))
  | int j=>obtain ⟨t',rfl⟩:=ry; exact PySem.EqNone.eq_none_int (Bj I q (by simp))
  | str j=>obtain ⟨t',rfl⟩:=ry; exact PySem.EqNone.eq_none_str (Bj I q (by simp))
  | _=>exact absurd (show false=true from hs) Bool.false_ne_true
 | bl i =>
  cases rx
  cases y with
  | non=>cases ry; exact PySem.EqNone.eq_bool_none (Bj I q (by simp))
  | bl j=>cases ry; exact eq_bool (Bj I q RK)
  | str j=>obtain ⟨t',rfl⟩:=ry; exact PySem.EqMixed.eq_bool_str (Bj I q (by simp))
  | _=>exact absurd (show false=true from hs) Bool.false_ne_true
 | int i =>
  obtain ⟨t,rfl⟩:=rx
  cases y with
  | non=>cases ry; exact PySem.EqNone.eq_int_none (Bj I q (by simp))
  | int j=>obtain ⟨t',rfl⟩:=ry; exact eq_int (Bj I q PK)
  | str j=>obtain ⟨t',rfl⟩:=ry; exact PySem.EqMixed.eq_int_str (Bj I q (by simp))
  | _=>exact absurd (show false=true from hs) Bool.false_ne_true
 | str i =>
  obtain ⟨t,rfl⟩:=rx
  cases y with
  | non=>cases ry; exact PySem.EqNone.eq_str_none (Bj I q (by simp))
  | bl j=>cases ry; exact PySem.EqMixed.eq_str_bool (Bj I q (by simp))
  | int j=>obtain ⟨t',rfl⟩:=ry; exact PySem.EqMixed.eq_str_int (Bj I q (by simp))
  | str j=>obtain ⟨t',rfl⟩:=ry; exact eq_str (Bj I q Gk)
  | _=>exact absurd (show false=true from hs) Bool.false_ne_true
 | byt i =>
  obtain ⟨t,rfl⟩:=rx
  cases y with
  | byt j=>obtain ⟨t',rfl⟩:=ry; exact PySem.W.eq_bytes (Bj I q O5)
  | _=>exact absurd (show false=true from hs) Bool.false_ne_true
 | _=>cases y <;> exact absurd (show false=true from hs) Bool.false_ne_true
theorem Js:Gp X (compareOp .NotEq) iJ:=by
 intro pins s σ H x y v u Q I rx ry h
 obtain ⟨hs,q⟩:=h
 cases x with
 | non =>
  cases rx
  cases y with
  | non=>cases ry; exact PySem.EqNone.ne_none_none (Bj I q (by simp))
  | bl j=>cases ry; exact PySem.EqNone.ne_none_bool (Bj I q (by simp))
  | int j=>obtain ⟨t',rfl⟩:=ry; exact PySem.EqNone.ne_none_int (Bj I q (by simp))
  | str j=>obtain ⟨t',rfl⟩:=ry; exact PySem.EqNone.ne_none_str (Bj I q (by simp))
  | _=>exact absurd (show false=true from hs) Bool.false_ne_true
 | bl i =>
  cases rx
  cases y with
  | non=>cases ry; exact PySem.EqNone.ne_bool_none (Bj I q (by simp))
  | bl j=>cases ry; exact ne_bool (Bj I q (congrArg not RK))
  | str j=>obtain ⟨t',rfl⟩:=ry; exact PySem.EqMixed.ne_bool_str (Bj I q (by simp))
  | _=>exact absurd (show false=true from hs) Bool.false_ne_true
 | int i =>
  obtain ⟨t,rfl⟩:=rx
  cases y with
  | non=>cases ry; exact PySem.EqNone.ne_int_none (Bj I q (by simp))
  | int j=>obtain ⟨t',rfl⟩:=ry; exact ne_int (Bj I q (congrArg not PK))
  | str j=>obtain ⟨t',rfl⟩:=ry; exact PySem.EqMixed.ne_int_str (Bj I q (by simp))
  | _=>exact absurd (show false=true from hs) Bool.false_ne_true
 | str i =>
  obtain ⟨t,rfl⟩:=rx
  cases y with
  | non=>cases ry; exact PySem.EqNone.ne_str_none (Bj I q (by simp))
  | bl j=>cases ry; exact PySem.EqMixed.ne_str_bool (Bj I q (by simp))
  | int j=>obtain ⟨t',rfl⟩:=ry; exact PySem.EqMixed.ne_str_int (Bj I q (by simp))
  | str j=>obtain ⟨t',rfl⟩:=ry; exact ne_str (Bj I q (congrArg not Gk))
  | _=>exact absurd (show false=true from hs) Bool.false_ne_true
 | byt i =>
  obtain ⟨t,rfl⟩:=rx
  cases y with
  | byt j=>obtain ⟨t',rfl⟩:=ry; exact PySem.W.ne_bytes (Bj I q (congrArg not O5))
  | _=>exact absurd (show false=true from hs) Bool.false_ne_true
 | _=>cases y <;> exact absurd (show false=true from hs) Bool.false_ne_true
theorem Et:Gp X (compareOp .Lt) (Tq fun i j=>.bl (decide (i<j))):=Tg fun _ _ _ _ _ _ _ q=>lt_int q
theorem Gx:Gp X (compareOp .LtE) (Tq fun i j=>.bl (decide (i<=j))):=Tg fun _ _ _ _ _ _ _ q=>le_int q
theorem Vk:Gp X (compareOp .Gt) (Tq fun i j=>.bl (decide (j<i))):=Tg fun _ _ _ _ _ _ _ q=>gt_int q
theorem S6:Gp X (compareOp .GtE) (Tq fun i j=>.bl (decide (j<=i))):=Tg fun _ _ _ _ _ _ _ q=>ge_int q
theorem J0:Gp X (compareOp .In) (fun x y H Q=>∃ i j,x=.str i/\y=.str j/\Q (.bl (!(Builtin.Str.occurrences j i 0 j.length 1).isEmpty)) H):=by
 intro pins s σ H x y v u Q I rx ry h
 obtain ⟨i,j,rfl,rfl,q⟩:=h
 obtain ⟨t,rfl⟩:=rx
 obtain ⟨t',rfl⟩:=ry
 exact in_str (Bj I q rfl)
theorem Oj:Gp X (compareOp .IsNot) (fun x y H Q=>y=.non/\Q (.bl (!decide (x=.non))) H):=by
 intro pins s σ H x y v u Q I rx ry h
 obtain ⟨rfl,q⟩:=h
 cases ry
 refine isnot_none_gen (Bj I q ?_)
 cases x <;> first
  | (cases rx; rfl)
  | (obtain ⟨t,rfl⟩:=rx; rfl)
theorem BX (b:Expr) {op:CmpOp} (h:op ≠ .In:=by decide) (h2:op ≠ .NotIn:=by decide):behindInMarks op b=false:=by
 have e1:(op == CmpOp.In)=false:=by cases op <;> first | rfl | exact absurd rfl h
 have e2:(op == CmpOp.NotIn)=false:=by cases op <;> first | rfl | exact absurd rfl h2
 cases b <;> simp [behindInMarks,e1,e2]
theorem Dy {op:CmpOp} {r:R2} (ho:Gp X (compareOp op) r) (ha:PE X a ta) (hb:PE X b tb) (hm:behindInMarks op b=false):PE X (.Compare a [op] [b] pos) (YJ r ta tb):=by
 intro pins s σ H Q I h
 exact wpAny_Compare1 (WK ha hb I h fun v u s2 x y H2 I2 rx ry q=>ho pins s2 σ H2 x y v u Q I2 rx ry q) hm
noncomputable def VP (t:TE):TT:=fun σ H Q=>t σ H fun x H'=>∃ k,x=.bl k/\Q k H'
theorem BK {op:CmpOp} {r:R2} (ho:Gp X (compareOp op) r) (ha:PE X a ta) (hb:PE X b tb) (hm:behindInMarks op b=false):PT X (.Compare a [op] [b] pos) (VP (YJ r ta tb)):=by
 intro pins s σ H Q I h
 refine wpAny_isTrue_Compare1 (CG (ha pins s σ H _ I h) fun v s1 ⟨x,H1,I1,r1,q1⟩=>CG (hb pins s1 σ H1 _ I1 q1) fun u s2 ⟨y,H2,I2,r2,q2⟩ =>
  CG (ho pins s2 σ H2 x y v u _ I2 r1 r2 q2) fun c s3 ⟨z,H3,I3,r3,k,e,q3⟩=>?_) hm
 subst e
 cases r3
 exact wpAny_truthy_bool ⟨H3,I3,q3⟩
noncomputable def RJ (r r':R2) (ta tb tc:TE):TE:=fun σ H Q=>ta σ H fun x H1=>tb σ H1 fun y H2=>r x y H2 fun z H3=>∃ k,z=.bl k /\
 (if k=true then tc σ H3 fun w' H4=>r' y w' H4 Q else Q (.bl false) H3)
theorem HS {op op':CmpOp} {r r':R2} (ho:Gp X (compareOp op) r) (ho':Gp X (compareOp op') r') (ha:PE X a ta) (hb:PE X b tb) (hc:PE X c tc)
  (hm:lastMarks [op,op'] [b,c]=false:=by with_unfolding_all rfl):PE X (.Compare a [op,op'] [b,c] pos) (RJ r r' ta tb tc):=by
 intro pins s σ H Q I h
 refine Compare_chain (CG (ha pins s σ H _ I h) fun v s1 ⟨x,H1,I1,r1,q1⟩=>chain_link (CG (hb pins s1 σ H1 _ I1 q1) fun u s2 ⟨y,H2,I2,r2,q2⟩ =>
  CG (ho pins s2 σ H2 x y v u _ I2 r1 r2 q2) fun d s3 ⟨z,H3,I3,r3,k,e,q3⟩=>?_)) hm
 subst e
 cases r3
 refine wpAny_truthy_bool ?_
 cases k with
 | false=>exact ite_ff ⟨.bl false,H3,I3,rfl,q3⟩
 | true=>exact ite_tt (chain_last (CG (hc pins s3 σ H3 _ I3 q3) fun w' s4 ⟨z',H4,I4,r4,q4⟩=>ho' pins s4 σ H4 y z' u w' Q I4 r2 r4 q4))
theorem R4 {op op':CmpOp} {r r':R2} (ho:Gp X (compareOp op) r) (ho':Gp X (compareOp op') r') (ha:PE X a ta) (hb:PE X b tb) (hc:PE X c tc)
  (hm:lastMarks [op,op'] [b,c]=false:=by with_unfolding_all rfl):PT X (.Compare a [op,op'] [b,c] pos) (VP (RJ r r' ta tb tc)):=by
 intro pins s σ H Q I h
 refine isTrue_chain (CG (ha pins s σ H _ I h) fun v s1 ⟨x,H1,I1,r1,q1⟩=>test_link (CG (hb pins s1 σ H1 _ I1 q1) fun u s2 ⟨y,H2,I2,r2,q2⟩ =>
  CG (ho pins s2 σ H2 x y v u _ I2 r1 r2 q2) fun d s3 ⟨z,H3,I3,r3,k,e,q3⟩=>?_)) hm
 subst e
 cases r3
 refine wpAny_truthy_bool ?_
 cases k with
 | false =>
  obtain ⟨k',e',q'⟩:=q3
  cases e'
  exact ite_ff ⟨H3,I3,q'⟩
 | true =>
  refine ite_tt (test_last (CG (hc pins s3 σ H3 _ I3 q3) fun w' s4 ⟨z',H4,I4,r4,q4⟩=>CG (ho' pins s4 σ H4 y z' u w' _ I4 r2 r4 q4) fun d' s5 hq0=>?_))
  obtain ⟨z2,H5,I5,r5,k2,e2,q5⟩:=hq0
  subst e2
  cases r5
  exact wpAny_truthy_bool ⟨H5,I5,q5⟩
noncomputable def Yx (K:PySem.W.Frag) (x:V) (H:Hp) (k:Bool):Prop :=
 match x with
 | .non=>k=false
 | .bl b=>k=b
 | .int i=>k=(i != 0)
 | .str y=>y.length<=sizeLine/\k=((y.length:Int) != 0)
 | .byt y=>y.size<=sizeLine/\k=((y.size:Int) != 0)
 | .ref p=>(∃ xs,Cp K H p xs/\k = !xs.isEmpty) \/ (∃ xs,Ey K H p xs/\k = !xs.isEmpty) \/ ∃ kvs,H p=some (.dK kvs)/\k = !kvs.isEmpty
 | _=>False
theorem NT {κ:Type} {kvs:List (κ × V)} {vs:List (κ × Value)} (r:KV kvs vs):(!vs.isEmpty) = !kvs.isEmpty:=by
 cases r <;> rfl
theorem JH {xs:List V} {its:List Value} (r:Vals xs its):(!its.toArray.isEmpty) = !xs.isEmpty:=by
 cases r <;> simp
theorem Hr:(sizeLine:Nat)<2 ^ 63:=by rw [sizeLine_eq]; decide
theorem V3:bZ X (fun x H Q=>∃ k,Yx X.K x H k/\Q k H):=by
 intro pins s σ H x v Q I rx h
 obtain ⟨k,e,q⟩:=h
 have hl:=Hr
 have hs:sizeLine=16777216:=sizeLine_eq
 cases x with
 | non =>
  cases rx
  have e':k=false:=e
  subst e'
  exact truthy_none ⟨H,I,q⟩
 | bl b =>
  cases rx
  have e':k=b:=e
  subst e'
  exact wpAny_truthy_bool ⟨H,I,q⟩
 | int i =>
  obtain ⟨t,rfl⟩:=rx
  have e':k=(i != 0):=e
  subst e'
  exact PySem.P.truthy_int ⟨H,I,q⟩
 | str y =>
  obtain ⟨t,rfl⟩:=rx
  obtain ⟨hy,e'⟩:y.length<=sizeLine/\k=((y.length:Int) != 0):=e
  subst e'
  exact PySem.P.truthy_str (by omega) ⟨H,I.tok _,q⟩
 | byt y =>
  obtain ⟨t,rfl⟩:=rx
  obtain ⟨hy,e'⟩:y.size<=sizeLine/\k=((y.size:Int) != 0):=e
  subst e'
  exact PySem.W.truthy_bytes (by omega) ⟨H,I.tok _,q⟩
 | ref p =>
  cases rx
  have e':(∃ xs,Cp X.K H p xs/\k = !xs.isEmpty) \/ (∃ xs,Ey X.K H p xs/\k = !xs.isEmpty) \/ ∃ kvs,H p=some (.dK kvs)/\k = !kvs.isEmpty:=e
  rcases e' with ⟨xs,hx,e'⟩ | ⟨xs,hx,e'⟩ | ⟨kvs,hx,e'⟩
  ·subst e'
   obtain ⟨its,r,pl,hz⟩:=I.list hx
   have hlen:=r.length
   exact wpAny_truthy_list pl.isList (by simp only [List.size_toArray]; omega) ⟨H,I.tok _,by rw [JH r]; exact q⟩
  ·subst e'
   obtain ⟨its,r,pl,hz⟩:=I.tuple hx
   have hlen:=r.length
   exact truthy_tuple pl (by simp only [List.size_toArray]; omega) ⟨H,I.tok _,by rw [JH r]; exact q⟩
  ·subst e'
   obtain ⟨hz,hS,vs,r,m⟩:kvs.length<=sizeLine/\(p == sysModules)=false/\∃ vs,KV kvs vs/\s.heap.DictOf (Ca X.prog X.w) p vs:=I.hok p _ hx
   have hlen:kvs.length=vs.length:=Paired.length r
   exact wpAny_truthy_dict hS m (by omega) ⟨H,I.tok _,by rw [NT r]; exact q⟩
 | _=>exact (show False from e).elim
theorem RN (ha:PE X a ta) (he:∀ whole,isTrue a X.env whole=(do let v ← whole; standAt a.pos; holding [v] (truthy v))) :
  PT X a (fun σ H Q=>ta σ H fun x H'=>∃ k,Yx X.K x H' k/\Q k H'):=by
 intro pins s σ H Q I h
 exact isTrue_plain (CG (ha pins s σ H _ I h) fun v s1 ⟨x,H1,I1,r1,q1⟩=>V3 pins s1 σ H1 x v Q I1 r1 q1) (he _)
theorem Cj:Gp X (binaryOp .Add) (fun x y H Q=>∃ i j,x=.str i/\y=.str j/\i.length+j.length<=sizeLine/\Q (.str (i++j)) H):=by
 intro pins s σ H x y v u Q I rx ry h
 obtain ⟨i,j,rfl,rfl,hz,q⟩:=h
 obtain ⟨t,rfl⟩:=rx
 obtain ⟨t',rfl⟩:=ry
 exact add_str (fun t' tk=>⟨.str (i++j),H,I.tok _,⟨_,rfl⟩,q⟩) hz
theorem vals1 {x:V} {us:List Value} (r:Vals [x] us):∃ u,us=[u]/\RelV x u:=by
 cases r with
 | cons r1 r2=>cases r2; exact ⟨_,rfl,r1⟩
theorem vals2 {x y:V} {us:List Value} (r:Vals [x,y] us):∃ u w',us=[u,w']/\RelV x u/\RelV y w':=by
 cases r with
 | cons r1 r2 =>
  cases r2 with
  | cons r3 r4=>cases r4; exact ⟨_,_,rfl,r1,r3⟩
theorem Rp:EY X (.builtin "abs") (fun xs H Q=>∃ i,xs=[.int i]/\Q (.int (if i<0 then -i else i)) H):=by
 intro pins s σ H xs us Q I r h
 obtain ⟨i,rfl,q⟩:=h
 obtain ⟨u,rfl,t,rfl⟩:=vals1 r
 exact call_abs_int fun u tk=>⟨.int (if i<0 then -i else i),H,I.tok _,⟨_,rfl⟩,q⟩
theorem Pj:EY X (.type "int") (fun xs H Q=>(∃ i,xs=[.int i]/\Q (.int i) H) \/ ∃ k,xs=[.bl k]/\Q (.int (if k then 1 else 0)) H):=by
 intro pins s σ H xs us Q I r h
 rcases h with ⟨i,rfl,q⟩ | ⟨k,rfl,q⟩
 ·obtain ⟨u,rfl,t,rfl⟩:=vals1 r
  exact call_int_int ⟨.int i,H,I,⟨_,rfl⟩,q⟩
 ·obtain ⟨u,rfl,r1⟩:=vals1 r
  cases r1
  exact call_int_bool ⟨.int (if k then 1 else 0),H,I.tok _,⟨_,rfl⟩,q⟩
end
end L2
namespace L2
open PySem PySem.Spec PyProof.Rows
structure N8 (h:Heap) (x dx C:Addr) (mA:Str->Option Value):Prop where
 obj:h.get? x=some (PySem.W.instObj C dx)
 ns:h.Ns1 dx mA
 ne:dx ≠ x
theorem Qe {h:Heap} {dx:Addr} {mA:Str->Option Value} (n:h.Ns1 dx mA):∃ od,h.get? dx=some od/\∀ name,PySem.W.lookIn name od=some (mA name):=by
 obtain ⟨o,es,ep,ho,hd,hk,_,hm⟩:=n
 refine ⟨o,ho,fun name=>?_⟩
 have e:=hm name
 unfold nsFind findBy at e
 rw [← Array.find?_toList] at e
 unfold PySem.W.lookIn
 rw [hd]
 dsimp only
 split
 ·rename_i y q
  rw [q] at e
  exact congrArg some e
 ·rename_i q
  rw [q] at e
  have a:es.toList.any (·.refKey)=false:=by
   rw [List.any_eq_false]
   intro y hy
   obtain ⟨z,t,hkey⟩:=hk y (Array.mem_toList_iff.mp hy)
   simp [DictEntry.refKey,hkey]
  have a':¬ es.toList.any (·.refKey)=true:=by rw [a]; exact Bool.false_ne_true
  rw [if_neg a']
  exact congrArg some e
theorem N8.look {h:Heap} {x dx C:Addr} {mA:Str->Option Value} (I:N8 h x dx C mA):∃ od,PySem.W.InstAt h x (PySem.W.instObj C dx) C (some od)/\∀ name,PySem.W.lookIn name od=some (mA name) :=
 let ⟨od,ho,hl⟩:=Qe I.ns
 ⟨od,⟨I.obj,rfl,rfl,ho⟩,hl⟩
section
variable {prog:Program} {w:World} {A:Around} {E:Value->Shared->Prop} {s:Shared} {K:PySem.W.Frag} {x dx C f:Addr} {mA:Str->Option Value} {name:Str} {v:Value}
theorem T_ {expr:Bool} {Q:Value->Shared->Prop} (X:K.In s.heap) (I:N8 s.heap x dx C mA) (hg:PySem.W.plainGet K C name=true) (hh:PySem.W.hasDictIn K C=true)
  (ha:PySem.W.findIn K (.ref C) name=some none) (hv:mA name=some v) (hv':PySem.W.handedIn v=true) (h:Q v { s with toks:=s.toks+1 }) :
  wpAny (model prog w) A (getAttr (.ref x) name expr) Q E s:=by
 obtain ⟨od,J,hl⟩:=I.look
 exact PySem.W.get_value X J (PySem.W.plainGet_of hg).1 (PySem.W.findObj_own hh ha rfl (by rw [hl,hv])) hv' h
theorem Rc {pl:Sem Bool} {Q:Value × List Value->Shared->Prop} (X:K.In s.heap) (I:N8 s.heap x dx C mA) (hg:PySem.W.plainGet K C name=true)
  (hf:PySem.W.findIn K (.ref C) name=some (some (.ref f))) (ht:PySem.W.isFn K (.ref f)=true) (hv:mA name=none) (h:Q (.ref f,[.ref x]) s) :
  wpAny (model prog w) A (getMethod (.ref x) name pl) Q E s:=by
 obtain ⟨od,J,hl⟩:=I.look
 exact PySem.W.method_fn X J (PySem.W.plainGet_of hg).1 (PySem.W.plainGet_of hg).2 hf (beq_iff_eq.mp ht) (by show (PySem.W.lookIn name od).map (·.isSome)=some false; rw [hl,hv]; rfl) h
theorem TQ {ns:List Str} {Q:Unit->Shared->Prop} (X:K.In s.heap) (I:N8 s.heap x dx C mA)
  (hs:PySem.W.findIn K (.ref C) "__setattr__" = some (some (.builtin "object.__setattr__"))) (hp:PySem.W.plainOver K C=true) (ht:PySem.W.takerIn K C name=some none) (hh:PySem.W.hasDictIn K C=true)
  (hw:PySem.Within mA ns) (hsz:ns.length<=sizeLine)
  (h:∀ h',N8 h' x dx C (fun y=>if y=name then some v else mA y)->Heap.SameBut dx s.heap h'->Q () { s with heap:=h',toks:=s.toks+2 }) :
  wpAny (model prog w) A (setAttr (.ref x) name v) Q E s:=by
 obtain ⟨od,J,hl⟩:=I.look
 refine PySem.W.set_plain X J hs (PySem.W.osa_open (s:={ s with toks:=s.toks+1 }) (r:=none) X J hp ht fun b=>?_)
 obtain ⟨cd,hc,hd'⟩:=PySem.W.any_some hh
 have hx:s.heap.get? x=some ⟨.ref C,some dx,.plain,#[]⟩:=I.obj
 refine wpAny_bind (wpAny_pure (wpAny_bind (wpAny_bind (wpAny_loadPart hx (wpAny_bind (PySem.W.Looks.here (s:={ s with toks:=s.toks+1 }) (PySem.W.looks_clsIn X hc) ?_))))))
 rw [hd']
 refine wpAny_pure (a:=some dx) (wpAny_bind (wpAny_pure (wpAny_bind ?_)))
 refine wpAny_nsSet1 (s:={ s with toks:=s.toks+1 }) I.ns fun h' hn2 hs2=>?_
 obtain ⟨oD,esD,epD,hoD,hdD,hcD⟩:=hn2.count (PySem.Within.cons name v hw)
 refine wpAny_bind (wpAny_lookBehind hoD (by rw [hdD]; exact pastItsLine_dict (Nat.le_trans hcD (by rw [List.length_cons]; omega))) ?_)
 exact wpAny_pure (h _ ⟨(hs2.2 _ (Ne.symm I.ne)).trans I.obj,hn2,I.ne⟩ hs2)
theorem Rg {R:Result->Shared->Prop} {vs:List Value} {kw:List (Str × Value)} (X:K.In s.heap) (hm:PySem.W.makesIn K C=true)
  (hi:PySem.W.findIn K (.ref C) "__init__" = some (some (.ref f))) (hf:PySem.W.typeIn K (.ref f)=some (.type "function"))
  (h:codeAny (model prog w) (A.under (.builtin "type.__call__" ⟨.ref C::vs,kw⟩)) (.call (.ref f) ⟨.ref (s.heap.objs.size+1)::vs,kw⟩) (PySem.W.InitBack (s.heap.objs.size+1) R)
   { s with heap:=(s.heap.push PySem.W.emptyDict).push (PySem.W.instObj C s.heap.objs.size) }) :
  codeAny (model prog w) A (.call (.ref C) ⟨vs,kw⟩) R s:=by
 obtain ⟨hh,g,d,t,os⟩:=s
 exact PySem.W.make_core (PySem.W.makes_of X hm) (PySem.W.looks_findIn X hi) (fun self=>PySem.W.bind_fn X self hf) (.inl rfl) h
end
noncomputable def Bf (f:Str) (v:V):List (Str × V)->List (Str × V)
 | []=>[(f,v)]
 | (g,x)::r=>if g=f then (g,v)::r else (g,x)::Bf f v r
theorem Ai (f g:Str) (v:V):∀ fs:List (Str × V),(Bf f v fs).lookup g=if g=f then some v else fs.lookup g
 | []=>by
  show List.lookup g [(f,v)]=_
  by_cases h:g=f
  ·have hb:(g == f)=true:=beq_iff_eq.mpr h
   simp only [List.lookup,hb,if_pos h]
  ·have hb:(g == f)=false:=beq_eq_false_iff_ne.mpr h
   simp only [List.lookup,hb,if_neg h]
 | (k,x)::r=>by
  have ih:=Ai f g v r
  rw [show Bf f v ((k,x)::r)=(if k=f then (k,v)::r else (k,x)::Bf f v r) from rfl]
  by_cases hk:k=f
  ·rw [if_pos hk]
   by_cases h:g=k
   ·have hb:(g == k)=true:=beq_iff_eq.mpr h
    simp only [List.lookup,hb,if_pos (h.trans hk)]
   ·have hb:(g == k)=false:=beq_eq_false_iff_ne.mpr h
    simp only [List.lookup,hb,if_neg (fun e:g=f=>h (e.trans hk.symm))]
  ·rw [if_neg hk]
   by_cases h:g=k
   ·have hb:(g == k)=true:=beq_iff_eq.mpr h
    simp only [List.lookup,hb,if_neg (fun e:g=f=>hk (h.symm.trans e))]
   ·have hb:(g == k)=false:=beq_eq_false_iff_ne.mpr h
    simp only [List.lookup,hb]
    exact ih
theorem H_ (f:Str) (v:V):∀ fs:List (Str × V),f∈(Bf f v fs).map (·.1)/\∀ g,g∈fs.map (·.1)->g∈(Bf f v fs).map (·.1)
 | []=>⟨by simp [Bf],fun g h=>by simp at h⟩
 | (k,x)::r=>by
  obtain ⟨i1,i2⟩:=H_ f v r
  rw [show Bf f v ((k,x)::r)=(if k=f then (k,v)::r else (k,x)::Bf f v r) from rfl]
  by_cases hk:k=f
  ·rw [if_pos hk]
   subst hk
   exact ⟨by simp,fun g h=>by simpa using h⟩
  ·rw [if_neg hk]
   refine ⟨?_,fun g h=>?_⟩
   ·rw [List.map_cons]
    exact List.mem_cons_of_mem _ i1
   ·rw [List.map_cons] at h ⊢
    rcases List.mem_cons.mp h with e | e
    ·exact List.mem_cons.mpr (.inl e)
    ·exact List.mem_cons_of_mem _ (i2 g e)
theorem IV (f:Str) (v:V):∀ fs:List (Str × V),(Bf f v fs).length<=fs.length+1
 | []=>by simp [Bf]
 | (k,x)::r=>by
  have ih:=IV f v r
  rw [show Bf f v ((k,x)::r)=(if k=f then (k,v)::r else (k,x)::Bf f v r) from rfl]
  by_cases hk:k=f
  ·rw [if_pos hk,List.length_cons,List.length_cons]; omega
  ·rw [if_neg hk,List.length_cons,List.length_cons]; omega
theorem GK.some_of {v:V} {o:Option Value} (r:GK (some v) o):∃ u,o=some u/\RelV v u:=by
 cases o with
 | none=>exact (show False from r).elim
 | some u=>exact ⟨u,rfl,r⟩
theorem GK.none_of {o:Option Value} (r:GK none o):o=none:=by
 cases o with
 | none=>rfl
 | some u=>exact (show False from r).elim
theorem Qh {v:V} {u:Value} (r:RelV v u):PySem.W.handedIn u=true:=by
 cases v with
 | non=>cases (show u=Value.none from r); rfl
 | bl b=>cases (show u=Value.bool b from r); rfl
 | int i=>obtain ⟨t,e⟩:=(show ∃ t,u=Value.int i t from r); cases e; rfl
 | str x=>obtain ⟨t,e⟩:=(show ∃ t,u=Value.str x t from r); cases e; rfl
 | byt b=>obtain ⟨t,e⟩:=(show ∃ t,u=Value.bytes b t from r); cases e; rfl
 | flt b=>obtain ⟨t,e⟩:=(show ∃ t,u=Value.float b t from r); cases e; rfl
 | ref a=>cases (show u=Value.ref a from r); rfl
 | ty n=>cases (show u=Value.type n from r); rfl
section
variable {P:Program} {w:World} {H H':Hp} {h h':Heap} {a C dx:Addr} {fs fs':List (Str × V)}
theorem Io (hok:HJ P w H h) (e:H a=some (.ins C dx fs)):∃ mA,N8 h a dx C mA/\(∀ f,GK (fs.lookup f) (mA f))/\PySem.Within mA (fs.map (·.1))/\fs.length<=1000/\H dx=some (.own a):=by
 obtain ⟨d,z,ne,ob,mA,n,r,q⟩:=(show By P w H h a (.ins C dx fs) from hok a _ e)
 exact ⟨mA,⟨ob,n,ne⟩,r,q,z,d⟩
end
structure S8 (K:PySem.W.Frag) (C:Addr):Prop where
 pg:PySem.W.plainGet K C Str.empty=true
 hd:PySem.W.hasDictIn K C=true
 po:PySem.W.plainOver K C=true
 sa:PySem.W.findIn K (.ref C) "__setattr__" = some (some (.builtin "object.__setattr__"))
theorem S8.get {K:PySem.W.Frag} {C:Addr} (c:S8 K C) (f:Str):PySem.W.plainGet K C f=true:=c.pg
noncomputable def Cr (K:PySem.W.Frag) (C:Addr) (f:Str):Prop:=PySem.W.findIn K (.ref C) f=some none
theorem Cr.taker {K:PySem.W.Frag} {C:Addr} {f:Str} (n:Cr K C f):PySem.W.takerIn K C f=some none:=by
 unfold PySem.W.takerIn
 rw [show PySem.W.findIn K (.ref C) f=some none from n]
 rfl
structure Meth (K:PySem.W.Frag) (C:Addr) (m:Str) (f:Addr):Prop where
 at_:PySem.W.findIn K (.ref C) m=some (some (.ref f))
 fn:PySem.W.isFn K (.ref f)=true
 kp:PySem.W.keepIn K (.ref f)=true
section
variable {X:Cx} {pins:List (Addr × Obj)} {σ:St} {H:Hp} {s:Shared} {a C dx:Addr} {fs:List (Str × V)} {f:Str} {v:V} {A:Around} {E:Value->Shared->Prop}
theorem NZ {b:Bool} {Q:Value->Shared->Prop} (I:Inv X pins σ H s) (e:H a=some (.ins C dx fs)) (c:S8 X.K C) (n:Cr X.K C f) (l:fs.lookup f=some v)
  (h:∀ u s',Inv X pins σ H s'->RelV v u->Q u s'):wpAny (model X.prog X.w) A (getAttr (.ref a) f b) Q E s:=by
 obtain ⟨mA,O,r,_,_,_⟩:=Io I.hok e
 obtain ⟨u,hu,ru⟩:=GK.some_of (v:=v) (o:=mA f) (by rw [← l]; exact r f)
 exact T_ I.Ho O (c.get f) c.hd n hu (Qh ru) (h u _ (I.tok _) ru)
theorem Nj {m:Str} {g:Addr} {pl:Sem Bool} {Q:Value × List Value->Shared->Prop} (I:Inv X pins σ H s) (e:H a=some (.ins C dx fs)) (c:S8 X.K C) (k:Meth X.K C m g) (l:fs.lookup m=none)
  (h:Q (.ref g,[.ref a]) s):wpAny (model X.prog X.w) A (getMethod (.ref a) m pl) Q E s:=by
 obtain ⟨mA,O,r,_,_,_⟩:=Io I.hok e
 have hn:mA m=none:=GK.none_of (by rw [← l]; exact r m)
 exact Rc I.Ho O (c.get m) k.at_ k.fn hn h
theorem Nk {y:V} {u:Value} {Q:Unit->Shared->Prop} (I:Inv X pins σ H s) (e:H a=some (.ins C dx fs)) (c:S8 X.K C) (n:Cr X.K C f) (hl:fs.length<1000) (ry:RelV y u)
  (h:∀ s',Inv X pins σ (upd H a (.ins C dx (Bf f y fs))) s'->Q () s'):wpAny (model X.prog X.w) A (setAttr (.ref a) f u) Q E s:=by
 obtain ⟨mA,O,r,wi,_,ho⟩:=Io I.hok e
 have hz:(fs.map (·.1)).length<=sizeLine:=by rw [List.length_map,sizeLine_eq]; omega
 refine TQ I.Ho O c.sa c.po n.taker c.hd wi hz fun h' O' sb=>h _ ?_
 have hd:∃ o,h'.get? dx=some o:=let ⟨o,_,_,e',_⟩:=O'.ns; ⟨o,e'⟩
 refine I.write (x:=a) (e:=dx) (by rw [e]; exact True.intro) (.inr ho) (fun b q hb z=>(sb.2 b hb).trans z) hd ?_
 refine ⟨by rw [An O.ne]; exact ho,?_,O.ne,O'.obj,_,O'.ns,fun g=>?_,fun g hg=>?_⟩
 ·have:=IV f y fs; omega
 ·show GK ((Bf f y fs).lookup g) (if g=f then some u else mA g)
  rw [Ai]
  by_cases q:g=f
  ·rw [if_pos q,if_pos q]; exact ry
  ·rw [if_neg q,if_neg q]; exact r g
 ·by_cases q:g=f
  ·rw [q]; exact (H_ f y fs).1
  ·refine (H_ f y fs).2 g (wi g fun z=>hg ?_)
   show (if g=f then some u else mA g)=none
   rw [if_neg q]; exact z
theorem Inv.made (I:Inv X pins σ H s):Inv X pins σ (upd (upd H s.heap.objs.size (.own (s.heap.objs.size+1))) (s.heap.objs.size+1) (.ins C s.heap.objs.size []))
  { s with heap:=(s.heap.push PySem.W.emptyDict).push (PySem.W.instObj C s.heap.objs.size) }:=by
 have e1:(s.heap.push PySem.W.emptyDict).get? s.heap.objs.size=some PySem.W.emptyDict:=Heap.get?_push_size s.heap rfl
 have e2:((s.heap.push PySem.W.emptyDict).push (PySem.W.instObj C s.heap.objs.size)).get? (s.heap.objs.size+1)=some (PySem.W.instObj C s.heap.objs.size):=by
  have:=Heap.get?_push_size (s.heap.push PySem.W.emptyDict) (o:=PySem.W.instObj C s.heap.objs.size) rfl
  rwa [Heap.size_push] at this
 have e3:(s.heap.push PySem.W.emptyDict).Ns s.heap.objs.size (fun _=>none):=⟨PySem.W.emptyDict,#[],_,e1,rfl,(fun e he=>absurd he (by simp)),fun _=>rfl⟩
 have I1:=I.laid (a:=s.heap.objs.size) (o:=.own (s.heap.objs.size+1)) (h':=s.heap.push PySem.W.emptyDict) (t':=s.toks) (fun b u q=>Heap.get?_push_of_some _ q) (Nat.le_refl _) ⟨_,e1⟩
 refine I1.laid (a:=s.heap.objs.size+1) (o:=.ins C s.heap.objs.size []) (t':=s.toks) (fun b u q=>Heap.get?_push_of_some _ q) (Nat.le_of_eq (Heap.size_push _ _)) ?_
 have ne:s.heap.objs.size ≠ s.heap.objs.size+1:=Nat.ne_of_lt (Nat.lt_succ_self _)
 refine ⟨by rw [An ne,Ah],Nat.zero_le _,ne,e2,fun _=>none,(Heap.Ns1.of_empty e3).at fun o q=>Heap.get?_push_of_some _ q,fun _=>True.intro,fun y hy=>absurd rfl hy⟩
theorem UW {prog:Program} {w:World} {env:Env} {e:Expr} {f:Str} {pos:Pos} {s:Shared} {Q:Value->Shared->Prop} (hb:attributeBase e f env (eval e env)=eval e env)
  (h:wpAny (model prog w) A (eval e env) (fun o s₁=>wpAny (model prog w) A (getAttr o f true) Q E s₁) E s):wpAny (model prog w) A (eval (.Attribute e f pos) env) Q E s :=
 Attribute_any_ h (by rw [arm_eval_Attribute,hb])
end
noncomputable def Wz (K:PySem.W.Frag) (ta:TE) (f:Str):TE:=fun σ H Q=>ta σ H fun x H1=>∃ a C dx fs v,x=.ref a/\H1 a=some (.ins C dx fs)/\S8 K C/\Cr K C f/\fs.lookup f=some v/\Q v H1
noncomputable def cA (K:PySem.W.Frag) (ta tv:TE) (f:Str):TS:=fun D σ H=>tv σ H fun y H1=>ta σ H1 fun x H2=>∃ a C dx fs,x=.ref a/\H2 a=some (.ins C dx fs)/\S8 K C/\Cr K C f/\fs.length<1000 /\
 D.nx σ (upd H2 a (.ins C dx (Bf f y fs)))
section
variable {X:Cx} {o e value:Expr} {f:Str} {pos pos' tpos:Pos} {ta tv:TE}
theorem El (he:PE X e ta) (hb:attributeBase e f X.env (eval e X.env)=eval e X.env):PE X (.Attribute e f pos) (Wz X.K ta f):=by
 intro pins s σ H Q I h
 refine UW hb (CG (he pins s σ H _ I h) fun u s1 hq0=>?_)
 obtain ⟨x,H1,I1,rx,a,C,dx,fs,v,ex,ea,c,n,l,q⟩:=hq0
 subst ex
 obtain rfl:u=Value.ref a:=rx
 exact NZ I1 ea c n l fun u' s2 I2 ru=>⟨v,H1,I2,ru,q⟩
theorem Ei (ha:PE X o ta) (hv:PE X value tv) (hs:swapsWith value (some (.Attribute o f pos')) pos.line X.env=pure false):PS X (.Assign [.Attribute o f pos'] value pos) (cA X.K ta tv f):=by
 intro pins s σ H D I h
 refine plainObj_wpAny_Assign_Attribute (CG (hv pins s σ H _ I h) fun u s1 ⟨y,H1,I1,ry,q⟩=>CG (ha pins s1 σ H1 _ I1 q) fun ov s2 ⟨x,H2,I2,rx,a,C,dx,fs,ex,ea,c,n,l,q2⟩=>?_) hs
 subst ex
 obtain rfl:ov=Value.ref a:=rx
 exact Nk I2 ea c n l ry fun s3 I3=>⟨σ,_,I3,q2⟩
end
section
variable {X:Cx} {pins:List (Addr × Obj)} {σ:St} {H:Hp} {s:Shared} {A:Around} {E:Value->Shared->Prop} {Q:Value->Shared->Prop} {c:Value} {b:Bool}
inductive Hf (K:PySem.W.Frag) (H:Hp):V->Value->Prop where
 | non:Hf K H .non (.type "NoneType")
 | bl (x:Bool):Hf K H (.bl x) (.type "bool")
 | int (i:Int):Hf K H (.int i) (.type "int")
 | str (x:Str):Hf K H (.str x) (.type "str")
 | flt (x:UInt64):Hf K H (.flt x) (.type "float")
 | lst {a:Addr} {xs:List V} (e:H a=some (.lst xs)):Hf K H (.ref a) (.type "list")
 | frz {a:Addr} {o:Obj} {xs:List V} (e:H a=some (.frz o (.lst xs))):Hf K H (.ref a) (.type "list")
 | tup {a:Addr} {xs:List V} (e:H a=some (.tup xs)):Hf K H (.ref a) (.type "tuple")
 | dK {a:Addr} {kvs:List (Key × V)} (e:H a=some (.dK kvs)):Hf K H (.ref a) (.type "dict")
 | dT {a:Addr} {kvs:List (List Key × V)} (e:H a=some (.dT kvs)):Hf K H (.ref a) (.type "dict")
 | ins {a C dx:Addr} {fs:List (Str × V)} (e:H a=some (.ins C dx fs)) (cl:S8 K C) (ha:PySem.W.findIn K (.ref C) "__class__" = some (some (.builtin "object.__class__")))
   (hn:PySem.W.specialIn K (.builtin "object.__class__") "__get__" = some (some (.builtin "getset_descriptor.__get__"))) (htk:PySem.W.takesIn K (.builtin "object.__class__")=some true)
   (hm:PySem.W.mroIn K C (.type "object")=some true):Hf K H (.ref a) (.ref C)
theorem KD {x:V} {u t:Value} (I:Inv X pins σ H s) (rx:RelV x u) (ty:Hf X.K H x t) (e:PySem.W.kitOne X.K t c=some b) (h:∀ tk,Q (.bool b) { s with toks:=tk }) :
  wpAny (model X.prog X.w) A (call (.builtin "isinstance") [u,c]) Q E s:=by
 cases ty with
 | non=>cases (show u=Value.none from rx); exact PySem.W.kia_one PySem.W.kitx_none I.Ho True.intro e (fun z=>nomatch z) h
 | bl y=>cases (show u=Value.bool y from rx); exact PySem.W.kia_one PySem.W.kitx_bool I.Ho True.intro e (fun z=>nomatch z) h
 | int i=>obtain ⟨t,q⟩:=(show ∃ t,u=Value.int i t from rx); cases q; exact PySem.W.kia_one PySem.W.kitx_int I.Ho True.intro e (fun z=>nomatch z) h
 | str y=>obtain ⟨t,q⟩:=(show ∃ t,u=Value.str y t from rx); cases q; exact PySem.W.kia_one PySem.W.kitx_str I.Ho True.intro e (fun z=>nomatch z) h
 | flt y=>obtain ⟨t,q⟩:=(show ∃ t,u=Value.float y t from rx); cases q; exact PySem.W.kia_one PySem.W.kitx_float I.Ho True.intro e (fun z=>nomatch z) h
 | @lst a xs ea =>
  cases (show u=Value.ref a from rx)
  obtain ⟨_,_,n,_,h1⟩:=(show By X.prog X.w H s.heap a (.lst xs) from I.hok a _ ea)
  exact PySem.W.kia_one PySem.W.kitx_list I.Ho ⟨_,h1,rfl⟩ e (fun z=>nomatch z) h
 | @frz a ob xs ea =>
  cases (show u=Value.ref a from rx)
  obtain ⟨_,_,_,n,_,h1⟩:=(show By X.prog X.w H s.heap a (.frz ob (.lst xs)) from I.hok a _ ea)
  exact PySem.W.kia_one PySem.W.kitx_list I.Ho ⟨_,h1,rfl⟩ e (fun z=>nomatch z) h
 | @tup a xs ea =>
  cases (show u=Value.ref a from rx)
  obtain ⟨_,_,_,p⟩:=(show By X.prog X.w H s.heap a (.tup xs) from I.hok a _ ea)
  obtain ⟨o,h1,h2,_⟩:=p
  exact PySem.W.kia_one PySem.W.kitx_tuple I.Ho ⟨o,h1,h2⟩ e (fun z=>nomatch z) h
 | @dK a kvs ea =>
  cases (show u=Value.ref a from rx)
  obtain ⟨_,_,vs,_,p⟩:=(show By X.prog X.w H s.heap a (.dK kvs) from I.hok a _ ea)
  obtain ⟨o,es,ep,h1,h2,_⟩:=p
  exact PySem.W.kia_one PySem.W.kitx_dict I.Ho ⟨o,h1,h2.1⟩ e (fun z=>nomatch z) h
 | @dT a kvs ea =>
  cases (show u=Value.ref a from rx)
  refine byC fun w_=>?_;obtain ⟨_,_,xs,_,o,es,ep,h1,h2,_⟩:=(show By X.prog X.w H s.heap a (.dT kvs) from I.hok a _ ea);refine w_ ?_
  exact PySem.W.kia_one PySem.W.kitx_dict I.Ho ⟨o,h1,h2.1⟩ e (fun z=>nomatch z) h
 | @ins a C dx fs ea cl ha hn htk hm =>
  cases (show u=Value.ref a from rx)
  obtain ⟨mA,O,_⟩:=Io I.hok ea
  obtain ⟨od,J,_⟩:=O.look
  exact PySem.W.kia_one (PySem.W.kitx_own (cl.get _) cl.hd ha hn htk hm) I.Ho J e (fun z=>nomatch z) h
end
end L2
namespace L2
open PySem PySem.Spec PyProof.Rows
structure Bc (k:Nat) (A:Around):Prop where
 hd:A.handled=none
 dp:A.depth+3 * k+5<recursionLimit
 un:A.units+16 * k+200<cLine
theorem Bc.mono {j k:Nat} {A:Around} (r:Bc k A) (h:j<=k):Bc j A:=⟨r.hd,by have:=r.dp; omega,by have:=r.un; omega⟩
theorem Bc.deeper {k:Nat} {A:Around} (r:Bc (k+1) A) (env:Env):Bc k (A.deeper env) :=
 ⟨r.hd,by have:=r.dp; show A.depth+1+3 * k+5<_; omega,by have:=r.un; show A.units+3+16 * k+200<_; omega⟩
theorem Mz {A:Around} {C:Addr} {us:List Value} {kw:List (Str × Value)}:(A.under (.builtin "type.__call__" ⟨.ref C::us,kw⟩)).depth=A.depth+1:=by
 first | rfl | simp [Around.under,Code.weight,Code.isCreation,Code.isGuard,Code.isCaller,Code.frames,Code.isFrame,guardIds]
theorem NP {A:Around} {C:Addr} {us:List Value} {kw:List (Str × Value)}:(A.under (.builtin "type.__call__" ⟨.ref C::us,kw⟩)).units=A.units+1:=by
 first | rfl | simp [Around.under,Code.cUnits,Code.frames,Code.isFrame]
theorem Bc.make {k:Nat} {A:Around} (r:Bc (k+1) A) (C:Addr) (us:List Value) (kw:List (Str × Value)):Bc k (A.under (.builtin "type.__call__" ⟨.ref C::us,kw⟩)) :=
 ⟨r.hd,by have:=r.dp; rw [Mz]; omega,by have:=r.un; rw [NP]; omega⟩
theorem Bc.depth {k:Nat} {A:Around} (r:Bc k A):A.depth<recursionLimit:=by have:=r.dp; omega
theorem Bc.units {k:Nat} {A:Around} (r:Bc k A):A.units+64<cLine:=by have:=r.un; omega
noncomputable def Xx:TA:=fun _ H Q=>Q [] H
noncomputable def Yq (ta:TE) (tr:TA):TA:=fun σ H Q=>ta σ H fun x H1=>tr σ H1 fun xs H2=>Q (x::xs) H2
section
variable {X:Cx} {e:Expr} {es:List Expr} {te:TE} {t:TA} {pos:Pos}
theorem Ab:PA X [] Xx:=fun _ _ _ _ H Q I h=>Calls.spliced_nil ⟨[],H,I,.nil,h⟩
theorem Aa (ha:PE X e te) (hr:PA X es t) (hs:starEach (e::es) X.env=(false,eval e X.env)::starEach es X.env:=by rfl):PA X (e::es) (Yq te t):=by
 intro pos pins s σ H Q I h
 rw [hs]
 show wpAny _ _ (spliced ((false,eval e X.env)::backTo pos (starEach es X.env))) _ _ s
 refine Calls.spliced_cons (CG (ha pins s σ H _ I h) fun u s1 hq0=>?_)
 obtain ⟨x,H1,I1,r1,q1⟩:=hq0
 exact CG (hr pos pins s1 σ H1 _ I1 q1) fun us s2 ⟨xs,H2,I2,r2,q2⟩=>⟨x::xs,H2,I2,.cons r1 r2,q2⟩
noncomputable def bM (t:TA):TE:=fun σ H Q=>t σ H fun xs H1=>xs.length<=sizeLine/\∀ p,H1 p=none->Q (.ref p) (upd H1 p (.tup xs))
noncomputable def dH (t:TA):TE:=fun σ H Q=>t σ H fun xs H1=>xs.length<=sizeLine/\∀ p,H1 p=none->Q (.ref p) (upd H1 p (.lst xs))
theorem Cd {x1} (h:PA X es t):PE X (.Tuple es x1 pos) (bM t):=by
 intro pins s σ H Q I hq
 refine wpAny_Tuple_spliced (CG (h pos pins s σ H _ I hq) fun us s1 ⟨xs,H1,I1,r,z,q⟩=>⟨by rw [← r.length]; exact z,?_⟩)
 have hf:H1 s1.heap.objs.size=none:=I1.hok.fresh (Nat.le_refl _)
 refine ⟨.ref s1.heap.objs.size,upd H1 s1.heap.objs.size (.tup xs),I1.laid (t':=s1.toks) (fun b u e=>Heap.get?_push_of_some _ e) (Nat.le_refl _) ?_,rfl,q _ hf⟩
 exact ⟨z,us,r,⟨_,Heap.get?_push_size _ rfl,rfl,_,rfl⟩⟩
theorem Cm (h:PA X es t):PE X (.List es pos) (dH t):=by
 intro pins s σ H Q I hq
 refine wpAny_List_spliced (CG (h pos pins s σ H _ I hq) fun us s1 ⟨xs,H1,I1,r,z,q⟩=>⟨by rw [← r.length]; exact z,?_⟩)
 have hf:H1 s1.heap.objs.size=none:=I1.hok.fresh (Nat.le_refl _)
 refine ⟨.ref s1.heap.objs.size,upd H1 s1.heap.objs.size (.lst xs),I1.laid (t':=s1.toks) (fun b u e=>Heap.get?_push_of_some _ e) (Nat.le_refl _) ?_,rfl,q _ hf⟩
 exact ⟨z,us,0,r,Heap.get?_push_size _ rfl⟩
end
noncomputable abbrev Sp:=List V->Hp->VK->XK->Prop
noncomputable abbrev P0:=List Env->Hp->Shared->XK->Value->Shared->Prop
structure L_ (P:Program) (w:World) (K:PySem.W.Frag) (mg:Str->Option Value) (base:Heap) (A:Around) (outer:List Env) (s:Shared) (H:Hp):Prop where
 frames:A.frames=some outer
 mod:Mod K mg base
 bs:∀ b o,base.get? b=some o->s.heap.get? b=some o/\H b=none
 bsz:base.objs.size<=s.heap.objs.size
 Il:s.heap.FunFrames base outer
 frf:∀ b∈frs outer,H b=none
 hok:HJ P w H s.heap
 bare:AllBare s.gens
noncomputable def CE (outer:List Env) (P:Program) (w:World) (H:Hp) (s:Shared) (Q:VK) (u:Value) (s':Shared):Prop :=
 ∃ v H',s'.os=s.os/\AllBare s'.gens/\Un (frs outer) [] H H' s.heap s'.heap/\HJ P w H' s'.heap/\RelV v u/\Q v H'
noncomputable def CR (CX:P0) (outer:List Env) (P:Program) (w:World) (H:Hp) (s:Shared) (Q:VK) (E:XK) (r:Result) (s':Shared):Prop :=
 match r with
 | .ok (.ret u)=>CE outer P w H s Q u s'
 | .ok _=>False
 | .error e=>CX outer H s E e s'
structure BJ (P:Program) (w:World) (K:PySem.W.Frag) (mg:Str->Option Value) (base:Heap) (CX:P0) (k:Nat) (f:Addr) (fd:FuncData) (ps:List Str) (sp:Sp):Prop where
 len:∀ vs H Q E,sp vs H Q E->vs.length=ps.length
 run:∀ (A:Around) (outer:List Env) (s:Shared) (H:Hp) (args:Args) (us:List Value) (vs:List V) (Q:VK) (E:XK),Bc k A->L_ P w K mg base A outer s H->BindsTo s fd args (ps.zip us)->Vals vs us->sp vs H Q E ->
  codeAny (model P w) A (.call (.ref f) args) (CR CX outer P w H s Q E) s
theorem L_.make {P:Program} {w:World} {K:PySem.W.Frag} {mg:Str->Option Value} {base:Heap} {A:Around} {outer:List Env} {s:Shared} {H:Hp} (e:L_ P w K mg base A outer s H) (C:Addr) (us:List Value) (kw:List (Str × Value)) :
  L_ P w K mg base (A.under (.builtin "type.__call__" ⟨.ref C::us,kw⟩)) outer s H:=⟨by first | exact e.frames | (simpa [Around.under,Code.envs,Code.isFrame,pushEnvs] using e.frames),e.mod,e.bs,e.bsz,e.Il,e.frf,e.hok,e.bare⟩
section
variable {X:Cx} {pins:List (Addr × Obj)} {σ:St} {H:Hp} {s s':Shared}
theorem Inv.env0 (I:Inv X pins σ H s):L_ X.prog X.w X.K X.mg X.base X.A X.stack s H :=
 ⟨I.ok.frames,I.ok.mod,I.bs,Nat.le_trans I.ok.bsz I.sz,I.stack,I.KY,I.hok,I.bare⟩
theorem Inv.after {Q:VK} {u:Value} (I:Inv X pins σ H s) (h:CE X.stack X.prog X.w H s Q u s'):EP X pins σ Q u s':=by
 obtain ⟨v,H',os,bare,un,hok,r,q⟩:=h
 obtain ⟨hh,g,d,t,os'⟩:=s'
 obtain rfl:os'=s.os:=os
 exact ⟨v,H',I.call (h':=hh) (g':=g) (d':=d) (t':=t) (ch:=[]) un hok bare (fun b z=>absurd z (by simp)),r,q⟩
end
noncomputable def Z2 (sp:Sp) (dvs:List V) (E:XK) (t:TA):TE:=fun σ H Q=>t σ H fun vs H1=>sp (vs++dvs) H1 Q E
noncomputable def ZS (C:Addr) (m:Str) (sp:Sp) (dvs:List V) (E:XK) (ta:TE) (t:TA):TE:=fun σ H Q=>ta σ H fun x H1=>∃ a dx fs,x=.ref a/\H1 a=some (.ins C dx fs)/\fs.lookup m=none /\
 t σ H1 fun vs H2=>sp (x::(vs++dvs)) H2 Q E
noncomputable def ZC (C:Addr) (sp:Sp) (dvs:List V) (E:XK) (t:TA):TE:=fun σ H Q=>t σ H fun vs H1=>∀ x dx,H1 x=none->H1 dx=none->dx ≠ x ->
 sp (.ref x::(vs++dvs)) (upd (upd H1 dx (.own x)) x (.ins C dx [])) (fun v H2=>v=.non/\Q (.ref x) H2) E
noncomputable def Binds (K:PySem.W.Frag) (fd:FuncData) (ps:List Str) (ds:List Value):Prop :=
 ∀ (s:Shared) (us:List Value),K.In s.heap->(us++ds).length=ps.length->BindsTo s fd ⟨us,[]⟩ (ps.zip (us++ds))
theorem Binds.all {K:PySem.W.Frag} {fd:FuncData} {ps:List Str} (h:∀ us:List Value,us.length=ps.length->bindArgs fd ⟨us,[]⟩=pure (ps.zip us)):Binds K fd ps []:=fun s us _ hl=>by
 rw [List.append_nil] at hl ⊢
 exact .of_eq (h us hl)
noncomputable def Hx (CX:P0) (X:Cx) (E:XK):Prop:=∀ (pins:List (Addr × Obj)) (σ:St) (H:Hp) (s:Shared) (e:Value) (s':Shared),Inv X pins σ H s->CX X.stack H s E e s'->X.xe e s'
section
variable {X:Cx} {CX:P0} {k:Nat} {f C:Addr} {fd:FuncData} {ps:List Str} {sp:Sp} {dvs:List V} {ds:List Value} {E:XK} {x m:Str} {p pos apos:Pos} {e o:Expr} {es:List Expr} {ta:TE} {t:TA}
theorem Qv {pins:List (Addr × Obj)} {σ:St} {H:Hp} {s:Shared} {Q:VK} {us:List Value} {vs:List V} (F:BJ X.prog X.w X.K X.mg X.base CX k f fd ps sp) (hr:Bc k X.A) (hb:Binds X.K fd ps ds) (hd:Vals dvs ds) (hx:Hx CX X E)
  (I:Inv X pins σ H s) (r:Vals vs us) (h:sp (vs++dvs) H Q E):wpAny (model X.prog X.w) X.A (call (.ref f) us) (EP X pins σ Q) X.xe s:=by
 have r2:Vals (vs++dvs) (us++ds):=r.append hd
 have hl:(us++ds).length=ps.length:=by rw [← r2.length]; exact F.len _ _ _ _ h
 refine wpAny_call (codeAny_mono (F.run X.A X.stack s H ⟨us,[]⟩ (us++ds) (vs++dvs) Q E hr I.env0 (hb s us I.Ho hl) r2 h) fun r s' hq=>?_)
 cases r with
 | error e=>exact hx pins σ H s e s' I hq
 | ok fl =>
  cases fl with
  | ret u=>exact I.after hq
  | next=>exact False.elim hq
  | brk=>exact False.elim hq
  | cont=>exact False.elim hq
theorem Ak (F:BJ X.prog X.w X.K X.mg X.base CX k f fd ps sp) (hr:Bc k X.A) (hg:Gl X x) (hm:X.mg x=some (.ref f)) (hk:PySem.W.keepIn X.K (.ref f)=true) (hb:Binds X.K fd ps ds) (hd:Vals dvs ds) (hx:Hx CX X E)
  (ha:PA X (e::es) t) (hdb:(x == ("__debug__" : Str))=false:=by decide) (he:starEach (e::es) X.env=(false,eval e X.env)::starEach es X.env:=by rfl) (hpl:(backTo pos (starEach es X.env)).any (·.1)=false:=by rfl) :
  PE X (.Call (.Name x p) (e::es) [] pos) (Z2 sp dvs E t):=by
 intro pins s σ H Q I h
 refine wpAny_Call_Name_kw (Km I hg hm ?_ hdb)
 refine PySem.W.callWith_K (h₀:=X.base) I.ok.mod.kin hk (CG (ha pos pins s σ H _ I h) fun us s1 ⟨vs,H1,I1,r,q⟩=>⟨I1.Ho,?_⟩) he hpl
 exact Qv F hr hb hd hx I1 r q
theorem GD {pl:Sem Bool} (he:PE X o ta) (c:S8 X.K C) (hm:Meth X.K C m f) (F:BJ X.prog X.w X.K X.mg X.base CX k f fd ps sp) (hr:Bc k X.A) (hb:Binds X.K fd ps ds) (hd:Vals dvs ds) (hx:Hx CX X E)
  (ht:eval (.Call (.Attribute o m apos) [] [] pos) X.env=(do
   let ov ← eval o X.env
   standAt apos.atName
   let (f,first) ← holding [ov] (getMethod ov m pl)
   callWith pos f first (backTo pos (starEach [] X.env)) (backToKw pos (keywordEach [] X.env))):=by rfl) :
  PE X (.Call (.Attribute o m apos) [] [] pos) (ZS C m sp dvs E ta Xx):=by
 intro pins s σ H Q I h
 refine PySem.W.methodCall_KW (pl:=pl) (CG (he pins s σ H _ I h) fun u s1 ⟨x,H1,I1,rx,a,dx,fs,ex,ea,l,q⟩=>?_) ht
 subst ex
 obtain rfl:u=Value.ref a:=rx
 refine Nj I1 ea c hm l ?_
 exact PySem.W.callWith_K0 (first:=[.ref a]) I1.Ho hm.kp (Qv (us:=[.ref a]) (vs:=[.ref a]) F hr hb hd hx I1 (.cons rfl .nil) q)
structure Mk (K:PySem.W.Frag) (C f:Addr):Prop where
 makes:PySem.W.makesIn K C=true
 init:PySem.W.findIn K (.ref C) "__init__" = some (some (.ref f))
 fn:PySem.W.isFn K (.ref f)=true
 kp:PySem.W.keepIn K (.ref C)=true
theorem Q9 {pins:List (Addr × Obj)} {σ:St} {H:Hp} {s:Shared} {Q:VK} {us:List Value} {vs:List V} (M:Mk X.K C f) (F:BJ X.prog X.w X.K X.mg X.base CX k f fd ps sp) (hr:Bc (k+1) X.A) (hb:Binds X.K fd ps ds) (hd:Vals dvs ds)
  (hx:Hx CX X E) (I:Inv X pins σ H s) (r:Vals vs us)
  (h:∀ x dx,H x=none->H dx=none->dx ≠ x->sp (.ref x::(vs++dvs)) (upd (upd H dx (.own x)) x (.ins C dx [])) (fun v H2=>v=.non/\Q (.ref x) H2) E) :
  wpAny (model X.prog X.w) X.A (call (.ref C) us) (EP X pins σ Q) X.xe s:=by
 have hq:=h (s.heap.objs.size+1) s.heap.objs.size (I.hok.fresh (Nat.le_succ _)) (I.hok.fresh (Nat.le_refl _)) (Nat.ne_of_lt (Nat.lt_succ_self _))
 have I2:=Inv.made (C:=C) I
 have r2:Vals (V.ref (s.heap.objs.size+1)::(vs++dvs)) (Value.ref (s.heap.objs.size+1)::(us++ds)):=.cons rfl (r.append hd)
 have hl:(Value.ref (s.heap.objs.size+1)::us++ds).length=ps.length:=by
  have e:=r2.length
  rw [F.len _ _ _ _ hq] at e
  exact e.symm
 refine wpAny_call (Rg (f:=f) I.Ho M.makes M.init (beq_iff_eq.mp M.fn) (codeAny_mono (F.run _ X.stack _ _ ⟨Value.ref (s.heap.objs.size+1)::us,[]⟩ (Value.ref (s.heap.objs.size+1)::(us++ds)) _ _ E (hr.make C us [])
  (I2.env0.make C us []) (hb _ (Value.ref (s.heap.objs.size+1)::us) I2.Ho hl) r2 hq) fun r s' hq'=>?_))
 cases r with
 | error e=>exact hx pins σ _ _ e s' I2 hq'
 | ok fl =>
  cases fl with
  | ret u =>
   obtain ⟨v,H',I3,rv,ev,q3⟩:=I2.after hq'
   subst ev
   exact ⟨rv,⟨V.ref (s.heap.objs.size+1),H',I3,rfl,q3⟩⟩
  | next=>exact False.elim hq'
  | brk=>exact False.elim hq'
  | cont=>exact False.elim hq'
theorem O1 (M:Mk X.K C f) (F:BJ X.prog X.w X.K X.mg X.base CX k f fd ps sp) (hr:Bc (k+1) X.A) (hg:Gl X x) (hm:X.mg x=some (.ref C)) (hb:Binds X.K fd ps ds) (hd:Vals dvs ds) (hx:Hx CX X E)
  (ha:PA X (e::es) t) (hdb:(x == ("__debug__" : Str))=false:=by decide) (he:starEach (e::es) X.env=(false,eval e X.env)::starEach es X.env:=by rfl) (hpl:(backTo pos (starEach es X.env)).any (·.1)=false:=by rfl) :
  PE X (.Call (.Name x p) (e::es) [] pos) (ZC C sp dvs E t):=by
 intro pins s σ H Q I h
 refine wpAny_Call_Name_kw (Km I hg hm ?_ hdb)
 refine PySem.W.callWith_K (h₀:=X.base) I.ok.mod.kin M.kp (CG (ha pos pins s σ H _ I h) fun us s1 ⟨vs,H1,I1,r,q⟩=>⟨I1.Ho,?_⟩) he hpl
 exact Q9 M F hr hb hd hx I1 r q
end
section
variable {X:Cx} {CX:P0} {k:Nat} {f C:Addr} {fd:FuncData} {ps ks:List Str} {sp:Sp} {E:XK} {x m:Str} {p pos apos kpos:Pos} {e o:Expr} {es:List Expr} {kws:List Keyword} {te ta:TE} {t tk:TA} {nm:Option Str}
variable {g:List Value->List Value->List Value} {gV:List V->List V->List V}
end
structure Az (N P:List Str) (sc:Scope):Prop where
 kind:sc.kind=.function
 co:sc.isCoroutine=false
 gen:sc.isGenerator=false
 nd:N.Nodup
 pre:N.take P.length=P
 par:∀ x∈P,sc.names.lookup x=some .local \/ sc.names.lookup x=some .cell
 nofree:∀ y∈sc.names,y.2 ≠ .free
theorem Bv {N P:List Str} {sc:Scope} (a:sc.kind=.function:=by rfl) (b:sc.isCoroutine=false:=by rfl) (c:sc.isGenerator=false:=by rfl) (d:N.Nodup:=by decide +kernel) (e:N.take P.length=P:=by rfl) (f:∀ x∈P,sc.names.lookup x=some .local \/ sc.names.lookup x=some .cell:=by decide +kernel) (g:∀ y∈sc.names,y.2 ≠ .free:=by decide +kernel):Az N P sc:=⟨a,b,c,d,e,f,g⟩
theorem J1 {kindOf:Str->Option NameKind} {x:Str}:∀ {binds:List (Str × Value)} {m:Str->Option Value},(∀ v,(x,v) ∉ binds)->bindL kindOf binds m x=m x
 | [],_,_=>rfl
 | (n,v)::r,m,h=>by
  unfold bindL
  rw [J1 fun w hw=>h w (List.mem_cons_of_mem _ hw)]
  split
  ·have:x ≠ n:=by rintro rfl; exact h v List.mem_cons_self
   simp [this]
  ·rfl
theorem KJ {kindOf:Str->Option NameKind} {x:Str}:∀ {binds:List (Str × Value)} {m:Str->Option Value},(∀ v,(x,v) ∉ binds)->bindC kindOf binds m x=m x
 | [],_,_=>rfl
 | (n,v)::r,m,h=>by
  unfold bindC
  rw [KJ fun w hw=>h w (List.mem_cons_of_mem _ hw)]
  split
  ·rfl
  ·have:x ≠ n:=by rintro rfl; exact h v List.mem_cons_self
   simp [this]
theorem Jt {kindOf:Str->Option NameKind} {x:Str} {v:Value}:∀ {P:List Str} {vs:List Value} {i:Nat} {m:Str->Option Value},P.Nodup->P[i]? = some x->vs[i]? = some v->kindOf x=some .local ->
  bindL kindOf (P.zip vs) m x=some v
 | [],_,_,_,_,h,_,_=>by simp at h
 | _::_,[],_,_,_,_,h,_=>by simp at h
 | p::P,w::vs,0,m,nd,h1,h2,hk=>by
  simp at h1 h2; subst h1; subst h2
  show bindL kindOf ((p,w)::P.zip vs) m p=_
  unfold bindL
  rw [J1 fun v hv=>(List.nodup_cons.mp nd).1 (List.of_mem_zip hv).1,if_pos hk]
  simp
 | p::P,w::vs,i+1,m,nd,h1,h2,hk=>by
  show bindL kindOf ((p,w)::P.zip vs) m x=_
  unfold bindL
  exact Jt (i:=i) (List.nodup_cons.mp nd).2 (by simpa using h1) (by simpa using h2) hk
theorem J7 {kindOf:Str->Option NameKind} {x:Str} {v:Value}:∀ {P:List Str} {vs:List Value} {i:Nat} {m:Str->Option Value},P.Nodup->P[i]? = some x->vs[i]? = some v->kindOf x ≠ some .local ->
  bindC kindOf (P.zip vs) m x=some v
 | [],_,_,_,_,h,_,_=>by simp at h
 | _::_,[],_,_,_,_,h,_=>by simp at h
 | p::P,w::vs,0,m,nd,h1,h2,hk=>by
  simp at h1 h2; subst h1; subst h2
  show bindC kindOf ((p,w)::P.zip vs) m p=_
  unfold bindC
  rw [KJ fun v hv=>(List.nodup_cons.mp nd).1 (List.of_mem_zip hv).1,if_neg hk]
  simp
 | p::P,w::vs,i+1,m,nd,h1,h2,hk=>by
  show bindC kindOf ((p,w)::P.zip vs) m x=_
  unfold bindC
  exact J7 (i:=i) (List.nodup_cons.mp nd).2 (by simpa using h1) (by simpa using h2) hk
noncomputable def start (N:List Str) (vs:List V):St:=vs.map some++List.replicate (N.length - vs.length) none
noncomputable def QH (CX:P0) (P:Program) (w:World) (K:PySem.W.Frag) (mg:Str->Option Value) (base:Heap) (N:List Str) (qual:Str) (scope:Scope) (f:Addr) (cd:Value) (A:Around) (outer:List Env) (s:Shared) (H:Hp) (E:XK):Cx where
 prog:=P
 w:=w
 K:=K
 mg:=mg
 base:=base
 A:=A.deeper (envOfC qual scope s.heap.objs.size f cd)
 N:=N
 s₀:=s
 H₀:=H
 env:=envOfC qual scope s.heap.objs.size f cd
 outer:=outer
 stack:=envOfC qual scope s.heap.objs.size f cd::outer
 ex:=[]
 calm:=true
 fn:=fun _=>true
 pn:=[]
 xe:=fun e s'=>wpAny (model P w) (A.deeper (envOfC qual scope s.heap.objs.size f cd)) (leaving (envOfC qual scope s.heap.objs.size f cd) e) (fun _ s''=>CX outer H s E e s'') (fun e' s''=>CX outer H s E e' s'') s'
theorem MN {sc:Scope} {n:Nat} {x:Str} (h:sc.names.lookup x=some .cell):∃ c,(cellsFrom n sc.names []).lookup x=some c:=by
 have q:=PySem.W.cellsFrom_some sc.names n [] (.inl h)
 exact Option.isSome_iff_exists.mp q
theorem Pu {CX:P0} {P:Program} {w:World} {K:PySem.W.Frag} {mg:Str->Option Value} {base:Heap} {N ps:List Str} {qual:Str} {scope:Scope} {f:Addr} {cd:Value} {A:Around} {outer:List Env} {s s1:Shared} {H:Hp} {E:XK} {us:List Value} {vs:List V}
  (S:Az N ps scope) (hd:A.handled=none) (e0:L_ P w K mg base A outer s H) (hl:vs.length=ps.length) (r:Vals vs us)
  (x:InCallC s s.heap.objs.size (bindL (envOfC qual scope s.heap.objs.size f cd).kindOf (ps.zip us) fun _=>none) (cellsFrom (s.heap.objs.size+1) scope.names []) (bindC (envOfC qual scope s.heap.objs.size f cd).kindOf (ps.zip us) fun _=>none) s1) :
  Inv (QH CX P w K mg base N qual scope f cd A outer s H E) [] (start N vs) H s1:=by
 have hpl:ps.length<=N.length:=by have:=congrArg List.length S.pre; rw [List.length_take] at this; omega
 obtain ⟨h1,tk,rfl,hk⟩:=x.done
 have noA:∀ b:Addr,b ∉ (QH CX P w K mg base N qual scope f cd A outer s H E).ex:=fun b z=>absurd (show b∈([]:List Addr) from z) (by simp)
 refine ⟨⟨e0.mod,S.kind,rfl,rfl,Nat.le_refl _,fun y z c h1 h2=>?_,fun y hy=>?_,fun y c _ h=>?_,fun _=>hd,Around.frames_deeper e0.frames,.inr ⟨rfl,rfl⟩,fun b z=>absurd z (noA b),e0.bs,e0.bsz,fun b _ _=>noA b,fun b z=>absurd z (noA b),e0.Il,e0.frf⟩,
  rfl,e0.bare,Un.kept hk,⟨_,x.toInCall.ns,fun i y v h1 h2 h3=>?_⟩,fun y c h=>⟨_,x.cell y c h⟩,e0.hok.fresh (Nat.le_refl _),fun y c h=>?_,fun p hp=>absurd (show p∈([]:List (Addr × Obj)) from hp) (by simp),e0.hok.kept hk,?_⟩
 ·exact name_of_addr x.apart (PySem.mem_of_lookup h1) (PySem.mem_of_lookup h2)
 ·have hy:scope.names.lookup y=some .cell \/ scope.names.lookup y=some .free:=hy
  rcases hy with hy | hy
  ·exact MN hy
  ·exact absurd rfl (S.nofree _ (PySem.mem_of_lookup hy))
 ·exact Nat.le_of_lt (x.above y c (PySem.mem_of_lookup h))
 ·have hi:i<vs.length:=by
   unfold start at h2
   by_cases hi:i<vs.length
   ·exact hi
   ·rw [List.getElem?_append_right (by simpa using hi)] at h2
    rw [List.getElem?_replicate] at h2
    split at h2 <;> cases h2
  have ha:vs[i]? = some v:=by
   unfold start at h2
   rw [List.getElem?_append_left (by simpa using hi),List.getElem?_map] at h2
   cases e:vs[i]? with
   | none=>rw [e] at h2; cases h2
   | some a=>rw [e] at h2; cases h2; rfl
  obtain ⟨u,hu,rv⟩:=r.get ha
  have hp:ps[i]? = some y:=by
   rw [← S.pre,List.getElem?_take_of_lt (by omega)]; exact h1
  have ndP:ps.Nodup:=by rw [← S.pre]; exact S.nd.sublist (List.take_sublist _ _)
  refine ⟨u,rv,?_⟩
  rcases S.par y (List.mem_of_getElem? hp) with k | k
  ·exact .inl ⟨k,Jt ndP hp hu k⟩
  ·obtain ⟨c,e⟩:=MN (n:=s.heap.objs.size+1) k
   refine .inr ⟨.inl k,c,e,?_⟩
   have q:=x.cell y c e
   rw [J7 ndP hp hu (by show scope.names.lookup y ≠ _; rw [k]; decide)] at q
   exact q
 ·exact e0.hok.fresh (Nat.le_of_lt (x.above y c (PySem.mem_of_lookup h)))
 ·unfold start
  show _=N.length
  rw [List.length_append,List.length_map,List.length_replicate]
  omega
theorem YQ {CX:P0} {P:Program} {w:World} {K:PySem.W.Frag} {mg:Str->Option Value} {base:Heap} {k:Nat} {f:Addr} {name qual:Str} {params:Arguments} {body:List Stmt} {scope:Scope} {dV kV doc pm cdv ct oc:Value} {an od:Option Addr}
  {osl:Array (Option Value)} {N ps:List Str} {sp:Sp} (lk:K.lookup f=some ⟨oc,od,.func (PySem.W.fnOf name qual params body scope dV kV doc pm an cdv ct),osl⟩) (hcd:PySem.W.codeIn K cdv qual=true) (S:Az N ps scope)
  (len:∀ vs H Q E,sp vs H Q E->vs.length=ps.length)
  (hbody:∀ (A:Around) (outer:List Env) (s:Shared) (H:Hp) (vs:List V) (Q:VK) (E:XK),Bc k (A.deeper (envOfC qual scope s.heap.objs.size f cdv))->sp vs H Q E ->
   ∃ t,P_ (QH CX P w K mg base N qual scope f cdv A outer s H E) body t/\t { nx:=fun _ H'=>Q .non H',rt:=Q } (start N vs) H) :
  BJ P w K mg base CX (k+1) f (PySem.W.fnOf name qual params body scope dV kV doc pm an cdv ct) ps sp:=by
 refine ⟨len,fun A outer s H args us vs Q E hr e0 hb r hsp=>?_⟩
 have hl:=len _ _ _ _ hsp
 have KX:K.In s.heap:=e0.mod.kin.keeps fun b o e=>(e0.bs b o e).1
 have lim:s.heap.NoLimit:=e0.mod.nolimit.keeps fun b o e=>(e0.bs b o e).1
 have hkind:∀ y∈ps.zip us,scope.names.lookup y.1=some .local \/ (scope.names.lookup y.1=some .cell/\((cellsFrom (s.heap.objs.size+1) scope.names []).lookup y.1).isSome=true):=fun ⟨n,v⟩ hy=>by
  rcases S.par n (List.of_mem_zip hy).1 with q | q
  ·exact .inl q
  ·exact .inr ⟨q,PySem.W.cellsFrom_some _ _ _ (.inl q)⟩
 refine codeAny_call_function hr.depth (KX _ _ lk) rfl S.co S.gen rfl (PySem.W.codeRec_of KX hcd) (hb _ _ _ _ ?_)
 refine wpAny_newFunctionEnv_cells S.kind hkind fun env he s1 x=>?_
 subst he
 refine ⟨lim.keeps x.toInCall.keep,codeAny_func ?_⟩
 obtain ⟨t,ht,hq⟩:=hbody A outer s H vs Q E (hr.deeper _) hsp
 have I:Inv (QH CX P w K mg base N qual scope f cdv A outer s H E) [] (start N vs) H s1:=Pu S hr.hd e0 hl r x
 refine wpAny_mono (ht [] s1 (start N vs) H _ I hq) (fun fl s' hs=>?_) fun e s' hs=>hs
 have fin:∀ {σ':St} {H':Hp} {v:V} {u:Value},Inv (QH CX P w K mg base N qual scope f cdv A outer s H E) [] σ' H' s'->RelV v u->Q v H'->CE outer P w H s Q u s' :=
  fun {σ' H' v u} J rv q=>⟨v,H',J.os,J.bare,J.base,J.hok,rv,q⟩
 cases fl with
 | ret u =>
  obtain ⟨v,σ',H',J,rv,q⟩:=hs
  exact fin J rv q
 | next =>
  obtain ⟨σ',H',J,q⟩:=hs
  exact fin (v:=V.non) (u:=Value.none) J rfl q
 | brk =>
  obtain ⟨_,_,_,q⟩:=hs
  exact False.elim q
 | cont =>
  obtain ⟨_,_,_,q⟩:=hs
  exact False.elim q
end L2
namespace L2
open PySem PySem.Spec PyProof.Rows
section
variable {X:Cx} {x:Str} {p pos:Pos} {e:Expr} {es:List Expr} {t:TA} {id T:String} {r:List V->Hp->VK->Prop}
noncomputable def gP (r:List V->Hp->VK->Prop) (t:TA):TE:=fun σ H Q=>t σ H fun vs H1=>r vs H1 Q
theorem Av (hc:EY X (.builtin id) r) (hg:Gl X x) (hm:X.mg x=none) (hv:bootBuiltins x=some (.builtin id)) (ha:PA X (e::es) t) (hn:x ≠ "__name__":=by decide) (hdb:(x == ("__debug__" : Str))=false:=by decide)
  (he:starEach (e::es) X.env=(false,eval e X.env)::starEach es X.env:=by rfl) (hpl:(backTo pos (starEach es X.env)).any (·.1)=false:=by rfl):PE X (.Call (.Name x p) (e::es) [] pos) (gP r t):=by
 intro pins s σ H Q I h
 refine wpAny_Call_Name_kw (G_ I hg hm hv ?_ hn hdb)
 exact PyProof.Rows.callWith_builtin1 (CG (ha pos pins s σ H _ I h) fun us s1 ⟨vs,H1,I1,r1,q1⟩=>hc pins s1 σ H1 vs us Q I1 r1 q1) he hpl
theorem Ce (hc:EY X (.type T) r) (hg:Gl X x) (hm:X.mg x=none) (hv:bootBuiltins x=some (.type T)) (ha:PA X (e::es) t) (hn:x ≠ "__name__":=by decide) (hdb:(x == ("__debug__" : Str))=false:=by decide)
  (he:starEach (e::es) X.env=(false,eval e X.env)::starEach es X.env:=by rfl) (hpl:(backTo pos (starEach es X.env)).any (·.1)=false:=by rfl):PE X (.Call (.Name x p) (e::es) [] pos) (gP r t):=by
 intro pins s σ H Q I h
 refine wpAny_Call_Name_kw (G_ I hg hm hv ?_ hn hdb)
 exact PyProof.Rows.callWith_type1 (CG (ha pos pins s σ H _ I h) fun us s1 ⟨vs,H1,I1,r1,q1⟩=>hc pins s1 σ H1 vs us Q I1 r1 q1) he hpl
end
end L2
namespace L2
open PySem PySem.Spec PyProof.Rows
section
variable {κ:Type} [DecidableEq κ]
noncomputable def CJ (kvs:List (κ × V)) (k:κ):Option V:=(kvs.find? fun kv=>decide (kv.1=k)).map (·.2)
noncomputable def putK (kvs:List (κ × V)) (k:κ) (v:V):List (κ × V) :=
 if (kvs.any fun kv=>decide (kv.1=k))=true then kvs.map (fun kv=>if kv.1=k then (kv.1,v) else kv) else kvs++[(k,v)]
noncomputable def fu (kvs:List (κ × V)) (k:κ):List (κ × V):=kvs.filter fun kv=>decide (kv.1 ≠ k)
theorem Sy {k:κ}:CJ ([]:List (κ × V)) k=none:=rfl
theorem C_ {p:κ × V} {r:List (κ × V)} {k:κ} (e:p.1=k):CJ (p::r) k=some p.2:=by simp [CJ,List.find?_cons,e]
theorem Cz {p:κ × V} {r:List (κ × V)} {k:κ} (e:¬ p.1=k):CJ (p::r) k=CJ r k:=by simp [CJ,List.find?_cons,e]
theorem GR (k:κ):∀ kvs:List (κ × V),(kvs.any fun kv=>decide (kv.1=k))=(CJ kvs k).isSome
 | []=>rfl
 | p::r=>by
  rw [List.any_cons]
  by_cases e:p.1=k
  ·simp only [C_ e,decide_eq_true e,Bool.true_or,Option.isSome_some]
  ·rw [Cz e,decide_eq_false e,Bool.false_or]; exact GR k r
theorem Lj (k j:κ) (y:V):∀ kvs:List (κ × V),CJ (kvs.map fun kv=>if kv.1=k then (kv.1,y) else kv) j=(CJ kvs j).map fun x=>if j=k then y else x
 | []=>rfl
 | p::r=>by
  have ih:=Lj k j y r
  rw [List.map_cons]
  by_cases h:p.1=k
  ·rw [if_pos h]
   by_cases e:p.1=j
   ·rw [C_ (p:=(p.1,y)) e,C_ e,Option.map_some,if_pos (e.symm.trans h)]
   ·rw [Cz (p:=(p.1,y)) e,Cz e,ih]
  ·rw [if_neg h]
   by_cases e:p.1=j
   ·rw [C_ (p:=p) e,C_ e,Option.map_some,if_neg (fun z=>h (e.trans z))]
   ·rw [Cz (p:=p) e,Cz e,ih]
theorem J5 (k j:κ) (y:V):∀ kvs:List (κ × V),CJ kvs k=none->CJ (kvs++[(k,y)]) j=if j=k then some y else CJ kvs j
 | [],_=>by
  by_cases e:k=j
  ·rw [if_pos e.symm]; exact C_ (p:=(k,y)) e
  ·rw [if_neg (fun z=>e z.symm)]; exact Cz (p:=(k,y)) e
 | p::r,hn=>by
  rw [List.cons_append]
  have hk:¬ p.1=k:=fun z=>by rw [C_ z] at hn; cases hn
  rw [Cz hk] at hn
  have ih:=J5 k j y r hn
  by_cases e:p.1=j
  ·rw [C_ e,C_ e,if_neg (fun z=>hk (e.trans z))]
  ·rw [Cz e,Cz e,ih]
theorem BV (kvs:List (κ × V)) (k j:κ) (y:V):CJ (putK kvs k y) j=if j=k then some y else CJ kvs j:=by
 unfold putK
 by_cases a:(kvs.any fun kv=>decide (kv.1=k))=true
 ·rw [if_pos a,Lj]
  rw [GR] at a
  by_cases e:j=k
  ·obtain ⟨x,hx⟩:=Option.isSome_iff_exists.mp a
   rw [if_pos e,e,hx,Option.map_some,if_pos rfl]
  ·rw [if_neg e]
   cases CJ kvs j with
   | none=>rfl
   | some x=>rw [Option.map_some,if_neg e]
 ·rw [if_neg a]
  refine J5 k j y kvs ?_
  rw [GR] at a
  cases q:CJ kvs k with
  | none=>rfl
  | some x=>rw [q] at a; exact (a rfl).elim
theorem Bt (kvs:List (κ × V)) (k:κ) (v:V):(putK kvs k v).length<=kvs.length+1:=by
 unfold putK
 split
 ·rw [List.length_map]; omega
 ·rw [List.length_append,List.length_cons,List.length_nil]; omega
theorem GK.QS {o:Option V} {u:Option Value} (r:GK o u):o.isSome=u.isSome:=by
 cases o with
 | none=>cases u with
  | none=>rfl
  | some _=>exact (show False from r).elim
 | some _=>cases u with
  | none=>exact (show False from r).elim
  | some _=>rfl
theorem KV.val {kvs:List (κ × V)} {vs:List (κ × Value)} (r:KV kvs vs) (k:κ):GK (CJ kvs k) (valueAt vs k):=by
 unfold KV at r
 induction r with
 | nil=>exact True.intro
 | @cons p q ps qs h t ih =>
  obtain ⟨h1,h2⟩:=h
  by_cases e:p.1=k
  ·have e':q.1=k:=h1.symm.trans e
   have b:valueAt (q::qs) k=some q.2:=by simp [valueAt,List.find?_cons,e']
   rw [C_ e,b]; exact h2
  ·have e':¬ q.1=k:=fun z=>e (h1.trans z)
   have b:valueAt (q::qs) k=valueAt qs k:=by simp [valueAt,List.find?_cons,e']
   rw [Cz e,b]; exact ih
theorem KV.any {kvs:List (κ × V)} {vs:List (κ × Value)} (r:KV kvs vs) (k:κ):(kvs.any fun kv=>decide (kv.1=k))=vs.any fun kv=>decide (kv.1=k):=by
 unfold KV at r
 induction r with
 | nil=>rfl
 | cons h t ih=>rw [List.any_cons,List.any_cons,ih,h.1]
theorem KV.repl {kvs:List (κ × V)} {vs:List (κ × Value)} (r:KV kvs vs) (k:κ) {y:V} {u:Value} (ry:RelV y u) :
  KV (kvs.map fun kv=>if kv.1=k then (kv.1,y) else kv) (vs.map fun kv=>if kv.1=k then (kv.1,u) else kv):=by
 unfold KV at r ⊢
 induction r with
 | nil=>exact .nil
 | @cons p q ps qs h t ih =>
  rw [List.map_cons,List.map_cons]
  refine .cons ?_ ih
  obtain ⟨h1,h2⟩:=h
  by_cases e:p.1=k
  ·rw [if_pos e,if_pos (h1.symm.trans e)]; exact ⟨h1,ry⟩
  ·rw [if_neg e,if_neg (fun z=>e (h1.trans z))]; exact ⟨h1,h2⟩
theorem KV.put {kvs:List (κ × V)} {vs:List (κ × Value)} (r:KV kvs vs) (k:κ) {y:V} {u:Value} (ry:RelV y u):KV (putK kvs k y) (stored vs k u):=by
 unfold putK stored
 rw [r.any k]
 by_cases e:(vs.any fun kv=>decide (kv.1=k))=true
 ·rw [if_pos e,if_pos e]; exact r.repl k ry
 ·rw [if_neg e,if_neg e]; exact Paired.snoc r ⟨rfl,ry⟩
theorem KV.length {kvs:List (κ × V)} {vs:List (κ × Value)} (r:KV kvs vs):kvs.length=vs.length:=Paired.length r
end
theorem Ou {P:Program} {w:World} {k:Key} {u:Value} (r:RelV (kV k) u):(Ca P w).is k u=true:=by
 cases k with
 | inl i=>obtain ⟨t,e⟩:=(show ∃ t,u=Value.int i t from r); subst e; exact LC P w i t
 | inr x=>obtain ⟨t,e⟩:=(show ∃ t,u=Value.str x t from r); subst e; exact Lr P w x t
theorem J8 {P:Program} {w:World}:∀ {ks:List Key} {us:List Value},Vals (ks.map kV) us->ItemsAre (Ca P w) ks us
 | [],_,r=>by rw [List.map_nil] at r; cases r; exact .nil
 | k::ks,_,r=>by
  rw [List.map_cons] at r
  cases r with
  | cons h t=>exact .cons (Ou h) (J8 t)
noncomputable abbrev KT (H:Hp):List (List Key × V)->List (List Key × Addr × Value)->Prop:=Paired fun p q=>p.1=q.1/\H q.2.1=some (.tup (p.1.map kV))/\RelV p.2 q.2.2
theorem KT.val {H:Hp} {kvs:List (List Key × V)} {xs:List (List Key × Addr × Value)} (r:KT H kvs xs) (k:List Key):GK (CJ kvs k) ((atKey xs k).map (·.2)):=by
 induction r with
 | nil=>exact True.intro
 | @cons p q ps qs h t ih =>
  obtain ⟨h1,_,h2⟩:=h
  by_cases e:p.1=k
  ·have e':q.1=k:=h1.symm.trans e
   have b:atKey (q::qs) k=some q.2:=by simp [atKey,List.find?_cons,e']
   rw [C_ e,b]; exact h2
  ·have e':¬ q.1=k:=fun z=>e (h1.trans z)
   have b:atKey (q::qs) k=atKey qs k:=by simp [atKey,List.find?_cons,e']
   rw [Cz e,b]; exact ih
theorem KT.repl {H:Hp} {kvs:List (List Key × V)} {xs:List (List Key × Addr × Value)} (r:KT H kvs xs) (k:List Key) {y:V} {u:Value} (ry:RelV y u) :
  KT H (kvs.map fun kv=>if kv.1=k then (kv.1,y) else kv) (xs.map (putAt k u)):=by
 induction r with
 | nil=>exact .nil
 | @cons p q ps qs h t ih =>
  rw [List.map_cons,List.map_cons]
  refine .cons ?_ ih
  obtain ⟨h1,h2,h3⟩:=h
  unfold putAt
  by_cases e:p.1=k
  ·rw [if_pos e,if_pos (h1.symm.trans e)]; exact ⟨h1,h2,ry⟩
  ·rw [if_neg e,if_neg (fun z=>e (h1.trans z))]; exact ⟨h1,h2,h3⟩
theorem KT.put {H:Hp} {kvs:List (List Key × V)} {xs:List (List Key × Addr × Value)} (r:KT H kvs xs) (k:List Key) {b:Addr} {y:V} {u:Value} (hb:H b=some (.tup (k.map kV))) (ry:RelV y u) :
  KT H (putK kvs k y) (storedH xs k b u):=by
 have e:(kvs.any fun kv=>decide (kv.1=k))=(atKey xs k).isSome:=by
  rw [GR,(r.val k).QS,Option.isSome_map]
 unfold putK storedH
 rw [e]
 by_cases q:(atKey xs k).isSome=true
 ·rw [if_pos q,if_pos q]; exact r.repl k ry
 ·rw [if_neg q,if_neg q]; exact Paired.snoc r ⟨rfl,hb,ry⟩
theorem KT.keeps {H H':Hp} {kvs:List (List Key × V)} {xs:List (List Key × Addr × Value)} (r:KT H kvs xs) (ht:∀ b ys,H b=some (.tup ys)->H' b=some (.tup ys)):KT H' kvs xs :=
 Paired.Ex r fun _ _ z=>⟨z.1,ht _ _ z.2.1,z.2.2⟩
section
variable {P:Program} {w:World} {H:Hp} {h:Heap} {a:Addr}
theorem VB {u:HO} (ok:HJ P w H h) (e:Rd H a u):By P w H h a u:=e.ok ok
theorem Rz {kvs:List (Key × V)} (ok:HJ P w H h) (e:Rd H a (.dK kvs)):kvs.length<=sizeLine/\(a == sysModules)=false/\∃ vs,KV kvs vs/\h.DictOf (Ca P w) a vs :=
 show By P w H h a (.dK kvs) from VB ok e
theorem Vf {kvs:List (Key × V)} (ok:HJ P w H h) (e:H a=some (.dK kvs)):kvs.length<=sizeLine/\(a == sysModules)=false/\∃ vs,KV kvs vs/\h.DictOf (Ca P w) a vs:=Rz ok (.inl e)
theorem M6 {ks:List Key} (ok:HJ P w H h) (e:H a=some (.tup (ks.map kV))):(tupleKind (Ca P w)).is h ks a:=by
 obtain ⟨_,its,r,o,h1,h2,n,h3⟩:=(show By P w H h a (.tup (ks.map kV)) from ok a _ e)
 exact ⟨o,its.toArray,n,h1,h2,h3,by simpa using J8 r⟩
theorem Ru {kvs:List (List Key × V)} (ok:HJ P w H h) (e:Rd H a (.dT kvs)):kvs.length<=sizeLine/\(a == sysModules)=false /\
  ∃ xs,KT H kvs xs/\h.DictOfH (tupleKind (Ca P w)) a xs:=by
 refine byC fun w_=>?_;obtain ⟨z,y,xs,r,o,es,ep,h1,h2,h3,h4,h5⟩:=(show By P w H h a (.dT kvs) from VB ok e);refine w_ ?_
 refine ⟨z,y,xs,r,o,es,ep,h1,h2,h3,h4,fun x hx=>?_,h5⟩
 have all:∀ {l:List (List Key × V)} {m:List (List Key × Addr × Value)},KT H l m->∀ x∈m,(tupleKind (Ca P w)).is h x.1 x.2.1:=by
  intro l m q
  induction q with
  | nil=>intro x hx; exact nomatch hx
  | @cons p q ps qs hq t ih =>
   intro x hx
   rcases List.mem_cons.mp hx with e | hx
   ·subst e
    exact M6 ok (by rw [← hq.1]; exact hq.2.1)
   ·exact ih x hx
 exact all r x hx
theorem Xi {kvs:List (List Key × V)} (ok:HJ P w H h) (e:H a=some (.dT kvs)):kvs.length<=sizeLine/\(a == sysModules)=false /\
  ∃ xs,KT H kvs xs/\h.DictOfH (tupleKind (Ca P w)) a xs:=Ru ok (.inl e)
end
noncomputable def B_ (H:Hp) (a:Addr) (y:V) (r:Option V):Prop :=
 (∃ kvs k,Rd H a (.dK kvs)/\y=kV k/\r=CJ kvs k) \/ ∃ kvs k b,Rd H a (.dT kvs)/\y=.ref b/\H b=some (.tup (k.map kV))/\r=CJ kvs k
noncomputable def M8 (H:Hp) (a:Addr) (y v:V) (H':Hp):Prop :=
 (∃ kvs k,H a=some (.dK kvs)/\y=kV k/\kvs.length<sizeLine/\H'=upd H a (.dK (putK kvs k v))) \/
 ∃ kvs k b,H a=some (.dT kvs)/\y=.ref b/\H b=some (.tup (k.map kV))/\kvs.length<sizeLine/\H'=upd H a (.dT (putK kvs k v))
theorem B_.k {H:Hp} {a:Addr} {kvs:List (Key × V)} {k:Key} (e:H a=some (.dK kvs)):B_ H a (kV k) (CJ kvs k):=.inl ⟨kvs,k,.inl e,rfl,rfl⟩
theorem M8.k {H:Hp} {a:Addr} {kvs:List (Key × V)} {k:Key} {v:V} (e:H a=some (.dK kvs)) (hl:kvs.length<sizeLine):M8 H a (kV k) v (upd H a (.dK (putK kvs k v))):=.inl ⟨kvs,k,e,rfl,hl,rfl⟩
section
variable {X:Cx} {pins:List (Addr × Obj)} {σ:St} {H:Hp} {s:Shared} {a:Addr} {y v:V} {u r:Value} {o:Option V} {A:Around} {E:Value->Shared->Prop}
theorem Inv.big (I:Inv X pins σ H s):sysModules<s.heap.objs.size:=by
 have h:mainGlobals<s.heap.objs.size:=(I.mod.glob.keeps I.bk).lt
 exact Nat.lt_trans (by decide) h
theorem Py {Q:Value->Shared->Prop} (hu:A.units+1<cLine) (I:Inv X pins σ H s) (g:B_ H a y (some v)) (ry:RelV y u) (h:∀ w' s',Inv X pins σ H s'->RelV v w'->Q w' s') :
  wpAny (model X.prog X.w) A (getItem (.ref a) u) Q E s:=by
 rcases g with ⟨kvs,k,e,ey,l⟩ | ⟨kvs,k,b,e,ey,eb,l⟩
 ·subst ey
  obtain ⟨z,hd,vs,rel,dd⟩:=Rz I.hok e
  obtain ⟨w',hw,rw'⟩:=GK.some_of (v:=v) (o:=valueAt vs k) (by rw [l]; exact rel.val k)
  exact wpAny_getItem_of (Ou ry) dd.mapOf hw (h w' _ (I.tok _) rw')
 ·subst ey
  cases (show u=Value.ref b from ry)
  obtain ⟨z,hd,xs,rel,dd⟩:=Ru I.hok e
  obtain ⟨w',hw,rw'⟩:=GK.some_of (v:=v) (o:=(atKey xs k).map (·.2)) (by rw [l]; exact rel.val k)
  obtain ⟨p,hp,hp2⟩:=Option.map_eq_some_iff.mp hw
  refine wpAny_getItem_heap (tupleKind_room_in1 hu) (M6 I.hok eb) dd hp ?_
  rw [hp2]
  exact h w' _ (I.tok _) rw'
theorem Kh {h':Heap} {t':Nat} {ob:HO} (I:Inv X pins σ H s) (mu:Yk (H a)) (hs:Heap.SameBut a s.heap h') (he:∃ q,h'.get? a=some q) (new:By X.prog X.w (upd H a ob) h' a ob) :
  Inv X pins σ (upd H a ob) { s with heap:=h',toks:=t' } :=
 I.write (x:=a) (e:=a) mu (.inl rfl) (fun b q hb z=>(hs.2 b hb).trans z) he new
theorem Sh {P:Program} {w:World} {H':Hp} {h':Heap} {kvs:List (Key × V)} {vs:List (Key × Value)} (z:kvs.length<=sizeLine) (hd:(a == sysModules)=false) (rel:KV kvs vs) (dd:h'.DictOf (Ca P w) a vs) :
  By P w H' h' a (.dK kvs):=⟨z,hd,vs,rel,dd⟩
theorem Ph {H':Hp} {Q:Unit->Shared->Prop} (hu:A.units+1<cLine) (I:Inv X pins σ H s) (g:M8 H a y v H') (ry:RelV y u) (rv:RelV v r) (h:∀ s',Inv X pins σ H' s'->Q () s') :
  wpAny (model X.prog X.w) A (setItem (.ref a) u r) Q E s:=by
 rcases g with ⟨kvs,k,e,ey,l,eH⟩ | ⟨kvs,k,b,e,ey,eb,l,eH⟩
 ·subst ey eH
  obtain ⟨z,hd,vs,rel,dd⟩:=Vf I.hok e
  have hz:vs.length<=sizeLine:=by rw [← rel.length]; exact z
  have hl:(putK kvs k v).length<=sizeLine:=by have:=Bt kvs k v; omega
  refine wpAny_setItem_pairs (hsz:=hz) (Ou ry) dd fun h' dd' hs=>h _ ?_
  have he:∃ q,h'.get? a=some q:=let ⟨q,_,_,hq,_⟩:=dd'; ⟨q,hq⟩
  exact Kh I (by rw [e]; exact True.intro) hs he (Sh hl hd (rel.put k rv) dd')
 ·subst ey eH
  cases (show u=Value.ref b from ry)
  obtain ⟨z,hd,xs,rel,dd⟩:=Xi I.hok e
  have hz:xs.length<=sizeLine:=by rw [← Paired.length rel]; exact z
  have hl:(putK kvs k v).length<=sizeLine:=by have:=Bt kvs k v; omega
  refine wpAny_setItem_heap (hsz:=hz) (tupleKind_room_in1 hu) (M6 I.hok eb) dd fun h' dd' hs=>h _ ?_
  obtain ⟨q,es,ep,hq,h2,h3,h4,_,h5⟩:=dd'
  refine Kh I (by rw [e]; exact True.intro) hs ⟨q,hq⟩ ⟨hl,hd,_,(rel.put k eb rv).keeps fun c ys ec=>?_,q,es,ep,hq,h2,h3,h4,h5⟩
  rw [An (Lb ec e (fun z=>nomatch z))]
  exact ec
end
section
variable {X:Cx} {pins:List (Addr × Obj)} {σ:St} {H:Hp} {s:Shared} {a:Addr} {kvs:List (Key × V)} {k:Key} {u:Value} {A:Around} {E:Value->Shared->Prop}
end
noncomputable def Wb (i:Expr):Prop:=∀ ov iv,subscripted i false ov iv=operate [ov,iv] (getItem ov iv)
theorem O9 {prog:Program} {w:World} {A:Around} {E:Value->Shared->Prop} {s:Shared} {env:Env} {value slice:Expr} {pos:Pos} {T id:String} {Q:Value->Shared->Prop}
  (hl:typeLookup (.type T) "__getitem__" = pure (some (.builtin id))) (hs:Wb slice)
  (h:wpAny (model prog w) A (eval value env) (fun o s₁=>wpAny (model prog w) A (eval slice env) (fun i s₂=>s₂.TypeIs o T/\wpAny (model prog w) A (getItem o i) Q E s₂) E s₁) E s) :
  wpAny (model prog w) A (eval (.Subscript value slice pos) env) Q E s:=by
 refine Subscript_ (wpAny_mono h (fun o s₁ h₁=>wpAny_mono h₁ (fun i s₂ h₂=>?_) fun _ _ x=>x) fun _ _ x=>x)
 obtain ⟨hT,h₂⟩:=h₂
 unfold subscriptTail
 refine wpAny_bind ?_
 rw [getitemInPython_of_ne hT.not_modules]
 refine wpAny_bind (wpAny_specialOf hT hl ?_)
 have fin:wpAny (model prog w) A (subscripted slice false o i) (fun r s₃=>wpAny (model prog w) A (letTemporaryGo value o r >>= fun _=>pure r) Q E s₃) E s₂:=by
  rw [hs o i]
  exact wpAny_operating (wpAny_mono h₂ (fun r s₃ h₃=>wpAny_bind (wpAny_letTemporaryGo (wpAny_pure h₃))) fun _ _ x=>x)
 first
  | exact wpAny_pure (wpAny_bind fin)
  | exact wpAny_bind (wpAny_pure (wpAny_bind fin))
  | exact wpAny_bind fin
theorem Lp {X:Cx} {pins:List (Addr × Obj)} {σ:St} {H:Hp} {s:Shared} {a:Addr} {y:V} {o:Option V} (I:Inv X pins σ H s) (g:B_ H a y o):s.TypeIs (.ref a) "dict":=by
 rcases g with ⟨kvs,k,e,_,_⟩ | ⟨kvs,k,b,e,_,_,_⟩
 ·obtain ⟨_,_,vs,_,dd⟩:=Rz I.hok e
  exact dd.typeIs
 ·obtain ⟨_,_,xs,_,dd⟩:=Ru I.hok e
  exact dd.typeIs
noncomputable def XH (td ty:TE):TE:=fun σ H Q=>td σ H fun x H1=>ty σ H1 fun y H2=>∃ a v,x=.ref a/\B_ H2 a y (some v)/\Q v H2
noncomputable def Yh (td ty tv:TE):TS:=fun D σ H=>tv σ H fun v H1=>td σ H1 fun x H2=>ty σ H2 fun y H3=>∃ a H4,x=.ref a/\M8 H3 a y v H4/\D.nx σ H4
section
variable {X:Cx} {o i e value:Expr} {pos pos' tpos:Pos} {td ty tv:TE}
theorem Ba (hu:X.A.units+1<cLine) (ho:PE X o td) (hi:PE X i ty) (hs:Wb i):PE X (.Subscript o i pos) (XH td ty):=by
 intro pins s σ H Q I h
 refine O9 PySem.F.slot_dict_getitem.lookup hs (CG (ho pins s σ H _ I h) fun u s1 ⟨x,H1,I1,rx,q1⟩=>CG (hi pins s1 σ H1 _ I1 q1) fun iv s2 hq0=>?_)
 obtain ⟨y,H2,I2,ry,a,v,ex,g,q2⟩:=hq0
 subst ex
 obtain rfl:u=Value.ref a:=rx
 exact ⟨Lp I2 g,Py hu I2 g ry fun w' s3 I3 rw'=>⟨v,H2,I3,rw',q2⟩⟩
theorem K3 (hu:X.A.units+1<cLine) (ho:PE X o td) (hi:PE X i ty) (hv:PE X value tv) (hs:swapsWith value (some (.Subscript o i pos')) pos.line X.env=pure false) :
  PS X (.Assign [.Subscript o i pos'] value pos) (Yh td ty tv):=by
 intro pins s σ H D I h
 refine wpAny_Assign_Subscript (CG (hv pins s σ H _ I h) fun r s1 ⟨v,H1,I1,rv,q1⟩=>CG (ho pins s1 σ H1 _ I1 q1) fun u s2 ⟨x,H2,I2,rx,q2⟩=>CG (hi pins s2 σ H2 _ I2 q2) fun iv s3 ⟨y,H3,I3,ry,a,H4,ex,g,q3⟩=>?_) hs
 subst ex
 obtain rfl:u=Value.ref a:=rx
 exact Ph hu I3 g ry rv fun s4 I4=>⟨σ,H4,I4,q3⟩
end
theorem Mp {P:Program} {w:World} {H:Hp} (h:Heap) (hb:sysModules<h.objs.size):By P w H (h.push { cls:=.type "dict",data:=.dict #[] }) h.objs.size (.dK []) :=
 ⟨Nat.zero_le _,beq_eq_false_iff_ne.mpr (Ne.symm (Nat.ne_of_lt hb)),[],.nil,Heap.DictOf.new h⟩
noncomputable def Wq:TE:=fun _ H Q=>∀ p,H p=none->Q (.ref p) (upd H p (.dK []))
section
variable {X:Cx} {pos:Pos}
theorem RV:PE X (.Dict [] [] pos) Wq:=fun pins s σ H Q I h =>
 wpAny_Dict_empty ⟨.ref s.heap.objs.size,_,I.laid (a:=s.heap.objs.size) (o:=.dK []) (t':=s.toks) (fun _ _ q=>Heap.get?_push_of_some _ q) (Nat.le_refl _) (Mp s.heap I.big),rfl,h _ (I.hok.fresh (Nat.le_refl _))⟩
end
noncomputable def Nh:List (TE × TE)->St->Hp->(List (V × V)->Hp->Prop)->Prop
 | [],_,H,Q=>Q [] H
 | (tk,tv)::r,σ,H,Q=>tk σ H fun x H1=>tv σ H1 fun y H2=>Nh r σ H2 fun ps H3=>Q ((x,y)::ps) H3
noncomputable abbrev VV:List (V × V)->List (Value × Value)->Prop:=Paired fun p q=>RelV p.1 q.1/\RelV p.2 q.2
noncomputable def aL (X:Cx) (pos:Pos) (keys:List (Option Expr)) (values:List Expr) (trs:List (TE × TE)):Prop :=
 ∀ (pins:List (Addr × Obj)) (s:Shared) (σ:St) (H:Hp) (Q:List (V × V)->Hp->Prop),Inv X pins σ H s->Nh trs σ H Q ->
  wpAny (model X.prog X.w) X.A (evalPairs (pairTrees keys values X.env pos)) (fun vs s'=>∃ ps H',Inv X pins σ H' s'/\VV ps vs/\Q ps H') X.xe s
theorem U0 {X:Cx} {pos:Pos}:aL X pos [] [] []:=fun pins s σ H Q I h=>pairTrees_nil_walk ⟨[],H,I,.nil,h⟩
theorem Ef {X:Cx} {pos:Pos} {k v:Expr} {ks:List (Option Expr)} {vs:List Expr} {tk tv:TE} {trs:List (TE × TE)} (hk:PE X k tk) (hv:PE X v tv) (hr:aL X pos ks vs trs) :
  aL X pos (some k::ks) (v::vs) ((tk,tv)::trs):=fun pins s σ H Q I h =>
 pairTrees_cons_walk (CG (hk pins s σ H _ I h) fun u s1 ⟨x,H1,I1,rx,q1⟩=>CG (hv pins s1 σ H1 _ I1 q1) fun w2 s2 ⟨y,H2,I2,ry,q2⟩ =>
  CG (hr pins s2 σ H2 _ I2 q2) fun ws s3 ⟨ps,H3,I3,rel,q3⟩=>⟨(x,y)::ps,H3,I3,.cons ⟨rx,ry⟩ rel,q3⟩)
noncomputable def Cu (kvs more:List (Key × V)):List (Key × V):=more.foldl (fun acc kv=>putK acc kv.1 kv.2) kvs
theorem KV.merge:∀ {more:List (Key × V)} {rs:List (Key × Value)} {kvs:List (Key × V)} {vs:List (Key × Value)},KV more rs->KV kvs vs->KV (Cu kvs more) (merged vs rs):=by
 intro more rs kvs vs r
 unfold KV at r
 induction r generalizing kvs vs with
 | nil=>intro q; exact q
 | @cons p q ps qs h t ih =>
  intro r0
  have e:KV (putK kvs p.1 p.2) (stored vs q.1 q.2):=by
   have:=r0.put p.1 h.2
   rw [← h.1]; exact this
  exact ih e
theorem Gw:∀ (more kvs:List (Key × V)),(Cu kvs more).length<=kvs.length+more.length
 | [],kvs=>by show kvs.length<=kvs.length+0; omega
 | p::r,kvs=>by
  have h1:=Gw r (putK kvs p.1 p.2)
  have h2:=Bt kvs p.1 p.2
  show (Cu (putK kvs p.1 p.2) r).length<=_
  rw [List.length_cons]; omega
theorem JN {P:Program} {w:World}:∀ {kvs:List (Key × V)} {ws:List (Value × Value)},VV (kvs.map fun kv=>(kV kv.1,kv.2)) ws->∃ rs,Carries (Ca P w) ws rs/\KV kvs rs
 | [],_,r=>by rw [List.map_nil] at r; cases r; exact ⟨[],True.intro,.nil⟩
 | p::kvs,_,r=>by
  rw [List.map_cons] at r
  cases r with
  | @cons a b as bs h t =>
   obtain ⟨rs,c,q⟩:=JN (P:=P) (w:=w) t
   obtain ⟨b1,b2⟩:=b
   exact ⟨(p.1,b2)::rs,⟨Ou h.1,rfl,c⟩,.cons ⟨rfl,h.2⟩ q⟩
noncomputable def YM (trs:List (TE × TE)):TE:=fun σ H Q=>∀ p,H p=none->Nh trs σ (upd H p (.dK [])) fun ps H2=>H2 p=some (.dK [])/\∃ kvs:List (Key × V),ps=kvs.map (fun kv=>(kV kv.1,kv.2))/\kvs.length<=15/\Q (.ref p) (upd H2 p (.dK (Cu [] kvs)))
theorem Ug {X:Cx} {pos:Pos} {keys:List (Option Expr)} {values:List Expr} {trs:List (TE × TE)} (h:aL X pos keys values trs) (hall:keys.all (·.isSome)=true) (hl:keys.length=values.length) (h0:keys ≠ [])
  (h15:keys.length<=15):PE X (.Dict keys values pos) (YM trs):=by
 intro pins s σ H Q I q
 have hn:=I.hok.fresh (Nat.le_refl s.heap.objs.size)
 have I1:=I.laid (a:=s.heap.objs.size) (o:=.dK []) (h':=s.heap.push { cls:=.type "dict",data:=.dict #[] }) (t':=s.toks) (fun _ _ q=>Heap.get?_push_of_some _ q) (Nat.le_refl _) (Mp s.heap I.big)
 refine wpAny_Dict_walk (knd:=Ca X.prog X.w) hall hl h0 h15 (CG (h pins _ σ _ _ I1 (q _ hn)) fun ws s2 hq0=>?_)
 obtain ⟨ps,H2,I2,rel,e,kvs,ep,lk,q2⟩:=hq0
 subst ep
 obtain ⟨rs,c,rk⟩:=JN (P:=X.prog) (w:=X.w) rel
 obtain ⟨z,hd,vs0,r0,dd⟩:=Vf I2.hok e
 cases r0
 refine ⟨rs,c,dd,fun h' dd' hs=>⟨.ref s.heap.objs.size,_,?_,rfl,q2⟩⟩
 have hz:(Cu [] kvs).length<=sizeLine:=by
  have h1:=Gw kvs []
  rw [List.length_nil] at h1
  rw [sizeLine_eq]; omega
 have he:∃ q,h'.get? s.heap.objs.size=some q:=let ⟨q,_,_,hq,_⟩:=dd'; ⟨q,hq⟩
 exact Kh I2 (by rw [e]; exact True.intro) hs he (Sh hz hd (rk.merge .nil) dd')
section
variable {X:Cx} {pins:List (Addr × Obj)} {σ:St} {H:Hp} {s:Shared} {a:Addr} {y d:V} {u r:Value} {o:Option V} {A:Around} {E:Value->Shared->Prop}
end
section
variable {X:Cx} {o e f:Expr} {apos cpos:Pos} {td ty tx:TE}
end
section
variable {X:Cx} {pins:List (Addr × Obj)} {σ:St} {H:Hp} {s:Shared} {a:Addr} {kvs:List (Key × V)} {A:Around} {E:Value->Shared->Prop}
end
section
variable {X:Cx} {pins:List (Addr × Obj)} {σ:St} {H:Hp} {s:Shared} {a:Addr} {y:V} {u:Value} {A:Around} {E:Value->Shared->Prop}
end
end L2
namespace HT
open PySem PyProof.Rows
section
open PySem.SeqAt
open PySem.AutoSeq1 (wpAny_loadPart')
open PySem.MeetsSeq PySem.MeetsSeq2 PySem.MeetsSeq3
end
section
variable {prog:Program} {w:World} {A:Around} {E:Value->Shared->Prop} {s:Shared}
noncomputable def DY (n d:Nat):Option Int->Nat
 | none=>d
 | some v=>if v<0 then (v+(n:Int)).toNat else min v.toNat n
theorem JR (n d:Nat):DY n d none=d:=rfl
theorem Es (n d k:Nat):DY n d (some (k:Int))=min k n:=by
 show (if (k:Int)<0 then ((k:Int)+(n:Int)).toNat else min (k:Int).toNat n)=min k n
 rw [if_neg (by omega),Int.toNat_natCast]
theorem WM (n d:Nat) (hd:d<=n) (o:Option Int):DY n d o<=n:=by
 cases o with
 | none=>exact hd
 | some v =>
  show (if v<0 then (v+(n:Int)).toNat else min v.toNat n)<=n
  by_cases hv:v<0
  ·rw [if_pos hv]; omega
  ·rw [if_neg hv]; exact Nat.min_le_right _ _
theorem Oo (v:Int) (n d:Nat):(if v<0 then max (v+(n:Int)) 0 else min v (n:Int))=((DY n d (some v):Nat):Int):=by
 show (if v<0 then max (v+(n:Int)) 0 else min v (n:Int))=(((if v<0 then (v+(n:Int)).toNat else min v.toNat n):Nat):Int)
 by_cases hv:v<0
 ·simp only [if_pos hv]; omega
 ·simp only [if_neg hv]; omega
theorem Oc (lo hi:Option Int) (n:Nat):Builtin.Slice.sliceAdjust lo hi 1 (n:Int)=(((DY n 0 lo:Nat):Int),((DY n n hi:Nat):Int)):=by
 have h1:¬ ((1:Int)<0):=by omega
 unfold Builtin.Slice.sliceAdjust
 simp only [h1,if_false]
 refine Prod.ext ?_ ?_
 ·cases lo with
  | none=>rfl
  | some v=>exact Oo v n 0
 ·cases hi with
  | none=>rfl
  | some v=>exact Oo v n n
theorem N6 (i j:Nat):Builtin.Slice.slicePlaces (i:Int) (j:Int) 1=j - i:=by
 unfold Builtin.Slice.slicePlaces
 have h1:(1:Int) > 0:=by omega
 simp only [h1,if_true,Int.ediv_one]
 split <;> omega
theorem Je {v:Value} {o:Option Int} {Q:Option Int->Shared->Prop} (p:IsPart v o) (h:Q o s):wpAny (model prog w) A (Builtin.Slice.slicePartIndex v) Q E s:=by
 cases p with
 | none=>exact slicePart_none h
 | int i t=>exact slicePart_int h
theorem Hu {sl:Addr} {vl vu:Value} {lo hi:Option Int} {n:Nat} {Q:Int × Int × Nat->Shared->Prop} (hs:s.heap.IsSliceOf sl vl vu .none) (pl:IsPart vl lo) (pu:IsPart vu hi)
  (h:Q (((DY n 0 lo:Nat):Int),1,DY n n hi - DY n 0 lo) s):wpAny (model prog w) A (Builtin.Slice.sliceApplied (.ref sl) (pure (n:Int))) Q E s:=by
 obtain ⟨os,hos,hcs,hds⟩:=id hs
 unfold Builtin.Slice.sliceApplied Builtin.Slice.sliceFields
 refine wpAny_bind (wpAny_bind (wpAny_field hos hds (x:=vl) rfl (wpAny_bind (wpAny_field hos hds (x:=vu) rfl (wpAny_bind (wpAny_field hos hds (x:=.none) rfl (wpAny_pure ?_)))))))
 refine wpAny_bind (slicePart_none ?_)
 show wpAny _ _ (if ((1:Int) == 0)=true then _ else _) _ _ s
 rw [if_neg (by decide)]
 refine wpAny_bind (Je pl (wpAny_bind (Je pu (wpAny_bind (wpAny_pure ?_)))))
 show wpAny _ _ (match Builtin.Slice.sliceAdjust lo hi 1 (n:Int) with | (lo,hi)=>pure (lo,(1:Int),Builtin.Slice.slicePlaces lo hi 1)) _ _ s
 rw [Oc lo hi n]
 show wpAny _ _ (pure (((DY n 0 lo:Nat):Int),(1:Int),Builtin.Slice.slicePlaces ((DY n 0 lo:Nat):Int) ((DY n n hi:Nat):Int) 1)) _ _ s
 rw [N6]
 exact wpAny_pure h
theorem Sg (xs:Array Value) (i k:Nat):((List.range k).filterMap fun (m:Nat)=>xs[((i:Int)+(m:Int) * 1).toNat]?).toArray=((xs.toList.drop i).take k).toArray:=by
 have e:(fun (m:Nat)=>xs[((i:Int)+(m:Int) * 1).toNat]?)=fun m=>xs[i+m]?:=by
  funext m
  have:((i:Int)+(m:Int) * 1).toNat=i+m:=by omega
  rw [this]
 rw [e]
 have:=pick_run xs i k
 rw [List.filterMap_map] at this
 have e2:((fun x=>xs[x]?) ∘ fun x=>i+x)=fun m=>xs[i+m]?:=rfl
 rw [e2] at this
 rw [this]
theorem HY {t sl:Addr} {items:Array Value} {vl vu:Value} {lo hi:Option Int} {Q:Value->Shared->Prop} (ht:IsTup s.heap t items) (hs:s.heap.IsSliceOf sl vl vu .none) (pl:IsPart vl lo) (pu:IsPart vu hi)
  (hw:¬ (DY items.size 0 lo=0/\DY items.size items.size hi=items.size))
  (h:Q (.ref s.heap.objs.size) { s with heap:=s.heap.push { cls:=.type "tuple",data:=.seq ((items.toList.drop (DY items.size 0 lo)).take (DY items.size items.size hi - DY items.size 0 lo)).toArray } })
  (hsz:items.size<=sizeLine):wpAny (model prog w) A (getItem (.ref t) (.ref sl)) Q E s:=by
 have htake:sizeOk (.seq ((items.toList.drop (DY items.size 0 lo)).take (DY items.size items.size hi - DY items.size 0 lo)).toArray):=by
  show ((items.toList.drop (DY items.size 0 lo)).take (DY items.size items.size hi - DY items.size 0 lo)).toArray.size<=sizeLine
  rw [List.size_toArray,List.length_take,List.length_drop,Array.length_toList]
  omega
 have hj:DY items.size items.size hi<=items.size:=WM _ _ (Nat.le_refl _) hi
 obtain ⟨os,hos,hcs,hds⟩:=id hs
 have hTs:s.TypeIs (.ref sl) "slice":=⟨os,hos,hcs⟩
 unfold getItem
 try with_reducible refine wpAny_holding ?_
 first | refine wpAny_bind (wpAny_pure ?_) | skip
 refine wpAny_bind (wpAny_sequenceKey ht.typeIs (by decide) ?_)
 refine wpAny_bind (wpAny_callSpecial?_slot (name:=Str.ofString "__getitem__") ht.typeIs PyProof.Rows.slot_tuple_getitem
  (wpAny_call_entry PyProof.Rows.slot_tuple_getitem ht.typeIs entry_tuple_getitem ?_ (args_tuple_getitem _ _)))
 show wpAny _ _ (Builtin.Tuple.tupleItemsOf (.ref t) >>= _) _ _ s
 refine wpAny_bind (tupleItemsOf_ ht ?_)
 refine wpAny_bind (wpAny_typeOf hTs ?_)
 rw [if_pos (by decide)]
 refine wpAny_bind (Hu hs pl pu ?_)
 have hno:¬ ((((DY items.size 0 lo:Nat):Int) == 0 && (1:Int) == 1 && (DY items.size items.size hi - DY items.size 0 lo) == items.size)=true):=by
  intro q
  rw [Bool.and_eq_true,Bool.and_eq_true] at q
  have q1:((DY items.size 0 lo:Nat):Int)=0:=eq_of_beq q.1.1
  have q2:DY items.size items.size hi - DY items.size 0 lo=items.size:=eq_of_beq q.2
  exact hw ⟨by omega,by omega⟩
 show wpAny _ _ (if (((DY items.size 0 lo:Nat):Int) == 0 && (1:Int) == 1 && (DY items.size items.size hi - DY items.size 0 lo) == items.size)=true then _ else _) _ _ s
 rw [if_neg hno,Sg]
 first
  | exact wpAny_bind (m:=Builtin.Tuple.tupleExact _) (wpAny_newObj_type (wpAny_pure ⟨_,rfl,wpAny_pure h⟩) htake)
  | exact wpAny_bind (m:=Builtin.Tuple.tupleExact _) (wpAny_newObj_type (wpAny_bind (wpAny_pure (wpAny_pure ⟨_,rfl,wpAny_pure h⟩))) htake)
  | exact wpAny_bind (wpAny_bind (m:=Builtin.Tuple.tupleExact _) (wpAny_newObj_type (wpAny_pure (wpAny_pure ⟨_,rfl,wpAny_pure h⟩)) htake))
  | exact wpAny_bind (wpAny_bind (m:=Builtin.Tuple.tupleExact _) (wpAny_newObj_type (wpAny_pure ⟨_,rfl,wpAny_pure h⟩) htake))
end
end HT
namespace L2
open PySem PySem.Spec PyProof.Rows
noncomputable abbrev TO:=St->Hp->(Option Int->Hp->Prop)->Prop
noncomputable def PO (X:Cx) (e:Option Expr) (t:TO):Prop :=
 ∀ (pins:List (Addr × Obj)) (s:Shared) (σ:St) (H:Hp) (Q:Option Int->Hp->Prop),Inv X pins σ H s->t σ H Q ->
  wpAny (model X.prog X.w) X.A (evalPart e X.env) (fun u s'=>∃ o H',Inv X pins σ H' s'/\IsPart u o/\Q o H') X.xe s
noncomputable def Us:TO:=fun _ H Q=>Q none H
noncomputable def YW (t:TE):TO:=fun σ H Q=>t σ H fun x H1=>∃ i,x=.int i/\Q (some i) H1
section
variable {X:Cx} {e:Expr} {te:TE} {lo hi:Option Expr} {tl th:TO} {pos p2:Pos}
theorem Hb:PO X none Us:=by
 intro pins s σ H Q I h
 rw [evalPart_none]
 exact wpAny_pure ⟨none,H,I,.none,h⟩
theorem Fo (h:PE X e te):PO X (some e) (YW te):=by
 intro pins s σ H Q I hw
 rw [evalPart_some]
 refine CG (h pins s σ H _ I hw) fun u s1 hq0=>?_
 obtain ⟨x,H1,I1,r1,q1⟩:=hq0
 obtain ⟨i,rfl,q⟩:=q1
 obtain ⟨t,rfl⟩:=r1
 exact ⟨some i,H1,I1,.int i t,q⟩
noncomputable def Z7 (X:Cx) (r:V->Option Int->Option Int->Hp->VK->Prop):Prop :=
 ∀ (pins:List (Addr × Obj)) (s:Shared) (σ:St) (H:Hp) (x:V) (v vl vu:Value) (lo hi:Option Int) (sl:Addr) (Q:VK),Inv X pins σ H s->RelV x v->s.heap.IsSliceOf sl vl vu .none->IsPart vl lo->IsPart vu hi->r x lo hi H Q ->
  ∃ T id,typeLookup (.type T) "__getitem__" = pure (some (.builtin id))/\s.TypeIs v T/\wpAny (model X.prog X.w) X.A (getItem v (.ref sl)) (EP X pins σ Q) X.xe s
noncomputable def iQ (r:V->Option Int->Option Int->Hp->VK->Prop) (te:TE) (tl th:TO):TE:=fun σ H Q=>te σ H fun x H1=>tl σ H1 fun l H2=>th σ H2 fun u H3=>r x l u H3 Q
theorem Fb {r:V->Option Int->Option Int->Hp->VK->Prop} (hr:Z7 X r) (he:PE X e te) (hl:PO X lo tl) (hu:PO X hi th):PE X (.Subscript e (.Slice lo hi none p2) pos) (iQ r te tl th):=by
 intro pins s σ H Q I h
 refine Subscript_ (CG (he pins s σ H _ I h) fun v s1 hq0=>?_)
 obtain ⟨x,H1,I1,r1,q1⟩:=hq0
 refine wpAny_Slice (CG (hl pins s1 σ H1 _ I1 q1) fun vl s2 ⟨l,H2,I2,pl,q2⟩=>CG (hu pins s2 σ H2 _ I2 q2) fun vu s3 hq0=>?_)
 obtain ⟨u,H3,I3,pu,q3⟩:=hq0
 rw [evalPart_none]
 refine wpAny_pure ?_
 have I4:Inv X pins σ H3 { s3 with heap:=s3.heap.push { cls:=.type "slice",data:=.fields #[vl,vu,.none] } }:=I3.kept (t':=s3.toks) fun b ob q=>Heap.get?_push_of_some _ q
 obtain ⟨T,id,hT,ht,hg⟩:=hr pins { s3 with heap:=s3.heap.push { cls:=.type "slice",data:=.fields #[vl,vu,.none] } } σ H3 x v vl vu l u s3.heap.objs.size Q I4 r1 (Heap.IsSliceOf.new ..) pl pu q3
 show wpAny (model X.prog X.w) X.A (subscriptTail e (.Slice lo hi none p2) v (.ref s3.heap.objs.size)) (EP X pins σ Q) X.xe { s3 with heap:=s3.heap.push { cls:=.type "slice",data:=.fields #[vl,vu,.none] } }
 exact tail_any (ops:=[.ref s3.heap.objs.size,v]) ht hT hg (by with_unfolding_all rfl)
noncomputable def En (xs:List V) (lo hi:Option Int):List V:=(xs.drop (HT.DY xs.length 0 lo)).take (HT.DY xs.length xs.length hi - HT.DY xs.length 0 lo)
theorem Ia (xs:List V) (lo hi:Option Int):(En xs lo hi).length<=xs.length:=by
 unfold En
 rw [List.length_take,List.length_drop]
 omega
noncomputable def fH (K:PySem.W.Frag):V->Option Int->Option Int->Hp->VK->Prop:=fun x lo hi H Q=>∃ a xs,x=.ref a/\Ey K H a xs /\
 ¬ (HT.DY xs.length 0 lo=0/\HT.DY xs.length xs.length hi=xs.length)/\∀ p,H p=none->Q (.ref p) (upd H p (.tup (En xs lo hi)))
theorem NQ:Z7 X (fH X.K):=by
 intro pins s σ H x v vl vu lo hi sl Q I rx hs pl pu h
 obtain ⟨a,xs,rfl,hx,hw,q⟩:=h
 cases rx
 obtain ⟨its,r,ht,hz⟩:=I.tuple hx
 have hlen:its.toArray.size=xs.length:=by rw [List.size_toArray]; exact r.length.symm
 refine ⟨"tuple",_,PyProof.Rows.slot_tuple_getitem.lookup,ht.typeIs,?_⟩
 refine HT.HY ht hs pl pu (by rw [hlen]; exact hw) ?_ (by rw [hlen]; exact hz)
 rw [hlen]
 refine ⟨.ref s.heap.objs.size,_,I.laid (t':=s.toks) (o:=.tup (En xs lo hi)) (fun b ob q=>Heap.get?_push_of_some _ q) (Nat.le_refl _) ?_,rfl,q _ (I.hok.fresh (Nat.le_refl _))⟩
 exact ⟨Nat.le_trans (Ia xs lo hi) hz,_,(r.drop (HT.DY xs.length 0 lo)).take (HT.DY xs.length xs.length hi - HT.DY xs.length 0 lo),IsTup.new _ _⟩
end
end L2
namespace L2
open PySem PySem.Spec PyProof.Rows
noncomputable def WN (n:Nat) (i:Int):Option Nat:=if 0<=i then (if i<n then some i.toNat else none) else if -(n:Int)<=i then some (i+n).toNat else none
noncomputable def QQ {α:Type} (xs:List α) (i:Int):Option α:=(WN xs.length i).bind fun j=>xs[j]?
theorem Ur {n:Nat} {i:Int} {j:Nat} (h:WN n i=some j):seqIndex? i n=some j/\j<n /\ -(n:Int)<=i/\i<n:=by
 unfold WN at h
 by_cases h0:0<=i
 ·rw [if_pos h0] at h
  by_cases h1:i<n
  ·rw [if_pos h1] at h
   have e:i.toNat=j:=Option.some.inj h
   exact ⟨by rw [seqIndex_of h0 h1,e],by omega,by omega,h1⟩
  ·rw [if_neg h1] at h; cases h
 ·rw [if_neg h0] at h
  by_cases h1 : -(n:Int)<=i
  ·rw [if_pos h1] at h
   have e:(i+n).toNat=j:=Option.some.inj h
   exact ⟨by rw [seqIndex_neg (by omega) h1,e],by omega,h1,by omega⟩
  ·rw [if_neg h1] at h; cases h
theorem K6 {α:Type} {xs:List α} {i:Int} {v:α} (h:QQ xs i=some v):∃ j,seqIndex? i xs.length=some j/\xs[j]? = some v/\j<xs.length /\ -(xs.length:Int)<=i/\i<xs.length:=by
 unfold QQ at h
 cases e:WN xs.length i with
 | none=>rw [e] at h; cases h
 | some j =>
  rw [e] at h
  obtain ⟨h1,h2,h3,h4⟩:=Ur e
  exact ⟨j,h1,h,h2,h3,h4⟩
theorem Aq {α:Type} {xs:List α} {j:Nat} {v:α} (h:xs[j]? = some v):QQ xs (j:Int)=some v:=by
 have hj:j<xs.length:=(List.getElem?_eq_some_iff.mp h).1
 have e:WN xs.length (j:Int)=some j:=by
  unfold WN
  rw [if_pos (by omega),if_pos (by omega)]; simp
 unfold QQ; rw [e]; exact h
noncomputable def Uw (b:Expr):Prop:=∀ o i,subscripted b false o i=operate [o,i] (getItem o i)
noncomputable def Wy (X:Cx) (r:R2):Prop :=
 ∀ (value slice:Expr) (pins:List (Addr × Obj)) (s:Shared) (σ:St) (H:Hp) (x y:V) (v u:Value) (Q:VK),Inv X pins σ H s->RelV x v->RelV y u->r x y H Q ->
  subscripted slice false v u=operate [v,u] (getItem v u)->wpAny (model X.prog X.w) X.A (subscriptTail value slice v u) (EP X pins σ Q) X.xe s
noncomputable def aV (X:Cx) (id:String) (r:V->List V->Hp->VK->Prop):Prop :=
 ∀ (pins:List (Addr × Obj)) (s:Shared) (σ:St) (H:Hp) (x:V) (xs:List V) (v:Value) (us:List Value) (Q:VK),Inv X pins σ H s->RelV x v->Vals xs us->r x xs H Q ->
  wpAny (model X.prog X.w) X.A (call (.builtin id) (v::us)) (EP X pins σ Q) X.xe s
section
variable {X:Cx} {a b:Expr} {ta tb:TE} {pos:Pos}
theorem Bb {r:R2} (hr:Wy X r) (ha:PE X a ta) (hb:PE X b tb) (hs:Uw b):PE X (.Subscript a b pos) (YJ r ta tb):=by
 intro pins s σ H Q I h
 exact Subscript_ (WK ha hb I h fun v u s2 x y H2 I2 rx ry q=>hr a b pins s2 σ H2 x y v u Q I2 rx ry q (hs _ _))
noncomputable def Zj (K:PySem.W.Frag):R2:=fun x y H Q=>∃ p xs i v,x=.ref p/\y=.int i/\Cp K H p xs/\QQ xs i=some v/\Q v H
noncomputable def Yz (K:PySem.W.Frag):R2:=fun x y H Q=>∃ p xs i v,x=.ref p/\y=.int i/\Ey K H p xs/\QQ xs i=some v/\Q v H
noncomputable def dh:R2:=fun x y H Q=>∃ z i c,x=.str z/\y=.int i/\z.length<=sizeLine/\QQ z.cps.toList i=some c/\Q (.str ⟨#[c]⟩) H
theorem Dc:Wy X (Zj X.K):=by
 intro value slice pins s σ H x y v u Q I rx ry h hs
 obtain ⟨p,xs,i,z,rfl,rfl,hq,he,q⟩:=h
 cases rx
 obtain ⟨t,rfl⟩:=ry
 obtain ⟨its,r,pl,hz⟩:=I.list hq
 obtain ⟨j,h1,h2,h3,h4,h5⟩:=K6 he
 obtain ⟨w,ew,rw'⟩:=r.get h2
 have hl:=r.length
 have hn:=Hr
 have fin:EP X pins σ Q w s:=⟨z,H,I,rw',q⟩
 by_cases h0:0<=i
 ·have hj:i.toNat=j:=by
   rw [seqIndex_of h0 h5] at h1
   exact Option.some.inj h1
  exact item_listR pl.isList h0 (by omega) (by rw [hj]; simpa using ew) fin hs
 ·have hj:(i+(its.toArray.size:Int)).toNat=j:=by
   rw [seqIndex_neg (by omega) h4] at h1
   rw [List.size_toArray,← hl]
   exact Option.some.inj h1
  exact subscriptTail_builtinR (x:=w) pl.isList.typeIs slot_list_getitem.lookup
   (wpAny_getItem_list_neg (Q:=fun r s'=>r=w/\EP X pins σ Q r s') pl.isList (by omega) (by rw [List.size_toArray] <;> omega) (by omega) (by rw [hj]; simpa using ew) ⟨rfl,fin⟩) hs
theorem We:Wy X (Yz X.K):=by
 intro value slice pins s σ H x y v u Q I rx ry h hs
 obtain ⟨p,xs,i,z,rfl,rfl,hq,he,q⟩:=h
 cases rx
 obtain ⟨t,rfl⟩:=ry
 obtain ⟨its,r,pl,hz⟩:=I.tuple hq
 obtain ⟨j,h1,h2,h3,h4,h5⟩:=K6 he
 obtain ⟨w,ew,rw'⟩:=r.get h2
 have hl:=r.length
 have hn:=Hr
 have fin:EP X pins σ Q w s:=⟨z,H,I,rw',q⟩
 exact subscriptTail_builtinR (x:=w) pl.typeIs slot_tuple_getitem.lookup
  (getItem_tuple (j:=j) (Q:=fun r s'=>r=w/\EP X pins σ Q r s') pl (by omega) (by omega) (by rw [List.size_toArray,← hl]; exact h1) (by simpa using ew) ⟨rfl,fin⟩) hs
theorem Ka:Wy X dh:=by
 intro value slice pins s σ H x y v u Q I rx ry h hs
 obtain ⟨z,i,c,rfl,rfl,hz,he,q⟩:=h
 obtain ⟨t,rfl⟩:=rx
 obtain ⟨t',rfl⟩:=ry
 obtain ⟨j,h1,h2,h3,h4,h5⟩:=K6 he
 have hl:z.cps.toList.length=z.length:=by simp [Str.length]
 rw [hl] at h1 h4 h5
 have hn:=Hr
 exact tail_any (typeIs_str s z t) slot_str_getitem.lookup (getItem_str (c:=c) (by
  have e1:decide (i < -(2 ^ 63:Int))=false:=decide_eq_false (by omega)
  have e2:decide (i ≥ 2 ^ 63)=false:=decide_eq_false (by omega)
  rw [e1,e2,Bool.or_false]) (by rw [h1]; simpa using h2) ⟨.str ⟨#[c]⟩,H,I.tok _,⟨_,rfl⟩,q⟩) hs
theorem Kw (lo hi:Option Int) (n:Nat):(sliceBounds lo hi none n).1=((HT.DY n 0 lo:Nat):Int)/\(sliceBounds lo hi none n).2.1=((HT.DY n n hi:Nat):Int)/\(sliceBounds lo hi none n).2.2=1:=by
 refine ⟨?_,?_,rfl⟩
 ·cases lo with
  | none=>simp [sliceBounds,HT.DY]
  | some i =>
   simp only [sliceBounds,HT.DY,Option.getD_none,show (1:Int) > 0 by decide,if_true]
   by_cases h:i<0
   ·simp only [h,if_true] <;> omega
   ·simp only [h,if_false] <;> omega
 ·cases hi with
  | none=>simp [sliceBounds,HT.DY]
  | some i =>
   simp only [sliceBounds,HT.DY,Option.getD_none,show (1:Int) > 0 by decide,if_true]
   by_cases h:i<0
   ·simp only [h,if_true] <;> omega
   ·simp only [h,if_false] <;> omega
theorem Jk (its:List Value) (lo hi:Option Int):slicePick its.toArray lo hi none=((its.drop (HT.DY its.length 0 lo)).take (HT.DY its.length its.length hi - HT.DY its.length 0 lo)).toArray:=by
 obtain ⟨h1,h2,h3⟩:=Kw lo hi its.toArray.size
 unfold slicePick
 rw [h1,h2,h3]
 simp only [sliceRange_one,pick_run,List.size_toArray] <;> rfl
noncomputable def b8 (K:PySem.W.Frag):V->Option Int->Option Int->Hp->VK->Prop:=fun x lo hi H Q=>∃ a xs,x=.ref a/\Cp K H a xs/\∀ p,H p=none->Q (.ref p) (upd H p (.lst (En xs lo hi)))
theorem O4:Z7 X (b8 X.K):=by
 intro pins s σ H x v vl vu lo hi sl Q I rx hs pl pu h
 obtain ⟨a,xs,rfl,hx,q⟩:=h
 cases rx
 obtain ⟨its,r,ht,hz⟩:=I.list hx
 have hlen:=r.length
 refine ⟨"list",_,slot_list_getitem.lookup,ht.isList.typeIs,?_⟩
 refine wpAny_getItem_list_slice ht.isList hs pl pu .none (by simp) ?_ (by rw [List.size_toArray] <;> omega)
 rw [Jk,← hlen]
 refine ⟨.ref s.heap.objs.size,_,I.laid (t':=s.toks) (o:=.lst (En xs lo hi)) (fun b ob q=>Heap.get?_push_of_some _ q) (Nat.le_refl _) ?_,rfl,q _ (I.hok.fresh (Nat.le_refl _))⟩
 exact ⟨Nat.le_trans (Ia xs lo hi) hz,_,0,(r.drop (HT.DY xs.length 0 lo)).take (HT.DY xs.length xs.length hi - HT.DY xs.length 0 lo),Heap.get?_push_size _ rfl⟩
noncomputable def Fe:V->Bool
 | .non=>true
 | .bl _=>true
 | .int _=>true
 | .str _=>true
 | _=>false
noncomputable def QC:V->V->Bool
 | .non,.non=>true
 | .bl a,.bl b=>a == b
 | .bl a,.int b=>(if a then 1 else 0) == b
 | .int a,.bl b=>a == (if b then 1 else 0)
 | .int a,.int b=>a == b
 | .str a,.str b=>a == b
 | _,_=>false
theorem M9 {A:Around} {s:Shared} {y x:V} {u v:Value} (ry:RelV y u) (rx:RelV x v) (fy:Fe y=true) (fx:Fe x=true):SeqAt.EqAt A s u v (QC y x):=by
 cases y with
 | non =>
  cases ry
  cases x with
  | non=>cases rx; exact SeqAt.EqAt.same _
  | bl b=>cases rx; exact SeqAt.EqAt.none_bool b
  | int b=>obtain ⟨t,rfl⟩:=rx; exact SeqAt.EqAt.none_int b t
  | str b=>obtain ⟨t,rfl⟩:=rx; exact SeqAt.EqAt.none_str b t
  | _=>exact absurd (show false=true from fx) Bool.false_ne_true
 | bl a =>
  cases ry
  cases x with
  | non=>cases rx; exact SeqAt.EqAt.bool_none a
  | bl b=>cases rx; exact SeqAt.EqAt.bool_bool a b
  | int b=>obtain ⟨t,rfl⟩:=rx; exact SeqAt.EqAt.bool_int a b t
  | str b=>obtain ⟨t,rfl⟩:=rx; exact SeqAt.EqAt.bool_str a b t
  | _=>exact absurd (show false=true from fx) Bool.false_ne_true
 | int a =>
  obtain ⟨t',rfl⟩:=ry
  cases x with
  | non=>cases rx; exact SeqAt.EqAt.int_none a t'
  | bl b=>cases rx; exact SeqAt.EqAt.int_bool a t' b
  | int b=>obtain ⟨t,rfl⟩:=rx; exact SeqAt.EqAt.int_int a t' b t
  | str b=>obtain ⟨t,rfl⟩:=rx; exact SeqAt.EqAt.int_str a t' b t
  | _=>exact absurd (show false=true from fx) Bool.false_ne_true
 | str a =>
  obtain ⟨t',rfl⟩:=ry
  cases x with
  | non=>cases rx; exact SeqAt.EqAt.str_none a t'
  | bl b=>cases rx; exact SeqAt.EqAt.str_bool a t' b
  | int b=>obtain ⟨t,rfl⟩:=rx; exact SeqAt.EqAt.str_int a t' b t
  | str b=>obtain ⟨t,rfl⟩:=rx; exact SeqAt.EqAt.str_str a t' b t
  | _=>exact absurd (show false=true from fx) Bool.false_ne_true
 | _=>exact absurd (show false=true from fy) Bool.false_ne_true
noncomputable def M5 (x:V) (u:Value):Bool:=match u with
 | .none=>QC .non x
 | .bool b=>QC (.bl b) x
 | .int i _=>QC (.int i) x
 | .str z _=>QC (.str z) x
 | _=>false
theorem R8 {x y:V} {u:Value} (r:RelV y u) (f:Fe y=true):M5 x u=QC y x:=by
 cases y with
 | non=>cases r; rfl
 | bl b=>cases r; rfl
 | int i=>obtain ⟨t,rfl⟩:=r; rfl
 | str z=>obtain ⟨t,rfl⟩:=r; rfl
 | _=>exact absurd (show false=true from f) Bool.false_ne_true
theorem Hn {x:V}:∀ {xs:List V} {us:List Value},Vals xs us->xs.all Fe=true->us.any (M5 x)=xs.any fun y=>QC y x
 | _,_,.nil,_=>rfl
 | y::xs,u::us,.cons r t,f=>by
  rw [List.all_cons,Bool.and_eq_true] at f
  rw [List.any_cons,List.any_cons,R8 r f.1,Hn t f.2]
theorem Gi {A:Around} {s:Shared} {x:V} {v:Value} (rx:RelV x v) (fx:Fe x=true):∀ {xs:List V} {us:List Value},Vals xs us->xs.all Fe=true->∀ u∈us,SeqAt.EqAt A s u v (M5 x u)
 | _,_,.nil,_=>fun u hu=>by cases hu
 | y::xs,u::us,.cons r t,f=>fun u' hu=>by
  rw [List.all_cons,Bool.and_eq_true] at f
  rcases List.mem_cons.mp hu with rfl | hu
  ·rw [R8 r f.1]; exact M9 r rx f.1 fx
  ·exact Gi rx fx t f.2 u' hu
noncomputable def inV (x:V) (xs:List V):Bool:=xs.any fun y=>QC y x
noncomputable def dU (K:PySem.W.Frag) (neg:Bool):R2:=fun x y H Q=>∃ p xs,y=.ref p/\(Cp K H p xs \/ Ey K H p xs)/\Fe x=true/\xs.all Fe=true/\Q (.bl (if neg then !inV x xs else inV x xs)) H
theorem Pq:Gp X (compareOp .In) (dU X.K false):=by
 intro pins s σ H x y v u Q I rx ry h
 obtain ⟨p,xs,rfl,hq,fx,fs,q⟩:=h
 cases ry
 rcases hq with hq | hq
 ·obtain ⟨its,r,pl,hz⟩:=I.list hq
  refine SeqAt.in_listAt (M5 x) pl.isList (fun w hw=>Gi rx fx r fs w (by simpa using hw)) ⟨.bl _,H,I,rfl,?_⟩
  rw [show its.toArray.any (M5 x)=its.any (M5 x) by simp,Hn r fs]
  exact q
 ·obtain ⟨its,r,pl,hz⟩:=I.tuple hq
  refine SeqAt.in_tupleAt (M5 x) pl (fun w hw=>Gi rx fx r fs w (by simpa using hw)) ⟨.bl _,H,I,rfl,?_⟩
  rw [show its.toArray.any (M5 x)=its.any (M5 x) by simp,Hn r fs]
  exact q
theorem Hg:Gp X (compareOp .NotIn) (dU X.K true):=by
 intro pins s σ H x y v u Q I rx ry h
 obtain ⟨p,xs,rfl,hq,fx,fs,q⟩:=h
 cases ry
 rcases hq with hq | hq
 ·obtain ⟨its,r,pl,hz⟩:=I.list hq
  refine SeqAt.notIn_listAt (M5 x) pl.isList (fun w hw=>Gi rx fx r fs w (by simpa using hw)) ⟨.bl _,H,I,rfl,?_⟩
  rw [show its.toArray.any (M5 x)=its.any (M5 x) by simp,Hn r fs]
  exact q
 ·obtain ⟨its,r,pl,hz⟩:=I.tuple hq
  refine SeqAt.notIn_tupleAt (M5 x) pl (fun w hw=>Gi rx fx r fs w (by simpa using hw)) ⟨.bl _,H,I,rfl,?_⟩
  rw [show its.toArray.any (M5 x)=its.any (M5 x) by simp,Hn r fs]
  exact q
theorem BR:EY X (.builtin "len") (fun xs H Q=>∃ p ys,xs=[.ref p]/\(Cp X.K H p ys \/ Ey X.K H p ys)/\Q (.int ys.length) H):=by
 intro pins s σ H xs us Q I r h
 obtain ⟨p,ys,rfl,hq,q⟩:=h
 obtain ⟨u,rfl,rx⟩:=vals1 r
 cases rx
 have hn:=Hr
 rcases hq with hq | hq
 ·obtain ⟨its,r',pl,hz⟩:=I.list hq
  have hlen:=r'.length
  exact Calls.call_len_list pl.isList (by simp only [List.size_toArray] <;> omega) ⟨.int ys.length,H,I.tok _,⟨s.toks+1,by rw [List.size_toArray,hlen]⟩,q⟩
 ·obtain ⟨its,r',pl,hz⟩:=I.tuple hq
  have hlen:=r'.length
  exact len_tuple pl (by simp only [List.size_toArray] <;> omega) ⟨.int ys.length,H,I.tok _,⟨s.toks+1,by rw [List.size_toArray,hlen]⟩,q⟩
theorem HQ:EY X (.builtin "len") (fun xs H Q=>∃ z,xs=[.str z]/\z.length<=sizeLine/\Q (.int z.length) H):=by
 intro pins s σ H xs us Q I r h
 obtain ⟨z,rfl,hz,q⟩:=h
 obtain ⟨u,rfl,t,rfl⟩:=vals1 r
 have hn:=Hr
 exact len_str (by omega) ⟨.int z.length,H,I.tok _,⟨_,rfl⟩,q⟩
theorem Dl:EY X (.type "list") (fun xs H Q=>∃ p ys,xs=[.ref p]/\(Cp X.K H p ys \/ Ey X.K H p ys)/\∀ l,H l=none->Q (.ref l) (upd H l (.lst ys))):=by
 intro pins s σ H xs us Q I r h
 obtain ⟨p,ys,rfl,hq,q⟩:=h
 obtain ⟨u,rfl,rx⟩:=vals1 r
 cases rx
 have fin:∀ (its:List Value),Vals ys its->ys.length<=sizeLine->∀ (h':Heap) (c':Nat),(∀ b o',s.heap.get? b=some o'->h'.get? b=some o') ->
   h'.get? s.heap.objs.size=some { cls:=.type "list",dict:=none,data:=.seq its.toArray c',slots:=#[] }->EP X pins σ Q (.ref s.heap.objs.size) { s with heap:=h' }:=fun its r' hz h' c' kp e =>
  ⟨.ref s.heap.objs.size,_,I.laid (t':=s.toks) kp (Nat.le_refl _) (show By X.prog X.w _ h' _ (.lst ys) from ⟨hz,its,c',r',e⟩),rfl,q _ (I.hok.fresh (Nat.le_refl _))⟩
 rcases hq with hq | hq
 ·obtain ⟨its,r',pl,hz⟩:=I.list hq
  have hlen:=r'.length
  obtain ⟨o,ho,hc,n,hd⟩:=pl.isList
  exact call_list_seq p (.inl rfl) ho hc hd (fun h' c' kp e=>fin its r' hz h' c' kp e) (by simp only [List.size_toArray] <;> omega)
 ·obtain ⟨its,r',pl,hz⟩:=I.tuple hq
  have hlen:=r'.length
  obtain ⟨o,ho,hc,n,hd⟩:=pl
  exact call_list_seq p (.inr rfl) ho hc hd (fun h' c' kp e=>fin its r' hz h' c' kp e) (by simp only [List.size_toArray] <;> omega)
theorem G3:EY X (.type "tuple") (fun xs H Q=>∃ p ys,xs=[.ref p]/\((Cp X.K H p ys/\∀ l,H l=none->Q (.ref l) (upd H l (.tup ys))) \/ (Ey X.K H p ys/\Q (.ref p) H))):=by
 intro pins s σ H xs us Q I r h
 obtain ⟨p,ys,rfl,h⟩:=h
 obtain ⟨u,rfl,rx⟩:=vals1 r
 cases rx
 rcases h with ⟨hq,q⟩ | ⟨hq,q⟩
 ·obtain ⟨its,r',pl,hz⟩:=I.list hq
  have hlen:=r'.length
  refine call_tuple_list pl.isList (fun h' kp=>?_) (by simp only [List.size_toArray] <;> omega)
  have I1:Inv X pins σ H { s with heap:=h' }:=I.kept (t':=s.toks) kp
  have I2:Inv X pins σ (upd H h'.objs.size (.tup ys)) { s with heap:=h'.push { cls:=.type "tuple",data:=.seq its.toArray } } :=
   I1.laid (t':=s.toks) (fun b o e=>Heap.get?_push_of_some _ e) (Nat.le_refl _) (show By X.prog X.w _ _ _ (.tup ys) from ⟨hz,its,r',IsTup.new _ _⟩)
  exact ⟨.ref h'.objs.size,_,I2,rfl,q _ (I1.hok.fresh (Nat.le_refl _))⟩
 ·obtain ⟨its,r',pl,hz⟩:=I.tuple hq
  exact call_tuple_same pl ⟨.ref p,H,I,rfl,q⟩
noncomputable def gO (K:PySem.W.Frag) (T:String) (x:V) (H:Hp):Prop:=match x with
 | .str _=>T = "str"
 | .int _=>T = "int"
 | .ref p=>(T = "list" /\ ∃ xs,Cp K H p xs) \/ (T = "tuple" /\ ∃ o,K.lookup p=some o/\o.cls=.type "tuple" /\ o.dict=none) \/
   (T = "dict" /\ ((∃ kvs,H p=some (.dK kvs)) \/ ∃ kvs,H p=some (.dT kvs))) \/ (T = "set" /\ ∃ S n,H p=some (.set S n))
 | _=>False
theorem V1 {pins:List (Addr × Obj)} {σ:St} {H:Hp} {s:Shared} {T:String} {x:V} {v:Value} (I:Inv X pins σ H s) (r:RelV x v) (ty:gO X.K T x H) :
  s.TypeIs v T/\∀ a,v=.ref a->∃ ob,s.heap.get? a=some ob/\ob.dict=none:=by
 cases x with
 | str z =>
  obtain ⟨t,rfl⟩:=r
  cases (show T = "str" from ty)
  exact ⟨typeIs_str s z t,fun _ e=>nomatch e⟩
 | int i =>
  obtain ⟨t,rfl⟩:=r
  cases (show T = "int" from ty)
  exact ⟨typeIs_int s i t,fun _ e=>nomatch e⟩
 | ref p =>
  cases r
  rcases ty with ⟨rfl,xs,hq⟩ | ⟨rfl,o,hk,hc,hd⟩ | ⟨rfl,hk⟩ | ⟨rfl,S,n,hk⟩
  ·obtain ⟨its,_,pl,_⟩:=I.list hq
   refine ⟨pl.isList.typeIs,fun a e=>?_⟩
   cases e
   obtain ⟨o,n,e,c,hd,_⟩:=pl
   exact ⟨o,e,hd⟩
  ·refine ⟨⟨o,I.Ho p o hk,hc⟩,fun a e=>?_⟩
   cases e
   exact ⟨o,I.Ho _ o hk,hd⟩
  ·have z:∃ o,s.heap.get? p=some o/\o.ExactDict:=by
    rcases hk with ⟨kvs,hk⟩ | ⟨kvs,hk⟩
    ·refine byC fun w_=>?_;obtain ⟨_,_,_,_,o,_,_,e,ex,_⟩:=I.hok p _ hk;refine w_ ?_
     exact ⟨o,e,ex⟩
    ·refine byC fun w_=>?_;obtain ⟨_,_,_,_,o,_,_,e,ex,_⟩:=I.hok p _ hk;refine w_ ?_
     exact ⟨o,e,ex⟩
   obtain ⟨o,e,ex⟩:=z
   refine ⟨⟨o,e,ex.1⟩,fun a e2=>?_⟩
   cases e2
   exact ⟨o,e,ex.2.1⟩
  ·obtain ⟨o,_,_,_,e,ex,_⟩:=I.hok p _ hk
   refine ⟨⟨o,e,ex.1⟩,fun a e2=>?_⟩
   cases e2
   exact ⟨o,e,ex.2.1⟩
 | _=>exact False.elim ty
noncomputable def iK (K:PySem.W.Frag) (T:String) (r:V->List V->Hp->VK->Prop) (to:TE) (t:TA):TE:=fun σ H Q=>to σ H fun x H1=>gO K T x H1/\t σ H1 fun xs H2=>r x xs H2 Q
variable {o e:Expr} {es:List Expr} {to:TE} {t:TA} {name:Str} {apos cpos:Pos} {T id:String} {r:V->List V->Hp->VK->Prop}
theorem DW (pa:PlainAttrs T) (slot:Slot T name id) (hty:typeOf (.builtin id)=pure (.type "method_descriptor")) (hm:aV X id r) (ho:PE X o to) (ha:PA X (e::es) t)
  (hbase:attributeBase o name X.env (eval o X.env)=eval o X.env:=by rfl)
  (hfew:((backTo cpos (starEach (e::es) X.env)).all (fun x=>!x.1) && (backToKw cpos (keywordEach [] X.env)).all (fun x=>x.1.isSome)
   && decide ((e::es).length+([]:List Keyword).length+(if ([]:List Keyword).isEmpty then 0 else 1)<30))=true:=by rfl)
  (hline:(apos.endLine == cpos.line)=true:=by rfl) (hs:starEach (e::es) X.env=(false,eval e X.env)::starEach es X.env:=by rfl) (hplain:(backTo cpos (starEach es X.env)).any (·.1)=false:=by rfl) :
  PE X (.Call (.Attribute o name apos) (e::es) [] cpos) (iK X.K T r to t):=by
 intro pins s σ H Q I h
 refine wpAny_Call_method_late hbase hfew hline rfl (CG (ho pins s σ H _ I h) fun v s1 hq0=>?_)
 obtain ⟨x,H1,I1,r1,ty,q1⟩:=hq0
 obtain ⟨h1,h2⟩:=V1 I1 r1 ty
 refine ⟨T,id,pa,slot,hty,h1,h2,?_⟩
 have hA:=ha cpos pins s1 σ H1 _ I1 q1
 rw [hs] at hA ⊢
 refine Calls.callWith_builtin (by show (false || (backTo cpos (starEach es X.env)).any (·.1))=false; rw [hplain] <;> rfl) (Calls.evalArgs_plain ?_)
 exact CG hA fun us s2 ⟨vs,H2,I2,r2,q2⟩=>hm pins s2 σ H2 x vs v us Q I2 r1 r2 q2
end
end L2
namespace L2
open PySem PySem.Spec PyProof.Rows
noncomputable def fW (X:Cx) (id:String) (r:V->List V->Hp->VK->Prop):Prop :=
 ∀ (pins:List (Addr × Obj)) (s:Shared) (σ:St) (H:Hp) (x:V) (xs:List V) (v:Value) (us:List Value) (Q:VK),Inv X pins σ H s->RelV x v->Vals xs us->r x xs H Q ->
  wpAny (model X.prog X.w) X.A (call (.builtin id) (v::us)) (EP X pins σ Q) X.xe s
theorem Vals.one:∀ {x:V} {us:List Value},Vals [x] us->∃ u,us=[u]/\RelV x u:=fun h=>by cases h with | cons r t=>cases t; exact ⟨_,rfl,r⟩
theorem Vals.two:∀ {x y:V} {us:List Value},Vals [x,y] us->∃ u v,us=[u,v]/\RelV x u/\RelV y v:=fun h=>by cases h with | cons r t=>cases t with | cons q t=>cases t; exact ⟨_,_,rfl,r,q⟩
section
variable {X:Cx} {pins:List (Addr × Obj)} {σ:St} {H:Hp} {s:Shared} {l b:Addr} {xs ys zs:List V}
theorem Inv.XQ {its its':List Value} {n:Nat} {f:Array Value->Array Value} {t':Nat} (I:Inv X pins σ H s) (hH:H l=some (.lst xs))
  (e:s.heap.get? l=some { cls:=.type "list",data:=.seq its.toArray n }) (hf:f its.toArray=its'.toArray) (hv:Vals ys its') (hz:ys.length<=sizeLine) :
  Inv X pins σ (upd H l (.lst ys)) { s with heap:=s.heap.update l (Obj.mapSeq f),toks:=t' }:=by
 have q:=PySem.IsL.update e f
 rw [hf] at q
 refine I.write (x:=l) (e:=l) (by rw [hH]; exact trivial) (.inl rfl) (fun b' u hb hu=>(Heap.get?_update_other s.heap (Obj.mapSeq f) (Ne.symm hb)).trans hu) ⟨_,q⟩ ?_
 exact ⟨hz,its',_,hv,q⟩
theorem Inv.Rb {its:List Value} {t':Nat} (I:Inv X pins σ H s) (hv:Vals ys its) (hz:ys.length<=sizeLine) :
  Inv X pins σ (upd H s.heap.objs.size (.lst ys)) { s with heap:=s.heap.push { cls:=.type "list",data:=.seq its.toArray },toks:=t' } :=
 I.laid (fun _ _ q=>Heap.get?_push_of_some _ q) (Nat.le_refl _) ⟨hz,its,0,hv,Heap.get?_push_size _ rfl⟩
theorem Inv.fresh (I:Inv X pins σ H s):H s.heap.objs.size=none:=I.hok.fresh (Nat.le_refl _)
theorem Inv.Rx (I:Inv X pins σ H s) (hH:H l=some (.lst xs)):xs.length<=sizeLine/\∃ (its:List Value) (n:Nat),Vals xs its/\xs.length=its.length/\s.heap.get? l=some { cls:=.type "list",data:=.seq its.toArray n }:=by
 obtain ⟨z,its,n,r,e⟩:=I.hok l _ hH
 exact ⟨z,its,n,r,r.length,e⟩
theorem RL {n:Nat} (h:n<=sizeLine):Builtin.List.listTooLong n=false:=by
 unfold Builtin.List.listTooLong
 exact decide_eq_false (by omega)
end
section
variable {X:Cx}
noncomputable def T4:V->List V->Hp->VK->Prop:=fun x vs H Q=>∃ l xs y,x=.ref l/\vs=[y]/\H l=some (.lst xs)/\xs.length<sizeLine/\Q .non (upd H l (.lst (xs++[y])))
theorem Bp:fW X "list.append" T4:=by
 intro pins s σ H x vs v us Q I rx rv h
 obtain ⟨l,xs,y,rfl,rfl,hH,hz,q⟩:=h
 cases rx
 obtain ⟨u,rfl,ru⟩:=rv.one
 obtain ⟨z,its,n,r,hl,e⟩:=I.Rx hH
 refine call_meets F.slot_list_append ⟨_,e,rfl⟩ F.entry_list_append (F.args_list_append_2 _ _) (PySem.list_append l its.toArray n u (by rw [List.size_toArray]; omega)) ⟨e,?_⟩
 refine ⟨.non,_,I.XQ (its':=its++[u]) hH e (by simp) (r.append (.cons ru .nil)) ?_,rfl,q⟩
 rw [List.length_append,List.length_singleton]
 omega
noncomputable def Tz:V->List V->Hp->VK->Prop:=fun x vs H Q=>∃ l b xs zs,x=.ref l/\vs=[.ref b]/\H l=some (.lst xs)/\H b=some (.lst zs)/\xs.length+zs.length<=sizeLine/\Q .non (upd H l (.lst (xs++zs)))
theorem QB:fW X "list.extend" Tz:=by
 intro pins s σ H x vs v us Q I rx rv h
 refine byC fun w_=>?_;obtain ⟨l,b,xs,zs,rfl,rfl,hH,hB,hz,q⟩:=h;refine w_ ?_
 cases rx
 obtain ⟨u,rfl,ru⟩:=rv.one
 cases ru
 obtain ⟨z,its,n,r,hl,e⟩:=I.Rx hH
 obtain ⟨z2,its2,n2,r2,hl2,e2⟩:=I.Rx hB
 have hsz:its.toArray.size+its2.toArray.size<=sizeLine:=by rw [List.size_toArray,List.size_toArray]; omega
 have hlong:¬ (!its.toArray.isEmpty && Builtin.List.listTooLong (its.toArray.size+its2.toArray.size))=true:=by
  rw [RL hsz,Bool.and_false]
  exact Bool.false_ne_true
 refine call_meets F.slot_list_extend ⟨_,e,rfl⟩ F.entry_list_extend (F.args_list_extend_2 _ _)
  (AutoSeq1.list_extend_list_list_0 l its.toArray n b its2.toArray n2 hlong (by rw [List.size_toArray]; omega) (by omega)) ⟨e,e2,?_⟩
 refine ⟨.non,_,I.XQ (its':=its++its2) hH e (by simp) (r.append r2) ?_,rfl,q⟩
 rw [List.length_append]
 omega
noncomputable def cY:R2:=fun x y H Q=>∃ l b xs zs,x=.ref l/\y=.ref b/\H l=some (.lst xs)/\H b=some (.lst zs)/\xs.length+zs.length<=sizeLine/\∀ p,H p=none->Q (.ref p) (upd H p (.lst (xs++zs)))
theorem R_:Gp X (binaryOp .Add) cY:=by
 intro pins s σ H x y v u Q I rx ry h
 refine byC fun w_=>?_;obtain ⟨l,b,xs,zs,rfl,rfl,hH,hB,hz,q⟩:=h;refine w_ ?_
 cases rx
 cases ry
 obtain ⟨z,its,n,r,hl,e⟩:=I.Rx hH
 obtain ⟨z2,its2,n2,r2,hl2,e2⟩:=I.Rx hB
 refine PySem.P.add_list e e2 ?_ (by rw [List.size_toArray,List.size_toArray]; omega)
 have ea:its.toArray++its2.toArray=(its++its2).toArray:=by simp
 rw [ea]
 exact ⟨.ref _,_,I.Rb (t':=s.toks) (r.append r2) (by rw [List.length_append]; omega),rfl,q _ I.fresh⟩
end
section
variable {prog:Program} {w:World} {A:Around} {E:Value->Shared->Prop} {s:Shared}
end
section
variable {X:Cx}
end
end L2
namespace Att
open PySem PySem.W PySem.Calls PyProof.Rows
theorem Ii {P:Params} {h:Heap}:∀ (ns:List Int) (vs:List Value),WellAll P h vs (ns.map WData.int)->IntsAre vs ns:=by
 intro ns
 induction ns with
 | nil =>
  intro vs w
  rw [List.map_nil] at w
  cases w
  exact .nil
 | cons n ns ih =>
  intro vs w
  rw [List.map_cons] at w
  cases w with
  | cons a b =>
   cases a
   exact .cons _ _ (ih _ b)
theorem Ql {l:OpenLaw} {n:Nat} (hn:l.most=some n) {P:Params} {h:Heap} {args:List WData} {vals:List Value}
  (hpre:l.row.toRowW.claim.pre args=true) (hwl:WellAll P h vals args) :
  ∃ a vs ns,vals=[Value.ref a]/\args=[WData.list (ns.map WData.int)]/\h.get? a=some { cls:=.type "list",data:=.seq vs.toArray }/\IntsAre vs ns/\ns.length<=n:=by
 have hsh:WShape.hasAll [] args [.list .int]=true:=(pre_splitW hpre).1
 have hc:l.pre.holds [] { args:=args }=true:=(pre_splitW hpre).2
 obtain ⟨d,r,rfl,h1,h2⟩:=hasAllW_cons hsh
 obtain rfl:=hasAllW_nil h2
 obtain ⟨xs,rfl,h3⟩:=hasW_list h1
 obtain ⟨ns,rfl⟩:=items_int h3
 have hlen:ns.length<=n:=by
  unfold OpenLaw.pre at hc
  have h4:(WTm.not (.lt (.lit (.int (n:Int))) (.len (.arg 0)))).holds [] { args:=[.list (ns.map .int)] }=true:=by
   have h4:=(holds_andW hc).1
   rw [hn] at h4
   exact h4
  have h5:=condW_of h4 (w_not (w_lt w_lit (w_len_list (w_arg rfl))))
  rw [List.length_map] at h5
  refine Nat.le_of_not_lt fun q=>?_
  have q':(n:Int)<((ns.length:Nat):Int):=by omega
  first
   | (rw [decide_eq_true q'] at h5; exact absurd h5 (by decide))
   | (simp at h5; omega)
 cases hwl with
 | cons w1 w2 =>
  cases w2
  cases w1 with
  | list ho hall=>exact ⟨_,_,ns,rfl,rfl,ho,Ii ns _ hall,hlen⟩
theorem Pr (l:OpenLaw) (args:List WData):l.row.toRowW.claim.post args (.bool true) args=true :=
 postW_of (r:=l.row.toRowW) (X:=(true == true))
  (show WShape.has [] (.bool true) .bool=true by first | rfl | decide | simp [WShape.has,WShape.arms,WShape.armsAll])
  (show (WTm.eq .res (.lit (.bool true))).value [] { args:=args,res:=some (.bool true),after:=args }=some (.bool (true == true)) from w_eq_bool (w_res rfl) w_lit) rfl
theorem MP {l:OpenLaw} {n:Nat} {q:Program} {loose:List Str} {XP:(Str->Option Value)->Heap->Prop} {YP:World->Heap->Prop} {d:DefRec}
  (hn:l.most=some n) (hdf:d.params.defaults=[])
  (call:∀ (w:World) (s₀ s₁:Shared) (mg mb:Str->Option Value) (fa:Addr) (o:Obj) (pm cd doc:Value) (a:Addr) (vs:List Value) (ns:List Int),
   Ground q loose [] XP w s₀ mg mb s₁.heap->YP w s₁.heap ->
   s₁.heap.get? fa=some o->o.data=.func (docDef d.name d.params d.body d.scope pm cd doc)->s₁.heap.CodeRec cd d.name->mg d.name=some (.ref fa) ->
   s₁.heap.get? a=some { cls:=.type "list",data:=.seq vs.toArray }->IntsAre vs ns->ns.length<=n->s₁.gens = #[] ->
   codeAny (model l.prog w) callerA (.call (.ref fa) ⟨[.ref a],[]⟩) (fun r s'=>r=.ok (.ret (.bool true))/\OldK s₁.heap s'.heap/\s'.os=s₁.os/\AllBare s'.gens) s₁) :
  WalkO q loose XP YP l.row.toRowW d [] (fun f vs=>PySem.call f vs):=by
 intro w s₀ s₁ mg mb G Y fa o pm cd doc dV kV ho hd hcd hD hmg hg args vals as hpre hlay hrd hwl hlo
 obtain rfl:dV=.none:=Dflts.none hD hdf
 obtain rfl:kV=.none:=Dflts.noKw hD
 obtain ⟨a,vs,ns,rfl,rfl,hobj,hints,hlen⟩:=Ql hn hpre hwl
 refine enter_call (codeAny_mono (call w s₀ s₁ mg mb fa o pm cd doc a vs ns G Y ho (fd_plain hd) hcd hmg hobj hints hlen hg) fun r s' hq=>?_)
 obtain ⟨rfl,h2,h3,h4⟩:=hq
 exact ⟨.inl ⟨.bool true,.bool true,[],rfl,fun _=>rfl,.bool true,Pr l _,fun _=>⟨List.Pairwise.nil,fun _ hm=>(nomatch hm)⟩⟩,h2,h3,h4⟩
section
variable {prog:Program} {w:World} {A:Around} {E:Value->Shared->Prop} {s:Shared} {K:Frag}
end
end Att
namespace L2
open PySem PySem.Spec PyProof.Rows
theorem KC:∀ {vs:List Value} {ns:List Int},IntsAre vs ns->Vals (ns.map V.int) vs
 | _,_,.nil=>.nil
 | _,_,.cons n t h=>.cons ⟨t,rfl⟩ (KC h)
noncomputable def Only (H:Hp):Prop:=∀ b,H b=none \/ ∃ o xs,H b=some (.frz o (.lst xs))
theorem Rf {P:Program} {w:World} {K:PySem.W.Frag} {mg mb:Str->Option Value} {CX:P0} {k:Nat} {fa a:Addr} {fd:FuncData} {x:Str} {sp:Sp} {s₁:Shared} {vs:List Value} {ns:List Int}
  (KX:K.In s₁.heap) (hns:s₁.heap.Ns mainGlobals mg) (hb:s₁.heap.Ns builtinsNs mb) (hbb:∀ x:Str,x ≠ "__name__"->mb x=bootBuiltins x) (hlim:s₁.heap.NoLimit) (hg:s₁.gens = #[])
  (ha:s₁.heap.get? a=some { cls:=.type "list",data:=.seq vs.toArray }) (hi:IntsAre vs ns) (hl:ns.length<=sizeLine) (hr:Bc k callerA)
  (F:∀ base:Heap,K.In base->base.Ns mainGlobals mg->BJ P w K mg base CX k fa fd [x] sp) (hbind:∀ (s:Shared) (u:Value),BindsTo s fd ⟨[u],[]⟩ [(x,u)])
  (hsp:∀ H:Hp,Only H->Cp K H a (ns.map V.int)->sp [.ref a] H (fun v _=>v=.bl true) fun _ _ _=>False)
  (hCX:∀ H e s',CX [] H s₁ (fun _ _ _=>False) e s'->False) :
  codeAny (model P w) callerA (.call (.ref fa) ⟨[.ref a],[]⟩) (fun r s'=>r=.ok (.ret (.bool true))/\OldK s₁.heap s'.heap/\s'.os=s₁.os/\AllBare s'.gens) s₁:=by
 have rv:=KC hi
 have lenV:=hi.length
 have core:∀ H:Hp,Only H->Cp K H a (ns.map V.int)->HJ P w H s₁.heap->(∀ b,H b ≠ none->b=a)->(H a ≠ none->K.lookup a=none) ->
   codeAny (model P w) callerA (.call (.ref fa) ⟨[.ref a],[]⟩) (fun r s'=>r=.ok (.ret (.bool true))/\OldK s₁.heap s'.heap/\s'.os=s₁.os/\AllBare s'.gens) s₁:=by
  intro H hO hS hok hA hK
  have base_of:∀ {b:Addr} {o:Obj},s₁.heap.get? b=some o->H b=none->(KN s₁.heap H).get? b=some o:=fun e n=>Rm e n
  have noA:∀ {b:Addr} {o:Obj} {es:Array DictEntry} {ep:Nat},s₁.heap.get? b=some o->o.data=.dict es ep->H b=none:=fun {b o es ep} e d=>by
   cases q:H b with
   | none=>rfl
   | some u =>
    have e':b=a:=hA b (by rw [q]; simp)
    subst e'
    rw [ha] at e; cases e
    have d':Data.seq vs.toArray _=Data.dict es ep:=d
    cases d'
  have nsK:∀ {b:Addr} {m:Str->Option Value},s₁.heap.Ns b m->(KN s₁.heap H).Ns b m:=fun {b m} ⟨o,es,ep,e,d,r⟩=>⟨o,es,ep,base_of e (noA e d),d,r⟩
  have hKb:K.In (KN s₁.heap H):=fun b o e=>base_of (KX b o e) (by
   cases q:H b with
   | none=>rfl
   | some u =>
    have e':b=a:=hA b (by rw [q]; simp)
    subst e'
    rw [hK (by rw [q]; simp)] at e; cases e)
  have hM:Mod K mg (KN s₁.heap H):=⟨hKb,nsK hns,⟨mb,nsK hb,hbb⟩,let ⟨mc,h1,h2⟩:=hlim; ⟨mc,nsK h1,h2⟩⟩
  have e0:L_ P w K mg (KN s₁.heap H) callerA [] s₁ H:=⟨rfl,hM,fun b o e=>Uv e,Nat.le_of_eq (QJ _ _),trivial,fun b hb=>absurd (show b∈([]:List Addr) from hb) (by simp),hok,.of_eq hg⟩
  refine codeAny_mono ((F _ hKb (nsK hns)).run callerA [] s₁ H ⟨[.ref a],[]⟩ [.ref a] [.ref a] _ _ hr e0 (hbind s₁ (.ref a)) (.cons rfl .nil) (hsp H hO hS)) fun r s' h=>?_
  cases r with
  | error e=>exact (hCX H e s' h).elim
  | ok fl =>
   cases fl with
   | next=>exact False.elim h
   | brk=>exact False.elim h
   | cont=>exact False.elim h
   | ret u =>
    obtain ⟨v,H',os,bare,un,hok',r',q⟩:=h
    have q':v=.bl true:=q
    subst q'
    obtain rfl:u=Value.bool true:=r'
    refine ⟨rfl,OldK.of_keep fun b o e=>?_,os,bare⟩
    cases q:H b with
    | none=>exact un.keep b o e q (by intro z; exact absurd (show b∈([]:List Addr) from z) (by simp)) (by simp)
    | some u =>
     rcases hO b with z | ⟨ob,xs,z⟩
     ·rw [q] at z; cases z
     ·have z2:=un.frzs b ob _ z
      obtain ⟨e1,_⟩:=hok b _ z
      obtain ⟨e2,_⟩:=hok' b _ z2
      rw [e] at e1; cases e1
      exact e2
 cases hk:K.lookup a with
 | some o =>
  have e:=KX a o hk
  rw [ha] at e
  cases e
  refine core (fun _=>none) (fun _=>.inl rfl) (.inr ⟨_,vs.toArray,_,hk,rfl,rfl,rfl,by rw [List.size_toArray,lenV]; exact hl,by simpa using rv⟩) (fun b u z=>by have z':(none:Option HO)=some u:=z; cases z') (fun b z=>absurd rfl z) fun z=>absurd rfl z
 | none =>
  refine core (fun b=>if b=a then some (.frz { cls:=.type "list",data:=.seq vs.toArray } (.lst (ns.map V.int))) else none) (fun b=>?_) (.inl (.inr ⟨{ cls:=.type "list",data:=.seq vs.toArray },if_pos rfl⟩)) (fun b u z=>?_) (fun b z=>?_) fun _=>hk
  ·by_cases hb:b=a
   ·exact .inr ⟨_,_,if_pos hb⟩
   ·exact .inl (if_neg hb)
  ·by_cases hb:b=a
   ·have z':=(if_pos hb).symm.trans z
    cases z'
    subst hb
    exact ⟨ha,by rw [List.length_map]; exact hl,vs,_,rv,ha⟩
   ·have z':=(if_neg hb).symm.trans z
    cases z'
  ·by_cases hb:b=a
   ·exact hb
   ·exact absurd (if_neg hb) z
end L2
namespace L2
open PySem PySem.Spec PyProof.Rows
theorem Ux {l:PySem.W.OpenLaw} {n k:Nat} {q:Program} {loose:List Str} {XP:(Str->Option Value)->Heap->Prop} {YP:World->Heap->Prop} {d:DefRec} {K:Params->PySem.W.Frag} {CX:World->P0} {sp:World->Sp} {x:Str}
  (hn:l.most=some n) (hn2:n<=sizeLine) (hdf:d.params.defaults=[]) (hr:Bc k callerA)
  (hY:∀ (w:World) (h:Heap),YP w h->(K w.params).In h)
  (F:∀ (w:World) (mg:Str->Option Value) (fa:Addr) (h:Heap),(K w.params).In h->h.Ns mainGlobals mg->mg d.name=some (.ref fa) ->
   ∃ fd:FuncData,(∀ (s:Shared) (u:Value),BindsTo s fd ⟨[u],[]⟩ [(x,u)]) /\
    ∀ base:Heap,(K w.params).In base->base.Ns mainGlobals mg->BJ l.prog w (K w.params) mg base (CX w) k fa fd [x] (sp w))
  (hsp:∀ (w:World) (H:Hp) (a:Addr) (ns:List Int),ns.length<=n->Only H->Cp (K w.params) H a (ns.map V.int)->sp w [.ref a] H (fun v _=>v=.bl true) fun _ _ _=>False)
  (hCX:∀ (w:World) (H:Hp) (s:Shared) (e:Value) (s':Shared),CX w [] H s (fun _ _ _=>False) e s'->False) :
  PySem.W.WalkO q loose XP YP l.row.toRowW d [] (fun f vs=>PySem.call f vs):=by
 refine Att.MP hn hdf fun w s₀ s₁ mg mb fa o pm cd doc a vs ns G Y ho hd hcd hmg hobj hints hlen hg=>?_
 have KX:=hY w _ Y
 obtain ⟨fd,hb,hF⟩:=F w mg fa _ KX G.T.g hmg
 exact Rf KX G.T.g G.T.b G.T.builtins G.T.nolimit hg hobj hints (Nat.le_trans hlen hn2) hr hF hb (fun H hO hS=>hsp w H a ns hlen hO hS) fun H e s'=>hCX w H s₁ e s'
end L2
namespace L2
open PySem PySem.Spec PyProof.Rows
noncomputable def inClass (s:Stmt) (j:Nat):Stmt:=match s with
 | .ClassDef _ _ _ body _ _ _ _ _ _ _=>body.getD j (.Pass ⟨0,0,0,0⟩)
 | _=>.Pass ⟨0,0,0,0⟩
noncomputable def Ea (s:Stmt):Arguments:=match s with
 | .FunctionDef _ a _ _ _ _ _ _ _ _=>a
 | _=>{ posonlyargs:=[],args:=[],vararg:=none,kwonlyargs:=[],kw_defaults:=[],kwarg:=none,defaults:=[] }
noncomputable def Dw (s:Stmt):List Stmt:=match s with
 | .FunctionDef _ _ b _ _ _ _ _ _ _=>b
 | _=>[]
noncomputable def Ag (s:Stmt):Scope:=match s with
 | .FunctionDef _ _ _ _ _ _ sc _ _ _=>sc
 | _=>{ kind:=.function,names:=[],isGenerator:=false,isCoroutine:=false }
noncomputable abbrev Bk:P0:=fun _ _ _ _ _ _=>False
noncomputable abbrev E0:XK:=fun _ _ _=>False
theorem A_ {X:Cx}:Hx Bk X E0:=fun _ _ _ _ _ _ _ h=>h.elim
structure DK (K:PySem.W.Frag) (x qual:Str) (st:Stmt) (f:Addr) (fd:FuncData):Prop where
 ex:∃ (oc:Value) (od:Option Addr) (kV doc pm:Value) (an:Option Addr) (cdv ct:Value) (osl:Array (Option Value)),
  fd=PySem.W.fnOf x qual (Ea st) (Dw st) (Ag st) .none kV doc pm an cdv ct/\K.lookup f=some ⟨oc,od,.func fd,osl⟩/\PySem.W.codeIn K cdv qual=true
 kp:PySem.W.keepIn K (.ref f)=true
section
variable {P:Program} {w:World} {K:PySem.W.Frag} {mg:Str->Option Value} {base:Heap}
theorem DK.ok {x qual:Str} {st:Stmt} {f:Addr} {fd:FuncData} {N ps:List Str} {k:Nat} {sp:Sp} (F:DK K x qual st f fd) (S:Az N ps (Ag st)) (len:∀ vs H Q E,sp vs H Q E->vs.length=ps.length)
  (hbody:∀ (cdv:Value) (A:Around) (outer:List Env) (s:Shared) (H:Hp) (vs:List V) (Q:VK) (E:XK),Bc k (A.deeper (envOfC qual (Ag st) s.heap.objs.size f cdv))->sp vs H Q E ->
   ∃ t,P_ (QH Bk P w K mg base N qual (Ag st) f cdv A outer s H E).aA (Dw st) t/\t { nx:=fun _ H'=>Q .non H',rt:=Q } (start N vs) H):BJ P w K mg base Bk (k+1) f fd ps sp:=by
 refine byC fun w_=>?_;obtain ⟨oc,od,kV,doc,pm,an,cdv,ct,osl,rfl,lk,hcd⟩:=F.ex;refine w_ ?_
 refine YQ lk hcd S len fun A outer s H vs Q E hr hsp=>?_
 obtain ⟨t,h,q⟩:=hbody cdv A outer s H vs Q E hr hsp
 exact ⟨t,h.aA,q⟩
theorem DK.binds {x qual:Str} {st:Stmt} {f:Addr} {fd:FuncData} {ps:List Str} (F:DK K x qual st f fd)
  (h:∀ (kV doc pm:Value) (an:Option Addr) (cdv ct:Value) (us:List Value),us.length=ps.length->bindArgs (PySem.W.fnOf x qual (Ea st) (Dw st) (Ag st) .none kV doc pm an cdv ct) ⟨us,[]⟩=pure (ps.zip us)):Binds K fd ps []:=by
 refine byC fun w_=>?_;obtain ⟨oc,od,kV,doc,pm,an,cdv,ct,osl,rfl,lk,hcd⟩:=F.ex;refine w_ ?_
 exact .all (h kV doc pm an cdv ct)
theorem Nz {x qual:Str} {st:Stmt} {f:Addr} {oc:Value} {od an:Option Addr} {osl:Array (Option Value)} {kV doc pm cdv ct:Value} (l:K.lookup f=some ⟨oc,od,.func (PySem.W.fnOf x qual (Ea st) (Dw st) (Ag st) .none kV doc pm an cdv ct),osl⟩)
  (c:PySem.W.codeIn K cdv qual=true) (k:PySem.W.keepIn K (.ref f)=true):DK K x qual st f (PySem.W.fnOf x qual (Ea st) (Dw st) (Ag st) .none kV doc pm an cdv ct):=⟨⟨oc,od,kV,doc,pm,an,cdv,ct,osl,rfl,l,c⟩,k⟩
end
theorem Fd {A:Around} {k:Nat} (hr:Bc k A):A.units+1<cLine:=Nat.lt_of_le_of_lt (Nat.add_le_add_left (by decide:1<=64) _) hr.units
theorem Ar {n:Nat} (h:n<=1000):n<sizeLine:=Nat.lt_of_le_of_lt h (by decide)
section
variable {X:Cx}
theorem pv (i:Nat) {x:Str} {pos:Pos} (hN:X.N[i]? = some x:=by rfl) (hv:cT X.env.scope x:=by first | exact Or.inl rfl | exact Or.inr (Or.inl rfl) | exact Or.inr (Or.inr rfl)) (hd:(x == ("__debug__" : Str))=false:=by decide)
  (hcd:(x == ("__classdict__" : Str))=false:=by decide):PE X (.Name x pos) (Yw i):=V7 hN hv hd hcd
end
theorem Cy {A B:Prop} (h:B):if false=true then A else B:=by
 rw [if_neg Bool.false_ne_true]
 exact h
theorem Eo {A B:Prop} (h:A):if true=true then A else B:=by
 rw [if_pos rfl]
 exact h
theorem CV {c A B:Prop} [Decidable c] (h1:c->A) (h2:¬ c->B):if c then A else B:=by
 by_cases h:c
 ·rw [if_pos h]
  exact h1 h
 ·rw [if_neg h]
  exact h2 h
theorem U5 {c A B:Prop} [Decidable c] (hc:c) (h:B):if (!decide c)=true then A else B:=by
 rw [decide_eq_true hc]
 exact Cy h
noncomputable def Ao (H H':Hp):Prop:=∀ b o,H b=some o->H' b=some o
theorem Ao.refl (H:Hp):Ao H H:=fun _ _ h=>h
theorem Ao.trans {H H1 H2:Hp} (a:Ao H H1) (b:Ao H1 H2):Ao H H2:=fun c o h=>b c o (a c o h)
theorem Ao.free {H H':Hp} (e:Ao H H') {l:Addr} (h:H' l=Option.none):H l=Option.none:=by
 cases q:H l with
 | none=>rfl
 | some o =>
  rw [e l o q] at h
  cases h
theorem Ao.seq {K:PySem.W.Frag} {H H':Hp} {a:Addr} {xs:List V} (e:Ao H H') (h:Cp K H a xs):Cp K H' a xs:=by
 rcases h with (h | ⟨o,h⟩) | h
 ·exact .inl (.inl (e _ _ h))
 ·exact .inl (.inr ⟨o,e _ _ h⟩)
 ·exact .inr h
end L2
namespace L2
open PySem PySem.Spec PyProof.Rows
section
variable {X:Cx}
end
section
variable {κ:Type} [DecidableEq κ]
theorem Oz:∀ {l:List κ} {k:κ},l.Nodup->¬ k∈l->(l++[k]).Nodup
 | [],k,_,_=>by simp
 | a::r,k,h,hk=>by
  obtain ⟨h1,h2⟩:=List.nodup_cons.mp h
  show (a::(r++[k])).Nodup
  refine List.nodup_cons.mpr ⟨fun m=>?_,Oz h2 fun m=>hk (List.mem_cons.mpr (Or.inr m))⟩
  rcases List.mem_append.mp m with q | q
  ·exact h1 q
  ·exact hk (List.mem_cons.mpr (Or.inl (List.mem_singleton.mp q).symm))
end
end L2
namespace L2
open PySem PySem.Spec PyProof.Rows
section
variable {prog:Program} {w:World} {A:Around} {E:Value->Shared->Prop} {s:Shared}
theorem JT {it a:Addr} {i:Nat} {items:Array Value} {x:Value} {Q:Value->Shared->Prop} (j:s.heap.IsTupleIter it a i) (ht:s.heap.IsTuple a items) (hx:items[i]? = some x)
  (q:∀ h',h'.IsTupleIter it a (i+1)->Heap.SameBut it s.heap h'->Q x { s with heap:=h' }):wpAny (model prog w) A (Builtin.SmallTypes.nextOf (.ref it)) Q E s:=by
 have j0:=j
 obtain ⟨o,e,c,d⟩:=j
 obtain ⟨oa,ea,_,n,da⟩:=ht
 unfold Builtin.SmallTypes.nextOf
 refine wpAny_bind (wpAny_callSpecial?_slot (name:=Str.ofString "__next__") j0.typeIs F.slot_tuple_iterator_next (wpAny_call_entry F.slot_tuple_iterator_next j0.typeIs F.entry_tuple_iterator_next ?_ (F.args_tuple_iterator_next_1 _)))
 refine (show wpAny _ _ (field (.ref it) 0 >>= _) _ _ s from wpAny_bind (wpAny_field e d (x:=.ref a) rfl ?_))
 refine (show wpAny _ _ (if (Value.ref a == Value.none)=true then _ else _) _ _ s from ?_)
 rw [if_neg (by exact Bool.false_ne_true)]
 refine (show wpAny _ _ (field (.ref it) 1 >>= _) _ _ s from wpAny_bind (wpAny_field e d (x:=.int i 0) rfl ?_))
 refine (show wpAny _ _ (seqItems? (.ref a) >>= _) _ _ s from wpAny_bind (wpAny_seqItems ea da ?_))
 simp only [Int.toNat_natCast,hx]
 exact wpAny_bind (wpAny_setField e d (by simp) (wpAny_pure ⟨x,rfl,wpAny_pure (q _ ⟨_,Heap.get?_update_self _ e (Obj.isFreed_of_fields (Obj.data_mapFields d _)),(Obj.cls_mapFields ..).trans c,by rw [Obj.data_mapFields d]; simp [rawInt]⟩ (Heap.SameBut.update ..))⟩))
theorem I_ {it a:Addr} {i:Nat} {items:Array Value} {Q:Value->Shared->Prop} (hh:A.handled=none) (j:s.heap.IsTupleIter it a i) (ht:s.heap.IsTuple a items) (hx:items[i]? = none)
  (q:∀ h' e,Heap.ExtBut it s.heap h'->(∃ o,h'.get? e=some o/\o.cls=.type "StopIteration")->E (.ref e) { s with heap:=h' }):wpAny (model prog w) A (Builtin.SmallTypes.nextOf (.ref it)) Q E s:=by
 have j0:=j
 obtain ⟨o,e,c,d⟩:=j
 obtain ⟨oa,ea,_,n,da⟩:=ht
 unfold Builtin.SmallTypes.nextOf
 refine wpAny_bind (wpAny_callSpecial?_slot (name:=Str.ofString "__next__") j0.typeIs F.slot_tuple_iterator_next (wpAny_call_entry F.slot_tuple_iterator_next j0.typeIs F.entry_tuple_iterator_next ?_ (F.args_tuple_iterator_next_1 _)))
 refine (show wpAny _ _ (field (.ref it) 0 >>= _) _ _ s from wpAny_bind (wpAny_field e d (x:=.ref a) rfl ?_))
 refine (show wpAny _ _ (if (Value.ref a == Value.none)=true then _ else _) _ _ s from ?_)
 rw [if_neg (by exact Bool.false_ne_true)]
 refine (show wpAny _ _ (field (.ref it) 1 >>= _) _ _ s from wpAny_bind (wpAny_field e d (x:=.int i 0) rfl ?_))
 refine (show wpAny _ _ (seqItems? (.ref a) >>= _) _ _ s from wpAny_bind (wpAny_seqItems ea da ?_))
 simp only [Int.toNat_natCast,hx]
 refine wpAny_bind (wpAny_rule (wpAny_bind (wpAny_setField e d (by simp) (show wpAny _ _ (newExc (.type "StopIteration") [] >>= _) _ _ _ from wpAny_bind ?_))))
 simp only [newExc,newTuple]
 refine wpAny_bind (wpAny_newObj_type (wpAny_bind (m:=firstArgMember _ _) (wpAny_of_eq (a:=Value.none) (by first | rfl | (simp only [firstArgMember]; rfl)) (wpAny_newObj_type ?_ (by size_fits)))) (by size_fits))
 simp only [raiseNew]
 refine wpAny_bind (wpAny_handled ?_)
 first | rw [show A.in1.handled=none from hh] | rw [hh]
 exact wpAny_bind (wpAny_pure (wpAny_throw (q _ _ (((Heap.SameBut.update ..).extBut.push _).push _) ⟨_,Heap.get?_push_size _ rfl,rfl⟩)))
theorem Pa {z TI TO i1 i2 a1 a2:Addr} {k:Nat} {xs ys:Array Value} {x y a b:Value} {Q:Value->Shared->Prop} (D:ZipApart z TI TO i1 i2 a1 a2)
  (hz:IsZip s.heap z TI TO .none) (hI:IsPair s.heap TI (.ref i1) (.ref i2)) (hO:IsPair s.heap TO a b)
  (j1:s.heap.IsTupleIter i1 a1 k) (j2:s.heap.IsTupleIter i2 a2 k) (t1:s.heap.IsTuple a1 xs) (t2:s.heap.IsTuple a2 ys) (hx:xs[k]? = some x) (hy:ys[k]? = some y)
  (q:∀ h',IsZip h' z TI TO (rawInt s.heap.objs.size)->IsPair h' TO x y->h'.IsTupleIter i1 a1 (k+1)->h'.IsTupleIter i2 a2 (k+1)->IsPair h' s.heap.objs.size x y->h'.objs.size=s.heap.objs.size+1 ->
   (∀ c o,c ≠ z->c ≠ TO->c ≠ i1->c ≠ i2->s.heap.get? c=some o->h'.get? c=some o)->Q (.ref s.heap.objs.size) { s with heap:=h' }) :
  wpAny (model prog w) A (Builtin.«zip.__next__» ⟨[.ref z],[]⟩) (fun fin s'=>∃ v,fin=.done (.ret v)/\Q v s') E s:=by
 refine (show wpAny _ _ (field (.ref z) 2 >>= _) _ _ _ from wpAny_bind (wpAny_field hz rfl (x:=.bool false) rfl (show wpAny _ _ (field (.ref z) 3 >>= _) _ _ _ from wpAny_bind (wpAny_field hz rfl (x:=.ref TI) rfl (wpAny_bind (wpAny_seqItems hI rfl ?_))))))
 refine (show wpAny _ _ (Builtin.SmallTypes.ownedTupleIsFree (.ref z) >>= _) _ _ _ from wpAny_bind ?_)
 unfold Builtin.SmallTypes.ownedTupleIsFree
 refine wpAny_bind (wpAny_field hz rfl (x:=.none) rfl (wpAny_pure ?_))
 simp only [if_true]
 refine wpAny_bind (wpAny_rule (wpAny_bind (wpAny_field hz rfl (x:=.ref TO) rfl (wpAny_bind (wpAny_setField_rec hz (by simp) fun h1 z1 s1=>?_)))))
 have y1:IsZip h1 z TI TO .ellipsis:=z1
 refine wpAny_bind ?_
 simp only [List.zipIdx_cons,List.zipIdx_nil,List.forIn_cons,List.forIn_nil]
 refine wpAny_bind (wpAny_bind (wpAny_onRaise (show wpAny _ _ (Builtin.SmallTypes.nextOf (.ref i1) >>= _) _ _ _ from wpAny_bind (JT (j1.at fun o e=>s1.extBut _ _ D.i1z e) (t1.at fun o e=>s1.extBut _ _ D.l1z e) hx fun h2 n1 s2=>wpAny_pure ?_))))
 have o2:IsPair h2 TO a b:=s2.extBut _ _ D.TOi1 (s1.extBut _ _ D.TOz hO)
 refine wpAny_bind (wpAny_seqItems o2 rfl (wpAny_bind (wpAny_updateSeq_pair o2 fun h3 p3 s3=>?_)))
 have o3:IsPair h3 TO x b:=p3
 refine wpAny_bind (wpAny_letGo (wpAny_pure ?_))
 refine wpAny_bind (wpAny_bind (wpAny_onRaise (show wpAny _ _ (Builtin.SmallTypes.nextOf (.ref i2) >>= _) _ _ _ from wpAny_bind (JT (j2.at fun o e=>s3.extBut _ _ D.TOi2.symm (s2.extBut _ _ D.i12.symm (s1.extBut _ _ D.i2z e)))
  (t2.at fun o e=>s3.extBut _ _ D.l2TO (s2.extBut _ _ D.l2i1 (s1.extBut _ _ D.l2z e))) hy fun h4 n2 s4=>wpAny_pure ?_))))
 have o4:IsPair h4 TO x b:=s4.extBut _ _ D.TOi2 o3
 refine wpAny_bind (wpAny_seqItems o4 rfl (wpAny_bind (wpAny_updateSeq_pair o4 fun h5 p5 s5=>?_)))
 have o5:IsPair h5 TO x y:=p5
 refine wpAny_bind (wpAny_letGo (wpAny_pure (wpAny_pure (wpAny_bind (wpAny_seqItems o5 rfl (wpAny_bind (wpAny_newTuple ?_)))))))
 have zs:h5.objs.size=s.heap.objs.size:=by rw [s5.1,s4.1,s3.1,s2.1,s1.1]
 have y5:IsZip h5 z TI TO .ellipsis:=s5.extBut _ _ D.TOz.symm (s4.extBut _ _ D.i2z.symm (s3.extBut _ _ D.TOz.symm (s2.extBut _ _ D.i1z.symm y1)))
 have k5:∀ c o,c ≠ z->c ≠ TO->c ≠ i1->c ≠ i2->s.heap.get? c=some o->h5.get? c=some o:=fun c o c1 c2 c3 c4 e=>s5.extBut _ _ c2 (s4.extBut _ _ c4 (s3.extBut _ _ c2 (s2.extBut _ _ c3 (s1.extBut _ _ c1 e))))
 have m1:h5.IsTupleIter i1 a1 (k+1):=n1.at fun o e=>s5.extBut _ _ D.TOi1.symm (s4.extBut _ _ D.i12 (s3.extBut _ _ D.TOi1.symm e))
 have m2:h5.IsTupleIter i2 a2 (k+1):=n2.at fun o e=>s5.extBut _ _ D.TOi2.symm e
 have lz:z<h5.objs.size:=Heap.lt_size y5
 refine (show wpAny _ _ (Builtin.SmallTypes.ownedTupleHandOut (.ref z) (.ref h5.objs.size) >>= _) _ _ _ from wpAny_bind ?_)
 unfold Builtin.SmallTypes.ownedTupleHandOut
 have y6:IsZip (h5.push { cls:=.type "tuple",data:=.seq #[x,y] }) z TI TO .ellipsis:=Heap.get?_push_of_some _ y5
 refine wpAny_bind (wpAny_setField_rec y6 (by simp) fun h7 p7 s7=>?_)
 have y7:IsZip h7 z TI TO (rawInt h5.objs.size):=p7
 refine wpAny_setField_rec y7 (by simp) fun h8 p8 s8=>?_
 have y8:IsZip h8 z TI TO (rawInt h5.objs.size):=p8
 have up:∀ c o,c ≠ z->h5.get? c=some o->h8.get? c=some o:=fun c o c1 e=>s8.extBut _ _ c1 (s7.extBut _ _ c1 (Heap.get?_push_of_some _ e))
 have t8:IsPair h8 h5.objs.size x y:=s8.extBut _ _ (Nat.ne_of_gt lz) (s7.extBut _ _ (Nat.ne_of_gt lz) (Heap.get?_push_size _ rfl))
 have z8:h8.objs.size=h5.objs.size+1:=by rw [s8.1,s7.1,Heap.size_push]
 rw [zs] at y8 t8 z8
 refine wpAny_pure ⟨_,rfl,?_⟩
 show Q (.ref h5.objs.size) _
 rw [zs]
 exact q h8 y8 (up _ _ D.TOz o5) (m1.at fun o e=>up _ o D.i1z e) (m2.at fun o e=>up _ o D.i2z e) t8 z8 fun c o c1 c2 c3 c4 e=>up c o c1 (k5 c o c1 c2 c3 c4 e)
theorem Qy {z TI TO i1 i2 a1 a2:Addr} {k:Nat} {xs:Array Value} {a b:Value} {Q:Fin->Shared->Prop} (hh:A.handled=none) (D:ZipApart z TI TO i1 i2 a1 a2)
  (hz:IsZip s.heap z TI TO .none) (hI:IsPair s.heap TI (.ref i1) (.ref i2)) (hO:IsPair s.heap TO a b)
  (j1:s.heap.IsTupleIter i1 a1 k) (t1:s.heap.IsTuple a1 xs) (hx:xs[k]? = none)
  (q:∀ h' e,(∀ c o,c ≠ z->c ≠ TO->c ≠ i1->c ≠ i2->s.heap.get? c=some o->h'.get? c=some o)->(∃ o,h'.get? e=some o/\o.cls=.type "StopIteration")->E (.ref e) { s with heap:=h' }) :
  wpAny (model prog w) A (Builtin.«zip.__next__» ⟨[.ref z],[]⟩) Q E s:=by
 refine (show wpAny _ _ (field (.ref z) 2 >>= _) _ _ _ from wpAny_bind (wpAny_field hz rfl (x:=.bool false) rfl (show wpAny _ _ (field (.ref z) 3 >>= _) _ _ _ from wpAny_bind (wpAny_field hz rfl (x:=.ref TI) rfl (wpAny_bind (wpAny_seqItems hI rfl ?_))))))
 refine (show wpAny _ _ (Builtin.SmallTypes.ownedTupleIsFree (.ref z) >>= _) _ _ _ from wpAny_bind ?_)
 unfold Builtin.SmallTypes.ownedTupleIsFree
 refine wpAny_bind (wpAny_field hz rfl (x:=.none) rfl (wpAny_pure ?_))
 simp only [if_true]
 refine wpAny_bind (wpAny_rule (wpAny_bind (wpAny_field hz rfl (x:=.ref TO) rfl (wpAny_bind (wpAny_setField_rec hz (by simp) fun h1 z1 s1=>?_)))))
 have y1:IsZip h1 z TI TO .ellipsis:=z1
 refine wpAny_bind ?_
 simp only [List.zipIdx_cons,List.zipIdx_nil,List.forIn_cons,List.forIn_nil]
 refine wpAny_bind (wpAny_bind (wpAny_onRaise (show wpAny _ _ (Builtin.SmallTypes.nextOf (.ref i1) >>= _) _ _ _ from wpAny_bind (I_ hh (j1.at fun o e=>s1.extBut _ _ D.i1z e) (t1.at fun o e=>s1.extBut _ _ D.l1z e) hx fun h2 x s2 hx2=>?_))))
 obtain ⟨ox,ex,cx⟩:=hx2
 have y2:IsZip h2 z TI TO .ellipsis:=s2 _ _ D.i1z.symm y1
 have nz:x ≠ z:=fun u=>by subst u; rw [y2] at ex; cases ex; simp at cx
 exact wpAny_setField_rec y2 (by simp) fun h3 _ s3=>q h3 x (fun c o c1 _ c3 _ e=>s3.extBut _ _ c1 (s2 _ _ c3 (s1.extBut _ _ c1 e))) ⟨ox,s3.extBut _ _ nz ex,cx⟩
end
noncomputable abbrev aq (h:Heap) (a1:Addr):Heap:=h.push { cls:=.type "tuple_iterator",data:=.fields #[.ref a1,.int 0 0] }
noncomputable abbrev Z5 (h:Heap) (a1 a2:Addr):Heap:=(aq h a1).push { cls:=.type "tuple_iterator",data:=.fields #[.ref a2,.int 0 0] }
noncomputable abbrev aF (h:Heap) (a1 a2:Addr):Heap:=(Z5 h a1 a2).push { cls:=.type "tuple",data:=.seq #[.ref h.objs.size,.ref (aq h a1).objs.size] }
noncomputable abbrev Z8 (h:Heap) (a1 a2:Addr):Heap:=(aF h a1 a2).push { cls:=.type "tuple",data:=.seq #[.none,.none] }
noncomputable abbrev V9 (h:Heap) (a1 a2:Addr):Heap:=(Z8 h a1 a2).push { cls:=.type "zip",data:=.fields #[.none,.bool false,.bool false,.ref (Z5 h a1 a2).objs.size,.ref (aF h a1 a2).objs.size] }
theorem Ri (a1 a2:Addr) (xs ys:Array Value):Meets (Builtin.«zip.__new__» ⟨[.type "zip",.ref a1,.ref a2],[]⟩) (fun _ R s=>s.heap.IsTuple a1 xs/\s.heap.IsTuple a2 ys /\
   R (.ok (.ret (.ref (Z8 s.heap a1 a2).objs.size))) { s with heap:=V9 s.heap a1 a2 }) :=
 .of_wp fun prog w A R s h=>by
  obtain ⟨hp,g,d,tk,os⟩:=s
  obtain ⟨t1,t2,h⟩:=h
  have hsub:=sub_zip
  have u1:Heap.IsTuple (Shared.heap ⟨hp,g,d,tk,os⟩) a1 xs:=t1
  have u2:Heap.IsTuple (Shared.heap ⟨hp.push { cls:=.type "tuple_iterator",data:=.fields #[.ref a1,.int 0 0] },g,d,tk,os⟩) a2 ys:=Heap.IsTuple.at t2 fun o e=>Heap.get?_push_of_some _ e
  wp_walk using wpAny_pyIter_tuple u1,wpAny_pyIter_tuple u2
  exact ⟨_,rfl,h⟩
section
variable {prog:Program} {w:World} {A:Around} {E:Value->Shared->Prop} {s:Shared}
theorem QF {a1 a2:Addr} {xs ys:Array Value} {Q:Value->Shared->Prop} (t1:s.heap.IsTuple a1 xs) (t2:s.heap.IsTuple a2 ys)
  (q:∀ h' n,n=s.heap.objs.size->IsZip h' (n+4) (n+2) (n+3) .none->IsPair h' (n+2) (.ref n) (.ref (n+1))->IsPair h' (n+3) .none .none->h'.IsTupleIter n a1 0->h'.IsTupleIter (n+1) a2 0->h'.objs.size=n+5 ->
   (∀ c o,s.heap.get? c=some o->h'.get? c=some o)->Q (.ref (n+4)) { s with heap:=h' }):wpAny (model prog w) A (call (.type "zip") [.ref a1,.ref a2]) Q E s:=by
 refine callType_new F.called_zip (by decide) (F.typeCall_zip_2 _ _) (F.newCall_zip_2 _ _) (fun obj=>F.args_object_init_3 obj _ _) F.entry_zip_new (Ri a1 a2 xs ys) ⟨t1,t2,?_⟩
 have z1:(aq s.heap a1).objs.size=s.heap.objs.size+1:=Heap.size_push ..
 have z2:(Z5 s.heap a1 a2).objs.size=s.heap.objs.size+2:=by rw [Heap.size_push,z1]
 have z3:(aF s.heap a1 a2).objs.size=s.heap.objs.size+3:=by rw [Heap.size_push,z2]
 have z4:(Z8 s.heap a1 a2).objs.size=s.heap.objs.size+4:=by rw [Heap.size_push,z3]
 have z5:(V9 s.heap a1 a2).objs.size=s.heap.objs.size+5:=by rw [Heap.size_push,z4]
 have g5:(V9 s.heap a1 a2).get? (Z8 s.heap a1 a2).objs.size=some _:=Heap.get?_push_size _ rfl
 have g4:(V9 s.heap a1 a2).get? (aF s.heap a1 a2).objs.size=some _:=Heap.get?_push_of_some _ (Heap.get?_push_size _ rfl)
 have g3:(V9 s.heap a1 a2).get? (Z5 s.heap a1 a2).objs.size=some _:=Heap.get?_push_of_some _ (Heap.get?_push_of_some _ (Heap.get?_push_size _ rfl))
 have g2:(V9 s.heap a1 a2).get? (aq s.heap a1).objs.size=some _:=Heap.get?_push_of_some _ (Heap.get?_push_of_some _ (Heap.get?_push_of_some _ (Heap.get?_push_size _ rfl)))
 have g1:(V9 s.heap a1 a2).get? s.heap.objs.size=some _:=Heap.get?_push_of_some _ (Heap.get?_push_of_some _ (Heap.get?_push_of_some _ (Heap.get?_push_of_some _ (Heap.get?_push_size _ rfl))))
 refine (show _/\_ from ?_)
 rw [z2,z3,z4] at g5
 rw [z1,z2] at g3
 rw [z3] at g4
 rw [z1] at g2
 rw [z4]
 exact ⟨⟨_,g5,rfl⟩,q _ _ rfl g5 g3 g4 ⟨_,g1,rfl,rfl⟩ ⟨_,g2,rfl,rfl⟩ z5 fun c o e=>Heap.get?_push_of_some _ (Heap.get?_push_of_some _ (Heap.get?_push_of_some _ (Heap.get?_push_of_some _ (Heap.get?_push_of_some _ e))))⟩
end
end L2
namespace L2
open PySem PySem.Spec PyProof.Rows
noncomputable def Ck (env:Env):List (Str × NameKind)->List (Str × Addr)->List (Str × Addr)
 | [],acc=>acc
 | (n,k)::r,acc=>if k == .free then (match env.cells.lookup n with | some a=>Ck env r ((n,a)::acc) | none=>Ck env r acc) else Ck env r acc
theorem HD {scope:Scope} {env:Env} (h:∀ y∈scope.names,y.2=.free->∃ c,env.cells.lookup y.1=some c):closureFor scope env=pure (Ck env scope.names []):=by
 unfold closureFor
 have key:∀ (l:List (Str × NameKind)) (acc:List (Str × Addr)),(∀ y∈l,y.2=.free->∃ c,env.cells.lookup y.1=some c) ->
   (forIn l acc fun (x:Str × NameKind) (cs:List (Str × Addr))=>(match x with | (name,kind)=>if (kind == NameKind.free)=true then (do let a ← cellOf env name; pure (ForInStep.yield ((name,a)::cs))) else pure (ForInStep.yield cs):Sem (ForInStep (List (Str × Addr)))))=(pure (Ck env l acc):Sem _):=by
  intro l
  induction l with
  | nil=>intro acc _; rfl
  | cons x r ih =>
   intro acc hl
   obtain ⟨n,k⟩:=x
   rw [List.forIn_cons]
   unfold Ck
   by_cases hk:(k == NameKind.free)=true
   ·obtain ⟨c,hc⟩:=hl (n,k) List.mem_cons_self (by simpa using hk)
    have hc':env.cells.lookup n=some c:=hc
    have e:cellOf env n=pure c:=by unfold cellOf; rw [hc']
    simp only [hk,if_true,e,hc']
    exact ih _ fun y hy=>hl y (List.mem_cons_of_mem _ hy)
   ·simp only [hk]
    exact ih _ fun y hy=>hl y (List.mem_cons_of_mem _ hy)
 have:=key scope.names [] h
 exact (congrArg (fun (m:Sem (List (Str × Addr)))=>m >>= fun z=>pure z) this).trans rfl
theorem FW (env:Env):∀ (l:List (Str × NameKind)) (acc:List (Str × Addr)) (y:Str) (c:Addr),(Ck env l acc).lookup y=some c->acc.lookup y=some c \/ env.cells.lookup y=some c
 | [],_,_,_,h=>.inl h
 | (n,k)::r,acc,y,c,h=>by
  unfold Ck at h
  split at h
  ·split at h
   ·rename_i a ha
    rcases FW env r _ y c h with z | z
    ·rw [List.lookup_cons] at z
     split at z
     ·rename_i e
      cases z
      have e':y=n:=by simpa using e
      subst e'
      exact .inr ha
     ·exact .inl z
    ·exact .inr z
   ·exact FW env r _ y c h
  ·exact FW env r _ y c h
theorem Gm (env:Env):∀ (l:List (Str × NameKind)) (acc:List (Str × Addr)) (y:Str),(acc.lookup y).isSome=true->((Ck env l acc).lookup y).isSome=true
 | [],_,_,h=>h
 | (n,k)::r,acc,y,h=>by
  unfold Ck
  split
  ·split
   ·refine Gm env r _ y ?_
    rw [List.lookup_cons]
    split
    ·rfl
    ·exact h
   ·exact Gm env r _ y h
  ·exact Gm env r _ y h
theorem Do (env:Env):∀ (l:List (Str × NameKind)) (acc:List (Str × Addr)) (y:Str),(y,NameKind.free)∈l->(env.cells.lookup y).isSome=true->((Ck env l acc).lookup y).isSome=true
 | [],_,_,h,_=>nomatch h
 | (n,k)::r,acc,y,h,hc=>by
  unfold Ck
  rcases List.mem_cons.mp h with e | h
  ·obtain ⟨e1,e2⟩:=Prod.mk.inj e
   subst e1
   subst e2
   rw [if_pos (by decide)]
   split
   ·refine Gm env r _ y ?_
    rw [List.lookup_cons]
    simp
   ·rename_i e
    rw [e] at hc
    cases hc
  ·split
   ·split
    ·exact Do env r _ y h hc
    ·exact Do env r _ y h hc
   ·exact Do env r _ y h hc
end L2
namespace L2
open PySem PySem.Spec PyProof.Rows
noncomputable def Gz (x:Str) (N:List Str):List Str:=N.map fun y=>if y=x then "" else y
noncomputable def Bw (X:Cx) (x:Str) (scope:Scope) (C:Addr) (s₀:Shared) (H₀:Hp) (fp:List Addr):Cx where
 prog:=X.prog
 w:=X.w
 K:=X.K
 mg:=X.mg
 base:=X.base
 A:=X.A
 N:=x::Gz x X.N
 s₀:=s₀
 H₀:=H₀
 env:=compEnvC scope (Ck X.env scope.names []) C X.env
 outer:=X.stack
 stack:=X.stack
 ex:=fp
 fn:=fun _=>false
 calm:=X.calm
 pn:=[]
 xe:=fun _ _=>False
theorem Ed (env:Env) (y:Str):∀ names:List (Str × NameKind),
  (names.map fun (n,k)=>if (k == NameKind.free && env.scope.kind == .function && env.kindOf n == some .cell) then (n,NameKind.cell) else (n,k)).lookup y =
   (names.lookup y).map fun k=>if (k == NameKind.free && env.scope.kind == .function && env.kindOf y == some .cell) then NameKind.cell else k
 | []=>rfl
 | (n,k)::r=>by
  have ih:=Ed env y r
  rw [List.map_cons]
  show List.lookup y ((if (k == NameKind.free && env.scope.kind == .function && env.kindOf n == some .cell)=true then (n,NameKind.cell) else (n,k))::_)=_
  have e0:(if (k == NameKind.free && env.scope.kind == .function && env.kindOf n == some .cell)=true then (n,NameKind.cell) else (n,k))=(n,if (k == NameKind.free && env.scope.kind == .function && env.kindOf n == some .cell)=true then NameKind.cell else k):=by split <;> rfl
  rw [e0,List.lookup_cons,List.lookup_cons]
  cases hx:y == n with
  | true =>
   have e:y=n:=by simpa using hx
   subst e
   rfl
  | false=>exact ih
structure FP (X:Cx) (x:Str) (scope:Scope):Prop where
 kind:scope.kind=.function
 nocell:∀ y∈scope.names,y.2 ≠ .cell
 names:∀ y∈scope.names,y.2=.local->scope.names.lookup y.1=some .local
 loc:scope.names.lookup x=some .local
 free:∀ y∈scope.names,y.2=.free->X.env.kindOf y.1=some .cell \/ X.env.kindOf y.1=some .free
 nd:(x::Gz x X.N).Nodup
 only:∀ y∈Gz x X.N,scope.names.lookup y ≠ some .local
 noE:scope.names.lookup ("" : Str)=none
section
variable {X:Cx} {pins:List (Addr × Obj)} {σ:St} {H:Hp} {s:Shared} {x:Str} {scope:Scope} {fp:List Addr} {C:Addr}
theorem Oa {h':Heap} {tk:Nat} {m:Str->Option Value} (I:Inv X pins σ H s) (S:FP X x scope) (hf:∀ b∈fp,Fj X pins H b) (hlt:∀ b∈fp,b<s.heap.objs.size) (hC:s.heap.objs.size<=C) (hn:h'.Ns C m)
  (hk:∀ b o,s.heap.get? b=some o->h'.get? b=some o):Inv (Bw X x scope C s H fp) [] (none::σ) H { s with heap:=h',toks:=tk }:=by
 have cl:∀ y c,(Ck X.env scope.names []).lookup y=some c->X.env.cells.lookup y=some c:=fun y c e=>by
  rcases FW X.env scope.names [] y c e with z | z
  ·cases z
  ·exact z
 have cellK:∀ c v,s.heap.IsCell c v->h'.IsCell c v:=fun c v ⟨o,ho,hd⟩=>⟨o,hk c o ho,hd⟩
 have look:∀ y,(Bw X x scope C s H fp).env.scope.names.lookup y=(scope.names.lookup y).map fun k=>if (k == NameKind.free && X.env.scope.kind == .function && X.env.kindOf y == some .cell) then NameKind.cell else k:=fun y=>Ed X.env y scope.names
 refine ⟨⟨I.ok.mod,S.kind,I.ok.glob,I.ok.blt,hC,fun y z c e1 e2=>I.ok.inj y z c (cl y c e1) (cl z c e2),fun y hy=>?_,fun y c e _=>(by cases e),fun h=>I.ok.hd h,I.ok.frames,.inl rfl,fun b hb=>?_,I.bs,Nat.le_trans I.ok.bsz I.sz,fun b o e hb=>?_,fun b hb hb'=>?_,I.stack,I.KY⟩,
  rfl,I.bare,Un.kept hk,⟨m,hn,fun i y v h1 h2 h3=>?_⟩,fun y c e=>?_,I.hok.fresh hC,fun y c e=>I.freeC y c (cl y c e),fun p hp=>absurd (show p∈([]:List (Addr × Obj)) from hp) (by simp),I.hok.kept hk,?_⟩
 ·-- every cell of the block is there
  have hy':(Bw X x scope C s H fp).env.scope.names.lookup y=some .cell \/ (Bw X x scope C s H fp).env.scope.names.lookup y=some .free:=hy
  rw [look y] at hy'
  cases e:scope.names.lookup y with
  | none=>rw [e] at hy'; rcases hy' with z | z <;> cases z
  | some k =>
   have hm:=PySem.mem_of_lookup e
   have hfree:k=.free:=by
    rw [e] at hy'
    cases k with
    | free=>rfl
    | cell=>exact absurd rfl (S.nocell _ hm)
    | _=>rcases hy' with z | z <;> simp at z
   subst hfree
   obtain ⟨c,hc⟩:=I.ok.has y (S.free _ hm rfl)
   exact Option.isSome_iff_exists.mp (Do X.env scope.names [] y hm (by rw [hc]; rfl))
 ·obtain ⟨f0,f1,f2,f3,f4,f5⟩:=hf b hb
  exact ⟨Nat.ne_of_lt (Nat.lt_of_lt_of_le (hlt b hb) hC),fun y c e=>f4 y c (cl y c e)⟩
 ·obtain ⟨f0,f1,f2,f3,f4,f5⟩:=hf b hb
  rcases f3 with z | z
  ·exact I.ok.noex b o e z
  ·exact absurd (Nat.lt_of_lt_of_le (Heap.lt_size e) (Nat.le_trans I.ok.bsz z)) (Nat.lt_irrefl _)
 ·obtain ⟨f0,f1,f2,f3,f4,f5⟩:=hf b hb
  rcases List.mem_cons.mp (I.Kq b hb') with e | e
  ·exact f1 e
  ·exact f2 e
 ·cases i with
  | zero =>
   have h2':(some none:Option (Option V))=some (some v):=h2
   cases h2'
  | succ i =>
   have h1':(Gz x X.N)[i]? = some y:=h1
   have h2':σ[i]? = some (some v):=h2
   have hmem:y∈Gz x X.N:=List.mem_of_getElem? h1'
   unfold Gz at h1'
   rw [List.getElem?_map] at h1'
   cases e0:X.N[i]? with
   | none=>rw [e0] at h1'; cases h1'
   | some y0 =>
    rw [e0] at h1'
    have h1'':(if y0=x then ("" : Str) else y0)=y:=Option.some.inj h1'
    have h3':(Bw X x scope C s H fp).env.scope.names.lookup y=some .local \/ (Bw X x scope C s H fp).env.scope.names.lookup y=some .cell \/ (Bw X x scope C s H fp).env.scope.names.lookup y=some .free:=h3
    rw [look y] at h3'
    have hy0:y0=y:=by
     by_cases q:y0=x
     ·rw [if_pos q] at h1''
      rw [← h1'',S.noE] at h3'
      rcases h3' with z | z | z <;> cases z
     ·rw [if_neg q] at h1''
      exact h1''
    subst hy0
    cases e:scope.names.lookup y0 with
    | none=>rw [e] at h3'; rcases h3' with z | z | z <;> cases z
    | some k =>
     have hm:=PySem.mem_of_lookup e
     have hfree:k=.free:=by
      rw [e] at h3'
      cases k with
      | free=>rfl
      | cell=>exact absurd rfl (S.nocell _ hm)
      | «local»=>exact absurd e (S.only y0 hmem)
      | _=>rcases h3' with z | z | z <;> simp at z
     subst hfree
     have kd:=S.free _ hm rfl
     obtain ⟨m0,hn0,hl0⟩:=I.loc
     obtain ⟨u,r,l⟩:=hl0 i y0 v e0 h2' (by rcases kd with z | z; exact .inr (.inl z); exact .inr (.inr z))
     refine ⟨u,r,.inr ⟨?_,?_⟩⟩
     ·have hk':(Bw X x scope C s H fp).env.scope.names.lookup y0=some (if (NameKind.free == NameKind.free && X.env.scope.kind == .function && X.env.kindOf y0 == some .cell) then NameKind.cell else NameKind.free):=by
       rw [look y0,e]; rfl
      by_cases c:(NameKind.free == NameKind.free && X.env.scope.kind == .function && X.env.kindOf y0 == some .cell)=true
      ·rw [if_pos c] at hk'; exact .inl hk'
      ·rw [if_neg c] at hk'; exact .inr hk'
     ·rcases l with ⟨lk,_⟩ | ⟨_,c,hc,hcell⟩
      ·exfalso
       rcases kd with z | z <;> (rw [show X.env.kindOf y0=some NameKind.local from lk] at z; cases z)
      ·obtain ⟨c',hc'⟩:=Option.isSome_iff_exists.mp (Do X.env scope.names [] y0 hm (by rw [hc]; rfl))
       have:=cl y0 c' hc'
       rw [hc] at this
       cases this
       exact ⟨c,hc',cellK c _ hcell⟩
 ·obtain ⟨v,z⟩:=I.cell y c (cl y c e)
  exact ⟨v,cellK c v z⟩
 ·show (none::σ).length=(x::Gz x X.N).length
  simp [Gz,I.len]
end
noncomputable def Lg (X:Cx) (ifs:List Expr) (t:TT):Prop :=
 ∀ (pins:List (Addr × Obj)) (s:Shared) (σ:St) (H:Hp) (Q:Bool->Hp->Prop),Inv X pins σ H s->t σ H Q ->
  wpAny (model X.prog X.w) X.A (forIn ifs true fun c r=>if r=true then do let ok ← isTrue c X.env (eval c X.env); pure (ForInStep.yield ok) else pure (ForInStep.yield r)) (TP X pins σ Q) X.xe s
noncomputable def UL:TT:=fun _ H Q=>Q true H
theorem CK {X:Cx}:Lg X [] UL:=fun _ _ _ H _ I h=>wpAny_tests_nil ⟨H,I,h⟩
theorem Kr {X:Cx} {c:Expr} {t:TT} (h:PT X c t):Lg X [c] t:=fun pins s σ H Q I q=>wpAny_tests_one (h pins s σ H Q I q)
noncomputable def Fp (J:It) (σ:St) (H1:Hp) (Q:VK) (tt:TT) (te:TE):Prop:=∀ D,H1 D=none->∃ W:Nat->Nat->List V->Hp->Prop,(∃ m,W 0 m [] (upd H1 D (.lst [])))/\∀ i m ys H2,W i m ys H2 ->
 (J.stop i H2/\Q (.ref D) H2) \/ (J.go i H2/\∀ x H3,J.yld i H2 x H3->tt (some x::σ) H3 fun b H4 =>
  if b=true then te (some x::σ) H4 fun y H5=>H5 D=some (.lst ys)/\ys.length<sizeLine/\∃ m',m'<m/\W (i+1) m' (ys++[y]) (upd H5 D (.lst (ys++[y])))
  else ∃ m',m'<m/\W (i+1) m' ys H4)
noncomputable def U9 (wi:TI) (tt:TT) (te:TE):TE:=fun σ H Q=>wi σ H fun J H1=>Fp J σ H1 Q tt te
theorem M7 {α:Type} {t:Sem α} {Q Q':α->Shared->Prop} {M:Model} {A:Around} {E:Value->Shared->Prop} {s:Shared} (h:wpAny M A t Q (fun _ _=>False) s) (hQ:∀ a s,Q a s->Q' a s):wpAny M A t Q' E s:=wpAny_mono h hQ fun _ _ x=>x.elim
theorem Inv.sameBut {X:Cx} {pins:List (Addr × Obj)} {σ:St} {H:Hp} {s:Shared} {h':Heap} {C:Addr} (I:Inv X pins σ H s) (f:Fj X pins H C) (sb:Heap.SameBut C s.heap h'):Inv X pins σ H { s with heap:=h' } :=
 I.turned (t':=s.toks) (fun b o hb e=>(sb.2 b hb).trans e) f.1 f.2.1 f.2.2.2.1 f.2.2.2.2.1 f.2.2.2.2.2
section
variable {X:Cx} {x:Str} {scope:Scope}
theorem Jf {px pos:Pos} {iter elt:Expr} {ifs:List Expr} {tt:TT} {te:TE} {pins:List (Addr × Obj)} {σ:St} {s2:Shared} {H2:Hp} {it:Addr} {fp:List Addr} {tn:Nat->Heap->Prop} {J:It} {E:Value->Shared->Prop}
  {RR:Value->Addr->Result->Shared->Prop} {Q:VK}
  (hc:X.calm=true) (S:FP X x scope) (ht:∀ C s₀ H₀ fp,Lg (Bw X x scope C s₀ H₀ fp) ifs tt) (he:∀ C s₀ H₀ fp,PE (Bw X x scope C s₀ H₀ fp) elt te)
  (I2:Inv X pins σ H2 s2) (T:Turn X.prog X.w X.K (.Name x px) J fp it tn) (st2:tn 0 s2.heap) (f2:∀ b∈fp,Fj X pins H2 b)
  (q:∀ D,H2 D=none->∃ W:Nat->Nat->List V->Hp->Prop,(∃ m,W 0 m [] (upd H2 D (.lst [])))/\∀ i m ys H2,W i m ys H2 ->
   (J.stop i H2/\Q (.ref D) H2) \/ (J.go i H2/\∀ x H3,J.yld i H2 x H3->tt (some x::σ) H3 fun b H4 =>
    if b=true then te (some x::σ) H4 fun y H5=>H5 D=some (.lst ys)/\ys.length<sizeLine/\∃ m',m'<m/\W (i+1) m' (ys++[y]) (upd H5 D (.lst (ys++[y])))
    else ∃ m',m'<m/\W (i+1) m' ys H4))
  (hRR:∀ D C s' H' m,s'.heap.Ns C m->Fj X pins H' C->Inv X pins σ H' s'->Q (.ref D) H'->RR (.ref D) C (.ok .next) s') :
  wpAny (model X.prog X.w) X.A (newList []) (fun acc s₃=>wpAny (model X.prog X.w) X.A (newFunctionEnv scope X.env.globals (Ck X.env scope.names []) [] X.env.qual none .none (some X.env)) (fun cenv s₄ =>
   codeAny (model X.prog X.w) X.A (.compStart (.ListComp elt [⟨.Name x px,iter,ifs,0⟩] scope pos) 0 (.ref it) acc { cenv with scope:=relabel scope X.env }) (RR acc cenv.locals) s₄) E s₃) E s2:=by
 refine wpAny_newObj_type (wpAny_newFunctionEnv S.nocell (by intro y hy; simp at hy) (fun h₁ hns₁ hsb₁=>?_) S.kind)
 have I3:=I2.Rb (its:=[]) (ys:=[]) (t':=s2.toks) .nil (Nat.zero_le _)
 have hD0:H2 s2.heap.objs.size=none:=I2.fresh
 obtain ⟨W,⟨m0,w0⟩,turn⟩:=q _ hD0
 generalize hs3:({ s2 with heap:=s2.heap.push { cls:=.type "list",data:=.seq ([]:List Value).toArray },toks:=s2.toks }:Shared)=s3 at I3
 have e3:s3.heap=s2.heap.push { cls:=.type "list",data:=.seq ([]:List Value).toArray }:=by rw [← hs3]
 have hlt:∀ b∈fp,b<s2.heap.objs.size:=fun b hb=>let ⟨_,e,_⟩:=T.obj _ _ st2 b hb; Heap.lt_size e
 have hlt3:∀ b∈fp,b<s3.heap.objs.size:=fun b hb=>by rw [e3,Heap.size_push]; exact Nat.lt_succ_of_lt (hlt b hb)
 have f3:∀ b∈fp,Fj X pins (upd H2 s2.heap.objs.size (.lst [])) b:=fun b hb=>⟨by rw [An (Nat.ne_of_lt (hlt b hb))]; exact (f2 b hb).1,(f2 b hb).2⟩
 have hk1:∀ b o,s3.heap.get? b=some o->h₁.get? b=some o:=fun b o e=>by
  have hne:b ≠ s3.heap.objs.size:=Nat.ne_of_lt (Heap.lt_size e)
  rw [e3] at e hne
  exact hsb₁.extBut b o hne (Heap.get?_push_of_some _ e)
 have hC:s3.heap.objs.size=(s2.heap.push { cls:=.type "list",data:=.seq ([]:List Value).toArray }).objs.size:=by rw [e3]
 have hns:h₁.Ns s3.heap.objs.size (fun x=>([]:List (Str × Value)).reverse.lookup x):=by rw [hC]; exact hns₁
 have st3:tn 0 h₁:=T.keep _ _ _ st2 fun b hb o e=>hk1 b o (by rw [e3]; exact Heap.get?_push_of_some _ e)
 have hDC:s2.heap.objs.size ≠ s3.heap.objs.size:=by rw [e3,Heap.size_push]; exact Nat.ne_of_lt (Nat.lt_succ_self _)
 have start:∀ tk,Inv (Bw X x scope s3.heap.objs.size s3 (upd H2 s2.heap.objs.size (.lst [])) fp) [] (none::σ) (upd H2 s2.heap.objs.size (.lst [])) { s3 with heap:=h₁,toks:=tk }:=fun tk =>
  Oa I3 S f3 hlt3 (Nat.le_refl _) hns hk1
 generalize hX:Bw X x scope s3.heap.objs.size s3 (upd H2 s2.heap.objs.size (.lst [])) fp=X' at start
 have eA:X'.A=X.A:=by rw [← hX]; rfl
 have eP:X'.prog=X.prog:=by rw [← hX]; rfl
 have eW:X'.w=X.w:=by rw [← hX]; rfl
 have eK:X'.K=X.K:=by rw [← hX]; rfl
 have eC:X'.env.locals=s3.heap.objs.size:=by rw [← hX]; rfl
 have loop:∀ tk,codeAny (model X.prog X.w) X.A (.compLoop (.ListComp elt [⟨.Name x px,iter,ifs,0⟩] scope pos) 0 (.ref it) (.ref s2.heap.objs.size) (compEnvC scope (Ck X.env scope.names []) s3.heap.objs.size X.env))
   (RR (.ref s2.heap.objs.size) s3.heap.objs.size) { s3 with heap:=h₁,toks:=tk }:=by
  intro tk
  subst hX
  refine codeAny_compLoop_tests (fun n s'=>∃ i ys v0 H',Inv (Bw X x scope s3.heap.objs.size s3 (upd H2 s2.heap.objs.size (.lst [])) fp) [] (v0::σ) H' s'/\tn i s'.heap/\(∀ b∈fp,H' b=none)/\W i n ys H') ?_ m0
   ⟨0,[],none,_,start tk,st3,fun b hb=>(f3 b hb).1,w0⟩
  rintro n s4 ⟨i,ys,v0,H4,I4,st4,fr4,w4⟩
  have stat:∀ {H':Hp},(∀ b∈fp,H' b=none)->∀ b∈fp,Fj (Bw X x scope s3.heap.objs.size s3 (upd H2 s2.heap.objs.size (.lst [])) fp) [] H' b:=fun hn b hb=>by
   refine ⟨hn b hb,(I4.ok.exf b hb).1,I4.ok.exfs b hb,.inl hb,(I4.ok.exf b hb).2,fun p hp=>absurd (show p∈([]:List (Addr × Obj)) from hp) (by simp)⟩
  rcases turn i n ys H4 w4 with ⟨stop,qn⟩ | ⟨go,step⟩
  ·refine CG (T.done (Bw X x scope s3.heap.objs.size s3 (upd H2 s2.heap.objs.size (.lst [])) fp) rfl rfl rfl hc i [] s4 (v0::σ) H4 _ I4 (stat fr4) st4 stop) fun r s5 ⟨hr,I5⟩=>?_
   subst hr
   obtain ⟨m,hn,_⟩:=I5.loc
   refine hRR _ _ s5 H4 m hn (I3.Kf (Nat.le_refl _) I5.free) (I3.call' (s':=s5) (ch:=fp) I5.os I5.base I5.hok I5.bare (fun b hb=>?_)) qn
   obtain ⟨_,g1,_,g3,g4,g5⟩:=f3 b hb
   exact ⟨g3,g1,g4,g5⟩
  ·refine CG (T.item (Bw X x scope s3.heap.objs.size s3 (upd H2 s2.heap.objs.size (.lst [])) fp) rfl rfl rfl hc i [] s4 (v0::σ) H4 _ I4 (stat fr4) st4 go) fun r s5 ⟨u,hr,h5⟩=>?_
   subst hr
   intro Γ p hΓ
   obtain ⟨xv,H6,I6,r6,y6,st6,fr6⟩:=h5 Γ p hΓ
   refine (?_:wpAny _ _ _ _ _ _) Γ p hΓ
   have I6':=I6.pinned (stat fr6) (T.obj _ _ st6)
   have hloc:(Bw X x scope s3.heap.objs.size s3 (upd H2 s2.heap.objs.size (.lst [])) fp).env.scope.names.lookup x=some .local:=lookup_relabel_local S.loc
   have again:∀ {s7:Shared} {H7:Hp} {ys':List V},Inv (Bw X x scope s3.heap.objs.size s3 (upd H2 s2.heap.objs.size (.lst [])) fp) ([]++Hq fp s5.heap) (some xv::σ) H7 s7->(∃ m',m'<n/\W (i+1) m' ys' H7) ->
     ∃ m,m<n/\∃ i ys v0 H',Inv (Bw X x scope s3.heap.objs.size s3 (upd H2 s2.heap.objs.size (.lst [])) fp) [] (v0::σ) H' s7/\tn i s7.heap/\(∀ b∈fp,H' b=none)/\W i m ys H':=fun {s7 H7 ys'} I7 hw=>by
    obtain ⟨m',hm,w7⟩:=hw
    refine ⟨m',hm,i+1,ys',some xv,H7,I7.Ge,T.keep _ _ _ st6 fun b hb o e=>(I7.pin (b,o) (List.mem_append_right _ (List.mem_append_right _ (Dq hb e)))).1,fun b hb=>?_,w7⟩
    obtain ⟨o,e,d⟩:=T.obj _ _ st6 b hb
    exact (I7.pin (b,o) (List.mem_append_right _ (List.mem_append_right _ (Dq hb e)))).2.1
   refine wpAny_assign_Name (JX (X:=Bw X x scope s3.heap.objs.size s3 (upd H2 s2.heap.objs.size (.lst [])) fp) (i:=0) I6' S.nd rfl (.inl hloc) r6 (fun s7 I7=>?_) (.inr hloc))
   refine M7 (ht _ _ _ _ _ s7 (some xv::σ) H6 _ I7 (step xv H6 y6)) fun b s8 hq0=>?_
   obtain ⟨H8,I8,q8⟩:=hq0
   cases b with
   | false =>
    rw [if_neg Bool.false_ne_true] at q8 ⊢
    exact again I8 q8
   | true =>
    rw [if_pos rfl] at q8 ⊢
    refine M7 (he _ _ _ _ _ s8 (some xv::σ) H8 _ I8 q8) fun y s9 hq0=>?_
    obtain ⟨yv,H9,I9,r9,hD9,hz9,q9⟩:=hq0
    refine M7 (Bp (X:=Bw X x scope s3.heap.objs.size s3 (upd H2 s2.heap.objs.size (.lst [])) fp) _ s9 (some xv::σ) H9 (.ref s2.heap.objs.size) [yv] (.ref s2.heap.objs.size) [y] (fun _ H'=>H'=upd H9 s2.heap.objs.size (.lst (ys++[yv]))) I9 rfl (.cons r9 .nil)
     ⟨_,ys,yv,rfl,rfl,hD9,hz9,rfl⟩) fun _ s10 ⟨_,H10,I10,_,e10⟩=>?_
    subst e10
    exact again I10 q9
 have key:=fun tk=>codeAny_compStart_list (R:=RR (.ref s2.heap.objs.size) s3.heap.objs.size) (loop tk) (T.self X.A 0 { s3 with heap:=h₁,toks:=tk } (fun it' s'=>codeAny (model X.prog X.w) X.A (.compLoop (.ListComp elt [⟨.Name x px,iter,ifs,0⟩] scope pos) 0 it' (.ref s2.heap.objs.size) (compEnvC scope (Ck X.env scope.names []) s3.heap.objs.size X.env)) (RR (.ref s2.heap.objs.size) s3.heap.objs.size) s') _ st3 (loop tk))
 subst hs3
 exact key _
theorem Bm {px pos:Pos} {iter elt:Expr} {ifs:List Expr} {wi:TI} {tt:TT} {te:TE} (hc:X.calm=true) (S:FP X x scope) (hi:PI X (.Name x px) iter wi)
  (ht:∀ C s₀ H₀ fp,Lg (Bw X x scope C s₀ H₀ fp) ifs tt) (he:∀ C s₀ H₀ fp,PE (Bw X x scope C s₀ H₀ fp) elt te) (hs:∀ x,foldedSetIterable iter X.env x=pure x:=by intro _; rfl) :
  PE X (.ListComp elt [⟨.Name x px,iter,ifs,0⟩] scope pos) (U9 wi tt te):=by
 intro pins s σ H Q I h
 rw [eval_ListComp]
 refine wpAny_comprehension_free (use:=none) (cl:=Ck X.env scope.names []) rfl hs (HD fun y hy hk=>I.ok.has y.1 (S.free y hy hk)) S.kind S.names (CG (hi pins s σ H _ I h) fun v s1 h1=>CG h1 fun itv s2 h2=>?_)
 refine byC fun w_=>?_;obtain ⟨it,fp,tn,J,H2,e,I2,T,st2,f2,q⟩:=h2;refine w_ ?_
 subst e
 refine Jf (RR:=fun acc C=>compPost (model X.prog X.w) X.A X.xe none (EP X pins σ Q) acc C) (Q:=Q) hc S ht he I2 T st2 f2 q ?_
 intro D C s' H' m hn hf hI hq
 exact ⟨m,hn,fun h' sb=>⟨.ref D,H',hI.sameBut hf sb,rfl,hq⟩⟩
theorem Uz {i:Nat} {y:Str} {px py pos spos:Pos} {iter elt:Expr} {ifs:List Expr} {wi:TI} {tt:TT} {te:TE} (hN:X.N.Nodup) (hi':X.N[i]? = some y) (hy:X.env.scope.names.lookup y=some .local) (hc:X.calm=true) (S:FP X x scope) (hi:PI X (.Name x px) iter wi)
  (ht:∀ C s₀ H₀ fp,Lg (Bw X x scope C s₀ H₀ fp) ifs tt) (he:∀ C s₀ H₀ fp,PE (Bw X x scope C s₀ H₀ fp) elt te) (hsw:swapsWith (.ListComp elt [⟨.Name x px,iter,ifs,0⟩] scope pos) (some (.Name y py)) spos.line X.env=pure true:=by rfl) (hs:∀ x,foldedSetIterable iter X.env x=pure x:=by intro _; rfl) :
  PS X (.Assign [.Name y py] (.ListComp elt [⟨.Name x px,iter,ifs,0⟩] scope pos) spos) (V6 (U9 wi tt te) (DR i)):=by
 intro pins s σ H D' I h
 rw [exec_Assign_Name_used _ _ _ _ hsw]
 refine wpAny_bind (wpAny_standAt (wpAny_bind ?_))
 show wpAny _ X.A (do let _ ← comprehension (.ListComp elt [⟨.Name x px,iter,ifs,0⟩] scope pos) scope X.env _ (newList []) false (eval iter X.env) (some (assign (.Name y py) X.env))) _ _ s
 refine wpAny_bind (wpAny_mono (wpAny_comprehension_free (use:=some (assign (.Name y py) X.env)) (cl:=Ck X.env scope.names []) (Q:=fun _ s'=>SP X pins D' .next s') rfl hs (HD fun y hy hk=>I.ok.has y.1 (S.free y hy hk)) S.kind S.names
  (CG (hi pins s σ H _ I h) fun v s1 h1=>CG h1 fun itv s2 h2=>?_)) (fun _ s' hq=>wpAny_pure (wpAny_pure hq)) fun _ _ e=>e)
 refine byC fun w_=>?_;obtain ⟨it,fp,tn,J,H2,e,I2,T,st2,f2,q⟩:=h2;refine w_ ?_
 subst e
 refine Jf (RR:=fun acc C=>compPost (model X.prog X.w) X.A X.xe (some (assign (.Name y py) X.env)) (fun _ s'=>SP X pins D' .next s') acc C) (Q:=fun x H1=>DR i x σ H1 D'.nx) hc S ht he I2 T st2 f2 q ?_
 intro D C s' H' m hn hf hI hq
 show wpAny _ X.A (assign (.Name y py) X.env (.ref D)) _ _ _
 refine wpAny_assign_Name (Jy hI hN hi' (.inl hy) (v:=.ref D) rfl (fun s6 I6 hch=>?_) (.inr hy))
 obtain ⟨a,sb,ha⟩:=hch
 have hCa:C ≠ a:=by
  rcases ha with z | z
  ·rw [z]; exact hf.2.1
  ·exact Ne.symm (hf.2.2.2.2.1 y a z)
 exact ⟨m,hn.sameBut sb hCa,fun h' sb'=>⟨_,H',I6.sameBut hf sb',hq⟩⟩
end
end L2
namespace L2
open PySem PySem.Spec PyProof.Rows
section
variable {σ:St} {H1:Hp} {Q:VK} {tt:TT} {te:TE}
theorem GZ {J:It} {xs:List V} (p:V->Bool) (f:V->V) (hz:xs.length<sizeLine)
  (hgo:∀ i H x,Ao H1 H->xs[i]? = some x->J.go i H) (hy:∀ i H y H',Ao H1 H->i<xs.length->J.yld i H y H'->H'=H/\xs[i]? = some y) (hstop:∀ H,Ao H1 H->J.stop xs.length H)
  (ht:∀ x∈xs,∀ H,Ao H1 H->∀ R:Bool->Hp->Prop,(∀ H',Ao H H'->R (p x) H')->tt (some x::σ) H R)
  (he:∀ x∈xs,p x=true->∀ H,Ao H1 H->∀ R:VK,(∀ H',Ao H H'->R (f x) H')->te (some x::σ) H R)
  (hq:∀ D H,H1 D=none->Ao H1 H->H D=some (.lst ((xs.filter p).map f))->Q (.ref D) H):Fp J σ H1 Q tt te:=by
 intro D hD
 have s0:Ao H1 (upd H1 D (.lst [])):=fun b o e=>by rw [An (Al e hD)]; exact e
 refine ⟨fun i m ys H=>m=xs.length - i/\i<=xs.length/\ys=((xs.take i).filter p).map f/\H D=some (.lst ys)/\Ao H1 H,⟨xs.length,by simp,Nat.zero_le _,by simp,Ah,s0⟩,?_⟩
 rintro i m ys H ⟨rfl,hi,rfl,hd,hs⟩
 by_cases hlt:i<xs.length
 ·obtain ⟨x,hx⟩:∃ x,xs[i]? = some x:=⟨xs[i],by simp [hlt]⟩
  refine .inr ⟨hgo i H x hs hx,fun y H3 hyl=>?_⟩
  obtain ⟨rfl,hy'⟩:=hy i H y H3 hs hlt hyl
  rw [hx] at hy'
  cases hy'
  have hm:x∈xs:=List.mem_of_getElem? hx
  have hlen:(((xs.take i).filter p).map f).length<sizeLine:=by
   rw [List.length_map]
   refine Nat.lt_of_le_of_lt (List.length_filter_le _ _) (Nat.lt_of_le_of_lt ?_ hz)
   rw [List.length_take]; omega
  refine ht x hm _ hs _ fun H4 s4=>?_
  by_cases hp:p x=true
  ·rw [if_pos hp]
   refine he x hm hp H4 (hs.trans s4) _ fun H5 s5=>?_
   refine ⟨s5 _ _ (s4 _ _ hd),hlen,xs.length - (i+1),by omega,rfl,hlt,?_,Ah,fun b o e=>?_⟩
   ·rw [take_succ_filter p xs i x hx,if_pos hp,List.map_append]; rfl
   ·rw [An (Al e hD)]; exact s5 _ _ (s4 _ _ (hs _ _ e))
  ·rw [if_neg hp]
   refine ⟨xs.length - (i+1),by omega,rfl,hlt,?_,s4 _ _ hd,hs.trans s4⟩
   rw [take_succ_filter p xs i x hx,if_neg hp,List.append_nil]
 ·have e:i=xs.length:=by omega
  subst e
  rw [List.take_length] at hd
  exact .inl ⟨hstop H hs,hq D H hD hs hd⟩
theorem My {lo:Int} {n:Nat} (p:Int->Bool) (f:Int->V) (hz:n<sizeLine)
  (ht:∀ i:Nat,i<n->∀ H,Ao H1 H->∀ R:Bool->Hp->Prop,(∀ H',Ao H H'->R (p (lo+i)) H')->tt (some (.int (lo+i))::σ) H R)
  (he:∀ i:Nat,i<n->p (lo+i)=true->∀ H,Ao H1 H->∀ R:VK,(∀ H',Ao H H'->R (f (lo+i)) H')->te (some (.int (lo+i))::σ) H R)
  (hq:∀ D H,H1 D=none->Ao H1 H->H D=some (.lst ((((List.range n).map fun (i:Nat)=>lo+(i:Int)).filter p).map f))->Q (.ref D) H):Fp (VF lo n) σ H1 Q tt te:=by
 let g:V->Int:=fun v=>match v with | .int i=>i | _=>0
 have hxs:∀ i:Nat,i<n->((List.range n).map fun (i:Nat)=>V.int (lo+(i:Int)))[i]? = some (.int (lo+i)):=fun i hi=>by simp [hi]
 refine GZ (xs:=(List.range n).map fun (i:Nat)=>V.int (lo+(i:Int))) (fun v=>p (g v)) (fun v=>f (g v)) (by simpa using hz) (fun i H x _ hx=>?_) (fun i H y H' _ hi hy=>?_) (fun H _=>?_) (fun x hx=>?_) (fun x hx=>?_) (fun D H h1 h2 h3=>?_)
 ·have:i<((List.range n).map fun (i:Nat)=>V.int (lo+(i:Int))).length:=(List.getElem?_eq_some_iff.mp hx).1
  show i<n
  simpa using this
 ·have hi':i<n:=by simpa using hi
  obtain ⟨e1,e2⟩:=hy
  subst e2
  exact ⟨e1,hxs i hi'⟩
 ·show n<=_
  simp
 ·obtain ⟨i,hi,rfl⟩:=List.mem_map.mp hx
  exact ht i (List.mem_range.mp hi)
 ·obtain ⟨i,hi,rfl⟩:=List.mem_map.mp hx
  exact he i (List.mem_range.mp hi)
 ·refine hq D H h1 h2 ?_
  rw [h3,List.filter_map,List.map_map,List.filter_map,List.map_map]
  rfl
noncomputable def aa (z:Str):It:=⟨fun i _=>i<z.cps.size,fun i H x H'=>H'=H/\∃ c,z.cps[i]? = some c/\x=.str ⟨#[c]⟩,fun i _=>z.cps.size<=i⟩
theorem RD {P:Program} {w:World} {K:PySem.W.Frag} {tg:Expr} {z:Str} {t0:Tok} {it:Addr} {ty:String} (hty:ty = "str_ascii_iterator" \/ ty = "str_iterator"):Turn P w K tg (aa z) [it] it (fun i h=>h.IsStrIter it ty z t0 i) where
 mem:=by simp
 obj:=fun i h st b hb=>by
  have e:b=it:=by simpa using hb
  subst e
  obtain ⟨o,ho,hc,hd⟩:=st
  exact ⟨o,ho,fun v q=>by rw [hd] at q; cases q⟩
 keep:=fun i h h' st k=>let ⟨o,ho,r⟩:=st; ⟨o,k it (by simp) o ho,r⟩
 item:=by
  intro X hP hw hK hc i pins s σ H E I hf st hg
  subst hP hw hK
  obtain ⟨f0,f1,f2,f3,f4,f5⟩:=hf it (by simp)
  have hg':i<z.cps.size:=hg
  have hx:z.cps[i]? = some z.cps[i]:=Array.getElem?_eq_getElem hg'
  have fin:∀ h',h'.IsStrIter it ty z t0 (i+1)->Heap.SameBut it s.heap h'->∃ u,some (Value.str ⟨#[z.cps[i]]⟩ s.toks)=some u /\
    wpAny (model X.prog X.w) X.A (letOwnedTupleGo tg (.ref it) u) (fun _ s2=>∃ x H',Inv X pins σ H' s2/\RelV x u/\(aa z).yld i H x H'/\s2.heap.IsStrIter it ty z t0 (i+1)/\∀ b∈[it],H' b=none) E { s with heap:=h',toks:=s.toks+1 }:=fun h' st' sb=>by
   have I1:Inv X pins σ H { s with heap:=h',toks:=s.toks+1 }:=I.turned (fun b o hb e=>(sb.2 b hb).trans e) f0 f1 f3 f4 f5
   obtain ⟨o,e,c,d⟩:=id st'
   refine ⟨_,rfl,Mj (s:={ s with heap:=h',toks:=s.toks+1 }) e c d (by rcases hty with rfl | rfl <;> decide) ⟨.str ⟨#[z.cps[i]]⟩,H,I1,⟨_,rfl⟩,⟨rfl,_,hx,rfl⟩,st',fun b hb=>(hf b hb).1⟩⟩
  rcases hty with rfl | rfl
  ·exact wpAny_pyNext_ascii_item st hx fin
  ·exact wpAny_pyNext_wide_item st hx fin
 done:=by
  intro X hP hw hK hc i pins s σ H E I hf st hg
  subst hP hw hK
  obtain ⟨f0,f1,f2,f3,f4,f5⟩:=hf it (by simp)
  have hx:z.cps[i]? = none:=by
   have hg':z.cps.size<=i:=hg
   simpa using hg'
  rcases hty with rfl | rfl
  ·exact wpAny_pyNext_ascii_end (I.ok.hd hc) st hx fun h' eb=>⟨rfl,I.turned (t':=s.toks) (fun b o hb e=>eb b o hb e) f0 f1 f3 f4 f5⟩
  ·exact wpAny_pyNext_wide_end (I.ok.hd hc) st hx fun h' eb=>⟨rfl,I.turned (t':=s.toks) (fun b o hb e=>eb b o hb e) f0 f1 f3 f4 f5⟩
 self:=fun A i s Q E st h=>by
  rcases hty with rfl | rfl
  ·exact wpAny_pyIter_striter_ascii st h
  ·exact wpAny_pyIter_striter_wide st h
end
section
variable {X:Cx} {tg:Expr}
noncomputable def bF (tl:TE):TI:=fun σ H R=>tl σ H fun x H1=>∃ z,x=.str z/\R (aa z) H1
theorem Sd {l:Expr} {tl:TE} (hl:PE X l tl):PI X tg l (bF tl):=by
 intro pins s σ H R I h
 refine CG (hl pins s σ H _ I h) fun v s1 hq0=>?_
 obtain ⟨x,H1,I1,r1,q1⟩:=hq0
 obtain ⟨z,e,q⟩:=q1
 subst e
 obtain ⟨t,rfl⟩:=r1
 have fin:∀ ty,(ty = "str_ascii_iterator" \/ ty = "str_iterator")->PIE X pins σ tg R (.ref s1.heap.objs.size) { s1 with heap:=s1.heap.push { cls:=.type ty,data:=.fields #[.str z t,.int 0 0] } }:=fun ty hty=>by
  refine ⟨s1.heap.objs.size,[s1.heap.objs.size],_,_,H1,rfl,I1.kept (t':=s1.toks) fun b o e=>Heap.get?_push_of_some _ e,RD (z:=z) (t0:=t) hty,⟨_,Heap.get?_push_size _ rfl,rfl,rfl⟩,fun b hb=>?_,q⟩
  have e:b=s1.heap.objs.size:=by simpa using hb
  subst e
  exact I1.Kf (Nat.le_refl _) (I1.hok.fresh (Nat.le_refl _))
 cases ha:z.cps.all (· < 128)
 ·exact wpAny_pyIter_wide ha (fin _ (.inr rfl))
 ·exact wpAny_pyIter_ascii ha (fin _ (.inl rfl))
end
section
variable {σ:St} {H1:Hp} {Q:VK} {tt:TT} {te:TE}
noncomputable def sgn (c:Nat):V:=.str ⟨#[c]⟩
theorem K9 {z:Str} (p:Nat->Bool) (f:Nat->V) (hz:z.length<sizeLine)
  (ht:∀ c∈z.cps.toList,∀ H,Ao H1 H->∀ R:Bool->Hp->Prop,(∀ H',Ao H H'->R (p c) H')->tt (some (sgn c)::σ) H R)
  (he:∀ c∈z.cps.toList,p c=true->∀ H,Ao H1 H->∀ R:VK,(∀ H',Ao H H'->R (f c) H')->te (some (sgn c)::σ) H R)
  (hq:∀ D H,H1 D=none->Ao H1 H->H D=some (.lst ((z.cps.toList.filter p).map f))->Q (.ref D) H):Fp (aa z) σ H1 Q tt te:=by
 let g:V->Nat:=fun v=>match v with | .str y=>y.cps.getD 0 0 | _=>0
 refine GZ (xs:=z.cps.toList.map sgn) (fun v=>p (g v)) (fun v=>f (g v)) (by simpa [Str.length] using hz) (fun i H x _ hx=>?_) (fun i H y H' _ hi hy=>?_) (fun H _=>?_) (fun x hx=>?_) (fun x hx=>?_) (fun D H h1 h2 h3=>?_)
 ·have:i<(z.cps.toList.map sgn).length:=(List.getElem?_eq_some_iff.mp hx).1
  show i<z.cps.size
  simpa using this
 ·obtain ⟨e1,c,hc,rfl⟩:=hy
  refine ⟨e1,?_⟩
  rw [List.getElem?_map,Array.getElem?_toList,hc]; rfl
 ·show z.cps.size<=_
  simp
 ·obtain ⟨c,hc,rfl⟩:=List.mem_map.mp hx
  exact ht c hc
 ·obtain ⟨c,hc,rfl⟩:=List.mem_map.mp hx
  exact he c hc
 ·refine hq D H h1 h2 ?_
  rw [h3,List.filter_map,List.map_map]
  rfl
end
section
variable {X:Cx}
theorem range_all (bs:List Bool):((List.range bs.length).all fun i=>(bs[i]?).getD true)=bs.all id:=by
 rw [Bool.eq_iff_iff,List.all_eq_true,List.all_eq_true]
 constructor
 ·intro h b hb
  obtain ⟨i,hi,e⟩:=List.mem_iff_getElem.mp hb
  have:=h i (List.mem_range.mpr hi)
  rw [List.getElem?_eq_getElem hi,e] at this
  exact this
 ·intro h i hi
  have hi':=List.mem_range.mp hi
  rw [List.getElem?_eq_getElem hi']
  exact h _ (List.getElem_mem hi')
theorem GJ (hc:X.calm=true):EY X (.builtin "all") (fun xs H Q=>∃ (p:Addr) (bs:List Bool),xs=[V.ref p]/\Cp X.K H p (bs.map V.bl)/\Q (.bl (bs.all id)) H):=by
 intro pins s σ H xs us Q I r h
 obtain ⟨p,bs,rfl,hp,q⟩:=h
 obtain ⟨u,rfl,ru⟩:=vals1 r
 cases ru
 obtain ⟨its,rv,pl,hz⟩:=I.list hp
 have hlen:bs.length=its.length:=by have:=rv.length; rw [List.length_map] at this; exact this
 have hlt:p<s.heap.objs.size:=by obtain ⟨_,e,_⟩:=pl.isList; exact Heap.lt_size e
 refine call_all_walk (wpAny_pyIter_list pl.isList ?_)
 refine ⟨s.heap.objs.size,[s.heap.objs.size,p],[s.heap.objs.size],its.toArray.size,_,_,fun i=>(bs[i]?).getD true,rfl,Walks.list (A:=X.A.in1) (I.ok.hd hc) _ p (Nat.ne_of_lt hlt) its.toArray,
  ⟨⟨_,Heap.get?_push_size _ rfl,rfl,rfl⟩,pl.isList.push _⟩,fun i v s' Q' E' hP hQ=>?_,fun h' tk hk=>?_⟩
 ·have hP':its[i]? = some v:=by simpa using hP
  have hi:i<its.length:=(List.getElem?_eq_some_iff.mp hP').1
  have hb:bs[i]? = some bs[i]:=by simp [hlen,hi]
  obtain ⟨u,hu,ru⟩:=rv.get (i:=i) (x:=.bl bs[i]) (by rw [List.getElem?_map,hb]; rfl)
  rw [hP'] at hu
  cases hu
  cases ru
  dsimp only at hQ
  rw [hb] at hQ
  exact wpAny_truthy_bool hQ
 ·have e:((List.range its.toArray.size).all fun i=>(bs[i]?).getD true)=bs.all id:=by rw [List.size_toArray,← hlen]; exact range_all bs
  rw [e]
  refine ⟨.bl (bs.all id),H,I.kept (t':=tk) fun b o eb=>hk b o (fun hm=>?_) (Heap.get?_push_of_some _ eb),rfl,q⟩
  rw [List.mem_singleton.mp hm] at eb
  exact Nat.lt_irrefl _ (Heap.lt_size eb)
theorem Bo:EY X (.builtin "isinstance") (fun xs H Q=>∃ x T t b,xs=[x,V.ty T]/\Hf X.K H x t/\PySem.W.kitOne X.K t (.type T)=some b/\Q (.bl b) H):=by
 intro pins s σ H xs us Q I r h
 obtain ⟨x,T,t,b,rfl,ty,e,q⟩:=h
 obtain ⟨u,v,rfl,ru,rv⟩:=Vals.two r
 cases rv
 exact KD I ru ty e fun tk=>⟨.bl b,H,I.tok _,rfl,q⟩
theorem Vx:Z7 X (fun x lo hi H Q=>∃ z,x=.str z/\z.length<=sizeLine/\Q (.str (Txt.slice z lo hi)) H):=by
 intro pins s σ H x v vl vu lo hi sl Q I rx hs pl pu h
 obtain ⟨z,rfl,hz,q⟩:=h
 obtain ⟨t,rfl⟩:=rx
 refine ⟨"str",_,F.slot_str_getitem.lookup,typeIs_str _ _ _,?_⟩
 have fin:∀ t' k,EP X pins σ Q (.str (Txt.slice z lo hi) t') { s with toks:=k }:=fun t' k=>⟨.str _,H,I.tok _,⟨_,rfl⟩,q⟩
 cases pl with
 | none =>
  cases pu with
  | none=>exact wpAny_getItem_str_slice (l:=none) (u:=none) (st:=none) hs rfl (post_val_or_str ⟨Nat.le_trans (Txt.slice_le z _ _) hz,fin⟩)
  | int j uj=>exact wpAny_getItem_str_slice (l:=none) (u:=some (j,uj)) (st:=none) hs rfl (post_val_or_str ⟨Nat.le_trans (Txt.slice_le z _ _) hz,fin⟩)
 | int i ui =>
  cases pu with
  | none=>exact wpAny_getItem_str_slice (l:=some (i,ui)) (u:=none) (st:=none) hs rfl (post_val_or_str ⟨Nat.le_trans (Txt.slice_le z _ _) hz,fin⟩)
  | int j uj=>exact wpAny_getItem_str_slice (l:=some (i,ui)) (u:=some (j,uj)) (st:=none) hs rfl (post_val_or_str ⟨Nat.le_trans (Txt.slice_le z _ _) hz,fin⟩)
theorem M3:Gp X (binaryOp .Mult) (fun x y H Q=>∃ z n,x=.str z/\y=.int n/\MulOk z n/\Q (.str (Txt.mul z n)) H):=by
 intro pins s σ H x y v u Q I rx ry h
 obtain ⟨z,n,rfl,rfl,hok,q⟩:=h
 obtain ⟨t,rfl⟩:=rx
 obtain ⟨t',rfl⟩:=ry
 exact SB.mul hok fun t' k=>⟨.str _,H,I.tok _,⟨_,rfl⟩,q⟩
end
noncomputable def Ol (x:Str) (scope osc:Scope) (N:List Str):Bool :=
 (scope.kind == .function) && scope.names.all (fun y=>y.2 != .cell) && scope.names.all (fun y=>y.2 != .local || scope.names.lookup y.1 == some .local) && (scope.names.lookup x == some .local) &&
 scope.names.all (fun y=>y.2 != .free || osc.names.lookup y.1 == some .cell || osc.names.lookup y.1 == some .free) && decide ((x::Gz x N).Nodup) && (Gz x N).all (fun y=>scope.names.lookup y != some .local) && (scope.names.lookup ("" : Str) == none)
theorem Bd {X:Cx} {x:Str} {scope osc:Scope} {N:List Str} (hsc:X.env.scope=osc) (hN:X.N=N) (h:Ol x scope osc N=true):FP X x scope:=by
 unfold Ol at h
 simp only [Bool.and_eq_true] at h
 obtain ⟨⟨⟨⟨⟨⟨⟨h1,h2⟩,h3⟩,h4⟩,h5⟩,h6⟩,h7⟩,h8⟩:=h
 rw [List.all_eq_true] at h2 h3 h5 h7
 have kd:∀ y,X.env.kindOf y=osc.names.lookup y:=fun y=>by rw [← hsc]; rfl
 refine ⟨by simpa using h1,fun y hy=>by simpa using h2 y hy,fun y hy e=>?_,by simpa using h4,fun y hy e=>?_,by rw [hN]; exact of_decide_eq_true h6,fun y hy=>?_,by simpa using h8⟩
 ·have:=h3 y hy
  rw [e] at this
  simpa using this
 ·have:=h5 y hy
  rw [e] at this
  rw [kd]
  simpa using this
 ·rw [hN] at hy
  simpa using h7 y hy
end L2
namespace L2
open PySem PySem.Spec PyProof.Rows
section
variable {X:Cx} {pins:List (Addr × Obj)} {σ:St} {H:Hp} {s:Shared} {h':Heap}
theorem Inv.Ld {ch:List Addr} {a:Addr} {o:HO} {t':Nat} (I:Inv X pins σ H s) (hf:∀ b∈ch,Fj X pins H b) (k:∀ b u,b ∉ ch->s.heap.get? b=some u->h'.get? b=some u) (hp:s.heap.objs.size<=a)
  (new:By X.prog X.w (upd H a o) h' a o):Inv X pins σ (upd H a o) { s with heap:=h',toks:=t' }:=by
 have hn:H a=none:=I.hok.fresh hp
 have up:∀ b u,H b=some u->upd H a o b=some u:=fun b u e=>by rw [An (Al e hn)]; exact e
 refine I.step (g':=s.gens) (d':=s.drawn) (ch:=ch) (fun b hb=>?_) (fun b u _ _ hc e _=>k b u hc e) (fun b u _ _ hc e _=>⟨u.slots,k b u hc e⟩) (fun b u _ e n=>?_)
  (fun b u hc e=>⟨u,k b u hc e⟩) (fun b xs e=>up _ _ e) (fun b u x e=>up _ _ e) (fun b ps e=>⟨#[],by rw [up _ _ e]; simp⟩) (fun m hm=>?_) (fun b u e=>?_) I.bare
 ·obtain ⟨f0,f1,f2,f3,f4,f5⟩:=hf b hb
  exact ⟨f3,f1,f4,f5⟩
 ·rw [An (Nat.ne_of_lt (Nat.lt_of_lt_of_le (Heap.lt_size e) hp))]
  exact n
 ·obtain ⟨u,es,ep,ho,r⟩:=hm
  exact ⟨u,es,ep,k _ u (fun z=>(hf _ z).2.1 rfl) ho,r⟩
 ·by_cases hb:b=a
  ·subst hb
   rw [Ah] at e
   cases e
   exact new
  ·rw [An hb] at e
   refine (I.hok b u e).stay (fun c v hc q=>k c v (fun z=>?_) q) (fun _ q=>up _ _ q) fun _ _ q=>up _ _ q
   have z1:=(hf c z).1
   rcases hc with hc | hc
   ·rw [hc,e] at z1
    cases z1
   ·rw [hc] at z1
    cases z1
theorem Inv.Ov {ch:List Addr} {t':Nat} (I:Inv X pins σ H s) (hf:∀ b∈ch,Fj X pins H b) (k:∀ b u,b ∉ ch->s.heap.get? b=some u->h'.get? b=some u):Inv X pins σ H { s with heap:=h',toks:=t' }:=by
 refine I.step (g':=s.gens) (d':=s.drawn) (ch:=ch) (fun b hb=>?_) (fun b u _ _ hc e _=>k b u hc e) (fun b u _ _ hc e _=>⟨u.slots,k b u hc e⟩) (fun b u _ e n=>n)
  (fun b u hc e=>⟨u,k b u hc e⟩) (fun b xs e=>e) (fun b u x e=>e) (fun b ps e=>⟨#[],by rw [e]; simp⟩) (fun m hm=>?_) (fun b u e=>?_) I.bare
 ·obtain ⟨f0,f1,f2,f3,f4,f5⟩:=hf b hb
  exact ⟨f3,f1,f4,f5⟩
 ·obtain ⟨u,es,ep,ho,r⟩:=hm
  exact ⟨u,es,ep,k _ u (fun z=>(hf _ z).2.1 rfl) ho,r⟩
 ·refine (I.hok b u e).stay (fun c v hc q=>k c v (fun z=>?_) q) (fun _ q=>q) fun _ _ q=>q
  have z1:=(hf c z).1
  rcases hc with hc | hc
  ·rw [hc,e] at z1
   cases z1
  ·rw [hc] at z1
   cases z1
end
noncomputable def X7 (K:PySem.W.Frag) (a:Addr):It :=
 ⟨fun i H=>∃ xs x,Cp K H a xs/\xs[i]? = some x,fun i H v H'=>∃ T,H T=none/\v=.ref T/\∀ xs,Cp K H a xs->∃ x,xs[i]? = some x/\H'=upd H T (.tup [.int (i:Int),x]),fun i H=>∃ xs,Cp K H a xs/\xs.length<=i⟩
noncomputable def eO (K:PySem.W.Frag) (a b:Addr):It :=
 ⟨fun i H=>∃ xs ys x y,Ey K H a xs/\Ey K H b ys/\xs[i]? = some x/\ys[i]? = some y,fun i H v H'=>∃ T,H T=none/\v=.ref T/\∀ xs ys,Ey K H a xs->Ey K H b ys->∃ x y,xs[i]? = some x/\ys[i]? = some y/\H'=upd H T (.tup [x,y]),
  fun i H=>∃ xs,Ey K H a xs/\xs.length<=i⟩
theorem QR {P:Program} {w:World} {K:PySem.W.Frag} {es:List Expr} {k1:Nat} {pos:Pos} (a e it:Addr) (hne:e ≠ it) :
  Turn P w K (.Tuple es k1 pos) (X7 K a) [e,it] e (fun i h=>(∃ old,IsEnum h e it i old)/\h.IsListIter it a i) where
 mem:=by simp
 obj:=fun i h st b hb=>by
  obtain ⟨⟨old,he⟩,o,ho,c,d⟩:=st
  rcases List.mem_cons.mp hb with rfl | hb
  ·exact ⟨_,he,fun v z=>by
    have z':Data.fields _=Data.cell v:=z
    cases z'⟩
  ·have q:b=it:=by simpa using hb
   subst q
   exact ⟨o,ho,fun v z=>by rw [d] at z; cases z⟩
 keep:=fun i h h' st k=>by
  obtain ⟨⟨old,he⟩,hi⟩:=st
  exact ⟨⟨old,k e (by simp) _ he⟩,hi.at fun o q=>k it (by simp) o q⟩
 item:=by
  intro X hP hw hK hc i pins s σ H E I hf st hg
  subst hP hw hK
  obtain ⟨xs,x,hq,hx⟩:=hg
  obtain ⟨its,rv,p,hz⟩:=I.list hq
  obtain ⟨u,hu,ru⟩:=rv.get hx
  obtain ⟨⟨old,he⟩,hi⟩:=st
  refine wpAny_pyNext_enum_item he hi p.isList (x:=u) (by simpa using hu) hne fun h1 n1 n2 n3 n4 n5=>?_
  refine ⟨_,rfl,wpAny_letOwnedTupleGo_enum (s:={ s with heap:=h1,toks:=s.toks+1 }) n1 fun h2 m1 m2=>?_⟩
  have hT:s.heap.objs.size ≠ e:=Nat.ne_of_gt (Heap.lt_size he)
  have hI:s.heap.objs.size ≠ it:=by obtain ⟨_,q,_⟩:=hi; exact Nat.ne_of_gt (Heap.lt_size q)
  have fr:H s.heap.objs.size=none:=I.hok.fresh (Nat.le_refl _)
  have nw:By X.prog X.w (upd H s.heap.objs.size (.tup [.int (i:Int),x])) h2 s.heap.objs.size (.tup [.int (i:Int),x]) :=
   ⟨by show 2<=sizeLine; decide,[.int i s.toks,u],.cons ⟨_,rfl⟩ (.cons ru .nil),_,m2.extBut _ _ hT n3,rfl,_,rfl⟩
  refine ⟨.ref s.heap.objs.size,_,I.Ld (t':=s.toks+1) (ch:=[e,it]) hf (fun b o hb q=>?_) (Nat.le_refl _) nw,rfl,⟨_,fr,rfl,fun ys hy=>⟨x,by rw [I.Mi hy hq]; exact hx,rfl⟩⟩,⟨⟨u,?_⟩,n2.at fun o q=>m2.extBut _ _ (Ne.symm hne) q⟩,fun b hb=>?_⟩
  ·exact m2.extBut _ _ (fun z=>hb (by simp [z])) (n5 b o (fun z=>hb (by simp [z])) (fun z=>hb (by simp [z])) q)
  ·have e1:((i:Int)+1)=((i+1:Nat):Int):=by omega
   rw [← e1]
   exact m1
  ·have hb':=hb
   rcases List.mem_cons.mp hb with rfl | hb
   ·rw [An (Ne.symm hT)]
    exact (hf _ hb').1
   ·have q:b=it:=by simpa using hb
    subst q
    rw [An (Ne.symm hI)]
    exact (hf _ hb').1
 done:=by
  intro X hP hw hK hc i pins s σ H E I hf st hg
  subst hP hw hK
  obtain ⟨xs,hq,hx⟩:=hg
  obtain ⟨its,rv,p,hz⟩:=I.list hq
  obtain ⟨⟨old,he⟩,hi⟩:=st
  have hl:=rv.length
  exact wpAny_pyNext_enum_end (I.ok.hd hc) he hi p.isList (by simp; omega) fun h1 eb=>⟨rfl,I.Ov (t':=s.toks) (ch:=[e,it]) hf fun b o hb q=>eb b o (fun z=>hb (by simp [z])) q⟩
 self:=fun _ _ _ _ _ st h=>by
  obtain ⟨⟨old,he⟩,_⟩:=st
  exact wpAny_pyIter_enum he h
theorem Q6 {n a b:Nat} (ha:a<n) (hb:b<n):ZipApart (n+4) (n+2) (n+3) n (n+1) a b:=by
 constructor <;> (refine (show @Ne Nat _ _ from ?_); omega)
theorem Vp {n b:Nat} {P:Nat->Prop} (h0:P n) (h1:P (n+1)) (h2:P (n+2)) (h3:P (n+3)) (h4:P (n+4)) (hb:b∈[n,n+1,n+2,n+3,n+4]):P b:=by
 simp at hb
 rcases hb with rfl | rfl | rfl | rfl | rfl <;> assumption
theorem Qa {P:Program} {w:World} {K:PySem.W.Frag} {es:List Expr} {k1:Nat} {pos:Pos} (a b n:Nat) (ha:a<n) (hb:b<n) :
  Turn P w K (.Tuple es k1 pos) (eO K a b) [n,n+1,n+2,n+3,n+4] (n+4) (fun i h=>IsZip h (n+4) (n+2) (n+3) .none/\IsPair h (n+2) (.ref n) (.ref (n+1))/\(∃ x y,IsPair h (n+3) x y)/\h.IsTupleIter n a i/\h.IsTupleIter (n+1) b i) where
 mem:=by simp
 obj:=fun i h st c hc=>by
  refine byC fun w_=>?_;obtain ⟨hz,hI,⟨x,y,hO⟩,⟨o1,e1,_,d1⟩,⟨o2,e2,_,d2⟩⟩:=st;refine w_ ?_
  refine Vp (P:=fun c=>∃ o,h.get? c=some o/\∀ v,o.data ≠ .cell v) ⟨_,e1,fun v z=>?_⟩ ⟨_,e2,fun v z=>?_⟩ ⟨_,hI,fun v z=>?_⟩ ⟨_,hO,fun v z=>?_⟩ ⟨_,hz,fun v z=>?_⟩ hc
  ·rw [d1] at z; cases z
  ·rw [d2] at z; cases z
  ·have z':Data.seq _ _=Data.cell v:=z
   cases z'
  ·have z':Data.seq _ _=Data.cell v:=z
   cases z'
  ·have z':Data.fields _=Data.cell v:=z
   cases z'
 keep:=fun i h h' st k=>by
  obtain ⟨hz,hI,⟨x,y,hO⟩,j1,j2⟩:=st
  exact ⟨k _ (by simp) _ hz,k _ (by simp) _ hI,⟨x,y,k _ (by simp) _ hO⟩,j1.at fun o q=>k _ (by simp) o q,j2.at fun o q=>k _ (by simp) o q⟩
 item:=by
  intro X hP hw hK hc i pins s σ H E I hf st hg
  subst hP hw hK
  obtain ⟨xs,ys,x,y,q1,q2,hx,hy⟩:=hg
  obtain ⟨it1,r1,p1,_⟩:=I.tuple q1
  obtain ⟨it2,r2,p2,_⟩:=I.tuple q2
  obtain ⟨u,hu,ru⟩:=r1.get hx
  obtain ⟨v,hv,rv⟩:=r2.get hy
  obtain ⟨hz,hI,⟨x0,y0,hO⟩,j1,j2⟩:=st
  have D:=Q6 ha hb
  have hT:s.TypeIs (.ref (n+4)) "zip":=⟨_,hz,rfl⟩
  have sz:n+4<s.heap.objs.size:=Heap.lt_size hz
  unfold pyNext
  refine wpAny_bind (wpAny_attempt (wpAny_callSpecial?_slot (name:=Str.ofString "__next__") hT F.slot_zip_next (wpAny_call_entry F.slot_zip_next hT F.entry_zip_next
   (Pa D hz hI hO j1 j2 (show s.heap.IsTuple a it1.toArray from p1) (show s.heap.IsTuple b it2.toArray from p2) (x:=u) (y:=v) (by simpa using hu) (by simpa using hv) fun h1 n1 n2 n3 n4 n5 n6 n7=>wpAny_pure ?_) (F.args_zip_next_1 _))))
  refine ⟨_,rfl,wpAny_letOwnedTupleGo_zip (s:={ s with heap:=h1 }) n1 fun h2 m1 m2=>?_⟩
  have fr:H s.heap.objs.size=none:=I.hok.fresh (Nat.le_refl _)
  have nw:By X.prog X.w (upd H s.heap.objs.size (.tup [x,y])) h2 s.heap.objs.size (.tup [x,y]) :=
   ⟨by show 2<=sizeLine; decide,[u,v],.cons ru (.cons rv .nil),_,m2.extBut _ _ (Nat.ne_of_gt sz) n5,rfl,_,rfl⟩
  have hI2:IsPair h1 (n+2) (.ref n) (.ref (n+1)):=n7 _ _ D.TIz D.TITO D.TIi1 D.TIi2 hI
  refine ⟨.ref s.heap.objs.size,_,I.Ld (t':=s.toks) (ch:=[n,n+1,n+2,n+3,n+4]) hf (fun c o hc q=>?_) (Nat.le_refl _) nw,rfl,⟨_,fr,rfl,fun xs' ys' h1 h2=>⟨x,y,by rw [I.Ht h1 q1]; exact hx,by rw [I.Ht h2 q2]; exact hy,rfl⟩⟩,
   ⟨m1,m2.extBut _ _ D.TIz hI2,⟨u,v,m2.extBut _ _ D.TOz n2⟩,n3.at fun o q=>m2.extBut _ _ D.i1z q,n4.at fun o q=>m2.extBut _ _ D.i2z q⟩,fun c hc=>?_⟩
  ·have z:∀ d,d∈[n,n+1,n+2,n+3,n+4]->c ≠ d:=fun d hd q=>hc (q ▸ hd)
   exact m2.extBut _ _ (z _ (by simp)) (n7 c o (z _ (by simp)) (z _ (by simp)) (z _ (by simp)) (z _ (by simp)) q)
  ·rw [An ?_]
   ·exact (hf c hc).1
   ·have lt:c<=n+4:=Vp (P:=fun c=>c<=n+4) (by omega) (by omega) (by omega) (by omega) (Nat.le_refl _) hc
    exact Nat.ne_of_lt (Nat.lt_of_le_of_lt lt sz)
 done:=by
  intro X hP hw hK hc i pins s σ H E I hf st hg
  subst hP hw hK
  obtain ⟨xs,q1,hx⟩:=hg
  obtain ⟨it1,r1,p1,_⟩:=I.tuple q1
  obtain ⟨hz,hI,⟨x0,y0,hO⟩,j1,j2⟩:=st
  have D:=Q6 ha hb
  have hT:s.TypeIs (.ref (n+4)) "zip":=⟨_,hz,rfl⟩
  have hl:=r1.length
  unfold pyNext
  refine wpAny_bind (wpAny_attempt (wpAny_callSpecial?_slot (name:=Str.ofString "__next__") hT F.slot_zip_next (wpAny_call_entry F.slot_zip_next hT F.entry_zip_next
   (Qy (I.ok.hd hc) D hz hI hO j1 (show s.heap.IsTuple a it1.toArray from p1) (by simp; omega) fun h1 x k1 hx1=>?_) (F.args_zip_next_1 _))))
  obtain ⟨o,ho,hco⟩:=hx1
  refine wpAny_bind (wpAny_isInstance (T:="StopIteration") (b:=true) ⟨o,ho,hco⟩ isSubtype_stop (wpAny_pure ?_))
  refine ⟨rfl,I.Ov (t':=s.toks) (ch:=[n,n+1,n+2,n+3,n+4]) hf fun c o hc q=>?_⟩
  have z:∀ d,d∈[n,n+1,n+2,n+3,n+4]->c ≠ d:=fun d hd q=>hc (q ▸ hd)
  exact k1 c o (z _ (by simp)) (z _ (by simp)) (z _ (by simp)) (z _ (by simp)) q
 self:=fun _ _ _ _ _ st h=>wpAny_pyIter_zip st.1 h
section
variable {X:Cx} {es:List Expr} {k1:Nat} {tpos:Pos}
noncomputable def Z1 (K:PySem.W.Frag) (ta:TA):TI:=fun σ H R=>ta σ H fun vs H1=>∃ a,vs=[.ref a]/\(∃ xs,Cp K H1 a xs)/\R (X7 K a) H1
noncomputable def dD (K:PySem.W.Frag) (ta:TA):TI:=fun σ H R=>ta σ H fun vs H1=>∃ a b,vs=[.ref a,.ref b]/\(∃ xs,Ey K H1 a xs)/\(∃ ys,Ey K H1 b ys)/\R (eO K a b) H1
theorem K1 {l:Expr} {ta:TA} {p pos:Pos} (hg:Gl X "enumerate") (hm:X.mg "enumerate" = none) (ha:PA X [l] ta) (hs:starEach [l] X.env=[(false,eval l X.env)]:=by rfl) :
  PI X (.Tuple es k1 tpos) (.Call (.Name "enumerate" p) [l] [] pos) (Z1 X.K ta):=by
 intro pins s σ H R I h
 refine Call_ (G_ I hg hm boot_enumerate (PyProof.Rows.callWith_type1 (CG (ha pos pins s σ H _ I h) fun us s1 ⟨vs,H1,I1,r1,q1⟩=>?_) hs rfl))
 obtain ⟨a,e,⟨xs,hq⟩,q⟩:=q1
 subst e
 obtain ⟨u,rfl,ru⟩:=vals1 r1
 cases ru
 obtain ⟨its,rv,pl,hz⟩:=I1.list hq
 refine call_enumerate_list pl.isList fun h1 n1 n2 n3 n4=>?_
 refine wpAny_pyIter_enum (s:={ s1 with heap:=h1 }) n1 ?_
 refine ⟨_,[s1.heap.objs.size+1,s1.heap.objs.size],_,_,H1,rfl,I1.kept (t':=s1.toks) n4,QR a _ _ (Nat.succ_ne_self _),⟨⟨_,n1⟩,n2⟩,fun b hb=>?_,q⟩
 have lt:s1.heap.objs.size<=b:=by
  rcases List.mem_cons.mp hb with rfl | hb
  ·exact Nat.le_succ _
  ·exact Nat.le_of_eq ((List.mem_singleton.mp hb).symm)
 exact I1.Kf lt (I1.hok.fresh lt)
theorem Ue {x y:Expr} {ta:TA} {p pos:Pos} (hg:Gl X "zip") (hm:X.mg "zip" = none) (ha:PA X [x,y] ta) (hs:starEach [x,y] X.env=[(false,eval x X.env),(false,eval y X.env)]:=by rfl) (hs2:starEach [y] X.env=[(false,eval y X.env)]:=by rfl) :
  PI X (.Tuple es k1 tpos) (.Call (.Name "zip" p) [x,y] [] pos) (dD X.K ta):=by
 intro pins s σ H R I h
 refine Call_ (G_ I hg hm boot_zip (PyProof.Rows.callWith_type1 (CG (ha pos pins s σ H _ I h) fun us s1 ⟨vs,H1,I1,r1,q1⟩=>?_) (by rw [hs,hs2]) (by rw [hs2]; rfl)))
 obtain ⟨a,b,e,⟨xs,q1⟩,⟨ys,q2⟩,q⟩:=q1
 subst e
 obtain ⟨u,v,rfl,ru,rv⟩:=Vals.two r1
 cases ru
 cases rv
 obtain ⟨it1,r1,p1,_⟩:=I1.tuple q1
 obtain ⟨it2,r2,p2,_⟩:=I1.tuple q2
 refine QF (show s1.heap.IsTuple a it1.toArray from p1) (show s1.heap.IsTuple b it2.toArray from p2) fun h1 n hn n1 n2 n3 n4 n5 n6 n7=>?_
 refine wpAny_pyIter_zip (s:={ s1 with heap:=h1 }) n1 ?_
 have la:a<n:=by rw [hn]; exact p1.lt
 have lb:b<n:=by rw [hn]; exact p2.lt
 refine ⟨_,[n,n+1,n+2,n+3,n+4],_,_,H1,rfl,I1.kept (t':=s1.toks) n7,Qa a b n la lb,⟨n1,n2,⟨_,_,n3⟩,n4,n5⟩,fun c hc=>?_,q⟩
 have lt:s1.heap.objs.size<=c:=by
  rw [← hn]
  exact Vp (P:=fun c=>n<=c) (by omega) (by omega) (by omega) (by omega) (by omega) hc
 exact I1.Kf lt (I1.hok.fresh lt)
end
end L2
namespace L2
open PySem PySem.Spec PyProof.Rows
theorem T7 {prog:Program} {w:World} {A:Around} {R:Result->Shared->Prop} {s:Shared} {elt tg iter:Expr} {ifs:List Expr} {scope:Scope} {pos:Pos} {it acc:Value} {env:Env} (J:Nat->Shared->Prop) {E:Value->Shared->Prop} (hE:E=notedBy (model prog w) A env fun e s'=>R (.error e) s')
  (turn:∀ n s,J n s->wpAny (model prog w) A (pyNext it) (fun r s1=>match r with
   | none=>R (.ok .next) s1
   | some v=>wpAny (model prog w) A (letOwnedTupleGo tg it v) (fun _ s2=>wpAny (model prog w) A (assign tg env v) (fun _ s3 =>
     wpAny (model prog w) A (forIn ifs true fun c r=>if r=true then do let ok ← isTrue c env (eval c env); pure (ForInStep.yield ok) else pure (ForInStep.yield r)) (fun ok s4 =>
      if ok=true then wpAny (model prog w) A (eval elt env) (fun x s5=>wpAny (model prog w) A (call (.builtin "list.append") [acc,x]) (fun _ s6=>∃ m,m<n/\J m s6) E s5) E s4
      else ∃ m,m<n/\J m s4) E s3) E s2) E s1) E s) (n:Nat) (h:J n s) :
  codeAny (model prog w) A (.compLoop (.ListComp elt [⟨tg,iter,ifs,0⟩] scope pos) 0 it acc env) R s:=by
 subst hE
 refine codeAny_loop rfl J (fun n s hJ=>(show wpAny _ A ((compTurn (.ListComp elt [⟨tg,iter,ifs,0⟩] scope pos) 0 it acc env).onRaise (fun x=>do noteFrame x env; theTreesLotGoes x)) _ _ s from wpAny_noted ?_)) n h
 rw [compTurn_list]
 refine wpAny_bind (wpAny_standAt (wpAny_bind (wpAny_mono (turn n s hJ) (fun r s1 h1=>?_) fun _ _ q=>q)))
 cases r with
 | none=>exact wpAny_pure h1
 | some v =>
  refine wpAny_bind (wpAny_mono h1 (fun _ s2 h2=>wpAny_bind (wpAny_mono h2 (fun _ s3 h3=>wpAny_bind (wpAny_mono h3 (fun ok s4 h4=>?_) fun _ _ q=>q)) fun _ _ q=>q)) fun _ _ q=>q)
  cases ok with
  | false=>exact wpAny_pure ⟨rfl,h4⟩
  | true=>exact wpAny_bind (wpAny_bind (wpAny_mono h4 (fun x s5 h5=>wpAny_bind (wpAny_mono h5 (fun _ s6 h6=>wpAny_pure (wpAny_pure ⟨rfl,h6⟩)) fun _ _ q=>q)) fun _ _ q=>q))
noncomputable def Bg (X:Cx) (x z:Str) (scope:Scope) (C:Addr) (s₀:Shared) (H₀:Hp) (fp:List Addr):Cx where
 prog:=X.prog
 w:=X.w
 K:=X.K
 mg:=X.mg
 base:=X.base
 A:=X.A
 N:=x::z::X.N
 s₀:=s₀
 H₀:=H₀
 env:=compEnvC scope (Ck X.env scope.names []) C X.env
 outer:=X.stack
 stack:=X.stack
 ex:=fp
 fn:=fun _=>false
 calm:=X.calm
 pn:=[]
 xe:=fun _ _=>False
structure Dr (X:Cx) (x z:Str) (scope:Scope):Prop where
 kind:scope.kind=.function
 nocell:∀ y∈scope.names,y.2 ≠ .cell
 names:∀ y∈scope.names,y.2=.local->scope.names.lookup y.1=some .local
 loc:scope.names.lookup x=some .local
 loz:scope.names.lookup z=some .local
 free:∀ y∈scope.names,y.2=.free->X.env.kindOf y.1=some .cell \/ X.env.kindOf y.1=some .free
 nd:(x::z::X.N).Nodup
 only:∀ y∈X.N,scope.names.lookup y ≠ some .local
section
variable {X:Cx} {pins:List (Addr × Obj)} {σ:St} {H:Hp} {s:Shared} {x z:Str} {scope:Scope} {fp:List Addr} {C:Addr}
theorem La {h':Heap} {tk:Nat} {m:Str->Option Value} (I:Inv X pins σ H s) (S:Dr X x z scope) (hf:∀ b∈fp,Fj X pins H b) (hlt:∀ b∈fp,b<s.heap.objs.size) (hC:s.heap.objs.size<=C) (hn:h'.Ns C m)
  (hk:∀ b o,s.heap.get? b=some o->h'.get? b=some o):Inv (Bg X x z scope C s H fp) [] (none::none::σ) H { s with heap:=h',toks:=tk }:=by
 have cl:∀ y c,(Ck X.env scope.names []).lookup y=some c->X.env.cells.lookup y=some c:=fun y c e=>by
  rcases FW X.env scope.names [] y c e with z | z
  ·cases z
  ·exact z
 have cellK:∀ c v,s.heap.IsCell c v->h'.IsCell c v:=fun c v ⟨o,ho,hd⟩=>⟨o,hk c o ho,hd⟩
 have look:∀ y,(Bg X x z scope C s H fp).env.scope.names.lookup y=(scope.names.lookup y).map fun k=>if (k == NameKind.free && X.env.scope.kind == .function && X.env.kindOf y == some .cell) then NameKind.cell else k:=fun y=>Ed X.env y scope.names
 refine ⟨⟨I.ok.mod,S.kind,I.ok.glob,I.ok.blt,hC,fun y z c e1 e2=>I.ok.inj y z c (cl y c e1) (cl z c e2),fun y hy=>?_,fun y c e _=>(by cases e),fun h=>I.ok.hd h,I.ok.frames,.inl rfl,fun b hb=>?_,I.bs,Nat.le_trans I.ok.bsz I.sz,fun b o e hb=>?_,fun b hb hb'=>?_,I.stack,I.KY⟩,
  rfl,I.bare,Un.kept hk,⟨m,hn,fun i y v h1 h2 h3=>?_⟩,fun y c e=>?_,I.hok.fresh hC,fun y c e=>I.freeC y c (cl y c e),fun p hp=>absurd (show p∈([]:List (Addr × Obj)) from hp) (by simp),I.hok.kept hk,?_⟩
 ·have hy':(Bg X x z scope C s H fp).env.scope.names.lookup y=some .cell \/ (Bg X x z scope C s H fp).env.scope.names.lookup y=some .free:=hy
  rw [look y] at hy'
  cases e:scope.names.lookup y with
  | none=>rw [e] at hy'; rcases hy' with z | z <;> cases z
  | some k =>
   have hm:=PySem.mem_of_lookup e
   have hfree:k=.free:=by
    rw [e] at hy'
    cases k with
    | free=>rfl
    | cell=>exact absurd rfl (S.nocell _ hm)
    | _=>rcases hy' with z | z <;> simp at z
   subst hfree
   obtain ⟨c,hc⟩:=I.ok.has y (S.free _ hm rfl)
   exact Option.isSome_iff_exists.mp (Do X.env scope.names [] y hm (by rw [hc]; rfl))
 ·obtain ⟨f0,f1,f2,f3,f4,f5⟩:=hf b hb
  exact ⟨Nat.ne_of_lt (Nat.lt_of_lt_of_le (hlt b hb) hC),fun y c e=>f4 y c (cl y c e)⟩
 ·obtain ⟨f0,f1,f2,f3,f4,f5⟩:=hf b hb
  rcases f3 with z | z
  ·exact I.ok.noex b o e z
  ·exact absurd (Nat.lt_of_lt_of_le (Heap.lt_size e) (Nat.le_trans I.ok.bsz z)) (Nat.lt_irrefl _)
 ·obtain ⟨f0,f1,f2,f3,f4,f5⟩:=hf b hb
  rcases List.mem_cons.mp (I.Kq b hb') with e | e
  ·exact f1 e
  ·exact f2 e
 ·match i,h1,h2 with
  | 0,h1,h2 =>
   have h2':(some none:Option (Option V))=some (some v):=h2
   cases h2'
  | 1,h1,h2 =>
   have h2':(some none:Option (Option V))=some (some v):=h2
   cases h2'
  | i+2,h1,h2 =>
   have e0:X.N[i]? = some y:=h1
   have h2':σ[i]? = some (some v):=h2
   have hmem:y∈X.N:=List.mem_of_getElem? e0
   have h3':(Bg X x z scope C s H fp).env.scope.names.lookup y=some .local \/ (Bg X x z scope C s H fp).env.scope.names.lookup y=some .cell \/ (Bg X x z scope C s H fp).env.scope.names.lookup y=some .free:=h3
   rw [look y] at h3'
   cases e:scope.names.lookup y with
   | none=>rw [e] at h3'; rcases h3' with z | z | z <;> cases z
   | some k =>
    have hm:=PySem.mem_of_lookup e
    have hfree:k=.free:=by
     rw [e] at h3'
     cases k with
     | free=>rfl
     | cell=>exact absurd rfl (S.nocell _ hm)
     | «local»=>exact absurd e (S.only y hmem)
     | _=>rcases h3' with z | z | z <;> simp at z
    subst hfree
    have kd:=S.free _ hm rfl
    obtain ⟨m0,hn0,hl0⟩:=I.loc
    obtain ⟨u,r,l⟩:=hl0 i y v e0 h2' (by rcases kd with z | z; exact .inr (.inl z); exact .inr (.inr z))
    refine ⟨u,r,.inr ⟨?_,?_⟩⟩
    ·have hk':(Bg X x z scope C s H fp).env.scope.names.lookup y=some (if (NameKind.free == NameKind.free && X.env.scope.kind == .function && X.env.kindOf y == some .cell) then NameKind.cell else NameKind.free):=by
      rw [look y,e]; rfl
     by_cases c:(NameKind.free == NameKind.free && X.env.scope.kind == .function && X.env.kindOf y == some .cell)=true
     ·rw [if_pos c] at hk'; exact .inl hk'
     ·rw [if_neg c] at hk'; exact .inr hk'
    ·rcases l with ⟨lk,_⟩ | ⟨_,c,hc,hcell⟩
     ·exfalso
      rcases kd with z | z <;> (rw [show X.env.kindOf y=some NameKind.local from lk] at z; cases z)
     ·obtain ⟨c',hc'⟩:=Option.isSome_iff_exists.mp (Do X.env scope.names [] y hm (by rw [hc]; rfl))
      have:=cl y c' hc'
      rw [hc] at this
      cases this
      exact ⟨c,hc',cellK c _ hcell⟩
 ·obtain ⟨v,z⟩:=I.cell y c (cl y c e)
  exact ⟨v,cellK c v z⟩
 ·show (none::none::σ).length=(x::z::X.N).length
  simp [I.len]
end
noncomputable def Kd (J:It) (σ:St) (H1:Hp) (Q:VK) (g:TG) (tt:TT) (te:TE):Prop:=∀ D,H1 D=none->∃ W:Nat->Nat->List V->Hp->Prop,(∃ m,W 0 m [] (upd H1 D (.lst [])))/\∀ i m ys H2,W i m ys H2 ->
 (J.stop i H2/\Q (.ref D) H2) \/ (J.go i H2/\∀ x H3,J.yld i H2 x H3->∀ v0 v1,g x (v0::v1::σ) H3 fun σ' H3'=>(∃ w0 w1,σ'=w0::w1::σ)/\tt σ' H3' fun b H4 =>
  if b=true then te σ' H4 fun y H5=>H5 D=some (.lst ys)/\ys.length<sizeLine/\∃ m',m'<m/\W (i+1) m' (ys++[y]) (upd H5 D (.lst (ys++[y])))
  else ∃ m',m'<m/\W (i+1) m' ys H4)
noncomputable def Qw (wi:TI) (g:TG) (tt:TT) (te:TE):TE:=fun σ H Q=>wi σ H fun J H1=>Kd J σ H1 Q g tt te
section
variable {X:Cx} {x z:Str} {scope:Scope}
theorem Li {tg:Expr} {pos:Pos} {iter elt:Expr} {ifs:List Expr} {g:TG} {tt:TT} {te:TE} {pins:List (Addr × Obj)} {σ:St} {s2:Shared} {H2:Hp} {it:Addr} {fp:List Addr} {tn:Nat->Heap->Prop} {J:It} {E:Value->Shared->Prop}
  {RR:Value->Addr->Result->Shared->Prop} {Q:VK}
  (hc:X.calm=true) (S:Dr X x z scope) (hg:∀ C s₀ H₀ fp,PG (Bg X x z scope C s₀ H₀ fp) tg g) (ht:∀ C s₀ H₀ fp,Lg (Bg X x z scope C s₀ H₀ fp) ifs tt) (he:∀ C s₀ H₀ fp,PE (Bg X x z scope C s₀ H₀ fp) elt te)
  (I2:Inv X pins σ H2 s2) (T:Turn X.prog X.w X.K tg J fp it tn) (st2:tn 0 s2.heap) (f2:∀ b∈fp,Fj X pins H2 b) (q:Kd J σ H2 Q g tt te)
  (hRR:∀ D C s' H' m,s'.heap.Ns C m->Fj X pins H' C->Inv X pins σ H' s'->Q (.ref D) H'->RR (.ref D) C (.ok .next) s') :
  wpAny (model X.prog X.w) X.A (newList []) (fun acc s₃=>wpAny (model X.prog X.w) X.A (newFunctionEnv scope X.env.globals (Ck X.env scope.names []) [] X.env.qual none .none (some X.env)) (fun cenv s₄ =>
   codeAny (model X.prog X.w) X.A (.compStart (.ListComp elt [⟨tg,iter,ifs,0⟩] scope pos) 0 (.ref it) acc { cenv with scope:=relabel scope X.env }) (RR acc cenv.locals) s₄) E s₃) E s2:=by
 refine wpAny_newObj_type (wpAny_newFunctionEnv S.nocell (by intro y hy; simp at hy) (fun h₁ hns₁ hsb₁=>?_) S.kind)
 have I3:=I2.Rb (its:=[]) (ys:=[]) (t':=s2.toks) .nil (Nat.zero_le _)
 have hD0:H2 s2.heap.objs.size=none:=I2.fresh
 obtain ⟨W,⟨m0,w0⟩,turn⟩:=q _ hD0
 generalize hs3:({ s2 with heap:=s2.heap.push { cls:=.type "list",data:=.seq ([]:List Value).toArray },toks:=s2.toks }:Shared)=s3 at I3
 have e3:s3.heap=s2.heap.push { cls:=.type "list",data:=.seq ([]:List Value).toArray }:=by rw [← hs3]
 have hlt:∀ b∈fp,b<s2.heap.objs.size:=fun b hb=>let ⟨_,e,_⟩:=T.obj _ _ st2 b hb; Heap.lt_size e
 have hlt3:∀ b∈fp,b<s3.heap.objs.size:=fun b hb=>by rw [e3,Heap.size_push]; exact Nat.lt_succ_of_lt (hlt b hb)
 have f3:∀ b∈fp,Fj X pins (upd H2 s2.heap.objs.size (.lst [])) b:=fun b hb=>⟨by rw [An (Nat.ne_of_lt (hlt b hb))]; exact (f2 b hb).1,(f2 b hb).2⟩
 have hk1:∀ b o,s3.heap.get? b=some o->h₁.get? b=some o:=fun b o e=>by
  have hne:b ≠ s3.heap.objs.size:=Nat.ne_of_lt (Heap.lt_size e)
  rw [e3] at e hne
  exact hsb₁.extBut b o hne (Heap.get?_push_of_some _ e)
 have hC:s3.heap.objs.size=(s2.heap.push { cls:=.type "list",data:=.seq ([]:List Value).toArray }).objs.size:=by rw [e3]
 have hns:h₁.Ns s3.heap.objs.size (fun x=>([]:List (Str × Value)).reverse.lookup x):=by rw [hC]; exact hns₁
 have st3:tn 0 h₁:=T.keep _ _ _ st2 fun b hb o e=>hk1 b o (by rw [e3]; exact Heap.get?_push_of_some _ e)
 have start:∀ tk,Inv (Bg X x z scope s3.heap.objs.size s3 (upd H2 s2.heap.objs.size (.lst [])) fp) [] (none::none::σ) (upd H2 s2.heap.objs.size (.lst [])) { s3 with heap:=h₁,toks:=tk }:=fun tk =>
  La I3 S f3 hlt3 (Nat.le_refl _) hns hk1
 have loop:∀ tk,codeAny (model X.prog X.w) X.A (.compLoop (.ListComp elt [⟨tg,iter,ifs,0⟩] scope pos) 0 (.ref it) (.ref s2.heap.objs.size) (compEnvC scope (Ck X.env scope.names []) s3.heap.objs.size X.env))
   (RR (.ref s2.heap.objs.size) s3.heap.objs.size) { s3 with heap:=h₁,toks:=tk }:=by
  intro tk
  refine T7 (fun n s'=>∃ i ys v0 v1 H',Inv (Bg X x z scope s3.heap.objs.size s3 (upd H2 s2.heap.objs.size (.lst [])) fp) [] (v0::v1::σ) H' s'/\tn i s'.heap/\(∀ b∈fp,H' b=none)/\W i n ys H') rfl ?_ m0
   ⟨0,[],none,none,_,start tk,st3,fun b hb=>(f3 b hb).1,w0⟩
  rintro n s4 ⟨i,ys,v0,v1,H4,I4,st4,fr4,w4⟩
  have stat:∀ {H':Hp},(∀ b∈fp,H' b=none)->∀ b∈fp,Fj (Bg X x z scope s3.heap.objs.size s3 (upd H2 s2.heap.objs.size (.lst [])) fp) [] H' b:=fun hn b hb=>by
   refine ⟨hn b hb,(I4.ok.exf b hb).1,I4.ok.exfs b hb,.inl hb,(I4.ok.exf b hb).2,fun p hp=>absurd (show p∈([]:List (Addr × Obj)) from hp) (by simp)⟩
  rcases turn i n ys H4 w4 with ⟨stop,qn⟩ | ⟨go,step⟩
  ·refine CG (T.done (Bg X x z scope s3.heap.objs.size s3 (upd H2 s2.heap.objs.size (.lst [])) fp) rfl rfl rfl hc i [] s4 (v0::v1::σ) H4 _ I4 (stat fr4) st4 stop) fun r s5 ⟨hr,I5⟩=>?_
   subst hr
   obtain ⟨m,hn,_⟩:=I5.loc
   refine hRR _ _ s5 H4 m hn (I3.Kf (Nat.le_refl _) I5.free) (I3.call' (s':=s5) (ch:=fp) I5.os I5.base I5.hok I5.bare (fun b hb=>?_)) qn
   obtain ⟨_,g1,_,g3,g4,g5⟩:=f3 b hb
   exact ⟨g3,g1,g4,g5⟩
  ·refine CG (T.item (Bg X x z scope s3.heap.objs.size s3 (upd H2 s2.heap.objs.size (.lst [])) fp) rfl rfl rfl hc i [] s4 (v0::v1::σ) H4 _ I4 (stat fr4) st4 go) fun r s5 ⟨u,hr,h5⟩=>?_
   subst hr
   refine CG h5 fun _ s6 h6=>?_
   obtain ⟨xv,H6,I6,r6,y6,st6,fr6⟩:=h6
   have I6':=I6.pinned (stat fr6) (T.obj _ _ st6)
   have again:∀ {s7:Shared} {H7:Hp} {ys':List V} {w0 w1:Option V},Inv (Bg X x z scope s3.heap.objs.size s3 (upd H2 s2.heap.objs.size (.lst [])) fp) ([]++Hq fp s6.heap) (w0::w1::σ) H7 s7->(∃ m',m'<n/\W (i+1) m' ys' H7) ->
     ∃ m,m<n/\∃ i ys v0 v1 H',Inv (Bg X x z scope s3.heap.objs.size s3 (upd H2 s2.heap.objs.size (.lst [])) fp) [] (v0::v1::σ) H' s7/\tn i s7.heap/\(∀ b∈fp,H' b=none)/\W i m ys H':=fun {s7 H7 ys' w0 w1} I7 hw=>by
    obtain ⟨m',hm,w7⟩:=hw
    refine ⟨m',hm,i+1,ys',w0,w1,H7,I7.Ge,T.keep _ _ _ st6 fun b hb o e=>(I7.pin (b,o) (List.mem_append_right _ (List.mem_append_right _ (Dq hb e)))).1,fun b hb=>?_,w7⟩
    obtain ⟨o,e,d⟩:=T.obj _ _ st6 b hb
    exact (I7.pin (b,o) (List.mem_append_right _ (List.mem_append_right _ (Dq hb e)))).2.1
   refine M7 (hg _ _ _ _ _ s6 (v0::v1::σ) H6 xv u _ I6' r6 (step xv H6 y6 v0 v1)) fun _ s7 ⟨σ7,H7,I7,⟨w0,w1,e7⟩,q7⟩=>?_
   subst e7
   refine M7 (ht _ _ _ _ _ s7 (w0::w1::σ) H7 _ I7 q7) fun b s8 hq0=>?_
   obtain ⟨H8,I8,q8⟩:=hq0
   cases b with
   | false =>
    rw [if_neg Bool.false_ne_true] at q8 ⊢
    exact again I8 q8
   | true =>
    rw [if_pos rfl] at q8 ⊢
    refine M7 (he _ _ _ _ _ s8 (w0::w1::σ) H8 _ I8 q8) fun y s9 hq0=>?_
    obtain ⟨yv,H9,I9,r9,hD9,hz9,q9⟩:=hq0
    refine M7 (Bp (X:=Bg X x z scope s3.heap.objs.size s3 (upd H2 s2.heap.objs.size (.lst [])) fp) _ s9 (w0::w1::σ) H9 (.ref s2.heap.objs.size) [yv] (.ref s2.heap.objs.size) [y] (fun _ H'=>H'=upd H9 s2.heap.objs.size (.lst (ys++[yv]))) I9 rfl (.cons r9 .nil)
     ⟨_,ys,yv,rfl,rfl,hD9,hz9,rfl⟩) fun _ s10 ⟨_,H10,I10,_,e10⟩=>?_
    subst e10
    exact again I10 q9
 have key:=fun tk=>codeAny_compStart_list (R:=RR (.ref s2.heap.objs.size) s3.heap.objs.size) (loop tk) (T.self X.A 0 { s3 with heap:=h₁,toks:=tk } (fun it' s'=>codeAny (model X.prog X.w) X.A (.compLoop (.ListComp elt [⟨tg,iter,ifs,0⟩] scope pos) 0 it' (.ref s2.heap.objs.size) (compEnvC scope (Ck X.env scope.names []) s3.heap.objs.size X.env)) (RR (.ref s2.heap.objs.size) s3.heap.objs.size) s') _ st3 (loop tk))
 subst hs3
 exact key _
theorem Rt {tg:Expr} {pos:Pos} {iter elt:Expr} {ifs:List Expr} {wi:TI} {g:TG} {tt:TT} {te:TE} (hc:X.calm=true) (S:Dr X x z scope) (hi:PI X tg iter wi) (hg:∀ C s₀ H₀ fp,PG (Bg X x z scope C s₀ H₀ fp) tg g)
  (ht:∀ C s₀ H₀ fp,Lg (Bg X x z scope C s₀ H₀ fp) ifs tt) (he:∀ C s₀ H₀ fp,PE (Bg X x z scope C s₀ H₀ fp) elt te) (hs:∀ x,foldedSetIterable iter X.env x=pure x:=by intro _; rfl) :
  PE X (.ListComp elt [⟨tg,iter,ifs,0⟩] scope pos) (Qw wi g tt te):=by
 intro pins s σ H Q I h
 rw [eval_ListComp]
 refine wpAny_comprehension_free (use:=none) (cl:=Ck X.env scope.names []) rfl hs (HD fun y hy hk=>I.ok.has y.1 (S.free y hy hk)) S.kind S.names (CG (hi pins s σ H _ I h) fun v s1 h1=>CG h1 fun itv s2 h2=>?_)
 refine byC fun w_=>?_;obtain ⟨it,fp,tn,J,H2,e,I2,T,st2,f2,q⟩:=h2;refine w_ ?_
 subst e
 refine Li (RR:=fun acc C=>compPost (model X.prog X.w) X.A X.xe none (EP X pins σ Q) acc C) (Q:=Q) hc S hg ht he I2 T st2 f2 q ?_
 intro D C s' H' m hn hf hI hq
 exact ⟨m,hn,fun h' sb=>⟨.ref D,H',hI.sameBut hf sb,rfl,hq⟩⟩
end
end L2
namespace L2
open PySem PySem.Spec PySem.Calls PyProof.Rows
theorem Ao.tup {K:PySem.W.Frag} {H H':Hp} {a:Addr} {xs:List V} (e:Ao H H') (h:Ey K H a xs):Ey K H' a xs:=by
 rcases h with (h | ⟨o,h⟩) | h
 ·exact .inl (.inl (e _ _ h))
 ·exact .inl (.inr ⟨o,e _ _ h⟩)
 ·exact .inr h
noncomputable def TupAt (H:Hp) (zs:List V) (y:V):Prop:=∃ T,y=.ref T/\H T=some (.tup zs)
theorem TupAt.mono {H H':Hp} {zs:List V} {y:V} (s:Ao H H') (h:TupAt H zs y):TupAt H' zs y:=let ⟨T,e,q⟩:=h; ⟨T,e,s _ _ q⟩
theorem TupAt.upd {H:Hp} {zs ys ws:List V} {y:V} {D:Addr} (h:TupAt H zs y) (hD:H D=some (.lst ys)):TupAt (upd H D (.lst ws)) zs y:=by
 obtain ⟨T,e,q⟩:=h
 refine ⟨T,e,?_⟩
 rw [An fun z=>by rw [z,hD] at q; cases q]
 exact q
theorem Ay {α:Type} {H:Hp} {f:α->List V} {l:List α} {vs ys ws:List V} {D:Addr} (h:Paired (fun a y=>TupAt H (f a) y) l vs) (hD:H D=some (.lst ys)):Paired (fun a y=>TupAt (upd H D (.lst ws)) (f a) y) l vs:=Paired.Ex h fun _ _ q=>q.upd hD
theorem Aj {α:Type} {H H':Hp} {f:α->List V} {l:List α} {vs:List V} (s:Ao H H') (h:Paired (fun a y=>TupAt H (f a) y) l vs):Paired (fun a y=>TupAt H' (f a) y) l vs:=Paired.Ex h fun _ _ q=>q.mono s
noncomputable def K_ (x z:Str) (scope osc:Scope) (N:List Str):Bool :=
 (scope.kind == .function) && scope.names.all (fun y=>y.2 != .cell && (y.2 != .local || scope.names.lookup y.1 == some .local) && (y.2 != .free || osc.names.lookup y.1 == some .cell || osc.names.lookup y.1 == some .free)) && (scope.names.lookup x == some .local) && (scope.names.lookup z == some .local) &&
 decide ((x::z::N).Nodup) && N.all (fun y=>scope.names.lookup y != some .local)
theorem Mv {X:Cx} {x z:Str} {scope osc:Scope} {N:List Str} (hsc:X.env.scope=osc) (hN:X.N=N) (h:K_ x z scope osc N=true):Dr X x z scope:=by
 unfold K_ at h
 simp only [Bool.and_eq_true] at h
 obtain ⟨⟨⟨⟨⟨h1,h2⟩,h3⟩,h3'⟩,h4⟩,h5⟩:=h
 rw [List.all_eq_true] at h2 h5
 have kind:∀ y,X.env.kindOf y=osc.names.lookup y:=fun y=>by show X.env.scope.names.lookup y=_; rw [hsc]
 refine ⟨by simpa using h1,fun y hy=>?_,fun y hy hk=>?_,by simpa using h3,by simpa using h3',fun y hy hk=>?_,by rw [hN]; exact of_decide_eq_true h4,fun y hy=>?_⟩
 ·have:=h2 y hy
  simp only [Bool.and_eq_true,bne_iff_ne] at this
  exact this.1.1
 ·have:=h2 y hy
  simp only [Bool.and_eq_true] at this
  simpa [hk] using this.1.2
 ·have:=h2 y hy
  simp only [Bool.and_eq_true] at this
  rw [kind]
  simpa [hk] using this.2
 ·have:=h5 y (by rw [← hN]; exact hy)
  simpa using this
section
variable {X:Cx} {x z:Str} {scope:Scope}
theorem T8 {px pz pos:Pos} {k:Nat} {C:Addr} {s₀:Shared} {H₀:Hp} {fp:List Addr} (hc:X.calm=true) (S:Dr X x z scope) :
  PG (Bg X x z scope C s₀ H₀ fp) (.Tuple [.Name x px,.Name z pz] k pos) (UV X.K 2 (JM (DR 0) (JM (DR 1) Uo))):=by
 have l1:(Bg X x z scope C s₀ H₀ fp).env.scope.names.lookup x=some .local:=lookup_relabel_local S.loc
 have l2:(Bg X x z scope C s₀ H₀ fp).env.scope.names.lookup z=some .local:=lookup_relabel_local S.loz
 exact Ks (X:=Bg X x z scope C s₀ H₀ fp) (n:=2) hc (Dz (Bx (X:=Bg X x z scope C s₀ H₀ fp) (i:=0) S.nd rfl (.inl l1) (.inr l1)) (Dz (Bx (X:=Bg X x z scope C s₀ H₀ fp) (i:=1) S.nd rfl (.inl l2) (.inr l2)) Iu))
theorem Tc {px pz tpos:Pos} {k:Nat} {pos:Pos} {iter elt:Expr} {ifs:List Expr} {wi:TI} {tt:TT} {te:TE} (hc:X.calm=true) (S:Dr X x z scope) (hi:PI X (.Tuple [.Name x px,.Name z pz] k tpos) iter wi)
  (ht:∀ C s₀ H₀ fp,Lg (Bg X x z scope C s₀ H₀ fp) ifs tt) (he:∀ C s₀ H₀ fp,PE (Bg X x z scope C s₀ H₀ fp) elt te) (hs:∀ x,foldedSetIterable iter X.env x=pure x:=by intro _; rfl) :
  PE X (.ListComp elt [⟨.Tuple [.Name x px,.Name z pz] k tpos,iter,ifs,0⟩] scope pos) (Qw wi (UV X.K 2 (JM (DR 0) (JM (DR 1) Uo))) tt te) :=
 Rt hc S hi (fun _ _ _ _=>T8 hc S) ht he hs
end
section
variable {σ:St} {H1:Hp} {Q:VK} {tt:TT} {te:TE}
theorem DG {K:PySem.W.Frag} {a:Addr} {xs:List V} (p:V->Bool) (f:V->V) (hl:Cp K H1 a xs) (hz:xs.length<sizeLine)
  (ht:∀ x∈xs,∀ H,Ao H1 H->∀ R:Bool->Hp->Prop,(∀ H',Ao H H'->R (p x) H')->tt (some x::σ) H R)
  (he:∀ x∈xs,p x=true->∀ H,Ao H1 H->∀ R:VK,(∀ H',Ao H H'->R (f x) H')->te (some x::σ) H R)
  (hq:∀ D H,H1 D=none->Ao H1 H->H D=some (.lst ((xs.filter p).map f))->Q (.ref D) H):Fp (Wm K a) σ H1 Q tt te :=
 GZ p f hz (fun i H x hs hx=>⟨xs,x,hs.seq hl,hx⟩) (fun i H y H' hs _ hy=>⟨hy.1,hy.2 xs (hs.seq hl)⟩) (fun H hs=>⟨xs,hs.seq hl,Nat.le_refl _⟩) ht he hq
theorem Jv {J:It} {xs:List V} (p:V->Bool) (f:V->List V) (hz:xs.length<sizeLine)
  (hgo:∀ i H x,Ao H1 H->xs[i]? = some x->J.go i H) (hy:∀ i H y H',Ao H1 H->i<xs.length->J.yld i H y H'->H'=H/\xs[i]? = some y) (hstop:∀ H,Ao H1 H->J.stop xs.length H)
  (ht:∀ x∈xs,∀ H,Ao H1 H->∀ R:Bool->Hp->Prop,(∀ H',Ao H H'->R (p x) H')->tt (some x::σ) H R)
  (he:∀ x∈xs,p x=true->∀ H,Ao H1 H->∀ R:VK,(∀ y H',Ao H H'->TupAt H' (f x) y->R y H')->te (some x::σ) H R)
  (hq:∀ D H ys,H1 D=none->Ao H1 H->H D=some (.lst ys)->Paired (fun x y=>TupAt H (f x) y) (xs.filter p) ys->Q (.ref D) H):Fp J σ H1 Q tt te:=by
 intro D hD
 have s0:Ao H1 (upd H1 D (.lst [])):=fun b o e=>by rw [An (Al e hD)]; exact e
 refine ⟨fun i m ys H=>m=xs.length - i/\i<=xs.length/\H D=some (.lst ys)/\Paired (fun x y=>TupAt H (f x) y) ((xs.take i).filter p) ys/\Ao H1 H,⟨xs.length,by simp,Nat.zero_le _,Ah,by simpa using Paired.nil,s0⟩,?_⟩
 rintro i m ys H ⟨rfl,hi,hd,hp,hs⟩
 by_cases hlt:i<xs.length
 ·obtain ⟨x,hx⟩:∃ x,xs[i]? = some x:=⟨xs[i],by simp [hlt]⟩
  refine .inr ⟨hgo i H x hs hx,fun y H3 hyl=>?_⟩
  obtain ⟨rfl,hy'⟩:=hy i H y H3 hs hlt hyl
  rw [hx] at hy'
  cases hy'
  have hm:x∈xs:=List.mem_of_getElem? hx
  have hlen:ys.length<sizeLine:=by
   rw [← hp.length]
   refine Nat.lt_of_le_of_lt (List.length_filter_le _ _) (Nat.lt_of_le_of_lt ?_ hz)
   rw [List.length_take]; omega
  refine ht x hm _ hs _ fun H4 s4=>?_
  by_cases hpx:p x=true
  ·rw [if_pos hpx]
   refine he x hm hpx H4 (hs.trans s4) _ fun y H5 s5 hφ=>?_
   refine ⟨s5 _ _ (s4 _ _ hd),hlen,xs.length - (i+1),by omega,rfl,hlt,Ah,?_,fun b o e=>?_⟩
   ·rw [take_succ_filter p xs i x hx,if_pos hpx]
    exact (Ay (Aj (s4.trans s5) hp) (s5 _ _ (s4 _ _ hd))).snoc (hφ.upd (s5 _ _ (s4 _ _ hd)))
   ·rw [An (Al e hD)]; exact s5 _ _ (s4 _ _ (hs _ _ e))
  ·rw [if_neg hpx]
   refine ⟨xs.length - (i+1),by omega,rfl,hlt,s4 _ _ hd,?_,hs.trans s4⟩
   rw [take_succ_filter p xs i x hx,if_neg hpx,List.append_nil]
   exact Aj s4 hp
 ·have e:i=xs.length:=by omega
  subst e
  rw [List.take_length] at hp
  exact .inl ⟨hstop H hs,hq D H ys hD hs hd hp⟩
theorem Hm {K:PySem.W.Frag} {a:Addr} {xs:List V} (p:V->Bool) (f:V->List V) (hl:Cp K H1 a xs) (hz:xs.length<sizeLine)
  (ht:∀ x∈xs,∀ H,Ao H1 H->∀ R:Bool->Hp->Prop,(∀ H',Ao H H'->R (p x) H')->tt (some x::σ) H R)
  (he:∀ x∈xs,p x=true->∀ H,Ao H1 H->∀ R:VK,(∀ y H',Ao H H'->TupAt H' (f x) y->R y H')->te (some x::σ) H R)
  (hq:∀ D H ys,H1 D=none->Ao H1 H->H D=some (.lst ys)->Paired (fun x y=>TupAt H (f x) y) (xs.filter p) ys->Q (.ref D) H):Fp (Wm K a) σ H1 Q tt te :=
 Jv p f hz (fun i H x hs hx=>⟨xs,x,hs.seq hl,hx⟩) (fun i H y H' hs _ hy=>⟨hy.1,hy.2 xs (hs.seq hl)⟩) (fun H hs=>⟨xs,hs.seq hl,Nat.le_refl _⟩) ht he hq
theorem Ky {α β:Type} {F:α->β->Prop} (g:Nat->α):∀ {n:Nat} {l:List α} {ys:List β},Paired F l ys->l=(List.range n).map g->Paired (fun i y=>F (g i) y) (List.range n) ys:=by
 intro n
 have key:∀ (js:List Nat) (ys:List β),Paired F (js.map g) ys->Paired (fun i y=>F (g i) y) js ys:=by
  intro js
  induction js with
  | nil=>intro ys h; cases h; exact .nil
  | cons j js ih =>
   intro ys h
   cases h with
   | cons a b=>exact .cons a (ih _ b)
 intro l ys h e
 subst e
 exact key _ _ h
theorem Qm {n:Nat} (f:Nat->List V) (hz:n<sizeLine)
  (he:∀ i:Nat,i<n->∀ H,Ao H1 H->∀ R:VK,(∀ y H',Ao H H'->TupAt H' (f i) y->R y H')->te (some (.int (i:Int))::σ) H R)
  (hq:∀ D H ys,H1 D=none->Ao H1 H->H D=some (.lst ys)->Paired (fun i y=>TupAt H (f i) y) (List.range n) ys->Q (.ref D) H):Fp (VF 0 n) σ H1 Q UL te:=by
 let g:V->Nat:=fun v=>match v with | .int i=>i.toNat | _=>0
 have hxs:∀ i:Nat,i<n->((List.range n).map fun (i:Nat)=>V.int (i:Int))[i]? = some (.int i):=fun i hi=>by simp [hi]
 refine Jv (xs:=(List.range n).map fun (i:Nat)=>V.int (i:Int)) (fun _=>true) (fun v=>f (g v)) (by simpa using hz) (fun i H x _ hx=>?_) (fun i H y H' _ hi hy=>?_) (fun H _=>?_) (fun x hx H hs R k=>k H (Ao.refl H)) (fun x hx _ H hs R k=>?_) (fun D H ys h1 h2 h3 h4=>?_)
 ·have:i<((List.range n).map fun (i:Nat)=>V.int (i:Int)).length:=(List.getElem?_eq_some_iff.mp hx).1
  show i<n
  simpa using this
 ·obtain ⟨e1,e2⟩:=hy
  have hi':i<n:=by simpa using hi
  refine ⟨e1,?_⟩
  rw [hxs i hi',e2,Int.zero_add]
 ·show n<=_
  simp
 ·obtain ⟨i,hi,rfl⟩:=List.mem_map.mp hx
  exact he i (List.mem_range.mp hi) H hs R k
 ·rw [List.filter_eq_self.mpr (fun _ _=>rfl)] at h4
  exact hq D H ys h1 h2 h3 (Ky (F:=fun x y=>TupAt H (f (g x)) y) (fun i=>V.int (i:Int)) h4 rfl)
theorem R7 {K:PySem.W.Frag} {a b:Addr} {xs ys:List V} (f:V->V->V) (hx:Ey K H1 a xs) (hy:Ey K H1 b ys) (hl:xs.length=ys.length) (hz:xs.length<sizeLine)
  (he:∀ (i:Nat) x y,xs[i]? = some x->ys[i]? = some y->∀ H,Ao H1 H->∀ R:VK,(∀ H',Ao H H'->R (f x y) H')->te (some x::some y::σ) H R)
  (hq:∀ D H,H1 D=none->Ao H1 H->H D=some (.lst (List.zipWith f xs ys))->Q (.ref D) H):Kd (eO K a b) σ H1 Q (UV K 2 (JM (DR 0) (JM (DR 1) Uo))) UL te:=by
 intro D hD
 have s0:Ao H1 (upd H1 D (.lst [])):=fun b o e=>by rw [An (Al e hD)]; exact e
 refine ⟨fun i m zs H=>m=xs.length - i/\i<=xs.length/\zs=(List.zipWith f xs ys).take i/\H D=some (.lst zs)/\Ao H1 H,⟨xs.length,by simp,Nat.zero_le _,by simp,Ah,s0⟩,?_⟩
 rintro i m zs H ⟨rfl,hi,rfl,hd,hs⟩
 have hzl:(List.zipWith f xs ys).length=xs.length:=by rw [List.length_zipWith]; omega
 by_cases hlt:i<xs.length
 ·have ex:xs[i]? = some xs[i]:=List.getElem?_eq_getElem hlt
  have ey:ys[i]? = some ys[i]:=List.getElem?_eq_getElem (hl ▸ hlt)
  refine .inr ⟨⟨xs,ys,_,_,hs.tup hx,hs.tup hy,ex,ey⟩,fun v H3 hv v0 v1=>?_⟩
  obtain ⟨T,hT,rfl,hv⟩:=hv
  obtain ⟨x,y,qx,qy,rfl⟩:=hv xs ys (hs.tup hx) (hs.tup hy)
  have s3:Ao H (upd H T (.tup [x,y])):=fun b o e=>by rw [An (Al e hT)]; exact e
  refine ⟨T,[x,y],rfl,.inl (.inl Ah),rfl,x,[y],rfl,y,[],rfl,rfl,⟨_,_,rfl⟩,?_⟩
  unfold UL
  dsimp only
  rw [if_pos rfl]
  refine he i x y qx qy _ (hs.trans s3) _ fun H5 s5=>?_
  refine ⟨s5 _ _ (s3 _ _ hd),?_,xs.length - (i+1),by omega,rfl,hlt,?_,Ah,fun b o e=>?_⟩
  ·rw [List.length_take,hzl]
   omega
  ·rw [List.take_add_one,List.getElem?_zipWith,qx,qy]
   rfl
  ·rw [An (Al e hD)]
   exact s5 _ _ (s3 _ _ (hs _ _ e))
 ·have e:i=xs.length:=by omega
  subst e
  rw [← hzl,List.take_length] at hd
  exact .inl ⟨⟨xs,hs.tup hx,Nat.le_refl _⟩,hq D H hD hs hd⟩
end
theorem Iw {K:PySem.W.Frag} {a:Addr} {xs:List V} {g:TG} {tb:TS} {D:Ends} {σ:St} {H:Hp} (Pv:Nat->St->Hp->Prop) (h0:Pv 0 σ H) (hl:∀ i σ H,i<=xs.length->Pv i σ H->Cp K H a xs)
  (hb:∀ (i:Nat) x σ H T,xs[i]? = some x->Pv i σ H->H T=none->g (.ref T) σ (upd H T (.tup [.int (i:Int),x])) fun σ' H'=>tb { D with nx:=Pv (i+1),ct:=Pv (i+1),bk:=D.nx } σ' H')
  (hn:∀ σ H,Pv xs.length σ H->D.nx σ H):∃ W:Nat->Nat->St->Hp->Prop,(∃ m,W 0 m σ H)/\∀ i m σ H,W i m σ H ->
   ((X7 K a).stop i H/\D.nx σ H) \/ ((X7 K a).go i H/\∃ N:St->Hp->Prop,(∀ σ H,N σ H->∃ m',m'<m/\W (i+1) m' σ H)/\∀ x H',(X7 K a).yld i H x H'->g x σ H' fun σ' H''=>tb { D with nx:=N,ct:=N,bk:=D.nx } σ' H''):=by
 refine ⟨fun i m σ H=>m=xs.length - i/\i<=xs.length/\Pv i σ H,⟨_,rfl,Nat.zero_le _,h0⟩,?_⟩
 rintro i m σ H ⟨rfl,hi,hp⟩
 by_cases hlt:i<xs.length
 ·refine .inr ⟨⟨xs,_,hl i σ H hi hp,List.getElem?_eq_getElem hlt⟩,Pv (i+1),fun σ' H' h=>⟨xs.length - (i+1),by omega,rfl,hlt,h⟩,fun v H' hv=>?_⟩
  obtain ⟨T,hT,rfl,hv⟩:=hv
  obtain ⟨x,qx,rfl⟩:=hv xs (hl i σ H hi hp)
  exact hb i x σ H T qx hp hT
 ·have e:i=xs.length:=by omega
  subst e
  exact .inl ⟨⟨xs,hl _ σ H hi hp,Nat.le_refl _⟩,hn σ H hp⟩
end L2
namespace L2
open PySem PySem.Spec PySem.Calls PyProof.Rows
section
variable {prog:Program} {w:World} {A:Around} {E:Value->Shared->Prop} {s:Shared} {K:PySem.W.Frag} {x C:Addr} {ox:Obj} {od:Option Obj} {name:Str} {tk:Tok} {R:Result->Shared->Prop}
end
end L2
namespace L2
open PySem PySem.Spec PySem.Calls PyProof.Rows
section
variable {prog:Program} {w:World} {A:Around} {E:Value->Shared->Prop} {K:PySem.W.Frag} {C:Addr} {h:Heap} {g:Array GenState} {d:Drawn} {t:Nat} {os:OsState}
end
end L2
namespace L2
open PySem PySem.Spec PySem.Calls PyProof.Rows
noncomputable def Xc (x C:Addr) (od:Option Addr):HO:=.ext fun h=>∃ (d:Data) (sl:Array (Option Value)),h.get? x=some ⟨.ref C,od,d,sl⟩/\PySem.W.notCls ⟨.ref C,od,d,sl⟩=true
noncomputable def iI (dx:Addr) (fs:List (Str × V)):HO:=.ext fun h=>∃ mA,h.Ns1 dx mA/\∀ f,GK (fs.lookup f) (mA f)
section
variable {P:Program} {w:World} {H H':Hp} {h:Heap} {x C dx:Addr} {od:Option Addr} {fs:List (Str × V)}
inductive VR (H:Hp) (x C:Addr):List (Str × V)->Prop where
 | bare (e:H x=some (Xc x C none)):VR H x C []
 | full {dx:Addr} {fs:List (Str × V)} (e:H x=some (Xc x C (some dx))) (d:H dx=some (iI dx fs)):VR H x C fs
end
section
variable {P:Program} {w:World} {X:Cx} {pins:List (Addr × Obj)} {σ:St} {H:Hp} {s:Shared} {h':Heap} {a:Addr} {o:HO}
end
section
variable {X:Cx} {C:Addr} {x:Str} {e:Expr} {es:List Expr} {t:TA} {p pos:Pos}
end
section
variable {X:Cx} {e:Expr} {f:Str} {pos:Pos} {ta:TE}
end
section
variable {prog:Program} {w:World} {A:Around} {E:Value->Shared->Prop} {s:Shared} {K:PySem.W.Frag} {x C:Addr} {name:Str} {v:Value} {R:Result->Shared->Prop} {d:Data} {sl:Array (Option Value)}
end
section
variable {X:Cx} {pins:List (Addr × Obj)} {σ:St} {H:Hp} {s:Shared} {h':Heap} {x C dx:Addr} {f:Str} {y:V} {u:Value}
end
section
variable {X:Cx} {o value:Expr} {f:Str} {pos pos':Pos} {ta tv:TE}
end
section
variable {X:Cx} {C f:Addr} {fd:FuncData} {ps:List Str} {sp:Sp} {k:Nat} {x:Str} {e:Expr} {es:List Expr} {t:TA} {p pos:Pos}
end
theorem Mm {x:V} (h:Fe x=true):QC x x=true:=by
 cases x with
 | non=>rfl
 | bl b=>simp [QC]
 | int i=>simp [QC]
 | str z=>simp [QC]
 | _=>exact absurd (show false=true from h) Bool.false_ne_true
section
variable {X:Cx}
theorem GQ {xs:List V} {us:List Value} {j:Nat} (r:Vals xs us) (hj:j<us.length):RelV (xs.getD j .non) us[j]:=by
 have hl:=r.length
 have hx:xs[j]? = some xs[j]:=by simp [hl,hj]
 obtain ⟨u,hu,ru⟩:=r.get hx
 rw [List.getElem?_eq_getElem hj] at hu
 cases hu
 have e:xs.getD j .non=xs[j]:=by simp [hl,hj]
 rw [e]
 exact ru
end
end L2
namespace Wd
noncomputable def mk (l:List Nat):Nat:=l.foldl (fun s n=>s ||| 2 ^ n) 0
noncomputable def len (n:Nat):Nat:=if n=0 then 0 else n.log2+1
noncomputable def mem (n:Nat):List Nat:=(List.range (len n)).filter n.testBit
noncomputable def stay (l:List Nat) (k:Int) (c:Nat):List Nat:=l.filter fun n=>decide (0<=(n:Int)+k) && decide ((n:Int)+k<c)
theorem Tj (l:List Nat) (n:Nat):mk (l++[n])=mk l ||| 2 ^ n:=by
 unfold mk; rw [List.foldl_append]; rfl
end Wd
namespace L2
open PySem PySem.Spec PySem.Calls PyProof.Rows
section
variable {X:Cx} {es:List Expr} {k1:Nat} {tpos:Pos}
end
theorem Te (a b:Nat):Builtin.bitOr (a:Int) (b:Int)=((a ||| b:Nat):Int):=by
 have h1:¬ 0<=Builtin.bitNot (a:Int):=by unfold Builtin.bitNot; omega
 have h2:¬ 0<=Builtin.bitNot (b:Int):=by unfold Builtin.bitNot; omega
 have nn:∀ x:Int,Builtin.bitNot (Builtin.bitNot x)=x:=fun x=>by unfold Builtin.bitNot; omega
 unfold Builtin.bitOr
 rw [bitAnd_nn h1 h2,nn,nn,nn]
 simp
theorem Ss (k:Nat):(2:Int) ^ k=((2 ^ k:Nat):Int):=by simp
end L2
namespace Wd
open PySem
noncomputable abbrev Ut (xs:Array Nat):Prop:=xs.toList.Pairwise (· < ·)
theorem NB {xs:Array Nat} (r:Ut xs) {i k:Nat} (h:i<k) (hk:k<xs.size):xs.getD i 0<xs.getD k 0:=by
 have hi:i<xs.size:=Nat.lt_trans h hk
 have:=(List.pairwise_iff_getElem.mp r) i k (by simpa using hi) (by simpa using hk) h
 simpa [Array.getD,hi,hk] using this
structure Cut (xs:Array Nat) (j p:Nat):Prop where
 le:p<=xs.size
 lo:∀ i,i<p->xs.getD i 0<j
 hi:∀ i,p<=i->i<xs.size->j<=xs.getD i 0
theorem Iz {xs:Array Nat} (r:Ut xs) (j:Nat):∀ (fuel lo hi:Nat),hi<=xs.size->hi - lo<=fuel->lo<=hi->(∀ i,i<lo->xs.getD i 0<j)->(∀ i,hi<=i->i<xs.size->j<=xs.getD i 0)->Cut xs j (SetTable.below.go xs j fuel lo hi)
 | 0,lo,hi,h1,h2,h3,a,b=>by
  have e:lo=hi:=by omega
  subst e
  exact ⟨h1,a,b⟩
 | fuel+1,lo,hi,h1,h2,h3,a,b=>by
  unfold SetTable.below.go
  split
  ·rename_i hlt
   have hm:(lo+hi) / 2<xs.size:=by omega
   have e:xs.getD ((lo+hi) / 2) j=xs.getD ((lo+hi) / 2) 0:=by simp [Array.getD,hm]
   dsimp only
   rw [e]
   by_cases hj:xs.getD ((lo+hi) / 2) 0<j
   ·rw [if_pos hj]
    refine Iz r j fuel ((lo+hi) / 2+1) hi h1 (by omega) (by omega) (fun i hi'=>?_) b
    by_cases q:i=(lo+hi) / 2
    ·rw [q]; exact hj
    ·have:=NB r (i:=i) (k:=(lo+hi) / 2) (by omega) hm
     omega
   ·rw [if_neg hj]
    refine Iz r j fuel lo ((lo+hi) / 2) (by omega) (by omega) (by omega) a fun i hi' hs=>?_
    by_cases q:i=(lo+hi) / 2
    ·rw [q]; omega
    ·have:=NB r (i:=(lo+hi) / 2) (k:=i) (by omega) hs
     omega
  ·have e:lo=hi:=by omega
   subst e
   exact ⟨h1,a,b⟩
theorem J9 {xs:Array Nat} (r:Ut xs) (j:Nat):Cut xs j (SetTable.below xs j) :=
 Iz r j xs.size 0 xs.size (Nat.le_refl _) (by omega) (Nat.zero_le _) (fun i h=>absurd h (Nat.not_lt_zero _)) (fun i h1 h2=>absurd h2 (by omega))
theorem Nq {xs:Array Nat} {j:Nat} (r:Ut xs) (h:xs[SetTable.below xs j]? ≠ some j):j ∉ xs.toList:=fun hm=>by
 have c:=J9 r j
 obtain ⟨i,hi,e⟩:=List.mem_iff_getElem.mp hm
 have hi':i<xs.size:=by simpa using hi
 have ei:xs.getD i 0=j:=by simpa [Array.getD,hi'] using e
 have h1:SetTable.below xs j<=i:=by
  rcases Nat.lt_or_ge i (SetTable.below xs j) with q | q
  ·have:=c.lo i q; omega
  ·exact q
 have h2:SetTable.below xs j<xs.size:=Nat.lt_of_le_of_lt h1 hi'
 have h3:=c.hi _ (Nat.le_refl _) h2
 have h4:SetTable.below xs j=i:=by
  rcases Nat.lt_or_ge (SetTable.below xs j) i with q | q
  ·have:=NB r q hi'; omega
  ·omega
 refine h ?_
 have e':xs[i]=j:=by simpa [Array.getD,hi'] using ei
 rw [h4,Array.getElem?_eq_getElem hi',e']
theorem M_ {xs:Array Nat} {j:Nat} (r:Ut xs) (h:xs[SetTable.below xs j]? ≠ some j):Ut (SetTable.insertAt xs (SetTable.below xs j) j):=by
 have c:=J9 r j
 have nm:=Nq r h
 show (SetTable.insertAt xs (SetTable.below xs j) j).toList.Pairwise _
 rw [SetTable.toList_insertAt,List.pairwise_append,List.pairwise_cons]
 have lt1:∀ a∈xs.toList.take (SetTable.below xs j),a<j:=fun a ha=>by
  obtain ⟨i,hi,e⟩:=List.mem_iff_getElem.mp ha
  rw [List.length_take] at hi
  have hi2:i<xs.size:=by simp at hi; omega
  have:=c.lo i (by omega)
  simp [Array.getD,hi2] at this
  rw [List.getElem_take] at e
  rw [← e]
  simpa using this
 have lt2:∀ a∈xs.toList.drop (SetTable.below xs j),j<a:=fun a ha=>by
  obtain ⟨i,hi,e⟩:=List.mem_iff_getElem.mp ha
  rw [List.length_drop] at hi
  have hi2:SetTable.below xs j+i<xs.size:=by simp at hi; omega
  have:=c.hi (SetTable.below xs j+i) (Nat.le_add_right _ _) hi2
  simp [Array.getD,hi2] at this
  rw [List.getElem_drop] at e
  have hle:j<=a:=by rw [← e]; simpa using this
  have hne:j ≠ a:=fun z=>nm (by rw [z]; exact List.mem_of_mem_drop ha)
  omega
 exact ⟨r.sublist (List.take_sublist _ _),⟨lt2,r.sublist (List.drop_sublist _ _)⟩,fun a ha b hb=>by
  rcases List.mem_cons.mp hb with e | hb
  ·rw [e]; exact lt1 a ha
  ·have:=lt1 a ha; have:=lt2 b hb; omega⟩
theorem QV {t:SetTable} {j:Nat} (h:∀ i,t.slot j ≠ .live i):t.place[SetTable.below t.place j]? ≠ some j:=fun e=>by
 refine h (SetTable.below t.place j) ?_
 unfold SetTable.slot
 dsimp only
 rw [e]
 simp
theorem Gy (t:SetTable) (p:SetTable.Probe):(t.advance p).dummy=p.dummy:=by
 unfold SetTable.advance
 split <;> rfl
theorem G4 {t:SetTable} {f:Nat->Int} {h:Int}:∀ (fuel:Nat) (p:SetTable.Probe) (j:Nat) (dm:Option Nat),(∀ d,p.dummy=some d->t.slot d=.dummy)->SetTable.probe.go t f h fuel p=some (.empty j dm) ->
  t.slot j=.empty/\∀ d,dm=some d->t.slot d=.dummy
 | 0,p,j,dm,hd,e=>by unfold SetTable.probe.go at e; cases e
 | fuel+1,p,j,dm,hd,e=>by
  unfold SetTable.probe.go at e
  split at e
  ·rename_i hs
   cases e
   exact ⟨hs,hd⟩
  ·rename_i hs
   refine G4 fuel _ j dm (fun d q=>?_) e
   rw [Gy] at q
   cases q
   exact hs
  ·split at e
   ·cases e
   ·refine G4 fuel _ j dm (fun d q=>?_) e
    rw [Gy] at q
    exact hd d q
theorem QL {t:SetTable} {h:Int} {j:Nat} {d:Bool} (e:t.freeSlot h=some (j,d)):∀ i,t.slot j ≠ .live i:=by
 unfold SetTable.freeSlot at e
 split at e
 ·rename_i j' dm q
  unfold SetTable.probe at q
  obtain ⟨h1,h2⟩:=G4 _ _ _ _ (fun d hd=>by simp [SetTable.probeStart] at hd) q
  cases dm with
  | none=>cases e; intro i z; rw [show (none:Option Nat).getD j'=j' from rfl,h1] at z; cases z
  | some d' =>
   cases e
   intro i z
   rw [show (some d').getD j'=d' from rfl,h2 d' rfl] at z
   cases z
 ·cases e
structure Good (t:SetTable) (led:Bool):Prop where
 led:t.led=led
 ris:t.plain=true->Ut t.place
theorem N5 (led:Bool):Good (.fresh 0 0 led) led:=⟨rfl,fun _=>by simp [SetTable.fresh,Ut]⟩
theorem Fq {t:SetTable} {led:Bool} (g:Good t led) (n:Nat):Good (t.standIn n) led:=⟨g.led,fun h=>by simp [SetTable.standIn] at h⟩
theorem Ud {t:SetTable} {led:Bool} (g:Good t led) (n:Nat):Good (t.orStandIn n) led:=by
 unfold SetTable.orStandIn
 split
 ·exact g
 ·exact Fq g n
theorem RW {t:SetTable} {led:Bool} (g:Good t led) (es:Array (Int × Value)) (h:Int) (x:Value):Good (layNew t es h x).2.1 led:=by
 unfold layNew
 split
 ·rename_i slot wd e
  refine Ud (t:=(t.put slot).1) ⟨g.led,fun hp=>?_⟩ _
  exact M_ (g.ris hp) (QV (QL e))
 ·exact Fq g _
theorem Pb {mask finger moves:Nat} {led plain:Bool} {hs:Array Int} {t:SetTable} {o:Array Nat} (e:SetTable.laid mask finger moves led plain hs=some (t,o)):Good t led/\t.plain=plain:=by
 unfold SetTable.laid at e
 simp only [Option.bind_eq_bind,Option.bind_eq_some_iff] at e
 obtain ⟨owner,_,e⟩:=e
 cases e
 refine ⟨⟨rfl,fun _=>?_⟩,rfl⟩
 show List.Pairwise _ ((List.map _ _).toArray).toList
 rw [List.pairwise_map,List.pairwise_filterMap]
 refine List.pairwise_lt_range.imp fun {a b} hab x hx y hy=>?_
 obtain ⟨u,_,rfl⟩:=Option.map_eq_some_iff.mp hx
 obtain ⟨v,_,rfl⟩:=Option.map_eq_some_iff.mp hy
 exact hab
theorem NK {t:SetTable} {led:Bool} (g:Good t led) (es:Array (Int × Value)) (n:Nat):Good (relayAll t es n).2.1 led:=by
 unfold relayAll
 split
 ·rename_i t' order e
  dsimp only
  split
  ·have:=Pb e
   rw [g.led] at this
   exact this.1
  ·exact Fq g _
 ·exact Fq g _
end Wd
namespace Wd
open PySem PySem.Spec PyProof.Rows
noncomputable def bA (prog:Program) (w:World) (h:Heap) (a:Addr) (led:Bool) (σ:List Int):Prop :=
 ∃ es ep t,h.get? a=some { cls:=.type "set",dict:=none,data:=.set es ep t }/\ElemsOf (intKind prog w) es.toList/\(∀ k,k∈σ ↔ ∃ e∈es.toList,(intKind prog w).is k e.2=true)/\es.size=σ.length/\σ.Nodup /\
  σ.length<scanBound/\t.fits es.size=true/\Good t led
section
variable {prog:Program} {w:World} {A:Around} {E:Value->Shared->Prop} {s:Shared} {a:Addr} {led:Bool} {σ:List Int} {k:Int} {tk:Tok}
theorem PQ {h:Heap} {es es':Array (Int × Value)} {ep:Nat} {t t':SetTable} (ho:h.get? a=some { cls:=.type "set",dict:=none,data:=.set es ep t }) :
  (h.update a (Obj.putSet es' t')).get? a=some { cls:=.type "set",dict:=none,data:=.set es' (ep+1) t' } :=
 (Heap.get?_update_self (Obj.putSet es' t') ho (by rw [putSet_of es' t' rfl]; rfl)).trans (by rw [putSet_of es' t' rfl])
end
end Wd
namespace Wd
open PySem PySem.Spec PyProof.Rows
section
variable {prog:Program} {w:World} {A:Around} {R:Result->Shared->Prop} {I:Addr} {fp wr:List Addr} {G:Array GenState->Array GenState->Prop} {n:Nat} {P:Nat->Value->Prop} {St:Nat->Shared->Prop} {led:Bool}
end
section
variable {prog:Program} {w:World} {A:Around} {E:Value->Shared->Prop} {s:Shared}
noncomputable abbrev Dn (w:World):Bool:=!w.params.followText "set-order"
theorem Xd (a:Value) {Q1:Value->Shared->Prop} (h:Q1 (.ref s.heap.objs.size) { s with heap:=s.heap.push { cls:=.type "set",dict:=none,data:=.set #[] 0 (.fresh 0 0 (Dn w)) } }) :
  codeAny (model prog w) A (.call (.builtin "set.__new__") ⟨[.type "set",a],[]⟩) (wants Q1 E) s:=by
 refine codeAny_of_tree ?_
 show wpAny _ A.in1 (do checkBuiltinCall "set.__new__" ⟨[.type "set",a],[]⟩; again (.builtin "set.__new__" ⟨[.type "set",a],[]⟩)) _ _ s
 refine wpAny_bind (wpAny_of_eq (F.newCall_set_1 a) (wpAny_pure ⟨plainId_quiet F.plain_set_new _,codeAny_builtin F.entry_set_new ?_⟩))
 rw [Around.under_plainId F.plain_set_new _]
 unfold Builtin.«set.__new__» Builtin.Frozenset.newClass
 have hsub:=sub_set_self
 obtain ⟨hp,g,d,tk,os⟩:=s
 dsimp only
 wp_walk
 refine wpAny_askSetting (wpAny_pure ?_)
 dsimp only
 simp only [newObj]
 exact wpAny_bind (wpAny_alloc (wpAny_pure (wpAny_pure h)))
end
end Wd
namespace Wd
open PySem PySem.Spec PyProof.Rows
end Wd
namespace Wd
open PySem PySem.Spec PyProof.Rows
section
variable {M:Model} {A:Around} {E:Value->Shared->Prop}
end
inductive Way (w:World) (a:Addr) (es:Array (Int × Value)) (ep:Nat) (t:SetTable) (h:Heap):(Nat->Value)->List Value->List Addr->Prop where
 | text (hb:w.params.followText "set-order" = true):Way w a es ep t h (fun _=>rawInt 0) ((pickOrder (w.params.setOrder a ep) es).toList.map (·.2)) []
 | drawn {tp:Addr} {ps:List Nat} (hb:w.params.followText "set-order" = false) (hp:ps.Perm (List.range es.size)) (ht:∃ n,h.get? tp=some { cls:=.type "tuple",data:=.seq (ps.map fun (i:Nat)=>rawInt i).toArray n }) :
   Way w a es ep t h (fun _=>.ref tp) (ps.map fun i=>(es.getD i (0,.none)).2) [tp]
 | plain (hb:w.params.followText "set-order" = false) (hd:(!t.plain && decide (es.size > 1))=false) (hl:t.led=true) (hr:Ut t.place) (hs:t.place.size=es.size) :
   Way w a es ep t h (fun i=>rawInt (if i=0 then 0 else t.place.getD (i - 1) 0+1:Nat)) (es.toList.map (·.2)) []
section
variable {prog:Program} {w:World} {A:Around} {E:Value->Shared->Prop} {s:Shared} {a it:Addr} {es:Array (Int × Value)} {ep:Nat} {t:SetTable} {first:Nat->Value} {vs:List Value} {more:List Addr}
end
end Wd
section PartSetJ
set_option maxHeartbeats 1000000
namespace Wd
open PySem PySem.Spec PyProof.Rows
section
variable {prog:Program} {w:World} {A:Around} {E:Value->Shared->Prop} {s:Shared} {a:Addr} {σ:List Int}
end
end Wd
end PartSetJ
section PartSetK
set_option maxHeartbeats 1000000
namespace Wd
open PySem PySem.Spec PyProof.Rows
section
variable {prog:Program} {w:World} {A:Around} {E:Value->Shared->Prop} {s:Shared} {a:Addr} {σ:List Int}
end
end Wd
end PartSetK
namespace L2
open PySem PySem.Spec PyProof.Rows
noncomputable def iV (P:Program) (w:World) (a:Addr) (τ:List Int):HO:=.ext fun h=>Wd.bA P w h a (Wd.Dn w) τ
section
variable {X:Cx} {pins:List (Addr × Obj)} {σ:St} {H:Hp} {s:Shared} {h':Heap} {a:Addr} {o:HO}
end
end L2
namespace L2
open PySem PySem.Spec PyProof.Rows
section
variable {X:Cx}
end
section
variable {prog:Program} {w:World} {A:Around} {E:Value->Shared->Prop} {s:Shared} {r l:Addr}
end
section
variable {X:Cx} {p1 p2 q1 q2:Pos} {e:Expr} {te:TE}
end
end L2
namespace L2
open PySem PySem.Spec PyProof.Rows
noncomputable def ZM (K:PySem.W.Frag) (a:Addr) (xs:List V):It :=
 ⟨fun i H=>Cp K H a xs/\i<xs.length,fun i H x H'=>H'=H/\xs[xs.length - 1 - i]? = some x,fun i H=>Cp K H a xs/\i=xs.length⟩
theorem RG {P:Program} {w:World} {K:PySem.W.Frag} {tg:Expr} (a it:Addr) (xs:List V):Turn P w K tg (ZM K a xs) [it] it (fun i h=>h.IsRevIter it a ((xs.length:Int) - 1 - (i:Nat))) where
 mem:=by simp
 obj:=fun i h st b hb=>by
  have e:b=it:=by simpa using hb
  subst e
  obtain ⟨o,e,c,d⟩:=st
  exact ⟨o,e,fun v z=>by rw [d] at z; cases z⟩
 keep:=fun i h h' st k=>st.at fun o e=>k it (by simp) o e
 item:=by
  intro X hP hw hK hc i pins s σ H E I hf st hg
  subst hP hw hK
  obtain ⟨hq,hlt⟩:=hg
  obtain ⟨its,rv,p,hz⟩:=I.list hq
  have hx:xs[xs.length - 1 - i]? = some (xs[xs.length - 1 - i]'(by omega)):=List.getElem?_eq_getElem (by omega)
  obtain ⟨u,hu,ru⟩:=rv.get hx
  obtain ⟨f0,f1,f2,f3,f4,f5⟩:=hf it (by simp)
  have e:(xs.length:Int) - 1 - ((i:Nat):Int)=((xs.length - 1 - i:Nat):Int):=by omega
  rw [e] at st
  refine wpAny_pyNext_rev_item st p.isList (x:=u) (by simpa using hu) fun h' st' sb=>?_
  have I1:Inv X pins σ H { s with heap:=h' }:=I.turned (t':=s.toks) (fun b o hb e=>(sb.2 b hb).trans e) f0 f1 f3 f4 f5
  have e2:((xs.length - 1 - i:Nat):Int) - 1=(xs.length:Int) - 1 - ((i+1:Nat):Int):=by omega
  rw [e2] at st'
  obtain ⟨o,eo,c,d⟩:=id st'
  exact ⟨u,rfl,Mj (s:={ s with heap:=h' }) eo c d (by decide) ⟨_,H,I1,ru,⟨rfl,hx⟩,st',fun b hb=>(hf b hb).1⟩⟩
 done:=by
  intro X hP hw hK hc i pins s σ H E I hf st hg
  subst hP hw hK
  obtain ⟨hq,rfl⟩:=hg
  obtain ⟨f0,f1,f2,f3,f4,f5⟩:=hf it (by simp)
  have e:(xs.length:Int) - 1 - ((xs.length:Nat):Int) = -1:=by omega
  rw [e] at st
  exact wpAny_pyNext_rev_end (I.ok.hd hc) st fun h' eb=>⟨rfl,I.turned (t':=s.toks) (fun b o hb e=>eb b o hb e) f0 f1 f3 f4 f5⟩
 self:=fun _ _ _ _ _ st h=>wpAny_pyIter_revIter st h
section
variable {X:Cx} {tg:Expr}
noncomputable def cI (K:PySem.W.Frag) (ta:TA):TI:=fun σ H R=>ta σ H fun vs H1=>∃ a xs,vs=[.ref a]/\Cp K H1 a xs/\R (ZM K a xs) H1
theorem WL {l:Expr} {ta:TA} {p pos:Pos} (hg:Gl X "reversed") (hm:X.mg "reversed" = none) (ha:PA X [l] ta) (hs:starEach [l] X.env=[(false,eval l X.env)]:=by rfl):PI X tg (.Call (.Name "reversed" p) [l] [] pos) (cI X.K ta):=by
 intro pins s σ H R I h
 refine Call_ (G_ I hg hm PyProof.Rows.boot_reversed (PyProof.Rows.callWith_type1 (CG (ha pos pins s σ H _ I h) fun us s1 ⟨vs,H1,I1,r1,q1⟩=>?_) hs rfl))
 obtain ⟨a,xs,e,hq,q⟩:=q1
 subst e
 obtain ⟨u,rfl,ru⟩:=vals1 r1
 cases ru
 obtain ⟨its,rv,pl,hz⟩:=I1.list hq
 refine call_reversed_list pl.isList ?_
 have hit:(s1.heap.push (revObj a ((its.toArray.size:Int) - 1))).IsRevIter s1.heap.objs.size a ((its.toArray.size:Int) - 1):=⟨_,Heap.get?_push_size _ rfl,rfl,rfl⟩
 refine wpAny_pyIter_revIter (s:={ s1 with heap:=s1.heap.push (revObj a ((its.toArray.size:Int) - 1)) }) hit ?_
 refine ⟨s1.heap.objs.size,[s1.heap.objs.size],_,_,H1,rfl,I1.kept (t':=s1.toks) fun b o e=>Heap.get?_push_of_some _ e,RG a _ xs,?_,fun b hb=>?_,q⟩
 ·have hl:=rv.length
  have e2:((its.toArray.size:Nat):Int) - 1=(xs.length:Int) - 1 - ((0:Nat):Int):=by
   rw [List.size_toArray]
   omega
  show (s1.heap.push (revObj a ((its.toArray.size:Int) - 1))).IsRevIter s1.heap.objs.size a ((xs.length:Int) - 1 - ((0:Nat):Int))
  rw [← e2]
  exact hit
 ·have e:b=s1.heap.objs.size:=by simpa using hb
  subst e
  exact I1.Kf (Nat.le_refl _) (I1.hok.fresh (Nat.le_refl _))
theorem Ui {K:PySem.W.Frag} {a:Addr} {xs:List V} {g:TG} {tb:TS} {D:Ends} {σ:St} {H:Hp} (Pv:Nat->St->Hp->Prop) (h0:Pv 0 σ H) (hl:∀ i σ H,i<=xs.length->Pv i σ H->Cp K H a xs)
  (hs:∀ i x σ H,i<xs.length->xs[xs.length - 1 - i]? = some x->Pv i σ H->g x σ H fun σ2 H2=>tb { D with nx:=Pv (i+1),ct:=Pv (i+1),bk:=D.nx } σ2 H2) (hd:∀ σ H,Pv xs.length σ H->D.nx σ H) :
  ∃ W:Nat->Nat->St->Hp->Prop,(∃ m,W 0 m σ H)/\∀ i m σ H,W i m σ H ->
   ((ZM K a xs).stop i H/\D.nx σ H) \/ ((ZM K a xs).go i H/\∃ N:St->Hp->Prop,(∀ σ' H',N σ' H'->∃ m',m'<m/\W (i+1) m' σ' H')/\∀ x H',(ZM K a xs).yld i H x H'->g x σ H' fun σ2 H2=>tb { D with nx:=N,ct:=N,bk:=D.nx } σ2 H2):=by
 refine ⟨fun i m σ H=>m=xs.length - i/\i<=xs.length/\Pv i σ H,⟨xs.length,by simp,Nat.zero_le _,h0⟩,?_⟩
 rintro i m σ H ⟨rfl,hi,p⟩
 have q:=hl i σ H hi p
 by_cases hlt:i<xs.length
 ·refine .inr ⟨⟨q,hlt⟩,Pv (i+1),fun σ' H' p'=>⟨xs.length - (i+1),by omega,rfl,by omega,p'⟩,?_⟩
  rintro x H' ⟨rfl,hx⟩
  exact hs i x σ H' hlt hx p
 ·have e:i=xs.length:=by omega
  subst e
  exact .inl ⟨⟨q,rfl⟩,hd σ H p⟩
end
end L2
namespace L2
open PySem PySem.Spec PySem.Calls PyProof.Rows
section
variable {X:Cx}
theorem range_any (bs:List Bool):((List.range bs.length).any fun i=>(bs[i]?).getD false)=bs.any id:=by
 rw [Bool.eq_iff_iff,List.any_eq_true,List.any_eq_true]
 constructor
 ·rintro ⟨i,hi,e⟩
  have hi':=List.mem_range.mp hi
  rw [List.getElem?_eq_getElem hi'] at e
  exact ⟨_,List.getElem_mem hi',e⟩
 ·rintro ⟨b,hb,e⟩
  obtain ⟨i,hi,q⟩:=List.mem_iff_getElem.mp hb
  refine ⟨i,List.mem_range.mpr hi,?_⟩
  rw [List.getElem?_eq_getElem hi,q]
  exact e
theorem JK (hc:X.calm=true):EY X (.builtin "any") (fun xs H Q=>∃ (p:Addr) (bs:List Bool),xs=[V.ref p]/\Cp X.K H p (bs.map V.bl)/\Q (.bl (bs.any id)) H):=by
 intro pins s σ H xs us Q I r h
 obtain ⟨p,bs,rfl,hp,q⟩:=h
 obtain ⟨u,rfl,ru⟩:=vals1 r
 cases ru
 obtain ⟨its,rv,pl,hz⟩:=I.list hp
 have hlen:bs.length=its.length:=by have:=rv.length; rw [List.length_map] at this; exact this
 have hlt:p<s.heap.objs.size:=by obtain ⟨_,e,_⟩:=pl.isList; exact Heap.lt_size e
 refine call_any_walk (wpAny_pyIter_list pl.isList ?_)
 refine ⟨s.heap.objs.size,[s.heap.objs.size,p],[s.heap.objs.size],its.toArray.size,_,_,fun i=>(bs[i]?).getD false,rfl,Walks.list (A:=X.A.in1) (I.ok.hd hc) _ p (Nat.ne_of_lt hlt) its.toArray,
  ⟨⟨_,Heap.get?_push_size _ rfl,rfl,rfl⟩,pl.isList.push _⟩,fun i v s' Q' E' hP hQ=>?_,fun h' tk hk=>?_⟩
 ·have hP':its[i]? = some v:=by simpa using hP
  have hi:i<its.length:=(List.getElem?_eq_some_iff.mp hP').1
  have hb:bs[i]? = some bs[i]:=by simp [hlen,hi]
  obtain ⟨u,hu,ru⟩:=rv.get (i:=i) (x:=.bl bs[i]) (by rw [List.getElem?_map,hb]; rfl)
  rw [hP'] at hu
  cases hu
  cases ru
  dsimp only at hQ
  rw [hb] at hQ
  exact wpAny_truthy_bool hQ
 ·have e:((List.range its.toArray.size).any fun i=>(bs[i]?).getD false)=bs.any id:=by rw [List.size_toArray,← hlen]; exact range_any bs
  rw [e]
  refine ⟨.bl (bs.any id),H,I.kept (t':=tk) fun b o eb=>hk b o (fun hm=>?_) (Heap.get?_push_of_some _ eb),rfl,q⟩
  rw [List.mem_singleton.mp hm] at eb
  exact Nat.lt_irrefl _ (Heap.lt_size eb)
theorem Lf:∀ {ts:List Str} {its:List Value},Vals (ts.map V.str) its->∃ l:List (Str × Tok),its=strValues l/\l.map (·.1)=ts
 | [],_,h=>by
  cases h
  exact ⟨[],rfl,rfl⟩
 | t::ts,_,h=>by
  cases h with
  | cons a b =>
   obtain ⟨k,rfl⟩:=a
   obtain ⟨l,rfl,rfl⟩:=Lf b
   exact ⟨(t,k)::l,rfl,rfl⟩
theorem Om:aV X "str.join" (fun x xs H Q=>∃ (z:Str) (p:Addr) (ts:List Str),x=V.str z/\xs=[V.ref p]/\Cp X.K H p (ts.map V.str)/\JoinOk z ts=true/\Q (.str (Txt.join z ts)) H):=by
 intro pins s σ H x xs v us Q I rx r h
 obtain ⟨z,p,ts,rfl,rfl,hp,hj,q⟩:=h
 obtain ⟨t,rfl⟩:=rx
 obtain ⟨w,rfl,rw'⟩:=Vals.one r
 cases rw'
 obtain ⟨its,rv,pl,hz⟩:=I.list hp
 obtain ⟨l,rfl,el⟩:=Lf rv
 exact SC.join pl.isList el hj fun t' k=>⟨.str _,H,I.tok _,⟨_,rfl⟩,q⟩
structure KDict (K:PySem.W.Frag) (P:Params) (a:Addr):Prop where
 is:∃ es n,K.lookup a=some ⟨.type "dict",none,.dict es n,#[]⟩/\PySem.W.KeysLit P es.toList
 lo:(a == sysModules)=false
noncomputable def Y8 (K:PySem.W.Frag) (P:Params) (td ty:TE):TE:=fun σ H Q=>td σ H fun x H1=>ty σ H1 fun y H2=>∃ a z v u,x=.ref a/\y=.str z/\KDict K P a/\PySem.W.nsIn K a z=some (some u)/\RelV v u/\Q v H2
noncomputable def XN (K:PySem.W.Frag) (P:Params) (neg:Bool) (ty td:TE):TE:=fun σ H Q=>ty σ H fun y H1=>td σ H1 fun x H2=>∃ a z r,x=.ref a/\y=.str z/\KDict K P a/\PySem.W.nsIn K a z=some r/\Q (.bl (if neg then !r.isSome else r.isSome)) H2
variable {o i:Expr} {pos:Pos} {td ty:TE}
theorem K5 (ho:PE X o td) (hi:PE X i ty) (hs:Wb i):PE X (.Subscript o i pos) (Y8 X.K X.w.params td ty):=by
 intro pins s σ H Q I h
 refine O9 PySem.F.slot_dict_getitem.lookup hs (CG (ho pins s σ H _ I h) fun u s1 ⟨x,H1,I1,rx,q1⟩=>CG (hi pins s1 σ H1 _ I1 q1) fun iv s2 hq0=>?_)
 obtain ⟨y,H2,I2,ry,a,z,v,w,ex,ey,kd,hw,rw',q2⟩:=hq0
 subst ex ey
 cases rx
 obtain ⟨t,rfl⟩:=ry
 obtain ⟨⟨es,n,hl,hk⟩,lo⟩:=kd
 have hm:=PySem.W.mapOf_K (prog:=X.prog) I2.Ho hl hk
 exact ⟨hm.typeIs,wpAny_getItem_of (strKind_is X.prog X.w z t) hm (PySem.W.find_K hl hw) ⟨v,H2,I2.tok _,rw',q2⟩⟩
theorem Ry (hi:PE X i ty) (ho:PE X o td):PC X .In i o (XN X.K X.w.params false ty td):=by
 intro pins s σ H Q I h
 refine CG (hi pins s σ H _ I h) fun iv s1 ⟨y,H1,I1,ry,q1⟩=>CG (ho pins s1 σ H1 _ I1 q1) fun u s2 hq0=>?_
 obtain ⟨x,H2,I2,rx,a,z,r,ex,ey,kd,hw,q2⟩:=hq0
 subst ex ey
 cases rx
 obtain ⟨t,rfl⟩:=ry
 obtain ⟨⟨es,n,hl,hk⟩,lo⟩:=kd
 refine wpAny_in_of (strKind_is X.prog X.w z t) lo (PySem.W.mapOf_K (prog:=X.prog) I2.Ho hl hk) ?_
 rw [PySem.W.find_K hl hw]
 exact ⟨.bl r.isSome,H2,I2.tok _,rfl,q2⟩
theorem QG (hi:PE X i ty) (ho:PE X o td):PC X .NotIn i o (XN X.K X.w.params true ty td):=by
 intro pins s σ H Q I h
 refine CG (hi pins s σ H _ I h) fun iv s1 ⟨y,H1,I1,ry,q1⟩=>CG (ho pins s1 σ H1 _ I1 q1) fun u s2 hq0=>?_
 obtain ⟨x,H2,I2,rx,a,z,r,ex,ey,kd,hw,q2⟩:=hq0
 subst ex ey
 cases rx
 obtain ⟨t,rfl⟩:=ry
 obtain ⟨⟨es,n,hl,hk⟩,lo⟩:=kd
 refine wpAny_notIn_of (strKind_is X.prog X.w z t) lo (PySem.W.mapOf_K (prog:=X.prog) I2.Ho hl hk) ?_
 rw [PySem.W.find_K hl hw]
 exact ⟨.bl (!r.isSome),H2,I2.tok _,rfl,q2⟩
end
section
variable {X:Cx} {e st:Expr} {lo hi:Option Expr} {te ts:TE} {tl th:TO} {p2 pos:Pos}
end
end L2
namespace Og
open PySem L2
theorem BL {X:Cx} {K:PySem.W.Frag} (h:X.K=K):Wy X (Yz K):=h ▸ We
theorem Gb {X:Cx} {K:PySem.W.Frag} (h:X.K=K):Wy X (Zj K):=h ▸ Dc
theorem JQ {X:Cx} {K:PySem.W.Frag} (h:X.K=K):Gp X (compareOp .In) (dU K false):=h ▸ Pq
structure R where
 w:Str
 nm:Str
 rest:List V
noncomputable abbrev R.v (r:R):List V:=.str r.w :: .str r.nm::r.rest
noncomputable def isNm (z:Str):Prop:=1<=z.length/\z.length<=8/\∀ c∈z.cps.toList,97<=c/\c<=122
noncomputable def Rows (H:Hp) (ρ:V->R) (vs:List V):Prop:=∀ v∈vs,TupAt H (ρ v).v v
theorem Rows.mono {H H':Hp} {ρ:V->R} {vs:List V} (s:Ao H H') (h:Rows H ρ vs):Rows H' ρ vs:=fun v hv=>(h v hv).mono s
theorem Rows.sub {H:Hp} {ρ:V->R} {vs us:List V} (h:Rows H ρ vs) (hs:∀ v∈us,v∈vs):Rows H ρ us:=fun v hv=>h v (hs v hv)
noncomputable abbrev pw (ρ:V->R) (w:Str) (v:V):Bool:=decide (V.str (ρ v).w=V.str w)
noncomputable abbrev pn (ρ:V->R) (t:Str) (v:V):Bool:=decide (V.str (ρ v).nm=V.str t)
noncomputable def S_ (ρ:V->R) (vs:List V) (w t:Str):Bool:=(vs.filter (pw ρ w)).any (pn ρ t)
noncomputable def KTup (K:PySem.W.Frag) (a:Addr) (xs:List V):Prop:=∃ (o:Obj) (its:Array Value) (n:Nat),K.lookup a=some o/\o.cls=.type "tuple" /\ o.data=.seq its n/\its.size<=sizeLine/\Vals xs its.toList
theorem KTup.sq {K:PySem.W.Frag} {a:Addr} {xs:List V} (h:KTup K a xs) (H:Hp):Ey K H a xs:=.inr h
noncomputable abbrev named:List Str:=["board","rank","stop","coupler","mute"]
noncomputable def HB (K:PySem.W.Frag) (aB:Addr) (ρ:V->R) (vs:List V) (x:V) (part:Str):Prop :=
 (∃ (i lo hi:Int) (b:Addr),x=.int i/\PySem.W.nsIn K aB part=some (some (.ref b))/\KTup K b [.int lo,.int hi]/\lo<=i/\i<=hi) \/
 (PySem.W.nsIn K aB part=some none/\part = "new" /\ ∃ t,x=.str t/\isNm t/\∀ w∈named,S_ ρ vs w t=false) \/
 (PySem.W.nsIn K aB part=some none/\¬ part = "new" /\ ∃ t,x=.str t/\isNm t/\S_ ρ vs part t=true)
structure Jr (K:PySem.W.Frag) (aB aP aM:Addr) (ρ:V->R) (vs:List V) (r:R):Prop where
 ns:¬ r.w = "step"
 nl:¬ r.w = "line"
 parts:∃ (ap:Addr) (ps:List Str),PySem.W.nsIn K aP r.w=some (some (.ref ap))/\KTup K ap (ps.map V.str)/\(V.str r.nm::r.rest).length=ps.length/\ps.length<=10 /\
  ∀ (i:Nat) x y,(V.str r.nm::r.rest)[i]? = some x->ps[i]? = some y->HB K aB ρ vs x y
 room:∃ (m:Int) (t:Tok),PySem.W.nsIn K aM r.w=some (some (.int m t))/\(((vs.filter (pw ρ r.w)).length:Nat):Int)<m
noncomputable def letters:Str:="abcdefghijklmnopqrstuvwxyz"
noncomputable abbrev S9 (y:Str) (c:Nat):Bool:=!(Builtin.Str.occurrences y ⟨#[c]⟩ 0 y.length 1).isEmpty
theorem TJ:∀ c<128,S9 letters c=decide (97<=c/\c<=122):=by decide +kernel
theorem Ax {H:Hp} {p:Addr} {o:HO} (h:H p=none):Ao H (upd H p o):=fun b u e=>by rw [An (Al e h)]; exact e
theorem FJ {H:Hp} {p:Addr} {o:HO} (h:H p=none):∃ H',upd H p o=H'/\Ao H H'/\H' p=some o:=⟨_,rfl,Ax h,Ah⟩
theorem Bu {n:Nat} (h:n<=1000):n<=sizeLine:=Nat.le_of_lt (Ar h)
theorem ty_int {K:PySem.W.Frag}:PySem.W.kitOne K (.type "int") (.type "int")=some true:=by kernel_rfl
theorem Vb {K:PySem.W.Frag}:PySem.W.kitOne K (.type "int") (.type "bool")=some false:=by kernel_rfl
theorem RX {K:PySem.W.Frag}:PySem.W.kitOne K (.type "list") (.type "list")=some true:=by kernel_rfl
theorem Vm {K:PySem.W.Frag}:PySem.W.kitOne K (.type "tuple") (.type "tuple")=some true:=by kernel_rfl
theorem JG {K:PySem.W.Frag}:PySem.W.kitOne K (.type "str") (.type "str")=some true:=by kernel_rfl
theorem SQ (vs:List V) (n:Nat) (h:n<=vs.length):En vs none (some (n:Int))=vs.take n:=by
 unfold En
 have e1:HT.DY vs.length 0 none=0:=rfl
 have e2:HT.DY vs.length vs.length (some (n:Int))=n:=by
  rw [HT.Es]
  omega
 rw [e1,e2]
 simp
theorem Gv {α:Type} (p:α->Bool) (l:List α):(l.filter p).length<=l.length:=List.length_filter_le _ _
noncomputable abbrev bV (b:Str × Nat):List V:=[.str b.1,.int (b.2:Nat)]
noncomputable abbrev Ft (b:Str × Nat):R:=⟨"board",b.1,[.int (b.2:Nat)]⟩
noncomputable abbrev qV (q:Nat × Nat):List V:=[.int (q.1:Nat),.int (q.2:Nat)]
noncomputable def O8 (bs:List (Str × Nat)):List (Nat × Nat):=bs.zipIdx.flatMap fun p=>(List.range p.1.2).map fun e=>(p.2,e)
theorem RQ (bs:List (Str × Nat)) (b:Str × Nat):O8 (bs++[b])=O8 bs++(List.range b.2).map fun e=>(bs.length,e):=by
 unfold O8
 rw [List.zipIdx_append]
 simp
theorem Lq {bs:List (Str × Nat)} {i:Nat} {b:Str × Nat} (h:bs[i]? = some b):O8 (bs.take (i+1))=O8 (bs.take i)++(List.range b.2).map fun e=>(i,e):=by
 have hi:i<bs.length:=(List.getElem?_eq_some_iff.mp h).1
 rw [List.take_add_one,h]
 show O8 (bs.take i++[b])=_
 rw [RQ,List.length_take,Nat.min_eq_left (by omega)]
theorem Tt (bs:List (Str × Nat)) (M:Nat):(∀ b∈bs,b.2<=M)->(O8 bs).length<=bs.length * M:=by
 intro h
 have key:∀ i,i<=bs.length->(O8 (bs.take i)).length<=i * M:=by
  intro i
  induction i with
  | zero=>intro _; simp [O8]
  | succ i ih =>
   intro hi
   have hlt:i<bs.length:=by omega
   rw [Lq (List.getElem?_eq_getElem hlt),List.length_append,List.length_map,List.length_range]
   have h1:=ih (by omega)
   have h2:=h bs[i] (List.getElem_mem hlt)
   have:(i+1) * M=i * M+M:=by rw [Nat.add_mul,Nat.one_mul]
   omega
 have:=key bs.length (Nat.le_refl _)
 rw [List.take_length] at this
 exact this
theorem Cv {α β:Type} {F:α->β->Prop} {l:List α} {vs:List β} (h:Paired F l vs):∀ {v},v∈vs->∃ a∈l,F a v:=by
 induction h with
 | nil=>intro v hv; cases hv
 | cons a b ih =>
  intro v hv
  rcases List.mem_cons.mp hv with rfl | hv
  ·exact ⟨_,List.mem_cons_self ..,a⟩
  ·obtain ⟨x,hx,q⟩:=ih hv
   exact ⟨x,List.mem_cons_of_mem _ hx,q⟩
theorem Br {α β:Type} {F:α->β->Prop} {l:List α} {vs:List β} (h:Paired F l vs):∀ {i:Nat} {a},l[i]? = some a->∃ v,vs[i]? = some v/\F a v:=by
 induction h with
 | nil=>intro i a ha; simp at ha
 | cons x y ih =>
  intro i a ha
  cases i with
  | zero =>
   simp at ha
   subst ha
   exact ⟨_,rfl,x⟩
  | succ i=>exact ih (by simpa using ha)
theorem Lh {α β:Type} {F:α->β->Prop} {l:List α} {vs:List β} (h:Paired F l vs):∀ {i:Nat} {v},vs[i]? = some v->∃ a,l[i]? = some a/\F a v:=by
 induction h with
 | nil=>intro i a ha; simp at ha
 | cons x y ih =>
  intro i a ha
  cases i with
  | zero =>
   simp at ha
   subst ha
   exact ⟨_,rfl,x⟩
  | succ i=>exact ih (by simpa using ha)
theorem Bs {α β:Type} {F:α->β->Prop} {l l':List α} {vs vs':List β} (h:Paired F l vs) (h':Paired F l' vs'):Paired F (l++l') (vs++vs'):=by
 induction h with
 | nil=>exact h'
 | cons x y ih=>exact .cons x ih
theorem CT {α β γ:Type} {F:γ->β->Prop} (g:α->γ) {l:List α} {vs:List β} (h:Paired (fun a v=>F (g a) v) l vs):Paired F (l.map g) vs:=by
 induction h with
 | nil=>exact .nil
 | cons x y ih=>exact .cons x ih
theorem Ds {α β γ:Type} {F:γ->β->Prop} (g:α->γ):∀ {l:List α} {vs:List β},Paired F (l.map g) vs->Paired (fun a v=>F (g a) v) l vs
 | [],_,h=>by cases h; exact .nil
 | a::l,_,h=>by
  cases h with
  | cons x y=>exact .cons x (Ds g y)
noncomputable def Qi (H:Hp) (k:Nat):V->V
 | .ref T=>match H T with
  | some (.tup xs)=>xs.getD k .non
  | _=>.non
 | _=>.non
theorem Hc {H:Hp} {zs:List V} {v:V} (h:TupAt H zs v) (k:Nat):Qi H k v=zs.getD k .non:=by
 obtain ⟨T,rfl,e⟩:=h
 show (match H T with | some (.tup xs)=>xs.getD k V.non | _=>V.non)=_
 rw [e]
theorem O3 {α:Type} {H:Hp} {g:α->List V} (k:Nat) {l:List α} {vs:List V} (h:Paired (fun a v=>TupAt H (g a) v) l vs):vs.map (Qi H k)=l.map fun a=>(g a).getD k .non:=by
 induction h with
 | nil=>rfl
 | cons x y ih=>rw [List.map_cons,List.map_cons,ih,Hc x]
noncomputable def SX (x:Addr) (H H':Hp):Prop:=∀ b o,H b=some o->b ≠ x->H' b=some o
theorem SX.trans {x:Addr} {H H1 H2:Hp} (a:SX x H H1) (b:SX x H1 H2):SX x H H2:=fun c o h n=>b c o (a c o h n) n
theorem SX.refl {x:Addr} {H:Hp}:SX x H H:=fun _ _ h _=>h
theorem SX.of {x:Addr} {H H':Hp} (s:Ao H H'):SX x H H':=fun b o h _=>s b o h
theorem SX.up {x:Addr} {H:Hp} {o:HO}:SX x H (upd H x o):=fun b u h n=>by rw [An n]; exact h
theorem SX.tup {x:Addr} {H H':Hp} {zs:List V} {y:V} {C dx:Addr} {fs:List (Str × V)} (s:SX x H H') (hx:H x=some (.ins C dx fs)) (h:TupAt H zs y):TupAt H' zs y:=by
 obtain ⟨T,e,q⟩:=h
 exact ⟨T,e,s _ _ q fun z=>by rw [z,hx] at q; cases q⟩
theorem SX.pair {α:Type} {x:Addr} {H H':Hp} {f:α->List V} {l:List α} {vs:List V} {C dx:Addr} {fs:List (Str × V)} (s:SX x H H') (hx:H x=some (.ins C dx fs)) (h:Paired (fun a y=>TupAt H (f a) y) l vs):Paired (fun a y=>TupAt H' (f a) y) l vs:=Paired.Ex h fun _ _ q=>s.tup hx q
theorem SX.lst {x a:Addr} {H H':Hp} {xs:List V} {C dx:Addr} {fs:List (Str × V)} (s:SX x H H') (hx:H x=some (.ins C dx fs)) (h:H a=some (.lst xs)):H' a=some (.lst xs):=s _ _ h fun z=>by rw [z,hx] at h; cases h
theorem SX.dk {x a:Addr} {H H':Hp} {kvs:List (Key × V)} {C dx:Addr} {fs:List (Str × V)} (s:SX x H H') (hx:H x=some (.ins C dx fs)) (h:H a=some (.dK kvs)):H' a=some (.dK kvs):=s _ _ h fun z=>by rw [z,hx] at h; cases h
noncomputable abbrev meths:List Str:=["ranks","pipe_count","pipe","rank_of","board_of_knob","boards","key_count","key","board_of","coupler","knobs","knob_number","board_number","stop","mute","steps","rows"]
structure Jq (C:Addr) (H:Hp) (x:Addr) (bs:List (Str × Nat)) (ks:List R):Prop where
 ob:∃ (dx:Addr) (fs:List (Str × V)) (bl bn kp kr:Addr) (bvs pvs uvs:List V) (kvs:List (Key × V)),H x=some (.ins C dx fs)/\fs.lookup ("board_list" : Str)=some (.ref bl)/\fs.lookup ("board_numbers" : Str)=some (.ref bn)/\fs.lookup ("key_places" : Str)=some (.ref kp)/\fs.lookup ("knob_rows" : Str)=some (.ref kr) /\
  (∀ m∈meths,fs.lookup m=none)/\H bl=some (.lst bvs)/\Paired (fun b y=>TupAt H (bV b) y) bs bvs/\H bn=some (.dK kvs)/\(∀ (i:Nat) b,bs[i]? = some b->CJ kvs (Sum.inr b.1)=some (.int (i:Nat))) /\
  H kp=some (.lst pvs)/\Paired (fun q y=>TupAt H (qV q) y) (O8 bs) pvs/\H kr=some (.lst uvs)/\Paired (fun (r:R) y=>TupAt H r.v y) ks uvs
 nb:bs.length<=5
 sz:∀ b∈bs,b.2<=61
 nk:ks.length<=200
theorem Jq.mono {C:Addr} {H H':Hp} {x:Addr} {bs:List (Str × Nat)} {ks:List R} (s:Ao H H') (h:Jq C H x bs ks):Jq C H' x bs ks:=by
 refine byC fun w_=>?_;obtain ⟨⟨dx,fs,bl,bn,kp,kr,bvs,pvs,uvs,kvs,h1,l1,l2,l3,l4,lm,h2,h3,h4,h5,h6,h7,h8,h9⟩,a,b,c⟩:=h;refine w_ ?_
 exact ⟨⟨dx,fs,bl,bn,kp,kr,bvs,pvs,uvs,kvs,s _ _ h1,l1,l2,l3,l4,lm,s _ _ h2,Aj s h3,s _ _ h4,h5,s _ _ h6,Aj s h7,s _ _ h8,Aj s h9⟩,a,b,c⟩
end Og
namespace Og
open PySem L2 PyProof.Rows
inductive Kb where
 | cp (i j:Nat) (s:Int)
 | pl (w:Str) (i:Nat)
noncomputable def Kb.w:Kb->Str
 | .cp _ _ _=>"coupler"
 | .pl w _=>w
noncomputable def Kb.v:Kb->List V
 | .cp i j s=>[.str "coupler",.int (i:Nat),.int (j:Nat),.int s]
 | .pl w i=>[.str w,.int (i:Nat)]
noncomputable def Kb.ok (n:Nat):Kb->Prop
 | .cp i j s=>i<n/\j<n /\ -60<=s/\s<=60
 | .pl w i=>i<n/\(w = "mute" \/ w = "stop")
noncomputable def Oi (w:Str):Nat:=if w = "coupler" then 12 else if w = "mute" then 5 else 24
structure KF (K:PySem.W.Frag) (aB aP aM:Addr):Prop where
 pB:∃ a,PySem.W.nsIn K aP "board" = some (some (.ref a))/\KTup K a (["new","keys"].map fun s:String=>V.str s)
 pS:∃ a,PySem.W.nsIn K aP "stop" = some (some (.ref a))/\KTup K a (["new","board"].map fun s:String=>V.str s)
 pM:∃ a,PySem.W.nsIn K aP "mute" = some (some (.ref a))/\KTup K a (["new","board"].map fun s:String=>V.str s)
 pC:∃ a,PySem.W.nsIn K aP "coupler" = some (some (.ref a))/\KTup K a (["new","board","board","leap"].map fun s:String=>V.str s)
 bK:∃ a,PySem.W.nsIn K aB "keys" = some (some (.ref a))/\KTup K a [.int 1,.int 61]
 bL:∃ a,PySem.W.nsIn K aB "leap" = some (some (.ref a))/\KTup K a [.int (-60),.int 60]
 bN:PySem.W.nsIn K aB "new" = some none
 bB:PySem.W.nsIn K aB "board" = some none
 mB:∃ t,PySem.W.nsIn K aM "board" = some (some (.int 5 t))
 mS:∃ t,PySem.W.nsIn K aM "stop" = some (some (.int 24 t))
 mC:∃ t,PySem.W.nsIn K aM "coupler" = some (some (.int 12 t))
 mM:∃ t,PySem.W.nsIn K aM "mute" = some (some (.int 5 t))
noncomputable def Jh (H:Hp):V->R
 | .ref T=>match H T with
  | some (.tup (.str w :: .str n::r))=>⟨w,n,r⟩
  | _=>⟨"","",[]⟩
 | _=>⟨"","",[]⟩
theorem KZ {H:Hp} {r:R} {v:V} (h:TupAt H r.v v):Jh H v=r:=by
 obtain ⟨T,rfl,e⟩:=h
 show (match H T with | some (.tup (.str w :: .str n::r))=>(⟨w,n,r⟩:R) | _=>⟨"","",[]⟩)=r
 rw [e]
theorem Kc {H:Hp} {rs:List R} {vs:List V} (h:Paired (fun (r:R) v=>TupAt H r.v v) rs vs):vs.map (Jh H)=rs:=by
 induction h with
 | nil=>rfl
 | cons x y ih=>rw [List.map_cons,ih,KZ x]
theorem Bl (f:Str) (v:V):∀ l:List (Str × V),(Bf f v l).length<=l.length+1
 | []=>Nat.le_refl _
 | p::r=>by
  unfold Bf
  split
  ·simp
  ·have:=Bl f v r
   simp only [List.length_cons]
   omega
noncomputable abbrev Gs (s:Str):Bool:=inV (.str s) [.str "stop",.str "coupler",.str "mute"]
structure iZ (K:PySem.W.Frag) (aB aP aM:Addr) (ρ:V->R) (us:List V) (bs:List (Str × Nat)) (ks:List R):Prop where
 kinds:∀ v∈us,(ρ v).w = "board" \/ (ρ v).w = "stop" \/ (ρ v).w = "coupler" \/ (ρ v).w = "mute"
 eb:(us.filter (pw ρ "board")).map ρ=bs.map Ft
 ek:(us.filter (fun v=>Gs (ρ v).w)).map ρ=ks
 b0:1<=bs.length
 b5:bs.length<=5
 sz:∀ b∈bs,b.2<=61
 nk:ks.length<=100
 nb:(bs.map (·.1)).Nodup
 nn:(ks.map (·.nm)).Nodup
 len:us.length<=105
 ok:∀ (i:Nat) v,us[i]? = some v->Jr K aB aP aM ρ (us.take i) (ρ v)
noncomputable def GP (ρ:V->R) (vs:List V):List (Str × Str):=vs.map fun v=>((ρ v).w,(ρ v).nm)
noncomputable abbrev Oq (wn:List (Str × Str)) (w t:Str):Bool:=(wn.filter fun p=>decide (p.1=w)).any fun p=>decide (p.2=t)
noncomputable abbrev Qt (wn:List (Str × Str)) (w:Str):Nat:=(wn.filter fun p=>decide (p.1=w)).length
theorem Gk (a b:Str):decide (V.str a=V.str b)=decide (a=b):=by
 rw [Bool.eq_iff_iff,decide_eq_true_eq,decide_eq_true_eq]
 exact ⟨V.str.inj,congrArg V.str⟩
theorem Hs (ρ:V->R) (vs:List V) (w t:Str):S_ ρ vs w t=Oq (GP ρ vs) w t:=by
 unfold S_ GP
 show _=((vs.map fun v=>((ρ v).w,(ρ v).nm)).filter fun p=>decide (p.1=w)).any fun p=>decide (p.2=t)
 rw [List.filter_map,List.any_map]
 have e1:pw ρ w=(fun p:Str × Str=>decide (p.1=w)) ∘ fun v=>((ρ v).w,(ρ v).nm):=by
  funext v
  exact Gk _ _
 have e2:pn ρ t=(fun p:Str × Str=>decide (p.2=t)) ∘ fun v=>((ρ v).w,(ρ v).nm):=by
  funext v
  exact Gk _ _
 rw [e1,e2]
theorem G9 (ρ:V->R) (vs:List V) (w:Str):(vs.filter (pw ρ w)).length=Qt (GP ρ vs) w:=by
 unfold GP
 show _=((vs.map fun v=>((ρ v).w,(ρ v).nm)).filter fun p=>decide (p.1=w)).length
 rw [List.filter_map,List.length_map]
 have e1:pw ρ w=(fun p:Str × Str=>decide (p.1=w)) ∘ fun v=>((ρ v).w,(ρ v).nm):=by
  funext v
  exact Gk _ _
 rw [e1]
section
variable {K:PySem.W.Frag} {aB aP aM:Addr} {ρ:V->R} {vs:List V} {wn:List (Str × Str)} {t:Str}
theorem Ha (F:KF K aB aP aM) (e:GP ρ vs=wn) (ht:isNm t) (h:∀ w∈named,Oq wn w t=false):HB K aB ρ vs (.str t) "new" :=
 .inr (.inl ⟨F.bN,rfl,_,rfl,ht,fun w hw=>by rw [Hs,e]; exact h w hw⟩)
theorem G7 (F:KF K aB aP aM) (e:GP ρ vs=wn) (ht:isNm t) (h:Oq wn "board" t=true):HB K aB ρ vs (.str t) "board" :=
 .inr (.inr ⟨F.bB,by decide +kernel,_,rfl,ht,by rw [Hs,e]; exact h⟩)
theorem Pn (F:KF K aB aP aM) (e:GP ρ vs=wn) (ht:isNm t) (h:∀ w∈named,Oq wn w t=false) (hc:Qt wn "board" < 5) {n:Nat} (h1:1<=n) (h2:n<=61):Jr K aB aP aM ρ vs (Ft (t,n)):=by
 obtain ⟨ap,g1,g2⟩:=F.pB
 obtain ⟨ab,g3,g4⟩:=F.bK
 obtain ⟨tk,g5⟩:=F.mB
 refine ⟨by show ¬ ("board" : Str) = "step"; decide +kernel,by show ¬ ("board" : Str) = "line"; decide +kernel,⟨ap,["new","keys"],g1,g2,rfl,by decide,fun j x y hx hy=>?_⟩,⟨5,tk,g5,?_⟩⟩
 ·match j,hx,hy with
  | 0,hx,hy =>
   cases (Option.some.inj hx)
   cases (Option.some.inj hy)
   exact Ha F e ht h
  | 1,hx,hy =>
   cases (Option.some.inj hx)
   cases (Option.some.inj hy)
   exact .inl ⟨_,1,61,ab,rfl,g3,g4,by omega,by omega⟩
  | j+2,hx,hy=>simp at hy
 ·rw [G9,e]
  show ((Qt wn "board" : Nat):Int)<5
  omega
theorem LR (F:KF K aB aP aM) (e:GP ρ vs=wn) (ht:isNm t) (h:∀ w∈named,Oq wn w t=false) (hc:Qt wn "coupler" < 12) {a b:Str} (ha:isNm a) (ha':Oq wn "board" a=true) (hb:isNm b) (hb':Oq wn "board" b=true) {s:Int} (h1 : -60<=s) (h2:s<=60):Jr K aB aP aM ρ vs ⟨"coupler",t,[.str a,.str b,.int s]⟩:=by
 obtain ⟨ap,g1,g2⟩:=F.pC
 obtain ⟨ab,g3,g4⟩:=F.bL
 obtain ⟨tk,g5⟩:=F.mC
 refine ⟨by show ¬ ("coupler" : Str) = "step"; decide +kernel,by show ¬ ("coupler" : Str) = "line"; decide +kernel,⟨ap,["new","board","board","leap"],g1,g2,rfl,by decide,fun j x y hx hy=>?_⟩,⟨12,tk,g5,?_⟩⟩
 ·match j,hx,hy with
  | 0,hx,hy =>
   cases (Option.some.inj hx)
   cases (Option.some.inj hy)
   exact Ha F e ht h
  | 1,hx,hy =>
   cases (Option.some.inj hx)
   cases (Option.some.inj hy)
   exact G7 F e ha ha'
  | 2,hx,hy =>
   cases (Option.some.inj hx)
   cases (Option.some.inj hy)
   exact G7 F e hb hb'
  | 3,hx,hy =>
   cases (Option.some.inj hx)
   cases (Option.some.inj hy)
   exact .inl ⟨_,-60,60,ab,rfl,g3,g4,h1,h2⟩
  | j+4,hx,hy=>simp at hy
 ·rw [G9,e]
  show ((Qt wn "coupler" : Nat):Int)<12
  omega
end
end Og
namespace Og
open PySem L2
noncomputable def bG (bs:List (Str × Nat)) (j1 j2:Nat) (s:Int) (qd:Nat × Nat) (z2:Nat):V :=
 if qd.1=j1/\0<=(qd.2:Int)+s/\(qd.2:Int)+s<z2 then .int ((((bs.take j2).map (·.2)).sum:Nat)+((qd.2:Int)+s)) else .non
noncomputable def gl (bs:List (Str × Nat)):Kb->Nat->Option Nat
 | .cp j1 j2 s,i=>match (O8 bs)[i]?,bs[j2]? with
  | some qd,some b2=>match bG bs j1 j2 s qd b2.2 with
   | .int v=>some v.toNat
   | _=>none
  | _,_=>none
 | .pl _ _,_=>none
noncomputable def stp (bs:List (Str × Nat)) (kbs:List Kb) (D:Nat) (i j:Nat):Prop:=∃ k z,D.testBit k=true/\kbs[k]? = some z/\gl bs z i=some j
inductive dX (st:Nat->Nat->Prop) (hd:Nat->Prop):Nat->Prop
 | one {i j:Nat}:hd i->st i j->dX st hd j
 | more {i j:Nat}:dX st hd i->st i j->dX st hd j
end Og
namespace Og
open PySem L2 PyProof.Rows
noncomputable abbrev Th:=Str × Nat × List V
noncomputable abbrev tV (a:Th):List V:=.str a.1 :: .int (a.2.1:Nat)::a.2.2
noncomputable abbrev tN (a:Th):Str × Nat:=(a.1,a.2.1)
noncomputable abbrev VN (r:Str × Nat × Int):Th:=(r.1,r.2.1,[.int r.2.2])
noncomputable abbrev cW (b:Str × Nat):Th:=(b.1,b.2,[])
noncomputable abbrev h_ (r:Str × Nat × Int):Str × Nat:=(r.1,r.2.1)
noncomputable abbrev F_ (r:Str × Nat × Int):R:=⟨"rank",r.1,[.int (r.2.1:Nat),.int r.2.2]⟩
structure Ln where
 r:Nat
 sh:Int
 lo:Int
 hi:Int
noncomputable abbrev YL (l:Ln):List V:=[.int (l.r:Nat),.int l.sh,.int l.lo,.int l.hi]
noncomputable def Ga (H:Hp) (l:List Ln) (v:V):Prop:=∃ (A:Addr) (ts:List V),v=.ref A/\H A=some (.lst ts)/\Paired (fun x y=>TupAt H (YL x) y) l ts
noncomputable def Hd (H:Hp) (D:Addr) (ls:List (List Ln)):Prop:=∃ lv,H D=some (.lst lv)/\Paired (fun l v=>Ga H l v) ls lv
theorem Ga.mono {H H':Hp} {l:List Ln} {v:V} (s:Ao H H') (h:Ga H l v):Ga H' l v:=by
 obtain ⟨A,ts,e,h1,h2⟩:=h
 exact ⟨A,ts,e,s _ _ h1,Aj s h2⟩
theorem Hd.mono {H H':Hp} {D:Addr} {ls:List (List Ln)} (s:Ao H H') (h:Hd H D ls):Hd H' D ls:=by
 obtain ⟨lv,h1,h2⟩:=h
 exact ⟨lv,s _ _ h1,Paired.Ex h2 fun _ _ q=>q.mono s⟩
structure JZ (C:Addr) (H:Hp) (x:Addr) (bs:List (Str × Nat)) (rk:List (Str × Nat × Int)) (ks:List R) (ls:List (List Ln)):Prop where
 o:Jq C H x bs ks
 r:∃ (dx:Addr) (fs:List (Str × V)) (rl rn pp kl:Addr) (rvs pvs:List V) (kvs:List (Key × V)),H x=some (.ins C dx fs)/\fs.lookup ("rank_list" : Str)=some (.ref rl)/\fs.lookup ("rank_numbers" : Str)=some (.ref rn)/\fs.lookup ("pipe_places" : Str)=some (.ref pp)/\fs.lookup ("knob_lines" : Str)=some (.ref kl) /\
  H rl=some (.lst rvs)/\Paired (fun (a:Th) y=>TupAt H (tV a) y) (rk.map VN) rvs/\H rn=some (.dK kvs)/\(∀ (i:Nat) r,rk[i]? = some r->CJ kvs (Sum.inr r.1)=some (.int (i:Nat))) /\
  H pp=some (.lst pvs)/\Paired (fun q y=>TupAt H (qV q) y) (O8 (rk.map h_)) pvs/\Hd H kl ls
 nr:rk.length<=12
 nz:∀ r∈rk,r.2.1<=97
 nl:ls.length=ks.length
theorem JZ.mono {C:Addr} {H H':Hp} {x:Addr} {bs:List (Str × Nat)} {rk:List (Str × Nat × Int)} {ks:List R} {ls:List (List Ln)} (s:Ao H H') (h:JZ C H x bs rk ks ls):JZ C H' x bs rk ks ls:=by
 refine byC fun w_=>?_;obtain ⟨o,⟨dx,fs,rl,rn,pp,kl,rvs,pvs,kvs,h1,l1,l2,l3,l4,h2,h3,h4,h5,h6,h7,h8⟩,a,b,c⟩:=h;refine w_ ?_
 exact ⟨o.mono s,⟨dx,fs,rl,rn,pp,kl,rvs,pvs,kvs,s _ _ h1,l1,l2,l3,l4,s _ _ h2,Aj s h3,s _ _ h4,h5,s _ _ h6,Aj s h7,h8.mono s⟩,a,b,c⟩
structure Vg (ρ:V->R) (us:List V) (i:Nat):Prop where
 all:∀ j,j<i->∃ v,us[us.length - 1 - j]? = some v/\(ρ v).w = "line"
 lt:i<us.length
 no:∃ v,us[us.length - 1 - i]? = some v/\¬ (ρ v).w = "line"
noncomputable def Wl (r:R):Int:=match r.rest with
 | [.int m]=>m
 | _=>0
noncomputable abbrev keyOf (ρ:V->R) (us:List V) (bd:Str) (n:Int):Bool:=(us.filter (pw ρ "board")).any fun v=>pn ρ bd v && decide (n<Wl (ρ v))
structure N7 (ρ:V->R) (us:List V) (ro:R):Prop where
 ex:∃ (cnt:Nat) (v:V) (sh lo hi:Int) (bd:Str) (rs:List V),ro.rest=[.int sh,.int lo,.int hi]/\Vg ρ us cnt/\cnt<4/\us[us.length - 1 - cnt]? = some v/\(ρ v).w = "stop" /\ (ρ v).rest=.str bd::rs/\lo<=hi/\keyOf ρ us bd hi=true
noncomputable abbrev Eg (ρ:V->R) (us:List V):Prop:=∀ v∈us,(ρ v).w = "board"->∃ m,(ρ v).rest=[.int m]
structure Hy (K:PySem.W.Frag) (aB aP aM:Addr) (ρ:V->R) (vs:List V) (r:R):Prop where
 ns:¬ r.w = "step"
 parts:∃ (ap:Addr) (ps:List Str),PySem.W.nsIn K aP r.w=some (some (.ref ap))/\KTup K ap (ps.map V.str)/\(V.str r.nm::r.rest).length=ps.length/\ps.length<=10 /\
  ∀ (i:Nat) x y,(V.str r.nm::r.rest)[i]? = some x->ps[i]? = some y->HB K aB ρ vs x y
 room:(r.w = "line" /\ PySem.W.nsIn K aM r.w=some none) \/ ∃ (m:Int) (t:Tok),PySem.W.nsIn K aM r.w=some (some (.int m t))/\(((vs.filter (pw ρ r.w)).length:Nat):Int)<m
 line:r.w = "line"->N7 ρ vs r
 Wx:Eg ρ vs
noncomputable def lnOf (rk:List (Str × Nat × Int)) (r:R):Ln:=match r.rest with
 | [.int sh,.int lo,.int hi]=>⟨(rk.map (·.1)).idxOf r.nm,sh,lo,hi⟩
 | _=>⟨0,0,0,0⟩
noncomputable def putL (acc:List (List Ln)) (l:Ln):List (List Ln):=match acc.getLast? with
 | some z=>acc.dropLast++[z++[l]]
 | none=>[]
noncomputable def Cq (rk:List (Str × Nat × Int)) (acc:List (List Ln)) (r:R):List (List Ln):=if Gs r.w=true then acc++[[]] else if r.w = "line" then putL acc (lnOf rk r) else acc
noncomputable def linesOf (rk:List (Str × Nat × Int)) (rs:List R):List (List Ln):=rs.foldl (Cq rk) []
theorem CQ (rk:List (Str × Nat × Int)) (rs:List R) (r:R):linesOf rk (rs++[r])=Cq rk (linesOf rk rs) r:=by
 unfold linesOf
 rw [List.foldl_append]
 rfl
theorem Gj (acc:List (List Ln)) (z:List Ln) (l:Ln):putL (acc++[z]) l=acc++[z++[l]]:=by
 unfold putL
 rw [List.getLast?_concat,List.dropLast_concat]
structure iY (K:PySem.W.Frag) (aB aP aM:Addr) (ρ:V->R) (us:List V) (bs:List (Str × Nat)) (rk:List (Str × Nat × Int)) (ks:List R):Prop where
 kinds:∀ v∈us,(ρ v).w = "board" \/ (ρ v).w = "rank" \/ (ρ v).w = "line" \/ (ρ v).w = "stop" \/ (ρ v).w = "coupler" \/ (ρ v).w = "mute"
 eb:(us.filter (pw ρ "board")).map ρ=bs.map Ft
 er:(us.filter (pw ρ "rank")).map ρ=rk.map F_
 ek:(us.filter (fun v=>Gs (ρ v).w)).map ρ=ks
 ln:∀ (i:Nat) v,us[i]? = some v->(ρ v).w = "line"->(∃ (j:Nat) (r:Str × Nat × Int) (sh lo hi:Int),rk[j]? = some r/\r.1=(ρ v).nm/\(ρ v).rest=[.int sh,.int lo,.int hi])/\∃ u∈us.take i,Gs (ρ u).w=true
 b0:1<=bs.length
 b5:bs.length<=5
 sz:∀ b∈bs,b.2<=61
 nr:rk.length<=12
 nz:∀ r∈rk,r.2.1<=97
 nk:ks.length<=100
 nb:(bs.map (·.1)).Nodup
 nrr:(rk.map (·.1)).Nodup
 nn:(ks.map (·.nm)).Nodup
 len:us.length<=150
 ok:∀ (i:Nat) v,us[i]? = some v->Hy K aB aP aM ρ (us.take i) (ρ v)
end Og
namespace Ws
open PySem PySem.Spec PyProof.Rows Wd
noncomputable def HR (prog:Program) (w:World) (h:Heap) (a:Addr) (led:Bool) (σ:List Str):Prop :=
 ∃ es ep t,h.get? a=some { cls:=.type "set",dict:=none,data:=.set es ep t }/\ElemsOf (strKind prog w) es.toList/\(∀ k,k∈σ ↔ ∃ e∈es.toList,(strKind prog w).is k e.2=true)/\es.size=σ.length/\σ.Nodup /\
  σ.length<scanBound/\t.fits es.size=true/\Good t led
noncomputable def Eh (σ:List Str) (k:Str):List Str:=if k∈σ then σ else σ++[k]
section
variable {prog:Program} {w:World} {A:Around} {E:Value->Shared->Prop} {s:Shared} {a:Addr} {led:Bool} {σ:List Str} {k:Str} {tk:Tok}
theorem Zt {Q:Bool->Shared->Prop} (hS:HR prog w s.heap a led σ) (room:σ.length+1<scanBound)
  (h:∀ b h',Heap.SameBut a s.heap h'->HR prog w h' a led (Eh σ k)->Q b { s with heap:=h' }):wpAny (model prog w) A (setAddHashed a (.str k tk) ((strKind prog w).hash k)) Q E s:=by
 refine byC fun w_=>?_;obtain ⟨es,ep,t,ho,hel,hmem,hn,nd,hb,hf,g⟩:=hS;refine w_ ?_
 have hkey:(strKind prog w).is k (.str k tk)=true:=strKind_is _ _ _ _
 have hbe:es.size<scanBound:=by rw [hn]; exact hb
 unfold setAddHashed setAddHashedIn
 refine wpAny_holding (wpAny_bind (wpAny_setState_of ho rfl hf ?_))
 dsimp only
 rw [byScan_of rfl hbe hel,if_pos rfl]
 unfold setAddByScan
 refine wpAny_bind (wpAny_bind (wpAny_rule (wpAny_bind (wpAny_setScan_of hkey ho rfl hf hel ?_))))
 cases hr:List.findIdx? (fun e=>(strKind prog w).is k e.2) es.toList with
 | some j =>
  obtain ⟨hj,hpj,_⟩:=List.findIdx?_eq_some_iff_getElem.mp hr
  have hk:k∈σ:=(hmem k).mpr ⟨_,List.getElem_mem hj,hpj⟩
  refine wpAny_pure (wpAny_pure ?_)
  have:=h false s.heap (Heap.SameBut.refl a s.heap) (by unfold Eh; rw [if_pos hk]; exact ⟨es,ep,t,ho,hel,hmem,hn,nd,hb,hf,g⟩)
  exact this
 | none =>
  have hk:k ∉ σ:=fun q=>by
   obtain ⟨e,he,hp⟩:=(hmem k).mp q
   have:=List.findIdx?_eq_none_iff.mp hr e he
   rw [hp] at this
   cases this
  dsimp only
  have hperm:=layNew_perm t es ((strKind prog w).hash k) (.str k tk)
  have hfits:=layNew_fits t es ((strKind prog w).hash k) (.str k tk)
  have hgood:=RW g es ((strKind prog w).hash k) (.str k tk)
  generalize layNew t es ((strKind prog w).hash k) (.str k tk)=L at hperm hfits hgood ⊢
  obtain ⟨es1,t1,wd,gave⟩:=L
  dsimp only at hperm hfits hgood ⊢
  rw [Array.toList_push] at hperm
  have hel1:ElemsOf (strKind prog w) es1.toList:=(hel.push hkey rfl).perm hperm
  have sz1:es1.size=(σ++[k]).length:=by
   have:=hperm.length_eq
   simp only [List.length_append,Array.length_toList,List.length_singleton] at this
   simp only [List.length_append,List.length_singleton]
   omega
  have mem1:∀ k',k'∈σ++[k] ↔ ∃ e∈es1.toList,(strKind prog w).is k' e.2=true:=fun k'=>by
   have:=mem_push_iff (knd:=strKind prog w) (S:=fun k'=>decide (k'∈σ)) hkey (fun k'=>by rw [decide_eq_true_eq]; exact hmem k') hperm k'
   rw [← this]
   simp
  have nd1:(σ++[k]).Nodup:=List.nodup_append.mpr ⟨nd,by simp,fun x hx y hy=>by
   rw [List.mem_singleton.mp hy]
   intro q
   exact hk (q ▸ hx)⟩
  have hb1:(σ++[k]).length<scanBound:=by simp only [List.length_append,List.length_singleton]; exact room
  have hb1':es1.size<scanBound:=by rw [sz1]; exact hb1
  have fin:∀ (es2:Array (Int × Value)) (t2:SetTable) (ep2:Nat) (h2:Heap),Heap.SameBut a s.heap h2->h2.get? a=some { cls:=.type "set",dict:=none,data:=.set es2 ep2 t2 }->es2.toList.Perm es1.toList->t2.fits es2.size=true->Good t2 led ->
    Q true { s with heap:=h2 }:=fun es2 t2 ep2 h2 sb e2 p2 f2 g2=>by
   refine h true h2 sb ?_
   unfold Eh
   rw [if_neg hk]
   refine ⟨es2,ep2,t2,e2,hel1.perm p2,fun k'=>(mem1 k').trans ⟨fun ⟨e,he,q⟩=>⟨e,p2.mem_iff.mpr he,q⟩,fun ⟨e,he,q⟩=>⟨e,p2.mem_iff.mp he,q⟩⟩,?_,nd1,hb1,f2,g2⟩
   rw [← Array.length_toList,p2.length_eq,Array.length_toList,sz1]
  have tail:∀ (t2:SetTable),t2.fits es1.size=true->Good t2 led->wpAny (model prog w) A (do
    storeSet a es1 t2
    if (!wd && t2.tooFull)=true then do
      (match (relayAll t2 es1 (SetTable.grown es1.size)).2.2 with | true=>rule "set.scan.the-table-gave-way" | false=>pure ())
      storeSet a (relayAll t2 es1 (SetTable.grown es1.size)).1 (relayAll t2 es1 (SetTable.grown es1.size)).2.1
      pure (some true)
     else pure (some true)) (fun r s'=>match r with | some b=>Q b s' | none=>False) E s:=fun t2 f2 g2=>by
   refine wpAny_bind (wpAny_storeSet_of ho rfl ?_ (fits_of_scanBound hb1'))
   have sb1:=Heap.SameBut.update s.heap a (Obj.putSet es1 t2)
   have e1:=PQ (es':=es1) (t':=t2) ho
   split
   ·have hp:=relayAll_perm t2 es1 (SetTable.grown es1.size)
    have hq:=relayAll_fits t2 es1 (SetTable.grown es1.size)
    have hg:=NK g2 es1 (SetTable.grown es1.size)
    generalize relayAll t2 es1 (SetTable.grown es1.size)=R at hp hq hg ⊢
    obtain ⟨es2,t3,gv⟩:=R
    dsimp only at hp hq hg ⊢
    have hb2:es2.size<scanBound:=by rw [← Array.length_toList,hp.length_eq,Array.length_toList]; exact hb1'
    have last:wpAny (model prog w) A (do storeSet a es2 t3; pure (some true)) (fun r s'=>match r with | some b=>Q b s' | none=>False) E { s with heap:=s.heap.update a (Obj.putSet es1 t2) }:=by
     refine wpAny_bind (wpAny_storeSet_of e1 rfl ?_ (fits_of_scanBound hb2))
     exact wpAny_pure (fin es2 t3 _ _ (sb1.trans (Heap.SameBut.update _ a _)) (PQ e1) hp hq hg)
    cases gv
    ·exact wpAny_bind (wpAny_pure last)
    ·exact wpAny_bind (wpAny_rule last)
   ·exact wpAny_pure (fin es1 t2 _ _ sb1 e1 (List.Perm.refl _) f2 g2)
  have tail':∀ (t2:SetTable),t2.fits es1.size=true->Good t2 led->wpAny (model prog w) A (do
    storeSet a es1 t2
    if (!wd && t2.tooFull)=true then do
      (match (relayAll t2 es1 (SetTable.grown es1.size)).2.2 with | true=>rule "set.scan.the-table-gave-way" | false=>pure ())
      storeSet a (relayAll t2 es1 (SetTable.grown es1.size)).1 (relayAll t2 es1 (SetTable.grown es1.size)).2.1
      pure (some true)
     else pure (some true)) (fun r s'=>wpAny (model prog w) A (match r with | some added=>pure added | none=>setAddHashedIn a (.str k tk) ((strKind prog w).hash k) 99999) Q E s') E s:=fun t2 f2 g2 =>
   wpAny_mono (tail t2 f2 g2) (fun r s' q=>by
    cases r with
    | none=>exact q.elim
    | some b=>exact wpAny_pure q) fun _ _ e=>e
  have mid:wpAny (model prog w) A (do
    let byValue ← if t1.plain then hashByValue 8 (.str k tk) else pure true
    let t2:=if byValue=true then t1 else { t1 with plain:=false }
    storeSet a es1 t2
    if (!wd && t2.tooFull)=true then do
      (match (relayAll t2 es1 (SetTable.grown es1.size)).2.2 with | true=>rule "set.scan.the-table-gave-way" | false=>pure ())
      storeSet a (relayAll t2 es1 (SetTable.grown es1.size)).1 (relayAll t2 es1 (SetTable.grown es1.size)).2.1
      pure (some true)
     else pure (some true)) (fun r s'=>wpAny (model prog w) A (match r with | some added=>pure added | none=>setAddHashedIn a (.str k tk) ((strKind prog w).hash k) 99999) Q E s') E s:=by
   split
   ·rw [hashByValue_scannable 8 rfl]
    exact wpAny_bind (wpAny_pure (tail' { t1 with plain:=false } hfits ⟨hgood.led,fun h=>by cases h⟩))
   ·exact wpAny_bind (wpAny_pure (tail' t1 hfits hgood))
  cases gave
  ·exact wpAny_bind (wpAny_pure mid)
  ·exact wpAny_bind (wpAny_rule mid)
end
inductive StrsAre:List Value->List Str->Prop
 | nil:StrsAre [] []
 | cons (z:Str) (t:Tok) {us:List Value} {zs:List Str}:StrsAre us zs->StrsAre (.str z t::us) (z::zs)
theorem StrsAre.length:∀ {us:List Value} {zs:List Str},StrsAre us zs->us.length=zs.length
 | _,_,.nil=>rfl
 | _,_,.cons z t r=>congrArg (· + 1) r.length
theorem StrsAre.Q8:∀ {us:List Value} {zs:List Str},StrsAre us zs->∀ (i:Nat) (v:Value),us[i]? = some v->∃ t,v=.str (zs.getD i "") t
 | _,_,.nil,i,v,h=>by simp at h
 | _,_,.cons z t r,0,v,h=>by simp at h; exact ⟨t,h.symm⟩
 | _,_,.cons z t r,i+1,v,h=>by
  have h':_:=h
  rw [List.getElem?_cons_succ] at h'
  obtain ⟨t',e⟩:=r.Q8 i v h'
  exact ⟨t',by rw [e]; rfl⟩
theorem HR.keep {prog:Program} {w:World} {h h':Heap} {a:Addr} {led:Bool} {σ:List Str} (g:HR prog w h a led σ) (k:∀ o,h.get? a=some o->h'.get? a=some o):HR prog w h' a led σ :=
 let ⟨es,ep,t,e,r⟩:=g; ⟨es,ep,t,k _ e,r⟩
theorem Ra (σ:List Str) (k:Str):(Eh σ k).length<=σ.length+1:=by
 unfold Eh
 split
 ·omega
 ·simp
theorem J6:∀ (ns:List Str) (σ:List Str),(ns.foldl Eh σ).length<=σ.length+ns.length
 | [],σ=>by simp
 | k::ns,σ=>by
  have h1:=J6 ns (Eh σ k)
  have h2:=Ra σ k
  simp only [List.foldl_cons,List.length_cons]
  omega
section
variable {prog:Program} {w:World} {A:Around} {R:Result->Shared->Prop} {I:Addr} {fp wr:List Addr} {G:Array GenState->Array GenState->Prop} {n:Nat} {P:Nat->Value->Prop} {St:Nat->Shared->Prop} {led:Bool}
theorem Wc (W:WalksS prog w A.in1 I fp wr G n P St) (S:Addr) (hSf:S ∉ fp) (ns:List Str) (hn:ns.length=n) (hval:∀ i v,P i v->∃ t,v=.str (ns.getD i "") t) (hb:n+1<scanBound) :
  ∀ (k i:Nat) (s:Shared),n - i=k->i<=n->St i s->HR prog w s.heap S led ((ns.take i).foldl Eh []) ->
   (∀ s',Moved (S::wr) G s s'->HR prog w s'.heap S led (ns.foldl Eh [])->R (.ok (.ret .none)) s')->codeAny (model prog w) A (.builtin "set.update.loop" ⟨[.ref S,.ref I],[]⟩) R s:=by
 have nw:S ∉ wr:=fun z=>hSf (W.sub _ z)
 have up:∀ b∈wr,b∈S::wr:=fun b z=>List.mem_cons_of_mem _ z
 intro k
 induction k with
 | zero =>
  intro i s hk hi st g hR
  obtain rfl:i=n:=by omega
  refine codeAny_builtin F.entry_set_update_loop ?_
  rw [Around.under_plainId F.plain_set_update_loop _]
  refine wpAny_bind (W.done s _ _ st fun s' m=>wpAny_pure (hR s' (m.mono up) ?_))
  rw [List.take_of_length_le (by omega)] at g
  exact g.keep fun o e=>m.heap S o nw e
 | succ k ih =>
  intro i s hk hi st g hR
  have lt:i<n:=by omega
  refine codeAny_builtin F.entry_set_update_loop ?_
  rw [Around.under_plainId F.plain_set_update_loop _]
  refine wpAny_bind (W.item i s _ _ lt st fun v s' p st' m=>?_)
  obtain ⟨t,rfl⟩:=hval i v p
  have g':=g.keep (h':=s'.heap) fun o e=>m.heap S o nw e
  refine wpAny_bind (wpAny_holding (wpAny_holding (wpAny_bind ((strKind prog w).pyHash (k:=ns.getD i "") (strKind_is _ _ _ _) ?_))))
  have room:((ns.take i).foldl Eh []).length+1<scanBound:=by
   have:=J6 (ns.take i) []
   rw [List.length_take] at this
   simp at this
   omega
  have tk:ns.take (i+1)=ns.take i++[ns.getD i ""]:=by
   have hl:i<ns.length:=by omega
   rw [List.take_add_one,List.getElem?_eq_getElem hl]
   simp [hl]
  refine Zt (s:={ s' with toks:=s'.toks+1 }) g' room fun b h' sb g2=>?_
  have g3:HR prog w h' S led ((ns.take (i+1)).foldl Eh []):=by
   rw [tk,List.foldl_append]
   exact g2
  refine wpAny_pure ⟨plainId_quiet F.plain_set_update_loop _,ih (i+1) _ (by omega) lt (W.frame _ s' _ _ st' (Nat.le_succ _) fun b hb o e=>?_) g3 fun s'' m2 g4=>?_⟩
  ·rw [sb.2 b (fun z:b=S=>hSf (z ▸ hb))]
   exact e
  ·refine hR s'' (Moved.trans W.gtrans ((m.mono up).then_heap (Nat.le_succ _) fun b o hb e=>?_) m2) g4
   rw [sb.2 b (fun z:b=S=>hb (by rw [z]; exact List.mem_cons_self))]
   exact e
end
section
variable {prog:Program} {w:World} {A:Around} {E:Value->Shared->Prop} {s:Shared}
theorem Uu (h:Heap):HR prog w (h.push { cls:=.type "set",dict:=none,data:=.set #[] 0 (.fresh 0 0 (Dn w)) }) h.objs.size (Dn w) [] :=
 ⟨#[],0,_,Heap.get?_push_size _ rfl,fun e he=>by simp at he,fun k=>by simp,rfl,.nil,by decide,by rfl,N5 _⟩
set_option maxHeartbeats 4000000 in
theorem Xn {l:Addr} {items:Array Value} {ns:List Str} {Q:Value->Shared->Prop} (hh:A.handled=none) (hl:s.heap.IsTuple l items) (hi:StrsAre items.toList ns) (hb:ns.length+1<scanBound)
  (h:∀ h' tk,HR prog w h' s.heap.objs.size (Dn w) (ns.foldl Eh [])->(∀ b o,s.heap.get? b=some o->h'.get? b=some o)->Q (.ref s.heap.objs.size) { s with heap:=h',toks:=tk }) :
  wpAny (model prog w) A (call (.type "set") [.ref l]) Q E s:=by
 obtain ⟨c,tl,hmro⟩:=F.called_set.mro
 have hmade:=F.called_set.made
 have hsub:=F.called_set.sub
 have hlen:items.size=ns.length:=by rw [← StrsAre.length hi]; simp
 refine wpAny_call (codeAny_of_tree ?_)
 show wpAny _ _ (callAny (.type "set") _) _ _ _
 refine wpAny_pure ⟨Code.quiet_builtin _ (by decide +kernel),codeAny_builtin F.entry_type_call ?_⟩
 rw [Around.under_plain (weight_type_call_type "set" [.ref l] []) rfl]
 have h1:=F.called_set.notType
 have h2:=F.called_set.canCreate
 have hct:=F.typeCall_set_1 (.ref l)
 repeat (any_goals (first | assumption | wp_step))
 refine codeAny_mono (Xd (.ref l) (E:=E) (Q1:=fun obj s1=>obj=.ref s.heap.objs.size/\s1 = { s with heap:=s.heap.push { cls:=.type "set",dict:=none,data:=.set #[] 0 (.fresh 0 0 (Dn w)) } }) ⟨rfl,rfl⟩) fun r s1 hr=>?_
 rcases r with e | fl
 ·exact hr
 obtain ⟨obj,rfl,hr⟩:∃ obj,fl=.ret obj/\(obj=.ref s.heap.objs.size/\s1 = { s with heap:=s.heap.push { cls:=.type "set",dict:=none,data:=.set #[] 0 (.fresh 0 0 (Dn w)) } }):=by
  cases fl with
  | ret v=>exact ⟨v,rfl,hr⟩
  | _=>exact hr.elim
 obtain ⟨rfl,rfl⟩:=hr
 have hS:(s.heap.push { cls:=.type "set",dict:=none,data:=.set #[] 0 (.fresh 0 0 (Dn w)) }).get? s.heap.objs.size=some { cls:=.type "set",dict:=none,data:=.set #[] 0 (.fresh 0 0 (Dn w)) }:=Heap.get?_push_size _ rfl
 have hT:Shared.TypeIs { s with heap:=s.heap.push { cls:=.type "set",dict:=none,data:=.set #[] 0 (.fresh 0 0 (Dn w)) } } (.ref s.heap.objs.size) "set":=⟨_,hS,rfl⟩
 have hli:=F.called_set.init.lookup
 have hbi:=F.called_set.init.bind (.ref s.heap.objs.size)
 repeat (any_goals (first | assumption | wp_step))
 refine codeAny_mono (codeAny_call_builtin (R:=wants (fun r s2=>r=.none/\∃ h' tk,s2 = { s with heap:=h',toks:=tk }/\HR prog w h' s.heap.objs.size (Dn w) (ns.foldl Eh [])/\∀ b o,s.heap.get? b=some o->h'.get? b=some o) E)
  F.called_set.init.plain F.entry_set_init (check_set_init_1 hT ?_)) fun r2 s2 hr2=>?_
 ·obtain ⟨ol,hol,hcl,nl,hdl⟩:=hl
  obtain ⟨ocls,odict,odata,oslots⟩:=ol
  simp only at hcl hdl
  subst hcl; subst hdl
  have hol':(s.heap.push { cls:=.type "set",dict:=none,data:=.set #[] 0 (.fresh 0 0 (Dn w)) }).get? l=some { cls:=.type "tuple",dict:=odict,data:=.seq items nl,slots:=oslots }:=Heap.get?_push_of_some _ hol
  have hsls:=F.sub_tuple_set
  have hslf:=F.sub_tuple_frozenset
  have hne:(Value.type "tuple" == Value.type "dict")=false:=by decide
  have hl1:(s.heap.push { cls:=.type "set",dict:=none,data:=.set #[] 0 (.fresh 0 0 (Dn w)) }).IsTuple l items:=⟨_,hol',rfl,nl,rfl⟩
  unfold Builtin.«set.__init__» noKeywords Builtin.Frozenset.updateFrom
  generalize hPI:pyIter=PI
  wp_walk
  subst hPI
  refine wpAny_pyIter_tuple hl1 (wpAny_bind (wpAny_runValue ?_))
  have lS:l<s.heap.objs.size:=Heap.lt_size hol
  have h3:A.in1.in1.in1.handled=none:=by simp [hh]
  have nI:l ≠ (s.heap.push { cls:=.type "set",dict:=none,data:=.set #[] 0 (.fresh 0 0 (Dn w)) }).objs.size:=by
   rw [Heap.size_push]
   exact Nat.ne_of_lt (Nat.lt_succ_of_lt lS)
  have nf:s.heap.objs.size ∉ [(s.heap.push { cls:=.type "set",dict:=none,data:=.set #[] 0 (.fresh 0 0 (Dn w)) }).objs.size,l]:=by
   rw [Heap.size_push]
   intro z
   rcases List.mem_cons.mp z with q | q
   ·exact absurd q (Nat.ne_of_lt (Nat.lt_succ_self _))
   ·exact absurd (List.mem_singleton.mp q) (Nat.ne_of_gt lS)
  refine Wc ((Walks.tuple h3 _ l nI items).toS) s.heap.objs.size nf ns hlen.symm (fun i v hv=>StrsAre.Q8 hi i v (by rw [Array.getElem?_toList]; exact hv)) (by rw [hlen]; exact hb) (items.size - 0) 0 _ rfl (Nat.zero_le _)
   ⟨⟨_,Heap.get?_push_size _ rfl,rfl,rfl⟩,(hl1.push _)⟩ ((Uu s.heap).keep fun o e=>Heap.get?_push_of_some _ e) fun s' m g=>?_
  obtain ⟨h',g',d',tk',os'⟩:=s'
  obtain rfl:g'=s.gens:=m.gens
  obtain rfl:d'=s.drawn:=m.drawn
  obtain rfl:os'=s.os:=m.os
  show wpAny _ _ _ _ _ _
  refine wpAny_pure ?_
  show wpAny _ _ (ret Value.none) _ _ _
  refine wpAny_pure ⟨rfl,h',tk',rfl,g,fun b o e=>?_⟩
  have b1:=Heap.lt_size e
  refine m.heap b o (fun z=>?_) (Heap.get?_push_of_some _ (Heap.get?_push_of_some _ e))
  rcases List.mem_cons.mp z with q | q
  ·exact absurd q (Nat.ne_of_lt b1)
  ·have:=List.mem_singleton.mp q
   rw [Heap.size_push] at this
   exact absurd this (Nat.ne_of_lt (Nat.lt_succ_of_lt b1))
 ·rcases r2 with e | fl2
  ·exact hr2
  obtain ⟨r,rfl,hr2⟩:∃ r,fl2=.ret r/\(r=.none/\∃ h' tk,s2 = { s with heap:=h',toks:=tk }/\HR prog w h' s.heap.objs.size (Dn w) (ns.foldl Eh [])/\∀ b o,s.heap.get? b=some o->h'.get? b=some o):=by
   cases fl2 with
   | ret v=>exact ⟨v,rfl,hr2⟩
   | _=>exact hr2.elim
  obtain ⟨rfl,h',tk,rfl,g,hk⟩:=hr2
  repeat (any_goals (first | assumption | wp_step))
  exact h _ _ g hk
end
end Ws
namespace L2
open PySem PySem.Spec PyProof.Rows
noncomputable def Lw (P:Program) (w:World) (a:Addr) (τ:List Str):HO:=.ext fun h=>Ws.HR P w h a (Wd.Dn w) τ
theorem Rw {P:Program} {w:World} {H:Hp} {h:Heap} {a:Addr} {τ:List Str} (g:Ws.HR P w h a (Wd.Dn w) τ):By P w H h a (Lw P w a τ) :=
 ⟨g,(let ⟨_,_,_,e,_⟩:=g; ⟨_,e⟩),fun _ _ g k=>g.keep k⟩
theorem Jz:∀ {ts:List Str} {us:List Value},Vals (ts.map V.str) us->Ws.StrsAre us ts
 | [],_,r=>by cases r; exact .nil
 | n::ns,_,r=>by
  cases r with
  | cons r t =>
   obtain ⟨tk,rfl⟩:=r
   exact .cons n tk (Jz t)
section
variable {X:Cx}
theorem QM (hc:X.calm=true):EY X (.type "set") (fun xs H Q=>∃ (l:Addr) (ts:List Str),xs=[V.ref l]/\Ey X.K H l (ts.map V.str)/\ts.length<=1000/\∀ p,H p=none->Q (.ref p) (upd H p (Lw X.prog X.w p (ts.foldl Ws.Eh [])))):=by
 intro pins s σ H xs us Q I r h
 obtain ⟨l,ts,rfl,hl,hz,q⟩:=h
 obtain ⟨u,rfl,ru⟩:=vals1 r
 cases ru
 obtain ⟨its,rv,pl,_⟩:=I.tuple hl
 have hn:H s.heap.objs.size=none:=I.hok.fresh (Nat.le_refl _)
 refine Ws.Xn (I.ok.hd hc) pl (by simpa using Jz rv) (by unfold scanBound; omega) fun h' tk g k=>?_
 exact ⟨.ref s.heap.objs.size,_,I.laid (t':=tk) k (Nat.le_refl _) (Rw g),rfl,q _ hn⟩
theorem Jo:EY X (.builtin "len") (fun xs H Q=>∃ (a:Addr) (τ:List Str),xs=[V.ref a]/\H a=some (Lw X.prog X.w a τ)/\Q (.int (τ.length:Nat)) H):=by
 intro pins s σ H xs us Q I r h
 obtain ⟨a,τ,rfl,ha,q⟩:=h
 obtain ⟨u,rfl,ru⟩:=vals1 r
 cases ru
 refine byC fun w_=>?_;obtain ⟨⟨es,ep,t,e1,e2,e3,e4,e5,e6,e7,e8⟩,_,_⟩:=(show By X.prog X.w H s.heap a (Lw X.prog X.w a τ) from I.hok a _ ha);refine w_ ?_
 unfold scanBound at e6
 refine call_len_set e1 ⟨rfl,rfl,rfl⟩ rfl e7 (by omega) ⟨.int ((es.size:Nat):Int),H,I.tok _,⟨_,rfl⟩,?_⟩
 rw [e4]
 exact q
end
theorem Jw:∀ (ts τ:List Str),(τ++ts).Nodup->(ts.foldl Ws.Eh τ)=τ++ts
 | [],τ,_=>(List.append_nil _).symm
 | t::ts,τ,h=>by
  have hn:t ∉ τ:=fun z=>by
   rw [List.nodup_append] at h
   exact h.2.2 t z t (List.mem_cons_self ..) rfl
  rw [List.foldl_cons]
  have e:Ws.Eh τ t=τ++[t]:=by unfold Ws.Eh; rw [if_neg hn]
  rw [e,Jw ts (τ++[t]) (by rw [List.append_assoc]; exact h),List.append_assoc]
  rfl
end L2
namespace L2
open PySem PySem.Spec PyProof.Rows
section
variable {X:Cx}
end
end L2
namespace L2
open PySem PySem.Spec PyProof.Rows
section
variable {σ:St} {H1:Hp} {Q:VK} {tt:TT} {te:TE}
theorem JC {K:PySem.W.Frag} {a:Addr} {xs:List V} (p:V->Bool) (f:V->V) (hl:Ey K H1 a xs) (hz:xs.length<sizeLine)
  (ht:∀ x∈xs,∀ H,Ao H1 H->∀ R:Bool->Hp->Prop,(∀ H',Ao H H'->R (p x) H')->tt (some x::σ) H R)
  (he:∀ x∈xs,p x=true->∀ H,Ao H1 H->∀ R:VK,(∀ H',Ao H H'->R (f x) H')->te (some x::σ) H R)
  (hq:∀ D H,H1 D=none->Ao H1 H->H D=some (.lst ((xs.filter p).map f))->Q (.ref D) H):Fp (Ww K a) σ H1 Q tt te :=
 GZ p f hz (fun i H x hs hx=>⟨xs,x,hs.tup hl,hx⟩) (fun i H y H' hs _ hy=>⟨hy.1,hy.2 xs (hs.tup hl)⟩) (fun H hs=>⟨xs,hs.tup hl,Nat.le_refl _⟩) ht he hq
end
end L2
namespace Og
open PySem L2
theorem Uy {X:Cx} {K:PySem.W.Frag} {e:Expr} {f:Str} {pos:Pos} {ta:TE} (hK:X.K=K) (he:PE X e ta) (hb:attributeBase e f X.env (eval e X.env)=eval e X.env):PE X (.Attribute e f pos) (Wz K ta f):=by
 rw [← hK]
 exact El he hb
structure WD (K:PySem.W.Frag) (aM:Addr) (ρ:V->R) (vs:List V) (r:R):Prop where
 w:r.w = "step"
 ts:∃ ts:List Str,V.str r.nm::r.rest=ts.map V.str/\ts.Nodup/\ts.length<=24/\∀ t∈ts,isNm t/\S_ ρ vs "stop" t=true
 room:∃ (m:Int) (t:Tok),PySem.W.nsIn K aM r.w=some (some (.int m t))/\(((vs.filter (pw ρ r.w)).length:Nat):Int)<m
noncomputable abbrev Gh (K:PySem.W.Frag) (aB aP aM:Addr) (ρ:V->R) (vs:List V) (r:R):Prop:=Hy K aB aP aM ρ vs r \/ WD K aM ρ vs r
theorem Gh.room {K:PySem.W.Frag} {aB aP aM:Addr} {ρ:V->R} {vs:List V} {r:R} (h:Gh K aB aP aM ρ vs r):PySem.W.nsIn K aM r.w=some none \/ ∃ (m:Int) (t:Tok),PySem.W.nsIn K aM r.w=some (some (.int m t))/\(((vs.filter (pw ρ r.w)).length:Nat):Int)<m :=
 h.elim (fun h=>h.room.elim (fun z=>.inl z.2) .inr) (fun h=>.inr h.room)
noncomputable def Kz (r:R):List Str:=(V.str r.nm::r.rest).map fun v=>match v with | .str t=>t | _=>""
theorem Hz {r:R} {ts:List Str} (h:V.str r.nm::r.rest=ts.map V.str):Kz r=ts:=by
 unfold Kz
 rw [h,List.map_map]
 exact List.map_id ts
noncomputable def stN (ks:List R) (r:R):Nat:=Wd.mk ((Kz r).map fun t=>(ks.map (·.nm)).idxOf t)
structure e_ (K:PySem.W.Frag) (aB aP aM:Addr) (ρ:V->R) (us:List V) (bs:List (Str × Nat)) (rk:List (Str × Nat × Int)) (ks:List R):Prop where
 eb:(us.filter (pw ρ "board")).map ρ=bs.map Ft
 er:(us.filter (pw ρ "rank")).map ρ=rk.map F_
 ek:(us.filter (fun v=>Gs (ρ v).w)).map ρ=ks
 ln:∀ (i:Nat) v,us[i]? = some v->(ρ v).w = "line"->(∃ (j:Nat) (r:Str × Nat × Int) (sh lo hi:Int),rk[j]? = some r/\r.1=(ρ v).nm/\(ρ v).rest=[.int sh,.int lo,.int hi])/\∃ u∈us.take i,Gs (ρ u).w=true
 st:∀ v∈us,(ρ v).w = "step"->∃ ts:List Str,V.str (ρ v).nm::(ρ v).rest=ts.map V.str/\ts.length<=24/\∀ t∈ts,t∈ks.map (·.nm)
 b0:1<=bs.length
 b5:bs.length<=5
 sz:∀ b∈bs,b.2<=61
 nr:rk.length<=12
 nz:∀ r∈rk,r.2.1<=97
 nk:ks.length<=100
 nb:(bs.map (·.1)).Nodup
 nrr:(rk.map (·.1)).Nodup
 nn:(ks.map (·.nm)).Nodup
 len:us.length<=150
 ok:∀ (i:Nat) v,us[i]? = some v->Gh K aB aP aM ρ (us.take i) (ρ v)
structure KR (C:Addr) (H:Hp) (x:Addr) (us:List V) (bs:List (Str × Nat)) (rk:List (Str × Nat × Int)) (ks:List R) (ls:List (List Ln)) (sts:List Nat):Prop where
 o:JZ C H x bs rk ks ls
 m:∃ (dx:Addr) (fs:List (Str × V)) (rl kd ss:Addr) (kvs:List (Key × V)),H x=some (.ins C dx fs)/\fs.lookup ("row_list" : Str)=some (.ref rl)/\fs.lookup ("knob_numbers" : Str)=some (.ref kd)/\fs.lookup ("step_sets" : Str)=some (.ref ss) /\
  H rl=some (.lst us)/\H kd=some (.dK kvs)/\(∀ (i:Nat) t,(ks.map (·.nm))[i]? = some t->CJ kvs (Sum.inr t)=some (.int (i:Nat)))/\(∀ t,t ∉ ks.map (·.nm)->CJ kvs (Sum.inr t)=none)/\H ss=some (.lst (sts.map fun n:Nat=>V.int (n:Int))) /\
  ∃ (bn:Addr) (kb:List (Key × V)),fs.lookup ("board_numbers" : Str)=some (.ref bn)/\H bn=some (.dK kb)/\∀ t,t ∉ bs.map (·.1)->CJ kb (Sum.inr t)=none
theorem KR.mono {C:Addr} {H H':Hp} {x:Addr} {us:List V} {bs:List (Str × Nat)} {rk:List (Str × Nat × Int)} {ks:List R} {ls:List (List Ln)} {sts:List Nat} (s:Ao H H') (h:KR C H x us bs rk ks ls sts):KR C H' x us bs rk ks ls sts:=by
 refine byC fun w_=>?_;obtain ⟨o,dx,fs,rl,kd,ss,kvs,h1,l1,l2,l3,h2,h3,h4,h5,h6,bn,kb,h7,h8,h9⟩:=h;refine w_ ?_
 exact ⟨o.mono s,dx,fs,rl,kd,ss,kvs,s _ _ h1,l1,l2,l3,s _ _ h2,s _ _ h3,h4,h5,s _ _ h6,bn,kb,h7,s _ _ h8,h9⟩
noncomputable def Dj (p:Addr) (H:Hp) (D:Addr) (ls:List (List Ln)):Prop:=∃ lv,H D=some (.lst lv)/\D ≠ p/\Paired (fun l v=>Ga H l v/\v ≠ .ref p) ls lv
theorem Dj.mono {p:Addr} {H H':Hp} {D:Addr} {ls:List (List Ln)} (s:Ao H H') (h:Dj p H D ls):Dj p H' D ls:=by
 obtain ⟨lv,h1,h2,h3⟩:=h
 exact ⟨lv,s _ _ h1,h2,Paired.Ex h3 fun _ _ q=>⟨q.1.mono s,q.2⟩⟩
theorem Dj.sx {p x C dx:Addr} {fs:List (Str × V)} {H H':Hp} {D:Addr} {ls:List (List Ln)} (h:Dj p H D ls) (s:SX x H H') (hx:H x=some (.ins C dx fs)):Dj p H' D ls:=by
 obtain ⟨lv,h1,h2,h3⟩:=h
 refine ⟨lv,s.lst hx h1,h2,Paired.Ex h3 fun _ _ q=>⟨?_,q.2⟩⟩
 obtain ⟨A,ts,e,h4,h5⟩:=q.1
 exact ⟨A,ts,e,s.lst hx h4,s.pair hx h5⟩
theorem Rj {p:Addr} {H H':Hp} {us zs:List V} {y:V} (s:SX p H H') (hp:H p=some (.lst us)) (h:TupAt H zs y):TupAt H' zs y:=by
 obtain ⟨T,rfl,e⟩:=h
 exact ⟨T,rfl,s _ _ e fun z=>by rw [z,hp] at e; cases e⟩
theorem HN {α:Type} {f:α->List V} {p:Addr} {H H':Hp} {us vs:List V} {l:List α} (s:SX p H H') (hp:H p=some (.lst us)) (h:Paired (fun a y=>TupAt H (f a) y) l vs):Paired (fun a y=>TupAt H' (f a) y) l vs:=Paired.Ex h fun _ _ q=>Rj s hp q
theorem Oh {p a:Addr} {H H':Hp} {us:List V} {kvs:List (Key × V)} (s:SX p H H') (hp:H p=some (.lst us)) (h:H a=some (.dK kvs)):H' a=some (.dK kvs):=s _ _ h fun z=>by rw [z,hp] at h; cases h
theorem Dj.sp {p:Addr} {H H':Hp} {us:List V} {D:Addr} {ls:List (List Ln)} (h:Dj p H D ls) (s:SX p H H') (hp:H p=some (.lst us)):Hd H' D ls:=by
 obtain ⟨lv,h1,h2,h3⟩:=h
 refine ⟨lv,s _ _ h1 h2,Paired.Ex h3 fun _ v q=>?_⟩
 obtain ⟨⟨A,ts,rfl,h4,h5⟩,hn⟩:=q
 exact ⟨A,ts,rfl,s _ _ h4 (fun z=>hn (by rw [z])),HN s hp h5⟩
end Og
namespace L2
open PySem PySem.Spec PySem.Calls PyProof.Rows
section
variable {M:Model} {A:Around} {E:Value->Shared->Prop} {s:Shared} {base:Heap} {env:Env} {outer:List Env} {L x T C:Addr} {od:Option Addr} {Q:Unit->Shared->Prop}
end
section
variable {P:Program} {w:World} {fs:List Addr} {H H':Hp} {h h1 h2 h3:Heap} {x T T':Addr}
end
section
variable {X:Cx} {C:Addr} {x:Str} {e:Expr} {es:List Expr} {t:TA} {np cpos pos:Pos} {E:XK}
end
section
variable {X:Cx} {pins:List (Addr × Obj)} {σ:St} {H:Hp} {s:Shared}
end
noncomputable def Ends.drop (D:Ends) (i:Nat):Ends:={ nx:=fun σ H=>D.nx (σ.set i none) H,rt:=D.rt,bk:=fun σ H=>D.bk (σ.set i none) H,ct:=fun σ H=>D.ct (σ.set i none) H }
section
variable {X:Cx} {k i:Nat} {f O:Addr} {fd:FuncData} {ps:List Str} {sp:Sp} {dvs:List V} {ds:List Value} {fx cn n:Str} {p np cpos epos hpos pos:Pos} {e:Expr} {es:List Expr} {t:TA} {b0:Stmt} {suite:List Stmt} {ts:TS}
end
structure X6 (k:Nat) (A:Around):Prop where
 dp:A.depth+3 * k+5<recursionLimit
 un:A.units+16 * k+200<cLine
structure gG (P:Program) (w:World) (K:PySem.W.Frag) (mg:Str->Option Value) (base:Heap) (CX:P0) (k:Nat) (f:Addr) (fd:FuncData) (ps:List Str) (sp:Sp):Prop where
 len:∀ vs H Q E,sp vs H Q E->vs.length=ps.length
 run:∀ (A:Around) (outer:List Env) (s:Shared) (H:Hp) (args:Args) (us:List Value) (vs:List V) (Q:VK) (E:XK),X6 k A->L_ P w K mg base A outer s H->BindsTo s fd args (ps.zip us)->Vals vs us->sp vs H Q E ->
  codeAny (model P w) A (.call (.ref f) args) (CR CX outer P w H s Q E) s
section
variable {P:Program} {w:World} {K:PySem.W.Frag} {mg:Str->Option Value} {base:Heap}
end
section
variable {X:Cx} {CX:P0} {k:Nat} {f:Addr} {fd:FuncData} {ps:List Str} {sp:Sp} {dvs:List V} {ds:List Value} {E:XK} {x:Str} {p pos:Pos} {e:Expr} {es:List Expr} {t:TA}
end
end L2
namespace PySem
open Sem (wp)
namespace F
theorem HF:typeLookup (.type "str") "__int__" = pure none:=by rw [typeLookup_type,builtinLookup_eq_fast]; kernel_rfl
theorem Fg:typeLookup (.type "str") "__index__" = pure none:=by rw [typeLookup_type,builtinLookup_eq_fast]; kernel_rfl
theorem Fl:typeLookup (.type "str") "__trunc__" = pure none:=by rw [typeLookup_type,builtinLookup_eq_fast]; kernel_rfl
end F
noncomputable def Ec (c:Nat):Prop:=48<=c/\c<=57
theorem RT {p:Nat->Bool} {l:List Nat} (h:∀ c∈l,p c=false):l.dropWhile p=l:=by
 cases l with
 | nil=>rfl
 | cons a r=>rw [List.dropWhile_cons,if_neg (by rw [h a List.mem_cons_self]; exact Bool.false_ne_true)]
theorem JV {g:Array Nat × Bool->Nat->Option (Array Nat × Bool)} (hg:∀ ds b c,Ec c->g (ds,b) c=some (ds.push (c - 48),true)):∀ (l:List Nat) (ds:Array Nat) (b:Bool),(∀ c∈l,Ec c)->l ≠ [] ->
  List.foldlM g (ds,b) l=some (ds++(l.map (· - 48)).toArray,true)
 | [],_,_,_,h=>absurd rfl h
 | [c],ds,b,h,_=>by
  rw [List.foldlM_cons,hg ds b c (h c (by simp))]
  simp
 | c::e::r,ds,b,h,_=>by
  rw [List.foldlM_cons,hg ds b c (h c (by simp))]
  show List.foldlM g (ds.push (c - 48),true) (e::r)=_
  rw [JV hg (e::r) _ _ (fun x hx=>h x (List.mem_cons_of_mem _ hx)) (by simp)]
  simp
theorem Ej {c:Nat} (h:Ec c):c=48 \/ c=49 \/ c=50 \/ c=51 \/ c=52 \/ c=53 \/ c=54 \/ c=55 \/ c=56 \/ c=57:=by
 unfold Ec at h
 omega
noncomputable def Fz (l:List Nat):Nat:=l.foldl (fun a d=>a * 10+(d - 48)) 0
theorem Ma (c:Nat) (r:List Nat):Array.foldl (fun acc d=>acc * 10+d) 0 (#[]++(List.map (fun x=>x - 48) (c::r)).toArray)=Fz (c::r):=by
 unfold Fz
 rw [← Array.foldl_toList]
 simp [List.foldl_map]
set_option maxHeartbeats 8000000 in
theorem Jm (z:Str) (u:Tok) (c:Nat) (r:List Nat) (hl:z.cps.toList=c::r) (hc:49<=c/\c<=57) (hr:∀ c∈r,Ec c) (h1:z.cps.all (· < 128)=true) (h0:z.cps.toList.takeWhile (· != 0)=z.cps.toList) (h2:r.length<=600) :
  Meets (Builtin.«int.__new__» ⟨[.type "int",.str z u],[]⟩) (Made.int ((Fz (c::r):Nat):Int)).spec :=
 Meets.of_wp fun prog w A R s hs=>by
  obtain ⟨hp,g,d,tk,os⟩:=s
  have f1:=F.conv_sub_int
  have f2:=F.madeHere_int
  have hT:(⟨hp,g,d,tk,os⟩:Shared).TypeIs (.str z u) "str":=rfl
  have f3:=F.HF
  have f4:=F.Fg
  have f5:=F.Fl
  repeat (any_goals (first | assumption | wp_step))
  rw [if_pos h1,h0,hl,if_pos (by simp only [List.length_cons]; omega)]
  refine wpAny_bind (wpAny_pure ?_)
  dsimp only
  have hall:∀ x∈c::r,Ec x:=fun x hx=>by
   rcases List.mem_cons.mp hx with rfl | hx
   ·exact ⟨by omega,by omega⟩
   ·exact hr x hx
  have hallr:∀ x∈(c::r).reverse,Ec x:=fun x hx=>hall x (List.mem_reverse.mp hx)
  have hv:=Ma c r
  have hz:((#[]:Array Nat)++(List.map (fun x=>x - 48) (c::r)).toArray).size=r.length+1:=by simp
  generalize hX:Fz (c::r)=X at hs hv
  have hcc:c=49 \/ c=50 \/ c=51 \/ c=52 \/ c=53 \/ c=54 \/ c=55 \/ c=56 \/ c=57:=by omega
  rcases hcc with rfl | rfl | rfl | rfl | rfl | rfl | rfl | rfl | rfl
  all_goals
   conv=>arg 3; arg 2; whnf
   rw [RT (l:=_::r) (fun x hx=>by rcases Ej (hall x hx) with rfl | rfl | rfl | rfl | rfl | rfl | rfl | rfl | rfl | rfl <;> rfl)]
   rw [RT (l:=(_::r).reverse) (fun x hx=>by rcases Ej (hallr x hx) with rfl | rfl | rfl | rfl | rfl | rfl | rfl | rfl | rfl | rfl <;> rfl)]
   rw [List.reverse_reverse]
   conv=>arg 3; arg 2; arg 2; whnf
   rw [JV (fun ds b c hc=>by rcases Ej hc with rfl | rfl | rfl | rfl | rfl | rfl | rfl | rfl | rfl | rfl <;> rfl) (_::r) #[] false hall (by simp)]
   dsimp only
   rw [if_pos rfl]
   dsimp only
   rw [if_neg (by simp),if_neg (by rw [hz]; simp; omega)]
   rw [if_neg (by simp)]
   dsimp only
   rw [hv,if_neg Bool.false_ne_true,if_pos (by simp)]
   repeat (any_goals (first | assumption | wp_step))
   all_goals exact ⟨_,rfl,hs⟩
set_option maxHeartbeats 8000000 in
theorem Jl (z:Str) (u:Tok) (c:Nat) (r:List Nat) (hl:z.cps.toList=45::c::r) (hc:49<=c/\c<=57) (hr:∀ c∈r,Ec c) (h1:z.cps.all (· < 128)=true) (h0:z.cps.toList.takeWhile (· != 0)=z.cps.toList) (h2:r.length<=600) :
  Meets (Builtin.«int.__new__» ⟨[.type "int",.str z u],[]⟩) (Made.int (-((Fz (c::r):Nat):Int))).spec :=
 Meets.of_wp fun prog w A R s hs=>by
  obtain ⟨hp,g,d,tk,os⟩:=s
  have f1:=F.conv_sub_int
  have f2:=F.madeHere_int
  have hT:(⟨hp,g,d,tk,os⟩:Shared).TypeIs (.str z u) "str":=rfl
  have f3:=F.HF
  have f4:=F.Fg
  have f5:=F.Fl
  repeat (any_goals (first | assumption | wp_step))
  rw [if_pos h1,h0,hl,if_pos (by simp only [List.length_cons]; omega)]
  refine wpAny_bind (wpAny_pure ?_)
  dsimp only
  have hall:∀ x∈c::r,Ec x:=fun x hx=>by
   rcases List.mem_cons.mp hx with rfl | hx
   ·exact ⟨by omega,by omega⟩
   ·exact hr x hx
  have hallr:∀ x∈(c::r).reverse,Ec x:=fun x hx=>hall x (List.mem_reverse.mp hx)
  have hv:=Ma c r
  have hz:((#[]:Array Nat)++(List.map (fun x=>x - 48) (c::r)).toArray).size=r.length+1:=by simp
  generalize hX:Fz (c::r)=X at hs hv
  have hcc:c=49 \/ c=50 \/ c=51 \/ c=52 \/ c=53 \/ c=54 \/ c=55 \/ c=56 \/ c=57:=by omega
  rcases hcc with rfl | rfl | rfl | rfl | rfl | rfl | rfl | rfl | rfl
  all_goals
   conv=>arg 3; arg 2; whnf
   rw [RT (l:=(_::r).reverse) (fun x hx=>by rcases Ej (hallr x hx) with rfl | rfl | rfl | rfl | rfl | rfl | rfl | rfl | rfl | rfl <;> rfl)]
   rw [List.reverse_reverse]
   conv=>arg 3; arg 2; arg 2; whnf
   rw [JV (fun ds b c hc=>by rcases Ej hc with rfl | rfl | rfl | rfl | rfl | rfl | rfl | rfl | rfl | rfl <;> rfl) (_::r) #[] false hall (by simp)]
   dsimp only
   rw [if_pos rfl]
   dsimp only
   rw [if_neg (by simp),if_neg (by rw [hz]; simp; omega)]
   rw [if_neg (by simp)]
   dsimp only
   rw [hv,if_pos rfl,if_pos (by simp)]
   repeat (any_goals (first | assumption | wp_step))
   all_goals exact ⟨_,rfl,hs⟩
end PySem
namespace L2
open PySem PySem.Spec PySem.Calls PyProof.Rows
section
variable {X:Cx}
theorem J2:aV X "str.startswith" (fun x xs H Q=>∃ z y,x=V.str z/\xs=[V.str y]/\Q (.bl (Txt.startswith z y)) H):=by
 intro pins s σ H x xs v us Q I rx r h
 obtain ⟨z,y,rfl,rfl,q⟩:=h
 obtain ⟨t,rfl⟩:=rx
 obtain ⟨w,rfl,rw'⟩:=Vals.one r
 obtain ⟨u,rfl⟩:=rw'
 exact call_gives F.slot_str_startswith (typeIs_str _ _ _) F.entry_str_startswith (F.args_str_startswith_2 _ _) (gives_str_startswith z y t u) ⟨.bl _,H,I,rfl,q⟩
theorem Jp:EY X (.type "int") (fun xs H Q=>∃ z i,xs=[V.str z]/\(∀ u,Meets (Builtin.«int.__new__» ⟨[.type "int",.str z u],[]⟩) (Made.int i).spec)/\Q (.int i) H):=by
 intro pins s σ H xs us Q I r h
 obtain ⟨z,i,rfl,g,q⟩:=h
 obtain ⟨u,rfl,t,rfl⟩:=vals1 r
 exact call_int_1 (g t) (show (Made.int i).post _ s from ⟨rfl,.int i,H,I.tok _,⟨_,rfl⟩,q⟩)
end
theorem Gf (z:Str) (c:Nat):Txt.startswith z ⟨#[c]⟩=(z.cps.toList.head? == some c):=by
 unfold Txt.startswith
 rw [Bool.eq_iff_iff,Bool.and_eq_true,decide_eq_true_eq,StrLaws.subAt_one z c 0,beq_iff_eq,List.head?_eq_getElem?]
theorem Qg {z:Str} (h:1<=z.cps.toList.length):(Txt.slice z (some 1) none).cps.toList=z.cps.toList.drop 1:=by
 have hl:z.length=z.cps.toList.length:=by simp [Str.length]
 rw [slice_from_eq (x:=z) (i:=1) (b:=(z.length:Int)) (by decide) (by omega) rfl]
 rw [List.toList_toArray]
 refine List.take_of_length_le ?_
 rw [List.length_drop]
 omega
end L2
namespace PySem
open Sem (wp)
set_option maxRecDepth 100000 in
set_option maxHeartbeats 4000000 in
theorem JB (z:Str) (u:Tok) (hl:z.cps.toList=[48]) (h1:z.cps.all (· < 128)=true):Meets (Builtin.«int.__new__» ⟨[.type "int",.str z u],[]⟩) (Made.int 0).spec :=
 Meets.of_wp fun prog w A R s hs=>by
  obtain ⟨hp,g,d,tk,os⟩:=s
  have f1:=F.conv_sub_int
  have f2:=F.madeHere_int
  have hT:(⟨hp,g,d,tk,os⟩:Shared).TypeIs (.str z u) "str":=rfl
  have f3:=F.HF
  have f4:=F.Fg
  have f5:=F.Fl
  repeat (any_goals (first | assumption | wp_step))
  rw [if_pos h1,hl]
  split <;> rename_i hq
  all_goals
   conv at hq=>lhs; whnf
   injection hq
  rename_i hq
  have e:(0:Int)=_:=(show (0:Int)=_ from hq)
  subst e
  rw [if_pos (by rfl)]
  repeat (any_goals (first | assumption | wp_step))
  all_goals exact ⟨_,rfl,hs⟩
end PySem
namespace Nm
open PySem (Fz Ec)
noncomputable def dig (c:Nat):Bool:=decide (48<=c) && decide (c<=57)
noncomputable def Ik (l:List Nat):List Nat:=if l.head? == some 45 then l.drop 1 else l
noncomputable def Ro (l:List Nat):Bool:=decide (l=[48]) || (decide (1<=(Ik l).length) && decide ((Ik l).length<=12) && (Ik l).all dig && !((Ik l).head? == some 48))
theorem PP {c:Nat}:dig c=true ↔ Ec c:=by simp [dig,Ec]
noncomputable def LQ (m:Nat):List Nat:=if h:m=0 then [] else LQ (m / 10)++[48+m % 10]
termination_by m
decreasing_by omega
theorem Di:LQ 0=[]:=by rw [LQ]; rfl
theorem Du {m:Nat} (h:m ≠ 0):LQ m=LQ (m / 10)++[48+m % 10]:=by
 rw [LQ,dif_neg h]
theorem Kv:∀ (m:Nat) (c:Nat),c∈LQ m->Ec c:=by
 intro m
 induction m using Nat.strongRecOn with
 | ind m ih =>
  intro c hc
  by_cases h:m=0
  ·rw [h,Di] at hc; cases hc
  ·rw [Du h] at hc
   rcases List.mem_append.mp hc with hc | hc
   ·exact ih (m / 10) (by omega) c hc
   ·rw [List.mem_singleton.mp hc]
    unfold Ec
    omega
theorem Hi:∀ (m:Nat),m ≠ 0->∃ c r,LQ m=c::r/\49<=c/\c<=57:=by
 intro m
 induction m using Nat.strongRecOn with
 | ind m ih =>
  intro h
  rw [Du h]
  by_cases h10:m / 10=0
  ·rw [h10,Di]
   exact ⟨48+m % 10,[],rfl,by omega,by omega⟩
  ·obtain ⟨c,r,e,h1,h2⟩:=ih (m / 10) (by omega) h10
   exact ⟨c,r++[48+m % 10],by rw [e]; rfl,h1,h2⟩
theorem Od:∀ (k m:Nat),m<10 ^ k->(LQ m).length<=k
 | 0,m,h=>by
  have:m=0:=by simpa using h
  rw [this,Di]
  exact Nat.le_refl _
 | k+1,m,h=>by
  by_cases h0:m=0
  ·rw [h0,Di]; exact Nat.zero_le _
  ·rw [Du h0,List.length_append]
   have:m / 10<10 ^ k:=by
    rw [Nat.pow_succ] at h
    omega
   have:=Od k (m / 10) this
   simp only [List.length_cons,List.length_nil]
   omega
theorem QD (a:List Nat) (d:Nat):Fz (a++[d])=Fz a * 10+(d - 48):=by
 unfold Fz
 rw [List.foldl_append]
 rfl
theorem Kl:∀ m:Nat,Fz (LQ m)=m:=by
 intro m
 induction m using Nat.strongRecOn with
 | ind m ih =>
  by_cases h:m=0
  ·rw [h,Di]; rfl
  ·rw [Du h,QD,ih (m / 10) (by omega)]
   omega
noncomputable def mag (m:Nat):List Nat:=if m=0 then [48] else LQ m
noncomputable def wr (n:Int):List Nat:=(if n<0 then [45] else [])++mag n.natAbs
theorem O_ {m c:Nat} (h:c∈mag m):Ec c:=by
 unfold mag at h
 split at h
 ·rw [List.mem_singleton.mp h]; unfold Ec; omega
 ·exact Kv m c h
theorem K4 {m:Nat} (h:m<10 ^ 12):1<=(mag m).length/\(mag m).length<=12:=by
 unfold mag
 split
 ·simp
 ·rename_i h0
  obtain ⟨c,r,e,_⟩:=Hi m h0
  refine ⟨by rw [e]; simp,Od 12 m h⟩
theorem Nt {n:Int} {c:Nat} (h:c∈wr n):c=45 \/ Ec c:=by
 unfold wr at h
 rcases List.mem_append.mp h with h | h
 ·split at h
  ·exact .inl (List.mem_singleton.mp h)
  ·cases h
 ·exact .inr (O_ h)
theorem Mt {n:Int} (h:n.natAbs<10 ^ 12):1<=(wr n).length/\(wr n).length<=13:=by
 have:=K4 h
 unfold wr
 rw [List.length_append]
 split <;> simp <;> omega
theorem R0 {n:Int} (h:0<n):∃ c r,wr n=c::r/\49<=c/\c<=57/\∀ x∈r,Ec x:=by
 have h0:n.natAbs ≠ 0:=by omega
 obtain ⟨c,r,e,h1,h2⟩:=Hi n.natAbs h0
 refine ⟨c,r,?_,h1,h2,fun x hx=>Kv n.natAbs x (by rw [e]; exact List.mem_cons_of_mem _ hx)⟩
 unfold wr mag
 rw [if_neg (by omega),if_neg h0,e]
 rfl
theorem Rv {n:Int} (h:n<0):∃ c r,wr n=45::c::r/\49<=c/\c<=57/\∀ x∈r,Ec x:=by
 have h0:n.natAbs ≠ 0:=by omega
 obtain ⟨c,r,e,h1,h2⟩:=Hi n.natAbs h0
 refine ⟨c,r,?_,h1,h2,fun x hx=>Kv n.natAbs x (by rw [e]; exact List.mem_cons_of_mem _ hx)⟩
 unfold wr mag
 rw [if_pos h,if_neg h0,e]
 rfl
theorem R5 {l r:List Nat} {c:Nat} (hf:Ik l=c::r) (h1:49<=c) (h2:c<=57) (hr:∀ x∈r,Ec x) (hl:r.length<=11):Ro l=true:=by
 unfold Ro
 rw [hf,Bool.or_eq_true]
 refine .inr ?_
 rw [Bool.and_eq_true,Bool.and_eq_true,Bool.and_eq_true]
 refine ⟨⟨⟨decide_eq_true (by simp),decide_eq_true (by simp; omega)⟩,?_⟩,?_⟩
 ·rw [List.all_eq_true]
  intro x hx
  rcases List.mem_cons.mp hx with rfl | hx
  ·exact PP.mpr ⟨by omega,by omega⟩
  ·exact PP.mpr (hr x hx)
 ·simp
  omega
theorem Q5 {n:Int} (h:n.natAbs<10 ^ 12):Ro (wr n)=true:=by
 have hm:=K4 h
 rcases Int.lt_trichotomy n 0 with hn | hn | hn
 ·obtain ⟨c,r,e,h1,h2,hr⟩:=Rv hn
  have el:(wr n).length=(mag n.natAbs).length+1:=by unfold wr; rw [if_pos hn]; simp
  rw [e] at el
  rw [e]
  refine R5 (c:=c) (r:=r) rfl h1 h2 hr ?_
  simp only [List.length_cons] at el
  omega
 ·subst hn; rfl
 ·obtain ⟨c,r,e,h1,h2,hr⟩:=R0 hn
  have el:(wr n).length=(mag n.natAbs).length:=by unfold wr; rw [if_neg (by omega)]; simp
  rw [e] at el
  rw [e]
  refine R5 (c:=c) (r:=r) ?_ h1 h2 hr ?_
  ·unfold Ik
   rw [if_neg]
   simp
   omega
  ·simp only [List.length_cons] at el
   omega
theorem Rk {r:List Nat} {c:Nat} (hc:dig c=false) (h45:c ≠ 45):Ro (c::r)=false:=by
 have hne:c::r ≠ [48]:=fun z=>by
  injection z with z _
  rw [z] at hc
  cases hc
 have hf:Ik (c::r)=c::r:=by
  unfold Ik
  rw [if_neg]
  simp [h45]
 unfold Ro
 rw [decide_eq_false hne,Bool.false_or,hf]
 have:(c::r).all dig=false:=by
  rw [List.all_cons,hc,Bool.false_and]
 rw [this,Bool.and_false,Bool.false_and]
end Nm
namespace L2
open PySem PySem.Spec PySem.Calls PyProof.Rows
theorem Ju:∀ (l:List Str) (k:Nat),Vals (l.map V.str) (strsFrom k l)
 | [],_=>.nil
 | _::l,k=>.cons ⟨_,rfl⟩ (Ju l (k+1))
section
variable {X:Cx}
theorem KH:aV X "str.split" (fun x xs H Q=>∃ z y,x=V.str z/\xs=[V.str y]/\(y.length == 0)=false/\z.length<=sizeLine/\(Txt.split z y).length<=sizeLine/\∀ p,H p=none->Q (.ref p) (upd H p (.lst ((Txt.split z y).map V.str)))):=by
 intro pins s σ H x xs v us Q I rx r h
 obtain ⟨z,y,rfl,rfl,hy,hz,hn,q⟩:=h
 obtain ⟨t,rfl⟩:=rx
 obtain ⟨w,rfl,rw'⟩:=Vals.one r
 obtain ⟨u,rfl⟩:=rw'
 have fin:Txt.split z y=[z]->listOfItself z t X.A (wants (EP X pins σ Q) X.xe) s:=fun e=>by
  have q':=q _ I.fresh
  rw [e] at q'
  exact ⟨.ref s.heap.objs.size,_,I.Rb (t':=s.toks) (ys:=[.str z]) (its:=[.str z t]) (.cons ⟨t,rfl⟩ .nil) (show 1<=sizeLine by decide),rfl,q'⟩
 cases h1:(decide (z.length<y.length) || decide (Builtin.Str.strKind z<Builtin.Str.strKind y)) with
 | true=>exact call_meets F.slot_str_split (typeIs_str _ _ _) F.entry_str_split (F.args_str_split_2 _ _) (meets_str_split_cannot_occur z y t u h1) (fin (if_pos h1))
 | false =>
  have e0:Txt.split z y=if (Builtin.Str.occurrences z y 0 z.length (z.length+1)).isEmpty=true then [z] else Builtin.Str.partsBetween z (Builtin.Str.occurrences z y 0 z.length (z.length+1)) y.length:=if_neg (ne_true_of_eq_false h1)
  cases hf:(Builtin.Str.occurrences z y 0 z.length (z.length+1)).isEmpty with
  | true=>exact call_meets F.slot_str_split (typeIs_str _ _ _) F.entry_str_split (F.args_str_split_2 _ _) (meets_str_split_not_found z y t u h1 hy hf) (fin (e0.trans (if_pos hf)))
  | false =>
   have e1:=e0.trans (if_neg (ne_true_of_eq_false hf))
   rw [e1] at hn q
   refine call_meets F.slot_str_split (typeIs_str _ _ _) F.entry_str_split (F.args_str_split_2 _ _) (meets_str_split_sep z y t u h1 hy hf hz hn) ?_
   exact ⟨.ref s.heap.objs.size,_,I.Rb (Ju _ _) (by rw [List.length_map]; exact hn),rfl,q _ I.fresh⟩
theorem Pk:EY X (.type "str") (fun xs H Q=>(∃ z,xs=[.str z]/\Q (.str z) H) \/ ∃ i,xs=[.int i]/\i.natAbs.log2<1920/\Q (.str (toString i)) H):=by
 intro pins s σ H xs us Q I r h
 rcases h with ⟨z,rfl,q⟩ | ⟨i,rfl,hz,q⟩
 ·obtain ⟨u,rfl,t,rfl⟩:=vals1 r
  exact PySem.P.str_of_str ⟨.str _,H,I,⟨_,rfl⟩,q⟩
 ·obtain ⟨u,rfl,t,rfl⟩:=vals1 r
  exact PySem.P.str_of_int hz ⟨.str _,H,I.tok _,⟨_,rfl⟩,q⟩
end
noncomputable def jL (s:List Nat):List (List Nat)->List Nat
 | []=>[]
 | [x]=>x
 | x::y::r=>x++(s++jL s (y::r))
theorem Jd (y:Str):∀ ps:List Str,(Str.join y ps).cps.toList=jL y.cps.toList (ps.map fun p=>p.cps.toList)
 | []=>rfl
 | [p]=>rfl
 | p::q::r=>by
  show ((p++y++Str.join y (q::r)):Str).cps.toList=_
  rw [Str.cps_append,Str.cps_append,Array.toList_append,Array.toList_append,Jd y (q::r),List.append_assoc]
  rfl
theorem YB {c:Nat}:∀ {p q a b:List Nat},c ∉ p->c ∉ q->p++c::a=q++c::b->p=q/\a=b
 | [],[],a,b,_,_,h=>⟨rfl,(List.cons.inj h).2⟩
 | [],x::q,a,b,_,hq,h=>absurd (List.mem_cons.mpr (.inl (List.cons.inj h).1)) hq
 | x::p,[],a,b,hp,_,h=>absurd (List.mem_cons.mpr (.inl (List.cons.inj h).1.symm)) hp
 | x::p,y::q,a,b,hp,hq,h=>by
  obtain ⟨e1,e2⟩:=List.cons.inj h
  obtain ⟨e3,e4⟩:=YB (fun z=>hp (List.mem_cons_of_mem _ z)) (fun z=>hq (List.mem_cons_of_mem _ z)) e2
  exact ⟨by rw [e1,e3],e4⟩
theorem Q_ {c:Nat} {s:List Nat}:∀ {ps qs:List (List Nat)},ps ≠ []->qs ≠ []->(∀ p∈ps,c ∉ p)->(∀ p∈qs,c ∉ p)->jL (c::s) ps=jL (c::s) qs->ps=qs
 | [],_,h,_,_,_,_=>absurd rfl h
 | _,[],_,h,_,_,_=>absurd rfl h
 | [p],[q],_,_,_,_,h=>by rw [show p=q from h]
 | [p],q::q'::r,_,_,hp,_,h=>absurd (show c∈p from by rw [show p=q++(c::s++jL (c::s) (q'::r)) from h]; simp) (hp p List.mem_cons_self)
 | p::p'::r,[q],_,_,_,hq,h=>absurd (show c∈q from by rw [← show p++(c::s++jL (c::s) (p'::r))=q from h]; simp) (hq q List.mem_cons_self)
 | p::p'::r,q::q'::r',_,_,hp,hq,h=>by
  obtain ⟨e1,e2⟩:=YB (hp p List.mem_cons_self) (hq q List.mem_cons_self) h
  have e3:=List.append_cancel_left e2
  rw [e1,Q_ (by simp) (by simp) (fun x hx=>hp x (List.mem_cons_of_mem _ hx)) (fun x hx=>hq x (List.mem_cons_of_mem _ hx)) e3]
theorem Mg {c:Nat} {s:List Nat} (hs:c ∉ s):∀ ps:List (List Nat),ps ≠ []->(jL (c::s) ps).count c+1=ps.length+(ps.map (List.count c)).sum
 | [],h=>absurd rfl h
 | [p],_=>by simp [jL]; omega
 | p::q::r,_=>by
  have ih:=Mg hs (q::r) (by simp)
  have e0:s.count c=0:=List.count_eq_zero.mpr hs
  show (p++(c::s++jL (c::s) (q::r))).count c+1=_
  rw [List.count_append,List.count_append,List.count_cons_self,e0]
  rw [List.length_cons,List.map_cons,List.sum_cons]
  omega
theorem VL {c:Nat} {s:List Nat} (hs:c ∉ s):∀ (ps:List (List Nat)),(∀ p∈ps,c ∉ p)->∀ i,(jL (c::s) ps)[i]? = some c->((jL (c::s) ps).drop i).take (s.length+1)=c::s
 | [],_,i,h=>by simp [jL] at h
 | [p],hp,i,h=>absurd (List.mem_of_getElem? h) (hp p List.mem_cons_self)
 | p::q::r,hp,i,h=>by
  have h':(p++(c::s++jL (c::s) (q::r)))[i]? = some c:=h
  show ((p++(c::s++jL (c::s) (q::r))).drop i).take (s.length+1)=c::s
  by_cases h1:i<p.length
  ·rw [List.getElem?_append_left h1] at h'
   exact absurd (List.mem_of_getElem? h') (hp p List.mem_cons_self)
  rw [List.getElem?_append_right (by omega)] at h'
  rw [List.drop_append,List.drop_eq_nil_of_le (by omega),List.nil_append]
  by_cases h2:i - p.length<(c::s).length
  ·rw [List.getElem?_append_left h2] at h'
   cases e:i - p.length with
   | zero =>
    rw [List.drop_zero,List.take_append,List.take_of_length_le (by simp)]
    simp
   | succ k =>
    rw [e,List.getElem?_cons_succ] at h'
    exact absurd (List.mem_of_getElem? h') hs
  ·rw [List.getElem?_append_right (by omega)] at h'
   rw [List.drop_append,List.drop_eq_nil_of_le (by omega),List.nil_append]
   exact VL hs (q::r) (fun x hx=>hp x (List.mem_cons_of_mem _ hx)) _ h'
section
open Builtin.Str StrLaws
variable {z y:Str} {c:Nat} {s:List Nat}
theorem Ni (hy:y.cps.toList=c::s) {n i k:Nat} (h:At z y n i) (hk:k<s.length+1):z.cps.toList[i+k]? = (c::s)[k]?:=by
 have h2:=h.2
 rw [subAt_eq] at h2
 have e:=eq_of_beq h2
 have hl:y.length=s.length+1:=by
  show y.cps.size=_
  rw [← Array.length_toList,hy]
  rfl
 rw [hl,hy] at e
 rw [← e,List.getElem?_take_of_lt hk,List.getElem?_drop]
theorem Q0 (hy:y.cps.toList=c::s) (hs:c ∉ s) {n i j:Nat} (hi:At z y n i) (hj:At z y n j) (h:i<j):i+y.length<=j:=by
 have hl:y.length=s.length+1:=by
  show y.cps.size=_
  rw [← Array.length_toList,hy]
  rfl
 refine Nat.le_of_not_lt fun hlt=>hs ?_
 have h1:=Ni hy hj (k:=0) (by omega)
 have h2:=Ni hy hi (k:=j - i) (by omega)
 rw [show i+(j - i)=j+0 by omega,h1] at h2
 obtain ⟨m,hm⟩:∃ m,j - i=m+1:=⟨j - i - 1,by omega⟩
 rw [hm,List.getElem?_cons_succ,List.getElem?_cons_zero] at h2
 exact List.mem_of_getElem? h2.symm
theorem G6 (hy:y.cps.toList=c::s) (hs:c ∉ s) (hi limit:Nat) (p:Nat->Bool) (hp:∀ i,p i=true ↔ At z y hi i):∀ (l:List Nat) (st:Array Nat × Nat),l.Pairwise (· < ·)->(∀ i∈l,At z y hi i->st.snd<=i)->st.fst.size+l.length<=limit->(forIn l st (occBody z y hi limit)).run.fst.toList=st.fst.toList++l.filter p
 | [],st,_,_,_=>by
  rw [List.filter_nil,List.append_nil]
  rfl
 | a::l,st,hw,hf,hz=>by
  obtain ⟨h1,h2⟩:=List.pairwise_cons.mp hw
  rw [List.length_cons] at hz
  rw [List.forIn_cons]
  unfold occBody
  by_cases hc:At z y hi a
  ·rw [if_pos ⟨⟨⟨by omega,hf a List.mem_cons_self hc⟩,hc.1⟩,hc.2⟩,List.filter_cons,if_pos ((hp a).mpr hc)]
   have ih:=G6 hy hs hi limit p hp l (st.fst.push a,a+y.length) h2 (fun i hi' hat=>Q0 hy hs hc hat (h1 i hi')) (by rw [Array.size_push]; omega)
   show (forIn l (st.fst.push a,a+y.length) (occBody z y hi limit)).run.fst.toList=_
   rw [ih,Array.toList_push,List.append_assoc]
   rfl
  ·rw [if_neg (fun h=>hc ⟨h.1.2,h.2⟩),List.filter_cons,if_neg (fun h=>hc ((hp a).mp h))]
   exact G6 hy hs hi limit p hp l (st.fst,st.snd) h2 (fun i hi'=>hf i (List.mem_cons_of_mem _ hi')) (by show st.fst.size+l.length<=limit; omega)
theorem count_at (c:Nat):∀ l:List Nat,((List.range l.length).filter fun i=>decide (l[i]? = some c)).length=l.count c
 | []=>rfl
 | a::l=>by
  rw [List.length_cons,List.range_succ_eq_map,List.filter_cons,List.filter_map,List.count_cons,← count_at c l]
  have e:((fun i=>decide ((a::l)[i]? = some c)) ∘ Nat.succ)=fun i=>decide (l[i]? = some c):=by
   funext i
   show decide ((a::l)[i+1]? = some c)=_
   rw [List.getElem?_cons_succ]
  rw [e]
  by_cases h:a=c
  ·subst h
   rw [if_pos (by simp),List.length_cons,List.length_map,if_pos (by simp)]
  ·rw [if_neg (by simp [h]),List.length_map,if_neg (by simp [h])]
   rfl
theorem Jb (hy:y.cps.toList=c::s) (hs:c ∉ s) (hk:strKind y=1) {ps:List Str} (hn:ps ≠ []) (hp:∀ p∈ps,c ∉ p.cps.toList):Txt.split (Str.join y ps) y=ps:=by
 obtain ⟨z,ez⟩:∃ z,Str.join y ps=z:=⟨_,rfl⟩
 rw [ez]
 have eL:z.cps.toList=jL (c::s) (ps.map fun p=>p.cps.toList):=by rw [← ez,Jd,hy]
 have hp':∀ p∈ps.map (fun p:Str=>p.cps.toList),c ∉ p:=fun p h=>by
  obtain ⟨q,hq,rfl⟩:=List.mem_map.mp h
  exact hp q hq
 have hl:y.length=s.length+1:=by
  show y.cps.size=_
  rw [← Array.length_toList,hy]
  rfl
 have zl:z.length=z.cps.toList.length:=(Array.length_toList ..).symm
 have hat:∀ i,At z y z.length i ↔ z.cps.toList[i]? = some c:=fun i=>by
  constructor
  ·intro h
   have:=Ni hy h (k:=0) (by omega)
   exact this
  ·intro h
   have h2:(z.cps.toList.drop i).take (s.length+1)=c::s:=by
    rw [eL] at h ⊢
    exact VL hs _ hp' i h
   refine ⟨?_,by rw [subAt_eq,hl,h2,hy,beq_self_eq_true]⟩
   have:=congrArg List.length h2
   rw [List.length_take,List.length_drop,List.length_cons] at this
   omega
 have hocc:occurrences z y 0 z.length (z.length+1)=(List.range (z.length+1)).filter fun i=>decide (z.cps.toList[i]? = some c):=by
  rw [occ_eq,Nat.sub_zero,← List.range_eq_range']
  exact G6 hy hs z.length (z.length+1) _ (fun i=>by rw [decide_eq_true_eq]; exact (hat i).symm) _ (#[],0) List.pairwise_lt_range (fun _ _ _=>Nat.zero_le _) (by rw [List.length_range]; exact Nat.le_of_eq (Nat.zero_add _))
 have hcnt:(occurrences z y 0 z.length (z.length+1)).length=z.cps.toList.count c:=by
  rw [hocc,List.range_succ,List.filter_append,List.length_append,zl,count_at,List.filter_cons,if_neg (by simp)]
  rfl
 have hk1:¬ strKind z<strKind y:=by
  rw [hk]
  unfold Builtin.Str.strKind
  split
  ·omega
  ·split <;> omega
 have hq:(Txt.split z y).length=z.cps.toList.count c+1:=by
  unfold Txt.split
  by_cases h1:(decide (z.length<y.length) || decide (strKind z<strKind y))=true
  ·rw [if_pos h1]
   have h0:z.cps.toList.count c=0:=List.count_eq_zero.mpr fun hm=>by
    obtain ⟨i,hi⟩:=List.getElem?_of_mem hm
    have:=((hat i).mpr hi).1
    rw [decide_eq_false hk1,Bool.or_false,decide_eq_true_eq] at h1
    omega
   rw [h0]
   rfl
  ·rw [if_neg h1]
   by_cases h2:(occurrences z y 0 z.length (z.length+1)).isEmpty=true
   ·rw [if_pos h2,← hcnt,List.isEmpty_iff.mp h2]
    rfl
   ·rw [if_neg h2,length_partsBetween,hcnt]
 have hj:Str.join y (Txt.split z y)=z:=join_split z y
 have qn:Txt.split z y ≠ []:=fun e=>by rw [e] at hq; simp at hq
 generalize Txt.split z y=qs at hq hj qn
 have eQ:z.cps.toList=jL (c::s) (qs.map fun p=>p.cps.toList):=by rw [← hj,Jd,hy]
 have hc2:=Mg hs (qs.map fun p:Str=>p.cps.toList) (by simpa using qn)
 rw [← eQ,List.length_map] at hc2
 have h0:((qs.map fun p:Str=>p.cps.toList).map (List.count c)).sum=0:=by omega
 have hqc:∀ p∈qs.map (fun p:Str=>p.cps.toList),c ∉ p:=fun p h=>by
  have:p.count c=0:=List.sum_eq_zero_iff_forall_eq_nat.mp h0 _ (List.mem_map_of_mem h)
  exact List.count_eq_zero.mp this
 have:=Q_ (by simpa using hn) (by simpa using qn) hp' hqc (eL.symm.trans eQ)
 have inj:∀ {a b:List Str},a.map (fun p:Str=>p.cps.toList)=b.map (fun p:Str=>p.cps.toList)->a=b:=fun {a}=>by
  induction a with
  | nil=>intro b h; cases b with | nil=>rfl | cons x r=>cases h
  | cons x a ih =>
   intro b h
   cases b with
   | nil=>cases h
   | cons x' b =>
    obtain ⟨e1,e2⟩:=List.cons.inj h
    rw [Str.ext' (Array.toList_inj.mp e1),ih e2]
 exact (inj this).symm
end
theorem Ox (d:Nat) (h:d<10):(Nat.digitChar d).toNat=48+d:=by
 obtain rfl | rfl | rfl | rfl | rfl | rfl | rfl | rfl | rfl | rfl:d=0 \/ d=1 \/ d=2 \/ d=3 \/ d=4 \/ d=5 \/ d=6 \/ d=7 \/ d=8 \/ d=9:=by omega
 all_goals rfl
theorem K8:∀ (fuel n:Nat) (ds:List Char),n<fuel->(Nat.toDigitsCore 10 fuel n ds).map Char.toNat=Nm.mag n++ds.map Char.toNat
 | 0,n,ds,h=>absurd h (by omega)
 | fuel+1,n,ds,h=>by
  unfold Nat.toDigitsCore
  dsimp only
  by_cases h0:n / 10=0
  ·rw [if_pos h0,List.map_cons,Ox _ (by omega)]
   unfold Nm.mag
   by_cases hn:n=0
   ·subst hn
    rfl
   ·rw [if_neg hn,Nm.Du hn,h0,Nm.Di]
    rfl
  ·rw [if_neg h0,K8 fuel (n / 10) _ (by omega),List.map_cons,Ox _ (by omega)]
   unfold Nm.mag
   rw [if_neg h0,if_neg (by omega:¬ n=0),Nm.Du (by omega:n ≠ 0),List.append_assoc]
   rfl
theorem Ml (n:Nat):(Nat.repr n).toList.map Char.toNat=Nm.mag n:=by
 have:=K8 (n+1) n [] (by omega)
 rw [List.map_nil,List.append_nil] at this
 rw [← this]
 simp [Nat.repr,Nat.toDigits]
theorem str_int (i:Int):(Str.ofString (toString i)).cps.toList=Nm.wr i:=by
 rw [Str.ofString_eq_toList]
 show (toString i).toList.map Char.toNat=_
 cases i with
 | ofNat n =>
  show (Nat.repr n).toList.map Char.toNat=_
  rw [Ml]
  unfold Nm.wr
  rw [if_neg (Int.not_lt.mpr (Int.natCast_nonneg n):¬ (Int.ofNat n<0))]
  rfl
 | negSucc n =>
  show ("-" ++ Nat.repr (n+1)).toList.map Char.toNat=_
  rw [String.toList_append,List.map_append,Ml]
  unfold Nm.wr
  rw [if_pos (by omega)]
  rfl
end L2
namespace Og
open PySem L2
noncomputable def Ku:Str:="0123456789"
structure fU (K:PySem.W.Frag) (C:Addr):Prop where
 ha:PySem.W.findIn K (.ref C) "__class__" = some (some (.builtin "object.__class__"))
 hn:PySem.W.specialIn K (.builtin "object.__class__") "__get__" = some (some (.builtin "getset_descriptor.__get__"))
 ht:PySem.W.takesIn K (.builtin "object.__class__")=some true
 hm:PySem.W.mroIn K C (.type "object")=some true
 k0:PySem.W.kitOne K (.ref C) (.ref C)=some true
theorem Nv {X:Cx}:EY X (.builtin "isinstance") (fun xs H Q=>∃ x t C b,xs=[x,V.ref C]/\Hf X.K H x t/\PySem.W.kitOne X.K t (.ref C)=some b/\Q (.bl b) H):=by
 intro pins s σ H xs us Q I r h
 obtain ⟨x,t,C,b,rfl,ty,e,q⟩:=h
 obtain ⟨u,v,rfl,rx,rv⟩:=vals2 r
 cases rv
 exact KD I rx ty e fun tk=>⟨.bl b,H,I.tok _,rfl,q⟩
noncomputable abbrev LL (z:Str):List Nat:=z.cps.toList
theorem Fy (z:Str):z.length=(LL z).length:=by simp [Str.length,LL]
theorem Mx {z y:Str} (h:LL z=LL y):z=y:=by
 obtain ⟨a⟩:=z
 obtain ⟨b⟩:=y
 have:a=b:=Array.toList_inj.mp h
 rw [this]
theorem Ti (c:Nat):S9 Ku c=Nm.dig c:=by
 unfold S9
 rw [StrLaws.found_one,Bool.eq_iff_iff,decide_eq_true_eq]
 have e:Ku.cps.toList=[48,49,50,51,52,53,54,55,56,57]:=by decide
 rw [e]
 simp only [Nm.dig,List.mem_cons,List.not_mem_nil,or_false,Bool.and_eq_true,decide_eq_true_eq]
 omega
noncomputable def Ko (x:V):Prop:=(∃ t,x=.str t/\isNm t) \/ ∃ i:Int,x=.int i/\i.natAbs<10 ^ 12
noncomputable def Fx:V->Str
 | .str t=>t
 | .int i=>Str.ofString (toString i)
 | _=>""
theorem SN {x:V} (h:Ko x):∀ c∈LL (Fx x),c ≠ 32/\c ≠ 59/\c<128:=fun c hc=>by
 rcases h with ⟨t,rfl,h⟩ | ⟨i,rfl,h⟩
 ·have:=h.2.2 c hc
  omega
 ·have hc':c∈Nm.wr i:=by rw [← str_int]; exact hc
  rcases Nm.Nt hc' with e | e
  ·omega
  ·unfold Ec at e
   omega
theorem Kg {x:V} (h:Ko x):1<=(LL (Fx x)).length/\(LL (Fx x)).length<=13:=by
 rcases h with ⟨t,rfl,h⟩ | ⟨i,rfl,h⟩
 ·have h1:=h.1
  have h2:=h.2.1
  rw [Fy] at h1 h2
  exact ⟨h1,by show (LL t).length<=13; omega⟩
 ·have:=Nm.Mt h
  rw [← str_int] at this
  exact this
theorem SJ {t:Str} (h:isNm t):Nm.Ro (LL t)=false:=by
 have h1:=h.1
 rw [Fy] at h1
 cases e:LL t with
 | nil=>rw [e] at h1; cases h1
 | cons c r =>
  have:=h.2.2 c (by show c∈LL t; rw [e]; exact List.mem_cons_self)
  refine Nm.Rk ?_ (by omega)
  unfold Nm.dig
  rw [decide_eq_false (show ¬ c<=57 by omega),Bool.and_false]
noncomputable def Dm (vs:List V):Str:=Str.join " " (vs.map Fx)
noncomputable def Ig (rows:List (List V)):Str:=Str.join "; " (rows.map Dm)
theorem JS (y:Str):∀ ps:List Str,(Str.join y ps).length<=(ps.map (·.length)).sum+y.length * ps.length
 | []=>Nat.zero_le _
 | [p]=>by
  show p.length<=_
  simp
 | p::q::r=>by
  have ih:=JS y (q::r)
  have e:(Str.join y (p::q::r)).length=p.length+y.length+(Str.join y (q::r)).length:=by
   show ((p++y++Str.join y (q::r)):Str).length=_
   rw [Fy,Fy p,Fy y,Fy (Str.join y (q::r))]
   show (((p++y++Str.join y (q::r)):Str).cps.toList).length=_
   rw [Str.cps_append,Str.cps_append,Array.toList_append,Array.toList_append,List.length_append,List.length_append]
  rw [e,List.map_cons,List.sum_cons,List.length_cons,Nat.mul_succ]
  omega
theorem Nr (M:Nat):∀ l:List Nat,(∀ n∈l,n<=M)->l.sum<=M * l.length
 | [],_=>Nat.zero_le _
 | a::l,h=>by
  have:=Nr M l fun n hn=>h n (List.mem_cons_of_mem _ hn)
  have:=h a List.mem_cons_self
  rw [List.sum_cons,List.length_cons,Nat.mul_succ]
  omega
theorem Oe {vs:List V} (h:∀ x∈vs,Ko x):((vs.map Fx).map (·.length)).sum<=13 * vs.length:=by
 have:=Nr 13 ((vs.map Fx).map (·.length)) fun n hn=>by
  obtain ⟨t,ht,rfl⟩:=List.mem_map.mp hn
  obtain ⟨x,hx,rfl⟩:=List.mem_map.mp ht
  show (Fx x).length<=13
  rw [Fy]
  exact (Kg (h x hx)).2
 rw [List.length_map,List.length_map] at this
 exact this
theorem Le {vs:List V} (h:∀ x∈vs,Ko x) (hl:vs.length<=30):(Dm vs).length<=420:=by
 have h1:=JS " " (vs.map Fx)
 have h2:=Oe h
 have h3:(" " : Str).length=1:=by decide +kernel
 rw [h3,List.length_map] at h1
 show (Str.join " " (vs.map Fx)).length<=420
 omega
theorem Tu {vs:List V} (h:∀ x∈vs,Ko x):59 ∉ LL (Dm vs):=fun hc=>by
 rcases (PyProof.Rows.mem_join " " 59 (vs.map Fx)).mp hc with ⟨t,ht,e⟩ | ⟨_,e⟩
 ·obtain ⟨x,hx,rfl⟩:=List.mem_map.mp ht
  exact absurd rfl (SN (h x hx) 59 e).2.1
 ·exact absurd e (by decide +kernel)
theorem JF {vs:List V} (h:∀ x∈vs,Ko x) (hn:vs ≠ []):Txt.split (Dm vs) " " = vs.map Fx :=
 Jb (c:=32) (s:=[]) (by decide +kernel) (fun z=>nomatch z) (by decide +kernel) (by simpa using hn) fun p hp=>by
  obtain ⟨x,hx,rfl⟩:=List.mem_map.mp hp
  exact fun hc=>absurd rfl (SN (h x hx) 32 hc).1
theorem Nf {rows:List (List V)} (h:∀ r∈rows,∀ x∈r,Ko x) (hn:rows ≠ []):Txt.split (Ig rows) "; " = rows.map Dm :=
 Jb (c:=59) (s:=[32]) (by decide +kernel) (by decide) (by decide +kernel) (by simpa using hn) fun p hp=>by
  obtain ⟨r,hr,rfl⟩:=List.mem_map.mp hp
  exact Tu (h r hr)
theorem MF {rows:List (List V)} (h:∀ r∈rows,∀ x∈r,Ko x) (hl:∀ r∈rows,r.length<=30):((rows.map Dm).map (·.length)).sum<=420 * rows.length:=by
 have:=Nr 420 ((rows.map Dm).map (·.length)) fun n hn=>by
  obtain ⟨t,ht,rfl⟩:=List.mem_map.mp hn
  obtain ⟨x,hx,rfl⟩:=List.mem_map.mp ht
  exact Le (h x hx) (hl x hx)
 rw [List.length_map,List.length_map] at this
 exact this
theorem Rq {rows:List (List V)} (h:∀ r∈rows,∀ x∈r,Ko x) (hl:∀ r∈rows,r.length<=30) (hn:rows.length<=150):(Ig rows).length<=64000:=by
 have h1:=JS "; " (rows.map Dm)
 have h2:=MF h hl
 have h3:("; " : Str).length=2:=by decide +kernel
 rw [h3,List.length_map] at h1
 show (Str.join "; " (rows.map Dm)).length<=64000
 omega
theorem Ms {vs:List V} (h:∀ x∈vs,Ko x) (hl:vs.length<=30):JoinOk " " (vs.map Fx)=true:=by
 refine PyProof.Rows.joinOk_of_weight ?_ (by decide +kernel)
 have:=Oe h
 rw [List.length_map]
 omega
theorem Mw {rows:List (List V)} (h:∀ r∈rows,∀ x∈r,Ko x) (hl:∀ r∈rows,r.length<=30) (hn:rows.length<=150):JoinOk "; " (rows.map Dm)=true:=by
 refine PyProof.Rows.joinOk_of_weight ?_ (by decide +kernel)
 have:=MF h hl
 rw [List.length_map]
 omega
theorem Sw (y:Str) (ps:List Str):Txt.join y ps=Str.join y ps:=StrLaws.glued_eq_join y ps
noncomputable def cu (z:Str) (i:Int):Prop:=∀ u:Tok,PySem.Meets (Builtin.«int.__new__» ⟨[.type "int",.str z u],[]⟩) (PySem.Made.int i).spec
theorem b_ {z:Str} {n:Int} (h:LL z=Nm.wr n) (hn:n.natAbs<10 ^ 12):cu z n:=fun u=>by
 have hz:=Nm.Mt hn
 rw [← h] at hz
 have small:∀ c∈LL z,c<128/\c ≠ 0:=fun c hc=>by
  rw [h] at hc
  rcases Nm.Nt hc with e | e
  ·omega
  ·unfold Ec at e; omega
 have h1:z.cps.all (· < 128)=true:=by
  rw [← Array.all_toList,List.all_eq_true]
  exact fun c hc=>decide_eq_true (small c hc).1
 have h0:z.cps.toList.takeWhile (· != 0)=z.cps.toList:=by
  have key:∀ l:List Nat,(∀ c∈l,c ≠ 0)->l.takeWhile (· != 0)=l:=by
   intro l
   induction l with
   | nil=>intro _; rfl
   | cons a l ih =>
    intro hl
    rw [List.takeWhile_cons,if_pos (by simpa using hl a List.mem_cons_self),ih fun c hc=>hl c (List.mem_cons_of_mem _ hc)]
  exact key _ fun c hc=>(small c hc).2
 rcases Int.lt_trichotomy n 0 with hneg | hzero | hpos
 ·obtain ⟨c,r,e,a1,a2,hr⟩:=Nm.Rv hneg
  have hl:z.cps.toList=45::c::r:=h.trans e
  have hv:Fz (c::r)=n.natAbs:=by
   have:=Nm.Kl n.natAbs
   unfold Nm.wr Nm.mag at e
   rw [if_pos hneg,if_neg (by omega)] at e
   injection e with _ e
   rw [← e]
   exact this
  have g:=Jl z u c r hl ⟨a1,a2⟩ hr h1 h0 (by rw [show LL z=_ from hl] at hz; simp only [List.length_cons] at hz; omega)
  have en:(-((Fz (c::r):Nat):Int))=n:=by
   have hv':Fz (c::r)=n.natAbs:=hv
   rw [hv']
   omega
  rw [en] at g
  exact g
 ·subst hzero
  exact JB z u h h1
 ·obtain ⟨c,r,e,a1,a2,hr⟩:=Nm.R0 hpos
  have hl:z.cps.toList=c::r:=h.trans e
  have hv:Fz (c::r)=n.natAbs:=by
   have:=Nm.Kl n.natAbs
   unfold Nm.wr Nm.mag at e
   rw [if_neg (by omega),if_neg (by omega)] at e
   rw [← show Nm.LQ n.natAbs=c::r from e]
   exact this
  have g:=Jm z u c r hl ⟨a1,a2⟩ hr h1 h0 (by rw [show LL z=_ from hl] at hz; simp only [List.length_cons] at hz; omega)
  have en:((Fz (c::r):Nat):Int)=n:=by
   rw [hv]
   omega
  rw [en] at g
  exact g
end Og
namespace Og
open PySem L2 PyProof.Rows
theorem Vs:∀ n<26,letters.cps.toList[n]? = some (97+n):=by decide +kernel
theorem N_ {i:Int} (h0:0<=i) (h1:i<26):QQ letters.cps.toList i=some (97+i.toNat):=by
 have h:=Aq (Vs i.toNat (by omega))
 have e:((i.toNat:Nat):Int)=i:=by omega
 rw [e] at h
 exact h
theorem Uj:(("" : Str)).cps = #[]:=by decide +kernel
end Og
namespace Og
open PySem L2 PyProof.Rows
variable {K:PySem.W.Frag}
structure Qo (K:PySem.W.Frag) (aB aP aM:Addr):Prop where
 f:KF K aB aP aM
 pR:∃ a,PySem.W.nsIn K aP "rank" = some (some (.ref a))/\KTup K a (["new","pipes","wind"].map fun s:String=>V.str s)
 pL:∃ a,PySem.W.nsIn K aP "line" = some (some (.ref a))/\KTup K a (["rank","shift","low","high"].map fun s:String=>V.str s)
 bP:∃ a,PySem.W.nsIn K aB "pipes" = some (some (.ref a))/\KTup K a [.int 1,.int 97]
 bW:∃ a,PySem.W.nsIn K aB "wind" = some (some (.ref a))/\KTup K a [.int 0,.int 1000000000]
 bS:∃ a,PySem.W.nsIn K aB "shift" = some (some (.ref a))/\KTup K a [.int (-200),.int 200]
 bLo:∃ a,PySem.W.nsIn K aB "low" = some (some (.ref a))/\KTup K a [.int 0,.int 60]
 bHi:∃ a,PySem.W.nsIn K aB "high" = some (some (.ref a))/\KTup K a [.int 0,.int 60]
 bR:PySem.W.nsIn K aB "rank" = some none
 mR:∃ t,PySem.W.nsIn K aM "rank" = some (some (.int 12 t))
 mL:PySem.W.nsIn K aM "line" = some none
section
variable {aB aP aM:Addr} {ρ:V->R} {vs:List V} {wn:List (Str × Str)} {t:Str}
theorem PB {r:R} (h:Jr K aB aP aM ρ vs r) (hb:Eg ρ vs):Hy K aB aP aM ρ vs r:=⟨h.ns,h.parts,.inr h.room,fun z=>absurd z h.nl,hb⟩
theorem Qk (F:KF K aB aP aM) {wd:Str} (hw:wd = "stop" \/ wd = "mute") (e:GP ρ vs=wn) (ht:isNm t) (h:∀ w∈named,Oq wn w t=false) (hc:Qt wn wd<Oi wd) {a:Str} (ha:isNm a) (ha':Oq wn "board" a=true):Jr K aB aP aM ρ vs ⟨wd,t,[.str a]⟩:=by
 have parts:∀ (j:Nat) x (y:Str),[V.str t,.str a][j]? = some x->(["new","board"]:List Str)[j]? = some y->HB K aB ρ vs x y:=fun j x y hx hy=>by
  match j,hx,hy with
  | 0,hx,hy =>
   cases (Option.some.inj hx)
   cases (Option.some.inj hy)
   exact Ha F e ht h
  | 1,hx,hy =>
   cases (Option.some.inj hx)
   cases (Option.some.inj hy)
   exact G7 F e ha ha'
  | j+2,hx,hy=>simp at hy
 have hcnt:=G9 ρ vs wd
 rw [e] at hcnt
 rcases hw with rfl | rfl
 ·obtain ⟨ap,g1,g2⟩:=F.pS
  obtain ⟨tk,g5⟩:=F.mS
  have hm:Oi "stop" = 24:=by decide +kernel
  refine ⟨by show ¬ ("stop" : Str) = "step"; decide +kernel,by show ¬ ("stop" : Str) = "line"; decide +kernel,⟨ap,["new","board"],g1,g2,rfl,by decide,parts⟩,⟨24,tk,g5,?_⟩⟩
  show (((vs.filter (pw ρ "stop")).length:Nat):Int)<24
  omega
 ·obtain ⟨ap,g1,g2⟩:=F.pM
  obtain ⟨tk,g5⟩:=F.mM
  have hm:Oi "mute" = 5:=by decide +kernel
  refine ⟨by show ¬ ("mute" : Str) = "step"; decide +kernel,by show ¬ ("mute" : Str) = "line"; decide +kernel,⟨ap,["new","board"],g1,g2,rfl,by decide,parts⟩,⟨5,tk,g5,?_⟩⟩
  show (((vs.filter (pw ρ "mute")).length:Nat):Int)<5
  omega
theorem Qn (F:Qo K aB aP aM) (e:GP ρ vs=wn) (ht:isNm t) (h:∀ w∈named,Oq wn w t=false) (hc:Qt wn "rank" < 12) {n:Nat} {wi:Int} (h1:1<=n) (h2:n<=97) (h3:0<=wi) (h4:wi<=1000000000) (hb:Eg ρ vs):Hy K aB aP aM ρ vs (F_ (t,n,wi)):=by
 obtain ⟨ap,g1,g2⟩:=F.pR
 obtain ⟨ab,g3,g4⟩:=F.bP
 obtain ⟨aw,g6,g7⟩:=F.bW
 obtain ⟨tk,g5⟩:=F.mR
 refine ⟨by show ¬ ("rank" : Str) = "step"; decide +kernel,⟨ap,["new","pipes","wind"],g1,g2,rfl,by decide,fun j x y hx hy=>?_⟩,.inr ⟨12,tk,g5,?_⟩,fun z=>absurd z (by show ¬ ("rank" : Str) = "line"; decide +kernel),hb⟩
 ·match j,hx,hy with
  | 0,hx,hy =>
   cases (Option.some.inj hx)
   cases (Option.some.inj hy)
   exact Ha F.f e ht h
  | 1,hx,hy =>
   cases (Option.some.inj hx)
   cases (Option.some.inj hy)
   exact .inl ⟨((n:Nat):Int),1,97,ab,rfl,g3,g4,by omega,by omega⟩
  | 2,hx,hy =>
   cases (Option.some.inj hx)
   cases (Option.some.inj hy)
   exact .inl ⟨_,0,1000000000,aw,rfl,g6,g7,h3,h4⟩
  | j+3,hx,hy=>simp at hy
 ·rw [G9,e]
  show ((Qt wn "rank" : Nat):Int)<12
  omega
theorem Pg (F:Qo K aB aP aM) (e:GP ρ vs=wn) (ht:isNm t) (h:Oq wn "rank" t=true) {sh lo hi:Int} (b1 : -200<=sh) (b2:sh<=200) (b3:0<=lo) (b4:lo<=60) (b5:0<=hi) (b6:hi<=60) (hb:Eg ρ vs) (hl:N7 ρ vs ⟨"line",t,[.int sh,.int lo,.int hi]⟩):Hy K aB aP aM ρ vs ⟨"line",t,[.int sh,.int lo,.int hi]⟩:=by
 obtain ⟨ap,g1,g2⟩:=F.pL
 obtain ⟨a1,g3,g4⟩:=F.bS
 obtain ⟨a2,g5,g6⟩:=F.bLo
 obtain ⟨a3,g7,g8⟩:=F.bHi
 refine ⟨by show ¬ ("line" : Str) = "step"; decide +kernel,⟨ap,["rank","shift","low","high"],g1,g2,rfl,by decide,fun j x y hx hy=>?_⟩,.inl ⟨rfl,F.mL⟩,fun _=>hl,hb⟩
 match j,hx,hy with
 | 0,hx,hy =>
  cases (Option.some.inj hx)
  cases (Option.some.inj hy)
  exact .inr (.inr ⟨F.bR,by decide +kernel,_,rfl,ht,by rw [Hs,e]; exact h⟩)
 | 1,hx,hy =>
  cases (Option.some.inj hx)
  cases (Option.some.inj hy)
  exact .inl ⟨_,-200,200,a1,rfl,g3,g4,b1,b2⟩
 | 2,hx,hy =>
  cases (Option.some.inj hx)
  cases (Option.some.inj hy)
  exact .inl ⟨_,0,60,a2,rfl,g5,g6,b3,b4⟩
 | 3,hx,hy =>
  cases (Option.some.inj hx)
  cases (Option.some.inj hy)
  exact .inl ⟨_,0,60,a3,rfl,g7,g8,b5,b6⟩
 | j+4,hx,hy=>simp at hy
end
structure iR (K:PySem.W.Frag) (aB aP aM:Addr) (ρ:V->R) (us:List V) (bs:List (Str × Nat)) (rk:List (Str × Nat × Int)) (ks:List R):Prop where
 kinds:∀ v∈us,(ρ v).w = "board" \/ (ρ v).w = "rank" \/ (ρ v).w = "line" \/ (ρ v).w = "stop" \/ (ρ v).w = "coupler" \/ (ρ v).w = "mute"
 eb:(us.filter (pw ρ "board")).map ρ=bs.map Ft
 er:(us.filter (pw ρ "rank")).map ρ=rk.map F_
 ek:(us.filter (fun v=>Gs (ρ v).w)).map ρ=ks
 ln:∀ (i:Nat) v,us[i]? = some v->(ρ v).w = "line"->(∃ (j:Nat) (r:Str × Nat × Int) (sh lo hi:Int),rk[j]? = some r/\r.1=(ρ v).nm/\(ρ v).rest=[.int sh,.int lo,.int hi])/\∃ u∈us.take i,Gs (ρ u).w=true
 ok:∀ (i:Nat) v,us[i]? = some v->Hy K aB aP aM ρ (us.take i) (ρ v)
section
variable {aB aP aM:Addr} {ρ:V->R} {us:List V} {v:V} {bs bs':List (Str × Nat)} {rk rk':List (Str × Nat × Int)} {ks ks':List R}
theorem Ip {w t:Str}:S_ ρ us w t=true ↔ ∃ v∈us,(ρ v).w=w/\(ρ v).nm=t:=by
 unfold S_
 rw [List.any_eq_true]
 constructor
 ·rintro ⟨v,hv,hn⟩
  obtain ⟨h1,h2⟩:=List.mem_filter.mp hv
  exact ⟨v,h1,V.str.inj (of_decide_eq_true h2),V.str.inj (of_decide_eq_true hn)⟩
 ·rintro ⟨v,hv,h1,h2⟩
  exact ⟨v,List.mem_filter.mpr ⟨hv,decide_eq_true (congrArg V.str h1)⟩,decide_eq_true (congrArg V.str h2)⟩
theorem JW {w:Str} (h:w = "stop" \/ w = "coupler" \/ w = "mute"):Gs w=true:=by rcases h with rfl | rfl | rfl <;> decide +kernel
theorem Ja {p:V->Bool} (h:p v=true):(us++[v]).filter p=us.filter p++[v]:=by
 rw [List.filter_append,List.filter_cons,if_pos h]
 rfl
theorem DX {p:V->Bool} (h:p v=false):(us++[v]).filter p=us.filter p:=by
 rw [List.filter_append,List.filter_cons,if_neg (by rw [h]; decide)]
 simp
end
structure iW (K:PySem.W.Frag) (aB aP aM:Addr) (rows:List R) (bs:List (Str × Nat)) (rk:List (Str × Nat × Int)) (ks:List R) (ls:List (List Ln)):Prop where
 ok:∀ (ρ:V->R) (us:List V),us.map ρ=rows->iR K aB aP aM ρ us bs rk ks
 ln0:ks=[]->∀ rk',linesOf rk' rows=[]
 ln:linesOf rk rows=ls
section
variable {aB aP aM:Addr} {rows:List R} {bs:List (Str × Nat)} {rk:List (Str × Nat × Int)} {ks:List R} {ls:List (List Ln)}
theorem Hl {ρ:V->R} {us:List V} {r:R} (e:us.map ρ=rows++[r]):∃ us' v,us=us'++[v]/\us'.map ρ=rows/\ρ v=r:=by
 obtain ⟨a,b,rfl,h1,h2⟩:=List.map_eq_append_iff.mp e
 obtain ⟨v,l,rfl,h3,h4⟩:=List.map_eq_cons_iff.mp h2
 rw [List.map_eq_nil_iff.mp h4]
 exact ⟨a,v,rfl,h1,h3⟩
noncomputable def Tl (rows:List R) (bd:Str) (cnt:Nat):Prop:=∃ (r0:List R) (st:R) (lr:List R),rows=r0++st::lr/\st.w = "stop" /\ st.rest=[.str bd]/\lr.length=cnt/\∀ r∈lr,r.w = "line"
theorem Tl.stop (rows:List R) (t bd:Str):Tl (rows++[⟨"stop",t,[.str bd]⟩]) bd 0:=⟨rows,_,[],rfl,rfl,rfl,rfl,fun _ h=>nomatch h⟩
theorem Tl.line {bd:Str} {cnt:Nat} {r:R} (h:Tl rows bd cnt) (hw:r.w = "line"):Tl (rows++[r]) bd (cnt+1):=by
 obtain ⟨r0,st,lr,rfl,h1,h2,h3,h4⟩:=h
 refine ⟨r0,st,lr++[r],by simp,h1,h2,by simp [h3],fun x hx=>?_⟩
 rcases List.mem_append.mp hx with g | g
 ·exact h4 x g
 ·rw [List.mem_singleton.mp g]
  exact hw
end
end Og
namespace Og
open PySem L2 PyProof.Rows
variable {K:PySem.W.Frag}
structure HH (K:PySem.W.Frag) (aB aP aM:Addr) (ρ:V->R) (us:List V) (bs:List (Str × Nat)) (rk:List (Str × Nat × Int)) (ks:List R):Prop where
 eb:(us.filter (pw ρ "board")).map ρ=bs.map Ft
 er:(us.filter (pw ρ "rank")).map ρ=rk.map F_
 ek:(us.filter (fun v=>Gs (ρ v).w)).map ρ=ks
 ln:∀ (i:Nat) v,us[i]? = some v->(ρ v).w = "line"->(∃ (j:Nat) (r:Str × Nat × Int) (sh lo hi:Int),rk[j]? = some r/\r.1=(ρ v).nm/\(ρ v).rest=[.int sh,.int lo,.int hi])/\∃ u∈us.take i,Gs (ρ u).w=true
 ok:∀ (i:Nat) v,us[i]? = some v->Gh K aB aP aM ρ (us.take i) (ρ v)
section
variable {aB aP aM:Addr} {ρ:V->R} {us:List V} {v:V} {bs bs':List (Str × Nat)} {rk rk':List (Str × Nat × Int)} {ks ks':List R}
theorem HH.nil:HH K aB aP aM ρ [] [] [] []:=⟨rfl,rfl,rfl,(fun i v h=>by simp at h),(fun i v h=>by simp at h)⟩
theorem HH.VH (h:HH K aB aP aM ρ us bs rk ks) (hv:v∈us) (hw:(ρ v).w = "board"):∃ b∈bs,Ft b=ρ v:=by
 have:ρ v∈(us.filter (pw ρ "board")).map ρ:=List.mem_map_of_mem (List.mem_filter.mpr ⟨hv,decide_eq_true (congrArg V.str hw)⟩)
 rw [h.eb] at this
 exact List.mem_map.mp this
theorem HH.Xz (h:HH K aB aP aM ρ us bs rk ks) (hv:v∈us) (hw:(ρ v).w = "rank"):∃ b∈rk,F_ b=ρ v:=by
 have:ρ v∈(us.filter (pw ρ "rank")).map ρ:=List.mem_map_of_mem (List.mem_filter.mpr ⟨hv,decide_eq_true (congrArg V.str hw)⟩)
 rw [h.er] at this
 exact List.mem_map.mp this
theorem HH.Sv (h:HH K aB aP aM ρ us bs rk ks) (hv:v∈us) (hw:Gs (ρ v).w=true):ρ v∈ks:=by
 have:ρ v∈(us.filter (fun v=>Gs (ρ v).w)).map ρ:=List.mem_map_of_mem (List.mem_filter.mpr ⟨hv,hw⟩)
 rw [h.ek] at this
 exact this
theorem HH.Wx (h:HH K aB aP aM ρ us bs rk ks):Eg ρ us:=fun v hv hw=>by
 obtain ⟨b,_,e⟩:=h.VH hv hw
 exact ⟨_,by rw [← e]⟩
theorem HH.Vj (h:HH K aB aP aM ρ us bs rk ks) {b:Str × Nat} (hb:b∈bs):∃ v∈us,ρ v=Ft b:=by
 have:Ft b∈(us.filter (pw ρ "board")).map ρ:=by rw [h.eb]; exact List.mem_map_of_mem hb
 obtain ⟨v,hv,e⟩:=List.mem_map.mp this
 exact ⟨v,(List.mem_filter.mp hv).1,e⟩
theorem HH.ZW (h:HH K aB aP aM ρ us bs rk ks) {r:Str × Nat × Int} (hr:r∈rk):∃ v∈us,ρ v=F_ r:=by
 have:F_ r∈(us.filter (pw ρ "rank")).map ρ:=by rw [h.er]; exact List.mem_map_of_mem hr
 obtain ⟨v,hv,e⟩:=List.mem_map.mp this
 exact ⟨v,(List.mem_filter.mp hv).1,e⟩
theorem HH.Nb (h:HH K aB aP aM ρ us bs rk ks) {b:Str × Nat} (hb:b∈bs):Oq (GP ρ us) "board" b.1=true:=by
 obtain ⟨v,hv,e⟩:=h.Vj hb
 rw [← Hs,Ip]
 exact ⟨v,hv,by rw [e],by rw [e]⟩
theorem HH.Wj (h:HH K aB aP aM ρ us bs rk ks) {r:Str × Nat × Int} (hr:r∈rk):Oq (GP ρ us) "rank" r.1=true:=by
 obtain ⟨v,hv,e⟩:=h.ZW hr
 rw [← Hs,Ip]
 exact ⟨v,hv,by rw [e],by rw [e]⟩
theorem HH.fresh (h:HH K aB aP aM ρ us bs rk ks) {t:Str} (hb:∀ b∈bs,b.1 ≠ t) (hr:∀ r∈rk,r.1 ≠ t) (hk:∀ k∈ks,k.nm ≠ t):∀ w∈named,Oq (GP ρ us) w t=false:=by
 intro w hw
 rw [← Hs,← Bool.not_eq_true,Ip]
 rintro ⟨v,hv,hw',hn⟩
 simp only [List.mem_cons,List.mem_singleton,List.not_mem_nil,or_false] at hw
 rcases hw with rfl | rfl | rfl | rfl | rfl
 ·obtain ⟨b,hb',e⟩:=h.VH hv hw'
  exact hb b hb' (by rw [← hn,← e])
 ·obtain ⟨b,hb',e⟩:=h.Xz hv hw'
  exact hr b hb' (by rw [← hn,← e])
 ·exact hk _ (h.Sv hv (JW (.inl hw'))) hn
 ·exact hk _ (h.Sv hv (JW (.inr (.inl hw')))) hn
 ·exact hk _ (h.Sv hv (JW (.inr (.inr hw')))) hn
theorem HH.Xy (h:HH K aB aP aM ρ us bs rk ks):Qt (GP ρ us) "board" = bs.length:=by
 rw [← G9,← List.length_map (f:=ρ),h.eb,List.length_map]
theorem HH.Zr (h:HH K aB aP aM ρ us bs rk ks):Qt (GP ρ us) "rank" = rk.length:=by
 rw [← G9,← List.length_map (f:=ρ),h.er,List.length_map]
theorem HH.Va (h:HH K aB aP aM ρ us bs rk ks) {w:Str} (hw:w = "stop" \/ w = "coupler" \/ w = "mute"):Qt (GP ρ us) w=(ks.filter fun r=>decide (V.str r.w=V.str w)).length:=by
 rw [← G9,← h.ek,List.filter_map,List.length_map,List.filter_filter]
 refine congrArg List.length (List.filter_congr fun v _=>?_)
 show pw ρ w v=(pw ρ w v && Gs (ρ v).w)
 by_cases e:(ρ v).w=w
 ·rw [JW (by rw [e]; exact hw),Bool.and_true]
 ·have:pw ρ w v=false:=decide_eq_false fun z=>e (V.str.inj z)
  rw [this,Bool.false_and]
theorem HH.snoc (h:HH K aB aP aM ρ us bs rk ks)
  (eb:((us++[v]).filter (pw ρ "board")).map ρ=bs'.map Ft) (er:((us++[v]).filter (pw ρ "rank")).map ρ=rk'.map F_) (ek:((us++[v]).filter (fun v=>Gs (ρ v).w)).map ρ=ks')
  (hr:∀ (j:Nat) r,rk[j]? = some r->rk'[j]? = some r)
  (hl:(ρ v).w = "line"->(∃ (j:Nat) (r:Str × Nat × Int) (sh lo hi:Int),rk'[j]? = some r/\r.1=(ρ v).nm/\(ρ v).rest=[.int sh,.int lo,.int hi])/\∃ u∈us,Gs (ρ u).w=true)
  (ok:Gh K aB aP aM ρ us (ρ v)):HH K aB aP aM ρ (us++[v]) bs' rk' ks':=by
 have at_:∀ {i:Nat} {u:V},(us++[v])[i]? = some u->us[i]? = some u/\(us++[v]).take i=us.take i \/ u=v/\(us++[v]).take i=us:=fun {i u} hi=>by
  by_cases hlt:i<us.length
  ·rw [List.getElem?_append_left hlt] at hi
   exact .inl ⟨hi,List.take_append_of_le_length (Nat.le_of_lt hlt)⟩
  ·have h2:=(List.getElem?_eq_some_iff.mp hi).1
   rw [List.length_append,List.length_singleton] at h2
   have hil:i=us.length:=by omega
   subst hil
   rw [List.getElem?_append_right (Nat.le_refl _),Nat.sub_self] at hi
   exact .inr ⟨(Option.some.inj hi).symm,by rw [List.take_append_of_le_length (Nat.le_refl _),List.take_length]⟩
 refine ⟨eb,er,ek,fun i u hi hw=>?_,fun i u hi=>?_⟩
 ·rcases at_ hi with ⟨h1,h2⟩ | ⟨rfl,h2⟩
  ·rw [h2]
   obtain ⟨⟨j,r,sh,lo,hi',g1,g2,g3⟩,g4⟩:=h.ln i u h1 hw
   exact ⟨⟨j,r,sh,lo,hi',hr j r g1,g2,g3⟩,g4⟩
  ·rw [h2]
   exact hl hw
 ·rcases at_ hi with ⟨h1,h2⟩ | ⟨rfl,h2⟩
  ·rw [h2]
   exact h.ok i u h1
  ·rw [h2]
   exact ok
end
theorem Ob {rk:List (Str × Nat × Int)} {x:Str × Nat × Int}:∀ {rows:List R},(∀ r∈rows,r.w = "line"->r.nm∈rk.map (·.1))->linesOf (rk++[x]) rows=linesOf rk rows:=by
 have key:∀ (rows:List R),(∀ r∈rows,r.w = "line"->r.nm∈rk.map (·.1))->∀ acc,rows.foldl (Cq (rk++[x])) acc=rows.foldl (Cq rk) acc:=by
  intro rows
  induction rows with
  | nil=>intro _ _; rfl
  | cons r rs ih =>
   intro h acc
   have e:Cq (rk++[x]) acc r=Cq rk acc r:=by
    unfold Cq
    by_cases h1:Gs r.w=true
    ·rw [if_pos h1,if_pos h1]
    ·rw [if_neg h1,if_neg h1]
     by_cases h2:r.w = "line"
     ·rw [if_pos h2,if_pos h2]
      have hm:=h r (List.mem_cons_self ..) h2
      have:lnOf (rk++[x]) r=lnOf rk r:=by
       unfold lnOf
       rw [List.map_append,List.idxOf_append,if_pos hm]
      rw [this]
     ·rw [if_neg h2,if_neg h2]
   show rs.foldl _ (Cq (rk++[x]) acc r)=rs.foldl _ (Cq rk acc r)
   rw [e]
   exact ih (fun r hr=>h r (List.mem_cons_of_mem _ hr)) _
 exact fun {rows} h=>key rows h []
theorem Qx {ks:List R} {k r:R} (h:∀ t∈Kz r,t∈ks.map (·.nm)):stN (ks++[k]) r=stN ks r:=by
 unfold stN
 refine congrArg Wd.mk (List.map_congr_left fun t ht=>?_)
 rw [List.map_append,List.idxOf_append,if_pos (h t ht)]
noncomputable abbrev UJ (r:R):Bool:=decide (V.str r.w=V.str "step")
noncomputable def gZ (w:Str):Prop:=w = "board" \/ w = "rank" \/ w = "stop" \/ w = "coupler" \/ w = "mute" \/ w = "line" \/ w = "step"
structure Gu (K:PySem.W.Frag) (aB aP aM:Addr) (rows:List R) (bs:List (Str × Nat)) (rk:List (Str × Nat × Int)) (ks:List R) (ls:List (List Ln)) (sts:List Nat):Prop where
 ok:∀ (ρ:V->R) (us:List V),us.map ρ=rows->HH K aB aP aM ρ us bs rk ks
 ln:linesOf rk rows=ls
 st:(rows.filter UJ).map (stN ks)=sts
 lm:∀ r∈rows,r.w = "line"->r.nm∈rk.map (·.1)
 sm:∀ r∈rows,r.w = "step"->∃ ts:List Str,V.str r.nm::r.rest=ts.map V.str/\ts.length<=24/\∀ t∈ts,t∈ks.map (·.nm)
 wd:∀ r∈rows,gZ r.w
 pk:∀ r∈rows,(∀ i:Int,V.int i∈r.rest->i.natAbs<10 ^ 12)/\r.rest.length<=24
section
variable {aB aP aM:Addr} {rows:List R} {bs:List (Str × Nat)} {rk:List (Str × Nat × Int)} {ks:List R} {ls:List (List Ln)} {sts:List Nat}
theorem Gu.nil:Gu K aB aP aM [] [] [] [] [] []:=⟨fun ρ us e=>by rw [List.map_eq_nil_iff.mp e]; exact HH.nil,rfl,rfl,(fun _ z=>nomatch z),(fun _ z=>nomatch z),(fun _ z=>nomatch z),(fun _ z=>nomatch z)⟩
theorem O6 {r:R} (h:r.w ≠ "step"):(rows++[r]).filter UJ=rows.filter UJ:=by
 rw [List.filter_append,List.filter_cons,if_neg (by intro z; exact h (V.str.inj (of_decide_eq_true z)))]
 simp
theorem Ff {r:R} {Q:R->Prop} (h:∀ r∈rows,Q r) (hr:Q r):∀ x∈rows++[r],Q x:=fun x hx=>by
 rcases List.mem_append.mp hx with z | z
 ·exact h x z
 ·rw [List.mem_singleton.mp z]
  exact hr
theorem Gu.Rr (F:Qo K aB aP aM) (h:Gu K aB aP aM rows bs rk ks ls sts) {t:Str} {n:Nat} (ht:isNm t) (hf:∀ b∈bs,b.1 ≠ t) (hr:∀ r∈rk,r.1 ≠ t) (hk:∀ k∈ks,k.nm ≠ t) (hb:bs.length<5) (h1:1<=n) (h2:n<=61):Gu K aB aP aM (rows++[Ft (t,n)]) (bs++[(t,n)]) rk ks ls sts:=by
 refine ⟨fun ρ us e=>?_,?_,?_,Ff h.lm (fun z=>absurd z (by show ¬ ("board" : Str) = "line"; decide +kernel)),Ff h.sm (fun z=>absurd z (by show ¬ ("board" : Str) = "step"; decide +kernel)),Ff h.wd (.inl rfl),Ff h.pk ⟨(fun i hi=>by simp only [Ft,List.mem_cons,List.not_mem_nil,or_false,V.int.injEq,reduceCtorEq,false_or] at hi; omega),by show 1<=24; decide⟩⟩
 ·obtain ⟨us',v,rfl,e',hv⟩:=Hl e
  have O:=h.ok ρ us' e'
  refine O.snoc ?_ ?_ ?_ (fun _ _ h=>h) (fun z=>absurd (hv ▸ z) (by show ¬ ("board" : Str) = "line"; decide +kernel)) ?_
  ·rw [Ja (by unfold pw; rw [hv]; exact decide_eq_true rfl),List.map_append,O.eb,List.map_append,List.map_singleton,hv]
   rfl
  ·rw [DX (by unfold pw; rw [hv]; show decide (V.str "board" = V.str "rank")=false; decide +kernel),O.er]
  ·rw [DX (by rw [hv]; show Gs "board" = false; decide +kernel),O.ek]
  ·rw [hv]
   exact .inl (PB (Pn F.f rfl ht (O.fresh hf hr hk) (by rw [O.Xy]; exact hb) h1 h2) O.Wx)
 ·rw [CQ,h.ln]
  rfl
 ·rw [O6 (by show ¬ ("board" : Str) = "step"; decide +kernel)]
  exact h.st
theorem Gu.rank (F:Qo K aB aP aM) (h:Gu K aB aP aM rows bs rk ks ls sts) {t:Str} {n:Nat} {wi:Int} (ht:isNm t) (hf:∀ b∈bs,b.1 ≠ t) (hr:∀ r∈rk,r.1 ≠ t) (hk:∀ k∈ks,k.nm ≠ t) (hc:rk.length<12) (h1:1<=n) (h2:n<=97) (h3:0<=wi) (h4:wi<=1000000000):Gu K aB aP aM (rows++[F_ (t,n,wi)]) bs (rk++[(t,n,wi)]) ks ls sts:=by
 have lm':∀ r∈rows,r.w = "line"->r.nm∈(rk++[(t,n,wi)]).map (·.1):=fun r hr z=>by
  rw [List.map_append]
  exact List.mem_append_left _ (h.lm r hr z)
 refine ⟨fun ρ us e=>?_,?_,?_,Ff lm' (fun z=>absurd z (by show ¬ ("rank" : Str) = "line"; decide +kernel)),Ff h.sm (fun z=>absurd z (by show ¬ ("rank" : Str) = "step"; decide +kernel)),Ff h.wd (.inr (.inl rfl)),Ff h.pk ⟨(fun i hi=>by simp only [F_,List.mem_cons,List.not_mem_nil,or_false,V.int.injEq,reduceCtorEq,false_or] at hi; omega),by show 2<=24; decide⟩⟩
 ·obtain ⟨us',v,rfl,e',hv⟩:=Hl e
  have O:=h.ok ρ us' e'
  refine O.snoc ?_ ?_ ?_ (fun j r h=>by rw [List.getElem?_append_left (List.getElem?_eq_some_iff.mp h).1]; exact h) (fun z=>absurd (hv ▸ z) (by show ¬ ("rank" : Str) = "line"; decide +kernel)) ?_
  ·rw [DX (by unfold pw; rw [hv]; show decide (V.str "rank" = V.str "board")=false; decide +kernel),O.eb]
  ·rw [Ja (by unfold pw; rw [hv]; exact decide_eq_true rfl),List.map_append,O.er,List.map_append,List.map_singleton,hv]
   rfl
  ·rw [DX (by rw [hv]; show Gs "rank" = false; decide +kernel),O.ek]
  ·rw [hv]
   exact .inl (Qn F rfl ht (O.fresh hf hr hk) (by rw [O.Zr]; exact hc) h1 h2 h3 h4 O.Wx)
 ·rw [CQ,Ob h.lm,h.ln]
  rfl
 ·rw [O6 (by show ¬ ("rank" : Str) = "step"; decide +kernel)]
  exact h.st
theorem Gu.U4 (h:Gu K aB aP aM rows bs rk ks ls sts) {r:R} (hw:r.w = "stop" \/ r.w = "coupler" \/ r.w = "mute") (hpk:(∀ i:Int,V.int i∈r.rest->i.natAbs<10 ^ 12)/\r.rest.length<=24) (hr:∀ (ρ:V->R) (us:List V),us.map ρ=rows->Jr K aB aP aM ρ us r):Gu K aB aP aM (rows++[r]) bs rk (ks++[r]) (ls++[[]]) sts:=by
 have hK:=JW hw
 have sm':∀ r'∈rows,r'.w = "step"->∃ ts:List Str,V.str r'.nm::r'.rest=ts.map V.str/\ts.length<=24/\∀ t∈ts,t∈(ks++[r]).map (·.nm):=fun r' hr' z=>by
  obtain ⟨ts,g1,g2,g3⟩:=h.sm r' hr' z
  exact ⟨ts,g1,g2,fun t ht=>by rw [List.map_append]; exact List.mem_append_left _ (g3 t ht)⟩
 refine ⟨fun ρ us e=>?_,?_,?_,Ff h.lm (fun z=>?_),Ff sm' (fun z=>?_),Ff h.wd (hw.elim (fun z=>.inr (.inr (.inl z))) (fun z=>z.elim (fun z=>.inr (.inr (.inr (.inl z)))) (fun z=>.inr (.inr (.inr (.inr (.inl z))))))),Ff h.pk hpk⟩
 ·obtain ⟨us',v,rfl,e',hv⟩:=Hl e
  have O:=h.ok ρ us' e'
  refine O.snoc ?_ ?_ ?_ (fun _ _ h=>h) (fun z=>?_) ?_
  ·rw [DX (by unfold pw; rw [hv]; rcases hw with e | e | e <;> rw [e] <;> decide +kernel),O.eb]
  ·rw [DX (by unfold pw; rw [hv]; rcases hw with e | e | e <;> rw [e] <;> decide +kernel),O.er]
  ·rw [Ja (by rw [hv]; exact hK),List.map_append,O.ek,List.map_singleton,hv]
  ·rw [hv] at z
   rcases hw with e | e | e <;> rw [e] at z <;> exact absurd z (by decide +kernel)
  ·rw [hv]
   exact .inl (PB (hr ρ us' e') O.Wx)
 ·rw [CQ,h.ln]
  unfold Cq
  rw [if_pos hK]
 ·rw [O6 (by rcases hw with e | e | e <;> rw [e] <;> decide +kernel),← h.st]
  refine List.map_congr_left fun r' hr'=>Qx fun t ht=>?_
  obtain ⟨g1,g2⟩:=List.mem_filter.mp hr'
  obtain ⟨ts,g3,_,g5⟩:=h.sm r' g1 (V.str.inj (of_decide_eq_true g2))
  rw [Hz g3] at ht
  exact g5 t ht
 ·rcases hw with e | e | e <;> rw [e] at z <;> exact absurd z (by decide +kernel)
 ·rcases hw with e | e | e <;> rw [e] at z <;> exact absurd z (by decide +kernel)
theorem Gu.O7 (F:Qo K aB aP aM) (h:Gu K aB aP aM rows bs rk ks ls sts) {t a b:Str} {n m:Nat} {s:Int} (ht:isNm t) (hb:∀ b∈bs,b.1 ≠ t) (hr:∀ r∈rk,r.1 ≠ t) (hk:∀ k∈ks,k.nm ≠ t) (hc:(ks.filter fun r=>decide (V.str r.w=V.str "coupler")).length<12) (ha:isNm a) (ha':(a,n)∈bs) (hb1:isNm b) (hb':(b,m)∈bs) (h1 : -60<=s) (h2:s<=60) :
  Gu K aB aP aM (rows++[⟨"coupler",t,[.str a,.str b,.int s]⟩]) bs rk (ks++[⟨"coupler",t,[.str a,.str b,.int s]⟩]) (ls++[[]]) sts :=
 h.U4 (.inr (.inl rfl)) ⟨(fun i hi=>by simp only [List.mem_cons,List.not_mem_nil,or_false,V.int.injEq,reduceCtorEq,false_or] at hi; omega),by show 3<=24; decide⟩ fun ρ us e=>by
  have O:=h.ok ρ us e
  exact LR F.f rfl ht (O.fresh hb hr hk) (by rw [O.Va (.inr (.inl rfl))]; exact hc) ha (O.Nb ha') hb1 (O.Nb hb') h1 h2
theorem Gu.plain (F:Qo K aB aP aM) (h:Gu K aB aP aM rows bs rk ks ls sts) {wd t a:Str} {n:Nat} (hw:wd = "stop" \/ wd = "mute") (ht:isNm t) (hb:∀ b∈bs,b.1 ≠ t) (hr:∀ r∈rk,r.1 ≠ t) (hk:∀ k∈ks,k.nm ≠ t) (hc:(ks.filter fun r=>decide (V.str r.w=V.str wd)).length<Oi wd) (ha:isNm a) (ha':(a,n)∈bs) :
  Gu K aB aP aM (rows++[⟨wd,t,[.str a]⟩]) bs rk (ks++[⟨wd,t,[.str a]⟩]) (ls++[[]]) sts:=by
 have hw3:wd = "stop" \/ wd = "coupler" \/ wd = "mute":=by rcases hw with e | e; exact .inl e; exact .inr (.inr e)
 exact h.U4 hw3 ⟨(fun i hi=>by rcases List.mem_cons.mp hi with e | e <;> cases e),by show 1<=24; decide⟩ fun ρ us e=>by
  have O:=h.ok ρ us e
  exact Qk F.f hw rfl ht (O.fresh hb hr hk) (by rw [O.Va hw3]; exact hc) ha (O.Nb ha')
theorem Gu.line (F:Qo K aB aP aM) {l0:List Ln} (h:Gu K aB aP aM rows bs rk ks (ls++[l0]) sts) {bd:Str} {cnt:Nat} (T:Tl rows bd cnt) (hc:cnt<4) {j n m:Nat} {t:Str} {wi sh lo hi:Int} (hj:rk[j]? = some (t,m,wi)) (hnd:(rk.map (·.1)).Nodup) (ht:isNm t) (hbd:(bd,n)∈bs) (hle:lo<=hi) (hn:hi<(n:Int)) (b1 : -200<=sh) (b2:sh<=200) (b3:0<=lo) (b6:hi<=60) :
  Gu K aB aP aM (rows++[⟨"line",t,[.int sh,.int lo,.int hi]⟩]) bs rk ks (ls++[l0++[⟨j,sh,lo,hi⟩]]) sts:=by
 obtain ⟨r0,st,lr,er,g1,g2,g3,g4⟩:=T
 have nK:Gs "line" = false:=by decide +kernel
 refine ⟨fun ρ us e=>?_,?_,?_,Ff h.lm (fun _=>List.mem_map.mpr ⟨_,List.mem_of_getElem? hj,rfl⟩),Ff h.sm (fun z=>absurd z (by show ¬ ("line" : Str) = "step"; decide +kernel)),Ff h.wd (.inr (.inr (.inr (.inr (.inr (.inl rfl)))))),Ff h.pk ⟨(fun i hi=>by simp only [List.mem_cons,List.not_mem_nil,or_false,V.int.injEq,reduceCtorEq,false_or] at hi; omega),by show 3<=24; decide⟩⟩
 ·obtain ⟨us',v,rfl,e',hv⟩:=Hl e
  have O:=h.ok ρ us' e'
  obtain ⟨u0,u1,eu,m1,m2⟩:=List.map_eq_append_iff.mp (e'.trans er)
  obtain ⟨sv,lv,e1,m3,m4⟩:=List.map_eq_cons_iff.mp m2
  subst e1
  have hsv:sv∈us':=by rw [eu]; simp
  have hlv:lv.length=cnt:=by rw [← g3,← m4,List.length_map]
  have hus:us'.length=u0.length+(cnt+1):=by rw [eu,List.length_append,List.length_cons,hlv]
  refine O.snoc ?_ ?_ ?_ (fun _ _ h=>h) (fun _=>⟨⟨j,_,sh,lo,hi,hj,by rw [hv],by rw [hv]⟩,sv,hsv,by rw [m3,g1]; decide +kernel⟩) ?_
  ·rw [DX (by unfold pw; rw [hv]; show decide (V.str "line" = V.str "board")=false; decide +kernel),O.eb]
  ·rw [DX (by unfold pw; rw [hv]; show decide (V.str "line" = V.str "rank")=false; decide +kernel),O.er]
  ·rw [DX (by rw [hv]; exact nK),O.ek]
  ·rw [hv]
   have hst:us'[us'.length - 1 - cnt]? = some sv:=by
    have:us'.length - 1 - cnt=u0.length:=by omega
    rw [this,eu,List.getElem?_append_right (Nat.le_refl _),Nat.sub_self]
    rfl
   refine .inl ?_
   refine Pg F rfl ht (O.Wj (List.mem_of_getElem? hj)) b1 b2 b3 (by omega) (by omega) b6 O.Wx ⟨cnt,sv,sh,lo,hi,bd,[],rfl,⟨fun i hi'=>?_,by omega,sv,hst,by rw [m3,g1]; decide +kernel⟩,hc,hst,by rw [m3,g1],by rw [m3,g2],hle,?_⟩
   ·have hi2:cnt - 1 - i<lv.length:=by omega
    refine ⟨lv[cnt - 1 - i],?_,?_⟩
    ·have:us'.length - 1 - i=u0.length+((cnt - 1 - i)+1):=by omega
     rw [this,eu,List.getElem?_append_right (Nat.le_add_right _ _),Nat.add_sub_cancel_left,List.getElem?_cons_succ]
     exact List.getElem?_eq_getElem hi2
    ·refine g4 _ ?_
     rw [← m4]
     exact List.mem_map_of_mem (List.getElem_mem hi2)
   ·obtain ⟨u,hu,hub⟩:=O.Vj hbd
    rw [List.any_eq_true]
    refine ⟨u,List.mem_filter.mpr ⟨hu,?_⟩,?_⟩
    ·unfold pw
     rw [hub]
     exact decide_eq_true rfl
    ·show (pn ρ bd u && decide (hi<Wl (ρ u)))=true
     unfold pn
     rw [hub,Bool.and_eq_true]
     exact ⟨decide_eq_true rfl,decide_eq_true hn⟩
 ·rw [CQ,h.ln]
  unfold Cq
  rw [if_neg (by show ¬ Gs "line" = true; rw [nK]; decide),if_pos rfl,Gj]
  have hjl:=(List.getElem?_eq_some_iff.mp hj).1
  have:(rk.map (·.1)).idxOf t=j:=by
   have hl:j<(rk.map (·.1)).length:=by rw [List.length_map]; exact hjl
   have e2:(rk.map (·.1))[j]=t:=by
    rw [List.getElem_map]
    have:=(List.getElem?_eq_some_iff.mp hj).2
    rw [this]
   rw [← e2]
   exact hnd.idxOf_getElem j hl
  show ls++[l0++[⟨(rk.map (·.1)).idxOf t,sh,lo,hi⟩]]=_
  rw [this]
 ·rw [O6 (by show ¬ ("line" : Str) = "step"; decide +kernel)]
  exact h.st
theorem Gu.step (h:Gu K aB aP aM rows bs rk ks ls sts) (hM:∃ t,PySem.W.nsIn K aM "step" = some (some (.int 12 t))) {t0:Str} {ts:List Str} (nd:(t0::ts).Nodup) (h24:(t0::ts).length<=24) (hts:∀ t∈t0::ts,isNm t/\∃ k∈ks,k.w = "stop" /\ k.nm=t) (hc:sts.length<12):Gu K aB aP aM (rows++[⟨"step",t0,ts.map V.str⟩]) bs rk ks ls (sts++[Wd.mk ((t0::ts).map fun t=>(ks.map (·.nm)).idxOf t)]):=by
 have e0:V.str t0::ts.map V.str=(t0::ts).map V.str:=rfl
 have hin:∀ t∈t0::ts,t∈ks.map (·.nm):=fun t ht=>by
  obtain ⟨_,k,hk,_,rfl⟩:=hts t ht
  exact List.mem_map_of_mem hk
 refine ⟨fun ρ us e=>?_,?_,?_,Ff h.lm (fun z=>absurd z (by show ¬ ("step" : Str) = "line"; decide +kernel)),Ff h.sm (fun _=>⟨t0::ts,e0,h24,hin⟩),Ff h.wd (.inr (.inr (.inr (.inr (.inr (.inr rfl)))))),Ff h.pk ⟨(fun i hi=>by obtain ⟨t,_,e⟩:=List.mem_map.mp hi; cases e),by show (ts.map V.str).length<=24; rw [List.length_map]; rw [List.length_cons] at h24; omega⟩⟩
 ·obtain ⟨us',v,rfl,e',hv⟩:=Hl e
  have O:=h.ok ρ us' e'
  refine O.snoc ?_ ?_ ?_ (fun _ _ h=>h) (fun z=>absurd (hv ▸ z) (by show ¬ ("step" : Str) = "line"; decide +kernel)) ?_
  ·rw [DX (by unfold pw; rw [hv]; show decide (V.str "step" = V.str "board")=false; decide +kernel),O.eb]
  ·rw [DX (by unfold pw; rw [hv]; show decide (V.str "step" = V.str "rank")=false; decide +kernel),O.er]
  ·rw [DX (by rw [hv]; show Gs "step" = false; decide +kernel),O.ek]
  ·rw [hv]
   obtain ⟨tk,hM⟩:=hM
   refine .inr ⟨rfl,⟨t0::ts,e0,nd,h24,fun t ht=>?_⟩,12,tk,hM,?_⟩
   ·obtain ⟨g1,k,g2,g3,g4⟩:=hts t ht
    refine ⟨g1,Ip.mpr ?_⟩
    rw [← O.ek] at g2
    obtain ⟨u,g5,rfl⟩:=List.mem_map.mp g2
    exact ⟨u,(List.mem_filter.mp g5).1,g3,g4⟩
   ·have:(us'.filter (pw ρ "step")).length=sts.length:=by
     rw [← h.st,List.length_map,← e',List.filter_map,List.length_map]
     rfl
    show (((us'.filter (pw ρ "step")).length:Nat):Int)<12
    omega
 ·rw [CQ,h.ln]
  rfl
 ·rw [List.filter_append,List.map_append,h.st]
  have e1:([(⟨"step",t0,ts.map V.str⟩:R)]).filter UJ=[⟨"step",t0,ts.map V.str⟩]:=rfl
  rw [e1]
  show sts++[stN ks _]=_
  unfold stN
  rw [Hz (r:=⟨"step",t0,ts.map V.str⟩) e0]
theorem Gu.fin {H:Hp} {vs:List V} (h:Gu K aB aP aM rows bs rk ks ls sts) (hv:Paired (fun (r:R) v=>TupAt H r.v v) rows vs) (b0:1<=bs.length) (b5:bs.length<=5) (sz:∀ b∈bs,b.2<=61) (nr:rk.length<=12) (nz:∀ r∈rk,r.2.1<=97) (nk:ks.length<=100) (nb:(bs.map (·.1)).Nodup) (nrr:(rk.map (·.1)).Nodup) (nn:(ks.map (·.nm)).Nodup) (len:rows.length<=150) :
  Rows H (Jh H) vs/\e_ K aB aP aM (Jh H) vs bs rk ks/\linesOf rk (vs.map (Jh H))=ls/\((vs.filter (pw (Jh H) "step")).map fun v=>stN ks (Jh H v))=sts:=by
 have em:=Kc hv
 have O:=h.ok (Jh H) vs em
 have hR:Rows H (Jh H) vs:=fun v hv'=>by
  obtain ⟨r,_,hr⟩:=Cv hv hv'
  rw [KZ hr]
  exact hr
 refine ⟨hR,⟨O.eb,O.er,O.ek,O.ln,fun v hv' hw=>?_,b0,b5,sz,nr,nz,nk,nb,nrr,nn,by rw [← hv.length]; exact len,O.ok⟩,by rw [em]; exact h.ln,?_⟩
 ·refine h.sm (Jh H v) ?_ hw
  rw [← em]
  exact List.mem_map_of_mem hv'
 ·rw [← h.st,← em,List.filter_map,List.map_map]
  rfl
end
end Og
namespace Og
open PySem L2 PyProof.Rows
noncomputable def Gq (b:Str):Prop:=b.length<=6/\∀ c∈b.cps.toList,97<=c/\c<=122
theorem Gq.nil:Gq "":=⟨by decide,by rw [Uj]; exact fun _ h=>nomatch h⟩
theorem Ir (a b:Str):(a++b).cps.toList=a.cps.toList++b.cps.toList:=by
 show (a.cps++b.cps).toList=_
 simp
theorem len_app (a b:Str):(a++b).length=a.length+b.length:=by
 show (a.cps++b.cps).size=a.cps.size+b.cps.size
 simp
noncomputable def TX (n:Nat):Str:=⟨#[97+n]⟩
theorem Iv (n:Nat):(TX n).length=1:=rfl
theorem Gq.snoc {b:Str} {n m:Nat} (h:b.length<=m/\∀ c∈b.cps.toList,97<=c/\c<=122) (hn:n<26):(b++TX n).length<=m+1/\∀ c∈(b++TX n).cps.toList,97<=c/\c<=122:=by
 refine ⟨by rw [len_app,Iv]; omega,fun c hc=>?_⟩
 rw [Ir] at hc
 rcases List.mem_append.mp hc with h' | h'
 ·exact h.2 c h'
 ·have:c=97+n:=by simpa [TX] using h'
  omega
noncomputable def De (b:Str) (k:Nat):Str:=if 26<=k then b++TX (k % 26)++TX (k / 26 * 5 % 26) else b++TX (k % 26)
theorem Ew {b:Str} (h:Gq b) (k:Nat):isNm (De b k):=by
 have g1:=Gq.snoc h (Nat.mod_lt k (by decide:0<26))
 have g2:=Gq.snoc g1 (Nat.mod_lt (k / 26 * 5) (by decide:0<26))
 unfold De
 split
 ·exact ⟨by rw [len_app,Iv]; omega,by have:=g2.1; omega,g2.2⟩
 ·exact ⟨by rw [len_app,Iv]; omega,by have:=g1.1; omega,g1.2⟩
theorem Ke {b:Str} {k l:Nat} (hk:k<78) (hl:l<78) (h:De b k=De b l):k=l:=by
 have h1:=congrArg (fun s:Str=>s.cps.toList) h
 have h2:∀ k,(De b k).cps.toList=b.cps.toList++(if 26<=k then [97+k % 26,97+k / 26 * 5 % 26] else [97+k % 26]):=fun k=>by
  unfold De
  split
  ·rw [Ir,Ir,List.append_assoc]
   rfl
  ·rw [Ir]
   rfl
 rw [h2,h2] at h1
 have h3:=List.append_cancel_left h1
 by_cases e1:26<=k
 ·by_cases e2:26<=l
  ·rw [if_pos e1,if_pos e2] at h3
   injection h3 with h4 h5
   injection h5 with h6 _
   omega
  ·rw [if_pos e1,if_neg e2] at h3
   injection h3 with h4 h5
   cases h5
 ·by_cases e2:26<=l
  ·rw [if_neg e1,if_pos e2] at h3
   injection h3 with h4 h5
   cases h5
  ·rw [if_neg e1,if_neg e2] at h3
   injection h3 with h4 h5
   omega
end Og
namespace L2
open PySem PySem.Spec PyProof.Rows
section
variable {X:Cx}
end
end L2
namespace Og
open PySem L2
structure Ji where
 p:Addr
 r:Addr
 b:Addr
 k:Addr
 n:Addr
 d:Addr
 s:Addr
inductive Dt where
 | stop (b:Nat) (L:Addr)
 | coup (a b:Nat) (s:Int)
 | mute (b:Nat)
noncomputable def Dt.L:Dt->List Addr
 | .stop _ L=>[L]
 | _=>[]
structure Pl where
 rows:List R
 bs:List (Str × Nat)
 rk:List (Str × Nat × Int)
 ks:List R
 ls:List (List Ln)
 ds:List Dt
 ch:List (List Nat)
noncomputable abbrev Pl.Ls (S:Pl):List Addr:=S.ds.flatMap Dt.L
noncomputable def OD (H:Hp) (L:Addr) (l:List Ln):Prop:=∃ ts,H L=some (.lst ts)/\Paired (fun (y:Ln) z=>TupAt H (YL y) z) l ts
noncomputable def Gr (H:Hp) (x:Dt × List Ln) (v:V):Prop:=match x.1 with
 | .stop b L=>TupAt H [.int (b:Nat),.ref L] v/\OD H L x.2
 | .coup a b s=>TupAt H [.int (a:Nat),.int (b:Nat),.int s] v
 | .mute b=>v=.int (b:Nat)
noncomputable abbrev Yc (r:Str × Nat × Int):List V:=[.str r.1,.int (r.2.1:Nat),.int r.2.2]
noncomputable abbrev U8 (r:R):List V:=[.str r.w,.str r.nm]
structure Be (H0 H:Hp) (A:Ji) (S:Pl) (Cs:List Addr) (lo:V):Prop where
 dp:∃ kvs:List (Key × V),H A.p=some (.dK kvs)/\kvs.length<=7/\CJ kvs (Sum.inr "rows")=some (.ref A.r)/\CJ kvs (Sum.inr "boards")=some (.ref A.b)/\CJ kvs (Sum.inr "ranks")=some (.ref A.k)/\CJ kvs (Sum.inr "knobs")=some (.ref A.n)/\CJ kvs (Sum.inr "details")=some (.ref A.d)/\CJ kvs (Sum.inr "steps")=some (.ref A.s)/\CJ kvs (Sum.inr "lines")=some lo
 nd:(A.r::A.b::A.k::A.n::A.d::A.s::(S.Ls++Cs)).Nodup
 sm:Ao H0 H
 f0:H0 A.p=none
 fr:∀ a∈A.r::A.b::A.k::A.n::A.d::A.s::S.Ls,H0 a=none
 r:∃ vs,H A.r=some (.lst vs)/\Paired (fun (r:R) v=>TupAt H r.v v) S.rows vs
 b:∃ vs,H A.b=some (.lst vs)/\Paired (fun b v=>TupAt H (bV b) v) S.bs vs
 k:∃ vs,H A.k=some (.lst vs)/\Paired (fun r v=>TupAt H (Yc r) v) S.rk vs
 n:∃ vs,H A.n=some (.lst vs)/\Paired (fun (r:R) v=>TupAt H (U8 r) v) S.ks vs
 d:∃ vs,H A.d=some (.lst vs)/\S.ds.length=S.ls.length/\Paired (Gr H) (S.ds.zip S.ls) vs
 s:H A.s=some (.lst (Cs.map V.ref))
 c:Paired (fun C (l:List Nat)=>H C=some (.lst (l.map fun n:Nat=>V.int (n:Int)))) Cs S.ch
section
variable {H0 H H':Hp} {A:Ji} {S:Pl} {Cs:List Addr} {lo:V}
theorem OD.mono {L:Addr} {l:List Ln} (s:Ao H H') (h:OD H L l):OD H' L l:=by
 obtain ⟨ts,h1,h2⟩:=h
 exact ⟨ts,s _ _ h1,Aj s h2⟩
theorem Gr.mono {x:Dt × List Ln} {v:V} (s:Ao H H') (h:Gr H x v):Gr H' x v:=by
 obtain ⟨d,l⟩:=x
 cases d with
 | stop b L=>exact ⟨h.1.mono s,h.2.mono s⟩
 | coup a b t=>exact TupAt.mono s h
 | mute b=>exact h
theorem OD.put {a L:Addr} {l:List Ln} {xs ys:List V} (h:OD H L l) (ha:H a=some (.lst xs)) (hn:L ≠ a):OD (upd H a (.lst ys)) L l:=by
 obtain ⟨ts,h1,h2⟩:=h
 exact ⟨ts,by rw [An hn]; exact h1,Ay h2 ha⟩
theorem Gr.put {a:Addr} {x:Dt × List Ln} {v:V} {xs ys:List V} (h:Gr H x v) (ha:H a=some (.lst xs)) (hn:∀ L∈x.1.L,L ≠ a):Gr (upd H a (.lst ys)) x v:=by
 obtain ⟨d,l⟩:=x
 cases d with
 | stop b L=>exact ⟨h.1.upd ha,h.2.put ha (hn L (List.mem_singleton.mpr rfl))⟩
 | coup a' b t=>exact TupAt.upd h ha
 | mute b=>exact h
theorem Gr.dict {a:Addr} {x:Dt × List Ln} {v:V} {k1 k2:List (Key × V)} (h:Gr H x v) (s:SX a H (upd H a (.dK k2))) (ha:H a=some (.dK k1)):Gr (upd H a (.dK k2)) x v:=by
 have tp:∀ {zs:List V} {y:V},TupAt H zs y->TupAt (upd H a (.dK k2)) zs y:=fun {zs y} h=>by
  obtain ⟨T,rfl,e⟩:=h
  exact ⟨T,rfl,s _ _ e fun z=>by rw [z,ha] at e; cases e⟩
 obtain ⟨d,l⟩:=x
 cases d with
 | stop b L =>
  obtain ⟨h1,ts,h2,h3⟩:=h
  exact ⟨tp h1,ts,s _ _ h2 (fun z=>by rw [z,ha] at h2; cases h2),Paired.Ex h3 fun _ _ q=>tp q⟩
 | coup a' b t=>exact tp h
 | mute b=>exact h
theorem Be.mono (s:Ao H H') (h:Be H0 H A S Cs lo):Be H0 H' A S Cs lo:=by
 obtain ⟨kvs,g1,g2⟩:=h.dp
 obtain ⟨v1,r1,r2⟩:=h.r
 obtain ⟨v2,b1,b2⟩:=h.b
 obtain ⟨v3,k1,k2⟩:=h.k
 obtain ⟨v4,n1,n2⟩:=h.n
 obtain ⟨v5,d1,d2,d3⟩:=h.d
 exact ⟨⟨kvs,s _ _ g1,g2⟩,h.nd,h.sm.trans s,h.f0,h.fr,⟨v1,s _ _ r1,Aj s r2⟩,⟨v2,s _ _ b1,Aj s b2⟩,⟨v3,s _ _ k1,Aj s k2⟩,⟨v4,s _ _ n1,Aj s n2⟩,⟨v5,s _ _ d1,d2,Paired.Ex d3 fun _ _ q=>q.mono s⟩,s _ _ h.s,Paired.Ex h.c fun _ _ q=>s _ _ q⟩
theorem DQ {a:Addr} {o:HO} (s:Ao H0 H) (h:H0 a=none):Ao H0 (upd H a o):=fun b u e=>by
 rw [An (Al e h)]
 exact s _ _ e
theorem G8 {a:Addr} {xs ys:List V} {kvs:List (Key × V)} {p:Addr} (hp:H p=some (.dK kvs)) (ha:H a=some (.lst xs)):upd H a (.lst ys) p=some (.dK kvs):=by
 rw [An fun z=>by rw [z,ha] at hp; cases hp]
 exact hp
theorem Vz {x:Dt × List Ln} (hx:x∈S.ds.zip S.ls) {L:Addr} (hL:L∈x.1.L):L∈S.Ls:=List.mem_flatMap.mpr ⟨x.1,(List.of_mem_zip hx).1,hL⟩
theorem Fw {α β:Type} {F:α->β->Prop}:∀ {l:List α} {z:α} {vs:List β},Paired F (l++[z]) vs->∃ us u,vs=us++[u]/\Paired F l us/\F z u
 | [],z,_,h=>by
  cases h with
  | cons x y=>cases y; exact ⟨[],_,rfl,.nil,x⟩
 | a::l,z,_,h=>by
  cases h with
  | cons x y =>
   obtain ⟨us,u,rfl,h1,h2⟩:=Fw y
   exact ⟨_::us,u,rfl,.cons x h1,h2⟩
theorem Gn {α β:Type} {F G:α->β->Prop}:∀ {l:List α} {vs:List β},Paired F l vs->(∀ a b,a∈l->F a b->G a b)->Paired G l vs
 | [],_,h,_=>by cases h; exact .nil
 | a::l,_,h,k=>by
  cases h with
  | cons x y=>exact .cons (k _ _ (List.mem_cons_self ..) x) (Gn y fun a b hb=>k a b (List.mem_cons_of_mem _ hb))
theorem Be.dput {a:Addr} {xs ys:List V} (h:Be H0 H A S Cs lo) (ha:H a=some (.lst xs)) (hn:a ∉ S.Ls) {vs:List V} (p:Paired (Gr H) (S.ds.zip S.ls) vs):Paired (Gr (upd H a (.lst ys))) (S.ds.zip S.ls) vs :=
 Gn p fun x v hx q=>q.put ha fun L hL z=>hn (z ▸ Vz hx hL)
theorem Be.Nx {a:Addr} {ys:List V} (h:Be H0 H A S Cs lo) (hn:a ∉ Cs):Paired (fun C (l:List Nat)=>upd H a (.lst ys) C=some (.lst (l.map fun n:Nat=>V.int (n:Int)))) Cs S.ch :=
 Gn h.c fun C l hC q=>by rw [An (fun z:C=a=>hn (z ▸ hC))]; exact q
theorem Be.gm (h:Be H0 H A S Cs lo):A.r ≠ A.b:=by
 have z:=h.nd
 simp only [List.nodup_cons,List.mem_cons,not_or] at z
 refine byC fun w_=>?_;obtain ⟨⟨z1,z2,z3,z4,z5,_⟩,⟨y2,y3,y4,y5,_⟩,⟨x3,x4,x5,_⟩,⟨w4,w5,_⟩,⟨v5,_⟩,_⟩:=z;refine w_ ?_
 exact z1
theorem Be.gA (h:Be H0 H A S Cs lo):A.r ≠ A.k:=by
 have z:=h.nd
 simp only [List.nodup_cons,List.mem_cons,not_or] at z
 refine byC fun w_=>?_;obtain ⟨⟨z1,z2,z3,z4,z5,_⟩,⟨y2,y3,y4,y5,_⟩,⟨x3,x4,x5,_⟩,⟨w4,w5,_⟩,⟨v5,_⟩,_⟩:=z;refine w_ ?_
 exact z2
theorem Be.gM (h:Be H0 H A S Cs lo):A.r ≠ A.n:=by
 have z:=h.nd
 simp only [List.nodup_cons,List.mem_cons,not_or] at z
 refine byC fun w_=>?_;obtain ⟨⟨z1,z2,z3,z4,z5,_⟩,⟨y2,y3,y4,y5,_⟩,⟨x3,x4,x5,_⟩,⟨w4,w5,_⟩,⟨v5,_⟩,_⟩:=z;refine w_ ?_
 exact z3
theorem Be.gh (h:Be H0 H A S Cs lo):A.r ≠ A.d:=by
 have z:=h.nd
 simp only [List.nodup_cons,List.mem_cons,not_or] at z
 refine byC fun w_=>?_;obtain ⟨⟨z1,z2,z3,z4,z5,_⟩,⟨y2,y3,y4,y5,_⟩,⟨x3,x4,x5,_⟩,⟨w4,w5,_⟩,⟨v5,_⟩,_⟩:=z;refine w_ ?_
 exact z4
theorem Be.gU (h:Be H0 H A S Cs lo):A.r ≠ A.s:=by
 have z:=h.nd
 simp only [List.nodup_cons,List.mem_cons,not_or] at z
 refine byC fun w_=>?_;obtain ⟨⟨z1,z2,z3,z4,z5,_⟩,⟨y2,y3,y4,y5,_⟩,⟨x3,x4,x5,_⟩,⟨w4,w5,_⟩,⟨v5,_⟩,_⟩:=z;refine w_ ?_
 exact z5
theorem Be.gw (h:Be H0 H A S Cs lo):A.b ≠ A.k:=by
 have z:=h.nd
 simp only [List.nodup_cons,List.mem_cons,not_or] at z
 refine byC fun w_=>?_;obtain ⟨⟨z1,z2,z3,z4,z5,_⟩,⟨y2,y3,y4,y5,_⟩,⟨x3,x4,x5,_⟩,⟨w4,w5,_⟩,⟨v5,_⟩,_⟩:=z;refine w_ ?_
 exact y2
theorem Be.fX (h:Be H0 H A S Cs lo):A.b ≠ A.n:=by
 have z:=h.nd
 simp only [List.nodup_cons,List.mem_cons,not_or] at z
 refine byC fun w_=>?_;obtain ⟨⟨z1,z2,z3,z4,z5,_⟩,⟨y2,y3,y4,y5,_⟩,⟨x3,x4,x5,_⟩,⟨w4,w5,_⟩,⟨v5,_⟩,_⟩:=z;refine w_ ?_
 exact y3
theorem Be.fc (h:Be H0 H A S Cs lo):A.b ≠ A.d:=by
 have z:=h.nd
 simp only [List.nodup_cons,List.mem_cons,not_or] at z
 refine byC fun w_=>?_;obtain ⟨⟨z1,z2,z3,z4,z5,_⟩,⟨y2,y3,y4,y5,_⟩,⟨x3,x4,x5,_⟩,⟨w4,w5,_⟩,⟨v5,_⟩,_⟩:=z;refine w_ ?_
 exact y4
theorem Be.iD (h:Be H0 H A S Cs lo):A.b ≠ A.s:=by
 have z:=h.nd
 simp only [List.nodup_cons,List.mem_cons,not_or] at z
 refine byC fun w_=>?_;obtain ⟨⟨z1,z2,z3,z4,z5,_⟩,⟨y2,y3,y4,y5,_⟩,⟨x3,x4,x5,_⟩,⟨w4,w5,_⟩,⟨v5,_⟩,_⟩:=z;refine w_ ?_
 exact y5
theorem Be.iB (h:Be H0 H A S Cs lo):A.k ≠ A.n:=by
 have z:=h.nd
 simp only [List.nodup_cons,List.mem_cons,not_or] at z
 refine byC fun w_=>?_;obtain ⟨⟨z1,z2,z3,z4,z5,_⟩,⟨y2,y3,y4,y5,_⟩,⟨x3,x4,x5,_⟩,⟨w4,w5,_⟩,⟨v5,_⟩,_⟩:=z;refine w_ ?_
 exact x3
theorem Be.iG (h:Be H0 H A S Cs lo):A.k ≠ A.d:=by
 have z:=h.nd
 simp only [List.nodup_cons,List.mem_cons,not_or] at z
 refine byC fun w_=>?_;obtain ⟨⟨z1,z2,z3,z4,z5,_⟩,⟨y2,y3,y4,y5,_⟩,⟨x3,x4,x5,_⟩,⟨w4,w5,_⟩,⟨v5,_⟩,_⟩:=z;refine w_ ?_
 exact x4
theorem Be.gD (h:Be H0 H A S Cs lo):A.k ≠ A.s:=by
 have z:=h.nd
 simp only [List.nodup_cons,List.mem_cons,not_or] at z
 refine byC fun w_=>?_;obtain ⟨⟨z1,z2,z3,z4,z5,_⟩,⟨y2,y3,y4,y5,_⟩,⟨x3,x4,x5,_⟩,⟨w4,w5,_⟩,⟨v5,_⟩,_⟩:=z;refine w_ ?_
 exact x5
theorem Be.fY (h:Be H0 H A S Cs lo):A.n ≠ A.d:=by
 have z:=h.nd
 simp only [List.nodup_cons,List.mem_cons,not_or] at z
 refine byC fun w_=>?_;obtain ⟨⟨z1,z2,z3,z4,z5,_⟩,⟨y2,y3,y4,y5,_⟩,⟨x3,x4,x5,_⟩,⟨w4,w5,_⟩,⟨v5,_⟩,_⟩:=z;refine w_ ?_
 exact w4
theorem Be.fj (h:Be H0 H A S Cs lo):A.n ≠ A.s:=by
 have z:=h.nd
 simp only [List.nodup_cons,List.mem_cons,not_or] at z
 refine byC fun w_=>?_;obtain ⟨⟨z1,z2,z3,z4,z5,_⟩,⟨y2,y3,y4,y5,_⟩,⟨x3,x4,x5,_⟩,⟨w4,w5,_⟩,⟨v5,_⟩,_⟩:=z;refine w_ ?_
 exact w5
theorem Be.gH (h:Be H0 H A S Cs lo):A.d ≠ A.s:=by
 have z:=h.nd
 simp only [List.nodup_cons,List.mem_cons,not_or] at z
 refine byC fun w_=>?_;obtain ⟨⟨z1,z2,z3,z4,z5,_⟩,⟨y2,y3,y4,y5,_⟩,⟨x3,x4,x5,_⟩,⟨w4,w5,_⟩,⟨v5,_⟩,_⟩:=z;refine w_ ?_
 exact v5
theorem Be.gC (h:Be H0 H A S Cs lo):A.r ∉ S.Ls++Cs:=by
 have z:=h.nd
 simp only [List.nodup_cons] at z
 have e:=z.1
 intro c
 exact e (by simp only [List.mem_cons]; simp only [c,or_true])
theorem Be.gY (h:Be H0 H A S Cs lo):A.b ∉ S.Ls++Cs:=by
 have z:=h.nd
 simp only [List.nodup_cons] at z
 have e:=z.2.1
 intro c
 exact e (by simp only [List.mem_cons]; simp only [c,or_true])
theorem Be.iC (h:Be H0 H A S Cs lo):A.k ∉ S.Ls++Cs:=by
 have z:=h.nd
 simp only [List.nodup_cons] at z
 have e:=z.2.2.1
 intro c
 exact e (by simp only [List.mem_cons]; simp only [c,or_true])
theorem Be.gW (h:Be H0 H A S Cs lo):A.n ∉ S.Ls++Cs:=by
 have z:=h.nd
 simp only [List.nodup_cons] at z
 have e:=z.2.2.2.1
 intro c
 exact e (by simp only [List.mem_cons]; simp only [c,or_true])
theorem Be.gQ (h:Be H0 H A S Cs lo):A.d ∉ S.Ls++Cs:=by
 have z:=h.nd
 simp only [List.nodup_cons] at z
 have e:=z.2.2.2.2.1
 intro c
 exact e (by simp only [List.mem_cons]; simp only [c,or_true])
theorem Be.g_ (h:Be H0 H A S Cs lo):A.s ∉ S.Ls++Cs:=by
 have z:=h.nd
 simp only [List.nodup_cons] at z
 exact z.2.2.2.2.2.1
theorem Be.dg (h:Be H0 H A S Cs lo) {vs:List V} (ha:H A.r=some (.lst vs)) {r:R} {v:V} (hv:TupAt H r.v v):Be H0 (upd H A.r (.lst (vs++[v]))) A { S with rows:=S.rows++[r] } Cs lo:=by
 obtain ⟨kvs,g1,g2⟩:=h.dp
 obtain ⟨vr,r1,r2⟩:=h.r
 obtain ⟨vb,b1,b2⟩:=h.b
 obtain ⟨vk,k1,k2⟩:=h.k
 obtain ⟨vn,n1,n2⟩:=h.n
 obtain ⟨vd,d1,d2,d3⟩:=h.d
 have hm:=h.gC
 obtain rfl:vr=vs:=HO.lst.inj (Option.some.inj (r1.symm.trans ha))
 have hp:=r2
 exact ⟨⟨kvs,G8 g1 ha,g2⟩,h.nd,DQ h.sm (h.fr _ (by simp)),h.f0,h.fr,⟨vr++[v],Ah,Bs (Ay hp ha) (.cons (hv.upd ha) .nil)⟩,⟨vb,by rw [An (Ne.symm h.gm)]; exact b1,Ay b2 ha⟩,⟨vk,by rw [An (Ne.symm h.gA)]; exact k1,Ay k2 ha⟩,⟨vn,by rw [An (Ne.symm h.gM)]; exact n1,Ay n2 ha⟩,⟨vd,by rw [An (Ne.symm h.gh)]; exact d1,d2,h.dput ha (fun z=>hm (List.mem_append_left _ z)) d3⟩,by rw [An (Ne.symm h.gU)]; exact h.s,h.Nx (fun z=>hm (List.mem_append_right _ z))⟩
theorem Be.dz (h:Be H0 H A S Cs lo) {vs:List V} (ha:H A.b=some (.lst vs)) {r:Str × Nat} {v:V} (hv:TupAt H (bV r) v):Be H0 (upd H A.b (.lst (vs++[v]))) A { S with bs:=S.bs++[r] } Cs lo:=by
 obtain ⟨kvs,g1,g2⟩:=h.dp
 obtain ⟨vr,r1,r2⟩:=h.r
 obtain ⟨vb,b1,b2⟩:=h.b
 obtain ⟨vk,k1,k2⟩:=h.k
 obtain ⟨vn,n1,n2⟩:=h.n
 obtain ⟨vd,d1,d2,d3⟩:=h.d
 have hm:=h.gY
 obtain rfl:vb=vs:=HO.lst.inj (Option.some.inj (b1.symm.trans ha))
 have hp:=b2
 exact ⟨⟨kvs,G8 g1 ha,g2⟩,h.nd,DQ h.sm (h.fr _ (by simp)),h.f0,h.fr,⟨vr,by rw [An h.gm]; exact r1,Ay r2 ha⟩,⟨vb++[v],Ah,Bs (Ay hp ha) (.cons (hv.upd ha) .nil)⟩,⟨vk,by rw [An (Ne.symm h.gw)]; exact k1,Ay k2 ha⟩,⟨vn,by rw [An (Ne.symm h.fX)]; exact n1,Ay n2 ha⟩,⟨vd,by rw [An (Ne.symm h.fc)]; exact d1,d2,h.dput ha (fun z=>hm (List.mem_append_left _ z)) d3⟩,by rw [An (Ne.symm h.iD)]; exact h.s,h.Nx (fun z=>hm (List.mem_append_right _ z))⟩
theorem Be.bO (h:Be H0 H A S Cs lo) {vs:List V} (ha:H A.k=some (.lst vs)) {r:Str × Nat × Int} {v:V} (hv:TupAt H (Yc r) v):Be H0 (upd H A.k (.lst (vs++[v]))) A { S with rk:=S.rk++[r] } Cs lo:=by
 obtain ⟨kvs,g1,g2⟩:=h.dp
 obtain ⟨vr,r1,r2⟩:=h.r
 obtain ⟨vb,b1,b2⟩:=h.b
 obtain ⟨vk,k1,k2⟩:=h.k
 obtain ⟨vn,n1,n2⟩:=h.n
 obtain ⟨vd,d1,d2,d3⟩:=h.d
 have hm:=h.iC
 obtain rfl:vk=vs:=HO.lst.inj (Option.some.inj (k1.symm.trans ha))
 have hp:=k2
 exact ⟨⟨kvs,G8 g1 ha,g2⟩,h.nd,DQ h.sm (h.fr _ (by simp)),h.f0,h.fr,⟨vr,by rw [An h.gA]; exact r1,Ay r2 ha⟩,⟨vb,by rw [An h.gw]; exact b1,Ay b2 ha⟩,⟨vk++[v],Ah,Bs (Ay hp ha) (.cons (hv.upd ha) .nil)⟩,⟨vn,by rw [An (Ne.symm h.iB)]; exact n1,Ay n2 ha⟩,⟨vd,by rw [An (Ne.symm h.iG)]; exact d1,d2,h.dput ha (fun z=>hm (List.mem_append_left _ z)) d3⟩,by rw [An (Ne.symm h.gD)]; exact h.s,h.Nx (fun z=>hm (List.mem_append_right _ z))⟩
theorem Be.Uq (h:Be H0 H A S Cs lo) {vs:List V} (ha:H A.n=some (.lst vs)) {r:R} {v:V} (hv:TupAt H (U8 r) v):Be H0 (upd H A.n (.lst (vs++[v]))) A { S with ks:=S.ks++[r] } Cs lo:=by
 obtain ⟨kvs,g1,g2⟩:=h.dp
 obtain ⟨vr,r1,r2⟩:=h.r
 obtain ⟨vb,b1,b2⟩:=h.b
 obtain ⟨vk,k1,k2⟩:=h.k
 obtain ⟨vn,n1,n2⟩:=h.n
 obtain ⟨vd,d1,d2,d3⟩:=h.d
 have hm:=h.gW
 obtain rfl:vn=vs:=HO.lst.inj (Option.some.inj (n1.symm.trans ha))
 have hp:=n2
 exact ⟨⟨kvs,G8 g1 ha,g2⟩,h.nd,DQ h.sm (h.fr _ (by simp)),h.f0,h.fr,⟨vr,by rw [An h.gM]; exact r1,Ay r2 ha⟩,⟨vb,by rw [An h.fX]; exact b1,Ay b2 ha⟩,⟨vk,by rw [An h.iB]; exact k1,Ay k2 ha⟩,⟨vn++[v],Ah,Bs (Ay hp ha) (.cons (hv.upd ha) .nil)⟩,⟨vd,by rw [An (Ne.symm h.fY)]; exact d1,d2,h.dput ha (fun z=>hm (List.mem_append_left _ z)) d3⟩,by rw [An (Ne.symm h.fj)]; exact h.s,h.Nx (fun z=>hm (List.mem_append_right _ z))⟩
theorem Ot (S:Pl) (x:Dt) (l:List (List Ln)):({ S with ds:=S.ds++[x],ls:=l }:Pl).Ls=S.Ls++x.L:=by
 show (S.ds++[x]).flatMap Dt.L=_
 rw [List.flatMap_append]
 simp
theorem Be.U3 (h:Be H0 H A S Cs lo) {vs:List V} (ha:H A.d=some (.lst vs)) {x:Dt} {v:V} (hv:Gr H (x,[]) v) (hL:∀ L∈x.L,H0 L=none/\L ∉ A.r::A.b::A.k::A.n::A.d::A.s::(S.Ls++Cs)):Be H0 (upd H A.d (.lst (vs++[v]))) A { S with ds:=S.ds++[x],ls:=S.ls++[[]] } Cs lo:=by
 obtain ⟨kvs,g1,g2⟩:=h.dp
 obtain ⟨vr,r1,r2⟩:=h.r
 obtain ⟨vb,b1,b2⟩:=h.b
 obtain ⟨vk,k1,k2⟩:=h.k
 obtain ⟨vn,n1,n2⟩:=h.n
 obtain ⟨vd,d1,d2,d3⟩:=h.d
 have hm:=h.gQ
 obtain rfl:vd=vs:=HO.lst.inj (Option.some.inj (d1.symm.trans ha))
 refine ⟨⟨kvs,G8 g1 ha,g2⟩,?_,DQ h.sm (h.fr _ (by simp)),h.f0,?_,⟨vr,by rw [An h.gh]; exact r1,Ay r2 ha⟩,⟨vb,by rw [An h.fc]; exact b1,Ay b2 ha⟩,⟨vk,by rw [An h.iG]; exact k1,Ay k2 ha⟩,⟨vn,by rw [An h.fY]; exact n1,Ay n2 ha⟩,⟨vd++[v],Ah,by simp [d2],?_⟩,by rw [An (Ne.symm h.gH)]; exact h.s,h.Nx (fun z=>hm (List.mem_append_right _ z))⟩
 ·rw [Ot]
  have nd:=h.nd
  cases x with
  | stop b L =>
   have hL':=(hL L (List.mem_singleton.mpr rfl)).2
   have e:(A.r::A.b::A.k::A.n::A.d::A.s::(S.Ls++Dt.L (.stop b L)++Cs)).Perm (L::(A.r::A.b::A.k::A.n::A.d::A.s::(S.Ls++Cs))):=by
    show (([A.r,A.b,A.k,A.n,A.d,A.s]++(S.Ls++[L]++Cs)):List Addr).Perm (L::([A.r,A.b,A.k,A.n,A.d,A.s]++(S.Ls++Cs)))
    have e1:([A.r,A.b,A.k,A.n,A.d,A.s]++(S.Ls++[L]++Cs):List Addr)=([A.r,A.b,A.k,A.n,A.d,A.s]++S.Ls)++L::Cs:=by simp
    have e2:([A.r,A.b,A.k,A.n,A.d,A.s]++(S.Ls++Cs):List Addr)=([A.r,A.b,A.k,A.n,A.d,A.s]++S.Ls)++Cs:=by simp
    rw [e1,e2]
    exact List.perm_middle
   exact e.nodup_iff.mpr (List.nodup_cons.mpr ⟨hL',nd⟩)
  | coup a b t =>
   show (A.r::A.b::A.k::A.n::A.d::A.s::(S.Ls++[]++Cs)).Nodup
   rw [List.append_nil]
   exact nd
  | mute b =>
   show (A.r::A.b::A.k::A.n::A.d::A.s::(S.Ls++[]++Cs)).Nodup
   rw [List.append_nil]
   exact nd
 ·rw [Ot]
  intro a ha'
  have:a∈A.r::A.b::A.k::A.n::A.d::A.s::S.Ls \/ a∈x.L:=by
   simp only [List.mem_cons,List.mem_append] at ha' ⊢
   rcases ha' with z | z | z | z | z | z | z | z
   ·exact .inl (.inl z)
   ·exact .inl (.inr (.inl z))
   ·exact .inl (.inr (.inr (.inl z)))
   ·exact .inl (.inr (.inr (.inr (.inl z))))
   ·exact .inl (.inr (.inr (.inr (.inr (.inl z)))))
   ·exact .inl (.inr (.inr (.inr (.inr (.inr (.inl z))))))
   ·exact .inl (.inr (.inr (.inr (.inr (.inr (.inr z))))))
   ·exact .inr z
  rcases this with z | z
  ·exact h.fr a z
  ·exact (hL a z).1
 ·rw [List.zip_append d2]
  refine Bs (h.dput ha (fun z=>hm (List.mem_append_left _ z)) d3) (.cons (hv.put ha fun L hL' z=>?_) .nil)
  exact (hL L hL').2 (by rw [z]; simp)
theorem Be.Eh (h:Be H0 H A S Cs lo) {C:Addr} {l:List Nat} (hC:H C=some (.lst (l.map fun n:Nat=>V.int (n:Int)))) (hn:C ∉ A.r::A.b::A.k::A.n::A.d::A.s::(S.Ls++Cs)):Be H0 (upd H A.s (.lst (Cs.map V.ref++[.ref C]))) A { S with ch:=S.ch++[l] } (Cs++[C]) lo:=by
 obtain ⟨kvs,g1,g2⟩:=h.dp
 obtain ⟨vr,r1,r2⟩:=h.r
 obtain ⟨vb,b1,b2⟩:=h.b
 obtain ⟨vk,k1,k2⟩:=h.k
 obtain ⟨vn,n1,n2⟩:=h.n
 obtain ⟨vd,d1,d2,d3⟩:=h.d
 have hm:=h.g_
 have ha:=h.s
 refine ⟨⟨kvs,G8 g1 ha,g2⟩,?_,DQ h.sm (h.fr _ (by simp)),h.f0,h.fr,⟨vr,by rw [An h.gU]; exact r1,Ay r2 ha⟩,⟨vb,by rw [An h.iD]; exact b1,Ay b2 ha⟩,⟨vk,by rw [An h.gD]; exact k1,Ay k2 ha⟩,⟨vn,by rw [An h.fj]; exact n1,Ay n2 ha⟩,⟨vd,by rw [An h.gH]; exact d1,d2,h.dput ha (fun z=>hm (List.mem_append_left _ z)) d3⟩,by rw [List.map_append]; exact Ah,Bs (h.Nx (fun z=>hm (List.mem_append_right _ z))) (.cons (by rw [An fun z=>hn (by rw [z]; simp)]; exact hC) .nil)⟩
 show (A.r::A.b::A.k::A.n::A.d::A.s::(S.Ls++(Cs++[C]))).Nodup
 have e:(A.r::A.b::A.k::A.n::A.d::A.s::(S.Ls++(Cs++[C]))).Perm (C::(A.r::A.b::A.k::A.n::A.d::A.s::(S.Ls++Cs))):=by
  rw [← List.append_assoc]
  exact List.perm_append_singleton C (A.r::A.b::A.k::A.n::A.d::A.s::(S.Ls++Cs))
 exact e.nodup_iff.mpr (List.nodup_cons.mpr ⟨hn,h.nd⟩)
theorem Be.Xm (h:Be H0 H A S Cs lo) {b:Nat} {L:Addr} {ds0:List Dt} {ls0:List (List Ln)} {l0:List Ln} {x:Ln} {v:V} {ts:List V} (e1:S.ds=ds0++[.stop b L]) (e2:S.ls=ls0++[l0]) (hL:H L=some (.lst ts)) (hv:TupAt H (YL x) v):Be H0 (upd H L (.lst (ts++[v]))) A { S with ls:=ls0++[l0++[x]] } Cs lo:=by
 obtain ⟨kvs,g1,g2⟩:=h.dp
 obtain ⟨vr,r1,r2⟩:=h.r
 obtain ⟨vb,b1,b2⟩:=h.b
 obtain ⟨vk,k1,k2⟩:=h.k
 obtain ⟨vn,n1,n2⟩:=h.n
 obtain ⟨vd,d1,d2,d3⟩:=h.d
 have ha:=hL
 have hmem:L∈S.Ls:=List.mem_flatMap.mpr ⟨.stop b L,by rw [e1]; simp,List.mem_singleton.mpr rfl⟩
 have nr:A.r ≠ L:=fun z=>h.gC (z ▸ List.mem_append_left _ hmem)
 have nb:A.b ≠ L:=fun z=>h.gY (z ▸ List.mem_append_left _ hmem)
 have nk:A.k ≠ L:=fun z=>h.iC (z ▸ List.mem_append_left _ hmem)
 have nn:A.n ≠ L:=fun z=>h.gW (z ▸ List.mem_append_left _ hmem)
 have ndd:A.d ≠ L:=fun z=>h.gQ (z ▸ List.mem_append_left _ hmem)
 have ns:A.s ≠ L:=fun z=>h.g_ (z ▸ List.mem_append_left _ hmem)
 have hnd:(S.Ls++Cs).Nodup:=by
  have z:=h.nd
  simp only [List.nodup_cons] at z
  exact z.2.2.2.2.2.2
 have hLs:S.Ls=ds0.flatMap Dt.L++[L]:=by
  show S.ds.flatMap Dt.L=_
  rw [e1,List.flatMap_append]
  rfl
 have hC:L ∉ Cs:=fun z=>(List.nodup_append.mp hnd).2.2 L hmem L z rfl
 have h0:L ∉ ds0.flatMap Dt.L:=fun z=>by
  have:=(List.nodup_append.mp hnd).1
  rw [hLs] at this
  exact (List.nodup_append.mp this).2.2 L z L (List.mem_singleton.mpr rfl) rfl
 have ld:ds0.length=ls0.length:=by
  have:=d2
  rw [e1,e2] at this
  simpa using this
 rw [e1,e2,List.zip_append ld] at d3
 obtain ⟨vd0,u,rfl,p0,hu⟩:=Fw d3
 refine ⟨⟨kvs,G8 g1 ha,g2⟩,h.nd,DQ h.sm (h.fr _ (by simp only [List.mem_cons]; simp only [hmem,or_true])),h.f0,h.fr,⟨vr,by rw [An nr]; exact r1,Ay r2 ha⟩,⟨vb,by rw [An nb]; exact b1,Ay b2 ha⟩,⟨vk,by rw [An nk]; exact k1,Ay k2 ha⟩,⟨vn,by rw [An nn]; exact n1,Ay n2 ha⟩,⟨_,by rw [An ndd]; exact d1,?_,?_⟩,by rw [An ns]; exact h.s,h.Nx hC⟩
 ·show S.ds.length=(ls0++[l0++[x]]).length
  rw [e1]
  simp [ld]
 ·show Paired _ (S.ds.zip (ls0++[l0++[x]])) _
  rw [e1,List.zip_append ld]
  refine Bs (Gn p0 fun y w hy q=>q.put ha fun L' hL' z=>h0 (z ▸ List.mem_flatMap.mpr ⟨y.1,(List.of_mem_zip hy).1,hL'⟩)) (.cons ?_ .nil)
  obtain ⟨q1,ts',q2,q3⟩:=hu
  obtain rfl:ts'=ts:=HO.lst.inj (Option.some.inj (q2.symm.trans hL))
  exact ⟨q1.upd ha,ts'++[v],Ah,Bs (Ay q3 ha) (.cons (hv.upd ha) .nil)⟩
theorem SM {kvs:List (Key × V)} {k:Key} {v w:V} (h:CJ kvs k=some w):(putK kvs k v).length=kvs.length:=by
 unfold putK
 rw [if_pos (by rw [GR,h]; rfl),List.length_map]
theorem Be.ZG (h:Be H0 H A S Cs lo) {kvs:List (Key × V)} (hp:H A.p=some (.dK kvs)) (v:V):Be H0 (upd H A.p (.dK (putK kvs (Sum.inr "lines") v))) A S Cs v:=by
 refine byC fun w_=>?_;obtain ⟨kvs',g1,g2,y1,y2,y3,y4,y5,y6,y7⟩:=h.dp;refine w_ ?_
 obtain rfl:kvs'=kvs:=HO.dK.inj (Option.some.inj (g1.symm.trans hp))
 obtain ⟨vr,r1,r2⟩:=h.r
 obtain ⟨vb,b1,b2⟩:=h.b
 obtain ⟨vk,k1,k2⟩:=h.k
 obtain ⟨vn,n1,n2⟩:=h.n
 obtain ⟨vd,d1,d2,d3⟩:=h.d
 have sx:SX A.p H (upd H A.p (.dK (putK kvs' (Sum.inr "lines") v))):=SX.up
 have tp:∀ {zs:List V} {y:V},TupAt H zs y->TupAt (upd H A.p (.dK (putK kvs' (Sum.inr "lines") v))) zs y:=fun {zs y} h=>by
  obtain ⟨T,rfl,e⟩:=h
  exact ⟨T,rfl,sx _ _ e fun z=>by rw [z,hp] at e; cases e⟩
 have lt:∀ {a:Addr} {xs:List V},H a=some (.lst xs)->upd H A.p (.dK (putK kvs' (Sum.inr "lines") v)) a=some (.lst xs):=fun {a xs} h=>sx _ _ h fun z=>by rw [z,hp] at h; cases h
 refine ⟨⟨_,Ah,by rw [SM y7]; exact g2,?_,?_,?_,?_,?_,?_,?_⟩,h.nd,DQ h.sm h.f0,h.f0,h.fr,⟨vr,lt r1,Paired.Ex r2 fun _ _ q=>tp q⟩,⟨vb,lt b1,Paired.Ex b2 fun _ _ q=>tp q⟩,⟨vk,lt k1,Paired.Ex k2 fun _ _ q=>tp q⟩,⟨vn,lt n1,Paired.Ex n2 fun _ _ q=>tp q⟩,⟨vd,lt d1,d2,Paired.Ex d3 fun _ _ q=>q.dict sx hp⟩,lt h.s,Paired.Ex h.c fun _ _ q=>lt q⟩
 ·rw [BV,if_neg (by decide +kernel)]; exact y1
 ·rw [BV,if_neg (by decide +kernel)]; exact y2
 ·rw [BV,if_neg (by decide +kernel)]; exact y3
 ·rw [BV,if_neg (by decide +kernel)]; exact y4
 ·rw [BV,if_neg (by decide +kernel)]; exact y5
 ·rw [BV,if_neg (by decide +kernel)]; exact y6
 ·rw [BV,if_pos rfl]
end
end Og
namespace Og
open PySem L2
variable {K:PySem.W.Frag} {aB aP aM:Addr}
noncomputable def Rn (bs:List (Str × Nat)) (r:R):Dt->Prop
 | .stop b _=>r.w = "stop" /\ ∃ x,bs[b]? = some x/\r.rest=[.str x.1]
 | .coup a b s=>r.w = "coupler" /\ ∃ x y,bs[a]? = some x/\bs[b]? = some y/\r.rest=[.str x.1,.str y.1,.int s]
 | .mute b=>r.w = "mute" /\ ∃ x,bs[b]? = some x/\r.rest=[.str x.1]
structure Df (K:PySem.W.Frag) (aB aP aM:Addr) (base:Str) (S:Pl) (lo:V):Prop where
 bl:Gu K aB aP aM S.rows S.bs S.rk S.ks S.ls (S.ch.map Wd.mk)
 nb:∀ x∈S.bs,∃ i,i<S.rows.length/\x.1=De base i
 nr:∀ x∈S.rk,∃ i,i<S.rows.length/\x.1=De base i
 nk:∀ x∈S.ks,∃ i,i<S.rows.length/\x.nm=De base i
 db:(S.bs.map (·.1)).Nodup
 dr:(S.rk.map (·.1)).Nodup
 dk:(S.ks.map (·.nm)).Nodup
 b5:S.bs.length<=5
 sb:∀ x∈S.bs,1<=x.2/\x.2<=61
 r12:S.rk.length<=12
 sr:∀ x∈S.rk,1<=x.2.1/\x.2.1<=97
 lk:S.ks.length<=S.rows.length
 pd:Paired (Rn S.bs) S.ks S.ds
 ch:∀ l∈S.ch,l.Nodup/\∀ i∈l,∃ k,S.ks[i]? = some k/\k.w = "stop"
 op:lo=.non \/ ∃ ds0 b L x ls0 l0,S.ds=ds0++[.stop b L]/\S.ls=ls0++[l0]/\lo=.ref L/\S.bs[b]? = some x/\Tl S.rows x.1 l0.length
noncomputable abbrev cB (r:R) (lo:V):V:=if r.w = "stop" \/ r.w = "line" then lo else .non
noncomputable def Jc (K:PySem.W.Frag) (aB aP aM:Addr) (base:Str) (H0:Hp) (A:Ji) (S:Pl) (Q:V->Hp->Prop):Prop :=
 ∀ (r:R) (y:V) (S':Pl) (Cs':List Addr) (lo':V) (H':Hp),Be H0 H' A S' Cs' lo'->S'.rows=S.rows->TupAt H' r.v y->Df K aB aP aM base { S' with rows:=S.rows++[r] } (cB r lo')->1<=S'.bs.length->Q y H'
section
variable {base:Str} {S:Pl} {lo:V}
theorem Df.fb (h:Df K aB aP aM base S lo) (hl:S.rows.length<77):∀ x∈S.bs,x.1 ≠ De base S.rows.length:=fun x hx z=>by
 obtain ⟨i,hi,e⟩:=h.nb x hx
 have:=Ke (by omega) (by omega) (e.symm.trans z)
 omega
theorem Df.fr (h:Df K aB aP aM base S lo) (hl:S.rows.length<77):∀ x∈S.rk,x.1 ≠ De base S.rows.length:=fun x hx z=>by
 obtain ⟨i,hi,e⟩:=h.nr x hx
 have:=Ke (by omega) (by omega) (e.symm.trans z)
 omega
theorem Df.fk (h:Df K aB aP aM base S lo) (hl:S.rows.length<77):∀ x∈S.ks,x.nm ≠ De base S.rows.length:=fun x hx z=>by
 obtain ⟨i,hi,e⟩:=h.nk x hx
 have:=Ke (by omega) (by omega) (e.symm.trans z)
 omega
theorem Ez {α:Type} {f:α->Str} {l:List α} {n:Nat} (h:∀ x∈l,∃ i,i<n/\f x=De base i):∀ x∈l,∃ i,i<n+1/\f x=De base i:=fun x hx=>by
 obtain ⟨i,h1,h2⟩:=h x hx
 exact ⟨i,by omega,h2⟩
theorem Ny {α:Type} {f:α->Str} {l:List α} {n:Nat} {a:α} (h:∀ x∈l,∃ i,i<n/\f x=De base i) (ha:f a=De base n):∀ x∈l++[a],∃ i,i<n+1/\f x=De base i:=fun x hx=>by
 rcases List.mem_append.mp hx with z | z
 ·exact Ez h x z
 ·rw [List.mem_singleton.mp z]
  exact ⟨n,by omega,ha⟩
theorem R1 {α:Type} {f:α->Str} {l:List α} {a:α} (h:(l.map f).Nodup) (hf:∀ x∈l,f x ≠ f a):((l++[a]).map f).Nodup:=by
 rw [List.map_append]
 refine List.nodup_append.mpr ⟨h,by simp,fun x hx y hy z=>?_⟩
 obtain ⟨w,hw,rfl⟩:=List.mem_map.mp hx
 have hy':y=f a:=by simpa using hy
 exact hf w hw (z.trans hy')
theorem Rn.grow {bs:List (Str × Nat)} {x:Str × Nat} {r:R} {d:Dt} (h:Rn bs r d):Rn (bs++[x]) r d:=by
 have g:∀ {i:Nat} {z:Str × Nat},bs[i]? = some z->(bs++[x])[i]? = some z:=fun {i z} h=>by
  rw [List.getElem?_append_left (List.getElem?_eq_some_iff.mp h).1]
  exact h
 cases d with
 | stop b L =>
  obtain ⟨h1,z,h2,h3⟩:=h
  exact ⟨h1,z,g h2,h3⟩
 | coup a b s =>
  obtain ⟨h1,y,z,h2,h3,h4⟩:=h
  exact ⟨h1,y,z,g h2,g h3,h4⟩
 | mute b =>
  obtain ⟨h1,z,h2,h3⟩:=h
  exact ⟨h1,z,g h2,h3⟩
theorem Df.Rr (F:Qo K aB aP aM) (hb:Gq base) (h:Df K aB aP aM base S lo) (hl:S.rows.length<77) (h5:S.bs.length<5) {n:Nat} (h1:1<=n) (h2:n<=61):Df K aB aP aM base { S with bs:=S.bs++[(De base S.rows.length,n)],rows:=S.rows++[Ft (De base S.rows.length,n)] } .non:=by
 have el:(S.rows++[Ft (De base S.rows.length,n)]).length=S.rows.length+1:=by simp
 refine ⟨h.bl.Rr F (Ew hb _) (h.fb hl) (h.fr hl) (h.fk hl) h5 h1 h2,?_,?_,?_,R1 h.db (h.fb hl),h.dr,h.dk,by simp; omega,fun x hx=>?_,h.r12,h.sr,?_,Paired.Ex h.pd fun _ _ q=>q.grow,h.ch,.inl rfl⟩
 ·show ∀ x∈S.bs++_,∃ i,i<_/\_
  rw [el]
  exact Ny (f:=fun x:Str × Nat=>x.1) h.nb rfl
 ·show ∀ x∈S.rk,∃ i,i<_/\_
  rw [el]
  exact Ez (f:=fun x:Str × Nat × Int=>x.1) h.nr
 ·show ∀ x∈S.ks,∃ i,i<_/\_
  rw [el]
  exact Ez (f:=fun x:R=>x.nm) h.nk
 ·rcases List.mem_append.mp hx with z | z
  ·exact h.sb x z
  ·rw [List.mem_singleton.mp z]
   exact ⟨h1,h2⟩
 ·show S.ks.length<=_
  rw [el]
  have:=h.lk
  omega
theorem Df.rank (F:Qo K aB aP aM) (hb:Gq base) (h:Df K aB aP aM base S lo) (hl:S.rows.length<77) (h12:S.rk.length<12) {n:Nat} {wi:Int} (h1:1<=n) (h2:n<=97) (h3:0<=wi) (h4:wi<=1000000000):Df K aB aP aM base { S with rk:=S.rk++[(De base S.rows.length,n,wi)],rows:=S.rows++[F_ (De base S.rows.length,n,wi)] } .non:=by
 have el:(S.rows++[F_ (De base S.rows.length,n,wi)]).length=S.rows.length+1:=by simp
 refine ⟨h.bl.rank F (Ew hb _) (h.fb hl) (h.fr hl) (h.fk hl) h12 h1 h2 h3 h4,?_,?_,?_,h.db,R1 h.dr (h.fr hl),h.dk,h.b5,h.sb,by simp; omega,fun x hx=>?_,?_,h.pd,h.ch,.inl rfl⟩
 ·show ∀ x∈S.bs,∃ i,i<_/\_
  rw [el]
  exact Ez (f:=fun x:Str × Nat=>x.1) h.nb
 ·show ∀ x∈S.rk++_,∃ i,i<_/\_
  rw [el]
  exact Ny (f:=fun x:Str × Nat × Int=>x.1) h.nr rfl
 ·show ∀ x∈S.ks,∃ i,i<_/\_
  rw [el]
  exact Ez (f:=fun x:R=>x.nm) h.nk
 ·rcases List.mem_append.mp hx with z | z
  ·exact h.sr x z
  ·rw [List.mem_singleton.mp z]
   exact ⟨h1,h2⟩
 ·show S.ks.length<=_
  rw [el]
  have:=h.lk
  omega
theorem Df.Ub (h:Df K aB aP aM base S lo) (hl:S.rows.length<77) {r:R} {d:Dt} {lo':V} (hn:r.nm=De base S.rows.length) (hd:Rn S.bs r d) (hB:Gu K aB aP aM (S.rows++[r]) S.bs S.rk (S.ks++[r]) (S.ls++[[]]) (S.ch.map Wd.mk))
  (hop:lo'=.non \/ ∃ b L x,d=.stop b L/\lo'=.ref L/\S.bs[b]? = some x/\Tl (S.rows++[r]) x.1 0):Df K aB aP aM base { S with ks:=S.ks++[r],ls:=S.ls++[[]],ds:=S.ds++[d],rows:=S.rows++[r] } lo':=by
 have el:(S.rows++[r]).length=S.rows.length+1:=by simp
 refine ⟨hB,?_,?_,?_,h.db,h.dr,R1 h.dk (fun x hx=>by rw [hn]; exact h.fk hl x hx),h.b5,h.sb,h.r12,h.sr,?_,Bs h.pd (.cons hd .nil),fun l hl'=>?_,?_⟩
 ·show ∀ x∈S.bs,∃ i,i<_/\_
  rw [el]
  exact Ez (f:=fun x:Str × Nat=>x.1) h.nb
 ·show ∀ x∈S.rk,∃ i,i<_/\_
  rw [el]
  exact Ez (f:=fun x:Str × Nat × Int=>x.1) h.nr
 ·show ∀ x∈S.ks++_,∃ i,i<_/\_
  rw [el]
  exact Ny (f:=fun x:R=>x.nm) h.nk hn
 ·show (S.ks++[r]).length<=_
  rw [el]
  have:=h.lk
  simp
  omega
 ·obtain ⟨g1,g2⟩:=h.ch l hl'
  refine ⟨g1,fun i hi=>?_⟩
  obtain ⟨k,g3,g4⟩:=g2 i hi
  exact ⟨k,by rw [List.getElem?_append_left (List.getElem?_eq_some_iff.mp g3).1]; exact g3,g4⟩
 ·rcases hop with z | ⟨b,L,x,rfl,g1,g2,g3⟩
  ·exact .inl z
  ·exact .inr ⟨S.ds,b,L,x,S.ls,[],rfl,rfl,g1,g2,g3⟩
theorem Df.line (F:Qo K aB aP aM) (hb:Gq base) (h:Df K aB aP aM base S lo) {ds0:List Dt} {b:Nat} {L:Addr} {x:Str × Nat} {ls0:List (List Ln)} {l0:List Ln} (e1:S.ds=ds0++[.stop b L]) (e2:S.ls=ls0++[l0]) (hx:S.bs[b]? = some x) (hT:Tl S.rows x.1 l0.length) (h4:l0.length<4)
  {j:Nat} {r:Str × Nat × Int} {sh lw hi:Int} (hj:S.rk[j]? = some r) (hle:lw<=hi) (hn:hi<(x.2:Int)) (b1 : -200<=sh) (b2:sh<=200) (b3:0<=lw):Df K aB aP aM base { S with ls:=ls0++[l0++[⟨j,sh,lw,hi⟩]],rows:=S.rows++[⟨"line",r.1,[.int sh,.int lw,.int hi]⟩] } (.ref L):=by
 have el:(S.rows++[(⟨"line",r.1,[.int sh,.int lw,.int hi]⟩:R)]).length=S.rows.length+1:=by simp
 have hxs:=h.sb x (List.mem_of_getElem? hx)
 have hB:=h.bl
 rw [e2] at hB
 have ht:isNm r.1:=by
  obtain ⟨i,_,e⟩:=h.nr r (List.mem_of_getElem? hj)
  rw [e]
  exact Ew hb i
 refine ⟨hB.line F hT h4 (m:=r.2.1) (wi:=r.2.2) hj h.dr ht (n:=x.2) (List.mem_of_getElem? hx) hle hn b1 b2 b3 (by omega),?_,?_,?_,h.db,h.dr,h.dk,h.b5,h.sb,h.r12,h.sr,?_,h.pd,h.ch,.inr ⟨ds0,b,L,x,ls0,_,e1,rfl,rfl,hx,?_⟩⟩
 ·show ∀ x∈S.bs,∃ i,i<_/\_
  rw [el]
  exact Ez (f:=fun x:Str × Nat=>x.1) h.nb
 ·show ∀ x∈S.rk,∃ i,i<_/\_
  rw [el]
  exact Ez (f:=fun x:Str × Nat × Int=>x.1) h.nr
 ·show ∀ x∈S.ks,∃ i,i<_/\_
  rw [el]
  exact Ez (f:=fun x:R=>x.nm) h.nk
 ·show S.ks.length<=_
  rw [el]
  have:=h.lk
  omega
 ·rw [List.length_append,List.length_singleton]
  exact hT.line rfl
theorem Vo {ks:List R} (nd:(ks.map (·.nm)).Nodup) {i:Nat} {k:R} (h:ks[i]? = some k):(ks.map (·.nm)).idxOf k.nm=i:=by
 have hi:i<(ks.map (·.nm)).length:=by rw [List.length_map]; exact (List.getElem?_eq_some_iff.mp h).1
 have e:(ks.map (·.nm))[i]=k.nm:=by
  rw [List.getElem_map]
  exact congrArg (·.nm) (List.getElem?_eq_some_iff.mp h).2
 rw [← e]
 exact nd.idxOf_getElem i hi
noncomputable def Ie (ks:List R) (i:Nat):Str:=((ks[i]?).map (·.nm)).getD ""
theorem Ng {ks:List R} {i:Nat} {k:R} (h:ks[i]? = some k):Ie ks i=k.nm:=by unfold Ie; rw [h]; rfl
theorem Df.step (hM:∃ t,PySem.W.nsIn K aM "step" = some (some (.int 12 t))) (hb:Gq base) (h:Df K aB aP aM base S lo) {i0:Nat} {c:List Nat} (nd:(i0::c).Nodup) (h24:(i0::c).length<=24) (hc:∀ i∈i0::c,∃ k,S.ks[i]? = some k/\k.w = "stop") (h12:S.ch.length<12) :
  Df K aB aP aM base { S with ch:=S.ch++[i0::c],rows:=S.rows++[⟨"step",Ie S.ks i0,(c.map (Ie S.ks)).map V.str⟩] } .non:=by
 have el:(S.rows++[(⟨"step",Ie S.ks i0,(c.map (Ie S.ks)).map V.str⟩:R)]).length=S.rows.length+1:=by simp
 have ix:∀ i∈i0::c,(S.ks.map (·.nm)).idxOf (Ie S.ks i)=i:=fun i hi=>by
  obtain ⟨k,g1,_⟩:=hc i hi
  rw [Ng g1]
  exact Vo h.dk g1
 have hB:=h.bl.step (t0:=Ie S.ks i0) (ts:=c.map (Ie S.ks)) hM ?_ (by simpa using h24) ?_ (by rw [List.length_map]; exact h12)
 ·have e3:((Ie S.ks i0::c.map (Ie S.ks)).map fun t=>(S.ks.map (·.nm)).idxOf t)=i0::c:=by
   show (((i0::c).map (Ie S.ks)).map fun t=>(S.ks.map (·.nm)).idxOf t)=_
   rw [List.map_map]
   have:(i0::c).map ((fun t=>(S.ks.map (·.nm)).idxOf t) ∘ Ie S.ks)=(i0::c).map id:=List.map_congr_left fun i hi=>ix i hi
   rw [this,List.map_id]
  rw [e3] at hB
  refine ⟨by show Gu _ _ _ _ _ _ _ _ _ ((S.ch++[i0::c]).map Wd.mk); rw [List.map_append]; exact hB,?_,?_,?_,h.db,h.dr,h.dk,h.b5,h.sb,h.r12,h.sr,?_,h.pd,fun l hl=>?_,.inl rfl⟩
  ·show ∀ x∈S.bs,∃ i,i<_/\_
   rw [el]
   exact Ez (f:=fun x:Str × Nat=>x.1) h.nb
  ·show ∀ x∈S.rk,∃ i,i<_/\_
   rw [el]
   exact Ez (f:=fun x:Str × Nat × Int=>x.1) h.nr
  ·show ∀ x∈S.ks,∃ i,i<_/\_
   rw [el]
   exact Ez (f:=fun x:R=>x.nm) h.nk
  ·show S.ks.length<=_
   rw [el]
   have:=h.lk
   omega
  ·rcases List.mem_append.mp hl with z | z
   ·exact h.ch l z
   ·rw [List.mem_singleton.mp z]
    exact ⟨nd,hc⟩
 ·show ((i0::c).map (Ie S.ks)).Nodup
  refine List.Pairwise.of_map (S:=(· ≠ ·)) (fun t=>(S.ks.map (·.nm)).idxOf t) (fun a b h e=>h (by rw [e])) ?_
  rw [List.map_map]
  have:(i0::c).map ((fun t=>(S.ks.map (·.nm)).idxOf t) ∘ Ie S.ks)=(i0::c).map id:=List.map_congr_left fun i hi=>ix i hi
  rw [this,List.map_id]
  exact nd
 ·intro t ht
  obtain ⟨i,hi,rfl⟩:=List.mem_map.mp (show t∈(i0::c).map (Ie S.ks) from ht)
  obtain ⟨k,g1,g2⟩:=hc i hi
  rw [Ng g1]
  obtain ⟨m,_,e⟩:=h.nk k (List.mem_of_getElem? g1)
  exact ⟨by rw [e]; exact Ew hb m,k,List.mem_of_getElem? g1,g2,rfl⟩
theorem GF {α β:Type} {F:α->β->Prop}:∀ {l:List α} {vs:List β},Paired F l vs->∀ a∈l,∃ b∈vs,F a b
 | [],_,h,a,ha=>nomatch ha
 | x::l,_,h,a,ha=>by
  cases h with
  | cons z y =>
   rcases List.mem_cons.mp ha with rfl | h'
   ·exact ⟨_,List.mem_cons_self ..,z⟩
   ·obtain ⟨b,hb,e⟩:=GF y a h'
    exact ⟨b,List.mem_cons_of_mem _ hb,e⟩
theorem Be.old {H0 H:Hp} {A:Ji} {S:Pl} {Cs:List Addr} {lo:V} (h:Be H0 H A S Cs lo) {L:Addr} (hL:H L=none):H0 L=none/\L ∉ A.r::A.b::A.k::A.n::A.d::A.s::(S.Ls++Cs):=by
 refine ⟨h.sm.free hL,fun hm=>?_⟩
 have key:∃ o,H L=some o:=by
  obtain ⟨vd,d1,d2,d3⟩:=h.d
  simp only [List.mem_cons,List.mem_append] at hm
  rcases hm with rfl | rfl | rfl | rfl | rfl | rfl | z | z
  ·obtain ⟨v,e,_⟩:=h.r
   exact ⟨_,e⟩
  ·obtain ⟨v,e,_⟩:=h.b
   exact ⟨_,e⟩
  ·obtain ⟨v,e,_⟩:=h.k
   exact ⟨_,e⟩
  ·obtain ⟨v,e,_⟩:=h.n
   exact ⟨_,e⟩
  ·exact ⟨_,d1⟩
  ·exact ⟨_,h.s⟩
  ·obtain ⟨d,hd,hL'⟩:=List.mem_flatMap.mp z
   obtain ⟨i,hi,e⟩:=List.getElem_of_mem hd
   have hz:(d,S.ls[i]'(by omega))∈S.ds.zip S.ls:=by
    refine List.mem_iff_getElem.mpr ⟨i,by rw [List.length_zip]; omega,?_⟩
    rw [List.getElem_zip,e]
   obtain ⟨v,_,q⟩:=GF d3 _ hz
   cases d with
   | stop b L1 =>
    obtain rfl:=List.mem_singleton.mp hL'
    obtain ⟨_,ts,e,_⟩:=q
    exact ⟨_,e⟩
   | coup a b s=>exact nomatch hL'
   | mute b=>exact nomatch hL'
  ·obtain ⟨l,_,q⟩:=GF h.c _ z
   exact ⟨_,q⟩
 obtain ⟨o,e⟩:=key
 rw [hL] at e
 cases e
theorem Df.dw {K:PySem.W.Frag} {aB aP aM:Addr} {bb:Str} {S:Pl} {lo:V} (h:Df K aB aP aM bb S lo) (hb:Gq bb) {i:Nat} {x:Str × Nat} (hx:S.bs[i]? = some x):isNm x.1:=by
 obtain ⟨m,_,e⟩:=h.nb x (List.mem_of_getElem? hx)
 rw [e]
 exact Ew hb m
noncomputable abbrev Np (l:List Nat):List V:=l.map fun n:Nat=>V.int (n:Int)
theorem Sq (l:List Nat):(Np l).all Fe=true:=List.all_eq_true.mpr fun v hv=>by
 obtain ⟨n,_,rfl⟩:=List.mem_map.mp hv
 rfl
theorem UT (j:Nat) (js:List Nat):inV (.int (j:Nat)) (Np js)=decide (j∈js):=by
 rw [Bool.eq_iff_iff,decide_eq_true_eq]
 unfold inV
 rw [List.any_eq_true]
 constructor
 ·rintro ⟨y,hy,e⟩
  obtain ⟨n,hn,rfl⟩:=List.mem_map.mp hy
  have e':(((n:Nat):Int) == ((j:Nat):Int))=true:=e
  have e2:((n:Nat):Int)=(j:Nat):=eq_of_beq e'
  have:n=j:=by omega
  subst this
  exact hn
 ·intro h
  exact ⟨_,List.mem_map_of_mem h,by show (((j:Nat):Int) == ((j:Nat):Int))=true; exact beq_self_eq_true _⟩
noncomputable def TY (ks:List R) (i:Nat):Bool:=match ks[i]? with
 | some k=>decide (V.str k.w=V.str "stop")
 | none=>false
noncomputable def Ij (ks:List R):List Nat:=(List.range ks.length).filter (TY ks)
theorem Lx {ks:List R} {i:Nat} (h:i∈Ij ks):∃ k,ks[i]? = some k/\k.w = "stop":=by
 have h2:=(List.mem_filter.mp h).2
 unfold TY at h2
 split at h2
 ·exact ⟨_,by assumption,V.str.inj (of_decide_eq_true h2)⟩
 ·cases h2
theorem S5 {ks:List R} (h:0<(ks.filter fun r=>decide (V.str r.w=V.str "stop")).length):0<(Ij ks).length:=by
 obtain ⟨r,hr⟩:=List.exists_mem_of_length_pos h
 obtain ⟨h1,h2⟩:=List.mem_filter.mp hr
 obtain ⟨i,hi,e⟩:=List.getElem_of_mem h1
 refine List.length_pos_of_mem (a:=i) (List.mem_filter.mpr ⟨List.mem_range.mpr hi,?_⟩)
 unfold TY
 rw [List.getElem?_eq_getElem hi,e]
 exact h2
noncomputable def fD (ks:List R):V->V
 | .int i=>.str (Ie ks i.toNat)
 | _=>.non
theorem Qj (ns:List Int) {lo hi:Int} (h0:0<=lo) (h1:lo<=hi):∃ ms:List Int,En (ns.map V.int) (some lo) (some hi)=ms.map V.int/\(ms.length:Int)<=hi - lo:=by
 obtain ⟨a,rfl⟩:=Int.eq_ofNat_of_zero_le h0
 obtain ⟨b,rfl⟩:=Int.eq_ofNat_of_zero_le (show 0<=hi by omega)
 unfold En
 refine ⟨(ns.drop (HT.DY (ns.map V.int).length 0 (some (a:Int)))).take (HT.DY (ns.map V.int).length (ns.map V.int).length (some (b:Int)) - HT.DY (ns.map V.int).length 0 (some (a:Int))),?_,?_⟩
 ·rw [← List.map_drop,← List.map_take]
 ·rw [List.length_take,List.length_drop,HT.Es,HT.Es]
  omega
noncomputable abbrev Hw (a1 a2 a3 a4 a5 a6:Addr):List (Key × V):=[(Sum.inr "rows",.ref a1),(Sum.inr "boards",.ref a2),(Sum.inr "ranks",.ref a3),(Sum.inr "knobs",.ref a4),(Sum.inr "details",.ref a5),(Sum.inr "steps",.ref a6),(Sum.inr "lines",.non)]
theorem Be.new {H H7:Hp} {p a1 a2 a3 a4 a5 a6:Addr} (s:Ao H H7) (f0:H p=none) (f1:H a1=none) (f2:H a2=none) (f3:H a3=none) (f4:H a4=none) (f5:H a5=none) (f6:H a6=none) (e0:H7 p=some (.dK []))
  (e1:H7 a1=some (.lst [])) (e2:H7 a2=some (.lst [])) (e3:H7 a3=some (.lst [])) (e4:H7 a4=some (.lst [])) (e5:H7 a5=some (.lst [])) (e6:H7 a6=some (.lst [])) (nd:[a1,a2,a3,a4,a5,a6].Nodup) :
  Be H (upd H7 p (.dK (Cu [] (Hw a1 a2 a3 a4 a5 a6)))) ⟨p,a1,a2,a3,a4,a5,a6⟩ ⟨[],[],[],[],[],[],[]⟩ [] .non:=by
 have lt:∀ {a:Addr},H7 a=some (.lst [])->upd H7 p (.dK (Cu [] (Hw a1 a2 a3 a4 a5 a6))) a=some (.lst []):=fun {a} h=>by
  rw [An (Lb h e0 (by intro z; cases z))]
  exact h
 have em:Cu [] (Hw a1 a2 a3 a4 a5 a6)=putK (putK (putK (putK (putK (putK (putK [] (Sum.inr ("rows" : Str):Key) (.ref a1)) (Sum.inr ("boards" : Str):Key) (.ref a2)) (Sum.inr ("ranks" : Str):Key) (.ref a3)) (Sum.inr ("knobs" : Str):Key) (.ref a4)) (Sum.inr ("details" : Str):Key) (.ref a5)) (Sum.inr ("steps" : Str):Key) (.ref a6)) (Sum.inr ("lines" : Str):Key) .non:=by
  simp only [Cu,Hw,List.foldl_cons,List.foldl_nil]
 have w0:CJ (Cu [] (Hw a1 a2 a3 a4 a5 a6)) (Sum.inr ("rows" : Str):Key)=some (.ref a1):=by
  rw [em,BV,if_neg (by decide +kernel),BV,if_neg (by decide +kernel),BV,if_neg (by decide +kernel),BV,if_neg (by decide +kernel),BV,if_neg (by decide +kernel),BV,if_neg (by decide +kernel),BV,if_pos rfl]
 have w1:CJ (Cu [] (Hw a1 a2 a3 a4 a5 a6)) (Sum.inr ("boards" : Str):Key)=some (.ref a2):=by
  rw [em,BV,if_neg (by decide +kernel),BV,if_neg (by decide +kernel),BV,if_neg (by decide +kernel),BV,if_neg (by decide +kernel),BV,if_neg (by decide +kernel),BV,if_pos rfl]
 have w2:CJ (Cu [] (Hw a1 a2 a3 a4 a5 a6)) (Sum.inr ("ranks" : Str):Key)=some (.ref a3):=by
  rw [em,BV,if_neg (by decide +kernel),BV,if_neg (by decide +kernel),BV,if_neg (by decide +kernel),BV,if_neg (by decide +kernel),BV,if_pos rfl]
 have w3:CJ (Cu [] (Hw a1 a2 a3 a4 a5 a6)) (Sum.inr ("knobs" : Str):Key)=some (.ref a4):=by
  rw [em,BV,if_neg (by decide +kernel),BV,if_neg (by decide +kernel),BV,if_neg (by decide +kernel),BV,if_pos rfl]
 have w4:CJ (Cu [] (Hw a1 a2 a3 a4 a5 a6)) (Sum.inr ("details" : Str):Key)=some (.ref a5):=by
  rw [em,BV,if_neg (by decide +kernel),BV,if_neg (by decide +kernel),BV,if_pos rfl]
 have w5:CJ (Cu [] (Hw a1 a2 a3 a4 a5 a6)) (Sum.inr ("steps" : Str):Key)=some (.ref a6):=by
  rw [em,BV,if_neg (by decide +kernel),BV,if_pos rfl]
 have w6:CJ (Cu [] (Hw a1 a2 a3 a4 a5 a6)) (Sum.inr ("lines" : Str):Key)=some (.non):=by
  rw [em,BV,if_pos rfl]
 have w7:(Cu [] (Hw a1 a2 a3 a4 a5 a6)).length<=7:=by
  rw [em]
  refine Nat.le_trans (Bt _ _ _) (Nat.succ_le_succ ?_)
  refine Nat.le_trans (Bt _ _ _) (Nat.succ_le_succ ?_)
  refine Nat.le_trans (Bt _ _ _) (Nat.succ_le_succ ?_)
  refine Nat.le_trans (Bt _ _ _) (Nat.succ_le_succ ?_)
  refine Nat.le_trans (Bt _ _ _) (Nat.succ_le_succ ?_)
  refine Nat.le_trans (Bt _ _ _) (Nat.succ_le_succ ?_)
  exact Bt _ _ _
 refine ⟨⟨_,Ah,w7,w0,w1,w2,w3,w4,w5,w6⟩,nd,DQ s f0,f0,?_,⟨[],lt e1,.nil⟩,⟨[],lt e2,.nil⟩,⟨[],lt e3,.nil⟩,⟨[],lt e4,.nil⟩,⟨[],lt e5,rfl,.nil⟩,lt e6,.nil⟩
 intro a ha
 simp only [List.mem_cons] at ha
 rcases ha with rfl | rfl | rfl | rfl | rfl | rfl | z
 ·exact f1
 ·exact f2
 ·exact f3
 ·exact f4
 ·exact f5
 ·exact f6
 ·exact nomatch z
theorem Df.new (bb:Str):Df K aB aP aM bb ⟨[],[],[],[],[],[],[]⟩ .non :=
 ⟨Gu.nil,(fun _ z=>nomatch z),(fun _ z=>nomatch z),(fun _ z=>nomatch z),List.nodup_nil,List.nodup_nil,List.nodup_nil,Nat.zero_le _,(fun _ z=>nomatch z),Nat.zero_le _,(fun _ z=>nomatch z),Nat.le_refl _,.nil,(fun _ z=>nomatch z),.inl rfl⟩
theorem Be.stand {H0 H:Hp} {A:Ji} {S:Pl} {Cs:List Addr} {lo:V} {q:Addr} {o:HO} (h:Be H0 H A S Cs lo) (hq:H q=some o) (hp:A.p ≠ q) (hn:∀ a∈A.r::A.b::A.k::A.n::A.d::A.s::S.Ls,a ≠ q):Be (upd H0 q o) H A S Cs lo:=by
 refine ⟨h.dp,h.nd,fun b u e=>?_,by rw [An hp]; exact h.f0,fun a ha=>by rw [An (hn a ha)]; exact h.fr a ha,h.r,h.b,h.k,h.n,h.d,h.s,h.c⟩
 by_cases z:b=q
 ·subst z
  rw [Ah] at e
  rw [hq,← e]
 ·rw [An z] at e
  exact h.sm _ _ e
theorem Be.weak {H0 H:Hp} {A:Ji} {S:Pl} {Cs:List Addr} {lo:V} {q:Addr} {o:HO} (h:Be (upd H0 q o) H A S Cs lo) (h0:H0 q=none):Be H0 H A S Cs lo:=by
 have s0:Ao H0 (upd H0 q o):=Ax h0
 exact ⟨h.dp,h.nd,s0.trans h.sm,s0.free h.f0,fun a ha=>s0.free (h.fr a ha),h.r,h.b,h.k,h.n,h.d,h.s,h.c⟩
theorem gB (z:Str):inV (.str z) [.str "stop",.str "line"]=true ↔ z = "stop" \/ z = "line":=by
 unfold inV
 simp [QC]
 constructor
 ·rintro (h | h)
  ·exact .inl h.symm
  ·exact .inr h.symm
 ·rintro (h | h)
  ·exact .inl h.symm
  ·exact .inr h.symm
end
end Og
namespace L2
open PySem PySem.Spec PySem.Calls PyProof.Rows
section
variable {X:Cx}
end
end L2
namespace L2
open PySem PySem.Spec PySem.Calls PyProof.Rows
section
variable {X:Cx}
end
end L2
namespace L2
open PySem PySem.Spec PyProof.Rows
end L2
namespace L2
open PySem PySem.Spec PyProof.Rows
section
variable {X:Cx} {pins:List (Addr × Obj)} {σ:St} {H:Hp} {s:Shared} {x z:Str} {scope:Scope} {fp:List Addr} {C:Addr}
end
section
variable {X:Cx} {x z:Str} {scope:Scope}
end
section
variable {X:Cx} {x z:Str} {scope:Scope}
end
end L2
namespace L2
open PySem PySem.Spec PySem.Calls PyProof.Rows
theorem Jx {X:Cx} (hu:X.A.units<cLine):Gp X (compareOp .Eq) (fun x y H Q=>∃ p q xs,x=V.ref p/\y=V.ref q/\Cp X.K H p xs/\Cp X.K H q []/\Q (.bl xs.isEmpty) H):=by
 intro pins s σ H x y v u Q I rx ry h
 obtain ⟨p,q,xs,rfl,rfl,hp,hq,k⟩:=h
 cases rx
 cases ry
 obtain ⟨its,r,pl,hz⟩:=I.list hp
 obtain ⟨its2,r2,pl2,hz2⟩:=I.list hq
 have l1:=r.length
 cases r2
 cases xs with
 | nil =>
  cases r
  refine SeqAt.RcAt.lists (e:=fun _=>true) pl.isList pl2.isList rfl hu (fun j h1 h2=>?_) _ _ _ _ ⟨.bl _,H,I,rfl,k⟩
  exact absurd h1 (Nat.not_lt_zero _)
 | cons a b =>
  refine SeqAt.RcAt.lists_lengths pl.isList pl2.isList (by simp; intro z; rw [z] at l1; simp at l1) hu _ _ _ _ ⟨.bl _,H,I,rfl,k⟩
end L2
namespace L2
open PySem PySem.Spec PyProof.Rows
section
variable {X:Cx} {o e f:Expr} {apos cpos:Pos} {td ty tx:TE}
end
end L2
namespace L2
open PySem PySem.Spec PyProof.Rows
theorem Uc {X:Cx} {x:Str} {e:Expr} {te:TE} {pos' pos:Pos} (i:Nat) (hN:X.N.Nodup) (hi:X.N[i]? = some x) (hx:Loc X.env.scope x) (he:PE X e te) (hs:swapsWith e (some (.Name x pos')) pos.line X.env=pure false) (hf:X.fn x=true \/ X.env.scope.names.lookup x=some .local) :
  PS X (.Assign [.Name x pos'] e pos) (V6 te (DR i)):=BP hN hi hx he hs hf
end L2
namespace L2
open PySem PySem.Spec PyProof.Rows
end L2
namespace L2
open PySem PySem.Spec PyProof.Rows
end L2
namespace Og
open PySem L2
theorem Lk (m:Nat):Fz (Nm.mag m)=m:=by
 unfold Nm.mag
 by_cases h:m=0
 ·rw [if_pos h,h]
  rfl
 ·rw [if_neg h]
  exact Nm.Kl m
theorem Wg {i j:Int} (h:Nm.wr i=Nm.wr j):i=j:=by
 have hd:∀ m:Nat,∃ c r,Nm.mag m=c::r/\48<=c:=fun m=>by
  cases e:Nm.mag m with
  | nil =>
   unfold Nm.mag at e
   by_cases h0:m=0
   ·rw [if_pos h0] at e
    cases e
   ·rw [if_neg h0] at e
    obtain ⟨c,r,e2,_⟩:=Nm.Hi m h0
    rw [e2] at e
    cases e
  | cons c r =>
   have:=Nm.O_ (m:=m) (c:=c) (by rw [e]; exact List.mem_cons_self)
   exact ⟨c,r,rfl,this.1⟩
 obtain ⟨c,r,e1,h1⟩:=hd i.natAbs
 obtain ⟨c',r',e2,h2⟩:=hd j.natAbs
 have key:Nm.mag i.natAbs=Nm.mag j.natAbs->i.natAbs=j.natAbs:=fun e=>by
  have:=congrArg Fz e
  rw [Lk,Lk] at this
  exact this
 unfold Nm.wr at h
 by_cases hi:i<0
 ·by_cases hj:j<0
  ·rw [if_pos hi,if_pos hj] at h
   have:=key (List.append_cancel_left h)
   omega
  ·rw [if_pos hi,if_neg hj,e2] at h
   have:=(List.cons.inj h).1
   omega
 ·by_cases hj:j<0
  ·rw [if_neg hi,if_pos hj,e1] at h
   have:=(List.cons.inj h).1
   omega
  ·rw [if_neg hi,if_neg hj] at h
   have:=key (List.append_cancel_left h)
   omega
open Classical in
noncomputable def rdV:V->V
 | .str z=>if h:∃ i:Int,LL z=Nm.wr i then .int h.choose else .str z
 | v=>v
open Classical in
theorem Qq {x:V} (h:Ko x):rdV (.str (Fx x))=x:=by
 rcases h with ⟨t,rfl,h⟩ | ⟨i,rfl,h⟩
 ·refine dif_neg fun ⟨i,e⟩=>?_
  have h1:=h.1
  rw [Fy] at h1
  cases el:LL t with
  | nil=>rw [el] at h1; cases h1
  | cons c r =>
   have hc:=h.2.2 c (by show c∈LL t; rw [el]; exact List.mem_cons_self)
   have hw:c∈Nm.wr i:=by rw [← e]; show c∈LL t; rw [el]; exact List.mem_cons_self
   rcases Nm.Nt hw with e | e
   ·omega
   ·unfold Ec at e
    omega
 ·have hx:∃ j:Int,LL (Fx (.int i))=Nm.wr j:=⟨i,str_int i⟩
  show (if h:∃ j:Int,LL (Fx (.int i))=Nm.wr j then V.int h.choose else V.str (Fx (.int i)))=V.int i
  rw [dif_pos hx]
  exact congrArg V.int (Wg (hx.choose_spec.symm.trans (str_int i)))
noncomputable def rdR:V->List V
 | .str z=>(Txt.split z " ").map fun t=>rdV (.str t)
 | _=>[]
theorem Qu {vs:List V} (h:∀ x∈vs,Ko x) (hn:vs ≠ []):rdR (.str (Dm vs))=vs:=by
 show (Txt.split (Dm vs) " ").map (fun t=>rdV (.str t))=vs
 rw [JF h hn,List.map_map]
 have:vs.map ((fun t=>rdV (.str t)) ∘ Fx)=vs.map id:=List.map_congr_left fun x hx=>Qq (h x hx)
 rw [this,List.map_id]
theorem Wf {i:Int} (h:i.natAbs<10 ^ 12):i.natAbs.log2<1920:=by
 by_cases h0:i.natAbs=0
 ·rw [h0]
  decide
 ·have:i.natAbs<2 ^ 40:=Nat.lt_of_lt_of_le h (by decide)
  have:=(Nat.log2_lt h0).mpr this
  omega
end Og
namespace L2
open PySem PySem.Spec PyProof.Rows
noncomputable def Dp:Nat->Hp->V->V->Prop
 | 0,_,x,y=>x=y/\Fe x=true
 | n+1,H,x,y=>(x=y/\Fe x=true) \/ ∃ a b xs ys,x=V.ref a/\y=V.ref b/\((H a=some (.lst xs)/\H b=some (.lst ys)) \/ (H a=some (.tup xs)/\H b=some (.tup ys)))/\Paired (Dp n H) xs ys
theorem D_ {R:V->V->Prop}:∀ {xs ys:List V},Paired R xs ys->∀ j,j<xs.length->R (xs.getD j .non) (ys.getD j .non)
 | _,_,.nil,j,h=>absurd h (Nat.not_lt_zero _)
 | _,_,.cons a b,0,_=>a
 | _,_,.cons a b,j+1,h=>D_ b j (Nat.lt_of_succ_lt_succ h)
section
variable {X:Cx} {pins:List (Addr × Obj)} {σ:St} {H:Hp} {s:Shared}
theorem Im (I:Inv X pins σ H s):∀ (n:Nat) (A:Around) (x y:V) (u v:Value),A.units+n<cLine->Dp n H x y->RelV x u->RelV y v->SeqAt.EqAt A s u v true
 | 0,A,x,y,u,v,hu,h,rx,ry=>by
  obtain ⟨rfl,hf⟩:=h
  have:=M9 (A:=A) (s:=s) rx ry hf hf
  rw [Mm hf] at this
  exact this
 | n+1,A,x,y,u,v,hu,h,rx,ry=>by
  rcases h with ⟨rfl,hf⟩ | ⟨a,b,xs,ys,rfl,rfl,hab,p⟩
  ·have:=M9 (A:=A) (s:=s) rx ry hf hf
   rw [Mm hf] at this
   exact this
  ·cases rx
   cases ry
   by_cases hne:a=b
   ·subst hne
    exact SeqAt.EqAt.same _
   ·refine SeqAt.EqAt.of_refs hne ?_
    have pl:=p.length
    rcases hab with ⟨ha,hb⟩ | ⟨ha,hb⟩
    ·obtain ⟨i1,r1,p1,_⟩:=I.list (show Cp X.K H a xs from .inl (.inl ha))
     obtain ⟨i2,r2,p2,_⟩:=I.list (show Cp X.K H b ys from .inl (.inl hb))
     have l1:=r1.length
     have l2:=r2.length
     have h:=SeqAt.RcAt.lists (A:=A) (e:=fun _=>true) p1.isList p2.isList (by simp; omega) (by omega) (fun j h1 h2=>by
      have h1':j<i1.length:=by simpa using h1
      have h2':j<i2.length:=by simpa using h2
      simp only [List.getElem_toArray]
      exact Im I n A.in1 _ _ _ _ (by show A.units+1+n<cLine; omega) (D_ p j (by omega)) (GQ r1 h1') (GQ r2 h2'))
     have e:((List.range i1.toArray.size).all fun _=>true)=true:=List.all_eq_true.mpr fun _ _=>rfl
     rw [e] at h
     exact h
    ·obtain ⟨i1,r1,p1,_⟩:=I.tuple (show Ey X.K H a xs from .inl (.inl ha))
     obtain ⟨i2,r2,p2,_⟩:=I.tuple (show Ey X.K H b ys from .inl (.inl hb))
     have l1:=r1.length
     have l2:=r2.length
     have h:=SeqAt.RcAt.tuples (A:=A) (e:=fun _=>true) p1 p2 (by omega) (fun j h1 h2=>by
      have h1':j<i1.length:=by simpa using h1
      have h2':j<i2.length:=by simpa using h2
      simp only [List.getElem_toArray]
      exact Im I n A.in1 _ _ _ _ (by show A.units+1+n<cLine; omega) (D_ p j (by omega)) (GQ r1 h1') (GQ r2 h2'))
     have e:((List.range (min i1.toArray.size i2.toArray.size)).all fun _=>true)=true:=List.all_eq_true.mpr fun _ _=>rfl
     have e2:(i1.toArray.size == i2.toArray.size)=true:=beq_iff_eq.mpr (by simp; omega)
     rw [e,e2] at h
     exact h
end
section
variable {X:Cx}
theorem Hh (n:Nat) (hu:X.A.units+(n+1)<cLine):Gp X (compareOp .NotEq) (fun x y H Q=>∃ a b,x=V.ref a/\y=V.ref b/\Dp (n+1) H x y/\Q (.bl false) H):=by
 intro pins s σ H x y v u Q I rx ry h
 obtain ⟨a,b,rfl,rfl,h,k⟩:=h
 rcases h with ⟨_,hf⟩ | ⟨a',b',xs,ys,ea,eb,hab,p⟩
 ·cases hf
 cases ea
 cases eb
 cases rx
 cases ry
 have pl:=p.length
 rcases hab with ⟨ha,hb⟩ | ⟨ha,hb⟩
 ·obtain ⟨i1,r1,p1,_⟩:=I.list (show Cp X.K H a xs from .inl (.inl ha))
  obtain ⟨i2,r2,p2,_⟩:=I.list (show Cp X.K H b ys from .inl (.inl hb))
  have l1:=r1.length
  have l2:=r2.length
  refine SeqAt.RcNeAt.lists (e:=fun _=>true) p1.isList p2.isList (by simp; omega) (by omega) (fun j h1 h2=>by
   have h1':j<i1.length:=by simpa using h1
   have h2':j<i2.length:=by simpa using h2
   simp only [List.getElem_toArray]
   exact Im I n X.A.in1 _ _ _ _ (by show X.A.units+1+n<cLine; omega) (D_ p j (by omega)) (GQ r1 h1') (GQ r2 h2')) _ _ _ _ ⟨.bl false,H,I,?_,k⟩
  have e:((List.range i1.toArray.size).all fun _=>true)=true:=List.all_eq_true.mpr fun _ _=>rfl
  rw [e]
  exact rfl
 ·obtain ⟨i1,r1,p1,_⟩:=I.tuple (show Ey X.K H a xs from .inl (.inl ha))
  obtain ⟨i2,r2,p2,_⟩:=I.tuple (show Ey X.K H b ys from .inl (.inl hb))
  have l1:=r1.length
  have l2:=r2.length
  refine SeqAt.RcNeAt.tuples (e:=fun _=>true) p1 p2 (by omega) (fun j h1 h2=>by
   have h1':j<i1.length:=by simpa using h1
   have h2':j<i2.length:=by simpa using h2
   simp only [List.getElem_toArray]
   exact Im I n X.A.in1 _ _ _ _ (by show X.A.units+1+n<cLine; omega) (D_ p j (by omega)) (GQ r1 h1') (GQ r2 h2')) _ _ _ _ ⟨.bl false,H,I,?_,k⟩
  have e:((List.range (min i1.toArray.size i2.toArray.size)).all fun _=>true)=true:=List.all_eq_true.mpr fun _ _=>rfl
  have e2:(i1.toArray.size == i2.toArray.size)=true:=beq_iff_eq.mpr (by simp; omega)
  rw [e,e2]
  exact rfl
end
end L2
namespace Og
open PySem L2
noncomputable def Su (x:V):Prop:=(∃ t,x=.str t) \/ ∃ i,x=.int i
theorem Su.flat {x:V} (h:Su x):Fe x=true:=by
 rcases h with ⟨t,rfl⟩ | ⟨i,rfl⟩ <;> rfl
theorem Mh {H:Hp}:∀ {l:List V},(∀ x∈l,Su x)->Paired (Dp 0 H) l l
 | [],_=>.nil
 | x::l,h=>.cons ⟨rfl,(h x (List.mem_cons_self ..)).flat⟩ (Mh fun y hy=>h y (List.mem_cons_of_mem _ hy))
theorem GX {α:Type} {H:Hp} {f:α->List V}:∀ {l:List α} {xs ys:List V},Paired (fun a y=>TupAt H (f a) y) l xs->Paired (fun a y=>TupAt H (f a) y) l ys->(∀ a∈l,∀ x∈f a,Su x)->Paired (Dp 1 H) xs ys
 | [],_,_,h1,h2,_=>by
  cases h1
  cases h2
  exact .nil
 | a::l,_,_,h1,h2,hp=>by
  cases h1 with
  | cons p q =>
   cases h2 with
   | cons p' q' =>
    obtain ⟨T,rfl,e⟩:=p
    obtain ⟨T',rfl,e'⟩:=p'
    exact .cons (.inr ⟨T,T',_,_,rfl,rfl,.inr ⟨e,e'⟩,Mh (hp a (List.mem_cons_self ..))⟩) (GX q q' fun b hb=>hp b (List.mem_cons_of_mem _ hb))
noncomputable def Up (H:Hp) (vs:List V):Prop:=∀ v∈vs,∃ (T:Addr) (xs:List V),v=.ref T/\H T=some (.tup xs)/\∀ x∈xs,Su x
theorem Up.of {α:Type} {H:Hp} {f:α->List V} {l:List α} {xs:List V} (h:Paired (fun a y=>TupAt H (f a) y) l xs) (hp:∀ a∈l,∀ x∈f a,Su x):Up H xs:=fun v hv=>by
 obtain ⟨a,ha,T,rfl,e⟩:=Cv h hv
 exact ⟨T,_,rfl,e,hp a ha⟩
variable {K:PySem.W.Frag} {aB aP aM:Addr}
noncomputable def MK (rows:List R):V->R
 | .int i=>(rows[i.toNat]?).getD ⟨"","",[]⟩
 | _=>⟨"","",[]⟩
theorem Gu.parts {rows:List R} {bs:List (Str × Nat)} {rk:List (Str × Nat × Int)} {ks:List R} {ls:List (List Ln)} {sts:List Nat} (h:Gu K aB aP aM rows bs rk ks ls sts):∀ r∈rows,∀ x∈r.v,Su x:=by
 have em:((List.range rows.length).map fun i:Nat=>V.int (i:Int)).map (MK rows)=rows:=by
  rw [List.map_map]
  refine List.ext_getElem? fun i=>?_
  rw [List.getElem?_map]
  by_cases hi:i<rows.length
  ·rw [List.getElem?_range hi,List.getElem?_eq_getElem hi]
   show some (MK rows (V.int (i:Int)))=_
   show some ((rows[((i:Nat):Int).toNat]?).getD ⟨"","",[]⟩)=_
   rw [Int.toNat_natCast,List.getElem?_eq_getElem hi]
   rfl
  ·rw [List.getElem?_eq_none (by rw [List.length_range]; omega),List.getElem?_eq_none (by omega)]
   rfl
 have O:=h.ok (MK rows) _ em
 intro r hr
 rw [← em] at hr
 obtain ⟨v,hv,rfl⟩:=List.mem_map.mp hr
 obtain ⟨i,hi,e⟩:=List.getElem_of_mem hv
 have ok:=O.ok i v (by rw [List.getElem?_eq_getElem hi,e])
 generalize MK rows v=r at ok ⊢
 intro x hx
 rcases List.mem_cons.mp (show x∈V.str r.w::(V.str r.nm::r.rest) from hx) with rfl | hx
 ·exact .inl ⟨_,rfl⟩
 rcases ok with ok | ok
 ·obtain ⟨ap,ps,_,_,hlen,_,hps⟩:=ok.parts
  obtain ⟨j,hj,e⟩:=List.getElem_of_mem hx
  have hp:=hps j x ps[j] (by rw [List.getElem?_eq_getElem hj,e]) (List.getElem?_eq_getElem (by omega))
  rcases hp with ⟨i,_,_,_,rfl,_⟩ | hp
  ·exact .inr ⟨_,rfl⟩
  ·rcases hp with ⟨_,_,t,rfl,_⟩ | ⟨_,_,t,rfl,_⟩
   ·exact .inl ⟨t,rfl⟩
   ·exact .inl ⟨t,rfl⟩
 ·obtain ⟨ts,ets,_⟩:=ok.ts
  rw [ets] at hx
  obtain ⟨t,_,rfl⟩:=List.mem_map.mp hx
  exact .inl ⟨t,rfl⟩
end Og
namespace L2
open PySem PySem.Spec PySem.Calls PySem.Builtin PySem.Builtin.Str PyProof.Rows
section
variable {X:Cx}
end
end L2
namespace Og
open PySem L2
noncomputable def Tx (t:Str):Prop:=t.length<=1000/\∀ c∈t.cps.toList,c<128
inductive Qf (H:Hp):V->Prop where
 | non:Qf H .non
 | bl (b:Bool):Qf H (.bl b)
 | int (i:Int):Qf H (.int i)
 | lst {a:Addr} {xs:List V} (h:H a=some (.lst xs)):Qf H (.ref a)
 | tup {a:Addr} {xs:List V} (h:H a=some (.tup xs)):Qf H (.ref a)
 | str {t:Str} (h:Tx t):Qf H (.str t)
end Og
namespace Og
open PySem L2
variable {K:PySem.W.Frag} {aB aP aM:Addr}
theorem Xa {w:Str} (h:gZ w):isNm w:=by
 rcases h with rfl | rfl | rfl | rfl | rfl | rfl | rfl <;> (unfold isNm; decide +kernel)
theorem Gu.a_ {rows:List R} {bs:List (Str × Nat)} {rk:List (Str × Nat × Int)} {ks:List R} {ls:List (List Ln)} {sts:List Nat} (h:Gu K aB aP aM rows bs rk ks ls sts):∀ r∈rows,(∀ x∈r.v,Ko x)/\r.v.length<=30:=by
 have em:((List.range rows.length).map fun i:Nat=>V.int (i:Int)).map (MK rows)=rows:=by
  rw [List.map_map]
  refine List.ext_getElem? fun i=>?_
  rw [List.getElem?_map]
  by_cases hi:i<rows.length
  ·rw [List.getElem?_range hi,List.getElem?_eq_getElem hi]
   show some (MK rows (V.int (i:Int)))=_
   show some ((rows[((i:Nat):Int).toNat]?).getD ⟨"","",[]⟩)=_
   rw [Int.toNat_natCast,List.getElem?_eq_getElem hi]
   rfl
  ·rw [List.getElem?_eq_none (by rw [List.length_range]; omega),List.getElem?_eq_none (by omega)]
   rfl
 have O:=h.ok (MK rows) _ em
 intro r hr
 have hwd:=h.wd r hr
 have hpk:=h.pk r hr
 refine ⟨?_,by show r.rest.length+1+1<=30; omega⟩
 rw [← em] at hr
 obtain ⟨v,hv,rfl⟩:=List.mem_map.mp hr
 obtain ⟨i,hi,e⟩:=List.getElem_of_mem hv
 have ok:=O.ok i v (by rw [List.getElem?_eq_getElem hi,e])
 generalize MK rows v=r at ok hwd hpk ⊢
 intro x hx
 rcases List.mem_cons.mp (show x∈V.str r.w::(V.str r.nm::r.rest) from hx) with rfl | hx
 ·exact .inl ⟨_,rfl,Xa hwd⟩
 rcases ok with ok | ok
 ·obtain ⟨ap,ps,_,_,hlen,_,hps⟩:=ok.parts
  obtain ⟨j,hj,e⟩:=List.getElem_of_mem hx
  have hp:=hps j x ps[j] (by rw [List.getElem?_eq_getElem hj,e]) (List.getElem?_eq_getElem (by omega))
  rcases hp with ⟨i,_,_,_,rfl,_⟩ | hp
  ·exact .inr ⟨_,rfl,hpk.1 _ ((List.mem_cons.mp hx).resolve_left fun e=>by cases e)⟩
  ·rcases hp with ⟨_,_,t,rfl,hn,_⟩ | ⟨_,_,t,rfl,hn,_⟩
   ·exact .inl ⟨t,rfl,hn⟩
   ·exact .inl ⟨t,rfl,hn⟩
 ·obtain ⟨ts,ets,_,_,hts⟩:=ok.ts
  rw [ets] at hx
  obtain ⟨t,ht,rfl⟩:=List.mem_map.mp hx
  exact .inl ⟨t,rfl,(hts t ht).1⟩
end Og
section PartK12a
set_option maxHeartbeats 4000000
namespace K12
open PySem L2 Og
noncomputable def top (i:Nat):Stmt:=PySem.Challenge.pw_windchest_k12_organs_written_and_read.main.body.getD i (.Pass ⟨0,0,0,0⟩)
noncomputable abbrev dI:Stmt:=top 11
noncomputable abbrev X_:Stmt:=top 12
noncomputable abbrev fO:Stmt:=top 13
noncomputable abbrev aO:Stmt:=top 23
noncomputable abbrev aG:Stmt:=top 24
noncomputable abbrev dF:Stmt:=top 25
noncomputable abbrev aj:Stmt:=top 26
noncomputable abbrev aY:Stmt:=top 27
noncomputable abbrev cO:Stmt:=top 28
noncomputable abbrev au:Stmt:=top 29
noncomputable abbrev bu:Stmt:=top 30
noncomputable abbrev aW:Stmt:=top 31
noncomputable abbrev bD:Stmt:=top 32
noncomputable abbrev cU:Stmt:=top 33
noncomputable abbrev cL:Stmt:=top 34
noncomputable abbrev cD:Stmt:=top 35
noncomputable abbrev eU:Stmt:=top 42
noncomputable abbrev az:Stmt:=top 43
noncomputable abbrev cP:Stmt:=top 44
noncomputable abbrev aU:Stmt:=top 45
noncomputable abbrev eF:Stmt:=top 38
noncomputable abbrev aQ:Stmt:=top 39
noncomputable abbrev bJ:Stmt:=top 14
noncomputable abbrev dW:Stmt:=top 15
noncomputable abbrev du:Stmt:=top 48
noncomputable abbrev Z9:Stmt:=top 49
noncomputable abbrev Z6:Stmt:=top 50
noncomputable abbrev aR:Stmt:=top 51
noncomputable abbrev aX:Stmt:=top 52
noncomputable abbrev bz:Stmt:=top 54
noncomputable abbrev cg:Stmt:=top 55
noncomputable abbrev bU:Stmt:=top 56
noncomputable abbrev eN:Stmt:=top 57
noncomputable abbrev cH:Stmt:=top 58
noncomputable abbrev ao:Stmt:=top 59
noncomputable abbrev dN:Stmt:=top 60
noncomputable abbrev fM:Stmt:=top 61
noncomputable abbrev cG:Stmt:=top 62
noncomputable abbrev bh:Stmt:=top 63
noncomputable abbrev dZ:Stmt:=top 64
noncomputable abbrev Zk:Stmt:=top 65
noncomputable abbrev dR:Stmt:=top 66
noncomputable abbrev cN:Stmt:=top 67
noncomputable abbrev dO:Stmt:=top 68
noncomputable abbrev d9:Stmt:=top 69
noncomputable abbrev eE:Stmt:=top 70
noncomputable abbrev S7:Stmt:=inClass (top 46) 0
noncomputable abbrev fJ:Stmt:=inClass (top 46) 2
noncomputable abbrev gq:Stmt:=inClass (top 46) 13
noncomputable abbrev gJ:Stmt:=inClass (top 46) 15
noncomputable abbrev d_:Stmt:=inClass (top 46) 1
noncomputable abbrev bc:Stmt:=inClass (top 46) 3
noncomputable abbrev gj:Stmt:=inClass (top 46) 14
noncomputable abbrev gF:Stmt:=inClass (top 46) 16
noncomputable abbrev gR:Stmt:=inClass (top 46) 17
noncomputable abbrev aJ:Stmt:=inClass (top 46) 4
noncomputable abbrev K7:Stmt:=top 71
structure Txt (K:PySem.W.Frag) (P:Params) (mg:Str->Option Value) (C aN aK aB aP aM:Addr):Prop where
 len:mg "len" = none
 isin:mg "isinstance" = none
 int:mg "int" = none
 bool:mg "bool" = none
 str:mg "str" = none
 list:mg "list" = none
 tuple:mg "tuple" = none
 all:mg "all" = none
 any:mg "any" = none
 sum:mg "sum" = none
 range:mg "range" = none
 zip:mg "zip" = none
 enumerate:mg "enumerate" = none
 max:mg "max" = none
 reversed:mg "reversed" = none
 set:mg "set" = none
 abs:mg "abs" = none
 letters:∃ t,mg "LETTERS" = some (.str letters t)
 mostL:∃ t,mg "MOST_LETTERS" = some (.int 8 t)
 mostR:∃ t,mg "MOST_ROWS" = some (.int 150 t)
 mostLn:∃ t,mg "MOST_LINES" = some (.int 4 t)
 fig:∃ t,mg "FIGURES" = some (.str Ku t)
 mostF:∃ t,mg "MOST_FIGURES" = some (.int 12 t)
 clI:fU K C
 below:∃ t,mg "MEMBERS_BELOW" = some (.int 1200 t)
 mN:mg "NAMED" = some (.ref aN)
 mK:mg "KNOBS" = some (.ref aK)
 mB:mg "BOUNDS" = some (.ref aB)
 mP:mg "PARTS" = some (.ref aP)
 mM:mg "MOST_OF" = some (.ref aM)
 tN:KTup K aN (named.map V.str)
 tK:KTup K aK [.str "stop",.str "coupler",.str "mute"]
 dB:KDict K P aB
 dP:KDict K P aP
 dM:KDict K P aM
 cl:S8 K C
 mC:mg "Organ" = some (.ref C)
 n_row_list:Cr K C "row_list"
 n_board_list:Cr K C "board_list"
 n_rank_list:Cr K C "rank_list"
 n_knob_rows:Cr K C "knob_rows"
 n_board_numbers:Cr K C "board_numbers"
 n_rank_numbers:Cr K C "rank_numbers"
 n_knob_numbers:Cr K C "knob_numbers"
 n_key_places:Cr K C "key_places"
 n_pipe_places:Cr K C "pipe_places"
 n_knob_lines:Cr K C "knob_lines"
 n_step_sets:Cr K C "step_sets"
set_option genInjectivity false in
set_option genSizeOf false in
set_option genSizeOfSpec false in
structure Ad where
 (fWh fMd fNm fRo fTo fWi fPa fHp fCl fIk fSb fIs fWm fHr fIr fCk fNu fPl fLi fSs fMy fSt fIn fNo fRp fRr fRg fSr fSg fCe fLw fMi fNn fBb fMa fLb fLk fLs fLl fLc fLt fLr fLp fWr fTx fRa fOi fOb fBk fOp fOw fOr fOs fOm fOy fOz:Addr)
 (dWh dMd dNm dRo dTo dWi dPa dHp dCl dIk dSb dIs dWm dHr dIr dCk dNu dPl dLi dSs dMy dSt dIn dNo dRp dRr dRg dSr dSg dCe dLw dMi dNn dBb dMa dLb dLk dLs dLl dLc dLt dLr dLp dWr dTx dRa dOi dOb dBk dOp dOw dOr dOs dOm dOy dOz:FuncData)
structure bY (K:PySem.W.Frag) (mg:Str->Option Value) (C:Addr) (aD:Ad):Prop where
 FWh:DK K "is_whole" "is_whole" dI aD.fWh aD.dWh∧Binds K aD.dWh ["thing"] []∧mg "is_whole" = some (.ref aD.fWh)
 FMd:DK K "is_made_of" "is_made_of" X_ aD.fMd aD.dMd∧Binds K aD.dMd ["text","signs","most"] []∧mg "is_made_of" = some (.ref aD.fMd)
 FNm:DK K "is_name" "is_name" fO aD.fNm aD.dNm∧Binds K aD.dNm ["thing"] []∧mg "is_name" = some (.ref aD.fNm)
 FRo:DK K "rows_of" "rows_of" aO aD.fRo aD.dRo∧Binds K aD.dRo ["rows","word"] []∧mg "rows_of" = some (.ref aD.fRo)
 FTo:DK K "is_told" "is_told" aG aD.fTo aD.dTo∧Binds K aD.dTo ["rows","word","thing"] []∧mg "is_told" = some (.ref aD.fTo)
 FWi:DK K "is_within" "is_within" dF aD.fWi aD.dWi∧Binds K aD.dWi ["thing","bounds"] []∧mg "is_within" = some (.ref aD.fWi)
 FPa:DK K "is_part" "is_part" aj aD.fPa aD.dPa∧Binds K aD.dPa ["thing","part","ahead"] []∧mg "is_part" = some (.ref aD.fPa)
 FHp:DK K "has_parts" "has_parts" aY aD.fHp aD.dHp∧Binds K aD.dHp ["row","ahead"] []∧mg "has_parts" = some (.ref aD.fHp)
 FCl:DK K "count_of_last_lines" "count_of_last_lines" cO aD.fCl aD.dCl∧Binds K aD.dCl ["rows"] []∧mg "count_of_last_lines" = some (.ref aD.fCl)
 FIk:DK K "is_key_of" "is_key_of" au aD.fIk aD.dIk∧Binds K aD.dIk ["number","board","ahead"] []∧mg "is_key_of" = some (.ref aD.fIk)
 FSb:DK K "stands_behind_stop" "stands_behind_stop" bu aD.fSb aD.dSb∧Binds K aD.dSb ["line","ahead"] []∧mg "stands_behind_stop" = some (.ref aD.fSb)
 FIs:DK K "is_step" "is_step" aW aD.fIs aD.dIs∧Binds K aD.dIs ["row","ahead"] []∧mg "is_step" = some (.ref aD.fIs)
 FWm:DK K "is_well_made" "is_well_made" bD aD.fWm aD.dWm∧Binds K aD.dWm ["row","ahead"] []∧mg "is_well_made" = some (.ref aD.fWm)
 FHr:DK K "has_room" "has_room" cU aD.fHr aD.dHr∧Binds K aD.dHr ["word","ahead"] []∧mg "has_room" = some (.ref aD.fHr)
 FIr:DK K "is_row" "is_row" cL aD.fIr aD.dIr∧Binds K aD.dIr ["thing","ahead"] []∧mg "is_row" = some (.ref aD.fIr)
 FCk:DK K "check_rows" "check_rows" cD aD.fCk aD.dCk∧Binds K aD.dCk ["rows"] []∧mg "check_rows" = some (.ref aD.fCk)
 FNu:DK K "numbers_of" "numbers_of" eU aD.fNu aD.dNu∧Binds K aD.dNu ["names"] []∧mg "numbers_of" = some (.ref aD.fNu)
 FPl:DK K "places_of" "places_of" az aD.fPl aD.dPl∧Binds K aD.dPl ["things"] []∧mg "places_of" = some (.ref aD.fPl)
 FLi:DK K "lines_by_knob" "lines_by_knob" cP aD.fLi aD.dLi∧Binds K aD.dLi ["rows","rank_numbers"] []∧mg "lines_by_knob" = some (.ref aD.fLi)
 FSs:DK K "set_of_step" "set_of_step" aU aD.fSs aD.dSs∧Binds K aD.dSs ["row","knob_numbers"] []∧mg "set_of_step" = some (.ref aD.fSs)
 FMy:DK K "may_be_member" "may_be_member" eF aD.fMy aD.dMy∧Binds K aD.dMy ["thing"] []∧mg "may_be_member" = some (.ref aD.fMy)
 FSt:DK K "set_of" "set_of" aQ aD.fSt aD.dSt∧Binds K aD.dSt ["numbers"] []∧mg "set_of" = some (.ref aD.fSt)
 FIn:DK K "is_number" "is_number" bJ aD.fIn aD.dIn∧Binds K aD.dIn ["thing"] []∧mg "is_number" = some (.ref aD.fIn)
 FNo:DK K "number_of" "number_of" dW aD.fNo aD.dNo∧Binds K aD.dNo ["text"] []∧mg "number_of" = some (.ref aD.fNo)
 FRp:DK K "read_part" "read_part" du aD.fRp aD.dRp∧Binds K aD.dRp ["part"] []∧mg "read_part" = some (.ref aD.fRp)
 FRr:DK K "read_row" "read_row" Z9 aD.fRr aD.dRr∧Binds K aD.dRr ["text"] []∧mg "read_row" = some (.ref aD.fRr)
 FRg:DK K "read_organ" "read_organ" Z6 aD.fRg aD.dRg∧Binds K aD.dRg ["text"] []∧mg "read_organ" = some (.ref aD.fRg)
 FSr:DK K "show_row" "show_row" aR aD.fSr aD.dSr∧Binds K aD.dSr ["row"] []∧mg "show_row" = some (.ref aD.fSr)
 FSg:DK K "show_organ" "show_organ" aX aD.fSg aD.dSg∧Binds K aD.dSg ["organ"] []∧mg "show_organ" = some (.ref aD.fSg)
 FCe:DK K "_law_cell_at" "_law_cell_at" bz aD.fCe aD.dCe∧Binds K aD.dCe ["_law_script","_law_k"] []∧mg "_law_cell_at" = some (.ref aD.fCe)
 FLw:DK K "_law_whole" "_law_whole" cg aD.fLw aD.dLw∧Binds K aD.dLw ["_law_found"] []∧mg "_law_whole" = some (.ref aD.fLw)
 FMi:DK K "_law_mix" "_law_mix" bU aD.fMi aD.dMi∧Binds K aD.dMi ["_law_cell","_law_by","_law_many_here"] []∧mg "_law_mix" = some (.ref aD.fMi)
 FNn:DK K "_law_name" "_law_name" eN aD.fNn aD.dNn∧Binds K aD.dNn ["_law_base_here","_law_k"] []∧mg "_law_name" = some (.ref aD.fNn)
 FBb:DK K "_law_base" "_law_base" cH aD.fBb aD.dBb∧Binds K aD.dBb ["_law_cell"] []∧mg "_law_base" = some (.ref aD.fBb)
 FMa:DK K "_law_many" "_law_many" ao aD.fMa aD.dMa∧Binds K aD.dMa ["_law_plan_here","_law_word"] []∧mg "_law_many" = some (.ref aD.fMa)
 FLb:DK K "_law_board" "_law_board" dN aD.fLb aD.dLb∧Binds K aD.dLb ["_law_plan_here","_law_name_here","_law_cell"] []∧mg "_law_board" = some (.ref aD.fLb)
 FLk:DK K "_law_rank" "_law_rank" fM aD.fLk aD.dLk∧Binds K aD.dLk ["_law_plan_here","_law_name_here","_law_cell"] []∧mg "_law_rank" = some (.ref aD.fLk)
 FLs:DK K "_law_stop" "_law_stop" cG aD.fLs aD.dLs∧Binds K aD.dLs ["_law_plan_here","_law_name_here","_law_cell"] []∧mg "_law_stop" = some (.ref aD.fLs)
 FLl:DK K "_law_line" "_law_line" bh aD.fLl aD.dLl∧Binds K aD.dLl ["_law_plan_here","_law_cell"] []∧mg "_law_line" = some (.ref aD.fLl)
 FLc:DK K "_law_coupler" "_law_coupler" dZ aD.fLc aD.dLc∧Binds K aD.dLc ["_law_plan_here","_law_name_here","_law_cell"] []∧mg "_law_coupler" = some (.ref aD.fLc)
 FLt:DK K "_law_step" "_law_step" Zk aD.fLt aD.dLt∧Binds K aD.dLt ["_law_plan_here","_law_cell"] []∧mg "_law_step" = some (.ref aD.fLt)
 FLr:DK K "_law_row" "_law_row" dR aD.fLr aD.dLr∧Binds K aD.dLr ["_law_plan_here","_law_name_here","_law_cell"] []∧mg "_law_row" = some (.ref aD.fLr)
 FLp:DK K "_law_plan" "_law_plan" cN aD.fLp aD.dLp∧Binds K aD.dLp ["_law_script","_law_start"] []∧mg "_law_plan" = some (.ref aD.fLp)
 FWr:DK K "_law_written" "_law_written" dO aD.fWr aD.dWr∧Binds K aD.dWr ["_law_number"] []∧mg "_law_written" = some (.ref aD.fWr)
 FTx:DK K "_law_text" "_law_text" d9 aD.fTx aD.dTx∧Binds K aD.dTx ["_law_rows"] []∧mg "_law_text" = some (.ref aD.fTx)
 FRa:DK K "_law_rows_are" "_law_rows_are" eE aD.fRa aD.dRa∧Binds K aD.dRa ["_law_found","_law_rows"] []∧mg "_law_rows_are" = some (.ref aD.fRa)
 FOi:DK K "__init__" "Organ.__init__" S7 aD.fOi aD.dOi∧Binds K aD.dOi ["self","rows"] []∧Mk K C aD.fOi
 FOb:DK K "boards" "Organ.boards" fJ aD.fOb aD.dOb∧Binds K aD.dOb ["self"] []∧Meth K C "boards" aD.fOb
 FBk:DK K "board_of_knob" "Organ.board_of_knob" gq aD.fBk aD.dBk∧Binds K aD.dBk ["self","knob"] []∧Meth K C "board_of_knob" aD.fBk
 FOp:DK K "coupler" "Organ.coupler" gJ aD.fOp aD.dOp∧Binds K aD.dOp ["self","knob"] []∧Meth K C "coupler" aD.fOp
 FOw:DK K "rows" "Organ.rows" d_ aD.fOw aD.dOw∧Binds K aD.dOw ["self"] []∧Meth K C "rows" aD.fOw
 FOr:DK K "ranks" "Organ.ranks" bc aD.fOr aD.dOr∧Binds K aD.dOr ["self"] []∧Meth K C "ranks" aD.fOr
 FOs:DK K "stop" "Organ.stop" gj aD.fOs aD.dOs∧Binds K aD.dOs ["self","knob"] []∧Meth K C "stop" aD.fOs
 FOm:DK K "mute" "Organ.mute" gF aD.fOm aD.dOm∧Binds K aD.dOm ["self","knob"] []∧Meth K C "mute" aD.fOm
 FOy:DK K "steps" "Organ.steps" gR aD.fOy aD.dOy∧Binds K aD.dOy ["self"] []∧Meth K C "steps" aD.fOy
 FOz:DK K "knobs" "Organ.knobs" aJ aD.fOz aD.dOz∧Binds K aD.dOz ["self"] []∧Meth K C "knobs" aD.fOz
section
variable {P:Program} {w:World} {K:PySem.W.Frag} {mg:Str->Option Value} {base:Heap} {C aN aK aB aP aM:Addr} {aD:Ad}
variable (N:bY K mg C aD) (T:Txt K w.params mg C aN aK aB aP aM)
noncomputable def Qz:Sp:=fun vs H Q _=>∃ i:Int,vs=[.int i]/\Q (.bl true) H
theorem fL:Az ["thing"] ["thing"] (Ag dI):=Bv
include N T in
theorem VG:BJ P w K mg base Bk 1 aD.fWh aD.dWh ["thing"] Qz:=by
 refine N.FWh.1.ok fL (fun vs H Q E h=>?_) (fun cdv A outer s H vs Q E hr h=>?_)
 ·obtain ⟨i,rfl,_⟩:=h
  rfl
 ·obtain ⟨i,rfl,q⟩:=h
  refine ⟨_,(Af (Aw (Dd (Av Bo rfl T.isin PyProof.Rows.boot_isinstance (Aa (pv 0) (Aa (CW (v:=.ty "int") rfl T.int PyProof.Rows.boot_int rfl) Ab))) (DN (Kp (Av Bo rfl T.isin PyProof.Rows.boot_isinstance (Aa (pv 0) (Aa (CW (v:=.ty "bool") rfl T.bool PyProof.Rows.boot_bool rfl) Ab)))))))),?_⟩
  refine ⟨_,rfl,_,"int",_,_,rfl,.int i,ty_int,_,rfl,Eo ?_⟩
  exact ⟨_,rfl,_,"bool",_,_,rfl,.int i,Vb,_,rfl,q⟩
noncomputable def W9:Sp:=fun vs H Q _=>∃ z:Str,vs=[.str z,.str letters,.int 8]/\isNm z/\∀ H',Ao H H'->Q (.bl true) H'
theorem Xu:Az ["text","signs","most"] ["text","signs","most"] (Ag X_):=Bv
include N T in
theorem Yi:BJ P w K mg base Bk 1 aD.fMd aD.dMd ["text","signs","most"] W9:=by
 refine N.FMd.1.ok Xu (fun vs H Q E h=>?_) (fun cdv A outer s H vs Q E hr h=>?_)
 ·obtain ⟨z,rfl,_⟩:=h
  rfl
 ·obtain ⟨z,rfl,hz,q⟩:=h
  refine ⟨_,(Af (Aw (Dd (HS Gx Gx Ae (Av HQ rfl T.len PySem.boot_len (Aa (pv 0) Ab)) (pv 2)) (DN (Av (GJ rfl) rfl T.all PyProof.Rows.boot_all (Aa (Bm rfl (Bd (osc:=Ag X_) (N:=["text","signs","most"]) rfl rfl (by decide +kernel)) (Sd (pv 0)) (fun _ _ _ _=>CK) (fun _ _ _ _=>(Dy J0 (pv 0) (pv 2) rfl))) Ab)))))),?_⟩
  have hzl:z.length<sizeLine:=Ar (by have:=hz.2.1; omega)
  refine ⟨_,rfl,z,rfl,Nat.le_of_lt hzl,_,_,rfl,rfl,_,rfl,?_⟩
  refine CV (fun h1=>?_) (fun h1=>absurd (decide_eq_true (by have:=hz.1; omega)) h1)
  refine ⟨_,rfl,_,_,rfl,rfl,_,rfl,?_⟩
  refine CV (fun h2=>?_) (fun h2=>absurd (decide_eq_true (by have:=hz.2.1; omega)) h2)
  refine ⟨_,rfl,z,rfl,K9 (fun _=>true) (fun c=>.bl (S9 letters c)) hzl (fun c hc H' hs R k=>k H' (Ao.refl H')) (fun c hc _ H' hs R k=>⟨_,rfl,_,rfl,_,_,rfl,rfl,k H' (Ao.refl H')⟩) (fun D H' hD hs hl=>?_)⟩
  refine ⟨D,z.cps.toList.map (S9 letters),rfl,.inl (.inl ?_),?_⟩
  ·rw [hl,List.filter_eq_self.mpr (fun _ _=>rfl),List.map_map]
   rfl
  ·have e:(z.cps.toList.map (S9 letters)).all id=true:=by
    rw [List.all_map,List.all_eq_true]
    intro c hc
    have:=hz.2.2 c hc
    show S9 letters c=true
    rw [TJ c (by omega)]
    exact decide_eq_true this
   rw [e]
   exact q H' hs
noncomputable def Vr:Sp:=fun vs H Q _=>∃ z:Str,vs=[.str z]/\isNm z/\∀ H',Ao H H'->Q (.bl true) H'
theorem fQ:Az ["thing"] ["thing"] (Ag fO):=Bv
include N T in
theorem Vh:BJ P w K mg base Bk 2 aD.fNm aD.dNm ["thing"] Vr:=by
 have GMd:BJ P w K mg base Bk 1 aD.fMd aD.dMd ["text","signs","most"] W9:=Yi N T
 refine N.FNm.1.ok fQ (fun vs H Q E h=>?_) (fun cdv A outer s H vs Q E hr h=>?_)
 ·obtain ⟨z,rfl,_⟩:=h
  rfl
 ·obtain ⟨z,rfl,hz,q⟩:=h
  have hrMd:Bc 1 _:=hr.mono (by decide)
  obtain ⟨tLET,hLET⟩:=T.letters
  obtain ⟨tML,hML⟩:=T.mostL
  refine ⟨_,(Af (Aw (Dd (Av Bo rfl T.isin PyProof.Rows.boot_isinstance (Aa (pv 0) (Aa (CW (v:=.ty "str") rfl T.str PyProof.Rows.boot_str rfl) Ab))) (DN (Ak GMd hrMd rfl N.FMd.2.2 N.FMd.1.kp N.FMd.2.1 .nil A_ (Aa (pv 0) (Aa (CP (v:=.str letters) rfl hLET ⟨tLET,rfl⟩) (Aa (CP (v:=.int 8) rfl hML ⟨tML,rfl⟩) Ab)))))))),?_⟩
  refine ⟨_,rfl,_,"str",_,_,rfl,.str z,JG,_,rfl,Eo ?_⟩
  exact ⟨_,rfl,z,rfl,hz,q⟩
noncomputable def QW:Sp:=fun vs H Q _=>∃ (p:Addr) (us:List V) (w:Str) (ρ:V->R),vs=[.ref p,.str w]/\H p=some (.lst us)/\Rows H ρ us/\us.length<=500/\∀ D H',H D=none->Ao H H'->H' D=some (.lst (us.filter (pw ρ w)))->Q (.ref D) H'
theorem eX:Az ["rows","word"] ["rows","word"] (Ag aO):=Bv
include N T in
theorem Mq:BJ P w K mg base Bk 1 aD.fRo aD.dRo ["rows","word"] QW:=by
 refine N.FRo.1.ok eX (fun vs H Q E h=>?_) (fun cdv A outer s H vs Q E hr h=>?_)
 ·refine byC fun w_=>?_;obtain ⟨p,us,w,ρ,rfl,_⟩:=h;refine w_ ?_
  rfl
 ·refine byC fun w_=>?_;obtain ⟨p,us,w,ρ,rfl,hp,hR,hl,q⟩:=h;refine w_ ?_
  refine ⟨_,(Af (Aw (Bm rfl (Bd (osc:=Ag aO) (N:=["rows","word"]) rfl rfl (by decide +kernel)) (Bq (pv 0)) (fun _ _ _ _=>(Kr (BK DP (Bb (BL (K:=K) rfl) (pv 0) Ae (fun _ _=>rfl)) (pv 2) (BX _)))) (fun _ _ _ _=>(pv 0))))),?_⟩
  have hS:Cp K H p us:=.inl (.inl hp)
  refine ⟨_,rfl,p,rfl,⟨_,hS⟩,DG (K:=K) (xs:=us) (pw ρ w) id hS (Ar (by omega)) (fun x hx H' hs R k=>?_) (fun x hx _ H' hs R k=>⟨_,rfl,k H' (Ao.refl H')⟩) (fun D H' hD hs hl'=>?_)⟩
  ·obtain ⟨T0,rfl,hT⟩:=(hR x hx).mono hs
   exact ⟨_,rfl,T0,_,_,_,rfl,rfl,.inl (.inl hT),Aq (j:=0) rfl,_,rfl,rfl,_,rfl,k H' (Ao.refl H')⟩
  ·rw [List.map_id] at hl'
   exact q D H' hD hs hl'
noncomputable def Vu:Sp:=fun vs H Q _=>∃ (p:Addr) (us:List V) (w t:Str) (ρ:V->R),vs=[.ref p,.str w,.str t]/\H p=some (.lst us)/\Rows H ρ us/\us.length<=500/\isNm t/\∀ H',Ao H H'->Q (.bl (S_ ρ us w t)) H'
theorem fK:Az ["rows","word","thing"] ["rows","word","thing"] (Ag aG):=Bv
include N T in
theorem U_:BJ P w K mg base Bk 3 aD.fTo aD.dTo ["rows","word","thing"] Vu:=by
 have GNm:BJ P w K mg base Bk 2 aD.fNm aD.dNm ["thing"] Vr:=Vh N T
 have GRo:BJ P w K mg base Bk 1 aD.fRo aD.dRo ["rows","word"] QW:=Mq N T
 refine N.FTo.1.ok fK (fun vs H Q E h=>?_) (fun cdv A outer s H vs Q E hr h=>?_)
 ·refine byC fun w_=>?_;obtain ⟨p,us,w,t,ρ,rfl,_⟩:=h;refine w_ ?_
  rfl
 ·refine byC fun w_=>?_;obtain ⟨p,us,w,t,ρ,rfl,hp,hR,hl,ht,q⟩:=h;refine w_ ?_
  have hrNm:Bc 2 _:=hr.mono (by decide)
  have hrRo:Bc 1 _:=hr.mono (by decide)
  refine ⟨_,(Af (Aw (Dd (Ak GNm hrNm rfl N.FNm.2.2 N.FNm.1.kp N.FNm.2.1 .nil A_ (Aa (pv 2) Ab)) (DN (Av (JK rfl) rfl T.any PyProof.Rows.boot_any (Aa (Bm rfl (Bd (osc:=Ag aG) (N:=["rows","word","thing"]) rfl rfl (by decide +kernel)) (Bq (Ak GRo hrRo rfl N.FRo.2.2 N.FRo.1.kp N.FRo.2.1 .nil A_ (Aa (pv 0) (Aa (pv 1) Ab)))) (fun _ _ _ _=>CK) (fun _ _ _ _=>(Dy DP (Bb (BL (K:=K) rfl) (pv 0) Ae (fun _ _=>rfl)) (pv 3) (BX _)))) Ab)))))),?_⟩
  refine ⟨_,rfl,t,rfl,ht,fun H1 s1=>⟨_,rfl,Eo ?_⟩⟩
  refine ⟨_,rfl,_,rfl,p,us,w,ρ,rfl,s1 _ _ hp,hR.mono s1,hl,fun D H2 hD s2 hl2=>?_⟩
  have hS:Cp K H2 D (us.filter (pw ρ w)):=.inl (.inl hl2)
  refine ⟨D,rfl,⟨_,hS⟩,DG (K:=K) (xs:=us.filter (pw ρ w)) (fun _=>true) (fun v=>.bl (pn ρ t v)) hS (Ar (by have:=Gv (pw ρ w) us; omega)) (fun x hx H' hs R k=>k H' (Ao.refl H')) (fun x hx _ H' hs R k=>?_) (fun D3 H3 hD3 s3 hl3=>?_)⟩
  ·obtain ⟨T0,rfl,hT⟩:=(((hR.mono s1).mono s2).mono hs) x (List.mem_filter.mp hx).1
   exact ⟨_,rfl,T0,_,_,_,rfl,rfl,.inl (.inl hT),Aq (j:=1) rfl,_,rfl,rfl,k H' (Ao.refl H')⟩
  ·refine ⟨D3,(us.filter (pw ρ w)).map (pn ρ t),rfl,.inl (.inl ?_),?_⟩
   ·rw [hl3,List.filter_eq_self.mpr (fun _ _=>rfl),List.map_map]
    rfl
   ·have e:((us.filter (pw ρ w)).map (pn ρ t)).any id=S_ ρ us w t:=by
     rw [List.any_map]
     rfl
    rw [e]
    exact q H3 ((s1.trans s2).trans s3)
noncomputable def Y_ (K:PySem.W.Frag):Sp:=fun vs H Q _=>∃ (i lo hi:Int) (b:Addr),vs=[.int i,.ref b]/\KTup K b [.int lo,.int hi]/\lo<=i/\i<=hi/\Q (.bl true) H
theorem cj:Az ["thing","bounds"] ["thing","bounds"] (Ag dF):=Bv
include N T in
theorem Xg:BJ P w K mg base Bk 2 aD.fWi aD.dWi ["thing","bounds"] (Y_ K):=by
 have GWh:BJ P w K mg base Bk 1 aD.fWh aD.dWh ["thing"] Qz:=VG N T
 refine N.FWi.1.ok cj (fun vs H Q E h=>?_) (fun cdv A outer s H vs Q E hr h=>?_)
 ·refine byC fun w_=>?_;obtain ⟨i,lo,hi,b,rfl,_⟩:=h;refine w_ ?_
  rfl
 ·refine byC fun w_=>?_;obtain ⟨i,lo,hi,b,rfl,hb,h1,h2,q⟩:=h;refine w_ ?_
  have hrWh:Bc 1 _:=hr.mono (by decide)
  refine ⟨_,(Af (Aw (Dd (Ak GWh hrWh rfl N.FWh.2.2 N.FWh.1.kp N.FWh.2.1 .nil A_ (Aa (pv 0) Ab)) (DN (HS Gx Gx (Bb (BL (K:=K) rfl) (pv 1) Ae (fun _ _=>rfl)) (pv 0) (Bb (BL (K:=K) rfl) (pv 1) Ae (fun _ _=>rfl))))))),?_⟩
  refine ⟨_,rfl,i,rfl,_,rfl,Eo ?_⟩
  refine ⟨_,rfl,b,_,_,_,rfl,rfl,hb.sq _,Aq (j:=0) rfl,_,rfl,_,_,rfl,rfl,_,rfl,?_⟩
  refine CV (fun _=>?_) (fun z=>absurd (decide_eq_true h1) z)
  refine ⟨_,rfl,b,_,_,_,rfl,rfl,hb.sq _,Aq (j:=1) rfl,_,_,rfl,rfl,?_⟩
  show Q (.bl (decide (i<=hi))) H
  rw [decide_eq_true h2]
  exact q
noncomputable def YF (K:PySem.W.Frag) (aB:Addr):Sp:=fun vs H Q _=>∃ (x:V) (part:Str) (p:Addr) (us:List V) (ρ:V->R),vs=[x,.str part,.ref p]/\H p=some (.lst us)/\Rows H ρ us/\us.length<=500/\HB K aB ρ us x part/\∀ H',Ao H H'->Q (.bl true) H'
theorem di:Az ["thing","part","ahead"] ["thing","part","ahead"] (Ag aj):=Bv
include N T in
theorem Zi:BJ P w K mg base Bk 4 aD.fPa aD.dPa ["thing","part","ahead"] (YF K aB):=by
 have GNm:BJ P w K mg base Bk 2 aD.fNm aD.dNm ["thing"] Vr:=Vh N T
 have GTo:BJ P w K mg base Bk 3 aD.fTo aD.dTo ["rows","word","thing"] Vu:=U_ N T
 have GWi:BJ P w K mg base Bk 2 aD.fWi aD.dWi ["thing","bounds"] (Y_ K):=Xg N T
 refine N.FPa.1.ok di (fun vs H Q E h=>?_) (fun cdv A outer s H vs Q E hr h=>?_)
 ·refine byC fun w_=>?_;obtain ⟨x,part,p,us,ρ,rfl,_⟩:=h;refine w_ ?_
  rfl
 ·refine byC fun w_=>?_;obtain ⟨x,part,p,us,ρ,rfl,hp,hR,hl,hok,q⟩:=h;refine w_ ?_
  have hrNm:Bc 2 _:=hr.mono (by decide)
  have hrTo:Bc 3 _:=hr.mono (by decide)
  have hrWi:Bc 2 _:=hr.mono (by decide)
  refine ⟨_,(Ac (Bh (WY (Ry (pv 1) (CP (v:=.ref aB) rfl T.mB rfl))) (Af (Aw (Ak GWi hrWi rfl N.FWi.2.2 N.FWi.1.kp N.FWi.2.1 .nil A_ (Aa (pv 0) (Aa (K5 (CP (v:=.ref aB) rfl T.mB rfl) (pv 1) (fun _ _=>rfl)) Ab))))) BZ)
   (Ac (Bh (BK DP (pv 1) Am (BX _)) (Af (Aw (Dd (Ak GNm hrNm rfl N.FNm.2.2 N.FNm.1.kp N.FNm.2.1 .nil A_ (Aa (pv 0) Ab)) (DN (Kp (Av (JK rfl) rfl T.any PyProof.Rows.boot_any (Aa (Bm rfl (Bd (osc:=Ag aj) (N:=["thing","part","ahead"]) rfl rfl (by decide +kernel)) (Hv (CP (v:=.ref aN) rfl T.mN rfl)) (fun _ _ _ _=>CK) (fun _ _ _ _=>(Ak GTo hrTo rfl N.FTo.2.2 N.FTo.1.kp N.FTo.2.1 .nil A_ (Aa (pv 3) (Aa (pv 0) (Aa (pv 1) Ab)))))) Ab))))))) BZ)
   (Af (Aw (Ak GTo hrTo rfl N.FTo.2.2 N.FTo.1.kp N.FTo.2.1 .nil A_ (Aa (pv 2) (Aa (pv 1) (Aa (pv 0) Ab)))))))),?_⟩
  rcases hok with ⟨i,lo,hi,b,rfl,hn,hb,h1,h2⟩ | ⟨hn,rfl,t,rfl,ht,hno⟩ | ⟨hn,hne,t,rfl,ht,hyes⟩
  ·refine ⟨_,rfl,aB,part,_,rfl,rfl,T.dB,hn,_,rfl,Eo ?_⟩
   exact ⟨_,rfl,_,rfl,aB,part,.ref b,_,rfl,rfl,T.dB,hn,rfl,i,lo,hi,b,rfl,hb,h1,h2,q H (Ao.refl H)⟩
  ·refine ⟨_,rfl,aB,_,_,rfl,rfl,T.dB,hn,_,rfl,Cy ?_⟩
   refine ⟨_,rfl,rfl,_,rfl,Eo ?_⟩
   refine ⟨_,rfl,t,rfl,ht,fun H1 s1=>⟨_,rfl,Eo ?_⟩⟩
   have hS:Ey K H1 aN (named.map V.str):=T.tN.sq _
   refine ⟨aN,rfl,⟨_,hS⟩,GZ (xs:=named.map V.str) (fun _=>true) (fun _=>.bl false) (by show 5<sizeLine; decide) (fun i H2 x hs hx=>⟨_,x,hs.tup hS,hx⟩) (fun i H2 y H3 hs _ hy=>⟨hy.1,hy.2 _ (hs.tup hS)⟩) (fun H2 hs=>⟨_,hs.tup hS,Nat.le_refl _⟩)
    (fun x hx H' hs R k=>k H' (Ao.refl H')) (fun x hx _ H' hs R k=>?_) (fun D H2 hD s2 hl2=>?_)⟩
   ·obtain ⟨w0,hw0,rfl⟩:=List.mem_map.mp hx
    refine ⟨_,rfl,_,rfl,_,rfl,p,us,w0,t,ρ,rfl,hs _ _ (s1 _ _ hp),(hR.mono s1).mono hs,hl,ht,fun H'' s''=>?_⟩
    rw [hno w0 hw0]
    exact k H'' s''
   ·refine ⟨D,[false,false,false,false,false],rfl,.inl (.inl hl2),_,rfl,?_⟩
    exact q H2 (s1.trans s2)
  ·refine ⟨_,rfl,aB,_,_,rfl,rfl,T.dB,hn,_,rfl,Cy ?_⟩
   refine ⟨_,rfl,rfl,_,rfl,?_⟩
   refine CV (fun z=>absurd (V.str.inj (of_decide_eq_true z)) hne) (fun _=>?_)
   refine ⟨_,rfl,_,rfl,_,rfl,p,us,part,t,ρ,rfl,hp,hR,hl,ht,fun H' hs=>?_⟩
   rw [hyes]
   exact q H' hs
noncomputable def Zu (K:PySem.W.Frag) (aB aP:Addr):Sp:=fun vs H Q _=>∃ (r p:Addr) (w:Str) (xs:List V) (us:List V) (ρ:V->R) (ap:Addr) (ps:List Str),vs=[.ref r,.ref p]/\H r=some (.tup (.str w::xs))/\H p=some (.lst us)/\Rows H ρ us/\us.length<=500 /\
 PySem.W.nsIn K aP w=some (some (.ref ap))/\KTup K ap (ps.map V.str)/\xs.length=ps.length/\ps.length<=10/\(∀ (i:Nat) x y,xs[i]? = some x->ps[i]? = some y->HB K aB ρ us x y)/\∀ H',Ao H H'->Q (.bl true) H'
theorem Xv:Az ["row","ahead","parts"] ["row","ahead"] (Ag aY):=Bv
include N T in
theorem W8:BJ P w K mg base Bk 5 aD.fHp aD.dHp ["row","ahead"] (Zu K aB aP):=by
 have GPa:BJ P w K mg base Bk 4 aD.fPa aD.dPa ["thing","part","ahead"] (YF K aB):=Zi N T
 refine N.FHp.1.ok Xv (fun vs H Q E h=>?_) (fun cdv A outer s H vs Q E hr h=>?_)
 ·refine byC fun w_=>?_;obtain ⟨r,p,w,xs,us,ρ,ap,ps,rfl,_⟩:=h;refine w_ ?_
  rfl
 ·refine byC fun w_=>?_;obtain ⟨r,p,w,xs,us,ρ,ap,ps,rfl,hr0,hp,hR,hl,hn,hap,hlen,hps,hok,q⟩:=h;refine w_ ?_
  have hrPa:Bc 4 _:=hr.mono (by decide)
  refine ⟨_,(Ac (BP (i:=2) Xv.nd rfl (Or.inl rfl) (K5 (CP (v:=.ref aP) rfl T.mP rfl) (Bb (BL (K:=K) rfl) (pv 0) Ae (fun _ _=>rfl)) (fun _ _=>rfl)))
   (Ac (Bh (BK Js (Av BR rfl T.len PySem.boot_len (Aa (pv 0) Ab)) (BW Dh Ae (Av BR rfl T.len PySem.boot_len (Aa (pv 2) Ab))) (BX _)) (Af (Aw E_)) BZ)
   (Af (Aw (Av (GJ rfl) rfl T.all PyProof.Rows.boot_all (Aa (Tc rfl (Mv (osc:=Ag aY) (N:=["row","ahead","parts"]) rfl rfl (by decide +kernel)) (Ue rfl T.zip (Aa (Fb NQ (pv 0) (Fo Ae) Hb) (Aa (pv 2) Ab))) (fun _ _ _ _=>CK) (fun _ _ _ _=>(Ak GPa hrPa rfl N.FPa.2.2 N.FPa.1.kp N.FPa.2.1 .nil A_ (Aa (pv 0) (Aa (pv 1) (Aa (pv 3) Ab)))))) Ab)))))),?_⟩
  refine ⟨_,rfl,r,_,_,_,rfl,rfl,.inl (.inl hr0),Aq (j:=0) rfl,aP,w,.ref ap,_,rfl,rfl,T.dP,hn,rfl,?_⟩
  refine ⟨_,rfl,r,_,rfl,.inr (.inl (.inl hr0)),_,rfl,ap,_,rfl,.inr (hap.sq _),_,_,rfl,rfl,rfl,_,rfl,?_⟩
  refine CV (fun z=>?_) (fun _=>?_)
  ·exfalso
   have e:(((V.str w::xs).length:Nat):Int)=1+(((ps.map V.str).length:Nat):Int):=by
    rw [List.length_cons,List.length_map,hlen]
    omega
   rw [e] at z
   simp at z
  ·have hcut:En (V.str w::xs) (some 1) none=xs:=by
    unfold En
    have e1:HT.DY (V.str w::xs).length 0 (some ((1:Nat):Int))=1:=by rw [HT.Es,List.length_cons]; omega
    have e1':HT.DY (V.str w::xs).length 0 (some (1:Int))=1:=e1
    rw [e1',HT.JR,List.drop_succ_cons,List.drop_zero]
    exact List.take_of_length_le (by rw [List.length_cons]; omega)
   refine ⟨_,rfl,_,rfl,r,_,rfl,.inl (.inl hr0),(fun z=>?_),fun p2 hp2=>?_⟩
   ·have e1:HT.DY (V.str w::xs).length 0 (some ((1:Nat):Int))=1:=by rw [HT.Es,List.length_cons]; omega
    have:=z.1.symm.trans e1
    cases this
   rw [hcut]
   obtain ⟨H2,eqH,s2,a2⟩:=FJ (o:=HO.tup xs) hp2
   rw [eqH]
   have h1:Ey K H2 p2 xs:=.inl (.inl a2)
   refine ⟨_,rfl,p2,ap,rfl,⟨_,h1⟩,⟨_,hap.sq _⟩,R7 (K:=K) (xs:=xs) (ys:=ps.map V.str) (fun _ _=>.bl true) h1 (hap.sq _) (by rw [List.length_map]; exact hlen) (Ar (by omega)) (fun i x y hx hy H3 s3 R k=>?_) (fun D H3 hD s3 hl3=>?_)⟩
   ·rw [List.getElem?_map] at hy
    obtain ⟨part,hpart,rfl⟩:=Option.map_eq_some_iff.mp hy
    exact ⟨_,rfl,_,rfl,_,rfl,x,part,p,us,ρ,rfl,s3 _ _ (s2 _ _ hp),(hR.mono s2).mono s3,hl,hok i x part hx hpart,fun H4 s4=>k H4 s4⟩
   ·have e:List.zipWith (fun _ _=>V.bl true) xs (ps.map V.str)=(List.replicate xs.length true).map V.bl:=by
     rw [List.map_replicate]
     refine List.ext_getElem? fun i=>?_
     rw [List.getElem?_zipWith]
     by_cases hi:i<xs.length
     ·rw [List.getElem?_eq_getElem hi,List.getElem?_eq_getElem (by rw [List.length_map]; omega),List.getElem?_eq_getElem (by rw [List.length_replicate]; exact hi)]
      simp
     ·rw [List.getElem?_eq_none (by omega),List.getElem?_eq_none (l:=List.replicate _ _) (by rw [List.length_replicate]; omega)]
    rw [e] at hl3
    refine ⟨D,List.replicate xs.length true,rfl,.inl (.inl hl3),?_⟩
    have e2:(List.replicate xs.length true).all id=true:=by simp
    rw [e2]
    exact q H3 (s2.trans s3)
noncomputable def W4:Sp:=fun vs H Q _=>∃ (p:Addr) (us:List V) (ρ:V->R) (c:Nat),vs=[.ref p]/\H p=some (.lst us)/\Rows H ρ us/\us.length<=500/\Vg ρ us c/\Q (.int (c:Nat)) H
theorem Um:Az ["rows","count","row"] ["rows"] (Ag cO):=Bv
include N T in
theorem ZR:BJ P w K mg base Bk 1 aD.fCl aD.dCl ["rows"] W4:=by
 refine N.FCl.1.ok Um (fun vs H Q E h=>?_) (fun cdv A outer s H vs Q E hr h=>?_)
 ·refine byC fun w_=>?_;obtain ⟨p,us,ρ,c,rfl,_⟩:=h;refine w_ ?_
  rfl
 ·refine byC fun w_=>?_;obtain ⟨p,us,ρ,c,rfl,hp,hR,hl,hc,q⟩:=h;refine w_ ?_
  refine ⟨_,(Ac (BP (i:=1) Um.nd rfl (Or.inl rfl) Ae)
   (Ac (Dg PassesOwn.never rfl (WL rfl T.reversed (Aa (pv 0) Ab)) (Bx (i:=2) Um.nd rfl (Or.inl rfl)) (Ac (Bh (BK Js (Bb (BL (K:=K) rfl) (pv 2) Ae (fun _ _=>rfl)) Am (BX _)) (Af RP) BZ)
   (Af (BP (i:=1) Um.nd rfl (Or.inl rfl) (BW Dh (pv 1) Ae)))))
   (Af (Aw (pv 1))))),?_⟩
  have hS:Cp K H p us:=.inl (.inl hp)
  refine ⟨_,rfl,p,us,rfl,hS,Ui (K:=K) (a:=p) (xs:=us) (fun i σ H4=>H4=H/\i<=c/\∃ v2,σ=[some (.ref p),some (.int (i:Nat)),v2]) ⟨rfl,Nat.zero_le _,_,rfl⟩ (fun i σ H4 _ h=>by rw [h.1]; exact hS) ?_ ?_⟩
  ·rintro i x σ H4 hi hx ⟨rfl,hic,v2,rfl⟩
   obtain ⟨r,rfl,hr0⟩:=hR x (List.mem_of_getElem? hx)
   refine ⟨_,rfl,r,_,_,_,rfl,rfl,.inl (.inl hr0),Aq (j:=0) rfl,rfl,_,rfl,?_⟩
   by_cases e:(ρ (.ref r)).w = "line"
   ·have hne:i ≠ c:=fun z=>by
     obtain ⟨v,hv,hno⟩:=hc.no
     rw [← z,hx] at hv
     cases hv
     exact hno e
    refine U5 (congrArg V.str e) ?_
    exact ⟨_,rfl,_,_,rfl,rfl,rfl,by omega,_,rfl⟩
   ·have hic':i=c:=by
     refine Classical.byContradiction fun z=>?_
     obtain ⟨v,hv,hyes⟩:=hc.all i (by omega)
     rw [hx] at hv
     cases hv
     exact e hyes
    subst hic'
    rw [decide_eq_false fun z=>e (V.str.inj z)]
    refine Eo ?_
    exact ⟨_,rfl,q⟩
  ·rintro σ H4 ⟨rfl,hic,v2,rfl⟩
   have:=hc.lt
   omega
noncomputable def Xh:Sp:=fun vs H Q _=>∃ (n:Int) (bd:Str) (p:Addr) (us:List V) (ρ:V->R),vs=[.int n,.str bd,.ref p]/\H p=some (.lst us)/\Rows H ρ us/\us.length<=500/\Eg ρ us/\∀ H',Ao H H'->Q (.bl (keyOf ρ us bd n)) H'
theorem d7:Az ["number","board","ahead"] ["number","board","ahead"] (Ag au):=Bv
include N T in
theorem Zz:BJ P w K mg base Bk 2 aD.fIk aD.dIk ["number","board","ahead"] Xh:=by
 have GRo:BJ P w K mg base Bk 1 aD.fRo aD.dRo ["rows","word"] QW:=Mq N T
 refine N.FIk.1.ok d7 (fun vs H Q E h=>?_) (fun cdv A outer s H vs Q E hr h=>?_)
 ·refine byC fun w_=>?_;obtain ⟨n,bd,p,us,ρ,rfl,_⟩:=h;refine w_ ?_
  rfl
 ·refine byC fun w_=>?_;obtain ⟨n,bd,p,us,ρ,rfl,hp,hR,hl,hB,q⟩:=h;refine w_ ?_
  have hrRo:Bc 1 _:=hr.mono (by decide)
  refine ⟨_,(Af (Aw (Av (JK rfl) rfl T.any PyProof.Rows.boot_any (Aa (Bm rfl (Bd (osc:=Ag au) (N:=["number","board","ahead"]) rfl rfl (by decide +kernel)) (Bq (Ak GRo hrRo rfl N.FRo.2.2 N.FRo.1.kp N.FRo.2.1 .nil A_ (Aa (pv 2) (Aa Am Ab)))) (fun _ _ _ _=>CK) (fun _ _ _ _=>(Dd (Dy DP (Bb (BL (K:=K) rfl) (pv 0) Ae (fun _ _=>rfl)) (pv 2) (BX _)) (DN (Dy Et (pv 1) (Bb (BL (K:=K) rfl) (pv 0) Ae (fun _ _=>rfl)) (BX _)))))) Ab)))),?_⟩
  refine ⟨_,rfl,p,us,"board",ρ,rfl,hp,hR,hl,fun D H2 hD s2 hl2=>?_⟩
  have hS:Cp K H2 D (us.filter (pw ρ "board")):=.inl (.inl hl2)
  refine ⟨D,rfl,⟨_,hS⟩,DG (K:=K) (xs:=us.filter (pw ρ "board")) (fun _=>true) (fun v=>.bl (pn ρ bd v && decide (n<Wl (ρ v)))) hS (Ar (by have:=Gv (pw ρ "board") us; omega)) (fun x hx H' hs R k=>k H' (Ao.refl H')) (fun x hx _ H' hs R k=>?_) (fun D3 H3 hD3 s3 hl3=>?_)⟩
  ·have hx':=List.mem_filter.mp hx
   obtain ⟨m,em⟩:=hB x hx'.1 (V.str.inj (of_decide_eq_true hx'.2))
   have hz:Wl (ρ x)=m:=by unfold Wl; rw [em]
   have hT:=((hR.mono s2).mono hs) x hx'.1
   have kk:=k H' (Ao.refl H')
   rw [hz] at kk
   obtain ⟨T0,rfl,hT⟩:=hT
   have kk:R (.bl (decide (V.str (ρ (.ref T0)).nm=V.str bd) && decide (n<m))) H':=kk
   have hT':H' T0=some (.tup (.str (ρ (.ref T0)).w :: .str (ρ (.ref T0)).nm::(ρ (.ref T0)).rest)):=hT
   rw [em] at hT'
   refine ⟨_,rfl,T0,_,_,_,rfl,rfl,.inl (.inl hT'),Aq (j:=1) rfl,_,rfl,rfl,_,rfl,?_⟩
   refine CV (fun g=>?_) (fun g=>?_)
   ·rw [g,Bool.true_and] at kk
    exact ⟨_,rfl,_,rfl,T0,_,_,_,rfl,rfl,.inl (.inl hT'),Aq (j:=2) rfl,_,_,rfl,rfl,kk⟩
   ·rw [(Bool.not_eq_true _).mp g,Bool.false_and] at kk
    exact kk
  ·refine ⟨D3,(us.filter (pw ρ "board")).map (fun v=>pn ρ bd v && decide (n<Wl (ρ v))),rfl,.inl (.inl ?_),?_⟩
   ·rw [hl3,List.filter_eq_self.mpr (fun _ _=>rfl),List.map_map]
    rfl
   ·have e:((us.filter (pw ρ "board")).map (fun v=>pn ρ bd v && decide (n<Wl (ρ v)))).any id=keyOf ρ us bd n:=by
     rw [List.any_map]
     rfl
    rw [e]
    exact q H3 (s2.trans s3)
noncomputable def X3:Sp:=fun vs H Q _=>∃ (r p:Addr) (ro:R) (us:List V) (ρ:V->R),vs=[.ref r,.ref p]/\H r=some (.tup ro.v)/\H p=some (.lst us)/\Rows H ρ us/\us.length<=500/\N7 ρ us ro/\Eg ρ us/\∀ H',Ao H H'->Q (.bl true) H'
theorem Wh:Az ["line","ahead","count","row"] ["line","ahead"] (Ag bu):=Bv
include N T in
theorem Yl:BJ P w K mg base Bk 3 aD.fSb aD.dSb ["line","ahead"] X3:=by
 have GCl:BJ P w K mg base Bk 1 aD.fCl aD.dCl ["rows"] W4:=ZR N T
 have GIk:BJ P w K mg base Bk 2 aD.fIk aD.dIk ["number","board","ahead"] Xh:=Zz N T
 refine N.FSb.1.ok Wh (fun vs H Q E h=>?_) (fun cdv A outer s H vs Q E hr h=>?_)
 ·refine byC fun w_=>?_;obtain ⟨r,p,ro,us,ρ,rfl,_⟩:=h;refine w_ ?_
  rfl
 ·refine byC fun w_=>?_;obtain ⟨r,p,ro,us,ρ,rfl,hr0,hp,hR,hl,hL,hB,q⟩:=h;refine w_ ?_
  have hrCl:Bc 1 _:=hr.mono (by decide)
  have hrIk:Bc 2 _:=hr.mono (by decide)
  obtain ⟨tML4,hML4⟩:=T.mostLn
  refine ⟨_,(Ac (BP (i:=2) Wh.nd rfl (Or.inl rfl) (Ak GCl hrCl rfl N.FCl.2.2 N.FCl.1.kp N.FCl.2.1 .nil A_ (Aa (pv 1) Ab)))
   (Ac (BP (i:=3) Wh.nd rfl (Or.inl rfl) (Bb Dc (pv 1) (BW G5 (BW G5 (Av BR rfl T.len PySem.boot_len (Aa (pv 1) Ab)) Ae) (pv 2)) (fun _ _=>rfl)))
   (Ac (Bh (PW.pt (FQ (BK Js (Bb (BL (K:=K) rfl) (pv 3) Ae (fun _ _=>rfl)) Am (BX _)) (Ek (BK S6 (pv 2) (CP (v:=.int 4) rfl hML4 ⟨tML4,rfl⟩) (BX _))))) (Af (Aw E_)) BZ)
   (Af (Aw (Dd (Dy Gx (Bb (BL (K:=K) rfl) (pv 0) Ae (fun _ _=>rfl)) (Bb (BL (K:=K) rfl) (pv 0) Ae (fun _ _=>rfl)) (BX _)) (DN (Ak GIk hrIk rfl N.FIk.2.2 N.FIk.1.kp N.FIk.2.1 .nil A_ (Aa (Bb (BL (K:=K) rfl) (pv 0) Ae (fun _ _=>rfl)) (Aa (Bb (BL (K:=K) rfl) (pv 3) Ae (fun _ _=>rfl)) (Aa (pv 1) Ab))))))))))),?_⟩
  refine byC fun w_=>?_;obtain ⟨cnt,v,sh,lo,hi,bd,rs,er,hc,h4,hv,hw,hrest,hle,hk⟩:=hL.ex;refine w_ ?_
  have hr1:H r=some (.tup [.str ro.w,.str ro.nm,.int sh,.int lo,.int hi]):=by rw [hr0,← er]
  obtain ⟨r2,rfl,hr2⟩:=hR v (List.mem_of_getElem? hv)
  have hr2':H r2=some (.tup (.str (ρ (.ref r2)).w :: .str (ρ (.ref r2)).nm :: .str bd::rs)):=by rw [hr2,← hrest]
  have hlt:=hc.lt
  have ei:((us.length:Nat):Int) - 1 - ((cnt:Nat):Int)=((us.length - 1 - cnt:Nat):Int):=by omega
  have hS:Cp K H p us:=.inl (.inl hp)
  refine ⟨_,rfl,p,us,ρ,cnt,rfl,hp,hR,hl,hc,?_⟩
  refine ⟨_,rfl,_,rfl,p,us,rfl,.inl hS,_,_,rfl,rfl,_,rfl,_,_,rfl,rfl,p,us,_,_,rfl,rfl,hS,(by rw [ei]; exact Aq hv),?_⟩
  refine ⟨_,rfl,r2,_,_,_,rfl,rfl,.inl (.inl hr2'),Aq (j:=0) rfl,rfl,_,rfl,U5 (congrArg V.str hw) ?_⟩
  refine ⟨_,rfl,_,_,rfl,rfl,_,rfl,?_⟩
  refine CV (fun z=>?_) (fun _=>?_)
  ·have:=of_decide_eq_true z
   omega
  refine ⟨_,rfl,r,_,_,_,rfl,rfl,.inl (.inl hr1),Aq (j:=3) rfl,_,rfl,r,_,_,_,rfl,rfl,.inl (.inl hr1),Aq (j:=4) rfl,_,_,rfl,rfl,_,rfl,?_⟩
  refine CV (fun _=>?_) (fun z=>absurd (decide_eq_true hle) z)
  refine ⟨_,rfl,r,_,_,_,rfl,rfl,.inl (.inl hr1),Aq (j:=4) rfl,_,rfl,r2,_,_,_,rfl,rfl,.inl (.inl hr2'),Aq (j:=2) rfl,_,rfl,hi,bd,p,us,ρ,rfl,hp,hR,hl,hB,fun H' s'=>?_⟩
  rw [hk]
  exact q H' s'
noncomputable def Y0:Sp:=fun vs H Q _=>∃ (r p:Addr) (ro:R) (us:List V) (ρ:V->R) (ts:List Str),vs=[.ref r,.ref p]/\H r=some (.tup ro.v)/\H p=some (.lst us)/\Rows H ρ us/\us.length<=500/\V.str ro.nm::ro.rest=ts.map V.str/\ts.Nodup/\ts.length<=24/\(∀ t∈ts,isNm t/\S_ ρ us "stop" t=true)/\∀ H',Ao H H'->Q (.bl true) H'
theorem Yg:Az ["row","ahead","names"] ["row","ahead"] (Ag aW):=Bv
include N T in
theorem ZF:BJ P w K mg base Bk 5 aD.fIs aD.dIs ["row","ahead"] Y0:=by
 have GTo:BJ P w K mg base Bk 3 aD.fTo aD.dTo ["rows","word","thing"] Vu:=U_ N T
 refine N.FIs.1.ok Yg (fun vs H Q E h=>?_) (fun cdv A outer s H vs Q E hr h=>?_)
 ·refine byC fun w_=>?_;obtain ⟨r,p,ro,us,ρ,ts,rfl,_⟩:=h;refine w_ ?_
  rfl
 ·refine byC fun w_=>?_;obtain ⟨r,p,ro,us,ρ,ts,rfl,hr0,hp,hR,hl,ets,nd,h24,hts,q⟩:=h;refine w_ ?_
  have hrTo:Bc 3 _:=hr.mono (by decide)
  refine ⟨_,(Ac (BP (i:=2) Yg.nd rfl (Or.inl rfl) (Fb NQ (pv 0) (Fo Ae) Hb))
   (Ac (Bh (PW.pt (FQ (BK DP (Av BR rfl T.len PySem.boot_len (Aa (pv 2) Ab)) Ae (BX _)) (Ek (Ci (Cg (Av (GJ rfl) rfl T.all PyProof.Rows.boot_all (Aa (Bm rfl (Bd (osc:=Ag aW) (N:=["row","ahead","names"]) rfl rfl (by decide +kernel)) (Hv (pv 2)) (fun _ _ _ _=>CK) (fun _ _ _ _=>(Ak GTo hrTo rfl N.FTo.2.2 N.FTo.1.kp N.FTo.2.1 .nil A_ (Aa (pv 2) (Aa Am (Aa (pv 0) Ab)))))) Ab))))))) (Af (Aw E_)) BZ)
   (Af (Aw (Dy DP (Av Jo rfl T.len PySem.boot_len (Aa (Ce (QM rfl) rfl T.set PyProof.Rows.boot_set (Aa (pv 2) Ab)) Ab)) (Av BR rfl T.len PySem.boot_len (Aa (pv 2) Ab)) (BX _)))))),?_⟩
  have hv:ro.v=V.str ro.w::ts.map V.str:=by
   show V.str ro.w::(V.str ro.nm::ro.rest)=_
   rw [ets]
  rw [hv] at hr0
  have tne:1<=ts.length:=by
   cases ts with
   | nil=>cases ets
   | cons a b=>exact Nat.succ_le_succ (Nat.zero_le _)
  have hcut:En (V.str ro.w::ts.map V.str) (some 1) none=ts.map V.str:=by
   unfold En
   have e1:HT.DY (V.str ro.w::ts.map V.str).length 0 (some 1)=1:=by
    rw [show (some (1:Int))=some ((1:Nat):Int) from rfl,HT.Es]
    simp
   rw [e1,HT.JR]
   simp
   exact List.take_of_length_le (by rw [List.length_map]; exact Nat.le_refl _)
  refine ⟨_,rfl,_,rfl,r,_,rfl,.inl (.inl hr0),?_,fun n0 hn0=>?_⟩
  ·rintro ⟨z,_⟩
   have e1:HT.DY (V.str ro.w::ts.map V.str).length 0 (some 1)=1:=by
    rw [show (some (1:Int))=some ((1:Nat):Int) from rfl,HT.Es]
    simp
   rw [e1] at z
   cases z
  rw [hcut]
  obtain ⟨H1,eqH,s1,a1⟩:=FJ (o:=HO.tup (ts.map V.str)) hn0
  rw [eqH]
  have hT:Ey K H1 n0 (ts.map V.str):=.inl (.inl a1)
  have ltm:(ts.map V.str).length=ts.length:=List.length_map ..
  refine ⟨_,rfl,n0,_,rfl,.inr hT,rfl,_,rfl,CV (fun z=>?_) (fun _=>?_)⟩
  ·exfalso
   have:=V.int.inj (of_decide_eq_true z)
   omega
  refine ⟨_,rfl,n0,rfl,⟨_,hT⟩,JC (K:=K) (xs:=ts.map V.str) (fun _=>true) (fun _=>.bl true) hT (Ar (by omega)) (fun x hx H' hs R k=>k H' (Ao.refl H')) (fun x hx _ H' hs R k=>?_) (fun D H2 hD s2 hl2=>?_)⟩
  ·obtain ⟨z,hz,rfl⟩:=List.mem_map.mp hx
   obtain ⟨z1,z2⟩:=hts z hz
   refine ⟨_,rfl,_,rfl,p,us,"stop",z,ρ,rfl,hs _ _ (s1 _ _ hp),(hR.mono s1).mono hs,hl,z1,fun H3 s3=>?_⟩
   rw [z2]
   exact k H3 s3
  ·refine ⟨D,List.replicate ts.length true,rfl,.inl (.inl ?_),_,rfl,?_⟩
   ·rw [hl2,List.filter_eq_self.mpr (fun _ _=>rfl),List.map_map]
    congr 2
    refine List.ext_getElem? fun i=>?_
    rw [List.getElem?_map,List.getElem?_map,List.getElem?_replicate]
    by_cases hi:i<ts.length
    ·rw [List.getElem?_eq_getElem hi,if_pos hi]
     rfl
    ·rw [List.getElem?_eq_none (by omega),if_neg hi]
     rfl
   have ea:(List.replicate ts.length true).all id=true:=by simp
   rw [ea]
   refine Cy ?_
   have hT2:=s2 _ _ a1
   refine ⟨_,rfl,n0,ts,rfl,.inl (.inl hT2),by omega,fun S hS=>?_⟩
   have s3:=Ax (o:=Lw P w S (ts.foldl Ws.Eh [])) hS
   refine ⟨S,_,rfl,Ah,_,rfl,n0,_,rfl,.inr (.inl (.inl (s3 _ _ hT2))),rfl,?_⟩
   have e:ts.foldl Ws.Eh []=ts:=(Jw ts [] (by rw [List.nil_append]; exact nd)).trans (List.nil_append _)
   have e2:decide (V.int (((ts.foldl Ws.Eh []).length:Nat):Int)=V.int (((ts.map V.str).length:Nat):Int))=true:=decide_eq_true (by rw [e,ltm])
   rw [e2]
   exact q _ (s1.trans (s2.trans s3))
noncomputable def WF (K:PySem.W.Frag) (aB aP aM:Addr):Sp:=fun vs H Q _=>∃ (r p:Addr) (ro:R) (us:List V) (ρ:V->R),vs=[.ref r,.ref p]/\H r=some (.tup ro.v)/\H p=some (.lst us)/\Rows H ρ us/\us.length<=500/\Gh K aB aP aM ρ us ro/\∀ H',Ao H H'->Q (.bl true) H'
theorem bQ:Az ["row","ahead"] ["row","ahead"] (Ag bD):=Bv
include N T in
theorem Zh:BJ P w K mg base Bk 6 aD.fWm aD.dWm ["row","ahead"] (WF K aB aP aM):=by
 have GHp:BJ P w K mg base Bk 5 aD.fHp aD.dHp ["row","ahead"] (Zu K aB aP):=W8 N T
 have GSb:BJ P w K mg base Bk 3 aD.fSb aD.dSb ["line","ahead"] X3:=Yl N T
 have GIs:BJ P w K mg base Bk 5 aD.fIs aD.dIs ["row","ahead"] Y0:=ZF N T
 refine N.FWm.1.ok bQ (fun vs H Q E h=>?_) (fun cdv A outer s H vs Q E hr h=>?_)
 ·refine byC fun w_=>?_;obtain ⟨r,p,ro,us,ρ,rfl,_⟩:=h;refine w_ ?_
  rfl
 ·refine byC fun w_=>?_;obtain ⟨r,p,ro,us,ρ,rfl,hr0,hp,hR,hl,ok3,q⟩:=h;refine w_ ?_
  have hrHp:Bc 5 _:=hr.mono (by decide)
  have hrSb:Bc 3 _:=hr.mono (by decide)
  have hrIs:Bc 5 _:=hr.mono (by decide)
  refine ⟨_,(Ac (Bh (BK DP (Bb (BL (K:=K) rfl) (pv 0) Ae (fun _ _=>rfl)) Am (BX _)) (Af (Aw (Ak GIs hrIs rfl N.FIs.2.2 N.FIs.1.kp N.FIs.2.1 .nil A_ (Aa (pv 0) (Aa (pv 1) Ab))))) BZ)
   (Ac (Bh (BK DP (Bb (BL (K:=K) rfl) (pv 0) Ae (fun _ _=>rfl)) Am (BX _)) (Af (Aw (Dd (Ak GHp hrHp rfl N.FHp.2.2 N.FHp.1.kp N.FHp.2.1 .nil A_ (Aa (pv 0) (Aa (pv 1) Ab))) (DN (Ak GSb hrSb rfl N.FSb.2.2 N.FSb.1.kp N.FSb.2.1 .nil A_ (Aa (pv 0) (Aa (pv 1) Ab))))))) BZ)
   (Af (Aw (Dd (RZ (Ry (Bb (BL (K:=K) rfl) (pv 0) Ae (fun _ _=>rfl)) (CP (v:=.ref aP) rfl T.mP rfl))) (DN (Ak GHp hrHp rfl N.FHp.2.2 N.FHp.1.kp N.FHp.2.1 .nil A_ (Aa (pv 0) (Aa (pv 1) Ab))))))))),?_⟩
  refine ⟨_,rfl,r,_,_,_,rfl,rfl,.inl (.inl hr0),Aq (j:=0) rfl,rfl,_,rfl,?_⟩
  rcases ok3 with ok | ok
  case inr =>
   refine byC fun w_=>?_;obtain ⟨ts,ets,nd,h24,hts⟩:=ok.ts;refine w_ ?_
   refine CV (fun _=>?_) (fun z=>absurd (decide_eq_true (congrArg V.str ok.w)) z)
   exact ⟨_,rfl,_,rfl,r,p,ro,us,ρ,ts,rfl,hr0,hp,hR,hl,ets,nd,h24,hts,q⟩
  refine byC fun w_=>?_;obtain ⟨ap,ps,hn,hap,hlen,hps,hok⟩:=ok.parts;refine w_ ?_
  refine CV (fun z=>absurd (V.str.inj (of_decide_eq_true z)) ok.ns) (fun _=>?_)
  refine ⟨_,rfl,r,_,_,_,rfl,rfl,.inl (.inl hr0),Aq (j:=0) rfl,rfl,_,rfl,?_⟩
  refine CV (fun z=>?_) (fun _=>?_)
  ·have hline:=ok.line (V.str.inj (of_decide_eq_true z))
   refine ⟨_,rfl,_,rfl,r,p,ro.w,_,us,ρ,ap,ps,rfl,hr0,hp,hR,hl,hn,hap,hlen,hps,hok,fun H1 s1=>⟨_,rfl,Eo ?_⟩⟩
   exact ⟨_,rfl,_,rfl,r,p,ro,us,ρ,rfl,s1 _ _ hr0,s1 _ _ hp,hR.mono s1,hl,hline,ok.Wx,fun H2 s2=>q H2 (s1.trans s2)⟩
  refine ⟨_,rfl,r,_,_,_,rfl,rfl,.inl (.inl hr0),Aq (j:=0) rfl,aP,_,_,rfl,rfl,T.dP,hn,_,rfl,Eo ?_⟩
  exact ⟨_,rfl,_,rfl,r,p,ro.w,_,us,ρ,ap,ps,rfl,hr0,hp,hR,hl,hn,hap,hlen,hps,hok,q⟩
noncomputable def W2 (K:PySem.W.Frag) (aM:Addr):Sp:=fun vs H Q _=>∃ (p:Addr) (w:Str) (us:List V) (ρ:V->R),vs=[.str w,.ref p]/\H p=some (.lst us)/\Rows H ρ us/\us.length<=500/\(PySem.W.nsIn K aM w=some none \/ ∃ (m:Int) (t:Tok),PySem.W.nsIn K aM w=some (some (.int m t))/\(((us.filter (pw ρ w)).length:Nat):Int)<m)/\∀ H',Ao H H'->Q (.bl true) H'
theorem bf:Az ["word","ahead"] ["word","ahead"] (Ag cU):=Bv
include N T in
theorem Zq:BJ P w K mg base Bk 2 aD.fHr aD.dHr ["word","ahead"] (W2 K aM):=by
 have GRo:BJ P w K mg base Bk 1 aD.fRo aD.dRo ["rows","word"] QW:=Mq N T
 refine N.FHr.1.ok bf (fun vs H Q E h=>?_) (fun cdv A outer s H vs Q E hr h=>?_)
 ·refine byC fun w_=>?_;obtain ⟨p,w,us,ρ,rfl,_⟩:=h;refine w_ ?_
  rfl
 ·refine byC fun w_=>?_;obtain ⟨p,w,us,ρ,rfl,hp,hR,hl,hroom,q⟩:=h;refine w_ ?_
  have hrRo:Bc 1 _:=hr.mono (by decide)
  refine ⟨_,(Af (Aw (Zw (RZ (QG (pv 0) (CP (v:=.ref aM) rfl T.mM rfl))) (DN (Dy Et (Av BR rfl T.len PySem.boot_len (Aa (Ak GRo hrRo rfl N.FRo.2.2 N.FRo.1.kp N.FRo.2.1 .nil A_ (Aa (pv 1) (Aa (pv 0) Ab))) Ab)) (K5 (CP (v:=.ref aM) rfl T.mM rfl) (pv 0) (fun _ _=>rfl)) (BX _)))))),?_⟩
  rcases hroom with hn | ⟨m,t,hn,hm⟩
  ·refine ⟨_,rfl,aM,w,_,rfl,rfl,T.dM,hn,_,rfl,Eo ?_⟩
   exact q H (Ao.refl H)
  refine ⟨_,rfl,aM,w,_,rfl,rfl,T.dM,hn,_,rfl,Cy ?_⟩
  refine ⟨_,rfl,_,rfl,p,us,w,ρ,rfl,hp,hR,hl,fun D H2 hD s2 hl2=>?_⟩
  refine ⟨D,_,rfl,.inl (.inl (.inl hl2)),_,rfl,aM,w,.int m,_,rfl,rfl,T.dM,hn,⟨t,rfl⟩,_,_,rfl,rfl,?_⟩
  show Q (.bl (decide ((((us.filter (pw ρ w)).length:Nat):Int)<m))) H2
  rw [decide_eq_true hm]
  exact q H2 s2
noncomputable def Xb (K:PySem.W.Frag) (aB aP aM:Addr):Sp:=WF K aB aP aM
theorem bT:Az ["thing","ahead"] ["thing","ahead"] (Ag cL):=Bv
include N T in
theorem Ye:BJ P w K mg base Bk 7 aD.fIr aD.dIr ["thing","ahead"] (Xb K aB aP aM):=by
 have GWm:BJ P w K mg base Bk 6 aD.fWm aD.dWm ["row","ahead"] (WF K aB aP aM):=Zh N T
 have GHr:BJ P w K mg base Bk 2 aD.fHr aD.dHr ["word","ahead"] (W2 K aM):=Zq N T
 refine N.FIr.1.ok bT (fun vs H Q E h=>?_) (fun cdv A outer s H vs Q E hr h=>?_)
 ·refine byC fun w_=>?_;obtain ⟨r,p,ro,us,ρ,rfl,_⟩:=h;refine w_ ?_
  rfl
 ·refine byC fun w_=>?_;obtain ⟨r,p,ro,us,ρ,rfl,hr0,hp,hR,hl,ok,q⟩:=h;refine w_ ?_
  have hrWm:Bc 6 _:=hr.mono (by decide)
  have hrHr:Bc 2 _:=hr.mono (by decide)
  refine ⟨_,(Ac (Bh (PW.pt (FQ (Ci (Cg (Av Bo rfl T.isin PyProof.Rows.boot_isinstance (Aa (pv 0) (Aa (CW (v:=.ty "tuple") rfl T.tuple PyProof.Rows.boot_tuple rfl) Ab))))) (FQ (BK DP (Av BR rfl T.len PySem.boot_len (Aa (pv 0) Ab)) Ae (BX _)) (Ek (Ci (Cg (Av Bo rfl T.isin PyProof.Rows.boot_isinstance (Aa (Bb (BL (K:=K) rfl) (pv 0) Ae (fun _ _=>rfl)) (Aa (CW (v:=.ty "str") rfl T.str PyProof.Rows.boot_str rfl) Ab))))))))) (Af (Aw E_)) BZ)
   (Af (Aw (Dd (Ak GWm hrWm rfl N.FWm.2.2 N.FWm.1.kp N.FWm.2.1 .nil A_ (Aa (pv 0) (Aa (pv 1) Ab))) (DN (Ak GHr hrHr rfl N.FHr.2.2 N.FHr.1.kp N.FHr.2.1 .nil A_ (Aa (Bb (BL (K:=K) rfl) (pv 0) Ae (fun _ _=>rfl)) (Aa (pv 1) Ab)))))))),?_⟩
  have hroom:PySem.W.nsIn K aM ro.w=some none \/ ∃ (m:Int) (t:Tok),PySem.W.nsIn K aM ro.w=some (some (.int m t))/\(((us.filter (pw ρ ro.w)).length:Nat):Int)<m:=Gh.room ok
  refine ⟨_,rfl,_,"tuple",_,_,rfl,.tup hr0,Vm,_,rfl,Cy ?_⟩
  refine ⟨_,rfl,r,_,rfl,.inr (.inl (.inl hr0)),rfl,_,rfl,?_⟩
  refine CV (fun z=>?_) (fun _=>?_)
  ·exfalso
   have:=of_decide_eq_true z
   have:=V.int.inj this
   simp at this
   omega
  refine ⟨_,rfl,r,_,_,_,rfl,rfl,.inl (.inl hr0),Aq (j:=0) rfl,_,"str",_,_,rfl,.str _,JG,_,rfl,Cy ?_⟩
  refine ⟨_,rfl,_,rfl,r,p,ro,us,ρ,rfl,hr0,hp,hR,hl,ok,fun H1 s1=>⟨_,rfl,Eo ?_⟩⟩
  exact ⟨_,rfl,r,_,_,_,rfl,rfl,.inl (.inl (s1 _ _ hr0)),Aq (j:=0) rfl,_,rfl,p,ro.w,us,ρ,rfl,s1 _ _ hp,hR.mono s1,hl,hroom,fun H2 s2=>q H2 (s1.trans s2)⟩
noncomputable def Y4 (K:PySem.W.Frag) (aB aP aM:Addr):Sp:=fun vs H Q _=>∃ (p:Addr) (us:List V) (ρ:V->R),vs=[.ref p]/\H p=some (.lst us)/\Rows H ρ us/\1<=us.length/\us.length<=150/\(∀ (i:Nat) v,us[i]? = some v->Gh K aB aP aM ρ (us.take i) (ρ v))/\(us.filter (pw ρ "board")).isEmpty=false/\∀ H',Ao H H'->Q .non H'
theorem Vq:Az ["rows","at","row"] ["rows"] (Ag cD):=Bv
include N T in
theorem Yj:BJ P w K mg base Bk 8 aD.fCk aD.dCk ["rows"] (Y4 K aB aP aM):=by
 have GIr:BJ P w K mg base Bk 7 aD.fIr aD.dIr ["thing","ahead"] (Xb K aB aP aM):=Ye N T
 have GRo:BJ P w K mg base Bk 1 aD.fRo aD.dRo ["rows","word"] QW:=Mq N T
 refine N.FCk.1.ok Vq (fun vs H Q E h=>?_) (fun cdv A outer s H vs Q E hr h=>?_)
 ·refine byC fun w_=>?_;obtain ⟨p,us,ρ,rfl,_⟩:=h;refine w_ ?_
  rfl
 ·refine byC fun w_=>?_;obtain ⟨p,us,ρ,rfl,hp,hR,h1,h2,hok,hb,q⟩:=h;refine w_ ?_
  have hrIr:Bc 7 _:=hr.mono (by decide)
  have hrRo:Bc 1 _:=hr.mono (by decide)
  obtain ⟨tMR,hMR⟩:=T.mostR
  refine ⟨_,(Ac (Bh (PW.pt (FQ (Ci (Cg (Av Bo rfl T.isin PyProof.Rows.boot_isinstance (Aa (pv 0) (Aa (CW (v:=.ty "list") rfl T.list PyProof.Rows.boot_list rfl) Ab))))) (Ek (Ci (R4 Gx Gx Ae (Av BR rfl T.len PySem.boot_len (Aa (pv 0) Ab)) (CP (v:=.int 150) rfl hMR ⟨tMR,rfl⟩)))))) (Af FN) BZ)
   (Ac (Dg PassesOwn.never rfl (K1 rfl T.enumerate (Aa (pv 0) Ab)) (Ks rfl (Dz (Bx (i:=1) Vq.nd rfl (Or.inl rfl)) (Dz (Bx (i:=2) Vq.nd rfl (Or.inl rfl)) Iu))) (Af (Bh (Ci (Cg (Ak GIr hrIr rfl N.FIr.2.2 N.FIr.1.kp N.FIr.2.1 .nil A_ (Aa (pv 2) (Aa (Fb O4 (pv 0) Hb (Fo (pv 1))) Ab))))) (Af FN) BZ)))
   (Af (Bh (Ci (RN (Ak GRo hrRo rfl N.FRo.2.2 N.FRo.1.kp N.FRo.2.1 .nil A_ (Aa (pv 0) (Aa Am Ab))) (fun _=>rfl))) (Af FN) BZ)))),?_⟩
  have hS:Cp K H p us:=.inl (.inl hp)
  refine ⟨_,rfl,_,"list",_,_,rfl,.lst hp,RX,_,rfl,Cy ?_⟩
  refine ⟨_,rfl,p,_,rfl,.inl hS,_,_,rfl,rfl,_,rfl,?_⟩
  refine CV (fun _=>?_) (fun z=>absurd (decide_eq_true (by omega)) z)
  refine ⟨_,_,rfl,rfl,_,rfl,?_⟩
  have e150:decide ((us.length:Int)<=150)=true:=decide_eq_true (by omega)
  rw [e150]
  refine Cy ?_
  refine ⟨_,rfl,p,rfl,⟨_,hS⟩,Iw (K:=K) (a:=p) (xs:=us) (fun i σ H4=>Ao H H4/\∃ v1 v2,σ=[some (.ref p),v1,v2]) ⟨Ao.refl H,_,_,rfl⟩ (fun i σ H4 _ h=>h.1.seq hS) ?_ ?_⟩
  ·rintro i x σ H4 T0 hx ⟨s4,v1,v2,rfl⟩ hT
   have s5:=Ax (o:=HO.tup [.int (i:Int),x]) hT
   refine ⟨T0,_,rfl,.inl (.inl Ah),rfl,_,_,rfl,_,_,rfl,rfl,?_⟩
   generalize upd H4 T0 (HO.tup [.int (i:Int),x])=H5 at s5 ⊢
   have s05:=s4.trans s5
   have hi:i<us.length:=(List.getElem?_eq_some_iff.mp hx).1
   obtain ⟨r,rfl,hr0⟩:=(hR.mono s05) x (List.mem_of_getElem? hx)
   refine ⟨_,rfl,_,rfl,_,rfl,_,rfl,p,_,rfl,s05.seq hS,fun p6 hp6=>?_⟩
   have s6:=Ax (o:=HO.lst (En us none (some (i:Int)))) hp6
   have a6:upd H5 p6 (HO.lst (En us none (some (i:Int)))) p6=_:=Ah
   generalize upd H5 p6 (HO.lst (En us none (some (i:Int))))=H6 at s6 a6 ⊢
   rw [SQ us i (by omega)] at a6
   have s06:=s05.trans s6
   refine ⟨r,p6,ρ (.ref r),us.take i,ρ,rfl,s6 _ _ hr0,a6,(hR.mono s06).sub fun v hv=>List.mem_of_mem_take hv,by rw [List.length_take]; omega,hok i _ hx,fun H7 s7=>⟨_,rfl,Cy ?_⟩⟩
   exact ⟨s06.trans s7,_,_,rfl⟩
  ·rintro σ H4 ⟨s4,v1,v2,rfl⟩
   refine ⟨_,rfl,p,us,"board",ρ,rfl,s4 _ _ hp,hR.mono s4,by omega,fun D H5 hD s5 hl5=>?_⟩
   refine ⟨_,.inl ⟨_,.inl (.inl hl5),rfl⟩,?_⟩
   rw [hb]
   exact Cy (q H5 (s4.trans s5))
noncomputable def XD:Sp:=fun vs H Q _=>∃ (p:Addr) (ts:List Str),vs=[.ref p]/\H p=some (.lst (ts.map V.str))/\ts.length<=300/\ts.Nodup/\∀ D (kvs:List (Key × V)) H',H D=none->Ao H H'->H' D=some (.dK kvs)->(∀ (i:Nat) t,ts[i]? = some t->CJ kvs (Sum.inr t)=some (.int (i:Nat)))->(∀ t,t ∉ ts->CJ kvs (Sum.inr t)=none)->Q (.ref D) H'
theorem Ua:Az ["names","numbers","number","name"] ["names"] (Ag eU):=Bv
include N T in
theorem Zc:BJ P w K mg base Bk 1 aD.fNu aD.dNu ["names"] XD:=by
 refine N.FNu.1.ok Ua (fun vs H Q E h=>?_) (fun cdv A outer s H vs Q E hr h=>?_)
 ·obtain ⟨p,ts,rfl,_⟩:=h
  rfl
 ·refine byC fun w_=>?_;obtain ⟨p,ts,rfl,hp,hl,nd,q⟩:=h;refine w_ ?_
  have hu:=Fd hr
  refine ⟨_,(Ac (BP (i:=1) Ua.nd rfl (Or.inl rfl) RV)
   (Ac (Dg PassesOwn.never rfl (K1 rfl T.enumerate (Aa (pv 0) Ab)) (Ks rfl (Dz (Bx (i:=2) Ua.nd rfl (Or.inl rfl)) (Dz (Bx (i:=3) Ua.nd rfl (Or.inl rfl)) Iu))) (Af (K3 hu (pv 1) (pv 3) (pv 2) rfl)))
   (Af (Aw (pv 1))))),?_⟩
  intro D hD
  have s0:=Ax (o:=HO.dK []) hD
  have hS:Cp K H p (ts.map V.str):=.inl (.inl hp)
  refine ⟨_,rfl,p,rfl,⟨_,s0.seq hS⟩,Iw (K:=K) (a:=p) (xs:=ts.map V.str) (fun i σ H4=>Ao H H4/\∃ (kvs:List (Key × V)),H4 D=some (.dK kvs)/\kvs.length<=i/\(∀ (j:Nat) t,j<i->ts[j]? = some t->CJ kvs (Sum.inr t)=some (.int (j:Nat)))/\(∀ t,t ∉ ts->CJ kvs (Sum.inr t)=none)/\∃ v2 v3,σ=[some (.ref p),some (.ref D),v2,v3])
   ⟨s0,[],Ah,Nat.le_refl _,fun j t hj=>absurd hj (Nat.not_lt_zero _),fun t _=>Sy,_,_,rfl⟩ (fun i σ H4 _ h=>h.1.seq hS) ?_ ?_⟩
  ·rintro i x σ H4 T0 hx ⟨s4,kvs,hd,hk,hv,hv0,v2,v3,rfl⟩ hT
   rw [List.getElem?_map] at hx
   obtain ⟨t,ht,rfl⟩:=Option.map_eq_some_iff.mp hx
   have hi:i<ts.length:=(List.getElem?_eq_some_iff.mp ht).1
   have s5:=Ax (o:=HO.tup [.int (i:Int),.str t]) hT
   refine ⟨T0,_,rfl,.inl (.inl Ah),rfl,_,_,rfl,_,_,rfl,rfl,?_⟩
   generalize upd H4 T0 (HO.tup [.int (i:Int),.str t])=H5 at s5 ⊢
   refine ⟨_,rfl,_,rfl,_,rfl,D,_,rfl,M8.k (k:=Sum.inr t) (s5 _ _ hd) (Ar (by omega)),?_⟩
   refine ⟨fun b u e=>?_,putK kvs (Sum.inr t) (.int (i:Int)),Ah,Nat.le_trans (Bt _ _ _) (by omega),fun j t' hj ht'=>?_,fun t' ht'=>(by rw [BV,if_neg fun z=>ht' (by rw [Sum.inr.inj z]; exact List.mem_of_getElem? ht)]; exact hv0 t' ht'),_,_,rfl⟩
   ·rw [An (Al e hD)]
    exact s5 _ _ (s4 _ _ e)
   ·rw [BV]
    by_cases e:t'=t
    ·subst e
     have:j=i:=by
      obtain ⟨h1,e1⟩:=List.getElem?_eq_some_iff.mp ht'
      obtain ⟨h2,e2⟩:=List.getElem?_eq_some_iff.mp ht
      exact (List.getElem_inj nd).mp (e1.trans e2.symm)
     subst this
     rw [if_pos rfl]
    ·rw [if_neg fun z=>e (Sum.inr.inj z)]
     refine hv j t' ?_ ht'
     rcases Nat.lt_succ_iff_lt_or_eq.mp hj with z | z
     ·exact z
     ·subst z
      rw [ht] at ht'
      exact absurd (Option.some.inj ht').symm e
  ·rintro σ H4 ⟨s4,kvs,hd,hk,hv,hv0,v2,v3,rfl⟩
   refine ⟨_,rfl,q D kvs H4 hD s4 hd (fun i t ht=>hv i t ?_ ht) hv0⟩
   rw [List.length_map]
   exact (List.getElem?_eq_some_iff.mp ht).1
theorem YZ {n:Nat} (h:n<=3000):n<sizeLine:=Nat.lt_of_le_of_lt h (by decide)
noncomputable def YX:Sp:=fun vs H Q _=>∃ (p:Addr) (as:List Th) (us:List V),vs=[.ref p]/\H p=some (.lst us)/\Paired (fun (a:Th) y=>TupAt H (tV a) y) as us/\as.length<=12/\(∀ a∈as,a.2.1<=97)/\∀ D ys H',H D=none->Ao H H'->H' D=some (.lst ys)->Paired (fun q y=>TupAt H' (qV q) y) (O8 (as.map tN)) ys->Q (.ref D) H'
theorem Tp:Az ["things","places","number","thing"] ["things"] (Ag az):=Bv
include N T in
theorem W7:BJ P w K mg base Bk 1 aD.fPl aD.dPl ["things"] YX:=by
 refine N.FPl.1.ok Tp (fun vs H Q E h=>?_) (fun cdv A outer s H vs Q E hr h=>?_)
 ·refine byC fun w_=>?_;obtain ⟨p,as,us,rfl,_⟩:=h;refine w_ ?_
  rfl
 ·refine byC fun w_=>?_;obtain ⟨p,as,us,rfl,hp,hb,hl,hz,q⟩:=h;refine w_ ?_
  refine ⟨_,(Ac (BP (i:=1) Tp.nd rfl (Or.inl rfl) (Cm Ab))
   (Ac (Dg PassesOwn.never rfl (K1 rfl T.enumerate (Aa (pv 0) Ab)) (Ks rfl (Dz (Bx (i:=2) Tp.nd rfl (Or.inr rfl)) (Dz (Bx (i:=3) Tp.nd rfl (Or.inl rfl)) Iu))) (Af (CZ (DW PySem.F.plainAttrs_list PySem.F.slot_list_extend PySem.F.type_list_extend QB (pv 1) (Aa (Bm rfl (Bd (osc:=Ag az) (N:=["things","places","number","thing"]) rfl rfl (by decide +kernel)) (FT rfl T.range (Aa (Bb (BL (K:=K) rfl) (pv 3) Ae (fun _ _=>rfl)) Ab)) (fun _ _ _ _=>CK) (fun _ _ _ _=>(Cd (Aa (pv 3) (Aa (pv 0) Ab))))) Ab)))))
   (Af (Aw (pv 1))))),?_⟩
  refine ⟨Bu (by simp),fun D hD=>?_⟩
  have s0:=Ax (o:=HO.lst []) hD
  have hS:Cp K H p us:=.inl (.inl hp)
  have hul:=hb.length
  refine ⟨_,rfl,p,rfl,⟨_,s0.seq hS⟩,Iw (K:=K) (a:=p) (xs:=us) (fun i σ H4=>Ao H H4/\∃ ys,H4 D=some (.lst ys)/\Paired (fun q y=>TupAt H4 (qV q) y) (O8 ((as.map tN).take i)) ys/\∃ v2 v3,σ=[some (.ref p),some (.ref D),v2,v3])
   ⟨s0,[],Ah,.nil,_,_,rfl⟩ (fun i σ H4 _ h=>h.1.seq hS) ?_ ?_⟩
  ·rintro i x σ H4 T0 hx ⟨s4,ys,hd,hpr,v2,v3,rfl⟩ hT
   obtain ⟨b,hbi,hxb⟩:=Lh hb hx
   have hi:i<as.length:=(List.getElem?_eq_some_iff.mp hbi).1
   have hb97:=hz b (List.mem_of_getElem? hbi)
   have hbi':(as.map tN)[i]? = some (tN b):=by rw [List.getElem?_map,hbi]; rfl
   have s5:=Ax (o:=HO.tup [.int (i:Int),x]) hT
   refine ⟨T0,_,rfl,.inl (.inl Ah),rfl,_,_,rfl,_,_,rfl,rfl,?_⟩
   generalize upd H4 T0 (HO.tup [.int (i:Int),x])=H5 at s5 ⊢
   obtain ⟨r,rfl,hr0⟩:=hxb.mono (s4.trans s5)
   have p5:=Aj s5 hpr
   have d5:=s5 _ _ hd
   refine ⟨_,rfl,.inl ⟨rfl,_,.inl (.inl d5)⟩,_,rfl,r,_,_,_,rfl,rfl,.inl (.inl hr0),Aq (j:=1) rfl,_,rfl,by omega,by omega,?_⟩
   rw [Int.toNat_natCast]
   refine Qm (n:=b.2.1) (fun e=>qV (i,e)) (Ar (by omega)) (fun e he H6 s6 R k=>?_) (fun D6 H6 zs hD6 s6 hl6 hz6=>?_)
   ·refine ⟨_,rfl,_,rfl,by show 2<=sizeLine; decide,fun T6 hT6=>?_⟩
    exact k _ _ (Ax hT6) ⟨T6,rfl,Ah⟩
   ·have ly:=(Aj s6 p5).length
    have lz:=hz6.length
    have lp:=Tt ((as.map tN).take i) 97 fun b hb=>by
     obtain ⟨a,ha,rfl⟩:=List.mem_map.mp (List.mem_of_mem_take hb)
     exact hz a ha
    rw [List.length_take,List.length_map] at lp
    rw [List.length_range] at lz
    have:min i as.length * 97<=12 * 97:=Nat.mul_le_mul_right _ (by omega)
    refine ⟨D,D6,ys,zs,rfl,rfl,s6 _ _ d5,hl6,Nat.le_of_lt (YZ (by omega)),?_⟩
    refine ⟨fun b u e=>?_,ys++zs,Ah,?_,_,_,rfl⟩
    ·rw [An (Al e hD)]
     exact s6 _ _ (s5 _ _ (s4 _ _ e))
    ·rw [Lq hbi']
     exact Bs (Ay (Aj s6 p5) (s6 _ _ d5)) (CT (F:=fun q y=>TupAt _ (qV q) y) (fun e=>(i,e)) (Ay hz6 (s6 _ _ d5)))
  ·rintro σ H4 ⟨s4,ys,hd,hpr,v2,v3,rfl⟩
   rw [← hul,List.take_of_length_le (by rw [List.length_map]; exact Nat.le_refl _)] at hpr
   exact ⟨_,rfl,q D ys H4 hD s4 hd hpr⟩
theorem PN {α:Type} (l:List α) (x:α):QQ (l++[x]) (-1)=some x:=by
 unfold QQ WN
 rw [if_neg (by decide),if_pos (by rw [List.length_append,List.length_singleton]; omega)]
 show (l++[x])[(-1+(((l++[x]).length:Nat):Int)).toNat]? = some x
 have e:(-1+(((l++[x]).length:Nat):Int)).toNat=l.length:=by
  rw [List.length_append,List.length_singleton]
  omega
 rw [e,List.getElem?_append_right (Nat.le_refl _),Nat.sub_self]
 rfl
theorem JP {H:Hp} {l:List Ln} {v:V} {A:Addr} {xs ys:List V} (h:Ga H l v) (hA:H A=some (.lst xs)) (hv:v ≠ .ref A):Ga (upd H A (.lst ys)) l v:=by
 refine byC fun w_=>?_;obtain ⟨B,ts,rfl,h1,h2⟩:=h;refine w_ ?_
 have:B ≠ A:=fun z=>hv (by rw [z])
 exact ⟨B,ts,rfl,by rw [An this]; exact h1,Ay h2 hA⟩
theorem Eu {α β:Type} {F G:α->β->Prop}:∀ {l:List α} {vs:List β},Paired F l vs->(∀ a b,b∈vs->F a b->G a b)->Paired G l vs
 | [],_,h,_=>by cases h; exact .nil
 | a::l,_,h,k=>by
  cases h with
  | cons x y=>exact .cons (k _ _ (List.mem_cons_self ..) x) (Eu y fun a b hb=>k a b (List.mem_cons_of_mem _ hb))
theorem Hk {α β:Type} {F:α->β->Prop}:∀ {l:List α} {z:α} {vs:List β},Paired F (l++[z]) vs->∃ us u,vs=us++[u]/\Paired F l us/\F z u
 | [],z,_,h=>by
  cases h with
  | cons x y=>cases y; exact ⟨[],_,rfl,.nil,x⟩
 | a::l,z,_,h=>by
  cases h with
  | cons x y =>
   refine byC fun w_=>?_;obtain ⟨us,u,rfl,h1,h2⟩:=Hk y;refine w_ ?_
   exact ⟨_::us,u,rfl,.cons x h1,h2⟩
theorem Er {α:Type} {l:List α} (h:l ≠ []):∃ a z,l=a++[z]:=⟨l.dropLast,l.getLast h,(List.dropLast_concat_getLast h).symm⟩
theorem Ly {rk:List (Str × Nat × Int)}:∀ {rs:List R},(∃ r∈rs,Gs r.w=true)->linesOf rk rs ≠ []:=by
 have key:∀ (n:Nat) (rs:List R),rs.length=n->(∃ r∈rs,Gs r.w=true)->linesOf rk rs ≠ []:=by
  intro n
  induction n with
  | zero =>
   rintro rs hl ⟨r,hr,_⟩
   cases rs with
   | nil=>cases hr
   | cons a b=>cases hl
  | succ n ih =>
   rintro rs hl ⟨r,hr,hk⟩
   obtain ⟨a,z,rfl⟩:=Er (l:=rs) (by intro e; rw [e] at hl; cases hl)
   rw [CQ]
   rw [List.length_append,List.length_singleton] at hl
   unfold Cq
   by_cases hz:Gs z.w=true
   ·rw [if_pos hz]
    simp
   ·rw [if_neg hz]
    have hr':r∈a:=by
     rcases List.mem_append.mp hr with h | h
     ·exact h
     ·rw [List.mem_singleton.mp h] at hk
      exact absurd hk hz
    have ih':=ih a (by omega) ⟨r,hr',hk⟩
    split
    ·obtain ⟨b,y,e⟩:=Er ih'
     rw [e,Gj]
     simp
    ·exact ih'
 exact fun {rs} h=>key rs.length rs rfl h
noncomputable def Xo:Sp:=fun vs H Q _=>∃ (p d:Addr) (us:List V) (ρ:V->R) (rk:List (Str × Nat × Int)) (kvs:List (Key × V)),vs=[.ref p,.ref d]/\H p=some (.lst us)/\Rows H ρ us/\us.length<=500/\H d=some (.dK kvs)/\(∀ (i:Nat) r,rk[i]? = some r->CJ kvs (Sum.inr r.1)=some (.int (i:Nat)))/\(rk.map (·.1)).Nodup /\
 (∀ (i:Nat) v,us[i]? = some v->(ρ v).w = "line"->(∃ (j:Nat) (r:Str × Nat × Int) (sh lo hi:Int),rk[j]? = some r/\r.1=(ρ v).nm/\(ρ v).rest=[.int sh,.int lo,.int hi])/\∃ u∈us.take i,Gs (ρ u).w=true)/\∀ D H',H D=none->Ao H H'->Dj p H' D (linesOf rk (us.map ρ))->Q (.ref D) H'
theorem V0 {rk:List (Str × Nat × Int)} {j:Nat} {r:Str × Nat × Int} (nd:(rk.map (·.1)).Nodup) (h:rk[j]? = some r):(rk.map (·.1)).idxOf r.1=j:=by
 have hj:j<(rk.map (·.1)).length:=by rw [List.length_map]; exact (List.getElem?_eq_some_iff.mp h).1
 have e:(rk.map (·.1))[j]=r.1:=by
  rw [List.getElem_map]
  exact congrArg (·.1) (List.getElem?_eq_some_iff.mp h).2
 rw [← e]
 exact List.Nodup.idxOf_getElem nd j hj
theorem Wi:Az ["rows","rank_numbers","lines","row"] ["rows","rank_numbers"] (Ag cP):=Bv
include N T in
theorem Zx:BJ P w K mg base Bk 1 aD.fLi aD.dLi ["rows","rank_numbers"] Xo:=by
 refine N.FLi.1.ok Wi (fun vs H Q E h=>?_) (fun cdv A outer s H vs Q E hr h=>?_)
 ·refine byC fun w_=>?_;obtain ⟨p,d,us,ρ,rk,kvs,rfl,_⟩:=h;refine w_ ?_
  rfl
 ·refine byC fun w_=>?_;obtain ⟨p,d,us,ρ,rk,kvs,rfl,hp,hR,hl,hdk,hval,hnd,hln,q⟩:=h;refine w_ ?_
  have hu:=Fd hr
  refine ⟨_,(Ac (BP (i:=2) Wi.nd rfl (Or.inl rfl) (Cm Ab))
   (Ac (Dg PassesOwn.never rfl (Bq (pv 0)) (Bx (i:=3) Wi.nd rfl (Or.inl rfl)) (Ac (Bh (BK (JQ (K:=K) rfl) (Bb (BL (K:=K) rfl) (pv 3) Ae (fun _ _=>rfl)) (CP (v:=.ref aK) rfl T.mK rfl) rfl) (Af (CZ (DW PySem.F.plainAttrs_list PySem.F.slot_list_append PySem.F.type_list_append Bp (pv 2) (Aa (Cm Ab) Ab)))) BZ)
   (Af (Bh (BK DP (Bb (BL (K:=K) rfl) (pv 3) Ae (fun _ _=>rfl)) Am (BX _)) (Af (CZ (DW PySem.F.plainAttrs_list PySem.F.slot_list_append PySem.F.type_list_append Bp (Bb (Gb (K:=K) rfl) (pv 2) (VM RB Ae) (fun _ _=>rfl)) (Aa (Cd (Aa (Ba hu (pv 1) (Bb (BL (K:=K) rfl) (pv 3) Ae (fun _ _=>rfl)) (fun _ _=>rfl)) (Aa (Bb (BL (K:=K) rfl) (pv 3) Ae (fun _ _=>rfl)) (Aa (Bb (BL (K:=K) rfl) (pv 3) Ae (fun _ _=>rfl)) (Aa (Bb (BL (K:=K) rfl) (pv 3) Ae (fun _ _=>rfl)) Ab))))) Ab)))) BZ))))
   (Af (Aw (pv 2))))),?_⟩
  refine ⟨Bu (by simp),fun D hD=>?_⟩
  have s0:=Ax (o:=HO.lst []) hD
  have hS:Cp K H p us:=.inl (.inl hp)
  refine ⟨_,rfl,p,rfl,⟨_,s0.seq hS⟩,GC (K:=K) (a:=p) (xs:=us) (fun i σ H4=>Ao H H4/\∃ lv,H4 D=some (.lst lv)/\Paired (fun l v=>Ga H4 l v) (linesOf rk ((us.take i).map ρ)) lv/\lv.Nodup/\(∀ v∈lv,v ≠ .ref D)/\(∀ v∈lv,∃ A,v=.ref A/\H A=none)/\lv.length<=i/\(∀ l∈linesOf rk ((us.take i).map ρ),l.length<=i)/\∃ v3,σ=[some (.ref p),some (.ref d),some (.ref D),v3])
   ⟨s0,[],Ah,.nil,List.nodup_nil,(fun v hv=>nomatch hv),(fun v hv=>nomatch hv),Nat.le_refl _,(fun l hl=>nomatch hl),_,rfl⟩ (fun i σ H4 _ h=>h.1.seq hS) ?_ ?_⟩
  ·rintro i x σ H4 hx ⟨s4,lv,hd,hpr,nd,hne,hA0,hlv,hll,v3,rfl⟩
   have hm:=List.mem_of_getElem? hx
   have hi:i<us.length:=(List.getElem?_eq_some_iff.mp hx).1
   obtain ⟨r,rfl,hr0⟩:=(hR.mono s4) x hm
   have etake:(us.take (i+1)).map ρ=(us.take i).map ρ++[ρ (.ref r)]:=by
    rw [List.take_add_one,hx,List.map_append]
    rfl
   have est:linesOf rk ((us.take (i+1)).map ρ)=Cq rk (linesOf rk ((us.take i).map ρ)) (ρ (.ref r)):=by rw [etake,CQ]
   have lvl:(linesOf rk ((us.take i).map ρ)).length=lv.length:=hpr.length
   by_cases hk:Gs (ρ (.ref r)).w=true
   ·have hnl:¬ (ρ (.ref r)).w = "line":=fun z=>by rw [z] at hk; exact absurd hk (by decide +kernel)
    have est2:linesOf rk ((us.take (i+1)).map ρ)=linesOf rk ((us.take i).map ρ)++[[]]:=by rw [est]; unfold Cq; rw [if_pos hk]
    refine ⟨_,rfl,r,_,_,_,rfl,rfl,.inl (.inl hr0),Aq (j:=0) rfl,aK,_,rfl,.inr (T.tK.sq _),rfl,rfl,_,rfl,?_⟩
    refine CV (fun _=>?_) (fun z=>absurd hk z)
    refine ⟨_,rfl,.inl ⟨rfl,_,.inl (.inl hd)⟩,Bu (by simp),fun p5 hp5=>?_⟩
    obtain ⟨H5,eqH,s5,u5⟩:=FJ (o:=HO.lst []) hp5
    rw [eqH]
    have hd5:=s5 _ _ hd
    refine ⟨D,lv,_,rfl,rfl,hd5,Ar (by omega),?_⟩
    have hrD:r ≠ D:=Lb (s5 _ _ hr0) hd5 (by intro z; cases z)
    have hpD:p5 ≠ D:=fun z=>by rw [z,hd] at hp5; cases hp5
    refine ⟨_,rfl,r,_,_,_,rfl,rfl,.inl (.inl (by rw [An hrD]; exact s5 _ _ hr0)),Aq (j:=0) rfl,rfl,_,rfl,?_⟩
    refine CV (fun z=>absurd (V.str.inj (of_decide_eq_true z)) hnl) (fun _=>?_)
    refine ⟨fun b u e=>?_,lv++[.ref p5],Ah,?_,?_,?_,?_,by simp; omega,?_,_,rfl⟩
    ·rw [An (Al e hD)]
     exact s5 _ _ (s4 _ _ e)
    ·rw [est2]
     refine Bs (Eu hpr fun l v hv h=>JP (h.mono s5) hd5 (hne v hv)) (.cons ⟨p5,[],rfl,by rw [An hpD]; exact u5,.nil⟩ .nil)
    ·refine Oz nd fun hm=>?_
     obtain ⟨l,_,hA⟩:=Cv hpr hm
     refine byC fun w_=>?_;obtain ⟨A,ts,e,h1,_⟩:=hA;refine w_ ?_
     cases e
     rw [h1] at hp5
     cases hp5
    ·intro v hv
     rcases List.mem_append.mp hv with h | h
     ·exact hne v h
     ·rw [List.mem_singleton.mp h]
      intro z
      exact hpD (V.ref.inj z)
    ·intro v hv
     rcases List.mem_append.mp hv with h | h
     ·exact hA0 v h
     ·exact ⟨p5,List.mem_singleton.mp h,s4.free hp5⟩
    ·intro l hl'
     rw [est2] at hl'
     rcases List.mem_append.mp hl' with h | h
     ·exact Nat.le_succ_of_le (hll l h)
     ·rw [List.mem_singleton.mp h]
      exact Nat.zero_le _
   ·refine ⟨_,rfl,r,_,_,_,rfl,rfl,.inl (.inl hr0),Aq (j:=0) rfl,aK,_,rfl,.inr (T.tK.sq _),rfl,rfl,_,rfl,?_⟩
    refine CV (fun z=>absurd z hk) (fun _=>?_)
    refine ⟨_,rfl,r,_,_,_,rfl,rfl,.inl (.inl hr0),Aq (j:=0) rfl,rfl,_,rfl,?_⟩
    by_cases hwl:(ρ (.ref r)).w = "line"
    ·refine CV (fun _=>?_) (fun z=>absurd (decide_eq_true (congrArg V.str hwl)) z)
     refine byC fun w_=>?_;obtain ⟨⟨j,rr,sh,lo,hi',hj,hnm,hrest⟩,u,hu,hku⟩:=hln i _ hx hwl;refine w_ ?_
     have hne0:linesOf rk ((us.take i).map ρ) ≠ []:=Ly ⟨ρ u,List.mem_map_of_mem hu,hku⟩
     obtain ⟨ac,z,eac⟩:=Er hne0
     rw [eac] at hpr
     refine byC fun w_=>?_;obtain ⟨lv',v,rfl,hpr',hz⟩:=Hk hpr;refine w_ ?_
     refine byC fun w_=>?_;obtain ⟨A,ts,rfl,hA,htp⟩:=hz;refine w_ ?_
     have est2:linesOf rk ((us.take (i+1)).map ρ)=ac++[z++[⟨j,sh,lo,hi'⟩]]:=by
      rw [est]
      unfold Cq
      rw [if_neg hk,if_pos hwl,eac,Gj]
      unfold lnOf
      rw [hrest,← hnm,V0 hnd hj]
     have hr1:H4 r=some (.tup [.str (ρ (.ref r)).w,.str (ρ (.ref r)).nm,.int sh,.int lo,.int hi']):=by rw [hr0,← hrest]
     have g:=B_.k (k:=Sum.inr rr.1) (s4 _ _ hdk)
     rw [hval j rr hj,hnm] at g
     have hAD:A ≠ D:=fun e=>hne (.ref A) (by simp) (by rw [e])
     have hzl:z.length<=i:=hll z (by rw [eac]; simp)
     have htl:=htp.length
     refine ⟨_,rfl,_,rfl,D,_,_,_,rfl,rfl,.inl (.inl hd),PN lv' (V.ref A),.inl ⟨rfl,_,.inl (.inl hA)⟩,_,rfl,_,rfl,r,_,_,_,rfl,rfl,.inl (.inl hr1),Aq (j:=1) rfl,d,_,rfl,g,_,rfl,r,_,_,_,rfl,rfl,.inl (.inl hr1),Aq (j:=2) rfl,_,rfl,r,_,_,_,rfl,rfl,.inl (.inl hr1),Aq (j:=3) rfl,_,rfl,r,_,_,_,rfl,rfl,.inl (.inl hr1),Aq (j:=4) rfl,by show 4<=sizeLine; decide,fun T5 hT5=>?_⟩
     obtain ⟨H5,eqH,s5,u5⟩:=FJ (o:=HO.tup [.int (j:Nat),.int sh,.int lo,.int hi']) hT5
     rw [eqH]
     have hA5:=s5 _ _ hA
     have hTA:T5 ≠ A:=fun e=>by rw [e,hA] at hT5; cases hT5
     have hdj:D ≠ A:=fun e=>hAD e.symm
     obtain ⟨nd1,_,hdisj⟩:=List.nodup_append.mp nd
     refine ⟨A,ts,_,rfl,rfl,hA5,Ar (by omega),?_⟩
     refine ⟨fun b u e=>?_,lv'++[.ref A],by rw [An hdj]; exact s5 _ _ hd,?_,nd,hne,hA0,by omega,?_,_,rfl⟩
     ·obtain ⟨A',eA,hA'⟩:=hA0 (.ref A) (by simp)
      cases eA
      rw [An (Al e hA')]
      exact s5 _ _ (s4 _ _ e)
     ·rw [est2]
      refine Bs (Eu hpr' fun l v hv h=>JP (h.mono s5) hA5 (fun e=>hdisj v hv _ (List.mem_singleton.mpr rfl) e)) (.cons ⟨A,ts++[.ref T5],rfl,Ah,Bs (Ay (Aj s5 htp) hA5) (.cons ⟨T5,rfl,by rw [An hTA]; exact u5⟩ .nil)⟩ .nil)
     ·intro l hl'
      rw [est2] at hl'
      rcases List.mem_append.mp hl' with h | h
      ·exact Nat.le_succ_of_le (hll l (by rw [eac]; exact List.mem_append_left _ h))
      ·rw [List.mem_singleton.mp h,List.length_append,List.length_singleton]
       omega
    ·refine CV (fun z=>absurd (V.str.inj (of_decide_eq_true z)) hwl) (fun _=>?_)
     have est2:linesOf rk ((us.take (i+1)).map ρ)=linesOf rk ((us.take i).map ρ):=by rw [est]; unfold Cq; rw [if_neg hk,if_neg hwl]
     rw [← est2] at hpr hll
     exact ⟨s4,lv,hd,hpr,nd,hne,hA0,by omega,fun l hl'=>Nat.le_succ_of_le (hll l hl'),_,rfl⟩
  ·rintro σ H4 ⟨s4,lv,hd,hpr,nd,hne,hA0,hlv,hll,v3,rfl⟩
   rw [List.take_length] at hpr
   have hDp:D ≠ p:=Ne.symm (Al hp hD)
   refine ⟨_,rfl,q D H4 hD s4 ⟨lv,hd,hDp,Eu hpr fun l v hv h=>⟨h,fun z=>?_⟩⟩⟩
   obtain ⟨A,e,hA⟩:=hA0 v hv
   rw [e] at z
   rw [V.ref.inj z,hp] at hA
   cases hA
noncomputable abbrev nV (l:List Nat):List V:=l.map fun n:Nat=>V.int (n:Int)
noncomputable def Zb:Sp:=fun vs H Q _=>∃ i:Int,vs=[.int i]/\Q (.bl (decide (0<=i) && decide (i<1200))) H
theorem dG:Az ["thing"] ["thing"] (Ag eF):=Bv
include N T in
theorem Ym:BJ P w K mg base Bk 2 aD.fMy aD.dMy ["thing"] Zb:=by
 have GWh:BJ P w K mg base Bk 1 aD.fWh aD.dWh ["thing"] Qz:=VG N T
 refine N.FMy.1.ok dG (fun vs H Q E h=>?_) (fun cdv A outer s H vs Q E hr h=>?_)
 ·obtain ⟨i,rfl,_⟩:=h
  rfl
 ·obtain ⟨i,rfl,q⟩:=h
  have hrWh:Bc 1 _:=hr.mono (by decide)
  obtain ⟨tMB,hMB⟩:=T.below
  refine ⟨_,(Af (Aw (Dd (Ak GWh hrWh rfl N.FWh.2.2 N.FWh.1.kp N.FWh.2.1 .nil A_ (Aa (pv 0) Ab)) (DN (HS Gx Et Ae (pv 0) (CP (v:=.int 1200) rfl hMB ⟨tMB,rfl⟩)))))),?_⟩
  refine ⟨_,rfl,i,rfl,_,rfl,Eo ?_⟩
  refine ⟨_,rfl,_,_,rfl,rfl,_,rfl,?_⟩
  refine CV (fun h1=>?_) (fun h1=>?_)
  ·rw [h1,Bool.true_and] at q
   exact ⟨_,_,rfl,rfl,q⟩
  ·rw [(Bool.not_eq_true _).mp h1,Bool.false_and] at q
   exact q
noncomputable def ZD:Sp:=fun vs H Q _=>∃ (p:Addr) (l:List Nat),vs=[.ref p]/\H p=some (.lst (nV l))/\l.length<=500/\(∀ n∈l,n<1200)/\∀ H',Ao H H'->Q (.int (Wd.mk l:Nat)) H'
theorem Xw (l:List Nat) (n:Nat):Builtin.bitOr ((Wd.mk l:Nat):Int) (1 * 2 ^ ((n:Nat):Int).toNat)=((Wd.mk (l++[n]):Nat):Int):=by
 rw [Int.one_mul,Int.toNat_natCast,Ss,Te,Wd.Tj]
theorem Uk:Az ["numbers","some","number"] ["numbers"] (Ag aQ):=Bv
include N T in
theorem XC:BJ P w K mg base Bk 3 aD.fSt aD.dSt ["numbers"] ZD:=by
 have GMy:BJ P w K mg base Bk 2 aD.fMy aD.dMy ["thing"] Zb:=Ym N T
 refine N.FSt.1.ok Uk (fun vs H Q E h=>?_) (fun cdv A outer s H vs Q E hr h=>?_)
 ·obtain ⟨p,l,rfl,_⟩:=h
  rfl
 ·refine byC fun w_=>?_;obtain ⟨p,l,rfl,hp,hz,hb,q⟩:=h;refine w_ ?_
  have hrMy:Bc 2 _:=hr.mono (by decide)
  refine ⟨_,(Ac (Bh (PW.pt (FQ (Ci (Cg (Av Bo rfl T.isin PyProof.Rows.boot_isinstance (Aa (pv 0) (Aa (CW (v:=.ty "list") rfl T.list PyProof.Rows.boot_list rfl) Ab))))) (Ek (Ci (Cg (Av (GJ rfl) rfl T.all PyProof.Rows.boot_all (Aa (Bm rfl (Bd (osc:=Ag aQ) (N:=["numbers","some","number"]) rfl rfl (by decide +kernel)) (Bq (pv 0)) (fun _ _ _ _=>CK) (fun _ _ _ _=>(Ak GMy hrMy rfl N.FMy.2.2 N.FMy.1.kp N.FMy.2.1 .nil A_ (Aa (pv 0) Ab)))) Ab))))))) (Af FN) BZ)
   (Ac (BP (i:=1) Uk.nd rfl (Or.inl rfl) Ae)
   (Ac (Dg PassesOwn.never rfl (Bq (pv 0)) (Bx (i:=2) Uk.nd rfl (Or.inl rfl)) (Af (BP (i:=1) Uk.nd rfl (Or.inl rfl) (BW Zy (pv 1) (BW Wt Ae (pv 2))))))
   (Af (Aw (pv 1)))))),?_⟩
  have hS:Cp K H p (nV l):=.inl (.inl hp)
  refine ⟨_,rfl,_,"list",_,_,rfl,.lst hp,RX,_,rfl,Cy ?_⟩
  have hzl:(nV l).length<sizeLine:=Ar (by simp; omega)
  refine ⟨_,rfl,p,rfl,⟨_,hS⟩,DG (K:=K) (xs:=nV l) (fun _=>true) (fun _=>.bl true) hS hzl (fun x hx H' hs R k=>k H' (Ao.refl H')) (fun x hx _ H' hs R k=>?_) (fun D H' hD hs hl=>?_)⟩
  ·obtain ⟨n,hn,rfl⟩:=List.mem_map.mp hx
   refine ⟨_,rfl,(n:Int),rfl,?_⟩
   have e:(decide ((0:Int)<=(n:Int)) && decide ((n:Int)<1200))=true:=by
    have:=hb n hn
    simp
    omega
   rw [e]
   exact k H' (Ao.refl H')
  ·refine ⟨D,(nV l).map fun _=>true,rfl,.inl (.inl ?_),?_⟩
   ·rw [hl,List.filter_eq_self.mpr (fun _ _=>rfl)]
    simp
   ·have e:((nV l).map fun _=>true).all id=true:=by simp
    rw [e]
    refine ⟨_,rfl,Cy ?_⟩
    refine ⟨_,rfl,p,rfl,⟨_,hs.seq hS⟩,GC (K:=K) (a:=p) (xs:=nV l) (fun i σ H4=>H4=H'/\∃ v2,σ=[some (.ref p),some (.int (Wd.mk (l.take i):Nat)),v2]) ⟨rfl,_,rfl⟩ (fun i σ H4 _ h=>by rw [h.1]; exact hs.seq hS) ?_ ?_⟩
    ·rintro i y σ H4 hi ⟨rfl,v2,rfl⟩
     rw [List.getElem?_map] at hi
     obtain ⟨n,hn,rfl⟩:=Option.map_eq_some_iff.mp hi
     have hn':=hb n (List.mem_of_getElem? hn)
     refine ⟨_,rfl,_,rfl,_,_,rfl,rfl,⟨by omega,by omega,by decide⟩,_,_,rfl,rfl,?_⟩
     refine ⟨rfl,some (.int (n:Int)),?_⟩
     dsimp only
     rw [Xw,List.take_add_one,hn]
     rfl
    ·rintro σ H4 ⟨rfl,v2,rfl⟩
     have el:l.take (nV l).length=l:=List.take_of_length_le (by simp)
     rw [el]
     exact ⟨_,rfl,q _ hs⟩
noncomputable def gf (nms:List Str):V->V
 | .str t=>.int (nms.idxOf t:Nat)
 | _=>.non
theorem QT {nms:List Str} {t:Str} (h:t∈nms):nms[nms.idxOf t]? = some t:=by
 rw [List.getElem?_eq_getElem (List.idxOf_lt_length_of_mem h),List.getElem_idxOf]
noncomputable def Xr:Sp:=fun vs H Q _=>∃ (r kd:Addr) (ro:R) (kvs:List (Key × V)) (nms ts:List Str),vs=[.ref r,.ref kd]/\H r=some (.tup ro.v)/\H kd=some (.dK kvs)/\V.str ro.nm::ro.rest=ts.map V.str/\ts.length<=24/\nms.length<=300/\(∀ (i:Nat) t,nms[i]? = some t->CJ kvs (Sum.inr t)=some (.int (i:Nat)))/\(∀ t∈ts,t∈nms)/\∀ H',Ao H H'->Q (.int (Wd.mk (ts.map fun t=>nms.idxOf t):Nat)) H'
theorem cV:Az ["row","knob_numbers"] ["row","knob_numbers"] (Ag aU):=Bv
include N T in
theorem YD:BJ P w K mg base Bk 4 aD.fSs aD.dSs ["row","knob_numbers"] Xr:=by
 have GSt:BJ P w K mg base Bk 3 aD.fSt aD.dSt ["numbers"] ZD:=XC N T
 refine N.FSs.1.ok cV (fun vs H Q E h=>?_) (fun cdv A outer s H vs Q E hr h=>?_)
 ·refine byC fun w_=>?_;obtain ⟨r,kd,ro,kvs,nms,ts,rfl,_⟩:=h;refine w_ ?_
  rfl
 ·refine byC fun w_=>?_;obtain ⟨r,kd,ro,kvs,nms,ts,rfl,hr0,hkd,ets,h24,hnm,hval,hin,q⟩:=h;refine w_ ?_
  have hrSt:Bc 3 _:=hr.mono (by decide)
  have hu:=Fd hr
  refine ⟨_,(Af (Aw (Ak GSt hrSt rfl N.FSt.2.2 N.FSt.1.kp N.FSt.2.1 .nil A_ (Aa (Bm rfl (Bd (osc:=Ag aU) (N:=["row","knob_numbers"]) rfl rfl (by decide +kernel)) (Hv (Fb NQ (pv 0) (Fo Ae) Hb)) (fun _ _ _ _=>CK) (fun _ _ _ _=>(Ba hu (pv 2) (pv 0) (fun _ _=>rfl)))) Ab)))),?_⟩
  have hv:ro.v=V.str ro.w::ts.map V.str:=by
   show V.str ro.w::(V.str ro.nm::ro.rest)=_
   rw [ets]
  rw [hv] at hr0
  have e1:HT.DY (V.str ro.w::ts.map V.str).length 0 (some 1)=1:=by
   rw [show (some (1:Int))=some ((1:Nat):Int) from rfl,HT.Es]
   simp
  have hcut:En (V.str ro.w::ts.map V.str) (some 1) none=ts.map V.str:=by
   unfold En
   rw [e1,HT.JR]
   simp
   exact List.take_of_length_le (by rw [List.length_map]; exact Nat.le_refl _)
  refine ⟨_,rfl,_,rfl,r,_,rfl,.inl (.inl hr0),?_,fun n0 hn0=>?_⟩
  ·rintro ⟨z,_⟩
   rw [e1] at z
   cases z
  rw [hcut]
  obtain ⟨H1,eqH,s1,a1⟩:=FJ (o:=HO.tup (ts.map V.str)) hn0
  rw [eqH]
  have hT:Ey K H1 n0 (ts.map V.str):=.inl (.inl a1)
  have ltm:(ts.map V.str).length=ts.length:=List.length_map ..
  refine ⟨n0,rfl,⟨_,hT⟩,JC (K:=K) (xs:=ts.map V.str) (fun _=>true) (gf nms) hT (Ar (by omega)) (fun x hx H' hs R k=>k H' (Ao.refl H')) (fun x hx _ H' hs R k=>?_) (fun D H2 hD s2 hl2=>?_)⟩
  ·obtain ⟨t,ht,rfl⟩:=List.mem_map.mp hx
   have g:=B_.k (k:=Sum.inr t) (hs _ _ (s1 _ _ hkd))
   rw [hval _ t (QT (hin t ht))] at g
   exact ⟨_,rfl,_,rfl,kd,_,rfl,g,k H' (Ao.refl H')⟩
  ·rw [List.filter_eq_self.mpr (fun _ _=>rfl),List.map_map] at hl2
   have e2:ts.map (gf nms ∘ V.str)=nV (ts.map fun t=>nms.idxOf t):=by
    unfold nV
    rw [List.map_map]
    rfl
   rw [e2] at hl2
   refine ⟨D,_,rfl,hl2,by rw [List.length_map]; omega,fun n hn=>?_,fun H3 s3=>q H3 (s1.trans (s2.trans s3))⟩
   obtain ⟨t,ht,rfl⟩:=List.mem_map.mp hn
   have:=List.idxOf_lt_length_of_mem (hin t ht)
   omega
noncomputable abbrev UG:List Str:=["row_list","board_list","rank_list","knob_rows","board_numbers","rank_numbers","knob_numbers","key_places","pipe_places","knob_lines","step_sets"]
theorem Dk:∀ m∈meths,∀ f∈UG,¬ m=f:=by decide +kernel
theorem QZ {rk:List (Str × Nat × Int)} {ρ:V->R} {us:List V} {P1:Nat->V->Prop} (h:∀ (i:Nat) v,us[i]? = some v->(ρ v).w = "line"->P1 i v/\∃ u∈us.take i,Gs (ρ u).w=true):(linesOf rk (us.map ρ)).length=(us.filter (fun v=>Gs (ρ v).w)).length:=by
 have key:∀ n,n<=us.length->(linesOf rk ((us.take n).map ρ)).length=((us.take n).filter (fun v=>Gs (ρ v).w)).length:=by
  intro n
  induction n with
  | zero=>intro _; rfl
  | succ n ih =>
   intro hn
   have hx:=List.getElem?_eq_getElem (l:=us) (i:=n) (by omega)
   rw [List.take_add_one,hx,List.map_append]
   show (linesOf rk ((us.take n).map ρ++[ρ us[n]])).length=((us.take n++[us[n]]).filter _).length
   rw [CQ,List.filter_append,List.length_append,← ih (by omega)]
   unfold Cq
   by_cases hk:Gs (ρ us[n]).w=true
   ·rw [if_pos hk,List.filter_cons,if_pos hk]
    simp
   ·rw [if_neg hk,List.filter_cons,if_neg hk]
    by_cases hl:(ρ us[n]).w = "line"
    ·rw [if_pos hl]
     obtain ⟨_,u,hu,hku⟩:=h n _ hx hl
     obtain ⟨a,z,e⟩:=Er (Ly (rk:=rk) ⟨ρ u,List.mem_map_of_mem hu,hku⟩)
     rw [e,Gj]
     simp
    ·rw [if_neg hl]
     simp
 have:=key us.length (Nat.le_refl _)
 rw [List.take_length] at this
 exact this
noncomputable def WW (K:PySem.W.Frag) (aB aP aM C:Addr):Sp:=fun vs H Q _=>∃ (x dx p:Addr) (us:List V) (ρ:V->R) (bs:List (Str × Nat)) (rk:List (Str × Nat × Int)) (ks:List R),vs=[.ref x,.ref p]/\H x=some (.ins C dx [])/\H p=some (.lst us)/\Rows H ρ us/\e_ K aB aP aM ρ us bs rk ks/\∀ H',KR C H' x us bs rk ks (linesOf rk (us.map ρ)) ((us.filter (pw ρ "step")).map fun v=>stN ks (ρ v))->(∀ H'',SX p H' H''->KR C H'' x us bs rk ks (linesOf rk (us.map ρ)) ((us.filter (pw ρ "step")).map fun v=>stN ks (ρ v)))->SX x H H'->Q .non H'
theorem cQ:Az ["self","rows"] ["self","rows"] (Ag S7):=Bv
include N T in
theorem U7:BJ P w K mg base Bk 9 aD.fOi aD.dOi ["self","rows"] (WW K aB aP aM C):=by
 have GCk:BJ P w K mg base Bk 8 aD.fCk aD.dCk ["rows"] (Y4 K aB aP aM):=Yj N T
 have GRo:BJ P w K mg base Bk 1 aD.fRo aD.dRo ["rows","word"] QW:=Mq N T
 have GNu:BJ P w K mg base Bk 1 aD.fNu aD.dNu ["names"] XD:=Zc N T
 have GPl:BJ P w K mg base Bk 1 aD.fPl aD.dPl ["things"] YX:=W7 N T
 have GLi:BJ P w K mg base Bk 1 aD.fLi aD.dLi ["rows","rank_numbers"] Xo:=Zx N T
 have GSs:BJ P w K mg base Bk 4 aD.fSs aD.dSs ["row","knob_numbers"] Xr:=YD N T
 refine N.FOi.1.ok cQ (fun vs H Q E h=>?_) (fun cdv A outer s H vs Q E hr h=>?_)
 ·refine byC fun w_=>?_;obtain ⟨x,dx,p,us,ρ,bs,rk,ks,rfl,_⟩:=h;refine w_ ?_
  rfl
 ·refine byC fun w_=>?_;obtain ⟨x,dx,p,us,ρ,bs,rk,ks,rfl,hx,hp,hR,O,q⟩:=h;refine w_ ?_
  have hrCk:Bc 8 _:=hr.mono (by decide)
  have hrRo:Bc 1 _:=hr.mono (by decide)
  have hrNu:Bc 1 _:=hr.mono (by decide)
  have hrPl:Bc 1 _:=hr.mono (by decide)
  have hrLi:Bc 1 _:=hr.mono (by decide)
  have hrSs:Bc 4 _:=hr.mono (by decide)
  refine ⟨_,(Ac (CZ (Ak GCk hrCk rfl N.FCk.2.2 N.FCk.1.kp N.FCk.2.1 .nil A_ (Aa (pv 1) Ab)))
   (Ac (Ei (pv 0) (Ce Dl rfl T.list PyProof.Rows.boot_list (Aa (pv 1) Ab)) rfl)
   (Ac (Ei (pv 0) (Bm rfl (Bd (osc:=Ag S7) (N:=["self","rows"]) rfl rfl (by decide +kernel)) (Bq (Ak GRo hrRo rfl N.FRo.2.2 N.FRo.1.kp N.FRo.2.1 .nil A_ (Aa (pv 1) (Aa Am Ab)))) (fun _ _ _ _=>CK) (fun _ _ _ _=>(Cd (Aa (Bb (BL (K:=K) rfl) (pv 0) Ae (fun _ _=>rfl)) (Aa (Bb (BL (K:=K) rfl) (pv 0) Ae (fun _ _=>rfl)) Ab))))) rfl)
   (Ac (Ei (pv 0) (Bm rfl (Bd (osc:=Ag S7) (N:=["self","rows"]) rfl rfl (by decide +kernel)) (Bq (Ak GRo hrRo rfl N.FRo.2.2 N.FRo.1.kp N.FRo.2.1 .nil A_ (Aa (pv 1) (Aa Am Ab)))) (fun _ _ _ _=>CK) (fun _ _ _ _=>(Cd (Aa (Bb (BL (K:=K) rfl) (pv 0) Ae (fun _ _=>rfl)) (Aa (Bb (BL (K:=K) rfl) (pv 0) Ae (fun _ _=>rfl)) (Aa (Bb (BL (K:=K) rfl) (pv 0) Ae (fun _ _=>rfl)) Ab)))))) rfl)
   (Ac (Ei (pv 0) (Bm rfl (Bd (osc:=Ag S7) (N:=["self","rows"]) rfl rfl (by decide +kernel)) (Bq (pv 1)) (fun _ _ _ _=>(Kr (BK (JQ (K:=K) rfl) (Bb (BL (K:=K) rfl) (pv 0) Ae (fun _ _=>rfl)) (CP (v:=.ref aK) rfl T.mK rfl) rfl))) (fun _ _ _ _=>(pv 0))) rfl)
   (Ac (Ei (pv 0) (Ak GNu hrNu rfl N.FNu.2.2 N.FNu.1.kp N.FNu.2.1 .nil A_ (Aa (Bm rfl (Bd (osc:=Ag S7) (N:=["self","rows"]) rfl rfl (by decide +kernel)) (Bq (El (pv 0) rfl)) (fun _ _ _ _=>CK) (fun _ _ _ _=>(Bb (BL (K:=K) rfl) (pv 0) Ae (fun _ _=>rfl)))) Ab)) rfl)
   (Ac (Ei (pv 0) (Ak GNu hrNu rfl N.FNu.2.2 N.FNu.1.kp N.FNu.2.1 .nil A_ (Aa (Bm rfl (Bd (osc:=Ag S7) (N:=["self","rows"]) rfl rfl (by decide +kernel)) (Bq (El (pv 0) rfl)) (fun _ _ _ _=>CK) (fun _ _ _ _=>(Bb (BL (K:=K) rfl) (pv 0) Ae (fun _ _=>rfl)))) Ab)) rfl)
   (Ac (Ei (pv 0) (Ak GNu hrNu rfl N.FNu.2.2 N.FNu.1.kp N.FNu.2.1 .nil A_ (Aa (Bm rfl (Bd (osc:=Ag S7) (N:=["self","rows"]) rfl rfl (by decide +kernel)) (Bq (El (pv 0) rfl)) (fun _ _ _ _=>CK) (fun _ _ _ _=>(Bb (BL (K:=K) rfl) (pv 0) Ae (fun _ _=>rfl)))) Ab)) rfl)
   (Ac (Ei (pv 0) (Ak GPl hrPl rfl N.FPl.2.2 N.FPl.1.kp N.FPl.2.1 .nil A_ (Aa (El (pv 0) rfl) Ab)) rfl)
   (Ac (Ei (pv 0) (Ak GPl hrPl rfl N.FPl.2.2 N.FPl.1.kp N.FPl.2.1 .nil A_ (Aa (El (pv 0) rfl) Ab)) rfl)
   (Ac (Ei (pv 0) (Ak GLi hrLi rfl N.FLi.2.2 N.FLi.1.kp N.FLi.2.1 .nil A_ (Aa (pv 1) (Aa (El (pv 0) rfl) Ab))) rfl)
   (Af (Ei (pv 0) (Bm rfl (Bd (osc:=Ag S7) (N:=["self","rows"]) rfl rfl (by decide +kernel)) (Bq (Ak GRo hrRo rfl N.FRo.2.2 N.FRo.1.kp N.FRo.2.1 .nil A_ (Aa (pv 1) (Aa Am Ab)))) (fun _ _ _ _=>CK) (fun _ _ _ _=>(Ak GSs hrSs rfl N.FSs.2.2 N.FSs.1.kp N.FSs.2.1 .nil A_ (Aa (pv 0) (Aa (Uy (K:=K) rfl (pv 1) rfl) Ab))))) rfl))))))))))))),?_⟩
  have hlen:=O.len
  obtain ⟨ur,hur⟩:∃ ur,us.filter (pw ρ "rank")=ur:=⟨_,rfl⟩
  have er:ur.map ρ=rk.map F_:=by rw [← hur]; exact O.er
  have lr:ur.length=rk.length:=by have:=congrArg List.length er; simpa using this
  have inR:∀ {v},v∈ur->v∈us:=fun {v} hv=>by rw [← hur] at hv; exact (List.mem_filter.mp hv).1
  have ofR:∀ {v},v∈ur->∃ b∈rk,ρ v=F_ b:=fun {v} hv=>by
   have:ρ v∈rk.map F_:=by rw [← er]; exact List.mem_map_of_mem hv
   obtain ⟨b,hb,e⟩:=List.mem_map.mp this
   exact ⟨b,hb,e.symm⟩
  obtain ⟨ub,hub⟩:∃ ub,us.filter (pw ρ "board")=ub:=⟨_,rfl⟩
  obtain ⟨uk,huk⟩:∃ uk,us.filter (fun v=>Gs (ρ v).w)=uk:=⟨_,rfl⟩
  have eb:ub.map ρ=bs.map Ft:=by rw [← hub]; exact O.eb
  have ek:uk.map ρ=ks:=by rw [← huk]; exact O.ek
  have lb:ub.length=bs.length:=by have:=congrArg List.length eb; simpa using this
  have lku:uk.length=ks.length:=by have:=congrArg List.length ek; simpa using this
  have inB:∀ {v},v∈ub->v∈us:=fun {v} hv=>by rw [← hub] at hv; exact (List.mem_filter.mp hv).1
  have inKn:∀ {v},v∈uk->v∈us:=fun {v} hv=>by rw [← huk] at hv; exact (List.mem_filter.mp hv).1
  have ofB:∀ {v},v∈ub->∃ b∈bs,ρ v=Ft b:=fun {v} hv=>by
   have:ρ v∈bs.map Ft:=by rw [← eb]; exact List.mem_map_of_mem hv
   obtain ⟨b,hb,e⟩:=List.mem_map.mp this
   exact ⟨b,hb,e.symm⟩
  have l1us:1<=us.length:=by
   have h1:=O.b0
   have h2:ub.length<=us.length:=by rw [← hub]; exact List.length_filter_le _ _
   omega
  refine ⟨_,rfl,p,us,ρ,rfl,hp,hR,l1us,by omega,O.ok,?_,fun H1 s1=>?_⟩
  ·rw [hub]
   cases ub with
   | nil =>
    have:=O.b0
    simp at lb
    omega
   | cons a b=>rfl
  have c1:SX x H H1:=SX.of s1
  have x1:=s1 _ _ hx
  refine ⟨_,rfl,p,_,rfl,.inl (.inl (.inl (s1 _ _ hp))),fun l1 hl1=>?_⟩
  have nl1:l1 ≠ p:=Ne.symm (Al (s1 _ _ hp) hl1)
  obtain ⟨H2,eqH,s2,rw2⟩:=FJ (o:=HO.lst us) hl1
  rw [eqH]
  refine ⟨_,rfl,x,C,dx,_,rfl,s2 _ _ x1,T.cl,T.n_row_list,(by show 0<1000; decide),?_⟩
  have c2:SX x H _:=(c1.trans (SX.of s2)).trans (SX.up (o:=HO.ins C dx (Bf "row_list" (.ref l1) [])))
  have x2:upd H2 x (HO.ins C dx (Bf "row_list" (.ref l1) [])) x=_:=Ah
  have rw3:=(SX.up (o:=HO.ins C dx (Bf "row_list" (.ref l1) [])):SX x H2 _).lst (s2 _ _ x1) rw2
  generalize upd H2 x (HO.ins C dx (Bf "row_list" (.ref l1) []))=H3 at c2 x2 rw3 ⊢
  have c0:=c2
  replace hR:Rows H3 ρ us:=fun v hv=>c2.tup hx (hR v hv)
  replace hp:=c2.lst hx hp
  clear c2
  replace hx:=x2
  have c2:SX x H3 H3:=SX.of (Ao.refl _)
  have R3:Rows H3 ρ us:=fun v hv=>c2.tup hx (hR v hv)
  refine ⟨_,rfl,p,_,"board",ρ,rfl,c2.lst hx hp,R3,by omega,fun D4 H4 hD4 s4 hl4=>?_⟩
  rw [hub] at hl4
  have hS4:Cp K H4 D4 ub:=.inl (.inl hl4)
  refine ⟨D4,rfl,⟨_,hS4⟩,Hm (K:=K) (xs:=ub) (fun _=>true) (fun v=>[.str (ρ v).nm,(ρ v).rest.getD 0 .non]) hS4 (Ar (by have:=O.b5; omega)) (fun y hy H' hs R k=>k H' (Ao.refl H')) (fun y hy _ H' hs R k=>?_) (fun D5 H5 bvs hD5 s5 hl5 hb5=>?_)⟩
  ·obtain ⟨b,_,e⟩:=ofB hy
   have hT:=(R3 y (inB hy)).mono (s4.trans hs)
   rw [e] at hT k
   obtain ⟨T0,rfl,hT⟩:=hT
   exact ⟨_,rfl,T0,_,_,_,rfl,rfl,.inl (.inl hT),Aq (j:=1) rfl,_,rfl,T0,_,_,_,rfl,rfl,.inl (.inl hT),Aq (j:=2) rfl,by show 2<=sizeLine; decide,fun T6 hT6=>k _ _ (Ax hT6) ⟨T6,rfl,Ah⟩⟩
  rw [List.filter_eq_self.mpr (fun _ _=>rfl)] at hb5
  have hb5':Paired (fun b y=>TupAt H5 (bV b) y) bs bvs:=by
   have h1:=CT (F:=fun (r:R) y=>TupAt H5 [.str r.nm,r.rest.getD 0 .non] y) ρ hb5
   rw [eb] at h1
   exact Ds Ft h1
  clear hb5
  refine ⟨_,rfl,x,C,dx,_,rfl,s5 _ _ (s4 _ _ x2),T.cl,T.n_board_list,Nat.lt_of_le_of_lt (Bl _ _ _) (by show 1<1000; decide),?_⟩
  have u6:SX x H5 _:=SX.up (o:=HO.ins C dx (Bf "board_list" (.ref D5) (Bf "row_list" (.ref l1) [])))
  have x5:=s5 _ _ (s4 _ _ x2)
  have c6:=(c2.trans (SX.of (s4.trans s5))).trans u6
  have x6:upd H5 x (HO.ins C dx (Bf "board_list" (.ref D5) (Bf "row_list" (.ref l1) []))) x=_:=Ah
  have hl6:=u6.lst x5 hl5
  have hb6:=u6.pair x5 hb5'
  generalize upd H5 x (HO.ins C dx (Bf "board_list" (.ref D5) (Bf "row_list" (.ref l1) [])))=H6 at c6 x6 hl6 hb6 ⊢
  clear u6
  have R6:Rows H6 ρ us:=fun v hv=>c6.tup hx (hR v hv)
  refine ⟨_,rfl,p,_,"rank",ρ,rfl,c6.lst hx hp,R6,by omega,fun D7 H7 hD7 s7 hl7=>?_⟩
  rw [hur] at hl7
  have hS7:Cp K H7 D7 ur:=.inl (.inl hl7)
  refine ⟨D7,rfl,⟨_,hS7⟩,Hm (K:=K) (xs:=ur) (fun _=>true) (fun v=>[.str (ρ v).nm,(ρ v).rest.getD 0 .non,(ρ v).rest.getD 1 .non]) hS7 (Ar (by have:=O.nr; omega)) (fun y hy H' hs R k=>k H' (Ao.refl H')) (fun y hy _ H' hs R k=>?_) (fun D8 H8 rvs hD8 s8 hl8 hr8=>?_)⟩
  ·obtain ⟨b,_,e⟩:=ofR hy
   have hT:=(R6 y (inR hy)).mono (s7.trans hs)
   rw [e] at hT k
   obtain ⟨T0,rfl,hT⟩:=hT
   exact ⟨_,rfl,T0,_,_,_,rfl,rfl,.inl (.inl hT),Aq (j:=1) rfl,_,rfl,T0,_,_,_,rfl,rfl,.inl (.inl hT),Aq (j:=2) rfl,_,rfl,T0,_,_,_,rfl,rfl,.inl (.inl hT),Aq (j:=3) rfl,by show 3<=sizeLine; decide,fun T6 hT6=>k _ _ (Ax hT6) ⟨T6,rfl,Ah⟩⟩
  rw [List.filter_eq_self.mpr (fun _ _=>rfl)] at hr8
  have hr8':Paired (fun (a:Th) y=>TupAt H8 (tV a) y) (rk.map VN) rvs:=by
   have h1:=CT (F:=fun (r:R) y=>TupAt H8 [.str r.nm,r.rest.getD 0 .non,r.rest.getD 1 .non] y) ρ hr8
   rw [er] at h1
   exact CT (F:=fun (a:Th) y=>TupAt H8 (tV a) y) VN (Ds F_ h1)
  clear hr8
  refine ⟨_,rfl,x,C,dx,_,rfl,s8 _ _ (s7 _ _ x6),T.cl,T.n_rank_list,Nat.lt_of_le_of_lt (Nat.le_trans (Bl _ _ _) (Nat.succ_le_succ (Bl _ _ _))) (by show 2<1000; decide),?_⟩
  have s68:=s7.trans s8
  have x8:=s68 _ _ x6
  have c8:=c6.trans (SX.of s68)
  have hl8b:=s68 _ _ hl6
  have hb8:=Aj s68 hb6
  have u9:SX x H8 _:=SX.up (o:=HO.ins C dx (Bf "rank_list" (.ref D8) (Bf "board_list" (.ref D5) (Bf "row_list" (.ref l1) []))))
  have x9:upd H8 x (HO.ins C dx (Bf "rank_list" (.ref D8) (Bf "board_list" (.ref D5) (Bf "row_list" (.ref l1) [])))) x=_:=Ah
  have c9:=c8.trans u9
  have bl9:=u9.lst x8 hl8b
  have bp9:=u9.pair x8 hb8
  have rl9:=u9.lst x8 hl8
  have rp9:=u9.pair x8 hr8'
  generalize hf9:Bf "rank_list" (.ref D8) (Bf "board_list" (.ref D5) (Bf "row_list" (.ref l1) []))=f9 at x9 c9 bl9 bp9 rl9 rp9 u9 ⊢
  generalize upd H8 x (HO.ins C dx f9)=H9 at x9 c9 bl9 bp9 rl9 rp9 ⊢
  have n9:f9.length<=3:=by rw [← hf9]; exact Nat.le_trans (Bl _ _ _) (Nat.succ_le_succ (Nat.le_trans (Bl _ _ _) (Nat.succ_le_succ (Bl _ _ _))))
  have lb9:f9.lookup ("board_list" : Str)=some (.ref D5):=by rw [← hf9,Ai,if_neg (by decide +kernel),Ai,if_pos rfl]
  have lw9:f9.lookup ("row_list" : Str)=some (.ref l1):=by rw [← hf9,Ai,if_neg (by decide +kernel),Ai,if_neg (by decide +kernel),Ai,if_pos rfl]
  have lr9:f9.lookup ("rank_list" : Str)=some (.ref D8):=by rw [← hf9,Ai,if_pos rfl]
  have no9:∀ m∈meths,f9.lookup m=none:=fun m hm=>by
   rw [← hf9,Ai,if_neg (Dk m hm _ (by decide +kernel)),Ai,if_neg (Dk m hm _ (by decide +kernel)),Ai,if_neg (Dk m hm _ (by decide +kernel))]
   rfl
  clear u9 hf9
  have R9:Rows H9 ρ us:=fun v hv=>c9.tup hx (hR v hv)
  have hS9:Cp K H9 p us:=.inl (.inl (c9.lst hx hp))
  refine ⟨_,rfl,p,rfl,⟨_,hS9⟩,DG (K:=K) (xs:=us) (fun v=>Gs (ρ v).w) id hS9 (Ar (by omega)) (fun y hy H' hs R k=>?_) (fun y hy _ H' hs R k=>⟨_,rfl,k H' (Ao.refl H')⟩) (fun D10 H10 hD10 s10 hl10=>?_)⟩
  ·obtain ⟨T0,rfl,hT⟩:=(R9.mono hs) y hy
   exact ⟨_,rfl,T0,_,_,_,rfl,rfl,.inl (.inl hT),Aq (j:=0) rfl,aK,_,rfl,.inr (T.tK.sq _),rfl,rfl,_,rfl,k H' (Ao.refl H')⟩
  rw [List.map_id,huk] at hl10
  refine ⟨_,rfl,x,C,dx,_,rfl,s10 _ _ x9,T.cl,T.n_knob_rows,by omega,?_⟩
  have x10:=s10 _ _ x9
  have u11:SX x H10 _:=SX.up (o:=HO.ins C dx (Bf "knob_rows" (.ref D10) f9))
  have x11:upd H10 x (HO.ins C dx (Bf "knob_rows" (.ref D10) f9)) x=_:=Ah
  have c11:=(c9.trans (SX.of s10)).trans u11
  have bl11:=u11.lst x10 (s10 _ _ bl9)
  have bp11:=u11.pair x10 (Aj s10 bp9)
  have rl11:=u11.lst x10 (s10 _ _ rl9)
  have rp11:=u11.pair x10 (Aj s10 rp9)
  have kr11:=u11.lst x10 hl10
  generalize upd H10 x (HO.ins C dx (Bf "knob_rows" (.ref D10) f9))=H11 at x11 c11 bl11 bp11 rl11 rp11 kr11 ⊢
  clear u11
  have hul:=bp11.length
  have hS11:Cp K H11 D5 bvs:=.inl (.inl bl11)
  refine ⟨_,rfl,x,C,dx,_,_,rfl,x11,T.cl,T.n_board_list,(by rw [Ai,if_neg (by decide +kernel)]; exact lb9),D5,rfl,⟨_,hS11⟩,DG (K:=K) (xs:=bvs) (fun _=>true) (Qi H11 0) hS11 (Ar (by have:=O.b5; omega)) (fun y hy H' hs R k=>k H' (Ao.refl H')) (fun y hy _ H' hs R k=>?_) (fun D12 H12 hD12 s12 hl12=>?_)⟩
  ·obtain ⟨b,_,hx'⟩:=Cv bp11 hy
   have e:=Hc hx' 0
   obtain ⟨T0,rfl,hT⟩:=hx'.mono hs
   refine ⟨_,rfl,T0,_,_,_,rfl,rfl,.inl (.inl hT),Aq (j:=0) rfl,?_⟩
   have:=k H' (Ao.refl H')
   rw [e] at this
   exact this
  rw [List.filter_eq_self.mpr (fun _ _=>rfl),O3 0 bp11] at hl12
  have e12:(bs.map fun b=>(bV b).getD 0 V.non)=(bs.map (·.1)).map V.str:=by
   rw [List.map_map]
   rfl
  rw [e12] at hl12
  refine ⟨D12,_,rfl,hl12,by rw [List.length_map]; have:=O.b5; omega,O.nb,fun D13 kvs H13 hD13 s13 hl13 hv13 hw13=>?_⟩
  have s1113:=s12.trans s13
  have x13:=s1113 _ _ x11
  refine ⟨_,rfl,x,C,dx,_,rfl,x13,T.cl,T.n_board_numbers,Nat.lt_of_le_of_lt (Bl _ _ _) (by omega),?_⟩
  have u14:SX x H13 _:=SX.up (o:=HO.ins C dx (Bf "board_numbers" (.ref D13) (Bf "knob_rows" (.ref D10) f9)))
  have x14:upd H13 x (HO.ins C dx (Bf "board_numbers" (.ref D13) (Bf "knob_rows" (.ref D10) f9))) x=_:=Ah
  have c14:=(c11.trans (SX.of s1113)).trans u14
  have bl14:=u14.lst x13 (s1113 _ _ bl11)
  have bp14:=u14.pair x13 (Aj s1113 bp11)
  have rl14:=u14.lst x13 (s1113 _ _ rl11)
  have rp14:=u14.pair x13 (Aj s1113 rp11)
  have kr14:=u14.lst x13 (s1113 _ _ kr11)
  have bn14:=u14.dk x13 hl13
  generalize upd H13 x (HO.ins C dx (Bf "board_numbers" (.ref D13) (Bf "knob_rows" (.ref D10) f9)))=H14 at x14 c14 bl14 bp14 rl14 rp14 kr14 bn14 ⊢
  clear u14
  have hrl:=rp14.length
  rw [List.length_map] at hrl
  have hS14:Cp K H14 D8 rvs:=.inl (.inl rl14)
  refine ⟨_,rfl,x,C,dx,_,_,rfl,x14,T.cl,T.n_rank_list,(by rw [Ai,if_neg (by decide +kernel),Ai,if_neg (by decide +kernel)]; exact lr9),D8,rfl,⟨_,hS14⟩,DG (K:=K) (xs:=rvs) (fun _=>true) (Qi H14 0) hS14 (Ar (by have:=O.nr; omega)) (fun y hy H' hs R k=>k H' (Ao.refl H')) (fun y hy _ H' hs R k=>?_) (fun D15 H15 hD15 s15 hl15=>?_)⟩
  ·obtain ⟨b,_,hx'⟩:=Cv rp14 hy
   have e:=Hc hx' 0
   obtain ⟨T0,rfl,hT⟩:=hx'.mono hs
   refine ⟨_,rfl,T0,_,_,_,rfl,rfl,.inl (.inl hT),Aq (j:=0) rfl,?_⟩
   have:=k H' (Ao.refl H')
   rw [e] at this
   exact this
  rw [List.filter_eq_self.mpr (fun _ _=>rfl),O3 0 rp14] at hl15
  have e15:((rk.map VN).map fun b=>(tV b).getD 0 V.non)=(rk.map (·.1)).map V.str:=by
   rw [List.map_map,List.map_map]
   rfl
  rw [e15] at hl15
  refine ⟨D15,_,rfl,hl15,by rw [List.length_map]; have:=O.nr; omega,O.nrr,fun D16 kvs16 H16 hD16 s16 hl16 hv16 hw16=>?_⟩
  have s1416:=s15.trans s16
  have x16:=s1416 _ _ x14
  refine ⟨_,rfl,x,C,dx,_,rfl,x16,T.cl,T.n_rank_numbers,Nat.lt_of_le_of_lt (Nat.le_trans (Bl _ _ _) (Nat.succ_le_succ (Bl _ _ _))) (by omega),?_⟩
  have u17:SX x H16 _:=SX.up (o:=HO.ins C dx (Bf "rank_numbers" (.ref D16) (Bf "board_numbers" (.ref D13) (Bf "knob_rows" (.ref D10) f9))))
  have x17:upd H16 x (HO.ins C dx (Bf "rank_numbers" (.ref D16) (Bf "board_numbers" (.ref D13) (Bf "knob_rows" (.ref D10) f9)))) x=_:=Ah
  have c17:=(c14.trans (SX.of s1416)).trans u17
  have bl17:=u17.lst x16 (s1416 _ _ bl14)
  have bp17:=u17.pair x16 (Aj s1416 bp14)
  have rl17:=u17.lst x16 (s1416 _ _ rl14)
  have rp17:=u17.pair x16 (Aj s1416 rp14)
  have kr17:=u17.lst x16 (s1416 _ _ kr14)
  have bn17:=u17.dk x16 (s1416 _ _ bn14)
  have rn17:=u17.dk x16 hl16
  generalize hf17:Bf "rank_numbers" (.ref D16) (Bf "board_numbers" (.ref D13) (Bf "knob_rows" (.ref D10) f9))=f17 at x17 c17 bl17 bp17 rl17 rp17 kr17 bn17 rn17 u17 ⊢
  generalize upd H16 x (HO.ins C dx f17)=H17 at x17 c17 bl17 bp17 rl17 rp17 kr17 bn17 rn17 ⊢
  have n17:f17.length<=6:=by rw [← hf17]; exact Nat.le_trans (Bl _ _ _) (Nat.succ_le_succ (Nat.le_trans (Bl _ _ _) (Nat.succ_le_succ (Nat.le_trans (Bl _ _ _) (Nat.succ_le_succ n9)))))
  have lb17:f17.lookup ("board_list" : Str)=some (.ref D5):=by rw [← hf17,Ai,if_neg (by decide +kernel),Ai,if_neg (by decide +kernel),Ai,if_neg (by decide +kernel)]; exact lb9
  have lw17:f17.lookup ("row_list" : Str)=some (.ref l1):=by rw [← hf17,Ai,if_neg (by decide +kernel),Ai,if_neg (by decide +kernel),Ai,if_neg (by decide +kernel)]; exact lw9
  have lr17:f17.lookup ("rank_list" : Str)=some (.ref D8):=by rw [← hf17,Ai,if_neg (by decide +kernel),Ai,if_neg (by decide +kernel),Ai,if_neg (by decide +kernel)]; exact lr9
  have lrn17:f17.lookup ("rank_numbers" : Str)=some (.ref D16):=by rw [← hf17,Ai,if_pos rfl]
  have lbn17:f17.lookup ("board_numbers" : Str)=some (.ref D13):=by rw [← hf17,Ai,if_neg (by decide +kernel),Ai,if_pos rfl]
  have lkr17:f17.lookup ("knob_rows" : Str)=some (.ref D10):=by rw [← hf17,Ai,if_neg (by decide +kernel),Ai,if_neg (by decide +kernel),Ai,if_pos rfl]
  have no17:∀ m∈meths,f17.lookup m=none:=fun m hm=>by
   rw [← hf17,Ai,if_neg (Dk m hm _ (by decide +kernel)),Ai,if_neg (Dk m hm _ (by decide +kernel)),Ai,if_neg (Dk m hm _ (by decide +kernel))]
   exact no9 m hm
  clear u17 hf17
  have hS17:Cp K H17 D10 uk:=.inl (.inl kr17)
  have R17:Rows H17 ρ us:=fun v hv=>c17.tup hx (hR v hv)
  refine ⟨_,rfl,x,C,dx,_,_,rfl,x17,T.cl,T.n_knob_rows,lkr17,D10,rfl,⟨_,hS17⟩,DG (K:=K) (xs:=uk) (fun _=>true) (fun v=>.str (ρ v).nm) hS17 (Ar (by have:=O.nk; omega)) (fun y hy H' hs R k=>k H' (Ao.refl H')) (fun y hy _ H' hs R k=>?_) (fun D18 H18 hD18 s18 hl18=>?_)⟩
  ·obtain ⟨T0,rfl,hT⟩:=(R17.mono hs) y (inKn hy)
   exact ⟨_,rfl,T0,_,_,_,rfl,rfl,.inl (.inl hT),Aq (j:=1) rfl,k H' (Ao.refl H')⟩
  rw [List.filter_eq_self.mpr (fun _ _=>rfl)] at hl18
  have e18:(uk.map fun v=>V.str (ρ v).nm)=(ks.map (·.nm)).map V.str:=by
   rw [← ek,List.map_map,List.map_map]
   rfl
  rw [e18] at hl18
  refine ⟨D18,_,rfl,hl18,by rw [List.length_map]; have:=O.nk; omega,O.nn,fun D19 kvs19 H19 hD19 s19 hl19 hv19 hw19=>?_⟩
  have s1719:=s18.trans s19
  have x19:=s1719 _ _ x17
  refine ⟨_,rfl,x,C,dx,_,rfl,x19,T.cl,T.n_knob_numbers,by omega,?_⟩
  have u20:SX x H19 _:=SX.up (o:=HO.ins C dx (Bf "knob_numbers" (.ref D19) f17))
  have x20:upd H19 x (HO.ins C dx (Bf "knob_numbers" (.ref D19) f17)) x=_:=Ah
  have c20:=(c17.trans (SX.of s1719)).trans u20
  have bl20:=u20.lst x19 (s1719 _ _ bl17)
  have bp20:=u20.pair x19 (Aj s1719 bp17)
  have rl20:=u20.lst x19 (s1719 _ _ rl17)
  have rp20:=u20.pair x19 (Aj s1719 rp17)
  have kr20:=u20.lst x19 (s1719 _ _ kr17)
  have kn20:=u20.dk x19 hl19
  have bn20:=u20.dk x19 (s1719 _ _ bn17)
  have rn20:=u20.dk x19 (s1719 _ _ rn17)
  generalize upd H19 x (HO.ins C dx (Bf "knob_numbers" (.ref D19) f17))=H20 at x20 c20 bl20 bp20 rl20 rp20 kr20 bn20 rn20 kn20 ⊢
  clear u20
  refine ⟨_,rfl,x,C,dx,_,_,rfl,x20,T.cl,T.n_board_list,(by rw [Ai,if_neg (by decide +kernel)]; exact lb17),D5,bs.map cW,bvs,rfl,bl20,CT (F:=fun (a:Th) y=>TupAt H20 (tV a) y) cW bp20,(by rw [List.length_map]; have:=O.b5; omega),(fun a ha=>by obtain ⟨b,hb,rfl⟩:=List.mem_map.mp ha; have:=O.sz b hb; show b.2<=97; omega),fun D21 pvs H21 hD21 s21 hl21 hp21=>?_⟩
  have e21:(bs.map cW).map tN=bs:=by
   rw [List.map_map]
   exact List.map_id bs
  rw [e21] at hp21
  have x21:=s21 _ _ x20
  refine ⟨_,rfl,x,C,dx,_,rfl,x21,T.cl,T.n_key_places,Nat.lt_of_le_of_lt (Bl _ _ _) (by omega),?_⟩
  have u22:SX x H21 _:=SX.up (o:=HO.ins C dx (Bf "key_places" (.ref D21) (Bf "knob_numbers" (.ref D19) f17)))
  have x22:upd H21 x (HO.ins C dx (Bf "key_places" (.ref D21) (Bf "knob_numbers" (.ref D19) f17))) x=_:=Ah
  have c22:=(c20.trans (SX.of s21)).trans u22
  have bl22:=u22.lst x21 (s21 _ _ bl20)
  have bp22:=u22.pair x21 (Aj s21 bp20)
  have rl22:=u22.lst x21 (s21 _ _ rl20)
  have rp22:=u22.pair x21 (Aj s21 rp20)
  have kr22:=u22.lst x21 (s21 _ _ kr20)
  have kn22:=u22.dk x21 (s21 _ _ kn20)
  have bn22:=u22.dk x21 (s21 _ _ bn20)
  have rn22:=u22.dk x21 (s21 _ _ rn20)
  have kp22:=u22.lst x21 hl21
  have kq22:=u22.pair x21 hp21
  generalize upd H21 x (HO.ins C dx (Bf "key_places" (.ref D21) (Bf "knob_numbers" (.ref D19) f17)))=H22 at x22 c22 bl22 bp22 rl22 rp22 kr22 bn22 rn22 kp22 kq22 kn22 ⊢
  clear u22
  refine ⟨_,rfl,x,C,dx,_,_,rfl,x22,T.cl,T.n_rank_list,(by rw [Ai,if_neg (by decide +kernel),Ai,if_neg (by decide +kernel)]; exact lr17),D8,rk.map VN,rvs,rfl,rl22,rp22,(by rw [List.length_map]; exact O.nr),(fun a ha=>by obtain ⟨r,hr,rfl⟩:=List.mem_map.mp ha; exact O.nz r hr),fun D23 qvs H23 hD23 s23 hl23 hp23=>?_⟩
  have e23:(rk.map VN).map tN=rk.map h_:=by
   rw [List.map_map]
   rfl
  rw [e23] at hp23
  have x23:=s23 _ _ x22
  refine ⟨_,rfl,x,C,dx,_,rfl,x23,T.cl,T.n_pipe_places,Nat.lt_of_le_of_lt (Nat.le_trans (Bl _ _ _) (Nat.succ_le_succ (Bl _ _ _))) (by omega),?_⟩
  have u24:SX x H23 _:=SX.up (o:=HO.ins C dx (Bf "pipe_places" (.ref D23) (Bf "key_places" (.ref D21) (Bf "knob_numbers" (.ref D19) f17))))
  have x24:upd H23 x (HO.ins C dx (Bf "pipe_places" (.ref D23) (Bf "key_places" (.ref D21) (Bf "knob_numbers" (.ref D19) f17)))) x=_:=Ah
  have c24:=(c22.trans (SX.of s23)).trans u24
  have bl24:=u24.lst x23 (s23 _ _ bl22)
  have bp24:=u24.pair x23 (Aj s23 bp22)
  have kr24:=u24.lst x23 (s23 _ _ kr22)
  have rl24:=u24.lst x23 (s23 _ _ rl22)
  have rp24:=u24.pair x23 (Aj s23 rp22)
  have pp24:=u24.lst x23 hl23
  have pq24:=u24.pair x23 hp23
  have kn24:=u24.dk x23 (s23 _ _ kn22)
  have bn24:=u24.dk x23 (s23 _ _ bn22)
  have rn24:=u24.dk x23 (s23 _ _ rn22)
  have kp24:=u24.lst x23 (s23 _ _ kp22)
  have kq24:=u24.pair x23 (Aj s23 kq22)
  generalize hf24:Bf "pipe_places" (.ref D23) (Bf "key_places" (.ref D21) (Bf "knob_numbers" (.ref D19) f17))=f24 at x24 c24 bl24 bp24 kr24 rl24 rp24 pp24 pq24 bn24 rn24 kp24 kq24 u24 kn24 ⊢
  generalize upd H23 x (HO.ins C dx f24)=H24 at x24 c24 bl24 bp24 kr24 rl24 rp24 pp24 pq24 bn24 rn24 kp24 kq24 kn24 ⊢
  have n24:f24.length<=9:=by rw [← hf24]; exact Nat.le_trans (Bl _ _ _) (Nat.succ_le_succ (Nat.le_trans (Bl _ _ _) (Nat.succ_le_succ (Nat.le_trans (Bl _ _ _) (Nat.succ_le_succ n17)))))
  have old24:∀ {f:Str} {v:V},¬ f = "pipe_places"->¬ f = "key_places"->¬ f = "knob_numbers"->f17.lookup f=some v->f24.lookup f=some v:=fun h1 h2 h3 h=>by
   rw [← hf24,Ai,if_neg h1,Ai,if_neg h2,Ai,if_neg h3]; exact h
  have lb24:=old24 (by decide +kernel) (by decide +kernel) (by decide +kernel) lb17
  have lbn24:=old24 (by decide +kernel) (by decide +kernel) (by decide +kernel) lbn17
  have lw24:=old24 (by decide +kernel) (by decide +kernel) (by decide +kernel) lw17
  have lkn24:f24.lookup ("knob_numbers" : Str)=some (.ref D19):=by rw [← hf24,Ai,if_neg (by decide +kernel),Ai,if_neg (by decide +kernel),Ai,if_pos rfl]
  have lr24:=old24 (by decide +kernel) (by decide +kernel) (by decide +kernel) lr17
  have lpp24:f24.lookup ("pipe_places" : Str)=some (.ref D23):=by rw [← hf24,Ai,if_pos rfl]
  have lrn24:=old24 (by decide +kernel) (by decide +kernel) (by decide +kernel) lrn17
  have lkr24:=old24 (by decide +kernel) (by decide +kernel) (by decide +kernel) lkr17
  have lkp24:f24.lookup ("key_places" : Str)=some (.ref D21):=by rw [← hf24,Ai,if_neg (by decide +kernel),Ai,if_pos rfl]
  have no24:∀ m∈meths,f24.lookup m=none:=fun m hm=>by
   rw [← hf24,Ai,if_neg (Dk m hm _ (by decide +kernel)),Ai,if_neg (Dk m hm _ (by decide +kernel)),Ai,if_neg (Dk m hm _ (by decide +kernel))]
   exact no17 m hm
  clear u24 hf24 old24
  have R24:Rows H24 ρ us:=fun v hv=>c24.tup hx (hR v hv)
  refine ⟨_,rfl,_,rfl,x,C,dx,_,_,rfl,x24,T.cl,T.n_rank_numbers,lrn24,p,D16,us,ρ,rk,kvs16,rfl,c24.lst hx hp,R24,by omega,rn24,(fun i r hr=>hv16 i r.1 (by rw [List.getElem?_map,hr]; rfl)),O.nrr,O.ln,fun D25 H25 hD25 s25 hl25=>?_⟩
  have x25:=s25 _ _ x24
  refine ⟨_,rfl,x,C,dx,_,rfl,x25,T.cl,T.n_knob_lines,by omega,?_⟩
  have u26:SX x H25 _:=SX.up (o:=HO.ins C dx (Bf "knob_lines" (.ref D25) f24))
  have x26:upd H25 x (HO.ins C dx (Bf "knob_lines" (.ref D25) f24)) x=_:=Ah
  have c26:=(c24.trans (SX.of s25)).trans u26
  have bl26:=u26.lst x25 (s25 _ _ bl24)
  have bp26:=u26.pair x25 (Aj s25 bp24)
  have kr26:=u26.lst x25 (s25 _ _ kr24)
  have rl26:=u26.lst x25 (s25 _ _ rl24)
  have rp26:=u26.pair x25 (Aj s25 rp24)
  have pp26:=u26.lst x25 (s25 _ _ pp24)
  have pq26:=u26.pair x25 (Aj s25 pq24)
  have ln26:=hl25.sx u26 x25
  have kn26:=u26.dk x25 (s25 _ _ kn24)
  have bn26:=u26.dk x25 (s25 _ _ bn24)
  have rn26:=u26.dk x25 (s25 _ _ rn24)
  have kp26:=u26.lst x25 (s25 _ _ kp24)
  have kq26:=u26.pair x25 (Aj s25 kq24)
  generalize upd H25 x (HO.ins C dx (Bf "knob_lines" (.ref D25) f24))=H26 at x26 c26 bl26 bp26 kr26 rl26 rp26 pp26 pq26 ln26 bn26 rn26 kp26 kq26 kn26 ⊢
  clear u26
  have R26:Rows H26 ρ us:=fun v hv=>c26.tup hx (hR v hv)
  refine ⟨_,rfl,p,_,"step",ρ,rfl,c26.lst hx hp,R26,by omega,fun D27 H27 hD27 s27 hl27=>?_⟩
  have kn27:=s27 _ _ kn26
  have x27:=s27 _ _ x26
  have hS27:Cp K H27 D27 (us.filter (pw ρ "step")):=.inl (.inl hl27)
  have lus:(us.filter (pw ρ "step")).length<=us.length:=List.length_filter_le _ _
  refine ⟨D27,rfl,⟨_,hS27⟩,DG (K:=K) (xs:=us.filter (pw ρ "step")) (fun _=>true) (fun v=>.int (stN ks (ρ v):Nat)) hS27 (Ar (by omega)) (fun y hy H' hs R k=>k H' (Ao.refl H')) (fun y hy _ H' hs R k=>?_) (fun D28 H28 hD28 s28 hl28=>?_)⟩
  ·obtain ⟨hyu,hyw⟩:=List.mem_filter.mp hy
   obtain ⟨ts,ets,t24,tin⟩:=O.st y hyu (V.str.inj (of_decide_eq_true hyw))
   obtain ⟨T0,rfl,hT⟩:=((R26.mono s27).mono hs) y hyu
   refine ⟨_,rfl,_,rfl,x,C,dx,_,_,rfl,hs _ _ x27,T.cl,T.n_knob_numbers,(by rw [Ai,if_neg (by decide +kernel)]; exact lkn24),T0,D19,ρ (.ref T0),kvs19,ks.map (·.nm),ts,rfl,hT,hs _ _ kn27,ets,t24,(by rw [List.length_map]; have:=O.nk; omega),hv19,tin,fun H3 s3=>?_⟩
   have e:Wd.mk (ts.map fun t=>(ks.map (·.nm)).idxOf t)=stN ks (ρ (.ref T0)):=by unfold stN; rw [Hz ets]
   rw [e]
   exact k H3 s3
  rw [List.filter_eq_self.mpr (fun _ _=>rfl)] at hl28
  have s2628:=s27.trans s28
  have x28:=s2628 _ _ x26
  refine ⟨_,rfl,x,C,dx,_,rfl,x28,T.cl,T.n_step_sets,Nat.lt_of_le_of_lt (Bl _ _ _) (by omega),?_⟩
  have u29:SX x H28 _:=SX.up (o:=HO.ins C dx (Bf "step_sets" (.ref D28) (Bf "knob_lines" (.ref D25) f24)))
  have old:∀ {f:Str},¬ f = "step_sets"->¬ f = "knob_lines"->(Bf "step_sets" (.ref D28) (Bf "knob_lines" (.ref D25) f24)).lookup f=f24.lookup f:=fun h1 h2=>by rw [Ai,if_neg h1,Ai,if_neg h2]
  have es:((us.filter (pw ρ "step")).map fun v=>V.int (stN ks (ρ v):Nat))=(((us.filter (pw ρ "step")).map fun v=>stN ks (ρ v)).map fun n:Nat=>V.int (n:Int)):=by rw [List.map_map]; rfl
  rw [es] at hl28
  have hpF:=u29.lst x28 (s2628 _ _ (c26.lst hx hp))
  have nx:x ≠ p:=fun z=>by rw [z,hp] at hx; cases hx
  have n5:D5 ≠ p:=Ne.symm (Al (s4 _ _ hp) hD5)
  have n8:D8 ≠ p:=Ne.symm (Al (s7 _ _ (c6.lst hx hp)) hD8)
  have n10:D10 ≠ p:=Ne.symm (Al (c9.lst hx hp) hD10)
  have n21:D21 ≠ p:=Ne.symm (Al (c20.lst hx hp) hD21)
  have n23:D23 ≠ p:=Ne.symm (Al (c22.lst hx hp) hD23)
  have n28:D28 ≠ p:=Ne.symm (Al (s27 _ _ (c26.lst hx hp)) hD28)
  suffices key:∀ H'',SX p (upd H28 x _) H''->KR C H'' x us bs rk ks (linesOf rk (us.map ρ)) ((us.filter (pw ρ "step")).map fun v=>stN ks (ρ v)) from q _ (key _ SX.refl) key  (c0.trans ((c26.trans (SX.of s2628)).trans u29))
  intro H'' sp
  refine ⟨⟨⟨⟨dx,_,D5,D13,D21,D10,bvs,pvs,uk,kvs,sp _ _ Ah nx,(old (by decide +kernel) (by decide +kernel)).trans lb24,(old (by decide +kernel) (by decide +kernel)).trans lbn24,(old (by decide +kernel) (by decide +kernel)).trans lkp24,(old (by decide +kernel) (by decide +kernel)).trans lkr24,
   fun m hm=>(old (Dk m hm _ (by decide +kernel)) (Dk m hm _ (by decide +kernel))).trans (no24 m hm),sp _ _ (u29.lst x28 (s2628 _ _ bl26)) n5,HN sp hpF (u29.pair x28 (Aj s2628 bp26)),Oh sp hpF (u29.dk x28 (s2628 _ _ bn26)),fun i b hb=>hv13 i b.1 (by rw [List.getElem?_map,hb]; rfl),sp _ _ (u29.lst x28 (s2628 _ _ kp26)) n21,HN sp hpF (u29.pair x28 (Aj s2628 kq26)),sp _ _ (u29.lst x28 (s2628 _ _ kr26)) n10,?_⟩,O.b5,O.sz,by have:=O.nk; omega⟩,⟨dx,_,D8,D16,D23,D25,rvs,qvs,kvs16,sp _ _ Ah nx,(old (by decide +kernel) (by decide +kernel)).trans lr24,(old (by decide +kernel) (by decide +kernel)).trans lrn24,(old (by decide +kernel) (by decide +kernel)).trans lpp24,(by rw [Ai,if_neg (by decide +kernel),Ai,if_pos rfl]),sp _ _ (u29.lst x28 (s2628 _ _ rl26)) n8,HN sp hpF (u29.pair x28 (Aj s2628 rp26)),Oh sp hpF (u29.dk x28 (s2628 _ _ rn26)),(fun i r hr=>hv16 i r.1 (by rw [List.getElem?_map,hr]; rfl)),sp _ _ (u29.lst x28 (s2628 _ _ pp26)) n23,HN sp hpF (u29.pair x28 (Aj s2628 pq26)),((ln26.mono s2628).sx u29 x28).sp sp hpF⟩,O.nr,O.nz,?_⟩,dx,_,l1,D19,D28,kvs19,sp _ _ Ah nx,(old (by decide +kernel) (by decide +kernel)).trans lw24,(old (by decide +kernel) (by decide +kernel)).trans lkn24,(by rw [Ai,if_pos rfl]),sp _ _ (u29.lst x28 (s2628 _ _ (c26.lst hx rw3))) nl1,Oh sp hpF (u29.dk x28 (s2628 _ _ kn26)),hv19,hw19,sp _ _ (u29.lst x28 hl28) n28,D13,kvs,(old (by decide +kernel) (by decide +kernel)).trans lbn24,Oh sp hpF (u29.dk x28 (s2628 _ _ bn26)),hw13⟩
  case refine_2=>rw [QZ O.ln,← ek,List.length_map,huk]
  rw [← ek]
  refine CT (F:=fun (r:R) y=>TupAt _ r.v y) ρ ?_
  have R29:Rows _ ρ uk:=fun v hv=>Rj sp hpF (u29.tup x28 ((R26.mono s2628) v (inKn hv)))
  generalize H''=H29 at R29 ⊢
  have key:∀ l:List V,(∀ v∈l,TupAt H29 (ρ v).v v)->Paired (fun v y=>TupAt H29 (ρ v).v y) l l:=by
   intro l
   induction l with
   | nil=>intro _; exact .nil
   | cons a b ih=>intro h; exact .cons (h a (List.mem_cons_self ..)) (ih fun v hv=>h v (List.mem_cons_of_mem _ hv))
  exact key uk R29
noncomputable def W_ (K:PySem.W.Frag):Sp:=fun vs H Q _=>∃ (a:Addr) (k:Nat) (ns:List Int),vs=[.ref a,.int (k:Nat)]/\Cp K H a (ns.map V.int)/\∀ i:Int,Q (.int i) H
theorem eV:Az ["_law_script","_law_k"] ["_law_script","_law_k"] (Ag bz):=Bv
include N T in
theorem Yd:BJ P w K mg base Bk 1 aD.fCe aD.dCe ["_law_script","_law_k"] (W_ K):=by
 refine N.FCe.1.ok eV (fun vs H Q E h=>?_) (fun cdv A outer s H vs Q E hr h=>?_)
 ·refine byC fun w_=>?_;obtain ⟨a,k,ns,rfl,_⟩:=h;refine w_ ?_
  rfl
 ·refine byC fun w_=>?_;obtain ⟨a,k,ns,rfl,hS,q⟩:=h;refine w_ ?_
  refine ⟨_,(Ac (Bh (BK Et (pv 1) (Av BR rfl T.len PySem.boot_len (Aa (pv 0) Ab)) (BX _)) (Af (Aw (Bb Dc (pv 0) (pv 1) (fun _ _=>rfl)))) BZ)
   (Af (Aw Ae))),?_⟩
  refine ⟨_,rfl,_,rfl,a,_,rfl,.inl hS,_,_,rfl,rfl,_,rfl,?_⟩
  refine CV (fun h1=>?_) (fun _=>q 0)
  have hlt:k<ns.length:=by have:=of_decide_eq_true h1; rw [List.length_map] at this; omega
  exact ⟨_,rfl,_,rfl,a,_,_,.int ns[k],rfl,rfl,hS,Aq (by rw [List.getElem?_map,List.getElem?_eq_getElem hlt]; rfl),q _⟩
theorem fB:Az ["_law_found"] ["_law_found"] (Ag cg):=Bv
include N T in
theorem Za:BJ P w K mg base Bk 1 aD.fLw aD.dLw ["_law_found"] Qz:=by
 refine N.FLw.1.ok fB (fun vs H Q E h=>?_) (fun cdv A outer s H vs Q E hr h=>?_)
 ·obtain ⟨i,rfl,_⟩:=h
  rfl
 ·obtain ⟨i,rfl,q⟩:=h
  refine ⟨_,(Af (Aw (Dd (Av Bo rfl T.isin PyProof.Rows.boot_isinstance (Aa (pv 0) (Aa (CW (v:=.ty "int") rfl T.int PyProof.Rows.boot_int rfl) Ab))) (DN (Kp (Av Bo rfl T.isin PyProof.Rows.boot_isinstance (Aa (pv 0) (Aa (CW (v:=.ty "bool") rfl T.bool PyProof.Rows.boot_bool rfl) Ab)))))))),?_⟩
  refine ⟨_,rfl,_,"int",_,_,rfl,.int i,ty_int,_,rfl,Eo ?_⟩
  exact ⟨_,rfl,_,"bool",_,_,rfl,.int i,Vb,_,rfl,q⟩
noncomputable def Mf:Sp:=fun vs H Q _=>∃ (c b m:Int),vs=[.int c,.int b,.int m]/\0<m/\0<=b/\b<1000003/\∀ z:Int,0<=z->z<m->Q (.int z) H
theorem Qd:Az ["_law_cell","_law_by","_law_many_here","_law_digits","_law_turn","_law_one","_law_two"] ["_law_cell","_law_by","_law_many_here"] (Ag bU):=Bv
include N T in
theorem JD:BJ P w K mg base Bk 1 aD.fMi aD.dMi ["_law_cell","_law_by","_law_many_here"] Mf:=by
 refine N.FMi.1.ok Qd (fun vs H Q E h=>?_) (fun cdv A outer s H vs Q E hr h=>?_)
 ·refine byC fun w_=>?_;obtain ⟨c,b,m,rfl,_⟩:=h;refine w_ ?_
  rfl
 ·refine byC fun w_=>?_;obtain ⟨c,b,m,rfl,hm,hb0,hb1,q⟩:=h;refine w_ ?_
  refine ⟨_,(Ac (Bh (BK S6 (pv 0) (BW OJ Ae Ae) (BX _)) (Ac (BP (i:=3) Qd.nd rfl (Or.inl rfl) (BW Dv (pv 0) Ae))
   (Ac (Dg PassesOwn.never rfl (FT rfl T.range (Aa (BW Cw (BW Dh (pv 1) (BW Cw (pv 0) Ae)) Ae) Ab)) (Bx (i:=4) Qd.nd rfl (Or.inl rfl)) (Af (BP (i:=3) Qd.nd rfl (Or.inl rfl) (BW Dv (pv 3) Ae))))
   (Af (Aw (BW Cw (BW Cw (pv 3) Ae) (pv 2)))))) BZ)
   (Ac (BP (i:=5) Qd.nd rfl (Or.inl rfl) (BW Cw (BW Gg (BW Dh (BW Cw (pv 0) Ae) (pv 1)) Ae) Ae))
   (Ac (BP (i:=6) Qd.nd rfl (Or.inl rfl) (BW Cw (BW Dh (BW Gg (pv 5) (pv 5)) (pv 1)) Ae))
   (Af (Aw (BW Cw (BW Dv (BW Dh (BW Gg (pv 6) Ae) (BW Cw (BW Gg (pv 6) (pv 5)) Ae)) Ae) (pv 2))))))),?_⟩
  refine ⟨_,rfl,_,_,rfl,rfl,⟨by decide,by decide,by decide⟩,_,_,rfl,rfl,_,rfl,?_⟩
  refine CV (fun h1=>?_) (fun h1=>?_)
  ·refine ⟨_,rfl,_,_,rfl,rfl,⟨by decide,by decide⟩,?_⟩
   have e29:0<=(b+c % 10080) % 92/\(b+c % 10080) % 92<92:=⟨Int.emod_nonneg _ (by decide),Int.emod_lt_of_pos _ (by decide)⟩
   refine ⟨_,rfl,_,rfl,_,_,rfl,rfl,(by show (0:Int)<10080; decide),_,_,rfl,rfl,_,_,rfl,rfl,(by show (0:Int)<92; decide),_,rfl,by show -(2 ^ 62)<=(b+c % 10080) % 92; omega,by show (b+c % 10080) % 92<2 ^ 62; omega,IK (lo:=0) (n:=((b+c % 10080) % 92).toNat) (fun i σ H4=>H4=H/\∃ (z:Int) (v4:Option V),σ=[some (.int c),some (.int b),some (.int m),some (.int z),v4,none,none]) ⟨rfl,_,_,rfl⟩ ?_ ?_⟩
   ·rintro i σ H4 hi ⟨rfl,z,v4,rfl⟩
    exact ⟨_,rfl,_,_,rfl,rfl,⟨by decide,by decide⟩,rfl,_,_,rfl⟩
   ·rintro σ H4 ⟨rfl,z,v4,rfl⟩
    exact ⟨_,rfl,_,_,rfl,rfl,(by show (0:Int)<1000003; decide),_,rfl,_,_,rfl,rfl,hm,q _ (Int.emod_nonneg _ (by omega)) (Int.emod_lt_of_pos _ hm)⟩
  ·have c0:0<=c % 1000003/\c % 1000003<1000003:=⟨Int.emod_nonneg _ (by decide),Int.emod_lt_of_pos _ (by decide)⟩
   refine ⟨_,rfl,_,_,rfl,rfl,(by show (0:Int)<1000003; decide),_,rfl,_,_,rfl,rfl,_,_,rfl,rfl,.inr ⟨by decide,by decide⟩,_,_,rfl,rfl,(by show (0:Int)<2147483647; decide),?_⟩
   have o0:0<=(c % 1000003+b) * 48271 % 2147483647/\(c % 1000003+b) * 48271 % 2147483647<2147483647:=⟨Int.emod_nonneg _ (by decide),Int.emod_lt_of_pos _ (by decide)⟩
   show DR 5 (V.int ((c % 1000003+b) * 48271 % 2147483647)) _ _ _
   generalize (c % 1000003+b) * 48271 % 2147483647=one at o0
   refine ⟨_,rfl,_,rfl,_,_,rfl,rfl,.inl ⟨by omega,by omega⟩,_,rfl,_,_,rfl,rfl,_,_,rfl,rfl,(by show (0:Int)<2147483629; decide),?_⟩
   have t0:0<=(one * one+b) % 2147483629/\(one * one+b) % 2147483629<2147483629:=⟨Int.emod_nonneg _ (by decide),Int.emod_lt_of_pos _ (by decide)⟩
   show DR 6 (V.int ((one * one+b) % 2147483629)) _ _ _
   generalize (one * one+b) % 2147483629=two at t0
   exact ⟨_,rfl,_,_,rfl,rfl,.inl ⟨by omega,by omega⟩,_,rfl,_,rfl,_,_,rfl,rfl,.inl ⟨by omega,by omega⟩,_,_,rfl,rfl,(by show (0:Int)<2147483587; decide),_,_,rfl,rfl,_,_,rfl,rfl,⟨by decide,by decide⟩,_,rfl,_,_,rfl,rfl,hm,q _ (Int.emod_nonneg _ (by omega)) (Int.emod_lt_of_pos _ hm)⟩
noncomputable def YH:Sp:=fun vs H Q _=>∃ (b:Str) (k:Nat),vs=[.str b,.int (k:Nat)]/\b.length<=6/\k<1000/\Q (.str (De b k)) H
theorem Tv:Az ["_law_base_here","_law_k","_law_letters","_law_name_here"] ["_law_base_here","_law_k"] (Ag eN):=Bv
include N T in
theorem W5:BJ P w K mg base Bk 1 aD.fNn aD.dNn ["_law_base_here","_law_k"] YH:=by
 refine N.FNn.1.ok Tv (fun vs H Q E h=>?_) (fun cdv A outer s H vs Q E hr h=>?_)
 ·obtain ⟨b,k,rfl,_⟩:=h
  rfl
 ·refine byC fun w_=>?_;obtain ⟨b,k,rfl,hb,hk,q⟩:=h;refine w_ ?_
  refine ⟨_,(Ac (BP (i:=2) Tv.nd rfl (Or.inl rfl) Am)
   (Ac (BP (i:=3) Tv.nd rfl (Or.inl rfl) (BW Cj (pv 0) (Bb Ka (pv 2) (BW Cw (pv 1) Ae) (fun _ _=>rfl))))
   (Ac (Bh (BK S6 (pv 1) Ae (BX _)) (Af (BP (i:=3) Tv.nd rfl (Or.inl rfl) (BW Cj (pv 3) (Bb Ka (pv 2) (BW Cw (BW Gg (BW Dv (pv 1) Ae) Ae) Ae) (fun _ _=>rfl))))) BZ)
   (Af (Aw (pv 3)))))),?_⟩
  have m0:0<=(k:Int) % 26:=Int.emod_nonneg _ (by decide)
  have m1:(k:Int) % 26<26:=Int.emod_lt_of_pos _ (by decide)
  have n0:0<=(k:Int) / 26 * 5 % 26:=Int.emod_nonneg _ (by decide)
  have n1:(k:Int) / 26 * 5 % 26<26:=Int.emod_lt_of_pos _ (by decide)
  have em:(((k:Int) % 26).toNat)=k % 26:=by omega
  have en:(((k:Int) / 26 * 5 % 26).toNat)=k / 26 * 5 % 26:=by omega
  refine ⟨_,rfl,_,rfl,_,rfl,_,_,rfl,rfl,(by show (0:Int)<26; decide),letters,_,_,rfl,rfl,Bu (by decide +kernel),N_ m0 m1,_,_,rfl,rfl,Bu (by show b.length+1<=1000; omega),?_⟩
  have l1:(b++TX (k % 26)).length<=7:=by rw [len_app,Iv]; omega
  refine ⟨_,rfl,_,_,rfl,rfl,_,rfl,?_⟩
  refine CV (fun h1=>?_) (fun h1=>?_)
  ·have hk26:26<=k:=by have:=of_decide_eq_true h1; omega
   refine ⟨_,rfl,_,rfl,_,rfl,_,_,rfl,rfl,⟨by decide,by decide⟩,_,_,rfl,rfl,.inr ⟨by decide,by decide⟩,_,_,rfl,rfl,(by show (0:Int)<26; decide),letters,_,_,rfl,rfl,Bu (by decide +kernel),N_ n0 n1,_,_,rfl,rfl,Bu (by show (b++TX ((k:Int) % 26).toNat).length+1<=1000; rw [em]; omega),?_⟩
   unfold De at q
   rw [if_pos hk26,← em,← en] at q
   exact ⟨_,rfl,q⟩
  ·have hk26:¬ 26<=k:=fun z=>h1 (decide_eq_true (by omega))
   unfold De at q
   rw [if_neg hk26,← em] at q
   exact ⟨_,rfl,q⟩
noncomputable def YS:Sp:=fun vs H Q _=>∃ (c:Int),vs=[.int c]/\∀ b:Str,Gq b->Q (.str b) H
theorem Sx:Az ["_law_cell","_law_letters","_law_base_here","_law_k"] ["_law_cell"] (Ag cH):=Bv
include N T in
theorem XF:BJ P w K mg base Bk 1 aD.fBb aD.dBb ["_law_cell"] YS:=by
 refine N.FBb.1.ok Sx (fun vs H Q E h=>?_) (fun cdv A outer s H vs Q E hr h=>?_)
 ·obtain ⟨c,rfl,_⟩:=h
  rfl
 ·obtain ⟨c,rfl,q⟩:=h
  refine ⟨_,(Ac (BP (i:=1) Sx.nd rfl (Or.inl rfl) Am)
   (Ac (BP (i:=2) Sx.nd rfl (Or.inl rfl) Am)
   (Ac (Dg PassesOwn.never rfl (FT rfl T.range (Aa (BW Cw (pv 0) Ae) Ab)) (Bx (i:=3) Sx.nd rfl (Or.inl rfl)) (Af (BP (i:=2) Sx.nd rfl (Or.inl rfl) (BW Cj (pv 2) (Bb Ka (pv 1) (BW Cw (BW Dh (BW Dv (pv 0) Ae) (BW Gg (BW Gg (pv 3) (pv 3)) Ae)) Ae) (fun _ _=>rfl))))))
   (Af (Aw (pv 2)))))),?_⟩
  have m0:0<=c % 7:=Int.emod_nonneg _ (by decide)
  have m1:c % 7<7:=Int.emod_lt_of_pos _ (by decide)
  refine ⟨_,rfl,_,_,rfl,rfl,(by show (0:Int)<7; decide),_,rfl,by show -(2 ^ 62)<=c % 7; omega,by show c % 7<2 ^ 62; omega,IK (lo:=0) (n:=(c % 7).toNat) (fun i σ H4=>H4=H/\∃ (b:Str) (v3:Option V),(b.length<=i/\∀ c∈b.cps.toList,97<=c/\c<=122)/\σ=[some (.int c),some (.str letters),some (.str b),v3]) ⟨rfl,"",_,⟨by decide,Gq.nil.2⟩,rfl⟩ ?_ ?_⟩
  ·rintro i σ H4 hi ⟨rfl,b,v3,hb,rfl⟩
   have n0:0<=(c / 6+(0+(i:Nat)) * (0+(i:Nat)) * 7) % 26:=Int.emod_nonneg _ (by decide)
   have n1:(c / 6+(0+(i:Nat)) * (0+(i:Nat)) * 7) % 26<26:=Int.emod_lt_of_pos _ (by decide)
   have hb1:=hb.1
   refine ⟨_,rfl,_,rfl,_,rfl,_,_,rfl,rfl,⟨by decide,by decide⟩,_,rfl,_,rfl,_,_,rfl,rfl,.inl ⟨by omega,by omega⟩,_,_,rfl,rfl,.inr ⟨by decide,by decide⟩,_,_,rfl,rfl,_,_,rfl,rfl,(by show (0:Int)<26; decide),letters,_,_,rfl,rfl,Bu (by decide +kernel),N_ n0 n1,_,_,rfl,rfl,Bu (by show b.length+1<=1000; omega),?_⟩
   exact ⟨rfl,_,_,Gq.snoc hb (n:=((c / 6+(0+(i:Nat)) * (0+(i:Nat)) * 7) % 26).toNat) (by omega),rfl⟩
  ·rintro σ H4 ⟨rfl,b,v3,hb,rfl⟩
   exact ⟨_,rfl,q b ⟨by have:=hb.1; omega,hb.2⟩⟩
noncomputable def XS (C:Addr):Sp:=fun vs H Q _=>∃ (x:Addr) (bs:List (Str × Nat)) (ks:List R),vs=[.ref x]/\Jq C H x bs ks/\∀ D bvs H',H D=none->Ao H H'->H' D=some (.lst bvs)->Paired (fun b y=>TupAt H' (bV b) y) bs bvs->Q (.ref D) H'
theorem fP:Az ["self"] ["self"] (Ag fJ):=Bv
include N T in
theorem Zd:BJ P w K mg base Bk 1 aD.fOb aD.dOb ["self"] (XS C):=by
 refine N.FOb.1.ok fP (fun vs H Q E h=>?_) (fun cdv A outer s H vs Q E hr h=>?_)
 ·refine byC fun w_=>?_;obtain ⟨x,bs,ks,rfl,_⟩:=h;refine w_ ?_
  rfl
 ·refine byC fun w_=>?_;obtain ⟨x,bs,ks,rfl,O,q⟩:=h;refine w_ ?_
  refine ⟨_,(Af (Aw (Ce Dl rfl T.list PyProof.Rows.boot_list (Aa (El (pv 0) rfl) Ab)))),?_⟩
  refine byC fun w_=>?_;obtain ⟨⟨dx,fs,bl,bn,kp,kr,bvs,pvs,uvs,kvs,h1,l1,l2,l3,l4,lm,h2,h3,h4,h5,h6,h7,h8,h9⟩,ob5,osz,onk⟩:=id O;refine w_ ?_
  exact ⟨_,rfl,x,C,dx,_,_,rfl,h1,T.cl,T.n_board_list,l1,bl,bvs,rfl,.inl (.inl (.inl h2)),fun l hl=>q l bvs _ hl (Ax hl) Ah (Aj (Ax hl) h3)⟩
noncomputable def W0 (C:Addr):Sp:=fun vs H Q _=>∃ (x:Addr) (bs:List (Str × Nat)) (ks:List R),vs=[.ref x]/\Jq C H x bs ks/\∀ D ys H',H D=none->Ao H H'->H' D=some (.lst ys)->Paired (fun (r:R) y=>TupAt H' [.str r.w,.str r.nm] y) ks ys->Q (.ref D) H'
theorem bx:Az ["self"] ["self"] (Ag aJ):=Bv
include N T in
theorem Xp:BJ P w K mg base Bk 1 aD.fOz aD.dOz ["self"] (W0 C):=by
 refine N.FOz.1.ok bx (fun vs H Q E h=>?_) (fun cdv A outer s H vs Q E hr h=>?_)
 ·refine byC fun w_=>?_;obtain ⟨x,bs,ks,rfl,_⟩:=h;refine w_ ?_
  rfl
 ·refine byC fun w_=>?_;obtain ⟨x,bs,ks,rfl,O,q⟩:=h;refine w_ ?_
  refine ⟨_,(Af (Aw (Bm rfl (Bd (osc:=Ag aJ) (N:=["self"]) rfl rfl (by decide +kernel)) (Bq (El (pv 0) rfl)) (fun _ _ _ _=>CK) (fun _ _ _ _=>(Cd (Aa (Bb (BL (K:=K) rfl) (pv 0) Ae (fun _ _=>rfl)) (Aa (Bb (BL (K:=K) rfl) (pv 0) Ae (fun _ _=>rfl)) Ab))))))),?_⟩
  refine byC fun w_=>?_;obtain ⟨⟨dx,fs,bl,bn,kp,kr,bvs,pvs,uvs,kvs,h1,l1,l2,l3,l4,lm,h2,h3,h4,h5,h6,h7,h8,h9⟩,ob5,osz,onk⟩:=id O;refine w_ ?_
  have hS:Cp K H kr uvs:=.inl (.inl h8)
  have hul:=h9.length
  refine ⟨_,rfl,x,C,dx,_,_,rfl,h1,T.cl,T.n_knob_rows,l4,kr,rfl,⟨_,hS⟩,Hm (K:=K) (xs:=uvs) (fun _=>true) (fun v=>[.str (Jh H v).w,.str (Jh H v).nm]) hS (Ar (by omega)) (fun y hy H' hs R k=>k H' (Ao.refl H')) (fun y hy _ H' hs R k=>?_) (fun D H' ys hD hs hl hv=>?_)⟩
  ·obtain ⟨r,_,hr0⟩:=Cv h9 hy
   have e:=KZ hr0
   rw [e] at k
   obtain ⟨T0,rfl,hT⟩:=hr0.mono hs
   exact ⟨_,rfl,T0,_,_,_,rfl,rfl,.inl (.inl hT),Aq (j:=0) rfl,_,rfl,T0,_,_,_,rfl,rfl,.inl (.inl hT),Aq (j:=1) rfl,by show 2<=sizeLine; decide,fun T6 hT6=>k _ _ (Ax hT6) ⟨T6,rfl,Ah⟩⟩
  ·rw [List.filter_eq_self.mpr (fun _ _=>rfl)] at hv
   have h:=CT (F:=fun (r:R) y=>TupAt H' [.str r.w,.str r.nm] y) (Jh H) hv
   rw [Kc h9] at h
   exact q D ys H' hD hs hl h
noncomputable def Yr (C:Addr):Sp:=fun vs H Q _=>∃ (x:Addr) (bs:List (Str × Nat)) (rk:List (Str × Nat × Int)) (ks:List R) (ls:List (List Ln)),vs=[.ref x]/\JZ C H x bs rk ks ls/\∀ D rvs H',H D=none->Ao H H'->H' D=some (.lst rvs)->Paired (fun (a:Th) y=>TupAt H' (tV a) y) (rk.map VN) rvs->Q (.ref D) H'
theorem dY:Az ["self"] ["self"] (Ag bc):=Bv
include N T in
theorem ZV:BJ P w K mg base Bk 1 aD.fOr aD.dOr ["self"] (Yr C):=by
 refine N.FOr.1.ok dY (fun vs H Q E h=>?_) (fun cdv A outer s H vs Q E hr h=>?_)
 ·refine byC fun w_=>?_;obtain ⟨x,bs,rk,ks,ls,rfl,_⟩:=h;refine w_ ?_
  rfl
 ·refine byC fun w_=>?_;obtain ⟨x,bs,rk,ks,ls,rfl,O,q⟩:=h;refine w_ ?_
  refine ⟨_,(Af (Aw (Ce Dl rfl T.list PyProof.Rows.boot_list (Aa (El (pv 0) rfl) Ab)))),?_⟩
  refine byC fun w_=>?_;obtain ⟨⟨dx,fs,bl,bn,kp,kr,bvs,pvs,uvs,kvs,h1,l1,l2,l3,l4,lm,h2,h3,h4,h5,h6,h7,h8,h9⟩,ob5,osz,onk⟩:=id O.o;refine w_ ?_
  refine byC fun w_=>?_;obtain ⟨dx',fs',rl,rn,pp,kl,rvs,qvs,kvs',g1,m1,m2,m3,m4,g2,g3,g4,g5,g6,g7,lv,g8,g9⟩:=id O.r;refine w_ ?_
  obtain ⟨e1,e2⟩:dx'=dx/\fs'=fs:=by rw [h1] at g1; cases g1; exact ⟨rfl,rfl⟩
  subst e1 e2
  exact ⟨_,rfl,x,C,_,_,_,rfl,h1,T.cl,T.n_rank_list,m1,rl,rvs,rfl,.inl (.inl (.inl g2)),fun l hl=>q l rvs _ hl (Ax hl) Ah (Aj (Ax hl) g3)⟩
noncomputable def Wn (C:Addr):Sp:=fun vs H Q _=>∃ (x:Addr) (us:List V) (bs:List (Str × Nat)) (rk:List (Str × Nat × Int)) (ks:List R) (ls:List (List Ln)) (sts:List Nat),vs=[.ref x]/\KR C H x us bs rk ks ls sts/\∀ D H',H D=none->Ao H H'->H' D=some (.lst us)->Q (.ref D) H'
theorem cz:Az ["self"] ["self"] (Ag d_):=Bv
include N T in
theorem VJ:BJ P w K mg base Bk 1 aD.fOw aD.dOw ["self"] (Wn C):=by
 refine N.FOw.1.ok cz (fun vs H Q E h=>?_) (fun cdv A outer s H vs Q E hr h=>?_)
 ·refine byC fun w_=>?_;obtain ⟨x,us,bs,rk,ks,ls,sts,rfl,_⟩:=h;refine w_ ?_
  rfl
 ·refine byC fun w_=>?_;obtain ⟨x,us,bs,rk,ks,ls,sts,rfl,O,q⟩:=h;refine w_ ?_
  refine ⟨_,(Af (Aw (Ce Dl rfl T.list PyProof.Rows.boot_list (Aa (El (pv 0) rfl) Ab)))),?_⟩
  refine byC fun w_=>?_;obtain ⟨_,dx,fs,rl,kd,ss,kvs,h1,l1,l2,l3,h2,h3,h4,h5,h6,_⟩:=id O;refine w_ ?_
  exact ⟨_,rfl,x,C,dx,_,_,rfl,h1,T.cl,T.n_row_list,l1,rl,us,rfl,.inl (.inl (.inl h2)),fun l hl=>q l _ hl (Ax hl) Ah⟩
structure Z_ (K:PySem.W.Frag) (aB aP aM:Addr):Prop where
 f:Qo K aB aP aM
 mT:∃ t,PySem.W.nsIn K aM "step" = some (some (.int 12 t))
structure Lz (K:PySem.W.Frag) (aB aP aM:Addr) (H0 H:Hp) (A:Ji) (S:Pl) (Cs:List Addr) (lo:V) (base:Str):Prop where
 h:Be H0 H A S Cs lo
 k:Df K aB aP aM base S lo
 b:Gq base
 l:S.rows.length<70
 F:Z_ K aB aP aM
theorem Ep {α:Type} {F:α->V->Prop} {p:α->Bool} {q:V->Bool}:∀ {l:List α} {vs:List V},Paired F l vs->(∀ a v,F a v->q v=p a)->(vs.filter q).length=(l.filter p).length
 | [],_,h,_=>by cases h; rfl
 | a::l,_,h,k=>by
  cases h with
  | cons x y =>
   have ih:=Ep y k
   rw [List.filter_cons,List.filter_cons,k _ _ x]
   cases p a
   ·exact ih
   ·show _+1=_+1
    rw [ih]
noncomputable def XR:Sp:=fun vs H Q _=>∃ (H0:Hp) (A:Ji) (S:Pl) (Cs:List Addr) (lo:V) (wd:Str),vs=[.ref A.p,.str wd]/\Be H0 H A S Cs lo/\S.ks.length<=100/\∀ H',Ao H H'->Q (.int ((S.ks.filter fun r=>decide (V.str r.w=V.str wd)).length:Nat)) H'
theorem cJ:Az ["_law_plan_here","_law_word"] ["_law_plan_here","_law_word"] (Ag ao):=Bv
include N T in
theorem Zo:BJ P w K mg base Bk 1 aD.fMa aD.dMa ["_law_plan_here","_law_word"] XR:=by
 refine N.FMa.1.ok cJ (fun vs H Q E h=>?_) (fun cdv A outer s H vs Q E hr h=>?_)
 ·refine byC fun w_=>?_;obtain ⟨H0,A,S,Cs,lo,wd,rfl,_⟩:=h;refine w_ ?_
  rfl
 ·refine byC fun w_=>?_;obtain ⟨H0,A,S,Cs,lo,wd,rfl,h,hl,q⟩:=h;refine w_ ?_
  have hu:=Fd hr
  refine ⟨_,(Af (Aw (Av BR rfl T.len PySem.boot_len (Aa (Bm rfl (Bd (osc:=Ag ao) (N:=["_law_plan_here","_law_word"]) rfl rfl (by decide +kernel)) (Bq (Ba hu (pv 0) Am (fun _ _=>rfl))) (fun _ _ _ _=>(Kr (BK DP (Bb (BL (K:=K) rfl) (pv 0) Ae (fun _ _=>rfl)) (pv 2) (BX _)))) (fun _ _ _ _=>(pv 0))) Ab)))),?_⟩
  refine byC fun w_=>?_;obtain ⟨kvs,g1,g2,y1,y2,y3,y4,y5,y6,y7⟩:=h.dp;refine w_ ?_
  obtain ⟨vn,n1,n2⟩:=h.n
  have g:=B_.k (k:=Sum.inr "knobs") g1
  rw [y4] at g
  have hS:Cp K H A.n vn:=.inl (.inl n1)
  have ln:=n2.length
  refine ⟨_,rfl,A.p,_,rfl,g,A.n,rfl,⟨_,hS⟩,DG (K:=K) (xs:=vn) (fun v=>decide (Qi H 0 v=.str wd)) id hS (Ar (by omega)) (fun x hx H' hs R k=>?_) (fun x hx _ H' hs R k=>⟨_,rfl,k H' (Ao.refl H')⟩) (fun D H' hD hs hl'=>?_)⟩
  ·obtain ⟨b,_,hx'⟩:=Cv n2 hx
   have e:=Hc hx' 0
   obtain ⟨T0,rfl,hT⟩:=hx'.mono hs
   refine ⟨_,rfl,T0,_,_,_,rfl,rfl,.inl (.inl hT),Aq (j:=0) rfl,_,rfl,rfl,_,rfl,?_⟩
   have:=k H' (Ao.refl H')
   rw [e] at this
   exact this
  ·rw [List.map_id] at hl'
   refine ⟨D,_,rfl,.inl (.inl (.inl hl')),?_⟩
   have e:=Ep (p:=fun r:R=>decide (V.str r.w=V.str wd)) (q:=fun v=>decide (Qi H 0 v=.str wd)) n2 (fun a v hv=>by rw [Hc hv 0]; rfl)
   rw [e]
   exact q H' hs
noncomputable def ZK (K:PySem.W.Frag) (aB aP aM:Addr):Sp:=fun vs H Q _=>∃ (H0:Hp) (A:Ji) (S:Pl) (Cs:List Addr) (lo:V) (bb:Str) (c:Int),vs=[.ref A.p,.str (De bb S.rows.length),.int c]/\Lz K aB aP aM H0 H A S Cs lo bb/\S.bs.length<5/\Jc K aB aP aM bb H0 A S Q
theorem bH {α:Type} {a b c d:α} {z:Int} (h0:0<=z) (h1:z<4):∃ x,QQ [a,b,c,d] z=some x/\(x=a \/ x=b \/ x=c \/ x=d):=by
 have:z=0 \/ z=1 \/ z=2 \/ z=3:=by omega
 rcases this with rfl | rfl | rfl | rfl
 ·exact ⟨a,rfl,.inl rfl⟩
 ·exact ⟨b,rfl,.inr (.inl rfl)⟩
 ·exact ⟨c,rfl,.inr (.inr (.inl rfl))⟩
 ·exact ⟨d,rfl,.inr (.inr (.inr rfl))⟩
theorem Yb:Az ["_law_plan_here","_law_name_here","_law_cell","_law_keys"] ["_law_plan_here","_law_name_here","_law_cell"] (Ag dN):=Bv
include N T in
theorem Zg:BJ P w K mg base Bk 2 aD.fLb aD.dLb ["_law_plan_here","_law_name_here","_law_cell"] (ZK K aB aP aM):=by
 have GMi:BJ P w K mg base Bk 1 aD.fMi aD.dMi ["_law_cell","_law_by","_law_many_here"] Mf:=JD N T
 refine N.FLb.1.ok Yb (fun vs H Q E h=>?_) (fun cdv A outer s H vs Q E hr h=>?_)
 ·refine byC fun w_=>?_;obtain ⟨H0,A,S,Cs,lo,bb,c,rfl,_⟩:=h;refine w_ ?_
  rfl
 ·refine byC fun w_=>?_;obtain ⟨H0,A,S,Cs,lo,bb,c,rfl,I,h5,q⟩:=h;refine w_ ?_
  have hrMi:Bc 1 _:=hr.mono (by decide)
  have hu:=Fd hr
  refine ⟨_,(Ac (BP (i:=3) Yb.nd rfl (Or.inl rfl) (BW Dh Ae (Ak GMi hrMi rfl N.FMi.2.2 N.FMi.1.kp N.FMi.2.1 .nil A_ (Aa (pv 2) (Aa Ae (Aa (Bb Dc (Cm (Aa Ae (Aa Ae (Aa Ae (Aa Ae Ab))))) (Ak GMi hrMi rfl N.FMi.2.2 N.FMi.1.kp N.FMi.2.1 .nil A_ (Aa (pv 2) (Aa Ae (Aa Ae Ab)))) (fun _ _=>rfl)) Ab))))))
   (Ac (CZ (DW PySem.F.plainAttrs_list PySem.F.slot_list_append PySem.F.type_list_append Bp (Ba hu (pv 0) Am (fun _ _=>rfl)) (Aa (Cd (Aa (pv 1) (Aa (pv 3) Ab))) Ab)))
   (Af (Aw (Cd (Aa Am (Aa (pv 1) (Aa (pv 3) Ab)))))))),?_⟩
  have hx:=id I.h
  refine byC fun w_=>?_;obtain ⟨kvs,g1,g2,y1,y2,y3,y4,y5,y6,y7⟩:=hx.dp;refine w_ ?_
  refine ⟨_,rfl,by show 4<=sizeLine; decide,fun p1 hp1=>?_⟩
  have s1:=Ax (o:=HO.lst [V.int 61,.int 12,.int 12,.int 5]) hp1
  have l1:upd H p1 (HO.lst [V.int 61,.int 12,.int 12,.int 5]) p1=some (.lst [V.int 61,.int 12,.int 12,.int 5]):=Ah
  refine ⟨_,rfl,c,44621,4,rfl,by decide,by decide,by decide,fun z z0 z1=>?_⟩
  obtain ⟨x,hx4,hx5⟩:=bH (a:=V.int 61) (b:=.int 12) (c:=.int 12) (d:=.int 5) z0 z1
  obtain ⟨m,rfl,m1,m2⟩:∃ m:Int,x=.int m/\0<m/\m<=61:=by
   rcases hx5 with rfl | rfl | rfl | rfl
   ·exact ⟨_,rfl,by decide,by decide⟩
   ·exact ⟨_,rfl,by decide,by decide⟩
   ·exact ⟨_,rfl,by decide,by decide⟩
   ·exact ⟨_,rfl,by decide,by decide⟩
  refine ⟨p1,_,_,_,rfl,rfl,.inl (.inl l1),hx4,c,31541,m,rfl,m1,by decide,by decide,fun u u0 u1=>?_⟩
  refine ⟨_,_,rfl,rfl,?_⟩
  generalize upd H p1 (HO.lst [V.int 61,.int 12,.int 12,.int 5])=H1 at s1 l1 ⊢
  obtain ⟨n,hn⟩:=Int.eq_ofNat_of_zero_le (by omega:0<=1+u)
  show DR 3 (V.int (1+u)) _ _ _
  rw [hn]
  have h1:=I.h.mono s1
  obtain ⟨vb,b1,b2⟩:=h1.b
  have lb:=b2.length
  have g:=B_.k (k:=Sum.inr "boards") (s1 _ _ g1)
  rw [y2] at g
  refine ⟨_,rfl,A.p,_,rfl,g,.inl ⟨rfl,_,.inl (.inl b1)⟩,_,rfl,_,rfl,by show 2<=sizeLine; decide,fun T5 hT5=>?_⟩
  have s5:=Ax (o:=HO.tup [V.str (De bb S.rows.length),.int (n:Nat)]) hT5
  have t5:TupAt (upd H1 T5 (HO.tup [V.str (De bb S.rows.length),.int (n:Nat)])) (bV (De bb S.rows.length,n)) (.ref T5):=⟨T5,rfl,Ah⟩
  generalize upd H1 T5 (HO.tup [V.str (De bb S.rows.length),.int (n:Nat)])=H5 at s5 t5 ⊢
  have h5':=(h1.mono s5).dz (s5 _ _ b1) t5
  refine ⟨A.b,vb,_,rfl,rfl,s5 _ _ b1,Ar (by omega),?_⟩
  generalize upd H5 A.b _=H6 at h5' ⊢
  refine ⟨_,rfl,_,rfl,by show 3<=sizeLine; decide,fun T6 hT6=>?_⟩
  exact q (Ft (De bb S.rows.length,n)) _ _ _ _ _ (h5'.mono (Ax hT6)) rfl ⟨T6,rfl,Ah⟩ (I.k.Rr I.F.f I.b (by have:=I.l; omega) h5 (by omega) (by omega)) (by simp)
noncomputable def YC (K:PySem.W.Frag) (aB aP aM:Addr):Sp:=fun vs H Q _=>∃ (H0:Hp) (A:Ji) (S:Pl) (Cs:List Addr) (lo:V) (bb:Str) (c:Int),vs=[.ref A.p,.str (De bb S.rows.length),.int c]/\Lz K aB aP aM H0 H A S Cs lo bb/\S.rk.length<12/\1<=S.bs.length/\Jc K aB aP aM bb H0 A S Q
theorem V8:Az ["_law_plan_here","_law_name_here","_law_cell","_law_pipes","_law_wind"] ["_law_plan_here","_law_name_here","_law_cell"] (Ag fM):=Bv
include N T in
theorem Z3:BJ P w K mg base Bk 2 aD.fLk aD.dLk ["_law_plan_here","_law_name_here","_law_cell"] (YC K aB aP aM):=by
 have GMi:BJ P w K mg base Bk 1 aD.fMi aD.dMi ["_law_cell","_law_by","_law_many_here"] Mf:=JD N T
 refine N.FLk.1.ok V8 (fun vs H Q E h=>?_) (fun cdv A outer s H vs Q E hr h=>?_)
 ·refine byC fun w_=>?_;obtain ⟨H0,A,S,Cs,lo,bb,c,rfl,_⟩:=h;refine w_ ?_
  rfl
 ·refine byC fun w_=>?_;obtain ⟨H0,A,S,Cs,lo,bb,c,rfl,I,h12,hb1,q⟩:=h;refine w_ ?_
  have hrMi:Bc 1 _:=hr.mono (by decide)
  have hu:=Fd hr
  refine ⟨_,(Ac (BP (i:=3) V8.nd rfl (Or.inl rfl) (BW Dh Ae (Ak GMi hrMi rfl N.FMi.2.2 N.FMi.1.kp N.FMi.2.1 .nil A_ (Aa (pv 2) (Aa Ae (Aa (Bb Dc (Cm (Aa Ae (Aa Ae (Aa Ae (Aa Ae Ab))))) (Ak GMi hrMi rfl N.FMi.2.2 N.FMi.1.kp N.FMi.2.1 .nil A_ (Aa (pv 2) (Aa Ae (Aa Ae Ab)))) (fun _ _=>rfl)) Ab))))))
   (Ac (BP (i:=4) V8.nd rfl (Or.inl rfl) (Bb Dc (Cm (Aa (Ak GMi hrMi rfl N.FMi.2.2 N.FMi.1.kp N.FMi.2.1 .nil A_ (Aa (pv 2) (Aa Ae (Aa Ae Ab)))) (Aa (BW Cw (BW Dv (pv 2) Ae) (BW Dh (BW OJ Ae Ae) Ae)) (Aa Ae (Aa (BW OJ Ae Ae) Ab))))) (Ak GMi hrMi rfl N.FMi.2.2 N.FMi.1.kp N.FMi.2.1 .nil A_ (Aa (pv 2) (Aa Ae (Aa Ae Ab)))) (fun _ _=>rfl)))
   (Ac (CZ (DW PySem.F.plainAttrs_list PySem.F.slot_list_append PySem.F.type_list_append Bp (Ba hu (pv 0) Am (fun _ _=>rfl)) (Aa (Cd (Aa (pv 1) (Aa (pv 3) (Aa (pv 4) Ab)))) Ab)))
   (Af (Aw (Cd (Aa Am (Aa (pv 1) (Aa (pv 3) (Aa (pv 4) Ab)))))))))),?_⟩
  have hx:=id I.h
  refine byC fun w_=>?_;obtain ⟨kvs,g1,g2,y1,y2,y3,y4,y5,y6,y7⟩:=hx.dp;refine w_ ?_
  refine ⟨_,rfl,by show 4<=sizeLine; decide,fun p1 hp1=>?_⟩
  have s1:=Ax (o:=HO.lst [V.int 97,.int 24,.int 24,.int 6]) hp1
  have l1:upd H p1 (HO.lst [V.int 97,.int 24,.int 24,.int 6]) p1=some (.lst [V.int 97,.int 24,.int 24,.int 6]):=Ah
  refine ⟨_,rfl,c,27437,4,rfl,by decide,by decide,by decide,fun z z0 z1=>?_⟩
  obtain ⟨x,hx4,hx5⟩:=bH (a:=V.int 97) (b:=.int 24) (c:=.int 24) (d:=.int 6) z0 z1
  obtain ⟨m,rfl,m1,m2⟩:∃ m:Int,x=.int m/\0<m/\m<=97:=by
   rcases hx5 with rfl | rfl | rfl | rfl
   ·exact ⟨_,rfl,by decide,by decide⟩
   ·exact ⟨_,rfl,by decide,by decide⟩
   ·exact ⟨_,rfl,by decide,by decide⟩
   ·exact ⟨_,rfl,by decide,by decide⟩
  refine ⟨p1,_,_,_,rfl,rfl,.inl (.inl l1),hx4,c,55051,m,rfl,m1,by decide,by decide,fun u u0 u1=>?_⟩
  refine ⟨_,_,rfl,rfl,?_⟩
  generalize upd H p1 (HO.lst [V.int 97,.int 24,.int 24,.int 6])=H1 at s1 l1 ⊢
  obtain ⟨n,hn⟩:=Int.eq_ofNat_of_zero_le (by omega:0<=1+u)
  show DR 3 (V.int (1+u)) _ _ _
  rw [hn]
  have e3:0<=c / 3 % (10 ^ (9:Int).toNat+1)/\c / 3 % (10 ^ (9:Int).toNat+1)<=1000000000:=by
   have e:(10:Int) ^ (9:Int).toNat+1=1000000001:=by decide
   rw [e]
   omega
  have e9:(10:Int) ^ (9:Int).toNat=1000000000:=by decide
  refine ⟨_,rfl,c,61001,10,rfl,by decide,by decide,by decide,fun r1 r10 r11=>⟨_,rfl,_,_,rfl,rfl,⟨by decide,by decide⟩,_,_,rfl,rfl,⟨by decide,by decide,by decide⟩,_,_,rfl,rfl,_,_,rfl,rfl,(by show (0:Int)<10 ^ (9:Int).toNat+1; decide),_,_,rfl,rfl,⟨by decide,by decide,by decide⟩,by show 4<=sizeLine; decide,fun p2 hp2=>?_⟩⟩
  dsimp only at hp2 ⊢
  generalize c / 3 % (10 ^ (9:Int).toNat+1)=w2 at e3 ⊢
  generalize (10:Int) ^ (9:Int).toNat=w4 at e9 ⊢
  have s2:=Ax (o:=HO.lst [V.int r1,.int w2,.int 0,.int w4]) hp2
  have l2:upd H1 p2 (HO.lst [V.int r1,.int w2,.int 0,.int w4]) p2=some (.lst [V.int r1,.int w2,.int 0,.int w4]):=Ah
  refine ⟨_,rfl,c,39119,4,rfl,by decide,by decide,by decide,fun z' z0' z1'=>?_⟩
  obtain ⟨x',hx4',hx5'⟩:=bH (a:=V.int r1) (b:=.int w2) (c:=.int 0) (d:=.int w4) z0' z1'
  obtain ⟨wi,rfl,m1',m2'⟩:∃ m:Int,x'=.int m/\0<=m/\m<=1000000000:=by
   rcases hx5' with rfl | rfl | rfl | rfl
   ·exact ⟨_,rfl,by omega,by omega⟩
   ·exact ⟨_,rfl,by omega,by omega⟩
   ·exact ⟨_,rfl,by decide,by decide⟩
   ·exact ⟨_,rfl,by omega,by omega⟩
  refine ⟨p2,_,_,_,rfl,rfl,.inl (.inl l2),hx4',?_⟩
  generalize upd H1 p2 (HO.lst [V.int r1,.int w2,.int 0,.int w4])=H2 at s2 l2 ⊢
  have h1:=(I.h.mono s1).mono s2
  obtain ⟨vb,b1,b2⟩:=h1.k
  have lb:=b2.length
  have g:=B_.k (k:=Sum.inr "ranks") (s2 _ _ (s1 _ _ g1))
  rw [y3] at g
  refine ⟨_,rfl,A.p,_,rfl,g,.inl ⟨rfl,_,.inl (.inl b1)⟩,_,rfl,_,rfl,_,rfl,by show 3<=sizeLine; decide,fun T5 hT5=>?_⟩
  have s5:=Ax (o:=HO.tup [V.str (De bb S.rows.length),.int (n:Nat),.int wi]) hT5
  have t5:TupAt (upd H2 T5 (HO.tup [V.str (De bb S.rows.length),.int (n:Nat),.int wi])) (Yc (De bb S.rows.length,n,wi)) (.ref T5):=⟨T5,rfl,Ah⟩
  generalize upd H2 T5 (HO.tup [V.str (De bb S.rows.length),.int (n:Nat),.int wi])=H5 at s5 t5 ⊢
  have h5':=(h1.mono s5).bO (s5 _ _ b1) t5
  refine ⟨A.k,vb,_,rfl,rfl,s5 _ _ b1,Ar (by omega),?_⟩
  generalize upd H5 A.k _=H6 at h5' ⊢
  refine ⟨_,rfl,_,rfl,_,rfl,by show 4<=sizeLine; decide,fun T6 hT6=>?_⟩
  exact q (F_ (De bb S.rows.length,n,wi)) _ _ _ _ _ (h5'.mono (Ax hT6)) rfl ⟨T6,rfl,Ah⟩ (I.k.rank I.F.f I.b (by have:=I.l; omega) h12 (by omega) (by omega) m1' m2') hb1
noncomputable def Zv (K:PySem.W.Frag) (aB aP aM:Addr):Sp:=fun vs H Q _=>∃ (H0:Hp) (A:Ji) (S:Pl) (Cs:List Addr) (lo:V) (bb:Str) (c:Int),vs=[.ref A.p,.str (De bb S.rows.length),.int c]/\Lz K aB aP aM H0 H A S Cs lo bb/\1<=S.bs.length/\(S.ks.filter fun r=>decide (V.str r.w=V.str "stop")).length<24/\Jc K aB aP aM bb H0 A S Q
theorem Y5:Az ["_law_plan_here","_law_name_here","_law_cell","_law_at"] ["_law_plan_here","_law_name_here","_law_cell"] (Ag cG):=Bv
include N T in
theorem Zf:BJ P w K mg base Bk 2 aD.fLs aD.dLs ["_law_plan_here","_law_name_here","_law_cell"] (Zv K aB aP aM):=by
 have GMi:BJ P w K mg base Bk 1 aD.fMi aD.dMi ["_law_cell","_law_by","_law_many_here"] Mf:=JD N T
 refine N.FLs.1.ok Y5 (fun vs H Q E h=>?_) (fun cdv A outer s H vs Q E hr h=>?_)
 ·refine byC fun w_=>?_;obtain ⟨H0,A,S,Cs,lo,bb,c,rfl,_⟩:=h;refine w_ ?_
  rfl
 ·refine byC fun w_=>?_;obtain ⟨H0,A,S,Cs,lo,bb,c,rfl,I,hb1,h24,q⟩:=h;refine w_ ?_
  have hrMi:Bc 1 _:=hr.mono (by decide)
  have hu:=Fd hr
  refine ⟨_,(Ac (BP (i:=3) Y5.nd rfl (Or.inl rfl) (Ak GMi hrMi rfl N.FMi.2.2 N.FMi.1.kp N.FMi.2.1 .nil A_ (Aa (pv 2) (Aa Ae (Aa (Av BR rfl T.len PySem.boot_len (Aa (Ba hu (pv 0) Am (fun _ _=>rfl)) Ab)) Ab)))))
   (Ac (K3 hu (pv 0) Am (Cm Ab) rfl)
   (Ac (CZ (DW PySem.F.plainAttrs_list PySem.F.slot_list_append PySem.F.type_list_append Bp (Ba hu (pv 0) Am (fun _ _=>rfl)) (Aa (Cd (Aa Am (Aa (pv 1) Ab))) Ab)))
   (Ac (CZ (DW PySem.F.plainAttrs_list PySem.F.slot_list_append PySem.F.type_list_append Bp (Ba hu (pv 0) Am (fun _ _=>rfl)) (Aa (Cd (Aa (pv 3) (Aa (Ba hu (pv 0) Am (fun _ _=>rfl)) Ab))) Ab)))
   (Af (Aw (Cd (Aa Am (Aa (pv 1) (Aa (Bb (BL (K:=K) rfl) (Bb Dc (Ba hu (pv 0) Am (fun _ _=>rfl)) (pv 3) (fun _ _=>rfl)) Ae (fun _ _=>rfl)) Ab)))))))))),?_⟩
  have hx:=id I.h
  refine byC fun w_=>?_;obtain ⟨kvs,g1,g2,y1,y2,y3,y4,y5,y6,y7⟩:=hx.dp;refine w_ ?_
  obtain ⟨vb,b1,b2⟩:=hx.b
  have lb:=b2.length
  have g:=B_.k (k:=Sum.inr "boards") g1
  rw [y2] at g
  refine ⟨_,rfl,_,rfl,A.p,_,rfl,g,A.b,_,rfl,.inl (.inl (.inl b1)),c,60013,_,rfl,(by show (0:Int)<((vb.length:Nat):Int); omega),by decide,by decide,fun u u0 u1=>?_⟩
  obtain ⟨b,hb⟩:=Int.eq_ofNat_of_zero_le u0
  subst hb
  have hbl:b<S.bs.length:=by omega
  obtain ⟨x,hxb⟩:∃ x,S.bs[b]? = some x:=⟨_,List.getElem?_eq_getElem hbl⟩
  refine ⟨Bu (by simp),fun L hL=>?_⟩
  have old:=I.h.old hL
  obtain ⟨H1,eqH,s1,l1⟩:=FJ (o:=HO.lst []) hL
  rw [eqH]
  have h1:=(I.h.mono s1).ZG (s1 _ _ g1) (.ref L)
  have l2:upd H1 A.p (HO.dK (putK kvs (Sum.inr "lines") (.ref L))) L=some (.lst []):=by rw [An (Lb l1 (s1 _ _ g1) (by intro z; cases z))]; exact l1
  refine ⟨_,rfl,A.p,_,rfl,M8.k (k:=Sum.inr "lines") (s1 _ _ g1) (Ar (by omega)),?_⟩
  generalize upd H1 A.p _=H2 at h1 l2 ⊢
  refine byC fun w_=>?_;obtain ⟨kvs2,g12,_,_,z2,_,z4,z5,_,z7⟩:=h1.dp;refine w_ ?_
  obtain ⟨vn,n1,n2⟩:=h1.n
  have ln:=n2.length
  have lk:=I.k.lk
  have lr:=I.l
  have g:=B_.k (k:=Sum.inr "knobs") g12
  rw [z4] at g
  refine ⟨_,rfl,A.p,_,rfl,g,.inl ⟨rfl,_,.inl (.inl n1)⟩,_,rfl,by show 2<=sizeLine; decide,fun T3 hT3=>?_⟩
  have s3:=Ax (o:=HO.tup [V.str "stop",.str (De bb S.rows.length)]) hT3
  have t3:TupAt (upd H2 T3 (HO.tup [V.str "stop",.str (De bb S.rows.length)])) (U8 ⟨"stop",De bb S.rows.length,[.str x.1]⟩) (.ref T3):=⟨T3,rfl,Ah⟩
  generalize upd H2 T3 (HO.tup [V.str "stop",.str (De bb S.rows.length)])=H3 at s3 t3 ⊢
  have l3:=s3 _ _ l2
  have h3:=(h1.mono s3).Uq (s3 _ _ n1) t3
  have l4:upd H3 A.n (HO.lst (vn++[.ref T3])) L=some (.lst []):=by
   rw [An fun z=>old.2 (by rw [z]; simp)]
   exact l3
  refine ⟨A.n,vn,_,rfl,rfl,s3 _ _ n1,Ar (by omega),?_⟩
  generalize upd H3 A.n (HO.lst (vn++[.ref T3]))=H4 at h3 l4 ⊢
  refine byC fun w_=>?_;obtain ⟨kvs4,g14,_,_,w2,_,_,w5,_,w7⟩:=h3.dp;refine w_ ?_
  obtain ⟨vd,d1,d2,d3⟩:=h3.d
  have ld:=d3.length
  have ld2:=I.k.pd.length
  have gd:=B_.k (k:=Sum.inr "details") g14
  rw [w5] at gd
  have gl:=B_.k (k:=Sum.inr "lines") g14
  rw [w7] at gl
  refine ⟨_,rfl,A.p,_,rfl,gd,.inl ⟨rfl,_,.inl (.inl d1)⟩,_,rfl,_,rfl,A.p,_,rfl,gl,by show 2<=sizeLine; decide,fun T5 hT5=>?_⟩
  have s5:=Ax (o:=HO.tup [V.int (b:Nat),.ref L]) hT5
  have t5:Gr (upd H4 T5 (HO.tup [V.int (b:Nat),.ref L])) (.stop b L,[]) (.ref T5):=⟨⟨T5,rfl,Ah⟩,[],s5 _ _ l4,.nil⟩
  generalize upd H4 T5 (HO.tup [V.int (b:Nat),.ref L])=H5 at s5 t5 ⊢
  have h5:=(h3.mono s5).U3 (s5 _ _ d1) t5 (fun L' hL'=>by rw [List.mem_singleton.mp hL']; exact old)
  have ld3:vd.length<=100:=by
   rw [List.length_zip] at ld
   show vd.length<=100
   have:S.ds.length=S.ks.length:=ld2.symm
   have:vd.length<=S.ds.length:=by
    rw [← ld]
    exact Nat.min_le_left _ _
   omega
  refine ⟨A.d,vd,_,rfl,rfl,s5 _ _ d1,Ar (by omega),?_⟩
  generalize upd H5 A.d _=H6 at h5 ⊢
  refine byC fun w_=>?_;obtain ⟨kvs6,g16,_,_,u2,_⟩:=h5.dp;refine w_ ?_
  obtain ⟨vb6,b16,b26⟩:=h5.b
  have gb:=B_.k (k:=Sum.inr "boards") g16
  rw [u2] at gb
  refine byC fun w_=>?_;obtain ⟨yb,hyb,Tb,rfl,hTb⟩:=Br b26 hxb;refine w_ ?_
  refine ⟨_,rfl,_,rfl,A.p,_,rfl,gb,_,rfl,A.b,_,_,_,rfl,rfl,.inl (.inl b16),Aq hyb,Tb,_,_,_,rfl,rfl,.inl (.inl hTb),Aq (j:=0) rfl,by show 3<=sizeLine; decide,fun T6 hT6=>?_⟩
  refine q ⟨"stop",De bb S.rows.length,[.str x.1]⟩ _ _ _ _ _ (h5.mono (Ax hT6)) rfl ⟨T6,rfl,Ah⟩ (I.k.Ub (by omega) rfl ⟨rfl,x,hxb,rfl⟩ (I.k.bl.plain I.F.f (.inl rfl) (Ew I.b _) (I.k.fb (by omega)) (I.k.fr (by omega)) (I.k.fk (by omega)) (by show _<24; exact h24) (n:=x.2) ?_ (List.mem_of_getElem? hxb)) (.inr ⟨b,L,x,rfl,rfl,hxb,Tl.stop _ _ _⟩)) hb1
  obtain ⟨m,_,e⟩:=I.k.nb x (List.mem_of_getElem? hxb)
  rw [e]
  exact Ew I.b m
noncomputable def Yv (K:PySem.W.Frag) (aB aP aM:Addr):Sp:=fun vs H Q _=>∃ (H0:Hp) (A:Ji) (S:Pl) (Cs:List Addr) (bb:Str) (c:Int) (ds0:List Dt) (b:Nat) (L:Addr) (x:Str × Nat) (ls0:List (List Ln)) (l0:List Ln),vs=[.ref A.p,.int c]/\Lz K aB aP aM H0 H A S Cs (.ref L) bb/\S.ds=ds0++[.stop b L]/\S.ls=ls0++[l0]/\S.bs[b]? = some x/\Tl S.rows x.1 l0.length/\l0.length<4/\1<=S.rk.length/\Jc K aB aP aM bb H0 A S Q
theorem Mu:Az ["_law_plan_here","_law_cell","_law_at","_law_keys","_law_low","_law_high","_law_shift"] ["_law_plan_here","_law_cell"] (Ag bh):=Bv
include N T in
theorem ZL:BJ P w K mg base Bk 2 aD.fLl aD.dLl ["_law_plan_here","_law_cell"] (Yv K aB aP aM):=by
 have GMi:BJ P w K mg base Bk 1 aD.fMi aD.dMi ["_law_cell","_law_by","_law_many_here"] Mf:=JD N T
 refine N.FLl.1.ok Mu (fun vs H Q E h=>?_) (fun cdv A outer s H vs Q E hr h=>?_)
 ·refine byC fun w_=>?_;obtain ⟨H0,A,S,Cs,bb,c,ds0,b,L,x,ls0,l0,rfl,_⟩:=h;refine w_ ?_
  rfl
 ·refine byC fun w_=>?_;obtain ⟨H0,A,S,Cs,bb,c,ds0,b,L,x,ls0,l0,rfl,I,e1,e2,hxb,hT,h4,hr1,q⟩:=h;refine w_ ?_
  have hrMi:Bc 1 _:=hr.mono (by decide)
  have hu:=Fd hr
  refine ⟨_,(Ac (BP (i:=2) Mu.nd rfl (Or.inl rfl) (Ak GMi hrMi rfl N.FMi.2.2 N.FMi.1.kp N.FMi.2.1 .nil A_ (Aa (pv 1) (Aa Ae (Aa (Av BR rfl T.len PySem.boot_len (Aa (Ba hu (pv 0) Am (fun _ _=>rfl)) Ab)) Ab)))))
   (Ac (BP (i:=3) Mu.nd rfl (Or.inl rfl) (Bb (BL (K:=K) rfl) (Bb (Gb (K:=K) rfl) (Ba hu (pv 0) Am (fun _ _=>rfl)) (Bb (BL (K:=K) rfl) (Bb (Gb (K:=K) rfl) (Ba hu (pv 0) Am (fun _ _=>rfl)) (VM RB Ae) (fun _ _=>rfl)) Ae (fun _ _=>rfl)) (fun _ _=>rfl)) Ae (fun _ _=>rfl)))
   (Ac (BP (i:=4) Mu.nd rfl (Or.inl rfl) (Ak GMi hrMi rfl N.FMi.2.2 N.FMi.1.kp N.FMi.2.1 .nil A_ (Aa (pv 1) (Aa Ae (Aa (pv 3) Ab)))))
   (Ac (BP (i:=5) Mu.nd rfl (Or.inl rfl) (BW Dh (pv 4) (Ak GMi hrMi rfl N.FMi.2.2 N.FMi.1.kp N.FMi.2.1 .nil A_ (Aa (pv 1) (Aa Ae (Aa (BW G5 (pv 3) (pv 4)) Ab))))))
   (Ac (BP (i:=6) Mu.nd rfl (Or.inl rfl) (BW G5 (Ak GMi hrMi rfl N.FMi.2.2 N.FMi.1.kp N.FMi.2.1 .nil A_ (Aa (pv 1) (Aa Ae (Aa Ae Ab)))) Ae))
   (Ac (Bh (BK DP (Ak GMi hrMi rfl N.FMi.2.2 N.FMi.1.kp N.FMi.2.1 .nil A_ (Aa (pv 1) (Aa Ae (Aa Ae Ab)))) Ae (BX _)) (Af (BP (i:=6) Mu.nd rfl (Or.inl rfl) (BW G5 (BW Cw (BW Dv (pv 1) Ae) Ae) Ae))) BZ)
   (Ac (CZ (DW PySem.F.plainAttrs_list PySem.F.slot_list_append PySem.F.type_list_append Bp (Ba hu (pv 0) Am (fun _ _=>rfl)) (Aa (Cd (Aa (pv 2) (Aa (pv 6) (Aa (pv 4) (Aa (pv 5) Ab))))) Ab)))
   (Af (Aw (Cd (Aa Am (Aa (Bb (BL (K:=K) rfl) (Bb Dc (Ba hu (pv 0) Am (fun _ _=>rfl)) (pv 2) (fun _ _=>rfl)) Ae (fun _ _=>rfl)) (Aa (pv 6) (Aa (pv 4) (Aa (pv 5) Ab))))))))))))))),?_⟩
  have hx:=id I.h
  refine byC fun w_=>?_;obtain ⟨kvs,g1,g2,y1,y2,y3,y4,y5,y6,y7⟩:=hx.dp;refine w_ ?_
  obtain ⟨vk,k1,k2⟩:=hx.k
  obtain ⟨vb,b1,b2⟩:=hx.b
  obtain ⟨vd,d1,d2,d3⟩:=hx.d
  have lk:=k2.length
  have xs:=I.k.sb x (List.mem_of_getElem? hxb)
  have g:=B_.k (k:=Sum.inr "ranks") g1
  rw [y3] at g
  have gb:=B_.k (k:=Sum.inr "boards") g1
  rw [y2] at gb
  have gd:=B_.k (k:=Sum.inr "details") g1
  rw [y5] at gd
  have gl:=B_.k (k:=Sum.inr "lines") g1
  rw [y7] at gl
  have ld:ds0.length=ls0.length:=by
   have:=d2
   rw [e1,e2] at this
   simpa using this
  rw [e1,e2,List.zip_append ld] at d3
  refine byC fun w_=>?_;obtain ⟨vd0,ud,rfl,_,hud⟩:=Fw d3;refine w_ ?_
  refine byC fun w_=>?_;obtain ⟨⟨Td,rfl,hTd⟩,ts,hL,hts⟩:=hud;refine w_ ?_
  have lts:l0.length=ts.length:=hts.length
  refine byC fun w_=>?_;obtain ⟨yb,hyb,Tb,rfl,hTb⟩:=Br b2 hxb;refine w_ ?_
  refine ⟨_,rfl,_,rfl,A.p,_,rfl,g,A.k,_,rfl,.inl (.inl (.inl k1)),c,40709,_,rfl,(by show (0:Int)<((vk.length:Nat):Int); omega),by decide,by decide,fun u u0 u1=>?_⟩
  obtain ⟨j,hj⟩:=Int.eq_ofNat_of_zero_le u0
  subst hj
  obtain ⟨rr,hrr⟩:∃ x,S.rk[j]? = some x:=⟨_,List.getElem?_eq_getElem (by omega)⟩
  refine byC fun w_=>?_;obtain ⟨yr,hyr,Tr,rfl,hTr⟩:=Br k2 hrr;refine w_ ?_
  refine ⟨_,rfl,A.p,_,rfl,gb,_,rfl,A.p,_,rfl,gd,_,rfl,A.d,_,_,_,rfl,rfl,.inl (.inl d1),PN vd0 (V.ref Td),Td,_,_,_,rfl,rfl,.inl (.inl hTd),Aq (j:=0) rfl,A.b,_,_,_,rfl,rfl,.inl (.inl b1),Aq hyb,Tb,_,_,_,rfl,rfl,.inl (.inl hTb),Aq (j:=1) rfl,?_⟩
  refine ⟨_,rfl,_,rfl,c,18149,_,rfl,(by show (0:Int)<((x.2:Nat):Int); omega),by decide,by decide,fun lw lw0 lw1=>?_⟩
  refine ⟨_,rfl,_,rfl,_,rfl,_,rfl,_,_,rfl,rfl,c,13499,_,rfl,(by show (0:Int)<((x.2:Nat):Int) - lw; omega),by decide,by decide,fun hd hd0 hd1=>⟨_,_,rfl,rfl,?_⟩⟩
  show DR 5 (V.int (lw+hd)) _ _ _
  generalize ehi:lw+hd=hi
  refine ⟨_,rfl,c,57089,25,rfl,by decide,by decide,by decide,fun sh sh0 sh1=>⟨_,_,rfl,rfl,?_⟩⟩
  show DR 6 (V.int (sh - 12)) _ _ _
  obtain ⟨sv,es⟩:∃ sv,sh - 12=sv:=⟨_,rfl⟩
  rw [es]
  refine ⟨_,rfl,c,17681,4,rfl,by decide,by decide,by decide,fun z z0 z1=>⟨rfl,_,rfl,CV (fun _=>?_) (fun _=>?_)⟩⟩
  ·refine ⟨_,rfl,_,_,rfl,rfl,⟨by decide,by decide⟩,_,_,rfl,rfl,(by show (0:Int)<401; decide),_,_,rfl,rfl,?_⟩
   show DR 6 (V.int (c / 5 % 401 - 200)) _ _ _
   obtain ⟨sw,ew⟩:∃ sw,c / 5 % 401 - 200=sw:=⟨_,rfl⟩
   rw [ew]
   refine ⟨_,rfl,A.p,_,rfl,gl,.inl ⟨rfl,_,.inl (.inl hL)⟩,_,rfl,_,rfl,_,rfl,_,rfl,by show 4<=sizeLine; decide,fun T5 hT5=>?_⟩
   have s5:=Ax (o:=HO.tup [V.int (j:Nat),.int sw,.int lw,.int hi]) hT5
   have t5:TupAt (upd H T5 (HO.tup [V.int (j:Nat),.int sw,.int lw,.int hi])) (YL ⟨j,sw,lw,hi⟩) (.ref T5):=⟨T5,rfl,Ah⟩
   generalize upd H T5 (HO.tup [V.int (j:Nat),.int sw,.int lw,.int hi])=H5 at s5 t5 ⊢
   have h5:=(I.h.mono s5).Xm e1 e2 (s5 _ _ hL) t5
   refine ⟨L,ts,_,rfl,rfl,s5 _ _ hL,Ar (by omega),?_⟩
   generalize upd H5 L _=H6 at h5 ⊢
   refine byC fun w_=>?_;obtain ⟨kvs6,g16,_,_,_,u3,_⟩:=h5.dp;refine w_ ?_
   obtain ⟨vk6,k16,k26⟩:=h5.k
   have gk:=B_.k (k:=Sum.inr "ranks") g16
   rw [u3] at gk
   refine byC fun w_=>?_;obtain ⟨yr6,hyr6,Tr6,rfl,hTr6⟩:=Br k26 hrr;refine w_ ?_
   refine ⟨_,rfl,A.p,_,rfl,gk,_,rfl,A.k,_,_,_,rfl,rfl,.inl (.inl k16),Aq hyr6,Tr6,_,_,_,rfl,rfl,.inl (.inl hTr6),Aq (j:=0) rfl,_,rfl,_,rfl,_,rfl,by show 5<=sizeLine; decide,fun T6 hT6=>?_⟩
   exact q ⟨"line",rr.1,[.int sw,.int lw,.int hi]⟩ _ _ _ _ _ (h5.mono (Ax hT6)) rfl ⟨T6,rfl,Ah⟩ (I.k.line I.F.f I.b e1 e2 hxb hT h4 hrr (by omega) (by omega) (by omega) (by omega) lw0) (Nat.lt_of_le_of_lt (Nat.zero_le _) (List.getElem?_eq_some_iff.mp hxb).1)
  ·refine ⟨_,rfl,A.p,_,rfl,gl,.inl ⟨rfl,_,.inl (.inl hL)⟩,_,rfl,_,rfl,_,rfl,_,rfl,by show 4<=sizeLine; decide,fun T5 hT5=>?_⟩
   have s5:=Ax (o:=HO.tup [V.int (j:Nat),.int sv,.int lw,.int hi]) hT5
   have t5:TupAt (upd H T5 (HO.tup [V.int (j:Nat),.int sv,.int lw,.int hi])) (YL ⟨j,sv,lw,hi⟩) (.ref T5):=⟨T5,rfl,Ah⟩
   generalize upd H T5 (HO.tup [V.int (j:Nat),.int sv,.int lw,.int hi])=H5 at s5 t5 ⊢
   have h5:=(I.h.mono s5).Xm e1 e2 (s5 _ _ hL) t5
   refine ⟨L,ts,_,rfl,rfl,s5 _ _ hL,Ar (by omega),?_⟩
   generalize upd H5 L _=H6 at h5 ⊢
   refine byC fun w_=>?_;obtain ⟨kvs6,g16,_,_,_,u3,_⟩:=h5.dp;refine w_ ?_
   obtain ⟨vk6,k16,k26⟩:=h5.k
   have gk:=B_.k (k:=Sum.inr "ranks") g16
   rw [u3] at gk
   refine byC fun w_=>?_;obtain ⟨yr6,hyr6,Tr6,rfl,hTr6⟩:=Br k26 hrr;refine w_ ?_
   refine ⟨_,rfl,A.p,_,rfl,gk,_,rfl,A.k,_,_,_,rfl,rfl,.inl (.inl k16),Aq hyr6,Tr6,_,_,_,rfl,rfl,.inl (.inl hTr6),Aq (j:=0) rfl,_,rfl,_,rfl,_,rfl,by show 5<=sizeLine; decide,fun T6 hT6=>?_⟩
   exact q ⟨"line",rr.1,[.int sv,.int lw,.int hi]⟩ _ _ _ _ _ (h5.mono (Ax hT6)) rfl ⟨T6,rfl,Ah⟩ (I.k.line I.F.f I.b e1 e2 hxb hT h4 hrr (by omega) (by omega) (by omega) (by omega) lw0) (Nat.lt_of_le_of_lt (Nat.zero_le _) (List.getElem?_eq_some_iff.mp hxb).1)
noncomputable def Zn (K:PySem.W.Frag) (aB aP aM:Addr):Sp:=fun vs H Q _=>∃ (H0:Hp) (A:Ji) (S:Pl) (Cs:List Addr) (lo:V) (bb:Str) (c:Int),vs=[.ref A.p,.str (De bb S.rows.length),.int c]/\Lz K aB aP aM H0 H A S Cs lo bb/\1<=S.bs.length/\(S.ks.filter fun r=>decide (V.str r.w=V.str "coupler")).length<12/\Jc K aB aP aM bb H0 A S Q
theorem RM:Az ["_law_plan_here","_law_name_here","_law_cell","_law_one","_law_other","_law_shift"] ["_law_plan_here","_law_name_here","_law_cell"] (Ag dZ):=Bv
include N T in
theorem XM:BJ P w K mg base Bk 2 aD.fLc aD.dLc ["_law_plan_here","_law_name_here","_law_cell"] (Zn K aB aP aM):=by
 have GMi:BJ P w K mg base Bk 1 aD.fMi aD.dMi ["_law_cell","_law_by","_law_many_here"] Mf:=JD N T
 refine N.FLc.1.ok RM (fun vs H Q E h=>?_) (fun cdv A outer s H vs Q E hr h=>?_)
 ·refine byC fun w_=>?_;obtain ⟨H0,A,S,Cs,lo,bb,c,rfl,_⟩:=h;refine w_ ?_
  rfl
 ·refine byC fun w_=>?_;obtain ⟨H0,A,S,Cs,lo,bb,c,rfl,I,hb1,h12,q⟩:=h;refine w_ ?_
  have hrMi:Bc 1 _:=hr.mono (by decide)
  have hu:=Fd hr
  refine ⟨_,(Ac (BP (i:=3) RM.nd rfl (Or.inl rfl) (Ak GMi hrMi rfl N.FMi.2.2 N.FMi.1.kp N.FMi.2.1 .nil A_ (Aa (pv 2) (Aa Ae (Aa (Av BR rfl T.len PySem.boot_len (Aa (Ba hu (pv 0) Am (fun _ _=>rfl)) Ab)) Ab)))))
   (Ac (BP (i:=4) RM.nd rfl (Or.inl rfl) (Ak GMi hrMi rfl N.FMi.2.2 N.FMi.1.kp N.FMi.2.1 .nil A_ (Aa (pv 2) (Aa Ae (Aa (Av BR rfl T.len PySem.boot_len (Aa (Ba hu (pv 0) Am (fun _ _=>rfl)) Ab)) Ab)))))
   (Ac (BP (i:=5) RM.nd rfl (Or.inl rfl) (BW G5 (Ak GMi hrMi rfl N.FMi.2.2 N.FMi.1.kp N.FMi.2.1 .nil A_ (Aa (pv 2) (Aa Ae (Aa Ae Ab)))) Ae))
   (Ac (Bh (BK DP (Ak GMi hrMi rfl N.FMi.2.2 N.FMi.1.kp N.FMi.2.1 .nil A_ (Aa (pv 2) (Aa Ae (Aa Ae Ab)))) Ae (BX _)) (Af (BP (i:=5) RM.nd rfl (Or.inl rfl) (BW G5 (BW Cw (BW Dv (pv 2) Ae) Ae) Ae))) BZ)
   (Ac (CZ (DW PySem.F.plainAttrs_list PySem.F.slot_list_append PySem.F.type_list_append Bp (Ba hu (pv 0) Am (fun _ _=>rfl)) (Aa (Cd (Aa Am (Aa (pv 1) Ab))) Ab)))
   (Ac (CZ (DW PySem.F.plainAttrs_list PySem.F.slot_list_append PySem.F.type_list_append Bp (Ba hu (pv 0) Am (fun _ _=>rfl)) (Aa (Cd (Aa (pv 3) (Aa (pv 4) (Aa (pv 5) Ab)))) Ab)))
   (Af (Aw (Cd (Aa Am (Aa (pv 1) (Aa (Bb (BL (K:=K) rfl) (Bb Dc (Ba hu (pv 0) Am (fun _ _=>rfl)) (pv 3) (fun _ _=>rfl)) Ae (fun _ _=>rfl)) (Aa (Bb (BL (K:=K) rfl) (Bb Dc (Ba hu (pv 0) Am (fun _ _=>rfl)) (pv 4) (fun _ _=>rfl)) Ae (fun _ _=>rfl)) (Aa (pv 5) Ab)))))))))))))),?_⟩
  have hx:=id I.h
  refine byC fun w_=>?_;obtain ⟨kvs,g1,g2,y1,y2,y3,y4,y5,y6,y7⟩:=hx.dp;refine w_ ?_
  obtain ⟨vb,b1,b2⟩:=hx.b
  obtain ⟨vn,n1,n2⟩:=hx.n
  have lb:=b2.length
  have ln:=n2.length
  have lk:=I.k.lk
  have lr:=I.l
  have gb:=B_.k (k:=Sum.inr "boards") g1
  rw [y2] at gb
  have g:=B_.k (k:=Sum.inr "knobs") g1
  rw [y4] at g
  refine ⟨_,rfl,_,rfl,A.p,_,rfl,gb,A.b,_,rfl,.inl (.inl (.inl b1)),c,52501,_,rfl,(by show (0:Int)<((vb.length:Nat):Int); omega),by decide,by decide,fun u u0 u1=>?_⟩
  obtain ⟨b,hb⟩:=Int.eq_ofNat_of_zero_le u0
  subst hb
  obtain ⟨x1,hxb⟩:∃ x,S.bs[b]? = some x:=⟨_,List.getElem?_eq_getElem (by omega)⟩
  have nx1:=I.k.dw I.b hxb
  refine ⟨_,rfl,_,rfl,A.p,_,rfl,gb,A.b,_,rfl,.inl (.inl (.inl b1)),c,65003,_,rfl,(by show (0:Int)<((vb.length:Nat):Int); omega),by decide,by decide,fun u' u0' u1'=>?_⟩
  obtain ⟨b',hb'⟩:=Int.eq_ofNat_of_zero_le u0'
  subst hb'
  obtain ⟨x2,hxb'⟩:∃ x,S.bs[b']? = some x:=⟨_,List.getElem?_eq_getElem (by omega)⟩
  have nx2:=I.k.dw I.b hxb'
  refine ⟨_,rfl,c,31547,13,rfl,by decide,by decide,by decide,fun sh sh0 sh1=>⟨_,_,rfl,rfl,?_⟩⟩
  show DR 5 (V.int (sh - 6)) _ _ _
  obtain ⟨sv,es⟩:∃ sv,sh - 6=sv:=⟨_,rfl⟩
  rw [es]
  refine ⟨_,rfl,c,44623,4,rfl,by decide,by decide,by decide,fun z z0 z1=>⟨rfl,_,rfl,CV (fun _=>?_) (fun _=>?_)⟩⟩
  ·refine ⟨_,rfl,_,_,rfl,rfl,⟨by decide,by decide⟩,_,_,rfl,rfl,(by show (0:Int)<121; decide),_,_,rfl,rfl,?_⟩
   show DR 5 (V.int (c / 7 % 121 - 60)) _ _ _
   obtain ⟨sw,ew⟩:∃ sw,c / 7 % 121 - 60=sw:=⟨_,rfl⟩
   rw [ew]
   refine ⟨_,rfl,A.p,_,rfl,g,.inl ⟨rfl,_,.inl (.inl n1)⟩,_,rfl,by show 2<=sizeLine; decide,fun T3 hT3=>?_⟩
   have s3:=Ax (o:=HO.tup [V.str "coupler",.str (De bb S.rows.length)]) hT3
   have t3:TupAt (upd H T3 (HO.tup [V.str "coupler",.str (De bb S.rows.length)])) (U8 ⟨"coupler",De bb S.rows.length,[.str x1.1,.str x2.1,.int sw]⟩) (.ref T3):=⟨T3,rfl,Ah⟩
   generalize upd H T3 (HO.tup [V.str "coupler",.str (De bb S.rows.length)])=H3 at s3 t3 ⊢
   have h3:=(hx.mono s3).Uq (s3 _ _ n1) t3
   refine ⟨A.n,vn,_,rfl,rfl,s3 _ _ n1,Ar (by omega),?_⟩
   generalize upd H3 A.n _=H4 at h3 ⊢
   refine byC fun w_=>?_;obtain ⟨kvs4,g14,_,_,w2,_,_,w5,_,w7⟩:=h3.dp;refine w_ ?_
   obtain ⟨vd,d1,d2,d3⟩:=h3.d
   have gd:=B_.k (k:=Sum.inr "details") g14
   rw [w5] at gd
   refine ⟨_,rfl,A.p,_,rfl,gd,.inl ⟨rfl,_,.inl (.inl d1)⟩,_,rfl,_,rfl,_,rfl,by show 3<=sizeLine; decide,fun T5 hT5=>?_⟩
   have s5:=Ax (o:=HO.tup [V.int (b:Nat),.int (b':Nat),.int sw]) hT5
   have t5:Gr (upd H4 T5 (HO.tup [V.int (b:Nat),.int (b':Nat),.int sw])) (.coup b b' sw,[]) (.ref T5):=⟨T5,rfl,Ah⟩
   generalize upd H4 T5 (HO.tup [V.int (b:Nat),.int (b':Nat),.int sw])=H5 at s5 t5 ⊢
   have h5:=(h3.mono s5).U3 (s5 _ _ d1) t5 (fun L' hL'=>nomatch hL')
   have ld3:vd.length<=100:=by
    have ld:=d3.length
    rw [List.length_zip] at ld
    have:S.ds.length=S.ks.length:=I.k.pd.length.symm
    have:vd.length<=S.ds.length:=by
     rw [← ld]
     exact Nat.min_le_left _ _
    omega
   refine ⟨A.d,vd,_,rfl,rfl,s5 _ _ d1,Ar (by omega),?_⟩
   generalize upd H5 A.d _=H6 at h5 ⊢
   refine byC fun w_=>?_;obtain ⟨kvs6,g16,_,_,u2,_⟩:=h5.dp;refine w_ ?_
   obtain ⟨vb6,b16,b26⟩:=h5.b
   have gb:=B_.k (k:=Sum.inr "boards") g16
   rw [u2] at gb
   refine byC fun w_=>?_;obtain ⟨yb,hyb,Tb,rfl,hTb⟩:=Br b26 hxb;refine w_ ?_
   refine byC fun w_=>?_;obtain ⟨yb',hyb',Tb',rfl,hTb'⟩:=Br b26 hxb';refine w_ ?_
   refine ⟨_,rfl,_,rfl,A.p,_,rfl,gb,_,rfl,A.b,_,_,_,rfl,rfl,.inl (.inl b16),Aq hyb,Tb,_,_,_,rfl,rfl,.inl (.inl hTb),Aq (j:=0) rfl,_,rfl,A.p,_,rfl,gb,_,rfl,A.b,_,_,_,rfl,rfl,.inl (.inl b16),Aq hyb',Tb',_,_,_,rfl,rfl,.inl (.inl hTb'),Aq (j:=0) rfl,_,rfl,by show 5<=sizeLine; decide,fun T6 hT6=>?_⟩
   exact q ⟨"coupler",De bb S.rows.length,[.str x1.1,.str x2.1,.int sw]⟩ _ _ _ _ _ (h5.mono (Ax hT6)) rfl ⟨T6,rfl,Ah⟩ (I.k.Ub (by omega) rfl ⟨rfl,x1,x2,hxb,hxb',rfl⟩ (I.k.bl.O7 I.F.f (Ew I.b _) (I.k.fb (by omega)) (I.k.fr (by omega)) (I.k.fk (by omega)) h12 (n:=x1.2) (m:=x2.2) nx1 (List.mem_of_getElem? hxb) nx2 (List.mem_of_getElem? hxb') (by omega) (by omega)) (.inl rfl)) hb1
  ·refine ⟨_,rfl,A.p,_,rfl,g,.inl ⟨rfl,_,.inl (.inl n1)⟩,_,rfl,by show 2<=sizeLine; decide,fun T3 hT3=>?_⟩
   have s3:=Ax (o:=HO.tup [V.str "coupler",.str (De bb S.rows.length)]) hT3
   have t3:TupAt (upd H T3 (HO.tup [V.str "coupler",.str (De bb S.rows.length)])) (U8 ⟨"coupler",De bb S.rows.length,[.str x1.1,.str x2.1,.int sv]⟩) (.ref T3):=⟨T3,rfl,Ah⟩
   generalize upd H T3 (HO.tup [V.str "coupler",.str (De bb S.rows.length)])=H3 at s3 t3 ⊢
   have h3:=(hx.mono s3).Uq (s3 _ _ n1) t3
   refine ⟨A.n,vn,_,rfl,rfl,s3 _ _ n1,Ar (by omega),?_⟩
   generalize upd H3 A.n _=H4 at h3 ⊢
   refine byC fun w_=>?_;obtain ⟨kvs4,g14,_,_,w2,_,_,w5,_,w7⟩:=h3.dp;refine w_ ?_
   obtain ⟨vd,d1,d2,d3⟩:=h3.d
   have gd:=B_.k (k:=Sum.inr "details") g14
   rw [w5] at gd
   refine ⟨_,rfl,A.p,_,rfl,gd,.inl ⟨rfl,_,.inl (.inl d1)⟩,_,rfl,_,rfl,_,rfl,by show 3<=sizeLine; decide,fun T5 hT5=>?_⟩
   have s5:=Ax (o:=HO.tup [V.int (b:Nat),.int (b':Nat),.int sv]) hT5
   have t5:Gr (upd H4 T5 (HO.tup [V.int (b:Nat),.int (b':Nat),.int sv])) (.coup b b' sv,[]) (.ref T5):=⟨T5,rfl,Ah⟩
   generalize upd H4 T5 (HO.tup [V.int (b:Nat),.int (b':Nat),.int sv])=H5 at s5 t5 ⊢
   have h5:=(h3.mono s5).U3 (s5 _ _ d1) t5 (fun L' hL'=>nomatch hL')
   have ld3:vd.length<=100:=by
    have ld:=d3.length
    rw [List.length_zip] at ld
    have:S.ds.length=S.ks.length:=I.k.pd.length.symm
    have:vd.length<=S.ds.length:=by
     rw [← ld]
     exact Nat.min_le_left _ _
    omega
   refine ⟨A.d,vd,_,rfl,rfl,s5 _ _ d1,Ar (by omega),?_⟩
   generalize upd H5 A.d _=H6 at h5 ⊢
   refine byC fun w_=>?_;obtain ⟨kvs6,g16,_,_,u2,_⟩:=h5.dp;refine w_ ?_
   obtain ⟨vb6,b16,b26⟩:=h5.b
   have gb:=B_.k (k:=Sum.inr "boards") g16
   rw [u2] at gb
   refine byC fun w_=>?_;obtain ⟨yb,hyb,Tb,rfl,hTb⟩:=Br b26 hxb;refine w_ ?_
   refine byC fun w_=>?_;obtain ⟨yb',hyb',Tb',rfl,hTb'⟩:=Br b26 hxb';refine w_ ?_
   refine ⟨_,rfl,_,rfl,A.p,_,rfl,gb,_,rfl,A.b,_,_,_,rfl,rfl,.inl (.inl b16),Aq hyb,Tb,_,_,_,rfl,rfl,.inl (.inl hTb),Aq (j:=0) rfl,_,rfl,A.p,_,rfl,gb,_,rfl,A.b,_,_,_,rfl,rfl,.inl (.inl b16),Aq hyb',Tb',_,_,_,rfl,rfl,.inl (.inl hTb'),Aq (j:=0) rfl,_,rfl,by show 5<=sizeLine; decide,fun T6 hT6=>?_⟩
   exact q ⟨"coupler",De bb S.rows.length,[.str x1.1,.str x2.1,.int sv]⟩ _ _ _ _ _ (h5.mono (Ax hT6)) rfl ⟨T6,rfl,Ah⟩ (I.k.Ub (by omega) rfl ⟨rfl,x1,x2,hxb,hxb',rfl⟩ (I.k.bl.O7 I.F.f (Ew I.b _) (I.k.fb (by omega)) (I.k.fr (by omega)) (I.k.fk (by omega)) h12 (n:=x1.2) (m:=x2.2) nx1 (List.mem_of_getElem? hxb) nx2 (List.mem_of_getElem? hxb') (by omega) (by omega)) (.inl rfl)) hb1
noncomputable def Zm (K:PySem.W.Frag) (aB aP aM:Addr):Sp:=fun vs H Q _=>∃ (H0:Hp) (A:Ji) (S:Pl) (Cs:List Addr) (lo:V) (bb:Str) (c:Int),vs=[.ref A.p,.int c]/\Lz K aB aP aM H0 H A S Cs lo bb/\0<(S.ks.filter fun r=>decide (V.str r.w=V.str "stop")).length/\S.ch.length<12/\1<=S.bs.length/\Jc K aB aP aM bb H0 A S Q
theorem Q3:Az ["_law_plan_here","_law_cell","_law_stops","_law_chosen","_law_k","_law_one"] ["_law_plan_here","_law_cell"] (Ag Zk):=Bv
include N T in
theorem Yu:BJ P w K mg base Bk 2 aD.fLt aD.dLt ["_law_plan_here","_law_cell"] (Zm K aB aP aM):=by
 have GMi:BJ P w K mg base Bk 1 aD.fMi aD.dMi ["_law_cell","_law_by","_law_many_here"] Mf:=JD N T
 refine N.FLt.1.ok Q3 (fun vs H Q E h=>?_) (fun cdv A outer s H vs Q E hr h=>?_)
 ·refine byC fun w_=>?_;obtain ⟨H0,A,S,Cs,lo,bb,c,rfl,_⟩:=h;refine w_ ?_
  rfl
 ·refine byC fun w_=>?_;obtain ⟨H0,A,S,Cs,lo,bb,c,rfl,I,hs0,h12,hb1,q⟩:=h;refine w_ ?_
  have hrMi:Bc 1 _:=hr.mono (by decide)
  have hu:=Fd hr
  refine ⟨_,(Ac (Uz (i:=2) Q3.nd rfl rfl rfl (Bd (osc:=Ag Zk) (N:=["_law_plan_here","_law_cell","_law_stops","_law_chosen","_law_k","_law_one"]) rfl rfl (by decide +kernel)) (FT rfl T.range (Aa (Av BR rfl T.len PySem.boot_len (Aa (Ba hu (pv 0) Am (fun _ _=>rfl)) Ab)) Ab)) (fun _ _ _ _=>(Kr (BK DP (Bb (BL (K:=K) rfl) (Bb (Gb (K:=K) rfl) (Ba hu (pv 1) Am (fun _ _=>rfl)) (pv 0) (fun _ _=>rfl)) Ae (fun _ _=>rfl)) Am (BX _)))) (fun _ _ _ _=>(pv 0)))
   (Ac (BP (i:=3) Q3.nd rfl (Or.inl rfl) (Cm Ab))
   (Ac (Dg PassesOwn.never rfl (FT rfl T.range (Aa (BW Dh Ae (Ak GMi hrMi rfl N.FMi.2.2 N.FMi.1.kp N.FMi.2.1 .nil A_ (Aa (pv 1) (Aa Ae (Aa Ae Ab))))) Ab)) (Bx (i:=4) Q3.nd rfl (Or.inl rfl)) (Ac (BP (i:=5) Q3.nd rfl (Or.inl rfl) (Bb Dc (pv 2) (Ak GMi hrMi rfl N.FMi.2.2 N.FMi.1.kp N.FMi.2.1 .nil A_ (Aa (BW Dh (BW Dv (pv 1) Ae) (BW Gg (pv 4) (pv 4))) (Aa Ae (Aa (Av BR rfl T.len PySem.boot_len (Aa (pv 2) Ab)) Ab)))) (fun _ _=>rfl)))
   (Af (Bh (BK Hg (pv 5) (pv 3) rfl) (Af (CZ (DW PySem.F.plainAttrs_list PySem.F.slot_list_append PySem.F.type_list_append Bp (pv 3) (Aa (pv 5) Ab)))) BZ))))
   (Ac (CZ (DW PySem.F.plainAttrs_list PySem.F.slot_list_append PySem.F.type_list_append Bp (Ba hu (pv 0) Am (fun _ _=>rfl)) (Aa (pv 3) Ab)))
   (Af (Aw (Ce G3 rfl T.tuple PyProof.Rows.boot_tuple (Aa (BW R_ (Cm (Aa Am Ab)) (Bm rfl (Bd (osc:=Ag Zk) (N:=["_law_plan_here","_law_cell","_law_stops","_law_chosen","_law_k","_law_one"]) rfl rfl (by decide +kernel)) (Bq (pv 3)) (fun _ _ _ _=>CK) (fun _ _ _ _=>(Bb (BL (K:=K) rfl) (Bb (Gb (K:=K) rfl) (Ba hu (pv 1) Am (fun _ _=>rfl)) (pv 0) (fun _ _=>rfl)) Ae (fun _ _=>rfl))))) Ab)))))))),?_⟩
  have hx:=id I.h
  refine byC fun w_=>?_;obtain ⟨kvs,g1,g2,y1,y2,y3,y4,y5,y6,y7⟩:=hx.dp;refine w_ ?_
  obtain ⟨vn,n1,n2⟩:=hx.n
  have ln:S.ks.length=vn.length:=n2.length
  have lk:=I.k.lk
  have lr:=I.l
  have g:=B_.k (k:=Sum.inr "knobs") g1
  rw [y4] at g
  have sp:=S5 hs0
  refine ⟨_,rfl,A.p,_,rfl,g,A.n,_,rfl,.inl (.inl (.inl n1)),_,rfl,by omega,by omega,?_⟩
  refine My (lo:=0) (n:=vn.length) (fun i=>TY S.ks i.toNat) (fun i=>.int i) (Ar (by omega)) (fun i hi H' hs R k=>?_) (fun i hi _ H' hs R k=>⟨_,rfl,k H' (Ao.refl H')⟩) (fun D1 H1 hD1 s1 hl1=>?_)
  ·have g':=B_.k (k:=Sum.inr "knobs") (hs _ _ g1)
   rw [y4] at g'
   obtain ⟨kr,hkr⟩:∃ x,S.ks[i]? = some x:=⟨_,List.getElem?_eq_getElem (by omega)⟩
   refine byC fun w_=>?_;obtain ⟨yn,hyn,Tn,rfl,hTn⟩:=Br n2 hkr;refine w_ ?_
   refine ⟨_,rfl,A.p,_,rfl,g',_,rfl,A.n,_,_,_,rfl,rfl,.inl (.inl (hs _ _ n1)),(by rw [Int.zero_add]; exact Aq hyn),Tn,_,_,_,rfl,rfl,.inl (.inl (hs _ _ hTn)),Aq (j:=0) rfl,rfl,_,rfl,?_⟩
   have:=k H' (Ao.refl H')
   unfold TY at this
   rw [Int.zero_add,Int.toNat_natCast,hkr] at this
   exact this
  have e1:((((List.range vn.length).map fun (i:Nat)=>(0:Int)+(i:Int)).filter fun i=>TY S.ks i.toNat).map fun i=>V.int i)=Np (Ij S.ks):=by
   unfold Ij Np
   rw [← ln,List.filter_map,List.map_map]
   have:(fun i:Int=>TY S.ks i.toNat) ∘ (fun i:Nat=>(0:Int)+(i:Int))=TY S.ks:=by
    funext i
    show TY S.ks ((0:Int)+(i:Int)).toNat=_
    rw [Int.zero_add,Int.toNat_natCast]
   rw [this]
   refine List.map_congr_left fun i _=>?_
   show V.int (0+(i:Int))=_
   rw [Int.zero_add]
  rw [e1] at hl1
  have lst:(Ij S.ks).length<=S.ks.length:=by
   unfold Ij
   exact Nat.le_trans (List.length_filter_le _ _) (by rw [List.length_range]; exact Nat.le_refl _)
  refine ⟨Bu (by simp),fun D2 hD2=>?_⟩
  have old:=(I.h.mono s1).old hD2
  have s2:=Ax (o:=HO.lst []) hD2
  have l2:upd H1 D2 (HO.lst []) D2=some (.lst (Np [])):=Ah
  generalize upd H1 D2 (HO.lst [])=H2 at s2 l2 ⊢
  refine ⟨_,rfl,c,69623,3,rfl,by decide,by decide,by decide,fun m m0 m1=>⟨_,_,rfl,rfl,_,rfl,by omega,by omega,?_⟩⟩
  obtain ⟨mn,emn⟩:=Int.eq_ofNat_of_zero_le (by omega:0<=1+m)
  refine IK (lo:=0) (n:=(1+m).toNat) (fun i σ H4=>Ao H1 H4/\∃ (ch:List Nat) (v4 v5:Option V),H4 D2=some (.lst (Np ch))/\ch.Nodup/\(∀ x∈ch,x∈Ij S.ks)/\ch.length<=i/\(0<i->ch ≠ [])/\σ=[some (.ref A.p),some (.int c),some (.ref D1),some (.ref D2),v4,v5]) ⟨s2,[],_,_,l2,List.nodup_nil,(fun _ z=>nomatch z),Nat.le_refl _,(fun z=>absurd z (by omega)),rfl⟩ ?_ ?_
  ·rintro i σ H4 hi ⟨s4,ch,v4,v5,hd,nd,hin,hlc,hne,rfl⟩
   have hi4:i<4:=by omega
   have hl4:=s4 _ _ hl1
   have esz:((Np (Ij S.ks)).length:Nat)=(Ij S.ks).length:=List.length_map ..
   refine ⟨_,rfl,_,rfl,_,_,rfl,rfl,⟨by decide,by decide⟩,_,rfl,_,rfl,_,_,rfl,rfl,.inl ⟨by omega,by omega⟩,_,_,rfl,rfl,_,rfl,D1,_,rfl,.inl (.inl (.inl hl4)),_,48281,_,rfl,(by show (0:Int)<(((Np (Ij S.ks)).length:Nat):Int); omega),by decide,by decide,fun z z0 z1=>?_⟩
   obtain ⟨j,hj⟩:=Int.eq_ofNat_of_zero_le z0
   subst hj
   obtain ⟨on,hon⟩:∃ x,(Ij S.ks)[j]? = some x:=⟨_,List.getElem?_eq_getElem (by omega)⟩
   have hon':(Np (Ij S.ks))[j]? = some (V.int (on:Nat)):=by rw [List.getElem?_map,hon]; rfl
   refine ⟨D1,_,_,_,rfl,rfl,.inl (.inl hl4),Aq hon',?_⟩
   refine ⟨_,rfl,_,rfl,D2,_,rfl,.inl (.inl (.inl hd)),rfl,Sq _,_,rfl,?_⟩
   rw [UT]
   by_cases hm:on∈ch
   ·rw [decide_eq_true hm]
    exact Cy ⟨s4,ch,_,_,hd,nd,hin,by omega,fun _ z=>(by rw [z] at hm; exact nomatch hm),rfl⟩
   ·rw [decide_eq_false hm]
    refine Eo ⟨_,rfl,.inl ⟨rfl,_,.inl (.inl hd)⟩,_,rfl,D2,_,_,rfl,rfl,hd,Ar (by rw [List.length_map]; omega),?_⟩
    refine ⟨DQ s4 hD2,ch++[on],_,_,?_,?_,fun x hx=>?_,by simp; omega,fun _=>by simp,rfl⟩
    ·rw [Ah]
     unfold Np
     rw [List.map_append]
     rfl
    ·exact List.nodup_append.mpr ⟨nd,by simp,fun x hx y hy z=>hm (by rw [← List.mem_singleton.mp hy,← z]; exact hx)⟩
    ·rcases List.mem_append.mp hx with z | z
     ·exact hin x z
     ·rw [List.mem_singleton.mp z]
      exact List.mem_of_getElem? hon
  ·rintro σ H4 ⟨s4,ch,v4,v5,hd,nd,hin,hlc,hne,rfl⟩
   have h4:=I.h.mono (s1.trans s4)
   refine byC fun w_=>?_;obtain ⟨kvs4,g14,_,_,_,_,_,_,u6,_⟩:=h4.dp;refine w_ ?_
   have gs:=B_.k (k:=Sum.inr "steps") g14
   rw [u6] at gs
   have lcs:Cs.length=S.ch.length:=h4.c.length
   obtain ⟨i0,cc,rfl⟩:∃ i0 cc,ch=i0::cc:=by
    cases ch with
    | nil=>exact absurd rfl (hne (by omega))
    | cons a b=>exact ⟨a,b,rfl⟩
   have h5:=h4.Eh (C:=D2) (l:=i0::cc) hd old.2
   have hd5:upd H4 A.s (HO.lst (Cs.map V.ref++[.ref D2])) D2=some (.lst (Np (i0::cc))):=by
    rw [An fun z=>old.2 (by rw [z]; simp)]
    exact hd
   refine ⟨_,rfl,A.p,_,rfl,gs,.inl ⟨rfl,_,.inl (.inl h4.s)⟩,_,rfl,A.s,_,_,rfl,rfl,h4.s,Ar (by rw [List.length_map]; omega),?_⟩
   generalize upd H4 A.s (HO.lst (Cs.map V.ref++[.ref D2]))=H5 at h5 hd5 ⊢
   refine ⟨by show 1<=sizeLine; decide,fun p6 hp6=>?_⟩
   obtain ⟨H6,eqH,s6,l6⟩:=FJ (o:=HO.lst [V.str "step"]) hp6
   rw [eqH]
   have h6:=h5.mono s6
   have hS6:Cp K H6 D2 (Np (i0::cc)):=.inl (.inl (s6 _ _ hd5))
   refine byC fun w_=>?_;obtain ⟨kvs6,g16,_,_,_,_,u4,_⟩:=h6.dp;refine w_ ?_
   obtain ⟨vn6,n16,n26⟩:=h6.n
   refine ⟨_,rfl,D2,rfl,⟨_,hS6⟩,DG (K:=K) (xs:=Np (i0::cc)) (fun _=>true) (fD S.ks) hS6 (Ar (by rw [List.length_map]; omega)) (fun y hy H' hs R k=>k H' (Ao.refl H')) (fun y hy _ H' hs R k=>?_) (fun D7 H7 hD7 s7 hl7=>?_)⟩
   ·obtain ⟨i,hi,rfl⟩:=List.mem_map.mp hy
    obtain ⟨kr,hkr,_⟩:=Lx (hin i hi)
    refine byC fun w_=>?_;obtain ⟨yn,hyn,Tn,rfl,hTn⟩:=Br n26 hkr;refine w_ ?_
    have g':=B_.k (k:=Sum.inr "knobs") (hs _ _ g16)
    rw [u4] at g'
    refine ⟨_,rfl,A.p,_,rfl,g',_,rfl,A.n,_,_,_,rfl,rfl,.inl (.inl (hs _ _ n16)),Aq hyn,Tn,_,_,_,rfl,rfl,.inl (.inl (hs _ _ hTn)),Aq (j:=1) rfl,?_⟩
    have:=k H' (Ao.refl H')
    unfold fD at this
    dsimp only at this
    rw [Int.toNat_natCast,Ng hkr] at this
    exact this
   rw [List.filter_eq_self.mpr (fun _ _=>rfl)] at hl7
   have e7:(Np (i0::cc)).map (fD S.ks)=V.str (Ie S.ks i0)::(cc.map (Ie S.ks)).map V.str:=by
    unfold Np
    rw [List.map_map,List.map_cons,List.map_map]
    rfl
   rw [e7] at hl7
   refine ⟨p6,D7,_,_,rfl,rfl,s7 _ _ l6,hl7,by (show 1+((cc.map (Ie S.ks)).map V.str).length+1<=sizeLine); rw [List.length_map,List.length_map]; simp only [List.length_cons] at hlc; exact Bu (by omega),fun p8 hp8=>?_⟩
   have s8:=Ax (o:=HO.lst ([V.str "step"]++(V.str (Ie S.ks i0)::(cc.map (Ie S.ks)).map V.str))) hp8
   refine ⟨p8,_,rfl,.inl ⟨.inl (.inl Ah),fun T9 hT9=>?_⟩⟩
   have s9:=Ax (o:=HO.tup ([V.str "step"]++(V.str (Ie S.ks i0)::(cc.map (Ie S.ks)).map V.str))) hT9
   exact q ⟨"step",Ie S.ks i0,(cc.map (Ie S.ks)).map V.str⟩ _ _ _ _ _ (h6.mono (s7.trans (s8.trans s9))) rfl ⟨T9,rfl,Ah⟩ (I.k.step I.F.mT I.b nd (by omega) (fun i hi=>Lx (hin i hi)) h12) hb1
theorem U6 {c:TT} {t u:TS} {D:Ends} {σ:St} {H:Hp} (C:Bool->Hp->Prop) (hc:∀ Q:Bool->Hp->Prop,(∀ H1,C true H1->Q true H1)->(∀ H1,C false H1->Q false H1)->c σ H Q) (ht:∀ H1,C true H1->t { D with nx:=u D } σ H1) (hu:∀ H1,C false H1->u D σ H1):Vw (TF c t Vl) u D σ H :=
 hc _ (fun H1 h=>by rw [if_pos rfl]; exact ht H1 h) (fun H1 h=>by rw [if_neg Bool.false_ne_true]; exact hu H1 h)
noncomputable def ZJ (K:PySem.W.Frag) (aB aP aM:Addr):Sp:=fun vs H Q _=>∃ (H0:Hp) (A:Ji) (S:Pl) (Cs:List Addr) (lo:V) (bb:Str) (c:Int),vs=[.ref A.p,.str (De bb S.rows.length),.int c]/\Lz K aB aP aM H0 H A S Cs lo bb/\Jc K aB aP aM bb H0 A S Q/\∀ H',Ao H H'->1<=S.bs.length->Q .non H'
theorem WQ:Az ["_law_plan_here","_law_name_here","_law_cell","_law_way","_law_at"] ["_law_plan_here","_law_name_here","_law_cell"] (Ag dR):=Bv
include N T in
theorem X5:BJ P w K mg base Bk 3 aD.fLr aD.dLr ["_law_plan_here","_law_name_here","_law_cell"] (ZJ K aB aP aM):=by
 have GMi:BJ P w K mg base Bk 1 aD.fMi aD.dMi ["_law_cell","_law_by","_law_many_here"] Mf:=JD N T
 have GMa:BJ P w K mg base Bk 1 aD.fMa aD.dMa ["_law_plan_here","_law_word"] XR:=Zo N T
 have GLb:BJ P w K mg base Bk 2 aD.fLb aD.dLb ["_law_plan_here","_law_name_here","_law_cell"] (ZK K aB aP aM):=Zg N T
 have GLk:BJ P w K mg base Bk 2 aD.fLk aD.dLk ["_law_plan_here","_law_name_here","_law_cell"] (YC K aB aP aM):=Z3 N T
 have GLs:BJ P w K mg base Bk 2 aD.fLs aD.dLs ["_law_plan_here","_law_name_here","_law_cell"] (Zv K aB aP aM):=Zf N T
 have GLl:BJ P w K mg base Bk 2 aD.fLl aD.dLl ["_law_plan_here","_law_cell"] (Yv K aB aP aM):=ZL N T
 have GLc:BJ P w K mg base Bk 2 aD.fLc aD.dLc ["_law_plan_here","_law_name_here","_law_cell"] (Zn K aB aP aM):=XM N T
 have GLt:BJ P w K mg base Bk 2 aD.fLt aD.dLt ["_law_plan_here","_law_cell"] (Zm K aB aP aM):=Yu N T
 refine N.FLr.1.ok WQ (fun vs H Q E h=>?_) (fun cdv A outer s H vs Q E hr h=>?_)
 ·refine byC fun w_=>?_;obtain ⟨H0,A,S,Cs,lo,bb,c,rfl,_⟩:=h;refine w_ ?_
  rfl
 ·refine byC fun w_=>?_;obtain ⟨H0,A,S,Cs,lo,bb,c,rfl,I,q,qn⟩:=h;refine w_ ?_
  have hrMi:Bc 1 _:=hr.mono (by decide)
  have hrMa:Bc 1 _:=hr.mono (by decide)
  have hrLb:Bc 2 _:=hr.mono (by decide)
  have hrLk:Bc 2 _:=hr.mono (by decide)
  have hrLs:Bc 2 _:=hr.mono (by decide)
  have hrLl:Bc 2 _:=hr.mono (by decide)
  have hrLc:Bc 2 _:=hr.mono (by decide)
  have hrLt:Bc 2 _:=hr.mono (by decide)
  have hu:=Fd hr
  refine ⟨_,(Ac (BP (i:=3) WQ.nd rfl (Or.inl rfl) (Ak GMi hrMi rfl N.FMi.2.2 N.FMi.1.kp N.FMi.2.1 .nil A_ (Aa (pv 2) (Aa Ae (Aa Ae Ab)))))
   (Ac (Bh (BK (Jx (Nat.lt_of_succ_lt hu)) (Ba hu (pv 0) Am (fun _ _=>rfl)) (Cm Ab) (BX _)) (Af (Aw (Ak GLb hrLb rfl N.FLb.2.2 N.FLb.1.kp N.FLb.2.1 .nil A_ (Aa (pv 0) (Aa (pv 1) (Aa (pv 2) Ab)))))) BZ)
   (Ac (Bh (PW.pt (FQ (BK (Jx (Nat.lt_of_succ_lt hu)) (Ba hu (pv 0) Am (fun _ _=>rfl)) (Cm Ab) (BX _)) (Ek (PW.pt (Fi (BK DP (pv 3) Ae (BX _)) (Fv (BK Et (Av BR rfl T.len PySem.boot_len (Aa (Ba hu (pv 0) Am (fun _ _=>rfl)) Ab)) Ae (BX _)))))))) (Af (Aw (Ak GLk hrLk rfl N.FLk.2.2 N.FLk.1.kp N.FLk.2.1 .nil A_ (Aa (pv 0) (Aa (pv 1) (Aa (pv 2) Ab)))))) BZ)
   (Ac (Bh (PW.pt (Fi (BK DP (pv 3) Ae (BX _)) (Fv (BK Et (Av BR rfl T.len PySem.boot_len (Aa (Ba hu (pv 0) Am (fun _ _=>rfl)) Ab)) Ae (BX _))))) (Af (Aw (Ak GLb hrLb rfl N.FLb.2.2 N.FLb.1.kp N.FLb.2.1 .nil A_ (Aa (pv 0) (Aa (pv 1) (Aa (pv 2) Ab)))))) BZ)
   (Ac (Bh (PW.pt (Fi (BK Et (pv 3) Ae (BX _)) (Fi (BK Oj (Ba hu (pv 0) Am (fun _ _=>rfl)) JL (BX _)) (Fv (BK Et (Av BR rfl T.len PySem.boot_len (Aa (Ba hu (pv 0) Am (fun _ _=>rfl)) Ab)) Ae (BX _)))))) (Af (Aw (Ak GLl hrLl rfl N.FLl.2.2 N.FLl.1.kp N.FLl.2.1 .nil A_ (Aa (pv 0) (Aa (pv 2) Ab))))) BZ)
   (Ac (Bh (PW.pt (Fi (BK Et (pv 3) Ae (BX _)) (Fv (BK Et (Ak GMa hrMa rfl N.FMa.2.2 N.FMa.1.kp N.FMa.2.1 .nil A_ (Aa (pv 0) (Aa Am Ab))) Ae (BX _))))) (Af (Aw (Ak GLs hrLs rfl N.FLs.2.2 N.FLs.1.kp N.FLs.2.1 .nil A_ (Aa (pv 0) (Aa (pv 1) (Aa (pv 2) Ab)))))) BZ)
   (Ac (Bh (PW.pt (Fi (BK DP (pv 3) Ae (BX _)) (Fv (BK Et (Ak GMa hrMa rfl N.FMa.2.2 N.FMa.1.kp N.FMa.2.1 .nil A_ (Aa (pv 0) (Aa Am Ab))) Ae (BX _))))) (Ac (BP (i:=4) WQ.nd rfl (Or.inl rfl) (Ak GMi hrMi rfl N.FMi.2.2 N.FMi.1.kp N.FMi.2.1 .nil A_ (Aa (pv 2) (Aa Ae (Aa (Av BR rfl T.len PySem.boot_len (Aa (Ba hu (pv 0) Am (fun _ _=>rfl)) Ab)) Ab)))))
   (Ac (CZ (DW PySem.F.plainAttrs_list PySem.F.slot_list_append PySem.F.type_list_append Bp (Ba hu (pv 0) Am (fun _ _=>rfl)) (Aa (Cd (Aa Am (Aa (pv 1) Ab))) Ab)))
   (Ac (CZ (DW PySem.F.plainAttrs_list PySem.F.slot_list_append PySem.F.type_list_append Bp (Ba hu (pv 0) Am (fun _ _=>rfl)) (Aa (pv 4) Ab)))
   (Af (Aw (Cd (Aa Am (Aa (pv 1) (Aa (Bb (BL (K:=K) rfl) (Bb Dc (Ba hu (pv 0) Am (fun _ _=>rfl)) (pv 4) (fun _ _=>rfl)) Ae (fun _ _=>rfl)) Ab))))))))) BZ)
   (Ac (Bh (PW.pt (Fi (BK DP (pv 3) Ae (BX _)) (Fi (BK Vk (Ak GMa hrMa rfl N.FMa.2.2 N.FMa.1.kp N.FMa.2.1 .nil A_ (Aa (pv 0) (Aa Am Ab))) Ae (BX _)) (Fv (BK Et (Av BR rfl T.len PySem.boot_len (Aa (Ba hu (pv 0) Am (fun _ _=>rfl)) Ab)) Ae (BX _)))))) (Af (Aw (Ak GLt hrLt rfl N.FLt.2.2 N.FLt.1.kp N.FLt.2.1 .nil A_ (Aa (pv 0) (Aa (pv 2) Ab))))) BZ)
   (Ac (Bh (BK Et (Ak GMa hrMa rfl N.FMa.2.2 N.FMa.1.kp N.FMa.2.1 .nil A_ (Aa (pv 0) (Aa Am Ab))) Ae (BX _)) (Af (Aw (Ak GLc hrLc rfl N.FLc.2.2 N.FLc.1.kp N.FLc.2.1 .nil A_ (Aa (pv 0) (Aa (pv 1) (Aa (pv 2) Ab)))))) BZ)
   (Af (Aw JL))))))))))),?_⟩
  have lr:=I.l
  have lk:=I.k.lk
  have up:∀ {H1:Hp},Ao H H1->Lz K aB aP aM H0 H1 A S Cs lo bb:=fun s1=>⟨I.h.mono s1,I.k,I.b,I.l,I.F⟩
  refine ⟨_,rfl,c,48271,12,rfl,by decide,by decide,by decide,fun way w0 w1=>?_⟩
  dsimp only [DR]
  refine U6 (fun b H1=>Ao H H1/\(b=true->S.bs.length<5)/\(b=false->1<=S.bs.length)) (fun Q' qt qf=>?_) (fun H1 hC=>?_) (fun H1 hC=>?_)
  ·refine byC fun w_=>?_;obtain ⟨kvs,g1,g2,y1,y2,y3,y4,y5,y6,y7⟩:=I.h.dp;refine w_ ?_
   obtain ⟨vb,b1,b2⟩:=I.h.b
   have lb:S.bs.length=vb.length:=b2.length
   have gb:=B_.k (k:=Sum.inr "boards") g1
   rw [y2] at gb
   refine ⟨_,rfl,A.p,_,rfl,gb,Bu (by simp),fun E1 hE1=>?_⟩
   have s1:=Ax (o:=HO.lst []) hE1
   have l1:upd H E1 (HO.lst []) E1=some (.lst []):=Ah
   refine ⟨A.b,E1,_,rfl,rfl,.inl (.inl (s1 _ _ b1)),.inl (.inl l1),_,rfl,?_⟩
   cases vb with
   | nil=>exact qt _ ⟨s1,fun _=>by rw [lb]; decide,fun z=>nomatch z⟩
   | cons a b'=>exact qf _ ⟨s1,(fun z=>nomatch z),fun _=>by rw [lb]; simp⟩
  ·exact ⟨_,rfl,_,rfl,_,rfl,H0,A,S,Cs,lo,bb,c,rfl,up hC.1,hC.2.1 rfl,q⟩
  have s1:=hC.1
  have hb1:=hC.2.2 rfl
  clear hC
  refine U6 (fun b H2=>Ao H H2/\(b=true->S.rk.length<12)/\(b=false->1<=S.rk.length)) (fun Q' qt qf=>?_) (fun H2 hC=>?_) (fun H2 hC=>?_)
  ·refine byC fun w_=>?_;obtain ⟨kvs,g1,g2,y1,y2,y3,y4,y5,y6,y7⟩:=(I.h.mono s1).dp;refine w_ ?_
   obtain ⟨vb,b1,b2⟩:=(I.h.mono s1).k
   have lb:S.rk.length=vb.length:=b2.length
   have gb:=B_.k (k:=Sum.inr "ranks") g1
   rw [y3] at gb
   refine ⟨_,rfl,A.p,_,rfl,gb,Bu (by simp),fun E1 hE1=>?_⟩
   have s2:=Ax (o:=HO.lst []) hE1
   have l1:upd H1 E1 (HO.lst []) E1=some (.lst []):=Ah
   refine ⟨A.k,E1,_,rfl,rfl,.inl (.inl (s2 _ _ b1)),.inl (.inl l1),_,rfl,?_⟩
   have gb2:=B_.k (k:=Sum.inr "ranks") (s2 _ _ g1)
   rw [y3] at gb2
   cases vb with
   | nil=>exact qt _ ⟨s1.trans s2,fun _=>by rw [lb]; decide,fun z=>nomatch z⟩
   | cons a b' =>
    have h1r:1<=S.rk.length:=by rw [lb]; simp
    refine ⟨_,rfl,rfl,_,rfl,CV (fun _=>?_) (fun _=>qf _ ⟨s1.trans s2,(fun z=>nomatch z),fun _=>h1r⟩)⟩
    refine ⟨_,rfl,A.p,_,rfl,gb2,A.k,_,rfl,.inl (.inl (.inl (s2 _ _ b1))),_,_,rfl,rfl,_,rfl,?_⟩
    by_cases hh:S.rk.length<12
    ·rw [decide_eq_true (by rw [← lb]; omega:((((a::b').length:Nat):Int))<12)]
     exact qt _ ⟨s1.trans s2,fun _=>hh,fun z=>nomatch z⟩
    ·rw [decide_eq_false (by rw [← lb]; omega:¬ ((((a::b').length:Nat):Int))<12)]
     exact qf _ ⟨s1.trans s2,(fun z=>nomatch z),fun _=>h1r⟩
  ·exact ⟨_,rfl,_,rfl,_,rfl,H0,A,S,Cs,lo,bb,c,rfl,up hC.1,hC.2.1 rfl,hb1,q⟩
  have s2:=hC.1
  have hr1:=hC.2.2 rfl
  clear hC s1
  refine U6 (fun b H3=>Ao H H3/\(b=true->S.bs.length<5)) (fun Q' qt qf=>?_) (fun H3 hC=>?_) (fun H3 hC=>?_)
  ·refine byC fun w_=>?_;obtain ⟨kvs,g1,g2,y1,y2,y3,y4,y5,y6,y7⟩:=(I.h.mono s2).dp;refine w_ ?_
   obtain ⟨vb,b1,b2⟩:=(I.h.mono s2).b
   have lb:S.bs.length=vb.length:=b2.length
   have gb:=B_.k (k:=Sum.inr "boards") g1
   rw [y2] at gb
   refine ⟨_,rfl,rfl,_,rfl,CV (fun _=>?_) (fun _=>qf _ ⟨s2,fun z=>nomatch z⟩)⟩
   refine ⟨_,rfl,A.p,_,rfl,gb,A.b,_,rfl,.inl (.inl (.inl b1)),_,_,rfl,rfl,_,rfl,?_⟩
   by_cases hh:S.bs.length<5
   ·rw [decide_eq_true (by rw [← lb]; omega:((vb.length:Nat):Int)<5)]
    exact qt _ ⟨s2,fun _=>hh⟩
   ·rw [decide_eq_false (by rw [← lb]; omega:¬ ((vb.length:Nat):Int)<5)]
    exact qf _ ⟨s2,fun z=>nomatch z⟩
  ·exact ⟨_,rfl,_,rfl,_,rfl,H0,A,S,Cs,lo,bb,c,rfl,up hC.1,hC.2 rfl,q⟩
  have s3:=hC.1
  clear hC s2
  refine U6 (fun b H4=>Ao H H4/\(b=true->∃ ds0 b L x ls0 l0,S.ds=ds0++[Dt.stop b L]/\S.ls=ls0++[l0]/\lo=V.ref L/\S.bs[b]? = some x/\Tl S.rows x.1 l0.length/\l0.length<4)) (fun Q' qt qf=>?_) (fun H4 hC=>?_) (fun H4 hC=>?_)
  ·refine byC fun w_=>?_;obtain ⟨kvs,g1,g2,y1,y2,y3,y4,y5,y6,y7⟩:=(I.h.mono s3).dp;refine w_ ?_
   have gb:=B_.k (k:=Sum.inr "lines") g1
   rw [y7] at gb
   refine ⟨_,rfl,_,_,rfl,rfl,_,rfl,CV (fun _=>?_) (fun _=>qf _ ⟨s3,fun z=>nomatch z⟩)⟩
   refine ⟨_,rfl,A.p,_,rfl,gb,?_⟩
   refine ⟨rfl,_,rfl,?_⟩
   rcases I.k.op with rfl | ⟨ds0,b,L,x,ls0,l0,e1,e2,rfl,hx,hT⟩
   ·exact Cy (qf _ ⟨s3,fun z=>nomatch z⟩)
   obtain ⟨vd,d1,d2,d3⟩:=(I.h.mono s3).d
   have ld:ds0.length=ls0.length:=by
    have:=d2
    rw [e1,e2] at this
    simpa using this
   rw [e1,e2,List.zip_append ld] at d3
   refine byC fun w_=>?_;obtain ⟨vd0,ud,rfl,_,hud⟩:=Fw d3;refine w_ ?_
   obtain ⟨_,ts,hL,hts⟩:=hud
   have lts:l0.length=ts.length:=hts.length
   refine Eo ⟨_,rfl,A.p,_,rfl,gb,L,_,rfl,.inl (.inl (.inl hL)),_,_,rfl,rfl,_,rfl,?_⟩
   by_cases hh:l0.length<4
   ·rw [decide_eq_true (by omega:((ts.length:Nat):Int)<4)]
    exact qt _ ⟨s3,fun _=>⟨ds0,b,L,x,ls0,l0,e1,e2,rfl,hx,hT,hh⟩⟩
   ·rw [decide_eq_false (by omega:¬ ((ts.length:Nat):Int)<4)]
    exact qf _ ⟨s3,fun z=>nomatch z⟩
  ·obtain ⟨s4,hC⟩:=hC
   refine byC fun w_=>?_;obtain ⟨ds0,b,L,x,ls0,l0,e1,e2,rfl,hx,hT,hh⟩:=hC rfl;refine w_ ?_
   exact ⟨_,rfl,_,rfl,H0,A,S,Cs,bb,c,ds0,b,L,x,ls0,l0,rfl,up s4,e1,e2,hx,hT,hh,hr1,q⟩
  have s4:=hC.1
  clear hC s3
  refine U6 (fun b H5=>Ao H H5/\(b=true->(S.ks.filter fun r=>decide (V.str r.w=V.str "stop")).length<24)) (fun Q' qt qf=>?_) (fun H5 hC=>?_) (fun H5 hC=>?_)
  ·refine ⟨_,rfl,_,_,rfl,rfl,_,rfl,CV (fun _=>?_) (fun _=>qf _ ⟨s4,fun z=>nomatch z⟩)⟩
   refine ⟨_,rfl,H0,A,S,Cs,lo,"stop",rfl,I.h.mono s4,by omega,fun H9 s9=>⟨_,_,rfl,rfl,_,rfl,?_⟩⟩
   by_cases hh:(S.ks.filter fun r=>decide (V.str r.w=V.str "stop")).length<24
   ·rw [decide_eq_true (by omega:(((S.ks.filter fun r=>decide (V.str r.w=V.str "stop")).length:Nat):Int)<24)]
    exact qt _ ⟨s4.trans s9,fun _=>hh⟩
   ·rw [decide_eq_false (by omega:¬ (((S.ks.filter fun r=>decide (V.str r.w=V.str "stop")).length:Nat):Int)<24)]
    exact qf _ ⟨s4.trans s9,fun z=>nomatch z⟩
  ·exact ⟨_,rfl,_,rfl,_,rfl,H0,A,S,Cs,lo,bb,c,rfl,up hC.1,hb1,hC.2 rfl,q⟩
  have s5:=hC.1
  clear hC s4
  refine U6 (fun b H6=>Ao H H6/\(b=true->(S.ks.filter fun r=>decide (V.str r.w=V.str "mute")).length<5)) (fun Q' qt qf=>?_) (fun H6 hC=>?_) (fun H6 hC=>?_)
  ·refine ⟨_,rfl,rfl,_,rfl,CV (fun _=>?_) (fun _=>qf _ ⟨s5,fun z=>nomatch z⟩)⟩
   refine ⟨_,rfl,H0,A,S,Cs,lo,"mute",rfl,I.h.mono s5,by omega,fun H9 s9=>⟨_,_,rfl,rfl,_,rfl,?_⟩⟩
   by_cases hh:(S.ks.filter fun r=>decide (V.str r.w=V.str "mute")).length<5
   ·rw [decide_eq_true (by omega:(((S.ks.filter fun r=>decide (V.str r.w=V.str "mute")).length:Nat):Int)<5)]
    exact qt _ ⟨s5.trans s9,fun _=>hh⟩
   ·rw [decide_eq_false (by omega:¬ (((S.ks.filter fun r=>decide (V.str r.w=V.str "mute")).length:Nat):Int)<5)]
    exact qf _ ⟨s5.trans s9,fun z=>nomatch z⟩
  ·obtain ⟨s6,hm5⟩:=hC
   have hm5:=hm5 rfl
   have hx:=I.h.mono s6
   refine byC fun w_=>?_;obtain ⟨kvs,g1,g2,y1,y2,y3,y4,y5,y6,y7⟩:=hx.dp;refine w_ ?_
   obtain ⟨vb,b1,b2⟩:=hx.b
   obtain ⟨vn,n1,n2⟩:=hx.n
   have lb:S.bs.length=vb.length:=b2.length
   have ln:S.ks.length=vn.length:=n2.length
   have gb:=B_.k (k:=Sum.inr "boards") g1
   rw [y2] at gb
   have g:=B_.k (k:=Sum.inr "knobs") g1
   rw [y4] at g
   refine ⟨_,rfl,_,rfl,A.p,_,rfl,gb,A.b,_,rfl,.inl (.inl (.inl b1)),c,50021,_,rfl,(by show (0:Int)<((vb.length:Nat):Int); omega),by decide,by decide,fun u u0 u1=>?_⟩
   obtain ⟨b,hb⟩:=Int.eq_ofNat_of_zero_le u0
   subst hb
   obtain ⟨x1,hxb⟩:∃ x,S.bs[b]? = some x:=⟨_,List.getElem?_eq_getElem (by omega)⟩
   have nx1:=I.k.dw I.b hxb
   refine ⟨_,rfl,A.p,_,rfl,g,.inl ⟨rfl,_,.inl (.inl n1)⟩,_,rfl,by show 2<=sizeLine; decide,fun T3 hT3=>?_⟩
   have s3:=Ax (o:=HO.tup [V.str "mute",.str (De bb S.rows.length)]) hT3
   have t3:TupAt (upd H6 T3 (HO.tup [V.str "mute",.str (De bb S.rows.length)])) (U8 ⟨"mute",De bb S.rows.length,[.str x1.1]⟩) (.ref T3):=⟨T3,rfl,Ah⟩
   generalize upd H6 T3 (HO.tup [V.str "mute",.str (De bb S.rows.length)])=H7 at s3 t3 ⊢
   have h3:=(hx.mono s3).Uq (s3 _ _ n1) t3
   refine ⟨A.n,vn,_,rfl,rfl,s3 _ _ n1,Ar (by omega),?_⟩
   generalize upd H7 A.n _=H8 at h3 ⊢
   refine byC fun w_=>?_;obtain ⟨kvs4,g14,_,_,w2,_,_,w5,_,w7⟩:=h3.dp;refine w_ ?_
   obtain ⟨vd,d1,d2,d3⟩:=h3.d
   have gd:=B_.k (k:=Sum.inr "details") g14
   rw [w5] at gd
   have h5:=h3.U3 d1 (x:=.mute b) (v:=.int (b:Nat)) rfl (fun L' hL'=>nomatch hL')
   have ld3:vd.length<=100:=by
    have ld:=d3.length
    rw [List.length_zip] at ld
    have:S.ds.length=S.ks.length:=I.k.pd.length.symm
    have:vd.length<=S.ds.length:=by
     rw [← ld]
     exact Nat.min_le_left _ _
    omega
   refine ⟨_,rfl,A.p,_,rfl,gd,.inl ⟨rfl,_,.inl (.inl d1)⟩,_,rfl,A.d,vd,_,rfl,rfl,d1,Ar (by omega),?_⟩
   generalize upd H8 A.d _=H9 at h5 ⊢
   refine byC fun w_=>?_;obtain ⟨kvs6,g16,_,_,u2,_⟩:=h5.dp;refine w_ ?_
   obtain ⟨vb6,b16,b26⟩:=h5.b
   have gb:=B_.k (k:=Sum.inr "boards") g16
   rw [u2] at gb
   refine byC fun w_=>?_;obtain ⟨yb,hyb,Tb,rfl,hTb⟩:=Br b26 hxb;refine w_ ?_
   refine ⟨_,rfl,_,rfl,A.p,_,rfl,gb,_,rfl,A.b,_,_,_,rfl,rfl,.inl (.inl b16),Aq hyb,Tb,_,_,_,rfl,rfl,.inl (.inl hTb),Aq (j:=0) rfl,by show 3<=sizeLine; decide,fun T6 hT6=>?_⟩
   exact q ⟨"mute",De bb S.rows.length,[.str x1.1]⟩ _ _ _ _ _ (h5.mono (Ax hT6)) rfl ⟨T6,rfl,Ah⟩ (I.k.Ub (by omega) rfl ⟨rfl,x1,hxb,rfl⟩ (I.k.bl.plain I.F.f (.inr rfl) (Ew I.b _) (I.k.fb (by omega)) (I.k.fr (by omega)) (I.k.fk (by omega)) (by show _<5; exact hm5) (n:=x1.2) nx1 (List.mem_of_getElem? hxb)) (.inl rfl)) hb1
  have s6:=hC.1
  clear hC s5
  refine U6 (fun b H7=>Ao H H7/\(b=true->0<(S.ks.filter fun r=>decide (V.str r.w=V.str "stop")).length/\S.ch.length<12)) (fun Q' qt qf=>?_) (fun H7 hC=>?_) (fun H7 hC=>?_)
  ·refine ⟨_,rfl,rfl,_,rfl,CV (fun _=>?_) (fun _=>qf _ ⟨s6,fun z=>nomatch z⟩)⟩
   refine ⟨_,rfl,H0,A,S,Cs,lo,"stop",rfl,I.h.mono s6,by omega,fun H9 s9=>⟨_,_,rfl,rfl,_,rfl,CV (fun h0=>?_) (fun _=>qf _ ⟨s6.trans s9,fun z=>nomatch z⟩)⟩⟩
   have h0':=of_decide_eq_true h0
   have hx:=I.h.mono (s6.trans s9)
   refine byC fun w_=>?_;obtain ⟨kvs,g1,g2,y1,y2,y3,y4,y5,y6,y7⟩:=hx.dp;refine w_ ?_
   have g:=B_.k (k:=Sum.inr "steps") g1
   rw [y6] at g
   have lc:Cs.length=S.ch.length:=hx.c.length
   refine ⟨_,rfl,A.p,_,rfl,g,A.s,_,rfl,.inl (.inl (.inl hx.s)),_,_,rfl,rfl,_,rfl,?_⟩
   by_cases hh:S.ch.length<12
   ·rw [decide_eq_true (by rw [List.length_map]; omega:(((Cs.map V.ref).length:Nat):Int)<12)]
    exact qt _ ⟨s6.trans s9,fun _=>⟨by omega,hh⟩⟩
   ·rw [decide_eq_false (by rw [List.length_map]; omega:¬ (((Cs.map V.ref).length:Nat):Int)<12)]
    exact qf _ ⟨s6.trans s9,fun z=>nomatch z⟩
  ·exact ⟨_,rfl,_,rfl,H0,A,S,Cs,lo,bb,c,rfl,up hC.1,(hC.2 rfl).1,(hC.2 rfl).2,hb1,q⟩
  have s7:=hC.1
  clear hC s6
  refine U6 (fun b H8=>Ao H H8/\(b=true->(S.ks.filter fun r=>decide (V.str r.w=V.str "coupler")).length<12)) (fun Q' qt qf=>?_) (fun H8 hC=>?_) (fun H8 hC=>?_)
  ·refine ⟨_,rfl,H0,A,S,Cs,lo,"coupler",rfl,I.h.mono s7,by omega,fun H9 s9=>⟨_,_,rfl,rfl,_,rfl,?_⟩⟩
   by_cases hh:(S.ks.filter fun r=>decide (V.str r.w=V.str "coupler")).length<12
   ·rw [decide_eq_true (by omega:(((S.ks.filter fun r=>decide (V.str r.w=V.str "coupler")).length:Nat):Int)<12)]
    exact qt _ ⟨s7.trans s9,fun _=>hh⟩
   ·rw [decide_eq_false (by omega:¬ (((S.ks.filter fun r=>decide (V.str r.w=V.str "coupler")).length:Nat):Int)<12)]
    exact qf _ ⟨s7.trans s9,fun z=>nomatch z⟩
  ·exact ⟨_,rfl,_,rfl,_,rfl,H0,A,S,Cs,lo,bb,c,rfl,up hC.1,hb1,hC.2 rfl,q⟩
  exact qn _ hC.1 hb1
structure Hj (K:PySem.W.Frag) (aB aP aM:Addr) (H0 H:Hp) (A:Ji) (S:Pl) (Cs:List Addr):Prop where
 h:∃ lo,Be H0 H A S Cs lo
 k:∃ bb lo,Gq bb/\Df K aB aP aM bb S lo
 b1:1<=S.bs.length
 l:S.rows.length<=61
noncomputable def ZX (K:PySem.W.Frag) (aB aP aM:Addr):Sp:=fun vs H Q _=>∃ (a:Addr) (st:Nat) (ns:List Int),vs=[.ref a,.int (st:Nat)]/\Cp K H a (ns.map V.int)/\ns.length<=1000000/\Z_ K aB aP aM/\∀ (A:Ji) (S:Pl) (Cs:List Addr) H',Hj K aB aP aM H H' A S Cs->Q (.ref A.p) H'
theorem RC:Az ["_law_script","_law_start","_law_plan_here","_law_base_here","_law_cell","_law_row_here"] ["_law_script","_law_start"] (Ag cN):=Bv
include N T in
theorem ZQ:BJ P w K mg base Bk 4 aD.fLp aD.dLp ["_law_script","_law_start"] (ZX K aB aP aM):=by
 have GCe:BJ P w K mg base Bk 1 aD.fCe aD.dCe ["_law_script","_law_k"] (W_ K):=Yd N T
 have GBb:BJ P w K mg base Bk 1 aD.fBb aD.dBb ["_law_cell"] YS:=XF N T
 have GNn:BJ P w K mg base Bk 1 aD.fNn aD.dNn ["_law_base_here","_law_k"] YH:=W5 N T
 have GLr:BJ P w K mg base Bk 3 aD.fLr aD.dLr ["_law_plan_here","_law_name_here","_law_cell"] (ZJ K aB aP aM):=X5 N T
 refine N.FLp.1.ok RC (fun vs H Q E h=>?_) (fun cdv A outer s H vs Q E hr h=>?_)
 ·refine byC fun w_=>?_;obtain ⟨a,st,ns,rfl,_⟩:=h;refine w_ ?_
  rfl
 ·refine byC fun w_=>?_;obtain ⟨a,st,ns,rfl,hS,hz,F,q⟩:=h;refine w_ ?_
  have hrCe:Bc 1 _:=hr.mono (by decide)
  have hrBb:Bc 1 _:=hr.mono (by decide)
  have hrNn:Bc 1 _:=hr.mono (by decide)
  have hrLr:Bc 3 _:=hr.mono (by decide)
  have hu:=Fd hr
  refine ⟨_,(@Ac _ _ _ _ _ (@Uc _ _ _ _ _ _ 2 RC.nd rfl (Or.inl rfl) (@Ug _ _ _ _ _ (@Ef _ _ _ _ _ _ _ _ _ Am (@Cm _ _ _ _ Ab) (@Ef _ _ _ _ _ _ _ _ _ Am (@Cm _ _ _ _ Ab) (@Ef _ _ _ _ _ _ _ _ _ Am (@Cm _ _ _ _ Ab) (@Ef _ _ _ _ _ _ _ _ _ Am (@Cm _ _ _ _ Ab) (@Ef _ _ _ _ _ _ _ _ _ Am (@Cm _ _ _ _ Ab) (@Ef _ _ _ _ _ _ _ _ _ Am (@Cm _ _ _ _ Ab) (@Ef _ _ _ _ _ _ _ _ _ Am JL U0))))))) rfl rfl (List.cons_ne_nil _ _) (by decide)) rfl (Or.inl rfl))
   (Ac (BP (i:=3) RC.nd rfl (Or.inl rfl) (Ak GBb hrBb rfl N.FBb.2.2 N.FBb.1.kp N.FBb.2.1 .nil A_ (Aa (Ak GCe hrCe rfl N.FCe.2.2 N.FCe.1.kp N.FCe.2.1 .nil A_ (Aa (pv 0) (Aa Ae Ab))) Ab)))
   (Ac (Dg PassesOwn.never rfl (Bq (BW R_ (Fb O4 (pv 0) (Fo (pv 1)) (Fo (BW Dh (pv 1) Ae))) (Cm (Aa (Ak GCe hrCe rfl N.FCe.2.2 N.FCe.1.kp N.FCe.2.1 .nil A_ (Aa (pv 0) (Aa Ae Ab))) Ab)))) (Bx (i:=4) RC.nd rfl (Or.inl rfl)) (Ac (BP (i:=5) RC.nd rfl (Or.inl rfl) (Ak GLr hrLr rfl N.FLr.2.2 N.FLr.1.kp N.FLr.2.1 .nil A_ (Aa (pv 2) (Aa (Ak GNn hrNn rfl N.FNn.2.2 N.FNn.1.kp N.FNn.2.1 .nil A_ (Aa (pv 3) (Aa (Av BR rfl T.len PySem.boot_len (Aa (Ba hu (pv 2) Am (fun _ _=>rfl)) Ab)) Ab))) (Aa (pv 4) Ab)))))
   (Af (Bh (BK Oj (pv 5) JL (BX _)) (Ac (CZ (DW PySem.F.plainAttrs_list PySem.F.slot_list_append PySem.F.type_list_append Bp (Ba hu (pv 2) Am (fun _ _=>rfl)) (Aa (pv 5) Ab)))
   (Af (Bh (BK Hg (Bb (BL (K:=K) rfl) (pv 5) Ae (fun _ _=>rfl)) (Cd (Aa Am (Aa Am Ab))) rfl) (Af (K3 hu (pv 2) Am JL rfl)) BZ))) BZ))))
   (Af (Aw (pv 2)))))),?_⟩
  intro p hp
  obtain ⟨H1,eqH,s0,e0⟩:=FJ (o:=HO.dK []) hp
  rw [eqH]
  refine ⟨Bu (by simp),fun a1 h1=>?_⟩
  obtain ⟨H2,eqH,s1,e1⟩:=FJ (o:=HO.lst []) h1
  rw [eqH]
  refine ⟨Bu (by simp),fun a2 h2=>?_⟩
  obtain ⟨H3,eqH,s2,e2⟩:=FJ (o:=HO.lst []) h2
  rw [eqH]
  refine ⟨Bu (by simp),fun a3 h3=>?_⟩
  obtain ⟨H4,eqH,s3,e3⟩:=FJ (o:=HO.lst []) h3
  rw [eqH]
  refine ⟨Bu (by simp),fun a4 h4=>?_⟩
  obtain ⟨H5,eqH,s4,e4⟩:=FJ (o:=HO.lst []) h4
  rw [eqH]
  refine ⟨Bu (by simp),fun a5 h5=>?_⟩
  obtain ⟨H6,eqH,s5,e5⟩:=FJ (o:=HO.lst []) h5
  rw [eqH]
  refine ⟨Bu (by simp),fun a6 h6=>?_⟩
  obtain ⟨H7,eqH,s6,e6⟩:=FJ (o:=HO.lst []) h6
  rw [eqH]
  have n12:a1 ≠ a2:=Al e1 h2
  have n13:a1 ≠ a3:=Al (s2 _ _ e1) h3
  have n14:a1 ≠ a4:=Al (s3 _ _ (s2 _ _ e1)) h4
  have n15:a1 ≠ a5:=Al (s4 _ _ (s3 _ _ (s2 _ _ e1))) h5
  have n16:a1 ≠ a6:=Al (s5 _ _ (s4 _ _ (s3 _ _ (s2 _ _ e1)))) h6
  have n23:a2 ≠ a3:=Al e2 h3
  have n24:a2 ≠ a4:=Al (s3 _ _ e2) h4
  have n25:a2 ≠ a5:=Al (s4 _ _ (s3 _ _ e2)) h5
  have n26:a2 ≠ a6:=Al (s5 _ _ (s4 _ _ (s3 _ _ e2))) h6
  have n34:a3 ≠ a4:=Al e3 h4
  have n35:a3 ≠ a5:=Al (s4 _ _ e3) h5
  have n36:a3 ≠ a6:=Al (s5 _ _ (s4 _ _ e3)) h6
  have n45:a4 ≠ a5:=Al e4 h5
  have n46:a4 ≠ a6:=Al (s5 _ _ e4) h6
  have n56:a5 ≠ a6:=Al e5 h6
  have s07:Ao H H7:=s0.trans (s1.trans (s2.trans (s3.trans (s4.trans (s5.trans s6)))))
  have hN:=Be.new s07 hp (s0.free h1) (s0.free (s1.free h2)) (s0.free (s1.free (s2.free h3))) (s0.free (s1.free (s2.free (s3.free h4)))) (s0.free (s1.free (s2.free (s3.free (s4.free h5))))) (s0.free (s1.free (s2.free (s3.free (s4.free (s5.free h6)))))) (s6 _ _ (s5 _ _ (s4 _ _ (s3 _ _ (s2 _ _ (s1 _ _ (e0))))))) (s6 _ _ (s5 _ _ (s4 _ _ (s3 _ _ (s2 _ _ (e1)))))) (s6 _ _ (s5 _ _ (s4 _ _ (s3 _ _ (e2))))) (s6 _ _ (s5 _ _ (s4 _ _ (e3)))) (s6 _ _ (s5 _ _ (e4))) (s6 _ _ (e5)) e6 (by simp [n12,n13,n14,n15,n16,n23,n24,n25,n26,n34,n35,n36,n45,n46,n56])
  refine ⟨s6 _ _ (s5 _ _ (s4 _ _ (s3 _ _ (s2 _ _ (s1 _ _ (e0)))))),Hw a1 a2 a3 a4 a5 a6,rfl,(by show 7<=15; decide),?_⟩
  generalize upd H7 p _=H8 at hN ⊢
  have hS8:=hN.sm.seq hS
  refine ⟨_,rfl,a,0,ns,rfl,hS8,fun i0=>⟨i0,rfl,fun bb hbb=>?_⟩⟩
  obtain ⟨ms,ems,lms⟩:=Qj ns (lo:=(st:Int)) (hi:=(st:Int)+60) (by omega) (by omega)
  refine ⟨_,rfl,_,rfl,_,rfl,_,rfl,_,_,rfl,rfl,_,rfl,a,_,rfl,hS8,fun p8 hp8=>?_⟩
  have t8:=Ax (o:=HO.lst (En (ns.map V.int) (some (st:Int)) (some ((st:Int)+60)))) hp8
  have l8:upd H8 p8 (HO.lst (En (ns.map V.int) (some (st:Int)) (some ((st:Int)+60)))) p8=_:=Ah
  generalize upd H8 p8 (HO.lst (En (ns.map V.int) (some (st:Int)) (some ((st:Int)+60))))=H9 at t8 l8 ⊢
  rw [ems] at l8
  refine ⟨_,rfl,a,0,ns,rfl,t8.seq hS8,fun i1=>⟨by show 1<=sizeLine; decide,fun p9 hp9=>?_⟩⟩
  obtain ⟨H10,eqH,t9,l9⟩:=FJ (o:=HO.lst [V.int i1]) hp9
  rw [eqH]
  refine ⟨p8,p9,_,_,rfl,rfl,t9 _ _ l8,l9,Bu (by rw [List.length_map]; show ms.length+1<=1000; omega),fun p10 hp10=>?_⟩
  have ecs:ms.map V.int++[V.int i1]=(ms++[i1]).map V.int:=by rw [List.map_append]; rfl
  rw [ecs]
  obtain ⟨H11,eqH,t10,l10⟩:=FJ (o:=HO.lst ((ms++[i1]).map V.int)) hp10
  rw [eqH]
  have t811:Ao H8 H11:=t8.trans (t9.trans t10)
  have lcs:(ms++[i1]).length<=61:=by rw [List.length_append,List.length_singleton]; omega
  have lc1:1<=(ms++[i1]).length:=by rw [List.length_append,List.length_singleton]; omega
  generalize ms++[i1]=cs at l10 lcs lc1 ⊢
  have o10:∀ {b:Addr} {u:HO},H8 b=some u->b ≠ p10:=fun {b u} e=>Al (t9 _ _ (t8 _ _ e)) hp10
  obtain ⟨kv8,q8,_⟩:=hN.dp
  obtain ⟨_,q81,_⟩:=hN.r
  obtain ⟨_,q82,_⟩:=hN.b
  obtain ⟨_,q83,_⟩:=hN.k
  obtain ⟨_,q84,_⟩:=hN.n
  obtain ⟨_,q85,_⟩:=hN.d
  have h11:=(hN.mono t811).stand l10 (o10 q8) (fun b hb=>by
   simp only [List.mem_cons] at hb
   rcases hb with rfl | rfl | rfl | rfl | rfl | rfl | z
   ·exact o10 q81
   ·exact o10 q82
   ·exact o10 q83
   ·exact o10 q84
   ·exact o10 q85
   ·exact o10 hN.s
   ·exact nomatch z)
  have hz10:H p10=none:=hN.sm.free (t8.free (t9.free hp10))
  have hS11:Cp K H11 p10 (cs.map V.int):=.inl (.inl l10)
  refine ⟨p10,rfl,⟨_,hS11⟩,GC (K:=K) (a:=p10) (xs:=cs.map V.int) (fun i σ H4=>∃ (S:Pl) (Cs:List Addr) (lo:V),Be (upd H p10 (.lst (cs.map V.int))) H4 ⟨p,a1,a2,a3,a4,a5,a6⟩ S Cs lo/\Df K aB aP aM bb S lo/\S.rows.length<=i/\(0<i->1<=S.bs.length)/\∃ v4 v5,σ=[some (.ref a),some (.int (st:Int)),some (.ref p),some (.str bb),v4,v5])
   ⟨_,_,_,h11,Df.new bb,Nat.le_refl _,(fun z=>absurd z (by omega)),_,_,rfl⟩ (fun i σ H4 _ h=>?_) ?_ ?_⟩
  ·refine byC fun w_=>?_;obtain ⟨S,Cs,lo,hl,_⟩:=h;refine w_ ?_
   exact .inl (.inl (hl.sm _ _ Ah))
  ·rintro i x σ H4 hx ⟨S,Cs,lo,h4,k4,lr,hb4,v4,v5,rfl⟩
   rw [List.getElem?_map] at hx
   obtain ⟨c,hc,rfl⟩:=Option.map_eq_some_iff.mp hx
   have hi:i<cs.length:=(List.getElem?_eq_some_iff.mp hc).1
   refine byC fun w_=>?_;obtain ⟨kvs,g1,g2,y1,y2,y3,y4,y5,y6,y7⟩:=h4.dp;refine w_ ?_
   obtain ⟨vr,r1,r2⟩:=h4.r
   have lr2:S.rows.length=vr.length:=r2.length
   have gr:=B_.k (k:=Sum.inr "rows") g1
   rw [y1] at gr
   refine ⟨_,rfl,_,rfl,_,rfl,p,_,rfl,gr,a1,_,rfl,.inl (.inl (.inl r1)),bb,vr.length,rfl,hbb.1,by omega,_,rfl,_,⟨p,a1,a2,a3,a4,a5,a6⟩,S,Cs,lo,bb,c,by rw [lr2]; rfl,⟨h4,k4,hbb,by omega,F⟩,?_,?_⟩
   ·intro r y S' Cs' lo' H5 hA hrows hT hk hb'
    obtain ⟨T5,rfl,hT5⟩:=hT
    refine byC fun w_=>?_;obtain ⟨kvs5,g15,g25,u1,_,_,_,_,_,u7⟩:=hA.dp;refine w_ ?_
    obtain ⟨vr5,r15,r25⟩:=hA.r
    have lr5:S'.rows.length=vr5.length:=r25.length
    have gr5:=B_.k (k:=Sum.inr "rows") g15
    rw [u1] at gr5
    have hB:=hA.dg r15 (r:=r) (v:=.ref T5) ⟨T5,rfl,hT5⟩
    have eS:({ S' with rows:=S'.rows++[r] }:Pl) = { S' with rows:=S.rows++[r] }:=by rw [hrows]
    rw [eS] at hB
    have hT6:upd H5 a1 (HO.lst (vr5++[.ref T5])) T5=some (.tup r.v):=by
     rw [An (Lb hT5 r15 (by intro z; cases z))]
     exact hT5
    have lr':S'.rows.length=S.rows.length:=by rw [hrows]
    refine ⟨_,rfl,rfl,_,rfl,Eo ⟨_,rfl,p,_,rfl,gr5,.inl ⟨rfl,_,.inl (.inl r15)⟩,_,rfl,a1,vr5,_,rfl,rfl,r15,Ar (by omega),?_⟩⟩
    generalize upd H5 a1 (HO.lst (vr5++[.ref T5]))=H6 at hB hT6 ⊢
    refine ⟨_,rfl,T5,_,_,_,rfl,rfl,.inl (.inl hT6),Aq (j:=0) rfl,by show 2<=sizeLine; decide,fun q2 hq2=>?_⟩
    have s7:=Ax (o:=HO.tup [V.str "stop",.str "line"]) hq2
    have l7:upd H6 q2 (HO.tup [V.str "stop",.str "line"]) q2=some (.tup [V.str "stop",.str "line"]):=Ah
    generalize upd H6 q2 (HO.tup [V.str "stop",.str "line"])=H7' at s7 l7 ⊢
    have hB7:=hB.mono s7
    refine ⟨q2,_,rfl,.inr (.inl (.inl l7)),rfl,rfl,_,rfl,?_⟩
    by_cases hw:r.w = "stop" \/ r.w = "line"
    ·rw [(gB r.w).mpr hw]
     have elo:cB r lo'=lo':=if_pos hw
     rw [elo] at hk
     exact Cy ⟨_,_,_,hB7,hk,by simp; omega,fun _=>hb',_,_,rfl⟩
    ·rw [(Bool.not_eq_true _).mp fun z=>hw ((gB r.w).mp z)]
     have elo:cB r lo'=.non:=if_neg hw
     rw [elo] at hk
     obtain ⟨kvs7',g17,g27,_⟩:=hB7.dp
     refine Eo ⟨_,rfl,p,_,rfl,M8.k (k:=Sum.inr "lines") g17 (Ar (by omega)),?_⟩
     exact ⟨_,_,_,hB7.ZG g17 .non,hk,by simp; omega,fun _=>hb',_,_,rfl⟩
   ·intro H5 s5 hb5
    refine ⟨_,rfl,rfl,_,rfl,Cy ?_⟩
    exact ⟨S,Cs,lo,h4.mono s5,k4,by omega,fun _=>hb5,_,_,rfl⟩
  ·rintro σ H4 ⟨S,Cs,lo,h4,k4,lr,hb4,v4,v5,rfl⟩
   rw [List.length_map] at lr hb4
   exact ⟨_,rfl,q _ S Cs H4 ⟨⟨lo,h4.weak hz10⟩,⟨bb,lo,hbb,k4⟩,hb4 (by omega),by omega⟩⟩
noncomputable def VD:Sp:=fun vs H Q _=>∃ z:Str,vs=[.str z,.str Ku,.int 12]/\z.length<=1000/\∀ H',Ao H H'->Q (.bl (decide (1<=(LL z).length) && decide ((LL z).length<=12) && (LL z).all Nm.dig)) H'
include N T in
theorem Wu:BJ P w K mg base Bk 1 aD.fMd aD.dMd ["text","signs","most"] VD:=by
 refine N.FMd.1.ok Xu (fun vs H Q E h=>?_) (fun cdv A outer s H vs Q E hr h=>?_)
 ·obtain ⟨z,rfl,_⟩:=h
  rfl
 ·obtain ⟨z,rfl,hz,q⟩:=h
  refine ⟨_,(Af (Aw (Dd (HS Gx Gx Ae (Av HQ rfl T.len PySem.boot_len (Aa (pv 0) Ab)) (pv 2)) (DN (Av (GJ rfl) rfl T.all PyProof.Rows.boot_all (Aa (Bm rfl (Bd (osc:=Ag X_) (N:=["text","signs","most"]) rfl rfl (by decide +kernel)) (Sd (pv 0)) (fun _ _ _ _=>CK) (fun _ _ _ _=>(Dy J0 (pv 0) (pv 2) rfl))) Ab)))))),?_⟩
  have hzl:z.length<sizeLine:=Ar hz
  have hl:=Fy z
  refine ⟨_,rfl,z,rfl,Nat.le_of_lt hzl,_,_,rfl,rfl,_,rfl,?_⟩
  refine CV (fun h1=>?_) (fun h1=>?_)
  ·have h1':1<=(LL z).length:=by have:=of_decide_eq_true h1; omega
   rw [decide_eq_true h1'] at q
   refine ⟨_,rfl,_,_,rfl,rfl,_,rfl,?_⟩
   refine CV (fun h2=>?_) (fun h2=>?_)
   ·have h2':(LL z).length<=12:=by have:=of_decide_eq_true h2; omega
    rw [decide_eq_true h2',Bool.true_and,Bool.true_and] at q
    refine ⟨_,rfl,z,rfl,K9 (fun _=>true) (fun c=>.bl (S9 Ku c)) hzl (fun c hc H' hs R k=>k H' (Ao.refl H')) (fun c hc _ H' hs R k=>⟨_,rfl,_,rfl,_,_,rfl,rfl,k H' (Ao.refl H')⟩) (fun D H' hD hs hl2=>?_)⟩
    refine ⟨D,z.cps.toList.map (S9 Ku),rfl,.inl (.inl ?_),?_⟩
    ·rw [hl2,List.filter_eq_self.mpr (fun _ _=>rfl),List.map_map]
     rfl
    ·have:=q H' hs
     rw [List.all_map]
     have e:(id ∘ S9 Ku)=Nm.dig:=funext Ti
     rw [e]
     exact this
   ·have h2':¬ (LL z).length<=12:=fun e=>h2 (decide_eq_true (by omega))
    have:=q H (Ao.refl H)
    rw [decide_eq_false h2',Bool.true_and,Bool.false_and] at this
    exact this
  ·have h1':¬ 1<=(LL z).length:=fun e=>h1 (decide_eq_true (by omega))
   refine ⟨_,rfl,?_⟩
   have:=q H (Ao.refl H)
   rw [decide_eq_false h1',Bool.false_and,Bool.false_and] at this
   exact Cy this
noncomputable def Wr:Sp:=fun vs H Q _=>∃ z:Str,vs=[.str z]/\z.length<=1000/\∀ H',Ao H H'->Q (.bl (Nm.Ro (LL z))) H'
theorem YG:Az ["thing","figures"] ["thing"] (Ag bJ):=Bv
include N T in
theorem Vi:BJ P w K mg base Bk 2 aD.fIn aD.dIn ["thing"] Wr:=by
 have GMdF:BJ P w K mg base Bk 1 aD.fMd aD.dMd ["text","signs","most"] VD:=Wu N T
 refine N.FIn.1.ok YG (fun vs H Q E h=>?_) (fun cdv A outer s H vs Q E hr h=>?_)
 ·obtain ⟨z,rfl,_⟩:=h
  rfl
 ·obtain ⟨z,rfl,hz,q⟩:=h
  have hrMdF:Bc 1 _:=hr.mono (by decide)
  obtain ⟨tF,hF⟩:=T.fig
  obtain ⟨tM,hM⟩:=T.mostF
  refine ⟨_,(Ac (Bh (Ci (Cg (Av Bo rfl T.isin PyProof.Rows.boot_isinstance (Aa (pv 0) (Aa (CW (v:=.ty "str") rfl T.str PyProof.Rows.boot_str rfl) Ab))))) (Af (Aw E_)) BZ)
   (Ac (Bh (BK DP (pv 0) Am (BX _)) (Af (Aw E_)) BZ)
   (Ac (BP (i:=1) YG.nd rfl (Or.inl rfl) (MT (Cg (DW PySem.F.plainAttrs_str PySem.F.slot_str_startswith PySem.F.type_str_startswith J2 (pv 0) (Aa Am Ab))) (Fb Vx (pv 0) (Fo Ae) Hb) (pv 0)))
   (Af (Aw (Dd (Ak GMdF hrMdF rfl N.FMd.2.2 N.FMd.1.kp N.FMd.2.1 .nil A_ (Aa (pv 1) (Aa (CP (v:=.str Ku) rfl hF ⟨tF,rfl⟩) (Aa (CP (v:=.int 12) rfl hM ⟨tM,rfl⟩) Ab)))) (DN (Kp (DW PySem.F.plainAttrs_str PySem.F.slot_str_startswith PySem.F.type_str_startswith J2 (pv 1) (Aa Am Ab)))))))))),?_⟩
  refine ⟨_,rfl,_,"str",_,_,rfl,.str z,JG,_,rfl,Cy ?_⟩
  refine ⟨_,rfl,rfl,_,rfl,?_⟩
  refine CV (fun h0=>?_) (fun h0=>?_)
  ·have e:z = "0":=by injection of_decide_eq_true h0
   have q0:=q H (Ao.refl H)
   rw [e] at q0
   exact q0
  ·have hz0:¬ LL z=[48]:=fun e=>h0 (decide_eq_true (congrArg V.str (Mx (y:="0") e)))
   refine ⟨_,rfl,rfl,z,_,rfl,rfl,_,rfl,?_⟩
   rw [show Txt.startswith z "-" = _ from Gf z 45]
   refine CV (fun hs=>?_) (fun hs=>?_)
   ·have hne:1<=(LL z).length:=by
     cases hzl:LL z with
     | nil=>rw [show z.cps.toList=[] from hzl] at hs; cases hs
     | cons a r=>simp
    refine ⟨_,rfl,_,rfl,z,rfl,Nat.le_of_lt (Ar hz),?_⟩
    have hf:LL (Txt.slice z (some 1) none)=Nm.Ik (LL z):=(Qg hne).trans (by unfold Nm.Ik; rw [if_pos hs])
    have hl:((Txt.slice z (some 1) none):Str).length<=1000:=Nat.le_trans (Txt.slice_le z _ _) hz
    refine ⟨_,rfl,(Txt.slice z (some 1) none),rfl,hl,fun H1 s1=>?_⟩
    refine ⟨_,rfl,?_⟩
    have q1:=q H1 s1
    have nv:Nm.Ro (LL z)=(decide (LL z=[48]) || (decide (1<=(LL (Txt.slice z (some 1) none)).length) && decide ((LL (Txt.slice z (some 1) none)).length<=12) && (LL (Txt.slice z (some 1) none)).all Nm.dig && !((LL (Txt.slice z (some 1) none)).head? == some 48))):=by
     unfold Nm.Ro
     rw [← hf]
    rw [nv,decide_eq_false hz0,Bool.false_or] at q1
    refine CV (fun hb=>?_) (fun hb=>?_)
    ·refine ⟨_,rfl,rfl,(Txt.slice z (some 1) none),_,rfl,rfl,_,rfl,?_⟩
     rw [hb,Bool.true_and] at q1
     rw [show Txt.startswith (Txt.slice z (some 1) none) "0" = _ from Gf (Txt.slice z (some 1) none) 48]
     exact q1
    ·rw [(Bool.not_eq_true _).mp hb,Bool.false_and] at q1
     exact q1
   ·refine ⟨_,rfl,?_⟩
    have hf:LL z=Nm.Ik (LL z):=by unfold Nm.Ik; rw [if_neg hs]
    have hl:(z:Str).length<=1000:=hz
    refine ⟨_,rfl,z,rfl,hl,fun H1 s1=>?_⟩
    refine ⟨_,rfl,?_⟩
    have q1:=q H1 s1
    have nv:Nm.Ro (LL z)=(decide (LL z=[48]) || (decide (1<=(LL z).length) && decide ((LL z).length<=12) && (LL z).all Nm.dig && !((LL z).head? == some 48))):=by
     unfold Nm.Ro
     rw [← hf]
    rw [nv,decide_eq_false hz0,Bool.false_or] at q1
    refine CV (fun hb=>?_) (fun hb=>?_)
    ·refine ⟨_,rfl,rfl,z,_,rfl,rfl,_,rfl,?_⟩
     rw [hb,Bool.true_and] at q1
     rw [show Txt.startswith z "0" = _ from Gf z 48]
     exact q1
    ·rw [(Bool.not_eq_true _).mp hb,Bool.false_and] at q1
     exact q1
noncomputable def ZP:Sp:=fun vs H Q _=>∃ (z:Str) (n:Int),vs=[.str z]/\LL z=Nm.wr n/\n.natAbs<10 ^ 12/\∀ H',Ao H H'->Q (.int n) H'
noncomputable def Yn:Sp:=fun vs H Q _=>∃ x:V,vs=[.str (Fx x)]/\Ko x/\∀ H',Ao H H'->Q x H'
theorem eZ:Az ["text"] ["text"] (Ag dW):=Bv
include N T in
theorem Ys:BJ P w K mg base Bk 3 aD.fNo aD.dNo ["text"] ZP:=by
 have GIn:BJ P w K mg base Bk 2 aD.fIn aD.dIn ["thing"] Wr:=Vi N T
 refine N.FNo.1.ok eZ (fun vs H Q E h=>?_) (fun cdv A outer s H vs Q E hr h=>?_)
 ·obtain ⟨z,n,rfl,_⟩:=h
  rfl
 ·refine byC fun w_=>?_;obtain ⟨z,n,rfl,hz,hn,q⟩:=h;refine w_ ?_
  have hrIn:Bc 2 _:=hr.mono (by decide)
  refine ⟨_,(Ac (Bh (Ci (Cg (Ak GIn hrIn rfl N.FIn.2.2 N.FIn.1.kp N.FIn.2.1 .nil A_ (Aa (pv 0) Ab)))) (Af FN) BZ)
   (Af (Aw (Ce Jp rfl T.int PyProof.Rows.boot_int (Aa (pv 0) Ab))))),?_⟩
  have hl:=Nm.Mt hn
  rw [← hz,← Fy] at hl
  refine ⟨_,rfl,z,rfl,by omega,fun H1 s1=>?_⟩
  rw [hz,Nm.Q5 hn]
  refine ⟨_,rfl,Cy ?_⟩
  exact ⟨_,rfl,z,n,rfl,b_ hz hn,q H1 s1⟩
theorem dC:Az ["part"] ["part"] (Ag du):=Bv
include N T in
theorem X8:BJ P w K mg base Bk 4 aD.fRp aD.dRp ["part"] Yn:=by
 have GIn:BJ P w K mg base Bk 2 aD.fIn aD.dIn ["thing"] Wr:=Vi N T
 have GNo:BJ P w K mg base Bk 3 aD.fNo aD.dNo ["text"] ZP:=Ys N T
 refine N.FRp.1.ok dC (fun vs H Q E h=>?_) (fun cdv A outer s H vs Q E hr h=>?_)
 ·obtain ⟨x,rfl,_⟩:=h
  rfl
 ·obtain ⟨x,rfl,hx,q⟩:=h
  have hrIn:Bc 2 _:=hr.mono (by decide)
  have hrNo:Bc 3 _:=hr.mono (by decide)
  refine ⟨_,(Af (Aw (MT (Cg (Ak GIn hrIn rfl N.FIn.2.2 N.FIn.1.kp N.FIn.2.1 .nil A_ (Aa (pv 0) Ab))) (Ak GNo hrNo rfl N.FNo.2.2 N.FNo.1.kp N.FNo.2.1 .nil A_ (Aa (pv 0) Ab)) (pv 0)))),?_⟩
  have hl:=Kg hx
  rw [← Fy] at hl
  refine ⟨_,rfl,Fx x,rfl,by omega,fun H1 s1=>?_⟩
  rcases hx with ⟨t,rfl,h⟩ | ⟨i,rfl,h⟩
  ·rw [show LL (Fx (.str t))=LL t from rfl,SJ h]
   exact ⟨_,rfl,Cy ⟨_,rfl,q H1 s1⟩⟩
  ·have e:LL (Fx (.int i))=Nm.wr i:=str_int i
   rw [e,Nm.Q5 h]
   exact ⟨_,rfl,Eo ⟨_,rfl,Fx (.int i),i,rfl,e,h,fun H2 s2=>q H2 (s1.trans s2)⟩⟩
noncomputable def W6 (K:PySem.W.Frag):Sp:=fun vs H Q _=>∃ xs:List V,vs=[.str (Dm xs)]/\(∀ x∈xs,Ko x)/\xs ≠ []/\xs.length<=30/\∀ (Ta:Addr) H',H Ta=none->Ao H H'->H' Ta=some (.tup xs)->Q (.ref Ta) H'
noncomputable def YT (K:PySem.W.Frag):Sp:=fun vs H Q _=>∃ (Ta:Addr) (xs:List V),vs=[.ref Ta]/\H Ta=some (.tup xs)/\(∀ x∈xs,Ko x)/\xs.length<=30/\∀ H',Ao H H'->Q (.str (Dm xs)) H'
theorem dJ:Az ["text"] ["text"] (Ag Z9):=Bv
include N T in
theorem Z4:BJ P w K mg base Bk 5 aD.fRr aD.dRr ["text"] (W6 K):=by
 have GRp:BJ P w K mg base Bk 4 aD.fRp aD.dRp ["part"] Yn:=X8 N T
 refine N.FRr.1.ok dJ (fun vs H Q E h=>?_) (fun cdv A outer s H vs Q E hr h=>?_)
 ·obtain ⟨xs,rfl,_⟩:=h
  rfl
 ·refine byC fun w_=>?_;obtain ⟨xs,rfl,hok,hne,hl,q⟩:=h;refine w_ ?_
  have hrRp:Bc 4 _:=hr.mono (by decide)
  refine ⟨_,(Af (Aw (Ce G3 rfl T.tuple PyProof.Rows.boot_tuple (Aa (Bm rfl (Bd (osc:=Ag Z9) (N:=["text"]) rfl rfl (by decide +kernel)) (Bq (DW PySem.F.plainAttrs_str PySem.F.slot_str_split PySem.F.type_str_split KH (pv 0) (Aa Am Ab))) (fun _ _ _ _=>CK) (fun _ _ _ _=>(Ak GRp hrRp rfl N.FRp.2.2 N.FRp.1.kp N.FRp.2.1 .nil A_ (Aa (pv 0) Ab)))) Ab)))),?_⟩
  have sp:=JF hok hne
  have lsp:(Txt.split (Dm xs) " ").length=xs.length:=by rw [sp,List.length_map]
  refine ⟨_,rfl,rfl,Dm xs," ",rfl,rfl,by decide +kernel,Nat.le_trans (Le hok hl) (by show 420<=sizeLine; decide),(by rw [lsp]; exact Nat.le_trans hl (by show 30<=sizeLine; decide)),fun p1 hp1=>?_⟩
  rw [sp]
  obtain ⟨H1,eqH,s1,l1⟩:=FJ (o:=HO.lst ((xs.map Fx).map V.str)) hp1
  rw [eqH]
  have hS:Cp K H1 p1 ((xs.map Fx).map V.str):=.inl (.inl l1)
  have ln:((xs.map Fx).map V.str).length=xs.length:=by rw [List.length_map,List.length_map]
  refine ⟨p1,rfl,⟨_,hS⟩,DG (K:=K) (xs:=(xs.map Fx).map V.str) (fun _=>true) rdV hS (Ar (by omega)) (fun y hy H' hs R k=>k H' (Ao.refl H')) (fun y hy _ H' hs R k=>?_) (fun D H2 hD s2 hl2=>?_)⟩
  ·obtain ⟨t,ht,rfl⟩:=List.mem_map.mp hy
   obtain ⟨x,hx,rfl⟩:=List.mem_map.mp ht
   refine ⟨_,rfl,x,rfl,hok x hx,fun H3 s3=>?_⟩
   have kk:=k H3 s3
   rw [Qq (hok x hx)] at kk
   exact kk
  have e2:(((xs.map Fx).map V.str).filter fun _=>true).map rdV=xs:=by
   rw [List.filter_eq_self.mpr (fun _ _=>rfl),List.map_map,List.map_map]
   have:xs.map ((rdV ∘ V.str) ∘ Fx)=xs.map id:=List.map_congr_left fun x hx=>Qq (hok x hx)
   rw [this,List.map_id]
  rw [e2] at hl2
  refine ⟨D,xs,rfl,.inl ⟨.inl (.inl hl2),fun Ta hTa=>?_⟩⟩
  exact q Ta _ (s1.free (s2.free hTa)) (s1.trans (s2.trans (Ax hTa))) Ah
theorem cR:Az ["row"] ["row"] (Ag aR):=Bv
include N T in
theorem ZZ:BJ P w K mg base Bk 1 aD.fSr aD.dSr ["row"] (YT K):=by
 refine N.FSr.1.ok cR (fun vs H Q E h=>?_) (fun cdv A outer s H vs Q E hr h=>?_)
 ·obtain ⟨Ta,xs,rfl,_⟩:=h
  rfl
 ·refine byC fun w_=>?_;obtain ⟨Ta,xs,rfl,hT,hok,hl,q⟩:=h;refine w_ ?_
  refine ⟨_,(Af (Aw (DW PySem.F.plainAttrs_str PySem.F.slot_str_join PySem.F.type_str_join Om Am (Aa (Bm rfl (Bd (osc:=Ag aR) (N:=["row"]) rfl rfl (by decide +kernel)) (Hv (pv 0)) (fun _ _ _ _=>CK) (fun _ _ _ _=>(Ce Pk rfl T.str PyProof.Rows.boot_str (Aa (pv 0) Ab)))) Ab)))),?_⟩
  have hS:Ey K H Ta xs:=.inl (.inl hT)
  refine ⟨rfl,_,rfl,Ta,rfl,⟨_,hS⟩,JC (K:=K) (xs:=xs) (fun _=>true) (fun v=>.str (Fx v)) hS (Ar (by omega)) (fun y hy H' hs R k=>k H' (Ao.refl H')) (fun y hy _ H' hs R k=>?_) (fun D H2 hD s2 hl2=>?_)⟩
  ·rcases hok y hy with ⟨t,rfl,h⟩ | ⟨i,rfl,h⟩
   ·exact ⟨_,rfl,.inl ⟨t,rfl,k H' (Ao.refl H')⟩⟩
   ·exact ⟨_,rfl,.inr ⟨i,rfl,Wf h,k H' (Ao.refl H')⟩⟩
  rw [List.filter_eq_self.mpr (fun _ _=>rfl)] at hl2
  have e2:xs.map (fun v=>V.str (Fx v))=(xs.map Fx).map V.str:=by rw [List.map_map]; rfl
  rw [e2] at hl2
  refine ⟨" ",D,xs.map Fx,rfl,rfl,.inl (.inl hl2),Ms hok hl,?_⟩
  rw [Sw]
  exact q H2 s2
theorem IW {α β:Type} {F G:α->β->Prop}:∀ {l:List α} {vs:List β},Paired F l vs->(∀ a v,a∈l->F a v->G a v)->Paired G l vs
 | [],_,h,_=>by
  cases h
  exact .nil
 | a::l,_,h,f=>by
  cases h with
  | cons x y=>exact .cons (f _ _ List.mem_cons_self x) (IW y fun a v ha=>f a v (List.mem_cons_of_mem _ ha))
theorem HX {α β γ:Type} {F:β->γ->Prop} (f:α->β):∀ {l:List α} {vs:List γ},Paired F (l.map f) vs->Paired (fun a v=>F (f a) v) l vs
 | [],_,h=>by
  cases h
  exact .nil
 | a::l,_,h=>by
  cases h with
  | cons x y=>exact .cons x (HX f y)
noncomputable abbrev Ib (rows:List R):List (List V):=rows.map fun r=>r.v
noncomputable def Jg (rows:List R):Prop:=(∀ r∈rows,(∀ x∈r.v,Ko x)/\r.v.length<=30)/\rows.length<=150
theorem Jg.p {rows:List R} (h:Jg rows):∀ r∈Ib rows,∀ x∈r,Ko x:=fun r hr=>by
 obtain ⟨q,hq,rfl⟩:=List.mem_map.mp hr
 exact (h.1 q hq).1
theorem Jg.l {rows:List R} (h:Jg rows):∀ r∈Ib rows,r.length<=30:=fun r hr=>by
 obtain ⟨q,hq,rfl⟩:=List.mem_map.mp hr
 exact (h.1 q hq).2
theorem Jg.n {rows:List R} (h:Jg rows):(Ib rows).length<=150:=by rw [List.length_map]; exact h.2
noncomputable def Yy (K:PySem.W.Frag) (C:Addr):Sp:=fun vs H Q _=>∃ (x:Addr) (us:List V) (bs:List (Str × Nat)) (rk:List (Str × Nat × Int)) (ks:List R) (ls:List (List Ln)) (sts:List Nat) (rows:List R),vs=[.ref x]/\KR C H x us bs rk ks ls sts/\Paired (fun (r:R) v=>TupAt H r.v v) rows us/\Jg rows/\∀ H',Ao H H'->Q (.str (Ig (Ib rows))) H'
theorem fV:Az ["organ"] ["organ"] (Ag aX):=Bv
include N T in
theorem X4:BJ P w K mg base Bk 2 aD.fSg aD.dSg ["organ"] (Yy K C):=by
 have GSr:BJ P w K mg base Bk 1 aD.fSr aD.dSr ["row"] (YT K):=ZZ N T
 have GOw:BJ P w K mg base Bk 1 aD.fOw aD.dOw ["self"] (Wn C):=VJ N T
 refine N.FSg.1.ok fV (fun vs H Q E h=>?_) (fun cdv A outer s H vs Q E hr h=>?_)
 ·refine byC fun w_=>?_;obtain ⟨x,us,bs,rk,ks,ls,sts,rows,rfl,_⟩:=h;refine w_ ?_
  rfl
 ·refine byC fun w_=>?_;obtain ⟨x,us,bs,rk,ks,ls,sts,rows,rfl,O,prd,ok,q⟩:=h;refine w_ ?_
  have hrSr:Bc 1 _:=hr.mono (by decide)
  have hrOw:Bc 1 _:=hr.mono (by decide)
  refine ⟨_,(Af (Aw (DW PySem.F.plainAttrs_str PySem.F.slot_str_join PySem.F.type_str_join Om Am (Aa (Bm rfl (Bd (osc:=Ag aX) (N:=["organ"]) rfl rfl (by decide +kernel)) (Bq (GD (pv 0) T.cl N.FOw.2.2 GOw hrOw N.FOw.2.1 .nil A_)) (fun _ _ _ _=>CK) (fun _ _ _ _=>(Ak GSr hrSr rfl N.FSr.2.2 N.FSr.1.kp N.FSr.2.1 .nil A_ (Aa (pv 0) Ab)))) Ab)))),?_⟩
  refine byC fun w_=>?_;obtain ⟨⟨⟨dx,fs,_,_,_,_,_,_,_,_,h1,_,_,_,_,lm,_⟩,_⟩,_⟩:=id O.o;refine w_ ?_
  have hl:us.length=rows.length:=prd.length.symm
  have hn:=ok.2
  refine ⟨rfl,_,rfl,x,dx,fs,rfl,h1,lm _ (by decide +kernel),x,us,bs,rk,ks,ls,sts,rfl,O,fun D1 H1 hD1 s1 hl1=>?_⟩
  have hS:Cp K H1 D1 us:=.inl (.inl hl1)
  have prd1:=Aj s1 prd
  refine ⟨D1,rfl,⟨_,hS⟩,DG (K:=K) (xs:=us) (fun _=>true) (fun v=>.str (Dm (Jh H1 v).v)) hS (Ar (by omega)) (fun y hy H' hs R k=>k H' (Ao.refl H')) (fun y hy _ H' hs R k=>?_) (fun D H2 hD s2 hl2=>?_)⟩
  ·obtain ⟨r,hr,ht⟩:=Cv prd1 hy
   have er:=KZ ht
   obtain ⟨Ta,rfl,hT⟩:=ht.mono hs
   refine ⟨_,rfl,Ta,r.v,rfl,hT,(ok.1 r hr).1,(ok.1 r hr).2,fun H3 s3=>?_⟩
   have kk:=k H3 s3
   rw [er] at kk
   exact kk
  have e2:(us.filter fun _=>true).map (fun v=>V.str (Dm (Jh H1 v).v))=((Ib rows).map Dm).map V.str:=by
   rw [List.filter_eq_self.mpr (fun _ _=>rfl),← Kc prd1,List.map_map,List.map_map,List.map_map]
   rfl
  rw [e2] at hl2
  refine ⟨"; ",D,(Ib rows).map Dm,rfl,rfl,.inl (.inl hl2),Mw ok.p ok.l ok.n,?_⟩
  rw [Sw]
  exact q H2 (s1.trans s2)
noncomputable def Xj (K:PySem.W.Frag) (aB aP aM:Addr) (rows:List R) (bs:List (Str × Nat)) (rk:List (Str × Nat × Int)) (ks:List R) (ls:List (List Ln)) (sts:List Nat):Prop:=∀ (H:Hp) (vs:List V),Paired (fun (r:R) v=>TupAt H r.v v) rows vs->Rows H (Jh H) vs/\e_ K aB aP aM (Jh H) vs bs rk ks/\linesOf rk (vs.map (Jh H))=ls/\((vs.filter (pw (Jh H) "step")).map fun v=>stN ks (Jh H v))=sts
noncomputable def Xe (K:PySem.W.Frag) (aB aP aM C:Addr):Sp:=fun vs H Q _=>∃ (rows:List R) (bs:List (Str × Nat)) (rk:List (Str × Nat × Int)) (ks:List R) (ls:List (List Ln)) (sts:List Nat),vs=[.str (Ig (Ib rows))]/\Xj K aB aP aM rows bs rk ks ls sts/\Jg rows/\rows ≠ []/\∀ (x:Addr) (us:List V) H',Ao H H'->KR C H' x us bs rk ks ls sts->Paired (fun (r:R) v=>TupAt H' r.v v) rows us->Q (.ref x) H'
theorem fG:Az ["text"] ["text"] (Ag Z6):=Bv
include N T in
theorem XJ:BJ P w K mg base Bk 11 aD.fRg aD.dRg ["text"] (Xe K aB aP aM C):=by
 have GRr:BJ P w K mg base Bk 5 aD.fRr aD.dRr ["text"] (W6 K):=Z4 N T
 have GOi:BJ P w K mg base Bk 9 aD.fOi aD.dOi ["self","rows"] (WW K aB aP aM C):=U7 N T
 refine N.FRg.1.ok fG (fun vs H Q E h=>?_) (fun cdv A outer s H vs Q E hr h=>?_)
 ·refine byC fun w_=>?_;obtain ⟨rows,bs,rk,ks,ls,sts,rfl,_⟩:=h;refine w_ ?_
  rfl
 ·refine byC fun w_=>?_;obtain ⟨rows,bs,rk,ks,ls,sts,rfl,fin,ok,hne,q⟩:=h;refine w_ ?_
  have hrRr:Bc 5 _:=hr.mono (by decide)
  have hrOi:Bc 9 _:=hr.mono (by decide)
  have hrOi1:Bc 10 _:=hr
  refine ⟨_,(Ac (Bh (Ci (Cg (Av Bo rfl T.isin PyProof.Rows.boot_isinstance (Aa (pv 0) (Aa (CW (v:=.ty "str") rfl T.str PyProof.Rows.boot_str rfl) Ab))))) (Af FN) BZ)
   (Af (Aw (O1 N.FOi.2.2 GOi hrOi1 rfl T.mC N.FOi.2.1 .nil A_ (Aa (Bm rfl (Bd (osc:=Ag Z6) (N:=["text"]) rfl rfl (by decide +kernel)) (Bq (DW PySem.F.plainAttrs_str PySem.F.slot_str_split PySem.F.type_str_split KH (pv 0) (Aa Am Ab))) (fun _ _ _ _=>CK) (fun _ _ _ _=>(Ak GRr hrRr rfl N.FRr.2.2 N.FRr.1.kp N.FRr.2.1 .nil A_ (Aa (pv 0) Ab)))) Ab))))),?_⟩
  have hn:=ok.2
  have hne2:Ib rows ≠ []:=by simpa using hne
  have sp:=Nf ok.p hne2
  refine ⟨_,rfl,_,"str",_,_,rfl,.str _,JG,_,rfl,Cy ?_⟩
  refine ⟨_,rfl,rfl,Ig (Ib rows),"; ",rfl,rfl,by decide +kernel,Nat.le_trans (Rq ok.p ok.l ok.n) (by show 64000<=sizeLine; decide),(by rw [sp,List.length_map,List.length_map]; exact Nat.le_trans hn (by show 150<=sizeLine; decide)),fun p1 hp1=>?_⟩
  rw [sp]
  obtain ⟨H1,eqH,s1,l1⟩:=FJ (o:=HO.lst (((Ib rows).map Dm).map V.str)) hp1
  rw [eqH]
  have hS:Cp K H1 p1 (((Ib rows).map Dm).map V.str):=.inl (.inl l1)
  have ln:(((Ib rows).map Dm).map V.str).length=rows.length:=by rw [List.length_map,List.length_map,List.length_map]
  have em:((Ib rows).map Dm).map V.str=rows.map fun r=>V.str (Dm r.v):=by rw [List.map_map,List.map_map]; rfl
  refine ⟨p1,rfl,⟨_,hS⟩,Hm (K:=K) (xs:=((Ib rows).map Dm).map V.str) (fun _=>true) rdR hS (Ar (by omega)) (fun y hy H' hs R k=>k H' (Ao.refl H')) (fun y hy _ H' hs R k=>?_) (fun D H2 ys hD s2 hl2 P2=>?_)⟩
  ·rw [em] at hy
   obtain ⟨r,hr,rfl⟩:=List.mem_map.mp hy
   have hrn:r.v ≠ []:=List.cons_ne_nil _ _
   refine ⟨_,rfl,r.v,rfl,(ok.1 r hr).1,hrn,(ok.1 r hr).2,fun Ta H3 _ s3 hT=>k _ H3 s3 ⟨Ta,rfl,?_⟩⟩
   rw [Qu (ok.1 r hr).1 hrn]
   exact hT
  rw [List.filter_eq_self.mpr (fun _ _=>rfl),em] at P2
  have P3:Paired (fun (r:R) v=>TupAt H2 r.v v) rows ys:=by
   have:=HX (F:=fun (x:V) y=>TupAt H2 (rdR x) y) (fun r:R=>V.str (Dm r.v)) P2
   exact IW this fun r v hr h=>by
    rw [Qu (ok.1 r hr).1 (List.cons_ne_nil _ _)] at h
    exact h
  obtain ⟨R2,O2,eL,eS⟩:=fin H2 ys P3
  intro x dx nx ndx nex
  have sx:Ao H2 (upd (upd H2 dx (.own x)) x (.ins C dx [])):=fun b o e=>by
   rw [An (Al e nx),An (Al e ndx)]
   exact e
  refine ⟨x,dx,D,ys,Jh H2,bs,rk,ks,rfl,Ah,sx _ _ hl2,R2.mono sx,O2,fun H3 OA keyA SXh=>⟨rfl,?_⟩⟩
  rw [eL,eS] at OA
  have s23:Ao H2 H3:=fun b o e=>SXh b o (sx b o e) (Al e nx)
  exact q x ys H3 (s1.trans (s2.trans s23)) OA (Aj s23 P3)
theorem Qs (m:Nat):QQ (Str.ofString "0123456789").cps.toList ((m:Int) % 10)=some (48+m % 10):=by
 have e:((m:Int) % 10)=((m % 10:Nat):Int):=by omega
 rw [e]
 have h:m % 10<10:=Nat.mod_lt _ (by decide)
 generalize m % 10=k at h
 have key:∀ k<10,QQ (Str.ofString "0123456789").cps.toList ((k:Nat):Int)=some (48+k):=by decide
 exact key k h
theorem app_list (a b:Str):LL (a++b)=LL a++LL b:=PyProof.Rows.cps_toList_append a b
theorem Wk (b:Bool):PySem.MulOk "-" (if b=true then 1 else 0):=by
 cases b
 ·exact ⟨by decide,fun h=>absurd (by decide) h,fun h=>absurd (by decide) h⟩
 ·exact ⟨by decide,fun _ h=>absurd h (by decide),fun _ h=>absurd h (by decide)⟩
noncomputable def bw (n:Int):St->Hp->Prop:=fun σ H=>∃ (f:Str) (m:Nat),σ=[some (.int n),some (.str f),some (.int m)]/\(LL f).length<=12/\((LL f=[]/\m=n.natAbs) \/ (LL f ≠ []/\Nm.LQ m++LL f=Nm.mag n.natAbs))
noncomputable def Z0:St->Hp->Nat:=fun σ _=>match σ with
 | [_,some (.str f),some (.int m)]=>m.toNat+(if LL f=[] then 1 else 0)
 | _=>0
theorem eY {f:Str}:decide (V.str f=V.str "")=decide (LL f=[]):=by
 rw [Bool.eq_iff_iff,decide_eq_true_eq,decide_eq_true_eq]
 constructor
 ·intro h
  injection h with h
  rw [h]
  rfl
 ·intro h
  rw [Mx (z:=f) (y:="") h]
noncomputable def Xk:Sp:=fun vs H Q _=>∃ n:Int,vs=[.int n]/\n.natAbs<10 ^ 12/\∀ z,LL z=Nm.wr n->Q (.str z) H
theorem Q7:Az ["_law_number","_law_figures","_law_left"] ["_law_number"] (Ag dO):=Bv
include N T in
theorem Xl:BJ P w K mg base Bk 1 aD.fWr aD.dWr ["_law_number"] Xk:=by
 refine N.FWr.1.ok Q7 (fun vs H Q E h=>?_) (fun cdv A outer s H vs Q E hr h=>?_)
 ·obtain ⟨n,rfl,_⟩:=h
  rfl
 ·obtain ⟨n,rfl,hn,q⟩:=h
  refine ⟨_,(Ac (BP (i:=1) Q7.nd rfl (Or.inl rfl) Am)
   (Ac (BP (i:=2) Q7.nd rfl (Or.inl rfl) (Av Rp rfl T.abs PyProof.Rows.boot_abs (Aa (pv 0) Ab)))
   (Ac (Rh PassesOwn.never (PW.pt (FQ (BK Vk (pv 2) Ae (BX _)) (Ek (BK DP (pv 1) Am (BX _))))) (Ac (BP (i:=1) Q7.nd rfl (Or.inl rfl) (BW Cj (Bb Ka Am (BW Cw (pv 2) Ae) (fun _ _=>rfl)) (pv 1)))
   (Af (BP (i:=2) Q7.nd rfl (Or.inl rfl) (BW Dv (pv 2) Ae)))))
   (Af (Aw (BW Cj (BW M3 Am (Ce Pj rfl T.int PyProof.Rows.boot_int (Aa (Dy Et (pv 0) Ae (BX _)) Ab))) (pv 1))))))),?_⟩
  refine ⟨_,rfl,n,rfl,?_⟩
  have ea:(if n<0 then -n else n)=((n.natAbs:Nat):Int):=by split <;> omega
  rw [ea]
  have hml:=(Nm.K4 hn).2
  refine ⟨fun m σ H'=>H'=H/\m=Z0 σ H'/\bw n σ H',⟨_,rfl,rfl,"",n.natAbs,rfl,by decide,.inl ⟨rfl,rfl⟩⟩,?_⟩
  rintro m σ H' ⟨rfl,rfl,f,x,rfl,hfl,hP⟩
  refine ⟨_,rfl,_,_,rfl,rfl,_,rfl,?_⟩
  refine CV (fun h1=>?_) (fun h1=>?_)
  ·have hx:¬ (x=0/\LL f ≠ []):=fun z=>by
    have:=of_decide_eq_true h1
    omega
   refine Eo ⟨fun σ' G=>G=H'/\bw n σ' G/\Z0 σ' G<Z0 [some (.int n),some (.str f),some (.int x)] H',fun σ' G z=>?_,?_⟩
   ·obtain ⟨rfl,p,l⟩:=z
    exact ⟨_,l,rfl,rfl,p⟩
   refine ⟨_,rfl,_,_,rfl,rfl,(by show (0:Int)<10; decide),Str.ofString "0123456789",_,48+x % 10,rfl,rfl,Bu (by decide),Qs x,_,rfl,_,_,rfl,rfl,?_,?_⟩
   ·rw [Fy f]
    exact Bu (by show 1+_<=1000; omega)
   refine ⟨_,rfl,_,_,rfl,rfl,⟨by decide,by decide⟩,?_⟩
   have el:LL ((⟨#[48+x % 10]⟩:Str)++f)=(48+x % 10)::LL f:=app_list _ _
   have ed:((x:Nat):Int) / 10=((x / 10:Nat):Int):=by omega
   have hd:Nm.LQ (x / 10)++LL ((⟨#[48+x % 10]⟩:Str)++f)=Nm.mag n.natAbs:=by
    rw [el]
    rcases hP with ⟨e1,e2⟩ | ⟨e1,e2⟩
    ·rw [e1,e2]
     unfold Nm.mag
     by_cases h0:n.natAbs=0
     ·rw [if_pos h0,h0]
      show Nm.LQ 0++_=_
      rw [Nm.Di]
      rfl
     ·rw [if_neg h0,Nm.Du h0]
    ·have h0:x ≠ 0:=fun z=>hx ⟨z,e1⟩
     rw [← e2,Nm.Du h0,List.append_assoc]
     rfl
   have hl2:(LL ((⟨#[48+x % 10]⟩:Str)++f)).length<=12:=by
    have:=congrArg List.length hd
    rw [List.length_append] at this
    omega
   have hne:LL ((⟨#[48+x % 10]⟩:Str)++f) ≠ []:=by rw [el]; simp
   refine ⟨rfl,⟨_,x / 10,by rw [← ed]; rfl,hl2,.inr ⟨hne,hd⟩⟩,?_⟩
   show (((x:Nat):Int) / 10).toNat+(if LL ((⟨#[48+x % 10]⟩:Str)++f)=[] then 1 else 0)<((x:Nat):Int).toNat+(if LL f=[] then 1 else 0)
   rw [if_neg hne,ed,Int.toNat_natCast,Int.toNat_natCast]
   by_cases hf:LL f=[]
   ·rw [if_pos hf]; omega
   ·rw [if_neg hf]
    have:x ≠ 0:=fun z=>hx ⟨z,hf⟩
    omega
  ·have hx0:x=0:=by
    have:=of_decide_eq_false ((Bool.not_eq_true _).mp h1)
    omega
   refine ⟨_,rfl,rfl,_,rfl,?_⟩
   rw [eY]
   refine CV (fun h2=>?_) (fun h2=>?_)
   ·have hx:¬ (x=0/\LL f ≠ []):=fun z=>z.2 (of_decide_eq_true h2)
    refine ⟨fun σ' G=>G=H'/\bw n σ' G/\Z0 σ' G<Z0 [some (.int n),some (.str f),some (.int x)] H',fun σ' G z=>?_,?_⟩
    ·obtain ⟨rfl,p,l⟩:=z
     exact ⟨_,l,rfl,rfl,p⟩
    refine ⟨_,rfl,_,_,rfl,rfl,(by show (0:Int)<10; decide),Str.ofString "0123456789",_,48+x % 10,rfl,rfl,Bu (by decide),Qs x,_,rfl,_,_,rfl,rfl,?_,?_⟩
    ·rw [Fy f]
     exact Bu (by show 1+_<=1000; omega)
    refine ⟨_,rfl,_,_,rfl,rfl,⟨by decide,by decide⟩,?_⟩
    have el:LL ((⟨#[48+x % 10]⟩:Str)++f)=(48+x % 10)::LL f:=app_list _ _
    have ed:((x:Nat):Int) / 10=((x / 10:Nat):Int):=by omega
    have hd:Nm.LQ (x / 10)++LL ((⟨#[48+x % 10]⟩:Str)++f)=Nm.mag n.natAbs:=by
     rw [el]
     rcases hP with ⟨e1,e2⟩ | ⟨e1,e2⟩
     ·rw [e1,e2]
      unfold Nm.mag
      by_cases h0:n.natAbs=0
      ·rw [if_pos h0,h0]
       show Nm.LQ 0++_=_
       rw [Nm.Di]
       rfl
      ·rw [if_neg h0,Nm.Du h0]
     ·have h0:x ≠ 0:=fun z=>hx ⟨z,e1⟩
      rw [← e2,Nm.Du h0,List.append_assoc]
      rfl
    have hl2:(LL ((⟨#[48+x % 10]⟩:Str)++f)).length<=12:=by
     have:=congrArg List.length hd
     rw [List.length_append] at this
     omega
    have hne:LL ((⟨#[48+x % 10]⟩:Str)++f) ≠ []:=by rw [el]; simp
    refine ⟨rfl,⟨_,x / 10,by rw [← ed]; rfl,hl2,.inr ⟨hne,hd⟩⟩,?_⟩
    show (((x:Nat):Int) / 10).toNat+(if LL ((⟨#[48+x % 10]⟩:Str)++f)=[] then 1 else 0)<((x:Nat):Int).toNat+(if LL f=[] then 1 else 0)
    rw [if_neg hne,ed,Int.toNat_natCast,Int.toNat_natCast]
    by_cases hf:LL f=[]
    ·rw [if_pos hf]; omega
    ·rw [if_neg hf]
     have:x ≠ 0:=fun z=>hx ⟨z,hf⟩
     omega
   ·have hf:LL f=Nm.mag n.natAbs:=by
     rcases hP with ⟨e1,_⟩ | ⟨_,e2⟩
     ·exact absurd (decide_eq_true e1) h2
     ·rw [hx0,Nm.Di] at e2
      exact e2
    refine ⟨_,rfl,_,_,rfl,rfl,.inr ⟨_,rfl,_,_,rfl,rfl,Wk _,_,rfl,_,_,rfl,rfl,?_,?_⟩⟩
    ·have h5:(Txt.mul "-" (if decide (n<0)=true then 1 else 0)).length<=1:=by
      by_cases h:n<0
      ·rw [decide_eq_true h]; decide
      ·rw [decide_eq_false h]; decide
     rw [Fy f]
     exact Bu (by omega)
    ·refine q _ ?_
     rw [app_list,hf]
     unfold Nm.wr
     by_cases h:n<0
     ·rw [decide_eq_true h,if_pos h]; rfl
     ·rw [decide_eq_false h,if_neg h]; rfl
theorem Vd {K:PySem.W.Frag}:PySem.W.kitOne K (.type "int") (.type "str")=some false:=by kernel_rfl
noncomputable def XX:Sp:=fun vs H Q _=>∃ (D D2:Addr) (us us2:List V),vs=[.ref D,.ref D2]/\H D=some (.lst us)/\H D2=some (.lst us2)/\Up H us/\Paired (Dp 1 H) us us2/\Q (.bl true) H
theorem Wa:Az ["_law_found","_law_rows","_law_row_here","_law_part"] ["_law_found","_law_rows"] (Ag eE):=Bv
include N T in
theorem YK:BJ P w K mg base Bk 2 aD.fRa aD.dRa ["_law_found","_law_rows"] XX:=by
 have GLw:BJ P w K mg base Bk 1 aD.fLw aD.dLw ["_law_found"] Qz:=Za N T
 refine N.FRa.1.ok Wa (fun vs H Q E h=>?_) (fun cdv A outer s H vs Q E hr h=>?_)
 ·refine byC fun w_=>?_;obtain ⟨D,D2,us,us2,rfl,_⟩:=h;refine w_ ?_
  rfl
 ·refine byC fun w_=>?_;obtain ⟨D,D2,us,us2,rfl,hD,hD2,hk,hdp,q⟩:=h;refine w_ ?_
  have hrLw:Bc 1 _:=hr.mono (by decide)
  refine ⟨_,(Ac (Bh (PW.pt (FQ (Ci (Cg (Av Bo rfl T.isin PyProof.Rows.boot_isinstance (Aa (pv 0) (Aa (CW (v:=.ty "list") rfl T.list PyProof.Rows.boot_list rfl) Ab))))) (Ek (BK (Hh 1 (Nat.lt_of_le_of_lt (Nat.add_le_add_left (by decide:2<=64) _) hr.units)) (pv 0) (pv 1) (BX _))))) (Af (Aw E_)) BZ)
   (Ac (Dg PassesOwn.never rfl (Bq (pv 0)) (Bx (i:=2) Wa.nd rfl (Or.inl rfl)) (Ac (Bh (Ci (Cg (Av Bo rfl T.isin PyProof.Rows.boot_isinstance (Aa (pv 2) (Aa (CW (v:=.ty "tuple") rfl T.tuple PyProof.Rows.boot_tuple rfl) Ab))))) (Af (Aw E_)) BZ)
   (Af (Dg PassesOwn.never rfl (Hv (pv 2)) (Bx (i:=3) Wa.nd rfl (Or.inl rfl)) (Af (Bh (PW.pt (Fi (Ci (Cg (Av Bo rfl T.isin PyProof.Rows.boot_isinstance (Aa (pv 3) (Aa (CW (v:=.ty "str") rfl T.str PyProof.Rows.boot_str rfl) Ab))))) (Fv (Ci (Cg (Ak GLw hrLw rfl N.FLw.2.2 N.FLw.1.kp N.FLw.2.1 .nil A_ (Aa (pv 3) Ab))))))) (Af (Aw E_)) BZ))))))
   (Af (Aw E_)))),?_⟩
  have hS:Cp K H D us:=.inl (.inl hD)
  refine ⟨_,rfl,_,"list",_,_,rfl,.lst hD,RX,_,rfl,Cy ?_⟩
  refine ⟨_,rfl,_,rfl,D,D2,rfl,rfl,.inr ⟨D,D2,_,_,rfl,rfl,.inl ⟨hD,hD2⟩,hdp⟩,_,rfl,Cy ?_⟩
  refine ⟨_,rfl,D,rfl,⟨_,hS⟩,GC (K:=K) (a:=D) (xs:=us) (fun i σ H4=>H4=H/\∃ v1 v2,σ=[some (.ref D),some (.ref D2),v1,v2]) ⟨rfl,_,_,rfl⟩ (fun i σ H4 _ h=>by rw [h.1]; exact hS) ?_ ?_⟩
  ·rintro i x σ H4 hx ⟨rfl,v1,v2,rfl⟩
   refine byC fun w_=>?_;obtain ⟨T0,xs,rfl,hT,hp⟩:=hk x (List.mem_of_getElem? hx);refine w_ ?_
   have hST:Ey K H4 T0 xs:=.inl (.inl hT)
   refine ⟨_,rfl,_,"tuple",_,_,rfl,.tup hT,Vm,_,rfl,Cy ?_⟩
   refine ⟨_,rfl,T0,rfl,⟨_,hST⟩,PJ (K:=K) (a:=T0) (xs:=xs) (fun i σ H5=>H5=H4/\∃ v2,σ=[some (.ref D),some (.ref D2),some (.ref T0),v2]) ⟨rfl,_,rfl⟩ (fun i σ H5 _ h=>by rw [h.1]; exact hST) ?_ ?_⟩
   ·rintro j y σ H5 hy ⟨rfl,v2,rfl⟩
    rcases hp y (List.mem_of_getElem? hy) with ⟨t,rfl⟩ | ⟨n,rfl⟩
    ·exact ⟨_,rfl,_,"str",_,_,rfl,.str t,JG,_,rfl,Cy ⟨rfl,_,rfl⟩⟩
    ·exact ⟨_,rfl,_,"str",_,_,rfl,.int n,Vd,_,rfl,Eo ⟨_,rfl,n,rfl,_,rfl,Cy ⟨rfl,_,rfl⟩⟩⟩
   ·rintro σ H5 ⟨rfl,v2,rfl⟩
    exact ⟨rfl,_,_,rfl⟩
  ·rintro σ H4 ⟨rfl,v1,v2,rfl⟩
   exact q
theorem Vc {c:TT} {t t2 u:TS} {D:Ends} {σ:St} {H:Hp} (P:St->Hp->Prop) (h1:∀ D':Ends,(∀ σ' H',P σ' H'->D'.nx σ' H')->TF c t t2 D' σ H) (h2:∀ σ' H',P σ' H'->u D σ' H'):Vw (TF c t t2) u D σ H:=h1 { D with nx:=u D } h2
noncomputable def Ih (c:Nat) (a:List Nat):List Nat:=if a=[] then a else a++[c]
noncomputable def Qp (a:List Nat) (t:List Nat):List Nat:=Ih 32 a++t
noncomputable def Ve (a:List Nat) (ts:List (List Nat)):List Nat:=ts.foldl Qp (Ih 59 a)
theorem MJ (c:Nat) (a:List Nat):(Ih c a).length<=a.length+1:=by
 unfold Ih
 split
 ·omega
 ·rw [List.length_append]
  exact Nat.le_refl _
theorem KQ:∀ (ts:List (List Nat)) (a:List Nat),a ≠ []->ts.foldl Qp a=a++ts.flatMap (fun t=>32::t)
 | [],a,_=>by rw [List.flatMap_nil,List.append_nil]; rfl
 | t::ts,a,h=>by
  have h2:Qp a t=a++(32::t):=by
   unfold Qp Ih
   rw [if_neg h,List.append_assoc]
   rfl
  rw [List.foldl_cons,KQ ts (Qp a t) (by rw [h2]; simp),h2,List.flatMap_cons,List.append_assoc]
theorem HW (s:List Nat):∀ (t:List Nat) (ts:List (List Nat)),jL s (t::ts)=t++ts.flatMap (fun t=>s++t)
 | t,[]=>by rw [List.flatMap_nil,List.append_nil]; rfl
 | t,q::r=>by
  show t++(s++jL s (q::r))=_
  rw [HW s q r,List.flatMap_cons,List.append_assoc]
theorem TV {ts:List (List Nat)} (h:∀ t∈ts,t ≠ []) (hn:ts ≠ []):Ve [] ts=jL [32] ts:=by
 cases ts with
 | nil=>exact absurd rfl hn
 | cons t ts =>
  have ht:=h t List.mem_cons_self
  show ts.foldl Qp (Qp [] t)=_
  have e:Qp [] t=t:=rfl
  rw [e,KQ ts t ht,HW]
  rfl
theorem V2 {a:List Nat} {ts:List (List Nat)} (ha:a ≠ []) (hn:ts ≠ []):Ve a ts=a++([59,32]++jL [32] ts):=by
 cases ts with
 | nil=>exact absurd rfl hn
 | cons t ts =>
  unfold Ve
  have e:Ih 59 a=a++[59]:=if_neg ha
  rw [e,KQ _ _ (by simp),HW,List.flatMap_cons,List.append_assoc]
  simp
theorem Ow:∀ (rs:List (List (List Nat))) (a:List Nat),a ≠ []->(∀ ts∈rs,ts ≠ [])->rs.foldl Ve a=a++rs.flatMap (fun ts=>[59,32]++jL [32] ts)
 | [],a,_,_=>by rw [List.flatMap_nil,List.append_nil]; rfl
 | ts::rs,a,ha,h=>by
  have e:=V2 ha (h ts List.mem_cons_self)
  rw [List.foldl_cons,Ow rs _ (by rw [e]; simp [ha]) (fun x hx=>h x (List.mem_cons_of_mem _ hx)),e,List.flatMap_cons,List.append_assoc]
theorem Uh {rs:List (List (List Nat))} (h:∀ ts∈rs,ts ≠ []/\∀ t∈ts,t ≠ []):rs.foldl Ve []=jL [59,32] (rs.map (jL [32])):=by
 cases rs with
 | nil=>rfl
 | cons ts rs =>
  have h0:=h ts List.mem_cons_self
  have e:=TV h0.2 h0.1
  have ne:jL [32] ts ≠ []:=by
   cases ts with
   | nil=>exact absurd rfl h0.1
   | cons t ts =>
    rw [HW]
    have:=h0.2 t List.mem_cons_self
    simp [this]
  rw [List.foldl_cons,e,Ow rs _ ne (fun x hx=>(h x (List.mem_cons_of_mem _ hx)).1),List.map_cons,HW,List.flatMap_map]
noncomputable abbrev Tf (xs:List V):List (List Nat):=xs.map fun x=>LL (Fx x)
theorem Px {rows:List R} (ok:Jg rows):LL (Ig (Ib rows))=((Ib rows).map Tf).foldl Ve []:=by
 rw [Uh fun ts hts=>?_]
 ·show (Str.join "; " ((Ib rows).map Dm)).cps.toList=_
  rw [Jd]
  have e:("; " : Str).cps.toList=[59,32]:=by decide +kernel
  rw [e]
  generalize Ib rows=rs
  refine congrArg (jL [59,32]) ?_
  rw [List.map_map,List.map_map]
  refine List.map_congr_left fun r _=>?_
  show (Str.join " " (r.map Fx)).cps.toList=jL [32] (Tf r)
  rw [Jd,List.map_map]
  have e:(" " : Str).cps.toList=[32]:=by decide +kernel
  rw [e]
  rfl
 ·obtain ⟨r,hr,rfl⟩:=List.mem_map.mp hts
  obtain ⟨q,hq,rfl⟩:=List.mem_map.mp hr
  refine ⟨List.cons_ne_nil _ _,fun t ht=>?_⟩
  obtain ⟨x,hx,rfl⟩:=List.mem_map.mp ht
  have:=(Kg ((ok.1 q hq).1 x hx)).1
  intro e
  rw [e] at this
  cases this
theorem J4 {α β:Type} (f:β->α->β) (b:β) {l:List α} {i:Nat} {x:α} (h:l[i]? = some x):(l.take (i+1)).foldl f b=f ((l.take i).foldl f b) x:=by
 rw [List.take_add_one,h,List.foldl_append]
 rfl
noncomputable def Y6 (K:PySem.W.Frag):Sp:=fun vs H Q _=>∃ (D:Addr) (us:List V) (rows:List R),vs=[.ref D]/\H D=some (.lst us)/\Paired (fun (r:R) v=>TupAt H r.v v) rows us/\Jg rows/\Q (.str (Ig (Ib rows))) H
theorem LK:Az ["_law_rows","_law_text_here","_law_row_here","_law_part"] ["_law_rows"] (Ag d9):=Bv
include N T in
theorem Ze:BJ P w K mg base Bk 2 aD.fTx aD.dTx ["_law_rows"] (Y6 K):=by
 have GWr:BJ P w K mg base Bk 1 aD.fWr aD.dWr ["_law_number"] Xk:=Xl N T
 refine N.FTx.1.ok LK (fun vs H Q E h=>?_) (fun cdv A outer s H vs Q E hr h=>?_)
 ·refine byC fun w_=>?_;obtain ⟨D,us,rows,rfl,_⟩:=h;refine w_ ?_
  rfl
 ·refine byC fun w_=>?_;obtain ⟨D,us,rows,rfl,hD,prd,ok,q⟩:=h;refine w_ ?_
  have hrWr:Bc 1 _:=hr.mono (by decide)
  refine ⟨_,(Ac (BP (i:=1) LK.nd rfl (Or.inl rfl) Am)
   (Ac (Dg PassesOwn.never rfl (Bq (pv 0)) (Bx (i:=2) LK.nd rfl (Or.inl rfl)) (Ac (Bh (BK Js (pv 1) Am (BX _)) (Af (BP (i:=1) LK.nd rfl (Or.inl rfl) (BW Cj (pv 1) Am))) BZ)
   (Af (Dg PassesOwn.never rfl (Hv (pv 2)) (Bx (i:=3) LK.nd rfl (Or.inl rfl)) (Ac (Bh (BK Js (pv 1) Am (BX _)) (Af (BP (i:=1) LK.nd rfl (Or.inl rfl) (BW Cj (pv 1) Am))) BZ)
   (Af (Bh (Cg (Av Bo rfl T.isin PyProof.Rows.boot_isinstance (Aa (pv 3) (Aa (CW (v:=.ty "str") rfl T.str PyProof.Rows.boot_str rfl) Ab)))) (Af (BP (i:=1) LK.nd rfl (Or.inl rfl) (BW Cj (pv 1) (pv 3)))) (Af (BP (i:=1) LK.nd rfl (Or.inl rfl) (BW Cj (pv 1) (Ak GWr hrWr rfl N.FWr.2.2 N.FWr.1.kp N.FWr.2.1 .nil A_ (Aa (pv 3) Ab))))))))))))
   (Af (Aw (pv 1))))),?_⟩
  have hS:Cp K H D us:=.inl (.inl hD)
  have lus:us.length=rows.length:=prd.length.symm
  have l150:=ok.2
  refine ⟨_,rfl,D,rfl,⟨_,hS⟩,GC (K:=K) (a:=D) (xs:=us) (fun i σ H4=>H4=H/\∃ (z:Str) (v2 v3:Option V),LL z=(((Ib rows).map Tf).take i).foldl Ve []/\(LL z).length<=600 * i/\σ=[some (.ref D),some (.str z),v2,v3]) ⟨rfl,"",_,_,rfl,Nat.le_refl _,rfl⟩ (fun i σ H4 _ h=>by rw [h.1]; exact hS) ?_ ?_⟩
  ·rintro i x σ H4 hx ⟨rfl,z,v2,v3,hz,hzl,rfl⟩
   have hi:=(List.getElem?_eq_some_iff.mp hx).1
   obtain ⟨r,hr⟩:∃ r,rows[i]? = some r:=⟨_,List.getElem?_eq_getElem (by omega)⟩
   refine byC fun w_=>?_;obtain ⟨v,hv,T0,rfl,hT⟩:=Br prd hr;refine w_ ?_
   obtain rfl:=Option.some.inj (hx.symm.trans hv)
   have Ul:=ok.1 r (List.mem_of_getElem? hr)
   have hST:Ey K H4 T0 r.v:=.inl (.inl hT)
   have hri:((Ib rows).map Tf)[i]? = some (Tf r.v):=by rw [List.getElem?_map,List.getElem?_map,hr]; rfl
   refine Vc (fun σ' H'=>H'=H4/\∃ z':Str,LL z'=Ih 59 (LL z)/\σ'=[some (.ref D),some (.str z'),some (.ref T0),v3]) (fun D' hD'=>?_) ?_
   ·refine ⟨_,rfl,rfl,_,rfl,?_⟩
    rw [eY]
    refine CV (fun g=>?_) (fun g=>?_)
    ·have g':¬ LL z=[]:=fun e=>by rw [decide_eq_true e] at g; cases g
     refine ⟨_,rfl,_,_,rfl,rfl,?_,hD' _ _ ⟨rfl,_,?_,rfl⟩⟩
     ·rw [Fy z]
      exact Nat.le_trans (show (LL z).length+1<=100000 by omega) (by show 100000<=sizeLine; decide)
     ·unfold Ih
      rw [if_neg g',app_list]
      rfl
    ·have g':LL z=[]:=Decidable.byContradiction fun e=>g (by rw [decide_eq_false e]; rfl)
     exact hD' _ _ ⟨rfl,z,by unfold Ih; rw [if_pos g'],rfl⟩
   rintro σ' H' ⟨rfl,z',hz',rfl⟩
   have hl':=MJ 59 (LL z)
   rw [← hz'] at hl'
   have l30:=Ul.2
   refine ⟨_,rfl,T0,rfl,⟨_,hST⟩,PJ (K:=K) (a:=T0) (xs:=r.v) (fun j σ H5=>H5=H'/\∃ (y:Str) (v3:Option V),LL y=((Tf r.v).take j).foldl Qp (LL z')/\(LL y).length<=600 * i+1+15 * j/\σ=[some (.ref D),some (.str y),some (.ref T0),v3]) ⟨rfl,z',_,rfl,by omega,rfl⟩ (fun j σ H5 _ h=>by rw [h.1]; exact hST) ?_ ?_⟩
   ·rintro j p σ H5 hp ⟨rfl,y,v3,hy,hyl,rfl⟩
    have hj:=(List.getElem?_eq_some_iff.mp hp).1
    have a_:=Ul.1 p (List.mem_of_getElem? hp)
    have hpj:(Tf r.v)[j]? = some (LL (Fx p)):=by rw [List.getElem?_map,hp]; rfl
    have tl:=Kg a_
    refine Vc (fun σ' H'=>H'=H5/\∃ y':Str,LL y'=Ih 32 (LL y)/\σ'=[some (.ref D),some (.str y'),some (.ref T0),some p]) (fun D' hD'=>?_) ?_
    ·refine ⟨_,rfl,rfl,_,rfl,?_⟩
     rw [eY]
     refine CV (fun g=>?_) (fun g=>?_)
     ·have g':¬ LL y=[]:=fun e=>by rw [decide_eq_true e] at g; cases g
      refine ⟨_,rfl,_,_,rfl,rfl,?_,hD' _ _ ⟨rfl,_,?_,rfl⟩⟩
      ·rw [Fy y]
       exact Nat.le_trans (show (LL y).length+1<=100000 by omega) (by show 100000<=sizeLine; decide)
      ·unfold Ih
       rw [if_neg g',app_list]
       rfl
     ·have g':LL y=[]:=Decidable.byContradiction fun e=>g (by rw [decide_eq_false e]; rfl)
      exact hD' _ _ ⟨rfl,y,by unfold Ih; rw [if_pos g'],rfl⟩
    rintro σ' H' ⟨rfl,y',hy',rfl⟩
    have ly:=MJ 32 (LL y)
    rw [← hy'] at ly
    have fin:∀ t:Str,LL t=LL (Fx p)->LL (y'++t)=((Tf r.v).take (j+1)).foldl Qp (LL z')/\(LL (y'++t)).length<=600 * i+1+15 * (j+1)/\y'.length+t.length<=sizeLine:=fun t ht=>by
     have e:LL (y'++t)=((Tf r.v).take (j+1)).foldl Qp (LL z'):=by
      rw [J4 Qp _ hpj,← hy,app_list,ht,hy']
      rfl
     refine ⟨e,?_,?_⟩
     ·rw [app_list,List.length_append,ht]
      omega
     ·rw [Fy y',Fy t,ht]
      exact Nat.le_trans (show (LL y').length+(LL (Fx p)).length<=100000 by omega) (by show 100000<=sizeLine; decide)
    rcases a_ with ⟨t,rfl,hn⟩ | ⟨n,rfl,hn⟩
    ·obtain ⟨f1,f2,f3⟩:=fin t rfl
     exact ⟨_,rfl,_,"str",_,_,rfl,.str t,JG,_,rfl,Eo ⟨_,rfl,_,rfl,_,_,rfl,rfl,f3,rfl,_,_,f1,f2,rfl⟩⟩
    ·refine ⟨_,rfl,_,"str",_,_,rfl,.int n,Vd,_,rfl,Cy ?_⟩
     refine ⟨_,rfl,_,rfl,n,rfl,hn,fun t ht=>?_⟩
     obtain ⟨f1,f2,f3⟩:=fin t (ht.trans (str_int n).symm)
     exact ⟨_,_,rfl,rfl,f3,rfl,_,_,f1,f2,rfl⟩
   ·rintro σ H5 ⟨rfl,y,v3,hy,hyl,rfl⟩
    refine ⟨rfl,y,_,_,?_,by omega,rfl⟩
    rw [J4 Ve _ hri,← hz,hy,hz',List.take_of_length_le (by rw [List.length_map]; exact Nat.le_refl _)]
    rfl
  ·rintro σ H4 ⟨rfl,z,v2,v3,hz,_,rfl⟩
   have e:z=Ig (Ib rows):=Mx (by rw [hz,Px ok,List.take_of_length_le (by rw [List.length_map,List.length_map]; omega)])
   rw [← e] at q
   exact ⟨_,rfl,q⟩
noncomputable def PL (K:PySem.W.Frag):Sp:=fun vs H Q _=>∃ (a:Addr) (ns:List Int),vs=[.ref a]/\Cp K H a (ns.map V.int)/\ns.length<=63/\∀ H',Q (.bl true) H'
theorem Hj.parts {K:PySem.W.Frag} {aB aP aM:Addr} {H0 H:Hp} {A:Ji} {S:Pl} {Cs:List Addr} (h:Hj K aB aP aM H0 H A S Cs):∀ r∈S.rows,∀ x∈r.v,Su x:=by
 obtain ⟨bb,lo,hbb,k⟩:=h.k
 exact k.bl.parts
theorem Hj.Ul {K:PySem.W.Frag} {aB aP aM:Addr} {H0 H:Hp} {A:Ji} {S:Pl} {Cs:List Addr} (h:Hj K aB aP aM H0 H A S Cs):Jg S.rows:=by
 obtain ⟨bb,lo,hbb,k⟩:=h.k
 exact ⟨k.bl.a_,by have:=h.l; omega⟩
theorem Hj.ne {K:PySem.W.Frag} {aB aP aM:Addr} {H0 H:Hp} {A:Ji} {S:Pl} {Cs:List Addr} (h:Hj K aB aP aM H0 H A S Cs):S.rows ≠ []:=fun e=>by
 obtain ⟨bb,lo,hbb,k⟩:=h.k
 have O:=k.bl.ok (fun _=>⟨"","",[]⟩) [] (by rw [e]; rfl)
 have eb:=O.eb
 have:S.bs.length=0:=by have:=congrArg List.length eb; simpa using this.symm
 have:=h.b1
 omega
theorem Hj.fin {K:PySem.W.Frag} {aB aP aM:Addr} {H0 H:Hp} {A:Ji} {S:Pl} {Cs:List Addr} (h:Hj K aB aP aM H0 H A S Cs):Xj K aB aP aM S.rows S.bs S.rk S.ks S.ls (S.ch.map Wd.mk):=fun H vs hv=>by
 obtain ⟨bb,lo,hbb,k⟩:=h.k
 have:=h.l
 have:=k.lk
 exact k.bl.fin hv h.b1 k.b5 (fun b hb=>(k.sb b hb).2) k.r12 (fun r hr=>(k.sr r hr).2) (by omega) k.db k.dr k.dk (by omega)
theorem J_:Az ["_law_script","_law_plan_here","_law_rows","_law_text_here","_law_found","_law_organ"] ["_law_script"] (Ag K7):=Bv
theorem Vv {f:Addr} {fd:FuncData} (F:DK K "law" "law" K7 f fd) (N:bY K mg C aD) (T:Txt K w.params mg C aN aK aB aP aM) (F0:Z_ K aB aP aM):BJ P w K mg base Bk 12 f fd ["_law_script"] (PL K):=by
 have GLp:BJ P w K mg base Bk 4 aD.fLp aD.dLp ["_law_script","_law_start"] (ZX K aB aP aM):=ZQ N T
 have GTx:BJ P w K mg base Bk 2 aD.fTx aD.dTx ["_law_rows"] (Y6 K):=Ze N T
 have GOi:BJ P w K mg base Bk 9 aD.fOi aD.dOi ["self","rows"] (WW K aB aP aM C):=U7 N T
 have GSg:BJ P w K mg base Bk 2 aD.fSg aD.dSg ["organ"] (Yy K C):=X4 N T
 have GRg:BJ P w K mg base Bk 11 aD.fRg aD.dRg ["text"] (Xe K aB aP aM C):=XJ N T
 have GOw:BJ P w K mg base Bk 1 aD.fOw aD.dOw ["self"] (Wn C):=VJ N T
 have GRa:BJ P w K mg base Bk 2 aD.fRa aD.dRa ["_law_found","_law_rows"] XX:=YK N T
 have GOz:BJ P w K mg base Bk 1 aD.fOz aD.dOz ["self"] (W0 C):=Xp N T
 have GOb:BJ P w K mg base Bk 1 aD.fOb aD.dOb ["self"] (XS C):=Zd N T
 have GOr:BJ P w K mg base Bk 1 aD.fOr aD.dOr ["self"] (Yr C):=ZV N T
 refine F.ok J_ (fun vs H Q E h=>?_) (fun cdv A outer s H vs Q E hr h=>?_)
 ·obtain ⟨a,ns,rfl,_⟩:=h
  rfl
 ·refine byC fun w_=>?_;obtain ⟨a,ns,rfl,hS,hlen,q⟩:=h;refine w_ ?_
  have hrLp:Bc 4 _:=hr.mono (by decide)
  have hrTx:Bc 2 _:=hr.mono (by decide)
  have hrOi:Bc 10 _:=hr.mono (by decide)
  have hrSg:Bc 2 _:=hr.mono (by decide)
  have hrRg:Bc 11 _:=hr.mono (by decide)
  have hrOw:Bc 1 _:=hr.mono (by decide)
  have hrRa:Bc 2 _:=hr.mono (by decide)
  have hrOz:Bc 1 _:=hr.mono (by decide)
  have hrOb:Bc 1 _:=hr.mono (by decide)
  have hrOr:Bc 1 _:=hr.mono (by decide)
  have hu:=Fd hr
  refine ⟨_,(Ac (BP (i:=1) J_.nd rfl (Or.inl rfl) (Ak GLp hrLp rfl N.FLp.2.2 N.FLp.1.kp N.FLp.2.1 .nil A_ (Aa (pv 0) (Aa Ae Ab))))
   (Ac (BP (i:=2) J_.nd rfl (Or.inl rfl) (Ba hu (pv 1) Am (fun _ _=>rfl)))
   (Ac (BP (i:=3) J_.nd rfl (Or.inl rfl) (Ak GTx hrTx rfl N.FTx.2.2 N.FTx.1.kp N.FTx.2.1 .nil A_ (Aa (pv 2) Ab)))
   (Ac (BP (i:=4) J_.nd rfl (Or.inl rfl) (Ak GSg hrSg rfl N.FSg.2.2 N.FSg.1.kp N.FSg.2.1 .nil A_ (Aa (O1 N.FOi.2.2 GOi hrOi rfl T.mC N.FOi.2.1 .nil A_ (Aa (Ce Dl rfl T.list PyProof.Rows.boot_list (Aa (pv 2) Ab)) Ab)) Ab)))
   (Ac (Bh (PW.pt (FQ (Ci (Cg (Av Bo rfl T.isin PyProof.Rows.boot_isinstance (Aa (pv 4) (Aa (CW (v:=.ty "str") rfl T.str PyProof.Rows.boot_str rfl) Ab))))) (Ek (BK Js (pv 4) (pv 3) (BX _))))) (Af (Aw E_)) BZ)
   (Ac (BP (i:=5) J_.nd rfl (Or.inl rfl) (Ak GRg hrRg rfl N.FRg.2.2 N.FRg.1.kp N.FRg.2.1 .nil A_ (Aa (pv 3) Ab)))
   (Ac (Bh (PW.pt (FQ (Ci (Cg (Av Nv rfl T.isin PyProof.Rows.boot_isinstance (Aa (pv 5) (Aa (CP (v:=.ref C) rfl T.mC rfl) Ab))))) (Ek (Ci (Cg (Ak GRa hrRa rfl N.FRa.2.2 N.FRa.1.kp N.FRa.2.1 .nil A_ (Aa (GD (pv 5) T.cl N.FOw.2.2 GOw hrOw N.FOw.2.1 .nil A_) (Aa (pv 2) Ab)))))))) (Af (Aw E_)) BZ)
   (Ac (Bh (PW.pt (FQ (BK (Hh 1 (Nat.lt_of_le_of_lt (Nat.add_le_add_left (by decide:2<=64) _) hr.units)) (GD (pv 5) T.cl N.FOz.2.2 GOz hrOz N.FOz.2.1 .nil A_) (Ba hu (pv 1) Am (fun _ _=>rfl)) (BX _)) (FQ (BK (Hh 1 (Nat.lt_of_le_of_lt (Nat.add_le_add_left (by decide:2<=64) _) hr.units)) (GD (pv 5) T.cl N.FOb.2.2 GOb hrOb N.FOb.2.1 .nil A_) (Ba hu (pv 1) Am (fun _ _=>rfl)) (BX _)) (Ek (BK (Hh 1 (Nat.lt_of_le_of_lt (Nat.add_le_add_left (by decide:2<=64) _) hr.units)) (GD (pv 5) T.cl N.FOr.2.2 GOr hrOr N.FOr.2.1 .nil A_) (Ba hu (pv 1) Am (fun _ _=>rfl)) (BX _)))))) (Af (Aw E_)) BZ)
   (Af (Aw (Dy DP (Ak GSg hrSg rfl N.FSg.2.2 N.FSg.1.kp N.FSg.2.1 .nil A_ (Aa (pv 5) Ab)) (pv 3) (BX _)))))))))))),?_⟩
  refine ⟨_,rfl,a,2,ns,rfl,hS,by omega,F0,fun A S Cs H1 P1=>?_⟩
  obtain ⟨lo,hA⟩:=P1.h
  refine byC fun w_=>?_;obtain ⟨kvs,g1,g2,y1,y2,y3,y4,_⟩:=hA.dp;refine w_ ?_
  obtain ⟨vr,r1,r2⟩:=hA.r
  have Ul:=P1.Ul
  have gr:=B_.k (k:=Sum.inr "rows") g1
  rw [y1] at gr
  refine ⟨_,rfl,A.p,_,rfl,gr,?_⟩
  refine ⟨_,rfl,A.r,vr,S.rows,rfl,r1,r2,Ul,?_⟩
  refine ⟨_,rfl,A.r,vr,rfl,.inl (.inl (.inl r1)),fun L hL=>?_⟩
  obtain ⟨H2,eqH,s2,l2⟩:=FJ (o:=HO.lst vr) hL
  rw [eqH]
  have t2:=Aj s2 r2
  obtain ⟨R2,O2,eL,eS⟩:=P1.fin H2 vr t2
  intro x dx nx ndx nex
  have sx:Ao H2 (upd (upd H2 dx (.own x)) x (.ins C dx [])):=fun b o e=>by
   rw [An (Al e nx),An (Al e ndx)]
   exact e
  refine ⟨x,dx,L,vr,Jh H2,S.bs,S.rk,S.ks,rfl,Ah,sx _ _ l2,R2.mono sx,O2,fun H3 OA keyA SXh=>⟨rfl,?_⟩⟩
  rw [eL,eS] at OA
  have s23:Ao H2 H3:=fun b o e=>SXh b o (sx b o e) (Al e nx)
  clear SXh sx nx ndx nex R2 O2 keyA
  have t3:=Aj s23 t2
  refine ⟨x,vr,S.bs,S.rk,S.ks,S.ls,_,S.rows,rfl,OA,t3,Ul,fun H4 s34=>?_⟩
  refine ⟨_,rfl,_,"str",_,_,rfl,.str _,JG,_,rfl,Cy ?_⟩
  refine ⟨_,rfl,_,rfl,rfl,_,rfl,?_⟩
  rw [decide_eq_true (rfl:V.str (Ig (Ib S.rows))=V.str (Ig (Ib S.rows)))]
  refine Cy ?_
  have s14:=s2.trans (s23.trans s34)
  refine ⟨_,rfl,S.rows,S.bs,S.rk,S.ks,S.ls,_,rfl,P1.fin,Ul,P1.ne,fun x2 us2 H5 s5 OX prd=>?_⟩
  have s15:=s14.trans s5
  refine byC fun w_=>?_;obtain ⟨⟨⟨dx5,fs5,_,_,_,_,_,_,_,_,hx5,_,_,_,_,lm5,_⟩,_⟩,_⟩:=id OX.o;refine w_ ?_
  refine ⟨_,rfl,_,_,C,_,rfl,.ins hx5 T.cl T.clI.ha T.clI.hn T.clI.ht T.clI.hm,T.clI.k0,_,rfl,Cy ?_⟩
  refine ⟨_,rfl,x2,dx5,fs5,rfl,hx5,lm5 _ (by decide +kernel),x2,us2,_,_,_,_,_,rfl,OX,fun D6 H6 hD6 s6 l6=>?_⟩
  have s16:=s15.trans s6
  have prd6:=Aj s6 prd
  refine ⟨_,rfl,D6,A.r,us2,vr,rfl,l6,s16 _ _ r1,Up.of prd6 P1.parts,GX prd6 (Aj s16 r2) P1.parts,_,rfl,Cy ?_⟩
  have OX6:=OX.mono s6
  obtain ⟨vb,b1,b2⟩:=hA.b
  obtain ⟨vk,c1,c2⟩:=hA.k
  obtain ⟨vn,n1,n2⟩:=hA.n
  have k2:∀ b∈S.bs,∀ z∈bV b,Su z:=fun b _ z hz=>by
   simp only [List.mem_cons,List.mem_singleton,List.not_mem_nil,or_false] at hz
   rcases hz with rfl | rfl
   ·exact .inl ⟨_,rfl⟩
   ·exact .inr ⟨_,rfl⟩
  have k3:∀ b∈S.rk,∀ z∈Yc b,Su z:=fun b _ z hz=>by
   simp only [List.mem_cons,List.mem_singleton,List.not_mem_nil,or_false] at hz
   rcases hz with rfl | rfl | rfl
   ·exact .inl ⟨_,rfl⟩
   ·exact .inr ⟨_,rfl⟩
   ·exact .inr ⟨_,rfl⟩
  have k4:∀ b∈S.ks,∀ z∈U8 b,Su z:=fun b _ z hz=>by
   simp only [List.mem_cons,List.mem_singleton,List.not_mem_nil,or_false] at hz
   rcases hz with rfl | rfl
   ·exact .inl ⟨_,rfl⟩
   ·exact .inl ⟨_,rfl⟩
  refine ⟨_,rfl,x2,dx5,fs5,rfl,s6 _ _ hx5,lm5 _ (by decide +kernel),x2,_,_,rfl,OX6.o.o,fun D7 nvs H7 hD7 s7 l7 p7=>?_⟩
  have s17:=s16.trans s7
  have gn:=B_.k (k:=Sum.inr "knobs") (s17 _ _ g1)
  rw [y4] at gn
  refine ⟨_,rfl,A.p,_,rfl,gn,D7,A.n,rfl,rfl,.inr ⟨D7,A.n,_,_,rfl,rfl,.inl ⟨l7,s17 _ _ n1⟩,GX (f:=U8) p7 (Aj s17 n2) k4⟩,_,rfl,Cy ?_⟩
  have s57:=s6.trans s7
  have OX7:=OX.mono s57
  refine ⟨_,rfl,x2,dx5,fs5,rfl,s57 _ _ hx5,lm5 _ (by decide +kernel),x2,_,_,rfl,OX7.o.o,fun D8 bvs H8 hD8 s8 l8 p8=>?_⟩
  have s18:=s17.trans s8
  have gb:=B_.k (k:=Sum.inr "boards") (s18 _ _ g1)
  rw [y2] at gb
  refine ⟨_,rfl,A.p,_,rfl,gb,D8,A.b,rfl,rfl,.inr ⟨D8,A.b,_,_,rfl,rfl,.inl ⟨l8,s18 _ _ b1⟩,GX p8 (Aj s18 b2) k2⟩,_,rfl,Cy ?_⟩
  have s58:=s57.trans s8
  have OX8:=OX.mono s58
  refine ⟨_,rfl,x2,dx5,fs5,rfl,s58 _ _ hx5,lm5 _ (by decide +kernel),x2,_,_,_,_,rfl,OX8.o,fun D9 rvs H9 hD9 s9 l9 p9=>?_⟩
  have s19:=s18.trans s9
  have gk:=B_.k (k:=Sum.inr "ranks") (s19 _ _ g1)
  rw [y3] at gk
  refine ⟨_,rfl,A.p,_,rfl,gk,D9,A.k,rfl,rfl,.inr ⟨D9,A.k,_,_,rfl,rfl,.inl ⟨l9,s19 _ _ c1⟩,GX (f:=Yc) (Ds VN p9) (Aj s19 c2) k3⟩,_,rfl,Cy ?_⟩
  have s59:=s58.trans s9
  refine ⟨_,rfl,x2,us2,S.bs,S.rk,S.ks,S.ls,_,S.rows,rfl,OX.mono s59,Aj s59 prd,Ul,fun H10 s10=>?_⟩
  refine ⟨_,rfl,rfl,?_⟩
  rw [decide_eq_true (rfl:V.str (Ig (Ib S.rows))=V.str (Ig (Ib S.rows)))]
  exact q H10
end
end K12
end PartK12a
section PartK12z
set_option maxHeartbeats 4000000
theorem UL1 {α:Type} {us:List α} (h:us.length=1):∃ a,us=[a]:=match us,h with | [a],_=>⟨a,rfl⟩
theorem UL2 {α:Type} {us:List α} (h:us.length=2):∃ a b,us=[a,b]:=match us,h with | [a,b],_=>⟨a,b,rfl⟩
theorem UL3 {α:Type} {us:List α} (h:us.length=3):∃ a b c,us=[a,b,c]:=match us,h with | [a,b,c],_=>⟨a,b,c,rfl⟩
theorem UL4 {α:Type} {us:List α} (h:us.length=4):∃ a b c d,us=[a,b,c,d]:=match us,h with | [a,b,c,d],_=>⟨a,b,c,d,rfl⟩
theorem UL5 {α:Type} {us:List α} (h:us.length=5):∃ a b c d e,us=[a,b,c,d,e]:=match us,h with | [a,b,c,d,e],_=>⟨a,b,c,d,e,rfl⟩
namespace K12
open PySem L2 Og
section
variable {K:W.Frag}
noncomputable abbrev DA (K:W.Frag) (x:Str) (st:Stmt) (f:Addr):Prop:=W.nsIn K mainGlobals x=some (some (.ref f))/\∃ fd,DK K x x st f fd
noncomputable abbrev MA (K:W.Frag) (C:Addr) (x q:Str) (st:Stmt) (f:Addr):Prop:=W.findIn K (.ref C) x=some (some (.ref f))/\W.isFn K (.ref f)=true/\∃ fd,DK K x q st f fd
theorem Eb {x q:Str} {st:Stmt} {f:Addr} {fd:FuncData} {ps:List Str} (F:DK K x q st f fd) (hl:ps.length=1:=by rfl) (h:∀ (kV doc pm:Value) (an:Option Addr) (cdv ct:Value) (u:Value),bindArgs (W.fnOf x q (Ea st) (Dw st) (Ag st) .none kV doc pm an cdv ct) ⟨[u],[]⟩=pure (ps.zip [u]):=by intros; rfl):Binds K fd ps []:=F.binds fun kV doc pm an cdv ct us hu=>by obtain ⟨u,rfl⟩:=UL1 (hu.trans hl); exact h kV doc pm an cdv ct u
theorem Em {x q:Str} {st:Stmt} {f:Addr} {fd:FuncData} {ps:List Str} (F:DK K x q st f fd) (hl:ps.length=2:=by rfl) (h:∀ (kV doc pm:Value) (an:Option Addr) (cdv ct:Value) (u v:Value),bindArgs (W.fnOf x q (Ea st) (Dw st) (Ag st) .none kV doc pm an cdv ct) ⟨[u,v],[]⟩=pure (ps.zip [u,v]):=by intros; rfl):Binds K fd ps []:=F.binds fun kV doc pm an cdv ct us hu=>by obtain ⟨u,v,rfl⟩:=UL2 (hu.trans hl); exact h kV doc pm an cdv ct u v
theorem Jj {x q:Str} {st:Stmt} {f:Addr} {fd:FuncData} {ps:List Str} (F:DK K x q st f fd) (hl:ps.length=3:=by rfl) (h:∀ (kV doc pm:Value) (an:Option Addr) (cdv ct:Value) (u v a:Value),bindArgs (W.fnOf x q (Ea st) (Dw st) (Ag st) .none kV doc pm an cdv ct) ⟨[u,v,a],[]⟩=pure (ps.zip [u,v,a]):=by intros; rfl):Binds K fd ps []:=F.binds fun kV doc pm an cdv ct us hu=>by obtain ⟨u,v,a,rfl⟩:=UL3 (hu.trans hl); exact h kV doc pm an cdv ct u v a
end
theorem V4 {l:W.OpenLaw} {w:World} {K:W.Frag} {h:Heap} {mg:Str->Option Value} {fa:Addr} (X:K.In h) (G:h.Ns mainGlobals mg) (hfa:mg "law" = some (.ref fa))
  {C aN aK aB aP aM p1 p2 p3 p4 p5 p6 b1 b2 b3 b4 b5 b6 b7 fWh fMd fNm fRo fTo fWi fPa fHp fCl fIk fSb fIs fWm fHr fIr fCk fNu fPl fLi fSs fMy fSt fIn fNo fRp fRr fRg fSr fSg fCe fLw fMi fNn fBb fMa fLb fLk fLs fLl fLc fLt fLr fLp fWr fTx fRa fOi fOb fBk fOp fOw fOr fOs fOm fOy fOz fZ:Addr} {odZ anZ:Option Addr} {slZ:Array (Option Value)} {ocZ kVZ dcZ pmZ cdZ ctZ:Value}
  {tLET tML tMR tMLn tMB tFIG tMF tm1 tm2 tm3 tm4 tm5 tm6 ttN_0 ttN_1 ttN_2 ttN_3 ttN_4 ttK_0 ttK_1 ttK_2 ttp1_0 ttp1_1 ttp2_0 ttp2_1 ttp3_0 ttp3_1 ttp4_0 ttp4_1 ttp4_2 ttp4_3 ttp5_0 ttp5_1 ttp5_2 ttp6_0 ttp6_1 ttp6_2 ttp6_3 ttb1_0 ttb1_1 ttb2_0 ttb2_1 ttb3_0 ttb3_1 ttb4_0 ttb4_1 ttb5_0 ttb5_1 ttb6_0 ttb6_1 ttb7_0 ttb7_1:Tok} {od_N od_K od_p1 od_p2 od_p3 od_p4 od_p5 od_p6 od_b1 od_b2 od_b3 od_b4 od_b5 od_b6 od_b7:Option Addr} {sl_N sl_K sl_p1 sl_p2 sl_p3 sl_p4 sl_p5 sl_p6 sl_b1 sl_b2 sl_b3 sl_b4 sl_b5 sl_b6 sl_b7:Array (Option Value)} {n_N n_K n_p1 n_p2 n_p3 n_p4 n_p5 n_p6 n_b1 n_b2 n_b3 n_b4 n_b5 n_b6 n_b7 nB nP nM:Nat} {eB eP eM:Array DictEntry}
  (FWh:DA K "is_whole" dI fWh)
  (FMd:DA K "is_made_of" X_ fMd)
  (FNm:DA K "is_name" fO fNm)
  (FRo:DA K "rows_of" aO fRo)
  (FTo:DA K "is_told" aG fTo)
  (FWi:DA K "is_within" dF fWi)
  (FPa:DA K "is_part" aj fPa)
  (FHp:DA K "has_parts" aY fHp)
  (FCl:DA K "count_of_last_lines" cO fCl)
  (FIk:DA K "is_key_of" au fIk)
  (FSb:DA K "stands_behind_stop" bu fSb)
  (FIs:DA K "is_step" aW fIs)
  (FWm:DA K "is_well_made" bD fWm)
  (FHr:DA K "has_room" cU fHr)
  (FIr:DA K "is_row" cL fIr)
  (FCk:DA K "check_rows" cD fCk)
  (FNu:DA K "numbers_of" eU fNu)
  (FPl:DA K "places_of" az fPl)
  (FLi:DA K "lines_by_knob" cP fLi)
  (FSs:DA K "set_of_step" aU fSs)
  (FMy:DA K "may_be_member" eF fMy)
  (FSt:DA K "set_of" aQ fSt)
  (FIn:DA K "is_number" bJ fIn)
  (FNo:DA K "number_of" dW fNo)
  (FRp:DA K "read_part" du fRp)
  (FRr:DA K "read_row" Z9 fRr)
  (FRg:DA K "read_organ" Z6 fRg)
  (FSr:DA K "show_row" aR fSr)
  (FSg:DA K "show_organ" aX fSg)
  (FCe:DA K "_law_cell_at" bz fCe)
  (FLw:DA K "_law_whole" cg fLw)
  (FMi:DA K "_law_mix" bU fMi)
  (FNn:DA K "_law_name" eN fNn)
  (FBb:DA K "_law_base" cH fBb)
  (FMa:DA K "_law_many" ao fMa)
  (FLb:DA K "_law_board" dN fLb)
  (FLk:DA K "_law_rank" fM fLk)
  (FLs:DA K "_law_stop" cG fLs)
  (FLl:DA K "_law_line" bh fLl)
  (FLc:DA K "_law_coupler" dZ fLc)
  (FLt:DA K "_law_step" Zk fLt)
  (FLr:DA K "_law_row" dR fLr)
  (FLp:DA K "_law_plan" cN fLp)
  (FWr:DA K "_law_written" dO fWr)
  (FTx:DA K "_law_text" d9 fTx)
  (FRa:DA K "_law_rows_are" eE fRa)
  (aZ:W.nsIn K mainGlobals "law" = some (some (.ref fZ)))
  (lZ:K.lookup fZ=some ⟨ocZ,odZ,.func (W.fnOf "law" "law" (Ea K7) (Dw K7) (Ag K7) .none kVZ dcZ pmZ anZ cdZ ctZ),slZ⟩) (cZ:W.codeIn K cdZ "law" = true) (kZ:W.keepIn K (.ref fZ)=true)
  (aC:W.nsIn K mainGlobals "Organ" = some (some (.ref C)))
  (FOi:MA K C "__init__" "Organ.__init__" S7 fOi)
  (FOb:MA K C "boards" "Organ.boards" fJ fOb)
  (FBk:MA K C "board_of_knob" "Organ.board_of_knob" gq fBk)
  (FOp:MA K C "coupler" "Organ.coupler" gJ fOp)
  (FOw:MA K C "rows" "Organ.rows" d_ fOw)
  (FOr:MA K C "ranks" "Organ.ranks" bc fOr)
  (FOs:MA K C "stop" "Organ.stop" gj fOs)
  (FOm:MA K C "mute" "Organ.mute" gF fOm)
  (FOy:MA K C "steps" "Organ.steps" gR fOy)
  (FOz:MA K C "knobs" "Organ.knobs" aJ fOz)
  (pg:W.plainGet K C Str.empty=true)
  (hd:W.hasDictIn K C=true)
  (po:W.plainOver K C=true)
  (sa:W.findIn K (.ref C) "__setattr__" = some (some (.builtin "object.__setattr__")))
  (mkC:W.makesIn K C=true)
  (kc:W.keepIn K (.ref C)=true)
  (n_row_list_:W.findIn K (.ref C) "row_list" = some none)
  (n_board_list_:W.findIn K (.ref C) "board_list" = some none)
  (n_rank_list_:W.findIn K (.ref C) "rank_list" = some none)
  (n_knob_rows_:W.findIn K (.ref C) "knob_rows" = some none)
  (n_board_numbers_:W.findIn K (.ref C) "board_numbers" = some none)
  (n_rank_numbers_:W.findIn K (.ref C) "rank_numbers" = some none)
  (n_knob_numbers_:W.findIn K (.ref C) "knob_numbers" = some none)
  (n_key_places_:W.findIn K (.ref C) "key_places" = some none)
  (n_pipe_places_:W.findIn K (.ref C) "pipe_places" = some none)
  (n_knob_lines_:W.findIn K (.ref C) "knob_lines" = some none)
  (n_step_sets_:W.findIn K (.ref C) "step_sets" = some none)
  (zlen:W.nsIn K mainGlobals "len" = some none)
  (zisinstance:W.nsIn K mainGlobals "isinstance" = some none)
  (zint:W.nsIn K mainGlobals "int" = some none)
  (zbool:W.nsIn K mainGlobals "bool" = some none)
  (zstr:W.nsIn K mainGlobals "str" = some none)
  (zlist:W.nsIn K mainGlobals "list" = some none)
  (ztuple:W.nsIn K mainGlobals "tuple" = some none)
  (zall:W.nsIn K mainGlobals "all" = some none)
  (zany:W.nsIn K mainGlobals "any" = some none)
  (zsum:W.nsIn K mainGlobals "sum" = some none)
  (zrange:W.nsIn K mainGlobals "range" = some none)
  (zzip:W.nsIn K mainGlobals "zip" = some none)
  (zenumerate:W.nsIn K mainGlobals "enumerate" = some none)
  (zmax:W.nsIn K mainGlobals "max" = some none)
  (zreversed:W.nsIn K mainGlobals "reversed" = some none)
  (zset:W.nsIn K mainGlobals "set" = some none)
  (zabs:W.nsIn K mainGlobals "abs" = some none)
  (zLET:W.nsIn K mainGlobals "LETTERS" = some (some (.str letters tLET)))
  (zML:W.nsIn K mainGlobals "MOST_LETTERS" = some (some (.int 8 tML)))
  (zMR:W.nsIn K mainGlobals "MOST_ROWS" = some (some (.int 150 tMR)))
  (zMLn:W.nsIn K mainGlobals "MOST_LINES" = some (some (.int 4 tMLn)))
  (zFIG:W.nsIn K mainGlobals "FIGURES" = some (some (.str Ku tFIG)))
  (zMF:W.nsIn K mainGlobals "MOST_FIGURES" = some (some (.int 12 tMF)))
  (ci1:W.findIn K (.ref C) "__class__" = some (some (.builtin "object.__class__")))
  (ci2:W.specialIn K (.builtin "object.__class__") "__get__" = some (some (.builtin "getset_descriptor.__get__")))
  (ci3:W.takesIn K (.builtin "object.__class__")=some true)
  (ci4:W.mroIn K C (.type "object")=some true)
  (ci5:W.kitOne K (.ref C) (.ref C)=some true)
  (zMB:W.nsIn K mainGlobals "MEMBERS_BELOW" = some (some (.int 1200 tMB)))
  (rN:W.nsIn K mainGlobals "NAMED" = some (some (.ref aN)))
  (rK:W.nsIn K mainGlobals "KNOBS" = some (some (.ref aK)))
  (rB:W.nsIn K mainGlobals "BOUNDS" = some (some (.ref aB)))
  (rP:W.nsIn K mainGlobals "PARTS" = some (some (.ref aP)))
  (rM:W.nsIn K mainGlobals "MOST_OF" = some (some (.ref aM)))
  (dB:K.lookup aB=some ⟨.type "dict",none,.dict eB nB,#[]⟩)
  (kB:W.KeysLit w.params eB.toList)
  (oB:(aB == sysModules)=false)
  (dP:K.lookup aP=some ⟨.type "dict",none,.dict eP nP,#[]⟩)
  (kP:W.KeysLit w.params eP.toList)
  (oP:(aP == sysModules)=false)
  (dM:K.lookup aM=some ⟨.type "dict",none,.dict eM nM,#[]⟩)
  (kM:W.KeysLit w.params eM.toList)
  (oM:(aM == sysModules)=false)
  (qp1:W.nsIn K aP "board" = some (some (.ref p1)))
  (qp2:W.nsIn K aP "stop" = some (some (.ref p2)))
  (qp3:W.nsIn K aP "mute" = some (some (.ref p3)))
  (qp4:W.nsIn K aP "coupler" = some (some (.ref p4)))
  (qp5:W.nsIn K aP "rank" = some (some (.ref p5)))
  (qp6:W.nsIn K aP "line" = some (some (.ref p6)))
  (qb1:W.nsIn K aB "keys" = some (some (.ref b1)))
  (qb2:W.nsIn K aB "leap" = some (some (.ref b2)))
  (qb3:W.nsIn K aB "pipes" = some (some (.ref b3)))
  (qb4:W.nsIn K aB "wind" = some (some (.ref b4)))
  (qb5:W.nsIn K aB "shift" = some (some (.ref b5)))
  (qb6:W.nsIn K aB "low" = some (some (.ref b6)))
  (qb7:W.nsIn K aB "high" = some (some (.ref b7)))
  (qn:W.nsIn K aB "new" = some none)
  (qb:W.nsIn K aB "board" = some none)
  (qr:W.nsIn K aB "rank" = some none)
  (ql:W.nsIn K aM "line" = some none)
  (qm1:W.nsIn K aM "board" = some (some (.int 5 tm1)))
  (qm2:W.nsIn K aM "stop" = some (some (.int 24 tm2)))
  (qm3:W.nsIn K aM "coupler" = some (some (.int 12 tm3)))
  (qm4:W.nsIn K aM "mute" = some (some (.int 5 tm4)))
  (qm5:W.nsIn K aM "rank" = some (some (.int 12 tm5)))
  (qm6:W.nsIn K aM "step" = some (some (.int 12 tm6)))
  (uN:K.lookup aN=some ⟨.type "tuple",od_N,.seq #[.str "board" ttN_0,.str "rank" ttN_1,.str "stop" ttN_2,.str "coupler" ttN_3,.str "mute" ttN_4] n_N,sl_N⟩)
  (uK:K.lookup aK=some ⟨.type "tuple",od_K,.seq #[.str "stop" ttK_0,.str "coupler" ttK_1,.str "mute" ttK_2] n_K,sl_K⟩)
  (up1:K.lookup p1=some ⟨.type "tuple",od_p1,.seq #[.str "new" ttp1_0,.str "keys" ttp1_1] n_p1,sl_p1⟩)
  (up2:K.lookup p2=some ⟨.type "tuple",od_p2,.seq #[.str "new" ttp2_0,.str "board" ttp2_1] n_p2,sl_p2⟩)
  (up3:K.lookup p3=some ⟨.type "tuple",od_p3,.seq #[.str "new" ttp3_0,.str "board" ttp3_1] n_p3,sl_p3⟩)
  (up4:K.lookup p4=some ⟨.type "tuple",od_p4,.seq #[.str "new" ttp4_0,.str "board" ttp4_1,.str "board" ttp4_2,.str "leap" ttp4_3] n_p4,sl_p4⟩)
  (up5:K.lookup p5=some ⟨.type "tuple",od_p5,.seq #[.str "new" ttp5_0,.str "pipes" ttp5_1,.str "wind" ttp5_2] n_p5,sl_p5⟩)
  (up6:K.lookup p6=some ⟨.type "tuple",od_p6,.seq #[.str "rank" ttp6_0,.str "shift" ttp6_1,.str "low" ttp6_2,.str "high" ttp6_3] n_p6,sl_p6⟩)
  (ub1:K.lookup b1=some ⟨.type "tuple",od_b1,.seq #[.int (1) ttb1_0,.int (61) ttb1_1] n_b1,sl_b1⟩)
  (ub2:K.lookup b2=some ⟨.type "tuple",od_b2,.seq #[.int (-60) ttb2_0,.int (60) ttb2_1] n_b2,sl_b2⟩)
  (ub3:K.lookup b3=some ⟨.type "tuple",od_b3,.seq #[.int (1) ttb3_0,.int (97) ttb3_1] n_b3,sl_b3⟩)
  (ub4:K.lookup b4=some ⟨.type "tuple",od_b4,.seq #[.int (0) ttb4_0,.int (1000000000) ttb4_1] n_b4,sl_b4⟩)
  (ub5:K.lookup b5=some ⟨.type "tuple",od_b5,.seq #[.int (-200) ttb5_0,.int (200) ttb5_1] n_b5,sl_b5⟩)
  (ub6:K.lookup b6=some ⟨.type "tuple",od_b6,.seq #[.int (0) ttb6_0,.int (60) ttb6_1] n_b6,sl_b6⟩)
  (ub7:K.lookup b7=some ⟨.type "tuple",od_b7,.seq #[.int (0) ttb7_0,.int (60) ttb7_1] n_b7,sl_b7⟩)
  : ∃ fd:FuncData,(∀ (s:Shared) (v:Value),BindsTo s fd ⟨[v],[]⟩ [("_law_script",v)])/\∀ base:Heap,K.In base->base.Ns mainGlobals mg->BJ l.prog w K mg base Bk 12 fa fd ["_law_script"] (PL K):=by
 refine Classical.byContradiction fun hng=>?_
 obtain ⟨aWh,dWh,FWh⟩:=FWh
 obtain ⟨aMd,dMd,FMd⟩:=FMd
 obtain ⟨aNm,dNm,FNm⟩:=FNm
 obtain ⟨aRo,dRo,FRo⟩:=FRo
 obtain ⟨aTo,dTo,FTo⟩:=FTo
 obtain ⟨aWi,dWi,FWi⟩:=FWi
 obtain ⟨aPa,dPa,FPa⟩:=FPa
 obtain ⟨aHp,dHp,FHp⟩:=FHp
 obtain ⟨aCl,dCl,FCl⟩:=FCl
 obtain ⟨aIk,dIk,FIk⟩:=FIk
 obtain ⟨aSb,dSb,FSb⟩:=FSb
 obtain ⟨aIs,dIs,FIs⟩:=FIs
 obtain ⟨aWm,dWm,FWm⟩:=FWm
 obtain ⟨aHr,dHr,FHr⟩:=FHr
 obtain ⟨aIr,dIr,FIr⟩:=FIr
 obtain ⟨aCk,dCk,FCk⟩:=FCk
 obtain ⟨aNu,dNu,FNu⟩:=FNu
 obtain ⟨aPl,dPl,FPl⟩:=FPl
 obtain ⟨aLi,dLi,FLi⟩:=FLi
 obtain ⟨aSs,dSs,FSs⟩:=FSs
 obtain ⟨aMy,dMy,FMy⟩:=FMy
 obtain ⟨aSt,dSt,FSt⟩:=FSt
 obtain ⟨aIn,dIn,FIn⟩:=FIn
 obtain ⟨aNo,dNo,FNo⟩:=FNo
 obtain ⟨aRp,dRp,FRp⟩:=FRp
 obtain ⟨aRr,dRr,FRr⟩:=FRr
 obtain ⟨aRg,dRg,FRg⟩:=FRg
 obtain ⟨aSr,dSr,FSr⟩:=FSr
 obtain ⟨aSg,dSg,FSg⟩:=FSg
 obtain ⟨aCe,dCe,FCe⟩:=FCe
 obtain ⟨aLw,dLw,FLw⟩:=FLw
 obtain ⟨aMi,dMi,FMi⟩:=FMi
 obtain ⟨aNn,dNn,FNn⟩:=FNn
 obtain ⟨aBb,dBb,FBb⟩:=FBb
 obtain ⟨aMa,dMa,FMa⟩:=FMa
 obtain ⟨aLb,dLb,FLb⟩:=FLb
 obtain ⟨aLk,dLk,FLk⟩:=FLk
 obtain ⟨aLs,dLs,FLs⟩:=FLs
 obtain ⟨aLl,dLl,FLl⟩:=FLl
 obtain ⟨aLc,dLc,FLc⟩:=FLc
 obtain ⟨aLt,dLt,FLt⟩:=FLt
 obtain ⟨aLr,dLr,FLr⟩:=FLr
 obtain ⟨aLp,dLp,FLp⟩:=FLp
 obtain ⟨aWr,dWr,FWr⟩:=FWr
 obtain ⟨aTx,dTx,FTx⟩:=FTx
 obtain ⟨aRa,dRa,FRa⟩:=FRa
 obtain ⟨aOi,iOi,dOi,FOi⟩:=FOi
 obtain ⟨aOb,iOb,dOb,FOb⟩:=FOb
 obtain ⟨aBk,iBk,dBk,FBk⟩:=FBk
 obtain ⟨aOp,iOp,dOp,FOp⟩:=FOp
 obtain ⟨aOw,iOw,dOw,FOw⟩:=FOw
 obtain ⟨aOr,iOr,dOr,FOr⟩:=FOr
 obtain ⟨aOs,iOs,dOs,FOs⟩:=FOs
 obtain ⟨aOm,iOm,dOm,FOm⟩:=FOm
 obtain ⟨aOy,iOy,dOy,FOy⟩:=FOy
 obtain ⟨aOz,iOz,dOz,FOz⟩:=FOz
 refine hng ?_
 have e:=hfa.symm.trans (W.mg_of X G aZ)
 cases e
 have FZ:=Nz (st:=K7) lZ cZ kZ
 have gN:KTup K aN [.str "board",.str "rank",.str "stop",.str "coupler",.str "mute"]:=(⟨_,_,_,uN,rfl,rfl,by show 5<=sizeLine; decide,.cons ⟨_,rfl⟩ (.cons ⟨_,rfl⟩ (.cons ⟨_,rfl⟩ (.cons ⟨_,rfl⟩ (.cons ⟨_,rfl⟩ (.nil)))))⟩)
 have gK:KTup K aK [.str "stop",.str "coupler",.str "mute"]:=(⟨_,_,_,uK,rfl,rfl,by show 3<=sizeLine; decide,.cons ⟨_,rfl⟩ (.cons ⟨_,rfl⟩ (.cons ⟨_,rfl⟩ (.nil)))⟩)
 have gp1:KTup K p1 [.str "new",.str "keys"]:=(⟨_,_,_,up1,rfl,rfl,by show 2<=sizeLine; decide,.cons ⟨_,rfl⟩ (.cons ⟨_,rfl⟩ (.nil))⟩)
 have gp2:KTup K p2 [.str "new",.str "board"]:=(⟨_,_,_,up2,rfl,rfl,by show 2<=sizeLine; decide,.cons ⟨_,rfl⟩ (.cons ⟨_,rfl⟩ (.nil))⟩)
 have gp3:KTup K p3 [.str "new",.str "board"]:=(⟨_,_,_,up3,rfl,rfl,by show 2<=sizeLine; decide,.cons ⟨_,rfl⟩ (.cons ⟨_,rfl⟩ (.nil))⟩)
 have gp4:KTup K p4 [.str "new",.str "board",.str "board",.str "leap"]:=(⟨_,_,_,up4,rfl,rfl,by show 4<=sizeLine; decide,.cons ⟨_,rfl⟩ (.cons ⟨_,rfl⟩ (.cons ⟨_,rfl⟩ (.cons ⟨_,rfl⟩ (.nil))))⟩)
 have gp5:KTup K p5 [.str "new",.str "pipes",.str "wind"]:=(⟨_,_,_,up5,rfl,rfl,by show 3<=sizeLine; decide,.cons ⟨_,rfl⟩ (.cons ⟨_,rfl⟩ (.cons ⟨_,rfl⟩ (.nil)))⟩)
 have gp6:KTup K p6 [.str "rank",.str "shift",.str "low",.str "high"]:=(⟨_,_,_,up6,rfl,rfl,by show 4<=sizeLine; decide,.cons ⟨_,rfl⟩ (.cons ⟨_,rfl⟩ (.cons ⟨_,rfl⟩ (.cons ⟨_,rfl⟩ (.nil))))⟩)
 have gb1:KTup K b1 [.int (1),.int (61)]:=(⟨_,_,_,ub1,rfl,rfl,by show 2<=sizeLine; decide,.cons ⟨_,rfl⟩ (.cons ⟨_,rfl⟩ (.nil))⟩)
 have gb2:KTup K b2 [.int (-60),.int (60)]:=(⟨_,_,_,ub2,rfl,rfl,by show 2<=sizeLine; decide,.cons ⟨_,rfl⟩ (.cons ⟨_,rfl⟩ (.nil))⟩)
 have gb3:KTup K b3 [.int (1),.int (97)]:=(⟨_,_,_,ub3,rfl,rfl,by show 2<=sizeLine; decide,.cons ⟨_,rfl⟩ (.cons ⟨_,rfl⟩ (.nil))⟩)
 have gb4:KTup K b4 [.int (0),.int (1000000000)]:=(⟨_,_,_,ub4,rfl,rfl,by show 2<=sizeLine; decide,.cons ⟨_,rfl⟩ (.cons ⟨_,rfl⟩ (.nil))⟩)
 have gb5:KTup K b5 [.int (-200),.int (200)]:=(⟨_,_,_,ub5,rfl,rfl,by show 2<=sizeLine; decide,.cons ⟨_,rfl⟩ (.cons ⟨_,rfl⟩ (.nil))⟩)
 have gb6:KTup K b6 [.int (0),.int (60)]:=(⟨_,_,_,ub6,rfl,rfl,by show 2<=sizeLine; decide,.cons ⟨_,rfl⟩ (.cons ⟨_,rfl⟩ (.nil))⟩)
 have gb7:KTup K b7 [.int (0),.int (60)]:=(⟨_,_,_,ub7,rfl,rfl,by show 2<=sizeLine; decide,.cons ⟨_,rfl⟩ (.cons ⟨_,rfl⟩ (.nil))⟩)
 have F2:Qo K aB aP aM:=⟨⟨⟨_,qp1,gp1⟩,⟨_,qp2,gp2⟩,⟨_,qp3,gp3⟩,⟨_,qp4,gp4⟩,⟨_,qb1,gb1⟩,⟨_,qb2,gb2⟩,qn,qb,⟨_,qm1⟩,⟨_,qm2⟩,⟨_,qm3⟩,⟨_,qm4⟩⟩,⟨_,qp5,gp5⟩,⟨_,qp6,gp6⟩,⟨_,qb3,gb3⟩,⟨_,qb4,gb4⟩,⟨_,qb5,gb5⟩,⟨_,qb6,gb6⟩,⟨_,qb7,gb7⟩,qr,⟨_,qm5⟩,ql⟩
 have F0:Z_ K aB aP aM:=⟨F2,⟨_,qm6⟩⟩
 have T:Txt K w.params mg C aN aK aB aP aM:=⟨W.mg_none_of X G zlen,W.mg_none_of X G zisinstance,W.mg_none_of X G zint,W.mg_none_of X G zbool,W.mg_none_of X G zstr,W.mg_none_of X G zlist,W.mg_none_of X G ztuple,W.mg_none_of X G zall,W.mg_none_of X G zany,W.mg_none_of X G zsum,W.mg_none_of X G zrange,W.mg_none_of X G zzip,W.mg_none_of X G zenumerate,W.mg_none_of X G zmax,W.mg_none_of X G zreversed,W.mg_none_of X G zset,W.mg_none_of X G zabs,⟨_,W.mg_of X G zLET⟩,⟨_,W.mg_of X G zML⟩,⟨_,W.mg_of X G zMR⟩,⟨_,W.mg_of X G zMLn⟩,⟨_,W.mg_of X G zFIG⟩,⟨_,W.mg_of X G zMF⟩,⟨ci1,ci2,ci3,ci4,ci5⟩,⟨_,W.mg_of X G zMB⟩,W.mg_of X G rN,W.mg_of X G rK,W.mg_of X G rB,W.mg_of X G rP,W.mg_of X G rM,gN,gK,⟨⟨_,_,dB,kB⟩,oB⟩,⟨⟨_,_,dP,kP⟩,oP⟩,⟨⟨_,_,dM,kM⟩,oM⟩,⟨pg,hd,po,sa⟩,W.mg_of X G aC,n_row_list_,n_board_list_,n_rank_list_,n_knob_rows_,n_board_numbers_,n_rank_numbers_,n_knob_numbers_,n_key_places_,n_pipe_places_,n_knob_lines_,n_step_sets_⟩
 have N:bY K mg C ⟨fWh,fMd,fNm,fRo,fTo,fWi,fPa,fHp,fCl,fIk,fSb,fIs,fWm,fHr,fIr,fCk,fNu,fPl,fLi,fSs,fMy,fSt,fIn,fNo,fRp,fRr,fRg,fSr,fSg,fCe,fLw,fMi,fNn,fBb,fMa,fLb,fLk,fLs,fLl,fLc,fLt,fLr,fLp,fWr,fTx,fRa,fOi,fOb,fBk,fOp,fOw,fOr,fOs,fOm,fOy,fOz,_,_,_,_,_,_,_,_,_,_,_,_,_,_,_,_,_,_,_,_,_,_,_,_,_,_,_,_,_,_,_,_,_,_,_,_,_,_,_,_,_,_,_,_,_,_,_,_,_,_,_,_,_,_,_,_⟩:=⟨⟨FWh,(Eb FWh),W.mg_of X G aWh⟩,⟨FMd,(Jj FMd),W.mg_of X G aMd⟩,⟨FNm,(Eb FNm),W.mg_of X G aNm⟩,⟨FRo,(Em FRo),W.mg_of X G aRo⟩,⟨FTo,(Jj FTo),W.mg_of X G aTo⟩,⟨FWi,(Em FWi),W.mg_of X G aWi⟩,⟨FPa,(Jj FPa),W.mg_of X G aPa⟩,⟨FHp,(Em FHp),W.mg_of X G aHp⟩,⟨FCl,(Eb FCl),W.mg_of X G aCl⟩,⟨FIk,(Jj FIk),W.mg_of X G aIk⟩,⟨FSb,(Em FSb),W.mg_of X G aSb⟩,⟨FIs,(Em FIs),W.mg_of X G aIs⟩,⟨FWm,(Em FWm),W.mg_of X G aWm⟩,⟨FHr,(Em FHr),W.mg_of X G aHr⟩,⟨FIr,(Em FIr),W.mg_of X G aIr⟩,⟨FCk,(Eb FCk),W.mg_of X G aCk⟩,⟨FNu,(Eb FNu),W.mg_of X G aNu⟩,⟨FPl,(Eb FPl),W.mg_of X G aPl⟩,⟨FLi,(Em FLi),W.mg_of X G aLi⟩,⟨FSs,(Em FSs),W.mg_of X G aSs⟩,⟨FMy,(Eb FMy),W.mg_of X G aMy⟩,⟨FSt,(Eb FSt),W.mg_of X G aSt⟩,⟨FIn,(Eb FIn),W.mg_of X G aIn⟩,⟨FNo,(Eb FNo),W.mg_of X G aNo⟩,⟨FRp,(Eb FRp),W.mg_of X G aRp⟩,⟨FRr,(Eb FRr),W.mg_of X G aRr⟩,⟨FRg,(Eb FRg),W.mg_of X G aRg⟩,⟨FSr,(Eb FSr),W.mg_of X G aSr⟩,⟨FSg,(Eb FSg),W.mg_of X G aSg⟩,⟨FCe,(Em FCe),W.mg_of X G aCe⟩,⟨FLw,(Eb FLw),W.mg_of X G aLw⟩,⟨FMi,(Jj FMi),W.mg_of X G aMi⟩,⟨FNn,(Em FNn),W.mg_of X G aNn⟩,⟨FBb,(Eb FBb),W.mg_of X G aBb⟩,⟨FMa,(Em FMa),W.mg_of X G aMa⟩,⟨FLb,(Jj FLb),W.mg_of X G aLb⟩,⟨FLk,(Jj FLk),W.mg_of X G aLk⟩,⟨FLs,(Jj FLs),W.mg_of X G aLs⟩,⟨FLl,(Em FLl),W.mg_of X G aLl⟩,⟨FLc,(Jj FLc),W.mg_of X G aLc⟩,⟨FLt,(Em FLt),W.mg_of X G aLt⟩,⟨FLr,(Jj FLr),W.mg_of X G aLr⟩,⟨FLp,(Em FLp),W.mg_of X G aLp⟩,⟨FWr,(Eb FWr),W.mg_of X G aWr⟩,⟨FTx,(Eb FTx),W.mg_of X G aTx⟩,⟨FRa,(Em FRa),W.mg_of X G aRa⟩,⟨FOi,(Em FOi),⟨mkC,aOi,iOi,kc⟩⟩,⟨FOb,(Eb FOb),⟨aOb,iOb,FOb.kp⟩⟩,⟨FBk,(Em FBk),⟨aBk,iBk,FBk.kp⟩⟩,⟨FOp,(Em FOp),⟨aOp,iOp,FOp.kp⟩⟩,⟨FOw,(Eb FOw),⟨aOw,iOw,FOw.kp⟩⟩,⟨FOr,(Eb FOr),⟨aOr,iOr,FOr.kp⟩⟩,⟨FOs,(Em FOs),⟨aOs,iOs,FOs.kp⟩⟩,⟨FOm,(Em FOm),⟨aOm,iOm,FOm.kp⟩⟩,⟨FOy,(Eb FOy),⟨aOy,iOy,FOy.kp⟩⟩,⟨FOz,(Eb FOz),⟨aOz,iOz,FOz.kp⟩⟩⟩
 exact ⟨W.fnOf "law" "law" (Ea K7) (Dw K7) (Ag K7) .none kVZ dcZ pmZ anZ cdZ ctZ,fun s v=>.of_eq rfl,fun base _ _=>Vv FZ N T F0⟩
theorem walk {l:W.OpenLaw} {q:Program} {loose:List Str} {XP:(Str->Option Value)->Heap->Prop} {YP:World->Heap->Prop} {d:DefRec} {K:Params->W.Frag} (hn:l.most=some 63) (hdf:d.params.defaults=[])
  (hY:∀ (w:World) (h:Heap),YP w h->(K w.params).In h)
  (F:∀ (w:World) (mg:Str->Option Value) (fa:Addr) (h:Heap),(K w.params).In h->h.Ns mainGlobals mg->mg d.name=some (.ref fa) ->
   ∃ fd:FuncData,(∀ (s:Shared) (u:Value),BindsTo s fd ⟨[u],[]⟩ [("_law_script",u)])/\∀ base:Heap,(K w.params).In base->base.Ns mainGlobals mg->BJ l.prog w (K w.params) mg base Bk 12 fa fd ["_law_script"] (PL (K w.params))) :
  W.WalkO q loose XP YP l.row.toRowW d [] (fun f vs=>PySem.call f vs) :=
 L2.Ux (n:=63) (k:=12) (x:="_law_script") (CX:=fun _=>Bk) (sp:=fun w=>PL (K w.params)) hn (by decide) hdf ⟨rfl,by decide,by decide⟩ hY F (fun _ _ a ns hl _ hS=>⟨a,ns,rfl,hS,hl,fun _=>rfl⟩) fun _ _ _ _ _ z=>z
end K12
open PySem PySem.W PyProof.Rows
noncomputable def PySem.W.Fast.tw4704294166396799378:Unit:=()
noncomputable def PySem.W.Fast.tw3427500912140449563:Unit:=()
noncomputable def PySem.W.Fast.tw1954840019723879109:Unit:=()
noncomputable def PySem.W.Fast.tw3763054781119222904:Unit:=()
noncomputable def PySem.W.Fast.tw14854167077727436086:Unit:=()
noncomputable def PySem.W.Fast.tw2496158365798533085:Unit:=()
noncomputable def PySem.W.Fast.tw12522905268620645475:Unit:=()
noncomputable def PySem.W.Fast.tw4046081977635542321:Unit:=()
noncomputable def PySem.W.Fast.tw10616443610789261039:Unit:=()
noncomputable def PySem.W.Fast.tw14053029969490093273:Unit:=()
noncomputable def PySem.W.Fast.tw10711748533777160058:Unit:=()
noncomputable def PySem.W.Fast.tw18313607575912275659:Unit:=()
noncomputable def PySem.W.Fast.tw14770652196836261018:Unit:=()
noncomputable def PySem.W.Fast.tw11486999718156720690:Unit:=()
noncomputable def PySem.W.Fast.tw7977364521577814418:Unit:=()
noncomputable def PySem.W.Fast.tw16014851536717887576:Unit:=()
noncomputable def PySem.W.Fast.tw17303101448401953872:Unit:=()
noncomputable def PySem.W.Fast.tw13351023380257869395:Unit:=()
noncomputable def PySem.W.Fast.tw17088561350342211319:Unit:=()
noncomputable def PySem.W.Fast.tw2968520236213468311:Unit:=()
noncomputable def PySem.W.Fast.tw2349692171486806815:Unit:=()
noncomputable def PySem.W.Fast.tw10865775211430690899:Unit:=()
noncomputable def PySem.W.Fast.tw6149227179394041325:Unit:=()
noncomputable def PySem.W.Fast.tw17221417719161836912:Unit:=()
noncomputable def PySem.W.Fast.tw2731707408310278728:Unit:=()
noncomputable def PySem.W.Fast.tw2570033981577319302:Unit:=()
noncomputable def PySem.W.Fast.tw16472088470658366487:Unit:=()
noncomputable def PySem.W.Fast.tw2051534266537220740:Unit:=()
noncomputable def PySem.W.Fast.tw8279478045945769307:Unit:=()
noncomputable def PySem.W.Fast.tw13231197038423993998:Unit:=()
noncomputable def PySem.W.Fast.tw13258445865539209851:Unit:=()
noncomputable def PySem.W.Fast.tw8503496652484345071:Unit:=()
noncomputable def PySem.W.Fast.tw15495607484741261801:Unit:=()
noncomputable def PySem.W.Fast.tw1994102808820825971:Unit:=()
noncomputable def PySem.W.Fast.tw15814557492562862120:Unit:=()
noncomputable def PySem.W.Fast.tw15766028814113631884:Unit:=()
noncomputable def PySem.W.Fast.tw18237699311425371274:Unit:=()
noncomputable def PySem.W.Fast.tw15640741800763812747:Unit:=()
noncomputable def PySem.W.Fast.tw10251792756985235470:Unit:=()
noncomputable def PySem.W.Fast.tw7806801458162164891:Unit:=()
noncomputable def PySem.W.Fast.tw5418811437828191745:Unit:=()
noncomputable def PySem.W.Fast.tw13511857064377098747:Unit:=()
noncomputable def PySem.W.Fast.tw214597911566280117:Unit:=()
noncomputable def PySem.W.Fast.tw11103563638306891730:Unit:=()
noncomputable def PySem.W.Fast.tw2179184201675450371:Unit:=()
noncomputable def PySem.W.Fast.tw5575658364798315696:Unit:=()
noncomputable def PySem.W.Fast.tw11986263788192276978:Unit:=()
noncomputable def PySem.W.Fast.tw16199289880653830246:Unit:=()
noncomputable def PySem.W.Fast.tw14237772119238583740:Unit:=()
noncomputable def PySem.W.Fast.tw5845286229221187261:Unit:=()
noncomputable def PySem.W.Fast.tw8418634033419977151:Unit:=()
noncomputable def PySem.W.Fast.tw12200867488790852233:Unit:=()
noncomputable def PySem.W.Fast.tw14632384590474832461:Unit:=()
noncomputable def PySem.W.Fast.tw384633878949397481:Unit:=()
noncomputable def PySem.W.Fast.tw1912312574426624299:Unit:=()
noncomputable def PySem.W.Fast.tw9563798312959080828:Unit:=()
noncomputable def PySem.W.Fast.tw2016663549798152856:Unit:=()
noncomputable def PySem.W.Fast.tw9042158086935856905:Unit:=()
noncomputable def PySem.W.Fast.tw9996311021429768699:Unit:=()
noncomputable def PySem.W.Fast.tw16695361457752658631:Unit:=()
noncomputable def PySem.W.Fast.tw3921073482245304556:Unit:=()
noncomputable def PySem.W.Fast.tw17612149458056917095:Unit:=()
noncomputable def PySem.W.Fast.tw15349396454357386814:Unit:=()
noncomputable def PySem.W.Fast.tw16104726838651192050:Unit:=()
noncomputable def PySem.W.Fast.tw17757967199219668051:Unit:=()
noncomputable def PySem.W.Fast.tw9691973060112597926:Unit:=()
noncomputable def PySem.W.Fast.tw9370469627177149620:Unit:=()
noncomputable def PySem.W.Fast.tw848639318066326081:Unit:=()
noncomputable def PySem.W.Fast.tw11855474896100848510:Unit:=()
noncomputable def PySem.W.Fast.tw17014808059360786236:Unit:=()
noncomputable def PySem.W.Fast.tw17329250225484080453:Unit:=()
noncomputable def PySem.W.Fast.tw2185120763939881209:Unit:=()
noncomputable def PySem.W.Fast.tw6567646779188300319:Unit:=()
noncomputable def PySem.W.Fast.tw9594993321710114687:Unit:=()
noncomputable def PySem.W.Fast.tw9470138602369364435:Unit:=()
noncomputable def PySem.W.Fast.tw13641573305802748491:Unit:=()
noncomputable def PySem.W.Fast.tw892395301912009687:Unit:=()
noncomputable def PySem.W.Fast.tw6147340822922962799:Unit:=()
noncomputable def PySem.W.Fast.tw9546609251773592784:Unit:=()
noncomputable def PySem.W.Fast.tw3302314668255766880:Unit:=()
noncomputable def PySem.W.Fast.tw6537136768098904489:Unit:=()
set_option maxRecDepth 100000 in
set_option maxHeartbeats 0 in
theorem PySem.Challenge.cw_windchest_k12_organs_written_and_read_holds : PySem.Challenge.rw_windchest_k12_organs_written_and_read.Holds := by
 w_on; o_law; k_head; (case hw=>w_witness2)
 k_fill
 refine K12.walk (l:=PySem.Challenge.rw_windchest_k12_organs_written_and_read) rfl rfl (fun w h Y=>PySem.W.kIn_of Y) ?F
 case F =>
  intro w mg fa h KX G hmg
  refine' K12.V4 KX G hmg ?_ ?_ ?_ ?_ ?_ ?_ ?_ ?_ ?_ ?_ ?_ ?_ ?_ ?_ ?_ ?_ ?_ ?_ ?_ ?_ ?_ ?_ ?_ ?_ ?_ ?_ ?_ ?_ ?_ ?_ ?_ ?_ ?_ ?_ ?_ ?_ ?_ ?_ ?_ ?_ ?_ ?_ ?_ ?_ ?_ ?_ ?_ ?_ ?_ ?_ ?_ ?_ ?_ ?_ ?_ ?_ ?_ ?_ ?_ ?_ ?_ ?_ ?_ ?_ ?_ ?_ ?_ ?_ ?_ ?_ ?_ ?_ ?_ ?_ ?_ ?_ ?_ ?_ ?_ ?_ ?_ ?_ ?_ ?_ ?_ ?_ ?_ ?_ ?_ ?_ ?_ ?_ ?_ ?_ ?_ ?_ ?_ ?_ ?_ ?_ ?_ ?_ ?_ ?_ ?_ ?_ ?_ ?_ ?_ ?_ ?_ ?_ ?_ ?_ ?_ ?_ ?_ ?_ ?_ ?_ ?_ ?_ ?_ ?_ ?_ ?_ ?_ ?_ ?_ ?_ ?_ ?_ ?_ ?_ ?_ ?_ ?_ ?_ ?_ ?_ ?_ ?_ ?_ ?_ ?_ ?_ ?_ ?_ ?_ ?_ ?_ ?_ ?_ ?_ ?_ ?_ ?_ ?_ ?_
  all_goals first | (k_is; done) | (refine' ⟨?a,_,L2.Nz ?l ?c ?k⟩; (case a=>k_is); (case l=>k_is); (case c=>k_is); case k=>k_is) | (refine' ⟨?a,?i,_,L2.Nz ?l ?c ?k⟩; (case a=>k_is); (case i=>k_is); (case l=>k_is); (case c=>k_is); case k=>k_is) | (k_keys; done) | decide | kernel_rfl! | skip
end PartK12z
