import PyProof.Rows.All
import Wide.All
import OpenK.AllK
import Wide.FinOn
import Lean
import PyProof.EqAt
import PyProof.EqKinds
import PyProof.TupleCall
import PyProof.ZipIter
import PyProof.WalksEnum
import PyProof.EnumMake
import PyProof.NeKinds
import KE.KDictList
import PyProof.Rows.SetFrom
import PyProof.StrWalks
import PyProof.CollectWalk
import PyProof.Rows.SortWalk
import PyProof.Rows.BitMore
import PyProof.Rows.IntCalls
import KE.KRevIter
import PyProof.SetRoads
import OpenK.KTop
import PyProof.Rows.StrWeight2
import PyProof.SumWalk
import PyProof.SliceList
import PyProof.FactsAll.subtypes_4
import PyProof.StationsW
import PyProof.NsDelKeeps
import PyProof.Rows.StrClose
import PyProof.Rows.CatFin
import PyProof.SeqI3
import PyProof.Rows.StrCase
import PyProof.PureStr
import PyProof.IsRules
import PySem.Challenge.RW_windchest_k11_as_many_as_may_be
local macro_rules | `(tactic| omega) => `(tactic| lia)
set_option Elab.async false
set_option linter.all false
set_option maxRecDepth 100000
namespace L2
open PySem PySem.Spec PyProof.Rows
noncomputable abbrev Key:=Sum Int Str
noncomputable def Ji:Key->Value->Bool
 | .inl k,v=>Value.isInt k v
 | .inr x,v=>Value.isStrOf x v
noncomputable def bC (w:World):Key->Int
 | .inl k=>hashInt k
 | .inr x=>hashStr w x
theorem Bu:∀ {k:Key} {v:Value},Ji k v=true->(∃ i t,k=Sum.inl i/\v=Value.int i t) \/ (∃ x t,k=Sum.inr x/\v=Value.str x t)
 | .inl i,v,h=>by
  obtain ⟨t,e⟩:=Value.isInt_shape (k:=i) (v:=v) h
  exact .inl ⟨i,t,rfl,e⟩
 | .inr x,v,h=>by
  obtain ⟨t,e⟩:=Value.isStrOf_shape (x:=x) (v:=v) h
  exact .inr ⟨x,t,rfl,e⟩
theorem Oc (i:Int) (t:Tok):Ji (.inl i) (.int i t)=true:=by simp [Ji,Value.isInt]
theorem Ox (x:Str) (t:Tok):Ji (.inr x) (.str x t)=true:=by simp [Ji,Value.isStrOf]
theorem WM (a b:Int):decide ((Sum.inl a:Key)=Sum.inl b)=(a == b):=by
 by_cases e:a=b
 ·subst e; simp
 ·have h:¬ (Sum.inl a:Key)=Sum.inl b:=fun q=>e (Sum.inl.inj q)
  rw [decide_eq_false h]
  exact (beq_eq_false_iff_ne.mpr e).symm
theorem WR (a b:Str):decide ((Sum.inr a:Key)=Sum.inr b)=decide (a=b):=by
 by_cases e:a=b
 ·subst e; simp
 ·have h:¬ (Sum.inr a:Key)=Sum.inr b:=fun q=>e (Sum.inr.inj q)
  rw [decide_eq_false h,decide_eq_false e]
theorem Uy (a:Int) (b:Str):decide ((Sum.inl a:Key)=Sum.inr b)=false:=decide_eq_false (fun q=>nomatch q)
theorem Vf (a:Str) (b:Int):decide ((Sum.inr a:Key)=Sum.inl b)=false:=decide_eq_false (fun q=>nomatch q)
noncomputable def CV (prog:Program) (w:World):PySem.KeyKind prog w Key where
 is:=Ji
 hash:=bC w
 inj:=fun v a b ha hb=>by
  rcases Bu ha with ⟨i,t,rfl,rfl⟩ | ⟨x,t,rfl,rfl⟩
  ·rcases Bu hb with ⟨j,u,rfl,e⟩ | ⟨y,u,rfl,e⟩
   ·injection e with e1 _; rw [e1]
   ·exact nomatch e
  ·rcases Bu hb with ⟨j,u,rfl,e⟩ | ⟨y,u,rfl,e⟩
   ·exact nomatch e
   ·injection e with e1 _; rw [e1]
 byValue:=fun k v h=>by
  rcases Bu h with ⟨i,t,rfl,rfl⟩ | ⟨x,t,rfl,rfl⟩ <;> rfl
 pyHash:=fun hv h=>by
  rcases Bu hv with ⟨i,t,rfl,rfl⟩ | ⟨x,t,rfl,rfl⟩
  ·exact wpAny_pyHash_int h
  ·exact wpAny_pyHash_str h
 eqBool:=fun hu hv h=>by
  rcases Bu hu with ⟨i,t,rfl,rfl⟩ | ⟨x,t,rfl,rfl⟩
  ·rcases Bu hv with ⟨j,u,rfl,rfl⟩ | ⟨y,u,rfl,rfl⟩
   ·rw [WM] at h; exact wpAny_eqBool_int h
   ·rw [Uy] at h; exact SeqAt.EqAt.int_str i t y u _ _ _ _ h
  ·rcases Bu hv with ⟨j,u,rfl,rfl⟩ | ⟨y,u,rfl,rfl⟩
   ·rw [Vf] at h; exact SeqAt.EqAt.str_int x t j u _ _ _ _ h
   ·rw [WR] at h; exact wpAny_eqBool_str h
 «strs»:=fun k x t v h=>by
  rcases Bu h with ⟨i,u,rfl,e⟩ | ⟨y,u,rfl,e⟩
  ·exact nomatch e
  ·injection e with e1 _
   subst e1
   cases v <;> rfl
theorem K5 (prog:Program) (w:World) (i:Int) (t:Tok):(CV prog w).is (.inl i) (.int i t)=true:=Oc i t
theorem Kd (prog:Program) (w:World) (x:Str) (t:Tok):(CV prog w).is (.inr x) (.str x t)=true:=Ox x t
end L2
namespace L2
open PySem PySem.Spec PyProof.Rows
inductive V where
 | non | bl (b:Bool) | int (i:Int) | str (x:Str) | byt (b:Array UInt8) | flt (b:UInt64) | ref (a:Addr) | ty (n:String)
 deriving DecidableEq
noncomputable def RelV:V->Value->Prop
 | .non,u=>u=Value.none
 | .bl b,u=>u=Value.bool b
 | .int i,u=>∃ t,u=Value.int i t
 | .str x,u=>∃ t,u=Value.str x t
 | .byt b,u=>∃ t,u=Value.bytes b t
 | .flt b,u=>∃ t,u=Value.float b t
 | .ref a,u=>u=Value.ref a
 | .ty n,u=>u=Value.type n
noncomputable abbrev Vals:List V->List Value->Prop:=Paired RelV
theorem Vals.length {xs:List V} {us:List Value} (r:Vals xs us):xs.length=us.length:=Paired.length r
theorem Vals.get:∀ {xs:List V} {us:List Value} {i:Nat} {x:V},Vals xs us->xs[i]? = some x->∃ u,us[i]? = some u/\RelV x u
 | _,_,_,_,.nil,e=>by simp at e
 | _,_,0,_,.cons r _,e=>by simp at e; subst e; exact ⟨_,rfl,r⟩
 | _,_,i+1,x,.cons _ t,e=>by
  obtain ⟨u,h1,h2⟩:=Vals.get (i:=i) (x:=x) t (by simpa using e)
  exact ⟨u,by simpa using h1,h2⟩
theorem Vals.append:∀ {xs ys:List V} {us ws:List Value},Vals xs us->Vals ys ws->Vals (xs++ys) (us++ws)
 | _,_,_,_,.nil,s=>s
 | _,_,_,_,.cons r t,s=>.cons r (Vals.append t s)
theorem Vals.take:∀ {xs:List V} {us:List Value} (n:Nat),Vals xs us->Vals (xs.take n) (us.take n)
 | _,_,0,_=>.nil
 | _,_,_+1,.nil=>.nil
 | _,_,n+1,.cons r t=>.cons r (Vals.take n t)
theorem Vals.drop:∀ {xs:List V} {us:List Value} (n:Nat),Vals xs us->Vals (xs.drop n) (us.drop n)
 | _,_,0,r=>r
 | _,_,_+1,.nil=>.nil
 | _,_,n+1,.cons _ t=>Vals.drop n t
noncomputable def Ew:Option V->Option Value->Prop
 | some v,some u=>RelV v u
 | none,none=>True
 | _,_=>False
noncomputable def KV {κ:Type}:List (κ × V)->List (κ × Value)->Prop:=Paired fun (p:κ × V) (q:κ × Value)=>p.1=q.1/\RelV p.2 q.2
noncomputable def kV:Key->V
 | .inl i=>.int i
 | .inr x=>.str x
inductive HO where
 | lst (xs:List V)
 | tup (xs:List V)
 | dK (kvs:List (Key × V)) | dT (kvs:List (List Key × V))
 | set (S:Int->Bool) (n:Nat)
 | ins (C dx:Addr) (fs:List (Str × V))
 | own (x:Addr)
 | xd (fs:List (Str × V))
 | met (f x:Addr)
 | rng (lo hi:Int)
 | frz (o:Obj) (u:HO)
 | tbl (ps:Array Value)
 | ext (φ:Heap->Prop)
noncomputable abbrev Hp:=Addr->Option HO
noncomputable def upd (H:Hp) (a:Addr) (o:HO):Hp:=fun b=>if b=a then some o else H b
theorem Ac {H:Hp} {a:Addr} {o:HO}:upd H a o a=some o:=by unfold upd; rw [if_pos rfl]
theorem Ar {H:Hp} {a b:Addr} {o:HO} (h:b ≠ a):upd H a o b=H b:=by unfold upd; rw [if_neg h]
theorem UJ {H:Hp} {a b:Addr} {o u:HO} (h:H a=some o) (h':H b=some u) (d:o ≠ u):a ≠ b:=by
 intro e; subst e; rw [h] at h'; exact d (Option.some.inj h')
theorem Am {H:Hp} {a b:Addr} {o:HO} (h:H a=some o) (h':H b=none):a ≠ b:=by
 intro e; subst e; rw [h] at h'; cases h'
section
variable (P:Program) (w:World)
noncomputable def Be (H:Hp) (h:Heap) (a:Addr):HO->Prop
 | .lst xs=>xs.length<=sizeLine/\∃ (its:List Value) (n:Nat),Vals xs its/\h.get? a=some { cls:=.type "list",data:=.seq its.toArray n }
 | .tup xs=>xs.length<=sizeLine/\∃ its:List Value,Vals xs its/\IsTup h a its.toArray
 | .dK kvs=>kvs.length<=sizeLine/\(a == sysModules)=false/\∃ vs,KV kvs vs/\h.DictOf (CV P w) a vs
 | .dT kvs=>kvs.length<=sizeLine/\(a == sysModules)=false/\∃ xs:List (List Key × Addr × Value),
   Paired (fun (p:List Key × V) (q:List Key × Addr × Value)=>p.1=q.1/\H q.2.1=some (.tup (p.1.map kV))/\RelV p.2 q.2.2) kvs xs /\
   ∃ o es ep,h.get? a=some o/\o.ExactDict/\o.data=.dict es ep/\es.toList=xs.map (entryOfKey (tupleKind (CV P w)))/\(xs.map (·.1)).Nodup
 | .set S n=>h.SetOf (intKind P w) a S n
 | .ins C dx fs=>H dx=some (.own a)/\fs.length<=1000/\dx ≠ a/\h.get? a=some (PySem.W.instObj C dx) /\
   ∃ mA,h.Ns1 dx mA/\(∀ f,Ew (fs.lookup f) (mA f))/\PySem.Within mA (fs.map (·.1))
 | .own _=>∃ o,h.get? a=some o
 | .xd fs=>∃ mA,h.Ns1 a mA/\∀ f,Ew (fs.lookup f) (mA f)
 | .rng lo hi=>∃ t u v,h.get? a=some { cls:=.type "range",data:=.fields #[.int lo t,.int hi u,.int 1 v] }
 | .frz o u=>h.get? a=some o/\Be H h a u
 | .tbl ps=>h.get? a=some { cls:=.none,data:=.fields ps }
 | .met f x=>h.get? a=some (PySem.W.methodObj (.ref f) (.ref x))
 | .ext φ=>φ h/\(∃ o,h.get? a=some o)/\∀ h1 h2:Heap,φ h1->(∀ o,h1.get? a=some o->h2.get? a=some o)->φ h2
noncomputable def Dr (H:Hp) (h:Heap):Prop:=∀ a o,H a=some o->Be P w H h a o
end
section
variable {P:Program} {w:World} {H H':Hp} {h h':Heap} {a:Addr} {o:HO}
theorem Be.lt (x:Be P w H h a o):a<h.objs.size:=by
 cases o with
 | lst xs=>obtain ⟨_,_,_,_,e⟩:=x; exact Heap.lt_size e
 | tup xs=>obtain ⟨_,_,_,p⟩:=x; exact p.lt
 | dK kvs=>obtain ⟨_,_,_,_,o,_,_,e,_⟩:=x; exact Heap.lt_size e
 | dT kvs=>obtain ⟨_,_,_,_,o,_,_,e,_⟩:=x; exact Heap.lt_size e
 | set S n=>obtain ⟨o,_,_,_,e,_⟩:=x; exact Heap.lt_size e
 | ins C dx fs=>obtain ⟨_,_,_,e,_⟩:=x; exact Heap.lt_size e
 | own y=>obtain ⟨_,e⟩:=x; exact Heap.lt_size e
 | xd fs=>obtain ⟨_,⟨_,_,_,e,_⟩,_⟩:=x; exact Heap.lt_size e
 | rng lo hi=>obtain ⟨_,_,_,e⟩:=x; exact Heap.lt_size e
 | frz ob u=>obtain ⟨e,_⟩:=x; exact Heap.lt_size e
 | tbl ps=>exact Heap.lt_size (show h.get? a=some _ from x)
 | met f y=>exact Heap.lt_size (show h.get? a=some _ from x)
 | ext φ=>obtain ⟨_,⟨_,e⟩,_⟩:=x; exact Heap.lt_size e
theorem Paired.JP {α β:Type} {F G:α->β->Prop}:∀ {l₁:List α} {l₂:List β},Paired F l₁ l₂->(∀ a b,F a b->G a b)->Paired G l₁ l₂
 | _,_,.nil,_=>.nil
 | _,_,.cons r t,f=>.cons (f _ _ r) (Paired.JP t f)
theorem Be.stay (x:Be P w H h a o) (k:∀ b u,(b=a \/ H b=some (.own a))->h.get? b=some u->h'.get? b=some u)
  (ho:∀ b,H b=some (.own a)->H' b=some (.own a)) (ht:∀ b xs,H b=some (.tup xs)->H' b=some (.tup xs)):Be P w H' h' a o:=by
 induction o with
 | lst xs=>obtain ⟨z,its,n,r,e⟩:=x; exact ⟨z,its,n,r,k _ _ (.inl rfl) e⟩
 | tup xs=>obtain ⟨z,its,r,ob,e,c⟩:=x; exact ⟨z,its,r,ob,k _ _ (.inl rfl) e,c⟩
 | dK kvs=>obtain ⟨z,y,vs,r,ob,es,ep,e,c⟩:=x; exact ⟨z,y,vs,r,ob,es,ep,k _ _ (.inl rfl) e,c⟩
 | dT kvs =>
  obtain ⟨z,y,xs,r,ob,es,ep,e,c⟩:=x
  exact ⟨z,y,xs,Paired.JP r fun p q z=>⟨z.1,ht _ _ z.2.1,z.2.2⟩,ob,es,ep,k _ _ (.inl rfl) e,c⟩
 | set S n=>obtain ⟨ob,es,ep,t,e,c⟩:=x; exact ⟨ob,es,ep,t,k _ _ (.inl rfl) e,c⟩
 | ins C dx fs =>
  obtain ⟨d,z,ne,e,mA,⟨od,es,ep,e2,c⟩,r⟩:=x
  exact ⟨ho _ d,z,ne,k _ _ (.inl rfl) e,mA,⟨od,es,ep,k _ _ (.inr d) e2,c⟩,r⟩
 | own y=>obtain ⟨ob,e⟩:=x; exact ⟨ob,k _ _ (.inl rfl) e⟩
 | xd fs=>obtain ⟨mA,⟨od,es,ep,e,c⟩,r⟩:=x; exact ⟨mA,⟨od,es,ep,k _ _ (.inl rfl) e,c⟩,r⟩
 | rng lo hi=>obtain ⟨t,u,v,e⟩:=x; exact ⟨t,u,v,k _ _ (.inl rfl) e⟩
 | frz ob u ih=>obtain ⟨e,q⟩:=x; exact ⟨k _ _ (.inl rfl) e,ih q⟩
 | tbl ps =>
  have e:h.get? a=some { cls:=.none,data:=.fields ps }:=x
  show h'.get? a=some { cls:=.none,data:=.fields ps }
  exact k a _ (.inl rfl) e
 | met f y =>
  have e:h.get? a=some (PySem.W.methodObj (.ref f) (.ref y)):=x
  show h'.get? a=some (PySem.W.methodObj (.ref f) (.ref y))
  exact k a _ (.inl rfl) e
 | ext φ=>obtain ⟨p,⟨o,e⟩,st⟩:=x; exact ⟨st _ _ p fun o q=>k _ _ (.inl rfl) q,⟨o,k _ _ (.inl rfl) e⟩,st⟩
theorem Dr.lt (x:Dr P w H h) (e:H a=some o):a<h.objs.size:=(x a o e).lt
theorem Dr.fresh (x:Dr P w H h) (e:h.objs.size<=a):H a=none:=by
 cases q:H a with
 | none=>rfl
 | some u=>exact absurd (Nat.lt_of_lt_of_le (x.lt q) e) (Nat.lt_irrefl _)
theorem Dr.kept (x:Dr P w H h) (k:∀ b u,h.get? b=some u->h'.get? b=some u):Dr P w H h':=fun a o e =>
 (x a o e).stay (fun b u _ q=>k b u q) (fun _ q=>q) fun _ _ q=>q
theorem Dr.laid (x:Dr P w H h) (k:∀ b u,h.get? b=some u->h'.get? b=some u) (hp:h.objs.size<=a) (new:Be P w (upd H a o) h' a o):Dr P w (upd H a o) h':=fun b u e=>by
 have hn:=x.fresh hp
 by_cases hb:b=a
 ·subst hb; rw [Ac] at e; cases e; exact new
 ·rw [Ar hb] at e
  exact (x b u e).stay (fun c v _ q=>k c v q) (fun c q=>by rw [Ar (Am q hn)]; exact q) fun c xs q=>by rw [Ar (Am q hn)]; exact q
end
noncomputable def Rd (H:Hp) (a:Addr) (u:HO):Prop:=H a=some u \/ ∃ o,H a=some (.frz o u)
theorem Rd.ok {P:Program} {w:World} {H:Hp} {h:Heap} {a:Addr} {u:HO} (r:Rd H a u) (x:Dr P w H h):Be P w H h a u:=by
 rcases r with r | ⟨o,r⟩
 ·exact x a u r
 ·obtain ⟨_,q⟩:=x a _ r
  exact q
noncomputable def Wb:Option HO->Prop
 | some (.lst _)=>True
 | some (.dK _)=>True
 | some (.dT _)=>True
 | some (.set _ _)=>True
 | some (.ins _ _ _)=>True
 | some (.ext _)=>True
 | _=>False
section
variable {P:Program} {w:World} {H:Hp} {h h':Heap} {x e:Addr} {o':HO}
theorem Dr.write (ok:Dr P w H h) (mu:Wb (H x)) (he:e=x \/ H e=some (.own x)) (k:∀ b u,b ≠ e->h.get? b=some u->h'.get? b=some u) (heo:∃ u,h'.get? e=some u)
  (new:Be P w (upd H x o') h' x o'):Dr P w (upd H x o') h':=fun b u q=>by
 have nown:∀ c y,H c=some (.own y)->c ≠ x:=fun c y r z=>by subst z; rw [r] at mu; exact mu
 have ntup:∀ c xs,H c=some (.tup xs)->c ≠ x:=fun c xs r z=>by subst z; rw [r] at mu; exact mu
 by_cases hb:b=x
 ·subst hb; rw [Ac] at q; cases q; exact new
 ·rw [Ar hb] at q
  by_cases hbe:b=e
  ·have q':H b=some (.own x):=by
    rcases he with z | z
    ·exact absurd (hbe.trans z) hb
    ·rw [hbe]; exact z
   rw [q] at q'; cases q'
   obtain ⟨v,hv⟩:=heo
   exact ⟨v,by rw [hbe]; exact hv⟩
  ·refine (ok b u q).stay (fun c v hc r=>k c v ?_ r) (fun c r=>by rw [Ar (nown c b r)]; exact r) fun c xs r=>by rw [Ar (ntup c xs r)]; exact r
   rcases hc with rfl | hc
   ·exact hbe
   ·rintro rfl
    rcases he with z | z
    ·exact nown c b hc z
    ·rw [hc] at z; cases z; exact hb rfl
end
structure Un (fs ex:List Addr) (H H':Hp) (h h':Heap):Prop where
 keep:∀ b o,h.get? b=some o->H b=none->b ∉ fs->b ∉ ex->h'.get? b=some o
 slot:∀ b o,h.get? b=some o->H b=none->b∈fs->b ∉ ex->∃ sl,h'.get? b=some { o with slots:=sl }
 free:∀ b o,h.get? b=some o->H b=none->b ∉ ex->H' b=none
 there:∀ b o,h.get? b=some o->b ∉ ex->∃ o',h'.get? b=some o'
 tups:∀ b xs,H b=some (.tup xs)->H' b=some (.tup xs)
 frzs:∀ b o u,H b=some (.frz o u)->H' b=some (.frz o u)
 tbls:∀ b ps,H b=some (.tbl ps)->∃ more,H' b=some (.tbl (ps++more))
section
variable {fs fs' ex ex':List Addr} {H H1 H2:Hp} {h h1 h2 h':Heap} {a x e:Addr} {o:HO}
theorem Un.any (u:Un fs ex H H1 h h1) {b:Addr} {ob:Obj} (q:h.get? b=some ob) (n:H b=none) (hx:b ∉ ex):∃ sl,h1.get? b=some { ob with slots:=sl }:=by
 by_cases hb:b∈fs
 ·exact u.slot b ob q n hb hx
 ·exact ⟨ob.slots,u.keep b ob q n hb hx⟩
theorem Un.kept (k:∀ b u,h.get? b=some u->h'.get? b=some u):Un fs ex H H h h' :=
 ⟨fun b ob q _ _ _=>k b ob q,fun b ob q _ _ _=>⟨ob.slots,k b ob q⟩,fun _ _ _ n _=>n,fun b ob q _=>⟨ob,k b ob q⟩,fun _ _ q=>q,fun _ _ _ q=>q,fun _ ps q=>⟨#[],by rw [q]; simp⟩⟩
theorem Un.refl:Un fs ex H H h h:=Un.kept fun _ _ q=>q
theorem Un.laid (k:∀ b u,h.get? b=some u->h'.get? b=some u) (hp:h.objs.size<=a) (hn:H a=none):Un fs ex H (upd H a o) h h' where
 keep:=fun b u q _ _ _=>k b u q
 slot:=fun b u q _ _ _=>⟨u.slots,k b u q⟩
 free:=fun b u q n _=>by rw [Ar (Nat.ne_of_lt (Nat.lt_of_lt_of_le (Heap.lt_size q) hp))]; exact n
 there:=fun b u q _=>⟨u,k b u q⟩
 tups:=fun b xs q=>by rw [Ar (Am q hn)]; exact q
 frzs:=fun b u xs q=>by rw [Ar (Am q hn)]; exact q
 tbls:=fun b ps q=>⟨#[],by rw [Ar (Am q hn),q]; simp⟩
theorem Un.write (mu:Wb (H x)) (he:e=x \/ H e=some (.own x)) (k:∀ b u,b ≠ e->h.get? b=some u->h'.get? b=some u) (heo:∃ u,h'.get? e=some u):Un fs ex H (upd H x o) h h':=by
 have hx:∀ b,H b=none->b ≠ x:=fun b n z=>by subst z; rw [n] at mu; exact mu
 have hb:∀ b,H b=none->b ≠ e:=fun b n z=>by
  subst z
  rcases he with r | r
  ·exact hx b n r
  ·rw [n] at r; cases r
 have hm:∀ b u,H b=some u->¬ Wb (some u)->b ≠ x:=fun b u q nm z=>by subst z; rw [q] at mu; exact nm mu
 refine ⟨fun b u q n _ _=>k b u (hb b n) q,fun b u q n _ _=>⟨u.slots,k b u (hb b n) q⟩,fun b u q n _=>by rw [Ar (hx b n)]; exact n,fun b u q _=>?_,
  fun b xs q=>by rw [Ar (hm b _ q fun z=>z)]; exact q,fun b u xs q=>by rw [Ar (hm b _ q fun z=>z)]; exact q,fun b ps q=>⟨#[],by rw [Ar (hm b _ q fun z=>z),q]; simp⟩⟩
 by_cases hbe:b=e
 ·subst hbe; exact heo
 ·exact ⟨u,k b u hbe q⟩
end
noncomputable def ZL (h:Heap) (H:Hp):List Addr:=(List.range h.objs.size).filter fun a=>(H a).isSome
noncomputable def Jt (h:Heap) (H:Hp):Heap:=PySem.W.hideAll h (ZL h H)
theorem Ph (h:Heap) (H:Hp):(Jt h H).objs.size=h.objs.size:=PySem.W.hideAll_size _ _
theorem Qu {h:Heap} {H:Hp} {b:Addr} {o:Obj} (e:h.get? b=some o) (n:H b=none):(Jt h H).get? b=some o :=
 PySem.W.hideAll_get _ e fun hm=>by
  have q:(H b).isSome=true:=(List.mem_filter.mp hm).2
  rw [n] at q; simp at q
theorem Rx {h:Heap} {H:Hp} {b:Addr} {o:Obj} (e:(Jt h H).get? b=some o):h.get? b=some o/\H b=none:=by
 have e':h.get? b=some o:=PySem.W.of_hideAll (ZL h H) e
 refine ⟨e',?_⟩
 cases q:H b with
 | none=>rfl
 | some x =>
  have hm:b∈ZL h H:=List.mem_filter.mpr ⟨List.mem_range.mpr (Heap.lt_size e'),by simp [q]⟩
  have z:(Jt h H).get? b=none:=PySem.W.hideAll_none (ZL h H) hm
  rw [z] at e; cases e
noncomputable def Tr (g h:Heap) (L:Addr):List (Addr × Obj):=(List.range h.objs.size).filterMap fun a=>if a=L \/ (g.get? a).isSome=true then none else (h.get? a).map fun o=>(a,o)
noncomputable def rest (g h:Heap) (L d:Addr):List (Addr × Obj):=(Tr g h L).filter fun p=>decide (p.1 ≠ d)
end L2
namespace L2
open PySem PySem.Spec PyProof.Rows
structure Mod (K:PySem.W.Frag) (mg:Str->Option Value) (base:Heap):Prop where
 kin:K.In base
 glob:base.Ns mainGlobals mg
 blt:∃ mb,base.Ns builtinsNs mb/\∀ x:Str,x ≠ "__name__"->mb x=bootBuiltins x
 nolimit:base.NoLimit
structure Cx where
 prog:Program
 w:World
 K:PySem.W.Frag
 mg:Str->Option Value
 base:Heap
 A:Around
 N:List Str
 s₀:Shared
 H₀:Hp
 env:Env
 outer:List Env
 stack:List Env
 ex:List Addr
 fn:Str->Bool
 calm:Bool
 pn:List (Addr × Obj)
 xe:Value->Shared->Prop
noncomputable def frs (l:List Env):List Addr:=l.filterMap (·.frame)
noncomputable abbrev Cx.fs (X:Cx):List Addr:=frs X.outer
noncomputable def bH (sc:Scope) (x:Str):Prop:=sc.names.lookup x=some .local \/ sc.names.lookup x=some .cell \/ sc.names.lookup x=some .free
noncomputable def Loc (sc:Scope) (x:Str):Prop:=sc.names.lookup x=some .local \/ sc.names.lookup x=some .cell
noncomputable def Look (env:Env) (h:Heap) (m:Str->Option Value) (x:Str) (u:Value):Prop :=
 (env.kindOf x=some .local/\m x=some u) \/ ((env.kindOf x=some .cell \/ env.kindOf x=some .free)/\∃ c,env.cells.lookup x=some c/\h.IsCell c (some u))
structure Cx.Ok (X:Cx):Prop where
 mod:Mod X.K X.mg X.base
 kind:X.env.scope.kind=.function
 glob:X.env.globals=mainGlobals
 blt:X.env.builtins=builtinsNs
 above:X.s₀.heap.objs.size<=X.env.locals
 inj:∀ x y c,X.env.cells.lookup x=some c->X.env.cells.lookup y=some c->x=y
 has:∀ x,(X.env.kindOf x=some .cell \/ X.env.kindOf x=some .free)->∃ c,X.env.cells.lookup x=some c
 cab:∀ x c,X.fn x=true->X.env.cells.lookup x=some c->X.s₀.heap.objs.size<=c
 hd:X.calm=true->X.A.handled=none
 frames:X.A.frames=some X.stack
 stk:X.stack=X.outer \/ (X.stack=X.env::X.outer/\X.env.frame=some X.env.locals)
 exf:∀ b∈X.ex,b ≠ X.env.locals/\∀ x c,X.env.cells.lookup x=some c->c ≠ b
 bs:∀ b o,X.base.get? b=some o->X.s₀.heap.get? b=some o/\X.H₀ b=none
 bsz:X.base.objs.size<=X.s₀.heap.objs.size
 noex:∀ b o,X.base.get? b=some o->b ∉ X.ex
 exfs:∀ b∈X.ex,b ∉ X.fs
 Hc:X.s₀.heap.FunFrames X.base X.outer
 frf:∀ b∈X.fs,X.H₀ b=none
structure Inv (X:Cx) (pins:List (Addr × Obj)) (σ:List (Option V)) (H:Hp) (s:Shared):Prop where
 ok:X.Ok
 os:s.os=X.s₀.os
 bare:AllBare s.gens
 base:Un X.fs X.ex X.H₀ H X.s₀.heap s.heap
 loc:∃ m,s.heap.Ns X.env.locals m/\∀ (i:Nat) (x:Str) (v:V),X.N[i]? = some x->σ[i]? = some (some v)->bH X.env.scope x->∃ u,RelV v u/\Look X.env s.heap m x u
 cell:∀ x c,X.env.cells.lookup x=some c->∃ v,s.heap.IsCell c v
 free:H X.env.locals=none
 freeC:∀ x c,X.env.cells.lookup x=some c->H c=none
 pin:∀ p∈X.pn++pins,s.heap.get? p.1=some p.2/\H p.1=none/\p.1 ≠ X.env.locals/\p.1 ∉ X.fs/\∀ v,p.2.data ≠ .cell v
 hok:Dr X.prog X.w H s.heap
 len:σ.length=X.N.length
section
variable {X:Cx} {pins:List (Addr × Obj)} {σ:List (Option V)} {H H':Hp} {s:Shared} {h':Heap}
theorem Cx.Ok.bO (ok:X.Ok) {b:Addr} {o:Obj} (e:X.base.get? b=some o):b ∉ X.fs:=fun hb=>by
 have:=(ok.Hc.mem hb).1
 rw [e] at this; cases this
theorem Inv.bs (I:Inv X pins σ H s):∀ b o,X.base.get? b=some o->s.heap.get? b=some o/\H b=none:=fun b o e =>
 ⟨I.base.keep b o (I.ok.bs b o e).1 (I.ok.bs b o e).2 (I.ok.bO e) (I.ok.noex b o e),I.base.free b o (I.ok.bs b o e).1 (I.ok.bs b o e).2 (I.ok.noex b o e)⟩
theorem Inv.bk (I:Inv X pins σ H s):∀ b o,X.base.get? b=some o->s.heap.get? b=some o:=fun b o e=>(I.bs b o e).1
theorem Inv.mod (I:Inv X pins σ H s):Mod X.K X.mg X.base:=I.ok.mod
theorem Inv.Ey (I:Inv X pins σ H s):X.K.In s.heap:=I.ok.mod.kin.keeps I.bk
theorem Inv.lt (I:Inv X pins σ H s):X.env.locals<s.heap.objs.size:=let ⟨_,hn,_⟩:=I.loc; hn.lt
theorem Inv.sz (I:Inv X pins σ H s):X.s₀.heap.objs.size<=s.heap.objs.size:=Nat.le_trans I.ok.above (Nat.le_of_lt I.lt)
theorem Inv.ZZ (I:Inv X pins σ H s) {a:Addr} (h:s.heap.objs.size<=a):a ∉ X.fs:=fun hb=>by
 obtain ⟨_,o,ho,_⟩:=I.ok.Hc.mem hb
 exact absurd (Nat.lt_of_lt_of_le (Heap.lt_size ho) (Nat.le_trans I.sz h)) (Nat.lt_irrefl _)
theorem Inv.Ti (I:Inv X pins σ H s):∀ x c,X.env.cells.lookup x=some c->c ≠ X.env.locals:=fun x c e z=>by
 obtain ⟨v,o,ho,hd⟩:=I.cell x c e
 obtain ⟨m,⟨o',es,ep,ho',hd',_⟩,_⟩:=I.loc
 rw [z,ho'] at ho; cases ho; rw [hd'] at hd; cases hd
theorem Inv.Hc (I:Inv X pins σ H s):s.heap.FunFrames X.base X.outer:=by
 have all:∀ (l:List Env),(∀ b∈frs l,b∈X.fs)->X.s₀.heap.FunFrames X.base l->s.heap.FunFrames X.base l:=by
  intro l
  induction l with
  | nil=>intro _ _; trivial
  | cons env r ih =>
   intro hs hl
   obtain ⟨hk,⟨L,o,hf,hn,ho,hd⟩,hr⟩:=hl
   have hL:L∈X.fs:=hs L (by unfold frs; rw [List.filterMap_cons,hf]; exact List.mem_cons_self)
   obtain ⟨sl,e⟩:=I.base.slot L o ho (I.ok.frf L hL) hL fun z=>I.ok.exfs L z hL
   exact ⟨hk,⟨L,_,hf,hn,e,hd⟩,ih (fun b hb=>hs b (by unfold frs; rw [List.filterMap_cons,hf]; exact List.mem_cons_of_mem _ hb)) hr⟩
 exact all X.outer (fun _ hb=>hb) I.ok.Hc
theorem Inv.stack (I:Inv X pins σ H s):s.heap.FunFrames X.base X.stack:=by
 rcases I.ok.stk with e | ⟨e,hf⟩
 ·rw [e]; exact I.Hc
 ·rw [e]
  obtain ⟨m,hn,_⟩:=I.loc
  refine .cons (by rw [I.ok.kind]; decide) hf hn ?_ I.Hc
  exact Heap.get?_none_of_le (Nat.le_trans I.ok.bsz I.ok.above)
theorem Inv.Js (I:Inv X pins σ H s):∀ b∈frs X.stack,b∈X.env.locals::X.fs:=fun b hb=>by
 rcases I.ok.stk with e | ⟨e,hf⟩
 ·rw [e] at hb; exact List.mem_cons_of_mem _ hb
 ·rw [e] at hb
  unfold frs at hb
  rw [List.filterMap_cons,hf] at hb
  exact hb
theorem Inv.GF (I:Inv X pins σ H s):∀ b∈frs X.stack,H b=none:=fun b hb=>by
 rcases List.mem_cons.mp (I.Js b hb) with e | hb
 ·rw [e]; exact I.free
 ·obtain ⟨_,o,ho,_⟩:=I.ok.Hc.mem hb
  exact I.base.free b o ho (I.ok.frf b hb) fun z=>I.ok.exfs b z hb
theorem Inv.step {g':Array GenState} {t':Nat} {d':Drawn} {ch:List Addr} (I:Inv X pins σ H s)
  (hch:∀ b∈ch,(b∈X.ex \/ X.s₀.heap.objs.size<=b)/\b ≠ X.env.locals/\(∀ x c,X.env.cells.lookup x=some c->c ≠ b)/\∀ p∈X.pn++pins,p.1 ≠ b)
  (keep:∀ b o,b ≠ X.env.locals->b ∉ X.fs->b ∉ ch->s.heap.get? b=some o->H b=none->h'.get? b=some o)
  (slot:∀ b o,b ≠ X.env.locals->b∈X.fs->b ∉ ch->s.heap.get? b=some o->H b=none->∃ sl,h'.get? b=some { o with slots:=sl }) (free:∀ b o,b ∉ ch->s.heap.get? b=some o->H b=none->H' b=none)
  (there:∀ b o,b ∉ ch->s.heap.get? b=some o->∃ o',h'.get? b=some o')
  (tups:∀ b xs,H b=some (.tup xs)->H' b=some (.tup xs)) (frzs:∀ b o u,H b=some (.frz o u)->H' b=some (.frz o u)) (tbls:∀ b ps,H b=some (.tbl ps)->∃ more,H' b=some (.tbl (ps++more)))
  (ns:∀ m,s.heap.Ns X.env.locals m->h'.Ns X.env.locals m) (hok:Dr X.prog X.w H' h') (hg:AllBare g') :
  Inv X pins σ H' { s with heap:=h',gens:=g',drawn:=d',toks:=t' }:=by
 have neL:∀ b o,X.s₀.heap.get? b=some o->b ≠ X.env.locals:=fun b o e=>Nat.ne_of_lt (Nat.lt_of_lt_of_le (Heap.lt_size e) I.ok.above)
 have neC:∀ b o,X.s₀.heap.get? b=some o->b ∉ X.ex->b ∉ ch:=fun b o e hx hb=>by
  rcases (hch b hb).1 with z | z
  ·exact hx z
  ·exact absurd (Nat.lt_of_lt_of_le (Heap.lt_size e) z) (Nat.lt_irrefl _)
 have cellK:∀ x c,X.env.cells.lookup x=some c->∀ v,s.heap.IsCell c v->h'.IsCell c v:=fun x c e v ⟨o,ho,hd⟩=>by
  have nch:c ∉ ch:=fun z=>(hch c z).2.2.1 x c e rfl
  by_cases hc:c∈X.fs
  ·obtain ⟨sl,q⟩:=slot c o (I.Ti x c e) hc nch ho (I.freeC x c e)
   exact ⟨_,q,hd⟩
  ·exact ⟨o,keep c o (I.Ti x c e) hc nch ho (I.freeC x c e),hd⟩
 refine ⟨I.ok,I.os,hg,⟨fun b o e n hb hx=>?_,fun b o e n hb hx=>?_,fun b o e n hx=>?_,fun b o e hx=>?_,fun b xs e=>tups b xs (I.base.tups b xs e),fun b o xs e=>frzs b o xs (I.base.frzs b o xs e),fun b ps e=>?_⟩,?_,fun x c e=>?_,?_,fun x c e=>?_,fun p hp=>?_,hok,I.len⟩
 ·exact keep b o (neL b o e) hb (neC b o e hx) (I.base.keep b o e n hb hx) (I.base.free b o e n hx)
 ·obtain ⟨sl,e1⟩:=I.base.slot b o e n hb hx
  obtain ⟨sl',e2⟩:=slot b _ (neL b o e) hb (neC b o e hx) e1 (I.base.free b o e n hx)
  exact ⟨sl',e2⟩
 ·obtain ⟨o',e1⟩:=I.base.there b o e hx
  exact free b o' (neC b o e hx) e1 (I.base.free b o e n hx)
 ·obtain ⟨o',e1⟩:=I.base.there b o e hx
  exact there b o' (neC b o e hx) e1
 ·obtain ⟨m1,e1⟩:=I.base.tbls b ps e
  obtain ⟨m2,e2⟩:=tbls b _ e1
  exact ⟨m1++m2,by rw [e2,Array.append_assoc]⟩
 ·obtain ⟨m,hn,hl⟩:=I.loc
  refine ⟨m,ns m hn,fun i x v e1 e2 e3=>?_⟩
  obtain ⟨u,r,l⟩:=hl i x v e1 e2 e3
  refine ⟨u,r,?_⟩
  rcases l with l | ⟨k,c,e,z⟩
  ·exact .inl l
  ·exact .inr ⟨k,c,e,cellK x c e _ z⟩
 ·obtain ⟨v,z⟩:=I.cell x c e
  exact ⟨v,cellK x c e v z⟩
 ·obtain ⟨m,⟨o,_,_,ho,_⟩,_⟩:=I.loc
  exact free _ o (fun z=>(hch _ z).2.1 rfl) ho I.free
 ·obtain ⟨v,o,ho,hd⟩:=I.cell x c e
  exact free c o (fun z=>(hch c z).2.2.1 x c e rfl) ho (I.freeC x c e)
 ·obtain ⟨e,n,ne,nf,d⟩:=I.pin p hp
  have nch:p.1 ∉ ch:=fun z=>(hch p.1 z).2.2.2 p hp rfl
  exact ⟨keep p.1 p.2 ne nf nch e n,free p.1 p.2 nch e n,ne,nf,d⟩
theorem Inv.un {t':Nat} (I:Inv X pins σ H s) (u:Un X.fs [] H H' s.heap h') (hok:Dr X.prog X.w H' h'):Inv X pins σ H' { s with heap:=h',toks:=t' }:=by
 obtain ⟨m,⟨o,es,ep,ho,r⟩,_⟩:=id I.loc
 obtain ⟨sl,hL⟩:=u.any ho I.free (by simp)
 exact I.step (g':=s.gens) (d':=s.drawn) (ch:=[]) (fun _ z=>nomatch z) (fun b o _ hb _ e n=>u.keep b o e n hb (by simp)) (fun b o _ hb _ e n=>u.slot b o e n hb (by simp)) (fun b o _ e n=>u.free b o e n (by simp)) (fun b o _ e=>u.there b o e (by simp)) u.tups u.frzs u.tbls (fun m' hm=>by
  obtain ⟨o',es',ep',ho',r'⟩:=hm
  rw [ho] at ho'; cases ho'
  exact ⟨_,es',ep',hL,r'⟩) hok I.bare
theorem Inv.call {g':Array GenState} {t':Nat} {d':Drawn} {ch:List Addr} (I:Inv X pins σ H s) (u:Un (frs X.stack) ch H H' s.heap h') (hok:Dr X.prog X.w H' h') (hg:AllBare g')
  (hch:∀ b∈ch,(b∈X.ex \/ X.s₀.heap.objs.size<=b)/\b ≠ X.env.locals/\(∀ x c,X.env.cells.lookup x=some c->c ≠ b)/\∀ p∈X.pn++pins,p.1 ≠ b) :
  Inv X pins σ H' { s with heap:=h',gens:=g',drawn:=d',toks:=t' }:=by
 obtain ⟨m,⟨o,es,ep,ho,r⟩,_⟩:=id I.loc
 obtain ⟨sl,hL⟩:=u.any ho I.free fun z=>(hch _ z).2.1 rfl
 exact I.step (ch:=ch) hch (fun b o hL hb hc e n=>u.keep b o e n (fun z=>(List.mem_cons.mp (I.Js b z)).elim hL hb) hc) (fun b o _ _ hc e n=>u.any e n hc) (fun b o hc e n=>u.free b o e n hc) (fun b o hc e=>u.there b o e hc) u.tups u.frzs u.tbls (fun m' hm=>by
  obtain ⟨o',es',ep',ho',r'⟩:=hm
  rw [ho] at ho'; cases ho'
  exact ⟨_,es',ep',hL,r'⟩) hok hg
theorem Inv.turned {t':Nat} {it:Addr} (I:Inv X pins σ H s) (k:∀ b o,b ≠ it->s.heap.get? b=some o->h'.get? b=some o) (hn:H it=none) (hL:it ≠ X.env.locals)
  (h1:it∈X.ex \/ X.s₀.heap.objs.size<=it) (h2:∀ x c,X.env.cells.lookup x=some c->c ≠ it) (h3:∀ p∈X.pn++pins,p.1 ≠ it):Inv X pins σ H { s with heap:=h',toks:=t' }:=by
 have nit:∀ b u,H b=some u->b ≠ it:=fun b u e z=>by rw [z,hn] at e; cases e
 refine I.step (g':=s.gens) (d':=s.drawn) (ch:=[it]) (fun b hb=>?_) (fun b o _ _ hc e _=>k b o (fun z=>hc (by simp [z])) e) (fun b o _ _ hc e _=>⟨o.slots,k b o (fun z=>hc (by simp [z])) e⟩) (fun _ _ _ _ n=>n)
  (fun b o hc e=>⟨o,k b o (fun z=>hc (by simp [z])) e⟩) (fun _ _ e=>e) (fun _ _ _ e=>e) (fun b ps e=>⟨#[],by rw [e]; simp⟩) (fun m hm=>?_) (fun b u e=>?_) I.bare
 ·have e:b=it:=by simpa using hb
  subst e
  exact ⟨h1,hL,h2,h3⟩
 ·obtain ⟨o,es,ep,ho,r⟩:=hm
  exact ⟨o,es,ep,k _ o (Ne.symm hL) ho,r⟩
 ·refine (I.hok b u e).stay (fun c v hc q=>k c v ?_ q) (fun _ q=>q) fun _ _ q=>q
  rcases hc with z | z
  ·rw [z]; exact nit b u e
  ·exact nit c _ z
theorem Inv.tok (I:Inv X pins σ H s) (t:Nat):Inv X pins σ H { s with toks:=t }:=I.un (h':=s.heap) (t':=t) Un.refl I.hok
theorem Inv.kept {t':Nat} (I:Inv X pins σ H s) (k:∀ b u,s.heap.get? b=some u->h'.get? b=some u):Inv X pins σ H { s with heap:=h',toks:=t' }:=I.un (Un.kept k) (I.hok.kept k)
theorem Inv.laid {a:Addr} {o:HO} {t':Nat} (I:Inv X pins σ H s) (k:∀ b u,s.heap.get? b=some u->h'.get? b=some u) (hp:s.heap.objs.size<=a) (new:Be X.prog X.w (upd H a o) h' a o) :
  Inv X pins σ (upd H a o) { s with heap:=h',toks:=t' }:=I.un (Un.laid k hp (I.hok.fresh hp)) (I.hok.laid k hp new)
theorem Inv.write {x e:Addr} {o:HO} {t':Nat} (I:Inv X pins σ H s) (mu:Wb (H x)) (he:e=x \/ H e=some (.own x)) (k:∀ b u,b ≠ e->s.heap.get? b=some u->h'.get? b=some u) (heo:∃ u,h'.get? e=some u)
  (new:Be X.prog X.w (upd H x o) h' x o):Inv X pins σ (upd H x o) { s with heap:=h',toks:=t' }:=I.un (Un.write mu he k heo) (I.hok.write mu he k heo new)
theorem Inv.M_ {pins':List (Addr × Obj)} (I:Inv X pins σ H s) (h:∀ p∈pins',s.heap.get? p.1=some p.2/\H p.1=none/\p.1 ≠ X.env.locals/\p.1 ∉ X.fs/\∀ v,p.2.data ≠ .cell v):Inv X pins' σ H s :=
 ⟨I.ok,I.os,I.bare,I.base,I.loc,I.cell,I.free,I.freeC,fun p hp=>(List.mem_append.mp hp).elim (fun z=>I.pin p (List.mem_append_left _ z)) (h p),I.hok,I.len⟩
theorem JG {N:List Str} (hN:N.Nodup) {i j:Nat} {x:Str} (a:N[i]? = some x) (b:N[j]? = some x):i=j:=by
 obtain ⟨h1,e1⟩:=List.getElem?_eq_some_iff.mp a
 obtain ⟨h2,e2⟩:=List.getElem?_eq_some_iff.mp b
 exact (List.getElem_inj hN).mp (e1.trans e2.symm)
theorem Jc {M:Model} {A:Around} {E:Value->Shared->Prop} {i:Nat} {x:Str} {v:V} {u:Value} {Q:Unit->Shared->Prop} (I:Inv X pins σ H s) (hN:X.N.Nodup) (hi:X.N[i]? = some x) (hx:Loc X.env.scope x) (r:RelV v u)
  (h:∀ s',Inv X pins (σ.set i (some v)) H s'->(∃ a,Heap.SameBut a s.heap s'.heap/\(a=X.env.locals \/ X.env.cells.lookup x=some a))->Q () s') (hf:X.fn x=true \/ X.env.scope.names.lookup x=some .local:=by first | exact .inl rfl | exact .inr rfl | assumption):wpAny M A (storeName X.env x u) Q E s:=by
 obtain ⟨m,hn,hl⟩:=id I.loc
 have hcls:(X.env.scope.kind == .class || (X.env.scope.kind == .module && X.env.locals != X.env.globals))=false:=by rw [I.ok.kind]; rfl
 have hiσ:i<σ.length:=by rw [I.len]; exact (List.getElem?_eq_some_iff.mp hi).1
 have Ti:=I.Ti
 have tracked:∀ {a:Addr} {h':Heap},(∃ o,s.heap.get? a=some o/\H a=none)->Heap.SameBut a s.heap h'->Dr X.prog X.w H h':=fun {a h'} ha hs b ob e=>by
  obtain ⟨_,_,hfree⟩:=ha
  refine (I.hok b ob e).stay (fun c w' hc q=>(hs.2 c ?_).trans q) (fun _ q=>q) fun _ _ q=>q
  rintro rfl
  rcases hc with rfl | hc
  ·rw [hfree] at e; cases e
  ·rw [hfree] at hc; cases hc
 rcases hx with hk | hk
 ·refine wpAny_storeName_local hk hn (fun h' hn' hs=>?_) hcls
  obtain ⟨oL,_,_,hoL,_⟩:=id hn
  refine h _ ⟨I.ok,I.os,I.bare,⟨fun b o e n hb hx=>?_,fun b o e n hb hx=>?_,I.base.free,fun b o e hx=>?_,I.base.tups,I.base.frzs,I.base.tbls⟩,⟨_,hn',fun j y v' e1 e2 e3=>?_⟩,fun y c e=>?_,I.free,I.freeC,fun p hp=>?_,tracked ⟨oL,hoL,I.free⟩ hs,by simpa using I.len⟩ ⟨_,hs,.inl rfl⟩
  ·exact (hs.2 b (Nat.ne_of_lt (Nat.lt_of_lt_of_le (Heap.lt_size e) I.ok.above))).trans (I.base.keep b o e n hb hx)
  ·obtain ⟨sl,e1⟩:=I.base.slot b o e n hb hx
   exact ⟨sl,(hs.2 b (Nat.ne_of_lt (Nat.lt_of_lt_of_le (Heap.lt_size e) I.ok.above))).trans e1⟩
  ·obtain ⟨o',e1⟩:=I.base.there b o e hx
   exact ⟨o',(hs.2 b (Nat.ne_of_lt (Nat.lt_of_lt_of_le (Heap.lt_size e) I.ok.above))).trans e1⟩
  ·by_cases hj:j=i
   ·subst hj
    rw [hi] at e1; cases e1
    rw [List.getElem?_set_self hiσ] at e2
    cases e2
    exact ⟨u,r,.inl ⟨hk,by simp⟩⟩
   ·rw [List.getElem?_set_ne (Ne.symm hj)] at e2
    obtain ⟨u',r',q⟩:=hl j y v' e1 e2 e3
    refine ⟨u',r',?_⟩
    rcases q with ⟨k,e⟩ | ⟨k,c,e,z⟩
    ·refine .inl ⟨k,?_⟩
     have:y ≠ x:=fun e=>hj (JG hN e1 (e ▸ hi))
     simp [this,e]
    ·exact .inr ⟨k,c,e,z.sameBut hs (Ti y c e)⟩
  ·obtain ⟨w',z⟩:=I.cell y c e
   exact ⟨w',z.sameBut hs (Ti y c e)⟩
  ·obtain ⟨e,n,ne,nf,d⟩:=I.pin p hp
   exact ⟨(hs.2 p.1 ne).trans e,n,ne,nf,d⟩
 ·have hfn:X.fn x=true:=by
   rcases hf with z | z
   ·exact z
   ·rw [z] at hk; cases hk
  obtain ⟨c,hc⟩:=I.ok.has x (.inl hk)
  obtain ⟨w',z⟩:=I.cell x c hc
  refine wpAny_storeName_cell I.ok.kind hk hc z (fun h' hc' hs=>?_)
  obtain ⟨oc,hoc,hocd⟩:=id z
  refine h { s with heap:=h' } ⟨I.ok,I.os,I.bare,⟨fun b o e n hb hx=>?_,fun b o e n hb hx=>?_,I.base.free,fun b o e hx=>?_,I.base.tups,I.base.frzs,I.base.tbls⟩,⟨m,hn.sameBut hs (Ne.symm (Ti x c hc)),fun j y v' e1 e2 e3=>?_⟩,fun y c' e=>?_,I.free,I.freeC,fun p hp=>?_,tracked ⟨oc,hoc,I.freeC x c hc⟩ hs,by simpa using I.len⟩ ⟨c,hs,.inr hc⟩
  ·exact (hs.2 b (Nat.ne_of_lt (Nat.lt_of_lt_of_le (Heap.lt_size e) (I.ok.cab x c hfn hc)))).trans (I.base.keep b o e n hb hx)
  ·obtain ⟨sl,e1⟩:=I.base.slot b o e n hb hx
   exact ⟨sl,(hs.2 b (Nat.ne_of_lt (Nat.lt_of_lt_of_le (Heap.lt_size e) (I.ok.cab x c hfn hc)))).trans e1⟩
  ·obtain ⟨o',e1⟩:=I.base.there b o e hx
   exact ⟨o',(hs.2 b (Nat.ne_of_lt (Nat.lt_of_lt_of_le (Heap.lt_size e) (I.ok.cab x c hfn hc)))).trans e1⟩
  ·by_cases hj:j=i
   ·subst hj
    rw [hi] at e1; cases e1
    rw [List.getElem?_set_self hiσ] at e2
    cases e2
    exact ⟨u,r,.inr ⟨.inl hk,c,hc,hc'⟩⟩
   ·rw [List.getElem?_set_ne (Ne.symm hj)] at e2
    obtain ⟨u',r',q⟩:=hl j y v' e1 e2 e3
    refine ⟨u',r',?_⟩
    rcases q with q | ⟨k,c',e,z'⟩
    ·exact .inl q
    ·refine .inr ⟨k,c',e,z'.sameBut hs ?_⟩
     rintro rfl
     exact hj (JG hN e1 (I.ok.inj _ _ _ e hc ▸ hi))
  ·by_cases hcc:c'=c
   ·subst hcc; exact ⟨_,hc'⟩
   ·obtain ⟨w2,z2⟩:=I.cell y c' e
    exact ⟨w2,z2.sameBut hs hcc⟩
  ·obtain ⟨e,n,ne,nf,d⟩:=I.pin p hp
   refine ⟨(hs.2 p.1 ?_).trans e,n,ne,nf,d⟩
   intro q
   rw [q,hoc] at e
   have q':oc=p.2:=Option.some.inj e
   exact d w' (by rw [← q']; exact hocd)
theorem Iv {M:Model} {A:Around} {E:Value->Shared->Prop} {i:Nat} {x:Str} {v:V} {u:Value} {Q:Unit->Shared->Prop} (I:Inv X pins σ H s) (hN:X.N.Nodup) (hi:X.N[i]? = some x) (hx:Loc X.env.scope x) (r:RelV v u)
  (h:∀ s',Inv X pins (σ.set i (some v)) H s'->Q () s') (hf:X.fn x=true \/ X.env.scope.names.lookup x=some .local:=by first | exact .inl rfl | exact .inr rfl | assumption):wpAny M A (storeName X.env x u) Q E s :=
 Jc I hN hi hx r (fun s' I' _=>h s' I') hf
theorem Inv.call' {s':Shared} {ch:List Addr} (I:Inv X pins σ H s) (ho:s'.os=s.os) (u:Un (frs X.stack) ch H H' s.heap s'.heap) (hok:Dr X.prog X.w H' s'.heap) (hg:AllBare s'.gens)
  (hch:∀ b∈ch,(b∈X.ex \/ X.s₀.heap.objs.size<=b)/\b ≠ X.env.locals/\(∀ x c,X.env.cells.lookup x=some c->c ≠ b)/\∀ p∈X.pn++pins,p.1 ≠ b):Inv X pins σ H' s':=by
 obtain ⟨h',g',d',t',o'⟩:=s'
 have e:o'=s.os:=ho
 subst e
 exact I.call (g':=g') (t':=t') (d':=d') u hok hg hch
end
noncomputable abbrev XK:=Value->Option Addr->Hp->Prop
noncomputable abbrev St:=List (Option V)
noncomputable abbrev VK:=V->Hp->Prop
noncomputable abbrev TE:=St->Hp->VK->Prop
noncomputable abbrev TT:=St->Hp->(Bool->Hp->Prop)->Prop
noncomputable abbrev TA:=St->Hp->(List V->Hp->Prop)->Prop
structure Ends where
 nx:St->Hp->Prop
 rt:VK
 bk:St->Hp->Prop:=fun _ _=>False
 ct:St->Hp->Prop:=fun _ _=>False
noncomputable abbrev TS:=Ends->St->Hp->Prop
noncomputable def EP (X:Cx) (pins:List (Addr × Obj)) (σ:St) (Q:VK) (u:Value) (s':Shared):Prop:=∃ v H',Inv X pins σ H' s'/\RelV v u/\Q v H'
noncomputable def TP (X:Cx) (pins:List (Addr × Obj)) (σ:St) (Q:Bool->Hp->Prop) (b:Bool) (s':Shared):Prop:=∃ H',Inv X pins σ H' s'/\Q b H'
noncomputable def AP (X:Cx) (pins:List (Addr × Obj)) (σ:St) (Q:List V->Hp->Prop) (us:List Value) (s':Shared):Prop:=∃ vs H',Inv X pins σ H' s'/\Vals vs us/\Q vs H'
noncomputable def SP (X:Cx) (pins:List (Addr × Obj)) (D:Ends) (f:Flow) (s':Shared):Prop :=
 match f with
 | .next=>∃ σ' H',Inv X pins σ' H' s'/\D.nx σ' H'
 | .brk=>∃ σ' H',Inv X pins σ' H' s'/\D.bk σ' H'
 | .cont=>∃ σ' H',Inv X pins σ' H' s'/\D.ct σ' H'
 | .ret u=>∃ v σ' H',Inv X pins σ' H' s'/\RelV v u/\D.rt v H'
noncomputable def PE (X:Cx) (e:Expr) (t:TE):Prop :=
 ∀ (pins:List (Addr × Obj)) (s:Shared) (σ:St) (H:Hp) (Q:VK),Inv X pins σ H s->t σ H Q->wpAny (model X.prog X.w) X.A (eval e X.env) (EP X pins σ Q) X.xe s
noncomputable def PT (X:Cx) (e:Expr) (t:TT):Prop :=
 ∀ (pins:List (Addr × Obj)) (s:Shared) (σ:St) (H:Hp) (Q:Bool->Hp->Prop),Inv X pins σ H s->t σ H Q->wpAny (model X.prog X.w) X.A (isTrue e X.env (eval e X.env)) (TP X pins σ Q) X.xe s
noncomputable def PW (X:Cx) (e:Expr) (t:TT):Prop :=
 ∀ (whole:Sem Value) (pins:List (Addr × Obj)) (s:Shared) (σ:St) (H:Hp) (Q:Bool->Hp->Prop),Inv X pins σ H s->t σ H Q->wpAny (model X.prog X.w) X.A (isTrue e X.env whole) (TP X pins σ Q) X.xe s
theorem PW.pt {X:Cx} {e:Expr} {t:TT} (h:PW X e t):PT X e t:=h _
noncomputable def PA (X:Cx) (es:List Expr) (t:TA):Prop :=
 ∀ (pos:Pos) (pins:List (Addr × Obj)) (s:Shared) (σ:St) (H:Hp) (Q:List V->Hp->Prop),Inv X pins σ H s->t σ H Q->wpAny (model X.prog X.w) X.A (spliced (backTo pos (starEach es X.env))) (AP X pins σ Q) X.xe s
noncomputable def PS (X:Cx) (st:Stmt) (t:TS):Prop :=
 ∀ (pins:List (Addr × Obj)) (s:Shared) (σ:St) (H:Hp) (D:Ends),Inv X pins σ H s->t D σ H->wpAny (model X.prog X.w) X.A (exec st X.env) (SP X pins D) X.xe s
noncomputable def Mw (X:Cx) (st:List Stmt) (t:TS):Prop :=
 ∀ (pins:List (Addr × Obj)) (s:Shared) (σ:St) (H:Hp) (D:Ends),Inv X pins σ H s->t D σ H->wpAny (model X.prog X.w) X.A (execs st X.env) (SP X pins D) X.xe s
theorem Bs {α:Type} {t:Sem α} {Q Q':α->Shared->Prop} {M:Model} {A:Around} {E:Value->Shared->Prop} {s:Shared} (h:wpAny M A t Q E s) (hQ:∀ a s,Q a s->Q' a s):wpAny M A t Q' E s:=wpAny_mono h hQ fun _ _ x=>x
end L2
namespace L2
open PySem PySem.Spec PyProof.Rows
section
variable {X:Cx}
noncomputable def Wq (i:Nat):TE:=fun σ H Q=>∃ v,σ[i]? = some (some v)/\Q v H
noncomputable def tC (v:V):TE:=fun _ H Q=>Q v H
theorem Vr {i:Nat} {x:Str} {pos:Pos} (hN:X.N[i]? = some x) (hv:bH X.env.scope x) (hd:(x == ("__debug__" : Str))=false:=by decide) (hcd:(x == ("__classdict__" : Str))=false:=by decide):PE X (.Name x pos) (Wq i):=by
 intro pins s σ H Q I h
 obtain ⟨v,e,h⟩:=h
 obtain ⟨m,hn,hl⟩:=I.loc
 obtain ⟨u,r,l⟩:=hl i x v hN e hv
 have fin:EP X pins σ Q u s:=⟨v,H,I,r,h⟩
 rcases l with ⟨hk,hm⟩ | ⟨hk,c,hc,hcell⟩
 ·exact wpAny_Name (wpAny_loadName_local I.ok.kind hk hn hm fin) hd
 ·rcases hk with hk | hk
  ·exact wpAny_Name (wpAny_loadName_cell I.ok.kind hk hc hcell fin) hd
  ·exact wpAny_Name (wpAny_loadName_free I.ok.kind hk hc hcell fin hcd) hd
theorem Ag {i j pos}:PE X (.Constant (.int i) j pos) (tC (.int i)):=fun _ _ _ H _ I h=>wpAny_Constant_int ⟨.int i,H,I.tok _,⟨_,rfl⟩,h⟩
theorem Fe {b j pos}:PE X (.Constant (.bool b) j pos) (tC (.bl b)):=fun _ _ _ H _ I h=>Constant_bool ⟨.bl b,H,I,rfl,h⟩
theorem Hb {j pos}:PE X (.Constant .none j pos) (tC .non):=fun _ _ _ H _ I h=>Constant_none ⟨.non,H,I,rfl,h⟩
theorem An {x j pos}:PE X (.Constant (.str x) j pos) (tC (.str x)):=fun _ _ _ H _ I h=>Calls.Constant_str ⟨.str x,H,I.tok _,⟨_,rfl⟩,h⟩
noncomputable def Gl (X:Cx) (x:Str):Prop:=X.env.kindOf x=some .globalImplicit
theorem E_ {E:Value->Shared->Prop} {pins:List (Addr × Obj)} {s:Shared} {σ:St} {H:Hp} {x:Str} {u:Value} {pos:Pos} {Q:Value->Shared->Prop} (I:Inv X pins σ H s) (hg:Gl X x) (hm:X.mg x=some u) (h:Q u s)
  (hd:(x == ("__debug__" : Str))=false:=by decide):wpAny (model X.prog X.w) X.A (eval (.Name x pos) X.env) Q E s :=
 Calls.Name_function_global I.ok.kind hg (Calls.loadGlobal_global (by rw [I.ok.glob]; exact I.mod.glob.keeps I.bk) hm h) hd
theorem Gr {E:Value->Shared->Prop} {pins:List (Addr × Obj)} {s:Shared} {σ:St} {H:Hp} {x:Str} {u:Value} {pos:Pos} {Q:Value->Shared->Prop} (I:Inv X pins σ H s) (hg:Gl X x) (hm:X.mg x=none) (hv:bootBuiltins x=some u) (h:Q u s)
  (hn:x ≠ "__name__":=by decide) (hd:(x == ("__debug__" : Str))=false:=by decide):wpAny (model X.prog X.w) X.A (eval (.Name x pos) X.env) Q E s:=by
 obtain ⟨mb,h1,h2⟩:=I.mod.blt
 exact Calls.Name_function_global I.ok.kind hg (Calls.loadGlobal_builtin (by rw [I.ok.glob]; exact I.mod.glob.keeps I.bk) hm (by rw [I.ok.blt]; exact h1.keeps I.bk) ((h2 x hn).trans hv) h) hd
theorem Bq {x:Str} {v:V} {u:Value} {pos:Pos} (hg:Gl X x) (hm:X.mg x=some u) (r:RelV v u) (hd:(x == ("__debug__" : Str))=false:=by decide):PE X (.Name x pos) (tC v) :=
 fun _ _ _ H _ I h=>E_ I hg hm ⟨v,H,I,r,h⟩ hd
theorem DR {x:Str} {v:V} {u:Value} {pos:Pos} (hg:Gl X x) (hm:X.mg x=none) (hv:bootBuiltins x=some u) (r:RelV v u) (hn:x ≠ "__name__":=by decide) (hd:(x == ("__debug__" : Str))=false:=by decide):PE X (.Name x pos) (tC v) :=
 fun _ _ _ H _ I h=>Gr I hg hm hv ⟨v,H,I,r,h⟩ hn hd
variable {a b:Expr} {ta tb:TE} {pos:Pos}
noncomputable def PC (X:Cx) (op:CmpOp) (a b:Expr) (t:TE):Prop :=
 ∀ (pins:List (Addr × Obj)) (s:Shared) (σ:St) (H:Hp) (Q:VK),Inv X pins σ H s->t σ H Q ->
  wpAny (model X.prog X.w) X.A (eval a X.env) (fun v s₁=>wpAny (model X.prog X.w) X.A (eval b X.env) (fun u s₂=>wpAny (model X.prog X.w) X.A (compareOp op v u) (EP X pins σ Q) X.xe s₂) X.xe s₁) X.xe s
noncomputable def tB (t:TE):TT:=fun σ H Q=>t σ H fun x H1=>∃ c,x=.bl c/\Q c H1
theorem Qo {op:CmpOp} {t:TE} (h:PC X op a b t) (h1:behindInMarks op b=false:=by first | exact nobehind _ (by decide) (by decide) | rfl):PE X (.Compare a [op] [b] pos) t:=fun pins s σ H Q I hw=>wpAny_Compare1 (h pins s σ H Q I hw) h1
theorem Vv {op:CmpOp} {t:TE} (h:PC X op a b t) (h1:behindInMarks op b=false:=by first | exact nobehind _ (by decide) (by decide) | rfl):PT X (.Compare a [op] [b] pos) (tB t):=by
 intro pins s σ H Q I hw
 refine wpAny_isTrue_Compare1 (Bs (h pins s σ H _ I hw) fun v s1 h1=>Bs h1 fun u s2 h2=>Bs h2 fun c s3 ⟨x,H1,I1,r1,q1⟩=>?_) h1
 obtain ⟨d,rfl,q⟩:=q1
 cases r1
 exact wpAny_truthy_bool ⟨H1,I1,q⟩
theorem Df {e:Expr} {t:TE} (h:PE X e t) (he:∀ whole,isTrue e X.env whole=(do let v ← whole; standAt e.pos; holding [v] (truthy v)):=by intro _; rfl):PT X e (tB t):=by
 intro pins s σ H Q I hw
 refine isTrue_plain (Bs (h pins s σ H _ I hw) fun v s1 ⟨x,H1,I1,r1,q1⟩=>?_) (he _)
 obtain ⟨d,rfl,q⟩:=q1
 cases r1
 exact wpAny_truthy_bool ⟨H1,I1,q⟩
variable {tA tB':TT} {rest:List Expr}
noncomputable def dI (t u:TT):TT:=fun σ H Q=>t σ H fun c H1=>if c=true then Q true H1 else u σ H1 Q
noncomputable def aH (t:TT):TT:=fun σ H Q=>t σ H fun c H1=>Q (!c) H1
theorem Gs (ha:PT X a tA):PW X (.BoolOp .Or [a] pos) tA:=by
 intro wh pins s σ H Q I h
 refine isTrue_or (Bs (ha pins s σ H Q I h) fun c s1 e=>?_)
 cases c with
 | false=>exact isTrue_or_nil e
 | true=>exact e
theorem Hs (ha:PT X a tA) (hb:PW X (.BoolOp .Or (b::rest) pos) tB'):PW X (.BoolOp .Or (a::b::rest) pos) (dI tA tB'):=by
 intro wh pins s σ H Q I h
 refine isTrue_or (Bs (ha pins s σ H _ I h) fun c s1 hq0=>?_)
 obtain ⟨H1,I1,q1⟩:=hq0
 cases c with
 | true=>exact ⟨H1,I1,q1⟩
 | false=>exact hb wh pins s1 σ H1 Q I1 q1
theorem Cq (ha:PT X a tA):PT X (.UnaryOp .Not a pos) (aH tA):=by
 intro pins s σ H Q I h
 exact isTrue_not (ha pins s σ H (fun c H1=>Q (!c) H1) I h)
noncomputable def Wy (ta tb:TE):TE:=fun σ H Q=>ta σ H fun x H1=>∃ c,x=.bl c/\if c=true then tb σ H1 Q else Q (.bl false) H1
noncomputable def Z8 (ta tb:TE):TE:=fun σ H Q=>ta σ H fun x H1=>∃ c,x=.bl c/\if c=true then Q (.bl true) H1 else tb σ H1 Q
noncomputable def X5 (ta:TE):TE:=fun σ H Q=>ta σ H fun x H1=>∃ c,x=.bl c/\Q (.bl (!c)) H1
theorem Cj {op} {t:TE} (h:PE X a t):PE X (.BoolOp op [a] pos) t:=fun pins s σ H Q I hw=>BoolOp_one (h pins s σ H Q I hw)
theorem CJ (ha:PE X a ta) (hb:PE X (.BoolOp .And (b::rest) pos) tb):PE X (.BoolOp .And (a::b::rest) pos) (Wy ta tb):=by
 intro pins s σ H Q I h
 refine BoolOp_and (Bs (ha pins s σ H _ I h) fun v s1 hq0=>?_)
 obtain ⟨x,H1,I1,r1,q1⟩:=hq0
 obtain ⟨c,rfl,q1⟩:=q1
 cases r1
 refine wpAny_truthy_bool ?_
 cases c with
 | true=>exact hb pins s1 σ H1 Q I1 q1
 | false=>exact ⟨.bl false,H1,I1,rfl,q1⟩
theorem W0 (ha:PE X a ta) (hb:PE X (.BoolOp .Or (b::rest) pos) tb):PE X (.BoolOp .Or (a::b::rest) pos) (Z8 ta tb):=by
 intro pins s σ H Q I h
 refine BoolOp_or (Bs (ha pins s σ H _ I h) fun v s1 hq0=>?_)
 obtain ⟨x,H1,I1,r1,q1⟩:=hq0
 obtain ⟨c,rfl,q1⟩:=q1
 cases r1
 refine wpAny_truthy_bool ?_
 cases c with
 | false=>exact hb pins s1 σ H1 Q I1 q1
 | true=>exact ⟨.bl true,H1,I1,rfl,q1⟩
theorem M8 (ha:PE X a ta):PE X (.UnaryOp .Not a pos) (X5 ta):=by
 intro pins s σ H Q I h
 refine UnaryOp_ (Bs (ha pins s σ H _ I h) fun v s1 hq0=>?_)
 obtain ⟨x,H1,I1,r1,q1⟩:=hq0
 obtain ⟨c,rfl,q1⟩:=q1
 cases r1
 exact not_of (wpAny_truthy_bool ⟨.bl (!c),H1,I1,rfl,q1⟩)
end
end L2
namespace L2
open PySem PySem.Spec PyProof.Rows
noncomputable def Cz (K:PySem.W.Frag) (H:Hp) (a:Addr) (xs:List V):Prop :=
 Rd H a (.lst xs) \/
  ∃ (o:Obj) (its:Array Value) (n:Nat),K.lookup a=some o/\o.cls=.type "list" /\ o.dict=none/\o.data=.seq its n/\its.size<=sizeLine/\Vals xs its.toList
noncomputable def Fo (K:PySem.W.Frag) (H:Hp) (a:Addr) (xs:List V):Prop :=
 Rd H a (.tup xs) \/
  ∃ (o:Obj) (its:Array Value) (n:Nat),K.lookup a=some o/\o.cls=.type "tuple" /\ o.data=.seq its n/\its.size<=sizeLine/\Vals xs its.toList
noncomputable def Zz:Value->Option V
 | .none=>some .non
 | .bool b=>some (.bl b)
 | .int i _=>some (.int i)
 | .str x _=>some (.str x)
 | .bytes b _=>some (.byt b)
 | .float b _=>some (.flt b)
 | .ref a=>some (.ref a)
 | .type n=>some (.ty n)
 | _=>none
theorem RelV.abs {x:V} {u:Value} (r:RelV x u):Zz u=some x:=by
 cases x with
 | non=>cases r; rfl
 | bl _=>cases r; rfl
 | int _=>obtain ⟨t,rfl⟩:=r; rfl
 | str _=>obtain ⟨t,rfl⟩:=r; rfl
 | byt _=>obtain ⟨t,rfl⟩:=r; rfl
 | flt _=>obtain ⟨t,rfl⟩:=r; rfl
 | ref _=>cases r; rfl
 | ty _=>cases r; rfl
theorem RelV.inj {x y:V} {u:Value} (r:RelV x u) (q:RelV y u):x=y:=Option.some.inj (r.abs.symm.trans q.abs)
theorem Vals.inj:∀ {xs ys:List V} {us:List Value},Vals xs us->Vals ys us->xs=ys
 | _,_,_,.nil,.nil=>rfl
 | _,_,_,.cons r t,.cons r' t'=>by rw [r.inj r',Vals.inj t t']
section
variable {X:Cx} {pins:List (Addr × Obj)} {σ:St} {H:Hp} {s:Shared} {a:Addr} {xs ys:List V}
theorem Inv.list (I:Inv X pins σ H s) (h:Cz X.K H a xs):∃ its:List Value,Vals xs its/\PlainL s.heap a its.toArray/\xs.length<=sizeLine:=by
 rcases h with h | ⟨o,its,n,hk,hc,hd,hs,hz,r⟩
 ·obtain ⟨z,its,n,r,e⟩:=h.ok I.hok
  exact ⟨its,r,⟨_,n,e,rfl,rfl,rfl⟩,z⟩
 ·refine ⟨its.toList,r,⟨o,n,I.Ey a o hk,hc,hd,by simpa using hs⟩,?_⟩
  have e:=r.length
  simp only [Array.length_toList] at e
  omega
theorem Inv.tuple (I:Inv X pins σ H s) (h:Fo X.K H a xs):∃ its:List Value,Vals xs its/\IsTup s.heap a its.toArray/\xs.length<=sizeLine:=by
 rcases h with h | ⟨o,its,n,hk,hc,hs,hz,r⟩
 ·obtain ⟨z,its,r,p⟩:=h.ok I.hok
  exact ⟨its,r,p,z⟩
 ·refine ⟨its.toList,r,⟨o,I.Ey a o hk,hc,n,by simpa using hs⟩,?_⟩
  have e:=r.length
  simp only [Array.length_toList] at e
  omega
theorem Inv.Ke (I:Inv X pins σ H s) (h:Cz X.K H a xs) (h':Cz X.K H a ys):xs=ys:=by
 obtain ⟨its,r,⟨o,n,e,_,_,d⟩,_⟩:=I.list h
 obtain ⟨its',r',⟨o',n',e',_,_,d'⟩,_⟩:=I.list h'
 rw [e] at e'; cases e'
 rw [d] at d'
 injection d' with d1 _
 have:its=its':=by simpa using congrArg Array.toList d1
 subst this
 exact r.inj r'
theorem Inv.Hk (I:Inv X pins σ H s) (h:Fo X.K H a xs) (h':Fo X.K H a ys):xs=ys:=by
 obtain ⟨its,r,⟨o,e,_,n,d⟩,_⟩:=I.tuple h
 obtain ⟨its',r',⟨o',e',_,n',d'⟩,_⟩:=I.tuple h'
 rw [e] at e'; cases e'
 rw [d] at d'
 injection d' with d1 _
 have:its=its':=by simpa using congrArg Array.toList d1
 subst this
 exact r.inj r'
end
noncomputable abbrev Cx.wish (X:Cx) (E:Value->Shared->Prop):Cx:={ X with xe:=E }
noncomputable abbrev Cx.ZQ (X:Cx):Cx:=X.wish fun _ _=>False
theorem Cx.Ok.wish {X:Cx} (ok:X.Ok) (E:Value->Shared->Prop):(X.wish E).Ok :=
 ⟨ok.mod,ok.kind,ok.glob,ok.blt,ok.above,ok.inj,ok.has,ok.cab,ok.hd,ok.frames,ok.stk,ok.exf,ok.bs,ok.bsz,ok.noex,ok.exfs,ok.Hc,ok.frf⟩
theorem Cx.Ok.Fq {X:Cx} {E:Value->Shared->Prop} (ok:(X.wish E).Ok):X.Ok :=
 ⟨ok.mod,ok.kind,ok.glob,ok.blt,ok.above,ok.inj,ok.has,ok.cab,ok.hd,ok.frames,ok.stk,ok.exf,ok.bs,ok.bsz,ok.noex,ok.exfs,ok.Hc,ok.frf⟩
section
variable {X:Cx} {pins:List (Addr × Obj)} {σ:St} {H:Hp} {s:Shared} {E:Value->Shared->Prop}
theorem Inv.wish (I:Inv X pins σ H s) (E:Value->Shared->Prop):Inv (X.wish E) pins σ H s:=⟨I.ok.wish E,I.os,I.bare,I.base,I.loc,I.cell,I.free,I.freeC,I.pin,I.hok,I.len⟩
theorem Inv.Fq (I:Inv (X.wish E) pins σ H s):Inv X pins σ H s:=⟨I.ok.Fq,I.os,I.bare,I.base,I.loc,I.cell,I.free,I.freeC,I.pin,I.hok,I.len⟩
theorem SP.Fq {D:Ends} {f:Flow} {s':Shared} (h:SP (X.wish E) pins D f s'):SP X pins D f s':=by
 cases f with
 | next=>obtain ⟨σ',H',I,q⟩:=h; exact ⟨σ',H',I.Fq,q⟩
 | brk=>obtain ⟨σ',H',I,q⟩:=h; exact ⟨σ',H',I.Fq,q⟩
 | cont=>obtain ⟨σ',H',I,q⟩:=h; exact ⟨σ',H',I.Fq,q⟩
 | ret u=>obtain ⟨v,σ',H',I,r,q⟩:=h; exact ⟨v,σ',H',I.Fq,r,q⟩
theorem Mw.ZQ {st:List Stmt} {t:TS} (h:Mw X.ZQ st t):Mw X st t:=fun pins s σ H D I hw =>
 wpAny_mono (h pins s σ H D (I.wish _) hw) (fun _ _ q=>q.Fq) fun _ _ z=>False.elim z
end
section
variable {X:Cx} {st:Stmt} {rest:List Stmt} {t u:TS} {e:Expr} {te:TE} {pos:Pos}
noncomputable def Xp:TS:=fun D σ H=>D.nx σ H
noncomputable def Zr (t u:TS):TS:=fun D σ H=>t { D with nx:=u D } σ H
theorem BW:Mw X [] Xp:=fun _ _ σ H _ I h=>wpAny_execs_nil ⟨σ,H,I,h⟩
theorem Ah (h1:PS X st t) (h2:Mw X rest u):Mw X (st::rest) (Zr t u):=by
 intro pins s σ H D I h
 refine wpAny_execs_cons (Bs (h1 pins s σ H { D with nx:=u D } I h) fun f s1 q=>?_)
 cases f with
 | next =>
  obtain ⟨σ',H',I',q⟩:=q
  exact h2 pins s1 σ' H' D I' q
 | ret v=>exact q
 | brk=>exact q
 | cont=>exact q
theorem Ai (h1:PS X st t):Mw X [st] t:=by
 intro pins s σ H D I h
 refine wpAny_execs_cons (Bs (h1 pins s σ H D I h) fun f s1 q=>?_)
 cases f with
 | next=>exact wpAny_execs_nil q
 | ret v=>exact q
 | brk=>exact q
 | cont=>exact q
noncomputable def U3:TS:=fun D σ H=>D.bk σ H
theorem Py:PS X (.Break pos) U3:=fun _ _ σ H _ I h=>wpAny_Break ⟨σ,H,I,h⟩
theorem Inv.quiet {pins:List (Addr × Obj)} {σ:St} {H:Hp} {s:Shared} (I:Inv X pins σ H s):interactive X.env=false:=by simp [interactive,I.ok.kind]
noncomputable def Ur (te:TE):TS:=fun D σ H=>te σ H fun _ H1=>D.nx σ H1
theorem HD (he:PE X e te) (hs:swapsWith e none pos.line X.env=pure false:=by rfl):PS X (.Expr e pos) (Ur te):=by
 intro pins s σ H D I h
 exact wpAny_Expr_any (Bs (he pins s σ H _ I h) fun v s1 ⟨x,H1,I1,r1,q1⟩=>⟨σ,H1,I1,q1⟩) I.quiet hs
noncomputable def aX (te:TE):TS:=fun D σ H=>te σ H D.rt
theorem Ay (he:PE X e te):PS X (.Return (some e) pos) (aX te):=by
 intro pins s σ H D I h
 exact wpAny_Return_some (Bs (he pins s σ H _ I h) fun v s1 ⟨x,H1,I1,r1,q1⟩=>⟨x,σ,H1,I1,r1,q1⟩)
noncomputable def bh (c:TT) (t u:TS):TS:=fun D σ H=>c σ H fun b H1=>if b=true then t D σ H1 else u D σ H1
theorem Br {c:Expr} {a b:List Stmt} {tc:TT} (hc:PT X c tc) (ha:Mw X a t) (hb:Mw X b u):PS X (.If c a b pos) (bh tc t u):=by
 intro pins s σ H D I h
 refine wpAny_If (Bs (hc pins s σ H _ I h) fun d s1 hq0=>?_)
 obtain ⟨H1,I1,q1⟩:=hq0
 cases d with
 | true=>exact ha pins s1 σ H1 D I1 q1
 | false=>exact hb pins s1 σ H1 D I1 q1
noncomputable def Vi:TS:=fun _ _ _=>False
theorem G_:PS X st Vi:=fun _ _ _ _ _ _ h=>h.elim
end
noncomputable abbrev TG:=V->St->Hp->(St->Hp->Prop)->Prop
noncomputable abbrev U7:=List V->St->Hp->(St->Hp->Prop)->Prop
noncomputable def PG (X:Cx) (target:Expr) (t:TG):Prop :=
 ∀ (pins:List (Addr × Obj)) (s:Shared) (σ:St) (H:Hp) (v:V) (u:Value) (Q:St->Hp->Prop),Inv X pins σ H s->RelV v u->t v σ H Q ->
  wpAny (model X.prog X.w) X.A (assign target X.env u) (fun _ s'=>∃ σ' H',Inv X pins σ' H' s'/\Q σ' H') X.xe s
noncomputable def ZD (X:Cx) (ts:List Expr) (t:U7):Prop :=
 ∀ (pins:List (Addr × Obj)) (s:Shared) (σ:St) (H:Hp) (vs:List V) (us:List Value) (Q:St->Hp->Prop),Inv X pins σ H s->Vals vs us->t vs σ H Q ->
  wpAny (model X.prog X.w) X.A (assignInOrder ((assignEach ts X.env).map (·.2)) us) (fun _ s'=>∃ σ' H',Inv X pins σ' H' s'/\Q σ' H') X.xe s
section
variable {X:Cx} {pos:Pos}
noncomputable def Gh (i:Nat):TG:=fun v σ H Q=>Q (σ.set i (some v)) H
theorem CG {i:Nat} {x:Str} (hN:X.N.Nodup) (hi:X.N[i]? = some x) (hx:Loc X.env.scope x) (hf:X.fn x=true \/ X.env.scope.names.lookup x=some .local:=by first | exact .inl rfl | exact .inr rfl | assumption):PG X (.Name x pos) (Gh i):=by
 intro pins s σ H v u Q I r h
 exact wpAny_assign_Name (Iv I hN hi hx r (fun s' I'=>⟨_,H,I',h⟩) hf)
noncomputable def Tg:U7:=fun vs σ H Q=>vs=[]/\Q σ H
noncomputable def JB (t:TG) (u:U7):U7:=fun vs σ H Q=>∃ v r,vs=v::r/\t v σ H fun σ' H'=>u r σ' H' Q
theorem HB:ZD X [] Tg:=by
 intro pins s σ H vs us Q I r h
 obtain ⟨e,h⟩:=h
 subst e
 cases r
 exact assignInOrder_nil ⟨σ,H,I,h⟩
theorem Cr {e:Expr} {es:List Expr} {t:TG} {u:U7} (h1:PG X e t) (h2:ZD X es u)
  (hs:(assignEach (e::es) X.env).map (·.2)=assign e X.env::(assignEach es X.env).map (·.2):=by rfl):ZD X (e::es) (JB t u):=by
 intro pins s σ H vs us Q I r h
 obtain ⟨v,vr,e1,h⟩:=h
 subst e1
 cases r with
 | cons r rr =>
  rw [hs]
  refine assignInOrder_cons (Bs (h1 pins s σ H _ _ _ I r h) fun _ s1 hq0=>?_)
  obtain ⟨σ1,H1,I1,q1⟩:=hq0
  exact h2 pins s1 σ1 H1 _ _ Q I1 rr q1
noncomputable def TQ (K:PySem.W.Frag) (n:Nat) (t:U7):TG:=fun v σ H Q=>∃ a xs,v=.ref a/\Fo K H a xs/\xs.length=n/\t xs σ H Q
theorem Ij {es:List Expr} {k:Nat} {t:U7} {n:Nat} (hc:X.calm=true) (h:ZD X es t)
  (hn:(assignEach es X.env).length=n:=by rfl) (hst:(assignEach es X.env).findIdx? (·.1)=none:=by rfl):PG X (.Tuple es k pos) (TQ X.K n t):=by
 intro pins s σ H v u Q I r hw
 obtain ⟨a,xs,e1,hq,hl,hw⟩:=hw
 subst e1
 cases r
 obtain ⟨its,rv,ht,hz⟩:=I.tuple hq
 refine assign_Tuple_tuple (I.ok.hd hc) ht (by simp [hn,← hl,rv.length]) hst fun h' hx=>?_
 have I1:Inv X pins σ H { s with heap:=h' }:=I.kept (t':=s.toks) fun b o e=>hx b o (Nat.ne_of_lt (Heap.lt_size e)) e
 exact h pins _ σ H xs _ Q I1 (by simpa using rv) hw
noncomputable def Yk (te:TE) (g:TG):TS:=fun D σ H=>te σ H fun x H1=>g x σ H1 D.nx
theorem CT {i:Nat} {x:Str} {e:Expr} {te:TE} {pos':Pos} (hN:X.N.Nodup) (hi:X.N[i]? = some x) (hx:Loc X.env.scope x) (he:PE X e te) (hs:swapsWith e (some (.Name x pos')) pos.line X.env=pure false:=by rfl) (hf:X.fn x=true \/ X.env.scope.names.lookup x=some .local:=by first | exact .inl rfl | exact .inr rfl | assumption) :
  PS X (.Assign [.Name x pos'] e pos) (Yk te (Gh i)):=by
 intro pins s σ H D I h
 refine wpAny_Assign_Name (Bs (he pins s σ H _ I h) fun v s1 ⟨y,H1,I1,r1,q1⟩=>?_) hs
 exact Iv I1 hN hi hx r1 (fun s2 I2=>⟨_,H1,I2,q1⟩) hf
end
section
variable {X:Cx} {pos:Pos}
end
structure It where
 go:Nat->Hp->Prop
 yld:Nat->Hp->V->Hp->Prop
 stop:Nat->Hp->Prop
noncomputable def FW (X:Cx) (pins:List (Addr × Obj)) (H:Hp) (b:Addr):Prop :=
 H b=none/\b ≠ X.env.locals/\b ∉ X.fs/\(b∈X.ex \/ X.s₀.heap.objs.size<=b)/\(∀ x c,X.env.cells.lookup x=some c->c ≠ b)/\∀ p∈X.pn++pins,p.1 ≠ b
theorem Inv.Jy {X:Cx} {pins:List (Addr × Obj)} {σ:St} {H H':Hp} {s:Shared} {b:Addr} (I:Inv X pins σ H s) (hb:s.heap.objs.size<=b) (hn:H' b=none):FW X pins H' b:=by
 refine ⟨hn,Nat.ne_of_gt (Nat.lt_of_lt_of_le I.lt hb),I.ZZ hb,.inr (Nat.le_trans I.sz hb),fun x c e z=>?_,fun p hp z=>?_⟩
 ·obtain ⟨v,q⟩:=I.cell x c e
  exact absurd (Nat.lt_of_lt_of_le q.lt (by rw [z]; exact hb)) (Nat.lt_irrefl _)
 ·exact absurd (Nat.lt_of_lt_of_le (Heap.lt_size (I.pin p hp).1) (by rw [z]; exact hb)) (Nat.lt_irrefl _)
structure Turn (P:Program) (w:World) (K:PySem.W.Frag) (tg:Expr) (J:It) (fp:List Addr) (it:Addr) (tn:Nat->Heap->Prop):Prop where
 mem:it∈fp
 obj:∀ i h,tn i h->∀ b∈fp,∃ o,h.get? b=some o/\∀ v,o.data ≠ .cell v
 keep:∀ i h h',tn i h->(∀ b∈fp,∀ o,h.get? b=some o->h'.get? b=some o)->tn i h'
 item:∀ (X:Cx),X.prog=P->X.w=w->X.K=K->X.calm=true->∀ (i:Nat) (pins:List (Addr × Obj)) (s:Shared) (σ:St) (H:Hp) (E:Value->Shared->Prop),Inv X pins σ H s->(∀ b∈fp,FW X pins H b)->tn i s.heap->J.go i H ->
  wpAny (model P w) X.A (pyNext (.ref it)) (fun r s1=>∃ u,r=some u /\
   wpAny (model P w) X.A (letOwnedTupleGo tg (.ref it) u) (fun _ s2=>∃ x H',Inv X pins σ H' s2/\RelV x u/\J.yld i H x H'/\tn (i+1) s2.heap/\∀ b∈fp,H' b=none) E s1) E s
 done:∀ (X:Cx),X.prog=P->X.w=w->X.K=K->X.calm=true->∀ (i:Nat) (pins:List (Addr × Obj)) (s:Shared) (σ:St) (H:Hp) (E:Value->Shared->Prop),Inv X pins σ H s->(∀ b∈fp,FW X pins H b)->tn i s.heap->J.stop i H ->
  wpAny (model P w) X.A (pyNext (.ref it)) (fun r s1=>r=none/\Inv X pins σ H s1) E s
 self:∀ (A:Around) (i:Nat) (s:Shared) (Q:Value->Shared->Prop) (E:Value->Shared->Prop),tn i s.heap->Q (.ref it) s->wpAny (model P w) A (pyIter (.ref it)) Q E s
noncomputable abbrev TI:=St->Hp->(It->Hp->Prop)->Prop
noncomputable def PIE (X:Cx) (pins:List (Addr × Obj)) (σ:St) (tg:Expr) (R:It->Hp->Prop) (itv:Value) (s2:Shared):Prop :=
 ∃ (it:Addr) (fp:List Addr) (tn:Nat->Heap->Prop) (J:It) (H':Hp),itv=.ref it/\Inv X pins σ H' s2/\Turn X.prog X.w X.K tg J fp it tn/\tn 0 s2.heap/\(∀ b∈fp,FW X pins H' b)/\R J H'
noncomputable def PI (X:Cx) (tg iter:Expr) (wi:TI):Prop :=
 ∀ (pins:List (Addr × Obj)) (s:Shared) (σ:St) (H:Hp) (R:It->Hp->Prop),Inv X pins σ H s->wi σ H R ->
  wpAny (model X.prog X.w) X.A (eval iter X.env) (fun v s1=>wpAny (model X.prog X.w) X.A (pyIter v) (PIE X pins σ tg R) X.xe s1) X.xe s
theorem KR {M:Model} {A:Around} {E:Value->Shared->Prop} {s:Shared} {tg:Expr} {it:Addr} {u:Value} {o:Obj} {n:String} {vs:Array Value} {Q:Unit->Shared->Prop} (ho:s.heap.get? it=some o) (hc:o.cls=.type n) (hd:o.data=.fields vs)
  (hn:["enumerate","zip","dict_itemiterator","dict_reverseitemiterator","odict_iterator","itertools.zip_longest","itertools.pairwise"].contains n=false) (hQ:Q () s):wpAny M A (letOwnedTupleGo tg (.ref it) u) Q E s:=by
 unfold letOwnedTupleGo
 cases tg <;> first
  | exact wpAny_pure hQ
  | (cases u <;> first
    | exact wpAny_pure hQ
    | (refine wpAny_bind (wpAny_load ho ?_)
       rw [hc,hd]
       show wpAny M A (if (["enumerate","zip","dict_itemiterator","dict_reverseitemiterator","odict_iterator","itertools.zip_longest","itertools.pairwise"].contains n && vs[0]? == some (rawInt _))=true then _ else _) Q E s
       rw [if_neg (by intro h; rw [hn,Bool.false_and] at h; cases h)]
       exact wpAny_pure hQ))
noncomputable def Vc (K:PySem.W.Frag) (a:Addr):It :=
 ⟨fun i H=>∃ xs x,Cz K H a xs/\xs[i]? = some x,fun i H x H'=>H'=H/\∀ xs,Cz K H a xs->xs[i]? = some x,fun i H=>∃ xs,Cz K H a xs/\xs.length<=i⟩
noncomputable def aW (K:PySem.W.Frag) (a:Addr):It :=
 ⟨fun i H=>∃ xs x,Fo K H a xs/\xs[i]? = some x,fun i H x H'=>H'=H/\∀ xs,Fo K H a xs->xs[i]? = some x,fun i H=>∃ xs,Fo K H a xs/\xs.length<=i⟩
noncomputable def VH (lo:Int) (n:Nat):It:=⟨fun i _=>i<n,fun i H x H'=>H'=H/\x=.int (lo+i),fun i _=>n<=i⟩
theorem PN {P:Program} {w:World} {K:PySem.W.Frag} {tg:Expr} (a it:Addr):Turn P w K tg (Vc K a) [it] it (fun i h=>h.IsListIter it a i) where
 mem:=by simp
 obj:=fun i h st b hb=>by
  have e:b=it:=by simpa using hb
  subst e
  obtain ⟨o,e,c,d⟩:=st
  exact ⟨o,e,fun v z=>by rw [d] at z; cases z⟩
 keep:=fun i h h' st k=>st.at fun o e=>k it (by simp) o e
 item:=by
  intro X hP hw hK hc i pins s σ H E I hf st hg
  subst hP hw hK
  obtain ⟨xs,x,hq,hx⟩:=hg
  obtain ⟨its,rv,p,hz⟩:=I.list hq
  obtain ⟨u,hu,ru⟩:=rv.get hx
  obtain ⟨f0,f1,f2,f3,f4,f5⟩:=hf it (by simp)
  refine wpAny_pyNext_list_item st p.isList (x:=u) (by simpa using hu) fun h' st' sb=>?_
  have I1:Inv X pins σ H { s with heap:=h' }:=I.turned (t':=s.toks) (fun b o hb e=>(sb.2 b hb).trans e) f0 f1 f3 f4 f5
  obtain ⟨o,e,c,d⟩:=id st'
  exact ⟨u,rfl,KR (s:={ s with heap:=h' }) e c d (by decide) ⟨x,H,I1,ru,⟨rfl,fun ys hy=>by rw [I.Ke hy hq]; exact hx⟩,st',fun b hb=>(hf b hb).1⟩⟩
 done:=by
  intro X hP hw hK hc i pins s σ H E I hf st hg
  subst hP hw hK
  obtain ⟨xs,hq,hx⟩:=hg
  obtain ⟨its,rv,p,hz⟩:=I.list hq
  obtain ⟨f0,f1,f2,f3,f4,f5⟩:=hf it (by simp)
  have hl:=rv.length
  exact wpAny_pyNext_list_end (I.ok.hd hc) st p.isList (by simp; omega) fun h' eb=>⟨rfl,I.turned (t':=s.toks) (fun b o hb e=>eb b o hb e) f0 f1 f3 f4 f5⟩
 self:=fun _ _ _ _ _ st h=>wpAny_pyIter_listiter st h
theorem Ml {P:Program} {w:World} {K:PySem.W.Frag} {tg:Expr} (a it:Addr):Turn P w K tg (aW K a) [it] it (fun i h=>h.IsTupleIter it a i) where
 mem:=by simp
 obj:=fun i h st b hb=>by
  have e:b=it:=by simpa using hb
  subst e
  obtain ⟨o,e,c,d⟩:=st
  exact ⟨o,e,fun v z=>by rw [d] at z; cases z⟩
 keep:=fun i h h' st k=>st.at fun o e=>k it (by simp) o e
 item:=by
  intro X hP hw hK hc i pins s σ H E I hf st hg
  subst hP hw hK
  obtain ⟨xs,x,hq,hx⟩:=hg
  obtain ⟨its,rv,p,hz⟩:=I.tuple hq
  obtain ⟨u,hu,ru⟩:=rv.get hx
  obtain ⟨f0,f1,f2,f3,f4,f5⟩:=hf it (by simp)
  refine wpAny_pyNext_tuple_item st (show s.heap.IsTuple a its.toArray from p) (x:=u) (by simpa using hu) fun h' st' sb=>?_
  have I1:Inv X pins σ H { s with heap:=h' }:=I.turned (t':=s.toks) (fun b o hb e=>(sb.2 b hb).trans e) f0 f1 f3 f4 f5
  obtain ⟨o,e,c,d⟩:=id st'
  exact ⟨u,rfl,KR (s:={ s with heap:=h' }) e c d (by decide) ⟨x,H,I1,ru,⟨rfl,fun ys hy=>by rw [I.Hk hy hq]; exact hx⟩,st',fun b hb=>(hf b hb).1⟩⟩
 done:=by
  intro X hP hw hK hc i pins s σ H E I hf st hg
  subst hP hw hK
  obtain ⟨xs,hq,hx⟩:=hg
  obtain ⟨its,rv,p,hz⟩:=I.tuple hq
  obtain ⟨f0,f1,f2,f3,f4,f5⟩:=hf it (by simp)
  have hl:=rv.length
  exact wpAny_pyNext_tuple_end (I.ok.hd hc) st (show s.heap.IsTuple a its.toArray from p) (by simp; omega) fun h' eb=>⟨rfl,I.turned (t':=s.toks) (fun b o hb e=>eb b o hb e) f0 f1 f3 f4 f5⟩
 self:=fun _ _ _ _ _ st h=>wpAny_pyIter_tupleiter st h
theorem Lx {P:Program} {w:World} {K:PySem.W.Frag} {tg:Expr} (it:Addr) (lo:Int) (n:Nat):Turn P w K tg (VH lo n) [it] it (fun i h=>IsRangeIter h it (lo+(i:Nat) * 1) ((n:Int) - (i:Nat)) 1) where
 mem:=by simp
 obj:=fun i h st b hb=>by
  have e:b=it:=by simpa using hb
  subst e
  exact ⟨_,st,fun v z=>by
   have z':Data.fields _=Data.cell v:=z
   cases z'⟩
 keep:=fun i h h' st k=>k it (by simp) _ st
 item:=by
  intro X hP hw hK hc i pins s σ H E I hf st hg
  subst hP hw hK
  obtain ⟨f0,f1,f2,f3,f4,f5⟩:=hf it (by simp)
  have W:=Walks.range (prog:=X.prog) (w:=X.w) (I.ok.hd hc) it lo 1 n
  refine W.item i s _ _ hg st fun v h' tk hv st' kk=>?_
  obtain ⟨t,rfl⟩:=hv
  have I1:Inv X pins σ H { s with heap:=h',toks:=tk }:=I.turned (fun b o hb e=>kk b o (by simpa using hb) e) f0 f1 f3 f4 f5
  refine ⟨_,rfl,KR (s:={ s with heap:=h',toks:=tk }) (n:="range_iterator") st' rfl rfl (by decide) ⟨.int (lo+i),H,I1,⟨t,?_⟩,⟨rfl,rfl⟩,st',fun b hb=>(hf b hb).1⟩⟩
  rw [Int.mul_one]
 done:=by
  intro X hP hw hK hc i pins s σ H E I hf st hg
  subst hP hw hK
  obtain ⟨f0,f1,f2,f3,f4,f5⟩:=hf it (by simp)
  exact wpAny_pyNext_range_end (I.ok.hd hc) st (by have:n<=i:=hg; omega) fun h' eb=>⟨rfl,I.turned (t':=s.toks) (fun b o hb e=>eb b o hb e) f0 f1 f3 f4 f5⟩
 self:=fun _ _ _ _ _ st h=>wpAny_pyIter_rangeiter st h
end L2
namespace L2
open PySem PySem.Spec PyProof.Rows
section
variable {X:Cx} {tg:Expr}
noncomputable def XM (K:PySem.W.Frag) (tl:TE):TI:=fun σ H R=>tl σ H fun x H1=>∃ a,x=.ref a/\(∃ xs,Cz K H1 a xs)/\R (Vc K a) H1
noncomputable def Z6 (K:PySem.W.Frag) (tl:TE):TI:=fun σ H R=>tl σ H fun x H1=>∃ a,x=.ref a/\(∃ xs,Fo K H1 a xs)/\R (aW K a) H1
theorem CK {l:Expr} {tl:TE} (hl:PE X l tl):PI X tg l (XM X.K tl):=by
 intro pins s σ H R I h
 refine Bs (hl pins s σ H _ I h) fun v s1 hq0=>?_
 obtain ⟨x,H1,I1,r1,q1⟩:=hq0
 obtain ⟨a,e,⟨xs,hq⟩,q⟩:=q1
 subst e
 cases r1
 obtain ⟨its,rv,p,hz⟩:=I1.list hq
 refine wpAny_pyIter_list p.isList ?_
 refine ⟨s1.heap.objs.size,[s1.heap.objs.size],_,_,H1,rfl,I1.kept (t':=s1.toks) fun b o e=>Heap.get?_push_of_some _ e,PN a _,⟨_,Heap.get?_push_size _ rfl,rfl,rfl⟩,fun b hb=>?_,q⟩
 have e:b=s1.heap.objs.size:=by simpa using hb
 subst e
 exact I1.Jy (Nat.le_refl _) (I1.hok.fresh (Nat.le_refl _))
theorem Mp {l:Expr} {tl:TE} (hl:PE X l tl):PI X tg l (Z6 X.K tl):=by
 intro pins s σ H R I h
 refine Bs (hl pins s σ H _ I h) fun v s1 hq0=>?_
 obtain ⟨x,H1,I1,r1,q1⟩:=hq0
 obtain ⟨a,e,⟨xs,hq⟩,q⟩:=q1
 subst e
 cases r1
 obtain ⟨its,rv,p,hz⟩:=I1.tuple hq
 refine wpAny_pyIter_tuple (show s1.heap.IsTuple a its.toArray from p) ?_
 refine ⟨s1.heap.objs.size,[s1.heap.objs.size],_,_,H1,rfl,I1.kept (t':=s1.toks) fun b o e=>Heap.get?_push_of_some _ e,Ml a _,⟨_,Heap.get?_push_size _ rfl,rfl,rfl⟩,fun b hb=>?_,q⟩
 have e:b=s1.heap.objs.size:=by simpa using hb
 subst e
 exact I1.Jy (Nat.le_refl _) (I1.hok.fresh (Nat.le_refl _))
theorem QW {pins:List (Addr × Obj)} {σ:St} {H:Hp} {s:Shared} {R:It->Hp->Prop} {E:Value->Shared->Prop} {lo hi:Int} {t u v:Tok} {tk:Nat} (I:Inv X pins σ H s) (h1 : -(2 ^ 62)<=lo) (h2:lo<2 ^ 62) (h3 : -(2 ^ 62)<=hi) (h4:hi<2 ^ 62)
  (q:R (VH lo (hi - lo).toNat) H):wpAny (model X.prog X.w) X.A (pyIter (.ref s.heap.objs.size)) (PIE X pins σ tg R) E { s with heap:=s.heap.push { cls:=.type "range",data:=.fields #[.int lo t,.int hi u,.int 1 v] },toks:=tk }:=by
 refine wpAny_pyIter_range (IsRange.new ..) (small_one h1 h2 h3 h4) ?_
 have I1:Inv X pins σ H { s with heap:=s.heap.push { cls:=.type "range",data:=.fields #[.int lo t,.int hi u,.int 1 v] },toks:=tk }:=I.kept fun b o e=>Heap.get?_push_of_some _ e
 refine ⟨(s.heap.push { cls:=.type "range",data:=.fields #[.int lo t,.int hi u,.int 1 v] }).objs.size,[(s.heap.push { cls:=.type "range",data:=.fields #[.int lo t,.int hi u,.int 1 v] }).objs.size],_,_,H,rfl,
  I1.kept (t':=tk) fun b o e=>Heap.get?_push_of_some _ e,Lx _ lo (hi - lo).toNat,?_,fun b hb=>?_,q⟩
 ·have e1:lo+((0:Nat):Int) * 1=lo:=by simp
  have e2:(((hi - lo).toNat:Nat):Int) - ((0:Nat):Int)=Builtin.Range.rangeSize lo hi 1:=by rw [rangeSize_one]; split <;> omega
  show IsRangeIter _ _ (lo+((0:Nat):Int) * 1) ((((hi - lo).toNat:Nat):Int) - ((0:Nat):Int)) 1
  rw [e1,e2]
  exact Heap.get?_push_size _ rfl
 ·have e:b=(s.heap.push { cls:=.type "range",data:=.fields #[.int lo t,.int hi u,.int 1 v] }).objs.size:=by simpa using hb
  subst e
  exact I1.Jy (Nat.le_refl _) (I1.hok.fresh (Nat.le_refl _))
noncomputable def Wm (ta:TA):TI:=fun σ H R=>ta σ H fun vs H1=>∃ j:Int,vs=[.int j] /\ -(2 ^ 62)<=j/\j<2 ^ 62/\R (VH 0 j.toNat) H1
theorem Bm {a:Expr} {ta:TA} {p pos:Pos} (hg:Gl X "range") (hm:X.mg "range" = none) (ha:PA X [a] ta) (hs:starEach [a] X.env=[(false,eval a X.env)]:=by rfl):PI X tg (.Call (.Name "range" p) [a] [] pos) (Wm ta):=by
 intro pins s σ H R I h
 refine Call_ (Gr I hg hm boot_range (PyProof.Rows.callWith_type1 (Bs (ha pos pins s σ H _ I h) fun us s1 ⟨vs,H1,I1,r1,q1⟩=>?_) hs rfl))
 obtain ⟨j,e,q1,q2,q⟩:=q1
 subst e
 cases r1 with
 | cons r rr =>
  cases rr
  obtain ⟨t,rfl⟩:=r
  exact call_range_1 (QW I1 (by omega) (by omega) q1 q2 (by simpa using q))
noncomputable def Z9 (wi:TI) (g:TG) (tb:TS):TS:=fun D σ H=>wi σ H fun J H1=>∃ W:Nat->Nat->St->Hp->Prop,(∃ m,W 0 m σ H1)/\∀ i m σ H,W i m σ H ->
 (J.stop i H/\D.nx σ H) \/ (J.go i H/\∃ N:St->Hp->Prop,(∀ σ' H',N σ' H'->∃ m',m'<m/\W (i+1) m' σ' H')/\∀ x H',J.yld i H x H'->g x σ H' fun σ2 H2=>tb { D with nx:=N,ct:=N,bk:=D.nx } σ2 H2)
noncomputable def HS (fp:List Addr) (h:Heap):List (Addr × Obj):=fp.filterMap fun b=>(h.get? b).map fun o=>(b,o)
theorem Dd {fp:List Addr} {h:Heap} {b:Addr} {o:Obj} (hb:b∈fp) (e:h.get? b=some o):(b,o)∈HS fp h:=List.mem_filterMap.mpr ⟨b,hb,by rw [e]; rfl⟩
theorem O5 {fp:List Addr} {h:Heap} {p:Addr × Obj} (hp:p∈HS fp h):p.1∈fp/\h.get? p.1=some p.2:=by
 obtain ⟨b,hb,e⟩:=List.mem_filterMap.mp hp
 cases q:h.get? b with
 | none=>rw [q] at e; cases e
 | some o =>
  rw [q] at e
  have e':(b,o)=p:=Option.some.inj e
  subst e'
  exact ⟨hb,q⟩
theorem Inv.pinned {pins:List (Addr × Obj)} {σ:St} {H:Hp} {s:Shared} {fp:List Addr} (I:Inv X pins σ H s) (hf:∀ b∈fp,FW X pins H b) (ho:∀ b∈fp,∃ o,s.heap.get? b=some o/\∀ v,o.data ≠ .cell v):Inv X (pins++HS fp s.heap) σ H s :=
 I.M_ fun p hp=>(List.mem_append.mp hp).elim (fun z=>I.pin p (List.mem_append_right _ z)) fun z=>by
  obtain ⟨hb,e⟩:=O5 z
  obtain ⟨f0,f1,f2,_⟩:=hf p.1 hb
  obtain ⟨o,e',d⟩:=ho p.1 hb
  rw [e] at e'; cases e'
  exact ⟨e,f0,f1,f2,d⟩
theorem Inv.Fp {pins pl:List (Addr × Obj)} {σ:St} {H:Hp} {s:Shared} (I:Inv X (pins++pl) σ H s):Inv X pins σ H s:=I.M_ fun p hp=>I.pin p (List.mem_append_right _ (List.mem_append_left _ hp))
theorem FT {iter:Expr} {body:List Stmt} {wi:TI} {g:TG} {tb:TS} {pos:Pos} (hp:PassesOwn (model X.prog X.w) X.A X.env X.xe) (hc:X.calm=true) (hi:PI X tg iter wi) (hg:PG X tg g) (hb:Mw X body tb)
  (hs:∀ x,foldedSetIterable iter X.env x=pure x:=by intro _; rfl):PS X (.For tg iter body [] pos) (Z9 wi g tb):=by
 intro pins s σ H D I h
 refine wpAny_For (Bs (hi pins s σ H _ I h) fun v s1 h1=>Bs h1 fun itv s2 h2=>?_) hs
 obtain ⟨it,fp,tn,J,H2,e,I2,T,st2,f2,W,⟨m0,w0⟩,turn⟩:=h2
 subst e
 have stat:∀ {H':Hp},(∀ b∈fp,H' b=none)->∀ b∈fp,FW X pins H' b:=fun hn b hb=>⟨hn b hb,(f2 b hb).2⟩
 refine codeAny_forLoop_any (fun n s'=>∃ i σ' H',Inv X pins σ' H' s'/\tn i s'.heap/\(∀ b∈fp,H' b=none)/\W i n σ' H') ?_ m0 ⟨0,σ,H2,I2,st2,fun b hb=>(f2 b hb).1,w0⟩
 rintro n s3 ⟨i,σ3,H3,I3,st3,fr3,w3⟩
 rcases turn i n σ3 H3 w3 with ⟨stop,qn⟩ | ⟨go,N,hN,step⟩
 ·refine wpAny_passesOwn hp (Bs (T.done X rfl rfl rfl hc i pins s3 σ3 H3 X.xe I3 (stat fr3) st3 stop) fun r s4 ⟨hr,I4⟩=>?_)
  subst hr
  exact wpAny_execs_nil ⟨σ3,H3,I4,qn⟩
 ·refine wpAny_passesOwn hp (Bs (T.item X rfl rfl rfl hc i pins s3 σ3 H3 X.xe I3 (stat fr3) st3 go) fun r s4 ⟨u,hr,h4⟩=>?_)
  subst hr
  refine wpAny_passesOwn hp (Bs h4 fun _ s5 hq0=>?_)
  obtain ⟨x,H5,I5,r5,y5,st5,fr5⟩:=hq0
  have I5':=I5.pinned (stat fr5) (T.obj _ _ st5)
  refine wpAny_passesOwn hp (Bs (hg _ s5 σ3 H5 x u _ I5' r5 (step x H5 y5)) fun _ s6 hq0=>?_)
  obtain ⟨σ6,H6,I6,q6⟩:=hq0
  refine wpAny_passesOwn hp (Bs (hb _ s6 σ6 H6 _ I6 q6) fun f s7 q7=>?_)
  have again:∀ {σ7:St} {H7:Hp},Inv X (pins++HS fp s5.heap) σ7 H7 s7->N σ7 H7->∃ m,m<n/\∃ i σ' H',Inv X pins σ' H' s7/\tn i s7.heap/\(∀ b∈fp,H' b=none)/\W i m σ' H':=fun {σ7 H7} I7 n7=>by
   obtain ⟨m',hm,w7⟩:=hN σ7 H7 n7
   refine ⟨m',hm,i+1,σ7,H7,I7.Fp,T.keep _ _ _ st5 fun b hb o e=>(I7.pin (b,o) (List.mem_append_right _ (List.mem_append_right _ (Dd hb e)))).1,fun b hb=>?_,w7⟩
   obtain ⟨o,e,d⟩:=T.obj _ _ st5 b hb
   exact (I7.pin (b,o) (List.mem_append_right _ (List.mem_append_right _ (Dd hb e)))).2.1
  cases f with
  | next=>obtain ⟨σ7,H7,I7,n7⟩:=q7; exact again I7 n7
  | cont=>obtain ⟨σ7,H7,I7,n7⟩:=q7; exact again I7 n7
  | brk=>obtain ⟨σ7,H7,I7,q7⟩:=q7; exact ⟨σ7,H7,I7.Fp,q7⟩
  | ret v=>obtain ⟨x7,σ7,H7,I7,r7,q7⟩:=q7; exact ⟨x7,σ7,H7,I7.Fp,r7,q7⟩
end
theorem JC {K:PySem.W.Frag} {a:Addr} {xs:List V} {g:TG} {tb:TS} {D:Ends} {σ:St} {H:Hp} (Pv:Nat->St->Hp->Prop) (h0:Pv 0 σ H) (hl:∀ i σ H,i<=xs.length->Pv i σ H->Cz K H a xs)
  (hs:∀ i x σ H,xs[i]? = some x->Pv i σ H->g x σ H fun σ2 H2=>tb { D with nx:=Pv (i+1),ct:=Pv (i+1),bk:=D.nx } σ2 H2) (hd:∀ σ H,Pv xs.length σ H->D.nx σ H) :
  ∃ W:Nat->Nat->St->Hp->Prop,(∃ m,W 0 m σ H)/\∀ i m σ H,W i m σ H ->
   ((Vc K a).stop i H/\D.nx σ H) \/ ((Vc K a).go i H/\∃ N:St->Hp->Prop,(∀ σ' H',N σ' H'->∃ m',m'<m/\W (i+1) m' σ' H')/\∀ x H',(Vc K a).yld i H x H'->g x σ H' fun σ2 H2=>tb { D with nx:=N,ct:=N,bk:=D.nx } σ2 H2):=by
 refine ⟨fun i m σ H=>m=xs.length - i/\i<=xs.length/\Pv i σ H,⟨xs.length,by simp,Nat.zero_le _,h0⟩,?_⟩
 rintro i m σ H ⟨rfl,hi,p⟩
 have q:=hl i σ H hi p
 by_cases hlt:i<xs.length
 ·refine .inr ⟨⟨xs,xs[i],q,by simp [hlt]⟩,Pv (i+1),fun σ' H' p'=>⟨xs.length - (i+1),by omega,rfl,hlt,p'⟩,fun x H' y=>?_⟩
  obtain ⟨e,y⟩:=y
  subst e
  exact hs i x σ _ (y xs q) p
 ·have e:i=xs.length:=by omega
  subst e
  exact .inl ⟨⟨xs,q,Nat.le_refl _⟩,hd σ H p⟩
theorem O9 {lo:Int} {n:Nat} {g:TG} {tb:TS} {D:Ends} {σ:St} {H:Hp} (Pv:Nat->St->Hp->Prop) (h0:Pv 0 σ H)
  (hs:∀ i σ H,i<n->Pv i σ H->g (.int (lo+i)) σ H fun σ2 H2=>tb { D with nx:=Pv (i+1),ct:=Pv (i+1),bk:=D.nx } σ2 H2) (hd:∀ σ H,Pv n σ H->D.nx σ H) :
  ∃ W:Nat->Nat->St->Hp->Prop,(∃ m,W 0 m σ H)/\∀ i m σ H,W i m σ H ->
   ((VH lo n).stop i H/\D.nx σ H) \/ ((VH lo n).go i H/\∃ N:St->Hp->Prop,(∀ σ' H',N σ' H'->∃ m',m'<m/\W (i+1) m' σ' H')/\∀ x H',(VH lo n).yld i H x H'->g x σ H' fun σ2 H2=>tb { D with nx:=N,ct:=N,bk:=D.nx } σ2 H2):=by
 refine ⟨fun i m σ H=>m=n - i/\i<=n/\Pv i σ H,⟨n,by simp,Nat.zero_le _,h0⟩,?_⟩
 rintro i m σ H ⟨rfl,hi,p⟩
 by_cases hlt:i<n
 ·refine .inr ⟨hlt,Pv (i+1),fun σ' H' p'=>⟨n - (i+1),by omega,rfl,hlt,p'⟩,fun x H' y=>?_⟩
  obtain ⟨e,y⟩:=y
  subst e y
  exact hs i σ _ hlt p
 ·have e:i=n:=by omega
  subst e
  exact .inl ⟨Nat.le_refl _,hd σ H p⟩
end L2
namespace L2
open PySem PySem.Spec PyProof.Rows
noncomputable abbrev R2:=V->V->Hp->VK->Prop
noncomputable def Gu (X:Cx) (f:Value->Value->Sem Value) (r:R2):Prop :=
 ∀ (pins:List (Addr × Obj)) (s:Shared) (σ:St) (H:Hp) (x y:V) (v u:Value) (Q:VK),Inv X pins σ H s->RelV x v->RelV y u->r x y H Q ->
  wpAny (model X.prog X.w) X.A (f v u) (EP X pins σ Q) X.xe s
noncomputable def Z_ (X:Cx) (f:Value->Sem Value) (r:V->Hp->VK->Prop):Prop :=
 ∀ (pins:List (Addr × Obj)) (s:Shared) (σ:St) (H:Hp) (x:V) (v:Value) (Q:VK),Inv X pins σ H s->RelV x v->r x H Q ->
  wpAny (model X.prog X.w) X.A (f v) (EP X pins σ Q) X.xe s
noncomputable def Ex (X:Cx) (f:Value) (r:List V->Hp->VK->Prop):Prop :=
 ∀ (pins:List (Addr × Obj)) (s:Shared) (σ:St) (H:Hp) (xs:List V) (us:List Value) (Q:VK),Inv X pins σ H s->Vals xs us->r xs H Q ->
  wpAny (model X.prog X.w) X.A (call f us) (EP X pins σ Q) X.xe s
noncomputable def bf (X:Cx) (r:V->Hp->(Bool->Hp->Prop)->Prop):Prop :=
 ∀ (pins:List (Addr × Obj)) (s:Shared) (σ:St) (H:Hp) (x:V) (v:Value) (Q:Bool->Hp->Prop),Inv X pins σ H s->RelV x v->r x H Q ->
  wpAny (model X.prog X.w) X.A (truthy v) (TP X pins σ Q) X.xe s
noncomputable def Yo (r:R2) (ta tb:TE):TE:=fun σ H Q=>ta σ H fun x H1=>tb σ H1 fun y H2=>r x y H2 Q
noncomputable def dN (r:V->Hp->VK->Prop) (ta:TE):TE:=fun σ H Q=>ta σ H fun x H1=>r x H1 Q
noncomputable def rI (C:Int->Int->Prop) (g:Int->Int->V):R2:=fun x y H Q=>∃ i j,x=.int i/\y=.int j/\C i j/\Q (g i j) H
noncomputable def Ui (g:Int->Int->V):R2:=fun x y H Q=>∃ i j,x=.int i/\y=.int j/\Q (g i j) H
noncomputable def rU (g:Int->V):V->Hp->VK->Prop:=fun x H Q=>∃ i,x=.int i/\Q (g i) H
section
variable {X:Cx} {a b c:Expr} {ta tb tc:TE} {pos:Pos}
theorem Vj (ha:PE X a ta) (hb:PE X b tb) {pins:List (Addr × Obj)} {s:Shared} {σ:St} {H:Hp} {R:V->V->Hp->Prop} (I:Inv X pins σ H s)
  (h:ta σ H fun x H1=>tb σ H1 fun y H2=>R x y H2) {Q:Value->Shared->Prop} {f:Value->Value->Sem Value}
  (hf:∀ v u s2 x y H2,Inv X pins σ H2 s2->RelV x v->RelV y u->R x y H2->wpAny (model X.prog X.w) X.A (f v u) Q X.xe s2) :
  wpAny (model X.prog X.w) X.A (eval a X.env) (fun v s₁=>wpAny (model X.prog X.w) X.A (eval b X.env) (fun u s₂=>wpAny (model X.prog X.w) X.A (f v u) Q X.xe s₂) X.xe s₁) X.xe s:=by
 refine Bs (ha pins s σ H _ I h) fun v s1 hq0=>?_
 obtain ⟨x,H1,I1,r1,q1⟩:=hq0
 refine Bs (hb pins s1 σ H1 _ I1 q1) fun u s2 hq0=>?_
 obtain ⟨y,H2,I2,r2,q2⟩:=hq0
 exact hf v u s2 x y H2 I2 r1 r2 q2
theorem BP {op:Operator} {r:R2} (ho:Gu X (binaryOp op) r) (ha:PE X a ta) (hb:PE X b tb):PE X (.BinOp a op b pos) (Yo r ta tb):=by
 intro pins s σ H Q I h
 exact wpAny_BinOp (Vj ha hb I h fun v u s2 x y H2 I2 rx ry q=>ho pins s2 σ H2 x y v u Q I2 rx ry q)
theorem RJ {op:UnaryOp} {r:V->Hp->VK->Prop} (ho:Z_ X (unaryOp op) r) (ha:PE X a ta):PE X (.UnaryOp op a pos) (dN r ta):=by
 intro pins s σ H Q I h
 exact UnaryOp_ (Bs (ha pins s σ H _ I h) fun v s1 ⟨x,H1,I1,r1,q1⟩=>ho pins s1 σ H1 x v Q I1 r1 q1)
theorem Xe {f:Value->Value->Sem Value} {C:Int->Int->Prop} {g:Int->Int->Int}
  (rule:∀ (i j:Int) (t u:Tok) (s:Shared) (Q:Value->Shared->Prop) (E:Value->Shared->Prop),C i j->Q (.int (g i j) s.toks) { s with toks:=s.toks+1 }->wpAny (model X.prog X.w) X.A (f (.int i t) (.int j u)) Q E s) :
  Gu X f (rI C fun i j=>.int (g i j)):=by
 intro pins s σ H x y v u Q I rx ry h
 obtain ⟨i,j,rfl,rfl,hc,q⟩:=h
 obtain ⟨t,rfl⟩:=rx
 obtain ⟨t',rfl⟩:=ry
 exact rule i j t t' s _ _ hc ⟨.int (g i j),H,I.tok _,⟨_,rfl⟩,q⟩
theorem V1 {f:Value->Value->Sem Value} {g:Int->Int->Int}
  (rule:∀ (i j:Int) (t u:Tok) (s:Shared) (Q:Value->Shared->Prop) (E:Value->Shared->Prop),Q (.int (g i j) s.toks) { s with toks:=s.toks+1 }->wpAny (model X.prog X.w) X.A (f (.int i t) (.int j u)) Q E s) :
  Gu X f (Ui fun i j=>.int (g i j)):=by
 intro pins s σ H x y v u Q I rx ry h
 obtain ⟨i,j,rfl,rfl,q⟩:=h
 obtain ⟨t,rfl⟩:=rx
 obtain ⟨t',rfl⟩:=ry
 exact rule i j t t' s _ _ ⟨.int (g i j),H,I.tok _,⟨_,rfl⟩,q⟩
theorem U_ {f:Value->Value->Sem Value} {g:Int->Int->Bool}
  (rule:∀ (i j:Int) (t u:Tok) (s:Shared) (Q:Value->Shared->Prop) (E:Value->Shared->Prop),Q (.bool (g i j)) s->wpAny (model X.prog X.w) X.A (f (.int i t) (.int j u)) Q E s) :
  Gu X f (Ui fun i j=>.bl (g i j)):=by
 intro pins s σ H x y v u Q I rx ry h
 obtain ⟨i,j,rfl,rfl,q⟩:=h
 obtain ⟨t,rfl⟩:=rx
 obtain ⟨t',rfl⟩:=ry
 exact rule i j t t' s _ _ ⟨.bl (g i j),H,I,rfl,q⟩
noncomputable def ZW (i j:Int):Prop:=0<j/\j<1073741824
noncomputable def Wf (i j:Int):Prop:=0<=j/\j<=1000000/\i.natAbs<2 ^ 64
noncomputable def VJ (i j:Int):Prop:=(-(2 ^ 64)<i/\i<2 ^ 64) \/ (-(2 ^ 64)<j/\j<2 ^ 64)
theorem VJ.ok {i j:Int} (h:VJ i j):IntMulOk i j:=by
 rcases h with ⟨h1,h2⟩ | ⟨h1,h2⟩
 ·exact .of_left (intBits_le_64 h1 h2)
 ·exact .of_right (intBits_le_64 h1 h2)
theorem Ep:Gu X (binaryOp .Add) (Ui fun i j=>.int (i+j)):=V1 fun _ _ _ _ _ _ _ q=>add_int q
theorem Ek:Gu X (binaryOp .Sub) (Ui fun i j=>.int (i - j)):=V1 fun _ _ _ _ _ _ _ q=>sub_int q
theorem Hg:Gu X (binaryOp .Mult) (rI VJ fun i j=>.int (i * j)):=Xe fun _ _ _ _ _ _ _ hc q=>mul_int q hc.ok
theorem Gy:Gu X (binaryOp .FloorDiv) (rI ZW fun i j=>.int (i / j)):=Xe fun i j _ _ _ _ _ hc q=>by
 have h1:(0:Int)<j:=hc.1
 have h2:j<1073741824:=hc.2
 exact floordiv_int (by omega) (by rw [Int.fdiv_eq_ediv_of_nonneg i (by omega)]; exact q) (.inl (PyProof.noPylong_small (by omega)))
theorem Ej:Gu X (binaryOp .Mod) (rI (fun _ j=>0<j) fun i j=>.int (i % j)):=Xe fun i j _ _ _ _ _ hc q=>by
 have h1:(0:Int)<j:=hc
 exact mod_int' (by omega) (by rw [Int.fmod_eq_emod_of_nonneg i (by omega)]; exact q)
theorem Lk:Gu X (binaryOp .Pow) (rI Wf fun i j=>.int (i ^ j.toNat)):=Xe fun _ _ _ _ _ _ _ hc q=>pow_int_small hc.1 hc.2.1 hc.2.2 q
theorem Vs:Gu X (binaryOp .LShift) (rI Wf fun i j=>.int (i * 2 ^ j.toNat)):=Xe fun _ _ _ _ _ _ _ hc q=>lshift_int_small hc.1 hc.2.1 hc.2.2 q
theorem Y0:Gu X (binaryOp .BitOr) (Ui fun i j=>.int (Builtin.bitOr i j)):=V1 fun _ _ _ _ _ _ _ q=>or_int q
theorem du {f:Value->Sem Value} {g:Int->Int}
  (rule:∀ (i:Int) (t:Tok) (s:Shared) (Q:Value->Shared->Prop) (E:Value->Shared->Prop),Q (.int (g i) s.toks) { s with toks:=s.toks+1 }->wpAny (model X.prog X.w) X.A (f (.int i t)) Q E s) :
  Z_ X f (rU fun i=>.int (g i)):=by
 intro pins s σ H x v Q I rx h
 obtain ⟨i,rfl,q⟩:=h
 obtain ⟨t,rfl⟩:=rx
 exact rule i t s _ _ ⟨.int (g i),H,I.tok _,⟨_,rfl⟩,q⟩
theorem Mq:Z_ X (unaryOp .USub) (rU fun i=>.int (-i)):=du fun _ _ _ _ _ q=>neg_int q
end
noncomputable def YS:V->V->Bool
 | .non,.non=>true | .non,.int _=>true | .int _,.non=>true | .non,.bl _=>true | .bl _,.non=>true | .non,.str _=>true | .str _,.non=>true
 | .int _,.int _=>true | .bl _,.bl _=>true | .str _,.str _=>true | .byt _,.byt _=>true
 | .int _,.str _=>true | .str _,.int _=>true | .bl _,.str _=>true | .str _,.bl _=>true
 | _,_=>false
noncomputable def dq:R2:=fun x y H Q=>YS x y=true/\Q (.bl (decide (x=y))) H
noncomputable def dY:R2:=fun x y H Q=>YS x y=true/\Q (.bl (!decide (x=y))) H
theorem Nf {i j:Int}:decide (V.int i=V.int j)=(i == j):=by
 rw [Bool.eq_iff_iff]
 simp
theorem RM {i j:Bool}:decide (V.bl i=V.bl j)=(i == j):=by
 rw [Bool.eq_iff_iff]
 simp
theorem Ga {i j:Str}:decide (V.str i=V.str j)=(i == j):=by
 rw [Bool.eq_iff_iff]
 simp
theorem Nt {i j:Array UInt8}:decide (V.byt i=V.byt j)=(i.toList == j.toList):=by
 rw [Bool.eq_iff_iff]
 cases i
 cases j
 simp
section
variable {X:Cx} {a b c:Expr} {ta tb tc:TE} {pos:Pos}
theorem Bd {pins:List (Addr × Obj)} {σ:St} {H:Hp} {s:Shared} {Q:VK} {k k':Bool} (I:Inv X pins σ H s) (q:Q (.bl k) H) (e:k=k'):EP X pins σ Q (.bool k') s:=by
 subst e
 exact ⟨.bl k,H,I,rfl,q⟩
theorem Cu:Gu X (compareOp .Eq) dq:=by
 intro pins s σ H x y v u Q I rx ry h
 obtain ⟨hs,q⟩:=h
 cases x with
 | non =>
  cases rx
  cases y with
  | non=>cases ry; exact PySem.EqNone.eq_none_none (Bd I q (by simp))
  | bl j=>cases ry; exact PySem.EqNone.eq_none_bool (Bd I q (by simp))
  | int j=>obtain ⟨t',rfl⟩:=ry; exact PySem.EqNone.eq_none_int (Bd I q (by simp))
  | str j=>obtain ⟨t',rfl⟩:=ry; exact PySem.EqNone.eq_none_str (Bd I q (by simp))
  | _=>exact absurd (show false=true from hs) Bool.false_ne_true
 | bl i =>
  cases rx
  cases y with
  | non=>cases ry; exact PySem.EqNone.eq_bool_none (Bd I q (by simp))
  | bl j=>cases ry; exact eq_bool (Bd I q RM)
  | str j=>obtain ⟨t',rfl⟩:=ry; exact PySem.EqMixed.eq_bool_str (Bd I q (by simp))
  | _=>exact absurd (show false=true from hs) Bool.false_ne_true
 | int i =>
  obtain ⟨t,rfl⟩:=rx
  cases y with
  | non=>cases ry; exact PySem.EqNone.eq_int_none (Bd I q (by simp))
  | int j=>obtain ⟨t',rfl⟩:=ry; exact eq_int (Bd I q Nf)
  | str j=>obtain ⟨t',rfl⟩:=ry; exact PySem.EqMixed.eq_int_str (Bd I q (by simp))
  | _=>exact absurd (show false=true from hs) Bool.false_ne_true
 | str i =>
  obtain ⟨t,rfl⟩:=rx
  cases y with
  | non=>cases ry; exact PySem.EqNone.eq_str_none (Bd I q (by simp))
  | bl j=>cases ry; exact PySem.EqMixed.eq_str_bool (Bd I q (by simp))
  | int j=>obtain ⟨t',rfl⟩:=ry; exact PySem.EqMixed.eq_str_int (Bd I q (by simp))
  | str j=>obtain ⟨t',rfl⟩:=ry; exact eq_str (Bd I q Ga)
  | _=>exact absurd (show false=true from hs) Bool.false_ne_true
 | byt i =>
  obtain ⟨t,rfl⟩:=rx
  cases y with
  | byt j=>obtain ⟨t',rfl⟩:=ry; exact PySem.W.eq_bytes (Bd I q Nt)
  | _=>exact absurd (show false=true from hs) Bool.false_ne_true
 | _=>cases y <;> exact absurd (show false=true from hs) Bool.false_ne_true
theorem Dl:Gu X (compareOp .NotEq) dY:=by
 intro pins s σ H x y v u Q I rx ry h
 obtain ⟨hs,q⟩:=h
 cases x with
 | non =>
  cases rx
  cases y with
  | non=>cases ry; exact PySem.EqNone.ne_none_none (Bd I q (by simp))
  | bl j=>cases ry; exact PySem.EqNone.ne_none_bool (Bd I q (by simp))
  | int j=>obtain ⟨t',rfl⟩:=ry; exact PySem.EqNone.ne_none_int (Bd I q (by simp))
  | str j=>obtain ⟨t',rfl⟩:=ry; exact PySem.EqNone.ne_none_str (Bd I q (by simp))
  | _=>exact absurd (show false=true from hs) Bool.false_ne_true
 | bl i =>
  cases rx
  cases y with
  | non=>cases ry; exact PySem.EqNone.ne_bool_none (Bd I q (by simp))
  | bl j=>cases ry; exact ne_bool (Bd I q (congrArg not RM))
  | str j=>obtain ⟨t',rfl⟩:=ry; exact PySem.EqMixed.ne_bool_str (Bd I q (by simp))
  | _=>exact absurd (show false=true from hs) Bool.false_ne_true
 | int i =>
  obtain ⟨t,rfl⟩:=rx
  cases y with
  | non=>cases ry; exact PySem.EqNone.ne_int_none (Bd I q (by simp))
  | int j=>obtain ⟨t',rfl⟩:=ry; exact ne_int (Bd I q (congrArg not Nf))
  | str j=>obtain ⟨t',rfl⟩:=ry; exact PySem.EqMixed.ne_int_str (Bd I q (by simp))
  | _=>exact absurd (show false=true from hs) Bool.false_ne_true
 | str i =>
  obtain ⟨t,rfl⟩:=rx
  cases y with
  | non=>cases ry; exact PySem.EqNone.ne_str_none (Bd I q (by simp))
  | bl j=>cases ry; exact PySem.EqMixed.ne_str_bool (Bd I q (by simp))
  | int j=>obtain ⟨t',rfl⟩:=ry; exact PySem.EqMixed.ne_str_int (Bd I q (by simp))
  | str j=>obtain ⟨t',rfl⟩:=ry; exact ne_str (Bd I q (congrArg not Ga))
  | _=>exact absurd (show false=true from hs) Bool.false_ne_true
 | byt i =>
  obtain ⟨t,rfl⟩:=rx
  cases y with
  | byt j=>obtain ⟨t',rfl⟩:=ry; exact PySem.W.ne_bytes (Bd I q (congrArg not Nt))
  | _=>exact absurd (show false=true from hs) Bool.false_ne_true
 | _=>cases y <;> exact absurd (show false=true from hs) Bool.false_ne_true
theorem Nb:Gu X (compareOp .Lt) (Ui fun i j=>.bl (decide (i<j))):=U_ fun _ _ _ _ _ _ _ q=>lt_int q
theorem Gk:Gu X (compareOp .LtE) (Ui fun i j=>.bl (decide (i<=j))):=U_ fun _ _ _ _ _ _ _ q=>le_int q
theorem Wt:Gu X (compareOp .GtE) (Ui fun i j=>.bl (decide (j<=i))):=U_ fun _ _ _ _ _ _ _ q=>ge_int q
theorem Oa:Gu X (compareOp .In) (fun x y H Q=>∃ i j,x=.str i/\y=.str j/\Q (.bl (!(Builtin.Str.occurrences j i 0 j.length 1).isEmpty)) H):=by
 intro pins s σ H x y v u Q I rx ry h
 obtain ⟨i,j,rfl,rfl,q⟩:=h
 obtain ⟨t,rfl⟩:=rx
 obtain ⟨t',rfl⟩:=ry
 exact in_str (Bd I q rfl)
theorem Rg:Gu X (compareOp .Is) (fun x y H Q=>y=.non/\Q (.bl (decide (x=.non))) H):=by
 intro pins s σ H x y v u Q I rx ry h
 obtain ⟨rfl,q⟩:=h
 cases ry
 refine is_none_gen (Bd I q ?_)
 cases x <;> first
  | (cases rx; rfl)
  | (obtain ⟨t,rfl⟩:=rx; rfl)
theorem Bb (b:Expr) {op:CmpOp} (h:op ≠ .In:=by decide) (h2:op ≠ .NotIn:=by decide):behindInMarks op b=false:=by
 have e1:(op == CmpOp.In)=false:=by cases op <;> first | rfl | exact absurd rfl h
 have e2:(op == CmpOp.NotIn)=false:=by cases op <;> first | rfl | exact absurd rfl h2
 cases b <;> simp [behindInMarks,e1,e2]
theorem CZ {op:CmpOp} {r:R2} (ho:Gu X (compareOp op) r) (ha:PE X a ta) (hb:PE X b tb) (hm:behindInMarks op b=false):PE X (.Compare a [op] [b] pos) (Yo r ta tb):=by
 intro pins s σ H Q I h
 exact wpAny_Compare1 (Vj ha hb I h fun v u s2 x y H2 I2 rx ry q=>ho pins s2 σ H2 x y v u Q I2 rx ry q) hm
noncomputable def Uh (t:TE):TT:=fun σ H Q=>t σ H fun x H'=>∃ k,x=.bl k/\Q k H'
theorem Bg {op:CmpOp} {r:R2} (ho:Gu X (compareOp op) r) (ha:PE X a ta) (hb:PE X b tb) (hm:behindInMarks op b=false):PT X (.Compare a [op] [b] pos) (Uh (Yo r ta tb)):=by
 intro pins s σ H Q I h
 refine wpAny_isTrue_Compare1 (Bs (ha pins s σ H _ I h) fun v s1 ⟨x,H1,I1,r1,q1⟩=>Bs (hb pins s1 σ H1 _ I1 q1) fun u s2 ⟨y,H2,I2,r2,q2⟩ =>
  Bs (ho pins s2 σ H2 x y v u _ I2 r1 r2 q2) fun c s3 ⟨z,H3,I3,r3,k,e,q3⟩=>?_) hm
 subst e
 cases r3
 exact wpAny_truthy_bool ⟨H3,I3,q3⟩
noncomputable def RX (r r':R2) (ta tb tc:TE):TE:=fun σ H Q=>ta σ H fun x H1=>tb σ H1 fun y H2=>r x y H2 fun z H3=>∃ k,z=.bl k /\
 (if k=true then tc σ H3 fun w' H4=>r' y w' H4 Q else Q (.bl false) H3)
theorem JL {op op':CmpOp} {r r':R2} (ho:Gu X (compareOp op) r) (ho':Gu X (compareOp op') r') (ha:PE X a ta) (hb:PE X b tb) (hc:PE X c tc)
  (hm:lastMarks [op,op'] [b,c]=false:=by with_unfolding_all rfl):PE X (.Compare a [op,op'] [b,c] pos) (RX r r' ta tb tc):=by
 intro pins s σ H Q I h
 refine Compare_chain (Bs (ha pins s σ H _ I h) fun v s1 ⟨x,H1,I1,r1,q1⟩=>chain_link (Bs (hb pins s1 σ H1 _ I1 q1) fun u s2 ⟨y,H2,I2,r2,q2⟩ =>
  Bs (ho pins s2 σ H2 x y v u _ I2 r1 r2 q2) fun d s3 ⟨z,H3,I3,r3,k,e,q3⟩=>?_)) hm
 subst e
 cases r3
 refine wpAny_truthy_bool ?_
 cases k with
 | false=>exact ite_ff ⟨.bl false,H3,I3,rfl,q3⟩
 | true=>exact ite_tt (chain_last (Bs (hc pins s3 σ H3 _ I3 q3) fun w' s4 ⟨z',H4,I4,r4,q4⟩=>ho' pins s4 σ H4 y z' u w' Q I4 r2 r4 q4))
theorem K6 {op op':CmpOp} {r r':R2} (ho:Gu X (compareOp op) r) (ho':Gu X (compareOp op') r') (ha:PE X a ta) (hb:PE X b tb) (hc:PE X c tc)
  (hm:lastMarks [op,op'] [b,c]=false:=by with_unfolding_all rfl):PT X (.Compare a [op,op'] [b,c] pos) (Uh (RX r r' ta tb tc)):=by
 intro pins s σ H Q I h
 refine isTrue_chain (Bs (ha pins s σ H _ I h) fun v s1 ⟨x,H1,I1,r1,q1⟩=>test_link (Bs (hb pins s1 σ H1 _ I1 q1) fun u s2 ⟨y,H2,I2,r2,q2⟩ =>
  Bs (ho pins s2 σ H2 x y v u _ I2 r1 r2 q2) fun d s3 ⟨z,H3,I3,r3,k,e,q3⟩=>?_)) hm
 subst e
 cases r3
 refine wpAny_truthy_bool ?_
 cases k with
 | false =>
  obtain ⟨k',e',q'⟩:=q3
  cases e'
  exact ite_ff ⟨H3,I3,q'⟩
 | true =>
  refine ite_tt (test_last (Bs (hc pins s3 σ H3 _ I3 q3) fun w' s4 ⟨z',H4,I4,r4,q4⟩=>Bs (ho' pins s4 σ H4 y z' u w' _ I4 r2 r4 q4) fun d' s5 hq0=>?_))
  obtain ⟨z2,H5,I5,r5,k2,e2,q5⟩:=hq0
  subst e2
  cases r5
  exact wpAny_truthy_bool ⟨H5,I5,q5⟩
noncomputable def YJ (K:PySem.W.Frag) (x:V) (H:Hp) (k:Bool):Prop :=
 match x with
 | .non=>k=false
 | .bl b=>k=b
 | .int i=>k=(i != 0)
 | .str y=>y.length<=sizeLine/\k=((y.length:Int) != 0)
 | .byt y=>y.size<=sizeLine/\k=((y.size:Int) != 0)
 | .ref p=>(∃ xs,Cz K H p xs/\k = !xs.isEmpty) \/ (∃ xs,Fo K H p xs/\k = !xs.isEmpty) \/ ∃ kvs,H p=some (.dK kvs)/\k = !kvs.isEmpty
 | _=>False
theorem Mx {κ:Type} {kvs:List (κ × V)} {vs:List (κ × Value)} (r:KV kvs vs):(!vs.isEmpty) = !kvs.isEmpty:=by
 cases r <;> rfl
theorem Im {xs:List V} {its:List Value} (r:Vals xs its):(!its.toArray.isEmpty) = !xs.isEmpty:=by
 cases r <;> simp
theorem HQ:(sizeLine:Nat)<2 ^ 63:=by rw [sizeLine_eq]; decide
theorem Vo:bf X (fun x H Q=>∃ k,YJ X.K x H k/\Q k H):=by
 intro pins s σ H x v Q I rx h
 obtain ⟨k,e,q⟩:=h
 have hl:=HQ
 have hs:sizeLine=16777216:=sizeLine_eq
 cases x with
 | non =>
  cases rx
  have e':k=false:=e
  subst e'
  exact truthy_none ⟨H,I,q⟩
 | bl b =>
  cases rx
  have e':k=b:=e
  subst e'
  exact wpAny_truthy_bool ⟨H,I,q⟩
 | int i =>
  obtain ⟨t,rfl⟩:=rx
  have e':k=(i != 0):=e
  subst e'
  exact PySem.P.truthy_int ⟨H,I,q⟩
 | str y =>
  obtain ⟨t,rfl⟩:=rx
  obtain ⟨hy,e'⟩:y.length<=sizeLine/\k=((y.length:Int) != 0):=e
  subst e'
  exact PySem.P.truthy_str (by omega) ⟨H,I.tok _,q⟩
 | byt y =>
  obtain ⟨t,rfl⟩:=rx
  obtain ⟨hy,e'⟩:y.size<=sizeLine/\k=((y.size:Int) != 0):=e
  subst e'
  exact PySem.W.truthy_bytes (by omega) ⟨H,I.tok _,q⟩
 | ref p =>
  cases rx
  have e':(∃ xs,Cz X.K H p xs/\k = !xs.isEmpty) \/ (∃ xs,Fo X.K H p xs/\k = !xs.isEmpty) \/ ∃ kvs,H p=some (.dK kvs)/\k = !kvs.isEmpty:=e
  rcases e' with ⟨xs,hx,e'⟩ | ⟨xs,hx,e'⟩ | ⟨kvs,hx,e'⟩
  ·subst e'
   obtain ⟨its,r,pl,hz⟩:=I.list hx
   have hlen:=r.length
   exact wpAny_truthy_list pl.isList (by simp only [List.size_toArray]; omega) ⟨H,I.tok _,by rw [Im r]; exact q⟩
  ·subst e'
   obtain ⟨its,r,pl,hz⟩:=I.tuple hx
   have hlen:=r.length
   exact truthy_tuple pl (by simp only [List.size_toArray]; omega) ⟨H,I.tok _,by rw [Im r]; exact q⟩
  ·subst e'
   obtain ⟨hz,hS,vs,r,m⟩:kvs.length<=sizeLine/\(p == sysModules)=false/\∃ vs,KV kvs vs/\s.heap.DictOf (CV X.prog X.w) p vs:=I.hok p _ hx
   have hlen:kvs.length=vs.length:=Paired.length r
   exact wpAny_truthy_dict hS m (by omega) ⟨H,I.tok _,by rw [Mx r]; exact q⟩
 | _=>exact (show False from e).elim
theorem Ku (ha:PE X a ta) (he:∀ whole,isTrue a X.env whole=(do let v ← whole; standAt a.pos; holding [v] (truthy v))) :
  PT X a (fun σ H Q=>ta σ H fun x H'=>∃ k,YJ X.K x H' k/\Q k H'):=by
 intro pins s σ H Q I h
 exact isTrue_plain (Bs (ha pins s σ H _ I h) fun v s1 ⟨x,H1,I1,r1,q1⟩=>Vo pins s1 σ H1 x v Q I1 r1 q1) (he _)
theorem Iu:Gu X (binaryOp .Add) (fun x y H Q=>∃ i j,x=.str i/\y=.str j/\i.length+j.length<=sizeLine/\Q (.str (i++j)) H):=by
 intro pins s σ H x y v u Q I rx ry h
 obtain ⟨i,j,rfl,rfl,hz,q⟩:=h
 obtain ⟨t,rfl⟩:=rx
 obtain ⟨t',rfl⟩:=ry
 exact add_str (fun t' tk=>⟨.str (i++j),H,I.tok _,⟨_,rfl⟩,q⟩) hz
theorem vals1 {x:V} {us:List Value} (r:Vals [x] us):∃ u,us=[u]/\RelV x u:=by
 cases r with
 | cons r1 r2=>cases r2; exact ⟨_,rfl,r1⟩
end
end L2
namespace L2
open PySem PySem.Spec PyProof.Rows
structure Ly (h:Heap) (x dx C:Addr) (mA:Str->Option Value):Prop where
 obj:h.get? x=some (PySem.W.instObj C dx)
 ns:h.Ns1 dx mA
 ne:dx ≠ x
theorem Je {h:Heap} {dx:Addr} {mA:Str->Option Value} (n:h.Ns1 dx mA):∃ od,h.get? dx=some od/\∀ name,PySem.W.lookIn name od=some (mA name):=by
 obtain ⟨o,es,ep,ho,hd,hk,_,hm⟩:=n
 refine ⟨o,ho,fun name=>?_⟩
 have e:=hm name
 unfold nsFind findBy at e
 rw [← Array.find?_toList] at e
 unfold PySem.W.lookIn
 rw [hd]
 dsimp only
 split
 ·rename_i y q
  rw [q] at e
  exact congrArg some e
 ·rename_i q
  rw [q] at e
  have a:es.toList.any (·.refKey)=false:=by
   rw [List.any_eq_false]
   intro y hy
   obtain ⟨z,t,hkey⟩:=hk y (Array.mem_toList_iff.mp hy)
   simp [DictEntry.refKey,hkey]
  have a':¬ es.toList.any (·.refKey)=true:=by rw [a]; exact Bool.false_ne_true
  rw [if_neg a']
  exact congrArg some e
theorem Ly.look {h:Heap} {x dx C:Addr} {mA:Str->Option Value} (I:Ly h x dx C mA):∃ od,PySem.W.InstAt h x (PySem.W.instObj C dx) C (some od)/\∀ name,PySem.W.lookIn name od=some (mA name) :=
 let ⟨od,ho,hl⟩:=Je I.ns
 ⟨od,⟨I.obj,rfl,rfl,ho⟩,hl⟩
section
variable {prog:Program} {w:World} {A:Around} {E:Value->Shared->Prop} {s:Shared} {K:PySem.W.Frag} {x dx C f:Addr} {mA:Str->Option Value} {name:Str} {v:Value}
theorem Tj {expr:Bool} {Q:Value->Shared->Prop} (X:K.In s.heap) (I:Ly s.heap x dx C mA) (hg:PySem.W.plainGet K C name=true) (hh:PySem.W.hasDictIn K C=true)
  (ha:PySem.W.findIn K (.ref C) name=some none) (hv:mA name=some v) (hv':PySem.W.handedIn v=true) (h:Q v { s with toks:=s.toks+1 }) :
  wpAny (model prog w) A (getAttr (.ref x) name expr) Q E s:=by
 obtain ⟨od,J,hl⟩:=I.look
 exact PySem.W.get_value X J (PySem.W.plainGet_of hg).1 (PySem.W.findObj_own hh ha rfl (by rw [hl,hv])) hv' h
theorem Qw {pl:Sem Bool} {Q:Value × List Value->Shared->Prop} (X:K.In s.heap) (I:Ly s.heap x dx C mA) (hg:PySem.W.plainGet K C name=true)
  (hf:PySem.W.findIn K (.ref C) name=some (some (.ref f))) (ht:PySem.W.isFn K (.ref f)=true) (hv:mA name=none) (h:Q (.ref f,[.ref x]) s) :
  wpAny (model prog w) A (getMethod (.ref x) name pl) Q E s:=by
 obtain ⟨od,J,hl⟩:=I.look
 exact PySem.W.method_fn X J (PySem.W.plainGet_of hg).1 (PySem.W.plainGet_of hg).2 hf (beq_iff_eq.mp ht) (by show (PySem.W.lookIn name od).map (·.isSome)=some false; rw [hl,hv]; rfl) h
theorem R0 {ns:List Str} {Q:Unit->Shared->Prop} (X:K.In s.heap) (I:Ly s.heap x dx C mA)
  (hs:PySem.W.findIn K (.ref C) "__setattr__" = some (some (.builtin "object.__setattr__"))) (hp:PySem.W.plainOver K C=true) (ht:PySem.W.takerIn K C name=some none) (hh:PySem.W.hasDictIn K C=true)
  (hw:PySem.Within mA ns) (hsz:ns.length<=sizeLine)
  (h:∀ h',Ly h' x dx C (fun y=>if y=name then some v else mA y)->Heap.SameBut dx s.heap h'->Q () { s with heap:=h',toks:=s.toks+2 }) :
  wpAny (model prog w) A (setAttr (.ref x) name v) Q E s:=by
 obtain ⟨od,J,hl⟩:=I.look
 refine PySem.W.set_plain X J hs (PySem.W.osa_open (s:={ s with toks:=s.toks+1 }) (r:=none) X J hp ht fun b=>?_)
 obtain ⟨cd,hc,hd'⟩:=PySem.W.any_some hh
 have hx:s.heap.get? x=some ⟨.ref C,some dx,.plain,#[]⟩:=I.obj
 refine wpAny_bind (wpAny_pure (wpAny_bind (wpAny_bind (wpAny_loadPart hx (wpAny_bind (PySem.W.Looks.here (s:={ s with toks:=s.toks+1 }) (PySem.W.looks_clsIn X hc) ?_))))))
 rw [hd']
 refine wpAny_pure (a:=some dx) (wpAny_bind (wpAny_pure (wpAny_bind ?_)))
 refine wpAny_nsSet1 (s:={ s with toks:=s.toks+1 }) I.ns fun h' hn2 hs2=>?_
 obtain ⟨oD,esD,epD,hoD,hdD,hcD⟩:=hn2.count (PySem.Within.cons name v hw)
 refine wpAny_bind (wpAny_lookBehind hoD (by rw [hdD]; exact pastItsLine_dict (Nat.le_trans hcD (by rw [List.length_cons]; omega))) ?_)
 exact wpAny_pure (h _ ⟨(hs2.2 _ (Ne.symm I.ne)).trans I.obj,hn2,I.ne⟩ hs2)
theorem Ko {R:Result->Shared->Prop} {vs:List Value} {kw:List (Str × Value)} (X:K.In s.heap) (hm:PySem.W.makesIn K C=true)
  (hi:PySem.W.findIn K (.ref C) "__init__" = some (some (.ref f))) (hf:PySem.W.typeIn K (.ref f)=some (.type "function"))
  (h:codeAny (model prog w) (A.under (.builtin "type.__call__" ⟨.ref C::vs,kw⟩)) (.call (.ref f) ⟨.ref (s.heap.objs.size+1)::vs,kw⟩) (PySem.W.InitBack (s.heap.objs.size+1) R)
   { s with heap:=(s.heap.push PySem.W.emptyDict).push (PySem.W.instObj C s.heap.objs.size) }) :
  codeAny (model prog w) A (.call (.ref C) ⟨vs,kw⟩) R s:=by
 obtain ⟨hh,g,d,t,os⟩:=s
 exact PySem.W.make_core (PySem.W.makes_of X hm) (PySem.W.looks_findIn X hi) (fun self=>PySem.W.bind_fn X self hf) (.inl rfl) h
end
noncomputable def BR (f:Str) (v:V):List (Str × V)->List (Str × V)
 | []=>[(f,v)]
 | (g,x)::r=>if g=f then (g,v)::r else (g,x)::BR f v r
theorem Af (f g:Str) (v:V):∀ fs:List (Str × V),(BR f v fs).lookup g=if g=f then some v else fs.lookup g
 | []=>by
  show List.lookup g [(f,v)]=_
  by_cases h:g=f
  ·have hb:(g == f)=true:=beq_iff_eq.mpr h
   simp only [List.lookup,hb,if_pos h]
  ·have hb:(g == f)=false:=beq_eq_false_iff_ne.mpr h
   simp only [List.lookup,hb,if_neg h]
 | (k,x)::r=>by
  have ih:=Af f g v r
  rw [show BR f v ((k,x)::r)=(if k=f then (k,v)::r else (k,x)::BR f v r) from rfl]
  by_cases hk:k=f
  ·rw [if_pos hk]
   by_cases h:g=k
   ·have hb:(g == k)=true:=beq_iff_eq.mpr h
    simp only [List.lookup,hb,if_pos (h.trans hk)]
   ·have hb:(g == k)=false:=beq_eq_false_iff_ne.mpr h
    simp only [List.lookup,hb,if_neg (fun e:g=f=>h (e.trans hk.symm))]
  ·rw [if_neg hk]
   by_cases h:g=k
   ·have hb:(g == k)=true:=beq_iff_eq.mpr h
    simp only [List.lookup,hb,if_neg (fun e:g=f=>hk (h.symm.trans e))]
   ·have hb:(g == k)=false:=beq_eq_false_iff_ne.mpr h
    simp only [List.lookup,hb]
    exact ih
theorem Hf (f:Str) (v:V):∀ fs:List (Str × V),f∈(BR f v fs).map (·.1)/\∀ g,g∈fs.map (·.1)->g∈(BR f v fs).map (·.1)
 | []=>⟨by simp [BR],fun g h=>by simp at h⟩
 | (k,x)::r=>by
  obtain ⟨i1,i2⟩:=Hf f v r
  rw [show BR f v ((k,x)::r)=(if k=f then (k,v)::r else (k,x)::BR f v r) from rfl]
  by_cases hk:k=f
  ·rw [if_pos hk]
   subst hk
   exact ⟨by simp,fun g h=>by simpa using h⟩
  ·rw [if_neg hk]
   refine ⟨?_,fun g h=>?_⟩
   ·rw [List.map_cons]
    exact List.mem_cons_of_mem _ i1
   ·rw [List.map_cons] at h ⊢
    rcases List.mem_cons.mp h with e | e
    ·exact List.mem_cons.mpr (.inl e)
    ·exact List.mem_cons_of_mem _ (i2 g e)
theorem Hn (f:Str) (v:V):∀ fs:List (Str × V),(BR f v fs).length<=fs.length+1
 | []=>by simp [BR]
 | (k,x)::r=>by
  have ih:=Hn f v r
  rw [show BR f v ((k,x)::r)=(if k=f then (k,v)::r else (k,x)::BR f v r) from rfl]
  by_cases hk:k=f
  ·rw [if_pos hk,List.length_cons,List.length_cons]; omega
  ·rw [if_neg hk,List.length_cons,List.length_cons]; omega
theorem Ew.some_of {v:V} {o:Option Value} (r:Ew (some v) o):∃ u,o=some u/\RelV v u:=by
 cases o with
 | none=>exact (show False from r).elim
 | some u=>exact ⟨u,rfl,r⟩
theorem Ew.none_of {o:Option Value} (r:Ew none o):o=none:=by
 cases o with
 | none=>rfl
 | some u=>exact (show False from r).elim
theorem Jf {v:V} {u:Value} (r:RelV v u):PySem.W.handedIn u=true:=by
 cases v with
 | non=>cases (show u=Value.none from r); rfl
 | bl b=>cases (show u=Value.bool b from r); rfl
 | int i=>obtain ⟨t,e⟩:=(show ∃ t,u=Value.int i t from r); cases e; rfl
 | str x=>obtain ⟨t,e⟩:=(show ∃ t,u=Value.str x t from r); cases e; rfl
 | byt b=>obtain ⟨t,e⟩:=(show ∃ t,u=Value.bytes b t from r); cases e; rfl
 | flt b=>obtain ⟨t,e⟩:=(show ∃ t,u=Value.float b t from r); cases e; rfl
 | ref a=>cases (show u=Value.ref a from r); rfl
 | ty n=>cases (show u=Value.type n from r); rfl
section
variable {P:Program} {w:World} {H H':Hp} {h h':Heap} {a C dx:Addr} {fs fs':List (Str × V)}
theorem IK (hok:Dr P w H h) (e:H a=some (.ins C dx fs)):∃ mA,Ly h a dx C mA/\(∀ f,Ew (fs.lookup f) (mA f))/\PySem.Within mA (fs.map (·.1))/\fs.length<=1000/\H dx=some (.own a):=by
 obtain ⟨d,z,ne,ob,mA,n,r,q⟩:=(show Be P w H h a (.ins C dx fs) from hok a _ e)
 exact ⟨mA,⟨ob,n,ne⟩,r,q,z,d⟩
end
structure Rj (K:PySem.W.Frag) (C:Addr):Prop where
 pg:PySem.W.plainGet K C Str.empty=true
 hd:PySem.W.hasDictIn K C=true
 po:PySem.W.plainOver K C=true
 sa:PySem.W.findIn K (.ref C) "__setattr__" = some (some (.builtin "object.__setattr__"))
theorem Rj.get {K:PySem.W.Frag} {C:Addr} (c:Rj K C) (f:Str):PySem.W.plainGet K C f=true:=c.pg
noncomputable def Bx (K:PySem.W.Frag) (C:Addr) (f:Str):Prop:=PySem.W.findIn K (.ref C) f=some none
theorem Bx.taker {K:PySem.W.Frag} {C:Addr} {f:Str} (n:Bx K C f):PySem.W.takerIn K C f=some none:=by
 unfold PySem.W.takerIn
 rw [show PySem.W.findIn K (.ref C) f=some none from n]
 rfl
structure dg (K:PySem.W.Frag) (C:Addr) (f:Str) (v:V) (u:Value):Prop where
 at_:PySem.W.findIn K (.ref C) f=some (some u)
 rel:RelV v u
 get:PySem.W.specialIn K u "__get__" = some none
 cp:PySem.W.copiedNames.contains f=false
structure Meth (K:PySem.W.Frag) (C:Addr) (m:Str) (f:Addr):Prop where
 at_:PySem.W.findIn K (.ref C) m=some (some (.ref f))
 fn:PySem.W.isFn K (.ref f)=true
 kp:PySem.W.keepIn K (.ref f)=true
section
variable {X:Cx} {pins:List (Addr × Obj)} {σ:St} {H:Hp} {s:Shared} {a C dx:Addr} {fs:List (Str × V)} {f:Str} {v:V} {A:Around} {E:Value->Shared->Prop}
theorem M5 {b:Bool} {Q:Value->Shared->Prop} (I:Inv X pins σ H s) (e:H a=some (.ins C dx fs)) (c:Rj X.K C) (n:Bx X.K C f) (l:fs.lookup f=some v)
  (h:∀ u s',Inv X pins σ H s'->RelV v u->Q u s'):wpAny (model X.prog X.w) A (getAttr (.ref a) f b) Q E s:=by
 obtain ⟨mA,O,r,_,_,_⟩:=IK I.hok e
 obtain ⟨u,hu,ru⟩:=Ew.some_of (v:=v) (o:=mA f) (by rw [← l]; exact r f)
 exact Tj I.Ey O (c.get f) c.hd n hu (Jf ru) (h u _ (I.tok _) ru)
theorem Lr {m:Str} {g:Addr} {pl:Sem Bool} {Q:Value × List Value->Shared->Prop} (I:Inv X pins σ H s) (e:H a=some (.ins C dx fs)) (c:Rj X.K C) (k:Meth X.K C m g) (l:fs.lookup m=none)
  (h:Q (.ref g,[.ref a]) s):wpAny (model X.prog X.w) A (getMethod (.ref a) m pl) Q E s:=by
 obtain ⟨mA,O,r,_,_,_⟩:=IK I.hok e
 have hn:mA m=none:=Ew.none_of (by rw [← l]; exact r m)
 exact Qw I.Ey O (c.get m) k.at_ k.fn hn h
theorem Mi {y:V} {u:Value} {Q:Unit->Shared->Prop} (I:Inv X pins σ H s) (e:H a=some (.ins C dx fs)) (c:Rj X.K C) (n:Bx X.K C f) (hl:fs.length<1000) (ry:RelV y u)
  (h:∀ s',Inv X pins σ (upd H a (.ins C dx (BR f y fs))) s'->Q () s'):wpAny (model X.prog X.w) A (setAttr (.ref a) f u) Q E s:=by
 obtain ⟨mA,O,r,wi,_,ho⟩:=IK I.hok e
 have hz:(fs.map (·.1)).length<=sizeLine:=by rw [List.length_map,sizeLine_eq]; omega
 refine R0 I.Ey O c.sa c.po n.taker c.hd wi hz fun h' O' sb=>h _ ?_
 have hd:∃ o,h'.get? dx=some o:=let ⟨o,_,_,e',_⟩:=O'.ns; ⟨o,e'⟩
 refine I.write (x:=a) (e:=dx) (by rw [e]; exact True.intro) (.inr ho) (fun b q hb z=>(sb.2 b hb).trans z) hd ?_
 refine ⟨by rw [Ar O.ne]; exact ho,?_,O.ne,O'.obj,_,O'.ns,fun g=>?_,fun g hg=>?_⟩
 ·have:=Hn f y fs; omega
 ·show Ew ((BR f y fs).lookup g) (if g=f then some u else mA g)
  rw [Af]
  by_cases q:g=f
  ·rw [if_pos q,if_pos q]; exact ry
  ·rw [if_neg q,if_neg q]; exact r g
 ·by_cases q:g=f
  ·rw [q]; exact (Hf f y fs).1
  ·refine (Hf f y fs).2 g (wi g fun z=>hg ?_)
   show (if g=f then some u else mA g)=none
   rw [if_neg q]; exact z
theorem Inv.made (I:Inv X pins σ H s):Inv X pins σ (upd (upd H s.heap.objs.size (.own (s.heap.objs.size+1))) (s.heap.objs.size+1) (.ins C s.heap.objs.size []))
  { s with heap:=(s.heap.push PySem.W.emptyDict).push (PySem.W.instObj C s.heap.objs.size) }:=by
 have e1:(s.heap.push PySem.W.emptyDict).get? s.heap.objs.size=some PySem.W.emptyDict:=Heap.get?_push_size s.heap rfl
 have e2:((s.heap.push PySem.W.emptyDict).push (PySem.W.instObj C s.heap.objs.size)).get? (s.heap.objs.size+1)=some (PySem.W.instObj C s.heap.objs.size):=by
  have:=Heap.get?_push_size (s.heap.push PySem.W.emptyDict) (o:=PySem.W.instObj C s.heap.objs.size) rfl
  rwa [Heap.size_push] at this
 have e3:(s.heap.push PySem.W.emptyDict).Ns s.heap.objs.size (fun _=>none):=⟨PySem.W.emptyDict,#[],_,e1,rfl,(fun e he=>absurd he (by simp)),fun _=>rfl⟩
 have I1:=I.laid (a:=s.heap.objs.size) (o:=.own (s.heap.objs.size+1)) (h':=s.heap.push PySem.W.emptyDict) (t':=s.toks) (fun b u q=>Heap.get?_push_of_some _ q) (Nat.le_refl _) ⟨_,e1⟩
 refine I1.laid (a:=s.heap.objs.size+1) (o:=.ins C s.heap.objs.size []) (t':=s.toks) (fun b u q=>Heap.get?_push_of_some _ q) (Nat.le_of_eq (Heap.size_push _ _)) ?_
 have ne:s.heap.objs.size ≠ s.heap.objs.size+1:=Nat.ne_of_lt (Nat.lt_succ_self _)
 refine ⟨by rw [Ar ne,Ac],Nat.zero_le _,ne,e2,fun _=>none,(Heap.Ns1.of_empty e3).at fun o q=>Heap.get?_push_of_some _ q,fun _=>True.intro,fun y hy=>absurd rfl hy⟩
theorem Nx {prog:Program} {w:World} {env:Env} {e:Expr} {f:Str} {pos:Pos} {s:Shared} {Q:Value->Shared->Prop} (hb:attributeBase e f env (eval e env)=eval e env)
  (h:wpAny (model prog w) A (eval e env) (fun o s₁=>wpAny (model prog w) A (getAttr o f true) Q E s₁) E s):wpAny (model prog w) A (eval (.Attribute e f pos) env) Q E s :=
 Attribute_any_ h (by rw [arm_eval_Attribute,hb])
end
noncomputable def Ww (K:PySem.W.Frag) (ta:TE) (f:Str):TE:=fun σ H Q=>ta σ H fun x H1=>∃ a C dx fs v,x=.ref a/\H1 a=some (.ins C dx fs)/\Rj K C/\Bx K C f/\fs.lookup f=some v/\Q v H1
noncomputable def bc (K:PySem.W.Frag) (ta tv:TE) (f:Str):TS:=fun D σ H=>tv σ H fun y H1=>ta σ H1 fun x H2=>∃ a C dx fs,x=.ref a/\H2 a=some (.ins C dx fs)/\Rj K C/\Bx K C f/\fs.length<1000 /\
 D.nx σ (upd H2 a (.ins C dx (BR f y fs)))
section
variable {X:Cx} {o e value:Expr} {f:Str} {pos pos' tpos:Pos} {ta tv:TE}
theorem FN (he:PE X e ta) (hb:attributeBase e f X.env (eval e X.env)=eval e X.env):PE X (.Attribute e f pos) (Ww X.K ta f):=by
 intro pins s σ H Q I h
 refine Nx hb (Bs (he pins s σ H _ I h) fun u s1 hq0=>?_)
 obtain ⟨x,H1,I1,rx,a,C,dx,fs,v,ex,ea,c,n,l,q⟩:=hq0
 subst ex
 obtain rfl:u=Value.ref a:=rx
 exact M5 I1 ea c n l fun u' s2 I2 ru=>⟨v,H1,I2,ru,q⟩
theorem Dz (ha:PE X o ta) (hv:PE X value tv) (hs:swapsWith value (some (.Attribute o f pos')) pos.line X.env=pure false):PS X (.Assign [.Attribute o f pos'] value pos) (bc X.K ta tv f):=by
 intro pins s σ H D I h
 refine plainObj_wpAny_Assign_Attribute (Bs (hv pins s σ H _ I h) fun u s1 ⟨y,H1,I1,ry,q⟩=>Bs (ha pins s1 σ H1 _ I1 q) fun ov s2 ⟨x,H2,I2,rx,a,C,dx,fs,ex,ea,c,n,l,q2⟩=>?_) hs
 subst ex
 obtain rfl:ov=Value.ref a:=rx
 exact Mi I2 ea c n l ry fun s3 I3=>⟨σ,_,I3,q2⟩
end
section
variable {X:Cx} {pins:List (Addr × Obj)} {σ:St} {H:Hp} {s:Shared} {A:Around} {E:Value->Shared->Prop} {Q:Value->Shared->Prop} {c:Value} {b:Bool}
inductive Hh (K:PySem.W.Frag) (H:Hp):V->Value->Prop where
 | non:Hh K H .non (.type "NoneType")
 | bl (x:Bool):Hh K H (.bl x) (.type "bool")
 | int (i:Int):Hh K H (.int i) (.type "int")
 | str (x:Str):Hh K H (.str x) (.type "str")
 | flt (x:UInt64):Hh K H (.flt x) (.type "float")
 | lst {a:Addr} {xs:List V} (e:H a=some (.lst xs)):Hh K H (.ref a) (.type "list")
 | frz {a:Addr} {o:Obj} {xs:List V} (e:H a=some (.frz o (.lst xs))):Hh K H (.ref a) (.type "list")
 | tup {a:Addr} {xs:List V} (e:H a=some (.tup xs)):Hh K H (.ref a) (.type "tuple")
 | dK {a:Addr} {kvs:List (Key × V)} (e:H a=some (.dK kvs)):Hh K H (.ref a) (.type "dict")
 | dT {a:Addr} {kvs:List (List Key × V)} (e:H a=some (.dT kvs)):Hh K H (.ref a) (.type "dict")
 | ins {a C dx:Addr} {fs:List (Str × V)} (e:H a=some (.ins C dx fs)) (cl:Rj K C) (ha:PySem.W.findIn K (.ref C) "__class__" = some (some (.builtin "object.__class__")))
   (hn:PySem.W.specialIn K (.builtin "object.__class__") "__get__" = some (some (.builtin "getset_descriptor.__get__"))) (htk:PySem.W.takesIn K (.builtin "object.__class__")=some true)
   (hm:PySem.W.mroIn K C (.type "object")=some true):Hh K H (.ref a) (.ref C)
theorem Oi {x:V} {u t:Value} (I:Inv X pins σ H s) (rx:RelV x u) (ty:Hh X.K H x t) (e:PySem.W.kitOne X.K t c=some b) (h:∀ tk,Q (.bool b) { s with toks:=tk }) :
  wpAny (model X.prog X.w) A (call (.builtin "isinstance") [u,c]) Q E s:=by
 cases ty with
 | non=>cases (show u=Value.none from rx); exact PySem.W.kia_one PySem.W.kitx_none I.Ey True.intro e (fun z=>nomatch z) h
 | bl y=>cases (show u=Value.bool y from rx); exact PySem.W.kia_one PySem.W.kitx_bool I.Ey True.intro e (fun z=>nomatch z) h
 | int i=>obtain ⟨t,q⟩:=(show ∃ t,u=Value.int i t from rx); cases q; exact PySem.W.kia_one PySem.W.kitx_int I.Ey True.intro e (fun z=>nomatch z) h
 | str y=>obtain ⟨t,q⟩:=(show ∃ t,u=Value.str y t from rx); cases q; exact PySem.W.kia_one PySem.W.kitx_str I.Ey True.intro e (fun z=>nomatch z) h
 | flt y=>obtain ⟨t,q⟩:=(show ∃ t,u=Value.float y t from rx); cases q; exact PySem.W.kia_one PySem.W.kitx_float I.Ey True.intro e (fun z=>nomatch z) h
 | @lst a xs ea =>
  cases (show u=Value.ref a from rx)
  obtain ⟨_,_,n,_,h1⟩:=(show Be X.prog X.w H s.heap a (.lst xs) from I.hok a _ ea)
  exact PySem.W.kia_one PySem.W.kitx_list I.Ey ⟨_,h1,rfl⟩ e (fun z=>nomatch z) h
 | @frz a ob xs ea =>
  cases (show u=Value.ref a from rx)
  obtain ⟨_,_,_,n,_,h1⟩:=(show Be X.prog X.w H s.heap a (.frz ob (.lst xs)) from I.hok a _ ea)
  exact PySem.W.kia_one PySem.W.kitx_list I.Ey ⟨_,h1,rfl⟩ e (fun z=>nomatch z) h
 | @tup a xs ea =>
  cases (show u=Value.ref a from rx)
  obtain ⟨_,_,_,p⟩:=(show Be X.prog X.w H s.heap a (.tup xs) from I.hok a _ ea)
  obtain ⟨o,h1,h2,_⟩:=p
  exact PySem.W.kia_one PySem.W.kitx_tuple I.Ey ⟨o,h1,h2⟩ e (fun z=>nomatch z) h
 | @dK a kvs ea =>
  cases (show u=Value.ref a from rx)
  obtain ⟨_,_,vs,_,p⟩:=(show Be X.prog X.w H s.heap a (.dK kvs) from I.hok a _ ea)
  obtain ⟨o,es,ep,h1,h2,_⟩:=p
  exact PySem.W.kia_one PySem.W.kitx_dict I.Ey ⟨o,h1,h2.1⟩ e (fun z=>nomatch z) h
 | @dT a kvs ea =>
  cases (show u=Value.ref a from rx)
  obtain ⟨_,_,xs,_,o,es,ep,h1,h2,_⟩:=(show Be X.prog X.w H s.heap a (.dT kvs) from I.hok a _ ea)
  exact PySem.W.kia_one PySem.W.kitx_dict I.Ey ⟨o,h1,h2.1⟩ e (fun z=>nomatch z) h
 | @ins a C dx fs ea cl ha hn htk hm =>
  cases (show u=Value.ref a from rx)
  obtain ⟨mA,O,_⟩:=IK I.hok ea
  obtain ⟨od,J,_⟩:=O.look
  exact PySem.W.kia_one (PySem.W.kitx_own (cl.get _) cl.hd ha hn htk hm) I.Ey J e (fun z=>nomatch z) h
end
end L2
namespace L2
open PySem PySem.Spec PyProof.Rows
structure BZ (k:Nat) (A:Around):Prop where
 hd:A.handled=none
 dp:A.depth+3 * k+5<recursionLimit
 un:A.units+16 * k+200<cLine
theorem BZ.mono {j k:Nat} {A:Around} (r:BZ k A) (h:j<=k):BZ j A:=⟨r.hd,by have:=r.dp; omega,by have:=r.un; omega⟩
theorem BZ.deeper {k:Nat} {A:Around} (r:BZ (k+1) A) (env:Env):BZ k (A.deeper env) :=
 ⟨r.hd,by have:=r.dp; show A.depth+1+3 * k+5<_; omega,by have:=r.un; show A.units+3+16 * k+200<_; omega⟩
theorem Mr {A:Around} {C:Addr} {us:List Value} {kw:List (Str × Value)}:(A.under (.builtin "type.__call__" ⟨.ref C::us,kw⟩)).depth=A.depth+1:=by
 first | rfl | simp [Around.under,Code.weight,Code.isCreation,Code.isGuard,Code.isCaller,Code.frames,Code.isFrame,guardIds]
theorem M3 {A:Around} {C:Addr} {us:List Value} {kw:List (Str × Value)}:(A.under (.builtin "type.__call__" ⟨.ref C::us,kw⟩)).units=A.units+1:=by
 first | rfl | simp [Around.under,Code.cUnits,Code.frames,Code.isFrame]
theorem BZ.make {k:Nat} {A:Around} (r:BZ (k+1) A) (C:Addr) (us:List Value) (kw:List (Str × Value)):BZ k (A.under (.builtin "type.__call__" ⟨.ref C::us,kw⟩)) :=
 ⟨r.hd,by have:=r.dp; rw [Mr]; omega,by have:=r.un; rw [M3]; omega⟩
theorem BZ.depth {k:Nat} {A:Around} (r:BZ k A):A.depth<recursionLimit:=by have:=r.dp; omega
theorem BZ.units {k:Nat} {A:Around} (r:BZ k A):A.units+64<cLine:=by have:=r.un; omega
noncomputable def VG:TA:=fun _ H Q=>Q [] H
noncomputable def Uu (ta:TE) (tr:TA):TA:=fun σ H Q=>ta σ H fun x H1=>tr σ H1 fun xs H2=>Q (x::xs) H2
section
variable {X:Cx} {e:Expr} {es:List Expr} {te:TE} {t:TA} {pos:Pos}
theorem Ab:PA X [] VG:=fun _ _ _ _ H Q I h=>Calls.spliced_nil ⟨[],H,I,.nil,h⟩
theorem Aa (ha:PE X e te) (hr:PA X es t) (hs:starEach (e::es) X.env=(false,eval e X.env)::starEach es X.env:=by rfl):PA X (e::es) (Uu te t):=by
 intro pos pins s σ H Q I h
 rw [hs]
 show wpAny _ _ (spliced ((false,eval e X.env)::backTo pos (starEach es X.env))) _ _ s
 refine Calls.spliced_cons (Bs (ha pins s σ H _ I h) fun u s1 hq0=>?_)
 obtain ⟨x,H1,I1,r1,q1⟩:=hq0
 exact Bs (hr pos pins s1 σ H1 _ I1 q1) fun us s2 ⟨xs,H2,I2,r2,q2⟩=>⟨x::xs,H2,I2,.cons r1 r2,q2⟩
noncomputable def aA (t:TA):TE:=fun σ H Q=>t σ H fun xs H1=>xs.length<=sizeLine/\∀ p,H1 p=none->Q (.ref p) (upd H1 p (.tup xs))
noncomputable def Zv (t:TA):TE:=fun σ H Q=>t σ H fun xs H1=>xs.length<=sizeLine/\∀ p,H1 p=none->Q (.ref p) (upd H1 p (.lst xs))
theorem Bk {x1} (h:PA X es t):PE X (.Tuple es x1 pos) (aA t):=by
 intro pins s σ H Q I hq
 refine wpAny_Tuple_spliced (Bs (h pos pins s σ H _ I hq) fun us s1 ⟨xs,H1,I1,r,z,q⟩=>⟨by rw [← r.length]; exact z,?_⟩)
 have hf:H1 s1.heap.objs.size=none:=I1.hok.fresh (Nat.le_refl _)
 refine ⟨.ref s1.heap.objs.size,upd H1 s1.heap.objs.size (.tup xs),I1.laid (t':=s1.toks) (fun b u e=>Heap.get?_push_of_some _ e) (Nat.le_refl _) ?_,rfl,q _ hf⟩
 exact ⟨z,us,r,⟨_,Heap.get?_push_size _ rfl,rfl,_,rfl⟩⟩
theorem Ci (h:PA X es t):PE X (.List es pos) (Zv t):=by
 intro pins s σ H Q I hq
 refine wpAny_List_spliced (Bs (h pos pins s σ H _ I hq) fun us s1 ⟨xs,H1,I1,r,z,q⟩=>⟨by rw [← r.length]; exact z,?_⟩)
 have hf:H1 s1.heap.objs.size=none:=I1.hok.fresh (Nat.le_refl _)
 refine ⟨.ref s1.heap.objs.size,upd H1 s1.heap.objs.size (.lst xs),I1.laid (t':=s1.toks) (fun b u e=>Heap.get?_push_of_some _ e) (Nat.le_refl _) ?_,rfl,q _ hf⟩
 exact ⟨z,us,0,r,Heap.get?_push_size _ rfl⟩
end
noncomputable abbrev Sp:=List V->Hp->VK->XK->Prop
noncomputable abbrev Nq:=List Env->Hp->Shared->XK->Value->Shared->Prop
structure Kg (P:Program) (w:World) (K:PySem.W.Frag) (mg:Str->Option Value) (base:Heap) (A:Around) (outer:List Env) (s:Shared) (H:Hp):Prop where
 frames:A.frames=some outer
 mod:Mod K mg base
 bs:∀ b o,base.get? b=some o->s.heap.get? b=some o/\H b=none
 bsz:base.objs.size<=s.heap.objs.size
 Hc:s.heap.FunFrames base outer
 frf:∀ b∈frs outer,H b=none
 hok:Dr P w H s.heap
 bare:AllBare s.gens
noncomputable def CE (outer:List Env) (P:Program) (w:World) (H:Hp) (s:Shared) (Q:VK) (u:Value) (s':Shared):Prop :=
 ∃ v H',s'.os=s.os/\AllBare s'.gens/\Un (frs outer) [] H H' s.heap s'.heap/\Dr P w H' s'.heap/\RelV v u/\Q v H'
noncomputable def CR (CX:Nq) (outer:List Env) (P:Program) (w:World) (H:Hp) (s:Shared) (Q:VK) (E:XK) (r:Result) (s':Shared):Prop :=
 match r with
 | .ok (.ret u)=>CE outer P w H s Q u s'
 | .ok _=>False
 | .error e=>CX outer H s E e s'
structure A_ (P:Program) (w:World) (K:PySem.W.Frag) (mg:Str->Option Value) (base:Heap) (CX:Nq) (k:Nat) (f:Addr) (fd:FuncData) (ps:List Str) (sp:Sp):Prop where
 len:∀ vs H Q E,sp vs H Q E->vs.length=ps.length
 run:∀ (A:Around) (outer:List Env) (s:Shared) (H:Hp) (args:Args) (us:List Value) (vs:List V) (Q:VK) (E:XK),BZ k A->Kg P w K mg base A outer s H->BindsTo s fd args (ps.zip us)->Vals vs us->sp vs H Q E ->
  codeAny (model P w) A (.call (.ref f) args) (CR CX outer P w H s Q E) s
theorem Kg.make {P:Program} {w:World} {K:PySem.W.Frag} {mg:Str->Option Value} {base:Heap} {A:Around} {outer:List Env} {s:Shared} {H:Hp} (e:Kg P w K mg base A outer s H) (C:Addr) (us:List Value) (kw:List (Str × Value)) :
  Kg P w K mg base (A.under (.builtin "type.__call__" ⟨.ref C::us,kw⟩)) outer s H:=⟨by first | exact e.frames | (simpa [Around.under,Code.envs,Code.isFrame,pushEnvs] using e.frames),e.mod,e.bs,e.bsz,e.Hc,e.frf,e.hok,e.bare⟩
section
variable {X:Cx} {pins:List (Addr × Obj)} {σ:St} {H:Hp} {s s':Shared}
theorem Inv.env0 (I:Inv X pins σ H s):Kg X.prog X.w X.K X.mg X.base X.A X.stack s H :=
 ⟨I.ok.frames,I.ok.mod,I.bs,Nat.le_trans I.ok.bsz I.sz,I.stack,I.GF,I.hok,I.bare⟩
theorem Inv.after {Q:VK} {u:Value} (I:Inv X pins σ H s) (h:CE X.stack X.prog X.w H s Q u s'):EP X pins σ Q u s':=by
 obtain ⟨v,H',os,bare,un,hok,r,q⟩:=h
 obtain ⟨hh,g,d,t,os'⟩:=s'
 obtain rfl:os'=s.os:=os
 exact ⟨v,H',I.call (h':=hh) (g':=g) (d':=d) (t':=t) (ch:=[]) un hok bare (fun b z=>absurd z (by simp)),r,q⟩
end
noncomputable def T_ (sp:Sp) (dvs:List V) (E:XK) (t:TA):TE:=fun σ H Q=>t σ H fun vs H1=>sp (vs++dvs) H1 Q E
noncomputable def W3 (C:Addr) (m:Str) (sp:Sp) (dvs:List V) (E:XK) (ta:TE) (t:TA):TE:=fun σ H Q=>ta σ H fun x H1=>∃ a dx fs,x=.ref a/\H1 a=some (.ins C dx fs)/\fs.lookup m=none /\
 t σ H1 fun vs H2=>sp (x::(vs++dvs)) H2 Q E
noncomputable def UG (C:Addr) (sp:Sp) (dvs:List V) (E:XK) (t:TA):TE:=fun σ H Q=>t σ H fun vs H1=>∀ x dx,H1 x=none->H1 dx=none->dx ≠ x ->
 sp (.ref x::(vs++dvs)) (upd (upd H1 dx (.own x)) x (.ins C dx [])) (fun v H2=>v=.non/\Q (.ref x) H2) E
noncomputable def Binds (K:PySem.W.Frag) (fd:FuncData) (ps:List Str) (ds:List Value):Prop :=
 ∀ (s:Shared) (us:List Value),K.In s.heap->(us++ds).length=ps.length->BindsTo s fd ⟨us,[]⟩ (ps.zip (us++ds))
theorem Binds.all {K:PySem.W.Frag} {fd:FuncData} {ps:List Str} (h:∀ us:List Value,us.length=ps.length->bindArgs fd ⟨us,[]⟩=pure (ps.zip us)):Binds K fd ps []:=fun s us _ hl=>by
 rw [List.append_nil] at hl ⊢
 exact .of_eq (h us hl)
noncomputable def F_ (CX:Nq) (X:Cx) (E:XK):Prop:=∀ (pins:List (Addr × Obj)) (σ:St) (H:Hp) (s:Shared) (e:Value) (s':Shared),Inv X pins σ H s->CX X.stack H s E e s'->X.xe e s'
section
variable {X:Cx} {CX:Nq} {k:Nat} {f C:Addr} {fd:FuncData} {ps:List Str} {sp:Sp} {dvs:List V} {ds:List Value} {E:XK} {x m:Str} {p pos apos:Pos} {e o:Expr} {es:List Expr} {ta:TE} {t:TA}
theorem Lq {pins:List (Addr × Obj)} {σ:St} {H:Hp} {s:Shared} {Q:VK} {us:List Value} {vs:List V} (F:A_ X.prog X.w X.K X.mg X.base CX k f fd ps sp) (hr:BZ k X.A) (hb:Binds X.K fd ps ds) (hd:Vals dvs ds) (hx:F_ CX X E)
  (I:Inv X pins σ H s) (r:Vals vs us) (h:sp (vs++dvs) H Q E):wpAny (model X.prog X.w) X.A (call (.ref f) us) (EP X pins σ Q) X.xe s:=by
 have r2:Vals (vs++dvs) (us++ds):=r.append hd
 have hl:(us++ds).length=ps.length:=by rw [← r2.length]; exact F.len _ _ _ _ h
 refine wpAny_call (codeAny_mono (F.run X.A X.stack s H ⟨us,[]⟩ (us++ds) (vs++dvs) Q E hr I.env0 (hb s us I.Ey hl) r2 h) fun r s' hq=>?_)
 cases r with
 | error e=>exact hx pins σ H s e s' I hq
 | ok fl =>
  cases fl with
  | ret u=>exact I.after hq
  | next=>exact False.elim hq
  | brk=>exact False.elim hq
  | cont=>exact False.elim hq
theorem Ao (F:A_ X.prog X.w X.K X.mg X.base CX k f fd ps sp) (hr:BZ k X.A) (hg:Gl X x) (hm:X.mg x=some (.ref f)) (hk:PySem.W.keepIn X.K (.ref f)=true) (hb:Binds X.K fd ps ds) (hd:Vals dvs ds) (hx:F_ CX X E)
  (ha:PA X (e::es) t) (hdb:(x == ("__debug__" : Str))=false:=by decide) (he:starEach (e::es) X.env=(false,eval e X.env)::starEach es X.env:=by rfl) (hpl:(backTo pos (starEach es X.env)).any (·.1)=false:=by rfl) :
  PE X (.Call (.Name x p) (e::es) [] pos) (T_ sp dvs E t):=by
 intro pins s σ H Q I h
 refine wpAny_Call_Name_kw (E_ I hg hm ?_ hdb)
 refine PySem.W.callWith_K (h₀:=X.base) I.ok.mod.kin hk (Bs (ha pos pins s σ H _ I h) fun us s1 ⟨vs,H1,I1,r,q⟩=>⟨I1.Ey,?_⟩) he hpl
 exact Lq F hr hb hd hx I1 r q
theorem QX (F:A_ X.prog X.w X.K X.mg X.base CX k f fd ps sp) (hr:BZ k X.A) (hg:Gl X x) (hm:X.mg x=some (.ref f)) (hk:PySem.W.keepIn X.K (.ref f)=true) (hb:Binds X.K fd ps ds) (hd:Vals dvs ds) (hx:F_ CX X E)
  (hdb:(x == ("__debug__" : Str))=false:=by decide):PE X (.Call (.Name x p) [] [] pos) (T_ sp dvs E VG):=by
 intro pins s σ H Q I h
 refine wpAny_Call_Name_kw (E_ I hg hm ?_ hdb)
 exact PySem.W.callWith_K0 I.Ey hk (Lq (us:=[]) F hr hb hd hx I .nil h)
theorem K3 {pl:Sem Bool} (he:PE X o ta) (c:Rj X.K C) (hm:Meth X.K C m f) (F:A_ X.prog X.w X.K X.mg X.base CX k f fd ps sp) (hr:BZ k X.A) (hb:Binds X.K fd ps ds) (hd:Vals dvs ds) (hx:F_ CX X E)
  (ht:eval (.Call (.Attribute o m apos) [] [] pos) X.env=(do
   let ov ← eval o X.env
   standAt apos.atName
   let (f,first) ← holding [ov] (getMethod ov m pl)
   callWith pos f first (backTo pos (starEach [] X.env)) (backToKw pos (keywordEach [] X.env))):=by rfl) :
  PE X (.Call (.Attribute o m apos) [] [] pos) (W3 C m sp dvs E ta VG):=by
 intro pins s σ H Q I h
 refine PySem.W.methodCall_KW (pl:=pl) (Bs (he pins s σ H _ I h) fun u s1 ⟨x,H1,I1,rx,a,dx,fs,ex,ea,l,q⟩=>?_) ht
 subst ex
 obtain rfl:u=Value.ref a:=rx
 refine Lr I1 ea c hm l ?_
 exact PySem.W.callWith_K0 (first:=[.ref a]) I1.Ey hm.kp (Lq (us:=[.ref a]) (vs:=[.ref a]) F hr hb hd hx I1 (.cons rfl .nil) q)
structure Mk (K:PySem.W.Frag) (C f:Addr):Prop where
 makes:PySem.W.makesIn K C=true
 init:PySem.W.findIn K (.ref C) "__init__" = some (some (.ref f))
 fn:PySem.W.isFn K (.ref f)=true
 kp:PySem.W.keepIn K (.ref C)=true
theorem Rh {pins:List (Addr × Obj)} {σ:St} {H:Hp} {s:Shared} {Q:VK} {us:List Value} {vs:List V} (M:Mk X.K C f) (F:A_ X.prog X.w X.K X.mg X.base CX k f fd ps sp) (hr:BZ (k+1) X.A) (hb:Binds X.K fd ps ds) (hd:Vals dvs ds)
  (hx:F_ CX X E) (I:Inv X pins σ H s) (r:Vals vs us)
  (h:∀ x dx,H x=none->H dx=none->dx ≠ x->sp (.ref x::(vs++dvs)) (upd (upd H dx (.own x)) x (.ins C dx [])) (fun v H2=>v=.non/\Q (.ref x) H2) E) :
  wpAny (model X.prog X.w) X.A (call (.ref C) us) (EP X pins σ Q) X.xe s:=by
 have hq:=h (s.heap.objs.size+1) s.heap.objs.size (I.hok.fresh (Nat.le_succ _)) (I.hok.fresh (Nat.le_refl _)) (Nat.ne_of_lt (Nat.lt_succ_self _))
 have I2:=Inv.made (C:=C) I
 have r2:Vals (V.ref (s.heap.objs.size+1)::(vs++dvs)) (Value.ref (s.heap.objs.size+1)::(us++ds)):=.cons rfl (r.append hd)
 have hl:(Value.ref (s.heap.objs.size+1)::us++ds).length=ps.length:=by
  have e:=r2.length
  rw [F.len _ _ _ _ hq] at e
  exact e.symm
 refine wpAny_call (Ko (f:=f) I.Ey M.makes M.init (beq_iff_eq.mp M.fn) (codeAny_mono (F.run _ X.stack _ _ ⟨Value.ref (s.heap.objs.size+1)::us,[]⟩ (Value.ref (s.heap.objs.size+1)::(us++ds)) _ _ E (hr.make C us [])
  (I2.env0.make C us []) (hb _ (Value.ref (s.heap.objs.size+1)::us) I2.Ey hl) r2 hq) fun r s' hq'=>?_))
 cases r with
 | error e=>exact hx pins σ _ _ e s' I2 hq'
 | ok fl =>
  cases fl with
  | ret u =>
   obtain ⟨v,H',I3,rv,ev,q3⟩:=I2.after hq'
   subst ev
   exact ⟨rv,⟨V.ref (s.heap.objs.size+1),H',I3,rfl,q3⟩⟩
  | next=>exact False.elim hq'
  | brk=>exact False.elim hq'
  | cont=>exact False.elim hq'
theorem S9 (M:Mk X.K C f) (F:A_ X.prog X.w X.K X.mg X.base CX k f fd ps sp) (hr:BZ (k+1) X.A) (hg:Gl X x) (hm:X.mg x=some (.ref C)) (hb:Binds X.K fd ps ds) (hd:Vals dvs ds) (hx:F_ CX X E)
  (ha:PA X (e::es) t) (hdb:(x == ("__debug__" : Str))=false:=by decide) (he:starEach (e::es) X.env=(false,eval e X.env)::starEach es X.env:=by rfl) (hpl:(backTo pos (starEach es X.env)).any (·.1)=false:=by rfl) :
  PE X (.Call (.Name x p) (e::es) [] pos) (UG C sp dvs E t):=by
 intro pins s σ H Q I h
 refine wpAny_Call_Name_kw (E_ I hg hm ?_ hdb)
 refine PySem.W.callWith_K (h₀:=X.base) I.ok.mod.kin M.kp (Bs (ha pos pins s σ H _ I h) fun us s1 ⟨vs,H1,I1,r,q⟩=>⟨I1.Ey,?_⟩) he hpl
 exact Rh M F hr hb hd hx I1 r q
end
section
variable {X:Cx} {CX:Nq} {k:Nat} {f C:Addr} {fd:FuncData} {ps ks:List Str} {sp:Sp} {E:XK} {x m:Str} {p pos apos kpos:Pos} {e o:Expr} {es:List Expr} {kws:List Keyword} {te ta:TE} {t tk:TA} {nm:Option Str}
variable {g:List Value->List Value->List Value} {gV:List V->List V->List V}
end
structure Ax (N P:List Str) (sc:Scope):Prop where
 kind:sc.kind=.function
 co:sc.isCoroutine=false
 gen:sc.isGenerator=false
 nd:N.Nodup
 pre:N.take P.length=P
 par:∀ x∈P,sc.names.lookup x=some .local \/ sc.names.lookup x=some .cell
 nofree:∀ y∈sc.names,y.2 ≠ .free
theorem Cg {N P:List Str} {sc:Scope} (a:sc.kind=.function:=by rfl) (b:sc.isCoroutine=false:=by rfl) (c:sc.isGenerator=false:=by rfl) (d:N.Nodup:=by decide +kernel) (e:N.take P.length=P:=by rfl) (f:∀ x∈P,sc.names.lookup x=some .local \/ sc.names.lookup x=some .cell:=by decide +kernel) (g:∀ y∈sc.names,y.2 ≠ .free:=by decide +kernel):Ax N P sc:=⟨a,b,c,d,e,f,g⟩
theorem Jj {kindOf:Str->Option NameKind} {x:Str}:∀ {binds:List (Str × Value)} {m:Str->Option Value},(∀ v,(x,v) ∉ binds)->bindL kindOf binds m x=m x
 | [],_,_=>rfl
 | (n,v)::r,m,h=>by
  unfold bindL
  rw [Jj fun w hw=>h w (List.mem_cons_of_mem _ hw)]
  split
  ·have:x ≠ n:=by rintro rfl; exact h v List.mem_cons_self
   simp [this]
  ·rfl
theorem Ja {kindOf:Str->Option NameKind} {x:Str}:∀ {binds:List (Str × Value)} {m:Str->Option Value},(∀ v,(x,v) ∉ binds)->bindC kindOf binds m x=m x
 | [],_,_=>rfl
 | (n,v)::r,m,h=>by
  unfold bindC
  rw [Ja fun w hw=>h w (List.mem_cons_of_mem _ hw)]
  split
  ·rfl
  ·have:x ≠ n:=by rintro rfl; exact h v List.mem_cons_self
   simp [this]
theorem Jb {kindOf:Str->Option NameKind} {x:Str} {v:Value}:∀ {P:List Str} {vs:List Value} {i:Nat} {m:Str->Option Value},P.Nodup->P[i]? = some x->vs[i]? = some v->kindOf x=some .local ->
  bindL kindOf (P.zip vs) m x=some v
 | [],_,_,_,_,h,_,_=>by simp at h
 | _::_,[],_,_,_,_,h,_=>by simp at h
 | p::P,w::vs,0,m,nd,h1,h2,hk=>by
  simp at h1 h2; subst h1; subst h2
  show bindL kindOf ((p,w)::P.zip vs) m p=_
  unfold bindL
  rw [Jj fun v hv=>(List.nodup_cons.mp nd).1 (List.of_mem_zip hv).1,if_pos hk]
  simp
 | p::P,w::vs,i+1,m,nd,h1,h2,hk=>by
  show bindL kindOf ((p,w)::P.zip vs) m x=_
  unfold bindL
  exact Jb (i:=i) (List.nodup_cons.mp nd).2 (by simpa using h1) (by simpa using h2) hk
theorem Jq {kindOf:Str->Option NameKind} {x:Str} {v:Value}:∀ {P:List Str} {vs:List Value} {i:Nat} {m:Str->Option Value},P.Nodup->P[i]? = some x->vs[i]? = some v->kindOf x ≠ some .local ->
  bindC kindOf (P.zip vs) m x=some v
 | [],_,_,_,_,h,_,_=>by simp at h
 | _::_,[],_,_,_,_,h,_=>by simp at h
 | p::P,w::vs,0,m,nd,h1,h2,hk=>by
  simp at h1 h2; subst h1; subst h2
  show bindC kindOf ((p,w)::P.zip vs) m p=_
  unfold bindC
  rw [Ja fun v hv=>(List.nodup_cons.mp nd).1 (List.of_mem_zip hv).1,if_neg hk]
  simp
 | p::P,w::vs,i+1,m,nd,h1,h2,hk=>by
  show bindC kindOf ((p,w)::P.zip vs) m x=_
  unfold bindC
  exact Jq (i:=i) (List.nodup_cons.mp nd).2 (by simpa using h1) (by simpa using h2) hk
noncomputable def start (N:List Str) (vs:List V):St:=vs.map some++List.replicate (N.length - vs.length) none
noncomputable def Jz (CX:Nq) (P:Program) (w:World) (K:PySem.W.Frag) (mg:Str->Option Value) (base:Heap) (N:List Str) (qual:Str) (scope:Scope) (f:Addr) (cd:Value) (A:Around) (outer:List Env) (s:Shared) (H:Hp) (E:XK):Cx where
 prog:=P
 w:=w
 K:=K
 mg:=mg
 base:=base
 A:=A.deeper (envOfC qual scope s.heap.objs.size f cd)
 N:=N
 s₀:=s
 H₀:=H
 env:=envOfC qual scope s.heap.objs.size f cd
 outer:=outer
 stack:=envOfC qual scope s.heap.objs.size f cd::outer
 ex:=[]
 calm:=true
 fn:=fun _=>true
 pn:=[]
 xe:=fun e s'=>wpAny (model P w) (A.deeper (envOfC qual scope s.heap.objs.size f cd)) (leaving (envOfC qual scope s.heap.objs.size f cd) e) (fun _ s''=>CX outer H s E e s'') (fun e' s''=>CX outer H s E e' s'') s'
theorem Kp {sc:Scope} {n:Nat} {x:Str} (h:sc.names.lookup x=some .cell):∃ c,(cellsFrom n sc.names []).lookup x=some c:=by
 have q:=PySem.W.cellsFrom_some sc.names n [] (.inl h)
 exact Option.isSome_iff_exists.mp q
theorem PK {CX:Nq} {P:Program} {w:World} {K:PySem.W.Frag} {mg:Str->Option Value} {base:Heap} {N ps:List Str} {qual:Str} {scope:Scope} {f:Addr} {cd:Value} {A:Around} {outer:List Env} {s s1:Shared} {H:Hp} {E:XK} {us:List Value} {vs:List V}
  (S:Ax N ps scope) (hd:A.handled=none) (e0:Kg P w K mg base A outer s H) (hl:vs.length=ps.length) (r:Vals vs us)
  (x:InCallC s s.heap.objs.size (bindL (envOfC qual scope s.heap.objs.size f cd).kindOf (ps.zip us) fun _=>none) (cellsFrom (s.heap.objs.size+1) scope.names []) (bindC (envOfC qual scope s.heap.objs.size f cd).kindOf (ps.zip us) fun _=>none) s1) :
  Inv (Jz CX P w K mg base N qual scope f cd A outer s H E) [] (start N vs) H s1:=by
 have hpl:ps.length<=N.length:=by have:=congrArg List.length S.pre; rw [List.length_take] at this; omega
 obtain ⟨h1,tk,rfl,hk⟩:=x.done
 have noA:∀ b:Addr,b ∉ (Jz CX P w K mg base N qual scope f cd A outer s H E).ex:=fun b z=>absurd (show b∈([]:List Addr) from z) (by simp)
 refine ⟨⟨e0.mod,S.kind,rfl,rfl,Nat.le_refl _,fun y z c h1 h2=>?_,fun y hy=>?_,fun y c _ h=>?_,fun _=>hd,Around.frames_deeper e0.frames,.inr ⟨rfl,rfl⟩,fun b z=>absurd z (noA b),e0.bs,e0.bsz,fun b _ _=>noA b,fun b z=>absurd z (noA b),e0.Hc,e0.frf⟩,
  rfl,e0.bare,Un.kept hk,⟨_,x.toInCall.ns,fun i y v h1 h2 h3=>?_⟩,fun y c h=>⟨_,x.cell y c h⟩,e0.hok.fresh (Nat.le_refl _),fun y c h=>?_,fun p hp=>absurd (show p∈([]:List (Addr × Obj)) from hp) (by simp),e0.hok.kept hk,?_⟩
 ·exact name_of_addr x.apart (PySem.mem_of_lookup h1) (PySem.mem_of_lookup h2)
 ·have hy:scope.names.lookup y=some .cell \/ scope.names.lookup y=some .free:=hy
  rcases hy with hy | hy
  ·exact Kp hy
  ·exact absurd rfl (S.nofree _ (PySem.mem_of_lookup hy))
 ·exact Nat.le_of_lt (x.above y c (PySem.mem_of_lookup h))
 ·have hi:i<vs.length:=by
   unfold start at h2
   by_cases hi:i<vs.length
   ·exact hi
   ·rw [List.getElem?_append_right (by simpa using hi)] at h2
    rw [List.getElem?_replicate] at h2
    split at h2 <;> cases h2
  have ha:vs[i]? = some v:=by
   unfold start at h2
   rw [List.getElem?_append_left (by simpa using hi),List.getElem?_map] at h2
   cases e:vs[i]? with
   | none=>rw [e] at h2; cases h2
   | some a=>rw [e] at h2; cases h2; rfl
  obtain ⟨u,hu,rv⟩:=r.get ha
  have hp:ps[i]? = some y:=by
   rw [← S.pre,List.getElem?_take_of_lt (by omega)]; exact h1
  have ndP:ps.Nodup:=by rw [← S.pre]; exact S.nd.sublist (List.take_sublist _ _)
  refine ⟨u,rv,?_⟩
  rcases S.par y (List.mem_of_getElem? hp) with k | k
  ·exact .inl ⟨k,Jb ndP hp hu k⟩
  ·obtain ⟨c,e⟩:=Kp (n:=s.heap.objs.size+1) k
   refine .inr ⟨.inl k,c,e,?_⟩
   have q:=x.cell y c e
   rw [Jq ndP hp hu (by show scope.names.lookup y ≠ _; rw [k]; decide)] at q
   exact q
 ·exact e0.hok.fresh (Nat.le_of_lt (x.above y c (PySem.mem_of_lookup h)))
 ·unfold start
  show _=N.length
  rw [List.length_append,List.length_map,List.length_replicate]
  omega
theorem UL {CX:Nq} {P:Program} {w:World} {K:PySem.W.Frag} {mg:Str->Option Value} {base:Heap} {k:Nat} {f:Addr} {name qual:Str} {params:Arguments} {body:List Stmt} {scope:Scope} {dV kV doc pm cdv ct oc:Value} {an od:Option Addr}
  {osl:Array (Option Value)} {N ps:List Str} {sp:Sp} (lk:K.lookup f=some ⟨oc,od,.func (PySem.W.fnOf name qual params body scope dV kV doc pm an cdv ct),osl⟩) (hcd:PySem.W.codeIn K cdv qual=true) (S:Ax N ps scope)
  (len:∀ vs H Q E,sp vs H Q E->vs.length=ps.length)
  (hbody:∀ (A:Around) (outer:List Env) (s:Shared) (H:Hp) (vs:List V) (Q:VK) (E:XK),BZ k (A.deeper (envOfC qual scope s.heap.objs.size f cdv))->sp vs H Q E ->
   ∃ t,Mw (Jz CX P w K mg base N qual scope f cdv A outer s H E) body t/\t { nx:=fun _ H'=>Q .non H',rt:=Q } (start N vs) H) :
  A_ P w K mg base CX (k+1) f (PySem.W.fnOf name qual params body scope dV kV doc pm an cdv ct) ps sp:=by
 refine ⟨len,fun A outer s H args us vs Q E hr e0 hb r hsp=>?_⟩
 have hl:=len _ _ _ _ hsp
 have KX:K.In s.heap:=e0.mod.kin.keeps fun b o e=>(e0.bs b o e).1
 have lim:s.heap.NoLimit:=e0.mod.nolimit.keeps fun b o e=>(e0.bs b o e).1
 have hkind:∀ y∈ps.zip us,scope.names.lookup y.1=some .local \/ (scope.names.lookup y.1=some .cell/\((cellsFrom (s.heap.objs.size+1) scope.names []).lookup y.1).isSome=true):=fun ⟨n,v⟩ hy=>by
  rcases S.par n (List.of_mem_zip hy).1 with q | q
  ·exact .inl q
  ·exact .inr ⟨q,PySem.W.cellsFrom_some _ _ _ (.inl q)⟩
 refine codeAny_call_function hr.depth (KX _ _ lk) rfl S.co S.gen rfl (PySem.W.codeRec_of KX hcd) (hb _ _ _ _ ?_)
 refine wpAny_newFunctionEnv_cells S.kind hkind fun env he s1 x=>?_
 subst he
 refine ⟨lim.keeps x.toInCall.keep,codeAny_func ?_⟩
 obtain ⟨t,ht,hq⟩:=hbody A outer s H vs Q E (hr.deeper _) hsp
 have I:Inv (Jz CX P w K mg base N qual scope f cdv A outer s H E) [] (start N vs) H s1:=PK S hr.hd e0 hl r x
 refine wpAny_mono (ht [] s1 (start N vs) H _ I hq) (fun fl s' hs=>?_) fun e s' hs=>hs
 have fin:∀ {σ':St} {H':Hp} {v:V} {u:Value},Inv (Jz CX P w K mg base N qual scope f cdv A outer s H E) [] σ' H' s'->RelV v u->Q v H'->CE outer P w H s Q u s' :=
  fun {σ' H' v u} J rv q=>⟨v,H',J.os,J.bare,J.base,J.hok,rv,q⟩
 cases fl with
 | ret u =>
  obtain ⟨v,σ',H',J,rv,q⟩:=hs
  exact fin J rv q
 | next =>
  obtain ⟨σ',H',J,q⟩:=hs
  exact fin (v:=V.non) (u:=Value.none) J rfl q
 | brk =>
  obtain ⟨_,_,_,q⟩:=hs
  exact False.elim q
 | cont =>
  obtain ⟨_,_,_,q⟩:=hs
  exact False.elim q
end L2
namespace L2
open PySem PySem.Spec PyProof.Rows
section
variable {X:Cx} {x:Str} {p pos:Pos} {e:Expr} {es:List Expr} {t:TA} {id T:String} {r:List V->Hp->VK->Prop}
noncomputable def cQ (r:List V->Hp->VK->Prop) (t:TA):TE:=fun σ H Q=>t σ H fun vs H1=>r vs H1 Q
theorem Aw (hc:Ex X (.builtin id) r) (hg:Gl X x) (hm:X.mg x=none) (hv:bootBuiltins x=some (.builtin id)) (ha:PA X (e::es) t) (hn:x ≠ "__name__":=by decide) (hdb:(x == ("__debug__" : Str))=false:=by decide)
  (he:starEach (e::es) X.env=(false,eval e X.env)::starEach es X.env:=by rfl) (hpl:(backTo pos (starEach es X.env)).any (·.1)=false:=by rfl):PE X (.Call (.Name x p) (e::es) [] pos) (cQ r t):=by
 intro pins s σ H Q I h
 refine wpAny_Call_Name_kw (Gr I hg hm hv ?_ hn hdb)
 exact PyProof.Rows.callWith_builtin1 (Bs (ha pos pins s σ H _ I h) fun us s1 ⟨vs,H1,I1,r1,q1⟩=>hc pins s1 σ H1 vs us Q I1 r1 q1) he hpl
theorem GD (hc:Ex X (.type T) r) (hg:Gl X x) (hm:X.mg x=none) (hv:bootBuiltins x=some (.type T)) (ha:PA X (e::es) t) (hn:x ≠ "__name__":=by decide) (hdb:(x == ("__debug__" : Str))=false:=by decide)
  (he:starEach (e::es) X.env=(false,eval e X.env)::starEach es X.env:=by rfl) (hpl:(backTo pos (starEach es X.env)).any (·.1)=false:=by rfl):PE X (.Call (.Name x p) (e::es) [] pos) (cQ r t):=by
 intro pins s σ H Q I h
 refine wpAny_Call_Name_kw (Gr I hg hm hv ?_ hn hdb)
 exact PyProof.Rows.callWith_type1 (Bs (ha pos pins s σ H _ I h) fun us s1 ⟨vs,H1,I1,r1,q1⟩=>hc pins s1 σ H1 vs us Q I1 r1 q1) he hpl
end
end L2
namespace L2
open PySem PySem.Spec PyProof.Rows
section
variable {κ:Type} [DecidableEq κ]
noncomputable def CP (kvs:List (κ × V)) (k:κ):Option V:=(kvs.find? fun kv=>decide (kv.1=k)).map (·.2)
noncomputable def putK (kvs:List (κ × V)) (k:κ) (v:V):List (κ × V) :=
 if (kvs.any fun kv=>decide (kv.1=k))=true then kvs.map (fun kv=>if kv.1=k then (kv.1,v) else kv) else kvs++[(k,v)]
noncomputable def cV (kvs:List (κ × V)) (k:κ):List (κ × V):=kvs.filter fun kv=>decide (kv.1 ≠ k)
theorem Qs {k:κ}:CP ([]:List (κ × V)) k=none:=rfl
theorem Cm {p:κ × V} {r:List (κ × V)} {k:κ} (e:p.1=k):CP (p::r) k=some p.2:=by simp [CP,List.find?_cons,e]
theorem Cd {p:κ × V} {r:List (κ × V)} {k:κ} (e:¬ p.1=k):CP (p::r) k=CP r k:=by simp [CP,List.find?_cons,e]
theorem G9 (k:κ):∀ kvs:List (κ × V),(kvs.any fun kv=>decide (kv.1=k))=(CP kvs k).isSome
 | []=>rfl
 | p::r=>by
  rw [List.any_cons]
  by_cases e:p.1=k
  ·simp only [Cm e,decide_eq_true e,Bool.true_or,Option.isSome_some]
  ·rw [Cd e,decide_eq_false e,Bool.false_or]; exact G9 k r
theorem LR (k j:κ) (y:V):∀ kvs:List (κ × V),CP (kvs.map fun kv=>if kv.1=k then (kv.1,y) else kv) j=(CP kvs j).map fun x=>if j=k then y else x
 | []=>rfl
 | p::r=>by
  have ih:=LR k j y r
  rw [List.map_cons]
  by_cases h:p.1=k
  ·rw [if_pos h]
   by_cases e:p.1=j
   ·rw [Cm (p:=(p.1,y)) e,Cm e,Option.map_some,if_pos (e.symm.trans h)]
   ·rw [Cd (p:=(p.1,y)) e,Cd e,ih]
  ·rw [if_neg h]
   by_cases e:p.1=j
   ·rw [Cm (p:=p) e,Cm e,Option.map_some,if_neg (fun z=>h (e.trans z))]
   ·rw [Cd (p:=p) e,Cd e,ih]
theorem JW (k j:κ) (y:V):∀ kvs:List (κ × V),CP kvs k=none->CP (kvs++[(k,y)]) j=if j=k then some y else CP kvs j
 | [],_=>by
  by_cases e:k=j
  ·rw [if_pos e.symm]; exact Cm (p:=(k,y)) e
  ·rw [if_neg (fun z=>e z.symm)]; exact Cd (p:=(k,y)) e
 | p::r,hn=>by
  rw [List.cons_append]
  have hk:¬ p.1=k:=fun z=>by rw [Cm z] at hn; cases hn
  rw [Cd hk] at hn
  have ih:=JW k j y r hn
  by_cases e:p.1=j
  ·rw [Cm e,Cm e,if_neg (fun z=>hk (e.trans z))]
  ·rw [Cd e,Cd e,ih]
theorem Kz (kvs:List (κ × V)) (k j:κ) (y:V):CP (putK kvs k y) j=if j=k then some y else CP kvs j:=by
 unfold putK
 by_cases a:(kvs.any fun kv=>decide (kv.1=k))=true
 ·rw [if_pos a,LR]
  rw [G9] at a
  by_cases e:j=k
  ·obtain ⟨x,hx⟩:=Option.isSome_iff_exists.mp a
   rw [if_pos e,e,hx,Option.map_some,if_pos rfl]
  ·rw [if_neg e]
   cases CP kvs j with
   | none=>rfl
   | some x=>rw [Option.map_some,if_neg e]
 ·rw [if_neg a]
  refine JW k j y kvs ?_
  rw [G9] at a
  cases q:CP kvs k with
  | none=>rfl
  | some x=>rw [q] at a; exact (a rfl).elim
theorem Fz (kvs:List (κ × V)) (k:κ) (v:V):(putK kvs k v).length<=kvs.length+1:=by
 unfold putK
 split
 ·rw [List.length_map]; omega
 ·rw [List.length_append,List.length_cons,List.length_nil]; omega
theorem Ew.PX {o:Option V} {u:Option Value} (r:Ew o u):o.isSome=u.isSome:=by
 cases o with
 | none=>cases u with
  | none=>rfl
  | some _=>exact (show False from r).elim
 | some _=>cases u with
  | none=>exact (show False from r).elim
  | some _=>rfl
theorem KV.val {kvs:List (κ × V)} {vs:List (κ × Value)} (r:KV kvs vs) (k:κ):Ew (CP kvs k) (valueAt vs k):=by
 unfold KV at r
 induction r with
 | nil=>exact True.intro
 | @cons p q ps qs h t ih =>
  obtain ⟨h1,h2⟩:=h
  by_cases e:p.1=k
  ·have e':q.1=k:=h1.symm.trans e
   have b:valueAt (q::qs) k=some q.2:=by simp [valueAt,List.find?_cons,e']
   rw [Cm e,b]; exact h2
  ·have e':¬ q.1=k:=fun z=>e (h1.trans z)
   have b:valueAt (q::qs) k=valueAt qs k:=by simp [valueAt,List.find?_cons,e']
   rw [Cd e,b]; exact ih
theorem KV.any {kvs:List (κ × V)} {vs:List (κ × Value)} (r:KV kvs vs) (k:κ):(kvs.any fun kv=>decide (kv.1=k))=vs.any fun kv=>decide (kv.1=k):=by
 unfold KV at r
 induction r with
 | nil=>rfl
 | cons h t ih=>rw [List.any_cons,List.any_cons,ih,h.1]
theorem KV.repl {kvs:List (κ × V)} {vs:List (κ × Value)} (r:KV kvs vs) (k:κ) {y:V} {u:Value} (ry:RelV y u) :
  KV (kvs.map fun kv=>if kv.1=k then (kv.1,y) else kv) (vs.map fun kv=>if kv.1=k then (kv.1,u) else kv):=by
 unfold KV at r ⊢
 induction r with
 | nil=>exact .nil
 | @cons p q ps qs h t ih =>
  rw [List.map_cons,List.map_cons]
  refine .cons ?_ ih
  obtain ⟨h1,h2⟩:=h
  by_cases e:p.1=k
  ·rw [if_pos e,if_pos (h1.symm.trans e)]; exact ⟨h1,ry⟩
  ·rw [if_neg e,if_neg (fun z=>e (h1.trans z))]; exact ⟨h1,h2⟩
theorem KV.put {kvs:List (κ × V)} {vs:List (κ × Value)} (r:KV kvs vs) (k:κ) {y:V} {u:Value} (ry:RelV y u):KV (putK kvs k y) (stored vs k u):=by
 unfold putK stored
 rw [r.any k]
 by_cases e:(vs.any fun kv=>decide (kv.1=k))=true
 ·rw [if_pos e,if_pos e]; exact r.repl k ry
 ·rw [if_neg e,if_neg e]; exact Paired.snoc r ⟨rfl,ry⟩
theorem KV.length {kvs:List (κ × V)} {vs:List (κ × Value)} (r:KV kvs vs):kvs.length=vs.length:=Paired.length r
end
theorem QH {P:Program} {w:World} {k:Key} {u:Value} (r:RelV (kV k) u):(CV P w).is k u=true:=by
 cases k with
 | inl i=>obtain ⟨t,e⟩:=(show ∃ t,u=Value.int i t from r); subst e; exact K5 P w i t
 | inr x=>obtain ⟨t,e⟩:=(show ∃ t,u=Value.str x t from r); subst e; exact Kd P w x t
theorem Jl {P:Program} {w:World}:∀ {ks:List Key} {us:List Value},Vals (ks.map kV) us->ItemsAre (CV P w) ks us
 | [],_,r=>by rw [List.map_nil] at r; cases r; exact .nil
 | k::ks,_,r=>by
  rw [List.map_cons] at r
  cases r with
  | cons h t=>exact .cons (QH h) (Jl t)
noncomputable abbrev KT (H:Hp):List (List Key × V)->List (List Key × Addr × Value)->Prop:=Paired fun p q=>p.1=q.1/\H q.2.1=some (.tup (p.1.map kV))/\RelV p.2 q.2.2
theorem KT.val {H:Hp} {kvs:List (List Key × V)} {xs:List (List Key × Addr × Value)} (r:KT H kvs xs) (k:List Key):Ew (CP kvs k) ((atKey xs k).map (·.2)):=by
 induction r with
 | nil=>exact True.intro
 | @cons p q ps qs h t ih =>
  obtain ⟨h1,_,h2⟩:=h
  by_cases e:p.1=k
  ·have e':q.1=k:=h1.symm.trans e
   have b:atKey (q::qs) k=some q.2:=by simp [atKey,List.find?_cons,e']
   rw [Cm e,b]; exact h2
  ·have e':¬ q.1=k:=fun z=>e (h1.trans z)
   have b:atKey (q::qs) k=atKey qs k:=by simp [atKey,List.find?_cons,e']
   rw [Cd e,b]; exact ih
theorem KT.repl {H:Hp} {kvs:List (List Key × V)} {xs:List (List Key × Addr × Value)} (r:KT H kvs xs) (k:List Key) {y:V} {u:Value} (ry:RelV y u) :
  KT H (kvs.map fun kv=>if kv.1=k then (kv.1,y) else kv) (xs.map (putAt k u)):=by
 induction r with
 | nil=>exact .nil
 | @cons p q ps qs h t ih =>
  rw [List.map_cons,List.map_cons]
  refine .cons ?_ ih
  obtain ⟨h1,h2,h3⟩:=h
  unfold putAt
  by_cases e:p.1=k
  ·rw [if_pos e,if_pos (h1.symm.trans e)]; exact ⟨h1,h2,ry⟩
  ·rw [if_neg e,if_neg (fun z=>e (h1.trans z))]; exact ⟨h1,h2,h3⟩
theorem KT.put {H:Hp} {kvs:List (List Key × V)} {xs:List (List Key × Addr × Value)} (r:KT H kvs xs) (k:List Key) {b:Addr} {y:V} {u:Value} (hb:H b=some (.tup (k.map kV))) (ry:RelV y u) :
  KT H (putK kvs k y) (storedH xs k b u):=by
 have e:(kvs.any fun kv=>decide (kv.1=k))=(atKey xs k).isSome:=by
  rw [G9,(r.val k).PX,Option.isSome_map]
 unfold putK storedH
 rw [e]
 by_cases q:(atKey xs k).isSome=true
 ·rw [if_pos q,if_pos q]; exact r.repl k ry
 ·rw [if_neg q,if_neg q]; exact Paired.snoc r ⟨rfl,hb,ry⟩
theorem KT.keeps {H H':Hp} {kvs:List (List Key × V)} {xs:List (List Key × Addr × Value)} (r:KT H kvs xs) (ht:∀ b ys,H b=some (.tup ys)->H' b=some (.tup ys)):KT H' kvs xs :=
 Paired.JP r fun _ _ z=>⟨z.1,ht _ _ z.2.1,z.2.2⟩
section
variable {P:Program} {w:World} {H:Hp} {h:Heap} {a:Addr}
theorem Ua {u:HO} (ok:Dr P w H h) (e:Rd H a u):Be P w H h a u:=e.ok ok
theorem Q4 {kvs:List (Key × V)} (ok:Dr P w H h) (e:Rd H a (.dK kvs)):kvs.length<=sizeLine/\(a == sysModules)=false/\∃ vs,KV kvs vs/\h.DictOf (CV P w) a vs :=
 show Be P w H h a (.dK kvs) from Ua ok e
theorem Xl {kvs:List (Key × V)} (ok:Dr P w H h) (e:H a=some (.dK kvs)):kvs.length<=sizeLine/\(a == sysModules)=false/\∃ vs,KV kvs vs/\h.DictOf (CV P w) a vs:=Q4 ok (.inl e)
theorem Ms {ks:List Key} (ok:Dr P w H h) (e:H a=some (.tup (ks.map kV))):(tupleKind (CV P w)).is h ks a:=by
 obtain ⟨_,its,r,o,h1,h2,n,h3⟩:=(show Be P w H h a (.tup (ks.map kV)) from ok a _ e)
 exact ⟨o,its.toArray,n,h1,h2,h3,by simpa using Jl r⟩
theorem Qi {kvs:List (List Key × V)} (ok:Dr P w H h) (e:Rd H a (.dT kvs)):kvs.length<=sizeLine/\(a == sysModules)=false /\
  ∃ xs,KT H kvs xs/\h.DictOfH (tupleKind (CV P w)) a xs:=by
 obtain ⟨z,y,xs,r,o,es,ep,h1,h2,h3,h4,h5⟩:=(show Be P w H h a (.dT kvs) from Ua ok e)
 refine ⟨z,y,xs,r,o,es,ep,h1,h2,h3,h4,fun x hx=>?_,h5⟩
 have all:∀ {l:List (List Key × V)} {m:List (List Key × Addr × Value)},KT H l m->∀ x∈m,(tupleKind (CV P w)).is h x.1 x.2.1:=by
  intro l m q
  induction q with
  | nil=>intro x hx; exact nomatch hx
  | @cons p q ps qs hq t ih =>
   intro x hx
   rcases List.mem_cons.mp hx with e | hx
   ·subst e
    exact Ms ok (by rw [← hq.1]; exact hq.2.1)
   ·exact ih x hx
 exact all r x hx
theorem W9 {kvs:List (List Key × V)} (ok:Dr P w H h) (e:H a=some (.dT kvs)):kvs.length<=sizeLine/\(a == sysModules)=false /\
  ∃ xs,KT H kvs xs/\h.DictOfH (tupleKind (CV P w)) a xs:=Qi ok (.inl e)
end
noncomputable def Lg (H:Hp) (a:Addr) (y:V) (r:Option V):Prop :=
 (∃ kvs k,Rd H a (.dK kvs)/\y=kV k/\r=CP kvs k) \/ ∃ kvs k b,Rd H a (.dT kvs)/\y=.ref b/\H b=some (.tup (k.map kV))/\r=CP kvs k
noncomputable def RK (H:Hp) (a:Addr) (y v:V) (H':Hp):Prop :=
 (∃ kvs k,H a=some (.dK kvs)/\y=kV k/\kvs.length<sizeLine/\H'=upd H a (.dK (putK kvs k v))) \/
 ∃ kvs k b,H a=some (.dT kvs)/\y=.ref b/\H b=some (.tup (k.map kV))/\kvs.length<sizeLine/\H'=upd H a (.dT (putK kvs k v))
theorem Lg.k {H:Hp} {a:Addr} {kvs:List (Key × V)} {k:Key} (e:H a=some (.dK kvs)):Lg H a (kV k) (CP kvs k):=.inl ⟨kvs,k,.inl e,rfl,rfl⟩
theorem RK.k {H:Hp} {a:Addr} {kvs:List (Key × V)} {k:Key} {v:V} (e:H a=some (.dK kvs)) (hl:kvs.length<sizeLine):RK H a (kV k) v (upd H a (.dK (putK kvs k v))):=.inl ⟨kvs,k,e,rfl,hl,rfl⟩
section
variable {X:Cx} {pins:List (Addr × Obj)} {σ:St} {H:Hp} {s:Shared} {a:Addr} {y v:V} {u r:Value} {o:Option V} {A:Around} {E:Value->Shared->Prop}
theorem Inv.big (I:Inv X pins σ H s):sysModules<s.heap.objs.size:=by
 have h:mainGlobals<s.heap.objs.size:=(I.mod.glob.keeps I.bk).lt
 exact Nat.lt_trans (by decide) h
theorem Ob {Q:Value->Shared->Prop} (hu:A.units+1<cLine) (I:Inv X pins σ H s) (g:Lg H a y (some v)) (ry:RelV y u) (h:∀ w' s',Inv X pins σ H s'->RelV v w'->Q w' s') :
  wpAny (model X.prog X.w) A (getItem (.ref a) u) Q E s:=by
 rcases g with ⟨kvs,k,e,ey,l⟩ | ⟨kvs,k,b,e,ey,eb,l⟩
 ·subst ey
  obtain ⟨z,hd,vs,rel,dd⟩:=Q4 I.hok e
  obtain ⟨w',hw,rw'⟩:=Ew.some_of (v:=v) (o:=valueAt vs k) (by rw [l]; exact rel.val k)
  exact wpAny_getItem_of (QH ry) dd.mapOf hw (h w' _ (I.tok _) rw')
 ·subst ey
  cases (show u=Value.ref b from ry)
  obtain ⟨z,hd,xs,rel,dd⟩:=Qi I.hok e
  obtain ⟨w',hw,rw'⟩:=Ew.some_of (v:=v) (o:=(atKey xs k).map (·.2)) (by rw [l]; exact rel.val k)
  obtain ⟨p,hp,hp2⟩:=Option.map_eq_some_iff.mp hw
  refine wpAny_getItem_heap (tupleKind_room_in1 hu) (Ms I.hok eb) dd hp ?_
  rw [hp2]
  exact h w' _ (I.tok _) rw'
theorem N8 {h':Heap} {t':Nat} {ob:HO} (I:Inv X pins σ H s) (mu:Wb (H a)) (hs:Heap.SameBut a s.heap h') (he:∃ q,h'.get? a=some q) (new:Be X.prog X.w (upd H a ob) h' a ob) :
  Inv X pins σ (upd H a ob) { s with heap:=h',toks:=t' } :=
 I.write (x:=a) (e:=a) mu (.inl rfl) (fun b q hb z=>(hs.2 b hb).trans z) he new
theorem U6 {P:Program} {w:World} {H':Hp} {h':Heap} {kvs:List (Key × V)} {vs:List (Key × Value)} (z:kvs.length<=sizeLine) (hd:(a == sysModules)=false) (rel:KV kvs vs) (dd:h'.DictOf (CV P w) a vs) :
  Be P w H' h' a (.dK kvs):=⟨z,hd,vs,rel,dd⟩
theorem Ov {H':Hp} {Q:Unit->Shared->Prop} (hu:A.units+1<cLine) (I:Inv X pins σ H s) (g:RK H a y v H') (ry:RelV y u) (rv:RelV v r) (h:∀ s',Inv X pins σ H' s'->Q () s') :
  wpAny (model X.prog X.w) A (setItem (.ref a) u r) Q E s:=by
 rcases g with ⟨kvs,k,e,ey,l,eH⟩ | ⟨kvs,k,b,e,ey,eb,l,eH⟩
 ·subst ey eH
  obtain ⟨z,hd,vs,rel,dd⟩:=Xl I.hok e
  have hz:vs.length<=sizeLine:=by rw [← rel.length]; exact z
  have hl:(putK kvs k v).length<=sizeLine:=by have:=Fz kvs k v; omega
  refine wpAny_setItem_pairs (hsz:=hz) (QH ry) dd fun h' dd' hs=>h _ ?_
  have he:∃ q,h'.get? a=some q:=let ⟨q,_,_,hq,_⟩:=dd'; ⟨q,hq⟩
  exact N8 I (by rw [e]; exact True.intro) hs he (U6 hl hd (rel.put k rv) dd')
 ·subst ey eH
  cases (show u=Value.ref b from ry)
  obtain ⟨z,hd,xs,rel,dd⟩:=W9 I.hok e
  have hz:xs.length<=sizeLine:=by rw [← Paired.length rel]; exact z
  have hl:(putK kvs k v).length<=sizeLine:=by have:=Fz kvs k v; omega
  refine wpAny_setItem_heap (hsz:=hz) (tupleKind_room_in1 hu) (Ms I.hok eb) dd fun h' dd' hs=>h _ ?_
  obtain ⟨q,es,ep,hq,h2,h3,h4,_,h5⟩:=dd'
  refine N8 I (by rw [e]; exact True.intro) hs ⟨q,hq⟩ ⟨hl,hd,_,(rel.put k eb rv).keeps fun c ys ec=>?_,q,es,ep,hq,h2,h3,h4,h5⟩
  rw [Ar (UJ ec e (fun z=>nomatch z))]
  exact ec
end
section
variable {X:Cx} {pins:List (Addr × Obj)} {σ:St} {H:Hp} {s:Shared} {a:Addr} {kvs:List (Key × V)} {k:Key} {u:Value} {A:Around} {E:Value->Shared->Prop}
end
noncomputable def Vy (i:Expr):Prop:=∀ ov iv,subscripted i false ov iv=operate [ov,iv] (getItem ov iv)
theorem Ng {prog:Program} {w:World} {A:Around} {E:Value->Shared->Prop} {s:Shared} {env:Env} {value slice:Expr} {pos:Pos} {T id:String} {Q:Value->Shared->Prop}
  (hl:typeLookup (.type T) "__getitem__" = pure (some (.builtin id))) (hs:Vy slice)
  (h:wpAny (model prog w) A (eval value env) (fun o s₁=>wpAny (model prog w) A (eval slice env) (fun i s₂=>s₂.TypeIs o T/\wpAny (model prog w) A (getItem o i) Q E s₂) E s₁) E s) :
  wpAny (model prog w) A (eval (.Subscript value slice pos) env) Q E s:=by
 refine Subscript_ (wpAny_mono h (fun o s₁ h₁=>wpAny_mono h₁ (fun i s₂ h₂=>?_) fun _ _ x=>x) fun _ _ x=>x)
 obtain ⟨hT,h₂⟩:=h₂
 unfold subscriptTail
 refine wpAny_bind ?_
 rw [getitemInPython_of_ne hT.not_modules]
 refine wpAny_bind (wpAny_specialOf hT hl ?_)
 have fin:wpAny (model prog w) A (subscripted slice false o i) (fun r s₃=>wpAny (model prog w) A (letTemporaryGo value o r >>= fun _=>pure r) Q E s₃) E s₂:=by
  rw [hs o i]
  exact wpAny_operating (wpAny_mono h₂ (fun r s₃ h₃=>wpAny_bind (wpAny_letTemporaryGo (wpAny_pure h₃))) fun _ _ x=>x)
 first
  | exact wpAny_pure (wpAny_bind fin)
  | exact wpAny_bind (wpAny_pure (wpAny_bind fin))
  | exact wpAny_bind fin
theorem K4 {X:Cx} {pins:List (Addr × Obj)} {σ:St} {H:Hp} {s:Shared} {a:Addr} {y:V} {o:Option V} (I:Inv X pins σ H s) (g:Lg H a y o):s.TypeIs (.ref a) "dict":=by
 rcases g with ⟨kvs,k,e,_,_⟩ | ⟨kvs,k,b,e,_,_,_⟩
 ·obtain ⟨_,_,vs,_,dd⟩:=Q4 I.hok e
  exact dd.typeIs
 ·obtain ⟨_,_,xs,_,dd⟩:=Qi I.hok e
  exact dd.typeIs
noncomputable def Yc (td ty:TE):TE:=fun σ H Q=>td σ H fun x H1=>ty σ H1 fun y H2=>∃ a v,x=.ref a/\Lg H2 a y (some v)/\Q v H2
noncomputable def Wn (td ty tv:TE):TS:=fun D σ H=>tv σ H fun v H1=>td σ H1 fun x H2=>ty σ H2 fun y H3=>∃ a H4,x=.ref a/\RK H3 a y v H4/\D.nx σ H4
section
variable {X:Cx} {o i e value:Expr} {pos pos' tpos:Pos} {td ty tv:TE}
theorem Nz (hu:X.A.units+1<cLine) (ho:PE X o td) (hi:PE X i ty) (hs:Vy i):PE X (.Subscript o i pos) (Yc td ty):=by
 intro pins s σ H Q I h
 refine Ng PySem.F.slot_dict_getitem.lookup hs (Bs (ho pins s σ H _ I h) fun u s1 ⟨x,H1,I1,rx,q1⟩=>Bs (hi pins s1 σ H1 _ I1 q1) fun iv s2 hq0=>?_)
 obtain ⟨y,H2,I2,ry,a,v,ex,g,q2⟩:=hq0
 subst ex
 obtain rfl:u=Value.ref a:=rx
 exact ⟨K4 I2 g,Ob hu I2 g ry fun w' s3 I3 rw'=>⟨v,H2,I3,rw',q2⟩⟩
theorem SM (hu:X.A.units+1<cLine) (ho:PE X o td) (hi:PE X i ty) (hv:PE X value tv) (hs:swapsWith value (some (.Subscript o i pos')) pos.line X.env=pure false) :
  PS X (.Assign [.Subscript o i pos'] value pos) (Wn td ty tv):=by
 intro pins s σ H D I h
 refine wpAny_Assign_Subscript (Bs (hv pins s σ H _ I h) fun r s1 ⟨v,H1,I1,rv,q1⟩=>Bs (ho pins s1 σ H1 _ I1 q1) fun u s2 ⟨x,H2,I2,rx,q2⟩=>Bs (hi pins s2 σ H2 _ I2 q2) fun iv s3 ⟨y,H3,I3,ry,a,H4,ex,g,q3⟩=>?_) hs
 subst ex
 obtain rfl:u=Value.ref a:=rx
 exact Ov hu I3 g ry rv fun s4 I4=>⟨σ,H4,I4,q3⟩
end
theorem Rf {P:Program} {w:World} {H:Hp} (h:Heap) (hb:sysModules<h.objs.size):Be P w H (h.push { cls:=.type "dict",data:=.dict #[] }) h.objs.size (.dK []) :=
 ⟨Nat.zero_le _,beq_eq_false_iff_ne.mpr (Ne.symm (Nat.ne_of_lt hb)),[],.nil,Heap.DictOf.new h⟩
noncomputable def Vz:TE:=fun _ H Q=>∀ p,H p=none->Q (.ref p) (upd H p (.dK []))
section
variable {X:Cx} {pos:Pos}
theorem RZ:PE X (.Dict [] [] pos) Vz:=fun pins s σ H Q I h =>
 wpAny_Dict_empty ⟨.ref s.heap.objs.size,_,I.laid (a:=s.heap.objs.size) (o:=.dK []) (t':=s.toks) (fun _ _ q=>Heap.get?_push_of_some _ q) (Nat.le_refl _) (Rf s.heap I.big),rfl,h _ (I.hok.fresh (Nat.le_refl _))⟩
end
noncomputable def aJ (kvs more:List (Key × V)):List (Key × V):=more.foldl (fun acc kv=>putK acc kv.1 kv.2) kvs
section
variable {X:Cx} {pins:List (Addr × Obj)} {σ:St} {H:Hp} {s:Shared} {a:Addr} {y d:V} {u r:Value} {o:Option V} {A:Around} {E:Value->Shared->Prop}
end
section
variable {X:Cx} {o e f:Expr} {apos cpos:Pos} {td ty tx:TE}
end
section
variable {X:Cx} {pins:List (Addr × Obj)} {σ:St} {H:Hp} {s:Shared} {a:Addr} {kvs:List (Key × V)} {A:Around} {E:Value->Shared->Prop}
end
section
variable {X:Cx} {pins:List (Addr × Obj)} {σ:St} {H:Hp} {s:Shared} {a:Addr} {y:V} {u:Value} {A:Around} {E:Value->Shared->Prop}
end
end L2
namespace HT
open PySem PyProof.Rows
section
open PySem.SeqAt
open PySem.AutoSeq1 (wpAny_loadPart')
open PySem.MeetsSeq PySem.MeetsSeq2 PySem.MeetsSeq3
end
section
variable {prog:Program} {w:World} {A:Around} {E:Value->Shared->Prop} {s:Shared}
noncomputable def DG (n d:Nat):Option Int->Nat
 | none=>d
 | some v=>if v<0 then (v+(n:Int)).toNat else min v.toNat n
theorem Gz (n d:Nat):DG n d none=d:=rfl
theorem GZ (n d k:Nat):DG n d (some (k:Int))=min k n:=by
 show (if (k:Int)<0 then ((k:Int)+(n:Int)).toNat else min (k:Int).toNat n)=min k n
 rw [if_neg (by omega),Int.toNat_natCast]
theorem WQ (n d:Nat) (hd:d<=n) (o:Option Int):DG n d o<=n:=by
 cases o with
 | none=>exact hd
 | some v =>
  show (if v<0 then (v+(n:Int)).toNat else min v.toNat n)<=n
  by_cases hv:v<0
  ·rw [if_pos hv]; omega
  ·rw [if_neg hv]; exact Nat.min_le_right _ _
theorem NZ (v:Int) (n d:Nat):(if v<0 then max (v+(n:Int)) 0 else min v (n:Int))=((DG n d (some v):Nat):Int):=by
 show (if v<0 then max (v+(n:Int)) 0 else min v (n:Int))=(((if v<0 then (v+(n:Int)).toNat else min v.toNat n):Nat):Int)
 by_cases hv:v<0
 ·simp only [if_pos hv]; omega
 ·simp only [if_neg hv]; omega
theorem MJ (lo hi:Option Int) (n:Nat):Builtin.Slice.sliceAdjust lo hi 1 (n:Int)=(((DG n 0 lo:Nat):Int),((DG n n hi:Nat):Int)):=by
 have h1:¬ ((1:Int)<0):=by omega
 unfold Builtin.Slice.sliceAdjust
 simp only [h1,if_false]
 refine Prod.ext ?_ ?_
 ·cases lo with
  | none=>rfl
  | some v=>exact NZ v n 0
 ·cases hi with
  | none=>rfl
  | some v=>exact NZ v n n
theorem Lf (i j:Nat):Builtin.Slice.slicePlaces (i:Int) (j:Int) 1=j - i:=by
 unfold Builtin.Slice.slicePlaces
 have h1:(1:Int) > 0:=by omega
 simp only [h1,if_true,Int.ediv_one]
 split <;> omega
theorem JD {v:Value} {o:Option Int} {Q:Option Int->Shared->Prop} (p:IsPart v o) (h:Q o s):wpAny (model prog w) A (Builtin.Slice.slicePartIndex v) Q E s:=by
 cases p with
 | none=>exact slicePart_none h
 | int i t=>exact slicePart_int h
theorem Hj {sl:Addr} {vl vu:Value} {lo hi:Option Int} {n:Nat} {Q:Int × Int × Nat->Shared->Prop} (hs:s.heap.IsSliceOf sl vl vu .none) (pl:IsPart vl lo) (pu:IsPart vu hi)
  (h:Q (((DG n 0 lo:Nat):Int),1,DG n n hi - DG n 0 lo) s):wpAny (model prog w) A (Builtin.Slice.sliceApplied (.ref sl) (pure (n:Int))) Q E s:=by
 obtain ⟨os,hos,hcs,hds⟩:=id hs
 unfold Builtin.Slice.sliceApplied Builtin.Slice.sliceFields
 refine wpAny_bind (wpAny_bind (wpAny_field hos hds (x:=vl) rfl (wpAny_bind (wpAny_field hos hds (x:=vu) rfl (wpAny_bind (wpAny_field hos hds (x:=.none) rfl (wpAny_pure ?_)))))))
 refine wpAny_bind (slicePart_none ?_)
 show wpAny _ _ (if ((1:Int) == 0)=true then _ else _) _ _ s
 rw [if_neg (by decide)]
 refine wpAny_bind (JD pl (wpAny_bind (JD pu (wpAny_bind (wpAny_pure ?_)))))
 show wpAny _ _ (match Builtin.Slice.sliceAdjust lo hi 1 (n:Int) with | (lo,hi)=>pure (lo,(1:Int),Builtin.Slice.slicePlaces lo hi 1)) _ _ s
 rw [MJ lo hi n]
 show wpAny _ _ (pure (((DG n 0 lo:Nat):Int),(1:Int),Builtin.Slice.slicePlaces ((DG n 0 lo:Nat):Int) ((DG n n hi:Nat):Int) 1)) _ _ s
 rw [Lf]
 exact wpAny_pure h
theorem Q8 (xs:Array Value) (i k:Nat):((List.range k).filterMap fun (m:Nat)=>xs[((i:Int)+(m:Int) * 1).toNat]?).toArray=((xs.toList.drop i).take k).toArray:=by
 have e:(fun (m:Nat)=>xs[((i:Int)+(m:Int) * 1).toNat]?)=fun m=>xs[i+m]?:=by
  funext m
  have:((i:Int)+(m:Int) * 1).toNat=i+m:=by omega
  rw [this]
 rw [e]
 have:=pick_run xs i k
 rw [List.filterMap_map] at this
 have e2:((fun x=>xs[x]?) ∘ fun x=>i+x)=fun m=>xs[i+m]?:=rfl
 rw [e2] at this
 rw [this]
theorem G6 {t sl:Addr} {items:Array Value} {vl vu:Value} {lo hi:Option Int} {Q:Value->Shared->Prop} (ht:IsTup s.heap t items) (hs:s.heap.IsSliceOf sl vl vu .none) (pl:IsPart vl lo) (pu:IsPart vu hi)
  (hw:¬ (DG items.size 0 lo=0/\DG items.size items.size hi=items.size))
  (h:Q (.ref s.heap.objs.size) { s with heap:=s.heap.push { cls:=.type "tuple",data:=.seq ((items.toList.drop (DG items.size 0 lo)).take (DG items.size items.size hi - DG items.size 0 lo)).toArray } })
  (hsz:items.size<=sizeLine):wpAny (model prog w) A (getItem (.ref t) (.ref sl)) Q E s:=by
 have htake:sizeOk (.seq ((items.toList.drop (DG items.size 0 lo)).take (DG items.size items.size hi - DG items.size 0 lo)).toArray):=by
  show ((items.toList.drop (DG items.size 0 lo)).take (DG items.size items.size hi - DG items.size 0 lo)).toArray.size<=sizeLine
  rw [List.size_toArray,List.length_take,List.length_drop,Array.length_toList]
  omega
 have hj:DG items.size items.size hi<=items.size:=WQ _ _ (Nat.le_refl _) hi
 obtain ⟨os,hos,hcs,hds⟩:=id hs
 have hTs:s.TypeIs (.ref sl) "slice":=⟨os,hos,hcs⟩
 unfold getItem
 try with_reducible refine wpAny_holding ?_
 first | refine wpAny_bind (wpAny_pure ?_) | skip
 refine wpAny_bind (wpAny_sequenceKey ht.typeIs (by decide) ?_)
 refine wpAny_bind (wpAny_callSpecial?_slot (name:=Str.ofString "__getitem__") ht.typeIs PyProof.Rows.slot_tuple_getitem
  (wpAny_call_entry PyProof.Rows.slot_tuple_getitem ht.typeIs entry_tuple_getitem ?_ (args_tuple_getitem _ _)))
 show wpAny _ _ (Builtin.Tuple.tupleItemsOf (.ref t) >>= _) _ _ s
 refine wpAny_bind (tupleItemsOf_ ht ?_)
 refine wpAny_bind (wpAny_typeOf hTs ?_)
 rw [if_pos (by decide)]
 refine wpAny_bind (Hj hs pl pu ?_)
 have hno:¬ ((((DG items.size 0 lo:Nat):Int) == 0 && (1:Int) == 1 && (DG items.size items.size hi - DG items.size 0 lo) == items.size)=true):=by
  intro q
  rw [Bool.and_eq_true,Bool.and_eq_true] at q
  have q1:((DG items.size 0 lo:Nat):Int)=0:=eq_of_beq q.1.1
  have q2:DG items.size items.size hi - DG items.size 0 lo=items.size:=eq_of_beq q.2
  exact hw ⟨by omega,by omega⟩
 show wpAny _ _ (if (((DG items.size 0 lo:Nat):Int) == 0 && (1:Int) == 1 && (DG items.size items.size hi - DG items.size 0 lo) == items.size)=true then _ else _) _ _ s
 rw [if_neg hno,Q8]
 first
  | exact wpAny_bind (m:=Builtin.Tuple.tupleExact _) (wpAny_newObj_type (wpAny_pure ⟨_,rfl,wpAny_pure h⟩) htake)
  | exact wpAny_bind (m:=Builtin.Tuple.tupleExact _) (wpAny_newObj_type (wpAny_bind (wpAny_pure (wpAny_pure ⟨_,rfl,wpAny_pure h⟩))) htake)
  | exact wpAny_bind (wpAny_bind (m:=Builtin.Tuple.tupleExact _) (wpAny_newObj_type (wpAny_pure (wpAny_pure ⟨_,rfl,wpAny_pure h⟩)) htake))
  | exact wpAny_bind (wpAny_bind (m:=Builtin.Tuple.tupleExact _) (wpAny_newObj_type (wpAny_pure ⟨_,rfl,wpAny_pure h⟩) htake))
end
end HT
namespace L2
open PySem PySem.Spec PyProof.Rows
noncomputable abbrev TO:=St->Hp->(Option Int->Hp->Prop)->Prop
noncomputable def PO (X:Cx) (e:Option Expr) (t:TO):Prop :=
 ∀ (pins:List (Addr × Obj)) (s:Shared) (σ:St) (H:Hp) (Q:Option Int->Hp->Prop),Inv X pins σ H s->t σ H Q ->
  wpAny (model X.prog X.w) X.A (evalPart e X.env) (fun u s'=>∃ o H',Inv X pins σ H' s'/\IsPart u o/\Q o H') X.xe s
noncomputable def SQ:TO:=fun _ H Q=>Q none H
noncomputable def XS (t:TE):TO:=fun σ H Q=>t σ H fun x H1=>∃ i,x=.int i/\Q (some i) H1
section
variable {X:Cx} {e:Expr} {te:TE} {lo hi:Option Expr} {tl th:TO} {pos p2:Pos}
theorem Fd:PO X none SQ:=by
 intro pins s σ H Q I h
 rw [evalPart_none]
 exact wpAny_pure ⟨none,H,I,.none,h⟩
theorem Ez (h:PE X e te):PO X (some e) (XS te):=by
 intro pins s σ H Q I hw
 rw [evalPart_some]
 refine Bs (h pins s σ H _ I hw) fun u s1 hq0=>?_
 obtain ⟨x,H1,I1,r1,q1⟩:=hq0
 obtain ⟨i,rfl,q⟩:=q1
 obtain ⟨t,rfl⟩:=r1
 exact ⟨some i,H1,I1,.int i t,q⟩
noncomputable def bQ (X:Cx) (r:V->Option Int->Option Int->Hp->VK->Prop):Prop :=
 ∀ (pins:List (Addr × Obj)) (s:Shared) (σ:St) (H:Hp) (x:V) (v vl vu:Value) (lo hi:Option Int) (sl:Addr) (Q:VK),Inv X pins σ H s->RelV x v->s.heap.IsSliceOf sl vl vu .none->IsPart vl lo->IsPart vu hi->r x lo hi H Q ->
  ∃ T id,typeLookup (.type T) "__getitem__" = pure (some (.builtin id))/\s.TypeIs v T/\wpAny (model X.prog X.w) X.A (getItem v (.ref sl)) (EP X pins σ Q) X.xe s
noncomputable def dW (r:V->Option Int->Option Int->Hp->VK->Prop) (te:TE) (tl th:TO):TE:=fun σ H Q=>te σ H fun x H1=>tl σ H1 fun l H2=>th σ H2 fun u H3=>r x l u H3 Q
theorem Ea {r:V->Option Int->Option Int->Hp->VK->Prop} (hr:bQ X r) (he:PE X e te) (hl:PO X lo tl) (hu:PO X hi th):PE X (.Subscript e (.Slice lo hi none p2) pos) (dW r te tl th):=by
 intro pins s σ H Q I h
 refine Subscript_ (Bs (he pins s σ H _ I h) fun v s1 hq0=>?_)
 obtain ⟨x,H1,I1,r1,q1⟩:=hq0
 refine wpAny_Slice (Bs (hl pins s1 σ H1 _ I1 q1) fun vl s2 ⟨l,H2,I2,pl,q2⟩=>Bs (hu pins s2 σ H2 _ I2 q2) fun vu s3 hq0=>?_)
 obtain ⟨u,H3,I3,pu,q3⟩:=hq0
 rw [evalPart_none]
 refine wpAny_pure ?_
 have I4:Inv X pins σ H3 { s3 with heap:=s3.heap.push { cls:=.type "slice",data:=.fields #[vl,vu,.none] } }:=I3.kept (t':=s3.toks) fun b ob q=>Heap.get?_push_of_some _ q
 obtain ⟨T,id,hT,ht,hg⟩:=hr pins { s3 with heap:=s3.heap.push { cls:=.type "slice",data:=.fields #[vl,vu,.none] } } σ H3 x v vl vu l u s3.heap.objs.size Q I4 r1 (Heap.IsSliceOf.new ..) pl pu q3
 show wpAny (model X.prog X.w) X.A (subscriptTail e (.Slice lo hi none p2) v (.ref s3.heap.objs.size)) (EP X pins σ Q) X.xe { s3 with heap:=s3.heap.push { cls:=.type "slice",data:=.fields #[vl,vu,.none] } }
 exact tail_any (ops:=[.ref s3.heap.objs.size,v]) ht hT hg (by with_unfolding_all rfl)
noncomputable def Ds (xs:List V) (lo hi:Option Int):List V:=(xs.drop (HT.DG xs.length 0 lo)).take (HT.DG xs.length xs.length hi - HT.DG xs.length 0 lo)
theorem Hq (xs:List V) (lo hi:Option Int):(Ds xs lo hi).length<=xs.length:=by
 unfold Ds
 rw [List.length_take,List.length_drop]
 omega
noncomputable def bA (K:PySem.W.Frag):V->Option Int->Option Int->Hp->VK->Prop:=fun x lo hi H Q=>∃ a xs,x=.ref a/\Fo K H a xs /\
 ¬ (HT.DG xs.length 0 lo=0/\HT.DG xs.length xs.length hi=xs.length)/\∀ p,H p=none->Q (.ref p) (upd H p (.tup (Ds xs lo hi)))
theorem Mh:bQ X (bA X.K):=by
 intro pins s σ H x v vl vu lo hi sl Q I rx hs pl pu h
 obtain ⟨a,xs,rfl,hx,hw,q⟩:=h
 cases rx
 obtain ⟨its,r,ht,hz⟩:=I.tuple hx
 have hlen:its.toArray.size=xs.length:=by rw [List.size_toArray]; exact r.length.symm
 refine ⟨"tuple",_,PyProof.Rows.slot_tuple_getitem.lookup,ht.typeIs,?_⟩
 refine HT.G6 ht hs pl pu (by rw [hlen]; exact hw) ?_ (by rw [hlen]; exact hz)
 rw [hlen]
 refine ⟨.ref s.heap.objs.size,_,I.laid (t':=s.toks) (o:=.tup (Ds xs lo hi)) (fun b ob q=>Heap.get?_push_of_some _ q) (Nat.le_refl _) ?_,rfl,q _ (I.hok.fresh (Nat.le_refl _))⟩
 exact ⟨Nat.le_trans (Hq xs lo hi) hz,_,(r.drop (HT.DG xs.length 0 lo)).take (HT.DG xs.length xs.length hi - HT.DG xs.length 0 lo),IsTup.new _ _⟩
end
end L2
namespace L2
open PySem PySem.Spec PyProof.Rows
noncomputable def VB (n:Nat) (i:Int):Option Nat:=if 0<=i then (if i<n then some i.toNat else none) else if -(n:Int)<=i then some (i+n).toNat else none
noncomputable def Rk {α:Type} (xs:List α) (i:Int):Option α:=(VB xs.length i).bind fun j=>xs[j]?
theorem Rp {n:Nat} {i:Int} {j:Nat} (h:VB n i=some j):seqIndex? i n=some j/\j<n /\ -(n:Int)<=i/\i<n:=by
 unfold VB at h
 by_cases h0:0<=i
 ·rw [if_pos h0] at h
  by_cases h1:i<n
  ·rw [if_pos h1] at h
   have e:i.toNat=j:=Option.some.inj h
   exact ⟨by rw [seqIndex_of h0 h1,e],by omega,by omega,h1⟩
  ·rw [if_neg h1] at h; cases h
 ·rw [if_neg h0] at h
  by_cases h1 : -(n:Int)<=i
  ·rw [if_pos h1] at h
   have e:(i+n).toNat=j:=Option.some.inj h
   exact ⟨by rw [seqIndex_neg (by omega) h1,e],by omega,h1,by omega⟩
  ·rw [if_neg h1] at h; cases h
theorem J_ {α:Type} {xs:List α} {i:Int} {v:α} (h:Rk xs i=some v):∃ j,seqIndex? i xs.length=some j/\xs[j]? = some v/\j<xs.length /\ -(xs.length:Int)<=i/\i<xs.length:=by
 unfold Rk at h
 cases e:VB xs.length i with
 | none=>rw [e] at h; cases h
 | some j =>
  rw [e] at h
  obtain ⟨h1,h2,h3,h4⟩:=Rp e
  exact ⟨j,h1,h,h2,h3,h4⟩
theorem Av {α:Type} {xs:List α} {j:Nat} {v:α} (h:xs[j]? = some v):Rk xs (j:Int)=some v:=by
 have hj:j<xs.length:=(List.getElem?_eq_some_iff.mp h).1
 have e:VB xs.length (j:Int)=some j:=by
  unfold VB
  rw [if_pos (by omega),if_pos (by omega)]; simp
 unfold Rk; rw [e]; exact h
noncomputable def Sd (b:Expr):Prop:=∀ o i,subscripted b false o i=operate [o,i] (getItem o i)
noncomputable def WX (X:Cx) (r:R2):Prop :=
 ∀ (value slice:Expr) (pins:List (Addr × Obj)) (s:Shared) (σ:St) (H:Hp) (x y:V) (v u:Value) (Q:VK),Inv X pins σ H s->RelV x v->RelV y u->r x y H Q ->
  subscripted slice false v u=operate [v,u] (getItem v u)->wpAny (model X.prog X.w) X.A (subscriptTail value slice v u) (EP X pins σ Q) X.xe s
noncomputable def dU (X:Cx) (id:String) (r:V->List V->Hp->VK->Prop):Prop :=
 ∀ (pins:List (Addr × Obj)) (s:Shared) (σ:St) (H:Hp) (x:V) (xs:List V) (v:Value) (us:List Value) (Q:VK),Inv X pins σ H s->RelV x v->Vals xs us->r x xs H Q ->
  wpAny (model X.prog X.w) X.A (call (.builtin id) (v::us)) (EP X pins σ Q) X.xe s
section
variable {X:Cx} {a b:Expr} {ta tb:TE} {pos:Pos}
theorem Bc {r:R2} (hr:WX X r) (ha:PE X a ta) (hb:PE X b tb) (hs:Sd b):PE X (.Subscript a b pos) (Yo r ta tb):=by
 intro pins s σ H Q I h
 exact Subscript_ (Vj ha hb I h fun v u s2 x y H2 I2 rx ry q=>hr a b pins s2 σ H2 x y v u Q I2 rx ry q (hs _ _))
noncomputable def Yb (K:PySem.W.Frag):R2:=fun x y H Q=>∃ p xs i v,x=.ref p/\y=.int i/\Cz K H p xs/\Rk xs i=some v/\Q v H
noncomputable def Yx (K:PySem.W.Frag):R2:=fun x y H Q=>∃ p xs i v,x=.ref p/\y=.int i/\Fo K H p xs/\Rk xs i=some v/\Q v H
noncomputable def Ze:R2:=fun x y H Q=>∃ z i c,x=.str z/\y=.int i/\z.length<=sizeLine/\Rk z.cps.toList i=some c/\Q (.str ⟨#[c]⟩) H
theorem GK:WX X (Yb X.K):=by
 intro value slice pins s σ H x y v u Q I rx ry h hs
 obtain ⟨p,xs,i,z,rfl,rfl,hq,he,q⟩:=h
 cases rx
 obtain ⟨t,rfl⟩:=ry
 obtain ⟨its,r,pl,hz⟩:=I.list hq
 obtain ⟨j,h1,h2,h3,h4,h5⟩:=J_ he
 obtain ⟨w,ew,rw'⟩:=r.get h2
 have hl:=r.length
 have hn:=HQ
 have fin:EP X pins σ Q w s:=⟨z,H,I,rw',q⟩
 by_cases h0:0<=i
 ·have hj:i.toNat=j:=by
   rw [seqIndex_of h0 h5] at h1
   exact Option.some.inj h1
  exact item_listR pl.isList h0 (by omega) (by rw [hj]; simpa using ew) fin hs
 ·have hj:(i+(its.toArray.size:Int)).toNat=j:=by
   rw [seqIndex_neg (by omega) h4] at h1
   rw [List.size_toArray,← hl]
   exact Option.some.inj h1
  exact subscriptTail_builtinR (x:=w) pl.isList.typeIs slot_list_getitem.lookup
   (wpAny_getItem_list_neg (Q:=fun r s'=>r=w/\EP X pins σ Q r s') pl.isList (by omega) (by rw [List.size_toArray] <;> omega) (by omega) (by rw [hj]; simpa using ew) ⟨rfl,fin⟩) hs
theorem Va:WX X (Yx X.K):=by
 intro value slice pins s σ H x y v u Q I rx ry h hs
 obtain ⟨p,xs,i,z,rfl,rfl,hq,he,q⟩:=h
 cases rx
 obtain ⟨t,rfl⟩:=ry
 obtain ⟨its,r,pl,hz⟩:=I.tuple hq
 obtain ⟨j,h1,h2,h3,h4,h5⟩:=J_ he
 obtain ⟨w,ew,rw'⟩:=r.get h2
 have hl:=r.length
 have hn:=HQ
 have fin:EP X pins σ Q w s:=⟨z,H,I,rw',q⟩
 exact subscriptTail_builtinR (x:=w) pl.typeIs slot_tuple_getitem.lookup
  (getItem_tuple (j:=j) (Q:=fun r s'=>r=w/\EP X pins σ Q r s') pl (by omega) (by omega) (by rw [List.size_toArray,← hl]; exact h1) (by simpa using ew) ⟨rfl,fin⟩) hs
theorem Px:WX X Ze:=by
 intro value slice pins s σ H x y v u Q I rx ry h hs
 obtain ⟨z,i,c,rfl,rfl,hz,he,q⟩:=h
 obtain ⟨t,rfl⟩:=rx
 obtain ⟨t',rfl⟩:=ry
 obtain ⟨j,h1,h2,h3,h4,h5⟩:=J_ he
 have hl:z.cps.toList.length=z.length:=by simp [Str.length]
 rw [hl] at h1 h4 h5
 have hn:=HQ
 exact tail_any (typeIs_str s z t) slot_str_getitem.lookup (getItem_str (c:=c) (by
  have e1:decide (i < -(2 ^ 63:Int))=false:=decide_eq_false (by omega)
  have e2:decide (i ≥ 2 ^ 63)=false:=decide_eq_false (by omega)
  rw [e1,e2,Bool.or_false]) (by rw [h1]; simpa using h2) ⟨.str ⟨#[c]⟩,H,I.tok _,⟨_,rfl⟩,q⟩) hs
theorem J2 (lo hi:Option Int) (n:Nat):(sliceBounds lo hi none n).1=((HT.DG n 0 lo:Nat):Int)/\(sliceBounds lo hi none n).2.1=((HT.DG n n hi:Nat):Int)/\(sliceBounds lo hi none n).2.2=1:=by
 refine ⟨?_,?_,rfl⟩
 ·cases lo with
  | none=>simp [sliceBounds,HT.DG]
  | some i =>
   simp only [sliceBounds,HT.DG,Option.getD_none,show (1:Int) > 0 by decide,if_true]
   by_cases h:i<0
   ·simp only [h,if_true] <;> omega
   ·simp only [h,if_false] <;> omega
 ·cases hi with
  | none=>simp [sliceBounds,HT.DG]
  | some i =>
   simp only [sliceBounds,HT.DG,Option.getD_none,show (1:Int) > 0 by decide,if_true]
   by_cases h:i<0
   ·simp only [h,if_true] <;> omega
   ·simp only [h,if_false] <;> omega
theorem JT (its:List Value) (lo hi:Option Int):slicePick its.toArray lo hi none=((its.drop (HT.DG its.length 0 lo)).take (HT.DG its.length its.length hi - HT.DG its.length 0 lo)).toArray:=by
 obtain ⟨h1,h2,h3⟩:=J2 lo hi its.toArray.size
 unfold slicePick
 rw [h1,h2,h3]
 simp only [sliceRange_one,pick_run,List.size_toArray] <;> rfl
noncomputable def Zn (K:PySem.W.Frag):V->Option Int->Option Int->Hp->VK->Prop:=fun x lo hi H Q=>∃ a xs,x=.ref a/\Cz K H a xs/\∀ p,H p=none->Q (.ref p) (upd H p (.lst (Ds xs lo hi)))
theorem IW:bQ X (Zn X.K):=by
 intro pins s σ H x v vl vu lo hi sl Q I rx hs pl pu h
 obtain ⟨a,xs,rfl,hx,q⟩:=h
 cases rx
 obtain ⟨its,r,ht,hz⟩:=I.list hx
 have hlen:=r.length
 refine ⟨"list",_,slot_list_getitem.lookup,ht.isList.typeIs,?_⟩
 refine wpAny_getItem_list_slice ht.isList hs pl pu .none (by simp) ?_ (by rw [List.size_toArray] <;> omega)
 rw [JT,← hlen]
 refine ⟨.ref s.heap.objs.size,_,I.laid (t':=s.toks) (o:=.lst (Ds xs lo hi)) (fun b ob q=>Heap.get?_push_of_some _ q) (Nat.le_refl _) ?_,rfl,q _ (I.hok.fresh (Nat.le_refl _))⟩
 exact ⟨Nat.le_trans (Hq xs lo hi) hz,_,0,(r.drop (HT.DG xs.length 0 lo)).take (HT.DG xs.length xs.length hi - HT.DG xs.length 0 lo),Heap.get?_push_size _ rfl⟩
noncomputable def Eu:V->Bool
 | .non=>true
 | .bl _=>true
 | .int _=>true
 | .str _=>true
 | _=>false
noncomputable def Pq:V->V->Bool
 | .non,.non=>true
 | .bl a,.bl b=>a == b
 | .bl a,.int b=>(if a then 1 else 0) == b
 | .int a,.bl b=>a == (if b then 1 else 0)
 | .int a,.int b=>a == b
 | .str a,.str b=>a == b
 | _,_=>false
theorem Mg {A:Around} {s:Shared} {y x:V} {u v:Value} (ry:RelV y u) (rx:RelV x v) (fy:Eu y=true) (fx:Eu x=true):SeqAt.EqAt A s u v (Pq y x):=by
 cases y with
 | non =>
  cases ry
  cases x with
  | non=>cases rx; exact SeqAt.EqAt.same _
  | bl b=>cases rx; exact SeqAt.EqAt.none_bool b
  | int b=>obtain ⟨t,rfl⟩:=rx; exact SeqAt.EqAt.none_int b t
  | str b=>obtain ⟨t,rfl⟩:=rx; exact SeqAt.EqAt.none_str b t
  | _=>exact absurd (show false=true from fx) Bool.false_ne_true
 | bl a =>
  cases ry
  cases x with
  | non=>cases rx; exact SeqAt.EqAt.bool_none a
  | bl b=>cases rx; exact SeqAt.EqAt.bool_bool a b
  | int b=>obtain ⟨t,rfl⟩:=rx; exact SeqAt.EqAt.bool_int a b t
  | str b=>obtain ⟨t,rfl⟩:=rx; exact SeqAt.EqAt.bool_str a b t
  | _=>exact absurd (show false=true from fx) Bool.false_ne_true
 | int a =>
  obtain ⟨t',rfl⟩:=ry
  cases x with
  | non=>cases rx; exact SeqAt.EqAt.int_none a t'
  | bl b=>cases rx; exact SeqAt.EqAt.int_bool a t' b
  | int b=>obtain ⟨t,rfl⟩:=rx; exact SeqAt.EqAt.int_int a t' b t
  | str b=>obtain ⟨t,rfl⟩:=rx; exact SeqAt.EqAt.int_str a t' b t
  | _=>exact absurd (show false=true from fx) Bool.false_ne_true
 | str a =>
  obtain ⟨t',rfl⟩:=ry
  cases x with
  | non=>cases rx; exact SeqAt.EqAt.str_none a t'
  | bl b=>cases rx; exact SeqAt.EqAt.str_bool a t' b
  | int b=>obtain ⟨t,rfl⟩:=rx; exact SeqAt.EqAt.str_int a t' b t
  | str b=>obtain ⟨t,rfl⟩:=rx; exact SeqAt.EqAt.str_str a t' b t
  | _=>exact absurd (show false=true from fx) Bool.false_ne_true
 | _=>exact absurd (show false=true from fy) Bool.false_ne_true
noncomputable def SJ (x:V) (u:Value):Bool:=match u with
 | .none=>Pq .non x
 | .bool b=>Pq (.bl b) x
 | .int i _=>Pq (.int i) x
 | .str z _=>Pq (.str z) x
 | _=>false
theorem QC {x y:V} {u:Value} (r:RelV y u) (f:Eu y=true):SJ x u=Pq y x:=by
 cases y with
 | non=>cases r; rfl
 | bl b=>cases r; rfl
 | int i=>obtain ⟨t,rfl⟩:=r; rfl
 | str z=>obtain ⟨t,rfl⟩:=r; rfl
 | _=>exact absurd (show false=true from f) Bool.false_ne_true
theorem KC {x:V}:∀ {xs:List V} {us:List Value},Vals xs us->xs.all Eu=true->us.any (SJ x)=xs.any fun y=>Pq y x
 | _,_,.nil,_=>rfl
 | y::xs,u::us,.cons r t,f=>by
  rw [List.all_cons,Bool.and_eq_true] at f
  rw [List.any_cons,List.any_cons,QC r f.1,KC t f.2]
theorem Ir {A:Around} {s:Shared} {x:V} {v:Value} (rx:RelV x v) (fx:Eu x=true):∀ {xs:List V} {us:List Value},Vals xs us->xs.all Eu=true->∀ u∈us,SeqAt.EqAt A s u v (SJ x u)
 | _,_,.nil,_=>fun u hu=>by cases hu
 | y::xs,u::us,.cons r t,f=>fun u' hu=>by
  rw [List.all_cons,Bool.and_eq_true] at f
  rcases List.mem_cons.mp hu with rfl | hu
  ·rw [QC r f.1]; exact Mg r rx f.1 fx
  ·exact Ir rx fx t f.2 u' hu
noncomputable def inV (x:V) (xs:List V):Bool:=xs.any fun y=>Pq y x
noncomputable def dF (K:PySem.W.Frag) (neg:Bool):R2:=fun x y H Q=>∃ p xs,y=.ref p/\(Cz K H p xs \/ Fo K H p xs)/\Eu x=true/\xs.all Eu=true/\Q (.bl (if neg then !inV x xs else inV x xs)) H
theorem Pb:Gu X (compareOp .In) (dF X.K false):=by
 intro pins s σ H x y v u Q I rx ry h
 obtain ⟨p,xs,rfl,hq,fx,fs,q⟩:=h
 cases ry
 rcases hq with hq | hq
 ·obtain ⟨its,r,pl,hz⟩:=I.list hq
  refine SeqAt.in_listAt (SJ x) pl.isList (fun w hw=>Ir rx fx r fs w (by simpa using hw)) ⟨.bl _,H,I,rfl,?_⟩
  rw [show its.toArray.any (SJ x)=its.any (SJ x) by simp,KC r fs]
  exact q
 ·obtain ⟨its,r,pl,hz⟩:=I.tuple hq
  refine SeqAt.in_tupleAt (SJ x) pl (fun w hw=>Ir rx fx r fs w (by simpa using hw)) ⟨.bl _,H,I,rfl,?_⟩
  rw [show its.toArray.any (SJ x)=its.any (SJ x) by simp,KC r fs]
  exact q
theorem BV:Ex X (.builtin "len") (fun xs H Q=>∃ p ys,xs=[.ref p]/\(Cz X.K H p ys \/ Fo X.K H p ys)/\Q (.int ys.length) H):=by
 intro pins s σ H xs us Q I r h
 obtain ⟨p,ys,rfl,hq,q⟩:=h
 obtain ⟨u,rfl,rx⟩:=vals1 r
 cases rx
 have hn:=HQ
 rcases hq with hq | hq
 ·obtain ⟨its,r',pl,hz⟩:=I.list hq
  have hlen:=r'.length
  exact Calls.call_len_list pl.isList (by simp only [List.size_toArray] <;> omega) ⟨.int ys.length,H,I.tok _,⟨s.toks+1,by rw [List.size_toArray,hlen]⟩,q⟩
 ·obtain ⟨its,r',pl,hz⟩:=I.tuple hq
  have hlen:=r'.length
  exact len_tuple pl (by simp only [List.size_toArray] <;> omega) ⟨.int ys.length,H,I.tok _,⟨s.toks+1,by rw [List.size_toArray,hlen]⟩,q⟩
theorem Jr:Ex X (.builtin "len") (fun xs H Q=>∃ z,xs=[.str z]/\z.length<=sizeLine/\Q (.int z.length) H):=by
 intro pins s σ H xs us Q I r h
 obtain ⟨z,rfl,hz,q⟩:=h
 obtain ⟨u,rfl,t,rfl⟩:=vals1 r
 have hn:=HQ
 exact len_str (by omega) ⟨.int z.length,H,I.tok _,⟨_,rfl⟩,q⟩
theorem FP:Ex X (.type "list") (fun xs H Q=>∃ p ys,xs=[.ref p]/\(Cz X.K H p ys \/ Fo X.K H p ys)/\∀ l,H l=none->Q (.ref l) (upd H l (.lst ys))):=by
 intro pins s σ H xs us Q I r h
 obtain ⟨p,ys,rfl,hq,q⟩:=h
 obtain ⟨u,rfl,rx⟩:=vals1 r
 cases rx
 have fin:∀ (its:List Value),Vals ys its->ys.length<=sizeLine->∀ (h':Heap) (c':Nat),(∀ b o',s.heap.get? b=some o'->h'.get? b=some o') ->
   h'.get? s.heap.objs.size=some { cls:=.type "list",dict:=none,data:=.seq its.toArray c',slots:=#[] }->EP X pins σ Q (.ref s.heap.objs.size) { s with heap:=h' }:=fun its r' hz h' c' kp e =>
  ⟨.ref s.heap.objs.size,_,I.laid (t':=s.toks) kp (Nat.le_refl _) (show Be X.prog X.w _ h' _ (.lst ys) from ⟨hz,its,c',r',e⟩),rfl,q _ (I.hok.fresh (Nat.le_refl _))⟩
 rcases hq with hq | hq
 ·obtain ⟨its,r',pl,hz⟩:=I.list hq
  have hlen:=r'.length
  obtain ⟨o,ho,hc,n,hd⟩:=pl.isList
  exact call_list_seq p (.inl rfl) ho hc hd (fun h' c' kp e=>fin its r' hz h' c' kp e) (by simp only [List.size_toArray] <;> omega)
 ·obtain ⟨its,r',pl,hz⟩:=I.tuple hq
  have hlen:=r'.length
  obtain ⟨o,ho,hc,n,hd⟩:=pl
  exact call_list_seq p (.inr rfl) ho hc hd (fun h' c' kp e=>fin its r' hz h' c' kp e) (by simp only [List.size_toArray] <;> omega)
noncomputable def cT (K:PySem.W.Frag) (T:String) (x:V) (H:Hp):Prop:=match x with
 | .str _=>T = "str"
 | .int _=>T = "int"
 | .ref p=>(T = "list" /\ ∃ xs,Cz K H p xs) \/ (T = "tuple" /\ ∃ o,K.lookup p=some o/\o.cls=.type "tuple" /\ o.dict=none) \/
   (T = "dict" /\ ((∃ kvs,H p=some (.dK kvs)) \/ ∃ kvs,H p=some (.dT kvs))) \/ (T = "set" /\ ∃ S n,H p=some (.set S n))
 | _=>False
theorem V0 {pins:List (Addr × Obj)} {σ:St} {H:Hp} {s:Shared} {T:String} {x:V} {v:Value} (I:Inv X pins σ H s) (r:RelV x v) (ty:cT X.K T x H) :
  s.TypeIs v T/\∀ a,v=.ref a->∃ ob,s.heap.get? a=some ob/\ob.dict=none:=by
 cases x with
 | str z =>
  obtain ⟨t,rfl⟩:=r
  cases (show T = "str" from ty)
  exact ⟨typeIs_str s z t,fun _ e=>nomatch e⟩
 | int i =>
  obtain ⟨t,rfl⟩:=r
  cases (show T = "int" from ty)
  exact ⟨typeIs_int s i t,fun _ e=>nomatch e⟩
 | ref p =>
  cases r
  rcases ty with ⟨rfl,xs,hq⟩ | ⟨rfl,o,hk,hc,hd⟩ | ⟨rfl,hk⟩ | ⟨rfl,S,n,hk⟩
  ·obtain ⟨its,_,pl,_⟩:=I.list hq
   refine ⟨pl.isList.typeIs,fun a e=>?_⟩
   cases e
   obtain ⟨o,n,e,c,hd,_⟩:=pl
   exact ⟨o,e,hd⟩
  ·refine ⟨⟨o,I.Ey p o hk,hc⟩,fun a e=>?_⟩
   cases e
   exact ⟨o,I.Ey _ o hk,hd⟩
  ·have z:∃ o,s.heap.get? p=some o/\o.ExactDict:=by
    rcases hk with ⟨kvs,hk⟩ | ⟨kvs,hk⟩
    ·obtain ⟨_,_,_,_,o,_,_,e,ex,_⟩:=I.hok p _ hk
     exact ⟨o,e,ex⟩
    ·obtain ⟨_,_,_,_,o,_,_,e,ex,_⟩:=I.hok p _ hk
     exact ⟨o,e,ex⟩
   obtain ⟨o,e,ex⟩:=z
   refine ⟨⟨o,e,ex.1⟩,fun a e2=>?_⟩
   cases e2
   exact ⟨o,e,ex.2.1⟩
  ·obtain ⟨o,_,_,_,e,ex,_⟩:=I.hok p _ hk
   refine ⟨⟨o,e,ex.1⟩,fun a e2=>?_⟩
   cases e2
   exact ⟨o,e,ex.2.1⟩
 | _=>exact False.elim ty
noncomputable def dG (K:PySem.W.Frag) (T:String) (r:V->List V->Hp->VK->Prop) (to:TE) (t:TA):TE:=fun σ H Q=>to σ H fun x H1=>cT K T x H1/\t σ H1 fun xs H2=>r x xs H2 Q
variable {o e:Expr} {es:List Expr} {to:TE} {t:TA} {name:Str} {apos cpos:Pos} {T id:String} {r:V->List V->Hp->VK->Prop}
theorem Qy (pa:PlainAttrs T) (slot:Slot T name id) (hty:typeOf (.builtin id)=pure (.type "method_descriptor")) (hm:dU X id r) (ho:PE X o to) (ha:PA X (e::es) t)
  (hbase:attributeBase o name X.env (eval o X.env)=eval o X.env:=by rfl)
  (hfew:((backTo cpos (starEach (e::es) X.env)).all (fun x=>!x.1) && (backToKw cpos (keywordEach [] X.env)).all (fun x=>x.1.isSome)
   && decide ((e::es).length+([]:List Keyword).length+(if ([]:List Keyword).isEmpty then 0 else 1)<30))=true:=by rfl)
  (hline:(apos.endLine == cpos.line)=true:=by rfl) (hs:starEach (e::es) X.env=(false,eval e X.env)::starEach es X.env:=by rfl) (hplain:(backTo cpos (starEach es X.env)).any (·.1)=false:=by rfl) :
  PE X (.Call (.Attribute o name apos) (e::es) [] cpos) (dG X.K T r to t):=by
 intro pins s σ H Q I h
 refine wpAny_Call_method_late hbase hfew hline rfl (Bs (ho pins s σ H _ I h) fun v s1 hq0=>?_)
 obtain ⟨x,H1,I1,r1,ty,q1⟩:=hq0
 obtain ⟨h1,h2⟩:=V0 I1 r1 ty
 refine ⟨T,id,pa,slot,hty,h1,h2,?_⟩
 have hA:=ha cpos pins s1 σ H1 _ I1 q1
 rw [hs] at hA ⊢
 refine Calls.callWith_builtin (by show (false || (backTo cpos (starEach es X.env)).any (·.1))=false; rw [hplain] <;> rfl) (Calls.evalArgs_plain ?_)
 exact Bs hA fun us s2 ⟨vs,H2,I2,r2,q2⟩=>hm pins s2 σ H2 x vs v us Q I2 r1 r2 q2
end
end L2
namespace L2
open PySem PySem.Spec PyProof.Rows
noncomputable def cM (X:Cx) (id:String) (r:V->List V->Hp->VK->Prop):Prop :=
 ∀ (pins:List (Addr × Obj)) (s:Shared) (σ:St) (H:Hp) (x:V) (xs:List V) (v:Value) (us:List Value) (Q:VK),Inv X pins σ H s->RelV x v->Vals xs us->r x xs H Q ->
  wpAny (model X.prog X.w) X.A (call (.builtin id) (v::us)) (EP X pins σ Q) X.xe s
theorem Vals.one:∀ {x:V} {us:List Value},Vals [x] us->∃ u,us=[u]/\RelV x u
 | _,_,.cons r .nil=>⟨_,rfl,r⟩
theorem Vals.two:∀ {x y:V} {us:List Value},Vals [x,y] us->∃ u v,us=[u,v]/\RelV x u/\RelV y v
 | _,_,_,.cons r (.cons q .nil)=>⟨_,_,rfl,r,q⟩
section
variable {X:Cx} {pins:List (Addr × Obj)} {σ:St} {H:Hp} {s:Shared} {l b:Addr} {xs ys zs:List V}
theorem Inv.Wz {its its':List Value} {n:Nat} {f:Array Value->Array Value} {t':Nat} (I:Inv X pins σ H s) (hH:H l=some (.lst xs))
  (e:s.heap.get? l=some { cls:=.type "list",data:=.seq its.toArray n }) (hf:f its.toArray=its'.toArray) (hv:Vals ys its') (hz:ys.length<=sizeLine) :
  Inv X pins σ (upd H l (.lst ys)) { s with heap:=s.heap.update l (Obj.mapSeq f),toks:=t' }:=by
 have q:=PySem.IsL.update e f
 rw [hf] at q
 refine I.write (x:=l) (e:=l) (by rw [hH]; exact trivial) (.inl rfl) (fun b' u hb hu=>(Heap.get?_update_other s.heap (Obj.mapSeq f) (Ne.symm hb)).trans hu) ⟨_,q⟩ ?_
 exact ⟨hz,its',_,hv,q⟩
theorem Inv.WL {its:List Value} {t':Nat} (I:Inv X pins σ H s) (hv:Vals ys its) (hz:ys.length<=sizeLine) :
  Inv X pins σ (upd H s.heap.objs.size (.lst ys)) { s with heap:=s.heap.push { cls:=.type "list",data:=.seq its.toArray },toks:=t' } :=
 I.laid (fun _ _ q=>Heap.get?_push_of_some _ q) (Nat.le_refl _) ⟨hz,its,0,hv,Heap.get?_push_size _ rfl⟩
theorem Inv.fresh (I:Inv X pins σ H s):H s.heap.objs.size=none:=I.hok.fresh (Nat.le_refl _)
theorem Inv.Q7 (I:Inv X pins σ H s) (hH:H l=some (.lst xs)):xs.length<=sizeLine/\∃ (its:List Value) (n:Nat),Vals xs its/\xs.length=its.length/\s.heap.get? l=some { cls:=.type "list",data:=.seq its.toArray n }:=by
 obtain ⟨z,its,n,r,e⟩:=I.hok l _ hH
 exact ⟨z,its,n,r,r.length,e⟩
theorem RN {n:Nat} (h:n<=sizeLine):Builtin.List.listTooLong n=false:=by
 unfold Builtin.List.listTooLong
 exact decide_eq_false (by omega)
end
section
variable {X:Cx}
noncomputable def Rq:V->List V->Hp->VK->Prop:=fun x vs H Q=>∃ l xs y,x=.ref l/\vs=[y]/\H l=some (.lst xs)/\xs.length<sizeLine/\Q .non (upd H l (.lst (xs++[y])))
theorem GJ:cM X "list.append" Rq:=by
 intro pins s σ H x vs v us Q I rx rv h
 obtain ⟨l,xs,y,rfl,rfl,hH,hz,q⟩:=h
 cases rx
 obtain ⟨u,rfl,ru⟩:=rv.one
 obtain ⟨z,its,n,r,hl,e⟩:=I.Q7 hH
 refine call_meets F.slot_list_append ⟨_,e,rfl⟩ F.entry_list_append (F.args_list_append_2 _ _) (PySem.list_append l its.toArray n u (by rw [List.size_toArray]; omega)) ⟨e,?_⟩
 refine ⟨.non,_,I.Wz (its':=its++[u]) hH e (by simp) (r.append (.cons ru .nil)) ?_,rfl,q⟩
 rw [List.length_append,List.length_singleton]
 omega
noncomputable def Sy:V->List V->Hp->VK->Prop:=fun x vs H Q=>∃ l b xs zs,x=.ref l/\vs=[.ref b]/\H l=some (.lst xs)/\H b=some (.lst zs)/\xs.length+zs.length<=sizeLine/\Q .non (upd H l (.lst (xs++zs)))
theorem Pj:cM X "list.extend" Sy:=by
 intro pins s σ H x vs v us Q I rx rv h
 obtain ⟨l,b,xs,zs,rfl,rfl,hH,hB,hz,q⟩:=h
 cases rx
 obtain ⟨u,rfl,ru⟩:=rv.one
 cases ru
 obtain ⟨z,its,n,r,hl,e⟩:=I.Q7 hH
 obtain ⟨z2,its2,n2,r2,hl2,e2⟩:=I.Q7 hB
 have hsz:its.toArray.size+its2.toArray.size<=sizeLine:=by rw [List.size_toArray,List.size_toArray]; omega
 have hlong:¬ (!its.toArray.isEmpty && Builtin.List.listTooLong (its.toArray.size+its2.toArray.size))=true:=by
  rw [RN hsz,Bool.and_false]
  exact Bool.false_ne_true
 refine call_meets F.slot_list_extend ⟨_,e,rfl⟩ F.entry_list_extend (F.args_list_extend_2 _ _)
  (AutoSeq1.list_extend_list_list_0 l its.toArray n b its2.toArray n2 hlong (by rw [List.size_toArray]; omega) (by omega)) ⟨e,e2,?_⟩
 refine ⟨.non,_,I.Wz (its':=its++its2) hH e (by simp) (r.append r2) ?_,rfl,q⟩
 rw [List.length_append]
 omega
noncomputable def Za:R2:=fun x y H Q=>∃ l b xs zs,x=.ref l/\y=.ref b/\H l=some (.lst xs)/\H b=some (.lst zs)/\xs.length+zs.length<=sizeLine/\∀ p,H p=none->Q (.ref p) (upd H p (.lst (xs++zs)))
theorem Eo:Gu X (binaryOp .Add) Za:=by
 intro pins s σ H x y v u Q I rx ry h
 obtain ⟨l,b,xs,zs,rfl,rfl,hH,hB,hz,q⟩:=h
 cases rx
 cases ry
 obtain ⟨z,its,n,r,hl,e⟩:=I.Q7 hH
 obtain ⟨z2,its2,n2,r2,hl2,e2⟩:=I.Q7 hB
 refine PySem.P.add_list e e2 ?_ (by rw [List.size_toArray,List.size_toArray]; omega)
 have ea:its.toArray++its2.toArray=(its++its2).toArray:=by simp
 rw [ea]
 exact ⟨.ref _,_,I.WL (t':=s.toks) (r.append r2) (by rw [List.length_append]; omega),rfl,q _ I.fresh⟩
end
section
variable {prog:Program} {w:World} {A:Around} {E:Value->Shared->Prop} {s:Shared}
end
section
variable {X:Cx}
end
end L2
namespace Att
open PySem PySem.W PySem.Calls PyProof.Rows
theorem Hu {P:Params} {h:Heap}:∀ (ns:List Int) (vs:List Value),WellAll P h vs (ns.map WData.int)->IntsAre vs ns:=by
 intro ns
 induction ns with
 | nil =>
  intro vs w
  rw [List.map_nil] at w
  cases w
  exact .nil
 | cons n ns ih =>
  intro vs w
  rw [List.map_cons] at w
  cases w with
  | cons a b =>
   cases a
   exact .cons _ _ (ih _ b)
theorem Oq {l:OpenLaw} {n:Nat} (hn:l.most=some n) {P:Params} {h:Heap} {args:List WData} {vals:List Value}
  (hpre:l.row.toRowW.claim.pre args=true) (hwl:WellAll P h vals args) :
  ∃ a vs ns,vals=[Value.ref a]/\args=[WData.list (ns.map WData.int)]/\h.get? a=some { cls:=.type "list",data:=.seq vs.toArray }/\IntsAre vs ns/\ns.length<=n:=by
 have hsh:WShape.hasAll [] args [.list .int]=true:=(pre_splitW hpre).1
 have hc:l.pre.holds [] { args:=args }=true:=(pre_splitW hpre).2
 obtain ⟨d,r,rfl,h1,h2⟩:=hasAllW_cons hsh
 obtain rfl:=hasAllW_nil h2
 obtain ⟨xs,rfl,h3⟩:=hasW_list h1
 obtain ⟨ns,rfl⟩:=items_int h3
 have hlen:ns.length<=n:=by
  unfold OpenLaw.pre at hc
  have h4:(WTm.not (.lt (.lit (.int (n:Int))) (.len (.arg 0)))).holds [] { args:=[.list (ns.map .int)] }=true:=by
   have h4:=(holds_andW hc).1
   rw [hn] at h4
   exact h4
  have h5:=condW_of h4 (w_not (w_lt w_lit (w_len_list (w_arg rfl))))
  rw [List.length_map] at h5
  refine Nat.le_of_not_lt fun q=>?_
  have q':(n:Int)<((ns.length:Nat):Int):=by omega
  first
   | (rw [decide_eq_true q'] at h5; exact absurd h5 (by decide))
   | (simp at h5; omega)
 cases hwl with
 | cons w1 w2 =>
  cases w2
  cases w1 with
  | list ho hall=>exact ⟨_,_,ns,rfl,rfl,ho,Hu ns _ hall,hlen⟩
theorem PL (l:OpenLaw) (args:List WData):l.row.toRowW.claim.post args (.bool true) args=true :=
 postW_of (r:=l.row.toRowW) (X:=(true == true))
  (show WShape.has [] (.bool true) .bool=true by first | rfl | decide | simp [WShape.has,WShape.arms,WShape.armsAll])
  (show (WTm.eq .res (.lit (.bool true))).value [] { args:=args,res:=some (.bool true),after:=args }=some (.bool (true == true)) from w_eq_bool (w_res rfl) w_lit) rfl
theorem Kr {l:OpenLaw} {n:Nat} {q:Program} {loose:List Str} {XP:(Str->Option Value)->Heap->Prop} {YP:World->Heap->Prop} {d:DefRec}
  (hn:l.most=some n) (hdf:d.params.defaults=[])
  (call:∀ (w:World) (s₀ s₁:Shared) (mg mb:Str->Option Value) (fa:Addr) (o:Obj) (pm cd doc:Value) (a:Addr) (vs:List Value) (ns:List Int),
   Ground q loose [] XP w s₀ mg mb s₁.heap->YP w s₁.heap ->
   s₁.heap.get? fa=some o->o.data=.func (docDef d.name d.params d.body d.scope pm cd doc)->s₁.heap.CodeRec cd d.name->mg d.name=some (.ref fa) ->
   s₁.heap.get? a=some { cls:=.type "list",data:=.seq vs.toArray }->IntsAre vs ns->ns.length<=n->s₁.gens = #[] ->
   codeAny (model l.prog w) callerA (.call (.ref fa) ⟨[.ref a],[]⟩) (fun r s'=>r=.ok (.ret (.bool true))/\OldK s₁.heap s'.heap/\s'.os=s₁.os/\AllBare s'.gens) s₁) :
  WalkO q loose XP YP l.row.toRowW d [] (fun f vs=>PySem.call f vs):=by
 intro w s₀ s₁ mg mb G Y fa o pm cd doc dV kV ho hd hcd hD hmg hg args vals as hpre hlay hrd hwl hlo
 obtain rfl:dV=.none:=Dflts.none hD hdf
 obtain rfl:kV=.none:=Dflts.noKw hD
 obtain ⟨a,vs,ns,rfl,rfl,hobj,hints,hlen⟩:=Oq hn hpre hwl
 refine enter_call (codeAny_mono (call w s₀ s₁ mg mb fa o pm cd doc a vs ns G Y ho (fd_plain hd) hcd hmg hobj hints hlen hg) fun r s' hq=>?_)
 obtain ⟨rfl,h2,h3,h4⟩:=hq
 exact ⟨.inl ⟨.bool true,.bool true,[],rfl,fun _=>rfl,.bool true,PL l _,fun _=>⟨List.Pairwise.nil,fun _ hm=>(nomatch hm)⟩⟩,h2,h3,h4⟩
section
variable {prog:Program} {w:World} {A:Around} {E:Value->Shared->Prop} {s:Shared} {K:Frag}
end
end Att
namespace L2
open PySem PySem.Spec PyProof.Rows
theorem JX:∀ {vs:List Value} {ns:List Int},IntsAre vs ns->Vals (ns.map V.int) vs
 | _,_,.nil=>.nil
 | _,_,.cons n t h=>.cons ⟨t,rfl⟩ (JX h)
noncomputable def Only (H:Hp):Prop:=∀ b,H b=none \/ ∃ o xs,H b=some (.frz o (.lst xs))
theorem Qa {P:Program} {w:World} {K:PySem.W.Frag} {mg mb:Str->Option Value} {CX:Nq} {k:Nat} {fa a:Addr} {fd:FuncData} {x:Str} {sp:Sp} {s₁:Shared} {vs:List Value} {ns:List Int}
  (KX:K.In s₁.heap) (hns:s₁.heap.Ns mainGlobals mg) (hb:s₁.heap.Ns builtinsNs mb) (hbb:∀ x:Str,x ≠ "__name__"->mb x=bootBuiltins x) (hlim:s₁.heap.NoLimit) (hg:s₁.gens = #[])
  (ha:s₁.heap.get? a=some { cls:=.type "list",data:=.seq vs.toArray }) (hi:IntsAre vs ns) (hl:ns.length<=sizeLine) (hr:BZ k callerA)
  (F:∀ base:Heap,K.In base->base.Ns mainGlobals mg->A_ P w K mg base CX k fa fd [x] sp) (hbind:∀ (s:Shared) (u:Value),BindsTo s fd ⟨[u],[]⟩ [(x,u)])
  (hsp:∀ H:Hp,Only H->Cz K H a (ns.map V.int)->sp [.ref a] H (fun v _=>v=.bl true) fun _ _ _=>False)
  (hCX:∀ H e s',CX [] H s₁ (fun _ _ _=>False) e s'->False) :
  codeAny (model P w) callerA (.call (.ref fa) ⟨[.ref a],[]⟩) (fun r s'=>r=.ok (.ret (.bool true))/\OldK s₁.heap s'.heap/\s'.os=s₁.os/\AllBare s'.gens) s₁:=by
 have rv:=JX hi
 have lenV:=hi.length
 have core:∀ H:Hp,Only H->Cz K H a (ns.map V.int)->Dr P w H s₁.heap->(∀ b,H b ≠ none->b=a)->(H a ≠ none->K.lookup a=none) ->
   codeAny (model P w) callerA (.call (.ref fa) ⟨[.ref a],[]⟩) (fun r s'=>r=.ok (.ret (.bool true))/\OldK s₁.heap s'.heap/\s'.os=s₁.os/\AllBare s'.gens) s₁:=by
  intro H hO hS hok hA hK
  have base_of:∀ {b:Addr} {o:Obj},s₁.heap.get? b=some o->H b=none->(Jt s₁.heap H).get? b=some o:=fun e n=>Qu e n
  have noA:∀ {b:Addr} {o:Obj} {es:Array DictEntry} {ep:Nat},s₁.heap.get? b=some o->o.data=.dict es ep->H b=none:=fun {b o es ep} e d=>by
   cases q:H b with
   | none=>rfl
   | some u =>
    have e':b=a:=hA b (by rw [q]; simp)
    subst e'
    rw [ha] at e; cases e
    have d':Data.seq vs.toArray _=Data.dict es ep:=d
    cases d'
  have nsK:∀ {b:Addr} {m:Str->Option Value},s₁.heap.Ns b m->(Jt s₁.heap H).Ns b m:=fun {b m} ⟨o,es,ep,e,d,r⟩=>⟨o,es,ep,base_of e (noA e d),d,r⟩
  have hKb:K.In (Jt s₁.heap H):=fun b o e=>base_of (KX b o e) (by
   cases q:H b with
   | none=>rfl
   | some u =>
    have e':b=a:=hA b (by rw [q]; simp)
    subst e'
    rw [hK (by rw [q]; simp)] at e; cases e)
  have hM:Mod K mg (Jt s₁.heap H):=⟨hKb,nsK hns,⟨mb,nsK hb,hbb⟩,let ⟨mc,h1,h2⟩:=hlim; ⟨mc,nsK h1,h2⟩⟩
  have e0:Kg P w K mg (Jt s₁.heap H) callerA [] s₁ H:=⟨rfl,hM,fun b o e=>Rx e,Nat.le_of_eq (Ph _ _),trivial,fun b hb=>absurd (show b∈([]:List Addr) from hb) (by simp),hok,.of_eq hg⟩
  refine codeAny_mono ((F _ hKb (nsK hns)).run callerA [] s₁ H ⟨[.ref a],[]⟩ [.ref a] [.ref a] _ _ hr e0 (hbind s₁ (.ref a)) (.cons rfl .nil) (hsp H hO hS)) fun r s' h=>?_
  cases r with
  | error e=>exact (hCX H e s' h).elim
  | ok fl =>
   cases fl with
   | next=>exact False.elim h
   | brk=>exact False.elim h
   | cont=>exact False.elim h
   | ret u =>
    obtain ⟨v,H',os,bare,un,hok',r',q⟩:=h
    have q':v=.bl true:=q
    subst q'
    obtain rfl:u=Value.bool true:=r'
    refine ⟨rfl,OldK.of_keep fun b o e=>?_,os,bare⟩
    cases q:H b with
    | none=>exact un.keep b o e q (by intro z; exact absurd (show b∈([]:List Addr) from z) (by simp)) (by simp)
    | some u =>
     rcases hO b with z | ⟨ob,xs,z⟩
     ·rw [q] at z; cases z
     ·have z2:=un.frzs b ob _ z
      obtain ⟨e1,_⟩:=hok b _ z
      obtain ⟨e2,_⟩:=hok' b _ z2
      rw [e] at e1; cases e1
      exact e2
 cases hk:K.lookup a with
 | some o =>
  have e:=KX a o hk
  rw [ha] at e
  cases e
  refine core (fun _=>none) (fun _=>.inl rfl) (.inr ⟨_,vs.toArray,_,hk,rfl,rfl,rfl,by rw [List.size_toArray,lenV]; exact hl,by simpa using rv⟩) (fun b u z=>by have z':(none:Option HO)=some u:=z; cases z') (fun b z=>absurd rfl z) fun z=>absurd rfl z
 | none =>
  refine core (fun b=>if b=a then some (.frz { cls:=.type "list",data:=.seq vs.toArray } (.lst (ns.map V.int))) else none) (fun b=>?_) (.inl (.inr ⟨{ cls:=.type "list",data:=.seq vs.toArray },if_pos rfl⟩)) (fun b u z=>?_) (fun b z=>?_) fun _=>hk
  ·by_cases hb:b=a
   ·exact .inr ⟨_,_,if_pos hb⟩
   ·exact .inl (if_neg hb)
  ·by_cases hb:b=a
   ·have z':=(if_pos hb).symm.trans z
    cases z'
    subst hb
    exact ⟨ha,by rw [List.length_map]; exact hl,vs,_,rv,ha⟩
   ·have z':=(if_neg hb).symm.trans z
    cases z'
  ·by_cases hb:b=a
   ·exact hb
   ·exact absurd (if_neg hb) z
end L2
namespace L2
open PySem PySem.Spec PyProof.Rows
theorem TY {l:PySem.W.OpenLaw} {n k:Nat} {q:Program} {loose:List Str} {XP:(Str->Option Value)->Heap->Prop} {YP:World->Heap->Prop} {d:DefRec} {K:Params->PySem.W.Frag} {CX:World->Nq} {sp:World->Sp} {x:Str}
  (hn:l.most=some n) (hn2:n<=sizeLine) (hdf:d.params.defaults=[]) (hr:BZ k callerA)
  (hY:∀ (w:World) (h:Heap),YP w h->(K w.params).In h)
  (F:∀ (w:World) (mg:Str->Option Value) (fa:Addr) (h:Heap),(K w.params).In h->h.Ns mainGlobals mg->mg d.name=some (.ref fa) ->
   ∃ fd:FuncData,(∀ (s:Shared) (u:Value),BindsTo s fd ⟨[u],[]⟩ [(x,u)]) /\
    ∀ base:Heap,(K w.params).In base->base.Ns mainGlobals mg->A_ l.prog w (K w.params) mg base (CX w) k fa fd [x] (sp w))
  (hsp:∀ (w:World) (H:Hp) (a:Addr) (ns:List Int),ns.length<=n->Only H->Cz (K w.params) H a (ns.map V.int)->sp w [.ref a] H (fun v _=>v=.bl true) fun _ _ _=>False)
  (hCX:∀ (w:World) (H:Hp) (s:Shared) (e:Value) (s':Shared),CX w [] H s (fun _ _ _=>False) e s'->False) :
  PySem.W.WalkO q loose XP YP l.row.toRowW d [] (fun f vs=>PySem.call f vs):=by
 refine Att.Kr hn hdf fun w s₀ s₁ mg mb fa o pm cd doc a vs ns G Y ho hd hcd hmg hobj hints hlen hg=>?_
 have KX:=hY w _ Y
 obtain ⟨fd,hb,hF⟩:=F w mg fa _ KX G.T.g hmg
 exact Qa KX G.T.g G.T.b G.T.builtins G.T.nolimit hg hobj hints (Nat.le_trans hlen hn2) hr hF hb (fun H hO hS=>hsp w H a ns hlen hO hS) fun H e s'=>hCX w H s₁ e s'
end L2
namespace L2
open PySem PySem.Spec PyProof.Rows
noncomputable def inClass (s:Stmt) (j:Nat):Stmt:=match s with
 | .ClassDef _ _ _ body _ _ _ _ _ _ _=>body.getD j (.Pass ⟨0,0,0,0⟩)
 | _=>.Pass ⟨0,0,0,0⟩
noncomputable def DP (s:Stmt):Arguments:=match s with
 | .FunctionDef _ a _ _ _ _ _ _ _ _=>a
 | _=>{ posonlyargs:=[],args:=[],vararg:=none,kwonlyargs:=[],kw_defaults:=[],kwarg:=none,defaults:=[] }
noncomputable def Cp (s:Stmt):List Stmt:=match s with
 | .FunctionDef _ _ b _ _ _ _ _ _ _=>b
 | _=>[]
noncomputable def Ae (s:Stmt):Scope:=match s with
 | .FunctionDef _ _ _ _ _ _ sc _ _ _=>sc
 | _=>{ kind:=.function,names:=[],isGenerator:=false,isCoroutine:=false }
noncomputable abbrev B_:Nq:=fun _ _ _ _ _ _=>False
noncomputable abbrev E0:XK:=fun _ _ _=>False
theorem BL {X:Cx}:F_ B_ X E0:=fun _ _ _ _ _ _ _ h=>h.elim
structure Dn (K:PySem.W.Frag) (x qual:Str) (st:Stmt) (f:Addr) (fd:FuncData):Prop where
 ex:∃ (oc:Value) (od:Option Addr) (kV doc pm:Value) (an:Option Addr) (cdv ct:Value) (osl:Array (Option Value)),
  fd=PySem.W.fnOf x qual (DP st) (Cp st) (Ae st) .none kV doc pm an cdv ct/\K.lookup f=some ⟨oc,od,.func fd,osl⟩/\PySem.W.codeIn K cdv qual=true
 kp:PySem.W.keepIn K (.ref f)=true
section
variable {P:Program} {w:World} {K:PySem.W.Frag} {mg:Str->Option Value} {base:Heap}
theorem Dn.ok {x qual:Str} {st:Stmt} {f:Addr} {fd:FuncData} {N ps:List Str} {k:Nat} {sp:Sp} (F:Dn K x qual st f fd) (S:Ax N ps (Ae st)) (len:∀ vs H Q E,sp vs H Q E->vs.length=ps.length)
  (hbody:∀ (cdv:Value) (A:Around) (outer:List Env) (s:Shared) (H:Hp) (vs:List V) (Q:VK) (E:XK),BZ k (A.deeper (envOfC qual (Ae st) s.heap.objs.size f cdv))->sp vs H Q E ->
   ∃ t,Mw (Jz B_ P w K mg base N qual (Ae st) f cdv A outer s H E).ZQ (Cp st) t/\t { nx:=fun _ H'=>Q .non H',rt:=Q } (start N vs) H):A_ P w K mg base B_ (k+1) f fd ps sp:=by
 obtain ⟨oc,od,kV,doc,pm,an,cdv,ct,osl,rfl,lk,hcd⟩:=F.ex
 refine UL lk hcd S len fun A outer s H vs Q E hr hsp=>?_
 obtain ⟨t,h,q⟩:=hbody cdv A outer s H vs Q E hr hsp
 exact ⟨t,h.ZQ,q⟩
theorem Dn.binds {x qual:Str} {st:Stmt} {f:Addr} {fd:FuncData} {ps:List Str} (F:Dn K x qual st f fd)
  (h:∀ (kV doc pm:Value) (an:Option Addr) (cdv ct:Value) (us:List Value),us.length=ps.length->bindArgs (PySem.W.fnOf x qual (DP st) (Cp st) (Ae st) .none kV doc pm an cdv ct) ⟨us,[]⟩=pure (ps.zip us)):Binds K fd ps []:=by
 obtain ⟨oc,od,kV,doc,pm,an,cdv,ct,osl,rfl,lk,hcd⟩:=F.ex
 exact .all (h kV doc pm an cdv ct)
theorem Lw {x qual:Str} {st:Stmt} {f:Addr} {oc:Value} {od an:Option Addr} {osl:Array (Option Value)} {kV doc pm cdv ct:Value} (l:K.lookup f=some ⟨oc,od,.func (PySem.W.fnOf x qual (DP st) (Cp st) (Ae st) .none kV doc pm an cdv ct),osl⟩)
  (c:PySem.W.codeIn K cdv qual=true) (k:PySem.W.keepIn K (.ref f)=true):Dn K x qual st f (PySem.W.fnOf x qual (DP st) (Cp st) (Ae st) .none kV doc pm an cdv ct):=⟨⟨oc,od,kV,doc,pm,an,cdv,ct,osl,rfl,l,c⟩,k⟩
end
theorem RG {A:Around} {k:Nat} (hr:BZ k A):A.units+1<cLine:=Nat.lt_of_le_of_lt (Nat.add_le_add_left (by decide:1<=64) _) hr.units
theorem BJ {n:Nat} (h:n<=1000):n<sizeLine:=Nat.lt_of_le_of_lt h (by decide)
section
variable {X:Cx}
theorem pv (i:Nat) {x:Str} {pos:Pos} (hN:X.N[i]? = some x:=by rfl) (hv:bH X.env.scope x:=by first | exact Or.inl rfl | exact Or.inr (Or.inl rfl) | exact Or.inr (Or.inr rfl)) (hd:(x == ("__debug__" : Str))=false:=by decide)
  (hcd:(x == ("__classdict__" : Str))=false:=by decide):PE X (.Name x pos) (Wq i):=Vr hN hv hd hcd
end
theorem Eb {A B:Prop} (h:B):if false=true then A else B:=by
 rw [if_neg Bool.false_ne_true]
 exact h
theorem Dm {A B:Prop} (h:A):if true=true then A else B:=by
 rw [if_pos rfl]
 exact h
theorem Bh {c A B:Prop} [Decidable c] (h1:c->A) (h2:¬ c->B):if c then A else B:=by
 by_cases h:c
 ·rw [if_pos h]
  exact h1 h
 ·rw [if_neg h]
  exact h2 h
theorem QQ {c A B:Prop} [Decidable c] (hc:c) (h:B):if (!decide c)=true then A else B:=by
 rw [decide_eq_true hc]
 exact Eb h
noncomputable def Aj (H H':Hp):Prop:=∀ b o,H b=some o->H' b=some o
theorem Aj.refl (H:Hp):Aj H H:=fun _ _ h=>h
theorem Aj.trans {H H1 H2:Hp} (a:Aj H H1) (b:Aj H1 H2):Aj H H2:=fun c o h=>b c o (a c o h)
theorem Aj.free {H H':Hp} (e:Aj H H') {l:Addr} (h:H' l=Option.none):H l=Option.none:=by
 cases q:H l with
 | none=>rfl
 | some o =>
  rw [e l o q] at h
  cases h
theorem Aj.seq {K:PySem.W.Frag} {H H':Hp} {a:Addr} {xs:List V} (e:Aj H H') (h:Cz K H a xs):Cz K H' a xs:=by
 rcases h with (h | ⟨o,h⟩) | h
 ·exact .inl (.inl (e _ _ h))
 ·exact .inl (.inr ⟨o,e _ _ h⟩)
 ·exact .inr h
end L2
namespace L2
open PySem PySem.Spec PyProof.Rows
section
variable {X:Cx}
end
section
variable {κ:Type} [DecidableEq κ]
theorem Nh:∀ {l:List κ} {k:κ},l.Nodup->¬ k∈l->(l++[k]).Nodup
 | [],k,_,_=>by simp
 | a::r,k,h,hk=>by
  obtain ⟨h1,h2⟩:=List.nodup_cons.mp h
  show (a::(r++[k])).Nodup
  refine List.nodup_cons.mpr ⟨fun m=>?_,Nh h2 fun m=>hk (List.mem_cons.mpr (Or.inr m))⟩
  rcases List.mem_append.mp m with q | q
  ·exact h1 q
  ·exact hk (List.mem_cons.mpr (Or.inl (List.mem_singleton.mp q).symm))
end
end L2
namespace L2
open PySem PySem.Spec PyProof.Rows
section
variable {prog:Program} {w:World} {A:Around} {E:Value->Shared->Prop} {s:Shared}
theorem Ie {it a:Addr} {i:Nat} {items:Array Value} {x:Value} {Q:Value->Shared->Prop} (j:s.heap.IsTupleIter it a i) (ht:s.heap.IsTuple a items) (hx:items[i]? = some x)
  (q:∀ h',h'.IsTupleIter it a (i+1)->Heap.SameBut it s.heap h'->Q x { s with heap:=h' }):wpAny (model prog w) A (Builtin.SmallTypes.nextOf (.ref it)) Q E s:=by
 have j0:=j
 obtain ⟨o,e,c,d⟩:=j
 obtain ⟨oa,ea,_,n,da⟩:=ht
 unfold Builtin.SmallTypes.nextOf
 refine wpAny_bind (wpAny_callSpecial?_slot (name:=Str.ofString "__next__") j0.typeIs F.slot_tuple_iterator_next (wpAny_call_entry F.slot_tuple_iterator_next j0.typeIs F.entry_tuple_iterator_next ?_ (F.args_tuple_iterator_next_1 _)))
 refine (show wpAny _ _ (field (.ref it) 0 >>= _) _ _ s from wpAny_bind (wpAny_field e d (x:=.ref a) rfl ?_))
 refine (show wpAny _ _ (if (Value.ref a == Value.none)=true then _ else _) _ _ s from ?_)
 rw [if_neg (by exact Bool.false_ne_true)]
 refine (show wpAny _ _ (field (.ref it) 1 >>= _) _ _ s from wpAny_bind (wpAny_field e d (x:=.int i 0) rfl ?_))
 refine (show wpAny _ _ (seqItems? (.ref a) >>= _) _ _ s from wpAny_bind (wpAny_seqItems ea da ?_))
 simp only [Int.toNat_natCast,hx]
 exact wpAny_bind (wpAny_setField e d (by simp) (wpAny_pure ⟨x,rfl,wpAny_pure (q _ ⟨_,Heap.get?_update_self _ e (Obj.isFreed_of_fields (Obj.data_mapFields d _)),(Obj.cls_mapFields ..).trans c,by rw [Obj.data_mapFields d]; simp [rawInt]⟩ (Heap.SameBut.update ..))⟩))
theorem I_ {it a:Addr} {i:Nat} {items:Array Value} {Q:Value->Shared->Prop} (hh:A.handled=none) (j:s.heap.IsTupleIter it a i) (ht:s.heap.IsTuple a items) (hx:items[i]? = none)
  (q:∀ h' e,Heap.ExtBut it s.heap h'->(∃ o,h'.get? e=some o/\o.cls=.type "StopIteration")->E (.ref e) { s with heap:=h' }):wpAny (model prog w) A (Builtin.SmallTypes.nextOf (.ref it)) Q E s:=by
 have j0:=j
 obtain ⟨o,e,c,d⟩:=j
 obtain ⟨oa,ea,_,n,da⟩:=ht
 unfold Builtin.SmallTypes.nextOf
 refine wpAny_bind (wpAny_callSpecial?_slot (name:=Str.ofString "__next__") j0.typeIs F.slot_tuple_iterator_next (wpAny_call_entry F.slot_tuple_iterator_next j0.typeIs F.entry_tuple_iterator_next ?_ (F.args_tuple_iterator_next_1 _)))
 refine (show wpAny _ _ (field (.ref it) 0 >>= _) _ _ s from wpAny_bind (wpAny_field e d (x:=.ref a) rfl ?_))
 refine (show wpAny _ _ (if (Value.ref a == Value.none)=true then _ else _) _ _ s from ?_)
 rw [if_neg (by exact Bool.false_ne_true)]
 refine (show wpAny _ _ (field (.ref it) 1 >>= _) _ _ s from wpAny_bind (wpAny_field e d (x:=.int i 0) rfl ?_))
 refine (show wpAny _ _ (seqItems? (.ref a) >>= _) _ _ s from wpAny_bind (wpAny_seqItems ea da ?_))
 simp only [Int.toNat_natCast,hx]
 refine wpAny_bind (wpAny_rule (wpAny_bind (wpAny_setField e d (by simp) (show wpAny _ _ (newExc (.type "StopIteration") [] >>= _) _ _ _ from wpAny_bind ?_))))
 simp only [newExc,newTuple]
 refine wpAny_bind (wpAny_newObj_type (wpAny_bind (m:=firstArgMember _ _) (wpAny_of_eq (a:=Value.none) (by first | rfl | (simp only [firstArgMember]; rfl)) (wpAny_newObj_type ?_ (by size_fits)))) (by size_fits))
 simp only [raiseNew]
 refine wpAny_bind (wpAny_handled ?_)
 first | rw [show A.in1.handled=none from hh] | rw [hh]
 exact wpAny_bind (wpAny_pure (wpAny_throw (q _ _ (((Heap.SameBut.update ..).extBut.push _).push _) ⟨_,Heap.get?_push_size _ rfl,rfl⟩)))
theorem PJ {z TI TO i1 i2 a1 a2:Addr} {k:Nat} {xs ys:Array Value} {x y a b:Value} {Q:Value->Shared->Prop} (D:ZipApart z TI TO i1 i2 a1 a2)
  (hz:IsZip s.heap z TI TO .none) (hI:IsPair s.heap TI (.ref i1) (.ref i2)) (hO:IsPair s.heap TO a b)
  (j1:s.heap.IsTupleIter i1 a1 k) (j2:s.heap.IsTupleIter i2 a2 k) (t1:s.heap.IsTuple a1 xs) (t2:s.heap.IsTuple a2 ys) (hx:xs[k]? = some x) (hy:ys[k]? = some y)
  (q:∀ h',IsZip h' z TI TO (rawInt s.heap.objs.size)->IsPair h' TO x y->h'.IsTupleIter i1 a1 (k+1)->h'.IsTupleIter i2 a2 (k+1)->IsPair h' s.heap.objs.size x y->h'.objs.size=s.heap.objs.size+1 ->
   (∀ c o,c ≠ z->c ≠ TO->c ≠ i1->c ≠ i2->s.heap.get? c=some o->h'.get? c=some o)->Q (.ref s.heap.objs.size) { s with heap:=h' }) :
  wpAny (model prog w) A (Builtin.«zip.__next__» ⟨[.ref z],[]⟩) (fun fin s'=>∃ v,fin=.done (.ret v)/\Q v s') E s:=by
 refine (show wpAny _ _ (field (.ref z) 2 >>= _) _ _ _ from wpAny_bind (wpAny_field hz rfl (x:=.bool false) rfl (show wpAny _ _ (field (.ref z) 3 >>= _) _ _ _ from wpAny_bind (wpAny_field hz rfl (x:=.ref TI) rfl (wpAny_bind (wpAny_seqItems hI rfl ?_))))))
 refine (show wpAny _ _ (Builtin.SmallTypes.ownedTupleIsFree (.ref z) >>= _) _ _ _ from wpAny_bind ?_)
 unfold Builtin.SmallTypes.ownedTupleIsFree
 refine wpAny_bind (wpAny_field hz rfl (x:=.none) rfl (wpAny_pure ?_))
 simp only [if_true]
 refine wpAny_bind (wpAny_rule (wpAny_bind (wpAny_field hz rfl (x:=.ref TO) rfl (wpAny_bind (wpAny_setField_rec hz (by simp) fun h1 z1 s1=>?_)))))
 have y1:IsZip h1 z TI TO .ellipsis:=z1
 refine wpAny_bind ?_
 simp only [List.zipIdx_cons,List.zipIdx_nil,List.forIn_cons,List.forIn_nil]
 refine wpAny_bind (wpAny_bind (wpAny_onRaise (show wpAny _ _ (Builtin.SmallTypes.nextOf (.ref i1) >>= _) _ _ _ from wpAny_bind (Ie (j1.at fun o e=>s1.extBut _ _ D.i1z e) (t1.at fun o e=>s1.extBut _ _ D.l1z e) hx fun h2 n1 s2=>wpAny_pure ?_))))
 have o2:IsPair h2 TO a b:=s2.extBut _ _ D.TOi1 (s1.extBut _ _ D.TOz hO)
 refine wpAny_bind (wpAny_seqItems o2 rfl (wpAny_bind (wpAny_updateSeq_pair o2 fun h3 p3 s3=>?_)))
 have o3:IsPair h3 TO x b:=p3
 refine wpAny_bind (wpAny_letGo (wpAny_pure ?_))
 refine wpAny_bind (wpAny_bind (wpAny_onRaise (show wpAny _ _ (Builtin.SmallTypes.nextOf (.ref i2) >>= _) _ _ _ from wpAny_bind (Ie (j2.at fun o e=>s3.extBut _ _ D.TOi2.symm (s2.extBut _ _ D.i12.symm (s1.extBut _ _ D.i2z e)))
  (t2.at fun o e=>s3.extBut _ _ D.l2TO (s2.extBut _ _ D.l2i1 (s1.extBut _ _ D.l2z e))) hy fun h4 n2 s4=>wpAny_pure ?_))))
 have o4:IsPair h4 TO x b:=s4.extBut _ _ D.TOi2 o3
 refine wpAny_bind (wpAny_seqItems o4 rfl (wpAny_bind (wpAny_updateSeq_pair o4 fun h5 p5 s5=>?_)))
 have o5:IsPair h5 TO x y:=p5
 refine wpAny_bind (wpAny_letGo (wpAny_pure (wpAny_pure (wpAny_bind (wpAny_seqItems o5 rfl (wpAny_bind (wpAny_newTuple ?_)))))))
 have zs:h5.objs.size=s.heap.objs.size:=by rw [s5.1,s4.1,s3.1,s2.1,s1.1]
 have y5:IsZip h5 z TI TO .ellipsis:=s5.extBut _ _ D.TOz.symm (s4.extBut _ _ D.i2z.symm (s3.extBut _ _ D.TOz.symm (s2.extBut _ _ D.i1z.symm y1)))
 have k5:∀ c o,c ≠ z->c ≠ TO->c ≠ i1->c ≠ i2->s.heap.get? c=some o->h5.get? c=some o:=fun c o c1 c2 c3 c4 e=>s5.extBut _ _ c2 (s4.extBut _ _ c4 (s3.extBut _ _ c2 (s2.extBut _ _ c3 (s1.extBut _ _ c1 e))))
 have m1:h5.IsTupleIter i1 a1 (k+1):=n1.at fun o e=>s5.extBut _ _ D.TOi1.symm (s4.extBut _ _ D.i12 (s3.extBut _ _ D.TOi1.symm e))
 have m2:h5.IsTupleIter i2 a2 (k+1):=n2.at fun o e=>s5.extBut _ _ D.TOi2.symm e
 have lz:z<h5.objs.size:=Heap.lt_size y5
 refine (show wpAny _ _ (Builtin.SmallTypes.ownedTupleHandOut (.ref z) (.ref h5.objs.size) >>= _) _ _ _ from wpAny_bind ?_)
 unfold Builtin.SmallTypes.ownedTupleHandOut
 have y6:IsZip (h5.push { cls:=.type "tuple",data:=.seq #[x,y] }) z TI TO .ellipsis:=Heap.get?_push_of_some _ y5
 refine wpAny_bind (wpAny_setField_rec y6 (by simp) fun h7 p7 s7=>?_)
 have y7:IsZip h7 z TI TO (rawInt h5.objs.size):=p7
 refine wpAny_setField_rec y7 (by simp) fun h8 p8 s8=>?_
 have y8:IsZip h8 z TI TO (rawInt h5.objs.size):=p8
 have up:∀ c o,c ≠ z->h5.get? c=some o->h8.get? c=some o:=fun c o c1 e=>s8.extBut _ _ c1 (s7.extBut _ _ c1 (Heap.get?_push_of_some _ e))
 have t8:IsPair h8 h5.objs.size x y:=s8.extBut _ _ (Nat.ne_of_gt lz) (s7.extBut _ _ (Nat.ne_of_gt lz) (Heap.get?_push_size _ rfl))
 have z8:h8.objs.size=h5.objs.size+1:=by rw [s8.1,s7.1,Heap.size_push]
 rw [zs] at y8 t8 z8
 refine wpAny_pure ⟨_,rfl,?_⟩
 show Q (.ref h5.objs.size) _
 rw [zs]
 exact q h8 y8 (up _ _ D.TOz o5) (m1.at fun o e=>up _ o D.i1z e) (m2.at fun o e=>up _ o D.i2z e) t8 z8 fun c o c1 c2 c3 c4 e=>up c o c1 (k5 c o c1 c2 c3 c4 e)
theorem RL {z TI TO i1 i2 a1 a2:Addr} {k:Nat} {xs:Array Value} {a b:Value} {Q:Fin->Shared->Prop} (hh:A.handled=none) (D:ZipApart z TI TO i1 i2 a1 a2)
  (hz:IsZip s.heap z TI TO .none) (hI:IsPair s.heap TI (.ref i1) (.ref i2)) (hO:IsPair s.heap TO a b)
  (j1:s.heap.IsTupleIter i1 a1 k) (t1:s.heap.IsTuple a1 xs) (hx:xs[k]? = none)
  (q:∀ h' e,(∀ c o,c ≠ z->c ≠ TO->c ≠ i1->c ≠ i2->s.heap.get? c=some o->h'.get? c=some o)->(∃ o,h'.get? e=some o/\o.cls=.type "StopIteration")->E (.ref e) { s with heap:=h' }) :
  wpAny (model prog w) A (Builtin.«zip.__next__» ⟨[.ref z],[]⟩) Q E s:=by
 refine (show wpAny _ _ (field (.ref z) 2 >>= _) _ _ _ from wpAny_bind (wpAny_field hz rfl (x:=.bool false) rfl (show wpAny _ _ (field (.ref z) 3 >>= _) _ _ _ from wpAny_bind (wpAny_field hz rfl (x:=.ref TI) rfl (wpAny_bind (wpAny_seqItems hI rfl ?_))))))
 refine (show wpAny _ _ (Builtin.SmallTypes.ownedTupleIsFree (.ref z) >>= _) _ _ _ from wpAny_bind ?_)
 unfold Builtin.SmallTypes.ownedTupleIsFree
 refine wpAny_bind (wpAny_field hz rfl (x:=.none) rfl (wpAny_pure ?_))
 simp only [if_true]
 refine wpAny_bind (wpAny_rule (wpAny_bind (wpAny_field hz rfl (x:=.ref TO) rfl (wpAny_bind (wpAny_setField_rec hz (by simp) fun h1 z1 s1=>?_)))))
 have y1:IsZip h1 z TI TO .ellipsis:=z1
 refine wpAny_bind ?_
 simp only [List.zipIdx_cons,List.zipIdx_nil,List.forIn_cons,List.forIn_nil]
 refine wpAny_bind (wpAny_bind (wpAny_onRaise (show wpAny _ _ (Builtin.SmallTypes.nextOf (.ref i1) >>= _) _ _ _ from wpAny_bind (I_ hh (j1.at fun o e=>s1.extBut _ _ D.i1z e) (t1.at fun o e=>s1.extBut _ _ D.l1z e) hx fun h2 x s2 hx2=>?_))))
 obtain ⟨ox,ex,cx⟩:=hx2
 have y2:IsZip h2 z TI TO .ellipsis:=s2 _ _ D.i1z.symm y1
 have nz:x ≠ z:=fun u=>by subst u; rw [y2] at ex; cases ex; simp at cx
 exact wpAny_setField_rec y2 (by simp) fun h3 _ s3=>q h3 x (fun c o c1 _ c3 _ e=>s3.extBut _ _ c1 (s2 _ _ c3 (s1.extBut _ _ c1 e))) ⟨ox,s3.extBut _ _ nz ex,cx⟩
end
noncomputable abbrev ZK (h:Heap) (a1:Addr):Heap:=h.push { cls:=.type "tuple_iterator",data:=.fields #[.ref a1,.int 0 0] }
noncomputable abbrev ZJ (h:Heap) (a1 a2:Addr):Heap:=(ZK h a1).push { cls:=.type "tuple_iterator",data:=.fields #[.ref a2,.int 0 0] }
noncomputable abbrev Y5 (h:Heap) (a1 a2:Addr):Heap:=(ZJ h a1 a2).push { cls:=.type "tuple",data:=.seq #[.ref h.objs.size,.ref (ZK h a1).objs.size] }
noncomputable abbrev Y6 (h:Heap) (a1 a2:Addr):Heap:=(Y5 h a1 a2).push { cls:=.type "tuple",data:=.seq #[.none,.none] }
noncomputable abbrev Vb (h:Heap) (a1 a2:Addr):Heap:=(Y6 h a1 a2).push { cls:=.type "zip",data:=.fields #[.none,.bool false,.bool false,.ref (ZJ h a1 a2).objs.size,.ref (Y5 h a1 a2).objs.size] }
theorem Qd (a1 a2:Addr) (xs ys:Array Value):Meets (Builtin.«zip.__new__» ⟨[.type "zip",.ref a1,.ref a2],[]⟩) (fun _ R s=>s.heap.IsTuple a1 xs/\s.heap.IsTuple a2 ys /\
   R (.ok (.ret (.ref (Y6 s.heap a1 a2).objs.size))) { s with heap:=Vb s.heap a1 a2 }) :=
 .of_wp fun prog w A R s h=>by
  obtain ⟨hp,g,d,tk,os⟩:=s
  obtain ⟨t1,t2,h⟩:=h
  have hsub:=sub_zip
  have u1:Heap.IsTuple (Shared.heap ⟨hp,g,d,tk,os⟩) a1 xs:=t1
  have u2:Heap.IsTuple (Shared.heap ⟨hp.push { cls:=.type "tuple_iterator",data:=.fields #[.ref a1,.int 0 0] },g,d,tk,os⟩) a2 ys:=Heap.IsTuple.at t2 fun o e=>Heap.get?_push_of_some _ e
  wp_walk using wpAny_pyIter_tuple u1,wpAny_pyIter_tuple u2
  exact ⟨_,rfl,h⟩
section
variable {prog:Program} {w:World} {A:Around} {E:Value->Shared->Prop} {s:Shared}
theorem PQ {a1 a2:Addr} {xs ys:Array Value} {Q:Value->Shared->Prop} (t1:s.heap.IsTuple a1 xs) (t2:s.heap.IsTuple a2 ys)
  (q:∀ h' n,n=s.heap.objs.size->IsZip h' (n+4) (n+2) (n+3) .none->IsPair h' (n+2) (.ref n) (.ref (n+1))->IsPair h' (n+3) .none .none->h'.IsTupleIter n a1 0->h'.IsTupleIter (n+1) a2 0->h'.objs.size=n+5 ->
   (∀ c o,s.heap.get? c=some o->h'.get? c=some o)->Q (.ref (n+4)) { s with heap:=h' }):wpAny (model prog w) A (call (.type "zip") [.ref a1,.ref a2]) Q E s:=by
 refine callType_new F.called_zip (by decide) (F.typeCall_zip_2 _ _) (F.newCall_zip_2 _ _) (fun obj=>F.args_object_init_3 obj _ _) F.entry_zip_new (Qd a1 a2 xs ys) ⟨t1,t2,?_⟩
 have z1:(ZK s.heap a1).objs.size=s.heap.objs.size+1:=Heap.size_push ..
 have z2:(ZJ s.heap a1 a2).objs.size=s.heap.objs.size+2:=by rw [Heap.size_push,z1]
 have z3:(Y5 s.heap a1 a2).objs.size=s.heap.objs.size+3:=by rw [Heap.size_push,z2]
 have z4:(Y6 s.heap a1 a2).objs.size=s.heap.objs.size+4:=by rw [Heap.size_push,z3]
 have z5:(Vb s.heap a1 a2).objs.size=s.heap.objs.size+5:=by rw [Heap.size_push,z4]
 have g5:(Vb s.heap a1 a2).get? (Y6 s.heap a1 a2).objs.size=some _:=Heap.get?_push_size _ rfl
 have g4:(Vb s.heap a1 a2).get? (Y5 s.heap a1 a2).objs.size=some _:=Heap.get?_push_of_some _ (Heap.get?_push_size _ rfl)
 have g3:(Vb s.heap a1 a2).get? (ZJ s.heap a1 a2).objs.size=some _:=Heap.get?_push_of_some _ (Heap.get?_push_of_some _ (Heap.get?_push_size _ rfl))
 have g2:(Vb s.heap a1 a2).get? (ZK s.heap a1).objs.size=some _:=Heap.get?_push_of_some _ (Heap.get?_push_of_some _ (Heap.get?_push_of_some _ (Heap.get?_push_size _ rfl)))
 have g1:(Vb s.heap a1 a2).get? s.heap.objs.size=some _:=Heap.get?_push_of_some _ (Heap.get?_push_of_some _ (Heap.get?_push_of_some _ (Heap.get?_push_of_some _ (Heap.get?_push_size _ rfl))))
 refine (show _/\_ from ?_)
 rw [z2,z3,z4] at g5
 rw [z1,z2] at g3
 rw [z3] at g4
 rw [z1] at g2
 rw [z4]
 exact ⟨⟨_,g5,rfl⟩,q _ _ rfl g5 g3 g4 ⟨_,g1,rfl,rfl⟩ ⟨_,g2,rfl,rfl⟩ z5 fun c o e=>Heap.get?_push_of_some _ (Heap.get?_push_of_some _ (Heap.get?_push_of_some _ (Heap.get?_push_of_some _ (Heap.get?_push_of_some _ e))))⟩
end
end L2
namespace L2
open PySem PySem.Spec PyProof.Rows
noncomputable def CW (env:Env):List (Str × NameKind)->List (Str × Addr)->List (Str × Addr)
 | [],acc=>acc
 | (n,k)::r,acc=>if k == .free then (match env.cells.lookup n with | some a=>CW env r ((n,a)::acc) | none=>CW env r acc) else CW env r acc
theorem Ig {scope:Scope} {env:Env} (h:∀ y∈scope.names,y.2=.free->∃ c,env.cells.lookup y.1=some c):closureFor scope env=pure (CW env scope.names []):=by
 unfold closureFor
 have key:∀ (l:List (Str × NameKind)) (acc:List (Str × Addr)),(∀ y∈l,y.2=.free->∃ c,env.cells.lookup y.1=some c) ->
   (forIn l acc fun (x:Str × NameKind) (cs:List (Str × Addr))=>(match x with | (name,kind)=>if (kind == NameKind.free)=true then (do let a ← cellOf env name; pure (ForInStep.yield ((name,a)::cs))) else pure (ForInStep.yield cs):Sem (ForInStep (List (Str × Addr)))))=(pure (CW env l acc):Sem _):=by
  intro l
  induction l with
  | nil=>intro acc _; rfl
  | cons x r ih =>
   intro acc hl
   obtain ⟨n,k⟩:=x
   rw [List.forIn_cons]
   unfold CW
   by_cases hk:(k == NameKind.free)=true
   ·obtain ⟨c,hc⟩:=hl (n,k) List.mem_cons_self (by simpa using hk)
    have hc':env.cells.lookup n=some c:=hc
    have e:cellOf env n=pure c:=by unfold cellOf; rw [hc']
    simp only [hk,if_true,e,hc']
    exact ih _ fun y hy=>hl y (List.mem_cons_of_mem _ hy)
   ·simp only [hk]
    exact ih _ fun y hy=>hl y (List.mem_cons_of_mem _ hy)
 have:=key scope.names [] h
 exact (congrArg (fun (m:Sem (List (Str × Addr)))=>m >>= fun z=>pure z) this).trans rfl
theorem Et (env:Env):∀ (l:List (Str × NameKind)) (acc:List (Str × Addr)) (y:Str) (c:Addr),(CW env l acc).lookup y=some c->acc.lookup y=some c \/ env.cells.lookup y=some c
 | [],_,_,_,h=>.inl h
 | (n,k)::r,acc,y,c,h=>by
  unfold CW at h
  split at h
  ·split at h
   ·rename_i a ha
    rcases Et env r _ y c h with z | z
    ·rw [List.lookup_cons] at z
     split at z
     ·rename_i e
      cases z
      have e':y=n:=by simpa using e
      subst e'
      exact .inr ha
     ·exact .inl z
    ·exact .inr z
   ·exact Et env r _ y c h
  ·exact Et env r _ y c h
theorem GR (env:Env):∀ (l:List (Str × NameKind)) (acc:List (Str × Addr)) (y:Str),(acc.lookup y).isSome=true->((CW env l acc).lookup y).isSome=true
 | [],_,_,h=>h
 | (n,k)::r,acc,y,h=>by
  unfold CW
  split
  ·split
   ·refine GR env r _ y ?_
    rw [List.lookup_cons]
    split
    ·rfl
    ·exact h
   ·exact GR env r _ y h
  ·exact GR env r _ y h
theorem Dh (env:Env):∀ (l:List (Str × NameKind)) (acc:List (Str × Addr)) (y:Str),(y,NameKind.free)∈l->(env.cells.lookup y).isSome=true->((CW env l acc).lookup y).isSome=true
 | [],_,_,h,_=>nomatch h
 | (n,k)::r,acc,y,h,hc=>by
  unfold CW
  rcases List.mem_cons.mp h with e | h
  ·obtain ⟨e1,e2⟩:=Prod.mk.inj e
   subst e1
   subst e2
   rw [if_pos (by decide)]
   split
   ·refine GR env r _ y ?_
    rw [List.lookup_cons]
    simp
   ·rename_i e
    rw [e] at hc
    cases hc
  ·split
   ·split
    ·exact Dh env r _ y h hc
    ·exact Dh env r _ y h hc
   ·exact Dh env r _ y h hc
end L2
namespace L2
open PySem PySem.Spec PyProof.Rows
noncomputable def Gf (x:Str) (N:List Str):List Str:=N.map fun y=>if y=x then "" else y
noncomputable def Bo (X:Cx) (x:Str) (scope:Scope) (C:Addr) (s₀:Shared) (H₀:Hp) (fp:List Addr):Cx where
 prog:=X.prog
 w:=X.w
 K:=X.K
 mg:=X.mg
 base:=X.base
 A:=X.A
 N:=x::Gf x X.N
 s₀:=s₀
 H₀:=H₀
 env:=compEnvC scope (CW X.env scope.names []) C X.env
 outer:=X.stack
 stack:=X.stack
 ex:=fp
 fn:=fun _=>false
 calm:=X.calm
 pn:=[]
 xe:=fun _ _=>False
theorem Du (env:Env) (y:Str):∀ names:List (Str × NameKind),
  (names.map fun (n,k)=>if (k == NameKind.free && env.scope.kind == .function && env.kindOf n == some .cell) then (n,NameKind.cell) else (n,k)).lookup y =
   (names.lookup y).map fun k=>if (k == NameKind.free && env.scope.kind == .function && env.kindOf y == some .cell) then NameKind.cell else k
 | []=>rfl
 | (n,k)::r=>by
  have ih:=Du env y r
  rw [List.map_cons]
  show List.lookup y ((if (k == NameKind.free && env.scope.kind == .function && env.kindOf n == some .cell)=true then (n,NameKind.cell) else (n,k))::_)=_
  have e0:(if (k == NameKind.free && env.scope.kind == .function && env.kindOf n == some .cell)=true then (n,NameKind.cell) else (n,k))=(n,if (k == NameKind.free && env.scope.kind == .function && env.kindOf n == some .cell)=true then NameKind.cell else k):=by split <;> rfl
  rw [e0,List.lookup_cons,List.lookup_cons]
  cases hx:y == n with
  | true =>
   have e:y=n:=by simpa using hx
   subst e
   rfl
  | false=>exact ih
structure GQ (X:Cx) (x:Str) (scope:Scope):Prop where
 kind:scope.kind=.function
 nocell:∀ y∈scope.names,y.2 ≠ .cell
 names:∀ y∈scope.names,y.2=.local->scope.names.lookup y.1=some .local
 loc:scope.names.lookup x=some .local
 free:∀ y∈scope.names,y.2=.free->X.env.kindOf y.1=some .cell \/ X.env.kindOf y.1=some .free
 nd:(x::Gf x X.N).Nodup
 only:∀ y∈Gf x X.N,scope.names.lookup y ≠ some .local
 noE:scope.names.lookup ("" : Str)=none
section
variable {X:Cx} {pins:List (Addr × Obj)} {σ:St} {H:Hp} {s:Shared} {x:Str} {scope:Scope} {fp:List Addr} {C:Addr}
theorem Lj {h':Heap} {tk:Nat} {m:Str->Option Value} (I:Inv X pins σ H s) (S:GQ X x scope) (hf:∀ b∈fp,FW X pins H b) (hlt:∀ b∈fp,b<s.heap.objs.size) (hC:s.heap.objs.size<=C) (hn:h'.Ns C m)
  (hk:∀ b o,s.heap.get? b=some o->h'.get? b=some o):Inv (Bo X x scope C s H fp) [] (none::σ) H { s with heap:=h',toks:=tk }:=by
 have cl:∀ y c,(CW X.env scope.names []).lookup y=some c->X.env.cells.lookup y=some c:=fun y c e=>by
  rcases Et X.env scope.names [] y c e with z | z
  ·cases z
  ·exact z
 have cellK:∀ c v,s.heap.IsCell c v->h'.IsCell c v:=fun c v ⟨o,ho,hd⟩=>⟨o,hk c o ho,hd⟩
 have look:∀ y,(Bo X x scope C s H fp).env.scope.names.lookup y=(scope.names.lookup y).map fun k=>if (k == NameKind.free && X.env.scope.kind == .function && X.env.kindOf y == some .cell) then NameKind.cell else k:=fun y=>Du X.env y scope.names
 refine ⟨⟨I.ok.mod,S.kind,I.ok.glob,I.ok.blt,hC,fun y z c e1 e2=>I.ok.inj y z c (cl y c e1) (cl z c e2),fun y hy=>?_,fun y c e _=>(by cases e),fun h=>I.ok.hd h,I.ok.frames,.inl rfl,fun b hb=>?_,I.bs,Nat.le_trans I.ok.bsz I.sz,fun b o e hb=>?_,fun b hb hb'=>?_,I.stack,I.GF⟩,
  rfl,I.bare,Un.kept hk,⟨m,hn,fun i y v h1 h2 h3=>?_⟩,fun y c e=>?_,I.hok.fresh hC,fun y c e=>I.freeC y c (cl y c e),fun p hp=>absurd (show p∈([]:List (Addr × Obj)) from hp) (by simp),I.hok.kept hk,?_⟩
 ·-- every cell of the block is there
  have hy':(Bo X x scope C s H fp).env.scope.names.lookup y=some .cell \/ (Bo X x scope C s H fp).env.scope.names.lookup y=some .free:=hy
  rw [look y] at hy'
  cases e:scope.names.lookup y with
  | none=>rw [e] at hy'; rcases hy' with z | z <;> cases z
  | some k =>
   have hm:=PySem.mem_of_lookup e
   have hfree:k=.free:=by
    rw [e] at hy'
    cases k with
    | free=>rfl
    | cell=>exact absurd rfl (S.nocell _ hm)
    | _=>rcases hy' with z | z <;> simp at z
   subst hfree
   obtain ⟨c,hc⟩:=I.ok.has y (S.free _ hm rfl)
   exact Option.isSome_iff_exists.mp (Dh X.env scope.names [] y hm (by rw [hc]; rfl))
 ·obtain ⟨f0,f1,f2,f3,f4,f5⟩:=hf b hb
  exact ⟨Nat.ne_of_lt (Nat.lt_of_lt_of_le (hlt b hb) hC),fun y c e=>f4 y c (cl y c e)⟩
 ·obtain ⟨f0,f1,f2,f3,f4,f5⟩:=hf b hb
  rcases f3 with z | z
  ·exact I.ok.noex b o e z
  ·exact absurd (Nat.lt_of_lt_of_le (Heap.lt_size e) (Nat.le_trans I.ok.bsz z)) (Nat.lt_irrefl _)
 ·obtain ⟨f0,f1,f2,f3,f4,f5⟩:=hf b hb
  rcases List.mem_cons.mp (I.Js b hb') with e | e
  ·exact f1 e
  ·exact f2 e
 ·cases i with
  | zero =>
   have h2':(some none:Option (Option V))=some (some v):=h2
   cases h2'
  | succ i =>
   have h1':(Gf x X.N)[i]? = some y:=h1
   have h2':σ[i]? = some (some v):=h2
   have hmem:y∈Gf x X.N:=List.mem_of_getElem? h1'
   unfold Gf at h1'
   rw [List.getElem?_map] at h1'
   cases e0:X.N[i]? with
   | none=>rw [e0] at h1'; cases h1'
   | some y0 =>
    rw [e0] at h1'
    have h1'':(if y0=x then ("" : Str) else y0)=y:=Option.some.inj h1'
    have h3':(Bo X x scope C s H fp).env.scope.names.lookup y=some .local \/ (Bo X x scope C s H fp).env.scope.names.lookup y=some .cell \/ (Bo X x scope C s H fp).env.scope.names.lookup y=some .free:=h3
    rw [look y] at h3'
    have hy0:y0=y:=by
     by_cases q:y0=x
     ·rw [if_pos q] at h1''
      rw [← h1'',S.noE] at h3'
      rcases h3' with z | z | z <;> cases z
     ·rw [if_neg q] at h1''
      exact h1''
    subst hy0
    cases e:scope.names.lookup y0 with
    | none=>rw [e] at h3'; rcases h3' with z | z | z <;> cases z
    | some k =>
     have hm:=PySem.mem_of_lookup e
     have hfree:k=.free:=by
      rw [e] at h3'
      cases k with
      | free=>rfl
      | cell=>exact absurd rfl (S.nocell _ hm)
      | «local»=>exact absurd e (S.only y0 hmem)
      | _=>rcases h3' with z | z | z <;> simp at z
     subst hfree
     have kd:=S.free _ hm rfl
     obtain ⟨m0,hn0,hl0⟩:=I.loc
     obtain ⟨u,r,l⟩:=hl0 i y0 v e0 h2' (by rcases kd with z | z; exact .inr (.inl z); exact .inr (.inr z))
     refine ⟨u,r,.inr ⟨?_,?_⟩⟩
     ·have hk':(Bo X x scope C s H fp).env.scope.names.lookup y0=some (if (NameKind.free == NameKind.free && X.env.scope.kind == .function && X.env.kindOf y0 == some .cell) then NameKind.cell else NameKind.free):=by
       rw [look y0,e]; rfl
      by_cases c:(NameKind.free == NameKind.free && X.env.scope.kind == .function && X.env.kindOf y0 == some .cell)=true
      ·rw [if_pos c] at hk'; exact .inl hk'
      ·rw [if_neg c] at hk'; exact .inr hk'
     ·rcases l with ⟨lk,_⟩ | ⟨_,c,hc,hcell⟩
      ·exfalso
       rcases kd with z | z <;> (rw [show X.env.kindOf y0=some NameKind.local from lk] at z; cases z)
      ·obtain ⟨c',hc'⟩:=Option.isSome_iff_exists.mp (Dh X.env scope.names [] y0 hm (by rw [hc]; rfl))
       have:=cl y0 c' hc'
       rw [hc] at this
       cases this
       exact ⟨c,hc',cellK c _ hcell⟩
 ·obtain ⟨v,z⟩:=I.cell y c (cl y c e)
  exact ⟨v,cellK c v z⟩
 ·show (none::σ).length=(x::Gf x X.N).length
  simp [Gf,I.len]
end
noncomputable def Lz (X:Cx) (ifs:List Expr) (t:TT):Prop :=
 ∀ (pins:List (Addr × Obj)) (s:Shared) (σ:St) (H:Hp) (Q:Bool->Hp->Prop),Inv X pins σ H s->t σ H Q ->
  wpAny (model X.prog X.w) X.A (forIn ifs true fun c r=>if r=true then do let ok ← isTrue c X.env (eval c X.env); pure (ForInStep.yield ok) else pure (ForInStep.yield r)) (TP X pins σ Q) X.xe s
noncomputable def R8:TT:=fun _ H Q=>Q true H
theorem Bj {X:Cx}:Lz X [] R8:=fun _ _ _ H _ I h=>wpAny_tests_nil ⟨H,I,h⟩
theorem MP {X:Cx} {c:Expr} {t:TT} (h:PT X c t):Lz X [c] t:=fun pins s σ H Q I q=>wpAny_tests_one (h pins s σ H Q I q)
noncomputable def Fx (J:It) (σ:St) (H1:Hp) (Q:VK) (tt:TT) (te:TE):Prop:=∀ D,H1 D=none->∃ W:Nat->Nat->List V->Hp->Prop,(∃ m,W 0 m [] (upd H1 D (.lst [])))/\∀ i m ys H2,W i m ys H2 ->
 (J.stop i H2/\Q (.ref D) H2) \/ (J.go i H2/\∀ x H3,J.yld i H2 x H3->tt (some x::σ) H3 fun b H4 =>
  if b=true then te (some x::σ) H4 fun y H5=>H5 D=some (.lst ys)/\ys.length<sizeLine/\∃ m',m'<m/\W (i+1) m' (ys++[y]) (upd H5 D (.lst (ys++[y])))
  else ∃ m',m'<m/\W (i+1) m' ys H4)
noncomputable def Xw (wi:TI) (tt:TT) (te:TE):TE:=fun σ H Q=>wi σ H fun J H1=>Fx J σ H1 Q tt te
theorem MK {α:Type} {t:Sem α} {Q Q':α->Shared->Prop} {M:Model} {A:Around} {E:Value->Shared->Prop} {s:Shared} (h:wpAny M A t Q (fun _ _=>False) s) (hQ:∀ a s,Q a s->Q' a s):wpAny M A t Q' E s:=wpAny_mono h hQ fun _ _ x=>x.elim
theorem Inv.sameBut {X:Cx} {pins:List (Addr × Obj)} {σ:St} {H:Hp} {s:Shared} {h':Heap} {C:Addr} (I:Inv X pins σ H s) (f:FW X pins H C) (sb:Heap.SameBut C s.heap h'):Inv X pins σ H { s with heap:=h' } :=
 I.turned (t':=s.toks) (fun b o hb e=>(sb.2 b hb).trans e) f.1 f.2.1 f.2.2.2.1 f.2.2.2.2.1 f.2.2.2.2.2
section
variable {X:Cx} {x:Str} {scope:Scope}
theorem Lp {px pos:Pos} {iter elt:Expr} {ifs:List Expr} {tt:TT} {te:TE} {pins:List (Addr × Obj)} {σ:St} {s2:Shared} {H2:Hp} {it:Addr} {fp:List Addr} {tn:Nat->Heap->Prop} {J:It} {E:Value->Shared->Prop}
  {RR:Value->Addr->Result->Shared->Prop} {Q:VK}
  (hc:X.calm=true) (S:GQ X x scope) (ht:∀ C s₀ H₀ fp,Lz (Bo X x scope C s₀ H₀ fp) ifs tt) (he:∀ C s₀ H₀ fp,PE (Bo X x scope C s₀ H₀ fp) elt te)
  (I2:Inv X pins σ H2 s2) (T:Turn X.prog X.w X.K (.Name x px) J fp it tn) (st2:tn 0 s2.heap) (f2:∀ b∈fp,FW X pins H2 b)
  (q:∀ D,H2 D=none->∃ W:Nat->Nat->List V->Hp->Prop,(∃ m,W 0 m [] (upd H2 D (.lst [])))/\∀ i m ys H2,W i m ys H2 ->
   (J.stop i H2/\Q (.ref D) H2) \/ (J.go i H2/\∀ x H3,J.yld i H2 x H3->tt (some x::σ) H3 fun b H4 =>
    if b=true then te (some x::σ) H4 fun y H5=>H5 D=some (.lst ys)/\ys.length<sizeLine/\∃ m',m'<m/\W (i+1) m' (ys++[y]) (upd H5 D (.lst (ys++[y])))
    else ∃ m',m'<m/\W (i+1) m' ys H4))
  (hRR:∀ D C s' H' m,s'.heap.Ns C m->FW X pins H' C->Inv X pins σ H' s'->Q (.ref D) H'->RR (.ref D) C (.ok .next) s') :
  wpAny (model X.prog X.w) X.A (newList []) (fun acc s₃=>wpAny (model X.prog X.w) X.A (newFunctionEnv scope X.env.globals (CW X.env scope.names []) [] X.env.qual none .none (some X.env)) (fun cenv s₄ =>
   codeAny (model X.prog X.w) X.A (.compStart (.ListComp elt [⟨.Name x px,iter,ifs,0⟩] scope pos) 0 (.ref it) acc { cenv with scope:=relabel scope X.env }) (RR acc cenv.locals) s₄) E s₃) E s2:=by
 refine wpAny_newObj_type (wpAny_newFunctionEnv S.nocell (by intro y hy; simp at hy) (fun h₁ hns₁ hsb₁=>?_) S.kind)
 have I3:=I2.WL (its:=[]) (ys:=[]) (t':=s2.toks) .nil (Nat.zero_le _)
 have hD0:H2 s2.heap.objs.size=none:=I2.fresh
 obtain ⟨W,⟨m0,w0⟩,turn⟩:=q _ hD0
 generalize hs3:({ s2 with heap:=s2.heap.push { cls:=.type "list",data:=.seq ([]:List Value).toArray },toks:=s2.toks }:Shared)=s3 at I3
 have e3:s3.heap=s2.heap.push { cls:=.type "list",data:=.seq ([]:List Value).toArray }:=by rw [← hs3]
 have hlt:∀ b∈fp,b<s2.heap.objs.size:=fun b hb=>let ⟨_,e,_⟩:=T.obj _ _ st2 b hb; Heap.lt_size e
 have hlt3:∀ b∈fp,b<s3.heap.objs.size:=fun b hb=>by rw [e3,Heap.size_push]; exact Nat.lt_succ_of_lt (hlt b hb)
 have f3:∀ b∈fp,FW X pins (upd H2 s2.heap.objs.size (.lst [])) b:=fun b hb=>⟨by rw [Ar (Nat.ne_of_lt (hlt b hb))]; exact (f2 b hb).1,(f2 b hb).2⟩
 have hk1:∀ b o,s3.heap.get? b=some o->h₁.get? b=some o:=fun b o e=>by
  have hne:b ≠ s3.heap.objs.size:=Nat.ne_of_lt (Heap.lt_size e)
  rw [e3] at e hne
  exact hsb₁.extBut b o hne (Heap.get?_push_of_some _ e)
 have hC:s3.heap.objs.size=(s2.heap.push { cls:=.type "list",data:=.seq ([]:List Value).toArray }).objs.size:=by rw [e3]
 have hns:h₁.Ns s3.heap.objs.size (fun x=>([]:List (Str × Value)).reverse.lookup x):=by rw [hC]; exact hns₁
 have st3:tn 0 h₁:=T.keep _ _ _ st2 fun b hb o e=>hk1 b o (by rw [e3]; exact Heap.get?_push_of_some _ e)
 have hDC:s2.heap.objs.size ≠ s3.heap.objs.size:=by rw [e3,Heap.size_push]; exact Nat.ne_of_lt (Nat.lt_succ_self _)
 have start:∀ tk,Inv (Bo X x scope s3.heap.objs.size s3 (upd H2 s2.heap.objs.size (.lst [])) fp) [] (none::σ) (upd H2 s2.heap.objs.size (.lst [])) { s3 with heap:=h₁,toks:=tk }:=fun tk =>
  Lj I3 S f3 hlt3 (Nat.le_refl _) hns hk1
 generalize hX:Bo X x scope s3.heap.objs.size s3 (upd H2 s2.heap.objs.size (.lst [])) fp=X' at start
 have eA:X'.A=X.A:=by rw [← hX]; rfl
 have eP:X'.prog=X.prog:=by rw [← hX]; rfl
 have eW:X'.w=X.w:=by rw [← hX]; rfl
 have eK:X'.K=X.K:=by rw [← hX]; rfl
 have eC:X'.env.locals=s3.heap.objs.size:=by rw [← hX]; rfl
 have loop:∀ tk,codeAny (model X.prog X.w) X.A (.compLoop (.ListComp elt [⟨.Name x px,iter,ifs,0⟩] scope pos) 0 (.ref it) (.ref s2.heap.objs.size) (compEnvC scope (CW X.env scope.names []) s3.heap.objs.size X.env))
   (RR (.ref s2.heap.objs.size) s3.heap.objs.size) { s3 with heap:=h₁,toks:=tk }:=by
  intro tk
  subst hX
  refine codeAny_compLoop_tests (fun n s'=>∃ i ys v0 H',Inv (Bo X x scope s3.heap.objs.size s3 (upd H2 s2.heap.objs.size (.lst [])) fp) [] (v0::σ) H' s'/\tn i s'.heap/\(∀ b∈fp,H' b=none)/\W i n ys H') ?_ m0
   ⟨0,[],none,_,start tk,st3,fun b hb=>(f3 b hb).1,w0⟩
  rintro n s4 ⟨i,ys,v0,H4,I4,st4,fr4,w4⟩
  have stat:∀ {H':Hp},(∀ b∈fp,H' b=none)->∀ b∈fp,FW (Bo X x scope s3.heap.objs.size s3 (upd H2 s2.heap.objs.size (.lst [])) fp) [] H' b:=fun hn b hb=>by
   refine ⟨hn b hb,(I4.ok.exf b hb).1,I4.ok.exfs b hb,.inl hb,(I4.ok.exf b hb).2,fun p hp=>absurd (show p∈([]:List (Addr × Obj)) from hp) (by simp)⟩
  rcases turn i n ys H4 w4 with ⟨stop,qn⟩ | ⟨go,step⟩
  ·refine Bs (T.done (Bo X x scope s3.heap.objs.size s3 (upd H2 s2.heap.objs.size (.lst [])) fp) rfl rfl rfl hc i [] s4 (v0::σ) H4 _ I4 (stat fr4) st4 stop) fun r s5 ⟨hr,I5⟩=>?_
   subst hr
   obtain ⟨m,hn,_⟩:=I5.loc
   refine hRR _ _ s5 H4 m hn (I3.Jy (Nat.le_refl _) I5.free) (I3.call' (s':=s5) (ch:=fp) I5.os I5.base I5.hok I5.bare (fun b hb=>?_)) qn
   obtain ⟨_,g1,_,g3,g4,g5⟩:=f3 b hb
   exact ⟨g3,g1,g4,g5⟩
  ·refine Bs (T.item (Bo X x scope s3.heap.objs.size s3 (upd H2 s2.heap.objs.size (.lst [])) fp) rfl rfl rfl hc i [] s4 (v0::σ) H4 _ I4 (stat fr4) st4 go) fun r s5 ⟨u,hr,h5⟩=>?_
   subst hr
   intro Γ p hΓ
   obtain ⟨xv,H6,I6,r6,y6,st6,fr6⟩:=h5 Γ p hΓ
   refine (?_:wpAny _ _ _ _ _ _) Γ p hΓ
   have I6':=I6.pinned (stat fr6) (T.obj _ _ st6)
   have hloc:(Bo X x scope s3.heap.objs.size s3 (upd H2 s2.heap.objs.size (.lst [])) fp).env.scope.names.lookup x=some .local:=lookup_relabel_local S.loc
   have again:∀ {s7:Shared} {H7:Hp} {ys':List V},Inv (Bo X x scope s3.heap.objs.size s3 (upd H2 s2.heap.objs.size (.lst [])) fp) ([]++HS fp s5.heap) (some xv::σ) H7 s7->(∃ m',m'<n/\W (i+1) m' ys' H7) ->
     ∃ m,m<n/\∃ i ys v0 H',Inv (Bo X x scope s3.heap.objs.size s3 (upd H2 s2.heap.objs.size (.lst [])) fp) [] (v0::σ) H' s7/\tn i s7.heap/\(∀ b∈fp,H' b=none)/\W i m ys H':=fun {s7 H7 ys'} I7 hw=>by
    obtain ⟨m',hm,w7⟩:=hw
    refine ⟨m',hm,i+1,ys',some xv,H7,I7.Fp,T.keep _ _ _ st6 fun b hb o e=>(I7.pin (b,o) (List.mem_append_right _ (List.mem_append_right _ (Dd hb e)))).1,fun b hb=>?_,w7⟩
    obtain ⟨o,e,d⟩:=T.obj _ _ st6 b hb
    exact (I7.pin (b,o) (List.mem_append_right _ (List.mem_append_right _ (Dd hb e)))).2.1
   refine wpAny_assign_Name (Iv (X:=Bo X x scope s3.heap.objs.size s3 (upd H2 s2.heap.objs.size (.lst [])) fp) (i:=0) I6' S.nd rfl (.inl hloc) r6 (fun s7 I7=>?_) (.inr hloc))
   refine MK (ht _ _ _ _ _ s7 (some xv::σ) H6 _ I7 (step xv H6 y6)) fun b s8 hq0=>?_
   obtain ⟨H8,I8,q8⟩:=hq0
   cases b with
   | false =>
    rw [if_neg Bool.false_ne_true] at q8 ⊢
    exact again I8 q8
   | true =>
    rw [if_pos rfl] at q8 ⊢
    refine MK (he _ _ _ _ _ s8 (some xv::σ) H8 _ I8 q8) fun y s9 hq0=>?_
    obtain ⟨yv,H9,I9,r9,hD9,hz9,q9⟩:=hq0
    refine MK (GJ (X:=Bo X x scope s3.heap.objs.size s3 (upd H2 s2.heap.objs.size (.lst [])) fp) _ s9 (some xv::σ) H9 (.ref s2.heap.objs.size) [yv] (.ref s2.heap.objs.size) [y] (fun _ H'=>H'=upd H9 s2.heap.objs.size (.lst (ys++[yv]))) I9 rfl (.cons r9 .nil)
     ⟨_,ys,yv,rfl,rfl,hD9,hz9,rfl⟩) fun _ s10 ⟨_,H10,I10,_,e10⟩=>?_
    subst e10
    exact again I10 q9
 have key:=fun tk=>codeAny_compStart_list (R:=RR (.ref s2.heap.objs.size) s3.heap.objs.size) (loop tk) (T.self X.A 0 { s3 with heap:=h₁,toks:=tk } (fun it' s'=>codeAny (model X.prog X.w) X.A (.compLoop (.ListComp elt [⟨.Name x px,iter,ifs,0⟩] scope pos) 0 it' (.ref s2.heap.objs.size) (compEnvC scope (CW X.env scope.names []) s3.heap.objs.size X.env)) (RR (.ref s2.heap.objs.size) s3.heap.objs.size) s') _ st3 (loop tk))
 subst hs3
 exact key _
theorem Ba {px pos:Pos} {iter elt:Expr} {ifs:List Expr} {wi:TI} {tt:TT} {te:TE} (hc:X.calm=true) (S:GQ X x scope) (hi:PI X (.Name x px) iter wi)
  (ht:∀ C s₀ H₀ fp,Lz (Bo X x scope C s₀ H₀ fp) ifs tt) (he:∀ C s₀ H₀ fp,PE (Bo X x scope C s₀ H₀ fp) elt te) (hs:∀ x,foldedSetIterable iter X.env x=pure x:=by intro _; rfl) :
  PE X (.ListComp elt [⟨.Name x px,iter,ifs,0⟩] scope pos) (Xw wi tt te):=by
 intro pins s σ H Q I h
 rw [eval_ListComp]
 refine wpAny_comprehension_free (use:=none) (cl:=CW X.env scope.names []) rfl hs (Ig fun y hy hk=>I.ok.has y.1 (S.free y hy hk)) S.kind S.names (Bs (hi pins s σ H _ I h) fun v s1 h1=>Bs h1 fun itv s2 h2=>?_)
 obtain ⟨it,fp,tn,J,H2,e,I2,T,st2,f2,q⟩:=h2
 subst e
 refine Lp (RR:=fun acc C=>compPost (model X.prog X.w) X.A X.xe none (EP X pins σ Q) acc C) (Q:=Q) hc S ht he I2 T st2 f2 q ?_
 intro D C s' H' m hn hf hI hq
 exact ⟨m,hn,fun h' sb=>⟨.ref D,H',hI.sameBut hf sb,rfl,hq⟩⟩
end
end L2
namespace L2
open PySem PySem.Spec PyProof.Rows
section
variable {σ:St} {H1:Hp} {Q:VK} {tt:TT} {te:TE}
theorem Gv {J:It} {xs:List V} (p:V->Bool) (f:V->V) (hz:xs.length<sizeLine)
  (hgo:∀ i H x,Aj H1 H->xs[i]? = some x->J.go i H) (hy:∀ i H y H',Aj H1 H->i<xs.length->J.yld i H y H'->H'=H/\xs[i]? = some y) (hstop:∀ H,Aj H1 H->J.stop xs.length H)
  (ht:∀ x∈xs,∀ H,Aj H1 H->∀ R:Bool->Hp->Prop,(∀ H',Aj H H'->R (p x) H')->tt (some x::σ) H R)
  (he:∀ x∈xs,p x=true->∀ H,Aj H1 H->∀ R:VK,(∀ H',Aj H H'->R (f x) H')->te (some x::σ) H R)
  (hq:∀ D H,H1 D=none->Aj H1 H->H D=some (.lst ((xs.filter p).map f))->Q (.ref D) H):Fx J σ H1 Q tt te:=by
 intro D hD
 have s0:Aj H1 (upd H1 D (.lst [])):=fun b o e=>by rw [Ar (Am e hD)]; exact e
 refine ⟨fun i m ys H=>m=xs.length - i/\i<=xs.length/\ys=((xs.take i).filter p).map f/\H D=some (.lst ys)/\Aj H1 H,⟨xs.length,by simp,Nat.zero_le _,by simp,Ac,s0⟩,?_⟩
 rintro i m ys H ⟨rfl,hi,rfl,hd,hs⟩
 by_cases hlt:i<xs.length
 ·obtain ⟨x,hx⟩:∃ x,xs[i]? = some x:=⟨xs[i],by simp [hlt]⟩
  refine .inr ⟨hgo i H x hs hx,fun y H3 hyl=>?_⟩
  obtain ⟨rfl,hy'⟩:=hy i H y H3 hs hlt hyl
  rw [hx] at hy'
  cases hy'
  have hm:x∈xs:=List.mem_of_getElem? hx
  have hlen:(((xs.take i).filter p).map f).length<sizeLine:=by
   rw [List.length_map]
   refine Nat.lt_of_le_of_lt (List.length_filter_le _ _) (Nat.lt_of_le_of_lt ?_ hz)
   rw [List.length_take]; omega
  refine ht x hm _ hs _ fun H4 s4=>?_
  by_cases hp:p x=true
  ·rw [if_pos hp]
   refine he x hm hp H4 (hs.trans s4) _ fun H5 s5=>?_
   refine ⟨s5 _ _ (s4 _ _ hd),hlen,xs.length - (i+1),by omega,rfl,hlt,?_,Ac,fun b o e=>?_⟩
   ·rw [take_succ_filter p xs i x hx,if_pos hp,List.map_append]; rfl
   ·rw [Ar (Am e hD)]; exact s5 _ _ (s4 _ _ (hs _ _ e))
  ·rw [if_neg hp]
   refine ⟨xs.length - (i+1),by omega,rfl,hlt,?_,s4 _ _ hd,hs.trans s4⟩
   rw [take_succ_filter p xs i x hx,if_neg hp,List.append_nil]
 ·have e:i=xs.length:=by omega
  subst e
  rw [List.take_length] at hd
  exact .inl ⟨hstop H hs,hq D H hD hs hd⟩
noncomputable def ZM (z:Str):It:=⟨fun i _=>i<z.cps.size,fun i H x H'=>H'=H/\∃ c,z.cps[i]? = some c/\x=.str ⟨#[c]⟩,fun i _=>z.cps.size<=i⟩
theorem RD {P:Program} {w:World} {K:PySem.W.Frag} {tg:Expr} {z:Str} {t0:Tok} {it:Addr} {ty:String} (hty:ty = "str_ascii_iterator" \/ ty = "str_iterator"):Turn P w K tg (ZM z) [it] it (fun i h=>h.IsStrIter it ty z t0 i) where
 mem:=by simp
 obj:=fun i h st b hb=>by
  have e:b=it:=by simpa using hb
  subst e
  obtain ⟨o,ho,hc,hd⟩:=st
  exact ⟨o,ho,fun v q=>by rw [hd] at q; cases q⟩
 keep:=fun i h h' st k=>let ⟨o,ho,r⟩:=st; ⟨o,k it (by simp) o ho,r⟩
 item:=by
  intro X hP hw hK hc i pins s σ H E I hf st hg
  subst hP hw hK
  obtain ⟨f0,f1,f2,f3,f4,f5⟩:=hf it (by simp)
  have hg':i<z.cps.size:=hg
  have hx:z.cps[i]? = some z.cps[i]:=Array.getElem?_eq_getElem hg'
  have fin:∀ h',h'.IsStrIter it ty z t0 (i+1)->Heap.SameBut it s.heap h'->∃ u,some (Value.str ⟨#[z.cps[i]]⟩ s.toks)=some u /\
    wpAny (model X.prog X.w) X.A (letOwnedTupleGo tg (.ref it) u) (fun _ s2=>∃ x H',Inv X pins σ H' s2/\RelV x u/\(ZM z).yld i H x H'/\s2.heap.IsStrIter it ty z t0 (i+1)/\∀ b∈[it],H' b=none) E { s with heap:=h',toks:=s.toks+1 }:=fun h' st' sb=>by
   have I1:Inv X pins σ H { s with heap:=h',toks:=s.toks+1 }:=I.turned (fun b o hb e=>(sb.2 b hb).trans e) f0 f1 f3 f4 f5
   obtain ⟨o,e,c,d⟩:=id st'
   refine ⟨_,rfl,KR (s:={ s with heap:=h',toks:=s.toks+1 }) e c d (by rcases hty with rfl | rfl <;> decide) ⟨.str ⟨#[z.cps[i]]⟩,H,I1,⟨_,rfl⟩,⟨rfl,_,hx,rfl⟩,st',fun b hb=>(hf b hb).1⟩⟩
  rcases hty with rfl | rfl
  ·exact wpAny_pyNext_ascii_item st hx fin
  ·exact wpAny_pyNext_wide_item st hx fin
 done:=by
  intro X hP hw hK hc i pins s σ H E I hf st hg
  subst hP hw hK
  obtain ⟨f0,f1,f2,f3,f4,f5⟩:=hf it (by simp)
  have hx:z.cps[i]? = none:=by
   have hg':z.cps.size<=i:=hg
   simpa using hg'
  rcases hty with rfl | rfl
  ·exact wpAny_pyNext_ascii_end (I.ok.hd hc) st hx fun h' eb=>⟨rfl,I.turned (t':=s.toks) (fun b o hb e=>eb b o hb e) f0 f1 f3 f4 f5⟩
  ·exact wpAny_pyNext_wide_end (I.ok.hd hc) st hx fun h' eb=>⟨rfl,I.turned (t':=s.toks) (fun b o hb e=>eb b o hb e) f0 f1 f3 f4 f5⟩
 self:=fun A i s Q E st h=>by
  rcases hty with rfl | rfl
  ·exact wpAny_pyIter_striter_ascii st h
  ·exact wpAny_pyIter_striter_wide st h
end
section
variable {X:Cx} {tg:Expr}
noncomputable def Zx (tl:TE):TI:=fun σ H R=>tl σ H fun x H1=>∃ z,x=.str z/\R (ZM z) H1
theorem VM {l:Expr} {tl:TE} (hl:PE X l tl):PI X tg l (Zx tl):=by
 intro pins s σ H R I h
 refine Bs (hl pins s σ H _ I h) fun v s1 hq0=>?_
 obtain ⟨x,H1,I1,r1,q1⟩:=hq0
 obtain ⟨z,e,q⟩:=q1
 subst e
 obtain ⟨t,rfl⟩:=r1
 have fin:∀ ty,(ty = "str_ascii_iterator" \/ ty = "str_iterator")->PIE X pins σ tg R (.ref s1.heap.objs.size) { s1 with heap:=s1.heap.push { cls:=.type ty,data:=.fields #[.str z t,.int 0 0] } }:=fun ty hty=>by
  refine ⟨s1.heap.objs.size,[s1.heap.objs.size],_,_,H1,rfl,I1.kept (t':=s1.toks) fun b o e=>Heap.get?_push_of_some _ e,RD (z:=z) (t0:=t) hty,⟨_,Heap.get?_push_size _ rfl,rfl,rfl⟩,fun b hb=>?_,q⟩
  have e:b=s1.heap.objs.size:=by simpa using hb
  subst e
  exact I1.Jy (Nat.le_refl _) (I1.hok.fresh (Nat.le_refl _))
 cases ha:z.cps.all (· < 128)
 ·exact wpAny_pyIter_wide ha (fin _ (.inr rfl))
 ·exact wpAny_pyIter_ascii ha (fin _ (.inl rfl))
end
section
variable {σ:St} {H1:Hp} {Q:VK} {tt:TT} {te:TE}
noncomputable def sgn (c:Nat):V:=.str ⟨#[c]⟩
theorem RV {z:Str} (p:Nat->Bool) (f:Nat->V) (hz:z.length<sizeLine)
  (ht:∀ c∈z.cps.toList,∀ H,Aj H1 H->∀ R:Bool->Hp->Prop,(∀ H',Aj H H'->R (p c) H')->tt (some (sgn c)::σ) H R)
  (he:∀ c∈z.cps.toList,p c=true->∀ H,Aj H1 H->∀ R:VK,(∀ H',Aj H H'->R (f c) H')->te (some (sgn c)::σ) H R)
  (hq:∀ D H,H1 D=none->Aj H1 H->H D=some (.lst ((z.cps.toList.filter p).map f))->Q (.ref D) H):Fx (ZM z) σ H1 Q tt te:=by
 let g:V->Nat:=fun v=>match v with | .str y=>y.cps.getD 0 0 | _=>0
 refine Gv (xs:=z.cps.toList.map sgn) (fun v=>p (g v)) (fun v=>f (g v)) (by simpa [Str.length] using hz) (fun i H x _ hx=>?_) (fun i H y H' _ hi hy=>?_) (fun H _=>?_) (fun x hx=>?_) (fun x hx=>?_) (fun D H h1 h2 h3=>?_)
 ·have:i<(z.cps.toList.map sgn).length:=(List.getElem?_eq_some_iff.mp hx).1
  show i<z.cps.size
  simpa using this
 ·obtain ⟨e1,c,hc,rfl⟩:=hy
  refine ⟨e1,?_⟩
  rw [List.getElem?_map,Array.getElem?_toList,hc]; rfl
 ·show z.cps.size<=_
  simp
 ·obtain ⟨c,hc,rfl⟩:=List.mem_map.mp hx
  exact ht c hc
 ·obtain ⟨c,hc,rfl⟩:=List.mem_map.mp hx
  exact he c hc
 ·refine hq D H h1 h2 ?_
  rw [h3,List.filter_map,List.map_map]
  rfl
end
section
variable {X:Cx}
theorem range_all (bs:List Bool):((List.range bs.length).all fun i=>(bs[i]?).getD true)=bs.all id:=by
 rw [Bool.eq_iff_iff,List.all_eq_true,List.all_eq_true]
 constructor
 ·intro h b hb
  obtain ⟨i,hi,e⟩:=List.mem_iff_getElem.mp hb
  have:=h i (List.mem_range.mpr hi)
  rw [List.getElem?_eq_getElem hi,e] at this
  exact this
 ·intro h i hi
  have hi':=List.mem_range.mp hi
  rw [List.getElem?_eq_getElem hi']
  exact h _ (List.getElem_mem hi')
theorem G3 (hc:X.calm=true):Ex X (.builtin "all") (fun xs H Q=>∃ (p:Addr) (bs:List Bool),xs=[V.ref p]/\Cz X.K H p (bs.map V.bl)/\Q (.bl (bs.all id)) H):=by
 intro pins s σ H xs us Q I r h
 obtain ⟨p,bs,rfl,hp,q⟩:=h
 obtain ⟨u,rfl,ru⟩:=vals1 r
 cases ru
 obtain ⟨its,rv,pl,hz⟩:=I.list hp
 have hlen:bs.length=its.length:=by have:=rv.length; rw [List.length_map] at this; exact this
 have hlt:p<s.heap.objs.size:=by obtain ⟨_,e,_⟩:=pl.isList; exact Heap.lt_size e
 refine call_all_walk (wpAny_pyIter_list pl.isList ?_)
 refine ⟨s.heap.objs.size,[s.heap.objs.size,p],[s.heap.objs.size],its.toArray.size,_,_,fun i=>(bs[i]?).getD true,rfl,Walks.list (A:=X.A.in1) (I.ok.hd hc) _ p (Nat.ne_of_lt hlt) its.toArray,
  ⟨⟨_,Heap.get?_push_size _ rfl,rfl,rfl⟩,pl.isList.push _⟩,fun i v s' Q' E' hP hQ=>?_,fun h' tk hk=>?_⟩
 ·have hP':its[i]? = some v:=by simpa using hP
  have hi:i<its.length:=(List.getElem?_eq_some_iff.mp hP').1
  have hb:bs[i]? = some bs[i]:=by simp [hlen,hi]
  obtain ⟨u,hu,ru⟩:=rv.get (i:=i) (x:=.bl bs[i]) (by rw [List.getElem?_map,hb]; rfl)
  rw [hP'] at hu
  cases hu
  cases ru
  dsimp only at hQ
  rw [hb] at hQ
  exact wpAny_truthy_bool hQ
 ·have e:((List.range its.toArray.size).all fun i=>(bs[i]?).getD true)=bs.all id:=by rw [List.size_toArray,← hlen]; exact range_all bs
  rw [e]
  refine ⟨.bl (bs.all id),H,I.kept (t':=tk) fun b o eb=>hk b o (fun hm=>?_) (Heap.get?_push_of_some _ eb),rfl,q⟩
  rw [List.mem_singleton.mp hm] at eb
  exact Nat.lt_irrefl _ (Heap.lt_size eb)
theorem CQ:Ex X (.builtin "isinstance") (fun xs H Q=>∃ x T t b,xs=[x,V.ty T]/\Hh X.K H x t/\PySem.W.kitOne X.K t (.type T)=some b/\Q (.bl b) H):=by
 intro pins s σ H xs us Q I r h
 obtain ⟨x,T,t,b,rfl,ty,e,q⟩:=h
 obtain ⟨u,v,rfl,ru,rv⟩:=Vals.two r
 cases rv
 exact Oi I ru ty e fun tk=>⟨.bl b,H,I.tok _,rfl,q⟩
end
noncomputable def N_ (x:Str) (scope osc:Scope) (N:List Str):Bool :=
 (scope.kind == .function) && scope.names.all (fun y=>y.2 != .cell) && scope.names.all (fun y=>y.2 != .local || scope.names.lookup y.1 == some .local) && (scope.names.lookup x == some .local) &&
 scope.names.all (fun y=>y.2 != .free || osc.names.lookup y.1 == some .cell || osc.names.lookup y.1 == some .free) && decide ((x::Gf x N).Nodup) && (Gf x N).all (fun y=>scope.names.lookup y != some .local) && (scope.names.lookup ("" : Str) == none)
theorem Az {X:Cx} {x:Str} {scope osc:Scope} {N:List Str} (hsc:X.env.scope=osc) (hN:X.N=N) (h:N_ x scope osc N=true):GQ X x scope:=by
 unfold N_ at h
 simp only [Bool.and_eq_true] at h
 obtain ⟨⟨⟨⟨⟨⟨⟨h1,h2⟩,h3⟩,h4⟩,h5⟩,h6⟩,h7⟩,h8⟩:=h
 rw [List.all_eq_true] at h2 h3 h5 h7
 have kd:∀ y,X.env.kindOf y=osc.names.lookup y:=fun y=>by rw [← hsc]; rfl
 refine ⟨by simpa using h1,fun y hy=>by simpa using h2 y hy,fun y hy e=>?_,by simpa using h4,fun y hy e=>?_,by rw [hN]; exact of_decide_eq_true h6,fun y hy=>?_,by simpa using h8⟩
 ·have:=h3 y hy
  rw [e] at this
  simpa using this
 ·have:=h5 y hy
  rw [e] at this
  rw [kd]
  simpa using this
 ·rw [hN] at hy
  simpa using h7 y hy
end L2
namespace L2
open PySem PySem.Spec PyProof.Rows
section
variable {X:Cx} {pins:List (Addr × Obj)} {σ:St} {H:Hp} {s:Shared} {h':Heap}
theorem Inv.K7 {ch:List Addr} {a:Addr} {o:HO} {t':Nat} (I:Inv X pins σ H s) (hf:∀ b∈ch,FW X pins H b) (k:∀ b u,b ∉ ch->s.heap.get? b=some u->h'.get? b=some u) (hp:s.heap.objs.size<=a)
  (new:Be X.prog X.w (upd H a o) h' a o):Inv X pins σ (upd H a o) { s with heap:=h',toks:=t' }:=by
 have hn:H a=none:=I.hok.fresh hp
 have up:∀ b u,H b=some u->upd H a o b=some u:=fun b u e=>by rw [Ar (Am e hn)]; exact e
 refine I.step (g':=s.gens) (d':=s.drawn) (ch:=ch) (fun b hb=>?_) (fun b u _ _ hc e _=>k b u hc e) (fun b u _ _ hc e _=>⟨u.slots,k b u hc e⟩) (fun b u _ e n=>?_)
  (fun b u hc e=>⟨u,k b u hc e⟩) (fun b xs e=>up _ _ e) (fun b u x e=>up _ _ e) (fun b ps e=>⟨#[],by rw [up _ _ e]; simp⟩) (fun m hm=>?_) (fun b u e=>?_) I.bare
 ·obtain ⟨f0,f1,f2,f3,f4,f5⟩:=hf b hb
  exact ⟨f3,f1,f4,f5⟩
 ·rw [Ar (Nat.ne_of_lt (Nat.lt_of_lt_of_le (Heap.lt_size e) hp))]
  exact n
 ·obtain ⟨u,es,ep,ho,r⟩:=hm
  exact ⟨u,es,ep,k _ u (fun z=>(hf _ z).2.1 rfl) ho,r⟩
 ·by_cases hb:b=a
  ·subst hb
   rw [Ac] at e
   cases e
   exact new
  ·rw [Ar hb] at e
   refine (I.hok b u e).stay (fun c v hc q=>k c v (fun z=>?_) q) (fun _ q=>up _ _ q) fun _ _ q=>up _ _ q
   have z1:=(hf c z).1
   rcases hc with hc | hc
   ·rw [hc,e] at z1
    cases z1
   ·rw [hc] at z1
    cases z1
theorem Inv.Nk {ch:List Addr} {t':Nat} (I:Inv X pins σ H s) (hf:∀ b∈ch,FW X pins H b) (k:∀ b u,b ∉ ch->s.heap.get? b=some u->h'.get? b=some u):Inv X pins σ H { s with heap:=h',toks:=t' }:=by
 refine I.step (g':=s.gens) (d':=s.drawn) (ch:=ch) (fun b hb=>?_) (fun b u _ _ hc e _=>k b u hc e) (fun b u _ _ hc e _=>⟨u.slots,k b u hc e⟩) (fun b u _ e n=>n)
  (fun b u hc e=>⟨u,k b u hc e⟩) (fun b xs e=>e) (fun b u x e=>e) (fun b ps e=>⟨#[],by rw [e]; simp⟩) (fun m hm=>?_) (fun b u e=>?_) I.bare
 ·obtain ⟨f0,f1,f2,f3,f4,f5⟩:=hf b hb
  exact ⟨f3,f1,f4,f5⟩
 ·obtain ⟨u,es,ep,ho,r⟩:=hm
  exact ⟨u,es,ep,k _ u (fun z=>(hf _ z).2.1 rfl) ho,r⟩
 ·refine (I.hok b u e).stay (fun c v hc q=>k c v (fun z=>?_) q) (fun _ q=>q) fun _ _ q=>q
  have z1:=(hf c z).1
  rcases hc with hc | hc
  ·rw [hc,e] at z1
   cases z1
  ·rw [hc] at z1
   cases z1
end
noncomputable def Yz (K:PySem.W.Frag) (a:Addr):It :=
 ⟨fun i H=>∃ xs x,Cz K H a xs/\xs[i]? = some x,fun i H v H'=>∃ T,H T=none/\v=.ref T/\∀ xs,Cz K H a xs->∃ x,xs[i]? = some x/\H'=upd H T (.tup [.int (i:Int),x]),fun i H=>∃ xs,Cz K H a xs/\xs.length<=i⟩
noncomputable def Zt (K:PySem.W.Frag) (a b:Addr):It :=
 ⟨fun i H=>∃ xs ys x y,Fo K H a xs/\Fo K H b ys/\xs[i]? = some x/\ys[i]? = some y,fun i H v H'=>∃ T,H T=none/\v=.ref T/\∀ xs ys,Fo K H a xs->Fo K H b ys->∃ x y,xs[i]? = some x/\ys[i]? = some y/\H'=upd H T (.tup [x,y]),
  fun i H=>∃ xs,Fo K H a xs/\xs.length<=i⟩
theorem Oh {P:Program} {w:World} {K:PySem.W.Frag} {es:List Expr} {k1:Nat} {pos:Pos} (a e it:Addr) (hne:e ≠ it) :
  Turn P w K (.Tuple es k1 pos) (Yz K a) [e,it] e (fun i h=>(∃ old,IsEnum h e it i old)/\h.IsListIter it a i) where
 mem:=by simp
 obj:=fun i h st b hb=>by
  obtain ⟨⟨old,he⟩,o,ho,c,d⟩:=st
  rcases List.mem_cons.mp hb with rfl | hb
  ·exact ⟨_,he,fun v z=>by
    have z':Data.fields _=Data.cell v:=z
    cases z'⟩
  ·have q:b=it:=by simpa using hb
   subst q
   exact ⟨o,ho,fun v z=>by rw [d] at z; cases z⟩
 keep:=fun i h h' st k=>by
  obtain ⟨⟨old,he⟩,hi⟩:=st
  exact ⟨⟨old,k e (by simp) _ he⟩,hi.at fun o q=>k it (by simp) o q⟩
 item:=by
  intro X hP hw hK hc i pins s σ H E I hf st hg
  subst hP hw hK
  obtain ⟨xs,x,hq,hx⟩:=hg
  obtain ⟨its,rv,p,hz⟩:=I.list hq
  obtain ⟨u,hu,ru⟩:=rv.get hx
  obtain ⟨⟨old,he⟩,hi⟩:=st
  refine wpAny_pyNext_enum_item he hi p.isList (x:=u) (by simpa using hu) hne fun h1 n1 n2 n3 n4 n5=>?_
  refine ⟨_,rfl,wpAny_letOwnedTupleGo_enum (s:={ s with heap:=h1,toks:=s.toks+1 }) n1 fun h2 m1 m2=>?_⟩
  have hT:s.heap.objs.size ≠ e:=Nat.ne_of_gt (Heap.lt_size he)
  have hI:s.heap.objs.size ≠ it:=by obtain ⟨_,q,_⟩:=hi; exact Nat.ne_of_gt (Heap.lt_size q)
  have fr:H s.heap.objs.size=none:=I.hok.fresh (Nat.le_refl _)
  have nw:Be X.prog X.w (upd H s.heap.objs.size (.tup [.int (i:Int),x])) h2 s.heap.objs.size (.tup [.int (i:Int),x]) :=
   ⟨by show 2<=sizeLine; decide,[.int i s.toks,u],.cons ⟨_,rfl⟩ (.cons ru .nil),_,m2.extBut _ _ hT n3,rfl,_,rfl⟩
  refine ⟨.ref s.heap.objs.size,_,I.K7 (t':=s.toks+1) (ch:=[e,it]) hf (fun b o hb q=>?_) (Nat.le_refl _) nw,rfl,⟨_,fr,rfl,fun ys hy=>⟨x,by rw [I.Ke hy hq]; exact hx,rfl⟩⟩,⟨⟨u,?_⟩,n2.at fun o q=>m2.extBut _ _ (Ne.symm hne) q⟩,fun b hb=>?_⟩
  ·exact m2.extBut _ _ (fun z=>hb (by simp [z])) (n5 b o (fun z=>hb (by simp [z])) (fun z=>hb (by simp [z])) q)
  ·have e1:((i:Int)+1)=((i+1:Nat):Int):=by omega
   rw [← e1]
   exact m1
  ·have hb':=hb
   rcases List.mem_cons.mp hb with rfl | hb
   ·rw [Ar (Ne.symm hT)]
    exact (hf _ hb').1
   ·have q:b=it:=by simpa using hb
    subst q
    rw [Ar (Ne.symm hI)]
    exact (hf _ hb').1
 done:=by
  intro X hP hw hK hc i pins s σ H E I hf st hg
  subst hP hw hK
  obtain ⟨xs,hq,hx⟩:=hg
  obtain ⟨its,rv,p,hz⟩:=I.list hq
  obtain ⟨⟨old,he⟩,hi⟩:=st
  have hl:=rv.length
  exact wpAny_pyNext_enum_end (I.ok.hd hc) he hi p.isList (by simp; omega) fun h1 eb=>⟨rfl,I.Nk (t':=s.toks) (ch:=[e,it]) hf fun b o hb q=>eb b o (fun z=>hb (by simp [z])) q⟩
 self:=fun _ _ _ _ _ st h=>by
  obtain ⟨⟨old,he⟩,_⟩:=st
  exact wpAny_pyIter_enum he h
theorem Qk {n a b:Nat} (ha:a<n) (hb:b<n):ZipApart (n+4) (n+2) (n+3) n (n+1) a b:=by
 constructor <;> (refine (show @Ne Nat _ _ from ?_); omega)
theorem VR {n b:Nat} {P:Nat->Prop} (h0:P n) (h1:P (n+1)) (h2:P (n+2)) (h3:P (n+3)) (h4:P (n+4)) (hb:b∈[n,n+1,n+2,n+3,n+4]):P b:=by
 simp at hb
 rcases hb with rfl | rfl | rfl | rfl | rfl <;> assumption
theorem Ol {P:Program} {w:World} {K:PySem.W.Frag} {es:List Expr} {k1:Nat} {pos:Pos} (a b n:Nat) (ha:a<n) (hb:b<n) :
  Turn P w K (.Tuple es k1 pos) (Zt K a b) [n,n+1,n+2,n+3,n+4] (n+4) (fun i h=>IsZip h (n+4) (n+2) (n+3) .none/\IsPair h (n+2) (.ref n) (.ref (n+1))/\(∃ x y,IsPair h (n+3) x y)/\h.IsTupleIter n a i/\h.IsTupleIter (n+1) b i) where
 mem:=by simp
 obj:=fun i h st c hc=>by
  obtain ⟨hz,hI,⟨x,y,hO⟩,⟨o1,e1,_,d1⟩,⟨o2,e2,_,d2⟩⟩:=st
  refine VR (P:=fun c=>∃ o,h.get? c=some o/\∀ v,o.data ≠ .cell v) ⟨_,e1,fun v z=>?_⟩ ⟨_,e2,fun v z=>?_⟩ ⟨_,hI,fun v z=>?_⟩ ⟨_,hO,fun v z=>?_⟩ ⟨_,hz,fun v z=>?_⟩ hc
  ·rw [d1] at z; cases z
  ·rw [d2] at z; cases z
  ·have z':Data.seq _ _=Data.cell v:=z
   cases z'
  ·have z':Data.seq _ _=Data.cell v:=z
   cases z'
  ·have z':Data.fields _=Data.cell v:=z
   cases z'
 keep:=fun i h h' st k=>by
  obtain ⟨hz,hI,⟨x,y,hO⟩,j1,j2⟩:=st
  exact ⟨k _ (by simp) _ hz,k _ (by simp) _ hI,⟨x,y,k _ (by simp) _ hO⟩,j1.at fun o q=>k _ (by simp) o q,j2.at fun o q=>k _ (by simp) o q⟩
 item:=by
  intro X hP hw hK hc i pins s σ H E I hf st hg
  subst hP hw hK
  obtain ⟨xs,ys,x,y,q1,q2,hx,hy⟩:=hg
  obtain ⟨it1,r1,p1,_⟩:=I.tuple q1
  obtain ⟨it2,r2,p2,_⟩:=I.tuple q2
  obtain ⟨u,hu,ru⟩:=r1.get hx
  obtain ⟨v,hv,rv⟩:=r2.get hy
  obtain ⟨hz,hI,⟨x0,y0,hO⟩,j1,j2⟩:=st
  have D:=Qk ha hb
  have hT:s.TypeIs (.ref (n+4)) "zip":=⟨_,hz,rfl⟩
  have sz:n+4<s.heap.objs.size:=Heap.lt_size hz
  unfold pyNext
  refine wpAny_bind (wpAny_attempt (wpAny_callSpecial?_slot (name:=Str.ofString "__next__") hT F.slot_zip_next (wpAny_call_entry F.slot_zip_next hT F.entry_zip_next
   (PJ D hz hI hO j1 j2 (show s.heap.IsTuple a it1.toArray from p1) (show s.heap.IsTuple b it2.toArray from p2) (x:=u) (y:=v) (by simpa using hu) (by simpa using hv) fun h1 n1 n2 n3 n4 n5 n6 n7=>wpAny_pure ?_) (F.args_zip_next_1 _))))
  refine ⟨_,rfl,wpAny_letOwnedTupleGo_zip (s:={ s with heap:=h1 }) n1 fun h2 m1 m2=>?_⟩
  have fr:H s.heap.objs.size=none:=I.hok.fresh (Nat.le_refl _)
  have nw:Be X.prog X.w (upd H s.heap.objs.size (.tup [x,y])) h2 s.heap.objs.size (.tup [x,y]) :=
   ⟨by show 2<=sizeLine; decide,[u,v],.cons ru (.cons rv .nil),_,m2.extBut _ _ (Nat.ne_of_gt sz) n5,rfl,_,rfl⟩
  have hI2:IsPair h1 (n+2) (.ref n) (.ref (n+1)):=n7 _ _ D.TIz D.TITO D.TIi1 D.TIi2 hI
  refine ⟨.ref s.heap.objs.size,_,I.K7 (t':=s.toks) (ch:=[n,n+1,n+2,n+3,n+4]) hf (fun c o hc q=>?_) (Nat.le_refl _) nw,rfl,⟨_,fr,rfl,fun xs' ys' h1 h2=>⟨x,y,by rw [I.Hk h1 q1]; exact hx,by rw [I.Hk h2 q2]; exact hy,rfl⟩⟩,
   ⟨m1,m2.extBut _ _ D.TIz hI2,⟨u,v,m2.extBut _ _ D.TOz n2⟩,n3.at fun o q=>m2.extBut _ _ D.i1z q,n4.at fun o q=>m2.extBut _ _ D.i2z q⟩,fun c hc=>?_⟩
  ·have z:∀ d,d∈[n,n+1,n+2,n+3,n+4]->c ≠ d:=fun d hd q=>hc (q ▸ hd)
   exact m2.extBut _ _ (z _ (by simp)) (n7 c o (z _ (by simp)) (z _ (by simp)) (z _ (by simp)) (z _ (by simp)) q)
  ·rw [Ar ?_]
   ·exact (hf c hc).1
   ·have lt:c<=n+4:=VR (P:=fun c=>c<=n+4) (by omega) (by omega) (by omega) (by omega) (Nat.le_refl _) hc
    exact Nat.ne_of_lt (Nat.lt_of_le_of_lt lt sz)
 done:=by
  intro X hP hw hK hc i pins s σ H E I hf st hg
  subst hP hw hK
  obtain ⟨xs,q1,hx⟩:=hg
  obtain ⟨it1,r1,p1,_⟩:=I.tuple q1
  obtain ⟨hz,hI,⟨x0,y0,hO⟩,j1,j2⟩:=st
  have D:=Qk ha hb
  have hT:s.TypeIs (.ref (n+4)) "zip":=⟨_,hz,rfl⟩
  have hl:=r1.length
  unfold pyNext
  refine wpAny_bind (wpAny_attempt (wpAny_callSpecial?_slot (name:=Str.ofString "__next__") hT F.slot_zip_next (wpAny_call_entry F.slot_zip_next hT F.entry_zip_next
   (RL (I.ok.hd hc) D hz hI hO j1 (show s.heap.IsTuple a it1.toArray from p1) (by simp; omega) fun h1 x k1 hx1=>?_) (F.args_zip_next_1 _))))
  obtain ⟨o,ho,hco⟩:=hx1
  refine wpAny_bind (wpAny_isInstance (T:="StopIteration") (b:=true) ⟨o,ho,hco⟩ isSubtype_stop (wpAny_pure ?_))
  refine ⟨rfl,I.Nk (t':=s.toks) (ch:=[n,n+1,n+2,n+3,n+4]) hf fun c o hc q=>?_⟩
  have z:∀ d,d∈[n,n+1,n+2,n+3,n+4]->c ≠ d:=fun d hd q=>hc (q ▸ hd)
  exact k1 c o (z _ (by simp)) (z _ (by simp)) (z _ (by simp)) (z _ (by simp)) q
 self:=fun _ _ _ _ _ st h=>wpAny_pyIter_zip st.1 h
section
variable {X:Cx} {es:List Expr} {k1:Nat} {tpos:Pos}
noncomputable def Wg (K:PySem.W.Frag) (ta:TA):TI:=fun σ H R=>ta σ H fun vs H1=>∃ a,vs=[.ref a]/\(∃ xs,Cz K H1 a xs)/\R (Yz K a) H1
noncomputable def aV (K:PySem.W.Frag) (ta:TA):TI:=fun σ H R=>ta σ H fun vs H1=>∃ a b,vs=[.ref a,.ref b]/\(∃ xs,Fo K H1 a xs)/\(∃ ys,Fo K H1 b ys)/\R (Zt K a b) H1
theorem IV {l:Expr} {ta:TA} {p pos:Pos} (hg:Gl X "enumerate") (hm:X.mg "enumerate" = none) (ha:PA X [l] ta) (hs:starEach [l] X.env=[(false,eval l X.env)]:=by rfl) :
  PI X (.Tuple es k1 tpos) (.Call (.Name "enumerate" p) [l] [] pos) (Wg X.K ta):=by
 intro pins s σ H R I h
 refine Call_ (Gr I hg hm boot_enumerate (PyProof.Rows.callWith_type1 (Bs (ha pos pins s σ H _ I h) fun us s1 ⟨vs,H1,I1,r1,q1⟩=>?_) hs rfl))
 obtain ⟨a,e,⟨xs,hq⟩,q⟩:=q1
 subst e
 obtain ⟨u,rfl,ru⟩:=vals1 r1
 cases ru
 obtain ⟨its,rv,pl,hz⟩:=I1.list hq
 refine call_enumerate_list pl.isList fun h1 n1 n2 n3 n4=>?_
 refine wpAny_pyIter_enum (s:={ s1 with heap:=h1 }) n1 ?_
 refine ⟨_,[s1.heap.objs.size+1,s1.heap.objs.size],_,_,H1,rfl,I1.kept (t':=s1.toks) n4,Oh a _ _ (Nat.succ_ne_self _),⟨⟨_,n1⟩,n2⟩,fun b hb=>?_,q⟩
 have lt:s1.heap.objs.size<=b:=by
  rcases List.mem_cons.mp hb with rfl | hb
  ·exact Nat.le_succ _
  ·exact Nat.le_of_eq ((List.mem_singleton.mp hb).symm)
 exact I1.Jy lt (I1.hok.fresh lt)
theorem Tf {x y:Expr} {ta:TA} {p pos:Pos} (hg:Gl X "zip") (hm:X.mg "zip" = none) (ha:PA X [x,y] ta) (hs:starEach [x,y] X.env=[(false,eval x X.env),(false,eval y X.env)]:=by rfl) (hs2:starEach [y] X.env=[(false,eval y X.env)]:=by rfl) :
  PI X (.Tuple es k1 tpos) (.Call (.Name "zip" p) [x,y] [] pos) (aV X.K ta):=by
 intro pins s σ H R I h
 refine Call_ (Gr I hg hm boot_zip (PyProof.Rows.callWith_type1 (Bs (ha pos pins s σ H _ I h) fun us s1 ⟨vs,H1,I1,r1,q1⟩=>?_) (by rw [hs,hs2]) (by rw [hs2]; rfl)))
 obtain ⟨a,b,e,⟨xs,q1⟩,⟨ys,q2⟩,q⟩:=q1
 subst e
 obtain ⟨u,v,rfl,ru,rv⟩:=Vals.two r1
 cases ru
 cases rv
 obtain ⟨it1,r1,p1,_⟩:=I1.tuple q1
 obtain ⟨it2,r2,p2,_⟩:=I1.tuple q2
 refine PQ (show s1.heap.IsTuple a it1.toArray from p1) (show s1.heap.IsTuple b it2.toArray from p2) fun h1 n hn n1 n2 n3 n4 n5 n6 n7=>?_
 refine wpAny_pyIter_zip (s:={ s1 with heap:=h1 }) n1 ?_
 have la:a<n:=by rw [hn]; exact p1.lt
 have lb:b<n:=by rw [hn]; exact p2.lt
 refine ⟨_,[n,n+1,n+2,n+3,n+4],_,_,H1,rfl,I1.kept (t':=s1.toks) n7,Ol a b n la lb,⟨n1,n2,⟨_,_,n3⟩,n4,n5⟩,fun c hc=>?_,q⟩
 have lt:s1.heap.objs.size<=c:=by
  rw [← hn]
  exact VR (P:=fun c=>n<=c) (by omega) (by omega) (by omega) (by omega) (by omega) hc
 exact I1.Jy lt (I1.hok.fresh lt)
end
end L2
namespace L2
open PySem PySem.Spec PyProof.Rows
theorem R5 {prog:Program} {w:World} {A:Around} {R:Result->Shared->Prop} {s:Shared} {elt tg iter:Expr} {ifs:List Expr} {scope:Scope} {pos:Pos} {it acc:Value} {env:Env} (J:Nat->Shared->Prop) {E:Value->Shared->Prop} (hE:E=notedBy (model prog w) A env fun e s'=>R (.error e) s')
  (turn:∀ n s,J n s->wpAny (model prog w) A (pyNext it) (fun r s1=>match r with
   | none=>R (.ok .next) s1
   | some v=>wpAny (model prog w) A (letOwnedTupleGo tg it v) (fun _ s2=>wpAny (model prog w) A (assign tg env v) (fun _ s3 =>
     wpAny (model prog w) A (forIn ifs true fun c r=>if r=true then do let ok ← isTrue c env (eval c env); pure (ForInStep.yield ok) else pure (ForInStep.yield r)) (fun ok s4 =>
      if ok=true then wpAny (model prog w) A (eval elt env) (fun x s5=>wpAny (model prog w) A (call (.builtin "list.append") [acc,x]) (fun _ s6=>∃ m,m<n/\J m s6) E s5) E s4
      else ∃ m,m<n/\J m s4) E s3) E s2) E s1) E s) (n:Nat) (h:J n s) :
  codeAny (model prog w) A (.compLoop (.ListComp elt [⟨tg,iter,ifs,0⟩] scope pos) 0 it acc env) R s:=by
 subst hE
 refine codeAny_loop rfl J (fun n s hJ=>(show wpAny _ A ((compTurn (.ListComp elt [⟨tg,iter,ifs,0⟩] scope pos) 0 it acc env).onRaise (fun x=>do noteFrame x env; theTreesLotGoes x)) _ _ s from wpAny_noted ?_)) n h
 rw [compTurn_list]
 refine wpAny_bind (wpAny_standAt (wpAny_bind (wpAny_mono (turn n s hJ) (fun r s1 h1=>?_) fun _ _ q=>q)))
 cases r with
 | none=>exact wpAny_pure h1
 | some v =>
  refine wpAny_bind (wpAny_mono h1 (fun _ s2 h2=>wpAny_bind (wpAny_mono h2 (fun _ s3 h3=>wpAny_bind (wpAny_mono h3 (fun ok s4 h4=>?_) fun _ _ q=>q)) fun _ _ q=>q)) fun _ _ q=>q)
  cases ok with
  | false=>exact wpAny_pure ⟨rfl,h4⟩
  | true=>exact wpAny_bind (wpAny_bind (wpAny_mono h4 (fun x s5 h5=>wpAny_bind (wpAny_mono h5 (fun _ s6 h6=>wpAny_pure (wpAny_pure ⟨rfl,h6⟩)) fun _ _ q=>q)) fun _ _ q=>q))
noncomputable def BX (X:Cx) (x z:Str) (scope:Scope) (C:Addr) (s₀:Shared) (H₀:Hp) (fp:List Addr):Cx where
 prog:=X.prog
 w:=X.w
 K:=X.K
 mg:=X.mg
 base:=X.base
 A:=X.A
 N:=x::z::X.N
 s₀:=s₀
 H₀:=H₀
 env:=compEnvC scope (CW X.env scope.names []) C X.env
 outer:=X.stack
 stack:=X.stack
 ex:=fp
 fn:=fun _=>false
 calm:=X.calm
 pn:=[]
 xe:=fun _ _=>False
structure DY (X:Cx) (x z:Str) (scope:Scope):Prop where
 kind:scope.kind=.function
 nocell:∀ y∈scope.names,y.2 ≠ .cell
 names:∀ y∈scope.names,y.2=.local->scope.names.lookup y.1=some .local
 loc:scope.names.lookup x=some .local
 loz:scope.names.lookup z=some .local
 free:∀ y∈scope.names,y.2=.free->X.env.kindOf y.1=some .cell \/ X.env.kindOf y.1=some .free
 nd:(x::z::X.N).Nodup
 only:∀ y∈X.N,scope.names.lookup y ≠ some .local
section
variable {X:Cx} {pins:List (Addr × Obj)} {σ:St} {H:Hp} {s:Shared} {x z:Str} {scope:Scope} {fp:List Addr} {C:Addr}
theorem Kw {h':Heap} {tk:Nat} {m:Str->Option Value} (I:Inv X pins σ H s) (S:DY X x z scope) (hf:∀ b∈fp,FW X pins H b) (hlt:∀ b∈fp,b<s.heap.objs.size) (hC:s.heap.objs.size<=C) (hn:h'.Ns C m)
  (hk:∀ b o,s.heap.get? b=some o->h'.get? b=some o):Inv (BX X x z scope C s H fp) [] (none::none::σ) H { s with heap:=h',toks:=tk }:=by
 have cl:∀ y c,(CW X.env scope.names []).lookup y=some c->X.env.cells.lookup y=some c:=fun y c e=>by
  rcases Et X.env scope.names [] y c e with z | z
  ·cases z
  ·exact z
 have cellK:∀ c v,s.heap.IsCell c v->h'.IsCell c v:=fun c v ⟨o,ho,hd⟩=>⟨o,hk c o ho,hd⟩
 have look:∀ y,(BX X x z scope C s H fp).env.scope.names.lookup y=(scope.names.lookup y).map fun k=>if (k == NameKind.free && X.env.scope.kind == .function && X.env.kindOf y == some .cell) then NameKind.cell else k:=fun y=>Du X.env y scope.names
 refine ⟨⟨I.ok.mod,S.kind,I.ok.glob,I.ok.blt,hC,fun y z c e1 e2=>I.ok.inj y z c (cl y c e1) (cl z c e2),fun y hy=>?_,fun y c e _=>(by cases e),fun h=>I.ok.hd h,I.ok.frames,.inl rfl,fun b hb=>?_,I.bs,Nat.le_trans I.ok.bsz I.sz,fun b o e hb=>?_,fun b hb hb'=>?_,I.stack,I.GF⟩,
  rfl,I.bare,Un.kept hk,⟨m,hn,fun i y v h1 h2 h3=>?_⟩,fun y c e=>?_,I.hok.fresh hC,fun y c e=>I.freeC y c (cl y c e),fun p hp=>absurd (show p∈([]:List (Addr × Obj)) from hp) (by simp),I.hok.kept hk,?_⟩
 ·have hy':(BX X x z scope C s H fp).env.scope.names.lookup y=some .cell \/ (BX X x z scope C s H fp).env.scope.names.lookup y=some .free:=hy
  rw [look y] at hy'
  cases e:scope.names.lookup y with
  | none=>rw [e] at hy'; rcases hy' with z | z <;> cases z
  | some k =>
   have hm:=PySem.mem_of_lookup e
   have hfree:k=.free:=by
    rw [e] at hy'
    cases k with
    | free=>rfl
    | cell=>exact absurd rfl (S.nocell _ hm)
    | _=>rcases hy' with z | z <;> simp at z
   subst hfree
   obtain ⟨c,hc⟩:=I.ok.has y (S.free _ hm rfl)
   exact Option.isSome_iff_exists.mp (Dh X.env scope.names [] y hm (by rw [hc]; rfl))
 ·obtain ⟨f0,f1,f2,f3,f4,f5⟩:=hf b hb
  exact ⟨Nat.ne_of_lt (Nat.lt_of_lt_of_le (hlt b hb) hC),fun y c e=>f4 y c (cl y c e)⟩
 ·obtain ⟨f0,f1,f2,f3,f4,f5⟩:=hf b hb
  rcases f3 with z | z
  ·exact I.ok.noex b o e z
  ·exact absurd (Nat.lt_of_lt_of_le (Heap.lt_size e) (Nat.le_trans I.ok.bsz z)) (Nat.lt_irrefl _)
 ·obtain ⟨f0,f1,f2,f3,f4,f5⟩:=hf b hb
  rcases List.mem_cons.mp (I.Js b hb') with e | e
  ·exact f1 e
  ·exact f2 e
 ·match i,h1,h2 with
  | 0,h1,h2 =>
   have h2':(some none:Option (Option V))=some (some v):=h2
   cases h2'
  | 1,h1,h2 =>
   have h2':(some none:Option (Option V))=some (some v):=h2
   cases h2'
  | i+2,h1,h2 =>
   have e0:X.N[i]? = some y:=h1
   have h2':σ[i]? = some (some v):=h2
   have hmem:y∈X.N:=List.mem_of_getElem? e0
   have h3':(BX X x z scope C s H fp).env.scope.names.lookup y=some .local \/ (BX X x z scope C s H fp).env.scope.names.lookup y=some .cell \/ (BX X x z scope C s H fp).env.scope.names.lookup y=some .free:=h3
   rw [look y] at h3'
   cases e:scope.names.lookup y with
   | none=>rw [e] at h3'; rcases h3' with z | z | z <;> cases z
   | some k =>
    have hm:=PySem.mem_of_lookup e
    have hfree:k=.free:=by
     rw [e] at h3'
     cases k with
     | free=>rfl
     | cell=>exact absurd rfl (S.nocell _ hm)
     | «local»=>exact absurd e (S.only y hmem)
     | _=>rcases h3' with z | z | z <;> simp at z
    subst hfree
    have kd:=S.free _ hm rfl
    obtain ⟨m0,hn0,hl0⟩:=I.loc
    obtain ⟨u,r,l⟩:=hl0 i y v e0 h2' (by rcases kd with z | z; exact .inr (.inl z); exact .inr (.inr z))
    refine ⟨u,r,.inr ⟨?_,?_⟩⟩
    ·have hk':(BX X x z scope C s H fp).env.scope.names.lookup y=some (if (NameKind.free == NameKind.free && X.env.scope.kind == .function && X.env.kindOf y == some .cell) then NameKind.cell else NameKind.free):=by
      rw [look y,e]; rfl
     by_cases c:(NameKind.free == NameKind.free && X.env.scope.kind == .function && X.env.kindOf y == some .cell)=true
     ·rw [if_pos c] at hk'; exact .inl hk'
     ·rw [if_neg c] at hk'; exact .inr hk'
    ·rcases l with ⟨lk,_⟩ | ⟨_,c,hc,hcell⟩
     ·exfalso
      rcases kd with z | z <;> (rw [show X.env.kindOf y=some NameKind.local from lk] at z; cases z)
     ·obtain ⟨c',hc'⟩:=Option.isSome_iff_exists.mp (Dh X.env scope.names [] y hm (by rw [hc]; rfl))
      have:=cl y c' hc'
      rw [hc] at this
      cases this
      exact ⟨c,hc',cellK c _ hcell⟩
 ·obtain ⟨v,z⟩:=I.cell y c (cl y c e)
  exact ⟨v,cellK c v z⟩
 ·show (none::none::σ).length=(x::z::X.N).length
  simp [I.len]
end
noncomputable def KH (J:It) (σ:St) (H1:Hp) (Q:VK) (g:TG) (tt:TT) (te:TE):Prop:=∀ D,H1 D=none->∃ W:Nat->Nat->List V->Hp->Prop,(∃ m,W 0 m [] (upd H1 D (.lst [])))/\∀ i m ys H2,W i m ys H2 ->
 (J.stop i H2/\Q (.ref D) H2) \/ (J.go i H2/\∀ x H3,J.yld i H2 x H3->∀ v0 v1,g x (v0::v1::σ) H3 fun σ' H3'=>(∃ w0 w1,σ'=w0::w1::σ)/\tt σ' H3' fun b H4 =>
  if b=true then te σ' H4 fun y H5=>H5 D=some (.lst ys)/\ys.length<sizeLine/\∃ m',m'<m/\W (i+1) m' (ys++[y]) (upd H5 D (.lst (ys++[y])))
  else ∃ m',m'<m/\W (i+1) m' ys H4)
noncomputable def Qv (wi:TI) (g:TG) (tt:TT) (te:TE):TE:=fun σ H Q=>wi σ H fun J H1=>KH J σ H1 Q g tt te
section
variable {X:Cx} {x z:Str} {scope:Scope}
theorem KZ {tg:Expr} {pos:Pos} {iter elt:Expr} {ifs:List Expr} {g:TG} {tt:TT} {te:TE} {pins:List (Addr × Obj)} {σ:St} {s2:Shared} {H2:Hp} {it:Addr} {fp:List Addr} {tn:Nat->Heap->Prop} {J:It} {E:Value->Shared->Prop}
  {RR:Value->Addr->Result->Shared->Prop} {Q:VK}
  (hc:X.calm=true) (S:DY X x z scope) (hg:∀ C s₀ H₀ fp,PG (BX X x z scope C s₀ H₀ fp) tg g) (ht:∀ C s₀ H₀ fp,Lz (BX X x z scope C s₀ H₀ fp) ifs tt) (he:∀ C s₀ H₀ fp,PE (BX X x z scope C s₀ H₀ fp) elt te)
  (I2:Inv X pins σ H2 s2) (T:Turn X.prog X.w X.K tg J fp it tn) (st2:tn 0 s2.heap) (f2:∀ b∈fp,FW X pins H2 b) (q:KH J σ H2 Q g tt te)
  (hRR:∀ D C s' H' m,s'.heap.Ns C m->FW X pins H' C->Inv X pins σ H' s'->Q (.ref D) H'->RR (.ref D) C (.ok .next) s') :
  wpAny (model X.prog X.w) X.A (newList []) (fun acc s₃=>wpAny (model X.prog X.w) X.A (newFunctionEnv scope X.env.globals (CW X.env scope.names []) [] X.env.qual none .none (some X.env)) (fun cenv s₄ =>
   codeAny (model X.prog X.w) X.A (.compStart (.ListComp elt [⟨tg,iter,ifs,0⟩] scope pos) 0 (.ref it) acc { cenv with scope:=relabel scope X.env }) (RR acc cenv.locals) s₄) E s₃) E s2:=by
 refine wpAny_newObj_type (wpAny_newFunctionEnv S.nocell (by intro y hy; simp at hy) (fun h₁ hns₁ hsb₁=>?_) S.kind)
 have I3:=I2.WL (its:=[]) (ys:=[]) (t':=s2.toks) .nil (Nat.zero_le _)
 have hD0:H2 s2.heap.objs.size=none:=I2.fresh
 obtain ⟨W,⟨m0,w0⟩,turn⟩:=q _ hD0
 generalize hs3:({ s2 with heap:=s2.heap.push { cls:=.type "list",data:=.seq ([]:List Value).toArray },toks:=s2.toks }:Shared)=s3 at I3
 have e3:s3.heap=s2.heap.push { cls:=.type "list",data:=.seq ([]:List Value).toArray }:=by rw [← hs3]
 have hlt:∀ b∈fp,b<s2.heap.objs.size:=fun b hb=>let ⟨_,e,_⟩:=T.obj _ _ st2 b hb; Heap.lt_size e
 have hlt3:∀ b∈fp,b<s3.heap.objs.size:=fun b hb=>by rw [e3,Heap.size_push]; exact Nat.lt_succ_of_lt (hlt b hb)
 have f3:∀ b∈fp,FW X pins (upd H2 s2.heap.objs.size (.lst [])) b:=fun b hb=>⟨by rw [Ar (Nat.ne_of_lt (hlt b hb))]; exact (f2 b hb).1,(f2 b hb).2⟩
 have hk1:∀ b o,s3.heap.get? b=some o->h₁.get? b=some o:=fun b o e=>by
  have hne:b ≠ s3.heap.objs.size:=Nat.ne_of_lt (Heap.lt_size e)
  rw [e3] at e hne
  exact hsb₁.extBut b o hne (Heap.get?_push_of_some _ e)
 have hC:s3.heap.objs.size=(s2.heap.push { cls:=.type "list",data:=.seq ([]:List Value).toArray }).objs.size:=by rw [e3]
 have hns:h₁.Ns s3.heap.objs.size (fun x=>([]:List (Str × Value)).reverse.lookup x):=by rw [hC]; exact hns₁
 have st3:tn 0 h₁:=T.keep _ _ _ st2 fun b hb o e=>hk1 b o (by rw [e3]; exact Heap.get?_push_of_some _ e)
 have start:∀ tk,Inv (BX X x z scope s3.heap.objs.size s3 (upd H2 s2.heap.objs.size (.lst [])) fp) [] (none::none::σ) (upd H2 s2.heap.objs.size (.lst [])) { s3 with heap:=h₁,toks:=tk }:=fun tk =>
  Kw I3 S f3 hlt3 (Nat.le_refl _) hns hk1
 have loop:∀ tk,codeAny (model X.prog X.w) X.A (.compLoop (.ListComp elt [⟨tg,iter,ifs,0⟩] scope pos) 0 (.ref it) (.ref s2.heap.objs.size) (compEnvC scope (CW X.env scope.names []) s3.heap.objs.size X.env))
   (RR (.ref s2.heap.objs.size) s3.heap.objs.size) { s3 with heap:=h₁,toks:=tk }:=by
  intro tk
  refine R5 (fun n s'=>∃ i ys v0 v1 H',Inv (BX X x z scope s3.heap.objs.size s3 (upd H2 s2.heap.objs.size (.lst [])) fp) [] (v0::v1::σ) H' s'/\tn i s'.heap/\(∀ b∈fp,H' b=none)/\W i n ys H') rfl ?_ m0
   ⟨0,[],none,none,_,start tk,st3,fun b hb=>(f3 b hb).1,w0⟩
  rintro n s4 ⟨i,ys,v0,v1,H4,I4,st4,fr4,w4⟩
  have stat:∀ {H':Hp},(∀ b∈fp,H' b=none)->∀ b∈fp,FW (BX X x z scope s3.heap.objs.size s3 (upd H2 s2.heap.objs.size (.lst [])) fp) [] H' b:=fun hn b hb=>by
   refine ⟨hn b hb,(I4.ok.exf b hb).1,I4.ok.exfs b hb,.inl hb,(I4.ok.exf b hb).2,fun p hp=>absurd (show p∈([]:List (Addr × Obj)) from hp) (by simp)⟩
  rcases turn i n ys H4 w4 with ⟨stop,qn⟩ | ⟨go,step⟩
  ·refine Bs (T.done (BX X x z scope s3.heap.objs.size s3 (upd H2 s2.heap.objs.size (.lst [])) fp) rfl rfl rfl hc i [] s4 (v0::v1::σ) H4 _ I4 (stat fr4) st4 stop) fun r s5 ⟨hr,I5⟩=>?_
   subst hr
   obtain ⟨m,hn,_⟩:=I5.loc
   refine hRR _ _ s5 H4 m hn (I3.Jy (Nat.le_refl _) I5.free) (I3.call' (s':=s5) (ch:=fp) I5.os I5.base I5.hok I5.bare (fun b hb=>?_)) qn
   obtain ⟨_,g1,_,g3,g4,g5⟩:=f3 b hb
   exact ⟨g3,g1,g4,g5⟩
  ·refine Bs (T.item (BX X x z scope s3.heap.objs.size s3 (upd H2 s2.heap.objs.size (.lst [])) fp) rfl rfl rfl hc i [] s4 (v0::v1::σ) H4 _ I4 (stat fr4) st4 go) fun r s5 ⟨u,hr,h5⟩=>?_
   subst hr
   refine Bs h5 fun _ s6 h6=>?_
   obtain ⟨xv,H6,I6,r6,y6,st6,fr6⟩:=h6
   have I6':=I6.pinned (stat fr6) (T.obj _ _ st6)
   have again:∀ {s7:Shared} {H7:Hp} {ys':List V} {w0 w1:Option V},Inv (BX X x z scope s3.heap.objs.size s3 (upd H2 s2.heap.objs.size (.lst [])) fp) ([]++HS fp s6.heap) (w0::w1::σ) H7 s7->(∃ m',m'<n/\W (i+1) m' ys' H7) ->
     ∃ m,m<n/\∃ i ys v0 v1 H',Inv (BX X x z scope s3.heap.objs.size s3 (upd H2 s2.heap.objs.size (.lst [])) fp) [] (v0::v1::σ) H' s7/\tn i s7.heap/\(∀ b∈fp,H' b=none)/\W i m ys H':=fun {s7 H7 ys' w0 w1} I7 hw=>by
    obtain ⟨m',hm,w7⟩:=hw
    refine ⟨m',hm,i+1,ys',w0,w1,H7,I7.Fp,T.keep _ _ _ st6 fun b hb o e=>(I7.pin (b,o) (List.mem_append_right _ (List.mem_append_right _ (Dd hb e)))).1,fun b hb=>?_,w7⟩
    obtain ⟨o,e,d⟩:=T.obj _ _ st6 b hb
    exact (I7.pin (b,o) (List.mem_append_right _ (List.mem_append_right _ (Dd hb e)))).2.1
   refine MK (hg _ _ _ _ _ s6 (v0::v1::σ) H6 xv u _ I6' r6 (step xv H6 y6 v0 v1)) fun _ s7 ⟨σ7,H7,I7,⟨w0,w1,e7⟩,q7⟩=>?_
   subst e7
   refine MK (ht _ _ _ _ _ s7 (w0::w1::σ) H7 _ I7 q7) fun b s8 hq0=>?_
   obtain ⟨H8,I8,q8⟩:=hq0
   cases b with
   | false =>
    rw [if_neg Bool.false_ne_true] at q8 ⊢
    exact again I8 q8
   | true =>
    rw [if_pos rfl] at q8 ⊢
    refine MK (he _ _ _ _ _ s8 (w0::w1::σ) H8 _ I8 q8) fun y s9 hq0=>?_
    obtain ⟨yv,H9,I9,r9,hD9,hz9,q9⟩:=hq0
    refine MK (GJ (X:=BX X x z scope s3.heap.objs.size s3 (upd H2 s2.heap.objs.size (.lst [])) fp) _ s9 (w0::w1::σ) H9 (.ref s2.heap.objs.size) [yv] (.ref s2.heap.objs.size) [y] (fun _ H'=>H'=upd H9 s2.heap.objs.size (.lst (ys++[yv]))) I9 rfl (.cons r9 .nil)
     ⟨_,ys,yv,rfl,rfl,hD9,hz9,rfl⟩) fun _ s10 ⟨_,H10,I10,_,e10⟩=>?_
    subst e10
    exact again I10 q9
 have key:=fun tk=>codeAny_compStart_list (R:=RR (.ref s2.heap.objs.size) s3.heap.objs.size) (loop tk) (T.self X.A 0 { s3 with heap:=h₁,toks:=tk } (fun it' s'=>codeAny (model X.prog X.w) X.A (.compLoop (.ListComp elt [⟨tg,iter,ifs,0⟩] scope pos) 0 it' (.ref s2.heap.objs.size) (compEnvC scope (CW X.env scope.names []) s3.heap.objs.size X.env)) (RR (.ref s2.heap.objs.size) s3.heap.objs.size) s') _ st3 (loop tk))
 subst hs3
 exact key _
theorem Ra {tg:Expr} {pos:Pos} {iter elt:Expr} {ifs:List Expr} {wi:TI} {g:TG} {tt:TT} {te:TE} (hc:X.calm=true) (S:DY X x z scope) (hi:PI X tg iter wi) (hg:∀ C s₀ H₀ fp,PG (BX X x z scope C s₀ H₀ fp) tg g)
  (ht:∀ C s₀ H₀ fp,Lz (BX X x z scope C s₀ H₀ fp) ifs tt) (he:∀ C s₀ H₀ fp,PE (BX X x z scope C s₀ H₀ fp) elt te) (hs:∀ x,foldedSetIterable iter X.env x=pure x:=by intro _; rfl) :
  PE X (.ListComp elt [⟨tg,iter,ifs,0⟩] scope pos) (Qv wi g tt te):=by
 intro pins s σ H Q I h
 rw [eval_ListComp]
 refine wpAny_comprehension_free (use:=none) (cl:=CW X.env scope.names []) rfl hs (Ig fun y hy hk=>I.ok.has y.1 (S.free y hy hk)) S.kind S.names (Bs (hi pins s σ H _ I h) fun v s1 h1=>Bs h1 fun itv s2 h2=>?_)
 obtain ⟨it,fp,tn,J,H2,e,I2,T,st2,f2,q⟩:=h2
 subst e
 refine KZ (RR:=fun acc C=>compPost (model X.prog X.w) X.A X.xe none (EP X pins σ Q) acc C) (Q:=Q) hc S hg ht he I2 T st2 f2 q ?_
 intro D C s' H' m hn hf hI hq
 exact ⟨m,hn,fun h' sb=>⟨.ref D,H',hI.sameBut hf sb,rfl,hq⟩⟩
end
end L2
namespace L2
open PySem PySem.Spec PySem.Calls PyProof.Rows
theorem Aj.tup {K:PySem.W.Frag} {H H':Hp} {a:Addr} {xs:List V} (e:Aj H H') (h:Fo K H a xs):Fo K H' a xs:=by
 rcases h with (h | ⟨o,h⟩) | h
 ·exact .inl (.inl (e _ _ h))
 ·exact .inl (.inr ⟨o,e _ _ h⟩)
 ·exact .inr h
noncomputable def TupAt (H:Hp) (zs:List V) (y:V):Prop:=∃ T,y=.ref T/\H T=some (.tup zs)
theorem TupAt.mono {H H':Hp} {zs:List V} {y:V} (s:Aj H H') (h:TupAt H zs y):TupAt H' zs y:=let ⟨T,e,q⟩:=h; ⟨T,e,s _ _ q⟩
theorem TupAt.upd {H:Hp} {zs ys ws:List V} {y:V} {D:Addr} (h:TupAt H zs y) (hD:H D=some (.lst ys)):TupAt (upd H D (.lst ws)) zs y:=by
 obtain ⟨T,e,q⟩:=h
 refine ⟨T,e,?_⟩
 rw [Ar fun z=>by rw [z,hD] at q; cases q]
 exact q
theorem D_ {α:Type} {H:Hp} {f:α->List V} {l:List α} {vs ys ws:List V} {D:Addr} (h:Paired (fun a y=>TupAt H (f a) y) l vs) (hD:H D=some (.lst ys)):Paired (fun a y=>TupAt (upd H D (.lst ws)) (f a) y) l vs:=Paired.JP h fun _ _ q=>q.upd hD
theorem Al {α:Type} {H H':Hp} {f:α->List V} {l:List α} {vs:List V} (s:Aj H H') (h:Paired (fun a y=>TupAt H (f a) y) l vs):Paired (fun a y=>TupAt H' (f a) y) l vs:=Paired.JP h fun _ _ q=>q.mono s
noncomputable def KY (x z:Str) (scope osc:Scope) (N:List Str):Bool :=
 (scope.kind == .function) && scope.names.all (fun y=>y.2 != .cell && (y.2 != .local || scope.names.lookup y.1 == some .local) && (y.2 != .free || osc.names.lookup y.1 == some .cell || osc.names.lookup y.1 == some .free)) && (scope.names.lookup x == some .local) && (scope.names.lookup z == some .local) &&
 decide ((x::z::N).Nodup) && N.all (fun y=>scope.names.lookup y != some .local)
theorem Mu {X:Cx} {x z:Str} {scope osc:Scope} {N:List Str} (hsc:X.env.scope=osc) (hN:X.N=N) (h:KY x z scope osc N=true):DY X x z scope:=by
 unfold KY at h
 simp only [Bool.and_eq_true] at h
 obtain ⟨⟨⟨⟨⟨h1,h2⟩,h3⟩,h3'⟩,h4⟩,h5⟩:=h
 rw [List.all_eq_true] at h2 h5
 have kind:∀ y,X.env.kindOf y=osc.names.lookup y:=fun y=>by show X.env.scope.names.lookup y=_; rw [hsc]
 refine ⟨by simpa using h1,fun y hy=>?_,fun y hy hk=>?_,by simpa using h3,by simpa using h3',fun y hy hk=>?_,by rw [hN]; exact of_decide_eq_true h4,fun y hy=>?_⟩
 ·have:=h2 y hy
  simp only [Bool.and_eq_true,bne_iff_ne] at this
  exact this.1.1
 ·have:=h2 y hy
  simp only [Bool.and_eq_true] at this
  simpa [hk] using this.1.2
 ·have:=h2 y hy
  simp only [Bool.and_eq_true] at this
  rw [kind]
  simpa [hk] using this.2
 ·have:=h5 y (by rw [← hN]; exact hy)
  simpa using this
section
variable {X:Cx} {x z:Str} {scope:Scope}
theorem TJ {px pz pos:Pos} {k:Nat} {C:Addr} {s₀:Shared} {H₀:Hp} {fp:List Addr} (hc:X.calm=true) (S:DY X x z scope) :
  PG (BX X x z scope C s₀ H₀ fp) (.Tuple [.Name x px,.Name z pz] k pos) (TQ X.K 2 (JB (Gh 0) (JB (Gh 1) Tg))):=by
 have l1:(BX X x z scope C s₀ H₀ fp).env.scope.names.lookup x=some .local:=lookup_relabel_local S.loc
 have l2:(BX X x z scope C s₀ H₀ fp).env.scope.names.lookup z=some .local:=lookup_relabel_local S.loz
 exact Ij (X:=BX X x z scope C s₀ H₀ fp) (n:=2) hc (Cr (CG (X:=BX X x z scope C s₀ H₀ fp) (i:=0) S.nd rfl (.inl l1) (.inr l1)) (Cr (CG (X:=BX X x z scope C s₀ H₀ fp) (i:=1) S.nd rfl (.inl l2) (.inr l2)) HB))
theorem Tq {px pz tpos:Pos} {k:Nat} {pos:Pos} {iter elt:Expr} {ifs:List Expr} {wi:TI} {tt:TT} {te:TE} (hc:X.calm=true) (S:DY X x z scope) (hi:PI X (.Tuple [.Name x px,.Name z pz] k tpos) iter wi)
  (ht:∀ C s₀ H₀ fp,Lz (BX X x z scope C s₀ H₀ fp) ifs tt) (he:∀ C s₀ H₀ fp,PE (BX X x z scope C s₀ H₀ fp) elt te) (hs:∀ x,foldedSetIterable iter X.env x=pure x:=by intro _; rfl) :
  PE X (.ListComp elt [⟨.Tuple [.Name x px,.Name z pz] k tpos,iter,ifs,0⟩] scope pos) (Qv wi (TQ X.K 2 (JB (Gh 0) (JB (Gh 1) Tg))) tt te) :=
 Ra hc S hi (fun _ _ _ _=>TJ hc S) ht he hs
end
section
variable {σ:St} {H1:Hp} {Q:VK} {tt:TT} {te:TE}
theorem Di {K:PySem.W.Frag} {a:Addr} {xs:List V} (p:V->Bool) (f:V->V) (hl:Cz K H1 a xs) (hz:xs.length<sizeLine)
  (ht:∀ x∈xs,∀ H,Aj H1 H->∀ R:Bool->Hp->Prop,(∀ H',Aj H H'->R (p x) H')->tt (some x::σ) H R)
  (he:∀ x∈xs,p x=true->∀ H,Aj H1 H->∀ R:VK,(∀ H',Aj H H'->R (f x) H')->te (some x::σ) H R)
  (hq:∀ D H,H1 D=none->Aj H1 H->H D=some (.lst ((xs.filter p).map f))->Q (.ref D) H):Fx (Vc K a) σ H1 Q tt te :=
 Gv p f hz (fun i H x hs hx=>⟨xs,x,hs.seq hl,hx⟩) (fun i H y H' hs _ hy=>⟨hy.1,hy.2 xs (hs.seq hl)⟩) (fun H hs=>⟨xs,hs.seq hl,Nat.le_refl _⟩) ht he hq
theorem Jp {J:It} {xs:List V} (p:V->Bool) (f:V->List V) (hz:xs.length<sizeLine)
  (hgo:∀ i H x,Aj H1 H->xs[i]? = some x->J.go i H) (hy:∀ i H y H',Aj H1 H->i<xs.length->J.yld i H y H'->H'=H/\xs[i]? = some y) (hstop:∀ H,Aj H1 H->J.stop xs.length H)
  (ht:∀ x∈xs,∀ H,Aj H1 H->∀ R:Bool->Hp->Prop,(∀ H',Aj H H'->R (p x) H')->tt (some x::σ) H R)
  (he:∀ x∈xs,p x=true->∀ H,Aj H1 H->∀ R:VK,(∀ y H',Aj H H'->TupAt H' (f x) y->R y H')->te (some x::σ) H R)
  (hq:∀ D H ys,H1 D=none->Aj H1 H->H D=some (.lst ys)->Paired (fun x y=>TupAt H (f x) y) (xs.filter p) ys->Q (.ref D) H):Fx J σ H1 Q tt te:=by
 intro D hD
 have s0:Aj H1 (upd H1 D (.lst [])):=fun b o e=>by rw [Ar (Am e hD)]; exact e
 refine ⟨fun i m ys H=>m=xs.length - i/\i<=xs.length/\H D=some (.lst ys)/\Paired (fun x y=>TupAt H (f x) y) ((xs.take i).filter p) ys/\Aj H1 H,⟨xs.length,by simp,Nat.zero_le _,Ac,by simpa using Paired.nil,s0⟩,?_⟩
 rintro i m ys H ⟨rfl,hi,hd,hp,hs⟩
 by_cases hlt:i<xs.length
 ·obtain ⟨x,hx⟩:∃ x,xs[i]? = some x:=⟨xs[i],by simp [hlt]⟩
  refine .inr ⟨hgo i H x hs hx,fun y H3 hyl=>?_⟩
  obtain ⟨rfl,hy'⟩:=hy i H y H3 hs hlt hyl
  rw [hx] at hy'
  cases hy'
  have hm:x∈xs:=List.mem_of_getElem? hx
  have hlen:ys.length<sizeLine:=by
   rw [← hp.length]
   refine Nat.lt_of_le_of_lt (List.length_filter_le _ _) (Nat.lt_of_le_of_lt ?_ hz)
   rw [List.length_take]; omega
  refine ht x hm _ hs _ fun H4 s4=>?_
  by_cases hpx:p x=true
  ·rw [if_pos hpx]
   refine he x hm hpx H4 (hs.trans s4) _ fun y H5 s5 hφ=>?_
   refine ⟨s5 _ _ (s4 _ _ hd),hlen,xs.length - (i+1),by omega,rfl,hlt,Ac,?_,fun b o e=>?_⟩
   ·rw [take_succ_filter p xs i x hx,if_pos hpx]
    exact (D_ (Al (s4.trans s5) hp) (s5 _ _ (s4 _ _ hd))).snoc (hφ.upd (s5 _ _ (s4 _ _ hd)))
   ·rw [Ar (Am e hD)]; exact s5 _ _ (s4 _ _ (hs _ _ e))
  ·rw [if_neg hpx]
   refine ⟨xs.length - (i+1),by omega,rfl,hlt,s4 _ _ hd,?_,hs.trans s4⟩
   rw [take_succ_filter p xs i x hx,if_neg hpx,List.append_nil]
   exact Al s4 hp
 ·have e:i=xs.length:=by omega
  subst e
  rw [List.take_length] at hp
  exact .inl ⟨hstop H hs,hq D H ys hD hs hd hp⟩
theorem Kc {K:PySem.W.Frag} {a:Addr} {xs:List V} (p:V->Bool) (f:V->List V) (hl:Cz K H1 a xs) (hz:xs.length<sizeLine)
  (ht:∀ x∈xs,∀ H,Aj H1 H->∀ R:Bool->Hp->Prop,(∀ H',Aj H H'->R (p x) H')->tt (some x::σ) H R)
  (he:∀ x∈xs,p x=true->∀ H,Aj H1 H->∀ R:VK,(∀ y H',Aj H H'->TupAt H' (f x) y->R y H')->te (some x::σ) H R)
  (hq:∀ D H ys,H1 D=none->Aj H1 H->H D=some (.lst ys)->Paired (fun x y=>TupAt H (f x) y) (xs.filter p) ys->Q (.ref D) H):Fx (Vc K a) σ H1 Q tt te :=
 Jp p f hz (fun i H x hs hx=>⟨xs,x,hs.seq hl,hx⟩) (fun i H y H' hs _ hy=>⟨hy.1,hy.2 xs (hs.seq hl)⟩) (fun H hs=>⟨xs,hs.seq hl,Nat.le_refl _⟩) ht he hq
theorem Ju {α β:Type} {F:α->β->Prop} (g:Nat->α):∀ {n:Nat} {l:List α} {ys:List β},Paired F l ys->l=(List.range n).map g->Paired (fun i y=>F (g i) y) (List.range n) ys:=by
 intro n
 have key:∀ (js:List Nat) (ys:List β),Paired F (js.map g) ys->Paired (fun i y=>F (g i) y) js ys:=by
  intro js
  induction js with
  | nil=>intro ys h; cases h; exact .nil
  | cons j js ih =>
   intro ys h
   cases h with
   | cons a b=>exact .cons a (ih _ b)
 intro l ys h e
 subst e
 exact key _ _ h
theorem Bt {n:Nat} (f:Nat->List V) (hz:n<sizeLine)
  (he:∀ i:Nat,i<n->∀ H,Aj H1 H->∀ R:VK,(∀ y H',Aj H H'->TupAt H' (f i) y->R y H')->te (some (.int (i:Int))::σ) H R)
  (hq:∀ D H ys,H1 D=none->Aj H1 H->H D=some (.lst ys)->Paired (fun i y=>TupAt H (f i) y) (List.range n) ys->Q (.ref D) H):Fx (VH 0 n) σ H1 Q R8 te:=by
 let g:V->Nat:=fun v=>match v with | .int i=>i.toNat | _=>0
 have hxs:∀ i:Nat,i<n->((List.range n).map fun (i:Nat)=>V.int (i:Int))[i]? = some (.int i):=fun i hi=>by simp [hi]
 refine Jp (xs:=(List.range n).map fun (i:Nat)=>V.int (i:Int)) (fun _=>true) (fun v=>f (g v)) (by simpa using hz) (fun i H x _ hx=>?_) (fun i H y H' _ hi hy=>?_) (fun H _=>?_) (fun x hx H hs R k=>k H (Aj.refl H)) (fun x hx _ H hs R k=>?_) (fun D H ys h1 h2 h3 h4=>?_)
 ·have:i<((List.range n).map fun (i:Nat)=>V.int (i:Int)).length:=(List.getElem?_eq_some_iff.mp hx).1
  show i<n
  simpa using this
 ·obtain ⟨e1,e2⟩:=hy
  have hi':i<n:=by simpa using hi
  refine ⟨e1,?_⟩
  rw [hxs i hi',e2,Int.zero_add]
 ·show n<=_
  simp
 ·obtain ⟨i,hi,rfl⟩:=List.mem_map.mp hx
  exact he i (List.mem_range.mp hi) H hs R k
 ·rw [List.filter_eq_self.mpr (fun _ _=>rfl)] at h4
  exact hq D H ys h1 h2 h3 (Ju (F:=fun x y=>TupAt H (f (g x)) y) (fun i=>V.int (i:Int)) h4 rfl)
theorem QB {K:PySem.W.Frag} {a b:Addr} {xs ys:List V} (f:V->V->V) (hx:Fo K H1 a xs) (hy:Fo K H1 b ys) (hl:xs.length=ys.length) (hz:xs.length<sizeLine)
  (he:∀ (i:Nat) x y,xs[i]? = some x->ys[i]? = some y->∀ H,Aj H1 H->∀ R:VK,(∀ H',Aj H H'->R (f x y) H')->te (some x::some y::σ) H R)
  (hq:∀ D H,H1 D=none->Aj H1 H->H D=some (.lst (List.zipWith f xs ys))->Q (.ref D) H):KH (Zt K a b) σ H1 Q (TQ K 2 (JB (Gh 0) (JB (Gh 1) Tg))) R8 te:=by
 intro D hD
 have s0:Aj H1 (upd H1 D (.lst [])):=fun b o e=>by rw [Ar (Am e hD)]; exact e
 refine ⟨fun i m zs H=>m=xs.length - i/\i<=xs.length/\zs=(List.zipWith f xs ys).take i/\H D=some (.lst zs)/\Aj H1 H,⟨xs.length,by simp,Nat.zero_le _,by simp,Ac,s0⟩,?_⟩
 rintro i m zs H ⟨rfl,hi,rfl,hd,hs⟩
 have hzl:(List.zipWith f xs ys).length=xs.length:=by rw [List.length_zipWith]; omega
 by_cases hlt:i<xs.length
 ·have ex:xs[i]? = some xs[i]:=List.getElem?_eq_getElem hlt
  have ey:ys[i]? = some ys[i]:=List.getElem?_eq_getElem (hl ▸ hlt)
  refine .inr ⟨⟨xs,ys,_,_,hs.tup hx,hs.tup hy,ex,ey⟩,fun v H3 hv v0 v1=>?_⟩
  obtain ⟨T,hT,rfl,hv⟩:=hv
  obtain ⟨x,y,qx,qy,rfl⟩:=hv xs ys (hs.tup hx) (hs.tup hy)
  have s3:Aj H (upd H T (.tup [x,y])):=fun b o e=>by rw [Ar (Am e hT)]; exact e
  refine ⟨T,[x,y],rfl,.inl (.inl Ac),rfl,x,[y],rfl,y,[],rfl,rfl,⟨_,_,rfl⟩,?_⟩
  unfold R8
  dsimp only
  rw [if_pos rfl]
  refine he i x y qx qy _ (hs.trans s3) _ fun H5 s5=>?_
  refine ⟨s5 _ _ (s3 _ _ hd),?_,xs.length - (i+1),by omega,rfl,hlt,?_,Ac,fun b o e=>?_⟩
  ·rw [List.length_take,hzl]
   omega
  ·rw [List.take_add_one,List.getElem?_zipWith,qx,qy]
   rfl
  ·rw [Ar (Am e hD)]
   exact s5 _ _ (s3 _ _ (hs _ _ e))
 ·have e:i=xs.length:=by omega
  subst e
  rw [← hzl,List.take_length] at hd
  exact .inl ⟨⟨xs,hs.tup hx,Nat.le_refl _⟩,hq D H hD hs hd⟩
end
theorem HH {K:PySem.W.Frag} {a:Addr} {xs:List V} {g:TG} {tb:TS} {D:Ends} {σ:St} {H:Hp} (Pv:Nat->St->Hp->Prop) (h0:Pv 0 σ H) (hl:∀ i σ H,i<=xs.length->Pv i σ H->Cz K H a xs)
  (hb:∀ (i:Nat) x σ H T,xs[i]? = some x->Pv i σ H->H T=none->g (.ref T) σ (upd H T (.tup [.int (i:Int),x])) fun σ' H'=>tb { D with nx:=Pv (i+1),ct:=Pv (i+1),bk:=D.nx } σ' H')
  (hn:∀ σ H,Pv xs.length σ H->D.nx σ H):∃ W:Nat->Nat->St->Hp->Prop,(∃ m,W 0 m σ H)/\∀ i m σ H,W i m σ H ->
   ((Yz K a).stop i H/\D.nx σ H) \/ ((Yz K a).go i H/\∃ N:St->Hp->Prop,(∀ σ H,N σ H->∃ m',m'<m/\W (i+1) m' σ H)/\∀ x H',(Yz K a).yld i H x H'->g x σ H' fun σ' H''=>tb { D with nx:=N,ct:=N,bk:=D.nx } σ' H''):=by
 refine ⟨fun i m σ H=>m=xs.length - i/\i<=xs.length/\Pv i σ H,⟨_,rfl,Nat.zero_le _,h0⟩,?_⟩
 rintro i m σ H ⟨rfl,hi,hp⟩
 by_cases hlt:i<xs.length
 ·refine .inr ⟨⟨xs,_,hl i σ H hi hp,List.getElem?_eq_getElem hlt⟩,Pv (i+1),fun σ' H' h=>⟨xs.length - (i+1),by omega,rfl,hlt,h⟩,fun v H' hv=>?_⟩
  obtain ⟨T,hT,rfl,hv⟩:=hv
  obtain ⟨x,qx,rfl⟩:=hv xs (hl i σ H hi hp)
  exact hb i x σ H T qx hp hT
 ·have e:i=xs.length:=by omega
  subst e
  exact .inl ⟨⟨xs,hl _ σ H hi hp,Nat.le_refl _⟩,hn σ H hp⟩
end L2
namespace L2
open PySem PySem.Spec PySem.Calls PyProof.Rows
structure Gm (K:PySem.W.Frag) (C:Addr):Prop where
 ga:PySem.W.findIn K (.ref C) "__getattribute__" = some (some (.builtin "BaseException.__getattribute__"))
 gt:PySem.W.findIn K (.ref C) "__getattr__" = some none
 mb:PySem.W.mroIn K C (.type "BaseException")=some true
 hd:PySem.W.hasDictIn K C=true
 ca:PySem.W.findIn K (.ref C) "__class__" = some (some (.builtin "object.__class__"))
 cg:PySem.W.specialIn K (.builtin "object.__class__") "__get__" = some (some (.builtin "getset_descriptor.__get__"))
 ct:PySem.W.takesIn K (.builtin "object.__class__")=some true
 mo:PySem.W.mroIn K C (.type "object")=some true
section
variable {prog:Program} {w:World} {A:Around} {E:Value->Shared->Prop} {s:Shared} {K:PySem.W.Frag} {x C:Addr} {ox:Obj} {od:Option Obj} {name:Str} {tk:Tok} {R:Result->Shared->Prop}
theorem Q_:builtinKind "BaseException.__getattribute__" = some .slot:=by decide +kernel
theorem PP:splitId "BaseException.__getattribute__" = some ("BaseException","__getattribute__"):=by decide +kernel
theorem Jo (X:K.In s.heap) (I:PySem.W.InstAt s.heap x ox C od) (c:Gm K C)
  (h:wpAny (model prog w) A.in1 (Builtin.«object.__getattribute__» ⟨[.ref x,.str name tk],[]⟩) (fun fin s'=>match fin with | Fin.done f=>R (.ok f) s' | Fin.again c'=>c'.quiet=true/\codeAny (model prog w) A c' R s') (fun e s'=>R (.error e) s') s) :
  codeAny (model prog w) A (.call (.builtin "BaseException.__getattribute__") ⟨[.ref x,.str name tk],[]⟩) R s:=by
 have sub:PySem.W.Looks (model prog w) s.heap (isInstance (.ref x) (.type "BaseException")) true:=I.type.andThen (PySem.W.looks_mroIn X c.mb)
 exact codeAny_call_builtin PySem.F.attrBase_ValueError.ga.plain PySem.F.entry_bexc_ga (@PySem.W.check_slot (model prog w) _ _ s "BaseException.__getattribute__" "BaseException" "__getattribute__" (.ref x) [.str name tk] [] _ Q_ PP sub (PySem.F.args_bexc_ga _ _) h)
theorem OD {v:Value} (X:K.In s.heap) (I:PySem.W.InstAt s.heap x ox C od) (c:Gm K C) (hf:PySem.W.findObj K C od name=some (.value v)) (h:R (.ok (.ret v)) s) :
  codeAny (model prog w) A (.call (.builtin "BaseException.__getattribute__") ⟨[.ref x,.str name tk],[]⟩) R s:=by
 refine Jo X I c ?_
 obtain ⟨hh,g,d,t,os⟩:=s
 have L0:=I.type (M:=model prog w)
 have L1:=PySem.W.looks_find (M:=model prog w) X I hf
 unfold Builtin.«object.__getattribute__»
 exact wpAny_bind (wpAny_pure (wpAny_bind (wpAny_pure (wpAny_bind (L0.at (wpAny_bind (L1.at (wpAny_pure h))))))))
theorem Oj (X:K.In s.heap) (I:PySem.W.InstAt s.heap x ox C od) (c:Gm K C) (h:R (.ok (.ret (.ref C))) s) :
  codeAny (model prog w) A (.call (.builtin "BaseException.__getattribute__") ⟨[.ref x,.str "__class__" tk],[]⟩) R s:=by
 have hf:PySem.W.findObj K C od "__class__" = some (.bind (.builtin "getset_descriptor.__get__") (.builtin "object.__class__")):=by
  obtain ⟨cd,hc,_⟩:=PySem.W.any_some c.hd
  unfold PySem.W.findObj
  rw [hc,Option.bind_some,c.ca,Option.bind_some]
  simp [c.cg,c.ct]
 refine Jo X I c ?_
 obtain ⟨hh,g,d,t,os⟩:=s
 have L0:=I.type (M:=model prog w)
 have L1:=PySem.W.looks_find (M:=model prog w) X I hf
 unfold Builtin.«object.__getattribute__»
 refine wpAny_bind (wpAny_pure (wpAny_bind (wpAny_pure (wpAny_bind (L0.at (wpAny_bind (L1.at ?_)))))))
 show wpAny _ _ (holding [Value.builtin "object.__class__"] (call (.builtin "getset_descriptor.__get__") [.builtin "object.__class__",.ref x,.ref C]) >>= ret) _ _ _
 exact wpAny_bind (wpAny_holding (wpAny_call (PySem.W.class_get (ox:=ox) (od:=od) X I c.mo (wpAny_pure h))))
theorem cP {fill expr:Bool} {Q:Value->Shared->Prop} {v:Value} (X:K.In s.heap) (I:PySem.W.InstAt s.heap x ox C od) (c:Gm K C) (hh:PySem.W.handedIn v=true)
  (hc:∀ (A:Around) (R:Result->Shared->Prop),R (.ok (.ret v)) s->codeAny (model prog w) A (.call (.builtin "BaseException.__getattribute__") ⟨[.ref x,.str name tk],[]⟩) R s) (h:Q v s) :
  wpAny (model prog w) A (getAttrBy (.ref x) (.str name tk) fill expr) Q E s:=by
 have L0:=I.type (M:=model prog w)
 have L1:=PySem.W.looks_findIn (M:=model prog w) X c.ga
 have L2:=PySem.W.looks_findIn (M:=model prog w) X c.gt
 have hx2:(Value.builtin "BaseException.__getattribute__" == Value.builtin "object.__getattribute__")=false:=by decide +kernel
 have hx0:(expr && onTheHeap (Value.builtin "BaseException.__getattribute__"))=false:=by cases expr <;> rfl
 obtain ⟨hp,g,d,t,os⟩:=s
 unfold getAttrBy
 refine wpAny_holding (wpAny_bind (L0.at (wpAny_bind (L1.at ?_))))
 show wpAny _ _ (if (onTheHeap (Value.ref C) && Value.builtin "BaseException.__getattribute__" == Value.builtin "object.__getattribute__")=true then _ else _) _ _ _
 rw [if_neg (by rw [hx2,Bool.and_false]; exact Bool.false_ne_true)]
 unfold getAttrByItsOwn hookBefore
 rw [if_pos (show onTheHeap (Value.ref C)=true from rfl)]
 refine wpAny_bind (L2.at (wpAny_bind (wpAny_attempt (wpAny_holding ?_))))
 unfold callGetattribute
 rw [if_neg (by rw [hx0]; exact Bool.false_ne_true)]
 unfold boundAndCalled
 refine wpAny_bind (wpAny_of_eq (PySem.F.attrBase_ValueError.ga.bind (.ref x)) ?_)
 refine wpAny_call (hc _ _ ?_)
 show wpAny _ _ (handedOut v) _ _ _
 rw [PySem.W.handedOut_of hh]
 exact wpAny_pure h
theorem bY {expr:Bool} {Q:Value->Shared->Prop} {v:Value} (X:K.In s.heap) (I:PySem.W.InstAt s.heap x ox C od) (c:Gm K C) (hf:PySem.W.findObj K C od name=some (.value v)) (hh:PySem.W.handedIn v=true) (h:Q v { s with toks:=s.toks+1 }) :
  wpAny (model prog w) A (getAttr (.ref x) name expr) Q E s:=by
 unfold getAttr
 exact wpAny_bind (wpAny_mkText (cP (s:={ s with toks:=s.toks+1 }) X I c hh (fun A R q=>OD (s:={ s with toks:=s.toks+1 }) X I c hf q) h))
theorem WK {Q:Option Value->Shared->Prop} (X:K.In s.heap) (I:PySem.W.InstAt s.heap x ox C od) (c:Gm K C) (h:Q (some (.ref C)) { s with toks:=s.toks+1 }) :
  wpAny (model prog w) A (getAttr? (.ref x) "__class__") Q E s:=by
 unfold getAttr? getAttrBy?
 exact wpAny_bind (wpAny_mkText (wpAny_bind (wpAny_attempt (cP (s:={ s with toks:=s.toks+1 }) X I c rfl (fun A R q=>Oj (s:={ s with toks:=s.toks+1 }) X I c q) (wpAny_pure h)))))
theorem QZ (c:Gm K C):PySem.W.KitX K (.ref x) (.ref C) (fun h=>PySem.W.InstAt h x ox C od) where
 ty:=fun _ _ _ I=>I.type
 it:=fun _ _ X _=>by
  obtain ⟨cdD,hcD,_⟩:=PySem.W.any_some c.hd
  unfold PySem.W.clsIn at hcD
  split at hcD
  ·rename_i c' d' cd' sl' ho
   intro A' Q' E' s' k q
   unfold isType loadHead
   exact wpAny_bind (wpAny_loadPart (k _ _ (X _ _ ho)) (wpAny_pure q))
  ·cases hcD
 ne:=fun h tp dd its n sl X htp=>by
  obtain ⟨cdD,hcD,_⟩:=PySem.W.any_some c.hd
  refine Bool.eq_false_iff.mpr fun q=>?_
  have e:C=tp:=Value.ref.inj (beq_iff_eq.mp q)
  subst e
  unfold PySem.W.clsIn at hcD
  split at hcD
  ·rename_i c' d' cd' sl' ho
   have z:=(X _ _ ho).symm.trans htp
   cases z
  ·cases hcD
 ca:=fun X I k=>WK X I c k
end
end L2
namespace L2
open PySem PySem.Spec PySem.Calls PyProof.Rows
noncomputable abbrev Pn:List Value:=[.type "ValueError",.type "Exception",.type "BaseException",.type "object"]
noncomputable def Gq (K:PySem.W.Frag) (C:Addr):Bool:=match K.lookup C with
 | some ⟨.type "type",_,.cls cd,sl⟩=>(match cd.mro,sl.toList with
  | .ref D::bm,[_,_,_,_,some (.builtin n),_]=>(D == C) && ((n == "ValueError.__new__") && ((!cd.hasDel) && PySem.W.tailIn K Pn bm))
  | _,_=>false)
 | _=>false
theorem J1 {K:PySem.W.Frag} {h:Heap} {C:Addr} (X:K.In h) (q:Gq K C=true) :
  ∃ bm N nm qn bs hdct sn sub ab col dd k0 k1 k2 k3 k5,h.get? C=some (excClassObj nm qn C N bs bm hdct sn sub ab col dd k0 k1 k2 k3 k5 "ValueError.__new__")/\OwnTail h Pn bm:=by
 unfold Gq at q
 split at q
 ·rename_i dd cd sl look
  split at q
  ·rename_i D bm k0 k1 k2 k3 n k5 e1 e2
   simp only [Bool.and_eq_true,beq_iff_eq,Bool.not_eq_true'] at q
   obtain ⟨q1,q2,q3,q4⟩:=q
   obtain ⟨nm,bs,mro,ns,qn,hd,sn,sub,ab,col,del⟩:=cd
   dsimp only at e1 q3
   subst e1 q3 q1 q2
   obtain ⟨l⟩:=sl
   simp only at e2
   subst e2
   exact ⟨bm,ns,nm,qn,bs,hd,sn,sub,ab,col,dd,k0,k1,k2,k3,k5,X _ _ look,PySem.W.tail_of_in X q4⟩
  ·cases q
 ·cases q
section
variable {prog:Program} {w:World} {A:Around} {E:Value->Shared->Prop} {K:PySem.W.Frag} {C:Addr} {h:Heap} {g:Array GenState} {d:Drawn} {t:Nat} {os:OsState}
noncomputable def newX (h:Heap) (C:Addr) (rest:List Value):Heap:=(h.push { cls:=.type "tuple",data:=.seq rest.toArray }).push { cls:=.ref C,data:=.fields #[.ref h.objs.size,.none,.none,.none,.bool false,.none] }
theorem Kv (h:Heap) (C:Addr) (rest:List Value):(newX h C rest).get? (h.objs.size+1)=some { cls:=.ref C,data:=.fields #[.ref h.objs.size,.none,.none,.none,.bool false,.none] }:=by
 unfold newX
 have:=Heap.get?_push_size (h.push { cls:=.type "tuple",data:=.seq rest.toArray }) (o:={ cls:=.ref C,data:=.fields #[.ref h.objs.size,.none,.none,.none,.bool false,.none] }) rfl
 rwa [Heap.size_push] at this
theorem Gb (h:Heap) (C:Addr) (rest:List Value):∀ b o,h.get? b=some o->(newX h C rest).get? b=some o:=fun _ _ e=>Heap.get?_push_of_some _ (Heap.get?_push_of_some _ e)
theorem JQ {rest:List Value} {init:Value} {Q:Fin->Shared->Prop} (X:K.In h) (q:Gq K C=true) (hi:PySem.W.findIn K (.ref C) "__init__" = some (some init)) (hrest:rest.length<=sizeLine)
  (hb:∀ self,PySem.W.Looks (model prog w) (newX h C rest) (bindSpecial init self) (init,[self]))
  (k:wpAny (model prog w) A (call init (.ref (h.objs.size+1)::rest)) (fun r s'=>r=.none/\Q (.done (.ret (.ref (h.objs.size+1)))) s') E ⟨newX h C rest,g,d,t,os⟩) :
  wpAny (model prog w) A (Builtin.«type.__call__» ⟨.ref C::rest,[]⟩) Q E ⟨h,g,d,t,os⟩:=by
 obtain ⟨bm,N,nm,qn,bs,hdct,sn,sub,ab,col,dd,k0,k1,k2,k3,k5,hC,T⟩:=J1 X q
 have Fn:=PySem.F.excBase_ValueError
 repeat (first | with_reducible refine wpAny_loadPart_at hC ?_ | with_reducible refine wpAny_madeBy_exc hC ?_ | wp_step)
 refine codeAny_call_builtin_code (Code.quiet_builtin _ Fn.quiet) (wpAny_check_new_subU Fn (by decide) T hC ?_)
 refine codeAny_exc_new_subU Fn (by decide) Fn T hC ?_ hrest
 show wpAny _ _ _ _ _ _
 have hget:=Kv h C rest
 have hC1:=Gb h C rest _ _ hC
 unfold newX at hget hC1
 have hcC:(Value.ref C::bm).contains (.ref C)=true:=by simp
 unfold isInstance
 repeat (first | with_reducible refine wpAny_loadPart_at hget ?_ | (with_reducible refine wpAny_isSubtype_exc hC1 ?_; rw [hcC]) | wp_step)
 show wpAny _ _ (typeLookup (.ref C) _) _ _ _
 have L:=PySem.W.looks_findIn (M:=model prog w) (h:=newX h C rest) (X.keeps (Gb h C rest)) hi
 refine L.at (wpAny_holding (wpAny_bind ((hb _).at (wpAny_bind (wpAny_mono k (fun r s' z=>?_) fun _ _ e=>e)))))
 obtain ⟨e,z⟩:=z
 subst e
 refine wpAny_pure ?_
 exact wpAny_pure z
theorem Qq {rest:List Value} {init:Value} {R:Result->Shared->Prop} (X:K.In h) (q:Gq K C=true) (hi:PySem.W.findIn K (.ref C) "__init__" = some (some init)) (hrest:rest.length<=sizeLine)
  (hb:∀ self,PySem.W.Looks (model prog w) (newX h C rest) (bindSpecial init self) (init,[self]))
  (k:∀ A',A'=A.under (.builtin "type.__call__" ⟨.ref C::rest,[]⟩)->wpAny (model prog w) A' (call init (.ref (h.objs.size+1)::rest)) (fun r s'=>r=.none/\R (.ok (.ret (.ref (h.objs.size+1)))) s') (fun e s'=>R (.error e) s') ⟨newX h C rest,g,d,t,os⟩) :
  codeAny (model prog w) A (.call (.ref C) ⟨rest,[]⟩) R ⟨h,g,d,t,os⟩:=by
 obtain ⟨bm,N,nm,qn,bs,hdct,sn,sub,ab,col,dd,k0,k1,k2,k3,k5,hC,T⟩:=J1 X q
 have f1:=tc_lookup
 have f2:=tc_bind (.ref C)
 have hT:(⟨h,g,d,t,os⟩:Shared).TypeIs (.ref C) "type":=⟨_,hC,rfl⟩
 refine codeAny_of_tree ?_
 show wpAny _ _ (callAny (.ref C) _) _ _ _
 repeat (any_goals (first | assumption | with_reducible refine wpAny_loadPart_at hC ?_ | wp_step))
 refine ⟨rfl,?_⟩
 refine codeAny_call_builtin_at (Code.quiet_builtin _ (by decide +kernel)) entry_typeCall (wpAny_check_type_call_sub hC (JQ X q hi hrest hb ?_))
 refine wpAny_mono (k _ ?_) (fun r s' z=>z) fun _ _ z=>z
 rfl
end
end L2
namespace L2
open PySem PySem.Spec PySem.Calls PyProof.Rows
noncomputable def HN (x C:Addr) (od:Option Addr):HO:=.ext fun h=>∃ (d:Data) (sl:Array (Option Value)),h.get? x=some ⟨.ref C,od,d,sl⟩/\PySem.W.notCls ⟨.ref C,od,d,sl⟩=true
noncomputable def Ri (dx:Addr) (fs:List (Str × V)):HO:=.ext fun h=>∃ mA,h.Ns1 dx mA/\∀ f,Ew (fs.lookup f) (mA f)
section
variable {P:Program} {w:World} {H H':Hp} {h:Heap} {x C dx:Addr} {od:Option Addr} {fs:List (Str × V)}
theorem Sx {d:Data} {sl:Array (Option Value)} (e:h.get? x=some ⟨.ref C,od,d,sl⟩) (n:PySem.W.notCls ⟨.ref C,od,d,sl⟩=true):Be P w H h x (HN x C od) :=
 ⟨⟨d,sl,e,n⟩,⟨_,e⟩,fun _ _ ⟨d,sl,e,n⟩ k=>⟨d,sl,k _ e,n⟩⟩
theorem V3 {mA:Str->Option Value} (n:h.Ns1 dx mA) (r:∀ f,Ew (fs.lookup f) (mA f)):Be P w H h dx (Ri dx fs) :=
 ⟨⟨mA,n,r⟩,(let ⟨o,_,_,e,_⟩:=n; ⟨o,e⟩),fun _ _ ⟨mA,⟨o,es,ep,e,c⟩,r⟩ k=>⟨mA,⟨o,es,ep,k o e,c⟩,r⟩⟩
inductive Gi (H:Hp) (x C:Addr):List (Str × V)->Prop where
 | bare (e:H x=some (HN x C none)):Gi H x C []
 | full {dx:Addr} {fs:List (Str × V)} (e:H x=some (HN x C (some dx))) (d:H dx=some (Ri dx fs)):Gi H x C fs
theorem Gi.same (i:Gi H x C fs) (s:Aj H H'):Gi H' x C fs:=by
 cases i with
 | bare e=>exact .bare (s _ _ e)
 | full e d=>exact .full (s _ _ e) (s _ _ d)
theorem Kf (hok:Dr P w H h) (i:Gi H x C fs):∃ ox od,PySem.W.InstAt h x ox C od/\∀ f v,fs.lookup f=some v->∃ o u,od=some o/\PySem.W.lookIn f o=some (some u)/\RelV v u:=by
 cases i with
 | bare e =>
  obtain ⟨⟨d,sl,e1,n⟩,_,_⟩:=(show Be P w H h x (HN x C none) from hok x _ e)
  exact ⟨_,none,⟨e1,rfl,n,trivial⟩,fun f v q=>by simp at q⟩
 | @full dx fs e d =>
  obtain ⟨⟨d',sl,e1,n⟩,_,_⟩:=(show Be P w H h x (HN x C (some dx)) from hok x _ e)
  obtain ⟨⟨mA,n2,r⟩,_,_⟩:=(show Be P w H h dx (Ri dx fs) from hok dx _ d)
  obtain ⟨o,ho,hl⟩:=Je n2
  refine ⟨_,some o,⟨e1,rfl,n,ho⟩,fun f v q=>?_⟩
  obtain ⟨u,hu,ru⟩:=Ew.some_of (v:=v) (o:=mA f) (by rw [← q]; exact r f)
  exact ⟨o,u,rfl,by rw [hl,hu],ru⟩
end
section
variable {P:Program} {w:World} {X:Cx} {pins:List (Addr × Obj)} {σ:St} {H:Hp} {s:Shared} {h':Heap} {a:Addr} {o:HO}
theorem Dr.Wo {h h':Heap} (x:Dr P w H h) (k:∀ b u,h.get? b=some u->h'.get? b=some u) (hn:H a=none) (new:Be P w (upd H a o) h' a o):Dr P w (upd H a o) h':=fun b u e=>by
 by_cases hb:b=a
 ·subst hb; rw [Ac] at e; cases e; exact new
 ·rw [Ar hb] at e
  exact (x b u e).stay (fun c v _ q=>k c v q) (fun c q=>by rw [Ar (Am q hn)]; exact q) fun c xs q=>by rw [Ar (Am q hn)]; exact q
theorem Dr.none_of {h:Heap} (x:Dr P w H h) (e:h.get? a=none):H a=none:=by
 cases q:H a with
 | none=>rfl
 | some u =>
  exfalso
  obtain ⟨o,ho⟩:∃ o,h.get? a=some o:=by
   have z:=x a u q
   cases u with
   | lst xs=>obtain ⟨_,_,_,_,e⟩:=z; exact ⟨_,e⟩
   | tup xs=>obtain ⟨_,_,_,o,e,_⟩:=z; exact ⟨_,e⟩
   | dK kvs=>obtain ⟨_,_,_,_,o,_,_,e,_⟩:=z; exact ⟨_,e⟩
   | dT kvs=>obtain ⟨_,_,_,_,o,_,_,e,_⟩:=z; exact ⟨_,e⟩
   | set S n=>obtain ⟨o,_,_,_,e,_⟩:=z; exact ⟨_,e⟩
   | ins C dx fs=>obtain ⟨_,_,_,e,_⟩:=z; exact ⟨_,e⟩
   | own y=>obtain ⟨_,e⟩:=z; exact ⟨_,e⟩
   | xd fs=>obtain ⟨_,⟨_,_,_,e,_⟩,_⟩:=z; exact ⟨_,e⟩
   | rng lo hi=>obtain ⟨_,_,_,e⟩:=z; exact ⟨_,e⟩
   | frz ob u=>obtain ⟨e,_⟩:=z; exact ⟨_,e⟩
   | tbl ps=>exact ⟨_,(show h.get? a=some _ from z)⟩
   | met f y=>exact ⟨_,(show h.get? a=some _ from z)⟩
   | ext φ=>obtain ⟨_,⟨_,e⟩,_⟩:=z; exact ⟨_,e⟩
  rw [e] at ho; cases ho
end
theorem Sw {K:PySem.W.Frag} {h:Heap} {C:Addr} (X:K.In h) (q:PySem.W.excIn K C Pn "ValueError.__new__" = true) :
  ∃ bm N nm qn bs hdct sn sub ab col dd k0 k1 k2 k3 k5 mN,h.get? C=some (excClassObj nm qn C N bs bm hdct sn sub ab col dd k0 k1 k2 k3 k5 "ValueError.__new__")/\h.Ns N mN/\mN "__init__" = none/\OwnTail h Pn bm:=by
 unfold PySem.W.excIn at q
 split at q
 ·rename_i dd cd sl ho
  split at q
  ·rename_i C' bm k0 k1 k2 k3 n k5 hm hs
   simp only [Bool.and_eq_true,beq_iff_eq,Bool.not_eq_true'] at q
   obtain ⟨⟨⟨⟨⟨rfl,rfl⟩,hdel⟩,ht⟩,hok⟩,hni⟩:=q
   obtain ⟨nm,bs,mro,ns,qn,hd,sn,sub,ab,col,del⟩:=cd
   dsimp only at hm hdel hok hni
   subst hm hdel
   have hsl:sl = #[k0,k1,k2,k3,some (.builtin "ValueError.__new__"),k5]:=by
    obtain ⟨l⟩:=sl
    simp only at hs
    rw [hs]
   subst hsl
   exact ⟨bm,ns,nm,qn,bs,hd,sn,sub,ab,col,dd,k0,k1,k2,k3,k5,_,X _ _ ho,.of_isNs (PySem.W.isNs_of_in X hok),PySem.W.nsMap_none_of_in X hok hni,PySem.W.tail_of_in X ht⟩
  ·cases q
 ·cases q
section
variable {X:Cx} {C:Addr} {x:Str} {e:Expr} {es:List Expr} {t:TA} {p pos:Pos}
end
noncomputable def V7:V->Option Value
 | .ref a=>some (.ref a)
 | .ty n=>some (.type n)
 | _=>none
theorem Lh {X:Cx}:Ex X (.builtin "isinstance") (fun xs H Q=>∃ x C fs c cv b,xs=[V.ref x,c]/\Gi H x C fs/\Gm X.K C/\V7 c=some cv/\PySem.W.kitOne X.K (.ref C) cv=some b/\Q (.bl b) H):=by
 intro pins s σ H xs us Q I r h
 obtain ⟨x,C,fs,c,cv,b,rfl,ie,xc,hc,e,q⟩:=h
 obtain ⟨u,v,rfl,ru,rv⟩:=Vals.two r
 cases ru
 have ev:v=cv:=by
  cases c with
  | ref a=>cases hc; exact rv
  | ty n=>cases hc; exact rv
  | _=>simp [V7] at hc
 subst ev
 obtain ⟨ox,od,J,_⟩:=Kf I.hok ie
 exact PySem.W.kia_one (QZ xc) I.Ey J e (fun z=>nomatch z) fun tk=>⟨.bl b,H,I.tok _,rfl,q⟩
section
variable {X:Cx} {e:Expr} {f:Str} {pos:Pos} {ta:TE}
noncomputable def Uc (K:PySem.W.Frag) (ta:TE) (f:Str):TE:=fun σ H Q=>ta σ H fun y H1=>∃ x C fs v,y=.ref x/\Gi H1 x C fs/\Gm K C/\Bx K C f/\fs.lookup f=some v/\Q v H1
theorem Tp (he:PE X e ta) (hb:attributeBase e f X.env (eval e X.env)=eval e X.env):PE X (.Attribute e f pos) (Uc X.K ta f):=by
 intro pins s σ H Q I h
 refine Nx hb (Bs (he pins s σ H _ I h) fun u s1 hq0=>?_)
 obtain ⟨y,H1,I1,ry,x,C,fs,v,ey,ie,xc,na,l,q⟩:=hq0
 subst ey
 obtain rfl:u=Value.ref x:=ry
 obtain ⟨ox,od,J,hl⟩:=Kf I1.hok ie
 obtain ⟨o,u',rfl,hu,ru⟩:=hl f v l
 exact bY I1.Ey J xc (PySem.W.findObj_own xc.hd na rfl hu) (Jf ru) ⟨v,H1,I1.tok _,ru,q⟩
end
noncomputable def Gx:List Value->List Value
 | .ref _::r=>Gx r
 | l=>l
theorem Hr (self:Value):∀ l:List Value,refuseLoop self "__setattr__" l=refuseLoop self "__setattr__" (Gx l)
 | []=>rfl
 | v::r=>by
  cases v with
  | ref c=>rw [refuseLoop_ref]; exact Hr self r
  | _=>rfl
structure Ve (K:PySem.W.Frag) (C:Addr):Prop where
 sa:PySem.W.findIn K (.ref C) "__setattr__" = some (some (.builtin "object.__setattr__"))
 mro:∃ cd,PySem.W.clsIn K C=some cd/\Gx cd.mro=Pn/\cd.hasDict=true
section
variable {prog:Program} {w:World} {A:Around} {E:Value->Shared->Prop} {s:Shared} {K:PySem.W.Frag} {x C:Addr} {name:Str} {v:Value} {R:Result->Shared->Prop} {d:Data} {sl:Array (Option Value)}
open PySem.Builtin PySem.Builtin.ObjectAttr in
theorem S8 {tk:Tok} (X:K.In s.heap) (hx:s.heap.get? x=some ⟨.ref C,none,d,sl⟩) (nc:PySem.W.notCls ⟨.ref C,none,d,sl⟩=true) (c:Gm K C) (S:Ve K C) (na:Bx K C name)
  (h:∀ h' tk',h'.Ns1 s.heap.objs.size (fun y=>if y=name then some v else none)->h'.get? x=some ⟨.ref C,some s.heap.objs.size,d,sl⟩->(∀ b o,b ≠ x->s.heap.get? b=some o->h'.get? b=some o)->R (.ok (.ret .none)) { s with heap:=h',toks:=tk' }) :
  codeAny (model prog w) A (.call (.builtin "object.__setattr__") ⟨[.ref x,.str name tk,v],[]⟩) R s:=by
 have SF:=PySem.F.store_object
 obtain ⟨cd,hc,ho,hdd⟩:=S.mro
 have I:PySem.W.InstAt s.heap x ⟨.ref C,none,d,sl⟩ C none:=⟨hx,rfl,nc,trivial⟩
 have sub:PySem.W.Looks (model prog w) s.heap (isInstance (.ref x) (.type "object")) true:=I.type.andThen (PySem.W.looks_mroIn X c.mo)
 refine codeAny_call_builtin SF.slot.plain SF.entry (@PySem.W.check_slot (model prog w) _ _ s "object.__setattr__" "object" "__setattr__" (.ref x) [.str name tk,v] [] _ SF.kind SF.split sub (SF.args (.ref x) (.str name tk) v) ?_)
 have hm:PySem.W.Looks (model prog w) s.heap (mroOf (.ref C)) cd.mro:=(PySem.W.looks_clsIn X hc).andThen .now
 have L3:PySem.W.Looks (model prog w) s.heap (storeTaker? none) none:=.now
 have na':PySem.W.findIn K (.ref C) name=some none:=na
 rw [PySem.W.osa_eq,refuse_eq]
 refine wpAny_bind (wpAny_bind (I.type.here (wpAny_bind (hm.here ?_))))
 rw [Hr,ho,PySem.F.store_ValueError.passes]
 refine wpAny_pure (wpAny_bind (I.type.here (wpAny_bind ((PySem.W.looks_findIn X na').here (wpAny_bind (L3.here ?_))))))
 show wpAny _ _ (storeInOwnDict (.ref x) (.ref C) (.str name tk) name v _) _ _ _
 refine wpAny_bind (wpAny_pure (wpAny_bind (wpAny_bind (wpAny_loadPart hx (wpAny_bind ((PySem.W.looks_clsIn X hc).here ?_))))))
 rw [hdd]
 have hx1:(s.heap.push { cls:=.type "dict",data:=.dict #[] }).get? x=some ⟨.ref C,none,d,sl⟩:=Heap.get?_push_of_some _ hx
 have hxs:x ≠ s.heap.objs.size:=Nat.ne_of_lt (Heap.lt_size hx)
 rw [if_neg (by decide)]
 dsimp only
 rw [if_neg (by simp [typeHasDict])]
 have notc:∀ c,d ≠ .cls c:=fun c z=>by subst z; cases nc
 split
 ·rename_i c
  exact absurd rfl (notc c)
 refine wpAny_bind (wpAny_alloc' ?_)
 refine wpAny_bind (wpAny_update' hx1 ?_)
 refine wpAny_pure ?_
 have hx2:((s.heap.push { cls:=.type "dict",data:=.dict #[] }).update x fun o=>{ o with dict:=some s.heap.objs.size }).get? x=some ⟨.ref C,some s.heap.objs.size,d,sl⟩ :=
  Heap.get?_update_self _ hx1 (by cases d <;> first | rfl | exact (Heap.get?_some_iff.mp hx).2)
 have hgd:((s.heap.push { cls:=.type "dict",data:=.dict #[] }).update x fun o=>{ o with dict:=some s.heap.objs.size }).get? s.heap.objs.size=some { cls:=.type "dict",data:=.dict #[] } :=
  (Heap.get?_update_ne _ _ _ _ hxs.symm).trans (Heap.get?_push_at rfl rfl)
 have hnd:((s.heap.push { cls:=.type "dict",data:=.dict #[] }).update x fun o=>{ o with dict:=some s.heap.objs.size }).Ns s.heap.objs.size (fun _=>none) :=
  ⟨_,#[],_,hgd,rfl,fun e he=>absurd he (by simp),fun _=>rfl⟩
 show wpAny _ _ (storeInDict s.heap.objs.size (.str name tk) name v) _ _ _
 unfold storeInDict newKeyGuard
 refine wpAny_bind (wpAny_pure (wpAny_bind (wpAny_nsSet1 (Heap.Ns1.of_empty hnd) fun h' hn' hs=>?_)))
 obtain ⟨oD,esD,epD,hoD,hdD,hcD⟩:=hn'.count (PySem.Within.cons name v PySem.Within.nil)
 refine wpAny_bind (wpAny_lookBehind hoD (by rw [hdD]; exact pastItsLine_dict (Nat.le_trans hcD (by rw [List.length_cons,List.length_nil,sizeLine_eq]; omega))) ?_)
 refine wpAny_pure (h h' _ hn' ((hs.2 x hxs).trans hx2) fun b o hb e=>?_)
 exact (hs.2 b (Nat.ne_of_lt (Heap.lt_size e))).trans ((Heap.get?_update_ne _ _ _ _ hb).trans (Heap.get?_push_of_some _ e))
end
section
variable {X:Cx} {pins:List (Addr × Obj)} {σ:St} {H:Hp} {s:Shared} {h':Heap} {x C dx:Addr} {f:Str} {y:V} {u:Value}
end
section
variable {X:Cx} {o value:Expr} {f:Str} {pos pos':Pos} {ta tv:TE}
end
section
variable {X:Cx} {C f:Addr} {fd:FuncData} {ps:List Str} {sp:Sp} {k:Nat} {x:Str} {e:Expr} {es:List Expr} {t:TA} {p pos:Pos}
end
theorem Ka {x:V} (h:Eu x=true):Pq x x=true:=by
 cases x with
 | non=>rfl
 | bl b=>simp [Pq]
 | int i=>simp [Pq]
 | str z=>simp [Pq]
 | _=>exact absurd (show false=true from h) Bool.false_ne_true
section
variable {X:Cx}
theorem Fv {xs:List V} {us:List Value} {j:Nat} (r:Vals xs us) (hj:j<us.length):RelV (xs.getD j .non) us[j]:=by
 have hl:=r.length
 have hx:xs[j]? = some xs[j]:=by simp [hl,hj]
 obtain ⟨u,hu,ru⟩:=r.get hx
 rw [List.getElem?_eq_getElem hj] at hu
 cases hu
 have e:xs.getD j .non=xs[j]:=by simp [hl,hj]
 rw [e]
 exact ru
end
end L2
namespace Wd
noncomputable def mk (l:List Nat):Nat:=l.foldl (fun s n=>s ||| 2 ^ n) 0
noncomputable def len (n:Nat):Nat:=if n=0 then 0 else n.log2+1
noncomputable def mem (n:Nat):List Nat:=(List.range (len n)).filter n.testBit
noncomputable def mv (n:Nat) (k:Int) (c:Nat):Nat:=(if 0<k then n * 2 ^ k.toNat else n / 2 ^ (-k).toNat) % 2 ^ c
noncomputable def stay (l:List Nat) (k:Int) (c:Nat):List Nat:=l.filter fun n=>decide (0<=(n:Int)+k) && decide ((n:Int)+k<c)
theorem S6 (l:List Nat) (n:Nat):mk (l++[n])=mk l ||| 2 ^ n:=by
 unfold mk; rw [List.foldl_append]; rfl
end Wd
namespace L2
open PySem PySem.Spec PySem.Calls PyProof.Rows
section
variable {X:Cx} {es:List Expr} {k1:Nat} {tpos:Pos}
end
theorem R_ (a b:Nat):Builtin.bitOr (a:Int) (b:Int)=((a ||| b:Nat):Int):=by
 have h1:¬ 0<=Builtin.bitNot (a:Int):=by unfold Builtin.bitNot; omega
 have h2:¬ 0<=Builtin.bitNot (b:Int):=by unfold Builtin.bitNot; omega
 have nn:∀ x:Int,Builtin.bitNot (Builtin.bitNot x)=x:=fun x=>by unfold Builtin.bitNot; omega
 unfold Builtin.bitOr
 rw [bitAnd_nn h1 h2,nn,nn,nn]
 simp
theorem QD (k:Nat):(2:Int) ^ k=((2 ^ k:Nat):Int):=by simp
end L2
namespace Wd
open PySem
noncomputable abbrev Td (xs:Array Nat):Prop:=xs.toList.Pairwise (· < ·)
theorem M7 {xs:Array Nat} (r:Td xs) {i k:Nat} (h:i<k) (hk:k<xs.size):xs.getD i 0<xs.getD k 0:=by
 have hi:i<xs.size:=Nat.lt_trans h hk
 have:=(List.pairwise_iff_getElem.mp r) i k (by simpa using hi) (by simpa using hk) h
 simpa [Array.getD,hi,hk] using this
structure Cut (xs:Array Nat) (j p:Nat):Prop where
 le:p<=xs.size
 lo:∀ i,i<p->xs.getD i 0<j
 hi:∀ i,p<=i->i<xs.size->j<=xs.getD i 0
theorem JM {xs:Array Nat} (r:Td xs) (j:Nat):∀ (fuel lo hi:Nat),hi<=xs.size->hi - lo<=fuel->lo<=hi->(∀ i,i<lo->xs.getD i 0<j)->(∀ i,hi<=i->i<xs.size->j<=xs.getD i 0)->Cut xs j (SetTable.below.go xs j fuel lo hi)
 | 0,lo,hi,h1,h2,h3,a,b=>by
  have e:lo=hi:=by omega
  subst e
  exact ⟨h1,a,b⟩
 | fuel+1,lo,hi,h1,h2,h3,a,b=>by
  unfold SetTable.below.go
  split
  ·rename_i hlt
   have hm:(lo+hi) / 2<xs.size:=by omega
   have e:xs.getD ((lo+hi) / 2) j=xs.getD ((lo+hi) / 2) 0:=by simp [Array.getD,hm]
   dsimp only
   rw [e]
   by_cases hj:xs.getD ((lo+hi) / 2) 0<j
   ·rw [if_pos hj]
    refine JM r j fuel ((lo+hi) / 2+1) hi h1 (by omega) (by omega) (fun i hi'=>?_) b
    by_cases q:i=(lo+hi) / 2
    ·rw [q]; exact hj
    ·have:=M7 r (i:=i) (k:=(lo+hi) / 2) (by omega) hm
     omega
   ·rw [if_neg hj]
    refine JM r j fuel lo ((lo+hi) / 2) (by omega) (by omega) (by omega) a fun i hi' hs=>?_
    by_cases q:i=(lo+hi) / 2
    ·rw [q]; omega
    ·have:=M7 r (i:=(lo+hi) / 2) (k:=i) (by omega) hs
     omega
  ·have e:lo=hi:=by omega
   subst e
   exact ⟨h1,a,b⟩
theorem Jd {xs:Array Nat} (r:Td xs) (j:Nat):Cut xs j (SetTable.below xs j) :=
 JM r j xs.size 0 xs.size (Nat.le_refl _) (by omega) (Nat.zero_le _) (fun i h=>absurd h (Nat.not_lt_zero _)) (fun i h1 h2=>absurd h2 (by omega))
theorem Mm {xs:Array Nat} {j:Nat} (r:Td xs) (h:xs[SetTable.below xs j]? ≠ some j):j ∉ xs.toList:=fun hm=>by
 have c:=Jd r j
 obtain ⟨i,hi,e⟩:=List.mem_iff_getElem.mp hm
 have hi':i<xs.size:=by simpa using hi
 have ei:xs.getD i 0=j:=by simpa [Array.getD,hi'] using e
 have h1:SetTable.below xs j<=i:=by
  rcases Nat.lt_or_ge i (SetTable.below xs j) with q | q
  ·have:=c.lo i q; omega
  ·exact q
 have h2:SetTable.below xs j<xs.size:=Nat.lt_of_le_of_lt h1 hi'
 have h3:=c.hi _ (Nat.le_refl _) h2
 have h4:SetTable.below xs j=i:=by
  rcases Nat.lt_or_ge (SetTable.below xs j) i with q | q
  ·have:=M7 r q hi'; omega
  ·omega
 refine h ?_
 have e':xs[i]=j:=by simpa [Array.getD,hi'] using ei
 rw [h4,Array.getElem?_eq_getElem hi',e']
theorem M4 {xs:Array Nat} {j:Nat} (r:Td xs) (h:xs[SetTable.below xs j]? ≠ some j):Td (SetTable.insertAt xs (SetTable.below xs j) j):=by
 have c:=Jd r j
 have nm:=Mm r h
 show (SetTable.insertAt xs (SetTable.below xs j) j).toList.Pairwise _
 rw [SetTable.toList_insertAt,List.pairwise_append,List.pairwise_cons]
 have lt1:∀ a∈xs.toList.take (SetTable.below xs j),a<j:=fun a ha=>by
  obtain ⟨i,hi,e⟩:=List.mem_iff_getElem.mp ha
  rw [List.length_take] at hi
  have hi2:i<xs.size:=by simp at hi; omega
  have:=c.lo i (by omega)
  simp [Array.getD,hi2] at this
  rw [List.getElem_take] at e
  rw [← e]
  simpa using this
 have lt2:∀ a∈xs.toList.drop (SetTable.below xs j),j<a:=fun a ha=>by
  obtain ⟨i,hi,e⟩:=List.mem_iff_getElem.mp ha
  rw [List.length_drop] at hi
  have hi2:SetTable.below xs j+i<xs.size:=by simp at hi; omega
  have:=c.hi (SetTable.below xs j+i) (Nat.le_add_right _ _) hi2
  simp [Array.getD,hi2] at this
  rw [List.getElem_drop] at e
  have hle:j<=a:=by rw [← e]; simpa using this
  have hne:j ≠ a:=fun z=>nm (by rw [z]; exact List.mem_of_mem_drop ha)
  omega
 exact ⟨r.sublist (List.take_sublist _ _),⟨lt2,r.sublist (List.drop_sublist _ _)⟩,fun a ha b hb=>by
  rcases List.mem_cons.mp hb with e | hb
  ·rw [e]; exact lt1 a ha
  ·have:=lt1 a ha; have:=lt2 b hb; omega⟩
theorem Ow {t:SetTable} {j:Nat} (h:∀ i,t.slot j ≠ .live i):t.place[SetTable.below t.place j]? ≠ some j:=fun e=>by
 refine h (SetTable.below t.place j) ?_
 unfold SetTable.slot
 dsimp only
 rw [e]
 simp
theorem Ge (t:SetTable) (p:SetTable.Probe):(t.advance p).dummy=p.dummy:=by
 unfold SetTable.advance
 split <;> rfl
theorem Gn {t:SetTable} {f:Nat->Int} {h:Int}:∀ (fuel:Nat) (p:SetTable.Probe) (j:Nat) (dm:Option Nat),(∀ d,p.dummy=some d->t.slot d=.dummy)->SetTable.probe.go t f h fuel p=some (.empty j dm) ->
  t.slot j=.empty/\∀ d,dm=some d->t.slot d=.dummy
 | 0,p,j,dm,hd,e=>by unfold SetTable.probe.go at e; cases e
 | fuel+1,p,j,dm,hd,e=>by
  unfold SetTable.probe.go at e
  split at e
  ·rename_i hs
   cases e
   exact ⟨hs,hd⟩
  ·rename_i hs
   refine Gn fuel _ j dm (fun d q=>?_) e
   rw [Ge] at q
   cases q
   exact hs
  ·split at e
   ·cases e
   ·refine Gn fuel _ j dm (fun d q=>?_) e
    rw [Ge] at q
    exact hd d q
theorem O8 {t:SetTable} {h:Int} {j:Nat} {d:Bool} (e:t.freeSlot h=some (j,d)):∀ i,t.slot j ≠ .live i:=by
 unfold SetTable.freeSlot at e
 split at e
 ·rename_i j' dm q
  unfold SetTable.probe at q
  obtain ⟨h1,h2⟩:=Gn _ _ _ _ (fun d hd=>by simp [SetTable.probeStart] at hd) q
  cases dm with
  | none=>cases e; intro i z; rw [show (none:Option Nat).getD j'=j' from rfl,h1] at z; cases z
  | some d' =>
   cases e
   intro i z
   rw [show (some d').getD j'=d' from rfl,h2 d' rfl] at z
   cases z
 ·cases e
structure Good (t:SetTable) (led:Bool):Prop where
 led:t.led=led
 ris:t.plain=true->Td t.place
theorem MN (led:Bool):Good (.fresh 0 0 led) led:=⟨rfl,fun _=>by simp [SetTable.fresh,Td]⟩
theorem FQ {t:SetTable} {led:Bool} (g:Good t led) (n:Nat):Good (t.standIn n) led:=⟨g.led,fun h=>by simp [SetTable.standIn] at h⟩
theorem TX {t:SetTable} {led:Bool} (g:Good t led) (n:Nat):Good (t.orStandIn n) led:=by
 unfold SetTable.orStandIn
 split
 ·exact g
 ·exact FQ g n
theorem QJ {t:SetTable} {led:Bool} (g:Good t led) (es:Array (Int × Value)) (h:Int) (x:Value):Good (layNew t es h x).2.1 led:=by
 unfold layNew
 split
 ·rename_i slot wd e
  refine TX (t:=(t.put slot).1) ⟨g.led,fun hp=>?_⟩ _
  exact M4 (g.ris hp) (Ow (O8 e))
 ·exact FQ g _
theorem Od {mask finger moves:Nat} {led plain:Bool} {hs:Array Int} {t:SetTable} {o:Array Nat} (e:SetTable.laid mask finger moves led plain hs=some (t,o)):Good t led/\t.plain=plain:=by
 unfold SetTable.laid at e
 simp only [Option.bind_eq_bind,Option.bind_eq_some_iff] at e
 obtain ⟨owner,_,e⟩:=e
 cases e
 refine ⟨⟨rfl,fun _=>?_⟩,rfl⟩
 show List.Pairwise _ ((List.map _ _).toArray).toList
 rw [List.pairwise_map,List.pairwise_filterMap]
 refine List.pairwise_lt_range.imp fun {a b} hab x hx y hy=>?_
 obtain ⟨u,_,rfl⟩:=Option.map_eq_some_iff.mp hx
 obtain ⟨v,_,rfl⟩:=Option.map_eq_some_iff.mp hy
 exact hab
theorem M6 {t:SetTable} {led:Bool} (g:Good t led) (es:Array (Int × Value)) (n:Nat):Good (relayAll t es n).2.1 led:=by
 unfold relayAll
 split
 ·rename_i t' order e
  dsimp only
  split
  ·have:=Od e
   rw [g.led] at this
   exact this.1
  ·exact FQ g _
 ·exact FQ g _
end Wd
namespace Wd
open PySem PySem.Spec PyProof.Rows
noncomputable def bD (prog:Program) (w:World) (h:Heap) (a:Addr) (led:Bool) (σ:List Int):Prop :=
 ∃ es ep t,h.get? a=some { cls:=.type "set",dict:=none,data:=.set es ep t }/\ElemsOf (intKind prog w) es.toList/\(∀ k,k∈σ ↔ ∃ e∈es.toList,(intKind prog w).is k e.2=true)/\es.size=σ.length/\σ.Nodup /\
  σ.length<scanBound/\t.fits es.size=true/\Good t led
section
variable {prog:Program} {w:World} {A:Around} {E:Value->Shared->Prop} {s:Shared} {a:Addr} {led:Bool} {σ:List Int} {k:Int} {tk:Tok}
theorem Np {h:Heap} {es es':Array (Int × Value)} {ep:Nat} {t t':SetTable} (ho:h.get? a=some { cls:=.type "set",dict:=none,data:=.set es ep t }) :
  (h.update a (Obj.putSet es' t')).get? a=some { cls:=.type "set",dict:=none,data:=.set es' (ep+1) t' } :=
 (Heap.get?_update_self (Obj.putSet es' t') ho (by rw [putSet_of es' t' rfl]; rfl)).trans (by rw [putSet_of es' t' rfl])
end
end Wd
namespace Wd
open PySem PySem.Spec PyProof.Rows
section
variable {prog:Program} {w:World} {A:Around} {R:Result->Shared->Prop} {I:Addr} {fp wr:List Addr} {G:Array GenState->Array GenState->Prop} {n:Nat} {P:Nat->Value->Prop} {St:Nat->Shared->Prop} {led:Bool}
end
section
variable {prog:Program} {w:World} {A:Around} {E:Value->Shared->Prop} {s:Shared}
noncomputable abbrev DX (w:World):Bool:=!w.params.followText "set-order"
theorem Xa (a:Value) {Q1:Value->Shared->Prop} (h:Q1 (.ref s.heap.objs.size) { s with heap:=s.heap.push { cls:=.type "set",dict:=none,data:=.set #[] 0 (.fresh 0 0 (DX w)) } }) :
  codeAny (model prog w) A (.call (.builtin "set.__new__") ⟨[.type "set",a],[]⟩) (wants Q1 E) s:=by
 refine codeAny_of_tree ?_
 show wpAny _ A.in1 (do checkBuiltinCall "set.__new__" ⟨[.type "set",a],[]⟩; again (.builtin "set.__new__" ⟨[.type "set",a],[]⟩)) _ _ s
 refine wpAny_bind (wpAny_of_eq (F.newCall_set_1 a) (wpAny_pure ⟨plainId_quiet F.plain_set_new _,codeAny_builtin F.entry_set_new ?_⟩))
 rw [Around.under_plainId F.plain_set_new _]
 unfold Builtin.«set.__new__» Builtin.Frozenset.newClass
 have hsub:=sub_set_self
 obtain ⟨hp,g,d,tk,os⟩:=s
 dsimp only
 wp_walk
 refine wpAny_askSetting (wpAny_pure ?_)
 dsimp only
 simp only [newObj]
 exact wpAny_bind (wpAny_alloc (wpAny_pure (wpAny_pure h)))
end
end Wd
namespace Wd
open PySem PySem.Spec PyProof.Rows
end Wd
namespace Wd
open PySem PySem.Spec PyProof.Rows
section
variable {M:Model} {A:Around} {E:Value->Shared->Prop}
end
inductive Way (w:World) (a:Addr) (es:Array (Int × Value)) (ep:Nat) (t:SetTable) (h:Heap):(Nat->Value)->List Value->List Addr->Prop where
 | text (hb:w.params.followText "set-order" = true):Way w a es ep t h (fun _=>rawInt 0) ((pickOrder (w.params.setOrder a ep) es).toList.map (·.2)) []
 | drawn {tp:Addr} {ps:List Nat} (hb:w.params.followText "set-order" = false) (hp:ps.Perm (List.range es.size)) (ht:∃ n,h.get? tp=some { cls:=.type "tuple",data:=.seq (ps.map fun (i:Nat)=>rawInt i).toArray n }) :
   Way w a es ep t h (fun _=>.ref tp) (ps.map fun i=>(es.getD i (0,.none)).2) [tp]
 | plain (hb:w.params.followText "set-order" = false) (hd:(!t.plain && decide (es.size > 1))=false) (hl:t.led=true) (hr:Td t.place) (hs:t.place.size=es.size) :
   Way w a es ep t h (fun i=>rawInt (if i=0 then 0 else t.place.getD (i - 1) 0+1:Nat)) (es.toList.map (·.2)) []
section
variable {prog:Program} {w:World} {A:Around} {E:Value->Shared->Prop} {s:Shared} {a it:Addr} {es:Array (Int × Value)} {ep:Nat} {t:SetTable} {first:Nat->Value} {vs:List Value} {more:List Addr}
end
end Wd
section PartSetJ
set_option maxHeartbeats 1000000
namespace Wd
open PySem PySem.Spec PyProof.Rows
section
variable {prog:Program} {w:World} {A:Around} {E:Value->Shared->Prop} {s:Shared} {a:Addr} {σ:List Int}
end
end Wd
end PartSetJ
section PartSetK
set_option maxHeartbeats 1000000
namespace Wd
open PySem PySem.Spec PyProof.Rows
section
variable {prog:Program} {w:World} {A:Around} {E:Value->Shared->Prop} {s:Shared} {a:Addr} {σ:List Int}
end
end Wd
end PartSetK
namespace L2
open PySem PySem.Spec PyProof.Rows
noncomputable def dX (P:Program) (w:World) (a:Addr) (τ:List Int):HO:=.ext fun h=>Wd.bD P w h a (Wd.DX w) τ
section
variable {X:Cx} {pins:List (Addr × Obj)} {σ:St} {H:Hp} {s:Shared} {h':Heap} {a:Addr} {o:HO}
end
end L2
namespace L2
open PySem PySem.Spec PyProof.Rows
section
variable {X:Cx}
end
section
variable {prog:Program} {w:World} {A:Around} {E:Value->Shared->Prop} {s:Shared} {r l:Addr}
end
section
variable {X:Cx} {p1 p2 q1 q2:Pos} {e:Expr} {te:TE}
end
end L2
namespace L2
open PySem PySem.Spec PyProof.Rows
noncomputable def YQ (K:PySem.W.Frag) (a:Addr) (xs:List V):It :=
 ⟨fun i H=>Cz K H a xs/\i<xs.length,fun i H x H'=>H'=H/\xs[xs.length - 1 - i]? = some x,fun i H=>Cz K H a xs/\i=xs.length⟩
theorem Qx {P:Program} {w:World} {K:PySem.W.Frag} {tg:Expr} (a it:Addr) (xs:List V):Turn P w K tg (YQ K a xs) [it] it (fun i h=>h.IsRevIter it a ((xs.length:Int) - 1 - (i:Nat))) where
 mem:=by simp
 obj:=fun i h st b hb=>by
  have e:b=it:=by simpa using hb
  subst e
  obtain ⟨o,e,c,d⟩:=st
  exact ⟨o,e,fun v z=>by rw [d] at z; cases z⟩
 keep:=fun i h h' st k=>st.at fun o e=>k it (by simp) o e
 item:=by
  intro X hP hw hK hc i pins s σ H E I hf st hg
  subst hP hw hK
  obtain ⟨hq,hlt⟩:=hg
  obtain ⟨its,rv,p,hz⟩:=I.list hq
  have hx:xs[xs.length - 1 - i]? = some (xs[xs.length - 1 - i]'(by omega)):=List.getElem?_eq_getElem (by omega)
  obtain ⟨u,hu,ru⟩:=rv.get hx
  obtain ⟨f0,f1,f2,f3,f4,f5⟩:=hf it (by simp)
  have e:(xs.length:Int) - 1 - ((i:Nat):Int)=((xs.length - 1 - i:Nat):Int):=by omega
  rw [e] at st
  refine wpAny_pyNext_rev_item st p.isList (x:=u) (by simpa using hu) fun h' st' sb=>?_
  have I1:Inv X pins σ H { s with heap:=h' }:=I.turned (t':=s.toks) (fun b o hb e=>(sb.2 b hb).trans e) f0 f1 f3 f4 f5
  have e2:((xs.length - 1 - i:Nat):Int) - 1=(xs.length:Int) - 1 - ((i+1:Nat):Int):=by omega
  rw [e2] at st'
  obtain ⟨o,eo,c,d⟩:=id st'
  exact ⟨u,rfl,KR (s:={ s with heap:=h' }) eo c d (by decide) ⟨_,H,I1,ru,⟨rfl,hx⟩,st',fun b hb=>(hf b hb).1⟩⟩
 done:=by
  intro X hP hw hK hc i pins s σ H E I hf st hg
  subst hP hw hK
  obtain ⟨hq,rfl⟩:=hg
  obtain ⟨f0,f1,f2,f3,f4,f5⟩:=hf it (by simp)
  have e:(xs.length:Int) - 1 - ((xs.length:Nat):Int) = -1:=by omega
  rw [e] at st
  exact wpAny_pyNext_rev_end (I.ok.hd hc) st fun h' eb=>⟨rfl,I.turned (t':=s.toks) (fun b o hb e=>eb b o hb e) f0 f1 f3 f4 f5⟩
 self:=fun _ _ _ _ _ st h=>wpAny_pyIter_revIter st h
section
variable {X:Cx} {tg:Expr}
noncomputable def Zq (K:PySem.W.Frag) (ta:TA):TI:=fun σ H R=>ta σ H fun vs H1=>∃ a xs,vs=[.ref a]/\Cz K H1 a xs/\R (YQ K a xs) H1
theorem Uw {l:Expr} {ta:TA} {p pos:Pos} (hg:Gl X "reversed") (hm:X.mg "reversed" = none) (ha:PA X [l] ta) (hs:starEach [l] X.env=[(false,eval l X.env)]:=by rfl):PI X tg (.Call (.Name "reversed" p) [l] [] pos) (Zq X.K ta):=by
 intro pins s σ H R I h
 refine Call_ (Gr I hg hm PyProof.Rows.boot_reversed (PyProof.Rows.callWith_type1 (Bs (ha pos pins s σ H _ I h) fun us s1 ⟨vs,H1,I1,r1,q1⟩=>?_) hs rfl))
 obtain ⟨a,xs,e,hq,q⟩:=q1
 subst e
 obtain ⟨u,rfl,ru⟩:=vals1 r1
 cases ru
 obtain ⟨its,rv,pl,hz⟩:=I1.list hq
 refine call_reversed_list pl.isList ?_
 have hit:(s1.heap.push (revObj a ((its.toArray.size:Int) - 1))).IsRevIter s1.heap.objs.size a ((its.toArray.size:Int) - 1):=⟨_,Heap.get?_push_size _ rfl,rfl,rfl⟩
 refine wpAny_pyIter_revIter (s:={ s1 with heap:=s1.heap.push (revObj a ((its.toArray.size:Int) - 1)) }) hit ?_
 refine ⟨s1.heap.objs.size,[s1.heap.objs.size],_,_,H1,rfl,I1.kept (t':=s1.toks) fun b o e=>Heap.get?_push_of_some _ e,Qx a _ xs,?_,fun b hb=>?_,q⟩
 ·have hl:=rv.length
  have e2:((its.toArray.size:Nat):Int) - 1=(xs.length:Int) - 1 - ((0:Nat):Int):=by
   rw [List.size_toArray]
   omega
  show (s1.heap.push (revObj a ((its.toArray.size:Int) - 1))).IsRevIter s1.heap.objs.size a ((xs.length:Int) - 1 - ((0:Nat):Int))
  rw [← e2]
  exact hit
 ·have e:b=s1.heap.objs.size:=by simpa using hb
  subst e
  exact I1.Jy (Nat.le_refl _) (I1.hok.fresh (Nat.le_refl _))
theorem Sh {K:PySem.W.Frag} {a:Addr} {xs:List V} {g:TG} {tb:TS} {D:Ends} {σ:St} {H:Hp} (Pv:Nat->St->Hp->Prop) (h0:Pv 0 σ H) (hl:∀ i σ H,i<=xs.length->Pv i σ H->Cz K H a xs)
  (hs:∀ i x σ H,i<xs.length->xs[xs.length - 1 - i]? = some x->Pv i σ H->g x σ H fun σ2 H2=>tb { D with nx:=Pv (i+1),ct:=Pv (i+1),bk:=D.nx } σ2 H2) (hd:∀ σ H,Pv xs.length σ H->D.nx σ H) :
  ∃ W:Nat->Nat->St->Hp->Prop,(∃ m,W 0 m σ H)/\∀ i m σ H,W i m σ H ->
   ((YQ K a xs).stop i H/\D.nx σ H) \/ ((YQ K a xs).go i H/\∃ N:St->Hp->Prop,(∀ σ' H',N σ' H'->∃ m',m'<m/\W (i+1) m' σ' H')/\∀ x H',(YQ K a xs).yld i H x H'->g x σ H' fun σ2 H2=>tb { D with nx:=N,ct:=N,bk:=D.nx } σ2 H2):=by
 refine ⟨fun i m σ H=>m=xs.length - i/\i<=xs.length/\Pv i σ H,⟨xs.length,by simp,Nat.zero_le _,h0⟩,?_⟩
 rintro i m σ H ⟨rfl,hi,p⟩
 have q:=hl i σ H hi p
 by_cases hlt:i<xs.length
 ·refine .inr ⟨⟨q,hlt⟩,Pv (i+1),fun σ' H' p'=>⟨xs.length - (i+1),by omega,rfl,by omega,p'⟩,?_⟩
  rintro x H' ⟨rfl,hx⟩
  exact hs i x σ H' hlt hx p
 ·have e:i=xs.length:=by omega
  subst e
  exact .inl ⟨⟨q,rfl⟩,hd σ H p⟩
end
end L2
namespace L2
open PySem PySem.Spec PySem.Calls PyProof.Rows
section
variable {X:Cx}
theorem range_any (bs:List Bool):((List.range bs.length).any fun i=>(bs[i]?).getD false)=bs.any id:=by
 rw [Bool.eq_iff_iff,List.any_eq_true,List.any_eq_true]
 constructor
 ·rintro ⟨i,hi,e⟩
  have hi':=List.mem_range.mp hi
  rw [List.getElem?_eq_getElem hi'] at e
  exact ⟨_,List.getElem_mem hi',e⟩
 ·rintro ⟨b,hb,e⟩
  obtain ⟨i,hi,q⟩:=List.mem_iff_getElem.mp hb
  refine ⟨i,List.mem_range.mpr hi,?_⟩
  rw [List.getElem?_eq_getElem hi,q]
  exact e
theorem JF (hc:X.calm=true):Ex X (.builtin "any") (fun xs H Q=>∃ (p:Addr) (bs:List Bool),xs=[V.ref p]/\Cz X.K H p (bs.map V.bl)/\Q (.bl (bs.any id)) H):=by
 intro pins s σ H xs us Q I r h
 obtain ⟨p,bs,rfl,hp,q⟩:=h
 obtain ⟨u,rfl,ru⟩:=vals1 r
 cases ru
 obtain ⟨its,rv,pl,hz⟩:=I.list hp
 have hlen:bs.length=its.length:=by have:=rv.length; rw [List.length_map] at this; exact this
 have hlt:p<s.heap.objs.size:=by obtain ⟨_,e,_⟩:=pl.isList; exact Heap.lt_size e
 refine call_any_walk (wpAny_pyIter_list pl.isList ?_)
 refine ⟨s.heap.objs.size,[s.heap.objs.size,p],[s.heap.objs.size],its.toArray.size,_,_,fun i=>(bs[i]?).getD false,rfl,Walks.list (A:=X.A.in1) (I.ok.hd hc) _ p (Nat.ne_of_lt hlt) its.toArray,
  ⟨⟨_,Heap.get?_push_size _ rfl,rfl,rfl⟩,pl.isList.push _⟩,fun i v s' Q' E' hP hQ=>?_,fun h' tk hk=>?_⟩
 ·have hP':its[i]? = some v:=by simpa using hP
  have hi:i<its.length:=(List.getElem?_eq_some_iff.mp hP').1
  have hb:bs[i]? = some bs[i]:=by simp [hlen,hi]
  obtain ⟨u,hu,ru⟩:=rv.get (i:=i) (x:=.bl bs[i]) (by rw [List.getElem?_map,hb]; rfl)
  rw [hP'] at hu
  cases hu
  cases ru
  dsimp only at hQ
  rw [hb] at hQ
  exact wpAny_truthy_bool hQ
 ·have e:((List.range its.toArray.size).any fun i=>(bs[i]?).getD false)=bs.any id:=by rw [List.size_toArray,← hlen]; exact range_any bs
  rw [e]
  refine ⟨.bl (bs.any id),H,I.kept (t':=tk) fun b o eb=>hk b o (fun hm=>?_) (Heap.get?_push_of_some _ eb),rfl,q⟩
  rw [List.mem_singleton.mp hm] at eb
  exact Nat.lt_irrefl _ (Heap.lt_size eb)
theorem Fy (ns:List Int):∀ j,j<=ns.length->preSum (fun i=>(ns[i]?).getD 0) j=(ns.take j).sum
 | 0,_=>rfl
 | j+1,h=>by
  have ih:=Fy ns j (by omega)
  show preSum _ j+(ns[j]?).getD 0=_
  rw [ih,List.take_add_one,List.getElem?_eq_getElem (by omega),List.sum_append]
  simp
theorem Qz (M:Int):∀ ns:List Int,(∀ n∈ns,0<=n/\n<=M)->0<=ns.sum/\ns.sum<=ns.length * M
 | [],_=>by simp
 | n::r,h=>by
  have h1:=h n (List.mem_cons_self ..)
  have h2:=Qz M r fun x hx=>h x (List.mem_cons_of_mem _ hx)
  have e:((n::r).length:Int) * M=r.length * M+M:=by rw [List.length_cons]; push_cast; rw [Int.add_mul,Int.one_mul]
  rw [e,List.sum_cons]
  omega
theorem Qg (hc:X.calm=true):Ex X (.builtin "sum") (fun xs H Q=>∃ (p:Addr) (ns:List Int),xs=[V.ref p]/\Cz X.K H p (ns.map V.int)/\(∀ n∈ns,0<=n/\n<=100000)/\ns.length<=1000/\Q (.int ns.sum) H):=by
 intro pins s σ H xs us Q I r h
 obtain ⟨p,ns,rfl,hp,hb,hl,q⟩:=h
 obtain ⟨u,rfl,ru⟩:=vals1 r
 cases ru
 obtain ⟨its,rv,pl,hz⟩:=I.list hp
 have hlen:ns.length=its.length:=by have:=rv.length; rw [List.length_map] at this; exact this
 have hlt:p<s.heap.objs.size:=by obtain ⟨_,e,_⟩:=pl.isList; exact Heap.lt_size e
 refine call_sum_walk (wpAny_pyIter_list pl.isList ?_)
 refine ⟨s.heap.objs.size,[s.heap.objs.size,p],[s.heap.objs.size],its.toArray.size,_,_,fun i=>(ns[i]?).getD 0,rfl,Walks.list (A:=X.A.in1) (I.ok.hd hc) _ p (Nat.ne_of_lt hlt) its.toArray,
  ⟨⟨_,Heap.get?_push_size _ rfl,rfl,rfl⟩,pl.isList.push _⟩,fun b hb=>?_,fun i v hP=>?_,fun j hj=>?_,fun h' tk t' hk=>?_⟩
 ·rw [Heap.size_push]
  rcases List.mem_cons.mp hb with rfl | hb
  ·exact Nat.lt_succ_self _
  ·rw [List.mem_singleton.mp hb]
   exact Nat.lt_succ_of_lt hlt
 ·have hP':its[i]? = some v:=by simpa using hP
  have hi:i<its.length:=(List.getElem?_eq_some_iff.mp hP').1
  have hb:ns[i]? = some ns[i]:=by simp [hlen,hi]
  obtain ⟨u,hu,ru⟩:=rv.get (i:=i) (x:=.int ns[i]) (by rw [List.getElem?_map,hb]; rfl)
  rw [hP'] at hu
  cases hu
  obtain ⟨t,rfl⟩:=ru
  exact ⟨t,by dsimp only; rw [hb]; rfl⟩
 ·have hj':j<ns.length:=by rw [hlen]; simpa using hj
  rw [Fy ns (j+1) (by omega)]
  have h1:=hb ns[j] (List.getElem_mem hj')
  have h2:=Qz 100000 (ns.take (j+1)) fun n hn=>hb n (List.mem_of_mem_take hn)
  have h3:(ns.take (j+1)).length<=1000:=by rw [List.length_take]; omega
  unfold InLong
  dsimp only
  rw [List.getElem?_eq_getElem hj']
  rw [Option.getD_some]
  refine ⟨⟨?_,?_⟩,⟨?_,?_⟩⟩ <;> omega
 ·have e:preSum (fun i=>(ns[i]?).getD 0) its.toArray.size=ns.sum:=by rw [List.size_toArray,← hlen,Fy ns _ (Nat.le_refl _),List.take_length]
  rw [e]
  refine ⟨.int ns.sum,H,I.kept (t':=tk) fun b o eb=>hk b o (fun hm=>?_) (Heap.get?_push_of_some _ eb),⟨_,rfl⟩,q⟩
  rw [List.mem_singleton.mp hm] at eb
  exact Nat.lt_irrefl _ (Heap.lt_size eb)
structure KDict (K:PySem.W.Frag) (P:Params) (a:Addr):Prop where
 is:∃ es n,K.lookup a=some ⟨.type "dict",none,.dict es n,#[]⟩/\PySem.W.KeysLit P es.toList
 lo:(a == sysModules)=false
noncomputable def Xc (K:PySem.W.Frag) (P:Params) (td ty:TE):TE:=fun σ H Q=>td σ H fun x H1=>ty σ H1 fun y H2=>∃ a z v u,x=.ref a/\y=.str z/\KDict K P a/\PySem.W.nsIn K a z=some (some u)/\RelV v u/\Q v H2
noncomputable def W8 (K:PySem.W.Frag) (P:Params) (neg:Bool) (ty td:TE):TE:=fun σ H Q=>ty σ H fun y H1=>td σ H1 fun x H2=>∃ a z r,x=.ref a/\y=.str z/\KDict K P a/\PySem.W.nsIn K a z=some r/\Q (.bl (if neg then !r.isSome else r.isSome)) H2
variable {o i:Expr} {pos:Pos} {td ty:TE}
theorem KJ (ho:PE X o td) (hi:PE X i ty) (hs:Vy i):PE X (.Subscript o i pos) (Xc X.K X.w.params td ty):=by
 intro pins s σ H Q I h
 refine Ng PySem.F.slot_dict_getitem.lookup hs (Bs (ho pins s σ H _ I h) fun u s1 ⟨x,H1,I1,rx,q1⟩=>Bs (hi pins s1 σ H1 _ I1 q1) fun iv s2 hq0=>?_)
 obtain ⟨y,H2,I2,ry,a,z,v,w,ex,ey,kd,hw,rw',q2⟩:=hq0
 subst ex ey
 cases rx
 obtain ⟨t,rfl⟩:=ry
 obtain ⟨⟨es,n,hl,hk⟩,lo⟩:=kd
 have hm:=PySem.W.mapOf_K (prog:=X.prog) I2.Ey hl hk
 exact ⟨hm.typeIs,wpAny_getItem_of (strKind_is X.prog X.w z t) hm (PySem.W.find_K hl hw) ⟨v,H2,I2.tok _,rw',q2⟩⟩
theorem Qm (hi:PE X i ty) (ho:PE X o td):PC X .In i o (W8 X.K X.w.params false ty td):=by
 intro pins s σ H Q I h
 refine Bs (hi pins s σ H _ I h) fun iv s1 ⟨y,H1,I1,ry,q1⟩=>Bs (ho pins s1 σ H1 _ I1 q1) fun u s2 hq0=>?_
 obtain ⟨x,H2,I2,rx,a,z,r,ex,ey,kd,hw,q2⟩:=hq0
 subst ex ey
 cases rx
 obtain ⟨t,rfl⟩:=ry
 obtain ⟨⟨es,n,hl,hk⟩,lo⟩:=kd
 refine wpAny_in_of (strKind_is X.prog X.w z t) lo (PySem.W.mapOf_K (prog:=X.prog) I2.Ey hl hk) ?_
 rw [PySem.W.find_K hl hw]
 exact ⟨.bl r.isSome,H2,I2.tok _,rfl,q2⟩
theorem O6 (hi:PE X i ty) (ho:PE X o td):PC X .NotIn i o (W8 X.K X.w.params true ty td):=by
 intro pins s σ H Q I h
 refine Bs (hi pins s σ H _ I h) fun iv s1 ⟨y,H1,I1,ry,q1⟩=>Bs (ho pins s1 σ H1 _ I1 q1) fun u s2 hq0=>?_
 obtain ⟨x,H2,I2,rx,a,z,r,ex,ey,kd,hw,q2⟩:=hq0
 subst ex ey
 cases rx
 obtain ⟨t,rfl⟩:=ry
 obtain ⟨⟨es,n,hl,hk⟩,lo⟩:=kd
 refine wpAny_notIn_of (strKind_is X.prog X.w z t) lo (PySem.W.mapOf_K (prog:=X.prog) I2.Ey hl hk) ?_
 rw [PySem.W.find_K hl hw]
 exact ⟨.bl (!r.isSome),H2,I2.tok _,rfl,q2⟩
end
section
variable {X:Cx} {e st:Expr} {lo hi:Option Expr} {te ts:TE} {tl th:TO} {p2 pos:Pos}
end
end L2
namespace Og
open PySem L2
theorem BK {X:Cx} {K:PySem.W.Frag} (h:X.K=K):WX X (Yx K):=h ▸ Va
theorem P_ {X:Cx} {K:PySem.W.Frag} (h:X.K=K):WX X (Yb K):=h ▸ GK
theorem JK {X:Cx} {K:PySem.W.Frag} (h:X.K=K):Gu X (compareOp .In) (dF K false):=h ▸ Pb
structure R where
 w:Str
 nm:Str
 rest:List V
noncomputable abbrev R.v (r:R):List V:=.str r.w :: .str r.nm::r.rest
noncomputable def isNm (z:Str):Prop:=1<=z.length/\z.length<=8/\∀ c∈z.cps.toList,97<=c/\c<=122
noncomputable def Rows (H:Hp) (ρ:V->R) (vs:List V):Prop:=∀ v∈vs,TupAt H (ρ v).v v
theorem Rows.mono {H H':Hp} {ρ:V->R} {vs:List V} (s:Aj H H') (h:Rows H ρ vs):Rows H' ρ vs:=fun v hv=>(h v hv).mono s
theorem Rows.sub {H:Hp} {ρ:V->R} {vs us:List V} (h:Rows H ρ vs) (hs:∀ v∈us,v∈vs):Rows H ρ us:=fun v hv=>h v (hs v hv)
noncomputable abbrev pw (ρ:V->R) (w:Str) (v:V):Bool:=decide (V.str (ρ v).w=V.str w)
noncomputable abbrev pn (ρ:V->R) (t:Str) (v:V):Bool:=decide (V.str (ρ v).nm=V.str t)
noncomputable def Q9 (ρ:V->R) (vs:List V) (w t:Str):Bool:=(vs.filter (pw ρ w)).any (pn ρ t)
noncomputable def KTup (K:PySem.W.Frag) (a:Addr) (xs:List V):Prop:=∃ (o:Obj) (its:Array Value) (n:Nat),K.lookup a=some o/\o.cls=.type "tuple" /\ o.data=.seq its n/\its.size<=sizeLine/\Vals xs its.toList
theorem KTup.sq {K:PySem.W.Frag} {a:Addr} {xs:List V} (h:KTup K a xs) (H:Hp):Fo K H a xs:=.inr h
noncomputable abbrev named:List Str:=["board","rank","stop","coupler","mute"]
noncomputable def Em (K:PySem.W.Frag) (aB:Addr) (ρ:V->R) (vs:List V) (x:V) (part:Str):Prop :=
 (∃ (i lo hi:Int) (b:Addr),x=.int i/\PySem.W.nsIn K aB part=some (some (.ref b))/\KTup K b [.int lo,.int hi]/\lo<=i/\i<=hi) \/
 (PySem.W.nsIn K aB part=some none/\part = "new" /\ ∃ t,x=.str t/\isNm t/\∀ w∈named,Q9 ρ vs w t=false) \/
 (PySem.W.nsIn K aB part=some none/\¬ part = "new" /\ ∃ t,x=.str t/\isNm t/\Q9 ρ vs part t=true)
structure Jm (K:PySem.W.Frag) (aB aP aM:Addr) (ρ:V->R) (vs:List V) (r:R):Prop where
 ns:¬ r.w = "step"
 nl:¬ r.w = "line"
 parts:∃ (ap:Addr) (ps:List Str),PySem.W.nsIn K aP r.w=some (some (.ref ap))/\KTup K ap (ps.map V.str)/\(V.str r.nm::r.rest).length=ps.length/\ps.length<=10 /\
  ∀ (i:Nat) x y,(V.str r.nm::r.rest)[i]? = some x->ps[i]? = some y->Em K aB ρ vs x y
 room:∃ (m:Int) (t:Tok),PySem.W.nsIn K aM r.w=some (some (.int m t))/\(((vs.filter (pw ρ r.w)).length:Nat):Int)<m
noncomputable def letters:Str:="abcdefghijklmnopqrstuvwxyz"
noncomputable abbrev Yr (y:Str) (c:Nat):Bool:=!(Builtin.Str.occurrences y ⟨#[c]⟩ 0 y.length 1).isEmpty
theorem Su:∀ c<128,Yr letters c=decide (97<=c/\c<=122):=by decide +kernel
theorem Ak {H:Hp} {p:Addr} {o:HO} (h:H p=none):Aj H (upd H p o):=fun b u e=>by rw [Ar (Am e h)]; exact e
theorem Ht {H:Hp} {p:Addr} {o:HO} (h:H p=none):∃ H',upd H p o=H'/\Aj H H'/\H' p=some o:=⟨_,rfl,Ak h,Ac⟩
theorem Ck {n:Nat} (h:n<=1000):n<=sizeLine:=Nat.le_of_lt (BJ h)
theorem ty_int {K:PySem.W.Frag}:PySem.W.kitOne K (.type "int") (.type "int")=some true:=by kernel_rfl
theorem Uk {K:PySem.W.Frag}:PySem.W.kitOne K (.type "int") (.type "bool")=some false:=by kernel_rfl
theorem NK {K:PySem.W.Frag}:PySem.W.kitOne K (.type "list") (.type "list")=some true:=by kernel_rfl
theorem XC {K:PySem.W.Frag}:PySem.W.kitOne K (.type "tuple") (.type "tuple")=some true:=by kernel_rfl
theorem Ub {K:PySem.W.Frag}:PySem.W.kitOne K (.type "str") (.type "str")=some true:=by kernel_rfl
theorem KN (vs:List V) (n:Nat) (h:n<=vs.length):Ds vs none (some (n:Int))=vs.take n:=by
 unfold Ds
 have e1:HT.DG vs.length 0 none=0:=rfl
 have e2:HT.DG vs.length vs.length (some (n:Int))=n:=by
  rw [HT.GZ]
  omega
 rw [e1,e2]
 simp
theorem Gj {α:Type} (p:α->Bool) (l:List α):(l.filter p).length<=l.length:=List.length_filter_le _ _
noncomputable abbrev bV (b:Str × Nat):List V:=[.str b.1,.int (b.2:Nat)]
noncomputable abbrev Dy (b:Str × Nat):R:=⟨"board",b.1,[.int (b.2:Nat)]⟩
noncomputable abbrev qV (q:Nat × Nat):List V:=[.int (q.1:Nat),.int (q.2:Nat)]
noncomputable def J6 (bs:List (Str × Nat)):List (Nat × Nat):=bs.zipIdx.flatMap fun p=>(List.range p.1.2).map fun e=>(p.2,e)
theorem Qn (bs:List (Str × Nat)) (b:Str × Nat):J6 (bs++[b])=J6 bs++(List.range b.2).map fun e=>(bs.length,e):=by
 unfold J6
 rw [List.zipIdx_append]
 simp
theorem Kl {bs:List (Str × Nat)} {i:Nat} {b:Str × Nat} (h:bs[i]? = some b):J6 (bs.take (i+1))=J6 (bs.take i)++(List.range b.2).map fun e=>(i,e):=by
 have hi:i<bs.length:=(List.getElem?_eq_some_iff.mp h).1
 rw [List.take_add_one,h]
 show J6 (bs.take i++[b])=_
 rw [Qn,List.length_take,Nat.min_eq_left (by omega)]
theorem Rt (bs:List (Str × Nat)) (M:Nat):(∀ b∈bs,b.2<=M)->(J6 bs).length<=bs.length * M:=by
 intro h
 have key:∀ i,i<=bs.length->(J6 (bs.take i)).length<=i * M:=by
  intro i
  induction i with
  | zero=>intro _; simp [J6]
  | succ i ih =>
   intro hi
   have hlt:i<bs.length:=by omega
   rw [Kl (List.getElem?_eq_getElem hlt),List.length_append,List.length_map,List.length_range]
   have h1:=ih (by omega)
   have h2:=h bs[i] (List.getElem_mem hlt)
   have:(i+1) * M=i * M+M:=by rw [Nat.add_mul,Nat.one_mul]
   omega
 have:=key bs.length (Nat.le_refl _)
 rw [List.take_length] at this
 exact this
theorem EY {α β:Type} {F:α->β->Prop} {l:List α} {vs:List β} (h:Paired F l vs):∀ {v},v∈vs->∃ a∈l,F a v:=by
 induction h with
 | nil=>intro v hv; cases hv
 | cons a b ih =>
  intro v hv
  rcases List.mem_cons.mp hv with rfl | hv
  ·exact ⟨_,List.mem_cons_self ..,a⟩
  ·obtain ⟨x,hx,q⟩:=ih hv
   exact ⟨x,List.mem_cons_of_mem _ hx,q⟩
theorem Ip {α β:Type} {F:α->β->Prop} {l:List α} {vs:List β} (h:Paired F l vs):∀ {i:Nat} {a},l[i]? = some a->∃ v,vs[i]? = some v/\F a v:=by
 induction h with
 | nil=>intro i a ha; simp at ha
 | cons x y ih =>
  intro i a ha
  cases i with
  | zero =>
   simp at ha
   subst ha
   exact ⟨_,rfl,x⟩
  | succ i=>exact ih (by simpa using ha)
theorem K9 {α β:Type} {F:α->β->Prop} {l:List α} {vs:List β} (h:Paired F l vs):∀ {i:Nat} {v},vs[i]? = some v->∃ a,l[i]? = some a/\F a v:=by
 induction h with
 | nil=>intro i a ha; simp at ha
 | cons x y ih =>
  intro i a ha
  cases i with
  | zero =>
   simp at ha
   subst ha
   exact ⟨_,rfl,x⟩
  | succ i=>exact ih (by simpa using ha)
theorem Kq {α β:Type} {F:α->β->Prop} {l:List α} {vs:List β} (h:Paired F l vs):∀ n:Nat,Paired F (l.take n) (vs.take n):=by
 induction h with
 | nil=>intro n; simp; exact .nil
 | cons x y ih =>
  intro n
  cases n with
  | zero=>exact .nil
  | succ n=>exact .cons x (ih n)
theorem By {α β:Type} {F:α->β->Prop} {l l':List α} {vs vs':List β} (h:Paired F l vs) (h':Paired F l' vs'):Paired F (l++l') (vs++vs'):=by
 induction h with
 | nil=>exact h'
 | cons x y ih=>exact .cons x ih
theorem Bl {α β γ:Type} {F:γ->β->Prop} (g:α->γ) {l:List α} {vs:List β} (h:Paired (fun a v=>F (g a) v) l vs):Paired F (l.map g) vs:=by
 induction h with
 | nil=>exact .nil
 | cons x y ih=>exact .cons x ih
theorem Es {α β γ:Type} {F:γ->β->Prop} (g:α->γ):∀ {l:List α} {vs:List β},Paired F (l.map g) vs->Paired (fun a v=>F (g a) v) l vs
 | [],_,h=>by cases h; exact .nil
 | a::l,_,h=>by
  cases h with
  | cons x y=>exact .cons x (Es g y)
noncomputable def Rv (H:Hp) (k:Nat):V->V
 | .ref T=>match H T with
  | some (.tup xs)=>xs.getD k .non
  | _=>.non
 | _=>.non
theorem J7 {H:Hp} {zs:List V} {v:V} (h:TupAt H zs v) (k:Nat):Rv H k v=zs.getD k .non:=by
 obtain ⟨T,rfl,e⟩:=h
 show (match H T with | some (.tup xs)=>xs.getD k V.non | _=>V.non)=_
 rw [e]
theorem NP {α:Type} {H:Hp} {g:α->List V} (k:Nat) {l:List α} {vs:List V} (h:Paired (fun a v=>TupAt H (g a) v) l vs):vs.map (Rv H k)=l.map fun a=>(g a).getD k .non:=by
 induction h with
 | nil=>rfl
 | cons x y ih=>rw [List.map_cons,List.map_cons,ih,J7 x]
noncomputable def SX (x:Addr) (H H':Hp):Prop:=∀ b o,H b=some o->b ≠ x->H' b=some o
theorem SX.trans {x:Addr} {H H1 H2:Hp} (a:SX x H H1) (b:SX x H1 H2):SX x H H2:=fun c o h n=>b c o (a c o h n) n
theorem SX.refl {x:Addr} {H:Hp}:SX x H H:=fun _ _ h _=>h
theorem SX.of {x:Addr} {H H':Hp} (s:Aj H H'):SX x H H':=fun b o h _=>s b o h
theorem SX.up {x:Addr} {H:Hp} {o:HO}:SX x H (upd H x o):=fun b u h n=>by rw [Ar n]; exact h
theorem SX.tup {x:Addr} {H H':Hp} {zs:List V} {y:V} {C dx:Addr} {fs:List (Str × V)} (s:SX x H H') (hx:H x=some (.ins C dx fs)) (h:TupAt H zs y):TupAt H' zs y:=by
 obtain ⟨T,e,q⟩:=h
 exact ⟨T,e,s _ _ q fun z=>by rw [z,hx] at q; cases q⟩
theorem SX.pair {α:Type} {x:Addr} {H H':Hp} {f:α->List V} {l:List α} {vs:List V} {C dx:Addr} {fs:List (Str × V)} (s:SX x H H') (hx:H x=some (.ins C dx fs)) (h:Paired (fun a y=>TupAt H (f a) y) l vs):Paired (fun a y=>TupAt H' (f a) y) l vs:=Paired.JP h fun _ _ q=>s.tup hx q
theorem SX.lst {x a:Addr} {H H':Hp} {xs:List V} {C dx:Addr} {fs:List (Str × V)} (s:SX x H H') (hx:H x=some (.ins C dx fs)) (h:H a=some (.lst xs)):H' a=some (.lst xs):=s _ _ h fun z=>by rw [z,hx] at h; cases h
theorem SX.dk {x a:Addr} {H H':Hp} {kvs:List (Key × V)} {C dx:Addr} {fs:List (Str × V)} (s:SX x H H') (hx:H x=some (.ins C dx fs)) (h:H a=some (.dK kvs)):H' a=some (.dK kvs):=s _ _ h fun z=>by rw [z,hx] at h; cases h
noncomputable abbrev meths:List Str:=["ranks","pipe_count","pipe","rank_of","board_of_knob","boards","key_count","key","board_of","coupler","knobs","knob_number","board_number","stop","mute","steps","rows"]
structure Ky (C:Addr) (H:Hp) (x:Addr) (bs:List (Str × Nat)) (ks:List R):Prop where
 ob:∃ (dx:Addr) (fs:List (Str × V)) (bl bn kp kr:Addr) (bvs pvs uvs:List V) (kvs:List (Key × V)),H x=some (.ins C dx fs)/\fs.lookup ("board_list" : Str)=some (.ref bl)/\fs.lookup ("board_numbers" : Str)=some (.ref bn)/\fs.lookup ("key_places" : Str)=some (.ref kp)/\fs.lookup ("knob_rows" : Str)=some (.ref kr) /\
  (∀ m∈meths,fs.lookup m=none)/\H bl=some (.lst bvs)/\Paired (fun b y=>TupAt H (bV b) y) bs bvs/\H bn=some (.dK kvs)/\(∀ (i:Nat) b,bs[i]? = some b->CP kvs (Sum.inr b.1)=some (.int (i:Nat))) /\
  H kp=some (.lst pvs)/\Paired (fun q y=>TupAt H (qV q) y) (J6 bs) pvs/\H kr=some (.lst uvs)/\Paired (fun (r:R) y=>TupAt H r.v y) ks uvs
 nb:bs.length<=5
 sz:∀ b∈bs,b.2<=61
 nk:ks.length<=200
theorem Ky.mono {C:Addr} {H H':Hp} {x:Addr} {bs:List (Str × Nat)} {ks:List R} (s:Aj H H') (h:Ky C H x bs ks):Ky C H' x bs ks:=by
 obtain ⟨⟨dx,fs,bl,bn,kp,kr,bvs,pvs,uvs,kvs,h1,l1,l2,l3,l4,lm,h2,h3,h4,h5,h6,h7,h8,h9⟩,a,b,c⟩:=h
 exact ⟨⟨dx,fs,bl,bn,kp,kr,bvs,pvs,uvs,kvs,s _ _ h1,l1,l2,l3,l4,lm,s _ _ h2,Al s h3,s _ _ h4,h5,s _ _ h6,Al s h7,s _ _ h8,Al s h9⟩,a,b,c⟩
end Og
namespace Og
open PySem L2 PyProof.Rows
inductive Kb where
 | cp (i j:Nat) (s:Int)
 | pl (w:Str) (i:Nat)
noncomputable def Kb.w:Kb->Str
 | .cp _ _ _=>"coupler"
 | .pl w _=>w
noncomputable def Kb.v:Kb->List V
 | .cp i j s=>[.str "coupler",.int (i:Nat),.int (j:Nat),.int s]
 | .pl w i=>[.str w,.int (i:Nat)]
noncomputable def Kb.ok (n:Nat):Kb->Prop
 | .cp i j s=>i<n/\j<n /\ -60<=s/\s<=60
 | .pl w i=>i<n/\(w = "mute" \/ w = "stop")
noncomputable def Dq (w:Str):Nat:=if w = "coupler" then 12 else if w = "mute" then 5 else 24
structure KF (K:PySem.W.Frag) (aB aP aM:Addr):Prop where
 pB:∃ a,PySem.W.nsIn K aP "board" = some (some (.ref a))/\KTup K a (["new","keys"].map fun s:String=>V.str s)
 pS:∃ a,PySem.W.nsIn K aP "stop" = some (some (.ref a))/\KTup K a (["new","board"].map fun s:String=>V.str s)
 pM:∃ a,PySem.W.nsIn K aP "mute" = some (some (.ref a))/\KTup K a (["new","board"].map fun s:String=>V.str s)
 pC:∃ a,PySem.W.nsIn K aP "coupler" = some (some (.ref a))/\KTup K a (["new","board","board","leap"].map fun s:String=>V.str s)
 bK:∃ a,PySem.W.nsIn K aB "keys" = some (some (.ref a))/\KTup K a [.int 1,.int 61]
 bL:∃ a,PySem.W.nsIn K aB "leap" = some (some (.ref a))/\KTup K a [.int (-60),.int 60]
 bN:PySem.W.nsIn K aB "new" = some none
 bB:PySem.W.nsIn K aB "board" = some none
 mB:∃ t,PySem.W.nsIn K aM "board" = some (some (.int 5 t))
 mS:∃ t,PySem.W.nsIn K aM "stop" = some (some (.int 24 t))
 mC:∃ t,PySem.W.nsIn K aM "coupler" = some (some (.int 12 t))
 mM:∃ t,PySem.W.nsIn K aM "mute" = some (some (.int 5 t))
noncomputable def HW (H:Hp):V->R
 | .ref T=>match H T with
  | some (.tup (.str w :: .str n::r))=>⟨w,n,r⟩
  | _=>⟨"","",[]⟩
 | _=>⟨"","",[]⟩
theorem Ib {H:Hp} {r:R} {v:V} (h:TupAt H r.v v):HW H v=r:=by
 obtain ⟨T,rfl,e⟩:=h
 show (match H T with | some (.tup (.str w :: .str n::r))=>(⟨w,n,r⟩:R) | _=>⟨"","",[]⟩)=r
 rw [e]
theorem Hz {H:Hp} {rs:List R} {vs:List V} (h:Paired (fun (r:R) v=>TupAt H r.v v) rs vs):vs.map (HW H)=rs:=by
 induction h with
 | nil=>rfl
 | cons x y ih=>rw [List.map_cons,ih,Ib x]
theorem Bf (f:Str) (v:V):∀ l:List (Str × V),(BR f v l).length<=l.length+1
 | []=>Nat.le_refl _
 | p::r=>by
  unfold BR
  split
  ·simp
  ·have:=Bf f v r
   simp only [List.length_cons]
   omega
noncomputable abbrev Gd (s:Str):Bool:=inV (.str s) [.str "stop",.str "coupler",.str "mute"]
structure dw (K:PySem.W.Frag) (aB aP aM:Addr) (ρ:V->R) (us:List V) (bs:List (Str × Nat)) (ks:List R):Prop where
 kinds:∀ v∈us,(ρ v).w = "board" \/ (ρ v).w = "stop" \/ (ρ v).w = "coupler" \/ (ρ v).w = "mute"
 eb:(us.filter (pw ρ "board")).map ρ=bs.map Dy
 ek:(us.filter (fun v=>Gd (ρ v).w)).map ρ=ks
 b0:1<=bs.length
 b5:bs.length<=5
 sz:∀ b∈bs,b.2<=61
 nk:ks.length<=100
 nb:(bs.map (·.1)).Nodup
 nn:(ks.map (·.nm)).Nodup
 len:us.length<=105
 ok:∀ (i:Nat) v,us[i]? = some v->Jm K aB aP aM ρ (us.take i) (ρ v)
noncomputable def Do (ρ:V->R) (vs:List V):List (Str × Str):=vs.map fun v=>((ρ v).w,(ρ v).nm)
noncomputable abbrev JN (wn:List (Str × Str)) (w t:Str):Bool:=(wn.filter fun p=>decide (p.1=w)).any fun p=>decide (p.2=t)
noncomputable abbrev NT (wn:List (Str × Str)) (w:Str):Nat:=(wn.filter fun p=>decide (p.1=w)).length
theorem Ga (a b:Str):decide (V.str a=V.str b)=decide (a=b):=by
 rw [Bool.eq_iff_iff,decide_eq_true_eq,decide_eq_true_eq]
 exact ⟨V.str.inj,congrArg V.str⟩
theorem Gp (ρ:V->R) (vs:List V) (w t:Str):Q9 ρ vs w t=JN (Do ρ vs) w t:=by
 unfold Q9 Do
 show _=((vs.map fun v=>((ρ v).w,(ρ v).nm)).filter fun p=>decide (p.1=w)).any fun p=>decide (p.2=t)
 rw [List.filter_map,List.any_map]
 have e1:pw ρ w=(fun p:Str × Str=>decide (p.1=w)) ∘ fun v=>((ρ v).w,(ρ v).nm):=by
  funext v
  exact Ga _ _
 have e2:pn ρ t=(fun p:Str × Str=>decide (p.2=t)) ∘ fun v=>((ρ v).w,(ρ v).nm):=by
  funext v
  exact Ga _ _
 rw [e1,e2]
theorem Dw (ρ:V->R) (vs:List V) (w:Str):(vs.filter (pw ρ w)).length=NT (Do ρ vs) w:=by
 unfold Do
 show _=((vs.map fun v=>((ρ v).w,(ρ v).nm)).filter fun p=>decide (p.1=w)).length
 rw [List.filter_map,List.length_map]
 have e1:pw ρ w=(fun p:Str × Str=>decide (p.1=w)) ∘ fun v=>((ρ v).w,(ρ v).nm):=by
  funext v
  exact Ga _ _
 rw [e1]
section
variable {K:PySem.W.Frag} {aB aP aM:Addr} {ρ:V->R} {vs:List V} {wn:List (Str × Str)} {t:Str}
theorem Dk (F:KF K aB aP aM) (e:Do ρ vs=wn) (ht:isNm t) (h:∀ w∈named,JN wn w t=false):Em K aB ρ vs (.str t) "new" :=
 .inr (.inl ⟨F.bN,rfl,_,rfl,ht,fun w hw=>by rw [Gp,e]; exact h w hw⟩)
theorem De (F:KF K aB aP aM) (e:Do ρ vs=wn) (ht:isNm t) (h:JN wn "board" t=true):Em K aB ρ vs (.str t) "board" :=
 .inr (.inr ⟨F.bB,by decide +kernel,_,rfl,ht,by rw [Gp,e]; exact h⟩)
theorem Pk (F:KF K aB aP aM) (e:Do ρ vs=wn) (ht:isNm t) (h:∀ w∈named,JN wn w t=false) (hc:NT wn "board" < 5) {n:Nat} (h1:1<=n) (h2:n<=61):Jm K aB aP aM ρ vs (Dy (t,n)):=by
 obtain ⟨ap,g1,g2⟩:=F.pB
 obtain ⟨ab,g3,g4⟩:=F.bK
 obtain ⟨tk,g5⟩:=F.mB
 refine ⟨by show ¬ ("board" : Str) = "step"; decide +kernel,by show ¬ ("board" : Str) = "line"; decide +kernel,⟨ap,["new","keys"],g1,g2,rfl,by decide,fun j x y hx hy=>?_⟩,⟨5,tk,g5,?_⟩⟩
 ·match j,hx,hy with
  | 0,hx,hy =>
   cases (Option.some.inj hx)
   cases (Option.some.inj hy)
   exact Dk F e ht h
  | 1,hx,hy =>
   cases (Option.some.inj hx)
   cases (Option.some.inj hy)
   exact .inl ⟨_,1,61,ab,rfl,g3,g4,by omega,by omega⟩
  | j+2,hx,hy=>simp at hy
 ·rw [Dw,e]
  show ((NT wn "board" : Nat):Int)<5
  omega
theorem KQ (F:KF K aB aP aM) (e:Do ρ vs=wn) (ht:isNm t) (h:∀ w∈named,JN wn w t=false) (hc:NT wn "coupler" < 12) {a b:Str} (ha:isNm a) (ha':JN wn "board" a=true) (hb:isNm b) (hb':JN wn "board" b=true) {s:Int} (h1 : -60<=s) (h2:s<=60):Jm K aB aP aM ρ vs ⟨"coupler",t,[.str a,.str b,.int s]⟩:=by
 obtain ⟨ap,g1,g2⟩:=F.pC
 obtain ⟨ab,g3,g4⟩:=F.bL
 obtain ⟨tk,g5⟩:=F.mC
 refine ⟨by show ¬ ("coupler" : Str) = "step"; decide +kernel,by show ¬ ("coupler" : Str) = "line"; decide +kernel,⟨ap,["new","board","board","leap"],g1,g2,rfl,by decide,fun j x y hx hy=>?_⟩,⟨12,tk,g5,?_⟩⟩
 ·match j,hx,hy with
  | 0,hx,hy =>
   cases (Option.some.inj hx)
   cases (Option.some.inj hy)
   exact Dk F e ht h
  | 1,hx,hy =>
   cases (Option.some.inj hx)
   cases (Option.some.inj hy)
   exact De F e ha ha'
  | 2,hx,hy =>
   cases (Option.some.inj hx)
   cases (Option.some.inj hy)
   exact De F e hb hb'
  | 3,hx,hy =>
   cases (Option.some.inj hx)
   cases (Option.some.inj hy)
   exact .inl ⟨_,-60,60,ab,rfl,g3,g4,h1,h2⟩
  | j+4,hx,hy=>simp at hy
 ·rw [Dw,e]
  show ((NT wn "coupler" : Nat):Int)<12
  omega
end
theorem Oz {α:Type} {l:List α} (h:∀ (i j:Nat) x,l[i]? = some x->l[j]? = some x->i=j):l.Nodup:=by
 refine List.pairwise_iff_getElem.mpr fun i j hi hj hij e=>?_
 have:=h i j l[i] (List.getElem?_eq_getElem hi) (by rw [e]; exact List.getElem?_eq_getElem hj)
 omega
theorem Tn (bs:List (Str × Nat)):(J6 bs).length=(bs.map (·.2)).sum:=by
 unfold J6
 rw [List.length_flatMap]
 have:(bs.zipIdx.map fun p=>((List.range p.1.2).map fun e=>(p.2,e)).length)=bs.map (·.2):=by
  refine List.ext_getElem? fun i=>?_
  rw [List.getElem?_map,List.getElem?_map,List.getElem?_zipIdx]
  cases bs[i]? <;> simp
 rw [this]
end Og
namespace Og
open PySem L2
noncomputable def Z1 (bs:List (Str × Nat)) (j1 j2:Nat) (s:Int) (qd:Nat × Nat) (z2:Nat):V :=
 if qd.1=j1/\0<=(qd.2:Int)+s/\(qd.2:Int)+s<z2 then .int ((((bs.take j2).map (·.2)).sum:Nat)+((qd.2:Int)+s)) else .non
noncomputable def gl (bs:List (Str × Nat)):Kb->Nat->Option Nat
 | .cp j1 j2 s,i=>match (J6 bs)[i]?,bs[j2]? with
  | some qd,some b2=>match Z1 bs j1 j2 s qd b2.2 with
   | .int v=>some v.toNat
   | _=>none
  | _,_=>none
 | .pl _ _,_=>none
noncomputable def stp (bs:List (Str × Nat)) (kbs:List Kb) (D:Nat) (i j:Nat):Prop:=∃ k z,D.testBit k=true/\kbs[k]? = some z/\gl bs z i=some j
inductive b_ (st:Nat->Nat->Prop) (hd:Nat->Prop):Nat->Prop
 | one {i j:Nat}:hd i->st i j->b_ st hd j
 | more {i j:Nat}:b_ st hd i->st i j->b_ st hd j
end Og
namespace Og
open PySem L2 PyProof.Rows
noncomputable abbrev Th:=Str × Nat × List V
noncomputable abbrev tV (a:Th):List V:=.str a.1 :: .int (a.2.1:Nat)::a.2.2
noncomputable abbrev tN (a:Th):Str × Nat:=(a.1,a.2.1)
noncomputable abbrev WY (r:Str × Nat × Int):Th:=(r.1,r.2.1,[.int r.2.2])
noncomputable abbrev Zk (b:Str × Nat):Th:=(b.1,b.2,[])
noncomputable abbrev cj (r:Str × Nat × Int):Str × Nat:=(r.1,r.2.1)
noncomputable abbrev En (r:Str × Nat × Int):R:=⟨"rank",r.1,[.int (r.2.1:Nat),.int r.2.2]⟩
structure Ln where
 r:Nat
 sh:Int
 lo:Int
 hi:Int
noncomputable abbrev cX (l:Ln):List V:=[.int (l.r:Nat),.int l.sh,.int l.lo,.int l.hi]
noncomputable def Fw (H:Hp) (l:List Ln) (v:V):Prop:=∃ (A:Addr) (ts:List V),v=.ref A/\H A=some (.lst ts)/\Paired (fun x y=>TupAt H (cX x) y) l ts
noncomputable def NQ (H:Hp) (D:Addr) (ls:List (List Ln)):Prop:=∃ lv,H D=some (.lst lv)/\Paired (fun l v=>Fw H l v) ls lv
theorem Fw.mono {H H':Hp} {l:List Ln} {v:V} (s:Aj H H') (h:Fw H l v):Fw H' l v:=by
 obtain ⟨A,ts,e,h1,h2⟩:=h
 exact ⟨A,ts,e,s _ _ h1,Al s h2⟩
structure Vn (C:Addr) (H:Hp) (x:Addr) (bs:List (Str × Nat)) (rk:List (Str × Nat × Int)) (ks:List R) (ls:List (List Ln)):Prop where
 o:Ky C H x bs ks
 r:∃ (dx:Addr) (fs:List (Str × V)) (rl rn pp kl:Addr) (rvs pvs:List V) (kvs:List (Key × V)),H x=some (.ins C dx fs)/\fs.lookup ("rank_list" : Str)=some (.ref rl)/\fs.lookup ("rank_numbers" : Str)=some (.ref rn)/\fs.lookup ("pipe_places" : Str)=some (.ref pp)/\fs.lookup ("knob_lines" : Str)=some (.ref kl) /\
  H rl=some (.lst rvs)/\Paired (fun (a:Th) y=>TupAt H (tV a) y) (rk.map WY) rvs/\H rn=some (.dK kvs)/\(∀ (i:Nat) r,rk[i]? = some r->CP kvs (Sum.inr r.1)=some (.int (i:Nat))) /\
  H pp=some (.lst pvs)/\Paired (fun q y=>TupAt H (qV q) y) (J6 (rk.map cj)) pvs/\NQ H kl ls
 nr:rk.length<=12
 nz:∀ r∈rk,r.2.1<=97
 nl:ls.length=ks.length
structure Qf (ρ:V->R) (us:List V) (i:Nat):Prop where
 all:∀ j,j<i->∃ v,us[us.length - 1 - j]? = some v/\(ρ v).w = "line"
 lt:i<us.length
 no:∃ v,us[us.length - 1 - i]? = some v/\¬ (ρ v).w = "line"
noncomputable def VD (r:R):Int:=match r.rest with
 | [.int m]=>m
 | _=>0
noncomputable abbrev keyOf (ρ:V->R) (us:List V) (bd:Str) (n:Int):Bool:=(us.filter (pw ρ "board")).any fun v=>pn ρ bd v && decide (n<VD (ρ v))
structure Jw (ρ:V->R) (us:List V) (ro:R):Prop where
 ex:∃ (cnt:Nat) (v:V) (sh lo hi:Int) (bd:Str) (rs:List V),ro.rest=[.int sh,.int lo,.int hi]/\Qf ρ us cnt/\cnt<4/\us[us.length - 1 - cnt]? = some v/\(ρ v).w = "stop" /\ (ρ v).rest=.str bd::rs/\lo<=hi/\keyOf ρ us bd hi=true
noncomputable abbrev Bw (ρ:V->R) (us:List V):Prop:=∀ v∈us,(ρ v).w = "board"->∃ m,(ρ v).rest=[.int m]
structure Ha (K:PySem.W.Frag) (aB aP aM:Addr) (ρ:V->R) (vs:List V) (r:R):Prop where
 ns:¬ r.w = "step"
 parts:∃ (ap:Addr) (ps:List Str),PySem.W.nsIn K aP r.w=some (some (.ref ap))/\KTup K ap (ps.map V.str)/\(V.str r.nm::r.rest).length=ps.length/\ps.length<=10 /\
  ∀ (i:Nat) x y,(V.str r.nm::r.rest)[i]? = some x->ps[i]? = some y->Em K aB ρ vs x y
 room:(r.w = "line" /\ PySem.W.nsIn K aM r.w=some none) \/ ∃ (m:Int) (t:Tok),PySem.W.nsIn K aM r.w=some (some (.int m t))/\(((vs.filter (pw ρ r.w)).length:Nat):Int)<m
 line:r.w = "line"->Jw ρ vs r
 Mt:Bw ρ vs
noncomputable def lnOf (rk:List (Str × Nat × Int)) (r:R):Ln:=match r.rest with
 | [.int sh,.int lo,.int hi]=>⟨(rk.map (·.1)).idxOf r.nm,sh,lo,hi⟩
 | _=>⟨0,0,0,0⟩
noncomputable def putL (acc:List (List Ln)) (l:Ln):List (List Ln):=match acc.getLast? with
 | some z=>acc.dropLast++[z++[l]]
 | none=>[]
noncomputable def Ce (rk:List (Str × Nat × Int)) (acc:List (List Ln)) (r:R):List (List Ln):=if Gd r.w=true then acc++[[]] else if r.w = "line" then putL acc (lnOf rk r) else acc
noncomputable def linesOf (rk:List (Str × Nat × Int)) (rs:List R):List (List Ln):=rs.foldl (Ce rk) []
theorem Bv (rk:List (Str × Nat × Int)) (rs:List R) (r:R):linesOf rk (rs++[r])=Ce rk (linesOf rk rs) r:=by
 unfold linesOf
 rw [List.foldl_append]
 rfl
theorem GX (acc:List (List Ln)) (z:List Ln) (l:Ln):putL (acc++[z]) l=acc++[z++[l]]:=by
 unfold putL
 rw [List.getLast?_concat,List.dropLast_concat]
structure dz (K:PySem.W.Frag) (aB aP aM:Addr) (ρ:V->R) (us:List V) (bs:List (Str × Nat)) (rk:List (Str × Nat × Int)) (ks:List R):Prop where
 kinds:∀ v∈us,(ρ v).w = "board" \/ (ρ v).w = "rank" \/ (ρ v).w = "line" \/ (ρ v).w = "stop" \/ (ρ v).w = "coupler" \/ (ρ v).w = "mute"
 eb:(us.filter (pw ρ "board")).map ρ=bs.map Dy
 er:(us.filter (pw ρ "rank")).map ρ=rk.map En
 ek:(us.filter (fun v=>Gd (ρ v).w)).map ρ=ks
 ln:∀ (i:Nat) v,us[i]? = some v->(ρ v).w = "line"->(∃ (j:Nat) (r:Str × Nat × Int) (sh lo hi:Int),rk[j]? = some r/\r.1=(ρ v).nm/\(ρ v).rest=[.int sh,.int lo,.int hi])/\∃ u∈us.take i,Gd (ρ u).w=true
 b0:1<=bs.length
 b5:bs.length<=5
 sz:∀ b∈bs,b.2<=61
 nr:rk.length<=12
 nz:∀ r∈rk,r.2.1<=97
 nk:ks.length<=100
 nb:(bs.map (·.1)).Nodup
 nrr:(rk.map (·.1)).Nodup
 nn:(ks.map (·.nm)).Nodup
 len:us.length<=150
 ok:∀ (i:Nat) v,us[i]? = some v->Ha K aB aP aM ρ (us.take i) (ρ v)
end Og
namespace Ws
open PySem PySem.Spec PyProof.Rows Wd
noncomputable def HJ (prog:Program) (w:World) (h:Heap) (a:Addr) (led:Bool) (σ:List Str):Prop :=
 ∃ es ep t,h.get? a=some { cls:=.type "set",dict:=none,data:=.set es ep t }/\ElemsOf (strKind prog w) es.toList/\(∀ k,k∈σ ↔ ∃ e∈es.toList,(strKind prog w).is k e.2=true)/\es.size=σ.length/\σ.Nodup /\
  σ.length<scanBound/\t.fits es.size=true/\Good t led
noncomputable def Er (σ:List Str) (k:Str):List Str:=if k∈σ then σ else σ++[k]
section
variable {prog:Program} {w:World} {A:Around} {E:Value->Shared->Prop} {s:Shared} {a:Addr} {led:Bool} {σ:List Str} {k:Str} {tk:Tok}
theorem YH {Q:Bool->Shared->Prop} (hS:HJ prog w s.heap a led σ) (room:σ.length+1<scanBound)
  (h:∀ b h',Heap.SameBut a s.heap h'->HJ prog w h' a led (Er σ k)->Q b { s with heap:=h' }):wpAny (model prog w) A (setAddHashed a (.str k tk) ((strKind prog w).hash k)) Q E s:=by
 obtain ⟨es,ep,t,ho,hel,hmem,hn,nd,hb,hf,g⟩:=hS
 have hkey:(strKind prog w).is k (.str k tk)=true:=strKind_is _ _ _ _
 have hbe:es.size<scanBound:=by rw [hn]; exact hb
 unfold setAddHashed setAddHashedIn
 refine wpAny_holding (wpAny_bind (wpAny_setState_of ho rfl hf ?_))
 dsimp only
 rw [byScan_of rfl hbe hel,if_pos rfl]
 unfold setAddByScan
 refine wpAny_bind (wpAny_bind (wpAny_rule (wpAny_bind (wpAny_setScan_of hkey ho rfl hf hel ?_))))
 cases hr:List.findIdx? (fun e=>(strKind prog w).is k e.2) es.toList with
 | some j =>
  obtain ⟨hj,hpj,_⟩:=List.findIdx?_eq_some_iff_getElem.mp hr
  have hk:k∈σ:=(hmem k).mpr ⟨_,List.getElem_mem hj,hpj⟩
  refine wpAny_pure (wpAny_pure ?_)
  have:=h false s.heap (Heap.SameBut.refl a s.heap) (by unfold Er; rw [if_pos hk]; exact ⟨es,ep,t,ho,hel,hmem,hn,nd,hb,hf,g⟩)
  exact this
 | none =>
  have hk:k ∉ σ:=fun q=>by
   obtain ⟨e,he,hp⟩:=(hmem k).mp q
   have:=List.findIdx?_eq_none_iff.mp hr e he
   rw [hp] at this
   cases this
  dsimp only
  have hperm:=layNew_perm t es ((strKind prog w).hash k) (.str k tk)
  have hfits:=layNew_fits t es ((strKind prog w).hash k) (.str k tk)
  have hgood:=QJ g es ((strKind prog w).hash k) (.str k tk)
  generalize layNew t es ((strKind prog w).hash k) (.str k tk)=L at hperm hfits hgood ⊢
  obtain ⟨es1,t1,wd,gave⟩:=L
  dsimp only at hperm hfits hgood ⊢
  rw [Array.toList_push] at hperm
  have hel1:ElemsOf (strKind prog w) es1.toList:=(hel.push hkey rfl).perm hperm
  have sz1:es1.size=(σ++[k]).length:=by
   have:=hperm.length_eq
   simp only [List.length_append,Array.length_toList,List.length_singleton] at this
   simp only [List.length_append,List.length_singleton]
   omega
  have mem1:∀ k',k'∈σ++[k] ↔ ∃ e∈es1.toList,(strKind prog w).is k' e.2=true:=fun k'=>by
   have:=mem_push_iff (knd:=strKind prog w) (S:=fun k'=>decide (k'∈σ)) hkey (fun k'=>by rw [decide_eq_true_eq]; exact hmem k') hperm k'
   rw [← this]
   simp
  have nd1:(σ++[k]).Nodup:=List.nodup_append.mpr ⟨nd,by simp,fun x hx y hy=>by
   rw [List.mem_singleton.mp hy]
   intro q
   exact hk (q ▸ hx)⟩
  have hb1:(σ++[k]).length<scanBound:=by simp only [List.length_append,List.length_singleton]; exact room
  have hb1':es1.size<scanBound:=by rw [sz1]; exact hb1
  have fin:∀ (es2:Array (Int × Value)) (t2:SetTable) (ep2:Nat) (h2:Heap),Heap.SameBut a s.heap h2->h2.get? a=some { cls:=.type "set",dict:=none,data:=.set es2 ep2 t2 }->es2.toList.Perm es1.toList->t2.fits es2.size=true->Good t2 led ->
    Q true { s with heap:=h2 }:=fun es2 t2 ep2 h2 sb e2 p2 f2 g2=>by
   refine h true h2 sb ?_
   unfold Er
   rw [if_neg hk]
   refine ⟨es2,ep2,t2,e2,hel1.perm p2,fun k'=>(mem1 k').trans ⟨fun ⟨e,he,q⟩=>⟨e,p2.mem_iff.mpr he,q⟩,fun ⟨e,he,q⟩=>⟨e,p2.mem_iff.mp he,q⟩⟩,?_,nd1,hb1,f2,g2⟩
   rw [← Array.length_toList,p2.length_eq,Array.length_toList,sz1]
  have tail:∀ (t2:SetTable),t2.fits es1.size=true->Good t2 led->wpAny (model prog w) A (do
    storeSet a es1 t2
    if (!wd && t2.tooFull)=true then do
      (match (relayAll t2 es1 (SetTable.grown es1.size)).2.2 with | true=>rule "set.scan.the-table-gave-way" | false=>pure ())
      storeSet a (relayAll t2 es1 (SetTable.grown es1.size)).1 (relayAll t2 es1 (SetTable.grown es1.size)).2.1
      pure (some true)
     else pure (some true)) (fun r s'=>match r with | some b=>Q b s' | none=>False) E s:=fun t2 f2 g2=>by
   refine wpAny_bind (wpAny_storeSet_of ho rfl ?_ (fits_of_scanBound hb1'))
   have sb1:=Heap.SameBut.update s.heap a (Obj.putSet es1 t2)
   have e1:=Np (es':=es1) (t':=t2) ho
   split
   ·have hp:=relayAll_perm t2 es1 (SetTable.grown es1.size)
    have hq:=relayAll_fits t2 es1 (SetTable.grown es1.size)
    have hg:=M6 g2 es1 (SetTable.grown es1.size)
    generalize relayAll t2 es1 (SetTable.grown es1.size)=R at hp hq hg ⊢
    obtain ⟨es2,t3,gv⟩:=R
    dsimp only at hp hq hg ⊢
    have hb2:es2.size<scanBound:=by rw [← Array.length_toList,hp.length_eq,Array.length_toList]; exact hb1'
    have last:wpAny (model prog w) A (do storeSet a es2 t3; pure (some true)) (fun r s'=>match r with | some b=>Q b s' | none=>False) E { s with heap:=s.heap.update a (Obj.putSet es1 t2) }:=by
     refine wpAny_bind (wpAny_storeSet_of e1 rfl ?_ (fits_of_scanBound hb2))
     exact wpAny_pure (fin es2 t3 _ _ (sb1.trans (Heap.SameBut.update _ a _)) (Np e1) hp hq hg)
    cases gv
    ·exact wpAny_bind (wpAny_pure last)
    ·exact wpAny_bind (wpAny_rule last)
   ·exact wpAny_pure (fin es1 t2 _ _ sb1 e1 (List.Perm.refl _) f2 g2)
  have tail':∀ (t2:SetTable),t2.fits es1.size=true->Good t2 led->wpAny (model prog w) A (do
    storeSet a es1 t2
    if (!wd && t2.tooFull)=true then do
      (match (relayAll t2 es1 (SetTable.grown es1.size)).2.2 with | true=>rule "set.scan.the-table-gave-way" | false=>pure ())
      storeSet a (relayAll t2 es1 (SetTable.grown es1.size)).1 (relayAll t2 es1 (SetTable.grown es1.size)).2.1
      pure (some true)
     else pure (some true)) (fun r s'=>wpAny (model prog w) A (match r with | some added=>pure added | none=>setAddHashedIn a (.str k tk) ((strKind prog w).hash k) 99999) Q E s') E s:=fun t2 f2 g2 =>
   wpAny_mono (tail t2 f2 g2) (fun r s' q=>by
    cases r with
    | none=>exact q.elim
    | some b=>exact wpAny_pure q) fun _ _ e=>e
  have mid:wpAny (model prog w) A (do
    let byValue ← if t1.plain then hashByValue 8 (.str k tk) else pure true
    let t2:=if byValue=true then t1 else { t1 with plain:=false }
    storeSet a es1 t2
    if (!wd && t2.tooFull)=true then do
      (match (relayAll t2 es1 (SetTable.grown es1.size)).2.2 with | true=>rule "set.scan.the-table-gave-way" | false=>pure ())
      storeSet a (relayAll t2 es1 (SetTable.grown es1.size)).1 (relayAll t2 es1 (SetTable.grown es1.size)).2.1
      pure (some true)
     else pure (some true)) (fun r s'=>wpAny (model prog w) A (match r with | some added=>pure added | none=>setAddHashedIn a (.str k tk) ((strKind prog w).hash k) 99999) Q E s') E s:=by
   split
   ·rw [hashByValue_scannable 8 rfl]
    exact wpAny_bind (wpAny_pure (tail' { t1 with plain:=false } hfits ⟨hgood.led,fun h=>by cases h⟩))
   ·exact wpAny_bind (wpAny_pure (tail' t1 hfits hgood))
  cases gave
  ·exact wpAny_bind (wpAny_pure mid)
  ·exact wpAny_bind (wpAny_rule mid)
end
inductive StrsAre:List Value->List Str->Prop
 | nil:StrsAre [] []
 | cons (z:Str) (t:Tok) {us:List Value} {zs:List Str}:StrsAre us zs->StrsAre (.str z t::us) (z::zs)
theorem StrsAre.length:∀ {us:List Value} {zs:List Str},StrsAre us zs->us.length=zs.length
 | _,_,.nil=>rfl
 | _,_,.cons z t r=>congrArg (· + 1) r.length
theorem StrsAre.QT:∀ {us:List Value} {zs:List Str},StrsAre us zs->∀ (i:Nat) (v:Value),us[i]? = some v->∃ t,v=.str (zs.getD i "") t
 | _,_,.nil,i,v,h=>by simp at h
 | _,_,.cons z t r,0,v,h=>by simp at h; exact ⟨t,h.symm⟩
 | _,_,.cons z t r,i+1,v,h=>by
  have h':_:=h
  rw [List.getElem?_cons_succ] at h'
  obtain ⟨t',e⟩:=r.QT i v h'
  exact ⟨t',by rw [e]; rfl⟩
theorem HJ.keep {prog:Program} {w:World} {h h':Heap} {a:Addr} {led:Bool} {σ:List Str} (g:HJ prog w h a led σ) (k:∀ o,h.get? a=some o->h'.get? a=some o):HJ prog w h' a led σ :=
 let ⟨es,ep,t,e,r⟩:=g; ⟨es,ep,t,k _ e,r⟩
theorem QK (σ:List Str) (k:Str):(Er σ k).length<=σ.length+1:=by
 unfold Er
 split
 ·omega
 ·simp
theorem JZ:∀ (ns:List Str) (σ:List Str),(ns.foldl Er σ).length<=σ.length+ns.length
 | [],σ=>by simp
 | k::ns,σ=>by
  have h1:=JZ ns (Er σ k)
  have h2:=QK σ k
  simp only [List.foldl_cons,List.length_cons]
  omega
section
variable {prog:Program} {w:World} {A:Around} {R:Result->Shared->Prop} {I:Addr} {fp wr:List Addr} {G:Array GenState->Array GenState->Prop} {n:Nat} {P:Nat->Value->Prop} {St:Nat->Shared->Prop} {led:Bool}
theorem Vl (W:WalksS prog w A.in1 I fp wr G n P St) (S:Addr) (hSf:S ∉ fp) (ns:List Str) (hn:ns.length=n) (hval:∀ i v,P i v->∃ t,v=.str (ns.getD i "") t) (hb:n+1<scanBound) :
  ∀ (k i:Nat) (s:Shared),n - i=k->i<=n->St i s->HJ prog w s.heap S led ((ns.take i).foldl Er []) ->
   (∀ s',Moved (S::wr) G s s'->HJ prog w s'.heap S led (ns.foldl Er [])->R (.ok (.ret .none)) s')->codeAny (model prog w) A (.builtin "set.update.loop" ⟨[.ref S,.ref I],[]⟩) R s:=by
 have nw:S ∉ wr:=fun z=>hSf (W.sub _ z)
 have up:∀ b∈wr,b∈S::wr:=fun b z=>List.mem_cons_of_mem _ z
 intro k
 induction k with
 | zero =>
  intro i s hk hi st g hR
  obtain rfl:i=n:=by omega
  refine codeAny_builtin F.entry_set_update_loop ?_
  rw [Around.under_plainId F.plain_set_update_loop _]
  refine wpAny_bind (W.done s _ _ st fun s' m=>wpAny_pure (hR s' (m.mono up) ?_))
  rw [List.take_of_length_le (by omega)] at g
  exact g.keep fun o e=>m.heap S o nw e
 | succ k ih =>
  intro i s hk hi st g hR
  have lt:i<n:=by omega
  refine codeAny_builtin F.entry_set_update_loop ?_
  rw [Around.under_plainId F.plain_set_update_loop _]
  refine wpAny_bind (W.item i s _ _ lt st fun v s' p st' m=>?_)
  obtain ⟨t,rfl⟩:=hval i v p
  have g':=g.keep (h':=s'.heap) fun o e=>m.heap S o nw e
  refine wpAny_bind (wpAny_holding (wpAny_holding (wpAny_bind ((strKind prog w).pyHash (k:=ns.getD i "") (strKind_is _ _ _ _) ?_))))
  have room:((ns.take i).foldl Er []).length+1<scanBound:=by
   have:=JZ (ns.take i) []
   rw [List.length_take] at this
   simp at this
   omega
  have tk:ns.take (i+1)=ns.take i++[ns.getD i ""]:=by
   have hl:i<ns.length:=by omega
   rw [List.take_add_one,List.getElem?_eq_getElem hl]
   simp [hl]
  refine YH (s:={ s' with toks:=s'.toks+1 }) g' room fun b h' sb g2=>?_
  have g3:HJ prog w h' S led ((ns.take (i+1)).foldl Er []):=by
   rw [tk,List.foldl_append]
   exact g2
  refine wpAny_pure ⟨plainId_quiet F.plain_set_update_loop _,ih (i+1) _ (by omega) lt (W.frame _ s' _ _ st' (Nat.le_succ _) fun b hb o e=>?_) g3 fun s'' m2 g4=>?_⟩
  ·rw [sb.2 b (fun z:b=S=>hSf (z ▸ hb))]
   exact e
  ·refine hR s'' (Moved.trans W.gtrans ((m.mono up).then_heap (Nat.le_succ _) fun b o hb e=>?_) m2) g4
   rw [sb.2 b (fun z:b=S=>hb (by rw [z]; exact List.mem_cons_self))]
   exact e
end
section
variable {prog:Program} {w:World} {A:Around} {E:Value->Shared->Prop} {s:Shared}
theorem Sv (h:Heap):HJ prog w (h.push { cls:=.type "set",dict:=none,data:=.set #[] 0 (.fresh 0 0 (DX w)) }) h.objs.size (DX w) [] :=
 ⟨#[],0,_,Heap.get?_push_size _ rfl,fun e he=>by simp at he,fun k=>by simp,rfl,.nil,by decide,by rfl,MN _⟩
set_option maxHeartbeats 4000000 in
theorem Xd {l:Addr} {items:Array Value} {ns:List Str} {Q:Value->Shared->Prop} (hh:A.handled=none) (hl:s.heap.IsTuple l items) (hi:StrsAre items.toList ns) (hb:ns.length+1<scanBound)
  (h:∀ h' tk,HJ prog w h' s.heap.objs.size (DX w) (ns.foldl Er [])->(∀ b o,s.heap.get? b=some o->h'.get? b=some o)->Q (.ref s.heap.objs.size) { s with heap:=h',toks:=tk }) :
  wpAny (model prog w) A (call (.type "set") [.ref l]) Q E s:=by
 obtain ⟨c,tl,hmro⟩:=F.called_set.mro
 have hmade:=F.called_set.made
 have hsub:=F.called_set.sub
 have hlen:items.size=ns.length:=by rw [← StrsAre.length hi]; simp
 refine wpAny_call (codeAny_of_tree ?_)
 show wpAny _ _ (callAny (.type "set") _) _ _ _
 refine wpAny_pure ⟨Code.quiet_builtin _ (by decide +kernel),codeAny_builtin F.entry_type_call ?_⟩
 rw [Around.under_plain (weight_type_call_type "set" [.ref l] []) rfl]
 have h1:=F.called_set.notType
 have h2:=F.called_set.canCreate
 have hct:=F.typeCall_set_1 (.ref l)
 repeat (any_goals (first | assumption | wp_step))
 refine codeAny_mono (Xa (.ref l) (E:=E) (Q1:=fun obj s1=>obj=.ref s.heap.objs.size/\s1 = { s with heap:=s.heap.push { cls:=.type "set",dict:=none,data:=.set #[] 0 (.fresh 0 0 (DX w)) } }) ⟨rfl,rfl⟩) fun r s1 hr=>?_
 rcases r with e | fl
 ·exact hr
 obtain ⟨obj,rfl,hr⟩:∃ obj,fl=.ret obj/\(obj=.ref s.heap.objs.size/\s1 = { s with heap:=s.heap.push { cls:=.type "set",dict:=none,data:=.set #[] 0 (.fresh 0 0 (DX w)) } }):=by
  cases fl with
  | ret v=>exact ⟨v,rfl,hr⟩
  | _=>exact hr.elim
 obtain ⟨rfl,rfl⟩:=hr
 have hS:(s.heap.push { cls:=.type "set",dict:=none,data:=.set #[] 0 (.fresh 0 0 (DX w)) }).get? s.heap.objs.size=some { cls:=.type "set",dict:=none,data:=.set #[] 0 (.fresh 0 0 (DX w)) }:=Heap.get?_push_size _ rfl
 have hT:Shared.TypeIs { s with heap:=s.heap.push { cls:=.type "set",dict:=none,data:=.set #[] 0 (.fresh 0 0 (DX w)) } } (.ref s.heap.objs.size) "set":=⟨_,hS,rfl⟩
 have hli:=F.called_set.init.lookup
 have hbi:=F.called_set.init.bind (.ref s.heap.objs.size)
 repeat (any_goals (first | assumption | wp_step))
 refine codeAny_mono (codeAny_call_builtin (R:=wants (fun r s2=>r=.none/\∃ h' tk,s2 = { s with heap:=h',toks:=tk }/\HJ prog w h' s.heap.objs.size (DX w) (ns.foldl Er [])/\∀ b o,s.heap.get? b=some o->h'.get? b=some o) E)
  F.called_set.init.plain F.entry_set_init (check_set_init_1 hT ?_)) fun r2 s2 hr2=>?_
 ·obtain ⟨ol,hol,hcl,nl,hdl⟩:=hl
  obtain ⟨ocls,odict,odata,oslots⟩:=ol
  simp only at hcl hdl
  subst hcl; subst hdl
  have hol':(s.heap.push { cls:=.type "set",dict:=none,data:=.set #[] 0 (.fresh 0 0 (DX w)) }).get? l=some { cls:=.type "tuple",dict:=odict,data:=.seq items nl,slots:=oslots }:=Heap.get?_push_of_some _ hol
  have hsls:=F.sub_tuple_set
  have hslf:=F.sub_tuple_frozenset
  have hne:(Value.type "tuple" == Value.type "dict")=false:=by decide
  have hl1:(s.heap.push { cls:=.type "set",dict:=none,data:=.set #[] 0 (.fresh 0 0 (DX w)) }).IsTuple l items:=⟨_,hol',rfl,nl,rfl⟩
  unfold Builtin.«set.__init__» noKeywords Builtin.Frozenset.updateFrom
  generalize hPI:pyIter=PI
  wp_walk
  subst hPI
  refine wpAny_pyIter_tuple hl1 (wpAny_bind (wpAny_runValue ?_))
  have lS:l<s.heap.objs.size:=Heap.lt_size hol
  have h3:A.in1.in1.in1.handled=none:=by simp [hh]
  have nI:l ≠ (s.heap.push { cls:=.type "set",dict:=none,data:=.set #[] 0 (.fresh 0 0 (DX w)) }).objs.size:=by
   rw [Heap.size_push]
   exact Nat.ne_of_lt (Nat.lt_succ_of_lt lS)
  have nf:s.heap.objs.size ∉ [(s.heap.push { cls:=.type "set",dict:=none,data:=.set #[] 0 (.fresh 0 0 (DX w)) }).objs.size,l]:=by
   rw [Heap.size_push]
   intro z
   rcases List.mem_cons.mp z with q | q
   ·exact absurd q (Nat.ne_of_lt (Nat.lt_succ_self _))
   ·exact absurd (List.mem_singleton.mp q) (Nat.ne_of_gt lS)
  refine Vl ((Walks.tuple h3 _ l nI items).toS) s.heap.objs.size nf ns hlen.symm (fun i v hv=>StrsAre.QT hi i v (by rw [Array.getElem?_toList]; exact hv)) (by rw [hlen]; exact hb) (items.size - 0) 0 _ rfl (Nat.zero_le _)
   ⟨⟨_,Heap.get?_push_size _ rfl,rfl,rfl⟩,(hl1.push _)⟩ ((Sv s.heap).keep fun o e=>Heap.get?_push_of_some _ e) fun s' m g=>?_
  obtain ⟨h',g',d',tk',os'⟩:=s'
  obtain rfl:g'=s.gens:=m.gens
  obtain rfl:d'=s.drawn:=m.drawn
  obtain rfl:os'=s.os:=m.os
  show wpAny _ _ _ _ _ _
  refine wpAny_pure ?_
  show wpAny _ _ (ret Value.none) _ _ _
  refine wpAny_pure ⟨rfl,h',tk',rfl,g,fun b o e=>?_⟩
  have b1:=Heap.lt_size e
  refine m.heap b o (fun z=>?_) (Heap.get?_push_of_some _ (Heap.get?_push_of_some _ e))
  rcases List.mem_cons.mp z with q | q
  ·exact absurd q (Nat.ne_of_lt b1)
  ·have:=List.mem_singleton.mp q
   rw [Heap.size_push] at this
   exact absurd this (Nat.ne_of_lt (Nat.lt_succ_of_lt b1))
 ·rcases r2 with e | fl2
  ·exact hr2
  obtain ⟨r,rfl,hr2⟩:∃ r,fl2=.ret r/\(r=.none/\∃ h' tk,s2 = { s with heap:=h',toks:=tk }/\HJ prog w h' s.heap.objs.size (DX w) (ns.foldl Er [])/\∀ b o,s.heap.get? b=some o->h'.get? b=some o):=by
   cases fl2 with
   | ret v=>exact ⟨v,rfl,hr2⟩
   | _=>exact hr2.elim
  obtain ⟨rfl,h',tk,rfl,g,hk⟩:=hr2
  repeat (any_goals (first | assumption | wp_step))
  exact h _ _ g hk
end
end Ws
namespace L2
open PySem PySem.Spec PyProof.Rows
noncomputable def Km (P:Program) (w:World) (a:Addr) (τ:List Str):HO:=.ext fun h=>Ws.HJ P w h a (Wd.DX w) τ
theorem Qj {P:Program} {w:World} {H:Hp} {h:Heap} {a:Addr} {τ:List Str} (g:Ws.HJ P w h a (Wd.DX w) τ):Be P w H h a (Km P w a τ) :=
 ⟨g,(let ⟨_,_,_,e,_⟩:=g; ⟨_,e⟩),fun _ _ g k=>g.keep k⟩
theorem Jg:∀ {ts:List Str} {us:List Value},Vals (ts.map V.str) us->Ws.StrsAre us ts
 | [],_,r=>by cases r; exact .nil
 | n::ns,_,r=>by
  cases r with
  | cons r t =>
   obtain ⟨tk,rfl⟩:=r
   exact .cons n tk (Jg t)
section
variable {X:Cx}
theorem PB (hc:X.calm=true):Ex X (.type "set") (fun xs H Q=>∃ (l:Addr) (ts:List Str),xs=[V.ref l]/\Fo X.K H l (ts.map V.str)/\ts.length<=1000/\∀ p,H p=none->Q (.ref p) (upd H p (Km X.prog X.w p (ts.foldl Ws.Er [])))):=by
 intro pins s σ H xs us Q I r h
 obtain ⟨l,ts,rfl,hl,hz,q⟩:=h
 obtain ⟨u,rfl,ru⟩:=vals1 r
 cases ru
 obtain ⟨its,rv,pl,_⟩:=I.tuple hl
 have hn:H s.heap.objs.size=none:=I.hok.fresh (Nat.le_refl _)
 refine Ws.Xd (I.ok.hd hc) pl (by simpa using Jg rv) (by unfold scanBound; omega) fun h' tk g k=>?_
 exact ⟨.ref s.heap.objs.size,_,I.laid (t':=tk) k (Nat.le_refl _) (Qj g),rfl,q _ hn⟩
theorem JS:Ex X (.builtin "len") (fun xs H Q=>∃ (a:Addr) (τ:List Str),xs=[V.ref a]/\H a=some (Km X.prog X.w a τ)/\Q (.int (τ.length:Nat)) H):=by
 intro pins s σ H xs us Q I r h
 obtain ⟨a,τ,rfl,ha,q⟩:=h
 obtain ⟨u,rfl,ru⟩:=vals1 r
 cases ru
 obtain ⟨⟨es,ep,t,e1,e2,e3,e4,e5,e6,e7,e8⟩,_,_⟩:=(show Be X.prog X.w H s.heap a (Km X.prog X.w a τ) from I.hok a _ ha)
 unfold scanBound at e6
 refine call_len_set e1 ⟨rfl,rfl,rfl⟩ rfl e7 (by omega) ⟨.int ((es.size:Nat):Int),H,I.tok _,⟨_,rfl⟩,?_⟩
 rw [e4]
 exact q
end
theorem Jh:∀ (ts τ:List Str),(τ++ts).Nodup->(ts.foldl Ws.Er τ)=τ++ts
 | [],τ,_=>(List.append_nil _).symm
 | t::ts,τ,h=>by
  have hn:t ∉ τ:=fun z=>by
   rw [List.nodup_append] at h
   exact h.2.2 t z t (List.mem_cons_self ..) rfl
  rw [List.foldl_cons]
  have e:Ws.Er τ t=τ++[t]:=by unfold Ws.Er; rw [if_neg hn]
  rw [e,Jh ts (τ++[t]) (by rw [List.append_assoc]; exact h),List.append_assoc]
  rfl
end L2
namespace L2
open PySem PySem.Spec PyProof.Rows
section
variable {X:Cx}
end
end L2
namespace L2
open PySem PySem.Spec PyProof.Rows
section
variable {σ:St} {H1:Hp} {Q:VK} {tt:TT} {te:TE}
theorem LQ {K:PySem.W.Frag} {a:Addr} {xs:List V} (p:V->Bool) (f:V->V) (hl:Fo K H1 a xs) (hz:xs.length<sizeLine)
  (ht:∀ x∈xs,∀ H,Aj H1 H->∀ R:Bool->Hp->Prop,(∀ H',Aj H H'->R (p x) H')->tt (some x::σ) H R)
  (he:∀ x∈xs,p x=true->∀ H,Aj H1 H->∀ R:VK,(∀ H',Aj H H'->R (f x) H')->te (some x::σ) H R)
  (hq:∀ D H,H1 D=none->Aj H1 H->H D=some (.lst ((xs.filter p).map f))->Q (.ref D) H):Fx (aW K a) σ H1 Q tt te :=
 Gv p f hz (fun i H x hs hx=>⟨xs,x,hs.tup hl,hx⟩) (fun i H y H' hs _ hy=>⟨hy.1,hy.2 xs (hs.tup hl)⟩) (fun H hs=>⟨xs,hs.tup hl,Nat.le_refl _⟩) ht he hq
end
end L2
namespace Og
open PySem L2
theorem Sg {X:Cx} {K:PySem.W.Frag} {e:Expr} {f:Str} {pos:Pos} {ta:TE} (hK:X.K=K) (he:PE X e ta) (hb:attributeBase e f X.env (eval e X.env)=eval e X.env):PE X (.Attribute e f pos) (Ww K ta f):=by
 rw [← hK]
 exact FN he hb
structure Vt (K:PySem.W.Frag) (aM:Addr) (ρ:V->R) (vs:List V) (r:R):Prop where
 w:r.w = "step"
 ts:∃ ts:List Str,V.str r.nm::r.rest=ts.map V.str/\ts.Nodup/\ts.length<=24/\∀ t∈ts,isNm t/\Q9 ρ vs "stop" t=true
 room:∃ (m:Int) (t:Tok),PySem.W.nsIn K aM r.w=some (some (.int m t))/\(((vs.filter (pw ρ r.w)).length:Nat):Int)<m
noncomputable abbrev Dc (K:PySem.W.Frag) (aB aP aM:Addr) (ρ:V->R) (vs:List V) (r:R):Prop:=Ha K aB aP aM ρ vs r \/ Vt K aM ρ vs r
theorem Dc.room {K:PySem.W.Frag} {aB aP aM:Addr} {ρ:V->R} {vs:List V} {r:R} (h:Dc K aB aP aM ρ vs r):PySem.W.nsIn K aM r.w=some none \/ ∃ (m:Int) (t:Tok),PySem.W.nsIn K aM r.w=some (some (.int m t))/\(((vs.filter (pw ρ r.w)).length:Nat):Int)<m :=
 h.elim (fun h=>h.room.elim (fun z=>.inl z.2) .inr) (fun h=>.inr h.room)
noncomputable def J5 (r:R):List Str:=(V.str r.nm::r.rest).map fun v=>match v with | .str t=>t | _=>""
theorem Hi {r:R} {ts:List Str} (h:V.str r.nm::r.rest=ts.map V.str):J5 r=ts:=by
 unfold J5
 rw [h,List.map_map]
 exact List.map_id ts
noncomputable def stN (ks:List R) (r:R):Nat:=Wd.mk ((J5 r).map fun t=>(ks.map (·.nm)).idxOf t)
structure dD (K:PySem.W.Frag) (aB aP aM:Addr) (ρ:V->R) (us:List V) (bs:List (Str × Nat)) (rk:List (Str × Nat × Int)) (ks:List R):Prop where
 eb:(us.filter (pw ρ "board")).map ρ=bs.map Dy
 er:(us.filter (pw ρ "rank")).map ρ=rk.map En
 ek:(us.filter (fun v=>Gd (ρ v).w)).map ρ=ks
 ln:∀ (i:Nat) v,us[i]? = some v->(ρ v).w = "line"->(∃ (j:Nat) (r:Str × Nat × Int) (sh lo hi:Int),rk[j]? = some r/\r.1=(ρ v).nm/\(ρ v).rest=[.int sh,.int lo,.int hi])/\∃ u∈us.take i,Gd (ρ u).w=true
 st:∀ v∈us,(ρ v).w = "step"->∃ ts:List Str,V.str (ρ v).nm::(ρ v).rest=ts.map V.str/\ts.length<=24/\∀ t∈ts,t∈ks.map (·.nm)
 b0:1<=bs.length
 b5:bs.length<=5
 sz:∀ b∈bs,b.2<=61
 nr:rk.length<=12
 nz:∀ r∈rk,r.2.1<=97
 nk:ks.length<=100
 nb:(bs.map (·.1)).Nodup
 nrr:(rk.map (·.1)).Nodup
 nn:(ks.map (·.nm)).Nodup
 len:us.length<=150
 ok:∀ (i:Nat) v,us[i]? = some v->Dc K aB aP aM ρ (us.take i) (ρ v)
structure Ql (C:Addr) (H:Hp) (x:Addr) (us:List V) (bs:List (Str × Nat)) (rk:List (Str × Nat × Int)) (ks:List R) (ls:List (List Ln)) (sts:List Nat):Prop where
 o:Vn C H x bs rk ks ls
 m:∃ (dx:Addr) (fs:List (Str × V)) (rl kd ss:Addr) (kvs:List (Key × V)),H x=some (.ins C dx fs)/\fs.lookup ("row_list" : Str)=some (.ref rl)/\fs.lookup ("knob_numbers" : Str)=some (.ref kd)/\fs.lookup ("step_sets" : Str)=some (.ref ss) /\
  H rl=some (.lst us)/\H kd=some (.dK kvs)/\(∀ (i:Nat) t,(ks.map (·.nm))[i]? = some t->CP kvs (Sum.inr t)=some (.int (i:Nat)))/\(∀ t,t ∉ ks.map (·.nm)->CP kvs (Sum.inr t)=none)/\H ss=some (.lst (sts.map fun n:Nat=>V.int (n:Int))) /\
  ∃ (bn:Addr) (kb:List (Key × V)),fs.lookup ("board_numbers" : Str)=some (.ref bn)/\H bn=some (.dK kb)/\∀ t,t ∉ bs.map (·.1)->CP kb (Sum.inr t)=none
noncomputable def DN (p:Addr) (H:Hp) (D:Addr) (ls:List (List Ln)):Prop:=∃ lv,H D=some (.lst lv)/\D ≠ p/\Paired (fun l v=>Fw H l v/\v ≠ .ref p) ls lv
theorem DN.mono {p:Addr} {H H':Hp} {D:Addr} {ls:List (List Ln)} (s:Aj H H') (h:DN p H D ls):DN p H' D ls:=by
 obtain ⟨lv,h1,h2,h3⟩:=h
 exact ⟨lv,s _ _ h1,h2,Paired.JP h3 fun _ _ q=>⟨q.1.mono s,q.2⟩⟩
theorem DN.sx {p x C dx:Addr} {fs:List (Str × V)} {H H':Hp} {D:Addr} {ls:List (List Ln)} (h:DN p H D ls) (s:SX x H H') (hx:H x=some (.ins C dx fs)):DN p H' D ls:=by
 obtain ⟨lv,h1,h2,h3⟩:=h
 refine ⟨lv,s.lst hx h1,h2,Paired.JP h3 fun _ _ q=>⟨?_,q.2⟩⟩
 obtain ⟨A,ts,e,h4,h5⟩:=q.1
 exact ⟨A,ts,e,s.lst hx h4,s.pair hx h5⟩
theorem Q5 {p:Addr} {H H':Hp} {us zs:List V} {y:V} (s:SX p H H') (hp:H p=some (.lst us)) (h:TupAt H zs y):TupAt H' zs y:=by
 obtain ⟨T,rfl,e⟩:=h
 exact ⟨T,rfl,s _ _ e fun z=>by rw [z,hp] at e; cases e⟩
theorem G5 {α:Type} {f:α->List V} {p:Addr} {H H':Hp} {us vs:List V} {l:List α} (s:SX p H H') (hp:H p=some (.lst us)) (h:Paired (fun a y=>TupAt H (f a) y) l vs):Paired (fun a y=>TupAt H' (f a) y) l vs:=Paired.JP h fun _ _ q=>Q5 s hp q
theorem Nu {p a:Addr} {H H':Hp} {us:List V} {kvs:List (Key × V)} (s:SX p H H') (hp:H p=some (.lst us)) (h:H a=some (.dK kvs)):H' a=some (.dK kvs):=s _ _ h fun z=>by rw [z,hp] at h; cases h
theorem DN.sp {p:Addr} {H H':Hp} {us:List V} {D:Addr} {ls:List (List Ln)} (h:DN p H D ls) (s:SX p H H') (hp:H p=some (.lst us)):NQ H' D ls:=by
 obtain ⟨lv,h1,h2,h3⟩:=h
 refine ⟨lv,s _ _ h1 h2,Paired.JP h3 fun _ v q=>?_⟩
 obtain ⟨⟨A,ts,rfl,h4,h5⟩,hn⟩:=q
 exact ⟨A,ts,rfl,s _ _ h4 (fun z=>hn (by rw [z])),G5 s hp h5⟩
end Og
namespace L2
open PySem PySem.Spec PyProof.Rows
noncomputable def Dp:Nat->Hp->V->V->Prop
 | 0,_,x,y=>x=y/\Eu x=true
 | n+1,H,x,y=>(x=y/\Eu x=true) \/ ∃ a b xs ys,x=V.ref a/\y=V.ref b/\((H a=some (.lst xs)/\H b=some (.lst ys)) \/ (H a=some (.tup xs)/\H b=some (.tup ys)))/\Paired (Dp n H) xs ys
theorem GC {n:Nat} {H:Hp} {x:V} (h:Eu x=true):Dp n H x x:=by
 cases n with
 | zero=>exact ⟨rfl,h⟩
 | succ n=>exact .inl ⟨rfl,h⟩
theorem Dj {R:V->V->Prop}:∀ {xs ys:List V},Paired R xs ys->∀ j,j<xs.length->R (xs.getD j .non) (ys.getD j .non)
 | _,_,.nil,j,h=>absurd h (Nat.not_lt_zero _)
 | _,_,.cons a b,0,_=>a
 | _,_,.cons a b,j+1,h=>Dj b j (Nat.lt_of_succ_lt_succ h)
section
variable {X:Cx} {pins:List (Addr × Obj)} {σ:St} {H:Hp} {s:Shared}
theorem H_ (I:Inv X pins σ H s):∀ (n:Nat) (A:Around) (x y:V) (u v:Value),A.units+n<cLine->Dp n H x y->RelV x u->RelV y v->SeqAt.EqAt A s u v true
 | 0,A,x,y,u,v,hu,h,rx,ry=>by
  obtain ⟨rfl,hf⟩:=h
  have:=Mg (A:=A) (s:=s) rx ry hf hf
  rw [Ka hf] at this
  exact this
 | n+1,A,x,y,u,v,hu,h,rx,ry=>by
  rcases h with ⟨rfl,hf⟩ | ⟨a,b,xs,ys,rfl,rfl,hab,p⟩
  ·have:=Mg (A:=A) (s:=s) rx ry hf hf
   rw [Ka hf] at this
   exact this
  ·cases rx
   cases ry
   by_cases hne:a=b
   ·subst hne
    exact SeqAt.EqAt.same _
   ·refine SeqAt.EqAt.of_refs hne ?_
    have pl:=p.length
    rcases hab with ⟨ha,hb⟩ | ⟨ha,hb⟩
    ·obtain ⟨i1,r1,p1,_⟩:=I.list (show Cz X.K H a xs from .inl (.inl ha))
     obtain ⟨i2,r2,p2,_⟩:=I.list (show Cz X.K H b ys from .inl (.inl hb))
     have l1:=r1.length
     have l2:=r2.length
     have h:=SeqAt.RcAt.lists (A:=A) (e:=fun _=>true) p1.isList p2.isList (by simp; omega) (by omega) (fun j h1 h2=>by
      have h1':j<i1.length:=by simpa using h1
      have h2':j<i2.length:=by simpa using h2
      simp only [List.getElem_toArray]
      exact H_ I n A.in1 _ _ _ _ (by show A.units+1+n<cLine; omega) (Dj p j (by omega)) (Fv r1 h1') (Fv r2 h2'))
     have e:((List.range i1.toArray.size).all fun _=>true)=true:=List.all_eq_true.mpr fun _ _=>rfl
     rw [e] at h
     exact h
    ·obtain ⟨i1,r1,p1,_⟩:=I.tuple (show Fo X.K H a xs from .inl (.inl ha))
     obtain ⟨i2,r2,p2,_⟩:=I.tuple (show Fo X.K H b ys from .inl (.inl hb))
     have l1:=r1.length
     have l2:=r2.length
     have h:=SeqAt.RcAt.tuples (A:=A) (e:=fun _=>true) p1 p2 (by omega) (fun j h1 h2=>by
      have h1':j<i1.length:=by simpa using h1
      have h2':j<i2.length:=by simpa using h2
      simp only [List.getElem_toArray]
      exact H_ I n A.in1 _ _ _ _ (by show A.units+1+n<cLine; omega) (Dj p j (by omega)) (Fv r1 h1') (Fv r2 h2'))
     have e:((List.range (min i1.toArray.size i2.toArray.size)).all fun _=>true)=true:=List.all_eq_true.mpr fun _ _=>rfl
     have e2:(i1.toArray.size == i2.toArray.size)=true:=beq_iff_eq.mpr (by simp; omega)
     rw [e,e2] at h
     exact h
end
section
variable {X:Cx}
theorem JH (n:Nat) (hu:X.A.units+(n+1)<cLine):Gu X (compareOp .Eq) (fun x y H Q=>∃ a b,x=V.ref a/\y=V.ref b/\Dp (n+1) H x y/\Q (.bl true) H):=by
 intro pins s σ H x y v u Q I rx ry h
 obtain ⟨a,b,rfl,rfl,h,k⟩:=h
 rcases h with ⟨_,hf⟩ | ⟨a',b',xs,ys,ea,eb,hab,p⟩
 ·cases hf
 cases ea
 cases eb
 cases rx
 cases ry
 have pl:=p.length
 rcases hab with ⟨ha,hb⟩ | ⟨ha,hb⟩
 ·obtain ⟨i1,r1,p1,_⟩:=I.list (show Cz X.K H a xs from .inl (.inl ha))
  obtain ⟨i2,r2,p2,_⟩:=I.list (show Cz X.K H b ys from .inl (.inl hb))
  have l1:=r1.length
  have l2:=r2.length
  refine SeqAt.eq_listAt (e:=fun _=>true) p1.isList p2.isList (by simp; omega) (by omega) (fun j h1 h2=>by
   have h1':j<i1.length:=by simpa using h1
   have h2':j<i2.length:=by simpa using h2
   simp only [List.getElem_toArray]
   exact H_ I n X.A.in1 _ _ _ _ (by show X.A.units+1+n<cLine; omega) (Dj p j (by omega)) (Fv r1 h1') (Fv r2 h2')) ⟨.bl true,H,I,?_,k⟩
  have e:((List.range i1.toArray.size).all fun _=>true)=true:=List.all_eq_true.mpr fun _ _=>rfl
  rw [e]
  exact rfl
 ·obtain ⟨i1,r1,p1,_⟩:=I.tuple (show Fo X.K H a xs from .inl (.inl ha))
  obtain ⟨i2,r2,p2,_⟩:=I.tuple (show Fo X.K H b ys from .inl (.inl hb))
  have l1:=r1.length
  have l2:=r2.length
  refine SeqAt.eq_tupleAt (e:=fun _=>true) p1 p2 (by omega) (fun j h1 h2=>by
   have h1':j<i1.length:=by simpa using h1
   have h2':j<i2.length:=by simpa using h2
   simp only [List.getElem_toArray]
   exact H_ I n X.A.in1 _ _ _ _ (by show X.A.units+1+n<cLine; omega) (Dj p j (by omega)) (Fv r1 h1') (Fv r2 h2')) ⟨.bl true,H,I,?_,k⟩
  have e:((List.range (min i1.toArray.size i2.toArray.size)).all fun _=>true)=true:=List.all_eq_true.mpr fun _ _=>rfl
  have e2:(i1.toArray.size == i2.toArray.size)=true:=beq_iff_eq.mpr (by simp; omega)
  rw [e,e2]
  exact rfl
end
end L2
namespace L2
open PySem PySem.Spec PySem.Calls PyProof.Rows
noncomputable def U9 (h:Heap) (x T C:Addr) (od:Option Addr) (fl:Value):Prop :=
 ∃ (vs ts:Array Value) (sl:Array (Option Value)) (oT:Obj),h.get? x=some ⟨.ref C,od,.fields vs,sl⟩/\vs[1]? = some (.ref T)/\T ≠ x/\h.get? T=some oT/\oT.data=.fields ts/\ts[3]? = some fl
structure Mv (fs:List Addr) (x T:Addr) (h h':Heap):Prop where
 keep:∀ b o,h.get? b=some o->b ≠ x->b ≠ T->b ∉ fs->h'.get? b=some o
 any:∀ b o,h.get? b=some o->b ≠ x->b ≠ T->∃ sl,h'.get? b=some { o with slots:=sl }
section
variable {M:Model} {A:Around} {E:Value->Shared->Prop} {s:Shared} {base:Heap} {env:Env} {outer:List Env} {L x T C:Addr} {od:Option Addr} {Q:Unit->Shared->Prop}
theorem Iz {vs:Array Value} {sl:Array (Option Value)} {head:Value} {hadNext:Bool} (hfr:A.frames=some (env::outer)) (hl:s.heap.FunFrames base (env::outer)) (hf:env.frame=some L)
  (he:s.heap.get? x=some ⟨.ref C,od,.fields vs,sl⟩) (hsz:1<vs.size)
  (h:∀ h' T',U9 h' x T' C od (rawInt L)->Mv (frs (env::outer)) x x s.heap h'->s.heap.get? T'=none->Q () { s with heap:=h' }) :
  wpAny M A (do let a ← frameOf env; let pl ← entryPlaceOf L hadNext; let b ← EntryCells.newEntry head a .none (rawInt L) .none pl; setField (.ref x) 1 b) Q E s:=by
 have hene:x ∉ (env::outer).filterMap (·.frame):=fun hm=>by
  obtain ⟨_,o,ho,hnf⟩:=hl.mem hm
  rw [he] at ho; injection ho with ho; subst ho; exact hnf vs rfl
 refine wpAny_bind (wpAny_frameOf_fun hfr hl hf fun h₁ hs₁=>?_)
 refine wpAny_bind (wpAny_entryPlaceOf fun pl hpl=>?_)
 unfold EntryCells.newEntry newFields
 refine wpAny_bind (wpAny_newObj_type ?_ (hpl.sizeOk5 _ _ _ _ _))
 have he₁:h₁.get? x=some ⟨.ref C,od,.fields vs,sl⟩:=(hs₁.2.1 x hene).trans he
 have he₂:=Heap.get?_push_of_some (h:=h₁) { cls:=.type "traceback",dict:=none,data:=.fields ([head,.ref L,.none,rawInt L,.none]++(if pl.isEmpty then List.replicate 6 Value.none else pl)).toArray } he₁
 refine wpAny_setField he₂ rfl hsz ?_
 have hTe:h₁.objs.size ≠ x:=Nat.ne_of_gt (Heap.lt_size he₁)
 have hd₃:=Obj.data_mapFields (o:=⟨.ref C,od,.fields vs,sl⟩) rfl (·.setIfInBounds 1 (Value.ref h₁.objs.size))
 have he₃:=Heap.get?_update_self (Obj.mapFields (·.setIfInBounds 1 (Value.ref h₁.objs.size))) he₂ (Obj.isFreed_of_fields hd₃)
 have hT₃:=(Heap.get?_update_other (h₁.push { cls:=.type "traceback",dict:=none,data:=.fields ([head,.ref L,.none,rawInt L,.none]++(if pl.isEmpty then List.replicate 6 Value.none else pl)).toArray })
  (Obj.mapFields (·.setIfInBounds 1 (Value.ref h₁.objs.size))) (Ne.symm hTe)).trans (Heap.get?_push_size h₁ rfl)
 refine h _ h₁.objs.size ⟨_,_,sl,_,he₃,by simp [hsz],hTe,hT₃,rfl,by first | (simp; done) | (rcases hpl with rfl | ⟨_,_,_,_,_,_,_,rfl⟩ <;> simp)⟩ ⟨fun b o hb hx _ hn=>?_,fun b o hb hx _=>?_⟩ ?_
 ·rw [Heap.get?_update_other _ _ (Ne.symm hx)]
  exact Heap.get?_push_of_some _ ((hs₁.2.1 b hn).trans hb)
 ·obtain ⟨sl',hs⟩:=hs₁.2.2 b o hb
  rw [Heap.get?_update_other _ _ (Ne.symm hx)]
  exact ⟨sl',Heap.get?_push_of_some _ hs⟩
 ·refine Heap.get?_none_of_le ?_
  rw [hs₁.1]
  exact Nat.le_refl _
theorem Mf {vs:Array Value} {sl:Array (Option Value)} (hfr:A.frames=some (env::outer)) (hl:s.heap.FunFrames base (env::outer)) (hf:env.frame=some L)
  (he:s.heap.get? x=some ⟨.ref C,od,.fields vs,sl⟩) (h1:vs[1]? = some .none)
  (h:∀ h' T',U9 h' x T' C od (rawInt L)->Mv (frs (env::outer)) x x s.heap h'->s.heap.get? T'=none->Q () { s with heap:=h' }):wpAny M A (noteFrame (.ref x) env) Q E s:=by
 unfold noteFrame
 simp only [hf]
 refine wpAny_bind (wpAny_field he rfl h1 ?_)
 rw [if_neg (by decide)]
 exact Iz hfr hl hf he (Array.getElem?_eq_some_iff.mp h1).1 h
theorem Ni (hfr:A.frames=some (env::outer)) (hl:s.heap.FunFrames base (env::outer)) (hf:env.frame=some L) (hy:U9 s.heap x T C od .none)
  (h:∀ h' T',U9 h' x T' C od (rawInt L)->Mv (frs (env::outer)) x T s.heap h'->s.heap.get? T'=none->Q () { s with heap:=h' }):wpAny M A (noteFrame (.ref x) env) Q E s:=by
 obtain ⟨vs,ts,sl,oT,he,h1,hTe,hT,hdT,h3⟩:=hy
 have hsz3:=(Array.getElem?_eq_some_iff.mp h3).1
 unfold noteFrame
 simp only [hf]
 refine wpAny_bind (wpAny_field he rfl h1 ?_)
 rw [if_pos (show (Value.ref T != Value.none)=true from by simp)]
 refine wpAny_bind (wpAny_field hT hdT h3 ?_)
 rw [if_neg (show ¬ ((Value.none == rawInt L)=true) from by simp [rawInt])]
 refine wpAny_bind (wpAny_setField hT hdT hsz3 ?_)
 have other:∀ b,b ≠ T->(s.heap.update T (Obj.mapFields (·.setIfInBounds 3 Value.none))).get? b=s.heap.get? b:=fun b hb=>Heap.get?_update_other _ _ (Ne.symm hb)
 have hTn:=Heap.get?_update_self (Obj.mapFields (·.setIfInBounds 3 Value.none)) hT (Obj.isFreed_of_fields (Obj.data_mapFields hdT _))
 have noRecord:∀ b o,s.heap.get? b=some o->(∀ vs,o.data ≠ .fields vs)->b ≠ T:=fun b o hb hnf q=>by
  rw [q,hT] at hb; injection hb with hb; subst hb; exact hnf ts hdT
 refine Iz (s:={ s with heap:=s.heap.update T (Obj.mapFields (·.setIfInBounds 3 Value.none)) }) hfr (hl.of_keeps fun b o hb hnf=>⟨o,(other b (noRecord b o hb hnf)).trans hb,rfl⟩) hf ((other x (Ne.symm hTe)).trans he) (Array.getElem?_eq_some_iff.mp h1).1 fun h' T' y m n=>?_
 have nT:T' ≠ T:=fun z=>by
  subst z
  have n':(s.heap.update T' (Obj.mapFields (·.setIfInBounds 3 Value.none))).get? T'=none:=n
  rw [hTn] at n'; cases n'
 exact h h' T' y ⟨fun b o hb hx ht hn=>m.keep b o ((other b ht).trans hb) hx hx hn,fun b o hb hx ht=>m.any b o ((other b ht).trans hb) hx hx⟩ ((other T' nT).symm.trans n)
theorem Ei {fl:Value} (hy:U9 s.heap x T C od fl) (h:∀ h',U9 h' x T C od .none->Mv [] x T s.heap h'->Q () { s with heap:=h' }):wpAny M A (setFlight (.ref x) none) Q E s:=by
 obtain ⟨vs,ts,sl,oT,he,h1,hTe,hT,hdT,h3⟩:=hy
 have hsz3:3<ts.size:=(Array.getElem?_eq_some_iff.mp h3).1
 have other:∀ b,b ≠ T->(s.heap.update T (Obj.mapFields (·.setIfInBounds 3 ((none:Option Addr).elim Value.none fun f=>rawInt f)))).get? b=s.heap.get? b :=
  fun b hb=>Heap.get?_update_other _ _ (Ne.symm hb)
 unfold setFlight
 refine wpAny_bind (wpAny_field he rfl h1 ?_)
 rw [if_pos (show (Value.ref T != Value.none)=true from by simp)]
 refine wpAny_setField hT hdT hsz3 (h _ ?_ ⟨fun b o hb _ ht _=>(other b ht).trans hb,fun b o hb _ ht=>⟨o.slots,(other b ht).trans hb⟩⟩)
 exact ⟨vs,_,sl,_,(other x (Ne.symm hTe)).trans he,h1,hTe,Heap.get?_update_self _ hT (Obj.isFreed_of_fields (Obj.data_mapFields hdT _)),Obj.data_mapFields hdT _,by simp [hsz3]⟩
end
section
variable {P:Program} {w:World} {fs:List Addr} {H H':Hp} {h h1 h2 h3:Heap} {x T T':Addr}
theorem L_ {h:Heap} {b y:Addr} {o:Obj} (e:h.get? b=some o) (n:h.get? y=none):b ≠ y:=fun z=>by
 rw [z,n] at e
 cases e
theorem Dr.mv (k:Dr P w H h) (m:Mv fs x T h h1) (hx:H x=none) (hT:H T=none) (hf:∀ b∈fs,H b=none):Dr P w H h1:=fun b u e=>by
 have ne:∀ c,H c ≠ none->c ≠ x/\c ≠ T/\c ∉ fs:=fun c q=>⟨fun z=>q (z ▸ hx),fun z=>q (z ▸ hT),fun z=>q (hf c z)⟩
 refine (k b u e).stay (fun c v hc q=>?_) (fun _ q=>q) fun _ _ q=>q
 have hq:H c ≠ none:=by
  rcases hc with z | z
  ·rw [z,e]; simp
  ·rw [z]; simp
 obtain ⟨a1,a2,a3⟩:=ne c hq
 exact m.keep c v q a1 a2 a3
theorem Un.mv {gs:List Addr} (u:Un gs [] H H' h h1) (m:Mv fs x T h1 h2) (hx:h.get? x=none) (hT:h.get? T=none) (hf:∀ b∈fs,b ∉ gs->h.get? b=none):Un gs [] H H' h h2:=by
 have ne:∀ b o,h.get? b=some o->b ≠ x/\b ≠ T:=fun b o e=>⟨L_ e hx,L_ e hT⟩
 refine ⟨fun b o e n hb hx'=>?_,fun b o e n hb hx'=>?_,u.free,fun b o e hx'=>?_,u.tups,u.frzs,u.tbls⟩
 ·obtain ⟨a1,a2⟩:=ne b o e
  refine m.keep b o (u.keep b o e n hb hx') a1 a2 fun z=>?_
  have:=hf b z hb
  rw [e] at this; cases this
 ·obtain ⟨a1,a2⟩:=ne b o e
  obtain ⟨sl,e1⟩:=u.slot b o e n hb hx'
  obtain ⟨sl',e2⟩:=m.any b _ e1 a1 a2
  exact ⟨sl',e2⟩
 ·obtain ⟨a1,a2⟩:=ne b o e
  obtain ⟨o',e1⟩:=u.there b o e hx'
  obtain ⟨sl,e2⟩:=m.any b o' e1 a1 a2
  exact ⟨_,e2⟩
end
noncomputable def Pr (P:Program) (w:World):Nq:=fun outer H s E e s'=>∃ (x T C:Addr) (od:Option Addr) (H':Hp),e=.ref x/\s'.os=s.os/\AllBare s'.gens/\U9 s'.heap x T C od .none/\s.heap.get? x=none/\s.heap.get? T=none /\
 H' x=none/\H' T=none/\Dr P w H' s'.heap/\Un (frs outer) [] H H' s.heap s'.heap/\E (.ref C) od H'
section
variable {X:Cx} {C:Addr} {x:Str} {e:Expr} {es:List Expr} {t:TA} {np cpos pos:Pos} {E:XK}
end
theorem K_ {prog:Program} {w:World} {A:Around} {E:Value->Shared->Prop} {s:Shared} {K:PySem.W.Frag} {x C O:Addr} {od:Option Addr} {d:Data} {sl:Array (Option Value)} {b:Bool} {Q:Bool->Shared->Prop}
  (X:K.In s.heap) (he:s.heap.get? x=some ⟨.ref C,od,d,sl⟩) (q:PySem.W.excIn K O Pn "ValueError.__new__" = true) (hm:PySem.W.mroIn K C (.ref O)=some b) (h:Q b s):wpAny (model prog w) A (excMatches (.ref x) (.ref O)) Q E s:=by
 obtain ⟨bm,N,nm,qn,bs,hdct,sn,sub,ab,col,dd,k0,k1,k2,k3,k5,mN,hC,hN,hni,TL⟩:=Sw X q
 have hbase:bm.contains (.type "BaseException")=true:=TL.hasType (by decide)
 have hcB:(Value.ref O::bm).contains (.type "BaseException")=true:=by rw [List.contains_cons,hbase,Bool.or_true]
 have L:=PySem.W.looks_mroIn (M:=model prog w) X hm
 have f:=tc_notTuple
 obtain ⟨hp,g,dr,tk,os⟩:=s
 unfold excMatches
 repeat (first | with_reducible refine wpAny_loadPart_at he ?_ | with_reducible refine wpAny_loadPart_at hC ?_ | (with_reducible refine wpAny_isSubtype_exc hC ?_; rw [hcB]) | with_reducible refine L.at ?_ | wp_step)
 cases b <;> (wp_walk; exact h)
theorem Un.adopt {gs:List Addr} {H1 H2:Hp} {h h':Heap} {x:Addr} {o:HO} (u:Un gs [] H1 H2 h h') (hx:h.get? x=none) (hn:H2 x=none):Un gs [] H1 (upd H2 x o) h h' :=
 ⟨u.keep,u.slot,fun b ob e n hb=>by rw [Ar (L_ e hx)]; exact u.free b ob e n hb,u.there,fun b xs e=>by rw [Ar (Am (u.tups b xs e) hn)]; exact u.tups b xs e,
  fun b ob v e=>by rw [Ar (Am (u.frzs b ob v e) hn)]; exact u.frzs b ob v e,fun b ps e=>by
   obtain ⟨more,e1⟩:=u.tbls b ps e
   exact ⟨more,by rw [Ar (Am e1 hn)]; exact e1⟩⟩
noncomputable abbrev Cx.inX (X:Cx) (x:Addr):Cx:={ X with A:=X.A.mark (some (.ref x)),calm:=false }
section
variable {X:Cx} {pins:List (Addr × Obj)} {σ:St} {H:Hp} {s:Shared}
theorem Inv.inX (I:Inv X pins σ H s) (x:Addr):Inv (X.inX x) pins σ H s :=
 ⟨⟨I.ok.mod,I.ok.kind,I.ok.glob,I.ok.blt,I.ok.above,I.ok.inj,I.ok.has,I.ok.cab,(fun z=>nomatch z),I.ok.frames,I.ok.stk,I.ok.exf,I.ok.bs,I.ok.bsz,I.ok.noex,I.ok.exfs,I.ok.Hc,I.ok.frf⟩,
  I.os,I.bare,I.base,I.loc,I.cell,I.free,I.freeC,I.pin,I.hok,I.len⟩
theorem Inv.S_ {x:Addr} (ok:X.Ok) (I:Inv (X.inX x) pins σ H s):Inv X pins σ H s:=⟨ok,I.os,I.bare,I.base,I.loc,I.cell,I.free,I.freeC,I.pin,I.hok,I.len⟩
theorem name_goes {M:Model} {A:Around} {E:Value->Shared->Prop} {i:Nat} {n:Str} {pos:Pos} {Q:Unit->Shared->Prop} (I:Inv X pins σ H s) (hN:X.N.Nodup) (hi:X.N[i]? = some n) (hk:X.env.kindOf n=some .local)
  (h:∀ s',Inv X pins (σ.set i none) H s'->Q () s'):wpAny M A (do bindName X.env n .none; unbindBehindTheSuite X.env n pos) Q E s:=by
 obtain ⟨m,hn,hl⟩:=id I.loc
 have hcls:(X.env.scope.kind == .class || (X.env.scope.kind == .module && X.env.locals != X.env.globals))=false:=by rw [I.ok.kind]; rfl
 have hiσ:i<σ.length:=by rw [I.len]; exact (List.getElem?_eq_some_iff.mp hi).1
 refine wpAny_nameGoes_keeps hk hn hcls fun h' v hn' hs=>h _ ?_
 obtain ⟨oL,_,_,hoL,_⟩:=id hn
 have nL:∀ b o,X.s₀.heap.get? b=some o->b ≠ X.env.locals:=fun b o e=>Nat.ne_of_lt (Nat.lt_of_lt_of_le (Heap.lt_size e) I.ok.above)
 have tracked:Dr X.prog X.w H h':=fun b ob e=>by
  refine (I.hok b ob e).stay (fun c w' hc q=>(hs.2 c ?_).trans q) (fun _ q=>q) fun _ _ q=>q
  rintro rfl
  have hfree:=I.free
  rcases hc with rfl | hc
  ·rw [hfree] at e; cases e
  ·rw [hfree] at hc; cases hc
 refine ⟨I.ok,I.os,I.bare,⟨fun b o e n hb hx=>?_,fun b o e n hb hx=>?_,I.base.free,fun b o e hx=>?_,I.base.tups,I.base.frzs,I.base.tbls⟩,⟨_,hn',fun j y v' e1 e2 e3=>?_⟩,fun y c e=>?_,I.free,I.freeC,fun p hp=>?_,tracked,by simpa using I.len⟩
 ·exact (hs.2 b (nL b o e)).trans (I.base.keep b o e n hb hx)
 ·obtain ⟨sl,e1⟩:=I.base.slot b o e n hb hx
  exact ⟨sl,(hs.2 b (nL b o e)).trans e1⟩
 ·obtain ⟨o',e1⟩:=I.base.there b o e hx
  exact ⟨o',(hs.2 b (nL b o e)).trans e1⟩
 ·by_cases hj:j=i
  ·subst hj
   rw [List.getElem?_set_self hiσ] at e2
   cases e2
  ·rw [List.getElem?_set_ne (Ne.symm hj)] at e2
   obtain ⟨u',r',q⟩:=hl j y v' e1 e2 e3
   refine ⟨u',r',?_⟩
   rcases q with ⟨k,e⟩ | ⟨k,c,e,z⟩
   ·refine .inl ⟨k,?_⟩
    have:y ≠ n:=fun e=>hj (JG hN e1 (e ▸ hi))
    simp [this,e]
   ·exact .inr ⟨k,c,e,z.sameBut hs (I.Ti y c e)⟩
 ·obtain ⟨w',z⟩:=I.cell y c e
  exact ⟨w',z.sameBut hs (I.Ti y c e)⟩
 ·obtain ⟨e,n,ne,nf,d⟩:=I.pin p hp
  exact ⟨(hs.2 p.1 ne).trans e,n,ne,nf,d⟩
end
noncomputable def Ends.drop (D:Ends) (i:Nat):Ends:={ nx:=fun σ H=>D.nx (σ.set i none) H,rt:=D.rt,bk:=fun σ H=>D.bk (σ.set i none) H,ct:=fun σ H=>D.ct (σ.set i none) H }
section
variable {X:Cx} {k i:Nat} {f O:Addr} {fd:FuncData} {ps:List Str} {sp:Sp} {dvs:List V} {ds:List Value} {fx cn n:Str} {p np cpos epos hpos pos:Pos} {e:Expr} {es:List Expr} {t:TA} {b0:Stmt} {suite:List Stmt} {ts:TS}
end
structure Yd (k:Nat) (A:Around):Prop where
 dp:A.depth+3 * k+5<recursionLimit
 un:A.units+16 * k+200<cLine
structure cz (P:Program) (w:World) (K:PySem.W.Frag) (mg:Str->Option Value) (base:Heap) (CX:Nq) (k:Nat) (f:Addr) (fd:FuncData) (ps:List Str) (sp:Sp):Prop where
 len:∀ vs H Q E,sp vs H Q E->vs.length=ps.length
 run:∀ (A:Around) (outer:List Env) (s:Shared) (H:Hp) (args:Args) (us:List Value) (vs:List V) (Q:VK) (E:XK),Yd k A->Kg P w K mg base A outer s H->BindsTo s fd args (ps.zip us)->Vals vs us->sp vs H Q E ->
  codeAny (model P w) A (.call (.ref f) args) (CR CX outer P w H s Q E) s
section
variable {P:Program} {w:World} {K:PySem.W.Frag} {mg:Str->Option Value} {base:Heap}
theorem Dn.cU {x qual:Str} {st:Stmt} {f:Addr} {fd:FuncData} {N ps:List Str} {k:Nat} {sp:Sp} (F:Dn K x qual st f fd) (S:Ax N ps (Ae st)) (len:∀ vs H Q E,sp vs H Q E->vs.length=ps.length)
  (hbody:∀ (cdv:Value) (A:Around) (outer:List Env) (s:Shared) (H:Hp) (vs:List V) (Q:VK) (E:XK),BZ k (A.deeper (envOfC qual (Ae st) s.heap.objs.size f cdv))->sp vs H Q E ->
   ∃ t,Mw (Jz (Pr P w) P w K mg base N qual (Ae st) f cdv A outer s H E) (Cp st) t/\t { nx:=fun _ H'=>Q .non H',rt:=Q } (start N vs) H):A_ P w K mg base (Pr P w) (k+1) f fd ps sp:=by
 obtain ⟨oc,od,kV,doc,pm,an,cdv,ct,osl,rfl,lk,hcd⟩:=F.ex
 refine UL lk hcd S len fun A outer s H vs Q E hr hsp=>?_
 obtain ⟨t,h,q⟩:=hbody cdv A outer s H vs Q E hr hsp
 exact ⟨t,h,q⟩
end
section
variable {X:Cx} {CX:Nq} {k:Nat} {f:Addr} {fd:FuncData} {ps:List Str} {sp:Sp} {dvs:List V} {ds:List Value} {E:XK} {x:Str} {p pos:Pos} {e:Expr} {es:List Expr} {t:TA}
end
end L2
namespace L2
open PySem PySem.Spec PySem.Calls PyProof.Rows
theorem Un.bw {fs gs:List Addr} {H H1 H2:Hp} {h h1 h2:Heap} (a:Un fs [] H H1 h h1) (b:Un gs [] H1 H2 h1 h2) (hs:∀ x∈gs,x∈fs \/ h.get? x=none):Un fs [] H H2 h h2 where
 keep:=fun c o q n hc hx=>by
  have hg:c ∉ gs:=fun z=>by
   rcases hs c z with e | e
   ·exact hc e
   ·rw [q] at e; cases e
  exact b.keep c o (a.keep c o q n hc hx) (a.free c o q n hx) hg hx
 slot:=fun c o q n hc hx=>by
  obtain ⟨sl,e⟩:=a.slot c o q n hc hx
  obtain ⟨sl',e'⟩:=b.any e (a.free c o q n hx) hx
  exact ⟨sl',e'⟩
 free:=fun c o q n hx=>by
  obtain ⟨o',e⟩:=a.there c o q hx
  exact b.free c o' e (a.free c o q n hx) hx
 there:=fun c o q hx=>by
  obtain ⟨o',e⟩:=a.there c o q hx
  exact b.there c o' e hx
 tups:=fun c xs q=>b.tups c xs (a.tups c xs q)
 frzs:=fun c o u q=>b.frzs c o u (a.frzs c o u q)
 tbls:=fun c ps q=>by
  obtain ⟨m1,e1⟩:=a.tbls c ps q
  obtain ⟨m2,e2⟩:=b.tbls c _ e1
  exact ⟨m1++m2,by rw [e2,Array.append_assoc]⟩
theorem Rr {P:Program} {w:World} {K:PySem.W.Frag} {mg:Str->Option Value} {base:Heap} {N:List Str} {qual:Str} {scope:Scope} {f:Addr} {cd:Value} {A:Around} {outer:List Env} {s:Shared} {H:Hp} {E:XK} :
  F_ (Pr P w) (Jz (Pr P w) P w K mg base N qual scope f cd A outer s H E) E:=by
 rintro pins σ H1 s1 e s' I ⟨x,T,C,od,H2,rfl,os,bare,y,nx,nT,hx2,hT2,hok2,un2,q⟩
 have gone:∀ b,s1.heap.get? b=none->s.heap.get? b=none:=fun b e=>by
  cases z:s.heap.get? b with
  | none=>rfl
  | some o =>
   obtain ⟨o',e'⟩:=I.base.there b o z (by show b ∉ ([]:List Addr); simp)
   rw [e] at e'; cases e'
 have os1:s1.os=s.os:=I.os
 obtain ⟨h1,g,dr,tk,os'⟩:=s'
 obtain rfl:os'=s1.os:=os
 have I2:=I.call (h':=h1) (g':=g) (d':=dr) (t':=tk) (ch:=[]) un2 hok2 bare (fun b z=>absurd z (by simp))
 have hfr:(A.deeper (envOfC qual scope s.heap.objs.size f cd)).frames=some (envOfC qual scope s.heap.objs.size f cd::outer):=I.ok.frames
 have hff:h1.FunFrames base (envOfC qual scope s.heap.objs.size f cd::outer):=I2.stack
 have frees:∀ b∈frs (envOfC qual scope s.heap.objs.size f cd::outer),H2 b=none:=I2.GF
 have fsN:∀ b∈frs (envOfC qual scope s.heap.objs.size f cd::outer),b∈frs outer \/ s.heap.get? b=none:=fun b hb=>by
  rcases List.mem_cons.mp (show b∈s.heap.objs.size::frs outer from hb) with z | z
  ·rw [z]; exact .inr (Heap.get?_none_of_le (Nat.le_refl _))
  ·exact .inl z
 have u0:Un (frs outer) [] H H1 s.heap s1.heap:=I.base
 have u2:Un (frs outer) [] H H2 s.heap h1:=u0.bw (show Un (frs (envOfC qual scope s.heap.objs.size f cd::outer)) [] H1 H2 s1.heap h1 from un2) fsN
 show wpAny (model P w) (A.deeper (envOfC qual scope s.heap.objs.size f cd)) (leaving (envOfC qual scope s.heap.objs.size f cd) (.ref x)) _ _ _
 unfold leaving
 refine wpAny_bind (Ni (s:=⟨h1,g,dr,tk,s1.os⟩) (L:=s.heap.objs.size) hfr hff rfl y fun h3 T3 y3 m3 n3=>?_)
 refine Ei (s:=⟨h3,g,dr,tk,s1.os⟩) y3 fun h4 y4 m4=>?_
 have nT3:s.heap.get? T3=none:=by
  cases z:s.heap.get? T3 with
  | none=>rfl
  | some o =>
   obtain ⟨o',e'⟩:=u2.there T3 o z (by simp)
   have n3':h1.get? T3=none:=n3
   rw [n3'] at e'; cases e'
 have hT3:H2 T3=none:=hok2.none_of n3
 have fs2:∀ b∈frs (envOfC qual scope s.heap.objs.size f cd::outer),b ∉ frs outer->s.heap.get? b=none:=fun b hb hn=>(fsN b hb).resolve_left hn
 have u3:=u2.mv m3 (gone x nx) (gone T nT) fs2
 have u4:=u3.mv m4 (gone x nx) nT3 (fun _ z=>nomatch z)
 have k3:Dr P w H2 h3:=Dr.mv (P:=P) (w:=w) hok2 m3 hx2 hT2 frees
 have k4:Dr P w H2 h4:=k3.mv m4 hx2 hT3 (fun _ z=>nomatch z)
 exact ⟨x,T3,C,od,H2,rfl,os1,bare,y4,gone x nx,nT3,hx2,hT3,k4,u4,q⟩
end L2
namespace L2
open PySem PySem.Spec PySem.Calls PyProof.Rows
section
variable {X:Cx} {o i value:Expr} {td ty tv:TE} {pos pos':Pos}
end
section
variable {X:Cx} {k i:Nat} {f O:Addr} {fd:FuncData} {ps:List Str} {sp:Sp} {dvs:List V} {ds:List Value} {fx cn n:Str} {p np cpos epos hpos pos:Pos} {e:Expr} {es:List Expr} {t:TA} {b0:Stmt} {suite:List Stmt} {ts:TS}
end
end L2
namespace L2
open PySem PySem.Spec PySem.Calls PyProof.Rows
noncomputable abbrev XR:=Value->Option Addr->St->Hp->Prop
noncomputable def XT (X:Cx) (pins:List (Addr × Obj)) (ER:XR) (e:Value) (s':Shared):Prop:=∃ σ H1 s1,Inv X pins σ H1 s1/\Pr X.prog X.w X.stack H1 s1 (fun C od H2=>ER C od σ H2) e s'
noncomputable def cR (X:Cx) (ER:XR) (st:Stmt) (t:TS):Prop :=
 ∀ (pins:List (Addr × Obj)) (s:Shared) (σ:St) (H:Hp) (D:Ends),Inv X pins σ H s->t D σ H->wpAny (model X.prog X.w) X.A (exec st X.env) (SP X pins D) (XT X pins ER) s
noncomputable def Xu (X:Cx) (ER:XR) (st:List Stmt) (t:TS):Prop :=
 ∀ (pins:List (Addr × Obj)) (s:Shared) (σ:St) (H:Hp) (D:Ends),Inv X pins σ H s->t D σ H->wpAny (model X.prog X.w) X.A (execs st X.env) (SP X pins D) (XT X pins ER) s
noncomputable def PET (X:Cx) (ER:XR) (e:Expr) (t:TE):Prop :=
 ∀ (pins:List (Addr × Obj)) (s:Shared) (σ:St) (H:Hp) (Q:VK),Inv X pins σ H s->t σ H Q->wpAny (model X.prog X.w) X.A (eval e X.env) (EP X pins σ Q) (XT X pins ER) s
section
variable {X:Cx} {ER:XR} {st:Stmt} {sts:List Stmt} {t u:TS} {pos:Pos}
theorem Qc (h1:cR X ER st t):Xu X ER [st] t:=by
 intro pins s σ H D I h
 refine wpAny_execs_cons (Bs (h1 pins s σ H D I h) fun f s1 q=>?_)
 cases f with
 | next=>exact wpAny_execs_nil q
 | brk=>exact q
 | cont=>exact q
 | ret u=>exact q
theorem Qt {e:Expr} {te:TE} (he:PET X ER e te) (hs:swapsWith e none pos.line X.env=pure false:=by rfl):cR X ER (.Expr e pos) (Ur te):=by
 intro pins s σ H D I h
 exact wpAny_Expr_any (Bs (he pins s σ H _ I h) fun v s1 ⟨x,H1,I1,r1,q1⟩=>⟨σ,H1,I1,q1⟩) I.quiet hs
end
section
variable {X:Cx} {ER:XR} {k:Nat} {f C:Addr} {fd:FuncData} {ps:List Str} {sp:Sp} {dvs:List V} {ds:List Value} {x m:Str} {p pos apos:Pos} {e o:Expr} {es:List Expr} {ta:TE} {t:TA}
end
noncomputable def Zj (K:PySem.W.Frag) (O:Addr) (i:Nat) (ts:TS) (D:Ends):XR:=fun C od σ H2=>∃ Ca,C=.ref Ca/\PySem.W.mroIn K Ca (.ref O)=some true/\∀ x,H2 x=none->ts (D.drop i) (σ.set i (some (.ref x))) (upd H2 x (HN x Ca od))
noncomputable def Wx (K:PySem.W.Frag) (tb:XR->TS) (O:Addr) (i:Nat) (ts:TS):TS:=fun D σ H=>tb (Zj K O i ts D) D σ H
section
variable {X:Cx} {i:Nat} {O:Addr} {cn n:Str} {np hpos pos:Pos} {body:List Stmt} {b0:Stmt} {suite:List Stmt} {ts:TS} {tb:XR->TS}
theorem R7 (hb:∀ ER,Xu X ER body (tb ER)) (hgO:Gl X cn) (hmO:X.mg cn=some (.ref O)) (qO:PySem.W.excIn X.K O Pn "ValueError.__new__" = true) (hN:X.N.Nodup) (hi:X.N[i]? = some n) (hlo:X.env.scope.names.lookup n=some .local)
  (hs:∀ x,Mw (X.inX x) (b0::suite) ts) (hxe:X.xe=fun _ _=>False:=by rfl) (hst:X.stack=X.env::X.outer:=by rfl) (hfrm:X.env.frame=some X.env.locals:=by rfl) (hdO:(cn == ("__debug__" : Str))=false:=by decide) :
  PS X (.Try body [.ExceptHandler (some (.Name cn np)) (some n) (b0::suite) hpos] [] [] pos) (Wx X.K tb O i ts):=by
 intro pins s₀ σ₀ H₀ D I₀ h₀
 refine wpAny_Try_except (wpAny_mono (hb _ pins s₀ σ₀ H₀ D I₀ h₀) (fun fl s' q=>?_) fun e' s' q=>?_)
 ·cases fl with
  | next=>exact wpAny_execs_nil q
  | brk=>exact q
  | cont=>exact q
  | ret u=>exact q
 ·obtain ⟨σ,H1,s1,I1,x,T,C,od,H2,rfl,os,bare,y,nx,nT,hx2,hT2,hok2,un2,Ca,eC,hmro,hts⟩:=q
  cases eC
  obtain ⟨h1,g,dr,tk,os'⟩:=s'
  obtain rfl:os'=s1.os:=os
  have I2:Inv X pins σ H2 ⟨h1,g,dr,tk,s1.os⟩:=I1.call (h':=h1) (g':=g) (d':=dr) (t':=tk) (ch:=[]) un2 hok2 bare (fun b z=>absurd z (by simp))
  have hfr:=I1.ok.frames
  have hff:=I2.stack
  rw [hst] at hfr hff
  refine Ni (s:=⟨h1,g,dr,tk,s1.os⟩) hfr hff hfrm y fun h3 T3 y3 m3 n3=>?_
  refine Ei (s:=⟨h3,g,dr,tk,s1.os⟩) y3 fun h4 y4 m4=>?_
  have nT3:s1.heap.get? T3=none:=by
   cases z:s1.heap.get? T3 with
   | none=>rfl
   | some o =>
    obtain ⟨o',e'⟩:=un2.there T3 o z (by simp)
    have n3':h1.get? T3=none:=n3
    rw [n3'] at e'; cases e'
  have hT3:H2 T3=none:=hok2.none_of n3
  have m3':Mv (frs X.stack) x T h1 h3:=by rw [hst]; exact m3
  have u3:=un2.mv m3' nx nT (fun b z z'=>absurd z z')
  have u4:=u3.mv m4 nx nT3 (fun _ z=>nomatch z)
  have k3:Dr X.prog X.w H2 h3:=hok2.mv m3' hx2 hT2 I2.GF
  have k4:Dr X.prog X.w H2 h4:=k3.mv m4 hx2 hT3 (fun _ z=>nomatch z)
  have I4:Inv X pins σ H2 ⟨h4,g,dr,tk,s1.os⟩:=I1.call (h':=h4) (g':=g) (d':=dr) (t':=tk) (ch:=[]) u4 k4 bare (fun b z=>absurd z (by simp))
  refine wpAny_handleBy_cons (codeAny_handlers_test (E_ (I4.inX x) hgO hmO ?_ hdO)) (by intro q; cases q)
  obtain ⟨ws,wt,sl,oT,ex,_⟩:=id y4
  refine K_ (s:=⟨h4,g,dr,tk,s1.os⟩) I4.Ey ex qO hmro ?_
  refine codeAny_handlers_suite_as (Ei (s:=⟨h4,g,dr,tk,s1.os⟩) y4 fun h5 y5 m5=>?_)
  have u5:=(u4.mv m5 nx nT3 (fun _ z=>nomatch z)).adopt (o:=HN x C od) nx hx2
  obtain ⟨ws5,wt5,sl5,oT5,ex5,_⟩:=id y5
  have k5:Dr X.prog X.w (upd H2 x (HN x C od)) h5:=(k4.mv m5 hx2 hT3 (fun _ z=>nomatch z)).Wo (fun _ _ e=>e) hx2 (Sx ex5 rfl)
  have I5:Inv X pins σ (upd H2 x (HN x C od)) ⟨h5,g,dr,tk,s1.os⟩:=I1.call (h':=h5) (g':=g) (d':=dr) (t':=tk) (ch:=[]) u5 k5 bare (fun b z=>absurd z (by simp))
  refine Jc (s:=⟨h5,g,dr,tk,s1.os⟩) I5 hN hi (.inl hlo) (show RelV (.ref x) (.ref x) from rfl) (fun s6 I6 _=>?_) (.inr hlo)
  refine wpAny_mono (hs x pins s6 _ _ _ (I6.inX x) (hts x hx2)) (fun fl s7 h7=>?_) fun e' s7 h7=>?_
  ·cases fl with
   | next=>obtain ⟨σ',H',J,qq⟩:=h7; exact name_goes (J.S_ I1.ok) hN hi hlo fun s8 J8=>⟨_,_,J8,qq⟩
   | brk=>obtain ⟨σ',H',J,qq⟩:=h7; exact name_goes (J.S_ I1.ok) hN hi hlo fun s8 J8=>⟨_,_,J8,qq⟩
   | cont=>obtain ⟨σ',H',J,qq⟩:=h7; exact name_goes (J.S_ I1.ok) hN hi hlo fun s8 J8=>⟨_,_,J8,qq⟩
   | ret u=>obtain ⟨v,σ',H',J,rv,qq⟩:=h7; exact name_goes (J.S_ I1.ok) hN hi hlo fun s8 J8=>⟨_,_,_,J8,rv,qq⟩
  ·have h7':X.xe e' s7:=h7
   rw [hxe] at h7'
   exact h7'.elim
end
theorem Eg {X:Cx} {K:PySem.W.Frag} (hK:X.K=K):Ex X (.builtin "isinstance") (fun xs H Q=>∃ x C fs c cv b,xs=[V.ref x,c]/\Gi H x C fs/\Gm K C/\V7 c=some cv/\PySem.W.kitOne K (.ref C) cv=some b/\Q (.bl b) H):=by
 rw [← hK]
 exact Lh
end L2
namespace Og
open PySem L2 PyProof.Rows
theorem U8:∀ n<26,letters.cps.toList[n]? = some (97+n):=by decide +kernel
theorem RW {i:Int} (h0:0<=i) (h1:i<26):Rk letters.cps.toList i=some (97+i.toNat):=by
 have h:=Av (U8 i.toNat (by omega))
 have e:((i.toNat:Nat):Int)=i:=by omega
 rw [e] at h
 exact h
end Og
namespace Og
open PySem L2 PyProof.Rows
variable {K:PySem.W.Frag}
structure Le (K:PySem.W.Frag) (aB aP aM:Addr):Prop where
 f:KF K aB aP aM
 pR:∃ a,PySem.W.nsIn K aP "rank" = some (some (.ref a))/\KTup K a (["new","pipes","wind"].map fun s:String=>V.str s)
 pL:∃ a,PySem.W.nsIn K aP "line" = some (some (.ref a))/\KTup K a (["rank","shift","low","high"].map fun s:String=>V.str s)
 bP:∃ a,PySem.W.nsIn K aB "pipes" = some (some (.ref a))/\KTup K a [.int 1,.int 97]
 bW:∃ a,PySem.W.nsIn K aB "wind" = some (some (.ref a))/\KTup K a [.int 0,.int 1000000000]
 bS:∃ a,PySem.W.nsIn K aB "shift" = some (some (.ref a))/\KTup K a [.int (-200),.int 200]
 bLo:∃ a,PySem.W.nsIn K aB "low" = some (some (.ref a))/\KTup K a [.int 0,.int 60]
 bHi:∃ a,PySem.W.nsIn K aB "high" = some (some (.ref a))/\KTup K a [.int 0,.int 60]
 bR:PySem.W.nsIn K aB "rank" = some none
 mR:∃ t,PySem.W.nsIn K aM "rank" = some (some (.int 12 t))
 mL:PySem.W.nsIn K aM "line" = some none
section
variable {aB aP aM:Addr} {ρ:V->R} {vs:List V} {wn:List (Str × Str)} {t:Str}
theorem Ny {r:R} (h:Jm K aB aP aM ρ vs r) (hb:Bw ρ vs):Ha K aB aP aM ρ vs r:=⟨h.ns,h.parts,.inr h.room,fun z=>absurd z h.nl,hb⟩
theorem Oo (F:KF K aB aP aM) {wd:Str} (hw:wd = "stop" \/ wd = "mute") (e:Do ρ vs=wn) (ht:isNm t) (h:∀ w∈named,JN wn w t=false) (hc:NT wn wd<Dq wd) {a:Str} (ha:isNm a) (ha':JN wn "board" a=true):Jm K aB aP aM ρ vs ⟨wd,t,[.str a]⟩:=by
 have parts:∀ (j:Nat) x (y:Str),[V.str t,.str a][j]? = some x->(["new","board"]:List Str)[j]? = some y->Em K aB ρ vs x y:=fun j x y hx hy=>by
  match j,hx,hy with
  | 0,hx,hy =>
   cases (Option.some.inj hx)
   cases (Option.some.inj hy)
   exact Dk F e ht h
  | 1,hx,hy =>
   cases (Option.some.inj hx)
   cases (Option.some.inj hy)
   exact De F e ha ha'
  | j+2,hx,hy=>simp at hy
 have hcnt:=Dw ρ vs wd
 rw [e] at hcnt
 rcases hw with rfl | rfl
 ·obtain ⟨ap,g1,g2⟩:=F.pS
  obtain ⟨tk,g5⟩:=F.mS
  have hm:Dq "stop" = 24:=by decide +kernel
  refine ⟨by show ¬ ("stop" : Str) = "step"; decide +kernel,by show ¬ ("stop" : Str) = "line"; decide +kernel,⟨ap,["new","board"],g1,g2,rfl,by decide,parts⟩,⟨24,tk,g5,?_⟩⟩
  show (((vs.filter (pw ρ "stop")).length:Nat):Int)<24
  omega
 ·obtain ⟨ap,g1,g2⟩:=F.pM
  obtain ⟨tk,g5⟩:=F.mM
  have hm:Dq "mute" = 5:=by decide +kernel
  refine ⟨by show ¬ ("mute" : Str) = "step"; decide +kernel,by show ¬ ("mute" : Str) = "line"; decide +kernel,⟨ap,["new","board"],g1,g2,rfl,by decide,parts⟩,⟨5,tk,g5,?_⟩⟩
  show (((vs.filter (pw ρ "mute")).length:Nat):Int)<5
  omega
theorem Oe (F:Le K aB aP aM) (e:Do ρ vs=wn) (ht:isNm t) (h:∀ w∈named,JN wn w t=false) (hc:NT wn "rank" < 12) {n:Nat} {wi:Int} (h1:1<=n) (h2:n<=97) (h3:0<=wi) (h4:wi<=1000000000) (hb:Bw ρ vs):Ha K aB aP aM ρ vs (En (t,n,wi)):=by
 obtain ⟨ap,g1,g2⟩:=F.pR
 obtain ⟨ab,g3,g4⟩:=F.bP
 obtain ⟨aw,g6,g7⟩:=F.bW
 obtain ⟨tk,g5⟩:=F.mR
 refine ⟨by show ¬ ("rank" : Str) = "step"; decide +kernel,⟨ap,["new","pipes","wind"],g1,g2,rfl,by decide,fun j x y hx hy=>?_⟩,.inr ⟨12,tk,g5,?_⟩,fun z=>absurd z (by show ¬ ("rank" : Str) = "line"; decide +kernel),hb⟩
 ·match j,hx,hy with
  | 0,hx,hy =>
   cases (Option.some.inj hx)
   cases (Option.some.inj hy)
   exact Dk F.f e ht h
  | 1,hx,hy =>
   cases (Option.some.inj hx)
   cases (Option.some.inj hy)
   exact .inl ⟨((n:Nat):Int),1,97,ab,rfl,g3,g4,by omega,by omega⟩
  | 2,hx,hy =>
   cases (Option.some.inj hx)
   cases (Option.some.inj hy)
   exact .inl ⟨_,0,1000000000,aw,rfl,g6,g7,h3,h4⟩
  | j+3,hx,hy=>simp at hy
 ·rw [Dw,e]
  show ((NT wn "rank" : Nat):Int)<12
  omega
theorem O_ (F:Le K aB aP aM) (e:Do ρ vs=wn) (ht:isNm t) (h:JN wn "rank" t=true) {sh lo hi:Int} (b1 : -200<=sh) (b2:sh<=200) (b3:0<=lo) (b4:lo<=60) (b5:0<=hi) (b6:hi<=60) (hb:Bw ρ vs) (hl:Jw ρ vs ⟨"line",t,[.int sh,.int lo,.int hi]⟩):Ha K aB aP aM ρ vs ⟨"line",t,[.int sh,.int lo,.int hi]⟩:=by
 obtain ⟨ap,g1,g2⟩:=F.pL
 obtain ⟨a1,g3,g4⟩:=F.bS
 obtain ⟨a2,g5,g6⟩:=F.bLo
 obtain ⟨a3,g7,g8⟩:=F.bHi
 refine ⟨by show ¬ ("line" : Str) = "step"; decide +kernel,⟨ap,["rank","shift","low","high"],g1,g2,rfl,by decide,fun j x y hx hy=>?_⟩,.inl ⟨rfl,F.mL⟩,fun _=>hl,hb⟩
 match j,hx,hy with
 | 0,hx,hy =>
  cases (Option.some.inj hx)
  cases (Option.some.inj hy)
  exact .inr (.inr ⟨F.bR,by decide +kernel,_,rfl,ht,by rw [Gp,e]; exact h⟩)
 | 1,hx,hy =>
  cases (Option.some.inj hx)
  cases (Option.some.inj hy)
  exact .inl ⟨_,-200,200,a1,rfl,g3,g4,b1,b2⟩
 | 2,hx,hy =>
  cases (Option.some.inj hx)
  cases (Option.some.inj hy)
  exact .inl ⟨_,0,60,a2,rfl,g5,g6,b3,b4⟩
 | 3,hx,hy =>
  cases (Option.some.inj hx)
  cases (Option.some.inj hy)
  exact .inl ⟨_,0,60,a3,rfl,g7,g8,b5,b6⟩
 | j+4,hx,hy=>simp at hy
end
structure dj (K:PySem.W.Frag) (aB aP aM:Addr) (ρ:V->R) (us:List V) (bs:List (Str × Nat)) (rk:List (Str × Nat × Int)) (ks:List R):Prop where
 kinds:∀ v∈us,(ρ v).w = "board" \/ (ρ v).w = "rank" \/ (ρ v).w = "line" \/ (ρ v).w = "stop" \/ (ρ v).w = "coupler" \/ (ρ v).w = "mute"
 eb:(us.filter (pw ρ "board")).map ρ=bs.map Dy
 er:(us.filter (pw ρ "rank")).map ρ=rk.map En
 ek:(us.filter (fun v=>Gd (ρ v).w)).map ρ=ks
 ln:∀ (i:Nat) v,us[i]? = some v->(ρ v).w = "line"->(∃ (j:Nat) (r:Str × Nat × Int) (sh lo hi:Int),rk[j]? = some r/\r.1=(ρ v).nm/\(ρ v).rest=[.int sh,.int lo,.int hi])/\∃ u∈us.take i,Gd (ρ u).w=true
 ok:∀ (i:Nat) v,us[i]? = some v->Ha K aB aP aM ρ (us.take i) (ρ v)
section
variable {aB aP aM:Addr} {ρ:V->R} {us:List V} {v:V} {bs bs':List (Str × Nat)} {rk rk':List (Str × Nat × Int)} {ks ks':List R}
theorem G4 {w t:Str}:Q9 ρ us w t=true ↔ ∃ v∈us,(ρ v).w=w/\(ρ v).nm=t:=by
 unfold Q9
 rw [List.any_eq_true]
 constructor
 ·rintro ⟨v,hv,hn⟩
  obtain ⟨h1,h2⟩:=List.mem_filter.mp hv
  exact ⟨v,h1,V.str.inj (of_decide_eq_true h2),V.str.inj (of_decide_eq_true hn)⟩
 ·rintro ⟨v,hv,h1,h2⟩
  exact ⟨v,List.mem_filter.mpr ⟨hv,decide_eq_true (congrArg V.str h1)⟩,decide_eq_true (congrArg V.str h2)⟩
theorem Io {w:Str} (h:w = "stop" \/ w = "coupler" \/ w = "mute"):Gd w=true:=by rcases h with rfl | rfl | rfl <;> decide +kernel
theorem Il {p:V->Bool} (h:p v=true):(us++[v]).filter p=us.filter p++[v]:=by
 rw [List.filter_append,List.filter_cons,if_pos h]
 rfl
theorem Cv {p:V->Bool} (h:p v=false):(us++[v]).filter p=us.filter p:=by
 rw [List.filter_append,List.filter_cons,if_neg (by rw [h]; decide)]
 simp
end
structure d7 (K:PySem.W.Frag) (aB aP aM:Addr) (rows:List R) (bs:List (Str × Nat)) (rk:List (Str × Nat × Int)) (ks:List R) (ls:List (List Ln)):Prop where
 ok:∀ (ρ:V->R) (us:List V),us.map ρ=rows->dj K aB aP aM ρ us bs rk ks
 ln0:ks=[]->∀ rk',linesOf rk' rows=[]
 ln:linesOf rk rows=ls
section
variable {aB aP aM:Addr} {rows:List R} {bs:List (Str × Nat)} {rk:List (Str × Nat × Int)} {ks:List R} {ls:List (List Ln)}
theorem HF {ρ:V->R} {us:List V} {r:R} (e:us.map ρ=rows++[r]):∃ us' v,us=us'++[v]/\us'.map ρ=rows/\ρ v=r:=by
 obtain ⟨a,b,rfl,h1,h2⟩:=List.map_eq_append_iff.mp e
 obtain ⟨v,l,rfl,h3,h4⟩:=List.map_eq_cons_iff.mp h2
 rw [List.map_eq_nil_iff.mp h4]
 exact ⟨a,v,rfl,h1,h3⟩
noncomputable def Tl (rows:List R) (bd:Str) (cnt:Nat):Prop:=∃ (r0:List R) (st:R) (lr:List R),rows=r0++st::lr/\st.w = "stop" /\ st.rest=[.str bd]/\lr.length=cnt/\∀ r∈lr,r.w = "line"
theorem Tl.stop (rows:List R) (t bd:Str):Tl (rows++[⟨"stop",t,[.str bd]⟩]) bd 0:=⟨rows,_,[],rfl,rfl,rfl,rfl,fun _ h=>nomatch h⟩
theorem Tl.line {bd:Str} {cnt:Nat} {r:R} (h:Tl rows bd cnt) (hw:r.w = "line"):Tl (rows++[r]) bd (cnt+1):=by
 obtain ⟨r0,st,lr,rfl,h1,h2,h3,h4⟩:=h
 refine ⟨r0,st,lr++[r],by simp,h1,h2,by simp [h3],fun x hx=>?_⟩
 rcases List.mem_append.mp hx with g | g
 ·exact h4 x g
 ·rw [List.mem_singleton.mp g]
  exact hw
end
end Og
namespace Og
open PySem L2 PyProof.Rows
variable {K:PySem.W.Frag}
structure Gg (K:PySem.W.Frag) (aB aP aM:Addr) (ρ:V->R) (us:List V) (bs:List (Str × Nat)) (rk:List (Str × Nat × Int)) (ks:List R):Prop where
 eb:(us.filter (pw ρ "board")).map ρ=bs.map Dy
 er:(us.filter (pw ρ "rank")).map ρ=rk.map En
 ek:(us.filter (fun v=>Gd (ρ v).w)).map ρ=ks
 ln:∀ (i:Nat) v,us[i]? = some v->(ρ v).w = "line"->(∃ (j:Nat) (r:Str × Nat × Int) (sh lo hi:Int),rk[j]? = some r/\r.1=(ρ v).nm/\(ρ v).rest=[.int sh,.int lo,.int hi])/\∃ u∈us.take i,Gd (ρ u).w=true
 ok:∀ (i:Nat) v,us[i]? = some v->Dc K aB aP aM ρ (us.take i) (ρ v)
section
variable {aB aP aM:Addr} {ρ:V->R} {us:List V} {v:V} {bs bs':List (Str × Nat)} {rk rk':List (Str × Nat × Int)} {ks ks':List R}
theorem Gg.nil:Gg K aB aP aM ρ [] [] [] []:=⟨rfl,rfl,rfl,(fun i v h=>by simp at h),(fun i v h=>by simp at h)⟩
theorem Gg.RB (h:Gg K aB aP aM ρ us bs rk ks) (hv:v∈us) (hw:(ρ v).w = "board"):∃ b∈bs,Dy b=ρ v:=by
 have:ρ v∈(us.filter (pw ρ "board")).map ρ:=List.mem_map_of_mem (List.mem_filter.mpr ⟨hv,decide_eq_true (congrArg V.str hw)⟩)
 rw [h.eb] at this
 exact List.mem_map.mp this
theorem Gg.Xh (h:Gg K aB aP aM ρ us bs rk ks) (hv:v∈us) (hw:(ρ v).w = "rank"):∃ b∈rk,En b=ρ v:=by
 have:ρ v∈(us.filter (pw ρ "rank")).map ρ:=List.mem_map_of_mem (List.mem_filter.mpr ⟨hv,decide_eq_true (congrArg V.str hw)⟩)
 rw [h.er] at this
 exact List.mem_map.mp this
theorem Gg.Qe (h:Gg K aB aP aM ρ us bs rk ks) (hv:v∈us) (hw:Gd (ρ v).w=true):ρ v∈ks:=by
 have:ρ v∈(us.filter (fun v=>Gd (ρ v).w)).map ρ:=List.mem_map_of_mem (List.mem_filter.mpr ⟨hv,hw⟩)
 rw [h.ek] at this
 exact this
theorem Gg.Mt (h:Gg K aB aP aM ρ us bs rk ks):Bw ρ us:=fun v hv hw=>by
 obtain ⟨b,_,e⟩:=h.RB hv hw
 exact ⟨_,by rw [← e]⟩
theorem Gg.UV (h:Gg K aB aP aM ρ us bs rk ks) {b:Str × Nat} (hb:b∈bs):∃ v∈us,ρ v=Dy b:=by
 have:Dy b∈(us.filter (pw ρ "board")).map ρ:=by rw [h.eb]; exact List.mem_map_of_mem hb
 obtain ⟨v,hv,e⟩:=List.mem_map.mp this
 exact ⟨v,(List.mem_filter.mp hv).1,e⟩
theorem Gg.XD (h:Gg K aB aP aM ρ us bs rk ks) {r:Str × Nat × Int} (hr:r∈rk):∃ v∈us,ρ v=En r:=by
 have:En r∈(us.filter (pw ρ "rank")).map ρ:=by rw [h.er]; exact List.mem_map_of_mem hr
 obtain ⟨v,hv,e⟩:=List.mem_map.mp this
 exact ⟨v,(List.mem_filter.mp hv).1,e⟩
theorem Gg.Hd (h:Gg K aB aP aM ρ us bs rk ks) {b:Str × Nat} (hb:b∈bs):JN (Do ρ us) "board" b.1=true:=by
 obtain ⟨v,hv,e⟩:=h.UV hb
 rw [← Gp,G4]
 exact ⟨v,hv,by rw [e],by rw [e]⟩
theorem Gg.Pz (h:Gg K aB aP aM ρ us bs rk ks) {r:Str × Nat × Int} (hr:r∈rk):JN (Do ρ us) "rank" r.1=true:=by
 obtain ⟨v,hv,e⟩:=h.XD hr
 rw [← Gp,G4]
 exact ⟨v,hv,by rw [e],by rw [e]⟩
theorem Gg.fresh (h:Gg K aB aP aM ρ us bs rk ks) {t:Str} (hb:∀ b∈bs,b.1 ≠ t) (hr:∀ r∈rk,r.1 ≠ t) (hk:∀ k∈ks,k.nm ≠ t):∀ w∈named,JN (Do ρ us) w t=false:=by
 intro w hw
 rw [← Gp,← Bool.not_eq_true,G4]
 rintro ⟨v,hv,hw',hn⟩
 simp only [List.mem_cons,List.mem_singleton,List.not_mem_nil,or_false] at hw
 rcases hw with rfl | rfl | rfl | rfl | rfl
 ·obtain ⟨b,hb',e⟩:=h.RB hv hw'
  exact hb b hb' (by rw [← hn,← e])
 ·obtain ⟨b,hb',e⟩:=h.Xh hv hw'
  exact hr b hb' (by rw [← hn,← e])
 ·exact hk _ (h.Qe hv (Io (.inl hw'))) hn
 ·exact hk _ (h.Qe hv (Io (.inr (.inl hw')))) hn
 ·exact hk _ (h.Qe hv (Io (.inr (.inr hw')))) hn
theorem Gg.Uo (h:Gg K aB aP aM ρ us bs rk ks):NT (Do ρ us) "board" = bs.length:=by
 rw [← Dw,← List.length_map (f:=ρ),h.eb,List.length_map]
theorem Gg.Ul (h:Gg K aB aP aM ρ us bs rk ks):NT (Do ρ us) "rank" = rk.length:=by
 rw [← Dw,← List.length_map (f:=ρ),h.er,List.length_map]
theorem Gg.M9 (h:Gg K aB aP aM ρ us bs rk ks) {w:Str} (hw:w = "stop" \/ w = "coupler" \/ w = "mute"):NT (Do ρ us) w=(ks.filter fun r=>decide (V.str r.w=V.str w)).length:=by
 rw [← Dw,← h.ek,List.filter_map,List.length_map,List.filter_filter]
 refine congrArg List.length (List.filter_congr fun v _=>?_)
 show pw ρ w v=(pw ρ w v && Gd (ρ v).w)
 by_cases e:(ρ v).w=w
 ·rw [Io (by rw [e]; exact hw),Bool.and_true]
 ·have:pw ρ w v=false:=decide_eq_false fun z=>e (V.str.inj z)
  rw [this,Bool.false_and]
theorem Gg.snoc (h:Gg K aB aP aM ρ us bs rk ks)
  (eb:((us++[v]).filter (pw ρ "board")).map ρ=bs'.map Dy) (er:((us++[v]).filter (pw ρ "rank")).map ρ=rk'.map En) (ek:((us++[v]).filter (fun v=>Gd (ρ v).w)).map ρ=ks')
  (hr:∀ (j:Nat) r,rk[j]? = some r->rk'[j]? = some r)
  (hl:(ρ v).w = "line"->(∃ (j:Nat) (r:Str × Nat × Int) (sh lo hi:Int),rk'[j]? = some r/\r.1=(ρ v).nm/\(ρ v).rest=[.int sh,.int lo,.int hi])/\∃ u∈us,Gd (ρ u).w=true)
  (ok:Dc K aB aP aM ρ us (ρ v)):Gg K aB aP aM ρ (us++[v]) bs' rk' ks':=by
 have at_:∀ {i:Nat} {u:V},(us++[v])[i]? = some u->us[i]? = some u/\(us++[v]).take i=us.take i \/ u=v/\(us++[v]).take i=us:=fun {i u} hi=>by
  by_cases hlt:i<us.length
  ·rw [List.getElem?_append_left hlt] at hi
   exact .inl ⟨hi,List.take_append_of_le_length (Nat.le_of_lt hlt)⟩
  ·have h2:=(List.getElem?_eq_some_iff.mp hi).1
   rw [List.length_append,List.length_singleton] at h2
   have hil:i=us.length:=by omega
   subst hil
   rw [List.getElem?_append_right (Nat.le_refl _),Nat.sub_self] at hi
   exact .inr ⟨(Option.some.inj hi).symm,by rw [List.take_append_of_le_length (Nat.le_refl _),List.take_length]⟩
 refine ⟨eb,er,ek,fun i u hi hw=>?_,fun i u hi=>?_⟩
 ·rcases at_ hi with ⟨h1,h2⟩ | ⟨rfl,h2⟩
  ·rw [h2]
   obtain ⟨⟨j,r,sh,lo,hi',g1,g2,g3⟩,g4⟩:=h.ln i u h1 hw
   exact ⟨⟨j,r,sh,lo,hi',hr j r g1,g2,g3⟩,g4⟩
  ·rw [h2]
   exact hl hw
 ·rcases at_ hi with ⟨h1,h2⟩ | ⟨rfl,h2⟩
  ·rw [h2]
   exact h.ok i u h1
  ·rw [h2]
   exact ok
end
theorem Mj {rk:List (Str × Nat × Int)} {x:Str × Nat × Int}:∀ {rows:List R},(∀ r∈rows,r.w = "line"->r.nm∈rk.map (·.1))->linesOf (rk++[x]) rows=linesOf rk rows:=by
 have key:∀ (rows:List R),(∀ r∈rows,r.w = "line"->r.nm∈rk.map (·.1))->∀ acc,rows.foldl (Ce (rk++[x])) acc=rows.foldl (Ce rk) acc:=by
  intro rows
  induction rows with
  | nil=>intro _ _; rfl
  | cons r rs ih =>
   intro h acc
   have e:Ce (rk++[x]) acc r=Ce rk acc r:=by
    unfold Ce
    by_cases h1:Gd r.w=true
    ·rw [if_pos h1,if_pos h1]
    ·rw [if_neg h1,if_neg h1]
     by_cases h2:r.w = "line"
     ·rw [if_pos h2,if_pos h2]
      have hm:=h r (List.mem_cons_self ..) h2
      have:lnOf (rk++[x]) r=lnOf rk r:=by
       unfold lnOf
       rw [List.map_append,List.idxOf_append,if_pos hm]
      rw [this]
     ·rw [if_neg h2,if_neg h2]
   show rs.foldl _ (Ce (rk++[x]) acc r)=rs.foldl _ (Ce rk acc r)
   rw [e]
   exact ih (fun r hr=>h r (List.mem_cons_of_mem _ hr)) _
 exact fun {rows} h=>key rows h []
theorem QG {ks:List R} {k r:R} (h:∀ t∈J5 r,t∈ks.map (·.nm)):stN (ks++[k]) r=stN ks r:=by
 unfold stN
 refine congrArg Wd.mk (List.map_congr_left fun t ht=>?_)
 rw [List.map_append,List.idxOf_append,if_pos (h t ht)]
noncomputable abbrev R4 (r:R):Bool:=decide (V.str r.w=V.str "step")
structure DK (K:PySem.W.Frag) (aB aP aM:Addr) (rows:List R) (bs:List (Str × Nat)) (rk:List (Str × Nat × Int)) (ks:List R) (ls:List (List Ln)) (sts:List Nat):Prop where
 ok:∀ (ρ:V->R) (us:List V),us.map ρ=rows->Gg K aB aP aM ρ us bs rk ks
 ln:linesOf rk rows=ls
 st:(rows.filter R4).map (stN ks)=sts
 lm:∀ r∈rows,r.w = "line"->r.nm∈rk.map (·.1)
 sm:∀ r∈rows,r.w = "step"->∃ ts:List Str,V.str r.nm::r.rest=ts.map V.str/\ts.length<=24/\∀ t∈ts,t∈ks.map (·.nm)
section
variable {aB aP aM:Addr} {rows:List R} {bs:List (Str × Nat)} {rk:List (Str × Nat × Int)} {ks:List R} {ls:List (List Ln)} {sts:List Nat}
theorem DK.nil:DK K aB aP aM [] [] [] [] [] []:=⟨fun ρ us e=>by rw [List.map_eq_nil_iff.mp e]; exact Gg.nil,rfl,rfl,(fun _ z=>nomatch z),(fun _ z=>nomatch z)⟩
theorem Nv {r:R} (h:r.w ≠ "step"):(rows++[r]).filter R4=rows.filter R4:=by
 rw [List.filter_append,List.filter_cons,if_neg (by intro z; exact h (V.str.inj (of_decide_eq_true z)))]
 simp
theorem JV {r:R} {Q:R->Prop} (h:∀ r∈rows,Q r) (hr:Q r):∀ x∈rows++[r],Q x:=fun x hx=>by
 rcases List.mem_append.mp hx with z | z
 ·exact h x z
 ·rw [List.mem_singleton.mp z]
  exact hr
theorem DK.Rb (F:Le K aB aP aM) (h:DK K aB aP aM rows bs rk ks ls sts) {t:Str} {n:Nat} (ht:isNm t) (hf:∀ b∈bs,b.1 ≠ t) (hr:∀ r∈rk,r.1 ≠ t) (hk:∀ k∈ks,k.nm ≠ t) (hb:bs.length<5) (h1:1<=n) (h2:n<=61):DK K aB aP aM (rows++[Dy (t,n)]) (bs++[(t,n)]) rk ks ls sts:=by
 refine ⟨fun ρ us e=>?_,?_,?_,JV h.lm (fun z=>absurd z (by show ¬ ("board" : Str) = "line"; decide +kernel)),JV h.sm (fun z=>absurd z (by show ¬ ("board" : Str) = "step"; decide +kernel))⟩
 ·obtain ⟨us',v,rfl,e',hv⟩:=HF e
  have O:=h.ok ρ us' e'
  refine O.snoc ?_ ?_ ?_ (fun _ _ h=>h) (fun z=>absurd (hv ▸ z) (by show ¬ ("board" : Str) = "line"; decide +kernel)) ?_
  ·rw [Il (by unfold pw; rw [hv]; exact decide_eq_true rfl),List.map_append,O.eb,List.map_append,List.map_singleton,hv]
   rfl
  ·rw [Cv (by unfold pw; rw [hv]; show decide (V.str "board" = V.str "rank")=false; decide +kernel),O.er]
  ·rw [Cv (by rw [hv]; show Gd "board" = false; decide +kernel),O.ek]
  ·rw [hv]
   exact .inl (Ny (Pk F.f rfl ht (O.fresh hf hr hk) (by rw [O.Uo]; exact hb) h1 h2) O.Mt)
 ·rw [Bv,h.ln]
  rfl
 ·rw [Nv (by show ¬ ("board" : Str) = "step"; decide +kernel)]
  exact h.st
theorem DK.rank (F:Le K aB aP aM) (h:DK K aB aP aM rows bs rk ks ls sts) {t:Str} {n:Nat} {wi:Int} (ht:isNm t) (hf:∀ b∈bs,b.1 ≠ t) (hr:∀ r∈rk,r.1 ≠ t) (hk:∀ k∈ks,k.nm ≠ t) (hc:rk.length<12) (h1:1<=n) (h2:n<=97) (h3:0<=wi) (h4:wi<=1000000000):DK K aB aP aM (rows++[En (t,n,wi)]) bs (rk++[(t,n,wi)]) ks ls sts:=by
 have lm':∀ r∈rows,r.w = "line"->r.nm∈(rk++[(t,n,wi)]).map (·.1):=fun r hr z=>by
  rw [List.map_append]
  exact List.mem_append_left _ (h.lm r hr z)
 refine ⟨fun ρ us e=>?_,?_,?_,JV lm' (fun z=>absurd z (by show ¬ ("rank" : Str) = "line"; decide +kernel)),JV h.sm (fun z=>absurd z (by show ¬ ("rank" : Str) = "step"; decide +kernel))⟩
 ·obtain ⟨us',v,rfl,e',hv⟩:=HF e
  have O:=h.ok ρ us' e'
  refine O.snoc ?_ ?_ ?_ (fun j r h=>by rw [List.getElem?_append_left (List.getElem?_eq_some_iff.mp h).1]; exact h) (fun z=>absurd (hv ▸ z) (by show ¬ ("rank" : Str) = "line"; decide +kernel)) ?_
  ·rw [Cv (by unfold pw; rw [hv]; show decide (V.str "rank" = V.str "board")=false; decide +kernel),O.eb]
  ·rw [Il (by unfold pw; rw [hv]; exact decide_eq_true rfl),List.map_append,O.er,List.map_append,List.map_singleton,hv]
   rfl
  ·rw [Cv (by rw [hv]; show Gd "rank" = false; decide +kernel),O.ek]
  ·rw [hv]
   exact .inl (Oe F rfl ht (O.fresh hf hr hk) (by rw [O.Ul]; exact hc) h1 h2 h3 h4 O.Mt)
 ·rw [Bv,Mj h.lm,h.ln]
  rfl
 ·rw [Nv (by show ¬ ("rank" : Str) = "step"; decide +kernel)]
  exact h.st
theorem DK.Uv (h:DK K aB aP aM rows bs rk ks ls sts) {r:R} (hw:r.w = "stop" \/ r.w = "coupler" \/ r.w = "mute") (hr:∀ (ρ:V->R) (us:List V),us.map ρ=rows->Jm K aB aP aM ρ us r):DK K aB aP aM (rows++[r]) bs rk (ks++[r]) (ls++[[]]) sts:=by
 have hK:=Io hw
 have sm':∀ r'∈rows,r'.w = "step"->∃ ts:List Str,V.str r'.nm::r'.rest=ts.map V.str/\ts.length<=24/\∀ t∈ts,t∈(ks++[r]).map (·.nm):=fun r' hr' z=>by
  obtain ⟨ts,g1,g2,g3⟩:=h.sm r' hr' z
  exact ⟨ts,g1,g2,fun t ht=>by rw [List.map_append]; exact List.mem_append_left _ (g3 t ht)⟩
 refine ⟨fun ρ us e=>?_,?_,?_,JV h.lm (fun z=>?_),JV sm' (fun z=>?_)⟩
 ·obtain ⟨us',v,rfl,e',hv⟩:=HF e
  have O:=h.ok ρ us' e'
  refine O.snoc ?_ ?_ ?_ (fun _ _ h=>h) (fun z=>?_) ?_
  ·rw [Cv (by unfold pw; rw [hv]; rcases hw with e | e | e <;> rw [e] <;> decide +kernel),O.eb]
  ·rw [Cv (by unfold pw; rw [hv]; rcases hw with e | e | e <;> rw [e] <;> decide +kernel),O.er]
  ·rw [Il (by rw [hv]; exact hK),List.map_append,O.ek,List.map_singleton,hv]
  ·rw [hv] at z
   rcases hw with e | e | e <;> rw [e] at z <;> exact absurd z (by decide +kernel)
  ·rw [hv]
   exact .inl (Ny (hr ρ us' e') O.Mt)
 ·rw [Bv,h.ln]
  unfold Ce
  rw [if_pos hK]
 ·rw [Nv (by rcases hw with e | e | e <;> rw [e] <;> decide +kernel),← h.st]
  refine List.map_congr_left fun r' hr'=>QG fun t ht=>?_
  obtain ⟨g1,g2⟩:=List.mem_filter.mp hr'
  obtain ⟨ts,g3,_,g5⟩:=h.sm r' g1 (V.str.inj (of_decide_eq_true g2))
  rw [Hi g3] at ht
  exact g5 t ht
 ·rcases hw with e | e | e <;> rw [e] at z <;> exact absurd z (by decide +kernel)
 ·rcases hw with e | e | e <;> rw [e] at z <;> exact absurd z (by decide +kernel)
theorem DK.Nr (F:Le K aB aP aM) (h:DK K aB aP aM rows bs rk ks ls sts) {t a b:Str} {n m:Nat} {s:Int} (ht:isNm t) (hb:∀ b∈bs,b.1 ≠ t) (hr:∀ r∈rk,r.1 ≠ t) (hk:∀ k∈ks,k.nm ≠ t) (hc:(ks.filter fun r=>decide (V.str r.w=V.str "coupler")).length<12) (ha:isNm a) (ha':(a,n)∈bs) (hb1:isNm b) (hb':(b,m)∈bs) (h1 : -60<=s) (h2:s<=60) :
  DK K aB aP aM (rows++[⟨"coupler",t,[.str a,.str b,.int s]⟩]) bs rk (ks++[⟨"coupler",t,[.str a,.str b,.int s]⟩]) (ls++[[]]) sts :=
 h.Uv (.inr (.inl rfl)) fun ρ us e=>by
  have O:=h.ok ρ us e
  exact KQ F.f rfl ht (O.fresh hb hr hk) (by rw [O.M9 (.inr (.inl rfl))]; exact hc) ha (O.Hd ha') hb1 (O.Hd hb') h1 h2
theorem DK.plain (F:Le K aB aP aM) (h:DK K aB aP aM rows bs rk ks ls sts) {wd t a:Str} {n:Nat} (hw:wd = "stop" \/ wd = "mute") (ht:isNm t) (hb:∀ b∈bs,b.1 ≠ t) (hr:∀ r∈rk,r.1 ≠ t) (hk:∀ k∈ks,k.nm ≠ t) (hc:(ks.filter fun r=>decide (V.str r.w=V.str wd)).length<Dq wd) (ha:isNm a) (ha':(a,n)∈bs) :
  DK K aB aP aM (rows++[⟨wd,t,[.str a]⟩]) bs rk (ks++[⟨wd,t,[.str a]⟩]) (ls++[[]]) sts:=by
 have hw3:wd = "stop" \/ wd = "coupler" \/ wd = "mute":=by rcases hw with e | e; exact .inl e; exact .inr (.inr e)
 exact h.Uv hw3 fun ρ us e=>by
  have O:=h.ok ρ us e
  exact Oo F.f hw rfl ht (O.fresh hb hr hk) (by rw [O.M9 hw3]; exact hc) ha (O.Hd ha')
theorem DK.line (F:Le K aB aP aM) {l0:List Ln} (h:DK K aB aP aM rows bs rk ks (ls++[l0]) sts) {bd:Str} {cnt:Nat} (T:Tl rows bd cnt) (hc:cnt<4) {j n m:Nat} {t:Str} {wi sh lo hi:Int} (hj:rk[j]? = some (t,m,wi)) (hnd:(rk.map (·.1)).Nodup) (ht:isNm t) (hbd:(bd,n)∈bs) (hle:lo<=hi) (hn:hi<(n:Int)) (b1 : -200<=sh) (b2:sh<=200) (b3:0<=lo) (b6:hi<=60) :
  DK K aB aP aM (rows++[⟨"line",t,[.int sh,.int lo,.int hi]⟩]) bs rk ks (ls++[l0++[⟨j,sh,lo,hi⟩]]) sts:=by
 obtain ⟨r0,st,lr,er,g1,g2,g3,g4⟩:=T
 have nK:Gd "line" = false:=by decide +kernel
 refine ⟨fun ρ us e=>?_,?_,?_,JV h.lm (fun _=>List.mem_map.mpr ⟨_,List.mem_of_getElem? hj,rfl⟩),JV h.sm (fun z=>absurd z (by show ¬ ("line" : Str) = "step"; decide +kernel))⟩
 ·obtain ⟨us',v,rfl,e',hv⟩:=HF e
  have O:=h.ok ρ us' e'
  obtain ⟨u0,u1,eu,m1,m2⟩:=List.map_eq_append_iff.mp (e'.trans er)
  obtain ⟨sv,lv,e1,m3,m4⟩:=List.map_eq_cons_iff.mp m2
  subst e1
  have hsv:sv∈us':=by rw [eu]; simp
  have hlv:lv.length=cnt:=by rw [← g3,← m4,List.length_map]
  have hus:us'.length=u0.length+(cnt+1):=by rw [eu,List.length_append,List.length_cons,hlv]
  refine O.snoc ?_ ?_ ?_ (fun _ _ h=>h) (fun _=>⟨⟨j,_,sh,lo,hi,hj,by rw [hv],by rw [hv]⟩,sv,hsv,by rw [m3,g1]; decide +kernel⟩) ?_
  ·rw [Cv (by unfold pw; rw [hv]; show decide (V.str "line" = V.str "board")=false; decide +kernel),O.eb]
  ·rw [Cv (by unfold pw; rw [hv]; show decide (V.str "line" = V.str "rank")=false; decide +kernel),O.er]
  ·rw [Cv (by rw [hv]; exact nK),O.ek]
  ·rw [hv]
   have hst:us'[us'.length - 1 - cnt]? = some sv:=by
    have:us'.length - 1 - cnt=u0.length:=by omega
    rw [this,eu,List.getElem?_append_right (Nat.le_refl _),Nat.sub_self]
    rfl
   refine .inl ?_
   refine O_ F rfl ht (O.Pz (List.mem_of_getElem? hj)) b1 b2 b3 (by omega) (by omega) b6 O.Mt ⟨cnt,sv,sh,lo,hi,bd,[],rfl,⟨fun i hi'=>?_,by omega,sv,hst,by rw [m3,g1]; decide +kernel⟩,hc,hst,by rw [m3,g1],by rw [m3,g2],hle,?_⟩
   ·have hi2:cnt - 1 - i<lv.length:=by omega
    refine ⟨lv[cnt - 1 - i],?_,?_⟩
    ·have:us'.length - 1 - i=u0.length+((cnt - 1 - i)+1):=by omega
     rw [this,eu,List.getElem?_append_right (Nat.le_add_right _ _),Nat.add_sub_cancel_left,List.getElem?_cons_succ]
     exact List.getElem?_eq_getElem hi2
    ·refine g4 _ ?_
     rw [← m4]
     exact List.mem_map_of_mem (List.getElem_mem hi2)
   ·obtain ⟨u,hu,hub⟩:=O.UV hbd
    rw [List.any_eq_true]
    refine ⟨u,List.mem_filter.mpr ⟨hu,?_⟩,?_⟩
    ·unfold pw
     rw [hub]
     exact decide_eq_true rfl
    ·show (pn ρ bd u && decide (hi<VD (ρ u)))=true
     unfold pn
     rw [hub,Bool.and_eq_true]
     exact ⟨decide_eq_true rfl,decide_eq_true hn⟩
 ·rw [Bv,h.ln]
  unfold Ce
  rw [if_neg (by show ¬ Gd "line" = true; rw [nK]; decide),if_pos rfl,GX]
  have hjl:=(List.getElem?_eq_some_iff.mp hj).1
  have:(rk.map (·.1)).idxOf t=j:=by
   have hl:j<(rk.map (·.1)).length:=by rw [List.length_map]; exact hjl
   have e2:(rk.map (·.1))[j]=t:=by
    rw [List.getElem_map]
    have:=(List.getElem?_eq_some_iff.mp hj).2
    rw [this]
   rw [← e2]
   exact hnd.idxOf_getElem j hl
  show ls++[l0++[⟨(rk.map (·.1)).idxOf t,sh,lo,hi⟩]]=_
  rw [this]
 ·rw [Nv (by show ¬ ("line" : Str) = "step"; decide +kernel)]
  exact h.st
theorem DK.step (h:DK K aB aP aM rows bs rk ks ls sts) (hM:∃ t,PySem.W.nsIn K aM "step" = some (some (.int 12 t))) {t0:Str} {ts:List Str} (nd:(t0::ts).Nodup) (h24:(t0::ts).length<=24) (hts:∀ t∈t0::ts,isNm t/\∃ k∈ks,k.w = "stop" /\ k.nm=t) (hc:sts.length<12):DK K aB aP aM (rows++[⟨"step",t0,ts.map V.str⟩]) bs rk ks ls (sts++[Wd.mk ((t0::ts).map fun t=>(ks.map (·.nm)).idxOf t)]):=by
 have e0:V.str t0::ts.map V.str=(t0::ts).map V.str:=rfl
 have hin:∀ t∈t0::ts,t∈ks.map (·.nm):=fun t ht=>by
  obtain ⟨_,k,hk,_,rfl⟩:=hts t ht
  exact List.mem_map_of_mem hk
 refine ⟨fun ρ us e=>?_,?_,?_,JV h.lm (fun z=>absurd z (by show ¬ ("step" : Str) = "line"; decide +kernel)),JV h.sm (fun _=>⟨t0::ts,e0,h24,hin⟩)⟩
 ·obtain ⟨us',v,rfl,e',hv⟩:=HF e
  have O:=h.ok ρ us' e'
  refine O.snoc ?_ ?_ ?_ (fun _ _ h=>h) (fun z=>absurd (hv ▸ z) (by show ¬ ("step" : Str) = "line"; decide +kernel)) ?_
  ·rw [Cv (by unfold pw; rw [hv]; show decide (V.str "step" = V.str "board")=false; decide +kernel),O.eb]
  ·rw [Cv (by unfold pw; rw [hv]; show decide (V.str "step" = V.str "rank")=false; decide +kernel),O.er]
  ·rw [Cv (by rw [hv]; show Gd "step" = false; decide +kernel),O.ek]
  ·rw [hv]
   obtain ⟨tk,hM⟩:=hM
   refine .inr ⟨rfl,⟨t0::ts,e0,nd,h24,fun t ht=>?_⟩,12,tk,hM,?_⟩
   ·obtain ⟨g1,k,g2,g3,g4⟩:=hts t ht
    refine ⟨g1,G4.mpr ?_⟩
    rw [← O.ek] at g2
    obtain ⟨u,g5,rfl⟩:=List.mem_map.mp g2
    exact ⟨u,(List.mem_filter.mp g5).1,g3,g4⟩
   ·have:(us'.filter (pw ρ "step")).length=sts.length:=by
     rw [← h.st,List.length_map,← e',List.filter_map,List.length_map]
     rfl
    show (((us'.filter (pw ρ "step")).length:Nat):Int)<12
    omega
 ·rw [Bv,h.ln]
  rfl
 ·rw [List.filter_append,List.map_append,h.st]
  have e1:([(⟨"step",t0,ts.map V.str⟩:R)]).filter R4=[⟨"step",t0,ts.map V.str⟩]:=rfl
  rw [e1]
  show sts++[stN ks _]=_
  unfold stN
  rw [Hi (r:=⟨"step",t0,ts.map V.str⟩) e0]
theorem DK.fin {H:Hp} {vs:List V} (h:DK K aB aP aM rows bs rk ks ls sts) (hv:Paired (fun (r:R) v=>TupAt H r.v v) rows vs) (b0:1<=bs.length) (b5:bs.length<=5) (sz:∀ b∈bs,b.2<=61) (nr:rk.length<=12) (nz:∀ r∈rk,r.2.1<=97) (nk:ks.length<=100) (nb:(bs.map (·.1)).Nodup) (nrr:(rk.map (·.1)).Nodup) (nn:(ks.map (·.nm)).Nodup) (len:rows.length<=150) :
  Rows H (HW H) vs/\dD K aB aP aM (HW H) vs bs rk ks/\linesOf rk (vs.map (HW H))=ls/\((vs.filter (pw (HW H) "step")).map fun v=>stN ks (HW H v))=sts:=by
 have em:=Hz hv
 have O:=h.ok (HW H) vs em
 have hR:Rows H (HW H) vs:=fun v hv'=>by
  obtain ⟨r,_,hr⟩:=EY hv hv'
  rw [Ib hr]
  exact hr
 refine ⟨hR,⟨O.eb,O.er,O.ek,O.ln,fun v hv' hw=>?_,b0,b5,sz,nr,nz,nk,nb,nrr,nn,by rw [← hv.length]; exact len,O.ok⟩,by rw [em]; exact h.ln,?_⟩
 ·refine h.sm (HW H v) ?_ hw
  rw [← em]
  exact List.mem_map_of_mem hv'
 ·rw [← h.st,← em,List.filter_map,List.map_map]
  rfl
end
end Og
namespace Og
open PySem L2 PyProof.Rows
noncomputable def dO (b:Str):Prop:=b.length<=6/\∀ c∈b.cps.toList,97<=c/\c<=122
theorem Nm (a b:Str):(a++b).cps.toList=a.cps.toList++b.cps.toList:=by
 show (a.cps++b.cps).toList=_
 simp
theorem len_app (a b:Str):(a++b).length=a.length+b.length:=by
 show (a.cps++b.cps).size=a.cps.size+b.cps.size
 simp
noncomputable def Xb (n:Nat):Str:=⟨#[97+n]⟩
noncomputable def Z3 (b:Str) (k:Nat):Str:=if 26<=k then b++Xb (k % 26)++Xb (k / 26 * 5 % 26) else b++Xb (k % 26)
end Og
namespace Og
open PySem L2
structure cW where
 p:Addr
 r:Addr
 b:Addr
 k:Addr
 n:Addr
 d:Addr
 s:Addr
inductive Dt where
 | stop (b:Nat) (L:Addr)
 | coup (a b:Nat) (s:Int)
 | mute (b:Nat)
noncomputable def Dt.L:Dt->List Addr
 | .stop _ L=>[L]
 | _=>[]
structure Pl where
 rows:List R
 bs:List (Str × Nat)
 rk:List (Str × Nat × Int)
 ks:List R
 ls:List (List Ln)
 ds:List Dt
 ch:List (List Nat)
noncomputable abbrev Pl.Ls (S:Pl):List Addr:=S.ds.flatMap Dt.L
noncomputable def cH (H:Hp) (L:Addr) (l:List Ln):Prop:=∃ ts,H L=some (.lst ts)/\Paired (fun (y:Ln) z=>TupAt H (cX y) z) l ts
noncomputable def Zw (H:Hp) (x:Dt × List Ln) (v:V):Prop:=match x.1 with
 | .stop b L=>TupAt H [.int (b:Nat),.ref L] v/\cH H L x.2
 | .coup a b s=>TupAt H [.int (a:Nat),.int (b:Nat),.int s] v
 | .mute b=>v=.int (b:Nat)
noncomputable abbrev di (r:Str × Nat × Int):List V:=[.str r.1,.int (r.2.1:Nat),.int r.2.2]
noncomputable abbrev dh (r:R):List V:=[.str r.w,.str r.nm]
structure dR (H0 H:Hp) (A:cW) (S:Pl) (Cs:List Addr) (lo:V):Prop where
 dp:∃ kvs:List (Key × V),H A.p=some (.dK kvs)/\kvs.length<=7/\CP kvs (Sum.inr "rows")=some (.ref A.r)/\CP kvs (Sum.inr "boards")=some (.ref A.b)/\CP kvs (Sum.inr "ranks")=some (.ref A.k)/\CP kvs (Sum.inr "knobs")=some (.ref A.n)/\CP kvs (Sum.inr "details")=some (.ref A.d)/\CP kvs (Sum.inr "steps")=some (.ref A.s)/\CP kvs (Sum.inr "lines")=some lo
 nd:(A.r::A.b::A.k::A.n::A.d::A.s::(S.Ls++Cs)).Nodup
 sm:Aj H0 H
 f0:H0 A.p=none
 fr:∀ a∈A.r::A.b::A.k::A.n::A.d::A.s::S.Ls,H0 a=none
 r:∃ vs,H A.r=some (.lst vs)/\Paired (fun (r:R) v=>TupAt H r.v v) S.rows vs
 b:∃ vs,H A.b=some (.lst vs)/\Paired (fun b v=>TupAt H (bV b) v) S.bs vs
 k:∃ vs,H A.k=some (.lst vs)/\Paired (fun r v=>TupAt H (di r) v) S.rk vs
 n:∃ vs,H A.n=some (.lst vs)/\Paired (fun (r:R) v=>TupAt H (dh r) v) S.ks vs
 d:∃ vs,H A.d=some (.lst vs)/\S.ds.length=S.ls.length/\Paired (Zw H) (S.ds.zip S.ls) vs
 s:H A.s=some (.lst (Cs.map V.ref))
 c:Paired (fun C (l:List Nat)=>H C=some (.lst (l.map fun n:Nat=>V.int (n:Int)))) Cs S.ch
section
variable {H0 H H':Hp} {A:cW} {S:Pl} {Cs:List Addr} {lo:V}
end
end Og
namespace Og
open PySem L2
variable {K:PySem.W.Frag} {aB aP aM:Addr}
noncomputable def Zo (bs:List (Str × Nat)) (r:R):Dt->Prop
 | .stop b _=>r.w = "stop" /\ ∃ x,bs[b]? = some x/\r.rest=[.str x.1]
 | .coup a b s=>r.w = "coupler" /\ ∃ x y,bs[a]? = some x/\bs[b]? = some y/\r.rest=[.str x.1,.str y.1,.int s]
 | .mute b=>r.w = "mute" /\ ∃ x,bs[b]? = some x/\r.rest=[.str x.1]
structure dJ (K:PySem.W.Frag) (aB aP aM:Addr) (base:Str) (S:Pl) (lo:V):Prop where
 bl:DK K aB aP aM S.rows S.bs S.rk S.ks S.ls (S.ch.map Wd.mk)
 nb:∀ x∈S.bs,∃ i,i<S.rows.length/\x.1=Z3 base i
 nr:∀ x∈S.rk,∃ i,i<S.rows.length/\x.1=Z3 base i
 nk:∀ x∈S.ks,∃ i,i<S.rows.length/\x.nm=Z3 base i
 db:(S.bs.map (·.1)).Nodup
 dr:(S.rk.map (·.1)).Nodup
 dk:(S.ks.map (·.nm)).Nodup
 b5:S.bs.length<=5
 sb:∀ x∈S.bs,1<=x.2/\x.2<=61
 r12:S.rk.length<=12
 sr:∀ x∈S.rk,1<=x.2.1/\x.2.1<=97
 lk:S.ks.length<=S.rows.length
 pd:Paired (Zo S.bs) S.ks S.ds
 ch:∀ l∈S.ch,l.Nodup/\∀ i∈l,∃ k,S.ks[i]? = some k/\k.w = "stop"
 op:lo=.non \/ ∃ ds0 b L x ls0 l0,S.ds=ds0++[.stop b L]/\S.ls=ls0++[l0]/\lo=.ref L/\S.bs[b]? = some x/\Tl S.rows x.1 l0.length
section
variable {base:Str} {S:Pl} {lo:V}
noncomputable def d8 (ks:List R) (i:Nat):Str:=((ks[i]?).map (·.nm)).getD ""
noncomputable abbrev dH (a1 a2 a3 a4 a5 a6:Addr):List (Key × V):=[(Sum.inr "rows",.ref a1),(Sum.inr "boards",.ref a2),(Sum.inr "ranks",.ref a3),(Sum.inr "knobs",.ref a4),(Sum.inr "details",.ref a5),(Sum.inr "steps",.ref a6),(Sum.inr "lines",.non)]
end
end Og
namespace Og
open PySem L2
noncomputable def Wa (x:V):Prop:=(∃ t,x=.str t) \/ ∃ i,x=.int i
theorem Wa.flat {x:V} (h:Wa x):Eu x=true:=by
 rcases h with ⟨t,rfl⟩ | ⟨i,rfl⟩ <;> rfl
theorem K8 {H:Hp}:∀ {l:List V},(∀ x∈l,Wa x)->Paired (Dp 0 H) l l
 | [],_=>.nil
 | x::l,h=>.cons ⟨rfl,(h x (List.mem_cons_self ..)).flat⟩ (K8 fun y hy=>h y (List.mem_cons_of_mem _ hy))
theorem LC {α:Type} {H:Hp} {f:α->List V}:∀ {l:List α} {xs ys:List V},Paired (fun a y=>TupAt H (f a) y) l xs->Paired (fun a y=>TupAt H (f a) y) l ys->(∀ a∈l,∀ x∈f a,Wa x)->Paired (Dp 1 H) xs ys
 | [],_,_,h1,h2,_=>by
  cases h1
  cases h2
  exact .nil
 | a::l,_,_,h1,h2,hp=>by
  cases h1 with
  | cons p q =>
   cases h2 with
   | cons p' q' =>
    obtain ⟨T,rfl,e⟩:=p
    obtain ⟨T',rfl,e'⟩:=p'
    exact .cons (.inr ⟨T,T',_,_,rfl,rfl,.inr ⟨e,e'⟩,K8 (hp a (List.mem_cons_self ..))⟩) (LC q q' fun b hb=>hp b (List.mem_cons_of_mem _ hb))
noncomputable def dZ (H:Hp) (vs:List V):Prop:=∀ v∈vs,∃ (T:Addr) (xs:List V),v=.ref T/\H T=some (.tup xs)/\∀ x∈xs,Wa x
variable {K:PySem.W.Frag} {aB aP aM:Addr}
noncomputable def S5 (rows:List R):V->R
 | .int i=>(rows[i.toNat]?).getD ⟨"","",[]⟩
 | _=>⟨"","",[]⟩
theorem DK.parts {rows:List R} {bs:List (Str × Nat)} {rk:List (Str × Nat × Int)} {ks:List R} {ls:List (List Ln)} {sts:List Nat} (h:DK K aB aP aM rows bs rk ks ls sts):∀ r∈rows,∀ x∈r.v,Wa x:=by
 have em:((List.range rows.length).map fun i:Nat=>V.int (i:Int)).map (S5 rows)=rows:=by
  rw [List.map_map]
  refine List.ext_getElem? fun i=>?_
  rw [List.getElem?_map]
  by_cases hi:i<rows.length
  ·rw [List.getElem?_range hi,List.getElem?_eq_getElem hi]
   show some (S5 rows (V.int (i:Int)))=_
   show some ((rows[((i:Nat):Int).toNat]?).getD ⟨"","",[]⟩)=_
   rw [Int.toNat_natCast,List.getElem?_eq_getElem hi]
   rfl
  ·rw [List.getElem?_eq_none (by rw [List.length_range]; omega),List.getElem?_eq_none (by omega)]
   rfl
 have O:=h.ok (S5 rows) _ em
 intro r hr
 rw [← em] at hr
 obtain ⟨v,hv,rfl⟩:=List.mem_map.mp hr
 obtain ⟨i,hi,e⟩:=List.getElem_of_mem hv
 have ok:=O.ok i v (by rw [List.getElem?_eq_getElem hi,e])
 generalize S5 rows v=r at ok ⊢
 intro x hx
 rcases List.mem_cons.mp (show x∈V.str r.w::(V.str r.nm::r.rest) from hx) with rfl | hx
 ·exact .inl ⟨_,rfl⟩
 rcases ok with ok | ok
 ·obtain ⟨ap,ps,_,_,hlen,_,hps⟩:=ok.parts
  obtain ⟨j,hj,e⟩:=List.getElem_of_mem hx
  have hp:=hps j x ps[j] (by rw [List.getElem?_eq_getElem hj,e]) (List.getElem?_eq_getElem (by omega))
  rcases hp with ⟨i,_,_,_,rfl,_⟩ | hp
  ·exact .inr ⟨_,rfl⟩
  ·rcases hp with ⟨_,_,t,rfl,_⟩ | ⟨_,_,t,rfl,_⟩
   ·exact .inl ⟨t,rfl⟩
   ·exact .inl ⟨t,rfl⟩
 ·obtain ⟨ts,ets,_⟩:=ok.ts
  rw [ets] at hx
  obtain ⟨t,_,rfl⟩:=List.mem_map.mp hx
  exact .inl ⟨t,rfl⟩
end Og
namespace L2
open PySem PySem.Spec PyProof.Rows
section
variable {X:Cx}
end
end L2
namespace L2
open PySem PySem.Spec PySem.Calls PySem.Builtin PySem.Builtin.Str PyProof.Rows
section
variable {X:Cx}
end
end L2
namespace Og
open PySem L2
noncomputable def Tx (t:Str):Prop:=t.length<=1000/\∀ c∈t.cps.toList,c<128
inductive OJ (H:Hp):V->Prop where
 | non:OJ H .non
 | bl (b:Bool):OJ H (.bl b)
 | int (i:Int):OJ H (.int i)
 | lst {a:Addr} {xs:List V} (h:H a=some (.lst xs)):OJ H (.ref a)
 | tup {a:Addr} {xs:List V} (h:H a=some (.tup xs)):OJ H (.ref a)
 | str {t:Str} (h:Tx t):OJ H (.str t)
end Og
namespace Og
open PySem L2
noncomputable def N5 (K:PySem.W.Frag) (C:Addr):Bool:=(PySem.W.findIn K (.ref C) "__getattribute__" == some (some (.builtin "BaseException.__getattribute__"))) && (PySem.W.findIn K (.ref C) "__getattr__" == some none) &&
 (PySem.W.mroIn K C (.type "BaseException") == some true) && PySem.W.hasDictIn K C && (PySem.W.findIn K (.ref C) "__class__" == some (some (.builtin "object.__class__"))) &&
 (PySem.W.specialIn K (.builtin "object.__class__") "__get__" == some (some (.builtin "getset_descriptor.__get__"))) && (PySem.W.takesIn K (.builtin "object.__class__") == some true) && (PySem.W.mroIn K C (.type "object") == some true) && PySem.W.keepIn K (.ref C)
theorem K1 {K:PySem.W.Frag} {C:Addr} (h:N5 K C=true):Gm K C/\PySem.W.keepIn K (.ref C)=true:=by
 simp only [N5,Bool.and_eq_true,beq_iff_eq] at h
 obtain ⟨⟨⟨⟨⟨⟨⟨⟨h1,h2⟩,h3⟩,h4⟩,h5⟩,h6⟩,h7⟩,h8⟩,h9⟩:=h
 exact ⟨⟨h1,h2,h3,h4,h5,h6,h7,h8⟩,h9⟩
noncomputable def c7 (K:PySem.W.Frag) (C cO:Addr) (ds:List Addr):Bool :=
 N5 K C && (PySem.W.kitOne K (.ref C) (.ref C) == some true) && (PySem.W.kitOne K (.ref C) (.type "ValueError") == some true) && (PySem.W.kitAny K (.ref C) (ds.map Value.ref) == some false) && (ds.all fun D=>PySem.W.kitOne K (.ref C) (.ref D) == some false) &&
 PySem.W.excIn K C Pn "ValueError.__new__" && (PySem.W.mroIn K C (.ref cO) == some true)
structure Rc (K:PySem.W.Frag) (C cO:Addr) (ds:List Addr):Prop where
 xc:Gm K C
 kp:PySem.W.keepIn K (.ref C)=true
 k0:PySem.W.kitOne K (.ref C) (.ref C)=some true
 kv:PySem.W.kitOne K (.ref C) (.type "ValueError")=some true
 ka:PySem.W.kitAny K (.ref C) (ds.map Value.ref)=some false
 kf:∀ D∈ds,PySem.W.kitOne K (.ref C) (.ref D)=some false
 ex:PySem.W.excIn K C Pn "ValueError.__new__" = true
 mro:PySem.W.mroIn K C (.ref cO)=some true
noncomputable abbrev U5:List Str:=["__init__","draw","pull","push","store","press","cancel","shoe","drawn","knobs","step"]
structure W5 (Cy:Addr) (H:Hp) (y x:Addr) (dr sh:Nat) (sd:Addr):Prop where
 ex:∃ dy fs,H y=some (.ins Cy dy fs)/\fs.lookup ("organ" : Str)=some (.ref x)/\fs.lookup ("drawn_set" : Str)=some (.int (dr:Nat))/\fs.lookup ("shoe_step" : Str)=some (.int (sh:Nat))/\fs.lookup ("stored" : Str)=some (.ref sd)/\fs.length<=4/\∀ m∈U5,fs.lookup m=none
structure dg (C Cy:Addr) (Ho H:Hp) (y x:Addr) (us:List V) (bs:List (Str × Nat)) (rk:List (Str × Nat × Int)) (ks:List R) (ls:List (List Ln)) (sts:List Nat) (dr sh:Nat) (sd:Addr):Prop where
 o:Ql C Ho x us bs rk ks ls sts
 s:Aj Ho H
 n:Ho y=none
 c:W5 Cy H y x dr sh sd
end Og
namespace L2
open PySem PySem.Spec PySem.Calls PyProof.Rows
noncomputable def Ft (x C:Addr) (od:Option Addr):HO:=.ext fun h=>∃ (vs:Array Value) (sl:Array (Option Value)),h.get? x=some ⟨.ref C,od,.fields vs,sl⟩/\vs[1]? = some .none
section
variable {P:Program} {w:World} {H:Hp} {h:Heap} {x C:Addr} {od:Option Addr}
theorem N7 {vs:Array Value} {sl:Array (Option Value)} (e:h.get? x=some ⟨.ref C,od,.fields vs,sl⟩) (n:vs[1]? = some .none):Be P w H h x (Ft x C od) :=
 ⟨⟨vs,sl,e,n⟩,⟨_,e⟩,fun _ _ ⟨d,sl,e,n⟩ k=>⟨d,sl,k _ e,n⟩⟩
end
section
variable {X:Cx} {pins:List (Addr × Obj)} {σ:St} {H:Hp} {s:Shared} {h':Heap} {x C dx:Addr} {f:Str} {y:V} {u:Value}
theorem Inv.W4 {t':Nat} {vs:Array Value} {sl:Array (Option Value)} (I:Inv X pins σ H s) (e:H x=some (Ft x C none)) (hd:s.heap.objs.size=dx) (hn:h'.Ns1 dx (fun z=>if z=f then some u else none)) (hx:h'.get? x=some ⟨.ref C,some dx,.fields vs,sl⟩) (nc:vs[1]? = some .none)
  (hk:∀ b o,b ≠ x->s.heap.get? b=some o->h'.get? b=some o) (ry:RelV y u):Inv X pins σ (upd (upd H dx (Ri dx [(f,y)])) x (Ft x C (some dx))) { s with heap:=h',toks:=t' }:=by
 have hdn:H dx=none:=I.hok.fresh (Nat.le_of_eq hd)
 have hdx:dx ≠ x:=fun z=>by rw [z,e] at hdn; cases hdn
 have nx:∀ b,H b=none->b ≠ x:=fun b n z=>by rw [z,e] at n; cases n
 have nd:∀ b o,s.heap.get? b=some o->b ≠ dx:=fun b o q z=>by
  have:=Heap.lt_size q
  rw [z,← hd] at this
  exact Nat.lt_irrefl _ this
 have ndH:∀ b o,H b=some o->b ≠ dx:=fun b o q=>Am q hdn
 have nxH:∀ b o,H b=some o->o ≠ Ft x C none->b ≠ x:=fun b o q ne z=>by rw [z,e] at q; exact ne (Option.some.inj q).symm
 have oth:∀ b,b ≠ x->b ≠ dx->upd (upd H dx (Ri dx [(f,y)])) x (Ft x C (some dx)) b=H b:=fun b h1 h2=>by rw [Ar h1,Ar h2]
 refine I.un ⟨fun b o q n _ _=>hk b o (nx b n) q,fun b o q n _ _=>⟨o.slots,hk b o (nx b n) q⟩,fun b o q n _=>by rw [oth b (nx b n) (nd b o q)]; exact n,fun b o q _=>?_,fun b xs q=>?_,fun b o u q=>?_,fun b ps q=>⟨#[],?_⟩⟩ fun b o q=>?_
 ·by_cases hb:b=x
  ·subst hb; exact ⟨_,hx⟩
  ·exact ⟨o,hk b o hb q⟩
 ·rw [oth b (nxH b _ q (by intro z; cases z)) (ndH b _ q)]; exact q
 ·rw [oth b (nxH b _ q (by intro z; cases z)) (ndH b _ q)]; exact q
 ·rw [oth b (nxH b _ q (by intro z; cases z)) (ndH b _ q),q]; simp
 ·by_cases hb:b=x
  ·subst hb; rw [Ac] at q; cases q; exact N7 hx nc
  ·rw [Ar hb] at q
   by_cases hb2:b=dx
   ·subst hb2
    rw [Ac] at q
    cases q
    refine V3 hn fun g=>?_
    show Ew (List.lookup g [(f,y)]) (if g=f then some u else none)
    by_cases hg:g=f
    ·subst hg
     simp only [List.lookup,beq_self_eq_true,if_true]
     exact ry
    ·have hg':(g == f)=false:=beq_eq_false_iff_ne.mpr hg
     simp only [List.lookup,hg',if_neg hg]
     exact True.intro
   ·rw [Ar hb2] at q
    have own:∀ c,H c=some (.own b)->c ≠ x:=fun c qc=>nxH c _ qc (by intro z; cases z)
    refine (I.hok b o q).stay (fun c v hc qc=>hk c v ?_ qc) (fun c qc=>by rw [oth c (own c qc) (ndH c _ qc)]; exact qc) fun c xs qc=>by rw [oth c (nxH c _ qc (by intro z; cases z)) (ndH c _ qc)]; exact qc
    rcases hc with z | z
    ·rw [z]; exact hb
    ·exact own c z
end
section
variable {X:Cx} {o value:Expr} {f:Str} {pos pos':Pos} {ta tv:TE}
noncomputable def V4 (K:PySem.W.Frag) (ta tv:TE) (f:Str):TS:=fun D σ H=>tv σ H fun y H1=>ta σ H1 fun z H2=>∃ x C,z=.ref x/\H2 x=some (Ft x C none)/\Gm K C/\Ve K C/\Bx K C f /\
 ∀ dx,H2 dx=none->dx ≠ x->D.nx σ (upd (upd H2 dx (Ri dx [(f,y)])) x (Ft x C (some dx)))
theorem RT (ha:PE X o ta) (hv:PE X value tv) (hs:swapsWith value (some (.Attribute o f pos')) pos.line X.env=pure false):PS X (.Assign [.Attribute o f pos'] value pos) (V4 X.K ta tv f):=by
 intro pins s σ H D I h
 refine plainObj_wpAny_Assign_Attribute (Bs (hv pins s σ H _ I h) fun u s1 ⟨y,H1,I1,ry,q⟩=>Bs (ha pins s1 σ H1 _ I1 q) fun ov s2 ⟨z,H2,I2,rz,x,C,ez,ea,c,S,n,q2⟩=>?_) hs
 subst ez
 obtain rfl:ov=Value.ref x:=rz
 obtain ⟨⟨vs,sl,e1,nc⟩,_,_⟩:=(show Be X.prog X.w H2 s2.heap x (Ft x C none) from I2.hok x _ ea)
 have J:PySem.W.InstAt s2.heap x ⟨.ref C,none,.fields vs,sl⟩ C none:=⟨e1,rfl,rfl,trivial⟩
 refine PySem.W.set_plain I2.Ey J S.sa (S8 (s:={ s2 with toks:=s2.toks+1 }) I2.Ey e1 rfl c S n fun h' tk' hn hx hk=>?_)
 have I3:=I2.W4 (t':=tk') (f:=f) (y:=y) (u:=u) ea rfl hn hx nc hk ry
 have hdn:H2 s2.heap.objs.size=none:=I2.hok.fresh (Nat.le_refl _)
 have hdx:s2.heap.objs.size ≠ x:=fun z=>by rw [z,ea] at hdn; cases hdn
 exact ⟨σ,_,I3,q2 _ hdn hdx⟩
end
noncomputable def Tc (K:PySem.W.Frag) (C:Addr) (f:Str):Sp:=fun vs H Q _=>∃ x v,vs=[.ref x,v]/\H x=some (Ft x C none)/\∀ dx,H dx=none->dx ≠ x->Q .non (upd (upd H dx (Ri dx [(f,v)])) x (Ft x C (some dx)))
noncomputable def del (H:Hp) (x:Addr):Hp:=fun b=>if b=x then none else H b
theorem HX {H:Hp} {x b:Addr} (h:b ≠ x):del H x b=H b:=if_neg h
theorem G7 {H:Hp} {x:Addr}:del H x x=none:=if_pos rfl
noncomputable def Tz (X:Cx) (C:Addr) (E:XK):Prop:=∀ (pins:List (Addr × Obj)) (σ:St) (H1 H3:Hp) (s1 s3:Shared) (x dx:Addr),Inv X pins σ H1 s1->s1.heap.get? x=none->Inv X pins σ H3 s3->H3 x=some (Ft x C (some dx))->E (.ref C) (some dx) (del H3 x)->X.xe (.ref x) s3
theorem Ik {P:Program} {w:World} {K:PySem.W.Frag} {mg:Str->Option Value} {base:Heap} {N:List Str} {qual:Str} {scope:Scope} {f:Addr} {cd:Value} {A:Around} {outer:List Env} {s:Shared} {H:Hp} {E:XK} {C:Addr} :
  Tz (Jz (Pr P w) P w K mg base N qual scope f cd A outer s H E) C E:=by
 intro pins σ H1 H3 s1 s3 x dx I1 hx1 I hx3 q
 have gone:∀ b,s1.heap.get? b=none->s.heap.get? b=none:=fun b e=>by
  cases z:s.heap.get? b with
  | none=>rfl
  | some o =>
   obtain ⟨o',e'⟩:=I1.base.there b o z (by show b ∉ ([]:List Addr); simp)
   rw [e] at e'; cases e'
 have hxs:s.heap.get? x=none:=gone x hx1
 obtain ⟨⟨vs,sl,he,hv⟩,_,_⟩:=(show Be P w H3 s3.heap x (Ft x C (some dx)) from I.hok x _ hx3)
 have frees:∀ b∈frs (envOfC qual scope s.heap.objs.size f cd::outer),del H3 x b=none:=fun b hb=>by
  by_cases hbx:b=x
  ·rw [hbx]; exact G7
  ·rw [HX hbx]; exact I.GF b hb
 have hfr:(A.deeper (envOfC qual scope s.heap.objs.size f cd)).frames=some (envOfC qual scope s.heap.objs.size f cd::outer):=I.ok.frames
 have hff:s3.heap.FunFrames base (envOfC qual scope s.heap.objs.size f cd::outer):=I.stack
 have nT:∀ b o,H3 b=some o->(∀ z,o ≠ Ft z C (some dx))->del H3 x b=some o:=fun b o e n=>by
  by_cases hbx:b=x
  ·rw [hbx,hx3] at e
   exact absurd (Option.some.inj e).symm (n x)
  ·rw [HX hbx]; exact e
 have hok1:Dr P w (del H3 x) s3.heap:=fun b o e=>by
  by_cases hbx:b=x
  ·rw [hbx,G7] at e; cases e
  rw [HX hbx] at e
  exact (I.hok b o e).stay (fun c v _ q=>q) (fun c qc=>nT c _ qc (fun z=>by intro q; cases q)) fun c xs qc=>nT c _ qc (fun z=>by intro q; cases q)
 have u00:Un (frs outer) [] H H3 s.heap s3.heap:=I.base
 have u0:Un (frs outer) [] H (del H3 x) s.heap s3.heap:=by
  refine ⟨u00.keep,u00.slot,fun b o e n hb=>?_,u00.there,fun b xs e=>?_,fun b o u e=>?_,fun b ps e=>?_⟩
  ·by_cases hbx:b=x
   ·rw [hbx]; exact G7
   ·rw [HX hbx]; exact u00.free b o e n hb
  ·exact nT b _ (u00.tups b xs e) (fun z=>by intro q; cases q)
  ·exact nT b _ (u00.frzs b o u e) (fun z=>by intro q; cases q)
  ·obtain ⟨more,e1⟩:=u00.tbls b ps e
   exact ⟨more,nT b _ e1 (fun z=>by intro q; cases q)⟩
 have fsN:∀ b∈frs (envOfC qual scope s.heap.objs.size f cd::outer),b ∉ frs outer->s.heap.get? b=none:=fun b hb hn=>by
  rcases List.mem_cons.mp (show b∈s.heap.objs.size::frs outer from hb) with z | z
  ·rw [z]; exact Heap.get?_none_of_le (Nat.le_refl _)
  ·exact absurd z hn
 have hx0:del H3 x x=none:=G7
 show wpAny (model P w) (A.deeper (envOfC qual scope s.heap.objs.size f cd)) (leaving (envOfC qual scope s.heap.objs.size f cd) (.ref x)) _ _ _
 unfold leaving
 refine wpAny_bind (Mf (s:=s3) (L:=s.heap.objs.size) hfr hff rfl he hv fun h2 T y m n=>?_)
 refine Ei (s:={ s3 with heap:=h2 }) y fun h3 y3 m3=>?_
 have nT3:s.heap.get? T=none:=by
  cases z:s.heap.get? T with
  | none=>rfl
  | some o =>
   obtain ⟨o',e'⟩:=u0.there T o z (by simp)
   have n3':s3.heap.get? T=none:=n
   rw [n3'] at e'; cases e'
 have hT1:del H3 x T=none:=hok1.none_of n
 have hokB:Dr P w (del H3 x) h2:=hok1.mv m hx0 hx0 frees
 have hokC:Dr P w (del H3 x) h3:=hokB.mv m3 hx0 hT1 (fun _ z=>nomatch z)
 have uB:Un (frs outer) [] H (del H3 x) s.heap h2:=u0.mv m hxs hxs fsN
 have uC:Un (frs outer) [] H (del H3 x) s.heap h3:=uB.mv m3 hxs nT3 (fun _ z=>nomatch z)
 exact ⟨x,T,C,some dx,del H3 x,rfl,I.os,I.bare,y3,hxs,nT3,hx0,hT1,hokC,uC,q⟩
section
variable {X:Cx} {C f:Addr} {fd:FuncData} {ps:List Str} {k:Nat} {fn x:Str} {e:Expr} {t:TA} {np cpos pos:Pos} {E:XK}
noncomputable def Ry (C:Addr) (fn:Str) (E:XK) (t:TA):TS:=fun _ σ H=>t σ H fun vs H1=>∃ v,vs=[v]/\∀ dx H4,H1 dx=none->Aj H1 H4->H4 dx=some (Ri dx [(fn,v)])->E (.ref C) (some dx) H4
theorem Ff {M:Model} {A:Around} {E:Value->Shared->Prop} {env:Env} {nm q:Str} {C N:Addr} {bs bm:List Value} {hdct:Bool} {sn:List Str} {sub:List Value} {ab:Bool} {col:Option Bool} {dd:Option Addr} {k0 k1 k2 k3 k5:Option Value} {newId:String} {s:Shared} {x:Sem Value} {Q:Flow->Shared->Prop} (hbase:bm.contains (.type "BaseException")=true) (hh:A.handled=none)
  (h:wpAny M A x (fun v s₁=>∃ e od vs sl,v=.ref e/\s₁.heap.get? C=some (excClassObj nm q C N bs bm hdct sn sub ab col dd k0 k1 k2 k3 k5 newId) /\
   s₁.heap.get? e=some ⟨.ref C,od,.fields vs,sl⟩/\vs[1]? = some .none/\E (.ref e) s₁) E s) :
  wpAny M A (raiseStmt env (some x) none) Q E s:=by
 have hcB:(Value.ref C::bm).contains (.type "BaseException")=true:=by rw [List.contains_cons,hbase,Bool.or_true]
 unfold raiseStmt
 refine wpAny_bind (wpAny_mono h (fun v s₁ h₁=>?_) fun _ _ x=>x)
 obtain ⟨e,od,vs,sl,rfl,hC,he,hv1,hE⟩:=h₁
 obtain ⟨hp,g,d,tk,os⟩:=s₁
 repeat (first | with_reducible refine wpAny_loadPart_at he ?_ | with_reducible refine wpAny_loadPart_at hC ?_ | (with_reducible refine wpAny_isSubtype_exc hC ?_; rw [hcB]) | wp_step)
 rw [hv1]
 refine wpAny_pure ?_
 rw [if_neg (by decide)]
 exact wpAny_pure (wpAny_raiseNew_none hh hE)
theorem Hy {prog:Program} {w:World} {A:Around} {E:Value->Shared->Prop} {s:Shared} {env:Env} {nm q:Str} {C N:Addr} {bs bm:List Value} {hdct:Bool} {sn:List Str} {sub:List Value} {ab:Bool} {col:Option Bool} {dd:Option Addr} {k0 k1 k2 k3 k5:Option Value} {newId:String} {e:Expr} {pos:Pos} {Q:Flow->Shared->Prop} (hbase:bm.contains (.type "BaseException")=true) (hh:A.handled=none)
  (h:wpAny (model prog w) A (eval e env) (fun v s₁=>∃ x od vs sl,v=.ref x/\s₁.heap.get? C=some (excClassObj nm q C N bs bm hdct sn sub ab col dd k0 k1 k2 k3 k5 newId) /\
   s₁.heap.get? x=some ⟨.ref C,od,.fields vs,sl⟩/\vs[1]? = some .none/\E (.ref x) s₁) E s) :
  wpAny (model prog w) A (exec (.Raise (some e) none pos) env) Q E s:=by
 rw [arm_exec_Raise]
 first
  | exact wpAny_bind (wpAny_standAt (Ff hbase hh (wpAny_bind (wpAny_mono h (fun v s₃ h₃=>wpAny_bind (wpAny_standAt (wpAny_pure h₃))) fun _ _ x=>x))))
  | (simp only [evalOpt,Option.map]; exact wpAny_bind (wpAny_standAt (Ff hbase hh (wpAny_bind (wpAny_mono h (fun v s₃ h₃=>wpAny_bind (wpAny_standAt (wpAny_pure h₃))) fun _ _ x=>x)))))
theorem HY (q:Gq X.K C=true) (hi:PySem.W.findIn X.K (.ref C) "__init__" = some (some (.ref f))) (hf:PySem.W.typeIn X.K (.ref f)=some (.type "function")) (kp:PySem.W.keepIn X.K (.ref C)=true)
  (F:A_ X.prog X.w X.K X.mg X.base B_ k f fd ps (Tc X.K C fn)) (hr:BZ (k+1) X.A) (hb:Binds X.K fd ps []) (hg:Gl X x) (hm:X.mg x=some (.ref C)) (hc:X.calm=true) (hl:Tz X C E) (ha:PA X [e] t)
  (hdb:(x == ("__debug__" : Str))=false:=by decide) (he:starEach [e] X.env=(false,eval e X.env)::starEach [] X.env:=by rfl) (hpl:(backTo cpos (starEach [] X.env)).any (·.1)=false:=by rfl) :
  PS X (.Raise (some (.Call (.Name x np) [e] [] cpos)) none pos) (Ry C fn E t):=by
 intro pins s σ H D I h
 obtain ⟨bm,N,nm,qn,bs,hdct,sn,sub,ab,col,dd,k0,k1,k2,k3,k5,hC0,TL⟩:=J1 I.ok.mod.kin q
 have hbase:bm.contains (.type "BaseException")=true:=TL.hasType (by decide)
 refine Hy (C:=C) (nm:=nm) (q:=qn) (N:=N) (bs:=bs) (bm:=bm) (hdct:=hdct) (sn:=sn) (sub:=sub) (ab:=ab) (col:=col) (dd:=dd) (k0:=k0) (k1:=k1) (k2:=k2) (k3:=k3) (k5:=k5) (newId:="ValueError.__new__") hbase (I.ok.hd hc) ?_
 refine wpAny_Call_Name_kw (E_ I hg hm ?_ hdb)
 refine PySem.W.callWith_K (h₀:=X.base) I.ok.mod.kin kp (Bs (ha cpos pins s σ H _ I h) fun us s1 ⟨vs,H1,I1,r,v,ev,q1⟩=>⟨I1.Ey,?_⟩) he hpl
 subst ev
 have hz':us.length<=sizeLine:=by
  rw [← r.length]
  exact Nat.le_of_lt (BJ (by show 1<=1000; decide))
 have I2:=I1.laid (a:=s1.heap.objs.size+1) (o:=Ft (s1.heap.objs.size+1) C none) (h':=newX s1.heap C us) (t':=s1.toks) (Gb _ _ _) (Nat.le_succ _) (N7 (Kv _ _ _) rfl)
 have hn:H1 (s1.heap.objs.size+1)=none:=I1.hok.fresh (Nat.le_succ _)
 have hx1:s1.heap.get? (s1.heap.objs.size+1)=none:=Heap.get?_none_of_le (Nat.le_succ _)
 have hsp:Tc X.K C fn (V.ref (s1.heap.objs.size+1)::[v]) (upd H1 (s1.heap.objs.size+1) (Ft (s1.heap.objs.size+1) C none)) (fun v' H3=>v'=.non/\∃ dx,H3 (s1.heap.objs.size+1)=some (Ft (s1.heap.objs.size+1) C (some dx))/\E (.ref C) (some dx) (del H3 (s1.heap.objs.size+1))) E0:=by
  refine ⟨_,_,rfl,Ac,fun dx hdx hne=>⟨rfl,dx,Ac,?_⟩⟩
  rw [Ar hne] at hdx
  refine q1 dx _ hdx (fun b o eb=>?_) ?_
  ·have hb1:b ≠ s1.heap.objs.size+1:=Am eb hn
   have hb2:b ≠ dx:=Am eb hdx
   rw [HX hb1,Ar hb1,Ar hb2,Ar hb1]
   exact eb
  ·rw [HX hne,Ar hne]
   exact Ac
 have r2:Vals (V.ref (s1.heap.objs.size+1)::[v]) (Value.ref (s1.heap.objs.size+1)::us):=.cons rfl r
 have hl2:(Value.ref (s1.heap.objs.size+1)::us++[]).length=ps.length:=by
  have e:=r2.length
  rw [F.len _ _ _ _ hsp] at e
  rw [List.append_nil]
  exact e.symm
 have kin:=I1.Ey
 have I1':=I1
 obtain ⟨hh,g,d,tk,os⟩:=s1
 refine wpAny_call (Qq kin q hi hz' (fun self=>PySem.W.bind_fn (kin.keeps (Gb _ _ _)) self hf) fun A' eA=>?_)
 subst eA
 have hbb:=hb _ (Value.ref (hh.objs.size+1)::us) I2.Ey hl2
 rw [List.append_nil] at hbb
 refine wpAny_call (codeAny_mono (F.run _ X.stack _ _ ⟨Value.ref (hh.objs.size+1)::us,[]⟩ (Value.ref (hh.objs.size+1)::us) _ _ E0 (hr.make C us []) (I2.env0.make C us []) hbb r2 hsp) fun r s' hq'=>?_)
 cases r with
 | error e=>exact False.elim hq'
 | ok fl =>
  cases fl with
  | ret u =>
   obtain ⟨v',H',I3,rv,ev,dx,g1,g2⟩:=I2.after hq'
   subst ev
   obtain ⟨⟨vs,sl,he,hv⟩,_,_⟩:=(show Be X.prog X.w H' s'.heap _ (Ft (hh.objs.size+1) C (some dx)) from I3.hok _ _ g1)
   obtain ⟨bm',N',nm',qn',bs',hdct',sn',sub',ab',col',dd',k0',k1',k2',k3',k5',hC',TL'⟩:=J1 I3.Ey q
   refine ⟨rv,_,some dx,vs,sl,rfl,?_,he,hv,hl pins σ _ _ _ _ _ dx I1' hx1 I3 g1 g2⟩
   exact I3.bk _ _ hC0
  | next=>exact False.elim hq'
  | brk=>exact False.elim hq'
  | cont=>exact False.elim hq'
end
section
variable {X:Cx} {ER:XR} {k:Nat} {f C:Addr} {fd:FuncData} {ps:List Str} {sp:Sp} {dvs:List V} {ds:List Value} {x:Str} {p pos:Pos} {e:Expr} {es:List Expr} {t:TA}
theorem O1 {pins:List (Addr × Obj)} {σ:St} {H:Hp} {s:Shared} {Q:VK} {us:List Value} {vs:List V} (M:Mk X.K C f) (F:A_ X.prog X.w X.K X.mg X.base (Pr X.prog X.w) k f fd ps sp) (hr:BZ (k+1) X.A) (hb:Binds X.K fd ps ds) (hd:Vals dvs ds)
  (I:Inv X pins σ H s) (r:Vals vs us)
  (h:∀ x dx,H x=none->H dx=none->dx ≠ x->sp (.ref x::(vs++dvs)) (upd (upd H dx (.own x)) x (.ins C dx [])) (fun v H2=>v=.non/\Q (.ref x) H2) (fun C od H2=>ER C od σ H2)) :
  wpAny (model X.prog X.w) X.A (call (.ref C) us) (EP X pins σ Q) (XT X pins ER) s:=by
 have hq:=h (s.heap.objs.size+1) s.heap.objs.size (I.hok.fresh (Nat.le_succ _)) (I.hok.fresh (Nat.le_refl _)) (Nat.ne_of_lt (Nat.lt_succ_self _))
 have I2:=Inv.made (C:=C) I
 have r2:Vals (V.ref (s.heap.objs.size+1)::(vs++dvs)) (Value.ref (s.heap.objs.size+1)::(us++ds)):=.cons rfl (r.append hd)
 have hl:(Value.ref (s.heap.objs.size+1)::us++ds).length=ps.length:=by
  have e:=r2.length
  rw [F.len _ _ _ _ hq] at e
  exact e.symm
 refine wpAny_call (Ko (f:=f) I.Ey M.makes M.init (beq_iff_eq.mp M.fn) (codeAny_mono (F.run _ X.stack _ _ ⟨Value.ref (s.heap.objs.size+1)::us,[]⟩ (Value.ref (s.heap.objs.size+1)::(us++ds)) _ _ _ (hr.make C us [])
  (I2.env0.make C us []) (hb _ (Value.ref (s.heap.objs.size+1)::us) I2.Ey hl) r2 hq) fun r s' hq'=>?_))
 cases r with
 | error e=>exact ⟨σ,_,_,I2,hq'⟩
 | ok fl =>
  cases fl with
  | ret u =>
   obtain ⟨v,H',I3,rv,ev,q3⟩:=I2.after hq'
   subst ev
   exact ⟨rv,⟨V.ref (s.heap.objs.size+1),H',I3,rfl,q3⟩⟩
  | next=>exact False.elim hq'
  | brk=>exact False.elim hq'
  | cont=>exact False.elim hq'
noncomputable def WN (C:Addr) (sp:Sp) (dvs:List V) (ER:XR) (t:TA):TE:=fun σ H Q=>UG C sp dvs (fun C od H2=>ER C od σ H2) t σ H Q
theorem QM (M:Mk X.K C f) (F:A_ X.prog X.w X.K X.mg X.base (Pr X.prog X.w) k f fd ps sp) (hr:BZ (k+1) X.A) (hg:Gl X x) (hm:X.mg x=some (.ref C)) (hb:Binds X.K fd ps ds) (hd:Vals dvs ds)
  (ha:PA X (e::es) t) (hxe:X.xe=fun _ _=>False) (hdb:(x == ("__debug__" : Str))=false:=by decide) (he:starEach (e::es) X.env=(false,eval e X.env)::starEach es X.env:=by rfl) (hpl:(backTo pos (starEach es X.env)).any (·.1)=false:=by rfl) :
  PET X ER (.Call (.Name x p) (e::es) [] pos) (WN C sp dvs ER t):=by
 intro pins s σ H Q I h
 refine wpAny_Call_Name_kw (E_ I hg hm ?_ hdb)
 refine PySem.W.callWith_K (h₀:=X.base) I.ok.mod.kin M.kp (wpAny_mono (ha pos pins s σ H _ I h) (fun us s1 ⟨vs,H1,I1,r,q⟩=>⟨I1.Ey,?_⟩) fun e s' z=>?_) he hpl
 ·exact O1 M F hr hb hd I1 r q
 ·rw [hxe] at z
  exact z.elim
end
end L2
namespace Og
open PySem L2
noncomputable def Ud (K:PySem.W.Frag) (C:Addr) (a:Str):Bool:=(PySem.W.findIn K (.ref C) "__setattr__" == some (some (.builtin "object.__setattr__"))) && ((PySem.W.clsIn K C).any fun cd=>(Gx cd.mro == Pn) && cd.hasDict) &&
 (PySem.W.findIn K (.ref C) a == some none) && Gq K C
noncomputable def WW (K:PySem.W.Frag) (C cO:Addr) (a:Str) (ds:List Addr):Bool :=
 N5 K C && (PySem.W.kitOne K (.ref C) (.ref C) == some true) && (PySem.W.kitOne K (.ref C) (.type "ValueError") == some true) && (ds.all fun D=>PySem.W.kitOne K (.ref C) (.ref D) == some false) && (PySem.W.mroIn K C (.ref cO) == some true) && Ud K C a
structure ZF (K:PySem.W.Frag) (C cO f:Addr) (a:Str) (ds:List Addr):Prop where
 xc:Gm K C
 kp:PySem.W.keepIn K (.ref C)=true
 k0:PySem.W.kitOne K (.ref C) (.ref C)=some true
 kv:PySem.W.kitOne K (.ref C) (.type "ValueError")=some true
 kf:∀ D∈ds,PySem.W.kitOne K (.ref C) (.ref D)=some false
 mro:PySem.W.mroIn K C (.ref cO)=some true
 inI:Gq K C=true
 init:PySem.W.findIn K (.ref C) "__init__" = some (some (.ref f))
 fn:PySem.W.typeIn K (.ref f)=some (.type "function")
 set:Ve K C
 na:Bx K C a
theorem ZF.of {K:PySem.W.Frag} {C cO f:Addr} {a:Str} {ds:List Addr} (h:WW K C cO a ds=true) (hi:PySem.W.findIn K (.ref C) "__init__" = some (some (.ref f))) (hf:PySem.W.typeIn K (.ref f)=some (.type "function")):ZF K C cO f a ds:=by
 unfold WW Ud at h
 simp only [Bool.and_eq_true,beq_iff_eq,List.all_eq_true] at h
 obtain ⟨⟨⟨⟨⟨a1,a2⟩,a3⟩,a4⟩,a5⟩,⟨⟨b1,b2⟩,b3⟩,b4⟩:=h
 obtain ⟨cd,hc,b5⟩:=PySem.W.any_some b2
 simp only [Bool.and_eq_true,beq_iff_eq] at b5
 exact ⟨(K1 a1).1,(K1 a1).2,a2,a3,a4,a5,b4,hi,hf,⟨b1,cd,hc,b5.1,b5.2⟩,b3⟩
structure LK (K:PySem.W.Frag) (aB aP:Addr) (ρ:V->R) (vs:List V) (r:R):Prop where
 ns:¬ r.w = "step"
 parts:∃ (ap:Addr) (ps:List Str),PySem.W.nsIn K aP r.w=some (some (.ref ap))/\KTup K ap (ps.map V.str)/\(V.str r.nm::r.rest).length=ps.length/\ps.length<=10 /\
  ∀ (i:Nat) x y,(V.str r.nm::r.rest)[i]? = some x->ps[i]? = some y->Em K aB ρ vs x y
 line:r.w = "line"->Jw ρ vs r
 Mt:Bw ρ vs
structure Xm (ρ:V->R) (vs:List V) (r:R):Prop where
 w:r.w = "step"
 ts:∃ ts:List Str,V.str r.nm::r.rest=ts.map V.str/\ts.Nodup/\ts.length<=24/\∀ t∈ts,isNm t/\Q9 ρ vs "stop" t=true
noncomputable abbrev RP (K:PySem.W.Frag) (aB aP:Addr) (ρ:V->R) (vs:List V) (r:R):Prop:=LK K aB aP ρ vs r \/ Xm ρ vs r
structure QS (ρ:V->R) (vs:List V):Prop where
 ex:∃ cnt v,Qf ρ vs cnt/\4<=cnt/\vs[vs.length - 1 - cnt]? = some v/\(ρ v).w = "stop"
structure J0 (K:PySem.W.Frag) (aB aP:Addr) (ρ:V->R) (vs:List V) (r:R):Prop where
 w:r.w = "line"
 parts:∃ (ap:Addr) (ps:List Str),PySem.W.nsIn K aP r.w=some (some (.ref ap))/\KTup K ap (ps.map V.str)/\(V.str r.nm::r.rest).length=ps.length/\ps.length<=10 /\
  ∀ (i:Nat) x y,(V.str r.nm::r.rest)[i]? = some x->ps[i]? = some y->Em K aB ρ vs x y
 full:QS ρ vs
 Mt:Bw ρ vs
noncomputable abbrev XX (ρ:V->R) (vs:List V) (r:R) (b:Bool):Prop:=(b=true/\Jw ρ vs r) \/ (b=false/\QS ρ vs)
noncomputable abbrev XJ (K:PySem.W.Frag) (aB aP:Addr) (ρ:V->R) (vs:List V) (r:R) (b:Bool):Prop:=(b=true/\RP K aB aP ρ vs r) \/ (b=false/\J0 K aB aP ρ vs r)
noncomputable abbrev Ue (K:PySem.W.Frag) (aM:Addr) (ρ:V->R) (vs:List V) (w:Str) (b:Bool):Prop:=(b=true/\PySem.W.nsIn K aM w=some none) \/ ∃ (m:Int) (t:Tok),PySem.W.nsIn K aM w=some (some (.int m t))/\b=decide ((((vs.filter (pw ρ w)).length:Nat):Int)<m)
noncomputable abbrev Ot (K:PySem.W.Frag) (aB aP aM:Addr) (ρ:V->R) (vs:List V) (r:R) (b:Bool):Prop:=(b=false/\J0 K aB aP ρ vs r) \/ (RP K aB aP ρ vs r/\Ue K aM ρ vs r.w b)
theorem Dc.well {K:PySem.W.Frag} {aB aP aM:Addr} {ρ:V->R} {vs:List V} {r:R} (h:Dc K aB aP aM ρ vs r):RP K aB aP ρ vs r :=
 h.elim (fun h=>.inl ⟨h.ns,h.parts,h.line,h.Mt⟩) (fun h=>.inr ⟨h.w,h.ts⟩)
theorem Dc.Yw {K:PySem.W.Frag} {aB aP aM:Addr} {ρ:V->R} {vs:List V} {r:R} (h:Dc K aB aP aM ρ vs r):Ot K aB aP aM ρ vs r true:=by
 refine .inr ⟨Dc.well h,?_⟩
 rcases Dc.room h with z | ⟨m,t,z,hm⟩
 ·exact .inl ⟨rfl,z⟩
 ·exact .inr ⟨m,t,z,(decide_eq_true hm).symm⟩
inductive Fj (K:PySem.W.Frag) (aB aP aM:Addr) (H:Hp) (p:Addr):V->Prop where
 | long {us:List V} (h:H p=some (.lst us)) (hl:us.length=0 \/ 150<us.length) (hs:us.length<=1000):Fj K aB aP aM H p .non
 | row {us:List V} {ρ:V->R} {k:Nat} (h:H p=some (.lst us)) (hl:us.length<=150) (hR:Rows H ρ (us.take (k+1))) (ok:∀ (i:Nat) v,i<k->us[i]? = some v->Ot K aB aP aM ρ (us.take i) (ρ v) true)
  {v:V} (hv:us[k]? = some v) (bad:Ot K aB aP aM ρ (us.take k) (ρ v) false):Fj K aB aP aM H p (.int (k:Nat))
theorem Fj.mono {K:PySem.W.Frag} {aB aP aM:Addr} {H H':Hp} {p:Addr} {at_:V} (s:Aj H H') (h:Fj K aB aP aM H p at_):Fj K aB aP aM H' p at_:=by
 cases h with
 | long h hl hs=>exact .long (s _ _ h) hl hs
 | row h hl hR ok hv bad=>exact .row (s _ _ h) hl (hR.mono s) ok hv bad
section
variable {K:PySem.W.Frag} {aB aP aM:Addr} {ρ:V->R} {vs:List V} {wn:List (Str × Str)} {t:Str} {rows:List R} {bs:List (Str × Nat)} {rk:List (Str × Nat × Int)} {ks:List R} {ls:List (List Ln)} {sts:List Nat}
theorem MF (F:KF K aB aP aM) (e:Do ρ vs=wn) (ht:isNm t) (h:∀ w∈named,JN wn w t=false) {n:Nat} (h1:1<=n) (h2:n<=61) (hb:Bw ρ vs):LK K aB aP ρ vs (Dy (t,n)):=by
 obtain ⟨ap,g1,g2⟩:=F.pB
 obtain ⟨ab,g3,g4⟩:=F.bK
 refine ⟨by show ¬ ("board" : Str) = "step"; decide +kernel,⟨ap,["new","keys"],g1,g2,rfl,by decide,fun j x y hx hy=>?_⟩,fun z=>absurd z (by show ¬ ("board" : Str) = "line"; decide +kernel),hb⟩
 match j,hx,hy with
 | 0,hx,hy =>
  cases (Option.some.inj hx)
  cases (Option.some.inj hy)
  exact Dk F e ht h
 | 1,hx,hy =>
  cases (Option.some.inj hx)
  cases (Option.some.inj hy)
  exact .inl ⟨((n:Nat):Int),1,61,ab,rfl,g3,g4,by omega,by omega⟩
 | j+2,hx,hy=>simp at hy
theorem Jv (F:KF K aB aP aM) (e:Do ρ vs=wn) (ht:isNm t) (h:∀ w∈named,JN wn w t=false) {a b:Str} (ha:isNm a) (ha':JN wn "board" a=true) (hb:isNm b) (hb':JN wn "board" b=true) {s:Int} (h1 : -60<=s) (h2:s<=60) (hB:Bw ρ vs):LK K aB aP ρ vs ⟨"coupler",t,[.str a,.str b,.int s]⟩:=by
 obtain ⟨ap,g1,g2⟩:=F.pC
 obtain ⟨ab,g3,g4⟩:=F.bL
 refine ⟨by show ¬ ("coupler" : Str) = "step"; decide +kernel,⟨ap,["new","board","board","leap"],g1,g2,rfl,by decide,fun j x y hx hy=>?_⟩,fun z=>absurd z (by show ¬ ("coupler" : Str) = "line"; decide +kernel),hB⟩
 match j,hx,hy with
 | 0,hx,hy =>
  cases (Option.some.inj hx)
  cases (Option.some.inj hy)
  exact Dk F e ht h
 | 1,hx,hy =>
  cases (Option.some.inj hx)
  cases (Option.some.inj hy)
  exact De F e ha ha'
 | 2,hx,hy =>
  cases (Option.some.inj hx)
  cases (Option.some.inj hy)
  exact De F e hb hb'
 | 3,hx,hy =>
  cases (Option.some.inj hx)
  cases (Option.some.inj hy)
  exact .inl ⟨_,-60,60,ab,rfl,g3,g4,h1,h2⟩
 | j+4,hx,hy=>simp at hy
theorem MT (F:KF K aB aP aM) {wd:Str} (hw:wd = "stop" \/ wd = "mute") (e:Do ρ vs=wn) (ht:isNm t) (h:∀ w∈named,JN wn w t=false) {a:Str} (ha:isNm a) (ha':JN wn "board" a=true) (hB:Bw ρ vs):LK K aB aP ρ vs ⟨wd,t,[.str a]⟩:=by
 have parts:∀ (j:Nat) x (y:Str),[V.str t,.str a][j]? = some x->(["new","board"]:List Str)[j]? = some y->Em K aB ρ vs x y:=fun j x y hx hy=>by
  match j,hx,hy with
  | 0,hx,hy =>
   cases (Option.some.inj hx)
   cases (Option.some.inj hy)
   exact Dk F e ht h
  | 1,hx,hy =>
   cases (Option.some.inj hx)
   cases (Option.some.inj hy)
   exact De F e ha ha'
  | j+2,hx,hy=>simp at hy
 rcases hw with rfl | rfl
 ·obtain ⟨ap,g1,g2⟩:=F.pS
  exact ⟨by show ¬ ("stop" : Str) = "step"; decide +kernel,⟨ap,["new","board"],g1,g2,rfl,by decide,parts⟩,fun z=>absurd z (by show ¬ ("stop" : Str) = "line"; decide +kernel),hB⟩
 ·obtain ⟨ap,g1,g2⟩:=F.pM
  exact ⟨by show ¬ ("mute" : Str) = "step"; decide +kernel,⟨ap,["new","board"],g1,g2,rfl,by decide,parts⟩,fun z=>absurd z (by show ¬ ("mute" : Str) = "line"; decide +kernel),hB⟩
theorem Om (F:Le K aB aP aM) (e:Do ρ vs=wn) (ht:isNm t) (h:∀ w∈named,JN wn w t=false) {n:Nat} {wi:Int} (h1:1<=n) (h2:n<=97) (h3:0<=wi) (h4:wi<=1000000000) (hb:Bw ρ vs):LK K aB aP ρ vs (En (t,n,wi)):=by
 obtain ⟨ap,g1,g2⟩:=F.pR
 obtain ⟨ab,g3,g4⟩:=F.bP
 obtain ⟨aw,g6,g7⟩:=F.bW
 refine ⟨by show ¬ ("rank" : Str) = "step"; decide +kernel,⟨ap,["new","pipes","wind"],g1,g2,rfl,by decide,fun j x y hx hy=>?_⟩,fun z=>absurd z (by show ¬ ("rank" : Str) = "line"; decide +kernel),hb⟩
 match j,hx,hy with
 | 0,hx,hy =>
  cases (Option.some.inj hx)
  cases (Option.some.inj hy)
  exact Dk F.f e ht h
 | 1,hx,hy =>
  cases (Option.some.inj hx)
  cases (Option.some.inj hy)
  exact .inl ⟨((n:Nat):Int),1,97,ab,rfl,g3,g4,by omega,by omega⟩
 | 2,hx,hy =>
  cases (Option.some.inj hx)
  cases (Option.some.inj hy)
  exact .inl ⟨_,0,1000000000,aw,rfl,g6,g7,h3,h4⟩
 | j+3,hx,hy=>simp at hy
theorem Mz (F:Le K aB aP aM) (e:Do ρ vs=wn) (ht:isNm t) (h:JN wn "rank" t=true) {sh lo hi:Int} (b1 : -200<=sh) (b2:sh<=200) (b3:0<=lo) (b4:lo<=60) (b5:0<=hi) (b6:hi<=60) (hb:Bw ρ vs) (hl:QS ρ vs):J0 K aB aP ρ vs ⟨"line",t,[.int sh,.int lo,.int hi]⟩:=by
 obtain ⟨ap,g1,g2⟩:=F.pL
 obtain ⟨a1,g3,g4⟩:=F.bS
 obtain ⟨a2,g5,g6⟩:=F.bLo
 obtain ⟨a3,g7,g8⟩:=F.bHi
 refine ⟨rfl,⟨ap,["rank","shift","low","high"],g1,g2,rfl,by decide,fun j x y hx hy=>?_⟩,hl,hb⟩
 match j,hx,hy with
 | 0,hx,hy =>
  cases (Option.some.inj hx)
  cases (Option.some.inj hy)
  exact .inr (.inr ⟨F.bR,by decide +kernel,_,rfl,ht,by rw [Gp,e]; exact h⟩)
 | 1,hx,hy =>
  cases (Option.some.inj hx)
  cases (Option.some.inj hy)
  exact .inl ⟨_,-200,200,a1,rfl,g3,g4,b1,b2⟩
 | 2,hx,hy =>
  cases (Option.some.inj hx)
  cases (Option.some.inj hy)
  exact .inl ⟨_,0,60,a2,rfl,g5,g6,b3,b4⟩
 | 3,hx,hy =>
  cases (Option.some.inj hx)
  cases (Option.some.inj hy)
  exact .inl ⟨_,0,60,a3,rfl,g7,g8,b5,b6⟩
 | j+4,hx,hy=>simp at hy
noncomputable abbrev C_ (K:PySem.W.Frag) (aB aP aM:Addr) (rows:List R) (r:R):Prop:=∀ (ρ:V->R) (us:List V),us.map ρ=rows->Ot K aB aP aM ρ us r false
theorem DK.QV (F:Le K aB aP aM) (h:DK K aB aP aM rows bs rk ks ls sts) {t:Str} {n:Nat} (ht:isNm t) (hf:∀ b∈bs,b.1 ≠ t) (hr:∀ r∈rk,r.1 ≠ t) (hk:∀ k∈ks,k.nm ≠ t) (hb:bs.length=5) (h1:1<=n) (h2:n<=61):C_ K aB aP aM rows (Dy (t,n)):=fun ρ us e=>by
 have O:=h.ok ρ us e
 obtain ⟨tk,g5⟩:=F.f.mB
 refine .inr ⟨.inl (MF F.f rfl ht (O.fresh hf hr hk) h1 h2 O.Mt),.inr ⟨5,tk,g5,?_⟩⟩
 rw [Dw,show NT (Do ρ us) (Dy (t,n)).w=bs.length from O.Uo,hb]
 rfl
theorem DK.Rw (F:Le K aB aP aM) (h:DK K aB aP aM rows bs rk ks ls sts) {t:Str} {n:Nat} {wi:Int} (ht:isNm t) (hf:∀ b∈bs,b.1 ≠ t) (hr:∀ r∈rk,r.1 ≠ t) (hk:∀ k∈ks,k.nm ≠ t) (hc:rk.length=12) (h1:1<=n) (h2:n<=97) (h3:0<=wi) (h4:wi<=1000000000):C_ K aB aP aM rows (En (t,n,wi)):=fun ρ us e=>by
 have O:=h.ok ρ us e
 obtain ⟨tk,g5⟩:=F.mR
 refine .inr ⟨.inl (Om F rfl ht (O.fresh hf hr hk) h1 h2 h3 h4 O.Mt),.inr ⟨12,tk,g5,?_⟩⟩
 rw [Dw,show NT (Do ρ us) (En (t,n,wi)).w=rk.length from O.Ul,hc]
 rfl
theorem DK.Ma (F:Le K aB aP aM) (h:DK K aB aP aM rows bs rk ks ls sts) {t a b:Str} {n m:Nat} {s:Int} (ht:isNm t) (hb:∀ b∈bs,b.1 ≠ t) (hr:∀ r∈rk,r.1 ≠ t) (hk:∀ k∈ks,k.nm ≠ t) (hc:(ks.filter fun r=>decide (V.str r.w=V.str "coupler")).length=12) (ha:isNm a) (ha':(a,n)∈bs) (hb1:isNm b) (hb':(b,m)∈bs) (h1 : -60<=s) (h2:s<=60) :
  C_ K aB aP aM rows ⟨"coupler",t,[.str a,.str b,.int s]⟩:=fun ρ us e=>by
 have O:=h.ok ρ us e
 obtain ⟨tk,g5⟩:=F.f.mC
 refine .inr ⟨.inl (Jv F.f rfl ht (O.fresh hb hr hk) ha (O.Hd ha') hb1 (O.Hd hb') h1 h2 O.Mt),.inr ⟨12,tk,g5,?_⟩⟩
 rw [Dw,show NT (Do ρ us) "coupler" = _ from O.M9 (.inr (.inl rfl)),hc]
 rfl
theorem DK.Kh (F:Le K aB aP aM) (h:DK K aB aP aM rows bs rk ks ls sts) {wd t a:Str} {n:Nat} (hw:wd = "stop" \/ wd = "mute") (ht:isNm t) (hb:∀ b∈bs,b.1 ≠ t) (hr:∀ r∈rk,r.1 ≠ t) (hk:∀ k∈ks,k.nm ≠ t) (hc:(ks.filter fun r=>decide (V.str r.w=V.str wd)).length=Dq wd) (ha:isNm a) (ha':(a,n)∈bs) :
  C_ K aB aP aM rows ⟨wd,t,[.str a]⟩:=fun ρ us e=>by
 have O:=h.ok ρ us e
 have hw3:wd = "stop" \/ wd = "coupler" \/ wd = "mute":=by rcases hw with e | e; exact .inl e; exact .inr (.inr e)
 refine .inr ⟨.inl (MT F.f hw rfl ht (O.fresh hb hr hk) ha (O.Hd ha') O.Mt),.inr ?_⟩
 have hcnt:(us.filter (pw ρ wd)).length=Dq wd:=by rw [Dw,O.M9 hw3,hc]
 rcases hw with rfl | rfl
 ·obtain ⟨tk,g5⟩:=F.f.mS
  have hm:Dq "stop" = 24:=by decide +kernel
  refine ⟨24,tk,g5,?_⟩
  show false=decide ((((us.filter (pw ρ "stop")).length:Nat):Int)<24)
  rw [hcnt,hm]
  rfl
 ·obtain ⟨tk,g5⟩:=F.f.mM
  have hm:Dq "mute" = 5:=by decide +kernel
  refine ⟨5,tk,g5,?_⟩
  show false=decide ((((us.filter (pw ρ "mute")).length:Nat):Int)<5)
  rw [hcnt,hm]
  rfl
theorem DK.Tu (F:Le K aB aP aM) (h:DK K aB aP aM rows bs rk ks ls sts) {bd:Str} {cnt:Nat} (T:Tl rows bd cnt) (hc:4<=cnt) {j m:Nat} {t:Str} {wi sh lo hi:Int} (hj:rk[j]? = some (t,m,wi)) (ht:isNm t) (hle:lo<=hi) (b1 : -200<=sh) (b2:sh<=200) (b3:0<=lo) (b6:hi<=60) :
  C_ K aB aP aM rows ⟨"line",t,[.int sh,.int lo,.int hi]⟩:=fun ρ us e=>by
 obtain ⟨r0,st,lr,er,g1,g2,g3,g4⟩:=T
 have O:=h.ok ρ us e
 obtain ⟨u0,u1,eu,m1,m2⟩:=List.map_eq_append_iff.mp (e.trans er)
 obtain ⟨sv,lv,e1,m3,m4⟩:=List.map_eq_cons_iff.mp m2
 subst e1
 have hlv:lv.length=cnt:=by rw [← g3,← m4,List.length_map]
 have hus:us.length=u0.length+(cnt+1):=by rw [eu,List.length_append,List.length_cons,hlv]
 have hst:us[us.length - 1 - cnt]? = some sv:=by
  have:us.length - 1 - cnt=u0.length:=by omega
  rw [this,eu,List.getElem?_append_right (Nat.le_refl _),Nat.sub_self]
  rfl
 refine .inl ⟨rfl,Mz F rfl ht (O.Pz (List.mem_of_getElem? hj)) b1 b2 b3 (by omega) (by omega) b6 O.Mt ⟨cnt,sv,⟨fun i hi'=>?_,by omega,sv,hst,by rw [m3,g1]; decide +kernel⟩,hc,hst,by rw [m3,g1]⟩⟩
 have hi2:cnt - 1 - i<lv.length:=by omega
 refine ⟨lv[cnt - 1 - i],?_,?_⟩
 ·have:us.length - 1 - i=u0.length+((cnt - 1 - i)+1):=by omega
  rw [this,eu,List.getElem?_append_right (Nat.le_add_right _ _),Nat.add_sub_cancel_left,List.getElem?_cons_succ]
  exact List.getElem?_eq_getElem hi2
 ·refine g4 _ ?_
  rw [← m4]
  exact List.mem_map_of_mem (List.getElem_mem hi2)
theorem DK.Tw (h:DK K aB aP aM rows bs rk ks ls sts) (hM:∃ t,PySem.W.nsIn K aM "step" = some (some (.int 12 t))) {t0:Str} {ts:List Str} (nd:(t0::ts).Nodup) (h24:(t0::ts).length<=24) (hts:∀ t∈t0::ts,isNm t/\∃ k∈ks,k.w = "stop" /\ k.nm=t) (hc:sts.length=12):C_ K aB aP aM rows ⟨"step",t0,ts.map V.str⟩:=fun ρ us e=>by
 have O:=h.ok ρ us e
 obtain ⟨tk,hM⟩:=hM
 refine .inr ⟨.inr ⟨rfl,t0::ts,rfl,nd,h24,fun t ht=>?_⟩,.inr ⟨12,tk,hM,?_⟩⟩
 ·obtain ⟨g1,k,g2,g3,g4⟩:=hts t ht
  refine ⟨g1,G4.mpr ?_⟩
  rw [← O.ek] at g2
  obtain ⟨u,g5,rfl⟩:=List.mem_map.mp g2
  exact ⟨u,(List.mem_filter.mp g5).1,g3,g4⟩
 ·have:(us.filter (pw ρ "step")).length=sts.length:=by
   rw [← h.st,List.length_map,← e,List.filter_map,List.length_map]
   rfl
  show false=decide ((((us.filter (pw ρ "step")).length:Nat):Int)<12)
  rw [this,hc]
  rfl
theorem DK.ref {H:Hp} {p:Addr} {r:R} {vs ys:List V} {v:V} (h:DK K aB aP aM rows bs rk ks ls sts) (n:C_ K aB aP aM rows r) (hp:H p=some (.lst (vs++v::ys))) (hl:(vs++v::ys).length<=150) (hv:Paired (fun (r:R) v=>TupAt H r.v v) rows vs) (hr:TupAt H r.v v):Fj K aB aP aM H p (.int (rows.length:Nat)):=by
 have em:=Hz hv
 have O:=h.ok (HW H) vs em
 have hlen:rows.length=vs.length:=hv.length
 have htk:∀ i,i<=vs.length->(vs++v::ys).take i=vs.take i:=fun i hi=>List.take_append_of_le_length hi
 have hR:Rows H (HW H) vs:=fun v hv'=>by
  obtain ⟨r,_,hr⟩:=EY hv hv'
  rw [Ib hr]
  exact hr
 rw [hlen]
 refine .row (ρ:=HW H) hp hl (fun u hu=>?_) (fun i u hi hu=>?_) (v:=v) (by rw [List.getElem?_append_right (Nat.le_refl _),Nat.sub_self]; rfl) ?_
 ·rw [show vs++v::ys=(vs++[v])++ys by simp,List.take_append_of_le_length (by simp),List.take_of_length_le (by simp)] at hu
  rcases List.mem_append.mp hu with z | z
  ·exact hR u z
  ·rw [List.mem_singleton.mp z,Ib hr]
   exact hr
 ·rw [htk i (Nat.le_of_lt hi)]
  rw [List.getElem?_append_left hi] at hu
  exact Dc.Yw (O.ok i u hu)
 ·rw [htk _ (Nat.le_refl _),List.take_length,Ib hr]
  exact n (HW H) vs em
end
end Og
namespace L2
open PySem PySem.Spec PyProof.Rows
section
variable {X:Cx} {o e f:Expr} {apos cpos:Pos} {td ty tx:TE}
end
end L2
namespace L2
open PySem PySem.Spec PyProof.Rows
theorem Cw {X:Cx} {x:Str} {e:Expr} {te:TE} {pos' pos:Pos} (i:Nat) (hN:X.N.Nodup) (hi:X.N[i]? = some x) (hx:Loc X.env.scope x) (he:PE X e te) (hs:swapsWith e (some (.Name x pos')) pos.line X.env=pure false) (hf:X.fn x=true \/ X.env.scope.names.lookup x=some .local) :
  PS X (.Assign [.Name x pos'] e pos) (Yk te (Gh i)):=CT hN hi hx he hs hf
end L2
namespace L2
open PySem PySem.Spec PyProof.Rows
theorem Aq {X:Cx} {e:Expr} {es:List Expr} {te:TE} {t:TA} (h:starEach (e::es) X.env=(false,eval e X.env)::starEach es X.env) (he:PE X e te) (ht:PA X es t):PA X (e::es) (Uu te t):=Aa he ht h
end L2
namespace L2
open PySem PySem.Spec PyProof.Rows
end L2
section PartK11a
set_option maxHeartbeats 4000000
namespace K11
open PySem L2 Og
noncomputable def top (i:Nat):Stmt:=PySem.Challenge.pw_windchest_k11_as_many_as_may_be.main.body.getD i (.Pass ⟨0,0,0,0⟩)
noncomputable abbrev az:Stmt:=top 9
noncomputable abbrev ZC:Stmt:=top 10
noncomputable abbrev bI:Stmt:=top 11
noncomputable abbrev Y_:Stmt:=top 19
noncomputable abbrev Y7:Stmt:=top 20
noncomputable abbrev aF:Stmt:=top 21
noncomputable abbrev ZR:Stmt:=top 22
noncomputable abbrev ZG:Stmt:=top 23
noncomputable abbrev cD:Stmt:=top 24
noncomputable abbrev Y8:Stmt:=top 25
noncomputable abbrev bx:Stmt:=top 26
noncomputable abbrev Y4:Stmt:=top 27
noncomputable abbrev b8:Stmt:=top 28
noncomputable abbrev Zc:Stmt:=top 29
noncomputable abbrev Zf:Stmt:=top 30
noncomputable abbrev cI:Stmt:=top 31
noncomputable abbrev Zb:Stmt:=top 38
noncomputable abbrev ZP:Stmt:=top 39
noncomputable abbrev aU:Stmt:=top 40
noncomputable abbrev ZS:Stmt:=top 41
noncomputable abbrev bZ:Stmt:=top 34
noncomputable abbrev Y9:Stmt:=top 35
noncomputable abbrev aG:Stmt:=top 44
noncomputable abbrev Zg:Stmt:=top 45
noncomputable abbrev Zh:Stmt:=top 46
noncomputable abbrev Rm:Stmt:=top 47
noncomputable abbrev bM:Stmt:=top 48
noncomputable abbrev ZV:Stmt:=top 49
noncomputable abbrev Vm:Stmt:=top 50
noncomputable abbrev Qh:Stmt:=inClass (top 42) 0
noncomputable abbrev aY:Stmt:=inClass (top 42) 5
noncomputable abbrev cL:Stmt:=inClass (top 42) 13
noncomputable abbrev dC:Stmt:=inClass (top 42) 15
noncomputable abbrev Zm:Stmt:=inClass (top 42) 1
noncomputable abbrev cJ:Stmt:=inClass (top 42) 14
noncomputable abbrev cY:Stmt:=inClass (top 42) 16
noncomputable abbrev bJ:Stmt:=inClass (top 5) 0
noncomputable abbrev J4:Stmt:=top 51
structure Txt (K:PySem.W.Frag) (P:Params) (mg:Str->Option Value) (C cN cB cO aN aK aB aP aM:Addr):Prop where
 len:mg "len" = none
 isin:mg "isinstance" = none
 int:mg "int" = none
 bool:mg "bool" = none
 str:mg "str" = none
 list:mg "list" = none
 tuple:mg "tuple" = none
 all:mg "all" = none
 any:mg "any" = none
 sum:mg "sum" = none
 range:mg "range" = none
 zip:mg "zip" = none
 enumerate:mg "enumerate" = none
 max:mg "max" = none
 reversed:mg "reversed" = none
 set:mg "set" = none
 letters:∃ t,mg "LETTERS" = some (.str letters t)
 mostL:∃ t,mg "MOST_LETTERS" = some (.int 8 t)
 mostR:∃ t,mg "MOST_ROWS" = some (.int 150 t)
 mostLn:∃ t,mg "MOST_LINES" = some (.int 4 t)
 below:∃ t,mg "MEMBERS_BELOW" = some (.int 1200 t)
 mN:mg "NAMED" = some (.ref aN)
 mK:mg "KNOBS" = some (.ref aK)
 mB:mg "BOUNDS" = some (.ref aB)
 mP:mg "PARTS" = some (.ref aP)
 mM:mg "MOST_OF" = some (.ref aM)
 tN:KTup K aN (named.map V.str)
 tK:KTup K aK [.str "stop",.str "coupler",.str "mute"]
 dB:KDict K P aB
 dP:KDict K P aP
 dM:KDict K P aM
 cl:Rj K C
 mC:mg "Organ" = some (.ref C)
 verr:mg "ValueError" = none
 mNO:mg "NoOrgan" = some (.ref cN)
 mBO:mg "NoBoard" = some (.ref cB)
 mOE:mg "OrganError" = some (.ref cO)
 exO:PySem.W.excIn K cO Pn "ValueError.__new__" = true
 n_row_list:Bx K C "row_list"
 n_board_list:Bx K C "board_list"
 n_rank_list:Bx K C "rank_list"
 n_knob_rows:Bx K C "knob_rows"
 n_board_numbers:Bx K C "board_numbers"
 n_rank_numbers:Bx K C "rank_numbers"
 n_knob_numbers:Bx K C "knob_numbers"
 n_key_places:Bx K C "key_places"
 n_pipe_places:Bx K C "pipe_places"
 n_knob_lines:Bx K C "knob_lines"
 n_step_sets:Bx K C "step_sets"
set_option genInjectivity false in
set_option genSizeOf false in
set_option genSizeOfSpec false in
structure Ad where
 (fWh fMd fNm fRo fTo fWi fPa fHp fCl fIk fSb fIs fWm fHr fIr fCk fNu fPl fLi fSs fMy fSt fCe fNn fLf fLo fRf fTk fLu fOi fOc fBk fOp fOw fOs fOm fXi:Addr)
 (dWh dMd dNm dRo dTo dWi dPa dHp dCl dIk dSb dIs dWm dHr dIr dCk dNu dPl dLi dSs dMy dSt dCe dNn dLf dLo dRf dTk dLu dOi dOc dBk dOp dOw dOs dOm dXi:FuncData)
structure Z2 (K:PySem.W.Frag) (mg:Str->Option Value) (C cN cB cO:Addr) (aD:Ad):Prop where
 FWh:Dn K "is_whole" "is_whole" az aD.fWh aD.dWh∧Binds K aD.dWh ["thing"] []∧mg "is_whole" = some (.ref aD.fWh)
 FMd:Dn K "is_made_of" "is_made_of" ZC aD.fMd aD.dMd∧Binds K aD.dMd ["text","signs","most"] []∧mg "is_made_of" = some (.ref aD.fMd)
 FNm:Dn K "is_name" "is_name" bI aD.fNm aD.dNm∧Binds K aD.dNm ["thing"] []∧mg "is_name" = some (.ref aD.fNm)
 FRo:Dn K "rows_of" "rows_of" Y_ aD.fRo aD.dRo∧Binds K aD.dRo ["rows","word"] []∧mg "rows_of" = some (.ref aD.fRo)
 FTo:Dn K "is_told" "is_told" Y7 aD.fTo aD.dTo∧Binds K aD.dTo ["rows","word","thing"] []∧mg "is_told" = some (.ref aD.fTo)
 FWi:Dn K "is_within" "is_within" aF aD.fWi aD.dWi∧Binds K aD.dWi ["thing","bounds"] []∧mg "is_within" = some (.ref aD.fWi)
 FPa:Dn K "is_part" "is_part" ZR aD.fPa aD.dPa∧Binds K aD.dPa ["thing","part","ahead"] []∧mg "is_part" = some (.ref aD.fPa)
 FHp:Dn K "has_parts" "has_parts" ZG aD.fHp aD.dHp∧Binds K aD.dHp ["row","ahead"] []∧mg "has_parts" = some (.ref aD.fHp)
 FCl:Dn K "count_of_last_lines" "count_of_last_lines" cD aD.fCl aD.dCl∧Binds K aD.dCl ["rows"] []∧mg "count_of_last_lines" = some (.ref aD.fCl)
 FIk:Dn K "is_key_of" "is_key_of" Y8 aD.fIk aD.dIk∧Binds K aD.dIk ["number","board","ahead"] []∧mg "is_key_of" = some (.ref aD.fIk)
 FSb:Dn K "stands_behind_stop" "stands_behind_stop" bx aD.fSb aD.dSb∧Binds K aD.dSb ["line","ahead"] []∧mg "stands_behind_stop" = some (.ref aD.fSb)
 FIs:Dn K "is_step" "is_step" Y4 aD.fIs aD.dIs∧Binds K aD.dIs ["row","ahead"] []∧mg "is_step" = some (.ref aD.fIs)
 FWm:Dn K "is_well_made" "is_well_made" b8 aD.fWm aD.dWm∧Binds K aD.dWm ["row","ahead"] []∧mg "is_well_made" = some (.ref aD.fWm)
 FHr:Dn K "has_room" "has_room" Zc aD.fHr aD.dHr∧Binds K aD.dHr ["word","ahead"] []∧mg "has_room" = some (.ref aD.fHr)
 FIr:Dn K "is_row" "is_row" Zf aD.fIr aD.dIr∧Binds K aD.dIr ["thing","ahead"] []∧mg "is_row" = some (.ref aD.fIr)
 FCk:Dn K "check_rows" "check_rows" cI aD.fCk aD.dCk∧Binds K aD.dCk ["rows"] []∧mg "check_rows" = some (.ref aD.fCk)
 FNu:Dn K "numbers_of" "numbers_of" Zb aD.fNu aD.dNu∧Binds K aD.dNu ["names"] []∧mg "numbers_of" = some (.ref aD.fNu)
 FPl:Dn K "places_of" "places_of" ZP aD.fPl aD.dPl∧Binds K aD.dPl ["things"] []∧mg "places_of" = some (.ref aD.fPl)
 FLi:Dn K "lines_by_knob" "lines_by_knob" aU aD.fLi aD.dLi∧Binds K aD.dLi ["rows","rank_numbers"] []∧mg "lines_by_knob" = some (.ref aD.fLi)
 FSs:Dn K "set_of_step" "set_of_step" ZS aD.fSs aD.dSs∧Binds K aD.dSs ["row","knob_numbers"] []∧mg "set_of_step" = some (.ref aD.fSs)
 FMy:Dn K "may_be_member" "may_be_member" bZ aD.fMy aD.dMy∧Binds K aD.dMy ["thing"] []∧mg "may_be_member" = some (.ref aD.fMy)
 FSt:Dn K "set_of" "set_of" Y9 aD.fSt aD.dSt∧Binds K aD.dSt ["numbers"] []∧mg "set_of" = some (.ref aD.fSt)
 FCe:Dn K "_law_cell_at" "_law_cell_at" aG aD.fCe aD.dCe∧Binds K aD.dCe ["_law_script","_law_k"] []∧mg "_law_cell_at" = some (.ref aD.fCe)
 FNn:Dn K "_law_name" "_law_name" Zg aD.fNn aD.dNn∧Binds K aD.dNn ["_law_k"] []∧mg "_law_name" = some (.ref aD.fNn)
 FLf:Dn K "_law_first" "_law_first" Zh aD.fLf aD.dLf∧Binds K aD.dLf ["_law_script"] []∧mg "_law_first" = some (.ref aD.fLf)
 FLo:Dn K "_law_rows_of" "_law_rows_of" Rm aD.fLo aD.dLo∧Binds K aD.dLo ["_law_kind","_law_many","_law_keys","_law_turn"] []∧mg "_law_rows_of" = some (.ref aD.fLo)
 FRf:Dn K "_law_refused" "_law_refused" bM aD.fRf aD.dRf∧Binds K aD.dRf ["_law_rows","_law_due"] []∧mg "_law_refused" = some (.ref aD.fRf)
 FTk:Dn K "_law_taken" "_law_taken" ZV aD.fTk aD.dTk∧Binds K aD.dTk ["_law_rows"] []∧mg "_law_taken" = some (.ref aD.fTk)
 FLu:Dn K "_law_full" "_law_full" Vm aD.fLu aD.dLu∧Binds K aD.dLu [] []∧mg "_law_full" = some (.ref aD.fLu)
 FOi:Dn K "__init__" "Organ.__init__" Qh aD.fOi aD.dOi∧Binds K aD.dOi ["self","rows"] []∧Mk K C aD.fOi
 FOc:Dn K "key_count" "Organ.key_count" aY aD.fOc aD.dOc∧Binds K aD.dOc ["self"] []∧Meth K C "key_count" aD.fOc
 FBk:Dn K "board_of_knob" "Organ.board_of_knob" cL aD.fBk aD.dBk∧Binds K aD.dBk ["self","knob"] []∧Meth K C "board_of_knob" aD.fBk
 FOp:Dn K "coupler" "Organ.coupler" dC aD.fOp aD.dOp∧Binds K aD.dOp ["self","knob"] []∧Meth K C "coupler" aD.fOp
 FOw:Dn K "rows" "Organ.rows" Zm aD.fOw aD.dOw∧Binds K aD.dOw ["self"] []∧Meth K C "rows" aD.fOw
 FOs:Dn K "stop" "Organ.stop" cJ aD.fOs aD.dOs∧Binds K aD.dOs ["self","knob"] []∧Meth K C "stop" aD.fOs
 FOm:Dn K "mute" "Organ.mute" cY aD.fOm aD.dOm∧Binds K aD.dOm ["self","knob"] []∧Meth K C "mute" aD.fOm
 FXi:Dn K "__init__" "NoOrgan.__init__" bJ aD.fXi aD.dXi∧Binds K aD.dXi ["self","at"] []
 rN:ZF K cN cO aD.fXi "at" [cB]
section
variable {P:Program} {w:World} {K:PySem.W.Frag} {mg:Str->Option Value} {base:Heap} {C cN cB cO aN aK aB aP aM:Addr} {aD:Ad}
variable (N:Z2 K mg C cN cB cO aD) (T:Txt K w.params mg C cN cB cO aN aK aB aP aM)
noncomputable def VF:Sp:=fun vs H Q _=>∃ i:Int,vs=[.int i]/\Q (.bl true) H
theorem Z7:Ax ["thing"] ["thing"] (Ae az):=Cg
include N T in
theorem Up:A_ P w K mg base B_ 1 aD.fWh aD.dWh ["thing"] VF:=by
 refine N.FWh.1.ok Z7 (fun vs H Q E h=>?_) (fun cdv A outer s H vs Q E hr h=>?_)
 ·obtain ⟨i,rfl,_⟩:=h
  rfl
 ·obtain ⟨i,rfl,q⟩:=h
  refine ⟨_,(Ai (Ay (CJ (Aw CQ rfl T.isin PyProof.Rows.boot_isinstance (Aa (pv 0) (Aa (DR (v:=.ty "int") rfl T.int PyProof.Rows.boot_int rfl) Ab))) (Cj (M8 (Aw CQ rfl T.isin PyProof.Rows.boot_isinstance (Aa (pv 0) (Aa (DR (v:=.ty "bool") rfl T.bool PyProof.Rows.boot_bool rfl) Ab)))))))),?_⟩
  refine ⟨_,rfl,_,"int",_,_,rfl,.int i,ty_int,_,rfl,Dm ?_⟩
  exact ⟨_,rfl,_,"bool",_,_,rfl,.int i,Uk,_,rfl,q⟩
noncomputable def Wr:Sp:=fun vs H Q _=>∃ z:Str,vs=[.str z,.str letters,.int 8]/\isNm z/\∀ H',Aj H H'->Q (.bl true) H'
theorem cA:Ax ["text","signs","most"] ["text","signs","most"] (Ae ZC):=Cg
include N T in
theorem Xg:A_ P w K mg base B_ 1 aD.fMd aD.dMd ["text","signs","most"] Wr:=by
 refine N.FMd.1.ok cA (fun vs H Q E h=>?_) (fun cdv A outer s H vs Q E hr h=>?_)
 ·obtain ⟨z,rfl,_⟩:=h
  rfl
 ·obtain ⟨z,rfl,hz,q⟩:=h
  refine ⟨_,(Ai (Ay (CJ (JL Gk Gk Ag (Aw Jr rfl T.len PySem.boot_len (Aa (pv 0) Ab)) (pv 2)) (Cj (Aw (G3 rfl) rfl T.all PyProof.Rows.boot_all (Aa (Ba rfl (Az (osc:=Ae ZC) (N:=["text","signs","most"]) rfl rfl (by decide +kernel)) (VM (pv 0)) (fun _ _ _ _=>Bj) (fun _ _ _ _=>(CZ Oa (pv 0) (pv 2) rfl))) Ab)))))),?_⟩
  have hzl:z.length<sizeLine:=BJ (by have:=hz.2.1; omega)
  refine ⟨_,rfl,z,rfl,Nat.le_of_lt hzl,_,_,rfl,rfl,_,rfl,?_⟩
  refine Bh (fun h1=>?_) (fun h1=>absurd (decide_eq_true (by have:=hz.1; omega)) h1)
  refine ⟨_,rfl,_,_,rfl,rfl,_,rfl,?_⟩
  refine Bh (fun h2=>?_) (fun h2=>absurd (decide_eq_true (by have:=hz.2.1; omega)) h2)
  refine ⟨_,rfl,z,rfl,RV (fun _=>true) (fun c=>.bl (Yr letters c)) hzl (fun c hc H' hs R k=>k H' (Aj.refl H')) (fun c hc _ H' hs R k=>⟨_,rfl,_,rfl,_,_,rfl,rfl,k H' (Aj.refl H')⟩) (fun D H' hD hs hl=>?_)⟩
  refine ⟨D,z.cps.toList.map (Yr letters),rfl,.inl (.inl ?_),?_⟩
  ·rw [hl,List.filter_eq_self.mpr (fun _ _=>rfl),List.map_map]
   rfl
  ·have e:(z.cps.toList.map (Yr letters)).all id=true:=by
    rw [List.all_map,List.all_eq_true]
    intro c hc
    have:=hz.2.2 c hc
    show Yr letters c=true
    rw [Su c (by omega)]
    exact decide_eq_true this
   rw [e]
   exact q H' hs
noncomputable def U0:Sp:=fun vs H Q _=>∃ z:Str,vs=[.str z]/\isNm z/\∀ H',Aj H H'->Q (.bl true) H'
theorem a_:Ax ["thing"] ["thing"] (Ae bI):=Cg
include N T in
theorem Uj:A_ P w K mg base B_ 2 aD.fNm aD.dNm ["thing"] U0:=by
 have GMd:A_ P w K mg base B_ 1 aD.fMd aD.dMd ["text","signs","most"] Wr:=Xg N T
 refine N.FNm.1.ok a_ (fun vs H Q E h=>?_) (fun cdv A outer s H vs Q E hr h=>?_)
 ·obtain ⟨z,rfl,_⟩:=h
  rfl
 ·obtain ⟨z,rfl,hz,q⟩:=h
  have hrMd:BZ 1 _:=hr.mono (by decide)
  obtain ⟨tLET,hLET⟩:=T.letters
  obtain ⟨tML,hML⟩:=T.mostL
  refine ⟨_,(Ai (Ay (CJ (Aw CQ rfl T.isin PyProof.Rows.boot_isinstance (Aa (pv 0) (Aa (DR (v:=.ty "str") rfl T.str PyProof.Rows.boot_str rfl) Ab))) (Cj (Ao GMd hrMd rfl N.FMd.2.2 N.FMd.1.kp N.FMd.2.1 .nil BL (Aa (pv 0) (Aa (Bq (v:=.str letters) rfl hLET ⟨tLET,rfl⟩) (Aa (Bq (v:=.int 8) rfl hML ⟨tML,rfl⟩) Ab)))))))),?_⟩
  refine ⟨_,rfl,_,"str",_,_,rfl,.str z,Ub,_,rfl,Dm ?_⟩
  exact ⟨_,rfl,z,rfl,hz,q⟩
noncomputable def Li:Sp:=fun vs H Q _=>∃ (p:Addr) (us:List V) (w:Str) (ρ:V->R),vs=[.ref p,.str w]/\H p=some (.lst us)/\Rows H ρ us/\us.length<=500/\∀ D H',H D=none->Aj H H'->H' D=some (.lst (us.filter (pw ρ w)))->Q (.ref D) H'
theorem Z4:Ax ["rows","word"] ["rows","word"] (Ae Y_):=Cg
include N T in
theorem Jk:A_ P w K mg base B_ 1 aD.fRo aD.dRo ["rows","word"] Li:=by
 refine N.FRo.1.ok Z4 (fun vs H Q E h=>?_) (fun cdv A outer s H vs Q E hr h=>?_)
 ·obtain ⟨p,us,w,ρ,rfl,_⟩:=h
  rfl
 ·obtain ⟨p,us,w,ρ,rfl,hp,hR,hl,q⟩:=h
  refine ⟨_,(Ai (Ay (Ba rfl (Az (osc:=Ae Y_) (N:=["rows","word"]) rfl rfl (by decide +kernel)) (CK (pv 0)) (fun _ _ _ _=>(MP (Bg Cu (Bc (BK (K:=K) rfl) (pv 0) Ag (fun _ _=>rfl)) (pv 2) (Bb _)))) (fun _ _ _ _=>(pv 0))))),?_⟩
  have hS:Cz K H p us:=.inl (.inl hp)
  refine ⟨_,rfl,p,rfl,⟨_,hS⟩,Di (K:=K) (xs:=us) (pw ρ w) id hS (BJ (by omega)) (fun x hx H' hs R k=>?_) (fun x hx _ H' hs R k=>⟨_,rfl,k H' (Aj.refl H')⟩) (fun D H' hD hs hl'=>?_)⟩
  ·obtain ⟨T0,rfl,hT⟩:=(hR x hx).mono hs
   exact ⟨_,rfl,T0,_,_,_,rfl,rfl,.inl (.inl hT),Av (j:=0) rfl,_,rfl,rfl,_,rfl,k H' (Aj.refl H')⟩
  ·rw [List.map_id] at hl'
   exact q D H' hD hs hl'
noncomputable def Vw:Sp:=fun vs H Q _=>∃ (p:Addr) (us:List V) (w t:Str) (ρ:V->R),vs=[.ref p,.str w,.str t]/\H p=some (.lst us)/\Rows H ρ us/\us.length<=500/\isNm t/\∀ H',Aj H H'->Q (.bl (Q9 ρ us w t)) H'
theorem Zu:Ax ["rows","word","thing"] ["rows","word","thing"] (Ae Y7):=Cg
include N T in
theorem Us:A_ P w K mg base B_ 3 aD.fTo aD.dTo ["rows","word","thing"] Vw:=by
 have GNm:A_ P w K mg base B_ 2 aD.fNm aD.dNm ["thing"] U0:=Uj N T
 have GRo:A_ P w K mg base B_ 1 aD.fRo aD.dRo ["rows","word"] Li:=Jk N T
 refine N.FTo.1.ok Zu (fun vs H Q E h=>?_) (fun cdv A outer s H vs Q E hr h=>?_)
 ·obtain ⟨p,us,w,t,ρ,rfl,_⟩:=h
  rfl
 ·obtain ⟨p,us,w,t,ρ,rfl,hp,hR,hl,ht,q⟩:=h
  have hrNm:BZ 2 _:=hr.mono (by decide)
  have hrRo:BZ 1 _:=hr.mono (by decide)
  refine ⟨_,(Ai (Ay (CJ (Ao GNm hrNm rfl N.FNm.2.2 N.FNm.1.kp N.FNm.2.1 .nil BL (Aa (pv 2) Ab)) (Cj (Aw (JF rfl) rfl T.any PyProof.Rows.boot_any (Aa (Ba rfl (Az (osc:=Ae Y7) (N:=["rows","word","thing"]) rfl rfl (by decide +kernel)) (CK (Ao GRo hrRo rfl N.FRo.2.2 N.FRo.1.kp N.FRo.2.1 .nil BL (Aa (pv 0) (Aa (pv 1) Ab)))) (fun _ _ _ _=>Bj) (fun _ _ _ _=>(CZ Cu (Bc (BK (K:=K) rfl) (pv 0) Ag (fun _ _=>rfl)) (pv 3) (Bb _)))) Ab)))))),?_⟩
  refine ⟨_,rfl,t,rfl,ht,fun H1 s1=>⟨_,rfl,Dm ?_⟩⟩
  refine ⟨_,rfl,_,rfl,p,us,w,ρ,rfl,s1 _ _ hp,hR.mono s1,hl,fun D H2 hD s2 hl2=>?_⟩
  have hS:Cz K H2 D (us.filter (pw ρ w)):=.inl (.inl hl2)
  refine ⟨D,rfl,⟨_,hS⟩,Di (K:=K) (xs:=us.filter (pw ρ w)) (fun _=>true) (fun v=>.bl (pn ρ t v)) hS (BJ (by have:=Gj (pw ρ w) us; omega)) (fun x hx H' hs R k=>k H' (Aj.refl H')) (fun x hx _ H' hs R k=>?_) (fun D3 H3 hD3 s3 hl3=>?_)⟩
  ·obtain ⟨T0,rfl,hT⟩:=(((hR.mono s1).mono s2).mono hs) x (List.mem_filter.mp hx).1
   exact ⟨_,rfl,T0,_,_,_,rfl,rfl,.inl (.inl hT),Av (j:=1) rfl,_,rfl,rfl,k H' (Aj.refl H')⟩
  ·refine ⟨D3,(us.filter (pw ρ w)).map (pn ρ t),rfl,.inl (.inl ?_),?_⟩
   ·rw [hl3,List.filter_eq_self.mpr (fun _ _=>rfl),List.map_map]
    rfl
   ·have e:((us.filter (pw ρ w)).map (pn ρ t)).any id=Q9 ρ us w t:=by
     rw [List.any_map]
     rfl
    rw [e]
    exact q H3 ((s1.trans s2).trans s3)
noncomputable def XF (K:PySem.W.Frag):Sp:=fun vs H Q _=>∃ (i lo hi:Int) (b:Addr),vs=[.int i,.ref b]/\KTup K b [.int lo,.int hi]/\lo<=i/\i<=hi/\Q (.bl true) H
theorem bu:Ax ["thing","bounds"] ["thing","bounds"] (Ae aF):=Cg
include N T in
theorem Wl:A_ P w K mg base B_ 2 aD.fWi aD.dWi ["thing","bounds"] (XF K):=by
 have GWh:A_ P w K mg base B_ 1 aD.fWh aD.dWh ["thing"] VF:=Up N T
 refine N.FWi.1.ok bu (fun vs H Q E h=>?_) (fun cdv A outer s H vs Q E hr h=>?_)
 ·obtain ⟨i,lo,hi,b,rfl,_⟩:=h
  rfl
 ·obtain ⟨i,lo,hi,b,rfl,hb,h1,h2,q⟩:=h
  have hrWh:BZ 1 _:=hr.mono (by decide)
  refine ⟨_,(Ai (Ay (CJ (Ao GWh hrWh rfl N.FWh.2.2 N.FWh.1.kp N.FWh.2.1 .nil BL (Aa (pv 0) Ab)) (Cj (JL Gk Gk (Bc (BK (K:=K) rfl) (pv 1) Ag (fun _ _=>rfl)) (pv 0) (Bc (BK (K:=K) rfl) (pv 1) Ag (fun _ _=>rfl))))))),?_⟩
  refine ⟨_,rfl,i,rfl,_,rfl,Dm ?_⟩
  refine ⟨_,rfl,b,_,_,_,rfl,rfl,hb.sq _,Av (j:=0) rfl,_,rfl,_,_,rfl,rfl,_,rfl,?_⟩
  refine Bh (fun _=>?_) (fun z=>absurd (decide_eq_true h1) z)
  refine ⟨_,rfl,b,_,_,_,rfl,rfl,hb.sq _,Av (j:=1) rfl,_,_,rfl,rfl,?_⟩
  show Q (.bl (decide (i<=hi))) H
  rw [decide_eq_true h2]
  exact q
noncomputable def Yy (K:PySem.W.Frag) (aB:Addr):Sp:=fun vs H Q _=>∃ (x:V) (part:Str) (p:Addr) (us:List V) (ρ:V->R),vs=[x,.str part,.ref p]/\H p=some (.lst us)/\Rows H ρ us/\us.length<=500/\Em K aB ρ us x part/\∀ H',Aj H H'->Q (.bl true) H'
theorem aO:Ax ["thing","part","ahead"] ["thing","part","ahead"] (Ae ZR):=Cg
include N T in
theorem Xi:A_ P w K mg base B_ 4 aD.fPa aD.dPa ["thing","part","ahead"] (Yy K aB):=by
 have GNm:A_ P w K mg base B_ 2 aD.fNm aD.dNm ["thing"] U0:=Uj N T
 have GTo:A_ P w K mg base B_ 3 aD.fTo aD.dTo ["rows","word","thing"] Vw:=Us N T
 have GWi:A_ P w K mg base B_ 2 aD.fWi aD.dWi ["thing","bounds"] (XF K):=Wl N T
 refine N.FPa.1.ok aO (fun vs H Q E h=>?_) (fun cdv A outer s H vs Q E hr h=>?_)
 ·obtain ⟨x,part,p,us,ρ,rfl,_⟩:=h
  rfl
 ·obtain ⟨x,part,p,us,ρ,rfl,hp,hR,hl,hok,q⟩:=h
  have hrNm:BZ 2 _:=hr.mono (by decide)
  have hrTo:BZ 3 _:=hr.mono (by decide)
  have hrWi:BZ 2 _:=hr.mono (by decide)
  refine ⟨_,(Ah (Br (Vv (Qm (pv 1) (Bq (v:=.ref aB) rfl T.mB rfl))) (Ai (Ay (Ao GWi hrWi rfl N.FWi.2.2 N.FWi.1.kp N.FWi.2.1 .nil BL (Aa (pv 0) (Aa (KJ (Bq (v:=.ref aB) rfl T.mB rfl) (pv 1) (fun _ _=>rfl)) Ab))))) BW)
   (Ah (Br (Bg Cu (pv 1) An (Bb _)) (Ai (Ay (CJ (Ao GNm hrNm rfl N.FNm.2.2 N.FNm.1.kp N.FNm.2.1 .nil BL (Aa (pv 0) Ab)) (Cj (M8 (Aw (JF rfl) rfl T.any PyProof.Rows.boot_any (Aa (Ba rfl (Az (osc:=Ae ZR) (N:=["thing","part","ahead"]) rfl rfl (by decide +kernel)) (Mp (Bq (v:=.ref aN) rfl T.mN rfl)) (fun _ _ _ _=>Bj) (fun _ _ _ _=>(Ao GTo hrTo rfl N.FTo.2.2 N.FTo.1.kp N.FTo.2.1 .nil BL (Aa (pv 3) (Aa (pv 0) (Aa (pv 1) Ab)))))) Ab))))))) BW)
   (Ai (Ay (Ao GTo hrTo rfl N.FTo.2.2 N.FTo.1.kp N.FTo.2.1 .nil BL (Aa (pv 2) (Aa (pv 1) (Aa (pv 0) Ab)))))))),?_⟩
  rcases hok with ⟨i,lo,hi,b,rfl,hn,hb,h1,h2⟩ | ⟨hn,rfl,t,rfl,ht,hno⟩ | ⟨hn,hne,t,rfl,ht,hyes⟩
  ·refine ⟨_,rfl,aB,part,_,rfl,rfl,T.dB,hn,_,rfl,Dm ?_⟩
   exact ⟨_,rfl,_,rfl,aB,part,.ref b,_,rfl,rfl,T.dB,hn,rfl,i,lo,hi,b,rfl,hb,h1,h2,q H (Aj.refl H)⟩
  ·refine ⟨_,rfl,aB,_,_,rfl,rfl,T.dB,hn,_,rfl,Eb ?_⟩
   refine ⟨_,rfl,rfl,_,rfl,Dm ?_⟩
   refine ⟨_,rfl,t,rfl,ht,fun H1 s1=>⟨_,rfl,Dm ?_⟩⟩
   have hS:Fo K H1 aN (named.map V.str):=T.tN.sq _
   refine ⟨aN,rfl,⟨_,hS⟩,Gv (xs:=named.map V.str) (fun _=>true) (fun _=>.bl false) (by show 5<sizeLine; decide) (fun i H2 x hs hx=>⟨_,x,hs.tup hS,hx⟩) (fun i H2 y H3 hs _ hy=>⟨hy.1,hy.2 _ (hs.tup hS)⟩) (fun H2 hs=>⟨_,hs.tup hS,Nat.le_refl _⟩)
    (fun x hx H' hs R k=>k H' (Aj.refl H')) (fun x hx _ H' hs R k=>?_) (fun D H2 hD s2 hl2=>?_)⟩
   ·obtain ⟨w0,hw0,rfl⟩:=List.mem_map.mp hx
    refine ⟨_,rfl,_,rfl,_,rfl,p,us,w0,t,ρ,rfl,hs _ _ (s1 _ _ hp),(hR.mono s1).mono hs,hl,ht,fun H'' s''=>?_⟩
    rw [hno w0 hw0]
    exact k H'' s''
   ·refine ⟨D,[false,false,false,false,false],rfl,.inl (.inl hl2),_,rfl,?_⟩
    exact q H2 (s1.trans s2)
  ·refine ⟨_,rfl,aB,_,_,rfl,rfl,T.dB,hn,_,rfl,Eb ?_⟩
   refine ⟨_,rfl,rfl,_,rfl,?_⟩
   refine Bh (fun z=>absurd (V.str.inj (of_decide_eq_true z)) hne) (fun _=>?_)
   refine ⟨_,rfl,_,rfl,_,rfl,p,us,part,t,ρ,rfl,hp,hR,hl,ht,fun H' hs=>?_⟩
   rw [hyes]
   exact q H' hs
noncomputable def Wc (K:PySem.W.Frag) (aB aP:Addr):Sp:=fun vs H Q _=>∃ (r p:Addr) (w:Str) (xs:List V) (us:List V) (ρ:V->R) (ap:Addr) (ps:List Str),vs=[.ref r,.ref p]/\H r=some (.tup (.str w::xs))/\H p=some (.lst us)/\Rows H ρ us/\us.length<=500 /\
 PySem.W.nsIn K aP w=some (some (.ref ap))/\KTup K ap (ps.map V.str)/\xs.length=ps.length/\ps.length<=10/\(∀ (i:Nat) x y,xs[i]? = some x->ps[i]? = some y->Em K aB ρ us x y)/\∀ H',Aj H H'->Q (.bl true) H'
theorem YD:Ax ["row","ahead","parts"] ["row","ahead"] (Ae ZG):=Cg
include N T in
theorem Yh:A_ P w K mg base B_ 5 aD.fHp aD.dHp ["row","ahead"] (Wc K aB aP):=by
 have GPa:A_ P w K mg base B_ 4 aD.fPa aD.dPa ["thing","part","ahead"] (Yy K aB):=Xi N T
 refine N.FHp.1.ok YD (fun vs H Q E h=>?_) (fun cdv A outer s H vs Q E hr h=>?_)
 ·obtain ⟨r,p,w,xs,us,ρ,ap,ps,rfl,_⟩:=h
  rfl
 ·obtain ⟨r,p,w,xs,us,ρ,ap,ps,rfl,hr0,hp,hR,hl,hn,hap,hlen,hps,hok,q⟩:=h
  have hrPa:BZ 4 _:=hr.mono (by decide)
  refine ⟨_,(Ah (CT (i:=2) YD.nd rfl (Or.inl rfl) (KJ (Bq (v:=.ref aP) rfl T.mP rfl) (Bc (BK (K:=K) rfl) (pv 0) Ag (fun _ _=>rfl)) (fun _ _=>rfl)))
   (Ah (Br (Bg Dl (Aw BV rfl T.len PySem.boot_len (Aa (pv 0) Ab)) (BP Ep Ag (Aw BV rfl T.len PySem.boot_len (Aa (pv 2) Ab))) (Bb _)) (Ai (Ay Fe)) BW)
   (Ai (Ay (Aw (G3 rfl) rfl T.all PyProof.Rows.boot_all (Aa (Tq rfl (Mu (osc:=Ae ZG) (N:=["row","ahead","parts"]) rfl rfl (by decide +kernel)) (Tf rfl T.zip (Aa (Ea Mh (pv 0) (Ez Ag) Fd) (Aa (pv 2) Ab))) (fun _ _ _ _=>Bj) (fun _ _ _ _=>(Ao GPa hrPa rfl N.FPa.2.2 N.FPa.1.kp N.FPa.2.1 .nil BL (Aa (pv 0) (Aa (pv 1) (Aa (pv 3) Ab)))))) Ab)))))),?_⟩
  refine ⟨_,rfl,r,_,_,_,rfl,rfl,.inl (.inl hr0),Av (j:=0) rfl,aP,w,.ref ap,_,rfl,rfl,T.dP,hn,rfl,?_⟩
  refine ⟨_,rfl,r,_,rfl,.inr (.inl (.inl hr0)),_,rfl,ap,_,rfl,.inr (hap.sq _),_,_,rfl,rfl,rfl,_,rfl,?_⟩
  refine Bh (fun z=>?_) (fun _=>?_)
  ·exfalso
   have e:(((V.str w::xs).length:Nat):Int)=1+(((ps.map V.str).length:Nat):Int):=by
    rw [List.length_cons,List.length_map,hlen]
    omega
   rw [e] at z
   simp at z
  ·have hcut:Ds (V.str w::xs) (some 1) none=xs:=by
    unfold Ds
    have e1:HT.DG (V.str w::xs).length 0 (some ((1:Nat):Int))=1:=by rw [HT.GZ,List.length_cons]; omega
    have e1':HT.DG (V.str w::xs).length 0 (some (1:Int))=1:=e1
    rw [e1',HT.Gz,List.drop_succ_cons,List.drop_zero]
    exact List.take_of_length_le (by rw [List.length_cons]; omega)
   refine ⟨_,rfl,_,rfl,r,_,rfl,.inl (.inl hr0),(fun z=>?_),fun p2 hp2=>?_⟩
   ·have e1:HT.DG (V.str w::xs).length 0 (some ((1:Nat):Int))=1:=by rw [HT.GZ,List.length_cons]; omega
    have:=z.1.symm.trans e1
    cases this
   rw [hcut]
   obtain ⟨H2,eqH,s2,a2⟩:=Ht (o:=HO.tup xs) hp2
   rw [eqH]
   have h1:Fo K H2 p2 xs:=.inl (.inl a2)
   refine ⟨_,rfl,p2,ap,rfl,⟨_,h1⟩,⟨_,hap.sq _⟩,QB (K:=K) (xs:=xs) (ys:=ps.map V.str) (fun _ _=>.bl true) h1 (hap.sq _) (by rw [List.length_map]; exact hlen) (BJ (by omega)) (fun i x y hx hy H3 s3 R k=>?_) (fun D H3 hD s3 hl3=>?_)⟩
   ·rw [List.getElem?_map] at hy
    obtain ⟨part,hpart,rfl⟩:=Option.map_eq_some_iff.mp hy
    exact ⟨_,rfl,_,rfl,_,rfl,x,part,p,us,ρ,rfl,s3 _ _ (s2 _ _ hp),(hR.mono s2).mono s3,hl,hok i x part hx hpart,fun H4 s4=>k H4 s4⟩
   ·have e:List.zipWith (fun _ _=>V.bl true) xs (ps.map V.str)=(List.replicate xs.length true).map V.bl:=by
     rw [List.map_replicate]
     refine List.ext_getElem? fun i=>?_
     rw [List.getElem?_zipWith]
     by_cases hi:i<xs.length
     ·rw [List.getElem?_eq_getElem hi,List.getElem?_eq_getElem (by rw [List.length_map]; omega),List.getElem?_eq_getElem (by rw [List.length_replicate]; exact hi)]
      simp
     ·rw [List.getElem?_eq_none (by omega),List.getElem?_eq_none (l:=List.replicate _ _) (by rw [List.length_replicate]; omega)]
    rw [e] at hl3
    refine ⟨D,List.replicate xs.length true,rfl,.inl (.inl hl3),?_⟩
    have e2:(List.replicate xs.length true).all id=true:=by simp
    rw [e2]
    exact q H3 (s2.trans s3)
noncomputable def Yu:Sp:=fun vs H Q _=>∃ (p:Addr) (us:List V) (ρ:V->R) (c:Nat),vs=[.ref p]/\H p=some (.lst us)/\Rows H ρ us/\us.length<=500/\Qf ρ us c/\Q (.int (c:Nat)) H
theorem Ss:Ax ["rows","count","row"] ["rows"] (Ae cD):=Cg
include N T in
theorem Yt:A_ P w K mg base B_ 1 aD.fCl aD.dCl ["rows"] Yu:=by
 refine N.FCl.1.ok Ss (fun vs H Q E h=>?_) (fun cdv A outer s H vs Q E hr h=>?_)
 ·obtain ⟨p,us,ρ,c,rfl,_⟩:=h
  rfl
 ·obtain ⟨p,us,ρ,c,rfl,hp,hR,hl,hc,q⟩:=h
  refine ⟨_,(Ah (CT (i:=1) Ss.nd rfl (Or.inl rfl) Ag)
   (Ah (FT PassesOwn.never rfl (Uw rfl T.reversed (Aa (pv 0) Ab)) (CG (i:=2) Ss.nd rfl (Or.inl rfl)) (Ah (Br (Bg Dl (Bc (BK (K:=K) rfl) (pv 2) Ag (fun _ _=>rfl)) An (Bb _)) (Ai Py) BW)
   (Ai (CT (i:=1) Ss.nd rfl (Or.inl rfl) (BP Ep (pv 1) Ag)))))
   (Ai (Ay (pv 1))))),?_⟩
  have hS:Cz K H p us:=.inl (.inl hp)
  refine ⟨_,rfl,p,us,rfl,hS,Sh (K:=K) (a:=p) (xs:=us) (fun i σ H4=>H4=H/\i<=c/\∃ v2,σ=[some (.ref p),some (.int (i:Nat)),v2]) ⟨rfl,Nat.zero_le _,_,rfl⟩ (fun i σ H4 _ h=>by rw [h.1]; exact hS) ?_ ?_⟩
  ·rintro i x σ H4 hi hx ⟨rfl,hic,v2,rfl⟩
   obtain ⟨r,rfl,hr0⟩:=hR x (List.mem_of_getElem? hx)
   refine ⟨_,rfl,r,_,_,_,rfl,rfl,.inl (.inl hr0),Av (j:=0) rfl,rfl,_,rfl,?_⟩
   by_cases e:(ρ (.ref r)).w = "line"
   ·have hne:i ≠ c:=fun z=>by
     obtain ⟨v,hv,hno⟩:=hc.no
     rw [← z,hx] at hv
     cases hv
     exact hno e
    refine QQ (congrArg V.str e) ?_
    exact ⟨_,rfl,_,_,rfl,rfl,rfl,by omega,_,rfl⟩
   ·have hic':i=c:=by
     refine Classical.byContradiction fun z=>?_
     obtain ⟨v,hv,hyes⟩:=hc.all i (by omega)
     rw [hx] at hv
     cases hv
     exact e hyes
    subst hic'
    rw [decide_eq_false fun z=>e (V.str.inj z)]
    refine Dm ?_
    exact ⟨_,rfl,q⟩
  ·rintro σ H4 ⟨rfl,hic,v2,rfl⟩
   have:=hc.lt
   omega
noncomputable def Xj:Sp:=fun vs H Q _=>∃ (n:Int) (bd:Str) (p:Addr) (us:List V) (ρ:V->R),vs=[.int n,.str bd,.ref p]/\H p=some (.lst us)/\Rows H ρ us/\us.length<=500/\Bw ρ us/\∀ H',Aj H H'->Q (.bl (keyOf ρ us bd n)) H'
theorem bF:Ax ["number","board","ahead"] ["number","board","ahead"] (Ae Y8):=Cg
include N T in
theorem Ym:A_ P w K mg base B_ 2 aD.fIk aD.dIk ["number","board","ahead"] Xj:=by
 have GRo:A_ P w K mg base B_ 1 aD.fRo aD.dRo ["rows","word"] Li:=Jk N T
 refine N.FIk.1.ok bF (fun vs H Q E h=>?_) (fun cdv A outer s H vs Q E hr h=>?_)
 ·obtain ⟨n,bd,p,us,ρ,rfl,_⟩:=h
  rfl
 ·obtain ⟨n,bd,p,us,ρ,rfl,hp,hR,hl,hB,q⟩:=h
  have hrRo:BZ 1 _:=hr.mono (by decide)
  refine ⟨_,(Ai (Ay (Aw (JF rfl) rfl T.any PyProof.Rows.boot_any (Aa (Ba rfl (Az (osc:=Ae Y8) (N:=["number","board","ahead"]) rfl rfl (by decide +kernel)) (CK (Ao GRo hrRo rfl N.FRo.2.2 N.FRo.1.kp N.FRo.2.1 .nil BL (Aa (pv 2) (Aa An Ab)))) (fun _ _ _ _=>Bj) (fun _ _ _ _=>(CJ (CZ Cu (Bc (BK (K:=K) rfl) (pv 0) Ag (fun _ _=>rfl)) (pv 2) (Bb _)) (Cj (CZ Nb (pv 1) (Bc (BK (K:=K) rfl) (pv 0) Ag (fun _ _=>rfl)) (Bb _)))))) Ab)))),?_⟩
  refine ⟨_,rfl,p,us,"board",ρ,rfl,hp,hR,hl,fun D H2 hD s2 hl2=>?_⟩
  have hS:Cz K H2 D (us.filter (pw ρ "board")):=.inl (.inl hl2)
  refine ⟨D,rfl,⟨_,hS⟩,Di (K:=K) (xs:=us.filter (pw ρ "board")) (fun _=>true) (fun v=>.bl (pn ρ bd v && decide (n<VD (ρ v)))) hS (BJ (by have:=Gj (pw ρ "board") us; omega)) (fun x hx H' hs R k=>k H' (Aj.refl H')) (fun x hx _ H' hs R k=>?_) (fun D3 H3 hD3 s3 hl3=>?_)⟩
  ·have hx':=List.mem_filter.mp hx
   obtain ⟨m,em⟩:=hB x hx'.1 (V.str.inj (of_decide_eq_true hx'.2))
   have hz:VD (ρ x)=m:=by unfold VD; rw [em]
   have hT:=((hR.mono s2).mono hs) x hx'.1
   have kk:=k H' (Aj.refl H')
   rw [hz] at kk
   obtain ⟨T0,rfl,hT⟩:=hT
   have kk:R (.bl (decide (V.str (ρ (.ref T0)).nm=V.str bd) && decide (n<m))) H':=kk
   have hT':H' T0=some (.tup (.str (ρ (.ref T0)).w :: .str (ρ (.ref T0)).nm::(ρ (.ref T0)).rest)):=hT
   rw [em] at hT'
   refine ⟨_,rfl,T0,_,_,_,rfl,rfl,.inl (.inl hT'),Av (j:=1) rfl,_,rfl,rfl,_,rfl,?_⟩
   refine Bh (fun g=>?_) (fun g=>?_)
   ·rw [g,Bool.true_and] at kk
    exact ⟨_,rfl,_,rfl,T0,_,_,_,rfl,rfl,.inl (.inl hT'),Av (j:=2) rfl,_,_,rfl,rfl,kk⟩
   ·rw [(Bool.not_eq_true _).mp g,Bool.false_and] at kk
    exact kk
  ·refine ⟨D3,(us.filter (pw ρ "board")).map (fun v=>pn ρ bd v && decide (n<VD (ρ v))),rfl,.inl (.inl ?_),?_⟩
   ·rw [hl3,List.filter_eq_self.mpr (fun _ _=>rfl),List.map_map]
    rfl
   ·have e:((us.filter (pw ρ "board")).map (fun v=>pn ρ bd v && decide (n<VD (ρ v)))).any id=keyOf ρ us bd n:=by
     rw [List.any_map]
     rfl
    rw [e]
    exact q H3 (s2.trans s3)
noncomputable def Wi:Sp:=fun vs H Q _=>∃ (r p:Addr) (ro:R) (us:List V) (ρ:V->R) (b:Bool),vs=[.ref r,.ref p]/\H r=some (.tup ro.v)/\H p=some (.lst us)/\Rows H ρ us/\us.length<=500/\XX ρ us ro b/\Bw ρ us/\∀ H',Aj H H'->Q (.bl b) H'
theorem Vu:Ax ["line","ahead","count","row"] ["line","ahead"] (Ae bx):=Cg
include N T in
theorem YB:A_ P w K mg base B_ 3 aD.fSb aD.dSb ["line","ahead"] Wi:=by
 have GCl:A_ P w K mg base B_ 1 aD.fCl aD.dCl ["rows"] Yu:=Yt N T
 have GIk:A_ P w K mg base B_ 2 aD.fIk aD.dIk ["number","board","ahead"] Xj:=Ym N T
 refine N.FSb.1.ok Vu (fun vs H Q E h=>?_) (fun cdv A outer s H vs Q E hr h=>?_)
 ·obtain ⟨r,p,ro,us,ρ,b,rfl,_⟩:=h
  rfl
 ·obtain ⟨r,p,ro,us,ρ,b,rfl,hr0,hp,hR,hl,hLB,hB,q⟩:=h
  have hrCl:BZ 1 _:=hr.mono (by decide)
  have hrIk:BZ 2 _:=hr.mono (by decide)
  obtain ⟨tML4,hML4⟩:=T.mostLn
  refine ⟨_,(Ah (CT (i:=2) Vu.nd rfl (Or.inl rfl) (Ao GCl hrCl rfl N.FCl.2.2 N.FCl.1.kp N.FCl.2.1 .nil BL (Aa (pv 1) Ab)))
   (Ah (CT (i:=3) Vu.nd rfl (Or.inl rfl) (Bc GK (pv 1) (BP Ek (BP Ek (Aw BV rfl T.len PySem.boot_len (Aa (pv 1) Ab)) Ag) (pv 2)) (fun _ _=>rfl)))
   (Ah (Br (PW.pt (Hs (Bg Dl (Bc (BK (K:=K) rfl) (pv 3) Ag (fun _ _=>rfl)) An (Bb _)) (Gs (Bg Wt (pv 2) (Bq (v:=.int 4) rfl hML4 ⟨tML4,rfl⟩) (Bb _))))) (Ai (Ay Fe)) BW)
   (Ai (Ay (CJ (CZ Gk (Bc (BK (K:=K) rfl) (pv 0) Ag (fun _ _=>rfl)) (Bc (BK (K:=K) rfl) (pv 0) Ag (fun _ _=>rfl)) (Bb _)) (Cj (Ao GIk hrIk rfl N.FIk.2.2 N.FIk.1.kp N.FIk.2.1 .nil BL (Aa (Bc (BK (K:=K) rfl) (pv 0) Ag (fun _ _=>rfl)) (Aa (Bc (BK (K:=K) rfl) (pv 3) Ag (fun _ _=>rfl)) (Aa (pv 1) Ab))))))))))),?_⟩
  have hS:Cz K H p us:=.inl (.inl hp)
  rcases hLB with ⟨rfl,hL⟩ | ⟨rfl,hL⟩
  case inr =>
   obtain ⟨cnt,v,hc,h4,hv,hw⟩:=hL.ex
   obtain ⟨r2,rfl,hr2⟩:=hR v (List.mem_of_getElem? hv)
   have hlt:=hc.lt
   have ei:((us.length:Nat):Int) - 1 - ((cnt:Nat):Int)=((us.length - 1 - cnt:Nat):Int):=by omega
   refine ⟨_,rfl,p,us,ρ,cnt,rfl,hp,hR,hl,hc,?_⟩
   refine ⟨_,rfl,_,rfl,p,us,rfl,.inl hS,_,_,rfl,rfl,_,rfl,_,_,rfl,rfl,p,us,_,_,rfl,rfl,hS,(by rw [ei]; exact Av hv),?_⟩
   refine ⟨_,rfl,r2,_,_,_,rfl,rfl,.inl (.inl hr2),Av (j:=0) rfl,rfl,_,rfl,QQ (congrArg V.str hw) ?_⟩
   refine ⟨_,rfl,_,_,rfl,rfl,_,rfl,?_⟩
   refine Bh (fun _=>?_) (fun z=>absurd (decide_eq_true (by omega)) z)
   exact q H (Aj.refl H)
  obtain ⟨cnt,v,sh,lo,hi,bd,rs,er,hc,h4,hv,hw,hrest,hle,hk⟩:=hL.ex
  have hr1:H r=some (.tup [.str ro.w,.str ro.nm,.int sh,.int lo,.int hi]):=by rw [hr0,← er]
  obtain ⟨r2,rfl,hr2⟩:=hR v (List.mem_of_getElem? hv)
  have hr2':H r2=some (.tup (.str (ρ (.ref r2)).w :: .str (ρ (.ref r2)).nm :: .str bd::rs)):=by rw [hr2,← hrest]
  have hlt:=hc.lt
  have ei:((us.length:Nat):Int) - 1 - ((cnt:Nat):Int)=((us.length - 1 - cnt:Nat):Int):=by omega
  refine ⟨_,rfl,p,us,ρ,cnt,rfl,hp,hR,hl,hc,?_⟩
  refine ⟨_,rfl,_,rfl,p,us,rfl,.inl hS,_,_,rfl,rfl,_,rfl,_,_,rfl,rfl,p,us,_,_,rfl,rfl,hS,(by rw [ei]; exact Av hv),?_⟩
  refine ⟨_,rfl,r2,_,_,_,rfl,rfl,.inl (.inl hr2'),Av (j:=0) rfl,rfl,_,rfl,QQ (congrArg V.str hw) ?_⟩
  refine ⟨_,rfl,_,_,rfl,rfl,_,rfl,?_⟩
  refine Bh (fun z=>?_) (fun _=>?_)
  ·have:=of_decide_eq_true z
   omega
  refine ⟨_,rfl,r,_,_,_,rfl,rfl,.inl (.inl hr1),Av (j:=3) rfl,_,rfl,r,_,_,_,rfl,rfl,.inl (.inl hr1),Av (j:=4) rfl,_,_,rfl,rfl,_,rfl,?_⟩
  refine Bh (fun _=>?_) (fun z=>absurd (decide_eq_true hle) z)
  refine ⟨_,rfl,r,_,_,_,rfl,rfl,.inl (.inl hr1),Av (j:=4) rfl,_,rfl,r2,_,_,_,rfl,rfl,.inl (.inl hr2'),Av (j:=2) rfl,_,rfl,hi,bd,p,us,ρ,rfl,hp,hR,hl,hB,fun H' s'=>?_⟩
  rw [hk]
  exact q H' s'
noncomputable def YG:Sp:=fun vs H Q _=>∃ (r p:Addr) (ro:R) (us:List V) (ρ:V->R) (ts:List Str),vs=[.ref r,.ref p]/\H r=some (.tup ro.v)/\H p=some (.lst us)/\Rows H ρ us/\us.length<=500/\V.str ro.nm::ro.rest=ts.map V.str/\ts.Nodup/\ts.length<=24/\(∀ t∈ts,isNm t/\Q9 ρ us "stop" t=true)/\∀ H',Aj H H'->Q (.bl true) H'
theorem Xx:Ax ["row","ahead","names"] ["row","ahead"] (Ae Y4):=Cg
include N T in
theorem YF:A_ P w K mg base B_ 5 aD.fIs aD.dIs ["row","ahead"] YG:=by
 have GTo:A_ P w K mg base B_ 3 aD.fTo aD.dTo ["rows","word","thing"] Vw:=Us N T
 refine N.FIs.1.ok Xx (fun vs H Q E h=>?_) (fun cdv A outer s H vs Q E hr h=>?_)
 ·obtain ⟨r,p,ro,us,ρ,ts,rfl,_⟩:=h
  rfl
 ·obtain ⟨r,p,ro,us,ρ,ts,rfl,hr0,hp,hR,hl,ets,nd,h24,hts,q⟩:=h
  have hrTo:BZ 3 _:=hr.mono (by decide)
  refine ⟨_,(Ah (CT (i:=2) Xx.nd rfl (Or.inl rfl) (Ea Mh (pv 0) (Ez Ag) Fd))
   (Ah (Br (PW.pt (Hs (Bg Cu (Aw BV rfl T.len PySem.boot_len (Aa (pv 2) Ab)) Ag (Bb _)) (Gs (Cq (Df (Aw (G3 rfl) rfl T.all PyProof.Rows.boot_all (Aa (Ba rfl (Az (osc:=Ae Y4) (N:=["row","ahead","names"]) rfl rfl (by decide +kernel)) (Mp (pv 2)) (fun _ _ _ _=>Bj) (fun _ _ _ _=>(Ao GTo hrTo rfl N.FTo.2.2 N.FTo.1.kp N.FTo.2.1 .nil BL (Aa (pv 2) (Aa An (Aa (pv 0) Ab)))))) Ab))))))) (Ai (Ay Fe)) BW)
   (Ai (Ay (CZ Cu (Aw JS rfl T.len PySem.boot_len (Aa (GD (PB rfl) rfl T.set PyProof.Rows.boot_set (Aa (pv 2) Ab)) Ab)) (Aw BV rfl T.len PySem.boot_len (Aa (pv 2) Ab)) (Bb _)))))),?_⟩
  have hv:ro.v=V.str ro.w::ts.map V.str:=by
   show V.str ro.w::(V.str ro.nm::ro.rest)=_
   rw [ets]
  rw [hv] at hr0
  have tne:1<=ts.length:=by
   cases ts with
   | nil=>cases ets
   | cons a b=>exact Nat.succ_le_succ (Nat.zero_le _)
  have hcut:Ds (V.str ro.w::ts.map V.str) (some 1) none=ts.map V.str:=by
   unfold Ds
   have e1:HT.DG (V.str ro.w::ts.map V.str).length 0 (some 1)=1:=by
    rw [show (some (1:Int))=some ((1:Nat):Int) from rfl,HT.GZ]
    simp
   rw [e1,HT.Gz]
   simp
   exact List.take_of_length_le (by rw [List.length_map]; exact Nat.le_refl _)
  refine ⟨_,rfl,_,rfl,r,_,rfl,.inl (.inl hr0),?_,fun n0 hn0=>?_⟩
  ·rintro ⟨z,_⟩
   have e1:HT.DG (V.str ro.w::ts.map V.str).length 0 (some 1)=1:=by
    rw [show (some (1:Int))=some ((1:Nat):Int) from rfl,HT.GZ]
    simp
   rw [e1] at z
   cases z
  rw [hcut]
  obtain ⟨H1,eqH,s1,a1⟩:=Ht (o:=HO.tup (ts.map V.str)) hn0
  rw [eqH]
  have hT:Fo K H1 n0 (ts.map V.str):=.inl (.inl a1)
  have ltm:(ts.map V.str).length=ts.length:=List.length_map ..
  refine ⟨_,rfl,n0,_,rfl,.inr hT,rfl,_,rfl,Bh (fun z=>?_) (fun _=>?_)⟩
  ·exfalso
   have:=V.int.inj (of_decide_eq_true z)
   omega
  refine ⟨_,rfl,n0,rfl,⟨_,hT⟩,LQ (K:=K) (xs:=ts.map V.str) (fun _=>true) (fun _=>.bl true) hT (BJ (by omega)) (fun x hx H' hs R k=>k H' (Aj.refl H')) (fun x hx _ H' hs R k=>?_) (fun D H2 hD s2 hl2=>?_)⟩
  ·obtain ⟨z,hz,rfl⟩:=List.mem_map.mp hx
   obtain ⟨z1,z2⟩:=hts z hz
   refine ⟨_,rfl,_,rfl,p,us,"stop",z,ρ,rfl,hs _ _ (s1 _ _ hp),(hR.mono s1).mono hs,hl,z1,fun H3 s3=>?_⟩
   rw [z2]
   exact k H3 s3
  ·refine ⟨D,List.replicate ts.length true,rfl,.inl (.inl ?_),_,rfl,?_⟩
   ·rw [hl2,List.filter_eq_self.mpr (fun _ _=>rfl),List.map_map]
    congr 2
    refine List.ext_getElem? fun i=>?_
    rw [List.getElem?_map,List.getElem?_map,List.getElem?_replicate]
    by_cases hi:i<ts.length
    ·rw [List.getElem?_eq_getElem hi,if_pos hi]
     rfl
    ·rw [List.getElem?_eq_none (by omega),if_neg hi]
     rfl
   have ea:(List.replicate ts.length true).all id=true:=by simp
   rw [ea]
   refine Eb ?_
   have hT2:=s2 _ _ a1
   refine ⟨_,rfl,n0,ts,rfl,.inl (.inl hT2),by omega,fun S hS=>?_⟩
   have s3:=Ak (o:=Km P w S (ts.foldl Ws.Er [])) hS
   refine ⟨S,_,rfl,Ac,_,rfl,n0,_,rfl,.inr (.inl (.inl (s3 _ _ hT2))),rfl,?_⟩
   have e:ts.foldl Ws.Er []=ts:=(Jh ts [] (by rw [List.nil_append]; exact nd)).trans (List.nil_append _)
   have e2:decide (V.int (((ts.foldl Ws.Er []).length:Nat):Int)=V.int (((ts.map V.str).length:Nat):Int))=true:=decide_eq_true (by rw [e,ltm])
   rw [e2]
   exact q _ (s1.trans (s2.trans s3))
noncomputable def XN (K:PySem.W.Frag) (aB aP aM:Addr):Sp:=fun vs H Q _=>∃ (r p:Addr) (ro:R) (us:List V) (ρ:V->R) (b:Bool),vs=[.ref r,.ref p]/\H r=some (.tup ro.v)/\H p=some (.lst us)/\Rows H ρ us/\us.length<=500/\XJ K aB aP ρ us ro b/\∀ H',Aj H H'->Q (.bl b) H'
theorem cC:Ax ["row","ahead"] ["row","ahead"] (Ae b8):=Cg
include N T in
theorem X6:A_ P w K mg base B_ 6 aD.fWm aD.dWm ["row","ahead"] (XN K aB aP aM):=by
 have GHp:A_ P w K mg base B_ 5 aD.fHp aD.dHp ["row","ahead"] (Wc K aB aP):=Yh N T
 have GSb:A_ P w K mg base B_ 3 aD.fSb aD.dSb ["line","ahead"] Wi:=YB N T
 have GIs:A_ P w K mg base B_ 5 aD.fIs aD.dIs ["row","ahead"] YG:=YF N T
 refine N.FWm.1.ok cC (fun vs H Q E h=>?_) (fun cdv A outer s H vs Q E hr h=>?_)
 ·obtain ⟨r,p,ro,us,ρ,b,rfl,_⟩:=h
  rfl
 ·obtain ⟨r,p,ro,us,ρ,b,rfl,hr0,hp,hR,hl,okB,q⟩:=h
  have hrHp:BZ 5 _:=hr.mono (by decide)
  have hrSb:BZ 3 _:=hr.mono (by decide)
  have hrIs:BZ 5 _:=hr.mono (by decide)
  refine ⟨_,(Ah (Br (Bg Cu (Bc (BK (K:=K) rfl) (pv 0) Ag (fun _ _=>rfl)) An (Bb _)) (Ai (Ay (Ao GIs hrIs rfl N.FIs.2.2 N.FIs.1.kp N.FIs.2.1 .nil BL (Aa (pv 0) (Aa (pv 1) Ab))))) BW)
   (Ah (Br (Bg Cu (Bc (BK (K:=K) rfl) (pv 0) Ag (fun _ _=>rfl)) An (Bb _)) (Ai (Ay (CJ (Ao GHp hrHp rfl N.FHp.2.2 N.FHp.1.kp N.FHp.2.1 .nil BL (Aa (pv 0) (Aa (pv 1) Ab))) (Cj (Ao GSb hrSb rfl N.FSb.2.2 N.FSb.1.kp N.FSb.2.1 .nil BL (Aa (pv 0) (Aa (pv 1) Ab))))))) BW)
   (Ai (Ay (CJ (Qo (Qm (Bc (BK (K:=K) rfl) (pv 0) Ag (fun _ _=>rfl)) (Bq (v:=.ref aP) rfl T.mP rfl))) (Cj (Ao GHp hrHp rfl N.FHp.2.2 N.FHp.1.kp N.FHp.2.1 .nil BL (Aa (pv 0) (Aa (pv 1) Ab))))))))),?_⟩
  refine ⟨_,rfl,r,_,_,_,rfl,rfl,.inl (.inl hr0),Av (j:=0) rfl,rfl,_,rfl,?_⟩
  rcases okB with ⟨rfl,ok | ok⟩ | ⟨rfl,ok⟩
  case inl.inr =>
   obtain ⟨ts,ets,nd,h24,hts⟩:=ok.ts
   refine Bh (fun _=>?_) (fun z=>absurd (decide_eq_true (congrArg V.str ok.w)) z)
   exact ⟨_,rfl,_,rfl,r,p,ro,us,ρ,ts,rfl,hr0,hp,hR,hl,ets,nd,h24,hts,q⟩
  case inr =>
   obtain ⟨ap,ps,hn,hap,hlen,hps,hok⟩:=ok.parts
   refine Bh (fun z=>?_) (fun _=>?_)
   ·have:=V.str.inj (of_decide_eq_true z)
    rw [ok.w] at this
    exact absurd this (by decide +kernel)
   refine ⟨_,rfl,r,_,_,_,rfl,rfl,.inl (.inl hr0),Av (j:=0) rfl,rfl,_,rfl,?_⟩
   refine Bh (fun _=>?_) (fun z=>absurd (decide_eq_true (congrArg V.str ok.w)) z)
   refine ⟨_,rfl,_,rfl,r,p,ro.w,_,us,ρ,ap,ps,rfl,hr0,hp,hR,hl,hn,hap,hlen,hps,hok,fun H1 s1=>⟨_,rfl,Dm ?_⟩⟩
   exact ⟨_,rfl,_,rfl,r,p,ro,us,ρ,false,rfl,s1 _ _ hr0,s1 _ _ hp,hR.mono s1,hl,.inr ⟨rfl,ok.full⟩,ok.Mt,fun H2 s2=>q H2 (s1.trans s2)⟩
  obtain ⟨ap,ps,hn,hap,hlen,hps,hok⟩:=ok.parts
  refine Bh (fun z=>absurd (V.str.inj (of_decide_eq_true z)) ok.ns) (fun _=>?_)
  refine ⟨_,rfl,r,_,_,_,rfl,rfl,.inl (.inl hr0),Av (j:=0) rfl,rfl,_,rfl,?_⟩
  refine Bh (fun z=>?_) (fun _=>?_)
  ·have hline:=ok.line (V.str.inj (of_decide_eq_true z))
   refine ⟨_,rfl,_,rfl,r,p,ro.w,_,us,ρ,ap,ps,rfl,hr0,hp,hR,hl,hn,hap,hlen,hps,hok,fun H1 s1=>⟨_,rfl,Dm ?_⟩⟩
   exact ⟨_,rfl,_,rfl,r,p,ro,us,ρ,true,rfl,s1 _ _ hr0,s1 _ _ hp,hR.mono s1,hl,.inl ⟨rfl,hline⟩,ok.Mt,fun H2 s2=>q H2 (s1.trans s2)⟩
  refine ⟨_,rfl,r,_,_,_,rfl,rfl,.inl (.inl hr0),Av (j:=0) rfl,aP,_,_,rfl,rfl,T.dP,hn,_,rfl,Dm ?_⟩
  exact ⟨_,rfl,_,rfl,r,p,ro.w,_,us,ρ,ap,ps,rfl,hr0,hp,hR,hl,hn,hap,hlen,hps,hok,q⟩
noncomputable def Yn (K:PySem.W.Frag) (aM:Addr):Sp:=fun vs H Q _=>∃ (p:Addr) (w:Str) (us:List V) (ρ:V->R) (b:Bool),vs=[.str w,.ref p]/\H p=some (.lst us)/\Rows H ρ us/\us.length<=500/\Ue K aM ρ us w b/\∀ H',Aj H H'->Q (.bl b) H'
theorem Zi:Ax ["word","ahead"] ["word","ahead"] (Ae Zc):=Cg
include N T in
theorem Xn:A_ P w K mg base B_ 2 aD.fHr aD.dHr ["word","ahead"] (Yn K aM):=by
 have GRo:A_ P w K mg base B_ 1 aD.fRo aD.dRo ["rows","word"] Li:=Jk N T
 refine N.FHr.1.ok Zi (fun vs H Q E h=>?_) (fun cdv A outer s H vs Q E hr h=>?_)
 ·obtain ⟨p,w,us,ρ,b,rfl,_⟩:=h
  rfl
 ·obtain ⟨p,w,us,ρ,b,rfl,hp,hR,hl,hroom,q⟩:=h
  have hrRo:BZ 1 _:=hr.mono (by decide)
  refine ⟨_,(Ai (Ay (W0 (Qo (O6 (pv 0) (Bq (v:=.ref aM) rfl T.mM rfl))) (Cj (CZ Nb (Aw BV rfl T.len PySem.boot_len (Aa (Ao GRo hrRo rfl N.FRo.2.2 N.FRo.1.kp N.FRo.2.1 .nil BL (Aa (pv 1) (Aa (pv 0) Ab))) Ab)) (KJ (Bq (v:=.ref aM) rfl T.mM rfl) (pv 0) (fun _ _=>rfl)) (Bb _)))))),?_⟩
  rcases hroom with ⟨rfl,hn⟩ | ⟨m,t,hn,hm⟩
  ·refine ⟨_,rfl,aM,w,_,rfl,rfl,T.dM,hn,_,rfl,Dm ?_⟩
   exact q H (Aj.refl H)
  refine ⟨_,rfl,aM,w,_,rfl,rfl,T.dM,hn,_,rfl,Eb ?_⟩
  refine ⟨_,rfl,_,rfl,p,us,w,ρ,rfl,hp,hR,hl,fun D H2 hD s2 hl2=>?_⟩
  refine ⟨D,_,rfl,.inl (.inl (.inl hl2)),_,rfl,aM,w,.int m,_,rfl,rfl,T.dM,hn,⟨t,rfl⟩,_,_,rfl,rfl,?_⟩
  show Q (.bl (decide ((((us.filter (pw ρ w)).length:Nat):Int)<m))) H2
  rw [← hm]
  exact q H2 s2
noncomputable def V9 (K:PySem.W.Frag) (aB aP aM:Addr):Sp:=fun vs H Q _=>∃ (r p:Addr) (ro:R) (us:List V) (ρ:V->R) (b:Bool),vs=[.ref r,.ref p]/\H r=some (.tup ro.v)/\H p=some (.lst us)/\Rows H ρ us/\us.length<=500/\Ot K aB aP aM ρ us ro b/\∀ H',Aj H H'->Q (.bl b) H'
theorem au:Ax ["thing","ahead"] ["thing","ahead"] (Ae Zf):=Cg
include N T in
theorem UW:A_ P w K mg base B_ 7 aD.fIr aD.dIr ["thing","ahead"] (V9 K aB aP aM):=by
 have GWm:A_ P w K mg base B_ 6 aD.fWm aD.dWm ["row","ahead"] (XN K aB aP aM):=X6 N T
 have GHr:A_ P w K mg base B_ 2 aD.fHr aD.dHr ["word","ahead"] (Yn K aM):=Xn N T
 refine N.FIr.1.ok au (fun vs H Q E h=>?_) (fun cdv A outer s H vs Q E hr h=>?_)
 ·obtain ⟨r,p,ro,us,ρ,b,rfl,_⟩:=h
  rfl
 ·obtain ⟨r,p,ro,us,ρ,b,rfl,hr0,hp,hR,hl,okB,q⟩:=h
  have hrWm:BZ 6 _:=hr.mono (by decide)
  have hrHr:BZ 2 _:=hr.mono (by decide)
  refine ⟨_,(Ah (Br (PW.pt (Hs (Cq (Df (Aw CQ rfl T.isin PyProof.Rows.boot_isinstance (Aa (pv 0) (Aa (DR (v:=.ty "tuple") rfl T.tuple PyProof.Rows.boot_tuple rfl) Ab))))) (Hs (Bg Cu (Aw BV rfl T.len PySem.boot_len (Aa (pv 0) Ab)) Ag (Bb _)) (Gs (Cq (Df (Aw CQ rfl T.isin PyProof.Rows.boot_isinstance (Aa (Bc (BK (K:=K) rfl) (pv 0) Ag (fun _ _=>rfl)) (Aa (DR (v:=.ty "str") rfl T.str PyProof.Rows.boot_str rfl) Ab))))))))) (Ai (Ay Fe)) BW)
   (Ai (Ay (CJ (Ao GWm hrWm rfl N.FWm.2.2 N.FWm.1.kp N.FWm.2.1 .nil BL (Aa (pv 0) (Aa (pv 1) Ab))) (Cj (Ao GHr hrHr rfl N.FHr.2.2 N.FHr.1.kp N.FHr.2.1 .nil BL (Aa (Bc (BK (K:=K) rfl) (pv 0) Ag (fun _ _=>rfl)) (Aa (pv 1) Ab)))))))),?_⟩
  refine ⟨_,rfl,_,"tuple",_,_,rfl,.tup hr0,XC,_,rfl,Eb ?_⟩
  refine ⟨_,rfl,r,_,rfl,.inr (.inl (.inl hr0)),rfl,_,rfl,?_⟩
  refine Bh (fun z=>?_) (fun _=>?_)
  ·exfalso
   have:=of_decide_eq_true z
   have:=V.int.inj this
   simp at this
   omega
  refine ⟨_,rfl,r,_,_,_,rfl,rfl,.inl (.inl hr0),Av (j:=0) rfl,_,"str",_,_,rfl,.str _,Ub,_,rfl,Eb ?_⟩
  rcases okB with ⟨rfl,bad⟩ | ⟨ok,room⟩
  ·exact ⟨_,rfl,_,rfl,r,p,ro,us,ρ,false,rfl,hr0,hp,hR,hl,.inr ⟨rfl,bad⟩,fun H1 s1=>⟨_,rfl,Eb (q H1 s1)⟩⟩
  refine ⟨_,rfl,_,rfl,r,p,ro,us,ρ,true,rfl,hr0,hp,hR,hl,.inl ⟨rfl,ok⟩,fun H1 s1=>⟨_,rfl,Dm ?_⟩⟩
  exact ⟨_,rfl,r,_,_,_,rfl,rfl,.inl (.inl (s1 _ _ hr0)),Av (j:=0) rfl,_,rfl,p,ro.w,us,ρ,b,rfl,s1 _ _ hp,hR.mono s1,hl,room,fun H2 s2=>q H2 (s1.trans s2)⟩
noncomputable def YW (K:PySem.W.Frag) (aB aP aM:Addr):Sp:=fun vs H Q _=>∃ (p:Addr) (us:List V) (ρ:V->R),vs=[.ref p]/\H p=some (.lst us)/\Rows H ρ us/\1<=us.length/\us.length<=150/\(∀ (i:Nat) v,us[i]? = some v->Ot K aB aP aM ρ (us.take i) (ρ v) true)/\(us.filter (pw ρ "board")).isEmpty=false/\∀ H',Aj H H'->Q .non H'
theorem Pg:Ax ["rows","at","row"] ["rows"] (Ae cI):=Cg
include N T in
theorem XH:A_ P w K mg base B_ 8 aD.fCk aD.dCk ["rows"] (YW K aB aP aM):=by
 have GIr:A_ P w K mg base B_ 7 aD.fIr aD.dIr ["thing","ahead"] (V9 K aB aP aM):=UW N T
 have GRo:A_ P w K mg base B_ 1 aD.fRo aD.dRo ["rows","word"] Li:=Jk N T
 refine N.FCk.1.ok Pg (fun vs H Q E h=>?_) (fun cdv A outer s H vs Q E hr h=>?_)
 ·obtain ⟨p,us,ρ,rfl,_⟩:=h
  rfl
 ·obtain ⟨p,us,ρ,rfl,hp,hR,h1,h2,hok,hb,q⟩:=h
  have hrIr:BZ 7 _:=hr.mono (by decide)
  have hrRo:BZ 1 _:=hr.mono (by decide)
  obtain ⟨tMR,hMR⟩:=T.mostR
  refine ⟨_,(Ah (Br (PW.pt (Hs (Cq (Df (Aw CQ rfl T.isin PyProof.Rows.boot_isinstance (Aa (pv 0) (Aa (DR (v:=.ty "list") rfl T.list PyProof.Rows.boot_list rfl) Ab))))) (Gs (Cq (K6 Gk Gk Ag (Aw BV rfl T.len PySem.boot_len (Aa (pv 0) Ab)) (Bq (v:=.int 150) rfl hMR ⟨tMR,rfl⟩)))))) (Ai G_) BW)
   (Ah (FT PassesOwn.never rfl (IV rfl T.enumerate (Aa (pv 0) Ab)) (Ij rfl (Cr (CG (i:=1) Pg.nd rfl (Or.inl rfl)) (Cr (CG (i:=2) Pg.nd rfl (Or.inl rfl)) HB))) (Ai (Br (Cq (Df (Ao GIr hrIr rfl N.FIr.2.2 N.FIr.1.kp N.FIr.2.1 .nil BL (Aa (pv 2) (Aa (Ea IW (pv 0) Fd (Ez (pv 1))) Ab))))) (Ai G_) BW)))
   (Ai (Br (Cq (Ku (Ao GRo hrRo rfl N.FRo.2.2 N.FRo.1.kp N.FRo.2.1 .nil BL (Aa (pv 0) (Aa An Ab))) (fun _=>rfl))) (Ai G_) BW)))),?_⟩
  have hS:Cz K H p us:=.inl (.inl hp)
  refine ⟨_,rfl,_,"list",_,_,rfl,.lst hp,NK,_,rfl,Eb ?_⟩
  refine ⟨_,rfl,p,_,rfl,.inl hS,_,_,rfl,rfl,_,rfl,?_⟩
  refine Bh (fun _=>?_) (fun z=>absurd (decide_eq_true (by omega)) z)
  refine ⟨_,_,rfl,rfl,_,rfl,?_⟩
  have e150:decide ((us.length:Int)<=150)=true:=decide_eq_true (by omega)
  rw [e150]
  refine Eb ?_
  refine ⟨_,rfl,p,rfl,⟨_,hS⟩,HH (K:=K) (a:=p) (xs:=us) (fun i σ H4=>Aj H H4/\∃ v1 v2,σ=[some (.ref p),v1,v2]) ⟨Aj.refl H,_,_,rfl⟩ (fun i σ H4 _ h=>h.1.seq hS) ?_ ?_⟩
  ·rintro i x σ H4 T0 hx ⟨s4,v1,v2,rfl⟩ hT
   have s5:=Ak (o:=HO.tup [.int (i:Int),x]) hT
   refine ⟨T0,_,rfl,.inl (.inl Ac),rfl,_,_,rfl,_,_,rfl,rfl,?_⟩
   generalize upd H4 T0 (HO.tup [.int (i:Int),x])=H5 at s5 ⊢
   have s05:=s4.trans s5
   have hi:i<us.length:=(List.getElem?_eq_some_iff.mp hx).1
   obtain ⟨r,rfl,hr0⟩:=(hR.mono s05) x (List.mem_of_getElem? hx)
   refine ⟨_,rfl,_,rfl,_,rfl,_,rfl,p,_,rfl,s05.seq hS,fun p6 hp6=>?_⟩
   have s6:=Ak (o:=HO.lst (Ds us none (some (i:Int)))) hp6
   have a6:upd H5 p6 (HO.lst (Ds us none (some (i:Int)))) p6=_:=Ac
   generalize upd H5 p6 (HO.lst (Ds us none (some (i:Int))))=H6 at s6 a6 ⊢
   rw [KN us i (by omega)] at a6
   have s06:=s05.trans s6
   refine ⟨r,p6,ρ (.ref r),us.take i,ρ,true,rfl,s6 _ _ hr0,a6,(hR.mono s06).sub fun v hv=>List.mem_of_mem_take hv,by rw [List.length_take]; omega,hok i _ hx,fun H7 s7=>⟨_,rfl,Eb ?_⟩⟩
   exact ⟨s06.trans s7,_,_,rfl⟩
  ·rintro σ H4 ⟨s4,v1,v2,rfl⟩
   refine ⟨_,rfl,p,us,"board",ρ,rfl,s4 _ _ hp,hR.mono s4,by omega,fun D H5 hD s5 hl5=>?_⟩
   refine ⟨_,.inl ⟨_,.inl (.inl hl5),rfl⟩,?_⟩
   rw [hb]
   exact Eb (q H5 (s4.trans s5))
noncomputable def Wk:Sp:=fun vs H Q _=>∃ (p:Addr) (ts:List Str),vs=[.ref p]/\H p=some (.lst (ts.map V.str))/\ts.length<=300/\ts.Nodup/\∀ D (kvs:List (Key × V)) H',H D=none->Aj H H'->H' D=some (.dK kvs)->(∀ (i:Nat) t,ts[i]? = some t->CP kvs (Sum.inr t)=some (.int (i:Nat)))->(∀ t,t ∉ ts->CP kvs (Sum.inr t)=none)->Q (.ref D) H'
theorem R1:Ax ["names","numbers","number","name"] ["names"] (Ae Zb):=Cg
include N T in
theorem Wj:A_ P w K mg base B_ 1 aD.fNu aD.dNu ["names"] Wk:=by
 refine N.FNu.1.ok R1 (fun vs H Q E h=>?_) (fun cdv A outer s H vs Q E hr h=>?_)
 ·obtain ⟨p,ts,rfl,_⟩:=h
  rfl
 ·obtain ⟨p,ts,rfl,hp,hl,nd,q⟩:=h
  have hu:=RG hr
  refine ⟨_,(Ah (CT (i:=1) R1.nd rfl (Or.inl rfl) RZ)
   (Ah (FT PassesOwn.never rfl (IV rfl T.enumerate (Aa (pv 0) Ab)) (Ij rfl (Cr (CG (i:=2) R1.nd rfl (Or.inl rfl)) (Cr (CG (i:=3) R1.nd rfl (Or.inl rfl)) HB))) (Ai (SM hu (pv 1) (pv 3) (pv 2) rfl)))
   (Ai (Ay (pv 1))))),?_⟩
  intro D hD
  have s0:=Ak (o:=HO.dK []) hD
  have hS:Cz K H p (ts.map V.str):=.inl (.inl hp)
  refine ⟨_,rfl,p,rfl,⟨_,s0.seq hS⟩,HH (K:=K) (a:=p) (xs:=ts.map V.str) (fun i σ H4=>Aj H H4/\∃ (kvs:List (Key × V)),H4 D=some (.dK kvs)/\kvs.length<=i/\(∀ (j:Nat) t,j<i->ts[j]? = some t->CP kvs (Sum.inr t)=some (.int (j:Nat)))/\(∀ t,t ∉ ts->CP kvs (Sum.inr t)=none)/\∃ v2 v3,σ=[some (.ref p),some (.ref D),v2,v3])
   ⟨s0,[],Ac,Nat.le_refl _,fun j t hj=>absurd hj (Nat.not_lt_zero _),fun t _=>Qs,_,_,rfl⟩ (fun i σ H4 _ h=>h.1.seq hS) ?_ ?_⟩
  ·rintro i x σ H4 T0 hx ⟨s4,kvs,hd,hk,hv,hv0,v2,v3,rfl⟩ hT
   rw [List.getElem?_map] at hx
   obtain ⟨t,ht,rfl⟩:=Option.map_eq_some_iff.mp hx
   have hi:i<ts.length:=(List.getElem?_eq_some_iff.mp ht).1
   have s5:=Ak (o:=HO.tup [.int (i:Int),.str t]) hT
   refine ⟨T0,_,rfl,.inl (.inl Ac),rfl,_,_,rfl,_,_,rfl,rfl,?_⟩
   generalize upd H4 T0 (HO.tup [.int (i:Int),.str t])=H5 at s5 ⊢
   refine ⟨_,rfl,_,rfl,_,rfl,D,_,rfl,RK.k (k:=Sum.inr t) (s5 _ _ hd) (BJ (by omega)),?_⟩
   refine ⟨fun b u e=>?_,putK kvs (Sum.inr t) (.int (i:Int)),Ac,Nat.le_trans (Fz _ _ _) (by omega),fun j t' hj ht'=>?_,fun t' ht'=>(by rw [Kz,if_neg fun z=>ht' (by rw [Sum.inr.inj z]; exact List.mem_of_getElem? ht)]; exact hv0 t' ht'),_,_,rfl⟩
   ·rw [Ar (Am e hD)]
    exact s5 _ _ (s4 _ _ e)
   ·rw [Kz]
    by_cases e:t'=t
    ·subst e
     have:j=i:=by
      obtain ⟨h1,e1⟩:=List.getElem?_eq_some_iff.mp ht'
      obtain ⟨h2,e2⟩:=List.getElem?_eq_some_iff.mp ht
      exact (List.getElem_inj nd).mp (e1.trans e2.symm)
     subst this
     rw [if_pos rfl]
    ·rw [if_neg fun z=>e (Sum.inr.inj z)]
     refine hv j t' ?_ ht'
     rcases Nat.lt_succ_iff_lt_or_eq.mp hj with z | z
     ·exact z
     ·subst z
      rw [ht] at ht'
      exact absurd (Option.some.inj ht').symm e
  ·rintro σ H4 ⟨s4,kvs,hd,hk,hv,hv0,v2,v3,rfl⟩
   refine ⟨_,rfl,q D kvs H4 hD s4 hd (fun i t ht=>hv i t ?_ ht) hv0⟩
   rw [List.length_map]
   exact (List.getElem?_eq_some_iff.mp ht).1
theorem YC {n:Nat} (h:n<=3000):n<sizeLine:=Nat.lt_of_le_of_lt h (by decide)
noncomputable def We:Sp:=fun vs H Q _=>∃ (p:Addr) (as:List Th) (us:List V),vs=[.ref p]/\H p=some (.lst us)/\Paired (fun (a:Th) y=>TupAt H (tV a) y) as us/\as.length<=12/\(∀ a∈as,a.2.1<=97)/\∀ D ys H',H D=none->Aj H H'->H' D=some (.lst ys)->Paired (fun q y=>TupAt H' (qV q) y) (J6 (as.map tN)) ys->Q (.ref D) H'
theorem Sq:Ax ["things","places","number","thing"] ["things"] (Ae ZP):=Cg
include N T in
theorem YK:A_ P w K mg base B_ 1 aD.fPl aD.dPl ["things"] We:=by
 refine N.FPl.1.ok Sq (fun vs H Q E h=>?_) (fun cdv A outer s H vs Q E hr h=>?_)
 ·obtain ⟨p,as,us,rfl,_⟩:=h
  rfl
 ·obtain ⟨p,as,us,rfl,hp,hb,hl,hz,q⟩:=h
  refine ⟨_,(Ah (CT (i:=1) Sq.nd rfl (Or.inl rfl) (Ci Ab))
   (Ah (FT PassesOwn.never rfl (IV rfl T.enumerate (Aa (pv 0) Ab)) (Ij rfl (Cr (CG (i:=2) Sq.nd rfl (Or.inr rfl)) (Cr (CG (i:=3) Sq.nd rfl (Or.inl rfl)) HB))) (Ai (HD (Qy PySem.F.plainAttrs_list PySem.F.slot_list_extend PySem.F.type_list_extend Pj (pv 1) (Aa (Ba rfl (Az (osc:=Ae ZP) (N:=["things","places","number","thing"]) rfl rfl (by decide +kernel)) (Bm rfl T.range (Aa (Bc (BK (K:=K) rfl) (pv 3) Ag (fun _ _=>rfl)) Ab)) (fun _ _ _ _=>Bj) (fun _ _ _ _=>(Bk (Aa (pv 3) (Aa (pv 0) Ab))))) Ab)))))
   (Ai (Ay (pv 1))))),?_⟩
  refine ⟨Ck (by simp),fun D hD=>?_⟩
  have s0:=Ak (o:=HO.lst []) hD
  have hS:Cz K H p us:=.inl (.inl hp)
  have hul:=hb.length
  refine ⟨_,rfl,p,rfl,⟨_,s0.seq hS⟩,HH (K:=K) (a:=p) (xs:=us) (fun i σ H4=>Aj H H4/\∃ ys,H4 D=some (.lst ys)/\Paired (fun q y=>TupAt H4 (qV q) y) (J6 ((as.map tN).take i)) ys/\∃ v2 v3,σ=[some (.ref p),some (.ref D),v2,v3])
   ⟨s0,[],Ac,.nil,_,_,rfl⟩ (fun i σ H4 _ h=>h.1.seq hS) ?_ ?_⟩
  ·rintro i x σ H4 T0 hx ⟨s4,ys,hd,hpr,v2,v3,rfl⟩ hT
   obtain ⟨b,hbi,hxb⟩:=K9 hb hx
   have hi:i<as.length:=(List.getElem?_eq_some_iff.mp hbi).1
   have hb97:=hz b (List.mem_of_getElem? hbi)
   have hbi':(as.map tN)[i]? = some (tN b):=by rw [List.getElem?_map,hbi]; rfl
   have s5:=Ak (o:=HO.tup [.int (i:Int),x]) hT
   refine ⟨T0,_,rfl,.inl (.inl Ac),rfl,_,_,rfl,_,_,rfl,rfl,?_⟩
   generalize upd H4 T0 (HO.tup [.int (i:Int),x])=H5 at s5 ⊢
   obtain ⟨r,rfl,hr0⟩:=hxb.mono (s4.trans s5)
   have p5:=Al s5 hpr
   have d5:=s5 _ _ hd
   refine ⟨_,rfl,.inl ⟨rfl,_,.inl (.inl d5)⟩,_,rfl,r,_,_,_,rfl,rfl,.inl (.inl hr0),Av (j:=1) rfl,_,rfl,by omega,by omega,?_⟩
   rw [Int.toNat_natCast]
   refine Bt (n:=b.2.1) (fun e=>qV (i,e)) (BJ (by omega)) (fun e he H6 s6 R k=>?_) (fun D6 H6 zs hD6 s6 hl6 hz6=>?_)
   ·refine ⟨_,rfl,_,rfl,by show 2<=sizeLine; decide,fun T6 hT6=>?_⟩
    exact k _ _ (Ak hT6) ⟨T6,rfl,Ac⟩
   ·have ly:=(Al s6 p5).length
    have lz:=hz6.length
    have lp:=Rt ((as.map tN).take i) 97 fun b hb=>by
     obtain ⟨a,ha,rfl⟩:=List.mem_map.mp (List.mem_of_mem_take hb)
     exact hz a ha
    rw [List.length_take,List.length_map] at lp
    rw [List.length_range] at lz
    have:min i as.length * 97<=12 * 97:=Nat.mul_le_mul_right _ (by omega)
    refine ⟨D,D6,ys,zs,rfl,rfl,s6 _ _ d5,hl6,Nat.le_of_lt (YC (by omega)),?_⟩
    refine ⟨fun b u e=>?_,ys++zs,Ac,?_,_,_,rfl⟩
    ·rw [Ar (Am e hD)]
     exact s6 _ _ (s5 _ _ (s4 _ _ e))
    ·rw [Kl hbi']
     exact By (D_ (Al s6 p5) (s6 _ _ d5)) (Bl (F:=fun q y=>TupAt _ (qV q) y) (fun e=>(i,e)) (D_ hz6 (s6 _ _ d5)))
  ·rintro σ H4 ⟨s4,ys,hd,hpr,v2,v3,rfl⟩
   rw [← hul,List.take_of_length_le (by rw [List.length_map]; exact Nat.le_refl _)] at hpr
   exact ⟨_,rfl,q D ys H4 hD s4 hd hpr⟩
theorem Ro {α:Type} (l:List α) (x:α):Rk (l++[x]) (-1)=some x:=by
 unfold Rk VB
 rw [if_neg (by decide),if_pos (by rw [List.length_append,List.length_singleton]; omega)]
 show (l++[x])[(-1+(((l++[x]).length:Nat):Int)).toNat]? = some x
 have e:(-1+(((l++[x]).length:Nat):Int)).toNat=l.length:=by
  rw [List.length_append,List.length_singleton]
  omega
 rw [e,List.getElem?_append_right (Nat.le_refl _),Nat.sub_self]
 rfl
theorem Iw {H:Hp} {l:List Ln} {v:V} {A:Addr} {xs ys:List V} (h:Fw H l v) (hA:H A=some (.lst xs)) (hv:v ≠ .ref A):Fw (upd H A (.lst ys)) l v:=by
 obtain ⟨B,ts,rfl,h1,h2⟩:=h
 have:B ≠ A:=fun z=>hv (by rw [z])
 exact ⟨B,ts,rfl,by rw [Ar this]; exact h1,D_ h2 hA⟩
theorem Eh {α β:Type} {F G:α->β->Prop}:∀ {l:List α} {vs:List β},Paired F l vs->(∀ a b,b∈vs->F a b->G a b)->Paired G l vs
 | [],_,h,_=>by cases h; exact .nil
 | a::l,_,h,k=>by
  cases h with
  | cons x y=>exact .cons (k _ _ (List.mem_cons_self ..) x) (Eh y fun a b hb=>k a b (List.mem_cons_of_mem _ hb))
theorem Gw {α β:Type} {F:α->β->Prop}:∀ {l:List α} {z:α} {vs:List β},Paired F (l++[z]) vs->∃ us u,vs=us++[u]/\Paired F l us/\F z u
 | [],z,_,h=>by
  cases h with
  | cons x y=>cases y; exact ⟨[],_,rfl,.nil,x⟩
 | a::l,z,_,h=>by
  cases h with
  | cons x y =>
   obtain ⟨us,u,rfl,h1,h2⟩:=Gw y
   exact ⟨_::us,u,rfl,.cons x h1,h2⟩
theorem Ec {α:Type} {l:List α} (h:l ≠ []):∃ a z,l=a++[z]:=⟨l.dropLast,l.getLast h,(List.dropLast_concat_getLast h).symm⟩
theorem Ks {rk:List (Str × Nat × Int)}:∀ {rs:List R},(∃ r∈rs,Gd r.w=true)->linesOf rk rs ≠ []:=by
 have key:∀ (n:Nat) (rs:List R),rs.length=n->(∃ r∈rs,Gd r.w=true)->linesOf rk rs ≠ []:=by
  intro n
  induction n with
  | zero =>
   rintro rs hl ⟨r,hr,_⟩
   cases rs with
   | nil=>cases hr
   | cons a b=>cases hl
  | succ n ih =>
   rintro rs hl ⟨r,hr,hk⟩
   obtain ⟨a,z,rfl⟩:=Ec (l:=rs) (by intro e; rw [e] at hl; cases hl)
   rw [Bv]
   rw [List.length_append,List.length_singleton] at hl
   unfold Ce
   by_cases hz:Gd z.w=true
   ·rw [if_pos hz]
    simp
   ·rw [if_neg hz]
    have hr':r∈a:=by
     rcases List.mem_append.mp hr with h | h
     ·exact h
     ·rw [List.mem_singleton.mp h] at hk
      exact absurd hk hz
    have ih':=ih a (by omega) ⟨r,hr',hk⟩
    split
    ·obtain ⟨b,y,e⟩:=Ec ih'
     rw [e,GX]
     simp
    ·exact ih'
 exact fun {rs} h=>key rs.length rs rfl h
noncomputable def Xq:Sp:=fun vs H Q _=>∃ (p d:Addr) (us:List V) (ρ:V->R) (rk:List (Str × Nat × Int)) (kvs:List (Key × V)),vs=[.ref p,.ref d]/\H p=some (.lst us)/\Rows H ρ us/\us.length<=500/\H d=some (.dK kvs)/\(∀ (i:Nat) r,rk[i]? = some r->CP kvs (Sum.inr r.1)=some (.int (i:Nat)))/\(rk.map (·.1)).Nodup /\
 (∀ (i:Nat) v,us[i]? = some v->(ρ v).w = "line"->(∃ (j:Nat) (r:Str × Nat × Int) (sh lo hi:Int),rk[j]? = some r/\r.1=(ρ v).nm/\(ρ v).rest=[.int sh,.int lo,.int hi])/\∃ u∈us.take i,Gd (ρ u).w=true)/\∀ D H',H D=none->Aj H H'->DN p H' D (linesOf rk (us.map ρ))->Q (.ref D) H'
theorem Vd {rk:List (Str × Nat × Int)} {j:Nat} {r:Str × Nat × Int} (nd:(rk.map (·.1)).Nodup) (h:rk[j]? = some r):(rk.map (·.1)).idxOf r.1=j:=by
 have hj:j<(rk.map (·.1)).length:=by rw [List.length_map]; exact (List.getElem?_eq_some_iff.mp h).1
 have e:(rk.map (·.1))[j]=r.1:=by
  rw [List.getElem_map]
  exact congrArg (·.1) (List.getElem?_eq_some_iff.mp h).2
 rw [← e]
 exact List.Nodup.idxOf_getElem nd j hj
theorem VL:Ax ["rows","rank_numbers","lines","row"] ["rows","rank_numbers"] (Ae aU):=Cg
include N T in
theorem W6:A_ P w K mg base B_ 1 aD.fLi aD.dLi ["rows","rank_numbers"] Xq:=by
 refine N.FLi.1.ok VL (fun vs H Q E h=>?_) (fun cdv A outer s H vs Q E hr h=>?_)
 ·obtain ⟨p,d,us,ρ,rk,kvs,rfl,_⟩:=h
  rfl
 ·obtain ⟨p,d,us,ρ,rk,kvs,rfl,hp,hR,hl,hdk,hval,hnd,hln,q⟩:=h
  have hu:=RG hr
  refine ⟨_,(Ah (CT (i:=2) VL.nd rfl (Or.inl rfl) (Ci Ab))
   (Ah (FT PassesOwn.never rfl (CK (pv 0)) (CG (i:=3) VL.nd rfl (Or.inl rfl)) (Ah (Br (Bg (JK (K:=K) rfl) (Bc (BK (K:=K) rfl) (pv 3) Ag (fun _ _=>rfl)) (Bq (v:=.ref aK) rfl T.mK rfl) rfl) (Ai (HD (Qy PySem.F.plainAttrs_list PySem.F.slot_list_append PySem.F.type_list_append GJ (pv 2) (Aa (Ci Ab) Ab)))) BW)
   (Ai (Br (Bg Cu (Bc (BK (K:=K) rfl) (pv 3) Ag (fun _ _=>rfl)) An (Bb _)) (Ai (HD (Qy PySem.F.plainAttrs_list PySem.F.slot_list_append PySem.F.type_list_append GJ (Bc (P_ (K:=K) rfl) (pv 2) (RJ Mq Ag) (fun _ _=>rfl)) (Aa (Bk (Aa (Nz hu (pv 1) (Bc (BK (K:=K) rfl) (pv 3) Ag (fun _ _=>rfl)) (fun _ _=>rfl)) (Aa (Bc (BK (K:=K) rfl) (pv 3) Ag (fun _ _=>rfl)) (Aa (Bc (BK (K:=K) rfl) (pv 3) Ag (fun _ _=>rfl)) (Aa (Bc (BK (K:=K) rfl) (pv 3) Ag (fun _ _=>rfl)) Ab))))) Ab)))) BW))))
   (Ai (Ay (pv 2))))),?_⟩
  refine ⟨Ck (by simp),fun D hD=>?_⟩
  have s0:=Ak (o:=HO.lst []) hD
  have hS:Cz K H p us:=.inl (.inl hp)
  refine ⟨_,rfl,p,rfl,⟨_,s0.seq hS⟩,JC (K:=K) (a:=p) (xs:=us) (fun i σ H4=>Aj H H4/\∃ lv,H4 D=some (.lst lv)/\Paired (fun l v=>Fw H4 l v) (linesOf rk ((us.take i).map ρ)) lv/\lv.Nodup/\(∀ v∈lv,v ≠ .ref D)/\(∀ v∈lv,∃ A,v=.ref A/\H A=none)/\lv.length<=i/\(∀ l∈linesOf rk ((us.take i).map ρ),l.length<=i)/\∃ v3,σ=[some (.ref p),some (.ref d),some (.ref D),v3])
   ⟨s0,[],Ac,.nil,List.nodup_nil,(fun v hv=>nomatch hv),(fun v hv=>nomatch hv),Nat.le_refl _,(fun l hl=>nomatch hl),_,rfl⟩ (fun i σ H4 _ h=>h.1.seq hS) ?_ ?_⟩
  ·rintro i x σ H4 hx ⟨s4,lv,hd,hpr,nd,hne,hA0,hlv,hll,v3,rfl⟩
   have hm:=List.mem_of_getElem? hx
   have hi:i<us.length:=(List.getElem?_eq_some_iff.mp hx).1
   obtain ⟨r,rfl,hr0⟩:=(hR.mono s4) x hm
   have etake:(us.take (i+1)).map ρ=(us.take i).map ρ++[ρ (.ref r)]:=by
    rw [List.take_add_one,hx,List.map_append]
    rfl
   have est:linesOf rk ((us.take (i+1)).map ρ)=Ce rk (linesOf rk ((us.take i).map ρ)) (ρ (.ref r)):=by rw [etake,Bv]
   have lvl:(linesOf rk ((us.take i).map ρ)).length=lv.length:=hpr.length
   by_cases hk:Gd (ρ (.ref r)).w=true
   ·have hnl:¬ (ρ (.ref r)).w = "line":=fun z=>by rw [z] at hk; exact absurd hk (by decide +kernel)
    have est2:linesOf rk ((us.take (i+1)).map ρ)=linesOf rk ((us.take i).map ρ)++[[]]:=by rw [est]; unfold Ce; rw [if_pos hk]
    refine ⟨_,rfl,r,_,_,_,rfl,rfl,.inl (.inl hr0),Av (j:=0) rfl,aK,_,rfl,.inr (T.tK.sq _),rfl,rfl,_,rfl,?_⟩
    refine Bh (fun _=>?_) (fun z=>absurd hk z)
    refine ⟨_,rfl,.inl ⟨rfl,_,.inl (.inl hd)⟩,Ck (by simp),fun p5 hp5=>?_⟩
    obtain ⟨H5,eqH,s5,u5⟩:=Ht (o:=HO.lst []) hp5
    rw [eqH]
    have hd5:=s5 _ _ hd
    refine ⟨D,lv,_,rfl,rfl,hd5,BJ (by omega),?_⟩
    have hrD:r ≠ D:=UJ (s5 _ _ hr0) hd5 (by intro z; cases z)
    have hpD:p5 ≠ D:=fun z=>by rw [z,hd] at hp5; cases hp5
    refine ⟨_,rfl,r,_,_,_,rfl,rfl,.inl (.inl (by rw [Ar hrD]; exact s5 _ _ hr0)),Av (j:=0) rfl,rfl,_,rfl,?_⟩
    refine Bh (fun z=>absurd (V.str.inj (of_decide_eq_true z)) hnl) (fun _=>?_)
    refine ⟨fun b u e=>?_,lv++[.ref p5],Ac,?_,?_,?_,?_,by simp; omega,?_,_,rfl⟩
    ·rw [Ar (Am e hD)]
     exact s5 _ _ (s4 _ _ e)
    ·rw [est2]
     refine By (Eh hpr fun l v hv h=>Iw (h.mono s5) hd5 (hne v hv)) (.cons ⟨p5,[],rfl,by rw [Ar hpD]; exact u5,.nil⟩ .nil)
    ·refine Nh nd fun hm=>?_
     obtain ⟨l,_,hA⟩:=EY hpr hm
     obtain ⟨A,ts,e,h1,_⟩:=hA
     cases e
     rw [h1] at hp5
     cases hp5
    ·intro v hv
     rcases List.mem_append.mp hv with h | h
     ·exact hne v h
     ·rw [List.mem_singleton.mp h]
      intro z
      exact hpD (V.ref.inj z)
    ·intro v hv
     rcases List.mem_append.mp hv with h | h
     ·exact hA0 v h
     ·exact ⟨p5,List.mem_singleton.mp h,s4.free hp5⟩
    ·intro l hl'
     rw [est2] at hl'
     rcases List.mem_append.mp hl' with h | h
     ·exact Nat.le_succ_of_le (hll l h)
     ·rw [List.mem_singleton.mp h]
      exact Nat.zero_le _
   ·refine ⟨_,rfl,r,_,_,_,rfl,rfl,.inl (.inl hr0),Av (j:=0) rfl,aK,_,rfl,.inr (T.tK.sq _),rfl,rfl,_,rfl,?_⟩
    refine Bh (fun z=>absurd z hk) (fun _=>?_)
    refine ⟨_,rfl,r,_,_,_,rfl,rfl,.inl (.inl hr0),Av (j:=0) rfl,rfl,_,rfl,?_⟩
    by_cases hwl:(ρ (.ref r)).w = "line"
    ·refine Bh (fun _=>?_) (fun z=>absurd (decide_eq_true (congrArg V.str hwl)) z)
     obtain ⟨⟨j,rr,sh,lo,hi',hj,hnm,hrest⟩,u,hu,hku⟩:=hln i _ hx hwl
     have hne0:linesOf rk ((us.take i).map ρ) ≠ []:=Ks ⟨ρ u,List.mem_map_of_mem hu,hku⟩
     obtain ⟨ac,z,eac⟩:=Ec hne0
     rw [eac] at hpr
     obtain ⟨lv',v,rfl,hpr',hz⟩:=Gw hpr
     obtain ⟨A,ts,rfl,hA,htp⟩:=hz
     have est2:linesOf rk ((us.take (i+1)).map ρ)=ac++[z++[⟨j,sh,lo,hi'⟩]]:=by
      rw [est]
      unfold Ce
      rw [if_neg hk,if_pos hwl,eac,GX]
      unfold lnOf
      rw [hrest,← hnm,Vd hnd hj]
     have hr1:H4 r=some (.tup [.str (ρ (.ref r)).w,.str (ρ (.ref r)).nm,.int sh,.int lo,.int hi']):=by rw [hr0,← hrest]
     have g:=Lg.k (k:=Sum.inr rr.1) (s4 _ _ hdk)
     rw [hval j rr hj,hnm] at g
     have hAD:A ≠ D:=fun e=>hne (.ref A) (by simp) (by rw [e])
     have hzl:z.length<=i:=hll z (by rw [eac]; simp)
     have htl:=htp.length
     refine ⟨_,rfl,_,rfl,D,_,_,_,rfl,rfl,.inl (.inl hd),Ro lv' (V.ref A),.inl ⟨rfl,_,.inl (.inl hA)⟩,_,rfl,_,rfl,r,_,_,_,rfl,rfl,.inl (.inl hr1),Av (j:=1) rfl,d,_,rfl,g,_,rfl,r,_,_,_,rfl,rfl,.inl (.inl hr1),Av (j:=2) rfl,_,rfl,r,_,_,_,rfl,rfl,.inl (.inl hr1),Av (j:=3) rfl,_,rfl,r,_,_,_,rfl,rfl,.inl (.inl hr1),Av (j:=4) rfl,by show 4<=sizeLine; decide,fun T5 hT5=>?_⟩
     obtain ⟨H5,eqH,s5,u5⟩:=Ht (o:=HO.tup [.int (j:Nat),.int sh,.int lo,.int hi']) hT5
     rw [eqH]
     have hA5:=s5 _ _ hA
     have hTA:T5 ≠ A:=fun e=>by rw [e,hA] at hT5; cases hT5
     have hdj:D ≠ A:=fun e=>hAD e.symm
     obtain ⟨nd1,_,hdisj⟩:=List.nodup_append.mp nd
     refine ⟨A,ts,_,rfl,rfl,hA5,BJ (by omega),?_⟩
     refine ⟨fun b u e=>?_,lv'++[.ref A],by rw [Ar hdj]; exact s5 _ _ hd,?_,nd,hne,hA0,by omega,?_,_,rfl⟩
     ·obtain ⟨A',eA,hA'⟩:=hA0 (.ref A) (by simp)
      cases eA
      rw [Ar (Am e hA')]
      exact s5 _ _ (s4 _ _ e)
     ·rw [est2]
      refine By (Eh hpr' fun l v hv h=>Iw (h.mono s5) hA5 (fun e=>hdisj v hv _ (List.mem_singleton.mpr rfl) e)) (.cons ⟨A,ts++[.ref T5],rfl,Ac,By (D_ (Al s5 htp) hA5) (.cons ⟨T5,rfl,by rw [Ar hTA]; exact u5⟩ .nil)⟩ .nil)
     ·intro l hl'
      rw [est2] at hl'
      rcases List.mem_append.mp hl' with h | h
      ·exact Nat.le_succ_of_le (hll l (by rw [eac]; exact List.mem_append_left _ h))
      ·rw [List.mem_singleton.mp h,List.length_append,List.length_singleton]
       omega
    ·refine Bh (fun z=>absurd (V.str.inj (of_decide_eq_true z)) hwl) (fun _=>?_)
     have est2:linesOf rk ((us.take (i+1)).map ρ)=linesOf rk ((us.take i).map ρ):=by rw [est]; unfold Ce; rw [if_neg hk,if_neg hwl]
     rw [← est2] at hpr hll
     exact ⟨s4,lv,hd,hpr,nd,hne,hA0,by omega,fun l hl'=>Nat.le_succ_of_le (hll l hl'),_,rfl⟩
  ·rintro σ H4 ⟨s4,lv,hd,hpr,nd,hne,hA0,hlv,hll,v3,rfl⟩
   rw [List.take_length] at hpr
   have hDp:D ≠ p:=Ne.symm (Am hp hD)
   refine ⟨_,rfl,q D H4 hD s4 ⟨lv,hd,hDp,Eh hpr fun l v hv h=>⟨h,fun z=>?_⟩⟩⟩
   obtain ⟨A,e,hA⟩:=hA0 v hv
   rw [e] at z
   rw [V.ref.inj z,hp] at hA
   cases hA
noncomputable abbrev nV (l:List Nat):List V:=l.map fun n:Nat=>V.int (n:Int)
noncomputable def Yl:Sp:=fun vs H Q _=>∃ i:Int,vs=[.int i]/\Q (.bl (decide (0<=i) && decide (i<1200))) H
theorem Zy:Ax ["thing"] ["thing"] (Ae bZ):=Cg
include N T in
theorem X4:A_ P w K mg base B_ 2 aD.fMy aD.dMy ["thing"] Yl:=by
 have GWh:A_ P w K mg base B_ 1 aD.fWh aD.dWh ["thing"] VF:=Up N T
 refine N.FMy.1.ok Zy (fun vs H Q E h=>?_) (fun cdv A outer s H vs Q E hr h=>?_)
 ·obtain ⟨i,rfl,_⟩:=h
  rfl
 ·obtain ⟨i,rfl,q⟩:=h
  have hrWh:BZ 1 _:=hr.mono (by decide)
  obtain ⟨tMB,hMB⟩:=T.below
  refine ⟨_,(Ai (Ay (CJ (Ao GWh hrWh rfl N.FWh.2.2 N.FWh.1.kp N.FWh.2.1 .nil BL (Aa (pv 0) Ab)) (Cj (JL Gk Nb Ag (pv 0) (Bq (v:=.int 1200) rfl hMB ⟨tMB,rfl⟩)))))),?_⟩
  refine ⟨_,rfl,i,rfl,_,rfl,Dm ?_⟩
  refine ⟨_,rfl,_,_,rfl,rfl,_,rfl,?_⟩
  refine Bh (fun h1=>?_) (fun h1=>?_)
  ·rw [h1,Bool.true_and] at q
   exact ⟨_,_,rfl,rfl,q⟩
  ·rw [(Bool.not_eq_true _).mp h1,Bool.false_and] at q
   exact q
noncomputable def Xk:Sp:=fun vs H Q _=>∃ (p:Addr) (l:List Nat),vs=[.ref p]/\H p=some (.lst (nV l))/\l.length<=500/\(∀ n∈l,n<1200)/\∀ H',Aj H H'->Q (.int (Wd.mk l:Nat)) H'
theorem Yp (l:List Nat) (n:Nat):Builtin.bitOr ((Wd.mk l:Nat):Int) (1 * 2 ^ ((n:Nat):Int).toNat)=((Wd.mk (l++[n]):Nat):Int):=by
 rw [Int.one_mul,Int.toNat_natCast,QD,R_,Wd.S6]
theorem TV:Ax ["numbers","some","number"] ["numbers"] (Ae Y9):=Cg
include N T in
theorem Xo:A_ P w K mg base B_ 3 aD.fSt aD.dSt ["numbers"] Xk:=by
 have GMy:A_ P w K mg base B_ 2 aD.fMy aD.dMy ["thing"] Yl:=X4 N T
 refine N.FSt.1.ok TV (fun vs H Q E h=>?_) (fun cdv A outer s H vs Q E hr h=>?_)
 ·obtain ⟨p,l,rfl,_⟩:=h
  rfl
 ·obtain ⟨p,l,rfl,hp,hz,hb,q⟩:=h
  have hrMy:BZ 2 _:=hr.mono (by decide)
  refine ⟨_,(Ah (Br (PW.pt (Hs (Cq (Df (Aw CQ rfl T.isin PyProof.Rows.boot_isinstance (Aa (pv 0) (Aa (DR (v:=.ty "list") rfl T.list PyProof.Rows.boot_list rfl) Ab))))) (Gs (Cq (Df (Aw (G3 rfl) rfl T.all PyProof.Rows.boot_all (Aa (Ba rfl (Az (osc:=Ae Y9) (N:=["numbers","some","number"]) rfl rfl (by decide +kernel)) (CK (pv 0)) (fun _ _ _ _=>Bj) (fun _ _ _ _=>(Ao GMy hrMy rfl N.FMy.2.2 N.FMy.1.kp N.FMy.2.1 .nil BL (Aa (pv 0) Ab)))) Ab))))))) (Ai G_) BW)
   (Ah (CT (i:=1) TV.nd rfl (Or.inl rfl) Ag)
   (Ah (FT PassesOwn.never rfl (CK (pv 0)) (CG (i:=2) TV.nd rfl (Or.inl rfl)) (Ai (CT (i:=1) TV.nd rfl (Or.inl rfl) (BP Y0 (pv 1) (BP Vs Ag (pv 2))))))
   (Ai (Ay (pv 1)))))),?_⟩
  have hS:Cz K H p (nV l):=.inl (.inl hp)
  refine ⟨_,rfl,_,"list",_,_,rfl,.lst hp,NK,_,rfl,Eb ?_⟩
  have hzl:(nV l).length<sizeLine:=BJ (by simp; omega)
  refine ⟨_,rfl,p,rfl,⟨_,hS⟩,Di (K:=K) (xs:=nV l) (fun _=>true) (fun _=>.bl true) hS hzl (fun x hx H' hs R k=>k H' (Aj.refl H')) (fun x hx _ H' hs R k=>?_) (fun D H' hD hs hl=>?_)⟩
  ·obtain ⟨n,hn,rfl⟩:=List.mem_map.mp hx
   refine ⟨_,rfl,(n:Int),rfl,?_⟩
   have e:(decide ((0:Int)<=(n:Int)) && decide ((n:Int)<1200))=true:=by
    have:=hb n hn
    simp
    omega
   rw [e]
   exact k H' (Aj.refl H')
  ·refine ⟨D,(nV l).map fun _=>true,rfl,.inl (.inl ?_),?_⟩
   ·rw [hl,List.filter_eq_self.mpr (fun _ _=>rfl)]
    simp
   ·have e:((nV l).map fun _=>true).all id=true:=by simp
    rw [e]
    refine ⟨_,rfl,Eb ?_⟩
    refine ⟨_,rfl,p,rfl,⟨_,hs.seq hS⟩,JC (K:=K) (a:=p) (xs:=nV l) (fun i σ H4=>H4=H'/\∃ v2,σ=[some (.ref p),some (.int (Wd.mk (l.take i):Nat)),v2]) ⟨rfl,_,rfl⟩ (fun i σ H4 _ h=>by rw [h.1]; exact hs.seq hS) ?_ ?_⟩
    ·rintro i y σ H4 hi ⟨rfl,v2,rfl⟩
     rw [List.getElem?_map] at hi
     obtain ⟨n,hn,rfl⟩:=Option.map_eq_some_iff.mp hi
     have hn':=hb n (List.mem_of_getElem? hn)
     refine ⟨_,rfl,_,rfl,_,_,rfl,rfl,⟨by omega,by omega,by decide⟩,_,_,rfl,rfl,?_⟩
     refine ⟨rfl,some (.int (n:Int)),?_⟩
     dsimp only
     rw [Yp,List.take_add_one,hn]
     rfl
    ·rintro σ H4 ⟨rfl,v2,rfl⟩
     have el:l.take (nV l).length=l:=List.take_of_length_le (by simp)
     rw [el]
     exact ⟨_,rfl,q _ hs⟩
noncomputable def cu (nms:List Str):V->V
 | .str t=>.int (nms.idxOf t:Nat)
 | _=>.non
theorem O3 {nms:List Str} {t:Str} (h:t∈nms):nms[nms.idxOf t]? = some t:=by
 rw [List.getElem?_eq_getElem (List.idxOf_lt_length_of_mem h),List.getElem_idxOf]
noncomputable def YT:Sp:=fun vs H Q _=>∃ (r kd:Addr) (ro:R) (kvs:List (Key × V)) (nms ts:List Str),vs=[.ref r,.ref kd]/\H r=some (.tup ro.v)/\H kd=some (.dK kvs)/\V.str ro.nm::ro.rest=ts.map V.str/\ts.length<=24/\nms.length<=300/\(∀ (i:Nat) t,nms[i]? = some t->CP kvs (Sum.inr t)=some (.int (i:Nat)))/\(∀ t∈ts,t∈nms)/\∀ H',Aj H H'->Q (.int (Wd.mk (ts.map fun t=>nms.idxOf t):Nat)) H'
theorem Z5:Ax ["row","knob_numbers"] ["row","knob_numbers"] (Ae ZS):=Cg
include N T in
theorem X7:A_ P w K mg base B_ 4 aD.fSs aD.dSs ["row","knob_numbers"] YT:=by
 have GSt:A_ P w K mg base B_ 3 aD.fSt aD.dSt ["numbers"] Xk:=Xo N T
 refine N.FSs.1.ok Z5 (fun vs H Q E h=>?_) (fun cdv A outer s H vs Q E hr h=>?_)
 ·obtain ⟨r,kd,ro,kvs,nms,ts,rfl,_⟩:=h
  rfl
 ·obtain ⟨r,kd,ro,kvs,nms,ts,rfl,hr0,hkd,ets,h24,hnm,hval,hin,q⟩:=h
  have hrSt:BZ 3 _:=hr.mono (by decide)
  have hu:=RG hr
  refine ⟨_,(Ai (Ay (Ao GSt hrSt rfl N.FSt.2.2 N.FSt.1.kp N.FSt.2.1 .nil BL (Aa (Ba rfl (Az (osc:=Ae ZS) (N:=["row","knob_numbers"]) rfl rfl (by decide +kernel)) (Mp (Ea Mh (pv 0) (Ez Ag) Fd)) (fun _ _ _ _=>Bj) (fun _ _ _ _=>(Nz hu (pv 2) (pv 0) (fun _ _=>rfl)))) Ab)))),?_⟩
  have hv:ro.v=V.str ro.w::ts.map V.str:=by
   show V.str ro.w::(V.str ro.nm::ro.rest)=_
   rw [ets]
  rw [hv] at hr0
  have e1:HT.DG (V.str ro.w::ts.map V.str).length 0 (some 1)=1:=by
   rw [show (some (1:Int))=some ((1:Nat):Int) from rfl,HT.GZ]
   simp
  have hcut:Ds (V.str ro.w::ts.map V.str) (some 1) none=ts.map V.str:=by
   unfold Ds
   rw [e1,HT.Gz]
   simp
   exact List.take_of_length_le (by rw [List.length_map]; exact Nat.le_refl _)
  refine ⟨_,rfl,_,rfl,r,_,rfl,.inl (.inl hr0),?_,fun n0 hn0=>?_⟩
  ·rintro ⟨z,_⟩
   rw [e1] at z
   cases z
  rw [hcut]
  obtain ⟨H1,eqH,s1,a1⟩:=Ht (o:=HO.tup (ts.map V.str)) hn0
  rw [eqH]
  have hT:Fo K H1 n0 (ts.map V.str):=.inl (.inl a1)
  have ltm:(ts.map V.str).length=ts.length:=List.length_map ..
  refine ⟨n0,rfl,⟨_,hT⟩,LQ (K:=K) (xs:=ts.map V.str) (fun _=>true) (cu nms) hT (BJ (by omega)) (fun x hx H' hs R k=>k H' (Aj.refl H')) (fun x hx _ H' hs R k=>?_) (fun D H2 hD s2 hl2=>?_)⟩
  ·obtain ⟨t,ht,rfl⟩:=List.mem_map.mp hx
   have g:=Lg.k (k:=Sum.inr t) (hs _ _ (s1 _ _ hkd))
   rw [hval _ t (O3 (hin t ht))] at g
   exact ⟨_,rfl,_,rfl,kd,_,rfl,g,k H' (Aj.refl H')⟩
  ·rw [List.filter_eq_self.mpr (fun _ _=>rfl),List.map_map] at hl2
   have e2:ts.map (cu nms ∘ V.str)=nV (ts.map fun t=>nms.idxOf t):=by
    unfold nV
    rw [List.map_map]
    rfl
   rw [e2] at hl2
   refine ⟨D,_,rfl,hl2,by rw [List.length_map]; omega,fun n hn=>?_,fun H3 s3=>q H3 (s1.trans (s2.trans s3))⟩
   obtain ⟨t,ht,rfl⟩:=List.mem_map.mp hn
   have:=List.idxOf_lt_length_of_mem (hin t ht)
   omega
noncomputable abbrev Te:List Str:=["row_list","board_list","rank_list","knob_rows","board_numbers","rank_numbers","knob_numbers","key_places","pipe_places","knob_lines","step_sets"]
theorem DW:∀ m∈meths,∀ f∈Te,¬ m=f:=by decide +kernel
theorem Pa {rk:List (Str × Nat × Int)} {ρ:V->R} {us:List V} {P1:Nat->V->Prop} (h:∀ (i:Nat) v,us[i]? = some v->(ρ v).w = "line"->P1 i v/\∃ u∈us.take i,Gd (ρ u).w=true):(linesOf rk (us.map ρ)).length=(us.filter (fun v=>Gd (ρ v).w)).length:=by
 have key:∀ n,n<=us.length->(linesOf rk ((us.take n).map ρ)).length=((us.take n).filter (fun v=>Gd (ρ v).w)).length:=by
  intro n
  induction n with
  | zero=>intro _; rfl
  | succ n ih =>
   intro hn
   have hx:=List.getElem?_eq_getElem (l:=us) (i:=n) (by omega)
   rw [List.take_add_one,hx,List.map_append]
   show (linesOf rk ((us.take n).map ρ++[ρ us[n]])).length=((us.take n++[us[n]]).filter _).length
   rw [Bv,List.filter_append,List.length_append,← ih (by omega)]
   unfold Ce
   by_cases hk:Gd (ρ us[n]).w=true
   ·rw [if_pos hk,List.filter_cons,if_pos hk]
    simp
   ·rw [if_neg hk,List.filter_cons,if_neg hk]
    by_cases hl:(ρ us[n]).w = "line"
    ·rw [if_pos hl]
     obtain ⟨_,u,hu,hku⟩:=h n _ hx hl
     obtain ⟨a,z,e⟩:=Ec (Ks (rk:=rk) ⟨ρ u,List.mem_map_of_mem hu,hku⟩)
     rw [e,GX]
     simp
    ·rw [if_neg hl]
     simp
 have:=key us.length (Nat.le_refl _)
 rw [List.take_length] at this
 exact this
noncomputable def W7 (K:PySem.W.Frag) (aB aP aM C:Addr):Sp:=fun vs H Q _=>∃ (x dx p:Addr) (us:List V) (ρ:V->R) (bs:List (Str × Nat)) (rk:List (Str × Nat × Int)) (ks:List R),vs=[.ref x,.ref p]/\H x=some (.ins C dx [])/\H p=some (.lst us)/\Rows H ρ us/\dD K aB aP aM ρ us bs rk ks/\∀ H',Ql C H' x us bs rk ks (linesOf rk (us.map ρ)) ((us.filter (pw ρ "step")).map fun v=>stN ks (ρ v))->(∀ H'',SX p H' H''->Ql C H'' x us bs rk ks (linesOf rk (us.map ρ)) ((us.filter (pw ρ "step")).map fun v=>stN ks (ρ v)))->SX x H H'->Q .non H'
theorem Zd:Ax ["self","rows"] ["self","rows"] (Ae Qh):=Cg
include N T in
theorem W_:A_ P w K mg base B_ 9 aD.fOi aD.dOi ["self","rows"] (W7 K aB aP aM C):=by
 have GCk:A_ P w K mg base B_ 8 aD.fCk aD.dCk ["rows"] (YW K aB aP aM):=XH N T
 have GRo:A_ P w K mg base B_ 1 aD.fRo aD.dRo ["rows","word"] Li:=Jk N T
 have GNu:A_ P w K mg base B_ 1 aD.fNu aD.dNu ["names"] Wk:=Wj N T
 have GPl:A_ P w K mg base B_ 1 aD.fPl aD.dPl ["things"] We:=YK N T
 have GLi:A_ P w K mg base B_ 1 aD.fLi aD.dLi ["rows","rank_numbers"] Xq:=W6 N T
 have GSs:A_ P w K mg base B_ 4 aD.fSs aD.dSs ["row","knob_numbers"] YT:=X7 N T
 refine N.FOi.1.ok Zd (fun vs H Q E h=>?_) (fun cdv A outer s H vs Q E hr h=>?_)
 ·obtain ⟨x,dx,p,us,ρ,bs,rk,ks,rfl,_⟩:=h
  rfl
 ·obtain ⟨x,dx,p,us,ρ,bs,rk,ks,rfl,hx,hp,hR,O,q⟩:=h
  have hrCk:BZ 8 _:=hr.mono (by decide)
  have hrRo:BZ 1 _:=hr.mono (by decide)
  have hrNu:BZ 1 _:=hr.mono (by decide)
  have hrPl:BZ 1 _:=hr.mono (by decide)
  have hrLi:BZ 1 _:=hr.mono (by decide)
  have hrSs:BZ 4 _:=hr.mono (by decide)
  refine ⟨_,(Ah (HD (Ao GCk hrCk rfl N.FCk.2.2 N.FCk.1.kp N.FCk.2.1 .nil BL (Aa (pv 1) Ab)))
   (Ah (Dz (pv 0) (GD FP rfl T.list PyProof.Rows.boot_list (Aa (pv 1) Ab)) rfl)
   (Ah (Dz (pv 0) (Ba rfl (Az (osc:=Ae Qh) (N:=["self","rows"]) rfl rfl (by decide +kernel)) (CK (Ao GRo hrRo rfl N.FRo.2.2 N.FRo.1.kp N.FRo.2.1 .nil BL (Aa (pv 1) (Aa An Ab)))) (fun _ _ _ _=>Bj) (fun _ _ _ _=>(Bk (Aa (Bc (BK (K:=K) rfl) (pv 0) Ag (fun _ _=>rfl)) (Aa (Bc (BK (K:=K) rfl) (pv 0) Ag (fun _ _=>rfl)) Ab))))) rfl)
   (Ah (Dz (pv 0) (Ba rfl (Az (osc:=Ae Qh) (N:=["self","rows"]) rfl rfl (by decide +kernel)) (CK (Ao GRo hrRo rfl N.FRo.2.2 N.FRo.1.kp N.FRo.2.1 .nil BL (Aa (pv 1) (Aa An Ab)))) (fun _ _ _ _=>Bj) (fun _ _ _ _=>(Bk (Aa (Bc (BK (K:=K) rfl) (pv 0) Ag (fun _ _=>rfl)) (Aa (Bc (BK (K:=K) rfl) (pv 0) Ag (fun _ _=>rfl)) (Aa (Bc (BK (K:=K) rfl) (pv 0) Ag (fun _ _=>rfl)) Ab)))))) rfl)
   (Ah (Dz (pv 0) (Ba rfl (Az (osc:=Ae Qh) (N:=["self","rows"]) rfl rfl (by decide +kernel)) (CK (pv 1)) (fun _ _ _ _=>(MP (Bg (JK (K:=K) rfl) (Bc (BK (K:=K) rfl) (pv 0) Ag (fun _ _=>rfl)) (Bq (v:=.ref aK) rfl T.mK rfl) rfl))) (fun _ _ _ _=>(pv 0))) rfl)
   (Ah (Dz (pv 0) (Ao GNu hrNu rfl N.FNu.2.2 N.FNu.1.kp N.FNu.2.1 .nil BL (Aa (Ba rfl (Az (osc:=Ae Qh) (N:=["self","rows"]) rfl rfl (by decide +kernel)) (CK (FN (pv 0) rfl)) (fun _ _ _ _=>Bj) (fun _ _ _ _=>(Bc (BK (K:=K) rfl) (pv 0) Ag (fun _ _=>rfl)))) Ab)) rfl)
   (Ah (Dz (pv 0) (Ao GNu hrNu rfl N.FNu.2.2 N.FNu.1.kp N.FNu.2.1 .nil BL (Aa (Ba rfl (Az (osc:=Ae Qh) (N:=["self","rows"]) rfl rfl (by decide +kernel)) (CK (FN (pv 0) rfl)) (fun _ _ _ _=>Bj) (fun _ _ _ _=>(Bc (BK (K:=K) rfl) (pv 0) Ag (fun _ _=>rfl)))) Ab)) rfl)
   (Ah (Dz (pv 0) (Ao GNu hrNu rfl N.FNu.2.2 N.FNu.1.kp N.FNu.2.1 .nil BL (Aa (Ba rfl (Az (osc:=Ae Qh) (N:=["self","rows"]) rfl rfl (by decide +kernel)) (CK (FN (pv 0) rfl)) (fun _ _ _ _=>Bj) (fun _ _ _ _=>(Bc (BK (K:=K) rfl) (pv 0) Ag (fun _ _=>rfl)))) Ab)) rfl)
   (Ah (Dz (pv 0) (Ao GPl hrPl rfl N.FPl.2.2 N.FPl.1.kp N.FPl.2.1 .nil BL (Aa (FN (pv 0) rfl) Ab)) rfl)
   (Ah (Dz (pv 0) (Ao GPl hrPl rfl N.FPl.2.2 N.FPl.1.kp N.FPl.2.1 .nil BL (Aa (FN (pv 0) rfl) Ab)) rfl)
   (Ah (Dz (pv 0) (Ao GLi hrLi rfl N.FLi.2.2 N.FLi.1.kp N.FLi.2.1 .nil BL (Aa (pv 1) (Aa (FN (pv 0) rfl) Ab))) rfl)
   (Ai (Dz (pv 0) (Ba rfl (Az (osc:=Ae Qh) (N:=["self","rows"]) rfl rfl (by decide +kernel)) (CK (Ao GRo hrRo rfl N.FRo.2.2 N.FRo.1.kp N.FRo.2.1 .nil BL (Aa (pv 1) (Aa An Ab)))) (fun _ _ _ _=>Bj) (fun _ _ _ _=>(Ao GSs hrSs rfl N.FSs.2.2 N.FSs.1.kp N.FSs.2.1 .nil BL (Aa (pv 0) (Aa (Sg (K:=K) rfl (pv 1) rfl) Ab))))) rfl))))))))))))),?_⟩
  have hlen:=O.len
  obtain ⟨ur,hur⟩:∃ ur,us.filter (pw ρ "rank")=ur:=⟨_,rfl⟩
  have er:ur.map ρ=rk.map En:=by rw [← hur]; exact O.er
  have lr:ur.length=rk.length:=by have:=congrArg List.length er; simpa using this
  have inR:∀ {v},v∈ur->v∈us:=fun {v} hv=>by rw [← hur] at hv; exact (List.mem_filter.mp hv).1
  have ofR:∀ {v},v∈ur->∃ b∈rk,ρ v=En b:=fun {v} hv=>by
   have:ρ v∈rk.map En:=by rw [← er]; exact List.mem_map_of_mem hv
   obtain ⟨b,hb,e⟩:=List.mem_map.mp this
   exact ⟨b,hb,e.symm⟩
  obtain ⟨ub,hub⟩:∃ ub,us.filter (pw ρ "board")=ub:=⟨_,rfl⟩
  obtain ⟨uk,huk⟩:∃ uk,us.filter (fun v=>Gd (ρ v).w)=uk:=⟨_,rfl⟩
  have eb:ub.map ρ=bs.map Dy:=by rw [← hub]; exact O.eb
  have ek:uk.map ρ=ks:=by rw [← huk]; exact O.ek
  have lb:ub.length=bs.length:=by have:=congrArg List.length eb; simpa using this
  have lku:uk.length=ks.length:=by have:=congrArg List.length ek; simpa using this
  have inB:∀ {v},v∈ub->v∈us:=fun {v} hv=>by rw [← hub] at hv; exact (List.mem_filter.mp hv).1
  have inKn:∀ {v},v∈uk->v∈us:=fun {v} hv=>by rw [← huk] at hv; exact (List.mem_filter.mp hv).1
  have ofB:∀ {v},v∈ub->∃ b∈bs,ρ v=Dy b:=fun {v} hv=>by
   have:ρ v∈bs.map Dy:=by rw [← eb]; exact List.mem_map_of_mem hv
   obtain ⟨b,hb,e⟩:=List.mem_map.mp this
   exact ⟨b,hb,e.symm⟩
  have l1us:1<=us.length:=by
   have h1:=O.b0
   have h2:ub.length<=us.length:=by rw [← hub]; exact List.length_filter_le _ _
   omega
  refine ⟨_,rfl,p,us,ρ,rfl,hp,hR,l1us,by omega,(fun i v h=>Dc.Yw (O.ok i v h)),?_,fun H1 s1=>?_⟩
  ·rw [hub]
   cases ub with
   | nil =>
    have:=O.b0
    simp at lb
    omega
   | cons a b=>rfl
  have c1:SX x H H1:=SX.of s1
  have x1:=s1 _ _ hx
  refine ⟨_,rfl,p,_,rfl,.inl (.inl (.inl (s1 _ _ hp))),fun l1 hl1=>?_⟩
  have nl1:l1 ≠ p:=Ne.symm (Am (s1 _ _ hp) hl1)
  obtain ⟨H2,eqH,s2,rw2⟩:=Ht (o:=HO.lst us) hl1
  rw [eqH]
  refine ⟨_,rfl,x,C,dx,_,rfl,s2 _ _ x1,T.cl,T.n_row_list,(by show 0<1000; decide),?_⟩
  have c2:SX x H _:=(c1.trans (SX.of s2)).trans (SX.up (o:=HO.ins C dx (BR "row_list" (.ref l1) [])))
  have x2:upd H2 x (HO.ins C dx (BR "row_list" (.ref l1) [])) x=_:=Ac
  have rw3:=(SX.up (o:=HO.ins C dx (BR "row_list" (.ref l1) [])):SX x H2 _).lst (s2 _ _ x1) rw2
  generalize upd H2 x (HO.ins C dx (BR "row_list" (.ref l1) []))=H3 at c2 x2 rw3 ⊢
  have c0:=c2
  replace hR:Rows H3 ρ us:=fun v hv=>c2.tup hx (hR v hv)
  replace hp:=c2.lst hx hp
  clear c2
  replace hx:=x2
  have c2:SX x H3 H3:=SX.of (Aj.refl _)
  have R3:Rows H3 ρ us:=fun v hv=>c2.tup hx (hR v hv)
  refine ⟨_,rfl,p,_,"board",ρ,rfl,c2.lst hx hp,R3,by omega,fun D4 H4 hD4 s4 hl4=>?_⟩
  rw [hub] at hl4
  have hS4:Cz K H4 D4 ub:=.inl (.inl hl4)
  refine ⟨D4,rfl,⟨_,hS4⟩,Kc (K:=K) (xs:=ub) (fun _=>true) (fun v=>[.str (ρ v).nm,(ρ v).rest.getD 0 .non]) hS4 (BJ (by have:=O.b5; omega)) (fun y hy H' hs R k=>k H' (Aj.refl H')) (fun y hy _ H' hs R k=>?_) (fun D5 H5 bvs hD5 s5 hl5 hb5=>?_)⟩
  ·obtain ⟨b,_,e⟩:=ofB hy
   have hT:=(R3 y (inB hy)).mono (s4.trans hs)
   rw [e] at hT k
   obtain ⟨T0,rfl,hT⟩:=hT
   exact ⟨_,rfl,T0,_,_,_,rfl,rfl,.inl (.inl hT),Av (j:=1) rfl,_,rfl,T0,_,_,_,rfl,rfl,.inl (.inl hT),Av (j:=2) rfl,by show 2<=sizeLine; decide,fun T6 hT6=>k _ _ (Ak hT6) ⟨T6,rfl,Ac⟩⟩
  rw [List.filter_eq_self.mpr (fun _ _=>rfl)] at hb5
  have hb5':Paired (fun b y=>TupAt H5 (bV b) y) bs bvs:=by
   have h1:=Bl (F:=fun (r:R) y=>TupAt H5 [.str r.nm,r.rest.getD 0 .non] y) ρ hb5
   rw [eb] at h1
   exact Es Dy h1
  clear hb5
  refine ⟨_,rfl,x,C,dx,_,rfl,s5 _ _ (s4 _ _ x2),T.cl,T.n_board_list,Nat.lt_of_le_of_lt (Bf _ _ _) (by show 1<1000; decide),?_⟩
  have u6:SX x H5 _:=SX.up (o:=HO.ins C dx (BR "board_list" (.ref D5) (BR "row_list" (.ref l1) [])))
  have x5:=s5 _ _ (s4 _ _ x2)
  have c6:=(c2.trans (SX.of (s4.trans s5))).trans u6
  have x6:upd H5 x (HO.ins C dx (BR "board_list" (.ref D5) (BR "row_list" (.ref l1) []))) x=_:=Ac
  have hl6:=u6.lst x5 hl5
  have hb6:=u6.pair x5 hb5'
  generalize upd H5 x (HO.ins C dx (BR "board_list" (.ref D5) (BR "row_list" (.ref l1) [])))=H6 at c6 x6 hl6 hb6 ⊢
  clear u6
  have R6:Rows H6 ρ us:=fun v hv=>c6.tup hx (hR v hv)
  refine ⟨_,rfl,p,_,"rank",ρ,rfl,c6.lst hx hp,R6,by omega,fun D7 H7 hD7 s7 hl7=>?_⟩
  rw [hur] at hl7
  have hS7:Cz K H7 D7 ur:=.inl (.inl hl7)
  refine ⟨D7,rfl,⟨_,hS7⟩,Kc (K:=K) (xs:=ur) (fun _=>true) (fun v=>[.str (ρ v).nm,(ρ v).rest.getD 0 .non,(ρ v).rest.getD 1 .non]) hS7 (BJ (by have:=O.nr; omega)) (fun y hy H' hs R k=>k H' (Aj.refl H')) (fun y hy _ H' hs R k=>?_) (fun D8 H8 rvs hD8 s8 hl8 hr8=>?_)⟩
  ·obtain ⟨b,_,e⟩:=ofR hy
   have hT:=(R6 y (inR hy)).mono (s7.trans hs)
   rw [e] at hT k
   obtain ⟨T0,rfl,hT⟩:=hT
   exact ⟨_,rfl,T0,_,_,_,rfl,rfl,.inl (.inl hT),Av (j:=1) rfl,_,rfl,T0,_,_,_,rfl,rfl,.inl (.inl hT),Av (j:=2) rfl,_,rfl,T0,_,_,_,rfl,rfl,.inl (.inl hT),Av (j:=3) rfl,by show 3<=sizeLine; decide,fun T6 hT6=>k _ _ (Ak hT6) ⟨T6,rfl,Ac⟩⟩
  rw [List.filter_eq_self.mpr (fun _ _=>rfl)] at hr8
  have hr8':Paired (fun (a:Th) y=>TupAt H8 (tV a) y) (rk.map WY) rvs:=by
   have h1:=Bl (F:=fun (r:R) y=>TupAt H8 [.str r.nm,r.rest.getD 0 .non,r.rest.getD 1 .non] y) ρ hr8
   rw [er] at h1
   exact Bl (F:=fun (a:Th) y=>TupAt H8 (tV a) y) WY (Es En h1)
  clear hr8
  refine ⟨_,rfl,x,C,dx,_,rfl,s8 _ _ (s7 _ _ x6),T.cl,T.n_rank_list,Nat.lt_of_le_of_lt (Nat.le_trans (Bf _ _ _) (Nat.succ_le_succ (Bf _ _ _))) (by show 2<1000; decide),?_⟩
  have s68:=s7.trans s8
  have x8:=s68 _ _ x6
  have c8:=c6.trans (SX.of s68)
  have hl8b:=s68 _ _ hl6
  have hb8:=Al s68 hb6
  have u9:SX x H8 _:=SX.up (o:=HO.ins C dx (BR "rank_list" (.ref D8) (BR "board_list" (.ref D5) (BR "row_list" (.ref l1) []))))
  have x9:upd H8 x (HO.ins C dx (BR "rank_list" (.ref D8) (BR "board_list" (.ref D5) (BR "row_list" (.ref l1) [])))) x=_:=Ac
  have c9:=c8.trans u9
  have bl9:=u9.lst x8 hl8b
  have bp9:=u9.pair x8 hb8
  have rl9:=u9.lst x8 hl8
  have rp9:=u9.pair x8 hr8'
  generalize hf9:BR "rank_list" (.ref D8) (BR "board_list" (.ref D5) (BR "row_list" (.ref l1) []))=f9 at x9 c9 bl9 bp9 rl9 rp9 u9 ⊢
  generalize upd H8 x (HO.ins C dx f9)=H9 at x9 c9 bl9 bp9 rl9 rp9 ⊢
  have n9:f9.length<=3:=by rw [← hf9]; exact Nat.le_trans (Bf _ _ _) (Nat.succ_le_succ (Nat.le_trans (Bf _ _ _) (Nat.succ_le_succ (Bf _ _ _))))
  have lb9:f9.lookup ("board_list" : Str)=some (.ref D5):=by rw [← hf9,Af,if_neg (by decide +kernel),Af,if_pos rfl]
  have lw9:f9.lookup ("row_list" : Str)=some (.ref l1):=by rw [← hf9,Af,if_neg (by decide +kernel),Af,if_neg (by decide +kernel),Af,if_pos rfl]
  have lr9:f9.lookup ("rank_list" : Str)=some (.ref D8):=by rw [← hf9,Af,if_pos rfl]
  have no9:∀ m∈meths,f9.lookup m=none:=fun m hm=>by
   rw [← hf9,Af,if_neg (DW m hm _ (by decide +kernel)),Af,if_neg (DW m hm _ (by decide +kernel)),Af,if_neg (DW m hm _ (by decide +kernel))]
   rfl
  clear u9 hf9
  have R9:Rows H9 ρ us:=fun v hv=>c9.tup hx (hR v hv)
  have hS9:Cz K H9 p us:=.inl (.inl (c9.lst hx hp))
  refine ⟨_,rfl,p,rfl,⟨_,hS9⟩,Di (K:=K) (xs:=us) (fun v=>Gd (ρ v).w) id hS9 (BJ (by omega)) (fun y hy H' hs R k=>?_) (fun y hy _ H' hs R k=>⟨_,rfl,k H' (Aj.refl H')⟩) (fun D10 H10 hD10 s10 hl10=>?_)⟩
  ·obtain ⟨T0,rfl,hT⟩:=(R9.mono hs) y hy
   exact ⟨_,rfl,T0,_,_,_,rfl,rfl,.inl (.inl hT),Av (j:=0) rfl,aK,_,rfl,.inr (T.tK.sq _),rfl,rfl,_,rfl,k H' (Aj.refl H')⟩
  rw [List.map_id,huk] at hl10
  refine ⟨_,rfl,x,C,dx,_,rfl,s10 _ _ x9,T.cl,T.n_knob_rows,by omega,?_⟩
  have x10:=s10 _ _ x9
  have u11:SX x H10 _:=SX.up (o:=HO.ins C dx (BR "knob_rows" (.ref D10) f9))
  have x11:upd H10 x (HO.ins C dx (BR "knob_rows" (.ref D10) f9)) x=_:=Ac
  have c11:=(c9.trans (SX.of s10)).trans u11
  have bl11:=u11.lst x10 (s10 _ _ bl9)
  have bp11:=u11.pair x10 (Al s10 bp9)
  have rl11:=u11.lst x10 (s10 _ _ rl9)
  have rp11:=u11.pair x10 (Al s10 rp9)
  have Dg:=u11.lst x10 hl10
  generalize upd H10 x (HO.ins C dx (BR "knob_rows" (.ref D10) f9))=H11 at x11 c11 bl11 bp11 rl11 rp11 Dg ⊢
  clear u11
  have hul:=bp11.length
  have hS11:Cz K H11 D5 bvs:=.inl (.inl bl11)
  refine ⟨_,rfl,x,C,dx,_,_,rfl,x11,T.cl,T.n_board_list,(by rw [Af,if_neg (by decide +kernel)]; exact lb9),D5,rfl,⟨_,hS11⟩,Di (K:=K) (xs:=bvs) (fun _=>true) (Rv H11 0) hS11 (BJ (by have:=O.b5; omega)) (fun y hy H' hs R k=>k H' (Aj.refl H')) (fun y hy _ H' hs R k=>?_) (fun D12 H12 hD12 s12 hl12=>?_)⟩
  ·obtain ⟨b,_,hx'⟩:=EY bp11 hy
   have e:=J7 hx' 0
   obtain ⟨T0,rfl,hT⟩:=hx'.mono hs
   refine ⟨_,rfl,T0,_,_,_,rfl,rfl,.inl (.inl hT),Av (j:=0) rfl,?_⟩
   have:=k H' (Aj.refl H')
   rw [e] at this
   exact this
  rw [List.filter_eq_self.mpr (fun _ _=>rfl),NP 0 bp11] at hl12
  have e12:(bs.map fun b=>(bV b).getD 0 V.non)=(bs.map (·.1)).map V.str:=by
   rw [List.map_map]
   rfl
  rw [e12] at hl12
  refine ⟨D12,_,rfl,hl12,by rw [List.length_map]; have:=O.b5; omega,O.nb,fun D13 kvs H13 hD13 s13 hl13 hv13 hw13=>?_⟩
  have s1113:=s12.trans s13
  have x13:=s1113 _ _ x11
  refine ⟨_,rfl,x,C,dx,_,rfl,x13,T.cl,T.n_board_numbers,Nat.lt_of_le_of_lt (Bf _ _ _) (by omega),?_⟩
  have u14:SX x H13 _:=SX.up (o:=HO.ins C dx (BR "board_numbers" (.ref D13) (BR "knob_rows" (.ref D10) f9)))
  have x14:upd H13 x (HO.ins C dx (BR "board_numbers" (.ref D13) (BR "knob_rows" (.ref D10) f9))) x=_:=Ac
  have c14:=(c11.trans (SX.of s1113)).trans u14
  have bl14:=u14.lst x13 (s1113 _ _ bl11)
  have bp14:=u14.pair x13 (Al s1113 bp11)
  have rl14:=u14.lst x13 (s1113 _ _ rl11)
  have rp14:=u14.pair x13 (Al s1113 rp11)
  have kr14:=u14.lst x13 (s1113 _ _ Dg)
  have bn14:=u14.dk x13 hl13
  generalize upd H13 x (HO.ins C dx (BR "board_numbers" (.ref D13) (BR "knob_rows" (.ref D10) f9)))=H14 at x14 c14 bl14 bp14 rl14 rp14 kr14 bn14 ⊢
  clear u14
  have hrl:=rp14.length
  rw [List.length_map] at hrl
  have hS14:Cz K H14 D8 rvs:=.inl (.inl rl14)
  refine ⟨_,rfl,x,C,dx,_,_,rfl,x14,T.cl,T.n_rank_list,(by rw [Af,if_neg (by decide +kernel),Af,if_neg (by decide +kernel)]; exact lr9),D8,rfl,⟨_,hS14⟩,Di (K:=K) (xs:=rvs) (fun _=>true) (Rv H14 0) hS14 (BJ (by have:=O.nr; omega)) (fun y hy H' hs R k=>k H' (Aj.refl H')) (fun y hy _ H' hs R k=>?_) (fun D15 H15 hD15 s15 hl15=>?_)⟩
  ·obtain ⟨b,_,hx'⟩:=EY rp14 hy
   have e:=J7 hx' 0
   obtain ⟨T0,rfl,hT⟩:=hx'.mono hs
   refine ⟨_,rfl,T0,_,_,_,rfl,rfl,.inl (.inl hT),Av (j:=0) rfl,?_⟩
   have:=k H' (Aj.refl H')
   rw [e] at this
   exact this
  rw [List.filter_eq_self.mpr (fun _ _=>rfl),NP 0 rp14] at hl15
  have e15:((rk.map WY).map fun b=>(tV b).getD 0 V.non)=(rk.map (·.1)).map V.str:=by
   rw [List.map_map,List.map_map]
   rfl
  rw [e15] at hl15
  refine ⟨D15,_,rfl,hl15,by rw [List.length_map]; have:=O.nr; omega,O.nrr,fun D16 kvs16 H16 hD16 s16 hl16 hv16 hw16=>?_⟩
  have s1416:=s15.trans s16
  have x16:=s1416 _ _ x14
  refine ⟨_,rfl,x,C,dx,_,rfl,x16,T.cl,T.n_rank_numbers,Nat.lt_of_le_of_lt (Nat.le_trans (Bf _ _ _) (Nat.succ_le_succ (Bf _ _ _))) (by omega),?_⟩
  have u17:SX x H16 _:=SX.up (o:=HO.ins C dx (BR "rank_numbers" (.ref D16) (BR "board_numbers" (.ref D13) (BR "knob_rows" (.ref D10) f9))))
  have x17:upd H16 x (HO.ins C dx (BR "rank_numbers" (.ref D16) (BR "board_numbers" (.ref D13) (BR "knob_rows" (.ref D10) f9)))) x=_:=Ac
  have c17:=(c14.trans (SX.of s1416)).trans u17
  have bl17:=u17.lst x16 (s1416 _ _ bl14)
  have bp17:=u17.pair x16 (Al s1416 bp14)
  have rl17:=u17.lst x16 (s1416 _ _ rl14)
  have rp17:=u17.pair x16 (Al s1416 rp14)
  have kr17:=u17.lst x16 (s1416 _ _ kr14)
  have bn17:=u17.dk x16 (s1416 _ _ bn14)
  have rn17:=u17.dk x16 hl16
  generalize hf17:BR "rank_numbers" (.ref D16) (BR "board_numbers" (.ref D13) (BR "knob_rows" (.ref D10) f9))=f17 at x17 c17 bl17 bp17 rl17 rp17 kr17 bn17 rn17 u17 ⊢
  generalize upd H16 x (HO.ins C dx f17)=H17 at x17 c17 bl17 bp17 rl17 rp17 kr17 bn17 rn17 ⊢
  have n17:f17.length<=6:=by rw [← hf17]; exact Nat.le_trans (Bf _ _ _) (Nat.succ_le_succ (Nat.le_trans (Bf _ _ _) (Nat.succ_le_succ (Nat.le_trans (Bf _ _ _) (Nat.succ_le_succ n9)))))
  have lb17:f17.lookup ("board_list" : Str)=some (.ref D5):=by rw [← hf17,Af,if_neg (by decide +kernel),Af,if_neg (by decide +kernel),Af,if_neg (by decide +kernel)]; exact lb9
  have lw17:f17.lookup ("row_list" : Str)=some (.ref l1):=by rw [← hf17,Af,if_neg (by decide +kernel),Af,if_neg (by decide +kernel),Af,if_neg (by decide +kernel)]; exact lw9
  have lr17:f17.lookup ("rank_list" : Str)=some (.ref D8):=by rw [← hf17,Af,if_neg (by decide +kernel),Af,if_neg (by decide +kernel),Af,if_neg (by decide +kernel)]; exact lr9
  have lrn17:f17.lookup ("rank_numbers" : Str)=some (.ref D16):=by rw [← hf17,Af,if_pos rfl]
  have lbn17:f17.lookup ("board_numbers" : Str)=some (.ref D13):=by rw [← hf17,Af,if_neg (by decide +kernel),Af,if_pos rfl]
  have lkr17:f17.lookup ("knob_rows" : Str)=some (.ref D10):=by rw [← hf17,Af,if_neg (by decide +kernel),Af,if_neg (by decide +kernel),Af,if_pos rfl]
  have no17:∀ m∈meths,f17.lookup m=none:=fun m hm=>by
   rw [← hf17,Af,if_neg (DW m hm _ (by decide +kernel)),Af,if_neg (DW m hm _ (by decide +kernel)),Af,if_neg (DW m hm _ (by decide +kernel))]
   exact no9 m hm
  clear u17 hf17
  have hS17:Cz K H17 D10 uk:=.inl (.inl kr17)
  have R17:Rows H17 ρ us:=fun v hv=>c17.tup hx (hR v hv)
  refine ⟨_,rfl,x,C,dx,_,_,rfl,x17,T.cl,T.n_knob_rows,lkr17,D10,rfl,⟨_,hS17⟩,Di (K:=K) (xs:=uk) (fun _=>true) (fun v=>.str (ρ v).nm) hS17 (BJ (by have:=O.nk; omega)) (fun y hy H' hs R k=>k H' (Aj.refl H')) (fun y hy _ H' hs R k=>?_) (fun D18 H18 hD18 s18 hl18=>?_)⟩
  ·obtain ⟨T0,rfl,hT⟩:=(R17.mono hs) y (inKn hy)
   exact ⟨_,rfl,T0,_,_,_,rfl,rfl,.inl (.inl hT),Av (j:=1) rfl,k H' (Aj.refl H')⟩
  rw [List.filter_eq_self.mpr (fun _ _=>rfl)] at hl18
  have e18:(uk.map fun v=>V.str (ρ v).nm)=(ks.map (·.nm)).map V.str:=by
   rw [← ek,List.map_map,List.map_map]
   rfl
  rw [e18] at hl18
  refine ⟨D18,_,rfl,hl18,by rw [List.length_map]; have:=O.nk; omega,O.nn,fun D19 kvs19 H19 hD19 s19 hl19 hv19 hw19=>?_⟩
  have s1719:=s18.trans s19
  have x19:=s1719 _ _ x17
  refine ⟨_,rfl,x,C,dx,_,rfl,x19,T.cl,T.n_knob_numbers,by omega,?_⟩
  have u20:SX x H19 _:=SX.up (o:=HO.ins C dx (BR "knob_numbers" (.ref D19) f17))
  have x20:upd H19 x (HO.ins C dx (BR "knob_numbers" (.ref D19) f17)) x=_:=Ac
  have c20:=(c17.trans (SX.of s1719)).trans u20
  have bl20:=u20.lst x19 (s1719 _ _ bl17)
  have bp20:=u20.pair x19 (Al s1719 bp17)
  have rl20:=u20.lst x19 (s1719 _ _ rl17)
  have rp20:=u20.pair x19 (Al s1719 rp17)
  have kr20:=u20.lst x19 (s1719 _ _ kr17)
  have kn20:=u20.dk x19 hl19
  have bn20:=u20.dk x19 (s1719 _ _ bn17)
  have rn20:=u20.dk x19 (s1719 _ _ rn17)
  generalize upd H19 x (HO.ins C dx (BR "knob_numbers" (.ref D19) f17))=H20 at x20 c20 bl20 bp20 rl20 rp20 kr20 bn20 rn20 kn20 ⊢
  clear u20
  refine ⟨_,rfl,x,C,dx,_,_,rfl,x20,T.cl,T.n_board_list,(by rw [Af,if_neg (by decide +kernel)]; exact lb17),D5,bs.map Zk,bvs,rfl,bl20,Bl (F:=fun (a:Th) y=>TupAt H20 (tV a) y) Zk bp20,(by rw [List.length_map]; have:=O.b5; omega),(fun a ha=>by obtain ⟨b,hb,rfl⟩:=List.mem_map.mp ha; have:=O.sz b hb; show b.2<=97; omega),fun D21 pvs H21 hD21 s21 hl21 hp21=>?_⟩
  have e21:(bs.map Zk).map tN=bs:=by
   rw [List.map_map]
   exact List.map_id bs
  rw [e21] at hp21
  have x21:=s21 _ _ x20
  refine ⟨_,rfl,x,C,dx,_,rfl,x21,T.cl,T.n_key_places,Nat.lt_of_le_of_lt (Bf _ _ _) (by omega),?_⟩
  have u22:SX x H21 _:=SX.up (o:=HO.ins C dx (BR "key_places" (.ref D21) (BR "knob_numbers" (.ref D19) f17)))
  have x22:upd H21 x (HO.ins C dx (BR "key_places" (.ref D21) (BR "knob_numbers" (.ref D19) f17))) x=_:=Ac
  have c22:=(c20.trans (SX.of s21)).trans u22
  have bl22:=u22.lst x21 (s21 _ _ bl20)
  have bp22:=u22.pair x21 (Al s21 bp20)
  have rl22:=u22.lst x21 (s21 _ _ rl20)
  have rp22:=u22.pair x21 (Al s21 rp20)
  have kr22:=u22.lst x21 (s21 _ _ kr20)
  have kn22:=u22.dk x21 (s21 _ _ kn20)
  have bn22:=u22.dk x21 (s21 _ _ bn20)
  have rn22:=u22.dk x21 (s21 _ _ rn20)
  have kp22:=u22.lst x21 hl21
  have kq22:=u22.pair x21 hp21
  generalize upd H21 x (HO.ins C dx (BR "key_places" (.ref D21) (BR "knob_numbers" (.ref D19) f17)))=H22 at x22 c22 bl22 bp22 rl22 rp22 kr22 bn22 rn22 kp22 kq22 kn22 ⊢
  clear u22
  refine ⟨_,rfl,x,C,dx,_,_,rfl,x22,T.cl,T.n_rank_list,(by rw [Af,if_neg (by decide +kernel),Af,if_neg (by decide +kernel)]; exact lr17),D8,rk.map WY,rvs,rfl,rl22,rp22,(by rw [List.length_map]; exact O.nr),(fun a ha=>by obtain ⟨r,hr,rfl⟩:=List.mem_map.mp ha; exact O.nz r hr),fun D23 qvs H23 hD23 s23 hl23 hp23=>?_⟩
  have e23:(rk.map WY).map tN=rk.map cj:=by
   rw [List.map_map]
   rfl
  rw [e23] at hp23
  have x23:=s23 _ _ x22
  refine ⟨_,rfl,x,C,dx,_,rfl,x23,T.cl,T.n_pipe_places,Nat.lt_of_le_of_lt (Nat.le_trans (Bf _ _ _) (Nat.succ_le_succ (Bf _ _ _))) (by omega),?_⟩
  have u24:SX x H23 _:=SX.up (o:=HO.ins C dx (BR "pipe_places" (.ref D23) (BR "key_places" (.ref D21) (BR "knob_numbers" (.ref D19) f17))))
  have x24:upd H23 x (HO.ins C dx (BR "pipe_places" (.ref D23) (BR "key_places" (.ref D21) (BR "knob_numbers" (.ref D19) f17)))) x=_:=Ac
  have c24:=(c22.trans (SX.of s23)).trans u24
  have bl24:=u24.lst x23 (s23 _ _ bl22)
  have bp24:=u24.pair x23 (Al s23 bp22)
  have kr24:=u24.lst x23 (s23 _ _ kr22)
  have rl24:=u24.lst x23 (s23 _ _ rl22)
  have rp24:=u24.pair x23 (Al s23 rp22)
  have pp24:=u24.lst x23 hl23
  have pq24:=u24.pair x23 hp23
  have kn24:=u24.dk x23 (s23 _ _ kn22)
  have bn24:=u24.dk x23 (s23 _ _ bn22)
  have rn24:=u24.dk x23 (s23 _ _ rn22)
  have kp24:=u24.lst x23 (s23 _ _ kp22)
  have kq24:=u24.pair x23 (Al s23 kq22)
  generalize hf24:BR "pipe_places" (.ref D23) (BR "key_places" (.ref D21) (BR "knob_numbers" (.ref D19) f17))=f24 at x24 c24 bl24 bp24 kr24 rl24 rp24 pp24 pq24 bn24 rn24 kp24 kq24 u24 kn24 ⊢
  generalize upd H23 x (HO.ins C dx f24)=H24 at x24 c24 bl24 bp24 kr24 rl24 rp24 pp24 pq24 bn24 rn24 kp24 kq24 kn24 ⊢
  have n24:f24.length<=9:=by rw [← hf24]; exact Nat.le_trans (Bf _ _ _) (Nat.succ_le_succ (Nat.le_trans (Bf _ _ _) (Nat.succ_le_succ (Nat.le_trans (Bf _ _ _) (Nat.succ_le_succ n17)))))
  have old24:∀ {f:Str} {v:V},¬ f = "pipe_places"->¬ f = "key_places"->¬ f = "knob_numbers"->f17.lookup f=some v->f24.lookup f=some v:=fun h1 h2 h3 h=>by
   rw [← hf24,Af,if_neg h1,Af,if_neg h2,Af,if_neg h3]; exact h
  have lb24:=old24 (by decide +kernel) (by decide +kernel) (by decide +kernel) lb17
  have lbn24:=old24 (by decide +kernel) (by decide +kernel) (by decide +kernel) lbn17
  have lw24:=old24 (by decide +kernel) (by decide +kernel) (by decide +kernel) lw17
  have lkn24:f24.lookup ("knob_numbers" : Str)=some (.ref D19):=by rw [← hf24,Af,if_neg (by decide +kernel),Af,if_neg (by decide +kernel),Af,if_pos rfl]
  have lr24:=old24 (by decide +kernel) (by decide +kernel) (by decide +kernel) lr17
  have lpp24:f24.lookup ("pipe_places" : Str)=some (.ref D23):=by rw [← hf24,Af,if_pos rfl]
  have lrn24:=old24 (by decide +kernel) (by decide +kernel) (by decide +kernel) lrn17
  have lkr24:=old24 (by decide +kernel) (by decide +kernel) (by decide +kernel) lkr17
  have lkp24:f24.lookup ("key_places" : Str)=some (.ref D21):=by rw [← hf24,Af,if_neg (by decide +kernel),Af,if_pos rfl]
  have no24:∀ m∈meths,f24.lookup m=none:=fun m hm=>by
   rw [← hf24,Af,if_neg (DW m hm _ (by decide +kernel)),Af,if_neg (DW m hm _ (by decide +kernel)),Af,if_neg (DW m hm _ (by decide +kernel))]
   exact no17 m hm
  clear u24 hf24 old24
  have R24:Rows H24 ρ us:=fun v hv=>c24.tup hx (hR v hv)
  refine ⟨_,rfl,_,rfl,x,C,dx,_,_,rfl,x24,T.cl,T.n_rank_numbers,lrn24,p,D16,us,ρ,rk,kvs16,rfl,c24.lst hx hp,R24,by omega,rn24,(fun i r hr=>hv16 i r.1 (by rw [List.getElem?_map,hr]; rfl)),O.nrr,O.ln,fun D25 H25 hD25 s25 hl25=>?_⟩
  have x25:=s25 _ _ x24
  refine ⟨_,rfl,x,C,dx,_,rfl,x25,T.cl,T.n_knob_lines,by omega,?_⟩
  have u26:SX x H25 _:=SX.up (o:=HO.ins C dx (BR "knob_lines" (.ref D25) f24))
  have x26:upd H25 x (HO.ins C dx (BR "knob_lines" (.ref D25) f24)) x=_:=Ac
  have c26:=(c24.trans (SX.of s25)).trans u26
  have bl26:=u26.lst x25 (s25 _ _ bl24)
  have bp26:=u26.pair x25 (Al s25 bp24)
  have kr26:=u26.lst x25 (s25 _ _ kr24)
  have rl26:=u26.lst x25 (s25 _ _ rl24)
  have rp26:=u26.pair x25 (Al s25 rp24)
  have pp26:=u26.lst x25 (s25 _ _ pp24)
  have pq26:=u26.pair x25 (Al s25 pq24)
  have ln26:=hl25.sx u26 x25
  have kn26:=u26.dk x25 (s25 _ _ kn24)
  have bn26:=u26.dk x25 (s25 _ _ bn24)
  have rn26:=u26.dk x25 (s25 _ _ rn24)
  have kp26:=u26.lst x25 (s25 _ _ kp24)
  have kq26:=u26.pair x25 (Al s25 kq24)
  generalize upd H25 x (HO.ins C dx (BR "knob_lines" (.ref D25) f24))=H26 at x26 c26 bl26 bp26 kr26 rl26 rp26 pp26 pq26 ln26 bn26 rn26 kp26 kq26 kn26 ⊢
  clear u26
  have R26:Rows H26 ρ us:=fun v hv=>c26.tup hx (hR v hv)
  refine ⟨_,rfl,p,_,"step",ρ,rfl,c26.lst hx hp,R26,by omega,fun D27 H27 hD27 s27 hl27=>?_⟩
  have kn27:=s27 _ _ kn26
  have x27:=s27 _ _ x26
  have hS27:Cz K H27 D27 (us.filter (pw ρ "step")):=.inl (.inl hl27)
  have lus:(us.filter (pw ρ "step")).length<=us.length:=List.length_filter_le _ _
  refine ⟨D27,rfl,⟨_,hS27⟩,Di (K:=K) (xs:=us.filter (pw ρ "step")) (fun _=>true) (fun v=>.int (stN ks (ρ v):Nat)) hS27 (BJ (by omega)) (fun y hy H' hs R k=>k H' (Aj.refl H')) (fun y hy _ H' hs R k=>?_) (fun D28 H28 hD28 s28 hl28=>?_)⟩
  ·obtain ⟨hyu,hyw⟩:=List.mem_filter.mp hy
   obtain ⟨ts,ets,t24,tin⟩:=O.st y hyu (V.str.inj (of_decide_eq_true hyw))
   obtain ⟨T0,rfl,hT⟩:=((R26.mono s27).mono hs) y hyu
   refine ⟨_,rfl,_,rfl,x,C,dx,_,_,rfl,hs _ _ x27,T.cl,T.n_knob_numbers,(by rw [Af,if_neg (by decide +kernel)]; exact lkn24),T0,D19,ρ (.ref T0),kvs19,ks.map (·.nm),ts,rfl,hT,hs _ _ kn27,ets,t24,(by rw [List.length_map]; have:=O.nk; omega),hv19,tin,fun H3 s3=>?_⟩
   have e:Wd.mk (ts.map fun t=>(ks.map (·.nm)).idxOf t)=stN ks (ρ (.ref T0)):=by unfold stN; rw [Hi ets]
   rw [e]
   exact k H3 s3
  rw [List.filter_eq_self.mpr (fun _ _=>rfl)] at hl28
  have s2628:=s27.trans s28
  have x28:=s2628 _ _ x26
  refine ⟨_,rfl,x,C,dx,_,rfl,x28,T.cl,T.n_step_sets,Nat.lt_of_le_of_lt (Bf _ _ _) (by omega),?_⟩
  have u29:SX x H28 _:=SX.up (o:=HO.ins C dx (BR "step_sets" (.ref D28) (BR "knob_lines" (.ref D25) f24)))
  have old:∀ {f:Str},¬ f = "step_sets"->¬ f = "knob_lines"->(BR "step_sets" (.ref D28) (BR "knob_lines" (.ref D25) f24)).lookup f=f24.lookup f:=fun h1 h2=>by rw [Af,if_neg h1,Af,if_neg h2]
  have es:((us.filter (pw ρ "step")).map fun v=>V.int (stN ks (ρ v):Nat))=(((us.filter (pw ρ "step")).map fun v=>stN ks (ρ v)).map fun n:Nat=>V.int (n:Int)):=by rw [List.map_map]; rfl
  rw [es] at hl28
  have hpF:=u29.lst x28 (s2628 _ _ (c26.lst hx hp))
  have nx:x ≠ p:=fun z=>by rw [z,hp] at hx; cases hx
  have n5:D5 ≠ p:=Ne.symm (Am (s4 _ _ hp) hD5)
  have n8:D8 ≠ p:=Ne.symm (Am (s7 _ _ (c6.lst hx hp)) hD8)
  have n10:D10 ≠ p:=Ne.symm (Am (c9.lst hx hp) hD10)
  have n21:D21 ≠ p:=Ne.symm (Am (c20.lst hx hp) hD21)
  have n23:D23 ≠ p:=Ne.symm (Am (c22.lst hx hp) hD23)
  have n28:D28 ≠ p:=Ne.symm (Am (s27 _ _ (c26.lst hx hp)) hD28)
  suffices key:∀ H'',SX p (upd H28 x _) H''->Ql C H'' x us bs rk ks (linesOf rk (us.map ρ)) ((us.filter (pw ρ "step")).map fun v=>stN ks (ρ v)) from q _ (key _ SX.refl) key  (c0.trans ((c26.trans (SX.of s2628)).trans u29))
  intro H'' sp
  refine ⟨⟨⟨⟨dx,_,D5,D13,D21,D10,bvs,pvs,uk,kvs,sp _ _ Ac nx,(old (by decide +kernel) (by decide +kernel)).trans lb24,(old (by decide +kernel) (by decide +kernel)).trans lbn24,(old (by decide +kernel) (by decide +kernel)).trans lkp24,(old (by decide +kernel) (by decide +kernel)).trans lkr24,
   fun m hm=>(old (DW m hm _ (by decide +kernel)) (DW m hm _ (by decide +kernel))).trans (no24 m hm),sp _ _ (u29.lst x28 (s2628 _ _ bl26)) n5,G5 sp hpF (u29.pair x28 (Al s2628 bp26)),Nu sp hpF (u29.dk x28 (s2628 _ _ bn26)),fun i b hb=>hv13 i b.1 (by rw [List.getElem?_map,hb]; rfl),sp _ _ (u29.lst x28 (s2628 _ _ kp26)) n21,G5 sp hpF (u29.pair x28 (Al s2628 kq26)),sp _ _ (u29.lst x28 (s2628 _ _ kr26)) n10,?_⟩,O.b5,O.sz,by have:=O.nk; omega⟩,⟨dx,_,D8,D16,D23,D25,rvs,qvs,kvs16,sp _ _ Ac nx,(old (by decide +kernel) (by decide +kernel)).trans lr24,(old (by decide +kernel) (by decide +kernel)).trans lrn24,(old (by decide +kernel) (by decide +kernel)).trans lpp24,(by rw [Af,if_neg (by decide +kernel),Af,if_pos rfl]),sp _ _ (u29.lst x28 (s2628 _ _ rl26)) n8,G5 sp hpF (u29.pair x28 (Al s2628 rp26)),Nu sp hpF (u29.dk x28 (s2628 _ _ rn26)),(fun i r hr=>hv16 i r.1 (by rw [List.getElem?_map,hr]; rfl)),sp _ _ (u29.lst x28 (s2628 _ _ pp26)) n23,G5 sp hpF (u29.pair x28 (Al s2628 pq26)),((ln26.mono s2628).sx u29 x28).sp sp hpF⟩,O.nr,O.nz,?_⟩,dx,_,l1,D19,D28,kvs19,sp _ _ Ac nx,(old (by decide +kernel) (by decide +kernel)).trans lw24,(old (by decide +kernel) (by decide +kernel)).trans lkn24,(by rw [Af,if_pos rfl]),sp _ _ (u29.lst x28 (s2628 _ _ (c26.lst hx rw3))) nl1,Nu sp hpF (u29.dk x28 (s2628 _ _ kn26)),hv19,hw19,sp _ _ (u29.lst x28 hl28) n28,D13,kvs,(old (by decide +kernel) (by decide +kernel)).trans lbn24,Nu sp hpF (u29.dk x28 (s2628 _ _ bn26)),hw13⟩
  case refine_2=>rw [Pa O.ln,← ek,List.length_map,huk]
  rw [← ek]
  refine Bl (F:=fun (r:R) y=>TupAt _ r.v y) ρ ?_
  have R29:Rows _ ρ uk:=fun v hv=>Q5 sp hpF (u29.tup x28 ((R26.mono s2628) v (inKn hv)))
  generalize H''=H29 at R29 ⊢
  have key:∀ l:List V,(∀ v∈l,TupAt H29 (ρ v).v v)->Paired (fun v y=>TupAt H29 (ρ v).v y) l l:=by
   intro l
   induction l with
   | nil=>intro _; exact .nil
   | cons a b ih=>intro h; exact .cons (h a (List.mem_cons_self ..)) (ih fun v hv=>h v (List.mem_cons_of_mem _ hv))
  exact key uk R29
theorem aj:Ax ["self","at"] ["self","at"] (Ae bJ):=Cg
include N T in
theorem W2:A_ P w K mg base B_ 1 aD.fXi aD.dXi ["self","at"] (Tc K cN "at"):=by
 refine N.FXi.1.ok aj (fun vs H Q E h=>?_) (fun cdv A outer s H vs Q E hr h=>?_)
 ·obtain ⟨x,v,rfl,_⟩:=h
  rfl
 ·obtain ⟨x,v,rfl,hx,q⟩:=h
  refine ⟨_,(Ai (RT (pv 0) (pv 1) rfl)),?_⟩
  exact ⟨_,rfl,_,rfl,x,cN,rfl,hx,N.rN.xc,N.rN.set,N.rN.na,q⟩
theorem O7 {X:Cx} {sts:List Stmt}:Mw X sts (fun _ _ _=>False):=fun _ _ _ _ _ _ h=>h.elim
noncomputable def Um (K:PySem.W.Frag) (aB aP aM cN:Addr):Sp:=fun vs H Q E=>∃ (p:Addr) (at_:V),vs=[.ref p]/\Fj K aB aP aM H p at_/\∀ dx H4,Aj H H4->H4 dx=some (Ri dx [("at",at_)])->E (.ref cN) (some dx) H4
include N T in
theorem VV:A_ P w K mg base (Pr P w) 8 aD.fCk aD.dCk ["rows"] (Um K aB aP aM cN):=by
 have GIr:A_ P w K mg base B_ 7 aD.fIr aD.dIr ["thing","ahead"] (V9 K aB aP aM):=UW N T
 have GRo:A_ P w K mg base B_ 1 aD.fRo aD.dRo ["rows","word"] Li:=Jk N T
 have GXi:A_ P w K mg base B_ 1 aD.fXi aD.dXi ["self","at"] (Tc K cN "at"):=W2 N T
 refine N.FCk.1.cU Pg (fun vs H Q E h=>?_) (fun cdv A outer s H vs Q E hr h=>?_)
 ·obtain ⟨p,at_,rfl,_⟩:=h
  rfl
 ·obtain ⟨p,at_,rfl,ra,q⟩:=h
  have hrIr:BZ 7 _:=hr.mono (by decide)
  have hrRo:BZ 1 _:=hr.mono (by decide)
  have hrXi:BZ 2 _:=hr.mono (by decide)
  obtain ⟨tMR,hMR⟩:=T.mostR
  refine ⟨_,(Ah (Br (PW.pt (Hs (Cq (Df (Aw CQ rfl T.isin PyProof.Rows.boot_isinstance (Aa (pv 0) (Aa (DR (v:=.ty "list") rfl T.list PyProof.Rows.boot_list rfl) Ab))))) (Gs (Cq (K6 Gk Gk Ag (Aw BV rfl T.len PySem.boot_len (Aa (pv 0) Ab)) (Bq (v:=.int 150) rfl hMR ⟨tMR,rfl⟩)))))) (Ai (HY N.rN.inI N.rN.init N.rN.fn N.rN.kp GXi hrXi N.FXi.2 rfl T.mNO rfl Ik (Aa Hb Ab))) BW)
   (Ah (FT PassesOwn.leaving rfl (IV rfl T.enumerate (Aa (pv 0) Ab)) (Ij rfl (Cr (CG (i:=1) Pg.nd rfl (Or.inl rfl)) (Cr (CG (i:=2) Pg.nd rfl (Or.inl rfl)) HB))) (Ai (Br (Cq (Df (Ao GIr hrIr rfl N.FIr.2.2 N.FIr.1.kp N.FIr.2.1 .nil BL (Aa (pv 2) (Aa (Ea IW (pv 0) Fd (Ez (pv 1))) Ab))))) (Ai (HY N.rN.inI N.rN.init N.rN.fn N.rN.kp GXi hrXi N.FXi.2 rfl T.mNO rfl Ik (Aa (pv 1) Ab))) BW)))
   (Ai (Br (Cq (Ku (Ao GRo hrRo rfl N.FRo.2.2 N.FRo.1.kp N.FRo.2.1 .nil BL (Aa (pv 0) (Aa An Ab))) (fun _=>rfl))) (Ai (HY N.rN.inI N.rN.init N.rN.fn N.rN.kp GXi hrXi N.FXi.2 rfl T.mNO rfl Ik (Aa Hb Ab))) BW)))),?_⟩
  cases ra with
  | @long us hp hl hs =>
   have hS:Cz K H p us:=.inl (.inl hp)
   refine ⟨_,rfl,_,"list",_,_,rfl,.lst hp,NK,_,rfl,Eb ?_⟩
   refine ⟨_,rfl,p,_,rfl,.inl hS,_,_,rfl,rfl,_,rfl,?_⟩
   refine Bh (fun h1=>?_) (fun _=>?_)
   ·refine ⟨_,_,rfl,rfl,_,rfl,?_⟩
    have e150:decide ((us.length:Int)<=150)=false:=decide_eq_false (by have:=of_decide_eq_true h1; omega)
    rw [e150]
    exact Dm ⟨_,rfl,fun dx H4 _ s e=>q dx H4 s e⟩
   ·exact ⟨_,rfl,Dm ⟨_,rfl,fun dx H4 _ s e=>q dx H4 s e⟩⟩
  | @row us ρ k hp hl hR ok v hv bad =>
   have hS:Cz K H p us:=.inl (.inl hp)
   have hk:k<us.length:=(List.getElem?_eq_some_iff.mp hv).1
   refine ⟨_,rfl,_,"list",_,_,rfl,.lst hp,NK,_,rfl,Eb ?_⟩
   refine ⟨_,rfl,p,_,rfl,.inl hS,_,_,rfl,rfl,_,rfl,?_⟩
   refine Bh (fun _=>?_) (fun z=>absurd (decide_eq_true (by omega)) z)
   refine ⟨_,_,rfl,rfl,_,rfl,?_⟩
   have e150:decide ((us.length:Int)<=150)=true:=decide_eq_true (by omega)
   rw [e150]
   refine Eb ?_
   refine ⟨_,rfl,p,rfl,⟨_,hS⟩,HH (K:=K) (a:=p) (xs:=us) (fun i σ H4=>Aj H H4/\i<=k/\∃ v1 v2,σ=[some (.ref p),v1,v2]) ⟨Aj.refl H,Nat.zero_le _,_,_,rfl⟩ (fun i σ H4 _ h=>h.1.seq hS) ?_ ?_⟩
   ·rintro i x σ H4 T0 hx ⟨s4,hik,v1,v2,rfl⟩ hT
    have s5:=Ak (o:=HO.tup [.int (i:Int),x]) hT
    refine ⟨T0,_,rfl,.inl (.inl Ac),rfl,_,_,rfl,_,_,rfl,rfl,?_⟩
    generalize upd H4 T0 (HO.tup [.int (i:Int),x])=H5 at s5 ⊢
    have s05:=s4.trans s5
    have hi:i<us.length:=(List.getElem?_eq_some_iff.mp hx).1
    have hxk:x∈us.take (k+1):=List.mem_of_getElem? (i:=i) (by rw [List.getElem?_take,if_pos (by omega)]; exact hx)
    obtain ⟨r,rfl,hr0⟩:=(hR.mono s05) x hxk
    refine ⟨_,rfl,_,rfl,_,rfl,_,rfl,p,_,rfl,s05.seq hS,fun p6 hp6=>?_⟩
    have s6:=Ak (o:=HO.lst (Ds us none (some (i:Int)))) hp6
    have a6:upd H5 p6 (HO.lst (Ds us none (some (i:Int)))) p6=_:=Ac
    generalize upd H5 p6 (HO.lst (Ds us none (some (i:Int))))=H6 at s6 a6 ⊢
    rw [KN us i (by omega)] at a6
    have s06:=s05.trans s6
    have hRi:Rows H6 ρ (us.take i):=(hR.mono s06).sub fun v hv=>by
     rw [show us.take i=(us.take (k+1)).take i by rw [List.take_take,Nat.min_eq_left (by omega)]] at hv
     exact List.mem_of_mem_take hv
    by_cases e:i=k
    ·subst e
     rw [hx] at hv
     cases hv
     refine ⟨r,p6,ρ (.ref r),us.take i,ρ,false,rfl,s6 _ _ hr0,a6,hRi,by rw [List.length_take]; omega,bad,fun H7 s7=>⟨_,rfl,Dm ?_⟩⟩
     exact ⟨_,rfl,_,rfl,fun dx H8 _ s8 e8=>q dx H8 ((s06.trans s7).trans s8) e8⟩
    ·refine ⟨r,p6,ρ (.ref r),us.take i,ρ,true,rfl,s6 _ _ hr0,a6,hRi,by rw [List.length_take]; omega,ok i _ (by omega) hx,fun H7 s7=>⟨_,rfl,Eb ?_⟩⟩
     exact ⟨s06.trans s7,by omega,_,_,rfl⟩
   ·rintro σ H4 ⟨s4,hik,v1,v2,rfl⟩
    omega
noncomputable def Uq (K:PySem.W.Frag) (aB aP aM cN:Addr):Sp:=fun vs H Q E=>∃ (x p:Addr) (at_:V),vs=[.ref x,.ref p]/\Fj K aB aP aM H p at_/\∀ dx H4,Aj H H4->H4 dx=some (Ri dx [("at",at_)])->E (.ref cN) (some dx) H4
theorem YZ:Ax ["self","rows"] ["self","rows"] (Ae Qh):=Cg
include N T in
theorem Vq:A_ P w K mg base (Pr P w) 9 aD.fOi aD.dOi ["self","rows"] (Uq K aB aP aM cN):=by
 have GCkR:A_ P w K mg base (Pr P w) 8 aD.fCk aD.dCk ["rows"] (Um K aB aP aM cN):=VV N T
 refine N.FOi.1.cU YZ (fun vs H Q E h=>?_) (fun cdv A outer s H vs Q E hr h=>?_)
 ·obtain ⟨x,p,at_,rfl,_⟩:=h
  rfl
 ·obtain ⟨x,p,at_,rfl,ra,q⟩:=h
  have hrCkR:BZ 8 _:=hr.mono (by decide)
  refine ⟨_,(Ah (HD (Ao GCkR hrCkR rfl N.FCk.2.2 N.FCk.1.kp N.FCk.2.1 .nil Rr (Aa (pv 1) Ab))) O7),?_⟩
  exact ⟨_,rfl,p,at_,rfl,ra,q⟩
noncomputable def Yj (C:Addr):Sp:=fun vs H Q _=>∃ (x:Addr) (bs:List (Str × Nat)) (ks:List R),vs=[.ref x]/\Ky C H x bs ks/\Q (.int ((J6 bs).length:Nat)) H
theorem bT:Ax ["self"] ["self"] (Ae aY):=Cg
include N T in
theorem Wu:A_ P w K mg base B_ 1 aD.fOc aD.dOc ["self"] (Yj C):=by
 refine N.FOc.1.ok bT (fun vs H Q E h=>?_) (fun cdv A outer s H vs Q E hr h=>?_)
 ·obtain ⟨x,bs,ks,rfl,_⟩:=h
  rfl
 ·obtain ⟨x,bs,ks,rfl,O,q⟩:=h
  refine ⟨_,(Ai (Ay (Aw BV rfl T.len PySem.boot_len (Aa (FN (pv 0) rfl) Ab)))),?_⟩
  obtain ⟨⟨dx,fs,bl,bn,kp,kr,bvs,pvs,uvs,kvs,h1,l1,l2,l3,l4,lm,h2,h3,h4,h5,h6,h7,h8,h9⟩,ob5,osz,onk⟩:=id O
  refine ⟨_,rfl,x,C,dx,_,_,rfl,h1,T.cl,T.n_key_places,l3,kp,pvs,rfl,.inl (.inl (.inl h6)),?_⟩
  rw [← h7.length]
  exact q
noncomputable def Xv (C:Addr):Sp:=fun vs H Q _=>∃ (x:Addr) (us:List V) (bs:List (Str × Nat)) (rk:List (Str × Nat × Int)) (ks:List R) (ls:List (List Ln)) (sts:List Nat),vs=[.ref x]/\Ql C H x us bs rk ks ls sts/\∀ D H',H D=none->Aj H H'->H' D=some (.lst us)->Q (.ref D) H'
theorem aR:Ax ["self"] ["self"] (Ae Zm):=Cg
include N T in
theorem YM:A_ P w K mg base B_ 1 aD.fOw aD.dOw ["self"] (Xv C):=by
 refine N.FOw.1.ok aR (fun vs H Q E h=>?_) (fun cdv A outer s H vs Q E hr h=>?_)
 ·obtain ⟨x,us,bs,rk,ks,ls,sts,rfl,_⟩:=h
  rfl
 ·obtain ⟨x,us,bs,rk,ks,ls,sts,rfl,O,q⟩:=h
  refine ⟨_,(Ai (Ay (GD FP rfl T.list PyProof.Rows.boot_list (Aa (FN (pv 0) rfl) Ab)))),?_⟩
  obtain ⟨_,dx,fs,rl,kd,ss,kvs,h1,l1,l2,l3,h2,h3,h4,h5,h6,_⟩:=id O
  exact ⟨_,rfl,x,C,dx,_,_,rfl,h1,T.cl,T.n_row_list,l1,rl,us,rfl,.inl (.inl (.inl h2)),fun l hl=>q l _ hl (Ak hl) Ac⟩
noncomputable def Ye (K:PySem.W.Frag):Sp:=fun vs H Q _=>∃ (a:Addr) (k:Nat) (ns:List Int),vs=[.ref a,.int (k:Nat)]/\Cz K H a (ns.map V.int)/\∀ i:Int,Q (.int i) H
theorem bG:Ax ["_law_script","_law_k"] ["_law_script","_law_k"] (Ae aG):=Cg
include N T in
theorem YX:A_ P w K mg base B_ 1 aD.fCe aD.dCe ["_law_script","_law_k"] (Ye K):=by
 refine N.FCe.1.ok bG (fun vs H Q E h=>?_) (fun cdv A outer s H vs Q E hr h=>?_)
 ·obtain ⟨a,k,ns,rfl,_⟩:=h
  rfl
 ·obtain ⟨a,k,ns,rfl,hS,q⟩:=h
  refine ⟨_,(Ah (Br (Bg Nb (pv 1) (Aw BV rfl T.len PySem.boot_len (Aa (pv 0) Ab)) (Bb _)) (Ai (Ay (Bc GK (pv 0) (pv 1) (fun _ _=>rfl)))) BW)
   (Ai (Ay Ag))),?_⟩
  refine ⟨_,rfl,_,rfl,a,_,rfl,.inl hS,_,_,rfl,rfl,_,rfl,?_⟩
  refine Bh (fun h1=>?_) (fun _=>q 0)
  have hlt:k<ns.length:=by have:=of_decide_eq_true h1; rw [List.length_map] at this; omega
  exact ⟨_,rfl,_,rfl,a,_,_,.int ns[k],rfl,rfl,hS,Av (by rw [List.getElem?_map,List.getElem?_eq_getElem hlt]; rfl),q _⟩
noncomputable def Bp (k:Nat):Str:=Xb (k % 26)++Xb (k / 26 % 26) ++ "x"
theorem Ia (k:Nat):(Bp k).cps.toList=[97+k % 26,97+k / 26 % 26,120]:=by
 unfold Bp
 rw [Nm,Nm]
 rfl
theorem CN (k:Nat):isNm (Bp k):=by
 have hl:(Bp k).length=3:=by
  unfold Bp
  rw [len_app,len_app]
  rfl
 refine ⟨by omega,by omega,fun c hc=>?_⟩
 rw [Ia] at hc
 simp only [List.mem_cons,List.not_mem_nil,or_false] at hc
 omega
theorem G8 {k l:Nat} (hk:k<676) (hl:l<676) (h:Bp k=Bp l):k=l:=by
 have h1:(Bp k).cps.toList=(Bp l).cps.toList:=by rw [h]
 rw [Ia,Ia] at h1
 injection h1 with a b
 injection b with b c
 omega
theorem KD {k:Nat} {t:Str} (h:t.length ≠ 3):t ≠ Bp k:=fun e=>h (by
 rw [e]
 unfold Bp
 rw [len_app,len_app]
 rfl)
noncomputable def V6:Sp:=fun vs H Q _=>∃ (k:Nat),vs=[.int (k:Nat)]/\k<1000/\Q (.str (Bp k)) H
theorem XQ:Ax ["_law_k","_law_letters"] ["_law_k"] (Ae Zg):=Cg
include N T in
theorem Ug:A_ P w K mg base B_ 1 aD.fNn aD.dNn ["_law_k"] V6:=by
 refine N.FNn.1.ok XQ (fun vs H Q E h=>?_) (fun cdv A outer s H vs Q E hr h=>?_)
 ·obtain ⟨k,rfl,_⟩:=h
  rfl
 ·obtain ⟨k,rfl,hk,q⟩:=h
  refine ⟨_,(Ah (CT (i:=1) XQ.nd rfl (Or.inl rfl) An)
   (Ai (Ay (BP Iu (BP Iu (Bc Px (pv 1) (BP Ej (pv 0) Ag) (fun _ _=>rfl)) (Bc Px (pv 1) (BP Ej (BP Gy (pv 0) Ag) Ag) (fun _ _=>rfl))) An)))),?_⟩
  have m0:0<=(k:Int) % 26:=Int.emod_nonneg _ (by decide)
  have m1:(k:Int) % 26<26:=Int.emod_lt_of_pos _ (by decide)
  have n0:0<=(k:Int) / 26 % 26:=Int.emod_nonneg _ (by decide)
  have n1:(k:Int) / 26 % 26<26:=Int.emod_lt_of_pos _ (by decide)
  have em:(((k:Int) % 26).toNat)=k % 26:=by omega
  have en:(((k:Int) / 26 % 26).toNat)=k / 26 % 26:=by omega
  unfold Bp at q
  rw [← em,← en] at q
  exact ⟨_,rfl,_,rfl,_,_,rfl,rfl,(by show (0:Int)<26; decide),letters,_,_,rfl,rfl,Ck (by decide +kernel),RW m0 m1,_,rfl,_,rfl,_,_,rfl,rfl,⟨by decide,by decide⟩,_,_,rfl,rfl,(by show (0:Int)<26; decide),letters,_,_,rfl,rfl,Ck (by decide +kernel),RW n0 n1,_,_,rfl,rfl,Ck (by show 1+1<=1000; decide),_,_,rfl,rfl,Ck (by show (1+1)+1<=1000; decide),q⟩
noncomputable def El (kz pi:Nat) (wi:Int):List R:=[Dy ("great",kz),En ("flute",pi,wi),⟨"stop","open",[.str "great"]⟩]
noncomputable abbrev PR (H:Hp) (rows:List R) (vs:List V):Prop:=Paired (fun (r:R) v=>TupAt H r.v v) rows vs
theorem J9 {H:Hp} {T:Addr} {zs:List V} (h:H T=some (.tup zs)):TupAt H zs (.ref T):=⟨T,rfl,h⟩
noncomputable def YL (K:PySem.W.Frag):Sp:=fun vs H Q _=>∃ (a:Addr) (ns:List Int),vs=[.ref a]/\Cz K H a (ns.map V.int)/\∀ (kz pi:Nat) (wi:Int) (p:Addr) (us:List V) (H':Hp),1<=kz->kz<=61->1<=pi->pi<=97->0<=wi->wi<=1000000000->Aj H H'->H' p=some (.lst us)->PR H' (El kz pi wi) us->Q (.ref p) H'
theorem V2:Ax ["_law_script","_law_cell","_law_some"] ["_law_script"] (Ae Zh):=Cg
include N T in
theorem X_:A_ P w K mg base B_ 2 aD.fLf aD.dLf ["_law_script"] (YL K):=by
 have GCe:A_ P w K mg base B_ 1 aD.fCe aD.dCe ["_law_script","_law_k"] (Ye K):=YX N T
 refine N.FLf.1.ok V2 (fun vs H Q E h=>?_) (fun cdv A outer s H vs Q E hr h=>?_)
 ·obtain ⟨a,ns,rfl,_⟩:=h
  rfl
 ·obtain ⟨a,ns,rfl,hS,q⟩:=h
  have hrCe:BZ 1 _:=hr.mono (by decide)
  refine ⟨_,(@Ah _ _ _ _ _ (@Cw _ _ _ _ _ _ 1 V2.nd rfl (Or.inl rfl) (Ao GCe hrCe rfl N.FCe.2.2 N.FCe.1.kp N.FCe.2.1 .nil BL (@Aq _ _ _ _ _ rfl (pv 0) (@Aq _ _ _ _ _ rfl Ag Ab))) rfl (Or.inl rfl)) (@Ah _ _ _ _ _ (@Br _ _ _ _ _ _ _ _ (Bg Cu (BP Ej (pv 1) Ag) Ag (Bb _)) (@Ai _ _ _ (@Ay _ _ _ _ (@Ci _ _ _ _ (@Aq _ _ _ _ _ rfl (@Bk _ _ _ _ _ (@Aq _ _ _ _ _ rfl An (@Aq _ _ _ _ _ rfl An (@Aq _ _ _ _ _ rfl Ag Ab)))) (@Aq _ _ _ _ _ rfl (@Bk _ _ _ _ _ (@Aq _ _ _ _ _ rfl An (@Aq _ _ _ _ _ rfl An (@Aq _ _ _ _ _ rfl Ag (@Aq _ _ _ _ _ rfl (BP Lk Ag Ag) Ab))))) (@Aq _ _ _ _ _ rfl (@Bk _ _ _ _ _ (@Aq _ _ _ _ _ rfl An (@Aq _ _ _ _ _ rfl An (@Aq _ _ _ _ _ rfl An Ab)))) Ab)))))) BW) (@Ah _ _ _ _ _ (@Cw _ _ _ _ _ _ 2 V2.nd rfl (Or.inl rfl) (@Ci _ _ _ _ (@Aq _ _ _ _ _ rfl (@Bk _ _ _ _ _ (@Aq _ _ _ _ _ rfl An (@Aq _ _ _ _ _ rfl An (@Aq _ _ _ _ _ rfl (BP Ep Ag (BP Ej (BP Gy (pv 1) Ag) Ag)) Ab)))) (@Aq _ _ _ _ _ rfl (@Bk _ _ _ _ _ (@Aq _ _ _ _ _ rfl An (@Aq _ _ _ _ _ rfl An (@Aq _ _ _ _ _ rfl (BP Ep Ag (BP Ej (BP Gy (pv 1) Ag) Ag)) (@Aq _ _ _ _ _ rfl (BP Ej (BP Gy (pv 1) Ag) (BP Ep (BP Lk Ag Ag) Ag)) Ab))))) Ab))) rfl (Or.inl rfl)) (@Ai _ _ _ (@Ay _ _ _ _ (BP Eo (pv 2) (@Ci _ _ _ _ (@Aq _ _ _ _ _ rfl (@Bk _ _ _ _ _ (@Aq _ _ _ _ _ rfl An (@Aq _ _ _ _ _ rfl An (@Aq _ _ _ _ _ rfl An Ab)))) Ab)))))))),?_⟩
  refine ⟨_,rfl,a,0,ns,rfl,hS,fun c=>?_⟩
  refine ⟨_,rfl,_,_,rfl,rfl,(by show (0:Int)<2; decide),rfl,_,rfl,?_⟩
  refine Bh (fun _=>?_) (fun _=>?_)
  case refine_1 =>
   refine ⟨by show 3<=sizeLine; decide,fun T1 hT1=>?_⟩
   generalize eH:upd H T1 _=H1
   have s1:Aj H H1:=by rw [← eH]; exact Ak hT1
   have t1:H1 T1=some (.tup [V.str "board",.str "great",.int 61]):=by rw [← eH]; exact Ac
   clear eH
   refine ⟨_,_,rfl,rfl,⟨by decide,by decide,by decide⟩,?_⟩
   refine ⟨by show 4<=sizeLine; decide,fun T2 hT2=>?_⟩
   generalize eH:upd H1 T2 _=H2
   have s2:Aj H1 H2:=by rw [← eH]; exact Ak hT2
   have t2:H2 T2=some (.tup [V.str "rank",.str "flute",.int 97,.int (10 ^ 9)]):=by rw [← eH]; exact Ac
   clear eH
   refine ⟨by show 3<=sizeLine; decide,fun T3 hT3=>?_⟩
   generalize eH:upd H2 T3 _=H3
   have s3:Aj H2 H3:=by rw [← eH]; exact Ak hT3
   have t3:H3 T3=some (.tup [V.str "stop",.str "open",.str "great"]):=by rw [← eH]; exact Ac
   clear eH
   refine ⟨by show 3<=sizeLine; decide,fun T4 hT4=>?_⟩
   generalize eH:upd H3 T4 _=H4
   have s4:Aj H3 H4:=by rw [← eH]; exact Ak hT4
   have t4:H4 T4=some (.lst [V.ref T1,.ref T2,.ref T3]):=by rw [← eH]; exact Ac
   clear eH
   exact q 61 97 1000000000 T4 _ H4 (by decide) (by decide) (by decide) (by decide) (by decide) (by decide) (((s1.trans s2).trans s3).trans s4) t4 (.cons (J9 (s4 _ _ (s3 _ _ (s2 _ _ t1)))) (.cons (J9 (s4 _ _ (s3 _ _ t2))) (.cons (J9 (s4 _ _ t3)) .nil)))
  have a0:0<=c / 2 % 61:=Int.emod_nonneg _ (by decide)
  have a1:c / 2 % 61<61:=Int.emod_lt_of_pos _ (by decide)
  have b0:0<=c / 122 % 97:=Int.emod_nonneg _ (by decide)
  have b1:c / 122 % 97<97:=Int.emod_lt_of_pos _ (by decide)
  have c0:0<=c / 3 % (10 ^ 9+1):=Int.emod_nonneg _ (by decide)
  have c1:c / 3 % (10 ^ 9+1)<10 ^ 9+1:=Int.emod_lt_of_pos _ (by decide)
  refine ⟨_,rfl,_,_,rfl,rfl,⟨by decide,by decide⟩,_,_,rfl,rfl,(by show (0:Int)<61; decide),_,_,rfl,rfl,?_⟩
  refine ⟨by show 3<=sizeLine; decide,fun T1 hT1=>?_⟩
  generalize eH:upd H T1 _=H1
  have s1:Aj H H1:=by rw [← eH]; exact Ak hT1
  have t1:H1 T1=some (.tup [V.str "board",.str "great",.int (1+c / 2 % 61)]):=by rw [← eH]; exact Ac
  clear eH
  refine ⟨_,rfl,_,_,rfl,rfl,⟨by decide,by decide⟩,_,_,rfl,rfl,(by show (0:Int)<97; decide),_,_,rfl,rfl,?_⟩
  refine ⟨_,rfl,_,_,rfl,rfl,⟨by decide,by decide⟩,_,_,rfl,rfl,⟨by decide,by decide,by decide⟩,_,_,rfl,rfl,_,_,rfl,rfl,(by show (0:Int)<10 ^ 9+1; decide),?_⟩
  refine ⟨by show 4<=sizeLine; decide,fun T2 hT2=>?_⟩
  generalize eH:upd H1 T2 _=H2
  have s2:Aj H1 H2:=by rw [← eH]; exact Ak hT2
  have t2:H2 T2=some (.tup [V.str "rank",.str "flute",.int (1+c / 122 % 97),.int (c / 3 % (10 ^ 9+1))]):=by rw [← eH]; exact Ac
  clear eH
  refine ⟨by show 2<=sizeLine; decide,fun T3 hT3=>?_⟩
  generalize eH:upd H2 T3 _=H3
  have s3:Aj H2 H3:=by rw [← eH]; exact Ak hT3
  have t3:H3 T3=some (.lst [V.ref T1,.ref T2]):=by rw [← eH]; exact Ac
  clear eH
  refine ⟨_,rfl,?_⟩
  refine ⟨by show 3<=sizeLine; decide,fun T4 hT4=>?_⟩
  generalize eH:upd H3 T4 _=H4
  have s4:Aj H3 H4:=by rw [← eH]; exact Ak hT4
  have t4:H4 T4=some (.tup [V.str "stop",.str "open",.str "great"]):=by rw [← eH]; exact Ac
  clear eH
  refine ⟨by show 1<=sizeLine; decide,fun T5 hT5=>?_⟩
  generalize eH:upd H4 T5 _=H5
  have s5:Aj H4 H5:=by rw [← eH]; exact Ak hT5
  have t5:H5 T5=some (.lst [V.ref T4]):=by rw [← eH]; exact Ac
  clear eH
  refine ⟨_,_,_,_,rfl,rfl,s5 _ _ (s4 _ _ t3),t5,by show 2+1<=sizeLine; decide,fun p hp=>?_⟩
  generalize eH:upd H5 p _=H6
  have s6:Aj H5 H6:=by rw [← eH]; exact Ak hp
  have t6:H6 p=some (.lst [V.ref T1,.ref T2,.ref T4]):=by rw [← eH]; exact Ac
  clear eH
  obtain ⟨z1,e1⟩:∃ z:Nat,(1+c / 2 % 61:Int)=(z:Nat):=⟨_,(Int.toNat_of_nonneg (by omega)).symm⟩
  obtain ⟨z2,e2⟩:∃ z:Nat,(1+c / 122 % 97:Int)=(z:Nat):=⟨_,(Int.toNat_of_nonneg (by omega)).symm⟩
  rw [e1] at t1
  rw [e2] at t2
  have s46:=s5.trans s6
  exact q z1 z2 _ p _ H6 (by omega) (by omega) (by omega) (by omega) c0 (by omega) ((((s1.trans s2).trans s3).trans s4).trans s46) t6 (.cons (J9 (s46 _ _ (s4 _ _ (s3 _ _ (s2 _ _ t1))))) (.cons (J9 (s46 _ _ (s4 _ _ (s3 _ _ t2)))) (.cons (J9 (s46 _ _ t4)) .nil)))
noncomputable def Yg (j:Nat):Str:=match j with
 | 0=>"board" | 1=>"rank" | 2=>"stop" | 3=>"line" | 4=>"coupler" | 5=>"mute" | _=>"step"
noncomputable def Dg (j kz:Nat) (tn:Int) (k:Nat):R:=match j with
 | 0=>Dy (Bp k,1+k % 61) | 1=>En (Bp k,1+k % 97,(k:Int)) | 2=>⟨"stop",Bp k,[.str "great"]⟩ | 3=>⟨"line","flute",[.int (tn * (200 - 100 * (k:Int))),.int 0,.int ((kz:Int) - 1)]⟩
 | 4=>⟨"coupler",Bp k,[.str "great",.str "great",.int (tn * (60 - 10 * (k:Int)))]⟩ | 5=>⟨"mute",Bp k,[.str "great"]⟩ | _=>⟨"step","open",[]⟩
noncomputable def Xr:Sp:=fun vs H Q _=>∃ (j m kz:Nat) (tn:Int),vs=[.str (Yg j),.int (m:Nat),.int (kz:Nat),.int tn]/\j<7/\m<=100/\(tn=1 \/ tn = -1)/\∀ D ys H',Aj H H'->H' D=some (.lst ys)->PR H' ((List.range m).map (Dg j kz tn)) ys->Q (.ref D) H'
theorem ao:Ax ["_law_kind","_law_many","_law_keys","_law_turn"] ["_law_kind","_law_many","_law_keys","_law_turn"] (Ae Rm):=Cg
include N T in
theorem Yv:A_ P w K mg base B_ 2 aD.fLo aD.dLo ["_law_kind","_law_many","_law_keys","_law_turn"] Xr:=by
 have GNn:A_ P w K mg base B_ 1 aD.fNn aD.dNn ["_law_k"] V6:=Ug N T
 refine N.FLo.1.ok ao (fun vs H Q E h=>?_) (fun cdv A outer s H vs Q E hr h=>?_)
 ·obtain ⟨j,m,kz,tn,rfl,_⟩:=h
  rfl
 ·obtain ⟨j,m,kz,tn,rfl,hj,hm,htn,q⟩:=h
  have hrNn:BZ 1 _:=hr.mono (by decide)
  refine ⟨_,(@Ah _ _ _ _ _ (@Br _ _ _ _ _ _ _ _ (Bg Cu (pv 0) An (Bb _)) (@Ai _ _ _ (@Ay _ _ _ _ (Ba rfl (Az (osc:=Ae Rm) (N:=["_law_kind","_law_many","_law_keys","_law_turn"]) rfl rfl (by decide +kernel)) (Bm rfl T.range (@Aq _ _ _ _ _ rfl (pv 1) Ab)) (fun _ _ _ _=>Bj) (fun _ _ _ _=>(@Bk _ _ _ _ _ (@Aq _ _ _ _ _ rfl An (@Aq _ _ _ _ _ rfl (Ao GNn hrNn rfl N.FNn.2.2 N.FNn.1.kp N.FNn.2.1 .nil BL (@Aq _ _ _ _ _ rfl (pv 0) Ab)) (@Aq _ _ _ _ _ rfl (BP Ep Ag (BP Ej (pv 0) Ag)) Ab)))))))) BW) (@Ah _ _ _ _ _ (@Br _ _ _ _ _ _ _ _ (Bg Cu (pv 0) An (Bb _)) (@Ai _ _ _ (@Ay _ _ _ _ (Ba rfl (Az (osc:=Ae Rm) (N:=["_law_kind","_law_many","_law_keys","_law_turn"]) rfl rfl (by decide +kernel)) (Bm rfl T.range (@Aq _ _ _ _ _ rfl (pv 1) Ab)) (fun _ _ _ _=>Bj) (fun _ _ _ _=>(@Bk _ _ _ _ _ (@Aq _ _ _ _ _ rfl An (@Aq _ _ _ _ _ rfl (Ao GNn hrNn rfl N.FNn.2.2 N.FNn.1.kp N.FNn.2.1 .nil BL (@Aq _ _ _ _ _ rfl (pv 0) Ab)) (@Aq _ _ _ _ _ rfl (BP Ep Ag (BP Ej (pv 0) Ag)) (@Aq _ _ _ _ _ rfl (pv 0) Ab))))))))) BW) (@Ah _ _ _ _ _ (@Br _ _ _ _ _ _ _ _ (Bg Cu (pv 0) An (Bb _)) (@Ai _ _ _ (@Ay _ _ _ _ (Ba rfl (Az (osc:=Ae Rm) (N:=["_law_kind","_law_many","_law_keys","_law_turn"]) rfl rfl (by decide +kernel)) (Bm rfl T.range (@Aq _ _ _ _ _ rfl (pv 1) Ab)) (fun _ _ _ _=>Bj) (fun _ _ _ _=>(@Bk _ _ _ _ _ (@Aq _ _ _ _ _ rfl An (@Aq _ _ _ _ _ rfl (Ao GNn hrNn rfl N.FNn.2.2 N.FNn.1.kp N.FNn.2.1 .nil BL (@Aq _ _ _ _ _ rfl (pv 0) Ab)) (@Aq _ _ _ _ _ rfl An Ab)))))))) BW) (@Ah _ _ _ _ _ (@Br _ _ _ _ _ _ _ _ (Bg Cu (pv 0) An (Bb _)) (@Ai _ _ _ (@Ay _ _ _ _ (Ba rfl (Az (osc:=Ae Rm) (N:=["_law_kind","_law_many","_law_keys","_law_turn"]) rfl rfl (by decide +kernel)) (Bm rfl T.range (@Aq _ _ _ _ _ rfl (pv 1) Ab)) (fun _ _ _ _=>Bj) (fun _ _ _ _=>(@Bk _ _ _ _ _ (@Aq _ _ _ _ _ rfl An (@Aq _ _ _ _ _ rfl An (@Aq _ _ _ _ _ rfl (BP Hg (pv 4) (BP Ek Ag (BP Hg Ag (pv 0)))) (@Aq _ _ _ _ _ rfl Ag (@Aq _ _ _ _ _ rfl (BP Ek (pv 3) Ag) Ab)))))))))) BW) (@Ah _ _ _ _ _ (@Br _ _ _ _ _ _ _ _ (Bg Cu (pv 0) An (Bb _)) (@Ai _ _ _ (@Ay _ _ _ _ (Ba rfl (Az (osc:=Ae Rm) (N:=["_law_kind","_law_many","_law_keys","_law_turn"]) rfl rfl (by decide +kernel)) (Bm rfl T.range (@Aq _ _ _ _ _ rfl (pv 1) Ab)) (fun _ _ _ _=>Bj) (fun _ _ _ _=>(@Bk _ _ _ _ _ (@Aq _ _ _ _ _ rfl An (@Aq _ _ _ _ _ rfl (Ao GNn hrNn rfl N.FNn.2.2 N.FNn.1.kp N.FNn.2.1 .nil BL (@Aq _ _ _ _ _ rfl (pv 0) Ab)) (@Aq _ _ _ _ _ rfl An (@Aq _ _ _ _ _ rfl An (@Aq _ _ _ _ _ rfl (BP Hg (pv 4) (BP Ek Ag (BP Hg Ag (pv 0)))) Ab)))))))))) BW) (@Ah _ _ _ _ _ (@Br _ _ _ _ _ _ _ _ (Bg Cu (pv 0) An (Bb _)) (@Ai _ _ _ (@Ay _ _ _ _ (Ba rfl (Az (osc:=Ae Rm) (N:=["_law_kind","_law_many","_law_keys","_law_turn"]) rfl rfl (by decide +kernel)) (Bm rfl T.range (@Aq _ _ _ _ _ rfl (pv 1) Ab)) (fun _ _ _ _=>Bj) (fun _ _ _ _=>(@Bk _ _ _ _ _ (@Aq _ _ _ _ _ rfl An (@Aq _ _ _ _ _ rfl (Ao GNn hrNn rfl N.FNn.2.2 N.FNn.1.kp N.FNn.2.1 .nil BL (@Aq _ _ _ _ _ rfl (pv 0) Ab)) (@Aq _ _ _ _ _ rfl An Ab)))))))) BW) (@Ai _ _ _ (@Ay _ _ _ _ (Ba rfl (Az (osc:=Ae Rm) (N:=["_law_kind","_law_many","_law_keys","_law_turn"]) rfl rfl (by decide +kernel)) (Bm rfl T.range (@Aq _ _ _ _ _ rfl (pv 1) Ab)) (fun _ _ _ _=>Bj) (fun _ _ _ _=>(@Bk _ _ _ _ _ (@Aq _ _ _ _ _ rfl An (@Aq _ _ _ _ _ rfl An Ab))))))))))))),?_⟩
  have hz:m<sizeLine:=BJ (by omega)
  have fin:∀ j,∀ D H' ys,H D=none->Aj H H'->H' D=some (.lst ys)->Paired (fun i y=>TupAt H' (Dg j kz tn i).v y) (List.range m) ys->PR H' ((List.range m).map (Dg j kz tn)) ys:=fun j D H' ys _ _ _ h=>Bl (F:=fun (r:R) v=>TupAt H' r.v v) (Dg j kz tn) h
  match j,hj with
  | 0,_ =>
   refine ⟨_,rfl,rfl,_,rfl,Bh (fun _=>?_) (fun z=>absurd (decide_eq_true rfl) z)⟩
   refine ⟨_,rfl,_,rfl,by omega,by omega,Bt (n:=m) (fun i=>(Dg 0 kz tn i).v) hz (fun i hi H1 s1 R k=>?_) (fun D H1 ys hD s1 hl hp=>q D ys H1 s1 hl (fin 0 D H1 ys hD s1 hl hp))⟩
   exact ⟨_,rfl,i,rfl,by omega,_,rfl,_,_,rfl,rfl,(by show (0:Int)<61; decide),_,_,rfl,rfl,by show 3<=sizeLine; decide,fun T hT=>k _ _ (Ak hT) ⟨T,rfl,by show upd _ T _ T=some (.tup [V.str "board",.str (Bp i),.int ((1+i % 61:Nat):Int)]); rw [show ((1+i % 61:Nat):Int)=1+(i:Int) % 61 by omega]; exact Ac⟩⟩
  | 1,_ =>
   refine ⟨_,rfl,rfl,_,rfl,Bh (fun z=>absurd (V.str.inj (of_decide_eq_true z)) (by decide +kernel)) (fun _=>?_)⟩
   refine ⟨_,rfl,rfl,_,rfl,Bh (fun _=>?_) (fun z=>absurd (decide_eq_true rfl) z)⟩
   refine ⟨_,rfl,_,rfl,by omega,by omega,Bt (n:=m) (fun i=>(Dg 1 kz tn i).v) hz (fun i hi H1 s1 R k=>?_) (fun D H1 ys hD s1 hl hp=>q D ys H1 s1 hl (fin 1 D H1 ys hD s1 hl hp))⟩
   exact ⟨_,rfl,i,rfl,by omega,_,rfl,_,_,rfl,rfl,(by show (0:Int)<97; decide),_,_,rfl,rfl,_,rfl,by show 4<=sizeLine; decide,fun T hT=>k _ _ (Ak hT) ⟨T,rfl,by show upd _ T _ T=some (.tup [V.str "rank",.str (Bp i),.int ((1+i % 97:Nat):Int),.int (i:Int)]); rw [show ((1+i % 97:Nat):Int)=1+(i:Int) % 97 by omega]; exact Ac⟩⟩
  | 2,_ =>
   refine ⟨_,rfl,rfl,_,rfl,Bh (fun z=>absurd (V.str.inj (of_decide_eq_true z)) (by decide +kernel)) (fun _=>?_)⟩
   refine ⟨_,rfl,rfl,_,rfl,Bh (fun z=>absurd (V.str.inj (of_decide_eq_true z)) (by decide +kernel)) (fun _=>?_)⟩
   refine ⟨_,rfl,rfl,_,rfl,Bh (fun _=>?_) (fun z=>absurd (decide_eq_true rfl) z)⟩
   refine ⟨_,rfl,_,rfl,by omega,by omega,Bt (n:=m) (fun i=>(Dg 2 kz tn i).v) hz (fun i hi H1 s1 R k=>?_) (fun D H1 ys hD s1 hl hp=>q D ys H1 s1 hl (fin 2 D H1 ys hD s1 hl hp))⟩
   exact ⟨_,rfl,i,rfl,by omega,by show 3<=sizeLine; decide,fun T hT=>k _ _ (Ak hT) ⟨T,rfl,by show upd _ T _ T=some (.tup [V.str "stop",.str (Bp i),.str "great"]); exact Ac⟩⟩
  | 3,_ =>
   refine ⟨_,rfl,rfl,_,rfl,Bh (fun z=>absurd (V.str.inj (of_decide_eq_true z)) (by decide +kernel)) (fun _=>?_)⟩
   refine ⟨_,rfl,rfl,_,rfl,Bh (fun z=>absurd (V.str.inj (of_decide_eq_true z)) (by decide +kernel)) (fun _=>?_)⟩
   refine ⟨_,rfl,rfl,_,rfl,Bh (fun z=>absurd (V.str.inj (of_decide_eq_true z)) (by decide +kernel)) (fun _=>?_)⟩
   refine ⟨_,rfl,rfl,_,rfl,Bh (fun _=>?_) (fun z=>absurd (decide_eq_true rfl) z)⟩
   refine ⟨_,rfl,_,rfl,by omega,by omega,Bt (n:=m) (fun i=>(Dg 3 kz tn i).v) hz (fun i hi H1 s1 R k=>?_) (fun D H1 ys hD s1 hl hp=>q D ys H1 s1 hl (fin 3 D H1 ys hD s1 hl hp))⟩
   exact ⟨_,rfl,_,rfl,_,_,rfl,rfl,.inl ⟨by decide,by decide⟩,_,_,rfl,rfl,_,_,rfl,rfl,.inl ⟨by omega,by omega⟩,_,rfl,_,_,rfl,rfl,by show 5<=sizeLine; decide,fun T hT=>k _ _ (Ak hT) ⟨T,rfl,by show upd _ T _ T=some (.tup [V.str "line",.str "flute",.int (tn * (200 - 100 * (i:Int))),.int 0,.int ((kz:Int) - 1)]); exact Ac⟩⟩
  | 4,_ =>
   refine ⟨_,rfl,rfl,_,rfl,Bh (fun z=>absurd (V.str.inj (of_decide_eq_true z)) (by decide +kernel)) (fun _=>?_)⟩
   refine ⟨_,rfl,rfl,_,rfl,Bh (fun z=>absurd (V.str.inj (of_decide_eq_true z)) (by decide +kernel)) (fun _=>?_)⟩
   refine ⟨_,rfl,rfl,_,rfl,Bh (fun z=>absurd (V.str.inj (of_decide_eq_true z)) (by decide +kernel)) (fun _=>?_)⟩
   refine ⟨_,rfl,rfl,_,rfl,Bh (fun z=>absurd (V.str.inj (of_decide_eq_true z)) (by decide +kernel)) (fun _=>?_)⟩
   refine ⟨_,rfl,rfl,_,rfl,Bh (fun _=>?_) (fun z=>absurd (decide_eq_true rfl) z)⟩
   refine ⟨_,rfl,_,rfl,by omega,by omega,Bt (n:=m) (fun i=>(Dg 4 kz tn i).v) hz (fun i hi H1 s1 R k=>?_) (fun D H1 ys hD s1 hl hp=>q D ys H1 s1 hl (fin 4 D H1 ys hD s1 hl hp))⟩
   exact ⟨_,rfl,i,rfl,by omega,_,rfl,_,rfl,_,_,rfl,rfl,.inl ⟨by decide,by decide⟩,_,_,rfl,rfl,_,_,rfl,rfl,.inl ⟨by omega,by omega⟩,by show 5<=sizeLine; decide,fun T hT=>k _ _ (Ak hT) ⟨T,rfl,by show upd _ T _ T=some (.tup [V.str "coupler",.str (Bp i),.str "great",.str "great",.int (tn * (60 - 10 * (i:Int)))]); exact Ac⟩⟩
  | 5,_ =>
   refine ⟨_,rfl,rfl,_,rfl,Bh (fun z=>absurd (V.str.inj (of_decide_eq_true z)) (by decide +kernel)) (fun _=>?_)⟩
   refine ⟨_,rfl,rfl,_,rfl,Bh (fun z=>absurd (V.str.inj (of_decide_eq_true z)) (by decide +kernel)) (fun _=>?_)⟩
   refine ⟨_,rfl,rfl,_,rfl,Bh (fun z=>absurd (V.str.inj (of_decide_eq_true z)) (by decide +kernel)) (fun _=>?_)⟩
   refine ⟨_,rfl,rfl,_,rfl,Bh (fun z=>absurd (V.str.inj (of_decide_eq_true z)) (by decide +kernel)) (fun _=>?_)⟩
   refine ⟨_,rfl,rfl,_,rfl,Bh (fun z=>absurd (V.str.inj (of_decide_eq_true z)) (by decide +kernel)) (fun _=>?_)⟩
   refine ⟨_,rfl,rfl,_,rfl,Bh (fun _=>?_) (fun z=>absurd (decide_eq_true rfl) z)⟩
   refine ⟨_,rfl,_,rfl,by omega,by omega,Bt (n:=m) (fun i=>(Dg 5 kz tn i).v) hz (fun i hi H1 s1 R k=>?_) (fun D H1 ys hD s1 hl hp=>q D ys H1 s1 hl (fin 5 D H1 ys hD s1 hl hp))⟩
   exact ⟨_,rfl,i,rfl,by omega,by show 3<=sizeLine; decide,fun T hT=>k _ _ (Ak hT) ⟨T,rfl,by show upd _ T _ T=some (.tup [V.str "mute",.str (Bp i),.str "great"]); exact Ac⟩⟩
  | 6,_ =>
   refine ⟨_,rfl,rfl,_,rfl,Bh (fun z=>absurd (V.str.inj (of_decide_eq_true z)) (by decide +kernel)) (fun _=>?_)⟩
   refine ⟨_,rfl,rfl,_,rfl,Bh (fun z=>absurd (V.str.inj (of_decide_eq_true z)) (by decide +kernel)) (fun _=>?_)⟩
   refine ⟨_,rfl,rfl,_,rfl,Bh (fun z=>absurd (V.str.inj (of_decide_eq_true z)) (by decide +kernel)) (fun _=>?_)⟩
   refine ⟨_,rfl,rfl,_,rfl,Bh (fun z=>absurd (V.str.inj (of_decide_eq_true z)) (by decide +kernel)) (fun _=>?_)⟩
   refine ⟨_,rfl,rfl,_,rfl,Bh (fun z=>absurd (V.str.inj (of_decide_eq_true z)) (by decide +kernel)) (fun _=>?_)⟩
   refine ⟨_,rfl,rfl,_,rfl,Bh (fun z=>absurd (V.str.inj (of_decide_eq_true z)) (by decide +kernel)) (fun _=>?_)⟩
   refine ⟨_,rfl,_,rfl,by omega,by omega,Bt (n:=m) (fun i=>(Dg 6 kz tn i).v) hz (fun i hi H1 s1 R k=>?_) (fun D H1 ys hD s1 hl hp=>q D ys H1 s1 hl (fin 6 D H1 ys hD s1 hl hp))⟩
   exact ⟨by show 2<=sizeLine; decide,fun T hT=>k _ _ (Ak hT) ⟨T,rfl,by show upd _ T _ T=some (.tup [V.str "step",.str "open"]); exact Ac⟩⟩
  | j+7,hj=>omega
noncomputable def Hv (k:Nat):R:=⟨"stop",Bp k,[.str "great"]⟩
noncomputable def QF (k j:Nat):R:=⟨"line","flute",[.int (3 * (k:Int)),.int (j:Int),.int 60]⟩
noncomputable def Fg:Nat->List R
 | 0=>[Dy ("great",61),En ("flute",97,1000000000)]
 | n+1=>Fg n++[Hv n]++(List.range 4).map (QF n)
theorem GP:∀ n,(Fg n).length=2+5 * n
 | 0=>rfl
 | n+1=>by
  show (Fg n++[Hv n]++(List.range 4).map (QF n)).length=_
  rw [List.length_append,List.length_append,GP n,List.length_map,List.length_range,List.length_singleton]
  omega
noncomputable def JR (k:Nat):R:=⟨"coupler",Bp (30+k),[.str "great",.str "great",.int ((k:Int) - 60)]⟩
noncomputable def La (k:Nat):R:=⟨"mute",Bp (50+k),[.str "great"]⟩
noncomputable def TF (k:Nat):R:=⟨"step",Bp k,[.str (Bp (23 - k))]⟩
noncomputable def J3:List R:=Fg 24++(List.range 12).map JR++(List.range 5).map La++(List.range 11).map TF
theorem Ih:J3.length=150:=by
 unfold J3
 rw [List.length_append,List.length_append,List.length_append,GP]
 simp
theorem PR.mono {H H':Hp} {rows:List R} {vs:List V} (s:Aj H H') (h:PR H rows vs):PR H' rows vs:=Al s h
theorem N6 {H:Hp} {g:Nat->R} {n:Nat} {ys:List V} (h:Paired (fun i y=>TupAt H (g i).v y) (List.range n) ys):PR H ((List.range n).map g) ys:=Bl (F:=fun (r:R) v=>TupAt H r.v v) g h
noncomputable def X8:Sp:=fun vs H Q _=>vs=[]/\∀ D ys H',Aj H H'->H' D=some (.lst ys)->PR H' J3 ys->Q (.ref D) H'
theorem Ou:Ax ["_law_rows","_law_k"] [] (Ae Vm):=Cg
include N T in
theorem Wh:A_ P w K mg base B_ 2 aD.fLu aD.dLu [] X8:=by
 have GNn:A_ P w K mg base B_ 1 aD.fNn aD.dNn ["_law_k"] V6:=Ug N T
 refine N.FLu.1.ok Ou (fun vs H Q E h=>?_) (fun cdv A outer s H vs Q E hr h=>?_)
 ·obtain ⟨rfl,_⟩:=h
  rfl
 ·obtain ⟨rfl,q⟩:=h
  have hrNn:BZ 1 _:=hr.mono (by decide)
  refine ⟨_,(@Ah _ _ _ _ _ (@Cw _ _ _ _ _ _ 0 Ou.nd rfl (Or.inl rfl) (@Ci _ _ _ _ (@Aq _ _ _ _ _ rfl (@Bk _ _ _ _ _ (@Aq _ _ _ _ _ rfl An (@Aq _ _ _ _ _ rfl An (@Aq _ _ _ _ _ rfl Ag Ab)))) (@Aq _ _ _ _ _ rfl (@Bk _ _ _ _ _ (@Aq _ _ _ _ _ rfl An (@Aq _ _ _ _ _ rfl An (@Aq _ _ _ _ _ rfl Ag (@Aq _ _ _ _ _ rfl (BP Lk Ag Ag) Ab))))) Ab))) rfl (Or.inl rfl)) (@Ah _ _ _ _ _ (FT PassesOwn.never rfl (Bm rfl T.range (@Aq _ _ _ _ _ rfl Ag Ab)) (CG (i:=1) Ou.nd rfl (Or.inr rfl)) (@Ai _ _ _ (@Cw _ _ _ _ _ _ 0 Ou.nd rfl (Or.inl rfl) (BP Eo (BP Eo (pv 0) (@Ci _ _ _ _ (@Aq _ _ _ _ _ rfl (@Bk _ _ _ _ _ (@Aq _ _ _ _ _ rfl An (@Aq _ _ _ _ _ rfl (Ao GNn hrNn rfl N.FNn.2.2 N.FNn.1.kp N.FNn.2.1 .nil BL (@Aq _ _ _ _ _ rfl (pv 1) Ab)) (@Aq _ _ _ _ _ rfl An Ab)))) Ab))) (Ba rfl (Az (osc:=Ae Vm) (N:=["_law_rows","_law_k"]) rfl rfl (by decide +kernel)) (Bm rfl T.range (@Aq _ _ _ _ _ rfl Ag Ab)) (fun _ _ _ _=>Bj) (fun _ _ _ _=>(@Bk _ _ _ _ _ (@Aq _ _ _ _ _ rfl An (@Aq _ _ _ _ _ rfl An (@Aq _ _ _ _ _ rfl (BP Hg Ag (pv 2)) (@Aq _ _ _ _ _ rfl (pv 0) (@Aq _ _ _ _ _ rfl Ag Ab))))))))) rfl (Or.inl rfl)))) (@Ah _ _ _ _ _ (@Cw _ _ _ _ _ _ 0 Ou.nd rfl (Or.inl rfl) (BP Eo (pv 0) (Ba rfl (Az (osc:=Ae Vm) (N:=["_law_rows","_law_k"]) rfl rfl (by decide +kernel)) (Bm rfl T.range (@Aq _ _ _ _ _ rfl Ag Ab)) (fun _ _ _ _=>Bj) (fun _ _ _ _=>(@Bk _ _ _ _ _ (@Aq _ _ _ _ _ rfl An (@Aq _ _ _ _ _ rfl (Ao GNn hrNn rfl N.FNn.2.2 N.FNn.1.kp N.FNn.2.1 .nil BL (@Aq _ _ _ _ _ rfl (BP Ep Ag (pv 0)) Ab)) (@Aq _ _ _ _ _ rfl An (@Aq _ _ _ _ _ rfl An (@Aq _ _ _ _ _ rfl (BP Ek (pv 0) Ag) Ab))))))))) rfl (Or.inl rfl)) (@Ah _ _ _ _ _ (@Cw _ _ _ _ _ _ 0 Ou.nd rfl (Or.inl rfl) (BP Eo (pv 0) (Ba rfl (Az (osc:=Ae Vm) (N:=["_law_rows","_law_k"]) rfl rfl (by decide +kernel)) (Bm rfl T.range (@Aq _ _ _ _ _ rfl Ag Ab)) (fun _ _ _ _=>Bj) (fun _ _ _ _=>(@Bk _ _ _ _ _ (@Aq _ _ _ _ _ rfl An (@Aq _ _ _ _ _ rfl (Ao GNn hrNn rfl N.FNn.2.2 N.FNn.1.kp N.FNn.2.1 .nil BL (@Aq _ _ _ _ _ rfl (BP Ep Ag (pv 0)) Ab)) (@Aq _ _ _ _ _ rfl An Ab))))))) rfl (Or.inl rfl)) (@Ai _ _ _ (@Ay _ _ _ _ (BP Eo (pv 0) (Ba rfl (Az (osc:=Ae Vm) (N:=["_law_rows","_law_k"]) rfl rfl (by decide +kernel)) (Bm rfl T.range (@Aq _ _ _ _ _ rfl Ag Ab)) (fun _ _ _ _=>Bj) (fun _ _ _ _=>(@Bk _ _ _ _ _ (@Aq _ _ _ _ _ rfl An (@Aq _ _ _ _ _ rfl (Ao GNn hrNn rfl N.FNn.2.2 N.FNn.1.kp N.FNn.2.1 .nil BL (@Aq _ _ _ _ _ rfl (pv 0) Ab)) (@Aq _ _ _ _ _ rfl (Ao GNn hrNn rfl N.FNn.2.2 N.FNn.1.kp N.FNn.2.1 .nil BL (@Aq _ _ _ _ _ rfl (BP Ek Ag (pv 0)) Ab)) Ab))))))))))))),?_⟩
  refine ⟨by show 3<=sizeLine; decide,fun T1 hT1=>?_⟩
  generalize eH:upd H T1 _=H1
  have s1:Aj H H1:=by rw [← eH]; exact Ak hT1
  have t1:H1 T1=some (.tup [V.str "board",.str "great",.int 61]):=by rw [← eH]; exact Ac
  clear eH
  refine ⟨_,_,rfl,rfl,⟨by decide,by decide,by decide⟩,?_⟩
  refine ⟨by show 4<=sizeLine; decide,fun T2 hT2=>?_⟩
  generalize eH:upd H1 T2 _=H2
  have s2:Aj H1 H2:=by rw [← eH]; exact Ak hT2
  have t2:H2 T2=some (.tup [V.str "rank",.str "flute",.int 97,.int (10 ^ 9)]):=by rw [← eH]; exact Ac
  clear eH
  refine ⟨by show 2<=sizeLine; decide,fun T3 hT3=>?_⟩
  generalize eH:upd H2 T3 _=H3
  have s3:Aj H2 H3:=by rw [← eH]; exact Ak hT3
  have t3:H3 T3=some (.lst [V.ref T1,.ref T2]):=by rw [← eH]; exact Ac
  clear eH
  have s03:Aj H H3:=(s1.trans s2).trans s3
  have p3:PR H3 (Fg 0) [V.ref T1,.ref T2]:=.cons (J9 (s3 _ _ (s2 _ _ t1))) (.cons (J9 (s3 _ _ t2)) .nil)
  refine ⟨24,rfl,by decide,by decide,O9 (lo:=0) (n:=24) (fun i σ H4=>Aj H H4/\∃ (D:Addr) (ys:List V) (vk:Option V),H4 D=some (.lst ys)/\PR H4 (Fg i) ys/\σ=[some (.ref D),vk]) ⟨s03,T3,_,_,t3,p3,rfl⟩ ?_ ?_⟩
  case refine_1 =>
   rintro i σ H4 hi ⟨s4,D,ys,vk,hD,hp,rfl⟩
   have hly:ys.length=2+5 * i:=by rw [← hp.length,GP]
   refine ⟨_,rfl,_,rfl,i,(congrArg (fun z:Int=>[V.int z]) (Int.zero_add _)),by omega,?_⟩
   refine ⟨by show 3<=sizeLine; decide,fun T5 hT5=>?_⟩
   generalize eH:upd H4 T5 _=H5
   have s5:Aj H4 H5:=by rw [← eH]; exact Ak hT5
   have t5:H5 T5=some (.tup [V.str "stop",.str (Bp i),.str "great"]):=by rw [← eH]; exact Ac
   clear eH
   refine ⟨by show 1<=sizeLine; decide,fun T6 hT6=>?_⟩
   generalize eH:upd H5 T6 _=H6
   have s6:Aj H5 H6:=by rw [← eH]; exact Ak hT6
   have t6:H6 T6=some (.lst [V.ref T5]):=by rw [← eH]; exact Ac
   clear eH
   refine ⟨_,_,_,_,rfl,rfl,s6 _ _ (s5 _ _ hD),t6,Ck (by rw [hly]; show 2+5 * i+1<=1000; omega),fun T7 hT7=>?_⟩
   generalize eH:upd H6 T7 _=H7
   have s7:Aj H6 H7:=by rw [← eH]; exact Ak hT7
   have t7:=congrFun eH T7
   rw [Ac] at t7
   replace t7:=t7.symm
   clear eH
   have s47:=(s5.trans s6).trans s7
   have p7:PR H7 (Fg i++[Hv i]) (ys++[.ref T5]):=By (PR.mono s47 hp) (.cons (J9 (s7 _ _ (s6 _ _ t5))) .nil)
   refine ⟨4,rfl,by decide,by decide,Bt (n:=4) (fun j=>(QF i j).v) (BJ (by decide)) (fun j hj H8 s8 R k=>?_) (fun D8 H8 zs hD8 s8 hl8 hp8=>?_)⟩
   ·have e0:(0+(i:Int))=i:=Int.zero_add _
    rw [e0]
    exact ⟨_,rfl,_,_,rfl,rfl,.inl ⟨by decide,by decide⟩,_,rfl,by show 5<=sizeLine; decide,fun T hT=>k _ _ (Ak hT) ⟨T,rfl,Ac⟩⟩
   have hlz:zs.length=4:=by rw [← hp8.length,List.length_range]
   refine ⟨_,_,_,_,rfl,rfl,s8 _ _ t7,hl8,Ck (by rw [List.length_append,hly,hlz]; show 2+5 * i+1+4<=1000; omega),fun T9 hT9=>?_⟩
   generalize eH:upd H8 T9 _=H9
   have s9:Aj H8 H9:=by rw [← eH]; exact Ak hT9
   have t9:=congrFun eH T9
   rw [Ac] at t9
   replace t9:=t9.symm
   clear eH
   exact ⟨s4.trans ((s47.trans s8).trans s9),T9,_,_,t9,By (PR.mono (s8.trans s9) p7) (PR.mono s9 (N6 hp8)),rfl⟩
  rintro σ H4 ⟨s4,D,ys,vk,hD,hp,rfl⟩
  have hly:ys.length=122:=by rw [← hp.length,GP]
  have s04:=s4
  clear s4 s03 p3 t3 s3 s2 s1 t1 t2
  refine ⟨_,rfl,12,rfl,by decide,by decide,Bt (n:=12) (fun j=>(JR j).v) (BJ (by decide)) (fun j hj H8 s8 R k=>?_) (fun D5 H5 z5 hD5 s5 hl5 hp5=>?_)⟩
  ·exact ⟨_,rfl,_,_,rfl,rfl,30+j,rfl,by omega,_,rfl,_,_,rfl,rfl,by show 5<=sizeLine; decide,fun T hT=>k _ _ (Ak hT) ⟨T,rfl,Ac⟩⟩
  have l5:z5.length=12:=by rw [← hp5.length,List.length_range]
  refine ⟨_,_,_,_,rfl,rfl,s5 _ _ hD,hl5,Ck (by rw [hly,l5]; decide),fun T6 hT6=>?_⟩
  generalize eH:upd H5 T6 _=H6
  have s6:Aj H5 H6:=by rw [← eH]; exact Ak hT6
  have t6:=congrFun eH T6
  rw [Ac] at t6
  replace t6:=t6.symm
  clear eH
  have p6:=By (PR.mono (s5.trans s6) hp) (PR.mono s6 (N6 hp5))
  have s06:=s04.trans (s5.trans s6)
  have ly6:(ys++z5).length=134:=by rw [List.length_append,hly,l5]
  generalize ys++z5=y6 at t6 p6 ly6
  clear hp5 hl5 hD hp s5 s6 hly s04
  refine ⟨_,rfl,5,rfl,by decide,by decide,Bt (n:=5) (fun j=>(La j).v) (BJ (by decide)) (fun j hj H8 s8 R k=>?_) (fun D7 H7 z7 hD7 s7 hl7 hp7=>?_)⟩
  ·exact ⟨_,rfl,_,_,rfl,rfl,50+j,rfl,by omega,by show 3<=sizeLine; decide,fun T hT=>k _ _ (Ak hT) ⟨T,rfl,Ac⟩⟩
  have l7:z7.length=5:=by rw [← hp7.length,List.length_range]
  refine ⟨_,_,_,_,rfl,rfl,s7 _ _ t6,hl7,Ck (by rw [ly6,l7]; decide),fun T8 hT8=>?_⟩
  generalize eH:upd H7 T8 _=H8
  have s8:Aj H7 H8:=by rw [← eH]; exact Ak hT8
  have t8:=congrFun eH T8
  rw [Ac] at t8
  replace t8:=t8.symm
  clear eH
  have p8:=By (PR.mono (s7.trans s8) p6) (PR.mono s8 (N6 hp7))
  have s08:=s06.trans (s7.trans s8)
  have ly8:(y6++z7).length=139:=by rw [List.length_append,ly6,l7]
  generalize y6++z7=y8 at t8 p8 ly8
  clear hp7 hl7 t6 p6 s7 s8 ly6 s06
  refine ⟨_,rfl,11,rfl,by decide,by decide,Bt (n:=11) (fun j=>(TF j).v) (BJ (by decide)) (fun j hj H9 s9 R k=>?_) (fun D9 H9 z9 hD9 s9 hl9 hp9=>?_)⟩
  ·exact ⟨_,rfl,j,rfl,by omega,_,rfl,_,_,rfl,rfl,23 - j,congrArg (fun z:Int=>[V.int z]) (by omega),by omega,by show 3<=sizeLine; decide,fun T hT=>k _ _ (Ak hT) ⟨T,rfl,Ac⟩⟩
  have l9:z9.length=11:=by rw [← hp9.length,List.length_range]
  refine ⟨_,_,_,_,rfl,rfl,s9 _ _ t8,hl9,Ck (by rw [ly8,l9]; decide),fun T10 hT10=>?_⟩
  generalize eH:upd H9 T10 _=H10
  have s10:Aj H9 H10:=by rw [← eH]; exact Ak hT10
  have t10:=congrFun eH T10
  rw [Ac] at t10
  replace t10:=t10.symm
  clear eH
  exact q T10 _ H10 (s08.trans (s9.trans s10)) t10 (By (PR.mono (s9.trans s10) p8) (PR.mono s10 (N6 hp9)))
theorem Qp {X:Cx} {K:PySem.W.Frag} {e:Expr} {f:Str} {pos:Pos} {ta:TE} (hK:X.K=K) (he:PE X e ta) (hb:attributeBase e f X.env (eval e X.env)=eval e X.env):PE X (.Attribute e f pos) (Uc K ta f):=by
 rw [← hK]
 exact Tp he hb
theorem Rz {K:PySem.W.Frag} {aB aP aM:Addr} {H:Hp} {p:Addr} {v:V} (h:Fj K aB aP aM H p v):v=.non \/ ∃ k:Nat,v=.int (k:Nat):=by
 cases h with
 | long=>exact .inl rfl
 | row=>exact .inr ⟨_,rfl⟩
noncomputable def Wv (K:PySem.W.Frag) (aB aP aM:Addr):Sp:=fun vs H Q _=>∃ (p:Addr) (at_:V),vs=[.ref p,at_]/\Fj K aB aP aM H p at_/\∀ H',Aj H H'->Q (.bl true) H'
theorem O4:Ax ["_law_rows","_law_due","_law_truths","_law_at","e"] ["_law_rows","_law_due"] (Ae bM):=Cg
include N T in
theorem Xz:A_ P w K mg base B_ 11 aD.fRf aD.dRf ["_law_rows","_law_due"] (Wv K aB aP aM):=by
 have GOiR:A_ P w K mg base (Pr P w) 9 aD.fOi aD.dOi ["self","rows"] (Uq K aB aP aM cN):=Vq N T
 refine N.FRf.1.ok O4 (fun vs H Q E h=>?_) (fun cdv A outer s H vs Q E hr h=>?_)
 ·obtain ⟨p,at_,rfl,_⟩:=h
  rfl
 ·obtain ⟨p,at_,rfl,ra,q⟩:=h
  have hrOi:BZ 10 _:=hr.mono (by decide)
  refine ⟨_,(Ah (CT (i:=2) O4.nd rfl (Or.inl rfl) (Ci Ab))
   (Ah (CT (i:=3) O4.nd rfl (Or.inl rfl) (RJ Mq Ag))
   (Ah (R7 (fun ER=>(Qc (Qt (QM N.FOi.2.2 GOiR hrOi rfl T.mC N.FOi.2.1 .nil (Aa (pv 0) Ab) rfl)))) rfl T.mOE T.exO O4.nd (i:=4) rfl rfl (fun x=>(Ah (CT (i:=2) O4.nd rfl (Or.inl rfl) (Ci (Aa (Aw (Eg (K:=K) rfl) rfl T.isin PyProof.Rows.boot_isinstance (Aa (pv 4) (Aa (Bq (v:=.ref cN) rfl T.mNO rfl) Ab))) (Aa (Aw (Eg (K:=K) rfl) rfl T.isin PyProof.Rows.boot_isinstance (Aa (pv 4) (Aa (DR (v:=.ty "ValueError") rfl T.verr PyProof.Rows.Boot.«ValueError» rfl) Ab))) (Aa (Aw (Eg (K:=K) rfl) rfl T.isin PyProof.Rows.boot_isinstance (Aa (pv 4) (Aa (Bq (v:=.ref cB) rfl T.mBO rfl) Ab))) Ab)))))
   (Ai (Br (Df (Aw (Eg (K:=K) rfl) rfl T.isin PyProof.Rows.boot_isinstance (Aa (pv 4) (Aa (Bq (v:=.ref cN) rfl T.mNO rfl) Ab)))) (Ai (CT (i:=3) O4.nd rfl (Or.inl rfl) (Qp (K:=K) rfl (pv 4) rfl))) BW)))))
   (Ah (Br (Bg Rg (pv 1) Hb (Bb _)) (Ai (Ay (CJ (CZ (JH 0 (Nat.lt_of_le_of_lt (Nat.add_le_add_left (by decide:1<=64) _) hr.units)) (pv 2) (Ci (Aa Fe (Aa Fe (Aa Fe Ab)))) (Bb _)) (Cj (CZ Rg (pv 3) Hb (Bb _)))))) BW)
   (Ai (Ay (CJ (CZ (JH 0 (Nat.lt_of_le_of_lt (Nat.add_le_add_left (by decide:1<=64) _) hr.units)) (pv 2) (Ci (Aa Fe (Aa Fe (Aa Fe Ab)))) (Bb _)) (CJ (Aw CQ rfl T.isin PyProof.Rows.boot_isinstance (Aa (pv 3) (Aa (DR (v:=.ty "int") rfl T.int PyProof.Rows.boot_int rfl) Ab))) (CJ (M8 (Aw CQ rfl T.isin PyProof.Rows.boot_isinstance (Aa (pv 3) (Aa (DR (v:=.ty "bool") rfl T.bool PyProof.Rows.boot_bool rfl) Ab)))) (Cj (CZ Cu (pv 3) (pv 1) (Bb _)))))))))))),?_⟩
  refine ⟨Ck (by simp),fun pT hpT=>?_⟩
  have s1:=Ak (o:=HO.lst []) hpT
  generalize upd H pT (HO.lst [])=H1 at s1 ⊢
  refine ⟨_,rfl,?_⟩
  refine ⟨_,rfl,fun x dx nx ndx nex=>?_⟩
  have sx:Aj H1 (upd (upd H1 dx (.own x)) x (.ins C dx [])):=fun b o e=>by
   rw [Ar (Am e nx),Ar (Am e ndx)]
   exact e
  generalize upd (upd H1 dx (.own x)) x (.ins C dx [])=H2 at sx ⊢
  have s2:=s1.trans sx
  refine ⟨x,p,at_,rfl,ra.mono s2,fun d4 H4 s4 e4=>⟨cN,rfl,N.rN.mro,fun ex hex=>?_⟩⟩
  have s5:=Ak (o:=HN ex cN (some d4)) hex
  have x5:upd H4 ex (HN ex cN (some d4)) ex=some (HN ex cN (some d4)):=Ac
  generalize upd H4 ex (HN ex cN (some d4))=H5 at s5 x5 ⊢
  have ie:Gi H5 ex cN [("at",at_)]:=.full x5 (s5 _ _ e4)
  have s05:=(s2.trans s4).trans s5
  refine ⟨_,rfl,ex,cN,_,_,_,_,rfl,ie,N.rN.xc,rfl,N.rN.k0,_,rfl,ex,cN,_,_,_,_,rfl,ie,N.rN.xc,rfl,N.rN.kv,_,rfl,ex,cN,_,_,_,_,rfl,ie,N.rN.xc,rfl,N.rN.kf cB (List.mem_singleton.mpr rfl),by show 3<=sizeLine; decide,fun p6 hp6=>?_⟩
  obtain ⟨H6,eqH,s6,l6⟩:=Ht (o:=HO.lst [V.bl true,.bl true,.bl false]) hp6
  rw [eqH]
  have ie6:=ie.same s6
  have s06:=s05.trans s6
  refine ⟨_,rfl,ex,cN,_,_,_,_,rfl,ie6,N.rN.xc,rfl,N.rN.k0,_,rfl,Dm ?_⟩
  refine ⟨_,rfl,ex,cN,_,_,rfl,ie6,N.rN.xc,N.rN.na,rfl,?_⟩
  refine ⟨_,rfl,rfl,_,rfl,?_⟩
  rcases Rz ra with rfl | ⟨k,rfl⟩
  ·refine Dm ⟨_,rfl,by show 3<=sizeLine; decide,fun p7 hp7=>?_⟩
   have s7:=Ak (o:=HO.lst [V.bl true,.bl true,.bl false]) hp7
   refine ⟨p6,p7,rfl,rfl,.inr ⟨p6,p7,_,_,rfl,rfl,.inl ⟨s7 _ _ l6,Ac⟩,.cons (GC rfl) (.cons (GC rfl) (.cons (GC rfl) .nil))⟩,_,rfl,Dm ?_⟩
   exact ⟨_,rfl,rfl,q _ (s06.trans s7)⟩
  ·refine Eb ⟨_,rfl,by show 3<=sizeLine; decide,fun p7 hp7=>?_⟩
   have s7:=Ak (o:=HO.lst [V.bl true,.bl true,.bl false]) hp7
   refine ⟨p6,p7,rfl,rfl,.inr ⟨p6,p7,_,_,rfl,rfl,.inl ⟨s7 _ _ l6,Ac⟩,.cons (GC rfl) (.cons (GC rfl) (.cons (GC rfl) .nil))⟩,_,rfl,Dm ?_⟩
   refine ⟨_,rfl,_,"int",_,_,rfl,.int _,ty_int,_,rfl,Dm ?_⟩
   refine ⟨_,rfl,_,"bool",_,_,rfl,.int _,Uk,_,rfl,_,rfl,Dm ?_⟩
   refine ⟨_,rfl,_,rfl,rfl,?_⟩
   have e1:decide (V.int (k:Nat)=V.int (k:Nat))=true:=decide_eq_true rfl
   rw [e1]
   exact q _ (s06.trans s7)
structure V8 (K:PySem.W.Frag) (aB aP aM:Addr) (rows:List R) (bs:List (Str × Nat)) (rk:List (Str × Nat × Int)) (ks:List R) (ls:List (List Ln)) (sts:List Nat):Prop where
 bl:DK K aB aP aM rows bs rk ks ls sts
 b0:1<=bs.length
 b5:bs.length<=5
 sz:∀ b∈bs,b.2<=61
 nr:rk.length<=12
 nz:∀ r∈rk,r.2.1<=97
 nk:ks.length<=100
 nb:(bs.map (·.1)).Nodup
 nrr:(rk.map (·.1)).Nodup
 nn:(ks.map (·.nm)).Nodup
 len:rows.length<=150
noncomputable def X3 (K:PySem.W.Frag) (aB aP aM:Addr):Sp:=fun vs H Q _=>∃ (p:Addr) (us:List V) (rows:List R) (bs:List (Str × Nat)) (rk:List (Str × Nat × Int)) (ks:List R) (ls:List (List Ln)) (sts:List Nat),vs=[.ref p]/\H p=some (.lst us)/\PR H rows us/\V8 K aB aP aM rows bs rk ks ls sts/\∀ H',Aj H H'->Q (.bl true) H'
theorem Vg {H:Hp} {x:V} (w:Str) (h:pw (HW H) w x=true):(HW H x).w=w:=V.str.inj (of_decide_eq_true h)
theorem Xf:Ax ["_law_rows","_law_organ"] ["_law_rows"] (Ae ZV):=Cg
include N T in
theorem Yi:A_ P w K mg base B_ 11 aD.fTk aD.dTk ["_law_rows"] (X3 K aB aP aM):=by
 have GOi:A_ P w K mg base B_ 9 aD.fOi aD.dOi ["self","rows"] (W7 K aB aP aM C):=W_ N T
 have GOw:A_ P w K mg base B_ 1 aD.fOw aD.dOw ["self"] (Xv C):=YM N T
 have GOc:A_ P w K mg base B_ 1 aD.fOc aD.dOc ["self"] (Yj C):=Wu N T
 refine N.FTk.1.ok Xf (fun vs H Q E h=>?_) (fun cdv A outer s H vs Q E hr h=>?_)
 ·obtain ⟨p,us,rows,bs,rk,ks,ls,sts,rfl,_⟩:=h
  rfl
 ·obtain ⟨p,us,rows,bs,rk,ks,ls,sts,rfl,hp,hpr,O,q⟩:=h
  have hrOi:BZ 10 _:=hr.mono (by decide)
  have hrOw:BZ 1 _:=hr.mono (by decide)
  have hrOc:BZ 1 _:=hr.mono (by decide)
  refine ⟨_,(Ah (CT (i:=1) Xf.nd rfl (Or.inl rfl) (S9 N.FOi.2.2 GOi hrOi rfl T.mC N.FOi.2.1 .nil BL (Aa (GD FP rfl T.list PyProof.Rows.boot_list (Aa (pv 0) Ab)) Ab)))
   (Ai (Ay (CJ (CZ (JH 1 (Nat.lt_of_le_of_lt (Nat.add_le_add_left (by decide:2<=64) _) hr.units)) (K3 (pv 1) T.cl N.FOw.2.2 GOw hrOw N.FOw.2.1 .nil BL) (pv 0) (Bb _)) (Cj (CZ Cu (K3 (pv 1) T.cl N.FOc.2.2 GOc hrOc N.FOc.2.1 .nil BL) (Aw (Qg rfl) rfl T.sum PyProof.Rows.boot_sum (Aa (Ba rfl (Az (osc:=Ae ZV) (N:=["_law_rows","_law_organ"]) rfl rfl (by decide +kernel)) (CK (pv 0)) (fun _ _ _ _=>(MP (Bg Cu (Bc (BK (K:=K) rfl) (pv 0) Ag (fun _ _=>rfl)) An (Bb _)))) (fun _ _ _ _=>(Bc (BK (K:=K) rfl) (pv 0) Ag (fun _ _=>rfl)))) Ab)) (Bb _))))))),?_⟩
  have hlu:us.length=rows.length:=hpr.length.symm
  have hl150:=O.len
  refine ⟨_,rfl,p,us,rfl,.inl (.inl (.inl hp)),fun L hL=>?_⟩
  obtain ⟨H2,eqH,s2,l2⟩:=Ht (o:=HO.lst us) hL
  rw [eqH]
  have t2:PR H2 rows us:=Al s2 hpr
  obtain ⟨R2,O2,eL,eS⟩:=O.bl.fin t2 O.b0 O.b5 O.sz O.nr O.nz O.nk O.nb O.nrr O.nn O.len
  intro x dx nx ndx nex
  have sx:Aj H2 (upd (upd H2 dx (.own x)) x (.ins C dx [])):=fun b o e=>by
   rw [Ar (Am e nx),Ar (Am e ndx)]
   exact e
  refine ⟨x,dx,L,us,HW H2,bs,rk,ks,rfl,Ac,sx _ _ l2,R2.mono sx,O2,fun H3 OA keyA SXh=>⟨rfl,?_⟩⟩
  have s23:Aj H2 H3:=fun b o e=>SXh b o (sx b o e) (Am e nx)
  clear SXh sx nx ndx nex keyA
  have s03:=s2.trans s23
  obtain ⟨⟨dy,fs,bl,bn,kp,kr,bvs,pvs,uvs,kvs,h1,l1,l2',l3,l4,lm,_⟩,_⟩:=id OA.o.o
  refine ⟨_,rfl,x,dy,fs,rfl,h1,lm _ (by decide +kernel),x,us,bs,rk,ks,_,_,rfl,OA,fun D4 H4 hD4 s4 l4'=>?_⟩
  have s04:=s03.trans s4
  refine ⟨_,rfl,D4,p,rfl,rfl,.inr ⟨D4,p,_,_,rfl,rfl,.inl ⟨l4',s04 _ _ hp⟩,LC (Al s04 hpr) (Al s04 hpr) O.bl.parts⟩,_,rfl,Dm ?_⟩
  refine ⟨_,rfl,x,dy,fs,rfl,s4 _ _ h1,lm _ (by decide +kernel),x,bs,ks,rfl,OA.o.o.mono s4,?_⟩
  have hS:Cz K H4 p us:=.inl (.inl (s04 _ _ hp))
  have s24:=s23.trans s4
  refine ⟨_,rfl,p,rfl,⟨_,hS⟩,Di (K:=K) (xs:=us) (pw (HW H2) "board") (fun v=>(HW H2 v).v.getD 2 .non) hS (BJ (by omega)) (fun y hy Hx hs R kk=>?_) (fun y hy hyw Hx hs R kk=>?_) (fun D5 H5 hD5 s5 hl5=>?_)⟩
  ·obtain ⟨T0,rfl,hT⟩:=((R2.mono s24).mono hs) y hy
   exact ⟨_,rfl,T0,_,_,_,rfl,rfl,.inl (.inl hT),Av (j:=0) rfl,rfl,_,rfl,kk Hx (Aj.refl Hx)⟩
  ·obtain ⟨b,hb,eb⟩:=Gg.RB (O.bl.ok (HW H2) us (Hz t2)) hy (Vg _ hyw)
   have kk2:=kk Hx (Aj.refl Hx)
   obtain ⟨T0,rfl,hT⟩:=((R2.mono s24).mono hs) y hy
   rw [← eb] at hT kk2
   exact ⟨_,rfl,T0,_,_,_,rfl,rfl,.inl (.inl hT),Av (j:=2) rfl,kk2⟩
  have e5:((us.filter (pw (HW H2) "board")).map fun v=>(HW H2 v).v.getD 2 .non)=(bs.map fun b=>((b.2:Nat):Int)).map V.int:=by
   have e0:((us.filter (pw (HW H2) "board")).map fun v=>(HW H2 v).v.getD 2 .non)=(((us.filter (pw (HW H2) "board")).map (HW H2)).map fun r:R=>r.v.getD 2 .non):=by rw [List.map_map]; rfl
   rw [e0,(O.bl.ok (HW H2) us (Hz t2)).eb,List.map_map,List.map_map]
   rfl
  rw [e5] at hl5
  refine ⟨D5,_,rfl,.inl (.inl hl5),(fun n hn=>?_),(by rw [List.length_map]; have:=O.b5; omega),rfl,?_⟩
  ·obtain ⟨b,hb,rfl⟩:=List.mem_map.mp hn
   have:=O.sz b hb
   omega
  have e6:(bs.map fun b=>((b.2:Nat):Int)).sum=(((J6 bs).length:Nat):Int):=by
   rw [Tn]
   have:∀ l:List (Str × Nat),(l.map fun b=>((b.2:Nat):Int)).sum=(((l.map (·.2)).sum:Nat):Int):=fun l=>by
    induction l with
    | nil=>rfl
    | cons a l ih=>rw [List.map_cons,List.sum_cons,List.map_cons,List.sum_cons,ih,Int.natCast_add]
   exact this bs
  have e7:decide (V.int (((J6 bs).length:Nat):Int)=V.int (bs.map fun b=>((b.2:Nat):Int)).sum)=true:=decide_eq_true (by rw [e6])
  rw [e7]
  exact q _ (s04.trans s5)
end
end K11
end PartK11a
section PartK11m
set_option maxHeartbeats 4000000
namespace K11
open PySem L2 Og
structure Hw (K:PySem.W.Frag) (aB aP aM:Addr):Prop where
 f:Le K aB aP aM
 mT:∃ t,PySem.W.nsIn K aM "step" = some (some (.int 12 t))
section
variable {K:PySem.W.Frag} {aB aP aM:Addr}
theorem ms {α:Type} (A:List α) (f:Nat->α) (m:Nat):A++(List.range (m+1)).map f=A++(List.range m).map f++[f m]:=by
 rw [List.range_succ,List.map_append,← List.append_assoc]
 rfl
theorem Dv:isNm "great":=by unfold isNm; decide +kernel
theorem Lb:isNm "flute":=by unfold isNm; decide +kernel
theorem RC:isNm "open":=by unfold isNm; decide +kernel
theorem Ed (k:Nat):("great" : Str) ≠ Bp k:=KD (by decide +kernel)
theorem Ef (k:Nat):("flute" : Str) ≠ Bp k:=KD (by decide +kernel)
theorem Dl (k:Nat):("open" : Str) ≠ Bp k:=KD (by decide +kernel)
noncomputable abbrev so:R:=⟨"stop","open",[.str "great"]⟩
noncomputable abbrev Ld (kz:Nat):List (Str × Nat):=[("great",kz)]
noncomputable abbrev Ru (pi:Nat) (wi:Int):List (Str × Nat × Int):=[("flute",pi,wi)]
variable {kz pi:Nat} {wi tn:Int}
structure Fb (kz pi:Nat) (wi tn:Int):Prop where
 k1:1<=kz
 k2:kz<=61
 p1:1<=pi
 p2:pi<=97
 w1:0<=wi
 w2:wi<=1000000000
 t:tn=1 \/ tn = -1
theorem WF (F:Hw K aB aP aM) (h:Fb kz pi wi tn):DK K aB aP aM (El kz pi wi) (Ld kz) (Ru pi wi) [so] [[]] [] :=
 ((DK.nil.Rb F.f Dv (fun _ z=>nomatch z) (fun _ z=>nomatch z) (fun _ z=>nomatch z) (by decide) h.k1 h.k2).rank F.f Lb (fun b hb=>by rw [List.mem_singleton.mp hb]; show ("great" : Str) ≠ "flute"; decide +kernel) (fun _ z=>nomatch z) (fun _ z=>nomatch z) (by decide) h.p1 h.p2 h.w1 h.w2).plain F.f (.inl rfl) RC (fun b hb=>by rw [List.mem_singleton.mp hb]; show ("great" : Str) ≠ "open"; decide +kernel) (fun b hb=>by rw [List.mem_singleton.mp hb]; show ("flute" : Str) ≠ "open"; decide +kernel) (fun _ z=>nomatch z) (by decide) Dv (List.mem_singleton.mpr rfl)
theorem in1 {α:Type} {P:α->Prop} {a:α} (h:P a):∀ x∈[a],P x:=fun x hx=>by rw [List.mem_singleton.mp hx]; exact h
theorem Pu {α:Type} {P:α->Prop} {A:List α} {f:Nat->α} {m:Nat} (h:∀ x∈A,P x) (g:∀ k,k<m->P (f k)):∀ x∈A++(List.range m).map f,P x:=fun x hx=>by
 rcases List.mem_append.mp hx with z | z
 ·exact h x z
 ·obtain ⟨k,hk,rfl⟩:=List.mem_map.mp z
  exact g k (List.mem_range.mp hk)
theorem Rn {k m:Nat} (h:k<m) (hm:m<600):Bp k ≠ Bp m:=fun e=>by
 have:=G8 (by omega) (by omega) e
 omega
theorem Nj {A:List Str} {f:Nat->Nat} {m:Nat} (hA:A.Nodup) (h:∀ a∈A,∀ k,a ≠ Bp k) (hf:∀ i j,i<m->j<m->f i=f j->i=j) (hb:∀ i,i<m->f i<676):(A++(List.range m).map fun k=>Bp (f k)).Nodup:=by
 refine List.nodup_append.mpr ⟨hA,?_,fun a ha b hb'=>?_⟩
 ·refine Oz fun i j x hi hj=>?_
  rw [List.getElem?_map] at hi hj
  obtain ⟨i',hi1,hi2⟩:=Option.map_eq_some_iff.mp hi
  obtain ⟨j',hj1,hj2⟩:=Option.map_eq_some_iff.mp hj
  have li:i<m:=by have:=(List.getElem?_eq_some_iff.mp hi1).1; rwa [List.length_range] at this
  have lj:j<m:=by have:=(List.getElem?_eq_some_iff.mp hj1).1; rwa [List.length_range] at this
  rw [List.getElem?_range li] at hi1
  rw [List.getElem?_range lj] at hj1
  cases hi1
  cases hj1
  exact hf i j li lj (G8 (hb i li) (hb j lj) (hi2.trans hj2.symm))
 ·obtain ⟨k,_,rfl⟩:=List.mem_map.mp hb'
  exact h a ha _
noncomputable abbrev DQ (j:Nat) (kz pi:Nat) (wi tn:Int) (m:Nat):List R:=El kz pi wi++(List.range m).map (Dg j kz tn)
theorem WP (F:Hw K aB aP aM) (h:Fb kz pi wi tn):∀ m,m<=4->DK K aB aP aM (DQ 0 kz pi wi tn m) (Ld kz++(List.range m).map fun k=>(Bp k,1+k % 61)) (Ru pi wi) [so] [[]] []
 | 0,_=>by
  have:=WF F h
  rwa [← List.append_nil (El kz pi wi),← List.append_nil (Ld kz)] at this
 | m+1,hm=>by
  have ih:=WP F h m (by omega)
  unfold DQ
  rw [ms,ms]
  exact ih.Rb F.f (CN m) (Pu (in1 (Ed m)) fun k hk=>Rn hk (by omega)) (in1 (Ef m)) (in1 (Dl m)) (by rw [List.length_append,List.length_map,List.length_range]; show 1+m<5; omega) (by omega) (by omega)
theorem bz (F:Hw K aB aP aM) (h:Fb kz pi wi tn):C_ K aB aP aM (DQ 0 kz pi wi tn 4) (Dg 0 kz tn 4) :=
 (WP F h 4 (by omega)).QV F.f (CN 4) (Pu (in1 (Ed 4)) fun k hk=>Rn hk (by omega)) (in1 (Ef 4)) (in1 (Dl 4)) rfl (by omega) (by omega)
theorem U4 (F:Hw K aB aP aM) (h:Fb kz pi wi tn):∀ m,m<=11->DK K aB aP aM (DQ 1 kz pi wi tn m) (Ld kz) (Ru pi wi++(List.range m).map fun k=>(Bp k,1+k % 97,(k:Int))) [so] [[]] []
 | 0,_=>by
  have:=WF F h
  rwa [← List.append_nil (El kz pi wi),← List.append_nil (Ru pi wi)] at this
 | m+1,hm=>by
  have ih:=U4 F h m (by omega)
  unfold DQ
  rw [ms,ms]
  exact ih.rank F.f (CN m) (in1 (Ed m)) (Pu (in1 (Ef m)) fun k hk=>Rn hk (by omega)) (in1 (Dl m)) (by rw [List.length_append,List.length_map,List.length_range]; show 1+m<12; omega) (by omega) (by omega) (by omega) (by omega)
theorem bU (F:Hw K aB aP aM) (h:Fb kz pi wi tn):C_ K aB aP aM (DQ 1 kz pi wi tn 11) (Dg 1 kz tn 11) :=
 (U4 F h 11 (by omega)).Rw F.f (CN 11) (in1 (Ed 11)) (Pu (in1 (Ef 11)) fun k hk=>Rn hk (by omega)) (in1 (Dl 11)) rfl (by omega) (by omega) (by decide) (by decide)
theorem FJ {w:Str} {A:List R} {f:Nat->R} (hf:∀ k,(f k).w=w) (m:Nat):((A++(List.range m).map f).filter fun r=>decide (V.str r.w=V.str w)).length=(A.filter fun r=>decide (V.str r.w=V.str w)).length+m:=by
 rw [List.filter_append,List.length_append]
 congr 1
 rw [List.filter_eq_self.mpr fun r hr=>?_,List.length_map,List.length_range]
 obtain ⟨k,_,rfl⟩:=List.mem_map.mp hr
 exact decide_eq_true (by rw [hf k])
theorem VP (F:Hw K aB aP aM) (h:Fb kz pi wi tn):∀ m,m<=23->∃ ls,DK K aB aP aM (DQ 2 kz pi wi tn m) (Ld kz) (Ru pi wi) ([so]++(List.range m).map (Dg 2 kz tn)) ls []
 | 0,_=>by
  have:=WF F h
  rw [← List.append_nil (El kz pi wi),← List.append_nil [so]] at this
  exact ⟨_,this⟩
 | m+1,hm=>by
  obtain ⟨ls,ih⟩:=VP F h m (by omega)
  unfold DQ
  rw [ms,ms]
  exact ⟨_,ih.plain F.f (.inl rfl) (CN m) (in1 (Ed m)) (in1 (Ef m)) (Pu (in1 (Dl m)) fun k hk=>Rn hk (by omega)) (by rw [FJ (w:="stop") (fun _=>rfl)]; show 1+m<Dq "stop"; rw [show Dq "stop" = 24 by decide +kernel]; omega) Dv (List.mem_singleton.mpr rfl)⟩
theorem cG (F:Hw K aB aP aM) (h:Fb kz pi wi tn):C_ K aB aP aM (DQ 2 kz pi wi tn 23) (Dg 2 kz tn 23):=by
 obtain ⟨ls,b⟩:=VP F h 23 (by omega)
 exact b.Kh F.f (.inl rfl) (CN 23) (in1 (Ed 23)) (in1 (Ef 23)) (Pu (in1 (Dl 23)) fun k hk=>Rn hk (by omega)) (by rw [FJ (w:="stop") (fun _=>rfl)]; decide +kernel) Dv (List.mem_singleton.mpr rfl)
theorem WD (F:Hw K aB aP aM) (h:Fb kz pi wi tn):∀ m,m<=5->∃ ls,DK K aB aP aM (DQ 5 kz pi wi tn m) (Ld kz) (Ru pi wi) ([so]++(List.range m).map (Dg 5 kz tn)) ls []
 | 0,_=>by
  have:=WF F h
  rw [← List.append_nil (El kz pi wi),← List.append_nil [so]] at this
  exact ⟨_,this⟩
 | m+1,hm=>by
  obtain ⟨ls,ih⟩:=WD F h m (by omega)
  unfold DQ
  rw [ms,ms]
  exact ⟨_,ih.plain F.f (.inr rfl) (CN m) (in1 (Ed m)) (in1 (Ef m)) (Pu (in1 (Dl m)) fun k hk=>Rn hk (by omega)) (by rw [FJ (w:="mute") (fun _=>rfl)]; show 0+m<Dq "mute"; rw [show Dq "mute" = 5 by decide +kernel]; omega) Dv (List.mem_singleton.mpr rfl)⟩
theorem ak (F:Hw K aB aP aM) (h:Fb kz pi wi tn):C_ K aB aP aM (DQ 5 kz pi wi tn 5) (Dg 5 kz tn 5):=by
 obtain ⟨ls,b⟩:=WD F h 5 (by omega)
 exact b.Kh F.f (.inr rfl) (CN 5) (in1 (Ed 5)) (in1 (Ef 5)) (Pu (in1 (Dl 5)) fun k hk=>Rn hk (by omega)) (by rw [FJ (w:="mute") (fun _=>rfl)]; decide +kernel) Dv (List.mem_singleton.mpr rfl)
theorem Ys (h:Fb kz pi wi tn) {m:Nat} (hm:m<=12) : -60<=tn * (60 - 10 * (m:Int))/\tn * (60 - 10 * (m:Int))<=60:=by
 rcases h.t with rfl | rfl <;> omega
theorem UT (h:Fb kz pi wi tn) {m:Nat} (hm:m<=4) : -200<=tn * (200 - 100 * (m:Int))/\tn * (200 - 100 * (m:Int))<=200:=by
 rcases h.t with rfl | rfl <;> omega
theorem V_ (F:Hw K aB aP aM) (h:Fb kz pi wi tn):∀ m,m<=12->∃ ls,DK K aB aP aM (DQ 4 kz pi wi tn m) (Ld kz) (Ru pi wi) ([so]++(List.range m).map (Dg 4 kz tn)) ls []
 | 0,_=>by
  have:=WF F h
  rw [← List.append_nil (El kz pi wi),← List.append_nil [so]] at this
  exact ⟨_,this⟩
 | m+1,hm=>by
  obtain ⟨ls,ih⟩:=V_ F h m (by omega)
  obtain ⟨g1,g2⟩:=Ys h (m:=m) (by omega)
  unfold DQ
  rw [ms,ms]
  exact ⟨_,ih.Nr F.f (CN m) (in1 (Ed m)) (in1 (Ef m)) (Pu (in1 (Dl m)) fun k hk=>Rn hk (by omega)) (by rw [FJ (w:="coupler") (fun _=>rfl)]; show 0+m<12; omega) Dv (List.mem_singleton.mpr rfl) Dv (List.mem_singleton.mpr rfl) g1 g2⟩
theorem Z0 (F:Hw K aB aP aM) (h:Fb kz pi wi tn):C_ K aB aP aM (DQ 4 kz pi wi tn 12) (Dg 4 kz tn 12):=by
 obtain ⟨ls,b⟩:=V_ F h 12 (by omega)
 obtain ⟨g1,g2⟩:=Ys h (m:=12) (by omega)
 exact b.Ma F.f (CN 12) (in1 (Ed 12)) (in1 (Ef 12)) (Pu (in1 (Dl 12)) fun k hk=>Rn hk (by omega)) (by rw [FJ (w:="coupler") (fun _=>rfl)]; decide +kernel) Dv (List.mem_singleton.mpr rfl) Dv (List.mem_singleton.mpr rfl) g1 g2
theorem VN (F:Hw K aB aP aM) (h:Fb kz pi wi tn):∀ m,m<=12->∃ sts,sts.length=m/\DK K aB aP aM (DQ 6 kz pi wi tn m) (Ld kz) (Ru pi wi) [so] [[]] sts
 | 0,_=>by
  have:=WF F h
  rw [← List.append_nil (El kz pi wi)] at this
  exact ⟨[],rfl,this⟩
 | m+1,hm=>by
  obtain ⟨sts,hl,ih⟩:=VN F h m (by omega)
  have:=ih.step F.mT (t0:="open") (ts:=[]) (by simp) (by decide) (fun t ht=>by rw [List.mem_singleton.mp ht]; exact ⟨RC,so,List.mem_singleton.mpr rfl,rfl,rfl⟩) (by omega)
  unfold DQ
  rw [ms]
  exact ⟨_,(by rw [List.length_append,hl]; rfl),this⟩
theorem aQ (F:Hw K aB aP aM) (h:Fb kz pi wi tn):C_ K aB aP aM (DQ 6 kz pi wi tn 12) (Dg 6 kz tn 12):=by
 obtain ⟨sts,hl,b⟩:=VN F h 12 (by omega)
 exact b.Tw F.mT (t0:="open") (ts:=[]) (by simp) (by decide) (fun t ht=>by rw [List.mem_singleton.mp ht]; exact ⟨RC,so,List.mem_singleton.mpr rfl,rfl,rfl⟩) hl
theorem Yq (m:Nat):Tl (DQ 3 kz pi wi tn m) "great" m :=
 ⟨[Dy ("great",kz),En ("flute",pi,wi)],so,(List.range m).map (Dg 3 kz tn),rfl,rfl,rfl,by rw [List.length_map,List.length_range],fun r hr=>by
  obtain ⟨k,_,rfl⟩:=List.mem_map.mp hr
  rfl⟩
theorem WT (F:Hw K aB aP aM) (h:Fb kz pi wi tn):∀ m,m<=4->∃ l0,DK K aB aP aM (DQ 3 kz pi wi tn m) (Ld kz) (Ru pi wi) [so] ([]++[l0]) []
 | 0,_=>by
  have:=WF F h
  rw [← List.append_nil (El kz pi wi)] at this
  exact ⟨[],this⟩
 | m+1,hm=>by
  obtain ⟨l0,ih⟩:=WT F h m (by omega)
  obtain ⟨g1,g2⟩:=UT h (m:=m) (by omega)
  have:=h.k1
  have:=h.k2
  unfold DQ
  rw [ms]
  exact ⟨_,ih.line F.f (Yq m) (by omega) (j:=0) rfl (by simp) Lb (List.mem_singleton.mpr rfl) (by omega) (by omega) g1 g2 (by decide) (by omega)⟩
theorem aL (F:Hw K aB aP aM) (h:Fb kz pi wi tn):C_ K aB aP aM (DQ 3 kz pi wi tn 4) (Dg 3 kz tn 4):=by
 obtain ⟨l0,b⟩:=WT F h 4 (by omega)
 obtain ⟨g1,g2⟩:=UT h (m:=4) (by omega)
 have:=h.k1
 have:=h.k2
 exact b.Tu F.f (Yq 4) (by omega) (j:=0) rfl Lb (by omega) g1 g2 (by decide) (by omega)
noncomputable def Fi (j:Nat):Nat:=match j with
 | 0=>4 | 1=>11 | 2=>23 | 3=>4 | 4=>12 | 5=>5 | _=>12
theorem Hl (j kz pi:Nat) (wi tn:Int) (m:Nat):(DQ j kz pi wi tn m).length=3+m:=by
 unfold DQ
 rw [List.length_append,List.length_map,List.length_range]
 rfl
theorem Ii {α:Type} {g:α->Str} {A:List α} {f:Nat->α} {h:Nat->Nat} {m:Nat} (hA:(A.map g).Nodup) (hn:∀ a∈A,∀ k,g a ≠ Bp k) (hg:∀ k,g (f k)=Bp (h k)) (hf:∀ i j,i<m->j<m->h i=h j->i=j) (hb:∀ i,i<m->h i<676):((A++(List.range m).map f).map g).Nodup:=by
 rw [List.map_append,List.map_map]
 rw [show (List.range m).map (g ∘ f)=(List.range m).map fun k=>Bp (h k) from List.map_congr_left fun k _=>hg k]
 refine Nj hA (fun a ha k=>?_) hf hb
 obtain ⟨x,hx,rfl⟩:=List.mem_map.mp ha
 exact hn x hx k
theorem Xy (F:Hw K aB aP aM) (h:Fb kz pi wi tn):∀ j,j<7->(∃ bs rk ks ls sts,V8 K aB aP aM (DQ j kz pi wi tn (Fi j)) bs rk ks ls sts)/\C_ K aB aP aM (DQ j kz pi wi tn (Fi j)) (Dg j kz tn (Fi j))
 | 0,_=>⟨⟨_,_,_,_,_,WP F h 4 (by omega),by show 1<=5; decide,by show 5<=5; decide,Pu (in1 h.k2) (fun k _=>by show 1+k % 61<=61; omega),by show 1<=12; decide,in1 h.p2,by decide,Ii (h:=id) (by simp) (in1 Ed) (fun _=>rfl) (fun _ _ _ _ e=>e) (fun i hi=>by show i<676; omega),by simp,by simp,by rw [Hl]; decide⟩,bz F h⟩
 | 1,_=>⟨⟨_,_,_,_,_,U4 F h 11 (by omega),by show 1<=1; decide,by show 1<=5; decide,in1 h.k2,by show 12<=12; decide,Pu (in1 h.p2) (fun k _=>by show 1+k % 97<=97; omega),by decide,by simp,Ii (h:=id) (by simp) (in1 Ef) (fun _=>rfl) (fun _ _ _ _ e=>e) (fun i hi=>by show i<676; omega),by simp,by rw [Hl]; decide⟩,bU F h⟩
 | 2,_=>by
  obtain ⟨ls,b⟩:=VP F h 23 (by omega)
  exact ⟨⟨_,_,_,_,_,b,by show 1<=1; decide,by show 1<=5; decide,in1 h.k2,by show 1<=12; decide,in1 h.p2,by show 24<=100; decide,by simp,by simp,Ii (h:=id) (by simp) (in1 Dl) (fun _=>rfl) (fun _ _ _ _ e=>e) (fun i hi=>by show i<676; omega),by rw [Hl]; decide⟩,cG F h⟩
 | 3,_=>by
  obtain ⟨l0,b⟩:=WT F h 4 (by omega)
  exact ⟨⟨_,_,_,_,_,b,by show 1<=1; decide,by show 1<=5; decide,in1 h.k2,by show 1<=12; decide,in1 h.p2,by decide,by simp,by simp,by simp,by rw [Hl]; decide⟩,aL F h⟩
 | 4,_=>by
  obtain ⟨ls,b⟩:=V_ F h 12 (by omega)
  exact ⟨⟨_,_,_,_,_,b,by show 1<=1; decide,by show 1<=5; decide,in1 h.k2,by show 1<=12; decide,in1 h.p2,by show 13<=100; decide,by simp,by simp,Ii (h:=id) (by simp) (in1 Dl) (fun _=>rfl) (fun _ _ _ _ e=>e) (fun i hi=>by show i<676; omega),by rw [Hl]; decide⟩,Z0 F h⟩
 | 5,_=>by
  obtain ⟨ls,b⟩:=WD F h 5 (by omega)
  exact ⟨⟨_,_,_,_,_,b,by show 1<=1; decide,by show 1<=5; decide,in1 h.k2,by show 1<=12; decide,in1 h.p2,by show 6<=100; decide,by simp,by simp,Ii (h:=id) (by simp) (in1 Dl) (fun _=>rfl) (fun _ _ _ _ e=>e) (fun i hi=>by show i<676; omega),by rw [Hl]; decide⟩,ak F h⟩
 | 6,_=>by
  obtain ⟨sts,_,b⟩:=VN F h 12 (by omega)
  exact ⟨⟨_,_,_,_,_,b,by show 1<=1; decide,by show 1<=5; decide,in1 h.k2,by show 1<=12; decide,in1 h.p2,by decide,by simp,by simp,by simp,by rw [Hl]; decide⟩,aQ F h⟩
 | j+7,hj=>absurd hj (by omega)
noncomputable abbrev My:List (Str × Nat × Int):=[("flute",97,1000000000)]
theorem Tt (F:Hw K aB aP aM):DK K aB aP aM (Fg 0) (Ld 61) My [] [] [] :=
 (DK.nil.Rb F.f Dv (fun _ z=>nomatch z) (fun _ z=>nomatch z) (fun _ z=>nomatch z) (by decide) (by decide) (by decide)).rank F.f Lb (fun b hb=>by rw [List.mem_singleton.mp hb]; show ("great" : Str) ≠ "flute"; decide +kernel) (fun _ z=>nomatch z) (fun _ z=>nomatch z) (by decide) (by decide) (by decide) (by decide) (by decide)
theorem Ut (F:Hw K aB aP aM) {rows:List R} {ks:List R} {ls:List (List Ln)} {n:Nat} (hn:n<24) (b:DK K aB aP aM (rows++[Hv n]) (Ld 61) My ks (ls++[[]]) []):∀ m,m<=4->Tl (rows++[Hv n]++(List.range m).map (QF n)) "great" m/\∃ l0,DK K aB aP aM (rows++[Hv n]++(List.range m).map (QF n)) (Ld 61) My ks (ls++[l0]) []
 | 0,_=>by
  rw [List.range_zero,List.map_nil,List.append_nil]
  exact ⟨Tl.stop rows _ _,_,b⟩
 | m+1,hm=>by
  obtain ⟨T,l0,ih⟩:=Ut F hn b m (by omega)
  rw [ms]
  exact ⟨T.line rfl,_,ih.line F.f T (by omega) (j:=0) rfl (by simp) Lb (List.mem_singleton.mpr rfl) (by omega) (by decide) (by omega) (by omega) (by omega) (by decide)⟩
theorem nms {m k:Nat} {f:Nat->R} {g:Nat->Nat} (hg:∀ i,(f i).nm=Bp (g i)) (hk:k<676) (hb:∀ i,i<m->g i<676/\g i ≠ k):∀ r∈(List.range m).map f,r.nm ≠ Bp k:=fun r hr e=>by
 obtain ⟨i,hi,rfl⟩:=List.mem_map.mp hr
 obtain ⟨h1,h2⟩:=hb i (List.mem_range.mp hi)
 rw [hg] at e
 exact h2 (G8 h1 hk e)
theorem Q6 (F:Hw K aB aP aM):∀ n,n<=24->∃ ls,DK K aB aP aM (Fg n) (Ld 61) My ((List.range n).map Hv) ls []
 | 0,_=>⟨_,Tt F⟩
 | n+1,hn=>by
  obtain ⟨ls,ih⟩:=Q6 F n (by omega)
  have b:=ih.plain F.f (.inl rfl) (CN n) (in1 (Ed n)) (in1 (Ef n)) (nms (g:=id) (fun _=>rfl) (by omega) fun i hi=>⟨by show i<676; omega,by show i ≠ n; omega⟩) (by
   have:=FJ (w:="stop") (A:=[]) (f:=Hv) (fun _=>rfl) n
   rw [List.nil_append] at this
   rw [this]
   show 0+n<Dq "stop"
   rw [show Dq "stop" = 24 by decide +kernel]
   omega) Dv (List.mem_singleton.mpr rfl)
  obtain ⟨_,l0,b4⟩:=Ut F (by omega) b 4 (by omega)
  rw [List.range_succ,List.map_append]
  exact ⟨_,b4⟩
theorem SN {P:R->Prop} {A B:List R} (h:∀ x∈A,P x) (g:∀ x∈B,P x):∀ x∈A++B,P x:=fun x hx=>(List.mem_append.mp hx).elim (h x) (g x)
theorem Q0 {w:Str} {A:List R} (h:∀ r∈A,r.w ≠ w):(A.filter fun r=>decide (V.str r.w=V.str w)).length=0:=by
 rw [List.filter_eq_nil_iff.mpr fun r hr z=>h r hr (V.str.inj (of_decide_eq_true z))]
 rfl
theorem bj {P:R->Prop} {m:Nat} {f:Nat->R} (h:∀ k,k<m->P (f k)):∀ x∈(List.range m).map f,P x:=fun x hx=>by
 obtain ⟨k,hk,rfl⟩:=List.mem_map.mp hx
 exact h k (List.mem_range.mp hk)
theorem QL (F:Hw K aB aP aM):∀ m,m<=12->∃ ls,DK K aB aP aM (Fg 24++(List.range m).map JR) (Ld 61) My ((List.range 24).map Hv++(List.range m).map JR) ls []
 | 0,_=>by
  obtain ⟨ls,b⟩:=Q6 F 24 (by omega)
  rw [List.range_zero,List.map_nil,List.append_nil,List.append_nil]
  exact ⟨_,b⟩
 | m+1,hm=>by
  obtain ⟨ls,ih⟩:=QL F m (by omega)
  rw [ms _ JR m,ms _ JR m]
  exact ⟨_,ih.Nr F.f (CN (30+m)) (in1 (Ed (30+m))) (in1 (Ef (30+m))) (SN (nms (g:=id) (fun _=>rfl) (by omega) fun i hi=>⟨by show i<676; omega,by show i ≠ 30+m; omega⟩) (nms (g:=fun k=>30+k) (fun _=>rfl) (by omega) fun i hi=>⟨by show 30+i<676; omega,by show 30+i ≠ 30+m; omega⟩)) (by
   rw [FJ (w:="coupler") (fun _=>rfl),Q0 (bj fun k _=>by show ("stop" : Str) ≠ "coupler"; decide +kernel)]
   omega) Dv (List.mem_singleton.mpr rfl) Dv (List.mem_singleton.mpr rfl) (by omega) (by omega)⟩
theorem P0 (F:Hw K aB aP aM):∀ m,m<=5->∃ ls,DK K aB aP aM (Fg 24++(List.range 12).map JR++(List.range m).map La) (Ld 61) My ((List.range 24).map Hv++(List.range 12).map JR++(List.range m).map La) ls []
 | 0,_=>by
  obtain ⟨ls,b⟩:=QL F 12 (by omega)
  rw [List.range_zero,List.map_nil,List.append_nil,List.append_nil]
  exact ⟨_,b⟩
 | m+1,hm=>by
  obtain ⟨ls,ih⟩:=P0 F m (by omega)
  rw [ms _ La m,ms _ La m]
  exact ⟨_,ih.plain F.f (.inr rfl) (CN (50+m)) (in1 (Ed (50+m))) (in1 (Ef (50+m))) (SN (SN (nms (g:=id) (fun _=>rfl) (by omega) fun i hi=>⟨by show i<676; omega,by show i ≠ 50+m; omega⟩) (nms (g:=fun k=>30+k) (fun _=>rfl) (by omega) fun i hi=>⟨by show 30+i<676; omega,by show 30+i ≠ 50+m; omega⟩)) (nms (g:=fun k=>50+k) (fun _=>rfl) (by omega) fun i hi=>⟨by show 50+i<676; omega,by show 50+i ≠ 50+m; omega⟩)) (by
   rw [FJ (w:="mute") (fun _=>rfl),Q0 (SN (bj fun k _=>by show ("stop" : Str) ≠ "mute"; decide +kernel) (bj fun k _=>by show ("coupler" : Str) ≠ "mute"; decide +kernel))]
   show 0+m<Dq "mute"
   rw [show Dq "mute" = 5 by decide +kernel]
   omega) Dv (List.mem_singleton.mpr rfl)⟩
noncomputable abbrev ZX:List R:=(List.range 24).map Hv++(List.range 12).map JR++(List.range 5).map La
theorem RQ (F:Hw K aB aP aM):∀ m,m<=11->∃ ls sts,sts.length=m/\DK K aB aP aM (Fg 24++(List.range 12).map JR++(List.range 5).map La++(List.range m).map TF) (Ld 61) My ZX ls sts
 | 0,_=>by
  obtain ⟨ls,b⟩:=P0 F 5 (by omega)
  rw [List.range_zero,List.map_nil,List.append_nil]
  exact ⟨_,[],rfl,b⟩
 | m+1,hm=>by
  obtain ⟨ls,sts,hl,ih⟩:=RQ F m (by omega)
  have hin:∀ k,k<24->∃ r∈ZX,r.w = "stop" /\ r.nm=Bp k:=fun k hk=>⟨Hv k,List.mem_append_left _ (List.mem_append_left _ (List.mem_map.mpr ⟨k,List.mem_range.mpr hk,rfl⟩)),rfl,rfl⟩
  have b:=ih.step F.mT (t0:=Bp m) (ts:=[Bp (23 - m)]) (by
   rw [List.nodup_cons]
   refine ⟨fun z=>?_,by simp⟩
   have:=G8 (by omega) (by omega) (List.mem_singleton.mp z)
   omega) (by show 2<=24; decide) (fun t ht=>by
   rcases List.mem_cons.mp ht with rfl | z
   ·exact ⟨CN m,hin m (by omega)⟩
   ·rw [List.mem_singleton.mp z]
    exact ⟨CN _,hin _ (by omega)⟩) (by omega)
  rw [ms _ TF m]
  exact ⟨_,_,(by rw [List.length_append,hl]; rfl),b⟩
theorem cF (F:Hw K aB aP aM):∃ bs rk ks ls sts,V8 K aB aP aM J3 bs rk ks ls sts:=by
 obtain ⟨ls,sts,_,b⟩:=RQ F 11 (by omega)
 refine ⟨_,_,_,_,_,b,by decide,by decide,in1 (by decide),by decide,in1 (by decide),by show 41<=100; decide,by simp,by simp,?_,by rw [Ih]; decide⟩
 have e:ZX.map (·.nm)=([]:List Str)++(List.range 41).map fun k=>Bp (if k<24 then k else if k<36 then k+6 else k+14):=by
  rfl
 rw [e]
 refine Nj (by simp) (fun _ z=>nomatch z) (fun i j hi hj z=>?_) (fun i hi=>?_)
 ·split at z <;> split at z <;> (try split at z) <;> (try split at z) <;> omega
 ·split <;> (try split) <;> omega
noncomputable def NB (K:PySem.W.Frag):Sp:=fun vs H Q _=>∃ (a:Addr) (ns:List Int),vs=[.ref a]/\Cz K H a (ns.map V.int)/\ns.length<=63/\∀ H',Q (.bl true) H'
theorem QR (vs:List V):Ds vs none (some (-1))=vs.take (vs.length - 1):=by
 unfold Ds
 rw [HT.Gz,List.drop_zero]
 have:HT.DG vs.length vs.length (some (-1))=vs.length - 1:=by
  unfold HT.DG
  dsimp only
  split <;> omega
 rw [this]
 rfl
theorem Q3 (ns:List Int):∃ ms:List Int,Ds (ns.map V.int) none (some 7)=ms.map V.int/\ms.length<=ns.length:=by
 unfold Ds
 rw [← List.map_drop,← List.map_take]
 exact ⟨_,rfl,by rw [List.length_take,List.length_drop]; omega⟩
theorem Jx {α β:Type} {F:α->β->Prop} {l:List α} {a:α} {us:List β} (h:Paired F (l++[a]) us):∃ vs v,us=vs++[v]/\Paired F l vs/\F a v:=by
 have hl:(l++[a]).length=us.length:=h.length
 rw [List.length_append,List.length_singleton] at hl
 obtain ⟨v,hv,fv⟩:=Ip h (i:=l.length) (a:=a) (by rw [List.getElem?_append_right (Nat.le_refl _),Nat.sub_self]; rfl)
 have ht:=Kq h l.length
 rw [List.take_append_of_le_length (Nat.le_refl _),List.take_length] at ht
 refine ⟨us.take l.length,v,?_,ht,fv⟩
 refine List.ext_getElem? fun i=>?_
 by_cases h1:i<l.length
 ·rw [List.getElem?_append_left (by rw [List.length_take]; omega),List.getElem?_take,if_pos h1]
 ·rw [List.getElem?_append_right (by rw [List.length_take]; omega),List.length_take,Nat.min_eq_left (by omega)]
  by_cases h2:i=l.length
  ·subst h2
   rw [hv,Nat.sub_self]
   rfl
  ·rw [List.getElem?_eq_none (by omega),List.getElem?_eq_none (by simp; omega)]
noncomputable abbrev Vh:List V:=[.str "board",.str "rank",.str "stop",.str "line",.str "coupler",.str "mute",.str "step"]
noncomputable abbrev V5:List V:=[.int 4,.int 11,.int 23,.int 4,.int 12,.int 5,.int 12]
theorem Uz:∀ j,j<7->Vh[j]? = some (.str (Yg j))
 | 0,_=>rfl
 | 1,_=>rfl
 | 2,_=>rfl
 | 3,_=>rfl
 | 4,_=>rfl
 | 5,_=>rfl
 | 6,_=>rfl
 | j+7,h=>absurd h (by omega)
theorem Vp:∀ j,j<7->V5[j]? = some (.int (Fi j:Nat))
 | 0,_=>rfl
 | 1,_=>rfl
 | 2,_=>rfl
 | 3,_=>rfl
 | 4,_=>rfl
 | 5,_=>rfl
 | 6,_=>rfl
 | j+7,h=>absurd h (by omega)
theorem Ux (j:Nat):Fi j<=23:=by
 unfold Fi
 split <;> omega
theorem Hm:Ax ["_law_script","_law_first_here","_law_words","_law_counts","_law_cell","_law_at","_law_rows","_law_full_here"] ["_law_script"] (Ae J4):=Cg
theorem Vx {f:Addr} {fd:FuncData} (F:Dn K "law" "law" J4 f fd) (N:Z2 K mg C cN cB cO aD) (T:Txt K w.params mg C cN cB cO aN aK aB aP aM) (F0:Hw K aB aP aM):A_ P w K mg base B_ 12 f fd ["_law_script"] (NB K):=by
 have GLf:A_ P w K mg base B_ 2 aD.fLf aD.dLf ["_law_script"] (YL K):=X_ N T
 have GLo:A_ P w K mg base B_ 2 aD.fLo aD.dLo ["_law_kind","_law_many","_law_keys","_law_turn"] Xr:=Yv N T
 have GTk:A_ P w K mg base B_ 11 aD.fTk aD.dTk ["_law_rows"] (X3 K aB aP aM):=Yi N T
 have GRf:A_ P w K mg base B_ 11 aD.fRf aD.dRf ["_law_rows","_law_due"] (Wv K aB aP aM):=Xz N T
 have GLu:A_ P w K mg base B_ 2 aD.fLu aD.dLu [] X8:=Wh N T
 refine F.ok Hm (fun vs H Q E h=>?_) (fun cdv A outer s H vs Q E hr h=>?_)
 ·obtain ⟨a,ns,rfl,_⟩:=h
  rfl
 ·obtain ⟨a,ns,rfl,hS,hlen,q⟩:=h
  have hrLf:BZ 2 _:=hr.mono (by decide)
  have hrLo:BZ 2 _:=hr.mono (by decide)
  have hrTk:BZ 11 _:=hr.mono (by decide)
  have hrRf:BZ 11 _:=hr.mono (by decide)
  have hrLu:BZ 2 _:=hr.mono (by decide)
  refine ⟨_,(@Ah _ _ _ _ _ (@Cw _ _ _ _ _ _ 1 Hm.nd rfl (Or.inl rfl) (Ao GLf hrLf rfl N.FLf.2.2 N.FLf.1.kp N.FLf.2.1 .nil BL (@Aq _ _ _ _ _ rfl (pv 0) Ab)) rfl (Or.inl rfl)) (@Ah _ _ _ _ _ (@Cw _ _ _ _ _ _ 2 Hm.nd rfl (Or.inl rfl) (@Ci _ _ _ _ (@Aq _ _ _ _ _ rfl An (@Aq _ _ _ _ _ rfl An (@Aq _ _ _ _ _ rfl An (@Aq _ _ _ _ _ rfl An (@Aq _ _ _ _ _ rfl An (@Aq _ _ _ _ _ rfl An (@Aq _ _ _ _ _ rfl An Ab)))))))) rfl (Or.inl rfl)) (@Ah _ _ _ _ _ (@Cw _ _ _ _ _ _ 3 Hm.nd rfl (Or.inl rfl) (@Ci _ _ _ _ (@Aq _ _ _ _ _ rfl Ag (@Aq _ _ _ _ _ rfl Ag (@Aq _ _ _ _ _ rfl Ag (@Aq _ _ _ _ _ rfl Ag (@Aq _ _ _ _ _ rfl Ag (@Aq _ _ _ _ _ rfl Ag (@Aq _ _ _ _ _ rfl Ag Ab)))))))) rfl (Or.inl rfl)) (@Ah _ _ _ _ _ (FT PassesOwn.never rfl (CK (BP Eo (Ea IW (pv 0) Fd (Ez Ag)) (@Ci _ _ _ _ (@Aq _ _ _ _ _ rfl (Aw BV rfl T.len PySem.boot_len (@Aq _ _ _ _ _ rfl (pv 0) Ab)) Ab)))) (CG (i:=4) Hm.nd rfl (Or.inl rfl)) (@Ah _ _ _ _ _ (@Cw _ _ _ _ _ _ 5 Hm.nd rfl (Or.inl rfl) (BP Ej (pv 4) Ag) rfl (Or.inl rfl)) (@Ah _ _ _ _ _ (@Cw _ _ _ _ _ _ 6 Hm.nd rfl (Or.inl rfl) (BP Eo (pv 1) (Ao GLo hrLo rfl N.FLo.2.2 N.FLo.1.kp N.FLo.2.1 .nil BL (@Aq _ _ _ _ _ rfl (@Bc _ _ _ _ _ _ _ GK (pv 2) (pv 5) (fun _ _=>rfl)) (@Aq _ _ _ _ _ rfl (BP Ep (@Bc _ _ _ _ _ _ _ GK (pv 3) (pv 5) (fun _ _=>rfl)) Ag) (@Aq _ _ _ _ _ rfl (@Bc _ _ _ _ _ _ _ (BK (K:=K) rfl) (@Bc _ _ _ _ _ _ _ GK (pv 1) Ag (fun _ _=>rfl)) Ag (fun _ _=>rfl)) (@Aq _ _ _ _ _ rfl (BP Ek Ag (BP Hg (BP Ej (BP Gy (pv 4) Ag) Ag) Ag)) Ab)))))) rfl (Or.inl rfl)) (@Ah _ _ _ _ _ (@Br _ _ _ _ _ _ _ _ (PW.pt (Hs (Cq (Df (Ao GTk hrTk rfl N.FTk.2.2 N.FTk.1.kp N.FTk.2.1 .nil BL (@Aq _ _ _ _ _ rfl (Ea IW (pv 6) Fd (Ez (RJ Mq Ag))) Ab)))) (Gs (Cq (Df (Ao GRf hrRf rfl N.FRf.2.2 N.FRf.1.kp N.FRf.2.1 .nil BL (@Aq _ _ _ _ _ rfl (pv 6) (@Aq _ _ _ _ _ rfl (BP Ek (Aw BV rfl T.len PySem.boot_len (@Aq _ _ _ _ _ rfl (pv 6) Ab)) Ag) Ab)))))))) (@Ai _ _ _ (@Ay _ _ _ _ Fe)) BW) (@Ai _ _ _ (@Br _ _ _ _ _ _ _ _ (Cq (Df (Ao GRf hrRf rfl N.FRf.2.2 N.FRf.1.kp N.FRf.2.1 .nil BL (@Aq _ _ _ _ _ rfl (BP Eo (pv 6) (@Ci _ _ _ _ (@Aq _ _ _ _ _ rfl Hb Ab))) (@Aq _ _ _ _ _ rfl (BP Ek (Aw BV rfl T.len PySem.boot_len (@Aq _ _ _ _ _ rfl (pv 6) Ab)) Ag) Ab))))) (@Ai _ _ _ (@Ay _ _ _ _ Fe)) BW)))))) (@Ah _ _ _ _ _ (@Cw _ _ _ _ _ _ 7 Hm.nd rfl (Or.inl rfl) (QX GLu hrLu rfl N.FLu.2.2 N.FLu.1.kp N.FLu.2.1 .nil BL) rfl (Or.inl rfl)) (@Ai _ _ _ (@Ay _ _ _ _ (CJ (CZ Cu (Aw BV rfl T.len PySem.boot_len (@Aq _ _ _ _ _ rfl (pv 7) Ab)) Ag (Bb _)) (CJ (Ao GTk hrTk rfl N.FTk.2.2 N.FTk.1.kp N.FTk.2.1 .nil BL (@Aq _ _ _ _ _ rfl (pv 7) Ab)) (Cj (Ao GRf hrRf rfl N.FRf.2.2 N.FRf.1.kp N.FRf.2.1 .nil BL (@Aq _ _ _ _ _ rfl (BP Eo (pv 7) (@Ci _ _ _ _ (@Aq _ _ _ _ _ rfl (@Bk _ _ _ _ _ (@Aq _ _ _ _ _ rfl An (@Aq _ _ _ _ _ rfl An Ab))) Ab))) (@Aq _ _ _ _ _ rfl Hb Ab))))))))))))),?_⟩
  refine ⟨_,rfl,a,ns,rfl,hS,fun kz pi wi pF uF H1 k1 k2 p1 p2 w1 w2 s1 lF PF=>?_⟩
  refine ⟨by show 7<=sizeLine; decide,fun T2 hT2=>?_⟩
  generalize eH:upd H1 T2 _=H2
  have s2:Aj H1 H2:=by rw [← eH]; exact Ak hT2
  have t2:H2 T2=some (.lst Vh):=by rw [← eH]; exact Ac
  clear eH
  refine ⟨by show 7<=sizeLine; decide,fun T3 hT3=>?_⟩
  generalize eH:upd H2 T3 _=H3
  have s3:Aj H2 H3:=by rw [← eH]; exact Ak hT3
  have t3:H3 T3=some (.lst V5):=by rw [← eH]; exact Ac
  clear eH
  have s13:=s2.trans s3
  have lF3:=s13 _ _ lF
  have PF3:PR H3 _ _:=PR.mono s13 PF
  have tW3:=s3 _ _ t2
  have s03:=s1.trans s13
  clear s13 s1 s2 s3 t2 lF PF
  obtain ⟨ms,ems,lms⟩:=Q3 ns
  have hS3:=s03.seq hS
  refine ⟨_,rfl,_,rfl,a,_,rfl,hS3,fun p4 hp4=>?_⟩
  generalize eH:upd H3 p4 _=H4
  have s4:Aj H3 H4:=by rw [← eH]; exact Ak hp4
  have l4:H4 p4=some (.lst (ms.map V.int)):=by rw [← eH,← ems]; exact Ac
  clear eH
  refine ⟨_,rfl,a,_,rfl,.inl (s4.seq hS3),by show 1<=sizeLine; decide,fun p5 hp5=>?_⟩
  generalize eH:upd H4 p5 _=H5
  have s5:Aj H4 H5:=by rw [← eH]; exact Ak hp5
  have l5:H5 p5=some (.lst [V.int (((ns.map V.int).length:Nat):Int)]):=by rw [← eH]; exact Ac
  clear eH
  refine ⟨p4,p5,_,_,rfl,rfl,s5 _ _ l4,l5,Ck (by rw [List.length_map]; show ms.length+1<=1000; omega),fun p6 hp6=>?_⟩
  have ecs:ms.map V.int++[V.int (((ns.map V.int).length:Nat):Int)]=(ms++[(((ns.map V.int).length:Nat):Int)]).map V.int:=by rw [List.map_append]; rfl
  rw [ecs]
  generalize ms++[(((ns.map V.int).length:Nat):Int)]=cs
  obtain ⟨H6,eqH,s6,l6⟩:=Ht (o:=HO.lst (cs.map V.int)) hp6
  rw [eqH]
  have s36:=(s4.trans s5).trans s6
  have lF6:=s36 _ _ lF3
  have PF6:PR H6 _ _:=PR.mono s36 PF3
  have tW6:=s36 _ _ tW3
  have tC6:=s36 _ _ t3
  clear lF3 PF3 tW3 t3 s36 s4 s5 s6 l4 l5 hS3 hS ecs
  have hS6:Cz K H6 p6 (cs.map V.int):=.inl (.inl l6)
  refine ⟨p6,rfl,⟨_,hS6⟩,JC (K:=K) (a:=p6) (xs:=cs.map V.int) (fun i σ Hx=>Aj H6 Hx/\∃ v4 v5 v6,σ=[some (.ref a),some (.ref pF),some (.ref T2),some (.ref T3),v4,v5,v6,none]) ⟨Aj.refl _,_,_,_,rfl⟩ (fun i σ Hx _ h=>h.1.seq hS6) ?_ ?_⟩
  case refine_1 =>
   rintro i x σ H7 hx ⟨s7,v4,v5,v6,rfl⟩
   rw [List.getElem?_map] at hx
   obtain ⟨c,hc,rfl⟩:=Option.map_eq_some_iff.mp hx
   clear hc hx
   have lF:=s7 _ _ lF6
   have PF:PR H7 _ _:=PR.mono s7 PF6
   have tW:=s7 _ _ tW6
   have tC:=s7 _ _ tC6
   have m0:0<=c % 7:=Int.emod_nonneg _ (by decide)
   have m1:c % 7<7:=Int.emod_lt_of_pos _ (by decide)
   obtain ⟨j,ej⟩:∃ j:Nat,c % 7=(j:Nat):=⟨_,(Int.toNat_of_nonneg m0).symm⟩
   have hj:j<7:=by omega
   have htn:1 - c / 7 % 2 * 2=1 \/ 1 - c / 7 % 2 * 2 = -1:=by omega
   refine ⟨_,rfl,_,_,rfl,rfl,(by show (0:Int)<7; decide),?_⟩
   show Gh 5 (V.int (c % 7)) _ _ _
   rw [ej]
   obtain ⟨v0,hv0,Tb,rfl,hTb⟩:=Ip PF (i:=0) (a:=Dy ("great",kz)) rfl
   refine ⟨_,rfl,_,rfl,_,rfl,T2,Vh,_,_,rfl,rfl,.inl (.inl tW),Av (Uz j hj),_,rfl,_,rfl,T3,V5,_,_,rfl,rfl,.inl (.inl tC),Av (Vp j hj),_,_,rfl,rfl,_,rfl,pF,uF,_,_,rfl,rfl,.inl (.inl lF),Av (j:=0) hv0,Tb,_,_,_,rfl,rfl,.inl (.inl hTb),Av (j:=2) rfl,_,rfl,_,_,rfl,rfl,⟨by decide,by decide⟩,_,_,rfl,rfl,(by show (0:Int)<2; decide),_,_,rfl,rfl,.inr ⟨by decide,by decide⟩,_,_,rfl,rfl,?_⟩
   have I11:Fb kz pi wi (1 - c / 7 % 2 * 2):=⟨k1,k2,p1,p2,w1,w2,htn⟩
   have hc23:=Ux j
   obtain ⟨⟨bs,rk,ks,ls,sts,OR⟩,NM⟩:=Xy F0 I11 j hj
   refine ⟨j,Fi j+1,kz,_,rfl,hj,by omega,htn,fun D8 ys H8 s8 l8 P8=>?_⟩
   have hlF:uF.length=3:=by rw [← PF.length]; rfl
   have hly:ys.length=Fi j+1:=by rw [← P8.length,List.length_map,List.length_range]
   refine ⟨pF,D8,_,_,rfl,rfl,s8 _ _ lF,l8,Ck (by rw [hlF,hly]; omega),fun p9 hp9=>?_⟩
   have P89:PR H8 (DQ j kz pi wi (1 - c / 7 % 2 * 2) (Fi j+1)) (uF++ys):=By (PR.mono s8 PF) P8
   have hlu:(uF++ys).length=4+Fi j:=by rw [List.length_append,hlF,hly]; omega
   obtain ⟨H9,eqH,s9,l9⟩:=Ht (o:=HO.lst (uF++ys)) hp9
   rw [eqH]
   generalize uF++ys=us at P89 hlu l9
   have P9:PR H9 _ us:=PR.mono s9 P89
   unfold DQ at P9
   rw [K11.ms] at P9
   obtain ⟨vs,v,rfl,Pv,Tv⟩:=Jx P9
   rw [List.length_append,List.length_singleton] at hlu
   have hlv:vs.length=3+Fi j:=by omega
   have s69:Aj H6 H9:=s7.trans (s8.trans s9)
   clear P89 P8 l8 hly PF lF tW tC hTb hv0 s7 s8 s9 P9
   have e1:(((vs++[v]).length:Nat):Int) - 1=(((DQ j kz pi wi (1 - c / 7 % 2 * 2) (Fi j)).length:Nat):Int):=by rw [Hl,List.length_append,List.length_singleton,hlv]; omega
   refine ⟨_,rfl,_,rfl,_,rfl,p9,_,rfl,.inl (.inl l9),fun p10 hp10=>?_⟩
   generalize eH:upd H9 p10 _=H10
   have s10:Aj H9 H10:=by rw [← eH]; exact Ak hp10
   have l10:H10 p10=some (.lst vs):=by
    have:=congrFun eH p10
    rw [Ac] at this
    rw [← this]
    congr 2
    have e:=QR (vs++[v])
    rw [List.length_append,List.length_singleton,Nat.add_sub_cancel,List.take_append_of_le_length (Nat.le_refl _),List.take_length] at e
    exact e
   clear eH
   refine ⟨p10,vs,_,bs,rk,ks,ls,sts,rfl,l10,PR.mono s10 Pv,OR,fun H11 s11=>⟨_,rfl,Eb ?_⟩⟩
   have s911:=s10.trans s11
   have l11:=s911 _ _ l9
   have ra:Fj K aB aP aM H11 p9 (.int ((((vs++[v]).length:Nat):Int) - 1)):=by
    rw [e1]
    exact OR.bl.ref NM l11 (by rw [List.length_append,List.length_singleton]; omega) (PR.mono s911 Pv) (Tv.mono s911)
   refine ⟨_,rfl,_,rfl,p9,_,rfl,.inl (.inl (.inl l11)),_,_,rfl,rfl,p9,_,rfl,ra,fun H12 s12=>⟨_,rfl,Eb ?_⟩⟩
   have s912:=s911.trans s12
   have l12:=s912 _ _ l9
   refine ⟨_,rfl,by show 1<=sizeLine; decide,fun p13 hp13=>?_⟩
   obtain ⟨H13,eqH,s13,l13⟩:=Ht (o:=HO.lst [V.non]) hp13
   rw [eqH]
   refine ⟨p9,p13,_,_,rfl,rfl,s13 _ _ l12,l13,Ck (by rw [List.length_append,List.length_singleton,List.length_singleton]; omega),fun p14 hp14=>?_⟩
   have s14:=Ak (o:=HO.lst (vs++[v]++[V.non])) hp14
   have l14:upd H13 p14 (HO.lst (vs++[v]++[V.non])) p14=some (.lst (vs++v::[V.non])):=by
    rw [Ac,List.append_assoc]
    rfl
   generalize upd H13 p14 (HO.lst (vs++[v]++[V.non]))=H14 at s14 l14 ⊢
   have s914:=(s912.trans s13).trans s14
   have ra2:Fj K aB aP aM H14 p14 (.int ((((vs++[v]).length:Nat):Int) - 1)):=by
    rw [e1]
    exact OR.bl.ref NM l14 (by rw [List.length_append,List.length_cons,List.length_singleton]; omega) (PR.mono s914 Pv) (Tv.mono s914)
   refine ⟨_,rfl,p9,_,rfl,.inl (.inl (.inl (s914 _ _ l9))),_,_,rfl,rfl,p14,_,rfl,ra2,fun H15 s15=>⟨_,rfl,Eb ?_⟩⟩
   exact ⟨s69.trans (s914.trans s15),_,_,_,rfl⟩
  rintro σ H7 ⟨s7,v4,v5,v6,rfl⟩
  obtain ⟨bs,rk,ks,ls,sts,OR⟩:=cF F0
  refine ⟨rfl,fun D8 ys H8 s8 l8 P8=>?_⟩
  have hly:ys.length=150:=by rw [← P8.length,Ih]
  refine ⟨_,rfl,D8,_,rfl,.inl (.inl (.inl l8)),rfl,_,rfl,?_⟩
  have e150:decide (V.int ((ys.length:Nat):Int)=V.int 150)=true:=decide_eq_true (by rw [hly]; rfl)
  rw [e150]
  refine Dm ⟨_,rfl,D8,ys,_,bs,rk,ks,ls,sts,rfl,l8,P8,OR,fun H9 s9=>⟨_,rfl,Dm ?_⟩⟩
  refine ⟨_,rfl,?_⟩
  refine ⟨by show 2<=sizeLine; decide,fun T10 hT10=>?_⟩
  generalize eH:upd H9 T10 _=H10
  have s10:Aj H9 H10:=by rw [← eH]; exact Ak hT10
  have t10:H10 T10=some (.tup [V.str "step",.str "aax"]):=by rw [← eH]; exact Ac
  clear eH
  refine ⟨by show 1<=sizeLine; decide,fun T11 hT11=>?_⟩
  generalize eH:upd H10 T11 _=H11
  have s11:Aj H10 H11:=by rw [← eH]; exact Ak hT11
  have t11:H11 T11=some (.lst [V.ref T10]):=by rw [← eH]; exact Ac
  clear eH
  refine ⟨D8,T11,_,_,rfl,rfl,s11 _ _ (s10 _ _ (s9 _ _ l8)),t11,Ck (by rw [hly]; show 150+1<=1000; decide),fun p12 hp12=>?_⟩
  obtain ⟨H12,eqH,s12,l12⟩:=Ht (o:=HO.lst (ys++[V.ref T10])) hp12
  rw [eqH]
  exact ⟨p12,.non,rfl,.long l12 (.inr (by rw [List.length_append,hly]; show 150<150+1; decide)) (by rw [List.length_append,hly]; show 150+1<=1000; decide),fun H13 _=>q H13⟩
end
end K11
end PartK11m
section PartK11z
set_option maxHeartbeats 4000000
theorem UL1 {α:Type} {us:List α} (h:us.length=1):∃ a,us=[a]:=match us,h with | [a],_=>⟨a,rfl⟩
theorem UL2 {α:Type} {us:List α} (h:us.length=2):∃ a b,us=[a,b]:=match us,h with | [a,b],_=>⟨a,b,rfl⟩
theorem UL3 {α:Type} {us:List α} (h:us.length=3):∃ a b c,us=[a,b,c]:=match us,h with | [a,b,c],_=>⟨a,b,c,rfl⟩
theorem UL4 {α:Type} {us:List α} (h:us.length=4):∃ a b c d,us=[a,b,c,d]:=match us,h with | [a,b,c,d],_=>⟨a,b,c,d,rfl⟩
theorem UL5 {α:Type} {us:List α} (h:us.length=5):∃ a b c d e,us=[a,b,c,d,e]:=match us,h with | [a,b,c,d,e],_=>⟨a,b,c,d,e,rfl⟩
namespace K11
open PySem L2 Og
section
variable {K:W.Frag}
noncomputable abbrev DA (K:W.Frag) (x:Str) (st:Stmt) (f:Addr):Prop:=W.nsIn K mainGlobals x=some (some (.ref f))/\∃ fd,Dn K x x st f fd
noncomputable abbrev MA (K:W.Frag) (C:Addr) (x q:Str) (st:Stmt) (f:Addr):Prop:=W.findIn K (.ref C) x=some (some (.ref f))/\W.isFn K (.ref f)=true/\∃ fd,Dn K x q st f fd
theorem HR {x q:Str} {st:Stmt} {f:Addr} {fd:FuncData} {ps:List Str} (F:Dn K x q st f fd) (hl:ps.length=1:=by rfl) (h:∀ (kV doc pm:Value) (an:Option Addr) (cdv ct:Value) (u:Value),bindArgs (W.fnOf x q (DP st) (Cp st) (Ae st) .none kV doc pm an cdv ct) ⟨[u],[]⟩=pure (ps.zip [u]):=by intros; rfl):Binds K fd ps []:=F.binds fun kV doc pm an cdv ct us hu=>match us,hu.trans hl with | [u],_=>h kV doc pm an cdv ct u
theorem Fl {x q:Str} {st:Stmt} {f:Addr} {fd:FuncData} {ps:List Str} (F:Dn K x q st f fd) (hl:ps.length=2:=by rfl) (h:∀ (kV doc pm:Value) (an:Option Addr) (cdv ct:Value) (u v:Value),bindArgs (W.fnOf x q (DP st) (Cp st) (Ae st) .none kV doc pm an cdv ct) ⟨[u,v],[]⟩=pure (ps.zip [u,v]):=by intros; rfl):Binds K fd ps []:=F.binds fun kV doc pm an cdv ct us hu=>match us,hu.trans hl with | [u,v],_=>h kV doc pm an cdv ct u v
theorem S7 {x q:Str} {st:Stmt} {f:Addr} {fd:FuncData} {ps:List Str} (F:Dn K x q st f fd) (hl:ps.length=3:=by rfl) (h:∀ (kV doc pm:Value) (an:Option Addr) (cdv ct:Value) (u v a:Value),bindArgs (W.fnOf x q (DP st) (Cp st) (Ae st) .none kV doc pm an cdv ct) ⟨[u,v,a],[]⟩=pure (ps.zip [u,v,a]):=by intros; rfl):Binds K fd ps []:=F.binds fun kV doc pm an cdv ct us hu=>match us,hu.trans hl with | [u,v,a],_=>h kV doc pm an cdv ct u v a
theorem aa {x q:Str} {st:Stmt} {f:Addr} {fd:FuncData} {ps:List Str} (F:Dn K x q st f fd) (hl:ps.length=4:=by rfl) (h:∀ (kV doc pm:Value) (an:Option Addr) (cdv ct:Value) (u v a b:Value),bindArgs (W.fnOf x q (DP st) (Cp st) (Ae st) .none kV doc pm an cdv ct) ⟨[u,v,a,b],[]⟩=pure (ps.zip [u,v,a,b]):=by intros; rfl):Binds K fd ps []:=F.binds fun kV doc pm an cdv ct us hu=>match us,hu.trans hl with | [u,v,a,b],_=>h kV doc pm an cdv ct u v a b
theorem aq {x q:Str} {st:Stmt} {f:Addr} {fd:FuncData} {ps:List Str} (F:Dn K x q st f fd) (hl:ps.length=0:=by rfl) (h:∀ (kV doc pm:Value) (an:Option Addr) (cdv ct:Value),bindArgs (W.fnOf x q (DP st) (Cp st) (Ae st) .none kV doc pm an cdv ct) ⟨[],[]⟩=pure (ps.zip []):=by intros; rfl):Binds K fd ps []:=F.binds fun kV doc pm an cdv ct us hu=>match us,hu.trans hl with | [],_=>h kV doc pm an cdv ct
end
theorem Vk {l:W.OpenLaw} {w:World} {K:W.Frag} {h:Heap} {mg:Str->Option Value} {fa:Addr} (X:K.In h) (G:h.Ns mainGlobals mg) (hfa:mg "law" = some (.ref fa))
  {C cN cB cO aN aK aB aP aM p1 p2 p3 p4 p5 p6 b1 b2 b3 b4 b5 b6 b7 fWh fMd fNm fRo fTo fWi fPa fHp fCl fIk fSb fIs fWm fHr fIr fCk fNu fPl fLi fSs fMy fSt fCe fNn fLf fLo fRf fTk fLu fOi fOc fBk fOp fOw fOs fOm fXi fZ:Addr} {odZ anZ:Option Addr} {slZ:Array (Option Value)} {ocZ kVZ dcZ pmZ cdZ ctZ:Value}
  {tLET tML tMR tMLn tMB tm1 tm2 tm3 tm4 tm5 tm6 ttN_0 ttN_1 ttN_2 ttN_3 ttN_4 ttK_0 ttK_1 ttK_2 ttp1_0 ttp1_1 ttp2_0 ttp2_1 ttp3_0 ttp3_1 ttp4_0 ttp4_1 ttp4_2 ttp4_3 ttp5_0 ttp5_1 ttp5_2 ttp6_0 ttp6_1 ttp6_2 ttp6_3 ttb1_0 ttb1_1 ttb2_0 ttb2_1 ttb3_0 ttb3_1 ttb4_0 ttb4_1 ttb5_0 ttb5_1 ttb6_0 ttb6_1 ttb7_0 ttb7_1:Tok} {od_N od_K od_p1 od_p2 od_p3 od_p4 od_p5 od_p6 od_b1 od_b2 od_b3 od_b4 od_b5 od_b6 od_b7:Option Addr} {sl_N sl_K sl_p1 sl_p2 sl_p3 sl_p4 sl_p5 sl_p6 sl_b1 sl_b2 sl_b3 sl_b4 sl_b5 sl_b6 sl_b7:Array (Option Value)} {n_N n_K n_p1 n_p2 n_p3 n_p4 n_p5 n_p6 n_b1 n_b2 n_b3 n_b4 n_b5 n_b6 n_b7 nB nP nM:Nat} {eB eP eM:Array DictEntry}
  (FWh:DA K "is_whole" az fWh)
  (FMd:DA K "is_made_of" ZC fMd)
  (FNm:DA K "is_name" bI fNm)
  (FRo:DA K "rows_of" Y_ fRo)
  (FTo:DA K "is_told" Y7 fTo)
  (FWi:DA K "is_within" aF fWi)
  (FPa:DA K "is_part" ZR fPa)
  (FHp:DA K "has_parts" ZG fHp)
  (FCl:DA K "count_of_last_lines" cD fCl)
  (FIk:DA K "is_key_of" Y8 fIk)
  (FSb:DA K "stands_behind_stop" bx fSb)
  (FIs:DA K "is_step" Y4 fIs)
  (FWm:DA K "is_well_made" b8 fWm)
  (FHr:DA K "has_room" Zc fHr)
  (FIr:DA K "is_row" Zf fIr)
  (FCk:DA K "check_rows" cI fCk)
  (FNu:DA K "numbers_of" Zb fNu)
  (FPl:DA K "places_of" ZP fPl)
  (FLi:DA K "lines_by_knob" aU fLi)
  (FSs:DA K "set_of_step" ZS fSs)
  (FMy:DA K "may_be_member" bZ fMy)
  (FSt:DA K "set_of" Y9 fSt)
  (FCe:DA K "_law_cell_at" aG fCe)
  (FNn:DA K "_law_name" Zg fNn)
  (FLf:DA K "_law_first" Zh fLf)
  (FLo:DA K "_law_rows_of" Rm fLo)
  (FRf:DA K "_law_refused" bM fRf)
  (FTk:DA K "_law_taken" ZV fTk)
  (FLu:DA K "_law_full" Vm fLu)
  (aZ:W.nsIn K mainGlobals "law" = some (some (.ref fZ)))
  (lZ:K.lookup fZ=some ⟨ocZ,odZ,.func (W.fnOf "law" "law" (DP J4) (Cp J4) (Ae J4) .none kVZ dcZ pmZ anZ cdZ ctZ),slZ⟩) (cZ:W.codeIn K cdZ "law" = true) (kZ:W.keepIn K (.ref fZ)=true)
  (aC:W.nsIn K mainGlobals "Organ" = some (some (.ref C)))
  (FOi:MA K C "__init__" "Organ.__init__" Qh fOi)
  (FOc:MA K C "key_count" "Organ.key_count" aY fOc)
  (FBk:MA K C "board_of_knob" "Organ.board_of_knob" cL fBk)
  (FOp:MA K C "coupler" "Organ.coupler" dC fOp)
  (FOw:MA K C "rows" "Organ.rows" Zm fOw)
  (FOs:MA K C "stop" "Organ.stop" cJ fOs)
  (FOm:MA K C "mute" "Organ.mute" cY fOm)
  (xve:W.nsIn K mainGlobals "ValueError" = some none)
  (xmN:W.nsIn K mainGlobals "NoOrgan" = some (some (.ref cN)))
  (xmB:W.nsIn K mainGlobals "NoBoard" = some (some (.ref cB)))
  (xmO:W.nsIn K mainGlobals "OrganError" = some (some (.ref cO)))
  (FXi:MA K cN "__init__" "NoOrgan.__init__" bJ fXi)
  (xeO:W.excIn K cO Pn "ValueError.__new__" = true)
  (xbN:WW K cN cO "at" [cB]=true)
  (pg:W.plainGet K C Str.empty=true)
  (hd:W.hasDictIn K C=true)
  (po:W.plainOver K C=true)
  (sa:W.findIn K (.ref C) "__setattr__" = some (some (.builtin "object.__setattr__")))
  (mkC:W.makesIn K C=true)
  (kc:W.keepIn K (.ref C)=true)
  (n_row_list_:W.findIn K (.ref C) "row_list" = some none)
  (n_board_list_:W.findIn K (.ref C) "board_list" = some none)
  (n_rank_list_:W.findIn K (.ref C) "rank_list" = some none)
  (n_knob_rows_:W.findIn K (.ref C) "knob_rows" = some none)
  (n_board_numbers_:W.findIn K (.ref C) "board_numbers" = some none)
  (n_rank_numbers_:W.findIn K (.ref C) "rank_numbers" = some none)
  (n_knob_numbers_:W.findIn K (.ref C) "knob_numbers" = some none)
  (n_key_places_:W.findIn K (.ref C) "key_places" = some none)
  (n_pipe_places_:W.findIn K (.ref C) "pipe_places" = some none)
  (n_knob_lines_:W.findIn K (.ref C) "knob_lines" = some none)
  (n_step_sets_:W.findIn K (.ref C) "step_sets" = some none)
  (zlen:W.nsIn K mainGlobals "len" = some none)
  (zisinstance:W.nsIn K mainGlobals "isinstance" = some none)
  (zint:W.nsIn K mainGlobals "int" = some none)
  (zbool:W.nsIn K mainGlobals "bool" = some none)
  (zstr:W.nsIn K mainGlobals "str" = some none)
  (zlist:W.nsIn K mainGlobals "list" = some none)
  (ztuple:W.nsIn K mainGlobals "tuple" = some none)
  (zall:W.nsIn K mainGlobals "all" = some none)
  (zany:W.nsIn K mainGlobals "any" = some none)
  (zsum:W.nsIn K mainGlobals "sum" = some none)
  (zrange:W.nsIn K mainGlobals "range" = some none)
  (zzip:W.nsIn K mainGlobals "zip" = some none)
  (zenumerate:W.nsIn K mainGlobals "enumerate" = some none)
  (zmax:W.nsIn K mainGlobals "max" = some none)
  (zreversed:W.nsIn K mainGlobals "reversed" = some none)
  (zset:W.nsIn K mainGlobals "set" = some none)
  (zLET:W.nsIn K mainGlobals "LETTERS" = some (some (.str letters tLET)))
  (zML:W.nsIn K mainGlobals "MOST_LETTERS" = some (some (.int 8 tML)))
  (zMR:W.nsIn K mainGlobals "MOST_ROWS" = some (some (.int 150 tMR)))
  (zMLn:W.nsIn K mainGlobals "MOST_LINES" = some (some (.int 4 tMLn)))
  (zMB:W.nsIn K mainGlobals "MEMBERS_BELOW" = some (some (.int 1200 tMB)))
  (rN:W.nsIn K mainGlobals "NAMED" = some (some (.ref aN)))
  (rK:W.nsIn K mainGlobals "KNOBS" = some (some (.ref aK)))
  (rB:W.nsIn K mainGlobals "BOUNDS" = some (some (.ref aB)))
  (rP:W.nsIn K mainGlobals "PARTS" = some (some (.ref aP)))
  (rM:W.nsIn K mainGlobals "MOST_OF" = some (some (.ref aM)))
  (dB:K.lookup aB=some ⟨.type "dict",none,.dict eB nB,#[]⟩)
  (kB:W.KeysLit w.params eB.toList)
  (oB:(aB == sysModules)=false)
  (dP:K.lookup aP=some ⟨.type "dict",none,.dict eP nP,#[]⟩)
  (kP:W.KeysLit w.params eP.toList)
  (oP:(aP == sysModules)=false)
  (dM:K.lookup aM=some ⟨.type "dict",none,.dict eM nM,#[]⟩)
  (kM:W.KeysLit w.params eM.toList)
  (oM:(aM == sysModules)=false)
  (qp1:W.nsIn K aP "board" = some (some (.ref p1)))
  (qp2:W.nsIn K aP "stop" = some (some (.ref p2)))
  (qp3:W.nsIn K aP "mute" = some (some (.ref p3)))
  (qp4:W.nsIn K aP "coupler" = some (some (.ref p4)))
  (qp5:W.nsIn K aP "rank" = some (some (.ref p5)))
  (qp6:W.nsIn K aP "line" = some (some (.ref p6)))
  (qb1:W.nsIn K aB "keys" = some (some (.ref b1)))
  (qb2:W.nsIn K aB "leap" = some (some (.ref b2)))
  (qb3:W.nsIn K aB "pipes" = some (some (.ref b3)))
  (qb4:W.nsIn K aB "wind" = some (some (.ref b4)))
  (qb5:W.nsIn K aB "shift" = some (some (.ref b5)))
  (qb6:W.nsIn K aB "low" = some (some (.ref b6)))
  (qb7:W.nsIn K aB "high" = some (some (.ref b7)))
  (qn:W.nsIn K aB "new" = some none)
  (qb:W.nsIn K aB "board" = some none)
  (qr:W.nsIn K aB "rank" = some none)
  (ql:W.nsIn K aM "line" = some none)
  (qm1:W.nsIn K aM "board" = some (some (.int 5 tm1)))
  (qm2:W.nsIn K aM "stop" = some (some (.int 24 tm2)))
  (qm3:W.nsIn K aM "coupler" = some (some (.int 12 tm3)))
  (qm4:W.nsIn K aM "mute" = some (some (.int 5 tm4)))
  (qm5:W.nsIn K aM "rank" = some (some (.int 12 tm5)))
  (qm6:W.nsIn K aM "step" = some (some (.int 12 tm6)))
  (uN:K.lookup aN=some ⟨.type "tuple",od_N,.seq #[.str "board" ttN_0,.str "rank" ttN_1,.str "stop" ttN_2,.str "coupler" ttN_3,.str "mute" ttN_4] n_N,sl_N⟩)
  (uK:K.lookup aK=some ⟨.type "tuple",od_K,.seq #[.str "stop" ttK_0,.str "coupler" ttK_1,.str "mute" ttK_2] n_K,sl_K⟩)
  (up1:K.lookup p1=some ⟨.type "tuple",od_p1,.seq #[.str "new" ttp1_0,.str "keys" ttp1_1] n_p1,sl_p1⟩)
  (up2:K.lookup p2=some ⟨.type "tuple",od_p2,.seq #[.str "new" ttp2_0,.str "board" ttp2_1] n_p2,sl_p2⟩)
  (up3:K.lookup p3=some ⟨.type "tuple",od_p3,.seq #[.str "new" ttp3_0,.str "board" ttp3_1] n_p3,sl_p3⟩)
  (up4:K.lookup p4=some ⟨.type "tuple",od_p4,.seq #[.str "new" ttp4_0,.str "board" ttp4_1,.str "board" ttp4_2,.str "leap" ttp4_3] n_p4,sl_p4⟩)
  (up5:K.lookup p5=some ⟨.type "tuple",od_p5,.seq #[.str "new" ttp5_0,.str "pipes" ttp5_1,.str "wind" ttp5_2] n_p5,sl_p5⟩)
  (up6:K.lookup p6=some ⟨.type "tuple",od_p6,.seq #[.str "rank" ttp6_0,.str "shift" ttp6_1,.str "low" ttp6_2,.str "high" ttp6_3] n_p6,sl_p6⟩)
  (ub1:K.lookup b1=some ⟨.type "tuple",od_b1,.seq #[.int (1) ttb1_0,.int (61) ttb1_1] n_b1,sl_b1⟩)
  (ub2:K.lookup b2=some ⟨.type "tuple",od_b2,.seq #[.int (-60) ttb2_0,.int (60) ttb2_1] n_b2,sl_b2⟩)
  (ub3:K.lookup b3=some ⟨.type "tuple",od_b3,.seq #[.int (1) ttb3_0,.int (97) ttb3_1] n_b3,sl_b3⟩)
  (ub4:K.lookup b4=some ⟨.type "tuple",od_b4,.seq #[.int (0) ttb4_0,.int (1000000000) ttb4_1] n_b4,sl_b4⟩)
  (ub5:K.lookup b5=some ⟨.type "tuple",od_b5,.seq #[.int (-200) ttb5_0,.int (200) ttb5_1] n_b5,sl_b5⟩)
  (ub6:K.lookup b6=some ⟨.type "tuple",od_b6,.seq #[.int (0) ttb6_0,.int (60) ttb6_1] n_b6,sl_b6⟩)
  (ub7:K.lookup b7=some ⟨.type "tuple",od_b7,.seq #[.int (0) ttb7_0,.int (60) ttb7_1] n_b7,sl_b7⟩)
  : ∃ fd:FuncData,(∀ (s:Shared) (v:Value),BindsTo s fd ⟨[v],[]⟩ [("_law_script",v)])/\∀ base:Heap,K.In base->base.Ns mainGlobals mg->A_ l.prog w K mg base B_ 12 fa fd ["_law_script"] (NB K):=by
 obtain ⟨aWh,dWh,FWh⟩:=FWh
 obtain ⟨aMd,dMd,FMd⟩:=FMd
 obtain ⟨aNm,dNm,FNm⟩:=FNm
 obtain ⟨aRo,dRo,FRo⟩:=FRo
 obtain ⟨aTo,dTo,FTo⟩:=FTo
 obtain ⟨aWi,dWi,FWi⟩:=FWi
 obtain ⟨aPa,dPa,FPa⟩:=FPa
 obtain ⟨aHp,dHp,FHp⟩:=FHp
 obtain ⟨aCl,dCl,FCl⟩:=FCl
 obtain ⟨aIk,dIk,FIk⟩:=FIk
 obtain ⟨aSb,dSb,FSb⟩:=FSb
 obtain ⟨aIs,dIs,FIs⟩:=FIs
 obtain ⟨aWm,dWm,FWm⟩:=FWm
 obtain ⟨aHr,dHr,FHr⟩:=FHr
 obtain ⟨aIr,dIr,FIr⟩:=FIr
 obtain ⟨aCk,dCk,FCk⟩:=FCk
 obtain ⟨aNu,dNu,FNu⟩:=FNu
 obtain ⟨aPl,dPl,FPl⟩:=FPl
 obtain ⟨aLi,dLi,FLi⟩:=FLi
 obtain ⟨aSs,dSs,FSs⟩:=FSs
 obtain ⟨aMy,dMy,FMy⟩:=FMy
 obtain ⟨aSt,dSt,FSt⟩:=FSt
 obtain ⟨aCe,dCe,FCe⟩:=FCe
 obtain ⟨aNn,dNn,FNn⟩:=FNn
 obtain ⟨aLf,dLf,FLf⟩:=FLf
 obtain ⟨aLo,dLo,FLo⟩:=FLo
 obtain ⟨aRf,dRf,FRf⟩:=FRf
 obtain ⟨aTk,dTk,FTk⟩:=FTk
 obtain ⟨aLu,dLu,FLu⟩:=FLu
 obtain ⟨aOi,iOi,dOi,FOi⟩:=FOi
 obtain ⟨aOc,iOc,dOc,FOc⟩:=FOc
 obtain ⟨aBk,iBk,dBk,FBk⟩:=FBk
 obtain ⟨aOp,iOp,dOp,FOp⟩:=FOp
 obtain ⟨aOw,iOw,dOw,FOw⟩:=FOw
 obtain ⟨aOs,iOs,dOs,FOs⟩:=FOs
 obtain ⟨aOm,iOm,dOm,FOm⟩:=FOm
 obtain ⟨aXi,iXi,dXi,FXi⟩:=FXi
 have e:=hfa.symm.trans (W.mg_of X G aZ)
 cases e
 have FZ:=Lw (st:=J4) lZ cZ kZ
 have gN:KTup K aN [.str "board",.str "rank",.str "stop",.str "coupler",.str "mute"]:=(⟨_,_,_,uN,rfl,rfl,by show 5<=sizeLine; decide,.cons ⟨_,rfl⟩ (.cons ⟨_,rfl⟩ (.cons ⟨_,rfl⟩ (.cons ⟨_,rfl⟩ (.cons ⟨_,rfl⟩ (.nil)))))⟩)
 have gK:KTup K aK [.str "stop",.str "coupler",.str "mute"]:=(⟨_,_,_,uK,rfl,rfl,by show 3<=sizeLine; decide,.cons ⟨_,rfl⟩ (.cons ⟨_,rfl⟩ (.cons ⟨_,rfl⟩ (.nil)))⟩)
 have gp1:KTup K p1 [.str "new",.str "keys"]:=(⟨_,_,_,up1,rfl,rfl,by show 2<=sizeLine; decide,.cons ⟨_,rfl⟩ (.cons ⟨_,rfl⟩ (.nil))⟩)
 have gp2:KTup K p2 [.str "new",.str "board"]:=(⟨_,_,_,up2,rfl,rfl,by show 2<=sizeLine; decide,.cons ⟨_,rfl⟩ (.cons ⟨_,rfl⟩ (.nil))⟩)
 have gp3:KTup K p3 [.str "new",.str "board"]:=(⟨_,_,_,up3,rfl,rfl,by show 2<=sizeLine; decide,.cons ⟨_,rfl⟩ (.cons ⟨_,rfl⟩ (.nil))⟩)
 have gp4:KTup K p4 [.str "new",.str "board",.str "board",.str "leap"]:=(⟨_,_,_,up4,rfl,rfl,by show 4<=sizeLine; decide,.cons ⟨_,rfl⟩ (.cons ⟨_,rfl⟩ (.cons ⟨_,rfl⟩ (.cons ⟨_,rfl⟩ (.nil))))⟩)
 have gp5:KTup K p5 [.str "new",.str "pipes",.str "wind"]:=(⟨_,_,_,up5,rfl,rfl,by show 3<=sizeLine; decide,.cons ⟨_,rfl⟩ (.cons ⟨_,rfl⟩ (.cons ⟨_,rfl⟩ (.nil)))⟩)
 have gp6:KTup K p6 [.str "rank",.str "shift",.str "low",.str "high"]:=(⟨_,_,_,up6,rfl,rfl,by show 4<=sizeLine; decide,.cons ⟨_,rfl⟩ (.cons ⟨_,rfl⟩ (.cons ⟨_,rfl⟩ (.cons ⟨_,rfl⟩ (.nil))))⟩)
 have gb1:KTup K b1 [.int (1),.int (61)]:=(⟨_,_,_,ub1,rfl,rfl,by show 2<=sizeLine; decide,.cons ⟨_,rfl⟩ (.cons ⟨_,rfl⟩ (.nil))⟩)
 have gb2:KTup K b2 [.int (-60),.int (60)]:=(⟨_,_,_,ub2,rfl,rfl,by show 2<=sizeLine; decide,.cons ⟨_,rfl⟩ (.cons ⟨_,rfl⟩ (.nil))⟩)
 have gb3:KTup K b3 [.int (1),.int (97)]:=(⟨_,_,_,ub3,rfl,rfl,by show 2<=sizeLine; decide,.cons ⟨_,rfl⟩ (.cons ⟨_,rfl⟩ (.nil))⟩)
 have gb4:KTup K b4 [.int (0),.int (1000000000)]:=(⟨_,_,_,ub4,rfl,rfl,by show 2<=sizeLine; decide,.cons ⟨_,rfl⟩ (.cons ⟨_,rfl⟩ (.nil))⟩)
 have gb5:KTup K b5 [.int (-200),.int (200)]:=(⟨_,_,_,ub5,rfl,rfl,by show 2<=sizeLine; decide,.cons ⟨_,rfl⟩ (.cons ⟨_,rfl⟩ (.nil))⟩)
 have gb6:KTup K b6 [.int (0),.int (60)]:=(⟨_,_,_,ub6,rfl,rfl,by show 2<=sizeLine; decide,.cons ⟨_,rfl⟩ (.cons ⟨_,rfl⟩ (.nil))⟩)
 have gb7:KTup K b7 [.int (0),.int (60)]:=(⟨_,_,_,ub7,rfl,rfl,by show 2<=sizeLine; decide,.cons ⟨_,rfl⟩ (.cons ⟨_,rfl⟩ (.nil))⟩)
 have F2:Le K aB aP aM:=⟨⟨⟨_,qp1,gp1⟩,⟨_,qp2,gp2⟩,⟨_,qp3,gp3⟩,⟨_,qp4,gp4⟩,⟨_,qb1,gb1⟩,⟨_,qb2,gb2⟩,qn,qb,⟨_,qm1⟩,⟨_,qm2⟩,⟨_,qm3⟩,⟨_,qm4⟩⟩,⟨_,qp5,gp5⟩,⟨_,qp6,gp6⟩,⟨_,qb3,gb3⟩,⟨_,qb4,gb4⟩,⟨_,qb5,gb5⟩,⟨_,qb6,gb6⟩,⟨_,qb7,gb7⟩,qr,⟨_,qm5⟩,ql⟩
 have F0:Hw K aB aP aM:=⟨F2,⟨_,qm6⟩⟩
 have T:Txt K w.params mg C cN cB cO aN aK aB aP aM:=⟨W.mg_none_of X G zlen,W.mg_none_of X G zisinstance,W.mg_none_of X G zint,W.mg_none_of X G zbool,W.mg_none_of X G zstr,W.mg_none_of X G zlist,W.mg_none_of X G ztuple,W.mg_none_of X G zall,W.mg_none_of X G zany,W.mg_none_of X G zsum,W.mg_none_of X G zrange,W.mg_none_of X G zzip,W.mg_none_of X G zenumerate,W.mg_none_of X G zmax,W.mg_none_of X G zreversed,W.mg_none_of X G zset,⟨_,W.mg_of X G zLET⟩,⟨_,W.mg_of X G zML⟩,⟨_,W.mg_of X G zMR⟩,⟨_,W.mg_of X G zMLn⟩,⟨_,W.mg_of X G zMB⟩,W.mg_of X G rN,W.mg_of X G rK,W.mg_of X G rB,W.mg_of X G rP,W.mg_of X G rM,gN,gK,⟨⟨_,_,dB,kB⟩,oB⟩,⟨⟨_,_,dP,kP⟩,oP⟩,⟨⟨_,_,dM,kM⟩,oM⟩,⟨pg,hd,po,sa⟩,W.mg_of X G aC,W.mg_none_of X G xve,W.mg_of X G xmN,W.mg_of X G xmB,W.mg_of X G xmO,xeO,n_row_list_,n_board_list_,n_rank_list_,n_knob_rows_,n_board_numbers_,n_rank_numbers_,n_knob_numbers_,n_key_places_,n_pipe_places_,n_knob_lines_,n_step_sets_⟩
 have N:Z2 K mg C cN cB cO ⟨fWh,fMd,fNm,fRo,fTo,fWi,fPa,fHp,fCl,fIk,fSb,fIs,fWm,fHr,fIr,fCk,fNu,fPl,fLi,fSs,fMy,fSt,fCe,fNn,fLf,fLo,fRf,fTk,fLu,fOi,fOc,fBk,fOp,fOw,fOs,fOm,fXi,_,_,_,_,_,_,_,_,_,_,_,_,_,_,_,_,_,_,_,_,_,_,_,_,_,_,_,_,_,_,_,_,_,_,_,_,_⟩:=⟨⟨FWh,(HR FWh),W.mg_of X G aWh⟩,⟨FMd,(S7 FMd),W.mg_of X G aMd⟩,⟨FNm,(HR FNm),W.mg_of X G aNm⟩,⟨FRo,(Fl FRo),W.mg_of X G aRo⟩,⟨FTo,(S7 FTo),W.mg_of X G aTo⟩,⟨FWi,(Fl FWi),W.mg_of X G aWi⟩,⟨FPa,(S7 FPa),W.mg_of X G aPa⟩,⟨FHp,(Fl FHp),W.mg_of X G aHp⟩,⟨FCl,(HR FCl),W.mg_of X G aCl⟩,⟨FIk,(S7 FIk),W.mg_of X G aIk⟩,⟨FSb,(Fl FSb),W.mg_of X G aSb⟩,⟨FIs,(Fl FIs),W.mg_of X G aIs⟩,⟨FWm,(Fl FWm),W.mg_of X G aWm⟩,⟨FHr,(Fl FHr),W.mg_of X G aHr⟩,⟨FIr,(Fl FIr),W.mg_of X G aIr⟩,⟨FCk,(HR FCk),W.mg_of X G aCk⟩,⟨FNu,(HR FNu),W.mg_of X G aNu⟩,⟨FPl,(HR FPl),W.mg_of X G aPl⟩,⟨FLi,(Fl FLi),W.mg_of X G aLi⟩,⟨FSs,(Fl FSs),W.mg_of X G aSs⟩,⟨FMy,(HR FMy),W.mg_of X G aMy⟩,⟨FSt,(HR FSt),W.mg_of X G aSt⟩,⟨FCe,(Fl FCe),W.mg_of X G aCe⟩,⟨FNn,(HR FNn),W.mg_of X G aNn⟩,⟨FLf,(HR FLf),W.mg_of X G aLf⟩,⟨FLo,(aa FLo),W.mg_of X G aLo⟩,⟨FRf,(Fl FRf),W.mg_of X G aRf⟩,⟨FTk,(HR FTk),W.mg_of X G aTk⟩,⟨FLu,(aq FLu),W.mg_of X G aLu⟩,⟨FOi,(Fl FOi),⟨mkC,aOi,iOi,kc⟩⟩,⟨FOc,(HR FOc),⟨aOc,iOc,FOc.kp⟩⟩,⟨FBk,(Fl FBk),⟨aBk,iBk,FBk.kp⟩⟩,⟨FOp,(Fl FOp),⟨aOp,iOp,FOp.kp⟩⟩,⟨FOw,(HR FOw),⟨aOw,iOw,FOw.kp⟩⟩,⟨FOs,(Fl FOs),⟨aOs,iOs,FOs.kp⟩⟩,⟨FOm,(Fl FOm),⟨aOm,iOm,FOm.kp⟩⟩,⟨FXi,(Fl FXi)⟩,ZF.of xbN aXi (beq_iff_eq.mp iXi)⟩
 exact ⟨W.fnOf "law" "law" (DP J4) (Cp J4) (Ae J4) .none kVZ dcZ pmZ anZ cdZ ctZ,fun s v=>.of_eq rfl,fun base _ _=>Vx FZ N T F0⟩
theorem walk {l:W.OpenLaw} {q:Program} {loose:List Str} {XP:(Str->Option Value)->Heap->Prop} {YP:World->Heap->Prop} {d:DefRec} {K:Params->W.Frag} (hn:l.most=some 63) (hdf:d.params.defaults=[])
  (hY:∀ (w:World) (h:Heap),YP w h->(K w.params).In h)
  (F:∀ (w:World) (mg:Str->Option Value) (fa:Addr) (h:Heap),(K w.params).In h->h.Ns mainGlobals mg->mg d.name=some (.ref fa) ->
   ∃ fd:FuncData,(∀ (s:Shared) (u:Value),BindsTo s fd ⟨[u],[]⟩ [("_law_script",u)])/\∀ base:Heap,(K w.params).In base->base.Ns mainGlobals mg->A_ l.prog w (K w.params) mg base B_ 12 fa fd ["_law_script"] (NB (K w.params))) :
  W.WalkO q loose XP YP l.row.toRowW d [] (fun f vs=>PySem.call f vs) :=
 L2.TY (n:=63) (k:=12) (x:="_law_script") (CX:=fun _=>B_) (sp:=fun w=>NB (K w.params)) hn (by decide) hdf ⟨rfl,by decide,by decide⟩ hY F (fun _ _ a ns hl _ hS=>⟨a,ns,rfl,hS,hl,fun _=>rfl⟩) fun _ _ _ _ _ z=>z
end K11
open PySem PySem.W PyProof.Rows
noncomputable def PySem.W.Fast.tw10972878438989988991:Unit:=()
noncomputable def PySem.W.Fast.tw12342354153150935854:Unit:=()
noncomputable def PySem.W.Fast.tw15971425355960579922:Unit:=()
noncomputable def PySem.W.Fast.tw8624976720961858787:Unit:=()
noncomputable def PySem.W.Fast.tw16708051023784200147:Unit:=()
noncomputable def PySem.W.Fast.tw2454400554373621583:Unit:=()
noncomputable def PySem.W.Fast.tw12842813172253687808:Unit:=()
noncomputable def PySem.W.Fast.tw17610773980903741052:Unit:=()
noncomputable def PySem.W.Fast.tw9402204967535833774:Unit:=()
noncomputable def PySem.W.Fast.tw3410286127499230045:Unit:=()
noncomputable def PySem.W.Fast.tw7846521967692367010:Unit:=()
noncomputable def PySem.W.Fast.tw9333835408887757609:Unit:=()
noncomputable def PySem.W.Fast.tw12526241496376342230:Unit:=()
noncomputable def PySem.W.Fast.tw1154697948103536840:Unit:=()
noncomputable def PySem.W.Fast.tw1196327248576797314:Unit:=()
noncomputable def PySem.W.Fast.tw9319411972700537482:Unit:=()
noncomputable def PySem.W.Fast.tw4691603115970430383:Unit:=()
noncomputable def PySem.W.Fast.tw3860767630603894977:Unit:=()
noncomputable def PySem.W.Fast.tw16958169180098997273:Unit:=()
noncomputable def PySem.W.Fast.tw4528705314281192812:Unit:=()
noncomputable def PySem.W.Fast.tw8946803320139902885:Unit:=()
noncomputable def PySem.W.Fast.tw7616527212788441986:Unit:=()
noncomputable def PySem.W.Fast.tw6614803362635394892:Unit:=()
noncomputable def PySem.W.Fast.tw9584825575894980401:Unit:=()
noncomputable def PySem.W.Fast.tw12767556942399755247:Unit:=()
noncomputable def PySem.W.Fast.tw6988076030505673012:Unit:=()
noncomputable def PySem.W.Fast.tw5337175189629097311:Unit:=()
noncomputable def PySem.W.Fast.tw8658740369039468155:Unit:=()
noncomputable def PySem.W.Fast.tw7914908645106520878:Unit:=()
noncomputable def PySem.W.Fast.tw10260867252886317302:Unit:=()
noncomputable def PySem.W.Fast.tw9143164521280170184:Unit:=()
noncomputable def PySem.W.Fast.tw14182494550835505878:Unit:=()
noncomputable def PySem.W.Fast.tw4782050198378972020:Unit:=()
noncomputable def PySem.W.Fast.tw11979659621808657017:Unit:=()
noncomputable def PySem.W.Fast.tw9705124842150538606:Unit:=()
noncomputable def PySem.W.Fast.tw15069787675120282514:Unit:=()
noncomputable def PySem.W.Fast.tw16301670904666067459:Unit:=()
noncomputable def PySem.W.Fast.tw10034575229837264664:Unit:=()
noncomputable def PySem.W.Fast.tw15182537091677189247:Unit:=()
noncomputable def PySem.W.Fast.tw1920049591715245889:Unit:=()
noncomputable def PySem.W.Fast.tw13331109324469992853:Unit:=()
noncomputable def PySem.W.Fast.tw4567861532710471985:Unit:=()
noncomputable def PySem.W.Fast.tw1193838649552478617:Unit:=()
noncomputable def PySem.W.Fast.tw4994085316446491029:Unit:=()
noncomputable def PySem.W.Fast.tw2196532123613408700:Unit:=()
noncomputable def PySem.W.Fast.tw10486984495634747845:Unit:=()
noncomputable def PySem.W.Fast.tw13907908465163115877:Unit:=()
noncomputable def PySem.W.Fast.tw1062429374903415010:Unit:=()
noncomputable def PySem.W.Fast.tw16045416876210852662:Unit:=()
noncomputable def PySem.W.Fast.tw17915691120002205003:Unit:=()
noncomputable def PySem.W.Fast.tw125091460356961095:Unit:=()
noncomputable def PySem.W.Fast.tw3616040843457269514:Unit:=()
noncomputable def PySem.W.Fast.tw3498545715838918703:Unit:=()
noncomputable def PySem.W.Fast.tw15838987341712057714:Unit:=()
noncomputable def PySem.W.Fast.tw3080299570328432927:Unit:=()
noncomputable def PySem.W.Fast.tw2348901947471679888:Unit:=()
noncomputable def PySem.W.Fast.tw8458339310026399892:Unit:=()
noncomputable def PySem.W.Fast.tw13538479160390664033:Unit:=()
noncomputable def PySem.W.Fast.tw13482216731171903721:Unit:=()
noncomputable def PySem.W.Fast.tw9415730748528133393:Unit:=()
noncomputable def PySem.W.Fast.tw6662658010143353501:Unit:=()
noncomputable def PySem.W.Fast.tw10017867348268762639:Unit:=()
set_option maxRecDepth 100000 in
set_option maxHeartbeats 0 in
theorem PySem.Challenge.cw_windchest_k11_as_many_as_may_be_holds : PySem.Challenge.rw_windchest_k11_as_many_as_may_be.Holds := by
 w_on; o_law; k_head; (case hw=>w_witness2)
 k_fill
 refine K11.walk (l:=PySem.Challenge.rw_windchest_k11_as_many_as_may_be) rfl rfl (fun w h Y=>PySem.W.kIn_of Y) ?F
 case F =>
  intro w mg fa h KX G hmg
  refine' K11.Vk KX G hmg ?_ ?_ ?_ ?_ ?_ ?_ ?_ ?_ ?_ ?_ ?_ ?_ ?_ ?_ ?_ ?_ ?_ ?_ ?_ ?_ ?_ ?_ ?_ ?_ ?_ ?_ ?_ ?_ ?_ ?_ ?_ ?_ ?_ ?_ ?_ ?_ ?_ ?_ ?_ ?_ ?_ ?_ ?_ ?_ ?_ ?_ ?_ ?_ ?_ ?_ ?_ ?_ ?_ ?_ ?_ ?_ ?_ ?_ ?_ ?_ ?_ ?_ ?_ ?_ ?_ ?_ ?_ ?_ ?_ ?_ ?_ ?_ ?_ ?_ ?_ ?_ ?_ ?_ ?_ ?_ ?_ ?_ ?_ ?_ ?_ ?_ ?_ ?_ ?_ ?_ ?_ ?_ ?_ ?_ ?_ ?_ ?_ ?_ ?_ ?_ ?_ ?_ ?_ ?_ ?_ ?_ ?_ ?_ ?_ ?_ ?_ ?_ ?_ ?_ ?_ ?_ ?_ ?_ ?_ ?_ ?_ ?_ ?_ ?_ ?_ ?_ ?_ ?_ ?_ ?_ ?_ ?_ ?_ ?_ ?_ ?_ ?_ ?_
  all_goals first | (k_is; done) | (refine' ⟨?a,_,L2.Lw ?l ?c ?k⟩; (case a=>k_is); (case l=>k_is); (case c=>k_is); case k=>k_is) | (refine' ⟨?a,?i,_,L2.Lw ?l ?c ?k⟩; (case a=>k_is); (case i=>k_is); (case l=>k_is); (case c=>k_is); case k=>k_is) | (k_keys; done) | decide | kernel_rfl! | skip
end PartK11z
