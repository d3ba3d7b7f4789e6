import PyProof.Rows.All
import Wide.All
import OpenK.AllK
import Wide.FinOn
import Lean
import PyProof.EqAt
import PyProof.EqKinds
import PyProof.TupleCall
import PyProof.ZipIter
import PyProof.WalksEnum
import PyProof.EnumMake
import PyProof.NeKinds
import KE.KDictList
import PyProof.Rows.SetFrom
import PyProof.StrWalks
import PyProof.CollectWalk
import PyProof.Rows.SortWalk
import PyProof.Rows.BitMore
import PyProof.Rows.IntCalls
import KE.KRevIter
import PyProof.SetRoads
import OpenK.KTop
import PyProof.Rows.StrWeight2
import PyProof.SumWalk
import PyProof.SliceList
import PyProof.StationsW
import PyProof.NsDelKeeps
import PyProof.IsRules
import PyProof.Conv_int
import PyProof.StrLawsIn
import PyProof.MeetsStr2
import PyProof.Rows.CatFin
import PyProof.Rows.StrClose
import PyProof.PureStr
import PyProof.DictWalks
import PyProof.ListRange
import PySem.Challenge.RW_windchest_k31_whole_chains_and_rings
local macro_rules | `(tactic| omega) => `(tactic| lia)
set_option Elab.async false
set_option linter.all false
set_option maxRecDepth 100000
namespace L2
open PySem PySem.Spec PyProof.Rows
noncomputable abbrev Key:=Sum Int Str
noncomputable def Je:Key->Value->Bool
 | .inl k,v=>Value.isInt k v
 | .inr x,v=>Value.isStrOf x v
noncomputable def bH (w:World):Key->Int
 | .inl k=>hashInt k
 | .inr x=>hashStr w x
theorem By:∀ {k:Key} {v:Value},Je k v=true->(∃ i t,k=Sum.inl i/\v=Value.int i t) \/ (∃ x t,k=Sum.inr x/\v=Value.str x t)
 | .inl i,v,h=>by
  obtain ⟨t,e⟩:=Value.isInt_shape (k:=i) (v:=v) h
  exact .inl ⟨i,t,rfl,e⟩
 | .inr x,v,h=>by
  obtain ⟨t,e⟩:=Value.isStrOf_shape (x:=x) (v:=v) h
  exact .inr ⟨x,t,rfl,e⟩
theorem Nk (i:Int) (t:Tok):Je (.inl i) (.int i t)=true:=by simp [Je,Value.isInt]
theorem Oi (x:Str) (t:Tok):Je (.inr x) (.str x t)=true:=by simp [Je,Value.isStrOf]
theorem U9 (a b:Int):decide ((Sum.inl a:Key)=Sum.inl b)=(a == b):=by
 by_cases e:a=b
 ·subst e; simp
 ·have h:¬ (Sum.inl a:Key)=Sum.inl b:=fun q=>e (Sum.inl.inj q)
  rw [decide_eq_false h]
  exact (beq_eq_false_iff_ne.mpr e).symm
theorem U6 (a b:Str):decide ((Sum.inr a:Key)=Sum.inr b)=decide (a=b):=by
 by_cases e:a=b
 ·subst e; simp
 ·have h:¬ (Sum.inr a:Key)=Sum.inr b:=fun q=>e (Sum.inr.inj q)
  rw [decide_eq_false h,decide_eq_false e]
theorem Um (a:Int) (b:Str):decide ((Sum.inl a:Key)=Sum.inr b)=false:=decide_eq_false (fun q=>nomatch q)
theorem Vb (a:Str) (b:Int):decide ((Sum.inr a:Key)=Sum.inl b)=false:=decide_eq_false (fun q=>nomatch q)
noncomputable def CJ (prog:Program) (w:World):PySem.KeyKind prog w Key where
 is:=Je
 hash:=bH w
 inj:=fun v a b ha hb=>by
  rcases By ha with ⟨i,t,rfl,rfl⟩ | ⟨x,t,rfl,rfl⟩
  ·rcases By hb with ⟨j,u,rfl,e⟩ | ⟨y,u,rfl,e⟩
   ·injection e with e1 _; rw [e1]
   ·exact nomatch e
  ·rcases By hb with ⟨j,u,rfl,e⟩ | ⟨y,u,rfl,e⟩
   ·exact nomatch e
   ·injection e with e1 _; rw [e1]
 byValue:=fun k v h=>by
  rcases By h with ⟨i,t,rfl,rfl⟩ | ⟨x,t,rfl,rfl⟩ <;> rfl
 pyHash:=fun hv h=>by
  rcases By hv with ⟨i,t,rfl,rfl⟩ | ⟨x,t,rfl,rfl⟩
  ·exact wpAny_pyHash_int h
  ·exact wpAny_pyHash_str h
 eqBool:=fun hu hv h=>by
  rcases By hu with ⟨i,t,rfl,rfl⟩ | ⟨x,t,rfl,rfl⟩
  ·rcases By hv with ⟨j,u,rfl,rfl⟩ | ⟨y,u,rfl,rfl⟩
   ·rw [U9] at h; exact wpAny_eqBool_int h
   ·rw [Um] at h; exact SeqAt.EqAt.int_str i t y u _ _ _ _ h
  ·rcases By hv with ⟨j,u,rfl,rfl⟩ | ⟨y,u,rfl,rfl⟩
   ·rw [Vb] at h; exact SeqAt.EqAt.str_int x t j u _ _ _ _ h
   ·rw [U6] at h; exact wpAny_eqBool_str h
 «strs»:=fun k x t v h=>by
  rcases By h with ⟨i,u,rfl,e⟩ | ⟨y,u,rfl,e⟩
  ·exact nomatch e
  ·injection e with e1 _
   subst e1
   cases v <;> rfl
theorem Lb (prog:Program) (w:World) (i:Int) (t:Tok):(CJ prog w).is (.inl i) (.int i t)=true:=Nk i t
theorem LK (prog:Program) (w:World) (x:Str) (t:Tok):(CJ prog w).is (.inr x) (.str x t)=true:=Oi x t
end L2
namespace L2
open PySem PySem.Spec PyProof.Rows
inductive V where
 | non | bl (b:Bool) | int (i:Int) | str (x:Str) | byt (b:Array UInt8) | flt (b:UInt64) | ref (a:Addr) | ty (n:String)
 deriving DecidableEq
noncomputable def RelV:V->Value->Prop
 | .non,u=>u=Value.none
 | .bl b,u=>u=Value.bool b
 | .int i,u=>∃ t,u=Value.int i t
 | .str x,u=>∃ t,u=Value.str x t
 | .byt b,u=>∃ t,u=Value.bytes b t
 | .flt b,u=>∃ t,u=Value.float b t
 | .ref a,u=>u=Value.ref a
 | .ty n,u=>u=Value.type n
noncomputable abbrev Vals:List V->List Value->Prop:=Paired RelV
theorem Vals.length {xs:List V} {us:List Value} (r:Vals xs us):xs.length=us.length:=Paired.length r
theorem Vals.get:∀ {xs:List V} {us:List Value} {i:Nat} {x:V},Vals xs us->xs[i]? = some x->∃ u,us[i]? = some u/\RelV x u
 | _,_,_,_,.nil,e=>by simp at e
 | _,_,0,_,.cons r _,e=>by simp at e; subst e; exact ⟨_,rfl,r⟩
 | _,_,i+1,x,.cons _ t,e=>by
  obtain ⟨u,h1,h2⟩:=Vals.get (i:=i) (x:=x) t (by simpa using e)
  exact ⟨u,by simpa using h1,h2⟩
theorem Vals.set {x:V} {u:Value} (r:RelV x u):∀ {xs:List V} {us:List Value} (i:Nat),Vals xs us->Vals (xs.set i x) (us.set i u)
 | _,_,_,.nil=>.nil
 | _,_,0,.cons _ t=>.cons r t
 | _,_,i+1,.cons q t=>.cons q (Vals.set r i t)
theorem Vals.append:∀ {xs ys:List V} {us ws:List Value},Vals xs us->Vals ys ws->Vals (xs++ys) (us++ws)
 | _,_,_,_,.nil,s=>s
 | _,_,_,_,.cons r t,s=>.cons r (Vals.append t s)
theorem Vals.take:∀ {xs:List V} {us:List Value} (n:Nat),Vals xs us->Vals (xs.take n) (us.take n)
 | _,_,0,_=>.nil
 | _,_,_+1,.nil=>.nil
 | _,_,n+1,.cons r t=>.cons r (Vals.take n t)
theorem Vals.drop:∀ {xs:List V} {us:List Value} (n:Nat),Vals xs us->Vals (xs.drop n) (us.drop n)
 | _,_,0,r=>r
 | _,_,_+1,.nil=>.nil
 | _,_,n+1,.cons _ t=>Vals.drop n t
noncomputable def Es:Option V->Option Value->Prop
 | some v,some u=>RelV v u
 | none,none=>True
 | _,_=>False
noncomputable def KV {κ:Type}:List (κ × V)->List (κ × Value)->Prop:=Paired fun (p:κ × V) (q:κ × Value)=>p.1=q.1/\RelV p.2 q.2
noncomputable def kV:Key->V
 | .inl i=>.int i
 | .inr x=>.str x
inductive HO where
 | lst (xs:List V)
 | tup (xs:List V)
 | dK (kvs:List (Key × V)) | dT (kvs:List (List Key × V))
 | set (S:Int->Bool) (n:Nat)
 | ins (C dx:Addr) (fs:List (Str × V))
 | own (x:Addr)
 | xd (fs:List (Str × V))
 | met (f x:Addr)
 | rng (lo hi:Int)
 | frz (o:Obj) (u:HO)
 | tbl (ps:Array Value)
 | ext (φ:Heap->Prop)
noncomputable abbrev Hp:=Addr->Option HO
noncomputable def upd (H:Hp) (a:Addr) (o:HO):Hp:=fun b=>if b=a then some o else H b
theorem Ah {H:Hp} {a:Addr} {o:HO}:upd H a o a=some o:=by unfold upd; rw [if_pos rfl]
theorem Av {H:Hp} {a b:Addr} {o:HO} (h:b ≠ a):upd H a o b=H b:=by unfold upd; rw [if_neg h]
theorem LQ {H:Hp} {a b:Addr} {o u:HO} (h:H a=some o) (h':H b=some u) (d:o ≠ u):a ≠ b:=by
 intro e; subst e; rw [h] at h'; exact d (Option.some.inj h')
theorem Ao {H:Hp} {a b:Addr} {o:HO} (h:H a=some o) (h':H b=none):a ≠ b:=by
 intro e; subst e; rw [h] at h'; cases h'
section
variable (P:Program) (w:World)
noncomputable def Bt (H:Hp) (h:Heap) (a:Addr):HO->Prop
 | .lst xs=>xs.length<=sizeLine/\∃ (its:List Value) (n:Nat),Vals xs its/\h.get? a=some { cls:=.type "list",data:=.seq its.toArray n }
 | .tup xs=>xs.length<=sizeLine/\∃ its:List Value,Vals xs its/\IsTup h a its.toArray
 | .dK kvs=>kvs.length<=sizeLine/\(a == sysModules)=false/\∃ vs,KV kvs vs/\h.DictOf (CJ P w) a vs
 | .dT kvs=>kvs.length<=sizeLine/\(a == sysModules)=false/\∃ xs:List (List Key × Addr × Value),
   Paired (fun (p:List Key × V) (q:List Key × Addr × Value)=>p.1=q.1/\H q.2.1=some (.tup (p.1.map kV))/\RelV p.2 q.2.2) kvs xs /\
   ∃ o es ep,h.get? a=some o/\o.ExactDict/\o.data=.dict es ep/\es.toList=xs.map (entryOfKey (tupleKind (CJ P w)))/\(xs.map (·.1)).Nodup
 | .set S n=>h.SetOf (intKind P w) a S n
 | .ins C dx fs=>H dx=some (.own a)/\fs.length<=1000/\dx ≠ a/\h.get? a=some (PySem.W.instObj C dx) /\
   ∃ mA,h.Ns1 dx mA/\(∀ f,Es (fs.lookup f) (mA f))/\PySem.Within mA (fs.map (·.1))
 | .own _=>∃ o,h.get? a=some o
 | .xd fs=>∃ mA,h.Ns1 a mA/\∀ f,Es (fs.lookup f) (mA f)
 | .rng lo hi=>∃ t u v,h.get? a=some { cls:=.type "range",data:=.fields #[.int lo t,.int hi u,.int 1 v] }
 | .frz o u=>h.get? a=some o/\Bt H h a u
 | .tbl ps=>h.get? a=some { cls:=.none,data:=.fields ps }
 | .met f x=>h.get? a=some (PySem.W.methodObj (.ref f) (.ref x))
 | .ext φ=>φ h/\(∃ o,h.get? a=some o)/\∀ h1 h2:Heap,φ h1->(∀ o,h1.get? a=some o->h2.get? a=some o)->φ h2
noncomputable def Gw (H:Hp) (h:Heap):Prop:=∀ a o,H a=some o->Bt P w H h a o
end
section
variable {P:Program} {w:World} {H H':Hp} {h h':Heap} {a:Addr} {o:HO}
theorem Bt.lt (x:Bt P w H h a o):a<h.objs.size:=by
 cases o with
 | lst xs=>obtain ⟨_,_,_,_,e⟩:=x; exact Heap.lt_size e
 | tup xs=>obtain ⟨_,_,_,p⟩:=x; exact p.lt
 | dK kvs=>obtain ⟨_,_,_,_,o,_,_,e,_⟩:=x; exact Heap.lt_size e
 | dT kvs=>obtain ⟨_,_,_,_,o,_,_,e,_⟩:=x; exact Heap.lt_size e
 | set S n=>obtain ⟨o,_,_,_,e,_⟩:=x; exact Heap.lt_size e
 | ins C dx fs=>obtain ⟨_,_,_,e,_⟩:=x; exact Heap.lt_size e
 | own y=>obtain ⟨_,e⟩:=x; exact Heap.lt_size e
 | xd fs=>obtain ⟨_,⟨_,_,_,e,_⟩,_⟩:=x; exact Heap.lt_size e
 | rng lo hi=>obtain ⟨_,_,_,e⟩:=x; exact Heap.lt_size e
 | frz ob u=>obtain ⟨e,_⟩:=x; exact Heap.lt_size e
 | tbl ps=>exact Heap.lt_size (show h.get? a=some _ from x)
 | met f y=>exact Heap.lt_size (show h.get? a=some _ from x)
 | ext φ=>obtain ⟨_,⟨_,e⟩,_⟩:=x; exact Heap.lt_size e
theorem Paired.Hv {α β:Type} {F G:α->β->Prop}:∀ {l₁:List α} {l₂:List β},Paired F l₁ l₂->(∀ a b,F a b->G a b)->Paired G l₁ l₂
 | _,_,.nil,_=>.nil
 | _,_,.cons r t,f=>.cons (f _ _ r) (Paired.Hv t f)
theorem Bt.stay (x:Bt P w H h a o) (k:∀ b u,(b=a \/ H b=some (.own a))->h.get? b=some u->h'.get? b=some u)
  (ho:∀ b,H b=some (.own a)->H' b=some (.own a)) (ht:∀ b xs,H b=some (.tup xs)->H' b=some (.tup xs)):Bt P w H' h' a o:=by
 induction o with
 | lst xs=>obtain ⟨z,its,n,r,e⟩:=x; exact ⟨z,its,n,r,k _ _ (.inl rfl) e⟩
 | tup xs=>obtain ⟨z,its,r,ob,e,c⟩:=x; exact ⟨z,its,r,ob,k _ _ (.inl rfl) e,c⟩
 | dK kvs=>obtain ⟨z,y,vs,r,ob,es,ep,e,c⟩:=x; exact ⟨z,y,vs,r,ob,es,ep,k _ _ (.inl rfl) e,c⟩
 | dT kvs =>
  obtain ⟨z,y,xs,r,ob,es,ep,e,c⟩:=x
  exact ⟨z,y,xs,Paired.Hv r fun p q z=>⟨z.1,ht _ _ z.2.1,z.2.2⟩,ob,es,ep,k _ _ (.inl rfl) e,c⟩
 | set S n=>obtain ⟨ob,es,ep,t,e,c⟩:=x; exact ⟨ob,es,ep,t,k _ _ (.inl rfl) e,c⟩
 | ins C dx fs =>
  obtain ⟨d,z,ne,e,mA,⟨od,es,ep,e2,c⟩,r⟩:=x
  exact ⟨ho _ d,z,ne,k _ _ (.inl rfl) e,mA,⟨od,es,ep,k _ _ (.inr d) e2,c⟩,r⟩
 | own y=>obtain ⟨ob,e⟩:=x; exact ⟨ob,k _ _ (.inl rfl) e⟩
 | xd fs=>obtain ⟨mA,⟨od,es,ep,e,c⟩,r⟩:=x; exact ⟨mA,⟨od,es,ep,k _ _ (.inl rfl) e,c⟩,r⟩
 | rng lo hi=>obtain ⟨t,u,v,e⟩:=x; exact ⟨t,u,v,k _ _ (.inl rfl) e⟩
 | frz ob u ih=>obtain ⟨e,q⟩:=x; exact ⟨k _ _ (.inl rfl) e,ih q⟩
 | tbl ps =>
  have e:h.get? a=some { cls:=.none,data:=.fields ps }:=x
  show h'.get? a=some { cls:=.none,data:=.fields ps }
  exact k a _ (.inl rfl) e
 | met f y =>
  have e:h.get? a=some (PySem.W.methodObj (.ref f) (.ref y)):=x
  show h'.get? a=some (PySem.W.methodObj (.ref f) (.ref y))
  exact k a _ (.inl rfl) e
 | ext φ=>obtain ⟨p,⟨o,e⟩,st⟩:=x; exact ⟨st _ _ p fun o q=>k _ _ (.inl rfl) q,⟨o,k _ _ (.inl rfl) e⟩,st⟩
theorem Gw.lt (x:Gw P w H h) (e:H a=some o):a<h.objs.size:=(x a o e).lt
theorem Gw.fresh (x:Gw P w H h) (e:h.objs.size<=a):H a=none:=by
 cases q:H a with
 | none=>rfl
 | some u=>exact absurd (Nat.lt_of_lt_of_le (x.lt q) e) (Nat.lt_irrefl _)
theorem Gw.kept (x:Gw P w H h) (k:∀ b u,h.get? b=some u->h'.get? b=some u):Gw P w H h':=fun a o e =>
 (x a o e).stay (fun b u _ q=>k b u q) (fun _ q=>q) fun _ _ q=>q
theorem Gw.laid (x:Gw P w H h) (k:∀ b u,h.get? b=some u->h'.get? b=some u) (hp:h.objs.size<=a) (new:Bt P w (upd H a o) h' a o):Gw P w (upd H a o) h':=fun b u e=>by
 have hn:=x.fresh hp
 by_cases hb:b=a
 ·subst hb; rw [Ah] at e; cases e; exact new
 ·rw [Av hb] at e
  exact (x b u e).stay (fun c v _ q=>k c v q) (fun c q=>by rw [Av (Ao q hn)]; exact q) fun c xs q=>by rw [Av (Ao q hn)]; exact q
end
noncomputable def Rd (H:Hp) (a:Addr) (u:HO):Prop:=H a=some u \/ ∃ o,H a=some (.frz o u)
theorem Rd.ok {P:Program} {w:World} {H:Hp} {h:Heap} {a:Addr} {u:HO} (r:Rd H a u) (x:Gw P w H h):Bt P w H h a u:=by
 rcases r with r | ⟨o,r⟩
 ·exact x a u r
 ·obtain ⟨_,q⟩:=x a _ r
  exact q
noncomputable def ZW:Option HO->Prop
 | some (.lst _)=>True
 | some (.dK _)=>True
 | some (.dT _)=>True
 | some (.set _ _)=>True
 | some (.ins _ _ _)=>True
 | some (.ext _)=>True
 | _=>False
section
variable {P:Program} {w:World} {H:Hp} {h h':Heap} {x e:Addr} {o':HO}
theorem Gw.write (ok:Gw P w H h) (mu:ZW (H x)) (he:e=x \/ H e=some (.own x)) (k:∀ b u,b ≠ e->h.get? b=some u->h'.get? b=some u) (heo:∃ u,h'.get? e=some u)
  (new:Bt P w (upd H x o') h' x o'):Gw P w (upd H x o') h':=fun b u q=>by
 have nown:∀ c y,H c=some (.own y)->c ≠ x:=fun c y r z=>by subst z; rw [r] at mu; exact mu
 have ntup:∀ c xs,H c=some (.tup xs)->c ≠ x:=fun c xs r z=>by subst z; rw [r] at mu; exact mu
 by_cases hb:b=x
 ·subst hb; rw [Ah] at q; cases q; exact new
 ·rw [Av hb] at q
  by_cases hbe:b=e
  ·have q':H b=some (.own x):=by
    rcases he with z | z
    ·exact absurd (hbe.trans z) hb
    ·rw [hbe]; exact z
   rw [q] at q'; cases q'
   obtain ⟨v,hv⟩:=heo
   exact ⟨v,by rw [hbe]; exact hv⟩
  ·refine (ok b u q).stay (fun c v hc r=>k c v ?_ r) (fun c r=>by rw [Av (nown c b r)]; exact r) fun c xs r=>by rw [Av (ntup c xs r)]; exact r
   rcases hc with rfl | hc
   ·exact hbe
   ·rintro rfl
    rcases he with z | z
    ·exact nown c b hc z
    ·rw [hc] at z; cases z; exact hb rfl
end
structure Un (fs ex:List Addr) (H H':Hp) (h h':Heap):Prop where
 keep:∀ b o,h.get? b=some o->H b=none->b ∉ fs->b ∉ ex->h'.get? b=some o
 slot:∀ b o,h.get? b=some o->H b=none->b∈fs->b ∉ ex->∃ sl,h'.get? b=some { o with slots:=sl }
 free:∀ b o,h.get? b=some o->H b=none->b ∉ ex->H' b=none
 there:∀ b o,h.get? b=some o->b ∉ ex->∃ o',h'.get? b=some o'
 tups:∀ b xs,H b=some (.tup xs)->H' b=some (.tup xs)
 frzs:∀ b o u,H b=some (.frz o u)->H' b=some (.frz o u)
 tbls:∀ b ps,H b=some (.tbl ps)->∃ more,H' b=some (.tbl (ps++more))
section
variable {fs fs' ex ex':List Addr} {H H1 H2:Hp} {h h1 h2 h':Heap} {a x e:Addr} {o:HO}
theorem Un.any (u:Un fs ex H H1 h h1) {b:Addr} {ob:Obj} (q:h.get? b=some ob) (n:H b=none) (hx:b ∉ ex):∃ sl,h1.get? b=some { ob with slots:=sl }:=by
 by_cases hb:b∈fs
 ·exact u.slot b ob q n hb hx
 ·exact ⟨ob.slots,u.keep b ob q n hb hx⟩
theorem Un.kept (k:∀ b u,h.get? b=some u->h'.get? b=some u):Un fs ex H H h h' :=
 ⟨fun b ob q _ _ _=>k b ob q,fun b ob q _ _ _=>⟨ob.slots,k b ob q⟩,fun _ _ _ n _=>n,fun b ob q _=>⟨ob,k b ob q⟩,fun _ _ q=>q,fun _ _ _ q=>q,fun _ ps q=>⟨#[],by rw [q]; simp⟩⟩
theorem Un.refl:Un fs ex H H h h:=Un.kept fun _ _ q=>q
theorem Un.laid (k:∀ b u,h.get? b=some u->h'.get? b=some u) (hp:h.objs.size<=a) (hn:H a=none):Un fs ex H (upd H a o) h h' where
 keep:=fun b u q _ _ _=>k b u q
 slot:=fun b u q _ _ _=>⟨u.slots,k b u q⟩
 free:=fun b u q n _=>by rw [Av (Nat.ne_of_lt (Nat.lt_of_lt_of_le (Heap.lt_size q) hp))]; exact n
 there:=fun b u q _=>⟨u,k b u q⟩
 tups:=fun b xs q=>by rw [Av (Ao q hn)]; exact q
 frzs:=fun b u xs q=>by rw [Av (Ao q hn)]; exact q
 tbls:=fun b ps q=>⟨#[],by rw [Av (Ao q hn),q]; simp⟩
theorem Un.write (mu:ZW (H x)) (he:e=x \/ H e=some (.own x)) (k:∀ b u,b ≠ e->h.get? b=some u->h'.get? b=some u) (heo:∃ u,h'.get? e=some u):Un fs ex H (upd H x o) h h':=by
 have hx:∀ b,H b=none->b ≠ x:=fun b n z=>by subst z; rw [n] at mu; exact mu
 have hb:∀ b,H b=none->b ≠ e:=fun b n z=>by
  subst z
  rcases he with r | r
  ·exact hx b n r
  ·rw [n] at r; cases r
 have hm:∀ b u,H b=some u->¬ ZW (some u)->b ≠ x:=fun b u q nm z=>by subst z; rw [q] at mu; exact nm mu
 refine ⟨fun b u q n _ _=>k b u (hb b n) q,fun b u q n _ _=>⟨u.slots,k b u (hb b n) q⟩,fun b u q n _=>by rw [Av (hx b n)]; exact n,fun b u q _=>?_,
  fun b xs q=>by rw [Av (hm b _ q fun z=>z)]; exact q,fun b u xs q=>by rw [Av (hm b _ q fun z=>z)]; exact q,fun b ps q=>⟨#[],by rw [Av (hm b _ q fun z=>z),q]; simp⟩⟩
 by_cases hbe:b=e
 ·subst hbe; exact heo
 ·exact ⟨u,k b u hbe q⟩
end
noncomputable def Zz (h:Heap) (H:Hp):List Addr:=(List.range h.objs.size).filter fun a=>(H a).isSome
noncomputable def KR (h:Heap) (H:Hp):Heap:=PySem.W.hideAll h (Zz h H)
theorem Ow (h:Heap) (H:Hp):(KR h H).objs.size=h.objs.size:=PySem.W.hideAll_size _ _
theorem Ql {h:Heap} {H:Hp} {b:Addr} {o:Obj} (e:h.get? b=some o) (n:H b=none):(KR h H).get? b=some o :=
 PySem.W.hideAll_get _ e fun hm=>by
  have q:(H b).isSome=true:=(List.mem_filter.mp hm).2
  rw [n] at q; simp at q
theorem Sv {h:Heap} {H:Hp} {b:Addr} {o:Obj} (e:(KR h H).get? b=some o):h.get? b=some o/\H b=none:=by
 have e':h.get? b=some o:=PySem.W.of_hideAll (Zz h H) e
 refine ⟨e',?_⟩
 cases q:H b with
 | none=>rfl
 | some x =>
  have hm:b∈Zz h H:=List.mem_filter.mpr ⟨List.mem_range.mpr (Heap.lt_size e'),by simp [q]⟩
  have z:(KR h H).get? b=none:=PySem.W.hideAll_none (Zz h H) hm
  rw [z] at e; cases e
noncomputable def Su (g h:Heap) (L:Addr):List (Addr × Obj):=(List.range h.objs.size).filterMap fun a=>if a=L \/ (g.get? a).isSome=true then none else (h.get? a).map fun o=>(a,o)
noncomputable def rest (g h:Heap) (L d:Addr):List (Addr × Obj):=(Su g h L).filter fun p=>decide (p.1 ≠ d)
end L2
namespace L2
open PySem PySem.Spec PyProof.Rows
structure Mod (K:PySem.W.Frag) (mg:Str->Option Value) (base:Heap):Prop where
 kin:K.In base
 glob:base.Ns mainGlobals mg
 blt:∃ mb,base.Ns builtinsNs mb/\∀ x:Str,x ≠ "__name__"->mb x=bootBuiltins x
 nolimit:base.NoLimit
structure Cx where
 prog:Program
 w:World
 K:PySem.W.Frag
 mg:Str->Option Value
 base:Heap
 A:Around
 N:List Str
 s₀:Shared
 H₀:Hp
 env:Env
 outer:List Env
 stack:List Env
 ex:List Addr
 fn:Str->Bool
 calm:Bool
 pn:List (Addr × Obj)
 xe:Value->Shared->Prop
noncomputable def frs (l:List Env):List Addr:=l.filterMap (·.frame)
noncomputable abbrev Cx.fs (X:Cx):List Addr:=frs X.outer
noncomputable def cu (sc:Scope) (x:Str):Prop:=sc.names.lookup x=some .local \/ sc.names.lookup x=some .cell \/ sc.names.lookup x=some .free
noncomputable def Loc (sc:Scope) (x:Str):Prop:=sc.names.lookup x=some .local \/ sc.names.lookup x=some .cell
noncomputable def Look (env:Env) (h:Heap) (m:Str->Option Value) (x:Str) (u:Value):Prop :=
 (env.kindOf x=some .local/\m x=some u) \/ ((env.kindOf x=some .cell \/ env.kindOf x=some .free)/\∃ c,env.cells.lookup x=some c/\h.IsCell c (some u))
structure Cx.Ok (X:Cx):Prop where
 mod:Mod X.K X.mg X.base
 kind:X.env.scope.kind=.function
 glob:X.env.globals=mainGlobals
 blt:X.env.builtins=builtinsNs
 above:X.s₀.heap.objs.size<=X.env.locals
 inj:∀ x y c,X.env.cells.lookup x=some c->X.env.cells.lookup y=some c->x=y
 has:∀ x,(X.env.kindOf x=some .cell \/ X.env.kindOf x=some .free)->∃ c,X.env.cells.lookup x=some c
 cab:∀ x c,X.fn x=true->X.env.cells.lookup x=some c->X.s₀.heap.objs.size<=c
 hd:X.calm=true->X.A.handled=none
 frames:X.A.frames=some X.stack
 stk:X.stack=X.outer \/ (X.stack=X.env::X.outer/\X.env.frame=some X.env.locals)
 exf:∀ b∈X.ex,b ≠ X.env.locals/\∀ x c,X.env.cells.lookup x=some c->c ≠ b
 bs:∀ b o,X.base.get? b=some o->X.s₀.heap.get? b=some o/\X.H₀ b=none
 bsz:X.base.objs.size<=X.s₀.heap.objs.size
 noex:∀ b o,X.base.get? b=some o->b ∉ X.ex
 exfs:∀ b∈X.ex,b ∉ X.fs
 Ht:X.s₀.heap.FunFrames X.base X.outer
 frf:∀ b∈X.fs,X.H₀ b=none
structure Inv (X:Cx) (pins:List (Addr × Obj)) (σ:List (Option V)) (H:Hp) (s:Shared):Prop where
 ok:X.Ok
 os:s.os=X.s₀.os
 bare:AllBare s.gens
 base:Un X.fs X.ex X.H₀ H X.s₀.heap s.heap
 loc:∃ m,s.heap.Ns X.env.locals m/\∀ (i:Nat) (x:Str) (v:V),X.N[i]? = some x->σ[i]? = some (some v)->cu X.env.scope x->∃ u,RelV v u/\Look X.env s.heap m x u
 cell:∀ x c,X.env.cells.lookup x=some c->∃ v,s.heap.IsCell c v
 free:H X.env.locals=none
 freeC:∀ x c,X.env.cells.lookup x=some c->H c=none
 pin:∀ p∈X.pn++pins,s.heap.get? p.1=some p.2/\H p.1=none/\p.1 ≠ X.env.locals/\p.1 ∉ X.fs/\∀ v,p.2.data ≠ .cell v
 hok:Gw X.prog X.w H s.heap
 len:σ.length=X.N.length
section
variable {X:Cx} {pins:List (Addr × Obj)} {σ:List (Option V)} {H H':Hp} {s:Shared} {h':Heap}
theorem Cx.Ok.cg (ok:X.Ok) {b:Addr} {o:Obj} (e:X.base.get? b=some o):b ∉ X.fs:=fun hb=>by
 have:=(ok.Ht.mem hb).1
 rw [e] at this; cases this
theorem Inv.bs (I:Inv X pins σ H s):∀ b o,X.base.get? b=some o->s.heap.get? b=some o/\H b=none:=fun b o e =>
 ⟨I.base.keep b o (I.ok.bs b o e).1 (I.ok.bs b o e).2 (I.ok.cg e) (I.ok.noex b o e),I.base.free b o (I.ok.bs b o e).1 (I.ok.bs b o e).2 (I.ok.noex b o e)⟩
theorem Inv.bk (I:Inv X pins σ H s):∀ b o,X.base.get? b=some o->s.heap.get? b=some o:=fun b o e=>(I.bs b o e).1
theorem Inv.mod (I:Inv X pins σ H s):Mod X.K X.mg X.base:=I.ok.mod
theorem Inv.HN (I:Inv X pins σ H s):X.K.In s.heap:=I.ok.mod.kin.keeps I.bk
theorem Inv.lt (I:Inv X pins σ H s):X.env.locals<s.heap.objs.size:=let ⟨_,hn,_⟩:=I.loc; hn.lt
theorem Inv.sz (I:Inv X pins σ H s):X.s₀.heap.objs.size<=s.heap.objs.size:=Nat.le_trans I.ok.above (Nat.le_of_lt I.lt)
theorem Inv.cL (I:Inv X pins σ H s) {a:Addr} (h:s.heap.objs.size<=a):a ∉ X.fs:=fun hb=>by
 obtain ⟨_,o,ho,_⟩:=I.ok.Ht.mem hb
 exact absurd (Nat.lt_of_lt_of_le (Heap.lt_size ho) (Nat.le_trans I.sz h)) (Nat.lt_irrefl _)
theorem Inv.Uz (I:Inv X pins σ H s):∀ x c,X.env.cells.lookup x=some c->c ≠ X.env.locals:=fun x c e z=>by
 obtain ⟨v,o,ho,hd⟩:=I.cell x c e
 obtain ⟨m,⟨o',es,ep,ho',hd',_⟩,_⟩:=I.loc
 rw [z,ho'] at ho; cases ho; rw [hd'] at hd; cases hd
theorem Inv.Ht (I:Inv X pins σ H s):s.heap.FunFrames X.base X.outer:=by
 have all:∀ (l:List Env),(∀ b∈frs l,b∈X.fs)->X.s₀.heap.FunFrames X.base l->s.heap.FunFrames X.base l:=by
  intro l
  induction l with
  | nil=>intro _ _; trivial
  | cons env r ih =>
   intro hs hl
   obtain ⟨hk,⟨L,o,hf,hn,ho,hd⟩,hr⟩:=hl
   have hL:L∈X.fs:=hs L (by unfold frs; rw [List.filterMap_cons,hf]; exact List.mem_cons_self)
   obtain ⟨sl,e⟩:=I.base.slot L o ho (I.ok.frf L hL) hL fun z=>I.ok.exfs L z hL
   exact ⟨hk,⟨L,_,hf,hn,e,hd⟩,ih (fun b hb=>hs b (by unfold frs; rw [List.filterMap_cons,hf]; exact List.mem_cons_of_mem _ hb)) hr⟩
 exact all X.outer (fun _ hb=>hb) I.ok.Ht
theorem Inv.stack (I:Inv X pins σ H s):s.heap.FunFrames X.base X.stack:=by
 rcases I.ok.stk with e | ⟨e,hf⟩
 ·rw [e]; exact I.Ht
 ·rw [e]
  obtain ⟨m,hn,_⟩:=I.loc
  refine .cons (by rw [I.ok.kind]; decide) hf hn ?_ I.Ht
  exact Heap.get?_none_of_le (Nat.le_trans I.ok.bsz I.ok.above)
theorem Inv.Jz (I:Inv X pins σ H s):∀ b∈frs X.stack,b∈X.env.locals::X.fs:=fun b hb=>by
 rcases I.ok.stk with e | ⟨e,hf⟩
 ·rw [e] at hb; exact List.mem_cons_of_mem _ hb
 ·rw [e] at hb
  unfold frs at hb
  rw [List.filterMap_cons,hf] at hb
  exact hb
theorem Inv.Jp (I:Inv X pins σ H s):∀ b∈frs X.stack,H b=none:=fun b hb=>by
 rcases List.mem_cons.mp (I.Jz b hb) with e | hb
 ·rw [e]; exact I.free
 ·obtain ⟨_,o,ho,_⟩:=I.ok.Ht.mem hb
  exact I.base.free b o ho (I.ok.frf b hb) fun z=>I.ok.exfs b z hb
theorem Inv.step {g':Array GenState} {t':Nat} {d':Drawn} {ch:List Addr} (I:Inv X pins σ H s)
  (hch:∀ b∈ch,(b∈X.ex \/ X.s₀.heap.objs.size<=b)/\b ≠ X.env.locals/\(∀ x c,X.env.cells.lookup x=some c->c ≠ b)/\∀ p∈X.pn++pins,p.1 ≠ b)
  (keep:∀ b o,b ≠ X.env.locals->b ∉ X.fs->b ∉ ch->s.heap.get? b=some o->H b=none->h'.get? b=some o)
  (slot:∀ b o,b ≠ X.env.locals->b∈X.fs->b ∉ ch->s.heap.get? b=some o->H b=none->∃ sl,h'.get? b=some { o with slots:=sl }) (free:∀ b o,b ∉ ch->s.heap.get? b=some o->H b=none->H' b=none)
  (there:∀ b o,b ∉ ch->s.heap.get? b=some o->∃ o',h'.get? b=some o')
  (tups:∀ b xs,H b=some (.tup xs)->H' b=some (.tup xs)) (frzs:∀ b o u,H b=some (.frz o u)->H' b=some (.frz o u)) (tbls:∀ b ps,H b=some (.tbl ps)->∃ more,H' b=some (.tbl (ps++more)))
  (ns:∀ m,s.heap.Ns X.env.locals m->h'.Ns X.env.locals m) (hok:Gw X.prog X.w H' h') (hg:AllBare g') :
  Inv X pins σ H' { s with heap:=h',gens:=g',drawn:=d',toks:=t' }:=by
 have neL:∀ b o,X.s₀.heap.get? b=some o->b ≠ X.env.locals:=fun b o e=>Nat.ne_of_lt (Nat.lt_of_lt_of_le (Heap.lt_size e) I.ok.above)
 have neC:∀ b o,X.s₀.heap.get? b=some o->b ∉ X.ex->b ∉ ch:=fun b o e hx hb=>by
  rcases (hch b hb).1 with z | z
  ·exact hx z
  ·exact absurd (Nat.lt_of_lt_of_le (Heap.lt_size e) z) (Nat.lt_irrefl _)
 have cellK:∀ x c,X.env.cells.lookup x=some c->∀ v,s.heap.IsCell c v->h'.IsCell c v:=fun x c e v ⟨o,ho,hd⟩=>by
  have nch:c ∉ ch:=fun z=>(hch c z).2.2.1 x c e rfl
  by_cases hc:c∈X.fs
  ·obtain ⟨sl,q⟩:=slot c o (I.Uz x c e) hc nch ho (I.freeC x c e)
   exact ⟨_,q,hd⟩
  ·exact ⟨o,keep c o (I.Uz x c e) hc nch ho (I.freeC x c e),hd⟩
 refine ⟨I.ok,I.os,hg,⟨fun b o e n hb hx=>?_,fun b o e n hb hx=>?_,fun b o e n hx=>?_,fun b o e hx=>?_,fun b xs e=>tups b xs (I.base.tups b xs e),fun b o xs e=>frzs b o xs (I.base.frzs b o xs e),fun b ps e=>?_⟩,?_,fun x c e=>?_,?_,fun x c e=>?_,fun p hp=>?_,hok,I.len⟩
 ·exact keep b o (neL b o e) hb (neC b o e hx) (I.base.keep b o e n hb hx) (I.base.free b o e n hx)
 ·obtain ⟨sl,e1⟩:=I.base.slot b o e n hb hx
  obtain ⟨sl',e2⟩:=slot b _ (neL b o e) hb (neC b o e hx) e1 (I.base.free b o e n hx)
  exact ⟨sl',e2⟩
 ·obtain ⟨o',e1⟩:=I.base.there b o e hx
  exact free b o' (neC b o e hx) e1 (I.base.free b o e n hx)
 ·obtain ⟨o',e1⟩:=I.base.there b o e hx
  exact there b o' (neC b o e hx) e1
 ·obtain ⟨m1,e1⟩:=I.base.tbls b ps e
  obtain ⟨m2,e2⟩:=tbls b _ e1
  exact ⟨m1++m2,by rw [e2,Array.append_assoc]⟩
 ·obtain ⟨m,hn,hl⟩:=I.loc
  refine ⟨m,ns m hn,fun i x v e1 e2 e3=>?_⟩
  obtain ⟨u,r,l⟩:=hl i x v e1 e2 e3
  refine ⟨u,r,?_⟩
  rcases l with l | ⟨k,c,e,z⟩
  ·exact .inl l
  ·exact .inr ⟨k,c,e,cellK x c e _ z⟩
 ·obtain ⟨v,z⟩:=I.cell x c e
  exact ⟨v,cellK x c e v z⟩
 ·obtain ⟨m,⟨o,_,_,ho,_⟩,_⟩:=I.loc
  exact free _ o (fun z=>(hch _ z).2.1 rfl) ho I.free
 ·obtain ⟨v,o,ho,hd⟩:=I.cell x c e
  exact free c o (fun z=>(hch c z).2.2.1 x c e rfl) ho (I.freeC x c e)
 ·obtain ⟨e,n,ne,nf,d⟩:=I.pin p hp
  have nch:p.1 ∉ ch:=fun z=>(hch p.1 z).2.2.2 p hp rfl
  exact ⟨keep p.1 p.2 ne nf nch e n,free p.1 p.2 nch e n,ne,nf,d⟩
theorem Inv.un {t':Nat} (I:Inv X pins σ H s) (u:Un X.fs [] H H' s.heap h') (hok:Gw X.prog X.w H' h'):Inv X pins σ H' { s with heap:=h',toks:=t' }:=by
 obtain ⟨m,⟨o,es,ep,ho,r⟩,_⟩:=id I.loc
 obtain ⟨sl,hL⟩:=u.any ho I.free (by simp)
 exact I.step (g':=s.gens) (d':=s.drawn) (ch:=[]) (fun _ z=>nomatch z) (fun b o _ hb _ e n=>u.keep b o e n hb (by simp)) (fun b o _ hb _ e n=>u.slot b o e n hb (by simp)) (fun b o _ e n=>u.free b o e n (by simp)) (fun b o _ e=>u.there b o e (by simp)) u.tups u.frzs u.tbls (fun m' hm=>by
  obtain ⟨o',es',ep',ho',r'⟩:=hm
  rw [ho] at ho'; cases ho'
  exact ⟨_,es',ep',hL,r'⟩) hok I.bare
theorem Inv.call {g':Array GenState} {t':Nat} {d':Drawn} {ch:List Addr} (I:Inv X pins σ H s) (u:Un (frs X.stack) ch H H' s.heap h') (hok:Gw X.prog X.w H' h') (hg:AllBare g')
  (hch:∀ b∈ch,(b∈X.ex \/ X.s₀.heap.objs.size<=b)/\b ≠ X.env.locals/\(∀ x c,X.env.cells.lookup x=some c->c ≠ b)/\∀ p∈X.pn++pins,p.1 ≠ b) :
  Inv X pins σ H' { s with heap:=h',gens:=g',drawn:=d',toks:=t' }:=by
 obtain ⟨m,⟨o,es,ep,ho,r⟩,_⟩:=id I.loc
 obtain ⟨sl,hL⟩:=u.any ho I.free fun z=>(hch _ z).2.1 rfl
 exact I.step (ch:=ch) hch (fun b o hL hb hc e n=>u.keep b o e n (fun z=>(List.mem_cons.mp (I.Jz b z)).elim hL hb) hc) (fun b o _ _ hc e n=>u.any e n hc) (fun b o hc e n=>u.free b o e n hc) (fun b o hc e=>u.there b o e hc) u.tups u.frzs u.tbls (fun m' hm=>by
  obtain ⟨o',es',ep',ho',r'⟩:=hm
  rw [ho] at ho'; cases ho'
  exact ⟨_,es',ep',hL,r'⟩) hok hg
theorem Inv.turned {t':Nat} {it:Addr} (I:Inv X pins σ H s) (k:∀ b o,b ≠ it->s.heap.get? b=some o->h'.get? b=some o) (hn:H it=none) (hL:it ≠ X.env.locals)
  (h1:it∈X.ex \/ X.s₀.heap.objs.size<=it) (h2:∀ x c,X.env.cells.lookup x=some c->c ≠ it) (h3:∀ p∈X.pn++pins,p.1 ≠ it):Inv X pins σ H { s with heap:=h',toks:=t' }:=by
 have nit:∀ b u,H b=some u->b ≠ it:=fun b u e z=>by rw [z,hn] at e; cases e
 refine I.step (g':=s.gens) (d':=s.drawn) (ch:=[it]) (fun b hb=>?_) (fun b o _ _ hc e _=>k b o (fun z=>hc (by simp [z])) e) (fun b o _ _ hc e _=>⟨o.slots,k b o (fun z=>hc (by simp [z])) e⟩) (fun _ _ _ _ n=>n)
  (fun b o hc e=>⟨o,k b o (fun z=>hc (by simp [z])) e⟩) (fun _ _ e=>e) (fun _ _ _ e=>e) (fun b ps e=>⟨#[],by rw [e]; simp⟩) (fun m hm=>?_) (fun b u e=>?_) I.bare
 ·have e:b=it:=by simpa using hb
  subst e
  exact ⟨h1,hL,h2,h3⟩
 ·obtain ⟨o,es,ep,ho,r⟩:=hm
  exact ⟨o,es,ep,k _ o (Ne.symm hL) ho,r⟩
 ·refine (I.hok b u e).stay (fun c v hc q=>k c v ?_ q) (fun _ q=>q) fun _ _ q=>q
  rcases hc with z | z
  ·rw [z]; exact nit b u e
  ·exact nit c _ z
theorem Inv.tok (I:Inv X pins σ H s) (t:Nat):Inv X pins σ H { s with toks:=t }:=I.un (h':=s.heap) (t':=t) Un.refl I.hok
theorem Inv.kept {t':Nat} (I:Inv X pins σ H s) (k:∀ b u,s.heap.get? b=some u->h'.get? b=some u):Inv X pins σ H { s with heap:=h',toks:=t' }:=I.un (Un.kept k) (I.hok.kept k)
theorem Inv.laid {a:Addr} {o:HO} {t':Nat} (I:Inv X pins σ H s) (k:∀ b u,s.heap.get? b=some u->h'.get? b=some u) (hp:s.heap.objs.size<=a) (new:Bt X.prog X.w (upd H a o) h' a o) :
  Inv X pins σ (upd H a o) { s with heap:=h',toks:=t' }:=I.un (Un.laid k hp (I.hok.fresh hp)) (I.hok.laid k hp new)
theorem Inv.write {x e:Addr} {o:HO} {t':Nat} (I:Inv X pins σ H s) (mu:ZW (H x)) (he:e=x \/ H e=some (.own x)) (k:∀ b u,b ≠ e->s.heap.get? b=some u->h'.get? b=some u) (heo:∃ u,h'.get? e=some u)
  (new:Bt X.prog X.w (upd H x o) h' x o):Inv X pins σ (upd H x o) { s with heap:=h',toks:=t' }:=I.un (Un.write mu he k heo) (I.hok.write mu he k heo new)
theorem Inv.Mt {pins':List (Addr × Obj)} (I:Inv X pins σ H s) (h:∀ p∈pins',s.heap.get? p.1=some p.2/\H p.1=none/\p.1 ≠ X.env.locals/\p.1 ∉ X.fs/\∀ v,p.2.data ≠ .cell v):Inv X pins' σ H s :=
 ⟨I.ok,I.os,I.bare,I.base,I.loc,I.cell,I.free,I.freeC,fun p hp=>(List.mem_append.mp hp).elim (fun z=>I.pin p (List.mem_append_left _ z)) (h p),I.hok,I.len⟩
theorem Ks {N:List Str} (hN:N.Nodup) {i j:Nat} {x:Str} (a:N[i]? = some x) (b:N[j]? = some x):i=j:=by
 obtain ⟨h1,e1⟩:=List.getElem?_eq_some_iff.mp a
 obtain ⟨h2,e2⟩:=List.getElem?_eq_some_iff.mp b
 exact (List.getElem_inj hN).mp (e1.trans e2.symm)
theorem Jl {M:Model} {A:Around} {E:Value->Shared->Prop} {i:Nat} {x:Str} {v:V} {u:Value} {Q:Unit->Shared->Prop} (I:Inv X pins σ H s) (hN:X.N.Nodup) (hi:X.N[i]? = some x) (hx:Loc X.env.scope x) (r:RelV v u)
  (h:∀ s',Inv X pins (σ.set i (some v)) H s'->(∃ a,Heap.SameBut a s.heap s'.heap/\(a=X.env.locals \/ X.env.cells.lookup x=some a))->Q () s') (hf:X.fn x=true \/ X.env.scope.names.lookup x=some .local:=by first | exact .inl rfl | exact .inr rfl | assumption):wpAny M A (storeName X.env x u) Q E s:=by
 obtain ⟨m,hn,hl⟩:=id I.loc
 have hcls:(X.env.scope.kind == .class || (X.env.scope.kind == .module && X.env.locals != X.env.globals))=false:=by rw [I.ok.kind]; rfl
 have hiσ:i<σ.length:=by rw [I.len]; exact (List.getElem?_eq_some_iff.mp hi).1
 have Uz:=I.Uz
 have tracked:∀ {a:Addr} {h':Heap},(∃ o,s.heap.get? a=some o/\H a=none)->Heap.SameBut a s.heap h'->Gw X.prog X.w H h':=fun {a h'} ha hs b ob e=>by
  obtain ⟨_,_,hfree⟩:=ha
  refine (I.hok b ob e).stay (fun c w' hc q=>(hs.2 c ?_).trans q) (fun _ q=>q) fun _ _ q=>q
  rintro rfl
  rcases hc with rfl | hc
  ·rw [hfree] at e; cases e
  ·rw [hfree] at hc; cases hc
 rcases hx with hk | hk
 ·refine wpAny_storeName_local hk hn (fun h' hn' hs=>?_) hcls
  obtain ⟨oL,_,_,hoL,_⟩:=id hn
  refine h _ ⟨I.ok,I.os,I.bare,⟨fun b o e n hb hx=>?_,fun b o e n hb hx=>?_,I.base.free,fun b o e hx=>?_,I.base.tups,I.base.frzs,I.base.tbls⟩,⟨_,hn',fun j y v' e1 e2 e3=>?_⟩,fun y c e=>?_,I.free,I.freeC,fun p hp=>?_,tracked ⟨oL,hoL,I.free⟩ hs,by simpa using I.len⟩ ⟨_,hs,.inl rfl⟩
  ·exact (hs.2 b (Nat.ne_of_lt (Nat.lt_of_lt_of_le (Heap.lt_size e) I.ok.above))).trans (I.base.keep b o e n hb hx)
  ·obtain ⟨sl,e1⟩:=I.base.slot b o e n hb hx
   exact ⟨sl,(hs.2 b (Nat.ne_of_lt (Nat.lt_of_lt_of_le (Heap.lt_size e) I.ok.above))).trans e1⟩
  ·obtain ⟨o',e1⟩:=I.base.there b o e hx
   exact ⟨o',(hs.2 b (Nat.ne_of_lt (Nat.lt_of_lt_of_le (Heap.lt_size e) I.ok.above))).trans e1⟩
  ·by_cases hj:j=i
   ·subst hj
    rw [hi] at e1; cases e1
    rw [List.getElem?_set_self hiσ] at e2
    cases e2
    exact ⟨u,r,.inl ⟨hk,by simp⟩⟩
   ·rw [List.getElem?_set_ne (Ne.symm hj)] at e2
    obtain ⟨u',r',q⟩:=hl j y v' e1 e2 e3
    refine ⟨u',r',?_⟩
    rcases q with ⟨k,e⟩ | ⟨k,c,e,z⟩
    ·refine .inl ⟨k,?_⟩
     have:y ≠ x:=fun e=>hj (Ks hN e1 (e ▸ hi))
     simp [this,e]
    ·exact .inr ⟨k,c,e,z.sameBut hs (Uz y c e)⟩
  ·obtain ⟨w',z⟩:=I.cell y c e
   exact ⟨w',z.sameBut hs (Uz y c e)⟩
  ·obtain ⟨e,n,ne,nf,d⟩:=I.pin p hp
   exact ⟨(hs.2 p.1 ne).trans e,n,ne,nf,d⟩
 ·have hfn:X.fn x=true:=by
   rcases hf with z | z
   ·exact z
   ·rw [z] at hk; cases hk
  obtain ⟨c,hc⟩:=I.ok.has x (.inl hk)
  obtain ⟨w',z⟩:=I.cell x c hc
  refine wpAny_storeName_cell I.ok.kind hk hc z (fun h' hc' hs=>?_)
  obtain ⟨oc,hoc,hocd⟩:=id z
  refine h { s with heap:=h' } ⟨I.ok,I.os,I.bare,⟨fun b o e n hb hx=>?_,fun b o e n hb hx=>?_,I.base.free,fun b o e hx=>?_,I.base.tups,I.base.frzs,I.base.tbls⟩,⟨m,hn.sameBut hs (Ne.symm (Uz x c hc)),fun j y v' e1 e2 e3=>?_⟩,fun y c' e=>?_,I.free,I.freeC,fun p hp=>?_,tracked ⟨oc,hoc,I.freeC x c hc⟩ hs,by simpa using I.len⟩ ⟨c,hs,.inr hc⟩
  ·exact (hs.2 b (Nat.ne_of_lt (Nat.lt_of_lt_of_le (Heap.lt_size e) (I.ok.cab x c hfn hc)))).trans (I.base.keep b o e n hb hx)
  ·obtain ⟨sl,e1⟩:=I.base.slot b o e n hb hx
   exact ⟨sl,(hs.2 b (Nat.ne_of_lt (Nat.lt_of_lt_of_le (Heap.lt_size e) (I.ok.cab x c hfn hc)))).trans e1⟩
  ·obtain ⟨o',e1⟩:=I.base.there b o e hx
   exact ⟨o',(hs.2 b (Nat.ne_of_lt (Nat.lt_of_lt_of_le (Heap.lt_size e) (I.ok.cab x c hfn hc)))).trans e1⟩
  ·by_cases hj:j=i
   ·subst hj
    rw [hi] at e1; cases e1
    rw [List.getElem?_set_self hiσ] at e2
    cases e2
    exact ⟨u,r,.inr ⟨.inl hk,c,hc,hc'⟩⟩
   ·rw [List.getElem?_set_ne (Ne.symm hj)] at e2
    obtain ⟨u',r',q⟩:=hl j y v' e1 e2 e3
    refine ⟨u',r',?_⟩
    rcases q with q | ⟨k,c',e,z'⟩
    ·exact .inl q
    ·refine .inr ⟨k,c',e,z'.sameBut hs ?_⟩
     rintro rfl
     exact hj (Ks hN e1 (I.ok.inj _ _ _ e hc ▸ hi))
  ·by_cases hcc:c'=c
   ·subst hcc; exact ⟨_,hc'⟩
   ·obtain ⟨w2,z2⟩:=I.cell y c' e
    exact ⟨w2,z2.sameBut hs hcc⟩
  ·obtain ⟨e,n,ne,nf,d⟩:=I.pin p hp
   refine ⟨(hs.2 p.1 ?_).trans e,n,ne,nf,d⟩
   intro q
   rw [q,hoc] at e
   have q':oc=p.2:=Option.some.inj e
   exact d w' (by rw [← q']; exact hocd)
theorem Ig {M:Model} {A:Around} {E:Value->Shared->Prop} {i:Nat} {x:Str} {v:V} {u:Value} {Q:Unit->Shared->Prop} (I:Inv X pins σ H s) (hN:X.N.Nodup) (hi:X.N[i]? = some x) (hx:Loc X.env.scope x) (r:RelV v u)
  (h:∀ s',Inv X pins (σ.set i (some v)) H s'->Q () s') (hf:X.fn x=true \/ X.env.scope.names.lookup x=some .local:=by first | exact .inl rfl | exact .inr rfl | assumption):wpAny M A (storeName X.env x u) Q E s :=
 Jl I hN hi hx r (fun s' I' _=>h s' I') hf
theorem Inv.call' {s':Shared} {ch:List Addr} (I:Inv X pins σ H s) (ho:s'.os=s.os) (u:Un (frs X.stack) ch H H' s.heap s'.heap) (hok:Gw X.prog X.w H' s'.heap) (hg:AllBare s'.gens)
  (hch:∀ b∈ch,(b∈X.ex \/ X.s₀.heap.objs.size<=b)/\b ≠ X.env.locals/\(∀ x c,X.env.cells.lookup x=some c->c ≠ b)/\∀ p∈X.pn++pins,p.1 ≠ b):Inv X pins σ H' s':=by
 obtain ⟨h',g',d',t',o'⟩:=s'
 have e:o'=s.os:=ho
 subst e
 exact I.call (g':=g') (t':=t') (d':=d') u hok hg hch
end
noncomputable abbrev XK:=Value->Option Addr->Hp->Prop
noncomputable abbrev St:=List (Option V)
noncomputable abbrev VK:=V->Hp->Prop
noncomputable abbrev TE:=St->Hp->VK->Prop
noncomputable abbrev TT:=St->Hp->(Bool->Hp->Prop)->Prop
noncomputable abbrev TA:=St->Hp->(List V->Hp->Prop)->Prop
structure Ends where
 nx:St->Hp->Prop
 rt:VK
 bk:St->Hp->Prop:=fun _ _=>False
 ct:St->Hp->Prop:=fun _ _=>False
noncomputable abbrev TS:=Ends->St->Hp->Prop
noncomputable def EP (X:Cx) (pins:List (Addr × Obj)) (σ:St) (Q:VK) (u:Value) (s':Shared):Prop:=∃ v H',Inv X pins σ H' s'/\RelV v u/\Q v H'
noncomputable def TP (X:Cx) (pins:List (Addr × Obj)) (σ:St) (Q:Bool->Hp->Prop) (b:Bool) (s':Shared):Prop:=∃ H',Inv X pins σ H' s'/\Q b H'
noncomputable def AP (X:Cx) (pins:List (Addr × Obj)) (σ:St) (Q:List V->Hp->Prop) (us:List Value) (s':Shared):Prop:=∃ vs H',Inv X pins σ H' s'/\Vals vs us/\Q vs H'
noncomputable def SP (X:Cx) (pins:List (Addr × Obj)) (D:Ends) (f:Flow) (s':Shared):Prop :=
 match f with
 | .next=>∃ σ' H',Inv X pins σ' H' s'/\D.nx σ' H'
 | .brk=>∃ σ' H',Inv X pins σ' H' s'/\D.bk σ' H'
 | .cont=>∃ σ' H',Inv X pins σ' H' s'/\D.ct σ' H'
 | .ret u=>∃ v σ' H',Inv X pins σ' H' s'/\RelV v u/\D.rt v H'
noncomputable def PE (X:Cx) (e:Expr) (t:TE):Prop :=
 ∀ (pins:List (Addr × Obj)) (s:Shared) (σ:St) (H:Hp) (Q:VK),Inv X pins σ H s->t σ H Q->wpAny (model X.prog X.w) X.A (eval e X.env) (EP X pins σ Q) X.xe s
noncomputable def PT (X:Cx) (e:Expr) (t:TT):Prop :=
 ∀ (pins:List (Addr × Obj)) (s:Shared) (σ:St) (H:Hp) (Q:Bool->Hp->Prop),Inv X pins σ H s->t σ H Q->wpAny (model X.prog X.w) X.A (isTrue e X.env (eval e X.env)) (TP X pins σ Q) X.xe s
noncomputable def PW (X:Cx) (e:Expr) (t:TT):Prop :=
 ∀ (whole:Sem Value) (pins:List (Addr × Obj)) (s:Shared) (σ:St) (H:Hp) (Q:Bool->Hp->Prop),Inv X pins σ H s->t σ H Q->wpAny (model X.prog X.w) X.A (isTrue e X.env whole) (TP X pins σ Q) X.xe s
theorem PW.pt {X:Cx} {e:Expr} {t:TT} (h:PW X e t):PT X e t:=h _
noncomputable def PA (X:Cx) (es:List Expr) (t:TA):Prop :=
 ∀ (pos:Pos) (pins:List (Addr × Obj)) (s:Shared) (σ:St) (H:Hp) (Q:List V->Hp->Prop),Inv X pins σ H s->t σ H Q->wpAny (model X.prog X.w) X.A (spliced (backTo pos (starEach es X.env))) (AP X pins σ Q) X.xe s
noncomputable def PS (X:Cx) (st:Stmt) (t:TS):Prop :=
 ∀ (pins:List (Addr × Obj)) (s:Shared) (σ:St) (H:Hp) (D:Ends),Inv X pins σ H s->t D σ H->wpAny (model X.prog X.w) X.A (exec st X.env) (SP X pins D) X.xe s
noncomputable def Lh (X:Cx) (st:List Stmt) (t:TS):Prop :=
 ∀ (pins:List (Addr × Obj)) (s:Shared) (σ:St) (H:Hp) (D:Ends),Inv X pins σ H s->t D σ H->wpAny (model X.prog X.w) X.A (execs st X.env) (SP X pins D) X.xe s
theorem Bo {α:Type} {t:Sem α} {Q Q':α->Shared->Prop} {M:Model} {A:Around} {E:Value->Shared->Prop} {s:Shared} (h:wpAny M A t Q E s) (hQ:∀ a s,Q a s->Q' a s):wpAny M A t Q' E s:=wpAny_mono h hQ fun _ _ x=>x
end L2
namespace L2
open PySem PySem.Spec PyProof.Rows
section
variable {X:Cx}
noncomputable def W_ (i:Nat):TE:=fun σ H Q=>∃ v,σ[i]? = some (some v)/\Q v H
noncomputable def tC (v:V):TE:=fun _ H Q=>Q v H
theorem Vf {i:Nat} {x:Str} {pos:Pos} (hN:X.N[i]? = some x) (hv:cu X.env.scope x) (hd:(x == ("__debug__" : Str))=false:=by decide) (hcd:(x == ("__classdict__" : Str))=false:=by decide):PE X (.Name x pos) (W_ i):=by
 intro pins s σ H Q I h
 obtain ⟨v,e,h⟩:=h
 obtain ⟨m,hn,hl⟩:=I.loc
 obtain ⟨u,r,l⟩:=hl i x v hN e hv
 have fin:EP X pins σ Q u s:=⟨v,H,I,r,h⟩
 rcases l with ⟨hk,hm⟩ | ⟨hk,c,hc,hcell⟩
 ·exact wpAny_Name (wpAny_loadName_local I.ok.kind hk hn hm fin) hd
 ·rcases hk with hk | hk
  ·exact wpAny_Name (wpAny_loadName_cell I.ok.kind hk hc hcell fin) hd
  ·exact wpAny_Name (wpAny_loadName_free I.ok.kind hk hc hcell fin hcd) hd
theorem Ac {i j pos}:PE X (.Constant (.int i) j pos) (tC (.int i)):=fun _ _ _ H _ I h=>wpAny_Constant_int ⟨.int i,H,I.tok _,⟨_,rfl⟩,h⟩
theorem JZ {b j pos}:PE X (.Constant (.bool b) j pos) (tC (.bl b)):=fun _ _ _ H _ I h=>Constant_bool ⟨.bl b,H,I,rfl,h⟩
theorem MP {j pos}:PE X (.Constant .none j pos) (tC .non):=fun _ _ _ H _ I h=>Constant_none ⟨.non,H,I,rfl,h⟩
theorem BV {x j pos}:PE X (.Constant (.str x) j pos) (tC (.str x)):=fun _ _ _ H _ I h=>Calls.Constant_str ⟨.str x,H,I.tok _,⟨_,rfl⟩,h⟩
noncomputable def Gl (X:Cx) (x:Str):Prop:=X.env.kindOf x=some .globalImplicit
theorem KC {E:Value->Shared->Prop} {pins:List (Addr × Obj)} {s:Shared} {σ:St} {H:Hp} {x:Str} {u:Value} {pos:Pos} {Q:Value->Shared->Prop} (I:Inv X pins σ H s) (hg:Gl X x) (hm:X.mg x=some u) (h:Q u s)
  (hd:(x == ("__debug__" : Str))=false:=by decide):wpAny (model X.prog X.w) X.A (eval (.Name x pos) X.env) Q E s :=
 Calls.Name_function_global I.ok.kind hg (Calls.loadGlobal_global (by rw [I.ok.glob]; exact I.mod.glob.keeps I.bk) hm h) hd
theorem Ez {E:Value->Shared->Prop} {pins:List (Addr × Obj)} {s:Shared} {σ:St} {H:Hp} {x:Str} {u:Value} {pos:Pos} {Q:Value->Shared->Prop} (I:Inv X pins σ H s) (hg:Gl X x) (hm:X.mg x=none) (hv:bootBuiltins x=some u) (h:Q u s)
  (hn:x ≠ "__name__":=by decide) (hd:(x == ("__debug__" : Str))=false:=by decide):wpAny (model X.prog X.w) X.A (eval (.Name x pos) X.env) Q E s:=by
 obtain ⟨mb,h1,h2⟩:=I.mod.blt
 exact Calls.Name_function_global I.ok.kind hg (Calls.loadGlobal_builtin (by rw [I.ok.glob]; exact I.mod.glob.keeps I.bk) hm (by rw [I.ok.blt]; exact h1.keeps I.bk) ((h2 x hn).trans hv) h) hd
theorem Cd {x:Str} {v:V} {u:Value} {pos:Pos} (hg:Gl X x) (hm:X.mg x=some u) (r:RelV v u) (hd:(x == ("__debug__" : Str))=false:=by decide):PE X (.Name x pos) (tC v) :=
 fun _ _ _ H _ I h=>KC I hg hm ⟨v,H,I,r,h⟩ hd
theorem Dt {x:Str} {v:V} {u:Value} {pos:Pos} (hg:Gl X x) (hm:X.mg x=none) (hv:bootBuiltins x=some u) (r:RelV v u) (hn:x ≠ "__name__":=by decide) (hd:(x == ("__debug__" : Str))=false:=by decide):PE X (.Name x pos) (tC v) :=
 fun _ _ _ H _ I h=>Ez I hg hm hv ⟨v,H,I,r,h⟩ hn hd
variable {a b:Expr} {ta tb:TE} {pos:Pos}
noncomputable def PC (X:Cx) (op:CmpOp) (a b:Expr) (t:TE):Prop :=
 ∀ (pins:List (Addr × Obj)) (s:Shared) (σ:St) (H:Hp) (Q:VK),Inv X pins σ H s->t σ H Q ->
  wpAny (model X.prog X.w) X.A (eval a X.env) (fun v s₁=>wpAny (model X.prog X.w) X.A (eval b X.env) (fun u s₂=>wpAny (model X.prog X.w) X.A (compareOp op v u) (EP X pins σ Q) X.xe s₂) X.xe s₁) X.xe s
noncomputable def tB (t:TE):TT:=fun σ H Q=>t σ H fun x H1=>∃ c,x=.bl c/\Q c H1
theorem Q0 {op:CmpOp} {t:TE} (h:PC X op a b t) (h1:behindInMarks op b=false:=by first | exact nobehind _ (by decide) (by decide) | rfl):PE X (.Compare a [op] [b] pos) t:=fun pins s σ H Q I hw=>wpAny_Compare1 (h pins s σ H Q I hw) h1
theorem Qs {op:CmpOp} {t:TE} (h:PC X op a b t) (h1:behindInMarks op b=false:=by first | exact nobehind _ (by decide) (by decide) | rfl):PT X (.Compare a [op] [b] pos) (tB t):=by
 intro pins s σ H Q I hw
 refine wpAny_isTrue_Compare1 (Bo (h pins s σ H _ I hw) fun v s1 h1=>Bo h1 fun u s2 h2=>Bo h2 fun c s3 ⟨x,H1,I1,r1,q1⟩=>?_) h1
 obtain ⟨d,rfl,q⟩:=q1
 cases r1
 exact wpAny_truthy_bool ⟨H1,I1,q⟩
theorem Ej {e:Expr} {t:TE} (h:PE X e t) (he:∀ whole,isTrue e X.env whole=(do let v ← whole; standAt e.pos; holding [v] (truthy v)):=by intro _; rfl):PT X e (tB t):=by
 intro pins s σ H Q I hw
 refine isTrue_plain (Bo (h pins s σ H _ I hw) fun v s1 ⟨x,H1,I1,r1,q1⟩=>?_) (he _)
 obtain ⟨d,rfl,q⟩:=q1
 cases r1
 exact wpAny_truthy_bool ⟨H1,I1,q⟩
variable {tA tB':TT} {rest:List Expr}
noncomputable def bG (t u:TT):TT:=fun σ H Q=>t σ H fun c H1=>if c=true then u σ H1 Q else Q false H1
noncomputable def bZ (t u:TT):TT:=fun σ H Q=>t σ H fun c H1=>if c=true then Q true H1 else u σ H1 Q
noncomputable def bO (t:TT):TT:=fun σ H Q=>t σ H fun c H1=>Q (!c) H1
theorem J3 (ha:PT X a tA):PW X (.BoolOp .And [a] pos) tA:=by
 intro wh pins s σ H Q I h
 refine isTrue_and (Bo (ha pins s σ H Q I h) fun c s1 e=>?_)
 cases c with
 | true=>exact isTrue_and_nil e
 | false=>exact e
theorem Hc (ha:PT X a tA):PW X (.BoolOp .Or [a] pos) tA:=by
 intro wh pins s σ H Q I h
 refine isTrue_or (Bo (ha pins s σ H Q I h) fun c s1 e=>?_)
 cases c with
 | false=>exact isTrue_or_nil e
 | true=>exact e
theorem J1 (ha:PT X a tA) (hb:PW X (.BoolOp .And (b::rest) pos) tB'):PW X (.BoolOp .And (a::b::rest) pos) (bG tA tB'):=by
 intro wh pins s σ H Q I h
 refine isTrue_and (Bo (ha pins s σ H _ I h) fun c s1 hq0=>?_)
 obtain ⟨H1,I1,q1⟩:=hq0
 cases c with
 | true=>exact hb wh pins s1 σ H1 Q I1 q1
 | false=>exact ⟨H1,I1,q1⟩
theorem JL (ha:PT X a tA) (hb:PW X (.BoolOp .Or (b::rest) pos) tB'):PW X (.BoolOp .Or (a::b::rest) pos) (bZ tA tB'):=by
 intro wh pins s σ H Q I h
 refine isTrue_or (Bo (ha pins s σ H _ I h) fun c s1 hq0=>?_)
 obtain ⟨H1,I1,q1⟩:=hq0
 cases c with
 | true=>exact ⟨H1,I1,q1⟩
 | false=>exact hb wh pins s1 σ H1 Q I1 q1
theorem Dz (ha:PT X a tA):PT X (.UnaryOp .Not a pos) (bO tA):=by
 intro pins s σ H Q I h
 exact isTrue_not (ha pins s σ H (fun c H1=>Q (!c) H1) I h)
noncomputable def Wc (ta tb:TE):TE:=fun σ H Q=>ta σ H fun x H1=>∃ c,x=.bl c/\if c=true then tb σ H1 Q else Q (.bl false) H1
noncomputable def aj (ta tb:TE):TE:=fun σ H Q=>ta σ H fun x H1=>∃ c,x=.bl c/\if c=true then Q (.bl true) H1 else tb σ H1 Q
noncomputable def Ym (ta:TE):TE:=fun σ H Q=>ta σ H fun x H1=>∃ c,x=.bl c/\Q (.bl (!c)) H1
theorem Cz {op} {t:TE} (h:PE X a t):PE X (.BoolOp op [a] pos) t:=fun pins s σ H Q I hw=>BoolOp_one (h pins s σ H Q I hw)
theorem Dc (ha:PE X a ta) (hb:PE X (.BoolOp .And (b::rest) pos) tb):PE X (.BoolOp .And (a::b::rest) pos) (Wc ta tb):=by
 intro pins s σ H Q I h
 refine BoolOp_and (Bo (ha pins s σ H _ I h) fun v s1 hq0=>?_)
 obtain ⟨x,H1,I1,r1,q1⟩:=hq0
 obtain ⟨c,rfl,q1⟩:=q1
 cases r1
 refine wpAny_truthy_bool ?_
 cases c with
 | true=>exact hb pins s1 σ H1 Q I1 q1
 | false=>exact ⟨.bl false,H1,I1,rfl,q1⟩
theorem W3 (ha:PE X a ta) (hb:PE X (.BoolOp .Or (b::rest) pos) tb):PE X (.BoolOp .Or (a::b::rest) pos) (aj ta tb):=by
 intro pins s σ H Q I h
 refine BoolOp_or (Bo (ha pins s σ H _ I h) fun v s1 hq0=>?_)
 obtain ⟨x,H1,I1,r1,q1⟩:=hq0
 obtain ⟨c,rfl,q1⟩:=q1
 cases r1
 refine wpAny_truthy_bool ?_
 cases c with
 | false=>exact hb pins s1 σ H1 Q I1 q1
 | true=>exact ⟨.bl true,H1,I1,rfl,q1⟩
theorem MF (ha:PE X a ta):PE X (.UnaryOp .Not a pos) (Ym ta):=by
 intro pins s σ H Q I h
 refine UnaryOp_ (Bo (ha pins s σ H _ I h) fun v s1 hq0=>?_)
 obtain ⟨x,H1,I1,r1,q1⟩:=hq0
 obtain ⟨c,rfl,q1⟩:=q1
 cases r1
 exact not_of (wpAny_truthy_bool ⟨.bl (!c),H1,I1,rfl,q1⟩)
noncomputable def fK (t:TT) (ta tb:TE):TE:=fun σ H Q=>t σ H fun c H1=>if c=true then ta σ H1 Q else tb σ H1 Q
theorem Pb {c:Expr} (hc:PT X c tA) (ha:PE X a ta) (hb:PE X b tb):PE X (.IfExp c a b pos) (fK tA ta tb):=by
 intro pins s σ H Q I h
 refine wpAny_IfExp (Bo (hc pins s σ H _ I h) fun d s1 hq0=>?_)
 obtain ⟨H1,I1,q1⟩:=hq0
 cases d with
 | true=>exact ha pins s1 σ H1 Q I1 q1
 | false=>exact hb pins s1 σ H1 Q I1 q1
end
end L2
namespace L2
open PySem PySem.Spec PyProof.Rows
noncomputable def Ci (K:PySem.W.Frag) (H:Hp) (a:Addr) (xs:List V):Prop :=
 Rd H a (.lst xs) \/
  ∃ (o:Obj) (its:Array Value) (n:Nat),K.lookup a=some o/\o.cls=.type "list" /\ o.dict=none/\o.data=.seq its n/\its.size<=sizeLine/\Vals xs its.toList
noncomputable def Gy (K:PySem.W.Frag) (H:Hp) (a:Addr) (xs:List V):Prop :=
 Rd H a (.tup xs) \/
  ∃ (o:Obj) (its:Array Value) (n:Nat),K.lookup a=some o/\o.cls=.type "tuple" /\ o.data=.seq its n/\its.size<=sizeLine/\Vals xs its.toList
noncomputable def bc:Value->Option V
 | .none=>some .non
 | .bool b=>some (.bl b)
 | .int i _=>some (.int i)
 | .str x _=>some (.str x)
 | .bytes b _=>some (.byt b)
 | .float b _=>some (.flt b)
 | .ref a=>some (.ref a)
 | .type n=>some (.ty n)
 | _=>none
theorem RelV.abs {x:V} {u:Value} (r:RelV x u):bc u=some x:=by
 cases x with
 | non=>cases r; rfl
 | bl _=>cases r; rfl
 | int _=>obtain ⟨t,rfl⟩:=r; rfl
 | str _=>obtain ⟨t,rfl⟩:=r; rfl
 | byt _=>obtain ⟨t,rfl⟩:=r; rfl
 | flt _=>obtain ⟨t,rfl⟩:=r; rfl
 | ref _=>cases r; rfl
 | ty _=>cases r; rfl
theorem RelV.inj {x y:V} {u:Value} (r:RelV x u) (q:RelV y u):x=y:=Option.some.inj (r.abs.symm.trans q.abs)
theorem Vals.inj:∀ {xs ys:List V} {us:List Value},Vals xs us->Vals ys us->xs=ys
 | _,_,_,.nil,.nil=>rfl
 | _,_,_,.cons r t,.cons r' t'=>by rw [r.inj r',Vals.inj t t']
section
variable {X:Cx} {pins:List (Addr × Obj)} {σ:St} {H:Hp} {s:Shared} {a:Addr} {xs ys:List V}
theorem Inv.list (I:Inv X pins σ H s) (h:Ci X.K H a xs):∃ its:List Value,Vals xs its/\PlainL s.heap a its.toArray/\xs.length<=sizeLine:=by
 rcases h with h | ⟨o,its,n,hk,hc,hd,hs,hz,r⟩
 ·obtain ⟨z,its,n,r,e⟩:=h.ok I.hok
  exact ⟨its,r,⟨_,n,e,rfl,rfl,rfl⟩,z⟩
 ·refine ⟨its.toList,r,⟨o,n,I.HN a o hk,hc,hd,by simpa using hs⟩,?_⟩
  have e:=r.length
  simp only [Array.length_toList] at e
  omega
theorem Inv.tuple (I:Inv X pins σ H s) (h:Gy X.K H a xs):∃ its:List Value,Vals xs its/\IsTup s.heap a its.toArray/\xs.length<=sizeLine:=by
 rcases h with h | ⟨o,its,n,hk,hc,hs,hz,r⟩
 ·obtain ⟨z,its,r,p⟩:=h.ok I.hok
  exact ⟨its,r,p,z⟩
 ·refine ⟨its.toList,r,⟨o,I.HN a o hk,hc,n,by simpa using hs⟩,?_⟩
  have e:=r.length
  simp only [Array.length_toList] at e
  omega
theorem Inv.Ld (I:Inv X pins σ H s) (h:Ci X.K H a xs) (h':Ci X.K H a ys):xs=ys:=by
 obtain ⟨its,r,⟨o,n,e,_,_,d⟩,_⟩:=I.list h
 obtain ⟨its',r',⟨o',n',e',_,_,d'⟩,_⟩:=I.list h'
 rw [e] at e'; cases e'
 rw [d] at d'
 injection d' with d1 _
 have:its=its':=by simpa using congrArg Array.toList d1
 subst this
 exact r.inj r'
theorem Inv.HQ (I:Inv X pins σ H s) (h:Gy X.K H a xs) (h':Gy X.K H a ys):xs=ys:=by
 obtain ⟨its,r,⟨o,e,_,n,d⟩,_⟩:=I.tuple h
 obtain ⟨its',r',⟨o',e',_,n',d'⟩,_⟩:=I.tuple h'
 rw [e] at e'; cases e'
 rw [d] at d'
 injection d' with d1 _
 have:its=its':=by simpa using congrArg Array.toList d1
 subst this
 exact r.inj r'
end
noncomputable abbrev Cx.wish (X:Cx) (E:Value->Shared->Prop):Cx:={ X with xe:=E }
noncomputable abbrev Cx.Zd (X:Cx):Cx:=X.wish fun _ _=>False
theorem Cx.Ok.wish {X:Cx} (ok:X.Ok) (E:Value->Shared->Prop):(X.wish E).Ok :=
 ⟨ok.mod,ok.kind,ok.glob,ok.blt,ok.above,ok.inj,ok.has,ok.cab,ok.hd,ok.frames,ok.stk,ok.exf,ok.bs,ok.bsz,ok.noex,ok.exfs,ok.Ht,ok.frf⟩
theorem Cx.Ok.F_ {X:Cx} {E:Value->Shared->Prop} (ok:(X.wish E).Ok):X.Ok :=
 ⟨ok.mod,ok.kind,ok.glob,ok.blt,ok.above,ok.inj,ok.has,ok.cab,ok.hd,ok.frames,ok.stk,ok.exf,ok.bs,ok.bsz,ok.noex,ok.exfs,ok.Ht,ok.frf⟩
section
variable {X:Cx} {pins:List (Addr × Obj)} {σ:St} {H:Hp} {s:Shared} {E:Value->Shared->Prop}
theorem Inv.wish (I:Inv X pins σ H s) (E:Value->Shared->Prop):Inv (X.wish E) pins σ H s:=⟨I.ok.wish E,I.os,I.bare,I.base,I.loc,I.cell,I.free,I.freeC,I.pin,I.hok,I.len⟩
theorem Inv.F_ (I:Inv (X.wish E) pins σ H s):Inv X pins σ H s:=⟨I.ok.F_,I.os,I.bare,I.base,I.loc,I.cell,I.free,I.freeC,I.pin,I.hok,I.len⟩
theorem SP.F_ {D:Ends} {f:Flow} {s':Shared} (h:SP (X.wish E) pins D f s'):SP X pins D f s':=by
 cases f with
 | next=>obtain ⟨σ',H',I,q⟩:=h; exact ⟨σ',H',I.F_,q⟩
 | brk=>obtain ⟨σ',H',I,q⟩:=h; exact ⟨σ',H',I.F_,q⟩
 | cont=>obtain ⟨σ',H',I,q⟩:=h; exact ⟨σ',H',I.F_,q⟩
 | ret u=>obtain ⟨v,σ',H',I,r,q⟩:=h; exact ⟨v,σ',H',I.F_,r,q⟩
theorem Lh.Zd {st:List Stmt} {t:TS} (h:Lh X.Zd st t):Lh X st t:=fun pins s σ H D I hw =>
 wpAny_mono (h pins s σ H D (I.wish _) hw) (fun _ _ q=>q.F_) fun _ _ z=>False.elim z
end
section
variable {X:Cx} {st:Stmt} {rest:List Stmt} {t u:TS} {e:Expr} {te:TE} {pos:Pos}
noncomputable def Yw:TS:=fun D σ H=>D.nx σ H
noncomputable def YT (t u:TS):TS:=fun D σ H=>t { D with nx:=u D } σ H
theorem Bk:Lh X [] Yw:=fun _ _ σ H _ I h=>wpAny_execs_nil ⟨σ,H,I,h⟩
theorem Af (h1:PS X st t) (h2:Lh X rest u):Lh X (st::rest) (YT t u):=by
 intro pins s σ H D I h
 refine wpAny_execs_cons (Bo (h1 pins s σ H { D with nx:=u D } I h) fun f s1 q=>?_)
 cases f with
 | next =>
  obtain ⟨σ',H',I',q⟩:=q
  exact h2 pins s1 σ' H' D I' q
 | ret v=>exact q
 | brk=>exact q
 | cont=>exact q
theorem Ag (h1:PS X st t):Lh X [st] t:=by
 intro pins s σ H D I h
 refine wpAny_execs_cons (Bo (h1 pins s σ H D I h) fun f s1 q=>?_)
 cases f with
 | next=>exact wpAny_execs_nil q
 | ret v=>exact q
 | brk=>exact q
 | cont=>exact q
noncomputable def Vp:TS:=fun D σ H=>D.bk σ H
theorem Qq:PS X (.Break pos) Vp:=fun _ _ σ H _ I h=>wpAny_Break ⟨σ,H,I,h⟩
theorem Inv.quiet {pins:List (Addr × Obj)} {σ:St} {H:Hp} {s:Shared} (I:Inv X pins σ H s):interactive X.env=false:=by simp [interactive,I.ok.kind]
noncomputable def Ws (te:TE):TS:=fun D σ H=>te σ H fun _ H1=>D.nx σ H1
theorem Ca (he:PE X e te) (hs:swapsWith e none pos.line X.env=pure false:=by rfl):PS X (.Expr e pos) (Ws te):=by
 intro pins s σ H D I h
 exact wpAny_Expr_any (Bo (he pins s σ H _ I h) fun v s1 ⟨x,H1,I1,r1,q1⟩=>⟨σ,H1,I1,q1⟩) I.quiet hs
noncomputable def cG (te:TE):TS:=fun D σ H=>te σ H D.rt
theorem A_ (he:PE X e te):PS X (.Return (some e) pos) (cG te):=by
 intro pins s σ H D I h
 exact wpAny_Return_some (Bo (he pins s σ H _ I h) fun v s1 ⟨x,H1,I1,r1,q1⟩=>⟨x,σ,H1,I1,r1,q1⟩)
noncomputable def VN (c:TT) (t u:TS):TS:=fun D σ H=>c σ H fun b H1=>if b=true then t D σ H1 else u D σ H1
theorem Ck {c:Expr} {a b:List Stmt} {tc:TT} (hc:PT X c tc) (ha:Lh X a t) (hb:Lh X b u):PS X (.If c a b pos) (VN tc t u):=by
 intro pins s σ H D I h
 refine wpAny_If (Bo (hc pins s σ H _ I h) fun d s1 hq0=>?_)
 obtain ⟨H1,I1,q1⟩:=hq0
 cases d with
 | true=>exact ha pins s1 σ H1 D I1 q1
 | false=>exact hb pins s1 σ H1 D I1 q1
noncomputable def Vz:TS:=fun _ _ _=>False
theorem Fb:PS X st Vz:=fun _ _ _ _ _ _ h=>h.elim
end
noncomputable abbrev TG:=V->St->Hp->(St->Hp->Prop)->Prop
noncomputable abbrev Vs:=List V->St->Hp->(St->Hp->Prop)->Prop
noncomputable def PG (X:Cx) (target:Expr) (t:TG):Prop :=
 ∀ (pins:List (Addr × Obj)) (s:Shared) (σ:St) (H:Hp) (v:V) (u:Value) (Q:St->Hp->Prop),Inv X pins σ H s->RelV v u->t v σ H Q ->
  wpAny (model X.prog X.w) X.A (assign target X.env u) (fun _ s'=>∃ σ' H',Inv X pins σ' H' s'/\Q σ' H') X.xe s
noncomputable def Zg (X:Cx) (ts:List Expr) (t:Vs):Prop :=
 ∀ (pins:List (Addr × Obj)) (s:Shared) (σ:St) (H:Hp) (vs:List V) (us:List Value) (Q:St->Hp->Prop),Inv X pins σ H s->Vals vs us->t vs σ H Q ->
  wpAny (model X.prog X.w) X.A (assignInOrder ((assignEach ts X.env).map (·.2)) us) (fun _ s'=>∃ σ' H',Inv X pins σ' H' s'/\Q σ' H') X.xe s
section
variable {X:Cx} {pos:Pos}
noncomputable def Ce (i:Nat):TG:=fun v σ H Q=>Q (σ.set i (some v)) H
theorem BX {i:Nat} {x:Str} (hN:X.N.Nodup) (hi:X.N[i]? = some x) (hx:Loc X.env.scope x) (hf:X.fn x=true \/ X.env.scope.names.lookup x=some .local:=by first | exact .inl rfl | exact .inr rfl | assumption):PG X (.Name x pos) (Ce i):=by
 intro pins s σ H v u Q I r h
 exact wpAny_assign_Name (Ig I hN hi hx r (fun s' I'=>⟨_,H,I',h⟩) hf)
noncomputable def Q6:Vs:=fun vs σ H Q=>vs=[]/\Q σ H
noncomputable def HD (t:TG) (u:Vs):Vs:=fun vs σ H Q=>∃ v r,vs=v::r/\t v σ H fun σ' H'=>u r σ' H' Q
theorem Ds:Zg X [] Q6:=by
 intro pins s σ H vs us Q I r h
 obtain ⟨e,h⟩:=h
 subst e
 cases r
 exact assignInOrder_nil ⟨σ,H,I,h⟩
theorem Bh {e:Expr} {es:List Expr} {t:TG} {u:Vs} (h1:PG X e t) (h2:Zg X es u)
  (hs:(assignEach (e::es) X.env).map (·.2)=assign e X.env::(assignEach es X.env).map (·.2):=by rfl):Zg X (e::es) (HD t u):=by
 intro pins s σ H vs us Q I r h
 obtain ⟨v,vr,e1,h⟩:=h
 subst e1
 cases r with
 | cons r rr =>
  rw [hs]
  refine assignInOrder_cons (Bo (h1 pins s σ H _ _ _ I r h) fun _ s1 hq0=>?_)
  obtain ⟨σ1,H1,I1,q1⟩:=hq0
  exact h2 pins s1 σ1 H1 _ _ Q I1 rr q1
noncomputable def Qa (K:PySem.W.Frag) (n:Nat) (t:Vs):TG:=fun v σ H Q=>∃ a xs,v=.ref a/\Gy K H a xs/\xs.length=n/\t xs σ H Q
theorem Ew {es:List Expr} {k:Nat} {t:Vs} {n:Nat} (hc:X.calm=true) (h:Zg X es t)
  (hn:(assignEach es X.env).length=n:=by rfl) (hst:(assignEach es X.env).findIdx? (·.1)=none:=by rfl):PG X (.Tuple es k pos) (Qa X.K n t):=by
 intro pins s σ H v u Q I r hw
 obtain ⟨a,xs,e1,hq,hl,hw⟩:=hw
 subst e1
 cases r
 obtain ⟨its,rv,ht,hz⟩:=I.tuple hq
 refine assign_Tuple_tuple (I.ok.hd hc) ht (by simp [hn,← hl,rv.length]) hst fun h' hx=>?_
 have I1:Inv X pins σ H { s with heap:=h' }:=I.kept (t':=s.toks) fun b o e=>hx b o (Nat.ne_of_lt (Heap.lt_size e)) e
 exact h pins _ σ H xs _ Q I1 (by simpa using rv) hw
noncomputable def YD (te:TE) (g:TG):TS:=fun D σ H=>te σ H fun x H1=>g x σ H1 D.nx
theorem BK {i:Nat} {x:Str} {e:Expr} {te:TE} {pos':Pos} (hN:X.N.Nodup) (hi:X.N[i]? = some x) (hx:Loc X.env.scope x) (he:PE X e te) (hs:swapsWith e (some (.Name x pos')) pos.line X.env=pure false:=by rfl) (hf:X.fn x=true \/ X.env.scope.names.lookup x=some .local:=by first | exact .inl rfl | exact .inr rfl | assumption) :
  PS X (.Assign [.Name x pos'] e pos) (YD te (Ce i)):=by
 intro pins s σ H D I h
 refine wpAny_Assign_Name (Bo (he pins s σ H _ I h) fun v s1 ⟨y,H1,I1,r1,q1⟩=>?_) hs
 exact Ig I1 hN hi hx r1 (fun s2 I2=>⟨_,H1,I2,q1⟩) hf
end
section
variable {X:Cx} {pos:Pos}
noncomputable def Pa (c:TT) (tb:TS):TS:=fun D σ H=>∃ W:Nat->St->Hp->Prop,(∃ m,W m σ H)/\∀ m σ H,W m σ H ->
 c σ H fun b H1=>if b=true then ∃ N:St->Hp->Prop,(∀ σ' H',N σ' H'->∃ m',m'<m/\W m' σ' H')/\tb { D with nx:=N,ct:=N,bk:=D.nx } σ H1 else D.nx σ H1
theorem PP {c:Expr} {body:List Stmt} {tc:TT} {tb:TS} (hp:PassesOwn (model X.prog X.w) X.A X.env X.xe) (hc:PT X c tc) (hb:Lh X body tb):PS X (.While c body [] pos) (Pa tc tb):=by
 intro pins s σ H D I h
 obtain ⟨W,⟨m0,w0⟩,turn⟩:=h
 refine wpAny_While (codeAny_whileLoop (fun n s'=>∃ σ' H',Inv X pins σ' H' s'/\W n σ' H') ?_ m0 ⟨σ,H,I,w0⟩)
 rintro n s1 ⟨σ1,H1,I1,w1⟩
 refine wpAny_passesOwn hp (Bo (hc pins s1 σ1 H1 _ I1 (turn n σ1 H1 w1)) fun b s2 hq0=>?_)
 obtain ⟨H2,I2,q2⟩:=hq0
 cases b with
 | true =>
  obtain ⟨N,hN,q2⟩:=q2
  rw [if_pos rfl]
  refine wpAny_passesOwn hp (Bo (hb pins s2 σ1 H2 _ I2 q2) fun f s3 q3=>?_)
  cases f with
  | next =>
   obtain ⟨σ3,H3,I3,n3⟩:=q3
   obtain ⟨m',hm,w3⟩:=hN σ3 H3 n3
   exact ⟨m',hm,σ3,H3,I3,w3⟩
  | cont =>
   obtain ⟨σ3,H3,I3,n3⟩:=q3
   obtain ⟨m',hm,w3⟩:=hN σ3 H3 n3
   exact ⟨m',hm,σ3,H3,I3,w3⟩
  | brk=>exact q3
  | ret v=>exact q3
 | false =>
  rw [if_neg Bool.false_ne_true]
  exact wpAny_execs_nil ⟨σ1,H2,I2,q2⟩
end
structure It where
 go:Nat->Hp->Prop
 yld:Nat->Hp->V->Hp->Prop
 stop:Nat->Hp->Prop
noncomputable def Ep (X:Cx) (pins:List (Addr × Obj)) (H:Hp) (b:Addr):Prop :=
 H b=none/\b ≠ X.env.locals/\b ∉ X.fs/\(b∈X.ex \/ X.s₀.heap.objs.size<=b)/\(∀ x c,X.env.cells.lookup x=some c->c ≠ b)/\∀ p∈X.pn++pins,p.1 ≠ b
theorem Inv.Jx {X:Cx} {pins:List (Addr × Obj)} {σ:St} {H H':Hp} {s:Shared} {b:Addr} (I:Inv X pins σ H s) (hb:s.heap.objs.size<=b) (hn:H' b=none):Ep X pins H' b:=by
 refine ⟨hn,Nat.ne_of_gt (Nat.lt_of_lt_of_le I.lt hb),I.cL hb,.inr (Nat.le_trans I.sz hb),fun x c e z=>?_,fun p hp z=>?_⟩
 ·obtain ⟨v,q⟩:=I.cell x c e
  exact absurd (Nat.lt_of_lt_of_le q.lt (by rw [z]; exact hb)) (Nat.lt_irrefl _)
 ·exact absurd (Nat.lt_of_lt_of_le (Heap.lt_size (I.pin p hp).1) (by rw [z]; exact hb)) (Nat.lt_irrefl _)
structure Turn (P:Program) (w:World) (K:PySem.W.Frag) (tg:Expr) (J:It) (fp:List Addr) (it:Addr) (tn:Nat->Heap->Prop):Prop where
 mem:it∈fp
 obj:∀ i h,tn i h->∀ b∈fp,∃ o,h.get? b=some o/\∀ v,o.data ≠ .cell v
 keep:∀ i h h',tn i h->(∀ b∈fp,∀ o,h.get? b=some o->h'.get? b=some o)->tn i h'
 item:∀ (X:Cx),X.prog=P->X.w=w->X.K=K->X.calm=true->∀ (i:Nat) (pins:List (Addr × Obj)) (s:Shared) (σ:St) (H:Hp) (E:Value->Shared->Prop),Inv X pins σ H s->(∀ b∈fp,Ep X pins H b)->tn i s.heap->J.go i H ->
  wpAny (model P w) X.A (pyNext (.ref it)) (fun r s1=>∃ u,r=some u /\
   wpAny (model P w) X.A (letOwnedTupleGo tg (.ref it) u) (fun _ s2=>∃ x H',Inv X pins σ H' s2/\RelV x u/\J.yld i H x H'/\tn (i+1) s2.heap/\∀ b∈fp,H' b=none) E s1) E s
 done:∀ (X:Cx),X.prog=P->X.w=w->X.K=K->X.calm=true->∀ (i:Nat) (pins:List (Addr × Obj)) (s:Shared) (σ:St) (H:Hp) (E:Value->Shared->Prop),Inv X pins σ H s->(∀ b∈fp,Ep X pins H b)->tn i s.heap->J.stop i H ->
  wpAny (model P w) X.A (pyNext (.ref it)) (fun r s1=>r=none/\Inv X pins σ H s1) E s
 self:∀ (A:Around) (i:Nat) (s:Shared) (Q:Value->Shared->Prop) (E:Value->Shared->Prop),tn i s.heap->Q (.ref it) s->wpAny (model P w) A (pyIter (.ref it)) Q E s
noncomputable abbrev TI:=St->Hp->(It->Hp->Prop)->Prop
noncomputable def PIE (X:Cx) (pins:List (Addr × Obj)) (σ:St) (tg:Expr) (R:It->Hp->Prop) (itv:Value) (s2:Shared):Prop :=
 ∃ (it:Addr) (fp:List Addr) (tn:Nat->Heap->Prop) (J:It) (H':Hp),itv=.ref it/\Inv X pins σ H' s2/\Turn X.prog X.w X.K tg J fp it tn/\tn 0 s2.heap/\(∀ b∈fp,Ep X pins H' b)/\R J H'
noncomputable def PI (X:Cx) (tg iter:Expr) (wi:TI):Prop :=
 ∀ (pins:List (Addr × Obj)) (s:Shared) (σ:St) (H:Hp) (R:It->Hp->Prop),Inv X pins σ H s->wi σ H R ->
  wpAny (model X.prog X.w) X.A (eval iter X.env) (fun v s1=>wpAny (model X.prog X.w) X.A (pyIter v) (PIE X pins σ tg R) X.xe s1) X.xe s
theorem Kr {M:Model} {A:Around} {E:Value->Shared->Prop} {s:Shared} {tg:Expr} {it:Addr} {u:Value} {o:Obj} {n:String} {vs:Array Value} {Q:Unit->Shared->Prop} (ho:s.heap.get? it=some o) (hc:o.cls=.type n) (hd:o.data=.fields vs)
  (hn:["enumerate","zip","dict_itemiterator","dict_reverseitemiterator","odict_iterator","itertools.zip_longest","itertools.pairwise"].contains n=false) (hQ:Q () s):wpAny M A (letOwnedTupleGo tg (.ref it) u) Q E s:=by
 unfold letOwnedTupleGo
 cases tg <;> first
  | exact wpAny_pure hQ
  | (cases u <;> first
    | exact wpAny_pure hQ
    | (refine wpAny_bind (wpAny_load ho ?_)
       rw [hc,hd]
       show wpAny M A (if (["enumerate","zip","dict_itemiterator","dict_reverseitemiterator","odict_iterator","itertools.zip_longest","itertools.pairwise"].contains n && vs[0]? == some (rawInt _))=true then _ else _) Q E s
       rw [if_neg (by intro h; rw [hn,Bool.false_and] at h; cases h)]
       exact wpAny_pure hQ))
noncomputable def U3 (K:PySem.W.Frag) (a:Addr):It :=
 ⟨fun i H=>∃ xs x,Ci K H a xs/\xs[i]? = some x,fun i H x H'=>H'=H/\∀ xs,Ci K H a xs->xs[i]? = some x,fun i H=>∃ xs,Ci K H a xs/\xs.length<=i⟩
noncomputable def eX (K:PySem.W.Frag) (a:Addr):It :=
 ⟨fun i H=>∃ xs x,Gy K H a xs/\xs[i]? = some x,fun i H x H'=>H'=H/\∀ xs,Gy K H a xs->xs[i]? = some x,fun i H=>∃ xs,Gy K H a xs/\xs.length<=i⟩
noncomputable def Tq (lo:Int) (n:Nat):It:=⟨fun i _=>i<n,fun i H x H'=>H'=H/\x=.int (lo+i),fun i _=>n<=i⟩
theorem N7 {P:Program} {w:World} {K:PySem.W.Frag} {tg:Expr} (a it:Addr):Turn P w K tg (U3 K a) [it] it (fun i h=>h.IsListIter it a i) where
 mem:=by simp
 obj:=fun i h st b hb=>by
  have e:b=it:=by simpa using hb
  subst e
  obtain ⟨o,e,c,d⟩:=st
  exact ⟨o,e,fun v z=>by rw [d] at z; cases z⟩
 keep:=fun i h h' st k=>st.at fun o e=>k it (by simp) o e
 item:=by
  intro X hP hw hK hc i pins s σ H E I hf st hg
  subst hP hw hK
  obtain ⟨xs,x,hq,hx⟩:=hg
  obtain ⟨its,rv,p,hz⟩:=I.list hq
  obtain ⟨u,hu,ru⟩:=rv.get hx
  obtain ⟨f0,f1,f2,f3,f4,f5⟩:=hf it (by simp)
  refine wpAny_pyNext_list_item st p.isList (x:=u) (by simpa using hu) fun h' st' sb=>?_
  have I1:Inv X pins σ H { s with heap:=h' }:=I.turned (t':=s.toks) (fun b o hb e=>(sb.2 b hb).trans e) f0 f1 f3 f4 f5
  obtain ⟨o,e,c,d⟩:=id st'
  exact ⟨u,rfl,Kr (s:={ s with heap:=h' }) e c d (by decide) ⟨x,H,I1,ru,⟨rfl,fun ys hy=>by rw [I.Ld hy hq]; exact hx⟩,st',fun b hb=>(hf b hb).1⟩⟩
 done:=by
  intro X hP hw hK hc i pins s σ H E I hf st hg
  subst hP hw hK
  obtain ⟨xs,hq,hx⟩:=hg
  obtain ⟨its,rv,p,hz⟩:=I.list hq
  obtain ⟨f0,f1,f2,f3,f4,f5⟩:=hf it (by simp)
  have hl:=rv.length
  exact wpAny_pyNext_list_end (I.ok.hd hc) st p.isList (by simp; omega) fun h' eb=>⟨rfl,I.turned (t':=s.toks) (fun b o hb e=>eb b o hb e) f0 f1 f3 f4 f5⟩
 self:=fun _ _ _ _ _ st h=>wpAny_pyIter_listiter st h
theorem Lj {P:Program} {w:World} {K:PySem.W.Frag} {tg:Expr} (a it:Addr):Turn P w K tg (eX K a) [it] it (fun i h=>h.IsTupleIter it a i) where
 mem:=by simp
 obj:=fun i h st b hb=>by
  have e:b=it:=by simpa using hb
  subst e
  obtain ⟨o,e,c,d⟩:=st
  exact ⟨o,e,fun v z=>by rw [d] at z; cases z⟩
 keep:=fun i h h' st k=>st.at fun o e=>k it (by simp) o e
 item:=by
  intro X hP hw hK hc i pins s σ H E I hf st hg
  subst hP hw hK
  obtain ⟨xs,x,hq,hx⟩:=hg
  obtain ⟨its,rv,p,hz⟩:=I.tuple hq
  obtain ⟨u,hu,ru⟩:=rv.get hx
  obtain ⟨f0,f1,f2,f3,f4,f5⟩:=hf it (by simp)
  refine wpAny_pyNext_tuple_item st (show s.heap.IsTuple a its.toArray from p) (x:=u) (by simpa using hu) fun h' st' sb=>?_
  have I1:Inv X pins σ H { s with heap:=h' }:=I.turned (t':=s.toks) (fun b o hb e=>(sb.2 b hb).trans e) f0 f1 f3 f4 f5
  obtain ⟨o,e,c,d⟩:=id st'
  exact ⟨u,rfl,Kr (s:={ s with heap:=h' }) e c d (by decide) ⟨x,H,I1,ru,⟨rfl,fun ys hy=>by rw [I.HQ hy hq]; exact hx⟩,st',fun b hb=>(hf b hb).1⟩⟩
 done:=by
  intro X hP hw hK hc i pins s σ H E I hf st hg
  subst hP hw hK
  obtain ⟨xs,hq,hx⟩:=hg
  obtain ⟨its,rv,p,hz⟩:=I.tuple hq
  obtain ⟨f0,f1,f2,f3,f4,f5⟩:=hf it (by simp)
  have hl:=rv.length
  exact wpAny_pyNext_tuple_end (I.ok.hd hc) st (show s.heap.IsTuple a its.toArray from p) (by simp; omega) fun h' eb=>⟨rfl,I.turned (t':=s.toks) (fun b o hb e=>eb b o hb e) f0 f1 f3 f4 f5⟩
 self:=fun _ _ _ _ _ st h=>wpAny_pyIter_tupleiter st h
theorem Li {P:Program} {w:World} {K:PySem.W.Frag} {tg:Expr} (it:Addr) (lo:Int) (n:Nat):Turn P w K tg (Tq lo n) [it] it (fun i h=>IsRangeIter h it (lo+(i:Nat) * 1) ((n:Int) - (i:Nat)) 1) where
 mem:=by simp
 obj:=fun i h st b hb=>by
  have e:b=it:=by simpa using hb
  subst e
  exact ⟨_,st,fun v z=>by
   have z':Data.fields _=Data.cell v:=z
   cases z'⟩
 keep:=fun i h h' st k=>k it (by simp) _ st
 item:=by
  intro X hP hw hK hc i pins s σ H E I hf st hg
  subst hP hw hK
  obtain ⟨f0,f1,f2,f3,f4,f5⟩:=hf it (by simp)
  have W:=Walks.range (prog:=X.prog) (w:=X.w) (I.ok.hd hc) it lo 1 n
  refine W.item i s _ _ hg st fun v h' tk hv st' kk=>?_
  obtain ⟨t,rfl⟩:=hv
  have I1:Inv X pins σ H { s with heap:=h',toks:=tk }:=I.turned (fun b o hb e=>kk b o (by simpa using hb) e) f0 f1 f3 f4 f5
  refine ⟨_,rfl,Kr (s:={ s with heap:=h',toks:=tk }) (n:="range_iterator") st' rfl rfl (by decide) ⟨.int (lo+i),H,I1,⟨t,?_⟩,⟨rfl,rfl⟩,st',fun b hb=>(hf b hb).1⟩⟩
  rw [Int.mul_one]
 done:=by
  intro X hP hw hK hc i pins s σ H E I hf st hg
  subst hP hw hK
  obtain ⟨f0,f1,f2,f3,f4,f5⟩:=hf it (by simp)
  exact wpAny_pyNext_range_end (I.ok.hd hc) st (by have:n<=i:=hg; omega) fun h' eb=>⟨rfl,I.turned (t':=s.toks) (fun b o hb e=>eb b o hb e) f0 f1 f3 f4 f5⟩
 self:=fun _ _ _ _ _ st h=>wpAny_pyIter_rangeiter st h
end L2
namespace L2
open PySem PySem.Spec PyProof.Rows
section
variable {X:Cx} {tg:Expr}
noncomputable def YX (K:PySem.W.Frag) (tl:TE):TI:=fun σ H R=>tl σ H fun x H1=>∃ a,x=.ref a/\(∃ xs,Ci K H1 a xs)/\R (U3 K a) H1
noncomputable def aA (K:PySem.W.Frag) (tl:TE):TI:=fun σ H R=>tl σ H fun x H1=>∃ a,x=.ref a/\(∃ xs,Gy K H1 a xs)/\R (eX K a) H1
theorem Bb {l:Expr} {tl:TE} (hl:PE X l tl):PI X tg l (YX X.K tl):=by
 intro pins s σ H R I h
 refine Bo (hl pins s σ H _ I h) fun v s1 hq0=>?_
 obtain ⟨x,H1,I1,r1,q1⟩:=hq0
 obtain ⟨a,e,⟨xs,hq⟩,q⟩:=q1
 subst e
 cases r1
 obtain ⟨its,rv,p,hz⟩:=I1.list hq
 refine wpAny_pyIter_list p.isList ?_
 refine ⟨s1.heap.objs.size,[s1.heap.objs.size],_,_,H1,rfl,I1.kept (t':=s1.toks) fun b o e=>Heap.get?_push_of_some _ e,N7 a _,⟨_,Heap.get?_push_size _ rfl,rfl,rfl⟩,fun b hb=>?_,q⟩
 have e:b=s1.heap.objs.size:=by simpa using hb
 subst e
 exact I1.Jx (Nat.le_refl _) (I1.hok.fresh (Nat.le_refl _))
theorem Uj {l:Expr} {tl:TE} (hl:PE X l tl):PI X tg l (aA X.K tl):=by
 intro pins s σ H R I h
 refine Bo (hl pins s σ H _ I h) fun v s1 hq0=>?_
 obtain ⟨x,H1,I1,r1,q1⟩:=hq0
 obtain ⟨a,e,⟨xs,hq⟩,q⟩:=q1
 subst e
 cases r1
 obtain ⟨its,rv,p,hz⟩:=I1.tuple hq
 refine wpAny_pyIter_tuple (show s1.heap.IsTuple a its.toArray from p) ?_
 refine ⟨s1.heap.objs.size,[s1.heap.objs.size],_,_,H1,rfl,I1.kept (t':=s1.toks) fun b o e=>Heap.get?_push_of_some _ e,Lj a _,⟨_,Heap.get?_push_size _ rfl,rfl,rfl⟩,fun b hb=>?_,q⟩
 have e:b=s1.heap.objs.size:=by simpa using hb
 subst e
 exact I1.Jx (Nat.le_refl _) (I1.hok.fresh (Nat.le_refl _))
theorem Qu {pins:List (Addr × Obj)} {σ:St} {H:Hp} {s:Shared} {R:It->Hp->Prop} {E:Value->Shared->Prop} {lo hi:Int} {t u v:Tok} {tk:Nat} (I:Inv X pins σ H s) (h1 : -(2 ^ 62)<=lo) (h2:lo<2 ^ 62) (h3 : -(2 ^ 62)<=hi) (h4:hi<2 ^ 62)
  (q:R (Tq lo (hi - lo).toNat) H):wpAny (model X.prog X.w) X.A (pyIter (.ref s.heap.objs.size)) (PIE X pins σ tg R) E { s with heap:=s.heap.push { cls:=.type "range",data:=.fields #[.int lo t,.int hi u,.int 1 v] },toks:=tk }:=by
 refine wpAny_pyIter_range (IsRange.new ..) (small_one h1 h2 h3 h4) ?_
 have I1:Inv X pins σ H { s with heap:=s.heap.push { cls:=.type "range",data:=.fields #[.int lo t,.int hi u,.int 1 v] },toks:=tk }:=I.kept fun b o e=>Heap.get?_push_of_some _ e
 refine ⟨(s.heap.push { cls:=.type "range",data:=.fields #[.int lo t,.int hi u,.int 1 v] }).objs.size,[(s.heap.push { cls:=.type "range",data:=.fields #[.int lo t,.int hi u,.int 1 v] }).objs.size],_,_,H,rfl,
  I1.kept (t':=tk) fun b o e=>Heap.get?_push_of_some _ e,Li _ lo (hi - lo).toNat,?_,fun b hb=>?_,q⟩
 ·have e1:lo+((0:Nat):Int) * 1=lo:=by simp
  have e2:(((hi - lo).toNat:Nat):Int) - ((0:Nat):Int)=Builtin.Range.rangeSize lo hi 1:=by rw [rangeSize_one]; split <;> omega
  show IsRangeIter _ _ (lo+((0:Nat):Int) * 1) ((((hi - lo).toNat:Nat):Int) - ((0:Nat):Int)) 1
  rw [e1,e2]
  exact Heap.get?_push_size _ rfl
 ·have e:b=(s.heap.push { cls:=.type "range",data:=.fields #[.int lo t,.int hi u,.int 1 v] }).objs.size:=by simpa using hb
  subst e
  exact I1.Jx (Nat.le_refl _) (I1.hok.fresh (Nat.le_refl _))
noncomputable def Xi (ta:TA):TI:=fun σ H R=>ta σ H fun vs H1=>∃ j:Int,vs=[.int j] /\ -(2 ^ 62)<=j/\j<2 ^ 62/\R (Tq 0 j.toNat) H1
theorem CK {a:Expr} {ta:TA} {p pos:Pos} (hg:Gl X "range") (hm:X.mg "range" = none) (ha:PA X [a] ta) (hs:starEach [a] X.env=[(false,eval a X.env)]:=by rfl):PI X tg (.Call (.Name "range" p) [a] [] pos) (Xi ta):=by
 intro pins s σ H R I h
 refine Call_ (Ez I hg hm boot_range (PyProof.Rows.callWith_type1 (Bo (ha pos pins s σ H _ I h) fun us s1 ⟨vs,H1,I1,r1,q1⟩=>?_) hs rfl))
 obtain ⟨j,e,q1,q2,q⟩:=q1
 subst e
 cases r1 with
 | cons r rr =>
  cases rr
  obtain ⟨t,rfl⟩:=r
  exact call_range_1 (Qu I1 (by omega) (by omega) q1 q2 (by simpa using q))
noncomputable def aO (wi:TI) (g:TG) (tb:TS):TS:=fun D σ H=>wi σ H fun J H1=>∃ W:Nat->Nat->St->Hp->Prop,(∃ m,W 0 m σ H1)/\∀ i m σ H,W i m σ H ->
 (J.stop i H/\D.nx σ H) \/ (J.go i H/\∃ N:St->Hp->Prop,(∀ σ' H',N σ' H'->∃ m',m'<m/\W (i+1) m' σ' H')/\∀ x H',J.yld i H x H'->g x σ H' fun σ2 H2=>tb { D with nx:=N,ct:=N,bk:=D.nx } σ2 H2)
noncomputable def Hl (fp:List Addr) (h:Heap):List (Addr × Obj):=fp.filterMap fun b=>(h.get? b).map fun o=>(b,o)
theorem Di {fp:List Addr} {h:Heap} {b:Addr} {o:Obj} (hb:b∈fp) (e:h.get? b=some o):(b,o)∈Hl fp h:=List.mem_filterMap.mpr ⟨b,hb,by rw [e]; rfl⟩
theorem Om {fp:List Addr} {h:Heap} {p:Addr × Obj} (hp:p∈Hl fp h):p.1∈fp/\h.get? p.1=some p.2:=by
 obtain ⟨b,hb,e⟩:=List.mem_filterMap.mp hp
 cases q:h.get? b with
 | none=>rw [q] at e; cases e
 | some o =>
  rw [q] at e
  have e':(b,o)=p:=Option.some.inj e
  subst e'
  exact ⟨hb,q⟩
theorem Inv.pinned {pins:List (Addr × Obj)} {σ:St} {H:Hp} {s:Shared} {fp:List Addr} (I:Inv X pins σ H s) (hf:∀ b∈fp,Ep X pins H b) (ho:∀ b∈fp,∃ o,s.heap.get? b=some o/\∀ v,o.data ≠ .cell v):Inv X (pins++Hl fp s.heap) σ H s :=
 I.Mt fun p hp=>(List.mem_append.mp hp).elim (fun z=>I.pin p (List.mem_append_right _ z)) fun z=>by
  obtain ⟨hb,e⟩:=Om z
  obtain ⟨f0,f1,f2,_⟩:=hf p.1 hb
  obtain ⟨o,e',d⟩:=ho p.1 hb
  rw [e] at e'; cases e'
  exact ⟨e,f0,f1,f2,d⟩
theorem Inv.Fl {pins pl:List (Addr × Obj)} {σ:St} {H:Hp} {s:Shared} (I:Inv X (pins++pl) σ H s):Inv X pins σ H s:=I.Mt fun p hp=>I.pin p (List.mem_append_right _ (List.mem_append_left _ hp))
theorem B_ {iter:Expr} {body:List Stmt} {wi:TI} {g:TG} {tb:TS} {pos:Pos} (hp:PassesOwn (model X.prog X.w) X.A X.env X.xe) (hc:X.calm=true) (hi:PI X tg iter wi) (hg:PG X tg g) (hb:Lh X body tb)
  (hs:∀ x,foldedSetIterable iter X.env x=pure x:=by intro _; rfl):PS X (.For tg iter body [] pos) (aO wi g tb):=by
 intro pins s σ H D I h
 refine wpAny_For (Bo (hi pins s σ H _ I h) fun v s1 h1=>Bo h1 fun itv s2 h2=>?_) hs
 obtain ⟨it,fp,tn,J,H2,e,I2,T,st2,f2,W,⟨m0,w0⟩,turn⟩:=h2
 subst e
 have stat:∀ {H':Hp},(∀ b∈fp,H' b=none)->∀ b∈fp,Ep X pins H' b:=fun hn b hb=>⟨hn b hb,(f2 b hb).2⟩
 refine codeAny_forLoop_any (fun n s'=>∃ i σ' H',Inv X pins σ' H' s'/\tn i s'.heap/\(∀ b∈fp,H' b=none)/\W i n σ' H') ?_ m0 ⟨0,σ,H2,I2,st2,fun b hb=>(f2 b hb).1,w0⟩
 rintro n s3 ⟨i,σ3,H3,I3,st3,fr3,w3⟩
 rcases turn i n σ3 H3 w3 with ⟨stop,qn⟩ | ⟨go,N,hN,step⟩
 ·refine wpAny_passesOwn hp (Bo (T.done X rfl rfl rfl hc i pins s3 σ3 H3 X.xe I3 (stat fr3) st3 stop) fun r s4 ⟨hr,I4⟩=>?_)
  subst hr
  exact wpAny_execs_nil ⟨σ3,H3,I4,qn⟩
 ·refine wpAny_passesOwn hp (Bo (T.item X rfl rfl rfl hc i pins s3 σ3 H3 X.xe I3 (stat fr3) st3 go) fun r s4 ⟨u,hr,h4⟩=>?_)
  subst hr
  refine wpAny_passesOwn hp (Bo h4 fun _ s5 hq0=>?_)
  obtain ⟨x,H5,I5,r5,y5,st5,fr5⟩:=hq0
  have I5':=I5.pinned (stat fr5) (T.obj _ _ st5)
  refine wpAny_passesOwn hp (Bo (hg _ s5 σ3 H5 x u _ I5' r5 (step x H5 y5)) fun _ s6 hq0=>?_)
  obtain ⟨σ6,H6,I6,q6⟩:=hq0
  refine wpAny_passesOwn hp (Bo (hb _ s6 σ6 H6 _ I6 q6) fun f s7 q7=>?_)
  have again:∀ {σ7:St} {H7:Hp},Inv X (pins++Hl fp s5.heap) σ7 H7 s7->N σ7 H7->∃ m,m<n/\∃ i σ' H',Inv X pins σ' H' s7/\tn i s7.heap/\(∀ b∈fp,H' b=none)/\W i m σ' H':=fun {σ7 H7} I7 n7=>by
   obtain ⟨m',hm,w7⟩:=hN σ7 H7 n7
   refine ⟨m',hm,i+1,σ7,H7,I7.Fl,T.keep _ _ _ st5 fun b hb o e=>(I7.pin (b,o) (List.mem_append_right _ (List.mem_append_right _ (Di hb e)))).1,fun b hb=>?_,w7⟩
   obtain ⟨o,e,d⟩:=T.obj _ _ st5 b hb
   exact (I7.pin (b,o) (List.mem_append_right _ (List.mem_append_right _ (Di hb e)))).2.1
  cases f with
  | next=>obtain ⟨σ7,H7,I7,n7⟩:=q7; exact again I7 n7
  | cont=>obtain ⟨σ7,H7,I7,n7⟩:=q7; exact again I7 n7
  | brk=>obtain ⟨σ7,H7,I7,q7⟩:=q7; exact ⟨σ7,H7,I7.Fl,q7⟩
  | ret v=>obtain ⟨x7,σ7,H7,I7,r7,q7⟩:=q7; exact ⟨x7,σ7,H7,I7.Fl,r7,q7⟩
end
theorem Eb {K:PySem.W.Frag} {a:Addr} {xs:List V} {g:TG} {tb:TS} {D:Ends} {σ:St} {H:Hp} (Pv:Nat->St->Hp->Prop) (h0:Pv 0 σ H) (hl:∀ i σ H,i<=xs.length->Pv i σ H->Ci K H a xs)
  (hs:∀ i x σ H,xs[i]? = some x->Pv i σ H->g x σ H fun σ2 H2=>tb { D with nx:=Pv (i+1),ct:=Pv (i+1),bk:=D.nx } σ2 H2) (hd:∀ σ H,Pv xs.length σ H->D.nx σ H) :
  ∃ W:Nat->Nat->St->Hp->Prop,(∃ m,W 0 m σ H)/\∀ i m σ H,W i m σ H ->
   ((U3 K a).stop i H/\D.nx σ H) \/ ((U3 K a).go i H/\∃ N:St->Hp->Prop,(∀ σ' H',N σ' H'->∃ m',m'<m/\W (i+1) m' σ' H')/\∀ x H',(U3 K a).yld i H x H'->g x σ H' fun σ2 H2=>tb { D with nx:=N,ct:=N,bk:=D.nx } σ2 H2):=by
 refine ⟨fun i m σ H=>m=xs.length - i/\i<=xs.length/\Pv i σ H,⟨xs.length,by simp,Nat.zero_le _,h0⟩,?_⟩
 rintro i m σ H ⟨rfl,hi,p⟩
 have q:=hl i σ H hi p
 by_cases hlt:i<xs.length
 ·refine .inr ⟨⟨xs,xs[i],q,by simp [hlt]⟩,Pv (i+1),fun σ' H' p'=>⟨xs.length - (i+1),by omega,rfl,hlt,p'⟩,fun x H' y=>?_⟩
  obtain ⟨e,y⟩:=y
  subst e
  exact hs i x σ _ (y xs q) p
 ·have e:i=xs.length:=by omega
  subst e
  exact .inl ⟨⟨xs,q,Nat.le_refl _⟩,hd σ H p⟩
theorem DN {lo:Int} {n:Nat} {g:TG} {tb:TS} {D:Ends} {σ:St} {H:Hp} (Pv:Nat->St->Hp->Prop) (h0:Pv 0 σ H)
  (hs:∀ i σ H,i<n->Pv i σ H->g (.int (lo+i)) σ H fun σ2 H2=>tb { D with nx:=Pv (i+1),ct:=Pv (i+1),bk:=D.nx } σ2 H2) (hd:∀ σ H,Pv n σ H->D.nx σ H) :
  ∃ W:Nat->Nat->St->Hp->Prop,(∃ m,W 0 m σ H)/\∀ i m σ H,W i m σ H ->
   ((Tq lo n).stop i H/\D.nx σ H) \/ ((Tq lo n).go i H/\∃ N:St->Hp->Prop,(∀ σ' H',N σ' H'->∃ m',m'<m/\W (i+1) m' σ' H')/\∀ x H',(Tq lo n).yld i H x H'->g x σ H' fun σ2 H2=>tb { D with nx:=N,ct:=N,bk:=D.nx } σ2 H2):=by
 refine ⟨fun i m σ H=>m=n - i/\i<=n/\Pv i σ H,⟨n,by simp,Nat.zero_le _,h0⟩,?_⟩
 rintro i m σ H ⟨rfl,hi,p⟩
 by_cases hlt:i<n
 ·refine .inr ⟨hlt,Pv (i+1),fun σ' H' p'=>⟨n - (i+1),by omega,rfl,hlt,p'⟩,fun x H' y=>?_⟩
  obtain ⟨e,y⟩:=y
  subst e y
  exact hs i σ _ hlt p
 ·have e:i=n:=by omega
  subst e
  exact .inl ⟨Nat.le_refl _,hd σ H p⟩
theorem PK {c:TT} {tb:TS} {D:Ends} {σ:St} {H:Hp} (Pv:St->Hp->Prop) (μ:St->Hp->Nat) (h0:Pv σ H)
  (hs:∀ σ H,Pv σ H->c σ H fun b H1=>if b=true then tb { D with nx:=fun σ' H'=>Pv σ' H'/\μ σ' H'<μ σ H,ct:=fun σ' H'=>Pv σ' H'/\μ σ' H'<μ σ H,bk:=D.nx } σ H1 else D.nx σ H1)
  (mono:∀ σ H Q Q',(∀ b H1,Q b H1->Q' b H1)->c σ H Q->c σ H Q'):Pa c tb D σ H:=by
 refine ⟨fun m σ H=>m=μ σ H/\Pv σ H,⟨_,rfl,h0⟩,?_⟩
 rintro m σ H ⟨rfl,p⟩
 refine mono σ H _ _ (fun b H1 q=>?_) (hs σ H p)
 cases b with
 | true=>exact ⟨_,fun σ' H' ⟨p',l⟩=>⟨_,l,rfl,p'⟩,q⟩
 | false=>exact q
end L2
namespace L2
open PySem PySem.Spec PyProof.Rows
noncomputable abbrev R2:=V->V->Hp->VK->Prop
noncomputable def GD (X:Cx) (f:Value->Value->Sem Value) (r:R2):Prop :=
 ∀ (pins:List (Addr × Obj)) (s:Shared) (σ:St) (H:Hp) (x y:V) (v u:Value) (Q:VK),Inv X pins σ H s->RelV x v->RelV y u->r x y H Q ->
  wpAny (model X.prog X.w) X.A (f v u) (EP X pins σ Q) X.xe s
noncomputable def cj (X:Cx) (f:Value->Sem Value) (r:V->Hp->VK->Prop):Prop :=
 ∀ (pins:List (Addr × Obj)) (s:Shared) (σ:St) (H:Hp) (x:V) (v:Value) (Q:VK),Inv X pins σ H s->RelV x v->r x H Q ->
  wpAny (model X.prog X.w) X.A (f v) (EP X pins σ Q) X.xe s
noncomputable def FJ (X:Cx) (f:Value) (r:List V->Hp->VK->Prop):Prop :=
 ∀ (pins:List (Addr × Obj)) (s:Shared) (σ:St) (H:Hp) (xs:List V) (us:List Value) (Q:VK),Inv X pins σ H s->Vals xs us->r xs H Q ->
  wpAny (model X.prog X.w) X.A (call f us) (EP X pins σ Q) X.xe s
noncomputable def dZ (X:Cx) (r:V->Hp->(Bool->Hp->Prop)->Prop):Prop :=
 ∀ (pins:List (Addr × Obj)) (s:Shared) (σ:St) (H:Hp) (x:V) (v:Value) (Q:Bool->Hp->Prop),Inv X pins σ H s->RelV x v->r x H Q ->
  wpAny (model X.prog X.w) X.A (truthy v) (TP X pins σ Q) X.xe s
noncomputable def V5 (r:R2) (ta tb:TE):TE:=fun σ H Q=>ta σ H fun x H1=>tb σ H1 fun y H2=>r x y H2 Q
noncomputable def fQ (r:V->Hp->VK->Prop) (ta:TE):TE:=fun σ H Q=>ta σ H fun x H1=>r x H1 Q
noncomputable def rI (C:Int->Int->Prop) (g:Int->Int->V):R2:=fun x y H Q=>∃ i j,x=.int i/\y=.int j/\C i j/\Q (g i j) H
noncomputable def RL (g:Int->Int->V):R2:=fun x y H Q=>∃ i j,x=.int i/\y=.int j/\Q (g i j) H
noncomputable def rU (g:Int->V):V->Hp->VK->Prop:=fun x H Q=>∃ i,x=.int i/\Q (g i) H
section
variable {X:Cx} {a b c:Expr} {ta tb tc:TE} {pos:Pos}
theorem VL (ha:PE X a ta) (hb:PE X b tb) {pins:List (Addr × Obj)} {s:Shared} {σ:St} {H:Hp} {R:V->V->Hp->Prop} (I:Inv X pins σ H s)
  (h:ta σ H fun x H1=>tb σ H1 fun y H2=>R x y H2) {Q:Value->Shared->Prop} {f:Value->Value->Sem Value}
  (hf:∀ v u s2 x y H2,Inv X pins σ H2 s2->RelV x v->RelV y u->R x y H2->wpAny (model X.prog X.w) X.A (f v u) Q X.xe s2) :
  wpAny (model X.prog X.w) X.A (eval a X.env) (fun v s₁=>wpAny (model X.prog X.w) X.A (eval b X.env) (fun u s₂=>wpAny (model X.prog X.w) X.A (f v u) Q X.xe s₂) X.xe s₁) X.xe s:=by
 refine Bo (ha pins s σ H _ I h) fun v s1 hq0=>?_
 obtain ⟨x,H1,I1,r1,q1⟩:=hq0
 refine Bo (hb pins s1 σ H1 _ I1 q1) fun u s2 hq0=>?_
 obtain ⟨y,H2,I2,r2,q2⟩:=hq0
 exact hf v u s2 x y H2 I2 r1 r2 q2
theorem BJ {op:Operator} {r:R2} (ho:GD X (binaryOp op) r) (ha:PE X a ta) (hb:PE X b tb):PE X (.BinOp a op b pos) (V5 r ta tb):=by
 intro pins s σ H Q I h
 exact wpAny_BinOp (VL ha hb I h fun v u s2 x y H2 I2 rx ry q=>ho pins s2 σ H2 x y v u Q I2 rx ry q)
theorem M9 {op:UnaryOp} {r:V->Hp->VK->Prop} (ho:cj X (unaryOp op) r) (ha:PE X a ta):PE X (.UnaryOp op a pos) (fQ r ta):=by
 intro pins s σ H Q I h
 exact UnaryOp_ (Bo (ha pins s σ H _ I h) fun v s1 ⟨x,H1,I1,r1,q1⟩=>ho pins s1 σ H1 x v Q I1 r1 q1)
theorem V9 {f:Value->Value->Sem Value} {C:Int->Int->Prop} {g:Int->Int->Int}
  (rule:∀ (i j:Int) (t u:Tok) (s:Shared) (Q:Value->Shared->Prop) (E:Value->Shared->Prop),C i j->Q (.int (g i j) s.toks) { s with toks:=s.toks+1 }->wpAny (model X.prog X.w) X.A (f (.int i t) (.int j u)) Q E s) :
  GD X f (rI C fun i j=>.int (g i j)):=by
 intro pins s σ H x y v u Q I rx ry h
 obtain ⟨i,j,rfl,rfl,hc,q⟩:=h
 obtain ⟨t,rfl⟩:=rx
 obtain ⟨t',rfl⟩:=ry
 exact rule i j t t' s _ _ hc ⟨.int (g i j),H,I.tok _,⟨_,rfl⟩,q⟩
theorem TJ {f:Value->Value->Sem Value} {g:Int->Int->Int}
  (rule:∀ (i j:Int) (t u:Tok) (s:Shared) (Q:Value->Shared->Prop) (E:Value->Shared->Prop),Q (.int (g i j) s.toks) { s with toks:=s.toks+1 }->wpAny (model X.prog X.w) X.A (f (.int i t) (.int j u)) Q E s) :
  GD X f (RL fun i j=>.int (g i j)):=by
 intro pins s σ H x y v u Q I rx ry h
 obtain ⟨i,j,rfl,rfl,q⟩:=h
 obtain ⟨t,rfl⟩:=rx
 obtain ⟨t',rfl⟩:=ry
 exact rule i j t t' s _ _ ⟨.int (g i j),H,I.tok _,⟨_,rfl⟩,q⟩
theorem RT {f:Value->Value->Sem Value} {g:Int->Int->Bool}
  (rule:∀ (i j:Int) (t u:Tok) (s:Shared) (Q:Value->Shared->Prop) (E:Value->Shared->Prop),Q (.bool (g i j)) s->wpAny (model X.prog X.w) X.A (f (.int i t) (.int j u)) Q E s) :
  GD X f (RL fun i j=>.bl (g i j)):=by
 intro pins s σ H x y v u Q I rx ry h
 obtain ⟨i,j,rfl,rfl,q⟩:=h
 obtain ⟨t,rfl⟩:=rx
 obtain ⟨t',rfl⟩:=ry
 exact rule i j t t' s _ _ ⟨.bl (g i j),H,I,rfl,q⟩
noncomputable def dY (i j:Int):Prop:=0<j/\j<1073741824
noncomputable def bF (i j:Int):Prop:=0<=j/\j<=1000000/\i.natAbs<2 ^ 64
noncomputable def V1 (i j:Int):Prop:=(-(2 ^ 64)<i/\i<2 ^ 64) \/ (-(2 ^ 64)<j/\j<2 ^ 64)
theorem V1.ok {i j:Int} (h:V1 i j):IntMulOk i j:=by
 rcases h with ⟨h1,h2⟩ | ⟨h1,h2⟩
 ·exact .of_left (intBits_le_64 h1 h2)
 ·exact .of_right (intBits_le_64 h1 h2)
theorem two_pow_nn (k:Nat):(0:Int)<=2 ^ k:=by
 rw [two_pow_cast]
 exact Int.natCast_nonneg _
theorem CW:GD X (binaryOp .Add) (RL fun i j=>.int (i+j)):=TJ fun _ _ _ _ _ _ _ q=>add_int q
theorem Ge:GD X (binaryOp .Sub) (RL fun i j=>.int (i - j)):=TJ fun _ _ _ _ _ _ _ q=>sub_int q
theorem Fi:GD X (binaryOp .Mult) (rI V1 fun i j=>.int (i * j)):=V9 fun _ _ _ _ _ _ _ hc q=>mul_int q hc.ok
theorem GJ:GD X (binaryOp .FloorDiv) (rI dY fun i j=>.int (i / j)):=V9 fun i j _ _ _ _ _ hc q=>by
 have h1:(0:Int)<j:=hc.1
 have h2:j<1073741824:=hc.2
 exact floordiv_int (by omega) (by rw [Int.fdiv_eq_ediv_of_nonneg i (by omega)]; exact q) (.inl (PyProof.noPylong_small (by omega)))
theorem Dj:GD X (binaryOp .Mod) (rI (fun _ j=>0<j) fun i j=>.int (i % j)):=V9 fun i j _ _ _ _ _ hc q=>by
 have h1:(0:Int)<j:=hc
 exact mod_int' (by omega) (by rw [Int.fmod_eq_emod_of_nonneg i (by omega)]; exact q)
theorem Et:GD X (binaryOp .LShift) (rI bF fun i j=>.int (i * 2 ^ j.toNat)):=V9 fun _ _ _ _ _ _ _ hc q=>lshift_int_small hc.1 hc.2.1 hc.2.2 q
theorem Jy:GD X (binaryOp .RShift) (rI (fun _ j=>0<=j) fun i j=>.int (i / 2 ^ j.toNat)):=V9 fun i j _ _ _ _ _ hc q =>
 rshift_int hc (by rw [Int.fdiv_eq_ediv_of_nonneg i (two_pow_nn _)]; exact q)
theorem Jv:GD X (binaryOp .BitAnd) (RL fun i j=>.int (Builtin.bitAnd i j)):=TJ fun _ _ _ _ _ _ _ q=>and_int q
theorem Hn:GD X (binaryOp .BitOr) (RL fun i j=>.int (Builtin.bitOr i j)):=TJ fun _ _ _ _ _ _ _ q=>or_int q
theorem fU {f:Value->Sem Value} {g:Int->Int}
  (rule:∀ (i:Int) (t:Tok) (s:Shared) (Q:Value->Shared->Prop) (E:Value->Shared->Prop),Q (.int (g i) s.toks) { s with toks:=s.toks+1 }->wpAny (model X.prog X.w) X.A (f (.int i t)) Q E s) :
  cj X f (rU fun i=>.int (g i)):=by
 intro pins s σ H x v Q I rx h
 obtain ⟨i,rfl,q⟩:=h
 obtain ⟨t,rfl⟩:=rx
 exact rule i t s _ _ ⟨.int (g i),H,I.tok _,⟨_,rfl⟩,q⟩
theorem J6:cj X (unaryOp .USub) (rU fun i=>.int (-i)):=fU fun _ _ _ _ _ q=>neg_int q
end
noncomputable def Xk:V->V->Bool
 | .non,.non=>true | .non,.int _=>true | .int _,.non=>true | .non,.bl _=>true | .bl _,.non=>true | .non,.str _=>true | .str _,.non=>true
 | .int _,.int _=>true | .bl _,.bl _=>true | .str _,.str _=>true | .byt _,.byt _=>true
 | .int _,.str _=>true | .str _,.int _=>true | .bl _,.str _=>true | .str _,.bl _=>true
 | _,_=>false
noncomputable def fM:R2:=fun x y H Q=>Xk x y=true/\Q (.bl (decide (x=y))) H
noncomputable def fP:R2:=fun x y H Q=>Xk x y=true/\Q (.bl (!decide (x=y))) H
theorem M3 {i j:Int}:decide (V.int i=V.int j)=(i == j):=by
 rw [Bool.eq_iff_iff]
 simp
theorem QG {i j:Bool}:decide (V.bl i=V.bl j)=(i == j):=by
 rw [Bool.eq_iff_iff]
 simp
theorem GP {i j:Str}:decide (V.str i=V.str j)=(i == j):=by
 rw [Bool.eq_iff_iff]
 simp
theorem Nb {i j:Array UInt8}:decide (V.byt i=V.byt j)=(i.toList == j.toList):=by
 rw [Bool.eq_iff_iff]
 cases i
 cases j
 simp
section
variable {X:Cx} {a b c:Expr} {ta tb tc:TE} {pos:Pos}
theorem Be {pins:List (Addr × Obj)} {σ:St} {H:Hp} {s:Shared} {Q:VK} {k k':Bool} (I:Inv X pins σ H s) (q:Q (.bl k) H) (e:k=k'):EP X pins σ Q (.bool k') s:=by
 subst e
 exact ⟨.bl k,H,I,rfl,q⟩
theorem Dw:GD X (compareOp .Eq) fM:=by
 intro pins s σ H x y v u Q I rx ry h
 obtain ⟨hs,q⟩:=h
 cases x with
 | non =>
  cases rx
  cases y with
  | non=>cases ry; exact PySem.EqNone.eq_none_none (Be I q (by simp))
  | bl j=>cases ry; exact PySem.EqNone.eq_none_bool (Be I q (by simp))
  | int j=>obtain ⟨t',rfl⟩:=ry; exact PySem.EqNone.eq_none_int (Be I q (by simp))
  | str j=>obtain ⟨t',rfl⟩:=ry; exact PySem.EqNone.eq_none_str (Be I q (by simp))
  | _=>exact absurd (show false=true from hs) Bool.false_ne_true
 | bl i =>
  cases rx
  cases y with
  | non=>cases ry; exact PySem.EqNone.eq_bool_none (Be I q (by simp))
  | bl j=>cases ry; exact eq_bool (Be I q QG)
  | str j=>obtain ⟨t',rfl⟩:=ry; exact PySem.EqMixed.eq_bool_str (Be I q (by simp))
  | _=>exact absurd (show false=true from hs) Bool.false_ne_true
 | int i =>
  obtain ⟨t,rfl⟩:=rx
  cases y with
  | non=>cases ry; exact PySem.EqNone.eq_int_none (Be I q (by simp))
  | int j=>obtain ⟨t',rfl⟩:=ry; exact eq_int (Be I q M3)
  | str j=>obtain ⟨t',rfl⟩:=ry; exact PySem.EqMixed.eq_int_str (Be I q (by simp))
  | _=>exact absurd (show false=true from hs) Bool.false_ne_true
 | str i =>
  obtain ⟨t,rfl⟩:=rx
  cases y with
  | non=>cases ry; exact PySem.EqNone.eq_str_none (Be I q (by simp))
  | bl j=>cases ry; exact PySem.EqMixed.eq_str_bool (Be I q (by simp))
  | int j=>obtain ⟨t',rfl⟩:=ry; exact PySem.EqMixed.eq_str_int (Be I q (by simp))
  | str j=>obtain ⟨t',rfl⟩:=ry; exact eq_str (Be I q GP)
  | _=>exact absurd (show false=true from hs) Bool.false_ne_true
 | byt i =>
  obtain ⟨t,rfl⟩:=rx
  cases y with
  | byt j=>obtain ⟨t',rfl⟩:=ry; exact PySem.W.eq_bytes (Be I q Nb)
  | _=>exact absurd (show false=true from hs) Bool.false_ne_true
 | _=>cases y <;> exact absurd (show false=true from hs) Bool.false_ne_true
theorem K8:GD X (compareOp .NotEq) fP:=by
 intro pins s σ H x y v u Q I rx ry h
 obtain ⟨hs,q⟩:=h
 cases x with
 | non =>
  cases rx
  cases y with
  | non=>cases ry; exact PySem.EqNone.ne_none_none (Be I q (by simp))
  | bl j=>cases ry; exact PySem.EqNone.ne_none_bool (Be I q (by simp))
  | int j=>obtain ⟨t',rfl⟩:=ry; exact PySem.EqNone.ne_none_int (Be I q (by simp))
  | str j=>obtain ⟨t',rfl⟩:=ry; exact PySem.EqNone.ne_none_str (Be I q (by simp))
  | _=>exact absurd (show false=true from hs) Bool.false_ne_true
 | bl i =>
  cases rx
  cases y with
  | non=>cases ry; exact PySem.EqNone.ne_bool_none (Be I q (by simp))
  | bl j=>cases ry; exact ne_bool (Be I q (congrArg not QG))
  | str j=>obtain ⟨t',rfl⟩:=ry; exact PySem.EqMixed.ne_bool_str (Be I q (by simp))
  | _=>exact absurd (show false=true from hs) Bool.false_ne_true
 | int i =>
  obtain ⟨t,rfl⟩:=rx
  cases y with
  | non=>cases ry; exact PySem.EqNone.ne_int_none (Be I q (by simp))
  | int j=>obtain ⟨t',rfl⟩:=ry; exact ne_int (Be I q (congrArg not M3))
  | str j=>obtain ⟨t',rfl⟩:=ry; exact PySem.EqMixed.ne_int_str (Be I q (by simp))
  | _=>exact absurd (show false=true from hs) Bool.false_ne_true
 | str i =>
  obtain ⟨t,rfl⟩:=rx
  cases y with
  | non=>cases ry; exact PySem.EqNone.ne_str_none (Be I q (by simp))
  | bl j=>cases ry; exact PySem.EqMixed.ne_str_bool (Be I q (by simp))
  | int j=>obtain ⟨t',rfl⟩:=ry; exact PySem.EqMixed.ne_str_int (Be I q (by simp))
  | str j=>obtain ⟨t',rfl⟩:=ry; exact ne_str (Be I q (congrArg not GP))
  | _=>exact absurd (show false=true from hs) Bool.false_ne_true
 | byt i =>
  obtain ⟨t,rfl⟩:=rx
  cases y with
  | byt j=>obtain ⟨t',rfl⟩:=ry; exact PySem.W.ne_bytes (Be I q (congrArg not Nb))
  | _=>exact absurd (show false=true from hs) Bool.false_ne_true
 | _=>cases y <;> exact absurd (show false=true from hs) Bool.false_ne_true
theorem Hr:GD X (compareOp .Lt) (RL fun i j=>.bl (decide (i<j))):=RT fun _ _ _ _ _ _ _ q=>lt_int q
theorem E_:GD X (compareOp .LtE) (RL fun i j=>.bl (decide (i<=j))):=RT fun _ _ _ _ _ _ _ q=>le_int q
theorem Yt:GD X (compareOp .Gt) (RL fun i j=>.bl (decide (j<i))):=RT fun _ _ _ _ _ _ _ q=>gt_int q
theorem Xp:GD X (compareOp .GtE) (RL fun i j=>.bl (decide (j<=i))):=RT fun _ _ _ _ _ _ _ q=>ge_int q
theorem Oj:GD X (compareOp .In) (fun x y H Q=>∃ i j,x=.str i/\y=.str j/\Q (.bl (!(Builtin.Str.occurrences j i 0 j.length 1).isEmpty)) H):=by
 intro pins s σ H x y v u Q I rx ry h
 obtain ⟨i,j,rfl,rfl,q⟩:=h
 obtain ⟨t,rfl⟩:=rx
 obtain ⟨t',rfl⟩:=ry
 exact in_str (Be I q rfl)
theorem R_:GD X (compareOp .IsNot) (fun x y H Q=>y=.non/\Q (.bl (!decide (x=.non))) H):=by
 intro pins s σ H x y v u Q I rx ry h
 obtain ⟨rfl,q⟩:=h
 cases ry
 refine isnot_none_gen (Be I q ?_)
 cases x <;> first
  | (cases rx; rfl)
  | (obtain ⟨t,rfl⟩:=rx; rfl)
theorem Bm (b:Expr) {op:CmpOp} (h:op ≠ .In:=by decide) (h2:op ≠ .NotIn:=by decide):behindInMarks op b=false:=by
 have e1:(op == CmpOp.In)=false:=by cases op <;> first | rfl | exact absurd rfl h
 have e2:(op == CmpOp.NotIn)=false:=by cases op <;> first | rfl | exact absurd rfl h2
 cases b <;> simp [behindInMarks,e1,e2]
theorem Er {op:CmpOp} {r:R2} (ho:GD X (compareOp op) r) (ha:PE X a ta) (hb:PE X b tb) (hm:behindInMarks op b=false):PE X (.Compare a [op] [b] pos) (V5 r ta tb):=by
 intro pins s σ H Q I h
 exact wpAny_Compare1 (VL ha hb I h fun v u s2 x y H2 I2 rx ry q=>ho pins s2 σ H2 x y v u Q I2 rx ry q) hm
noncomputable def Tv (t:TE):TT:=fun σ H Q=>t σ H fun x H'=>∃ k,x=.bl k/\Q k H'
theorem Bd {op:CmpOp} {r:R2} (ho:GD X (compareOp op) r) (ha:PE X a ta) (hb:PE X b tb) (hm:behindInMarks op b=false):PT X (.Compare a [op] [b] pos) (Tv (V5 r ta tb)):=by
 intro pins s σ H Q I h
 refine wpAny_isTrue_Compare1 (Bo (ha pins s σ H _ I h) fun v s1 ⟨x,H1,I1,r1,q1⟩=>Bo (hb pins s1 σ H1 _ I1 q1) fun u s2 ⟨y,H2,I2,r2,q2⟩ =>
  Bo (ho pins s2 σ H2 x y v u _ I2 r1 r2 q2) fun c s3 ⟨z,H3,I3,r3,k,e,q3⟩=>?_) hm
 subst e
 cases r3
 exact wpAny_truthy_bool ⟨H3,I3,q3⟩
noncomputable def QV (r r':R2) (ta tb tc:TE):TE:=fun σ H Q=>ta σ H fun x H1=>tb σ H1 fun y H2=>r x y H2 fun z H3=>∃ k,z=.bl k /\
 (if k=true then tc σ H3 fun w' H4=>r' y w' H4 Q else Q (.bl false) H3)
theorem G8 {op op':CmpOp} {r r':R2} (ho:GD X (compareOp op) r) (ho':GD X (compareOp op') r') (ha:PE X a ta) (hb:PE X b tb) (hc:PE X c tc)
  (hm:lastMarks [op,op'] [b,c]=false:=by with_unfolding_all rfl):PE X (.Compare a [op,op'] [b,c] pos) (QV r r' ta tb tc):=by
 intro pins s σ H Q I h
 refine Compare_chain (Bo (ha pins s σ H _ I h) fun v s1 ⟨x,H1,I1,r1,q1⟩=>chain_link (Bo (hb pins s1 σ H1 _ I1 q1) fun u s2 ⟨y,H2,I2,r2,q2⟩ =>
  Bo (ho pins s2 σ H2 x y v u _ I2 r1 r2 q2) fun d s3 ⟨z,H3,I3,r3,k,e,q3⟩=>?_)) hm
 subst e
 cases r3
 refine wpAny_truthy_bool ?_
 cases k with
 | false=>exact ite_ff ⟨.bl false,H3,I3,rfl,q3⟩
 | true=>exact ite_tt (chain_last (Bo (hc pins s3 σ H3 _ I3 q3) fun w' s4 ⟨z',H4,I4,r4,q4⟩=>ho' pins s4 σ H4 y z' u w' Q I4 r2 r4 q4))
theorem G4 {op op':CmpOp} {r r':R2} (ho:GD X (compareOp op) r) (ho':GD X (compareOp op') r') (ha:PE X a ta) (hb:PE X b tb) (hc:PE X c tc)
  (hm:lastMarks [op,op'] [b,c]=false:=by with_unfolding_all rfl):PT X (.Compare a [op,op'] [b,c] pos) (Tv (QV r r' ta tb tc)):=by
 intro pins s σ H Q I h
 refine isTrue_chain (Bo (ha pins s σ H _ I h) fun v s1 ⟨x,H1,I1,r1,q1⟩=>test_link (Bo (hb pins s1 σ H1 _ I1 q1) fun u s2 ⟨y,H2,I2,r2,q2⟩ =>
  Bo (ho pins s2 σ H2 x y v u _ I2 r1 r2 q2) fun d s3 ⟨z,H3,I3,r3,k,e,q3⟩=>?_)) hm
 subst e
 cases r3
 refine wpAny_truthy_bool ?_
 cases k with
 | false =>
  obtain ⟨k',e',q'⟩:=q3
  cases e'
  exact ite_ff ⟨H3,I3,q'⟩
 | true =>
  refine ite_tt (test_last (Bo (hc pins s3 σ H3 _ I3 q3) fun w' s4 ⟨z',H4,I4,r4,q4⟩=>Bo (ho' pins s4 σ H4 y z' u w' _ I4 r2 r4 q4) fun d' s5 hq0=>?_))
  obtain ⟨z2,H5,I5,r5,k2,e2,q5⟩:=hq0
  subst e2
  cases r5
  exact wpAny_truthy_bool ⟨H5,I5,q5⟩
noncomputable def ZJ (K:PySem.W.Frag) (x:V) (H:Hp) (k:Bool):Prop :=
 match x with
 | .non=>k=false
 | .bl b=>k=b
 | .int i=>k=(i != 0)
 | .str y=>y.length<=sizeLine/\k=((y.length:Int) != 0)
 | .byt y=>y.size<=sizeLine/\k=((y.size:Int) != 0)
 | .ref p=>(∃ xs,Ci K H p xs/\k = !xs.isEmpty) \/ (∃ xs,Gy K H p xs/\k = !xs.isEmpty) \/ ∃ kvs,H p=some (.dK kvs)/\k = !kvs.isEmpty
 | _=>False
theorem Ma {κ:Type} {kvs:List (κ × V)} {vs:List (κ × Value)} (r:KV kvs vs):(!vs.isEmpty) = !kvs.isEmpty:=by
 cases r <;> rfl
theorem Ir {xs:List V} {its:List Value} (r:Vals xs its):(!its.toArray.isEmpty) = !xs.isEmpty:=by
 cases r <;> simp
theorem Hh:(sizeLine:Nat)<2 ^ 63:=by rw [sizeLine_eq]; decide
theorem VR:dZ X (fun x H Q=>∃ k,ZJ X.K x H k/\Q k H):=by
 intro pins s σ H x v Q I rx h
 obtain ⟨k,e,q⟩:=h
 have hl:=Hh
 have hs:sizeLine=16777216:=sizeLine_eq
 cases x with
 | non =>
  cases rx
  have e':k=false:=e
  subst e'
  exact truthy_none ⟨H,I,q⟩
 | bl b =>
  cases rx
  have e':k=b:=e
  subst e'
  exact wpAny_truthy_bool ⟨H,I,q⟩
 | int i =>
  obtain ⟨t,rfl⟩:=rx
  have e':k=(i != 0):=e
  subst e'
  exact PySem.P.truthy_int ⟨H,I,q⟩
 | str y =>
  obtain ⟨t,rfl⟩:=rx
  obtain ⟨hy,e'⟩:y.length<=sizeLine/\k=((y.length:Int) != 0):=e
  subst e'
  exact PySem.P.truthy_str (by omega) ⟨H,I.tok _,q⟩
 | byt y =>
  obtain ⟨t,rfl⟩:=rx
  obtain ⟨hy,e'⟩:y.size<=sizeLine/\k=((y.size:Int) != 0):=e
  subst e'
  exact PySem.W.truthy_bytes (by omega) ⟨H,I.tok _,q⟩
 | ref p =>
  cases rx
  have e':(∃ xs,Ci X.K H p xs/\k = !xs.isEmpty) \/ (∃ xs,Gy X.K H p xs/\k = !xs.isEmpty) \/ ∃ kvs,H p=some (.dK kvs)/\k = !kvs.isEmpty:=e
  rcases e' with ⟨xs,hx,e'⟩ | ⟨xs,hx,e'⟩ | ⟨kvs,hx,e'⟩
  ·subst e'
   obtain ⟨its,r,pl,hz⟩:=I.list hx
   have hlen:=r.length
   exact wpAny_truthy_list pl.isList (by simp only [List.size_toArray]; omega) ⟨H,I.tok _,by rw [Ir r]; exact q⟩
  ·subst e'
   obtain ⟨its,r,pl,hz⟩:=I.tuple hx
   have hlen:=r.length
   exact truthy_tuple pl (by simp only [List.size_toArray]; omega) ⟨H,I.tok _,by rw [Ir r]; exact q⟩
  ·subst e'
   obtain ⟨hz,hS,vs,r,m⟩:kvs.length<=sizeLine/\(p == sysModules)=false/\∃ vs,KV kvs vs/\s.heap.DictOf (CJ X.prog X.w) p vs:=I.hok p _ hx
   have hlen:kvs.length=vs.length:=Paired.length r
   exact wpAny_truthy_dict hS m (by omega) ⟨H,I.tok _,by rw [Ma r]; exact q⟩
 | _=>exact (show False from e).elim
theorem Ph (ha:PE X a ta) (he:∀ whole,isTrue a X.env whole=(do let v ← whole; standAt a.pos; holding [v] (truthy v))) :
  PT X a (fun σ H Q=>ta σ H fun x H'=>∃ k,ZJ X.K x H' k/\Q k H'):=by
 intro pins s σ H Q I h
 exact isTrue_plain (Bo (ha pins s σ H _ I h) fun v s1 ⟨x,H1,I1,r1,q1⟩=>VR pins s1 σ H1 x v Q I1 r1 q1) (he _)
theorem Gp:GD X (binaryOp .Add) (fun x y H Q=>∃ i j,x=.str i/\y=.str j/\i.length+j.length<=sizeLine/\Q (.str (i++j)) H):=by
 intro pins s σ H x y v u Q I rx ry h
 obtain ⟨i,j,rfl,rfl,hz,q⟩:=h
 obtain ⟨t,rfl⟩:=rx
 obtain ⟨t',rfl⟩:=ry
 exact add_str (fun t' tk=>⟨.str (i++j),H,I.tok _,⟨_,rfl⟩,q⟩) hz
theorem vals1 {x:V} {us:List Value} (r:Vals [x] us):∃ u,us=[u]/\RelV x u:=by
 cases r with
 | cons r1 r2=>cases r2; exact ⟨_,rfl,r1⟩
theorem vals2 {x y:V} {us:List Value} (r:Vals [x,y] us):∃ u w',us=[u,w']/\RelV x u/\RelV y w':=by
 cases r with
 | cons r1 r2 =>
  cases r2 with
  | cons r3 r4=>cases r4; exact ⟨_,_,rfl,r1,r3⟩
theorem Nm (hc:X.calm=true):FJ X (.builtin "max") (fun xs H Q=>∃ i j,xs=[.int i,.int j]/\Q (.int (if j > i then j else i)) H):=by
 intro pins s σ H xs us Q I r h
 obtain ⟨i,j,rfl,q⟩:=h
 obtain ⟨u,w',rfl,⟨t,rfl⟩,⟨t',rfl⟩⟩:=vals2 r
 refine max_two_ints (I.ok.hd hc) fun h' tk k=>⟨_,H,I.kept k,?_,q⟩
 by_cases hj:j > i
 ·rw [if_pos hj,if_pos hj]; exact ⟨_,rfl⟩
 ·rw [if_neg hj,if_neg hj]; exact ⟨_,rfl⟩
theorem O4 (hc:X.calm=true):FJ X (.builtin "min") (fun xs H Q=>∃ i j,xs=[.int i,.int j]/\Q (.int (if j<i then j else i)) H):=by
 intro pins s σ H xs us Q I r h
 obtain ⟨i,j,rfl,q⟩:=h
 obtain ⟨u,w',rfl,⟨t,rfl⟩,⟨t',rfl⟩⟩:=vals2 r
 refine min_two_ints (I.ok.hd hc) fun h' tk k=>⟨_,H,I.kept k,?_,q⟩
 by_cases hj:j<i
 ·rw [if_pos hj,if_pos hj]; exact ⟨_,rfl⟩
 ·rw [if_neg hj,if_neg hj]; exact ⟨_,rfl⟩
end
end L2
namespace L2
open PySem PySem.Spec PyProof.Rows
structure Lq (h:Heap) (x dx C:Addr) (mA:Str->Option Value):Prop where
 obj:h.get? x=some (PySem.W.instObj C dx)
 ns:h.Ns1 dx mA
 ne:dx ≠ x
theorem Od {h:Heap} {dx:Addr} {mA:Str->Option Value} (n:h.Ns1 dx mA):∃ od,h.get? dx=some od/\∀ name,PySem.W.lookIn name od=some (mA name):=by
 obtain ⟨o,es,ep,ho,hd,hk,_,hm⟩:=n
 refine ⟨o,ho,fun name=>?_⟩
 have e:=hm name
 unfold nsFind findBy at e
 rw [← Array.find?_toList] at e
 unfold PySem.W.lookIn
 rw [hd]
 dsimp only
 split
 ·rename_i y q
  rw [q] at e
  exact congrArg some e
 ·rename_i q
  rw [q] at e
  have a:es.toList.any (·.refKey)=false:=by
   rw [List.any_eq_false]
   intro y hy
   obtain ⟨z,t,hkey⟩:=hk y (Array.mem_toList_iff.mp hy)
   simp [DictEntry.refKey,hkey]
  have a':¬ es.toList.any (·.refKey)=true:=by rw [a]; exact Bool.false_ne_true
  rw [if_neg a']
  exact congrArg some e
theorem Lq.look {h:Heap} {x dx C:Addr} {mA:Str->Option Value} (I:Lq h x dx C mA):∃ od,PySem.W.InstAt h x (PySem.W.instObj C dx) C (some od)/\∀ name,PySem.W.lookIn name od=some (mA name) :=
 let ⟨od,ho,hl⟩:=Od I.ns
 ⟨od,⟨I.obj,rfl,rfl,ho⟩,hl⟩
section
variable {prog:Program} {w:World} {A:Around} {E:Value->Shared->Prop} {s:Shared} {K:PySem.W.Frag} {x dx C f:Addr} {mA:Str->Option Value} {name:Str} {v:Value}
theorem Sq {expr:Bool} {Q:Value->Shared->Prop} (X:K.In s.heap) (I:Lq s.heap x dx C mA) (hg:PySem.W.plainGet K C name=true) (hh:PySem.W.hasDictIn K C=true)
  (ha:PySem.W.findIn K (.ref C) name=some none) (hv:mA name=some v) (hv':PySem.W.handedIn v=true) (h:Q v { s with toks:=s.toks+1 }) :
  wpAny (model prog w) A (getAttr (.ref x) name expr) Q E s:=by
 obtain ⟨od,J,hl⟩:=I.look
 exact PySem.W.get_value X J (PySem.W.plainGet_of hg).1 (PySem.W.findObj_own hh ha rfl (by rw [hl,hv])) hv' h
theorem Q4 {pl:Sem Bool} {Q:Value × List Value->Shared->Prop} (X:K.In s.heap) (I:Lq s.heap x dx C mA) (hg:PySem.W.plainGet K C name=true)
  (hf:PySem.W.findIn K (.ref C) name=some (some (.ref f))) (ht:PySem.W.isFn K (.ref f)=true) (hv:mA name=none) (h:Q (.ref f,[.ref x]) s) :
  wpAny (model prog w) A (getMethod (.ref x) name pl) Q E s:=by
 obtain ⟨od,J,hl⟩:=I.look
 exact PySem.W.method_fn X J (PySem.W.plainGet_of hg).1 (PySem.W.plainGet_of hg).2 hf (beq_iff_eq.mp ht) (by show (PySem.W.lookIn name od).map (·.isSome)=some false; rw [hl,hv]; rfl) h
theorem Ss {ns:List Str} {Q:Unit->Shared->Prop} (X:K.In s.heap) (I:Lq s.heap x dx C mA)
  (hs:PySem.W.findIn K (.ref C) "__setattr__" = some (some (.builtin "object.__setattr__"))) (hp:PySem.W.plainOver K C=true) (ht:PySem.W.takerIn K C name=some none) (hh:PySem.W.hasDictIn K C=true)
  (hw:PySem.Within mA ns) (hsz:ns.length<=sizeLine)
  (h:∀ h',Lq h' x dx C (fun y=>if y=name then some v else mA y)->Heap.SameBut dx s.heap h'->Q () { s with heap:=h',toks:=s.toks+2 }) :
  wpAny (model prog w) A (setAttr (.ref x) name v) Q E s:=by
 obtain ⟨od,J,hl⟩:=I.look
 refine PySem.W.set_plain X J hs (PySem.W.osa_open (s:={ s with toks:=s.toks+1 }) (r:=none) X J hp ht fun b=>?_)
 obtain ⟨cd,hc,hd'⟩:=PySem.W.any_some hh
 have hx:s.heap.get? x=some ⟨.ref C,some dx,.plain,#[]⟩:=I.obj
 refine wpAny_bind (wpAny_pure (wpAny_bind (wpAny_bind (wpAny_loadPart hx (wpAny_bind (PySem.W.Looks.here (s:={ s with toks:=s.toks+1 }) (PySem.W.looks_clsIn X hc) ?_))))))
 rw [hd']
 refine wpAny_pure (a:=some dx) (wpAny_bind (wpAny_pure (wpAny_bind ?_)))
 refine wpAny_nsSet1 (s:={ s with toks:=s.toks+1 }) I.ns fun h' hn2 hs2=>?_
 obtain ⟨oD,esD,epD,hoD,hdD,hcD⟩:=hn2.count (PySem.Within.cons name v hw)
 refine wpAny_bind (wpAny_lookBehind hoD (by rw [hdD]; exact pastItsLine_dict (Nat.le_trans hcD (by rw [List.length_cons]; omega))) ?_)
 exact wpAny_pure (h _ ⟨(hs2.2 _ (Ne.symm I.ne)).trans I.obj,hn2,I.ne⟩ hs2)
theorem Qw {R:Result->Shared->Prop} {vs:List Value} {kw:List (Str × Value)} (X:K.In s.heap) (hm:PySem.W.makesIn K C=true)
  (hi:PySem.W.findIn K (.ref C) "__init__" = some (some (.ref f))) (hf:PySem.W.typeIn K (.ref f)=some (.type "function"))
  (h:codeAny (model prog w) (A.under (.builtin "type.__call__" ⟨.ref C::vs,kw⟩)) (.call (.ref f) ⟨.ref (s.heap.objs.size+1)::vs,kw⟩) (PySem.W.InitBack (s.heap.objs.size+1) R)
   { s with heap:=(s.heap.push PySem.W.emptyDict).push (PySem.W.instObj C s.heap.objs.size) }) :
  codeAny (model prog w) A (.call (.ref C) ⟨vs,kw⟩) R s:=by
 obtain ⟨hh,g,d,t,os⟩:=s
 exact PySem.W.make_core (PySem.W.makes_of X hm) (PySem.W.looks_findIn X hi) (fun self=>PySem.W.bind_fn X self hf) (.inl rfl) h
end
noncomputable def BZ (f:Str) (v:V):List (Str × V)->List (Str × V)
 | []=>[(f,v)]
 | (g,x)::r=>if g=f then (g,v)::r else (g,x)::BZ f v r
theorem Ak (f g:Str) (v:V):∀ fs:List (Str × V),(BZ f v fs).lookup g=if g=f then some v else fs.lookup g
 | []=>by
  show List.lookup g [(f,v)]=_
  by_cases h:g=f
  ·have hb:(g == f)=true:=beq_iff_eq.mpr h
   simp only [List.lookup,hb,if_pos h]
  ·have hb:(g == f)=false:=beq_eq_false_iff_ne.mpr h
   simp only [List.lookup,hb,if_neg h]
 | (k,x)::r=>by
  have ih:=Ak f g v r
  rw [show BZ f v ((k,x)::r)=(if k=f then (k,v)::r else (k,x)::BZ f v r) from rfl]
  by_cases hk:k=f
  ·rw [if_pos hk]
   by_cases h:g=k
   ·have hb:(g == k)=true:=beq_iff_eq.mpr h
    simp only [List.lookup,hb,if_pos (h.trans hk)]
   ·have hb:(g == k)=false:=beq_eq_false_iff_ne.mpr h
    simp only [List.lookup,hb,if_neg (fun e:g=f=>h (e.trans hk.symm))]
  ·rw [if_neg hk]
   by_cases h:g=k
   ·have hb:(g == k)=true:=beq_iff_eq.mpr h
    simp only [List.lookup,hb,if_neg (fun e:g=f=>hk (h.symm.trans e))]
   ·have hb:(g == k)=false:=beq_eq_false_iff_ne.mpr h
    simp only [List.lookup,hb]
    exact ih
theorem Hi (f:Str) (v:V):∀ fs:List (Str × V),f∈(BZ f v fs).map (·.1)/\∀ g,g∈fs.map (·.1)->g∈(BZ f v fs).map (·.1)
 | []=>⟨by simp [BZ],fun g h=>by simp at h⟩
 | (k,x)::r=>by
  obtain ⟨i1,i2⟩:=Hi f v r
  rw [show BZ f v ((k,x)::r)=(if k=f then (k,v)::r else (k,x)::BZ f v r) from rfl]
  by_cases hk:k=f
  ·rw [if_pos hk]
   subst hk
   exact ⟨by simp,fun g h=>by simpa using h⟩
  ·rw [if_neg hk]
   refine ⟨?_,fun g h=>?_⟩
   ·rw [List.map_cons]
    exact List.mem_cons_of_mem _ i1
   ·rw [List.map_cons] at h ⊢
    rcases List.mem_cons.mp h with e | e
    ·exact List.mem_cons.mpr (.inl e)
    ·exact List.mem_cons_of_mem _ (i2 g e)
theorem Hm (f:Str) (v:V):∀ fs:List (Str × V),(BZ f v fs).length<=fs.length+1
 | []=>by simp [BZ]
 | (k,x)::r=>by
  have ih:=Hm f v r
  rw [show BZ f v ((k,x)::r)=(if k=f then (k,v)::r else (k,x)::BZ f v r) from rfl]
  by_cases hk:k=f
  ·rw [if_pos hk,List.length_cons,List.length_cons]; omega
  ·rw [if_neg hk,List.length_cons,List.length_cons]; omega
theorem Es.some_of {v:V} {o:Option Value} (r:Es (some v) o):∃ u,o=some u/\RelV v u:=by
 cases o with
 | none=>exact (show False from r).elim
 | some u=>exact ⟨u,rfl,r⟩
theorem Es.none_of {o:Option Value} (r:Es none o):o=none:=by
 cases o with
 | none=>rfl
 | some u=>exact (show False from r).elim
theorem Ol {v:V} {u:Value} (r:RelV v u):PySem.W.handedIn u=true:=by
 cases v with
 | non=>cases (show u=Value.none from r); rfl
 | bl b=>cases (show u=Value.bool b from r); rfl
 | int i=>obtain ⟨t,e⟩:=(show ∃ t,u=Value.int i t from r); cases e; rfl
 | str x=>obtain ⟨t,e⟩:=(show ∃ t,u=Value.str x t from r); cases e; rfl
 | byt b=>obtain ⟨t,e⟩:=(show ∃ t,u=Value.bytes b t from r); cases e; rfl
 | flt b=>obtain ⟨t,e⟩:=(show ∃ t,u=Value.float b t from r); cases e; rfl
 | ref a=>cases (show u=Value.ref a from r); rfl
 | ty n=>cases (show u=Value.type n from r); rfl
section
variable {P:Program} {w:World} {H H':Hp} {h h':Heap} {a C dx:Addr} {fs fs':List (Str × V)}
theorem H_ (hok:Gw P w H h) (e:H a=some (.ins C dx fs)):∃ mA,Lq h a dx C mA/\(∀ f,Es (fs.lookup f) (mA f))/\PySem.Within mA (fs.map (·.1))/\fs.length<=1000/\H dx=some (.own a):=by
 obtain ⟨d,z,ne,ob,mA,n,r,q⟩:=(show Bt P w H h a (.ins C dx fs) from hok a _ e)
 exact ⟨mA,⟨ob,n,ne⟩,r,q,z,d⟩
end
structure PB (K:PySem.W.Frag) (C:Addr):Prop where
 pg:PySem.W.plainGet K C Str.empty=true
 hd:PySem.W.hasDictIn K C=true
 po:PySem.W.plainOver K C=true
 sa:PySem.W.findIn K (.ref C) "__setattr__" = some (some (.builtin "object.__setattr__"))
theorem PB.get {K:PySem.W.Frag} {C:Addr} (c:PB K C) (f:Str):PySem.W.plainGet K C f=true:=c.pg
noncomputable def CV (K:PySem.W.Frag) (C:Addr) (f:Str):Prop:=PySem.W.findIn K (.ref C) f=some none
theorem CV.taker {K:PySem.W.Frag} {C:Addr} {f:Str} (n:CV K C f):PySem.W.takerIn K C f=some none:=by
 unfold PySem.W.takerIn
 rw [show PySem.W.findIn K (.ref C) f=some none from n]
 rfl
structure Meth (K:PySem.W.Frag) (C:Addr) (m:Str) (f:Addr):Prop where
 at_:PySem.W.findIn K (.ref C) m=some (some (.ref f))
 fn:PySem.W.isFn K (.ref f)=true
 kp:PySem.W.keepIn K (.ref f)=true
section
variable {X:Cx} {pins:List (Addr × Obj)} {σ:St} {H:Hp} {s:Shared} {a C dx:Addr} {fs:List (Str × V)} {f:Str} {v:V} {A:Around} {E:Value->Shared->Prop}
theorem MT {b:Bool} {Q:Value->Shared->Prop} (I:Inv X pins σ H s) (e:H a=some (.ins C dx fs)) (c:PB X.K C) (n:CV X.K C f) (l:fs.lookup f=some v)
  (h:∀ u s',Inv X pins σ H s'->RelV v u->Q u s'):wpAny (model X.prog X.w) A (getAttr (.ref a) f b) Q E s:=by
 obtain ⟨mA,O,r,_,_,_⟩:=H_ I.hok e
 obtain ⟨u,hu,ru⟩:=Es.some_of (v:=v) (o:=mA f) (by rw [← l]; exact r f)
 exact Sq I.HN O (c.get f) c.hd n hu (Ol ru) (h u _ (I.tok _) ru)
theorem Iw {m:Str} {g:Addr} {pl:Sem Bool} {Q:Value × List Value->Shared->Prop} (I:Inv X pins σ H s) (e:H a=some (.ins C dx fs)) (c:PB X.K C) (k:Meth X.K C m g) (l:fs.lookup m=none)
  (h:Q (.ref g,[.ref a]) s):wpAny (model X.prog X.w) A (getMethod (.ref a) m pl) Q E s:=by
 obtain ⟨mA,O,r,_,_,_⟩:=H_ I.hok e
 have hn:mA m=none:=Es.none_of (by rw [← l]; exact r m)
 exact Q4 I.HN O (c.get m) k.at_ k.fn hn h
theorem Lx {y:V} {u:Value} {Q:Unit->Shared->Prop} (I:Inv X pins σ H s) (e:H a=some (.ins C dx fs)) (c:PB X.K C) (n:CV X.K C f) (hl:fs.length<1000) (ry:RelV y u)
  (h:∀ s',Inv X pins σ (upd H a (.ins C dx (BZ f y fs))) s'->Q () s'):wpAny (model X.prog X.w) A (setAttr (.ref a) f u) Q E s:=by
 obtain ⟨mA,O,r,wi,_,ho⟩:=H_ I.hok e
 have hz:(fs.map (·.1)).length<=sizeLine:=by rw [List.length_map,sizeLine_eq]; omega
 refine Ss I.HN O c.sa c.po n.taker c.hd wi hz fun h' O' sb=>h _ ?_
 have hd:∃ o,h'.get? dx=some o:=let ⟨o,_,_,e',_⟩:=O'.ns; ⟨o,e'⟩
 refine I.write (x:=a) (e:=dx) (by rw [e]; exact True.intro) (.inr ho) (fun b q hb z=>(sb.2 b hb).trans z) hd ?_
 refine ⟨by rw [Av O.ne]; exact ho,?_,O.ne,O'.obj,_,O'.ns,fun g=>?_,fun g hg=>?_⟩
 ·have:=Hm f y fs; omega
 ·show Es ((BZ f y fs).lookup g) (if g=f then some u else mA g)
  rw [Ak]
  by_cases q:g=f
  ·rw [if_pos q,if_pos q]; exact ry
  ·rw [if_neg q,if_neg q]; exact r g
 ·by_cases q:g=f
  ·rw [q]; exact (Hi f y fs).1
  ·refine (Hi f y fs).2 g (wi g fun z=>hg ?_)
   show (if g=f then some u else mA g)=none
   rw [if_neg q]; exact z
theorem Inv.made (I:Inv X pins σ H s):Inv X pins σ (upd (upd H s.heap.objs.size (.own (s.heap.objs.size+1))) (s.heap.objs.size+1) (.ins C s.heap.objs.size []))
  { s with heap:=(s.heap.push PySem.W.emptyDict).push (PySem.W.instObj C s.heap.objs.size) }:=by
 have e1:(s.heap.push PySem.W.emptyDict).get? s.heap.objs.size=some PySem.W.emptyDict:=Heap.get?_push_size s.heap rfl
 have e2:((s.heap.push PySem.W.emptyDict).push (PySem.W.instObj C s.heap.objs.size)).get? (s.heap.objs.size+1)=some (PySem.W.instObj C s.heap.objs.size):=by
  have:=Heap.get?_push_size (s.heap.push PySem.W.emptyDict) (o:=PySem.W.instObj C s.heap.objs.size) rfl
  rwa [Heap.size_push] at this
 have e3:(s.heap.push PySem.W.emptyDict).Ns s.heap.objs.size (fun _=>none):=⟨PySem.W.emptyDict,#[],_,e1,rfl,(fun e he=>absurd he (by simp)),fun _=>rfl⟩
 have I1:=I.laid (a:=s.heap.objs.size) (o:=.own (s.heap.objs.size+1)) (h':=s.heap.push PySem.W.emptyDict) (t':=s.toks) (fun b u q=>Heap.get?_push_of_some _ q) (Nat.le_refl _) ⟨_,e1⟩
 refine I1.laid (a:=s.heap.objs.size+1) (o:=.ins C s.heap.objs.size []) (t':=s.toks) (fun b u q=>Heap.get?_push_of_some _ q) (Nat.le_of_eq (Heap.size_push _ _)) ?_
 have ne:s.heap.objs.size ≠ s.heap.objs.size+1:=Nat.ne_of_lt (Nat.lt_succ_self _)
 refine ⟨by rw [Av ne,Ah],Nat.zero_le _,ne,e2,fun _=>none,(Heap.Ns1.of_empty e3).at fun o q=>Heap.get?_push_of_some _ q,fun _=>True.intro,fun y hy=>absurd rfl hy⟩
theorem Sy {prog:Program} {w:World} {env:Env} {e:Expr} {f:Str} {pos:Pos} {s:Shared} {Q:Value->Shared->Prop} (hb:attributeBase e f env (eval e env)=eval e env)
  (h:wpAny (model prog w) A (eval e env) (fun o s₁=>wpAny (model prog w) A (getAttr o f true) Q E s₁) E s):wpAny (model prog w) A (eval (.Attribute e f pos) env) Q E s :=
 Attribute_any_ h (by rw [arm_eval_Attribute,hb])
end
noncomputable def eN (K:PySem.W.Frag) (ta:TE) (f:Str):TE:=fun σ H Q=>ta σ H fun x H1=>∃ a C dx fs v,x=.ref a/\H1 a=some (.ins C dx fs)/\PB K C/\CV K C f/\fs.lookup f=some v/\Q v H1
noncomputable def d7 (K:PySem.W.Frag) (ta tv:TE) (f:Str):TS:=fun D σ H=>tv σ H fun y H1=>ta σ H1 fun x H2=>∃ a C dx fs,x=.ref a/\H2 a=some (.ins C dx fs)/\PB K C/\CV K C f/\fs.length<1000 /\
 D.nx σ (upd H2 a (.ins C dx (BZ f y fs)))
section
variable {X:Cx} {o e value:Expr} {f:Str} {pos pos' tpos:Pos} {ta tv:TE}
theorem Bw (he:PE X e ta) (hb:attributeBase e f X.env (eval e X.env)=eval e X.env):PE X (.Attribute e f pos) (eN X.K ta f):=by
 intro pins s σ H Q I h
 refine Sy hb (Bo (he pins s σ H _ I h) fun u s1 hq0=>?_)
 obtain ⟨x,H1,I1,rx,a,C,dx,fs,v,ex,ea,c,n,l,q⟩:=hq0
 subst ex
 obtain rfl:u=Value.ref a:=rx
 exact MT I1 ea c n l fun u' s2 I2 ru=>⟨v,H1,I2,ru,q⟩
theorem Dr (ha:PE X o ta) (hv:PE X value tv) (hs:swapsWith value (some (.Attribute o f pos')) pos.line X.env=pure false):PS X (.Assign [.Attribute o f pos'] value pos) (d7 X.K ta tv f):=by
 intro pins s σ H D I h
 refine plainObj_wpAny_Assign_Attribute (Bo (hv pins s σ H _ I h) fun u s1 ⟨y,H1,I1,ry,q⟩=>Bo (ha pins s1 σ H1 _ I1 q) fun ov s2 ⟨x,H2,I2,rx,a,C,dx,fs,ex,ea,c,n,l,q2⟩=>?_) hs
 subst ex
 obtain rfl:ov=Value.ref a:=rx
 exact Lx I2 ea c n l ry fun s3 I3=>⟨σ,_,I3,q2⟩
end
section
variable {X:Cx} {pins:List (Addr × Obj)} {σ:St} {H:Hp} {s:Shared} {A:Around} {E:Value->Shared->Prop} {Q:Value->Shared->Prop} {c:Value} {b:Bool}
inductive HS (K:PySem.W.Frag) (H:Hp):V->Value->Prop where
 | non:HS K H .non (.type "NoneType")
 | bl (x:Bool):HS K H (.bl x) (.type "bool")
 | int (i:Int):HS K H (.int i) (.type "int")
 | str (x:Str):HS K H (.str x) (.type "str")
 | flt (x:UInt64):HS K H (.flt x) (.type "float")
 | lst {a:Addr} {xs:List V} (e:H a=some (.lst xs)):HS K H (.ref a) (.type "list")
 | frz {a:Addr} {o:Obj} {xs:List V} (e:H a=some (.frz o (.lst xs))):HS K H (.ref a) (.type "list")
 | tup {a:Addr} {xs:List V} (e:H a=some (.tup xs)):HS K H (.ref a) (.type "tuple")
 | dK {a:Addr} {kvs:List (Key × V)} (e:H a=some (.dK kvs)):HS K H (.ref a) (.type "dict")
 | dT {a:Addr} {kvs:List (List Key × V)} (e:H a=some (.dT kvs)):HS K H (.ref a) (.type "dict")
 | ins {a C dx:Addr} {fs:List (Str × V)} (e:H a=some (.ins C dx fs)) (cl:PB K C) (ha:PySem.W.findIn K (.ref C) "__class__" = some (some (.builtin "object.__class__")))
   (hn:PySem.W.specialIn K (.builtin "object.__class__") "__get__" = some (some (.builtin "getset_descriptor.__get__"))) (htk:PySem.W.takesIn K (.builtin "object.__class__")=some true)
   (hm:PySem.W.mroIn K C (.type "object")=some true):HS K H (.ref a) (.ref C)
theorem Nv {x:V} {u t:Value} (I:Inv X pins σ H s) (rx:RelV x u) (ty:HS X.K H x t) (e:PySem.W.kitOne X.K t c=some b) (h:∀ tk,Q (.bool b) { s with toks:=tk }) :
  wpAny (model X.prog X.w) A (call (.builtin "isinstance") [u,c]) Q E s:=by
 cases ty with
 | non=>cases (show u=Value.none from rx); exact PySem.W.kia_one PySem.W.kitx_none I.HN True.intro e (fun z=>nomatch z) h
 | bl y=>cases (show u=Value.bool y from rx); exact PySem.W.kia_one PySem.W.kitx_bool I.HN True.intro e (fun z=>nomatch z) h
 | int i=>obtain ⟨t,q⟩:=(show ∃ t,u=Value.int i t from rx); cases q; exact PySem.W.kia_one PySem.W.kitx_int I.HN True.intro e (fun z=>nomatch z) h
 | str y=>obtain ⟨t,q⟩:=(show ∃ t,u=Value.str y t from rx); cases q; exact PySem.W.kia_one PySem.W.kitx_str I.HN True.intro e (fun z=>nomatch z) h
 | flt y=>obtain ⟨t,q⟩:=(show ∃ t,u=Value.float y t from rx); cases q; exact PySem.W.kia_one PySem.W.kitx_float I.HN True.intro e (fun z=>nomatch z) h
 | @lst a xs ea =>
  cases (show u=Value.ref a from rx)
  obtain ⟨_,_,n,_,h1⟩:=(show Bt X.prog X.w H s.heap a (.lst xs) from I.hok a _ ea)
  exact PySem.W.kia_one PySem.W.kitx_list I.HN ⟨_,h1,rfl⟩ e (fun z=>nomatch z) h
 | @frz a ob xs ea =>
  cases (show u=Value.ref a from rx)
  obtain ⟨_,_,_,n,_,h1⟩:=(show Bt X.prog X.w H s.heap a (.frz ob (.lst xs)) from I.hok a _ ea)
  exact PySem.W.kia_one PySem.W.kitx_list I.HN ⟨_,h1,rfl⟩ e (fun z=>nomatch z) h
 | @tup a xs ea =>
  cases (show u=Value.ref a from rx)
  obtain ⟨_,_,_,p⟩:=(show Bt X.prog X.w H s.heap a (.tup xs) from I.hok a _ ea)
  obtain ⟨o,h1,h2,_⟩:=p
  exact PySem.W.kia_one PySem.W.kitx_tuple I.HN ⟨o,h1,h2⟩ e (fun z=>nomatch z) h
 | @dK a kvs ea =>
  cases (show u=Value.ref a from rx)
  obtain ⟨_,_,vs,_,p⟩:=(show Bt X.prog X.w H s.heap a (.dK kvs) from I.hok a _ ea)
  obtain ⟨o,es,ep,h1,h2,_⟩:=p
  exact PySem.W.kia_one PySem.W.kitx_dict I.HN ⟨o,h1,h2.1⟩ e (fun z=>nomatch z) h
 | @dT a kvs ea =>
  cases (show u=Value.ref a from rx)
  obtain ⟨_,_,xs,_,o,es,ep,h1,h2,_⟩:=(show Bt X.prog X.w H s.heap a (.dT kvs) from I.hok a _ ea)
  exact PySem.W.kia_one PySem.W.kitx_dict I.HN ⟨o,h1,h2.1⟩ e (fun z=>nomatch z) h
 | @ins a C dx fs ea cl ha hn htk hm =>
  cases (show u=Value.ref a from rx)
  obtain ⟨mA,O,_⟩:=H_ I.hok ea
  obtain ⟨od,J,_⟩:=O.look
  exact PySem.W.kia_one (PySem.W.kitx_own (cl.get _) cl.hd ha hn htk hm) I.HN J e (fun z=>nomatch z) h
end
end L2
namespace L2
open PySem PySem.Spec PyProof.Rows
structure BL (k:Nat) (A:Around):Prop where
 hd:A.handled=none
 dp:A.depth+3 * k+5<recursionLimit
 un:A.units+16 * k+200<cLine
theorem BL.mono {j k:Nat} {A:Around} (r:BL k A) (h:j<=k):BL j A:=⟨r.hd,by have:=r.dp; omega,by have:=r.un; omega⟩
theorem BL.deeper {k:Nat} {A:Around} (r:BL (k+1) A) (env:Env):BL k (A.deeper env) :=
 ⟨r.hd,by have:=r.dp; show A.depth+1+3 * k+5<_; omega,by have:=r.un; show A.units+3+16 * k+200<_; omega⟩
theorem Le {A:Around} {C:Addr} {us:List Value} {kw:List (Str × Value)}:(A.under (.builtin "type.__call__" ⟨.ref C::us,kw⟩)).depth=A.depth+1:=by
 first | rfl | simp [Around.under,Code.weight,Code.isCreation,Code.isGuard,Code.isCaller,Code.frames,Code.isFrame,guardIds]
theorem Ly {A:Around} {C:Addr} {us:List Value} {kw:List (Str × Value)}:(A.under (.builtin "type.__call__" ⟨.ref C::us,kw⟩)).units=A.units+1:=by
 first | rfl | simp [Around.under,Code.cUnits,Code.frames,Code.isFrame]
theorem BL.make {k:Nat} {A:Around} (r:BL (k+1) A) (C:Addr) (us:List Value) (kw:List (Str × Value)):BL k (A.under (.builtin "type.__call__" ⟨.ref C::us,kw⟩)) :=
 ⟨r.hd,by have:=r.dp; rw [Le]; omega,by have:=r.un; rw [Ly]; omega⟩
theorem BL.depth {k:Nat} {A:Around} (r:BL k A):A.depth<recursionLimit:=by have:=r.dp; omega
theorem BL.units {k:Nat} {A:Around} (r:BL k A):A.units+64<cLine:=by have:=r.un; omega
noncomputable def Wk:TA:=fun _ H Q=>Q [] H
noncomputable def Yg (ta:TE) (tr:TA):TA:=fun σ H Q=>ta σ H fun x H1=>tr σ H1 fun xs H2=>Q (x::xs) H2
section
variable {X:Cx} {e:Expr} {es:List Expr} {te:TE} {t:TA} {pos:Pos}
theorem Ab:PA X [] Wk:=fun _ _ _ _ H Q I h=>Calls.spliced_nil ⟨[],H,I,.nil,h⟩
theorem Aa (ha:PE X e te) (hr:PA X es t) (hs:starEach (e::es) X.env=(false,eval e X.env)::starEach es X.env:=by rfl):PA X (e::es) (Yg te t):=by
 intro pos pins s σ H Q I h
 rw [hs]
 show wpAny _ _ (spliced ((false,eval e X.env)::backTo pos (starEach es X.env))) _ _ s
 refine Calls.spliced_cons (Bo (ha pins s σ H _ I h) fun u s1 hq0=>?_)
 obtain ⟨x,H1,I1,r1,q1⟩:=hq0
 exact Bo (hr pos pins s1 σ H1 _ I1 q1) fun us s2 ⟨xs,H2,I2,r2,q2⟩=>⟨x::xs,H2,I2,.cons r1 r2,q2⟩
noncomputable def cM (t:TA):TE:=fun σ H Q=>t σ H fun xs H1=>xs.length<=sizeLine/\∀ p,H1 p=none->Q (.ref p) (upd H1 p (.tup xs))
noncomputable def c7 (t:TA):TE:=fun σ H Q=>t σ H fun xs H1=>xs.length<=sizeLine/\∀ p,H1 p=none->Q (.ref p) (upd H1 p (.lst xs))
theorem CT {x1} (h:PA X es t):PE X (.Tuple es x1 pos) (cM t):=by
 intro pins s σ H Q I hq
 refine wpAny_Tuple_spliced (Bo (h pos pins s σ H _ I hq) fun us s1 ⟨xs,H1,I1,r,z,q⟩=>⟨by rw [← r.length]; exact z,?_⟩)
 have hf:H1 s1.heap.objs.size=none:=I1.hok.fresh (Nat.le_refl _)
 refine ⟨.ref s1.heap.objs.size,upd H1 s1.heap.objs.size (.tup xs),I1.laid (t':=s1.toks) (fun b u e=>Heap.get?_push_of_some _ e) (Nat.le_refl _) ?_,rfl,q _ hf⟩
 exact ⟨z,us,r,⟨_,Heap.get?_push_size _ rfl,rfl,_,rfl⟩⟩
theorem EY (h:PA X es t):PE X (.List es pos) (c7 t):=by
 intro pins s σ H Q I hq
 refine wpAny_List_spliced (Bo (h pos pins s σ H _ I hq) fun us s1 ⟨xs,H1,I1,r,z,q⟩=>⟨by rw [← r.length]; exact z,?_⟩)
 have hf:H1 s1.heap.objs.size=none:=I1.hok.fresh (Nat.le_refl _)
 refine ⟨.ref s1.heap.objs.size,upd H1 s1.heap.objs.size (.lst xs),I1.laid (t':=s1.toks) (fun b u e=>Heap.get?_push_of_some _ e) (Nat.le_refl _) ?_,rfl,q _ hf⟩
 exact ⟨z,us,0,r,Heap.get?_push_size _ rfl⟩
end
noncomputable abbrev Sp:=List V->Hp->VK->XK->Prop
noncomputable abbrev Oc:=List Env->Hp->Shared->XK->Value->Shared->Prop
structure Kq (P:Program) (w:World) (K:PySem.W.Frag) (mg:Str->Option Value) (base:Heap) (A:Around) (outer:List Env) (s:Shared) (H:Hp):Prop where
 frames:A.frames=some outer
 mod:Mod K mg base
 bs:∀ b o,base.get? b=some o->s.heap.get? b=some o/\H b=none
 bsz:base.objs.size<=s.heap.objs.size
 Ht:s.heap.FunFrames base outer
 frf:∀ b∈frs outer,H b=none
 hok:Gw P w H s.heap
 bare:AllBare s.gens
noncomputable def CE (outer:List Env) (P:Program) (w:World) (H:Hp) (s:Shared) (Q:VK) (u:Value) (s':Shared):Prop :=
 ∃ v H',s'.os=s.os/\AllBare s'.gens/\Un (frs outer) [] H H' s.heap s'.heap/\Gw P w H' s'.heap/\RelV v u/\Q v H'
noncomputable def CR (CX:Oc) (outer:List Env) (P:Program) (w:World) (H:Hp) (s:Shared) (Q:VK) (E:XK) (r:Result) (s':Shared):Prop :=
 match r with
 | .ok (.ret u)=>CE outer P w H s Q u s'
 | .ok _=>False
 | .error e=>CX outer H s E e s'
structure Aw (P:Program) (w:World) (K:PySem.W.Frag) (mg:Str->Option Value) (base:Heap) (CX:Oc) (k:Nat) (f:Addr) (fd:FuncData) (ps:List Str) (sp:Sp):Prop where
 len:∀ vs H Q E,sp vs H Q E->vs.length=ps.length
 run:∀ (A:Around) (outer:List Env) (s:Shared) (H:Hp) (args:Args) (us:List Value) (vs:List V) (Q:VK) (E:XK),BL k A->Kq P w K mg base A outer s H->BindsTo s fd args (ps.zip us)->Vals vs us->sp vs H Q E ->
  codeAny (model P w) A (.call (.ref f) args) (CR CX outer P w H s Q E) s
theorem Kq.make {P:Program} {w:World} {K:PySem.W.Frag} {mg:Str->Option Value} {base:Heap} {A:Around} {outer:List Env} {s:Shared} {H:Hp} (e:Kq P w K mg base A outer s H) (C:Addr) (us:List Value) (kw:List (Str × Value)) :
  Kq P w K mg base (A.under (.builtin "type.__call__" ⟨.ref C::us,kw⟩)) outer s H:=⟨by first | exact e.frames | (simpa [Around.under,Code.envs,Code.isFrame,pushEnvs] using e.frames),e.mod,e.bs,e.bsz,e.Ht,e.frf,e.hok,e.bare⟩
section
variable {X:Cx} {pins:List (Addr × Obj)} {σ:St} {H:Hp} {s s':Shared}
theorem Inv.env0 (I:Inv X pins σ H s):Kq X.prog X.w X.K X.mg X.base X.A X.stack s H :=
 ⟨I.ok.frames,I.ok.mod,I.bs,Nat.le_trans I.ok.bsz I.sz,I.stack,I.Jp,I.hok,I.bare⟩
theorem Inv.after {Q:VK} {u:Value} (I:Inv X pins σ H s) (h:CE X.stack X.prog X.w H s Q u s'):EP X pins σ Q u s':=by
 obtain ⟨v,H',os,bare,un,hok,r,q⟩:=h
 obtain ⟨hh,g,d,t,os'⟩:=s'
 obtain rfl:os'=s.os:=os
 exact ⟨v,H',I.call (h':=hh) (g':=g) (d':=d) (t':=t) (ch:=[]) un hok bare (fun b z=>absurd z (by simp)),r,q⟩
end
noncomputable def Yv (sp:Sp) (dvs:List V) (E:XK) (t:TA):TE:=fun σ H Q=>t σ H fun vs H1=>sp (vs++dvs) H1 Q E
noncomputable def Tr (C:Addr) (m:Str) (sp:Sp) (dvs:List V) (E:XK) (ta:TE) (t:TA):TE:=fun σ H Q=>ta σ H fun x H1=>∃ a dx fs,x=.ref a/\H1 a=some (.ins C dx fs)/\fs.lookup m=none /\
 t σ H1 fun vs H2=>sp (x::(vs++dvs)) H2 Q E
noncomputable def Xh (C:Addr) (sp:Sp) (dvs:List V) (E:XK) (t:TA):TE:=fun σ H Q=>t σ H fun vs H1=>∀ x dx,H1 x=none->H1 dx=none->dx ≠ x ->
 sp (.ref x::(vs++dvs)) (upd (upd H1 dx (.own x)) x (.ins C dx [])) (fun v H2=>v=.non/\Q (.ref x) H2) E
noncomputable def Binds (K:PySem.W.Frag) (fd:FuncData) (ps:List Str) (ds:List Value):Prop :=
 ∀ (s:Shared) (us:List Value),K.In s.heap->(us++ds).length=ps.length->BindsTo s fd ⟨us,[]⟩ (ps.zip (us++ds))
theorem Binds.all {K:PySem.W.Frag} {fd:FuncData} {ps:List Str} (h:∀ us:List Value,us.length=ps.length->bindArgs fd ⟨us,[]⟩=pure (ps.zip us)):Binds K fd ps []:=fun s us _ hl=>by
 rw [List.append_nil] at hl ⊢
 exact .of_eq (h us hl)
noncomputable def Gn (CX:Oc) (X:Cx) (E:XK):Prop:=∀ (pins:List (Addr × Obj)) (σ:St) (H:Hp) (s:Shared) (e:Value) (s':Shared),Inv X pins σ H s->CX X.stack H s E e s'->X.xe e s'
section
variable {X:Cx} {CX:Oc} {k:Nat} {f C:Addr} {fd:FuncData} {ps:List Str} {sp:Sp} {dvs:List V} {ds:List Value} {E:XK} {x m:Str} {p pos apos:Pos} {e o:Expr} {es:List Expr} {ta:TE} {t:TA}
theorem Lp {pins:List (Addr × Obj)} {σ:St} {H:Hp} {s:Shared} {Q:VK} {us:List Value} {vs:List V} (F:Aw X.prog X.w X.K X.mg X.base CX k f fd ps sp) (hr:BL k X.A) (hb:Binds X.K fd ps ds) (hd:Vals dvs ds) (hx:Gn CX X E)
  (I:Inv X pins σ H s) (r:Vals vs us) (h:sp (vs++dvs) H Q E):wpAny (model X.prog X.w) X.A (call (.ref f) us) (EP X pins σ Q) X.xe s:=by
 have r2:Vals (vs++dvs) (us++ds):=r.append hd
 have hl:(us++ds).length=ps.length:=by rw [← r2.length]; exact F.len _ _ _ _ h
 refine wpAny_call (codeAny_mono (F.run X.A X.stack s H ⟨us,[]⟩ (us++ds) (vs++dvs) Q E hr I.env0 (hb s us I.HN hl) r2 h) fun r s' hq=>?_)
 cases r with
 | error e=>exact hx pins σ H s e s' I hq
 | ok fl =>
  cases fl with
  | ret u=>exact I.after hq
  | next=>exact False.elim hq
  | brk=>exact False.elim hq
  | cont=>exact False.elim hq
theorem Am (F:Aw X.prog X.w X.K X.mg X.base CX k f fd ps sp) (hr:BL k X.A) (hg:Gl X x) (hm:X.mg x=some (.ref f)) (hk:PySem.W.keepIn X.K (.ref f)=true) (hb:Binds X.K fd ps ds) (hd:Vals dvs ds) (hx:Gn CX X E)
  (ha:PA X (e::es) t) (hdb:(x == ("__debug__" : Str))=false:=by decide) (he:starEach (e::es) X.env=(false,eval e X.env)::starEach es X.env:=by rfl) (hpl:(backTo pos (starEach es X.env)).any (·.1)=false:=by rfl) :
  PE X (.Call (.Name x p) (e::es) [] pos) (Yv sp dvs E t):=by
 intro pins s σ H Q I h
 refine wpAny_Call_Name_kw (KC I hg hm ?_ hdb)
 refine PySem.W.callWith_K (h₀:=X.base) I.ok.mod.kin hk (Bo (ha pos pins s σ H _ I h) fun us s1 ⟨vs,H1,I1,r,q⟩=>⟨I1.HN,?_⟩) he hpl
 exact Lp F hr hb hd hx I1 r q
theorem Cv {pl:Sem Bool} (he:PE X o ta) (c:PB X.K C) (hm:Meth X.K C m f) (F:Aw X.prog X.w X.K X.mg X.base CX k f fd ps sp) (hr:BL k X.A) (hb:Binds X.K fd ps ds) (hd:Vals dvs ds) (hx:Gn CX X E) (ha:PA X (e::es) t)
  (hst:starEach (e::es) X.env=(false,eval e X.env)::starEach es X.env:=by rfl) (hpl:(backTo pos (starEach es X.env)).any (·.1)=false:=by rfl)
  (ht:eval (.Call (.Attribute o m apos) (e::es) [] pos) X.env=(do
   let ov ← eval o X.env
   standAt apos.atName
   let (f,first) ← holding [ov] (getMethod ov m pl)
   callWith pos f first (backTo pos (starEach (e::es) X.env)) (backToKw pos (keywordEach [] X.env))):=by rfl) :
  PE X (.Call (.Attribute o m apos) (e::es) [] pos) (Tr C m sp dvs E ta t):=by
 intro pins s σ H Q I h
 refine PySem.W.methodCall_KW (pl:=pl) (Bo (he pins s σ H _ I h) fun u s1 ⟨x,H1,I1,rx,a,dx,fs,ex,ea,l,q⟩=>?_) ht
 subst ex
 obtain rfl:u=Value.ref a:=rx
 refine Iw I1 ea c hm l ?_
 refine PySem.W.callWith_K (first:=[.ref a]) (h₀:=X.base) I.ok.mod.kin hm.kp (Bo (ha pos pins s1 σ H1 _ I1 q) fun us s2 ⟨vs,H2,I2,r,q2⟩=>⟨I2.HN,?_⟩) hst hpl
 exact Lp (us:=.ref a::us) (vs:=.ref a::vs) F hr hb hd hx I2 (.cons rfl r) q2
theorem Dy {pl:Sem Bool} (he:PE X o ta) (c:PB X.K C) (hm:Meth X.K C m f) (F:Aw X.prog X.w X.K X.mg X.base CX k f fd ps sp) (hr:BL k X.A) (hb:Binds X.K fd ps ds) (hd:Vals dvs ds) (hx:Gn CX X E)
  (ht:eval (.Call (.Attribute o m apos) [] [] pos) X.env=(do
   let ov ← eval o X.env
   standAt apos.atName
   let (f,first) ← holding [ov] (getMethod ov m pl)
   callWith pos f first (backTo pos (starEach [] X.env)) (backToKw pos (keywordEach [] X.env))):=by rfl) :
  PE X (.Call (.Attribute o m apos) [] [] pos) (Tr C m sp dvs E ta Wk):=by
 intro pins s σ H Q I h
 refine PySem.W.methodCall_KW (pl:=pl) (Bo (he pins s σ H _ I h) fun u s1 ⟨x,H1,I1,rx,a,dx,fs,ex,ea,l,q⟩=>?_) ht
 subst ex
 obtain rfl:u=Value.ref a:=rx
 refine Iw I1 ea c hm l ?_
 exact PySem.W.callWith_K0 (first:=[.ref a]) I1.HN hm.kp (Lp (us:=[.ref a]) (vs:=[.ref a]) F hr hb hd hx I1 (.cons rfl .nil) q)
structure Mk (K:PySem.W.Frag) (C f:Addr):Prop where
 makes:PySem.W.makesIn K C=true
 init:PySem.W.findIn K (.ref C) "__init__" = some (some (.ref f))
 fn:PySem.W.isFn K (.ref f)=true
 kp:PySem.W.keepIn K (.ref C)=true
theorem Qy {pins:List (Addr × Obj)} {σ:St} {H:Hp} {s:Shared} {Q:VK} {us:List Value} {vs:List V} (M:Mk X.K C f) (F:Aw X.prog X.w X.K X.mg X.base CX k f fd ps sp) (hr:BL (k+1) X.A) (hb:Binds X.K fd ps ds) (hd:Vals dvs ds)
  (hx:Gn CX X E) (I:Inv X pins σ H s) (r:Vals vs us)
  (h:∀ x dx,H x=none->H dx=none->dx ≠ x->sp (.ref x::(vs++dvs)) (upd (upd H dx (.own x)) x (.ins C dx [])) (fun v H2=>v=.non/\Q (.ref x) H2) E) :
  wpAny (model X.prog X.w) X.A (call (.ref C) us) (EP X pins σ Q) X.xe s:=by
 have hq:=h (s.heap.objs.size+1) s.heap.objs.size (I.hok.fresh (Nat.le_succ _)) (I.hok.fresh (Nat.le_refl _)) (Nat.ne_of_lt (Nat.lt_succ_self _))
 have I2:=Inv.made (C:=C) I
 have r2:Vals (V.ref (s.heap.objs.size+1)::(vs++dvs)) (Value.ref (s.heap.objs.size+1)::(us++ds)):=.cons rfl (r.append hd)
 have hl:(Value.ref (s.heap.objs.size+1)::us++ds).length=ps.length:=by
  have e:=r2.length
  rw [F.len _ _ _ _ hq] at e
  exact e.symm
 refine wpAny_call (Qw (f:=f) I.HN M.makes M.init (beq_iff_eq.mp M.fn) (codeAny_mono (F.run _ X.stack _ _ ⟨Value.ref (s.heap.objs.size+1)::us,[]⟩ (Value.ref (s.heap.objs.size+1)::(us++ds)) _ _ E (hr.make C us [])
  (I2.env0.make C us []) (hb _ (Value.ref (s.heap.objs.size+1)::us) I2.HN hl) r2 hq) fun r s' hq'=>?_))
 cases r with
 | error e=>exact hx pins σ _ _ e s' I2 hq'
 | ok fl =>
  cases fl with
  | ret u =>
   obtain ⟨v,H',I3,rv,ev,q3⟩:=I2.after hq'
   subst ev
   exact ⟨rv,⟨V.ref (s.heap.objs.size+1),H',I3,rfl,q3⟩⟩
  | next=>exact False.elim hq'
  | brk=>exact False.elim hq'
  | cont=>exact False.elim hq'
theorem Mq (M:Mk X.K C f) (F:Aw X.prog X.w X.K X.mg X.base CX k f fd ps sp) (hr:BL (k+1) X.A) (hg:Gl X x) (hm:X.mg x=some (.ref C)) (hb:Binds X.K fd ps ds) (hd:Vals dvs ds) (hx:Gn CX X E)
  (ha:PA X (e::es) t) (hdb:(x == ("__debug__" : Str))=false:=by decide) (he:starEach (e::es) X.env=(false,eval e X.env)::starEach es X.env:=by rfl) (hpl:(backTo pos (starEach es X.env)).any (·.1)=false:=by rfl) :
  PE X (.Call (.Name x p) (e::es) [] pos) (Xh C sp dvs E t):=by
 intro pins s σ H Q I h
 refine wpAny_Call_Name_kw (KC I hg hm ?_ hdb)
 refine PySem.W.callWith_K (h₀:=X.base) I.ok.mod.kin M.kp (Bo (ha pos pins s σ H _ I h) fun us s1 ⟨vs,H1,I1,r,q⟩=>⟨I1.HN,?_⟩) he hpl
 exact Qy M F hr hb hd hx I1 r q
end
section
variable {X:Cx} {CX:Oc} {k:Nat} {f C:Addr} {fd:FuncData} {ps ks:List Str} {sp:Sp} {E:XK} {x m:Str} {p pos apos kpos:Pos} {e o:Expr} {es:List Expr} {kws:List Keyword} {te ta:TE} {t tk:TA} {nm:Option Str}
variable {g:List Value->List Value->List Value} {gV:List V->List V->List V}
end
structure Ar (N P:List Str) (sc:Scope):Prop where
 kind:sc.kind=.function
 co:sc.isCoroutine=false
 gen:sc.isGenerator=false
 nd:N.Nodup
 pre:N.take P.length=P
 par:∀ x∈P,sc.names.lookup x=some .local \/ sc.names.lookup x=some .cell
 nofree:∀ y∈sc.names,y.2 ≠ .free
theorem Bl {N P:List Str} {sc:Scope} (a:sc.kind=.function:=by rfl) (b:sc.isCoroutine=false:=by rfl) (c:sc.isGenerator=false:=by rfl) (d:N.Nodup:=by decide +kernel) (e:N.take P.length=P:=by rfl) (f:∀ x∈P,sc.names.lookup x=some .local \/ sc.names.lookup x=some .cell:=by decide +kernel) (g:∀ y∈sc.names,y.2 ≠ .free:=by decide +kernel):Ar N P sc:=⟨a,b,c,d,e,f,g⟩
theorem Jc {kindOf:Str->Option NameKind} {x:Str}:∀ {binds:List (Str × Value)} {m:Str->Option Value},(∀ v,(x,v) ∉ binds)->bindL kindOf binds m x=m x
 | [],_,_=>rfl
 | (n,v)::r,m,h=>by
  unfold bindL
  rw [Jc fun w hw=>h w (List.mem_cons_of_mem _ hw)]
  split
  ·have:x ≠ n:=by rintro rfl; exact h v List.mem_cons_self
   simp [this]
  ·rfl
theorem Jd {kindOf:Str->Option NameKind} {x:Str}:∀ {binds:List (Str × Value)} {m:Str->Option Value},(∀ v,(x,v) ∉ binds)->bindC kindOf binds m x=m x
 | [],_,_=>rfl
 | (n,v)::r,m,h=>by
  unfold bindC
  rw [Jd fun w hw=>h w (List.mem_cons_of_mem _ hw)]
  split
  ·rfl
  ·have:x ≠ n:=by rintro rfl; exact h v List.mem_cons_self
   simp [this]
theorem JW {kindOf:Str->Option NameKind} {x:Str} {v:Value}:∀ {P:List Str} {vs:List Value} {i:Nat} {m:Str->Option Value},P.Nodup->P[i]? = some x->vs[i]? = some v->kindOf x=some .local ->
  bindL kindOf (P.zip vs) m x=some v
 | [],_,_,_,_,h,_,_=>by simp at h
 | _::_,[],_,_,_,_,h,_=>by simp at h
 | p::P,w::vs,0,m,nd,h1,h2,hk=>by
  simp at h1 h2; subst h1; subst h2
  show bindL kindOf ((p,w)::P.zip vs) m p=_
  unfold bindL
  rw [Jc fun v hv=>(List.nodup_cons.mp nd).1 (List.of_mem_zip hv).1,if_pos hk]
  simp
 | p::P,w::vs,i+1,m,nd,h1,h2,hk=>by
  show bindL kindOf ((p,w)::P.zip vs) m x=_
  unfold bindL
  exact JW (i:=i) (List.nodup_cons.mp nd).2 (by simpa using h1) (by simpa using h2) hk
theorem Jg {kindOf:Str->Option NameKind} {x:Str} {v:Value}:∀ {P:List Str} {vs:List Value} {i:Nat} {m:Str->Option Value},P.Nodup->P[i]? = some x->vs[i]? = some v->kindOf x ≠ some .local ->
  bindC kindOf (P.zip vs) m x=some v
 | [],_,_,_,_,h,_,_=>by simp at h
 | _::_,[],_,_,_,_,h,_=>by simp at h
 | p::P,w::vs,0,m,nd,h1,h2,hk=>by
  simp at h1 h2; subst h1; subst h2
  show bindC kindOf ((p,w)::P.zip vs) m p=_
  unfold bindC
  rw [Jd fun v hv=>(List.nodup_cons.mp nd).1 (List.of_mem_zip hv).1,if_neg hk]
  simp
 | p::P,w::vs,i+1,m,nd,h1,h2,hk=>by
  show bindC kindOf ((p,w)::P.zip vs) m x=_
  unfold bindC
  exact Jg (i:=i) (List.nodup_cons.mp nd).2 (by simpa using h1) (by simpa using h2) hk
noncomputable def start (N:List Str) (vs:List V):St:=vs.map some++List.replicate (N.length - vs.length) none
noncomputable def Ox (CX:Oc) (P:Program) (w:World) (K:PySem.W.Frag) (mg:Str->Option Value) (base:Heap) (N:List Str) (qual:Str) (scope:Scope) (f:Addr) (cd:Value) (A:Around) (outer:List Env) (s:Shared) (H:Hp) (E:XK):Cx where
 prog:=P
 w:=w
 K:=K
 mg:=mg
 base:=base
 A:=A.deeper (envOfC qual scope s.heap.objs.size f cd)
 N:=N
 s₀:=s
 H₀:=H
 env:=envOfC qual scope s.heap.objs.size f cd
 outer:=outer
 stack:=envOfC qual scope s.heap.objs.size f cd::outer
 ex:=[]
 calm:=true
 fn:=fun _=>true
 pn:=[]
 xe:=fun e s'=>wpAny (model P w) (A.deeper (envOfC qual scope s.heap.objs.size f cd)) (leaving (envOfC qual scope s.heap.objs.size f cd) e) (fun _ s''=>CX outer H s E e s'') (fun e' s''=>CX outer H s E e' s'') s'
theorem Kp {sc:Scope} {n:Nat} {x:Str} (h:sc.names.lookup x=some .cell):∃ c,(cellsFrom n sc.names []).lookup x=some c:=by
 have q:=PySem.W.cellsFrom_some sc.names n [] (.inl h)
 exact Option.isSome_iff_exists.mp q
theorem N5 {CX:Oc} {P:Program} {w:World} {K:PySem.W.Frag} {mg:Str->Option Value} {base:Heap} {N ps:List Str} {qual:Str} {scope:Scope} {f:Addr} {cd:Value} {A:Around} {outer:List Env} {s s1:Shared} {H:Hp} {E:XK} {us:List Value} {vs:List V}
  (S:Ar N ps scope) (hd:A.handled=none) (e0:Kq P w K mg base A outer s H) (hl:vs.length=ps.length) (r:Vals vs us)
  (x:InCallC s s.heap.objs.size (bindL (envOfC qual scope s.heap.objs.size f cd).kindOf (ps.zip us) fun _=>none) (cellsFrom (s.heap.objs.size+1) scope.names []) (bindC (envOfC qual scope s.heap.objs.size f cd).kindOf (ps.zip us) fun _=>none) s1) :
  Inv (Ox CX P w K mg base N qual scope f cd A outer s H E) [] (start N vs) H s1:=by
 have hpl:ps.length<=N.length:=by have:=congrArg List.length S.pre; rw [List.length_take] at this; omega
 obtain ⟨h1,tk,rfl,hk⟩:=x.done
 have noA:∀ b:Addr,b ∉ (Ox CX P w K mg base N qual scope f cd A outer s H E).ex:=fun b z=>absurd (show b∈([]:List Addr) from z) (by simp)
 refine ⟨⟨e0.mod,S.kind,rfl,rfl,Nat.le_refl _,fun y z c h1 h2=>?_,fun y hy=>?_,fun y c _ h=>?_,fun _=>hd,Around.frames_deeper e0.frames,.inr ⟨rfl,rfl⟩,fun b z=>absurd z (noA b),e0.bs,e0.bsz,fun b _ _=>noA b,fun b z=>absurd z (noA b),e0.Ht,e0.frf⟩,
  rfl,e0.bare,Un.kept hk,⟨_,x.toInCall.ns,fun i y v h1 h2 h3=>?_⟩,fun y c h=>⟨_,x.cell y c h⟩,e0.hok.fresh (Nat.le_refl _),fun y c h=>?_,fun p hp=>absurd (show p∈([]:List (Addr × Obj)) from hp) (by simp),e0.hok.kept hk,?_⟩
 ·exact name_of_addr x.apart (PySem.mem_of_lookup h1) (PySem.mem_of_lookup h2)
 ·have hy:scope.names.lookup y=some .cell \/ scope.names.lookup y=some .free:=hy
  rcases hy with hy | hy
  ·exact Kp hy
  ·exact absurd rfl (S.nofree _ (PySem.mem_of_lookup hy))
 ·exact Nat.le_of_lt (x.above y c (PySem.mem_of_lookup h))
 ·have hi:i<vs.length:=by
   unfold start at h2
   by_cases hi:i<vs.length
   ·exact hi
   ·rw [List.getElem?_append_right (by simpa using hi)] at h2
    rw [List.getElem?_replicate] at h2
    split at h2 <;> cases h2
  have ha:vs[i]? = some v:=by
   unfold start at h2
   rw [List.getElem?_append_left (by simpa using hi),List.getElem?_map] at h2
   cases e:vs[i]? with
   | none=>rw [e] at h2; cases h2
   | some a=>rw [e] at h2; cases h2; rfl
  obtain ⟨u,hu,rv⟩:=r.get ha
  have hp:ps[i]? = some y:=by
   rw [← S.pre,List.getElem?_take_of_lt (by omega)]; exact h1
  have ndP:ps.Nodup:=by rw [← S.pre]; exact S.nd.sublist (List.take_sublist _ _)
  refine ⟨u,rv,?_⟩
  rcases S.par y (List.mem_of_getElem? hp) with k | k
  ·exact .inl ⟨k,JW ndP hp hu k⟩
  ·obtain ⟨c,e⟩:=Kp (n:=s.heap.objs.size+1) k
   refine .inr ⟨.inl k,c,e,?_⟩
   have q:=x.cell y c e
   rw [Jg ndP hp hu (by show scope.names.lookup y ≠ _; rw [k]; decide)] at q
   exact q
 ·exact e0.hok.fresh (Nat.le_of_lt (x.above y c (PySem.mem_of_lookup h)))
 ·unfold start
  show _=N.length
  rw [List.length_append,List.length_map,List.length_replicate]
  omega
theorem Xj {CX:Oc} {P:Program} {w:World} {K:PySem.W.Frag} {mg:Str->Option Value} {base:Heap} {k:Nat} {f:Addr} {name qual:Str} {params:Arguments} {body:List Stmt} {scope:Scope} {dV kV doc pm cdv ct oc:Value} {an od:Option Addr}
  {osl:Array (Option Value)} {N ps:List Str} {sp:Sp} (lk:K.lookup f=some ⟨oc,od,.func (PySem.W.fnOf name qual params body scope dV kV doc pm an cdv ct),osl⟩) (hcd:PySem.W.codeIn K cdv qual=true) (S:Ar N ps scope)
  (len:∀ vs H Q E,sp vs H Q E->vs.length=ps.length)
  (hbody:∀ (A:Around) (outer:List Env) (s:Shared) (H:Hp) (vs:List V) (Q:VK) (E:XK),BL k (A.deeper (envOfC qual scope s.heap.objs.size f cdv))->sp vs H Q E ->
   ∃ t,Lh (Ox CX P w K mg base N qual scope f cdv A outer s H E) body t/\t { nx:=fun _ H'=>Q .non H',rt:=Q } (start N vs) H) :
  Aw P w K mg base CX (k+1) f (PySem.W.fnOf name qual params body scope dV kV doc pm an cdv ct) ps sp:=by
 refine ⟨len,fun A outer s H args us vs Q E hr e0 hb r hsp=>?_⟩
 have hl:=len _ _ _ _ hsp
 have KX:K.In s.heap:=e0.mod.kin.keeps fun b o e=>(e0.bs b o e).1
 have lim:s.heap.NoLimit:=e0.mod.nolimit.keeps fun b o e=>(e0.bs b o e).1
 have hkind:∀ y∈ps.zip us,scope.names.lookup y.1=some .local \/ (scope.names.lookup y.1=some .cell/\((cellsFrom (s.heap.objs.size+1) scope.names []).lookup y.1).isSome=true):=fun ⟨n,v⟩ hy=>by
  rcases S.par n (List.of_mem_zip hy).1 with q | q
  ·exact .inl q
  ·exact .inr ⟨q,PySem.W.cellsFrom_some _ _ _ (.inl q)⟩
 refine codeAny_call_function hr.depth (KX _ _ lk) rfl S.co S.gen rfl (PySem.W.codeRec_of KX hcd) (hb _ _ _ _ ?_)
 refine wpAny_newFunctionEnv_cells S.kind hkind fun env he s1 x=>?_
 subst he
 refine ⟨lim.keeps x.toInCall.keep,codeAny_func ?_⟩
 obtain ⟨t,ht,hq⟩:=hbody A outer s H vs Q E (hr.deeper _) hsp
 have I:Inv (Ox CX P w K mg base N qual scope f cdv A outer s H E) [] (start N vs) H s1:=N5 S hr.hd e0 hl r x
 refine wpAny_mono (ht [] s1 (start N vs) H _ I hq) (fun fl s' hs=>?_) fun e s' hs=>hs
 have fin:∀ {σ':St} {H':Hp} {v:V} {u:Value},Inv (Ox CX P w K mg base N qual scope f cdv A outer s H E) [] σ' H' s'->RelV v u->Q v H'->CE outer P w H s Q u s' :=
  fun {σ' H' v u} J rv q=>⟨v,H',J.os,J.bare,J.base,J.hok,rv,q⟩
 cases fl with
 | ret u =>
  obtain ⟨v,σ',H',J,rv,q⟩:=hs
  exact fin J rv q
 | next =>
  obtain ⟨σ',H',J,q⟩:=hs
  exact fin (v:=V.non) (u:=Value.none) J rfl q
 | brk =>
  obtain ⟨_,_,_,q⟩:=hs
  exact False.elim q
 | cont =>
  obtain ⟨_,_,_,q⟩:=hs
  exact False.elim q
end L2
namespace L2
open PySem PySem.Spec PyProof.Rows
section
variable {X:Cx} {x:Str} {p pos:Pos} {e:Expr} {es:List Expr} {t:TA} {id T:String} {r:List V->Hp->VK->Prop}
noncomputable def fB (r:List V->Hp->VK->Prop) (t:TA):TE:=fun σ H Q=>t σ H fun vs H1=>r vs H1 Q
theorem BR (hc:FJ X (.builtin id) r) (hg:Gl X x) (hm:X.mg x=none) (hv:bootBuiltins x=some (.builtin id)) (ha:PA X (e::es) t) (hn:x ≠ "__name__":=by decide) (hdb:(x == ("__debug__" : Str))=false:=by decide)
  (he:starEach (e::es) X.env=(false,eval e X.env)::starEach es X.env:=by rfl) (hpl:(backTo pos (starEach es X.env)).any (·.1)=false:=by rfl):PE X (.Call (.Name x p) (e::es) [] pos) (fB r t):=by
 intro pins s σ H Q I h
 refine wpAny_Call_Name_kw (Ez I hg hm hv ?_ hn hdb)
 exact PyProof.Rows.callWith_builtin1 (Bo (ha pos pins s σ H _ I h) fun us s1 ⟨vs,H1,I1,r1,q1⟩=>hc pins s1 σ H1 vs us Q I1 r1 q1) he hpl
theorem Dv (hc:FJ X (.type T) r) (hg:Gl X x) (hm:X.mg x=none) (hv:bootBuiltins x=some (.type T)) (ha:PA X (e::es) t) (hn:x ≠ "__name__":=by decide) (hdb:(x == ("__debug__" : Str))=false:=by decide)
  (he:starEach (e::es) X.env=(false,eval e X.env)::starEach es X.env:=by rfl) (hpl:(backTo pos (starEach es X.env)).any (·.1)=false:=by rfl):PE X (.Call (.Name x p) (e::es) [] pos) (fB r t):=by
 intro pins s σ H Q I h
 refine wpAny_Call_Name_kw (Ez I hg hm hv ?_ hn hdb)
 exact PyProof.Rows.callWith_type1 (Bo (ha pos pins s σ H _ I h) fun us s1 ⟨vs,H1,I1,r1,q1⟩=>hc pins s1 σ H1 vs us Q I1 r1 q1) he hpl
end
end L2
namespace L2
open PySem PySem.Spec PyProof.Rows
section
variable {κ:Type} [DecidableEq κ]
noncomputable def CZ (kvs:List (κ × V)) (k:κ):Option V:=(kvs.find? fun kv=>decide (kv.1=k)).map (·.2)
noncomputable def putK (kvs:List (κ × V)) (k:κ) (v:V):List (κ × V) :=
 if (kvs.any fun kv=>decide (kv.1=k))=true then kvs.map (fun kv=>if kv.1=k then (kv.1,v) else kv) else kvs++[(k,v)]
noncomputable def eV (kvs:List (κ × V)) (k:κ):List (κ × V):=kvs.filter fun kv=>decide (kv.1 ≠ k)
theorem CP {p:κ × V} {r:List (κ × V)} {k:κ} (e:p.1=k):CZ (p::r) k=some p.2:=by simp [CZ,List.find?_cons,e]
theorem Cm {p:κ × V} {r:List (κ × V)} {k:κ} (e:¬ p.1=k):CZ (p::r) k=CZ r k:=by simp [CZ,List.find?_cons,e]
theorem Fw (k:κ):∀ kvs:List (κ × V),(kvs.any fun kv=>decide (kv.1=k))=(CZ kvs k).isSome
 | []=>rfl
 | p::r=>by
  rw [List.any_cons]
  by_cases e:p.1=k
  ·simp only [CP e,decide_eq_true e,Bool.true_or,Option.isSome_some]
  ·rw [Cm e,decide_eq_false e,Bool.false_or]; exact Fw k r
theorem Kv (k j:κ) (y:V):∀ kvs:List (κ × V),CZ (kvs.map fun kv=>if kv.1=k then (kv.1,y) else kv) j=(CZ kvs j).map fun x=>if j=k then y else x
 | []=>rfl
 | p::r=>by
  have ih:=Kv k j y r
  rw [List.map_cons]
  by_cases h:p.1=k
  ·rw [if_pos h]
   by_cases e:p.1=j
   ·rw [CP (p:=(p.1,y)) e,CP e,Option.map_some,if_pos (e.symm.trans h)]
   ·rw [Cm (p:=(p.1,y)) e,Cm e,ih]
  ·rw [if_neg h]
   by_cases e:p.1=j
   ·rw [CP (p:=p) e,CP e,Option.map_some,if_neg (fun z=>h (e.trans z))]
   ·rw [Cm (p:=p) e,Cm e,ih]
theorem JT (k j:κ) (y:V):∀ kvs:List (κ × V),CZ kvs k=none->CZ (kvs++[(k,y)]) j=if j=k then some y else CZ kvs j
 | [],_=>by
  by_cases e:k=j
  ·rw [if_pos e.symm]; exact CP (p:=(k,y)) e
  ·rw [if_neg (fun z=>e z.symm)]; exact Cm (p:=(k,y)) e
 | p::r,hn=>by
  rw [List.cons_append]
  have hk:¬ p.1=k:=fun z=>by rw [CP z] at hn; cases hn
  rw [Cm hk] at hn
  have ih:=JT k j y r hn
  by_cases e:p.1=j
  ·rw [CP e,CP e,if_neg (fun z=>hk (e.trans z))]
  ·rw [Cm e,Cm e,ih]
theorem K4 (kvs:List (κ × V)) (k j:κ) (y:V):CZ (putK kvs k y) j=if j=k then some y else CZ kvs j:=by
 unfold putK
 by_cases a:(kvs.any fun kv=>decide (kv.1=k))=true
 ·rw [if_pos a,Kv]
  rw [Fw] at a
  by_cases e:j=k
  ·obtain ⟨x,hx⟩:=Option.isSome_iff_exists.mp a
   rw [if_pos e,e,hx,Option.map_some,if_pos rfl]
  ·rw [if_neg e]
   cases CZ kvs j with
   | none=>rfl
   | some x=>rw [Option.map_some,if_neg e]
 ·rw [if_neg a]
  refine JT k j y kvs ?_
  rw [Fw] at a
  cases q:CZ kvs k with
  | none=>rfl
  | some x=>rw [q] at a; exact (a rfl).elim
theorem Fd (kvs:List (κ × V)) (k:κ) (v:V):(putK kvs k v).length<=kvs.length+1:=by
 unfold putK
 split
 ·rw [List.length_map]; omega
 ·rw [List.length_append,List.length_cons,List.length_nil]; omega
theorem JD {kvs:List (κ × V)} {k:κ} (v:V) (h:CZ kvs k=none):putK kvs k v=kvs++[(k,v)]:=by
 unfold putK
 rw [Fw,h]
 exact if_neg (by decide)
theorem Es.Hd {o:Option V} {u:Option Value} (r:Es o u):o.isSome=u.isSome:=by
 cases o with
 | none=>cases u with
  | none=>rfl
  | some _=>exact (show False from r).elim
 | some _=>cases u with
  | none=>exact (show False from r).elim
  | some _=>rfl
theorem Es.getD {o:Option V} {u:Option Value} {d:V} {d':Value} (r:Es o u) (rd:RelV d d'):RelV (o.getD d) (u.getD d'):=by
 cases o with
 | none=>cases u with
  | none=>exact rd
  | some _=>exact (show False from r).elim
 | some _=>cases u with
  | none=>exact (show False from r).elim
  | some _=>exact r
theorem KV.val {kvs:List (κ × V)} {vs:List (κ × Value)} (r:KV kvs vs) (k:κ):Es (CZ kvs k) (valueAt vs k):=by
 unfold KV at r
 induction r with
 | nil=>exact True.intro
 | @cons p q ps qs h t ih =>
  obtain ⟨h1,h2⟩:=h
  by_cases e:p.1=k
  ·have e':q.1=k:=h1.symm.trans e
   have b:valueAt (q::qs) k=some q.2:=by simp [valueAt,List.find?_cons,e']
   rw [CP e,b]; exact h2
  ·have e':¬ q.1=k:=fun z=>e (h1.trans z)
   have b:valueAt (q::qs) k=valueAt qs k:=by simp [valueAt,List.find?_cons,e']
   rw [Cm e,b]; exact ih
theorem KV.any {kvs:List (κ × V)} {vs:List (κ × Value)} (r:KV kvs vs) (k:κ):(kvs.any fun kv=>decide (kv.1=k))=vs.any fun kv=>decide (kv.1=k):=by
 unfold KV at r
 induction r with
 | nil=>rfl
 | cons h t ih=>rw [List.any_cons,List.any_cons,ih,h.1]
theorem KV.repl {kvs:List (κ × V)} {vs:List (κ × Value)} (r:KV kvs vs) (k:κ) {y:V} {u:Value} (ry:RelV y u) :
  KV (kvs.map fun kv=>if kv.1=k then (kv.1,y) else kv) (vs.map fun kv=>if kv.1=k then (kv.1,u) else kv):=by
 unfold KV at r ⊢
 induction r with
 | nil=>exact .nil
 | @cons p q ps qs h t ih =>
  rw [List.map_cons,List.map_cons]
  refine .cons ?_ ih
  obtain ⟨h1,h2⟩:=h
  by_cases e:p.1=k
  ·rw [if_pos e,if_pos (h1.symm.trans e)]; exact ⟨h1,ry⟩
  ·rw [if_neg e,if_neg (fun z=>e (h1.trans z))]; exact ⟨h1,h2⟩
theorem KV.put {kvs:List (κ × V)} {vs:List (κ × Value)} (r:KV kvs vs) (k:κ) {y:V} {u:Value} (ry:RelV y u):KV (putK kvs k y) (stored vs k u):=by
 unfold putK stored
 rw [r.any k]
 by_cases e:(vs.any fun kv=>decide (kv.1=k))=true
 ·rw [if_pos e,if_pos e]; exact r.repl k ry
 ·rw [if_neg e,if_neg e]; exact Paired.snoc r ⟨rfl,ry⟩
theorem KV.length {kvs:List (κ × V)} {vs:List (κ × Value)} (r:KV kvs vs):kvs.length=vs.length:=Paired.length r
end
theorem Kf {P:Program} {w:World} {k:Key} {u:Value} (r:RelV (kV k) u):(CJ P w).is k u=true:=by
 cases k with
 | inl i=>obtain ⟨t,e⟩:=(show ∃ t,u=Value.int i t from r); subst e; exact Lb P w i t
 | inr x=>obtain ⟨t,e⟩:=(show ∃ t,u=Value.str x t from r); subst e; exact LK P w x t
theorem JV {P:Program} {w:World}:∀ {ks:List Key} {us:List Value},Vals (ks.map kV) us->ItemsAre (CJ P w) ks us
 | [],_,r=>by rw [List.map_nil] at r; cases r; exact .nil
 | k::ks,_,r=>by
  rw [List.map_cons] at r
  cases r with
  | cons h t=>exact .cons (Kf h) (JV t)
noncomputable abbrev KT (H:Hp):List (List Key × V)->List (List Key × Addr × Value)->Prop:=Paired fun p q=>p.1=q.1/\H q.2.1=some (.tup (p.1.map kV))/\RelV p.2 q.2.2
theorem KT.val {H:Hp} {kvs:List (List Key × V)} {xs:List (List Key × Addr × Value)} (r:KT H kvs xs) (k:List Key):Es (CZ kvs k) ((atKey xs k).map (·.2)):=by
 induction r with
 | nil=>exact True.intro
 | @cons p q ps qs h t ih =>
  obtain ⟨h1,_,h2⟩:=h
  by_cases e:p.1=k
  ·have e':q.1=k:=h1.symm.trans e
   have b:atKey (q::qs) k=some q.2:=by simp [atKey,List.find?_cons,e']
   rw [CP e,b]; exact h2
  ·have e':¬ q.1=k:=fun z=>e (h1.trans z)
   have b:atKey (q::qs) k=atKey qs k:=by simp [atKey,List.find?_cons,e']
   rw [Cm e,b]; exact ih
theorem KT.repl {H:Hp} {kvs:List (List Key × V)} {xs:List (List Key × Addr × Value)} (r:KT H kvs xs) (k:List Key) {y:V} {u:Value} (ry:RelV y u) :
  KT H (kvs.map fun kv=>if kv.1=k then (kv.1,y) else kv) (xs.map (putAt k u)):=by
 induction r with
 | nil=>exact .nil
 | @cons p q ps qs h t ih =>
  rw [List.map_cons,List.map_cons]
  refine .cons ?_ ih
  obtain ⟨h1,h2,h3⟩:=h
  unfold putAt
  by_cases e:p.1=k
  ·rw [if_pos e,if_pos (h1.symm.trans e)]; exact ⟨h1,h2,ry⟩
  ·rw [if_neg e,if_neg (fun z=>e (h1.trans z))]; exact ⟨h1,h2,h3⟩
theorem KT.put {H:Hp} {kvs:List (List Key × V)} {xs:List (List Key × Addr × Value)} (r:KT H kvs xs) (k:List Key) {b:Addr} {y:V} {u:Value} (hb:H b=some (.tup (k.map kV))) (ry:RelV y u) :
  KT H (putK kvs k y) (storedH xs k b u):=by
 have e:(kvs.any fun kv=>decide (kv.1=k))=(atKey xs k).isSome:=by
  rw [Fw,(r.val k).Hd,Option.isSome_map]
 unfold putK storedH
 rw [e]
 by_cases q:(atKey xs k).isSome=true
 ·rw [if_pos q,if_pos q]; exact r.repl k ry
 ·rw [if_neg q,if_neg q]; exact Paired.snoc r ⟨rfl,hb,ry⟩
theorem KT.keeps {H H':Hp} {kvs:List (List Key × V)} {xs:List (List Key × Addr × Value)} (r:KT H kvs xs) (ht:∀ b ys,H b=some (.tup ys)->H' b=some (.tup ys)):KT H' kvs xs :=
 Paired.Hv r fun _ _ z=>⟨z.1,ht _ _ z.2.1,z.2.2⟩
section
variable {P:Program} {w:World} {H:Hp} {h:Heap} {a:Addr}
theorem Ub {u:HO} (ok:Gw P w H h) (e:Rd H a u):Bt P w H h a u:=e.ok ok
theorem JX {kvs:List (Key × V)} (ok:Gw P w H h) (e:Rd H a (.dK kvs)):kvs.length<=sizeLine/\(a == sysModules)=false/\∃ vs,KV kvs vs/\h.DictOf (CJ P w) a vs :=
 show Bt P w H h a (.dK kvs) from Ub ok e
theorem Wi {kvs:List (Key × V)} (ok:Gw P w H h) (e:H a=some (.dK kvs)):kvs.length<=sizeLine/\(a == sysModules)=false/\∃ vs,KV kvs vs/\h.DictOf (CJ P w) a vs:=JX ok (.inl e)
theorem JG {ks:List Key} (ok:Gw P w H h) (e:H a=some (.tup (ks.map kV))):(tupleKind (CJ P w)).is h ks a:=by
 obtain ⟨_,its,r,o,h1,h2,n,h3⟩:=(show Bt P w H h a (.tup (ks.map kV)) from ok a _ e)
 exact ⟨o,its.toArray,n,h1,h2,h3,by simpa using JV r⟩
theorem Jh {kvs:List (List Key × V)} (ok:Gw P w H h) (e:Rd H a (.dT kvs)):kvs.length<=sizeLine/\(a == sysModules)=false /\
  ∃ xs,KT H kvs xs/\h.DictOfH (tupleKind (CJ P w)) a xs:=by
 obtain ⟨z,y,xs,r,o,es,ep,h1,h2,h3,h4,h5⟩:=(show Bt P w H h a (.dT kvs) from Ub ok e)
 refine ⟨z,y,xs,r,o,es,ep,h1,h2,h3,h4,fun x hx=>?_,h5⟩
 have all:∀ {l:List (List Key × V)} {m:List (List Key × Addr × Value)},KT H l m->∀ x∈m,(tupleKind (CJ P w)).is h x.1 x.2.1:=by
  intro l m q
  induction q with
  | nil=>intro x hx; exact nomatch hx
  | @cons p q ps qs hq t ih =>
   intro x hx
   rcases List.mem_cons.mp hx with e | hx
   ·subst e
    exact JG ok (by rw [← hq.1]; exact hq.2.1)
   ·exact ih x hx
 exact all r x hx
theorem Yb {kvs:List (List Key × V)} (ok:Gw P w H h) (e:H a=some (.dT kvs)):kvs.length<=sizeLine/\(a == sysModules)=false /\
  ∃ xs,KT H kvs xs/\h.DictOfH (tupleKind (CJ P w)) a xs:=Jh ok (.inl e)
end
noncomputable def FT (H:Hp) (a:Addr) (y:V) (r:Option V):Prop :=
 (∃ kvs k,Rd H a (.dK kvs)/\y=kV k/\r=CZ kvs k) \/ ∃ kvs k b,Rd H a (.dT kvs)/\y=.ref b/\H b=some (.tup (k.map kV))/\r=CZ kvs k
noncomputable def J9 (H:Hp) (a:Addr) (y v:V) (H':Hp):Prop :=
 (∃ kvs k,H a=some (.dK kvs)/\y=kV k/\kvs.length<sizeLine/\H'=upd H a (.dK (putK kvs k v))) \/
 ∃ kvs k b,H a=some (.dT kvs)/\y=.ref b/\H b=some (.tup (k.map kV))/\kvs.length<sizeLine/\H'=upd H a (.dT (putK kvs k v))
theorem FT.k {H:Hp} {a:Addr} {kvs:List (Key × V)} {k:Key} (e:H a=some (.dK kvs)):FT H a (kV k) (CZ kvs k):=.inl ⟨kvs,k,.inl e,rfl,rfl⟩
theorem FT.t {H:Hp} {a b:Addr} {kvs:List (List Key × V)} {k:List Key} (e:H a=some (.dT kvs)) (eb:H b=some (.tup (k.map kV))):FT H a (.ref b) (CZ kvs k):=.inr ⟨kvs,k,b,.inl e,rfl,eb,rfl⟩
theorem J9.k {H:Hp} {a:Addr} {kvs:List (Key × V)} {k:Key} {v:V} (e:H a=some (.dK kvs)) (hl:kvs.length<sizeLine):J9 H a (kV k) v (upd H a (.dK (putK kvs k v))):=.inl ⟨kvs,k,e,rfl,hl,rfl⟩
theorem J9.t {H:Hp} {a b:Addr} {kvs:List (List Key × V)} {k:List Key} {v:V} (e:H a=some (.dT kvs)) (eb:H b=some (.tup (k.map kV))) (hl:kvs.length<sizeLine) :
  J9 H a (.ref b) v (upd H a (.dT (putK kvs k v))):=.inr ⟨kvs,k,b,e,rfl,eb,hl,rfl⟩
section
variable {X:Cx} {pins:List (Addr × Obj)} {σ:St} {H:Hp} {s:Shared} {a:Addr} {y v:V} {u r:Value} {o:Option V} {A:Around} {E:Value->Shared->Prop}
theorem Inv.big (I:Inv X pins σ H s):sysModules<s.heap.objs.size:=by
 have h:mainGlobals<s.heap.objs.size:=(I.mod.glob.keeps I.bk).lt
 exact Nat.lt_trans (by decide) h
theorem O7 {Q:Value->Shared->Prop} (hu:A.units+1<cLine) (I:Inv X pins σ H s) (g:FT H a y (some v)) (ry:RelV y u) (h:∀ w' s',Inv X pins σ H s'->RelV v w'->Q w' s') :
  wpAny (model X.prog X.w) A (getItem (.ref a) u) Q E s:=by
 rcases g with ⟨kvs,k,e,ey,l⟩ | ⟨kvs,k,b,e,ey,eb,l⟩
 ·subst ey
  obtain ⟨z,hd,vs,rel,dd⟩:=JX I.hok e
  obtain ⟨w',hw,rw'⟩:=Es.some_of (v:=v) (o:=valueAt vs k) (by rw [l]; exact rel.val k)
  exact wpAny_getItem_of (Kf ry) dd.mapOf hw (h w' _ (I.tok _) rw')
 ·subst ey
  cases (show u=Value.ref b from ry)
  obtain ⟨z,hd,xs,rel,dd⟩:=Jh I.hok e
  obtain ⟨w',hw,rw'⟩:=Es.some_of (v:=v) (o:=(atKey xs k).map (·.2)) (by rw [l]; exact rel.val k)
  obtain ⟨p,hp,hp2⟩:=Option.map_eq_some_iff.mp hw
  refine wpAny_getItem_heap (tupleKind_room_in1 hu) (JG I.hok eb) dd hp ?_
  rw [hp2]
  exact h w' _ (I.tok _) rw'
theorem RX {Q:Value->Shared->Prop} (hu:A.units+1<cLine) (I:Inv X pins σ H s) (g:FT H a y o) (ry:RelV y u) (h:∀ s',Inv X pins σ H s'->Q (.bool (!o.isSome)) s') :
  wpAny (model X.prog X.w) A (compareOp .NotIn u (.ref a)) Q E s:=by
 rcases g with ⟨kvs,k,e,ey,l⟩ | ⟨kvs,k,b,e,ey,eb,l⟩
 ·subst ey
  obtain ⟨z,hd,vs,rel,dd⟩:=JX I.hok e
  refine wpAny_notIn_of (Kf ry) hd dd.mapOf ?_
  rw [← (rel.val k).Hd,← l]
  exact h _ (I.tok _)
 ·subst ey
  cases (show u=Value.ref b from ry)
  obtain ⟨z,hd,xs,rel,dd⟩:=Jh I.hok e
  refine wpAny_notIn_heap (tupleKind_room_in1 hu) (JG I.hok eb) hd dd ?_
  have q:=(rel.val k).Hd
  rw [Option.isSome_map] at q
  rw [← q,← l]
  exact h _ (I.tok _)
theorem Mw {h':Heap} {t':Nat} {ob:HO} (I:Inv X pins σ H s) (mu:ZW (H a)) (hs:Heap.SameBut a s.heap h') (he:∃ q,h'.get? a=some q) (new:Bt X.prog X.w (upd H a ob) h' a ob) :
  Inv X pins σ (upd H a ob) { s with heap:=h',toks:=t' } :=
 I.write (x:=a) (e:=a) mu (.inl rfl) (fun b q hb z=>(hs.2 b hb).trans z) he new
theorem Uu {P:Program} {w:World} {H':Hp} {h':Heap} {kvs:List (Key × V)} {vs:List (Key × Value)} (z:kvs.length<=sizeLine) (hd:(a == sysModules)=false) (rel:KV kvs vs) (dd:h'.DictOf (CJ P w) a vs) :
  Bt P w H' h' a (.dK kvs):=⟨z,hd,vs,rel,dd⟩
theorem OD {H':Hp} {Q:Unit->Shared->Prop} (hu:A.units+1<cLine) (I:Inv X pins σ H s) (g:J9 H a y v H') (ry:RelV y u) (rv:RelV v r) (h:∀ s',Inv X pins σ H' s'->Q () s') :
  wpAny (model X.prog X.w) A (setItem (.ref a) u r) Q E s:=by
 rcases g with ⟨kvs,k,e,ey,l,eH⟩ | ⟨kvs,k,b,e,ey,eb,l,eH⟩
 ·subst ey eH
  obtain ⟨z,hd,vs,rel,dd⟩:=Wi I.hok e
  have hz:vs.length<=sizeLine:=by rw [← rel.length]; exact z
  have hl:(putK kvs k v).length<=sizeLine:=by have:=Fd kvs k v; omega
  refine wpAny_setItem_pairs (hsz:=hz) (Kf ry) dd fun h' dd' hs=>h _ ?_
  have he:∃ q,h'.get? a=some q:=let ⟨q,_,_,hq,_⟩:=dd'; ⟨q,hq⟩
  exact Mw I (by rw [e]; exact True.intro) hs he (Uu hl hd (rel.put k rv) dd')
 ·subst ey eH
  cases (show u=Value.ref b from ry)
  obtain ⟨z,hd,xs,rel,dd⟩:=Yb I.hok e
  have hz:xs.length<=sizeLine:=by rw [← Paired.length rel]; exact z
  have hl:(putK kvs k v).length<=sizeLine:=by have:=Fd kvs k v; omega
  refine wpAny_setItem_heap (hsz:=hz) (tupleKind_room_in1 hu) (JG I.hok eb) dd fun h' dd' hs=>h _ ?_
  obtain ⟨q,es,ep,hq,h2,h3,h4,_,h5⟩:=dd'
  refine Mw I (by rw [e]; exact True.intro) hs ⟨q,hq⟩ ⟨hl,hd,_,(rel.put k eb rv).keeps fun c ys ec=>?_,q,es,ep,hq,h2,h3,h4,h5⟩
  rw [Av (LQ ec e (fun z=>nomatch z))]
  exact ec
end
section
variable {X:Cx} {pins:List (Addr × Obj)} {σ:St} {H:Hp} {s:Shared} {a:Addr} {kvs:List (Key × V)} {k:Key} {u:Value} {A:Around} {E:Value->Shared->Prop}
end
noncomputable def U_ (i:Expr):Prop:=∀ ov iv,subscripted i false ov iv=operate [ov,iv] (getItem ov iv)
theorem M4 {prog:Program} {w:World} {A:Around} {E:Value->Shared->Prop} {s:Shared} {env:Env} {value slice:Expr} {pos:Pos} {T id:String} {Q:Value->Shared->Prop}
  (hl:typeLookup (.type T) "__getitem__" = pure (some (.builtin id))) (hs:U_ slice)
  (h:wpAny (model prog w) A (eval value env) (fun o s₁=>wpAny (model prog w) A (eval slice env) (fun i s₂=>s₂.TypeIs o T/\wpAny (model prog w) A (getItem o i) Q E s₂) E s₁) E s) :
  wpAny (model prog w) A (eval (.Subscript value slice pos) env) Q E s:=by
 refine Subscript_ (wpAny_mono h (fun o s₁ h₁=>wpAny_mono h₁ (fun i s₂ h₂=>?_) fun _ _ x=>x) fun _ _ x=>x)
 obtain ⟨hT,h₂⟩:=h₂
 unfold subscriptTail
 refine wpAny_bind ?_
 rw [getitemInPython_of_ne hT.not_modules]
 refine wpAny_bind (wpAny_specialOf hT hl ?_)
 have fin:wpAny (model prog w) A (subscripted slice false o i) (fun r s₃=>wpAny (model prog w) A (letTemporaryGo value o r >>= fun _=>pure r) Q E s₃) E s₂:=by
  rw [hs o i]
  exact wpAny_operating (wpAny_mono h₂ (fun r s₃ h₃=>wpAny_bind (wpAny_letTemporaryGo (wpAny_pure h₃))) fun _ _ x=>x)
 first
  | exact wpAny_pure (wpAny_bind fin)
  | exact wpAny_bind (wpAny_pure (wpAny_bind fin))
  | exact wpAny_bind fin
theorem K7 {X:Cx} {pins:List (Addr × Obj)} {σ:St} {H:Hp} {s:Shared} {a:Addr} {y:V} {o:Option V} (I:Inv X pins σ H s) (g:FT H a y o):s.TypeIs (.ref a) "dict":=by
 rcases g with ⟨kvs,k,e,_,_⟩ | ⟨kvs,k,b,e,_,_,_⟩
 ·obtain ⟨_,_,vs,_,dd⟩:=JX I.hok e
  exact dd.typeIs
 ·obtain ⟨_,_,xs,_,dd⟩:=Jh I.hok e
  exact dd.typeIs
noncomputable def YG (td ty:TE):TE:=fun σ H Q=>td σ H fun x H1=>ty σ H1 fun y H2=>∃ a v,x=.ref a/\FT H2 a y (some v)/\Q v H2
noncomputable def Ru (ty td:TE):TE:=fun σ H Q=>ty σ H fun y H1=>td σ H1 fun x H2=>∃ a o,x=.ref a/\FT H2 a y o/\Q (.bl (!o.isSome)) H2
noncomputable def Xw (td ty tv:TE):TS:=fun D σ H=>tv σ H fun v H1=>td σ H1 fun x H2=>ty σ H2 fun y H3=>∃ a H4,x=.ref a/\J9 H3 a y v H4/\D.nx σ H4
section
variable {X:Cx} {o i e value:Expr} {pos pos' tpos:Pos} {td ty tv:TE}
theorem HF (hu:X.A.units+1<cLine) (ho:PE X o td) (hi:PE X i ty) (hs:U_ i):PE X (.Subscript o i pos) (YG td ty):=by
 intro pins s σ H Q I h
 refine M4 PySem.F.slot_dict_getitem.lookup hs (Bo (ho pins s σ H _ I h) fun u s1 ⟨x,H1,I1,rx,q1⟩=>Bo (hi pins s1 σ H1 _ I1 q1) fun iv s2 hq0=>?_)
 obtain ⟨y,H2,I2,ry,a,v,ex,g,q2⟩:=hq0
 subst ex
 obtain rfl:u=Value.ref a:=rx
 exact ⟨K7 I2 g,O7 hu I2 g ry fun w' s3 I3 rw'=>⟨v,H2,I3,rw',q2⟩⟩
theorem Nx (hu:X.A.units+1<cLine) (hi:PE X i ty) (ho:PE X o td):PC X .NotIn i o (Ru ty td):=by
 intro pins s σ H Q I h
 refine Bo (hi pins s σ H _ I h) fun iv s1 ⟨y,H1,I1,ry,q1⟩=>Bo (ho pins s1 σ H1 _ I1 q1) fun u s2 hq0=>?_
 obtain ⟨x,H2,I2,rx,a,ov,ex,g,q2⟩:=hq0
 subst ex
 obtain rfl:u=Value.ref a:=rx
 exact RX hu I2 g ry fun s3 I3=>⟨.bl (!ov.isSome),H2,I3,rfl,q2⟩
theorem Ka (hu:X.A.units+1<cLine) (ho:PE X o td) (hi:PE X i ty) (hv:PE X value tv) (hs:swapsWith value (some (.Subscript o i pos')) pos.line X.env=pure false) :
  PS X (.Assign [.Subscript o i pos'] value pos) (Xw td ty tv):=by
 intro pins s σ H D I h
 refine wpAny_Assign_Subscript (Bo (hv pins s σ H _ I h) fun r s1 ⟨v,H1,I1,rv,q1⟩=>Bo (ho pins s1 σ H1 _ I1 q1) fun u s2 ⟨x,H2,I2,rx,q2⟩=>Bo (hi pins s2 σ H2 _ I2 q2) fun iv s3 ⟨y,H3,I3,ry,a,H4,ex,g,q3⟩=>?_) hs
 subst ex
 obtain rfl:u=Value.ref a:=rx
 exact OD hu I3 g ry rv fun s4 I4=>⟨σ,H4,I4,q3⟩
end
theorem Q5 {P:Program} {w:World} {H:Hp} (h:Heap) (hb:sysModules<h.objs.size):Bt P w H (h.push { cls:=.type "dict",data:=.dict #[] }) h.objs.size (.dK []) :=
 ⟨Nat.zero_le _,beq_eq_false_iff_ne.mpr (Ne.symm (Nat.ne_of_lt hb)),[],.nil,Heap.DictOf.new h⟩
theorem Q9 {P:Program} {w:World} {H:Hp} (h:Heap) (hb:sysModules<h.objs.size):Bt P w H (h.push { cls:=.type "dict",data:=.dict #[] }) h.objs.size (.dT []) :=
 ⟨Nat.zero_le _,beq_eq_false_iff_ne.mpr (Ne.symm (Nat.ne_of_lt hb)),[],.nil,_,#[],0,Heap.get?_push_size _ rfl,⟨rfl,rfl,rfl⟩,rfl,rfl,List.nodup_nil⟩
noncomputable def Vo:TE:=fun _ H Q=>∀ p,H p=none->Q (.ref p) (upd H p (.dK []))
noncomputable def Vx:TE:=fun _ H Q=>∀ p,H p=none->Q (.ref p) (upd H p (.dT []))
section
variable {X:Cx} {pos:Pos}
theorem Kw:PE X (.Dict [] [] pos) Vo:=fun pins s σ H Q I h =>
 wpAny_Dict_empty ⟨.ref s.heap.objs.size,_,I.laid (a:=s.heap.objs.size) (o:=.dK []) (t':=s.toks) (fun _ _ q=>Heap.get?_push_of_some _ q) (Nat.le_refl _) (Q5 s.heap I.big),rfl,h _ (I.hok.fresh (Nat.le_refl _))⟩
theorem Qz:PE X (.Dict [] [] pos) Vx:=fun pins s σ H Q I h =>
 wpAny_Dict_empty ⟨.ref s.heap.objs.size,_,I.laid (a:=s.heap.objs.size) (o:=.dT []) (t':=s.toks) (fun _ _ q=>Heap.get?_push_of_some _ q) (Nat.le_refl _) (Q9 s.heap I.big),rfl,h _ (I.hok.fresh (Nat.le_refl _))⟩
end
structure M2 (X:Cx) (o:Expr) (m:Str) (apos:Pos) (e f:Expr) (cpos:Pos):Prop where
 base:attributeBase o m X.env (eval o X.env)=eval o X.env
 few:((backTo cpos (starEach [e,f] X.env)).all (fun x=>!x.1) && (backToKw cpos (keywordEach [] X.env)).all (fun x=>x.1.isSome)
  && decide (([e,f]:List Expr).length+([]:List Keyword).length+(if ([]:List Keyword).isEmpty then 0 else 1)<30))=true
 line:(apos.endLine == cpos.line)=true
 trees:backTo cpos (starEach [e,f] X.env)=[(false,eval e X.env),(false,eval f X.env)]
noncomputable def e_ (H:Hp) (a:Addr):Prop:=(∃ kvs,Rd H a (.dK kvs)) \/ ∃ kvs,Rd H a (.dT kvs)
theorem Vv {X:Cx} {pins:List (Addr × Obj)} {σ:St} {H:Hp} {s:Shared} {a:Addr} (I:Inv X pins σ H s) (d:e_ H a) :
  s.TypeIs (.ref a) "dict" /\ (∀ b,Value.ref a=.ref b->∃ ob,s.heap.get? b=some ob/\ob.dict=none)/\(a == sysModules)=false:=by
 rcases d with ⟨kvs,e⟩ | ⟨kvs,e⟩
 ·obtain ⟨_,hd,vs,_,dd⟩:=JX I.hok e
  refine ⟨dd.typeIs,fun b q=>?_,hd⟩
  cases q
  obtain ⟨ob,_,_,h1,h2,_⟩:=dd
  exact ⟨ob,h1,h2.2.1⟩
 ·obtain ⟨_,hd,xs,_,dd⟩:=Jh I.hok e
  refine ⟨dd.typeIs,fun b q=>?_,hd⟩
  cases q
  obtain ⟨ob,_,_,h1,h2,_⟩:=dd
  exact ⟨ob,h1,h2.2.1⟩
section
variable {X:Cx} {pins:List (Addr × Obj)} {σ:St} {H:Hp} {s:Shared} {a:Addr} {y d:V} {u r:Value} {o:Option V} {A:Around} {E:Value->Shared->Prop}
theorem VP {Q:Value->Shared->Prop} (hu:A.units+1<cLine) (I:Inv X pins σ H s) (g:FT H a y o) (ry:RelV y u) (rd:RelV d r) (h:∀ w' s',Inv X pins σ H s'->RelV (o.getD d) w'->Q w' s') :
  wpAny (model X.prog X.w) A (call (.builtin "dict.get") [.ref a,u,r]) Q E s:=by
 rcases g with ⟨kvs,k,e,ey,l⟩ | ⟨kvs,k,b,e,ey,eb,l⟩
 ·subst ey
  obtain ⟨z,hd,vs,rel,dd⟩:=JX I.hok e
  refine call_meetsIn PySem.F.slot_dict_get dd.typeIs PySem.F.entry_dict_get (PySem.F.args_dict_get_3 _ _ _) (meets_dict_get_default (CJ X.prog X.w) a (Kf ry) hd r) ⟨_,dd.mapOf,h _ _ (I.tok _) ?_⟩
  rw [l]
  exact (rel.val k).getD rd
 ·subst ey
  cases (show u=Value.ref b from ry)
  obtain ⟨z,hd,xs,rel,dd⟩:=Jh I.hok e
  refine call_meetsIn PySem.F.slot_dict_get dd.typeIs PySem.F.entry_dict_get (PySem.F.args_dict_get_3 _ _ _) (meetsH_dict_get_default (tupleKind (CJ X.prog X.w)) a b hd r) ⟨tupleKind_room_in1 hu,k,xs,JG I.hok eb,dd,h _ _ (I.tok _) ?_⟩
  rw [l]
  exact (rel.val k).getD rd
end
noncomputable def Vm (td ty tx:TE):TE:=fun σ H Q=>td σ H fun x H1=>∃ a,x=.ref a/\e_ H1 a/\ty σ H1 fun y H2=>tx σ H2 fun z H3=>∃ o,FT H3 a y o/\Q (o.getD z) H3
section
variable {X:Cx} {o e f:Expr} {apos cpos:Pos} {td ty tx:TE}
theorem QJ (hu:X.A.units+1<cLine) (ho:PE X o td) (he:PE X e ty) (hf:PE X f tx) (m:M2 X o "get" apos e f cpos):PE X (.Call (.Attribute o "get" apos) [e,f] [] cpos) (Vm td ty tx):=by
 intro pins s σ H Q I h
 refine wpAny_Call_method m.base m.few m.line PySem.F.plainAttrs_dict PySem.F.slot_dict_get PySem.F.type_dict_get (Bo (ho pins s σ H _ I h) fun u s1 hq0=>?_)
 obtain ⟨x,H1,I1,rx,a,ex,d,q1⟩:=hq0
 subst ex
 obtain rfl:u=Value.ref a:=rx
 obtain ⟨t1,t2,_⟩:=Vv I1 d
 refine ⟨t1,t2,?_⟩
 rw [m.trees]
 refine Calls.callWith_builtin rfl (Calls.evalArgs_plain (Calls.spliced_cons (Bo (he pins s1 σ H1 _ I1 q1) fun iv s2 ⟨y,H2,I2,ry,q2⟩ =>
  Calls.spliced_cons (Bo (hf pins s2 σ H2 _ I2 q2) fun fv s3 ⟨z,H3,I3,rz,ov,g,q3⟩=>Calls.spliced_nil ?_))))
 exact VP hu I3 g ry rz fun w' s4 I4 rw'=>⟨_,H3,I4,rw',q3⟩
end
section
variable {X:Cx} {pins:List (Addr × Obj)} {σ:St} {H:Hp} {s:Shared} {a:Addr} {kvs:List (Key × V)} {A:Around} {E:Value->Shared->Prop}
end
section
variable {X:Cx} {pins:List (Addr × Obj)} {σ:St} {H:Hp} {s:Shared} {a:Addr} {y:V} {u:Value} {A:Around} {E:Value->Shared->Prop}
end
end L2
namespace HT
open PySem PyProof.Rows
section
open PySem.SeqAt
open PySem.AutoSeq1 (wpAny_loadPart')
open PySem.MeetsSeq PySem.MeetsSeq2 PySem.MeetsSeq3
end
section
variable {prog:Program} {w:World} {A:Around} {E:Value->Shared->Prop} {s:Shared}
noncomputable def Dd (n d:Nat):Option Int->Nat
 | none=>d
 | some v=>if v<0 then (v+(n:Int)).toNat else min v.toNat n
theorem Pk (n d:Nat):Dd n d none=d:=rfl
theorem KD (n d k:Nat):Dd n d (some (k:Int))=min k n:=by
 show (if (k:Int)<0 then ((k:Int)+(n:Int)).toNat else min (k:Int).toNat n)=min k n
 rw [if_neg (by omega),Int.toNat_natCast]
theorem Ug (n d:Nat) (hd:d<=n) (o:Option Int):Dd n d o<=n:=by
 cases o with
 | none=>exact hd
 | some v =>
  show (if v<0 then (v+(n:Int)).toNat else min v.toNat n)<=n
  by_cases hv:v<0
  ·rw [if_pos hv]; omega
  ·rw [if_neg hv]; exact Nat.min_le_right _ _
theorem Mm (v:Int) (n d:Nat):(if v<0 then max (v+(n:Int)) 0 else min v (n:Int))=((Dd n d (some v):Nat):Int):=by
 show (if v<0 then max (v+(n:Int)) 0 else min v (n:Int))=(((if v<0 then (v+(n:Int)).toNat else min v.toNat n):Nat):Int)
 by_cases hv:v<0
 ·simp only [if_pos hv]; omega
 ·simp only [if_neg hv]; omega
theorem Lr (lo hi:Option Int) (n:Nat):Builtin.Slice.sliceAdjust lo hi 1 (n:Int)=(((Dd n 0 lo:Nat):Int),((Dd n n hi:Nat):Int)):=by
 have h1:¬ ((1:Int)<0):=by omega
 unfold Builtin.Slice.sliceAdjust
 simp only [h1,if_false]
 refine Prod.ext ?_ ?_
 ·cases lo with
  | none=>rfl
  | some v=>exact Mm v n 0
 ·cases hi with
  | none=>rfl
  | some v=>exact Mm v n n
theorem L_ (i j:Nat):Builtin.Slice.slicePlaces (i:Int) (j:Int) 1=j - i:=by
 unfold Builtin.Slice.slicePlaces
 have h1:(1:Int) > 0:=by omega
 simp only [h1,if_true,Int.ediv_one]
 split <;> omega
theorem JF {v:Value} {o:Option Int} {Q:Option Int->Shared->Prop} (p:IsPart v o) (h:Q o s):wpAny (model prog w) A (Builtin.Slice.slicePartIndex v) Q E s:=by
 cases p with
 | none=>exact slicePart_none h
 | int i t=>exact slicePart_int h
theorem HW {sl:Addr} {vl vu:Value} {lo hi:Option Int} {n:Nat} {Q:Int × Int × Nat->Shared->Prop} (hs:s.heap.IsSliceOf sl vl vu .none) (pl:IsPart vl lo) (pu:IsPart vu hi)
  (h:Q (((Dd n 0 lo:Nat):Int),1,Dd n n hi - Dd n 0 lo) s):wpAny (model prog w) A (Builtin.Slice.sliceApplied (.ref sl) (pure (n:Int))) Q E s:=by
 obtain ⟨os,hos,hcs,hds⟩:=id hs
 unfold Builtin.Slice.sliceApplied Builtin.Slice.sliceFields
 refine wpAny_bind (wpAny_bind (wpAny_field hos hds (x:=vl) rfl (wpAny_bind (wpAny_field hos hds (x:=vu) rfl (wpAny_bind (wpAny_field hos hds (x:=.none) rfl (wpAny_pure ?_)))))))
 refine wpAny_bind (slicePart_none ?_)
 show wpAny _ _ (if ((1:Int) == 0)=true then _ else _) _ _ s
 rw [if_neg (by decide)]
 refine wpAny_bind (JF pl (wpAny_bind (JF pu (wpAny_bind (wpAny_pure ?_)))))
 show wpAny _ _ (match Builtin.Slice.sliceAdjust lo hi 1 (n:Int) with | (lo,hi)=>pure (lo,(1:Int),Builtin.Slice.slicePlaces lo hi 1)) _ _ s
 rw [Lr lo hi n]
 show wpAny _ _ (pure (((Dd n 0 lo:Nat):Int),(1:Int),Builtin.Slice.slicePlaces ((Dd n 0 lo:Nat):Int) ((Dd n n hi:Nat):Int) 1)) _ _ s
 rw [L_]
 exact wpAny_pure h
theorem QX (xs:Array Value) (i k:Nat):((List.range k).filterMap fun (m:Nat)=>xs[((i:Int)+(m:Int) * 1).toNat]?).toArray=((xs.toList.drop i).take k).toArray:=by
 have e:(fun (m:Nat)=>xs[((i:Int)+(m:Int) * 1).toNat]?)=fun m=>xs[i+m]?:=by
  funext m
  have:((i:Int)+(m:Int) * 1).toNat=i+m:=by omega
  rw [this]
 rw [e]
 have:=pick_run xs i k
 rw [List.filterMap_map] at this
 have e2:((fun x=>xs[x]?) ∘ fun x=>i+x)=fun m=>xs[i+m]?:=rfl
 rw [e2] at this
 rw [this]
theorem Gz {t sl:Addr} {items:Array Value} {vl vu:Value} {lo hi:Option Int} {Q:Value->Shared->Prop} (ht:IsTup s.heap t items) (hs:s.heap.IsSliceOf sl vl vu .none) (pl:IsPart vl lo) (pu:IsPart vu hi)
  (hw:¬ (Dd items.size 0 lo=0/\Dd items.size items.size hi=items.size))
  (h:Q (.ref s.heap.objs.size) { s with heap:=s.heap.push { cls:=.type "tuple",data:=.seq ((items.toList.drop (Dd items.size 0 lo)).take (Dd items.size items.size hi - Dd items.size 0 lo)).toArray } })
  (hsz:items.size<=sizeLine):wpAny (model prog w) A (getItem (.ref t) (.ref sl)) Q E s:=by
 have htake:sizeOk (.seq ((items.toList.drop (Dd items.size 0 lo)).take (Dd items.size items.size hi - Dd items.size 0 lo)).toArray):=by
  show ((items.toList.drop (Dd items.size 0 lo)).take (Dd items.size items.size hi - Dd items.size 0 lo)).toArray.size<=sizeLine
  rw [List.size_toArray,List.length_take,List.length_drop,Array.length_toList]
  omega
 have hj:Dd items.size items.size hi<=items.size:=Ug _ _ (Nat.le_refl _) hi
 obtain ⟨os,hos,hcs,hds⟩:=id hs
 have hTs:s.TypeIs (.ref sl) "slice":=⟨os,hos,hcs⟩
 unfold getItem
 try with_reducible refine wpAny_holding ?_
 first | refine wpAny_bind (wpAny_pure ?_) | skip
 refine wpAny_bind (wpAny_sequenceKey ht.typeIs (by decide) ?_)
 refine wpAny_bind (wpAny_callSpecial?_slot (name:=Str.ofString "__getitem__") ht.typeIs PyProof.Rows.slot_tuple_getitem
  (wpAny_call_entry PyProof.Rows.slot_tuple_getitem ht.typeIs entry_tuple_getitem ?_ (args_tuple_getitem _ _)))
 show wpAny _ _ (Builtin.Tuple.tupleItemsOf (.ref t) >>= _) _ _ s
 refine wpAny_bind (tupleItemsOf_ ht ?_)
 refine wpAny_bind (wpAny_typeOf hTs ?_)
 rw [if_pos (by decide)]
 refine wpAny_bind (HW hs pl pu ?_)
 have hno:¬ ((((Dd items.size 0 lo:Nat):Int) == 0 && (1:Int) == 1 && (Dd items.size items.size hi - Dd items.size 0 lo) == items.size)=true):=by
  intro q
  rw [Bool.and_eq_true,Bool.and_eq_true] at q
  have q1:((Dd items.size 0 lo:Nat):Int)=0:=eq_of_beq q.1.1
  have q2:Dd items.size items.size hi - Dd items.size 0 lo=items.size:=eq_of_beq q.2
  exact hw ⟨by omega,by omega⟩
 show wpAny _ _ (if (((Dd items.size 0 lo:Nat):Int) == 0 && (1:Int) == 1 && (Dd items.size items.size hi - Dd items.size 0 lo) == items.size)=true then _ else _) _ _ s
 rw [if_neg hno,QX]
 first
  | exact wpAny_bind (m:=Builtin.Tuple.tupleExact _) (wpAny_newObj_type (wpAny_pure ⟨_,rfl,wpAny_pure h⟩) htake)
  | exact wpAny_bind (m:=Builtin.Tuple.tupleExact _) (wpAny_newObj_type (wpAny_bind (wpAny_pure (wpAny_pure ⟨_,rfl,wpAny_pure h⟩))) htake)
  | exact wpAny_bind (wpAny_bind (m:=Builtin.Tuple.tupleExact _) (wpAny_newObj_type (wpAny_pure (wpAny_pure ⟨_,rfl,wpAny_pure h⟩)) htake))
  | exact wpAny_bind (wpAny_bind (m:=Builtin.Tuple.tupleExact _) (wpAny_newObj_type (wpAny_pure ⟨_,rfl,wpAny_pure h⟩) htake))
end
end HT
namespace L2
open PySem PySem.Spec PyProof.Rows
noncomputable abbrev TO:=St->Hp->(Option Int->Hp->Prop)->Prop
noncomputable def PO (X:Cx) (e:Option Expr) (t:TO):Prop :=
 ∀ (pins:List (Addr × Obj)) (s:Shared) (σ:St) (H:Hp) (Q:Option Int->Hp->Prop),Inv X pins σ H s->t σ H Q ->
  wpAny (model X.prog X.w) X.A (evalPart e X.env) (fun u s'=>∃ o H',Inv X pins σ H' s'/\IsPart u o/\Q o H') X.xe s
noncomputable def Rf:TO:=fun _ H Q=>Q none H
noncomputable def Yq (t:TE):TO:=fun σ H Q=>t σ H fun x H1=>∃ i,x=.int i/\Q (some i) H1
section
variable {X:Cx} {e:Expr} {te:TE} {lo hi:Option Expr} {tl th:TO} {pos p2:Pos}
theorem Hx:PO X none Rf:=by
 intro pins s σ H Q I h
 rw [evalPart_none]
 exact wpAny_pure ⟨none,H,I,.none,h⟩
theorem Hy (h:PE X e te):PO X (some e) (Yq te):=by
 intro pins s σ H Q I hw
 rw [evalPart_some]
 refine Bo (h pins s σ H _ I hw) fun u s1 hq0=>?_
 obtain ⟨x,H1,I1,r1,q1⟩:=hq0
 obtain ⟨i,rfl,q⟩:=q1
 obtain ⟨t,rfl⟩:=r1
 exact ⟨some i,H1,I1,.int i t,q⟩
noncomputable def bx (X:Cx) (r:V->Option Int->Option Int->Hp->VK->Prop):Prop :=
 ∀ (pins:List (Addr × Obj)) (s:Shared) (σ:St) (H:Hp) (x:V) (v vl vu:Value) (lo hi:Option Int) (sl:Addr) (Q:VK),Inv X pins σ H s->RelV x v->s.heap.IsSliceOf sl vl vu .none->IsPart vl lo->IsPart vu hi->r x lo hi H Q ->
  ∃ T id,typeLookup (.type T) "__getitem__" = pure (some (.builtin id))/\s.TypeIs v T/\wpAny (model X.prog X.w) X.A (getItem v (.ref sl)) (EP X pins σ Q) X.xe s
noncomputable def fL (r:V->Option Int->Option Int->Hp->VK->Prop) (te:TE) (tl th:TO):TE:=fun σ H Q=>te σ H fun x H1=>tl σ H1 fun l H2=>th σ H2 fun u H3=>r x l u H3 Q
theorem G9 {r:V->Option Int->Option Int->Hp->VK->Prop} (hr:bx X r) (he:PE X e te) (hl:PO X lo tl) (hu:PO X hi th):PE X (.Subscript e (.Slice lo hi none p2) pos) (fL r te tl th):=by
 intro pins s σ H Q I h
 refine Subscript_ (Bo (he pins s σ H _ I h) fun v s1 hq0=>?_)
 obtain ⟨x,H1,I1,r1,q1⟩:=hq0
 refine wpAny_Slice (Bo (hl pins s1 σ H1 _ I1 q1) fun vl s2 ⟨l,H2,I2,pl,q2⟩=>Bo (hu pins s2 σ H2 _ I2 q2) fun vu s3 hq0=>?_)
 obtain ⟨u,H3,I3,pu,q3⟩:=hq0
 rw [evalPart_none]
 refine wpAny_pure ?_
 have I4:Inv X pins σ H3 { s3 with heap:=s3.heap.push { cls:=.type "slice",data:=.fields #[vl,vu,.none] } }:=I3.kept (t':=s3.toks) fun b ob q=>Heap.get?_push_of_some _ q
 obtain ⟨T,id,hT,ht,hg⟩:=hr pins { s3 with heap:=s3.heap.push { cls:=.type "slice",data:=.fields #[vl,vu,.none] } } σ H3 x v vl vu l u s3.heap.objs.size Q I4 r1 (Heap.IsSliceOf.new ..) pl pu q3
 show wpAny (model X.prog X.w) X.A (subscriptTail e (.Slice lo hi none p2) v (.ref s3.heap.objs.size)) (EP X pins σ Q) X.xe { s3 with heap:=s3.heap.push { cls:=.type "slice",data:=.fields #[vl,vu,.none] } }
 exact tail_any (ops:=[.ref s3.heap.objs.size,v]) ht hT hg (by with_unfolding_all rfl)
noncomputable def En (xs:List V) (lo hi:Option Int):List V:=(xs.drop (HT.Dd xs.length 0 lo)).take (HT.Dd xs.length xs.length hi - HT.Dd xs.length 0 lo)
theorem Hq (xs:List V) (lo hi:Option Int):(En xs lo hi).length<=xs.length:=by
 unfold En
 rw [List.length_take,List.length_drop]
 omega
noncomputable def dm (K:PySem.W.Frag):V->Option Int->Option Int->Hp->VK->Prop:=fun x lo hi H Q=>∃ a xs,x=.ref a/\Gy K H a xs /\
 ¬ (HT.Dd xs.length 0 lo=0/\HT.Dd xs.length xs.length hi=xs.length)/\∀ p,H p=none->Q (.ref p) (upd H p (.tup (En xs lo hi)))
theorem U0:bx X (dm X.K):=by
 intro pins s σ H x v vl vu lo hi sl Q I rx hs pl pu h
 obtain ⟨a,xs,rfl,hx,hw,q⟩:=h
 cases rx
 obtain ⟨its,r,ht,hz⟩:=I.tuple hx
 have hlen:its.toArray.size=xs.length:=by rw [List.size_toArray]; exact r.length.symm
 refine ⟨"tuple",_,PyProof.Rows.slot_tuple_getitem.lookup,ht.typeIs,?_⟩
 refine HT.Gz ht hs pl pu (by rw [hlen]; exact hw) ?_ (by rw [hlen]; exact hz)
 rw [hlen]
 refine ⟨.ref s.heap.objs.size,_,I.laid (t':=s.toks) (o:=.tup (En xs lo hi)) (fun b ob q=>Heap.get?_push_of_some _ q) (Nat.le_refl _) ?_,rfl,q _ (I.hok.fresh (Nat.le_refl _))⟩
 exact ⟨Nat.le_trans (Hq xs lo hi) hz,_,(r.drop (HT.Dd xs.length 0 lo)).take (HT.Dd xs.length xs.length hi - HT.Dd xs.length 0 lo),IsTup.new _ _⟩
end
end L2
namespace L2
open PySem PySem.Spec PyProof.Rows
noncomputable def Ui (n:Nat) (i:Int):Option Nat:=if 0<=i then (if i<n then some i.toNat else none) else if -(n:Int)<=i then some (i+n).toNat else none
noncomputable def PJ {α:Type} (xs:List α) (i:Int):Option α:=(Ui xs.length i).bind fun j=>xs[j]?
theorem Ro {n:Nat} {i:Int} {j:Nat} (h:Ui n i=some j):seqIndex? i n=some j/\j<n /\ -(n:Int)<=i/\i<n:=by
 unfold Ui at h
 by_cases h0:0<=i
 ·rw [if_pos h0] at h
  by_cases h1:i<n
  ·rw [if_pos h1] at h
   have e:i.toNat=j:=Option.some.inj h
   exact ⟨by rw [seqIndex_of h0 h1,e],by omega,by omega,h1⟩
  ·rw [if_neg h1] at h; cases h
 ·rw [if_neg h0] at h
  by_cases h1 : -(n:Int)<=i
  ·rw [if_pos h1] at h
   have e:(i+n).toNat=j:=Option.some.inj h
   exact ⟨by rw [seqIndex_neg (by omega) h1,e],by omega,h1,by omega⟩
  ·rw [if_neg h1] at h; cases h
theorem Jt {α:Type} {xs:List α} {i:Int} {v:α} (h:PJ xs i=some v):∃ j,seqIndex? i xs.length=some j/\xs[j]? = some v/\j<xs.length /\ -(xs.length:Int)<=i/\i<xs.length:=by
 unfold PJ at h
 cases e:Ui xs.length i with
 | none=>rw [e] at h; cases h
 | some j =>
  rw [e] at h
  obtain ⟨h1,h2,h3,h4⟩:=Ro e
  exact ⟨j,h1,h,h2,h3,h4⟩
theorem Aj {α:Type} {xs:List α} {j:Nat} {v:α} (h:xs[j]? = some v):PJ xs (j:Int)=some v:=by
 have hj:j<xs.length:=(List.getElem?_eq_some_iff.mp h).1
 have e:Ui xs.length (j:Int)=some j:=by
  unfold Ui
  rw [if_pos (by omega),if_pos (by omega)]; simp
 unfold PJ; rw [e]; exact h
noncomputable def Rt (b:Expr):Prop:=∀ o i,subscripted b false o i=operate [o,i] (getItem o i)
noncomputable def WD (X:Cx) (r:R2):Prop :=
 ∀ (value slice:Expr) (pins:List (Addr × Obj)) (s:Shared) (σ:St) (H:Hp) (x y:V) (v u:Value) (Q:VK),Inv X pins σ H s->RelV x v->RelV y u->r x y H Q ->
  subscripted slice false v u=operate [v,u] (getItem v u)->wpAny (model X.prog X.w) X.A (subscriptTail value slice v u) (EP X pins σ Q) X.xe s
noncomputable def Ze (X:Cx) (id:String) (r:V->List V->Hp->VK->Prop):Prop :=
 ∀ (pins:List (Addr × Obj)) (s:Shared) (σ:St) (H:Hp) (x:V) (xs:List V) (v:Value) (us:List Value) (Q:VK),Inv X pins σ H s->RelV x v->Vals xs us->r x xs H Q ->
  wpAny (model X.prog X.w) X.A (call (.builtin id) (v::us)) (EP X pins σ Q) X.xe s
section
variable {X:Cx} {a b:Expr} {ta tb:TE} {pos:Pos}
theorem Ax {r:R2} (hr:WD X r) (ha:PE X a ta) (hb:PE X b tb) (hs:Rt b):PE X (.Subscript a b pos) (V5 r ta tb):=by
 intro pins s σ H Q I h
 exact Subscript_ (VL ha hb I h fun v u s2 x y H2 I2 rx ry q=>hr a b pins s2 σ H2 x y v u Q I2 rx ry q (hs _ _))
noncomputable def Wu (K:PySem.W.Frag):R2:=fun x y H Q=>∃ p xs i v,x=.ref p/\y=.int i/\Ci K H p xs/\PJ xs i=some v/\Q v H
noncomputable def WF (K:PySem.W.Frag):R2:=fun x y H Q=>∃ p xs i v,x=.ref p/\y=.int i/\Gy K H p xs/\PJ xs i=some v/\Q v H
noncomputable def bQ:R2:=fun x y H Q=>∃ z i c,x=.str z/\y=.int i/\z.length<=sizeLine/\PJ z.cps.toList i=some c/\Q (.str ⟨#[c]⟩) H
theorem DY:WD X (Wu X.K):=by
 intro value slice pins s σ H x y v u Q I rx ry h hs
 obtain ⟨p,xs,i,z,rfl,rfl,hq,he,q⟩:=h
 cases rx
 obtain ⟨t,rfl⟩:=ry
 obtain ⟨its,r,pl,hz⟩:=I.list hq
 obtain ⟨j,h1,h2,h3,h4,h5⟩:=Jt he
 obtain ⟨w,ew,rw'⟩:=r.get h2
 have hl:=r.length
 have hn:=Hh
 have fin:EP X pins σ Q w s:=⟨z,H,I,rw',q⟩
 by_cases h0:0<=i
 ·have hj:i.toNat=j:=by
   rw [seqIndex_of h0 h5] at h1
   exact Option.some.inj h1
  exact item_listR pl.isList h0 (by omega) (by rw [hj]; simpa using ew) fin hs
 ·have hj:(i+(its.toArray.size:Int)).toNat=j:=by
   rw [seqIndex_neg (by omega) h4] at h1
   rw [List.size_toArray,← hl]
   exact Option.some.inj h1
  exact subscriptTail_builtinR (x:=w) pl.isList.typeIs slot_list_getitem.lookup
   (wpAny_getItem_list_neg (Q:=fun r s'=>r=w/\EP X pins σ Q r s') pl.isList (by omega) (by rw [List.size_toArray] <;> omega) (by omega) (by rw [hj]; simpa using ew) ⟨rfl,fin⟩) hs
theorem Vh:WD X (WF X.K):=by
 intro value slice pins s σ H x y v u Q I rx ry h hs
 obtain ⟨p,xs,i,z,rfl,rfl,hq,he,q⟩:=h
 cases rx
 obtain ⟨t,rfl⟩:=ry
 obtain ⟨its,r,pl,hz⟩:=I.tuple hq
 obtain ⟨j,h1,h2,h3,h4,h5⟩:=Jt he
 obtain ⟨w,ew,rw'⟩:=r.get h2
 have hl:=r.length
 have hn:=Hh
 have fin:EP X pins σ Q w s:=⟨z,H,I,rw',q⟩
 exact subscriptTail_builtinR (x:=w) pl.typeIs slot_tuple_getitem.lookup
  (getItem_tuple (j:=j) (Q:=fun r s'=>r=w/\EP X pins σ Q r s') pl (by omega) (by omega) (by rw [List.size_toArray,← hl]; exact h1) (by simpa using ew) ⟨rfl,fin⟩) hs
theorem Dp:WD X bQ:=by
 intro value slice pins s σ H x y v u Q I rx ry h hs
 obtain ⟨z,i,c,rfl,rfl,hz,he,q⟩:=h
 obtain ⟨t,rfl⟩:=rx
 obtain ⟨t',rfl⟩:=ry
 obtain ⟨j,h1,h2,h3,h4,h5⟩:=Jt he
 have hl:z.cps.toList.length=z.length:=by simp [Str.length]
 rw [hl] at h1 h4 h5
 have hn:=Hh
 exact tail_any (typeIs_str s z t) slot_str_getitem.lookup (getItem_str (c:=c) (by
  have e1:decide (i < -(2 ^ 63:Int))=false:=decide_eq_false (by omega)
  have e2:decide (i ≥ 2 ^ 63)=false:=decide_eq_false (by omega)
  rw [e1,e2,Bool.or_false]) (by rw [h1]; simpa using h2) ⟨.str ⟨#[c]⟩,H,I.tok _,⟨_,rfl⟩,q⟩) hs
theorem KN (lo hi:Option Int) (n:Nat):(sliceBounds lo hi none n).1=((HT.Dd n 0 lo:Nat):Int)/\(sliceBounds lo hi none n).2.1=((HT.Dd n n hi:Nat):Int)/\(sliceBounds lo hi none n).2.2=1:=by
 refine ⟨?_,?_,rfl⟩
 ·cases lo with
  | none=>simp [sliceBounds,HT.Dd]
  | some i =>
   simp only [sliceBounds,HT.Dd,Option.getD_none,show (1:Int) > 0 by decide,if_true]
   by_cases h:i<0
   ·simp only [h,if_true] <;> omega
   ·simp only [h,if_false] <;> omega
 ·cases hi with
  | none=>simp [sliceBounds,HT.Dd]
  | some i =>
   simp only [sliceBounds,HT.Dd,Option.getD_none,show (1:Int) > 0 by decide,if_true]
   by_cases h:i<0
   ·simp only [h,if_true] <;> omega
   ·simp only [h,if_false] <;> omega
theorem JP (its:List Value) (lo hi:Option Int):slicePick its.toArray lo hi none=((its.drop (HT.Dd its.length 0 lo)).take (HT.Dd its.length its.length hi - HT.Dd its.length 0 lo)).toArray:=by
 obtain ⟨h1,h2,h3⟩:=KN lo hi its.toArray.size
 unfold slicePick
 rw [h1,h2,h3]
 simp only [sliceRange_one,pick_run,List.size_toArray] <;> rfl
noncomputable def bU (K:PySem.W.Frag):V->Option Int->Option Int->Hp->VK->Prop:=fun x lo hi H Q=>∃ a xs,x=.ref a/\Ci K H a xs/\∀ p,H p=none->Q (.ref p) (upd H p (.lst (En xs lo hi)))
theorem KH:bx X (bU X.K):=by
 intro pins s σ H x v vl vu lo hi sl Q I rx hs pl pu h
 obtain ⟨a,xs,rfl,hx,q⟩:=h
 cases rx
 obtain ⟨its,r,ht,hz⟩:=I.list hx
 have hlen:=r.length
 refine ⟨"list",_,slot_list_getitem.lookup,ht.isList.typeIs,?_⟩
 refine wpAny_getItem_list_slice ht.isList hs pl pu .none (by simp) ?_ (by rw [List.size_toArray] <;> omega)
 rw [JP,← hlen]
 refine ⟨.ref s.heap.objs.size,_,I.laid (t':=s.toks) (o:=.lst (En xs lo hi)) (fun b ob q=>Heap.get?_push_of_some _ q) (Nat.le_refl _) ?_,rfl,q _ (I.hok.fresh (Nat.le_refl _))⟩
 exact ⟨Nat.le_trans (Hq xs lo hi) hz,_,0,(r.drop (HT.Dd xs.length 0 lo)).take (HT.Dd xs.length xs.length hi - HT.Dd xs.length 0 lo),Heap.get?_push_size _ rfl⟩
noncomputable def G7:V->Bool
 | .non=>true
 | .bl _=>true
 | .int _=>true
 | .str _=>true
 | _=>false
noncomputable def Ti:V->V->Bool
 | .non,.non=>true
 | .bl a,.bl b=>a == b
 | .bl a,.int b=>(if a then 1 else 0) == b
 | .int a,.bl b=>a == (if b then 1 else 0)
 | .int a,.int b=>a == b
 | .str a,.str b=>a == b
 | _,_=>false
theorem U8 {A:Around} {s:Shared} {y x:V} {u v:Value} (ry:RelV y u) (rx:RelV x v) (fy:G7 y=true) (fx:G7 x=true):SeqAt.EqAt A s u v (Ti y x):=by
 cases y with
 | non =>
  cases ry
  cases x with
  | non=>cases rx; exact SeqAt.EqAt.same _
  | bl b=>cases rx; exact SeqAt.EqAt.none_bool b
  | int b=>obtain ⟨t,rfl⟩:=rx; exact SeqAt.EqAt.none_int b t
  | str b=>obtain ⟨t,rfl⟩:=rx; exact SeqAt.EqAt.none_str b t
  | _=>exact absurd (show false=true from fx) Bool.false_ne_true
 | bl a =>
  cases ry
  cases x with
  | non=>cases rx; exact SeqAt.EqAt.bool_none a
  | bl b=>cases rx; exact SeqAt.EqAt.bool_bool a b
  | int b=>obtain ⟨t,rfl⟩:=rx; exact SeqAt.EqAt.bool_int a b t
  | str b=>obtain ⟨t,rfl⟩:=rx; exact SeqAt.EqAt.bool_str a b t
  | _=>exact absurd (show false=true from fx) Bool.false_ne_true
 | int a =>
  obtain ⟨t',rfl⟩:=ry
  cases x with
  | non=>cases rx; exact SeqAt.EqAt.int_none a t'
  | bl b=>cases rx; exact SeqAt.EqAt.int_bool a t' b
  | int b=>obtain ⟨t,rfl⟩:=rx; exact SeqAt.EqAt.int_int a t' b t
  | str b=>obtain ⟨t,rfl⟩:=rx; exact SeqAt.EqAt.int_str a t' b t
  | _=>exact absurd (show false=true from fx) Bool.false_ne_true
 | str a =>
  obtain ⟨t',rfl⟩:=ry
  cases x with
  | non=>cases rx; exact SeqAt.EqAt.str_none a t'
  | bl b=>cases rx; exact SeqAt.EqAt.str_bool a t' b
  | int b=>obtain ⟨t,rfl⟩:=rx; exact SeqAt.EqAt.str_int a t' b t
  | str b=>obtain ⟨t,rfl⟩:=rx; exact SeqAt.EqAt.str_str a t' b t
  | _=>exact absurd (show false=true from fx) Bool.false_ne_true
 | _=>exact absurd (show false=true from fy) Bool.false_ne_true
noncomputable def MN (x:V) (u:Value):Bool:=match u with
 | .none=>Ti .non x
 | .bool b=>Ti (.bl b) x
 | .int i _=>Ti (.int i) x
 | .str z _=>Ti (.str z) x
 | _=>false
theorem QL {x y:V} {u:Value} (r:RelV y u) (f:G7 y=true):MN x u=Ti y x:=by
 cases y with
 | non=>cases r; rfl
 | bl b=>cases r; rfl
 | int i=>obtain ⟨t,rfl⟩:=r; rfl
 | str z=>obtain ⟨t,rfl⟩:=r; rfl
 | _=>exact absurd (show false=true from f) Bool.false_ne_true
theorem HJ {x:V}:∀ {xs:List V} {us:List Value},Vals xs us->xs.all G7=true->us.any (MN x)=xs.any fun y=>Ti y x
 | _,_,.nil,_=>rfl
 | y::xs,u::us,.cons r t,f=>by
  rw [List.all_cons,Bool.and_eq_true] at f
  rw [List.any_cons,List.any_cons,QL r f.1,HJ t f.2]
theorem FW {A:Around} {s:Shared} {x:V} {v:Value} (rx:RelV x v) (fx:G7 x=true):∀ {xs:List V} {us:List Value},Vals xs us->xs.all G7=true->∀ u∈us,SeqAt.EqAt A s u v (MN x u)
 | _,_,.nil,_=>fun u hu=>by cases hu
 | y::xs,u::us,.cons r t,f=>fun u' hu=>by
  rw [List.all_cons,Bool.and_eq_true] at f
  rcases List.mem_cons.mp hu with rfl | hu
  ·rw [QL r f.1]; exact U8 r rx f.1 fx
  ·exact FW rx fx t f.2 u' hu
noncomputable def inV (x:V) (xs:List V):Bool:=xs.any fun y=>Ti y x
noncomputable def Zy (K:PySem.W.Frag) (neg:Bool):R2:=fun x y H Q=>∃ p xs,y=.ref p/\(Ci K H p xs \/ Gy K H p xs)/\G7 x=true/\xs.all G7=true/\Q (.bl (if neg then !inV x xs else inV x xs)) H
theorem Nu:GD X (compareOp .In) (Zy X.K false):=by
 intro pins s σ H x y v u Q I rx ry h
 obtain ⟨p,xs,rfl,hq,fx,fs,q⟩:=h
 cases ry
 rcases hq with hq | hq
 ·obtain ⟨its,r,pl,hz⟩:=I.list hq
  refine SeqAt.in_listAt (MN x) pl.isList (fun w hw=>FW rx fx r fs w (by simpa using hw)) ⟨.bl _,H,I,rfl,?_⟩
  rw [show its.toArray.any (MN x)=its.any (MN x) by simp,HJ r fs]
  exact q
 ·obtain ⟨its,r,pl,hz⟩:=I.tuple hq
  refine SeqAt.in_tupleAt (MN x) pl (fun w hw=>FW rx fx r fs w (by simpa using hw)) ⟨.bl _,H,I,rfl,?_⟩
  rw [show its.toArray.any (MN x)=its.any (MN x) by simp,HJ r fs]
  exact q
theorem KQ:GD X (compareOp .NotIn) (Zy X.K true):=by
 intro pins s σ H x y v u Q I rx ry h
 obtain ⟨p,xs,rfl,hq,fx,fs,q⟩:=h
 cases ry
 rcases hq with hq | hq
 ·obtain ⟨its,r,pl,hz⟩:=I.list hq
  refine SeqAt.notIn_listAt (MN x) pl.isList (fun w hw=>FW rx fx r fs w (by simpa using hw)) ⟨.bl _,H,I,rfl,?_⟩
  rw [show its.toArray.any (MN x)=its.any (MN x) by simp,HJ r fs]
  exact q
 ·obtain ⟨its,r,pl,hz⟩:=I.tuple hq
  refine SeqAt.notIn_tupleAt (MN x) pl (fun w hw=>FW rx fx r fs w (by simpa using hw)) ⟨.bl _,H,I,rfl,?_⟩
  rw [show its.toArray.any (MN x)=its.any (MN x) by simp,HJ r fs]
  exact q
theorem Bj:FJ X (.builtin "len") (fun xs H Q=>∃ p ys,xs=[.ref p]/\(Ci X.K H p ys \/ Gy X.K H p ys)/\Q (.int ys.length) H):=by
 intro pins s σ H xs us Q I r h
 obtain ⟨p,ys,rfl,hq,q⟩:=h
 obtain ⟨u,rfl,rx⟩:=vals1 r
 cases rx
 have hn:=Hh
 rcases hq with hq | hq
 ·obtain ⟨its,r',pl,hz⟩:=I.list hq
  have hlen:=r'.length
  exact Calls.call_len_list pl.isList (by simp only [List.size_toArray] <;> omega) ⟨.int ys.length,H,I.tok _,⟨s.toks+1,by rw [List.size_toArray,hlen]⟩,q⟩
 ·obtain ⟨its,r',pl,hz⟩:=I.tuple hq
  have hlen:=r'.length
  exact len_tuple pl (by simp only [List.size_toArray] <;> omega) ⟨.int ys.length,H,I.tok _,⟨s.toks+1,by rw [List.size_toArray,hlen]⟩,q⟩
theorem J7:FJ X (.builtin "len") (fun xs H Q=>∃ z,xs=[.str z]/\z.length<=sizeLine/\Q (.int z.length) H):=by
 intro pins s σ H xs us Q I r h
 obtain ⟨z,rfl,hz,q⟩:=h
 obtain ⟨u,rfl,t,rfl⟩:=vals1 r
 have hn:=Hh
 exact len_str (by omega) ⟨.int z.length,H,I.tok _,⟨_,rfl⟩,q⟩
theorem DR:FJ X (.type "list") (fun xs H Q=>∃ p ys,xs=[.ref p]/\(Ci X.K H p ys \/ Gy X.K H p ys)/\∀ l,H l=none->Q (.ref l) (upd H l (.lst ys))):=by
 intro pins s σ H xs us Q I r h
 obtain ⟨p,ys,rfl,hq,q⟩:=h
 obtain ⟨u,rfl,rx⟩:=vals1 r
 cases rx
 have fin:∀ (its:List Value),Vals ys its->ys.length<=sizeLine->∀ (h':Heap) (c':Nat),(∀ b o',s.heap.get? b=some o'->h'.get? b=some o') ->
   h'.get? s.heap.objs.size=some { cls:=.type "list",dict:=none,data:=.seq its.toArray c',slots:=#[] }->EP X pins σ Q (.ref s.heap.objs.size) { s with heap:=h' }:=fun its r' hz h' c' kp e =>
  ⟨.ref s.heap.objs.size,_,I.laid (t':=s.toks) kp (Nat.le_refl _) (show Bt X.prog X.w _ h' _ (.lst ys) from ⟨hz,its,c',r',e⟩),rfl,q _ (I.hok.fresh (Nat.le_refl _))⟩
 rcases hq with hq | hq
 ·obtain ⟨its,r',pl,hz⟩:=I.list hq
  have hlen:=r'.length
  obtain ⟨o,ho,hc,n,hd⟩:=pl.isList
  exact call_list_seq p (.inl rfl) ho hc hd (fun h' c' kp e=>fin its r' hz h' c' kp e) (by simp only [List.size_toArray] <;> omega)
 ·obtain ⟨its,r',pl,hz⟩:=I.tuple hq
  have hlen:=r'.length
  obtain ⟨o,ho,hc,n,hd⟩:=pl
  exact call_list_seq p (.inr rfl) ho hc hd (fun h' c' kp e=>fin its r' hz h' c' kp e) (by simp only [List.size_toArray] <;> omega)
noncomputable def dX (K:PySem.W.Frag) (T:String) (x:V) (H:Hp):Prop:=match x with
 | .str _=>T = "str"
 | .int _=>T = "int"
 | .ref p=>(T = "list" /\ ∃ xs,Ci K H p xs) \/ (T = "tuple" /\ ∃ o,K.lookup p=some o/\o.cls=.type "tuple" /\ o.dict=none) \/
   (T = "dict" /\ ((∃ kvs,H p=some (.dK kvs)) \/ ∃ kvs,H p=some (.dT kvs))) \/ (T = "set" /\ ∃ S n,H p=some (.set S n))
 | _=>False
theorem QD {pins:List (Addr × Obj)} {σ:St} {H:Hp} {s:Shared} {T:String} {x:V} {v:Value} (I:Inv X pins σ H s) (r:RelV x v) (ty:dX X.K T x H) :
  s.TypeIs v T/\∀ a,v=.ref a->∃ ob,s.heap.get? a=some ob/\ob.dict=none:=by
 cases x with
 | str z =>
  obtain ⟨t,rfl⟩:=r
  cases (show T = "str" from ty)
  exact ⟨typeIs_str s z t,fun _ e=>nomatch e⟩
 | int i =>
  obtain ⟨t,rfl⟩:=r
  cases (show T = "int" from ty)
  exact ⟨typeIs_int s i t,fun _ e=>nomatch e⟩
 | ref p =>
  cases r
  rcases ty with ⟨rfl,xs,hq⟩ | ⟨rfl,o,hk,hc,hd⟩ | ⟨rfl,hk⟩ | ⟨rfl,S,n,hk⟩
  ·obtain ⟨its,_,pl,_⟩:=I.list hq
   refine ⟨pl.isList.typeIs,fun a e=>?_⟩
   cases e
   obtain ⟨o,n,e,c,hd,_⟩:=pl
   exact ⟨o,e,hd⟩
  ·refine ⟨⟨o,I.HN p o hk,hc⟩,fun a e=>?_⟩
   cases e
   exact ⟨o,I.HN _ o hk,hd⟩
  ·have z:∃ o,s.heap.get? p=some o/\o.ExactDict:=by
    rcases hk with ⟨kvs,hk⟩ | ⟨kvs,hk⟩
    ·obtain ⟨_,_,_,_,o,_,_,e,ex,_⟩:=I.hok p _ hk
     exact ⟨o,e,ex⟩
    ·obtain ⟨_,_,_,_,o,_,_,e,ex,_⟩:=I.hok p _ hk
     exact ⟨o,e,ex⟩
   obtain ⟨o,e,ex⟩:=z
   refine ⟨⟨o,e,ex.1⟩,fun a e2=>?_⟩
   cases e2
   exact ⟨o,e,ex.2.1⟩
  ·obtain ⟨o,_,_,_,e,ex,_⟩:=I.hok p _ hk
   refine ⟨⟨o,e,ex.1⟩,fun a e2=>?_⟩
   cases e2
   exact ⟨o,e,ex.2.1⟩
 | _=>exact False.elim ty
noncomputable def bM (K:PySem.W.Frag) (T:String) (r:V->List V->Hp->VK->Prop) (to:TE):TE:=fun σ H Q=>to σ H fun x H1=>dX K T x H1/\r x [] H1 Q
noncomputable def fO (K:PySem.W.Frag) (T:String) (r:V->List V->Hp->VK->Prop) (to:TE) (t:TA):TE:=fun σ H Q=>to σ H fun x H1=>dX K T x H1/\t σ H1 fun xs H2=>r x xs H2 Q
variable {o e:Expr} {es:List Expr} {to:TE} {t:TA} {name:Str} {apos cpos:Pos} {T id:String} {r:V->List V->Hp->VK->Prop}
theorem QK (pa:PlainAttrs T) (slot:Slot T name id) (hty:typeOf (.builtin id)=pure (.type "method_descriptor")) (hm:Ze X id r) (ho:PE X o to)
  (hbase:attributeBase o name X.env (eval o X.env)=eval o X.env:=by rfl) (hline:(apos.endLine == cpos.line)=true:=by rfl):PE X (.Call (.Attribute o name apos) [] [] cpos) (bM X.K T r to):=by
 intro pins s σ H Q I h
 refine wpAny_Call_method0_late hbase hline (Bo (ho pins s σ H _ I h) fun v s1 hq0=>?_)
 obtain ⟨x,H1,I1,r1,ty,q1⟩:=hq0
 obtain ⟨h1,h2⟩:=QD I1 r1 ty
 exact ⟨T,id,pa,slot,hty,h1,h2,Calls.callWith_builtin rfl (PySem.evalArgs_none (hm pins s1 σ H1 x [] v [] Q I1 r1 .nil q1))⟩
theorem Ea (pa:PlainAttrs T) (slot:Slot T name id) (hty:typeOf (.builtin id)=pure (.type "method_descriptor")) (hm:Ze X id r) (ho:PE X o to) (ha:PA X (e::es) t)
  (hbase:attributeBase o name X.env (eval o X.env)=eval o X.env:=by rfl)
  (hfew:((backTo cpos (starEach (e::es) X.env)).all (fun x=>!x.1) && (backToKw cpos (keywordEach [] X.env)).all (fun x=>x.1.isSome)
   && decide ((e::es).length+([]:List Keyword).length+(if ([]:List Keyword).isEmpty then 0 else 1)<30))=true:=by rfl)
  (hline:(apos.endLine == cpos.line)=true:=by rfl) (hs:starEach (e::es) X.env=(false,eval e X.env)::starEach es X.env:=by rfl) (hplain:(backTo cpos (starEach es X.env)).any (·.1)=false:=by rfl) :
  PE X (.Call (.Attribute o name apos) (e::es) [] cpos) (fO X.K T r to t):=by
 intro pins s σ H Q I h
 refine wpAny_Call_method_late hbase hfew hline rfl (Bo (ho pins s σ H _ I h) fun v s1 hq0=>?_)
 obtain ⟨x,H1,I1,r1,ty,q1⟩:=hq0
 obtain ⟨h1,h2⟩:=QD I1 r1 ty
 refine ⟨T,id,pa,slot,hty,h1,h2,?_⟩
 have hA:=ha cpos pins s1 σ H1 _ I1 q1
 rw [hs] at hA ⊢
 refine Calls.callWith_builtin (by show (false || (backTo cpos (starEach es X.env)).any (·.1))=false; rw [hplain] <;> rfl) (Calls.evalArgs_plain ?_)
 exact Bo hA fun us s2 ⟨vs,H2,I2,r2,q2⟩=>hm pins s2 σ H2 x vs v us Q I2 r1 r2 q2
end
end L2
namespace L2
open PySem PySem.Spec PyProof.Rows
noncomputable def eU (X:Cx) (id:String) (r:V->List V->Hp->VK->Prop):Prop :=
 ∀ (pins:List (Addr × Obj)) (s:Shared) (σ:St) (H:Hp) (x:V) (xs:List V) (v:Value) (us:List Value) (Q:VK),Inv X pins σ H s->RelV x v->Vals xs us->r x xs H Q ->
  wpAny (model X.prog X.w) X.A (call (.builtin id) (v::us)) (EP X pins σ Q) X.xe s
theorem Vals.one:∀ {x:V} {us:List Value},Vals [x] us->∃ u,us=[u]/\RelV x u:=fun h=>by cases h with | cons r t=>cases t; exact ⟨_,rfl,r⟩
theorem Vals.two:∀ {x y:V} {us:List Value},Vals [x,y] us->∃ u v,us=[u,v]/\RelV x u/\RelV y v:=fun h=>by cases h with | cons r t=>cases t with | cons q t=>cases t; exact ⟨_,_,rfl,r,q⟩
section
variable {X:Cx} {pins:List (Addr × Obj)} {σ:St} {H:Hp} {s:Shared} {l b:Addr} {xs ys zs:List V}
theorem Inv.U7 {its its':List Value} {n:Nat} {f:Array Value->Array Value} {t':Nat} (I:Inv X pins σ H s) (hH:H l=some (.lst xs))
  (e:s.heap.get? l=some { cls:=.type "list",data:=.seq its.toArray n }) (hf:f its.toArray=its'.toArray) (hv:Vals ys its') (hz:ys.length<=sizeLine) :
  Inv X pins σ (upd H l (.lst ys)) { s with heap:=s.heap.update l (Obj.mapSeq f),toks:=t' }:=by
 have q:=PySem.IsL.update e f
 rw [hf] at q
 refine I.write (x:=l) (e:=l) (by rw [hH]; exact trivial) (.inl rfl) (fun b' u hb hu=>(Heap.get?_update_other s.heap (Obj.mapSeq f) (Ne.symm hb)).trans hu) ⟨_,q⟩ ?_
 exact ⟨hz,its',_,hv,q⟩
theorem Inv.Yi {its:List Value} {t':Nat} (I:Inv X pins σ H s) (hv:Vals ys its) (hz:ys.length<=sizeLine) :
  Inv X pins σ (upd H s.heap.objs.size (.lst ys)) { s with heap:=s.heap.push { cls:=.type "list",data:=.seq its.toArray },toks:=t' } :=
 I.laid (fun _ _ q=>Heap.get?_push_of_some _ q) (Nat.le_refl _) ⟨hz,its,0,hv,Heap.get?_push_size _ rfl⟩
theorem Inv.fresh (I:Inv X pins σ H s):H s.heap.objs.size=none:=I.hok.fresh (Nat.le_refl _)
theorem Inv.Sh (I:Inv X pins σ H s) (hH:H l=some (.lst xs)):xs.length<=sizeLine/\∃ (its:List Value) (n:Nat),Vals xs its/\xs.length=its.length/\s.heap.get? l=some { cls:=.type "list",data:=.seq its.toArray n }:=by
 obtain ⟨z,its,n,r,e⟩:=I.hok l _ hH
 exact ⟨z,its,n,r,r.length,e⟩
theorem Qe {n:Nat} (h:n<=sizeLine):Builtin.List.listTooLong n=false:=by
 unfold Builtin.List.listTooLong
 exact decide_eq_false (by omega)
end
section
variable {X:Cx}
noncomputable def Sw:V->List V->Hp->VK->Prop:=fun x vs H Q=>∃ l xs y,x=.ref l/\vs=[y]/\H l=some (.lst xs)/\xs.length<sizeLine/\Q .non (upd H l (.lst (xs++[y])))
theorem Bp:eU X "list.append" Sw:=by
 intro pins s σ H x vs v us Q I rx rv h
 obtain ⟨l,xs,y,rfl,rfl,hH,hz,q⟩:=h
 cases rx
 obtain ⟨u,rfl,ru⟩:=rv.one
 obtain ⟨z,its,n,r,hl,e⟩:=I.Sh hH
 refine call_meets F.slot_list_append ⟨_,e,rfl⟩ F.entry_list_append (F.args_list_append_2 _ _) (PySem.list_append l its.toArray n u (by rw [List.size_toArray]; omega)) ⟨e,?_⟩
 refine ⟨.non,_,I.U7 (its':=its++[u]) hH e (by simp) (r.append (.cons ru .nil)) ?_,rfl,q⟩
 rw [List.length_append,List.length_singleton]
 omega
noncomputable def S6:V->List V->Hp->VK->Prop:=fun x vs H Q=>∃ l b xs zs,x=.ref l/\vs=[.ref b]/\H l=some (.lst xs)/\H b=some (.lst zs)/\xs.length+zs.length<=sizeLine/\Q .non (upd H l (.lst (xs++zs)))
theorem Ob:eU X "list.extend" S6:=by
 intro pins s σ H x vs v us Q I rx rv h
 obtain ⟨l,b,xs,zs,rfl,rfl,hH,hB,hz,q⟩:=h
 cases rx
 obtain ⟨u,rfl,ru⟩:=rv.one
 cases ru
 obtain ⟨z,its,n,r,hl,e⟩:=I.Sh hH
 obtain ⟨z2,its2,n2,r2,hl2,e2⟩:=I.Sh hB
 have hsz:its.toArray.size+its2.toArray.size<=sizeLine:=by rw [List.size_toArray,List.size_toArray]; omega
 have hlong:¬ (!its.toArray.isEmpty && Builtin.List.listTooLong (its.toArray.size+its2.toArray.size))=true:=by
  rw [Qe hsz,Bool.and_false]
  exact Bool.false_ne_true
 refine call_meets F.slot_list_extend ⟨_,e,rfl⟩ F.entry_list_extend (F.args_list_extend_2 _ _)
  (AutoSeq1.list_extend_list_list_0 l its.toArray n b its2.toArray n2 hlong (by rw [List.size_toArray]; omega) (by omega)) ⟨e,e2,?_⟩
 refine ⟨.non,_,I.U7 (its':=its++its2) hH e (by simp) (r.append r2) ?_,rfl,q⟩
 rw [List.length_append]
 omega
end
section
variable {prog:Program} {w:World} {A:Around} {E:Value->Shared->Prop} {s:Shared}
end
section
variable {X:Cx}
end
end L2
namespace Att
open PySem PySem.W PySem.Calls PyProof.Rows
theorem Hu {P:Params} {h:Heap}:∀ (ns:List Int) (vs:List Value),WellAll P h vs (ns.map WData.int)->IntsAre vs ns:=by
 intro ns
 induction ns with
 | nil =>
  intro vs w
  rw [List.map_nil] at w
  cases w
  exact .nil
 | cons n ns ih =>
  intro vs w
  rw [List.map_cons] at w
  cases w with
  | cons a b =>
   cases a
   exact .cons _ _ (ih _ b)
theorem Nq {l:OpenLaw} {n:Nat} (hn:l.most=some n) {P:Params} {h:Heap} {args:List WData} {vals:List Value}
  (hpre:l.row.toRowW.claim.pre args=true) (hwl:WellAll P h vals args) :
  ∃ a vs ns,vals=[Value.ref a]/\args=[WData.list (ns.map WData.int)]/\h.get? a=some { cls:=.type "list",data:=.seq vs.toArray }/\IntsAre vs ns/\ns.length<=n:=by
 have hsh:WShape.hasAll [] args [.list .int]=true:=(pre_splitW hpre).1
 have hc:l.pre.holds [] { args:=args }=true:=(pre_splitW hpre).2
 obtain ⟨d,r,rfl,h1,h2⟩:=hasAllW_cons hsh
 obtain rfl:=hasAllW_nil h2
 obtain ⟨xs,rfl,h3⟩:=hasW_list h1
 obtain ⟨ns,rfl⟩:=items_int h3
 have hlen:ns.length<=n:=by
  unfold OpenLaw.pre at hc
  have h4:(WTm.not (.lt (.lit (.int (n:Int))) (.len (.arg 0)))).holds [] { args:=[.list (ns.map .int)] }=true:=by
   have h4:=(holds_andW hc).1
   rw [hn] at h4
   exact h4
  have h5:=condW_of h4 (w_not (w_lt w_lit (w_len_list (w_arg rfl))))
  rw [List.length_map] at h5
  refine Nat.le_of_not_lt fun q=>?_
  have q':(n:Int)<((ns.length:Nat):Int):=by omega
  first
   | (rw [decide_eq_true q'] at h5; exact absurd h5 (by decide))
   | (simp at h5; omega)
 cases hwl with
 | cons w1 w2 =>
  cases w2
  cases w1 with
  | list ho hall=>exact ⟨_,_,ns,rfl,rfl,ho,Hu ns _ hall,hlen⟩
theorem Oh (l:OpenLaw) (args:List WData):l.row.toRowW.claim.post args (.bool true) args=true :=
 postW_of (r:=l.row.toRowW) (X:=(true == true))
  (show WShape.has [] (.bool true) .bool=true by first | rfl | decide | simp [WShape.has,WShape.arms,WShape.armsAll])
  (show (WTm.eq .res (.lit (.bool true))).value [] { args:=args,res:=some (.bool true),after:=args }=some (.bool (true == true)) from w_eq_bool (w_res rfl) w_lit) rfl
theorem Ku {l:OpenLaw} {n:Nat} {q:Program} {loose:List Str} {XP:(Str->Option Value)->Heap->Prop} {YP:World->Heap->Prop} {d:DefRec}
  (hn:l.most=some n) (hdf:d.params.defaults=[])
  (call:∀ (w:World) (s₀ s₁:Shared) (mg mb:Str->Option Value) (fa:Addr) (o:Obj) (pm cd doc:Value) (a:Addr) (vs:List Value) (ns:List Int),
   Ground q loose [] XP w s₀ mg mb s₁.heap->YP w s₁.heap ->
   s₁.heap.get? fa=some o->o.data=.func (docDef d.name d.params d.body d.scope pm cd doc)->s₁.heap.CodeRec cd d.name->mg d.name=some (.ref fa) ->
   s₁.heap.get? a=some { cls:=.type "list",data:=.seq vs.toArray }->IntsAre vs ns->ns.length<=n->s₁.gens = #[] ->
   codeAny (model l.prog w) callerA (.call (.ref fa) ⟨[.ref a],[]⟩) (fun r s'=>r=.ok (.ret (.bool true))/\OldK s₁.heap s'.heap/\s'.os=s₁.os/\AllBare s'.gens) s₁) :
  WalkO q loose XP YP l.row.toRowW d [] (fun f vs=>PySem.call f vs):=by
 intro w s₀ s₁ mg mb G Y fa o pm cd doc dV kV ho hd hcd hD hmg hg args vals as hpre hlay hrd hwl hlo
 obtain rfl:dV=.none:=Dflts.none hD hdf
 obtain rfl:kV=.none:=Dflts.noKw hD
 obtain ⟨a,vs,ns,rfl,rfl,hobj,hints,hlen⟩:=Nq hn hpre hwl
 refine enter_call (codeAny_mono (call w s₀ s₁ mg mb fa o pm cd doc a vs ns G Y ho (fd_plain hd) hcd hmg hobj hints hlen hg) fun r s' hq=>?_)
 obtain ⟨rfl,h2,h3,h4⟩:=hq
 exact ⟨.inl ⟨.bool true,.bool true,[],rfl,fun _=>rfl,.bool true,Oh l _,fun _=>⟨List.Pairwise.nil,fun _ hm=>(nomatch hm)⟩⟩,h2,h3,h4⟩
section
variable {prog:Program} {w:World} {A:Around} {E:Value->Shared->Prop} {s:Shared} {K:Frag}
end
end Att
namespace L2
open PySem PySem.Spec PyProof.Rows
theorem Ji:∀ {vs:List Value} {ns:List Int},IntsAre vs ns->Vals (ns.map V.int) vs
 | _,_,.nil=>.nil
 | _,_,.cons n t h=>.cons ⟨t,rfl⟩ (Ji h)
noncomputable def Only (H:Hp):Prop:=∀ b,H b=none \/ ∃ o xs,H b=some (.frz o (.lst xs))
theorem Q7 {P:Program} {w:World} {K:PySem.W.Frag} {mg mb:Str->Option Value} {CX:Oc} {k:Nat} {fa a:Addr} {fd:FuncData} {x:Str} {sp:Sp} {s₁:Shared} {vs:List Value} {ns:List Int}
  (KX:K.In s₁.heap) (hns:s₁.heap.Ns mainGlobals mg) (hb:s₁.heap.Ns builtinsNs mb) (hbb:∀ x:Str,x ≠ "__name__"->mb x=bootBuiltins x) (hlim:s₁.heap.NoLimit) (hg:s₁.gens = #[])
  (ha:s₁.heap.get? a=some { cls:=.type "list",data:=.seq vs.toArray }) (hi:IntsAre vs ns) (hl:ns.length<=sizeLine) (hr:BL k callerA)
  (F:∀ base:Heap,K.In base->base.Ns mainGlobals mg->Aw P w K mg base CX k fa fd [x] sp) (hbind:∀ (s:Shared) (u:Value),BindsTo s fd ⟨[u],[]⟩ [(x,u)])
  (hsp:∀ H:Hp,Only H->Ci K H a (ns.map V.int)->sp [.ref a] H (fun v _=>v=.bl true) fun _ _ _=>False)
  (hCX:∀ H e s',CX [] H s₁ (fun _ _ _=>False) e s'->False) :
  codeAny (model P w) callerA (.call (.ref fa) ⟨[.ref a],[]⟩) (fun r s'=>r=.ok (.ret (.bool true))/\OldK s₁.heap s'.heap/\s'.os=s₁.os/\AllBare s'.gens) s₁:=by
 have rv:=Ji hi
 have lenV:=hi.length
 have core:∀ H:Hp,Only H->Ci K H a (ns.map V.int)->Gw P w H s₁.heap->(∀ b,H b ≠ none->b=a)->(H a ≠ none->K.lookup a=none) ->
   codeAny (model P w) callerA (.call (.ref fa) ⟨[.ref a],[]⟩) (fun r s'=>r=.ok (.ret (.bool true))/\OldK s₁.heap s'.heap/\s'.os=s₁.os/\AllBare s'.gens) s₁:=by
  intro H hO hS hok hA hK
  have base_of:∀ {b:Addr} {o:Obj},s₁.heap.get? b=some o->H b=none->(KR s₁.heap H).get? b=some o:=fun e n=>Ql e n
  have noA:∀ {b:Addr} {o:Obj} {es:Array DictEntry} {ep:Nat},s₁.heap.get? b=some o->o.data=.dict es ep->H b=none:=fun {b o es ep} e d=>by
   cases q:H b with
   | none=>rfl
   | some u =>
    have e':b=a:=hA b (by rw [q]; simp)
    subst e'
    rw [ha] at e; cases e
    have d':Data.seq vs.toArray _=Data.dict es ep:=d
    cases d'
  have nsK:∀ {b:Addr} {m:Str->Option Value},s₁.heap.Ns b m->(KR s₁.heap H).Ns b m:=fun {b m} ⟨o,es,ep,e,d,r⟩=>⟨o,es,ep,base_of e (noA e d),d,r⟩
  have hKb:K.In (KR s₁.heap H):=fun b o e=>base_of (KX b o e) (by
   cases q:H b with
   | none=>rfl
   | some u =>
    have e':b=a:=hA b (by rw [q]; simp)
    subst e'
    rw [hK (by rw [q]; simp)] at e; cases e)
  have hM:Mod K mg (KR s₁.heap H):=⟨hKb,nsK hns,⟨mb,nsK hb,hbb⟩,let ⟨mc,h1,h2⟩:=hlim; ⟨mc,nsK h1,h2⟩⟩
  have e0:Kq P w K mg (KR s₁.heap H) callerA [] s₁ H:=⟨rfl,hM,fun b o e=>Sv e,Nat.le_of_eq (Ow _ _),trivial,fun b hb=>absurd (show b∈([]:List Addr) from hb) (by simp),hok,.of_eq hg⟩
  refine codeAny_mono ((F _ hKb (nsK hns)).run callerA [] s₁ H ⟨[.ref a],[]⟩ [.ref a] [.ref a] _ _ hr e0 (hbind s₁ (.ref a)) (.cons rfl .nil) (hsp H hO hS)) fun r s' h=>?_
  cases r with
  | error e=>exact (hCX H e s' h).elim
  | ok fl =>
   cases fl with
   | next=>exact False.elim h
   | brk=>exact False.elim h
   | cont=>exact False.elim h
   | ret u =>
    obtain ⟨v,H',os,bare,un,hok',r',q⟩:=h
    have q':v=.bl true:=q
    subst q'
    obtain rfl:u=Value.bool true:=r'
    refine ⟨rfl,OldK.of_keep fun b o e=>?_,os,bare⟩
    cases q:H b with
    | none=>exact un.keep b o e q (by intro z; exact absurd (show b∈([]:List Addr) from z) (by simp)) (by simp)
    | some u =>
     rcases hO b with z | ⟨ob,xs,z⟩
     ·rw [q] at z; cases z
     ·have z2:=un.frzs b ob _ z
      obtain ⟨e1,_⟩:=hok b _ z
      obtain ⟨e2,_⟩:=hok' b _ z2
      rw [e] at e1; cases e1
      exact e2
 cases hk:K.lookup a with
 | some o =>
  have e:=KX a o hk
  rw [ha] at e
  cases e
  refine core (fun _=>none) (fun _=>.inl rfl) (.inr ⟨_,vs.toArray,_,hk,rfl,rfl,rfl,by rw [List.size_toArray,lenV]; exact hl,by simpa using rv⟩) (fun b u z=>by have z':(none:Option HO)=some u:=z; cases z') (fun b z=>absurd rfl z) fun z=>absurd rfl z
 | none =>
  refine core (fun b=>if b=a then some (.frz { cls:=.type "list",data:=.seq vs.toArray } (.lst (ns.map V.int))) else none) (fun b=>?_) (.inl (.inr ⟨{ cls:=.type "list",data:=.seq vs.toArray },if_pos rfl⟩)) (fun b u z=>?_) (fun b z=>?_) fun _=>hk
  ·by_cases hb:b=a
   ·exact .inr ⟨_,_,if_pos hb⟩
   ·exact .inl (if_neg hb)
  ·by_cases hb:b=a
   ·have z':=(if_pos hb).symm.trans z
    cases z'
    subst hb
    exact ⟨ha,by rw [List.length_map]; exact hl,vs,_,rv,ha⟩
   ·have z':=(if_neg hb).symm.trans z
    cases z'
  ·by_cases hb:b=a
   ·exact hb
   ·exact absurd (if_neg hb) z
end L2
namespace L2
open PySem PySem.Spec PyProof.Rows
theorem Ra {l:PySem.W.OpenLaw} {n k:Nat} {q:Program} {loose:List Str} {XP:(Str->Option Value)->Heap->Prop} {YP:World->Heap->Prop} {d:DefRec} {K:Params->PySem.W.Frag} {CX:World->Oc} {sp:World->Sp} {x:Str}
  (hn:l.most=some n) (hn2:n<=sizeLine) (hdf:d.params.defaults=[]) (hr:BL k callerA)
  (hY:∀ (w:World) (h:Heap),YP w h->(K w.params).In h)
  (F:∀ (w:World) (mg:Str->Option Value) (fa:Addr) (h:Heap),(K w.params).In h->h.Ns mainGlobals mg->mg d.name=some (.ref fa) ->
   ∃ fd:FuncData,(∀ (s:Shared) (u:Value),BindsTo s fd ⟨[u],[]⟩ [(x,u)]) /\
    ∀ base:Heap,(K w.params).In base->base.Ns mainGlobals mg->Aw l.prog w (K w.params) mg base (CX w) k fa fd [x] (sp w))
  (hsp:∀ (w:World) (H:Hp) (a:Addr) (ns:List Int),ns.length<=n->Only H->Ci (K w.params) H a (ns.map V.int)->sp w [.ref a] H (fun v _=>v=.bl true) fun _ _ _=>False)
  (hCX:∀ (w:World) (H:Hp) (s:Shared) (e:Value) (s':Shared),CX w [] H s (fun _ _ _=>False) e s'->False) :
  PySem.W.WalkO q loose XP YP l.row.toRowW d [] (fun f vs=>PySem.call f vs):=by
 refine Att.Ku hn hdf fun w s₀ s₁ mg mb fa o pm cd doc a vs ns G Y ho hd hcd hmg hobj hints hlen hg=>?_
 have KX:=hY w _ Y
 obtain ⟨fd,hb,hF⟩:=F w mg fa _ KX G.T.g hmg
 exact Q7 KX G.T.g G.T.b G.T.builtins G.T.nolimit hg hobj hints (Nat.le_trans hlen hn2) hr hF hb (fun H hO hS=>hsp w H a ns hlen hO hS) fun H e s'=>hCX w H s₁ e s'
end L2
namespace L2
open PySem PySem.Spec PyProof.Rows
noncomputable def inClass (s:Stmt) (j:Nat):Stmt:=match s with
 | .ClassDef _ _ _ body _ _ _ _ _ _ _=>body.getD j (.Pass ⟨0,0,0,0⟩)
 | _=>.Pass ⟨0,0,0,0⟩
noncomputable def Dm (s:Stmt):Arguments:=match s with
 | .FunctionDef _ a _ _ _ _ _ _ _ _=>a
 | _=>{ posonlyargs:=[],args:=[],vararg:=none,kwonlyargs:=[],kw_defaults:=[],kwarg:=none,defaults:=[] }
noncomputable def DQ (s:Stmt):List Stmt:=match s with
 | .FunctionDef _ _ b _ _ _ _ _ _ _=>b
 | _=>[]
noncomputable def Ae (s:Stmt):Scope:=match s with
 | .FunctionDef _ _ _ _ _ _ sc _ _ _=>sc
 | _=>{ kind:=.function,names:=[],isGenerator:=false,isCoroutine:=false }
noncomputable abbrev Bc:Oc:=fun _ _ _ _ _ _=>False
noncomputable abbrev E0:XK:=fun _ _ _=>False
theorem Ay {X:Cx}:Gn Bc X E0:=fun _ _ _ _ _ _ _ h=>h.elim
structure Cq (K:PySem.W.Frag) (x qual:Str) (st:Stmt) (f:Addr) (fd:FuncData):Prop where
 ex:∃ (oc:Value) (od:Option Addr) (kV doc pm:Value) (an:Option Addr) (cdv ct:Value) (osl:Array (Option Value)),
  fd=PySem.W.fnOf x qual (Dm st) (DQ st) (Ae st) .none kV doc pm an cdv ct/\K.lookup f=some ⟨oc,od,.func fd,osl⟩/\PySem.W.codeIn K cdv qual=true
 kp:PySem.W.keepIn K (.ref f)=true
section
variable {P:Program} {w:World} {K:PySem.W.Frag} {mg:Str->Option Value} {base:Heap}
theorem Cq.ok {x qual:Str} {st:Stmt} {f:Addr} {fd:FuncData} {N ps:List Str} {k:Nat} {sp:Sp} (F:Cq K x qual st f fd) (S:Ar N ps (Ae st)) (len:∀ vs H Q E,sp vs H Q E->vs.length=ps.length)
  (hbody:∀ (cdv:Value) (A:Around) (outer:List Env) (s:Shared) (H:Hp) (vs:List V) (Q:VK) (E:XK),BL k (A.deeper (envOfC qual (Ae st) s.heap.objs.size f cdv))->sp vs H Q E ->
   ∃ t,Lh (Ox Bc P w K mg base N qual (Ae st) f cdv A outer s H E).Zd (DQ st) t/\t { nx:=fun _ H'=>Q .non H',rt:=Q } (start N vs) H):Aw P w K mg base Bc (k+1) f fd ps sp:=by
 obtain ⟨oc,od,kV,doc,pm,an,cdv,ct,osl,rfl,lk,hcd⟩:=F.ex
 refine Xj lk hcd S len fun A outer s H vs Q E hr hsp=>?_
 obtain ⟨t,h,q⟩:=hbody cdv A outer s H vs Q E hr hsp
 exact ⟨t,h.Zd,q⟩
theorem Cq.binds {x qual:Str} {st:Stmt} {f:Addr} {fd:FuncData} {ps:List Str} (F:Cq K x qual st f fd)
  (h:∀ (kV doc pm:Value) (an:Option Addr) (cdv ct:Value) (us:List Value),us.length=ps.length->bindArgs (PySem.W.fnOf x qual (Dm st) (DQ st) (Ae st) .none kV doc pm an cdv ct) ⟨us,[]⟩=pure (ps.zip us)):Binds K fd ps []:=by
 obtain ⟨oc,od,kV,doc,pm,an,cdv,ct,osl,rfl,lk,hcd⟩:=F.ex
 exact .all (h kV doc pm an cdv ct)
theorem Mg {x qual:Str} {st:Stmt} {f:Addr} {oc:Value} {od an:Option Addr} {osl:Array (Option Value)} {kV doc pm cdv ct:Value} (l:K.lookup f=some ⟨oc,od,.func (PySem.W.fnOf x qual (Dm st) (DQ st) (Ae st) .none kV doc pm an cdv ct),osl⟩)
  (c:PySem.W.codeIn K cdv qual=true) (k:PySem.W.keepIn K (.ref f)=true):Cq K x qual st f (PySem.W.fnOf x qual (Dm st) (DQ st) (Ae st) .none kV doc pm an cdv ct):=⟨⟨oc,od,kV,doc,pm,an,cdv,ct,osl,rfl,l,c⟩,k⟩
end
theorem Ga {A:Around} {k:Nat} (hr:BL k A):A.units+1<cLine:=Nat.lt_of_le_of_lt (Nat.add_le_add_left (by decide:1<=64) _) hr.units
theorem Aq {n:Nat} (h:n<=1000):n<sizeLine:=Nat.lt_of_le_of_lt h (by decide)
section
variable {X:Cx}
theorem pv (i:Nat) {x:Str} {pos:Pos} (hN:X.N[i]? = some x:=by rfl) (hv:cu X.env.scope x:=by first | exact Or.inl rfl | exact Or.inr (Or.inl rfl) | exact Or.inr (Or.inr rfl)) (hd:(x == ("__debug__" : Str))=false:=by decide)
  (hcd:(x == ("__classdict__" : Str))=false:=by decide):PE X (.Name x pos) (W_ i):=Vf hN hv hd hcd
end
theorem De {A B:Prop} (h:B):if false=true then A else B:=by
 rw [if_neg Bool.false_ne_true]
 exact h
theorem D_ {A B:Prop} (h:A):if true=true then A else B:=by
 rw [if_pos rfl]
 exact h
theorem DP {c A B:Prop} [Decidable c] (h1:c->A) (h2:¬ c->B):if c then A else B:=by
 by_cases h:c
 ·rw [if_pos h]
  exact h1 h
 ·rw [if_neg h]
  exact h2 h
theorem Tc {c A B:Prop} [Decidable c] (hc:c) (h:B):if (!decide c)=true then A else B:=by
 rw [decide_eq_true hc]
 exact De h
noncomputable def Al (H H':Hp):Prop:=∀ b o,H b=some o->H' b=some o
theorem Al.refl (H:Hp):Al H H:=fun _ _ h=>h
theorem Al.trans {H H1 H2:Hp} (a:Al H H1) (b:Al H1 H2):Al H H2:=fun c o h=>b c o (a c o h)
theorem Al.free {H H':Hp} (e:Al H H') {l:Addr} (h:H' l=Option.none):H l=Option.none:=by
 cases q:H l with
 | none=>rfl
 | some o =>
  rw [e l o q] at h
  cases h
theorem Al.seq {K:PySem.W.Frag} {H H':Hp} {a:Addr} {xs:List V} (e:Al H H') (h:Ci K H a xs):Ci K H' a xs:=by
 rcases h with (h | ⟨o,h⟩) | h
 ·exact .inl (.inl (e _ _ h))
 ·exact .inl (.inr ⟨o,e _ _ h⟩)
 ·exact .inr h
end L2
namespace L2
open PySem PySem.Spec PyProof.Rows
section
variable {X:Cx}
end
section
variable {κ:Type} [DecidableEq κ]
theorem NP:∀ {l:List κ} {k:κ},l.Nodup->¬ k∈l->(l++[k]).Nodup
 | [],k,_,_=>by simp
 | a::r,k,h,hk=>by
  obtain ⟨h1,h2⟩:=List.nodup_cons.mp h
  show (a::(r++[k])).Nodup
  refine List.nodup_cons.mpr ⟨fun m=>?_,NP h2 fun m=>hk (List.mem_cons.mpr (Or.inr m))⟩
  rcases List.mem_append.mp m with q | q
  ·exact h1 q
  ·exact hk (List.mem_cons.mpr (Or.inl (List.mem_singleton.mp q).symm))
end
end L2
namespace L2
open PySem PySem.Spec PyProof.Rows
section
variable {prog:Program} {w:World} {A:Around} {E:Value->Shared->Prop} {s:Shared}
theorem JM {it a:Addr} {i:Nat} {items:Array Value} {x:Value} {Q:Value->Shared->Prop} (j:s.heap.IsTupleIter it a i) (ht:s.heap.IsTuple a items) (hx:items[i]? = some x)
  (q:∀ h',h'.IsTupleIter it a (i+1)->Heap.SameBut it s.heap h'->Q x { s with heap:=h' }):wpAny (model prog w) A (Builtin.SmallTypes.nextOf (.ref it)) Q E s:=by
 have j0:=j
 obtain ⟨o,e,c,d⟩:=j
 obtain ⟨oa,ea,_,n,da⟩:=ht
 unfold Builtin.SmallTypes.nextOf
 refine wpAny_bind (wpAny_callSpecial?_slot (name:=Str.ofString "__next__") j0.typeIs F.slot_tuple_iterator_next (wpAny_call_entry F.slot_tuple_iterator_next j0.typeIs F.entry_tuple_iterator_next ?_ (F.args_tuple_iterator_next_1 _)))
 refine (show wpAny _ _ (field (.ref it) 0 >>= _) _ _ s from wpAny_bind (wpAny_field e d (x:=.ref a) rfl ?_))
 refine (show wpAny _ _ (if (Value.ref a == Value.none)=true then _ else _) _ _ s from ?_)
 rw [if_neg (by exact Bool.false_ne_true)]
 refine (show wpAny _ _ (field (.ref it) 1 >>= _) _ _ s from wpAny_bind (wpAny_field e d (x:=.int i 0) rfl ?_))
 refine (show wpAny _ _ (seqItems? (.ref a) >>= _) _ _ s from wpAny_bind (wpAny_seqItems ea da ?_))
 simp only [Int.toNat_natCast,hx]
 exact wpAny_bind (wpAny_setField e d (by simp) (wpAny_pure ⟨x,rfl,wpAny_pure (q _ ⟨_,Heap.get?_update_self _ e (Obj.isFreed_of_fields (Obj.data_mapFields d _)),(Obj.cls_mapFields ..).trans c,by rw [Obj.data_mapFields d]; simp [rawInt]⟩ (Heap.SameBut.update ..))⟩))
theorem Im {it a:Addr} {i:Nat} {items:Array Value} {Q:Value->Shared->Prop} (hh:A.handled=none) (j:s.heap.IsTupleIter it a i) (ht:s.heap.IsTuple a items) (hx:items[i]? = none)
  (q:∀ h' e,Heap.ExtBut it s.heap h'->(∃ o,h'.get? e=some o/\o.cls=.type "StopIteration")->E (.ref e) { s with heap:=h' }):wpAny (model prog w) A (Builtin.SmallTypes.nextOf (.ref it)) Q E s:=by
 have j0:=j
 obtain ⟨o,e,c,d⟩:=j
 obtain ⟨oa,ea,_,n,da⟩:=ht
 unfold Builtin.SmallTypes.nextOf
 refine wpAny_bind (wpAny_callSpecial?_slot (name:=Str.ofString "__next__") j0.typeIs F.slot_tuple_iterator_next (wpAny_call_entry F.slot_tuple_iterator_next j0.typeIs F.entry_tuple_iterator_next ?_ (F.args_tuple_iterator_next_1 _)))
 refine (show wpAny _ _ (field (.ref it) 0 >>= _) _ _ s from wpAny_bind (wpAny_field e d (x:=.ref a) rfl ?_))
 refine (show wpAny _ _ (if (Value.ref a == Value.none)=true then _ else _) _ _ s from ?_)
 rw [if_neg (by exact Bool.false_ne_true)]
 refine (show wpAny _ _ (field (.ref it) 1 >>= _) _ _ s from wpAny_bind (wpAny_field e d (x:=.int i 0) rfl ?_))
 refine (show wpAny _ _ (seqItems? (.ref a) >>= _) _ _ s from wpAny_bind (wpAny_seqItems ea da ?_))
 simp only [Int.toNat_natCast,hx]
 refine wpAny_bind (wpAny_rule (wpAny_bind (wpAny_setField e d (by simp) (show wpAny _ _ (newExc (.type "StopIteration") [] >>= _) _ _ _ from wpAny_bind ?_))))
 simp only [newExc,newTuple]
 refine wpAny_bind (wpAny_newObj_type (wpAny_bind (m:=firstArgMember _ _) (wpAny_of_eq (a:=Value.none) (by first | rfl | (simp only [firstArgMember]; rfl)) (wpAny_newObj_type ?_ (by size_fits)))) (by size_fits))
 simp only [raiseNew]
 refine wpAny_bind (wpAny_handled ?_)
 first | rw [show A.in1.handled=none from hh] | rw [hh]
 exact wpAny_bind (wpAny_pure (wpAny_throw (q _ _ (((Heap.SameBut.update ..).extBut.push _).push _) ⟨_,Heap.get?_push_size _ rfl,rfl⟩)))
theorem OJ {z TI TO i1 i2 a1 a2:Addr} {k:Nat} {xs ys:Array Value} {x y a b:Value} {Q:Value->Shared->Prop} (D:ZipApart z TI TO i1 i2 a1 a2)
  (hz:IsZip s.heap z TI TO .none) (hI:IsPair s.heap TI (.ref i1) (.ref i2)) (hO:IsPair s.heap TO a b)
  (j1:s.heap.IsTupleIter i1 a1 k) (j2:s.heap.IsTupleIter i2 a2 k) (t1:s.heap.IsTuple a1 xs) (t2:s.heap.IsTuple a2 ys) (hx:xs[k]? = some x) (hy:ys[k]? = some y)
  (q:∀ h',IsZip h' z TI TO (rawInt s.heap.objs.size)->IsPair h' TO x y->h'.IsTupleIter i1 a1 (k+1)->h'.IsTupleIter i2 a2 (k+1)->IsPair h' s.heap.objs.size x y->h'.objs.size=s.heap.objs.size+1 ->
   (∀ c o,c ≠ z->c ≠ TO->c ≠ i1->c ≠ i2->s.heap.get? c=some o->h'.get? c=some o)->Q (.ref s.heap.objs.size) { s with heap:=h' }) :
  wpAny (model prog w) A (Builtin.«zip.__next__» ⟨[.ref z],[]⟩) (fun fin s'=>∃ v,fin=.done (.ret v)/\Q v s') E s:=by
 refine (show wpAny _ _ (field (.ref z) 2 >>= _) _ _ _ from wpAny_bind (wpAny_field hz rfl (x:=.bool false) rfl (show wpAny _ _ (field (.ref z) 3 >>= _) _ _ _ from wpAny_bind (wpAny_field hz rfl (x:=.ref TI) rfl (wpAny_bind (wpAny_seqItems hI rfl ?_))))))
 refine (show wpAny _ _ (Builtin.SmallTypes.ownedTupleIsFree (.ref z) >>= _) _ _ _ from wpAny_bind ?_)
 unfold Builtin.SmallTypes.ownedTupleIsFree
 refine wpAny_bind (wpAny_field hz rfl (x:=.none) rfl (wpAny_pure ?_))
 simp only [if_true]
 refine wpAny_bind (wpAny_rule (wpAny_bind (wpAny_field hz rfl (x:=.ref TO) rfl (wpAny_bind (wpAny_setField_rec hz (by simp) fun h1 z1 s1=>?_)))))
 have y1:IsZip h1 z TI TO .ellipsis:=z1
 refine wpAny_bind ?_
 simp only [List.zipIdx_cons,List.zipIdx_nil,List.forIn_cons,List.forIn_nil]
 refine wpAny_bind (wpAny_bind (wpAny_onRaise (show wpAny _ _ (Builtin.SmallTypes.nextOf (.ref i1) >>= _) _ _ _ from wpAny_bind (JM (j1.at fun o e=>s1.extBut _ _ D.i1z e) (t1.at fun o e=>s1.extBut _ _ D.l1z e) hx fun h2 n1 s2=>wpAny_pure ?_))))
 have o2:IsPair h2 TO a b:=s2.extBut _ _ D.TOi1 (s1.extBut _ _ D.TOz hO)
 refine wpAny_bind (wpAny_seqItems o2 rfl (wpAny_bind (wpAny_updateSeq_pair o2 fun h3 p3 s3=>?_)))
 have o3:IsPair h3 TO x b:=p3
 refine wpAny_bind (wpAny_letGo (wpAny_pure ?_))
 refine wpAny_bind (wpAny_bind (wpAny_onRaise (show wpAny _ _ (Builtin.SmallTypes.nextOf (.ref i2) >>= _) _ _ _ from wpAny_bind (JM (j2.at fun o e=>s3.extBut _ _ D.TOi2.symm (s2.extBut _ _ D.i12.symm (s1.extBut _ _ D.i2z e)))
  (t2.at fun o e=>s3.extBut _ _ D.l2TO (s2.extBut _ _ D.l2i1 (s1.extBut _ _ D.l2z e))) hy fun h4 n2 s4=>wpAny_pure ?_))))
 have o4:IsPair h4 TO x b:=s4.extBut _ _ D.TOi2 o3
 refine wpAny_bind (wpAny_seqItems o4 rfl (wpAny_bind (wpAny_updateSeq_pair o4 fun h5 p5 s5=>?_)))
 have o5:IsPair h5 TO x y:=p5
 refine wpAny_bind (wpAny_letGo (wpAny_pure (wpAny_pure (wpAny_bind (wpAny_seqItems o5 rfl (wpAny_bind (wpAny_newTuple ?_)))))))
 have zs:h5.objs.size=s.heap.objs.size:=by rw [s5.1,s4.1,s3.1,s2.1,s1.1]
 have y5:IsZip h5 z TI TO .ellipsis:=s5.extBut _ _ D.TOz.symm (s4.extBut _ _ D.i2z.symm (s3.extBut _ _ D.TOz.symm (s2.extBut _ _ D.i1z.symm y1)))
 have k5:∀ c o,c ≠ z->c ≠ TO->c ≠ i1->c ≠ i2->s.heap.get? c=some o->h5.get? c=some o:=fun c o c1 c2 c3 c4 e=>s5.extBut _ _ c2 (s4.extBut _ _ c4 (s3.extBut _ _ c2 (s2.extBut _ _ c3 (s1.extBut _ _ c1 e))))
 have m1:h5.IsTupleIter i1 a1 (k+1):=n1.at fun o e=>s5.extBut _ _ D.TOi1.symm (s4.extBut _ _ D.i12 (s3.extBut _ _ D.TOi1.symm e))
 have m2:h5.IsTupleIter i2 a2 (k+1):=n2.at fun o e=>s5.extBut _ _ D.TOi2.symm e
 have lz:z<h5.objs.size:=Heap.lt_size y5
 refine (show wpAny _ _ (Builtin.SmallTypes.ownedTupleHandOut (.ref z) (.ref h5.objs.size) >>= _) _ _ _ from wpAny_bind ?_)
 unfold Builtin.SmallTypes.ownedTupleHandOut
 have y6:IsZip (h5.push { cls:=.type "tuple",data:=.seq #[x,y] }) z TI TO .ellipsis:=Heap.get?_push_of_some _ y5
 refine wpAny_bind (wpAny_setField_rec y6 (by simp) fun h7 p7 s7=>?_)
 have y7:IsZip h7 z TI TO (rawInt h5.objs.size):=p7
 refine wpAny_setField_rec y7 (by simp) fun h8 p8 s8=>?_
 have y8:IsZip h8 z TI TO (rawInt h5.objs.size):=p8
 have up:∀ c o,c ≠ z->h5.get? c=some o->h8.get? c=some o:=fun c o c1 e=>s8.extBut _ _ c1 (s7.extBut _ _ c1 (Heap.get?_push_of_some _ e))
 have t8:IsPair h8 h5.objs.size x y:=s8.extBut _ _ (Nat.ne_of_gt lz) (s7.extBut _ _ (Nat.ne_of_gt lz) (Heap.get?_push_size _ rfl))
 have z8:h8.objs.size=h5.objs.size+1:=by rw [s8.1,s7.1,Heap.size_push]
 rw [zs] at y8 t8 z8
 refine wpAny_pure ⟨_,rfl,?_⟩
 show Q (.ref h5.objs.size) _
 rw [zs]
 exact q h8 y8 (up _ _ D.TOz o5) (m1.at fun o e=>up _ o D.i1z e) (m2.at fun o e=>up _ o D.i2z e) t8 z8 fun c o c1 c2 c3 c4 e=>up c o c1 (k5 c o c1 c2 c3 c4 e)
theorem Qk {z TI TO i1 i2 a1 a2:Addr} {k:Nat} {xs:Array Value} {a b:Value} {Q:Fin->Shared->Prop} (hh:A.handled=none) (D:ZipApart z TI TO i1 i2 a1 a2)
  (hz:IsZip s.heap z TI TO .none) (hI:IsPair s.heap TI (.ref i1) (.ref i2)) (hO:IsPair s.heap TO a b)
  (j1:s.heap.IsTupleIter i1 a1 k) (t1:s.heap.IsTuple a1 xs) (hx:xs[k]? = none)
  (q:∀ h' e,(∀ c o,c ≠ z->c ≠ TO->c ≠ i1->c ≠ i2->s.heap.get? c=some o->h'.get? c=some o)->(∃ o,h'.get? e=some o/\o.cls=.type "StopIteration")->E (.ref e) { s with heap:=h' }) :
  wpAny (model prog w) A (Builtin.«zip.__next__» ⟨[.ref z],[]⟩) Q E s:=by
 refine (show wpAny _ _ (field (.ref z) 2 >>= _) _ _ _ from wpAny_bind (wpAny_field hz rfl (x:=.bool false) rfl (show wpAny _ _ (field (.ref z) 3 >>= _) _ _ _ from wpAny_bind (wpAny_field hz rfl (x:=.ref TI) rfl (wpAny_bind (wpAny_seqItems hI rfl ?_))))))
 refine (show wpAny _ _ (Builtin.SmallTypes.ownedTupleIsFree (.ref z) >>= _) _ _ _ from wpAny_bind ?_)
 unfold Builtin.SmallTypes.ownedTupleIsFree
 refine wpAny_bind (wpAny_field hz rfl (x:=.none) rfl (wpAny_pure ?_))
 simp only [if_true]
 refine wpAny_bind (wpAny_rule (wpAny_bind (wpAny_field hz rfl (x:=.ref TO) rfl (wpAny_bind (wpAny_setField_rec hz (by simp) fun h1 z1 s1=>?_)))))
 have y1:IsZip h1 z TI TO .ellipsis:=z1
 refine wpAny_bind ?_
 simp only [List.zipIdx_cons,List.zipIdx_nil,List.forIn_cons,List.forIn_nil]
 refine wpAny_bind (wpAny_bind (wpAny_onRaise (show wpAny _ _ (Builtin.SmallTypes.nextOf (.ref i1) >>= _) _ _ _ from wpAny_bind (Im hh (j1.at fun o e=>s1.extBut _ _ D.i1z e) (t1.at fun o e=>s1.extBut _ _ D.l1z e) hx fun h2 x s2 hx2=>?_))))
 obtain ⟨ox,ex,cx⟩:=hx2
 have y2:IsZip h2 z TI TO .ellipsis:=s2 _ _ D.i1z.symm y1
 have nz:x ≠ z:=fun u=>by subst u; rw [y2] at ex; cases ex; simp at cx
 exact wpAny_setField_rec y2 (by simp) fun h3 _ s3=>q h3 x (fun c o c1 _ c3 _ e=>s3.extBut _ _ c1 (s2 _ _ c3 (s1.extBut _ _ c1 e))) ⟨ox,s3.extBut _ _ nz ex,cx⟩
end
noncomputable abbrev Zo (h:Heap) (a1:Addr):Heap:=h.push { cls:=.type "tuple_iterator",data:=.fields #[.ref a1,.int 0 0] }
noncomputable abbrev Zj (h:Heap) (a1 a2:Addr):Heap:=(Zo h a1).push { cls:=.type "tuple_iterator",data:=.fields #[.ref a2,.int 0 0] }
noncomputable abbrev Zm (h:Heap) (a1 a2:Addr):Heap:=(Zj h a1 a2).push { cls:=.type "tuple",data:=.seq #[.ref h.objs.size,.ref (Zo h a1).objs.size] }
noncomputable abbrev Z5 (h:Heap) (a1 a2:Addr):Heap:=(Zm h a1 a2).push { cls:=.type "tuple",data:=.seq #[.none,.none] }
noncomputable abbrev U4 (h:Heap) (a1 a2:Addr):Heap:=(Z5 h a1 a2).push { cls:=.type "zip",data:=.fields #[.none,.bool false,.bool false,.ref (Zj h a1 a2).objs.size,.ref (Zm h a1 a2).objs.size] }
theorem Qo (a1 a2:Addr) (xs ys:Array Value):Meets (Builtin.«zip.__new__» ⟨[.type "zip",.ref a1,.ref a2],[]⟩) (fun _ R s=>s.heap.IsTuple a1 xs/\s.heap.IsTuple a2 ys /\
   R (.ok (.ret (.ref (Z5 s.heap a1 a2).objs.size))) { s with heap:=U4 s.heap a1 a2 }) :=
 .of_wp fun prog w A R s h=>by
  obtain ⟨hp,g,d,tk,os⟩:=s
  obtain ⟨t1,t2,h⟩:=h
  have hsub:=sub_zip
  have u1:Heap.IsTuple (Shared.heap ⟨hp,g,d,tk,os⟩) a1 xs:=t1
  have u2:Heap.IsTuple (Shared.heap ⟨hp.push { cls:=.type "tuple_iterator",data:=.fields #[.ref a1,.int 0 0] },g,d,tk,os⟩) a2 ys:=Heap.IsTuple.at t2 fun o e=>Heap.get?_push_of_some _ e
  wp_walk using wpAny_pyIter_tuple u1,wpAny_pyIter_tuple u2
  exact ⟨_,rfl,h⟩
section
variable {prog:Program} {w:World} {A:Around} {E:Value->Shared->Prop} {s:Shared}
theorem Ou {a1 a2:Addr} {xs ys:Array Value} {Q:Value->Shared->Prop} (t1:s.heap.IsTuple a1 xs) (t2:s.heap.IsTuple a2 ys)
  (q:∀ h' n,n=s.heap.objs.size->IsZip h' (n+4) (n+2) (n+3) .none->IsPair h' (n+2) (.ref n) (.ref (n+1))->IsPair h' (n+3) .none .none->h'.IsTupleIter n a1 0->h'.IsTupleIter (n+1) a2 0->h'.objs.size=n+5 ->
   (∀ c o,s.heap.get? c=some o->h'.get? c=some o)->Q (.ref (n+4)) { s with heap:=h' }):wpAny (model prog w) A (call (.type "zip") [.ref a1,.ref a2]) Q E s:=by
 refine callType_new F.called_zip (by decide) (F.typeCall_zip_2 _ _) (F.newCall_zip_2 _ _) (fun obj=>F.args_object_init_3 obj _ _) F.entry_zip_new (Qo a1 a2 xs ys) ⟨t1,t2,?_⟩
 have z1:(Zo s.heap a1).objs.size=s.heap.objs.size+1:=Heap.size_push ..
 have z2:(Zj s.heap a1 a2).objs.size=s.heap.objs.size+2:=by rw [Heap.size_push,z1]
 have z3:(Zm s.heap a1 a2).objs.size=s.heap.objs.size+3:=by rw [Heap.size_push,z2]
 have z4:(Z5 s.heap a1 a2).objs.size=s.heap.objs.size+4:=by rw [Heap.size_push,z3]
 have z5:(U4 s.heap a1 a2).objs.size=s.heap.objs.size+5:=by rw [Heap.size_push,z4]
 have g5:(U4 s.heap a1 a2).get? (Z5 s.heap a1 a2).objs.size=some _:=Heap.get?_push_size _ rfl
 have g4:(U4 s.heap a1 a2).get? (Zm s.heap a1 a2).objs.size=some _:=Heap.get?_push_of_some _ (Heap.get?_push_size _ rfl)
 have g3:(U4 s.heap a1 a2).get? (Zj s.heap a1 a2).objs.size=some _:=Heap.get?_push_of_some _ (Heap.get?_push_of_some _ (Heap.get?_push_size _ rfl))
 have g2:(U4 s.heap a1 a2).get? (Zo s.heap a1).objs.size=some _:=Heap.get?_push_of_some _ (Heap.get?_push_of_some _ (Heap.get?_push_of_some _ (Heap.get?_push_size _ rfl)))
 have g1:(U4 s.heap a1 a2).get? s.heap.objs.size=some _:=Heap.get?_push_of_some _ (Heap.get?_push_of_some _ (Heap.get?_push_of_some _ (Heap.get?_push_of_some _ (Heap.get?_push_size _ rfl))))
 refine (show _/\_ from ?_)
 rw [z2,z3,z4] at g5
 rw [z1,z2] at g3
 rw [z3] at g4
 rw [z1] at g2
 rw [z4]
 exact ⟨⟨_,g5,rfl⟩,q _ _ rfl g5 g3 g4 ⟨_,g1,rfl,rfl⟩ ⟨_,g2,rfl,rfl⟩ z5 fun c o e=>Heap.get?_push_of_some _ (Heap.get?_push_of_some _ (Heap.get?_push_of_some _ (Heap.get?_push_of_some _ (Heap.get?_push_of_some _ e))))⟩
end
end L2
namespace L2
open PySem PySem.Spec PyProof.Rows
noncomputable def CQ (env:Env):List (Str × NameKind)->List (Str × Addr)->List (Str × Addr)
 | [],acc=>acc
 | (n,k)::r,acc=>if k == .free then (match env.cells.lookup n with | some a=>CQ env r ((n,a)::acc) | none=>CQ env r acc) else CQ env r acc
theorem Gv {scope:Scope} {env:Env} (h:∀ y∈scope.names,y.2=.free->∃ c,env.cells.lookup y.1=some c):closureFor scope env=pure (CQ env scope.names []):=by
 unfold closureFor
 have key:∀ (l:List (Str × NameKind)) (acc:List (Str × Addr)),(∀ y∈l,y.2=.free->∃ c,env.cells.lookup y.1=some c) ->
   (forIn l acc fun (x:Str × NameKind) (cs:List (Str × Addr))=>(match x with | (name,kind)=>if (kind == NameKind.free)=true then (do let a ← cellOf env name; pure (ForInStep.yield ((name,a)::cs))) else pure (ForInStep.yield cs):Sem (ForInStep (List (Str × Addr)))))=(pure (CQ env l acc):Sem _):=by
  intro l
  induction l with
  | nil=>intro acc _; rfl
  | cons x r ih =>
   intro acc hl
   obtain ⟨n,k⟩:=x
   rw [List.forIn_cons]
   unfold CQ
   by_cases hk:(k == NameKind.free)=true
   ·obtain ⟨c,hc⟩:=hl (n,k) List.mem_cons_self (by simpa using hk)
    have hc':env.cells.lookup n=some c:=hc
    have e:cellOf env n=pure c:=by unfold cellOf; rw [hc']
    simp only [hk,if_true,e,hc']
    exact ih _ fun y hy=>hl y (List.mem_cons_of_mem _ hy)
   ·simp only [hk]
    exact ih _ fun y hy=>hl y (List.mem_cons_of_mem _ hy)
 have:=key scope.names [] h
 exact (congrArg (fun (m:Sem (List (Str × Addr)))=>m >>= fun z=>pure z) this).trans rfl
theorem Ek (env:Env):∀ (l:List (Str × NameKind)) (acc:List (Str × Addr)) (y:Str) (c:Addr),(CQ env l acc).lookup y=some c->acc.lookup y=some c \/ env.cells.lookup y=some c
 | [],_,_,_,h=>.inl h
 | (n,k)::r,acc,y,c,h=>by
  unfold CQ at h
  split at h
  ·split at h
   ·rename_i a ha
    rcases Ek env r _ y c h with z | z
    ·rw [List.lookup_cons] at z
     split at z
     ·rename_i e
      cases z
      have e':y=n:=by simpa using e
      subst e'
      exact .inr ha
     ·exact .inl z
    ·exact .inr z
   ·exact Ek env r _ y c h
  ·exact Ek env r _ y c h
theorem GR (env:Env):∀ (l:List (Str × NameKind)) (acc:List (Str × Addr)) (y:Str),(acc.lookup y).isSome=true->((CQ env l acc).lookup y).isSome=true
 | [],_,_,h=>h
 | (n,k)::r,acc,y,h=>by
  unfold CQ
  split
  ·split
   ·refine GR env r _ y ?_
    rw [List.lookup_cons]
    split
    ·rfl
    ·exact h
   ·exact GR env r _ y h
  ·exact GR env r _ y h
theorem Df (env:Env):∀ (l:List (Str × NameKind)) (acc:List (Str × Addr)) (y:Str),(y,NameKind.free)∈l->(env.cells.lookup y).isSome=true->((CQ env l acc).lookup y).isSome=true
 | [],_,_,h,_=>nomatch h
 | (n,k)::r,acc,y,h,hc=>by
  unfold CQ
  rcases List.mem_cons.mp h with e | h
  ·obtain ⟨e1,e2⟩:=Prod.mk.inj e
   subst e1
   subst e2
   rw [if_pos (by decide)]
   split
   ·refine GR env r _ y ?_
    rw [List.lookup_cons]
    simp
   ·rename_i e
    rw [e] at hc
    cases hc
  ·split
   ·split
    ·exact Df env r _ y h hc
    ·exact Df env r _ y h hc
   ·exact Df env r _ y h hc
end L2
namespace L2
open PySem PySem.Spec PyProof.Rows
noncomputable def Gb (x:Str) (N:List Str):List Str:=N.map fun y=>if y=x then "" else y
noncomputable def Bq (X:Cx) (x:Str) (scope:Scope) (C:Addr) (s₀:Shared) (H₀:Hp) (fp:List Addr):Cx where
 prog:=X.prog
 w:=X.w
 K:=X.K
 mg:=X.mg
 base:=X.base
 A:=X.A
 N:=x::Gb x X.N
 s₀:=s₀
 H₀:=H₀
 env:=compEnvC scope (CQ X.env scope.names []) C X.env
 outer:=X.stack
 stack:=X.stack
 ex:=fp
 fn:=fun _=>false
 calm:=X.calm
 pn:=[]
 xe:=fun _ _=>False
theorem Ec (env:Env) (y:Str):∀ names:List (Str × NameKind),
  (names.map fun (n,k)=>if (k == NameKind.free && env.scope.kind == .function && env.kindOf n == some .cell) then (n,NameKind.cell) else (n,k)).lookup y =
   (names.lookup y).map fun k=>if (k == NameKind.free && env.scope.kind == .function && env.kindOf y == some .cell) then NameKind.cell else k
 | []=>rfl
 | (n,k)::r=>by
  have ih:=Ec env y r
  rw [List.map_cons]
  show List.lookup y ((if (k == NameKind.free && env.scope.kind == .function && env.kindOf n == some .cell)=true then (n,NameKind.cell) else (n,k))::_)=_
  have e0:(if (k == NameKind.free && env.scope.kind == .function && env.kindOf n == some .cell)=true then (n,NameKind.cell) else (n,k))=(n,if (k == NameKind.free && env.scope.kind == .function && env.kindOf n == some .cell)=true then NameKind.cell else k):=by split <;> rfl
  rw [e0,List.lookup_cons,List.lookup_cons]
  cases hx:y == n with
  | true =>
   have e:y=n:=by simpa using hx
   subst e
   rfl
  | false=>exact ih
structure Em (X:Cx) (x:Str) (scope:Scope):Prop where
 kind:scope.kind=.function
 nocell:∀ y∈scope.names,y.2 ≠ .cell
 names:∀ y∈scope.names,y.2=.local->scope.names.lookup y.1=some .local
 loc:scope.names.lookup x=some .local
 free:∀ y∈scope.names,y.2=.free->X.env.kindOf y.1=some .cell \/ X.env.kindOf y.1=some .free
 nd:(x::Gb x X.N).Nodup
 only:∀ y∈Gb x X.N,scope.names.lookup y ≠ some .local
 noE:scope.names.lookup ("" : Str)=none
section
variable {X:Cx} {pins:List (Addr × Obj)} {σ:St} {H:Hp} {s:Shared} {x:Str} {scope:Scope} {fp:List Addr} {C:Addr}
theorem Mi {h':Heap} {tk:Nat} {m:Str->Option Value} (I:Inv X pins σ H s) (S:Em X x scope) (hf:∀ b∈fp,Ep X pins H b) (hlt:∀ b∈fp,b<s.heap.objs.size) (hC:s.heap.objs.size<=C) (hn:h'.Ns C m)
  (hk:∀ b o,s.heap.get? b=some o->h'.get? b=some o):Inv (Bq X x scope C s H fp) [] (none::σ) H { s with heap:=h',toks:=tk }:=by
 have cl:∀ y c,(CQ X.env scope.names []).lookup y=some c->X.env.cells.lookup y=some c:=fun y c e=>by
  rcases Ek X.env scope.names [] y c e with z | z
  ·cases z
  ·exact z
 have cellK:∀ c v,s.heap.IsCell c v->h'.IsCell c v:=fun c v ⟨o,ho,hd⟩=>⟨o,hk c o ho,hd⟩
 have look:∀ y,(Bq X x scope C s H fp).env.scope.names.lookup y=(scope.names.lookup y).map fun k=>if (k == NameKind.free && X.env.scope.kind == .function && X.env.kindOf y == some .cell) then NameKind.cell else k:=fun y=>Ec X.env y scope.names
 refine ⟨⟨I.ok.mod,S.kind,I.ok.glob,I.ok.blt,hC,fun y z c e1 e2=>I.ok.inj y z c (cl y c e1) (cl z c e2),fun y hy=>?_,fun y c e _=>(by cases e),fun h=>I.ok.hd h,I.ok.frames,.inl rfl,fun b hb=>?_,I.bs,Nat.le_trans I.ok.bsz I.sz,fun b o e hb=>?_,fun b hb hb'=>?_,I.stack,I.Jp⟩,
  rfl,I.bare,Un.kept hk,⟨m,hn,fun i y v h1 h2 h3=>?_⟩,fun y c e=>?_,I.hok.fresh hC,fun y c e=>I.freeC y c (cl y c e),fun p hp=>absurd (show p∈([]:List (Addr × Obj)) from hp) (by simp),I.hok.kept hk,?_⟩
 ·-- every cell of the block is there
  have hy':(Bq X x scope C s H fp).env.scope.names.lookup y=some .cell \/ (Bq X x scope C s H fp).env.scope.names.lookup y=some .free:=hy
  rw [look y] at hy'
  cases e:scope.names.lookup y with
  | none=>rw [e] at hy'; rcases hy' with z | z <;> cases z
  | some k =>
   have hm:=PySem.mem_of_lookup e
   have hfree:k=.free:=by
    rw [e] at hy'
    cases k with
    | free=>rfl
    | cell=>exact absurd rfl (S.nocell _ hm)
    | _=>rcases hy' with z | z <;> simp at z
   subst hfree
   obtain ⟨c,hc⟩:=I.ok.has y (S.free _ hm rfl)
   exact Option.isSome_iff_exists.mp (Df X.env scope.names [] y hm (by rw [hc]; rfl))
 ·obtain ⟨f0,f1,f2,f3,f4,f5⟩:=hf b hb
  exact ⟨Nat.ne_of_lt (Nat.lt_of_lt_of_le (hlt b hb) hC),fun y c e=>f4 y c (cl y c e)⟩
 ·obtain ⟨f0,f1,f2,f3,f4,f5⟩:=hf b hb
  rcases f3 with z | z
  ·exact I.ok.noex b o e z
  ·exact absurd (Nat.lt_of_lt_of_le (Heap.lt_size e) (Nat.le_trans I.ok.bsz z)) (Nat.lt_irrefl _)
 ·obtain ⟨f0,f1,f2,f3,f4,f5⟩:=hf b hb
  rcases List.mem_cons.mp (I.Jz b hb') with e | e
  ·exact f1 e
  ·exact f2 e
 ·cases i with
  | zero =>
   have h2':(some none:Option (Option V))=some (some v):=h2
   cases h2'
  | succ i =>
   have h1':(Gb x X.N)[i]? = some y:=h1
   have h2':σ[i]? = some (some v):=h2
   have hmem:y∈Gb x X.N:=List.mem_of_getElem? h1'
   unfold Gb at h1'
   rw [List.getElem?_map] at h1'
   cases e0:X.N[i]? with
   | none=>rw [e0] at h1'; cases h1'
   | some y0 =>
    rw [e0] at h1'
    have h1'':(if y0=x then ("" : Str) else y0)=y:=Option.some.inj h1'
    have h3':(Bq X x scope C s H fp).env.scope.names.lookup y=some .local \/ (Bq X x scope C s H fp).env.scope.names.lookup y=some .cell \/ (Bq X x scope C s H fp).env.scope.names.lookup y=some .free:=h3
    rw [look y] at h3'
    have hy0:y0=y:=by
     by_cases q:y0=x
     ·rw [if_pos q] at h1''
      rw [← h1'',S.noE] at h3'
      rcases h3' with z | z | z <;> cases z
     ·rw [if_neg q] at h1''
      exact h1''
    subst hy0
    cases e:scope.names.lookup y0 with
    | none=>rw [e] at h3'; rcases h3' with z | z | z <;> cases z
    | some k =>
     have hm:=PySem.mem_of_lookup e
     have hfree:k=.free:=by
      rw [e] at h3'
      cases k with
      | free=>rfl
      | cell=>exact absurd rfl (S.nocell _ hm)
      | «local»=>exact absurd e (S.only y0 hmem)
      | _=>rcases h3' with z | z | z <;> simp at z
     subst hfree
     have kd:=S.free _ hm rfl
     obtain ⟨m0,hn0,hl0⟩:=I.loc
     obtain ⟨u,r,l⟩:=hl0 i y0 v e0 h2' (by rcases kd with z | z; exact .inr (.inl z); exact .inr (.inr z))
     refine ⟨u,r,.inr ⟨?_,?_⟩⟩
     ·have hk':(Bq X x scope C s H fp).env.scope.names.lookup y0=some (if (NameKind.free == NameKind.free && X.env.scope.kind == .function && X.env.kindOf y0 == some .cell) then NameKind.cell else NameKind.free):=by
       rw [look y0,e]; rfl
      by_cases c:(NameKind.free == NameKind.free && X.env.scope.kind == .function && X.env.kindOf y0 == some .cell)=true
      ·rw [if_pos c] at hk'; exact .inl hk'
      ·rw [if_neg c] at hk'; exact .inr hk'
     ·rcases l with ⟨lk,_⟩ | ⟨_,c,hc,hcell⟩
      ·exfalso
       rcases kd with z | z <;> (rw [show X.env.kindOf y0=some NameKind.local from lk] at z; cases z)
      ·obtain ⟨c',hc'⟩:=Option.isSome_iff_exists.mp (Df X.env scope.names [] y0 hm (by rw [hc]; rfl))
       have:=cl y0 c' hc'
       rw [hc] at this
       cases this
       exact ⟨c,hc',cellK c _ hcell⟩
 ·obtain ⟨v,z⟩:=I.cell y c (cl y c e)
  exact ⟨v,cellK c v z⟩
 ·show (none::σ).length=(x::Gb x X.N).length
  simp [Gb,I.len]
end
noncomputable def K1 (X:Cx) (ifs:List Expr) (t:TT):Prop :=
 ∀ (pins:List (Addr × Obj)) (s:Shared) (σ:St) (H:Hp) (Q:Bool->Hp->Prop),Inv X pins σ H s->t σ H Q ->
  wpAny (model X.prog X.w) X.A (forIn ifs true fun c r=>if r=true then do let ok ← isTrue c X.env (eval c X.env); pure (ForInStep.yield ok) else pure (ForInStep.yield r)) (TP X pins σ Q) X.xe s
noncomputable def S8:TT:=fun _ H Q=>Q true H
theorem CG {X:Cx}:K1 X [] S8:=fun _ _ _ H _ I h=>wpAny_tests_nil ⟨H,I,h⟩
theorem Gi {X:Cx} {c:Expr} {t:TT} (h:PT X c t):K1 X [c] t:=fun pins s σ H Q I q=>wpAny_tests_one (h pins s σ H Q I q)
noncomputable def Fe (J:It) (σ:St) (H1:Hp) (Q:VK) (tt:TT) (te:TE):Prop:=∀ D,H1 D=none->∃ W:Nat->Nat->List V->Hp->Prop,(∃ m,W 0 m [] (upd H1 D (.lst [])))/\∀ i m ys H2,W i m ys H2 ->
 (J.stop i H2/\Q (.ref D) H2) \/ (J.go i H2/\∀ x H3,J.yld i H2 x H3->tt (some x::σ) H3 fun b H4 =>
  if b=true then te (some x::σ) H4 fun y H5=>H5 D=some (.lst ys)/\ys.length<sizeLine/\∃ m',m'<m/\W (i+1) m' (ys++[y]) (upd H5 D (.lst (ys++[y])))
  else ∃ m',m'<m/\W (i+1) m' ys H4)
noncomputable def UV (wi:TI) (tt:TT) (te:TE):TE:=fun σ H Q=>wi σ H fun J H1=>Fe J σ H1 Q tt te
theorem MK {α:Type} {t:Sem α} {Q Q':α->Shared->Prop} {M:Model} {A:Around} {E:Value->Shared->Prop} {s:Shared} (h:wpAny M A t Q (fun _ _=>False) s) (hQ:∀ a s,Q a s->Q' a s):wpAny M A t Q' E s:=wpAny_mono h hQ fun _ _ x=>x.elim
theorem Inv.sameBut {X:Cx} {pins:List (Addr × Obj)} {σ:St} {H:Hp} {s:Shared} {h':Heap} {C:Addr} (I:Inv X pins σ H s) (f:Ep X pins H C) (sb:Heap.SameBut C s.heap h'):Inv X pins σ H { s with heap:=h' } :=
 I.turned (t':=s.toks) (fun b o hb e=>(sb.2 b hb).trans e) f.1 f.2.1 f.2.2.2.1 f.2.2.2.2.1 f.2.2.2.2.2
section
variable {X:Cx} {x:Str} {scope:Scope}
theorem Ik {px pos:Pos} {iter elt:Expr} {ifs:List Expr} {tt:TT} {te:TE} {pins:List (Addr × Obj)} {σ:St} {s2:Shared} {H2:Hp} {it:Addr} {fp:List Addr} {tn:Nat->Heap->Prop} {J:It} {E:Value->Shared->Prop}
  {RR:Value->Addr->Result->Shared->Prop} {Q:VK}
  (hc:X.calm=true) (S:Em X x scope) (ht:∀ C s₀ H₀ fp,K1 (Bq X x scope C s₀ H₀ fp) ifs tt) (he:∀ C s₀ H₀ fp,PE (Bq X x scope C s₀ H₀ fp) elt te)
  (I2:Inv X pins σ H2 s2) (T:Turn X.prog X.w X.K (.Name x px) J fp it tn) (st2:tn 0 s2.heap) (f2:∀ b∈fp,Ep X pins H2 b)
  (q:∀ D,H2 D=none->∃ W:Nat->Nat->List V->Hp->Prop,(∃ m,W 0 m [] (upd H2 D (.lst [])))/\∀ i m ys H2,W i m ys H2 ->
   (J.stop i H2/\Q (.ref D) H2) \/ (J.go i H2/\∀ x H3,J.yld i H2 x H3->tt (some x::σ) H3 fun b H4 =>
    if b=true then te (some x::σ) H4 fun y H5=>H5 D=some (.lst ys)/\ys.length<sizeLine/\∃ m',m'<m/\W (i+1) m' (ys++[y]) (upd H5 D (.lst (ys++[y])))
    else ∃ m',m'<m/\W (i+1) m' ys H4))
  (hRR:∀ D C s' H' m,s'.heap.Ns C m->Ep X pins H' C->Inv X pins σ H' s'->Q (.ref D) H'->RR (.ref D) C (.ok .next) s') :
  wpAny (model X.prog X.w) X.A (newList []) (fun acc s₃=>wpAny (model X.prog X.w) X.A (newFunctionEnv scope X.env.globals (CQ X.env scope.names []) [] X.env.qual none .none (some X.env)) (fun cenv s₄ =>
   codeAny (model X.prog X.w) X.A (.compStart (.ListComp elt [⟨.Name x px,iter,ifs,0⟩] scope pos) 0 (.ref it) acc { cenv with scope:=relabel scope X.env }) (RR acc cenv.locals) s₄) E s₃) E s2:=by
 refine wpAny_newObj_type (wpAny_newFunctionEnv S.nocell (by intro y hy; simp at hy) (fun h₁ hns₁ hsb₁=>?_) S.kind)
 have I3:=I2.Yi (its:=[]) (ys:=[]) (t':=s2.toks) .nil (Nat.zero_le _)
 have hD0:H2 s2.heap.objs.size=none:=I2.fresh
 obtain ⟨W,⟨m0,w0⟩,turn⟩:=q _ hD0
 generalize hs3:({ s2 with heap:=s2.heap.push { cls:=.type "list",data:=.seq ([]:List Value).toArray },toks:=s2.toks }:Shared)=s3 at I3
 have e3:s3.heap=s2.heap.push { cls:=.type "list",data:=.seq ([]:List Value).toArray }:=by rw [← hs3]
 have hlt:∀ b∈fp,b<s2.heap.objs.size:=fun b hb=>let ⟨_,e,_⟩:=T.obj _ _ st2 b hb; Heap.lt_size e
 have hlt3:∀ b∈fp,b<s3.heap.objs.size:=fun b hb=>by rw [e3,Heap.size_push]; exact Nat.lt_succ_of_lt (hlt b hb)
 have f3:∀ b∈fp,Ep X pins (upd H2 s2.heap.objs.size (.lst [])) b:=fun b hb=>⟨by rw [Av (Nat.ne_of_lt (hlt b hb))]; exact (f2 b hb).1,(f2 b hb).2⟩
 have hk1:∀ b o,s3.heap.get? b=some o->h₁.get? b=some o:=fun b o e=>by
  have hne:b ≠ s3.heap.objs.size:=Nat.ne_of_lt (Heap.lt_size e)
  rw [e3] at e hne
  exact hsb₁.extBut b o hne (Heap.get?_push_of_some _ e)
 have hC:s3.heap.objs.size=(s2.heap.push { cls:=.type "list",data:=.seq ([]:List Value).toArray }).objs.size:=by rw [e3]
 have hns:h₁.Ns s3.heap.objs.size (fun x=>([]:List (Str × Value)).reverse.lookup x):=by rw [hC]; exact hns₁
 have st3:tn 0 h₁:=T.keep _ _ _ st2 fun b hb o e=>hk1 b o (by rw [e3]; exact Heap.get?_push_of_some _ e)
 have hDC:s2.heap.objs.size ≠ s3.heap.objs.size:=by rw [e3,Heap.size_push]; exact Nat.ne_of_lt (Nat.lt_succ_self _)
 have start:∀ tk,Inv (Bq X x scope s3.heap.objs.size s3 (upd H2 s2.heap.objs.size (.lst [])) fp) [] (none::σ) (upd H2 s2.heap.objs.size (.lst [])) { s3 with heap:=h₁,toks:=tk }:=fun tk =>
  Mi I3 S f3 hlt3 (Nat.le_refl _) hns hk1
 generalize hX:Bq X x scope s3.heap.objs.size s3 (upd H2 s2.heap.objs.size (.lst [])) fp=X' at start
 have eA:X'.A=X.A:=by rw [← hX]; rfl
 have eP:X'.prog=X.prog:=by rw [← hX]; rfl
 have eW:X'.w=X.w:=by rw [← hX]; rfl
 have eK:X'.K=X.K:=by rw [← hX]; rfl
 have eC:X'.env.locals=s3.heap.objs.size:=by rw [← hX]; rfl
 have loop:∀ tk,codeAny (model X.prog X.w) X.A (.compLoop (.ListComp elt [⟨.Name x px,iter,ifs,0⟩] scope pos) 0 (.ref it) (.ref s2.heap.objs.size) (compEnvC scope (CQ X.env scope.names []) s3.heap.objs.size X.env))
   (RR (.ref s2.heap.objs.size) s3.heap.objs.size) { s3 with heap:=h₁,toks:=tk }:=by
  intro tk
  subst hX
  refine codeAny_compLoop_tests (fun n s'=>∃ i ys v0 H',Inv (Bq X x scope s3.heap.objs.size s3 (upd H2 s2.heap.objs.size (.lst [])) fp) [] (v0::σ) H' s'/\tn i s'.heap/\(∀ b∈fp,H' b=none)/\W i n ys H') ?_ m0
   ⟨0,[],none,_,start tk,st3,fun b hb=>(f3 b hb).1,w0⟩
  rintro n s4 ⟨i,ys,v0,H4,I4,st4,fr4,w4⟩
  have stat:∀ {H':Hp},(∀ b∈fp,H' b=none)->∀ b∈fp,Ep (Bq X x scope s3.heap.objs.size s3 (upd H2 s2.heap.objs.size (.lst [])) fp) [] H' b:=fun hn b hb=>by
   refine ⟨hn b hb,(I4.ok.exf b hb).1,I4.ok.exfs b hb,.inl hb,(I4.ok.exf b hb).2,fun p hp=>absurd (show p∈([]:List (Addr × Obj)) from hp) (by simp)⟩
  rcases turn i n ys H4 w4 with ⟨stop,qn⟩ | ⟨go,step⟩
  ·refine Bo (T.done (Bq X x scope s3.heap.objs.size s3 (upd H2 s2.heap.objs.size (.lst [])) fp) rfl rfl rfl hc i [] s4 (v0::σ) H4 _ I4 (stat fr4) st4 stop) fun r s5 ⟨hr,I5⟩=>?_
   subst hr
   obtain ⟨m,hn,_⟩:=I5.loc
   refine hRR _ _ s5 H4 m hn (I3.Jx (Nat.le_refl _) I5.free) (I3.call' (s':=s5) (ch:=fp) I5.os I5.base I5.hok I5.bare (fun b hb=>?_)) qn
   obtain ⟨_,g1,_,g3,g4,g5⟩:=f3 b hb
   exact ⟨g3,g1,g4,g5⟩
  ·refine Bo (T.item (Bq X x scope s3.heap.objs.size s3 (upd H2 s2.heap.objs.size (.lst [])) fp) rfl rfl rfl hc i [] s4 (v0::σ) H4 _ I4 (stat fr4) st4 go) fun r s5 ⟨u,hr,h5⟩=>?_
   subst hr
   intro Γ p hΓ
   obtain ⟨xv,H6,I6,r6,y6,st6,fr6⟩:=h5 Γ p hΓ
   refine (?_:wpAny _ _ _ _ _ _) Γ p hΓ
   have I6':=I6.pinned (stat fr6) (T.obj _ _ st6)
   have hloc:(Bq X x scope s3.heap.objs.size s3 (upd H2 s2.heap.objs.size (.lst [])) fp).env.scope.names.lookup x=some .local:=lookup_relabel_local S.loc
   have again:∀ {s7:Shared} {H7:Hp} {ys':List V},Inv (Bq X x scope s3.heap.objs.size s3 (upd H2 s2.heap.objs.size (.lst [])) fp) ([]++Hl fp s5.heap) (some xv::σ) H7 s7->(∃ m',m'<n/\W (i+1) m' ys' H7) ->
     ∃ m,m<n/\∃ i ys v0 H',Inv (Bq X x scope s3.heap.objs.size s3 (upd H2 s2.heap.objs.size (.lst [])) fp) [] (v0::σ) H' s7/\tn i s7.heap/\(∀ b∈fp,H' b=none)/\W i m ys H':=fun {s7 H7 ys'} I7 hw=>by
    obtain ⟨m',hm,w7⟩:=hw
    refine ⟨m',hm,i+1,ys',some xv,H7,I7.Fl,T.keep _ _ _ st6 fun b hb o e=>(I7.pin (b,o) (List.mem_append_right _ (List.mem_append_right _ (Di hb e)))).1,fun b hb=>?_,w7⟩
    obtain ⟨o,e,d⟩:=T.obj _ _ st6 b hb
    exact (I7.pin (b,o) (List.mem_append_right _ (List.mem_append_right _ (Di hb e)))).2.1
   refine wpAny_assign_Name (Ig (X:=Bq X x scope s3.heap.objs.size s3 (upd H2 s2.heap.objs.size (.lst [])) fp) (i:=0) I6' S.nd rfl (.inl hloc) r6 (fun s7 I7=>?_) (.inr hloc))
   refine MK (ht _ _ _ _ _ s7 (some xv::σ) H6 _ I7 (step xv H6 y6)) fun b s8 hq0=>?_
   obtain ⟨H8,I8,q8⟩:=hq0
   cases b with
   | false =>
    rw [if_neg Bool.false_ne_true] at q8 ⊢
    exact again I8 q8
   | true =>
    rw [if_pos rfl] at q8 ⊢
    refine MK (he _ _ _ _ _ s8 (some xv::σ) H8 _ I8 q8) fun y s9 hq0=>?_
    obtain ⟨yv,H9,I9,r9,hD9,hz9,q9⟩:=hq0
    refine MK (Bp (X:=Bq X x scope s3.heap.objs.size s3 (upd H2 s2.heap.objs.size (.lst [])) fp) _ s9 (some xv::σ) H9 (.ref s2.heap.objs.size) [yv] (.ref s2.heap.objs.size) [y] (fun _ H'=>H'=upd H9 s2.heap.objs.size (.lst (ys++[yv]))) I9 rfl (.cons r9 .nil)
     ⟨_,ys,yv,rfl,rfl,hD9,hz9,rfl⟩) fun _ s10 ⟨_,H10,I10,_,e10⟩=>?_
    subst e10
    exact again I10 q9
 have key:=fun tk=>codeAny_compStart_list (R:=RR (.ref s2.heap.objs.size) s3.heap.objs.size) (loop tk) (T.self X.A 0 { s3 with heap:=h₁,toks:=tk } (fun it' s'=>codeAny (model X.prog X.w) X.A (.compLoop (.ListComp elt [⟨.Name x px,iter,ifs,0⟩] scope pos) 0 it' (.ref s2.heap.objs.size) (compEnvC scope (CQ X.env scope.names []) s3.heap.objs.size X.env)) (RR (.ref s2.heap.objs.size) s3.heap.objs.size) s') _ st3 (loop tk))
 subst hs3
 exact key _
theorem Bg {px pos:Pos} {iter elt:Expr} {ifs:List Expr} {wi:TI} {tt:TT} {te:TE} (hc:X.calm=true) (S:Em X x scope) (hi:PI X (.Name x px) iter wi)
  (ht:∀ C s₀ H₀ fp,K1 (Bq X x scope C s₀ H₀ fp) ifs tt) (he:∀ C s₀ H₀ fp,PE (Bq X x scope C s₀ H₀ fp) elt te) (hs:∀ x,foldedSetIterable iter X.env x=pure x:=by intro _; rfl) :
  PE X (.ListComp elt [⟨.Name x px,iter,ifs,0⟩] scope pos) (UV wi tt te):=by
 intro pins s σ H Q I h
 rw [eval_ListComp]
 refine wpAny_comprehension_free (use:=none) (cl:=CQ X.env scope.names []) rfl hs (Gv fun y hy hk=>I.ok.has y.1 (S.free y hy hk)) S.kind S.names (Bo (hi pins s σ H _ I h) fun v s1 h1=>Bo h1 fun itv s2 h2=>?_)
 obtain ⟨it,fp,tn,J,H2,e,I2,T,st2,f2,q⟩:=h2
 subst e
 refine Ik (RR:=fun acc C=>compPost (model X.prog X.w) X.A X.xe none (EP X pins σ Q) acc C) (Q:=Q) hc S ht he I2 T st2 f2 q ?_
 intro D C s' H' m hn hf hI hq
 exact ⟨m,hn,fun h' sb=>⟨.ref D,H',hI.sameBut hf sb,rfl,hq⟩⟩
theorem NK {i:Nat} {y:Str} {px py pos spos:Pos} {iter elt:Expr} {ifs:List Expr} {wi:TI} {tt:TT} {te:TE} (hN:X.N.Nodup) (hi':X.N[i]? = some y) (hy:X.env.scope.names.lookup y=some .local) (hc:X.calm=true) (S:Em X x scope) (hi:PI X (.Name x px) iter wi)
  (ht:∀ C s₀ H₀ fp,K1 (Bq X x scope C s₀ H₀ fp) ifs tt) (he:∀ C s₀ H₀ fp,PE (Bq X x scope C s₀ H₀ fp) elt te) (hsw:swapsWith (.ListComp elt [⟨.Name x px,iter,ifs,0⟩] scope pos) (some (.Name y py)) spos.line X.env=pure true:=by rfl) (hs:∀ x,foldedSetIterable iter X.env x=pure x:=by intro _; rfl) :
  PS X (.Assign [.Name y py] (.ListComp elt [⟨.Name x px,iter,ifs,0⟩] scope pos) spos) (YD (UV wi tt te) (Ce i)):=by
 intro pins s σ H D' I h
 rw [exec_Assign_Name_used _ _ _ _ hsw]
 refine wpAny_bind (wpAny_standAt (wpAny_bind ?_))
 show wpAny _ X.A (do let _ ← comprehension (.ListComp elt [⟨.Name x px,iter,ifs,0⟩] scope pos) scope X.env _ (newList []) false (eval iter X.env) (some (assign (.Name y py) X.env))) _ _ s
 refine wpAny_bind (wpAny_mono (wpAny_comprehension_free (use:=some (assign (.Name y py) X.env)) (cl:=CQ X.env scope.names []) (Q:=fun _ s'=>SP X pins D' .next s') rfl hs (Gv fun y hy hk=>I.ok.has y.1 (S.free y hy hk)) S.kind S.names
  (Bo (hi pins s σ H _ I h) fun v s1 h1=>Bo h1 fun itv s2 h2=>?_)) (fun _ s' hq=>wpAny_pure (wpAny_pure hq)) fun _ _ e=>e)
 obtain ⟨it,fp,tn,J,H2,e,I2,T,st2,f2,q⟩:=h2
 subst e
 refine Ik (RR:=fun acc C=>compPost (model X.prog X.w) X.A X.xe (some (assign (.Name y py) X.env)) (fun _ s'=>SP X pins D' .next s') acc C) (Q:=fun x H1=>Ce i x σ H1 D'.nx) hc S ht he I2 T st2 f2 q ?_
 intro D C s' H' m hn hf hI hq
 show wpAny _ X.A (assign (.Name y py) X.env (.ref D)) _ _ _
 refine wpAny_assign_Name (Jl hI hN hi' (.inl hy) (v:=.ref D) rfl (fun s6 I6 hch=>?_) (.inr hy))
 obtain ⟨a,sb,ha⟩:=hch
 have hCa:C ≠ a:=by
  rcases ha with z | z
  ·rw [z]; exact hf.2.1
  ·exact Ne.symm (hf.2.2.2.2.1 y a z)
 exact ⟨m,hn.sameBut sb hCa,fun h' sb'=>⟨_,H',I6.sameBut hf sb',hq⟩⟩
end
end L2
namespace L2
open PySem PySem.Spec PyProof.Rows
section
variable {σ:St} {H1:Hp} {Q:VK} {tt:TT} {te:TE}
theorem G3 {J:It} {xs:List V} (p:V->Bool) (f:V->V) (hz:xs.length<sizeLine)
  (hgo:∀ i H x,Al H1 H->xs[i]? = some x->J.go i H) (hy:∀ i H y H',Al H1 H->i<xs.length->J.yld i H y H'->H'=H/\xs[i]? = some y) (hstop:∀ H,Al H1 H->J.stop xs.length H)
  (ht:∀ x∈xs,∀ H,Al H1 H->∀ R:Bool->Hp->Prop,(∀ H',Al H H'->R (p x) H')->tt (some x::σ) H R)
  (he:∀ x∈xs,p x=true->∀ H,Al H1 H->∀ R:VK,(∀ H',Al H H'->R (f x) H')->te (some x::σ) H R)
  (hq:∀ D H,H1 D=none->Al H1 H->H D=some (.lst ((xs.filter p).map f))->Q (.ref D) H):Fe J σ H1 Q tt te:=by
 intro D hD
 have s0:Al H1 (upd H1 D (.lst [])):=fun b o e=>by rw [Av (Ao e hD)]; exact e
 refine ⟨fun i m ys H=>m=xs.length - i/\i<=xs.length/\ys=((xs.take i).filter p).map f/\H D=some (.lst ys)/\Al H1 H,⟨xs.length,by simp,Nat.zero_le _,by simp,Ah,s0⟩,?_⟩
 rintro i m ys H ⟨rfl,hi,rfl,hd,hs⟩
 by_cases hlt:i<xs.length
 ·obtain ⟨x,hx⟩:∃ x,xs[i]? = some x:=⟨xs[i],by simp [hlt]⟩
  refine .inr ⟨hgo i H x hs hx,fun y H3 hyl=>?_⟩
  obtain ⟨rfl,hy'⟩:=hy i H y H3 hs hlt hyl
  rw [hx] at hy'
  cases hy'
  have hm:x∈xs:=List.mem_of_getElem? hx
  have hlen:(((xs.take i).filter p).map f).length<sizeLine:=by
   rw [List.length_map]
   refine Nat.lt_of_le_of_lt (List.length_filter_le _ _) (Nat.lt_of_le_of_lt ?_ hz)
   rw [List.length_take]; omega
  refine ht x hm _ hs _ fun H4 s4=>?_
  by_cases hp:p x=true
  ·rw [if_pos hp]
   refine he x hm hp H4 (hs.trans s4) _ fun H5 s5=>?_
   refine ⟨s5 _ _ (s4 _ _ hd),hlen,xs.length - (i+1),by omega,rfl,hlt,?_,Ah,fun b o e=>?_⟩
   ·rw [take_succ_filter p xs i x hx,if_pos hp,List.map_append]; rfl
   ·rw [Av (Ao e hD)]; exact s5 _ _ (s4 _ _ (hs _ _ e))
  ·rw [if_neg hp]
   refine ⟨xs.length - (i+1),by omega,rfl,hlt,?_,s4 _ _ hd,hs.trans s4⟩
   rw [take_succ_filter p xs i x hx,if_neg hp,List.append_nil]
 ·have e:i=xs.length:=by omega
  subst e
  rw [List.take_length] at hd
  exact .inl ⟨hstop H hs,hq D H hD hs hd⟩
theorem Il {lo:Int} {n:Nat} (p:Int->Bool) (f:Int->V) (hz:n<sizeLine)
  (ht:∀ i:Nat,i<n->∀ H,Al H1 H->∀ R:Bool->Hp->Prop,(∀ H',Al H H'->R (p (lo+i)) H')->tt (some (.int (lo+i))::σ) H R)
  (he:∀ i:Nat,i<n->p (lo+i)=true->∀ H,Al H1 H->∀ R:VK,(∀ H',Al H H'->R (f (lo+i)) H')->te (some (.int (lo+i))::σ) H R)
  (hq:∀ D H,H1 D=none->Al H1 H->H D=some (.lst ((((List.range n).map fun (i:Nat)=>lo+(i:Int)).filter p).map f))->Q (.ref D) H):Fe (Tq lo n) σ H1 Q tt te:=by
 let g:V->Int:=fun v=>match v with | .int i=>i | _=>0
 have hxs:∀ i:Nat,i<n->((List.range n).map fun (i:Nat)=>V.int (lo+(i:Int)))[i]? = some (.int (lo+i)):=fun i hi=>by simp [hi]
 refine G3 (xs:=(List.range n).map fun (i:Nat)=>V.int (lo+(i:Int))) (fun v=>p (g v)) (fun v=>f (g v)) (by simpa using hz) (fun i H x _ hx=>?_) (fun i H y H' _ hi hy=>?_) (fun H _=>?_) (fun x hx=>?_) (fun x hx=>?_) (fun D H h1 h2 h3=>?_)
 ·have:i<((List.range n).map fun (i:Nat)=>V.int (lo+(i:Int))).length:=(List.getElem?_eq_some_iff.mp hx).1
  show i<n
  simpa using this
 ·have hi':i<n:=by simpa using hi
  obtain ⟨e1,e2⟩:=hy
  subst e2
  exact ⟨e1,hxs i hi'⟩
 ·show n<=_
  simp
 ·obtain ⟨i,hi,rfl⟩:=List.mem_map.mp hx
  exact ht i (List.mem_range.mp hi)
 ·obtain ⟨i,hi,rfl⟩:=List.mem_map.mp hx
  exact he i (List.mem_range.mp hi)
 ·refine hq D H h1 h2 ?_
  rw [h3,List.filter_map,List.map_map,List.filter_map,List.map_map]
  rfl
noncomputable def Z7 (z:Str):It:=⟨fun i _=>i<z.cps.size,fun i H x H'=>H'=H/\∃ c,z.cps[i]? = some c/\x=.str ⟨#[c]⟩,fun i _=>z.cps.size<=i⟩
theorem Qf {P:Program} {w:World} {K:PySem.W.Frag} {tg:Expr} {z:Str} {t0:Tok} {it:Addr} {ty:String} (hty:ty = "str_ascii_iterator" \/ ty = "str_iterator"):Turn P w K tg (Z7 z) [it] it (fun i h=>h.IsStrIter it ty z t0 i) where
 mem:=by simp
 obj:=fun i h st b hb=>by
  have e:b=it:=by simpa using hb
  subst e
  obtain ⟨o,ho,hc,hd⟩:=st
  exact ⟨o,ho,fun v q=>by rw [hd] at q; cases q⟩
 keep:=fun i h h' st k=>let ⟨o,ho,r⟩:=st; ⟨o,k it (by simp) o ho,r⟩
 item:=by
  intro X hP hw hK hc i pins s σ H E I hf st hg
  subst hP hw hK
  obtain ⟨f0,f1,f2,f3,f4,f5⟩:=hf it (by simp)
  have hg':i<z.cps.size:=hg
  have hx:z.cps[i]? = some z.cps[i]:=Array.getElem?_eq_getElem hg'
  have fin:∀ h',h'.IsStrIter it ty z t0 (i+1)->Heap.SameBut it s.heap h'->∃ u,some (Value.str ⟨#[z.cps[i]]⟩ s.toks)=some u /\
    wpAny (model X.prog X.w) X.A (letOwnedTupleGo tg (.ref it) u) (fun _ s2=>∃ x H',Inv X pins σ H' s2/\RelV x u/\(Z7 z).yld i H x H'/\s2.heap.IsStrIter it ty z t0 (i+1)/\∀ b∈[it],H' b=none) E { s with heap:=h',toks:=s.toks+1 }:=fun h' st' sb=>by
   have I1:Inv X pins σ H { s with heap:=h',toks:=s.toks+1 }:=I.turned (fun b o hb e=>(sb.2 b hb).trans e) f0 f1 f3 f4 f5
   obtain ⟨o,e,c,d⟩:=id st'
   refine ⟨_,rfl,Kr (s:={ s with heap:=h',toks:=s.toks+1 }) e c d (by rcases hty with rfl | rfl <;> decide) ⟨.str ⟨#[z.cps[i]]⟩,H,I1,⟨_,rfl⟩,⟨rfl,_,hx,rfl⟩,st',fun b hb=>(hf b hb).1⟩⟩
  rcases hty with rfl | rfl
  ·exact wpAny_pyNext_ascii_item st hx fin
  ·exact wpAny_pyNext_wide_item st hx fin
 done:=by
  intro X hP hw hK hc i pins s σ H E I hf st hg
  subst hP hw hK
  obtain ⟨f0,f1,f2,f3,f4,f5⟩:=hf it (by simp)
  have hx:z.cps[i]? = none:=by
   have hg':z.cps.size<=i:=hg
   simpa using hg'
  rcases hty with rfl | rfl
  ·exact wpAny_pyNext_ascii_end (I.ok.hd hc) st hx fun h' eb=>⟨rfl,I.turned (t':=s.toks) (fun b o hb e=>eb b o hb e) f0 f1 f3 f4 f5⟩
  ·exact wpAny_pyNext_wide_end (I.ok.hd hc) st hx fun h' eb=>⟨rfl,I.turned (t':=s.toks) (fun b o hb e=>eb b o hb e) f0 f1 f3 f4 f5⟩
 self:=fun A i s Q E st h=>by
  rcases hty with rfl | rfl
  ·exact wpAny_pyIter_striter_ascii st h
  ·exact wpAny_pyIter_striter_wide st h
end
section
variable {X:Cx} {tg:Expr}
noncomputable def aH (tl:TE):TI:=fun σ H R=>tl σ H fun x H1=>∃ z,x=.str z/\R (Z7 z) H1
theorem VB {l:Expr} {tl:TE} (hl:PE X l tl):PI X tg l (aH tl):=by
 intro pins s σ H R I h
 refine Bo (hl pins s σ H _ I h) fun v s1 hq0=>?_
 obtain ⟨x,H1,I1,r1,q1⟩:=hq0
 obtain ⟨z,e,q⟩:=q1
 subst e
 obtain ⟨t,rfl⟩:=r1
 have fin:∀ ty,(ty = "str_ascii_iterator" \/ ty = "str_iterator")->PIE X pins σ tg R (.ref s1.heap.objs.size) { s1 with heap:=s1.heap.push { cls:=.type ty,data:=.fields #[.str z t,.int 0 0] } }:=fun ty hty=>by
  refine ⟨s1.heap.objs.size,[s1.heap.objs.size],_,_,H1,rfl,I1.kept (t':=s1.toks) fun b o e=>Heap.get?_push_of_some _ e,Qf (z:=z) (t0:=t) hty,⟨_,Heap.get?_push_size _ rfl,rfl,rfl⟩,fun b hb=>?_,q⟩
  have e:b=s1.heap.objs.size:=by simpa using hb
  subst e
  exact I1.Jx (Nat.le_refl _) (I1.hok.fresh (Nat.le_refl _))
 cases ha:z.cps.all (· < 128)
 ·exact wpAny_pyIter_wide ha (fin _ (.inr rfl))
 ·exact wpAny_pyIter_ascii ha (fin _ (.inl rfl))
end
section
variable {σ:St} {H1:Hp} {Q:VK} {tt:TT} {te:TE}
noncomputable def sgn (c:Nat):V:=.str ⟨#[c]⟩
theorem P_ {z:Str} (p:Nat->Bool) (f:Nat->V) (hz:z.length<sizeLine)
  (ht:∀ c∈z.cps.toList,∀ H,Al H1 H->∀ R:Bool->Hp->Prop,(∀ H',Al H H'->R (p c) H')->tt (some (sgn c)::σ) H R)
  (he:∀ c∈z.cps.toList,p c=true->∀ H,Al H1 H->∀ R:VK,(∀ H',Al H H'->R (f c) H')->te (some (sgn c)::σ) H R)
  (hq:∀ D H,H1 D=none->Al H1 H->H D=some (.lst ((z.cps.toList.filter p).map f))->Q (.ref D) H):Fe (Z7 z) σ H1 Q tt te:=by
 let g:V->Nat:=fun v=>match v with | .str y=>y.cps.getD 0 0 | _=>0
 refine G3 (xs:=z.cps.toList.map sgn) (fun v=>p (g v)) (fun v=>f (g v)) (by simpa [Str.length] using hz) (fun i H x _ hx=>?_) (fun i H y H' _ hi hy=>?_) (fun H _=>?_) (fun x hx=>?_) (fun x hx=>?_) (fun D H h1 h2 h3=>?_)
 ·have:i<(z.cps.toList.map sgn).length:=(List.getElem?_eq_some_iff.mp hx).1
  show i<z.cps.size
  simpa using this
 ·obtain ⟨e1,c,hc,rfl⟩:=hy
  refine ⟨e1,?_⟩
  rw [List.getElem?_map,Array.getElem?_toList,hc]; rfl
 ·show z.cps.size<=_
  simp
 ·obtain ⟨c,hc,rfl⟩:=List.mem_map.mp hx
  exact ht c hc
 ·obtain ⟨c,hc,rfl⟩:=List.mem_map.mp hx
  exact he c hc
 ·refine hq D H h1 h2 ?_
  rw [h3,List.filter_map,List.map_map]
  rfl
end
section
variable {X:Cx}
theorem range_all (bs:List Bool):((List.range bs.length).all fun i=>(bs[i]?).getD true)=bs.all id:=by
 rw [Bool.eq_iff_iff,List.all_eq_true,List.all_eq_true]
 constructor
 ·intro h b hb
  obtain ⟨i,hi,e⟩:=List.mem_iff_getElem.mp hb
  have:=h i (List.mem_range.mpr hi)
  rw [List.getElem?_eq_getElem hi,e] at this
  exact this
 ·intro h i hi
  have hi':=List.mem_range.mp hi
  rw [List.getElem?_eq_getElem hi']
  exact h _ (List.getElem_mem hi')
theorem Io (hc:X.calm=true):FJ X (.builtin "all") (fun xs H Q=>∃ (p:Addr) (bs:List Bool),xs=[V.ref p]/\Ci X.K H p (bs.map V.bl)/\Q (.bl (bs.all id)) H):=by
 intro pins s σ H xs us Q I r h
 obtain ⟨p,bs,rfl,hp,q⟩:=h
 obtain ⟨u,rfl,ru⟩:=vals1 r
 cases ru
 obtain ⟨its,rv,pl,hz⟩:=I.list hp
 have hlen:bs.length=its.length:=by have:=rv.length; rw [List.length_map] at this; exact this
 have hlt:p<s.heap.objs.size:=by obtain ⟨_,e,_⟩:=pl.isList; exact Heap.lt_size e
 refine call_all_walk (wpAny_pyIter_list pl.isList ?_)
 refine ⟨s.heap.objs.size,[s.heap.objs.size,p],[s.heap.objs.size],its.toArray.size,_,_,fun i=>(bs[i]?).getD true,rfl,Walks.list (A:=X.A.in1) (I.ok.hd hc) _ p (Nat.ne_of_lt hlt) its.toArray,
  ⟨⟨_,Heap.get?_push_size _ rfl,rfl,rfl⟩,pl.isList.push _⟩,fun i v s' Q' E' hP hQ=>?_,fun h' tk hk=>?_⟩
 ·have hP':its[i]? = some v:=by simpa using hP
  have hi:i<its.length:=(List.getElem?_eq_some_iff.mp hP').1
  have hb:bs[i]? = some bs[i]:=by simp [hlen,hi]
  obtain ⟨u,hu,ru⟩:=rv.get (i:=i) (x:=.bl bs[i]) (by rw [List.getElem?_map,hb]; rfl)
  rw [hP'] at hu
  cases hu
  cases ru
  dsimp only at hQ
  rw [hb] at hQ
  exact wpAny_truthy_bool hQ
 ·have e:((List.range its.toArray.size).all fun i=>(bs[i]?).getD true)=bs.all id:=by rw [List.size_toArray,← hlen]; exact range_all bs
  rw [e]
  refine ⟨.bl (bs.all id),H,I.kept (t':=tk) fun b o eb=>hk b o (fun hm=>?_) (Heap.get?_push_of_some _ eb),rfl,q⟩
  rw [List.mem_singleton.mp hm] at eb
  exact Nat.lt_irrefl _ (Heap.lt_size eb)
theorem Cp:FJ X (.builtin "isinstance") (fun xs H Q=>∃ x T t b,xs=[x,V.ty T]/\HS X.K H x t/\PySem.W.kitOne X.K t (.type T)=some b/\Q (.bl b) H):=by
 intro pins s σ H xs us Q I r h
 obtain ⟨x,T,t,b,rfl,ty,e,q⟩:=h
 obtain ⟨u,v,rfl,ru,rv⟩:=Vals.two r
 cases rv
 exact Nv I ru ty e fun tk=>⟨.bl b,H,I.tok _,rfl,q⟩
end
noncomputable def Nf (x:Str) (scope osc:Scope) (N:List Str):Bool :=
 (scope.kind == .function) && scope.names.all (fun y=>y.2 != .cell) && scope.names.all (fun y=>y.2 != .local || scope.names.lookup y.1 == some .local) && (scope.names.lookup x == some .local) &&
 scope.names.all (fun y=>y.2 != .free || osc.names.lookup y.1 == some .cell || osc.names.lookup y.1 == some .free) && decide ((x::Gb x N).Nodup) && (Gb x N).all (fun y=>scope.names.lookup y != some .local) && (scope.names.lookup ("" : Str) == none)
theorem BP {X:Cx} {x:Str} {scope osc:Scope} {N:List Str} (hsc:X.env.scope=osc) (hN:X.N=N) (h:Nf x scope osc N=true):Em X x scope:=by
 unfold Nf at h
 simp only [Bool.and_eq_true] at h
 obtain ⟨⟨⟨⟨⟨⟨⟨h1,h2⟩,h3⟩,h4⟩,h5⟩,h6⟩,h7⟩,h8⟩:=h
 rw [List.all_eq_true] at h2 h3 h5 h7
 have kd:∀ y,X.env.kindOf y=osc.names.lookup y:=fun y=>by rw [← hsc]; rfl
 refine ⟨by simpa using h1,fun y hy=>by simpa using h2 y hy,fun y hy e=>?_,by simpa using h4,fun y hy e=>?_,by rw [hN]; exact of_decide_eq_true h6,fun y hy=>?_,by simpa using h8⟩
 ·have:=h3 y hy
  rw [e] at this
  simpa using this
 ·have:=h5 y hy
  rw [e] at this
  rw [kd]
  simpa using this
 ·rw [hN] at hy
  simpa using h7 y hy
end L2
namespace L2
open PySem PySem.Spec PyProof.Rows
section
variable {X:Cx} {pins:List (Addr × Obj)} {σ:St} {H:Hp} {s:Shared} {h':Heap}
theorem Inv.K3 {ch:List Addr} {a:Addr} {o:HO} {t':Nat} (I:Inv X pins σ H s) (hf:∀ b∈ch,Ep X pins H b) (k:∀ b u,b ∉ ch->s.heap.get? b=some u->h'.get? b=some u) (hp:s.heap.objs.size<=a)
  (new:Bt X.prog X.w (upd H a o) h' a o):Inv X pins σ (upd H a o) { s with heap:=h',toks:=t' }:=by
 have hn:H a=none:=I.hok.fresh hp
 have up:∀ b u,H b=some u->upd H a o b=some u:=fun b u e=>by rw [Av (Ao e hn)]; exact e
 refine I.step (g':=s.gens) (d':=s.drawn) (ch:=ch) (fun b hb=>?_) (fun b u _ _ hc e _=>k b u hc e) (fun b u _ _ hc e _=>⟨u.slots,k b u hc e⟩) (fun b u _ e n=>?_)
  (fun b u hc e=>⟨u,k b u hc e⟩) (fun b xs e=>up _ _ e) (fun b u x e=>up _ _ e) (fun b ps e=>⟨#[],by rw [up _ _ e]; simp⟩) (fun m hm=>?_) (fun b u e=>?_) I.bare
 ·obtain ⟨f0,f1,f2,f3,f4,f5⟩:=hf b hb
  exact ⟨f3,f1,f4,f5⟩
 ·rw [Av (Nat.ne_of_lt (Nat.lt_of_lt_of_le (Heap.lt_size e) hp))]
  exact n
 ·obtain ⟨u,es,ep,ho,r⟩:=hm
  exact ⟨u,es,ep,k _ u (fun z=>(hf _ z).2.1 rfl) ho,r⟩
 ·by_cases hb:b=a
  ·subst hb
   rw [Ah] at e
   cases e
   exact new
  ·rw [Av hb] at e
   refine (I.hok b u e).stay (fun c v hc q=>k c v (fun z=>?_) q) (fun _ q=>up _ _ q) fun _ _ q=>up _ _ q
   have z1:=(hf c z).1
   rcases hc with hc | hc
   ·rw [hc,e] at z1
    cases z1
   ·rw [hc] at z1
    cases z1
theorem Inv.Mp {ch:List Addr} {t':Nat} (I:Inv X pins σ H s) (hf:∀ b∈ch,Ep X pins H b) (k:∀ b u,b ∉ ch->s.heap.get? b=some u->h'.get? b=some u):Inv X pins σ H { s with heap:=h',toks:=t' }:=by
 refine I.step (g':=s.gens) (d':=s.drawn) (ch:=ch) (fun b hb=>?_) (fun b u _ _ hc e _=>k b u hc e) (fun b u _ _ hc e _=>⟨u.slots,k b u hc e⟩) (fun b u _ e n=>n)
  (fun b u hc e=>⟨u,k b u hc e⟩) (fun b xs e=>e) (fun b u x e=>e) (fun b ps e=>⟨#[],by rw [e]; simp⟩) (fun m hm=>?_) (fun b u e=>?_) I.bare
 ·obtain ⟨f0,f1,f2,f3,f4,f5⟩:=hf b hb
  exact ⟨f3,f1,f4,f5⟩
 ·obtain ⟨u,es,ep,ho,r⟩:=hm
  exact ⟨u,es,ep,k _ u (fun z=>(hf _ z).2.1 rfl) ho,r⟩
 ·refine (I.hok b u e).stay (fun c v hc q=>k c v (fun z=>?_) q) (fun _ q=>q) fun _ _ q=>q
  have z1:=(hf c z).1
  rcases hc with hc | hc
  ·rw [hc,e] at z1
   cases z1
  ·rw [hc] at z1
   cases z1
end
noncomputable def V7 (K:PySem.W.Frag) (a:Addr):It :=
 ⟨fun i H=>∃ xs x,Ci K H a xs/\xs[i]? = some x,fun i H v H'=>∃ T,H T=none/\v=.ref T/\∀ xs,Ci K H a xs->∃ x,xs[i]? = some x/\H'=upd H T (.tup [.int (i:Int),x]),fun i H=>∃ xs,Ci K H a xs/\xs.length<=i⟩
noncomputable def dW (K:PySem.W.Frag) (a b:Addr):It :=
 ⟨fun i H=>∃ xs ys x y,Gy K H a xs/\Gy K H b ys/\xs[i]? = some x/\ys[i]? = some y,fun i H v H'=>∃ T,H T=none/\v=.ref T/\∀ xs ys,Gy K H a xs->Gy K H b ys->∃ x y,xs[i]? = some x/\ys[i]? = some y/\H'=upd H T (.tup [x,y]),
  fun i H=>∃ xs,Gy K H a xs/\xs.length<=i⟩
theorem Oa {P:Program} {w:World} {K:PySem.W.Frag} {es:List Expr} {k1:Nat} {pos:Pos} (a e it:Addr) (hne:e ≠ it) :
  Turn P w K (.Tuple es k1 pos) (V7 K a) [e,it] e (fun i h=>(∃ old,IsEnum h e it i old)/\h.IsListIter it a i) where
 mem:=by simp
 obj:=fun i h st b hb=>by
  obtain ⟨⟨old,he⟩,o,ho,c,d⟩:=st
  rcases List.mem_cons.mp hb with rfl | hb
  ·exact ⟨_,he,fun v z=>by
    have z':Data.fields _=Data.cell v:=z
    cases z'⟩
  ·have q:b=it:=by simpa using hb
   subst q
   exact ⟨o,ho,fun v z=>by rw [d] at z; cases z⟩
 keep:=fun i h h' st k=>by
  obtain ⟨⟨old,he⟩,hi⟩:=st
  exact ⟨⟨old,k e (by simp) _ he⟩,hi.at fun o q=>k it (by simp) o q⟩
 item:=by
  intro X hP hw hK hc i pins s σ H E I hf st hg
  subst hP hw hK
  obtain ⟨xs,x,hq,hx⟩:=hg
  obtain ⟨its,rv,p,hz⟩:=I.list hq
  obtain ⟨u,hu,ru⟩:=rv.get hx
  obtain ⟨⟨old,he⟩,hi⟩:=st
  refine wpAny_pyNext_enum_item he hi p.isList (x:=u) (by simpa using hu) hne fun h1 n1 n2 n3 n4 n5=>?_
  refine ⟨_,rfl,wpAny_letOwnedTupleGo_enum (s:={ s with heap:=h1,toks:=s.toks+1 }) n1 fun h2 m1 m2=>?_⟩
  have hT:s.heap.objs.size ≠ e:=Nat.ne_of_gt (Heap.lt_size he)
  have hI:s.heap.objs.size ≠ it:=by obtain ⟨_,q,_⟩:=hi; exact Nat.ne_of_gt (Heap.lt_size q)
  have fr:H s.heap.objs.size=none:=I.hok.fresh (Nat.le_refl _)
  have nw:Bt X.prog X.w (upd H s.heap.objs.size (.tup [.int (i:Int),x])) h2 s.heap.objs.size (.tup [.int (i:Int),x]) :=
   ⟨by show 2<=sizeLine; decide,[.int i s.toks,u],.cons ⟨_,rfl⟩ (.cons ru .nil),_,m2.extBut _ _ hT n3,rfl,_,rfl⟩
  refine ⟨.ref s.heap.objs.size,_,I.K3 (t':=s.toks+1) (ch:=[e,it]) hf (fun b o hb q=>?_) (Nat.le_refl _) nw,rfl,⟨_,fr,rfl,fun ys hy=>⟨x,by rw [I.Ld hy hq]; exact hx,rfl⟩⟩,⟨⟨u,?_⟩,n2.at fun o q=>m2.extBut _ _ (Ne.symm hne) q⟩,fun b hb=>?_⟩
  ·exact m2.extBut _ _ (fun z=>hb (by simp [z])) (n5 b o (fun z=>hb (by simp [z])) (fun z=>hb (by simp [z])) q)
  ·have e1:((i:Int)+1)=((i+1:Nat):Int):=by omega
   rw [← e1]
   exact m1
  ·have hb':=hb
   rcases List.mem_cons.mp hb with rfl | hb
   ·rw [Av (Ne.symm hT)]
    exact (hf _ hb').1
   ·have q:b=it:=by simpa using hb
    subst q
    rw [Av (Ne.symm hI)]
    exact (hf _ hb').1
 done:=by
  intro X hP hw hK hc i pins s σ H E I hf st hg
  subst hP hw hK
  obtain ⟨xs,hq,hx⟩:=hg
  obtain ⟨its,rv,p,hz⟩:=I.list hq
  obtain ⟨⟨old,he⟩,hi⟩:=st
  have hl:=rv.length
  exact wpAny_pyNext_enum_end (I.ok.hd hc) he hi p.isList (by simp; omega) fun h1 eb=>⟨rfl,I.Mp (t':=s.toks) (ch:=[e,it]) hf fun b o hb q=>eb b o (fun z=>hb (by simp [z])) q⟩
 self:=fun _ _ _ _ _ st h=>by
  obtain ⟨⟨old,he⟩,_⟩:=st
  exact wpAny_pyIter_enum he h
theorem Pu {n a b:Nat} (ha:a<n) (hb:b<n):ZipApart (n+4) (n+2) (n+3) n (n+1) a b:=by
 constructor <;> (refine (show @Ne Nat _ _ from ?_); omega)
theorem Vc {n b:Nat} {P:Nat->Prop} (h0:P n) (h1:P (n+1)) (h2:P (n+2)) (h3:P (n+3)) (h4:P (n+4)) (hb:b∈[n,n+1,n+2,n+3,n+4]):P b:=by
 simp at hb
 rcases hb with rfl | rfl | rfl | rfl | rfl <;> assumption
theorem Ov {P:Program} {w:World} {K:PySem.W.Frag} {es:List Expr} {k1:Nat} {pos:Pos} (a b n:Nat) (ha:a<n) (hb:b<n) :
  Turn P w K (.Tuple es k1 pos) (dW K a b) [n,n+1,n+2,n+3,n+4] (n+4) (fun i h=>IsZip h (n+4) (n+2) (n+3) .none/\IsPair h (n+2) (.ref n) (.ref (n+1))/\(∃ x y,IsPair h (n+3) x y)/\h.IsTupleIter n a i/\h.IsTupleIter (n+1) b i) where
 mem:=by simp
 obj:=fun i h st c hc=>by
  obtain ⟨hz,hI,⟨x,y,hO⟩,⟨o1,e1,_,d1⟩,⟨o2,e2,_,d2⟩⟩:=st
  refine Vc (P:=fun c=>∃ o,h.get? c=some o/\∀ v,o.data ≠ .cell v) ⟨_,e1,fun v z=>?_⟩ ⟨_,e2,fun v z=>?_⟩ ⟨_,hI,fun v z=>?_⟩ ⟨_,hO,fun v z=>?_⟩ ⟨_,hz,fun v z=>?_⟩ hc
  ·rw [d1] at z; cases z
  ·rw [d2] at z; cases z
  ·have z':Data.seq _ _=Data.cell v:=z
   cases z'
  ·have z':Data.seq _ _=Data.cell v:=z
   cases z'
  ·have z':Data.fields _=Data.cell v:=z
   cases z'
 keep:=fun i h h' st k=>by
  obtain ⟨hz,hI,⟨x,y,hO⟩,j1,j2⟩:=st
  exact ⟨k _ (by simp) _ hz,k _ (by simp) _ hI,⟨x,y,k _ (by simp) _ hO⟩,j1.at fun o q=>k _ (by simp) o q,j2.at fun o q=>k _ (by simp) o q⟩
 item:=by
  intro X hP hw hK hc i pins s σ H E I hf st hg
  subst hP hw hK
  obtain ⟨xs,ys,x,y,q1,q2,hx,hy⟩:=hg
  obtain ⟨it1,r1,p1,_⟩:=I.tuple q1
  obtain ⟨it2,r2,p2,_⟩:=I.tuple q2
  obtain ⟨u,hu,ru⟩:=r1.get hx
  obtain ⟨v,hv,rv⟩:=r2.get hy
  obtain ⟨hz,hI,⟨x0,y0,hO⟩,j1,j2⟩:=st
  have D:=Pu ha hb
  have hT:s.TypeIs (.ref (n+4)) "zip":=⟨_,hz,rfl⟩
  have sz:n+4<s.heap.objs.size:=Heap.lt_size hz
  unfold pyNext
  refine wpAny_bind (wpAny_attempt (wpAny_callSpecial?_slot (name:=Str.ofString "__next__") hT F.slot_zip_next (wpAny_call_entry F.slot_zip_next hT F.entry_zip_next
   (OJ D hz hI hO j1 j2 (show s.heap.IsTuple a it1.toArray from p1) (show s.heap.IsTuple b it2.toArray from p2) (x:=u) (y:=v) (by simpa using hu) (by simpa using hv) fun h1 n1 n2 n3 n4 n5 n6 n7=>wpAny_pure ?_) (F.args_zip_next_1 _))))
  refine ⟨_,rfl,wpAny_letOwnedTupleGo_zip (s:={ s with heap:=h1 }) n1 fun h2 m1 m2=>?_⟩
  have fr:H s.heap.objs.size=none:=I.hok.fresh (Nat.le_refl _)
  have nw:Bt X.prog X.w (upd H s.heap.objs.size (.tup [x,y])) h2 s.heap.objs.size (.tup [x,y]) :=
   ⟨by show 2<=sizeLine; decide,[u,v],.cons ru (.cons rv .nil),_,m2.extBut _ _ (Nat.ne_of_gt sz) n5,rfl,_,rfl⟩
  have hI2:IsPair h1 (n+2) (.ref n) (.ref (n+1)):=n7 _ _ D.TIz D.TITO D.TIi1 D.TIi2 hI
  refine ⟨.ref s.heap.objs.size,_,I.K3 (t':=s.toks) (ch:=[n,n+1,n+2,n+3,n+4]) hf (fun c o hc q=>?_) (Nat.le_refl _) nw,rfl,⟨_,fr,rfl,fun xs' ys' h1 h2=>⟨x,y,by rw [I.HQ h1 q1]; exact hx,by rw [I.HQ h2 q2]; exact hy,rfl⟩⟩,
   ⟨m1,m2.extBut _ _ D.TIz hI2,⟨u,v,m2.extBut _ _ D.TOz n2⟩,n3.at fun o q=>m2.extBut _ _ D.i1z q,n4.at fun o q=>m2.extBut _ _ D.i2z q⟩,fun c hc=>?_⟩
  ·have z:∀ d,d∈[n,n+1,n+2,n+3,n+4]->c ≠ d:=fun d hd q=>hc (q ▸ hd)
   exact m2.extBut _ _ (z _ (by simp)) (n7 c o (z _ (by simp)) (z _ (by simp)) (z _ (by simp)) (z _ (by simp)) q)
  ·rw [Av ?_]
   ·exact (hf c hc).1
   ·have lt:c<=n+4:=Vc (P:=fun c=>c<=n+4) (by omega) (by omega) (by omega) (by omega) (Nat.le_refl _) hc
    exact Nat.ne_of_lt (Nat.lt_of_le_of_lt lt sz)
 done:=by
  intro X hP hw hK hc i pins s σ H E I hf st hg
  subst hP hw hK
  obtain ⟨xs,q1,hx⟩:=hg
  obtain ⟨it1,r1,p1,_⟩:=I.tuple q1
  obtain ⟨hz,hI,⟨x0,y0,hO⟩,j1,j2⟩:=st
  have D:=Pu ha hb
  have hT:s.TypeIs (.ref (n+4)) "zip":=⟨_,hz,rfl⟩
  have hl:=r1.length
  unfold pyNext
  refine wpAny_bind (wpAny_attempt (wpAny_callSpecial?_slot (name:=Str.ofString "__next__") hT F.slot_zip_next (wpAny_call_entry F.slot_zip_next hT F.entry_zip_next
   (Qk (I.ok.hd hc) D hz hI hO j1 (show s.heap.IsTuple a it1.toArray from p1) (by simp; omega) fun h1 x k1 hx1=>?_) (F.args_zip_next_1 _))))
  obtain ⟨o,ho,hco⟩:=hx1
  refine wpAny_bind (wpAny_isInstance (T:="StopIteration") (b:=true) ⟨o,ho,hco⟩ isSubtype_stop (wpAny_pure ?_))
  refine ⟨rfl,I.Mp (t':=s.toks) (ch:=[n,n+1,n+2,n+3,n+4]) hf fun c o hc q=>?_⟩
  have z:∀ d,d∈[n,n+1,n+2,n+3,n+4]->c ≠ d:=fun d hd q=>hc (q ▸ hd)
  exact k1 c o (z _ (by simp)) (z _ (by simp)) (z _ (by simp)) (z _ (by simp)) q
 self:=fun _ _ _ _ _ st h=>wpAny_pyIter_zip st.1 h
section
variable {X:Cx} {es:List Expr} {k1:Nat} {tpos:Pos}
noncomputable def WX (K:PySem.W.Frag) (ta:TA):TI:=fun σ H R=>ta σ H fun vs H1=>∃ a,vs=[.ref a]/\(∃ xs,Ci K H1 a xs)/\R (V7 K a) H1
noncomputable def cV (K:PySem.W.Frag) (ta:TA):TI:=fun σ H R=>ta σ H fun vs H1=>∃ a b,vs=[.ref a,.ref b]/\(∃ xs,Gy K H1 a xs)/\(∃ ys,Gy K H1 b ys)/\R (dW K a b) H1
theorem GK {l:Expr} {ta:TA} {p pos:Pos} (hg:Gl X "enumerate") (hm:X.mg "enumerate" = none) (ha:PA X [l] ta) (hs:starEach [l] X.env=[(false,eval l X.env)]:=by rfl) :
  PI X (.Tuple es k1 tpos) (.Call (.Name "enumerate" p) [l] [] pos) (WX X.K ta):=by
 intro pins s σ H R I h
 refine Call_ (Ez I hg hm boot_enumerate (PyProof.Rows.callWith_type1 (Bo (ha pos pins s σ H _ I h) fun us s1 ⟨vs,H1,I1,r1,q1⟩=>?_) hs rfl))
 obtain ⟨a,e,⟨xs,hq⟩,q⟩:=q1
 subst e
 obtain ⟨u,rfl,ru⟩:=vals1 r1
 cases ru
 obtain ⟨its,rv,pl,hz⟩:=I1.list hq
 refine call_enumerate_list pl.isList fun h1 n1 n2 n3 n4=>?_
 refine wpAny_pyIter_enum (s:={ s1 with heap:=h1 }) n1 ?_
 refine ⟨_,[s1.heap.objs.size+1,s1.heap.objs.size],_,_,H1,rfl,I1.kept (t':=s1.toks) n4,Oa a _ _ (Nat.succ_ne_self _),⟨⟨_,n1⟩,n2⟩,fun b hb=>?_,q⟩
 have lt:s1.heap.objs.size<=b:=by
  rcases List.mem_cons.mp hb with rfl | hb
  ·exact Nat.le_succ _
  ·exact Nat.le_of_eq ((List.mem_singleton.mp hb).symm)
 exact I1.Jx lt (I1.hok.fresh lt)
theorem RV {x y:Expr} {ta:TA} {p pos:Pos} (hg:Gl X "zip") (hm:X.mg "zip" = none) (ha:PA X [x,y] ta) (hs:starEach [x,y] X.env=[(false,eval x X.env),(false,eval y X.env)]:=by rfl) (hs2:starEach [y] X.env=[(false,eval y X.env)]:=by rfl) :
  PI X (.Tuple es k1 tpos) (.Call (.Name "zip" p) [x,y] [] pos) (cV X.K ta):=by
 intro pins s σ H R I h
 refine Call_ (Ez I hg hm boot_zip (PyProof.Rows.callWith_type1 (Bo (ha pos pins s σ H _ I h) fun us s1 ⟨vs,H1,I1,r1,q1⟩=>?_) (by rw [hs,hs2]) (by rw [hs2]; rfl)))
 obtain ⟨a,b,e,⟨xs,q1⟩,⟨ys,q2⟩,q⟩:=q1
 subst e
 obtain ⟨u,v,rfl,ru,rv⟩:=Vals.two r1
 cases ru
 cases rv
 obtain ⟨it1,r1,p1,_⟩:=I1.tuple q1
 obtain ⟨it2,r2,p2,_⟩:=I1.tuple q2
 refine Ou (show s1.heap.IsTuple a it1.toArray from p1) (show s1.heap.IsTuple b it2.toArray from p2) fun h1 n hn n1 n2 n3 n4 n5 n6 n7=>?_
 refine wpAny_pyIter_zip (s:={ s1 with heap:=h1 }) n1 ?_
 have la:a<n:=by rw [hn]; exact p1.lt
 have lb:b<n:=by rw [hn]; exact p2.lt
 refine ⟨_,[n,n+1,n+2,n+3,n+4],_,_,H1,rfl,I1.kept (t':=s1.toks) n7,Ov a b n la lb,⟨n1,n2,⟨_,_,n3⟩,n4,n5⟩,fun c hc=>?_,q⟩
 have lt:s1.heap.objs.size<=c:=by
  rw [← hn]
  exact Vc (P:=fun c=>n<=c) (by omega) (by omega) (by omega) (by omega) (by omega) hc
 exact I1.Jx lt (I1.hok.fresh lt)
end
end L2
namespace L2
open PySem PySem.Spec PyProof.Rows
theorem SQ {prog:Program} {w:World} {A:Around} {R:Result->Shared->Prop} {s:Shared} {elt tg iter:Expr} {ifs:List Expr} {scope:Scope} {pos:Pos} {it acc:Value} {env:Env} (J:Nat->Shared->Prop) {E:Value->Shared->Prop} (hE:E=notedBy (model prog w) A env fun e s'=>R (.error e) s')
  (turn:∀ n s,J n s->wpAny (model prog w) A (pyNext it) (fun r s1=>match r with
   | none=>R (.ok .next) s1
   | some v=>wpAny (model prog w) A (letOwnedTupleGo tg it v) (fun _ s2=>wpAny (model prog w) A (assign tg env v) (fun _ s3 =>
     wpAny (model prog w) A (forIn ifs true fun c r=>if r=true then do let ok ← isTrue c env (eval c env); pure (ForInStep.yield ok) else pure (ForInStep.yield r)) (fun ok s4 =>
      if ok=true then wpAny (model prog w) A (eval elt env) (fun x s5=>wpAny (model prog w) A (call (.builtin "list.append") [acc,x]) (fun _ s6=>∃ m,m<n/\J m s6) E s5) E s4
      else ∃ m,m<n/\J m s4) E s3) E s2) E s1) E s) (n:Nat) (h:J n s) :
  codeAny (model prog w) A (.compLoop (.ListComp elt [⟨tg,iter,ifs,0⟩] scope pos) 0 it acc env) R s:=by
 subst hE
 refine codeAny_loop rfl J (fun n s hJ=>(show wpAny _ A ((compTurn (.ListComp elt [⟨tg,iter,ifs,0⟩] scope pos) 0 it acc env).onRaise (fun x=>do noteFrame x env; theTreesLotGoes x)) _ _ s from wpAny_noted ?_)) n h
 rw [compTurn_list]
 refine wpAny_bind (wpAny_standAt (wpAny_bind (wpAny_mono (turn n s hJ) (fun r s1 h1=>?_) fun _ _ q=>q)))
 cases r with
 | none=>exact wpAny_pure h1
 | some v =>
  refine wpAny_bind (wpAny_mono h1 (fun _ s2 h2=>wpAny_bind (wpAny_mono h2 (fun _ s3 h3=>wpAny_bind (wpAny_mono h3 (fun ok s4 h4=>?_) fun _ _ q=>q)) fun _ _ q=>q)) fun _ _ q=>q)
  cases ok with
  | false=>exact wpAny_pure ⟨rfl,h4⟩
  | true=>exact wpAny_bind (wpAny_bind (wpAny_mono h4 (fun x s5 h5=>wpAny_bind (wpAny_mono h5 (fun _ s6 h6=>wpAny_pure (wpAny_pure ⟨rfl,h6⟩)) fun _ _ q=>q)) fun _ _ q=>q))
noncomputable def Ba (X:Cx) (x z:Str) (scope:Scope) (C:Addr) (s₀:Shared) (H₀:Hp) (fp:List Addr):Cx where
 prog:=X.prog
 w:=X.w
 K:=X.K
 mg:=X.mg
 base:=X.base
 A:=X.A
 N:=x::z::X.N
 s₀:=s₀
 H₀:=H₀
 env:=compEnvC scope (CQ X.env scope.names []) C X.env
 outer:=X.stack
 stack:=X.stack
 ex:=fp
 fn:=fun _=>false
 calm:=X.calm
 pn:=[]
 xe:=fun _ _=>False
structure Dg (X:Cx) (x z:Str) (scope:Scope):Prop where
 kind:scope.kind=.function
 nocell:∀ y∈scope.names,y.2 ≠ .cell
 names:∀ y∈scope.names,y.2=.local->scope.names.lookup y.1=some .local
 loc:scope.names.lookup x=some .local
 loz:scope.names.lookup z=some .local
 free:∀ y∈scope.names,y.2=.free->X.env.kindOf y.1=some .cell \/ X.env.kindOf y.1=some .free
 nd:(x::z::X.N).Nodup
 only:∀ y∈X.N,scope.names.lookup y ≠ some .local
section
variable {X:Cx} {pins:List (Addr × Obj)} {σ:St} {H:Hp} {s:Shared} {x z:Str} {scope:Scope} {fp:List Addr} {C:Addr}
theorem K5 {h':Heap} {tk:Nat} {m:Str->Option Value} (I:Inv X pins σ H s) (S:Dg X x z scope) (hf:∀ b∈fp,Ep X pins H b) (hlt:∀ b∈fp,b<s.heap.objs.size) (hC:s.heap.objs.size<=C) (hn:h'.Ns C m)
  (hk:∀ b o,s.heap.get? b=some o->h'.get? b=some o):Inv (Ba X x z scope C s H fp) [] (none::none::σ) H { s with heap:=h',toks:=tk }:=by
 have cl:∀ y c,(CQ X.env scope.names []).lookup y=some c->X.env.cells.lookup y=some c:=fun y c e=>by
  rcases Ek X.env scope.names [] y c e with z | z
  ·cases z
  ·exact z
 have cellK:∀ c v,s.heap.IsCell c v->h'.IsCell c v:=fun c v ⟨o,ho,hd⟩=>⟨o,hk c o ho,hd⟩
 have look:∀ y,(Ba X x z scope C s H fp).env.scope.names.lookup y=(scope.names.lookup y).map fun k=>if (k == NameKind.free && X.env.scope.kind == .function && X.env.kindOf y == some .cell) then NameKind.cell else k:=fun y=>Ec X.env y scope.names
 refine ⟨⟨I.ok.mod,S.kind,I.ok.glob,I.ok.blt,hC,fun y z c e1 e2=>I.ok.inj y z c (cl y c e1) (cl z c e2),fun y hy=>?_,fun y c e _=>(by cases e),fun h=>I.ok.hd h,I.ok.frames,.inl rfl,fun b hb=>?_,I.bs,Nat.le_trans I.ok.bsz I.sz,fun b o e hb=>?_,fun b hb hb'=>?_,I.stack,I.Jp⟩,
  rfl,I.bare,Un.kept hk,⟨m,hn,fun i y v h1 h2 h3=>?_⟩,fun y c e=>?_,I.hok.fresh hC,fun y c e=>I.freeC y c (cl y c e),fun p hp=>absurd (show p∈([]:List (Addr × Obj)) from hp) (by simp),I.hok.kept hk,?_⟩
 ·have hy':(Ba X x z scope C s H fp).env.scope.names.lookup y=some .cell \/ (Ba X x z scope C s H fp).env.scope.names.lookup y=some .free:=hy
  rw [look y] at hy'
  cases e:scope.names.lookup y with
  | none=>rw [e] at hy'; rcases hy' with z | z <;> cases z
  | some k =>
   have hm:=PySem.mem_of_lookup e
   have hfree:k=.free:=by
    rw [e] at hy'
    cases k with
    | free=>rfl
    | cell=>exact absurd rfl (S.nocell _ hm)
    | _=>rcases hy' with z | z <;> simp at z
   subst hfree
   obtain ⟨c,hc⟩:=I.ok.has y (S.free _ hm rfl)
   exact Option.isSome_iff_exists.mp (Df X.env scope.names [] y hm (by rw [hc]; rfl))
 ·obtain ⟨f0,f1,f2,f3,f4,f5⟩:=hf b hb
  exact ⟨Nat.ne_of_lt (Nat.lt_of_lt_of_le (hlt b hb) hC),fun y c e=>f4 y c (cl y c e)⟩
 ·obtain ⟨f0,f1,f2,f3,f4,f5⟩:=hf b hb
  rcases f3 with z | z
  ·exact I.ok.noex b o e z
  ·exact absurd (Nat.lt_of_lt_of_le (Heap.lt_size e) (Nat.le_trans I.ok.bsz z)) (Nat.lt_irrefl _)
 ·obtain ⟨f0,f1,f2,f3,f4,f5⟩:=hf b hb
  rcases List.mem_cons.mp (I.Jz b hb') with e | e
  ·exact f1 e
  ·exact f2 e
 ·match i,h1,h2 with
  | 0,h1,h2 =>
   have h2':(some none:Option (Option V))=some (some v):=h2
   cases h2'
  | 1,h1,h2 =>
   have h2':(some none:Option (Option V))=some (some v):=h2
   cases h2'
  | i+2,h1,h2 =>
   have e0:X.N[i]? = some y:=h1
   have h2':σ[i]? = some (some v):=h2
   have hmem:y∈X.N:=List.mem_of_getElem? e0
   have h3':(Ba X x z scope C s H fp).env.scope.names.lookup y=some .local \/ (Ba X x z scope C s H fp).env.scope.names.lookup y=some .cell \/ (Ba X x z scope C s H fp).env.scope.names.lookup y=some .free:=h3
   rw [look y] at h3'
   cases e:scope.names.lookup y with
   | none=>rw [e] at h3'; rcases h3' with z | z | z <;> cases z
   | some k =>
    have hm:=PySem.mem_of_lookup e
    have hfree:k=.free:=by
     rw [e] at h3'
     cases k with
     | free=>rfl
     | cell=>exact absurd rfl (S.nocell _ hm)
     | «local»=>exact absurd e (S.only y hmem)
     | _=>rcases h3' with z | z | z <;> simp at z
    subst hfree
    have kd:=S.free _ hm rfl
    obtain ⟨m0,hn0,hl0⟩:=I.loc
    obtain ⟨u,r,l⟩:=hl0 i y v e0 h2' (by rcases kd with z | z; exact .inr (.inl z); exact .inr (.inr z))
    refine ⟨u,r,.inr ⟨?_,?_⟩⟩
    ·have hk':(Ba X x z scope C s H fp).env.scope.names.lookup y=some (if (NameKind.free == NameKind.free && X.env.scope.kind == .function && X.env.kindOf y == some .cell) then NameKind.cell else NameKind.free):=by
      rw [look y,e]; rfl
     by_cases c:(NameKind.free == NameKind.free && X.env.scope.kind == .function && X.env.kindOf y == some .cell)=true
     ·rw [if_pos c] at hk'; exact .inl hk'
     ·rw [if_neg c] at hk'; exact .inr hk'
    ·rcases l with ⟨lk,_⟩ | ⟨_,c,hc,hcell⟩
     ·exfalso
      rcases kd with z | z <;> (rw [show X.env.kindOf y=some NameKind.local from lk] at z; cases z)
     ·obtain ⟨c',hc'⟩:=Option.isSome_iff_exists.mp (Df X.env scope.names [] y hm (by rw [hc]; rfl))
      have:=cl y c' hc'
      rw [hc] at this
      cases this
      exact ⟨c,hc',cellK c _ hcell⟩
 ·obtain ⟨v,z⟩:=I.cell y c (cl y c e)
  exact ⟨v,cellK c v z⟩
 ·show (none::none::σ).length=(x::z::X.N).length
  simp [I.len]
end
noncomputable def IK (J:It) (σ:St) (H1:Hp) (Q:VK) (g:TG) (tt:TT) (te:TE):Prop:=∀ D,H1 D=none->∃ W:Nat->Nat->List V->Hp->Prop,(∃ m,W 0 m [] (upd H1 D (.lst [])))/\∀ i m ys H2,W i m ys H2 ->
 (J.stop i H2/\Q (.ref D) H2) \/ (J.go i H2/\∀ x H3,J.yld i H2 x H3->∀ v0 v1,g x (v0::v1::σ) H3 fun σ' H3'=>(∃ w0 w1,σ'=w0::w1::σ)/\tt σ' H3' fun b H4 =>
  if b=true then te σ' H4 fun y H5=>H5 D=some (.lst ys)/\ys.length<sizeLine/\∃ m',m'<m/\W (i+1) m' (ys++[y]) (upd H5 D (.lst (ys++[y])))
  else ∃ m',m'<m/\W (i+1) m' ys H4)
noncomputable def PX (wi:TI) (g:TG) (tt:TT) (te:TE):TE:=fun σ H Q=>wi σ H fun J H1=>IK J σ H1 Q g tt te
section
variable {X:Cx} {x z:Str} {scope:Scope}
theorem Kg {tg:Expr} {pos:Pos} {iter elt:Expr} {ifs:List Expr} {g:TG} {tt:TT} {te:TE} {pins:List (Addr × Obj)} {σ:St} {s2:Shared} {H2:Hp} {it:Addr} {fp:List Addr} {tn:Nat->Heap->Prop} {J:It} {E:Value->Shared->Prop}
  {RR:Value->Addr->Result->Shared->Prop} {Q:VK}
  (hc:X.calm=true) (S:Dg X x z scope) (hg:∀ C s₀ H₀ fp,PG (Ba X x z scope C s₀ H₀ fp) tg g) (ht:∀ C s₀ H₀ fp,K1 (Ba X x z scope C s₀ H₀ fp) ifs tt) (he:∀ C s₀ H₀ fp,PE (Ba X x z scope C s₀ H₀ fp) elt te)
  (I2:Inv X pins σ H2 s2) (T:Turn X.prog X.w X.K tg J fp it tn) (st2:tn 0 s2.heap) (f2:∀ b∈fp,Ep X pins H2 b) (q:IK J σ H2 Q g tt te)
  (hRR:∀ D C s' H' m,s'.heap.Ns C m->Ep X pins H' C->Inv X pins σ H' s'->Q (.ref D) H'->RR (.ref D) C (.ok .next) s') :
  wpAny (model X.prog X.w) X.A (newList []) (fun acc s₃=>wpAny (model X.prog X.w) X.A (newFunctionEnv scope X.env.globals (CQ X.env scope.names []) [] X.env.qual none .none (some X.env)) (fun cenv s₄ =>
   codeAny (model X.prog X.w) X.A (.compStart (.ListComp elt [⟨tg,iter,ifs,0⟩] scope pos) 0 (.ref it) acc { cenv with scope:=relabel scope X.env }) (RR acc cenv.locals) s₄) E s₃) E s2:=by
 refine wpAny_newObj_type (wpAny_newFunctionEnv S.nocell (by intro y hy; simp at hy) (fun h₁ hns₁ hsb₁=>?_) S.kind)
 have I3:=I2.Yi (its:=[]) (ys:=[]) (t':=s2.toks) .nil (Nat.zero_le _)
 have hD0:H2 s2.heap.objs.size=none:=I2.fresh
 obtain ⟨W,⟨m0,w0⟩,turn⟩:=q _ hD0
 generalize hs3:({ s2 with heap:=s2.heap.push { cls:=.type "list",data:=.seq ([]:List Value).toArray },toks:=s2.toks }:Shared)=s3 at I3
 have e3:s3.heap=s2.heap.push { cls:=.type "list",data:=.seq ([]:List Value).toArray }:=by rw [← hs3]
 have hlt:∀ b∈fp,b<s2.heap.objs.size:=fun b hb=>let ⟨_,e,_⟩:=T.obj _ _ st2 b hb; Heap.lt_size e
 have hlt3:∀ b∈fp,b<s3.heap.objs.size:=fun b hb=>by rw [e3,Heap.size_push]; exact Nat.lt_succ_of_lt (hlt b hb)
 have f3:∀ b∈fp,Ep X pins (upd H2 s2.heap.objs.size (.lst [])) b:=fun b hb=>⟨by rw [Av (Nat.ne_of_lt (hlt b hb))]; exact (f2 b hb).1,(f2 b hb).2⟩
 have hk1:∀ b o,s3.heap.get? b=some o->h₁.get? b=some o:=fun b o e=>by
  have hne:b ≠ s3.heap.objs.size:=Nat.ne_of_lt (Heap.lt_size e)
  rw [e3] at e hne
  exact hsb₁.extBut b o hne (Heap.get?_push_of_some _ e)
 have hC:s3.heap.objs.size=(s2.heap.push { cls:=.type "list",data:=.seq ([]:List Value).toArray }).objs.size:=by rw [e3]
 have hns:h₁.Ns s3.heap.objs.size (fun x=>([]:List (Str × Value)).reverse.lookup x):=by rw [hC]; exact hns₁
 have st3:tn 0 h₁:=T.keep _ _ _ st2 fun b hb o e=>hk1 b o (by rw [e3]; exact Heap.get?_push_of_some _ e)
 have start:∀ tk,Inv (Ba X x z scope s3.heap.objs.size s3 (upd H2 s2.heap.objs.size (.lst [])) fp) [] (none::none::σ) (upd H2 s2.heap.objs.size (.lst [])) { s3 with heap:=h₁,toks:=tk }:=fun tk =>
  K5 I3 S f3 hlt3 (Nat.le_refl _) hns hk1
 have loop:∀ tk,codeAny (model X.prog X.w) X.A (.compLoop (.ListComp elt [⟨tg,iter,ifs,0⟩] scope pos) 0 (.ref it) (.ref s2.heap.objs.size) (compEnvC scope (CQ X.env scope.names []) s3.heap.objs.size X.env))
   (RR (.ref s2.heap.objs.size) s3.heap.objs.size) { s3 with heap:=h₁,toks:=tk }:=by
  intro tk
  refine SQ (fun n s'=>∃ i ys v0 v1 H',Inv (Ba X x z scope s3.heap.objs.size s3 (upd H2 s2.heap.objs.size (.lst [])) fp) [] (v0::v1::σ) H' s'/\tn i s'.heap/\(∀ b∈fp,H' b=none)/\W i n ys H') rfl ?_ m0
   ⟨0,[],none,none,_,start tk,st3,fun b hb=>(f3 b hb).1,w0⟩
  rintro n s4 ⟨i,ys,v0,v1,H4,I4,st4,fr4,w4⟩
  have stat:∀ {H':Hp},(∀ b∈fp,H' b=none)->∀ b∈fp,Ep (Ba X x z scope s3.heap.objs.size s3 (upd H2 s2.heap.objs.size (.lst [])) fp) [] H' b:=fun hn b hb=>by
   refine ⟨hn b hb,(I4.ok.exf b hb).1,I4.ok.exfs b hb,.inl hb,(I4.ok.exf b hb).2,fun p hp=>absurd (show p∈([]:List (Addr × Obj)) from hp) (by simp)⟩
  rcases turn i n ys H4 w4 with ⟨stop,qn⟩ | ⟨go,step⟩
  ·refine Bo (T.done (Ba X x z scope s3.heap.objs.size s3 (upd H2 s2.heap.objs.size (.lst [])) fp) rfl rfl rfl hc i [] s4 (v0::v1::σ) H4 _ I4 (stat fr4) st4 stop) fun r s5 ⟨hr,I5⟩=>?_
   subst hr
   obtain ⟨m,hn,_⟩:=I5.loc
   refine hRR _ _ s5 H4 m hn (I3.Jx (Nat.le_refl _) I5.free) (I3.call' (s':=s5) (ch:=fp) I5.os I5.base I5.hok I5.bare (fun b hb=>?_)) qn
   obtain ⟨_,g1,_,g3,g4,g5⟩:=f3 b hb
   exact ⟨g3,g1,g4,g5⟩
  ·refine Bo (T.item (Ba X x z scope s3.heap.objs.size s3 (upd H2 s2.heap.objs.size (.lst [])) fp) rfl rfl rfl hc i [] s4 (v0::v1::σ) H4 _ I4 (stat fr4) st4 go) fun r s5 ⟨u,hr,h5⟩=>?_
   subst hr
   refine Bo h5 fun _ s6 h6=>?_
   obtain ⟨xv,H6,I6,r6,y6,st6,fr6⟩:=h6
   have I6':=I6.pinned (stat fr6) (T.obj _ _ st6)
   have again:∀ {s7:Shared} {H7:Hp} {ys':List V} {w0 w1:Option V},Inv (Ba X x z scope s3.heap.objs.size s3 (upd H2 s2.heap.objs.size (.lst [])) fp) ([]++Hl fp s6.heap) (w0::w1::σ) H7 s7->(∃ m',m'<n/\W (i+1) m' ys' H7) ->
     ∃ m,m<n/\∃ i ys v0 v1 H',Inv (Ba X x z scope s3.heap.objs.size s3 (upd H2 s2.heap.objs.size (.lst [])) fp) [] (v0::v1::σ) H' s7/\tn i s7.heap/\(∀ b∈fp,H' b=none)/\W i m ys H':=fun {s7 H7 ys' w0 w1} I7 hw=>by
    obtain ⟨m',hm,w7⟩:=hw
    refine ⟨m',hm,i+1,ys',w0,w1,H7,I7.Fl,T.keep _ _ _ st6 fun b hb o e=>(I7.pin (b,o) (List.mem_append_right _ (List.mem_append_right _ (Di hb e)))).1,fun b hb=>?_,w7⟩
    obtain ⟨o,e,d⟩:=T.obj _ _ st6 b hb
    exact (I7.pin (b,o) (List.mem_append_right _ (List.mem_append_right _ (Di hb e)))).2.1
   refine MK (hg _ _ _ _ _ s6 (v0::v1::σ) H6 xv u _ I6' r6 (step xv H6 y6 v0 v1)) fun _ s7 ⟨σ7,H7,I7,⟨w0,w1,e7⟩,q7⟩=>?_
   subst e7
   refine MK (ht _ _ _ _ _ s7 (w0::w1::σ) H7 _ I7 q7) fun b s8 hq0=>?_
   obtain ⟨H8,I8,q8⟩:=hq0
   cases b with
   | false =>
    rw [if_neg Bool.false_ne_true] at q8 ⊢
    exact again I8 q8
   | true =>
    rw [if_pos rfl] at q8 ⊢
    refine MK (he _ _ _ _ _ s8 (w0::w1::σ) H8 _ I8 q8) fun y s9 hq0=>?_
    obtain ⟨yv,H9,I9,r9,hD9,hz9,q9⟩:=hq0
    refine MK (Bp (X:=Ba X x z scope s3.heap.objs.size s3 (upd H2 s2.heap.objs.size (.lst [])) fp) _ s9 (w0::w1::σ) H9 (.ref s2.heap.objs.size) [yv] (.ref s2.heap.objs.size) [y] (fun _ H'=>H'=upd H9 s2.heap.objs.size (.lst (ys++[yv]))) I9 rfl (.cons r9 .nil)
     ⟨_,ys,yv,rfl,rfl,hD9,hz9,rfl⟩) fun _ s10 ⟨_,H10,I10,_,e10⟩=>?_
    subst e10
    exact again I10 q9
 have key:=fun tk=>codeAny_compStart_list (R:=RR (.ref s2.heap.objs.size) s3.heap.objs.size) (loop tk) (T.self X.A 0 { s3 with heap:=h₁,toks:=tk } (fun it' s'=>codeAny (model X.prog X.w) X.A (.compLoop (.ListComp elt [⟨tg,iter,ifs,0⟩] scope pos) 0 it' (.ref s2.heap.objs.size) (compEnvC scope (CQ X.env scope.names []) s3.heap.objs.size X.env)) (RR (.ref s2.heap.objs.size) s3.heap.objs.size) s') _ st3 (loop tk))
 subst hs3
 exact key _
theorem Py {tg:Expr} {pos:Pos} {iter elt:Expr} {ifs:List Expr} {wi:TI} {g:TG} {tt:TT} {te:TE} (hc:X.calm=true) (S:Dg X x z scope) (hi:PI X tg iter wi) (hg:∀ C s₀ H₀ fp,PG (Ba X x z scope C s₀ H₀ fp) tg g)
  (ht:∀ C s₀ H₀ fp,K1 (Ba X x z scope C s₀ H₀ fp) ifs tt) (he:∀ C s₀ H₀ fp,PE (Ba X x z scope C s₀ H₀ fp) elt te) (hs:∀ x,foldedSetIterable iter X.env x=pure x:=by intro _; rfl) :
  PE X (.ListComp elt [⟨tg,iter,ifs,0⟩] scope pos) (PX wi g tt te):=by
 intro pins s σ H Q I h
 rw [eval_ListComp]
 refine wpAny_comprehension_free (use:=none) (cl:=CQ X.env scope.names []) rfl hs (Gv fun y hy hk=>I.ok.has y.1 (S.free y hy hk)) S.kind S.names (Bo (hi pins s σ H _ I h) fun v s1 h1=>Bo h1 fun itv s2 h2=>?_)
 obtain ⟨it,fp,tn,J,H2,e,I2,T,st2,f2,q⟩:=h2
 subst e
 refine Kg (RR:=fun acc C=>compPost (model X.prog X.w) X.A X.xe none (EP X pins σ Q) acc C) (Q:=Q) hc S hg ht he I2 T st2 f2 q ?_
 intro D C s' H' m hn hf hI hq
 exact ⟨m,hn,fun h' sb=>⟨.ref D,H',hI.sameBut hf sb,rfl,hq⟩⟩
end
end L2
namespace L2
open PySem PySem.Spec PySem.Calls PyProof.Rows
theorem Al.tup {K:PySem.W.Frag} {H H':Hp} {a:Addr} {xs:List V} (e:Al H H') (h:Gy K H a xs):Gy K H' a xs:=by
 rcases h with (h | ⟨o,h⟩) | h
 ·exact .inl (.inl (e _ _ h))
 ·exact .inl (.inr ⟨o,e _ _ h⟩)
 ·exact .inr h
noncomputable def TupAt (H:Hp) (zs:List V) (y:V):Prop:=∃ T,y=.ref T/\H T=some (.tup zs)
theorem TupAt.mono {H H':Hp} {zs:List V} {y:V} (s:Al H H') (h:TupAt H zs y):TupAt H' zs y:=let ⟨T,e,q⟩:=h; ⟨T,e,s _ _ q⟩
theorem TupAt.upd {H:Hp} {zs ys ws:List V} {y:V} {D:Addr} (h:TupAt H zs y) (hD:H D=some (.lst ys)):TupAt (upd H D (.lst ws)) zs y:=by
 obtain ⟨T,e,q⟩:=h
 refine ⟨T,e,?_⟩
 rw [Av fun z=>by rw [z,hD] at q; cases q]
 exact q
theorem DG {α:Type} {H:Hp} {f:α->List V} {l:List α} {vs ys ws:List V} {D:Addr} (h:Paired (fun a y=>TupAt H (f a) y) l vs) (hD:H D=some (.lst ys)):Paired (fun a y=>TupAt (upd H D (.lst ws)) (f a) y) l vs:=Paired.Hv h fun _ _ q=>q.upd hD
theorem Ai {α:Type} {H H':Hp} {f:α->List V} {l:List α} {vs:List V} (s:Al H H') (h:Paired (fun a y=>TupAt H (f a) y) l vs):Paired (fun a y=>TupAt H' (f a) y) l vs:=Paired.Hv h fun _ _ q=>q.mono s
noncomputable def Ky (x z:Str) (scope osc:Scope) (N:List Str):Bool :=
 (scope.kind == .function) && scope.names.all (fun y=>y.2 != .cell && (y.2 != .local || scope.names.lookup y.1 == some .local) && (y.2 != .free || osc.names.lookup y.1 == some .cell || osc.names.lookup y.1 == some .free)) && (scope.names.lookup x == some .local) && (scope.names.lookup z == some .local) &&
 decide ((x::z::N).Nodup) && N.all (fun y=>scope.names.lookup y != some .local)
theorem JK {X:Cx} {x z:Str} {scope osc:Scope} {N:List Str} (hsc:X.env.scope=osc) (hN:X.N=N) (h:Ky x z scope osc N=true):Dg X x z scope:=by
 unfold Ky at h
 simp only [Bool.and_eq_true] at h
 obtain ⟨⟨⟨⟨⟨h1,h2⟩,h3⟩,h3'⟩,h4⟩,h5⟩:=h
 rw [List.all_eq_true] at h2 h5
 have kind:∀ y,X.env.kindOf y=osc.names.lookup y:=fun y=>by show X.env.scope.names.lookup y=_; rw [hsc]
 refine ⟨by simpa using h1,fun y hy=>?_,fun y hy hk=>?_,by simpa using h3,by simpa using h3',fun y hy hk=>?_,by rw [hN]; exact of_decide_eq_true h4,fun y hy=>?_⟩
 ·have:=h2 y hy
  simp only [Bool.and_eq_true,bne_iff_ne] at this
  exact this.1.1
 ·have:=h2 y hy
  simp only [Bool.and_eq_true] at this
  simpa [hk] using this.1.2
 ·have:=h2 y hy
  simp only [Bool.and_eq_true] at this
  rw [kind]
  simpa [hk] using this.2
 ·have:=h5 y (by rw [← hN]; exact hy)
  simpa using this
section
variable {X:Cx} {x z:Str} {scope:Scope}
theorem Rz {px pz pos:Pos} {k:Nat} {C:Addr} {s₀:Shared} {H₀:Hp} {fp:List Addr} (hc:X.calm=true) (S:Dg X x z scope) :
  PG (Ba X x z scope C s₀ H₀ fp) (.Tuple [.Name x px,.Name z pz] k pos) (Qa X.K 2 (HD (Ce 0) (HD (Ce 1) Q6))):=by
 have l1:(Ba X x z scope C s₀ H₀ fp).env.scope.names.lookup x=some .local:=lookup_relabel_local S.loc
 have l2:(Ba X x z scope C s₀ H₀ fp).env.scope.names.lookup z=some .local:=lookup_relabel_local S.loz
 exact Ew (X:=Ba X x z scope C s₀ H₀ fp) (n:=2) hc (Bh (BX (X:=Ba X x z scope C s₀ H₀ fp) (i:=0) S.nd rfl (.inl l1) (.inr l1)) (Bh (BX (X:=Ba X x z scope C s₀ H₀ fp) (i:=1) S.nd rfl (.inl l2) (.inr l2)) Ds))
theorem Mj {px pz tpos:Pos} {k:Nat} {pos:Pos} {iter elt:Expr} {ifs:List Expr} {wi:TI} {tt:TT} {te:TE} (hc:X.calm=true) (S:Dg X x z scope) (hi:PI X (.Tuple [.Name x px,.Name z pz] k tpos) iter wi)
  (ht:∀ C s₀ H₀ fp,K1 (Ba X x z scope C s₀ H₀ fp) ifs tt) (he:∀ C s₀ H₀ fp,PE (Ba X x z scope C s₀ H₀ fp) elt te) (hs:∀ x,foldedSetIterable iter X.env x=pure x:=by intro _; rfl) :
  PE X (.ListComp elt [⟨.Tuple [.Name x px,.Name z pz] k tpos,iter,ifs,0⟩] scope pos) (PX wi (Qa X.K 2 (HD (Ce 0) (HD (Ce 1) Q6))) tt te) :=
 Py hc S hi (fun _ _ _ _=>Rz hc S) ht he hs
end
section
variable {σ:St} {H1:Hp} {Q:VK} {tt:TT} {te:TE}
theorem Bv {K:PySem.W.Frag} {a:Addr} {xs:List V} (p:V->Bool) (f:V->V) (hl:Ci K H1 a xs) (hz:xs.length<sizeLine)
  (ht:∀ x∈xs,∀ H,Al H1 H->∀ R:Bool->Hp->Prop,(∀ H',Al H H'->R (p x) H')->tt (some x::σ) H R)
  (he:∀ x∈xs,p x=true->∀ H,Al H1 H->∀ R:VK,(∀ H',Al H H'->R (f x) H')->te (some x::σ) H R)
  (hq:∀ D H,H1 D=none->Al H1 H->H D=some (.lst ((xs.filter p).map f))->Q (.ref D) H):Fe (U3 K a) σ H1 Q tt te :=
 G3 p f hz (fun i H x hs hx=>⟨xs,x,hs.seq hl,hx⟩) (fun i H y H' hs _ hy=>⟨hy.1,hy.2 xs (hs.seq hl)⟩) (fun H hs=>⟨xs,hs.seq hl,Nat.le_refl _⟩) ht he hq
theorem Jj {J:It} {xs:List V} (p:V->Bool) (f:V->List V) (hz:xs.length<sizeLine)
  (hgo:∀ i H x,Al H1 H->xs[i]? = some x->J.go i H) (hy:∀ i H y H',Al H1 H->i<xs.length->J.yld i H y H'->H'=H/\xs[i]? = some y) (hstop:∀ H,Al H1 H->J.stop xs.length H)
  (ht:∀ x∈xs,∀ H,Al H1 H->∀ R:Bool->Hp->Prop,(∀ H',Al H H'->R (p x) H')->tt (some x::σ) H R)
  (he:∀ x∈xs,p x=true->∀ H,Al H1 H->∀ R:VK,(∀ y H',Al H H'->TupAt H' (f x) y->R y H')->te (some x::σ) H R)
  (hq:∀ D H ys,H1 D=none->Al H1 H->H D=some (.lst ys)->Paired (fun x y=>TupAt H (f x) y) (xs.filter p) ys->Q (.ref D) H):Fe J σ H1 Q tt te:=by
 intro D hD
 have s0:Al H1 (upd H1 D (.lst [])):=fun b o e=>by rw [Av (Ao e hD)]; exact e
 refine ⟨fun i m ys H=>m=xs.length - i/\i<=xs.length/\H D=some (.lst ys)/\Paired (fun x y=>TupAt H (f x) y) ((xs.take i).filter p) ys/\Al H1 H,⟨xs.length,by simp,Nat.zero_le _,Ah,by simpa using Paired.nil,s0⟩,?_⟩
 rintro i m ys H ⟨rfl,hi,hd,hp,hs⟩
 by_cases hlt:i<xs.length
 ·obtain ⟨x,hx⟩:∃ x,xs[i]? = some x:=⟨xs[i],by simp [hlt]⟩
  refine .inr ⟨hgo i H x hs hx,fun y H3 hyl=>?_⟩
  obtain ⟨rfl,hy'⟩:=hy i H y H3 hs hlt hyl
  rw [hx] at hy'
  cases hy'
  have hm:x∈xs:=List.mem_of_getElem? hx
  have hlen:ys.length<sizeLine:=by
   rw [← hp.length]
   refine Nat.lt_of_le_of_lt (List.length_filter_le _ _) (Nat.lt_of_le_of_lt ?_ hz)
   rw [List.length_take]; omega
  refine ht x hm _ hs _ fun H4 s4=>?_
  by_cases hpx:p x=true
  ·rw [if_pos hpx]
   refine he x hm hpx H4 (hs.trans s4) _ fun y H5 s5 hφ=>?_
   refine ⟨s5 _ _ (s4 _ _ hd),hlen,xs.length - (i+1),by omega,rfl,hlt,Ah,?_,fun b o e=>?_⟩
   ·rw [take_succ_filter p xs i x hx,if_pos hpx]
    exact (DG (Ai (s4.trans s5) hp) (s5 _ _ (s4 _ _ hd))).snoc (hφ.upd (s5 _ _ (s4 _ _ hd)))
   ·rw [Av (Ao e hD)]; exact s5 _ _ (s4 _ _ (hs _ _ e))
  ·rw [if_neg hpx]
   refine ⟨xs.length - (i+1),by omega,rfl,hlt,s4 _ _ hd,?_,hs.trans s4⟩
   rw [take_succ_filter p xs i x hx,if_neg hpx,List.append_nil]
   exact Ai s4 hp
 ·have e:i=xs.length:=by omega
  subst e
  rw [List.take_length] at hp
  exact .inl ⟨hstop H hs,hq D H ys hD hs hd hp⟩
theorem Ip {K:PySem.W.Frag} {a:Addr} {xs:List V} (p:V->Bool) (f:V->List V) (hl:Ci K H1 a xs) (hz:xs.length<sizeLine)
  (ht:∀ x∈xs,∀ H,Al H1 H->∀ R:Bool->Hp->Prop,(∀ H',Al H H'->R (p x) H')->tt (some x::σ) H R)
  (he:∀ x∈xs,p x=true->∀ H,Al H1 H->∀ R:VK,(∀ y H',Al H H'->TupAt H' (f x) y->R y H')->te (some x::σ) H R)
  (hq:∀ D H ys,H1 D=none->Al H1 H->H D=some (.lst ys)->Paired (fun x y=>TupAt H (f x) y) (xs.filter p) ys->Q (.ref D) H):Fe (U3 K a) σ H1 Q tt te :=
 Jj p f hz (fun i H x hs hx=>⟨xs,x,hs.seq hl,hx⟩) (fun i H y H' hs _ hy=>⟨hy.1,hy.2 xs (hs.seq hl)⟩) (fun H hs=>⟨xs,hs.seq hl,Nat.le_refl _⟩) ht he hq
theorem J_ {α β:Type} {F:α->β->Prop} (g:Nat->α):∀ {n:Nat} {l:List α} {ys:List β},Paired F l ys->l=(List.range n).map g->Paired (fun i y=>F (g i) y) (List.range n) ys:=by
 intro n
 have key:∀ (js:List Nat) (ys:List β),Paired F (js.map g) ys->Paired (fun i y=>F (g i) y) js ys:=by
  intro js
  induction js with
  | nil=>intro ys h; cases h; exact .nil
  | cons j js ih =>
   intro ys h
   cases h with
   | cons a b=>exact .cons a (ih _ b)
 intro l ys h e
 subst e
 exact key _ _ h
theorem N8 {n:Nat} (f:Nat->List V) (hz:n<sizeLine)
  (he:∀ i:Nat,i<n->∀ H,Al H1 H->∀ R:VK,(∀ y H',Al H H'->TupAt H' (f i) y->R y H')->te (some (.int (i:Int))::σ) H R)
  (hq:∀ D H ys,H1 D=none->Al H1 H->H D=some (.lst ys)->Paired (fun i y=>TupAt H (f i) y) (List.range n) ys->Q (.ref D) H):Fe (Tq 0 n) σ H1 Q S8 te:=by
 let g:V->Nat:=fun v=>match v with | .int i=>i.toNat | _=>0
 have hxs:∀ i:Nat,i<n->((List.range n).map fun (i:Nat)=>V.int (i:Int))[i]? = some (.int i):=fun i hi=>by simp [hi]
 refine Jj (xs:=(List.range n).map fun (i:Nat)=>V.int (i:Int)) (fun _=>true) (fun v=>f (g v)) (by simpa using hz) (fun i H x _ hx=>?_) (fun i H y H' _ hi hy=>?_) (fun H _=>?_) (fun x hx H hs R k=>k H (Al.refl H)) (fun x hx _ H hs R k=>?_) (fun D H ys h1 h2 h3 h4=>?_)
 ·have:i<((List.range n).map fun (i:Nat)=>V.int (i:Int)).length:=(List.getElem?_eq_some_iff.mp hx).1
  show i<n
  simpa using this
 ·obtain ⟨e1,e2⟩:=hy
  have hi':i<n:=by simpa using hi
  refine ⟨e1,?_⟩
  rw [hxs i hi',e2,Int.zero_add]
 ·show n<=_
  simp
 ·obtain ⟨i,hi,rfl⟩:=List.mem_map.mp hx
  exact he i (List.mem_range.mp hi) H hs R k
 ·rw [List.filter_eq_self.mpr (fun _ _=>rfl)] at h4
  exact hq D H ys h1 h2 h3 (J_ (F:=fun x y=>TupAt H (f (g x)) y) (fun i=>V.int (i:Int)) h4 rfl)
theorem RK {K:PySem.W.Frag} {a b:Addr} {xs ys:List V} (f:V->V->V) (hx:Gy K H1 a xs) (hy:Gy K H1 b ys) (hl:xs.length=ys.length) (hz:xs.length<sizeLine)
  (he:∀ (i:Nat) x y,xs[i]? = some x->ys[i]? = some y->∀ H,Al H1 H->∀ R:VK,(∀ H',Al H H'->R (f x y) H')->te (some x::some y::σ) H R)
  (hq:∀ D H,H1 D=none->Al H1 H->H D=some (.lst (List.zipWith f xs ys))->Q (.ref D) H):IK (dW K a b) σ H1 Q (Qa K 2 (HD (Ce 0) (HD (Ce 1) Q6))) S8 te:=by
 intro D hD
 have s0:Al H1 (upd H1 D (.lst [])):=fun b o e=>by rw [Av (Ao e hD)]; exact e
 refine ⟨fun i m zs H=>m=xs.length - i/\i<=xs.length/\zs=(List.zipWith f xs ys).take i/\H D=some (.lst zs)/\Al H1 H,⟨xs.length,by simp,Nat.zero_le _,by simp,Ah,s0⟩,?_⟩
 rintro i m zs H ⟨rfl,hi,rfl,hd,hs⟩
 have hzl:(List.zipWith f xs ys).length=xs.length:=by rw [List.length_zipWith]; omega
 by_cases hlt:i<xs.length
 ·have ex:xs[i]? = some xs[i]:=List.getElem?_eq_getElem hlt
  have ey:ys[i]? = some ys[i]:=List.getElem?_eq_getElem (hl ▸ hlt)
  refine .inr ⟨⟨xs,ys,_,_,hs.tup hx,hs.tup hy,ex,ey⟩,fun v H3 hv v0 v1=>?_⟩
  obtain ⟨T,hT,rfl,hv⟩:=hv
  obtain ⟨x,y,qx,qy,rfl⟩:=hv xs ys (hs.tup hx) (hs.tup hy)
  have s3:Al H (upd H T (.tup [x,y])):=fun b o e=>by rw [Av (Ao e hT)]; exact e
  refine ⟨T,[x,y],rfl,.inl (.inl Ah),rfl,x,[y],rfl,y,[],rfl,rfl,⟨_,_,rfl⟩,?_⟩
  unfold S8
  dsimp only
  rw [if_pos rfl]
  refine he i x y qx qy _ (hs.trans s3) _ fun H5 s5=>?_
  refine ⟨s5 _ _ (s3 _ _ hd),?_,xs.length - (i+1),by omega,rfl,hlt,?_,Ah,fun b o e=>?_⟩
  ·rw [List.length_take,hzl]
   omega
  ·rw [List.take_add_one,List.getElem?_zipWith,qx,qy]
   rfl
  ·rw [Av (Ao e hD)]
   exact s5 _ _ (s3 _ _ (hs _ _ e))
 ·have e:i=xs.length:=by omega
  subst e
  rw [← hzl,List.take_length] at hd
  exact .inl ⟨⟨xs,hs.tup hx,Nat.le_refl _⟩,hq D H hD hs hd⟩
theorem O6 {K:PySem.W.Frag} {a:Addr} {xs:List V} (p:Nat->V->Bool) (f:Nat->V->V) (hx:Ci K H1 a xs) (hz:xs.length<sizeLine)
  (ht:∀ (i:Nat) x,xs[i]? = some x->∀ H,Al H1 H->∀ R:Bool->Hp->Prop,(∀ H',Al H H'->R (p i x) H')->tt (some (.int (i:Int))::some x::σ) H R)
  (he:∀ (i:Nat) x,xs[i]? = some x->p i x=true->∀ H,Al H1 H->∀ R:VK,(∀ H',Al H H'->R (f i x) H')->te (some (.int (i:Int))::some x::σ) H R)
  (hq:∀ D H,H1 D=none->Al H1 H->H D=some (.lst ((xs.zipIdx.filter fun q=>p q.2 q.1).map fun q=>f q.2 q.1))->Q (.ref D) H):IK (V7 K a) σ H1 Q (Qa K 2 (HD (Ce 0) (HD (Ce 1) Q6))) tt te:=by
 intro D hD
 have s0:Al H1 (upd H1 D (.lst [])):=fun b o e=>by rw [Av (Ao e hD)]; exact e
 refine ⟨fun i m zs H=>m=xs.length - i/\i<=xs.length/\zs=(((xs.zipIdx.take i).filter fun q=>p q.2 q.1).map fun q=>f q.2 q.1)/\H D=some (.lst zs)/\Al H1 H,⟨xs.length,by simp,Nat.zero_le _,by simp,Ah,s0⟩,?_⟩
 rintro i m zs H ⟨rfl,hi,rfl,hd,hs⟩
 by_cases hlt:i<xs.length
 ·have ex:xs[i]? = some xs[i]:=List.getElem?_eq_getElem hlt
  refine .inr ⟨⟨xs,_,hs.seq hx,ex⟩,fun v H3 hv v0 v1=>?_⟩
  obtain ⟨T,hT,rfl,hv⟩:=hv
  obtain ⟨x,qx,rfl⟩:=hv xs (hs.seq hx)
  have s3:Al H (upd H T (.tup [.int (i:Int),x])):=fun b o e=>by rw [Av (Ao e hT)]; exact e
  have ez:xs.zipIdx[i]? = some (x,i):=by rw [List.getElem?_zipIdx,qx]; simp
  have hlen:(((xs.zipIdx.take i).filter fun q=>p q.2 q.1).map fun q=>f q.2 q.1).length<sizeLine:=by
   rw [List.length_map]
   refine Nat.lt_of_le_of_lt (List.length_filter_le _ _) (Nat.lt_of_le_of_lt ?_ hz)
   rw [List.length_take,List.length_zipIdx]; omega
  refine ⟨T,[.int (i:Int),x],rfl,.inl (.inl Ah),rfl,_,[x],rfl,x,[],rfl,rfl,⟨_,_,rfl⟩,?_⟩
  refine ht i x qx _ (hs.trans s3) _ fun H4 s4=>?_
  by_cases hp:p i x=true
  ·rw [if_pos hp]
   refine he i x qx hp _ (hs.trans (s3.trans s4)) _ fun H5 s5=>?_
   refine ⟨s5 _ _ (s4 _ _ (s3 _ _ hd)),hlen,xs.length - (i+1),by omega,rfl,hlt,?_,Ah,fun b o e=>?_⟩
   ·rw [take_succ_filter (fun q:V × Nat=>p q.2 q.1) xs.zipIdx i (x,i) ez,if_pos hp,List.map_append]
    rfl
   ·rw [Av (Ao e hD)]
    exact s5 _ _ (s4 _ _ (s3 _ _ (hs _ _ e)))
  ·rw [if_neg hp]
   refine ⟨xs.length - (i+1),by omega,rfl,hlt,?_,s4 _ _ (s3 _ _ hd),hs.trans (s3.trans s4)⟩
   rw [take_succ_filter (fun q:V × Nat=>p q.2 q.1) xs.zipIdx i (x,i) ez,if_neg hp,List.append_nil]
 ·have e:i=xs.length:=by omega
  subst e
  rw [List.take_of_length_le (by simp)] at hd
  exact .inl ⟨⟨xs,hs.seq hx,Nat.le_refl _⟩,hq D H hD hs hd⟩
end
theorem Fx {K:PySem.W.Frag} {a:Addr} {xs:List V} {g:TG} {tb:TS} {D:Ends} {σ:St} {H:Hp} (Pv:Nat->St->Hp->Prop) (h0:Pv 0 σ H) (hl:∀ i σ H,i<=xs.length->Pv i σ H->Ci K H a xs)
  (hb:∀ (i:Nat) x σ H T,xs[i]? = some x->Pv i σ H->H T=none->g (.ref T) σ (upd H T (.tup [.int (i:Int),x])) fun σ' H'=>tb { D with nx:=Pv (i+1),ct:=Pv (i+1),bk:=D.nx } σ' H')
  (hn:∀ σ H,Pv xs.length σ H->D.nx σ H):∃ W:Nat->Nat->St->Hp->Prop,(∃ m,W 0 m σ H)/\∀ i m σ H,W i m σ H ->
   ((V7 K a).stop i H/\D.nx σ H) \/ ((V7 K a).go i H/\∃ N:St->Hp->Prop,(∀ σ H,N σ H->∃ m',m'<m/\W (i+1) m' σ H)/\∀ x H',(V7 K a).yld i H x H'->g x σ H' fun σ' H''=>tb { D with nx:=N,ct:=N,bk:=D.nx } σ' H''):=by
 refine ⟨fun i m σ H=>m=xs.length - i/\i<=xs.length/\Pv i σ H,⟨_,rfl,Nat.zero_le _,h0⟩,?_⟩
 rintro i m σ H ⟨rfl,hi,hp⟩
 by_cases hlt:i<xs.length
 ·refine .inr ⟨⟨xs,_,hl i σ H hi hp,List.getElem?_eq_getElem hlt⟩,Pv (i+1),fun σ' H' h=>⟨xs.length - (i+1),by omega,rfl,hlt,h⟩,fun v H' hv=>?_⟩
  obtain ⟨T,hT,rfl,hv⟩:=hv
  obtain ⟨x,qx,rfl⟩:=hv xs (hl i σ H hi hp)
  exact hb i x σ H T qx hp hT
 ·have e:i=xs.length:=by omega
  subst e
  exact .inl ⟨⟨xs,hl _ σ H hi hp,Nat.le_refl _⟩,hn σ H hp⟩
end L2
namespace L2
open PySem PySem.Spec PySem.Calls PyProof.Rows
section
variable {prog:Program} {w:World} {A:Around} {E:Value->Shared->Prop} {s:Shared} {K:PySem.W.Frag} {x C:Addr} {ox:Obj} {od:Option Obj} {name:Str} {tk:Tok} {R:Result->Shared->Prop}
end
end L2
namespace L2
open PySem PySem.Spec PySem.Calls PyProof.Rows
section
variable {prog:Program} {w:World} {A:Around} {E:Value->Shared->Prop} {K:PySem.W.Frag} {C:Addr} {h:Heap} {g:Array GenState} {d:Drawn} {t:Nat} {os:OsState}
end
end L2
namespace L2
open PySem PySem.Spec PySem.Calls PyProof.Rows
noncomputable def YC (x C:Addr) (od:Option Addr):HO:=.ext fun h=>∃ (d:Data) (sl:Array (Option Value)),h.get? x=some ⟨.ref C,od,d,sl⟩/\PySem.W.notCls ⟨.ref C,od,d,sl⟩=true
noncomputable def fV (dx:Addr) (fs:List (Str × V)):HO:=.ext fun h=>∃ mA,h.Ns1 dx mA/\∀ f,Es (fs.lookup f) (mA f)
section
variable {P:Program} {w:World} {H H':Hp} {h:Heap} {x C dx:Addr} {od:Option Addr} {fs:List (Str × V)}
inductive T8 (H:Hp) (x C:Addr):List (Str × V)->Prop where
 | bare (e:H x=some (YC x C none)):T8 H x C []
 | full {dx:Addr} {fs:List (Str × V)} (e:H x=some (YC x C (some dx))) (d:H dx=some (fV dx fs)):T8 H x C fs
end
section
variable {P:Program} {w:World} {X:Cx} {pins:List (Addr × Obj)} {σ:St} {H:Hp} {s:Shared} {h':Heap} {a:Addr} {o:HO}
end
section
variable {X:Cx} {C:Addr} {x:Str} {e:Expr} {es:List Expr} {t:TA} {p pos:Pos}
end
section
variable {X:Cx} {e:Expr} {f:Str} {pos:Pos} {ta:TE}
end
section
variable {prog:Program} {w:World} {A:Around} {E:Value->Shared->Prop} {s:Shared} {K:PySem.W.Frag} {x C:Addr} {name:Str} {v:Value} {R:Result->Shared->Prop} {d:Data} {sl:Array (Option Value)}
end
section
variable {X:Cx} {pins:List (Addr × Obj)} {σ:St} {H:Hp} {s:Shared} {h':Heap} {x C dx:Addr} {f:Str} {y:V} {u:Value}
end
section
variable {X:Cx} {o value:Expr} {f:Str} {pos pos':Pos} {ta tv:TE}
end
section
variable {X:Cx} {C f:Addr} {fd:FuncData} {ps:List Str} {sp:Sp} {k:Nat} {x:Str} {e:Expr} {es:List Expr} {t:TA} {p pos:Pos}
end
section
variable {X:Cx}
end
end L2
namespace Wd
noncomputable def mk (l:List Nat):Nat:=l.foldl (fun s n=>s ||| 2 ^ n) 0
theorem Ot (l:List Nat):∀ (s i:Nat),(l.foldl (fun s n=>s ||| 2 ^ n) s).testBit i=(s.testBit i || decide (i∈l)):=by
 induction l with
 | nil=>intro s i; simp
 | cons n l ih =>
  intro s i
  rw [List.foldl_cons,ih,Nat.testBit_or,Nat.testBit_two_pow]
  by_cases h:n=i
  ·subst h; simp
  ·have h':¬ i=n:=fun e=>h e.symm
   simp [h,h']
theorem Kc (l:List Nat) (i:Nat):(mk l).testBit i=decide (i∈l):=by
 unfold mk; rw [Ot]; simp
noncomputable def len (n:Nat):Nat:=if n=0 then 0 else n.log2+1
theorem Px {n i:Nat} (h:n.testBit i=true):i<len n:=by
 unfold len
 have h0:n ≠ 0:=by intro e; subst e; simp at h
 rw [if_neg h0]
 have h1:2 ^ i<=n:=Nat.ge_two_pow_of_testBit h
 have h2:i<=n.log2:=(Nat.le_log2 h0).mpr h1
 omega
noncomputable def mem (n:Nat):List Nat:=(List.range (len n)).filter n.testBit
theorem mem_iff {n i:Nat}:i∈mem n ↔ n.testBit i=true:=by
 unfold mem
 rw [List.mem_filter,List.mem_range]
 exact ⟨fun h=>h.2,fun h=>⟨Px h,h⟩⟩
theorem Ls {n k:Nat} (h:n<2 ^ k):len n<=k:=by
 unfold len
 split
 ·omega
 ·rename_i h0
  have:n.log2<k:=(Nat.log2_lt h0).mpr h
  omega
noncomputable def mv (n:Nat) (k:Int) (c:Nat):Nat:=(if 0<k then n * 2 ^ k.toNat else n / 2 ^ (-k).toNat) % 2 ^ c
theorem KJ (n:Nat) (k:Int) (c i:Nat):(mv n k c).testBit i=(decide (i<c) && (decide (0<=(i:Int) - k) && n.testBit ((i:Int) - k).toNat)):=by
 unfold mv
 rw [Nat.testBit_mod_two_pow]
 congr 1
 split
 ·rename_i h
  rw [Nat.testBit_mul_two_pow]
  by_cases h1:k.toNat<=i
  ·have e:((i:Int) - k).toNat=i - k.toNat:=by omega
   have e2:(0:Int)<=i - k:=by omega
   rw [decide_eq_true e2,e]; simp [h1]
  ·have e2:¬ (0:Int)<=i - k:=by omega
   rw [decide_eq_false e2]; simp [h1]
 ·rename_i h
  rw [Nat.testBit_div_two_pow]
  have e:((i:Int) - k).toNat=i+(-k).toNat:=by omega
  have e2:(0:Int)<=i - k:=by omega
  rw [decide_eq_true e2,e]; simp
noncomputable def stay (l:List Nat) (k:Int) (c:Nat):List Nat:=l.filter fun n=>decide (0<=(n:Int)+k) && decide ((n:Int)+k<c)
theorem Rk (l:List Nat) (n:Nat):mk (l++[n])=mk l ||| 2 ^ n:=by
 unfold mk; rw [List.foldl_append]; rfl
end Wd
namespace L2
open PySem PySem.Spec PySem.Calls PyProof.Rows
theorem Mu:∀ {xs:List V} {us:List Value},xs.length=us.length->(∀ (j:Nat) x u,xs[j]? = some x->us[j]? = some u->RelV x u)->Vals xs us
 | [],[],_,_=>.nil
 | [],_::_,h,_=>by simp at h
 | _::_,[],h,_=>by simp at h
 | x::xs,u::us,h,f=>.cons (f 0 x u rfl rfl) (Mu (by simpa using h) fun j y v hy hv=>f (j+1) y v (by simpa using hy) (by simpa using hv))
section
variable {X:Cx} {es:List Expr} {k1:Nat} {tpos:Pos}
theorem Kl:Ze X "int.bit_length" (fun x xs H Q=>∃ i,x=V.int i/\xs=[]/\Q (.int (Builtin.Int.intBits i)) H):=by
 intro pins s σ H x xs v us Q I rx r h
 obtain ⟨i,rfl,rfl,q⟩:=h
 obtain ⟨t,rfl⟩:=rx
 cases r
 exact PyProof.Rows.call_int_bit_length ⟨.int _,H,I.tok _,⟨_,rfl⟩,q⟩
end
theorem Eu (a b:Nat):Builtin.bitOr (a:Int) (b:Int)=((a ||| b:Nat):Int):=by
 have h1:¬ 0<=Builtin.bitNot (a:Int):=by unfold Builtin.bitNot; omega
 have h2:¬ 0<=Builtin.bitNot (b:Int):=by unfold Builtin.bitNot; omega
 have nn:∀ x:Int,Builtin.bitNot (Builtin.bitNot x)=x:=fun x=>by unfold Builtin.bitNot; omega
 unfold Builtin.bitOr
 rw [bitAnd_nn h1 h2,nn,nn,nn]
 simp
theorem Ko (a b:Nat):Builtin.bitAnd (a:Int) (b:Int)=((a &&& b:Nat):Int):=by
 rw [bitAnd_pp (Int.natCast_nonneg a) (Int.natCast_nonneg b)]
 simp
theorem HY (n:Nat):Builtin.Int.intBits (n:Int)=Wd.len n:=by
 unfold Builtin.Int.intBits Wd.len
 by_cases h:n=0
 ·subst h; rfl
 ·have h':((n:Int) == 0)=false:=by simpa using h
  rw [h',if_neg h]
  simp
theorem Fv (k:Nat):(2:Int) ^ k=((2 ^ k:Nat):Int):=by simp
end L2
namespace Wd
open PySem
noncomputable abbrev fG (xs:Array Nat):Prop:=xs.toList.Pairwise (· < ·)
structure Good (t:SetTable) (led:Bool):Prop where
 led:t.led=led
 ris:t.plain=true->fG t.place
end Wd
namespace Wd
open PySem PySem.Spec PyProof.Rows
noncomputable def cW (prog:Program) (w:World) (h:Heap) (a:Addr) (led:Bool) (σ:List Int):Prop :=
 ∃ es ep t,h.get? a=some { cls:=.type "set",dict:=none,data:=.set es ep t }/\ElemsOf (intKind prog w) es.toList/\(∀ k,k∈σ ↔ ∃ e∈es.toList,(intKind prog w).is k e.2=true)/\es.size=σ.length/\σ.Nodup /\
  σ.length<scanBound/\t.fits es.size=true/\Good t led
section
variable {prog:Program} {w:World} {A:Around} {E:Value->Shared->Prop} {s:Shared} {a:Addr} {led:Bool} {σ:List Int} {k:Int} {tk:Tok}
end
end Wd
namespace Wd
open PySem PySem.Spec PyProof.Rows
section
variable {prog:Program} {w:World} {A:Around} {R:Result->Shared->Prop} {I:Addr} {fp wr:List Addr} {G:Array GenState->Array GenState->Prop} {n:Nat} {P:Nat->Value->Prop} {St:Nat->Shared->Prop} {led:Bool}
end
section
variable {prog:Program} {w:World} {A:Around} {E:Value->Shared->Prop} {s:Shared}
noncomputable abbrev Wg (w:World):Bool:=!w.params.followText "set-order"
end
end Wd
namespace Wd
open PySem PySem.Spec PyProof.Rows
end Wd
namespace Wd
open PySem PySem.Spec PyProof.Rows
section
variable {M:Model} {A:Around} {E:Value->Shared->Prop}
end
inductive Way (w:World) (a:Addr) (es:Array (Int × Value)) (ep:Nat) (t:SetTable) (h:Heap):(Nat->Value)->List Value->List Addr->Prop where
 | text (hb:w.params.followText "set-order" = true):Way w a es ep t h (fun _=>rawInt 0) ((pickOrder (w.params.setOrder a ep) es).toList.map (·.2)) []
 | drawn {tp:Addr} {ps:List Nat} (hb:w.params.followText "set-order" = false) (hp:ps.Perm (List.range es.size)) (ht:∃ n,h.get? tp=some { cls:=.type "tuple",data:=.seq (ps.map fun (i:Nat)=>rawInt i).toArray n }) :
   Way w a es ep t h (fun _=>.ref tp) (ps.map fun i=>(es.getD i (0,.none)).2) [tp]
 | plain (hb:w.params.followText "set-order" = false) (hd:(!t.plain && decide (es.size > 1))=false) (hl:t.led=true) (hr:fG t.place) (hs:t.place.size=es.size) :
   Way w a es ep t h (fun i=>rawInt (if i=0 then 0 else t.place.getD (i - 1) 0+1:Nat)) (es.toList.map (·.2)) []
section
variable {prog:Program} {w:World} {A:Around} {E:Value->Shared->Prop} {s:Shared} {a it:Addr} {es:Array (Int × Value)} {ep:Nat} {t:SetTable} {first:Nat->Value} {vs:List Value} {more:List Addr}
end
end Wd
section PartSetJ
set_option maxHeartbeats 1000000
namespace Wd
open PySem PySem.Spec PyProof.Rows
section
variable {prog:Program} {w:World} {A:Around} {E:Value->Shared->Prop} {s:Shared} {a:Addr} {σ:List Int}
end
end Wd
end PartSetJ
section PartSetK
set_option maxHeartbeats 1000000
namespace Wd
open PySem PySem.Spec PyProof.Rows
section
variable {prog:Program} {w:World} {A:Around} {E:Value->Shared->Prop} {s:Shared} {a:Addr} {σ:List Int}
end
end Wd
end PartSetK
namespace L2
open PySem PySem.Spec PyProof.Rows
noncomputable def fc (P:Program) (w:World) (a:Addr) (τ:List Int):HO:=.ext fun h=>Wd.cW P w h a (Wd.Wg w) τ
section
variable {X:Cx} {pins:List (Addr × Obj)} {σ:St} {H:Hp} {s:Shared} {h':Heap} {a:Addr} {o:HO}
theorem Rp:GD X (binaryOp .LShift) (rI (fun i j=>0<=j/\(Builtin.Int.intBits i:Int)+j<=2 ^ 27) fun i j=>.int (i * 2 ^ j.toNat)):=V9 fun _ _ _ _ _ _ _ hc q=>lshift_int hc.1 hc.2 q
end
theorem Rm (a b:Nat):Builtin.bitAnd (a:Int) (b:Int)=((a &&& b:Nat):Int):=by
 rw [bitAnd_pp (Int.natCast_nonneg a) (Int.natCast_nonneg b)]
 simp
end L2
namespace L2
open PySem PySem.Spec PyProof.Rows
section
variable {X:Cx}
end
section
variable {prog:Program} {w:World} {A:Around} {E:Value->Shared->Prop} {s:Shared} {r l:Addr}
end
section
variable {X:Cx} {p1 p2 q1 q2:Pos} {e:Expr} {te:TE}
end
end L2
namespace L2
open PySem PySem.Spec PyProof.Rows
noncomputable def YK (K:PySem.W.Frag) (a:Addr) (xs:List V):It :=
 ⟨fun i H=>Ci K H a xs/\i<xs.length,fun i H x H'=>H'=H/\xs[xs.length - 1 - i]? = some x,fun i H=>Ci K H a xs/\i=xs.length⟩
theorem Pq {P:Program} {w:World} {K:PySem.W.Frag} {tg:Expr} (a it:Addr) (xs:List V):Turn P w K tg (YK K a xs) [it] it (fun i h=>h.IsRevIter it a ((xs.length:Int) - 1 - (i:Nat))) where
 mem:=by simp
 obj:=fun i h st b hb=>by
  have e:b=it:=by simpa using hb
  subst e
  obtain ⟨o,e,c,d⟩:=st
  exact ⟨o,e,fun v z=>by rw [d] at z; cases z⟩
 keep:=fun i h h' st k=>st.at fun o e=>k it (by simp) o e
 item:=by
  intro X hP hw hK hc i pins s σ H E I hf st hg
  subst hP hw hK
  obtain ⟨hq,hlt⟩:=hg
  obtain ⟨its,rv,p,hz⟩:=I.list hq
  have hx:xs[xs.length - 1 - i]? = some (xs[xs.length - 1 - i]'(by omega)):=List.getElem?_eq_getElem (by omega)
  obtain ⟨u,hu,ru⟩:=rv.get hx
  obtain ⟨f0,f1,f2,f3,f4,f5⟩:=hf it (by simp)
  have e:(xs.length:Int) - 1 - ((i:Nat):Int)=((xs.length - 1 - i:Nat):Int):=by omega
  rw [e] at st
  refine wpAny_pyNext_rev_item st p.isList (x:=u) (by simpa using hu) fun h' st' sb=>?_
  have I1:Inv X pins σ H { s with heap:=h' }:=I.turned (t':=s.toks) (fun b o hb e=>(sb.2 b hb).trans e) f0 f1 f3 f4 f5
  have e2:((xs.length - 1 - i:Nat):Int) - 1=(xs.length:Int) - 1 - ((i+1:Nat):Int):=by omega
  rw [e2] at st'
  obtain ⟨o,eo,c,d⟩:=id st'
  exact ⟨u,rfl,Kr (s:={ s with heap:=h' }) eo c d (by decide) ⟨_,H,I1,ru,⟨rfl,hx⟩,st',fun b hb=>(hf b hb).1⟩⟩
 done:=by
  intro X hP hw hK hc i pins s σ H E I hf st hg
  subst hP hw hK
  obtain ⟨hq,rfl⟩:=hg
  obtain ⟨f0,f1,f2,f3,f4,f5⟩:=hf it (by simp)
  have e:(xs.length:Int) - 1 - ((xs.length:Nat):Int) = -1:=by omega
  rw [e] at st
  exact wpAny_pyNext_rev_end (I.ok.hd hc) st fun h' eb=>⟨rfl,I.turned (t':=s.toks) (fun b o hb e=>eb b o hb e) f0 f1 f3 f4 f5⟩
 self:=fun _ _ _ _ _ st h=>wpAny_pyIter_revIter st h
section
variable {X:Cx} {tg:Expr}
noncomputable def cX (K:PySem.W.Frag) (ta:TA):TI:=fun σ H R=>ta σ H fun vs H1=>∃ a xs,vs=[.ref a]/\Ci K H1 a xs/\R (YK K a xs) H1
theorem Vn {l:Expr} {ta:TA} {p pos:Pos} (hg:Gl X "reversed") (hm:X.mg "reversed" = none) (ha:PA X [l] ta) (hs:starEach [l] X.env=[(false,eval l X.env)]:=by rfl):PI X tg (.Call (.Name "reversed" p) [l] [] pos) (cX X.K ta):=by
 intro pins s σ H R I h
 refine Call_ (Ez I hg hm PyProof.Rows.boot_reversed (PyProof.Rows.callWith_type1 (Bo (ha pos pins s σ H _ I h) fun us s1 ⟨vs,H1,I1,r1,q1⟩=>?_) hs rfl))
 obtain ⟨a,xs,e,hq,q⟩:=q1
 subst e
 obtain ⟨u,rfl,ru⟩:=vals1 r1
 cases ru
 obtain ⟨its,rv,pl,hz⟩:=I1.list hq
 refine call_reversed_list pl.isList ?_
 have hit:(s1.heap.push (revObj a ((its.toArray.size:Int) - 1))).IsRevIter s1.heap.objs.size a ((its.toArray.size:Int) - 1):=⟨_,Heap.get?_push_size _ rfl,rfl,rfl⟩
 refine wpAny_pyIter_revIter (s:={ s1 with heap:=s1.heap.push (revObj a ((its.toArray.size:Int) - 1)) }) hit ?_
 refine ⟨s1.heap.objs.size,[s1.heap.objs.size],_,_,H1,rfl,I1.kept (t':=s1.toks) fun b o e=>Heap.get?_push_of_some _ e,Pq a _ xs,?_,fun b hb=>?_,q⟩
 ·have hl:=rv.length
  have e2:((its.toArray.size:Nat):Int) - 1=(xs.length:Int) - 1 - ((0:Nat):Int):=by
   rw [List.size_toArray]
   omega
  show (s1.heap.push (revObj a ((its.toArray.size:Int) - 1))).IsRevIter s1.heap.objs.size a ((xs.length:Int) - 1 - ((0:Nat):Int))
  rw [← e2]
  exact hit
 ·have e:b=s1.heap.objs.size:=by simpa using hb
  subst e
  exact I1.Jx (Nat.le_refl _) (I1.hok.fresh (Nat.le_refl _))
theorem SJ {K:PySem.W.Frag} {a:Addr} {xs:List V} {g:TG} {tb:TS} {D:Ends} {σ:St} {H:Hp} (Pv:Nat->St->Hp->Prop) (h0:Pv 0 σ H) (hl:∀ i σ H,i<=xs.length->Pv i σ H->Ci K H a xs)
  (hs:∀ i x σ H,i<xs.length->xs[xs.length - 1 - i]? = some x->Pv i σ H->g x σ H fun σ2 H2=>tb { D with nx:=Pv (i+1),ct:=Pv (i+1),bk:=D.nx } σ2 H2) (hd:∀ σ H,Pv xs.length σ H->D.nx σ H) :
  ∃ W:Nat->Nat->St->Hp->Prop,(∃ m,W 0 m σ H)/\∀ i m σ H,W i m σ H ->
   ((YK K a xs).stop i H/\D.nx σ H) \/ ((YK K a xs).go i H/\∃ N:St->Hp->Prop,(∀ σ' H',N σ' H'->∃ m',m'<m/\W (i+1) m' σ' H')/\∀ x H',(YK K a xs).yld i H x H'->g x σ H' fun σ2 H2=>tb { D with nx:=N,ct:=N,bk:=D.nx } σ2 H2):=by
 refine ⟨fun i m σ H=>m=xs.length - i/\i<=xs.length/\Pv i σ H,⟨xs.length,by simp,Nat.zero_le _,h0⟩,?_⟩
 rintro i m σ H ⟨rfl,hi,p⟩
 have q:=hl i σ H hi p
 by_cases hlt:i<xs.length
 ·refine .inr ⟨⟨q,hlt⟩,Pv (i+1),fun σ' H' p'=>⟨xs.length - (i+1),by omega,rfl,by omega,p'⟩,?_⟩
  rintro x H' ⟨rfl,hx⟩
  exact hs i x σ H' hlt hx p
 ·have e:i=xs.length:=by omega
  subst e
  exact .inl ⟨⟨q,rfl⟩,hd σ H p⟩
end
end L2
namespace L2
open PySem PySem.Spec PySem.Calls PyProof.Rows
section
variable {X:Cx}
theorem range_any (bs:List Bool):((List.range bs.length).any fun i=>(bs[i]?).getD false)=bs.any id:=by
 rw [Bool.eq_iff_iff,List.any_eq_true,List.any_eq_true]
 constructor
 ·rintro ⟨i,hi,e⟩
  have hi':=List.mem_range.mp hi
  rw [List.getElem?_eq_getElem hi'] at e
  exact ⟨_,List.getElem_mem hi',e⟩
 ·rintro ⟨b,hb,e⟩
  obtain ⟨i,hi,q⟩:=List.mem_iff_getElem.mp hb
  refine ⟨i,List.mem_range.mpr hi,?_⟩
  rw [List.getElem?_eq_getElem hi,q]
  exact e
theorem Iv (hc:X.calm=true):FJ X (.builtin "any") (fun xs H Q=>∃ (p:Addr) (bs:List Bool),xs=[V.ref p]/\Ci X.K H p (bs.map V.bl)/\Q (.bl (bs.any id)) H):=by
 intro pins s σ H xs us Q I r h
 obtain ⟨p,bs,rfl,hp,q⟩:=h
 obtain ⟨u,rfl,ru⟩:=vals1 r
 cases ru
 obtain ⟨its,rv,pl,hz⟩:=I.list hp
 have hlen:bs.length=its.length:=by have:=rv.length; rw [List.length_map] at this; exact this
 have hlt:p<s.heap.objs.size:=by obtain ⟨_,e,_⟩:=pl.isList; exact Heap.lt_size e
 refine call_any_walk (wpAny_pyIter_list pl.isList ?_)
 refine ⟨s.heap.objs.size,[s.heap.objs.size,p],[s.heap.objs.size],its.toArray.size,_,_,fun i=>(bs[i]?).getD false,rfl,Walks.list (A:=X.A.in1) (I.ok.hd hc) _ p (Nat.ne_of_lt hlt) its.toArray,
  ⟨⟨_,Heap.get?_push_size _ rfl,rfl,rfl⟩,pl.isList.push _⟩,fun i v s' Q' E' hP hQ=>?_,fun h' tk hk=>?_⟩
 ·have hP':its[i]? = some v:=by simpa using hP
  have hi:i<its.length:=(List.getElem?_eq_some_iff.mp hP').1
  have hb:bs[i]? = some bs[i]:=by simp [hlen,hi]
  obtain ⟨u,hu,ru⟩:=rv.get (i:=i) (x:=.bl bs[i]) (by rw [List.getElem?_map,hb]; rfl)
  rw [hP'] at hu
  cases hu
  cases ru
  dsimp only at hQ
  rw [hb] at hQ
  exact wpAny_truthy_bool hQ
 ·have e:((List.range its.toArray.size).any fun i=>(bs[i]?).getD false)=bs.any id:=by rw [List.size_toArray,← hlen]; exact range_any bs
  rw [e]
  refine ⟨.bl (bs.any id),H,I.kept (t':=tk) fun b o eb=>hk b o (fun hm=>?_) (Heap.get?_push_of_some _ eb),rfl,q⟩
  rw [List.mem_singleton.mp hm] at eb
  exact Nat.lt_irrefl _ (Heap.lt_size eb)
theorem GC (ns:List Int):∀ j,j<=ns.length->preSum (fun i=>(ns[i]?).getD 0) j=(ns.take j).sum
 | 0,_=>rfl
 | j+1,h=>by
  have ih:=GC ns j (by omega)
  show preSum _ j+(ns[j]?).getD 0=_
  rw [ih,List.take_add_one,List.getElem?_eq_getElem (by omega),List.sum_append]
  simp
theorem RG (M:Int):∀ ns:List Int,(∀ n∈ns,0<=n/\n<=M)->0<=ns.sum/\ns.sum<=ns.length * M
 | [],_=>by simp
 | n::r,h=>by
  have h1:=h n (List.mem_cons_self ..)
  have h2:=RG M r fun x hx=>h x (List.mem_cons_of_mem _ hx)
  have e:((n::r).length:Int) * M=r.length * M+M:=by rw [List.length_cons]; push_cast; rw [Int.add_mul,Int.one_mul]
  rw [e,List.sum_cons]
  omega
theorem QQ (hc:X.calm=true):FJ X (.builtin "sum") (fun xs H Q=>∃ (p:Addr) (ns:List Int),xs=[V.ref p]/\Ci X.K H p (ns.map V.int)/\(∀ n∈ns,0<=n/\n<=100000)/\ns.length<=1000/\Q (.int ns.sum) H):=by
 intro pins s σ H xs us Q I r h
 obtain ⟨p,ns,rfl,hp,hb,hl,q⟩:=h
 obtain ⟨u,rfl,ru⟩:=vals1 r
 cases ru
 obtain ⟨its,rv,pl,hz⟩:=I.list hp
 have hlen:ns.length=its.length:=by have:=rv.length; rw [List.length_map] at this; exact this
 have hlt:p<s.heap.objs.size:=by obtain ⟨_,e,_⟩:=pl.isList; exact Heap.lt_size e
 refine call_sum_walk (wpAny_pyIter_list pl.isList ?_)
 refine ⟨s.heap.objs.size,[s.heap.objs.size,p],[s.heap.objs.size],its.toArray.size,_,_,fun i=>(ns[i]?).getD 0,rfl,Walks.list (A:=X.A.in1) (I.ok.hd hc) _ p (Nat.ne_of_lt hlt) its.toArray,
  ⟨⟨_,Heap.get?_push_size _ rfl,rfl,rfl⟩,pl.isList.push _⟩,fun b hb=>?_,fun i v hP=>?_,fun j hj=>?_,fun h' tk t' hk=>?_⟩
 ·rw [Heap.size_push]
  rcases List.mem_cons.mp hb with rfl | hb
  ·exact Nat.lt_succ_self _
  ·rw [List.mem_singleton.mp hb]
   exact Nat.lt_succ_of_lt hlt
 ·have hP':its[i]? = some v:=by simpa using hP
  have hi:i<its.length:=(List.getElem?_eq_some_iff.mp hP').1
  have hb:ns[i]? = some ns[i]:=by simp [hlen,hi]
  obtain ⟨u,hu,ru⟩:=rv.get (i:=i) (x:=.int ns[i]) (by rw [List.getElem?_map,hb]; rfl)
  rw [hP'] at hu
  cases hu
  obtain ⟨t,rfl⟩:=ru
  exact ⟨t,by dsimp only; rw [hb]; rfl⟩
 ·have hj':j<ns.length:=by rw [hlen]; simpa using hj
  rw [GC ns (j+1) (by omega)]
  have h1:=hb ns[j] (List.getElem_mem hj')
  have h2:=RG 100000 (ns.take (j+1)) fun n hn=>hb n (List.mem_of_mem_take hn)
  have h3:(ns.take (j+1)).length<=1000:=by rw [List.length_take]; omega
  unfold InLong
  dsimp only
  rw [List.getElem?_eq_getElem hj']
  rw [Option.getD_some]
  refine ⟨⟨?_,?_⟩,⟨?_,?_⟩⟩ <;> omega
 ·have e:preSum (fun i=>(ns[i]?).getD 0) its.toArray.size=ns.sum:=by rw [List.size_toArray,← hlen,GC ns _ (Nat.le_refl _),List.take_length]
  rw [e]
  refine ⟨.int ns.sum,H,I.kept (t':=tk) fun b o eb=>hk b o (fun hm=>?_) (Heap.get?_push_of_some _ eb),⟨_,rfl⟩,q⟩
  rw [List.mem_singleton.mp hm] at eb
  exact Nat.lt_irrefl _ (Heap.lt_size eb)
structure KDict (K:PySem.W.Frag) (P:Params) (a:Addr):Prop where
 is:∃ es n,K.lookup a=some ⟨.type "dict",none,.dict es n,#[]⟩/\PySem.W.KeysLit P es.toList
 lo:(a == sysModules)=false
noncomputable def Xn (K:PySem.W.Frag) (P:Params) (td ty:TE):TE:=fun σ H Q=>td σ H fun x H1=>ty σ H1 fun y H2=>∃ a z v u,x=.ref a/\y=.str z/\KDict K P a/\PySem.W.nsIn K a z=some (some u)/\RelV v u/\Q v H2
noncomputable def YJ (K:PySem.W.Frag) (P:Params) (neg:Bool) (ty td:TE):TE:=fun σ H Q=>ty σ H fun y H1=>td σ H1 fun x H2=>∃ a z r,x=.ref a/\y=.str z/\KDict K P a/\PySem.W.nsIn K a z=some r/\Q (.bl (if neg then !r.isSome else r.isSome)) H2
variable {o i:Expr} {pos:Pos} {td ty:TE}
theorem Jm (ho:PE X o td) (hi:PE X i ty) (hs:U_ i):PE X (.Subscript o i pos) (Xn X.K X.w.params td ty):=by
 intro pins s σ H Q I h
 refine M4 PySem.F.slot_dict_getitem.lookup hs (Bo (ho pins s σ H _ I h) fun u s1 ⟨x,H1,I1,rx,q1⟩=>Bo (hi pins s1 σ H1 _ I1 q1) fun iv s2 hq0=>?_)
 obtain ⟨y,H2,I2,ry,a,z,v,w,ex,ey,kd,hw,rw',q2⟩:=hq0
 subst ex ey
 cases rx
 obtain ⟨t,rfl⟩:=ry
 obtain ⟨⟨es,n,hl,hk⟩,lo⟩:=kd
 have hm:=PySem.W.mapOf_K (prog:=X.prog) I2.HN hl hk
 exact ⟨hm.typeIs,wpAny_getItem_of (strKind_is X.prog X.w z t) hm (PySem.W.find_K hl hw) ⟨v,H2,I2.tok _,rw',q2⟩⟩
theorem Pr (hi:PE X i ty) (ho:PE X o td):PC X .In i o (YJ X.K X.w.params false ty td):=by
 intro pins s σ H Q I h
 refine Bo (hi pins s σ H _ I h) fun iv s1 ⟨y,H1,I1,ry,q1⟩=>Bo (ho pins s1 σ H1 _ I1 q1) fun u s2 hq0=>?_
 obtain ⟨x,H2,I2,rx,a,z,r,ex,ey,kd,hw,q2⟩:=hq0
 subst ex ey
 cases rx
 obtain ⟨t,rfl⟩:=ry
 obtain ⟨⟨es,n,hl,hk⟩,lo⟩:=kd
 refine wpAny_in_of (strKind_is X.prog X.w z t) lo (PySem.W.mapOf_K (prog:=X.prog) I2.HN hl hk) ?_
 rw [PySem.W.find_K hl hw]
 exact ⟨.bl r.isSome,H2,I2.tok _,rfl,q2⟩
theorem Nt (hi:PE X i ty) (ho:PE X o td):PC X .NotIn i o (YJ X.K X.w.params true ty td):=by
 intro pins s σ H Q I h
 refine Bo (hi pins s σ H _ I h) fun iv s1 ⟨y,H1,I1,ry,q1⟩=>Bo (ho pins s1 σ H1 _ I1 q1) fun u s2 hq0=>?_
 obtain ⟨x,H2,I2,rx,a,z,r,ex,ey,kd,hw,q2⟩:=hq0
 subst ex ey
 cases rx
 obtain ⟨t,rfl⟩:=ry
 obtain ⟨⟨es,n,hl,hk⟩,lo⟩:=kd
 refine wpAny_notIn_of (strKind_is X.prog X.w z t) lo (PySem.W.mapOf_K (prog:=X.prog) I2.HN hl hk) ?_
 rw [PySem.W.find_K hl hw]
 exact ⟨.bl (!r.isSome),H2,I2.tok _,rfl,q2⟩
end
section
variable {X:Cx} {e st:Expr} {lo hi:Option Expr} {te ts:TE} {tl th:TO} {p2 pos:Pos}
end
end L2
namespace Og
open PySem L2
theorem An {X:Cx} {K:PySem.W.Frag} (h:X.K=K):WD X (WF K):=h ▸ Vh
theorem Ft {X:Cx} {K:PySem.W.Frag} (h:X.K=K):WD X (Wu K):=h ▸ DY
theorem Gu {X:Cx} {K:PySem.W.Frag} (h:X.K=K):GD X (compareOp .In) (Zy K false):=h ▸ Nu
theorem Q8 {X:Cx} {e:Expr}:PE X e (fun _ _ _=>False):=fun _ _ _ _ _ _ h=>h.elim
structure R where
 w:Str
 nm:Str
 rest:List V
noncomputable abbrev R.v (r:R):List V:=.str r.w :: .str r.nm::r.rest
noncomputable def isNm (z:Str):Prop:=1<=z.length/\z.length<=8/\∀ c∈z.cps.toList,97<=c/\c<=122
noncomputable def Rows (H:Hp) (ρ:V->R) (vs:List V):Prop:=∀ v∈vs,TupAt H (ρ v).v v
theorem Rows.mono {H H':Hp} {ρ:V->R} {vs:List V} (s:Al H H') (h:Rows H ρ vs):Rows H' ρ vs:=fun v hv=>(h v hv).mono s
theorem Rows.sub {H:Hp} {ρ:V->R} {vs us:List V} (h:Rows H ρ vs) (hs:∀ v∈us,v∈vs):Rows H ρ us:=fun v hv=>h v (hs v hv)
noncomputable abbrev pw (ρ:V->R) (w:Str) (v:V):Bool:=decide (V.str (ρ v).w=V.str w)
noncomputable abbrev pn (ρ:V->R) (t:Str) (v:V):Bool:=decide (V.str (ρ v).nm=V.str t)
noncomputable def TV (ρ:V->R) (vs:List V) (w t:Str):Bool:=(vs.filter (pw ρ w)).any (pn ρ t)
noncomputable def KTup (K:PySem.W.Frag) (a:Addr) (xs:List V):Prop:=∃ (o:Obj) (its:Array Value) (n:Nat),K.lookup a=some o/\o.cls=.type "tuple" /\ o.data=.seq its n/\its.size<=sizeLine/\Vals xs its.toList
theorem KTup.sq {K:PySem.W.Frag} {a:Addr} {xs:List V} (h:KTup K a xs) (H:Hp):Gy K H a xs:=.inr h
noncomputable abbrev named:List Str:=["board","rank","stop","coupler","mute"]
noncomputable def Gd (K:PySem.W.Frag) (aB:Addr) (ρ:V->R) (vs:List V) (x:V) (part:Str):Prop :=
 (∃ (i lo hi:Int) (b:Addr),x=.int i/\PySem.W.nsIn K aB part=some (some (.ref b))/\KTup K b [.int lo,.int hi]/\lo<=i/\i<=hi) \/
 (PySem.W.nsIn K aB part=some none/\part = "new" /\ ∃ t,x=.str t/\isNm t/\∀ w∈named,TV ρ vs w t=false) \/
 (PySem.W.nsIn K aB part=some none/\¬ part = "new" /\ ∃ t,x=.str t/\isNm t/\TV ρ vs part t=true)
structure Ja (K:PySem.W.Frag) (aB aP aM:Addr) (ρ:V->R) (vs:List V) (r:R):Prop where
 ns:¬ r.w = "step"
 nl:¬ r.w = "line"
 parts:∃ (ap:Addr) (ps:List Str),PySem.W.nsIn K aP r.w=some (some (.ref ap))/\KTup K ap (ps.map V.str)/\(V.str r.nm::r.rest).length=ps.length/\ps.length<=10 /\
  ∀ (i:Nat) x y,(V.str r.nm::r.rest)[i]? = some x->ps[i]? = some y->Gd K aB ρ vs x y
 room:∃ (m:Int) (t:Tok),PySem.W.nsIn K aM r.w=some (some (.int m t))/\(((vs.filter (pw ρ r.w)).length:Nat):Int)<m
noncomputable def letters:Str:="abcdefghijklmnopqrstuvwxyz"
noncomputable abbrev XH (y:Str) (c:Nat):Bool:=!(Builtin.Str.occurrences y ⟨#[c]⟩ 0 y.length 1).isEmpty
theorem Rc:∀ c<128,XH letters c=decide (97<=c/\c<=122):=by decide +kernel
theorem Az {H:Hp} {p:Addr} {o:HO} (h:H p=none):Al H (upd H p o):=fun b u e=>by rw [Av (Ao e h)]; exact e
theorem Jr {H:Hp} {p:Addr} {o:HO} (h:H p=none):∃ H',upd H p o=H'/\Al H H'/\H' p=some o:=⟨_,rfl,Az h,Ah⟩
theorem Hk {n:Nat} (h:n<=1000):n<=sizeLine:=Nat.le_of_lt (Aq h)
theorem ty_int {K:PySem.W.Frag}:PySem.W.kitOne K (.type "int") (.type "int")=some true:=by kernel_rfl
theorem T7 {K:PySem.W.Frag}:PySem.W.kitOne K (.type "int") (.type "bool")=some false:=by kernel_rfl
theorem TY {K:PySem.W.Frag}:PySem.W.kitOne K (.type "list") (.type "list")=some true:=by kernel_rfl
theorem XQ {K:PySem.W.Frag}:PySem.W.kitOne K (.type "tuple") (.type "tuple")=some true:=by kernel_rfl
theorem T4 {K:PySem.W.Frag}:PySem.W.kitOne K (.type "str") (.type "str")=some true:=by kernel_rfl
theorem Iu (vs:List V) (n:Nat) (h:n<=vs.length):En vs none (some (n:Int))=vs.take n:=by
 unfold En
 have e1:HT.Dd vs.length 0 none=0:=rfl
 have e2:HT.Dd vs.length vs.length (some (n:Int))=n:=by
  rw [HT.KD]
  omega
 rw [e1,e2]
 simp
theorem GZ {α:Type} (p:α->Bool) (l:List α):(l.filter p).length<=l.length:=List.length_filter_le _ _
noncomputable abbrev bV (b:Str × Nat):List V:=[.str b.1,.int (b.2:Nat)]
noncomputable abbrev Gg (b:Str × Nat):R:=⟨"board",b.1,[.int (b.2:Nat)]⟩
noncomputable abbrev qV (q:Nat × Nat):List V:=[.int (q.1:Nat),.int (q.2:Nat)]
noncomputable def Dq (bs:List (Str × Nat)):List (Nat × Nat):=bs.zipIdx.flatMap fun p=>(List.range p.1.2).map fun e=>(p.2,e)
theorem Qd (bs:List (Str × Nat)) (b:Str × Nat):Dq (bs++[b])=Dq bs++(List.range b.2).map fun e=>(bs.length,e):=by
 unfold Dq
 rw [List.zipIdx_append]
 simp
theorem Ff {bs:List (Str × Nat)} {i:Nat} {b:Str × Nat} (h:bs[i]? = some b):Dq (bs.take (i+1))=Dq (bs.take i)++(List.range b.2).map fun e=>(i,e):=by
 have hi:i<bs.length:=(List.getElem?_eq_some_iff.mp h).1
 rw [List.take_add_one,h]
 show Dq (bs.take i++[b])=_
 rw [Qd,List.length_take,Nat.min_eq_left (by omega)]
theorem J4 (bs:List (Str × Nat)) (M:Nat):(∀ b∈bs,b.2<=M)->(Dq bs).length<=bs.length * M:=by
 intro h
 have key:∀ i,i<=bs.length->(Dq (bs.take i)).length<=i * M:=by
  intro i
  induction i with
  | zero=>intro _; simp [Dq]
  | succ i ih =>
   intro hi
   have hlt:i<bs.length:=by omega
   rw [Ff (List.getElem?_eq_getElem hlt),List.length_append,List.length_map,List.length_range]
   have h1:=ih (by omega)
   have h2:=h bs[i] (List.getElem_mem hlt)
   have:(i+1) * M=i * M+M:=by rw [Nat.add_mul,Nat.one_mul]
   omega
 have:=key bs.length (Nat.le_refl _)
 rw [List.take_length] at this
 exact this
theorem Cg {α β:Type} {F:α->β->Prop} {l:List α} {vs:List β} (h:Paired F l vs):∀ {v},v∈vs->∃ a∈l,F a v:=by
 induction h with
 | nil=>intro v hv; cases hv
 | cons a b ih =>
  intro v hv
  rcases List.mem_cons.mp hv with rfl | hv
  ·exact ⟨_,List.mem_cons_self ..,a⟩
  ·obtain ⟨x,hx,q⟩:=ih hv
   exact ⟨x,List.mem_cons_of_mem _ hx,q⟩
theorem C_ {α β:Type} {F:α->β->Prop} {l:List α} {vs:List β} (h:Paired F l vs):∀ {i:Nat} {a},l[i]? = some a->∃ v,vs[i]? = some v/\F a v:=by
 induction h with
 | nil=>intro i a ha; simp at ha
 | cons x y ih =>
  intro i a ha
  cases i with
  | zero =>
   simp at ha
   subst ha
   exact ⟨_,rfl,x⟩
  | succ i=>exact ih (by simpa using ha)
theorem Eg {α β:Type} {F:α->β->Prop} {l:List α} {vs:List β} (h:Paired F l vs):∀ {i:Nat} {v},vs[i]? = some v->∃ a,l[i]? = some a/\F a v:=by
 induction h with
 | nil=>intro i a ha; simp at ha
 | cons x y ih =>
  intro i a ha
  cases i with
  | zero =>
   simp at ha
   subst ha
   exact ⟨_,rfl,x⟩
  | succ i=>exact ih (by simpa using ha)
theorem Hs {α β:Type} {F:α->β->Prop} {l:List α} {vs:List β} (h:Paired F l vs):∀ n:Nat,Paired F (l.take n) (vs.take n):=by
 induction h with
 | nil=>intro n; simp; exact .nil
 | cons x y ih =>
  intro n
  cases n with
  | zero=>exact .nil
  | succ n=>exact .cons x (ih n)
theorem Ey {α β:Type} {F:α->β->Prop} {l l':List α} {vs vs':List β} (h:Paired F l vs) (h':Paired F l' vs'):Paired F (l++l') (vs++vs'):=by
 induction h with
 | nil=>exact h'
 | cons x y ih=>exact .cons x ih
theorem Bs {α β γ:Type} {F:γ->β->Prop} (g:α->γ) {l:List α} {vs:List β} (h:Paired (fun a v=>F (g a) v) l vs):Paired F (l.map g) vs:=by
 induction h with
 | nil=>exact .nil
 | cons x y ih=>exact .cons x ih
theorem Ei {α β γ:Type} {F:γ->β->Prop} (g:α->γ):∀ {l:List α} {vs:List β},Paired F (l.map g) vs->Paired (fun a v=>F (g a) v) l vs
 | [],_,h=>by cases h; exact .nil
 | a::l,_,h=>by
  cases h with
  | cons x y=>exact .cons x (Ei g y)
noncomputable def Oq (H:Hp) (k:Nat):V->V
 | .ref T=>match H T with
  | some (.tup xs)=>xs.getD k .non
  | _=>.non
 | _=>.non
theorem HH {H:Hp} {zs:List V} {v:V} (h:TupAt H zs v) (k:Nat):Oq H k v=zs.getD k .non:=by
 obtain ⟨T,rfl,e⟩:=h
 show (match H T with | some (.tup xs)=>xs.getD k V.non | _=>V.non)=_
 rw [e]
theorem IV {α:Type} {H:Hp} {g:α->List V} (k:Nat) {l:List α} {vs:List V} (h:Paired (fun a v=>TupAt H (g a) v) l vs):vs.map (Oq H k)=l.map fun a=>(g a).getD k .non:=by
 induction h with
 | nil=>rfl
 | cons x y ih=>rw [List.map_cons,List.map_cons,ih,HH x]
noncomputable def SX (x:Addr) (H H':Hp):Prop:=∀ b o,H b=some o->b ≠ x->H' b=some o
theorem SX.trans {x:Addr} {H H1 H2:Hp} (a:SX x H H1) (b:SX x H1 H2):SX x H H2:=fun c o h n=>b c o (a c o h n) n
theorem SX.of {x:Addr} {H H':Hp} (s:Al H H'):SX x H H':=fun b o h _=>s b o h
theorem SX.up {x:Addr} {H:Hp} {o:HO}:SX x H (upd H x o):=fun b u h n=>by rw [Av n]; exact h
theorem SX.tup {x:Addr} {H H':Hp} {zs:List V} {y:V} {C dx:Addr} {fs:List (Str × V)} (s:SX x H H') (hx:H x=some (.ins C dx fs)) (h:TupAt H zs y):TupAt H' zs y:=by
 obtain ⟨T,e,q⟩:=h
 exact ⟨T,e,s _ _ q fun z=>by rw [z,hx] at q; cases q⟩
theorem SX.pair {α:Type} {x:Addr} {H H':Hp} {f:α->List V} {l:List α} {vs:List V} {C dx:Addr} {fs:List (Str × V)} (s:SX x H H') (hx:H x=some (.ins C dx fs)) (h:Paired (fun a y=>TupAt H (f a) y) l vs):Paired (fun a y=>TupAt H' (f a) y) l vs:=Paired.Hv h fun _ _ q=>s.tup hx q
theorem SX.lst {x a:Addr} {H H':Hp} {xs:List V} {C dx:Addr} {fs:List (Str × V)} (s:SX x H H') (hx:H x=some (.ins C dx fs)) (h:H a=some (.lst xs)):H' a=some (.lst xs):=s _ _ h fun z=>by rw [z,hx] at h; cases h
theorem SX.dk {x a:Addr} {H H':Hp} {kvs:List (Key × V)} {C dx:Addr} {fs:List (Str × V)} (s:SX x H H') (hx:H x=some (.ins C dx fs)) (h:H a=some (.dK kvs)):H' a=some (.dK kvs):=s _ _ h fun z=>by rw [z,hx] at h; cases h
noncomputable abbrev meths:List Str:=["ranks","pipe_count","pipe","rank_of","board_of_knob","boards","key_count","key","board_of","coupler","knobs","knob_number","board_number","stop","mute","steps","rows"]
structure Cr (C:Addr) (H:Hp) (x:Addr) (bs:List (Str × Nat)) (ks:List R):Prop where
 ob:∃ (dx:Addr) (fs:List (Str × V)) (bl bn kp kr:Addr) (bvs pvs uvs:List V) (kvs:List (Key × V)),H x=some (.ins C dx fs)/\fs.lookup ("board_list" : Str)=some (.ref bl)/\fs.lookup ("board_numbers" : Str)=some (.ref bn)/\fs.lookup ("key_places" : Str)=some (.ref kp)/\fs.lookup ("knob_rows" : Str)=some (.ref kr) /\
  (∀ m∈meths,fs.lookup m=none)/\H bl=some (.lst bvs)/\Paired (fun b y=>TupAt H (bV b) y) bs bvs/\H bn=some (.dK kvs)/\(∀ (i:Nat) b,bs[i]? = some b->CZ kvs (Sum.inr b.1)=some (.int (i:Nat))) /\
  H kp=some (.lst pvs)/\Paired (fun q y=>TupAt H (qV q) y) (Dq bs) pvs/\H kr=some (.lst uvs)/\Paired (fun (r:R) y=>TupAt H r.v y) ks uvs
 nb:bs.length<=5
 sz:∀ b∈bs,b.2<=61
 nk:ks.length<=200
theorem Cr.mono {C:Addr} {H H':Hp} {x:Addr} {bs:List (Str × Nat)} {ks:List R} (s:Al H H') (h:Cr C H x bs ks):Cr C H' x bs ks:=by
 obtain ⟨⟨dx,fs,bl,bn,kp,kr,bvs,pvs,uvs,kvs,h1,l1,l2,l3,l4,lm,h2,h3,h4,h5,h6,h7,h8,h9⟩,a,b,c⟩:=h
 exact ⟨⟨dx,fs,bl,bn,kp,kr,bvs,pvs,uvs,kvs,s _ _ h1,l1,l2,l3,l4,lm,s _ _ h2,Ai s h3,s _ _ h4,h5,s _ _ h6,Ai s h7,s _ _ h8,Ai s h9⟩,a,b,c⟩
end Og
namespace Og
open PySem L2 PyProof.Rows
inductive Kb where
 | cp (i j:Nat) (s:Int)
 | pl (w:Str) (i:Nat)
noncomputable def Kb.w:Kb->Str
 | .cp _ _ _=>"coupler"
 | .pl w _=>w
noncomputable def Kb.v:Kb->List V
 | .cp i j s=>[.str "coupler",.int (i:Nat),.int (j:Nat),.int s]
 | .pl w i=>[.str w,.int (i:Nat)]
noncomputable def Kb.ok (n:Nat):Kb->Prop
 | .cp i j s=>i<n/\j<n /\ -60<=s/\s<=60
 | .pl w i=>i<n/\(w = "mute" \/ w = "stop")
noncomputable def Fg (w:Str):Nat:=if w = "coupler" then 12 else if w = "mute" then 5 else 24
noncomputable abbrev IW (w:Str) (z:Kb):Bool:=decide (V.str z.w=V.str w)
structure RQ (n:Nat) (kbs:List Kb):Prop where
 ok:∀ k∈kbs,k.ok n
 room:∀ (i:Nat) k,kbs[i]? = some k->((kbs.take i).filter (IW k.w)).length<Fg k.w
 len:kbs.length<=70
noncomputable def Gh (c:Nat->Str) (k:Nat):Kb->R
 | .cp i j s=>⟨"coupler",c (30+k),[.str (c i),.str (c j),.int s]⟩
 | .pl w i=>⟨w,c (30+k),[.str (c i)]⟩
theorem Gf (c:Nat->Str) (k:Nat) (z:Kb):(Gh c k z).w=z.w:=by cases z <;> rfl
theorem Ju (c:Nat->Str) (k:Nat) (z:Kb):(Gh c k z).nm=c (30+k):=by cases z <;> rfl
noncomputable def BW (c:Nat->Str) (sz:List Nat):List (Str × Nat):=sz.zipIdx.map fun p=>(c p.2,p.1)
noncomputable def Bu (c:Nat->Str) (kbs:List Kb):List R:=kbs.zipIdx.map fun p=>Gh c p.2 p.1
theorem Do {c:Nat->Str} {sz:List Nat} {i z:Nat} (h:sz[i]? = some z):(BW c sz)[i]? = some (c i,z):=by
 unfold BW
 rw [List.getElem?_map,List.getElem?_zipIdx,h]
 simp
theorem Oe {c:Nat->Str} {sz:List Nat} {i:Nat} {b:Str × Nat} (h:(BW c sz)[i]? = some b):∃ z,sz[i]? = some z/\b=(c i,z):=by
 have hi:i<(BW c sz).length:=(List.getElem?_eq_some_iff.mp h).1
 have hi':i<sz.length:=by simpa [BW] using hi
 refine ⟨sz[i],List.getElem?_eq_getElem hi',?_⟩
 rw [Do (List.getElem?_eq_getElem hi')] at h
 exact (Option.some.inj h).symm
theorem Fo (c:Nat->Str) (sz:List Nat):(BW c sz).length=sz.length:=by simp [BW]
theorem Bx (c:Nat->Str) (sz:List Nat):(BW c sz).map (·.2)=sz:=by
 unfold BW
 rw [List.map_map]
 refine List.ext_getElem? fun i=>?_
 rw [List.getElem?_map,List.getElem?_zipIdx]
 cases sz[i]? <;> simp
theorem DW {c:Nat->Str} {kbs:List Kb} {i:Nat} {z:Kb} (h:kbs[i]? = some z):(Bu c kbs)[i]? = some (Gh c i z):=by
 unfold Bu
 rw [List.getElem?_map,List.getElem?_zipIdx,h]
 simp
theorem DK {c:Nat->Str} {kbs:List Kb} {i:Nat} {r:R} (h:(Bu c kbs)[i]? = some r):∃ z,kbs[i]? = some z/\r=Gh c i z:=by
 have hi:i<(Bu c kbs).length:=(List.getElem?_eq_some_iff.mp h).1
 have hi':i<kbs.length:=by simpa [Bu] using hi
 refine ⟨kbs[i],List.getElem?_eq_getElem hi',?_⟩
 rw [DW (List.getElem?_eq_getElem hi')] at h
 exact (Option.some.inj h).symm
theorem Fj (c:Nat->Str) (kbs:List Kb):(Bu c kbs).length=kbs.length:=by simp [Bu]
structure KF (K:PySem.W.Frag) (aB aP aM:Addr):Prop where
 pB:∃ a,PySem.W.nsIn K aP "board" = some (some (.ref a))/\KTup K a (["new","keys"].map fun s:String=>V.str s)
 pS:∃ a,PySem.W.nsIn K aP "stop" = some (some (.ref a))/\KTup K a (["new","board"].map fun s:String=>V.str s)
 pM:∃ a,PySem.W.nsIn K aP "mute" = some (some (.ref a))/\KTup K a (["new","board"].map fun s:String=>V.str s)
 pC:∃ a,PySem.W.nsIn K aP "coupler" = some (some (.ref a))/\KTup K a (["new","board","board","leap"].map fun s:String=>V.str s)
 bK:∃ a,PySem.W.nsIn K aB "keys" = some (some (.ref a))/\KTup K a [.int 1,.int 61]
 bL:∃ a,PySem.W.nsIn K aB "leap" = some (some (.ref a))/\KTup K a [.int (-60),.int 60]
 bN:PySem.W.nsIn K aB "new" = some none
 bB:PySem.W.nsIn K aB "board" = some none
 mB:∃ t,PySem.W.nsIn K aM "board" = some (some (.int 5 t))
 mS:∃ t,PySem.W.nsIn K aM "stop" = some (some (.int 24 t))
 mC:∃ t,PySem.W.nsIn K aM "coupler" = some (some (.int 12 t))
 mM:∃ t,PySem.W.nsIn K aM "mute" = some (some (.int 5 t))
noncomputable def Js (H:Hp):V->R
 | .ref T=>match H T with
  | some (.tup (.str w :: .str n::r))=>⟨w,n,r⟩
  | _=>⟨"","",[]⟩
 | _=>⟨"","",[]⟩
theorem Lw {H:Hp} {r:R} {v:V} (h:TupAt H r.v v):Js H v=r:=by
 obtain ⟨T,rfl,e⟩:=h
 show (match H T with | some (.tup (.str w :: .str n::r))=>(⟨w,n,r⟩:R) | _=>⟨"","",[]⟩)=r
 rw [e]
theorem My {H:Hp} {rs:List R} {vs:List V} (h:Paired (fun (r:R) v=>TupAt H r.v v) rs vs):vs.map (Js H)=rs:=by
 induction h with
 | nil=>rfl
 | cons x y ih=>rw [List.map_cons,ih,Lw x]
theorem Bf (f:Str) (v:V):∀ l:List (Str × V),(BZ f v l).length<=l.length+1
 | []=>Nat.le_refl _
 | p::r=>by
  unfold BZ
  split
  ·simp
  ·have:=Bf f v r
   simp only [List.length_cons]
   omega
noncomputable abbrev Gx (s:Str):Bool:=inV (.str s) [.str "stop",.str "coupler",.str "mute"]
structure gC (K:PySem.W.Frag) (aB aP aM:Addr) (ρ:V->R) (us:List V) (bs:List (Str × Nat)) (ks:List R):Prop where
 kinds:∀ v∈us,(ρ v).w = "board" \/ (ρ v).w = "stop" \/ (ρ v).w = "coupler" \/ (ρ v).w = "mute"
 eb:(us.filter (pw ρ "board")).map ρ=bs.map Gg
 ek:(us.filter (fun v=>Gx (ρ v).w)).map ρ=ks
 b0:1<=bs.length
 b5:bs.length<=5
 sz:∀ b∈bs,b.2<=61
 nk:ks.length<=100
 nb:(bs.map (·.1)).Nodup
 nn:(ks.map (·.nm)).Nodup
 len:us.length<=105
 ok:∀ (i:Nat) v,us[i]? = some v->Ja K aB aP aM ρ (us.take i) (ρ v)
noncomputable def Fz (ρ:V->R) (vs:List V):List (Str × Str):=vs.map fun v=>((ρ v).w,(ρ v).nm)
noncomputable abbrev NB (wn:List (Str × Str)) (w t:Str):Bool:=(wn.filter fun p=>decide (p.1=w)).any fun p=>decide (p.2=t)
noncomputable abbrev Pj (wn:List (Str × Str)) (w:Str):Nat:=(wn.filter fun p=>decide (p.1=w)).length
theorem GP (a b:Str):decide (V.str a=V.str b)=decide (a=b):=by
 rw [Bool.eq_iff_iff,decide_eq_true_eq,decide_eq_true_eq]
 exact ⟨V.str.inj,congrArg V.str⟩
theorem Hj (ρ:V->R) (vs:List V) (w t:Str):TV ρ vs w t=NB (Fz ρ vs) w t:=by
 unfold TV Fz
 show _=((vs.map fun v=>((ρ v).w,(ρ v).nm)).filter fun p=>decide (p.1=w)).any fun p=>decide (p.2=t)
 rw [List.filter_map,List.any_map]
 have e1:pw ρ w=(fun p:Str × Str=>decide (p.1=w)) ∘ fun v=>((ρ v).w,(ρ v).nm):=by
  funext v
  exact GP _ _
 have e2:pn ρ t=(fun p:Str × Str=>decide (p.2=t)) ∘ fun v=>((ρ v).w,(ρ v).nm):=by
  funext v
  exact GP _ _
 rw [e1,e2]
theorem Gj (ρ:V->R) (vs:List V) (w:Str):(vs.filter (pw ρ w)).length=Pj (Fz ρ vs) w:=by
 unfold Fz
 show _=((vs.map fun v=>((ρ v).w,(ρ v).nm)).filter fun p=>decide (p.1=w)).length
 rw [List.filter_map,List.length_map]
 have e1:pw ρ w=(fun p:Str × Str=>decide (p.1=w)) ∘ fun v=>((ρ v).w,(ρ v).nm):=by
  funext v
  exact GP _ _
 rw [e1]
section
variable {K:PySem.W.Frag} {aB aP aM:Addr} {ρ:V->R} {vs:List V} {wn:List (Str × Str)} {t:Str}
theorem G_ (F:KF K aB aP aM) (e:Fz ρ vs=wn) (ht:isNm t) (h:∀ w∈named,NB wn w t=false):Gd K aB ρ vs (.str t) "new" :=
 .inr (.inl ⟨F.bN,rfl,_,rfl,ht,fun w hw=>by rw [Hj,e]; exact h w hw⟩)
theorem Gr (F:KF K aB aP aM) (e:Fz ρ vs=wn) (ht:isNm t) (h:NB wn "board" t=true):Gd K aB ρ vs (.str t) "board" :=
 .inr (.inr ⟨F.bB,by decide +kernel,_,rfl,ht,by rw [Hj,e]; exact h⟩)
theorem Nr (F:KF K aB aP aM) (e:Fz ρ vs=wn) (ht:isNm t) (h:∀ w∈named,NB wn w t=false) (hc:Pj wn "board" < 5) {n:Nat} (h1:1<=n) (h2:n<=61):Ja K aB aP aM ρ vs (Gg (t,n)):=by
 obtain ⟨ap,g1,g2⟩:=F.pB
 obtain ⟨ab,g3,g4⟩:=F.bK
 obtain ⟨tk,g5⟩:=F.mB
 refine ⟨by show ¬ ("board" : Str) = "step"; decide +kernel,by show ¬ ("board" : Str) = "line"; decide +kernel,⟨ap,["new","keys"],g1,g2,rfl,by decide,fun j x y hx hy=>?_⟩,⟨5,tk,g5,?_⟩⟩
 ·match j,hx,hy with
  | 0,hx,hy =>
   cases (Option.some.inj hx)
   cases (Option.some.inj hy)
   exact G_ F e ht h
  | 1,hx,hy =>
   cases (Option.some.inj hx)
   cases (Option.some.inj hy)
   exact .inl ⟨_,1,61,ab,rfl,g3,g4,by omega,by omega⟩
  | j+2,hx,hy=>simp at hy
 ·rw [Gj,e]
  show ((Pj wn "board" : Nat):Int)<5
  omega
theorem Kz (F:KF K aB aP aM) (e:Fz ρ vs=wn) (ht:isNm t) (h:∀ w∈named,NB wn w t=false) (hc:Pj wn "coupler" < 12) {a b:Str} (ha:isNm a) (ha':NB wn "board" a=true) (hb:isNm b) (hb':NB wn "board" b=true) {s:Int} (h1 : -60<=s) (h2:s<=60):Ja K aB aP aM ρ vs ⟨"coupler",t,[.str a,.str b,.int s]⟩:=by
 obtain ⟨ap,g1,g2⟩:=F.pC
 obtain ⟨ab,g3,g4⟩:=F.bL
 obtain ⟨tk,g5⟩:=F.mC
 refine ⟨by show ¬ ("coupler" : Str) = "step"; decide +kernel,by show ¬ ("coupler" : Str) = "line"; decide +kernel,⟨ap,["new","board","board","leap"],g1,g2,rfl,by decide,fun j x y hx hy=>?_⟩,⟨12,tk,g5,?_⟩⟩
 ·match j,hx,hy with
  | 0,hx,hy =>
   cases (Option.some.inj hx)
   cases (Option.some.inj hy)
   exact G_ F e ht h
  | 1,hx,hy =>
   cases (Option.some.inj hx)
   cases (Option.some.inj hy)
   exact Gr F e ha ha'
  | 2,hx,hy =>
   cases (Option.some.inj hx)
   cases (Option.some.inj hy)
   exact Gr F e hb hb'
  | 3,hx,hy =>
   cases (Option.some.inj hx)
   cases (Option.some.inj hy)
   exact .inl ⟨_,-60,60,ab,rfl,g3,g4,h1,h2⟩
  | j+4,hx,hy=>simp at hy
 ·rw [Gj,e]
  show ((Pj wn "coupler" : Nat):Int)<12
  omega
end
theorem Hg {α:Type} {l:List α} (h:∀ (i j:Nat) x,l[i]? = some x->l[j]? = some x->i=j):l.Nodup:=by
 refine List.pairwise_iff_getElem.mpr fun i j hi hj hij e=>?_
 have:=h i j l[i] (List.getElem?_eq_getElem hi) (by rw [e]; exact List.getElem?_eq_getElem hj)
 omega
theorem S7 {bs:List (Str × Nat)}:∀ {i a n:Nat},(Dq bs)[i]? = some (a,n)->∃ b,bs[a]? = some b/\n<b.2/\i=((bs.map (·.2)).take a).sum+n:=by
 have key:∀ m,m<=bs.length->∀ {i a n:Nat},(Dq (bs.take m))[i]? = some (a,n)->∃ b,bs[a]? = some b/\n<b.2/\i=((bs.map (·.2)).take a).sum+n:=by
  intro m
  induction m with
  | zero =>
   intro _ i a n h
   simp [Dq] at h
  | succ m ih =>
   intro hm i a n h
   have hlt:m<bs.length:=by omega
   have hb:=List.getElem?_eq_getElem hlt
   rw [Ff hb] at h
   have hlen:(Dq (bs.take m)).length=((bs.map (·.2)).take m).sum:=by
    have g:∀ m,m<=bs.length->(Dq (bs.take m)).length=((bs.map (·.2)).take m).sum:=by
     intro m
     induction m with
     | zero=>intro _; simp [Dq]
     | succ m ih =>
      intro hm
      have hlt:m<bs.length:=by omega
      rw [Ff (List.getElem?_eq_getElem hlt),List.length_append,ih (by omega),List.length_map,List.length_range,List.take_add_one,List.getElem?_map,List.getElem?_eq_getElem hlt,List.sum_append]
      simp
    exact g m (by omega)
   by_cases hi:i<(Dq (bs.take m)).length
   ·rw [List.getElem?_append_left hi] at h
    exact ih (by omega) h
   ·rw [List.getElem?_append_right (by omega),List.getElem?_map] at h
    obtain ⟨e,he,q⟩:=Option.map_eq_some_iff.mp h
    have he':i - (Dq (bs.take m)).length<bs[m].2/\e=i - (Dq (bs.take m)).length:=by
     obtain ⟨h1,h2⟩:=List.getElem?_eq_some_iff.mp he
     rw [List.length_range] at h1
     rw [List.getElem_range] at h2
     exact ⟨h1,h2.symm⟩
    obtain ⟨q1,q2⟩:=Prod.mk.inj q
    subst q1 q2
    refine ⟨bs[m],hb,by omega,?_⟩
    rw [← hlen]
    omega
 intro i a n h
 refine key bs.length (Nat.le_refl _) ?_
 rw [List.take_length]
 exact h
theorem Ef (bs:List (Str × Nat)):(Dq bs).length=(bs.map (·.2)).sum:=by
 unfold Dq
 rw [List.length_flatMap]
 have:(bs.zipIdx.map fun p=>((List.range p.1.2).map fun e=>(p.2,e)).length)=bs.map (·.2):=by
  refine List.ext_getElem? fun i=>?_
  rw [List.getElem?_map,List.getElem?_map,List.getElem?_zipIdx]
  cases bs[i]? <;> simp
 rw [this]
end Og
namespace Og
open PySem L2
noncomputable def JR (bs:List (Str × Nat)) (j1 j2:Nat) (s:Int) (qd:Nat × Nat) (z2:Nat):V :=
 if qd.1=j1/\0<=(qd.2:Int)+s/\(qd.2:Int)+s<z2 then .int ((((bs.take j2).map (·.2)).sum:Nat)+((qd.2:Int)+s)) else .non
noncomputable def gl (bs:List (Str × Nat)):Kb->Nat->Option Nat
 | .cp j1 j2 s,i=>match (Dq bs)[i]?,bs[j2]? with
  | some qd,some b2=>match JR bs j1 j2 s qd b2.2 with
   | .int v=>some v.toNat
   | _=>none
  | _,_=>none
 | .pl _ _,_=>none
theorem KY (l:List Nat):∀ {a b:Nat},a<=b->(l.take a).sum<=(l.take b).sum:=by
 intro a b h
 have e:l.take a=(l.take b).take a:=by rw [List.take_take,Nat.min_eq_left h]
 rw [e]
 have:=congrArg List.sum (List.take_append_drop a (l.take b))
 rw [List.sum_append] at this
 omega
theorem QT {bs:List (Str × Nat)} {j1 j2 i:Nat} {s:Int} {qd:Nat × Nat} {b2:Str × Nat} (hq:(Dq bs)[i]? = some qd) (hb:bs[j2]? = some b2) :
  (JR bs j1 j2 s qd b2.2=.non/\gl bs (.cp j1 j2 s) i=none) \/ ∃ j:Nat,JR bs j1 j2 s qd b2.2=.int (j:Nat)/\gl bs (.cp j1 j2 s) i=some j/\j<(bs.map (·.2)).sum:=by
 have e:gl bs (.cp j1 j2 s) i=match JR bs j1 j2 s qd b2.2 with | .int v=>some v.toNat | _=>none:=by
  simp only [gl,hq,hb]
 rw [e]
 unfold JR
 by_cases h:qd.1=j1/\0<=(qd.2:Int)+s/\(qd.2:Int)+s<b2.2
 ·rw [if_pos h]
  obtain ⟨h1,h2,h3⟩:=h
  have hs:((bs.map (·.2)).take (j2+1)).sum=(((bs.take j2).map (·.2)).sum+b2.2):=by
   rw [List.take_add_one,List.getElem?_map,hb,List.sum_append,List.map_take]
   simp
  have hle:((bs.map (·.2)).take (j2+1)).sum<=(bs.map (·.2)).sum:=by
   have:=congrArg List.sum (List.take_append_drop (j2+1) (bs.map (·.2)))
   rw [List.sum_append] at this
   omega
  refine .inr ⟨((((bs.take j2).map (·.2)).sum:Nat)+((qd.2:Int)+s)).toNat,?_,rfl,by omega⟩
  rw [Int.toNat_of_nonneg (by omega)]
 ·rw [if_neg h]
  exact .inl ⟨rfl,rfl⟩
theorem Jk {bs:List (Str × Nat)} {z:Kb} {i j:Nat} (h:gl bs z i=some j):j<(bs.map (·.2)).sum:=by
 cases z with
 | pl w a=>cases h
 | cp j1 j2 s =>
  cases hq:(Dq bs)[i]? with
  | none =>
   simp only [gl,hq] at h
   cases h
  | some qd =>
   cases hb:bs[j2]? with
   | none =>
    simp only [gl,hq,hb] at h
    cases h
   | some b2 =>
    rcases QT (j1:=j1) (s:=s) hq hb with ⟨_,e⟩ | ⟨j',_,e,lt⟩
    ·rw [e] at h
     cases h
    ·rw [e] at h
     cases h
     exact lt
noncomputable abbrev Q3 (z:Kb):Bool:=decide (V.str z.w=V.str "coupler")
theorem Yz {bs:List (Str × Nat)} {z:Kb} {i j:Nat} (h:gl bs z i=some j):Q3 z=true:=by
 cases z with
 | pl w a=>cases h
 | cp j1 j2 s=>exact decide_eq_true rfl
theorem Rv {n:Nat} {z:Kb} (ho:z.ok n) (h:Q3 z=true):∃ i j s,z=.cp i j s:=by
 cases z with
 | cp i j s=>exact ⟨i,j,s,rfl⟩
 | pl w i =>
  exfalso
  have h':=V.str.inj (of_decide_eq_true h)
  rcases ho.2 with rfl | rfl
  ·exact absurd h' (by show ¬ ("mute" : Str) = "coupler"; decide +kernel)
  ·exact absurd h' (by show ¬ ("stop" : Str) = "coupler"; decide +kernel)
noncomputable def stp (bs:List (Str × Nat)) (kbs:List Kb) (D:Nat) (i j:Nat):Prop:=∃ k z,D.testBit k=true/\kbs[k]? = some z/\gl bs z i=some j
inductive Ke (st:Nat->Nat->Prop) (hd:Nat->Prop):Nat->Prop
 | one {i j:Nat}:hd i->st i j->Ke st hd j
 | more {i j:Nat}:Ke st hd i->st i j->Ke st hd j
theorem Ke.lt {bs:List (Str × Nat)} {kbs:List Kb} {D:Nat} {h:Nat->Prop} {j:Nat} (r:Ke (stp bs kbs D) h j):j<(bs.map (·.2)).sum:=by
 cases r with
 | one a b=>obtain ⟨k,z,_,_,e⟩:=b; exact Jk e
 | more a b=>obtain ⟨k,z,_,_,e⟩:=b; exact Jk e
theorem Ke.all {st:Nat->Nat->Prop} {hd:Nat->Prop} {W:Nat->Prop} (h1:∀ j,W j->Ke st hd j) (h2:∀ i,(hd i \/ W i)->∀ j,st i j->W j) (j:Nat):W j ↔ Ke st hd j:=by
 refine ⟨h1 j,fun h=>?_⟩
 induction h with
 | one a b=>exact h2 _ (.inl a) _ b
 | more a b ih=>exact h2 _ (.inr ih) _ b
theorem HR:∀ (T:Nat) {l:List Nat},l.Nodup->(∀ x∈l,x<T)->l.length<=T
 | 0,l,_,h=>by
  cases l with
  | nil=>exact Nat.le_refl _
  | cons a l=>exact absurd (h a (List.mem_cons_self ..)) (Nat.not_lt_zero _)
 | T+1,l,nd,h=>by
  have ih:=HR T (l:=l.erase T) (nd.erase T) fun x hx=>by
   have h1:=h x (List.mem_of_mem_erase hx)
   have h2:x ≠ T:=fun z=>by
    subst z
    exact nd.not_mem_erase hx
   omega
  have:=List.length_erase (a:=T) (l:=l)
  split at this <;> omega
theorem Uo (a b i:Nat):(a ||| b).testBit i=true ↔ a.testBit i=true \/ b.testBit i=true:=by
 rw [Nat.testBit_or,Bool.or_eq_true]
theorem Rq {a b:Nat} (h:∀ i,a.testBit i=true ↔ b.testBit i=true):a=b:=Nat.eq_of_testBit_eq fun i=>Bool.eq_iff_iff.mpr (h i)
end Og
namespace Og
open PySem L2 PyProof.Rows
noncomputable abbrev Th:=Str × Nat × List V
noncomputable abbrev tV (a:Th):List V:=.str a.1 :: .int (a.2.1:Nat)::a.2.2
noncomputable abbrev tN (a:Th):Str × Nat:=(a.1,a.2.1)
noncomputable abbrev Qh (r:Str × Nat × Int):Th:=(r.1,r.2.1,[.int r.2.2])
noncomputable abbrev V8 (b:Str × Nat):Th:=(b.1,b.2,[])
noncomputable abbrev VD (r:Str × Nat × Int):Str × Nat:=(r.1,r.2.1)
noncomputable abbrev G6 (r:Str × Nat × Int):R:=⟨"rank",r.1,[.int (r.2.1:Nat),.int r.2.2]⟩
structure Ln where
 r:Nat
 sh:Int
 lo:Int
 hi:Int
noncomputable abbrev Xm (l:Ln):List V:=[.int (l.r:Nat),.int l.sh,.int l.lo,.int l.hi]
noncomputable def Gq (H:Hp) (l:List Ln) (v:V):Prop:=∃ (A:Addr) (ts:List V),v=.ref A/\H A=some (.lst ts)/\Paired (fun x y=>TupAt H (Xm x) y) l ts
noncomputable def Ex (H:Hp) (D:Addr) (ls:List (List Ln)):Prop:=∃ lv,H D=some (.lst lv)/\Paired (fun l v=>Gq H l v) ls lv
theorem Gq.mono {H H':Hp} {l:List Ln} {v:V} (s:Al H H') (h:Gq H l v):Gq H' l v:=by
 obtain ⟨A,ts,e,h1,h2⟩:=h
 exact ⟨A,ts,e,s _ _ h1,Ai s h2⟩
theorem Ex.mono {H H':Hp} {D:Addr} {ls:List (List Ln)} (s:Al H H') (h:Ex H D ls):Ex H' D ls:=by
 obtain ⟨lv,h1,h2⟩:=h
 exact ⟨lv,s _ _ h1,Paired.Hv h2 fun _ _ q=>q.mono s⟩
structure Cw (C:Addr) (H:Hp) (x:Addr) (bs:List (Str × Nat)) (rk:List (Str × Nat × Int)) (ks:List R) (ls:List (List Ln)):Prop where
 o:Cr C H x bs ks
 r:∃ (dx:Addr) (fs:List (Str × V)) (rl rn pp kl:Addr) (rvs pvs:List V) (kvs:List (Key × V)),H x=some (.ins C dx fs)/\fs.lookup ("rank_list" : Str)=some (.ref rl)/\fs.lookup ("rank_numbers" : Str)=some (.ref rn)/\fs.lookup ("pipe_places" : Str)=some (.ref pp)/\fs.lookup ("knob_lines" : Str)=some (.ref kl) /\
  H rl=some (.lst rvs)/\Paired (fun (a:Th) y=>TupAt H (tV a) y) (rk.map Qh) rvs/\H rn=some (.dK kvs)/\(∀ (i:Nat) r,rk[i]? = some r->CZ kvs (Sum.inr r.1)=some (.int (i:Nat))) /\
  H pp=some (.lst pvs)/\Paired (fun q y=>TupAt H (qV q) y) (Dq (rk.map VD)) pvs/\Ex H kl ls
 nr:rk.length<=12
 nz:∀ r∈rk,r.2.1<=97
 nl:ls.length=ks.length
theorem Cw.mono {C:Addr} {H H':Hp} {x:Addr} {bs:List (Str × Nat)} {rk:List (Str × Nat × Int)} {ks:List R} {ls:List (List Ln)} (s:Al H H') (h:Cw C H x bs rk ks ls):Cw C H' x bs rk ks ls:=by
 obtain ⟨o,⟨dx,fs,rl,rn,pp,kl,rvs,pvs,kvs,h1,l1,l2,l3,l4,h2,h3,h4,h5,h6,h7,h8⟩,a,b,c⟩:=h
 exact ⟨o.mono s,⟨dx,fs,rl,rn,pp,kl,rvs,pvs,kvs,s _ _ h1,l1,l2,l3,l4,s _ _ h2,Ai s h3,s _ _ h4,h5,s _ _ h6,Ai s h7,h8.mono s⟩,a,b,c⟩
structure Tj (ρ:V->R) (us:List V) (i:Nat):Prop where
 all:∀ j,j<i->∃ v,us[us.length - 1 - j]? = some v/\(ρ v).w = "line"
 lt:i<us.length
 no:∃ v,us[us.length - 1 - i]? = some v/\¬ (ρ v).w = "line"
noncomputable def Vq (r:R):Int:=match r.rest with
 | [.int m]=>m
 | _=>0
noncomputable abbrev keyOf (ρ:V->R) (us:List V) (bd:Str) (n:Int):Bool:=(us.filter (pw ρ "board")).any fun v=>pn ρ bd v && decide (n<Vq (ρ v))
structure Lz (ρ:V->R) (us:List V) (ro:R):Prop where
 ex:∃ (cnt:Nat) (v:V) (sh lo hi:Int) (bd:Str) (rs:List V),ro.rest=[.int sh,.int lo,.int hi]/\Tj ρ us cnt/\cnt<4/\us[us.length - 1 - cnt]? = some v/\(ρ v).w = "stop" /\ (ρ v).rest=.str bd::rs/\lo<=hi/\keyOf ρ us bd hi=true
noncomputable abbrev Ed (ρ:V->R) (us:List V):Prop:=∀ v∈us,(ρ v).w = "board"->∃ m,(ρ v).rest=[.int m]
structure Fp (K:PySem.W.Frag) (aB aP aM:Addr) (ρ:V->R) (vs:List V) (r:R):Prop where
 ns:¬ r.w = "step"
 parts:∃ (ap:Addr) (ps:List Str),PySem.W.nsIn K aP r.w=some (some (.ref ap))/\KTup K ap (ps.map V.str)/\(V.str r.nm::r.rest).length=ps.length/\ps.length<=10 /\
  ∀ (i:Nat) x y,(V.str r.nm::r.rest)[i]? = some x->ps[i]? = some y->Gd K aB ρ vs x y
 room:(r.w = "line" /\ PySem.W.nsIn K aM r.w=some none) \/ ∃ (m:Int) (t:Tok),PySem.W.nsIn K aM r.w=some (some (.int m t))/\(((vs.filter (pw ρ r.w)).length:Nat):Int)<m
 line:r.w = "line"->Lz ρ vs r
 V4:Ed ρ vs
noncomputable def lnOf (rk:List (Str × Nat × Int)) (r:R):Ln:=match r.rest with
 | [.int sh,.int lo,.int hi]=>⟨(rk.map (·.1)).idxOf r.nm,sh,lo,hi⟩
 | _=>⟨0,0,0,0⟩
noncomputable def putL (acc:List (List Ln)) (l:Ln):List (List Ln):=match acc.getLast? with
 | some z=>acc.dropLast++[z++[l]]
 | none=>[]
noncomputable def Eh (rk:List (Str × Nat × Int)) (acc:List (List Ln)) (r:R):List (List Ln):=if Gx r.w=true then acc++[[]] else if r.w = "line" then putL acc (lnOf rk r) else acc
noncomputable def linesOf (rk:List (Str × Nat × Int)) (rs:List R):List (List Ln):=rs.foldl (Eh rk) []
theorem Br (rk:List (Str × Nat × Int)) (rs:List R) (r:R):linesOf rk (rs++[r])=Eh rk (linesOf rk rs) r:=by
 unfold linesOf
 rw [List.foldl_append]
 rfl
theorem GF (acc:List (List Ln)) (z:List Ln) (l:Ln):putL (acc++[z]) l=acc++[z++[l]]:=by
 unfold putL
 rw [List.getLast?_concat,List.dropLast_concat]
structure Zn (K:PySem.W.Frag) (aB aP aM:Addr) (ρ:V->R) (us:List V) (bs:List (Str × Nat)) (rk:List (Str × Nat × Int)) (ks:List R):Prop where
 kinds:∀ v∈us,(ρ v).w = "board" \/ (ρ v).w = "rank" \/ (ρ v).w = "line" \/ (ρ v).w = "stop" \/ (ρ v).w = "coupler" \/ (ρ v).w = "mute"
 eb:(us.filter (pw ρ "board")).map ρ=bs.map Gg
 er:(us.filter (pw ρ "rank")).map ρ=rk.map G6
 ek:(us.filter (fun v=>Gx (ρ v).w)).map ρ=ks
 ln:∀ (i:Nat) v,us[i]? = some v->(ρ v).w = "line"->(∃ (j:Nat) (r:Str × Nat × Int) (sh lo hi:Int),rk[j]? = some r/\r.1=(ρ v).nm/\(ρ v).rest=[.int sh,.int lo,.int hi])/\∃ u∈us.take i,Gx (ρ u).w=true
 b0:1<=bs.length
 b5:bs.length<=5
 sz:∀ b∈bs,b.2<=61
 nr:rk.length<=12
 nz:∀ r∈rk,r.2.1<=97
 nk:ks.length<=100
 nb:(bs.map (·.1)).Nodup
 nrr:(rk.map (·.1)).Nodup
 nn:(ks.map (·.nm)).Nodup
 len:us.length<=150
 ok:∀ (i:Nat) v,us[i]? = some v->Fp K aB aP aM ρ (us.take i) (ρ v)
theorem Zn.none {K:PySem.W.Frag} {aB aP aM:Addr} {ρ:V->R} {us:List V} {bs:List (Str × Nat)} {rk:List (Str × Nat × Int)} {ks:List R} (h:Zn K aB aP aM ρ us bs rk ks):us.filter (pw ρ "step")=[]:=by
 refine List.filter_eq_nil_iff.mpr fun v hv=>?_
 unfold pw
 rcases h.kinds v hv with e | e | e | e | e | e <;> rw [e] <;> decide +kernel
end Og
namespace Og
open PySem L2
noncomputable abbrev Pt:=Nat × Nat
noncomputable def gB (nx:Pt->Option Pt) (p0:Pt) (ps:List Pt):Prop:=∀ (i:Nat) (p q:Pt),(p0::ps)[i]? = some p->(p0::ps)[i+1]? = some q->nx p=some q
noncomputable def fC (s0 s1 b:Nat):Nat:=if b=0 then s0 else s1
noncomputable def enc (s0:Nat) (p:Pt):Nat:=p.1 * s0+p.2
noncomputable abbrev Way:=Option (Nat × Int)
noncomputable def wy (w0 w1:Way) (b:Nat):Way:=if b=0 then w0 else w1
noncomputable def nxt (s0 s1:Nat) (w0 w1:Way) (p:Pt):Option Pt:=match wy w0 w1 p.1 with
 | none=>none
 | some (g,s)=>if 0<=(p.2:Int)+s/\(p.2:Int)+s<(fC s0 s1 g:Nat) then some (g,((p.2:Int)+s).toNat) else none
structure fj (s0 s1:Nat) (p:Pt):Prop where
 b:p.1<2
 n:p.2<fC s0 s1 p.1
structure gA (kbs:List Kb) (D:Nat) (w0 w1:Way):Prop where
 out:∀ k z,D.testBit k=true->kbs[k]? = some z->∃ j1 j2 s,z=.cp j1 j2 s/\wy w0 w1 j1=some (j2,s)/\j2<2
 back:∀ b g s,b<2->wy w0 w1 b=some (g,s)->∃ k,D.testBit k=true/\kbs[k]? = some (.cp b g s)
end Og
namespace Og
open PySem L2
inductive Vd (nx:Pt->Option Pt) (hd:Pt->Prop):Pt->Prop
 | one {p q:Pt}:hd p->nx p=some q->Vd nx hd q
 | more {p q:Pt}:Vd nx hd p->nx p=some q->Vd nx hd q
structure fX (kbs:List Kb) (D:Nat) (w0 w1:Way):Prop where
 out:∀ (k:Nat) (z:Kb),D.testBit k=true->kbs[k]? = some z->(∃ w i,z=.pl w i) \/ ∃ j1 j2 s,z=.cp j1 j2 s/\wy w0 w1 j1=some (j2,s)/\j2<2
 back:∀ b g s,b<2->wy w0 w1 b=some (g,s)->∃ k:Nat,D.testBit k=true/\kbs[k]? = some (.cp b g s)
end Og
namespace L2
open PySem PySem.Spec PySem.Calls PyProof.Rows
section
variable {X:Cx}
end
end L2
namespace L2
open PySem PySem.Spec PySem.Calls PyProof.Rows
section
variable {X:Cx}
theorem Pz (hu:X.A.units<cLine):GD X (compareOp .NotEq) (fun x y H Q=>∃ p q xs,x=V.ref p/\y=V.ref q/\Ci X.K H p xs/\Ci X.K H q []/\Q (.bl (!xs.isEmpty)) H):=by
 intro pins s σ H x y v u Q I rx ry h
 obtain ⟨p,q,xs,rfl,rfl,hp,hq,k⟩:=h
 cases rx
 cases ry
 obtain ⟨its,r,pl,hz⟩:=I.list hp
 obtain ⟨its2,r2,pl2,hz2⟩:=I.list hq
 have l1:=r.length
 cases r2
 cases xs with
 | nil =>
  cases r
  refine SeqAt.RcNeAt.lists (e:=fun _=>true) pl.isList pl2.isList rfl hu (fun j h1 h2=>?_) _ _ _ _ ⟨.bl _,H,I,rfl,k⟩
  exact absurd h1 (Nat.not_lt_zero _)
 | cons a b =>
  refine SeqAt.RcNeAt.lists_lengths pl.isList pl2.isList (by simp; intro z; rw [z] at l1; simp at l1) hu _ _ _ _ ⟨.bl _,H,I,rfl,k⟩
end
end L2
namespace Og
noncomputable def Ww (st:Nat->Nat->Prop):Nat->Nat->Nat->Prop
 | 0,i,j=>st i j
 | w+1,i,j=>Ww st w i j \/ (Ww st w i w/\Ww st w w j)
theorem Ww.up {st:Nat->Nat->Prop} {i j:Nat} (h:st i j):∀ w,Ww st w i j
 | 0=>h
 | w+1=>.inl (Ww.up h w)
theorem Ww.to {st:Nat->Nat->Prop} {w j:Nat}:Ww st (w+1) w j ↔ Ww st w w j:=by
 constructor
 ·rintro (h | ⟨_,h⟩) <;> exact h
 ·exact .inl
theorem Ww.at {st:Nat->Nat->Prop} {w i:Nat}:Ww st (w+1) i w ↔ Ww st w i w:=by
 constructor
 ·rintro (h | ⟨h,_⟩) <;> exact h
 ·exact .inl
theorem Ww.tr {st:Nat->Nat->Prop}:∀ (w:Nat) {i k j:Nat},k<w->Ww st w i k->Ww st w k j->Ww st w i j
 | w+1,i,k,j,hk,h1,h2=>by
  by_cases e:k=w
  ·subst e
   exact .inr ⟨Ww.at.mp h1,Ww.to.mp h2⟩
  have hk':k<w:=by omega
  rcases h1 with a | ⟨a1,a2⟩ <;> rcases h2 with b | ⟨b1,b2⟩
  ·exact .inl (Ww.tr w hk' a b)
  ·exact .inr ⟨Ww.tr w hk' a b1,b2⟩
  ·exact .inr ⟨a1,Ww.tr w hk' a2 b⟩
  ·exact .inr ⟨a1,b2⟩
theorem Ww.sound {st:Nat->Nat->Prop}:∀ (w:Nat) {i j:Nat} {hd:Nat->Prop},Ww st w i j->(hd i \/ Ke st hd i)->Ke st hd j
 | 0,i,j,hd,h,a=>by
  rcases a with a | a
  ·exact .one a h
  ·exact .more a h
 | w+1,i,j,hd,h,a=>by
  rcases h with h | ⟨h1,h2⟩
  ·exact Ww.sound w h a
  ·exact Ww.sound w h2 (.inr (Ww.sound w h1 a))
theorem Ww.bh {st:Nat->Nat->Prop} {n i j:Nat} (hn:∀ a b,st a b->b<n):Ww st n i j ↔ Ke st (fun a=>a=i) j:=by
 constructor
 ·exact fun h=>Ww.sound n h (.inl rfl)
 ·intro h
  induction h with
  | one a b=>rw [← a]; exact Ww.up b n
  | more a b ih =>
   have hk:∀ {x},Ke st (fun a=>a=i) x->x<n:=fun r=>by
    cases r with
    | one _ b=>exact hn _ _ b
    | more _ b=>exact hn _ _ b
   exact Ww.tr n (hk a) ih (Ww.up b n)
end Og
namespace L2
open PySem PySem.Spec PyProof.Rows
section
variable {X:Cx}
end
end L2
namespace L2
open PySem PySem.Spec PyProof.Rows
section
variable {σ:St} {H1:Hp} {Q:VK} {tt:TT} {te:TE}
end
end L2
namespace L2
open PySem PySem.Spec PyProof.Rows
section
variable {X:Cx} {pins:List (Addr × Obj)} {σ:St} {H:Hp} {s:Shared}
end
section
variable {X:Cx}
end
end L2
namespace L2
open PySem PySem.Spec PySem.Calls PyProof.Rows
structure Mv (fs:List Addr) (x T:Addr) (h h':Heap):Prop where
 keep:∀ b o,h.get? b=some o->b ≠ x->b ≠ T->b ∉ fs->h'.get? b=some o
 any:∀ b o,h.get? b=some o->b ≠ x->b ≠ T->∃ sl,h'.get? b=some { o with slots:=sl }
section
variable {M:Model} {A:Around} {E:Value->Shared->Prop} {s:Shared} {base:Heap} {env:Env} {outer:List Env} {L x T C:Addr} {od:Option Addr} {Q:Unit->Shared->Prop}
end
section
variable {P:Program} {w:World} {fs:List Addr} {H H':Hp} {h h1 h2 h3:Heap} {x T T':Addr}
end
section
variable {X:Cx} {C:Addr} {x:Str} {e:Expr} {es:List Expr} {t:TA} {np cpos pos:Pos} {E:XK}
end
section
variable {X:Cx} {pins:List (Addr × Obj)} {σ:St} {H:Hp} {s:Shared}
end
noncomputable def Ends.drop (D:Ends) (i:Nat):Ends:={ nx:=fun σ H=>D.nx (σ.set i none) H,rt:=D.rt,bk:=fun σ H=>D.bk (σ.set i none) H,ct:=fun σ H=>D.ct (σ.set i none) H }
section
variable {X:Cx} {k i:Nat} {f O:Addr} {fd:FuncData} {ps:List Str} {sp:Sp} {dvs:List V} {ds:List Value} {fx cn n:Str} {p np cpos epos hpos pos:Pos} {e:Expr} {es:List Expr} {t:TA} {b0:Stmt} {suite:List Stmt} {ts:TS}
end
structure ZS (k:Nat) (A:Around):Prop where
 dp:A.depth+3 * k+5<recursionLimit
 un:A.units+16 * k+200<cLine
structure fH (P:Program) (w:World) (K:PySem.W.Frag) (mg:Str->Option Value) (base:Heap) (CX:Oc) (k:Nat) (f:Addr) (fd:FuncData) (ps:List Str) (sp:Sp):Prop where
 len:∀ vs H Q E,sp vs H Q E->vs.length=ps.length
 run:∀ (A:Around) (outer:List Env) (s:Shared) (H:Hp) (args:Args) (us:List Value) (vs:List V) (Q:VK) (E:XK),ZS k A->Kq P w K mg base A outer s H->BindsTo s fd args (ps.zip us)->Vals vs us->sp vs H Q E ->
  codeAny (model P w) A (.call (.ref f) args) (CR CX outer P w H s Q E) s
section
variable {P:Program} {w:World} {K:PySem.W.Frag} {mg:Str->Option Value} {base:Heap}
end
section
variable {X:Cx} {CX:Oc} {k:Nat} {f:Addr} {fd:FuncData} {ps:List Str} {sp:Sp} {dvs:List V} {ds:List Value} {E:XK} {x:Str} {p pos:Pos} {e:Expr} {es:List Expr} {t:TA}
end
end L2
namespace L2
open PySem PySem.Spec PySem.Calls PyProof.Rows
end L2
namespace L2
open PySem PySem.Spec PySem.Calls PyProof.Rows
noncomputable def Y8 (td ty tv:TE):TS:=fun D σ H=>tv σ H fun v H1=>td σ H1 fun x H2=>ty σ H2 fun y H3=>∃ a xs,∃ k:Int,x=.ref a/\y=.int k/\H3 a=some (.lst xs)/\0<=k/\k<xs.length/\k<2 ^ 62/\D.nx σ (upd H3 a (.lst (xs.set k.toNat v)))
section
variable {X:Cx} {o i value:Expr} {td ty tv:TE} {pos pos':Pos}
theorem TQ (ho:PE X o td) (hi:PE X i ty) (hv:PE X value tv) (hs:swapsWith value (some (.Subscript o i pos')) pos.line X.env=pure false):PS X (.Assign [.Subscript o i pos'] value pos) (Y8 td ty tv):=by
 intro pins s σ H D I h
 refine wpAny_Assign_Subscript (Bo (hv pins s σ H _ I h) fun r s1 ⟨v,H1,I1,rv,q1⟩=>Bo (ho pins s1 σ H1 _ I1 q1) fun u s2 ⟨x,H2,I2,rx,q2⟩=>Bo (hi pins s2 σ H2 _ I2 q2) fun iv s3 ⟨y,H3,I3,ry,a,xs,k,ex,ey,ha,k0,k1,k2,q3⟩=>?_) hs
 subst ex ey
 cases rx
 obtain ⟨t,rfl⟩:=ry
 obtain ⟨z,its,n,w,hl,e⟩:=I3.Sh ha
 refine PySem.W.ki_setAt (n:=n) e k0 (by omega) (by rw [List.size_toArray]; omega) ⟨σ,_,I3.U7 (its':=its.set k.toNat r) (t':=s3.toks) ha e (by simp) (w.set rv _) (by rw [List.length_set]; exact z),q3⟩
end
section
variable {X:Cx} {k i:Nat} {f O:Addr} {fd:FuncData} {ps:List Str} {sp:Sp} {dvs:List V} {ds:List Value} {fx cn n:Str} {p np cpos epos hpos pos:Pos} {e:Expr} {es:List Expr} {t:TA} {b0:Stmt} {suite:List Stmt} {ts:TS}
end
end L2
namespace L2
open PySem PySem.Spec PySem.Calls PyProof.Rows
section
variable {X:Cx} {pins:List (Addr × Obj)} {σ:St} {H:Hp} {s:Shared}
theorem Inv.freeze {a:Addr} {kvs:List (Key × V)} (I:Inv X pins σ H s) (e:H a=some (.dK kvs)):∃ o,Inv X pins σ (upd H a (.frz o (.dK kvs))) s:=by
 have oa:Bt X.prog X.w H s.heap a (.dK kvs):=I.hok a _ e
 obtain ⟨_,_,vs,rel,ob,es,ep,ho,_⟩:=id oa
 have up1:∀ b x,H b=some (.own x)->upd H a (.frz ob (.dK kvs)) b=some (.own x):=fun b x q=>by
  rw [Av fun z=>by rw [z,e] at q; cases q]; exact q
 have up2:∀ b xs,H b=some (.tup xs)->upd H a (.frz ob (.dK kvs)) b=some (.tup xs):=fun b x q=>by
  rw [Av fun z=>by rw [z,e] at q; cases q]; exact q
 refine ⟨ob,I.step (h':=s.heap) (g':=s.gens) (d':=s.drawn) (t':=s.toks) (ch:=[]) (fun _ z=>nomatch z) (fun b o _ _ _ q _=>q) (fun b o _ _ _ q _=>⟨o.slots,q⟩) (fun b o _ _ n=>?_) (fun b o _ q=>⟨o,q⟩) up2 (fun b o u q=>?_) (fun b ps q=>⟨#[],?_⟩) (fun m q=>q) (fun b u q=>?_) I.bare⟩
 ·rw [Av fun z=>by rw [z,e] at n; cases n]; exact n
 ·rw [Av fun z=>by rw [z,e] at q; cases q]; exact q
 ·rw [Av (fun z=>by rw [z,e] at q; cases q),q]; simp
 ·by_cases hb:b=a
  ·subst hb
   rw [Ah] at q
   cases q
   exact ⟨ho,oa.stay (fun _ _ _ q=>q) (fun c q=>up1 c _ q) up2⟩
  ·rw [Av hb] at q
   exact (I.hok b u q).stay (fun _ _ _ q=>q) (fun c q=>up1 c _ q) up2
end
noncomputable def fW (t:TS):TS:=fun D σ H=>t { D with nx:=fun σ' H'=>∃ a kvs,H' a=some (.dK kvs)/\∀ o,D.nx σ' (upd H' a (.frz o (.dK kvs))) } σ H
theorem V3 {X:Cx} {ss:List Stmt} {t:TS} (h:Lh X ss t):Lh X ss (fW t):=by
 intro pins s σ H D I q
 refine Bo (h pins s σ H _ I q) fun f s' hf=>?_
 cases f with
 | next =>
  obtain ⟨σ',H',J,a,kvs,e,qq⟩:=hf
  obtain ⟨o,J'⟩:=J.freeze e
  exact ⟨σ',_,J',qq o⟩
 | brk=>exact hf
 | cont=>exact hf
 | ret u=>exact hf
section
variable {σ:St} {H1:Hp} {Q:VK} {tt:TT} {te:TE}
end
end L2
namespace Og
open PySem L2 PyProof.Rows
variable {K:PySem.W.Frag}
structure Mz (K:PySem.W.Frag) (aB aP aM:Addr):Prop where
 f:KF K aB aP aM
 pR:∃ a,PySem.W.nsIn K aP "rank" = some (some (.ref a))/\KTup K a (["new","pipes","wind"].map fun s:String=>V.str s)
 pL:∃ a,PySem.W.nsIn K aP "line" = some (some (.ref a))/\KTup K a (["rank","shift","low","high"].map fun s:String=>V.str s)
 bP:∃ a,PySem.W.nsIn K aB "pipes" = some (some (.ref a))/\KTup K a [.int 1,.int 97]
 bW:∃ a,PySem.W.nsIn K aB "wind" = some (some (.ref a))/\KTup K a [.int 0,.int 1000000000]
 bS:∃ a,PySem.W.nsIn K aB "shift" = some (some (.ref a))/\KTup K a [.int (-200),.int 200]
 bLo:∃ a,PySem.W.nsIn K aB "low" = some (some (.ref a))/\KTup K a [.int 0,.int 60]
 bHi:∃ a,PySem.W.nsIn K aB "high" = some (some (.ref a))/\KTup K a [.int 0,.int 60]
 bR:PySem.W.nsIn K aB "rank" = some none
 mR:∃ t,PySem.W.nsIn K aM "rank" = some (some (.int 12 t))
 mL:PySem.W.nsIn K aM "line" = some none
section
variable {aB aP aM:Addr} {ρ:V->R} {vs:List V} {wn:List (Str × Str)} {t:Str}
theorem Mr {r:R} (h:Ja K aB aP aM ρ vs r) (hb:Ed ρ vs):Fp K aB aP aM ρ vs r:=⟨h.ns,h.parts,.inr h.room,fun z=>absurd z h.nl,hb⟩
theorem Ny (F:KF K aB aP aM) {wd:Str} (hw:wd = "stop" \/ wd = "mute") (e:Fz ρ vs=wn) (ht:isNm t) (h:∀ w∈named,NB wn w t=false) (hc:Pj wn wd<Fg wd) {a:Str} (ha:isNm a) (ha':NB wn "board" a=true):Ja K aB aP aM ρ vs ⟨wd,t,[.str a]⟩:=by
 have parts:∀ (j:Nat) x (y:Str),[V.str t,.str a][j]? = some x->(["new","board"]:List Str)[j]? = some y->Gd K aB ρ vs x y:=fun j x y hx hy=>by
  match j,hx,hy with
  | 0,hx,hy =>
   cases (Option.some.inj hx)
   cases (Option.some.inj hy)
   exact G_ F e ht h
  | 1,hx,hy =>
   cases (Option.some.inj hx)
   cases (Option.some.inj hy)
   exact Gr F e ha ha'
  | j+2,hx,hy=>simp at hy
 have hcnt:=Gj ρ vs wd
 rw [e] at hcnt
 rcases hw with rfl | rfl
 ·obtain ⟨ap,g1,g2⟩:=F.pS
  obtain ⟨tk,g5⟩:=F.mS
  have hm:Fg "stop" = 24:=by decide +kernel
  refine ⟨by show ¬ ("stop" : Str) = "step"; decide +kernel,by show ¬ ("stop" : Str) = "line"; decide +kernel,⟨ap,["new","board"],g1,g2,rfl,by decide,parts⟩,⟨24,tk,g5,?_⟩⟩
  show (((vs.filter (pw ρ "stop")).length:Nat):Int)<24
  omega
 ·obtain ⟨ap,g1,g2⟩:=F.pM
  obtain ⟨tk,g5⟩:=F.mM
  have hm:Fg "mute" = 5:=by decide +kernel
  refine ⟨by show ¬ ("mute" : Str) = "step"; decide +kernel,by show ¬ ("mute" : Str) = "line"; decide +kernel,⟨ap,["new","board"],g1,g2,rfl,by decide,parts⟩,⟨5,tk,g5,?_⟩⟩
  show (((vs.filter (pw ρ "mute")).length:Nat):Int)<5
  omega
theorem N_ (F:Mz K aB aP aM) (e:Fz ρ vs=wn) (ht:isNm t) (h:∀ w∈named,NB wn w t=false) (hc:Pj wn "rank" < 12) {n:Nat} {wi:Int} (h1:1<=n) (h2:n<=97) (h3:0<=wi) (h4:wi<=1000000000) (hb:Ed ρ vs):Fp K aB aP aM ρ vs (G6 (t,n,wi)):=by
 obtain ⟨ap,g1,g2⟩:=F.pR
 obtain ⟨ab,g3,g4⟩:=F.bP
 obtain ⟨aw,g6,g7⟩:=F.bW
 obtain ⟨tk,g5⟩:=F.mR
 refine ⟨by show ¬ ("rank" : Str) = "step"; decide +kernel,⟨ap,["new","pipes","wind"],g1,g2,rfl,by decide,fun j x y hx hy=>?_⟩,.inr ⟨12,tk,g5,?_⟩,fun z=>absurd z (by show ¬ ("rank" : Str) = "line"; decide +kernel),hb⟩
 ·match j,hx,hy with
  | 0,hx,hy =>
   cases (Option.some.inj hx)
   cases (Option.some.inj hy)
   exact G_ F.f e ht h
  | 1,hx,hy =>
   cases (Option.some.inj hx)
   cases (Option.some.inj hy)
   exact .inl ⟨((n:Nat):Int),1,97,ab,rfl,g3,g4,by omega,by omega⟩
  | 2,hx,hy =>
   cases (Option.some.inj hx)
   cases (Option.some.inj hy)
   exact .inl ⟨_,0,1000000000,aw,rfl,g6,g7,h3,h4⟩
  | j+3,hx,hy=>simp at hy
 ·rw [Gj,e]
  show ((Pj wn "rank" : Nat):Int)<12
  omega
theorem Np (F:Mz K aB aP aM) (e:Fz ρ vs=wn) (ht:isNm t) (h:NB wn "rank" t=true) {sh lo hi:Int} (b1 : -200<=sh) (b2:sh<=200) (b3:0<=lo) (b4:lo<=60) (b5:0<=hi) (b6:hi<=60) (hb:Ed ρ vs) (hl:Lz ρ vs ⟨"line",t,[.int sh,.int lo,.int hi]⟩):Fp K aB aP aM ρ vs ⟨"line",t,[.int sh,.int lo,.int hi]⟩:=by
 obtain ⟨ap,g1,g2⟩:=F.pL
 obtain ⟨a1,g3,g4⟩:=F.bS
 obtain ⟨a2,g5,g6⟩:=F.bLo
 obtain ⟨a3,g7,g8⟩:=F.bHi
 refine ⟨by show ¬ ("line" : Str) = "step"; decide +kernel,⟨ap,["rank","shift","low","high"],g1,g2,rfl,by decide,fun j x y hx hy=>?_⟩,.inl ⟨rfl,F.mL⟩,fun _=>hl,hb⟩
 match j,hx,hy with
 | 0,hx,hy =>
  cases (Option.some.inj hx)
  cases (Option.some.inj hy)
  exact .inr (.inr ⟨F.bR,by decide +kernel,_,rfl,ht,by rw [Hj,e]; exact h⟩)
 | 1,hx,hy =>
  cases (Option.some.inj hx)
  cases (Option.some.inj hy)
  exact .inl ⟨_,-200,200,a1,rfl,g3,g4,b1,b2⟩
 | 2,hx,hy =>
  cases (Option.some.inj hx)
  cases (Option.some.inj hy)
  exact .inl ⟨_,0,60,a2,rfl,g5,g6,b3,b4⟩
 | 3,hx,hy =>
  cases (Option.some.inj hx)
  cases (Option.some.inj hy)
  exact .inl ⟨_,0,60,a3,rfl,g7,g8,b5,b6⟩
 | j+4,hx,hy=>simp at hy
end
structure Gm (K:PySem.W.Frag) (aB aP aM:Addr) (ρ:V->R) (us:List V) (bs:List (Str × Nat)) (rk:List (Str × Nat × Int)) (ks:List R):Prop where
 kinds:∀ v∈us,(ρ v).w = "board" \/ (ρ v).w = "rank" \/ (ρ v).w = "line" \/ (ρ v).w = "stop" \/ (ρ v).w = "coupler" \/ (ρ v).w = "mute"
 eb:(us.filter (pw ρ "board")).map ρ=bs.map Gg
 er:(us.filter (pw ρ "rank")).map ρ=rk.map G6
 ek:(us.filter (fun v=>Gx (ρ v).w)).map ρ=ks
 ln:∀ (i:Nat) v,us[i]? = some v->(ρ v).w = "line"->(∃ (j:Nat) (r:Str × Nat × Int) (sh lo hi:Int),rk[j]? = some r/\r.1=(ρ v).nm/\(ρ v).rest=[.int sh,.int lo,.int hi])/\∃ u∈us.take i,Gx (ρ u).w=true
 ok:∀ (i:Nat) v,us[i]? = some v->Fp K aB aP aM ρ (us.take i) (ρ v)
section
variable {aB aP aM:Addr} {ρ:V->R} {us:List V} {v:V} {bs bs':List (Str × Nat)} {rk rk':List (Str × Nat × Int)} {ks ks':List R}
theorem J5 {w t:Str}:TV ρ us w t=true ↔ ∃ v∈us,(ρ v).w=w/\(ρ v).nm=t:=by
 unfold TV
 rw [List.any_eq_true]
 constructor
 ·rintro ⟨v,hv,hn⟩
  obtain ⟨h1,h2⟩:=List.mem_filter.mp hv
  exact ⟨v,h1,V.str.inj (of_decide_eq_true h2),V.str.inj (of_decide_eq_true hn)⟩
 ·rintro ⟨v,hv,h1,h2⟩
  exact ⟨v,List.mem_filter.mpr ⟨hv,decide_eq_true (congrArg V.str h1)⟩,decide_eq_true (congrArg V.str h2)⟩
theorem Gm.nil:Gm K aB aP aM ρ [] [] [] []:=⟨(fun _ h=>nomatch h),rfl,rfl,rfl,(fun i v h=>by simp at h),(fun i v h=>by simp at h)⟩
theorem Gm.UT (h:Gm K aB aP aM ρ us bs rk ks) (hv:v∈us) (hw:(ρ v).w = "board"):∃ b∈bs,Gg b=ρ v:=by
 have:ρ v∈(us.filter (pw ρ "board")).map ρ:=List.mem_map_of_mem (List.mem_filter.mpr ⟨hv,decide_eq_true (congrArg V.str hw)⟩)
 rw [h.eb] at this
 exact List.mem_map.mp this
theorem Gm.WL (h:Gm K aB aP aM ρ us bs rk ks) (hv:v∈us) (hw:(ρ v).w = "rank"):∃ b∈rk,G6 b=ρ v:=by
 have:ρ v∈(us.filter (pw ρ "rank")).map ρ:=List.mem_map_of_mem (List.mem_filter.mpr ⟨hv,decide_eq_true (congrArg V.str hw)⟩)
 rw [h.er] at this
 exact List.mem_map.mp this
theorem Gm.QB (h:Gm K aB aP aM ρ us bs rk ks) (hv:v∈us) (hw:Gx (ρ v).w=true):ρ v∈ks:=by
 have:ρ v∈(us.filter (fun v=>Gx (ρ v).w)).map ρ:=List.mem_map_of_mem (List.mem_filter.mpr ⟨hv,hw⟩)
 rw [h.ek] at this
 exact this
theorem Gm.V4 (h:Gm K aB aP aM ρ us bs rk ks):Ed ρ us:=fun v hv hw=>by
 obtain ⟨b,_,e⟩:=h.UT hv hw
 exact ⟨_,by rw [← e]⟩
theorem Gm.Uc (h:Gm K aB aP aM ρ us bs rk ks) {b:Str × Nat} (hb:b∈bs):∃ v∈us,ρ v=Gg b:=by
 have:Gg b∈(us.filter (pw ρ "board")).map ρ:=by rw [h.eb]; exact List.mem_map_of_mem hb
 obtain ⟨v,hv,e⟩:=List.mem_map.mp this
 exact ⟨v,(List.mem_filter.mp hv).1,e⟩
theorem Gm.Xz (h:Gm K aB aP aM ρ us bs rk ks) {r:Str × Nat × Int} (hr:r∈rk):∃ v∈us,ρ v=G6 r:=by
 have:G6 r∈(us.filter (pw ρ "rank")).map ρ:=by rw [h.er]; exact List.mem_map_of_mem hr
 obtain ⟨v,hv,e⟩:=List.mem_map.mp this
 exact ⟨v,(List.mem_filter.mp hv).1,e⟩
theorem Gm.Lf (h:Gm K aB aP aM ρ us bs rk ks) {b:Str × Nat} (hb:b∈bs):NB (Fz ρ us) "board" b.1=true:=by
 obtain ⟨v,hv,e⟩:=h.Uc hb
 rw [← Hj,J5]
 exact ⟨v,hv,by rw [e],by rw [e]⟩
theorem Gm.Uq (h:Gm K aB aP aM ρ us bs rk ks) {r:Str × Nat × Int} (hr:r∈rk):NB (Fz ρ us) "rank" r.1=true:=by
 obtain ⟨v,hv,e⟩:=h.Xz hr
 rw [← Hj,J5]
 exact ⟨v,hv,by rw [e],by rw [e]⟩
theorem Iz {w:Str} (h:w = "stop" \/ w = "coupler" \/ w = "mute"):Gx w=true:=by rcases h with rfl | rfl | rfl <;> decide +kernel
theorem Gm.fresh (h:Gm K aB aP aM ρ us bs rk ks) {t:Str} (hb:∀ b∈bs,b.1 ≠ t) (hr:∀ r∈rk,r.1 ≠ t) (hk:∀ k∈ks,k.nm ≠ t):∀ w∈named,NB (Fz ρ us) w t=false:=by
 intro w hw
 rw [← Hj,← Bool.not_eq_true,J5]
 rintro ⟨v,hv,hw',hn⟩
 simp only [List.mem_cons,List.mem_singleton,List.not_mem_nil,or_false] at hw
 rcases hw with rfl | rfl | rfl | rfl | rfl
 ·obtain ⟨b,hb',e⟩:=h.UT hv hw'
  exact hb b hb' (by rw [← hn,← e])
 ·obtain ⟨b,hb',e⟩:=h.WL hv hw'
  exact hr b hb' (by rw [← hn,← e])
 ·exact hk _ (h.QB hv (Iz (.inl hw'))) hn
 ·exact hk _ (h.QB hv (Iz (.inr (.inl hw')))) hn
 ·exact hk _ (h.QB hv (Iz (.inr (.inr hw')))) hn
theorem Gm.YF (h:Gm K aB aP aM ρ us bs rk ks):Pj (Fz ρ us) "board" = bs.length:=by
 rw [← Gj,← List.length_map (f:=ρ),h.eb,List.length_map]
theorem Gm.Wh (h:Gm K aB aP aM ρ us bs rk ks):Pj (Fz ρ us) "rank" = rk.length:=by
 rw [← Gj,← List.length_map (f:=ρ),h.er,List.length_map]
theorem Gm.UL (h:Gm K aB aP aM ρ us bs rk ks) {w:Str} (hw:w = "stop" \/ w = "coupler" \/ w = "mute"):Pj (Fz ρ us) w=(ks.filter fun r=>decide (V.str r.w=V.str w)).length:=by
 rw [← Gj,← h.ek,List.filter_map,List.length_map,List.filter_filter]
 refine congrArg List.length (List.filter_congr fun v _=>?_)
 show pw ρ w v=(pw ρ w v && Gx (ρ v).w)
 by_cases e:(ρ v).w=w
 ·rw [Iz (by rw [e]; exact hw),Bool.and_true]
 ·have:pw ρ w v=false:=decide_eq_false fun z=>e (V.str.inj z)
  rw [this,Bool.false_and]
theorem Gm.snoc (h:Gm K aB aP aM ρ us bs rk ks) (hk:(ρ v).w = "board" \/ (ρ v).w = "rank" \/ (ρ v).w = "line" \/ (ρ v).w = "stop" \/ (ρ v).w = "coupler" \/ (ρ v).w = "mute")
  (eb:((us++[v]).filter (pw ρ "board")).map ρ=bs'.map Gg) (er:((us++[v]).filter (pw ρ "rank")).map ρ=rk'.map G6) (ek:((us++[v]).filter (fun v=>Gx (ρ v).w)).map ρ=ks')
  (hr:∀ (j:Nat) r,rk[j]? = some r->rk'[j]? = some r)
  (hl:(ρ v).w = "line"->(∃ (j:Nat) (r:Str × Nat × Int) (sh lo hi:Int),rk'[j]? = some r/\r.1=(ρ v).nm/\(ρ v).rest=[.int sh,.int lo,.int hi])/\∃ u∈us,Gx (ρ u).w=true)
  (ok:Fp K aB aP aM ρ us (ρ v)):Gm K aB aP aM ρ (us++[v]) bs' rk' ks':=by
 have at_:∀ {i:Nat} {u:V},(us++[v])[i]? = some u->us[i]? = some u/\(us++[v]).take i=us.take i \/ u=v/\(us++[v]).take i=us:=fun {i u} hi=>by
  by_cases hlt:i<us.length
  ·rw [List.getElem?_append_left hlt] at hi
   exact .inl ⟨hi,List.take_append_of_le_length (Nat.le_of_lt hlt)⟩
  ·have h2:=(List.getElem?_eq_some_iff.mp hi).1
   rw [List.length_append,List.length_singleton] at h2
   have hil:i=us.length:=by omega
   subst hil
   rw [List.getElem?_append_right (Nat.le_refl _),Nat.sub_self] at hi
   exact .inr ⟨(Option.some.inj hi).symm,by rw [List.take_append_of_le_length (Nat.le_refl _),List.take_length]⟩
 refine ⟨fun u hu=>?_,eb,er,ek,fun i u hi hw=>?_,fun i u hi=>?_⟩
 ·rcases List.mem_append.mp hu with h' | h'
  ·exact h.kinds u h'
  ·rw [List.mem_singleton.mp h']
   exact hk
 ·rcases at_ hi with ⟨h1,h2⟩ | ⟨rfl,h2⟩
  ·rw [h2]
   obtain ⟨⟨j,r,sh,lo,hi',g1,g2,g3⟩,g4⟩:=h.ln i u h1 hw
   exact ⟨⟨j,r,sh,lo,hi',hr j r g1,g2,g3⟩,g4⟩
  ·rw [h2]
   exact hl hw
 ·rcases at_ hi with ⟨h1,h2⟩ | ⟨rfl,h2⟩
  ·rw [h2]
   exact h.ok i u h1
  ·rw [h2]
   exact ok
theorem JH {p:V->Bool} (h:p v=true):(us++[v]).filter p=us.filter p++[v]:=by
 rw [List.filter_append,List.filter_cons,if_pos h]
 rfl
theorem Du {p:V->Bool} (h:p v=false):(us++[v]).filter p=us.filter p:=by
 rw [List.filter_append,List.filter_cons,if_neg (by rw [h]; decide)]
 simp
end
structure FQ (K:PySem.W.Frag) (aB aP aM:Addr) (rows:List R) (bs:List (Str × Nat)) (rk:List (Str × Nat × Int)) (ks:List R) (ls:List (List Ln)):Prop where
 ok:∀ (ρ:V->R) (us:List V),us.map ρ=rows->Gm K aB aP aM ρ us bs rk ks
 ln0:ks=[]->∀ rk',linesOf rk' rows=[]
 ln:linesOf rk rows=ls
section
variable {aB aP aM:Addr} {rows:List R} {bs:List (Str × Nat)} {rk:List (Str × Nat × Int)} {ks:List R} {ls:List (List Ln)}
theorem FQ.nil:FQ K aB aP aM [] [] [] [] []:=⟨fun ρ us e=>by rw [List.map_eq_nil_iff.mp e]; exact Gm.nil,fun _ _=>rfl,rfl⟩
theorem Hz {ρ:V->R} {us:List V} {r:R} (e:us.map ρ=rows++[r]):∃ us' v,us=us'++[v]/\us'.map ρ=rows/\ρ v=r:=by
 obtain ⟨a,b,rfl,h1,h2⟩:=List.map_eq_append_iff.mp e
 obtain ⟨v,l,rfl,h3,h4⟩:=List.map_eq_cons_iff.mp h2
 rw [List.map_eq_nil_iff.mp h4]
 exact ⟨a,v,rfl,h1,h3⟩
theorem FQ.rank (F:Mz K aB aP aM) (h:FQ K aB aP aM rows bs rk [] []) {t:Str} {n:Nat} {wi:Int} (ht:isNm t) (hf:∀ b∈bs,b.1 ≠ t) (hr:∀ r∈rk,r.1 ≠ t) (hc:rk.length<12) (h1:1<=n) (h2:n<=97) (h3:0<=wi) (h4:wi<=1000000000):FQ K aB aP aM (rows++[G6 (t,n,wi)]) bs (rk++[(t,n,wi)]) [] []:=by
 refine ⟨fun ρ us e=>?_,fun _ rk'=>?_,?_⟩
 ·obtain ⟨us',v,rfl,e',hv⟩:=Hz e
  have O:=h.ok ρ us' e'
  refine O.snoc (.inr (.inl (by rw [hv]))) ?_ ?_ ?_ (fun j r h=>by rw [List.getElem?_append_left (List.getElem?_eq_some_iff.mp h).1]; exact h) (fun z=>absurd (hv ▸ z) (by show ¬ ("rank" : Str) = "line"; decide +kernel)) ?_
  ·rw [Du (by unfold pw; rw [hv]; show decide (V.str "rank" = V.str "board")=false; decide +kernel),O.eb]
  ·rw [JH (by unfold pw; rw [hv]; exact decide_eq_true rfl),List.map_append,O.er,List.map_append,List.map_singleton,hv]
   rfl
  ·rw [Du (by rw [hv]; show Gx "rank" = false; decide +kernel),O.ek]
  ·rw [hv]
   exact N_ F rfl ht (O.fresh hf hr (fun _ z=>nomatch z)) (by rw [O.Wh]; exact hc) h1 h2 h3 h4 O.V4
 ·rw [Br,h.ln0 rfl rk']
  rfl
 ·rw [Br,h.ln0 rfl _]
  rfl
theorem FQ.T_ (h:FQ K aB aP aM rows bs rk ks ls) {r:R} (hw:r.w = "stop" \/ r.w = "coupler" \/ r.w = "mute") (hr:∀ (ρ:V->R) (us:List V),us.map ρ=rows->Ja K aB aP aM ρ us r):FQ K aB aP aM (rows++[r]) bs rk (ks++[r]) (ls++[[]]):=by
 have hK:=Iz hw
 refine ⟨fun ρ us e=>?_,fun z=>by simp at z,?_⟩
 ·obtain ⟨us',v,rfl,e',hv⟩:=Hz e
  have O:=h.ok ρ us' e'
  refine O.snoc (.inr (.inr (.inr (by rw [hv]; exact hw)))) ?_ ?_ ?_ (fun _ _ h=>h) (fun z=>?_) ?_
  ·rw [Du (by unfold pw; rw [hv]; rcases hw with e | e | e <;> rw [e] <;> decide +kernel),O.eb]
  ·rw [Du (by unfold pw; rw [hv]; rcases hw with e | e | e <;> rw [e] <;> decide +kernel),O.er]
  ·rw [JH (by rw [hv]; exact hK),List.map_append,O.ek,List.map_singleton,hv]
  ·rw [hv] at z
   rcases hw with e | e | e <;> rw [e] at z <;> exact absurd z (by decide +kernel)
  ·rw [hv]
   exact Mr (hr ρ us' e') O.V4
 ·rw [Br,h.ln]
  unfold Eh
  rw [if_pos hK]
theorem FQ.Rn (F:Mz K aB aP aM) (h:FQ K aB aP aM rows bs rk ks ls) {t a b:Str} {n m:Nat} {s:Int} (ht:isNm t) (hb:∀ b∈bs,b.1 ≠ t) (hr:∀ r∈rk,r.1 ≠ t) (hk:∀ k∈ks,k.nm ≠ t) (hc:(ks.filter fun r=>decide (V.str r.w=V.str "coupler")).length<12) (ha:isNm a) (ha':(a,n)∈bs) (hb1:isNm b) (hb':(b,m)∈bs) (h1 : -60<=s) (h2:s<=60) :
  FQ K aB aP aM (rows++[⟨"coupler",t,[.str a,.str b,.int s]⟩]) bs rk (ks++[⟨"coupler",t,[.str a,.str b,.int s]⟩]) (ls++[[]]) :=
 h.T_ (.inr (.inl rfl)) fun ρ us e=>by
  have O:=h.ok ρ us e
  exact Kz F.f rfl ht (O.fresh hb hr hk) (by rw [O.UL (.inr (.inl rfl))]; exact hc) ha (O.Lf ha') hb1 (O.Lf hb') h1 h2
theorem FQ.plain (F:Mz K aB aP aM) (h:FQ K aB aP aM rows bs rk ks ls) {wd t a:Str} {n:Nat} (hw:wd = "stop" \/ wd = "mute") (ht:isNm t) (hb:∀ b∈bs,b.1 ≠ t) (hr:∀ r∈rk,r.1 ≠ t) (hk:∀ k∈ks,k.nm ≠ t) (hc:(ks.filter fun r=>decide (V.str r.w=V.str wd)).length<Fg wd) (ha:isNm a) (ha':(a,n)∈bs) :
  FQ K aB aP aM (rows++[⟨wd,t,[.str a]⟩]) bs rk (ks++[⟨wd,t,[.str a]⟩]) (ls++[[]]):=by
 have hw3:wd = "stop" \/ wd = "coupler" \/ wd = "mute":=by rcases hw with e | e; exact .inl e; exact .inr (.inr e)
 exact h.T_ hw3 fun ρ us e=>by
  have O:=h.ok ρ us e
  exact Ny F.f hw rfl ht (O.fresh hb hr hk) (by rw [O.UL hw3]; exact hc) ha (O.Lf ha')
noncomputable def Tl (rows:List R) (bd:Str) (cnt:Nat):Prop:=∃ (r0:List R) (st:R) (lr:List R),rows=r0++st::lr/\st.w = "stop" /\ st.rest=[.str bd]/\lr.length=cnt/\∀ r∈lr,r.w = "line"
theorem Tl.stop (rows:List R) (t bd:Str):Tl (rows++[⟨"stop",t,[.str bd]⟩]) bd 0:=⟨rows,_,[],rfl,rfl,rfl,rfl,fun _ h=>nomatch h⟩
theorem FQ.line (F:Mz K aB aP aM) {l0:List Ln} (h:FQ K aB aP aM rows bs rk ks (ls++[l0])) {bd:Str} {cnt:Nat} (T:Tl rows bd cnt) (hc:cnt<4) {j n m:Nat} {t:Str} {wi sh lo hi:Int} (hj:rk[j]? = some (t,m,wi)) (hnd:(rk.map (·.1)).Nodup) (ht:isNm t) (hbd:(bd,n)∈bs) (hle:lo<=hi) (hn:hi<(n:Int)) (b1 : -200<=sh) (b2:sh<=200) (b3:0<=lo) (b6:hi<=60) :
  FQ K aB aP aM (rows++[⟨"line",t,[.int sh,.int lo,.int hi]⟩]) bs rk ks (ls++[l0++[⟨j,sh,lo,hi⟩]]):=by
 obtain ⟨r0,st,lr,er,g1,g2,g3,g4⟩:=T
 have nK:Gx "line" = false:=by decide +kernel
 refine ⟨fun ρ us e=>?_,fun z=>?_,?_⟩
 ·obtain ⟨us',v,rfl,e',hv⟩:=Hz e
  have O:=h.ok ρ us' e'
  obtain ⟨u0,u1,eu,m1,m2⟩:=List.map_eq_append_iff.mp (e'.trans er)
  obtain ⟨sv,lv,e1,m3,m4⟩:=List.map_eq_cons_iff.mp m2
  subst e1
  have hsv:sv∈us':=by rw [eu]; simp
  have hlv:lv.length=cnt:=by rw [← g3,← m4,List.length_map]
  have hus:us'.length=u0.length+(cnt+1):=by rw [eu,List.length_append,List.length_cons,hlv]
  refine O.snoc (.inr (.inr (.inl (by rw [hv])))) ?_ ?_ ?_ (fun _ _ h=>h) (fun _=>⟨⟨j,_,sh,lo,hi,hj,by rw [hv],by rw [hv]⟩,sv,hsv,by rw [m3,g1]; decide +kernel⟩) ?_
  ·rw [Du (by unfold pw; rw [hv]; show decide (V.str "line" = V.str "board")=false; decide +kernel),O.eb]
  ·rw [Du (by unfold pw; rw [hv]; show decide (V.str "line" = V.str "rank")=false; decide +kernel),O.er]
  ·rw [Du (by rw [hv]; exact nK),O.ek]
  ·rw [hv]
   have hst:us'[us'.length - 1 - cnt]? = some sv:=by
    have:us'.length - 1 - cnt=u0.length:=by omega
    rw [this,eu,List.getElem?_append_right (Nat.le_refl _),Nat.sub_self]
    rfl
   refine Np F rfl ht (O.Uq (List.mem_of_getElem? hj)) b1 b2 b3 (by omega) (by omega) b6 O.V4 ⟨cnt,sv,sh,lo,hi,bd,[],rfl,⟨fun i hi'=>?_,by omega,sv,hst,by rw [m3,g1]; decide +kernel⟩,hc,hst,by rw [m3,g1],by rw [m3,g2],hle,?_⟩
   ·have hi2:cnt - 1 - i<lv.length:=by omega
    refine ⟨lv[cnt - 1 - i],?_,?_⟩
    ·have:us'.length - 1 - i=u0.length+((cnt - 1 - i)+1):=by omega
     rw [this,eu,List.getElem?_append_right (Nat.le_add_right _ _),Nat.add_sub_cancel_left,List.getElem?_cons_succ]
     exact List.getElem?_eq_getElem hi2
    ·refine g4 _ ?_
     rw [← m4]
     exact List.mem_map_of_mem (List.getElem_mem hi2)
   ·obtain ⟨u,hu,hub⟩:=O.Uc hbd
    rw [List.any_eq_true]
    refine ⟨u,List.mem_filter.mpr ⟨hu,?_⟩,?_⟩
    ·unfold pw
     rw [hub]
     exact decide_eq_true rfl
    ·show (pn ρ bd u && decide (hi<Vq (ρ u)))=true
     unfold pn
     rw [hub,Bool.and_eq_true]
     exact ⟨decide_eq_true rfl,decide_eq_true hn⟩
 ·subst z
  have:=h.ln0 rfl rk
  rw [h.ln] at this
  simp at this
 ·rw [Br,h.ln]
  unfold Eh
  rw [if_neg (by show ¬ Gx "line" = true; rw [nK]; decide),if_pos rfl,GF]
  have hjl:=(List.getElem?_eq_some_iff.mp hj).1
  have:(rk.map (·.1)).idxOf t=j:=by
   have hl:j<(rk.map (·.1)).length:=by rw [List.length_map]; exact hjl
   have e2:(rk.map (·.1))[j]=t:=by
    rw [List.getElem_map]
    have:=(List.getElem?_eq_some_iff.mp hj).2
    rw [this]
   rw [← e2]
   exact hnd.idxOf_getElem j hl
  show ls++[l0++[⟨(rk.map (·.1)).idxOf t,sh,lo,hi⟩]]=_
  rw [this]
theorem FQ.fin {H:Hp} {vs:List V} (h:FQ K aB aP aM rows bs rk ks ls) (hv:Paired (fun (r:R) v=>TupAt H r.v v) rows vs) (b0:1<=bs.length) (b5:bs.length<=5) (sz:∀ b∈bs,b.2<=61) (nr:rk.length<=12) (nz:∀ r∈rk,r.2.1<=97) (nk:ks.length<=100) (nb:(bs.map (·.1)).Nodup) (nrr:(rk.map (·.1)).Nodup) (nn:(ks.map (·.nm)).Nodup) (len:rows.length<=150) :
  Rows H (Js H) vs/\Zn K aB aP aM (Js H) vs bs rk ks/\linesOf rk (vs.map (Js H))=ls:=by
 have em:=My hv
 have O:=h.ok (Js H) vs em
 refine ⟨fun v hv'=>?_,⟨O.kinds,O.eb,O.er,O.ek,O.ln,b0,b5,sz,nr,nz,nk,nb,nrr,nn,by rw [← hv.length]; exact len,O.ok⟩,by rw [em]; exact h.ln⟩
 obtain ⟨r,_,hr⟩:=Cg hv hv'
 rw [Lw hr]
 exact hr
end
end Og
namespace Og
open PySem L2 PyProof.Rows
variable {K:PySem.W.Frag}
noncomputable def wN (j:Nat):Str:=⟨#[119+j]⟩
noncomputable def rN (j:Nat):Str:=⟨#[97+j]⟩
noncomputable def kn (m i:Nat):Nat × Nat:=if i<m then (115,119+i) else if i<2 * m then (99,119+(i - m)) else if i=2 * m then (99,101) else (109,119+(i - 2 * m - 1))
noncomputable def cN (m j:Nat):Str:=if j<30 then wN j else ⟨#[(kn m (j - 30)).1,(kn m (j - 30)).2]⟩
theorem Ij {m j:Nat} (h:j<30):cN m j=wN j:=if_pos h
theorem JB (m i:Nat):cN m (30+i)=⟨#[(kn m i).1,(kn m i).2]⟩:=by
 unfold cN
 rw [if_neg (by omega),Nat.add_sub_cancel_left]
theorem one_inj {a b:Nat} (h:(⟨#[a]⟩:Str)=⟨#[b]⟩):a=b:=by
 have:=congrArg (fun s:Str=>s.cps.toList) h
 simpa using this
theorem two_inj {a b c d:Nat} (h:(⟨#[a,b]⟩:Str)=⟨#[c,d]⟩):a=c/\b=d:=by
 have:=congrArg (fun s:Str=>s.cps.toList) h
 simpa using this
theorem Mx {a b c:Nat} (h:(⟨#[a]⟩:Str)=⟨#[b,c]⟩):False:=by
 have:=congrArg (fun s:Str=>s.cps.toList.length) h
 simp at this
theorem PQ {m i j:Nat} (hi:i<3 * m+1) (hj:j<3 * m+1) (h1:(kn m i).1=(kn m j).1) (h2:(kn m i).2=(kn m j).2):i=j:=by
 have cs:∀ i,(i<m/\kn m i=(115,119+i)) \/ (m<=i/\i<2 * m/\kn m i=(99,119+(i - m))) \/ (i=2 * m/\kn m i=(99,101)) \/ (2 * m<i/\kn m i=(109,119+(i - 2 * m - 1))):=fun i=>by
  unfold kn
  by_cases a1:i<m
  ·exact .inl ⟨a1,if_pos a1⟩
  by_cases a2:i<2 * m
  ·exact .inr (.inl ⟨by omega,a2,by rw [if_neg a1,if_pos a2]⟩)
  by_cases a3:i=2 * m
  ·exact .inr (.inr (.inl ⟨a3,by rw [if_neg a1,if_neg a2,if_pos a3]⟩))
  ·exact .inr (.inr (.inr ⟨by omega,by rw [if_neg a1,if_neg a2,if_neg a3]⟩))
 rcases cs i with ⟨a1,e1⟩ | ⟨a1,a2,e1⟩ | ⟨a1,e1⟩ | ⟨a1,e1⟩ <;> rcases cs j with ⟨b1,e2⟩ | ⟨b1,b2,e2⟩ | ⟨b1,e2⟩ | ⟨b1,e2⟩ <;> rw [e1,e2] at h1 h2 <;> dsimp only at h1 h2 <;> omega
theorem M6 {a:Nat} (h1:97<=a) (h2:a<=122):isNm ⟨#[a]⟩:=⟨by show 1<=1; decide,by show 1<=8; decide,fun c hc=>by
 have:c=a:=by simpa using hc
 omega⟩
theorem Xb {a b:Nat} (h1:97<=a) (h2:a<=122) (h3:97<=b) (h4:b<=122):isNm ⟨#[a,b]⟩:=⟨by show 1<=2; decide,by show 2<=8; decide,fun c hc=>by
 have:c=a \/ c=b:=by simpa using hc
 omega⟩
theorem aX {m i:Nat} (h4:m<=4) (hi:i<3 * m+1):97<=(kn m i).1/\(kn m i).1<=122/\97<=(kn m i).2/\(kn m i).2<=122:=by
 unfold kn
 split
 ·simp; omega
 split
 ·simp; omega
 split
 ·simp
 ·simp; omega
theorem FQ.Vy (F:Mz K aB aP aM) {rows:List R} {bs:List (Str × Nat)} {rk:List (Str × Nat × Int)} (h:FQ K aB aP aM rows bs rk [] []) {t:Str} {n:Nat} (ht:isNm t) (hf:∀ b∈bs,b.1 ≠ t) (hr:∀ r∈rk,r.1 ≠ t) (hb:bs.length<5) (h1:1<=n) (h2:n<=61):FQ K aB aP aM (rows++[Gg (t,n)]) (bs++[(t,n)]) rk [] []:=by
 refine ⟨fun ρ us e=>?_,fun _ rk'=>?_,?_⟩
 ·obtain ⟨us',v,rfl,e',hv⟩:=Hz e
  have O:=h.ok ρ us' e'
  refine O.snoc (.inl (by rw [hv])) ?_ ?_ ?_ (fun _ _ h=>h) (fun z=>absurd (hv ▸ z) (by show ¬ ("board" : Str) = "line"; decide +kernel)) ?_
  ·rw [JH (by unfold pw; rw [hv]; exact decide_eq_true rfl),List.map_append,O.eb,List.map_append,List.map_singleton,hv]
   rfl
  ·rw [Du (by unfold pw; rw [hv]; show decide (V.str "board" = V.str "rank")=false; decide +kernel),O.er]
  ·rw [Du (by rw [hv]; show Gx "board" = false; decide +kernel),O.ek]
  ·rw [hv]
   exact Mr (Nr F.f rfl ht (O.fresh hf hr (fun _ z=>nomatch z)) (by rw [O.YF]; exact hb) h1 h2) O.V4
 ·rw [Br,h.ln0 rfl rk']
  rfl
 ·rw [Br,h.ln0 rfl rk]
  rfl
structure CN where
 m:Nat
 kk:Nat
 e1:Nat
 e2:Nat
 sh:List Int
namespace CN
variable (p:CN)
noncomputable def f (i:Nat):Kb:=if i<p.m then .pl "stop" i else if i<2 * p.m then .cp (i - p.m) ((i - p.m+1) % p.m) (p.sh.getD (i - p.m) 0) else if i=2 * p.m then .cp p.e1 p.e2 (p.sh.getD p.m 0) else .pl "mute" (i - 2 * p.m - 1)
noncomputable def kb:List Kb:=(List.range (3 * p.m+1)).map p.f
noncomputable def rk:List (Str × Nat × Int):=(List.range p.m).map fun k=>(rN k,p.kk,1)
noncomputable def sz:List Nat:=List.replicate p.m p.kk
noncomputable def lf (i:Nat):List Ln:=if i<p.m then [⟨i,0,0,(p.kk:Int) - 1⟩] else []
noncomputable def ls:List (List Ln):=(List.range (3 * p.m+1)).map p.lf
noncomputable abbrev c:Nat->Str:=cN p.m
structure Ok:Prop where
 m1:1<=p.m
 m4:p.m<=4
 k1:1<=p.kk
 k61:p.kk<=61
 h1:p.e1<p.m
 h2:p.e2<p.m
 sl:p.sh.length=p.m+1
 sb:∀ s∈p.sh,-3<=s/\s<=3
variable {p}
theorem Gs {i:Nat} (h:i<3 * p.m+1):p.kb[i]? = some (p.f i):=by
 unfold kb
 rw [List.getElem?_map,List.getElem?_range h]
 rfl
theorem Ii:p.kb.length=3 * p.m+1:=by
 unfold kb
 rw [List.length_map,List.length_range]
theorem Cu {i:Nat} {z:Kb} (h:p.kb[i]? = some z):i<3 * p.m+1/\z=p.f i:=by
 have hi:=(List.getElem?_eq_some_iff.mp h).1
 rw [Ii] at hi
 rw [Gs hi] at h
 exact ⟨hi,(Option.some.inj h).symm⟩
theorem I_ {i:Nat} (h:i<3 * p.m+1):p.ls[i]? = some (p.lf i):=by
 unfold ls
 rw [List.getElem?_map,List.getElem?_range h]
 rfl
theorem Ok.eQ (h:p.Ok) (i:Nat) : -3<=p.sh.getD i 0/\p.sh.getD i 0<=3:=by
 rw [List.getD_eq_getElem?_getD]
 cases e:p.sh[i]? with
 | none=>exact ⟨by decide,by decide⟩
 | some s=>exact h.sb s (List.mem_of_getElem? e)
theorem Ok.Vw (h:p.Ok) {i:Nat} (hi:i<3 * p.m+1):(p.f i).ok p.m:=by
 have:=h.m1
 unfold f
 split
 ·exact ⟨by assumption,.inr rfl⟩
 split
 ·have:=h.eQ (i - p.m)
  exact ⟨by omega,Nat.mod_lt _ (by omega),by omega,by omega⟩
 split
 ·have:=h.eQ p.m
  exact ⟨h.h1,h.h2,by omega,by omega⟩
 ·exact ⟨by omega,.inl rfl⟩
theorem Ut (w:Str) (q:Nat->Prop) [DecidablePred q] (hq:∀ i,i<3 * p.m+1->(p.f i).w=w->q i) (n:Nat) (hn:((List.range (3 * p.m+1)).filter fun i=>decide (q i)).length<=n) (i:Nat):((p.kb.take i).filter (IW w)).length<=n:=by
 refine Nat.le_trans (List.Sublist.length_le (List.Sublist.filter _ (List.take_sublist i p.kb))) (Nat.le_trans ?_ hn)
 unfold kb
 rw [List.filter_map,List.length_map]
 have:∀ l:List Nat,(∀ x∈l,x<3 * p.m+1)->(l.filter (IW w ∘ p.f)).length<=(l.filter fun i=>decide (q i)).length:=by
  intro l
  induction l with
  | nil=>intro _; exact Nat.le_refl _
  | cons a l ih =>
   intro hl
   have ih:=ih fun x hx=>hl x (List.mem_cons_of_mem _ hx)
   rw [List.filter_cons,List.filter_cons]
   by_cases e:(IW w ∘ p.f) a=true
   ·rw [if_pos e,if_pos (decide_eq_true (hq a (hl a List.mem_cons_self) (V.str.inj (of_decide_eq_true e))))]
    exact Nat.succ_le_succ ih
   ·rw [if_neg e]
    split
    ·exact Nat.le_succ_of_le ih
    ·exact ih
 exact this _ fun x hx=>List.mem_range.mp hx
theorem V6 (i:Nat):(p.f i).w=if i<p.m then "stop" else if i<2 * p.m+1 then "coupler" else "mute":=by
 unfold f
 split
 ·rfl
 split
 ·rw [if_pos (by omega)]; rfl
 split
 ·rw [if_pos (by omega)]; rfl
 ·rw [if_neg (by omega)]; rfl
theorem Ok.room (h:p.Ok) {i:Nat} {z:Kb} (hz:p.kb[i]? = some z):((p.kb.take i).filter (IW z.w)).length<Fg z.w:=by
 obtain ⟨hi,rfl⟩:=Cu hz
 have h4:=h.m4
 have h1:=h.m1
 have s1:Fg "stop" = 24:=by decide +kernel
 have s2:Fg "coupler" = 12:=by decide +kernel
 have s3:Fg "mute" = 5:=by decide +kernel
 have n1:¬ ("stop" : Str) = "mute":=by decide +kernel
 have n2:¬ ("coupler" : Str) = "mute":=by decide +kernel
 have all:((p.kb.take i).filter (IW (p.f i).w)).length<=i:=Nat.le_trans (List.length_filter_le _ _) (by rw [List.length_take]; omega)
 by_cases c1:i<p.m
 ·have e:(p.f i).w = "stop":=by rw [V6,if_pos c1]
  rw [e] at all ⊢
  omega
 by_cases c2:i<2 * p.m+1
 ·have e:(p.f i).w = "coupler":=by rw [V6,if_neg c1,if_pos c2]
  rw [e] at all ⊢
  omega
 ·have e:(p.f i).w = "mute":=by rw [V6,if_neg c1,if_neg c2]
  rw [e]
  have:=Ut (p:=p) "mute" (fun i=>¬ i<2 * p.m+1) (fun j hj hw=>by
   rw [V6] at hw
   split at hw
   ·exact absurd hw n1
   split at hw
   ·exact absurd hw n2
   ·assumption) 4 (by
   have:p.m=1 \/ p.m=2 \/ p.m=3 \/ p.m=4:=by omega
   rcases this with e | e | e | e <;> rw [e] <;> decide) i
  omega
theorem Ok.kbs (h:p.Ok):RQ p.sz.length p.kb:=by
 have h4:=h.m4
 refine ⟨fun k hk=>?_,fun i k hk=>h.room hk,by rw [Ii]; omega⟩
 obtain ⟨i,hi0⟩:=List.mem_iff_getElem?.mp hk
 obtain ⟨hi,rfl⟩:=Cu hi0
 unfold sz
 rw [List.length_replicate]
 exact h.Vw hi
theorem Hf {i:Nat} (h:i<p.m):p.sz[i]? = some p.kk:=by
 unfold sz
 rw [List.getElem?_replicate,if_pos h]
theorem Eo:p.sz.length=p.m:=List.length_replicate ..
theorem Fy {i:Nat} (h:i<p.m) (h4:p.m<=4):(BW p.c p.sz)[i]? = some (wN i,p.kk):=by
 rw [Do (Hf h)]
 unfold c
 rw [Ij (by omega)]
theorem Kd {b:Str × Nat} (h4:p.m<=4) {i:Nat} (h:b∈(BW p.c p.sz).take i):∃ j,j<i/\j<p.m/\b=(wN j,p.kk):=by
 obtain ⟨j,hj,e⟩:=List.mem_take_iff_getElem.mp h
 have hj2:(BW p.c p.sz)[j]? = some b:=by rw [← e]; exact List.getElem?_eq_getElem _
 have hl:=(List.getElem?_eq_some_iff.mp hj2).1
 rw [Fo,Eo] at hl
 rw [Fy hl h4] at hj2
 exact ⟨j,by omega,hl,(Option.some.inj hj2).symm⟩
theorem HX {i:Nat} (h:i<p.m):p.rk[i]? = some (rN i,p.kk,1):=by
 unfold rk
 rw [List.getElem?_map,List.getElem?_range h]
 rfl
theorem Ha:p.rk.length=p.m:=by
 unfold rk
 rw [List.length_map,List.length_range]
theorem J0 {r:Str × Nat × Int} {i:Nat} (h:r∈p.rk.take i):∃ j,j<i/\j<p.m/\r=(rN j,p.kk,1):=by
 obtain ⟨j,hj,e⟩:=List.mem_take_iff_getElem.mp h
 have hj2:p.rk[j]? = some r:=by rw [← e]; exact List.getElem?_eq_getElem _
 have hl:=(List.getElem?_eq_some_iff.mp hj2).1
 rw [Ha] at hl
 rw [HX hl] at hj2
 exact ⟨j,by omega,hl,(Option.some.inj hj2).symm⟩
theorem Ok.b0 (h:p.Ok) (F:Mz K aB aP aM) {rows:List R} {i:Nat} (hi:i<p.m) (B:FQ K aB aP aM rows ((BW p.c p.sz).take i) (p.rk.take i) [] []) :
  FQ K aB aP aM (rows++[Gg (wN i,p.kk)]++[G6 (rN i,p.kk,1)]) ((BW p.c p.sz).take (i+1)) (p.rk.take (i+1)) [] []:=by
 have h4:=h.m4
 have e1:(BW p.c p.sz).take (i+1)=(BW p.c p.sz).take i++[(wN i,p.kk)]:=by
  rw [List.take_add_one,Fy hi h4]
  rfl
 have e2:p.rk.take (i+1)=p.rk.take i++[(rN i,p.kk,1)]:=by
  rw [List.take_add_one,HX hi]
  rfl
 have B1:=B.Vy F (t:=wN i) (n:=p.kk) (M6 (by omega) (by omega)) (fun b hb e=>by
  obtain ⟨j,hj,_,rfl⟩:=Kd h4 hb
  have:=one_inj e
  omega) (fun r hr e=>by
  obtain ⟨j,hj,_,rfl⟩:=J0 hr
  have:=one_inj e
  omega) (by rw [List.length_take]; omega) h.k1 h.k61
 rw [← e1] at B1
 have B2:=B1.rank F (t:=rN i) (n:=p.kk) (wi:=1) (M6 (by omega) (by omega)) (fun b hb e=>by
  obtain ⟨j,hj,_,rfl⟩:=Kd h4 hb
  have:=one_inj e
  omega) (fun r hr e=>by
  obtain ⟨j,hj,_,rfl⟩:=J0 hr
  have:=one_inj e
  omega) (by rw [List.length_take]; omega) h.k1 (by have:=h.k61; omega) (by decide) (by decide)
 rw [← e2] at B2
 exact B2
theorem Us {r:R} {i:Nat} (h:r∈(Bu p.c p.kb).take i):∃ j,j<i/\j<3 * p.m+1/\r.nm=p.c (30+j):=by
 obtain ⟨j,hj,e⟩:=List.mem_take_iff_getElem.mp h
 have hj2:(Bu p.c p.kb)[j]? = some r:=by rw [← e]; exact List.getElem?_eq_getElem _
 obtain ⟨z,hz,rfl⟩:=DK hj2
 have:=(Cu hz).1
 exact ⟨j,by omega,this,Ju _ _ _⟩
theorem Uk (w:Str) (i:Nat):(((Bu p.c p.kb).take i).filter fun r=>decide (V.str r.w=V.str w)).length=((p.kb.take i).filter (IW w)).length:=by
 have e:(Bu p.c p.kb).map (·.w)=p.kb.map (·.w):=by
  refine List.ext_getElem? fun j=>?_
  rw [List.getElem?_map,List.getElem?_map]
  cases h:p.kb[j]? with
  | none=>rw [List.getElem?_eq_none (by rw [Fj]; exact List.getElem?_eq_none_iff.mp h)]; rfl
  | some z=>rw [DW h]; exact congrArg some (Gf _ _ _)
 have g:∀ {α:Type} (g:α->Str) (l:List α),(l.filter fun r=>decide (V.str (g r)=V.str w)).length=((l.map g).filter fun s=>decide (V.str s=V.str w)).length:=fun g l=>by
  rw [List.filter_map,List.length_map]
  rfl
 rw [g (fun r:R=>r.w),g (fun z:Kb=>z.w),List.map_take,List.map_take,e]
theorem Ok.XX (h:p.Ok) (F:Mz K aB aP aM) {rows:List R} {ls:List (List Ln)} {i:Nat} (hi:i<3 * p.m+1) (B:FQ K aB aP aM rows (BW p.c p.sz) p.rk ((Bu p.c p.kb).take i) ls) :
  FQ K aB aP aM (rows++[Gh p.c i (p.f i)]) (BW p.c p.sz) p.rk ((Bu p.c p.kb).take (i+1)) (ls++[[]]):=by
 have h4:=h.m4
 have hz:=Gs hi
 have ho:=h.Vw hi
 have hroom:=h.room hz
 rw [← Uk] at hroom
 have ek:(Bu p.c p.kb).take (i+1)=(Bu p.c p.kb).take i++[Gh p.c i (p.f i)]:=by
  rw [List.take_add_one,DW hz]
  rfl
 rw [ek]
 have tk:∀ {α:Type} {l:List α} {x:α},x∈l->x∈l.take l.length:=fun h=>by rw [List.take_length]; exact h
 have f1:∀ b∈BW p.c p.sz,b.1 ≠ p.c (30+i):=fun b hb e=>by
  obtain ⟨j,_,hj,rfl⟩:=Kd h4 (tk hb)
  unfold c at e
  rw [JB] at e
  exact Mx e
 have f2:∀ r∈p.rk,r.1 ≠ p.c (30+i):=fun r hr e=>by
  obtain ⟨j,_,hj,rfl⟩:=J0 (tk hr)
  unfold c at e
  rw [JB] at e
  exact Mx e
 have f3:∀ k∈(Bu p.c p.kb).take i,k.nm ≠ p.c (30+i):=fun r hr e=>by
  obtain ⟨j,hj,hj2,e2⟩:=Us hr
  have e3:=e2.symm.trans e
  unfold c at e3
  rw [JB,JB] at e3
  obtain ⟨g1,g2⟩:=two_inj e3
  have:=PQ hj2 hi g1 g2
  omega
 have hn:isNm (p.c (30+i)):=by
  unfold c
  rw [JB]
  obtain ⟨a,b,c',d⟩:=aX h4 hi
  exact Xb a b c' d
 have hb:∀ {a:Nat},a<p.m->isNm (p.c a)/\(p.c a,p.kk)∈BW p.c p.sz:=fun {a} ha=>by
  have e:=Fy (p:=p) ha h4
  unfold c at e ⊢
  rw [Ij (by omega)]
  exact ⟨M6 (by omega) (by omega),List.mem_of_getElem? e⟩
 generalize p.f i=z at ho hroom ⊢
 cases z with
 | cp a b s0 =>
  obtain ⟨ha,hb',hs0,hs1⟩:=ho
  have hm:Fg "coupler" = 12:=by decide +kernel
  have hroom':(((Bu p.c p.kb).take i).filter fun r=>decide (V.str r.w=V.str "coupler")).length<Fg "coupler":=hroom
  exact B.Rn F hn f1 f2 f3 (by omega) (hb ha).1 (hb ha).2 (hb hb').1 (hb hb').2 hs0 hs1
 | pl w0 a =>
  obtain ⟨ha,hw⟩:=ho
  exact B.plain F (by rcases hw with e | e; exact .inr e; exact .inl e) hn f1 f2 f3 hroom (hb ha).1 (hb ha).2
theorem Ok.fJ (h:p.Ok):(p.rk.map (·.1)).Nodup:=by
 refine Hg fun i j x hi hj=>?_
 rw [List.getElem?_map] at hi hj
 obtain ⟨a,ha,rfl⟩:=Option.map_eq_some_iff.mp hi
 obtain ⟨b,hb,e⟩:=Option.map_eq_some_iff.mp hj
 have l1:=(List.getElem?_eq_some_iff.mp ha).1
 have l2:=(List.getElem?_eq_some_iff.mp hb).1
 rw [Ha] at l1 l2
 rw [HX l1] at ha
 rw [HX l2] at hb
 cases ha
 cases hb
 have:=one_inj e
 omega
theorem Ok.bnd (h:p.Ok):((BW p.c p.sz).map (·.1)).Nodup:=by
 refine Hg fun i j x hi hj=>?_
 rw [List.getElem?_map] at hi hj
 obtain ⟨a,ha,rfl⟩:=Option.map_eq_some_iff.mp hi
 obtain ⟨b,hb,e⟩:=Option.map_eq_some_iff.mp hj
 have l1:=(List.getElem?_eq_some_iff.mp ha).1
 have l2:=(List.getElem?_eq_some_iff.mp hb).1
 rw [Fo,Eo] at l1 l2
 rw [Fy l1 h.m4] at ha
 rw [Fy l2 h.m4] at hb
 cases ha
 cases hb
 have:=one_inj e
 omega
theorem Ok.knd (h:p.Ok):((Bu p.c p.kb).map (·.nm)).Nodup:=by
 refine Hg fun i j x hi hj=>?_
 rw [List.getElem?_map] at hi hj
 obtain ⟨a,ha,rfl⟩:=Option.map_eq_some_iff.mp hi
 obtain ⟨b,hb,e⟩:=Option.map_eq_some_iff.mp hj
 obtain ⟨z1,g1,rfl⟩:=DK ha
 obtain ⟨z2,g2,rfl⟩:=DK hb
 rw [Ju,Ju] at e
 unfold c at e
 rw [JB,JB] at e
 obtain ⟨e1,e2⟩:=two_inj e
 exact (PQ (Cu g2).1 (Cu g1).1 e1 e2).symm
theorem Ok.line (h:p.Ok) (F:Mz K aB aP aM) {rows:List R} {i:Nat} (hi:i<p.m) (B:FQ K aB aP aM rows (BW p.c p.sz) p.rk ((Bu p.c p.kb).take i) (p.ls.take i)) :
  FQ K aB aP aM (rows++[Gh p.c i (p.f i)]++[⟨"line",rN i,[.int 0,.int 0,.int ((p.kk:Int) - 1)]⟩]) (BW p.c p.sz) p.rk ((Bu p.c p.kb).take (i+1)) (p.ls.take (i+1)):=by
 have h4:=h.m4
 have B1:=h.XX F (i:=i) (by omega) B
 have ef:Gh p.c i (p.f i)=⟨"stop",p.c (30+i),[.str (wN i)]⟩:=by
  unfold f
  rw [if_pos hi]
  show R.mk "stop" _ [.str (p.c i)]=_
  rw [show p.c i=wN i from Ij (by omega)]
 have el:p.ls.take (i+1)=p.ls.take i++[[]++[⟨i,0,0,(p.kk:Int) - 1⟩]]:=by
  rw [List.take_add_one,I_ (by omega)]
  unfold lf
  rw [if_pos hi]
  rfl
 rw [el]
 have k1:=h.k1
 have k61:=h.k61
 refine B1.line F (bd:=wN i) (cnt:=0) (by rw [ef]; exact Tl.stop _ _ _) (by decide) (HX hi) h.fJ (M6 (by omega) (by omega)) (n:=p.kk) (List.mem_of_getElem? (Fy hi h4)) (by omega) (by omega) (by decide) (by decide) (by decide) (by omega)
theorem Ok.more (h:p.Ok) (F:Mz K aB aP aM) {rows:List R} {i:Nat} (hm:p.m<=i) (hi:i<3 * p.m+1) (B:FQ K aB aP aM rows (BW p.c p.sz) p.rk ((Bu p.c p.kb).take i) (p.ls.take i)) :
  FQ K aB aP aM (rows++[Gh p.c i (p.f i)]) (BW p.c p.sz) p.rk ((Bu p.c p.kb).take (i+1)) (p.ls.take (i+1)):=by
 have el:p.ls.take (i+1)=p.ls.take i++[[]]:=by
  rw [List.take_add_one,I_ hi]
  unfold lf
  rw [if_neg (by omega)]
  rfl
 rw [el]
 exact h.XX F hi B
theorem Ok.fY (h:p.Ok) {l:List Ln} (hl:l∈p.ls):l.length<=1/\∀ ln∈l,∃ i,i<p.m/\ln=⟨i,0,0,(p.kk:Int) - 1⟩:=by
 obtain ⟨i,_,rfl⟩:=List.mem_map.mp hl
 unfold lf
 split
 ·exact ⟨Nat.le_refl _,fun ln hln=>⟨i,by assumption,List.mem_singleton.mp hln⟩⟩
 ·exact ⟨Nat.zero_le _,fun ln hln=>nomatch hln⟩
end CN
end Og
namespace Og
open PySem L2
inductive O_ (st:Nat × Nat->Nat × Nat->Prop) (p0:Nat × Nat):Nat × Nat->Prop
 | one {q}:st p0 q->O_ st p0 q
 | more {p q}:O_ st p0 p->st p q->O_ st p0 q
noncomputable def Hw (ts:List (Nat × Nat × Int)) (kk:Nat) (p q:Nat × Nat):Prop:=∃ t∈ts,t.1=p.1/\t.2.1=q.1/\(q.2:Int)=(p.2:Int)+t.2.2/\q.2<kk
theorem Mf (a b:List (Str × Nat)):∃ t,Dq (a++b)=Dq a++t:=by
 unfold Dq
 rw [List.zipIdx_append,List.flatMap_append]
 exact ⟨_,rfl⟩
theorem VH {bs:List (Str × Nat)} {i n:Nat} {b:Str × Nat} (h:bs[i]? = some b) (hn:n<b.2):(Dq bs)[((bs.take i).map (·.2)).sum+n]? = some (i,n):=by
 obtain ⟨t,e⟩:=Mf (bs.take (i+1)) (bs.drop (i+1))
 rw [List.take_append_drop] at e
 have hl:=Ef (bs.take i)
 rw [e,Ff h,List.append_assoc,List.getElem?_append_right (by omega),← hl,Nat.add_sub_cancel_left,List.getElem?_append_left (by rw [List.length_map,List.length_range]; exact hn),List.getElem?_map,List.getElem?_range hn]
 rfl
namespace CN
variable {p:CN}
theorem Gk {j:Nat} (h:j<=p.m):(p.sz.take j).sum=p.kk * j:=by
 unfold sz
 rw [List.take_replicate,List.sum_replicate_nat,Nat.min_eq_left h,Nat.mul_comm]
theorem Qi {j:Nat} (h:j<=p.m):(((BW p.c p.sz).take j).map (·.2)).sum=p.kk * j:=by
 rw [List.map_take,Bx,Gk h]
theorem Qm:p.sz.sum=p.kk * p.m:=by
 have:=Gk (p:=p) (Nat.le_refl _)
 rw [← this,List.take_of_length_le (by rw [Eo]; omega)]
theorem Ok.gl (h:p.Ok) {b n:Nat} (hb:b<p.m) (hn:n<p.kk) {j1 j2:Nat} {s:Int} (h2:j2<p.m):gl (BW p.c p.sz) (.cp j1 j2 s) (p.kk * b+n)=if b=j1/\0<=(n:Int)+s/\(n:Int)+s<p.kk then some ((p.kk * j2:Nat)+((n:Int)+s)).toNat else none:=by
 have e1:=Fy (p:=p) hb h.m4
 have e2:=Fy (p:=p) h2 h.m4
 have e3:=VH e1 hn
 rw [Qi (by omega)] at e3
 have e:Og.gl (BW p.c p.sz) (.cp j1 j2 s) (p.kk * b+n)=match JR (BW p.c p.sz) j1 j2 s (b,n) p.kk with | .int v=>some v.toNat | _=>none:=by
  simp only [Og.gl,e3,e2]
  first | done | rfl
 rw [e]
 unfold JR
 rw [Qi (by omega)]
 split
 ·rename_i heq
  split at heq
  ·cases heq
   rw [if_pos (by assumption)]
  ·cases heq
 ·rename_i h1 h2
  split at h2
  ·exact absurd rfl (h2 _)
  ·rw [if_neg (by assumption)]
noncomputable def Xq (p:CN) (D:Nat) (ts:List (Nat × Nat × Int)):Prop:=∀ i j s,(i,j,s)∈ts ↔ ∃ k,p.kb[k]? = some (.cp i j s)/\D.testBit k=true
theorem Ok.stp (h:p.Ok) {D:Nat} {ts:List (Nat × Nat × Int)} (T:p.Xq D ts) {b n:Nat} (hb:b<p.m) (hn:n<p.kk) (j:Nat):stp (BW p.c p.sz) p.kb D (p.kk * b+n) j ↔ ∃ q,Hw ts p.kk (b,n) q/\j=p.kk * q.1+q.2:=by
 constructor
 ·rintro ⟨k,z,hd,hz,hg⟩
  obtain ⟨hk,rfl⟩:=Cu hz
  have ho:=h.Vw hk
  cases ez:p.f k with
  | pl w a=>rw [ez] at hg; cases hg
  | cp j1 j2 s =>
   rw [ez] at hg ho hz
   obtain ⟨o1,o2,_⟩:=ho
   rw [h.gl hb hn o2] at hg
   split at hg
   ·rename_i hc
    obtain ⟨rfl,c1,c2⟩:=hc
    refine ⟨(j2,((n:Int)+s).toNat),⟨(b,j2,s),(T _ _ _).mpr ⟨k,hz,hd⟩,rfl,rfl,?_,?_⟩,?_⟩
    ·show ((((n:Int)+s).toNat:Nat):Int)=(n:Int)+s
     omega
    ·show ((n:Int)+s).toNat<p.kk
     omega
    ·have:=Option.some.inj hg
     show j=p.kk * j2+((n:Int)+s).toNat
     omega
   ·cases hg
 ·rintro ⟨⟨x,y⟩,⟨⟨i,j',s⟩,ht,e1,e2,e3,e4⟩,rfl⟩
  obtain ⟨k,hk,hd⟩:=(T _ _ _).mp ht
  dsimp only at e1 e2 e3 e4
  subst e1 e2
  obtain ⟨hk',e⟩:=Cu hk
  have ho:=h.Vw hk'
  rw [← e] at ho
  obtain ⟨o1,o2,_⟩:=ho
  refine ⟨k,_,hd,hk,?_⟩
  rw [h.gl hb hn o2,if_pos ⟨rfl,by omega,by omega⟩]
  congr 1
  dsimp only
  omega
theorem Ok.on (h:p.Ok) {D:Nat} {ts:List (Nat × Nat × Int)} (T:p.Xq D ts) {a q:Nat × Nat} (s:Hw ts p.kk a q):q.1<p.m/\q.2<p.kk:=by
 obtain ⟨⟨i,j',s⟩,ht,e1,e2,e3,e4⟩:=s
 obtain ⟨k,hk,hd⟩:=(T _ _ _).mp ht
 obtain ⟨hk',e⟩:=Cu hk
 have ho:=h.Vw hk'
 rw [← e] at ho
 obtain ⟨o1,o2,_⟩:=ho
 exact ⟨e2 ▸ o2,e4⟩
theorem Ok.bh (h:p.Ok) {D:Nat} {ts:List (Nat × Nat × Int)} (T:p.Xq D ts) {b n:Nat} (hb:b<p.m) (hn:n<p.kk) {ps:List (Nat × Nat)} (h1:∀ q∈ps,O_ (Hw ts p.kk) (b,n) q) (h2:∀ a,(a=(b,n) \/ a∈ps)->∀ q,Hw ts p.kk a q->q∈ps) (j:Nat) :
  (∃ q∈ps,j=p.kk * q.1+q.2) ↔ Ke (Og.stp (BW p.c p.sz) p.kb D) (fun a=>a=p.kk * b+n) j:=by
 have on:∀ q∈ps,q.1<p.m/\q.2<p.kk:=fun q hq=>by
  cases h1 q hq with
  | one s=>exact h.on T s
  | more _ s=>exact h.on T s
 refine Ke.all (W:=fun j=>∃ q∈ps,j=p.kk * q.1+q.2) ?_ ?_ j
 ·rintro j ⟨q,hq,rfl⟩
  have r:=h1 q hq
  clear hq
  induction r with
  | one s=>exact .one rfl ((h.stp T hb hn _).mpr ⟨_,s,rfl⟩)
  | @more a q r s ih =>
   have oa:a.1<p.m/\a.2<p.kk:=by
    cases r with
    | one s=>exact h.on T s
    | more _ s=>exact h.on T s
   exact .more ih ((h.stp T oa.1 oa.2 _).mpr ⟨_,s,rfl⟩)
 ·intro i hi j hs
  rcases hi with rfl | ⟨a,ha,rfl⟩
  ·obtain ⟨q,hq,rfl⟩:=(h.stp T hb hn _).mp hs
   exact ⟨q,h2 _ (.inl rfl) q hq,rfl⟩
  ·obtain ⟨oa1,oa2⟩:=on a ha
   obtain ⟨q,hq,rfl⟩:=(h.stp T oa1 oa2 _).mp hs
   exact ⟨q,h2 _ (.inr ha) q hq,rfl⟩
end CN
end Og
namespace L2
open PySem PySem.Spec PyProof.Rows
section
variable {X:Cx} {o e f:Expr} {apos cpos:Pos} {td ty tx:TE}
end
end L2
namespace L2
open PySem PySem.Spec PyProof.Rows
end L2
namespace L2
open PySem PySem.Spec PyProof.Rows
end L2
namespace L2
open PySem PySem.Spec PyProof.Rows
end L2
namespace PySem
open Sem (wp)
namespace F
end F
end PySem
namespace L2
open PySem PySem.Spec PySem.Calls PyProof.Rows
section
variable {X:Cx}
end
end L2
namespace L2
open PySem PySem.Spec PyProof.Rows
section
variable {prog:Program} {w:World} {A:Around} {E:Value->Shared->Prop} {s:Shared}
noncomputable def Hb (d:Addr) (ks:List Value) (ep:Nat) (h:Heap):Prop:=∃ o es,h.get? d=some o/\o.ExactDict/\o.data=.dict es ep/\es.toList.map (·.key)=ks
theorem Hb.ty {d ks ep} (x:Hb d ks ep s.heap):s.TypeIs (.ref d) "dict":=let ⟨o,_,g,c,_⟩:=x; ⟨o,g,c.1⟩
theorem Hb.lt {d ks ep} {h:Heap} (x:Hb d ks ep h):d<h.objs.size:=let ⟨_,_,g,_⟩:=x; Heap.lt_size g
theorem Hb.mv {d ks ep} {h h':Heap} (x:Hb d ks ep h) (e:∀ o,h.get? d=some o->h'.get? d=some o):Hb d ks ep h':=let ⟨o,es,g,r⟩:=x; ⟨o,es,e _ g,r⟩
theorem Jw {es:Array DictEntry} {ks:List Value} (h:es.toList.map (·.key)=ks):es.size=ks.length:=by
 rw [← h,List.length_map,Array.length_toList]
theorem Pg {d:Addr} {ks:List Value} {ep:Nat} {Q:Value->Shared->Prop} (hd:(d == sysModules)=false) (R:Hb d ks ep s.heap)
  (q:Q (.ref s.heap.objs.size) { s with heap:=s.heap.push { cls:=.type "dict_keyiterator",data:=.fields #[.ref d,.int 0 0,.int ks.length 0,.int ep 0] } }) :
  wpAny (model prog w) A (pyIter (.ref d)) Q E s:=by
 obtain ⟨o,es,g1,_,g3,g4⟩:=id R
 have ty:=R.ty
 refine wpAny_pyIter_slot ty F.slot_dict_iter (wpAny_call_entry F.slot_dict_iter ty F.entry_dict_iter ?_ (F.args_dict_iter_1 _))
 unfold Builtin.«dict.__iter__»
 refine wpAny_bind ?_
 unfold Builtin.Dict.dictSlotNone
 refine wpAny_bind (wpAny_notOrdered_dict ty ?_)
 show wpAny _ _ (pure (Value.ref d)) _ _ s
 refine wpAny_pure ?_
 show wpAny _ _ (Builtin.Dict.showsAll d >>= _) _ _ s
 unfold Builtin.Dict.showsAll
 rw [if_neg (by rw [hd]; decide)]
 refine wpAny_bind (wpAny_pure (wpAny_bind (wpAny_dictEntries g1 g3 (wpAny_bind (wpAny_dictEpoch g1 g3 ?_)))))
 have z:=Jw g4
 refine wpAny_bind (wpAny_newObj_type (wpAny_pure ⟨_,rfl,"dict_keyiterator",_,⟨_,Heap.get?_push_size _ rfl,rfl⟩,F.slot_dict_keyiterator_next.lookup,?_⟩))
 simpa [rawInt,z] using q
theorem PL {it d:Addr} {i ep:Nat} {ks:List Value} {v:Value} {Q:Option Value->Shared->Prop} (J:s.heap.IsKeyIter it d i ks.length ep) (R:Hb d ks ep s.heap) (hx:ks[i]? = some v)
  (q:∀ h',h'.IsKeyIter it d (i+1) ks.length ep->Heap.SameBut it s.heap h'->Q (some v) { s with heap:=h' }):wpAny (model prog w) A (pyNext (.ref it)) Q E s:=by
 obtain ⟨o,j1,j2,j3⟩:=id J
 obtain ⟨od,es,g1,_,g3,g4⟩:=id R
 unfold pyNext
 refine wpAny_bind (wpAny_attempt (wpAny_callSpecial?_slot (name:=Str.ofString "__next__") J.typeIs F.slot_dict_keyiterator_next (wpAny_call_entry F.slot_dict_keyiterator_next J.typeIs F.entry_dict_keyiterator_next ?_ (F.args_dict_keyiterator_next_1 _))))
 refine wpAny_bind (wpAny_pure (wpAny_bind (wpAny_bind ?_)))
 first | refine wpAny_bind (wpAny_typeNameOfWhole_keyiter J.typeIs (wpAny_pure (wpAny_bind (wpAny_fieldsOf j1 j3 ?_)))) | refine wpAny_bind (wpAny_typeNameOf_keyiter J.typeIs (wpAny_pure (wpAny_bind (wpAny_fieldsOf j1 j3 ?_))))
 simp only [show Builtin.Dict_items.ownsTuple "dict_keyiterator" = false by decide,Bool.false_eq_true,if_false]
 show wpAny _ _ (if (Value.ref d == Value.none)=true then _ else _) _ _ s
 rw [if_neg (show ¬ ((Value.ref d == Value.none)=true) by intro z; exact Bool.false_ne_true z)]
 refine wpAny_bind (wpAny_pure (wpAny_bind (wpAny_dictEntries g1 g3 ?_)))
 have z:=Jw g4
 rw [if_neg (by rw [z]; simp)]
 refine wpAny_bind (wpAny_pure (wpAny_bind (wpAny_dictEpoch g1 g3 ?_)))
 rw [if_neg (by simp)]
 refine wpAny_pure ?_
 have lt1:i<ks.length:=(List.getElem?_eq_some_iff.mp hx).1
 have lt2:i<es.size:=by rw [z]; exact lt1
 have ek:es[i].key=v:=by
  rw [← g4,List.getElem?_map,Array.getElem?_toList,Array.getElem?_eq_getElem lt2] at hx
  exact Option.some.inj hx
 simp only [show ¬ ((i:Int)<0) from by omega,if_false,Int.toNat_natCast,Array.getElem?_eq_getElem lt2]
 refine wpAny_bind ?_
 first | refine wpAny_bind (wpAny_typeNameOfWhole_keyiter J.typeIs (wpAny_pure (wpAny_bind (wpAny_isOneOf_keyiter J.typeIs ?_)))) | refine wpAny_bind (wpAny_typeNameOf_keyiter J.typeIs (wpAny_pure (wpAny_bind (wpAny_isOneOf_keyiter J.typeIs ?_))))
 show wpAny _ _ (setField (.ref it) 1 (rawInt ((i:Int)+1)) >>= _) _ _ s
 refine wpAny_bind (wpAny_setField j1 j3 (by simp) ?_)
 have J':(s.heap.update it (Obj.mapFields (·.setIfInBounds 1 (rawInt ((i:Int)+1))))).IsKeyIter it d (i+1) ks.length ep :=
  ⟨_,Heap.get?_update_self _ j1 (Obj.isFreed_of_fields (Obj.data_mapFields j3 _)),(Obj.cls_mapFields ..).trans j2,by rw [Obj.data_mapFields j3]; simp [rawInt]⟩
 refine wpAny_bind (wpAny_holding ?_)
 refine wpAny_bind (wpAny_isOneOf_keyiter (s:={ s with heap:=s.heap.update it (Obj.mapFields (·.setIfInBounds 1 (rawInt ((i:Int)+1)))) }) J'.typeIs ?_)
 show wpAny _ _ (pure es[i].key) _ _ _
 rw [ek]
 exact wpAny_pure (wpAny_pure ⟨_,rfl,wpAny_pure (q _ J' (Heap.SameBut.update ..))⟩)
theorem SN {it d:Addr} {i ep:Nat} {ks:List Value} {Q:Option Value->Shared->Prop} (hh:A.handled=none) (J:s.heap.IsKeyIter it d i ks.length ep) (R:Hb d ks ep s.heap) (hx:ks.length<=i)
  (q:∀ h',Heap.ExtBut it s.heap h'->Q none { s with heap:=h' }):wpAny (model prog w) A (pyNext (.ref it)) Q E s:=by
 obtain ⟨o,j1,j2,j3⟩:=id J
 obtain ⟨od,es,g1,_,g3,g4⟩:=id R
 unfold pyNext
 refine wpAny_bind (wpAny_attempt (wpAny_callSpecial?_slot (name:=Str.ofString "__next__") J.typeIs F.slot_dict_keyiterator_next (wpAny_call_entry F.slot_dict_keyiterator_next J.typeIs F.entry_dict_keyiterator_next ?_ (F.args_dict_keyiterator_next_1 _))))
 refine wpAny_bind (wpAny_pure (wpAny_bind (wpAny_bind ?_)))
 first | refine wpAny_bind (wpAny_typeNameOfWhole_keyiter J.typeIs (wpAny_pure (wpAny_bind (wpAny_fieldsOf j1 j3 ?_)))) | refine wpAny_bind (wpAny_typeNameOf_keyiter J.typeIs (wpAny_pure (wpAny_bind (wpAny_fieldsOf j1 j3 ?_))))
 simp only [show Builtin.Dict_items.ownsTuple "dict_keyiterator" = false by decide,Bool.false_eq_true,if_false]
 show wpAny _ _ (if (Value.ref d == Value.none)=true then _ else _) _ _ s
 rw [if_neg (show ¬ ((Value.ref d == Value.none)=true) by intro z; exact Bool.false_ne_true z)]
 refine wpAny_bind (wpAny_pure (wpAny_bind (wpAny_dictEntries g1 g3 ?_)))
 have z:=Jw g4
 rw [if_neg (by rw [z]; simp)]
 refine wpAny_bind (wpAny_pure (wpAny_bind (wpAny_dictEpoch g1 g3 ?_)))
 rw [if_neg (by simp)]
 refine wpAny_pure ?_
 have ge:es.size<=i:=by rw [z]; exact hx
 simp only [show ¬ ((i:Int)<0) from by omega,if_false,Int.toNat_natCast,Array.getElem?_eq_none ge]
 refine wpAny_bind ?_
 first | refine wpAny_bind (wpAny_typeNameOfWhole_keyiter J.typeIs (wpAny_pure ?_)) | refine wpAny_bind (wpAny_typeNameOf_keyiter J.typeIs (wpAny_pure ?_))
 show wpAny _ _ (setField (.ref it) 0 .none >>= _) _ _ s
 refine wpAny_bind (wpAny_setField j1 j3 (by simp) ?_)
 show wpAny _ _ (newExc (.type "StopIteration") [] >>= _) _ _ _
 refine wpAny_bind ?_
 simp only [newExc,newTuple]
 refine wpAny_bind (wpAny_newObj_type (wpAny_bind (m:=firstArgMember _ _) (wpAny_of_eq (a:=Value.none) (by first | rfl | (simp only [firstArgMember]; rfl)) (wpAny_newObj_type ?_ (by size_fits)))) (by size_fits))
 simp only [raiseNew]
 refine wpAny_bind (wpAny_handled ?_)
 rw [show A.in1.handled=none from hh]
 refine wpAny_bind (wpAny_pure (wpAny_throw ?_))
 refine wpAny_bind (wpAny_isInstance (T:="StopIteration") (b:=true) ⟨_,Heap.get?_push_size _ (by rfl),by rfl⟩ isSubtype_stop ?_)
 exact wpAny_pure (q _ (((Heap.SameBut.update ..).extBut.push _).push _))
theorem Oo (hh:A.handled=none) (I d:Addr) (ne:d ≠ I) (ks:List Value) (ep:Nat):Walks prog w A I [I,d] [I] ks.length (fun i v=>ks[i]? = some v) (fun i h=>h.IsKeyIter I d i ks.length ep/\Hb d ks ep h) where
 sub:=fun b hb=>by simp at hb; simp [hb]
 frame:=fun _ _ _ st hk=>⟨st.1.at fun o e=>hk I (by simp) o e,st.2.mv fun o e=>hk d (by simp) o e⟩
 item:=fun i s Q E hi st k=>by
  have hx:ks[i]? = some ks[i]:=List.getElem?_eq_getElem hi
  exact PL st.1 st.2 hx fun h' J' b'=>k _ h' s.toks hx ⟨J',st.2.mv fun o e=>b'.extBut d o ne e⟩ fun b o hb e=>b'.extBut b o (fun h=>hb (by simp [h])) e
 done:=fun s Q E st k=>SN hh st.1 st.2 (Nat.le_refl _) fun h' b'=>k h' s.toks fun b o hb e=>b' b o (fun h=>hb (by simp [h])) e
 self:=fun _ _ _ _ st k=>wpAny_pyIter_keyiter st.1 k
theorem R1 {d:Addr} {ks:List Value} {ep:Nat} (lo:(d == sysModules)=false):PySem.W.KdlSrc prog w "dict" d d ks.length (fun i v=>ks[i]? = some v) (Hb d ks ep) where
 type:=fun _ R=>R.ty
 there:=fun _ R=>⟨R.lt,R.lt⟩
 keep:=fun _ _ R k=>R.mv fun o e=>k d (.inl rfl) o e
 notList:=by decide
 notTuple:=by decide
 hint:=fun _ _ _ _ R k=>PySem.W.kdl_hint_dict R.ty k
 iter:=fun _ _ hh R=>⟨_,_,(fun _ _ k=>Pg lo R k),Oo hh _ d (Nat.ne_of_lt R.lt) ks ep,⟨⟨_,Heap.get?_push_size _ rfl,rfl,rfl⟩,R.mv fun o e=>Heap.get?_push_of_some _ e⟩⟩
end
section
variable {X:Cx}
theorem Jo (hc:X.calm=true):FJ X (.type "list") (fun xs H Q=>∃ (a:Addr) (kvs:List (List Key × V)),xs=[V.ref a]/\H a=some (.dT kvs) /\
  ∀ l ts,H l=none->Paired (fun (kv:List Key × V) t=>∃ b,t=V.ref b/\H b=some (.tup (kv.1.map kV))) kvs ts->Q (.ref l) (upd H l (.lst ts))):=by
 intro pins s σ H xs us Q I r h
 obtain ⟨a,kvs,rfl,ha,q⟩:=h
 obtain ⟨u,rfl,ru⟩:=vals1 r
 cases ru
 obtain ⟨hz,lo,ys,rel,o,es,ep,e1,e2,e3,e4,e5⟩:=I.hok a _ ha
 have hl:kvs.length=ys.length:=Paired.length rel
 have R:Hb a (ys.map fun y=>Value.ref y.2.1) ep s.heap:=⟨o,es,e1,e2,e3,by rw [e4,List.map_map]; rfl⟩
 refine PySem.W.kdl_call (R1 lo) (I.ok.hd hc) R (by rw [List.length_map]; omega) ?_
 intro h' tk acc' c' hk hD hacc
 have ea:acc'.toList=ys.map fun y=>Value.ref y.2.1:=by
  refine List.ext_getElem? fun j=>?_
  have hs:acc'.toList.length=ys.length:=by rw [Array.length_toList,hacc.1,List.length_map]
  by_cases hj:j<ys.length
  ·have:=hacc.2 j (acc'.toList[j]'(by omega)) (by rw [← Array.getElem?_toList]; exact List.getElem?_eq_getElem (by omega))
   rw [List.getElem?_eq_getElem (by omega),this]
  ·rw [List.getElem?_eq_none (by omega),List.getElem?_eq_none (by rw [List.length_map]; omega)]
 have hv:Vals (ys.map fun y=>V.ref y.2.1) acc'.toList:=by
  rw [ea]
  clear ea hacc hD hl R e4 e5 rel
  induction ys with
  | nil=>exact .nil
  | cons y ys ih=>exact .cons rfl ih
 have hp:Paired (fun (kv:List Key × V) t=>∃ b,t=V.ref b/\H b=some (.tup (kv.1.map kV))) kvs (ys.map fun y=>V.ref y.2.1):=by
  clear hv ea hacc hD hl R e4 e5 ha q hz
  induction rel with
  | nil=>exact .nil
  | cons a b ih=>exact .cons ⟨_,rfl,a.2.1⟩ ih
 refine ⟨.ref s.heap.objs.size,_,I.laid (t':=tk) (o:=.lst (ys.map fun y=>V.ref y.2.1)) hk (Nat.le_refl _) ⟨by rw [List.length_map]; omega,acc'.toList,c',hv,by simpa using hD⟩,rfl,q _ _ (I.hok.fresh (Nat.le_refl _)) hp⟩
noncomputable def eZ (z y:Str):Int:=match Builtin.Str.occurrences z y 0 z.length 1 with | i::_=>(i:Int) | []=>-1
theorem M_:Ze X "str.find" (fun x xs H Q=>∃ z y,x=V.str z/\xs=[V.str y]/\Q (.int (eZ z y)) H):=by
 intro pins s σ H x xs v us Q I rx r h
 obtain ⟨z,y,rfl,rfl,q⟩:=h
 obtain ⟨t,rfl⟩:=rx
 obtain ⟨w,rfl,rw'⟩:=Vals.one r
 obtain ⟨u,rfl⟩:=rw'
 exact call_gives F.slot_str_find (typeIs_str _ _ _) F.entry_str_find (F.args_str_find_2 _ _) (gives_str_find z y t u) ⟨.int _,H,I.tok _,⟨_,rfl⟩,q⟩
end
end L2
namespace Og
open PySem L2
noncomputable abbrev O8 (q:Nat × Nat):List V:=[.int (q.1:Nat),.int (q.2:Nat)]
noncomputable def kQ (q:Nat × Nat):List Key:=[Sum.inl (q.1:Int),Sum.inl (q.2:Int)]
theorem Vr {p q:Nat × Nat} (h:kQ p=kQ q):p=q:=by
 obtain ⟨a,b⟩:=p
 obtain ⟨c,d⟩:=q
 unfold kQ at h
 injection h with h1 h2
 injection h2 with h2 _
 have e1:=Sum.inl.inj h1
 have e2:=Sum.inl.inj h2
 dsimp only at e1 e2
 rw [Int.ofNat_inj.mp e1,Int.ofNat_inj.mp e2]
noncomputable def JN (fs:List (Nat × Nat)):List (List Key × V):=fs.map fun q=>(kQ q,V.bl true)
theorem Ni (fs:List (Nat × Nat)) (q:Nat × Nat):(CZ (JN fs) (kQ q)).isSome=decide (q∈fs):=by
 induction fs with
 | nil=>rfl
 | cons p fs ih =>
  by_cases e:p=q
  ·subst e
   rw [show JN (p::fs)=(kQ p,V.bl true)::JN fs from rfl,CP rfl,decide_eq_true List.mem_cons_self]
   rfl
  ·have ne:¬ kQ p=kQ q:=fun z=>e (Vr z)
   have e2:CZ (JN (p::fs)) (kQ q)=CZ (JN fs) (kQ q):=by
    show ((((kQ p,V.bl true)::JN fs).find? fun kv=>decide (kv.1=kQ q)).map (·.2))=_
    rw [List.find?_cons_of_neg (by simpa using ne)]
    rfl
   rw [e2,ih,Bool.eq_iff_iff,decide_eq_true_eq,decide_eq_true_eq,List.mem_cons]
   exact ⟨.inr,fun z=>z.resolve_left fun w=>e w.symm⟩
theorem RZ {fs:List (Nat × Nat)} {q:Nat × Nat} (h:q ∉ fs):putK (JN fs) (kQ q) (V.bl true)=JN (fs++[q]):=by
 have e:CZ (JN fs) (kQ q)=none:=by
  have:=Ni fs q
  rw [decide_eq_false h] at this
  cases e:CZ (JN fs) (kQ q) with
  | none=>rfl
  | some v=>rw [e] at this; cases this
 rw [JD _ e]
 unfold JN
 rw [List.map_append]
 rfl
theorem NT {H:Hp} {d:Addr} {u o:HO} {xs:List V} {v:V} (h:H d=some u) (hu:∀ zs,u ≠ .tup zs) (t:TupAt H xs v):TupAt (upd H d o) xs v:=by
 obtain ⟨T,rfl,e⟩:=t
 exact ⟨T,rfl,by rw [Av (LQ e h fun z=>hu _ z.symm)]; exact e⟩
structure RP (H0 H:Hp) (d e f:Addr) (fs fr es:List (Nat × Nat)) (es' fr':List V):Prop where
 s:Al H0 H
 hd:H d=some (.dT (JN fs))
 he:H e=some (.lst es')
 hf:H f=some (.lst fr')
 pe:Paired (fun q v=>TupAt H (O8 q) v) es es'
 pf:Paired (fun q v=>TupAt H (O8 q) v) fr fr'
 nd:H0 d=none
 nf:H0 f=none
 ef:e ≠ f
section
variable {H0 H H':Hp} {d e f:Addr} {fs fr es:List (Nat × Nat)} {es' fr':List V}
theorem RP.same (h:RP H0 H d e f fs fr es es' fr') (s:Al H H'):RP H0 H' d e f fs fr es es' fr' :=
 ⟨h.s.trans s,s _ _ h.hd,s _ _ h.he,s _ _ h.hf,Paired.Hv h.pe fun _ _ t=>t.mono s,Paired.Hv h.pf fun _ _ t=>t.mono s,h.nd,h.nf,h.ef⟩
theorem RP.add (h:RP H0 H d e f fs fr es es' fr') {q:Nat × Nat} {T:Addr} (hT:H T=some (.tup (O8 q))) :
  (upd H d (.dT (JN (fs++[q])))) f=some (.lst fr')/\RP H0 (upd (upd H d (.dT (JN (fs++[q])))) f (.lst (fr'++[.ref T]))) d e f (fs++[q]) (fr++[q]) es es' (fr'++[.ref T]):=by
 have n1:f ≠ d:=LQ h.hf h.hd (by intro z; cases z)
 have n2:e ≠ d:=LQ h.he h.hd (by intro z; cases z)
 have f1:(upd H d (.dT (JN (fs++[q])))) f=some (.lst fr'):=by rw [Av n1]; exact h.hf
 have tt:∀ {xs v},TupAt H xs v->TupAt (upd (upd H d (.dT (JN (fs++[q])))) f (.lst (fr'++[.ref T]))) xs v:=fun t=>NT f1 (fun _ z=>by cases z) (NT h.hd (fun _ z=>by cases z) t)
 refine ⟨f1,fun b o z=>?_,?_,?_,Ah,Paired.Hv h.pe fun _ _ t=>tt t,(Paired.Hv h.pf fun _ _ t=>tt t).snoc (tt ⟨T,rfl,hT⟩),h.nd,h.nf,h.ef⟩
 ·rw [Av (Ao z h.nf),Av (Ao z h.nd)]
  exact h.s _ _ z
 ·rw [Av (Ne.symm n1),Ah]
 ·rw [Av h.ef,Av n2]
  exact h.he
end
structure UG (st:Nat × Nat->Nat × Nat->Prop) (p0:Nat × Nat) (fs0 fs fr:List (Nat × Nat)):Prop where
 nd:fs.Nodup
 sd:∀ q∈fs,O_ st p0 q
 a:∀ q∈fs,q∈fs0 \/ q∈fr
 b:∀ q∈fr,q∈fs
 c:∀ q∈fs0,q∈fs
 l:fs.length=fs0.length+fr.length
structure RJ (st:Nat × Nat->Nat × Nat->Prop) (p0:Nat × Nat) (fs es:List (Nat × Nat)):Prop where
 nd:fs.Nodup
 sd:∀ q∈fs,O_ st p0 q
 ed:∀ q∈es,q=p0 \/ q∈fs
 cl:∀ a,(a=p0 \/ a∈fs)->a ∉ es->∀ q,st a q->q∈fs
section
variable {st:Nat × Nat->Nat × Nat->Prop} {p0:Nat × Nat} {fs0 fs fr es:List (Nat × Nat)}
theorem RJ.start:RJ st p0 [] [p0]:=⟨List.nodup_nil,fun _ h=>(nomatch h),fun q h=>.inl (List.mem_singleton.mp h),fun a h n=>by
 rcases h with rfl | h
 ·exact absurd List.mem_cons_self n
 ·cases h⟩
theorem RJ.m (h:RJ st p0 fs es):UG st p0 fs fs []:=⟨h.nd,h.sd,fun _ z=>.inl z,fun _ z=>(nomatch z),fun _ z=>z,rfl⟩
theorem UG.add (h:UG st p0 fs0 fs fr) {q:Nat × Nat} (hq:q ∉ fs) (r:O_ st p0 q):UG st p0 fs0 (fs++[q]) (fr++[q]):=by
 refine ⟨List.nodup_append.mpr ⟨h.nd,by simp,fun a ha b hb e=>?_⟩,fun x hx=>?_,fun x hx=>?_,fun x hx=>?_,fun x hx=>List.mem_append_left _ (h.c x hx),?_⟩
 ·rw [List.mem_singleton.mp hb] at e
  exact hq (e ▸ ha)
 ·rcases List.mem_append.mp hx with z | z
  ·exact h.sd x z
  ·rw [List.mem_singleton.mp z]
   exact r
 ·rcases List.mem_append.mp hx with z | z
  ·exact (h.a x z).imp id fun z=>List.mem_append_left _ z
  ·exact .inr (List.mem_append_right _ z)
 ·rcases List.mem_append.mp hx with z | z
  ·exact List.mem_append_left _ (h.b x z)
  ·exact List.mem_append_right _ z
 ·rw [List.length_append,List.length_append,h.l,Nat.add_assoc]
theorem RJ.next (h:RJ st p0 fs0 es) (m:UG st p0 fs0 fs fr) (dn:∀ a∈es,∀ q,st a q->q∈fs):RJ st p0 fs fr:=by
 refine ⟨m.nd,m.sd,fun q hq=>.inr (m.b q hq),fun a ha na q hs=>?_⟩
 by_cases he:a∈es
 ·exact dn a he q hs
 ·refine m.c q (h.cl a ?_ he q hs)
  rcases ha with z | z
  ·exact .inl z
  ·exact .inr ((m.a a z).resolve_right na)
theorem RJ.fin (h:RJ st p0 fs []):∀ a,(a=p0 \/ a∈fs)->∀ q,st a q->q∈fs:=fun a ha=>h.cl a ha (fun z=>nomatch z)
theorem few {l:List (Nat × Nat)} (nd:l.Nodup) (h:∀ q∈l,q.1<4/\q.2<61):l.length<=244:=by
 have n2:(l.map fun q=>q.1 * 61+q.2).Nodup:=by
  refine List.pairwise_map.mpr ?_
  refine List.Pairwise.imp_of_mem (fun {a b} ha hb ne e=>ne ?_) nd
  obtain ⟨x,y⟩:=a
  obtain ⟨z,t⟩:=b
  have:=h _ ha
  have:=h _ hb
  dsimp only at *
  congr 1 <;> omega
 have:=HR 244 n2 fun x hx=>by
  obtain ⟨q,hq,rfl⟩:=List.mem_map.mp hx
  have:=h q hq
  omega
 rw [List.length_map] at this
 exact this
theorem RC {ts:List (Nat × Nat × Int)} {kk:Nat} (h4:∀ t∈ts,t.2.1<4) (hk:kk<=61) {q:Nat × Nat} (r:O_ (Hw ts kk) p0 q):q.1<4/\q.2<61:=by
 have s1:∀ {a q},Hw ts kk a q->q.1<4/\q.2<61:=fun s=>by
  obtain ⟨t,ht,_,e2,_,e4⟩:=s
  exact ⟨by rw [← e2]; exact h4 t ht,by omega⟩
 cases r with
 | one s=>exact s1 s
 | more _ s=>exact s1 s
noncomputable def ak (d:Addr) (σ:St) (H:Hp):Nat:=match H d with
 | some (HO.dT kvs)=>2 * (400 - kvs.length)+(match σ[4]? with
  | some (some (V.ref e))=>(match H e with
   | some (HO.lst xs)=>if xs.isEmpty then 0 else 1
   | _=>0)
  | _=>0)
 | _=>0
theorem RD {d e:Addr} {σ:St} {H:Hp} {fs:List (Nat × Nat)} {xs:List V} (h1:H d=some (.dT (JN fs))) (h2:σ[4]? = some (some (.ref e))) (h3:H e=some (.lst xs)):ak d σ H=2 * (400 - fs.length)+if xs.isEmpty then 0 else 1:=by
 unfold ak
 rw [h1,h2]
 dsimp only
 rw [h3]
 unfold JN
 rw [List.length_map]
end
end Og
namespace L2
open PySem PySem.Spec PyProof.Rows
section
variable {X:Cx} {e:Expr} {te:TE} {p1 p2 q1 q2:Pos}
noncomputable def MJ (te:TE):TE:=fun σ H Q=>te σ H fun x H1=>∃ n:Nat,x=.int (n:Nat)/\n<=1000/\∀ l,H1 l=none->Q (.ref l) (upd H1 l (.lst ((List.range n).map fun (i:Nat)=>V.int (i:Int))))
theorem KZ (hc:X.calm=true) (hg:Gl X "list") (hm:X.mg "list" = none) (hg2:Gl X "range") (hm2:X.mg "range" = none) (he:PE X e te)
  (hs1:starEach [.Call (.Name "range" p2) [e] [] q2] X.env=[(false,eval (.Call (.Name "range" p2) [e] [] q2) X.env)]:=by rfl) (hs2:starEach [e] X.env=[(false,eval e X.env)]:=by rfl) (hs3:starEach ([]:List Expr) X.env=[]:=by rfl) :
  PE X (.Call (.Name "list" p1) [.Call (.Name "range" p2) [e] [] q2] [] q1) (MJ te):=by
 intro pins s σ H Q I h
 refine wpAny_Call_Name_kw (Ez I hg hm PyProof.Rows.boot_list ?_ (by decide) (by decide))
 refine PyProof.Rows.callWith_type1 ?_ (by rw [hs1,hs3]) (by rw [hs3]; rfl)
 rw [hs1]
 show wpAny _ _ (spliced [(false,eval (.Call (.Name "range" p2) [e] [] q2) X.env)]) _ _ s
 refine Calls.spliced_cons ?_
 refine wpAny_Call_Name_kw (Ez I hg2 hm2 PyProof.Rows.boot_range ?_ (by decide) (by decide))
 refine PyProof.Rows.callWith_type1 ?_ (by rw [hs2,hs3]) (by rw [hs3]; rfl)
 rw [hs2]
 show wpAny _ _ (spliced [(false,eval e X.env)]) _ _ s
 refine Calls.spliced_cons (Bo (he pins s σ H _ I h) fun u s1 hq0=>?_)
 obtain ⟨x,H1,I1,r1,n,ex,hn,q⟩:=hq0
 subst ex
 obtain ⟨t,rfl⟩:=r1
 refine Calls.spliced_nil ?_
 refine call_range_1 ?_
 refine Calls.spliced_nil ?_
 have hsz:(s1.heap.push { cls:=.type "range",data:=.fields #[.int 0 s1.toks,.int (n:Int) t,.int 1 (s1.toks+1)] }).objs.size=s1.heap.objs.size+1:=by simp [Heap.push]
 refine call_list_range (a:=0) (b:=(n:Int)) (c:=1) (n:=n) (I1.ok.hd hc) (Heap.get?_push_size _ rfl) ?_ ?_ ?_ fun h' tk acc' c' hk hD hacc=>?_
 ·exact small_one (by omega) (by omega) (by omega) (by omega)
 ·rw [rangeSize_one]
  split <;> omega
 ·exact Nat.le_trans hn (by decide)
 rw [hsz] at hD ⊢
 have hv:Vals ((List.range n).map fun (i:Nat)=>V.int (i:Int)) acc'.toList:=by
  refine Mu (by have h1:acc'.toList.length=acc'.size:=Array.length_toList; have h2:=hacc.1; rw [List.length_map,List.length_range]; omega) fun j x u hx hu=>?_
  rw [Array.getElem?_toList] at hu
  obtain ⟨t',e'⟩:=hacc.2 j u hu
  have hj:j<n:=by have:=(List.getElem?_eq_some_iff.mp hx).1; rwa [List.length_map,List.length_range] at this
  rw [List.getElem?_map,List.getElem?_range hj] at hx
  cases hx
  exact ⟨t',by rw [e']; congr 1; omega⟩
 refine ⟨.ref (s1.heap.objs.size+1),_,I1.laid (t':=tk) (o:=.lst ((List.range n).map fun (i:Nat)=>V.int (i:Int))) (fun b o e=>hk b o (Heap.get?_push_of_some _ e)) (Nat.le_succ _) ⟨by rw [List.length_map,List.length_range]; exact Nat.le_of_lt (Aq hn),acc'.toList,c',hv,by simpa using hD⟩,rfl,q _ (I1.hok.fresh (Nat.le_succ _))⟩
end
end L2
section PartK31a
set_option maxHeartbeats 4000000
namespace K31
open PySem L2 Og
noncomputable def top (i:Nat):Stmt:=PySem.Challenge.pw_windchest_k31_whole_chains_and_rings.main.body.getD i (.Pass ⟨0,0,0,0⟩)
noncomputable abbrev cJ:Stmt:=top 8
noncomputable abbrev Zt:Stmt:=top 9
noncomputable abbrev cC:Stmt:=top 10
noncomputable abbrev Zi:Stmt:=top 42
noncomputable abbrev Z2:Stmt:=top 43
noncomputable abbrev bY:Stmt:=top 44
noncomputable abbrev Zw:Stmt:=top 45
noncomputable abbrev Z6:Stmt:=top 46
noncomputable abbrev aq:Stmt:=top 47
noncomputable abbrev Zf:Stmt:=top 48
noncomputable abbrev Z8:Stmt:=top 49
noncomputable abbrev aL:Stmt:=top 51
noncomputable abbrev dI:Stmt:=top 52
noncomputable abbrev eE:Stmt:=top 53
noncomputable abbrev cQ:Stmt:=top 54
noncomputable abbrev cR:Stmt:=top 57
noncomputable abbrev Zx:Stmt:=top 58
noncomputable abbrev Zr:Stmt:=top 59
noncomputable abbrev au:Stmt:=top 60
noncomputable abbrev bC:Stmt:=top 13
noncomputable abbrev Z4:Stmt:=top 14
noncomputable abbrev d_:Stmt:=top 15
noncomputable abbrev Zv:Stmt:=top 16
noncomputable abbrev cT:Stmt:=top 17
noncomputable abbrev aG:Stmt:=top 18
noncomputable abbrev dD:Stmt:=top 20
noncomputable abbrev Wq:Stmt:=top 21
noncomputable abbrev YM:Stmt:=top 30
noncomputable abbrev dw:Stmt:=top 31
noncomputable abbrev Z3:Stmt:=top 32
noncomputable abbrev cI:Stmt:=top 33
noncomputable abbrev Zc:Stmt:=top 23
noncomputable abbrev Zu:Stmt:=top 24
noncomputable abbrev dj:Stmt:=top 25
noncomputable abbrev d8:Stmt:=top 26
noncomputable abbrev Zk:Stmt:=top 27
noncomputable abbrev Zh:Stmt:=top 28
noncomputable abbrev dJ:Stmt:=top 64
noncomputable abbrev dh:Stmt:=top 65
noncomputable abbrev cz:Stmt:=top 66
noncomputable abbrev Z0:Stmt:=top 67
noncomputable abbrev bI:Stmt:=top 68
noncomputable abbrev RM:Stmt:=inClass (top 62) 0
noncomputable abbrev cH:Stmt:=inClass (top 62) 2
noncomputable abbrev bJ:Stmt:=inClass (top 62) 5
noncomputable abbrev Z9:Stmt:=inClass (top 62) 7
noncomputable abbrev bA:Stmt:=inClass (top 62) 8
noncomputable abbrev aF:Stmt:=inClass (top 62) 13
noncomputable abbrev cO:Stmt:=inClass (top 62) 15
noncomputable abbrev bj:Stmt:=inClass (top 62) 3
noncomputable abbrev dz:Stmt:=inClass (top 62) 6
noncomputable abbrev bz:Stmt:=inClass (top 62) 9
noncomputable abbrev eG:Stmt:=inClass (top 62) 14
noncomputable abbrev az:Stmt:=inClass (top 62) 16
noncomputable abbrev Zb:Stmt:=inClass (top 62) 4
noncomputable abbrev aY:Stmt:=inClass (top 34) 0
noncomputable abbrev b8:Stmt:=inClass (top 34) 1
noncomputable abbrev J2:Stmt:=top 69
structure Txt (K:PySem.W.Frag) (P:Params) (mg:Str->Option Value) (C Cy aN aK aB aP aM:Addr):Prop where
 len:mg "len" = none
 isin:mg "isinstance" = none
 int:mg "int" = none
 bool:mg "bool" = none
 str:mg "str" = none
 list:mg "list" = none
 tuple:mg "tuple" = none
 all:mg "all" = none
 any:mg "any" = none
 sum:mg "sum" = none
 range:mg "range" = none
 zip:mg "zip" = none
 enumerate:mg "enumerate" = none
 max:mg "max" = none
 reversed:mg "reversed" = none
 min:mg "min" = none
 letters:∃ t,mg "LETTERS" = some (.str letters t)
 mostL:∃ t,mg "MOST_LETTERS" = some (.int 8 t)
 mostR:∃ t,mg "MOST_ROWS" = some (.int 150 t)
 mostLn:∃ t,mg "MOST_LINES" = some (.int 4 t)
 below:∃ t,mg "MEMBERS_BELOW" = some (.int 1200 t)
 mN:mg "NAMED" = some (.ref aN)
 mK:mg "KNOBS" = some (.ref aK)
 mB:mg "BOUNDS" = some (.ref aB)
 mP:mg "PARTS" = some (.ref aP)
 mM:mg "MOST_OF" = some (.ref aM)
 tN:KTup K aN (named.map V.str)
 tK:KTup K aK [.str "stop",.str "coupler",.str "mute"]
 dB:KDict K P aB
 dP:KDict K P aP
 dM:KDict K P aM
 cl:PB K C
 mC:mg "Organ" = some (.ref C)
 clR:PB K Cy
 mCR:mg "Relays" = some (.ref Cy)
 nr_row_sets:CV K Cy "row_sets"
 n_row_list:CV K C "row_list"
 n_board_list:CV K C "board_list"
 n_rank_list:CV K C "rank_list"
 n_knob_rows:CV K C "knob_rows"
 n_board_numbers:CV K C "board_numbers"
 n_rank_numbers:CV K C "rank_numbers"
 n_knob_numbers:CV K C "knob_numbers"
 n_key_places:CV K C "key_places"
 n_pipe_places:CV K C "pipe_places"
 n_knob_lines:CV K C "knob_lines"
 n_step_sets:CV K C "step_sets"
set_option genInjectivity false in
set_option genSizeOf false in
set_option genSizeOfSpec false in
structure Ad where
 (fWh fMd fNm fRo fTo fWi fPa fHp fCl fIk fSb fWm fHr fIr fCk fNu fCa fPl fLi fMy fSt fHa fMe fSh fUn fLe fDc fLp fLq fCb fCr fMu fUk fNb fLl fBs fBa fCe fLw fLg fLs fLk fOi fOb fOc fOk fOo fBk fOp fOr fOq fOe fOs fOm fOz fRi fRr:Addr)
 (dWh dMd dNm dRo dTo dWi dPa dHp dCl dIk dSb dWm dHr dIr dCk dNu dCa dPl dLi dMy dSt dHa dMe dSh dUn dLe dDc dLp dLq dCb dCr dMu dUk dNb dLl dBs dBa dCe dLw dLg dLs dLk dOi dOb dOc dOk dOo dBk dOp dOr dOq dOe dOs dOm dOz dRi dRr:FuncData)
structure aQ (K:PySem.W.Frag) (mg:Str->Option Value) (C Cy:Addr) (aD:Ad):Prop where
 FWh:Cq K "is_whole" "is_whole" cJ aD.fWh aD.dWh∧Binds K aD.dWh ["thing"] []∧mg "is_whole" = some (.ref aD.fWh)
 FMd:Cq K "is_made_of" "is_made_of" Zt aD.fMd aD.dMd∧Binds K aD.dMd ["text","signs","most"] []∧mg "is_made_of" = some (.ref aD.fMd)
 FNm:Cq K "is_name" "is_name" cC aD.fNm aD.dNm∧Binds K aD.dNm ["thing"] []∧mg "is_name" = some (.ref aD.fNm)
 FRo:Cq K "rows_of" "rows_of" Zi aD.fRo aD.dRo∧Binds K aD.dRo ["rows","word"] []∧mg "rows_of" = some (.ref aD.fRo)
 FTo:Cq K "is_told" "is_told" Z2 aD.fTo aD.dTo∧Binds K aD.dTo ["rows","word","thing"] []∧mg "is_told" = some (.ref aD.fTo)
 FWi:Cq K "is_within" "is_within" bY aD.fWi aD.dWi∧Binds K aD.dWi ["thing","bounds"] []∧mg "is_within" = some (.ref aD.fWi)
 FPa:Cq K "is_part" "is_part" Zw aD.fPa aD.dPa∧Binds K aD.dPa ["thing","part","ahead"] []∧mg "is_part" = some (.ref aD.fPa)
 FHp:Cq K "has_parts" "has_parts" Z6 aD.fHp aD.dHp∧Binds K aD.dHp ["row","ahead"] []∧mg "has_parts" = some (.ref aD.fHp)
 FCl:Cq K "count_of_last_lines" "count_of_last_lines" aq aD.fCl aD.dCl∧Binds K aD.dCl ["rows"] []∧mg "count_of_last_lines" = some (.ref aD.fCl)
 FIk:Cq K "is_key_of" "is_key_of" Zf aD.fIk aD.dIk∧Binds K aD.dIk ["number","board","ahead"] []∧mg "is_key_of" = some (.ref aD.fIk)
 FSb:Cq K "stands_behind_stop" "stands_behind_stop" Z8 aD.fSb aD.dSb∧Binds K aD.dSb ["line","ahead"] []∧mg "stands_behind_stop" = some (.ref aD.fSb)
 FWm:Cq K "is_well_made" "is_well_made" aL aD.fWm aD.dWm∧Binds K aD.dWm ["row","ahead"] []∧mg "is_well_made" = some (.ref aD.fWm)
 FHr:Cq K "has_room" "has_room" dI aD.fHr aD.dHr∧Binds K aD.dHr ["word","ahead"] []∧mg "has_room" = some (.ref aD.fHr)
 FIr:Cq K "is_row" "is_row" eE aD.fIr aD.dIr∧Binds K aD.dIr ["thing","ahead"] []∧mg "is_row" = some (.ref aD.fIr)
 FCk:Cq K "check_rows" "check_rows" cQ aD.fCk aD.dCk∧Binds K aD.dCk ["rows"] []∧mg "check_rows" = some (.ref aD.fCk)
 FNu:Cq K "numbers_of" "numbers_of" cR aD.fNu aD.dNu∧Binds K aD.dNu ["names"] []∧mg "numbers_of" = some (.ref aD.fNu)
 FCa:Cq K "count_in_all" "count_in_all" Zx aD.fCa aD.dCa∧Binds K aD.dCa ["things"] []∧mg "count_in_all" = some (.ref aD.fCa)
 FPl:Cq K "places_of" "places_of" Zr aD.fPl aD.dPl∧Binds K aD.dPl ["things"] []∧mg "places_of" = some (.ref aD.fPl)
 FLi:Cq K "lines_by_knob" "lines_by_knob" au aD.fLi aD.dLi∧Binds K aD.dLi ["rows","rank_numbers"] []∧mg "lines_by_knob" = some (.ref aD.fLi)
 FMy:Cq K "may_be_member" "may_be_member" bC aD.fMy aD.dMy∧Binds K aD.dMy ["thing"] []∧mg "may_be_member" = some (.ref aD.fMy)
 FSt:Cq K "set_of" "set_of" Z4 aD.fSt aD.dSt∧Binds K aD.dSt ["numbers"] []∧mg "set_of" = some (.ref aD.fSt)
 FHa:Cq K "has_member" "has_member" d_ aD.fHa aD.dHa∧Binds K aD.dHa ["some","number"] []∧mg "has_member" = some (.ref aD.fHa)
 FMe:Cq K "members_of" "members_of" Zv aD.fMe aD.dMe∧Binds K aD.dMe ["some"] []∧mg "members_of" = some (.ref aD.fMe)
 FSh:Cq K "shifted" "shifted" cT aD.fSh aD.dSh∧Binds K aD.dSh ["some","steps","count"] []∧mg "shifted" = some (.ref aD.fSh)
 FUn:Cq K "union_of" "union_of" aG aD.fUn aD.dUn∧Binds K aD.dUn ["sets"] []∧mg "union_of" = some (.ref aD.fUn)
 FLe:Cq K "led_to" "led_to" dD aD.fLe aD.dLe∧Binds K aD.dLe ["organ","knob","key"] []∧mg "led_to" = some (.ref aD.fLe)
 FDc:Cq K "drawn_of" "drawn_of" Wq aD.fDc aD.dDc∧Binds K aD.dDc ["organ","knobs","word"] []∧mg "drawn_of" = some (.ref aD.fDc)
 FLp:Cq K "led_in_one_step" "led_in_one_step" YM aD.fLp aD.dLp∧Binds K aD.dLp ["organ","couplers","key"] []∧mg "led_in_one_step" = some (.ref aD.fLp)
 FLq:Cq K "led_in_all_steps" "led_in_all_steps" dw aD.fLq aD.dLq∧Binds K aD.dLq ["one_step"] []∧mg "led_in_all_steps" = some (.ref aD.fLq)
 FCb:Cq K "coupled_by_each" "coupled_by_each" Z3 aD.fCb aD.dCb∧Binds K aD.dCb ["organ","knobs"] []∧mg "coupled_by_each" = some (.ref aD.fCb)
 FCr:Cq K "compiled_rows" "compiled_rows" cI aD.fCr aD.dCr∧Binds K aD.dCr ["organ","knobs"] []∧mg "compiled_rows" = some (.ref aD.fCr)
 FMu:Cq K "muted_boards" "muted_boards" Zc aD.fMu aD.dMu∧Binds K aD.dMu ["organ","knobs"] []∧mg "muted_boards" = some (.ref aD.fMu)
 FUk:Cq K "unmuted_keys" "unmuted_keys" Zu aD.fUk aD.dUk∧Binds K aD.dUk ["organ","knobs","keys"] []∧mg "unmuted_keys" = some (.ref aD.fUk)
 FNb:Cq K "numbers_on_board" "numbers_on_board" dj aD.fNb aD.dNb∧Binds K aD.dNb ["organ","board","keys"] []∧mg "numbers_on_board" = some (.ref aD.fNb)
 FLl:Cq K "led_by_line" "led_by_line" d8 aD.fLl aD.dLl∧Binds K aD.dLl ["organ","line","numbers"] []∧mg "led_by_line" = some (.ref aD.fLl)
 FBs:Cq K "brought_by_stop" "brought_by_stop" Zk aD.fBs aD.dBs∧Binds K aD.dBs ["organ","knob","keys"] []∧mg "brought_by_stop" = some (.ref aD.fBs)
 FBa:Cq K "brought_in_all" "brought_in_all" Zh aD.fBa aD.dBa∧Binds K aD.dBa ["organ","knobs","keys"] []∧mg "brought_in_all" = some (.ref aD.fBa)
 FCe:Cq K "_law_cell_at" "_law_cell_at" dJ aD.fCe aD.dCe∧Binds K aD.dCe ["_law_script","_law_k"] []∧mg "_law_cell_at" = some (.ref aD.fCe)
 FLw:Cq K "_law_whole" "_law_whole" dh aD.fLw aD.dLw∧Binds K aD.dLw ["_law_found"] []∧mg "_law_whole" = some (.ref aD.fLw)
 FLg:Cq K "_law_rows" "_law_rows" cz aD.fLg aD.dLg∧Binds K aD.dLg ["_law_script","_law_many","_law_keys","_law_shifts"] []∧mg "_law_rows" = some (.ref aD.fLg)
 FLs:Cq K "_law_steps" "_law_steps" Z0 aD.fLs aD.dLs∧Binds K aD.dLs ["_law_rows_here","_law_many","_law_knobs"] []∧mg "_law_steps" = some (.ref aD.fLs)
 FLk:Cq K "_law_come_to" "_law_come_to" bI aD.fLk aD.dLk∧Binds K aD.dLk ["_law_steps_here","_law_keys","_law_start"] []∧mg "_law_come_to" = some (.ref aD.fLk)
 FOi:Cq K "__init__" "Organ.__init__" RM aD.fOi aD.dOi∧Binds K aD.dOi ["self","rows"] []∧Mk K C aD.fOi
 FOb:Cq K "boards" "Organ.boards" cH aD.fOb aD.dOb∧Binds K aD.dOb ["self"] []∧Meth K C "boards" aD.fOb
 FOc:Cq K "key_count" "Organ.key_count" bJ aD.fOc aD.dOc∧Binds K aD.dOc ["self"] []∧Meth K C "key_count" aD.fOc
 FOk:Cq K "key" "Organ.key" Z9 aD.fOk aD.dOk∧Binds K aD.dOk ["self","board","number"] []∧Meth K C "key" aD.fOk
 FOo:Cq K "board_of" "Organ.board_of" bA aD.fOo aD.dOo∧Binds K aD.dOo ["self","key"] []∧Meth K C "board_of" aD.fOo
 FBk:Cq K "board_of_knob" "Organ.board_of_knob" aF aD.fBk aD.dBk∧Binds K aD.dBk ["self","knob"] []∧Meth K C "board_of_knob" aD.fBk
 FOp:Cq K "coupler" "Organ.coupler" cO aD.fOp aD.dOp∧Binds K aD.dOp ["self","knob"] []∧Meth K C "coupler" aD.fOp
 FOr:Cq K "ranks" "Organ.ranks" bj aD.fOr aD.dOr∧Binds K aD.dOr ["self"] []∧Meth K C "ranks" aD.fOr
 FOq:Cq K "pipe_count" "Organ.pipe_count" dz aD.fOq aD.dOq∧Binds K aD.dOq ["self"] []∧Meth K C "pipe_count" aD.fOq
 FOe:Cq K "pipe" "Organ.pipe" bz aD.fOe aD.dOe∧Binds K aD.dOe ["self","rank","number"] []∧Meth K C "pipe" aD.fOe
 FOs:Cq K "stop" "Organ.stop" eG aD.fOs aD.dOs∧Binds K aD.dOs ["self","knob"] []∧Meth K C "stop" aD.fOs
 FOm:Cq K "mute" "Organ.mute" az aD.fOm aD.dOm∧Binds K aD.dOm ["self","knob"] []∧Meth K C "mute" aD.fOm
 FOz:Cq K "knobs" "Organ.knobs" Zb aD.fOz aD.dOz∧Binds K aD.dOz ["self"] []∧Meth K C "knobs" aD.fOz
 FRi:Cq K "__init__" "Relays.__init__" aY aD.fRi aD.dRi∧Binds K aD.dRi ["self","organ","knobs"] []∧Mk K Cy aD.fRi
 FRr:Cq K "row_of" "Relays.row_of" b8 aD.fRr aD.dRr∧Binds K aD.dRr ["self","key"] []∧Meth K Cy "row_of" aD.fRr
section
variable {P:Program} {w:World} {K:PySem.W.Frag} {mg:Str->Option Value} {base:Heap} {C Cy aN aK aB aP aM:Addr} {aD:Ad}
variable (N:aQ K mg C Cy aD) (T:Txt K w.params mg C Cy aN aK aB aP aM)
noncomputable def QS:Sp:=fun vs H Q _=>∃ i:Int,vs=[.int i]/\Q (.bl true) H
theorem eF:Ar ["thing"] ["thing"] (Ae cJ):=Bl
include N T in
theorem Tz:Aw P w K mg base Bc 1 aD.fWh aD.dWh ["thing"] QS:=by
 refine N.FWh.1.ok eF (fun vs H Q E h=>?_) (fun cdv A outer s H vs Q E hr h=>?_)
 ·obtain ⟨i,rfl,_⟩:=h
  rfl
 ·obtain ⟨i,rfl,q⟩:=h
  refine ⟨_,(Ag (A_ (Dc (BR Cp rfl T.isin PyProof.Rows.boot_isinstance (Aa (pv 0) (Aa (Dt (v:=.ty "int") rfl T.int PyProof.Rows.boot_int rfl) Ab))) (Cz (MF (BR Cp rfl T.isin PyProof.Rows.boot_isinstance (Aa (pv 0) (Aa (Dt (v:=.ty "bool") rfl T.bool PyProof.Rows.boot_bool rfl) Ab)))))))),?_⟩
  refine ⟨_,rfl,_,"int",_,_,rfl,.int i,ty_int,_,rfl,D_ ?_⟩
  exact ⟨_,rfl,_,"bool",_,_,rfl,.int i,T7,_,rfl,q⟩
noncomputable def ZV:Sp:=fun vs H Q _=>∃ z:Str,vs=[.str z,.str letters,.int 8]/\isNm z/\∀ H',Al H H'->Q (.bl true) H'
theorem dg:Ar ["text","signs","most"] ["text","signs","most"] (Ae Zt):=Bl
include N T in
theorem YB:Aw P w K mg base Bc 1 aD.fMd aD.dMd ["text","signs","most"] ZV:=by
 refine N.FMd.1.ok dg (fun vs H Q E h=>?_) (fun cdv A outer s H vs Q E hr h=>?_)
 ·obtain ⟨z,rfl,_⟩:=h
  rfl
 ·obtain ⟨z,rfl,hz,q⟩:=h
  refine ⟨_,(Ag (A_ (Dc (G8 E_ E_ Ac (BR J7 rfl T.len PySem.boot_len (Aa (pv 0) Ab)) (pv 2)) (Cz (BR (Io rfl) rfl T.all PyProof.Rows.boot_all (Aa (Bg rfl (BP (osc:=Ae Zt) (N:=["text","signs","most"]) rfl rfl (by decide +kernel)) (VB (pv 0)) (fun _ _ _ _=>CG) (fun _ _ _ _=>(Er Oj (pv 0) (pv 2) rfl))) Ab)))))),?_⟩
  have hzl:z.length<sizeLine:=Aq (by have:=hz.2.1; omega)
  refine ⟨_,rfl,z,rfl,Nat.le_of_lt hzl,_,_,rfl,rfl,_,rfl,?_⟩
  refine DP (fun h1=>?_) (fun h1=>absurd (decide_eq_true (by have:=hz.1; omega)) h1)
  refine ⟨_,rfl,_,_,rfl,rfl,_,rfl,?_⟩
  refine DP (fun h2=>?_) (fun h2=>absurd (decide_eq_true (by have:=hz.2.1; omega)) h2)
  refine ⟨_,rfl,z,rfl,P_ (fun _=>true) (fun c=>.bl (XH letters c)) hzl (fun c hc H' hs R k=>k H' (Al.refl H')) (fun c hc _ H' hs R k=>⟨_,rfl,_,rfl,_,_,rfl,rfl,k H' (Al.refl H')⟩) (fun D H' hD hs hl=>?_)⟩
  refine ⟨D,z.cps.toList.map (XH letters),rfl,.inl (.inl ?_),?_⟩
  ·rw [hl,List.filter_eq_self.mpr (fun _ _=>rfl),List.map_map]
   rfl
  ·have e:(z.cps.toList.map (XH letters)).all id=true:=by
    rw [List.all_map,List.all_eq_true]
    intro c hc
    have:=hz.2.2 c hc
    show XH letters c=true
    rw [Rc c (by omega)]
    exact decide_eq_true this
   rw [e]
   exact q H' hs
noncomputable def VG:Sp:=fun vs H Q _=>∃ z:Str,vs=[.str z]/\isNm z/\∀ H',Al H H'->Q (.bl true) H'
theorem aW:Ar ["thing"] ["thing"] (Ae cC):=Bl
include N T in
theorem Te:Aw P w K mg base Bc 2 aD.fNm aD.dNm ["thing"] VG:=by
 have GMd:Aw P w K mg base Bc 1 aD.fMd aD.dMd ["text","signs","most"] ZV:=YB N T
 refine N.FNm.1.ok aW (fun vs H Q E h=>?_) (fun cdv A outer s H vs Q E hr h=>?_)
 ·obtain ⟨z,rfl,_⟩:=h
  rfl
 ·obtain ⟨z,rfl,hz,q⟩:=h
  have hrMd:BL 1 _:=hr.mono (by decide)
  obtain ⟨tLET,hLET⟩:=T.letters
  obtain ⟨tML,hML⟩:=T.mostL
  refine ⟨_,(Ag (A_ (Dc (BR Cp rfl T.isin PyProof.Rows.boot_isinstance (Aa (pv 0) (Aa (Dt (v:=.ty "str") rfl T.str PyProof.Rows.boot_str rfl) Ab))) (Cz (Am GMd hrMd rfl N.FMd.2.2 N.FMd.1.kp N.FMd.2.1 .nil Ay (Aa (pv 0) (Aa (Cd (v:=.str letters) rfl hLET ⟨tLET,rfl⟩) (Aa (Cd (v:=.int 8) rfl hML ⟨tML,rfl⟩) Ab)))))))),?_⟩
  refine ⟨_,rfl,_,"str",_,_,rfl,.str z,T4,_,rfl,D_ ?_⟩
  exact ⟨_,rfl,z,rfl,hz,q⟩
noncomputable def Oz:Sp:=fun vs H Q _=>∃ (p:Addr) (us:List V) (w:Str) (ρ:V->R),vs=[.ref p,.str w]/\H p=some (.lst us)/\Rows H ρ us/\us.length<=500/\∀ D H',H D=none->Al H H'->H' D=some (.lst (us.filter (pw ρ w)))->Q (.ref D) H'
theorem du:Ar ["rows","word"] ["rows","word"] (Ae Zi):=Bl
include N T in
theorem K6:Aw P w K mg base Bc 1 aD.fRo aD.dRo ["rows","word"] Oz:=by
 refine N.FRo.1.ok du (fun vs H Q E h=>?_) (fun cdv A outer s H vs Q E hr h=>?_)
 ·obtain ⟨p,us,w,ρ,rfl,_⟩:=h
  rfl
 ·obtain ⟨p,us,w,ρ,rfl,hp,hR,hl,q⟩:=h
  refine ⟨_,(Ag (A_ (Bg rfl (BP (osc:=Ae Zi) (N:=["rows","word"]) rfl rfl (by decide +kernel)) (Bb (pv 0)) (fun _ _ _ _=>(Gi (Bd Dw (Ax (An (K:=K) rfl) (pv 0) Ac (fun _ _=>rfl)) (pv 2) (Bm _)))) (fun _ _ _ _=>(pv 0))))),?_⟩
  have hS:Ci K H p us:=.inl (.inl hp)
  refine ⟨_,rfl,p,rfl,⟨_,hS⟩,Bv (K:=K) (xs:=us) (pw ρ w) id hS (Aq (by omega)) (fun x hx H' hs R k=>?_) (fun x hx _ H' hs R k=>⟨_,rfl,k H' (Al.refl H')⟩) (fun D H' hD hs hl'=>?_)⟩
  ·obtain ⟨T0,rfl,hT⟩:=(hR x hx).mono hs
   exact ⟨_,rfl,T0,_,_,_,rfl,rfl,.inl (.inl hT),Aj (j:=0) rfl,_,rfl,rfl,_,rfl,k H' (Al.refl H')⟩
  ·rw [List.map_id] at hl'
   exact q D H' hD hs hl'
noncomputable def Xv:Sp:=fun vs H Q _=>∃ (p:Addr) (us:List V) (w t:Str) (ρ:V->R),vs=[.ref p,.str w,.str t]/\H p=some (.lst us)/\Rows H ρ us/\us.length<=500/\isNm t/\∀ H',Al H H'->Q (.bl (TV ρ us w t)) H'
theorem dR:Ar ["rows","word","thing"] ["rows","word","thing"] (Ae Z2):=Bl
include N T in
theorem Y4:Aw P w K mg base Bc 3 aD.fTo aD.dTo ["rows","word","thing"] Xv:=by
 have GNm:Aw P w K mg base Bc 2 aD.fNm aD.dNm ["thing"] VG:=Te N T
 have GRo:Aw P w K mg base Bc 1 aD.fRo aD.dRo ["rows","word"] Oz:=K6 N T
 refine N.FTo.1.ok dR (fun vs H Q E h=>?_) (fun cdv A outer s H vs Q E hr h=>?_)
 ·obtain ⟨p,us,w,t,ρ,rfl,_⟩:=h
  rfl
 ·obtain ⟨p,us,w,t,ρ,rfl,hp,hR,hl,ht,q⟩:=h
  have hrNm:BL 2 _:=hr.mono (by decide)
  have hrRo:BL 1 _:=hr.mono (by decide)
  refine ⟨_,(Ag (A_ (Dc (Am GNm hrNm rfl N.FNm.2.2 N.FNm.1.kp N.FNm.2.1 .nil Ay (Aa (pv 2) Ab)) (Cz (BR (Iv rfl) rfl T.any PyProof.Rows.boot_any (Aa (Bg rfl (BP (osc:=Ae Z2) (N:=["rows","word","thing"]) rfl rfl (by decide +kernel)) (Bb (Am GRo hrRo rfl N.FRo.2.2 N.FRo.1.kp N.FRo.2.1 .nil Ay (Aa (pv 0) (Aa (pv 1) Ab)))) (fun _ _ _ _=>CG) (fun _ _ _ _=>(Er Dw (Ax (An (K:=K) rfl) (pv 0) Ac (fun _ _=>rfl)) (pv 3) (Bm _)))) Ab)))))),?_⟩
  refine ⟨_,rfl,t,rfl,ht,fun H1 s1=>⟨_,rfl,D_ ?_⟩⟩
  refine ⟨_,rfl,_,rfl,p,us,w,ρ,rfl,s1 _ _ hp,hR.mono s1,hl,fun D H2 hD s2 hl2=>?_⟩
  have hS:Ci K H2 D (us.filter (pw ρ w)):=.inl (.inl hl2)
  refine ⟨D,rfl,⟨_,hS⟩,Bv (K:=K) (xs:=us.filter (pw ρ w)) (fun _=>true) (fun v=>.bl (pn ρ t v)) hS (Aq (by have:=GZ (pw ρ w) us; omega)) (fun x hx H' hs R k=>k H' (Al.refl H')) (fun x hx _ H' hs R k=>?_) (fun D3 H3 hD3 s3 hl3=>?_)⟩
  ·obtain ⟨T0,rfl,hT⟩:=(((hR.mono s1).mono s2).mono hs) x (List.mem_filter.mp hx).1
   exact ⟨_,rfl,T0,_,_,_,rfl,rfl,.inl (.inl hT),Aj (j:=1) rfl,_,rfl,rfl,k H' (Al.refl H')⟩
  ·refine ⟨D3,(us.filter (pw ρ w)).map (pn ρ t),rfl,.inl (.inl ?_),?_⟩
   ·rw [hl3,List.filter_eq_self.mpr (fun _ _=>rfl),List.map_map]
    rfl
   ·have e:((us.filter (pw ρ w)).map (pn ρ t)).any id=TV ρ us w t:=by
     rw [List.any_map]
     rfl
    rw [e]
    exact q H3 ((s1.trans s2).trans s3)
noncomputable def Yu (K:PySem.W.Frag):Sp:=fun vs H Q _=>∃ (i lo hi:Int) (b:Addr),vs=[.int i,.ref b]/\KTup K b [.int lo,.int hi]/\lo<=i/\i<=hi/\Q (.bl true) H
theorem cP:Ar ["thing","bounds"] ["thing","bounds"] (Ae bY):=Bl
include N T in
theorem ZP:Aw P w K mg base Bc 2 aD.fWi aD.dWi ["thing","bounds"] (Yu K):=by
 have GWh:Aw P w K mg base Bc 1 aD.fWh aD.dWh ["thing"] QS:=Tz N T
 refine N.FWi.1.ok cP (fun vs H Q E h=>?_) (fun cdv A outer s H vs Q E hr h=>?_)
 ·obtain ⟨i,lo,hi,b,rfl,_⟩:=h
  rfl
 ·obtain ⟨i,lo,hi,b,rfl,hb,h1,h2,q⟩:=h
  have hrWh:BL 1 _:=hr.mono (by decide)
  refine ⟨_,(Ag (A_ (Dc (Am GWh hrWh rfl N.FWh.2.2 N.FWh.1.kp N.FWh.2.1 .nil Ay (Aa (pv 0) Ab)) (Cz (G8 E_ E_ (Ax (An (K:=K) rfl) (pv 1) Ac (fun _ _=>rfl)) (pv 0) (Ax (An (K:=K) rfl) (pv 1) Ac (fun _ _=>rfl))))))),?_⟩
  refine ⟨_,rfl,i,rfl,_,rfl,D_ ?_⟩
  refine ⟨_,rfl,b,_,_,_,rfl,rfl,hb.sq _,Aj (j:=0) rfl,_,rfl,_,_,rfl,rfl,_,rfl,?_⟩
  refine DP (fun _=>?_) (fun z=>absurd (decide_eq_true h1) z)
  refine ⟨_,rfl,b,_,_,_,rfl,rfl,hb.sq _,Aj (j:=1) rfl,_,_,rfl,rfl,?_⟩
  show Q (.bl (decide (i<=hi))) H
  rw [decide_eq_true h2]
  exact q
noncomputable def Yx (K:PySem.W.Frag) (aB:Addr):Sp:=fun vs H Q _=>∃ (x:V) (part:Str) (p:Addr) (us:List V) (ρ:V->R),vs=[x,.str part,.ref p]/\H p=some (.lst us)/\Rows H ρ us/\us.length<=500/\Gd K aB ρ us x part/\∀ H',Al H H'->Q (.bl true) H'
theorem aV:Ar ["thing","part","ahead"] ["thing","part","ahead"] (Ae Zw):=Bl
include N T in
theorem X8:Aw P w K mg base Bc 4 aD.fPa aD.dPa ["thing","part","ahead"] (Yx K aB):=by
 have GNm:Aw P w K mg base Bc 2 aD.fNm aD.dNm ["thing"] VG:=Te N T
 have GTo:Aw P w K mg base Bc 3 aD.fTo aD.dTo ["rows","word","thing"] Xv:=Y4 N T
 have GWi:Aw P w K mg base Bc 2 aD.fWi aD.dWi ["thing","bounds"] (Yu K):=ZP N T
 refine N.FPa.1.ok aV (fun vs H Q E h=>?_) (fun cdv A outer s H vs Q E hr h=>?_)
 ·obtain ⟨x,part,p,us,ρ,rfl,_⟩:=h
  rfl
 ·obtain ⟨x,part,p,us,ρ,rfl,hp,hR,hl,hok,q⟩:=h
  have hrNm:BL 2 _:=hr.mono (by decide)
  have hrTo:BL 3 _:=hr.mono (by decide)
  have hrWi:BL 2 _:=hr.mono (by decide)
  refine ⟨_,(Af (Ck (Qs (Pr (pv 1) (Cd (v:=.ref aB) rfl T.mB rfl))) (Ag (A_ (Am GWi hrWi rfl N.FWi.2.2 N.FWi.1.kp N.FWi.2.1 .nil Ay (Aa (pv 0) (Aa (Jm (Cd (v:=.ref aB) rfl T.mB rfl) (pv 1) (fun _ _=>rfl)) Ab))))) Bk)
   (Af (Ck (Bd Dw (pv 1) BV (Bm _)) (Ag (A_ (Dc (Am GNm hrNm rfl N.FNm.2.2 N.FNm.1.kp N.FNm.2.1 .nil Ay (Aa (pv 0) Ab)) (Cz (MF (BR (Iv rfl) rfl T.any PyProof.Rows.boot_any (Aa (Bg rfl (BP (osc:=Ae Zw) (N:=["thing","part","ahead"]) rfl rfl (by decide +kernel)) (Uj (Cd (v:=.ref aN) rfl T.mN rfl)) (fun _ _ _ _=>CG) (fun _ _ _ _=>(Am GTo hrTo rfl N.FTo.2.2 N.FTo.1.kp N.FTo.2.1 .nil Ay (Aa (pv 3) (Aa (pv 0) (Aa (pv 1) Ab)))))) Ab))))))) Bk)
   (Ag (A_ (Am GTo hrTo rfl N.FTo.2.2 N.FTo.1.kp N.FTo.2.1 .nil Ay (Aa (pv 2) (Aa (pv 1) (Aa (pv 0) Ab)))))))),?_⟩
  rcases hok with ⟨i,lo,hi,b,rfl,hn,hb,h1,h2⟩ | ⟨hn,rfl,t,rfl,ht,hno⟩ | ⟨hn,hne,t,rfl,ht,hyes⟩
  ·refine ⟨_,rfl,aB,part,_,rfl,rfl,T.dB,hn,_,rfl,D_ ?_⟩
   exact ⟨_,rfl,_,rfl,aB,part,.ref b,_,rfl,rfl,T.dB,hn,rfl,i,lo,hi,b,rfl,hb,h1,h2,q H (Al.refl H)⟩
  ·refine ⟨_,rfl,aB,_,_,rfl,rfl,T.dB,hn,_,rfl,De ?_⟩
   refine ⟨_,rfl,rfl,_,rfl,D_ ?_⟩
   refine ⟨_,rfl,t,rfl,ht,fun H1 s1=>⟨_,rfl,D_ ?_⟩⟩
   have hS:Gy K H1 aN (named.map V.str):=T.tN.sq _
   refine ⟨aN,rfl,⟨_,hS⟩,G3 (xs:=named.map V.str) (fun _=>true) (fun _=>.bl false) (by show 5<sizeLine; decide) (fun i H2 x hs hx=>⟨_,x,hs.tup hS,hx⟩) (fun i H2 y H3 hs _ hy=>⟨hy.1,hy.2 _ (hs.tup hS)⟩) (fun H2 hs=>⟨_,hs.tup hS,Nat.le_refl _⟩)
    (fun x hx H' hs R k=>k H' (Al.refl H')) (fun x hx _ H' hs R k=>?_) (fun D H2 hD s2 hl2=>?_)⟩
   ·obtain ⟨w0,hw0,rfl⟩:=List.mem_map.mp hx
    refine ⟨_,rfl,_,rfl,_,rfl,p,us,w0,t,ρ,rfl,hs _ _ (s1 _ _ hp),(hR.mono s1).mono hs,hl,ht,fun H'' s''=>?_⟩
    rw [hno w0 hw0]
    exact k H'' s''
   ·refine ⟨D,[false,false,false,false,false],rfl,.inl (.inl hl2),_,rfl,?_⟩
    exact q H2 (s1.trans s2)
  ·refine ⟨_,rfl,aB,_,_,rfl,rfl,T.dB,hn,_,rfl,De ?_⟩
   refine ⟨_,rfl,rfl,_,rfl,?_⟩
   refine DP (fun z=>absurd (V.str.inj (of_decide_eq_true z)) hne) (fun _=>?_)
   refine ⟨_,rfl,_,rfl,_,rfl,p,us,part,t,ρ,rfl,hp,hR,hl,ht,fun H' hs=>?_⟩
   rw [hyes]
   exact q H' hs
noncomputable def Wb (K:PySem.W.Frag) (aB aP:Addr):Sp:=fun vs H Q _=>∃ (r p:Addr) (w:Str) (xs:List V) (us:List V) (ρ:V->R) (ap:Addr) (ps:List Str),vs=[.ref r,.ref p]/\H r=some (.tup (.str w::xs))/\H p=some (.lst us)/\Rows H ρ us/\us.length<=500 /\
 PySem.W.nsIn K aP w=some (some (.ref ap))/\KTup K ap (ps.map V.str)/\xs.length=ps.length/\ps.length<=10/\(∀ (i:Nat) x y,xs[i]? = some x->ps[i]? = some y->Gd K aB ρ us x y)/\∀ H',Al H H'->Q (.bl true) H'
theorem Wt:Ar ["row","ahead","parts"] ["row","ahead"] (Ae Z6):=Bl
include N T in
theorem Yd:Aw P w K mg base Bc 5 aD.fHp aD.dHp ["row","ahead"] (Wb K aB aP):=by
 have GPa:Aw P w K mg base Bc 4 aD.fPa aD.dPa ["thing","part","ahead"] (Yx K aB):=X8 N T
 refine N.FHp.1.ok Wt (fun vs H Q E h=>?_) (fun cdv A outer s H vs Q E hr h=>?_)
 ·obtain ⟨r,p,w,xs,us,ρ,ap,ps,rfl,_⟩:=h
  rfl
 ·obtain ⟨r,p,w,xs,us,ρ,ap,ps,rfl,hr0,hp,hR,hl,hn,hap,hlen,hps,hok,q⟩:=h
  have hrPa:BL 4 _:=hr.mono (by decide)
  refine ⟨_,(Af (BK (i:=2) Wt.nd rfl (Or.inl rfl) (Jm (Cd (v:=.ref aP) rfl T.mP rfl) (Ax (An (K:=K) rfl) (pv 0) Ac (fun _ _=>rfl)) (fun _ _=>rfl)))
   (Af (Ck (Bd K8 (BR Bj rfl T.len PySem.boot_len (Aa (pv 0) Ab)) (BJ CW Ac (BR Bj rfl T.len PySem.boot_len (Aa (pv 2) Ab))) (Bm _)) (Ag (A_ JZ)) Bk)
   (Ag (A_ (BR (Io rfl) rfl T.all PyProof.Rows.boot_all (Aa (Mj rfl (JK (osc:=Ae Z6) (N:=["row","ahead","parts"]) rfl rfl (by decide +kernel)) (RV rfl T.zip (Aa (G9 U0 (pv 0) (Hy Ac) Hx) (Aa (pv 2) Ab))) (fun _ _ _ _=>CG) (fun _ _ _ _=>(Am GPa hrPa rfl N.FPa.2.2 N.FPa.1.kp N.FPa.2.1 .nil Ay (Aa (pv 0) (Aa (pv 1) (Aa (pv 3) Ab)))))) Ab)))))),?_⟩
  refine ⟨_,rfl,r,_,_,_,rfl,rfl,.inl (.inl hr0),Aj (j:=0) rfl,aP,w,.ref ap,_,rfl,rfl,T.dP,hn,rfl,?_⟩
  refine ⟨_,rfl,r,_,rfl,.inr (.inl (.inl hr0)),_,rfl,ap,_,rfl,.inr (hap.sq _),_,_,rfl,rfl,rfl,_,rfl,?_⟩
  refine DP (fun z=>?_) (fun _=>?_)
  ·exfalso
   have e:(((V.str w::xs).length:Nat):Int)=1+(((ps.map V.str).length:Nat):Int):=by
    rw [List.length_cons,List.length_map,hlen]
    omega
   rw [e] at z
   simp at z
  ·have hcut:En (V.str w::xs) (some 1) none=xs:=by
    unfold En
    have e1:HT.Dd (V.str w::xs).length 0 (some ((1:Nat):Int))=1:=by rw [HT.KD,List.length_cons]; omega
    have e1':HT.Dd (V.str w::xs).length 0 (some (1:Int))=1:=e1
    rw [e1',HT.Pk,List.drop_succ_cons,List.drop_zero]
    exact List.take_of_length_le (by rw [List.length_cons]; omega)
   refine ⟨_,rfl,_,rfl,r,_,rfl,.inl (.inl hr0),(fun z=>?_),fun p2 hp2=>?_⟩
   ·have e1:HT.Dd (V.str w::xs).length 0 (some ((1:Nat):Int))=1:=by rw [HT.KD,List.length_cons]; omega
    have:=z.1.symm.trans e1
    cases this
   rw [hcut]
   obtain ⟨H2,eqH,s2,a2⟩:=Jr (o:=HO.tup xs) hp2
   rw [eqH]
   have h1:Gy K H2 p2 xs:=.inl (.inl a2)
   refine ⟨_,rfl,p2,ap,rfl,⟨_,h1⟩,⟨_,hap.sq _⟩,RK (K:=K) (xs:=xs) (ys:=ps.map V.str) (fun _ _=>.bl true) h1 (hap.sq _) (by rw [List.length_map]; exact hlen) (Aq (by omega)) (fun i x y hx hy H3 s3 R k=>?_) (fun D H3 hD s3 hl3=>?_)⟩
   ·rw [List.getElem?_map] at hy
    obtain ⟨part,hpart,rfl⟩:=Option.map_eq_some_iff.mp hy
    exact ⟨_,rfl,_,rfl,_,rfl,x,part,p,us,ρ,rfl,s3 _ _ (s2 _ _ hp),(hR.mono s2).mono s3,hl,hok i x part hx hpart,fun H4 s4=>k H4 s4⟩
   ·have e:List.zipWith (fun _ _=>V.bl true) xs (ps.map V.str)=(List.replicate xs.length true).map V.bl:=by
     rw [List.map_replicate]
     refine List.ext_getElem? fun i=>?_
     rw [List.getElem?_zipWith]
     by_cases hi:i<xs.length
     ·rw [List.getElem?_eq_getElem hi,List.getElem?_eq_getElem (by rw [List.length_map]; omega),List.getElem?_eq_getElem (by rw [List.length_replicate]; exact hi)]
      simp
     ·rw [List.getElem?_eq_none (by omega),List.getElem?_eq_none (l:=List.replicate _ _) (by rw [List.length_replicate]; omega)]
    rw [e] at hl3
    refine ⟨D,List.replicate xs.length true,rfl,.inl (.inl hl3),?_⟩
    have e2:(List.replicate xs.length true).all id=true:=by simp
    rw [e2]
    exact q H3 (s2.trans s3)
noncomputable def Xa:Sp:=fun vs H Q _=>∃ (p:Addr) (us:List V) (ρ:V->R) (c:Nat),vs=[.ref p]/\H p=some (.lst us)/\Rows H ρ us/\us.length<=500/\Tj ρ us c/\Q (.int (c:Nat)) H
theorem R8:Ar ["rows","count","row"] ["rows"] (Ae aq):=Bl
include N T in
theorem Yh:Aw P w K mg base Bc 1 aD.fCl aD.dCl ["rows"] Xa:=by
 refine N.FCl.1.ok R8 (fun vs H Q E h=>?_) (fun cdv A outer s H vs Q E hr h=>?_)
 ·obtain ⟨p,us,ρ,c,rfl,_⟩:=h
  rfl
 ·obtain ⟨p,us,ρ,c,rfl,hp,hR,hl,hc,q⟩:=h
  refine ⟨_,(Af (BK (i:=1) R8.nd rfl (Or.inl rfl) Ac)
   (Af (B_ PassesOwn.never rfl (Vn rfl T.reversed (Aa (pv 0) Ab)) (BX (i:=2) R8.nd rfl (Or.inl rfl)) (Af (Ck (Bd K8 (Ax (An (K:=K) rfl) (pv 2) Ac (fun _ _=>rfl)) BV (Bm _)) (Ag Qq) Bk)
   (Ag (BK (i:=1) R8.nd rfl (Or.inl rfl) (BJ CW (pv 1) Ac)))))
   (Ag (A_ (pv 1))))),?_⟩
  have hS:Ci K H p us:=.inl (.inl hp)
  refine ⟨_,rfl,p,us,rfl,hS,SJ (K:=K) (a:=p) (xs:=us) (fun i σ H4=>H4=H/\i<=c/\∃ v2,σ=[some (.ref p),some (.int (i:Nat)),v2]) ⟨rfl,Nat.zero_le _,_,rfl⟩ (fun i σ H4 _ h=>by rw [h.1]; exact hS) ?_ ?_⟩
  ·rintro i x σ H4 hi hx ⟨rfl,hic,v2,rfl⟩
   obtain ⟨r,rfl,hr0⟩:=hR x (List.mem_of_getElem? hx)
   refine ⟨_,rfl,r,_,_,_,rfl,rfl,.inl (.inl hr0),Aj (j:=0) rfl,rfl,_,rfl,?_⟩
   by_cases e:(ρ (.ref r)).w = "line"
   ·have hne:i ≠ c:=fun z=>by
     obtain ⟨v,hv,hno⟩:=hc.no
     rw [← z,hx] at hv
     cases hv
     exact hno e
    refine Tc (congrArg V.str e) ?_
    exact ⟨_,rfl,_,_,rfl,rfl,rfl,by omega,_,rfl⟩
   ·have hic':i=c:=by
     refine Classical.byContradiction fun z=>?_
     obtain ⟨v,hv,hyes⟩:=hc.all i (by omega)
     rw [hx] at hv
     cases hv
     exact e hyes
    subst hic'
    rw [decide_eq_false fun z=>e (V.str.inj z)]
    refine D_ ?_
    exact ⟨_,rfl,q⟩
  ·rintro σ H4 ⟨rfl,hic,v2,rfl⟩
   have:=hc.lt
   omega
noncomputable def Yr:Sp:=fun vs H Q _=>∃ (n:Int) (bd:Str) (p:Addr) (us:List V) (ρ:V->R),vs=[.int n,.str bd,.ref p]/\H p=some (.lst us)/\Rows H ρ us/\us.length<=500/\Ed ρ us/\∀ H',Al H H'->Q (.bl (keyOf ρ us bd n)) H'
theorem dF:Ar ["number","board","ahead"] ["number","board","ahead"] (Ae Zf):=Bl
include N T in
theorem W4:Aw P w K mg base Bc 2 aD.fIk aD.dIk ["number","board","ahead"] Yr:=by
 have GRo:Aw P w K mg base Bc 1 aD.fRo aD.dRo ["rows","word"] Oz:=K6 N T
 refine N.FIk.1.ok dF (fun vs H Q E h=>?_) (fun cdv A outer s H vs Q E hr h=>?_)
 ·obtain ⟨n,bd,p,us,ρ,rfl,_⟩:=h
  rfl
 ·obtain ⟨n,bd,p,us,ρ,rfl,hp,hR,hl,hB,q⟩:=h
  have hrRo:BL 1 _:=hr.mono (by decide)
  refine ⟨_,(Ag (A_ (BR (Iv rfl) rfl T.any PyProof.Rows.boot_any (Aa (Bg rfl (BP (osc:=Ae Zf) (N:=["number","board","ahead"]) rfl rfl (by decide +kernel)) (Bb (Am GRo hrRo rfl N.FRo.2.2 N.FRo.1.kp N.FRo.2.1 .nil Ay (Aa (pv 2) (Aa BV Ab)))) (fun _ _ _ _=>CG) (fun _ _ _ _=>(Dc (Er Dw (Ax (An (K:=K) rfl) (pv 0) Ac (fun _ _=>rfl)) (pv 2) (Bm _)) (Cz (Er Hr (pv 1) (Ax (An (K:=K) rfl) (pv 0) Ac (fun _ _=>rfl)) (Bm _)))))) Ab)))),?_⟩
  refine ⟨_,rfl,p,us,"board",ρ,rfl,hp,hR,hl,fun D H2 hD s2 hl2=>?_⟩
  have hS:Ci K H2 D (us.filter (pw ρ "board")):=.inl (.inl hl2)
  refine ⟨D,rfl,⟨_,hS⟩,Bv (K:=K) (xs:=us.filter (pw ρ "board")) (fun _=>true) (fun v=>.bl (pn ρ bd v && decide (n<Vq (ρ v)))) hS (Aq (by have:=GZ (pw ρ "board") us; omega)) (fun x hx H' hs R k=>k H' (Al.refl H')) (fun x hx _ H' hs R k=>?_) (fun D3 H3 hD3 s3 hl3=>?_)⟩
  ·have hx':=List.mem_filter.mp hx
   obtain ⟨m,em⟩:=hB x hx'.1 (V.str.inj (of_decide_eq_true hx'.2))
   have hz:Vq (ρ x)=m:=by unfold Vq; rw [em]
   have hT:=((hR.mono s2).mono hs) x hx'.1
   have kk:=k H' (Al.refl H')
   rw [hz] at kk
   obtain ⟨T0,rfl,hT⟩:=hT
   have kk:R (.bl (decide (V.str (ρ (.ref T0)).nm=V.str bd) && decide (n<m))) H':=kk
   have hT':H' T0=some (.tup (.str (ρ (.ref T0)).w :: .str (ρ (.ref T0)).nm::(ρ (.ref T0)).rest)):=hT
   rw [em] at hT'
   refine ⟨_,rfl,T0,_,_,_,rfl,rfl,.inl (.inl hT'),Aj (j:=1) rfl,_,rfl,rfl,_,rfl,?_⟩
   refine DP (fun g=>?_) (fun g=>?_)
   ·rw [g,Bool.true_and] at kk
    exact ⟨_,rfl,_,rfl,T0,_,_,_,rfl,rfl,.inl (.inl hT'),Aj (j:=2) rfl,_,_,rfl,rfl,kk⟩
   ·rw [(Bool.not_eq_true _).mp g,Bool.false_and] at kk
    exact kk
  ·refine ⟨D3,(us.filter (pw ρ "board")).map (fun v=>pn ρ bd v && decide (n<Vq (ρ v))),rfl,.inl (.inl ?_),?_⟩
   ·rw [hl3,List.filter_eq_self.mpr (fun _ _=>rfl),List.map_map]
    rfl
   ·have e:((us.filter (pw ρ "board")).map (fun v=>pn ρ bd v && decide (n<Vq (ρ v)))).any id=keyOf ρ us bd n:=by
     rw [List.any_map]
     rfl
    rw [e]
    exact q H3 (s2.trans s3)
noncomputable def ZD:Sp:=fun vs H Q _=>∃ (r p:Addr) (ro:R) (us:List V) (ρ:V->R),vs=[.ref r,.ref p]/\H r=some (.tup ro.v)/\H p=some (.lst us)/\Rows H ρ us/\us.length<=500/\Lz ρ us ro/\Ed ρ us/\∀ H',Al H H'->Q (.bl true) H'
theorem Vk:Ar ["line","ahead","count","row"] ["line","ahead"] (Ae Z8):=Bl
include N T in
theorem Wv:Aw P w K mg base Bc 3 aD.fSb aD.dSb ["line","ahead"] ZD:=by
 have GCl:Aw P w K mg base Bc 1 aD.fCl aD.dCl ["rows"] Xa:=Yh N T
 have GIk:Aw P w K mg base Bc 2 aD.fIk aD.dIk ["number","board","ahead"] Yr:=W4 N T
 refine N.FSb.1.ok Vk (fun vs H Q E h=>?_) (fun cdv A outer s H vs Q E hr h=>?_)
 ·obtain ⟨r,p,ro,us,ρ,rfl,_⟩:=h
  rfl
 ·obtain ⟨r,p,ro,us,ρ,rfl,hr0,hp,hR,hl,hL,hB,q⟩:=h
  have hrCl:BL 1 _:=hr.mono (by decide)
  have hrIk:BL 2 _:=hr.mono (by decide)
  obtain ⟨tML4,hML4⟩:=T.mostLn
  refine ⟨_,(Af (BK (i:=2) Vk.nd rfl (Or.inl rfl) (Am GCl hrCl rfl N.FCl.2.2 N.FCl.1.kp N.FCl.2.1 .nil Ay (Aa (pv 1) Ab)))
   (Af (BK (i:=3) Vk.nd rfl (Or.inl rfl) (Ax DY (pv 1) (BJ Ge (BJ Ge (BR Bj rfl T.len PySem.boot_len (Aa (pv 1) Ab)) Ac) (pv 2)) (fun _ _=>rfl)))
   (Af (Ck (PW.pt (JL (Bd K8 (Ax (An (K:=K) rfl) (pv 3) Ac (fun _ _=>rfl)) BV (Bm _)) (Hc (Bd Xp (pv 2) (Cd (v:=.int 4) rfl hML4 ⟨tML4,rfl⟩) (Bm _))))) (Ag (A_ JZ)) Bk)
   (Ag (A_ (Dc (Er E_ (Ax (An (K:=K) rfl) (pv 0) Ac (fun _ _=>rfl)) (Ax (An (K:=K) rfl) (pv 0) Ac (fun _ _=>rfl)) (Bm _)) (Cz (Am GIk hrIk rfl N.FIk.2.2 N.FIk.1.kp N.FIk.2.1 .nil Ay (Aa (Ax (An (K:=K) rfl) (pv 0) Ac (fun _ _=>rfl)) (Aa (Ax (An (K:=K) rfl) (pv 3) Ac (fun _ _=>rfl)) (Aa (pv 1) Ab))))))))))),?_⟩
  obtain ⟨cnt,v,sh,lo,hi,bd,rs,er,hc,h4,hv,hw,hrest,hle,hk⟩:=hL.ex
  have hr1:H r=some (.tup [.str ro.w,.str ro.nm,.int sh,.int lo,.int hi]):=by rw [hr0,← er]
  obtain ⟨r2,rfl,hr2⟩:=hR v (List.mem_of_getElem? hv)
  have hr2':H r2=some (.tup (.str (ρ (.ref r2)).w :: .str (ρ (.ref r2)).nm :: .str bd::rs)):=by rw [hr2,← hrest]
  have hlt:=hc.lt
  have ei:((us.length:Nat):Int) - 1 - ((cnt:Nat):Int)=((us.length - 1 - cnt:Nat):Int):=by omega
  have hS:Ci K H p us:=.inl (.inl hp)
  refine ⟨_,rfl,p,us,ρ,cnt,rfl,hp,hR,hl,hc,?_⟩
  refine ⟨_,rfl,_,rfl,p,us,rfl,.inl hS,_,_,rfl,rfl,_,rfl,_,_,rfl,rfl,p,us,_,_,rfl,rfl,hS,(by rw [ei]; exact Aj hv),?_⟩
  refine ⟨_,rfl,r2,_,_,_,rfl,rfl,.inl (.inl hr2'),Aj (j:=0) rfl,rfl,_,rfl,Tc (congrArg V.str hw) ?_⟩
  refine ⟨_,rfl,_,_,rfl,rfl,_,rfl,?_⟩
  refine DP (fun z=>?_) (fun _=>?_)
  ·have:=of_decide_eq_true z
   omega
  refine ⟨_,rfl,r,_,_,_,rfl,rfl,.inl (.inl hr1),Aj (j:=3) rfl,_,rfl,r,_,_,_,rfl,rfl,.inl (.inl hr1),Aj (j:=4) rfl,_,_,rfl,rfl,_,rfl,?_⟩
  refine DP (fun _=>?_) (fun z=>absurd (decide_eq_true hle) z)
  refine ⟨_,rfl,r,_,_,_,rfl,rfl,.inl (.inl hr1),Aj (j:=4) rfl,_,rfl,r2,_,_,_,rfl,rfl,.inl (.inl hr2'),Aj (j:=2) rfl,_,rfl,hi,bd,p,us,ρ,rfl,hp,hR,hl,hB,fun H' s'=>?_⟩
  rw [hk]
  exact q H' s'
noncomputable def Vl (K:PySem.W.Frag) (aB aP aM:Addr):Sp:=fun vs H Q _=>∃ (r p:Addr) (ro:R) (us:List V) (ρ:V->R),vs=[.ref r,.ref p]/\H r=some (.tup ro.v)/\H p=some (.lst us)/\Rows H ρ us/\us.length<=500/\Fp K aB aP aM ρ us ro/\∀ H',Al H H'->Q (.bl true) H'
theorem ao:Ar ["row","ahead"] ["row","ahead"] (Ae aL):=Bl
include N T in
theorem Y7:Aw P w K mg base Bc 6 aD.fWm aD.dWm ["row","ahead"] (Vl K aB aP aM):=by
 have GHp:Aw P w K mg base Bc 5 aD.fHp aD.dHp ["row","ahead"] (Wb K aB aP):=Yd N T
 have GSb:Aw P w K mg base Bc 3 aD.fSb aD.dSb ["line","ahead"] ZD:=Wv N T
 refine N.FWm.1.ok ao (fun vs H Q E h=>?_) (fun cdv A outer s H vs Q E hr h=>?_)
 ·obtain ⟨r,p,ro,us,ρ,rfl,_⟩:=h
  rfl
 ·obtain ⟨r,p,ro,us,ρ,rfl,hr0,hp,hR,hl,ok,q⟩:=h
  have hrHp:BL 5 _:=hr.mono (by decide)
  have hrSb:BL 3 _:=hr.mono (by decide)
  refine ⟨_,(Af (Ck (Bd Dw (Ax (An (K:=K) rfl) (pv 0) Ac (fun _ _=>rfl)) BV (Bm _)) (Ag Fb) Bk)
   (Af (Ck (Bd Dw (Ax (An (K:=K) rfl) (pv 0) Ac (fun _ _=>rfl)) BV (Bm _)) (Ag (A_ (Dc (Am GHp hrHp rfl N.FHp.2.2 N.FHp.1.kp N.FHp.2.1 .nil Ay (Aa (pv 0) (Aa (pv 1) Ab))) (Cz (Am GSb hrSb rfl N.FSb.2.2 N.FSb.1.kp N.FSb.2.1 .nil Ay (Aa (pv 0) (Aa (pv 1) Ab))))))) Bk)
   (Ag (A_ (Dc (Q0 (Pr (Ax (An (K:=K) rfl) (pv 0) Ac (fun _ _=>rfl)) (Cd (v:=.ref aP) rfl T.mP rfl))) (Cz (Am GHp hrHp rfl N.FHp.2.2 N.FHp.1.kp N.FHp.2.1 .nil Ay (Aa (pv 0) (Aa (pv 1) Ab))))))))),?_⟩
  obtain ⟨ap,ps,hn,hap,hlen,hps,hok⟩:=ok.parts
  refine ⟨_,rfl,r,_,_,_,rfl,rfl,.inl (.inl hr0),Aj (j:=0) rfl,rfl,_,rfl,?_⟩
  refine DP (fun z=>absurd (V.str.inj (of_decide_eq_true z)) ok.ns) (fun _=>?_)
  refine ⟨_,rfl,r,_,_,_,rfl,rfl,.inl (.inl hr0),Aj (j:=0) rfl,rfl,_,rfl,?_⟩
  refine DP (fun z=>?_) (fun _=>?_)
  ·have hline:=ok.line (V.str.inj (of_decide_eq_true z))
   refine ⟨_,rfl,_,rfl,r,p,ro.w,_,us,ρ,ap,ps,rfl,hr0,hp,hR,hl,hn,hap,hlen,hps,hok,fun H1 s1=>⟨_,rfl,D_ ?_⟩⟩
   exact ⟨_,rfl,_,rfl,r,p,ro,us,ρ,rfl,s1 _ _ hr0,s1 _ _ hp,hR.mono s1,hl,hline,ok.V4,fun H2 s2=>q H2 (s1.trans s2)⟩
  refine ⟨_,rfl,r,_,_,_,rfl,rfl,.inl (.inl hr0),Aj (j:=0) rfl,aP,_,_,rfl,rfl,T.dP,hn,_,rfl,D_ ?_⟩
  exact ⟨_,rfl,_,rfl,r,p,ro.w,_,us,ρ,ap,ps,rfl,hr0,hp,hR,hl,hn,hap,hlen,hps,hok,q⟩
noncomputable def YW (K:PySem.W.Frag) (aM:Addr):Sp:=fun vs H Q _=>∃ (p:Addr) (w:Str) (us:List V) (ρ:V->R),vs=[.str w,.ref p]/\H p=some (.lst us)/\Rows H ρ us/\us.length<=500/\(PySem.W.nsIn K aM w=some none \/ ∃ (m:Int) (t:Tok),PySem.W.nsIn K aM w=some (some (.int m t))/\(((us.filter (pw ρ w)).length:Nat):Int)<m)/\∀ H',Al H H'->Q (.bl true) H'
theorem cD:Ar ["word","ahead"] ["word","ahead"] (Ae dI):=Bl
include N T in
theorem Yl:Aw P w K mg base Bc 2 aD.fHr aD.dHr ["word","ahead"] (YW K aM):=by
 have GRo:Aw P w K mg base Bc 1 aD.fRo aD.dRo ["rows","word"] Oz:=K6 N T
 refine N.FHr.1.ok cD (fun vs H Q E h=>?_) (fun cdv A outer s H vs Q E hr h=>?_)
 ·obtain ⟨p,w,us,ρ,rfl,_⟩:=h
  rfl
 ·obtain ⟨p,w,us,ρ,rfl,hp,hR,hl,hroom,q⟩:=h
  have hrRo:BL 1 _:=hr.mono (by decide)
  refine ⟨_,(Ag (A_ (W3 (Q0 (Nt (pv 0) (Cd (v:=.ref aM) rfl T.mM rfl))) (Cz (Er Hr (BR Bj rfl T.len PySem.boot_len (Aa (Am GRo hrRo rfl N.FRo.2.2 N.FRo.1.kp N.FRo.2.1 .nil Ay (Aa (pv 1) (Aa (pv 0) Ab))) Ab)) (Jm (Cd (v:=.ref aM) rfl T.mM rfl) (pv 0) (fun _ _=>rfl)) (Bm _)))))),?_⟩
  rcases hroom with hn | ⟨m,t,hn,hm⟩
  ·refine ⟨_,rfl,aM,w,_,rfl,rfl,T.dM,hn,_,rfl,D_ ?_⟩
   exact q H (Al.refl H)
  refine ⟨_,rfl,aM,w,_,rfl,rfl,T.dM,hn,_,rfl,De ?_⟩
  refine ⟨_,rfl,_,rfl,p,us,w,ρ,rfl,hp,hR,hl,fun D H2 hD s2 hl2=>?_⟩
  refine ⟨D,_,rfl,.inl (.inl (.inl hl2)),_,rfl,aM,w,.int m,_,rfl,rfl,T.dM,hn,⟨t,rfl⟩,_,_,rfl,rfl,?_⟩
  show Q (.bl (decide ((((us.filter (pw ρ w)).length:Nat):Int)<m))) H2
  rw [decide_eq_true hm]
  exact q H2 s2
noncomputable def Yj (K:PySem.W.Frag) (aB aP aM:Addr):Sp:=Vl K aB aP aM
theorem bu:Ar ["thing","ahead"] ["thing","ahead"] (Ae eE):=Bl
include N T in
theorem Xr:Aw P w K mg base Bc 7 aD.fIr aD.dIr ["thing","ahead"] (Yj K aB aP aM):=by
 have GWm:Aw P w K mg base Bc 6 aD.fWm aD.dWm ["row","ahead"] (Vl K aB aP aM):=Y7 N T
 have GHr:Aw P w K mg base Bc 2 aD.fHr aD.dHr ["word","ahead"] (YW K aM):=Yl N T
 refine N.FIr.1.ok bu (fun vs H Q E h=>?_) (fun cdv A outer s H vs Q E hr h=>?_)
 ·obtain ⟨r,p,ro,us,ρ,rfl,_⟩:=h
  rfl
 ·obtain ⟨r,p,ro,us,ρ,rfl,hr0,hp,hR,hl,ok,q⟩:=h
  have hrWm:BL 6 _:=hr.mono (by decide)
  have hrHr:BL 2 _:=hr.mono (by decide)
  refine ⟨_,(Af (Ck (PW.pt (JL (Dz (Ej (BR Cp rfl T.isin PyProof.Rows.boot_isinstance (Aa (pv 0) (Aa (Dt (v:=.ty "tuple") rfl T.tuple PyProof.Rows.boot_tuple rfl) Ab))))) (JL (Bd Dw (BR Bj rfl T.len PySem.boot_len (Aa (pv 0) Ab)) Ac (Bm _)) (Hc (Dz (Ej (BR Cp rfl T.isin PyProof.Rows.boot_isinstance (Aa (Ax (An (K:=K) rfl) (pv 0) Ac (fun _ _=>rfl)) (Aa (Dt (v:=.ty "str") rfl T.str PyProof.Rows.boot_str rfl) Ab))))))))) (Ag (A_ JZ)) Bk)
   (Ag (A_ (Dc (Am GWm hrWm rfl N.FWm.2.2 N.FWm.1.kp N.FWm.2.1 .nil Ay (Aa (pv 0) (Aa (pv 1) Ab))) (Cz (Am GHr hrHr rfl N.FHr.2.2 N.FHr.1.kp N.FHr.2.1 .nil Ay (Aa (Ax (An (K:=K) rfl) (pv 0) Ac (fun _ _=>rfl)) (Aa (pv 1) Ab)))))))),?_⟩
  have hroom:PySem.W.nsIn K aM ro.w=some none \/ ∃ (m:Int) (t:Tok),PySem.W.nsIn K aM ro.w=some (some (.int m t))/\(((us.filter (pw ρ ro.w)).length:Nat):Int)<m:=ok.room.elim (fun z=>.inl z.2) .inr
  refine ⟨_,rfl,_,"tuple",_,_,rfl,.tup hr0,XQ,_,rfl,De ?_⟩
  refine ⟨_,rfl,r,_,rfl,.inr (.inl (.inl hr0)),rfl,_,rfl,?_⟩
  refine DP (fun z=>?_) (fun _=>?_)
  ·exfalso
   have:=of_decide_eq_true z
   have:=V.int.inj this
   simp at this
   omega
  refine ⟨_,rfl,r,_,_,_,rfl,rfl,.inl (.inl hr0),Aj (j:=0) rfl,_,"str",_,_,rfl,.str _,T4,_,rfl,De ?_⟩
  refine ⟨_,rfl,_,rfl,r,p,ro,us,ρ,rfl,hr0,hp,hR,hl,ok,fun H1 s1=>⟨_,rfl,D_ ?_⟩⟩
  exact ⟨_,rfl,r,_,_,_,rfl,rfl,.inl (.inl (s1 _ _ hr0)),Aj (j:=0) rfl,_,rfl,p,ro.w,us,ρ,rfl,s1 _ _ hp,hR.mono s1,hl,hroom,fun H2 s2=>q H2 (s1.trans s2)⟩
noncomputable def XF (K:PySem.W.Frag) (aB aP aM:Addr):Sp:=fun vs H Q _=>∃ (p:Addr) (us:List V) (ρ:V->R),vs=[.ref p]/\H p=some (.lst us)/\Rows H ρ us/\1<=us.length/\us.length<=150/\(∀ (i:Nat) v,us[i]? = some v->Fp K aB aP aM ρ (us.take i) (ρ v))/\(us.filter (pw ρ "board")).isEmpty=false/\∀ H',Al H H'->Q .non H'
theorem VV:Ar ["rows","at","row"] ["rows"] (Ae cQ):=Bl
include N T in
theorem WM:Aw P w K mg base Bc 8 aD.fCk aD.dCk ["rows"] (XF K aB aP aM):=by
 have GIr:Aw P w K mg base Bc 7 aD.fIr aD.dIr ["thing","ahead"] (Yj K aB aP aM):=Xr N T
 have GRo:Aw P w K mg base Bc 1 aD.fRo aD.dRo ["rows","word"] Oz:=K6 N T
 refine N.FCk.1.ok VV (fun vs H Q E h=>?_) (fun cdv A outer s H vs Q E hr h=>?_)
 ·obtain ⟨p,us,ρ,rfl,_⟩:=h
  rfl
 ·obtain ⟨p,us,ρ,rfl,hp,hR,h1,h2,hok,hb,q⟩:=h
  have hrIr:BL 7 _:=hr.mono (by decide)
  have hrRo:BL 1 _:=hr.mono (by decide)
  obtain ⟨tMR,hMR⟩:=T.mostR
  refine ⟨_,(Af (Ck (PW.pt (JL (Dz (Ej (BR Cp rfl T.isin PyProof.Rows.boot_isinstance (Aa (pv 0) (Aa (Dt (v:=.ty "list") rfl T.list PyProof.Rows.boot_list rfl) Ab))))) (Hc (Dz (G4 E_ E_ Ac (BR Bj rfl T.len PySem.boot_len (Aa (pv 0) Ab)) (Cd (v:=.int 150) rfl hMR ⟨tMR,rfl⟩)))))) (Ag Fb) Bk)
   (Af (B_ PassesOwn.never rfl (GK rfl T.enumerate (Aa (pv 0) Ab)) (Ew rfl (Bh (BX (i:=1) VV.nd rfl (Or.inl rfl)) (Bh (BX (i:=2) VV.nd rfl (Or.inl rfl)) Ds))) (Ag (Ck (Dz (Ej (Am GIr hrIr rfl N.FIr.2.2 N.FIr.1.kp N.FIr.2.1 .nil Ay (Aa (pv 2) (Aa (G9 KH (pv 0) Hx (Hy (pv 1))) Ab))))) (Ag Fb) Bk)))
   (Ag (Ck (Dz (Ph (Am GRo hrRo rfl N.FRo.2.2 N.FRo.1.kp N.FRo.2.1 .nil Ay (Aa (pv 0) (Aa BV Ab))) (fun _=>rfl))) (Ag Fb) Bk)))),?_⟩
  have hS:Ci K H p us:=.inl (.inl hp)
  refine ⟨_,rfl,_,"list",_,_,rfl,.lst hp,TY,_,rfl,De ?_⟩
  refine ⟨_,rfl,p,_,rfl,.inl hS,_,_,rfl,rfl,_,rfl,?_⟩
  refine DP (fun _=>?_) (fun z=>absurd (decide_eq_true (by omega)) z)
  refine ⟨_,_,rfl,rfl,_,rfl,?_⟩
  have e150:decide ((us.length:Int)<=150)=true:=decide_eq_true (by omega)
  rw [e150]
  refine De ?_
  refine ⟨_,rfl,p,rfl,⟨_,hS⟩,Fx (K:=K) (a:=p) (xs:=us) (fun i σ H4=>Al H H4/\∃ v1 v2,σ=[some (.ref p),v1,v2]) ⟨Al.refl H,_,_,rfl⟩ (fun i σ H4 _ h=>h.1.seq hS) ?_ ?_⟩
  ·rintro i x σ H4 T0 hx ⟨s4,v1,v2,rfl⟩ hT
   have s5:=Az (o:=HO.tup [.int (i:Int),x]) hT
   refine ⟨T0,_,rfl,.inl (.inl Ah),rfl,_,_,rfl,_,_,rfl,rfl,?_⟩
   generalize upd H4 T0 (HO.tup [.int (i:Int),x])=H5 at s5 ⊢
   have s05:=s4.trans s5
   have hi:i<us.length:=(List.getElem?_eq_some_iff.mp hx).1
   obtain ⟨r,rfl,hr0⟩:=(hR.mono s05) x (List.mem_of_getElem? hx)
   refine ⟨_,rfl,_,rfl,_,rfl,_,rfl,p,_,rfl,s05.seq hS,fun p6 hp6=>?_⟩
   have s6:=Az (o:=HO.lst (En us none (some (i:Int)))) hp6
   have a6:upd H5 p6 (HO.lst (En us none (some (i:Int)))) p6=_:=Ah
   generalize upd H5 p6 (HO.lst (En us none (some (i:Int))))=H6 at s6 a6 ⊢
   rw [Iu us i (by omega)] at a6
   have s06:=s05.trans s6
   refine ⟨r,p6,ρ (.ref r),us.take i,ρ,rfl,s6 _ _ hr0,a6,(hR.mono s06).sub fun v hv=>List.mem_of_mem_take hv,by rw [List.length_take]; omega,hok i _ hx,fun H7 s7=>⟨_,rfl,De ?_⟩⟩
   exact ⟨s06.trans s7,_,_,rfl⟩
  ·rintro σ H4 ⟨s4,v1,v2,rfl⟩
   refine ⟨_,rfl,p,us,"board",ρ,rfl,s4 _ _ hp,hR.mono s4,by omega,fun D H5 hD s5 hl5=>?_⟩
   refine ⟨_,.inl ⟨_,.inl (.inl hl5),rfl⟩,?_⟩
   rw [hb]
   exact De (q H5 (s4.trans s5))
noncomputable def Za:Sp:=fun vs H Q _=>∃ (p:Addr) (ts:List Str),vs=[.ref p]/\H p=some (.lst (ts.map V.str))/\ts.length<=300/\ts.Nodup/\∀ D (kvs:List (Key × V)) H',H D=none->Al H H'->H' D=some (.dK kvs)->(∀ (i:Nat) t,ts[i]? = some t->CZ kvs (Sum.inr t)=some (.int (i:Nat)))->Q (.ref D) H'
theorem S_:Ar ["names","numbers","number","name"] ["names"] (Ae cR):=Bl
include N T in
theorem Yp:Aw P w K mg base Bc 1 aD.fNu aD.dNu ["names"] Za:=by
 refine N.FNu.1.ok S_ (fun vs H Q E h=>?_) (fun cdv A outer s H vs Q E hr h=>?_)
 ·obtain ⟨p,ts,rfl,_⟩:=h
  rfl
 ·obtain ⟨p,ts,rfl,hp,hl,nd,q⟩:=h
  have hu:=Ga hr
  refine ⟨_,(Af (BK (i:=1) S_.nd rfl (Or.inl rfl) Kw)
   (Af (B_ PassesOwn.never rfl (GK rfl T.enumerate (Aa (pv 0) Ab)) (Ew rfl (Bh (BX (i:=2) S_.nd rfl (Or.inl rfl)) (Bh (BX (i:=3) S_.nd rfl (Or.inl rfl)) Ds))) (Ag (Ka hu (pv 1) (pv 3) (pv 2) rfl)))
   (Ag (A_ (pv 1))))),?_⟩
  intro D hD
  have s0:=Az (o:=HO.dK []) hD
  have hS:Ci K H p (ts.map V.str):=.inl (.inl hp)
  refine ⟨_,rfl,p,rfl,⟨_,s0.seq hS⟩,Fx (K:=K) (a:=p) (xs:=ts.map V.str) (fun i σ H4=>Al H H4/\∃ (kvs:List (Key × V)),H4 D=some (.dK kvs)/\kvs.length<=i/\(∀ (j:Nat) t,j<i->ts[j]? = some t->CZ kvs (Sum.inr t)=some (.int (j:Nat)))/\∃ v2 v3,σ=[some (.ref p),some (.ref D),v2,v3])
   ⟨s0,[],Ah,Nat.le_refl _,fun j t hj=>absurd hj (Nat.not_lt_zero _),_,_,rfl⟩ (fun i σ H4 _ h=>h.1.seq hS) ?_ ?_⟩
  ·rintro i x σ H4 T0 hx ⟨s4,kvs,hd,hk,hv,v2,v3,rfl⟩ hT
   rw [List.getElem?_map] at hx
   obtain ⟨t,ht,rfl⟩:=Option.map_eq_some_iff.mp hx
   have hi:i<ts.length:=(List.getElem?_eq_some_iff.mp ht).1
   have s5:=Az (o:=HO.tup [.int (i:Int),.str t]) hT
   refine ⟨T0,_,rfl,.inl (.inl Ah),rfl,_,_,rfl,_,_,rfl,rfl,?_⟩
   generalize upd H4 T0 (HO.tup [.int (i:Int),.str t])=H5 at s5 ⊢
   refine ⟨_,rfl,_,rfl,_,rfl,D,_,rfl,J9.k (k:=Sum.inr t) (s5 _ _ hd) (Aq (by omega)),?_⟩
   refine ⟨fun b u e=>?_,putK kvs (Sum.inr t) (.int (i:Int)),Ah,Nat.le_trans (Fd _ _ _) (by omega),fun j t' hj ht'=>?_,_,_,rfl⟩
   ·rw [Av (Ao e hD)]
    exact s5 _ _ (s4 _ _ e)
   ·rw [K4]
    by_cases e:t'=t
    ·subst e
     have:j=i:=by
      obtain ⟨h1,e1⟩:=List.getElem?_eq_some_iff.mp ht'
      obtain ⟨h2,e2⟩:=List.getElem?_eq_some_iff.mp ht
      exact (List.getElem_inj nd).mp (e1.trans e2.symm)
     subst this
     rw [if_pos rfl]
    ·rw [if_neg fun z=>e (Sum.inr.inj z)]
     refine hv j t' ?_ ht'
     rcases Nat.lt_succ_iff_lt_or_eq.mp hj with z | z
     ·exact z
     ·subst z
      rw [ht] at ht'
      exact absurd (Option.some.inj ht').symm e
  ·rintro σ H4 ⟨s4,kvs,hd,hk,hv,v2,v3,rfl⟩
   refine ⟨_,rfl,q D kvs H4 hD s4 hd fun i t ht=>hv i t ?_ ht⟩
   rw [List.length_map]
   exact (List.getElem?_eq_some_iff.mp ht).1
noncomputable def Ue:Sp:=fun vs H Q _=>∃ (p:Addr) (as:List Th) (us:List V),vs=[.ref p]/\H p=some (.lst us)/\Paired (fun (a:Th) y=>TupAt H (tV a) y) as us/\as.length<=500/\(∀ a∈as,a.2.1<=100)/\∀ H',Al H H'->Q (.int ((as.map fun a=>a.2.1).sum:Nat)) H'
theorem M5:∀ l:List Nat,(l.map fun n:Nat=>(n:Int)).sum=((l.sum:Nat):Int)
 | []=>rfl
 | n::l=>by
  rw [List.map_cons,List.sum_cons,List.sum_cons,M5 l]
  omega
theorem eO:Ar ["things"] ["things"] (Ae Zx):=Bl
include N T in
theorem Tw:Aw P w K mg base Bc 1 aD.fCa aD.dCa ["things"] Ue:=by
 refine N.FCa.1.ok eO (fun vs H Q E h=>?_) (fun cdv A outer s H vs Q E hr h=>?_)
 ·obtain ⟨p,as,us,rfl,_⟩:=h
  rfl
 ·obtain ⟨p,as,us,rfl,hp,hb,hl,hz,q⟩:=h
  refine ⟨_,(Ag (A_ (BR (QQ rfl) rfl T.sum PyProof.Rows.boot_sum (Aa (Bg rfl (BP (osc:=Ae Zx) (N:=["things"]) rfl rfl (by decide +kernel)) (Bb (pv 0)) (fun _ _ _ _=>CG) (fun _ _ _ _=>(Ax (An (K:=K) rfl) (pv 0) Ac (fun _ _=>rfl)))) Ab)))),?_⟩
  have hS:Ci K H p us:=.inl (.inl hp)
  have hul:=hb.length
  refine ⟨_,rfl,p,rfl,⟨_,hS⟩,Bv (K:=K) (xs:=us) (fun _=>true) (Oq H 1) hS (Aq (by omega)) (fun x hx H' hs R k=>k H' (Al.refl H')) (fun x hx _ H' hs R k=>?_) (fun D H' hD hs hl'=>?_)⟩
  ·obtain ⟨b,_,hx'⟩:=Cg hb hx
   have e:=HH hx' 1
   obtain ⟨T0,rfl,hT⟩:=hx'.mono hs
   refine ⟨_,rfl,T0,_,_,_,rfl,rfl,.inl (.inl hT),Aj (j:=1) rfl,?_⟩
   have:=k H' (Al.refl H')
   rw [e] at this
   exact this
  ·rw [List.filter_eq_self.mpr (fun _ _=>rfl),IV 1 hb] at hl'
   have e:(as.map fun a=>(tV a).getD 1 V.non)=((as.map fun a=>a.2.1).map fun n:Nat=>(n:Int)).map V.int:=by
    rw [List.map_map,List.map_map]
    rfl
   rw [e] at hl'
   refine ⟨D,_,rfl,.inl (.inl hl'),fun n hn=>?_,by simp; omega,?_⟩
   ·obtain ⟨m,hm,rfl⟩:=List.mem_map.mp hn
    obtain ⟨b,hb',rfl⟩:=List.mem_map.mp hm
    have:=hz b hb'
    omega
   ·rw [M5]
    exact q H' hs
theorem W6 {n:Nat} (h:n<=3000):n<sizeLine:=Nat.lt_of_le_of_lt h (by decide)
noncomputable def Y0:Sp:=fun vs H Q _=>∃ (p:Addr) (as:List Th) (us:List V),vs=[.ref p]/\H p=some (.lst us)/\Paired (fun (a:Th) y=>TupAt H (tV a) y) as us/\as.length<=12/\(∀ a∈as,a.2.1<=97)/\∀ D ys H',H D=none->Al H H'->H' D=some (.lst ys)->Paired (fun q y=>TupAt H' (qV q) y) (Dq (as.map tN)) ys->Q (.ref D) H'
theorem Ry:Ar ["things","places","number","thing"] ["things"] (Ae Zr):=Bl
include N T in
theorem X_:Aw P w K mg base Bc 1 aD.fPl aD.dPl ["things"] Y0:=by
 refine N.FPl.1.ok Ry (fun vs H Q E h=>?_) (fun cdv A outer s H vs Q E hr h=>?_)
 ·obtain ⟨p,as,us,rfl,_⟩:=h
  rfl
 ·obtain ⟨p,as,us,rfl,hp,hb,hl,hz,q⟩:=h
  refine ⟨_,(Af (BK (i:=1) Ry.nd rfl (Or.inl rfl) (EY Ab))
   (Af (B_ PassesOwn.never rfl (GK rfl T.enumerate (Aa (pv 0) Ab)) (Ew rfl (Bh (BX (i:=2) Ry.nd rfl (Or.inr rfl)) (Bh (BX (i:=3) Ry.nd rfl (Or.inl rfl)) Ds))) (Ag (Ca (Ea PySem.F.plainAttrs_list PySem.F.slot_list_extend PySem.F.type_list_extend Ob (pv 1) (Aa (Bg rfl (BP (osc:=Ae Zr) (N:=["things","places","number","thing"]) rfl rfl (by decide +kernel)) (CK rfl T.range (Aa (Ax (An (K:=K) rfl) (pv 3) Ac (fun _ _=>rfl)) Ab)) (fun _ _ _ _=>CG) (fun _ _ _ _=>(CT (Aa (pv 3) (Aa (pv 0) Ab))))) Ab)))))
   (Ag (A_ (pv 1))))),?_⟩
  refine ⟨Hk (by simp),fun D hD=>?_⟩
  have s0:=Az (o:=HO.lst []) hD
  have hS:Ci K H p us:=.inl (.inl hp)
  have hul:=hb.length
  refine ⟨_,rfl,p,rfl,⟨_,s0.seq hS⟩,Fx (K:=K) (a:=p) (xs:=us) (fun i σ H4=>Al H H4/\∃ ys,H4 D=some (.lst ys)/\Paired (fun q y=>TupAt H4 (qV q) y) (Dq ((as.map tN).take i)) ys/\∃ v2 v3,σ=[some (.ref p),some (.ref D),v2,v3])
   ⟨s0,[],Ah,.nil,_,_,rfl⟩ (fun i σ H4 _ h=>h.1.seq hS) ?_ ?_⟩
  ·rintro i x σ H4 T0 hx ⟨s4,ys,hd,hpr,v2,v3,rfl⟩ hT
   obtain ⟨b,hbi,hxb⟩:=Eg hb hx
   have hi:i<as.length:=(List.getElem?_eq_some_iff.mp hbi).1
   have hb97:=hz b (List.mem_of_getElem? hbi)
   have hbi':(as.map tN)[i]? = some (tN b):=by rw [List.getElem?_map,hbi]; rfl
   have s5:=Az (o:=HO.tup [.int (i:Int),x]) hT
   refine ⟨T0,_,rfl,.inl (.inl Ah),rfl,_,_,rfl,_,_,rfl,rfl,?_⟩
   generalize upd H4 T0 (HO.tup [.int (i:Int),x])=H5 at s5 ⊢
   obtain ⟨r,rfl,hr0⟩:=hxb.mono (s4.trans s5)
   have p5:=Ai s5 hpr
   have d5:=s5 _ _ hd
   refine ⟨_,rfl,.inl ⟨rfl,_,.inl (.inl d5)⟩,_,rfl,r,_,_,_,rfl,rfl,.inl (.inl hr0),Aj (j:=1) rfl,_,rfl,by omega,by omega,?_⟩
   rw [Int.toNat_natCast]
   refine N8 (n:=b.2.1) (fun e=>qV (i,e)) (Aq (by omega)) (fun e he H6 s6 R k=>?_) (fun D6 H6 zs hD6 s6 hl6 hz6=>?_)
   ·refine ⟨_,rfl,_,rfl,by show 2<=sizeLine; decide,fun T6 hT6=>?_⟩
    exact k _ _ (Az hT6) ⟨T6,rfl,Ah⟩
   ·have ly:=(Ai s6 p5).length
    have lz:=hz6.length
    have lp:=J4 ((as.map tN).take i) 97 fun b hb=>by
     obtain ⟨a,ha,rfl⟩:=List.mem_map.mp (List.mem_of_mem_take hb)
     exact hz a ha
    rw [List.length_take,List.length_map] at lp
    rw [List.length_range] at lz
    have:min i as.length * 97<=12 * 97:=Nat.mul_le_mul_right _ (by omega)
    refine ⟨D,D6,ys,zs,rfl,rfl,s6 _ _ d5,hl6,Nat.le_of_lt (W6 (by omega)),?_⟩
    refine ⟨fun b u e=>?_,ys++zs,Ah,?_,_,_,rfl⟩
    ·rw [Av (Ao e hD)]
     exact s6 _ _ (s5 _ _ (s4 _ _ e))
    ·rw [Ff hbi']
     exact Ey (DG (Ai s6 p5) (s6 _ _ d5)) (Bs (F:=fun q y=>TupAt _ (qV q) y) (fun e=>(i,e)) (DG hz6 (s6 _ _ d5)))
  ·rintro σ H4 ⟨s4,ys,hd,hpr,v2,v3,rfl⟩
   rw [← hul,List.take_of_length_le (by rw [List.length_map]; exact Nat.le_refl _)] at hpr
   exact ⟨_,rfl,q D ys H4 hD s4 hd hpr⟩
theorem Rg {α:Type} (l:List α) (x:α):PJ (l++[x]) (-1)=some x:=by
 unfold PJ Ui
 rw [if_neg (by decide),if_pos (by rw [List.length_append,List.length_singleton]; omega)]
 show (l++[x])[(-1+(((l++[x]).length:Nat):Int)).toNat]? = some x
 have e:(-1+(((l++[x]).length:Nat):Int)).toNat=l.length:=by
  rw [List.length_append,List.length_singleton]
  omega
 rw [e,List.getElem?_append_right (Nat.le_refl _),Nat.sub_self]
 rfl
theorem JC {H:Hp} {l:List Ln} {v:V} {A:Addr} {xs ys:List V} (h:Gq H l v) (hA:H A=some (.lst xs)) (hv:v ≠ .ref A):Gq (upd H A (.lst ys)) l v:=by
 obtain ⟨B,ts,rfl,h1,h2⟩:=h
 have:B ≠ A:=fun z=>hv (by rw [z])
 exact ⟨B,ts,rfl,by rw [Av this]; exact h1,DG h2 hA⟩
theorem Fq {α β:Type} {F G:α->β->Prop}:∀ {l:List α} {vs:List β},Paired F l vs->(∀ a b,b∈vs->F a b->G a b)->Paired G l vs
 | [],_,h,_=>by cases h; exact .nil
 | a::l,_,h,k=>by
  cases h with
  | cons x y=>exact .cons (k _ _ (List.mem_cons_self ..) x) (Fq y fun a b hb=>k a b (List.mem_cons_of_mem _ hb))
theorem HB {α β:Type} {F:α->β->Prop}:∀ {l:List α} {z:α} {vs:List β},Paired F (l++[z]) vs->∃ us u,vs=us++[u]/\Paired F l us/\F z u
 | [],z,_,h=>by
  cases h with
  | cons x y=>cases y; exact ⟨[],_,rfl,.nil,x⟩
 | a::l,z,_,h=>by
  cases h with
  | cons x y =>
   obtain ⟨us,u,rfl,h1,h2⟩:=HB y
   exact ⟨_::us,u,rfl,.cons x h1,h2⟩
theorem Dn {α:Type} {l:List α} (h:l ≠ []):∃ a z,l=a++[z]:=⟨l.dropLast,l.getLast h,(List.dropLast_concat_getLast h).symm⟩
theorem LC {rk:List (Str × Nat × Int)}:∀ {rs:List R},(∃ r∈rs,Gx r.w=true)->linesOf rk rs ≠ []:=by
 have key:∀ (n:Nat) (rs:List R),rs.length=n->(∃ r∈rs,Gx r.w=true)->linesOf rk rs ≠ []:=by
  intro n
  induction n with
  | zero =>
   rintro rs hl ⟨r,hr,_⟩
   cases rs with
   | nil=>cases hr
   | cons a b=>cases hl
  | succ n ih =>
   rintro rs hl ⟨r,hr,hk⟩
   obtain ⟨a,z,rfl⟩:=Dn (l:=rs) (by intro e; rw [e] at hl; cases hl)
   rw [Br]
   rw [List.length_append,List.length_singleton] at hl
   unfold Eh
   by_cases hz:Gx z.w=true
   ·rw [if_pos hz]
    simp
   ·rw [if_neg hz]
    have hr':r∈a:=by
     rcases List.mem_append.mp hr with h | h
     ·exact h
     ·rw [List.mem_singleton.mp h] at hk
      exact absurd hk hz
    have ih':=ih a (by omega) ⟨r,hr',hk⟩
    split
    ·obtain ⟨b,y,e⟩:=Dn ih'
     rw [e,GF]
     simp
    ·exact ih'
 exact fun {rs} h=>key rs.length rs rfl h
noncomputable def ZK:Sp:=fun vs H Q _=>∃ (p d:Addr) (us:List V) (ρ:V->R) (rk:List (Str × Nat × Int)) (kvs:List (Key × V)),vs=[.ref p,.ref d]/\H p=some (.lst us)/\Rows H ρ us/\us.length<=500/\H d=some (.dK kvs)/\(∀ (i:Nat) r,rk[i]? = some r->CZ kvs (Sum.inr r.1)=some (.int (i:Nat)))/\(rk.map (·.1)).Nodup /\
 (∀ (i:Nat) v,us[i]? = some v->(ρ v).w = "line"->(∃ (j:Nat) (r:Str × Nat × Int) (sh lo hi:Int),rk[j]? = some r/\r.1=(ρ v).nm/\(ρ v).rest=[.int sh,.int lo,.int hi])/\∃ u∈us.take i,Gx (ρ u).w=true)/\∀ D H',H D=none->Al H H'->Ex H' D (linesOf rk (us.map ρ))->Q (.ref D) H'
theorem Vt {rk:List (Str × Nat × Int)} {j:Nat} {r:Str × Nat × Int} (nd:(rk.map (·.1)).Nodup) (h:rk[j]? = some r):(rk.map (·.1)).idxOf r.1=j:=by
 have hj:j<(rk.map (·.1)).length:=by rw [List.length_map]; exact (List.getElem?_eq_some_iff.mp h).1
 have e:(rk.map (·.1))[j]=r.1:=by
  rw [List.getElem_map]
  exact congrArg (·.1) (List.getElem?_eq_some_iff.mp h).2
 rw [← e]
 exact List.Nodup.idxOf_getElem nd j hj
theorem VF:Ar ["rows","rank_numbers","lines","row"] ["rows","rank_numbers"] (Ae au):=Bl
include N T in
theorem Xl:Aw P w K mg base Bc 1 aD.fLi aD.dLi ["rows","rank_numbers"] ZK:=by
 refine N.FLi.1.ok VF (fun vs H Q E h=>?_) (fun cdv A outer s H vs Q E hr h=>?_)
 ·obtain ⟨p,d,us,ρ,rk,kvs,rfl,_⟩:=h
  rfl
 ·obtain ⟨p,d,us,ρ,rk,kvs,rfl,hp,hR,hl,hdk,hval,hnd,hln,q⟩:=h
  have hu:=Ga hr
  refine ⟨_,(Af (BK (i:=2) VF.nd rfl (Or.inl rfl) (EY Ab))
   (Af (B_ PassesOwn.never rfl (Bb (pv 0)) (BX (i:=3) VF.nd rfl (Or.inl rfl)) (Af (Ck (Bd (Gu (K:=K) rfl) (Ax (An (K:=K) rfl) (pv 3) Ac (fun _ _=>rfl)) (Cd (v:=.ref aK) rfl T.mK rfl) rfl) (Ag (Ca (Ea PySem.F.plainAttrs_list PySem.F.slot_list_append PySem.F.type_list_append Bp (pv 2) (Aa (EY Ab) Ab)))) Bk)
   (Ag (Ck (Bd Dw (Ax (An (K:=K) rfl) (pv 3) Ac (fun _ _=>rfl)) BV (Bm _)) (Ag (Ca (Ea PySem.F.plainAttrs_list PySem.F.slot_list_append PySem.F.type_list_append Bp (Ax (Ft (K:=K) rfl) (pv 2) (M9 J6 Ac) (fun _ _=>rfl)) (Aa (CT (Aa (HF hu (pv 1) (Ax (An (K:=K) rfl) (pv 3) Ac (fun _ _=>rfl)) (fun _ _=>rfl)) (Aa (Ax (An (K:=K) rfl) (pv 3) Ac (fun _ _=>rfl)) (Aa (Ax (An (K:=K) rfl) (pv 3) Ac (fun _ _=>rfl)) (Aa (Ax (An (K:=K) rfl) (pv 3) Ac (fun _ _=>rfl)) Ab))))) Ab)))) Bk))))
   (Ag (A_ (pv 2))))),?_⟩
  refine ⟨Hk (by simp),fun D hD=>?_⟩
  have s0:=Az (o:=HO.lst []) hD
  have hS:Ci K H p us:=.inl (.inl hp)
  refine ⟨_,rfl,p,rfl,⟨_,s0.seq hS⟩,Eb (K:=K) (a:=p) (xs:=us) (fun i σ H4=>Al H H4/\∃ lv,H4 D=some (.lst lv)/\Paired (fun l v=>Gq H4 l v) (linesOf rk ((us.take i).map ρ)) lv/\lv.Nodup/\(∀ v∈lv,v ≠ .ref D)/\(∀ v∈lv,∃ A,v=.ref A/\H A=none)/\lv.length<=i/\(∀ l∈linesOf rk ((us.take i).map ρ),l.length<=i)/\∃ v3,σ=[some (.ref p),some (.ref d),some (.ref D),v3])
   ⟨s0,[],Ah,.nil,List.nodup_nil,(fun v hv=>nomatch hv),(fun v hv=>nomatch hv),Nat.le_refl _,(fun l hl=>nomatch hl),_,rfl⟩ (fun i σ H4 _ h=>h.1.seq hS) ?_ ?_⟩
  ·rintro i x σ H4 hx ⟨s4,lv,hd,hpr,nd,hne,hA0,hlv,hll,v3,rfl⟩
   have hm:=List.mem_of_getElem? hx
   have hi:i<us.length:=(List.getElem?_eq_some_iff.mp hx).1
   obtain ⟨r,rfl,hr0⟩:=(hR.mono s4) x hm
   have etake:(us.take (i+1)).map ρ=(us.take i).map ρ++[ρ (.ref r)]:=by
    rw [List.take_add_one,hx,List.map_append]
    rfl
   have est:linesOf rk ((us.take (i+1)).map ρ)=Eh rk (linesOf rk ((us.take i).map ρ)) (ρ (.ref r)):=by rw [etake,Br]
   have lvl:(linesOf rk ((us.take i).map ρ)).length=lv.length:=hpr.length
   by_cases hk:Gx (ρ (.ref r)).w=true
   ·have hnl:¬ (ρ (.ref r)).w = "line":=fun z=>by rw [z] at hk; exact absurd hk (by decide +kernel)
    have est2:linesOf rk ((us.take (i+1)).map ρ)=linesOf rk ((us.take i).map ρ)++[[]]:=by rw [est]; unfold Eh; rw [if_pos hk]
    refine ⟨_,rfl,r,_,_,_,rfl,rfl,.inl (.inl hr0),Aj (j:=0) rfl,aK,_,rfl,.inr (T.tK.sq _),rfl,rfl,_,rfl,?_⟩
    refine DP (fun _=>?_) (fun z=>absurd hk z)
    refine ⟨_,rfl,.inl ⟨rfl,_,.inl (.inl hd)⟩,Hk (by simp),fun p5 hp5=>?_⟩
    obtain ⟨H5,eqH,s5,u5⟩:=Jr (o:=HO.lst []) hp5
    rw [eqH]
    have hd5:=s5 _ _ hd
    refine ⟨D,lv,_,rfl,rfl,hd5,Aq (by omega),?_⟩
    have hrD:r ≠ D:=LQ (s5 _ _ hr0) hd5 (by intro z; cases z)
    have hpD:p5 ≠ D:=fun z=>by rw [z,hd] at hp5; cases hp5
    refine ⟨_,rfl,r,_,_,_,rfl,rfl,.inl (.inl (by rw [Av hrD]; exact s5 _ _ hr0)),Aj (j:=0) rfl,rfl,_,rfl,?_⟩
    refine DP (fun z=>absurd (V.str.inj (of_decide_eq_true z)) hnl) (fun _=>?_)
    refine ⟨fun b u e=>?_,lv++[.ref p5],Ah,?_,?_,?_,?_,by simp; omega,?_,_,rfl⟩
    ·rw [Av (Ao e hD)]
     exact s5 _ _ (s4 _ _ e)
    ·rw [est2]
     refine Ey (Fq hpr fun l v hv h=>JC (h.mono s5) hd5 (hne v hv)) (.cons ⟨p5,[],rfl,by rw [Av hpD]; exact u5,.nil⟩ .nil)
    ·refine NP nd fun hm=>?_
     obtain ⟨l,_,hA⟩:=Cg hpr hm
     obtain ⟨A,ts,e,h1,_⟩:=hA
     cases e
     rw [h1] at hp5
     cases hp5
    ·intro v hv
     rcases List.mem_append.mp hv with h | h
     ·exact hne v h
     ·rw [List.mem_singleton.mp h]
      intro z
      exact hpD (V.ref.inj z)
    ·intro v hv
     rcases List.mem_append.mp hv with h | h
     ·exact hA0 v h
     ·exact ⟨p5,List.mem_singleton.mp h,s4.free hp5⟩
    ·intro l hl'
     rw [est2] at hl'
     rcases List.mem_append.mp hl' with h | h
     ·exact Nat.le_succ_of_le (hll l h)
     ·rw [List.mem_singleton.mp h]
      exact Nat.zero_le _
   ·refine ⟨_,rfl,r,_,_,_,rfl,rfl,.inl (.inl hr0),Aj (j:=0) rfl,aK,_,rfl,.inr (T.tK.sq _),rfl,rfl,_,rfl,?_⟩
    refine DP (fun z=>absurd z hk) (fun _=>?_)
    refine ⟨_,rfl,r,_,_,_,rfl,rfl,.inl (.inl hr0),Aj (j:=0) rfl,rfl,_,rfl,?_⟩
    by_cases hwl:(ρ (.ref r)).w = "line"
    ·refine DP (fun _=>?_) (fun z=>absurd (decide_eq_true (congrArg V.str hwl)) z)
     obtain ⟨⟨j,rr,sh,lo,hi',hj,hnm,hrest⟩,u,hu,hku⟩:=hln i _ hx hwl
     have hne0:linesOf rk ((us.take i).map ρ) ≠ []:=LC ⟨ρ u,List.mem_map_of_mem hu,hku⟩
     obtain ⟨ac,z,eac⟩:=Dn hne0
     rw [eac] at hpr
     obtain ⟨lv',v,rfl,hpr',hz⟩:=HB hpr
     obtain ⟨A,ts,rfl,hA,htp⟩:=hz
     have est2:linesOf rk ((us.take (i+1)).map ρ)=ac++[z++[⟨j,sh,lo,hi'⟩]]:=by
      rw [est]
      unfold Eh
      rw [if_neg hk,if_pos hwl,eac,GF]
      unfold lnOf
      rw [hrest,← hnm,Vt hnd hj]
     have hr1:H4 r=some (.tup [.str (ρ (.ref r)).w,.str (ρ (.ref r)).nm,.int sh,.int lo,.int hi']):=by rw [hr0,← hrest]
     have g:=FT.k (k:=Sum.inr rr.1) (s4 _ _ hdk)
     rw [hval j rr hj,hnm] at g
     have hAD:A ≠ D:=fun e=>hne (.ref A) (by simp) (by rw [e])
     have hzl:z.length<=i:=hll z (by rw [eac]; simp)
     have htl:=htp.length
     refine ⟨_,rfl,_,rfl,D,_,_,_,rfl,rfl,.inl (.inl hd),Rg lv' (V.ref A),.inl ⟨rfl,_,.inl (.inl hA)⟩,_,rfl,_,rfl,r,_,_,_,rfl,rfl,.inl (.inl hr1),Aj (j:=1) rfl,d,_,rfl,g,_,rfl,r,_,_,_,rfl,rfl,.inl (.inl hr1),Aj (j:=2) rfl,_,rfl,r,_,_,_,rfl,rfl,.inl (.inl hr1),Aj (j:=3) rfl,_,rfl,r,_,_,_,rfl,rfl,.inl (.inl hr1),Aj (j:=4) rfl,by show 4<=sizeLine; decide,fun T5 hT5=>?_⟩
     obtain ⟨H5,eqH,s5,u5⟩:=Jr (o:=HO.tup [.int (j:Nat),.int sh,.int lo,.int hi']) hT5
     rw [eqH]
     have hA5:=s5 _ _ hA
     have hTA:T5 ≠ A:=fun e=>by rw [e,hA] at hT5; cases hT5
     have hdj:D ≠ A:=fun e=>hAD e.symm
     obtain ⟨nd1,_,hdisj⟩:=List.nodup_append.mp nd
     refine ⟨A,ts,_,rfl,rfl,hA5,Aq (by omega),?_⟩
     refine ⟨fun b u e=>?_,lv'++[.ref A],by rw [Av hdj]; exact s5 _ _ hd,?_,nd,hne,hA0,by omega,?_,_,rfl⟩
     ·obtain ⟨A',eA,hA'⟩:=hA0 (.ref A) (by simp)
      cases eA
      rw [Av (Ao e hA')]
      exact s5 _ _ (s4 _ _ e)
     ·rw [est2]
      refine Ey (Fq hpr' fun l v hv h=>JC (h.mono s5) hA5 (fun e=>hdisj v hv _ (List.mem_singleton.mpr rfl) e)) (.cons ⟨A,ts++[.ref T5],rfl,Ah,Ey (DG (Ai s5 htp) hA5) (.cons ⟨T5,rfl,by rw [Av hTA]; exact u5⟩ .nil)⟩ .nil)
     ·intro l hl'
      rw [est2] at hl'
      rcases List.mem_append.mp hl' with h | h
      ·exact Nat.le_succ_of_le (hll l (by rw [eac]; exact List.mem_append_left _ h))
      ·rw [List.mem_singleton.mp h,List.length_append,List.length_singleton]
       omega
    ·refine DP (fun z=>absurd (V.str.inj (of_decide_eq_true z)) hwl) (fun _=>?_)
     have est2:linesOf rk ((us.take (i+1)).map ρ)=linesOf rk ((us.take i).map ρ):=by rw [est]; unfold Eh; rw [if_neg hk,if_neg hwl]
     rw [← est2] at hpr hll
     exact ⟨s4,lv,hd,hpr,nd,hne,hA0,by omega,fun l hl'=>Nat.le_succ_of_le (hll l hl'),_,rfl⟩
  ·rintro σ H4 ⟨s4,lv,hd,hpr,nd,hne,hA0,hlv,hll,v3,rfl⟩
   rw [List.take_length] at hpr
   exact ⟨_,rfl,q D H4 hD s4 ⟨lv,hd,hpr⟩⟩
noncomputable abbrev Rw:List Str:=["row_list","board_list","rank_list","knob_rows","board_numbers","rank_numbers","knob_numbers","key_places","pipe_places","knob_lines","step_sets"]
theorem DX:∀ m∈meths,∀ f∈Rw,¬ m=f:=by decide +kernel
theorem La {H H':Hp} {D x C dx:Addr} {fs:List (Str × V)} {ls:List (List Ln)} (h:Ex H D ls) (s:SX x H H') (hx:H x=some (.ins C dx fs)):Ex H' D ls:=by
 obtain ⟨lv,h1,h2⟩:=h
 refine ⟨lv,s.lst hx h1,Paired.Hv h2 fun _ _ q=>?_⟩
 obtain ⟨A,ts,e,h3,h4⟩:=q
 exact ⟨A,ts,e,s.lst hx h3,s.pair hx h4⟩
theorem Nz {rk:List (Str × Nat × Int)} {ρ:V->R} {us:List V} {P1:Nat->V->Prop} (h:∀ (i:Nat) v,us[i]? = some v->(ρ v).w = "line"->P1 i v/\∃ u∈us.take i,Gx (ρ u).w=true):(linesOf rk (us.map ρ)).length=(us.filter (fun v=>Gx (ρ v).w)).length:=by
 have key:∀ n,n<=us.length->(linesOf rk ((us.take n).map ρ)).length=((us.take n).filter (fun v=>Gx (ρ v).w)).length:=by
  intro n
  induction n with
  | zero=>intro _; rfl
  | succ n ih =>
   intro hn
   have hx:=List.getElem?_eq_getElem (l:=us) (i:=n) (by omega)
   rw [List.take_add_one,hx,List.map_append]
   show (linesOf rk ((us.take n).map ρ++[ρ us[n]])).length=((us.take n++[us[n]]).filter _).length
   rw [Br,List.filter_append,List.length_append,← ih (by omega)]
   unfold Eh
   by_cases hk:Gx (ρ us[n]).w=true
   ·rw [if_pos hk,List.filter_cons,if_pos hk]
    simp
   ·rw [if_neg hk,List.filter_cons,if_neg hk]
    by_cases hl:(ρ us[n]).w = "line"
    ·rw [if_pos hl]
     obtain ⟨_,u,hu,hku⟩:=h n _ hx hl
     obtain ⟨a,z,e⟩:=Dn (LC (rk:=rk) ⟨ρ u,List.mem_map_of_mem hu,hku⟩)
     rw [e,GF]
     simp
    ·rw [if_neg hl]
     simp
 have:=key us.length (Nat.le_refl _)
 rw [List.take_length] at this
 exact this
noncomputable def Y9 (K:PySem.W.Frag) (aB aP aM C:Addr):Sp:=fun vs H Q _=>∃ (x dx p:Addr) (us:List V) (ρ:V->R) (bs:List (Str × Nat)) (rk:List (Str × Nat × Int)) (ks:List R),vs=[.ref x,.ref p]/\H x=some (.ins C dx [])/\H p=some (.lst us)/\Rows H ρ us/\Zn K aB aP aM ρ us bs rk ks/\∀ H',Cw C H' x bs rk ks (linesOf rk (us.map ρ))->SX x H H'->Q .non H'
theorem cU:Ar ["self","rows"] ["self","rows"] (Ae RM):=Bl
include N T in
theorem XN:Aw P w K mg base Bc 9 aD.fOi aD.dOi ["self","rows"] (Y9 K aB aP aM C):=by
 have GCk:Aw P w K mg base Bc 8 aD.fCk aD.dCk ["rows"] (XF K aB aP aM):=WM N T
 have GRo:Aw P w K mg base Bc 1 aD.fRo aD.dRo ["rows","word"] Oz:=K6 N T
 have GNu:Aw P w K mg base Bc 1 aD.fNu aD.dNu ["names"] Za:=Yp N T
 have GPl:Aw P w K mg base Bc 1 aD.fPl aD.dPl ["things"] Y0:=X_ N T
 have GLi:Aw P w K mg base Bc 1 aD.fLi aD.dLi ["rows","rank_numbers"] ZK:=Xl N T
 refine N.FOi.1.ok cU (fun vs H Q E h=>?_) (fun cdv A outer s H vs Q E hr h=>?_)
 ·obtain ⟨x,dx,p,us,ρ,bs,rk,ks,rfl,_⟩:=h
  rfl
 ·obtain ⟨x,dx,p,us,ρ,bs,rk,ks,rfl,hx,hp,hR,O,q⟩:=h
  have hrCk:BL 8 _:=hr.mono (by decide)
  have hrRo:BL 1 _:=hr.mono (by decide)
  have hrNu:BL 1 _:=hr.mono (by decide)
  have hrPl:BL 1 _:=hr.mono (by decide)
  have hrLi:BL 1 _:=hr.mono (by decide)
  refine ⟨_,(Af (Ca (Am GCk hrCk rfl N.FCk.2.2 N.FCk.1.kp N.FCk.2.1 .nil Ay (Aa (pv 1) Ab)))
   (Af (Dr (pv 0) (Dv DR rfl T.list PyProof.Rows.boot_list (Aa (pv 1) Ab)) rfl)
   (Af (Dr (pv 0) (Bg rfl (BP (osc:=Ae RM) (N:=["self","rows"]) rfl rfl (by decide +kernel)) (Bb (Am GRo hrRo rfl N.FRo.2.2 N.FRo.1.kp N.FRo.2.1 .nil Ay (Aa (pv 1) (Aa BV Ab)))) (fun _ _ _ _=>CG) (fun _ _ _ _=>(CT (Aa (Ax (An (K:=K) rfl) (pv 0) Ac (fun _ _=>rfl)) (Aa (Ax (An (K:=K) rfl) (pv 0) Ac (fun _ _=>rfl)) Ab))))) rfl)
   (Af (Dr (pv 0) (Bg rfl (BP (osc:=Ae RM) (N:=["self","rows"]) rfl rfl (by decide +kernel)) (Bb (Am GRo hrRo rfl N.FRo.2.2 N.FRo.1.kp N.FRo.2.1 .nil Ay (Aa (pv 1) (Aa BV Ab)))) (fun _ _ _ _=>CG) (fun _ _ _ _=>(CT (Aa (Ax (An (K:=K) rfl) (pv 0) Ac (fun _ _=>rfl)) (Aa (Ax (An (K:=K) rfl) (pv 0) Ac (fun _ _=>rfl)) (Aa (Ax (An (K:=K) rfl) (pv 0) Ac (fun _ _=>rfl)) Ab)))))) rfl)
   (Af (Dr (pv 0) (Bg rfl (BP (osc:=Ae RM) (N:=["self","rows"]) rfl rfl (by decide +kernel)) (Bb (pv 1)) (fun _ _ _ _=>(Gi (Bd (Gu (K:=K) rfl) (Ax (An (K:=K) rfl) (pv 0) Ac (fun _ _=>rfl)) (Cd (v:=.ref aK) rfl T.mK rfl) rfl))) (fun _ _ _ _=>(pv 0))) rfl)
   (Af (Dr (pv 0) (Am GNu hrNu rfl N.FNu.2.2 N.FNu.1.kp N.FNu.2.1 .nil Ay (Aa (Bg rfl (BP (osc:=Ae RM) (N:=["self","rows"]) rfl rfl (by decide +kernel)) (Bb (Bw (pv 0) rfl)) (fun _ _ _ _=>CG) (fun _ _ _ _=>(Ax (An (K:=K) rfl) (pv 0) Ac (fun _ _=>rfl)))) Ab)) rfl)
   (Af (Dr (pv 0) (Am GNu hrNu rfl N.FNu.2.2 N.FNu.1.kp N.FNu.2.1 .nil Ay (Aa (Bg rfl (BP (osc:=Ae RM) (N:=["self","rows"]) rfl rfl (by decide +kernel)) (Bb (Bw (pv 0) rfl)) (fun _ _ _ _=>CG) (fun _ _ _ _=>(Ax (An (K:=K) rfl) (pv 0) Ac (fun _ _=>rfl)))) Ab)) rfl)
   (Af (Dr (pv 0) (Am GNu hrNu rfl N.FNu.2.2 N.FNu.1.kp N.FNu.2.1 .nil Ay (Aa (Bg rfl (BP (osc:=Ae RM) (N:=["self","rows"]) rfl rfl (by decide +kernel)) (Bb (Bw (pv 0) rfl)) (fun _ _ _ _=>CG) (fun _ _ _ _=>(Ax (An (K:=K) rfl) (pv 0) Ac (fun _ _=>rfl)))) Ab)) rfl)
   (Af (Dr (pv 0) (Am GPl hrPl rfl N.FPl.2.2 N.FPl.1.kp N.FPl.2.1 .nil Ay (Aa (Bw (pv 0) rfl) Ab)) rfl)
   (Af (Dr (pv 0) (Am GPl hrPl rfl N.FPl.2.2 N.FPl.1.kp N.FPl.2.1 .nil Ay (Aa (Bw (pv 0) rfl) Ab)) rfl)
   (Af (Dr (pv 0) (Am GLi hrLi rfl N.FLi.2.2 N.FLi.1.kp N.FLi.2.1 .nil Ay (Aa (pv 1) (Aa (Bw (pv 0) rfl) Ab))) rfl)
   (Ag (Dr (pv 0) (Bg rfl (BP (osc:=Ae RM) (N:=["self","rows"]) rfl rfl (by decide +kernel)) (Bb (Am GRo hrRo rfl N.FRo.2.2 N.FRo.1.kp N.FRo.2.1 .nil Ay (Aa (pv 1) (Aa BV Ab)))) (fun _ _ _ _=>CG) (fun _ _ _ _=>Q8)) rfl))))))))))))),?_⟩
  have hlen:=O.len
  obtain ⟨ur,hur⟩:∃ ur,us.filter (pw ρ "rank")=ur:=⟨_,rfl⟩
  have er:ur.map ρ=rk.map G6:=by rw [← hur]; exact O.er
  have lr:ur.length=rk.length:=by have:=congrArg List.length er; simpa using this
  have inR:∀ {v},v∈ur->v∈us:=fun {v} hv=>by rw [← hur] at hv; exact (List.mem_filter.mp hv).1
  have ofR:∀ {v},v∈ur->∃ b∈rk,ρ v=G6 b:=fun {v} hv=>by
   have:ρ v∈rk.map G6:=by rw [← er]; exact List.mem_map_of_mem hv
   obtain ⟨b,hb,e⟩:=List.mem_map.mp this
   exact ⟨b,hb,e.symm⟩
  obtain ⟨ub,hub⟩:∃ ub,us.filter (pw ρ "board")=ub:=⟨_,rfl⟩
  obtain ⟨uk,huk⟩:∃ uk,us.filter (fun v=>Gx (ρ v).w)=uk:=⟨_,rfl⟩
  have eb:ub.map ρ=bs.map Gg:=by rw [← hub]; exact O.eb
  have ek:uk.map ρ=ks:=by rw [← huk]; exact O.ek
  have lb:ub.length=bs.length:=by have:=congrArg List.length eb; simpa using this
  have lku:uk.length=ks.length:=by have:=congrArg List.length ek; simpa using this
  have inB:∀ {v},v∈ub->v∈us:=fun {v} hv=>by rw [← hub] at hv; exact (List.mem_filter.mp hv).1
  have inKn:∀ {v},v∈uk->v∈us:=fun {v} hv=>by rw [← huk] at hv; exact (List.mem_filter.mp hv).1
  have ofB:∀ {v},v∈ub->∃ b∈bs,ρ v=Gg b:=fun {v} hv=>by
   have:ρ v∈bs.map Gg:=by rw [← eb]; exact List.mem_map_of_mem hv
   obtain ⟨b,hb,e⟩:=List.mem_map.mp this
   exact ⟨b,hb,e.symm⟩
  have l1us:1<=us.length:=by
   have h1:=O.b0
   have h2:ub.length<=us.length:=by rw [← hub]; exact List.length_filter_le _ _
   omega
  refine ⟨_,rfl,p,us,ρ,rfl,hp,hR,l1us,by omega,O.ok,?_,fun H1 s1=>?_⟩
  ·rw [hub]
   cases ub with
   | nil =>
    have:=O.b0
    simp at lb
    omega
   | cons a b=>rfl
  have c1:SX x H H1:=SX.of s1
  have x1:=s1 _ _ hx
  refine ⟨_,rfl,p,_,rfl,.inl (.inl (.inl (s1 _ _ hp))),fun l1 hl1=>?_⟩
  have s2:=Az (o:=HO.lst us) hl1
  generalize upd H1 l1 (HO.lst us)=H2 at s2 ⊢
  refine ⟨_,rfl,x,C,dx,_,rfl,s2 _ _ x1,T.cl,T.n_row_list,(by show 0<1000; decide),?_⟩
  have c2:SX x H _:=(c1.trans (SX.of s2)).trans (SX.up (o:=HO.ins C dx (BZ "row_list" (.ref l1) [])))
  have x2:upd H2 x (HO.ins C dx (BZ "row_list" (.ref l1) [])) x=_:=Ah
  generalize upd H2 x (HO.ins C dx (BZ "row_list" (.ref l1) []))=H3 at c2 x2 ⊢
  have R3:Rows H3 ρ us:=fun v hv=>c2.tup hx (hR v hv)
  refine ⟨_,rfl,p,_,"board",ρ,rfl,c2.lst hx hp,R3,by omega,fun D4 H4 hD4 s4 hl4=>?_⟩
  rw [hub] at hl4
  have hS4:Ci K H4 D4 ub:=.inl (.inl hl4)
  refine ⟨D4,rfl,⟨_,hS4⟩,Ip (K:=K) (xs:=ub) (fun _=>true) (fun v=>[.str (ρ v).nm,(ρ v).rest.getD 0 .non]) hS4 (Aq (by have:=O.b5; omega)) (fun y hy H' hs R k=>k H' (Al.refl H')) (fun y hy _ H' hs R k=>?_) (fun D5 H5 bvs hD5 s5 hl5 hb5=>?_)⟩
  ·obtain ⟨b,_,e⟩:=ofB hy
   have hT:=(R3 y (inB hy)).mono (s4.trans hs)
   rw [e] at hT k
   obtain ⟨T0,rfl,hT⟩:=hT
   exact ⟨_,rfl,T0,_,_,_,rfl,rfl,.inl (.inl hT),Aj (j:=1) rfl,_,rfl,T0,_,_,_,rfl,rfl,.inl (.inl hT),Aj (j:=2) rfl,by show 2<=sizeLine; decide,fun T6 hT6=>k _ _ (Az hT6) ⟨T6,rfl,Ah⟩⟩
  rw [List.filter_eq_self.mpr (fun _ _=>rfl)] at hb5
  have hb5':Paired (fun b y=>TupAt H5 (bV b) y) bs bvs:=by
   have h1:=Bs (F:=fun (r:R) y=>TupAt H5 [.str r.nm,r.rest.getD 0 .non] y) ρ hb5
   rw [eb] at h1
   exact Ei Gg h1
  clear hb5
  refine ⟨_,rfl,x,C,dx,_,rfl,s5 _ _ (s4 _ _ x2),T.cl,T.n_board_list,Nat.lt_of_le_of_lt (Bf _ _ _) (by show 1<1000; decide),?_⟩
  have u6:SX x H5 _:=SX.up (o:=HO.ins C dx (BZ "board_list" (.ref D5) (BZ "row_list" (.ref l1) [])))
  have x5:=s5 _ _ (s4 _ _ x2)
  have c6:SX x H _:=(c2.trans (SX.of (s4.trans s5))).trans u6
  have x6:upd H5 x (HO.ins C dx (BZ "board_list" (.ref D5) (BZ "row_list" (.ref l1) []))) x=_:=Ah
  have hl6:=u6.lst x5 hl5
  have hb6:=u6.pair x5 hb5'
  generalize upd H5 x (HO.ins C dx (BZ "board_list" (.ref D5) (BZ "row_list" (.ref l1) [])))=H6 at c6 x6 hl6 hb6 ⊢
  clear u6
  have R6:Rows H6 ρ us:=fun v hv=>c6.tup hx (hR v hv)
  refine ⟨_,rfl,p,_,"rank",ρ,rfl,c6.lst hx hp,R6,by omega,fun D7 H7 hD7 s7 hl7=>?_⟩
  rw [hur] at hl7
  have hS7:Ci K H7 D7 ur:=.inl (.inl hl7)
  refine ⟨D7,rfl,⟨_,hS7⟩,Ip (K:=K) (xs:=ur) (fun _=>true) (fun v=>[.str (ρ v).nm,(ρ v).rest.getD 0 .non,(ρ v).rest.getD 1 .non]) hS7 (Aq (by have:=O.nr; omega)) (fun y hy H' hs R k=>k H' (Al.refl H')) (fun y hy _ H' hs R k=>?_) (fun D8 H8 rvs hD8 s8 hl8 hr8=>?_)⟩
  ·obtain ⟨b,_,e⟩:=ofR hy
   have hT:=(R6 y (inR hy)).mono (s7.trans hs)
   rw [e] at hT k
   obtain ⟨T0,rfl,hT⟩:=hT
   exact ⟨_,rfl,T0,_,_,_,rfl,rfl,.inl (.inl hT),Aj (j:=1) rfl,_,rfl,T0,_,_,_,rfl,rfl,.inl (.inl hT),Aj (j:=2) rfl,_,rfl,T0,_,_,_,rfl,rfl,.inl (.inl hT),Aj (j:=3) rfl,by show 3<=sizeLine; decide,fun T6 hT6=>k _ _ (Az hT6) ⟨T6,rfl,Ah⟩⟩
  rw [List.filter_eq_self.mpr (fun _ _=>rfl)] at hr8
  have hr8':Paired (fun (a:Th) y=>TupAt H8 (tV a) y) (rk.map Qh) rvs:=by
   have h1:=Bs (F:=fun (r:R) y=>TupAt H8 [.str r.nm,r.rest.getD 0 .non,r.rest.getD 1 .non] y) ρ hr8
   rw [er] at h1
   exact Bs (F:=fun (a:Th) y=>TupAt H8 (tV a) y) Qh (Ei G6 h1)
  clear hr8
  refine ⟨_,rfl,x,C,dx,_,rfl,s8 _ _ (s7 _ _ x6),T.cl,T.n_rank_list,Nat.lt_of_le_of_lt (Nat.le_trans (Bf _ _ _) (Nat.succ_le_succ (Bf _ _ _))) (by show 2<1000; decide),?_⟩
  have s68:=s7.trans s8
  have x8:=s68 _ _ x6
  have c8:SX x H H8:=c6.trans (SX.of s68)
  have hl8b:=s68 _ _ hl6
  have hb8:=Ai s68 hb6
  have u9:SX x H8 _:=SX.up (o:=HO.ins C dx (BZ "rank_list" (.ref D8) (BZ "board_list" (.ref D5) (BZ "row_list" (.ref l1) []))))
  have x9:upd H8 x (HO.ins C dx (BZ "rank_list" (.ref D8) (BZ "board_list" (.ref D5) (BZ "row_list" (.ref l1) [])))) x=_:=Ah
  have c9:=c8.trans u9
  have bl9:=u9.lst x8 hl8b
  have bp9:=u9.pair x8 hb8
  have rl9:=u9.lst x8 hl8
  have rp9:=u9.pair x8 hr8'
  generalize hf9:BZ "rank_list" (.ref D8) (BZ "board_list" (.ref D5) (BZ "row_list" (.ref l1) []))=f9 at x9 c9 bl9 bp9 rl9 rp9 u9 ⊢
  generalize upd H8 x (HO.ins C dx f9)=H9 at x9 c9 bl9 bp9 rl9 rp9 ⊢
  have n9:f9.length<=3:=by rw [← hf9]; exact Nat.le_trans (Bf _ _ _) (Nat.succ_le_succ (Nat.le_trans (Bf _ _ _) (Nat.succ_le_succ (Bf _ _ _))))
  have lb9:f9.lookup ("board_list" : Str)=some (.ref D5):=by rw [← hf9,Ak,if_neg (by decide +kernel),Ak,if_pos rfl]
  have lr9:f9.lookup ("rank_list" : Str)=some (.ref D8):=by rw [← hf9,Ak,if_pos rfl]
  have no9:∀ m∈meths,f9.lookup m=none:=fun m hm=>by
   rw [← hf9,Ak,if_neg (DX m hm _ (by decide +kernel)),Ak,if_neg (DX m hm _ (by decide +kernel)),Ak,if_neg (DX m hm _ (by decide +kernel))]
   rfl
  clear u9 hf9
  have R9:Rows H9 ρ us:=fun v hv=>c9.tup hx (hR v hv)
  have hS9:Ci K H9 p us:=.inl (.inl (c9.lst hx hp))
  refine ⟨_,rfl,p,rfl,⟨_,hS9⟩,Bv (K:=K) (xs:=us) (fun v=>Gx (ρ v).w) id hS9 (Aq (by omega)) (fun y hy H' hs R k=>?_) (fun y hy _ H' hs R k=>⟨_,rfl,k H' (Al.refl H')⟩) (fun D10 H10 hD10 s10 hl10=>?_)⟩
  ·obtain ⟨T0,rfl,hT⟩:=(R9.mono hs) y hy
   exact ⟨_,rfl,T0,_,_,_,rfl,rfl,.inl (.inl hT),Aj (j:=0) rfl,aK,_,rfl,.inr (T.tK.sq _),rfl,rfl,_,rfl,k H' (Al.refl H')⟩
  rw [List.map_id,huk] at hl10
  refine ⟨_,rfl,x,C,dx,_,rfl,s10 _ _ x9,T.cl,T.n_knob_rows,by omega,?_⟩
  have x10:=s10 _ _ x9
  have u11:SX x H10 _:=SX.up (o:=HO.ins C dx (BZ "knob_rows" (.ref D10) f9))
  have x11:upd H10 x (HO.ins C dx (BZ "knob_rows" (.ref D10) f9)) x=_:=Ah
  have c11:=(c9.trans (SX.of s10)).trans u11
  have bl11:=u11.lst x10 (s10 _ _ bl9)
  have bp11:=u11.pair x10 (Ai s10 bp9)
  have rl11:=u11.lst x10 (s10 _ _ rl9)
  have rp11:=u11.pair x10 (Ai s10 rp9)
  have kr11:=u11.lst x10 hl10
  generalize upd H10 x (HO.ins C dx (BZ "knob_rows" (.ref D10) f9))=H11 at x11 c11 bl11 bp11 rl11 rp11 kr11 ⊢
  clear u11
  have hul:=bp11.length
  have hS11:Ci K H11 D5 bvs:=.inl (.inl bl11)
  refine ⟨_,rfl,x,C,dx,_,_,rfl,x11,T.cl,T.n_board_list,(by rw [Ak,if_neg (by decide +kernel)]; exact lb9),D5,rfl,⟨_,hS11⟩,Bv (K:=K) (xs:=bvs) (fun _=>true) (Oq H11 0) hS11 (Aq (by have:=O.b5; omega)) (fun y hy H' hs R k=>k H' (Al.refl H')) (fun y hy _ H' hs R k=>?_) (fun D12 H12 hD12 s12 hl12=>?_)⟩
  ·obtain ⟨b,_,hx'⟩:=Cg bp11 hy
   have e:=HH hx' 0
   obtain ⟨T0,rfl,hT⟩:=hx'.mono hs
   refine ⟨_,rfl,T0,_,_,_,rfl,rfl,.inl (.inl hT),Aj (j:=0) rfl,?_⟩
   have:=k H' (Al.refl H')
   rw [e] at this
   exact this
  rw [List.filter_eq_self.mpr (fun _ _=>rfl),IV 0 bp11] at hl12
  have e12:(bs.map fun b=>(bV b).getD 0 V.non)=(bs.map (·.1)).map V.str:=by
   rw [List.map_map]
   rfl
  rw [e12] at hl12
  refine ⟨D12,_,rfl,hl12,by rw [List.length_map]; have:=O.b5; omega,O.nb,fun D13 kvs H13 hD13 s13 hl13 hv13=>?_⟩
  have s1113:=s12.trans s13
  have x13:=s1113 _ _ x11
  refine ⟨_,rfl,x,C,dx,_,rfl,x13,T.cl,T.n_board_numbers,Nat.lt_of_le_of_lt (Bf _ _ _) (by omega),?_⟩
  have u14:SX x H13 _:=SX.up (o:=HO.ins C dx (BZ "board_numbers" (.ref D13) (BZ "knob_rows" (.ref D10) f9)))
  have x14:upd H13 x (HO.ins C dx (BZ "board_numbers" (.ref D13) (BZ "knob_rows" (.ref D10) f9))) x=_:=Ah
  have c14:=(c11.trans (SX.of s1113)).trans u14
  have bl14:=u14.lst x13 (s1113 _ _ bl11)
  have bp14:=u14.pair x13 (Ai s1113 bp11)
  have rl14:=u14.lst x13 (s1113 _ _ rl11)
  have rp14:=u14.pair x13 (Ai s1113 rp11)
  have kr14:=u14.lst x13 (s1113 _ _ kr11)
  have bn14:=u14.dk x13 hl13
  generalize upd H13 x (HO.ins C dx (BZ "board_numbers" (.ref D13) (BZ "knob_rows" (.ref D10) f9)))=H14 at x14 c14 bl14 bp14 rl14 rp14 kr14 bn14 ⊢
  clear u14
  have hrl:=rp14.length
  rw [List.length_map] at hrl
  have hS14:Ci K H14 D8 rvs:=.inl (.inl rl14)
  refine ⟨_,rfl,x,C,dx,_,_,rfl,x14,T.cl,T.n_rank_list,(by rw [Ak,if_neg (by decide +kernel),Ak,if_neg (by decide +kernel)]; exact lr9),D8,rfl,⟨_,hS14⟩,Bv (K:=K) (xs:=rvs) (fun _=>true) (Oq H14 0) hS14 (Aq (by have:=O.nr; omega)) (fun y hy H' hs R k=>k H' (Al.refl H')) (fun y hy _ H' hs R k=>?_) (fun D15 H15 hD15 s15 hl15=>?_)⟩
  ·obtain ⟨b,_,hx'⟩:=Cg rp14 hy
   have e:=HH hx' 0
   obtain ⟨T0,rfl,hT⟩:=hx'.mono hs
   refine ⟨_,rfl,T0,_,_,_,rfl,rfl,.inl (.inl hT),Aj (j:=0) rfl,?_⟩
   have:=k H' (Al.refl H')
   rw [e] at this
   exact this
  rw [List.filter_eq_self.mpr (fun _ _=>rfl),IV 0 rp14] at hl15
  have e15:((rk.map Qh).map fun b=>(tV b).getD 0 V.non)=(rk.map (·.1)).map V.str:=by
   rw [List.map_map,List.map_map]
   rfl
  rw [e15] at hl15
  refine ⟨D15,_,rfl,hl15,by rw [List.length_map]; have:=O.nr; omega,O.nrr,fun D16 kvs16 H16 hD16 s16 hl16 hv16=>?_⟩
  have s1416:=s15.trans s16
  have x16:=s1416 _ _ x14
  refine ⟨_,rfl,x,C,dx,_,rfl,x16,T.cl,T.n_rank_numbers,Nat.lt_of_le_of_lt (Nat.le_trans (Bf _ _ _) (Nat.succ_le_succ (Bf _ _ _))) (by omega),?_⟩
  have u17:SX x H16 _:=SX.up (o:=HO.ins C dx (BZ "rank_numbers" (.ref D16) (BZ "board_numbers" (.ref D13) (BZ "knob_rows" (.ref D10) f9))))
  have x17:upd H16 x (HO.ins C dx (BZ "rank_numbers" (.ref D16) (BZ "board_numbers" (.ref D13) (BZ "knob_rows" (.ref D10) f9)))) x=_:=Ah
  have c17:=(c14.trans (SX.of s1416)).trans u17
  have bl17:=u17.lst x16 (s1416 _ _ bl14)
  have bp17:=u17.pair x16 (Ai s1416 bp14)
  have rl17:=u17.lst x16 (s1416 _ _ rl14)
  have rp17:=u17.pair x16 (Ai s1416 rp14)
  have kr17:=u17.lst x16 (s1416 _ _ kr14)
  have bn17:=u17.dk x16 (s1416 _ _ bn14)
  have rn17:=u17.dk x16 hl16
  generalize hf17:BZ "rank_numbers" (.ref D16) (BZ "board_numbers" (.ref D13) (BZ "knob_rows" (.ref D10) f9))=f17 at x17 c17 bl17 bp17 rl17 rp17 kr17 bn17 rn17 u17 ⊢
  generalize upd H16 x (HO.ins C dx f17)=H17 at x17 c17 bl17 bp17 rl17 rp17 kr17 bn17 rn17 ⊢
  have n17:f17.length<=6:=by rw [← hf17]; exact Nat.le_trans (Bf _ _ _) (Nat.succ_le_succ (Nat.le_trans (Bf _ _ _) (Nat.succ_le_succ (Nat.le_trans (Bf _ _ _) (Nat.succ_le_succ n9)))))
  have lb17:f17.lookup ("board_list" : Str)=some (.ref D5):=by rw [← hf17,Ak,if_neg (by decide +kernel),Ak,if_neg (by decide +kernel),Ak,if_neg (by decide +kernel)]; exact lb9
  have lr17:f17.lookup ("rank_list" : Str)=some (.ref D8):=by rw [← hf17,Ak,if_neg (by decide +kernel),Ak,if_neg (by decide +kernel),Ak,if_neg (by decide +kernel)]; exact lr9
  have lrn17:f17.lookup ("rank_numbers" : Str)=some (.ref D16):=by rw [← hf17,Ak,if_pos rfl]
  have lbn17:f17.lookup ("board_numbers" : Str)=some (.ref D13):=by rw [← hf17,Ak,if_neg (by decide +kernel),Ak,if_pos rfl]
  have lkr17:f17.lookup ("knob_rows" : Str)=some (.ref D10):=by rw [← hf17,Ak,if_neg (by decide +kernel),Ak,if_neg (by decide +kernel),Ak,if_pos rfl]
  have no17:∀ m∈meths,f17.lookup m=none:=fun m hm=>by
   rw [← hf17,Ak,if_neg (DX m hm _ (by decide +kernel)),Ak,if_neg (DX m hm _ (by decide +kernel)),Ak,if_neg (DX m hm _ (by decide +kernel))]
   exact no9 m hm
  clear u17 hf17
  have hS17:Ci K H17 D10 uk:=.inl (.inl kr17)
  have R17:Rows H17 ρ us:=fun v hv=>c17.tup hx (hR v hv)
  refine ⟨_,rfl,x,C,dx,_,_,rfl,x17,T.cl,T.n_knob_rows,lkr17,D10,rfl,⟨_,hS17⟩,Bv (K:=K) (xs:=uk) (fun _=>true) (fun v=>.str (ρ v).nm) hS17 (Aq (by have:=O.nk; omega)) (fun y hy H' hs R k=>k H' (Al.refl H')) (fun y hy _ H' hs R k=>?_) (fun D18 H18 hD18 s18 hl18=>?_)⟩
  ·obtain ⟨T0,rfl,hT⟩:=(R17.mono hs) y (inKn hy)
   exact ⟨_,rfl,T0,_,_,_,rfl,rfl,.inl (.inl hT),Aj (j:=1) rfl,k H' (Al.refl H')⟩
  rw [List.filter_eq_self.mpr (fun _ _=>rfl)] at hl18
  have e18:(uk.map fun v=>V.str (ρ v).nm)=(ks.map (·.nm)).map V.str:=by
   rw [← ek,List.map_map,List.map_map]
   rfl
  rw [e18] at hl18
  refine ⟨D18,_,rfl,hl18,by rw [List.length_map]; have:=O.nk; omega,O.nn,fun D19 kvs19 H19 hD19 s19 hl19 hv19=>?_⟩
  have s1719:=s18.trans s19
  have x19:=s1719 _ _ x17
  refine ⟨_,rfl,x,C,dx,_,rfl,x19,T.cl,T.n_knob_numbers,by omega,?_⟩
  have u20:SX x H19 _:=SX.up (o:=HO.ins C dx (BZ "knob_numbers" (.ref D19) f17))
  have x20:upd H19 x (HO.ins C dx (BZ "knob_numbers" (.ref D19) f17)) x=_:=Ah
  have c20:=(c17.trans (SX.of s1719)).trans u20
  have bl20:=u20.lst x19 (s1719 _ _ bl17)
  have bp20:=u20.pair x19 (Ai s1719 bp17)
  have rl20:=u20.lst x19 (s1719 _ _ rl17)
  have rp20:=u20.pair x19 (Ai s1719 rp17)
  have kr20:=u20.lst x19 (s1719 _ _ kr17)
  have bn20:=u20.dk x19 (s1719 _ _ bn17)
  have rn20:=u20.dk x19 (s1719 _ _ rn17)
  generalize upd H19 x (HO.ins C dx (BZ "knob_numbers" (.ref D19) f17))=H20 at x20 c20 bl20 bp20 rl20 rp20 kr20 bn20 rn20 ⊢
  clear u20
  refine ⟨_,rfl,x,C,dx,_,_,rfl,x20,T.cl,T.n_board_list,(by rw [Ak,if_neg (by decide +kernel)]; exact lb17),D5,bs.map V8,bvs,rfl,bl20,Bs (F:=fun (a:Th) y=>TupAt H20 (tV a) y) V8 bp20,(by rw [List.length_map]; have:=O.b5; omega),(fun a ha=>by obtain ⟨b,hb,rfl⟩:=List.mem_map.mp ha; have:=O.sz b hb; show b.2<=97; omega),fun D21 pvs H21 hD21 s21 hl21 hp21=>?_⟩
  have e21:(bs.map V8).map tN=bs:=by
   rw [List.map_map]
   exact List.map_id bs
  rw [e21] at hp21
  have x21:=s21 _ _ x20
  refine ⟨_,rfl,x,C,dx,_,rfl,x21,T.cl,T.n_key_places,Nat.lt_of_le_of_lt (Bf _ _ _) (by omega),?_⟩
  have u22:SX x H21 _:=SX.up (o:=HO.ins C dx (BZ "key_places" (.ref D21) (BZ "knob_numbers" (.ref D19) f17)))
  have x22:upd H21 x (HO.ins C dx (BZ "key_places" (.ref D21) (BZ "knob_numbers" (.ref D19) f17))) x=_:=Ah
  have c22:=(c20.trans (SX.of s21)).trans u22
  have bl22:=u22.lst x21 (s21 _ _ bl20)
  have bp22:=u22.pair x21 (Ai s21 bp20)
  have rl22:=u22.lst x21 (s21 _ _ rl20)
  have rp22:=u22.pair x21 (Ai s21 rp20)
  have kr22:=u22.lst x21 (s21 _ _ kr20)
  have bn22:=u22.dk x21 (s21 _ _ bn20)
  have rn22:=u22.dk x21 (s21 _ _ rn20)
  have kp22:=u22.lst x21 hl21
  have kq22:=u22.pair x21 hp21
  generalize upd H21 x (HO.ins C dx (BZ "key_places" (.ref D21) (BZ "knob_numbers" (.ref D19) f17)))=H22 at x22 c22 bl22 bp22 rl22 rp22 kr22 bn22 rn22 kp22 kq22 ⊢
  clear u22
  refine ⟨_,rfl,x,C,dx,_,_,rfl,x22,T.cl,T.n_rank_list,(by rw [Ak,if_neg (by decide +kernel),Ak,if_neg (by decide +kernel)]; exact lr17),D8,rk.map Qh,rvs,rfl,rl22,rp22,(by rw [List.length_map]; exact O.nr),(fun a ha=>by obtain ⟨r,hr,rfl⟩:=List.mem_map.mp ha; exact O.nz r hr),fun D23 qvs H23 hD23 s23 hl23 hp23=>?_⟩
  have e23:(rk.map Qh).map tN=rk.map VD:=by
   rw [List.map_map]
   rfl
  rw [e23] at hp23
  have x23:=s23 _ _ x22
  refine ⟨_,rfl,x,C,dx,_,rfl,x23,T.cl,T.n_pipe_places,Nat.lt_of_le_of_lt (Nat.le_trans (Bf _ _ _) (Nat.succ_le_succ (Bf _ _ _))) (by omega),?_⟩
  have u24:SX x H23 _:=SX.up (o:=HO.ins C dx (BZ "pipe_places" (.ref D23) (BZ "key_places" (.ref D21) (BZ "knob_numbers" (.ref D19) f17))))
  have x24:upd H23 x (HO.ins C dx (BZ "pipe_places" (.ref D23) (BZ "key_places" (.ref D21) (BZ "knob_numbers" (.ref D19) f17)))) x=_:=Ah
  have c24:=(c22.trans (SX.of s23)).trans u24
  have bl24:=u24.lst x23 (s23 _ _ bl22)
  have bp24:=u24.pair x23 (Ai s23 bp22)
  have kr24:=u24.lst x23 (s23 _ _ kr22)
  have rl24:=u24.lst x23 (s23 _ _ rl22)
  have rp24:=u24.pair x23 (Ai s23 rp22)
  have pp24:=u24.lst x23 hl23
  have pq24:=u24.pair x23 hp23
  have bn24:=u24.dk x23 (s23 _ _ bn22)
  have rn24:=u24.dk x23 (s23 _ _ rn22)
  have kp24:=u24.lst x23 (s23 _ _ kp22)
  have kq24:=u24.pair x23 (Ai s23 kq22)
  generalize hf24:BZ "pipe_places" (.ref D23) (BZ "key_places" (.ref D21) (BZ "knob_numbers" (.ref D19) f17))=f24 at x24 c24 bl24 bp24 kr24 rl24 rp24 pp24 pq24 bn24 rn24 kp24 kq24 u24 ⊢
  generalize upd H23 x (HO.ins C dx f24)=H24 at x24 c24 bl24 bp24 kr24 rl24 rp24 pp24 pq24 bn24 rn24 kp24 kq24 ⊢
  have n24:f24.length<=9:=by rw [← hf24]; exact Nat.le_trans (Bf _ _ _) (Nat.succ_le_succ (Nat.le_trans (Bf _ _ _) (Nat.succ_le_succ (Nat.le_trans (Bf _ _ _) (Nat.succ_le_succ n17)))))
  have old24:∀ {f:Str} {v:V},¬ f = "pipe_places"->¬ f = "key_places"->¬ f = "knob_numbers"->f17.lookup f=some v->f24.lookup f=some v:=fun h1 h2 h3 h=>by
   rw [← hf24,Ak,if_neg h1,Ak,if_neg h2,Ak,if_neg h3]; exact h
  have lb24:=old24 (by decide +kernel) (by decide +kernel) (by decide +kernel) lb17
  have lbn24:=old24 (by decide +kernel) (by decide +kernel) (by decide +kernel) lbn17
  have lr24:=old24 (by decide +kernel) (by decide +kernel) (by decide +kernel) lr17
  have lpp24:f24.lookup ("pipe_places" : Str)=some (.ref D23):=by rw [← hf24,Ak,if_pos rfl]
  have lrn24:=old24 (by decide +kernel) (by decide +kernel) (by decide +kernel) lrn17
  have lkr24:=old24 (by decide +kernel) (by decide +kernel) (by decide +kernel) lkr17
  have lkp24:f24.lookup ("key_places" : Str)=some (.ref D21):=by rw [← hf24,Ak,if_neg (by decide +kernel),Ak,if_pos rfl]
  have no24:∀ m∈meths,f24.lookup m=none:=fun m hm=>by
   rw [← hf24,Ak,if_neg (DX m hm _ (by decide +kernel)),Ak,if_neg (DX m hm _ (by decide +kernel)),Ak,if_neg (DX m hm _ (by decide +kernel))]
   exact no17 m hm
  clear u24 hf24 old24
  have R24:Rows H24 ρ us:=fun v hv=>c24.tup hx (hR v hv)
  refine ⟨_,rfl,_,rfl,x,C,dx,_,_,rfl,x24,T.cl,T.n_rank_numbers,lrn24,p,D16,us,ρ,rk,kvs16,rfl,c24.lst hx hp,R24,by omega,rn24,(fun i r hr=>hv16 i r.1 (by rw [List.getElem?_map,hr]; rfl)),O.nrr,O.ln,fun D25 H25 hD25 s25 hl25=>?_⟩
  have x25:=s25 _ _ x24
  refine ⟨_,rfl,x,C,dx,_,rfl,x25,T.cl,T.n_knob_lines,by omega,?_⟩
  have u26:SX x H25 _:=SX.up (o:=HO.ins C dx (BZ "knob_lines" (.ref D25) f24))
  have x26:upd H25 x (HO.ins C dx (BZ "knob_lines" (.ref D25) f24)) x=_:=Ah
  have c26:=(c24.trans (SX.of s25)).trans u26
  have bl26:=u26.lst x25 (s25 _ _ bl24)
  have bp26:=u26.pair x25 (Ai s25 bp24)
  have kr26:=u26.lst x25 (s25 _ _ kr24)
  have rl26:=u26.lst x25 (s25 _ _ rl24)
  have rp26:=u26.pair x25 (Ai s25 rp24)
  have pp26:=u26.lst x25 (s25 _ _ pp24)
  have pq26:=u26.pair x25 (Ai s25 pq24)
  have ln26:=La hl25 u26 x25
  have bn26:=u26.dk x25 (s25 _ _ bn24)
  have rn26:=u26.dk x25 (s25 _ _ rn24)
  have kp26:=u26.lst x25 (s25 _ _ kp24)
  have kq26:=u26.pair x25 (Ai s25 kq24)
  generalize upd H25 x (HO.ins C dx (BZ "knob_lines" (.ref D25) f24))=H26 at x26 c26 bl26 bp26 kr26 rl26 rp26 pp26 pq26 ln26 bn26 rn26 kp26 kq26 ⊢
  clear u26
  have R26:Rows H26 ρ us:=fun v hv=>c26.tup hx (hR v hv)
  refine ⟨_,rfl,p,_,"step",ρ,rfl,c26.lst hx hp,R26,by omega,fun D27 H27 hD27 s27 hl27=>?_⟩
  rw [O.none] at hl27
  have hS27:Ci K H27 D27 []:=.inl (.inl hl27)
  refine ⟨D27,rfl,⟨_,hS27⟩,Bv (K:=K) (xs:=[]) (fun _=>true) id hS27 (Aq (by simp)) (fun y hy=>nomatch hy) (fun y hy=>nomatch hy) (fun D28 H28 hD28 s28 hl28=>?_)⟩
  have s2628:=s27.trans s28
  have x28:=s2628 _ _ x26
  refine ⟨_,rfl,x,C,dx,_,rfl,x28,T.cl,T.n_step_sets,Nat.lt_of_le_of_lt (Bf _ _ _) (by omega),?_⟩
  have u29:SX x H28 _:=SX.up (o:=HO.ins C dx (BZ "step_sets" (.ref D28) (BZ "knob_lines" (.ref D25) f24)))
  have old:∀ {f:Str},¬ f = "step_sets"->¬ f = "knob_lines"->(BZ "step_sets" (.ref D28) (BZ "knob_lines" (.ref D25) f24)).lookup f=f24.lookup f:=fun h1 h2=>by rw [Ak,if_neg h1,Ak,if_neg h2]
  refine q _ ⟨⟨⟨dx,_,D5,D13,D21,D10,bvs,pvs,uk,kvs,Ah,(old (by decide +kernel) (by decide +kernel)).trans lb24,(old (by decide +kernel) (by decide +kernel)).trans lbn24,(old (by decide +kernel) (by decide +kernel)).trans lkp24,(old (by decide +kernel) (by decide +kernel)).trans lkr24,
   fun m hm=>(old (DX m hm _ (by decide +kernel)) (DX m hm _ (by decide +kernel))).trans (no24 m hm),u29.lst x28 (s2628 _ _ bl26),u29.pair x28 (Ai s2628 bp26),u29.dk x28 (s2628 _ _ bn26),fun i b hb=>hv13 i b.1 (by rw [List.getElem?_map,hb]; rfl),u29.lst x28 (s2628 _ _ kp26),u29.pair x28 (Ai s2628 kq26),u29.lst x28 (s2628 _ _ kr26),?_⟩,O.b5,O.sz,by have:=O.nk; omega⟩,⟨dx,_,D8,D16,D23,D25,rvs,qvs,kvs16,Ah,(old (by decide +kernel) (by decide +kernel)).trans lr24,(old (by decide +kernel) (by decide +kernel)).trans lrn24,(old (by decide +kernel) (by decide +kernel)).trans lpp24,(by rw [Ak,if_neg (by decide +kernel),Ak,if_pos rfl]),u29.lst x28 (s2628 _ _ rl26),u29.pair x28 (Ai s2628 rp26),u29.dk x28 (s2628 _ _ rn26),(fun i r hr=>hv16 i r.1 (by rw [List.getElem?_map,hr]; rfl)),u29.lst x28 (s2628 _ _ pp26),u29.pair x28 (Ai s2628 pq26),La (ln26.mono s2628) u29 x28⟩,O.nr,O.nz,?_⟩ ((c26.trans (SX.of s2628)).trans u29)
  case refine_2=>rw [Nz O.ln,← ek,List.length_map,huk]
  rw [← ek]
  refine Bs (F:=fun (r:R) y=>TupAt _ r.v y) ρ ?_
  have R29:Rows _ ρ uk:=fun v hv=>u29.tup x28 ((R26.mono s2628) v (inKn hv))
  generalize upd H28 x _=H29 at R29 ⊢
  have key:∀ l:List V,(∀ v∈l,TupAt H29 (ρ v).v v)->Paired (fun v y=>TupAt H29 (ρ v).v y) l l:=by
   intro l
   induction l with
   | nil=>intro _; exact .nil
   | cons a b ih=>intro h; exact .cons (h a (List.mem_cons_self ..)) (ih fun v hv=>h v (List.mem_cons_of_mem _ hv))
  exact key uk R29
noncomputable def Ud (C:Addr):Sp:=fun vs H Q _=>∃ (x:Addr) (bs:List (Str × Nat)) (ks:List R),vs=[.ref x]/\Cr C H x bs ks/\∀ D bvs H',H D=none->Al H H'->H' D=some (.lst bvs)->Paired (fun b y=>TupAt H' (bV b) y) bs bvs->Q (.ref D) H'
theorem bT:Ar ["self"] ["self"] (Ae cH):=Bl
include N T in
theorem Tp:Aw P w K mg base Bc 1 aD.fOb aD.dOb ["self"] (Ud C):=by
 refine N.FOb.1.ok bT (fun vs H Q E h=>?_) (fun cdv A outer s H vs Q E hr h=>?_)
 ·obtain ⟨x,bs,ks,rfl,_⟩:=h
  rfl
 ·obtain ⟨x,bs,ks,rfl,O,q⟩:=h
  refine ⟨_,(Ag (A_ (Dv DR rfl T.list PyProof.Rows.boot_list (Aa (Bw (pv 0) rfl) Ab)))),?_⟩
  obtain ⟨⟨dx,fs,bl,bn,kp,kr,bvs,pvs,uvs,kvs,h1,l1,l2,l3,l4,lm,h2,h3,h4,h5,h6,h7,h8,h9⟩,ob5,osz,onk⟩:=id O
  exact ⟨_,rfl,x,C,dx,_,_,rfl,h1,T.cl,T.n_board_list,l1,bl,bvs,rfl,.inl (.inl (.inl h2)),fun l hl=>q l bvs _ hl (Az hl) Ah (Ai (Az hl) h3)⟩
noncomputable def Ul (C:Addr):Sp:=fun vs H Q _=>∃ (x:Addr) (bs:List (Str × Nat)) (ks:List R),vs=[.ref x]/\Cr C H x bs ks/\Q (.int ((Dq bs).length:Nat)) H
theorem Z_:Ar ["self"] ["self"] (Ae bJ):=Bl
include N T in
theorem Ua:Aw P w K mg base Bc 1 aD.fOc aD.dOc ["self"] (Ul C):=by
 refine N.FOc.1.ok Z_ (fun vs H Q E h=>?_) (fun cdv A outer s H vs Q E hr h=>?_)
 ·obtain ⟨x,bs,ks,rfl,_⟩:=h
  rfl
 ·obtain ⟨x,bs,ks,rfl,O,q⟩:=h
  refine ⟨_,(Ag (A_ (BR Bj rfl T.len PySem.boot_len (Aa (Bw (pv 0) rfl) Ab)))),?_⟩
  obtain ⟨⟨dx,fs,bl,bn,kp,kr,bvs,pvs,uvs,kvs,h1,l1,l2,l3,l4,lm,h2,h3,h4,h5,h6,h7,h8,h9⟩,ob5,osz,onk⟩:=id O
  refine ⟨_,rfl,x,C,dx,_,_,rfl,h1,T.cl,T.n_key_places,l3,kp,pvs,rfl,.inl (.inl (.inl h6)),?_⟩
  rw [← h7.length]
  exact q
noncomputable def V2 (C:Addr):Sp:=fun vs H Q _=>∃ (x:Addr) (bs:List (Str × Nat)) (ks:List R) (j:Nat) (b:Str × Nat) (n:Int),vs=[.ref x,.str b.1,.int n]/\Cr C H x bs ks/\bs[j]? = some b/\∀ H',Al H H'->Q (.int ((((bs.take j).map (·.2)).sum:Nat)+n)) H'
theorem dH:Ar ["self","board","number"] ["self","board","number"] (Ae Z9):=Bl
include N T in
theorem UJ:Aw P w K mg base Bc 2 aD.fOk aD.dOk ["self","board","number"] (V2 C):=by
 have GCa:Aw P w K mg base Bc 1 aD.fCa aD.dCa ["things"] Ue:=Tw N T
 refine N.FOk.1.ok dH (fun vs H Q E h=>?_) (fun cdv A outer s H vs Q E hr h=>?_)
 ·obtain ⟨x,bs,ks,j,b,n,rfl,_⟩:=h
  rfl
 ·obtain ⟨x,bs,ks,j,b,n,rfl,O,hb,q⟩:=h
  have hrCa:BL 1 _:=hr.mono (by decide)
  have hu:=Ga hr
  refine ⟨_,(Ag (A_ (BJ CW (Am GCa hrCa rfl N.FCa.2.2 N.FCa.1.kp N.FCa.2.1 .nil Ay (Aa (G9 KH (Bw (pv 0) rfl) Hx (Hy (HF hu (Bw (pv 0) rfl) (pv 1) (fun _ _=>rfl)))) Ab)) (pv 2)))),?_⟩
  obtain ⟨⟨dx,fs,bl,bn,kp,kr,bvs,pvs,uvs,kvs,h1,l1,l2,l3,l4,lm,h2,h3,h4,h5,h6,h7,h8,h9⟩,ob5,osz,onk⟩:=id O
  have hj:j<bs.length:=(List.getElem?_eq_some_iff.mp hb).1
  have hl:=h3.length
  have g:=FT.k (k:=Sum.inr b.1) h4
  rw [h5 j b hb] at g
  refine ⟨_,rfl,x,C,dx,_,_,rfl,h1,T.cl,T.n_board_list,l1,_,rfl,x,C,dx,_,_,rfl,h1,T.cl,T.n_board_numbers,l2,_,rfl,bn,_,rfl,g,_,rfl,bl,bvs,rfl,.inl (.inl h2),fun p6 hp6=>?_⟩
  have s6:=Az (o:=HO.lst (En bvs none (some (j:Int)))) hp6
  have a6:upd H p6 (HO.lst (En bvs none (some (j:Int)))) p6=_:=Ah
  generalize upd H p6 (HO.lst (En bvs none (some (j:Int))))=H6 at s6 a6 ⊢
  rw [Iu bvs j (by omega)] at a6
  refine ⟨p6,(bs.take j).map V8,bvs.take j,rfl,a6,Bs (F:=fun (a:Th) y=>TupAt H6 (tV a) y) V8 (Hs (Ai s6 h3) j),(by rw [List.length_map,List.length_take]; omega),(fun a ha=>by obtain ⟨b',hb',rfl⟩:=List.mem_map.mp ha; exact Nat.le_trans (osz b' (List.mem_of_mem_take hb')) (by show 61<=100; decide)),fun H7 s7=>?_⟩
  have e7:((bs.take j).map V8).map (fun a=>a.2.1)=(bs.take j).map (·.2):=by
   rw [List.map_map]
   rfl
  rw [e7]
  exact ⟨_,rfl,_,_,rfl,rfl,q H7 (s6.trans s7)⟩
noncomputable def Ux (C:Addr):Sp:=fun vs H Q _=>∃ (x:Addr) (bs:List (Str × Nat)) (ks:List R) (i:Nat) (qd:Nat × Nat),vs=[.ref x,.int (i:Nat)]/\Cr C H x bs ks/\(Dq bs)[i]? = some qd/\∀ y,TupAt H (qV qd) y->Q y H
theorem aR:Ar ["self","key"] ["self","key"] (Ae bA):=Bl
include N T in
theorem Tt:Aw P w K mg base Bc 1 aD.fOo aD.dOo ["self","key"] (Ux C):=by
 refine N.FOo.1.ok aR (fun vs H Q E h=>?_) (fun cdv A outer s H vs Q E hr h=>?_)
 ·obtain ⟨x,bs,ks,i,qd,rfl,_⟩:=h
  rfl
 ·obtain ⟨x,bs,ks,i,qd,rfl,O,hq,q⟩:=h
  refine ⟨_,(Ag (A_ (Ax DY (Bw (pv 0) rfl) (pv 1) (fun _ _=>rfl)))),?_⟩
  obtain ⟨⟨dx,fs,bl,bn,kp,kr,bvs,pvs,uvs,kvs,h1,l1,l2,l3,l4,lm,h2,h3,h4,h5,h6,h7,h8,h9⟩,ob5,osz,onk⟩:=id O
  obtain ⟨y,hy,ht⟩:=C_ h7 hq
  exact ⟨_,rfl,x,C,dx,_,_,rfl,h1,T.cl,T.n_key_places,l3,_,rfl,kp,pvs,_,_,rfl,rfl,.inl (.inl h6),Aj hy,q y ht⟩
noncomputable def YL (C:Addr):Sp:=fun vs H Q _=>∃ (x:Addr) (bs:List (Str × Nat)) (ks:List R) (k j1 j2:Nat) (b1 b2:Str × Nat) (nm:Str) (s:Int),vs=[.ref x,.int (k:Nat)]/\Cr C H x bs ks/\ks[k]? = some ⟨"coupler",nm,[.str b1.1,.str b2.1,.int s]⟩/\bs[j1]? = some b1/\bs[j2]? = some b2/\∀ y H',Al H H'->TupAt H' [.int (j1:Nat),.int (j2:Nat),.int s] y->Q y H'
noncomputable def Nj (C:Addr):Sp:=fun vs H Q _=>∃ (x:Addr) (bs:List (Str × Nat)) (ks:List R) (k j1:Nat) (b1:Str × Nat) (wd nm:Str) (rs:List V),vs=[.ref x,.int (k:Nat)]/\Cr C H x bs ks/\ks[k]? = some ⟨wd,nm,.str b1.1::rs⟩/\bs[j1]? = some b1/\Q (.int (j1:Nat)) H
theorem dq:Ar ["self","knob"] ["self","knob"] (Ae aF):=Bl
include N T in
theorem QF:Aw P w K mg base Bc 1 aD.fBk aD.dBk ["self","knob"] (Nj C):=by
 refine N.FBk.1.ok dq (fun vs H Q E h=>?_) (fun cdv A outer s H vs Q E hr h=>?_)
 ·obtain ⟨x,bs,ks,k,j1,b1,wd,nm,rs,rfl,_⟩:=h
  rfl
 ·obtain ⟨x,bs,ks,k,j1,b1,wd,nm,rs,rfl,O,hk,hb1,q⟩:=h
  have hu:=Ga hr
  refine ⟨_,(Ag (A_ (HF hu (Bw (pv 0) rfl) (Ax (An (K:=K) rfl) (Ax DY (Bw (pv 0) rfl) (pv 1) (fun _ _=>rfl)) Ac (fun _ _=>rfl)) (fun _ _=>rfl)))),?_⟩
  obtain ⟨⟨dx,fs,bl,bn,kp,kr,bvs,pvs,uvs,kvs,h1,l1,l2,l3,l4,lm,h2,h3,h4,h5,h6,h7,h8,h9⟩,ob5,osz,onk⟩:=id O
  obtain ⟨y,hy,T0,rfl,ht⟩:=C_ h9 hk
  have g1:=FT.k (k:=Sum.inr b1.1) h4
  rw [h5 j1 b1 hb1] at g1
  exact ⟨_,rfl,x,C,dx,_,_,rfl,h1,T.cl,T.n_board_numbers,l2,_,rfl,x,C,dx,_,_,rfl,h1,T.cl,T.n_knob_rows,l4,_,rfl,kr,uvs,_,_,rfl,rfl,.inl (.inl h8),Aj hy,T0,_,_,_,rfl,rfl,.inl (.inl ht),Aj (j:=2) rfl,bn,_,rfl,g1,q⟩
theorem Yc:Ar ["self","knob","row"] ["self","knob"] (Ae cO):=Bl
include N T in
theorem We:Aw P w K mg base Bc 2 aD.fOp aD.dOp ["self","knob"] (YL C):=by
 have GBk:Aw P w K mg base Bc 1 aD.fBk aD.dBk ["self","knob"] (Nj C):=QF N T
 refine N.FOp.1.ok Yc (fun vs H Q E h=>?_) (fun cdv A outer s H vs Q E hr h=>?_)
 ·obtain ⟨x,bs,ks,k,j1,j2,b1,b2,nm,s0,rfl,_⟩:=h
  rfl
 ·obtain ⟨x,bs,ks,k,j1,j2,b1,b2,nm,s0,rfl,O,hk,hb1,hb2,q⟩:=h
  have hrBk:BL 1 _:=hr.mono (by decide)
  have hu:=Ga hr
  refine ⟨_,(Af (BK (i:=2) Yc.nd rfl (Or.inl rfl) (Ax DY (Bw (pv 0) rfl) (pv 1) (fun _ _=>rfl)))
   (Ag (A_ (CT (Aa (Cv (pv 0) T.cl N.FBk.2.2 GBk hrBk N.FBk.2.1 .nil Ay (Aa (pv 1) Ab)) (Aa (HF hu (Bw (pv 0) rfl) (Ax (An (K:=K) rfl) (pv 2) Ac (fun _ _=>rfl)) (fun _ _=>rfl)) (Aa (Ax (An (K:=K) rfl) (pv 2) Ac (fun _ _=>rfl)) Ab))))))),?_⟩
  obtain ⟨⟨dx,fs,bl,bn,kp,kr,bvs,pvs,uvs,kvs,h1,l1,l2,l3,l4,lm,h2,h3,h4,h5,h6,h7,h8,h9⟩,ob5,osz,onk⟩:=id O
  obtain ⟨y,hy,T0,rfl,ht⟩:=C_ h9 hk
  have g1:=FT.k (k:=Sum.inr b1.1) h4
  rw [h5 j1 b1 hb1] at g1
  have g2:=FT.k (k:=Sum.inr b2.1) h4
  rw [h5 j2 b2 hb2] at g2
  refine ⟨_,rfl,x,C,dx,_,_,rfl,h1,T.cl,T.n_knob_rows,l4,_,rfl,kr,uvs,_,_,rfl,rfl,.inl (.inl h8),Aj hy,?_⟩
  refine ⟨_,rfl,x,dx,fs,rfl,h1,lm _ (by decide +kernel),_,rfl,x,bs,ks,k,j1,b1,_,_,_,rfl,O,hk,hb1,?_⟩
  refine ⟨_,rfl,x,C,dx,_,_,rfl,h1,T.cl,T.n_board_numbers,l2,_,rfl,T0,_,_,_,rfl,rfl,.inl (.inl ht),Aj (j:=3) rfl,bn,_,rfl,g2,?_⟩
  exact ⟨_,rfl,T0,_,_,_,rfl,rfl,.inl (.inl ht),Aj (j:=4) rfl,by show 3<=sizeLine; decide,fun p hp=>q _ _ (Az hp) ⟨p,rfl,Ah⟩⟩
noncomputable def X5 (C:Addr):Sp:=fun vs H Q _=>∃ (x:Addr) (bs:List (Str × Nat)) (ks:List R) (k i j1 j2:Nat) (b1 b2:Str × Nat) (qd:Nat × Nat) (nm:Str) (s:Int),vs=[.ref x,.int (k:Nat),.int (i:Nat)]/\Cr C H x bs ks/\(Dq bs)[i]? = some qd/\ks[k]? = some ⟨"coupler",nm,[.str b1.1,.str b2.1,.int s]⟩/\bs[j1]? = some b1/\bs[j2]? = some b2 /\
 ∀ H',Al H H'->Q (JR bs j1 j2 s qd b2.2) H'
theorem RB:Ar ["organ","knob","key","coupler","place","second","number"] ["organ","knob","key"] (Ae dD):=Bl
include N T in
theorem YH:Aw P w K mg base Bc 3 aD.fLe aD.dLe ["organ","knob","key"] (X5 C):=by
 have GOc:Aw P w K mg base Bc 1 aD.fOc aD.dOc ["self"] (Ul C):=Ua N T
 have GOp:Aw P w K mg base Bc 2 aD.fOp aD.dOp ["self","knob"] (YL C):=We N T
 have GOo:Aw P w K mg base Bc 1 aD.fOo aD.dOo ["self","key"] (Ux C):=Tt N T
 have GOb:Aw P w K mg base Bc 1 aD.fOb aD.dOb ["self"] (Ud C):=Tp N T
 have GOk:Aw P w K mg base Bc 2 aD.fOk aD.dOk ["self","board","number"] (V2 C):=UJ N T
 refine N.FLe.1.ok RB (fun vs H Q E h=>?_) (fun cdv A outer s H vs Q E hr h=>?_)
 ·obtain ⟨x,bs,ks,k,i,j1,j2,b1,b2,qd,nm,s0,rfl,_⟩:=h
  rfl
 ·obtain ⟨x,bs,ks,k,i,j1,j2,b1,b2,qd,nm,s0,rfl,O,hq,hk,hb1,hb2,q⟩:=h
  have hrOc:BL 1 _:=hr.mono (by decide)
  have hrOp:BL 2 _:=hr.mono (by decide)
  have hrOo:BL 1 _:=hr.mono (by decide)
  have hrOb:BL 1 _:=hr.mono (by decide)
  have hrOk:BL 2 _:=hr.mono (by decide)
  refine ⟨_,(Af (Ck (Dz (G4 E_ Hr Ac (pv 2) (Dy (pv 0) T.cl N.FOc.2.2 GOc hrOc N.FOc.2.1 .nil Ay))) (Ag (A_ MP)) Bk)
   (Af (BK (i:=3) RB.nd rfl (Or.inl rfl) (Cv (pv 0) T.cl N.FOp.2.2 GOp hrOp N.FOp.2.1 .nil Ay (Aa (pv 1) Ab)))
   (Af (BK (i:=4) RB.nd rfl (Or.inl rfl) (Cv (pv 0) T.cl N.FOo.2.2 GOo hrOo N.FOo.2.1 .nil Ay (Aa (pv 2) Ab)))
   (Af (BK (i:=5) RB.nd rfl (Or.inl rfl) (Ax (Ft (K:=K) rfl) (Dy (pv 0) T.cl N.FOb.2.2 GOb hrOb N.FOb.2.1 .nil Ay) (Ax (An (K:=K) rfl) (pv 3) Ac (fun _ _=>rfl)) (fun _ _=>rfl)))
   (Af (BK (i:=6) RB.nd rfl (Or.inl rfl) (BJ CW (Ax (An (K:=K) rfl) (pv 4) Ac (fun _ _=>rfl)) (Ax (An (K:=K) rfl) (pv 3) Ac (fun _ _=>rfl))))
   (Af (Ck (PW.pt (JL (Bd K8 (Ax (An (K:=K) rfl) (pv 4) Ac (fun _ _=>rfl)) (Ax (An (K:=K) rfl) (pv 3) Ac (fun _ _=>rfl)) (Bm _)) (Hc (Dz (G4 E_ Hr Ac (pv 6) (Ax (An (K:=K) rfl) (pv 5) Ac (fun _ _=>rfl))))))) (Ag (A_ MP)) Bk)
   (Ag (A_ (Cv (pv 0) T.cl N.FOk.2.2 GOk hrOk N.FOk.2.1 .nil Ay (Aa (Ax (An (K:=K) rfl) (pv 5) Ac (fun _ _=>rfl)) (Aa (pv 6) Ab))))))))))),?_⟩
  have hi:i<(Dq bs).length:=(List.getElem?_eq_some_iff.mp hq).1
  have meth:∀ {H':Hp},Cr C H' x bs ks->∃ dx fs,H' x=some (.ins C dx fs)/\∀ m∈meths,fs.lookup m=none:=fun O'=>by
   obtain ⟨⟨dx,fs,_,_,_,_,_,_,_,_,h1,_,_,_,_,lm,_⟩,_⟩:=O'
   exact ⟨dx,fs,h1,lm⟩
  obtain ⟨dx,fs,hx,lm⟩:=meth O
  refine ⟨_,rfl,_,_,rfl,rfl,_,rfl,?_⟩
  refine DP (fun _=>?_) (fun z=>absurd (decide_eq_true (by omega)) z)
  refine ⟨_,rfl,x,dx,fs,rfl,hx,lm _ (by decide +kernel),x,bs,ks,rfl,O,_,_,rfl,rfl,_,rfl,?_⟩
  rw [decide_eq_true (by omega:(i:Int)<((Dq bs).length:Nat))]
  refine De ?_
  refine ⟨_,rfl,x,dx,fs,rfl,hx,lm _ (by decide +kernel),_,rfl,x,bs,ks,k,j1,j2,b1,b2,nm,s0,rfl,O,hk,hb1,hb2,fun y1 H1 s1 hy1=>?_⟩
  have O1:=O.mono s1
  obtain ⟨dx1,fs1,hx1,lm1⟩:=meth O1
  refine ⟨_,rfl,x,dx1,fs1,rfl,hx1,lm1 _ (by decide +kernel),_,rfl,x,bs,ks,i,qd,rfl,O1,hq,fun y2 hy2=>?_⟩
  refine ⟨_,rfl,x,dx1,fs1,rfl,hx1,lm1 _ (by decide +kernel),x,bs,ks,rfl,O1,fun D bvs H2 hD s2 hl2 hb2'=>?_⟩
  obtain ⟨T1,rfl,ht1⟩:=hy1.mono s2
  obtain ⟨T2,rfl,ht2⟩:=hy2.mono s2
  obtain ⟨v3,hv3,T3,rfl,ht3⟩:=C_ hb2' hb2
  refine ⟨_,rfl,T1,_,_,_,rfl,rfl,.inl (.inl ht1),Aj (j:=1) rfl,D,bvs,_,_,rfl,rfl,.inl (.inl hl2),Aj hv3,?_⟩
  refine ⟨_,rfl,T2,_,_,_,rfl,rfl,.inl (.inl ht2),Aj (j:=1) rfl,_,rfl,T1,_,_,_,rfl,rfl,.inl (.inl ht1),Aj (j:=2) rfl,_,_,rfl,rfl,?_⟩
  refine ⟨_,rfl,T2,_,_,_,rfl,rfl,.inl (.inl ht2),Aj (j:=0) rfl,_,rfl,T1,_,_,_,rfl,rfl,.inl (.inl ht1),Aj (j:=0) rfl,rfl,_,rfl,?_⟩
  have fin:=q H2 (s1.trans s2)
  unfold JR at fin
  by_cases e1:qd.1=j1
  ·have z:(!decide (V.int (qd.1:Nat)=V.int (j1:Nat)))=false:=by rw [e1]; simp
   rw [z]
   refine De ?_
   refine ⟨_,rfl,_,_,rfl,rfl,_,rfl,?_⟩
   refine DP (fun g1=>?_) (fun g1=>?_)
   ·refine ⟨_,rfl,T3,_,_,_,rfl,rfl,.inl (.inl ht3),Aj (j:=1) rfl,_,_,rfl,rfl,_,rfl,?_⟩
    have g1':0<=(qd.2:Int)+s0:=of_decide_eq_true g1
    by_cases g2:(qd.2:Int)+s0<(b2.2:Nat)
    ·have z2:decide ((qd.2:Int)+s0<(b2.2:Nat))=true:=decide_eq_true g2
     rw [z2]
     refine De ?_
     rw [if_pos ⟨e1,g1',g2⟩] at fin
     obtain ⟨dx2,fs2,hx2,lm2⟩:=meth (O1.mono s2)
     refine ⟨_,rfl,x,dx2,fs2,rfl,hx2,lm2 _ (by decide +kernel),_,rfl,T3,_,_,_,rfl,rfl,.inl (.inl ht3),Aj (j:=0) rfl,_,rfl,x,bs,ks,j2,b2,_,rfl,O1.mono s2,hb2,fun H3 s3=>?_⟩
     have fin3:=q H3 ((s1.trans s2).trans s3)
     unfold JR at fin3
     rw [if_pos ⟨e1,g1',g2⟩] at fin3
     exact fin3
    ·have z2:decide ((qd.2:Int)+s0<(b2.2:Nat))=false:=decide_eq_false g2
     rw [z2]
     refine D_ ?_
     rw [if_neg fun z=>g2 z.2.2] at fin
     exact fin
   ·refine ⟨_,rfl,?_⟩
    have g1':decide (0<=(qd.2:Int)+s0)=false:=(Bool.not_eq_true _).mp g1
    rw [if_neg fun z=>absurd (decide_eq_true z.2.1) g1] at fin
    exact D_ fin
  ·have z:(!decide (V.int (qd.1:Nat)=V.int (j1:Nat)))=true:=by
    rw [decide_eq_false fun z=>e1 (by have:=V.int.inj z; omega)]
    rfl
   rw [z]
   refine D_ ?_
   rw [if_neg fun z=>e1 z.1] at fin
   exact fin
noncomputable abbrev nV (l:List Nat):List V:=l.map fun n:Nat=>V.int (n:Int)
noncomputable def WR:Sp:=fun vs H Q _=>∃ i:Int,vs=[.int i]/\Q (.bl (decide (0<=i) && decide (i<1200))) H
theorem cY:Ar ["thing"] ["thing"] (Ae bC):=Bl
include N T in
theorem X6:Aw P w K mg base Bc 2 aD.fMy aD.dMy ["thing"] WR:=by
 have GWh:Aw P w K mg base Bc 1 aD.fWh aD.dWh ["thing"] QS:=Tz N T
 refine N.FMy.1.ok cY (fun vs H Q E h=>?_) (fun cdv A outer s H vs Q E hr h=>?_)
 ·obtain ⟨i,rfl,_⟩:=h
  rfl
 ·obtain ⟨i,rfl,q⟩:=h
  have hrWh:BL 1 _:=hr.mono (by decide)
  obtain ⟨tMB,hMB⟩:=T.below
  refine ⟨_,(Ag (A_ (Dc (Am GWh hrWh rfl N.FWh.2.2 N.FWh.1.kp N.FWh.2.1 .nil Ay (Aa (pv 0) Ab)) (Cz (G8 E_ Hr Ac (pv 0) (Cd (v:=.int 1200) rfl hMB ⟨tMB,rfl⟩)))))),?_⟩
  refine ⟨_,rfl,i,rfl,_,rfl,D_ ?_⟩
  refine ⟨_,rfl,_,_,rfl,rfl,_,rfl,?_⟩
  refine DP (fun h1=>?_) (fun h1=>?_)
  ·rw [h1,Bool.true_and] at q
   exact ⟨_,_,rfl,rfl,q⟩
  ·rw [(Bool.not_eq_true _).mp h1,Bool.false_and] at q
   exact q
noncomputable def Rh:Sp:=fun vs H Q _=>∃ (p:Addr) (l:List Nat),vs=[.ref p]/\H p=some (.lst (nV l))/\l.length<=500/\(∀ n∈l,n<1200)/\∀ H',Al H H'->Q (.int (Wd.mk l:Nat)) H'
theorem Wx (l:List Nat) (n:Nat):Builtin.bitOr ((Wd.mk l:Nat):Int) (1 * 2 ^ ((n:Nat):Int).toNat)=((Wd.mk (l++[n]):Nat):Int):=by
 rw [Int.one_mul,Int.toNat_natCast,Fv,Eu,Wd.Rk]
theorem Rj:Ar ["numbers","some","number"] ["numbers"] (Ae Z4):=Bl
include N T in
theorem QH:Aw P w K mg base Bc 3 aD.fSt aD.dSt ["numbers"] Rh:=by
 have GMy:Aw P w K mg base Bc 2 aD.fMy aD.dMy ["thing"] WR:=X6 N T
 refine N.FSt.1.ok Rj (fun vs H Q E h=>?_) (fun cdv A outer s H vs Q E hr h=>?_)
 ·obtain ⟨p,l,rfl,_⟩:=h
  rfl
 ·obtain ⟨p,l,rfl,hp,hz,hb,q⟩:=h
  have hrMy:BL 2 _:=hr.mono (by decide)
  refine ⟨_,(Af (Ck (PW.pt (JL (Dz (Ej (BR Cp rfl T.isin PyProof.Rows.boot_isinstance (Aa (pv 0) (Aa (Dt (v:=.ty "list") rfl T.list PyProof.Rows.boot_list rfl) Ab))))) (Hc (Dz (Ej (BR (Io rfl) rfl T.all PyProof.Rows.boot_all (Aa (Bg rfl (BP (osc:=Ae Z4) (N:=["numbers","some","number"]) rfl rfl (by decide +kernel)) (Bb (pv 0)) (fun _ _ _ _=>CG) (fun _ _ _ _=>(Am GMy hrMy rfl N.FMy.2.2 N.FMy.1.kp N.FMy.2.1 .nil Ay (Aa (pv 0) Ab)))) Ab))))))) (Ag Fb) Bk)
   (Af (BK (i:=1) Rj.nd rfl (Or.inl rfl) Ac)
   (Af (B_ PassesOwn.never rfl (Bb (pv 0)) (BX (i:=2) Rj.nd rfl (Or.inl rfl)) (Ag (BK (i:=1) Rj.nd rfl (Or.inl rfl) (BJ Hn (pv 1) (BJ Et Ac (pv 2))))))
   (Ag (A_ (pv 1)))))),?_⟩
  have hS:Ci K H p (nV l):=.inl (.inl hp)
  refine ⟨_,rfl,_,"list",_,_,rfl,.lst hp,TY,_,rfl,De ?_⟩
  have hzl:(nV l).length<sizeLine:=Aq (by simp; omega)
  refine ⟨_,rfl,p,rfl,⟨_,hS⟩,Bv (K:=K) (xs:=nV l) (fun _=>true) (fun _=>.bl true) hS hzl (fun x hx H' hs R k=>k H' (Al.refl H')) (fun x hx _ H' hs R k=>?_) (fun D H' hD hs hl=>?_)⟩
  ·obtain ⟨n,hn,rfl⟩:=List.mem_map.mp hx
   refine ⟨_,rfl,(n:Int),rfl,?_⟩
   have e:(decide ((0:Int)<=(n:Int)) && decide ((n:Int)<1200))=true:=by
    have:=hb n hn
    simp
    omega
   rw [e]
   exact k H' (Al.refl H')
  ·refine ⟨D,(nV l).map fun _=>true,rfl,.inl (.inl ?_),?_⟩
   ·rw [hl,List.filter_eq_self.mpr (fun _ _=>rfl)]
    simp
   ·have e:((nV l).map fun _=>true).all id=true:=by simp
    rw [e]
    refine ⟨_,rfl,De ?_⟩
    refine ⟨_,rfl,p,rfl,⟨_,hs.seq hS⟩,Eb (K:=K) (a:=p) (xs:=nV l) (fun i σ H4=>H4=H'/\∃ v2,σ=[some (.ref p),some (.int (Wd.mk (l.take i):Nat)),v2]) ⟨rfl,_,rfl⟩ (fun i σ H4 _ h=>by rw [h.1]; exact hs.seq hS) ?_ ?_⟩
    ·rintro i y σ H4 hi ⟨rfl,v2,rfl⟩
     rw [List.getElem?_map] at hi
     obtain ⟨n,hn,rfl⟩:=Option.map_eq_some_iff.mp hi
     have hn':=hb n (List.mem_of_getElem? hn)
     refine ⟨_,rfl,_,rfl,_,_,rfl,rfl,⟨by omega,by omega,by decide⟩,_,_,rfl,rfl,?_⟩
     refine ⟨rfl,some (.int (n:Int)),?_⟩
     dsimp only
     rw [Wx,List.take_add_one,hn]
     rfl
    ·rintro σ H4 ⟨rfl,v2,rfl⟩
     have el:l.take (nV l).length=l:=List.take_of_length_le (by simp)
     rw [el]
     exact ⟨_,rfl,q _ hs⟩
noncomputable def Rx:Sp:=fun vs H Q _=>∃ (n:Nat) (i:Int),vs=[.int n,.int i]/\Q (.bl (decide (0<=i) && n.testBit i.toNat)) H
theorem Mh (n:Nat) (i:Int):decide (V.int (Builtin.bitAnd ((n:Int) / 2 ^ i.toNat) 1)=V.int 1)=n.testBit i.toNat:=by
 rw [Fv,show (1:Int)=((1:Nat):Int) from rfl,← Int.natCast_ediv,Ko,Bool.eq_iff_iff]
 rw [Nat.testBit_eq_decide_div_mod_eq,Nat.and_one_is_mod]
 simp only [decide_eq_true_eq,V.int.injEq]
 exact Int.ofNat_inj
theorem dG:Ar ["some","number"] ["some","number"] (Ae d_):=Bl
include N T in
theorem QM:Aw P w K mg base Bc 1 aD.fHa aD.dHa ["some","number"] Rx:=by
 refine N.FHa.1.ok dG (fun vs H Q E h=>?_) (fun cdv A outer s H vs Q E hr h=>?_)
 ·obtain ⟨n,i,rfl,_⟩:=h
  rfl
 ·obtain ⟨n,i,rfl,q⟩:=h
  refine ⟨_,(Ag (A_ (Dc (G8 E_ Hr Ac (pv 1) (QK PySem.F.plainAttrs_int PySem.F.slot_int_bit_length PySem.F.type_int_bit_length Kl (pv 0))) (Cz (Er Dw (BJ Jv (BJ Jy (pv 0) (pv 1)) Ac) Ac (Bm _)))))),?_⟩
  refine ⟨_,rfl,_,_,rfl,rfl,_,rfl,?_⟩
  refine DP (fun h1=>?_) (fun h1=>?_)
  ·have hi:0<=i:=of_decide_eq_true h1
   refine ⟨_,rfl,rfl,(n:Int),rfl,rfl,_,_,rfl,rfl,_,rfl,?_⟩
   rw [HY]
   refine DP (fun h2=>?_) (fun h2=>?_)
   ·refine ⟨_,rfl,_,rfl,_,_,rfl,rfl,hi,_,_,rfl,rfl,rfl,?_⟩
    dsimp only
    rw [Mh]
    rw [h1,Bool.true_and] at q
    exact q
   ·have e:n.testBit i.toNat=false:=by
     cases hb:n.testBit i.toNat with
     | false=>rfl
     | true =>
      have:=Wd.Px hb
      exact absurd (decide_eq_true (by omega:i<(Wd.len n:Int))) h2
    rw [e,Bool.and_false] at q
    exact q
  ·rw [(Bool.not_eq_true _).mp h1,Bool.false_and] at q
   exact ⟨_,rfl,De q⟩
noncomputable def YS:Sp:=fun vs H Q _=>∃ n:Nat,vs=[.int n]/\n<2 ^ 1200/\∀ p H',H p=none->Al H H'->H' p=some (.lst (nV (Wd.mem n)))->Q (.ref p) H'
theorem Qg (n:Nat):((((List.range (Wd.len n)).map fun (i:Nat)=>(0:Int)+(i:Int)).filter fun i=>decide (0<=i) && n.testBit i.toNat).map fun i=>V.int i)=nV (Wd.mem n):=by
 unfold Wd.mem
 rw [List.filter_map,List.map_map]
 have e:((fun i:Int=>decide (0<=i) && n.testBit i.toNat) ∘ fun (i:Nat)=>(0:Int)+(i:Int))=n.testBit:=by
  funext i
  show (decide (0<=(0:Int)+(i:Int)) && n.testBit ((0:Int)+(i:Int)).toNat)=n.testBit i
  have h1:(0:Int)<=0+(i:Int):=by omega
  have h2:((0:Int)+(i:Int)).toNat=i:=by omega
  rw [decide_eq_true h1,h2,Bool.true_and]
 rw [e]
 refine List.map_congr_left fun i _=>?_
 show V.int ((0:Int)+(i:Int))=V.int (i:Int)
 rw [Int.zero_add]
theorem dU:Ar ["some"] ["some"] (Ae Zv):=Bl
include N T in
theorem Wn:Aw P w K mg base Bc 2 aD.fMe aD.dMe ["some"] YS:=by
 have GHa:Aw P w K mg base Bc 1 aD.fHa aD.dHa ["some","number"] Rx:=QM N T
 refine N.FMe.1.ok dU (fun vs H Q E h=>?_) (fun cdv A outer s H vs Q E hr h=>?_)
 ·obtain ⟨n,rfl,_⟩:=h
  rfl
 ·obtain ⟨n,rfl,hn,q⟩:=h
  have hrHa:BL 1 _:=hr.mono (by decide)
  refine ⟨_,(Ag (A_ (Bg rfl (BP (osc:=Ae Zv) (N:=["some"]) rfl rfl (by decide +kernel)) (CK rfl T.range (Aa (QK PySem.F.plainAttrs_int PySem.F.slot_int_bit_length PySem.F.type_int_bit_length Kl (pv 0)) Ab)) (fun _ _ _ _=>(Gi (Ej (Am GHa hrHa rfl N.FHa.2.2 N.FHa.1.kp N.FHa.2.1 .nil Ay (Aa (pv 1) (Aa (pv 0) Ab)))))) (fun _ _ _ _=>(pv 0))))),?_⟩
  have hlen:Wd.len n<=1200:=Wd.Ls hn
  refine ⟨_,rfl,rfl,(n:Int),rfl,rfl,?_⟩
  rw [HY]
  refine ⟨_,rfl,by omega,by omega,?_⟩
  rw [Int.toNat_natCast]
  refine Il (lo:=0) (n:=Wd.len n) (fun i=>decide (0<=i) && n.testBit i.toNat) (fun i=>.int i) (Nat.lt_of_le_of_lt hlen (by decide)) (fun i hi H' hs R k=>?_) (fun i hi _ H' hs R k=>⟨_,rfl,k H' (Al.refl H')⟩) (fun D H' hD hs hl=>?_)
  ·exact ⟨_,rfl,_,rfl,n,_,rfl,_,rfl,k H' (Al.refl H')⟩
  ·rw [Qg] at hl
   exact q D H' hD hs hl
noncomputable def Vi:Sp:=fun vs H Q _=>∃ (n:Nat) (k:Int) (c:Nat),vs=[.int n,.int k,.int c]/\n<2 ^ 1200 /\ -1200<=k/\k<=1200/\c<=1200/\Q (.int (Wd.mv n k c:Nat)) H
theorem NZ (m c:Nat):Builtin.bitAnd (m:Int) (1 * 2 ^ ((if (0:Int) > (c:Int) then (0:Int) else (c:Int))).toNat - 1)=((m % 2 ^ c:Nat):Int):=by
 have h:¬ (0:Int) > (c:Int):=by omega
 rw [if_neg h,Int.one_mul,Int.toNat_natCast,Fv]
 have hp:1<=2 ^ c:=Nat.one_le_two_pow
 have e:((2 ^ c:Nat):Int) - 1=((2 ^ c - 1:Nat):Int):=by omega
 rw [e,Ko,Nat.and_two_pow_sub_one_eq_mod]
theorem W7:Ar ["some","steps","count","moved"] ["some","steps","count"] (Ae cT):=Bl
include N T in
theorem UW:Aw P w K mg base Bc 1 aD.fSh aD.dSh ["some","steps","count"] Vi:=by
 refine N.FSh.1.ok W7 (fun vs H Q E h=>?_) (fun cdv A outer s H vs Q E hr h=>?_)
 ·obtain ⟨n,k,c,rfl,_⟩:=h
  rfl
 ·obtain ⟨n,k,c,rfl,hn,k1,k2,hc,q⟩:=h
  refine ⟨_,(Af (BK (i:=3) W7.nd rfl (Or.inl rfl) (Pb (Bd Yt (pv 1) Ac (Bm _)) (BJ Rp (pv 0) (pv 1)) (BJ Jy (pv 0) (M9 J6 (pv 1)))))
   (Ag (A_ (BJ Jv (pv 3) (BJ Ge (BJ Et Ac (BR (Nm rfl) rfl T.max PyProof.Rows.boot_max (Aa (pv 2) (Aa Ac Ab)))) Ac))))),?_⟩
  have hlen:Wd.len n<=1200:=Wd.Ls hn
  have p1:(2:Int) ^ 27=134217728:=by decide
  refine ⟨_,rfl,_,_,rfl,rfl,_,rfl,?_⟩
  refine DP (fun h1=>?_) (fun h1=>?_)
  ·have hk:0<k:=of_decide_eq_true h1
   refine ⟨_,rfl,_,rfl,_,_,rfl,rfl,⟨by omega,by rw [HY,p1]; omega⟩,?_⟩
   refine ⟨_,rfl,_,rfl,_,_,rfl,⟨_,_,rfl,rfl,⟨by split <;> omega,by split <;> omega,by decide⟩,_,_,rfl,rfl,_,_,rfl,rfl,?_⟩⟩
   dsimp only
   have e:((n:Int) * 2 ^ k.toNat)=((n * 2 ^ k.toNat:Nat):Int):=by rw [Fv]; simp
   rw [e,NZ]
   unfold Wd.mv at q
   rw [if_pos hk] at q
   exact q
  ·have hk:¬ 0<k:=fun z=>h1 (decide_eq_true z)
   refine ⟨_,rfl,_,rfl,_,rfl,_,_,rfl,rfl,by omega,?_⟩
   refine ⟨_,rfl,_,rfl,_,_,rfl,⟨_,_,rfl,rfl,⟨by split <;> omega,by split <;> omega,by decide⟩,_,_,rfl,rfl,_,_,rfl,rfl,?_⟩⟩
   dsimp only
   have e:((n:Int) / 2 ^ (-k).toNat)=((n / 2 ^ (-k).toNat:Nat):Int):=by rw [Fv]; simp
   rw [e,NZ]
   unfold Wd.mv at q
   rw [if_neg hk] at q
   exact q
noncomputable def Wy (C:Addr):Sp:=fun vs H Q _=>∃ (x:Addr) (bs:List (Str × Nat)) (ks:List R),vs=[.ref x]/\Cr C H x bs ks/\∀ D ys H',H D=none->Al H H'->H' D=some (.lst ys)->Paired (fun (r:R) y=>TupAt H' [.str r.w,.str r.nm] y) ks ys->Q (.ref D) H'
theorem aU:Ar ["self"] ["self"] (Ae Zb):=Bl
include N T in
theorem W9:Aw P w K mg base Bc 1 aD.fOz aD.dOz ["self"] (Wy C):=by
 refine N.FOz.1.ok aU (fun vs H Q E h=>?_) (fun cdv A outer s H vs Q E hr h=>?_)
 ·obtain ⟨x,bs,ks,rfl,_⟩:=h
  rfl
 ·obtain ⟨x,bs,ks,rfl,O,q⟩:=h
  refine ⟨_,(Ag (A_ (Bg rfl (BP (osc:=Ae Zb) (N:=["self"]) rfl rfl (by decide +kernel)) (Bb (Bw (pv 0) rfl)) (fun _ _ _ _=>CG) (fun _ _ _ _=>(CT (Aa (Ax (An (K:=K) rfl) (pv 0) Ac (fun _ _=>rfl)) (Aa (Ax (An (K:=K) rfl) (pv 0) Ac (fun _ _=>rfl)) Ab))))))),?_⟩
  obtain ⟨⟨dx,fs,bl,bn,kp,kr,bvs,pvs,uvs,kvs,h1,l1,l2,l3,l4,lm,h2,h3,h4,h5,h6,h7,h8,h9⟩,ob5,osz,onk⟩:=id O
  have hS:Ci K H kr uvs:=.inl (.inl h8)
  have hul:=h9.length
  refine ⟨_,rfl,x,C,dx,_,_,rfl,h1,T.cl,T.n_knob_rows,l4,kr,rfl,⟨_,hS⟩,Ip (K:=K) (xs:=uvs) (fun _=>true) (fun v=>[.str (Js H v).w,.str (Js H v).nm]) hS (Aq (by omega)) (fun y hy H' hs R k=>k H' (Al.refl H')) (fun y hy _ H' hs R k=>?_) (fun D H' ys hD hs hl hv=>?_)⟩
  ·obtain ⟨r,_,hr0⟩:=Cg h9 hy
   have e:=Lw hr0
   rw [e] at k
   obtain ⟨T0,rfl,hT⟩:=hr0.mono hs
   exact ⟨_,rfl,T0,_,_,_,rfl,rfl,.inl (.inl hT),Aj (j:=0) rfl,_,rfl,T0,_,_,_,rfl,rfl,.inl (.inl hT),Aj (j:=1) rfl,by show 2<=sizeLine; decide,fun T6 hT6=>k _ _ (Az hT6) ⟨T6,rfl,Ah⟩⟩
  ·rw [List.filter_eq_self.mpr (fun _ _=>rfl)] at hv
   have h:=Bs (F:=fun (r:R) y=>TupAt H' [.str r.w,.str r.nm] y) (Js H) hv
   rw [My h9] at h
   exact q D ys H' hD hs hl h
noncomputable def S5 (C:Addr):Sp:=fun vs H Q _=>∃ (x:Addr) (bs:List (Str × Nat)) (ks:List R) (wd:Str) (D:Nat),vs=[.ref x,.int (D:Nat),.str wd]/\Cr C H x bs ks/\∀ L (cl:List Nat) H',H L=none->Al H H'->H' L=some (.lst (nV cl))->(∀ k,k∈cl ↔ ∃ r,ks[k]? = some r/\r.w=wd/\D.testBit k=true)->cl.length<=200->Q (.ref L) H'
theorem Xc:Ar ["organ","knobs","word","words"] ["organ","knobs","word"] (Ae Wq):=Bl
include N T in
theorem QW:Aw P w K mg base Bc 2 aD.fDc aD.dDc ["organ","knobs","word"] (S5 C):=by
 have GOz:Aw P w K mg base Bc 1 aD.fOz aD.dOz ["self"] (Wy C):=W9 N T
 have GHa:Aw P w K mg base Bc 1 aD.fHa aD.dHa ["some","number"] Rx:=QM N T
 refine N.FDc.1.ok Xc (fun vs H Q E h=>?_) (fun cdv A outer s H vs Q E hr h=>?_)
 ·obtain ⟨x,bs,ks,wd,D,rfl,_⟩:=h
  rfl
 ·obtain ⟨x,bs,ks,wd,D,rfl,O,q⟩:=h
  have hrOz:BL 1 _:=hr.mono (by decide)
  have hrHa:BL 1 _:=hr.mono (by decide)
  refine ⟨_,(Af (NK (i:=3) Xc.nd rfl rfl rfl (BP (osc:=Ae Wq) (N:=["organ","knobs","word","words"]) rfl rfl (by decide +kernel)) (Bb (Dy (pv 0) T.cl N.FOz.2.2 GOz hrOz N.FOz.2.1 .nil Ay)) (fun _ _ _ _=>CG) (fun _ _ _ _=>(Ax (An (K:=K) rfl) (pv 0) Ac (fun _ _=>rfl))))
   (Ag (A_ (Mj rfl (JK (osc:=Ae Wq) (N:=["organ","knobs","word","words"]) rfl rfl (by decide +kernel)) (GK rfl T.enumerate (Aa (pv 3) Ab)) (fun _ _ _ _=>Gi (PW.pt (J1 (Bd Dw (pv 1) (pv 4) (Bm _)) (J3 (Ej (Am GHa hrHa rfl N.FHa.2.2 N.FHa.1.kp N.FHa.2.1 .nil Ay (Aa (pv 3) (Aa (pv 0) Ab)))))))) (fun _ _ _ _=>(pv 0)))))),?_⟩
  obtain ⟨⟨dx,fs,bl,bn,kp,kr,bvs,pvs,uvs,kvs,h1,l1,l2,l3,l4,lm,h2,h3,h4,h5,h6,h7,h8,h9⟩,ob5,osz,onk⟩:=id O
  refine ⟨_,rfl,x,dx,fs,rfl,h1,lm _ (by decide +kernel),x,_,_,rfl,O,fun D1 ys H1 hD1 s1 hl1 hv1=>?_⟩
  have hS1:Ci K H1 D1 ys:=.inl (.inl hl1)
  have hyl:=hv1.length
  refine ⟨D1,rfl,⟨_,hS1⟩,Bv (K:=K) (xs:=ys) (fun _=>true) (Oq H1 0) hS1 (Aq (by omega)) (fun y hy H' hs R k=>k H' (Al.refl H')) (fun y hy _ H' hs R k=>?_) (fun D2 H2 hD2 s2 hl2=>?_)⟩
  ·obtain ⟨r,_,hr0⟩:=Cg hv1 hy
   have e:=HH hr0 0
   obtain ⟨T0,rfl,hT⟩:=hr0.mono hs
   have kk:=k H' (Al.refl H')
   rw [e] at kk
   exact ⟨_,rfl,T0,_,_,_,rfl,rfl,.inl (.inl hT),Aj (j:=0) rfl,kk⟩
  rw [List.filter_eq_self.mpr (fun _ _=>rfl),IV 0 hv1] at hl2
  have e2:(ks.map fun r=>([V.str r.w,V.str r.nm]:List V).getD 0 .non)=ks.map fun r=>V.str r.w:=rfl
  rw [e2] at hl2
  have hS2:Ci K H2 D2 (ks.map fun r=>V.str r.w):=.inl (.inl hl2)
  refine ⟨_,rfl,D2,rfl,⟨_,hS2⟩,O6 (K:=K) (xs:=ks.map fun r=>V.str r.w) (fun i v=>decide (v=.str wd) && D.testBit i) (fun i _=>.int (i:Nat)) hS2 (Aq (by rw [List.length_map]; omega)) (fun i v hv H' hs R k=>?_) (fun i v hv _ H' hs R k=>⟨_,rfl,k H' (Al.refl H')⟩) (fun D3 H3 hD3 s3 hl3=>?_)⟩
  ·rw [List.getElem?_map] at hv
   obtain ⟨z,hz,rfl⟩:=Option.map_eq_some_iff.mp hv
   have kk:=k H' (Al.refl H')
   refine ⟨_,rfl,_,rfl,rfl,_,rfl,?_⟩
   refine DP (fun g=>?_) (fun g=>?_)
   ·rw [g,Bool.true_and] at kk
    refine ⟨_,rfl,_,rfl,D,_,rfl,_,rfl,?_⟩
    rw [decide_eq_true (by omega:(0:Int)<=(i:Nat)),Bool.true_and,Int.toNat_natCast]
    exact kk
   ·rw [(Bool.not_eq_true _).mp g,Bool.false_and] at kk
    exact kk
  ·refine q D3 (((ks.map fun r=>V.str r.w).zipIdx.filter fun p=>decide (p.1=V.str wd) && D.testBit p.2).map (·.2)) H3 ((s1.trans s2).free hD3) ((s1.trans s2).trans s3) ?_ (fun k=>?_) ?_
   ·rw [hl3]
    refine congrArg (fun l=>some (HO.lst l)) ?_
    unfold nV
    rw [List.map_map]
    rfl
   ·constructor
    ·intro hk
     obtain ⟨⟨v,k'⟩,hm,rfl⟩:=List.mem_map.mp hk
     obtain ⟨h1,h2⟩:=List.mem_filter.mp hm
     have h3:=List.mem_zipIdx' h1
     rw [List.getElem_map] at h3
     obtain ⟨hlt,h3⟩:=h3
     rw [Bool.and_eq_true] at h2
     have hlt':k'<ks.length:=by simpa using hlt
     refine ⟨ks[k'],List.getElem?_eq_getElem hlt',?_,h2.2⟩
     have:=h2.1
     rw [h3] at this
     exact V.str.inj (of_decide_eq_true this)
    ·rintro ⟨z,hz,hc,hd⟩
     refine List.mem_map.mpr ⟨(V.str z.w,k),List.mem_filter.mpr ⟨?_,?_⟩,rfl⟩
     ·rw [List.mem_zipIdx_iff_getElem?,List.getElem?_map,hz]
      rfl
     ·show (decide (V.str z.w=V.str wd) && D.testBit k)=true
      rw [hc,hd,decide_eq_true rfl]
      rfl
   ·rw [List.length_map]
    refine Nat.le_trans (List.length_filter_le _ _) ?_
    rw [List.length_zipIdx,List.length_map]
    omega
theorem Jq {C:Addr} {H:Hp} {x:Addr} {bs:List (Str × Nat)} {ks:List R} (O:Cr C H x bs ks):(bs.map (·.2)).sum<=305:=by
 have h:=J4 bs 61 O.sz
 rw [Ef] at h
 have:=O.nb
 have:bs.length * 61<=5 * 61:=Nat.mul_le_mul_right _ this
 omega
noncomputable abbrev kI (j:Nat):Key:=Sum.inl ((j:Nat):Int)
noncomputable def fu (H:Hp) (bs:List (Str × Nat)) (kbs:List Kb) (D n:Nat) (kvs:List (Key × V)) (js:List Nat):Prop:=∀ (m j:Nat),js[m]? = some j->∃ (k i:Nat) (T:Addr) (z:Kb),CZ kvs (kI j)=some (.ref T)/\H T=some (.tup [V.int (k:Nat),V.int (i:Nat)])/\D.testBit k=true/\kbs[k]? = some z/\gl bs z i=some j/\(n.testBit i=true \/ i∈js.take m)
theorem JS {X:Cx} {K:PySem.W.Frag} (h:X.K=K):GD X (compareOp .NotIn) (Zy K true):=h ▸ KQ
theorem QC (l:List Nat):(nV l).all G7=true:=List.all_eq_true.mpr fun v hv=>by
 obtain ⟨n,_,rfl⟩:=List.mem_map.mp hv
 rfl
theorem S9 (j:Nat) (js:List Nat):inV (.int (j:Nat)) (nV js)=decide (j∈js):=by
 rw [Bool.eq_iff_iff,decide_eq_true_eq]
 unfold inV
 rw [List.any_eq_true]
 constructor
 ·rintro ⟨y,hy,e⟩
  obtain ⟨n,hn,rfl⟩:=List.mem_map.mp hy
  have e':(((n:Nat):Int) == ((j:Nat):Int))=true:=e
  have e2:((n:Nat):Int)=(j:Nat):=eq_of_beq e'
  have:n=j:=by omega
  subst this
  exact hn
 ·intro h
  exact ⟨_,List.mem_map_of_mem h,by show (((j:Nat):Int) == ((j:Nat):Int))=true; exact beq_self_eq_true _⟩
theorem b_:Ar ["self","knob"] ["self","knob"] (Ae az):=Bl
include N T in
theorem Xy:Aw P w K mg base Bc 2 aD.fOm aD.dOm ["self","knob"] (Nj C):=by
 have GBk:Aw P w K mg base Bc 1 aD.fBk aD.dBk ["self","knob"] (Nj C):=QF N T
 refine N.FOm.1.ok b_ (fun vs H Q E h=>?_) (fun cdv A outer s H vs Q E hr h=>?_)
 ·obtain ⟨x,bs,ks,k,j1,b1,wd,nm,rs,rfl,_⟩:=h
  rfl
 ·obtain ⟨x,bs,ks,k,j1,b1,wd,nm,rs,rfl,O,hk,hb1,q⟩:=h
  have hrBk:BL 1 _:=hr.mono (by decide)
  refine ⟨_,(Ag (A_ (Cv (pv 0) T.cl N.FBk.2.2 GBk hrBk N.FBk.2.1 .nil Ay (Aa (pv 1) Ab)))),?_⟩
  obtain ⟨⟨dx,fs,bl,bn,kp,kr,bvs,pvs,uvs,kvs,h1,l1,l2,l3,l4,lm,h2,h3,h4,h5,h6,h7,h8,h9⟩,ob5,osz,onk⟩:=id O
  exact ⟨_,rfl,x,dx,fs,rfl,h1,lm _ (by decide +kernel),_,rfl,x,bs,ks,k,j1,b1,wd,nm,rs,rfl,O,hk,hb1,q⟩
noncomputable def Ys (C:Addr):Sp:=fun vs H Q _=>∃ (x:Addr) (bs:List (Str × Nat)) (rk:List (Str × Nat × Int)) (ks:List R) (ls:List (List Ln)) (k j1:Nat) (b1:Str × Nat) (wd nm:Str) (rs:List V) (l:List Ln),vs=[.ref x,.int (k:Nat)]/\Cw C H x bs rk ks ls/\ks[k]? = some ⟨wd,nm,.str b1.1::rs⟩/\bs[j1]? = some b1/\ls[k]? = some l /\
 ∀ (T0 L0:Addr) (ts:List V) H',H L0=none->Al H H'->H' T0=some (.tup [.int (j1:Nat),.ref L0])->H' L0=some (.lst ts)->Paired (fun x y=>TupAt H' (Xm x) y) l ts->Q (.ref T0) H'
theorem di:Ar ["self","knob"] ["self","knob"] (Ae eG):=Bl
include N T in
theorem XR:Aw P w K mg base Bc 2 aD.fOs aD.dOs ["self","knob"] (Ys C):=by
 have GBk:Aw P w K mg base Bc 1 aD.fBk aD.dBk ["self","knob"] (Nj C):=QF N T
 refine N.FOs.1.ok di (fun vs H Q E h=>?_) (fun cdv A outer s H vs Q E hr h=>?_)
 ·obtain ⟨x,bs,rk,ks,ls,k,j1,b1,wd,nm,rs,l,rfl,_⟩:=h
  rfl
 ·obtain ⟨x,bs,rk,ks,ls,k,j1,b1,wd,nm,rs,l,rfl,O,hk,hb1,hl,q⟩:=h
  have hrBk:BL 1 _:=hr.mono (by decide)
  refine ⟨_,(Ag (A_ (CT (Aa (Cv (pv 0) T.cl N.FBk.2.2 GBk hrBk N.FBk.2.1 .nil Ay (Aa (pv 1) Ab)) (Aa (Dv DR rfl T.list PyProof.Rows.boot_list (Aa (Ax (Ft (K:=K) rfl) (Bw (pv 0) rfl) (pv 1) (fun _ _=>rfl)) Ab)) Ab))))),?_⟩
  obtain ⟨⟨dx,fs,bl,bn,kp,kr,bvs,pvs,uvs,kvs,h1,l1,l2,l3,l4,lm,h2,h3,h4,h5,h6,h7,h8,h9⟩,ob5,osz,onk⟩:=id O.o
  obtain ⟨dx',fs',rl,rn,pp,kl,rvs,qvs,kvs',g1,m1,m2,m3,m4,g2,g3,g4,g5,g6,g7,lv,g8,g9⟩:=id O.r
  obtain ⟨e1,e2⟩:dx'=dx/\fs'=fs:=by rw [h1] at g1; cases g1; exact ⟨rfl,rfl⟩
  subst e1 e2
  obtain ⟨y,hy,A,ts,rfl,hA,htp⟩:=C_ g9 hl
  refine ⟨_,rfl,x,_,_,rfl,h1,lm _ (by decide +kernel),_,rfl,x,bs,ks,k,j1,b1,wd,nm,rs,rfl,O.o,hk,hb1,?_⟩
  refine ⟨_,rfl,x,C,_,_,_,rfl,h1,T.cl,T.n_knob_lines,m4,_,rfl,kl,lv,_,_,rfl,rfl,.inl (.inl g8),Aj hy,A,ts,rfl,.inl (.inl (.inl hA)),fun L0 hL0=>?_⟩
  obtain ⟨H1,eqH,t1,u1⟩:=Jr (o:=HO.lst ts) hL0
  rw [eqH]
  refine ⟨by show 2<=sizeLine; decide,fun T0 hT0=>?_⟩
  have t2:=Az (o:=HO.tup [.int (j1:Nat),.ref L0]) hT0
  exact q T0 L0 ts _ hL0 (t1.trans t2) Ah (t2 _ _ u1) (Ai (t1.trans t2) htp)
noncomputable def Wo (C:Addr):Sp:=fun vs H Q _=>∃ (x:Addr) (bs:List (Str × Nat)) (rk:List (Str × Nat × Int)) (ks:List R) (ls:List (List Ln)),vs=[.ref x]/\Cw C H x bs rk ks ls/\∀ D rvs H',H D=none->Al H H'->H' D=some (.lst rvs)->Paired (fun (a:Th) y=>TupAt H' (tV a) y) (rk.map Qh) rvs->Q (.ref D) H'
theorem a_:Ar ["self"] ["self"] (Ae bj):=Bl
include N T in
theorem Yo:Aw P w K mg base Bc 1 aD.fOr aD.dOr ["self"] (Wo C):=by
 refine N.FOr.1.ok a_ (fun vs H Q E h=>?_) (fun cdv A outer s H vs Q E hr h=>?_)
 ·obtain ⟨x,bs,rk,ks,ls,rfl,_⟩:=h
  rfl
 ·obtain ⟨x,bs,rk,ks,ls,rfl,O,q⟩:=h
  refine ⟨_,(Ag (A_ (Dv DR rfl T.list PyProof.Rows.boot_list (Aa (Bw (pv 0) rfl) Ab)))),?_⟩
  obtain ⟨⟨dx,fs,bl,bn,kp,kr,bvs,pvs,uvs,kvs,h1,l1,l2,l3,l4,lm,h2,h3,h4,h5,h6,h7,h8,h9⟩,ob5,osz,onk⟩:=id O.o
  obtain ⟨dx',fs',rl,rn,pp,kl,rvs,qvs,kvs',g1,m1,m2,m3,m4,g2,g3,g4,g5,g6,g7,lv,g8,g9⟩:=id O.r
  obtain ⟨e1,e2⟩:dx'=dx/\fs'=fs:=by rw [h1] at g1; cases g1; exact ⟨rfl,rfl⟩
  subst e1 e2
  exact ⟨_,rfl,x,C,_,_,_,rfl,h1,T.cl,T.n_rank_list,m1,rl,rvs,rfl,.inl (.inl (.inl g2)),fun l hl=>q l rvs _ hl (Az hl) Ah (Ai (Az hl) g3)⟩
noncomputable def XS (C:Addr):Sp:=fun vs H Q _=>∃ (x:Addr) (bs:List (Str × Nat)) (rk:List (Str × Nat × Int)) (ks:List R) (ls:List (List Ln)),vs=[.ref x]/\Cw C H x bs rk ks ls/\Q (.int ((Dq (rk.map VD)).length:Nat)) H
theorem dO:Ar ["self"] ["self"] (Ae dz):=Bl
include N T in
theorem Wa:Aw P w K mg base Bc 1 aD.fOq aD.dOq ["self"] (XS C):=by
 refine N.FOq.1.ok dO (fun vs H Q E h=>?_) (fun cdv A outer s H vs Q E hr h=>?_)
 ·obtain ⟨x,bs,rk,ks,ls,rfl,_⟩:=h
  rfl
 ·obtain ⟨x,bs,rk,ks,ls,rfl,O,q⟩:=h
  refine ⟨_,(Ag (A_ (BR Bj rfl T.len PySem.boot_len (Aa (Bw (pv 0) rfl) Ab)))),?_⟩
  obtain ⟨⟨dx,fs,bl,bn,kp,kr,bvs,pvs,uvs,kvs,h1,l1,l2,l3,l4,lm,h2,h3,h4,h5,h6,h7,h8,h9⟩,ob5,osz,onk⟩:=id O.o
  obtain ⟨dx',fs',rl,rn,pp,kl,rvs,qvs,kvs',g1,m1,m2,m3,m4,g2,g3,g4,g5,g6,g7,lv,g8,g9⟩:=id O.r
  obtain ⟨e1,e2⟩:dx'=dx/\fs'=fs:=by rw [h1] at g1; cases g1; exact ⟨rfl,rfl⟩
  subst e1 e2
  refine ⟨_,rfl,x,C,_,_,_,rfl,h1,T.cl,T.n_pipe_places,m3,pp,qvs,rfl,.inl (.inl (.inl g6)),?_⟩
  rw [← g7.length]
  exact q
noncomputable def ZC (C:Addr):Sp:=fun vs H Q _=>∃ (x:Addr) (bs:List (Str × Nat)) (rk:List (Str × Nat × Int)) (ks:List R) (ls:List (List Ln)) (j:Nat) (r:Str × Nat × Int) (n:Int),vs=[.ref x,.str r.1,.int n]/\Cw C H x bs rk ks ls/\rk[j]? = some r/\∀ H',Al H H'->Q (.int ((((rk.take j).map (fun r=>r.2.1)).sum:Nat)+n)) H'
theorem bf:Ar ["self","rank","number"] ["self","rank","number"] (Ae bz):=Bl
include N T in
theorem ZZ:Aw P w K mg base Bc 2 aD.fOe aD.dOe ["self","rank","number"] (ZC C):=by
 have GCa:Aw P w K mg base Bc 1 aD.fCa aD.dCa ["things"] Ue:=Tw N T
 refine N.FOe.1.ok bf (fun vs H Q E h=>?_) (fun cdv A outer s H vs Q E hr h=>?_)
 ·obtain ⟨x,bs,rk,ks,ls,j,r,n,rfl,_⟩:=h
  rfl
 ·obtain ⟨x,bs,rk,ks,ls,j,r,n,rfl,O,hb,q⟩:=h
  have hrCa:BL 1 _:=hr.mono (by decide)
  have hu:=Ga hr
  refine ⟨_,(Ag (A_ (BJ CW (Am GCa hrCa rfl N.FCa.2.2 N.FCa.1.kp N.FCa.2.1 .nil Ay (Aa (G9 KH (Bw (pv 0) rfl) Hx (Hy (HF hu (Bw (pv 0) rfl) (pv 1) (fun _ _=>rfl)))) Ab)) (pv 2)))),?_⟩
  obtain ⟨⟨dx,fs,bl,bn,kp,kr,bvs,pvs,uvs,kvs,h1,l1,l2,l3,l4,lm,h2,h3,h4,h5,h6,h7,h8,h9⟩,ob5,osz,onk⟩:=id O.o
  obtain ⟨dx',fs',rl,rn,pp,kl,rvs,qvs,kvs',g1,m1,m2,m3,m4,g2,g3,g4,g5,g6,g7,lv,g8,g9⟩:=id O.r
  obtain ⟨e1,e2⟩:dx'=dx/\fs'=fs:=by rw [h1] at g1; cases g1; exact ⟨rfl,rfl⟩
  subst e1 e2
  have hj:j<rk.length:=(List.getElem?_eq_some_iff.mp hb).1
  have hl:=g3.length
  rw [List.length_map] at hl
  have g:=FT.k (k:=Sum.inr r.1) g4
  rw [g5 j r hb] at g
  refine ⟨_,rfl,x,C,_,_,_,rfl,h1,T.cl,T.n_rank_list,m1,_,rfl,x,C,_,_,_,rfl,h1,T.cl,T.n_rank_numbers,m2,_,rfl,rn,_,rfl,g,_,rfl,rl,rvs,rfl,.inl (.inl g2),fun p6 hp6=>?_⟩
  have s6:=Az (o:=HO.lst (En rvs none (some (j:Int)))) hp6
  have a6:upd H p6 (HO.lst (En rvs none (some (j:Int)))) p6=_:=Ah
  generalize upd H p6 (HO.lst (En rvs none (some (j:Int))))=H6 at s6 a6 ⊢
  rw [Iu rvs j (by omega)] at a6
  refine ⟨p6,(rk.map Qh).take j,rvs.take j,rfl,a6,Hs (Ai s6 g3) j,(by rw [List.length_take,List.length_map]; have:=O.nr; omega),(fun a ha=>by obtain ⟨r',hr',rfl⟩:=List.mem_map.mp (List.mem_of_mem_take ha); exact Nat.le_trans (O.nz r' hr') (by decide)),fun H7 s7=>?_⟩
  have e7:(((rk.map Qh).take j).map fun a=>a.2.1)=(rk.take j).map (fun r=>r.2.1):=by
   rw [← List.map_take,List.map_map]
   rfl
  rw [e7]
  exact ⟨_,rfl,_,_,rfl,rfl,q H7 (s6.trans s7)⟩
noncomputable def Qx (l:List Nat):Nat:=l.foldl (· ||| ·) 0
theorem K9 (l:List Nat) (n:Nat):Qx (l++[n])=Qx l ||| n:=by
 unfold Qx
 rw [List.foldl_append]
 rfl
theorem Ml:∀ (l:List Nat) (i:Nat),(Qx l).testBit i=true ↔ ∃ n∈l,n.testBit i=true:=by
 have key:∀ (k:Nat) (l:List Nat) (i:Nat),l.length=k->((Qx l).testBit i=true ↔ ∃ n∈l,n.testBit i=true):=by
  intro k
  induction k with
  | zero =>
   intro l i h
   cases l with
   | nil=>exact ⟨fun z=>absurd z (by unfold Qx; rw [List.foldl_nil,Nat.zero_testBit]; decide),fun ⟨n,hn,_⟩=>nomatch hn⟩
   | cons a b=>cases h
  | succ k ih =>
   intro l i h
   obtain ⟨a,z,rfl⟩:=Dn (l:=l) (by intro e; rw [e] at h; cases h)
   rw [List.length_append,List.length_singleton] at h
   rw [K9,Uo,ih a i (by omega)]
   constructor
   ·rintro (⟨n,hn,hb⟩ | hb)
    ·exact ⟨n,List.mem_append_left _ hn,hb⟩
    ·exact ⟨z,by simp,hb⟩
   ·rintro ⟨n,hn,hb⟩
    rcases List.mem_append.mp hn with h | h
    ·exact .inl ⟨n,h,hb⟩
    ·rw [List.mem_singleton.mp h] at hb
     exact .inr hb
 exact fun l i=>key l.length l i rfl
noncomputable def Ve:Sp:=fun vs H Q _=>∃ (p:Addr) (l:List Nat),vs=[.ref p]/\H p=some (.lst (nV l))/\l.length<=500/\Q (.int (Qx l:Nat)) H
theorem Rb:Ar ["sets","some","each"] ["sets"] (Ae aG):=Bl
include N T in
theorem Td:Aw P w K mg base Bc 1 aD.fUn aD.dUn ["sets"] Ve:=by
 refine N.FUn.1.ok Rb (fun vs H Q E h=>?_) (fun cdv A outer s H vs Q E hr h=>?_)
 ·obtain ⟨p,l,rfl,_⟩:=h
  rfl
 ·obtain ⟨p,l,rfl,hp,hz,q⟩:=h
  refine ⟨_,(Af (BK (i:=1) Rb.nd rfl (Or.inl rfl) Ac)
   (Af (B_ PassesOwn.never rfl (Bb (pv 0)) (BX (i:=2) Rb.nd rfl (Or.inl rfl)) (Ag (BK (i:=1) Rb.nd rfl (Or.inl rfl) (BJ Hn (pv 1) (pv 2)))))
   (Ag (A_ (pv 1))))),?_⟩
  have hS:Ci K H p (nV l):=.inl (.inl hp)
  refine ⟨_,rfl,p,rfl,⟨_,hS⟩,Eb (K:=K) (a:=p) (xs:=nV l) (fun i σ H4=>H4=H/\∃ v2,σ=[some (.ref p),some (.int (Qx (l.take i):Nat)),v2]) ⟨rfl,_,rfl⟩ (fun i σ H4 _ h=>by rw [h.1]; exact hS) ?_ ?_⟩
  ·rintro i y σ H4 hi ⟨rfl,v2,rfl⟩
   rw [List.getElem?_map] at hi
   obtain ⟨n,hn,rfl⟩:=Option.map_eq_some_iff.mp hi
   refine ⟨_,rfl,_,rfl,_,_,rfl,rfl,?_⟩
   refine ⟨rfl,some (.int (n:Int)),?_⟩
   dsimp only
   rw [Eu,List.take_add_one,hn]
   show _=[some (V.ref p),some (V.int ((Qx (l.take i++[n]):Nat):Int)),_]
   rw [K9]
   rfl
  ·rintro σ H4 ⟨rfl,v2,rfl⟩
   have el:l.take (nV l).length=l:=List.take_of_length_le (by simp)
   rw [el]
   exact ⟨_,rfl,q⟩
noncomputable def GQ (kbs:List Kb) (k:Nat):Nat:=match kbs[k]? with
 | some (.pl _ b)=>b
 | some (.cp b _ _)=>b
 | none=>0
theorem Ng {c:Nat->Str} {kbs:List Kb} {k:Nat} {r:R} (h:(Bu c kbs)[k]? = some r):∃ rs,r=⟨r.w,r.nm,.str (c (GQ kbs k))::rs⟩:=by
 obtain ⟨z,hz,rfl⟩:=DK h
 unfold GQ
 rw [hz]
 cases z with
 | cp i j s=>exact ⟨_,rfl⟩
 | pl w i=>exact ⟨_,rfl⟩
theorem Q_ {n:Nat} {kbs:List Kb} {k:Nat} {z:Kb} (h:RQ n kbs) (hz:kbs[k]? = some z):GQ kbs k<n:=by
 have ho:=h.ok z (List.mem_of_getElem? hz)
 unfold GQ
 rw [hz]
 cases z with
 | cp i j s=>exact ho.1
 | pl w i=>exact ho.1
noncomputable def Jb (kbs:List Kb) (D b:Nat):Prop:=∃ (k:Nat) (z:Kb),kbs[k]? = some z/\z.w = "mute" /\ D.testBit k=true/\GQ kbs k=b
noncomputable def WW (C:Addr):Sp:=fun vs H Q _=>∃ (x:Addr) (c:Nat->Str) (sz:List Nat) (kbs:List Kb) (D:Nat),vs=[.ref x,.int (D:Nat)]/\Cr C H x (BW c sz) (Bu c kbs)/\RQ sz.length kbs/\∀ L (ml:List Nat) H',H L=none->Al H H'->H' L=some (.lst (nV ml))->(∀ b,b∈ml ↔ Jb kbs D b)->ml.length<=200->Q (.ref L) H'
theorem bD:Ar ["organ","knobs"] ["organ","knobs"] (Ae Zc):=Bl
include N T in
theorem X3:Aw P w K mg base Bc 3 aD.fMu aD.dMu ["organ","knobs"] (WW C):=by
 have GDc:Aw P w K mg base Bc 2 aD.fDc aD.dDc ["organ","knobs","word"] (S5 C):=QW N T
 have GOm:Aw P w K mg base Bc 2 aD.fOm aD.dOm ["self","knob"] (Nj C):=Xy N T
 refine N.FMu.1.ok bD (fun vs H Q E h=>?_) (fun cdv A outer s H vs Q E hr h=>?_)
 ·obtain ⟨x,c,sz,kbs,D,rfl,_⟩:=h
  rfl
 ·obtain ⟨x,c,sz,kbs,D,rfl,O,hkb,q⟩:=h
  have hrDc:BL 2 _:=hr.mono (by decide)
  have hrOm:BL 2 _:=hr.mono (by decide)
  refine ⟨_,(Ag (A_ (Bg rfl (BP (osc:=Ae Zc) (N:=["organ","knobs"]) rfl rfl (by decide +kernel)) (Bb (Am GDc hrDc rfl N.FDc.2.2 N.FDc.1.kp N.FDc.2.1 .nil Ay (Aa (pv 0) (Aa (pv 1) (Aa BV Ab))))) (fun _ _ _ _=>CG) (fun _ _ _ _=>(Cv (pv 1) T.cl N.FOm.2.2 GOm hrOm N.FOm.2.1 .nil Ay (Aa (pv 0) Ab)))))),?_⟩
  refine ⟨_,rfl,_,rfl,x,BW c sz,Bu c kbs,"mute",D,rfl,O,fun CL cl H1 hCL s1 hl1 hcl hcll=>?_⟩
  have hS1:Ci K H1 CL (nV cl):=.inl (.inl hl1)
  have O1:=O.mono s1
  let g:V->V:=fun v=>match v with | .int k=>.int (GQ kbs k.toNat:Nat) | _=>.non
  refine ⟨CL,rfl,⟨_,hS1⟩,Bv (K:=K) (xs:=nV cl) (fun _=>true) g hS1 (Aq (by rw [List.length_map]; omega)) (fun y hy H' hs R k=>k H' (Al.refl H')) (fun y hy _ H' hs R k=>?_) (fun D2 H2 hD2 s2 hl2=>?_)⟩
  ·obtain ⟨i,hi,rfl⟩:=List.mem_map.mp hy
   obtain ⟨r,hr,hw,hd⟩:=(hcl i).mp hi
   obtain ⟨rs,er⟩:=Ng hr
   rw [er] at hr
   obtain ⟨z,hz,_⟩:=DK hr
   have hb:=Q_ hkb hz
   obtain ⟨⟨dx,fs,bl,bn,kp,kr,bvs,pvs,uvs,kvs,h1,l1,l2,l3,l4,lm,_⟩,_⟩:=id (O1.mono hs)
   have kk:=k H' (Al.refl H')
   refine ⟨_,rfl,x,dx,fs,rfl,h1,lm _ (by decide +kernel),_,rfl,x,BW c sz,Bu c kbs,i,GQ kbs i,(c (GQ kbs i),sz[GQ kbs i]),_,_,rs,rfl,O1.mono hs,hr,Do (List.getElem?_eq_getElem hb),kk⟩
  ·rw [List.filter_eq_self.mpr (fun _ _=>rfl)] at hl2
   have e:(nV cl).map g=nV (cl.map (GQ kbs)):=by
    unfold nV
    rw [List.map_map,List.map_map]
    rfl
   rw [e] at hl2
   refine q D2 _ H2 (s1.free hD2) (s1.trans s2) hl2 (fun b=>?_) (by rw [List.length_map]; exact hcll)
   rw [List.mem_map]
   constructor
   ·rintro ⟨k,hk,rfl⟩
    obtain ⟨r,hr,hw,hd⟩:=(hcl k).mp hk
    obtain ⟨z,hz,rfl⟩:=DK hr
    exact ⟨k,z,hz,(Gf _ _ _).symm.trans hw,hd,rfl⟩
   ·rintro ⟨k,z,hz,hw,hd,rfl⟩
    exact ⟨k,(hcl k).mpr ⟨_,DW hz,(Gf _ _ _).trans hw,hd⟩,rfl⟩
noncomputable def Rr (sz:List Nat) (i b:Nat):Prop:=∃ n,n<sz.getD b 0/\b<sz.length/\i=(sz.take b).sum+n
theorem Pn {c:Nat->Str} {sz:List Nat} {i a n:Nat} (h:(Dq (BW c sz))[i]? = some (a,n)):Rr sz i a:=by
 obtain ⟨b,hb,hn,hi⟩:=S7 h
 obtain ⟨z,hz,rfl⟩:=Oe hb
 rw [Bx] at hi
 refine ⟨n,?_,(List.getElem?_eq_some_iff.mp hz).1,hi⟩
 rw [List.getD_eq_getElem?_getD,hz]
 exact hn
theorem Qn {sz:List Nat} {i a b:Nat} (h1:Rr sz i a) (h2:Rr sz i b):a=b:=by
 obtain ⟨n,hn,ha,rfl⟩:=h1
 obtain ⟨m,hm,hb,e⟩:=h2
 have key:∀ {a b n m:Nat},a<b->b<sz.length->n<sz.getD a 0->(sz.take a).sum+n ≠ (sz.take b).sum+m:=fun {a b n m} hab hb hn e=>by
  have h1:(sz.take (a+1)).sum<=(sz.take b).sum:=KY sz (by omega)
  have ha:a<sz.length:=by omega
  rw [List.take_add_one,List.getElem?_eq_getElem ha,List.sum_append] at h1
  rw [List.getD_eq_getElem?_getD,List.getElem?_eq_getElem ha] at hn
  have hn':n<sz[a]:=hn
  simp at h1
  omega
 rcases Nat.lt_trichotomy a b with h | h | h
 ·exact absurd e (key h hb hn)
 ·exact h
 ·exact absurd e.symm (key h ha hm)
noncomputable def X4 (C:Addr):Sp:=fun vs H Q _=>∃ (x:Addr) (c:Nat->Str) (sz:List Nat) (kbs:List Kb) (D n:Nat),vs=[.ref x,.int (D:Nat),.int (n:Nat)]/\Cr C H x (BW c sz) (Bu c kbs)/\RQ sz.length kbs/\n<2 ^ 1200/\(∀ i,n.testBit i=true->i<sz.sum)/\sz.sum<=305 /\
 ∀ (m:Nat) H',Al H H'->(∀ j,m.testBit j=true ↔ n.testBit j=true/\∀ b,Rr sz j b->¬ Jb kbs D b)->Q (.int (m:Nat)) H'
theorem W8:Ar ["organ","knobs","keys","muted"] ["organ","knobs","keys"] (Ae Zu):=Bl
include N T in
theorem YQ:Aw P w K mg base Bc 4 aD.fUk aD.dUk ["organ","knobs","keys"] (X4 C):=by
 have GMu:Aw P w K mg base Bc 3 aD.fMu aD.dMu ["organ","knobs"] (WW C):=X3 N T
 have GMe:Aw P w K mg base Bc 2 aD.fMe aD.dMe ["some"] YS:=Wn N T
 have GOo:Aw P w K mg base Bc 1 aD.fOo aD.dOo ["self","key"] (Ux C):=Tt N T
 have GSt:Aw P w K mg base Bc 3 aD.fSt aD.dSt ["numbers"] Rh:=QH N T
 refine N.FUk.1.ok W8 (fun vs H Q E h=>?_) (fun cdv A outer s H vs Q E hr h=>?_)
 ·obtain ⟨x,c,sz,kbs,D,n,rfl,_⟩:=h
  rfl
 ·obtain ⟨x,c,sz,kbs,D,n,rfl,O,hkb,hn,hnt,h305,q⟩:=h
  have hrMu:BL 3 _:=hr.mono (by decide)
  have hrMe:BL 2 _:=hr.mono (by decide)
  have hrOo:BL 1 _:=hr.mono (by decide)
  have hrSt:BL 3 _:=hr.mono (by decide)
  refine ⟨_,(Af (BK (i:=3) W8.nd rfl (Or.inr rfl) (Am GMu hrMu rfl N.FMu.2.2 N.FMu.1.kp N.FMu.2.1 .nil Ay (Aa (pv 0) (Aa (pv 1) Ab))))
   (Ag (A_ (Am GSt hrSt rfl N.FSt.2.2 N.FSt.1.kp N.FSt.2.1 .nil Ay (Aa (Bg rfl (BP (osc:=Ae Zu) (N:=["organ","knobs","keys","muted"]) rfl rfl (by decide +kernel)) (Bb (Am GMe hrMe rfl N.FMe.2.2 N.FMe.1.kp N.FMe.2.1 .nil Ay (Aa (pv 2) Ab))) (fun _ _ _ _=>(Gi (Bd (JS (K:=K) rfl) (Ax (An (K:=K) rfl) (Cv (pv 1) T.cl N.FOo.2.2 GOo hrOo N.FOo.2.1 .nil Ay (Aa (pv 0) Ab)) Ac (fun _ _=>rfl)) (pv 4) rfl))) (fun _ _ _ _=>(pv 0))) Ab))))),?_⟩
  refine ⟨_,rfl,_,rfl,x,c,sz,kbs,D,rfl,O,hkb,fun ML ml H1 hML s1 hl1 hml hmll=>?_⟩
  refine ⟨_,rfl,n,rfl,hn,fun P1 H2 hP1 s2 hl2=>?_⟩
  have hS2:Ci K H2 P1 (nV (Wd.mem n)):=.inl (.inl hl2)
  have O2:=O.mono (s1.trans s2)
  have hlen:=Wd.Ls hn
  have hml1:(Wd.mem n).length<=305:=by
   have nd:(Wd.mem n).Nodup:=by unfold Wd.mem; exact List.Pairwise.filter _ List.nodup_range
   refine Nat.le_trans (HR sz.sum nd fun i hi=>hnt i (Wd.mem_iff.mp hi)) h305
  have place:∀ {i},i∈Wd.mem n->∃ a m,(Dq (BW c sz))[i]? = some (a,m):=fun {i} hi=>by
   have hlt:i<(Dq (BW c sz)).length:=by rw [Ef,Bx]; exact hnt i (Wd.mem_iff.mp hi)
   exact ⟨_,_,List.getElem?_eq_getElem hlt⟩
  let p:V->Bool:=fun v=>match v with | .int i=>(match (Dq (BW c sz))[i.toNat]? with | some (a,_)=>!decide (a∈ml) | none=>true) | _=>true
  refine ⟨P1,rfl,⟨_,hS2⟩,Bv (K:=K) (xs:=nV (Wd.mem n)) p id hS2 (Aq (by rw [List.length_map]; omega)) (fun y hy H' hs R k=>?_) (fun y hy _ H' hs R k=>⟨_,rfl,k H' (Al.refl H')⟩) (fun D3 H3 hD3 s3 hl3=>?_)⟩
  ·obtain ⟨i,hi,rfl⟩:=List.mem_map.mp hy
   obtain ⟨a,m,hpl⟩:=place hi
   have ep:p (V.int (i:Nat)) = !decide (a∈ml):=by
    show (match (Dq (BW c sz))[((i:Nat):Int).toNat]? with | some (a,_)=>!decide (a∈ml) | none=>true)=_
    rw [Int.toNat_natCast,hpl]
   have kk:=k H' (Al.refl H')
   rw [ep] at kk
   obtain ⟨⟨dx,fs,bl,bn,kp,kr,bvs,pvs,uvs,kvs,h1,l1,l2,l3,l4,lm,_⟩,_⟩:=id (O2.mono hs)
   refine ⟨_,rfl,x,dx,fs,rfl,h1,lm _ (by decide +kernel),_,rfl,x,BW c sz,Bu c kbs,i,(a,m),rfl,O2.mono hs,hpl,fun yv hyv=>?_⟩
   obtain ⟨T0,rfl,hT⟩:=hyv
   refine ⟨T0,_,_,_,rfl,rfl,.inl (.inl hT),Aj (j:=0) rfl,_,rfl,ML,_,rfl,.inl (.inl (.inl (hs _ _ (s2 _ _ hl1)))),rfl,QC ml,_,rfl,?_⟩
   have ein:inV (V.int (a:Nat)) (nV ml)=decide (a∈ml):=S9 a ml
   rw [ein]
   exact kk
  ·rw [List.map_id] at hl3
   have e3:(nV (Wd.mem n)).filter p=nV ((Wd.mem n).filter fun i=>p (.int (i:Nat))):=by
    unfold nV
    rw [List.filter_map]
    rfl
   rw [e3] at hl3
   have hsub:∀ i∈(Wd.mem n).filter (fun i=>p (.int (i:Nat))),i<sz.sum:=fun i hi=>hnt i (Wd.mem_iff.mp (List.mem_filter.mp hi).1)
   refine ⟨D3,_,rfl,hl3,Nat.le_trans (List.length_filter_le _ _) (by omega),fun i hi=>by have:=hsub i hi; omega,fun H4 s4=>?_⟩
   refine q _ H4 (s1.trans (s2.trans (s3.trans s4))) fun j=>?_
   rw [Wd.Kc,decide_eq_true_eq,List.mem_filter,Wd.mem_iff]
   constructor
   ·rintro ⟨h1,h2⟩
    refine ⟨h1,fun b hb hm=>?_⟩
    obtain ⟨a,m,hpl⟩:=place (Wd.mem_iff.mpr h1)
    have ep:p (V.int (j:Nat)) = !decide (a∈ml):=by
     show (match (Dq (BW c sz))[((j:Nat):Int).toNat]? with | some (a,_)=>!decide (a∈ml) | none=>true)=_
     rw [Int.toNat_natCast,hpl]
    rw [ep] at h2
    have hba:=Qn hb (Pn hpl)
    subst hba
    rw [decide_eq_true ((hml b).mpr hm)] at h2
    cases h2
   ·rintro ⟨h1,h2⟩
    refine ⟨h1,?_⟩
    obtain ⟨a,m,hpl⟩:=place (Wd.mem_iff.mpr h1)
    have ep:p (V.int (j:Nat)) = !decide (a∈ml):=by
     show (match (Dq (BW c sz))[((j:Nat):Int).toNat]? with | some (a,_)=>!decide (a∈ml) | none=>true)=_
     rw [Int.toNat_natCast,hpl]
    rw [ep,decide_eq_false fun z=>h2 a (Pn hpl) ((hml a).mp z)]
    rfl
noncomputable def Ri (sz:List Nat) (b n:Nat):Nat:=Wd.mv n (-((sz.take b).sum:Int)) (sz.getD b 0)
theorem QR (n:Nat) (k:Int) (c:Nat):Wd.mv n k c<2 ^ c:=by
 unfold Wd.mv
 exact Nat.mod_lt _ (Nat.two_pow_pos _)
noncomputable def Yk (C:Addr):Sp:=fun vs H Q _=>∃ (x:Addr) (c:Nat->Str) (sz:List Nat) (ks:List R) (b n:Nat),vs=[.ref x,.int (b:Nat),.int (n:Nat)]/\Cr C H x (BW c sz) ks/\b<sz.length/\n<2 ^ 1200/\∀ H',Al H H'->Q (.int (Ri sz b n:Nat)) H'
theorem WK:Ar ["organ","board","keys","told"] ["organ","board","keys"] (Ae dj):=Bl
include N T in
theorem XJ:Aw P w K mg base Bc 3 aD.fNb aD.dNb ["organ","board","keys"] (Yk C):=by
 have GOb:Aw P w K mg base Bc 1 aD.fOb aD.dOb ["self"] (Ud C):=Tp N T
 have GOk:Aw P w K mg base Bc 2 aD.fOk aD.dOk ["self","board","number"] (V2 C):=UJ N T
 have GSh:Aw P w K mg base Bc 1 aD.fSh aD.dSh ["some","steps","count"] Vi:=UW N T
 refine N.FNb.1.ok WK (fun vs H Q E h=>?_) (fun cdv A outer s H vs Q E hr h=>?_)
 ·obtain ⟨x,c,sz,ks,b,n,rfl,_⟩:=h
  rfl
 ·obtain ⟨x,c,sz,ks,b,n,rfl,O,hb,hn,q⟩:=h
  have hrOb:BL 1 _:=hr.mono (by decide)
  have hrOk:BL 2 _:=hr.mono (by decide)
  have hrSh:BL 1 _:=hr.mono (by decide)
  refine ⟨_,(Af (BK (i:=3) WK.nd rfl (Or.inl rfl) (Ax (Ft (K:=K) rfl) (Dy (pv 0) T.cl N.FOb.2.2 GOb hrOb N.FOb.2.1 .nil Ay) (pv 1) (fun _ _=>rfl)))
   (Ag (A_ (Am GSh hrSh rfl N.FSh.2.2 N.FSh.1.kp N.FSh.2.1 .nil Ay (Aa (pv 2) (Aa (M9 J6 (Cv (pv 0) T.cl N.FOk.2.2 GOk hrOk N.FOk.2.1 .nil Ay (Aa (Ax (An (K:=K) rfl) (pv 3) Ac (fun _ _=>rfl)) (Aa Ac Ab)))) (Aa (Ax (An (K:=K) rfl) (pv 3) Ac (fun _ _=>rfl)) Ab))))))),?_⟩
  have h305:=Jq O
  rw [Bx] at h305
  have hst:(sz.take b).sum<=sz.sum:=by
   have:=congrArg List.sum (List.take_append_drop b sz)
   rw [List.sum_append] at this
   omega
  have hbs:(BW c sz)[b]? = some (c b,sz[b]):=Do (List.getElem?_eq_getElem hb)
  have h61:=O.sz (c b,sz[b]) (List.mem_of_getElem? hbs)
  have h61':sz[b]<=61:=h61
  have esum:(((BW c sz).take b).map (·.2)).sum=(sz.take b).sum:=by rw [List.map_take,Bx]
  have egd:sz.getD b 0=sz[b]:=by rw [List.getD_eq_getElem?_getD,List.getElem?_eq_getElem hb]; rfl
  have meth:∀ {H':Hp},Cr C H' x (BW c sz) ks->∃ dx fs,H' x=some (.ins C dx fs)/\∀ m∈meths,fs.lookup m=none:=fun O'=>by
   obtain ⟨⟨dx,fs,_,_,_,_,_,_,_,_,h1,_,_,_,_,lm,_⟩,_⟩:=O'
   exact ⟨dx,fs,h1,lm⟩
  obtain ⟨dx,fs,hx,lm⟩:=meth O
  refine ⟨_,rfl,x,dx,fs,rfl,hx,lm _ (by decide +kernel),x,BW c sz,ks,rfl,O,fun D bvs H2 hD s2 hl2 hb2=>?_⟩
  obtain ⟨v3,hv3,T3,rfl,ht3⟩:=C_ hb2 hbs
  refine ⟨_,rfl,D,bvs,_,_,rfl,rfl,.inl (.inl hl2),Aj hv3,?_⟩
  obtain ⟨dx2,fs2,hx2,lm2⟩:=meth (O.mono s2)
  refine ⟨_,rfl,_,rfl,x,dx2,fs2,rfl,hx2,lm2 _ (by decide +kernel),_,rfl,T3,_,_,_,rfl,rfl,.inl (.inl ht3),Aj (j:=0) rfl,x,BW c sz,ks,b,(c b,sz[b]),0,rfl,O.mono s2,hbs,fun H3 s3=>?_⟩
  refine ⟨_,rfl,_,rfl,T3,_,_,_,rfl,rfl,.inl (.inl (s3 _ _ ht3)),Aj (j:=1) rfl,n,_,sz[b],rfl,hn,?_,?_,by omega,?_⟩
  ·rw [esum]
   omega
  ·rw [esum]
   omega
  ·have fin:=q H3 (s2.trans s3)
   unfold Ri at fin
   rw [egd] at fin
   rw [esum,Int.add_zero]
   exact fin
noncomputable def RN (rk:List (Str × Nat × Int)) (r:Nat):Nat:=((rk.take r).map (fun r=>r.2.1)).sum
noncomputable def JQ (rk:List (Str × Nat × Int)) (r:Nat):Nat:=(rk.map (fun r=>r.2.1)).getD r 0
noncomputable def V_ (rk:List (Str × Nat × Int)):Nat:=(rk.map (fun r=>r.2.1)).sum
structure ZM (rk:List (Str × Nat × Int)) (l:Ln):Prop where
 r:l.r<rk.length
 lo:0<=l.lo
 le:l.lo<=l.hi
 hi:l.hi<=60
 s1 : -200<=l.sh
 s2:l.sh<=200
noncomputable def K_ (rk:List (Str × Nat × Int)) (l:Ln) (n:Nat):Nat:=Wd.mv (Wd.mv (Wd.mv n (-l.lo) (l.hi - l.lo+1).toNat) (l.lo+l.sh) (JQ rk l.r)) (RN rk l.r:Nat) (V_ rk)
theorem Qj {rk:List (Str × Nat × Int)} {r:Nat} (h:r<rk.length):RN rk r+JQ rk r<=V_ rk:=by
 unfold RN JQ V_
 have e:((rk.map (fun r=>r.2.1)).take (r+1)).sum=((rk.take r).map (fun r=>r.2.1)).sum+(rk.map (fun r=>r.2.1)).getD r 0:=by
  rw [List.take_add_one,List.getElem?_eq_getElem (by rw [List.length_map]; exact h),List.sum_append,List.map_take,List.getD_eq_getElem?_getD,List.getElem?_eq_getElem (by rw [List.length_map]; exact h)]
  simp
 have:=congrArg List.sum (List.take_append_drop (r+1) (rk.map (fun r=>r.2.1)))
 rw [List.sum_append] at this
 omega
theorem Uv {rk:List (Str × Nat × Int)} (h1:rk.length<=12) (h2:∀ r∈rk,r.2.1<=97):V_ rk<=1164:=by
 have h:=J4 (rk.map VD) 97 fun b hb=>by
  obtain ⟨r,hr,rfl⟩:=List.mem_map.mp hb
  exact h2 r hr
 rw [Ef,List.map_map,List.length_map] at h
 have:rk.length * 97<=12 * 97:=Nat.mul_le_mul_right _ h1
 have e:V_ rk=(rk.map ((·.2) ∘ VD)).sum:=rfl
 omega
noncomputable def Xd (C:Addr):Sp:=fun vs H Q _=>∃ (x:Addr) (bs:List (Str × Nat)) (rk:List (Str × Nat × Int)) (ks:List R) (ls:List (List Ln)) (y:V) (l:Ln) (n:Nat),vs=[.ref x,y,.int (n:Nat)]/\Cw C H x bs rk ks ls/\TupAt H (Xm l) y/\ZM rk l/\n<2 ^ 1200/\∀ H',Al H H'->Q (.int (K_ rk l n:Nat)) H'
theorem SM:Ar ["organ","line","numbers","rank","from_low","on_rank"] ["organ","line","numbers"] (Ae d8):=Bl
include N T in
theorem WN:Aw P w K mg base Bc 3 aD.fLl aD.dLl ["organ","line","numbers"] (Xd C):=by
 have GOr:Aw P w K mg base Bc 1 aD.fOr aD.dOr ["self"] (Wo C):=Yo N T
 have GSh:Aw P w K mg base Bc 1 aD.fSh aD.dSh ["some","steps","count"] Vi:=UW N T
 have GOe:Aw P w K mg base Bc 2 aD.fOe aD.dOe ["self","rank","number"] (ZC C):=ZZ N T
 have GOq:Aw P w K mg base Bc 1 aD.fOq aD.dOq ["self"] (XS C):=Wa N T
 refine N.FLl.1.ok SM (fun vs H Q E h=>?_) (fun cdv A outer s H vs Q E hr h=>?_)
 ·obtain ⟨x,bs,rk,ks,ls,y,l,n,rfl,_⟩:=h
  rfl
 ·obtain ⟨x,bs,rk,ks,ls,y,l,n,rfl,O,hy,hg,hn,q⟩:=h
  have hrOr:BL 1 _:=hr.mono (by decide)
  have hrSh:BL 1 _:=hr.mono (by decide)
  have hrOe:BL 2 _:=hr.mono (by decide)
  have hrOq:BL 1 _:=hr.mono (by decide)
  refine ⟨_,(Af (BK (i:=3) SM.nd rfl (Or.inl rfl) (Ax (Ft (K:=K) rfl) (Dy (pv 0) T.cl N.FOr.2.2 GOr hrOr N.FOr.2.1 .nil Ay) (Ax (An (K:=K) rfl) (pv 1) Ac (fun _ _=>rfl)) (fun _ _=>rfl)))
   (Af (BK (i:=4) SM.nd rfl (Or.inl rfl) (Am GSh hrSh rfl N.FSh.2.2 N.FSh.1.kp N.FSh.2.1 .nil Ay (Aa (pv 2) (Aa (M9 J6 (Ax (An (K:=K) rfl) (pv 1) Ac (fun _ _=>rfl))) (Aa (BJ CW (BJ Ge (Ax (An (K:=K) rfl) (pv 1) Ac (fun _ _=>rfl)) (Ax (An (K:=K) rfl) (pv 1) Ac (fun _ _=>rfl))) Ac) Ab)))))
   (Af (BK (i:=5) SM.nd rfl (Or.inl rfl) (Am GSh hrSh rfl N.FSh.2.2 N.FSh.1.kp N.FSh.2.1 .nil Ay (Aa (pv 4) (Aa (BJ CW (Ax (An (K:=K) rfl) (pv 1) Ac (fun _ _=>rfl)) (Ax (An (K:=K) rfl) (pv 1) Ac (fun _ _=>rfl))) (Aa (Ax (An (K:=K) rfl) (pv 3) Ac (fun _ _=>rfl)) Ab)))))
   (Ag (A_ (Am GSh hrSh rfl N.FSh.2.2 N.FSh.1.kp N.FSh.2.1 .nil Ay (Aa (pv 5) (Aa (Cv (pv 0) T.cl N.FOe.2.2 GOe hrOe N.FOe.2.1 .nil Ay (Aa (Ax (An (K:=K) rfl) (pv 3) Ac (fun _ _=>rfl)) (Aa Ac Ab))) (Aa (Dy (pv 0) T.cl N.FOq.2.2 GOq hrOq N.FOq.2.1 .nil Ay) Ab))))))))),?_⟩
  obtain ⟨T0,rfl,hT⟩:=hy
  have hto:=Uv O.nr O.nz
  have hlr:l.r<rk.length:=hg.r
  have hst:=Qj hlr
  have hrk:=List.getElem?_eq_getElem hlr
  have h97:rk[l.r].2.1<=97:=O.nz _ (List.getElem_mem hg.r)
  have esz:JQ rk l.r=rk[l.r].2.1:=by
   unfold JQ
   rw [List.getD_eq_getElem?_getD,List.getElem?_map,hrk]
   rfl
  have etot:(Dq (rk.map VD)).length=V_ rk:=by
   rw [Ef,List.map_map]
   rfl
  have h1:=hg.lo
  have h2:=hg.le
  have h3:=hg.hi
  have h4:=hg.s1
  have h5:=hg.s2
  have meth:∀ {H':Hp},Cw C H' x bs rk ks ls->∃ dx fs,H' x=some (.ins C dx fs)/\∀ m∈meths,fs.lookup m=none:=fun O'=>by
   obtain ⟨⟨dx,fs,_,_,_,_,_,_,_,_,h1,_,_,_,_,lm,_⟩,_⟩:=O'.o
   exact ⟨dx,fs,h1,lm⟩
  obtain ⟨dx,fs,hx,lm⟩:=meth O
  refine ⟨_,rfl,x,dx,fs,rfl,hx,lm _ (by decide +kernel),x,bs,rk,ks,ls,rfl,O,fun D rvs H2 hD s2 hl2 hb2=>?_⟩
  have hT2:=s2 _ _ hT
  have hrk3:(rk.map Qh)[l.r]? = some (Qh rk[l.r]):=by rw [List.getElem?_map,hrk]; rfl
  obtain ⟨v3,hv3,T3,rfl,ht3⟩:=C_ hb2 hrk3
  refine ⟨_,rfl,T0,_,_,_,rfl,rfl,.inl (.inl hT2),Aj (j:=0) rfl,D,rvs,_,_,rfl,rfl,.inl (.inl hl2),Aj hv3,?_⟩
  have e1:l.hi - l.lo+1=(((l.hi - l.lo+1).toNat:Nat):Int):=by omega
  refine ⟨_,rfl,_,rfl,T0,_,_,_,rfl,rfl,.inl (.inl hT2),Aj (j:=2) rfl,_,rfl,_,rfl,T0,_,_,_,rfl,rfl,.inl (.inl hT2),Aj (j:=3) rfl,_,rfl,T0,_,_,_,rfl,rfl,.inl (.inl hT2),Aj (j:=2) rfl,_,_,rfl,rfl,_,_,rfl,rfl,n,-l.lo,(l.hi - l.lo+1).toNat,(by rw [← e1] <;> rfl),hn,by omega,by omega,by omega,?_⟩
  have n1:=QR n (-l.lo) (l.hi - l.lo+1).toNat
  generalize hn1:Wd.mv n (-l.lo) (l.hi - l.lo+1).toNat=a1 at n1 ⊢
  have n1':a1<2 ^ 1200:=Nat.lt_of_lt_of_le n1 (Nat.pow_le_pow_right (by decide) (by omega))
  refine ⟨_,rfl,_,rfl,T0,_,_,_,rfl,rfl,.inl (.inl hT2),Aj (j:=2) rfl,_,rfl,T0,_,_,_,rfl,rfl,.inl (.inl hT2),Aj (j:=1) rfl,_,_,rfl,rfl,_,rfl,T3,_,_,_,rfl,rfl,.inl (.inl ht3),Aj (j:=1) rfl,a1,l.lo+l.sh,rk[l.r].2.1,rfl,n1',by omega,by omega,by omega,?_⟩
  have n2:=QR a1 (l.lo+l.sh) rk[l.r].2.1
  generalize hn2:Wd.mv a1 (l.lo+l.sh) rk[l.r].2.1=a2 at n2 ⊢
  have n2':a2<2 ^ 1200:=Nat.lt_of_lt_of_le n2 (Nat.pow_le_pow_right (by decide) (by omega))
  obtain ⟨dx2,fs2,hx2,lm2⟩:=meth (O.mono s2)
  refine ⟨_,rfl,_,rfl,x,dx2,fs2,rfl,hx2,lm2 _ (by decide +kernel),_,rfl,T3,_,_,_,rfl,rfl,.inl (.inl ht3),Aj (j:=0) rfl,x,bs,rk,ks,ls,l.r,rk[l.r],0,rfl,O.mono s2,hrk,fun H3 s3=>?_⟩
  obtain ⟨dx3,fs3,hx3,lm3⟩:=meth ((O.mono s2).mono s3)
  refine ⟨_,rfl,x,dx3,fs3,rfl,hx3,lm3 _ (by decide +kernel),x,bs,rk,ks,ls,rfl,(O.mono s2).mono s3,a2,_,(Dq (rk.map VD)).length,rfl,n2',?_,?_,?_,?_⟩
  ·omega
  ·have:((rk.take l.r).map (fun r=>r.2.1)).sum=RN rk l.r:=rfl
   omega
  ·omega
  ·have fin:=q H3 (s2.trans s3)
   unfold K_ at fin
   rw [hn1,esz,hn2] at fin
   rw [etot,Int.add_zero]
   exact fin
noncomputable def Zq (H:Hp):V->Ln
 | .ref T=>match H T with
  | some (.tup [.int r,.int sh,.int lo,.int hi])=>⟨r.toNat,sh,lo,hi⟩
  | _=>⟨0,0,0,0⟩
 | _=>⟨0,0,0,0⟩
theorem Qt {H:Hp} {l:Ln} {v:V} (h:TupAt H (Xm l) v):Zq H v=l:=by
 obtain ⟨T,rfl,e⟩:=h
 show (match H T with | some (.tup [.int r,.int sh,.int lo,.int hi])=>(⟨r.toNat,sh,lo,hi⟩:Ln) | _=>⟨0,0,0,0⟩)=l
 rw [e]
 show (⟨((l.r:Nat):Int).toNat,l.sh,l.lo,l.hi⟩:Ln)=l
 rw [Int.toNat_natCast]
theorem R7 {H:Hp} {l:List Ln} {vs:List V} (h:Paired (fun x y=>TupAt H (Xm x) y) l vs):vs.map (Zq H)=l:=by
 induction h with
 | nil=>rfl
 | cons x y ih=>rw [List.map_cons,ih,Qt x]
noncomputable def Tf (sz:List Nat) (rk:List (Str × Nat × Int)) (b:Nat) (l:List Ln) (n:Nat):Nat:=Qx (l.map fun ln=>K_ rk ln (Ri sz b n))
noncomputable def Ye (C:Addr):Sp:=fun vs H Q _=>∃ (x:Addr) (c:Nat->Str) (sz:List Nat) (rk:List (Str × Nat × Int)) (kbs:List Kb) (ls:List (List Ln)) (k n:Nat) (z:Kb) (l:List Ln),vs=[.ref x,.int (k:Nat),.int (n:Nat)]/\Cw C H x (BW c sz) rk (Bu c kbs) ls/\RQ sz.length kbs/\kbs[k]? = some z/\ls[k]? = some l/\l.length<=100/\(∀ ln∈l,ZM rk ln)/\n<2 ^ 1200/\∀ H',Al H H'->Q (.int (Tf sz rk (GQ kbs k) l n:Nat)) H'
theorem VJ:Ar ["organ","knob","keys","stop","numbers"] ["organ","knob","keys"] (Ae Zk):=Bl
include N T in
theorem Xx:Aw P w K mg base Bc 4 aD.fBs aD.dBs ["organ","knob","keys"] (Ye C):=by
 have GOs:Aw P w K mg base Bc 2 aD.fOs aD.dOs ["self","knob"] (Ys C):=XR N T
 have GNb:Aw P w K mg base Bc 3 aD.fNb aD.dNb ["organ","board","keys"] (Yk C):=XJ N T
 have GLl:Aw P w K mg base Bc 3 aD.fLl aD.dLl ["organ","line","numbers"] (Xd C):=WN N T
 have GUn:Aw P w K mg base Bc 1 aD.fUn aD.dUn ["sets"] Ve:=Td N T
 refine N.FBs.1.ok VJ (fun vs H Q E h=>?_) (fun cdv A outer s H vs Q E hr h=>?_)
 ·obtain ⟨x,c,sz,rk,kbs,ls,k,n,z,l,rfl,_⟩:=h
  rfl
 ·obtain ⟨x,c,sz,rk,kbs,ls,k,n,z,l,rfl,O,hkb,hz,hl,hl100,hg,hn,q⟩:=h
  have hrOs:BL 2 _:=hr.mono (by decide)
  have hrNb:BL 3 _:=hr.mono (by decide)
  have hrLl:BL 3 _:=hr.mono (by decide)
  have hrUn:BL 1 _:=hr.mono (by decide)
  refine ⟨_,(Af (BK (i:=3) VJ.nd rfl (Or.inl rfl) (Cv (pv 0) T.cl N.FOs.2.2 GOs hrOs N.FOs.2.1 .nil Ay (Aa (pv 1) Ab)))
   (Af (BK (i:=4) VJ.nd rfl (Or.inr rfl) (Am GNb hrNb rfl N.FNb.2.2 N.FNb.1.kp N.FNb.2.1 .nil Ay (Aa (pv 0) (Aa (Ax (An (K:=K) rfl) (pv 3) Ac (fun _ _=>rfl)) (Aa (pv 2) Ab)))))
   (Ag (A_ (Am GUn hrUn rfl N.FUn.2.2 N.FUn.1.kp N.FUn.2.1 .nil Ay (Aa (Bg rfl (BP (osc:=Ae Zk) (N:=["organ","knob","keys","stop","numbers"]) rfl rfl (by decide +kernel)) (Bb (Ax (An (K:=K) rfl) (pv 3) Ac (fun _ _=>rfl))) (fun _ _ _ _=>CG) (fun _ _ _ _=>(Am GLl hrLl rfl N.FLl.2.2 N.FLl.1.kp N.FLl.2.1 .nil Ay (Aa (pv 1) (Aa (pv 0) (Aa (pv 5) Ab)))))) Ab)))))),?_⟩
  have hr:=DW (c:=c) hz
  obtain ⟨rs,er⟩:=Ng hr
  rw [er] at hr
  have hb:=Q_ hkb hz
  have hbs:(BW c sz)[GQ kbs k]? = some (c (GQ kbs k),sz[GQ kbs k]):=Do (List.getElem?_eq_getElem hb)
  have meth:∀ {H':Hp},Cw C H' x (BW c sz) rk (Bu c kbs) ls->∃ dx fs,H' x=some (.ins C dx fs)/\∀ m∈meths,fs.lookup m=none:=fun O'=>by
   obtain ⟨⟨dx,fs,_,_,_,_,_,_,_,_,h1,_,_,_,_,lm,_⟩,_⟩:=O'.o
   exact ⟨dx,fs,h1,lm⟩
  obtain ⟨dx,fs,hx,lm⟩:=meth O
  refine ⟨_,rfl,x,dx,fs,rfl,hx,lm _ (by decide +kernel),_,rfl,x,BW c sz,rk,Bu c kbs,ls,k,GQ kbs k,(c (GQ kbs k),sz[GQ kbs k]),_,_,rs,l,rfl,O,hr,hbs,hl,fun T0 L0 ts H1 _ s1 hT0 hL0 htp=>?_⟩
  have O1:=O.mono s1
  refine ⟨_,rfl,_,rfl,T0,_,_,_,rfl,rfl,.inl (.inl hT0),Aj (j:=0) rfl,_,rfl,x,c,sz,Bu c kbs,GQ kbs k,n,rfl,O1.o,hb,hn,fun H2 s2=>?_⟩
  have O2:=O1.mono s2
  have nlt:=QR n (-((sz.take (GQ kbs k)).sum:Int)) (sz.getD (GQ kbs k) 0)
  have h61:sz.getD (GQ kbs k) 0<=61:=by
   rw [List.getD_eq_getElem?_getD,List.getElem?_eq_getElem hb]
   exact O.o.sz _ (List.mem_of_getElem? hbs)
  have nlt':Ri sz (GQ kbs k) n<2 ^ 1200:=Nat.lt_of_lt_of_le nlt (Nat.pow_le_pow_right (by decide) (by omega))
  have hL2:=s2 _ _ hL0
  have htp2:=Ai s2 htp
  have hlt:=htp2.length
  have hS2:Ci K H2 L0 ts:=.inl (.inl hL2)
  refine ⟨_,rfl,T0,_,_,_,rfl,rfl,.inl (.inl (s2 _ _ hT0)),Aj (j:=1) rfl,L0,rfl,⟨_,hS2⟩,Bv (K:=K) (xs:=ts) (fun _=>true) (fun v=>.int (K_ rk (Zq H2 v) (Ri sz (GQ kbs k) n):Nat)) hS2 (Aq (by omega)) (fun y hy H' hs R k=>k H' (Al.refl H')) (fun y hy _ H' hs R k'=>?_) (fun D3 H3 hD3 s3 hl3=>?_)⟩
  ·obtain ⟨ln,hln,hyt⟩:=Cg htp2 hy
   have e:=Qt hyt
   rw [e] at k'
   exact ⟨_,rfl,_,rfl,_,rfl,x,BW c sz,rk,Bu c kbs,ls,y,ln,_,rfl,O2.mono hs,hyt.mono hs,hg ln hln,nlt',fun H4 s4=>k' H4 s4⟩
  ·rw [List.filter_eq_self.mpr (fun _ _=>rfl)] at hl3
   have e3:(ts.map fun v=>V.int (K_ rk (Zq H2 v) (Ri sz (GQ kbs k) n):Nat))=nV (l.map fun ln=>K_ rk ln (Ri sz (GQ kbs k) n)):=by
    rw [← R7 htp2]
    unfold nV
    rw [List.map_map,List.map_map]
    rfl
   rw [e3] at hl3
   exact ⟨D3,_,rfl,hl3,(by rw [List.length_map]; omega),q H3 (s1.trans (s2.trans s3))⟩
noncomputable def Xg (sz:List Nat) (rk:List (Str × Nat × Int)) (kbs:List Kb) (ls:List (List Ln)) (cl:List Nat) (n:Nat):Nat:=Qx (cl.map fun k=>Tf sz rk (GQ kbs k) (ls.getD k []) n)
noncomputable abbrev Z1 (rk:List (Str × Nat × Int)) (ls:List (List Ln)):Prop:=∀ l∈ls,l.length<=100/\∀ ln∈l,ZM rk ln
noncomputable def WQ (C:Addr):Sp:=fun vs H Q _=>∃ (x:Addr) (c:Nat->Str) (sz:List Nat) (rk:List (Str × Nat × Int)) (kbs:List Kb) (ls:List (List Ln)) (D n:Nat),vs=[.ref x,.int (D:Nat),.int (n:Nat)]/\Cw C H x (BW c sz) rk (Bu c kbs) ls/\RQ sz.length kbs/\Z1 rk ls/\n<2 ^ 1200 /\
 ∀ (cl:List Nat) H',Al H H'->(∀ k,k∈cl ↔ ∃ z,kbs[k]? = some z/\z.w = "stop" /\ D.testBit k=true)->Q (.int (Xg sz rk kbs ls cl n:Nat)) H'
theorem aa:Ar ["organ","knobs","keys"] ["organ","knobs","keys"] (Ae Zh):=Bl
include N T in
theorem ZQ:Aw P w K mg base Bc 5 aD.fBa aD.dBa ["organ","knobs","keys"] (WQ C):=by
 have GDc:Aw P w K mg base Bc 2 aD.fDc aD.dDc ["organ","knobs","word"] (S5 C):=QW N T
 have GBs:Aw P w K mg base Bc 4 aD.fBs aD.dBs ["organ","knob","keys"] (Ye C):=Xx N T
 have GUn:Aw P w K mg base Bc 1 aD.fUn aD.dUn ["sets"] Ve:=Td N T
 refine N.FBa.1.ok aa (fun vs H Q E h=>?_) (fun cdv A outer s H vs Q E hr h=>?_)
 ·obtain ⟨x,c,sz,rk,kbs,ls,D,n,rfl,_⟩:=h
  rfl
 ·obtain ⟨x,c,sz,rk,kbs,ls,D,n,rfl,O,hkb,hls,hn,q⟩:=h
  have hrDc:BL 2 _:=hr.mono (by decide)
  have hrBs:BL 4 _:=hr.mono (by decide)
  have hrUn:BL 1 _:=hr.mono (by decide)
  refine ⟨_,(Ag (A_ (Am GUn hrUn rfl N.FUn.2.2 N.FUn.1.kp N.FUn.2.1 .nil Ay (Aa (Bg rfl (BP (osc:=Ae Zh) (N:=["organ","knobs","keys"]) rfl rfl (by decide +kernel)) (Bb (Am GDc hrDc rfl N.FDc.2.2 N.FDc.1.kp N.FDc.2.1 .nil Ay (Aa (pv 0) (Aa (pv 1) (Aa BV Ab))))) (fun _ _ _ _=>CG) (fun _ _ _ _=>(Am GBs hrBs rfl N.FBs.2.2 N.FBs.1.kp N.FBs.2.1 .nil Ay (Aa (pv 1) (Aa (pv 0) (Aa (pv 3) Ab)))))) Ab)))),?_⟩
  refine ⟨_,rfl,_,rfl,x,BW c sz,Bu c kbs,"stop",D,rfl,O.o,fun CL cl H1 hCL s1 hl1 hcl0 hcll=>?_⟩
  have hcl:∀ k,k∈cl ↔ ∃ z,kbs[k]? = some z/\z.w = "stop" /\ D.testBit k=true:=fun k=>by
   rw [hcl0]
   constructor
   ·rintro ⟨r,hr,hw,hd⟩
    obtain ⟨z,hz,rfl⟩:=DK hr
    exact ⟨z,hz,(Gf _ _ _).symm.trans hw,hd⟩
   ·rintro ⟨z,hz,hw,hd⟩
    exact ⟨_,DW hz,(Gf _ _ _).trans hw,hd⟩
  have hS1:Ci K H1 CL (nV cl):=.inl (.inl hl1)
  have O1:=O.mono s1
  let g:V->V:=fun v=>match v with | .int k=>.int (Tf sz rk (GQ kbs k.toNat) (ls.getD k.toNat []) n:Nat) | _=>.non
  refine ⟨CL,rfl,⟨_,hS1⟩,Bv (K:=K) (xs:=nV cl) (fun _=>true) g hS1 (Aq (by rw [List.length_map]; omega)) (fun y hy H' hs R k=>k H' (Al.refl H')) (fun y hy _ H' hs R k=>?_) (fun D2 H2 hD2 s2 hl2=>?_)⟩
  ·obtain ⟨i,hi,rfl⟩:=List.mem_map.mp hy
   obtain ⟨z,hz,hw,hd⟩:=(hcl i).mp hi
   have hik:i<ls.length:=by
    rw [O.nl,Fj]
    exact (List.getElem?_eq_some_iff.mp hz).1
   have hli:=List.getElem?_eq_getElem hik
   have egd:ls.getD i []=ls[i]:=by rw [List.getD_eq_getElem?_getD,hli]; rfl
   have hg:=hls ls[i] (List.getElem_mem hik)
   refine ⟨_,rfl,_,rfl,_,rfl,x,c,sz,rk,kbs,ls,i,n,z,ls[i],rfl,O1.mono hs,hkb,hz,hli,hg.1,hg.2,hn,fun H4 s4=>?_⟩
   have kk:R (.int (Tf sz rk (GQ kbs i) (ls.getD i []) n:Nat)) H4:=k H4 s4
   rw [egd] at kk
   exact kk
  ·rw [List.filter_eq_self.mpr (fun _ _=>rfl)] at hl2
   have e:(nV cl).map g=nV (cl.map fun k=>Tf sz rk (GQ kbs k) (ls.getD k []) n):=by
    unfold nV
    rw [List.map_map,List.map_map]
    rfl
   rw [e] at hl2
   exact ⟨D2,_,rfl,hl2,(by rw [List.length_map]; omega),q cl H2 (s1.trans s2) hcl⟩
theorem PN (sz:List Nat) (b n i:Nat):(Ri sz b n).testBit i=true ↔ i<sz.getD b 0/\n.testBit ((sz.take b).sum+i)=true:=by
 unfold Ri
 rw [Wd.KJ]
 have e:((i:Int) - -(((sz.take b).sum:Nat):Int)).toNat=(sz.take b).sum+i:=by omega
 rw [e,Bool.and_eq_true,Bool.and_eq_true,decide_eq_true_eq,decide_eq_true_eq]
 exact ⟨fun h=>⟨h.1,h.2.2⟩,fun h=>⟨h.1,by omega,h.2⟩⟩
theorem Ms {rk:List (Str × Nat × Int)} {l:Ln} (g:ZM rk l) (n p:Nat):(K_ rk l n).testBit p=true ↔ ∃ i:Nat,n.testBit i=true/\l.lo<=(i:Int)/\(i:Int)<=l.hi/\0<=(i:Int)+l.sh/\(i:Int)+l.sh<(JQ rk l.r:Nat)/\(p:Int)=(RN rk l.r:Nat)+((i:Int)+l.sh):=by
 have h1:=g.lo
 have h2:=g.le
 have h3:=Qj g.r
 unfold K_
 rw [Wd.KJ,Wd.KJ,Wd.KJ]
 simp only [Bool.and_eq_true,decide_eq_true_eq]
 constructor
 ·rintro ⟨a1,a2,b1,b2,c1,c2,hn⟩
  exact ⟨_,hn,by omega,by omega,by omega,by omega,by omega⟩
 ·rintro ⟨i,hn,a1,a2,a3,a4,e⟩
  have ei:(((((((p:Int) - ((RN rk l.r:Nat):Int)).toNat:Nat):Int) - (l.lo+l.sh)).toNat:Nat):Int) - -l.lo=(i:Int):=by omega
  refine ⟨by omega,by omega,by omega,by omega,by omega,by omega,?_⟩
  rw [ei,Int.toNat_natCast]
  exact hn
theorem Qc {sz:List Nat} {rk:List (Str × Nat × Int)} {b:Nat} {l:List Ln} {n p:Nat} (g:∀ ln∈l,ZM rk ln):(Tf sz rk b l n).testBit p=true ↔ ∃ ln∈l,∃ i:Nat,i<sz.getD b 0/\n.testBit ((sz.take b).sum+i)=true/\ln.lo<=(i:Int)/\(i:Int)<=ln.hi/\0<=(i:Int)+ln.sh/\(i:Int)+ln.sh<(JQ rk ln.r:Nat)/\(p:Int)=(RN rk ln.r:Nat)+((i:Int)+ln.sh):=by
 unfold Tf
 rw [Ml]
 constructor
 ·rintro ⟨m,hm,hb⟩
  obtain ⟨ln,hl,rfl⟩:=List.mem_map.mp hm
  obtain ⟨i,hi,r⟩:=(Ms (g ln hl) _ _).mp hb
  obtain ⟨x,y⟩:=(PN _ _ _ _).mp hi
  exact ⟨ln,hl,i,x,y,r⟩
 ·rintro ⟨ln,hl,i,x,y,r⟩
  exact ⟨_,List.mem_map_of_mem hl,(Ms (g ln hl) _ _).mpr ⟨i,(PN _ _ _ _).mpr ⟨x,y⟩,r⟩⟩
theorem Vg {sz:List Nat} {rk:List (Str × Nat × Int)} {kbs:List Kb} {ls:List (List Ln)} {cl:List Nat} {n p:Nat}:(Xg sz rk kbs ls cl n).testBit p=true ↔ ∃ k∈cl,(Tf sz rk (GQ kbs k) (ls.getD k []) n).testBit p=true:=by
 unfold Xg
 rw [Ml]
 constructor
 ·rintro ⟨m,hm,hb⟩
  obtain ⟨k,hk,rfl⟩:=List.mem_map.mp hm
  exact ⟨k,hk,hb⟩
 ·rintro ⟨k,hk,hb⟩
  exact ⟨_,List.mem_map_of_mem hk,hb⟩
noncomputable def oN:Option Nat->V
 | some j=>.int (j:Nat)
 | none=>.non
noncomputable def gk (c:Nat->Str) (sz:List Nat) (kbs:List Kb) (i k:Nat):Option Nat:=(kbs[k]?).bind fun z=>gl (BW c sz) z i
noncomputable def Y5:V->Bool
 | .non=>false
 | _=>true
theorem Jf (g:Nat->Option Nat):∀ cl:List Nat,(cl.map fun k=>oN (g k)).filter Y5=nV (cl.filterMap g)
 | []=>rfl
 | k::cl=>by
  have ih:=Jf g cl
  rw [List.map_cons,List.filter_cons,List.filterMap_cons]
  cases e:g k with
  | none=>exact ih
  | some j =>
   show V.int (j:Nat)::_=nV (j::_)
   rw [ih]
   rfl
noncomputable def Y_ (C:Addr):Sp:=fun vs H Q _=>∃ (x p:Addr) (c:Nat->Str) (sz:List Nat) (kbs:List Kb) (cl:List Nat) (i:Nat),vs=[.ref x,.ref p,.int (i:Nat)]/\Cr C H x (BW c sz) (Bu c kbs)/\RQ sz.length kbs/\H p=some (.lst (nV cl))/\(∀ k∈cl,∃ z,kbs[k]? = some z/\Q3 z=true)/\cl.length<=200/\i<sz.sum/\sz.sum<=305 /\
 ∀ H',Al H H'->Q (.int (Wd.mk (cl.filterMap (gk c sz kbs i)):Nat)) H'
theorem Wj {c:Nat->Str} {sz:List Nat} {kbs:List Kb} {i:Nat} {cl:List Nat}:∀ j∈cl.filterMap (gk c sz kbs i),j<sz.sum:=fun j hj=>by
 obtain ⟨k0,_,e⟩:=List.mem_filterMap.mp hj
 unfold gk at e
 obtain ⟨z,_,e⟩:=Option.bind_eq_some_iff.mp e
 have:=Jk e
 rw [Bx] at this
 exact this
theorem WP:Ar ["organ","couplers","key","led"] ["organ","couplers","key"] (Ae YM):=Bl
include N T in
theorem Xf:Aw P w K mg base Bc 4 aD.fLp aD.dLp ["organ","couplers","key"] (Y_ C):=by
 have GLe:Aw P w K mg base Bc 3 aD.fLe aD.dLe ["organ","knob","key"] (X5 C):=YH N T
 have GSt:Aw P w K mg base Bc 3 aD.fSt aD.dSt ["numbers"] Rh:=QH N T
 refine N.FLp.1.ok WP (fun vs H Q E h=>?_) (fun cdv A outer s H vs Q E hr h=>?_)
 ·obtain ⟨x,p,c,sz,kbs,cl,i,rfl,_⟩:=h
  rfl
 ·obtain ⟨x,p,c,sz,kbs,cl,i,rfl,O,hkb,hp,hcl,hcll,hi,h305,q⟩:=h
  have hrLe:BL 3 _:=hr.mono (by decide)
  have hrSt:BL 3 _:=hr.mono (by decide)
  refine ⟨_,(Af (NK (i:=3) WP.nd rfl rfl rfl (BP (osc:=Ae YM) (N:=["organ","couplers","key","led"]) rfl rfl (by decide +kernel)) (Bb (pv 1)) (fun _ _ _ _=>CG) (fun _ _ _ _=>(Am GLe hrLe rfl N.FLe.2.2 N.FLe.1.kp N.FLe.2.1 .nil Ay (Aa (pv 1) (Aa (pv 0) (Aa (pv 3) Ab))))))
   (Ag (A_ (Am GSt hrSt rfl N.FSt.2.2 N.FSt.1.kp N.FSt.2.1 .nil Ay (Aa (Bg rfl (BP (osc:=Ae YM) (N:=["organ","couplers","key","led"]) rfl rfl (by decide +kernel)) (Bb (pv 3)) (fun _ _ _ _=>(Gi (Bd R_ (pv 0) MP (Bm _)))) (fun _ _ _ _=>(pv 0))) Ab))))),?_⟩
  have hS:Ci K H p (nV cl):=.inl (.inl hp)
  obtain ⟨qd,hq⟩:∃ qd,(Dq (BW c sz))[i]? = some qd:=by
   have hlt:i<(Dq (BW c sz)).length:=by rw [Ef,Bx]; exact hi
   exact ⟨_,List.getElem?_eq_getElem hlt⟩
  let f:V->V:=fun v=>match v with | .int k=>oN (gk c sz kbs i k.toNat) | _=>.non
  refine ⟨_,rfl,p,rfl,⟨_,hS⟩,Bv (K:=K) (xs:=nV cl) (fun _=>true) f hS (Aq (by rw [List.length_map]; omega)) (fun y hy H' hs R k=>k H' (Al.refl H')) (fun y hy _ H' hs R k=>?_) (fun D3 H3 hD3 s3 hl3=>?_)⟩
  ·obtain ⟨k0,hk0,rfl⟩:=List.mem_map.mp hy
   obtain ⟨z,hz,hc⟩:=hcl k0 hk0
   obtain ⟨j1,j2,s,rfl⟩:=Rv (hkb.ok z (List.mem_of_getElem? hz)) hc
   obtain ⟨o1,o2,_⟩:=hkb.ok _ (List.mem_of_getElem? hz)
   obtain ⟨z1,hz1⟩:∃ z1,sz[j1]? = some z1:=⟨_,List.getElem?_eq_getElem o1⟩
   obtain ⟨z2,hz2⟩:∃ z2,sz[j2]? = some z2:=⟨_,List.getElem?_eq_getElem o2⟩
   have ef:f (V.int (k0:Nat))=oN (gl (BW c sz) (.cp j1 j2 s) i):=by
    show oN (gk c sz kbs i ((k0:Nat):Int).toNat)=_
    unfold gk
    rw [Int.toNat_natCast,hz]
    rfl
   refine ⟨_,rfl,_,rfl,_,rfl,x,BW c sz,Bu c kbs,k0,i,j1,j2,(c j1,z1),(c j2,z2),qd,_,s,rfl,O.mono hs,hq,DW hz,Do hz1,Do hz2,fun H4 s4=>?_⟩
   have kk:=k H4 s4
   rw [ef] at kk
   rcases QT (j1:=j1) (s:=s) hq (Do (c:=c) hz2) with ⟨e1,e2⟩ | ⟨j,e1,e2,_⟩
   ·rw [e2] at kk
    rw [e1]
    exact kk
   ·rw [e2] at kk
    rw [e1]
    exact kk
  have hl3':H3 D3=some (.lst (cl.map fun k=>oN (gk c sz kbs i k))):=by
   rw [hl3,List.filter_eq_self.mpr (fun _ _=>rfl)]
   unfold nV
   rw [List.map_map]
   rfl
  have hS3:Ci K H3 D3 (cl.map fun k=>oN (gk c sz kbs i k)):=.inl (.inl hl3')
  refine ⟨_,rfl,D3,rfl,⟨_,hS3⟩,Bv (K:=K) (xs:=cl.map fun k=>oN (gk c sz kbs i k)) Y5 id hS3 (Aq (by rw [List.length_map]; omega)) (fun y hy H' hs R k=>?_) (fun y hy _ H' hs R k=>⟨_,rfl,k H' (Al.refl H')⟩) (fun D4 H4 hD4 s4 hl4=>?_)⟩
  ·obtain ⟨k0,hk0,rfl⟩:=List.mem_map.mp hy
   have kk:=k H' (Al.refl H')
   cases e:gk c sz kbs i k0 with
   | none =>
    rw [e] at kk
    exact ⟨_,rfl,rfl,_,rfl,kk⟩
   | some j =>
    rw [e] at kk
    exact ⟨_,rfl,rfl,_,rfl,kk⟩
  rw [List.map_id,Jf] at hl4
  exact ⟨D4,cl.filterMap (gk c sz kbs i),rfl,hl4,Nat.le_trans (List.length_filterMap_le _ _) (by omega),fun j hj=>by have:=Wj j hj; omega,fun H5 s5=>q H5 (s3.trans (s4.trans s5))⟩
theorem QZ {l:List Nat} {i:Nat} (h:i<l.length):PJ (nV l) (i:Int)=some (.int ((l.getD i 0:Nat):Int)):=by
 refine Aj (j:=i) ?_
 unfold nV
 rw [List.getElem?_map,List.getD_eq_getElem?_getD,List.getElem?_eq_getElem h]
 rfl
theorem Uy (l:List Nat) (m x:Nat):(nV l).set m (.int (x:Nat))=nV (l.set m x):=by
 unfold nV
 rw [List.map_set]
theorem N6 {l:List Nat} {m x:Nat} (h:m<l.length) (i:Nat):(l.set m x).getD i 0=if i=m then x else l.getD i 0:=by
 rw [List.getD_eq_getElem?_getD,List.getD_eq_getElem?_getD,List.getElem?_set]
 by_cases e:i=m
 ·subst e
  rw [if_pos rfl,if_pos rfl,if_pos h]
  rfl
 ·rw [if_neg (Ne.symm e),if_neg e]
noncomputable abbrev st0 (l0:List Nat) (a b:Nat):Prop:=(l0.getD a 0).testBit b=true
noncomputable def Xe:Sp:=fun vs H Q _=>∃ (p:Addr) (l0:List Nat),vs=[.ref p]/\H p=some (.lst (nV l0))/\l0.length<=305/\∀ D (l:List Nat) H',H D=none->Al H H'->H' D=some (.lst (nV l))->l.length=l0.length->(∀ i,i<l0.length->∀ j,(l.getD i 0).testBit j=true ↔ Ww (st0 l0) l0.length i j)->Q (.ref D) H'
theorem Sx:Ar ["one_step","led","way","key"] ["one_step"] (Ae dw):=Bl
include N T in
theorem W2:Aw P w K mg base Bc 2 aD.fLq aD.dLq ["one_step"] Xe:=by
 have GHa:Aw P w K mg base Bc 1 aD.fHa aD.dHa ["some","number"] Rx:=QM N T
 refine N.FLq.1.ok Sx (fun vs H Q E h=>?_) (fun cdv A outer s H vs Q E hr h=>?_)
 ·obtain ⟨p,l0,rfl,_⟩:=h
  rfl
 ·obtain ⟨p,l0,rfl,hp,h305,q⟩:=h
  have hrHa:BL 1 _:=hr.mono (by decide)
  refine ⟨_,(Af (BK (i:=1) Sx.nd rfl (Or.inl rfl) (Dv DR rfl T.list PyProof.Rows.boot_list (Aa (pv 0) Ab)))
   (Af (B_ PassesOwn.never rfl (CK rfl T.range (Aa (BR Bj rfl T.len PySem.boot_len (Aa (pv 0) Ab)) Ab)) (BX (i:=2) Sx.nd rfl (Or.inl rfl)) (Ag (B_ PassesOwn.never rfl (CK rfl T.range (Aa (BR Bj rfl T.len PySem.boot_len (Aa (pv 0) Ab)) Ab)) (BX (i:=3) Sx.nd rfl (Or.inl rfl)) (Ag (Ck (Ej (Am GHa hrHa rfl N.FHa.2.2 N.FHa.1.kp N.FHa.2.1 .nil Ay (Aa (Ax DY (pv 1) (pv 3) (fun _ _=>rfl)) (Aa (pv 2) Ab)))) (Ag (TQ (pv 1) (pv 3) (BJ Hn (Ax DY (pv 1) (pv 3) (fun _ _=>rfl)) (Ax DY (pv 1) (pv 2) (fun _ _=>rfl))) rfl)) Bk)))))
   (Ag (A_ (pv 1))))),?_⟩
  have hS:Ci K H p (nV l0):=.inl (.inl hp)
  refine ⟨_,rfl,p,_,rfl,.inl hS,fun D hD=>?_⟩
  obtain ⟨H1,eqH,s1,a1⟩:=Jr (o:=HO.lst (nV l0)) hD
  rw [eqH]
  have hn:(nV l0).length=l0.length:=by unfold nV; exact List.length_map ..
  have hnt:(((nV l0).length:Nat):Int).toNat=l0.length:=by rw [Int.toNat_natCast,hn]
  refine ⟨_,rfl,p,_,rfl,.inl (s1.seq hS),_,rfl,by omega,by omega,?_⟩
  rw [hnt]
  refine DN (lo:=0) (n:=l0.length) (fun w σ H4=>∃ (l:List Nat) (v2 v3:Option V),σ=[some (.ref p),some (.ref D),v2,v3]/\H4 D=some (.lst (nV l))/\l.length=l0.length/\Al H H4/\∀ i,i<l0.length->∀ j,(l.getD i 0).testBit j=true ↔ Ww (st0 l0) w i j) ⟨l0,_,_,rfl,a1,rfl,s1,fun i hi j=>Iff.rfl⟩ ?_ ?_
  ·rintro w σ H4 hw ⟨l,v2,v3,rfl,a4,ln,s4,inv⟩
   have et:((0:Int)+(w:Int))=((w:Nat):Int):=by omega
   rw [et]
   refine ⟨_,rfl,p,_,rfl,.inl (s4.seq hS),_,rfl,by omega,by omega,?_⟩
   rw [hnt]
   refine DN (lo:=0) (n:=l0.length) (fun m σ H5=>∃ (l:List Nat) (v3:Option V),σ=[some (.ref p),some (.ref D),some (.int (w:Nat)),v3]/\H5 D=some (.lst (nV l))/\l.length=l0.length/\Al H H5/\∀ i,i<l0.length->∀ j,(l.getD i 0).testBit j=true ↔ (if i<m then Ww (st0 l0) (w+1) i j else Ww (st0 l0) w i j)) ⟨l,_,rfl,a4,ln,s4,fun i hi j=>by rw [if_neg (Nat.not_lt_zero _)]; exact inv i hi j⟩ ?_ ?_
   ·rintro m σ H5 hm ⟨l,v3,rfl,a5,ln,s5,inv⟩
    have et:((0:Int)+(m:Int))=((m:Nat):Int):=by omega
    rw [et]
    have lv:(nV l).length=l0.length:=by unfold nV; rw [List.length_map]; exact ln
    have hatm:=QZ (l:=l) (i:=m) (by omega)
    have hatw:=QZ (l:=l) (i:=w) (by omega)
    refine ⟨_,rfl,_,rfl,D,_,_,_,rfl,rfl,.inl (.inl a5),hatm,_,rfl,l.getD m 0,(w:Nat),rfl,_,rfl,?_⟩
    have eb:(decide ((0:Int)<=((w:Nat):Int)) && (l.getD m 0).testBit ((w:Nat):Int).toNat)=(l.getD m 0).testBit w:=by
     rw [decide_eq_true (by omega),Bool.true_and,Int.toNat_natCast]
    rw [eb]
    have bm:∀ j,(l.getD m 0).testBit j=true ↔ Ww (st0 l0) w m j:=fun j=>by
     have:=inv m hm j
     rw [if_neg (Nat.lt_irrefl _)] at this
     exact this
    have bw:∀ j,(l.getD w 0).testBit j=true ↔ Ww (st0 l0) w w j:=fun j=>by
     have:=inv w hw j
     by_cases e:w<m
     ·rw [if_pos e] at this
      exact this.trans Ww.to
     ·rw [if_neg e] at this
      exact this
    refine DP (fun hb=>?_) (fun hb=>?_)
    ·have hmw:=(bm w).mp hb
     refine ⟨_,rfl,_,rfl,D,_,_,_,rfl,rfl,.inl (.inl a5),hatm,_,rfl,_,rfl,D,_,_,_,rfl,rfl,.inl (.inl a5),hatw,_,_,rfl,rfl,_,rfl,_,rfl,D,nV l,(m:Nat),rfl,rfl,a5,by omega,by omega,by omega,?_⟩
     dsimp only
     rw [Eu,Int.toNat_natCast,Uy]
     refine ⟨_,_,rfl,Ah,by rw [List.length_set]; exact ln,fun b u e=>by rw [Av (Ao e hD)]; exact s5 b u e,fun i hi j=>?_⟩
     rw [N6 (by omega)]
     by_cases e:i=m
     ·subst e
      rw [if_pos rfl,if_pos (Nat.lt_succ_self _),Nat.testBit_or,Bool.or_eq_true,bm,bw]
      exact ⟨fun z=>z.elim .inl fun z=>.inr ⟨hmw,z⟩,fun z=>z.elim .inl fun z=>.inr z.2⟩
     ·rw [if_neg e,inv i hi j]
      by_cases e2:i<m
      ·rw [if_pos e2,if_pos (by omega)]
      ·rw [if_neg e2,if_neg (by omega)]
    ·refine ⟨l,_,rfl,a5,ln,s5,fun i hi j=>?_⟩
     rw [inv i hi j]
     by_cases e:i=m
     ·subst e
      rw [if_neg (Nat.lt_irrefl _),if_pos (Nat.lt_succ_self _)]
      exact ⟨.inl,fun z=>z.elim id fun z=>absurd ((bm w).mpr z.1) hb⟩
     ·by_cases e2:i<m
      ·rw [if_pos e2,if_pos (by omega)]
      ·rw [if_neg e2,if_neg (by omega)]
   ·rintro σ H5 ⟨l,v3,rfl,a5,ln,s5,inv⟩
    exact ⟨l,_,_,rfl,a5,ln,s5,fun i hi j=>by rw [inv i hi j,if_pos hi]⟩
  ·rintro σ H4 ⟨l,v2,v3,rfl,a4,ln,s4,inv⟩
   exact ⟨_,rfl,q D l H4 hD s4 a4 ln inv⟩
theorem Uw {bs:List (Str × Nat)} {z:Kb} {i j:Nat} (h:gl bs z i=some j):i<(Dq bs).length:=by
 refine Classical.byContradiction fun hn=>?_
 have e:(Dq bs)[i]? = none:=List.getElem?_eq_none (by omega)
 cases z with
 | cp a b s =>
  simp only [gl,e] at h
  cases h
 | pl w a=>cases h
noncomputable def os0 (c:Nat->Str) (sz:List Nat) (kbs:List Kb) (cl:List Nat):List Nat:=(List.range sz.sum).map fun i=>Wd.mk (cl.filterMap (gk c sz kbs i))
theorem G5 {c:Nat->Str} {sz:List Nat} {kbs:List Kb} {cl:List Nat}:(os0 c sz kbs cl).length=sz.sum:=by
 unfold os0
 rw [List.length_map,List.length_range]
theorem Sg {c:Nat->Str} {sz:List Nat} {kbs:List Kb} {cl:List Nat} {D:Nat} (hcl:∀ k,k∈cl ↔ ∃ z,kbs[k]? = some z/\Q3 z=true/\D.testBit k=true) (a b:Nat):st0 (os0 c sz kbs cl) a b ↔ stp (BW c sz) kbs D a b:=by
 have eg:a<sz.sum->(os0 c sz kbs cl).getD a 0=Wd.mk (cl.filterMap (gk c sz kbs a)):=fun h=>by
  unfold os0
  rw [List.getD_eq_getElem?_getD,List.getElem?_map,List.getElem?_range h]
  rfl
 constructor
 ·intro h
  by_cases ha:a<sz.sum
  ·unfold st0 at h
   rw [eg ha,Wd.Kc,decide_eq_true_eq] at h
   obtain ⟨k,hk,e⟩:=List.mem_filterMap.mp h
   unfold gk at e
   obtain ⟨z,hz,e⟩:=Option.bind_eq_some_iff.mp e
   obtain ⟨_,_,_,hd⟩:=(hcl k).mp hk
   exact ⟨k,z,hd,hz,e⟩
  ·unfold st0 at h
   rw [List.getD_eq_getElem?_getD,List.getElem?_eq_none (by rw [G5]; omega)] at h
   simp at h
 ·rintro ⟨k,z,hd,hz,e⟩
  have ha:a<sz.sum:=by
   have:=Uw e
   rw [Ef,Bx] at this
   exact this
  unfold st0
  rw [eg ha,Wd.Kc,decide_eq_true_eq]
  refine List.mem_filterMap.mpr ⟨k,(hcl k).mpr ⟨z,hz,Yz e,hd⟩,?_⟩
  unfold gk
  rw [hz]
  exact e
noncomputable def Wl (C:Addr):Sp:=fun vs H Q _=>∃ (x:Addr) (c:Nat->Str) (sz:List Nat) (kbs:List Kb) (D:Nat),vs=[.ref x,.int (D:Nat)]/\Cr C H x (BW c sz) (Bu c kbs)/\RQ sz.length kbs /\
 ∀ DL (l:List Nat) H',H DL=none->Al H H'->H' DL=some (.lst (nV l))->l.length=sz.sum->(∀ i,i<sz.sum->∀ j,(l.getD i 0).testBit j=true ↔ Ke (stp (BW c sz) kbs D) (fun a=>a=i) j)->Q (.ref DL) H'
theorem Wf:Ar ["organ","knobs","couplers"] ["organ","knobs"] (Ae Z3):=Bl
include N T in
theorem XC:Aw P w K mg base Bc 5 aD.fCb aD.dCb ["organ","knobs"] (Wl C):=by
 have GDc:Aw P w K mg base Bc 2 aD.fDc aD.dDc ["organ","knobs","word"] (S5 C):=QW N T
 have GOc:Aw P w K mg base Bc 1 aD.fOc aD.dOc ["self"] (Ul C):=Ua N T
 have GLp:Aw P w K mg base Bc 4 aD.fLp aD.dLp ["organ","couplers","key"] (Y_ C):=Xf N T
 have GLq:Aw P w K mg base Bc 2 aD.fLq aD.dLq ["one_step"] Xe:=W2 N T
 refine N.FCb.1.ok Wf (fun vs H Q E h=>?_) (fun cdv A outer s H vs Q E hr h=>?_)
 ·obtain ⟨x,c,sz,kbs,D,rfl,_⟩:=h
  rfl
 ·obtain ⟨x,c,sz,kbs,D,rfl,O,hkb,q⟩:=h
  have hrDc:BL 2 _:=hr.mono (by decide)
  have hrOc:BL 1 _:=hr.mono (by decide)
  have hrLp:BL 4 _:=hr.mono (by decide)
  have hrLq:BL 2 _:=hr.mono (by decide)
  refine ⟨_,(Af (BK (i:=2) Wf.nd rfl (Or.inr rfl) (Am GDc hrDc rfl N.FDc.2.2 N.FDc.1.kp N.FDc.2.1 .nil Ay (Aa (pv 0) (Aa (pv 1) (Aa BV Ab)))))
   (Ag (A_ (Am GLq hrLq rfl N.FLq.2.2 N.FLq.1.kp N.FLq.2.1 .nil Ay (Aa (Bg rfl (BP (osc:=Ae Z3) (N:=["organ","knobs","couplers"]) rfl rfl (by decide +kernel)) (CK rfl T.range (Aa (Dy (pv 0) T.cl N.FOc.2.2 GOc hrOc N.FOc.2.1 .nil Ay) Ab)) (fun _ _ _ _=>CG) (fun _ _ _ _=>(Am GLp hrLp rfl N.FLp.2.2 N.FLp.1.kp N.FLp.2.1 .nil Ay (Aa (pv 1) (Aa (pv 3) (Aa (pv 0) Ab)))))) Ab))))),?_⟩
  have h305:sz.sum<=305:=by
   have:=Jq O
   rw [Bx] at this
   exact this
  refine ⟨_,rfl,_,rfl,x,BW c sz,Bu c kbs,"coupler",D,rfl,O,fun CL cl H1 hCL s1 hl1 hcl0 hcll=>?_⟩
  have hcl:∀ k,k∈cl ↔ ∃ z,kbs[k]? = some z/\Q3 z=true/\D.testBit k=true:=fun k=>by
   rw [hcl0]
   constructor
   ·rintro ⟨r,hr,hw,hd⟩
    obtain ⟨z,hz,rfl⟩:=DK hr
    rw [Gf] at hw
    exact ⟨z,hz,decide_eq_true (congrArg V.str hw),hd⟩
   ·rintro ⟨z,hz,hc,hd⟩
    exact ⟨_,DW hz,(Gf _ _ _).trans (V.str.inj (of_decide_eq_true hc)),hd⟩
  have O1:=O.mono s1
  obtain ⟨⟨dx,fs,bl,bn,kp,kr,bvs,pvs,uvs,kvs,h1,l1,l2,l3,l4,lm,_⟩,_⟩:=id O1
  have epl:(((Dq (BW c sz)).length:Nat):Int).toNat=sz.sum:=by rw [Int.toNat_natCast,Ef,Bx]
  refine ⟨_,rfl,x,dx,fs,rfl,h1,lm _ (by decide +kernel),x,_,_,rfl,O1,_,rfl,by omega,by omega,?_⟩
  rw [epl]
  refine Il (lo:=0) (n:=sz.sum) (fun _=>true) (fun key=>.int (Wd.mk (cl.filterMap (gk c sz kbs key.toNat)):Nat)) (Aq (by omega)) (fun i hi H' hs R k=>k H' (Al.refl H')) (fun i hi _ H' hs R k=>?_) (fun D3 H3 hD3 s3 hl3=>?_)
  ·have et:((0:Int)+(i:Int))=((i:Nat):Int):=by omega
   rw [et] at k ⊢
   refine ⟨_,rfl,_,rfl,_,rfl,x,CL,c,sz,kbs,cl,i,rfl,O1.mono hs,hkb,hs _ _ hl1,fun k0 hk0=>?_,hcll,hi,h305,fun H4 s4=>?_⟩
   ·obtain ⟨z,hz,hc,_⟩:=(hcl k0).mp hk0
    exact ⟨z,hz,hc⟩
   ·have kk:=k H4 s4
    rw [Int.toNat_natCast] at kk
    exact kk
  have hl3':H3 D3=some (.lst (nV (os0 c sz kbs cl))):=by
   rw [hl3,List.filter_eq_self.mpr (fun _ _=>rfl)]
   unfold nV os0
   rw [List.map_map,List.map_map]
   congr 2
   refine List.map_congr_left fun i _=>?_
   show V.int ((Wd.mk (cl.filterMap (gk c sz kbs ((0:Int)+(i:Int)).toNat)):Nat):Int)=V.int ((Wd.mk (cl.filterMap (gk c sz kbs i)):Nat):Int)
   rw [show ((0:Int)+(i:Int))=((i:Nat):Int) by omega,Int.toNat_natCast]
  refine ⟨D3,os0 c sz kbs cl,rfl,hl3',by rw [G5]; exact h305,fun DL l H4 hDL s4 hl4 ln inv=>?_⟩
  refine q DL l H4 ((s1.trans s3).free hDL) (s1.trans (s3.trans s4)) hl4 (ln.trans G5) fun i hi j=>?_
  rw [inv i (by rw [G5]; exact hi) j]
  have es:st0 (os0 c sz kbs cl)=stp (BW c sz) kbs D:=funext fun a=>funext fun b=>propext (Sg hcl a b)
  rw [es]
  refine Ww.bh fun a b hs=>?_
  obtain ⟨k,z,_,_,e⟩:=hs
  have:=Jk e
  rw [Bx] at this
  rw [G5]
  exact this
noncomputable def LR (c:Nat->Str) (sz:List Nat) (rk:List (Str × Nat × Int)) (kbs:List Kb) (ls:List (List Ln)) (D i r:Nat):Prop:=∃ (cl:List Nat) (n:Nat),r=Xg sz rk kbs ls cl n/\(∀ k,k∈cl ↔ ∃ z,kbs[k]? = some z/\z.w = "stop" /\ D.testBit k=true) /\
 ∀ j,n.testBit j=true ↔ Ke (stp (BW c sz) kbs D) (fun a=>a=i) j \/ (j=i/\∀ b,Rr sz j b->¬ Jb kbs D b)
noncomputable def Dh (rw:List Nat):List (Key × V):=rw.zipIdx.map fun p=>(kI p.2,V.int ((p.1:Nat):Int))
theorem Lg (rw:List Nat):(Dh rw).length=rw.length:=by
 unfold Dh
 rw [List.length_map,List.length_zipIdx]
theorem Ho (rw:List Nat) (r:Nat):Dh (rw++[r])=Dh rw++[(kI rw.length,V.int ((r:Nat):Int))]:=by
 unfold Dh
 rw [List.zipIdx_append,List.map_append,Nat.zero_add]
 rfl
theorem getD_snoc (rw:List Nat) (r:Nat):(rw++[r]).getD rw.length 0=r:=by
 rw [List.getD_eq_getElem?_getD,List.getElem?_append_right (Nat.le_refl _),Nat.sub_self]
 rfl
theorem Ib {rw:List Nat} {r i:Nat} (h:i<rw.length):(rw++[r]).getD i 0=rw.getD i 0:=by
 rw [List.getD_eq_getElem?_getD,List.getD_eq_getElem?_getD,List.getElem?_append_left h]
theorem O3:∀ (n:Nat) (rw:List Nat),rw.length=n->∀ (i:Nat),CZ (Dh rw) (kI i)=if i<rw.length then some (V.int ((rw.getD i 0:Nat):Int)) else none:=fun n=>by
 induction n with
 | zero=>intro rw h i; rw [List.length_eq_zero_iff.mp h]; rfl
 | succ n ih0 =>
  intro rw h i
  obtain ⟨rw,r,rfl⟩:∃ r' x,rw=r'++[x]:=by
   rcases List.eq_nil_or_concat rw with e | ⟨a,b,e⟩
   ·rw [e] at h; cases h
   ·exact ⟨a,b,by rw [e,List.concat_eq_append]⟩
  have ih:=ih0 rw (by rw [List.length_append] at h; exact Nat.succ.inj h)
  have hnew:CZ (Dh rw) (kI rw.length)=none:=by rw [ih,if_neg (Nat.lt_irrefl _)]
  rw [Ho,← JD _ hnew,K4,ih,List.length_append,List.length_singleton]
  by_cases e:i=rw.length
  ·subst e
   rw [if_pos rfl,if_pos (Nat.lt_succ_self _),getD_snoc]
  ·have ne:¬ (kI i=kI rw.length):=fun z=>e (Int.ofNat_inj.mp (Sum.inl.inj z))
   rw [if_neg ne]
   by_cases h:i<rw.length
   ·rw [if_pos h,if_pos (by omega),Ib h]
   ·rw [if_neg h,if_neg (by omega)]
theorem Ie (rw:List Nat) (i:Nat):CZ (Dh rw) (kI i)=if i<rw.length then some (V.int ((rw.getD i 0:Nat):Int)) else none:=O3 _ rw rfl i
theorem Ih {n m:Nat} (hm:m<=305) (h:∀ j,n.testBit j=true->j<m):n<2 ^ 1200:=by
 refine Nat.lt_pow_two_of_testBit n fun i hi=>?_
 cases e:n.testBit i with
 | false=>rfl
 | true=>have:=h i e; omega
noncomputable def Wz (C:Addr):Sp:=fun vs H Q _=>∃ (x:Addr) (c:Nat->Str) (sz:List Nat) (rk:List (Str × Nat × Int)) (kbs:List Kb) (ls:List (List Ln)) (D:Nat),vs=[.ref x,.int (D:Nat)]/\Cw C H x (BW c sz) rk (Bu c kbs) ls/\RQ sz.length kbs/\Z1 rk ls /\
 ∀ dd (rw:List Nat) H',H dd=none->Al H H'->H' dd=some (.dK (Dh rw))->rw.length=sz.sum->(∀ i,i<sz.sum->LR c sz rk kbs ls D i (rw.getD i 0))->Q (.ref dd) H'
theorem Qv:Ar ["organ","knobs","rows","key","coupled","speaking"] ["organ","knobs"] (Ae cI):=Bl
include N T in
theorem Yn:Aw P w K mg base Bc 6 aD.fCr aD.dCr ["organ","knobs"] (Wz C):=by
 have GCb:Aw P w K mg base Bc 5 aD.fCb aD.dCb ["organ","knobs"] (Wl C):=XC N T
 have GUk:Aw P w K mg base Bc 4 aD.fUk aD.dUk ["organ","knobs","keys"] (X4 C):=YQ N T
 have GSt:Aw P w K mg base Bc 3 aD.fSt aD.dSt ["numbers"] Rh:=QH N T
 have GBa:Aw P w K mg base Bc 5 aD.fBa aD.dBa ["organ","knobs","keys"] (WQ C):=ZQ N T
 refine N.FCr.1.ok Qv (fun vs H Q E h=>?_) (fun cdv A outer s H vs Q E hr h=>?_)
 ·obtain ⟨x,c,sz,rk,kbs,ls,D,rfl,_⟩:=h
  rfl
 ·obtain ⟨x,c,sz,rk,kbs,ls,D,rfl,O,hkb,hls,q⟩:=h
  have hrCb:BL 5 _:=hr.mono (by decide)
  have hrUk:BL 4 _:=hr.mono (by decide)
  have hrSt:BL 3 _:=hr.mono (by decide)
  have hrBa:BL 5 _:=hr.mono (by decide)
  have hu:=Ga hr
  refine ⟨_,(Af (BK (i:=2) Qv.nd rfl (Or.inl rfl) Kw)
   (Af (B_ PassesOwn.never rfl (GK rfl T.enumerate (Aa (Am GCb hrCb rfl N.FCb.2.2 N.FCb.1.kp N.FCb.2.1 .nil Ay (Aa (pv 0) (Aa (pv 1) Ab))) Ab)) (Ew rfl (Bh (BX (i:=3) Qv.nd rfl (Or.inl rfl)) (Bh (BX (i:=4) Qv.nd rfl (Or.inl rfl)) Ds))) (Af (BK (i:=5) Qv.nd rfl (Or.inl rfl) (BJ Hn (pv 4) (Am GUk hrUk rfl N.FUk.2.2 N.FUk.1.kp N.FUk.2.1 .nil Ay (Aa (pv 0) (Aa (pv 1) (Aa (Am GSt hrSt rfl N.FSt.2.2 N.FSt.1.kp N.FSt.2.1 .nil Ay (Aa (EY (Aa (pv 3) Ab)) Ab)) Ab))))))
   (Ag (Ka hu (pv 2) (pv 3) (Am GBa hrBa rfl N.FBa.2.2 N.FBa.1.kp N.FBa.2.1 .nil Ay (Aa (pv 0) (Aa (pv 1) (Aa (pv 5) Ab)))) rfl))))
   (Ag (A_ (pv 2))))),?_⟩
  have h305:sz.sum<=305:=by
   have:=Jq O.o
   rw [Bx] at this
   exact this
  intro dd hdd
  obtain ⟨H0,eqH,s0,a0⟩:=Jr (o:=HO.dK []) hdd
  rw [eqH]
  refine ⟨_,rfl,_,rfl,x,c,sz,kbs,D,rfl,(O.mono s0).o,hkb,fun DL l H1 hDL s1 hl1 ln inv=>?_⟩
  have nd:dd ≠ DL:=Ao a0 hDL
  have lv:(nV l).length=sz.sum:=by unfold nV; rw [List.length_map]; exact ln
  refine ⟨DL,rfl,⟨_,.inl (.inl hl1)⟩,Fx (K:=K) (a:=DL) (xs:=nV l) (fun i σ H4=>Al H H4/\H4 DL=some (.lst (nV l))/\∃ (rw:List Nat) (v3 v4 v5:Option V),σ=[some (.ref x),some (.int (D:Nat)),some (.ref dd),v3,v4,v5]/\H4 dd=some (.dK (Dh rw))/\rw.length=i/\∀ k,k<i->LR c sz rk kbs ls D k (rw.getD k 0)) ⟨s0.trans s1,hl1,[],_,_,_,rfl,s1 _ _ a0,rfl,fun k hk=>absurd hk (Nat.not_lt_zero _)⟩ (fun i σ H4 _ h=>.inl (.inl h.2.1)) ?_ ?_⟩
  ·rintro i y σ H4 T0 hy ⟨s4,b4,rw,v3,v4,v5,rfl,d4,lr,hr4⟩ hT
   have hil:i<sz.sum:=by
    have:=(List.getElem?_eq_some_iff.mp hy).1
    omega
   obtain rfl:V.int ((l.getD i 0:Nat):Int)=y:=by
    unfold nV at hy
    rw [List.getElem?_map,List.getElem?_eq_getElem (by omega)] at hy
    rw [List.getD_eq_getElem?_getD,List.getElem?_eq_getElem (by omega)]
    exact Option.some.inj hy
   have s5:=Az (o:=HO.tup [.int (i:Int),V.int ((l.getD i 0:Nat):Int)]) hT
   refine ⟨T0,_,rfl,.inl (.inl Ah),rfl,_,_,rfl,_,_,rfl,rfl,?_⟩
   generalize upd H4 T0 (HO.tup [.int (i:Int),V.int ((l.getD i 0:Nat):Int)])=H5 at s5 ⊢
   refine ⟨_,rfl,_,rfl,_,rfl,_,rfl,by show 1<=sizeLine; decide,fun pp hpp=>?_⟩
   have s6:=Az (o:=HO.lst [V.int (i:Int)]) hpp
   have a6:upd H5 pp (HO.lst [V.int (i:Int)]) pp=some (.lst (nV [i])):=Ah
   generalize upd H5 pp (HO.lst [V.int (i:Int)])=H6 at s6 a6 ⊢
   have b1:∀ j,(Wd.mk [i]).testBit j=true ↔ j=i:=fun j=>by rw [Wd.Kc,decide_eq_true_eq,List.mem_singleton]
   refine ⟨pp,[i],rfl,a6,by show 1<=500; decide,fun n hn=>by rw [List.mem_singleton.mp hn]; omega,fun H7 s7=>?_⟩
   have s07:=s4.trans (s5.trans (s6.trans s7))
   refine ⟨x,c,sz,kbs,D,Wd.mk [i],rfl,(O.mono s07).o,hkb,Ih h305 fun j hj=>by rw [(b1 j).mp hj]; exact hil,fun j hj=>by rw [(b1 j).mp hj]; exact hil,h305,fun m H8 s8 hm=>⟨_,_,rfl,rfl,?_⟩⟩
   dsimp only
   rw [Eu]
   have bn:∀ j,(l.getD i 0 ||| m).testBit j=true ↔ Ke (stp (BW c sz) kbs D) (fun a=>a=i) j \/ (j=i/\∀ b,Rr sz j b->¬ Jb kbs D b):=fun j=>by
    rw [Nat.testBit_or,Bool.or_eq_true,inv i hil,hm,b1]
   have bl:∀ j,(l.getD i 0 ||| m).testBit j=true->j<sz.sum:=fun j hj=>by
    rcases (bn j).mp hj with z | z
    ·have:j<((BW c sz).map (·.2)).sum:=by
      cases z with
      | one _ b=>obtain ⟨_,_,_,_,e⟩:=b; exact Jk e
      | more _ b=>obtain ⟨_,_,_,_,e⟩:=b; exact Jk e
     rw [Bx] at this
     exact this
    ·rw [z.1]; exact hil
   have s08:=s07.trans s8
   refine ⟨_,rfl,_,rfl,_,rfl,x,c,sz,rk,kbs,ls,D,l.getD i 0 ||| m,rfl,O.mono s08,hkb,hls,Ih h305 bl,fun cl H9 s9 hcl=>?_⟩
   have s49:=s5.trans (s6.trans (s7.trans (s8.trans s9)))
   have d9:=s49 _ _ d4
   have lk:=Lg rw
   refine ⟨_,rfl,_,rfl,dd,_,rfl,J9.k (k:=kI i) d9 (Aq (by omega)),?_⟩
   have hnew:CZ (Dh rw) (kI i)=none:=by rw [Ie,if_neg (by omega)]
   rw [JD _ hnew]
   refine ⟨fun b u e=>by rw [Av (Ao e hdd)]; exact s49 _ _ (s4 _ _ e),by rw [Av nd.symm]; exact s49 _ _ b4,rw++[Xg sz rk kbs ls cl (l.getD i 0 ||| m)],_,_,_,rfl,?_,by rw [List.length_append,lr]; rfl,fun k hk=>?_⟩
   ·rw [Ah,Ho,lr]
   ·by_cases e:k<i
    ·rw [Ib (by omega)]
     exact hr4 k e
    ·have e2:k=i:=by omega
     subst e2
     rw [← lr,getD_snoc,lr]
     exact ⟨cl,_,rfl,hcl,bn⟩
  ·rintro σ H4 ⟨s4,b4,rw,v3,v4,v5,rfl,d4,lr,hr4⟩
   rw [lv] at lr hr4
   exact ⟨_,rfl,q dd rw H4 hdd s4 d4 lr hr4⟩
structure Kh (Cy:Addr) (H:Hp) (y:Addr) (rw:List Nat):Prop where
 ex:∃ dy dd o,H y=some (.ins Cy dy [("row_sets",.ref dd)])/\H dd=some (.frz o (.dK (Dh rw)))
theorem Kh.mono {Cy:Addr} {H H':Hp} {y:Addr} {rw:List Nat} (s:Al H H') (h:Kh Cy H y rw):Kh Cy H' y rw:=by
 obtain ⟨dy,dd,o,e1,e2⟩:=h.ex
 exact ⟨dy,dd,o,s _ _ e1,s _ _ e2⟩
noncomputable def Xo (C Cy:Addr):Sp:=fun vs H Q _=>∃ (y dy x:Addr) (c:Nat->Str) (sz:List Nat) (rk:List (Str × Nat × Int)) (kbs:List Kb) (ls:List (List Ln)) (D:Nat),vs=[.ref y,.ref x,.int (D:Nat)]/\H y=some (.ins Cy dy [])/\Cw C H x (BW c sz) rk (Bu c kbs) ls/\RQ sz.length kbs/\Z1 rk ls /\
 ∀ (rw:List Nat) H',SX y H H'->Kh Cy H' y rw->rw.length=sz.sum->(∀ i,i<sz.sum->LR c sz rk kbs ls D i (rw.getD i 0))->Q .non H'
noncomputable def XD (Cy:Addr):Sp:=fun vs H Q _=>∃ (y:Addr) (rw:List Nat) (i:Nat),vs=[.ref y,.int (i:Nat)]/\Kh Cy H y rw/\i<rw.length/\Q (.int ((rw.getD i 0:Nat):Int)) H
theorem cB:Ar ["self","organ","knobs"] ["self","organ","knobs"] (Ae aY):=Bl
include N T in
theorem Y6:Aw P w K mg base Bc 7 aD.fRi aD.dRi ["self","organ","knobs"] (Xo C Cy):=by
 have GCr:Aw P w K mg base Bc 6 aD.fCr aD.dCr ["organ","knobs"] (Wz C):=Yn N T
 refine N.FRi.1.ok cB (fun vs H Q E h=>?_) (fun cdv A outer s H vs Q E hr h=>?_)
 ·obtain ⟨y,dy,x,c,sz,rk,kbs,ls,D,rfl,_⟩:=h
  rfl
 ·obtain ⟨y,dy,x,c,sz,rk,kbs,ls,D,rfl,hy,O,hkb,hls,q⟩:=h
  have hrCr:BL 6 _:=hr.mono (by decide)
  refine ⟨_,(V3 (Ag (Dr (pv 0) (Am GCr hrCr rfl N.FCr.2.2 N.FCr.1.kp N.FCr.2.1 .nil Ay (Aa (pv 1) (Aa (pv 2) Ab))) rfl))),?_⟩
  refine ⟨_,rfl,_,rfl,x,c,sz,rk,kbs,ls,D,rfl,O,hkb,hls,fun dd rw H1 hdd s1 d1 lr hr1=>?_⟩
  have ny:dd ≠ y:=Ne.symm (Ao hy hdd)
  refine ⟨_,rfl,y,Cy,dy,_,rfl,s1 _ _ hy,T.clR,T.nr_row_sets,(by show 0<1000; decide),?_⟩
  refine ⟨dd,Dh rw,by rw [Av ny]; exact d1,fun o=>?_⟩
  refine q rw _ (fun b u e n=>?_) ⟨dy,dd,o,?_,Ah⟩ lr hr1
  ·rw [Av (Ao e hdd),Av n]
   exact s1 _ _ e
  ·rw [Av (Ne.symm ny),Ah]
   rfl
theorem dC:Ar ["self","key"] ["self","key"] (Ae b8):=Bl
include N T in
theorem WY:Aw P w K mg base Bc 1 aD.fRr aD.dRr ["self","key"] (XD Cy):=by
 refine N.FRr.1.ok dC (fun vs H Q E h=>?_) (fun cdv A outer s H vs Q E hr h=>?_)
 ·obtain ⟨y,rw,i,rfl,_⟩:=h
  rfl
 ·obtain ⟨y,rw,i,rfl,R,hi,q⟩:=h
  have hu:=Ga hr
  refine ⟨_,(Ag (A_ (QJ hu (Bw (pv 0) rfl) (pv 1) Ac ⟨rfl,rfl,rfl,rfl⟩))),?_⟩
  obtain ⟨dy,dd,ob,e1,e2⟩:=R.ex
  refine ⟨_,rfl,y,Cy,dy,_,_,rfl,e1,T.clR,T.nr_row_sets,rfl,dd,rfl,.inl ⟨_,.inr ⟨ob,e2⟩⟩,_,rfl,_,.inl ⟨_,kI i,.inr ⟨ob,e2⟩,rfl,rfl⟩,?_⟩
  rw [Ie,if_pos hi]
  exact q
theorem chG {p:CN} (h:p.Ok):Z1 p.rk p.ls:=fun l hl=>by
 obtain ⟨h1,h2⟩:=h.fY hl
 refine ⟨by omega,fun ln hln=>?_⟩
 obtain ⟨i,hi,rfl⟩:=h2 ln hln
 have k1:=h.k1
 have k61:=h.k61
 exact ⟨by rw [CN.Ha]; exact hi,by show (0:Int)<=0; decide,by show (0:Int)<=(p.kk:Int) - 1; omega,by show (p.kk:Int) - 1<=60; omega,by show (-200:Int)<=0; decide,by show (0:Int)<=200; decide⟩
theorem Qp {p:CN} {k:Nat} (hk:k<p.m):JQ p.rk k=p.kk/\RN p.rk k=p.kk * k:=by
 have e:p.rk.map (fun r=>r.2.1)=p.sz:=by
  refine List.ext_getElem? fun i=>?_
  rw [List.getElem?_map]
  by_cases hi:i<p.m
  ·rw [CN.HX hi,CN.Hf hi]
   rfl
  ·rw [List.getElem?_eq_none (by rw [CN.Ha]; omega),List.getElem?_eq_none (by rw [CN.Eo]; omega)]
   rfl
 constructor
 ·unfold JQ
  rw [e,List.getD_eq_getElem?_getD,CN.Hf hk]
  rfl
 ·unfold RN
  rw [List.map_take,e,CN.Gk (by omega)]
theorem VM {p:CN} (h:p.Ok) {D i r:Nat} (R:LR p.c p.sz p.rk p.kb p.ls D i r) (hD:∀ k,k<p.m->D.testBit k=true) (j:Nat) :
  r.testBit j=true ↔ j<p.kk * p.m/\(Ke (stp (BW p.c p.sz) p.kb D) (fun a=>a=i) j \/ (j=i/\∀ b,Rr p.sz j b->¬ Jb p.kb D b)):=by
 obtain ⟨cl,n,rfl,hcl,hn⟩:=R
 have G:=chG h
 rw [Vg,← hn]
 have lz:∀ {k:Nat},k<3 * p.m+1->p.ls.getD k []=p.lf k:=fun hk=>by rw [List.getD_eq_getElem?_getD,CN.I_ hk]; rfl
 have gz:∀ {k:Nat},k<p.m->p.sz.getD k 0=p.kk:=fun hk=>by rw [List.getD_eq_getElem?_getD,CN.Hf hk]; rfl
 have st:∀ {k:Nat},k<p.m->p.f k=.pl "stop" k:=fun hk=>by unfold CN.f; rw [if_pos hk]
 have bd:∀ {k:Nat},k<p.m->GQ p.kb k=k:=fun {k} hk=>by
  unfold GQ
  rw [CN.Gs (show k<3 * p.m+1 by omega),st hk]
 constructor
 ·rintro ⟨k,hk,hb⟩
  obtain ⟨z,hz,hw,_⟩:=(hcl k).mp hk
  obtain ⟨hk3,rfl⟩:=CN.Cu hz
  have hkm:k<p.m:=by
   refine Classical.byContradiction fun hc=>?_
   rw [CN.V6,if_neg hc] at hw
   split at hw
   ·exact absurd hw (by decide +kernel)
   ·exact absurd hw (by decide +kernel)
  rw [bd hkm,Qc (fun ln hln=>(G _ (List.mem_of_getElem? (show p.ls[k]? = some (p.ls.getD k []) by rw [lz hk3]; exact CN.I_ hk3))).2 ln hln)] at hb
  obtain ⟨ln,hln,x,h1,h2,h3,h4,h5,h6,h7⟩:=hb
  rw [lz hk3] at hln
  unfold CN.lf at hln
  rw [if_pos hkm] at hln
  obtain rfl:=List.mem_singleton.mp hln
  rw [gz hkm] at h1
  rw [CN.Gk (by omega)] at h2
  have e1:=(Qp hkm).2
  dsimp only at h7
  rw [e1] at h7
  have ej:j=p.kk * k+x:=by omega
  subst ej
  refine ⟨?_,h2⟩
  have:p.kk * (k+1)<=p.kk * p.m:=Nat.mul_le_mul_left _ (by omega)
  rw [Nat.mul_add] at this
  omega
 ·rintro ⟨hj,hb⟩
  have k1:=h.k1
  have hk:j / p.kk<p.m:=Nat.div_lt_of_lt_mul hj
  have hm:j % p.kk<p.kk:=Nat.mod_lt _ (by omega)
  have ej:=Nat.div_add_mod j p.kk
  generalize j / p.kk=k at hk ej
  generalize j % p.kk=x at hm ej
  subst ej
  refine ⟨k,(hcl k).mpr ⟨_,CN.Gs (by omega),by rw [st hk]; rfl,hD k hk⟩,?_⟩
  rw [bd hk,Qc (fun ln hln=>(G _ (List.mem_of_getElem? (show p.ls[k]? = some (p.ls.getD k []) by rw [lz (by omega)]; exact CN.I_ (by omega)))).2 ln hln),lz (by omega)]
  have e0:=(Qp hk).1
  have e1:=(Qp hk).2
  refine ⟨⟨k,0,0,(p.kk:Int) - 1⟩,by unfold CN.lf; rw [if_pos hk]; exact List.mem_singleton.mpr rfl,x,by rw [gz hk]; exact hm,by rw [CN.Gk (by omega)]; exact hb,?_,?_,?_,?_,?_⟩
  ·show (0:Int)<=(x:Int); omega
  ·show (x:Int)<=(p.kk:Int) - 1; omega
  ·show (0:Int)<=(x:Int)+0; omega
  ·show (x:Int)+0<((JQ p.rk k:Nat):Int)
   rw [e0]
   omega
  ·show ((p.kk * k+x:Nat):Int)=((RN p.rk k:Nat):Int)+((x:Int)+0)
   rw [e1]
   omega
theorem U5 {p:CN} (h:p.Ok) {b n b':Nat} (hb:b<p.m) (hn:n<p.kk) (hx:Rr p.sz (p.kk * b+n) b'):b'=b:=by
 obtain ⟨x,h1,h2,h3⟩:=hx
 rw [CN.Eo] at h2
 rw [List.getD_eq_getElem?_getD,CN.Hf h2] at h1
 rw [CN.Gk (by omega)] at h3
 have h1:x<p.kk:=h1
 have e1:=Nat.mul_add_div (show p.kk > 0 by omega) b n
 have e2:=Nat.mul_add_div (show p.kk > 0 by omega) b' x
 rw [Nat.div_eq_of_lt hn] at e1
 rw [Nat.div_eq_of_lt h1] at e2
 rw [h3] at e1
 omega
theorem Sd {p:CN} (h:p.Ok) {b n:Nat} (hb:b<p.m) (hn:n<p.kk):Rr p.sz (p.kk * b+n) b :=
 ⟨n,by rw [List.getD_eq_getElem?_getD,CN.Hf hb]; exact hn,by rw [CN.Eo]; exact hb,by rw [CN.Gk (by omega)]⟩
theorem Vu {p:CN} (h:p.Ok) {D b:Nat} (hb:b<p.m):Jb p.kb D b ↔ D.testBit (2 * p.m+1+b)=true:=by
 have fm:∀ {x:Nat},x<p.m->p.f (2 * p.m+1+x)=.pl "mute" x:=fun {x} hx=>by
  unfold CN.f
  rw [if_neg (by omega),if_neg (by omega),if_neg (by omega)]
  congr 1
  omega
 constructor
 ·rintro ⟨k,z,hz,hw,hd,e⟩
  obtain ⟨hk,rfl⟩:=CN.Cu hz
  have hkm:2 * p.m+1<=k:=by
   refine Classical.byContradiction fun hc=>?_
   rw [CN.V6] at hw
   split at hw
   ·exact absurd hw (by decide +kernel)
   ·rw [if_pos (by omega)] at hw
    exact absurd hw (by decide +kernel)
  obtain ⟨x,rfl⟩:∃ x,k=2 * p.m+1+x:=⟨k - (2 * p.m+1),by omega⟩
  unfold GQ at e
  rw [hz,fm (by omega)] at e
  rw [← e]
  exact hd
 ·intro hd
  have hz:=CN.Gs (p:=p) (i:=2 * p.m+1+b) (by omega)
  refine ⟨_,_,hz,by rw [fm hb]; rfl,hd,?_⟩
  unfold GQ
  rw [hz,fm hb]
theorem Up {p:CN} (h:p.Ok) {D b n r due:Nat} {ts:List (Nat × Nat × Int)} (T:p.Xq D ts) (hb:b<p.m) (hn:n<p.kk) (R:LR p.c p.sz p.rk p.kb p.ls D (p.kk * b+n) r) (hD:∀ k,k<p.m->D.testBit k=true)
  {ps:List (Nat × Nat)} (h1:∀ q∈ps,O_ (Hw ts p.kk) (b,n) q) (h2:∀ a,(a=(b,n) \/ a∈ps)->∀ q,Hw ts p.kk a q->q∈ps)
  (hd:∀ j,due.testBit j=true ↔ (∃ q∈ps,j=p.kk * q.1+q.2) \/ (D.testBit (2 * p.m+1+b)=false/\j=p.kk * b+n)):r=due:=Rq fun j=>by
 have lt:p.kk * b+n<p.kk * p.m:=by
  have:p.kk * (b+1)<=p.kk * p.m:=Nat.mul_le_mul_left _ (by omega)
  rw [Nat.mul_add] at this
  omega
 have hM:=Vu h (D:=D) hb
 rw [VM h R hD,hd,h.bh T hb hn h1 h2]
 constructor
 ·rintro ⟨_,z | ⟨rfl,z⟩⟩
  ·exact .inl z
  ·refine .inr ⟨?_,rfl⟩
   have:=z b (Sd h hb hn)
   rw [hM] at this
   exact (Bool.not_eq_true _).mp this
 ·rintro (z | ⟨z,rfl⟩)
  ·have:=z.lt
   rw [Bx,CN.Qm] at this
   exact ⟨this,.inl z⟩
  ·refine ⟨lt,.inr ⟨rfl,fun b' hb'=>?_⟩⟩
   rw [U5 h hb hn hb',hM,z]
   decide
noncomputable def Ur (K:PySem.W.Frag):Sp:=fun vs H Q _=>∃ (a:Addr) (k:Nat) (ns:List Int),vs=[.ref a,.int (k:Nat)]/\Ci K H a (ns.map V.int)/\∀ i:Int,Q (.int i) H
theorem cA:Ar ["_law_script","_law_k"] ["_law_script","_law_k"] (Ae dJ):=Bl
include N T in
theorem TX:Aw P w K mg base Bc 1 aD.fCe aD.dCe ["_law_script","_law_k"] (Ur K):=by
 refine N.FCe.1.ok cA (fun vs H Q E h=>?_) (fun cdv A outer s H vs Q E hr h=>?_)
 ·obtain ⟨a,k,ns,rfl,_⟩:=h
  rfl
 ·obtain ⟨a,k,ns,rfl,hS,q⟩:=h
  refine ⟨_,(Af (Ck (Bd Hr (pv 1) (BR Bj rfl T.len PySem.boot_len (Aa (pv 0) Ab)) (Bm _)) (Ag (A_ (Ax DY (pv 0) (pv 1) (fun _ _=>rfl)))) Bk)
   (Ag (A_ Ac))),?_⟩
  refine ⟨_,rfl,_,rfl,a,_,rfl,.inl hS,_,_,rfl,rfl,_,rfl,?_⟩
  refine DP (fun h1=>?_) (fun _=>q 0)
  have hlt:k<ns.length:=by have:=of_decide_eq_true h1; rw [List.length_map] at this; omega
  exact ⟨_,rfl,_,rfl,a,_,_,.int ns[k],rfl,rfl,hS,Aj (by rw [List.getElem?_map,List.getElem?_eq_getElem hlt]; rfl),q _⟩
theorem aJ:Ar ["_law_found"] ["_law_found"] (Ae dh):=Bl
include N T in
theorem Xu:Aw P w K mg base Bc 1 aD.fLw aD.dLw ["_law_found"] QS:=by
 refine N.FLw.1.ok aJ (fun vs H Q E h=>?_) (fun cdv A outer s H vs Q E hr h=>?_)
 ·obtain ⟨i,rfl,_⟩:=h
  rfl
 ·obtain ⟨i,rfl,q⟩:=h
  refine ⟨_,(Ag (A_ (Dc (BR Cp rfl T.isin PyProof.Rows.boot_isinstance (Aa (pv 0) (Aa (Dt (v:=.ty "int") rfl T.int PyProof.Rows.boot_int rfl) Ab))) (Cz (MF (BR Cp rfl T.isin PyProof.Rows.boot_isinstance (Aa (pv 0) (Aa (Dt (v:=.ty "bool") rfl T.bool PyProof.Rows.boot_bool rfl) Ab)))))))),?_⟩
  refine ⟨_,rfl,_,"int",_,_,rfl,.int i,ty_int,_,rfl,D_ ?_⟩
  exact ⟨_,rfl,_,"bool",_,_,rfl,.int i,T7,_,rfl,q⟩
theorem GX {i:Int} (h0:0<=i) (h:i<4):PJ ("wxyz" : Str).cps.toList i=some (119+i.toNat):=by
 have:i=0 \/ i=1 \/ i=2 \/ i=3:=by omega
 rcases this with rfl | rfl | rfl | rfl <;> decide +kernel
theorem Tg {i:Int} (h0:0<=i) (h:i<4):PJ ("abcd" : Str).cps.toList i=some (97+i.toNat):=by
 have:i=0 \/ i=1 \/ i=2 \/ i=3:=by omega
 rcases this with rfl | rfl | rfl | rfl <;> decide +kernel
theorem two_of (a b:Nat):(⟨#[a]⟩:Str)++(⟨#[b]⟩:Str)=⟨#[a,b]⟩:=rfl
theorem Dl:("wxyz" : Str).length<=sizeLine:=by decide +kernel
theorem Km:("abcd" : Str).length<=sizeLine:=by decide +kernel
structure O9 (H0 H:Hp) (D:Addr) (rows:List R) (vs:List V):Prop where
 s:Al H0 H
 d:H D=some (.lst vs)
 p:Paired (fun (r:R) v=>TupAt H r.v v) rows vs
theorem O9.put {H0 H:Hp} {D T:Addr} {rows:List R} {vs:List V} (h:O9 H0 H D rows vs) (hD:H0 D=none) (r:R) (hT:H T=none):O9 H0 (upd (upd H T (.tup r.v)) D (.lst (vs++[.ref T]))) D (rows++[r]) (vs++[.ref T]):=by
 have t:=Az (o:=HO.tup r.v) hT
 have d:=t _ _ h.d
 refine ⟨fun b o e=>?_,Ah,(DG (Ai t h.p) d).snoc (TupAt.upd ⟨T,rfl,Ah⟩ d)⟩
 rw [Av (Ao e hD)]
 exact t _ _ (h.s _ _ e)
theorem X7 {p:CN} (h:p.Ok) {i:Nat} (hi:i<p.m):Gh p.c (p.m+i) (p.f (p.m+i))=⟨"coupler",⟨#[99,119+i]⟩,[.str (wN i),.str (wN ((i+1) % p.m)),.int (p.sh.getD i 0)]⟩:=by
 have h4:=h.m4
 have e:p.f (p.m+i)=.cp i ((i+1) % p.m) (p.sh.getD i 0):=by
  unfold CN.f
  rw [if_neg (by omega),if_pos (by omega),Nat.add_sub_cancel_left]
 have hm:=Nat.mod_lt (i+1) (show p.m > 0 by omega)
 rw [e]
 show R.mk "coupler" (cN p.m (30+(p.m+i))) [.str (cN p.m i),.str (cN p.m ((i+1) % p.m)),_]=_
 rw [JB,show cN p.m i=wN i from Ij (by omega),show cN p.m ((i+1) % p.m)=wN ((i+1) % p.m) from Ij (by omega)]
 unfold kn
 rw [if_neg (by omega),if_pos (by omega),Nat.add_sub_cancel_left]
theorem ZG {p:CN} (h:p.Ok):Gh p.c (2 * p.m) (p.f (2 * p.m))=⟨"coupler","ce",[.str (wN p.e1),.str (wN p.e2),.int (p.sh.getD p.m 0)]⟩:=by
 have h4:=h.m4
 have h1:=h.m1
 have g1:=h.h1
 have g2:=h.h2
 have e:p.f (2 * p.m)=.cp p.e1 p.e2 (p.sh.getD p.m 0):=by
  unfold CN.f
  rw [if_neg (by omega),if_neg (by omega),if_pos rfl]
 rw [e]
 show R.mk "coupler" (cN p.m (30+2 * p.m)) [.str (cN p.m p.e1),.str (cN p.m p.e2),_]=_
 rw [JB,show cN p.m p.e1=wN p.e1 from Ij (by omega),show cN p.m p.e2=wN p.e2 from Ij (by omega)]
 unfold kn
 rw [if_neg (by omega),if_neg (by omega),if_pos rfl]
 first | rfl | (congr 1; decide +kernel)
theorem Va {p:CN} (h:p.Ok) {i:Nat} (hi:i<p.m):Gh p.c i (p.f i)=⟨"stop",⟨#[115,119+i]⟩,[.str (wN i)]⟩:=by
 have h4:=h.m4
 have e:p.f i=.pl "stop" i:=by
  unfold CN.f
  rw [if_pos hi]
 rw [e]
 show R.mk "stop" (cN p.m (30+i)) [.str (cN p.m i)]=_
 rw [JB,show cN p.m i=wN i from Ij (by omega)]
 unfold kn
 rw [if_pos hi]
theorem ZR {p:CN} (h:p.Ok) {i:Nat} (hi:i<p.m):Gh p.c (2 * p.m+1+i) (p.f (2 * p.m+1+i))=⟨"mute",⟨#[109,119+i]⟩,[.str (wN i)]⟩:=by
 have h4:=h.m4
 have e:p.f (2 * p.m+1+i)=.pl "mute" i:=by
  unfold CN.f
  rw [if_neg (by omega),if_neg (by omega),if_neg (by omega)]
  congr 1
  omega
 rw [e]
 show R.mk "mute" (cN p.m (30+(2 * p.m+1+i))) [.str (cN p.m i)]=_
 rw [JB,show cN p.m i=wN i from Ij (by omega)]
 unfold kn
 rw [if_neg (by omega),if_neg (by omega),if_neg (by omega),show 2 * p.m+1+i - 2 * p.m - 1=i by omega]
noncomputable def W0 (K:PySem.W.Frag) (aB aP aM:Addr):Sp:=fun vs H Q _=>∃ (a pS:Addr) (ns sh:List Int) (m kk:Nat),vs=[.ref a,.int (m:Nat),.int (kk:Nat),.ref pS]/\Ci K H a (ns.map V.int)/\H pS=some (.lst (sh.map V.int))/\sh.length=m+1/\(∀ s∈sh,-3<=s/\s<=3)/\1<=m/\m<=4/\1<=kk/\kk<=61/\Mz K aB aP aM /\
 ∀ D (p:CN) rows vs' H',H D=none->O9 H H' D rows vs'->p.m=m->p.kk=kk->p.sh=sh->p.Ok->FQ K aB aP aM rows (BW p.c p.sz) p.rk (Bu p.c p.kb) p.ls->rows.length<=30->Q (.ref D) H'
theorem Lk:Ar ["_law_script","_law_many","_law_keys","_law_shifts","_law_rows_here","_law_k","_law_extra"] ["_law_script","_law_many","_law_keys","_law_shifts"] (Ae cz):=Bl
include N T in
theorem ZX:Aw P w K mg base Bc 2 aD.fLg aD.dLg ["_law_script","_law_many","_law_keys","_law_shifts"] (W0 K aB aP aM):=by
 have GCe:Aw P w K mg base Bc 1 aD.fCe aD.dCe ["_law_script","_law_k"] (Ur K):=TX N T
 refine N.FLg.1.ok Lk (fun vs H Q E h=>?_) (fun cdv A outer s H vs Q E hr h=>?_)
 ·obtain ⟨a,pS,ns,sh,m,kk,rfl,_⟩:=h
  rfl
 ·obtain ⟨a,pS,ns,sh,m,kk,rfl,hS,hpS,hsl,hsb,m1,m4,k1,k61,F0,q⟩:=h
  have hrCe:BL 1 _:=hr.mono (by decide)
  refine ⟨_,(Af (BK (i:=4) Lk.nd rfl (Or.inl rfl) (EY Ab))
   (Af (B_ PassesOwn.never rfl (CK rfl T.range (Aa (pv 1) Ab)) (BX (i:=5) Lk.nd rfl (Or.inl rfl)) (Af (Ca (Ea PySem.F.plainAttrs_list PySem.F.slot_list_append PySem.F.type_list_append Bp (pv 4) (Aa (CT (Aa BV (Aa (Ax Dp BV (pv 5) (fun _ _=>rfl)) (Aa (pv 2) Ab)))) Ab)))
   (Ag (Ca (Ea PySem.F.plainAttrs_list PySem.F.slot_list_append PySem.F.type_list_append Bp (pv 4) (Aa (CT (Aa BV (Aa (Ax Dp BV (pv 5) (fun _ _=>rfl)) (Aa (pv 2) (Aa Ac Ab))))) Ab))))))
   (Af (B_ PassesOwn.never rfl (CK rfl T.range (Aa (pv 1) Ab)) (BX (i:=5) Lk.nd rfl (Or.inl rfl)) (Af (Ca (Ea PySem.F.plainAttrs_list PySem.F.slot_list_append PySem.F.type_list_append Bp (pv 4) (Aa (CT (Aa BV (Aa (BJ Gp BV (Ax Dp BV (pv 5) (fun _ _=>rfl))) (Aa (Ax Dp BV (pv 5) (fun _ _=>rfl)) Ab)))) Ab)))
   (Ag (Ca (Ea PySem.F.plainAttrs_list PySem.F.slot_list_append PySem.F.type_list_append Bp (pv 4) (Aa (CT (Aa BV (Aa (Ax Dp BV (pv 5) (fun _ _=>rfl)) (Aa Ac (Aa Ac (Aa (BJ Ge (pv 2) Ac) Ab)))))) Ab))))))
   (Af (B_ PassesOwn.never rfl (CK rfl T.range (Aa (pv 1) Ab)) (BX (i:=5) Lk.nd rfl (Or.inl rfl)) (Ag (Ca (Ea PySem.F.plainAttrs_list PySem.F.slot_list_append PySem.F.type_list_append Bp (pv 4) (Aa (CT (Aa BV (Aa (BJ Gp BV (Ax Dp BV (pv 5) (fun _ _=>rfl))) (Aa (Ax Dp BV (pv 5) (fun _ _=>rfl)) (Aa (Ax Dp BV (BJ Dj (BJ CW (pv 5) Ac) (pv 1)) (fun _ _=>rfl)) (Aa (Ax DY (pv 3) (pv 5) (fun _ _=>rfl)) Ab)))))) Ab)))))
   (Af (BK (i:=6) Lk.nd rfl (Or.inl rfl) (BJ Dj (BJ Fi (Am GCe hrCe rfl N.FCe.2.2 N.FCe.1.kp N.FCe.2.1 .nil Ay (Aa (pv 0) (Aa Ac Ab))) Ac) Ac))
   (Af (Ca (Ea PySem.F.plainAttrs_list PySem.F.slot_list_append PySem.F.type_list_append Bp (pv 4) (Aa (CT (Aa BV (Aa BV (Aa (Ax Dp BV (BJ Dj (BJ GJ (pv 6) Ac) (pv 1)) (fun _ _=>rfl)) (Aa (Ax Dp BV (BJ Dj (BJ GJ (pv 6) Ac) (pv 1)) (fun _ _=>rfl)) (Aa (Ax DY (pv 3) (pv 1) (fun _ _=>rfl)) Ab)))))) Ab)))
   (Af (B_ PassesOwn.never rfl (CK rfl T.range (Aa (pv 1) Ab)) (BX (i:=5) Lk.nd rfl (Or.inl rfl)) (Ag (Ca (Ea PySem.F.plainAttrs_list PySem.F.slot_list_append PySem.F.type_list_append Bp (pv 4) (Aa (CT (Aa BV (Aa (BJ Gp BV (Ax Dp BV (pv 5) (fun _ _=>rfl))) (Aa (Ax Dp BV (pv 5) (fun _ _=>rfl)) Ab)))) Ab)))))
   (Ag (A_ (pv 4)))))))))),?_⟩
  have sl30:∀ {n:Nat},n<=1000->n<sizeLine:=fun h=>Aq h
  refine ⟨Hk (by simp),fun D hD=>?_⟩
  obtain ⟨H0,eqH,s0,a0⟩:=Jr (o:=HO.lst []) hD
  rw [eqH]
  have R0:O9 H H0 D [] []:=⟨s0,a0,.nil⟩
  refine ⟨_,rfl,_,rfl,by omega,by omega,?_⟩
  rw [Int.toNat_natCast]
  have bnil:∀ p:CN,p.m=m->p.kk=kk->FQ K aB aP aM [] ((BW p.c p.sz).take 0) (p.rk.take 0) [] []:=fun p _ _=>by
   rw [List.take_zero,List.take_zero]
   exact FQ.nil
  refine DN (lo:=0) (n:=m) (fun i σ H4=>∃ rows vs4,O9 H H4 D rows vs4/\rows.length=2 * i/\(∀ p:CN,p.Ok->p.m=m->p.kk=kk->FQ K aB aP aM rows ((BW p.c p.sz).take i) (p.rk.take i) [] [])/\∃ v5 v6,σ=[some (.ref a),some (.int (m:Nat)),some (.int (kk:Nat)),some (.ref pS),some (.ref D),v5,v6])
   ⟨[],[],R0,rfl,fun p _ e1 e2=>bnil p e1 e2,_,_,rfl⟩ ?_ ?_
  ·rintro i σ H4 hi ⟨rows,vs4,R4,rl,B4,v5,v6,rfl⟩
   have vl:=R4.p.length
   refine ⟨_,rfl,.inl ⟨rfl,_,.inl (.inl R4.d)⟩,_,rfl,_,_,_,rfl,rfl,Dl,GX (by omega) (by omega),_,rfl,by show 3<=sizeLine; decide,fun T hT=>?_⟩
   have en:(119+((0:Int)+(i:Int)).toNat)=119+i:=by omega
   have en2:(97+((0:Int)+(i:Int)).toNat)=97+i:=by omega
   rw [en]
   refine ⟨D,vs4,_,rfl,rfl,(Az hT) _ _ R4.d,Aq (by omega),?_⟩
   have R5:O9 H (upd (upd H4 T (HO.tup [.str "board",.str ⟨#[119+i]⟩,.int (kk:Nat)])) D (HO.lst (vs4++[.ref T]))) D _ _:=R4.put hD (Gg (wN i,kk)) hT
   generalize upd (upd H4 T (HO.tup [.str "board",.str ⟨#[119+i]⟩,.int (kk:Nat)])) D (HO.lst (vs4++[.ref T]))=H5 at R5 ⊢
   have vl5:=R5.p.length
   rw [List.length_append,List.length_append,List.length_singleton,List.length_singleton] at vl5
   refine ⟨_,rfl,.inl ⟨rfl,_,.inl (.inl R5.d)⟩,_,rfl,_,_,_,rfl,rfl,Km,Tg (by omega) (by omega),_,rfl,by show 4<=sizeLine; decide,fun T2 hT2=>?_⟩
   rw [en2]
   refine ⟨D,_,_,rfl,rfl,(Az hT2) _ _ R5.d,Aq (by rw [List.length_append,List.length_singleton]; omega),?_⟩
   have R6:=R5.put hD (G6 (rN i,kk,1)) hT2
   exact ⟨_,_,R6,by rw [List.length_append,List.length_append,rl]; rfl,fun p O e1 e2=>by
    have:=O.b0 F0 (i:=i) (by omega) (B4 p O e1 e2)
    rw [e2] at this
    exact this,_,_,rfl⟩
  rintro σ H4 ⟨rows,vs4,R4,rl,B4,v5,v6,rfl⟩
  refine ⟨_,rfl,_,rfl,by omega,by omega,?_⟩
  rw [Int.toNat_natCast]
  refine DN (lo:=0) (n:=m) (fun i σ H4=>∃ rows vs4,O9 H H4 D rows vs4/\rows.length=2 * m+2 * i/\(∀ p:CN,p.Ok->p.m=m->p.kk=kk->FQ K aB aP aM rows (BW p.c p.sz) p.rk ((Bu p.c p.kb).take i) (p.ls.take i))/\∃ v5 v6,σ=[some (.ref a),some (.int (m:Nat)),some (.int (kk:Nat)),some (.ref pS),some (.ref D),v5,v6])
   ⟨rows,vs4,R4,by omega,fun p O e1 e2=>by
    have:=B4 p O e1 e2
    rw [← e1,List.take_of_length_le (by rw [Fo,CN.Eo]; exact Nat.le_refl _),List.take_of_length_le (by rw [CN.Ha]; exact Nat.le_refl _)] at this
    rw [List.take_zero,List.take_zero]
    exact this,_,_,rfl⟩ ?_ ?_
  ·clear rl B4 R4
   rintro i σ H4 hi ⟨rows,vs4,R4,rl,B4,v5,v6,rfl⟩
   have vl:=R4.p.length
   have en:(119+((0:Int)+(i:Int)).toNat)=119+i:=by omega
   have en2:(97+((0:Int)+(i:Int)).toNat)=97+i:=by omega
   refine ⟨_,rfl,.inl ⟨rfl,_,.inl (.inl R4.d)⟩,_,rfl,_,_,_,rfl,rfl,Dl,GX (by omega) (by omega),_,_,rfl,rfl,by show 2<=sizeLine; decide,_,rfl,_,_,_,rfl,rfl,Dl,GX (by omega) (by omega),by show 3<=sizeLine; decide,fun T hT=>?_⟩
   rw [en,show ("s" : Str)=⟨#[115]⟩ by decide +kernel,two_of]
   refine ⟨D,vs4,_,rfl,rfl,(Az hT) _ _ R4.d,Aq (by omega),?_⟩
   have R5:O9 H (upd (upd H4 T (HO.tup [.str "stop",.str ⟨#[115,119+i]⟩,.str ⟨#[119+i]⟩])) D (HO.lst (vs4++[.ref T]))) D _ _:=R4.put hD ⟨"stop",⟨#[115,119+i]⟩,[.str (wN i)]⟩ hT
   generalize upd (upd H4 T (HO.tup [.str "stop",.str ⟨#[115,119+i]⟩,.str ⟨#[119+i]⟩])) D (HO.lst (vs4++[.ref T]))=H5 at R5 ⊢
   have vl5:=R5.p.length
   rw [List.length_append,List.length_append,List.length_singleton,List.length_singleton] at vl5
   refine ⟨_,rfl,.inl ⟨rfl,_,.inl (.inl R5.d)⟩,_,rfl,_,_,_,rfl,rfl,Km,Tg (by omega) (by omega),_,rfl,_,_,rfl,rfl,by show 5<=sizeLine; decide,fun T2 hT2=>?_⟩
   rw [en2]
   refine ⟨D,_,_,rfl,rfl,(Az hT2) _ _ R5.d,Aq (by rw [List.length_append,List.length_singleton]; omega),?_⟩
   have R6:=R5.put hD ⟨"line",rN i,[.int 0,.int 0,.int ((kk:Int) - 1)]⟩ hT2
   exact ⟨_,_,R6,by rw [List.length_append,List.length_append,rl]; show _+1+1=_; omega,fun p O e1 e2=>by
    have:=O.line F0 (i:=i) (by omega) (B4 p O e1 e2)
    rw [Va O (by omega),e2] at this
    exact this,_,_,rfl⟩
  clear rl B4 R4
  rintro σ H4 ⟨rows,vs4,R4,rl,B4,v5,v6,rfl⟩
  refine ⟨_,rfl,_,rfl,by omega,by omega,?_⟩
  rw [Int.toNat_natCast]
  refine DN (lo:=0) (n:=m) (fun i σ H4=>∃ rows vs4,O9 H H4 D rows vs4/\rows.length=4 * m+i/\(∀ p:CN,p.Ok->p.m=m->p.kk=kk->p.sh=sh->FQ K aB aP aM rows (BW p.c p.sz) p.rk ((Bu p.c p.kb).take (m+i)) (p.ls.take (m+i)))/\∃ v5 v6,σ=[some (.ref a),some (.int (m:Nat)),some (.int (kk:Nat)),some (.ref pS),some (.ref D),v5,v6])
   ⟨rows,vs4,R4,by omega,fun p O e1 e2 _=>B4 p O e1 e2,_,_,rfl⟩ ?_ ?_
  ·clear rl B4 R4
   rintro i σ H4 hi ⟨rows,vs4,R4,rl,B4,v5,v6,rfl⟩
   have vl:=R4.p.length
   have en:(119+((0:Int)+(i:Int)).toNat)=119+i:=by omega
   have em:(((0:Int)+(i:Int))+1) % (m:Nat)=(((i+1) % m:Nat):Int):=by rw [Int.natCast_emod]; congr 1; omega
   have hml:=Nat.mod_lt (i+1) (show m > 0 by omega)
   have ez:(119+((((0:Int)+(i:Int))+1) % (m:Nat)).toNat)=119+(i+1) % m:=by rw [em,Int.toNat_natCast]
   have hsi:(sh.map V.int)[i]? = some (.int (sh.getD i 0)):=by rw [List.getElem?_map,List.getElem?_eq_getElem (by omega),List.getD_eq_getElem?_getD,List.getElem?_eq_getElem (by omega)]; rfl
   refine ⟨_,rfl,.inl ⟨rfl,_,.inl (.inl R4.d)⟩,_,rfl,_,_,_,rfl,rfl,Dl,GX (by omega) (by omega),_,_,rfl,rfl,by show 2<=sizeLine; decide,_,rfl,_,_,_,rfl,rfl,Dl,GX (by omega) (by omega),_,rfl,_,_,rfl,rfl,_,rfl,_,_,rfl,rfl,(by show (0:Int)<(m:Nat); omega),_,_,_,rfl,rfl,Dl,GX (by rw [em]; omega) (by rw [em]; omega),_,rfl,_,rfl,pS,_,_,_,rfl,rfl,.inl (.inl (R4.s _ _ hpS)),(by rw [show ((0:Int)+(i:Int))=((i:Nat):Int) by omega]; exact Aj hsi),by show 5<=sizeLine; decide,fun T hT=>?_⟩
   rw [en,ez,show ("c" : Str)=⟨#[99]⟩ by decide +kernel,two_of]
   refine ⟨D,vs4,_,rfl,rfl,(Az hT) _ _ R4.d,Aq (by omega),?_⟩
   have R5:=R4.put hD ⟨"coupler",⟨#[99,119+i]⟩,[.str (wN i),.str (wN ((i+1) % m)),.int (sh.getD i 0)]⟩ hT
   exact ⟨_,_,R5,by rw [List.length_append,rl]; rfl,fun p O e1 e2 e3=>by
    have:=O.more F0 (i:=m+i) (by omega) (by omega) (B4 p O e1 e2 e3)
    rw [← e1,X7 O (by omega),e1,e3] at this
    exact this,_,_,rfl⟩
  clear rl B4 R4
  rintro σ H4 ⟨rows,vs4,R4,rl,B4,v5,v6,rfl⟩
  refine ⟨_,rfl,a,2,ns,rfl,R4.s.seq hS,fun x=>⟨_,_,rfl,rfl,.inr ⟨by decide,by decide⟩,_,_,rfl,rfl,(by show (0:Int)<2147483647; decide),?_⟩⟩
  have hmp:(0:Int)<(m:Nat):=by omega
  have l1:=Int.emod_lt_of_pos ((x * 62089911 % 2147483647) / 4) hmp
  have l2:=Int.emod_nonneg ((x * 62089911 % 2147483647) / 4) (show ((m:Nat):Int) ≠ 0 by omega)
  have l3:=Int.emod_lt_of_pos ((x * 62089911 % 2147483647) / 16) hmp
  have l4:=Int.emod_nonneg ((x * 62089911 % 2147483647) / 16) (show ((m:Nat):Int) ≠ 0 by omega)
  have vl:=R4.p.length
  have hsi:(sh.map V.int)[m]? = some (.int (sh.getD m 0)):=by rw [List.getElem?_map,List.getElem?_eq_getElem (by omega),List.getD_eq_getElem?_getD,List.getElem?_eq_getElem (by omega)]; rfl
  refine ⟨_,rfl,.inl ⟨rfl,_,.inl (.inl R4.d)⟩,_,rfl,_,_,rfl,rfl,⟨by decide,by decide⟩,_,rfl,_,_,rfl,rfl,hmp,_,_,_,rfl,rfl,Dl,GX l2 (by omega),_,rfl,_,_,rfl,rfl,⟨by decide,by decide⟩,_,rfl,_,_,rfl,rfl,hmp,_,_,_,rfl,rfl,Dl,GX l4 (by omega),_,rfl,_,rfl,pS,_,_,_,rfl,rfl,.inl (.inl (R4.s _ _ hpS)),Aj hsi,by show 5<=sizeLine; decide,fun T hT=>?_⟩
  obtain ⟨E1,g1⟩:∃ E1,E1=(x * 62089911 % 2147483647) / 4 % (m:Nat):=⟨_,rfl⟩
  obtain ⟨E2,g2⟩:∃ E2,E2=(x * 62089911 % 2147483647) / 16 % (m:Nat):=⟨_,rfl⟩
  rw [← g1] at l1 l2
  rw [← g2] at l3 l4
  refine ⟨D,vs4,_,rfl,rfl,(Az hT) _ _ R4.d,Aq (by omega),?_⟩
  have hu5:∀ {Q:Hp->Prop},Q (upd (upd H4 T (HO.tup [.str "coupler",.str "ce",.str ⟨#[119+E1.toNat]⟩,.str ⟨#[119+E2.toNat]⟩,.int (sh.getD m 0)])) D (HO.lst (vs4++[.ref T])))->Q (upd (upd H4 T (HO.tup [.str "coupler",.str "ce",.str ⟨#[119+((x * 62089911 % 2147483647) / 4 % (m:Nat)).toNat]⟩,.str ⟨#[119+((x * 62089911 % 2147483647) / 16 % (m:Nat)).toNat]⟩,.int (sh.getD m 0)])) D (HO.lst (vs4++[.ref T]))):=fun z=>by rw [← g1,← g2]; exact z
  refine hu5 ?_
  have R5:O9 H (upd (upd H4 T (HO.tup [.str "coupler",.str "ce",.str ⟨#[119+E1.toNat]⟩,.str ⟨#[119+E2.toNat]⟩,.int (sh.getD m 0)])) D (HO.lst (vs4++[.ref T]))) D _ _:=R4.put hD ⟨"coupler","ce",[.str (wN E1.toNat),.str (wN E2.toNat),.int (sh.getD m 0)]⟩ hT
  have O:(CN.mk m kk E1.toNat E2.toNat sh).Ok:=⟨m1,m4,k1,k61,by show E1.toNat<m; omega,by show E2.toNat<m; omega,hsl,hsb⟩
  have hp:∃ p:CN,p.Ok/\p.m=m/\p.kk=kk/\p.sh=sh/\p.e1=E1.toNat/\p.e2=E2.toNat:=⟨_,O,rfl,rfl,rfl,rfl,rfl⟩
  clear O
  obtain ⟨p,O,p1,p2,p3,p4,p5⟩:=hp
  have B5:=O.more F0 (i:=2 * m) (by omega) (by omega) (by
   have:=B4 p O p1 p2 p3
   rw [show m+m=2 * m by omega] at this
   exact this)
  rw [← p1,ZG O,p1,p3,p4,p5] at B5
  generalize upd (upd H4 T (HO.tup [.str "coupler",.str "ce",.str ⟨#[119+E1.toNat]⟩,.str ⟨#[119+E2.toNat]⟩,.int (sh.getD m 0)])) D (HO.lst (vs4++[.ref T]))=H5 at R5 ⊢
  have rl5:(rows++[(⟨"coupler","ce",[.str (wN E1.toNat),.str (wN E2.toNat),.int (sh.getD m 0)]⟩:R)]).length=5 * m+1:=by rw [List.length_append,rl]; show _+1=_; omega
  generalize rows++[(⟨"coupler","ce",[.str (wN E1.toNat),.str (wN E2.toNat),.int (sh.getD m 0)]⟩:R)]=rows5 at R5 B5 rl5
  generalize vs4++[V.ref T]=vs5 at R5
  clear rl B4 R4 vl
  refine ⟨_,rfl,_,rfl,by omega,by omega,?_⟩
  rw [Int.toNat_natCast]
  refine DN (lo:=0) (n:=m) (fun i σ H4=>∃ rows vs4,O9 H H4 D rows vs4/\rows.length=5 * m+1+i/\FQ K aB aP aM rows (BW p.c p.sz) p.rk ((Bu p.c p.kb).take (2 * m+1+i)) (p.ls.take (2 * m+1+i))/\∃ v5 v6,σ=[some (.ref a),some (.int (m:Nat)),some (.int (kk:Nat)),some (.ref pS),some (.ref D),v5,v6])
   ⟨rows5,vs5,R5,rl5,B5,_,_,rfl⟩ ?_ ?_
  ·rintro i σ H4 hi ⟨rows,vs4,R4,rl,B4,v5,v6,rfl⟩
   have vl:=R4.p.length
   have en:(119+((0:Int)+(i:Int)).toNat)=119+i:=by omega
   refine ⟨_,rfl,.inl ⟨rfl,_,.inl (.inl R4.d)⟩,_,rfl,_,_,_,rfl,rfl,Dl,GX (by omega) (by omega),_,_,rfl,rfl,by show 2<=sizeLine; decide,_,rfl,_,_,_,rfl,rfl,Dl,GX (by omega) (by omega),by show 3<=sizeLine; decide,fun T hT=>?_⟩
   rw [en,show ("m" : Str)=⟨#[109]⟩ by decide +kernel,two_of]
   refine ⟨D,vs4,_,rfl,rfl,(Az hT) _ _ R4.d,Aq (by omega),?_⟩
   have R5:=R4.put hD ⟨"mute",⟨#[109,119+i]⟩,[.str (wN i)]⟩ hT
   have B5:=O.more F0 (i:=2 * m+1+i) (by omega) (by omega) B4
   rw [← p1,ZR O (by omega),p1] at B5
   exact ⟨_,_,R5,by rw [List.length_append,rl]; rfl,B5,_,_,rfl⟩
  rintro σ H4 ⟨rows,vs4,R4,rl,B4,v5,v6,rfl⟩
  rw [List.take_of_length_le (by rw [Fj,CN.Ii]; omega),List.take_of_length_le (by unfold CN.ls; rw [List.length_map,List.length_range]; omega)] at B4
  exact ⟨_,rfl,q D p rows vs4 H4 hD R4 p1 p2 p3 O B4 (by omega)⟩
theorem Tn {a:Nat} (h:a<4):eZ "wxyz" (wN a)=(a:Int):=by
 have:a=0 \/ a=1 \/ a=2 \/ a=3:=by omega
 rcases this with rfl | rfl | rfl | rfl <;> decide +kernel
noncomputable abbrev Yy (t:Nat × Nat × Int):List V:=[.int (t.1:Nat),.int (t.2.1:Nat),.int t.2.2]
structure eY (p:CN) (H:Hp) (vs:List V):Prop where
 O:p.Ok
 r:Rows H (Js H) vs
 k:(vs.filter (fun v=>Gx (Js H v).w)).map (Js H)=Bu p.c p.kb
 l:vs.length<=30
noncomputable def XM (K:PySem.W.Frag):Sp:=fun vs H Q _=>∃ (D:Addr) (p:CN) (us:List V) (x:V) (Dk:Nat),vs=[.ref D,x,.int (Dk:Nat)]/\H D=some (.lst us)/\eY p H us /\
 ∀ L ts ys H',H L=none->Al H H'->H' L=some (.lst ys)->Paired (fun t v=>TupAt H' (Yy t) v) ts ys->p.Xq Dk ts->ts.length<=13->Q (.ref L) H'
theorem TF:Ar ["_law_rows_here","_law_many","_law_knobs","_law_steps_here","_law_k","_law_row"] ["_law_rows_here","_law_many","_law_knobs"] (Ae Z0):=Bl
include N T in
theorem Wr:Aw P w K mg base Bc 1 aD.fLs aD.dLs ["_law_rows_here","_law_many","_law_knobs"] (XM K):=by
 refine N.FLs.1.ok TF (fun vs H Q E h=>?_) (fun cdv A outer s H vs Q E hr h=>?_)
 ·obtain ⟨D,p,us,x,Dk,rfl,_⟩:=h
  rfl
 ·obtain ⟨D,p,us,x,Dk,rfl,hD,A,q⟩:=h
  refine ⟨_,(Af (BK (i:=3) TF.nd rfl (Or.inl rfl) (EY Ab))
   (Af (B_ PassesOwn.never rfl (GK rfl T.enumerate (Aa (Bg rfl (BP (osc:=Ae Z0) (N:=["_law_rows_here","_law_many","_law_knobs","_law_steps_here","_law_k","_law_row"]) rfl rfl (by decide +kernel)) (Bb (pv 0)) (fun _ _ _ _=>(Gi (Bd (Gu (K:=K) rfl) (Ax (An (K:=K) rfl) (pv 0) Ac (fun _ _=>rfl)) (CT (Aa BV (Aa BV (Aa BV Ab)))) rfl))) (fun _ _ _ _=>(pv 0))) Ab)) (Ew rfl (Bh (BX (i:=4) TF.nd rfl (Or.inl rfl)) (Bh (BX (i:=5) TF.nd rfl (Or.inl rfl)) Ds))) (Ag (Ck (PW.pt (J1 (Bd Dw (Ax (An (K:=K) rfl) (pv 5) Ac (fun _ _=>rfl)) BV (Bm _)) (J3 (Bd Dw (BJ Jv (BJ Jy (pv 2) (pv 4)) Ac) Ac (Bm _))))) (Ag (Ca (Ea PySem.F.plainAttrs_list PySem.F.slot_list_append PySem.F.type_list_append Bp (pv 3) (Aa (CT (Aa (Ea PySem.F.plainAttrs_str PySem.F.slot_str_find PySem.F.type_str_find M_ BV (Aa (Ax (An (K:=K) rfl) (pv 5) Ac (fun _ _=>rfl)) Ab)) (Aa (Ea PySem.F.plainAttrs_str PySem.F.slot_str_find PySem.F.type_str_find M_ BV (Aa (Ax (An (K:=K) rfl) (pv 5) Ac (fun _ _=>rfl)) Ab)) (Aa (Ax (An (K:=K) rfl) (pv 5) Ac (fun _ _=>rfl)) Ab)))) Ab)))) Bk)))
   (Ag (A_ (pv 3))))),?_⟩
  refine ⟨Hk (by simp),fun L hL=>?_⟩
  obtain ⟨H0,eqH,s0,a0⟩:=Jr (o:=HO.lst []) hL
  rw [eqH]
  have hS0:Ci K H0 D us:=.inl (.inl (s0 _ _ hD))
  have h4:=A.O.m4
  refine ⟨_,rfl,D,rfl,⟨_,hS0⟩,Bv (K:=K) (xs:=us) (fun v=>Gx (Js H v).w) id hS0 (Aq (by have:=A.l; omega)) (fun y hy H' hs R k=>?_) (fun y hy _ H' hs R k=>⟨_,rfl,k H' (Al.refl H')⟩) (fun D3 H3 hD3 s3 hl3=>?_)⟩
  ·obtain ⟨T1,rfl,ht⟩:=A.r y hy
   have ht':=hs _ _ (s0 _ _ ht)
   refine ⟨_,rfl,T1,_,_,_,rfl,rfl,.inl (.inl ht'),Aj (j:=0) rfl,by show 3<=sizeLine; decide,fun T2 hT2=>⟨T2,_,rfl,.inr (.inl (.inl Ah)),rfl,rfl,_,rfl,k _ (Az hT2)⟩⟩
  rw [List.map_id] at hl3
  obtain ⟨kv,ekv⟩:∃ kv,us.filter (fun v=>Gx (Js H v).w)=kv:=⟨_,rfl⟩
  rw [ekv] at hl3
  have hk:=A.k
  rw [ekv] at hk
  have hkl:kv.length=3 * p.m+1:=by
   have:=congrArg List.length hk
   rw [List.length_map,Fj,CN.Ii] at this
   exact this
  have s03:=s0.trans s3
  refine ⟨D3,rfl,⟨_,.inl (.inl hl3)⟩,Fx (K:=K) (a:=D3) (xs:=kv) (fun i σ H4=>Al H H4/\H4 D3=some (.lst kv)/\∃ (ts:List (Nat × Nat × Int)) (ys:List V) (v4 v5:Option V),σ=[some (.ref D),some x,some (.int (Dk:Nat)),some (.ref L),v4,v5]/\H4 L=some (.lst ys)/\Paired (fun t v=>TupAt H4 (Yy t) v) ts ys/\ts.length<=i/\∀ a b s,(a,b,s)∈ts ↔ ∃ k,k<i/\p.kb[k]? = some (.cp a b s)/\Dk.testBit k=true) ⟨s03,hl3,[],[],_,_,rfl,s3 _ _ a0,.nil,Nat.le_refl _,fun a b s=>⟨fun z=>(nomatch z),fun ⟨k,hk,_⟩=>absurd hk (Nat.not_lt_zero _)⟩⟩ (fun i σ H4 _ h=>.inl (.inl h.2.1)) ?_ ?_⟩
  ·rintro i y σ H4 T0 hy ⟨s4,b4,ts,ys,v4,v5,rfl,l4,P4,n4,c4⟩ hT
   have hil:i<3 * p.m+1:=by
    have:=(List.getElem?_eq_some_iff.mp hy).1
    omega
   have hyu:y∈us:=by
    have:=List.mem_of_getElem? hy
    rw [← ekv] at this
    exact (List.mem_filter.mp this).1
   have er:Js H y=Gh p.c i (p.f i):=by
    have e1:(kv.map (Js H))[i]? = some (Js H y):=by rw [List.getElem?_map,hy]; rfl
    rw [hk,DW (CN.Gs hil)] at e1
    exact (Option.some.inj e1).symm
   obtain ⟨T1,rfl,ht⟩:=A.r y hyu
   rw [er] at ht
   have ho:=A.O.Vw hil
   have hz:=CN.Gs (p:=p) hil
   have nx:∀ {H':Hp},Al H4 H'->(¬ (∃ a b s,p.f i=.cp a b s) \/ Dk.testBit i=false)->Al H H'/\H' D3=some (.lst kv)/\∃ (ts:List (Nat × Nat × Int)) (ys:List V) (v4 v5:Option V),[some (V.ref D),some x,some (.int (Dk:Nat)),some (.ref L),some (.int (i:Int)),some (.ref T1)]=[some (.ref D),some x,some (.int (Dk:Nat)),some (.ref L),v4,v5]/\H' L=some (.lst ys)/\Paired (fun t v=>TupAt H' (Yy t) v) ts ys/\ts.length<=i+1/\∀ a b s,(a,b,s)∈ts ↔ ∃ k,k<i+1/\p.kb[k]? = some (.cp a b s)/\Dk.testBit k=true:=fun s h=>by
    refine ⟨s4.trans s,s _ _ b4,ts,ys,_,_,rfl,s _ _ l4,Ai s P4,by omega,fun a b s'=>?_⟩
    rw [c4]
    constructor
    ·rintro ⟨k,hk,g⟩
     exact ⟨k,by omega,g⟩
    ·rintro ⟨k,hk,g1,g2⟩
     refine ⟨k,?_,g1,g2⟩
     by_cases e:k=i
     ·subst e
      rw [hz] at g1
      rcases h with h | h
      ·exact absurd ⟨a,b,s',Option.some.inj g1⟩ h
      ·rw [h] at g2
       cases g2
     ·omega
   have s5:=Az (o:=HO.tup [.int (i:Int),V.ref T1]) hT
   refine ⟨T0,_,rfl,.inl (.inl Ah),rfl,_,_,rfl,_,_,rfl,rfl,?_⟩
   generalize upd H4 T0 (HO.tup [.int (i:Int),V.ref T1])=H5 at s5 ⊢
   have ht5:=s5 _ _ (s4 _ _ ht)
   have l5:=s5 _ _ l4
   cases ef:p.f i with
   | pl w0 a =>
    rw [ef] at ht5 ho
    have ht5':H5 T1=some (.tup [.str w0,.str (p.c (30+i)),.str (p.c a)]):=ht5
    have nw:¬ V.str w0=V.str "coupler":=by rcases ho.2 with rfl | rfl <;> decide +kernel
    refine ⟨_,rfl,T1,_,_,_,rfl,rfl,.inl (.inl ht5'),Aj (j:=0) rfl,rfl,_,rfl,?_⟩
    rw [decide_eq_false nw]
    refine De (De ?_)
    exact nx s5 (.inl fun ⟨_,_,_,z⟩=>by rw [ef] at z; cases z)
   | cp a b s1 =>
    rw [ef] at ht5 ho hz
    obtain ⟨o1,o2,_⟩:=ho
    have ht5':H5 T1=some (.tup [.str "coupler",.str (p.c (30+i)),.str (wN a),.str (wN b),.int s1]):=by
     have e1:p.c a=wN a:=Ij (by omega)
     have e2:p.c b=wN b:=Ij (by omega)
     rw [← e1,← e2]
     exact ht5
    refine ⟨_,rfl,T1,_,_,_,rfl,rfl,.inl (.inl ht5'),Aj (j:=0) rfl,rfl,_,rfl,D_ ?_⟩
    refine ⟨_,rfl,_,rfl,_,_,rfl,rfl,(by show (0:Int)<=(i:Int); omega),_,_,rfl,rfl,rfl,_,rfl,?_⟩
    have eb:=Mh Dk ((i:Nat):Int)
    rw [Int.toNat_natCast] at eb
    have eb':decide (V.int (Builtin.bitAnd ((Dk:Int) / 2 ^ ((i:Nat):Int).toNat) 1)=V.int 1)=Dk.testBit i:=eb
    rw [eb']
    cases eD:Dk.testBit i with
    | false =>
     refine De ?_
     exact nx s5 (.inr eD)
    | true =>
     refine D_ ?_
     refine ⟨_,rfl,.inl ⟨rfl,_,.inl (.inl l5)⟩,rfl,_,rfl,T1,_,_,_,rfl,rfl,.inl (.inl ht5'),Aj (j:=2) rfl,_,_,rfl,rfl,rfl,_,rfl,T1,_,_,_,rfl,rfl,.inl (.inl ht5'),Aj (j:=3) rfl,_,_,rfl,rfl,_,rfl,T1,_,_,_,rfl,rfl,.inl (.inl ht5'),Aj (j:=4) rfl,by show 3<=sizeLine; decide,fun T6 hT6=>?_⟩
     rw [Tn (show a<4 by omega),Tn (show b<4 by omega)]
     have t6:=Az (o:=HO.tup (Yy (a,b,s1))) hT6
     have l6:=t6 _ _ l5
     have vl:=P4.length
     refine ⟨L,ys,_,rfl,rfl,l6,Aq (by omega),?_⟩
     have s46:=s5.trans t6
     refine ⟨fun b' o e=>?_,?_,ts++[(a,b,s1)],ys++[.ref T6],_,_,rfl,Ah,(DG (Ai s46 P4) l6).snoc (TupAt.upd ⟨T6,rfl,Ah⟩ l6),by rw [List.length_append]; show _+1<=_; omega,fun a' b' s'=>?_⟩
     ·rw [Av (Ao e hL)]
      exact s46 _ _ (s4 _ _ e)
     ·rw [Av (Ne.symm (Ao a0 hD3))]
      exact s46 _ _ b4
     ·rw [List.mem_append,c4,List.mem_singleton]
      constructor
      ·rintro (⟨k,hk,g⟩ | g)
       ·exact ⟨k,by omega,g⟩
       ·cases g
        exact ⟨i,by omega,hz,eD⟩
      ·rintro ⟨k,hk,g1,g2⟩
       by_cases e:k=i
       ·subst e
        rw [hz] at g1
        cases g1
        exact .inr rfl
       ·exact .inl ⟨k,by omega,g1,g2⟩
  ·rintro σ H4 ⟨s4,b4,ts,ys,v4,v5,rfl,l4,P4,n4,c4⟩
   rw [hkl] at n4 c4
   refine ⟨_,rfl,q L ts ys H4 hL s4 l4 P4 (fun a b s=>?_) (by omega)⟩
   rw [c4]
   exact ⟨fun ⟨k,_,g⟩=>⟨k,g⟩,fun ⟨k,g⟩=>⟨k,(CN.Cu g.1).1,g⟩⟩
noncomputable def YZ (K:PySem.W.Frag):Sp:=fun vs H Q _=>∃ (L T0:Addr) (ts:List (Nat × Nat × Int)) (ys:List V) (kk:Nat) (p0:Nat × Nat),vs=[.ref L,.int (kk:Nat),.ref T0]/\H L=some (.lst ys)/\Paired (fun t v=>TupAt H (Yy t) v) ts ys/\H T0=some (.tup (O8 p0))/\(∀ t∈ts,t.2.1<4)/\kk<=61 /\
 ∀ l ps zs H',H l=none->Al H H'->H' l=some (.lst zs)->Paired (fun q v=>TupAt H' (O8 q) v) ps zs->(∀ q∈ps,O_ (Hw ts kk) p0 q)->(∀ a,(a=p0 \/ a∈ps)->∀ q,Hw ts kk a q->q∈ps)->(∀ q∈ps,q.1<4/\q.2<61)->Q (.ref l) H'
theorem Ia:Ar ["_law_steps_here","_law_keys","_law_start","_law_found","_law_edge","_law_fresh","_law_board","_law_number","_law_first","_law_second","_law_shift","_law_there"] ["_law_steps_here","_law_keys","_law_start"] (Ae bI):=Bl
include N T in
theorem WT:Aw P w K mg base Bc 1 aD.fLk aD.dLk ["_law_steps_here","_law_keys","_law_start"] (YZ K):=by
 refine N.FLk.1.ok Ia (fun vs H Q E h=>?_) (fun cdv A outer s H vs Q E hr h=>?_)
 ·obtain ⟨L,T0,ts,ys,kk,p0,rfl,_⟩:=h
  rfl
 ·obtain ⟨L,T0,ts,ys,kk,p0,rfl,hL,hP,hT0,h4,h61,q⟩:=h
  have hu:=Ga hr
  refine ⟨_,(Af (BK (i:=3) Ia.nd rfl (Or.inl rfl) Qz)
   (Af (BK (i:=4) Ia.nd rfl (Or.inl rfl) (EY (Aa (pv 2) Ab)))
   (Af (PP PassesOwn.never (Bd (Pz (Nat.lt_of_succ_lt hu)) (pv 4) (EY Ab) (Bm _)) (Af (BK (i:=5) Ia.nd rfl (Or.inl rfl) (EY Ab))
   (Af (B_ PassesOwn.never rfl (Bb (pv 4)) (Ew rfl (Bh (BX (i:=6) Ia.nd rfl (Or.inl rfl)) (Bh (BX (i:=7) Ia.nd rfl (Or.inl rfl)) Ds))) (Ag (B_ PassesOwn.never rfl (Bb (pv 0)) (Ew rfl (Bh (BX (i:=8) Ia.nd rfl (Or.inl rfl)) (Bh (BX (i:=9) Ia.nd rfl (Or.inl rfl)) (Bh (BX (i:=10) Ia.nd rfl (Or.inl rfl)) Ds)))) (Af (BK (i:=11) Ia.nd rfl (Or.inl rfl) (CT (Aa (pv 9) (Aa (BJ CW (pv 7) (pv 10)) Ab))))
   (Ag (Ck (PW.pt (J1 (Bd Dw (pv 8) (pv 6) (Bm _)) (J1 (G4 E_ Hr Ac (Ax (An (K:=K) rfl) (pv 11) Ac (fun _ _=>rfl)) (pv 1)) (J3 (Qs (Nx hu (pv 11) (pv 3))))))) (Af (Ka hu (pv 3) (pv 11) JZ rfl)
   (Ag (Ca (Ea PySem.F.plainAttrs_list PySem.F.slot_list_append PySem.F.type_list_append Bp (pv 5) (Aa (pv 11) Ab))))) Bk))))))
   (Ag (BK (i:=4) Ia.nd rfl (Or.inl rfl) (pv 5))))))
   (Ag (A_ (Dv (Jo rfl) rfl T.list PyProof.Rows.boot_list (Aa (pv 3) Ab))))))),?_⟩
  intro d hd
  have s0:=Az (o:=HO.dT []) hd
  have a0:upd H d (HO.dT []) d=some (.dT (JN [])):=Ah
  generalize upd H d (HO.dT [])=H1 at s0 a0 ⊢
  refine ⟨_,rfl,by show 1<=sizeLine; decide,fun e he=>?_⟩
  obtain ⟨H2,eqH,s1,a1⟩:=Jr (o:=HO.lst [.ref T0]) he
  rw [eqH]
  have lz:=hP.length
  have fl:∀ {fs:List (Nat × Nat)},fs.Nodup->(∀ q∈fs,O_ (Hw ts kk) p0 q)->fs.length<=244:=fun nd h=>few nd fun q hq=>RC h4 h61 (h q hq)
  refine PK (fun σ H4=>∃ (fs es:List (Nat × Nat)) (es':List V) (e:Addr) (v5 v6 v7 v8 v9 v10 v11:Option V),σ=[some (.ref L),some (.int (kk:Nat)),some (.ref T0),some (.ref d),some (.ref e),v5,v6,v7,v8,v9,v10,v11]/\Al H H4/\H4 d=some (.dT (JN fs))/\H4 e=some (.lst es')/\Paired (fun q v=>TupAt H4 (O8 q) v) es es'/\RJ (Hw ts kk) p0 fs es) (ak d)
   ⟨[],[p0],[.ref T0],e,_,_,_,_,_,_,_,rfl,s0.trans s1,s1 _ _ a0,a1,.cons ⟨T0,rfl,s1 _ _ (s0 _ _ hT0)⟩ .nil,RJ.start⟩ ?_ ?_
  ·rintro σ H4 ⟨fs0,es,es',e,v5,v6,v7,v8,v9,v10,v11,rfl,s4,d4,e4,p4,I4⟩
   have fl0:=fl I4.nd I4.sd
   refine ⟨_,rfl,Nat.zero_le _,fun z hz=>?_⟩
   have sz:=Az (o:=HO.lst []) hz
   refine ⟨e,z,es',rfl,rfl,.inl (.inl (sz _ _ e4)),.inl (.inl Ah),_,rfl,?_⟩
   have d5:=sz _ _ d4
   have e5:=sz _ _ e4
   have p5:=Ai sz p4
   have s5:=s4.trans sz
   generalize upd H4 z (HO.lst [])=H5 at d5 e5 p5 s5 sz ⊢
   have el:=p4.length
   cases ees:es'.isEmpty with
   | true =>
    refine De ?_
    have een:es'=[]:=List.isEmpty_iff.mp ees
    subst een
    have esn:es=[]:=List.length_eq_zero_iff.mp el
    subst esn
    refine ⟨_,rfl,d,_,rfl,d5,fun l zs hl hp=>?_⟩
    have sl:=Az (o:=HO.lst zs) hl
    refine q l fs0 zs _ (s5.free hl) (s5.trans sl) Ah ?_ I4.sd I4.fin fun q hq=>RC h4 h61 (I4.sd q hq)
    have:=hp
    unfold JN at this
    have hm:∀ {fs:List (Nat × Nat)} {zs:List V},Paired (fun (kv:List Key × V) t=>∃ b,t=V.ref b/\H5 b=some (.tup (kv.1.map kV))) (fs.map fun q=>(kQ q,V.bl true)) zs->Paired (fun q v=>TupAt H5 (O8 q) v) fs zs:=by
     intro fs
     induction fs with
     | nil=>intro zs h; cases h; exact .nil
     | cons q fs ih =>
      intro zs h
      cases h with
      | cons a b=>exact .cons a (ih b)
    exact Ai sl (hm this)
   | false =>
    refine D_ ?_
    refine ⟨Nat.zero_le _,fun f hf=>?_⟩
    have sf:=Az (o:=HO.lst []) hf
    have C0:RP H (upd H5 f (.lst [])) d e f fs0 [] es es' []:=⟨s5.trans sf,sf _ _ d5,sf _ _ e5,Ah,Ai sf p5,.nil,hd,s5.free hf,Ao e5 hf⟩
    generalize upd H5 f (HO.lst [])=H6 at C0 sf ⊢
    refine ⟨_,rfl,e,rfl,⟨_,.inl (.inl C0.he)⟩,Eb (K:=K) (a:=e) (xs:=es') (fun i σ H7=>∃ (fs fr:List (Nat × Nat)) (fr':List V) (v6 v7 v8 v9 v10 v11:Option V),σ=[some (.ref L),some (.int (kk:Nat)),some (.ref T0),some (.ref d),some (.ref e),some (.ref f),v6,v7,v8,v9,v10,v11]/\RP H H7 d e f fs fr es es' fr'/\UG (Hw ts kk) p0 fs0 fs fr/\∀ a∈es.take i,∀ q,Hw ts kk a q->q∈fs)
     ⟨fs0,[],[],_,_,_,_,_,_,rfl,C0,I4.m,fun a ha=>(nomatch ha)⟩ (fun i σ H7 _ h=>by obtain ⟨_,_,_,_,_,_,_,_,_,_,C,_⟩:=h; exact .inl (.inl C.he)) ?_ ?_⟩
    ·rintro i x σ H7 hx ⟨fs,fr,fr',w6,w7,w8,w9,w10,w11,rfl,C7,M7,D7⟩
     obtain ⟨a,ha,T1,rfl,hT1⟩:=Eg C7.pe hx
     have hae:a∈es:=List.mem_of_getElem? ha
     refine ⟨T1,_,rfl,.inl (.inl hT1),rfl,_,_,rfl,_,_,rfl,rfl,?_⟩
     have tk:es.take (i+1)=es.take i++[a]:=by rw [List.take_add_one,ha]; rfl
     have L7:=C7.s _ _ hL
     refine ⟨_,rfl,L,rfl,⟨_,.inl (.inl L7)⟩,Eb (K:=K) (a:=L) (xs:=ys) (fun j σ H8=>∃ (fs fr:List (Nat × Nat)) (fr':List V) (v8 v9 v10 v11:Option V),σ=[some (.ref L),some (.int (kk:Nat)),some (.ref T0),some (.ref d),some (.ref e),some (.ref f),some (.int (a.1:Nat)),some (.int (a.2:Nat)),v8,v9,v10,v11]/\RP H H8 d e f fs fr es es' fr'/\UG (Hw ts kk) p0 fs0 fs fr/\(∀ a∈es.take i,∀ q,Hw ts kk a q->q∈fs)/\∀ q,Hw (ts.take j) kk a q->q∈fs)
      ⟨fs,fr,fr',_,_,_,_,rfl,C7,M7,D7,fun q hq=>by obtain ⟨_,ht,_⟩:=hq; exact (nomatch ht)⟩ (fun j σ H8 _ h=>by obtain ⟨_,_,_,_,_,_,_,_,C,_⟩:=h; exact .inl (.inl (C.s _ _ hL))) ?_ ?_⟩
     ·clear C7 M7 D7 hT1 L7
      rintro j y σ H8 hy ⟨fs,fr,fr',w8,w9,w10,w11,rfl,C8,M8,D8,J8⟩
      obtain ⟨t,ht,T2,rfl,hT2⟩:=Eg hP hy
      have htm:t∈ts:=List.mem_of_getElem? ht
      obtain ⟨t1,t2,t3⟩:=t
      have hT2':=C8.s _ _ hT2
      have tkt:ts.take (j+1)=ts.take j++[(t1,t2,t3)]:=by rw [List.take_add_one,ht]; rfl
      have sx:∀ {q},Hw (ts.take (j+1)) kk a q->Hw (ts.take j) kk a q \/ (t1=a.1/\t2=q.1/\(q.2:Int)=(a.2:Int)+t3/\q.2<kk):=fun h=>by
       obtain ⟨u,hu,g⟩:=h
       rw [tkt] at hu
       rcases List.mem_append.mp hu with z | z
       ·exact .inl ⟨u,z,g⟩
       ·rw [List.mem_singleton.mp z] at g
        exact .inr g
      refine ⟨T2,_,rfl,.inl (.inl hT2'),rfl,_,_,rfl,_,_,rfl,_,_,rfl,rfl,?_⟩
      refine ⟨_,rfl,_,rfl,_,rfl,_,_,rfl,rfl,by show 2<=sizeLine; decide,fun T3 hT3=>?_⟩
      have s9:=Az (o:=HO.tup [.int (t2:Nat),.int ((a.2:Int)+t3)]) hT3
      have C9:=C8.same s9
      have hT9:upd H8 T3 (HO.tup [.int (t2:Nat),.int ((a.2:Int)+t3)]) T3=some (.tup [.int (t2:Nat),.int ((a.2:Int)+t3)]):=Ah
      generalize upd H8 T3 (HO.tup [.int (t2:Nat),.int ((a.2:Int)+t3)])=H9 at C9 hT9 s9 ⊢
      have stay:(∀ q,(t1=a.1/\t2=q.1/\(q.2:Int)=(a.2:Int)+t3/\q.2<kk)->q∈fs)->∀ {H':Hp},H'=H9->∃ (fs fr:List (Nat × Nat)) (fr':List V) (v8 v9 v10 v11:Option V),[some (V.ref L),some (.int (kk:Nat)),some (.ref T0),some (.ref d),some (.ref e),some (.ref f),some (.int (a.1:Nat)),some (.int (a.2:Nat)),some (.int (t1:Nat)),some (.int (t2:Nat)),some (.int t3),some (.ref T3)]=[some (.ref L),some (.int (kk:Nat)),some (.ref T0),some (.ref d),some (.ref e),some (.ref f),some (.int (a.1:Nat)),some (.int (a.2:Nat)),v8,v9,v10,v11]/\RP H H' d e f fs fr es es' fr'/\UG (Hw ts kk) p0 fs0 fs fr/\(∀ a∈es.take i,∀ q,Hw ts kk a q->q∈fs)/\∀ q,Hw (ts.take (j+1)) kk a q->q∈fs:=fun h {H'} eH=>by
       subst eH
       exact ⟨fs,fr,fr',_,_,_,_,rfl,C9,M8,D8,fun q hq=>(sx hq).elim (J8 q) (h q)⟩
      refine ⟨_,rfl,_,rfl,rfl,_,rfl,?_⟩
      by_cases c1:t1=a.1
      ·have ec1:decide (V.int (t1:Nat)=V.int (a.1:Nat))=true:=decide_eq_true (by rw [c1])
       rw [ec1]
       refine D_ ?_
       refine ⟨_,rfl,T3,_,_,_,rfl,rfl,.inl (.inl hT9),Aj (j:=1) rfl,_,_,rfl,rfl,_,rfl,?_⟩
       refine DP (fun g1=>?_) (fun g1=>?_)
       ·have g1':(0:Int)<=(a.2:Int)+t3:=of_decide_eq_true g1
        refine ⟨_,rfl,_,_,rfl,rfl,_,rfl,?_⟩
        refine DP (fun g2=>?_) (fun g2=>?_)
        ·have g2':(a.2:Int)+t3<(kk:Nat):=of_decide_eq_true g2
         obtain ⟨n',en⟩:∃ n':Nat,(n':Int)=(a.2:Int)+t3:=⟨((a.2:Int)+t3).toNat,by omega⟩
         have hTk:H9 T3=some (.tup ((kQ (t2,n')).map kV)):=by
          rw [hT9,← en]
          rfl
         have hTp:H9 T3=some (.tup (O8 (t2,n'))):=hTk
         refine ⟨_,rfl,_,rfl,d,_,rfl,FT.t C9.hd hTk,_,rfl,?_⟩
         rw [Ni]
         by_cases c2:(t2,n')∈fs
         ·rw [decide_eq_true c2]
          refine De ?_
          refine stay (fun q hq=>?_) rfl
          obtain ⟨_,g3,g4,_⟩:=hq
          have:q=(t2,n'):=by
           obtain ⟨x,y⟩:=q
           dsimp only at g3 g4
           rw [g3]
           congr 1
           omega
          rw [this]
          exact c2
         ·rw [decide_eq_false c2]
          refine D_ ?_
          have f9:=fl M8.nd M8.sd
          refine ⟨_,rfl,_,rfl,d,_,rfl,J9.t C9.hd hTk (Aq (by unfold JN; rw [List.length_map]; omega)),?_⟩
          rw [RZ c2]
          obtain ⟨hf10,C10⟩:=C9.add hTp
          have fl10:=C9.pf.length
          have ra:O_ (Hw ts kk) p0 (t2,n'):=by
           have hs:Hw ts kk a (t2,n'):=⟨_,htm,c1,rfl,en,by show n'<kk; omega⟩
           rcases I4.ed a hae with z | z
           ·exact .one (z ▸ hs)
           ·exact .more (I4.sd a z) hs
          have M10:=M8.add c2 ra
          have frl:=M8.l
          refine ⟨_,rfl,.inl ⟨rfl,_,.inl (.inl hf10)⟩,_,rfl,f,fr',_,rfl,rfl,hf10,Aq (by omega),?_⟩
          refine ⟨_,_,_,_,_,_,_,rfl,C10,M10,fun a' ha' q hq=>List.mem_append_left _ (D8 a' ha' q hq),fun q hq=>?_⟩
          rcases sx hq with z | ⟨_,g3,g4,_⟩
          ·exact List.mem_append_left _ (J8 q z)
          ·have:q=(t2,n'):=by
            obtain ⟨x,y⟩:=q
            dsimp only at g3 g4
            rw [g3]
            congr 1
            omega
           rw [this]
           exact List.mem_append_right _ List.mem_cons_self
        ·refine De ?_
         refine stay (fun q hq=>absurd (decide_eq_true ?_) g2) rfl
         obtain ⟨_,_,g4,g5⟩:=hq
         show (a.2:Int)+t3<(kk:Nat)
         omega
       ·refine ⟨_,rfl,De (De ?_)⟩
        refine stay (fun q hq=>absurd (decide_eq_true ?_) g1) rfl
        obtain ⟨_,_,g4,g5⟩:=hq
        show (0:Int)<=(a.2:Int)+t3
        omega
      ·have ec1:decide (V.int (t1:Nat)=V.int (a.1:Nat))=false:=decide_eq_false fun z=>c1 (Int.ofNat_inj.mp (V.int.inj z))
       rw [ec1]
       refine De (De ?_)
       exact stay (fun q hq=>absurd hq.1 c1) rfl
     ·rintro σ H8 ⟨fs,fr,fr',w8,w9,w10,w11,rfl,C8,M8,D8,J8⟩
      rw [← lz,List.take_length] at J8
      refine ⟨fs,fr,fr',_,_,_,_,_,_,rfl,C8,M8,fun a' ha' q hq=>?_⟩
      rw [tk] at ha'
      rcases List.mem_append.mp ha' with z | z
      ·exact D8 a' z q hq
      ·rw [List.mem_singleton.mp z] at hq
       exact J8 q hq
    ·rintro σ H7 ⟨fs,fr,fr',w6,w7,w8,w9,w10,w11,rfl,C7,M7,D7⟩
     rw [← el,List.take_length] at D7
     refine ⟨_,rfl,⟨fs,fr,fr',f,_,_,_,_,_,_,_,rfl,C7.s,C7.hd,C7.hf,C7.pf,I4.next M7 D7⟩,?_⟩
     rw [RD C7.hd rfl C7.hf,RD d4 rfl e4,ees]
     have f7:=fl M7.nd M7.sd
     have ml:=M7.l
     have pl:=C7.pf.length
     cases efr:fr'.isEmpty with
     | true =>
      show 2 * (400 - fs.length)+0<2 * (400 - fs0.length)+1
      omega
     | false =>
      have:fr' ≠ []:=fun z=>by rw [z] at efr; cases efr
      have:=List.length_pos_iff.mpr this
      show 2 * (400 - fs.length)+1<2 * (400 - fs0.length)+1
      omega
  ·rintro σ H4 Q Q' hQ ⟨v,g1,g2,g3⟩
   refine ⟨v,g1,g2,fun z hz=>?_⟩
   obtain ⟨a,b,c,e1,e2,e3,e4,k,e5,g⟩:=g3 z hz
   exact ⟨a,b,c,e1,e2,e3,e4,k,e5,hQ _ _ g⟩
noncomputable def Nh (K:PySem.W.Frag):Sp:=fun vs H Q _=>∃ (a:Addr) (ns:List Int),vs=[.ref a]/\Ci K H a (ns.map V.int)/\ns.length<=63/\∀ H',Q (.bl true) H'
theorem Vj {z:Str} (dd:Addr) (h:(z == "row_sets")=false):([("row_sets",V.ref dd)]:List (Str × V)).lookup z=none:=by
 rw [List.lookup_cons,h]
 rfl
theorem gN {i:Nat} {v:V} {σ:St} {H:Hp} {Q:St->Hp->Prop} (h:Q (σ.set i (some v)) H):Ce i v σ H Q:=h
theorem Tu {c:TT} {t t2 u:TS} {D:Ends} {σ:St} {H:Hp} (P:St->Hp->Prop) (h1:∀ D':Ends,(∀ σ' H',P σ' H'->D'.nx σ' H')->VN c t t2 D' σ H) (h2:∀ σ' H',P σ' H'->u D σ' H'):YT (VN c t t2) u D σ H:=h1 { D with nx:=u D } h2
theorem fD (x:Int) (n:Nat):∃ m:Nat,x % ((1:Int) * 2 ^ ((n:Nat):Int).toNat)=(m:Int)/\m<2 ^ n:=by
 have h:(0:Int)<(1:Int) * 2 ^ ((n:Nat):Int).toNat:=by
  rw [Int.one_mul]
  exact Int.pow_pos (by decide)
 have h1:=Int.emod_nonneg x (Int.ne_of_gt h)
 have h2:=Int.emod_lt_of_pos x h
 refine ⟨(x % ((1:Int) * 2 ^ ((n:Nat):Int).toNat)).toNat,by omega,?_⟩
 have e:((1:Int) * 2 ^ ((n:Nat):Int).toNat)=((2 ^ n:Nat):Int):=by
  rw [Int.one_mul,Int.toNat_natCast,Int.natCast_pow]
  rfl
 rw [e] at h1 h2 ⊢
 omega
noncomputable def dN (m c u:Nat):Nat:=(2 ^ m - 1) ||| (c * 2 ^ m) ||| (u * 2 ^ (2 * m+1))
theorem ZF (m c u:Nat):Builtin.bitOr (Builtin.bitOr ((1:Int) * 2 ^ ((m:Nat):Int).toNat - 1) ((c:Int) * 2 ^ ((m:Nat):Int).toNat)) ((u:Int) * 2 ^ ((2:Int) * ((m:Nat):Int)+1).toNat)=((dN m c u:Nat):Int):=by
 have e1:((1:Int) * 2 ^ ((m:Nat):Int).toNat - 1)=((2 ^ m - 1:Nat):Int):=by
  have:0<2 ^ m:=Nat.two_pow_pos m
  rw [Int.one_mul,Int.toNat_natCast,Int.natCast_sub (by omega),Int.natCast_pow]
  rfl
 have e2:((c:Int) * 2 ^ ((m:Nat):Int).toNat)=((c * 2 ^ m:Nat):Int):=by
  rw [Int.toNat_natCast,Int.natCast_mul,Int.natCast_pow]
  rfl
 have e3:((u:Int) * 2 ^ ((2:Int) * ((m:Nat):Int)+1).toNat)=((u * 2 ^ (2 * m+1):Nat):Int):=by
  rw [show ((2:Int) * ((m:Nat):Int)+1).toNat=2 * m+1 by omega,Int.natCast_mul,Int.natCast_pow]
  rfl
 rw [e1,e2,e3,Eu,Eu]
 rfl
theorem W5 {m c u k:Nat} (h:k<m):(dN m c u).testBit k=true:=by
 unfold dN
 rw [Nat.testBit_or,Nat.testBit_or,Nat.testBit_two_pow_sub_one,decide_eq_true h]
 rfl
theorem ZL {m c u b:Nat} (hc:c<2 ^ (m+1)):(dN m c u).testBit (2 * m+1+b)=u.testBit b:=by
 unfold dN
 rw [Nat.testBit_or,Nat.testBit_or,Nat.testBit_two_pow_sub_one,decide_eq_false (by omega),Nat.testBit_mul_two_pow,Nat.testBit_mul_two_pow,show 2 * m+1+b - m=m+1+b by omega,Nat.testBit_lt_two_pow (Nat.lt_of_lt_of_le hc (Nat.pow_le_pow_right (by decide) (by omega))),show 2 * m+1+b - (2 * m+1)=b by omega,decide_eq_true (by omega)]
 simp
theorem Wm (n i:Nat):decide (V.int (Builtin.bitAnd ((n:Int) / 2 ^ ((i:Nat):Int).toNat) 1)=V.int 0) = !(n.testBit i):=by
 have h:=Mh n ((i:Nat):Int)
 rw [Int.toNat_natCast] at h
 have hn:Builtin.bitAnd ((n:Int) / 2 ^ ((i:Nat):Int).toNat) 1=0 \/ Builtin.bitAnd ((n:Int) / 2 ^ ((i:Nat):Int).toNat) 1=1:=by
  have e:((n:Int) / 2 ^ ((i:Nat):Int).toNat)=((n / 2 ^ i:Nat):Int):=by
   rw [Int.toNat_natCast,Int.natCast_ediv,Int.natCast_pow]
   rfl
  rw [e,show (1:Int)=((1:Nat):Int) from rfl,Rm,Nat.and_one_is_mod]
  have:=Nat.mod_lt (n / 2 ^ i) (show 2 > 0 by decide)
  omega
 rw [← h,Int.toNat_natCast]
 rw [Int.toNat_natCast] at hn
 rcases hn with e | e <;> rw [e] <;> decide +kernel
theorem P0 (d e:Nat):Builtin.bitOr (d:Int) ((1:Int) * 2 ^ ((e:Nat):Int).toNat)=((d ||| 2 ^ e:Nat):Int):=by
 rw [Int.one_mul,Int.toNat_natCast,show ((2:Int) ^ e)=((2 ^ e:Nat):Int) by rw [Int.natCast_pow]; rfl,Eu]
theorem NQ (d e j:Nat):(d ||| 2 ^ e).testBit j=true ↔ d.testBit j=true \/ j=e:=by
 rw [Nat.testBit_or,Bool.or_eq_true,Nat.testBit_two_pow,decide_eq_true_eq]
 exact ⟨fun h=>h.imp id Eq.symm,fun h=>h.imp id Eq.symm⟩
theorem Cj:Ar ["_law_script","_law_many","_law_keys","_law_asked","_law_shifts","_law_k","_law_rows_here","_law_couplers","_law_muted","_law_knobs","_law_steps_here","_law_relays","_law_board","_law_number","_law_due","_law_place","_law_there","_law_found"] ["_law_script"] (Ae J2):=Bl
theorem V0 {f:Addr} {fd:FuncData} (F:Cq K "law" "law" J2 f fd) (N:aQ K mg C Cy aD) (T:Txt K w.params mg C Cy aN aK aB aP aM) (F0:Mz K aB aP aM):Aw P w K mg base Bc 11 f fd ["_law_script"] (Nh K):=by
 have GCe:Aw P w K mg base Bc 1 aD.fCe aD.dCe ["_law_script","_law_k"] (Ur K):=TX N T
 have GLg:Aw P w K mg base Bc 2 aD.fLg aD.dLg ["_law_script","_law_many","_law_keys","_law_shifts"] (W0 K aB aP aM):=ZX N T
 have GLs:Aw P w K mg base Bc 1 aD.fLs aD.dLs ["_law_rows_here","_law_many","_law_knobs"] (XM K):=Wr N T
 have GOi:Aw P w K mg base Bc 9 aD.fOi aD.dOi ["self","rows"] (Y9 K aB aP aM C):=XN N T
 have GRi:Aw P w K mg base Bc 7 aD.fRi aD.dRi ["self","organ","knobs"] (Xo C Cy):=Y6 N T
 have GLk:Aw P w K mg base Bc 1 aD.fLk aD.dLk ["_law_steps_here","_law_keys","_law_start"] (YZ K):=WT N T
 have GRr:Aw P w K mg base Bc 1 aD.fRr aD.dRr ["self","key"] (XD Cy):=WY N T
 have GLw:Aw P w K mg base Bc 1 aD.fLw aD.dLw ["_law_found"] QS:=Xu N T
 refine F.ok Cj (fun vs H Q E h=>?_) (fun cdv A outer s H vs Q E hr h=>?_)
 ·obtain ⟨a,ns,rfl,_⟩:=h
  rfl
 ·obtain ⟨a,ns,rfl,hS,hlen,q⟩:=h
  have hu:=Ga hr
  have hrRi1:BL 8 _:=hr.mono (by decide)
  have hrCe:BL 1 _:=hr.mono (by decide)
  have hrLg:BL 2 _:=hr.mono (by decide)
  have hrLs:BL 1 _:=hr.mono (by decide)
  have hrOi:BL 9 _:=hr.mono (by decide)
  have hrRi:BL 7 _:=hr.mono (by decide)
  have hrLk:BL 1 _:=hr.mono (by decide)
  have hrRr:BL 1 _:=hr.mono (by decide)
  have hrLw:BL 1 _:=hr.mono (by decide)
  refine ⟨_,(Af (BK (i:=1) Cj.nd rfl (Or.inl rfl) (BJ CW Ac (BJ Dj (Am GCe hrCe rfl N.FCe.2.2 N.FCe.1.kp N.FCe.2.1 .nil Ay (Aa (pv 0) (Aa Ac Ab))) Ac)))
   (Af (BK (i:=2) Cj.nd rfl (Or.inl rfl) (BJ CW Ac (BJ Dj (Am GCe hrCe rfl N.FCe.2.2 N.FCe.1.kp N.FCe.2.1 .nil Ay (Aa (pv 0) (Aa Ac Ab))) Ac)))
   (Af (BK (i:=3) Cj.nd rfl (Or.inl rfl) (KZ rfl rfl T.list rfl T.range (pv 2)))
   (Af (Ck (Bd Dw (BJ Dj (BJ GJ (Am GCe hrCe rfl N.FCe.2.2 N.FCe.1.kp N.FCe.2.1 .nil Ay (Aa (pv 0) (Aa Ac Ab))) Ac) Ac) Ac (Bm _)) (Af (BK (i:=1) Cj.nd rfl (Or.inl rfl) (BR (O4 rfl) rfl T.min PyProof.Rows.boot_min (Aa (pv 1) (Aa Ac Ab))))
   (Af (BK (i:=2) Cj.nd rfl (Or.inl rfl) Ac)
   (Ag (BK (i:=3) Cj.nd rfl (Or.inl rfl) (EY (Aa Ac (Aa Ac (Aa Ac Ab)))))))) Bk)
   (Af (BK (i:=4) Cj.nd rfl (Or.inl rfl) (EY Ab))
   (Af (B_ PassesOwn.never rfl (CK rfl T.range (Aa (BJ CW (pv 1) Ac) Ab)) (BX (i:=5) Cj.nd rfl (Or.inl rfl)) (Ag (Ca (Ea PySem.F.plainAttrs_list PySem.F.slot_list_append PySem.F.type_list_append Bp (pv 4) (Aa (BJ Ge (BJ Dj (BJ GJ (BJ Dj (BJ Fi (Am GCe hrCe rfl N.FCe.2.2 N.FCe.1.kp N.FCe.2.1 .nil Ay (Aa (pv 0) (Aa (BJ CW Ac (pv 5)) Ab))) Ac) Ac) Ac) Ac) Ac) Ab)))))
   (Af (BK (i:=6) Cj.nd rfl (Or.inl rfl) (Am GLg hrLg rfl N.FLg.2.2 N.FLg.1.kp N.FLg.2.1 .nil Ay (Aa (pv 0) (Aa (pv 1) (Aa (pv 2) (Aa (pv 4) Ab))))))
   (Af (BK (i:=7) Cj.nd rfl (Or.inl rfl) (BJ Dj (BJ GJ (BJ Dj (BJ Fi (Am GCe hrCe rfl N.FCe.2.2 N.FCe.1.kp N.FCe.2.1 .nil Ay (Aa (pv 0) (Aa Ac Ab))) Ac) Ac) Ac) (BJ Et Ac (BJ CW (pv 1) Ac))))
   (Af (BK (i:=8) Cj.nd rfl (Or.inl rfl) (BJ Dj (BJ GJ (BJ Dj (BJ Fi (Am GCe hrCe rfl N.FCe.2.2 N.FCe.1.kp N.FCe.2.1 .nil Ay (Aa (pv 0) (Aa Ac Ab))) Ac) Ac) Ac) (BJ Et Ac (pv 1))))
   (Af (BK (i:=9) Cj.nd rfl (Or.inl rfl) (BJ Hn (BJ Hn (BJ Ge (BJ Et Ac (pv 1)) Ac) (BJ Et (pv 7) (pv 1))) (BJ Et (pv 8) (BJ CW (BJ Fi Ac (pv 1)) Ac))))
   (Af (BK (i:=10) Cj.nd rfl (Or.inl rfl) (Am GLs hrLs rfl N.FLs.2.2 N.FLs.1.kp N.FLs.2.1 .nil Ay (Aa (pv 6) (Aa (pv 1) (Aa (pv 9) Ab)))))
   (Af (BK (i:=11) Cj.nd rfl (Or.inl rfl) (Mq N.FRi.2.2 GRi hrRi1 rfl T.mCR N.FRi.2.1 .nil Ay (Aa (Mq N.FOi.2.2 GOi hr rfl T.mC N.FOi.2.1 .nil Ay (Aa (pv 6) Ab)) (Aa (pv 9) Ab))))
   (Af (B_ PassesOwn.never rfl (CK rfl T.range (Aa (pv 1) Ab)) (BX (i:=12) Cj.nd rfl (Or.inl rfl)) (Ag (B_ PassesOwn.never rfl (Bb (pv 3)) (BX (i:=13) Cj.nd rfl (Or.inl rfl)) (Af (BK (i:=14) Cj.nd rfl (Or.inl rfl) Ac)
   (Af (B_ PassesOwn.never rfl (Bb (Am GLk hrLk rfl N.FLk.2.2 N.FLk.1.kp N.FLk.2.1 .nil Ay (Aa (pv 10) (Aa (pv 2) (Aa (CT (Aa (pv 12) (Aa (pv 13) Ab))) Ab))))) (Ew rfl (Bh (BX (i:=15) Cj.nd rfl (Or.inl rfl)) (Bh (BX (i:=16) Cj.nd rfl (Or.inl rfl)) Ds))) (Ag (BK (i:=14) Cj.nd rfl (Or.inl rfl) (BJ Hn (pv 14) (BJ Et Ac (BJ CW (BJ Fi (pv 2) (pv 15)) (pv 16)))))))
   (Af (Ck (Bd Dw (BJ Jv (BJ Jy (pv 8) (pv 12)) Ac) Ac (Bm _)) (Ag (BK (i:=14) Cj.nd rfl (Or.inl rfl) (BJ Hn (pv 14) (BJ Et Ac (BJ CW (BJ Fi (pv 2) (pv 12)) (pv 13)))))) Bk)
   (Af (BK (i:=17) Cj.nd rfl (Or.inl rfl) (Cv (pv 11) T.clR N.FRr.2.2 GRr hrRr N.FRr.2.1 .nil Ay (Aa (BJ CW (BJ Fi (pv 2) (pv 12)) (pv 13)) Ab)))
   (Ag (Ck (PW.pt (JL (Dz (Ej (Am GLw hrLw rfl N.FLw.2.2 N.FLw.1.kp N.FLw.2.1 .nil Ay (Aa (pv 17) Ab)))) (Hc (Bd K8 (pv 17) (pv 14) (Bm _))))) (Ag (A_ JZ)) Bk)))))))))
   (Ag (A_ JZ))))))))))))))),?_⟩
  refine ⟨_,rfl,a,0,ns,rfl,hS,fun x0=>⟨_,_,rfl,rfl,(by show (0:Int)<4; decide),_,_,rfl,rfl,?_⟩⟩
  have x1:=Int.emod_nonneg x0 (show (4:Int) ≠ 0 by decide)
  have x2:=Int.emod_lt_of_pos x0 (show (0:Int)<4 by decide)
  obtain ⟨m0,em0⟩:∃ m0:Nat,1+x0 % 4=(m0:Int):=⟨(1+x0 % 4).toNat,by omega⟩
  show Ce 1 (V.int (1+x0 % 4)) _ _ _
  rw [em0]
  refine gN (i:=1) ?_
  refine ⟨_,rfl,a,1,ns,rfl,hS,fun y0=>⟨_,_,rfl,rfl,(by show (0:Int)<15; decide),_,_,rfl,rfl,?_⟩⟩
  have y1:=Int.emod_nonneg y0 (show (15:Int) ≠ 0 by decide)
  have y2:=Int.emod_lt_of_pos y0 (show (0:Int)<15 by decide)
  obtain ⟨k0,ek0⟩:∃ k0:Nat,1+y0 % 15=(k0:Int):=⟨(1+y0 % 15).toNat,by omega⟩
  show Ce 2 (V.int (1+y0 % 15)) _ _ _
  rw [ek0]
  refine gN (i:=2) ?_
  refine ⟨_,rfl,k0,rfl,by omega,fun pL hpL=>?_⟩
  have s1:=Az (o:=HO.lst ((List.range k0).map fun (i:Nat)=>V.int (i:Int))) hpL
  have a1:upd H pL (HO.lst ((List.range k0).map fun (i:Nat)=>V.int (i:Int))) pL=some (.lst (nV (List.range k0))):=Ah
  generalize upd H pL (HO.lst ((List.range k0).map fun (i:Nat)=>V.int (i:Int)))=H1 at s1 a1 ⊢
  show Ce 3 (V.ref pL) _ _ _
  refine gN (i:=3) ?_
  dsimp only
  refine Tu (fun σ' H'=>Al H H'/\∃ (m kk:Nat) (pA:Addr) (as:List Nat),σ'=[some (.ref a),some (.int (m:Nat)),some (.int (kk:Nat)),some (.ref pA),none,none,none,none,none,none,none,none,none,none,none,none,none,none]/\1<=m/\m<=4/\1<=kk/\kk<=61/\H' pA=some (.lst (nV as))/\∀ n∈as,n<kk) (fun D' rest=>?_) ?_
  ·refine ⟨_,rfl,a,1,ns,rfl,s1.seq hS,fun y0=>⟨_,_,rfl,rfl,⟨by decide,by decide⟩,_,_,rfl,rfl,(by show (0:Int)<16; decide),rfl,_,rfl,DP (fun _=>?_) (fun _=>?_)⟩⟩
   ·refine ⟨_,rfl,_,_,rfl,?_⟩
    obtain ⟨m3,em3,g1,g2⟩:∃ m3:Nat,(if (2:Int)<(m0:Int) then (2:Int) else (m0:Int))=(m3:Int)/\1<=m3/\m3<=4:=by
     by_cases h:(2:Int)<(m0:Int)
     ·exact ⟨2,by rw [if_pos h]; rfl,by decide,by decide⟩
     ·exact ⟨m0,by rw [if_neg h],by omega,by omega⟩
    show Ce 1 (V.int (if (2:Int)<(m0:Int) then (2:Int) else (m0:Int))) _ _ _
    rw [em3]
    refine gN (i:=1) ?_
    refine ⟨by show 3<=sizeLine; decide,fun pM hpM=>?_⟩
    exact rest _ _ ⟨s1.trans (Az hpM),m3,61,pM,[0,30,60],rfl,g1,g2,by decide,by decide,Ah,by decide⟩
   ·exact rest _ _ ⟨s1,m0,k0,pL,List.range k0,rfl,by omega,by omega,by omega,by omega,a1,fun n hn=>List.mem_range.mp hn⟩
  clear em0 ek0 x1 x2 y1 y2 a1 s1
  rintro σ H2 ⟨s2,m,kk,pA,as,rfl,m1,m4,k1,k61,hA2,hAs⟩
  refine ⟨Hk (by simp),fun pS hpS=>?_⟩
  have t3:=Az (o:=HO.lst []) hpS
  have a3:upd H2 pS (HO.lst []) pS=some (.lst (([]:List Int).map V.int)):=Ah
  generalize upd H2 pS (HO.lst [])=H3 at t3 a3 ⊢
  refine ⟨_,rfl,_,_,rfl,rfl,_,rfl,by omega,by omega,?_⟩
  have em1:((m:Int)+1).toNat=m+1:=by omega
  rw [em1]
  refine DN (lo:=0) (n:=m+1) (fun i σ H4=>Al H2 H4/\∃ (sh:List Int) (v5:Option V),σ=[some (.ref a),some (.int (m:Nat)),some (.int (kk:Nat)),some (.ref pA),some (.ref pS),v5,none,none,none,none,none,none,none,none,none,none,none,none]/\H4 pS=some (.lst (sh.map V.int))/\sh.length=i/\∀ s∈sh,-3<=s/\s<=3) ⟨t3,[],_,rfl,a3,rfl,fun s hs=>(nomatch hs)⟩ ?_ ?_
  ·rintro i σ H4 hi ⟨s4,sh,v5,rfl,a4,l4,b4⟩
   refine ⟨_,rfl,.inl ⟨rfl,_,.inl (.inl a4)⟩,_,rfl,_,rfl,_,_,rfl,rfl,a,4+i,ns,?_,(s2.trans s4).seq hS,fun z=>⟨_,_,rfl,rfl,.inr ⟨by decide,by decide⟩,_,_,rfl,rfl,(by show (0:Int)<2147483647; decide),_,_,rfl,rfl,⟨by decide,by decide⟩,_,_,rfl,rfl,(by show (0:Int)<7; decide),_,_,rfl,rfl,pS,_,_,rfl,rfl,a4,Aq (by rw [List.length_map]; omega),?_⟩⟩
   ·have:(4:Int)+(0+(i:Int))=((4+i:Nat):Int):=by omega
    show [V.ref a,V.int ((4:Int)+(0+(i:Int)))]=_
    rw [this]
   ·have z1:=Int.emod_nonneg (z * 397204094 % 2147483647 / 4) (show (7:Int) ≠ 0 by decide)
    have z2:=Int.emod_lt_of_pos (z * 397204094 % 2147483647 / 4) (show (0:Int)<7 by decide)
    refine ⟨fun b o e=>?_,sh++[z * 397204094 % 2147483647 / 4 % 7 - 3],_,rfl,by rw [Ah,List.map_append]; rfl,by rw [List.length_append,l4]; rfl,fun s hs=>?_⟩
    ·rw [Av (Ao e hpS)]
     exact s4 _ _ e
    ·rcases List.mem_append.mp hs with h | h
     ·exact b4 s h
     ·rw [List.mem_singleton.mp h]
      omega
  rintro σ H4 ⟨s4,sh,v5,rfl,a4,l4,b4⟩
  have s04:=s2.trans s4
  refine ⟨_,rfl,_,rfl,_,rfl,_,rfl,a,pS,ns,sh,m,kk,rfl,s04.seq hS,a4,l4,b4,m1,m4,k1,k61,F0,fun pR p rows vs9 H5 hpR RW p1 p2 p3 O B rl=>?_⟩
  have s05:=s04.trans RW.s
  have hA5:=RW.s _ _ (s4 _ _ hA2)
  clear hA2 a3 t3
  refine ⟨_,rfl,a,3,ns,rfl,s05.seq hS,fun z3=>?_⟩
  obtain ⟨cN,ecN,lcN⟩:=fD (z3 * 1343714438 % 2147483647 / 4) (m+1)
  have hp2:∀ n:Nat,(0:Int)<(1:Int) * 2 ^ ((n:Nat):Int).toNat:=fun n=>by rw [Int.one_mul]; exact Int.pow_pos (by decide)
  have em2:((m:Nat):Int)+1=((m+1:Nat):Int):=by omega
  refine ⟨_,_,rfl,rfl,.inr ⟨by decide,by decide⟩,_,_,rfl,rfl,(by show (0:Int)<2147483647; decide),_,_,rfl,rfl,⟨by decide,by decide⟩,_,rfl,_,_,rfl,rfl,_,_,rfl,rfl,⟨by omega,by omega,by decide⟩,_,_,rfl,rfl,(by have:=hp2 (m+1); rw [← em2] at this; exact this),?_⟩
  show Ce 7 (V.int (z3 * 1343714438 % 2147483647 / 4 % ((1:Int) * 2 ^ (((m:Nat):Int)+1).toNat))) _ _ _
  rw [em2,ecN]
  refine gN (i:=7) ?_
  refine ⟨_,rfl,a,9,ns,rfl,s05.seq hS,fun z4=>?_⟩
  obtain ⟨mu,emu,lmu⟩:=fD (z4 * 1226874159 % 2147483647 / 4) m
  refine ⟨_,_,rfl,rfl,.inr ⟨by decide,by decide⟩,_,_,rfl,rfl,(by show (0:Int)<2147483647; decide),_,_,rfl,rfl,⟨by decide,by decide⟩,_,rfl,_,_,rfl,rfl,⟨by omega,by omega,by decide⟩,_,_,rfl,rfl,hp2 m,?_⟩
  show Ce 8 (V.int (z4 * 1226874159 % 2147483647 / 4 % ((1:Int) * 2 ^ ((m:Nat):Int).toNat))) _ _ _
  rw [emu]
  refine gN (i:=8) ?_
  have lc64:cN<2 ^ 6:=Nat.lt_of_lt_of_le lcN (Nat.pow_le_pow_right (by decide) (by omega))
  have lu64:mu<2 ^ 6:=Nat.lt_of_lt_of_le lmu (Nat.pow_le_pow_right (by decide) (by omega))
  refine ⟨_,rfl,_,_,rfl,rfl,⟨by omega,by omega,by decide⟩,_,_,rfl,rfl,_,rfl,_,rfl,_,_,rfl,rfl,⟨by omega,by omega,by omega⟩,_,_,rfl,rfl,_,rfl,_,rfl,_,_,rfl,rfl,.inr ⟨by omega,by omega⟩,_,_,rfl,rfl,_,_,rfl,rfl,⟨by omega,by omega,by omega⟩,_,_,rfl,rfl,?_⟩
  show Ce 9 (V.int (Builtin.bitOr (Builtin.bitOr ((1:Int) * 2 ^ ((m:Nat):Int).toNat - 1) ((cN:Int) * 2 ^ ((m:Nat):Int).toNat)) ((mu:Int) * 2 ^ ((2:Int) * ((m:Nat):Int)+1).toNat))) _ _ _
  rw [ZF]
  refine gN (i:=9) ?_
  obtain ⟨R5,O5,eL⟩:=B.fin RW.p (by rw [Fo,CN.Eo]; omega) (by rw [Fo,CN.Eo]; omega) (fun b hb=>by obtain ⟨j,_,_,rfl⟩:=CN.Kd O.m4 (by rw [List.take_length]; exact hb:b∈(BW p.c p.sz).take (BW p.c p.sz).length); exact O.k61) (by rw [CN.Ha]; omega) (fun r hr=>by obtain ⟨j,_,_,rfl⟩:=CN.J0 (by rw [List.take_length]; exact hr:r∈p.rk.take p.rk.length); have:=O.k61; show p.kk<=97; omega) (by rw [Fj,CN.Ii]; omega) O.bnd O.fJ O.knd (by omega)
  have vl:=RW.p.length
  have KL:eY p H5 vs9:=⟨O,R5,O5.ek,by omega⟩
  refine ⟨_,rfl,_,rfl,_,rfl,pR,p,vs9,_,dN m cN mu,rfl,RW.d,KL,fun pT ts ys H6 hpT s6 hl6 P6 Tl6 tl6=>?_⟩
  have h4:∀ t∈ts,t.2.1<4:=fun t ht=>by
   obtain ⟨k,hk,_⟩:=(Tl6 t.1 t.2.1 t.2.2).mp ht
   obtain ⟨hk',e⟩:=CN.Cu hk
   have ho:=O.Vw hk'
   rw [← e] at ho
   have:=ho.2.1
   omega
  refine ⟨_,rfl,?_⟩
  intro x dx nx ndx nex
  have sx:Al H6 (upd (upd H6 dx (.own x)) x (.ins C dx [])):=fun b o e=>by
   rw [Av (Ao e nx),Av (Ao e ndx)]
   exact e
  have R6:Rows H6 (Js H5) vs9:=R5.mono s6
  refine ⟨x,dx,pR,vs9,Js H5,BW p.c p.sz,p.rk,Bu p.c p.kb,rfl,Ah,sx _ _ (s6 _ _ RW.d),R6.mono sx,O5,fun H10 OA SXh=>⟨rfl,?_⟩⟩
  rw [eL] at OA
  have s610:Al H6 H10:=fun b o e=>SXh b o (sx b o e) (Ao e nx)
  clear SXh sx nx ndx nex R6
  refine ⟨_,rfl,?_⟩
  intro y dy ny ndy ney
  have sy:Al H10 (upd (upd H10 dy (.own y)) y (.ins Cy dy [])):=fun b o e=>by
   rw [Av (Ao e ny),Av (Ao e ndy)]
   exact e
  refine ⟨y,dy,x,p.c,p.sz,p.rk,p.kb,p.ls,dN m cN mu,rfl,Ah,OA.mono sy,O.kbs,chG O,fun rw H12 SXy RA lr hrow=>⟨rfl,?_⟩⟩
  have s1012:Al H10 H12:=fun b o e=>SXy b o (sy b o e) (Ao e ny)
  clear SXy sy ny ndy ney
  have s612:=s610.trans s1012
  have hA12:=s612 _ _ (s6 _ _ hA5)
  have T12:=s612 _ _ hl6
  have P12:=Ai s612 P6
  have rs:p.sz.sum=kk * m:=by rw [CN.Qm,p1,p2]
  rw [rs] at lr hrow
  clear OA s610 s1012 RW R5 O5 B KL eL
  refine ⟨_,rfl,_,rfl,by omega,by omega,?_⟩
  rw [Int.toNat_natCast]
  refine DN (lo:=0) (n:=m) (fun i σ H4=>Al H12 H4/\∃ v5 v12 v13 v14 v15 v16 v17,σ=[some (.ref a),some (.int (m:Nat)),some (.int (kk:Nat)),some (.ref pA),some (.ref pS),v5,some (.ref pR),some (.int (cN:Nat)),some (.int (mu:Nat)),some (.int ((dN m cN mu:Nat):Int)),some (.ref pT),some (.ref y),v12,v13,v14,v15,v16,v17]) ⟨Al.refl _,_,_,_,_,_,_,_,rfl⟩ ?_ ?_
  ·rintro b σ H4 hb ⟨s4',v5,v12,v13,v14,v15,v16,v17,rfl⟩
   have eb:((0:Int)+(b:Int))=((b:Nat):Int):=by omega
   rw [eb]
   refine ⟨_,rfl,pA,rfl,⟨_,.inl (.inl (s4' _ _ hA12))⟩,Eb (K:=K) (a:=pA) (xs:=nV as) (fun i σ H4=>Al H12 H4/\∃ v5 v13 v14 v15 v16 v17,σ=[some (.ref a),some (.int (m:Nat)),some (.int (kk:Nat)),some (.ref pA),some (.ref pS),v5,some (.ref pR),some (.int (cN:Nat)),some (.int (mu:Nat)),some (.int ((dN m cN mu:Nat):Int)),some (.ref pT),some (.ref y),some (.int (b:Nat)),v13,v14,v15,v16,v17]) ⟨s4',_,_,_,_,_,_,rfl⟩ (fun i σ H4 _ h=>.inl (.inl (h.1 _ _ hA12))) ?_ ?_⟩
   ·clear s4'
    rintro i nv σ H4 hi ⟨s4',v5,v13,v14,v15,v16,v17,rfl⟩
    obtain ⟨n,hn,rfl⟩:=List.mem_map.mp (List.mem_of_getElem? hi)
    have hnk:=hAs n hn
    refine ⟨_,rfl,_,rfl,_,rfl,_,rfl,by show 2<=sizeLine; decide,fun T0 hT0=>?_⟩
    have t5:=Az (o:=HO.tup (O8 (b,n))) hT0
    have a5:upd H4 T0 (HO.tup (O8 (b,n))) T0=some (.tup (O8 (b,n))):=Ah
    generalize upd H4 T0 (HO.tup (O8 (b,n)))=H5' at t5 a5 ⊢
    have s5:=s4'.trans t5
    refine ⟨pT,T0,ts,ys,kk,(b,n),rfl,s5 _ _ T12,Ai s5 P12,a5,h4,k61,fun l ps zs H7 hl s7 l7 P7 snd cls on=>?_⟩
    have s07:=s5.trans s7
    refine ⟨l,rfl,⟨_,.inl (.inl l7)⟩,Eb (K:=K) (a:=l) (xs:=zs) (fun j σ H8=>Al H7 H8/\∃ (due:Nat) (v5 v15 v16 v17:Option V),σ=[some (.ref a),some (.int (m:Nat)),some (.int (kk:Nat)),some (.ref pA),some (.ref pS),v5,some (.ref pR),some (.int (cN:Nat)),some (.int (mu:Nat)),some (.int ((dN m cN mu:Nat):Int)),some (.ref pT),some (.ref y),some (.int (b:Nat)),some (.int (n:Nat)),some (.int (due:Nat)),v15,v16,v17]/\∀ t,due.testBit t=true ↔ ∃ q∈ps.take j,t=kk * q.1+q.2) ⟨Al.refl _,0,_,_,_,_,rfl,fun t=>by rw [Nat.zero_testBit]; exact ⟨fun z=>(by cases z),fun ⟨_,hq,_⟩=>(nomatch hq)⟩⟩ (fun j σ H8 _ h=>.inl (.inl (h.1 _ _ l7))) ?_ ?_⟩
    ·rintro j v σ H8 hj ⟨s8,due,v5,v15,v16,v17,rfl,bits⟩
     obtain ⟨qq,hq,T9,rfl,hT9⟩:=Eg P7 hj
     obtain ⟨o1,o2⟩:=on qq (List.mem_of_getElem? hq)
     refine ⟨T9,_,rfl,.inl (.inl (s8 _ _ hT9)),rfl,_,_,rfl,_,_,rfl,rfl,?_⟩
     have le:kk * qq.1+qq.2<=400:=by
      have:kk * qq.1<=61 * 4:=Nat.mul_le_mul (by omega) (by omega)
      omega
     have ee:((kk:Nat):Int) * ((qq.1:Nat):Int)+((qq.2:Nat):Int)=((kk * qq.1+qq.2:Nat):Int):=by rw [Int.natCast_add,Int.natCast_mul]
     refine ⟨_,rfl,_,rfl,_,rfl,_,_,rfl,rfl,.inl ⟨by omega,by omega⟩,_,rfl,_,_,rfl,rfl,_,_,rfl,rfl,⟨by rw [ee]; omega,by rw [ee]; omega,by decide⟩,_,_,rfl,rfl,?_⟩
     show Ce 14 (V.int (Builtin.bitOr (due:Int) ((1:Int) * 2 ^ (((kk:Nat):Int) * ((qq.1:Nat):Int)+((qq.2:Nat):Int)).toNat))) _ _ _
     rw [ee,P0]
     refine gN (i:=14) ?_
     refine ⟨s8,_,_,_,_,_,rfl,fun t=>?_⟩
     rw [NQ,bits]
     have tk:ps.take (j+1)=ps.take j++[qq]:=by rw [List.take_add_one,hq]; rfl
     rw [tk]
     constructor
     ·rintro (⟨q',h1,h2⟩ | h)
      ·exact ⟨q',List.mem_append_left _ h1,h2⟩
      ·exact ⟨qq,List.mem_append_right _ List.mem_cons_self,h⟩
     ·rintro ⟨q',h1,h2⟩
      rcases List.mem_append.mp h1 with h | h
      ·exact .inl ⟨q',h,h2⟩
      ·rw [List.mem_singleton.mp h] at h2
       exact .inr h2
    ·rintro σ H8 ⟨s8,due,v5,v15,v16,v17,rfl,bits⟩
     rw [← P7.length,List.take_length] at bits
     have s08:=s07.trans s8
     have le:kk * b+n<kk * m:=by
      have:kk * (b+1)<=kk * m:=Nat.mul_le_mul_left _ (by omega)
      rw [Nat.mul_add] at this
      omega
     have le2:kk * m<=61 * 4:=Nat.mul_le_mul (by omega) (by omega)
     have ee:((kk:Nat):Int) * ((b:Nat):Int)+((n:Nat):Int)=((kk * b+n:Nat):Int):=by rw [Int.natCast_add,Int.natCast_mul]
     dsimp only
     refine Tu (fun σ' H'=>H'=H8/\∃ (due:Nat) (v5:Option V),σ'=[some (.ref a),some (.int (m:Nat)),some (.int (kk:Nat)),some (.ref pA),some (.ref pS),v5,some (.ref pR),some (.int (cN:Nat)),some (.int (mu:Nat)),some (.int ((dN m cN mu:Nat):Int)),some (.ref pT),some (.ref y),some (.int (b:Nat)),some (.int (n:Nat)),some (.int (due:Nat)),v15,v16,v17]/\∀ t,due.testBit t=true ↔ (∃ q∈ps,t=kk * q.1+q.2) \/ (mu.testBit b=false/\t=kk * b+n)) (fun D' rest=>?_) ?_
     ·refine ⟨_,rfl,_,rfl,_,_,rfl,rfl,(by show (0:Int)<=(b:Int); omega),_,_,rfl,rfl,rfl,_,rfl,?_⟩
      have ez:=Wm mu b
      rw [ez]
      cases em:mu.testBit b with
      | true =>
       refine De ?_
       exact rest _ _ ⟨rfl,due,_,rfl,fun t=>by rw [bits]; exact ⟨.inl,fun z=>z.resolve_right fun z=>by have:=z.1; rw [em] at this; cases this⟩⟩
      | false =>
       refine D_ ?_
       refine ⟨_,rfl,_,rfl,_,rfl,_,_,rfl,rfl,.inl ⟨by omega,by omega⟩,_,rfl,_,_,rfl,rfl,_,_,rfl,rfl,⟨by rw [ee]; omega,by rw [ee]; omega,by decide⟩,_,_,rfl,rfl,?_⟩
       show Ce 14 (V.int (Builtin.bitOr (due:Int) ((1:Int) * 2 ^ (((kk:Nat):Int) * ((b:Nat):Int)+((n:Nat):Int)).toNat))) _ _ _
       rw [ee,P0]
       refine gN (i:=14) ?_
       refine rest _ _ ⟨rfl,_,_,rfl,fun t=>?_⟩
       rw [NQ,bits]
       exact ⟨fun z=>z.imp id fun z=>⟨em,z⟩,fun z=>z.imp id fun z=>z.2⟩
     clear bits due
     rintro σ H8' ⟨rfl,due,v5,rfl,bits⟩
     have RA8:=RA.mono s08
     obtain ⟨d2,dd2,ob2,f1,f2⟩:=RA8.ex
     refine ⟨_,rfl,y,d2,_,rfl,f1,Vj dd2 (by decide +kernel),_,rfl,_,rfl,_,_,rfl,rfl,.inl ⟨by omega,by omega⟩,_,rfl,_,_,rfl,rfl,y,rw,kk * b+n,?_,RA8,by omega,?_⟩
     ·show [V.ref y,V.int (((kk:Nat):Int) * ((b:Nat):Int)+((n:Nat):Int))]=_
      rw [ee]
     have ed:rw.getD (kk * b+n) 0=due:=by
      have hr9:=hrow (kk * b+n) le
      rw [← p1,← p2] at *
      refine Up O Tl6 (by omega) hnk hr9 (fun k hk=>W5 hk) snd cls fun t=>?_
      rw [ZL lcN]
      exact bits t
     show Ce 17 (V.int ((rw.getD (kk * b+n) 0:Nat):Int)) _ _ _
     rw [ed]
     refine gN (i:=17) ?_
     refine ⟨_,rfl,_,rfl,_,rfl,De ?_⟩
     refine ⟨_,rfl,_,rfl,rfl,_,rfl,DP (fun z=>absurd z (by rw [decide_eq_true rfl]; decide)) (fun _=>?_)⟩
     exact ⟨s08,_,_,_,_,_,_,rfl⟩
   ·rintro σ H5' ⟨s5,v5,v13,v14,v15,v16,v17,rfl⟩
    exact ⟨s5,_,_,_,_,_,_,_,rfl⟩
  ·rintro σ H5' ⟨s5,v5,v12,v13,v14,v15,v16,v17,rfl⟩
   exact q _
end
end K31
end PartK31a
section PartK31z
set_option maxHeartbeats 4000000
theorem UL1 {α:Type} {us:List α} (h:us.length=1):∃ a,us=[a]:=match us,h with | [a],_=>⟨a,rfl⟩
theorem UL2 {α:Type} {us:List α} (h:us.length=2):∃ a b,us=[a,b]:=match us,h with | [a,b],_=>⟨a,b,rfl⟩
theorem UL3 {α:Type} {us:List α} (h:us.length=3):∃ a b c,us=[a,b,c]:=match us,h with | [a,b,c],_=>⟨a,b,c,rfl⟩
theorem UL4 {α:Type} {us:List α} (h:us.length=4):∃ a b c d,us=[a,b,c,d]:=match us,h with | [a,b,c,d],_=>⟨a,b,c,d,rfl⟩
theorem UL5 {α:Type} {us:List α} (h:us.length=5):∃ a b c d e,us=[a,b,c,d,e]:=match us,h with | [a,b,c,d,e],_=>⟨a,b,c,d,e,rfl⟩
namespace K31
open PySem L2 Og
section
variable {K:W.Frag}
noncomputable abbrev DA (K:W.Frag) (x:Str) (st:Stmt) (f:Addr):Prop:=W.nsIn K mainGlobals x=some (some (.ref f))/\∃ fd,Cq K x x st f fd
noncomputable abbrev MA (K:W.Frag) (C:Addr) (x q:Str) (st:Stmt) (f:Addr):Prop:=W.findIn K (.ref C) x=some (some (.ref f))/\W.isFn K (.ref f)=true/\∃ fd,Cq K x q st f fd
theorem FP {x q:Str} {st:Stmt} {f:Addr} {fd:FuncData} {ps:List Str} (F:Cq K x q st f fd) (hl:ps.length=1:=by rfl) (h:∀ (kV doc pm:Value) (an:Option Addr) (cdv ct:Value) (u:Value),bindArgs (W.fnOf x q (Dm st) (DQ st) (Ae st) .none kV doc pm an cdv ct) ⟨[u],[]⟩=pure (ps.zip [u]):=by intros; rfl):Binds K fd ps []:=F.binds fun kV doc pm an cdv ct us hu=>by obtain ⟨u,rfl⟩:=UL1 (hu.trans hl); exact h kV doc pm an cdv ct u
theorem El {x q:Str} {st:Stmt} {f:Addr} {fd:FuncData} {ps:List Str} (F:Cq K x q st f fd) (hl:ps.length=2:=by rfl) (h:∀ (kV doc pm:Value) (an:Option Addr) (cdv ct:Value) (u v:Value),bindArgs (W.fnOf x q (Dm st) (DQ st) (Ae st) .none kV doc pm an cdv ct) ⟨[u,v],[]⟩=pure (ps.zip [u,v]):=by intros; rfl):Binds K fd ps []:=F.binds fun kV doc pm an cdv ct us hu=>by obtain ⟨u,v,rfl⟩:=UL2 (hu.trans hl); exact h kV doc pm an cdv ct u v
theorem FN {x q:Str} {st:Stmt} {f:Addr} {fd:FuncData} {ps:List Str} (F:Cq K x q st f fd) (hl:ps.length=3:=by rfl) (h:∀ (kV doc pm:Value) (an:Option Addr) (cdv ct:Value) (u v a:Value),bindArgs (W.fnOf x q (Dm st) (DQ st) (Ae st) .none kV doc pm an cdv ct) ⟨[u,v,a],[]⟩=pure (ps.zip [u,v,a]):=by intros; rfl):Binds K fd ps []:=F.binds fun kV doc pm an cdv ct us hu=>by obtain ⟨u,v,a,rfl⟩:=UL3 (hu.trans hl); exact h kV doc pm an cdv ct u v a
theorem cF {x q:Str} {st:Stmt} {f:Addr} {fd:FuncData} {ps:List Str} (F:Cq K x q st f fd) (hl:ps.length=4:=by rfl) (h:∀ (kV doc pm:Value) (an:Option Addr) (cdv ct:Value) (u v a b:Value),bindArgs (W.fnOf x q (Dm st) (DQ st) (Ae st) .none kV doc pm an cdv ct) ⟨[u,v,a,b],[]⟩=pure (ps.zip [u,v,a,b]):=by intros; rfl):Binds K fd ps []:=F.binds fun kV doc pm an cdv ct us hu=>by obtain ⟨u,v,a,b,rfl⟩:=UL4 (hu.trans hl); exact h kV doc pm an cdv ct u v a b
end
theorem Uh {l:W.OpenLaw} {w:World} {K:W.Frag} {h:Heap} {mg:Str->Option Value} {fa:Addr} (X:K.In h) (G:h.Ns mainGlobals mg) (hfa:mg "law" = some (.ref fa))
  {C Cy aN aK aB aP aM p1 p2 p3 p4 p5 p6 b1 b2 b3 b4 b5 b6 b7 fWh fMd fNm fRo fTo fWi fPa fHp fCl fIk fSb fWm fHr fIr fCk fNu fCa fPl fLi fMy fSt fHa fMe fSh fUn fLe fDc fLp fLq fCb fCr fMu fUk fNb fLl fBs fBa fCe fLw fLg fLs fLk fOi fOb fOc fOk fOo fBk fOp fOr fOq fOe fOs fOm fOz fRi fRr fZ:Addr} {odZ anZ:Option Addr} {slZ:Array (Option Value)} {ocZ kVZ dcZ pmZ cdZ ctZ:Value}
  {tLET tML tMR tMLn tMB tm1 tm2 tm3 tm4 tm5 ttN_0 ttN_1 ttN_2 ttN_3 ttN_4 ttK_0 ttK_1 ttK_2 ttp1_0 ttp1_1 ttp2_0 ttp2_1 ttp3_0 ttp3_1 ttp4_0 ttp4_1 ttp4_2 ttp4_3 ttp5_0 ttp5_1 ttp5_2 ttp6_0 ttp6_1 ttp6_2 ttp6_3 ttb1_0 ttb1_1 ttb2_0 ttb2_1 ttb3_0 ttb3_1 ttb4_0 ttb4_1 ttb5_0 ttb5_1 ttb6_0 ttb6_1 ttb7_0 ttb7_1:Tok} {od_N od_K od_p1 od_p2 od_p3 od_p4 od_p5 od_p6 od_b1 od_b2 od_b3 od_b4 od_b5 od_b6 od_b7:Option Addr} {sl_N sl_K sl_p1 sl_p2 sl_p3 sl_p4 sl_p5 sl_p6 sl_b1 sl_b2 sl_b3 sl_b4 sl_b5 sl_b6 sl_b7:Array (Option Value)} {n_N n_K n_p1 n_p2 n_p3 n_p4 n_p5 n_p6 n_b1 n_b2 n_b3 n_b4 n_b5 n_b6 n_b7 nB nP nM:Nat} {eB eP eM:Array DictEntry}
  (FWh:DA K "is_whole" cJ fWh)
  (FMd:DA K "is_made_of" Zt fMd)
  (FNm:DA K "is_name" cC fNm)
  (FRo:DA K "rows_of" Zi fRo)
  (FTo:DA K "is_told" Z2 fTo)
  (FWi:DA K "is_within" bY fWi)
  (FPa:DA K "is_part" Zw fPa)
  (FHp:DA K "has_parts" Z6 fHp)
  (FCl:DA K "count_of_last_lines" aq fCl)
  (FIk:DA K "is_key_of" Zf fIk)
  (FSb:DA K "stands_behind_stop" Z8 fSb)
  (FWm:DA K "is_well_made" aL fWm)
  (FHr:DA K "has_room" dI fHr)
  (FIr:DA K "is_row" eE fIr)
  (FCk:DA K "check_rows" cQ fCk)
  (FNu:DA K "numbers_of" cR fNu)
  (FCa:DA K "count_in_all" Zx fCa)
  (FPl:DA K "places_of" Zr fPl)
  (FLi:DA K "lines_by_knob" au fLi)
  (FMy:DA K "may_be_member" bC fMy)
  (FSt:DA K "set_of" Z4 fSt)
  (FHa:DA K "has_member" d_ fHa)
  (FMe:DA K "members_of" Zv fMe)
  (FSh:DA K "shifted" cT fSh)
  (FUn:DA K "union_of" aG fUn)
  (FLe:DA K "led_to" dD fLe)
  (FDc:DA K "drawn_of" Wq fDc)
  (FLp:DA K "led_in_one_step" YM fLp)
  (FLq:DA K "led_in_all_steps" dw fLq)
  (FCb:DA K "coupled_by_each" Z3 fCb)
  (FCr:DA K "compiled_rows" cI fCr)
  (FMu:DA K "muted_boards" Zc fMu)
  (FUk:DA K "unmuted_keys" Zu fUk)
  (FNb:DA K "numbers_on_board" dj fNb)
  (FLl:DA K "led_by_line" d8 fLl)
  (FBs:DA K "brought_by_stop" Zk fBs)
  (FBa:DA K "brought_in_all" Zh fBa)
  (FCe:DA K "_law_cell_at" dJ fCe)
  (FLw:DA K "_law_whole" dh fLw)
  (FLg:DA K "_law_rows" cz fLg)
  (FLs:DA K "_law_steps" Z0 fLs)
  (FLk:DA K "_law_come_to" bI fLk)
  (aZ:W.nsIn K mainGlobals "law" = some (some (.ref fZ)))
  (lZ:K.lookup fZ=some ⟨ocZ,odZ,.func (W.fnOf "law" "law" (Dm J2) (DQ J2) (Ae J2) .none kVZ dcZ pmZ anZ cdZ ctZ),slZ⟩) (cZ:W.codeIn K cdZ "law" = true) (kZ:W.keepIn K (.ref fZ)=true)
  (aC:W.nsIn K mainGlobals "Organ" = some (some (.ref C)))
  (FOi:MA K C "__init__" "Organ.__init__" RM fOi)
  (FOb:MA K C "boards" "Organ.boards" cH fOb)
  (FOc:MA K C "key_count" "Organ.key_count" bJ fOc)
  (FOk:MA K C "key" "Organ.key" Z9 fOk)
  (FOo:MA K C "board_of" "Organ.board_of" bA fOo)
  (FBk:MA K C "board_of_knob" "Organ.board_of_knob" aF fBk)
  (FOp:MA K C "coupler" "Organ.coupler" cO fOp)
  (FOr:MA K C "ranks" "Organ.ranks" bj fOr)
  (FOq:MA K C "pipe_count" "Organ.pipe_count" dz fOq)
  (FOe:MA K C "pipe" "Organ.pipe" bz fOe)
  (FOs:MA K C "stop" "Organ.stop" eG fOs)
  (FOm:MA K C "mute" "Organ.mute" az fOm)
  (FOz:MA K C "knobs" "Organ.knobs" Zb fOz)
  (aCy:W.nsIn K mainGlobals "Relays" = some (some (.ref Cy)))
  (FRi:MA K Cy "__init__" "Relays.__init__" aY fRi)
  (FRr:MA K Cy "row_of" "Relays.row_of" b8 fRr)
  (pg2:W.plainGet K Cy Str.empty=true)
  (hd2:W.hasDictIn K Cy=true)
  (po2:W.plainOver K Cy=true)
  (sa2:W.findIn K (.ref Cy) "__setattr__" = some (some (.builtin "object.__setattr__")))
  (mkC2:W.makesIn K Cy=true)
  (kc2:W.keepIn K (.ref Cy)=true)
  (nr2:W.findIn K (.ref Cy) "row_sets" = some none)
  (pg:W.plainGet K C Str.empty=true)
  (hd:W.hasDictIn K C=true)
  (po:W.plainOver K C=true)
  (sa:W.findIn K (.ref C) "__setattr__" = some (some (.builtin "object.__setattr__")))
  (mkC:W.makesIn K C=true)
  (kc:W.keepIn K (.ref C)=true)
  (n_row_list_:W.findIn K (.ref C) "row_list" = some none)
  (n_board_list_:W.findIn K (.ref C) "board_list" = some none)
  (n_rank_list_:W.findIn K (.ref C) "rank_list" = some none)
  (n_knob_rows_:W.findIn K (.ref C) "knob_rows" = some none)
  (n_board_numbers_:W.findIn K (.ref C) "board_numbers" = some none)
  (n_rank_numbers_:W.findIn K (.ref C) "rank_numbers" = some none)
  (n_knob_numbers_:W.findIn K (.ref C) "knob_numbers" = some none)
  (n_key_places_:W.findIn K (.ref C) "key_places" = some none)
  (n_pipe_places_:W.findIn K (.ref C) "pipe_places" = some none)
  (n_knob_lines_:W.findIn K (.ref C) "knob_lines" = some none)
  (n_step_sets_:W.findIn K (.ref C) "step_sets" = some none)
  (zlen:W.nsIn K mainGlobals "len" = some none)
  (zisinstance:W.nsIn K mainGlobals "isinstance" = some none)
  (zint:W.nsIn K mainGlobals "int" = some none)
  (zbool:W.nsIn K mainGlobals "bool" = some none)
  (zstr:W.nsIn K mainGlobals "str" = some none)
  (zlist:W.nsIn K mainGlobals "list" = some none)
  (ztuple:W.nsIn K mainGlobals "tuple" = some none)
  (zall:W.nsIn K mainGlobals "all" = some none)
  (zany:W.nsIn K mainGlobals "any" = some none)
  (zsum:W.nsIn K mainGlobals "sum" = some none)
  (zrange:W.nsIn K mainGlobals "range" = some none)
  (zzip:W.nsIn K mainGlobals "zip" = some none)
  (zenumerate:W.nsIn K mainGlobals "enumerate" = some none)
  (zmax:W.nsIn K mainGlobals "max" = some none)
  (zreversed:W.nsIn K mainGlobals "reversed" = some none)
  (zmin:W.nsIn K mainGlobals "min" = some none)
  (zLET:W.nsIn K mainGlobals "LETTERS" = some (some (.str letters tLET)))
  (zML:W.nsIn K mainGlobals "MOST_LETTERS" = some (some (.int 8 tML)))
  (zMR:W.nsIn K mainGlobals "MOST_ROWS" = some (some (.int 150 tMR)))
  (zMLn:W.nsIn K mainGlobals "MOST_LINES" = some (some (.int 4 tMLn)))
  (zMB:W.nsIn K mainGlobals "MEMBERS_BELOW" = some (some (.int 1200 tMB)))
  (rN:W.nsIn K mainGlobals "NAMED" = some (some (.ref aN)))
  (rK:W.nsIn K mainGlobals "KNOBS" = some (some (.ref aK)))
  (rB:W.nsIn K mainGlobals "BOUNDS" = some (some (.ref aB)))
  (rP:W.nsIn K mainGlobals "PARTS" = some (some (.ref aP)))
  (rM:W.nsIn K mainGlobals "MOST_OF" = some (some (.ref aM)))
  (dB:K.lookup aB=some ⟨.type "dict",none,.dict eB nB,#[]⟩)
  (kB:W.KeysLit w.params eB.toList)
  (oB:(aB == sysModules)=false)
  (dP:K.lookup aP=some ⟨.type "dict",none,.dict eP nP,#[]⟩)
  (kP:W.KeysLit w.params eP.toList)
  (oP:(aP == sysModules)=false)
  (dM:K.lookup aM=some ⟨.type "dict",none,.dict eM nM,#[]⟩)
  (kM:W.KeysLit w.params eM.toList)
  (oM:(aM == sysModules)=false)
  (qp1:W.nsIn K aP "board" = some (some (.ref p1)))
  (qp2:W.nsIn K aP "stop" = some (some (.ref p2)))
  (qp3:W.nsIn K aP "mute" = some (some (.ref p3)))
  (qp4:W.nsIn K aP "coupler" = some (some (.ref p4)))
  (qp5:W.nsIn K aP "rank" = some (some (.ref p5)))
  (qp6:W.nsIn K aP "line" = some (some (.ref p6)))
  (qb1:W.nsIn K aB "keys" = some (some (.ref b1)))
  (qb2:W.nsIn K aB "leap" = some (some (.ref b2)))
  (qb3:W.nsIn K aB "pipes" = some (some (.ref b3)))
  (qb4:W.nsIn K aB "wind" = some (some (.ref b4)))
  (qb5:W.nsIn K aB "shift" = some (some (.ref b5)))
  (qb6:W.nsIn K aB "low" = some (some (.ref b6)))
  (qb7:W.nsIn K aB "high" = some (some (.ref b7)))
  (qn:W.nsIn K aB "new" = some none)
  (qb:W.nsIn K aB "board" = some none)
  (qr:W.nsIn K aB "rank" = some none)
  (ql:W.nsIn K aM "line" = some none)
  (qm1:W.nsIn K aM "board" = some (some (.int 5 tm1)))
  (qm2:W.nsIn K aM "stop" = some (some (.int 24 tm2)))
  (qm3:W.nsIn K aM "coupler" = some (some (.int 12 tm3)))
  (qm4:W.nsIn K aM "mute" = some (some (.int 5 tm4)))
  (qm5:W.nsIn K aM "rank" = some (some (.int 12 tm5)))
  (uN:K.lookup aN=some ⟨.type "tuple",od_N,.seq #[.str "board" ttN_0,.str "rank" ttN_1,.str "stop" ttN_2,.str "coupler" ttN_3,.str "mute" ttN_4] n_N,sl_N⟩)
  (uK:K.lookup aK=some ⟨.type "tuple",od_K,.seq #[.str "stop" ttK_0,.str "coupler" ttK_1,.str "mute" ttK_2] n_K,sl_K⟩)
  (up1:K.lookup p1=some ⟨.type "tuple",od_p1,.seq #[.str "new" ttp1_0,.str "keys" ttp1_1] n_p1,sl_p1⟩)
  (up2:K.lookup p2=some ⟨.type "tuple",od_p2,.seq #[.str "new" ttp2_0,.str "board" ttp2_1] n_p2,sl_p2⟩)
  (up3:K.lookup p3=some ⟨.type "tuple",od_p3,.seq #[.str "new" ttp3_0,.str "board" ttp3_1] n_p3,sl_p3⟩)
  (up4:K.lookup p4=some ⟨.type "tuple",od_p4,.seq #[.str "new" ttp4_0,.str "board" ttp4_1,.str "board" ttp4_2,.str "leap" ttp4_3] n_p4,sl_p4⟩)
  (up5:K.lookup p5=some ⟨.type "tuple",od_p5,.seq #[.str "new" ttp5_0,.str "pipes" ttp5_1,.str "wind" ttp5_2] n_p5,sl_p5⟩)
  (up6:K.lookup p6=some ⟨.type "tuple",od_p6,.seq #[.str "rank" ttp6_0,.str "shift" ttp6_1,.str "low" ttp6_2,.str "high" ttp6_3] n_p6,sl_p6⟩)
  (ub1:K.lookup b1=some ⟨.type "tuple",od_b1,.seq #[.int (1) ttb1_0,.int (61) ttb1_1] n_b1,sl_b1⟩)
  (ub2:K.lookup b2=some ⟨.type "tuple",od_b2,.seq #[.int (-60) ttb2_0,.int (60) ttb2_1] n_b2,sl_b2⟩)
  (ub3:K.lookup b3=some ⟨.type "tuple",od_b3,.seq #[.int (1) ttb3_0,.int (97) ttb3_1] n_b3,sl_b3⟩)
  (ub4:K.lookup b4=some ⟨.type "tuple",od_b4,.seq #[.int (0) ttb4_0,.int (1000000000) ttb4_1] n_b4,sl_b4⟩)
  (ub5:K.lookup b5=some ⟨.type "tuple",od_b5,.seq #[.int (-200) ttb5_0,.int (200) ttb5_1] n_b5,sl_b5⟩)
  (ub6:K.lookup b6=some ⟨.type "tuple",od_b6,.seq #[.int (0) ttb6_0,.int (60) ttb6_1] n_b6,sl_b6⟩)
  (ub7:K.lookup b7=some ⟨.type "tuple",od_b7,.seq #[.int (0) ttb7_0,.int (60) ttb7_1] n_b7,sl_b7⟩)
  : ∃ fd:FuncData,(∀ (s:Shared) (v:Value),BindsTo s fd ⟨[v],[]⟩ [("_law_script",v)])/\∀ base:Heap,K.In base->base.Ns mainGlobals mg->Aw l.prog w K mg base Bc 11 fa fd ["_law_script"] (Nh K):=by
 refine Classical.byContradiction fun hng=>?_
 obtain ⟨aWh,dWh,FWh⟩:=FWh
 obtain ⟨aMd,dMd,FMd⟩:=FMd
 obtain ⟨aNm,dNm,FNm⟩:=FNm
 obtain ⟨aRo,dRo,FRo⟩:=FRo
 obtain ⟨aTo,dTo,FTo⟩:=FTo
 obtain ⟨aWi,dWi,FWi⟩:=FWi
 obtain ⟨aPa,dPa,FPa⟩:=FPa
 obtain ⟨aHp,dHp,FHp⟩:=FHp
 obtain ⟨aCl,dCl,FCl⟩:=FCl
 obtain ⟨aIk,dIk,FIk⟩:=FIk
 obtain ⟨aSb,dSb,FSb⟩:=FSb
 obtain ⟨aWm,dWm,FWm⟩:=FWm
 obtain ⟨aHr,dHr,FHr⟩:=FHr
 obtain ⟨aIr,dIr,FIr⟩:=FIr
 obtain ⟨aCk,dCk,FCk⟩:=FCk
 obtain ⟨aNu,dNu,FNu⟩:=FNu
 obtain ⟨aCa,dCa,FCa⟩:=FCa
 obtain ⟨aPl,dPl,FPl⟩:=FPl
 obtain ⟨aLi,dLi,FLi⟩:=FLi
 obtain ⟨aMy,dMy,FMy⟩:=FMy
 obtain ⟨aSt,dSt,FSt⟩:=FSt
 obtain ⟨aHa,dHa,FHa⟩:=FHa
 obtain ⟨aMe,dMe,FMe⟩:=FMe
 obtain ⟨aSh,dSh,FSh⟩:=FSh
 obtain ⟨aUn,dUn,FUn⟩:=FUn
 obtain ⟨aLe,dLe,FLe⟩:=FLe
 obtain ⟨aDc,dDc,FDc⟩:=FDc
 obtain ⟨aLp,dLp,FLp⟩:=FLp
 obtain ⟨aLq,dLq,FLq⟩:=FLq
 obtain ⟨aCb,dCb,FCb⟩:=FCb
 obtain ⟨aCr,dCr,FCr⟩:=FCr
 obtain ⟨aMu,dMu,FMu⟩:=FMu
 obtain ⟨aUk,dUk,FUk⟩:=FUk
 obtain ⟨aNb,dNb,FNb⟩:=FNb
 obtain ⟨aLl,dLl,FLl⟩:=FLl
 obtain ⟨aBs,dBs,FBs⟩:=FBs
 obtain ⟨aBa,dBa,FBa⟩:=FBa
 obtain ⟨aCe,dCe,FCe⟩:=FCe
 obtain ⟨aLw,dLw,FLw⟩:=FLw
 obtain ⟨aLg,dLg,FLg⟩:=FLg
 obtain ⟨aLs,dLs,FLs⟩:=FLs
 obtain ⟨aLk,dLk,FLk⟩:=FLk
 obtain ⟨aOi,iOi,dOi,FOi⟩:=FOi
 obtain ⟨aOb,iOb,dOb,FOb⟩:=FOb
 obtain ⟨aOc,iOc,dOc,FOc⟩:=FOc
 obtain ⟨aOk,iOk,dOk,FOk⟩:=FOk
 obtain ⟨aOo,iOo,dOo,FOo⟩:=FOo
 obtain ⟨aBk,iBk,dBk,FBk⟩:=FBk
 obtain ⟨aOp,iOp,dOp,FOp⟩:=FOp
 obtain ⟨aOr,iOr,dOr,FOr⟩:=FOr
 obtain ⟨aOq,iOq,dOq,FOq⟩:=FOq
 obtain ⟨aOe,iOe,dOe,FOe⟩:=FOe
 obtain ⟨aOs,iOs,dOs,FOs⟩:=FOs
 obtain ⟨aOm,iOm,dOm,FOm⟩:=FOm
 obtain ⟨aOz,iOz,dOz,FOz⟩:=FOz
 obtain ⟨aRi,iRi,dRi,FRi⟩:=FRi
 obtain ⟨aRr,iRr,dRr,FRr⟩:=FRr
 refine hng ?_
 have e:=hfa.symm.trans (W.mg_of X G aZ)
 cases e
 have FZ:=Mg (st:=J2) lZ cZ kZ
 have gN:KTup K aN [.str "board",.str "rank",.str "stop",.str "coupler",.str "mute"]:=(⟨_,_,_,uN,rfl,rfl,by show 5<=sizeLine; decide,.cons ⟨_,rfl⟩ (.cons ⟨_,rfl⟩ (.cons ⟨_,rfl⟩ (.cons ⟨_,rfl⟩ (.cons ⟨_,rfl⟩ (.nil)))))⟩)
 have gK:KTup K aK [.str "stop",.str "coupler",.str "mute"]:=(⟨_,_,_,uK,rfl,rfl,by show 3<=sizeLine; decide,.cons ⟨_,rfl⟩ (.cons ⟨_,rfl⟩ (.cons ⟨_,rfl⟩ (.nil)))⟩)
 have gp1:KTup K p1 [.str "new",.str "keys"]:=(⟨_,_,_,up1,rfl,rfl,by show 2<=sizeLine; decide,.cons ⟨_,rfl⟩ (.cons ⟨_,rfl⟩ (.nil))⟩)
 have gp2:KTup K p2 [.str "new",.str "board"]:=(⟨_,_,_,up2,rfl,rfl,by show 2<=sizeLine; decide,.cons ⟨_,rfl⟩ (.cons ⟨_,rfl⟩ (.nil))⟩)
 have gp3:KTup K p3 [.str "new",.str "board"]:=(⟨_,_,_,up3,rfl,rfl,by show 2<=sizeLine; decide,.cons ⟨_,rfl⟩ (.cons ⟨_,rfl⟩ (.nil))⟩)
 have gp4:KTup K p4 [.str "new",.str "board",.str "board",.str "leap"]:=(⟨_,_,_,up4,rfl,rfl,by show 4<=sizeLine; decide,.cons ⟨_,rfl⟩ (.cons ⟨_,rfl⟩ (.cons ⟨_,rfl⟩ (.cons ⟨_,rfl⟩ (.nil))))⟩)
 have gp5:KTup K p5 [.str "new",.str "pipes",.str "wind"]:=(⟨_,_,_,up5,rfl,rfl,by show 3<=sizeLine; decide,.cons ⟨_,rfl⟩ (.cons ⟨_,rfl⟩ (.cons ⟨_,rfl⟩ (.nil)))⟩)
 have gp6:KTup K p6 [.str "rank",.str "shift",.str "low",.str "high"]:=(⟨_,_,_,up6,rfl,rfl,by show 4<=sizeLine; decide,.cons ⟨_,rfl⟩ (.cons ⟨_,rfl⟩ (.cons ⟨_,rfl⟩ (.cons ⟨_,rfl⟩ (.nil))))⟩)
 have gb1:KTup K b1 [.int (1),.int (61)]:=(⟨_,_,_,ub1,rfl,rfl,by show 2<=sizeLine; decide,.cons ⟨_,rfl⟩ (.cons ⟨_,rfl⟩ (.nil))⟩)
 have gb2:KTup K b2 [.int (-60),.int (60)]:=(⟨_,_,_,ub2,rfl,rfl,by show 2<=sizeLine; decide,.cons ⟨_,rfl⟩ (.cons ⟨_,rfl⟩ (.nil))⟩)
 have gb3:KTup K b3 [.int (1),.int (97)]:=(⟨_,_,_,ub3,rfl,rfl,by show 2<=sizeLine; decide,.cons ⟨_,rfl⟩ (.cons ⟨_,rfl⟩ (.nil))⟩)
 have gb4:KTup K b4 [.int (0),.int (1000000000)]:=(⟨_,_,_,ub4,rfl,rfl,by show 2<=sizeLine; decide,.cons ⟨_,rfl⟩ (.cons ⟨_,rfl⟩ (.nil))⟩)
 have gb5:KTup K b5 [.int (-200),.int (200)]:=(⟨_,_,_,ub5,rfl,rfl,by show 2<=sizeLine; decide,.cons ⟨_,rfl⟩ (.cons ⟨_,rfl⟩ (.nil))⟩)
 have gb6:KTup K b6 [.int (0),.int (60)]:=(⟨_,_,_,ub6,rfl,rfl,by show 2<=sizeLine; decide,.cons ⟨_,rfl⟩ (.cons ⟨_,rfl⟩ (.nil))⟩)
 have gb7:KTup K b7 [.int (0),.int (60)]:=(⟨_,_,_,ub7,rfl,rfl,by show 2<=sizeLine; decide,.cons ⟨_,rfl⟩ (.cons ⟨_,rfl⟩ (.nil))⟩)
 have F0:Mz K aB aP aM:=⟨⟨⟨_,qp1,gp1⟩,⟨_,qp2,gp2⟩,⟨_,qp3,gp3⟩,⟨_,qp4,gp4⟩,⟨_,qb1,gb1⟩,⟨_,qb2,gb2⟩,qn,qb,⟨_,qm1⟩,⟨_,qm2⟩,⟨_,qm3⟩,⟨_,qm4⟩⟩,⟨_,qp5,gp5⟩,⟨_,qp6,gp6⟩,⟨_,qb3,gb3⟩,⟨_,qb4,gb4⟩,⟨_,qb5,gb5⟩,⟨_,qb6,gb6⟩,⟨_,qb7,gb7⟩,qr,⟨_,qm5⟩,ql⟩
 have T:Txt K w.params mg C Cy aN aK aB aP aM:=⟨W.mg_none_of X G zlen,W.mg_none_of X G zisinstance,W.mg_none_of X G zint,W.mg_none_of X G zbool,W.mg_none_of X G zstr,W.mg_none_of X G zlist,W.mg_none_of X G ztuple,W.mg_none_of X G zall,W.mg_none_of X G zany,W.mg_none_of X G zsum,W.mg_none_of X G zrange,W.mg_none_of X G zzip,W.mg_none_of X G zenumerate,W.mg_none_of X G zmax,W.mg_none_of X G zreversed,W.mg_none_of X G zmin,⟨_,W.mg_of X G zLET⟩,⟨_,W.mg_of X G zML⟩,⟨_,W.mg_of X G zMR⟩,⟨_,W.mg_of X G zMLn⟩,⟨_,W.mg_of X G zMB⟩,W.mg_of X G rN,W.mg_of X G rK,W.mg_of X G rB,W.mg_of X G rP,W.mg_of X G rM,gN,gK,⟨⟨_,_,dB,kB⟩,oB⟩,⟨⟨_,_,dP,kP⟩,oP⟩,⟨⟨_,_,dM,kM⟩,oM⟩,⟨pg,hd,po,sa⟩,W.mg_of X G aC,⟨pg2,hd2,po2,sa2⟩,W.mg_of X G aCy,nr2,n_row_list_,n_board_list_,n_rank_list_,n_knob_rows_,n_board_numbers_,n_rank_numbers_,n_knob_numbers_,n_key_places_,n_pipe_places_,n_knob_lines_,n_step_sets_⟩
 have N:aQ K mg C Cy ⟨fWh,fMd,fNm,fRo,fTo,fWi,fPa,fHp,fCl,fIk,fSb,fWm,fHr,fIr,fCk,fNu,fCa,fPl,fLi,fMy,fSt,fHa,fMe,fSh,fUn,fLe,fDc,fLp,fLq,fCb,fCr,fMu,fUk,fNb,fLl,fBs,fBa,fCe,fLw,fLg,fLs,fLk,fOi,fOb,fOc,fOk,fOo,fBk,fOp,fOr,fOq,fOe,fOs,fOm,fOz,fRi,fRr,_,_,_,_,_,_,_,_,_,_,_,_,_,_,_,_,_,_,_,_,_,_,_,_,_,_,_,_,_,_,_,_,_,_,_,_,_,_,_,_,_,_,_,_,_,_,_,_,_,_,_,_,_,_,_,_,_⟩:=⟨⟨FWh,(FP FWh),W.mg_of X G aWh⟩,⟨FMd,(FN FMd),W.mg_of X G aMd⟩,⟨FNm,(FP FNm),W.mg_of X G aNm⟩,⟨FRo,(El FRo),W.mg_of X G aRo⟩,⟨FTo,(FN FTo),W.mg_of X G aTo⟩,⟨FWi,(El FWi),W.mg_of X G aWi⟩,⟨FPa,(FN FPa),W.mg_of X G aPa⟩,⟨FHp,(El FHp),W.mg_of X G aHp⟩,⟨FCl,(FP FCl),W.mg_of X G aCl⟩,⟨FIk,(FN FIk),W.mg_of X G aIk⟩,⟨FSb,(El FSb),W.mg_of X G aSb⟩,⟨FWm,(El FWm),W.mg_of X G aWm⟩,⟨FHr,(El FHr),W.mg_of X G aHr⟩,⟨FIr,(El FIr),W.mg_of X G aIr⟩,⟨FCk,(FP FCk),W.mg_of X G aCk⟩,⟨FNu,(FP FNu),W.mg_of X G aNu⟩,⟨FCa,(FP FCa),W.mg_of X G aCa⟩,⟨FPl,(FP FPl),W.mg_of X G aPl⟩,⟨FLi,(El FLi),W.mg_of X G aLi⟩,⟨FMy,(FP FMy),W.mg_of X G aMy⟩,⟨FSt,(FP FSt),W.mg_of X G aSt⟩,⟨FHa,(El FHa),W.mg_of X G aHa⟩,⟨FMe,(FP FMe),W.mg_of X G aMe⟩,⟨FSh,(FN FSh),W.mg_of X G aSh⟩,⟨FUn,(FP FUn),W.mg_of X G aUn⟩,⟨FLe,(FN FLe),W.mg_of X G aLe⟩,⟨FDc,(FN FDc),W.mg_of X G aDc⟩,⟨FLp,(FN FLp),W.mg_of X G aLp⟩,⟨FLq,(FP FLq),W.mg_of X G aLq⟩,⟨FCb,(El FCb),W.mg_of X G aCb⟩,⟨FCr,(El FCr),W.mg_of X G aCr⟩,⟨FMu,(El FMu),W.mg_of X G aMu⟩,⟨FUk,(FN FUk),W.mg_of X G aUk⟩,⟨FNb,(FN FNb),W.mg_of X G aNb⟩,⟨FLl,(FN FLl),W.mg_of X G aLl⟩,⟨FBs,(FN FBs),W.mg_of X G aBs⟩,⟨FBa,(FN FBa),W.mg_of X G aBa⟩,⟨FCe,(El FCe),W.mg_of X G aCe⟩,⟨FLw,(FP FLw),W.mg_of X G aLw⟩,⟨FLg,(cF FLg),W.mg_of X G aLg⟩,⟨FLs,(FN FLs),W.mg_of X G aLs⟩,⟨FLk,(FN FLk),W.mg_of X G aLk⟩,⟨FOi,(El FOi),⟨mkC,aOi,iOi,kc⟩⟩,⟨FOb,(FP FOb),⟨aOb,iOb,FOb.kp⟩⟩,⟨FOc,(FP FOc),⟨aOc,iOc,FOc.kp⟩⟩,⟨FOk,(FN FOk),⟨aOk,iOk,FOk.kp⟩⟩,⟨FOo,(El FOo),⟨aOo,iOo,FOo.kp⟩⟩,⟨FBk,(El FBk),⟨aBk,iBk,FBk.kp⟩⟩,⟨FOp,(El FOp),⟨aOp,iOp,FOp.kp⟩⟩,⟨FOr,(FP FOr),⟨aOr,iOr,FOr.kp⟩⟩,⟨FOq,(FP FOq),⟨aOq,iOq,FOq.kp⟩⟩,⟨FOe,(FN FOe),⟨aOe,iOe,FOe.kp⟩⟩,⟨FOs,(El FOs),⟨aOs,iOs,FOs.kp⟩⟩,⟨FOm,(El FOm),⟨aOm,iOm,FOm.kp⟩⟩,⟨FOz,(FP FOz),⟨aOz,iOz,FOz.kp⟩⟩,⟨FRi,(FN FRi),⟨mkC2,aRi,iRi,kc2⟩⟩,⟨FRr,(El FRr),⟨aRr,iRr,FRr.kp⟩⟩⟩
 exact ⟨W.fnOf "law" "law" (Dm J2) (DQ J2) (Ae J2) .none kVZ dcZ pmZ anZ cdZ ctZ,fun s v=>.of_eq rfl,fun base _ _=>V0 FZ N T F0⟩
theorem walk {l:W.OpenLaw} {q:Program} {loose:List Str} {XP:(Str->Option Value)->Heap->Prop} {YP:World->Heap->Prop} {d:DefRec} {K:Params->W.Frag} (hn:l.most=some 63) (hdf:d.params.defaults=[])
  (hY:∀ (w:World) (h:Heap),YP w h->(K w.params).In h)
  (F:∀ (w:World) (mg:Str->Option Value) (fa:Addr) (h:Heap),(K w.params).In h->h.Ns mainGlobals mg->mg d.name=some (.ref fa) ->
   ∃ fd:FuncData,(∀ (s:Shared) (u:Value),BindsTo s fd ⟨[u],[]⟩ [("_law_script",u)])/\∀ base:Heap,(K w.params).In base->base.Ns mainGlobals mg->Aw l.prog w (K w.params) mg base Bc 11 fa fd ["_law_script"] (Nh (K w.params))) :
  W.WalkO q loose XP YP l.row.toRowW d [] (fun f vs=>PySem.call f vs) :=
 L2.Ra (n:=63) (k:=11) (x:="_law_script") (CX:=fun _=>Bc) (sp:=fun w=>Nh (K w.params)) hn (by decide) hdf ⟨rfl,by decide,by decide⟩ hY F (fun _ _ a ns hl _ hS=>⟨a,ns,rfl,hS,hl,fun _=>rfl⟩) fun _ _ _ _ _ z=>z
end K31
open PySem PySem.W PyProof.Rows
noncomputable def PySem.W.Fast.tw1894316719931033567:Unit:=()
noncomputable def PySem.W.Fast.tw14660748763653153274:Unit:=()
noncomputable def PySem.W.Fast.tw10205377721194519092:Unit:=()
noncomputable def PySem.W.Fast.tw16322257740798017990:Unit:=()
noncomputable def PySem.W.Fast.tw18313331087675247261:Unit:=()
noncomputable def PySem.W.Fast.tw16116206174762332639:Unit:=()
noncomputable def PySem.W.Fast.tw676957070721349720:Unit:=()
noncomputable def PySem.W.Fast.tw15416467947273307645:Unit:=()
noncomputable def PySem.W.Fast.tw823724440179360335:Unit:=()
noncomputable def PySem.W.Fast.tw4200770207132458470:Unit:=()
noncomputable def PySem.W.Fast.tw14808983578507914875:Unit:=()
noncomputable def PySem.W.Fast.tw10682632825140470337:Unit:=()
noncomputable def PySem.W.Fast.tw14006036320379903356:Unit:=()
noncomputable def PySem.W.Fast.tw15549840633667908995:Unit:=()
noncomputable def PySem.W.Fast.tw7354877165720684818:Unit:=()
noncomputable def PySem.W.Fast.tw4616848420109364085:Unit:=()
noncomputable def PySem.W.Fast.tw15554793610680762669:Unit:=()
noncomputable def PySem.W.Fast.tw10011675199009167810:Unit:=()
noncomputable def PySem.W.Fast.tw14090014953604530511:Unit:=()
noncomputable def PySem.W.Fast.tw14700124741909417695:Unit:=()
noncomputable def PySem.W.Fast.tw6874259216868865827:Unit:=()
noncomputable def PySem.W.Fast.tw648290847895151480:Unit:=()
noncomputable def PySem.W.Fast.tw13191328357115097849:Unit:=()
noncomputable def PySem.W.Fast.tw16949897917967023580:Unit:=()
noncomputable def PySem.W.Fast.tw8757982660017182313:Unit:=()
noncomputable def PySem.W.Fast.tw13934681760014388079:Unit:=()
noncomputable def PySem.W.Fast.tw14380891305169083563:Unit:=()
noncomputable def PySem.W.Fast.tw1098022786902456397:Unit:=()
noncomputable def PySem.W.Fast.tw399257499284685752:Unit:=()
noncomputable def PySem.W.Fast.tw3930347878459515215:Unit:=()
noncomputable def PySem.W.Fast.tw6615608136961474388:Unit:=()
noncomputable def PySem.W.Fast.tw9495953259536874072:Unit:=()
noncomputable def PySem.W.Fast.tw9004988186679245249:Unit:=()
noncomputable def PySem.W.Fast.tw6976416538812330444:Unit:=()
noncomputable def PySem.W.Fast.tw11807282360757073992:Unit:=()
noncomputable def PySem.W.Fast.tw12635605444348001399:Unit:=()
noncomputable def PySem.W.Fast.tw14870103440546078558:Unit:=()
noncomputable def PySem.W.Fast.tw17178441466988383387:Unit:=()
noncomputable def PySem.W.Fast.tw7478228937858370256:Unit:=()
noncomputable def PySem.W.Fast.tw14323604726453862155:Unit:=()
noncomputable def PySem.W.Fast.tw8112892650922392807:Unit:=()
noncomputable def PySem.W.Fast.tw17419686274287936858:Unit:=()
noncomputable def PySem.W.Fast.tw3062855627663866846:Unit:=()
noncomputable def PySem.W.Fast.tw2153929165824892183:Unit:=()
noncomputable def PySem.W.Fast.tw8329919536256482896:Unit:=()
noncomputable def PySem.W.Fast.tw18157016235256082665:Unit:=()
noncomputable def PySem.W.Fast.tw3992055848462253922:Unit:=()
noncomputable def PySem.W.Fast.tw8398642313585246306:Unit:=()
noncomputable def PySem.W.Fast.tw8296304360538977315:Unit:=()
noncomputable def PySem.W.Fast.tw15552815709278928142:Unit:=()
noncomputable def PySem.W.Fast.tw11816536990171633169:Unit:=()
noncomputable def PySem.W.Fast.tw12668561148885095319:Unit:=()
noncomputable def PySem.W.Fast.tw14334719795973149967:Unit:=()
noncomputable def PySem.W.Fast.tw8436318778774479269:Unit:=()
noncomputable def PySem.W.Fast.tw2276883430543553585:Unit:=()
noncomputable def PySem.W.Fast.tw4227773451067800375:Unit:=()
noncomputable def PySem.W.Fast.tw6180609601004437756:Unit:=()
noncomputable def PySem.W.Fast.tw5245857475497297988:Unit:=()
noncomputable def PySem.W.Fast.tw12619064341427804164:Unit:=()
noncomputable def PySem.W.Fast.tw5041731674413994307:Unit:=()
noncomputable def PySem.W.Fast.tw17972692565425492808:Unit:=()
noncomputable def PySem.W.Fast.tw8745109436868444566:Unit:=()
noncomputable def PySem.W.Fast.tw7439754834631440083:Unit:=()
noncomputable def PySem.W.Fast.tw16522006967949918005:Unit:=()
noncomputable def PySem.W.Fast.tw1964568625564402468:Unit:=()
noncomputable def PySem.W.Fast.tw5094046059749169209:Unit:=()
noncomputable def PySem.W.Fast.tw4134288722186598014:Unit:=()
noncomputable def PySem.W.Fast.tw8731741344552176675:Unit:=()
noncomputable def PySem.W.Fast.tw13101981237193411076:Unit:=()
noncomputable def PySem.W.Fast.tw2763855718055176170:Unit:=()
noncomputable def PySem.W.Fast.tw5461475106739147331:Unit:=()
noncomputable def PySem.W.Fast.tw3727915833851032157:Unit:=()
noncomputable def PySem.W.Fast.tw15861782951285666960:Unit:=()
noncomputable def PySem.W.Fast.tw7611454701362990393:Unit:=()
noncomputable def PySem.W.Fast.tw14068666007631177881:Unit:=()
noncomputable def PySem.W.Fast.tw3804724664656436989:Unit:=()
noncomputable def PySem.W.Fast.tw3956412887726301009:Unit:=()
noncomputable def PySem.W.Fast.tw14267826743982799907:Unit:=()
noncomputable def PySem.W.Fast.tw3170947563893107200:Unit:=()
noncomputable def PySem.W.Fast.tw1074690742149634435:Unit:=()
noncomputable def PySem.W.Fast.tw101083216883601775:Unit:=()
noncomputable def PySem.W.Fast.tw9993865513013061608:Unit:=()
noncomputable def PySem.W.Fast.tw6204524941063874913:Unit:=()
noncomputable def PySem.W.Fast.tw9866342593235984059:Unit:=()
noncomputable def PySem.W.Fast.tw3186197338430102036:Unit:=()
set_option maxRecDepth 100000 in
set_option maxHeartbeats 0 in
theorem PySem.Challenge.cw_windchest_k31_whole_chains_and_rings_holds : PySem.Challenge.rw_windchest_k31_whole_chains_and_rings.Holds := by
 w_on; o_law; k_head; (case hw=>w_witness2)
 k_fill
 refine K31.walk (l:=PySem.Challenge.rw_windchest_k31_whole_chains_and_rings) rfl rfl (fun w h Y=>PySem.W.kIn_of Y) ?F
 case F =>
  intro w mg fa h KX G hmg
  refine' K31.Uh KX G hmg ?_ ?_ ?_ ?_ ?_ ?_ ?_ ?_ ?_ ?_ ?_ ?_ ?_ ?_ ?_ ?_ ?_ ?_ ?_ ?_ ?_ ?_ ?_ ?_ ?_ ?_ ?_ ?_ ?_ ?_ ?_ ?_ ?_ ?_ ?_ ?_ ?_ ?_ ?_ ?_ ?_ ?_ ?_ ?_ ?_ ?_ ?_ ?_ ?_ ?_ ?_ ?_ ?_ ?_ ?_ ?_ ?_ ?_ ?_ ?_ ?_ ?_ ?_ ?_ ?_ ?_ ?_ ?_ ?_ ?_ ?_ ?_ ?_ ?_ ?_ ?_ ?_ ?_ ?_ ?_ ?_ ?_ ?_ ?_ ?_ ?_ ?_ ?_ ?_ ?_ ?_ ?_ ?_ ?_ ?_ ?_ ?_ ?_ ?_ ?_ ?_ ?_ ?_ ?_ ?_ ?_ ?_ ?_ ?_ ?_ ?_ ?_ ?_ ?_ ?_ ?_ ?_ ?_ ?_ ?_ ?_ ?_ ?_ ?_ ?_ ?_ ?_ ?_ ?_ ?_ ?_ ?_ ?_ ?_ ?_ ?_ ?_ ?_ ?_ ?_ ?_ ?_ ?_ ?_ ?_ ?_ ?_ ?_ ?_ ?_ ?_ ?_ ?_ ?_ ?_ ?_ ?_ ?_ ?_
  all_goals first | (k_is; done) | (refine' ⟨?a,_,L2.Mg ?l ?c ?k⟩; (case a=>k_is); (case l=>k_is); (case c=>k_is); case k=>k_is) | (refine' ⟨?a,?i,_,L2.Mg ?l ?c ?k⟩; (case a=>k_is); (case i=>k_is); (case l=>k_is); (case c=>k_is); case k=>k_is) | (k_keys; done) | decide | kernel_rfl! | skip
end PartK31z
