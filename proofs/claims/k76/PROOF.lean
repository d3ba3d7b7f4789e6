import PyProof.Rows.All
import Wide.All
import OpenK.AllK
import Wide.FinOn
import Lean
import PyProof.EqAt
import PyProof.EqKinds
import PyProof.TupleCall
import PyProof.ZipIter
import PyProof.WalksEnum
import PyProof.EnumMake
import PyProof.NeKinds
import KE.KDictList
import PyProof.Rows.SetFrom
import PyProof.StrWalks
import PyProof.CollectWalk
import PyProof.Rows.SortWalk
import PyProof.Rows.BitMore
import PyProof.Rows.IntCalls
import KE.KRevIter
import PyProof.SetRoads
import OpenK.KTop
import PyProof.Rows.StrWeight2
import PyProof.SumWalk
import PyProof.SliceList
import PyProof.FactsAll.subtypes_4
import PyProof.StationsW
import PyProof.NsDelKeeps
import PyProof.Rows.StrClose
import PyProof.Rows.CatFin
import PyProof.SeqI3
import PyProof.Rows.StrCase
import PyProof.PureStr
import PyProof.IsRules
import PySem.Challenge.RW_windchest_k76_too_many
local macro_rules | `(tactic| omega) => `(tactic| lia)
set_option Elab.async false
set_option linter.all false
set_option maxRecDepth 100000
namespace L2
open PySem PySem.Spec PyProof.Rows
noncomputable abbrev Key:=Sum Int Str
noncomputable def JM:Key->Value->Bool
 | .inl k,v=>Value.isInt k v
 | .inr x,v=>Value.isStrOf x v
noncomputable def iI (w:World):Key->Int
 | .inl k=>hashInt k
 | .inr x=>hashStr w x
theorem CK:∀ {k:Key} {v:Value},JM k v=true->(∃ i t,k=Sum.inl i/\v=Value.int i t) \/ (∃ x t,k=Sum.inr x/\v=Value.str x t)
 | .inl i,v,h=>by
  obtain ⟨t,e⟩:=Value.isInt_shape (k:=i) (v:=v) h
  exact .inl ⟨i,t,rfl,e⟩
 | .inr x,v,h=>by
  obtain ⟨t,e⟩:=Value.isStrOf_shape (x:=x) (v:=v) h
  exact .inr ⟨x,t,rfl,e⟩
theorem PQ (i:Int) (t:Tok):JM (.inl i) (.int i t)=true:=by simp [JM,Value.isInt]
theorem QQ (x:Str) (t:Tok):JM (.inr x) (.str x t)=true:=by simp [JM,Value.isStrOf]
theorem Xf (a b:Int):decide ((Sum.inl a:Key)=Sum.inl b)=(a == b):=by
 by_cases e:a=b
 ·subst e; simp
 ·have h:¬ (Sum.inl a:Key)=Sum.inl b:=fun q=>e (Sum.inl.inj q)
  rw [decide_eq_false h]
  exact (beq_eq_false_iff_ne.mpr e).symm
theorem W2 (a b:Str):decide ((Sum.inr a:Key)=Sum.inr b)=decide (a=b):=by
 by_cases e:a=b
 ·subst e; simp
 ·have h:¬ (Sum.inr a:Key)=Sum.inr b:=fun q=>e (Sum.inr.inj q)
  rw [decide_eq_false h,decide_eq_false e]
theorem W6 (a:Int) (b:Str):decide ((Sum.inl a:Key)=Sum.inr b)=false:=decide_eq_false (fun q=>nomatch q)
theorem Wn (a:Str) (b:Int):decide ((Sum.inr a:Key)=Sum.inl b)=false:=decide_eq_false (fun q=>nomatch q)
noncomputable def Ca (prog:Program) (w:World):PySem.KeyKind prog w Key where
 is:=JM
 hash:=iI w
 inj:=fun v a b ha hb=>by
  rcases CK ha with ⟨i,t,rfl,rfl⟩ | ⟨x,t,rfl,rfl⟩
  ·rcases CK hb with ⟨j,u,rfl,e⟩ | ⟨y,u,rfl,e⟩
   ·injection e with e1 _; rw [e1]
   ·exact nomatch e
  ·rcases CK hb with ⟨j,u,rfl,e⟩ | ⟨y,u,rfl,e⟩
   ·exact nomatch e
   ·injection e with e1 _; rw [e1]
 byValue:=fun k v h=>by
  rcases CK h with ⟨i,t,rfl,rfl⟩ | ⟨x,t,rfl,rfl⟩ <;> rfl
 pyHash:=fun hv h=>by
  rcases CK hv with ⟨i,t,rfl,rfl⟩ | ⟨x,t,rfl,rfl⟩
  ·exact wpAny_pyHash_int h
  ·exact wpAny_pyHash_str h
 eqBool:=fun hu hv h=>by
  rcases CK hu with ⟨i,t,rfl,rfl⟩ | ⟨x,t,rfl,rfl⟩
  ·rcases CK hv with ⟨j,u,rfl,rfl⟩ | ⟨y,u,rfl,rfl⟩
   ·rw [Xf] at h; exact wpAny_eqBool_int h
   ·rw [W6] at h; exact SeqAt.EqAt.int_str i t y u _ _ _ _ h
  ·rcases CK hv with ⟨j,u,rfl,rfl⟩ | ⟨y,u,rfl,rfl⟩
   ·rw [Wn] at h; exact SeqAt.EqAt.str_int x t j u _ _ _ _ h
   ·rw [W2] at h; exact wpAny_eqBool_str h
 «strs»:=fun k x t v h=>by
  rcases CK h with ⟨i,u,rfl,e⟩ | ⟨y,u,rfl,e⟩
  ·exact nomatch e
  ·injection e with e1 _
   subst e1
   cases v <;> rfl
theorem K_ (prog:Program) (w:World) (i:Int) (t:Tok):(Ca prog w).is (.inl i) (.int i t)=true:=PQ i t
theorem Lw (prog:Program) (w:World) (x:Str) (t:Tok):(Ca prog w).is (.inr x) (.str x t)=true:=QQ x t
end L2
namespace L2
open PySem PySem.Spec PyProof.Rows
inductive V where
 | non | bl (b:Bool) | int (i:Int) | str (x:Str) | byt (b:Array UInt8) | flt (b:UInt64) | ref (a:Addr) | ty (n:String)
 deriving DecidableEq
noncomputable def RelV:V->Value->Prop
 | .non,u=>u=Value.none
 | .bl b,u=>u=Value.bool b
 | .int i,u=>∃ t,u=Value.int i t
 | .str x,u=>∃ t,u=Value.str x t
 | .byt b,u=>∃ t,u=Value.bytes b t
 | .flt b,u=>∃ t,u=Value.float b t
 | .ref a,u=>u=Value.ref a
 | .ty n,u=>u=Value.type n
noncomputable abbrev Vals:List V->List Value->Prop:=Paired RelV
theorem Vals.length {xs:List V} {us:List Value} (r:Vals xs us):xs.length=us.length:=Paired.length r
theorem Vals.get:∀ {xs:List V} {us:List Value} {i:Nat} {x:V},Vals xs us->xs[i]? = some x->∃ u,us[i]? = some u/\RelV x u
 | _,_,_,_,.nil,e=>by simp at e
 | _,_,0,_,.cons r _,e=>by simp at e; subst e; exact ⟨_,rfl,r⟩
 | _,_,i+1,x,.cons _ t,e=>by
  obtain ⟨u,h1,h2⟩:=Vals.get (i:=i) (x:=x) t (by simpa using e)
  exact ⟨u,by simpa using h1,h2⟩
theorem Vals.append:∀ {xs ys:List V} {us ws:List Value},Vals xs us->Vals ys ws->Vals (xs++ys) (us++ws)
 | _,_,_,_,.nil,s=>s
 | _,_,_,_,.cons r t,s=>.cons r (Vals.append t s)
theorem Vals.take:∀ {xs:List V} {us:List Value} (n:Nat),Vals xs us->Vals (xs.take n) (us.take n)
 | _,_,0,_=>.nil
 | _,_,_+1,.nil=>.nil
 | _,_,n+1,.cons r t=>.cons r (Vals.take n t)
theorem Vals.drop:∀ {xs:List V} {us:List Value} (n:Nat),Vals xs us->Vals (xs.drop n) (us.drop n)
 | _,_,0,r=>r
 | _,_,_+1,.nil=>.nil
 | _,_,n+1,.cons _ t=>Vals.drop n t
noncomputable def Fp:Option V->Option Value->Prop
 | some v,some u=>RelV v u
 | none,none=>True
 | _,_=>False
noncomputable def KV {κ:Type}:List (κ × V)->List (κ × Value)->Prop:=Paired fun (p:κ × V) (q:κ × Value)=>p.1=q.1/\RelV p.2 q.2
noncomputable def kV:Key->V
 | .inl i=>.int i
 | .inr x=>.str x
inductive HO where
 | lst (xs:List V)
 | tup (xs:List V)
 | dK (kvs:List (Key × V)) | dT (kvs:List (List Key × V))
 | set (S:Int->Bool) (n:Nat)
 | ins (C dx:Addr) (fs:List (Str × V))
 | own (x:Addr)
 | xd (fs:List (Str × V))
 | met (f x:Addr)
 | rng (lo hi:Int)
 | frz (o:Obj) (u:HO)
 | tbl (ps:Array Value)
 | ext (φ:Heap->Prop)
noncomputable abbrev Hp:=Addr->Option HO
noncomputable def upd (H:Hp) (a:Addr) (o:HO):Hp:=fun b=>if b=a then some o else H b
theorem Ak {H:Hp} {a:Addr} {o:HO}:upd H a o a=some o:=by unfold upd; rw [if_pos rfl]
theorem Ax {H:Hp} {a b:Addr} {o:HO} (h:b ≠ a):upd H a o b=H b:=by unfold upd; rw [if_neg h]
theorem Vh {H:Hp} {a b:Addr} {o u:HO} (h:H a=some o) (h':H b=some u) (d:o ≠ u):a ≠ b:=by
 intro e; subst e; rw [h] at h'; exact d (Option.some.inj h')
theorem Aw {H:Hp} {a b:Addr} {o:HO} (h:H a=some o) (h':H b=none):a ≠ b:=by
 intro e; subst e; rw [h] at h'; cases h'
section
variable (P:Program) (w:World)
noncomputable def Bx (H:Hp) (h:Heap) (a:Addr):HO->Prop
 | .lst xs=>xs.length<=sizeLine/\∃ (its:List Value) (n:Nat),Vals xs its/\h.get? a=some { cls:=.type "list",data:=.seq its.toArray n }
 | .tup xs=>xs.length<=sizeLine/\∃ its:List Value,Vals xs its/\IsTup h a its.toArray
 | .dK kvs=>kvs.length<=sizeLine/\(a == sysModules)=false/\∃ vs,KV kvs vs/\h.DictOf (Ca P w) a vs
 | .dT kvs=>kvs.length<=sizeLine/\(a == sysModules)=false/\∃ xs:List (List Key × Addr × Value),
   Paired (fun (p:List Key × V) (q:List Key × Addr × Value)=>p.1=q.1/\H q.2.1=some (.tup (p.1.map kV))/\RelV p.2 q.2.2) kvs xs /\
   ∃ o es ep,h.get? a=some o/\o.ExactDict/\o.data=.dict es ep/\es.toList=xs.map (entryOfKey (tupleKind (Ca P w)))/\(xs.map (·.1)).Nodup
 | .set S n=>h.SetOf (intKind P w) a S n
 | .ins C dx fs=>H dx=some (.own a)/\fs.length<=1000/\dx ≠ a/\h.get? a=some (PySem.W.instObj C dx) /\
   ∃ mA,h.Ns1 dx mA/\(∀ f,Fp (fs.lookup f) (mA f))/\PySem.Within mA (fs.map (·.1))
 | .own _=>∃ o,h.get? a=some o
 | .xd fs=>∃ mA,h.Ns1 a mA/\∀ f,Fp (fs.lookup f) (mA f)
 | .rng lo hi=>∃ t u v,h.get? a=some { cls:=.type "range",data:=.fields #[.int lo t,.int hi u,.int 1 v] }
 | .frz o u=>h.get? a=some o/\Bx H h a u
 | .tbl ps=>h.get? a=some { cls:=.none,data:=.fields ps }
 | .met f x=>h.get? a=some (PySem.W.methodObj (.ref f) (.ref x))
 | .ext φ=>φ h/\(∃ o,h.get? a=some o)/\∀ h1 h2:Heap,φ h1->(∀ o,h1.get? a=some o->h2.get? a=some o)->φ h2
noncomputable def Ei (H:Hp) (h:Heap):Prop:=∀ a o,H a=some o->Bx P w H h a o
end
section
variable {P:Program} {w:World} {H H':Hp} {h h':Heap} {a:Addr} {o:HO}
theorem Bx.lt (x:Bx P w H h a o):a<h.objs.size:=by
 cases o with
 | lst xs=>obtain ⟨_,_,_,_,e⟩:=x; exact Heap.lt_size e
 | tup xs=>obtain ⟨_,_,_,p⟩:=x; exact p.lt
 | dK kvs=>obtain ⟨_,_,_,_,o,_,_,e,_⟩:=x; exact Heap.lt_size e
 | dT kvs=>obtain ⟨_,_,_,_,o,_,_,e,_⟩:=x; exact Heap.lt_size e
 | set S n=>obtain ⟨o,_,_,_,e,_⟩:=x; exact Heap.lt_size e
 | ins C dx fs=>obtain ⟨_,_,_,e,_⟩:=x; exact Heap.lt_size e
 | own y=>obtain ⟨_,e⟩:=x; exact Heap.lt_size e
 | xd fs=>obtain ⟨_,⟨_,_,_,e,_⟩,_⟩:=x; exact Heap.lt_size e
 | rng lo hi=>obtain ⟨_,_,_,e⟩:=x; exact Heap.lt_size e
 | frz ob u=>obtain ⟨e,_⟩:=x; exact Heap.lt_size e
 | tbl ps=>exact Heap.lt_size (show h.get? a=some _ from x)
 | met f y=>exact Heap.lt_size (show h.get? a=some _ from x)
 | ext φ=>obtain ⟨_,⟨_,e⟩,_⟩:=x; exact Heap.lt_size e
theorem Paired.Lz {α β:Type} {F G:α->β->Prop}:∀ {l₁:List α} {l₂:List β},Paired F l₁ l₂->(∀ a b,F a b->G a b)->Paired G l₁ l₂
 | _,_,.nil,_=>.nil
 | _,_,.cons r t,f=>.cons (f _ _ r) (Paired.Lz t f)
theorem Bx.stay (x:Bx P w H h a o) (k:∀ b u,(b=a \/ H b=some (.own a))->h.get? b=some u->h'.get? b=some u)
  (ho:∀ b,H b=some (.own a)->H' b=some (.own a)) (ht:∀ b xs,H b=some (.tup xs)->H' b=some (.tup xs)):Bx P w H' h' a o:=by
 induction o with
 | lst xs=>obtain ⟨z,its,n,r,e⟩:=x; exact ⟨z,its,n,r,k _ _ (.inl rfl) e⟩
 | tup xs=>obtain ⟨z,its,r,ob,e,c⟩:=x; exact ⟨z,its,r,ob,k _ _ (.inl rfl) e,c⟩
 | dK kvs=>obtain ⟨z,y,vs,r,ob,es,ep,e,c⟩:=x; exact ⟨z,y,vs,r,ob,es,ep,k _ _ (.inl rfl) e,c⟩
 | dT kvs =>
  obtain ⟨z,y,xs,r,ob,es,ep,e,c⟩:=x
  exact ⟨z,y,xs,Paired.Lz r fun p q z=>⟨z.1,ht _ _ z.2.1,z.2.2⟩,ob,es,ep,k _ _ (.inl rfl) e,c⟩
 | set S n=>obtain ⟨ob,es,ep,t,e,c⟩:=x; exact ⟨ob,es,ep,t,k _ _ (.inl rfl) e,c⟩
 | ins C dx fs =>
  obtain ⟨d,z,ne,e,mA,⟨od,es,ep,e2,c⟩,r⟩:=x
  exact ⟨ho _ d,z,ne,k _ _ (.inl rfl) e,mA,⟨od,es,ep,k _ _ (.inr d) e2,c⟩,r⟩
 | own y=>obtain ⟨ob,e⟩:=x; exact ⟨ob,k _ _ (.inl rfl) e⟩
 | xd fs=>obtain ⟨mA,⟨od,es,ep,e,c⟩,r⟩:=x; exact ⟨mA,⟨od,es,ep,k _ _ (.inl rfl) e,c⟩,r⟩
 | rng lo hi=>obtain ⟨t,u,v,e⟩:=x; exact ⟨t,u,v,k _ _ (.inl rfl) e⟩
 | frz ob u ih=>obtain ⟨e,q⟩:=x; exact ⟨k _ _ (.inl rfl) e,ih q⟩
 | tbl ps =>
  have e:h.get? a=some { cls:=.none,data:=.fields ps }:=x
  show h'.get? a=some { cls:=.none,data:=.fields ps }
  exact k a _ (.inl rfl) e
 | met f y =>
  have e:h.get? a=some (PySem.W.methodObj (.ref f) (.ref y)):=x
  show h'.get? a=some (PySem.W.methodObj (.ref f) (.ref y))
  exact k a _ (.inl rfl) e
 | ext φ=>obtain ⟨p,⟨o,e⟩,st⟩:=x; exact ⟨st _ _ p fun o q=>k _ _ (.inl rfl) q,⟨o,k _ _ (.inl rfl) e⟩,st⟩
theorem Ei.lt (x:Ei P w H h) (e:H a=some o):a<h.objs.size:=(x a o e).lt
theorem Ei.fresh (x:Ei P w H h) (e:h.objs.size<=a):H a=none:=by
 cases q:H a with
 | none=>rfl
 | some u=>exact absurd (Nat.lt_of_lt_of_le (x.lt q) e) (Nat.lt_irrefl _)
theorem Ei.kept (x:Ei P w H h) (k:∀ b u,h.get? b=some u->h'.get? b=some u):Ei P w H h':=fun a o e =>
 (x a o e).stay (fun b u _ q=>k b u q) (fun _ q=>q) fun _ _ q=>q
theorem Ei.laid (x:Ei P w H h) (k:∀ b u,h.get? b=some u->h'.get? b=some u) (hp:h.objs.size<=a) (new:Bx P w (upd H a o) h' a o):Ei P w (upd H a o) h':=fun b u e=>by
 have hn:=x.fresh hp
 by_cases hb:b=a
 ·subst hb; rw [Ak] at e; cases e; exact new
 ·rw [Ax hb] at e
  exact (x b u e).stay (fun c v _ q=>k c v q) (fun c q=>by rw [Ax (Aw q hn)]; exact q) fun c xs q=>by rw [Ax (Aw q hn)]; exact q
end
noncomputable def Rd (H:Hp) (a:Addr) (u:HO):Prop:=H a=some u \/ ∃ o,H a=some (.frz o u)
theorem Rd.ok {P:Program} {w:World} {H:Hp} {h:Heap} {a:Addr} {u:HO} (r:Rd H a u) (x:Ei P w H h):Bx P w H h a u:=by
 rcases r with r | ⟨o,r⟩
 ·exact x a u r
 ·obtain ⟨_,q⟩:=x a _ r
  exact q
noncomputable def YF:Option HO->Prop
 | some (.lst _)=>True
 | some (.dK _)=>True
 | some (.dT _)=>True
 | some (.set _ _)=>True
 | some (.ins _ _ _)=>True
 | some (.ext _)=>True
 | _=>False
section
variable {P:Program} {w:World} {H:Hp} {h h':Heap} {x e:Addr} {o':HO}
theorem Ei.write (ok:Ei P w H h) (mu:YF (H x)) (he:e=x \/ H e=some (.own x)) (k:∀ b u,b ≠ e->h.get? b=some u->h'.get? b=some u) (heo:∃ u,h'.get? e=some u)
  (new:Bx P w (upd H x o') h' x o'):Ei P w (upd H x o') h':=fun b u q=>by
 have nown:∀ c y,H c=some (.own y)->c ≠ x:=fun c y r z=>by subst z; rw [r] at mu; exact mu
 have ntup:∀ c xs,H c=some (.tup xs)->c ≠ x:=fun c xs r z=>by subst z; rw [r] at mu; exact mu
 by_cases hb:b=x
 ·subst hb; rw [Ak] at q; cases q; exact new
 ·rw [Ax hb] at q
  by_cases hbe:b=e
  ·have q':H b=some (.own x):=by
    rcases he with z | z
    ·exact absurd (hbe.trans z) hb
    ·rw [hbe]; exact z
   rw [q] at q'; cases q'
   obtain ⟨v,hv⟩:=heo
   exact ⟨v,by rw [hbe]; exact hv⟩
  ·refine (ok b u q).stay (fun c v hc r=>k c v ?_ r) (fun c r=>by rw [Ax (nown c b r)]; exact r) fun c xs r=>by rw [Ax (ntup c xs r)]; exact r
   rcases hc with rfl | hc
   ·exact hbe
   ·rintro rfl
    rcases he with z | z
    ·exact nown c b hc z
    ·rw [hc] at z; cases z; exact hb rfl
end
structure Un (fs ex:List Addr) (H H':Hp) (h h':Heap):Prop where
 keep:∀ b o,h.get? b=some o->H b=none->b ∉ fs->b ∉ ex->h'.get? b=some o
 slot:∀ b o,h.get? b=some o->H b=none->b∈fs->b ∉ ex->∃ sl,h'.get? b=some { o with slots:=sl }
 free:∀ b o,h.get? b=some o->H b=none->b ∉ ex->H' b=none
 there:∀ b o,h.get? b=some o->b ∉ ex->∃ o',h'.get? b=some o'
 tups:∀ b xs,H b=some (.tup xs)->H' b=some (.tup xs)
 frzs:∀ b o u,H b=some (.frz o u)->H' b=some (.frz o u)
 tbls:∀ b ps,H b=some (.tbl ps)->∃ more,H' b=some (.tbl (ps++more))
section
variable {fs fs' ex ex':List Addr} {H H1 H2:Hp} {h h1 h2 h':Heap} {a x e:Addr} {o:HO}
theorem Un.any (u:Un fs ex H H1 h h1) {b:Addr} {ob:Obj} (q:h.get? b=some ob) (n:H b=none) (hx:b ∉ ex):∃ sl,h1.get? b=some { ob with slots:=sl }:=by
 by_cases hb:b∈fs
 ·exact u.slot b ob q n hb hx
 ·exact ⟨ob.slots,u.keep b ob q n hb hx⟩
theorem Un.trans (a:Un fs ex H H1 h h1) (b:Un fs ex H1 H2 h1 h2):Un fs ex H H2 h h2 where
 keep:=fun c ob q n hc hx=>b.keep c ob (a.keep c ob q n hc hx) (a.free c ob q n hx) hc hx
 slot:=fun c ob q n hc hx=>by
  obtain ⟨sl,e1⟩:=a.slot c ob q n hc hx
  obtain ⟨sl',e2⟩:=b.slot c _ e1 (a.free c ob q n hx) hc hx
  exact ⟨sl',e2⟩
 free:=fun c ob q n hx=>by
  obtain ⟨o',e1⟩:=a.there c ob q hx
  exact b.free c o' e1 (a.free c ob q n hx) hx
 there:=fun c ob q hx=>by
  obtain ⟨o',e1⟩:=a.there c ob q hx
  exact b.there c o' e1 hx
 tups:=fun c xs q=>b.tups c xs (a.tups c xs q)
 frzs:=fun c ob xs q=>b.frzs c ob xs (a.frzs c ob xs q)
 tbls:=fun c ps q=>by
  obtain ⟨m1,e1⟩:=a.tbls c ps q
  obtain ⟨m2,e2⟩:=b.tbls c _ e1
  exact ⟨m1++m2,by rw [e2,Array.append_assoc]⟩
theorem Un.kept (k:∀ b u,h.get? b=some u->h'.get? b=some u):Un fs ex H H h h' :=
 ⟨fun b ob q _ _ _=>k b ob q,fun b ob q _ _ _=>⟨ob.slots,k b ob q⟩,fun _ _ _ n _=>n,fun b ob q _=>⟨ob,k b ob q⟩,fun _ _ q=>q,fun _ _ _ q=>q,fun _ ps q=>⟨#[],by rw [q]; simp⟩⟩
theorem Un.refl:Un fs ex H H h h:=Un.kept fun _ _ q=>q
theorem Un.laid (k:∀ b u,h.get? b=some u->h'.get? b=some u) (hp:h.objs.size<=a) (hn:H a=none):Un fs ex H (upd H a o) h h' where
 keep:=fun b u q _ _ _=>k b u q
 slot:=fun b u q _ _ _=>⟨u.slots,k b u q⟩
 free:=fun b u q n _=>by rw [Ax (Nat.ne_of_lt (Nat.lt_of_lt_of_le (Heap.lt_size q) hp))]; exact n
 there:=fun b u q _=>⟨u,k b u q⟩
 tups:=fun b xs q=>by rw [Ax (Aw q hn)]; exact q
 frzs:=fun b u xs q=>by rw [Ax (Aw q hn)]; exact q
 tbls:=fun b ps q=>⟨#[],by rw [Ax (Aw q hn),q]; simp⟩
theorem Un.write (mu:YF (H x)) (he:e=x \/ H e=some (.own x)) (k:∀ b u,b ≠ e->h.get? b=some u->h'.get? b=some u) (heo:∃ u,h'.get? e=some u):Un fs ex H (upd H x o) h h':=by
 have hx:∀ b,H b=none->b ≠ x:=fun b n z=>by subst z; rw [n] at mu; exact mu
 have hb:∀ b,H b=none->b ≠ e:=fun b n z=>by
  subst z
  rcases he with r | r
  ·exact hx b n r
  ·rw [n] at r; cases r
 have hm:∀ b u,H b=some u->¬ YF (some u)->b ≠ x:=fun b u q nm z=>by subst z; rw [q] at mu; exact nm mu
 refine ⟨fun b u q n _ _=>k b u (hb b n) q,fun b u q n _ _=>⟨u.slots,k b u (hb b n) q⟩,fun b u q n _=>by rw [Ax (hx b n)]; exact n,fun b u q _=>?_,
  fun b xs q=>by rw [Ax (hm b _ q fun z=>z)]; exact q,fun b u xs q=>by rw [Ax (hm b _ q fun z=>z)]; exact q,fun b ps q=>⟨#[],by rw [Ax (hm b _ q fun z=>z),q]; simp⟩⟩
 by_cases hbe:b=e
 ·subst hbe; exact heo
 ·exact ⟨u,k b u hbe q⟩
end
noncomputable def cL (h:Heap) (H:Hp):List Addr:=(List.range h.objs.size).filter fun a=>(H a).isSome
noncomputable def Kc (h:Heap) (H:Hp):Heap:=PySem.W.hideAll h (cL h H)
theorem P_ (h:Heap) (H:Hp):(Kc h H).objs.size=h.objs.size:=PySem.W.hideAll_size _ _
theorem Ry {h:Heap} {H:Hp} {b:Addr} {o:Obj} (e:h.get? b=some o) (n:H b=none):(Kc h H).get? b=some o :=
 PySem.W.hideAll_get _ e fun hm=>by
  have q:(H b).isSome=true:=(List.mem_filter.mp hm).2
  rw [n] at q; simp at q
theorem Us {h:Heap} {H:Hp} {b:Addr} {o:Obj} (e:(Kc h H).get? b=some o):h.get? b=some o/\H b=none:=by
 have e':h.get? b=some o:=PySem.W.of_hideAll (cL h H) e
 refine ⟨e',?_⟩
 cases q:H b with
 | none=>rfl
 | some x =>
  have hm:b∈cL h H:=List.mem_filter.mpr ⟨List.mem_range.mpr (Heap.lt_size e'),by simp [q]⟩
  have z:(Kc h H).get? b=none:=PySem.W.hideAll_none (cL h H) hm
  rw [z] at e; cases e
noncomputable def VG (g h:Heap) (L:Addr):List (Addr × Obj):=(List.range h.objs.size).filterMap fun a=>if a=L \/ (g.get? a).isSome=true then none else (h.get? a).map fun o=>(a,o)
noncomputable def rest (g h:Heap) (L d:Addr):List (Addr × Obj):=(VG g h L).filter fun p=>decide (p.1 ≠ d)
end L2
namespace L2
open PySem PySem.Spec PyProof.Rows
structure Mod (K:PySem.W.Frag) (mg:Str->Option Value) (base:Heap):Prop where
 kin:K.In base
 glob:base.Ns mainGlobals mg
 blt:∃ mb,base.Ns builtinsNs mb/\∀ x:Str,x ≠ "__name__"->mb x=bootBuiltins x
 nolimit:base.NoLimit
structure Cx where
 prog:Program
 w:World
 K:PySem.W.Frag
 mg:Str->Option Value
 base:Heap
 A:Around
 N:List Str
 s₀:Shared
 H₀:Hp
 env:Env
 outer:List Env
 stack:List Env
 ex:List Addr
 fn:Str->Bool
 calm:Bool
 pn:List (Addr × Obj)
 xe:Value->Shared->Prop
noncomputable def frs (l:List Env):List Addr:=l.filterMap (·.frame)
noncomputable abbrev Cx.fs (X:Cx):List Addr:=frs X.outer
noncomputable def iy (sc:Scope) (x:Str):Prop:=sc.names.lookup x=some .local \/ sc.names.lookup x=some .cell \/ sc.names.lookup x=some .free
noncomputable def Loc (sc:Scope) (x:Str):Prop:=sc.names.lookup x=some .local \/ sc.names.lookup x=some .cell
noncomputable def Look (env:Env) (h:Heap) (m:Str->Option Value) (x:Str) (u:Value):Prop :=
 (env.kindOf x=some .local/\m x=some u) \/ ((env.kindOf x=some .cell \/ env.kindOf x=some .free)/\∃ c,env.cells.lookup x=some c/\h.IsCell c (some u))
structure Cx.Ok (X:Cx):Prop where
 mod:Mod X.K X.mg X.base
 kind:X.env.scope.kind=.function
 glob:X.env.globals=mainGlobals
 blt:X.env.builtins=builtinsNs
 above:X.s₀.heap.objs.size<=X.env.locals
 inj:∀ x y c,X.env.cells.lookup x=some c->X.env.cells.lookup y=some c->x=y
 has:∀ x,(X.env.kindOf x=some .cell \/ X.env.kindOf x=some .free)->∃ c,X.env.cells.lookup x=some c
 cab:∀ x c,X.fn x=true->X.env.cells.lookup x=some c->X.s₀.heap.objs.size<=c
 hd:X.calm=true->X.A.handled=none
 frames:X.A.frames=some X.stack
 stk:X.stack=X.outer \/ (X.stack=X.env::X.outer/\X.env.frame=some X.env.locals)
 exf:∀ b∈X.ex,b ≠ X.env.locals/\∀ x c,X.env.cells.lookup x=some c->c ≠ b
 bs:∀ b o,X.base.get? b=some o->X.s₀.heap.get? b=some o/\X.H₀ b=none
 bsz:X.base.objs.size<=X.s₀.heap.objs.size
 noex:∀ b o,X.base.get? b=some o->b ∉ X.ex
 exfs:∀ b∈X.ex,b ∉ X.fs
 IV:X.s₀.heap.FunFrames X.base X.outer
 frf:∀ b∈X.fs,X.H₀ b=none
structure Inv (X:Cx) (pins:List (Addr × Obj)) (σ:List (Option V)) (H:Hp) (s:Shared):Prop where
 ok:X.Ok
 os:s.os=X.s₀.os
 bare:AllBare s.gens
 base:Un X.fs X.ex X.H₀ H X.s₀.heap s.heap
 loc:∃ m,s.heap.Ns X.env.locals m/\∀ (i:Nat) (x:Str) (v:V),X.N[i]? = some x->σ[i]? = some (some v)->iy X.env.scope x->∃ u,RelV v u/\Look X.env s.heap m x u
 cell:∀ x c,X.env.cells.lookup x=some c->∃ v,s.heap.IsCell c v
 free:H X.env.locals=none
 freeC:∀ x c,X.env.cells.lookup x=some c->H c=none
 pin:∀ p∈X.pn++pins,s.heap.get? p.1=some p.2/\H p.1=none/\p.1 ≠ X.env.locals/\p.1 ∉ X.fs/\∀ v,p.2.data ≠ .cell v
 hok:Ei X.prog X.w H s.heap
 len:σ.length=X.N.length
section
variable {X:Cx} {pins:List (Addr × Obj)} {σ:List (Option V)} {H H':Hp} {s:Shared} {h':Heap}
theorem Cx.Ok.fC (ok:X.Ok) {b:Addr} {o:Obj} (e:X.base.get? b=some o):b ∉ X.fs:=fun hb=>by
 have:=(ok.IV.mem hb).1
 rw [e] at this; cases this
theorem Inv.bs (I:Inv X pins σ H s):∀ b o,X.base.get? b=some o->s.heap.get? b=some o/\H b=none:=fun b o e =>
 ⟨I.base.keep b o (I.ok.bs b o e).1 (I.ok.bs b o e).2 (I.ok.fC e) (I.ok.noex b o e),I.base.free b o (I.ok.bs b o e).1 (I.ok.bs b o e).2 (I.ok.noex b o e)⟩
theorem Inv.bk (I:Inv X pins σ H s):∀ b o,X.base.get? b=some o->s.heap.get? b=some o:=fun b o e=>(I.bs b o e).1
theorem Inv.mod (I:Inv X pins σ H s):Mod X.K X.mg X.base:=I.ok.mod
theorem Inv.Gx (I:Inv X pins σ H s):X.K.In s.heap:=I.ok.mod.kin.keeps I.bk
theorem Inv.lt (I:Inv X pins σ H s):X.env.locals<s.heap.objs.size:=let ⟨_,hn,_⟩:=I.loc; hn.lt
theorem Inv.sz (I:Inv X pins σ H s):X.s₀.heap.objs.size<=s.heap.objs.size:=Nat.le_trans I.ok.above (Nat.le_of_lt I.lt)
theorem Inv.jF (I:Inv X pins σ H s) {a:Addr} (h:s.heap.objs.size<=a):a ∉ X.fs:=fun hb=>by
 obtain ⟨_,o,ho,_⟩:=I.ok.IV.mem hb
 exact absurd (Nat.lt_of_lt_of_le (Heap.lt_size ho) (Nat.le_trans I.sz h)) (Nat.lt_irrefl _)
theorem Inv.U8 (I:Inv X pins σ H s):∀ x c,X.env.cells.lookup x=some c->c ≠ X.env.locals:=fun x c e z=>by
 obtain ⟨v,o,ho,hd⟩:=I.cell x c e
 obtain ⟨m,⟨o',es,ep,ho',hd',_⟩,_⟩:=I.loc
 rw [z,ho'] at ho; cases ho; rw [hd'] at hd; cases hd
theorem Inv.IV (I:Inv X pins σ H s):s.heap.FunFrames X.base X.outer:=by
 have all:∀ (l:List Env),(∀ b∈frs l,b∈X.fs)->X.s₀.heap.FunFrames X.base l->s.heap.FunFrames X.base l:=by
  intro l
  induction l with
  | nil=>intro _ _; trivial
  | cons env r ih =>
   intro hs hl
   obtain ⟨hk,⟨L,o,hf,hn,ho,hd⟩,hr⟩:=hl
   have hL:L∈X.fs:=hs L (by unfold frs; rw [List.filterMap_cons,hf]; exact List.mem_cons_self)
   obtain ⟨sl,e⟩:=I.base.slot L o ho (I.ok.frf L hL) hL fun z=>I.ok.exfs L z hL
   exact ⟨hk,⟨L,_,hf,hn,e,hd⟩,ih (fun b hb=>hs b (by unfold frs; rw [List.filterMap_cons,hf]; exact List.mem_cons_of_mem _ hb)) hr⟩
 exact all X.outer (fun _ hb=>hb) I.ok.IV
theorem Inv.stack (I:Inv X pins σ H s):s.heap.FunFrames X.base X.stack:=by
 rcases I.ok.stk with e | ⟨e,hf⟩
 ·rw [e]; exact I.IV
 ·rw [e]
  obtain ⟨m,hn,_⟩:=I.loc
  refine .cons (by rw [I.ok.kind]; decide) hf hn ?_ I.IV
  exact Heap.get?_none_of_le (Nat.le_trans I.ok.bsz I.ok.above)
theorem Inv.Ko (I:Inv X pins σ H s):∀ b∈frs X.stack,b∈X.env.locals::X.fs:=fun b hb=>by
 rcases I.ok.stk with e | ⟨e,hf⟩
 ·rw [e] at hb; exact List.mem_cons_of_mem _ hb
 ·rw [e] at hb
  unfold frs at hb
  rw [List.filterMap_cons,hf] at hb
  exact hb
theorem Inv.HQ (I:Inv X pins σ H s):∀ b∈frs X.stack,H b=none:=fun b hb=>by
 rcases List.mem_cons.mp (I.Ko b hb) with e | hb
 ·rw [e]; exact I.free
 ·obtain ⟨_,o,ho,_⟩:=I.ok.IV.mem hb
  exact I.base.free b o ho (I.ok.frf b hb) fun z=>I.ok.exfs b z hb
theorem Inv.step {g':Array GenState} {t':Nat} {d':Drawn} {ch:List Addr} (I:Inv X pins σ H s)
  (hch:∀ b∈ch,(b∈X.ex \/ X.s₀.heap.objs.size<=b)/\b ≠ X.env.locals/\(∀ x c,X.env.cells.lookup x=some c->c ≠ b)/\∀ p∈X.pn++pins,p.1 ≠ b)
  (keep:∀ b o,b ≠ X.env.locals->b ∉ X.fs->b ∉ ch->s.heap.get? b=some o->H b=none->h'.get? b=some o)
  (slot:∀ b o,b ≠ X.env.locals->b∈X.fs->b ∉ ch->s.heap.get? b=some o->H b=none->∃ sl,h'.get? b=some { o with slots:=sl }) (free:∀ b o,b ∉ ch->s.heap.get? b=some o->H b=none->H' b=none)
  (there:∀ b o,b ∉ ch->s.heap.get? b=some o->∃ o',h'.get? b=some o')
  (tups:∀ b xs,H b=some (.tup xs)->H' b=some (.tup xs)) (frzs:∀ b o u,H b=some (.frz o u)->H' b=some (.frz o u)) (tbls:∀ b ps,H b=some (.tbl ps)->∃ more,H' b=some (.tbl (ps++more)))
  (ns:∀ m,s.heap.Ns X.env.locals m->h'.Ns X.env.locals m) (hok:Ei X.prog X.w H' h') (hg:AllBare g') :
  Inv X pins σ H' { s with heap:=h',gens:=g',drawn:=d',toks:=t' }:=by
 have neL:∀ b o,X.s₀.heap.get? b=some o->b ≠ X.env.locals:=fun b o e=>Nat.ne_of_lt (Nat.lt_of_lt_of_le (Heap.lt_size e) I.ok.above)
 have neC:∀ b o,X.s₀.heap.get? b=some o->b ∉ X.ex->b ∉ ch:=fun b o e hx hb=>by
  rcases (hch b hb).1 with z | z
  ·exact hx z
  ·exact absurd (Nat.lt_of_lt_of_le (Heap.lt_size e) z) (Nat.lt_irrefl _)
 have cellK:∀ x c,X.env.cells.lookup x=some c->∀ v,s.heap.IsCell c v->h'.IsCell c v:=fun x c e v ⟨o,ho,hd⟩=>by
  have nch:c ∉ ch:=fun z=>(hch c z).2.2.1 x c e rfl
  by_cases hc:c∈X.fs
  ·obtain ⟨sl,q⟩:=slot c o (I.U8 x c e) hc nch ho (I.freeC x c e)
   exact ⟨_,q,hd⟩
  ·exact ⟨o,keep c o (I.U8 x c e) hc nch ho (I.freeC x c e),hd⟩
 refine ⟨I.ok,I.os,hg,⟨fun b o e n hb hx=>?_,fun b o e n hb hx=>?_,fun b o e n hx=>?_,fun b o e hx=>?_,fun b xs e=>tups b xs (I.base.tups b xs e),fun b o xs e=>frzs b o xs (I.base.frzs b o xs e),fun b ps e=>?_⟩,?_,fun x c e=>?_,?_,fun x c e=>?_,fun p hp=>?_,hok,I.len⟩
 ·exact keep b o (neL b o e) hb (neC b o e hx) (I.base.keep b o e n hb hx) (I.base.free b o e n hx)
 ·obtain ⟨sl,e1⟩:=I.base.slot b o e n hb hx
  obtain ⟨sl',e2⟩:=slot b _ (neL b o e) hb (neC b o e hx) e1 (I.base.free b o e n hx)
  exact ⟨sl',e2⟩
 ·obtain ⟨o',e1⟩:=I.base.there b o e hx
  exact free b o' (neC b o e hx) e1 (I.base.free b o e n hx)
 ·obtain ⟨o',e1⟩:=I.base.there b o e hx
  exact there b o' (neC b o e hx) e1
 ·obtain ⟨m1,e1⟩:=I.base.tbls b ps e
  obtain ⟨m2,e2⟩:=tbls b _ e1
  exact ⟨m1++m2,by rw [e2,Array.append_assoc]⟩
 ·obtain ⟨m,hn,hl⟩:=I.loc
  refine ⟨m,ns m hn,fun i x v e1 e2 e3=>?_⟩
  obtain ⟨u,r,l⟩:=hl i x v e1 e2 e3
  refine ⟨u,r,?_⟩
  rcases l with l | ⟨k,c,e,z⟩
  ·exact .inl l
  ·exact .inr ⟨k,c,e,cellK x c e _ z⟩
 ·obtain ⟨v,z⟩:=I.cell x c e
  exact ⟨v,cellK x c e v z⟩
 ·obtain ⟨m,⟨o,_,_,ho,_⟩,_⟩:=I.loc
  exact free _ o (fun z=>(hch _ z).2.1 rfl) ho I.free
 ·obtain ⟨v,o,ho,hd⟩:=I.cell x c e
  exact free c o (fun z=>(hch c z).2.2.1 x c e rfl) ho (I.freeC x c e)
 ·obtain ⟨e,n,ne,nf,d⟩:=I.pin p hp
  have nch:p.1 ∉ ch:=fun z=>(hch p.1 z).2.2.2 p hp rfl
  exact ⟨keep p.1 p.2 ne nf nch e n,free p.1 p.2 nch e n,ne,nf,d⟩
theorem Inv.un {t':Nat} (I:Inv X pins σ H s) (u:Un X.fs [] H H' s.heap h') (hok:Ei X.prog X.w H' h'):Inv X pins σ H' { s with heap:=h',toks:=t' }:=by
 obtain ⟨m,⟨o,es,ep,ho,r⟩,_⟩:=id I.loc
 obtain ⟨sl,hL⟩:=u.any ho I.free (by simp)
 exact I.step (g':=s.gens) (d':=s.drawn) (ch:=[]) (fun _ z=>nomatch z) (fun b o _ hb _ e n=>u.keep b o e n hb (by simp)) (fun b o _ hb _ e n=>u.slot b o e n hb (by simp)) (fun b o _ e n=>u.free b o e n (by simp)) (fun b o _ e=>u.there b o e (by simp)) u.tups u.frzs u.tbls (fun m' hm=>by
  obtain ⟨o',es',ep',ho',r'⟩:=hm
  rw [ho] at ho'; cases ho'
  exact ⟨_,es',ep',hL,r'⟩) hok I.bare
theorem Inv.call {g':Array GenState} {t':Nat} {d':Drawn} {ch:List Addr} (I:Inv X pins σ H s) (u:Un (frs X.stack) ch H H' s.heap h') (hok:Ei X.prog X.w H' h') (hg:AllBare g')
  (hch:∀ b∈ch,(b∈X.ex \/ X.s₀.heap.objs.size<=b)/\b ≠ X.env.locals/\(∀ x c,X.env.cells.lookup x=some c->c ≠ b)/\∀ p∈X.pn++pins,p.1 ≠ b) :
  Inv X pins σ H' { s with heap:=h',gens:=g',drawn:=d',toks:=t' }:=by
 obtain ⟨m,⟨o,es,ep,ho,r⟩,_⟩:=id I.loc
 obtain ⟨sl,hL⟩:=u.any ho I.free fun z=>(hch _ z).2.1 rfl
 exact I.step (ch:=ch) hch (fun b o hL hb hc e n=>u.keep b o e n (fun z=>(List.mem_cons.mp (I.Ko b z)).elim hL hb) hc) (fun b o _ _ hc e n=>u.any e n hc) (fun b o hc e n=>u.free b o e n hc) (fun b o hc e=>u.there b o e hc) u.tups u.frzs u.tbls (fun m' hm=>by
  obtain ⟨o',es',ep',ho',r'⟩:=hm
  rw [ho] at ho'; cases ho'
  exact ⟨_,es',ep',hL,r'⟩) hok hg
theorem Inv.turned {t':Nat} {it:Addr} (I:Inv X pins σ H s) (k:∀ b o,b ≠ it->s.heap.get? b=some o->h'.get? b=some o) (hn:H it=none) (hL:it ≠ X.env.locals)
  (h1:it∈X.ex \/ X.s₀.heap.objs.size<=it) (h2:∀ x c,X.env.cells.lookup x=some c->c ≠ it) (h3:∀ p∈X.pn++pins,p.1 ≠ it):Inv X pins σ H { s with heap:=h',toks:=t' }:=by
 have nit:∀ b u,H b=some u->b ≠ it:=fun b u e z=>by rw [z,hn] at e; cases e
 refine I.step (g':=s.gens) (d':=s.drawn) (ch:=[it]) (fun b hb=>?_) (fun b o _ _ hc e _=>k b o (fun z=>hc (by simp [z])) e) (fun b o _ _ hc e _=>⟨o.slots,k b o (fun z=>hc (by simp [z])) e⟩) (fun _ _ _ _ n=>n)
  (fun b o hc e=>⟨o,k b o (fun z=>hc (by simp [z])) e⟩) (fun _ _ e=>e) (fun _ _ _ e=>e) (fun b ps e=>⟨#[],by rw [e]; simp⟩) (fun m hm=>?_) (fun b u e=>?_) I.bare
 ·have e:b=it:=by simpa using hb
  subst e
  exact ⟨h1,hL,h2,h3⟩
 ·obtain ⟨o,es,ep,ho,r⟩:=hm
  exact ⟨o,es,ep,k _ o (Ne.symm hL) ho,r⟩
 ·refine (I.hok b u e).stay (fun c v hc q=>k c v ?_ q) (fun _ q=>q) fun _ _ q=>q
  rcases hc with z | z
  ·rw [z]; exact nit b u e
  ·exact nit c _ z
theorem Inv.tok (I:Inv X pins σ H s) (t:Nat):Inv X pins σ H { s with toks:=t }:=I.un (h':=s.heap) (t':=t) Un.refl I.hok
theorem Inv.kept {t':Nat} (I:Inv X pins σ H s) (k:∀ b u,s.heap.get? b=some u->h'.get? b=some u):Inv X pins σ H { s with heap:=h',toks:=t' }:=I.un (Un.kept k) (I.hok.kept k)
theorem Inv.laid {a:Addr} {o:HO} {t':Nat} (I:Inv X pins σ H s) (k:∀ b u,s.heap.get? b=some u->h'.get? b=some u) (hp:s.heap.objs.size<=a) (new:Bx X.prog X.w (upd H a o) h' a o) :
  Inv X pins σ (upd H a o) { s with heap:=h',toks:=t' }:=I.un (Un.laid k hp (I.hok.fresh hp)) (I.hok.laid k hp new)
theorem Inv.write {x e:Addr} {o:HO} {t':Nat} (I:Inv X pins σ H s) (mu:YF (H x)) (he:e=x \/ H e=some (.own x)) (k:∀ b u,b ≠ e->s.heap.get? b=some u->h'.get? b=some u) (heo:∃ u,h'.get? e=some u)
  (new:Bx X.prog X.w (upd H x o) h' x o):Inv X pins σ (upd H x o) { s with heap:=h',toks:=t' }:=I.un (Un.write mu he k heo) (I.hok.write mu he k heo new)
theorem Inv.Ol {pins':List (Addr × Obj)} (I:Inv X pins σ H s) (h:∀ p∈pins',s.heap.get? p.1=some p.2/\H p.1=none/\p.1 ≠ X.env.locals/\p.1 ∉ X.fs/\∀ v,p.2.data ≠ .cell v):Inv X pins' σ H s :=
 ⟨I.ok,I.os,I.bare,I.base,I.loc,I.cell,I.free,I.freeC,fun p hp=>(List.mem_append.mp hp).elim (fun z=>I.pin p (List.mem_append_left _ z)) (h p),I.hok,I.len⟩
theorem JW {N:List Str} (hN:N.Nodup) {i j:Nat} {x:Str} (a:N[i]? = some x) (b:N[j]? = some x):i=j:=by
 obtain ⟨h1,e1⟩:=List.getElem?_eq_some_iff.mp a
 obtain ⟨h2,e2⟩:=List.getElem?_eq_some_iff.mp b
 exact (List.getElem_inj hN).mp (e1.trans e2.symm)
theorem Gg {M:Model} {A:Around} {E:Value->Shared->Prop} {i:Nat} {x:Str} {v:V} {u:Value} {Q:Unit->Shared->Prop} (I:Inv X pins σ H s) (hN:X.N.Nodup) (hi:X.N[i]? = some x) (hx:Loc X.env.scope x) (r:RelV v u)
  (h:∀ s',Inv X pins (σ.set i (some v)) H s'->(∃ a,Heap.SameBut a s.heap s'.heap/\(a=X.env.locals \/ X.env.cells.lookup x=some a))->Q () s') (hf:X.fn x=true \/ X.env.scope.names.lookup x=some .local:=by first | exact .inl rfl | exact .inr rfl | assumption):wpAny M A (storeName X.env x u) Q E s:=by
 obtain ⟨m,hn,hl⟩:=id I.loc
 have hcls:(X.env.scope.kind == .class || (X.env.scope.kind == .module && X.env.locals != X.env.globals))=false:=by rw [I.ok.kind]; rfl
 have hiσ:i<σ.length:=by rw [I.len]; exact (List.getElem?_eq_some_iff.mp hi).1
 have U8:=I.U8
 have tracked:∀ {a:Addr} {h':Heap},(∃ o,s.heap.get? a=some o/\H a=none)->Heap.SameBut a s.heap h'->Ei X.prog X.w H h':=fun {a h'} ha hs b ob e=>by
  obtain ⟨_,_,hfree⟩:=ha
  refine (I.hok b ob e).stay (fun c w' hc q=>(hs.2 c ?_).trans q) (fun _ q=>q) fun _ _ q=>q
  rintro rfl
  rcases hc with rfl | hc
  ·rw [hfree] at e; cases e
  ·rw [hfree] at hc; cases hc
 rcases hx with hk | hk
 ·refine wpAny_storeName_local hk hn (fun h' hn' hs=>?_) hcls
  obtain ⟨oL,_,_,hoL,_⟩:=id hn
  refine h _ ⟨I.ok,I.os,I.bare,⟨fun b o e n hb hx=>?_,fun b o e n hb hx=>?_,I.base.free,fun b o e hx=>?_,I.base.tups,I.base.frzs,I.base.tbls⟩,⟨_,hn',fun j y v' e1 e2 e3=>?_⟩,fun y c e=>?_,I.free,I.freeC,fun p hp=>?_,tracked ⟨oL,hoL,I.free⟩ hs,by simpa using I.len⟩ ⟨_,hs,.inl rfl⟩
  ·exact (hs.2 b (Nat.ne_of_lt (Nat.lt_of_lt_of_le (Heap.lt_size e) I.ok.above))).trans (I.base.keep b o e n hb hx)
  ·obtain ⟨sl,e1⟩:=I.base.slot b o e n hb hx
   exact ⟨sl,(hs.2 b (Nat.ne_of_lt (Nat.lt_of_lt_of_le (Heap.lt_size e) I.ok.above))).trans e1⟩
  ·obtain ⟨o',e1⟩:=I.base.there b o e hx
   exact ⟨o',(hs.2 b (Nat.ne_of_lt (Nat.lt_of_lt_of_le (Heap.lt_size e) I.ok.above))).trans e1⟩
  ·by_cases hj:j=i
   ·subst hj
    rw [hi] at e1; cases e1
    rw [List.getElem?_set_self hiσ] at e2
    cases e2
    exact ⟨u,r,.inl ⟨hk,by simp⟩⟩
   ·rw [List.getElem?_set_ne (Ne.symm hj)] at e2
    obtain ⟨u',r',q⟩:=hl j y v' e1 e2 e3
    refine ⟨u',r',?_⟩
    rcases q with ⟨k,e⟩ | ⟨k,c,e,z⟩
    ·refine .inl ⟨k,?_⟩
     have:y ≠ x:=fun e=>hj (JW hN e1 (e ▸ hi))
     simp [this,e]
    ·exact .inr ⟨k,c,e,z.sameBut hs (U8 y c e)⟩
  ·obtain ⟨w',z⟩:=I.cell y c e
   exact ⟨w',z.sameBut hs (U8 y c e)⟩
  ·obtain ⟨e,n,ne,nf,d⟩:=I.pin p hp
   exact ⟨(hs.2 p.1 ne).trans e,n,ne,nf,d⟩
 ·have hfn:X.fn x=true:=by
   rcases hf with z | z
   ·exact z
   ·rw [z] at hk; cases hk
  obtain ⟨c,hc⟩:=I.ok.has x (.inl hk)
  obtain ⟨w',z⟩:=I.cell x c hc
  refine wpAny_storeName_cell I.ok.kind hk hc z (fun h' hc' hs=>?_)
  obtain ⟨oc,hoc,hocd⟩:=id z
  refine h { s with heap:=h' } ⟨I.ok,I.os,I.bare,⟨fun b o e n hb hx=>?_,fun b o e n hb hx=>?_,I.base.free,fun b o e hx=>?_,I.base.tups,I.base.frzs,I.base.tbls⟩,⟨m,hn.sameBut hs (Ne.symm (U8 x c hc)),fun j y v' e1 e2 e3=>?_⟩,fun y c' e=>?_,I.free,I.freeC,fun p hp=>?_,tracked ⟨oc,hoc,I.freeC x c hc⟩ hs,by simpa using I.len⟩ ⟨c,hs,.inr hc⟩
  ·exact (hs.2 b (Nat.ne_of_lt (Nat.lt_of_lt_of_le (Heap.lt_size e) (I.ok.cab x c hfn hc)))).trans (I.base.keep b o e n hb hx)
  ·obtain ⟨sl,e1⟩:=I.base.slot b o e n hb hx
   exact ⟨sl,(hs.2 b (Nat.ne_of_lt (Nat.lt_of_lt_of_le (Heap.lt_size e) (I.ok.cab x c hfn hc)))).trans e1⟩
  ·obtain ⟨o',e1⟩:=I.base.there b o e hx
   exact ⟨o',(hs.2 b (Nat.ne_of_lt (Nat.lt_of_lt_of_le (Heap.lt_size e) (I.ok.cab x c hfn hc)))).trans e1⟩
  ·by_cases hj:j=i
   ·subst hj
    rw [hi] at e1; cases e1
    rw [List.getElem?_set_self hiσ] at e2
    cases e2
    exact ⟨u,r,.inr ⟨.inl hk,c,hc,hc'⟩⟩
   ·rw [List.getElem?_set_ne (Ne.symm hj)] at e2
    obtain ⟨u',r',q⟩:=hl j y v' e1 e2 e3
    refine ⟨u',r',?_⟩
    rcases q with q | ⟨k,c',e,z'⟩
    ·exact .inl q
    ·refine .inr ⟨k,c',e,z'.sameBut hs ?_⟩
     rintro rfl
     exact hj (JW hN e1 (I.ok.inj _ _ _ e hc ▸ hi))
  ·by_cases hcc:c'=c
   ·subst hcc; exact ⟨_,hc'⟩
   ·obtain ⟨w2,z2⟩:=I.cell y c' e
    exact ⟨w2,z2.sameBut hs hcc⟩
  ·obtain ⟨e,n,ne,nf,d⟩:=I.pin p hp
   refine ⟨(hs.2 p.1 ?_).trans e,n,ne,nf,d⟩
   intro q
   rw [q,hoc] at e
   have q':oc=p.2:=Option.some.inj e
   exact d w' (by rw [← q']; exact hocd)
theorem Jk {M:Model} {A:Around} {E:Value->Shared->Prop} {i:Nat} {x:Str} {v:V} {u:Value} {Q:Unit->Shared->Prop} (I:Inv X pins σ H s) (hN:X.N.Nodup) (hi:X.N[i]? = some x) (hx:Loc X.env.scope x) (r:RelV v u)
  (h:∀ s',Inv X pins (σ.set i (some v)) H s'->Q () s') (hf:X.fn x=true \/ X.env.scope.names.lookup x=some .local:=by first | exact .inl rfl | exact .inr rfl | assumption):wpAny M A (storeName X.env x u) Q E s :=
 Gg I hN hi hx r (fun s' I' _=>h s' I') hf
theorem Inv.call' {s':Shared} {ch:List Addr} (I:Inv X pins σ H s) (ho:s'.os=s.os) (u:Un (frs X.stack) ch H H' s.heap s'.heap) (hok:Ei X.prog X.w H' s'.heap) (hg:AllBare s'.gens)
  (hch:∀ b∈ch,(b∈X.ex \/ X.s₀.heap.objs.size<=b)/\b ≠ X.env.locals/\(∀ x c,X.env.cells.lookup x=some c->c ≠ b)/\∀ p∈X.pn++pins,p.1 ≠ b):Inv X pins σ H' s':=by
 obtain ⟨h',g',d',t',o'⟩:=s'
 have e:o'=s.os:=ho
 subst e
 exact I.call (g':=g') (t':=t') (d':=d') u hok hg hch
end
noncomputable abbrev XK:=Value->Option Addr->Hp->Prop
noncomputable abbrev St:=List (Option V)
noncomputable abbrev VK:=V->Hp->Prop
noncomputable abbrev TE:=St->Hp->VK->Prop
noncomputable abbrev TT:=St->Hp->(Bool->Hp->Prop)->Prop
noncomputable abbrev TA:=St->Hp->(List V->Hp->Prop)->Prop
structure Ends where
 nx:St->Hp->Prop
 rt:VK
 bk:St->Hp->Prop:=fun _ _=>False
 ct:St->Hp->Prop:=fun _ _=>False
noncomputable abbrev TS:=Ends->St->Hp->Prop
noncomputable def EP (X:Cx) (pins:List (Addr × Obj)) (σ:St) (Q:VK) (u:Value) (s':Shared):Prop:=∃ v H',Inv X pins σ H' s'/\RelV v u/\Q v H'
noncomputable def TP (X:Cx) (pins:List (Addr × Obj)) (σ:St) (Q:Bool->Hp->Prop) (b:Bool) (s':Shared):Prop:=∃ H',Inv X pins σ H' s'/\Q b H'
noncomputable def AP (X:Cx) (pins:List (Addr × Obj)) (σ:St) (Q:List V->Hp->Prop) (us:List Value) (s':Shared):Prop:=∃ vs H',Inv X pins σ H' s'/\Vals vs us/\Q vs H'
noncomputable def SP (X:Cx) (pins:List (Addr × Obj)) (D:Ends) (f:Flow) (s':Shared):Prop :=
 match f with
 | .next=>∃ σ' H',Inv X pins σ' H' s'/\D.nx σ' H'
 | .brk=>∃ σ' H',Inv X pins σ' H' s'/\D.bk σ' H'
 | .cont=>∃ σ' H',Inv X pins σ' H' s'/\D.ct σ' H'
 | .ret u=>∃ v σ' H',Inv X pins σ' H' s'/\RelV v u/\D.rt v H'
noncomputable def PE (X:Cx) (e:Expr) (t:TE):Prop :=
 ∀ (pins:List (Addr × Obj)) (s:Shared) (σ:St) (H:Hp) (Q:VK),Inv X pins σ H s->t σ H Q->wpAny (model X.prog X.w) X.A (eval e X.env) (EP X pins σ Q) X.xe s
noncomputable def PT (X:Cx) (e:Expr) (t:TT):Prop :=
 ∀ (pins:List (Addr × Obj)) (s:Shared) (σ:St) (H:Hp) (Q:Bool->Hp->Prop),Inv X pins σ H s->t σ H Q->wpAny (model X.prog X.w) X.A (isTrue e X.env (eval e X.env)) (TP X pins σ Q) X.xe s
noncomputable def PW (X:Cx) (e:Expr) (t:TT):Prop :=
 ∀ (whole:Sem Value) (pins:List (Addr × Obj)) (s:Shared) (σ:St) (H:Hp) (Q:Bool->Hp->Prop),Inv X pins σ H s->t σ H Q->wpAny (model X.prog X.w) X.A (isTrue e X.env whole) (TP X pins σ Q) X.xe s
theorem PW.pt {X:Cx} {e:Expr} {t:TT} (h:PW X e t):PT X e t:=h _
noncomputable def PA (X:Cx) (es:List Expr) (t:TA):Prop :=
 ∀ (pos:Pos) (pins:List (Addr × Obj)) (s:Shared) (σ:St) (H:Hp) (Q:List V->Hp->Prop),Inv X pins σ H s->t σ H Q->wpAny (model X.prog X.w) X.A (spliced (backTo pos (starEach es X.env))) (AP X pins σ Q) X.xe s
noncomputable def PS (X:Cx) (st:Stmt) (t:TS):Prop :=
 ∀ (pins:List (Addr × Obj)) (s:Shared) (σ:St) (H:Hp) (D:Ends),Inv X pins σ H s->t D σ H->wpAny (model X.prog X.w) X.A (exec st X.env) (SP X pins D) X.xe s
noncomputable def Mu (X:Cx) (st:List Stmt) (t:TS):Prop :=
 ∀ (pins:List (Addr × Obj)) (s:Shared) (σ:St) (H:Hp) (D:Ends),Inv X pins σ H s->t D σ H->wpAny (model X.prog X.w) X.A (execs st X.env) (SP X pins D) X.xe s
theorem CJ {α:Type} {t:Sem α} {Q Q':α->Shared->Prop} {M:Model} {A:Around} {E:Value->Shared->Prop} {s:Shared} (h:wpAny M A t Q E s) (hQ:∀ a s,Q a s->Q' a s):wpAny M A t Q' E s:=wpAny_mono h hQ fun _ _ x=>x
end L2
namespace L2
open PySem PySem.Spec PyProof.Rows
section
variable {X:Cx}
noncomputable def aj (i:Nat):TE:=fun σ H Q=>∃ v,σ[i]? = some (some v)/\Q v H
noncomputable def tC (v:V):TE:=fun _ H Q=>Q v H
theorem Wk {i:Nat} {x:Str} {pos:Pos} (hN:X.N[i]? = some x) (hv:iy X.env.scope x) (hd:(x == ("__debug__" : Str))=false:=by decide) (hcd:(x == ("__classdict__" : Str))=false:=by decide):PE X (.Name x pos) (aj i):=by
 intro pins s σ H Q I h
 obtain ⟨v,e,h⟩:=h
 obtain ⟨m,hn,hl⟩:=I.loc
 obtain ⟨u,r,l⟩:=hl i x v hN e hv
 have fin:EP X pins σ Q u s:=⟨v,H,I,r,h⟩
 rcases l with ⟨hk,hm⟩ | ⟨hk,c,hc,hcell⟩
 ·exact wpAny_Name (wpAny_loadName_local I.ok.kind hk hn hm fin) hd
 ·rcases hk with hk | hk
  ·exact wpAny_Name (wpAny_loadName_cell I.ok.kind hk hc hcell fin) hd
  ·exact wpAny_Name (wpAny_loadName_free I.ok.kind hk hc hcell fin hcd) hd
theorem Ae {i j pos}:PE X (.Constant (.int i) j pos) (tC (.int i)):=fun _ _ _ H _ I h=>wpAny_Constant_int ⟨.int i,H,I.tok _,⟨_,rfl⟩,h⟩
theorem HJ {b j pos}:PE X (.Constant (.bool b) j pos) (tC (.bl b)):=fun _ _ _ H _ I h=>Constant_bool ⟨.bl b,H,I,rfl,h⟩
theorem Kr {j pos}:PE X (.Constant .none j pos) (tC .non):=fun _ _ _ H _ I h=>Constant_none ⟨.non,H,I,rfl,h⟩
theorem BZ {x j pos}:PE X (.Constant (.str x) j pos) (tC (.str x)):=fun _ _ _ H _ I h=>Calls.Constant_str ⟨.str x,H,I.tok _,⟨_,rfl⟩,h⟩
noncomputable def Gl (X:Cx) (x:Str):Prop:=X.env.kindOf x=some .globalImplicit
theorem Gs {E:Value->Shared->Prop} {pins:List (Addr × Obj)} {s:Shared} {σ:St} {H:Hp} {x:Str} {u:Value} {pos:Pos} {Q:Value->Shared->Prop} (I:Inv X pins σ H s) (hg:Gl X x) (hm:X.mg x=some u) (h:Q u s)
  (hd:(x == ("__debug__" : Str))=false:=by decide):wpAny (model X.prog X.w) X.A (eval (.Name x pos) X.env) Q E s :=
 Calls.Name_function_global I.ok.kind hg (Calls.loadGlobal_global (by rw [I.ok.glob]; exact I.mod.glob.keeps I.bk) hm h) hd
theorem G4 {E:Value->Shared->Prop} {pins:List (Addr × Obj)} {s:Shared} {σ:St} {H:Hp} {x:Str} {u:Value} {pos:Pos} {Q:Value->Shared->Prop} (I:Inv X pins σ H s) (hg:Gl X x) (hm:X.mg x=none) (hv:bootBuiltins x=some u) (h:Q u s)
  (hn:x ≠ "__name__":=by decide) (hd:(x == ("__debug__" : Str))=false:=by decide):wpAny (model X.prog X.w) X.A (eval (.Name x pos) X.env) Q E s:=by
 obtain ⟨mb,h1,h2⟩:=I.mod.blt
 exact Calls.Name_function_global I.ok.kind hg (Calls.loadGlobal_builtin (by rw [I.ok.glob]; exact I.mod.glob.keeps I.bk) hm (by rw [I.ok.blt]; exact h1.keeps I.bk) ((h2 x hn).trans hv) h) hd
theorem Bv {x:Str} {v:V} {u:Value} {pos:Pos} (hg:Gl X x) (hm:X.mg x=some u) (r:RelV v u) (hd:(x == ("__debug__" : Str))=false:=by decide):PE X (.Name x pos) (tC v) :=
 fun _ _ _ H _ I h=>Gs I hg hm ⟨v,H,I,r,h⟩ hd
theorem Cv {x:Str} {v:V} {u:Value} {pos:Pos} (hg:Gl X x) (hm:X.mg x=none) (hv:bootBuiltins x=some u) (r:RelV v u) (hn:x ≠ "__name__":=by decide) (hd:(x == ("__debug__" : Str))=false:=by decide):PE X (.Name x pos) (tC v) :=
 fun _ _ _ H _ I h=>G4 I hg hm hv ⟨v,H,I,r,h⟩ hn hd
variable {a b:Expr} {ta tb:TE} {pos:Pos}
noncomputable def PC (X:Cx) (op:CmpOp) (a b:Expr) (t:TE):Prop :=
 ∀ (pins:List (Addr × Obj)) (s:Shared) (σ:St) (H:Hp) (Q:VK),Inv X pins σ H s->t σ H Q ->
  wpAny (model X.prog X.w) X.A (eval a X.env) (fun v s₁=>wpAny (model X.prog X.w) X.A (eval b X.env) (fun u s₂=>wpAny (model X.prog X.w) X.A (compareOp op v u) (EP X pins σ Q) X.xe s₂) X.xe s₁) X.xe s
noncomputable def tB (t:TE):TT:=fun σ H Q=>t σ H fun x H1=>∃ c,x=.bl c/\Q c H1
theorem Rq {op:CmpOp} {t:TE} (h:PC X op a b t) (h1:behindInMarks op b=false:=by first | exact nobehind _ (by decide) (by decide) | rfl):PE X (.Compare a [op] [b] pos) t:=fun pins s σ H Q I hw=>wpAny_Compare1 (h pins s σ H Q I hw) h1
theorem Rj {op:CmpOp} {t:TE} (h:PC X op a b t) (h1:behindInMarks op b=false:=by first | exact nobehind _ (by decide) (by decide) | rfl):PT X (.Compare a [op] [b] pos) (tB t):=by
 intro pins s σ H Q I hw
 refine wpAny_isTrue_Compare1 (CJ (h pins s σ H _ I hw) fun v s1 h1=>CJ h1 fun u s2 h2=>CJ h2 fun c s3 ⟨x,H1,I1,r1,q1⟩=>?_) h1
 obtain ⟨d,rfl,q⟩:=q1
 cases r1
 exact wpAny_truthy_bool ⟨H1,I1,q⟩
theorem CQ {e:Expr} {t:TE} (h:PE X e t) (he:∀ whole,isTrue e X.env whole=(do let v ← whole; standAt e.pos; holding [v] (truthy v)):=by intro _; rfl):PT X e (tB t):=by
 intro pins s σ H Q I hw
 refine isTrue_plain (CJ (h pins s σ H _ I hw) fun v s1 ⟨x,H1,I1,r1,q1⟩=>?_) (he _)
 obtain ⟨d,rfl,q⟩:=q1
 cases r1
 exact wpAny_truthy_bool ⟨H1,I1,q⟩
variable {tA tB':TT} {rest:List Expr}
noncomputable def gU (t u:TT):TT:=fun σ H Q=>t σ H fun c H1=>if c=true then u σ H1 Q else Q false H1
noncomputable def di (t u:TT):TT:=fun σ H Q=>t σ H fun c H1=>if c=true then Q true H1 else u σ H1 Q
noncomputable def eE (t:TT):TT:=fun σ H Q=>t σ H fun c H1=>Q (!c) H1
theorem JF (ha:PT X a tA):PW X (.BoolOp .And [a] pos) tA:=by
 intro wh pins s σ H Q I h
 refine isTrue_and (CJ (ha pins s σ H Q I h) fun c s1 e=>?_)
 cases c with
 | true=>exact isTrue_and_nil e
 | false=>exact e
theorem Ey (ha:PT X a tA):PW X (.BoolOp .Or [a] pos) tA:=by
 intro wh pins s σ H Q I h
 refine isTrue_or (CJ (ha pins s σ H Q I h) fun c s1 e=>?_)
 cases c with
 | false=>exact isTrue_or_nil e
 | true=>exact e
theorem Kd (ha:PT X a tA) (hb:PW X (.BoolOp .And (b::rest) pos) tB'):PW X (.BoolOp .And (a::b::rest) pos) (gU tA tB'):=by
 intro wh pins s σ H Q I h
 refine isTrue_and (CJ (ha pins s σ H _ I h) fun c s1 hq0=>?_)
 obtain ⟨H1,I1,q1⟩:=hq0
 cases c with
 | true=>exact hb wh pins s1 σ H1 Q I1 q1
 | false=>exact ⟨H1,I1,q1⟩
theorem D_ (ha:PT X a tA) (hb:PW X (.BoolOp .Or (b::rest) pos) tB'):PW X (.BoolOp .Or (a::b::rest) pos) (di tA tB'):=by
 intro wh pins s σ H Q I h
 refine isTrue_or (CJ (ha pins s σ H _ I h) fun c s1 hq0=>?_)
 obtain ⟨H1,I1,q1⟩:=hq0
 cases c with
 | true=>exact ⟨H1,I1,q1⟩
 | false=>exact hb wh pins s1 σ H1 Q I1 q1
theorem CP (ha:PT X a tA):PT X (.UnaryOp .Not a pos) (eE tA):=by
 intro pins s σ H Q I h
 exact isTrue_not (ha pins s σ H (fun c H1=>Q (!c) H1) I h)
noncomputable def Za (ta tb:TE):TE:=fun σ H Q=>ta σ H fun x H1=>∃ c,x=.bl c/\if c=true then tb σ H1 Q else Q (.bl false) H1
noncomputable def fO (ta tb:TE):TE:=fun σ H Q=>ta σ H fun x H1=>∃ c,x=.bl c/\if c=true then Q (.bl true) H1 else tb σ H1 Q
noncomputable def YX (ta:TE):TE:=fun σ H Q=>ta σ H fun x H1=>∃ c,x=.bl c/\Q (.bl (!c)) H1
theorem DN {op} {t:TE} (h:PE X a t):PE X (.BoolOp op [a] pos) t:=fun pins s σ H Q I hw=>BoolOp_one (h pins s σ H Q I hw)
theorem DX (ha:PE X a ta) (hb:PE X (.BoolOp .And (b::rest) pos) tb):PE X (.BoolOp .And (a::b::rest) pos) (Za ta tb):=by
 intro pins s σ H Q I h
 refine BoolOp_and (CJ (ha pins s σ H _ I h) fun v s1 hq0=>?_)
 obtain ⟨x,H1,I1,r1,q1⟩:=hq0
 obtain ⟨c,rfl,q1⟩:=q1
 cases r1
 refine wpAny_truthy_bool ?_
 cases c with
 | true=>exact hb pins s1 σ H1 Q I1 q1
 | false=>exact ⟨.bl false,H1,I1,rfl,q1⟩
theorem X_ (ha:PE X a ta) (hb:PE X (.BoolOp .Or (b::rest) pos) tb):PE X (.BoolOp .Or (a::b::rest) pos) (fO ta tb):=by
 intro pins s σ H Q I h
 refine BoolOp_or (CJ (ha pins s σ H _ I h) fun v s1 hq0=>?_)
 obtain ⟨x,H1,I1,r1,q1⟩:=hq0
 obtain ⟨c,rfl,q1⟩:=q1
 cases r1
 refine wpAny_truthy_bool ?_
 cases c with
 | false=>exact hb pins s1 σ H1 Q I1 q1
 | true=>exact ⟨.bl true,H1,I1,rfl,q1⟩
theorem NQ (ha:PE X a ta):PE X (.UnaryOp .Not a pos) (YX ta):=by
 intro pins s σ H Q I h
 refine UnaryOp_ (CJ (ha pins s σ H _ I h) fun v s1 hq0=>?_)
 obtain ⟨x,H1,I1,r1,q1⟩:=hq0
 obtain ⟨c,rfl,q1⟩:=q1
 cases r1
 exact not_of (wpAny_truthy_bool ⟨.bl (!c),H1,I1,rfl,q1⟩)
noncomputable def jt (t:TT) (ta tb:TE):TE:=fun σ H Q=>t σ H fun c H1=>if c=true then ta σ H1 Q else tb σ H1 Q
theorem Qt {c:Expr} (hc:PT X c tA) (ha:PE X a ta) (hb:PE X b tb):PE X (.IfExp c a b pos) (jt tA ta tb):=by
 intro pins s σ H Q I h
 refine wpAny_IfExp (CJ (hc pins s σ H _ I h) fun d s1 hq0=>?_)
 obtain ⟨H1,I1,q1⟩:=hq0
 cases d with
 | true=>exact ha pins s1 σ H1 Q I1 q1
 | false=>exact hb pins s1 σ H1 Q I1 q1
end
end L2
namespace L2
open PySem PySem.Spec PyProof.Rows
noncomputable def CZ (K:PySem.W.Frag) (H:Hp) (a:Addr) (xs:List V):Prop :=
 Rd H a (.lst xs) \/
  ∃ (o:Obj) (its:Array Value) (n:Nat),K.lookup a=some o/\o.cls=.type "list" /\ o.dict=none/\o.data=.seq its n/\its.size<=sizeLine/\Vals xs its.toList
noncomputable def G8 (K:PySem.W.Frag) (H:Hp) (a:Addr) (xs:List V):Prop :=
 Rd H a (.tup xs) \/
  ∃ (o:Obj) (its:Array Value) (n:Nat),K.lookup a=some o/\o.cls=.type "tuple" /\ o.data=.seq its n/\its.size<=sizeLine/\Vals xs its.toList
noncomputable def gC:Value->Option V
 | .none=>some .non
 | .bool b=>some (.bl b)
 | .int i _=>some (.int i)
 | .str x _=>some (.str x)
 | .bytes b _=>some (.byt b)
 | .float b _=>some (.flt b)
 | .ref a=>some (.ref a)
 | .type n=>some (.ty n)
 | _=>none
theorem RelV.abs {x:V} {u:Value} (r:RelV x u):gC u=some x:=by
 cases x with
 | non=>cases r; rfl
 | bl _=>cases r; rfl
 | int _=>obtain ⟨t,rfl⟩:=r; rfl
 | str _=>obtain ⟨t,rfl⟩:=r; rfl
 | byt _=>obtain ⟨t,rfl⟩:=r; rfl
 | flt _=>obtain ⟨t,rfl⟩:=r; rfl
 | ref _=>cases r; rfl
 | ty _=>cases r; rfl
theorem RelV.inj {x y:V} {u:Value} (r:RelV x u) (q:RelV y u):x=y:=Option.some.inj (r.abs.symm.trans q.abs)
theorem Vals.inj:∀ {xs ys:List V} {us:List Value},Vals xs us->Vals ys us->xs=ys
 | _,_,_,.nil,.nil=>rfl
 | _,_,_,.cons r t,.cons r' t'=>by rw [r.inj r',Vals.inj t t']
section
variable {X:Cx} {pins:List (Addr × Obj)} {σ:St} {H:Hp} {s:Shared} {a:Addr} {xs ys:List V}
theorem Inv.list (I:Inv X pins σ H s) (h:CZ X.K H a xs):∃ its:List Value,Vals xs its/\PlainL s.heap a its.toArray/\xs.length<=sizeLine:=by
 rcases h with h | ⟨o,its,n,hk,hc,hd,hs,hz,r⟩
 ·obtain ⟨z,its,n,r,e⟩:=h.ok I.hok
  exact ⟨its,r,⟨_,n,e,rfl,rfl,rfl⟩,z⟩
 ·refine ⟨its.toList,r,⟨o,n,I.Gx a o hk,hc,hd,by simpa using hs⟩,?_⟩
  have e:=r.length
  simp only [Array.length_toList] at e
  omega
theorem Inv.tuple (I:Inv X pins σ H s) (h:G8 X.K H a xs):∃ its:List Value,Vals xs its/\IsTup s.heap a its.toArray/\xs.length<=sizeLine:=by
 rcases h with h | ⟨o,its,n,hk,hc,hs,hz,r⟩
 ·obtain ⟨z,its,r,p⟩:=h.ok I.hok
  exact ⟨its,r,p,z⟩
 ·refine ⟨its.toList,r,⟨o,I.Gx a o hk,hc,n,by simpa using hs⟩,?_⟩
  have e:=r.length
  simp only [Array.length_toList] at e
  omega
theorem Inv.Lr (I:Inv X pins σ H s) (h:CZ X.K H a xs) (h':CZ X.K H a ys):xs=ys:=by
 obtain ⟨its,r,⟨o,n,e,_,_,d⟩,_⟩:=I.list h
 obtain ⟨its',r',⟨o',n',e',_,_,d'⟩,_⟩:=I.list h'
 rw [e] at e'; cases e'
 rw [d] at d'
 injection d' with d1 _
 have:its=its':=by simpa using congrArg Array.toList d1
 subst this
 exact r.inj r'
theorem Inv.IW (I:Inv X pins σ H s) (h:G8 X.K H a xs) (h':G8 X.K H a ys):xs=ys:=by
 obtain ⟨its,r,⟨o,e,_,n,d⟩,_⟩:=I.tuple h
 obtain ⟨its',r',⟨o',e',_,n',d'⟩,_⟩:=I.tuple h'
 rw [e] at e'; cases e'
 rw [d] at d'
 injection d' with d1 _
 have:its=its':=by simpa using congrArg Array.toList d1
 subst this
 exact r.inj r'
end
noncomputable abbrev Cx.wish (X:Cx) (E:Value->Shared->Prop):Cx:={ X with xe:=E }
noncomputable abbrev Cx.bu (X:Cx):Cx:=X.wish fun _ _=>False
theorem Cx.Ok.wish {X:Cx} (ok:X.Ok) (E:Value->Shared->Prop):(X.wish E).Ok :=
 ⟨ok.mod,ok.kind,ok.glob,ok.blt,ok.above,ok.inj,ok.has,ok.cab,ok.hd,ok.frames,ok.stk,ok.exf,ok.bs,ok.bsz,ok.noex,ok.exfs,ok.IV,ok.frf⟩
theorem Cx.Ok.GD {X:Cx} {E:Value->Shared->Prop} (ok:(X.wish E).Ok):X.Ok :=
 ⟨ok.mod,ok.kind,ok.glob,ok.blt,ok.above,ok.inj,ok.has,ok.cab,ok.hd,ok.frames,ok.stk,ok.exf,ok.bs,ok.bsz,ok.noex,ok.exfs,ok.IV,ok.frf⟩
section
variable {X:Cx} {pins:List (Addr × Obj)} {σ:St} {H:Hp} {s:Shared} {E:Value->Shared->Prop}
theorem Inv.wish (I:Inv X pins σ H s) (E:Value->Shared->Prop):Inv (X.wish E) pins σ H s:=⟨I.ok.wish E,I.os,I.bare,I.base,I.loc,I.cell,I.free,I.freeC,I.pin,I.hok,I.len⟩
theorem Inv.GD (I:Inv (X.wish E) pins σ H s):Inv X pins σ H s:=⟨I.ok.GD,I.os,I.bare,I.base,I.loc,I.cell,I.free,I.freeC,I.pin,I.hok,I.len⟩
theorem SP.GD {D:Ends} {f:Flow} {s':Shared} (h:SP (X.wish E) pins D f s'):SP X pins D f s':=by
 cases f with
 | next=>obtain ⟨σ',H',I,q⟩:=h; exact ⟨σ',H',I.GD,q⟩
 | brk=>obtain ⟨σ',H',I,q⟩:=h; exact ⟨σ',H',I.GD,q⟩
 | cont=>obtain ⟨σ',H',I,q⟩:=h; exact ⟨σ',H',I.GD,q⟩
 | ret u=>obtain ⟨v,σ',H',I,r,q⟩:=h; exact ⟨v,σ',H',I.GD,r,q⟩
theorem Mu.bu {st:List Stmt} {t:TS} (h:Mu X.bu st t):Mu X st t:=fun pins s σ H D I hw =>
 wpAny_mono (h pins s σ H D (I.wish _) hw) (fun _ _ q=>q.GD) fun _ _ z=>False.elim z
end
section
variable {X:Cx} {st:Stmt} {rest:List Stmt} {t u:TS} {e:Expr} {te:TE} {pos:Pos}
noncomputable def bO:TS:=fun D σ H=>D.nx σ H
noncomputable def Xe (t u:TS):TS:=fun D σ H=>t { D with nx:=u D } σ H
theorem Bb:Mu X [] bO:=fun _ _ σ H _ I h=>wpAny_execs_nil ⟨σ,H,I,h⟩
theorem Af (h1:PS X st t) (h2:Mu X rest u):Mu X (st::rest) (Xe t u):=by
 intro pins s σ H D I h
 refine wpAny_execs_cons (CJ (h1 pins s σ H { D with nx:=u D } I h) fun f s1 q=>?_)
 cases f with
 | next =>
  obtain ⟨σ',H',I',q⟩:=q
  exact h2 pins s1 σ' H' D I' q
 | ret v=>exact q
 | brk=>exact q
 | cont=>exact q
theorem Ag (h1:PS X st t):Mu X [st] t:=by
 intro pins s σ H D I h
 refine wpAny_execs_cons (CJ (h1 pins s σ H D I h) fun f s1 q=>?_)
 cases f with
 | next=>exact wpAny_execs_nil q
 | ret v=>exact q
 | brk=>exact q
 | cont=>exact q
noncomputable def We:TS:=fun D σ H=>D.bk σ H
theorem Sg:PS X (.Break pos) We:=fun _ _ σ H _ I h=>wpAny_Break ⟨σ,H,I,h⟩
theorem Inv.quiet {pins:List (Addr × Obj)} {σ:St} {H:Hp} {s:Shared} (I:Inv X pins σ H s):interactive X.env=false:=by simp [interactive,I.ok.kind]
noncomputable def Yc (te:TE):TS:=fun D σ H=>te σ H fun _ H1=>D.nx σ H1
theorem Es (he:PE X e te) (hs:swapsWith e none pos.line X.env=pure false:=by rfl):PS X (.Expr e pos) (Yc te):=by
 intro pins s σ H D I h
 exact wpAny_Expr_any (CJ (he pins s σ H _ I h) fun v s1 ⟨x,H1,I1,r1,q1⟩=>⟨σ,H1,I1,q1⟩) I.quiet hs
noncomputable def dO (te:TE):TS:=fun D σ H=>te σ H D.rt
theorem Av (he:PE X e te):PS X (.Return (some e) pos) (dO te):=by
 intro pins s σ H D I h
 exact wpAny_Return_some (CJ (he pins s σ H _ I h) fun v s1 ⟨x,H1,I1,r1,q1⟩=>⟨x,σ,H1,I1,r1,q1⟩)
noncomputable def W7 (c:TT) (t u:TS):TS:=fun D σ H=>c σ H fun b H1=>if b=true then t D σ H1 else u D σ H1
theorem Bw {c:Expr} {a b:List Stmt} {tc:TT} (hc:PT X c tc) (ha:Mu X a t) (hb:Mu X b u):PS X (.If c a b pos) (W7 tc t u):=by
 intro pins s σ H D I h
 refine wpAny_If (CJ (hc pins s σ H _ I h) fun d s1 hq0=>?_)
 obtain ⟨H1,I1,q1⟩:=hq0
 cases d with
 | true=>exact ha pins s1 σ H1 D I1 q1
 | false=>exact hb pins s1 σ H1 D I1 q1
noncomputable def V2:TS:=fun _ _ _=>False
theorem GJ:PS X st V2:=fun _ _ _ _ _ _ h=>h.elim
end
noncomputable abbrev TG:=V->St->Hp->(St->Hp->Prop)->Prop
noncomputable abbrev WN:=List V->St->Hp->(St->Hp->Prop)->Prop
noncomputable def PG (X:Cx) (target:Expr) (t:TG):Prop :=
 ∀ (pins:List (Addr × Obj)) (s:Shared) (σ:St) (H:Hp) (v:V) (u:Value) (Q:St->Hp->Prop),Inv X pins σ H s->RelV v u->t v σ H Q ->
  wpAny (model X.prog X.w) X.A (assign target X.env u) (fun _ s'=>∃ σ' H',Inv X pins σ' H' s'/\Q σ' H') X.xe s
noncomputable def cz (X:Cx) (ts:List Expr) (t:WN):Prop :=
 ∀ (pins:List (Addr × Obj)) (s:Shared) (σ:St) (H:Hp) (vs:List V) (us:List Value) (Q:St->Hp->Prop),Inv X pins σ H s->Vals vs us->t vs σ H Q ->
  wpAny (model X.prog X.w) X.A (assignInOrder ((assignEach ts X.env).map (·.2)) us) (fun _ s'=>∃ σ' H',Inv X pins σ' H' s'/\Q σ' H') X.xe s
section
variable {X:Cx} {pos:Pos}
noncomputable def Dc (i:Nat):TG:=fun v σ H Q=>Q (σ.set i (some v)) H
theorem Bo {i:Nat} {x:Str} (hN:X.N.Nodup) (hi:X.N[i]? = some x) (hx:Loc X.env.scope x) (hf:X.fn x=true \/ X.env.scope.names.lookup x=some .local:=by first | exact .inl rfl | exact .inr rfl | assumption):PG X (.Name x pos) (Dc i):=by
 intro pins s σ H v u Q I r h
 exact wpAny_assign_Name (Jk I hN hi hx r (fun s' I'=>⟨_,H,I',h⟩) hf)
noncomputable def Pb:WN:=fun vs σ H Q=>vs=[]/\Q σ H
noncomputable def GR (t:TG) (u:WN):WN:=fun vs σ H Q=>∃ v r,vs=v::r/\t v σ H fun σ' H'=>u r σ' H' Q
theorem Gu:cz X [] Pb:=by
 intro pins s σ H vs us Q I r h
 obtain ⟨e,h⟩:=h
 subst e
 cases r
 exact assignInOrder_nil ⟨σ,H,I,h⟩
theorem Cr {e:Expr} {es:List Expr} {t:TG} {u:WN} (h1:PG X e t) (h2:cz X es u)
  (hs:(assignEach (e::es) X.env).map (·.2)=assign e X.env::(assignEach es X.env).map (·.2):=by rfl):cz X (e::es) (GR t u):=by
 intro pins s σ H vs us Q I r h
 obtain ⟨v,vr,e1,h⟩:=h
 subst e1
 cases r with
 | cons r rr =>
  rw [hs]
  refine assignInOrder_cons (CJ (h1 pins s σ H _ _ _ I r h) fun _ s1 hq0=>?_)
  obtain ⟨σ1,H1,I1,q1⟩:=hq0
  exact h2 pins s1 σ1 H1 _ _ Q I1 rr q1
noncomputable def O7 (K:PySem.W.Frag) (n:Nat) (t:WN):TG:=fun v σ H Q=>∃ a xs,v=.ref a/\G8 K H a xs/\xs.length=n/\t xs σ H Q
theorem IK {es:List Expr} {k:Nat} {t:WN} {n:Nat} (hc:X.calm=true) (h:cz X es t)
  (hn:(assignEach es X.env).length=n:=by rfl) (hst:(assignEach es X.env).findIdx? (·.1)=none:=by rfl):PG X (.Tuple es k pos) (O7 X.K n t):=by
 intro pins s σ H v u Q I r hw
 obtain ⟨a,xs,e1,hq,hl,hw⟩:=hw
 subst e1
 cases r
 obtain ⟨its,rv,ht,hz⟩:=I.tuple hq
 refine assign_Tuple_tuple (I.ok.hd hc) ht (by simp [hn,← hl,rv.length]) hst fun h' hx=>?_
 have I1:Inv X pins σ H { s with heap:=h' }:=I.kept (t':=s.toks) fun b o e=>hx b o (Nat.ne_of_lt (Heap.lt_size e)) e
 exact h pins _ σ H xs _ Q I1 (by simpa using rv) hw
noncomputable def VP (te:TE) (g:TG):TS:=fun D σ H=>te σ H fun x H1=>g x σ H1 D.nx
theorem BX {i:Nat} {x:Str} {e:Expr} {te:TE} {pos':Pos} (hN:X.N.Nodup) (hi:X.N[i]? = some x) (hx:Loc X.env.scope x) (he:PE X e te) (hs:swapsWith e (some (.Name x pos')) pos.line X.env=pure false:=by rfl) (hf:X.fn x=true \/ X.env.scope.names.lookup x=some .local:=by first | exact .inl rfl | exact .inr rfl | assumption) :
  PS X (.Assign [.Name x pos'] e pos) (VP te (Dc i)):=by
 intro pins s σ H D I h
 refine wpAny_Assign_Name (CJ (he pins s σ H _ I h) fun v s1 ⟨y,H1,I1,r1,q1⟩=>?_) hs
 exact Jk I1 hN hi hx r1 (fun s2 I2=>⟨_,H1,I2,q1⟩) hf
end
section
variable {X:Cx} {pos:Pos}
noncomputable def KY (c:TT) (tb:TS):TS:=fun D σ H=>∃ W:Nat->St->Hp->Prop,(∃ m,W m σ H)/\∀ m σ H,W m σ H ->
 c σ H fun b H1=>if b=true then ∃ N:St->Hp->Prop,(∀ σ' H',N σ' H'->∃ m',m'<m/\W m' σ' H')/\tb { D with nx:=N,ct:=N,bk:=D.nx } σ H1 else D.nx σ H1
theorem RG {c:Expr} {body:List Stmt} {tc:TT} {tb:TS} (hp:PassesOwn (model X.prog X.w) X.A X.env X.xe) (hc:PT X c tc) (hb:Mu X body tb):PS X (.While c body [] pos) (KY tc tb):=by
 intro pins s σ H D I h
 obtain ⟨W,⟨m0,w0⟩,turn⟩:=h
 refine wpAny_While (codeAny_whileLoop (fun n s'=>∃ σ' H',Inv X pins σ' H' s'/\W n σ' H') ?_ m0 ⟨σ,H,I,w0⟩)
 rintro n s1 ⟨σ1,H1,I1,w1⟩
 refine wpAny_passesOwn hp (CJ (hc pins s1 σ1 H1 _ I1 (turn n σ1 H1 w1)) fun b s2 hq0=>?_)
 obtain ⟨H2,I2,q2⟩:=hq0
 cases b with
 | true =>
  obtain ⟨N,hN,q2⟩:=q2
  rw [if_pos rfl]
  refine wpAny_passesOwn hp (CJ (hb pins s2 σ1 H2 _ I2 q2) fun f s3 q3=>?_)
  cases f with
  | next =>
   obtain ⟨σ3,H3,I3,n3⟩:=q3
   obtain ⟨m',hm,w3⟩:=hN σ3 H3 n3
   exact ⟨m',hm,σ3,H3,I3,w3⟩
  | cont =>
   obtain ⟨σ3,H3,I3,n3⟩:=q3
   obtain ⟨m',hm,w3⟩:=hN σ3 H3 n3
   exact ⟨m',hm,σ3,H3,I3,w3⟩
  | brk=>exact q3
  | ret v=>exact q3
 | false =>
  rw [if_neg Bool.false_ne_true]
  exact wpAny_execs_nil ⟨σ1,H2,I2,q2⟩
end
structure It where
 go:Nat->Hp->Prop
 yld:Nat->Hp->V->Hp->Prop
 stop:Nat->Hp->Prop
noncomputable def Fd (X:Cx) (pins:List (Addr × Obj)) (H:Hp) (b:Addr):Prop :=
 H b=none/\b ≠ X.env.locals/\b ∉ X.fs/\(b∈X.ex \/ X.s₀.heap.objs.size<=b)/\(∀ x c,X.env.cells.lookup x=some c->c ≠ b)/\∀ p∈X.pn++pins,p.1 ≠ b
theorem Inv.Kv {X:Cx} {pins:List (Addr × Obj)} {σ:St} {H H':Hp} {s:Shared} {b:Addr} (I:Inv X pins σ H s) (hb:s.heap.objs.size<=b) (hn:H' b=none):Fd X pins H' b:=by
 refine ⟨hn,Nat.ne_of_gt (Nat.lt_of_lt_of_le I.lt hb),I.jF hb,.inr (Nat.le_trans I.sz hb),fun x c e z=>?_,fun p hp z=>?_⟩
 ·obtain ⟨v,q⟩:=I.cell x c e
  exact absurd (Nat.lt_of_lt_of_le q.lt (by rw [z]; exact hb)) (Nat.lt_irrefl _)
 ·exact absurd (Nat.lt_of_lt_of_le (Heap.lt_size (I.pin p hp).1) (by rw [z]; exact hb)) (Nat.lt_irrefl _)
structure Turn (P:Program) (w:World) (K:PySem.W.Frag) (tg:Expr) (J:It) (fp:List Addr) (it:Addr) (tn:Nat->Heap->Prop):Prop where
 mem:it∈fp
 obj:∀ i h,tn i h->∀ b∈fp,∃ o,h.get? b=some o/\∀ v,o.data ≠ .cell v
 keep:∀ i h h',tn i h->(∀ b∈fp,∀ o,h.get? b=some o->h'.get? b=some o)->tn i h'
 item:∀ (X:Cx),X.prog=P->X.w=w->X.K=K->X.calm=true->∀ (i:Nat) (pins:List (Addr × Obj)) (s:Shared) (σ:St) (H:Hp) (E:Value->Shared->Prop),Inv X pins σ H s->(∀ b∈fp,Fd X pins H b)->tn i s.heap->J.go i H ->
  wpAny (model P w) X.A (pyNext (.ref it)) (fun r s1=>∃ u,r=some u /\
   wpAny (model P w) X.A (letOwnedTupleGo tg (.ref it) u) (fun _ s2=>∃ x H',Inv X pins σ H' s2/\RelV x u/\J.yld i H x H'/\tn (i+1) s2.heap/\∀ b∈fp,H' b=none) E s1) E s
 done:∀ (X:Cx),X.prog=P->X.w=w->X.K=K->X.calm=true->∀ (i:Nat) (pins:List (Addr × Obj)) (s:Shared) (σ:St) (H:Hp) (E:Value->Shared->Prop),Inv X pins σ H s->(∀ b∈fp,Fd X pins H b)->tn i s.heap->J.stop i H ->
  wpAny (model P w) X.A (pyNext (.ref it)) (fun r s1=>r=none/\Inv X pins σ H s1) E s
 self:∀ (A:Around) (i:Nat) (s:Shared) (Q:Value->Shared->Prop) (E:Value->Shared->Prop),tn i s.heap->Q (.ref it) s->wpAny (model P w) A (pyIter (.ref it)) Q E s
noncomputable abbrev TI:=St->Hp->(It->Hp->Prop)->Prop
noncomputable def PIE (X:Cx) (pins:List (Addr × Obj)) (σ:St) (tg:Expr) (R:It->Hp->Prop) (itv:Value) (s2:Shared):Prop :=
 ∃ (it:Addr) (fp:List Addr) (tn:Nat->Heap->Prop) (J:It) (H':Hp),itv=.ref it/\Inv X pins σ H' s2/\Turn X.prog X.w X.K tg J fp it tn/\tn 0 s2.heap/\(∀ b∈fp,Fd X pins H' b)/\R J H'
noncomputable def PI (X:Cx) (tg iter:Expr) (wi:TI):Prop :=
 ∀ (pins:List (Addr × Obj)) (s:Shared) (σ:St) (H:Hp) (R:It->Hp->Prop),Inv X pins σ H s->wi σ H R ->
  wpAny (model X.prog X.w) X.A (eval iter X.env) (fun v s1=>wpAny (model X.prog X.w) X.A (pyIter v) (PIE X pins σ tg R) X.xe s1) X.xe s
theorem Lf {M:Model} {A:Around} {E:Value->Shared->Prop} {s:Shared} {tg:Expr} {it:Addr} {u:Value} {o:Obj} {n:String} {vs:Array Value} {Q:Unit->Shared->Prop} (ho:s.heap.get? it=some o) (hc:o.cls=.type n) (hd:o.data=.fields vs)
  (hn:["enumerate","zip","dict_itemiterator","dict_reverseitemiterator","odict_iterator","itertools.zip_longest","itertools.pairwise"].contains n=false) (hQ:Q () s):wpAny M A (letOwnedTupleGo tg (.ref it) u) Q E s:=by
 unfold letOwnedTupleGo
 cases tg <;> first
  | exact wpAny_pure hQ
  | (cases u <;> first
    | exact wpAny_pure hQ
    | (refine wpAny_bind (wpAny_load ho ?_)
       rw [hc,hd]
       show wpAny M A (if (["enumerate","zip","dict_itemiterator","dict_reverseitemiterator","odict_iterator","itertools.zip_longest","itertools.pairwise"].contains n && vs[0]? == some (rawInt _))=true then _ else _) Q E s
       rw [if_neg (by intro h; rw [hn,Bool.false_and] at h; cases h)]
       exact wpAny_pure hQ))
noncomputable def Wm (K:PySem.W.Frag) (a:Addr):It :=
 ⟨fun i H=>∃ xs x,CZ K H a xs/\xs[i]? = some x,fun i H x H'=>H'=H/\∀ xs,CZ K H a xs->xs[i]? = some x,fun i H=>∃ xs,CZ K H a xs/\xs.length<=i⟩
noncomputable def jj (K:PySem.W.Frag) (a:Addr):It :=
 ⟨fun i H=>∃ xs x,G8 K H a xs/\xs[i]? = some x,fun i H x H'=>H'=H/\∀ xs,G8 K H a xs->xs[i]? = some x,fun i H=>∃ xs,G8 K H a xs/\xs.length<=i⟩
noncomputable def Zh (lo:Int) (n:Nat):It:=⟨fun i _=>i<n,fun i H x H'=>H'=H/\x=.int (lo+i),fun i _=>n<=i⟩
theorem PX {P:Program} {w:World} {K:PySem.W.Frag} {tg:Expr} (a it:Addr):Turn P w K tg (Wm K a) [it] it (fun i h=>h.IsListIter it a i) where
 mem:=by simp
 obj:=fun i h st b hb=>by
  have e:b=it:=by simpa using hb
  subst e
  obtain ⟨o,e,c,d⟩:=st
  exact ⟨o,e,fun v z=>by rw [d] at z; cases z⟩
 keep:=fun i h h' st k=>st.at fun o e=>k it (by simp) o e
 item:=by
  intro X hP hw hK hc i pins s σ H E I hf st hg
  subst hP hw hK
  obtain ⟨xs,x,hq,hx⟩:=hg
  obtain ⟨its,rv,p,hz⟩:=I.list hq
  obtain ⟨u,hu,ru⟩:=rv.get hx
  obtain ⟨f0,f1,f2,f3,f4,f5⟩:=hf it (by simp)
  refine wpAny_pyNext_list_item st p.isList (x:=u) (by simpa using hu) fun h' st' sb=>?_
  have I1:Inv X pins σ H { s with heap:=h' }:=I.turned (t':=s.toks) (fun b o hb e=>(sb.2 b hb).trans e) f0 f1 f3 f4 f5
  obtain ⟨o,e,c,d⟩:=id st'
  exact ⟨u,rfl,Lf (s:={ s with heap:=h' }) e c d (by decide) ⟨x,H,I1,ru,⟨rfl,fun ys hy=>by rw [I.Lr hy hq]; exact hx⟩,st',fun b hb=>(hf b hb).1⟩⟩
 done:=by
  intro X hP hw hK hc i pins s σ H E I hf st hg
  subst hP hw hK
  obtain ⟨xs,hq,hx⟩:=hg
  obtain ⟨its,rv,p,hz⟩:=I.list hq
  obtain ⟨f0,f1,f2,f3,f4,f5⟩:=hf it (by simp)
  have hl:=rv.length
  exact wpAny_pyNext_list_end (I.ok.hd hc) st p.isList (by simp; omega) fun h' eb=>⟨rfl,I.turned (t':=s.toks) (fun b o hb e=>eb b o hb e) f0 f1 f3 f4 f5⟩
 self:=fun _ _ _ _ _ st h=>wpAny_pyIter_listiter st h
theorem Nb {P:Program} {w:World} {K:PySem.W.Frag} {tg:Expr} (a it:Addr):Turn P w K tg (jj K a) [it] it (fun i h=>h.IsTupleIter it a i) where
 mem:=by simp
 obj:=fun i h st b hb=>by
  have e:b=it:=by simpa using hb
  subst e
  obtain ⟨o,e,c,d⟩:=st
  exact ⟨o,e,fun v z=>by rw [d] at z; cases z⟩
 keep:=fun i h h' st k=>st.at fun o e=>k it (by simp) o e
 item:=by
  intro X hP hw hK hc i pins s σ H E I hf st hg
  subst hP hw hK
  obtain ⟨xs,x,hq,hx⟩:=hg
  obtain ⟨its,rv,p,hz⟩:=I.tuple hq
  obtain ⟨u,hu,ru⟩:=rv.get hx
  obtain ⟨f0,f1,f2,f3,f4,f5⟩:=hf it (by simp)
  refine wpAny_pyNext_tuple_item st (show s.heap.IsTuple a its.toArray from p) (x:=u) (by simpa using hu) fun h' st' sb=>?_
  have I1:Inv X pins σ H { s with heap:=h' }:=I.turned (t':=s.toks) (fun b o hb e=>(sb.2 b hb).trans e) f0 f1 f3 f4 f5
  obtain ⟨o,e,c,d⟩:=id st'
  exact ⟨u,rfl,Lf (s:={ s with heap:=h' }) e c d (by decide) ⟨x,H,I1,ru,⟨rfl,fun ys hy=>by rw [I.IW hy hq]; exact hx⟩,st',fun b hb=>(hf b hb).1⟩⟩
 done:=by
  intro X hP hw hK hc i pins s σ H E I hf st hg
  subst hP hw hK
  obtain ⟨xs,hq,hx⟩:=hg
  obtain ⟨its,rv,p,hz⟩:=I.tuple hq
  obtain ⟨f0,f1,f2,f3,f4,f5⟩:=hf it (by simp)
  have hl:=rv.length
  exact wpAny_pyNext_tuple_end (I.ok.hd hc) st (show s.heap.IsTuple a its.toArray from p) (by simp; omega) fun h' eb=>⟨rfl,I.turned (t':=s.toks) (fun b o hb e=>eb b o hb e) f0 f1 f3 f4 f5⟩
 self:=fun _ _ _ _ _ st h=>wpAny_pyIter_tupleiter st h
theorem Mq {P:Program} {w:World} {K:PySem.W.Frag} {tg:Expr} (it:Addr) (lo:Int) (n:Nat):Turn P w K tg (Zh lo n) [it] it (fun i h=>IsRangeIter h it (lo+(i:Nat) * 1) ((n:Int) - (i:Nat)) 1) where
 mem:=by simp
 obj:=fun i h st b hb=>by
  have e:b=it:=by simpa using hb
  subst e
  exact ⟨_,st,fun v z=>by
   have z':Data.fields _=Data.cell v:=z
   cases z'⟩
 keep:=fun i h h' st k=>k it (by simp) _ st
 item:=by
  intro X hP hw hK hc i pins s σ H E I hf st hg
  subst hP hw hK
  obtain ⟨f0,f1,f2,f3,f4,f5⟩:=hf it (by simp)
  have W:=Walks.range (prog:=X.prog) (w:=X.w) (I.ok.hd hc) it lo 1 n
  refine W.item i s _ _ hg st fun v h' tk hv st' kk=>?_
  obtain ⟨t,rfl⟩:=hv
  have I1:Inv X pins σ H { s with heap:=h',toks:=tk }:=I.turned (fun b o hb e=>kk b o (by simpa using hb) e) f0 f1 f3 f4 f5
  refine ⟨_,rfl,Lf (s:={ s with heap:=h',toks:=tk }) (n:="range_iterator") st' rfl rfl (by decide) ⟨.int (lo+i),H,I1,⟨t,?_⟩,⟨rfl,rfl⟩,st',fun b hb=>(hf b hb).1⟩⟩
  rw [Int.mul_one]
 done:=by
  intro X hP hw hK hc i pins s σ H E I hf st hg
  subst hP hw hK
  obtain ⟨f0,f1,f2,f3,f4,f5⟩:=hf it (by simp)
  exact wpAny_pyNext_range_end (I.ok.hd hc) st (by have:n<=i:=hg; omega) fun h' eb=>⟨rfl,I.turned (t':=s.toks) (fun b o hb e=>eb b o hb e) f0 f1 f3 f4 f5⟩
 self:=fun _ _ _ _ _ st h=>wpAny_pyIter_rangeiter st h
end L2
namespace L2
open PySem PySem.Spec PyProof.Rows
section
variable {X:Cx} {tg:Expr}
noncomputable def bI (K:PySem.W.Frag) (tl:TE):TI:=fun σ H R=>tl σ H fun x H1=>∃ a,x=.ref a/\(∃ xs,CZ K H1 a xs)/\R (Wm K a) H1
noncomputable def iH (K:PySem.W.Frag) (tl:TE):TI:=fun σ H R=>tl σ H fun x H1=>∃ a,x=.ref a/\(∃ xs,G8 K H1 a xs)/\R (jj K a) H1
theorem BV {l:Expr} {tl:TE} (hl:PE X l tl):PI X tg l (bI X.K tl):=by
 intro pins s σ H R I h
 refine CJ (hl pins s σ H _ I h) fun v s1 hq0=>?_
 obtain ⟨x,H1,I1,r1,q1⟩:=hq0
 obtain ⟨a,e,⟨xs,hq⟩,q⟩:=q1
 subst e
 cases r1
 obtain ⟨its,rv,p,hz⟩:=I1.list hq
 refine wpAny_pyIter_list p.isList ?_
 refine ⟨s1.heap.objs.size,[s1.heap.objs.size],_,_,H1,rfl,I1.kept (t':=s1.toks) fun b o e=>Heap.get?_push_of_some _ e,PX a _,⟨_,Heap.get?_push_size _ rfl,rfl,rfl⟩,fun b hb=>?_,q⟩
 have e:b=s1.heap.objs.size:=by simpa using hb
 subst e
 exact I1.Kv (Nat.le_refl _) (I1.hok.fresh (Nat.le_refl _))
theorem Ww {l:Expr} {tl:TE} (hl:PE X l tl):PI X tg l (iH X.K tl):=by
 intro pins s σ H R I h
 refine CJ (hl pins s σ H _ I h) fun v s1 hq0=>?_
 obtain ⟨x,H1,I1,r1,q1⟩:=hq0
 obtain ⟨a,e,⟨xs,hq⟩,q⟩:=q1
 subst e
 cases r1
 obtain ⟨its,rv,p,hz⟩:=I1.tuple hq
 refine wpAny_pyIter_tuple (show s1.heap.IsTuple a its.toArray from p) ?_
 refine ⟨s1.heap.objs.size,[s1.heap.objs.size],_,_,H1,rfl,I1.kept (t':=s1.toks) fun b o e=>Heap.get?_push_of_some _ e,Nb a _,⟨_,Heap.get?_push_size _ rfl,rfl,rfl⟩,fun b hb=>?_,q⟩
 have e:b=s1.heap.objs.size:=by simpa using hb
 subst e
 exact I1.Kv (Nat.le_refl _) (I1.hok.fresh (Nat.le_refl _))
theorem Sy {pins:List (Addr × Obj)} {σ:St} {H:Hp} {s:Shared} {R:It->Hp->Prop} {E:Value->Shared->Prop} {lo hi:Int} {t u v:Tok} {tk:Nat} (I:Inv X pins σ H s) (h1 : -(2 ^ 62)<=lo) (h2:lo<2 ^ 62) (h3 : -(2 ^ 62)<=hi) (h4:hi<2 ^ 62)
  (q:R (Zh lo (hi - lo).toNat) H):wpAny (model X.prog X.w) X.A (pyIter (.ref s.heap.objs.size)) (PIE X pins σ tg R) E { s with heap:=s.heap.push { cls:=.type "range",data:=.fields #[.int lo t,.int hi u,.int 1 v] },toks:=tk }:=by
 refine wpAny_pyIter_range (IsRange.new ..) (small_one h1 h2 h3 h4) ?_
 have I1:Inv X pins σ H { s with heap:=s.heap.push { cls:=.type "range",data:=.fields #[.int lo t,.int hi u,.int 1 v] },toks:=tk }:=I.kept fun b o e=>Heap.get?_push_of_some _ e
 refine ⟨(s.heap.push { cls:=.type "range",data:=.fields #[.int lo t,.int hi u,.int 1 v] }).objs.size,[(s.heap.push { cls:=.type "range",data:=.fields #[.int lo t,.int hi u,.int 1 v] }).objs.size],_,_,H,rfl,
  I1.kept (t':=tk) fun b o e=>Heap.get?_push_of_some _ e,Mq _ lo (hi - lo).toNat,?_,fun b hb=>?_,q⟩
 ·have e1:lo+((0:Nat):Int) * 1=lo:=by simp
  have e2:(((hi - lo).toNat:Nat):Int) - ((0:Nat):Int)=Builtin.Range.rangeSize lo hi 1:=by rw [rangeSize_one]; split <;> omega
  show IsRangeIter _ _ (lo+((0:Nat):Int) * 1) ((((hi - lo).toNat:Nat):Int) - ((0:Nat):Int)) 1
  rw [e1,e2]
  exact Heap.get?_push_size _ rfl
 ·have e:b=(s.heap.push { cls:=.type "range",data:=.fields #[.int lo t,.int hi u,.int 1 v] }).objs.size:=by simpa using hb
  subst e
  exact I1.Kv (Nat.le_refl _) (I1.hok.fresh (Nat.le_refl _))
noncomputable def Yz (ta:TA):TI:=fun σ H R=>ta σ H fun vs H1=>∃ j:Int,vs=[.int j] /\ -(2 ^ 62)<=j/\j<2 ^ 62/\R (Zh 0 j.toNat) H1
theorem Ia {a:Expr} {ta:TA} {p pos:Pos} (hg:Gl X "range") (hm:X.mg "range" = none) (ha:PA X [a] ta) (hs:starEach [a] X.env=[(false,eval a X.env)]:=by rfl):PI X tg (.Call (.Name "range" p) [a] [] pos) (Yz ta):=by
 intro pins s σ H R I h
 refine Call_ (G4 I hg hm boot_range (PyProof.Rows.callWith_type1 (CJ (ha pos pins s σ H _ I h) fun us s1 ⟨vs,H1,I1,r1,q1⟩=>?_) hs rfl))
 obtain ⟨j,e,q1,q2,q⟩:=q1
 subst e
 cases r1 with
 | cons r rr =>
  cases rr
  obtain ⟨t,rfl⟩:=r
  exact call_range_1 (Sy I1 (by omega) (by omega) q1 q2 (by simpa using q))
noncomputable def eF (wi:TI) (g:TG) (tb:TS):TS:=fun D σ H=>wi σ H fun J H1=>∃ W:Nat->Nat->St->Hp->Prop,(∃ m,W 0 m σ H1)/\∀ i m σ H,W i m σ H ->
 (J.stop i H/\D.nx σ H) \/ (J.go i H/\∃ N:St->Hp->Prop,(∀ σ' H',N σ' H'->∃ m',m'<m/\W (i+1) m' σ' H')/\∀ x H',J.yld i H x H'->g x σ H' fun σ2 H2=>tb { D with nx:=N,ct:=N,bk:=D.nx } σ2 H2)
noncomputable def Hr (fp:List Addr) (h:Heap):List (Addr × Obj):=fp.filterMap fun b=>(h.get? b).map fun o=>(b,o)
theorem Dq {fp:List Addr} {h:Heap} {b:Addr} {o:Obj} (hb:b∈fp) (e:h.get? b=some o):(b,o)∈Hr fp h:=List.mem_filterMap.mpr ⟨b,hb,by rw [e]; rfl⟩
theorem Py {fp:List Addr} {h:Heap} {p:Addr × Obj} (hp:p∈Hr fp h):p.1∈fp/\h.get? p.1=some p.2:=by
 obtain ⟨b,hb,e⟩:=List.mem_filterMap.mp hp
 cases q:h.get? b with
 | none=>rw [q] at e; cases e
 | some o =>
  rw [q] at e
  have e':(b,o)=p:=Option.some.inj e
  subst e'
  exact ⟨hb,q⟩
theorem Inv.pinned {pins:List (Addr × Obj)} {σ:St} {H:Hp} {s:Shared} {fp:List Addr} (I:Inv X pins σ H s) (hf:∀ b∈fp,Fd X pins H b) (ho:∀ b∈fp,∃ o,s.heap.get? b=some o/\∀ v,o.data ≠ .cell v):Inv X (pins++Hr fp s.heap) σ H s :=
 I.Ol fun p hp=>(List.mem_append.mp hp).elim (fun z=>I.pin p (List.mem_append_right _ z)) fun z=>by
  obtain ⟨hb,e⟩:=Py z
  obtain ⟨f0,f1,f2,_⟩:=hf p.1 hb
  obtain ⟨o,e',d⟩:=ho p.1 hb
  rw [e] at e'; cases e'
  exact ⟨e,f0,f1,f2,d⟩
theorem Inv.Ga {pins pl:List (Addr × Obj)} {σ:St} {H:Hp} {s:Shared} (I:Inv X (pins++pl) σ H s):Inv X pins σ H s:=I.Ol fun p hp=>I.pin p (List.mem_append_right _ (List.mem_append_left _ hp))
theorem DQ {iter:Expr} {body:List Stmt} {wi:TI} {g:TG} {tb:TS} {pos:Pos} (hp:PassesOwn (model X.prog X.w) X.A X.env X.xe) (hc:X.calm=true) (hi:PI X tg iter wi) (hg:PG X tg g) (hb:Mu X body tb)
  (hs:∀ x,foldedSetIterable iter X.env x=pure x:=by intro _; rfl):PS X (.For tg iter body [] pos) (eF wi g tb):=by
 intro pins s σ H D I h
 refine wpAny_For (CJ (hi pins s σ H _ I h) fun v s1 h1=>CJ h1 fun itv s2 h2=>?_) hs
 obtain ⟨it,fp,tn,J,H2,e,I2,T,st2,f2,W,⟨m0,w0⟩,turn⟩:=h2
 subst e
 have stat:∀ {H':Hp},(∀ b∈fp,H' b=none)->∀ b∈fp,Fd X pins H' b:=fun hn b hb=>⟨hn b hb,(f2 b hb).2⟩
 refine codeAny_forLoop_any (fun n s'=>∃ i σ' H',Inv X pins σ' H' s'/\tn i s'.heap/\(∀ b∈fp,H' b=none)/\W i n σ' H') ?_ m0 ⟨0,σ,H2,I2,st2,fun b hb=>(f2 b hb).1,w0⟩
 rintro n s3 ⟨i,σ3,H3,I3,st3,fr3,w3⟩
 rcases turn i n σ3 H3 w3 with ⟨stop,qn⟩ | ⟨go,N,hN,step⟩
 ·refine wpAny_passesOwn hp (CJ (T.done X rfl rfl rfl hc i pins s3 σ3 H3 X.xe I3 (stat fr3) st3 stop) fun r s4 ⟨hr,I4⟩=>?_)
  subst hr
  exact wpAny_execs_nil ⟨σ3,H3,I4,qn⟩
 ·refine wpAny_passesOwn hp (CJ (T.item X rfl rfl rfl hc i pins s3 σ3 H3 X.xe I3 (stat fr3) st3 go) fun r s4 ⟨u,hr,h4⟩=>?_)
  subst hr
  refine wpAny_passesOwn hp (CJ h4 fun _ s5 hq0=>?_)
  obtain ⟨x,H5,I5,r5,y5,st5,fr5⟩:=hq0
  have I5':=I5.pinned (stat fr5) (T.obj _ _ st5)
  refine wpAny_passesOwn hp (CJ (hg _ s5 σ3 H5 x u _ I5' r5 (step x H5 y5)) fun _ s6 hq0=>?_)
  obtain ⟨σ6,H6,I6,q6⟩:=hq0
  refine wpAny_passesOwn hp (CJ (hb _ s6 σ6 H6 _ I6 q6) fun f s7 q7=>?_)
  have again:∀ {σ7:St} {H7:Hp},Inv X (pins++Hr fp s5.heap) σ7 H7 s7->N σ7 H7->∃ m,m<n/\∃ i σ' H',Inv X pins σ' H' s7/\tn i s7.heap/\(∀ b∈fp,H' b=none)/\W i m σ' H':=fun {σ7 H7} I7 n7=>by
   obtain ⟨m',hm,w7⟩:=hN σ7 H7 n7
   refine ⟨m',hm,i+1,σ7,H7,I7.Ga,T.keep _ _ _ st5 fun b hb o e=>(I7.pin (b,o) (List.mem_append_right _ (List.mem_append_right _ (Dq hb e)))).1,fun b hb=>?_,w7⟩
   obtain ⟨o,e,d⟩:=T.obj _ _ st5 b hb
   exact (I7.pin (b,o) (List.mem_append_right _ (List.mem_append_right _ (Dq hb e)))).2.1
  cases f with
  | next=>obtain ⟨σ7,H7,I7,n7⟩:=q7; exact again I7 n7
  | cont=>obtain ⟨σ7,H7,I7,n7⟩:=q7; exact again I7 n7
  | brk=>obtain ⟨σ7,H7,I7,q7⟩:=q7; exact ⟨σ7,H7,I7.Ga,q7⟩
  | ret v=>obtain ⟨x7,σ7,H7,I7,r7,q7⟩:=q7; exact ⟨x7,σ7,H7,I7.Ga,r7,q7⟩
end
theorem DY {K:PySem.W.Frag} {a:Addr} {xs:List V} {g:TG} {tb:TS} {D:Ends} {σ:St} {H:Hp} (Pv:Nat->St->Hp->Prop) (h0:Pv 0 σ H) (hl:∀ i σ H,i<=xs.length->Pv i σ H->CZ K H a xs)
  (hs:∀ i x σ H,xs[i]? = some x->Pv i σ H->g x σ H fun σ2 H2=>tb { D with nx:=Pv (i+1),ct:=Pv (i+1),bk:=D.nx } σ2 H2) (hd:∀ σ H,Pv xs.length σ H->D.nx σ H) :
  ∃ W:Nat->Nat->St->Hp->Prop,(∃ m,W 0 m σ H)/\∀ i m σ H,W i m σ H ->
   ((Wm K a).stop i H/\D.nx σ H) \/ ((Wm K a).go i H/\∃ N:St->Hp->Prop,(∀ σ' H',N σ' H'->∃ m',m'<m/\W (i+1) m' σ' H')/\∀ x H',(Wm K a).yld i H x H'->g x σ H' fun σ2 H2=>tb { D with nx:=N,ct:=N,bk:=D.nx } σ2 H2):=by
 refine ⟨fun i m σ H=>m=xs.length - i/\i<=xs.length/\Pv i σ H,⟨xs.length,by simp,Nat.zero_le _,h0⟩,?_⟩
 rintro i m σ H ⟨rfl,hi,p⟩
 have q:=hl i σ H hi p
 by_cases hlt:i<xs.length
 ·refine .inr ⟨⟨xs,xs[i],q,by simp [hlt]⟩,Pv (i+1),fun σ' H' p'=>⟨xs.length - (i+1),by omega,rfl,hlt,p'⟩,fun x H' y=>?_⟩
  obtain ⟨e,y⟩:=y
  subst e
  exact hs i x σ _ (y xs q) p
 ·have e:i=xs.length:=by omega
  subst e
  exact .inl ⟨⟨xs,q,Nat.le_refl _⟩,hd σ H p⟩
theorem RZ {c:TT} {tb:TS} {D:Ends} {σ:St} {H:Hp} (Pv:St->Hp->Prop) (μ:St->Hp->Nat) (h0:Pv σ H)
  (hs:∀ σ H,Pv σ H->c σ H fun b H1=>if b=true then tb { D with nx:=fun σ' H'=>Pv σ' H'/\μ σ' H'<μ σ H,ct:=fun σ' H'=>Pv σ' H'/\μ σ' H'<μ σ H,bk:=D.nx } σ H1 else D.nx σ H1)
  (mono:∀ σ H Q Q',(∀ b H1,Q b H1->Q' b H1)->c σ H Q->c σ H Q'):KY c tb D σ H:=by
 refine ⟨fun m σ H=>m=μ σ H/\Pv σ H,⟨_,rfl,h0⟩,?_⟩
 rintro m σ H ⟨rfl,p⟩
 refine mono σ H _ _ (fun b H1 q=>?_) (hs σ H p)
 cases b with
 | true=>exact ⟨_,fun σ' H' ⟨p',l⟩=>⟨_,l,rfl,p'⟩,q⟩
 | false=>exact q
end L2
namespace L2
open PySem PySem.Spec PyProof.Rows
noncomputable abbrev R2:=V->V->Hp->VK->Prop
noncomputable def Ft (X:Cx) (f:Value->Value->Sem Value) (r:R2):Prop :=
 ∀ (pins:List (Addr × Obj)) (s:Shared) (σ:St) (H:Hp) (x y:V) (v u:Value) (Q:VK),Inv X pins σ H s->RelV x v->RelV y u->r x y H Q ->
  wpAny (model X.prog X.w) X.A (f v u) (EP X pins σ Q) X.xe s
noncomputable def cC (X:Cx) (f:Value->Sem Value) (r:V->Hp->VK->Prop):Prop :=
 ∀ (pins:List (Addr × Obj)) (s:Shared) (σ:St) (H:Hp) (x:V) (v:Value) (Q:VK),Inv X pins σ H s->RelV x v->r x H Q ->
  wpAny (model X.prog X.w) X.A (f v) (EP X pins σ Q) X.xe s
noncomputable def FN (X:Cx) (f:Value) (r:List V->Hp->VK->Prop):Prop :=
 ∀ (pins:List (Addr × Obj)) (s:Shared) (σ:St) (H:Hp) (xs:List V) (us:List Value) (Q:VK),Inv X pins σ H s->Vals xs us->r xs H Q ->
  wpAny (model X.prog X.w) X.A (call f us) (EP X pins σ Q) X.xe s
noncomputable def fQ (X:Cx) (r:V->Hp->(Bool->Hp->Prop)->Prop):Prop :=
 ∀ (pins:List (Addr × Obj)) (s:Shared) (σ:St) (H:Hp) (x:V) (v:Value) (Q:Bool->Hp->Prop),Inv X pins σ H s->RelV x v->r x H Q ->
  wpAny (model X.prog X.w) X.A (truthy v) (TP X pins σ Q) X.xe s
noncomputable def Xn (r:R2) (ta tb:TE):TE:=fun σ H Q=>ta σ H fun x H1=>tb σ H1 fun y H2=>r x y H2 Q
noncomputable def j9 (r:V->Hp->VK->Prop) (ta:TE):TE:=fun σ H Q=>ta σ H fun x H1=>r x H1 Q
noncomputable def rI (C:Int->Int->Prop) (g:Int->Int->V):R2:=fun x y H Q=>∃ i j,x=.int i/\y=.int j/\C i j/\Q (g i j) H
noncomputable def Tf (g:Int->Int->V):R2:=fun x y H Q=>∃ i j,x=.int i/\y=.int j/\Q (g i j) H
noncomputable def rU (g:Int->V):V->Hp->VK->Prop:=fun x H Q=>∃ i,x=.int i/\Q (g i) H
section
variable {X:Cx} {a b c:Expr} {ta tb tc:TE} {pos:Pos}
theorem Wa (ha:PE X a ta) (hb:PE X b tb) {pins:List (Addr × Obj)} {s:Shared} {σ:St} {H:Hp} {R:V->V->Hp->Prop} (I:Inv X pins σ H s)
  (h:ta σ H fun x H1=>tb σ H1 fun y H2=>R x y H2) {Q:Value->Shared->Prop} {f:Value->Value->Sem Value}
  (hf:∀ v u s2 x y H2,Inv X pins σ H2 s2->RelV x v->RelV y u->R x y H2->wpAny (model X.prog X.w) X.A (f v u) Q X.xe s2) :
  wpAny (model X.prog X.w) X.A (eval a X.env) (fun v s₁=>wpAny (model X.prog X.w) X.A (eval b X.env) (fun u s₂=>wpAny (model X.prog X.w) X.A (f v u) Q X.xe s₂) X.xe s₁) X.xe s:=by
 refine CJ (ha pins s σ H _ I h) fun v s1 hq0=>?_
 obtain ⟨x,H1,I1,r1,q1⟩:=hq0
 refine CJ (hb pins s1 σ H1 _ I1 q1) fun u s2 hq0=>?_
 obtain ⟨y,H2,I2,r2,q2⟩:=hq0
 exact hf v u s2 x y H2 I2 r1 r2 q2
theorem Bc {op:Operator} {r:R2} (ho:Ft X (binaryOp op) r) (ha:PE X a ta) (hb:PE X b tb):PE X (.BinOp a op b pos) (Xn r ta tb):=by
 intro pins s σ H Q I h
 exact wpAny_BinOp (Wa ha hb I h fun v u s2 x y H2 I2 rx ry q=>ho pins s2 σ H2 x y v u Q I2 rx ry q)
theorem J4 {op:UnaryOp} {r:V->Hp->VK->Prop} (ho:cC X (unaryOp op) r) (ha:PE X a ta):PE X (.UnaryOp op a pos) (j9 r ta):=by
 intro pins s σ H Q I h
 exact UnaryOp_ (CJ (ha pins s σ H _ I h) fun v s1 ⟨x,H1,I1,r1,q1⟩=>ho pins s1 σ H1 x v Q I1 r1 q1)
theorem Xr {f:Value->Value->Sem Value} {C:Int->Int->Prop} {g:Int->Int->Int}
  (rule:∀ (i j:Int) (t u:Tok) (s:Shared) (Q:Value->Shared->Prop) (E:Value->Shared->Prop),C i j->Q (.int (g i j) s.toks) { s with toks:=s.toks+1 }->wpAny (model X.prog X.w) X.A (f (.int i t) (.int j u)) Q E s) :
  Ft X f (rI C fun i j=>.int (g i j)):=by
 intro pins s σ H x y v u Q I rx ry h
 obtain ⟨i,j,rfl,rfl,hc,q⟩:=h
 obtain ⟨t,rfl⟩:=rx
 obtain ⟨t',rfl⟩:=ry
 exact rule i j t t' s _ _ hc ⟨.int (g i j),H,I.tok _,⟨_,rfl⟩,q⟩
theorem VF {f:Value->Value->Sem Value} {g:Int->Int->Int}
  (rule:∀ (i j:Int) (t u:Tok) (s:Shared) (Q:Value->Shared->Prop) (E:Value->Shared->Prop),Q (.int (g i j) s.toks) { s with toks:=s.toks+1 }->wpAny (model X.prog X.w) X.A (f (.int i t) (.int j u)) Q E s) :
  Ft X f (Tf fun i j=>.int (g i j)):=by
 intro pins s σ H x y v u Q I rx ry h
 obtain ⟨i,j,rfl,rfl,q⟩:=h
 obtain ⟨t,rfl⟩:=rx
 obtain ⟨t',rfl⟩:=ry
 exact rule i j t t' s _ _ ⟨.int (g i j),H,I.tok _,⟨_,rfl⟩,q⟩
theorem Uc {f:Value->Value->Sem Value} {g:Int->Int->Bool}
  (rule:∀ (i j:Int) (t u:Tok) (s:Shared) (Q:Value->Shared->Prop) (E:Value->Shared->Prop),Q (.bool (g i j)) s->wpAny (model X.prog X.w) X.A (f (.int i t) (.int j u)) Q E s) :
  Ft X f (Tf fun i j=>.bl (g i j)):=by
 intro pins s σ H x y v u Q I rx ry h
 obtain ⟨i,j,rfl,rfl,q⟩:=h
 obtain ⟨t,rfl⟩:=rx
 obtain ⟨t',rfl⟩:=ry
 exact rule i j t t' s _ _ ⟨.bl (g i j),H,I,rfl,q⟩
noncomputable def fD (i j:Int):Prop:=0<j/\j<1073741824
noncomputable def eQ (i j:Int):Prop:=0<=j/\j<=1000000/\i.natAbs<2 ^ 64
noncomputable def V_ (i j:Int):Prop:=(-(2 ^ 64)<i/\i<2 ^ 64) \/ (-(2 ^ 64)<j/\j<2 ^ 64)
theorem V_.ok {i j:Int} (h:V_ i j):IntMulOk i j:=by
 rcases h with ⟨h1,h2⟩ | ⟨h1,h2⟩
 ·exact .of_left (intBits_le_64 h1 h2)
 ·exact .of_right (intBits_le_64 h1 h2)
theorem two_pow_nn (k:Nat):(0:Int)<=2 ^ k:=by
 rw [two_pow_cast]
 exact Int.natCast_nonneg _
theorem Dz:Ft X (binaryOp .Add) (Tf fun i j=>.int (i+j)):=VF fun _ _ _ _ _ _ _ q=>add_int q
theorem Hw:Ft X (binaryOp .Sub) (Tf fun i j=>.int (i - j)):=VF fun _ _ _ _ _ _ _ q=>sub_int q
theorem Ng:Ft X (binaryOp .Mult) (rI V_ fun i j=>.int (i * j)):=Xr fun _ _ _ _ _ _ _ hc q=>mul_int q hc.ok
theorem UL:Ft X (binaryOp .FloorDiv) (rI fD fun i j=>.int (i / j)):=Xr fun i j _ _ _ _ _ hc q=>by
 have h1:(0:Int)<j:=hc.1
 have h2:j<1073741824:=hc.2
 exact floordiv_int (by omega) (by rw [Int.fdiv_eq_ediv_of_nonneg i (by omega)]; exact q) (.inl (PyProof.noPylong_small (by omega)))
theorem Fw:Ft X (binaryOp .Mod) (rI (fun _ j=>0<j) fun i j=>.int (i % j)):=Xr fun i j _ _ _ _ _ hc q=>by
 have h1:(0:Int)<j:=hc
 exact mod_int' (by omega) (by rw [Int.fmod_eq_emod_of_nonneg i (by omega)]; exact q)
theorem Hx:Ft X (binaryOp .LShift) (rI eQ fun i j=>.int (i * 2 ^ j.toNat)):=Xr fun _ _ _ _ _ _ _ hc q=>lshift_int_small hc.1 hc.2.1 hc.2.2 q
theorem Qx:Ft X (binaryOp .RShift) (rI (fun _ j=>0<=j) fun i j=>.int (i / 2 ^ j.toNat)):=Xr fun i j _ _ _ _ _ hc q =>
 rshift_int hc (by rw [Int.fdiv_eq_ediv_of_nonneg i (two_pow_nn _)]; exact q)
theorem Kg:Ft X (binaryOp .BitAnd) (Tf fun i j=>.int (Builtin.bitAnd i j)):=VF fun _ _ _ _ _ _ _ q=>and_int q
theorem Je:Ft X (binaryOp .BitOr) (Tf fun i j=>.int (Builtin.bitOr i j)):=VF fun _ _ _ _ _ _ _ q=>or_int q
theorem jd {f:Value->Sem Value} {g:Int->Int}
  (rule:∀ (i:Int) (t:Tok) (s:Shared) (Q:Value->Shared->Prop) (E:Value->Shared->Prop),Q (.int (g i) s.toks) { s with toks:=s.toks+1 }->wpAny (model X.prog X.w) X.A (f (.int i t)) Q E s) :
  cC X f (rU fun i=>.int (g i)):=by
 intro pins s σ H x v Q I rx h
 obtain ⟨i,rfl,q⟩:=h
 obtain ⟨t,rfl⟩:=rx
 exact rule i t s _ _ ⟨.int (g i),H,I.tok _,⟨_,rfl⟩,q⟩
theorem Kz:cC X (unaryOp .USub) (rU fun i=>.int (-i)):=jd fun _ _ _ _ _ q=>neg_int q
theorem Qn:cC X (unaryOp .Invert) (rU fun i=>.int (Builtin.bitNot i)):=jd fun _ _ _ _ _ q=>invert_int q
end
noncomputable def X6:V->V->Bool
 | .non,.non=>true | .non,.int _=>true | .int _,.non=>true | .non,.bl _=>true | .bl _,.non=>true | .non,.str _=>true | .str _,.non=>true
 | .int _,.int _=>true | .bl _,.bl _=>true | .str _,.str _=>true | .byt _,.byt _=>true
 | .int _,.str _=>true | .str _,.int _=>true | .bl _,.str _=>true | .str _,.bl _=>true
 | _,_=>false
noncomputable def jo:R2:=fun x y H Q=>X6 x y=true/\Q (.bl (decide (x=y))) H
noncomputable def j6:R2:=fun x y H Q=>X6 x y=true/\Q (.bl (!decide (x=y))) H
theorem N_ {i j:Int}:decide (V.int i=V.int j)=(i == j):=by
 rw [Bool.eq_iff_iff]
 simp
theorem Ss {i j:Bool}:decide (V.bl i=V.bl j)=(i == j):=by
 rw [Bool.eq_iff_iff]
 simp
theorem Gj {i j:Str}:decide (V.str i=V.str j)=(i == j):=by
 rw [Bool.eq_iff_iff]
 simp
theorem Nq {i j:Array UInt8}:decide (V.byt i=V.byt j)=(i.toList == j.toList):=by
 rw [Bool.eq_iff_iff]
 cases i
 cases j
 simp
section
variable {X:Cx} {a b c:Expr} {ta tb tc:TE} {pos:Pos}
theorem Bl {pins:List (Addr × Obj)} {σ:St} {H:Hp} {s:Shared} {Q:VK} {k k':Bool} (I:Inv X pins σ H s) (q:Q (.bl k) H) (e:k=k'):EP X pins σ Q (.bool k') s:=by
 subst e
 exact ⟨.bl k,H,I,rfl,q⟩
theorem Dh:Ft X (compareOp .Eq) jo:=by
 intro pins s σ H x y v u Q I rx ry h
 obtain ⟨hs,q⟩:=h
 cases x with
 | non =>
  cases rx
  cases y with
  | non=>cases ry; exact PySem.EqNone.eq_none_none (Bl I q (by simp))
  | bl j=>cases ry; exact PySem.EqNone.eq_none_bool (Bl I q (by simp))
  | int j=>obtain ⟨t',rfl⟩:=ry; exact PySem.EqNone.eq_none_int (Bl I q (by simp))
  | str j=>obtain ⟨t',rfl⟩:=ry; exact PySem.EqNone.eq_none_str (Bl I q (by simp))
  | _=>exact absurd (show false=true from hs) Bool.false_ne_true
 | bl i =>
  cases rx
  cases y with
  | non=>cases ry; exact PySem.EqNone.eq_bool_none (Bl I q (by simp))
  | bl j=>cases ry; exact eq_bool (Bl I q Ss)
  | str j=>obtain ⟨t',rfl⟩:=ry; exact PySem.EqMixed.eq_bool_str (Bl I q (by simp))
  | _=>exact absurd (show false=true from hs) Bool.false_ne_true
 | int i =>
  obtain ⟨t,rfl⟩:=rx
  cases y with
  | non=>cases ry; exact PySem.EqNone.eq_int_none (Bl I q (by simp))
  | int j=>obtain ⟨t',rfl⟩:=ry; exact eq_int (Bl I q N_)
  | str j=>obtain ⟨t',rfl⟩:=ry; exact PySem.EqMixed.eq_int_str (Bl I q (by simp))
  | _=>exact absurd (show false=true from hs) Bool.false_ne_true
 | str i =>
  obtain ⟨t,rfl⟩:=rx
  cases y with
  | non=>cases ry; exact PySem.EqNone.eq_str_none (Bl I q (by simp))
  | bl j=>cases ry; exact PySem.EqMixed.eq_str_bool (Bl I q (by simp))
  | int j=>obtain ⟨t',rfl⟩:=ry; exact PySem.EqMixed.eq_str_int (Bl I q (by simp))
  | str j=>obtain ⟨t',rfl⟩:=ry; exact eq_str (Bl I q Gj)
  | _=>exact absurd (show false=true from hs) Bool.false_ne_true
 | byt i =>
  obtain ⟨t,rfl⟩:=rx
  cases y with
  | byt j=>obtain ⟨t',rfl⟩:=ry; exact PySem.W.eq_bytes (Bl I q Nq)
  | _=>exact absurd (show false=true from hs) Bool.false_ne_true
 | _=>cases y <;> exact absurd (show false=true from hs) Bool.false_ne_true
theorem Im:Ft X (compareOp .NotEq) j6:=by
 intro pins s σ H x y v u Q I rx ry h
 obtain ⟨hs,q⟩:=h
 cases x with
 | non =>
  cases rx
  cases y with
  | non=>cases ry; exact PySem.EqNone.ne_none_none (Bl I q (by simp))
  | bl j=>cases ry; exact PySem.EqNone.ne_none_bool (Bl I q (by simp))
  | int j=>obtain ⟨t',rfl⟩:=ry; exact PySem.EqNone.ne_none_int (Bl I q (by simp))
  | str j=>obtain ⟨t',rfl⟩:=ry; exact PySem.EqNone.ne_none_str (Bl I q (by simp))
  | _=>exact absurd (show false=true from hs) Bool.false_ne_true
 | bl i =>
  cases rx
  cases y with
  | non=>cases ry; exact PySem.EqNone.ne_bool_none (Bl I q (by simp))
  | bl j=>cases ry; exact ne_bool (Bl I q (congrArg not Ss))
  | str j=>obtain ⟨t',rfl⟩:=ry; exact PySem.EqMixed.ne_bool_str (Bl I q (by simp))
  | _=>exact absurd (show false=true from hs) Bool.false_ne_true
 | int i =>
  obtain ⟨t,rfl⟩:=rx
  cases y with
  | non=>cases ry; exact PySem.EqNone.ne_int_none (Bl I q (by simp))
  | int j=>obtain ⟨t',rfl⟩:=ry; exact ne_int (Bl I q (congrArg not N_))
  | str j=>obtain ⟨t',rfl⟩:=ry; exact PySem.EqMixed.ne_int_str (Bl I q (by simp))
  | _=>exact absurd (show false=true from hs) Bool.false_ne_true
 | str i =>
  obtain ⟨t,rfl⟩:=rx
  cases y with
  | non=>cases ry; exact PySem.EqNone.ne_str_none (Bl I q (by simp))
  | bl j=>cases ry; exact PySem.EqMixed.ne_str_bool (Bl I q (by simp))
  | int j=>obtain ⟨t',rfl⟩:=ry; exact PySem.EqMixed.ne_str_int (Bl I q (by simp))
  | str j=>obtain ⟨t',rfl⟩:=ry; exact ne_str (Bl I q (congrArg not Gj))
  | _=>exact absurd (show false=true from hs) Bool.false_ne_true
 | byt i =>
  obtain ⟨t,rfl⟩:=rx
  cases y with
  | byt j=>obtain ⟨t',rfl⟩:=ry; exact PySem.W.ne_bytes (Bl I q (congrArg not Nq))
  | _=>exact absurd (show false=true from hs) Bool.false_ne_true
 | _=>cases y <;> exact absurd (show false=true from hs) Bool.false_ne_true
theorem Gw:Ft X (compareOp .Lt) (Tf fun i j=>.bl (decide (i<j))):=Uc fun _ _ _ _ _ _ _ q=>lt_int q
theorem FW:Ft X (compareOp .LtE) (Tf fun i j=>.bl (decide (i<=j))):=Uc fun _ _ _ _ _ _ _ q=>le_int q
theorem Q0:Ft X (compareOp .Gt) (Tf fun i j=>.bl (decide (j<i))):=Uc fun _ _ _ _ _ _ _ q=>gt_int q
theorem Zk:Ft X (compareOp .GtE) (Tf fun i j=>.bl (decide (j<=i))):=Uc fun _ _ _ _ _ _ _ q=>ge_int q
theorem QZ:Ft X (compareOp .In) (fun x y H Q=>∃ i j,x=.str i/\y=.str j/\Q (.bl (!(Builtin.Str.occurrences j i 0 j.length 1).isEmpty)) H):=by
 intro pins s σ H x y v u Q I rx ry h
 obtain ⟨i,j,rfl,rfl,q⟩:=h
 obtain ⟨t,rfl⟩:=rx
 obtain ⟨t',rfl⟩:=ry
 exact in_str (Bl I q rfl)
theorem VH:Ft X (compareOp .IsNot) (fun x y H Q=>y=.non/\Q (.bl (!decide (x=.non))) H):=by
 intro pins s σ H x y v u Q I rx ry h
 obtain ⟨rfl,q⟩:=h
 cases ry
 refine isnot_none_gen (Bl I q ?_)
 cases x <;> first
  | (cases rx; rfl)
  | (obtain ⟨t,rfl⟩:=rx; rfl)
theorem Be (b:Expr) {op:CmpOp} (h:op ≠ .In:=by decide) (h2:op ≠ .NotIn:=by decide):behindInMarks op b=false:=by
 have e1:(op == CmpOp.In)=false:=by cases op <;> first | rfl | exact absurd rfl h
 have e2:(op == CmpOp.NotIn)=false:=by cases op <;> first | rfl | exact absurd rfl h2
 cases b <;> simp [behindInMarks,e1,e2]
theorem Du {op:CmpOp} {r:R2} (ho:Ft X (compareOp op) r) (ha:PE X a ta) (hb:PE X b tb) (hm:behindInMarks op b=false):PE X (.Compare a [op] [b] pos) (Xn r ta tb):=by
 intro pins s σ H Q I h
 exact wpAny_Compare1 (Wa ha hb I h fun v u s2 x y H2 I2 rx ry q=>ho pins s2 σ H2 x y v u Q I2 rx ry q) hm
noncomputable def Vc (t:TE):TT:=fun σ H Q=>t σ H fun x H'=>∃ k,x=.bl k/\Q k H'
theorem Ba {op:CmpOp} {r:R2} (ho:Ft X (compareOp op) r) (ha:PE X a ta) (hb:PE X b tb) (hm:behindInMarks op b=false):PT X (.Compare a [op] [b] pos) (Vc (Xn r ta tb)):=by
 intro pins s σ H Q I h
 refine wpAny_isTrue_Compare1 (CJ (ha pins s σ H _ I h) fun v s1 ⟨x,H1,I1,r1,q1⟩=>CJ (hb pins s1 σ H1 _ I1 q1) fun u s2 ⟨y,H2,I2,r2,q2⟩ =>
  CJ (ho pins s2 σ H2 x y v u _ I2 r1 r2 q2) fun c s3 ⟨z,H3,I3,r3,k,e,q3⟩=>?_) hm
 subst e
 cases r3
 exact wpAny_truthy_bool ⟨H3,I3,q3⟩
noncomputable def Rx (r r':R2) (ta tb tc:TE):TE:=fun σ H Q=>ta σ H fun x H1=>tb σ H1 fun y H2=>r x y H2 fun z H3=>∃ k,z=.bl k /\
 (if k=true then tc σ H3 fun w' H4=>r' y w' H4 Q else Q (.bl false) H3)
theorem HH {op op':CmpOp} {r r':R2} (ho:Ft X (compareOp op) r) (ho':Ft X (compareOp op') r') (ha:PE X a ta) (hb:PE X b tb) (hc:PE X c tc)
  (hm:lastMarks [op,op'] [b,c]=false:=by with_unfolding_all rfl):PE X (.Compare a [op,op'] [b,c] pos) (Rx r r' ta tb tc):=by
 intro pins s σ H Q I h
 refine Compare_chain (CJ (ha pins s σ H _ I h) fun v s1 ⟨x,H1,I1,r1,q1⟩=>chain_link (CJ (hb pins s1 σ H1 _ I1 q1) fun u s2 ⟨y,H2,I2,r2,q2⟩ =>
  CJ (ho pins s2 σ H2 x y v u _ I2 r1 r2 q2) fun d s3 ⟨z,H3,I3,r3,k,e,q3⟩=>?_)) hm
 subst e
 cases r3
 refine wpAny_truthy_bool ?_
 cases k with
 | false=>exact ite_ff ⟨.bl false,H3,I3,rfl,q3⟩
 | true=>exact ite_tt (chain_last (CJ (hc pins s3 σ H3 _ I3 q3) fun w' s4 ⟨z',H4,I4,r4,q4⟩=>ho' pins s4 σ H4 y z' u w' Q I4 r2 r4 q4))
theorem F_ {op op':CmpOp} {r r':R2} (ho:Ft X (compareOp op) r) (ho':Ft X (compareOp op') r') (ha:PE X a ta) (hb:PE X b tb) (hc:PE X c tc)
  (hm:lastMarks [op,op'] [b,c]=false:=by with_unfolding_all rfl):PT X (.Compare a [op,op'] [b,c] pos) (Vc (Rx r r' ta tb tc)):=by
 intro pins s σ H Q I h
 refine isTrue_chain (CJ (ha pins s σ H _ I h) fun v s1 ⟨x,H1,I1,r1,q1⟩=>test_link (CJ (hb pins s1 σ H1 _ I1 q1) fun u s2 ⟨y,H2,I2,r2,q2⟩ =>
  CJ (ho pins s2 σ H2 x y v u _ I2 r1 r2 q2) fun d s3 ⟨z,H3,I3,r3,k,e,q3⟩=>?_)) hm
 subst e
 cases r3
 refine wpAny_truthy_bool ?_
 cases k with
 | false =>
  obtain ⟨k',e',q'⟩:=q3
  cases e'
  exact ite_ff ⟨H3,I3,q'⟩
 | true =>
  refine ite_tt (test_last (CJ (hc pins s3 σ H3 _ I3 q3) fun w' s4 ⟨z',H4,I4,r4,q4⟩=>CJ (ho' pins s4 σ H4 y z' u w' _ I4 r2 r4 q4) fun d' s5 hq0=>?_))
  obtain ⟨z2,H5,I5,r5,k2,e2,q5⟩:=hq0
  subst e2
  cases r5
  exact wpAny_truthy_bool ⟨H5,I5,q5⟩
noncomputable def YK (K:PySem.W.Frag) (x:V) (H:Hp) (k:Bool):Prop :=
 match x with
 | .non=>k=false
 | .bl b=>k=b
 | .int i=>k=(i != 0)
 | .str y=>y.length<=sizeLine/\k=((y.length:Int) != 0)
 | .byt y=>y.size<=sizeLine/\k=((y.size:Int) != 0)
 | .ref p=>(∃ xs,CZ K H p xs/\k = !xs.isEmpty) \/ (∃ xs,G8 K H p xs/\k = !xs.isEmpty) \/ ∃ kvs,H p=some (.dK kvs)/\k = !kvs.isEmpty
 | _=>False
theorem Mi {κ:Type} {kvs:List (κ × V)} {vs:List (κ × Value)} (r:KV kvs vs):(!vs.isEmpty) = !kvs.isEmpty:=by
 cases r <;> rfl
theorem JR {xs:List V} {its:List Value} (r:Vals xs its):(!its.toArray.isEmpty) = !xs.isEmpty:=by
 cases r <;> simp
theorem Hu:(sizeLine:Nat)<2 ^ 63:=by rw [sizeLine_eq]; decide
theorem WX:fQ X (fun x H Q=>∃ k,YK X.K x H k/\Q k H):=by
 intro pins s σ H x v Q I rx h
 obtain ⟨k,e,q⟩:=h
 have hl:=Hu
 have hs:sizeLine=16777216:=sizeLine_eq
 cases x with
 | non =>
  cases rx
  have e':k=false:=e
  subst e'
  exact truthy_none ⟨H,I,q⟩
 | bl b =>
  cases rx
  have e':k=b:=e
  subst e'
  exact wpAny_truthy_bool ⟨H,I,q⟩
 | int i =>
  obtain ⟨t,rfl⟩:=rx
  have e':k=(i != 0):=e
  subst e'
  exact PySem.P.truthy_int ⟨H,I,q⟩
 | str y =>
  obtain ⟨t,rfl⟩:=rx
  obtain ⟨hy,e'⟩:y.length<=sizeLine/\k=((y.length:Int) != 0):=e
  subst e'
  exact PySem.P.truthy_str (by omega) ⟨H,I.tok _,q⟩
 | byt y =>
  obtain ⟨t,rfl⟩:=rx
  obtain ⟨hy,e'⟩:y.size<=sizeLine/\k=((y.size:Int) != 0):=e
  subst e'
  exact PySem.W.truthy_bytes (by omega) ⟨H,I.tok _,q⟩
 | ref p =>
  cases rx
  have e':(∃ xs,CZ X.K H p xs/\k = !xs.isEmpty) \/ (∃ xs,G8 X.K H p xs/\k = !xs.isEmpty) \/ ∃ kvs,H p=some (.dK kvs)/\k = !kvs.isEmpty:=e
  rcases e' with ⟨xs,hx,e'⟩ | ⟨xs,hx,e'⟩ | ⟨kvs,hx,e'⟩
  ·subst e'
   obtain ⟨its,r,pl,hz⟩:=I.list hx
   have hlen:=r.length
   exact wpAny_truthy_list pl.isList (by simp only [List.size_toArray]; omega) ⟨H,I.tok _,by rw [JR r]; exact q⟩
  ·subst e'
   obtain ⟨its,r,pl,hz⟩:=I.tuple hx
   have hlen:=r.length
   exact truthy_tuple pl (by simp only [List.size_toArray]; omega) ⟨H,I.tok _,by rw [JR r]; exact q⟩
  ·subst e'
   obtain ⟨hz,hS,vs,r,m⟩:kvs.length<=sizeLine/\(p == sysModules)=false/\∃ vs,KV kvs vs/\s.heap.DictOf (Ca X.prog X.w) p vs:=I.hok p _ hx
   have hlen:kvs.length=vs.length:=Paired.length r
   exact wpAny_truthy_dict hS m (by omega) ⟨H,I.tok _,by rw [Mi r]; exact q⟩
 | _=>exact (show False from e).elim
theorem Jg (ha:PE X a ta) (he:∀ whole,isTrue a X.env whole=(do let v ← whole; standAt a.pos; holding [v] (truthy v))) :
  PT X a (fun σ H Q=>ta σ H fun x H'=>∃ k,YK X.K x H' k/\Q k H'):=by
 intro pins s σ H Q I h
 exact isTrue_plain (CJ (ha pins s σ H _ I h) fun v s1 ⟨x,H1,I1,r1,q1⟩=>WX pins s1 σ H1 x v Q I1 r1 q1) (he _)
theorem NZ:Ft X (binaryOp .Add) (fun x y H Q=>∃ i j,x=.str i/\y=.str j/\i.length+j.length<=sizeLine/\Q (.str (i++j)) H):=by
 intro pins s σ H x y v u Q I rx ry h
 obtain ⟨i,j,rfl,rfl,hz,q⟩:=h
 obtain ⟨t,rfl⟩:=rx
 obtain ⟨t',rfl⟩:=ry
 exact add_str (fun t' tk=>⟨.str (i++j),H,I.tok _,⟨_,rfl⟩,q⟩) hz
theorem vals1 {x:V} {us:List Value} (r:Vals [x] us):∃ u,us=[u]/\RelV x u:=by
 cases r with
 | cons r1 r2=>cases r2; exact ⟨_,rfl,r1⟩
theorem vals2 {x y:V} {us:List Value} (r:Vals [x,y] us):∃ u w',us=[u,w']/\RelV x u/\RelV y w':=by
 cases r with
 | cons r1 r2 =>
  cases r2 with
  | cons r3 r4=>cases r4; exact ⟨_,_,rfl,r1,r3⟩
theorem QS (hc:X.calm=true):FN X (.builtin "max") (fun xs H Q=>∃ i j,xs=[.int i,.int j]/\Q (.int (if j > i then j else i)) H):=by
 intro pins s σ H xs us Q I r h
 obtain ⟨i,j,rfl,q⟩:=h
 obtain ⟨u,w',rfl,⟨t,rfl⟩,⟨t',rfl⟩⟩:=vals2 r
 refine max_two_ints (I.ok.hd hc) fun h' tk k=>⟨_,H,I.kept k,?_,q⟩
 by_cases hj:j > i
 ·rw [if_pos hj,if_pos hj]; exact ⟨_,rfl⟩
 ·rw [if_neg hj,if_neg hj]; exact ⟨_,rfl⟩
end
end L2
namespace L2
open PySem PySem.Spec PyProof.Rows
structure Mr (h:Heap) (x dx C:Addr) (mA:Str->Option Value):Prop where
 obj:h.get? x=some (PySem.W.instObj C dx)
 ns:h.Ns1 dx mA
 ne:dx ≠ x
theorem J0 {h:Heap} {dx:Addr} {mA:Str->Option Value} (n:h.Ns1 dx mA):∃ od,h.get? dx=some od/\∀ name,PySem.W.lookIn name od=some (mA name):=by
 obtain ⟨o,es,ep,ho,hd,hk,_,hm⟩:=n
 refine ⟨o,ho,fun name=>?_⟩
 have e:=hm name
 unfold nsFind findBy at e
 rw [← Array.find?_toList] at e
 unfold PySem.W.lookIn
 rw [hd]
 dsimp only
 split
 ·rename_i y q
  rw [q] at e
  exact congrArg some e
 ·rename_i q
  rw [q] at e
  have a:es.toList.any (·.refKey)=false:=by
   rw [List.any_eq_false]
   intro y hy
   obtain ⟨z,t,hkey⟩:=hk y (Array.mem_toList_iff.mp hy)
   simp [DictEntry.refKey,hkey]
  have a':¬ es.toList.any (·.refKey)=true:=by rw [a]; exact Bool.false_ne_true
  rw [if_neg a']
  exact congrArg some e
theorem Mr.look {h:Heap} {x dx C:Addr} {mA:Str->Option Value} (I:Mr h x dx C mA):∃ od,PySem.W.InstAt h x (PySem.W.instObj C dx) C (some od)/\∀ name,PySem.W.lookIn name od=some (mA name) :=
 let ⟨od,ho,hl⟩:=J0 I.ns
 ⟨od,⟨I.obj,rfl,rfl,ho⟩,hl⟩
section
variable {prog:Program} {w:World} {A:Around} {E:Value->Shared->Prop} {s:Shared} {K:PySem.W.Frag} {x dx C f:Addr} {mA:Str->Option Value} {name:Str} {v:Value}
theorem Uy {expr:Bool} {Q:Value->Shared->Prop} (X:K.In s.heap) (I:Mr s.heap x dx C mA) (hg:PySem.W.plainGet K C name=true) (hh:PySem.W.hasDictIn K C=true)
  (ha:PySem.W.findIn K (.ref C) name=some none) (hv:mA name=some v) (hv':PySem.W.handedIn v=true) (h:Q v { s with toks:=s.toks+1 }) :
  wpAny (model prog w) A (getAttr (.ref x) name expr) Q E s:=by
 obtain ⟨od,J,hl⟩:=I.look
 exact PySem.W.get_value X J (PySem.W.plainGet_of hg).1 (PySem.W.findObj_own hh ha rfl (by rw [hl,hv])) hv' h
theorem SN {pl:Sem Bool} {Q:Value × List Value->Shared->Prop} (X:K.In s.heap) (I:Mr s.heap x dx C mA) (hg:PySem.W.plainGet K C name=true)
  (hf:PySem.W.findIn K (.ref C) name=some (some (.ref f))) (ht:PySem.W.isFn K (.ref f)=true) (hv:mA name=none) (h:Q (.ref f,[.ref x]) s) :
  wpAny (model prog w) A (getMethod (.ref x) name pl) Q E s:=by
 obtain ⟨od,J,hl⟩:=I.look
 exact PySem.W.method_fn X J (PySem.W.plainGet_of hg).1 (PySem.W.plainGet_of hg).2 hf (beq_iff_eq.mp ht) (by show (PySem.W.lookIn name od).map (·.isSome)=some false; rw [hl,hv]; rfl) h
theorem U6 {ns:List Str} {Q:Unit->Shared->Prop} (X:K.In s.heap) (I:Mr s.heap x dx C mA)
  (hs:PySem.W.findIn K (.ref C) "__setattr__" = some (some (.builtin "object.__setattr__"))) (hp:PySem.W.plainOver K C=true) (ht:PySem.W.takerIn K C name=some none) (hh:PySem.W.hasDictIn K C=true)
  (hw:PySem.Within mA ns) (hsz:ns.length<=sizeLine)
  (h:∀ h',Mr h' x dx C (fun y=>if y=name then some v else mA y)->Heap.SameBut dx s.heap h'->Q () { s with heap:=h',toks:=s.toks+2 }) :
  wpAny (model prog w) A (setAttr (.ref x) name v) Q E s:=by
 obtain ⟨od,J,hl⟩:=I.look
 refine PySem.W.set_plain X J hs (PySem.W.osa_open (s:={ s with toks:=s.toks+1 }) (r:=none) X J hp ht fun b=>?_)
 obtain ⟨cd,hc,hd'⟩:=PySem.W.any_some hh
 have hx:s.heap.get? x=some ⟨.ref C,some dx,.plain,#[]⟩:=I.obj
 refine wpAny_bind (wpAny_pure (wpAny_bind (wpAny_bind (wpAny_loadPart hx (wpAny_bind (PySem.W.Looks.here (s:={ s with toks:=s.toks+1 }) (PySem.W.looks_clsIn X hc) ?_))))))
 rw [hd']
 refine wpAny_pure (a:=some dx) (wpAny_bind (wpAny_pure (wpAny_bind ?_)))
 refine wpAny_nsSet1 (s:={ s with toks:=s.toks+1 }) I.ns fun h' hn2 hs2=>?_
 obtain ⟨oD,esD,epD,hoD,hdD,hcD⟩:=hn2.count (PySem.Within.cons name v hw)
 refine wpAny_bind (wpAny_lookBehind hoD (by rw [hdD]; exact pastItsLine_dict (Nat.le_trans hcD (by rw [List.length_cons]; omega))) ?_)
 exact wpAny_pure (h _ ⟨(hs2.2 _ (Ne.symm I.ne)).trans I.obj,hn2,I.ne⟩ hs2)
theorem Qs {R:Result->Shared->Prop} {vs:List Value} {kw:List (Str × Value)} (X:K.In s.heap) (hm:PySem.W.makesIn K C=true)
  (hi:PySem.W.findIn K (.ref C) "__init__" = some (some (.ref f))) (hf:PySem.W.typeIn K (.ref f)=some (.type "function"))
  (h:codeAny (model prog w) (A.under (.builtin "type.__call__" ⟨.ref C::vs,kw⟩)) (.call (.ref f) ⟨.ref (s.heap.objs.size+1)::vs,kw⟩) (PySem.W.InitBack (s.heap.objs.size+1) R)
   { s with heap:=(s.heap.push PySem.W.emptyDict).push (PySem.W.instObj C s.heap.objs.size) }) :
  codeAny (model prog w) A (.call (.ref C) ⟨vs,kw⟩) R s:=by
 obtain ⟨hh,g,d,t,os⟩:=s
 exact PySem.W.make_core (PySem.W.makes_of X hm) (PySem.W.looks_findIn X hi) (fun self=>PySem.W.bind_fn X self hf) (.inl rfl) h
end
noncomputable def Bf (f:Str) (v:V):List (Str × V)->List (Str × V)
 | []=>[(f,v)]
 | (g,x)::r=>if g=f then (g,v)::r else (g,x)::Bf f v r
theorem Aq (f g:Str) (v:V):∀ fs:List (Str × V),(Bf f v fs).lookup g=if g=f then some v else fs.lookup g
 | []=>by
  show List.lookup g [(f,v)]=_
  by_cases h:g=f
  ·have hb:(g == f)=true:=beq_iff_eq.mpr h
   simp only [List.lookup,hb,if_pos h]
  ·have hb:(g == f)=false:=beq_eq_false_iff_ne.mpr h
   simp only [List.lookup,hb,if_neg h]
 | (k,x)::r=>by
  have ih:=Aq f g v r
  rw [show Bf f v ((k,x)::r)=(if k=f then (k,v)::r else (k,x)::Bf f v r) from rfl]
  by_cases hk:k=f
  ·rw [if_pos hk]
   by_cases h:g=k
   ·have hb:(g == k)=true:=beq_iff_eq.mpr h
    simp only [List.lookup,hb,if_pos (h.trans hk)]
   ·have hb:(g == k)=false:=beq_eq_false_iff_ne.mpr h
    simp only [List.lookup,hb,if_neg (fun e:g=f=>h (e.trans hk.symm))]
  ·rw [if_neg hk]
   by_cases h:g=k
   ·have hb:(g == k)=true:=beq_iff_eq.mpr h
    simp only [List.lookup,hb,if_neg (fun e:g=f=>hk (h.symm.trans e))]
   ·have hb:(g == k)=false:=beq_eq_false_iff_ne.mpr h
    simp only [List.lookup,hb]
    exact ih
theorem H_ (f:Str) (v:V):∀ fs:List (Str × V),f∈(Bf f v fs).map (·.1)/\∀ g,g∈fs.map (·.1)->g∈(Bf f v fs).map (·.1)
 | []=>⟨by simp [Bf],fun g h=>by simp at h⟩
 | (k,x)::r=>by
  obtain ⟨i1,i2⟩:=H_ f v r
  rw [show Bf f v ((k,x)::r)=(if k=f then (k,v)::r else (k,x)::Bf f v r) from rfl]
  by_cases hk:k=f
  ·rw [if_pos hk]
   subst hk
   exact ⟨by simp,fun g h=>by simpa using h⟩
  ·rw [if_neg hk]
   refine ⟨?_,fun g h=>?_⟩
   ·rw [List.map_cons]
    exact List.mem_cons_of_mem _ i1
   ·rw [List.map_cons] at h ⊢
    rcases List.mem_cons.mp h with e | e
    ·exact List.mem_cons.mpr (.inl e)
    ·exact List.mem_cons_of_mem _ (i2 g e)
theorem Ii (f:Str) (v:V):∀ fs:List (Str × V),(Bf f v fs).length<=fs.length+1
 | []=>by simp [Bf]
 | (k,x)::r=>by
  have ih:=Ii f v r
  rw [show Bf f v ((k,x)::r)=(if k=f then (k,v)::r else (k,x)::Bf f v r) from rfl]
  by_cases hk:k=f
  ·rw [if_pos hk,List.length_cons,List.length_cons]; omega
  ·rw [if_neg hk,List.length_cons,List.length_cons]; omega
theorem Fp.some_of {v:V} {o:Option Value} (r:Fp (some v) o):∃ u,o=some u/\RelV v u:=by
 cases o with
 | none=>exact (show False from r).elim
 | some u=>exact ⟨u,rfl,r⟩
theorem Fp.none_of {o:Option Value} (r:Fp none o):o=none:=by
 cases o with
 | none=>rfl
 | some u=>exact (show False from r).elim
theorem QC {v:V} {u:Value} (r:RelV v u):PySem.W.handedIn u=true:=by
 cases v with
 | non=>cases (show u=Value.none from r); rfl
 | bl b=>cases (show u=Value.bool b from r); rfl
 | int i=>obtain ⟨t,e⟩:=(show ∃ t,u=Value.int i t from r); cases e; rfl
 | str x=>obtain ⟨t,e⟩:=(show ∃ t,u=Value.str x t from r); cases e; rfl
 | byt b=>obtain ⟨t,e⟩:=(show ∃ t,u=Value.bytes b t from r); cases e; rfl
 | flt b=>obtain ⟨t,e⟩:=(show ∃ t,u=Value.float b t from r); cases e; rfl
 | ref a=>cases (show u=Value.ref a from r); rfl
 | ty n=>cases (show u=Value.type n from r); rfl
section
variable {P:Program} {w:World} {H H':Hp} {h h':Heap} {a C dx:Addr} {fs fs':List (Str × V)}
theorem Iv (hok:Ei P w H h) (e:H a=some (.ins C dx fs)):∃ mA,Mr h a dx C mA/\(∀ f,Fp (fs.lookup f) (mA f))/\PySem.Within mA (fs.map (·.1))/\fs.length<=1000/\H dx=some (.own a):=by
 obtain ⟨d,z,ne,ob,mA,n,r,q⟩:=(show Bx P w H h a (.ins C dx fs) from hok a _ e)
 exact ⟨mA,⟨ob,n,ne⟩,r,q,z,d⟩
end
structure Ru (K:PySem.W.Frag) (C:Addr):Prop where
 pg:PySem.W.plainGet K C Str.empty=true
 hd:PySem.W.hasDictIn K C=true
 po:PySem.W.plainOver K C=true
 sa:PySem.W.findIn K (.ref C) "__setattr__" = some (some (.builtin "object.__setattr__"))
theorem Ru.get {K:PySem.W.Frag} {C:Addr} (c:Ru K C) (f:Str):PySem.W.plainGet K C f=true:=c.pg
noncomputable def Cz (K:PySem.W.Frag) (C:Addr) (f:Str):Prop:=PySem.W.findIn K (.ref C) f=some none
theorem Cz.taker {K:PySem.W.Frag} {C:Addr} {f:Str} (n:Cz K C f):PySem.W.takerIn K C f=some none:=by
 unfold PySem.W.takerIn
 rw [show PySem.W.findIn K (.ref C) f=some none from n]
 rfl
structure jl (K:PySem.W.Frag) (C:Addr) (f:Str) (v:V) (u:Value):Prop where
 at_:PySem.W.findIn K (.ref C) f=some (some u)
 rel:RelV v u
 get:PySem.W.specialIn K u "__get__" = some none
 cp:PySem.W.copiedNames.contains f=false
structure Meth (K:PySem.W.Frag) (C:Addr) (m:Str) (f:Addr):Prop where
 at_:PySem.W.findIn K (.ref C) m=some (some (.ref f))
 fn:PySem.W.isFn K (.ref f)=true
 kp:PySem.W.keepIn K (.ref f)=true
section
variable {X:Cx} {pins:List (Addr × Obj)} {σ:St} {H:Hp} {s:Shared} {a C dx:Addr} {fs:List (Str × V)} {f:Str} {v:V} {A:Around} {E:Value->Shared->Prop}
theorem My {b:Bool} {Q:Value->Shared->Prop} (I:Inv X pins σ H s) (e:H a=some (.ins C dx fs)) (c:Ru X.K C) (n:Cz X.K C f) (l:fs.lookup f=some v)
  (h:∀ u s',Inv X pins σ H s'->RelV v u->Q u s'):wpAny (model X.prog X.w) A (getAttr (.ref a) f b) Q E s:=by
 obtain ⟨mA,O,r,_,_,_⟩:=Iv I.hok e
 obtain ⟨u,hu,ru⟩:=Fp.some_of (v:=v) (o:=mA f) (by rw [← l]; exact r f)
 exact Uy I.Gx O (c.get f) c.hd n hu (QC ru) (h u _ (I.tok _) ru)
theorem Ji {m:Str} {g:Addr} {pl:Sem Bool} {Q:Value × List Value->Shared->Prop} (I:Inv X pins σ H s) (e:H a=some (.ins C dx fs)) (c:Ru X.K C) (k:Meth X.K C m g) (l:fs.lookup m=none)
  (h:Q (.ref g,[.ref a]) s):wpAny (model X.prog X.w) A (getMethod (.ref a) m pl) Q E s:=by
 obtain ⟨mA,O,r,_,_,_⟩:=Iv I.hok e
 have hn:mA m=none:=Fp.none_of (by rw [← l]; exact r m)
 exact SN I.Gx O (c.get m) k.at_ k.fn hn h
theorem M9 {y:V} {u:Value} {Q:Unit->Shared->Prop} (I:Inv X pins σ H s) (e:H a=some (.ins C dx fs)) (c:Ru X.K C) (n:Cz X.K C f) (hl:fs.length<1000) (ry:RelV y u)
  (h:∀ s',Inv X pins σ (upd H a (.ins C dx (Bf f y fs))) s'->Q () s'):wpAny (model X.prog X.w) A (setAttr (.ref a) f u) Q E s:=by
 obtain ⟨mA,O,r,wi,_,ho⟩:=Iv I.hok e
 have hz:(fs.map (·.1)).length<=sizeLine:=by rw [List.length_map,sizeLine_eq]; omega
 refine U6 I.Gx O c.sa c.po n.taker c.hd wi hz fun h' O' sb=>h _ ?_
 have hd:∃ o,h'.get? dx=some o:=let ⟨o,_,_,e',_⟩:=O'.ns; ⟨o,e'⟩
 refine I.write (x:=a) (e:=dx) (by rw [e]; exact True.intro) (.inr ho) (fun b q hb z=>(sb.2 b hb).trans z) hd ?_
 refine ⟨by rw [Ax O.ne]; exact ho,?_,O.ne,O'.obj,_,O'.ns,fun g=>?_,fun g hg=>?_⟩
 ·have:=Ii f y fs; omega
 ·show Fp ((Bf f y fs).lookup g) (if g=f then some u else mA g)
  rw [Aq]
  by_cases q:g=f
  ·rw [if_pos q,if_pos q]; exact ry
  ·rw [if_neg q,if_neg q]; exact r g
 ·by_cases q:g=f
  ·rw [q]; exact (H_ f y fs).1
  ·refine (H_ f y fs).2 g (wi g fun z=>hg ?_)
   show (if g=f then some u else mA g)=none
   rw [if_neg q]; exact z
theorem Inv.made (I:Inv X pins σ H s):Inv X pins σ (upd (upd H s.heap.objs.size (.own (s.heap.objs.size+1))) (s.heap.objs.size+1) (.ins C s.heap.objs.size []))
  { s with heap:=(s.heap.push PySem.W.emptyDict).push (PySem.W.instObj C s.heap.objs.size) }:=by
 have e1:(s.heap.push PySem.W.emptyDict).get? s.heap.objs.size=some PySem.W.emptyDict:=Heap.get?_push_size s.heap rfl
 have e2:((s.heap.push PySem.W.emptyDict).push (PySem.W.instObj C s.heap.objs.size)).get? (s.heap.objs.size+1)=some (PySem.W.instObj C s.heap.objs.size):=by
  have:=Heap.get?_push_size (s.heap.push PySem.W.emptyDict) (o:=PySem.W.instObj C s.heap.objs.size) rfl
  rwa [Heap.size_push] at this
 have e3:(s.heap.push PySem.W.emptyDict).Ns s.heap.objs.size (fun _=>none):=⟨PySem.W.emptyDict,#[],_,e1,rfl,(fun e he=>absurd he (by simp)),fun _=>rfl⟩
 have I1:=I.laid (a:=s.heap.objs.size) (o:=.own (s.heap.objs.size+1)) (h':=s.heap.push PySem.W.emptyDict) (t':=s.toks) (fun b u q=>Heap.get?_push_of_some _ q) (Nat.le_refl _) ⟨_,e1⟩
 refine I1.laid (a:=s.heap.objs.size+1) (o:=.ins C s.heap.objs.size []) (t':=s.toks) (fun b u q=>Heap.get?_push_of_some _ q) (Nat.le_of_eq (Heap.size_push _ _)) ?_
 have ne:s.heap.objs.size ≠ s.heap.objs.size+1:=Nat.ne_of_lt (Nat.lt_succ_self _)
 refine ⟨by rw [Ax ne,Ak],Nat.zero_le _,ne,e2,fun _=>none,(Heap.Ns1.of_empty e3).at fun o q=>Heap.get?_push_of_some _ q,fun _=>True.intro,fun y hy=>absurd rfl hy⟩
theorem Tq {prog:Program} {w:World} {env:Env} {e:Expr} {f:Str} {pos:Pos} {s:Shared} {Q:Value->Shared->Prop} (hb:attributeBase e f env (eval e env)=eval e env)
  (h:wpAny (model prog w) A (eval e env) (fun o s₁=>wpAny (model prog w) A (getAttr o f true) Q E s₁) E s):wpAny (model prog w) A (eval (.Attribute e f pos) env) Q E s :=
 Attribute_any_ h (by rw [arm_eval_Attribute,hb])
end
noncomputable def gb (K:PySem.W.Frag) (ta:TE) (f:Str):TE:=fun σ H Q=>ta σ H fun x H1=>∃ a C dx fs v,x=.ref a/\H1 a=some (.ins C dx fs)/\Ru K C/\Cz K C f/\fs.lookup f=some v/\Q v H1
noncomputable def fK (K:PySem.W.Frag) (ta tv:TE) (f:Str):TS:=fun D σ H=>tv σ H fun y H1=>ta σ H1 fun x H2=>∃ a C dx fs,x=.ref a/\H2 a=some (.ins C dx fs)/\Ru K C/\Cz K C f/\fs.length<1000 /\
 D.nx σ (upd H2 a (.ins C dx (Bf f y fs)))
section
variable {X:Cx} {o e value:Expr} {f:Str} {pos pos' tpos:Pos} {ta tv:TE}
theorem CV (he:PE X e ta) (hb:attributeBase e f X.env (eval e X.env)=eval e X.env):PE X (.Attribute e f pos) (gb X.K ta f):=by
 intro pins s σ H Q I h
 refine Tq hb (CJ (he pins s σ H _ I h) fun u s1 hq0=>?_)
 obtain ⟨x,H1,I1,rx,a,C,dx,fs,v,ex,ea,c,n,l,q⟩:=hq0
 subst ex
 obtain rfl:u=Value.ref a:=rx
 exact My I1 ea c n l fun u' s2 I2 ru=>⟨v,H1,I2,ru,q⟩
theorem El (ha:PE X o ta) (hv:PE X value tv) (hs:swapsWith value (some (.Attribute o f pos')) pos.line X.env=pure false):PS X (.Assign [.Attribute o f pos'] value pos) (fK X.K ta tv f):=by
 intro pins s σ H D I h
 refine plainObj_wpAny_Assign_Attribute (CJ (hv pins s σ H _ I h) fun u s1 ⟨y,H1,I1,ry,q⟩=>CJ (ha pins s1 σ H1 _ I1 q) fun ov s2 ⟨x,H2,I2,rx,a,C,dx,fs,ex,ea,c,n,l,q2⟩=>?_) hs
 subst ex
 obtain rfl:ov=Value.ref a:=rx
 exact M9 I2 ea c n l ry fun s3 I3=>⟨σ,_,I3,q2⟩
end
section
variable {X:Cx} {pins:List (Addr × Obj)} {σ:St} {H:Hp} {s:Shared} {A:Around} {E:Value->Shared->Prop} {Q:Value->Shared->Prop} {c:Value} {b:Bool}
inductive Hs (K:PySem.W.Frag) (H:Hp):V->Value->Prop where
 | non:Hs K H .non (.type "NoneType")
 | bl (x:Bool):Hs K H (.bl x) (.type "bool")
 | int (i:Int):Hs K H (.int i) (.type "int")
 | str (x:Str):Hs K H (.str x) (.type "str")
 | flt (x:UInt64):Hs K H (.flt x) (.type "float")
 | lst {a:Addr} {xs:List V} (e:H a=some (.lst xs)):Hs K H (.ref a) (.type "list")
 | frz {a:Addr} {o:Obj} {xs:List V} (e:H a=some (.frz o (.lst xs))):Hs K H (.ref a) (.type "list")
 | tup {a:Addr} {xs:List V} (e:H a=some (.tup xs)):Hs K H (.ref a) (.type "tuple")
 | dK {a:Addr} {kvs:List (Key × V)} (e:H a=some (.dK kvs)):Hs K H (.ref a) (.type "dict")
 | dT {a:Addr} {kvs:List (List Key × V)} (e:H a=some (.dT kvs)):Hs K H (.ref a) (.type "dict")
 | ins {a C dx:Addr} {fs:List (Str × V)} (e:H a=some (.ins C dx fs)) (cl:Ru K C) (ha:PySem.W.findIn K (.ref C) "__class__" = some (some (.builtin "object.__class__")))
   (hn:PySem.W.specialIn K (.builtin "object.__class__") "__get__" = some (some (.builtin "getset_descriptor.__get__"))) (htk:PySem.W.takesIn K (.builtin "object.__class__")=some true)
   (hm:PySem.W.mroIn K C (.type "object")=some true):Hs K H (.ref a) (.ref C)
theorem QD {x:V} {u t:Value} (I:Inv X pins σ H s) (rx:RelV x u) (ty:Hs X.K H x t) (e:PySem.W.kitOne X.K t c=some b) (h:∀ tk,Q (.bool b) { s with toks:=tk }) :
  wpAny (model X.prog X.w) A (call (.builtin "isinstance") [u,c]) Q E s:=by
 cases ty with
 | non=>cases (show u=Value.none from rx); exact PySem.W.kia_one PySem.W.kitx_none I.Gx True.intro e (fun z=>nomatch z) h
 | bl y=>cases (show u=Value.bool y from rx); exact PySem.W.kia_one PySem.W.kitx_bool I.Gx True.intro e (fun z=>nomatch z) h
 | int i=>obtain ⟨t,q⟩:=(show ∃ t,u=Value.int i t from rx); cases q; exact PySem.W.kia_one PySem.W.kitx_int I.Gx True.intro e (fun z=>nomatch z) h
 | str y=>obtain ⟨t,q⟩:=(show ∃ t,u=Value.str y t from rx); cases q; exact PySem.W.kia_one PySem.W.kitx_str I.Gx True.intro e (fun z=>nomatch z) h
 | flt y=>obtain ⟨t,q⟩:=(show ∃ t,u=Value.float y t from rx); cases q; exact PySem.W.kia_one PySem.W.kitx_float I.Gx True.intro e (fun z=>nomatch z) h
 | @lst a xs ea =>
  cases (show u=Value.ref a from rx)
  obtain ⟨_,_,n,_,h1⟩:=(show Bx X.prog X.w H s.heap a (.lst xs) from I.hok a _ ea)
  exact PySem.W.kia_one PySem.W.kitx_list I.Gx ⟨_,h1,rfl⟩ e (fun z=>nomatch z) h
 | @frz a ob xs ea =>
  cases (show u=Value.ref a from rx)
  obtain ⟨_,_,_,n,_,h1⟩:=(show Bx X.prog X.w H s.heap a (.frz ob (.lst xs)) from I.hok a _ ea)
  exact PySem.W.kia_one PySem.W.kitx_list I.Gx ⟨_,h1,rfl⟩ e (fun z=>nomatch z) h
 | @tup a xs ea =>
  cases (show u=Value.ref a from rx)
  obtain ⟨_,_,_,p⟩:=(show Bx X.prog X.w H s.heap a (.tup xs) from I.hok a _ ea)
  obtain ⟨o,h1,h2,_⟩:=p
  exact PySem.W.kia_one PySem.W.kitx_tuple I.Gx ⟨o,h1,h2⟩ e (fun z=>nomatch z) h
 | @dK a kvs ea =>
  cases (show u=Value.ref a from rx)
  obtain ⟨_,_,vs,_,p⟩:=(show Bx X.prog X.w H s.heap a (.dK kvs) from I.hok a _ ea)
  obtain ⟨o,es,ep,h1,h2,_⟩:=p
  exact PySem.W.kia_one PySem.W.kitx_dict I.Gx ⟨o,h1,h2.1⟩ e (fun z=>nomatch z) h
 | @dT a kvs ea =>
  cases (show u=Value.ref a from rx)
  obtain ⟨_,_,xs,_,o,es,ep,h1,h2,_⟩:=(show Bx X.prog X.w H s.heap a (.dT kvs) from I.hok a _ ea)
  exact PySem.W.kia_one PySem.W.kitx_dict I.Gx ⟨o,h1,h2.1⟩ e (fun z=>nomatch z) h
 | @ins a C dx fs ea cl ha hn htk hm =>
  cases (show u=Value.ref a from rx)
  obtain ⟨mA,O,_⟩:=Iv I.hok ea
  obtain ⟨od,J,_⟩:=O.look
  exact PySem.W.kia_one (PySem.W.kitx_own (cl.get _) cl.hd ha hn htk hm) I.Gx J e (fun z=>nomatch z) h
end
end L2
namespace L2
open PySem PySem.Spec PyProof.Rows
structure A_ (k:Nat) (A:Around):Prop where
 hd:A.handled=none
 dp:A.depth+3 * k+5<recursionLimit
 un:A.units+16 * k+200<cLine
theorem A_.mono {j k:Nat} {A:Around} (r:A_ k A) (h:j<=k):A_ j A:=⟨r.hd,by have:=r.dp; omega,by have:=r.un; omega⟩
theorem A_.deeper {k:Nat} {A:Around} (r:A_ (k+1) A) (env:Env):A_ k (A.deeper env) :=
 ⟨r.hd,by have:=r.dp; show A.depth+1+3 * k+5<_; omega,by have:=r.un; show A.units+3+16 * k+200<_; omega⟩
theorem M6 {A:Around} {C:Addr} {us:List Value} {kw:List (Str × Value)}:(A.under (.builtin "type.__call__" ⟨.ref C::us,kw⟩)).depth=A.depth+1:=by
 first | rfl | simp [Around.under,Code.weight,Code.isCreation,Code.isGuard,Code.isCaller,Code.frames,Code.isFrame,guardIds]
theorem Ms {A:Around} {C:Addr} {us:List Value} {kw:List (Str × Value)}:(A.under (.builtin "type.__call__" ⟨.ref C::us,kw⟩)).units=A.units+1:=by
 first | rfl | simp [Around.under,Code.cUnits,Code.frames,Code.isFrame]
theorem A_.make {k:Nat} {A:Around} (r:A_ (k+1) A) (C:Addr) (us:List Value) (kw:List (Str × Value)):A_ k (A.under (.builtin "type.__call__" ⟨.ref C::us,kw⟩)) :=
 ⟨r.hd,by have:=r.dp; rw [M6]; omega,by have:=r.un; rw [Ms]; omega⟩
theorem A_.depth {k:Nat} {A:Around} (r:A_ k A):A.depth<recursionLimit:=by have:=r.dp; omega
theorem A_.units {k:Nat} {A:Around} (r:A_ k A):A.units+64<cLine:=by have:=r.un; omega
theorem A_.Qw {k:Nat} {A:Around} (r:A_ k A):A.units<cLine:=by have:=r.un; omega
noncomputable def YG:TA:=fun _ H Q=>Q [] H
noncomputable def Ve (ta:TE) (tr:TA):TA:=fun σ H Q=>ta σ H fun x H1=>tr σ H1 fun xs H2=>Q (x::xs) H2
section
variable {X:Cx} {e:Expr} {es:List Expr} {te:TE} {t:TA} {pos:Pos}
theorem Ab:PA X [] YG:=fun _ _ _ _ H Q I h=>Calls.spliced_nil ⟨[],H,I,.nil,h⟩
theorem Aa (ha:PE X e te) (hr:PA X es t) (hs:starEach (e::es) X.env=(false,eval e X.env)::starEach es X.env:=by rfl):PA X (e::es) (Ve te t):=by
 intro pos pins s σ H Q I h
 rw [hs]
 show wpAny _ _ (spliced ((false,eval e X.env)::backTo pos (starEach es X.env))) _ _ s
 refine Calls.spliced_cons (CJ (ha pins s σ H _ I h) fun u s1 hq0=>?_)
 obtain ⟨x,H1,I1,r1,q1⟩:=hq0
 exact CJ (hr pos pins s1 σ H1 _ I1 q1) fun us s2 ⟨xs,H2,I2,r2,q2⟩=>⟨x::xs,H2,I2,.cons r1 r2,q2⟩
noncomputable def gB (t:TA):TE:=fun σ H Q=>t σ H fun xs H1=>xs.length<=sizeLine/\∀ p,H1 p=none->Q (.ref p) (upd H1 p (.tup xs))
noncomputable def gf (t:TA):TE:=fun σ H Q=>t σ H fun xs H1=>xs.length<=sizeLine/\∀ p,H1 p=none->Q (.ref p) (upd H1 p (.lst xs))
theorem Cq {x1} (h:PA X es t):PE X (.Tuple es x1 pos) (gB t):=by
 intro pins s σ H Q I hq
 refine wpAny_Tuple_spliced (CJ (h pos pins s σ H _ I hq) fun us s1 ⟨xs,H1,I1,r,z,q⟩=>⟨by rw [← r.length]; exact z,?_⟩)
 have hf:H1 s1.heap.objs.size=none:=I1.hok.fresh (Nat.le_refl _)
 refine ⟨.ref s1.heap.objs.size,upd H1 s1.heap.objs.size (.tup xs),I1.laid (t':=s1.toks) (fun b u e=>Heap.get?_push_of_some _ e) (Nat.le_refl _) ?_,rfl,q _ hf⟩
 exact ⟨z,us,r,⟨_,Heap.get?_push_size _ rfl,rfl,_,rfl⟩⟩
theorem Dr (h:PA X es t):PE X (.List es pos) (gf t):=by
 intro pins s σ H Q I hq
 refine wpAny_List_spliced (CJ (h pos pins s σ H _ I hq) fun us s1 ⟨xs,H1,I1,r,z,q⟩=>⟨by rw [← r.length]; exact z,?_⟩)
 have hf:H1 s1.heap.objs.size=none:=I1.hok.fresh (Nat.le_refl _)
 refine ⟨.ref s1.heap.objs.size,upd H1 s1.heap.objs.size (.lst xs),I1.laid (t':=s1.toks) (fun b u e=>Heap.get?_push_of_some _ e) (Nat.le_refl _) ?_,rfl,q _ hf⟩
 exact ⟨z,us,0,r,Heap.get?_push_size _ rfl⟩
end
noncomputable abbrev Sp:=List V->Hp->VK->XK->Prop
noncomputable abbrev O5:=List Env->Hp->Shared->XK->Value->Shared->Prop
structure La (P:Program) (w:World) (K:PySem.W.Frag) (mg:Str->Option Value) (base:Heap) (A:Around) (outer:List Env) (s:Shared) (H:Hp):Prop where
 frames:A.frames=some outer
 mod:Mod K mg base
 bs:∀ b o,base.get? b=some o->s.heap.get? b=some o/\H b=none
 bsz:base.objs.size<=s.heap.objs.size
 IV:s.heap.FunFrames base outer
 frf:∀ b∈frs outer,H b=none
 hok:Ei P w H s.heap
 bare:AllBare s.gens
noncomputable def CE (outer:List Env) (P:Program) (w:World) (H:Hp) (s:Shared) (Q:VK) (u:Value) (s':Shared):Prop :=
 ∃ v H',s'.os=s.os/\AllBare s'.gens/\Un (frs outer) [] H H' s.heap s'.heap/\Ei P w H' s'.heap/\RelV v u/\Q v H'
noncomputable def CR (CX:O5) (outer:List Env) (P:Program) (w:World) (H:Hp) (s:Shared) (Q:VK) (E:XK) (r:Result) (s':Shared):Prop :=
 match r with
 | .ok (.ret u)=>CE outer P w H s Q u s'
 | .ok _=>False
 | .error e=>CX outer H s E e s'
structure Ao (P:Program) (w:World) (K:PySem.W.Frag) (mg:Str->Option Value) (base:Heap) (CX:O5) (k:Nat) (f:Addr) (fd:FuncData) (ps:List Str) (sp:Sp):Prop where
 len:∀ vs H Q E,sp vs H Q E->vs.length=ps.length
 run:∀ (A:Around) (outer:List Env) (s:Shared) (H:Hp) (args:Args) (us:List Value) (vs:List V) (Q:VK) (E:XK),A_ k A->La P w K mg base A outer s H->BindsTo s fd args (ps.zip us)->Vals vs us->sp vs H Q E ->
  codeAny (model P w) A (.call (.ref f) args) (CR CX outer P w H s Q E) s
theorem La.make {P:Program} {w:World} {K:PySem.W.Frag} {mg:Str->Option Value} {base:Heap} {A:Around} {outer:List Env} {s:Shared} {H:Hp} (e:La P w K mg base A outer s H) (C:Addr) (us:List Value) (kw:List (Str × Value)) :
  La P w K mg base (A.under (.builtin "type.__call__" ⟨.ref C::us,kw⟩)) outer s H:=⟨by first | exact e.frames | (simpa [Around.under,Code.envs,Code.isFrame,pushEnvs] using e.frames),e.mod,e.bs,e.bsz,e.IV,e.frf,e.hok,e.bare⟩
section
variable {X:Cx} {pins:List (Addr × Obj)} {σ:St} {H:Hp} {s s':Shared}
theorem Inv.env0 (I:Inv X pins σ H s):La X.prog X.w X.K X.mg X.base X.A X.stack s H :=
 ⟨I.ok.frames,I.ok.mod,I.bs,Nat.le_trans I.ok.bsz I.sz,I.stack,I.HQ,I.hok,I.bare⟩
theorem Inv.after {Q:VK} {u:Value} (I:Inv X pins σ H s) (h:CE X.stack X.prog X.w H s Q u s'):EP X pins σ Q u s':=by
 obtain ⟨v,H',os,bare,un,hok,r,q⟩:=h
 obtain ⟨hh,g,d,t,os'⟩:=s'
 obtain rfl:os'=s.os:=os
 exact ⟨v,H',I.call (h':=hh) (g':=g) (d':=d) (t':=t) (ch:=[]) un hok bare (fun b z=>absurd z (by simp)),r,q⟩
end
noncomputable def Yu (sp:Sp) (dvs:List V) (E:XK) (t:TA):TE:=fun σ H Q=>t σ H fun vs H1=>sp (vs++dvs) H1 Q E
noncomputable def V0 (C:Addr) (m:Str) (sp:Sp) (dvs:List V) (E:XK) (ta:TE) (t:TA):TE:=fun σ H Q=>ta σ H fun x H1=>∃ a dx fs,x=.ref a/\H1 a=some (.ins C dx fs)/\fs.lookup m=none /\
 t σ H1 fun vs H2=>sp (x::(vs++dvs)) H2 Q E
noncomputable def Yh (C:Addr) (sp:Sp) (dvs:List V) (E:XK) (t:TA):TE:=fun σ H Q=>t σ H fun vs H1=>∀ x dx,H1 x=none->H1 dx=none->dx ≠ x ->
 sp (.ref x::(vs++dvs)) (upd (upd H1 dx (.own x)) x (.ins C dx [])) (fun v H2=>v=.non/\Q (.ref x) H2) E
noncomputable def Binds (K:PySem.W.Frag) (fd:FuncData) (ps:List Str) (ds:List Value):Prop :=
 ∀ (s:Shared) (us:List Value),K.In s.heap->(us++ds).length=ps.length->BindsTo s fd ⟨us,[]⟩ (ps.zip (us++ds))
theorem Binds.all {K:PySem.W.Frag} {fd:FuncData} {ps:List Str} (h:∀ us:List Value,us.length=ps.length->bindArgs fd ⟨us,[]⟩=pure (ps.zip us)):Binds K fd ps []:=fun s us _ hl=>by
 rw [List.append_nil] at hl ⊢
 exact .of_eq (h us hl)
noncomputable def Fz (CX:O5) (X:Cx) (E:XK):Prop:=∀ (pins:List (Addr × Obj)) (σ:St) (H:Hp) (s:Shared) (e:Value) (s':Shared),Inv X pins σ H s->CX X.stack H s E e s'->X.xe e s'
section
variable {X:Cx} {CX:O5} {k:Nat} {f C:Addr} {fd:FuncData} {ps:List Str} {sp:Sp} {dvs:List V} {ds:List Value} {E:XK} {x m:Str} {p pos apos:Pos} {e o:Expr} {es:List Expr} {ta:TE} {t:TA}
theorem M3 {pins:List (Addr × Obj)} {σ:St} {H:Hp} {s:Shared} {Q:VK} {us:List Value} {vs:List V} (F:Ao X.prog X.w X.K X.mg X.base CX k f fd ps sp) (hr:A_ k X.A) (hb:Binds X.K fd ps ds) (hd:Vals dvs ds) (hx:Fz CX X E)
  (I:Inv X pins σ H s) (r:Vals vs us) (h:sp (vs++dvs) H Q E):wpAny (model X.prog X.w) X.A (call (.ref f) us) (EP X pins σ Q) X.xe s:=by
 have r2:Vals (vs++dvs) (us++ds):=r.append hd
 have hl:(us++ds).length=ps.length:=by rw [← r2.length]; exact F.len _ _ _ _ h
 refine wpAny_call (codeAny_mono (F.run X.A X.stack s H ⟨us,[]⟩ (us++ds) (vs++dvs) Q E hr I.env0 (hb s us I.Gx hl) r2 h) fun r s' hq=>?_)
 cases r with
 | error e=>exact hx pins σ H s e s' I hq
 | ok fl =>
  cases fl with
  | ret u=>exact I.after hq
  | next=>exact False.elim hq
  | brk=>exact False.elim hq
  | cont=>exact False.elim hq
theorem Ah (F:Ao X.prog X.w X.K X.mg X.base CX k f fd ps sp) (hr:A_ k X.A) (hg:Gl X x) (hm:X.mg x=some (.ref f)) (hk:PySem.W.keepIn X.K (.ref f)=true) (hb:Binds X.K fd ps ds) (hd:Vals dvs ds) (hx:Fz CX X E)
  (ha:PA X (e::es) t) (hdb:(x == ("__debug__" : Str))=false:=by decide) (he:starEach (e::es) X.env=(false,eval e X.env)::starEach es X.env:=by rfl) (hpl:(backTo pos (starEach es X.env)).any (·.1)=false:=by rfl) :
  PE X (.Call (.Name x p) (e::es) [] pos) (Yu sp dvs E t):=by
 intro pins s σ H Q I h
 refine wpAny_Call_Name_kw (Gs I hg hm ?_ hdb)
 refine PySem.W.callWith_K (h₀:=X.base) I.ok.mod.kin hk (CJ (ha pos pins s σ H _ I h) fun us s1 ⟨vs,H1,I1,r,q⟩=>⟨I1.Gx,?_⟩) he hpl
 exact M3 F hr hb hd hx I1 r q
theorem Dk {pl:Sem Bool} (he:PE X o ta) (c:Ru X.K C) (hm:Meth X.K C m f) (F:Ao X.prog X.w X.K X.mg X.base CX k f fd ps sp) (hr:A_ k X.A) (hb:Binds X.K fd ps ds) (hd:Vals dvs ds) (hx:Fz CX X E) (ha:PA X (e::es) t)
  (hst:starEach (e::es) X.env=(false,eval e X.env)::starEach es X.env:=by rfl) (hpl:(backTo pos (starEach es X.env)).any (·.1)=false:=by rfl)
  (ht:eval (.Call (.Attribute o m apos) (e::es) [] pos) X.env=(do
   let ov ← eval o X.env
   standAt apos.atName
   let (f,first) ← holding [ov] (getMethod ov m pl)
   callWith pos f first (backTo pos (starEach (e::es) X.env)) (backToKw pos (keywordEach [] X.env))):=by rfl) :
  PE X (.Call (.Attribute o m apos) (e::es) [] pos) (V0 C m sp dvs E ta t):=by
 intro pins s σ H Q I h
 refine PySem.W.methodCall_KW (pl:=pl) (CJ (he pins s σ H _ I h) fun u s1 ⟨x,H1,I1,rx,a,dx,fs,ex,ea,l,q⟩=>?_) ht
 subst ex
 obtain rfl:u=Value.ref a:=rx
 refine Ji I1 ea c hm l ?_
 refine PySem.W.callWith_K (first:=[.ref a]) (h₀:=X.base) I.ok.mod.kin hm.kp (CJ (ha pos pins s1 σ H1 _ I1 q) fun us s2 ⟨vs,H2,I2,r,q2⟩=>⟨I2.Gx,?_⟩) hst hpl
 exact M3 (us:=.ref a::us) (vs:=.ref a::vs) F hr hb hd hx I2 (.cons rfl r) q2
theorem CT {pl:Sem Bool} (he:PE X o ta) (c:Ru X.K C) (hm:Meth X.K C m f) (F:Ao X.prog X.w X.K X.mg X.base CX k f fd ps sp) (hr:A_ k X.A) (hb:Binds X.K fd ps ds) (hd:Vals dvs ds) (hx:Fz CX X E)
  (ht:eval (.Call (.Attribute o m apos) [] [] pos) X.env=(do
   let ov ← eval o X.env
   standAt apos.atName
   let (f,first) ← holding [ov] (getMethod ov m pl)
   callWith pos f first (backTo pos (starEach [] X.env)) (backToKw pos (keywordEach [] X.env))):=by rfl) :
  PE X (.Call (.Attribute o m apos) [] [] pos) (V0 C m sp dvs E ta YG):=by
 intro pins s σ H Q I h
 refine PySem.W.methodCall_KW (pl:=pl) (CJ (he pins s σ H _ I h) fun u s1 ⟨x,H1,I1,rx,a,dx,fs,ex,ea,l,q⟩=>?_) ht
 subst ex
 obtain rfl:u=Value.ref a:=rx
 refine Ji I1 ea c hm l ?_
 exact PySem.W.callWith_K0 (first:=[.ref a]) I1.Gx hm.kp (M3 (us:=[.ref a]) (vs:=[.ref a]) F hr hb hd hx I1 (.cons rfl .nil) q)
structure Mk (K:PySem.W.Frag) (C f:Addr):Prop where
 makes:PySem.W.makesIn K C=true
 init:PySem.W.findIn K (.ref C) "__init__" = some (some (.ref f))
 fn:PySem.W.isFn K (.ref f)=true
 kp:PySem.W.keepIn K (.ref C)=true
theorem Q5 {pins:List (Addr × Obj)} {σ:St} {H:Hp} {s:Shared} {Q:VK} {us:List Value} {vs:List V} (M:Mk X.K C f) (F:Ao X.prog X.w X.K X.mg X.base CX k f fd ps sp) (hr:A_ (k+1) X.A) (hb:Binds X.K fd ps ds) (hd:Vals dvs ds)
  (hx:Fz CX X E) (I:Inv X pins σ H s) (r:Vals vs us)
  (h:∀ x dx,H x=none->H dx=none->dx ≠ x->sp (.ref x::(vs++dvs)) (upd (upd H dx (.own x)) x (.ins C dx [])) (fun v H2=>v=.non/\Q (.ref x) H2) E) :
  wpAny (model X.prog X.w) X.A (call (.ref C) us) (EP X pins σ Q) X.xe s:=by
 have hq:=h (s.heap.objs.size+1) s.heap.objs.size (I.hok.fresh (Nat.le_succ _)) (I.hok.fresh (Nat.le_refl _)) (Nat.ne_of_lt (Nat.lt_succ_self _))
 have I2:=Inv.made (C:=C) I
 have r2:Vals (V.ref (s.heap.objs.size+1)::(vs++dvs)) (Value.ref (s.heap.objs.size+1)::(us++ds)):=.cons rfl (r.append hd)
 have hl:(Value.ref (s.heap.objs.size+1)::us++ds).length=ps.length:=by
  have e:=r2.length
  rw [F.len _ _ _ _ hq] at e
  exact e.symm
 refine wpAny_call (Qs (f:=f) I.Gx M.makes M.init (beq_iff_eq.mp M.fn) (codeAny_mono (F.run _ X.stack _ _ ⟨Value.ref (s.heap.objs.size+1)::us,[]⟩ (Value.ref (s.heap.objs.size+1)::(us++ds)) _ _ E (hr.make C us [])
  (I2.env0.make C us []) (hb _ (Value.ref (s.heap.objs.size+1)::us) I2.Gx hl) r2 hq) fun r s' hq'=>?_))
 cases r with
 | error e=>exact hx pins σ _ _ e s' I2 hq'
 | ok fl =>
  cases fl with
  | ret u =>
   obtain ⟨v,H',I3,rv,ev,q3⟩:=I2.after hq'
   subst ev
   exact ⟨rv,⟨V.ref (s.heap.objs.size+1),H',I3,rfl,q3⟩⟩
  | next=>exact False.elim hq'
  | brk=>exact False.elim hq'
  | cont=>exact False.elim hq'
theorem Tu (M:Mk X.K C f) (F:Ao X.prog X.w X.K X.mg X.base CX k f fd ps sp) (hr:A_ (k+1) X.A) (hg:Gl X x) (hm:X.mg x=some (.ref C)) (hb:Binds X.K fd ps ds) (hd:Vals dvs ds) (hx:Fz CX X E)
  (ha:PA X (e::es) t) (hdb:(x == ("__debug__" : Str))=false:=by decide) (he:starEach (e::es) X.env=(false,eval e X.env)::starEach es X.env:=by rfl) (hpl:(backTo pos (starEach es X.env)).any (·.1)=false:=by rfl) :
  PE X (.Call (.Name x p) (e::es) [] pos) (Yh C sp dvs E t):=by
 intro pins s σ H Q I h
 refine wpAny_Call_Name_kw (Gs I hg hm ?_ hdb)
 refine PySem.W.callWith_K (h₀:=X.base) I.ok.mod.kin M.kp (CJ (ha pos pins s σ H _ I h) fun us s1 ⟨vs,H1,I1,r,q⟩=>⟨I1.Gx,?_⟩) he hpl
 exact Q5 M F hr hb hd hx I1 r q
end
section
variable {X:Cx} {CX:O5} {k:Nat} {f C:Addr} {fd:FuncData} {ps ks:List Str} {sp:Sp} {E:XK} {x m:Str} {p pos apos kpos:Pos} {e o:Expr} {es:List Expr} {kws:List Keyword} {te ta:TE} {t tk:TA} {nm:Option Str}
variable {g:List Value->List Value->List Value} {gV:List V->List V->List V}
end
structure Ar (N P:List Str) (sc:Scope):Prop where
 kind:sc.kind=.function
 co:sc.isCoroutine=false
 gen:sc.isGenerator=false
 nd:N.Nodup
 pre:N.take P.length=P
 par:∀ x∈P,sc.names.lookup x=some .local \/ sc.names.lookup x=some .cell
 nofree:∀ y∈sc.names,y.2 ≠ .free
theorem Bk {N P:List Str} {sc:Scope} (a:sc.kind=.function:=by rfl) (b:sc.isCoroutine=false:=by rfl) (c:sc.isGenerator=false:=by rfl) (d:N.Nodup:=by decide +kernel) (e:N.take P.length=P:=by rfl) (f:∀ x∈P,sc.names.lookup x=some .local \/ sc.names.lookup x=some .cell:=by decide +kernel) (g:∀ y∈sc.names,y.2 ≠ .free:=by decide +kernel):Ar N P sc:=⟨a,b,c,d,e,f,g⟩
theorem J1 {kindOf:Str->Option NameKind} {x:Str}:∀ {binds:List (Str × Value)} {m:Str->Option Value},(∀ v,(x,v) ∉ binds)->bindL kindOf binds m x=m x
 | [],_,_=>rfl
 | (n,v)::r,m,h=>by
  unfold bindL
  rw [J1 fun w hw=>h w (List.mem_cons_of_mem _ hw)]
  split
  ·have:x ≠ n:=by rintro rfl; exact h v List.mem_cons_self
   simp [this]
  ·rfl
theorem Jx {kindOf:Str->Option NameKind} {x:Str}:∀ {binds:List (Str × Value)} {m:Str->Option Value},(∀ v,(x,v) ∉ binds)->bindC kindOf binds m x=m x
 | [],_,_=>rfl
 | (n,v)::r,m,h=>by
  unfold bindC
  rw [Jx fun w hw=>h w (List.mem_cons_of_mem _ hw)]
  split
  ·rfl
  ·have:x ≠ n:=by rintro rfl; exact h v List.mem_cons_self
   simp [this]
theorem J5 {kindOf:Str->Option NameKind} {x:Str} {v:Value}:∀ {P:List Str} {vs:List Value} {i:Nat} {m:Str->Option Value},P.Nodup->P[i]? = some x->vs[i]? = some v->kindOf x=some .local ->
  bindL kindOf (P.zip vs) m x=some v
 | [],_,_,_,_,h,_,_=>by simp at h
 | _::_,[],_,_,_,_,h,_=>by simp at h
 | p::P,w::vs,0,m,nd,h1,h2,hk=>by
  simp at h1 h2; subst h1; subst h2
  show bindL kindOf ((p,w)::P.zip vs) m p=_
  unfold bindL
  rw [J1 fun v hv=>(List.nodup_cons.mp nd).1 (List.of_mem_zip hv).1,if_pos hk]
  simp
 | p::P,w::vs,i+1,m,nd,h1,h2,hk=>by
  show bindL kindOf ((p,w)::P.zip vs) m x=_
  unfold bindL
  exact J5 (i:=i) (List.nodup_cons.mp nd).2 (by simpa using h1) (by simpa using h2) hk
theorem Jy {kindOf:Str->Option NameKind} {x:Str} {v:Value}:∀ {P:List Str} {vs:List Value} {i:Nat} {m:Str->Option Value},P.Nodup->P[i]? = some x->vs[i]? = some v->kindOf x ≠ some .local ->
  bindC kindOf (P.zip vs) m x=some v
 | [],_,_,_,_,h,_,_=>by simp at h
 | _::_,[],_,_,_,_,h,_=>by simp at h
 | p::P,w::vs,0,m,nd,h1,h2,hk=>by
  simp at h1 h2; subst h1; subst h2
  show bindC kindOf ((p,w)::P.zip vs) m p=_
  unfold bindC
  rw [Jx fun v hv=>(List.nodup_cons.mp nd).1 (List.of_mem_zip hv).1,if_neg hk]
  simp
 | p::P,w::vs,i+1,m,nd,h1,h2,hk=>by
  show bindC kindOf ((p,w)::P.zip vs) m x=_
  unfold bindC
  exact Jy (i:=i) (List.nodup_cons.mp nd).2 (by simpa using h1) (by simpa using h2) hk
noncomputable def start (N:List Str) (vs:List V):St:=vs.map some++List.replicate (N.length - vs.length) none
noncomputable def Lx (CX:O5) (P:Program) (w:World) (K:PySem.W.Frag) (mg:Str->Option Value) (base:Heap) (N:List Str) (qual:Str) (scope:Scope) (f:Addr) (cd:Value) (A:Around) (outer:List Env) (s:Shared) (H:Hp) (E:XK):Cx where
 prog:=P
 w:=w
 K:=K
 mg:=mg
 base:=base
 A:=A.deeper (envOfC qual scope s.heap.objs.size f cd)
 N:=N
 s₀:=s
 H₀:=H
 env:=envOfC qual scope s.heap.objs.size f cd
 outer:=outer
 stack:=envOfC qual scope s.heap.objs.size f cd::outer
 ex:=[]
 calm:=true
 fn:=fun _=>true
 pn:=[]
 xe:=fun e s'=>wpAny (model P w) (A.deeper (envOfC qual scope s.heap.objs.size f cd)) (leaving (envOfC qual scope s.heap.objs.size f cd) e) (fun _ s''=>CX outer H s E e s'') (fun e' s''=>CX outer H s E e' s'') s'
theorem Lk {sc:Scope} {n:Nat} {x:Str} (h:sc.names.lookup x=some .cell):∃ c,(cellsFrom n sc.names []).lookup x=some c:=by
 have q:=PySem.W.cellsFrom_some sc.names n [] (.inl h)
 exact Option.isSome_iff_exists.mp q
theorem Qj {CX:O5} {P:Program} {w:World} {K:PySem.W.Frag} {mg:Str->Option Value} {base:Heap} {N ps:List Str} {qual:Str} {scope:Scope} {f:Addr} {cd:Value} {A:Around} {outer:List Env} {s s1:Shared} {H:Hp} {E:XK} {us:List Value} {vs:List V}
  (S:Ar N ps scope) (hd:A.handled=none) (e0:La P w K mg base A outer s H) (hl:vs.length=ps.length) (r:Vals vs us)
  (x:InCallC s s.heap.objs.size (bindL (envOfC qual scope s.heap.objs.size f cd).kindOf (ps.zip us) fun _=>none) (cellsFrom (s.heap.objs.size+1) scope.names []) (bindC (envOfC qual scope s.heap.objs.size f cd).kindOf (ps.zip us) fun _=>none) s1) :
  Inv (Lx CX P w K mg base N qual scope f cd A outer s H E) [] (start N vs) H s1:=by
 have hpl:ps.length<=N.length:=by have:=congrArg List.length S.pre; rw [List.length_take] at this; omega
 obtain ⟨h1,tk,rfl,hk⟩:=x.done
 have noA:∀ b:Addr,b ∉ (Lx CX P w K mg base N qual scope f cd A outer s H E).ex:=fun b z=>absurd (show b∈([]:List Addr) from z) (by simp)
 refine ⟨⟨e0.mod,S.kind,rfl,rfl,Nat.le_refl _,fun y z c h1 h2=>?_,fun y hy=>?_,fun y c _ h=>?_,fun _=>hd,Around.frames_deeper e0.frames,.inr ⟨rfl,rfl⟩,fun b z=>absurd z (noA b),e0.bs,e0.bsz,fun b _ _=>noA b,fun b z=>absurd z (noA b),e0.IV,e0.frf⟩,
  rfl,e0.bare,Un.kept hk,⟨_,x.toInCall.ns,fun i y v h1 h2 h3=>?_⟩,fun y c h=>⟨_,x.cell y c h⟩,e0.hok.fresh (Nat.le_refl _),fun y c h=>?_,fun p hp=>absurd (show p∈([]:List (Addr × Obj)) from hp) (by simp),e0.hok.kept hk,?_⟩
 ·exact name_of_addr x.apart (PySem.mem_of_lookup h1) (PySem.mem_of_lookup h2)
 ·have hy:scope.names.lookup y=some .cell \/ scope.names.lookup y=some .free:=hy
  rcases hy with hy | hy
  ·exact Lk hy
  ·exact absurd rfl (S.nofree _ (PySem.mem_of_lookup hy))
 ·exact Nat.le_of_lt (x.above y c (PySem.mem_of_lookup h))
 ·have hi:i<vs.length:=by
   unfold start at h2
   by_cases hi:i<vs.length
   ·exact hi
   ·rw [List.getElem?_append_right (by simpa using hi)] at h2
    rw [List.getElem?_replicate] at h2
    split at h2 <;> cases h2
  have ha:vs[i]? = some v:=by
   unfold start at h2
   rw [List.getElem?_append_left (by simpa using hi),List.getElem?_map] at h2
   cases e:vs[i]? with
   | none=>rw [e] at h2; cases h2
   | some a=>rw [e] at h2; cases h2; rfl
  obtain ⟨u,hu,rv⟩:=r.get ha
  have hp:ps[i]? = some y:=by
   rw [← S.pre,List.getElem?_take_of_lt (by omega)]; exact h1
  have ndP:ps.Nodup:=by rw [← S.pre]; exact S.nd.sublist (List.take_sublist _ _)
  refine ⟨u,rv,?_⟩
  rcases S.par y (List.mem_of_getElem? hp) with k | k
  ·exact .inl ⟨k,J5 ndP hp hu k⟩
  ·obtain ⟨c,e⟩:=Lk (n:=s.heap.objs.size+1) k
   refine .inr ⟨.inl k,c,e,?_⟩
   have q:=x.cell y c e
   rw [Jy ndP hp hu (by show scope.names.lookup y ≠ _; rw [k]; decide)] at q
   exact q
 ·exact e0.hok.fresh (Nat.le_of_lt (x.above y c (PySem.mem_of_lookup h)))
 ·unfold start
  show _=N.length
  rw [List.length_append,List.length_map,List.length_replicate]
  omega
theorem Vf {CX:O5} {P:Program} {w:World} {K:PySem.W.Frag} {mg:Str->Option Value} {base:Heap} {k:Nat} {f:Addr} {name qual:Str} {params:Arguments} {body:List Stmt} {scope:Scope} {dV kV doc pm cdv ct oc:Value} {an od:Option Addr}
  {osl:Array (Option Value)} {N ps:List Str} {sp:Sp} (lk:K.lookup f=some ⟨oc,od,.func (PySem.W.fnOf name qual params body scope dV kV doc pm an cdv ct),osl⟩) (hcd:PySem.W.codeIn K cdv qual=true) (S:Ar N ps scope)
  (len:∀ vs H Q E,sp vs H Q E->vs.length=ps.length)
  (hbody:∀ (A:Around) (outer:List Env) (s:Shared) (H:Hp) (vs:List V) (Q:VK) (E:XK),A_ k (A.deeper (envOfC qual scope s.heap.objs.size f cdv))->sp vs H Q E ->
   ∃ t,Mu (Lx CX P w K mg base N qual scope f cdv A outer s H E) body t/\t { nx:=fun _ H'=>Q .non H',rt:=Q } (start N vs) H) :
  Ao P w K mg base CX (k+1) f (PySem.W.fnOf name qual params body scope dV kV doc pm an cdv ct) ps sp:=by
 refine ⟨len,fun A outer s H args us vs Q E hr e0 hb r hsp=>?_⟩
 have hl:=len _ _ _ _ hsp
 have KX:K.In s.heap:=e0.mod.kin.keeps fun b o e=>(e0.bs b o e).1
 have lim:s.heap.NoLimit:=e0.mod.nolimit.keeps fun b o e=>(e0.bs b o e).1
 have hkind:∀ y∈ps.zip us,scope.names.lookup y.1=some .local \/ (scope.names.lookup y.1=some .cell/\((cellsFrom (s.heap.objs.size+1) scope.names []).lookup y.1).isSome=true):=fun ⟨n,v⟩ hy=>by
  rcases S.par n (List.of_mem_zip hy).1 with q | q
  ·exact .inl q
  ·exact .inr ⟨q,PySem.W.cellsFrom_some _ _ _ (.inl q)⟩
 refine codeAny_call_function hr.depth (KX _ _ lk) rfl S.co S.gen rfl (PySem.W.codeRec_of KX hcd) (hb _ _ _ _ ?_)
 refine wpAny_newFunctionEnv_cells S.kind hkind fun env he s1 x=>?_
 subst he
 refine ⟨lim.keeps x.toInCall.keep,codeAny_func ?_⟩
 obtain ⟨t,ht,hq⟩:=hbody A outer s H vs Q E (hr.deeper _) hsp
 have I:Inv (Lx CX P w K mg base N qual scope f cdv A outer s H E) [] (start N vs) H s1:=Qj S hr.hd e0 hl r x
 refine wpAny_mono (ht [] s1 (start N vs) H _ I hq) (fun fl s' hs=>?_) fun e s' hs=>hs
 have fin:∀ {σ':St} {H':Hp} {v:V} {u:Value},Inv (Lx CX P w K mg base N qual scope f cdv A outer s H E) [] σ' H' s'->RelV v u->Q v H'->CE outer P w H s Q u s' :=
  fun {σ' H' v u} J rv q=>⟨v,H',J.os,J.bare,J.base,J.hok,rv,q⟩
 cases fl with
 | ret u =>
  obtain ⟨v,σ',H',J,rv,q⟩:=hs
  exact fin J rv q
 | next =>
  obtain ⟨σ',H',J,q⟩:=hs
  exact fin (v:=V.non) (u:=Value.none) J rfl q
 | brk =>
  obtain ⟨_,_,_,q⟩:=hs
  exact False.elim q
 | cont =>
  obtain ⟨_,_,_,q⟩:=hs
  exact False.elim q
end L2
namespace L2
open PySem PySem.Spec PyProof.Rows
section
variable {X:Cx} {x:Str} {p pos:Pos} {e:Expr} {es:List Expr} {t:TA} {id T:String} {r:List V->Hp->VK->Prop}
noncomputable def jb (r:List V->Hp->VK->Prop) (t:TA):TE:=fun σ H Q=>t σ H fun vs H1=>r vs H1 Q
theorem BL (hc:FN X (.builtin id) r) (hg:Gl X x) (hm:X.mg x=none) (hv:bootBuiltins x=some (.builtin id)) (ha:PA X (e::es) t) (hn:x ≠ "__name__":=by decide) (hdb:(x == ("__debug__" : Str))=false:=by decide)
  (he:starEach (e::es) X.env=(false,eval e X.env)::starEach es X.env:=by rfl) (hpl:(backTo pos (starEach es X.env)).any (·.1)=false:=by rfl):PE X (.Call (.Name x p) (e::es) [] pos) (jb r t):=by
 intro pins s σ H Q I h
 refine wpAny_Call_Name_kw (G4 I hg hm hv ?_ hn hdb)
 exact PyProof.Rows.callWith_builtin1 (CJ (ha pos pins s σ H _ I h) fun us s1 ⟨vs,H1,I1,r1,q1⟩=>hc pins s1 σ H1 vs us Q I1 r1 q1) he hpl
theorem FP (hc:FN X (.type T) r) (hg:Gl X x) (hm:X.mg x=none) (hv:bootBuiltins x=some (.type T)) (ha:PA X (e::es) t) (hn:x ≠ "__name__":=by decide) (hdb:(x == ("__debug__" : Str))=false:=by decide)
  (he:starEach (e::es) X.env=(false,eval e X.env)::starEach es X.env:=by rfl) (hpl:(backTo pos (starEach es X.env)).any (·.1)=false:=by rfl):PE X (.Call (.Name x p) (e::es) [] pos) (jb r t):=by
 intro pins s σ H Q I h
 refine wpAny_Call_Name_kw (G4 I hg hm hv ?_ hn hdb)
 exact PyProof.Rows.callWith_type1 (CJ (ha pos pins s σ H _ I h) fun us s1 ⟨vs,H1,I1,r1,q1⟩=>hc pins s1 σ H1 vs us Q I1 r1 q1) he hpl
end
end L2
namespace L2
open PySem PySem.Spec PyProof.Rows
section
variable {κ:Type} [DecidableEq κ]
noncomputable def Ci (kvs:List (κ × V)) (k:κ):Option V:=(kvs.find? fun kv=>decide (kv.1=k)).map (·.2)
noncomputable def putK (kvs:List (κ × V)) (k:κ) (v:V):List (κ × V) :=
 if (kvs.any fun kv=>decide (kv.1=k))=true then kvs.map (fun kv=>if kv.1=k then (kv.1,v) else kv) else kvs++[(k,v)]
noncomputable def jZ (kvs:List (κ × V)) (k:κ):List (κ × V):=kvs.filter fun kv=>decide (kv.1 ≠ k)
theorem Cw {p:κ × V} {r:List (κ × V)} {k:κ} (e:p.1=k):Ci (p::r) k=some p.2:=by simp [Ci,List.find?_cons,e]
theorem DG {p:κ × V} {r:List (κ × V)} {k:κ} (e:¬ p.1=k):Ci (p::r) k=Ci r k:=by simp [Ci,List.find?_cons,e]
theorem E_ (k:κ):∀ kvs:List (κ × V),(kvs.any fun kv=>decide (kv.1=k))=(Ci kvs k).isSome
 | []=>rfl
 | p::r=>by
  rw [List.any_cons]
  by_cases e:p.1=k
  ·simp only [Cw e,decide_eq_true e,Bool.true_or,Option.isSome_some]
  ·rw [DG e,decide_eq_false e,Bool.false_or]; exact E_ k r
theorem MT (k j:κ) (y:V):∀ kvs:List (κ × V),Ci (kvs.map fun kv=>if kv.1=k then (kv.1,y) else kv) j=(Ci kvs j).map fun x=>if j=k then y else x
 | []=>rfl
 | p::r=>by
  have ih:=MT k j y r
  rw [List.map_cons]
  by_cases h:p.1=k
  ·rw [if_pos h]
   by_cases e:p.1=j
   ·rw [Cw (p:=(p.1,y)) e,Cw e,Option.map_some,if_pos (e.symm.trans h)]
   ·rw [DG (p:=(p.1,y)) e,DG e,ih]
  ·rw [if_neg h]
   by_cases e:p.1=j
   ·rw [Cw (p:=p) e,Cw e,Option.map_some,if_neg (fun z=>h (e.trans z))]
   ·rw [DG (p:=p) e,DG e,ih]
theorem Gh (k j:κ) (y:V):∀ kvs:List (κ × V),Ci kvs k=none->Ci (kvs++[(k,y)]) j=if j=k then some y else Ci kvs j
 | [],_=>by
  by_cases e:k=j
  ·rw [if_pos e.symm]; exact Cw (p:=(k,y)) e
  ·rw [if_neg (fun z=>e z.symm)]; exact DG (p:=(k,y)) e
 | p::r,hn=>by
  rw [List.cons_append]
  have hk:¬ p.1=k:=fun z=>by rw [Cw z] at hn; cases hn
  rw [DG hk] at hn
  have ih:=Gh k j y r hn
  by_cases e:p.1=j
  ·rw [Cw e,Cw e,if_neg (fun z=>hk (e.trans z))]
  ·rw [DG e,DG e,ih]
theorem RL (kvs:List (κ × V)) (k j:κ) (y:V):Ci (putK kvs k y) j=if j=k then some y else Ci kvs j:=by
 unfold putK
 by_cases a:(kvs.any fun kv=>decide (kv.1=k))=true
 ·rw [if_pos a,MT]
  rw [E_] at a
  by_cases e:j=k
  ·obtain ⟨x,hx⟩:=Option.isSome_iff_exists.mp a
   rw [if_pos e,e,hx,Option.map_some,if_pos rfl]
  ·rw [if_neg e]
   cases Ci kvs j with
   | none=>rfl
   | some x=>rw [Option.map_some,if_neg e]
 ·rw [if_neg a]
  refine Gh k j y kvs ?_
  rw [E_] at a
  cases q:Ci kvs k with
  | none=>rfl
  | some x=>rw [q] at a; exact (a rfl).elim
theorem Gf (kvs:List (κ × V)) (k:κ) (v:V):(putK kvs k v).length<=kvs.length+1:=by
 unfold putK
 split
 ·rw [List.length_map]; omega
 ·rw [List.length_append,List.length_cons,List.length_nil]; omega
theorem S9 {kvs:List (κ × V)} {k:κ} (v:V) (h:Ci kvs k=none):putK kvs k v=kvs++[(k,v)]:=by
 unfold putK
 rw [E_,h]
 exact if_neg (by decide)
theorem Fp.Ie {o:Option V} {u:Option Value} (r:Fp o u):o.isSome=u.isSome:=by
 cases o with
 | none=>cases u with
  | none=>rfl
  | some _=>exact (show False from r).elim
 | some _=>cases u with
  | none=>exact (show False from r).elim
  | some _=>rfl
theorem KV.val {kvs:List (κ × V)} {vs:List (κ × Value)} (r:KV kvs vs) (k:κ):Fp (Ci kvs k) (valueAt vs k):=by
 unfold KV at r
 induction r with
 | nil=>exact True.intro
 | @cons p q ps qs h t ih =>
  obtain ⟨h1,h2⟩:=h
  by_cases e:p.1=k
  ·have e':q.1=k:=h1.symm.trans e
   have b:valueAt (q::qs) k=some q.2:=by simp [valueAt,List.find?_cons,e']
   rw [Cw e,b]; exact h2
  ·have e':¬ q.1=k:=fun z=>e (h1.trans z)
   have b:valueAt (q::qs) k=valueAt qs k:=by simp [valueAt,List.find?_cons,e']
   rw [DG e,b]; exact ih
theorem KV.any {kvs:List (κ × V)} {vs:List (κ × Value)} (r:KV kvs vs) (k:κ):(kvs.any fun kv=>decide (kv.1=k))=vs.any fun kv=>decide (kv.1=k):=by
 unfold KV at r
 induction r with
 | nil=>rfl
 | cons h t ih=>rw [List.any_cons,List.any_cons,ih,h.1]
theorem KV.repl {kvs:List (κ × V)} {vs:List (κ × Value)} (r:KV kvs vs) (k:κ) {y:V} {u:Value} (ry:RelV y u) :
  KV (kvs.map fun kv=>if kv.1=k then (kv.1,y) else kv) (vs.map fun kv=>if kv.1=k then (kv.1,u) else kv):=by
 unfold KV at r ⊢
 induction r with
 | nil=>exact .nil
 | @cons p q ps qs h t ih =>
  rw [List.map_cons,List.map_cons]
  refine .cons ?_ ih
  obtain ⟨h1,h2⟩:=h
  by_cases e:p.1=k
  ·rw [if_pos e,if_pos (h1.symm.trans e)]; exact ⟨h1,ry⟩
  ·rw [if_neg e,if_neg (fun z=>e (h1.trans z))]; exact ⟨h1,h2⟩
theorem KV.put {kvs:List (κ × V)} {vs:List (κ × Value)} (r:KV kvs vs) (k:κ) {y:V} {u:Value} (ry:RelV y u):KV (putK kvs k y) (stored vs k u):=by
 unfold putK stored
 rw [r.any k]
 by_cases e:(vs.any fun kv=>decide (kv.1=k))=true
 ·rw [if_pos e,if_pos e]; exact r.repl k ry
 ·rw [if_neg e,if_neg e]; exact Paired.snoc r ⟨rfl,ry⟩
theorem KV.length {kvs:List (κ × V)} {vs:List (κ × Value)} (r:KV kvs vs):kvs.length=vs.length:=Paired.length r
end
theorem Oj {P:Program} {w:World} {k:Key} {u:Value} (r:RelV (kV k) u):(Ca P w).is k u=true:=by
 cases k with
 | inl i=>obtain ⟨t,e⟩:=(show ∃ t,u=Value.int i t from r); subst e; exact K_ P w i t
 | inr x=>obtain ⟨t,e⟩:=(show ∃ t,u=Value.str x t from r); subst e; exact Lw P w x t
theorem J7 {P:Program} {w:World}:∀ {ks:List Key} {us:List Value},Vals (ks.map kV) us->ItemsAre (Ca P w) ks us
 | [],_,r=>by rw [List.map_nil] at r; cases r; exact .nil
 | k::ks,_,r=>by
  rw [List.map_cons] at r
  cases r with
  | cons h t=>exact .cons (Oj h) (J7 t)
noncomputable abbrev KT (H:Hp):List (List Key × V)->List (List Key × Addr × Value)->Prop:=Paired fun p q=>p.1=q.1/\H q.2.1=some (.tup (p.1.map kV))/\RelV p.2 q.2.2
theorem KT.val {H:Hp} {kvs:List (List Key × V)} {xs:List (List Key × Addr × Value)} (r:KT H kvs xs) (k:List Key):Fp (Ci kvs k) ((atKey xs k).map (·.2)):=by
 induction r with
 | nil=>exact True.intro
 | @cons p q ps qs h t ih =>
  obtain ⟨h1,_,h2⟩:=h
  by_cases e:p.1=k
  ·have e':q.1=k:=h1.symm.trans e
   have b:atKey (q::qs) k=some q.2:=by simp [atKey,List.find?_cons,e']
   rw [Cw e,b]; exact h2
  ·have e':¬ q.1=k:=fun z=>e (h1.trans z)
   have b:atKey (q::qs) k=atKey qs k:=by simp [atKey,List.find?_cons,e']
   rw [DG e,b]; exact ih
theorem KT.repl {H:Hp} {kvs:List (List Key × V)} {xs:List (List Key × Addr × Value)} (r:KT H kvs xs) (k:List Key) {y:V} {u:Value} (ry:RelV y u) :
  KT H (kvs.map fun kv=>if kv.1=k then (kv.1,y) else kv) (xs.map (putAt k u)):=by
 induction r with
 | nil=>exact .nil
 | @cons p q ps qs h t ih =>
  rw [List.map_cons,List.map_cons]
  refine .cons ?_ ih
  obtain ⟨h1,h2,h3⟩:=h
  unfold putAt
  by_cases e:p.1=k
  ·rw [if_pos e,if_pos (h1.symm.trans e)]; exact ⟨h1,h2,ry⟩
  ·rw [if_neg e,if_neg (fun z=>e (h1.trans z))]; exact ⟨h1,h2,h3⟩
theorem KT.put {H:Hp} {kvs:List (List Key × V)} {xs:List (List Key × Addr × Value)} (r:KT H kvs xs) (k:List Key) {b:Addr} {y:V} {u:Value} (hb:H b=some (.tup (k.map kV))) (ry:RelV y u) :
  KT H (putK kvs k y) (storedH xs k b u):=by
 have e:(kvs.any fun kv=>decide (kv.1=k))=(atKey xs k).isSome:=by
  rw [E_,(r.val k).Ie,Option.isSome_map]
 unfold putK storedH
 rw [e]
 by_cases q:(atKey xs k).isSome=true
 ·rw [if_pos q,if_pos q]; exact r.repl k ry
 ·rw [if_neg q,if_neg q]; exact Paired.snoc r ⟨rfl,hb,ry⟩
theorem KT.keeps {H H':Hp} {kvs:List (List Key × V)} {xs:List (List Key × Addr × Value)} (r:KT H kvs xs) (ht:∀ b ys,H b=some (.tup ys)->H' b=some (.tup ys)):KT H' kvs xs :=
 Paired.Lz r fun _ _ z=>⟨z.1,ht _ _ z.2.1,z.2.2⟩
section
variable {P:Program} {w:World} {H:Hp} {h:Heap} {a:Addr}
theorem Vi {u:HO} (ok:Ei P w H h) (e:Rd H a u):Bx P w H h a u:=e.ok ok
theorem Oc {kvs:List (Key × V)} (ok:Ei P w H h) (e:Rd H a (.dK kvs)):kvs.length<=sizeLine/\(a == sysModules)=false/\∃ vs,KV kvs vs/\h.DictOf (Ca P w) a vs :=
 show Bx P w H h a (.dK kvs) from Vi ok e
theorem aX {kvs:List (Key × V)} (ok:Ei P w H h) (e:H a=some (.dK kvs)):kvs.length<=sizeLine/\(a == sysModules)=false/\∃ vs,KV kvs vs/\h.DictOf (Ca P w) a vs:=Oc ok (.inl e)
theorem K1 {ks:List Key} (ok:Ei P w H h) (e:H a=some (.tup (ks.map kV))):(tupleKind (Ca P w)).is h ks a:=by
 obtain ⟨_,its,r,o,h1,h2,n,h3⟩:=(show Bx P w H h a (.tup (ks.map kV)) from ok a _ e)
 exact ⟨o,its.toArray,n,h1,h2,h3,by simpa using J7 r⟩
theorem OJ {kvs:List (List Key × V)} (ok:Ei P w H h) (e:Rd H a (.dT kvs)):kvs.length<=sizeLine/\(a == sysModules)=false /\
  ∃ xs,KT H kvs xs/\h.DictOfH (tupleKind (Ca P w)) a xs:=by
 obtain ⟨z,y,xs,r,o,es,ep,h1,h2,h3,h4,h5⟩:=(show Bx P w H h a (.dT kvs) from Vi ok e)
 refine ⟨z,y,xs,r,o,es,ep,h1,h2,h3,h4,fun x hx=>?_,h5⟩
 have all:∀ {l:List (List Key × V)} {m:List (List Key × Addr × Value)},KT H l m->∀ x∈m,(tupleKind (Ca P w)).is h x.1 x.2.1:=by
  intro l m q
  induction q with
  | nil=>intro x hx; exact nomatch hx
  | @cons p q ps qs hq t ih =>
   intro x hx
   rcases List.mem_cons.mp hx with e | hx
   ·subst e
    exact K1 ok (by rw [← hq.1]; exact hq.2.1)
   ·exact ih x hx
 exact all r x hx
theorem Yi {kvs:List (List Key × V)} (ok:Ei P w H h) (e:H a=some (.dT kvs)):kvs.length<=sizeLine/\(a == sysModules)=false /\
  ∃ xs,KT H kvs xs/\h.DictOfH (tupleKind (Ca P w)) a xs:=OJ ok (.inl e)
end
noncomputable def Hh (H:Hp) (a:Addr) (y:V) (r:Option V):Prop :=
 (∃ kvs k,Rd H a (.dK kvs)/\y=kV k/\r=Ci kvs k) \/ ∃ kvs k b,Rd H a (.dT kvs)/\y=.ref b/\H b=some (.tup (k.map kV))/\r=Ci kvs k
noncomputable def QF (H:Hp) (a:Addr) (y v:V) (H':Hp):Prop :=
 (∃ kvs k,H a=some (.dK kvs)/\y=kV k/\kvs.length<sizeLine/\H'=upd H a (.dK (putK kvs k v))) \/
 ∃ kvs k b,H a=some (.dT kvs)/\y=.ref b/\H b=some (.tup (k.map kV))/\kvs.length<sizeLine/\H'=upd H a (.dT (putK kvs k v))
theorem Hh.k {H:Hp} {a:Addr} {kvs:List (Key × V)} {k:Key} (e:H a=some (.dK kvs)):Hh H a (kV k) (Ci kvs k):=.inl ⟨kvs,k,.inl e,rfl,rfl⟩
theorem QF.k {H:Hp} {a:Addr} {kvs:List (Key × V)} {k:Key} {v:V} (e:H a=some (.dK kvs)) (hl:kvs.length<sizeLine):QF H a (kV k) v (upd H a (.dK (putK kvs k v))):=.inl ⟨kvs,k,e,rfl,hl,rfl⟩
section
variable {X:Cx} {pins:List (Addr × Obj)} {σ:St} {H:Hp} {s:Shared} {a:Addr} {y v:V} {u r:Value} {o:Option V} {A:Around} {E:Value->Shared->Prop}
theorem Inv.big (I:Inv X pins σ H s):sysModules<s.heap.objs.size:=by
 have h:mainGlobals<s.heap.objs.size:=(I.mod.glob.keeps I.bk).lt
 exact Nat.lt_trans (by decide) h
theorem PP {Q:Value->Shared->Prop} (hu:A.units+1<cLine) (I:Inv X pins σ H s) (g:Hh H a y (some v)) (ry:RelV y u) (h:∀ w' s',Inv X pins σ H s'->RelV v w'->Q w' s') :
  wpAny (model X.prog X.w) A (getItem (.ref a) u) Q E s:=by
 rcases g with ⟨kvs,k,e,ey,l⟩ | ⟨kvs,k,b,e,ey,eb,l⟩
 ·subst ey
  obtain ⟨z,hd,vs,rel,dd⟩:=Oc I.hok e
  obtain ⟨w',hw,rw'⟩:=Fp.some_of (v:=v) (o:=valueAt vs k) (by rw [l]; exact rel.val k)
  exact wpAny_getItem_of (Oj ry) dd.mapOf hw (h w' _ (I.tok _) rw')
 ·subst ey
  cases (show u=Value.ref b from ry)
  obtain ⟨z,hd,xs,rel,dd⟩:=OJ I.hok e
  obtain ⟨w',hw,rw'⟩:=Fp.some_of (v:=v) (o:=(atKey xs k).map (·.2)) (by rw [l]; exact rel.val k)
  obtain ⟨p,hp,hp2⟩:=Option.map_eq_some_iff.mp hw
  refine wpAny_getItem_heap (tupleKind_room_in1 hu) (K1 I.hok eb) dd hp ?_
  rw [hp2]
  exact h w' _ (I.tok _) rw'
theorem Uh {Q:Value->Shared->Prop} (hu:A.units+1<cLine) (I:Inv X pins σ H s) (g:Hh H a y o) (ry:RelV y u) (h:∀ s',Inv X pins σ H s'->Q (.bool (!o.isSome)) s') :
  wpAny (model X.prog X.w) A (compareOp .NotIn u (.ref a)) Q E s:=by
 rcases g with ⟨kvs,k,e,ey,l⟩ | ⟨kvs,k,b,e,ey,eb,l⟩
 ·subst ey
  obtain ⟨z,hd,vs,rel,dd⟩:=Oc I.hok e
  refine wpAny_notIn_of (Oj ry) hd dd.mapOf ?_
  rw [← (rel.val k).Ie,← l]
  exact h _ (I.tok _)
 ·subst ey
  cases (show u=Value.ref b from ry)
  obtain ⟨z,hd,xs,rel,dd⟩:=OJ I.hok e
  refine wpAny_notIn_heap (tupleKind_room_in1 hu) (K1 I.hok eb) hd dd ?_
  have q:=(rel.val k).Ie
  rw [Option.isSome_map] at q
  rw [← q,← l]
  exact h _ (I.tok _)
theorem Oo {h':Heap} {t':Nat} {ob:HO} (I:Inv X pins σ H s) (mu:YF (H a)) (hs:Heap.SameBut a s.heap h') (he:∃ q,h'.get? a=some q) (new:Bx X.prog X.w (upd H a ob) h' a ob) :
  Inv X pins σ (upd H a ob) { s with heap:=h',toks:=t' } :=
 I.write (x:=a) (e:=a) mu (.inl rfl) (fun b q hb z=>(hs.2 b hb).trans z) he new
theorem XD {P:Program} {w:World} {H':Hp} {h':Heap} {kvs:List (Key × V)} {vs:List (Key × Value)} (z:kvs.length<=sizeLine) (hd:(a == sysModules)=false) (rel:KV kvs vs) (dd:h'.DictOf (Ca P w) a vs) :
  Bx P w H' h' a (.dK kvs):=⟨z,hd,vs,rel,dd⟩
theorem QG {H':Hp} {Q:Unit->Shared->Prop} (hu:A.units+1<cLine) (I:Inv X pins σ H s) (g:QF H a y v H') (ry:RelV y u) (rv:RelV v r) (h:∀ s',Inv X pins σ H' s'->Q () s') :
  wpAny (model X.prog X.w) A (setItem (.ref a) u r) Q E s:=by
 rcases g with ⟨kvs,k,e,ey,l,eH⟩ | ⟨kvs,k,b,e,ey,eb,l,eH⟩
 ·subst ey eH
  obtain ⟨z,hd,vs,rel,dd⟩:=aX I.hok e
  have hz:vs.length<=sizeLine:=by rw [← rel.length]; exact z
  have hl:(putK kvs k v).length<=sizeLine:=by have:=Gf kvs k v; omega
  refine wpAny_setItem_pairs (hsz:=hz) (Oj ry) dd fun h' dd' hs=>h _ ?_
  have he:∃ q,h'.get? a=some q:=let ⟨q,_,_,hq,_⟩:=dd'; ⟨q,hq⟩
  exact Oo I (by rw [e]; exact True.intro) hs he (XD hl hd (rel.put k rv) dd')
 ·subst ey eH
  cases (show u=Value.ref b from ry)
  obtain ⟨z,hd,xs,rel,dd⟩:=Yi I.hok e
  have hz:xs.length<=sizeLine:=by rw [← Paired.length rel]; exact z
  have hl:(putK kvs k v).length<=sizeLine:=by have:=Gf kvs k v; omega
  refine wpAny_setItem_heap (hsz:=hz) (tupleKind_room_in1 hu) (K1 I.hok eb) dd fun h' dd' hs=>h _ ?_
  obtain ⟨q,es,ep,hq,h2,h3,h4,_,h5⟩:=dd'
  refine Oo I (by rw [e]; exact True.intro) hs ⟨q,hq⟩ ⟨hl,hd,_,(rel.put k eb rv).keeps fun c ys ec=>?_,q,es,ep,hq,h2,h3,h4,h5⟩
  rw [Ax (Vh ec e (fun z=>nomatch z))]
  exact ec
end
section
variable {X:Cx} {pins:List (Addr × Obj)} {σ:St} {H:Hp} {s:Shared} {a:Addr} {kvs:List (Key × V)} {k:Key} {u:Value} {A:Around} {E:Value->Shared->Prop}
end
noncomputable def Wj (i:Expr):Prop:=∀ ov iv,subscripted i false ov iv=operate [ov,iv] (getItem ov iv)
theorem Ny {prog:Program} {w:World} {A:Around} {E:Value->Shared->Prop} {s:Shared} {env:Env} {value slice:Expr} {pos:Pos} {T id:String} {Q:Value->Shared->Prop}
  (hl:typeLookup (.type T) "__getitem__" = pure (some (.builtin id))) (hs:Wj slice)
  (h:wpAny (model prog w) A (eval value env) (fun o s₁=>wpAny (model prog w) A (eval slice env) (fun i s₂=>s₂.TypeIs o T/\wpAny (model prog w) A (getItem o i) Q E s₂) E s₁) E s) :
  wpAny (model prog w) A (eval (.Subscript value slice pos) env) Q E s:=by
 refine Subscript_ (wpAny_mono h (fun o s₁ h₁=>wpAny_mono h₁ (fun i s₂ h₂=>?_) fun _ _ x=>x) fun _ _ x=>x)
 obtain ⟨hT,h₂⟩:=h₂
 unfold subscriptTail
 refine wpAny_bind ?_
 rw [getitemInPython_of_ne hT.not_modules]
 refine wpAny_bind (wpAny_specialOf hT hl ?_)
 have fin:wpAny (model prog w) A (subscripted slice false o i) (fun r s₃=>wpAny (model prog w) A (letTemporaryGo value o r >>= fun _=>pure r) Q E s₃) E s₂:=by
  rw [hs o i]
  exact wpAny_operating (wpAny_mono h₂ (fun r s₃ h₃=>wpAny_bind (wpAny_letTemporaryGo (wpAny_pure h₃))) fun _ _ x=>x)
 first
  | exact wpAny_pure (wpAny_bind fin)
  | exact wpAny_bind (wpAny_pure (wpAny_bind fin))
  | exact wpAny_bind fin
theorem MN {X:Cx} {pins:List (Addr × Obj)} {σ:St} {H:Hp} {s:Shared} {a:Addr} {y:V} {o:Option V} (I:Inv X pins σ H s) (g:Hh H a y o):s.TypeIs (.ref a) "dict":=by
 rcases g with ⟨kvs,k,e,_,_⟩ | ⟨kvs,k,b,e,_,_,_⟩
 ·obtain ⟨_,_,vs,_,dd⟩:=Oc I.hok e
  exact dd.typeIs
 ·obtain ⟨_,_,xs,_,dd⟩:=OJ I.hok e
  exact dd.typeIs
noncomputable def Zr (td ty:TE):TE:=fun σ H Q=>td σ H fun x H1=>ty σ H1 fun y H2=>∃ a v,x=.ref a/\Hh H2 a y (some v)/\Q v H2
noncomputable def Tt (ty td:TE):TE:=fun σ H Q=>ty σ H fun y H1=>td σ H1 fun x H2=>∃ a o,x=.ref a/\Hh H2 a y o/\Q (.bl (!o.isSome)) H2
noncomputable def YZ (td ty tv:TE):TS:=fun D σ H=>tv σ H fun v H1=>td σ H1 fun x H2=>ty σ H2 fun y H3=>∃ a H4,x=.ref a/\QF H3 a y v H4/\D.nx σ H4
section
variable {X:Cx} {o i e value:Expr} {pos pos' tpos:Pos} {td ty tv:TE}
theorem HS (hu:X.A.units+1<cLine) (ho:PE X o td) (hi:PE X i ty) (hs:Wj i):PE X (.Subscript o i pos) (Zr td ty):=by
 intro pins s σ H Q I h
 refine Ny PySem.F.slot_dict_getitem.lookup hs (CJ (ho pins s σ H _ I h) fun u s1 ⟨x,H1,I1,rx,q1⟩=>CJ (hi pins s1 σ H1 _ I1 q1) fun iv s2 hq0=>?_)
 obtain ⟨y,H2,I2,ry,a,v,ex,g,q2⟩:=hq0
 subst ex
 obtain rfl:u=Value.ref a:=rx
 exact ⟨MN I2 g,PP hu I2 g ry fun w' s3 I3 rw'=>⟨v,H2,I3,rw',q2⟩⟩
theorem Qk (hu:X.A.units+1<cLine) (hi:PE X i ty) (ho:PE X o td):PC X .NotIn i o (Tt ty td):=by
 intro pins s σ H Q I h
 refine CJ (hi pins s σ H _ I h) fun iv s1 ⟨y,H1,I1,ry,q1⟩=>CJ (ho pins s1 σ H1 _ I1 q1) fun u s2 hq0=>?_
 obtain ⟨x,H2,I2,rx,a,ov,ex,g,q2⟩:=hq0
 subst ex
 obtain rfl:u=Value.ref a:=rx
 exact Uh hu I2 g ry fun s3 I3=>⟨.bl (!ov.isSome),H2,I3,rfl,q2⟩
theorem Nr (hu:X.A.units+1<cLine) (ho:PE X o td) (hi:PE X i ty) (hv:PE X value tv) (hs:swapsWith value (some (.Subscript o i pos')) pos.line X.env=pure false) :
  PS X (.Assign [.Subscript o i pos'] value pos) (YZ td ty tv):=by
 intro pins s σ H D I h
 refine wpAny_Assign_Subscript (CJ (hv pins s σ H _ I h) fun r s1 ⟨v,H1,I1,rv,q1⟩=>CJ (ho pins s1 σ H1 _ I1 q1) fun u s2 ⟨x,H2,I2,rx,q2⟩=>CJ (hi pins s2 σ H2 _ I2 q2) fun iv s3 ⟨y,H3,I3,ry,a,H4,ex,g,q3⟩=>?_) hs
 subst ex
 obtain rfl:u=Value.ref a:=rx
 exact QG hu I3 g ry rv fun s4 I4=>⟨σ,H4,I4,q3⟩
end
theorem Q9 {P:Program} {w:World} {H:Hp} (h:Heap) (hb:sysModules<h.objs.size):Bx P w H (h.push { cls:=.type "dict",data:=.dict #[] }) h.objs.size (.dK []) :=
 ⟨Nat.zero_le _,beq_eq_false_iff_ne.mpr (Ne.symm (Nat.ne_of_lt hb)),[],.nil,Heap.DictOf.new h⟩
noncomputable def V7:TE:=fun _ H Q=>∀ p,H p=none->Q (.ref p) (upd H p (.dK []))
section
variable {X:Cx} {pos:Pos}
theorem K5:PE X (.Dict [] [] pos) V7:=fun pins s σ H Q I h =>
 wpAny_Dict_empty ⟨.ref s.heap.objs.size,_,I.laid (a:=s.heap.objs.size) (o:=.dK []) (t':=s.toks) (fun _ _ q=>Heap.get?_push_of_some _ q) (Nat.le_refl _) (Q9 s.heap I.big),rfl,h _ (I.hok.fresh (Nat.le_refl _))⟩
end
noncomputable def iB (kvs more:List (Key × V)):List (Key × V):=more.foldl (fun acc kv=>putK acc kv.1 kv.2) kvs
section
variable {X:Cx} {pins:List (Addr × Obj)} {σ:St} {H:Hp} {s:Shared} {a:Addr} {y d:V} {u r:Value} {o:Option V} {A:Around} {E:Value->Shared->Prop}
end
section
variable {X:Cx} {o e f:Expr} {apos cpos:Pos} {td ty tx:TE}
end
section
variable {X:Cx} {pins:List (Addr × Obj)} {σ:St} {H:Hp} {s:Shared} {a:Addr} {kvs:List (Key × V)} {A:Around} {E:Value->Shared->Prop}
end
section
variable {X:Cx} {pins:List (Addr × Obj)} {σ:St} {H:Hp} {s:Shared} {a:Addr} {y:V} {u:Value} {A:Around} {E:Value->Shared->Prop}
end
end L2
namespace HT
open PySem PyProof.Rows
section
open PySem.SeqAt
open PySem.AutoSeq1 (wpAny_loadPart')
open PySem.MeetsSeq PySem.MeetsSeq2 PySem.MeetsSeq3
end
section
variable {prog:Program} {w:World} {A:Around} {E:Value->Shared->Prop} {s:Shared}
noncomputable def Dj (n d:Nat):Option Int->Nat
 | none=>d
 | some v=>if v<0 then (v+(n:Int)).toNat else min v.toNat n
theorem Qv (n d:Nat):Dj n d none=d:=rfl
theorem HX (n d k:Nat):Dj n d (some (k:Int))=min k n:=by
 show (if (k:Int)<0 then ((k:Int)+(n:Int)).toNat else min (k:Int).toNat n)=min k n
 rw [if_neg (by omega),Int.toNat_natCast]
theorem W0 (n d:Nat) (hd:d<=n) (o:Option Int):Dj n d o<=n:=by
 cases o with
 | none=>exact hd
 | some v =>
  show (if v<0 then (v+(n:Int)).toNat else min v.toNat n)<=n
  by_cases hv:v<0
  ·rw [if_pos hv]; omega
  ·rw [if_neg hv]; exact Nat.min_le_right _ _
theorem Nt (v:Int) (n d:Nat):(if v<0 then max (v+(n:Int)) 0 else min v (n:Int))=((Dj n d (some v):Nat):Int):=by
 show (if v<0 then max (v+(n:Int)) 0 else min v (n:Int))=(((if v<0 then (v+(n:Int)).toNat else min v.toNat n):Nat):Int)
 by_cases hv:v<0
 ·simp only [if_pos hv]; omega
 ·simp only [if_neg hv]; omega
theorem M7 (lo hi:Option Int) (n:Nat):Builtin.Slice.sliceAdjust lo hi 1 (n:Int)=(((Dj n 0 lo:Nat):Int),((Dj n n hi:Nat):Int)):=by
 have h1:¬ ((1:Int)<0):=by omega
 unfold Builtin.Slice.sliceAdjust
 simp only [h1,if_false]
 refine Prod.ext ?_ ?_
 ·cases lo with
  | none=>rfl
  | some v=>exact Nt v n 0
 ·cases hi with
  | none=>rfl
  | some v=>exact Nt v n n
theorem Ni (i j:Nat):Builtin.Slice.slicePlaces (i:Int) (j:Int) 1=j - i:=by
 unfold Builtin.Slice.slicePlaces
 have h1:(1:Int) > 0:=by omega
 simp only [h1,if_true,Int.ediv_one]
 split <;> omega
theorem JP {v:Value} {o:Option Int} {Q:Option Int->Shared->Prop} (p:IsPart v o) (h:Q o s):wpAny (model prog w) A (Builtin.Slice.slicePartIndex v) Q E s:=by
 cases p with
 | none=>exact slicePart_none h
 | int i t=>exact slicePart_int h
theorem Ht {sl:Addr} {vl vu:Value} {lo hi:Option Int} {n:Nat} {Q:Int × Int × Nat->Shared->Prop} (hs:s.heap.IsSliceOf sl vl vu .none) (pl:IsPart vl lo) (pu:IsPart vu hi)
  (h:Q (((Dj n 0 lo:Nat):Int),1,Dj n n hi - Dj n 0 lo) s):wpAny (model prog w) A (Builtin.Slice.sliceApplied (.ref sl) (pure (n:Int))) Q E s:=by
 obtain ⟨os,hos,hcs,hds⟩:=id hs
 unfold Builtin.Slice.sliceApplied Builtin.Slice.sliceFields
 refine wpAny_bind (wpAny_bind (wpAny_field hos hds (x:=vl) rfl (wpAny_bind (wpAny_field hos hds (x:=vu) rfl (wpAny_bind (wpAny_field hos hds (x:=.none) rfl (wpAny_pure ?_)))))))
 refine wpAny_bind (slicePart_none ?_)
 show wpAny _ _ (if ((1:Int) == 0)=true then _ else _) _ _ s
 rw [if_neg (by decide)]
 refine wpAny_bind (JP pl (wpAny_bind (JP pu (wpAny_bind (wpAny_pure ?_)))))
 show wpAny _ _ (match Builtin.Slice.sliceAdjust lo hi 1 (n:Int) with | (lo,hi)=>pure (lo,(1:Int),Builtin.Slice.slicePlaces lo hi 1)) _ _ s
 rw [M7 lo hi n]
 show wpAny _ _ (pure (((Dj n 0 lo:Nat):Int),(1:Int),Builtin.Slice.slicePlaces ((Dj n 0 lo:Nat):Int) ((Dj n n hi:Nat):Int) 1)) _ _ s
 rw [Ni]
 exact wpAny_pure h
theorem Sh (xs:Array Value) (i k:Nat):((List.range k).filterMap fun (m:Nat)=>xs[((i:Int)+(m:Int) * 1).toNat]?).toArray=((xs.toList.drop i).take k).toArray:=by
 have e:(fun (m:Nat)=>xs[((i:Int)+(m:Int) * 1).toNat]?)=fun m=>xs[i+m]?:=by
  funext m
  have:((i:Int)+(m:Int) * 1).toNat=i+m:=by omega
  rw [this]
 rw [e]
 have:=pick_run xs i k
 rw [List.filterMap_map] at this
 have e2:((fun x=>xs[x]?) ∘ fun x=>i+x)=fun m=>xs[i+m]?:=rfl
 rw [e2] at this
 rw [this]
theorem Hi {t sl:Addr} {items:Array Value} {vl vu:Value} {lo hi:Option Int} {Q:Value->Shared->Prop} (ht:IsTup s.heap t items) (hs:s.heap.IsSliceOf sl vl vu .none) (pl:IsPart vl lo) (pu:IsPart vu hi)
  (hw:¬ (Dj items.size 0 lo=0/\Dj items.size items.size hi=items.size))
  (h:Q (.ref s.heap.objs.size) { s with heap:=s.heap.push { cls:=.type "tuple",data:=.seq ((items.toList.drop (Dj items.size 0 lo)).take (Dj items.size items.size hi - Dj items.size 0 lo)).toArray } })
  (hsz:items.size<=sizeLine):wpAny (model prog w) A (getItem (.ref t) (.ref sl)) Q E s:=by
 have htake:sizeOk (.seq ((items.toList.drop (Dj items.size 0 lo)).take (Dj items.size items.size hi - Dj items.size 0 lo)).toArray):=by
  show ((items.toList.drop (Dj items.size 0 lo)).take (Dj items.size items.size hi - Dj items.size 0 lo)).toArray.size<=sizeLine
  rw [List.size_toArray,List.length_take,List.length_drop,Array.length_toList]
  omega
 have hj:Dj items.size items.size hi<=items.size:=W0 _ _ (Nat.le_refl _) hi
 obtain ⟨os,hos,hcs,hds⟩:=id hs
 have hTs:s.TypeIs (.ref sl) "slice":=⟨os,hos,hcs⟩
 unfold getItem
 try with_reducible refine wpAny_holding ?_
 first | refine wpAny_bind (wpAny_pure ?_) | skip
 refine wpAny_bind (wpAny_sequenceKey ht.typeIs (by decide) ?_)
 refine wpAny_bind (wpAny_callSpecial?_slot (name:=Str.ofString "__getitem__") ht.typeIs PyProof.Rows.slot_tuple_getitem
  (wpAny_call_entry PyProof.Rows.slot_tuple_getitem ht.typeIs entry_tuple_getitem ?_ (args_tuple_getitem _ _)))
 show wpAny _ _ (Builtin.Tuple.tupleItemsOf (.ref t) >>= _) _ _ s
 refine wpAny_bind (tupleItemsOf_ ht ?_)
 refine wpAny_bind (wpAny_typeOf hTs ?_)
 rw [if_pos (by decide)]
 refine wpAny_bind (Ht hs pl pu ?_)
 have hno:¬ ((((Dj items.size 0 lo:Nat):Int) == 0 && (1:Int) == 1 && (Dj items.size items.size hi - Dj items.size 0 lo) == items.size)=true):=by
  intro q
  rw [Bool.and_eq_true,Bool.and_eq_true] at q
  have q1:((Dj items.size 0 lo:Nat):Int)=0:=eq_of_beq q.1.1
  have q2:Dj items.size items.size hi - Dj items.size 0 lo=items.size:=eq_of_beq q.2
  exact hw ⟨by omega,by omega⟩
 show wpAny _ _ (if (((Dj items.size 0 lo:Nat):Int) == 0 && (1:Int) == 1 && (Dj items.size items.size hi - Dj items.size 0 lo) == items.size)=true then _ else _) _ _ s
 rw [if_neg hno,Sh]
 first
  | exact wpAny_bind (m:=Builtin.Tuple.tupleExact _) (wpAny_newObj_type (wpAny_pure ⟨_,rfl,wpAny_pure h⟩) htake)
  | exact wpAny_bind (m:=Builtin.Tuple.tupleExact _) (wpAny_newObj_type (wpAny_bind (wpAny_pure (wpAny_pure ⟨_,rfl,wpAny_pure h⟩))) htake)
  | exact wpAny_bind (wpAny_bind (m:=Builtin.Tuple.tupleExact _) (wpAny_newObj_type (wpAny_pure (wpAny_pure ⟨_,rfl,wpAny_pure h⟩)) htake))
  | exact wpAny_bind (wpAny_bind (m:=Builtin.Tuple.tupleExact _) (wpAny_newObj_type (wpAny_pure ⟨_,rfl,wpAny_pure h⟩) htake))
end
end HT
namespace L2
open PySem PySem.Spec PyProof.Rows
noncomputable abbrev TO:=St->Hp->(Option Int->Hp->Prop)->Prop
noncomputable def PO (X:Cx) (e:Option Expr) (t:TO):Prop :=
 ∀ (pins:List (Addr × Obj)) (s:Shared) (σ:St) (H:Hp) (Q:Option Int->Hp->Prop),Inv X pins σ H s->t σ H Q ->
  wpAny (model X.prog X.w) X.A (evalPart e X.env) (fun u s'=>∃ o H',Inv X pins σ H' s'/\IsPart u o/\Q o H') X.xe s
noncomputable def U9:TO:=fun _ H Q=>Q none H
noncomputable def ZL (t:TE):TO:=fun σ H Q=>t σ H fun x H1=>∃ i,x=.int i/\Q (some i) H1
section
variable {X:Cx} {e:Expr} {te:TE} {lo hi:Option Expr} {tl th:TO} {pos p2:Pos}
theorem JG:PO X none U9:=by
 intro pins s σ H Q I h
 rw [evalPart_none]
 exact wpAny_pure ⟨none,H,I,.none,h⟩
theorem Gq (h:PE X e te):PO X (some e) (ZL te):=by
 intro pins s σ H Q I hw
 rw [evalPart_some]
 refine CJ (h pins s σ H _ I hw) fun u s1 hq0=>?_
 obtain ⟨x,H1,I1,r1,q1⟩:=hq0
 obtain ⟨i,rfl,q⟩:=q1
 obtain ⟨t,rfl⟩:=r1
 exact ⟨some i,H1,I1,.int i t,q⟩
noncomputable def fV (X:Cx) (r:V->Option Int->Option Int->Hp->VK->Prop):Prop :=
 ∀ (pins:List (Addr × Obj)) (s:Shared) (σ:St) (H:Hp) (x:V) (v vl vu:Value) (lo hi:Option Int) (sl:Addr) (Q:VK),Inv X pins σ H s->RelV x v->s.heap.IsSliceOf sl vl vu .none->IsPart vl lo->IsPart vu hi->r x lo hi H Q ->
  ∃ T id,typeLookup (.type T) "__getitem__" = pure (some (.builtin id))/\s.TypeIs v T/\wpAny (model X.prog X.w) X.A (getItem v (.ref sl)) (EP X pins σ Q) X.xe s
noncomputable def jn (r:V->Option Int->Option Int->Hp->VK->Prop) (te:TE) (tl th:TO):TE:=fun σ H Q=>te σ H fun x H1=>tl σ H1 fun l H2=>th σ H2 fun u H3=>r x l u H3 Q
theorem GQ {r:V->Option Int->Option Int->Hp->VK->Prop} (hr:fV X r) (he:PE X e te) (hl:PO X lo tl) (hu:PO X hi th):PE X (.Subscript e (.Slice lo hi none p2) pos) (jn r te tl th):=by
 intro pins s σ H Q I h
 refine Subscript_ (CJ (he pins s σ H _ I h) fun v s1 hq0=>?_)
 obtain ⟨x,H1,I1,r1,q1⟩:=hq0
 refine wpAny_Slice (CJ (hl pins s1 σ H1 _ I1 q1) fun vl s2 ⟨l,H2,I2,pl,q2⟩=>CJ (hu pins s2 σ H2 _ I2 q2) fun vu s3 hq0=>?_)
 obtain ⟨u,H3,I3,pu,q3⟩:=hq0
 rw [evalPart_none]
 refine wpAny_pure ?_
 have I4:Inv X pins σ H3 { s3 with heap:=s3.heap.push { cls:=.type "slice",data:=.fields #[vl,vu,.none] } }:=I3.kept (t':=s3.toks) fun b ob q=>Heap.get?_push_of_some _ q
 obtain ⟨T,id,hT,ht,hg⟩:=hr pins { s3 with heap:=s3.heap.push { cls:=.type "slice",data:=.fields #[vl,vu,.none] } } σ H3 x v vl vu l u s3.heap.objs.size Q I4 r1 (Heap.IsSliceOf.new ..) pl pu q3
 show wpAny (model X.prog X.w) X.A (subscriptTail e (.Slice lo hi none p2) v (.ref s3.heap.objs.size)) (EP X pins σ Q) X.xe { s3 with heap:=s3.heap.push { cls:=.type "slice",data:=.fields #[vl,vu,.none] } }
 exact tail_any (ops:=[.ref s3.heap.objs.size,v]) ht hT hg (by with_unfolding_all rfl)
noncomputable def Et (xs:List V) (lo hi:Option Int):List V:=(xs.drop (HT.Dj xs.length 0 lo)).take (HT.Dj xs.length xs.length hi - HT.Dj xs.length 0 lo)
theorem Ij (xs:List V) (lo hi:Option Int):(Et xs lo hi).length<=xs.length:=by
 unfold Et
 rw [List.length_take,List.length_drop]
 omega
noncomputable def gH (K:PySem.W.Frag):V->Option Int->Option Int->Hp->VK->Prop:=fun x lo hi H Q=>∃ a xs,x=.ref a/\G8 K H a xs /\
 ¬ (HT.Dj xs.length 0 lo=0/\HT.Dj xs.length xs.length hi=xs.length)/\∀ p,H p=none->Q (.ref p) (upd H p (.tup (Et xs lo hi)))
theorem WQ:fV X (gH X.K):=by
 intro pins s σ H x v vl vu lo hi sl Q I rx hs pl pu h
 obtain ⟨a,xs,rfl,hx,hw,q⟩:=h
 cases rx
 obtain ⟨its,r,ht,hz⟩:=I.tuple hx
 have hlen:its.toArray.size=xs.length:=by rw [List.size_toArray]; exact r.length.symm
 refine ⟨"tuple",_,PyProof.Rows.slot_tuple_getitem.lookup,ht.typeIs,?_⟩
 refine HT.Hi ht hs pl pu (by rw [hlen]; exact hw) ?_ (by rw [hlen]; exact hz)
 rw [hlen]
 refine ⟨.ref s.heap.objs.size,_,I.laid (t':=s.toks) (o:=.tup (Et xs lo hi)) (fun b ob q=>Heap.get?_push_of_some _ q) (Nat.le_refl _) ?_,rfl,q _ (I.hok.fresh (Nat.le_refl _))⟩
 exact ⟨Nat.le_trans (Ij xs lo hi) hz,_,(r.drop (HT.Dj xs.length 0 lo)).take (HT.Dj xs.length xs.length hi - HT.Dj xs.length 0 lo),IsTup.new _ _⟩
end
end L2
namespace L2
open PySem PySem.Spec PyProof.Rows
noncomputable def Wq (n:Nat) (i:Int):Option Nat:=if 0<=i then (if i<n then some i.toNat else none) else if -(n:Int)<=i then some (i+n).toNat else none
noncomputable def Td {α:Type} (xs:List α) (i:Int):Option α:=(Wq xs.length i).bind fun j=>xs[j]?
theorem Ut {n:Nat} {i:Int} {j:Nat} (h:Wq n i=some j):seqIndex? i n=some j/\j<n /\ -(n:Int)<=i/\i<n:=by
 unfold Wq at h
 by_cases h0:0<=i
 ·rw [if_pos h0] at h
  by_cases h1:i<n
  ·rw [if_pos h1] at h
   have e:i.toNat=j:=Option.some.inj h
   exact ⟨by rw [seqIndex_of h0 h1,e],by omega,by omega,h1⟩
  ·rw [if_neg h1] at h; cases h
 ·rw [if_neg h0] at h
  by_cases h1 : -(n:Int)<=i
  ·rw [if_pos h1] at h
   have e:(i+n).toNat=j:=Option.some.inj h
   exact ⟨by rw [seqIndex_neg (by omega) h1,e],by omega,h1,by omega⟩
  ·rw [if_neg h1] at h; cases h
theorem Kq {α:Type} {xs:List α} {i:Int} {v:α} (h:Td xs i=some v):∃ j,seqIndex? i xs.length=some j/\xs[j]? = some v/\j<xs.length /\ -(xs.length:Int)<=i/\i<xs.length:=by
 unfold Td at h
 cases e:Wq xs.length i with
 | none=>rw [e] at h; cases h
 | some j =>
  rw [e] at h
  obtain ⟨h1,h2,h3,h4⟩:=Ut e
  exact ⟨j,h1,h,h2,h3,h4⟩
theorem Ai {α:Type} {xs:List α} {j:Nat} {v:α} (h:xs[j]? = some v):Td xs (j:Int)=some v:=by
 have hj:j<xs.length:=(List.getElem?_eq_some_iff.mp h).1
 have e:Wq xs.length (j:Int)=some j:=by
  unfold Wq
  rw [if_pos (by omega),if_pos (by omega)]; simp
 unfold Td; rw [e]; exact h
noncomputable def Ua (b:Expr):Prop:=∀ o i,subscripted b false o i=operate [o,i] (getItem o i)
noncomputable def Xx (X:Cx) (r:R2):Prop :=
 ∀ (value slice:Expr) (pins:List (Addr × Obj)) (s:Shared) (σ:St) (H:Hp) (x y:V) (v u:Value) (Q:VK),Inv X pins σ H s->RelV x v->RelV y u->r x y H Q ->
  subscripted slice false v u=operate [v,u] (getItem v u)->wpAny (model X.prog X.w) X.A (subscriptTail value slice v u) (EP X pins σ Q) X.xe s
noncomputable def iV (X:Cx) (id:String) (r:V->List V->Hp->VK->Prop):Prop :=
 ∀ (pins:List (Addr × Obj)) (s:Shared) (σ:St) (H:Hp) (x:V) (xs:List V) (v:Value) (us:List Value) (Q:VK),Inv X pins σ H s->RelV x v->Vals xs us->r x xs H Q ->
  wpAny (model X.prog X.w) X.A (call (.builtin id) (v::us)) (EP X pins σ Q) X.xe s
section
variable {X:Cx} {a b:Expr} {ta tb:TE} {pos:Pos}
theorem Az {r:R2} (hr:Xx X r) (ha:PE X a ta) (hb:PE X b tb) (hs:Ua b):PE X (.Subscript a b pos) (Xn r ta tb):=by
 intro pins s σ H Q I h
 exact Subscript_ (Wa ha hb I h fun v u s2 x y H2 I2 rx ry q=>hr a b pins s2 σ H2 x y v u Q I2 rx ry q (hs _ _))
noncomputable def Ze (K:PySem.W.Frag):R2:=fun x y H Q=>∃ p xs i v,x=.ref p/\y=.int i/\CZ K H p xs/\Td xs i=some v/\Q v H
noncomputable def au (K:PySem.W.Frag):R2:=fun x y H Q=>∃ p xs i v,x=.ref p/\y=.int i/\G8 K H p xs/\Td xs i=some v/\Q v H
noncomputable def fJ:R2:=fun x y H Q=>∃ z i c,x=.str z/\y=.int i/\z.length<=sizeLine/\Td z.cps.toList i=some c/\Q (.str ⟨#[c]⟩) H
theorem Dd:Xx X (Ze X.K):=by
 intro value slice pins s σ H x y v u Q I rx ry h hs
 obtain ⟨p,xs,i,z,rfl,rfl,hq,he,q⟩:=h
 cases rx
 obtain ⟨t,rfl⟩:=ry
 obtain ⟨its,r,pl,hz⟩:=I.list hq
 obtain ⟨j,h1,h2,h3,h4,h5⟩:=Kq he
 obtain ⟨w,ew,rw'⟩:=r.get h2
 have hl:=r.length
 have hn:=Hu
 have fin:EP X pins σ Q w s:=⟨z,H,I,rw',q⟩
 by_cases h0:0<=i
 ·have hj:i.toNat=j:=by
   rw [seqIndex_of h0 h5] at h1
   exact Option.some.inj h1
  exact item_listR pl.isList h0 (by omega) (by rw [hj]; simpa using ew) fin hs
 ·have hj:(i+(its.toArray.size:Int)).toNat=j:=by
   rw [seqIndex_neg (by omega) h4] at h1
   rw [List.size_toArray,← hl]
   exact Option.some.inj h1
  exact subscriptTail_builtinR (x:=w) pl.isList.typeIs slot_list_getitem.lookup
   (wpAny_getItem_list_neg (Q:=fun r s'=>r=w/\EP X pins σ Q r s') pl.isList (by omega) (by rw [List.size_toArray] <;> omega) (by omega) (by rw [hj]; simpa using ew) ⟨rfl,fin⟩) hs
theorem XC:Xx X (au X.K):=by
 intro value slice pins s σ H x y v u Q I rx ry h hs
 obtain ⟨p,xs,i,z,rfl,rfl,hq,he,q⟩:=h
 cases rx
 obtain ⟨t,rfl⟩:=ry
 obtain ⟨its,r,pl,hz⟩:=I.tuple hq
 obtain ⟨j,h1,h2,h3,h4,h5⟩:=Kq he
 obtain ⟨w,ew,rw'⟩:=r.get h2
 have hl:=r.length
 have hn:=Hu
 have fin:EP X pins σ Q w s:=⟨z,H,I,rw',q⟩
 exact subscriptTail_builtinR (x:=w) pl.typeIs slot_tuple_getitem.lookup
  (getItem_tuple (j:=j) (Q:=fun r s'=>r=w/\EP X pins σ Q r s') pl (by omega) (by omega) (by rw [List.size_toArray,← hl]; exact h1) (by simpa using ew) ⟨rfl,fin⟩) hs
theorem WF:Xx X fJ:=by
 intro value slice pins s σ H x y v u Q I rx ry h hs
 obtain ⟨z,i,c,rfl,rfl,hz,he,q⟩:=h
 obtain ⟨t,rfl⟩:=rx
 obtain ⟨t',rfl⟩:=ry
 obtain ⟨j,h1,h2,h3,h4,h5⟩:=Kq he
 have hl:z.cps.toList.length=z.length:=by simp [Str.length]
 rw [hl] at h1 h4 h5
 have hn:=Hu
 exact tail_any (typeIs_str s z t) slot_str_getitem.lookup (getItem_str (c:=c) (by
  have e1:decide (i < -(2 ^ 63:Int))=false:=decide_eq_false (by omega)
  have e2:decide (i ≥ 2 ^ 63)=false:=decide_eq_false (by omega)
  rw [e1,e2,Bool.or_false]) (by rw [h1]; simpa using h2) ⟨.str ⟨#[c]⟩,H,I.tok _,⟨_,rfl⟩,q⟩) hs
theorem Km (lo hi:Option Int) (n:Nat):(sliceBounds lo hi none n).1=((HT.Dj n 0 lo:Nat):Int)/\(sliceBounds lo hi none n).2.1=((HT.Dj n n hi:Nat):Int)/\(sliceBounds lo hi none n).2.2=1:=by
 refine ⟨?_,?_,rfl⟩
 ·cases lo with
  | none=>simp [sliceBounds,HT.Dj]
  | some i =>
   simp only [sliceBounds,HT.Dj,Option.getD_none,show (1:Int) > 0 by decide,if_true]
   by_cases h:i<0
   ·simp only [h,if_true] <;> omega
   ·simp only [h,if_false] <;> omega
 ·cases hi with
  | none=>simp [sliceBounds,HT.Dj]
  | some i =>
   simp only [sliceBounds,HT.Dj,Option.getD_none,show (1:Int) > 0 by decide,if_true]
   by_cases h:i<0
   ·simp only [h,if_true] <;> omega
   ·simp only [h,if_false] <;> omega
theorem Js (its:List Value) (lo hi:Option Int):slicePick its.toArray lo hi none=((its.drop (HT.Dj its.length 0 lo)).take (HT.Dj its.length its.length hi - HT.Dj its.length 0 lo)).toArray:=by
 obtain ⟨h1,h2,h3⟩:=Km lo hi its.toArray.size
 unfold slicePick
 rw [h1,h2,h3]
 simp only [sliceRange_one,pick_run,List.size_toArray] <;> rfl
noncomputable def iU (K:PySem.W.Frag):V->Option Int->Option Int->Hp->VK->Prop:=fun x lo hi H Q=>∃ a xs,x=.ref a/\CZ K H a xs/\∀ p,H p=none->Q (.ref p) (upd H p (.lst (Et xs lo hi)))
theorem JK:fV X (iU X.K):=by
 intro pins s σ H x v vl vu lo hi sl Q I rx hs pl pu h
 obtain ⟨a,xs,rfl,hx,q⟩:=h
 cases rx
 obtain ⟨its,r,ht,hz⟩:=I.list hx
 have hlen:=r.length
 refine ⟨"list",_,slot_list_getitem.lookup,ht.isList.typeIs,?_⟩
 refine wpAny_getItem_list_slice ht.isList hs pl pu .none (by simp) ?_ (by rw [List.size_toArray] <;> omega)
 rw [Js,← hlen]
 refine ⟨.ref s.heap.objs.size,_,I.laid (t':=s.toks) (o:=.lst (Et xs lo hi)) (fun b ob q=>Heap.get?_push_of_some _ q) (Nat.le_refl _) ?_,rfl,q _ (I.hok.fresh (Nat.le_refl _))⟩
 exact ⟨Nat.le_trans (Ij xs lo hi) hz,_,0,(r.drop (HT.Dj xs.length 0 lo)).take (HT.Dj xs.length xs.length hi - HT.Dj xs.length 0 lo),Heap.get?_push_size _ rfl⟩
noncomputable def Dw:V->Bool
 | .non=>true
 | .bl _=>true
 | .int _=>true
 | .str _=>true
 | _=>false
noncomputable def Jv:V->V->Bool
 | .non,.non=>true
 | .bl a,.bl b=>a == b
 | .bl a,.int b=>(if a then 1 else 0) == b
 | .int a,.bl b=>a == (if b then 1 else 0)
 | .int a,.int b=>a == b
 | .str a,.str b=>a == b
 | _,_=>false
theorem Mp {A:Around} {s:Shared} {y x:V} {u v:Value} (ry:RelV y u) (rx:RelV x v) (fy:Dw y=true) (fx:Dw x=true):SeqAt.EqAt A s u v (Jv y x):=by
 cases y with
 | non =>
  cases ry
  cases x with
  | non=>cases rx; exact SeqAt.EqAt.same _
  | bl b=>cases rx; exact SeqAt.EqAt.none_bool b
  | int b=>obtain ⟨t,rfl⟩:=rx; exact SeqAt.EqAt.none_int b t
  | str b=>obtain ⟨t,rfl⟩:=rx; exact SeqAt.EqAt.none_str b t
  | _=>exact absurd (show false=true from fx) Bool.false_ne_true
 | bl a =>
  cases ry
  cases x with
  | non=>cases rx; exact SeqAt.EqAt.bool_none a
  | bl b=>cases rx; exact SeqAt.EqAt.bool_bool a b
  | int b=>obtain ⟨t,rfl⟩:=rx; exact SeqAt.EqAt.bool_int a b t
  | str b=>obtain ⟨t,rfl⟩:=rx; exact SeqAt.EqAt.bool_str a b t
  | _=>exact absurd (show false=true from fx) Bool.false_ne_true
 | int a =>
  obtain ⟨t',rfl⟩:=ry
  cases x with
  | non=>cases rx; exact SeqAt.EqAt.int_none a t'
  | bl b=>cases rx; exact SeqAt.EqAt.int_bool a t' b
  | int b=>obtain ⟨t,rfl⟩:=rx; exact SeqAt.EqAt.int_int a t' b t
  | str b=>obtain ⟨t,rfl⟩:=rx; exact SeqAt.EqAt.int_str a t' b t
  | _=>exact absurd (show false=true from fx) Bool.false_ne_true
 | str a =>
  obtain ⟨t',rfl⟩:=ry
  cases x with
  | non=>cases rx; exact SeqAt.EqAt.str_none a t'
  | bl b=>cases rx; exact SeqAt.EqAt.str_bool a t' b
  | int b=>obtain ⟨t,rfl⟩:=rx; exact SeqAt.EqAt.str_int a t' b t
  | str b=>obtain ⟨t,rfl⟩:=rx; exact SeqAt.EqAt.str_str a t' b t
  | _=>exact absurd (show false=true from fx) Bool.false_ne_true
 | _=>exact absurd (show false=true from fy) Bool.false_ne_true
noncomputable def NK (x:V) (u:Value):Bool:=match u with
 | .none=>Jv .non x
 | .bool b=>Jv (.bl b) x
 | .int i _=>Jv (.int i) x
 | .str z _=>Jv (.str z) x
 | _=>false
theorem S7 {x y:V} {u:Value} (r:RelV y u) (f:Dw y=true):NK x u=Jv y x:=by
 cases y with
 | non=>cases r; rfl
 | bl b=>cases r; rfl
 | int i=>obtain ⟨t,rfl⟩:=r; rfl
 | str z=>obtain ⟨t,rfl⟩:=r; rfl
 | _=>exact absurd (show false=true from f) Bool.false_ne_true
theorem HF {x:V}:∀ {xs:List V} {us:List Value},Vals xs us->xs.all Dw=true->us.any (NK x)=xs.any fun y=>Jv y x
 | _,_,.nil,_=>rfl
 | y::xs,u::us,.cons r t,f=>by
  rw [List.all_cons,Bool.and_eq_true] at f
  rw [List.any_cons,List.any_cons,S7 r f.1,HF t f.2]
theorem GK {A:Around} {s:Shared} {x:V} {v:Value} (rx:RelV x v) (fx:Dw x=true):∀ {xs:List V} {us:List Value},Vals xs us->xs.all Dw=true->∀ u∈us,SeqAt.EqAt A s u v (NK x u)
 | _,_,.nil,_=>fun u hu=>by cases hu
 | y::xs,u::us,.cons r t,f=>fun u' hu=>by
  rw [List.all_cons,Bool.and_eq_true] at f
  rcases List.mem_cons.mp hu with rfl | hu
  ·rw [S7 r f.1]; exact Mp r rx f.1 fx
  ·exact GK rx fx t f.2 u' hu
noncomputable def inV (x:V) (xs:List V):Bool:=xs.any fun y=>Jv y x
noncomputable def bh (K:PySem.W.Frag) (neg:Bool):R2:=fun x y H Q=>∃ p xs,y=.ref p/\(CZ K H p xs \/ G8 K H p xs)/\Dw x=true/\xs.all Dw=true/\Q (.bl (if neg then !inV x xs else inV x xs)) H
theorem P0:Ft X (compareOp .In) (bh X.K false):=by
 intro pins s σ H x y v u Q I rx ry h
 obtain ⟨p,xs,rfl,hq,fx,fs,q⟩:=h
 cases ry
 rcases hq with hq | hq
 ·obtain ⟨its,r,pl,hz⟩:=I.list hq
  refine SeqAt.in_listAt (NK x) pl.isList (fun w hw=>GK rx fx r fs w (by simpa using hw)) ⟨.bl _,H,I,rfl,?_⟩
  rw [show its.toArray.any (NK x)=its.any (NK x) by simp,HF r fs]
  exact q
 ·obtain ⟨its,r,pl,hz⟩:=I.tuple hq
  refine SeqAt.in_tupleAt (NK x) pl (fun w hw=>GK rx fx r fs w (by simpa using hw)) ⟨.bl _,H,I,rfl,?_⟩
  rw [show its.toArray.any (NK x)=its.any (NK x) by simp,HF r fs]
  exact q
theorem Ks:Ft X (compareOp .NotIn) (bh X.K true):=by
 intro pins s σ H x y v u Q I rx ry h
 obtain ⟨p,xs,rfl,hq,fx,fs,q⟩:=h
 cases ry
 rcases hq with hq | hq
 ·obtain ⟨its,r,pl,hz⟩:=I.list hq
  refine SeqAt.notIn_listAt (NK x) pl.isList (fun w hw=>GK rx fx r fs w (by simpa using hw)) ⟨.bl _,H,I,rfl,?_⟩
  rw [show its.toArray.any (NK x)=its.any (NK x) by simp,HF r fs]
  exact q
 ·obtain ⟨its,r,pl,hz⟩:=I.tuple hq
  refine SeqAt.notIn_tupleAt (NK x) pl (fun w hw=>GK rx fx r fs w (by simpa using hw)) ⟨.bl _,H,I,rfl,?_⟩
  rw [show its.toArray.any (NK x)=its.any (NK x) by simp,HF r fs]
  exact q
theorem Bh:FN X (.builtin "len") (fun xs H Q=>∃ p ys,xs=[.ref p]/\(CZ X.K H p ys \/ G8 X.K H p ys)/\Q (.int ys.length) H):=by
 intro pins s σ H xs us Q I r h
 obtain ⟨p,ys,rfl,hq,q⟩:=h
 obtain ⟨u,rfl,rx⟩:=vals1 r
 cases rx
 have hn:=Hu
 rcases hq with hq | hq
 ·obtain ⟨its,r',pl,hz⟩:=I.list hq
  have hlen:=r'.length
  exact Calls.call_len_list pl.isList (by simp only [List.size_toArray] <;> omega) ⟨.int ys.length,H,I.tok _,⟨s.toks+1,by rw [List.size_toArray,hlen]⟩,q⟩
 ·obtain ⟨its,r',pl,hz⟩:=I.tuple hq
  have hlen:=r'.length
  exact len_tuple pl (by simp only [List.size_toArray] <;> omega) ⟨.int ys.length,H,I.tok _,⟨s.toks+1,by rw [List.size_toArray,hlen]⟩,q⟩
theorem KQ:FN X (.builtin "len") (fun xs H Q=>∃ z,xs=[.str z]/\z.length<=sizeLine/\Q (.int z.length) H):=by
 intro pins s σ H xs us Q I r h
 obtain ⟨z,rfl,hz,q⟩:=h
 obtain ⟨u,rfl,t,rfl⟩:=vals1 r
 have hn:=Hu
 exact len_str (by omega) ⟨.int z.length,H,I.tok _,⟨_,rfl⟩,q⟩
theorem Eg:FN X (.type "list") (fun xs H Q=>∃ p ys,xs=[.ref p]/\(CZ X.K H p ys \/ G8 X.K H p ys)/\∀ l,H l=none->Q (.ref l) (upd H l (.lst ys))):=by
 intro pins s σ H xs us Q I r h
 obtain ⟨p,ys,rfl,hq,q⟩:=h
 obtain ⟨u,rfl,rx⟩:=vals1 r
 cases rx
 have fin:∀ (its:List Value),Vals ys its->ys.length<=sizeLine->∀ (h':Heap) (c':Nat),(∀ b o',s.heap.get? b=some o'->h'.get? b=some o') ->
   h'.get? s.heap.objs.size=some { cls:=.type "list",dict:=none,data:=.seq its.toArray c',slots:=#[] }->EP X pins σ Q (.ref s.heap.objs.size) { s with heap:=h' }:=fun its r' hz h' c' kp e =>
  ⟨.ref s.heap.objs.size,_,I.laid (t':=s.toks) kp (Nat.le_refl _) (show Bx X.prog X.w _ h' _ (.lst ys) from ⟨hz,its,c',r',e⟩),rfl,q _ (I.hok.fresh (Nat.le_refl _))⟩
 rcases hq with hq | hq
 ·obtain ⟨its,r',pl,hz⟩:=I.list hq
  have hlen:=r'.length
  obtain ⟨o,ho,hc,n,hd⟩:=pl.isList
  exact call_list_seq p (.inl rfl) ho hc hd (fun h' c' kp e=>fin its r' hz h' c' kp e) (by simp only [List.size_toArray] <;> omega)
 ·obtain ⟨its,r',pl,hz⟩:=I.tuple hq
  have hlen:=r'.length
  obtain ⟨o,ho,hc,n,hd⟩:=pl
  exact call_list_seq p (.inr rfl) ho hc hd (fun h' c' kp e=>fin its r' hz h' c' kp e) (by simp only [List.size_toArray] <;> omega)
noncomputable def eO (K:PySem.W.Frag) (T:String) (x:V) (H:Hp):Prop:=match x with
 | .str _=>T = "str"
 | .int _=>T = "int"
 | .ref p=>(T = "list" /\ ∃ xs,CZ K H p xs) \/ (T = "tuple" /\ ∃ o,K.lookup p=some o/\o.cls=.type "tuple" /\ o.dict=none) \/
   (T = "dict" /\ ((∃ kvs,H p=some (.dK kvs)) \/ ∃ kvs,H p=some (.dT kvs))) \/ (T = "set" /\ ∃ S n,H p=some (.set S n))
 | _=>False
theorem Rp {pins:List (Addr × Obj)} {σ:St} {H:Hp} {s:Shared} {T:String} {x:V} {v:Value} (I:Inv X pins σ H s) (r:RelV x v) (ty:eO X.K T x H) :
  s.TypeIs v T/\∀ a,v=.ref a->∃ ob,s.heap.get? a=some ob/\ob.dict=none:=by
 cases x with
 | str z =>
  obtain ⟨t,rfl⟩:=r
  cases (show T = "str" from ty)
  exact ⟨typeIs_str s z t,fun _ e=>nomatch e⟩
 | int i =>
  obtain ⟨t,rfl⟩:=r
  cases (show T = "int" from ty)
  exact ⟨typeIs_int s i t,fun _ e=>nomatch e⟩
 | ref p =>
  cases r
  rcases ty with ⟨rfl,xs,hq⟩ | ⟨rfl,o,hk,hc,hd⟩ | ⟨rfl,hk⟩ | ⟨rfl,S,n,hk⟩
  ·obtain ⟨its,_,pl,_⟩:=I.list hq
   refine ⟨pl.isList.typeIs,fun a e=>?_⟩
   cases e
   obtain ⟨o,n,e,c,hd,_⟩:=pl
   exact ⟨o,e,hd⟩
  ·refine ⟨⟨o,I.Gx p o hk,hc⟩,fun a e=>?_⟩
   cases e
   exact ⟨o,I.Gx _ o hk,hd⟩
  ·have z:∃ o,s.heap.get? p=some o/\o.ExactDict:=by
    rcases hk with ⟨kvs,hk⟩ | ⟨kvs,hk⟩
    ·obtain ⟨_,_,_,_,o,_,_,e,ex,_⟩:=I.hok p _ hk
     exact ⟨o,e,ex⟩
    ·obtain ⟨_,_,_,_,o,_,_,e,ex,_⟩:=I.hok p _ hk
     exact ⟨o,e,ex⟩
   obtain ⟨o,e,ex⟩:=z
   refine ⟨⟨o,e,ex.1⟩,fun a e2=>?_⟩
   cases e2
   exact ⟨o,e,ex.2.1⟩
  ·obtain ⟨o,_,_,_,e,ex,_⟩:=I.hok p _ hk
   refine ⟨⟨o,e,ex.1⟩,fun a e2=>?_⟩
   cases e2
   exact ⟨o,e,ex.2.1⟩
 | _=>exact False.elim ty
noncomputable def fB (K:PySem.W.Frag) (T:String) (r:V->List V->Hp->VK->Prop) (to:TE):TE:=fun σ H Q=>to σ H fun x H1=>eO K T x H1/\r x [] H1 Q
noncomputable def j8 (K:PySem.W.Frag) (T:String) (r:V->List V->Hp->VK->Prop) (to:TE) (t:TA):TE:=fun σ H Q=>to σ H fun x H1=>eO K T x H1/\t σ H1 fun xs H2=>r x xs H2 Q
variable {o e:Expr} {es:List Expr} {to:TE} {t:TA} {name:Str} {apos cpos:Pos} {T id:String} {r:V->List V->Hp->VK->Prop}
theorem TQ (pa:PlainAttrs T) (slot:Slot T name id) (hty:typeOf (.builtin id)=pure (.type "method_descriptor")) (hm:iV X id r) (ho:PE X o to)
  (hbase:attributeBase o name X.env (eval o X.env)=eval o X.env:=by rfl) (hline:(apos.endLine == cpos.line)=true:=by rfl):PE X (.Call (.Attribute o name apos) [] [] cpos) (fB X.K T r to):=by
 intro pins s σ H Q I h
 refine wpAny_Call_method0_late hbase hline (CJ (ho pins s σ H _ I h) fun v s1 hq0=>?_)
 obtain ⟨x,H1,I1,r1,ty,q1⟩:=hq0
 obtain ⟨h1,h2⟩:=Rp I1 r1 ty
 exact ⟨T,id,pa,slot,hty,h1,h2,Calls.callWith_builtin rfl (PySem.evalArgs_none (hm pins s1 σ H1 x [] v [] Q I1 r1 .nil q1))⟩
theorem Il (pa:PlainAttrs T) (slot:Slot T name id) (hty:typeOf (.builtin id)=pure (.type "method_descriptor")) (hm:iV X id r) (ho:PE X o to) (ha:PA X (e::es) t)
  (hbase:attributeBase o name X.env (eval o X.env)=eval o X.env:=by rfl)
  (hfew:((backTo cpos (starEach (e::es) X.env)).all (fun x=>!x.1) && (backToKw cpos (keywordEach [] X.env)).all (fun x=>x.1.isSome)
   && decide ((e::es).length+([]:List Keyword).length+(if ([]:List Keyword).isEmpty then 0 else 1)<30))=true:=by rfl)
  (hline:(apos.endLine == cpos.line)=true:=by rfl) (hs:starEach (e::es) X.env=(false,eval e X.env)::starEach es X.env:=by rfl) (hplain:(backTo cpos (starEach es X.env)).any (·.1)=false:=by rfl) :
  PE X (.Call (.Attribute o name apos) (e::es) [] cpos) (j8 X.K T r to t):=by
 intro pins s σ H Q I h
 refine wpAny_Call_method_late hbase hfew hline rfl (CJ (ho pins s σ H _ I h) fun v s1 hq0=>?_)
 obtain ⟨x,H1,I1,r1,ty,q1⟩:=hq0
 obtain ⟨h1,h2⟩:=Rp I1 r1 ty
 refine ⟨T,id,pa,slot,hty,h1,h2,?_⟩
 have hA:=ha cpos pins s1 σ H1 _ I1 q1
 rw [hs] at hA ⊢
 refine Calls.callWith_builtin (by show (false || (backTo cpos (starEach es X.env)).any (·.1))=false; rw [hplain] <;> rfl) (Calls.evalArgs_plain ?_)
 exact CJ hA fun us s2 ⟨vs,H2,I2,r2,q2⟩=>hm pins s2 σ H2 x vs v us Q I2 r1 r2 q2
end
end L2
namespace L2
open PySem PySem.Spec PyProof.Rows
noncomputable def eV (X:Cx) (id:String) (r:V->List V->Hp->VK->Prop):Prop :=
 ∀ (pins:List (Addr × Obj)) (s:Shared) (σ:St) (H:Hp) (x:V) (xs:List V) (v:Value) (us:List Value) (Q:VK),Inv X pins σ H s->RelV x v->Vals xs us->r x xs H Q ->
  wpAny (model X.prog X.w) X.A (call (.builtin id) (v::us)) (EP X pins σ Q) X.xe s
theorem Vals.one:∀ {x:V} {us:List Value},Vals [x] us->∃ u,us=[u]/\RelV x u:=fun h=>by cases h with | cons r t=>cases t; exact ⟨_,rfl,r⟩
theorem Vals.two:∀ {x y:V} {us:List Value},Vals [x,y] us->∃ u v,us=[u,v]/\RelV x u/\RelV y v:=fun h=>by cases h with | cons r t=>cases t with | cons q t=>cases t; exact ⟨_,_,rfl,r,q⟩
theorem Vals.eraseIdx:∀ {xs:List V} {us:List Value} (i:Nat),Vals xs us->Vals (xs.eraseIdx i) (us.eraseIdx i)
 | _,_,_,.nil=>.nil
 | _,_,0,.cons _ t=>t
 | _,_,i+1,.cons r t=>.cons r (Vals.eraseIdx i t)
theorem Jw {α:Type}:∀ (l:List α) (i:Nat),(l.eraseIdx i).length<=l.length
 | [],_=>Nat.le_refl _
 | _::_,0=>Nat.le_succ _
 | _::r,i+1=>Nat.succ_le_succ (Jw r i)
section
variable {X:Cx} {pins:List (Addr × Obj)} {σ:St} {H:Hp} {s:Shared} {l b:Addr} {xs ys zs:List V}
theorem Inv.Xm {its its':List Value} {n:Nat} {f:Array Value->Array Value} {t':Nat} (I:Inv X pins σ H s) (hH:H l=some (.lst xs))
  (e:s.heap.get? l=some { cls:=.type "list",data:=.seq its.toArray n }) (hf:f its.toArray=its'.toArray) (hv:Vals ys its') (hz:ys.length<=sizeLine) :
  Inv X pins σ (upd H l (.lst ys)) { s with heap:=s.heap.update l (Obj.mapSeq f),toks:=t' }:=by
 have q:=PySem.IsL.update e f
 rw [hf] at q
 refine I.write (x:=l) (e:=l) (by rw [hH]; exact trivial) (.inl rfl) (fun b' u hb hu=>(Heap.get?_update_other s.heap (Obj.mapSeq f) (Ne.symm hb)).trans hu) ⟨_,q⟩ ?_
 exact ⟨hz,its',_,hv,q⟩
theorem Inv.WT {its:List Value} {t':Nat} (I:Inv X pins σ H s) (hv:Vals ys its) (hz:ys.length<=sizeLine) :
  Inv X pins σ (upd H s.heap.objs.size (.lst ys)) { s with heap:=s.heap.push { cls:=.type "list",data:=.seq its.toArray },toks:=t' } :=
 I.laid (fun _ _ q=>Heap.get?_push_of_some _ q) (Nat.le_refl _) ⟨hz,its,0,hv,Heap.get?_push_size _ rfl⟩
theorem Inv.fresh (I:Inv X pins σ H s):H s.heap.objs.size=none:=I.hok.fresh (Nat.le_refl _)
theorem Inv.Qh (I:Inv X pins σ H s) (hH:H l=some (.lst xs)):xs.length<=sizeLine/\∃ (its:List Value) (n:Nat),Vals xs its/\xs.length=its.length/\s.heap.get? l=some { cls:=.type "list",data:=.seq its.toArray n }:=by
 obtain ⟨z,its,n,r,e⟩:=I.hok l _ hH
 exact ⟨z,its,n,r,r.length,e⟩
theorem Rg {n:Nat} (h:n<=sizeLine):Builtin.List.listTooLong n=false:=by
 unfold Builtin.List.listTooLong
 exact decide_eq_false (by omega)
end
section
variable {X:Cx}
noncomputable def Uj:V->List V->Hp->VK->Prop:=fun x vs H Q=>∃ l xs y,x=.ref l/\vs=[y]/\H l=some (.lst xs)/\xs.length<sizeLine/\Q .non (upd H l (.lst (xs++[y])))
theorem Dg:eV X "list.append" Uj:=by
 intro pins s σ H x vs v us Q I rx rv h
 obtain ⟨l,xs,y,rfl,rfl,hH,hz,q⟩:=h
 cases rx
 obtain ⟨u,rfl,ru⟩:=rv.one
 obtain ⟨z,its,n,r,hl,e⟩:=I.Qh hH
 refine call_meets F.slot_list_append ⟨_,e,rfl⟩ F.entry_list_append (F.args_list_append_2 _ _) (PySem.list_append l its.toArray n u (by rw [List.size_toArray]; omega)) ⟨e,?_⟩
 refine ⟨.non,_,I.Xm (its':=its++[u]) hH e (by simp) (r.append (.cons ru .nil)) ?_,rfl,q⟩
 rw [List.length_append,List.length_singleton]
 omega
noncomputable def Ue:V->List V->Hp->VK->Prop:=fun x vs H Q=>∃ l b xs zs,x=.ref l/\vs=[.ref b]/\H l=some (.lst xs)/\H b=some (.lst zs)/\xs.length+zs.length<=sizeLine/\Q .non (upd H l (.lst (xs++zs)))
theorem Qg:eV X "list.extend" Ue:=by
 intro pins s σ H x vs v us Q I rx rv h
 obtain ⟨l,b,xs,zs,rfl,rfl,hH,hB,hz,q⟩:=h
 cases rx
 obtain ⟨u,rfl,ru⟩:=rv.one
 cases ru
 obtain ⟨z,its,n,r,hl,e⟩:=I.Qh hH
 obtain ⟨z2,its2,n2,r2,hl2,e2⟩:=I.Qh hB
 have hsz:its.toArray.size+its2.toArray.size<=sizeLine:=by rw [List.size_toArray,List.size_toArray]; omega
 have hlong:¬ (!its.toArray.isEmpty && Builtin.List.listTooLong (its.toArray.size+its2.toArray.size))=true:=by
  rw [Rg hsz,Bool.and_false]
  exact Bool.false_ne_true
 refine call_meets F.slot_list_extend ⟨_,e,rfl⟩ F.entry_list_extend (F.args_list_extend_2 _ _)
  (AutoSeq1.list_extend_list_list_0 l its.toArray n b its2.toArray n2 hlong (by rw [List.size_toArray]; omega) (by omega)) ⟨e,e2,?_⟩
 refine ⟨.non,_,I.Xm (its':=its++its2) hH e (by simp) (r.append r2) ?_,rfl,q⟩
 rw [List.length_append]
 omega
noncomputable def WR:V->List V->Hp->VK->Prop:=fun x vs H Q=>∃ l xs i k y,x=.ref l/\vs=[.int i]/\H l=some (.lst xs) /\ -(2 ^ 63)<=i/\i<2 ^ 63/\seqIndex? i xs.length=some k/\xs[k]? = some y/\Q y (upd H l (.lst (xs.eraseIdx k)))
theorem S5:eV X "list.pop" WR:=by
 intro pins s σ H x vs v us Q I rx rv h
 obtain ⟨l,xs,i,k,y,rfl,rfl,hH,h1,h2,hk,hy,q⟩:=h
 cases rx
 obtain ⟨u,rfl,ru⟩:=rv.one
 obtain ⟨t,rfl⟩:=ru
 obtain ⟨z,its,n,r,hl,e⟩:=I.Qh hH
 obtain ⟨w,hw,rw'⟩:=r.get hy
 refine call_meets F.slot_list_pop ⟨_,e,rfl⟩ F.entry_list_pop (F.args_list_pop_2 _ _)
  (MeetsSeq.list_pop_at l its.toArray n i t k w (fitsIndex_both h1 h2) (by rw [List.size_toArray,← hl]; exact hk) (by rw [← Array.getElem?_toList]; exact hw) (by rw [List.size_toArray]; omega)) ⟨e,?_⟩
 refine ⟨y,_,I.Xm (its':=its.eraseIdx k) hH e ?_ (r.eraseIdx k) ?_,rw',q⟩
 ·show its.toArray.eraseIdxIfInBounds k=(its.eraseIdx k).toArray
  rw [List.eraseIdxIfInBounds_toArray]
 ·have:=Jw xs k
  omega
noncomputable def gh:R2:=fun x y H Q=>∃ l b xs zs,x=.ref l/\y=.ref b/\H l=some (.lst xs)/\H b=some (.lst zs)/\xs.length+zs.length<=sizeLine/\∀ p,H p=none->Q (.ref p) (upd H p (.lst (xs++zs)))
theorem NP:Ft X (binaryOp .Add) gh:=by
 intro pins s σ H x y v u Q I rx ry h
 obtain ⟨l,b,xs,zs,rfl,rfl,hH,hB,hz,q⟩:=h
 cases rx
 cases ry
 obtain ⟨z,its,n,r,hl,e⟩:=I.Qh hH
 obtain ⟨z2,its2,n2,r2,hl2,e2⟩:=I.Qh hB
 refine PySem.P.add_list e e2 ?_ (by rw [List.size_toArray,List.size_toArray]; omega)
 have ea:its.toArray++its2.toArray=(its++its2).toArray:=by simp
 rw [ea]
 exact ⟨.ref _,_,I.WT (t':=s.toks) (r.append r2) (by rw [List.length_append]; omega),rfl,q _ I.fresh⟩
end
section
variable {prog:Program} {w:World} {A:Around} {E:Value->Shared->Prop} {s:Shared}
end
section
variable {X:Cx}
end
end L2
namespace Att
open PySem PySem.W PySem.Calls PyProof.Rows
theorem Ip {P:Params} {h:Heap}:∀ (ns:List Int) (vs:List Value),WellAll P h vs (ns.map WData.int)->IntsAre vs ns:=by
 intro ns
 induction ns with
 | nil =>
  intro vs w
  rw [List.map_nil] at w
  cases w
  exact .nil
 | cons n ns ih =>
  intro vs w
  rw [List.map_cons] at w
  cases w with
  | cons a b =>
   cases a
   exact .cons _ _ (ih _ b)
theorem QM {l:OpenLaw} {n:Nat} (hn:l.most=some n) {P:Params} {h:Heap} {args:List WData} {vals:List Value}
  (hpre:l.row.toRowW.claim.pre args=true) (hwl:WellAll P h vals args) :
  ∃ a vs ns,vals=[Value.ref a]/\args=[WData.list (ns.map WData.int)]/\h.get? a=some { cls:=.type "list",data:=.seq vs.toArray }/\IntsAre vs ns/\ns.length<=n:=by
 have hsh:WShape.hasAll [] args [.list .int]=true:=(pre_splitW hpre).1
 have hc:l.pre.holds [] { args:=args }=true:=(pre_splitW hpre).2
 obtain ⟨d,r,rfl,h1,h2⟩:=hasAllW_cons hsh
 obtain rfl:=hasAllW_nil h2
 obtain ⟨xs,rfl,h3⟩:=hasW_list h1
 obtain ⟨ns,rfl⟩:=items_int h3
 have hlen:ns.length<=n:=by
  unfold OpenLaw.pre at hc
  have h4:(WTm.not (.lt (.lit (.int (n:Int))) (.len (.arg 0)))).holds [] { args:=[.list (ns.map .int)] }=true:=by
   have h4:=(holds_andW hc).1
   rw [hn] at h4
   exact h4
  have h5:=condW_of h4 (w_not (w_lt w_lit (w_len_list (w_arg rfl))))
  rw [List.length_map] at h5
  refine Nat.le_of_not_lt fun q=>?_
  have q':(n:Int)<((ns.length:Nat):Int):=by omega
  first
   | (rw [decide_eq_true q'] at h5; exact absurd h5 (by decide))
   | (simp at h5; omega)
 cases hwl with
 | cons w1 w2 =>
  cases w2
  cases w1 with
  | list ho hall=>exact ⟨_,_,ns,rfl,rfl,ho,Ip ns _ hall,hlen⟩
theorem QT (l:OpenLaw) (args:List WData):l.row.toRowW.claim.post args (.bool true) args=true :=
 postW_of (r:=l.row.toRowW) (X:=(true == true))
  (show WShape.has [] (.bool true) .bool=true by first | rfl | decide | simp [WShape.has,WShape.arms,WShape.armsAll])
  (show (WTm.eq .res (.lit (.bool true))).value [] { args:=args,res:=some (.bool true),after:=args }=some (.bool (true == true)) from w_eq_bool (w_res rfl) w_lit) rfl
theorem LK {l:OpenLaw} {n:Nat} {q:Program} {loose:List Str} {XP:(Str->Option Value)->Heap->Prop} {YP:World->Heap->Prop} {d:DefRec}
  (hn:l.most=some n) (hdf:d.params.defaults=[])
  (call:∀ (w:World) (s₀ s₁:Shared) (mg mb:Str->Option Value) (fa:Addr) (o:Obj) (pm cd doc:Value) (a:Addr) (vs:List Value) (ns:List Int),
   Ground q loose [] XP w s₀ mg mb s₁.heap->YP w s₁.heap ->
   s₁.heap.get? fa=some o->o.data=.func (docDef d.name d.params d.body d.scope pm cd doc)->s₁.heap.CodeRec cd d.name->mg d.name=some (.ref fa) ->
   s₁.heap.get? a=some { cls:=.type "list",data:=.seq vs.toArray }->IntsAre vs ns->ns.length<=n->s₁.gens = #[] ->
   codeAny (model l.prog w) callerA (.call (.ref fa) ⟨[.ref a],[]⟩) (fun r s'=>r=.ok (.ret (.bool true))/\OldK s₁.heap s'.heap/\s'.os=s₁.os/\AllBare s'.gens) s₁) :
  WalkO q loose XP YP l.row.toRowW d [] (fun f vs=>PySem.call f vs):=by
 intro w s₀ s₁ mg mb G Y fa o pm cd doc dV kV ho hd hcd hD hmg hg args vals as hpre hlay hrd hwl hlo
 obtain rfl:dV=.none:=Dflts.none hD hdf
 obtain rfl:kV=.none:=Dflts.noKw hD
 obtain ⟨a,vs,ns,rfl,rfl,hobj,hints,hlen⟩:=QM hn hpre hwl
 refine enter_call (codeAny_mono (call w s₀ s₁ mg mb fa o pm cd doc a vs ns G Y ho (fd_plain hd) hcd hmg hobj hints hlen hg) fun r s' hq=>?_)
 obtain ⟨rfl,h2,h3,h4⟩:=hq
 exact ⟨.inl ⟨.bool true,.bool true,[],rfl,fun _=>rfl,.bool true,QT l _,fun _=>⟨List.Pairwise.nil,fun _ hm=>(nomatch hm)⟩⟩,h2,h3,h4⟩
section
variable {prog:Program} {w:World} {A:Around} {E:Value->Shared->Prop} {s:Shared} {K:Frag}
end
end Att
namespace L2
open PySem PySem.Spec PyProof.Rows
theorem Jz:∀ {vs:List Value} {ns:List Int},IntsAre vs ns->Vals (ns.map V.int) vs
 | _,_,.nil=>.nil
 | _,_,.cons n t h=>.cons ⟨t,rfl⟩ (Jz h)
noncomputable def Only (H:Hp):Prop:=∀ b,H b=none \/ ∃ o xs,H b=some (.frz o (.lst xs))
theorem Rz {P:Program} {w:World} {K:PySem.W.Frag} {mg mb:Str->Option Value} {CX:O5} {k:Nat} {fa a:Addr} {fd:FuncData} {x:Str} {sp:Sp} {s₁:Shared} {vs:List Value} {ns:List Int}
  (KX:K.In s₁.heap) (hns:s₁.heap.Ns mainGlobals mg) (hb:s₁.heap.Ns builtinsNs mb) (hbb:∀ x:Str,x ≠ "__name__"->mb x=bootBuiltins x) (hlim:s₁.heap.NoLimit) (hg:s₁.gens = #[])
  (ha:s₁.heap.get? a=some { cls:=.type "list",data:=.seq vs.toArray }) (hi:IntsAre vs ns) (hl:ns.length<=sizeLine) (hr:A_ k callerA)
  (F:∀ base:Heap,K.In base->base.Ns mainGlobals mg->Ao P w K mg base CX k fa fd [x] sp) (hbind:∀ (s:Shared) (u:Value),BindsTo s fd ⟨[u],[]⟩ [(x,u)])
  (hsp:∀ H:Hp,Only H->CZ K H a (ns.map V.int)->sp [.ref a] H (fun v _=>v=.bl true) fun _ _ _=>False)
  (hCX:∀ H e s',CX [] H s₁ (fun _ _ _=>False) e s'->False) :
  codeAny (model P w) callerA (.call (.ref fa) ⟨[.ref a],[]⟩) (fun r s'=>r=.ok (.ret (.bool true))/\OldK s₁.heap s'.heap/\s'.os=s₁.os/\AllBare s'.gens) s₁:=by
 have rv:=Jz hi
 have lenV:=hi.length
 have core:∀ H:Hp,Only H->CZ K H a (ns.map V.int)->Ei P w H s₁.heap->(∀ b,H b ≠ none->b=a)->(H a ≠ none->K.lookup a=none) ->
   codeAny (model P w) callerA (.call (.ref fa) ⟨[.ref a],[]⟩) (fun r s'=>r=.ok (.ret (.bool true))/\OldK s₁.heap s'.heap/\s'.os=s₁.os/\AllBare s'.gens) s₁:=by
  intro H hO hS hok hA hK
  have base_of:∀ {b:Addr} {o:Obj},s₁.heap.get? b=some o->H b=none->(Kc s₁.heap H).get? b=some o:=fun e n=>Ry e n
  have noA:∀ {b:Addr} {o:Obj} {es:Array DictEntry} {ep:Nat},s₁.heap.get? b=some o->o.data=.dict es ep->H b=none:=fun {b o es ep} e d=>by
   cases q:H b with
   | none=>rfl
   | some u =>
    have e':b=a:=hA b (by rw [q]; simp)
    subst e'
    rw [ha] at e; cases e
    have d':Data.seq vs.toArray _=Data.dict es ep:=d
    cases d'
  have nsK:∀ {b:Addr} {m:Str->Option Value},s₁.heap.Ns b m->(Kc s₁.heap H).Ns b m:=fun {b m} ⟨o,es,ep,e,d,r⟩=>⟨o,es,ep,base_of e (noA e d),d,r⟩
  have hKb:K.In (Kc s₁.heap H):=fun b o e=>base_of (KX b o e) (by
   cases q:H b with
   | none=>rfl
   | some u =>
    have e':b=a:=hA b (by rw [q]; simp)
    subst e'
    rw [hK (by rw [q]; simp)] at e; cases e)
  have hM:Mod K mg (Kc s₁.heap H):=⟨hKb,nsK hns,⟨mb,nsK hb,hbb⟩,let ⟨mc,h1,h2⟩:=hlim; ⟨mc,nsK h1,h2⟩⟩
  have e0:La P w K mg (Kc s₁.heap H) callerA [] s₁ H:=⟨rfl,hM,fun b o e=>Us e,Nat.le_of_eq (P_ _ _),trivial,fun b hb=>absurd (show b∈([]:List Addr) from hb) (by simp),hok,.of_eq hg⟩
  refine codeAny_mono ((F _ hKb (nsK hns)).run callerA [] s₁ H ⟨[.ref a],[]⟩ [.ref a] [.ref a] _ _ hr e0 (hbind s₁ (.ref a)) (.cons rfl .nil) (hsp H hO hS)) fun r s' h=>?_
  cases r with
  | error e=>exact (hCX H e s' h).elim
  | ok fl =>
   cases fl with
   | next=>exact False.elim h
   | brk=>exact False.elim h
   | cont=>exact False.elim h
   | ret u =>
    obtain ⟨v,H',os,bare,un,hok',r',q⟩:=h
    have q':v=.bl true:=q
    subst q'
    obtain rfl:u=Value.bool true:=r'
    refine ⟨rfl,OldK.of_keep fun b o e=>?_,os,bare⟩
    cases q:H b with
    | none=>exact un.keep b o e q (by intro z; exact absurd (show b∈([]:List Addr) from z) (by simp)) (by simp)
    | some u =>
     rcases hO b with z | ⟨ob,xs,z⟩
     ·rw [q] at z; cases z
     ·have z2:=un.frzs b ob _ z
      obtain ⟨e1,_⟩:=hok b _ z
      obtain ⟨e2,_⟩:=hok' b _ z2
      rw [e] at e1; cases e1
      exact e2
 cases hk:K.lookup a with
 | some o =>
  have e:=KX a o hk
  rw [ha] at e
  cases e
  refine core (fun _=>none) (fun _=>.inl rfl) (.inr ⟨_,vs.toArray,_,hk,rfl,rfl,rfl,by rw [List.size_toArray,lenV]; exact hl,by simpa using rv⟩) (fun b u z=>by have z':(none:Option HO)=some u:=z; cases z') (fun b z=>absurd rfl z) fun z=>absurd rfl z
 | none =>
  refine core (fun b=>if b=a then some (.frz { cls:=.type "list",data:=.seq vs.toArray } (.lst (ns.map V.int))) else none) (fun b=>?_) (.inl (.inr ⟨{ cls:=.type "list",data:=.seq vs.toArray },if_pos rfl⟩)) (fun b u z=>?_) (fun b z=>?_) fun _=>hk
  ·by_cases hb:b=a
   ·exact .inr ⟨_,_,if_pos hb⟩
   ·exact .inl (if_neg hb)
  ·by_cases hb:b=a
   ·have z':=(if_pos hb).symm.trans z
    cases z'
    subst hb
    exact ⟨ha,by rw [List.length_map]; exact hl,vs,_,rv,ha⟩
   ·have z':=(if_neg hb).symm.trans z
    cases z'
  ·by_cases hb:b=a
   ·exact hb
   ·exact absurd (if_neg hb) z
end L2
namespace L2
open PySem PySem.Spec PyProof.Rows
theorem Tz {l:PySem.W.OpenLaw} {n k:Nat} {q:Program} {loose:List Str} {XP:(Str->Option Value)->Heap->Prop} {YP:World->Heap->Prop} {d:DefRec} {K:Params->PySem.W.Frag} {CX:World->O5} {sp:World->Sp} {x:Str}
  (hn:l.most=some n) (hn2:n<=sizeLine) (hdf:d.params.defaults=[]) (hr:A_ k callerA)
  (hY:∀ (w:World) (h:Heap),YP w h->(K w.params).In h)
  (F:∀ (w:World) (mg:Str->Option Value) (fa:Addr) (h:Heap),(K w.params).In h->h.Ns mainGlobals mg->mg d.name=some (.ref fa) ->
   ∃ fd:FuncData,(∀ (s:Shared) (u:Value),BindsTo s fd ⟨[u],[]⟩ [(x,u)]) /\
    ∀ base:Heap,(K w.params).In base->base.Ns mainGlobals mg->Ao l.prog w (K w.params) mg base (CX w) k fa fd [x] (sp w))
  (hsp:∀ (w:World) (H:Hp) (a:Addr) (ns:List Int),ns.length<=n->Only H->CZ (K w.params) H a (ns.map V.int)->sp w [.ref a] H (fun v _=>v=.bl true) fun _ _ _=>False)
  (hCX:∀ (w:World) (H:Hp) (s:Shared) (e:Value) (s':Shared),CX w [] H s (fun _ _ _=>False) e s'->False) :
  PySem.W.WalkO q loose XP YP l.row.toRowW d [] (fun f vs=>PySem.call f vs):=by
 refine Att.LK hn hdf fun w s₀ s₁ mg mb fa o pm cd doc a vs ns G Y ho hd hcd hmg hobj hints hlen hg=>?_
 have KX:=hY w _ Y
 obtain ⟨fd,hb,hF⟩:=F w mg fa _ KX G.T.g hmg
 exact Rz KX G.T.g G.T.b G.T.builtins G.T.nolimit hg hobj hints (Nat.le_trans hlen hn2) hr hF hb (fun H hO hS=>hsp w H a ns hlen hO hS) fun H e s'=>hCX w H s₁ e s'
end L2
namespace L2
open PySem PySem.Spec PyProof.Rows
noncomputable def inClass (s:Stmt) (j:Nat):Stmt:=match s with
 | .ClassDef _ _ _ body _ _ _ _ _ _ _=>body.getD j (.Pass ⟨0,0,0,0⟩)
 | _=>.Pass ⟨0,0,0,0⟩
noncomputable def Dn (s:Stmt):Arguments:=match s with
 | .FunctionDef _ a _ _ _ _ _ _ _ _=>a
 | _=>{ posonlyargs:=[],args:=[],vararg:=none,kwonlyargs:=[],kw_defaults:=[],kwarg:=none,defaults:=[] }
noncomputable def DP (s:Stmt):List Stmt:=match s with
 | .FunctionDef _ _ b _ _ _ _ _ _ _=>b
 | _=>[]
noncomputable def Ac (s:Stmt):Scope:=match s with
 | .FunctionDef _ _ _ _ _ _ sc _ _ _=>sc
 | _=>{ kind:=.function,names:=[],isGenerator:=false,isCoroutine:=false }
noncomputable abbrev BW:O5:=fun _ _ _ _ _ _=>False
noncomputable abbrev E0:XK:=fun _ _ _=>False
theorem An {X:Cx}:Fz BW X E0:=fun _ _ _ _ _ _ _ h=>h.elim
structure Cg (K:PySem.W.Frag) (x qual:Str) (st:Stmt) (f:Addr) (fd:FuncData):Prop where
 ex:∃ (oc:Value) (od:Option Addr) (kV doc pm:Value) (an:Option Addr) (cdv ct:Value) (osl:Array (Option Value)),
  fd=PySem.W.fnOf x qual (Dn st) (DP st) (Ac st) .none kV doc pm an cdv ct/\K.lookup f=some ⟨oc,od,.func fd,osl⟩/\PySem.W.codeIn K cdv qual=true
 kp:PySem.W.keepIn K (.ref f)=true
section
variable {P:Program} {w:World} {K:PySem.W.Frag} {mg:Str->Option Value} {base:Heap}
theorem Cg.ok {x qual:Str} {st:Stmt} {f:Addr} {fd:FuncData} {N ps:List Str} {k:Nat} {sp:Sp} (F:Cg K x qual st f fd) (S:Ar N ps (Ac st)) (len:∀ vs H Q E,sp vs H Q E->vs.length=ps.length)
  (hbody:∀ (cdv:Value) (A:Around) (outer:List Env) (s:Shared) (H:Hp) (vs:List V) (Q:VK) (E:XK),A_ k (A.deeper (envOfC qual (Ac st) s.heap.objs.size f cdv))->sp vs H Q E ->
   ∃ t,Mu (Lx BW P w K mg base N qual (Ac st) f cdv A outer s H E).bu (DP st) t/\t { nx:=fun _ H'=>Q .non H',rt:=Q } (start N vs) H):Ao P w K mg base BW (k+1) f fd ps sp:=by
 obtain ⟨oc,od,kV,doc,pm,an,cdv,ct,osl,rfl,lk,hcd⟩:=F.ex
 refine Vf lk hcd S len fun A outer s H vs Q E hr hsp=>?_
 obtain ⟨t,h,q⟩:=hbody cdv A outer s H vs Q E hr hsp
 exact ⟨t,h.bu,q⟩
theorem Cg.binds {x qual:Str} {st:Stmt} {f:Addr} {fd:FuncData} {ps:List Str} (F:Cg K x qual st f fd)
  (h:∀ (kV doc pm:Value) (an:Option Addr) (cdv ct:Value) (us:List Value),us.length=ps.length->bindArgs (PySem.W.fnOf x qual (Dn st) (DP st) (Ac st) .none kV doc pm an cdv ct) ⟨us,[]⟩=pure (ps.zip us)):Binds K fd ps []:=by
 obtain ⟨oc,od,kV,doc,pm,an,cdv,ct,osl,rfl,lk,hcd⟩:=F.ex
 exact .all (h kV doc pm an cdv ct)
theorem NT {x qual:Str} {st:Stmt} {f:Addr} {oc:Value} {od an:Option Addr} {osl:Array (Option Value)} {kV doc pm cdv ct:Value} (l:K.lookup f=some ⟨oc,od,.func (PySem.W.fnOf x qual (Dn st) (DP st) (Ac st) .none kV doc pm an cdv ct),osl⟩)
  (c:PySem.W.codeIn K cdv qual=true) (k:PySem.W.keepIn K (.ref f)=true):Cg K x qual st f (PySem.W.fnOf x qual (Dn st) (DP st) (Ac st) .none kV doc pm an cdv ct):=⟨⟨oc,od,kV,doc,pm,an,cdv,ct,osl,rfl,l,c⟩,k⟩
end
theorem Jh {A:Around} {k:Nat} (hr:A_ k A):A.units+1<cLine:=Nat.lt_of_le_of_lt (Nat.add_le_add_left (by decide:1<=64) _) hr.units
theorem Ay {n:Nat} (h:n<=1000):n<sizeLine:=Nat.lt_of_le_of_lt h (by decide)
section
variable {X:Cx}
theorem pv (i:Nat) {x:Str} {pos:Pos} (hN:X.N[i]? = some x:=by rfl) (hv:iy X.env.scope x:=by first | exact Or.inl rfl | exact Or.inr (Or.inl rfl) | exact Or.inr (Or.inr rfl)) (hd:(x == ("__debug__" : Str))=false:=by decide)
  (hcd:(x == ("__classdict__" : Str))=false:=by decide):PE X (.Name x pos) (aj i):=Wk hN hv hd hcd
end
theorem Ce {A B:Prop} (h:B):if false=true then A else B:=by
 rw [if_neg Bool.false_ne_true]
 exact h
theorem Ed {A B:Prop} (h:A):if true=true then A else B:=by
 rw [if_pos rfl]
 exact h
theorem Cp {c A B:Prop} [Decidable c] (h1:c->A) (h2:¬ c->B):if c then A else B:=by
 by_cases h:c
 ·rw [if_pos h]
  exact h1 h
 ·rw [if_neg h]
  exact h2 h
theorem Vz {c A B:Prop} [Decidable c] (hc:c) (h:B):if (!decide c)=true then A else B:=by
 rw [decide_eq_true hc]
 exact Ce h
noncomputable def Al (H H':Hp):Prop:=∀ b o,H b=some o->H' b=some o
theorem Al.refl (H:Hp):Al H H:=fun _ _ h=>h
theorem Al.trans {H H1 H2:Hp} (a:Al H H1) (b:Al H1 H2):Al H H2:=fun c o h=>b c o (a c o h)
theorem Al.free {H H':Hp} (e:Al H H') {l:Addr} (h:H' l=Option.none):H l=Option.none:=by
 cases q:H l with
 | none=>rfl
 | some o =>
  rw [e l o q] at h
  cases h
theorem Al.seq {K:PySem.W.Frag} {H H':Hp} {a:Addr} {xs:List V} (e:Al H H') (h:CZ K H a xs):CZ K H' a xs:=by
 rcases h with (h | ⟨o,h⟩) | h
 ·exact .inl (.inl (e _ _ h))
 ·exact .inl (.inr ⟨o,e _ _ h⟩)
 ·exact .inr h
end L2
namespace L2
open PySem PySem.Spec PyProof.Rows
section
variable {X:Cx}
end
section
variable {κ:Type} [DecidableEq κ]
theorem Oh:∀ {l:List κ} {k:κ},l.Nodup->¬ k∈l->(l++[k]).Nodup
 | [],k,_,_=>by simp
 | a::r,k,h,hk=>by
  obtain ⟨h1,h2⟩:=List.nodup_cons.mp h
  show (a::(r++[k])).Nodup
  refine List.nodup_cons.mpr ⟨fun m=>?_,Oh h2 fun m=>hk (List.mem_cons.mpr (Or.inr m))⟩
  rcases List.mem_append.mp m with q | q
  ·exact h1 q
  ·exact hk (List.mem_cons.mpr (Or.inl (List.mem_singleton.mp q).symm))
end
end L2
namespace L2
open PySem PySem.Spec PyProof.Rows
section
variable {prog:Program} {w:World} {A:Around} {E:Value->Shared->Prop} {s:Shared}
theorem Jf {it a:Addr} {i:Nat} {items:Array Value} {x:Value} {Q:Value->Shared->Prop} (j:s.heap.IsTupleIter it a i) (ht:s.heap.IsTuple a items) (hx:items[i]? = some x)
  (q:∀ h',h'.IsTupleIter it a (i+1)->Heap.SameBut it s.heap h'->Q x { s with heap:=h' }):wpAny (model prog w) A (Builtin.SmallTypes.nextOf (.ref it)) Q E s:=by
 have j0:=j
 obtain ⟨o,e,c,d⟩:=j
 obtain ⟨oa,ea,_,n,da⟩:=ht
 unfold Builtin.SmallTypes.nextOf
 refine wpAny_bind (wpAny_callSpecial?_slot (name:=Str.ofString "__next__") j0.typeIs F.slot_tuple_iterator_next (wpAny_call_entry F.slot_tuple_iterator_next j0.typeIs F.entry_tuple_iterator_next ?_ (F.args_tuple_iterator_next_1 _)))
 refine (show wpAny _ _ (field (.ref it) 0 >>= _) _ _ s from wpAny_bind (wpAny_field e d (x:=.ref a) rfl ?_))
 refine (show wpAny _ _ (if (Value.ref a == Value.none)=true then _ else _) _ _ s from ?_)
 rw [if_neg (by exact Bool.false_ne_true)]
 refine (show wpAny _ _ (field (.ref it) 1 >>= _) _ _ s from wpAny_bind (wpAny_field e d (x:=.int i 0) rfl ?_))
 refine (show wpAny _ _ (seqItems? (.ref a) >>= _) _ _ s from wpAny_bind (wpAny_seqItems ea da ?_))
 simp only [Int.toNat_natCast,hx]
 exact wpAny_bind (wpAny_setField e d (by simp) (wpAny_pure ⟨x,rfl,wpAny_pure (q _ ⟨_,Heap.get?_update_self _ e (Obj.isFreed_of_fields (Obj.data_mapFields d _)),(Obj.cls_mapFields ..).trans c,by rw [Obj.data_mapFields d]; simp [rawInt]⟩ (Heap.SameBut.update ..))⟩))
theorem JS {it a:Addr} {i:Nat} {items:Array Value} {Q:Value->Shared->Prop} (hh:A.handled=none) (j:s.heap.IsTupleIter it a i) (ht:s.heap.IsTuple a items) (hx:items[i]? = none)
  (q:∀ h' e,Heap.ExtBut it s.heap h'->(∃ o,h'.get? e=some o/\o.cls=.type "StopIteration")->E (.ref e) { s with heap:=h' }):wpAny (model prog w) A (Builtin.SmallTypes.nextOf (.ref it)) Q E s:=by
 have j0:=j
 obtain ⟨o,e,c,d⟩:=j
 obtain ⟨oa,ea,_,n,da⟩:=ht
 unfold Builtin.SmallTypes.nextOf
 refine wpAny_bind (wpAny_callSpecial?_slot (name:=Str.ofString "__next__") j0.typeIs F.slot_tuple_iterator_next (wpAny_call_entry F.slot_tuple_iterator_next j0.typeIs F.entry_tuple_iterator_next ?_ (F.args_tuple_iterator_next_1 _)))
 refine (show wpAny _ _ (field (.ref it) 0 >>= _) _ _ s from wpAny_bind (wpAny_field e d (x:=.ref a) rfl ?_))
 refine (show wpAny _ _ (if (Value.ref a == Value.none)=true then _ else _) _ _ s from ?_)
 rw [if_neg (by exact Bool.false_ne_true)]
 refine (show wpAny _ _ (field (.ref it) 1 >>= _) _ _ s from wpAny_bind (wpAny_field e d (x:=.int i 0) rfl ?_))
 refine (show wpAny _ _ (seqItems? (.ref a) >>= _) _ _ s from wpAny_bind (wpAny_seqItems ea da ?_))
 simp only [Int.toNat_natCast,hx]
 refine wpAny_bind (wpAny_rule (wpAny_bind (wpAny_setField e d (by simp) (show wpAny _ _ (newExc (.type "StopIteration") [] >>= _) _ _ _ from wpAny_bind ?_))))
 simp only [newExc,newTuple]
 refine wpAny_bind (wpAny_newObj_type (wpAny_bind (m:=firstArgMember _ _) (wpAny_of_eq (a:=Value.none) (by first | rfl | (simp only [firstArgMember]; rfl)) (wpAny_newObj_type ?_ (by size_fits)))) (by size_fits))
 simp only [raiseNew]
 refine wpAny_bind (wpAny_handled ?_)
 first | rw [show A.in1.handled=none from hh] | rw [hh]
 exact wpAny_bind (wpAny_pure (wpAny_throw (q _ _ (((Heap.SameBut.update ..).extBut.push _).push _) ⟨_,Heap.get?_push_size _ rfl,rfl⟩)))
theorem Qa {z TI TO i1 i2 a1 a2:Addr} {k:Nat} {xs ys:Array Value} {x y a b:Value} {Q:Value->Shared->Prop} (D:ZipApart z TI TO i1 i2 a1 a2)
  (hz:IsZip s.heap z TI TO .none) (hI:IsPair s.heap TI (.ref i1) (.ref i2)) (hO:IsPair s.heap TO a b)
  (j1:s.heap.IsTupleIter i1 a1 k) (j2:s.heap.IsTupleIter i2 a2 k) (t1:s.heap.IsTuple a1 xs) (t2:s.heap.IsTuple a2 ys) (hx:xs[k]? = some x) (hy:ys[k]? = some y)
  (q:∀ h',IsZip h' z TI TO (rawInt s.heap.objs.size)->IsPair h' TO x y->h'.IsTupleIter i1 a1 (k+1)->h'.IsTupleIter i2 a2 (k+1)->IsPair h' s.heap.objs.size x y->h'.objs.size=s.heap.objs.size+1 ->
   (∀ c o,c ≠ z->c ≠ TO->c ≠ i1->c ≠ i2->s.heap.get? c=some o->h'.get? c=some o)->Q (.ref s.heap.objs.size) { s with heap:=h' }) :
  wpAny (model prog w) A (Builtin.«zip.__next__» ⟨[.ref z],[]⟩) (fun fin s'=>∃ v,fin=.done (.ret v)/\Q v s') E s:=by
 refine (show wpAny _ _ (field (.ref z) 2 >>= _) _ _ _ from wpAny_bind (wpAny_field hz rfl (x:=.bool false) rfl (show wpAny _ _ (field (.ref z) 3 >>= _) _ _ _ from wpAny_bind (wpAny_field hz rfl (x:=.ref TI) rfl (wpAny_bind (wpAny_seqItems hI rfl ?_))))))
 refine (show wpAny _ _ (Builtin.SmallTypes.ownedTupleIsFree (.ref z) >>= _) _ _ _ from wpAny_bind ?_)
 unfold Builtin.SmallTypes.ownedTupleIsFree
 refine wpAny_bind (wpAny_field hz rfl (x:=.none) rfl (wpAny_pure ?_))
 simp only [if_true]
 refine wpAny_bind (wpAny_rule (wpAny_bind (wpAny_field hz rfl (x:=.ref TO) rfl (wpAny_bind (wpAny_setField_rec hz (by simp) fun h1 z1 s1=>?_)))))
 have y1:IsZip h1 z TI TO .ellipsis:=z1
 refine wpAny_bind ?_
 simp only [List.zipIdx_cons,List.zipIdx_nil,List.forIn_cons,List.forIn_nil]
 refine wpAny_bind (wpAny_bind (wpAny_onRaise (show wpAny _ _ (Builtin.SmallTypes.nextOf (.ref i1) >>= _) _ _ _ from wpAny_bind (Jf (j1.at fun o e=>s1.extBut _ _ D.i1z e) (t1.at fun o e=>s1.extBut _ _ D.l1z e) hx fun h2 n1 s2=>wpAny_pure ?_))))
 have o2:IsPair h2 TO a b:=s2.extBut _ _ D.TOi1 (s1.extBut _ _ D.TOz hO)
 refine wpAny_bind (wpAny_seqItems o2 rfl (wpAny_bind (wpAny_updateSeq_pair o2 fun h3 p3 s3=>?_)))
 have o3:IsPair h3 TO x b:=p3
 refine wpAny_bind (wpAny_letGo (wpAny_pure ?_))
 refine wpAny_bind (wpAny_bind (wpAny_onRaise (show wpAny _ _ (Builtin.SmallTypes.nextOf (.ref i2) >>= _) _ _ _ from wpAny_bind (Jf (j2.at fun o e=>s3.extBut _ _ D.TOi2.symm (s2.extBut _ _ D.i12.symm (s1.extBut _ _ D.i2z e)))
  (t2.at fun o e=>s3.extBut _ _ D.l2TO (s2.extBut _ _ D.l2i1 (s1.extBut _ _ D.l2z e))) hy fun h4 n2 s4=>wpAny_pure ?_))))
 have o4:IsPair h4 TO x b:=s4.extBut _ _ D.TOi2 o3
 refine wpAny_bind (wpAny_seqItems o4 rfl (wpAny_bind (wpAny_updateSeq_pair o4 fun h5 p5 s5=>?_)))
 have o5:IsPair h5 TO x y:=p5
 refine wpAny_bind (wpAny_letGo (wpAny_pure (wpAny_pure (wpAny_bind (wpAny_seqItems o5 rfl (wpAny_bind (wpAny_newTuple ?_)))))))
 have zs:h5.objs.size=s.heap.objs.size:=by rw [s5.1,s4.1,s3.1,s2.1,s1.1]
 have y5:IsZip h5 z TI TO .ellipsis:=s5.extBut _ _ D.TOz.symm (s4.extBut _ _ D.i2z.symm (s3.extBut _ _ D.TOz.symm (s2.extBut _ _ D.i1z.symm y1)))
 have k5:∀ c o,c ≠ z->c ≠ TO->c ≠ i1->c ≠ i2->s.heap.get? c=some o->h5.get? c=some o:=fun c o c1 c2 c3 c4 e=>s5.extBut _ _ c2 (s4.extBut _ _ c4 (s3.extBut _ _ c2 (s2.extBut _ _ c3 (s1.extBut _ _ c1 e))))
 have m1:h5.IsTupleIter i1 a1 (k+1):=n1.at fun o e=>s5.extBut _ _ D.TOi1.symm (s4.extBut _ _ D.i12 (s3.extBut _ _ D.TOi1.symm e))
 have m2:h5.IsTupleIter i2 a2 (k+1):=n2.at fun o e=>s5.extBut _ _ D.TOi2.symm e
 have lz:z<h5.objs.size:=Heap.lt_size y5
 refine (show wpAny _ _ (Builtin.SmallTypes.ownedTupleHandOut (.ref z) (.ref h5.objs.size) >>= _) _ _ _ from wpAny_bind ?_)
 unfold Builtin.SmallTypes.ownedTupleHandOut
 have y6:IsZip (h5.push { cls:=.type "tuple",data:=.seq #[x,y] }) z TI TO .ellipsis:=Heap.get?_push_of_some _ y5
 refine wpAny_bind (wpAny_setField_rec y6 (by simp) fun h7 p7 s7=>?_)
 have y7:IsZip h7 z TI TO (rawInt h5.objs.size):=p7
 refine wpAny_setField_rec y7 (by simp) fun h8 p8 s8=>?_
 have y8:IsZip h8 z TI TO (rawInt h5.objs.size):=p8
 have up:∀ c o,c ≠ z->h5.get? c=some o->h8.get? c=some o:=fun c o c1 e=>s8.extBut _ _ c1 (s7.extBut _ _ c1 (Heap.get?_push_of_some _ e))
 have t8:IsPair h8 h5.objs.size x y:=s8.extBut _ _ (Nat.ne_of_gt lz) (s7.extBut _ _ (Nat.ne_of_gt lz) (Heap.get?_push_size _ rfl))
 have z8:h8.objs.size=h5.objs.size+1:=by rw [s8.1,s7.1,Heap.size_push]
 rw [zs] at y8 t8 z8
 refine wpAny_pure ⟨_,rfl,?_⟩
 show Q (.ref h5.objs.size) _
 rw [zs]
 exact q h8 y8 (up _ _ D.TOz o5) (m1.at fun o e=>up _ o D.i1z e) (m2.at fun o e=>up _ o D.i2z e) t8 z8 fun c o c1 c2 c3 c4 e=>up c o c1 (k5 c o c1 c2 c3 c4 e)
theorem Rh {z TI TO i1 i2 a1 a2:Addr} {k:Nat} {xs:Array Value} {a b:Value} {Q:Fin->Shared->Prop} (hh:A.handled=none) (D:ZipApart z TI TO i1 i2 a1 a2)
  (hz:IsZip s.heap z TI TO .none) (hI:IsPair s.heap TI (.ref i1) (.ref i2)) (hO:IsPair s.heap TO a b)
  (j1:s.heap.IsTupleIter i1 a1 k) (t1:s.heap.IsTuple a1 xs) (hx:xs[k]? = none)
  (q:∀ h' e,(∀ c o,c ≠ z->c ≠ TO->c ≠ i1->c ≠ i2->s.heap.get? c=some o->h'.get? c=some o)->(∃ o,h'.get? e=some o/\o.cls=.type "StopIteration")->E (.ref e) { s with heap:=h' }) :
  wpAny (model prog w) A (Builtin.«zip.__next__» ⟨[.ref z],[]⟩) Q E s:=by
 refine (show wpAny _ _ (field (.ref z) 2 >>= _) _ _ _ from wpAny_bind (wpAny_field hz rfl (x:=.bool false) rfl (show wpAny _ _ (field (.ref z) 3 >>= _) _ _ _ from wpAny_bind (wpAny_field hz rfl (x:=.ref TI) rfl (wpAny_bind (wpAny_seqItems hI rfl ?_))))))
 refine (show wpAny _ _ (Builtin.SmallTypes.ownedTupleIsFree (.ref z) >>= _) _ _ _ from wpAny_bind ?_)
 unfold Builtin.SmallTypes.ownedTupleIsFree
 refine wpAny_bind (wpAny_field hz rfl (x:=.none) rfl (wpAny_pure ?_))
 simp only [if_true]
 refine wpAny_bind (wpAny_rule (wpAny_bind (wpAny_field hz rfl (x:=.ref TO) rfl (wpAny_bind (wpAny_setField_rec hz (by simp) fun h1 z1 s1=>?_)))))
 have y1:IsZip h1 z TI TO .ellipsis:=z1
 refine wpAny_bind ?_
 simp only [List.zipIdx_cons,List.zipIdx_nil,List.forIn_cons,List.forIn_nil]
 refine wpAny_bind (wpAny_bind (wpAny_onRaise (show wpAny _ _ (Builtin.SmallTypes.nextOf (.ref i1) >>= _) _ _ _ from wpAny_bind (JS hh (j1.at fun o e=>s1.extBut _ _ D.i1z e) (t1.at fun o e=>s1.extBut _ _ D.l1z e) hx fun h2 x s2 hx2=>?_))))
 obtain ⟨ox,ex,cx⟩:=hx2
 have y2:IsZip h2 z TI TO .ellipsis:=s2 _ _ D.i1z.symm y1
 have nz:x ≠ z:=fun u=>by subst u; rw [y2] at ex; cases ex; simp at cx
 exact wpAny_setField_rec y2 (by simp) fun h3 _ s3=>q h3 x (fun c o c1 _ c3 _ e=>s3.extBut _ _ c1 (s2 _ _ c3 (s1.extBut _ _ c1 e))) ⟨ox,s3.extBut _ _ nz ex,cx⟩
end
noncomputable abbrev dC (h:Heap) (a1:Addr):Heap:=h.push { cls:=.type "tuple_iterator",data:=.fields #[.ref a1,.int 0 0] }
noncomputable abbrev cJ (h:Heap) (a1 a2:Addr):Heap:=(dC h a1).push { cls:=.type "tuple_iterator",data:=.fields #[.ref a2,.int 0 0] }
noncomputable abbrev cB (h:Heap) (a1 a2:Addr):Heap:=(cJ h a1 a2).push { cls:=.type "tuple",data:=.seq #[.ref h.objs.size,.ref (dC h a1).objs.size] }
noncomputable abbrev cA (h:Heap) (a1 a2:Addr):Heap:=(cB h a1 a2).push { cls:=.type "tuple",data:=.seq #[.none,.none] }
noncomputable abbrev Wy (h:Heap) (a1 a2:Addr):Heap:=(cA h a1 a2).push { cls:=.type "zip",data:=.fields #[.none,.bool false,.bool false,.ref (cJ h a1 a2).objs.size,.ref (cB h a1 a2).objs.size] }
theorem SQ (a1 a2:Addr) (xs ys:Array Value):Meets (Builtin.«zip.__new__» ⟨[.type "zip",.ref a1,.ref a2],[]⟩) (fun _ R s=>s.heap.IsTuple a1 xs/\s.heap.IsTuple a2 ys /\
   R (.ok (.ret (.ref (cA s.heap a1 a2).objs.size))) { s with heap:=Wy s.heap a1 a2 }) :=
 .of_wp fun prog w A R s h=>by
  obtain ⟨hp,g,d,tk,os⟩:=s
  obtain ⟨t1,t2,h⟩:=h
  have hsub:=sub_zip
  have u1:Heap.IsTuple (Shared.heap ⟨hp,g,d,tk,os⟩) a1 xs:=t1
  have u2:Heap.IsTuple (Shared.heap ⟨hp.push { cls:=.type "tuple_iterator",data:=.fields #[.ref a1,.int 0 0] },g,d,tk,os⟩) a2 ys:=Heap.IsTuple.at t2 fun o e=>Heap.get?_push_of_some _ e
  wp_walk using wpAny_pyIter_tuple u1,wpAny_pyIter_tuple u2
  exact ⟨_,rfl,h⟩
section
variable {prog:Program} {w:World} {A:Around} {E:Value->Shared->Prop} {s:Shared}
theorem QX {a1 a2:Addr} {xs ys:Array Value} {Q:Value->Shared->Prop} (t1:s.heap.IsTuple a1 xs) (t2:s.heap.IsTuple a2 ys)
  (q:∀ h' n,n=s.heap.objs.size->IsZip h' (n+4) (n+2) (n+3) .none->IsPair h' (n+2) (.ref n) (.ref (n+1))->IsPair h' (n+3) .none .none->h'.IsTupleIter n a1 0->h'.IsTupleIter (n+1) a2 0->h'.objs.size=n+5 ->
   (∀ c o,s.heap.get? c=some o->h'.get? c=some o)->Q (.ref (n+4)) { s with heap:=h' }):wpAny (model prog w) A (call (.type "zip") [.ref a1,.ref a2]) Q E s:=by
 refine callType_new F.called_zip (by decide) (F.typeCall_zip_2 _ _) (F.newCall_zip_2 _ _) (fun obj=>F.args_object_init_3 obj _ _) F.entry_zip_new (SQ a1 a2 xs ys) ⟨t1,t2,?_⟩
 have z1:(dC s.heap a1).objs.size=s.heap.objs.size+1:=Heap.size_push ..
 have z2:(cJ s.heap a1 a2).objs.size=s.heap.objs.size+2:=by rw [Heap.size_push,z1]
 have z3:(cB s.heap a1 a2).objs.size=s.heap.objs.size+3:=by rw [Heap.size_push,z2]
 have z4:(cA s.heap a1 a2).objs.size=s.heap.objs.size+4:=by rw [Heap.size_push,z3]
 have z5:(Wy s.heap a1 a2).objs.size=s.heap.objs.size+5:=by rw [Heap.size_push,z4]
 have g5:(Wy s.heap a1 a2).get? (cA s.heap a1 a2).objs.size=some _:=Heap.get?_push_size _ rfl
 have g4:(Wy s.heap a1 a2).get? (cB s.heap a1 a2).objs.size=some _:=Heap.get?_push_of_some _ (Heap.get?_push_size _ rfl)
 have g3:(Wy s.heap a1 a2).get? (cJ s.heap a1 a2).objs.size=some _:=Heap.get?_push_of_some _ (Heap.get?_push_of_some _ (Heap.get?_push_size _ rfl))
 have g2:(Wy s.heap a1 a2).get? (dC s.heap a1).objs.size=some _:=Heap.get?_push_of_some _ (Heap.get?_push_of_some _ (Heap.get?_push_of_some _ (Heap.get?_push_size _ rfl)))
 have g1:(Wy s.heap a1 a2).get? s.heap.objs.size=some _:=Heap.get?_push_of_some _ (Heap.get?_push_of_some _ (Heap.get?_push_of_some _ (Heap.get?_push_of_some _ (Heap.get?_push_size _ rfl))))
 refine (show _/\_ from ?_)
 rw [z2,z3,z4] at g5
 rw [z1,z2] at g3
 rw [z3] at g4
 rw [z1] at g2
 rw [z4]
 exact ⟨⟨_,g5,rfl⟩,q _ _ rfl g5 g3 g4 ⟨_,g1,rfl,rfl⟩ ⟨_,g2,rfl,rfl⟩ z5 fun c o e=>Heap.get?_push_of_some _ (Heap.get?_push_of_some _ (Heap.get?_push_of_some _ (Heap.get?_push_of_some _ (Heap.get?_push_of_some _ e))))⟩
end
end L2
namespace L2
open PySem PySem.Spec PyProof.Rows
noncomputable def Cj (env:Env):List (Str × NameKind)->List (Str × Addr)->List (Str × Addr)
 | [],acc=>acc
 | (n,k)::r,acc=>if k == .free then (match env.cells.lookup n with | some a=>Cj env r ((n,a)::acc) | none=>Cj env r acc) else Cj env r acc
theorem Fj {scope:Scope} {env:Env} (h:∀ y∈scope.names,y.2=.free->∃ c,env.cells.lookup y.1=some c):closureFor scope env=pure (Cj env scope.names []):=by
 unfold closureFor
 have key:∀ (l:List (Str × NameKind)) (acc:List (Str × Addr)),(∀ y∈l,y.2=.free->∃ c,env.cells.lookup y.1=some c) ->
   (forIn l acc fun (x:Str × NameKind) (cs:List (Str × Addr))=>(match x with | (name,kind)=>if (kind == NameKind.free)=true then (do let a ← cellOf env name; pure (ForInStep.yield ((name,a)::cs))) else pure (ForInStep.yield cs):Sem (ForInStep (List (Str × Addr)))))=(pure (Cj env l acc):Sem _):=by
  intro l
  induction l with
  | nil=>intro acc _; rfl
  | cons x r ih =>
   intro acc hl
   obtain ⟨n,k⟩:=x
   rw [List.forIn_cons]
   unfold Cj
   by_cases hk:(k == NameKind.free)=true
   ·obtain ⟨c,hc⟩:=hl (n,k) List.mem_cons_self (by simpa using hk)
    have hc':env.cells.lookup n=some c:=hc
    have e:cellOf env n=pure c:=by unfold cellOf; rw [hc']
    simp only [hk,if_true,e,hc']
    exact ih _ fun y hy=>hl y (List.mem_cons_of_mem _ hy)
   ·simp only [hk]
    exact ih _ fun y hy=>hl y (List.mem_cons_of_mem _ hy)
 have:=key scope.names [] h
 exact (congrArg (fun (m:Sem (List (Str × Addr)))=>m >>= fun z=>pure z) this).trans rfl
theorem Ez (env:Env):∀ (l:List (Str × NameKind)) (acc:List (Str × Addr)) (y:Str) (c:Addr),(Cj env l acc).lookup y=some c->acc.lookup y=some c \/ env.cells.lookup y=some c
 | [],_,_,_,h=>.inl h
 | (n,k)::r,acc,y,c,h=>by
  unfold Cj at h
  split at h
  ·split at h
   ·rename_i a ha
    rcases Ez env r _ y c h with z | z
    ·rw [List.lookup_cons] at z
     split at z
     ·rename_i e
      cases z
      have e':y=n:=by simpa using e
      subst e'
      exact .inr ha
     ·exact .inl z
    ·exact .inr z
   ·exact Ez env r _ y c h
  ·exact Ez env r _ y c h
theorem Gi (env:Env):∀ (l:List (Str × NameKind)) (acc:List (Str × Addr)) (y:Str),(acc.lookup y).isSome=true->((Cj env l acc).lookup y).isSome=true
 | [],_,_,h=>h
 | (n,k)::r,acc,y,h=>by
  unfold Cj
  split
  ·split
   ·refine Gi env r _ y ?_
    rw [List.lookup_cons]
    split
    ·rfl
    ·exact h
   ·exact Gi env r _ y h
  ·exact Gi env r _ y h
theorem Ds (env:Env):∀ (l:List (Str × NameKind)) (acc:List (Str × Addr)) (y:Str),(y,NameKind.free)∈l->(env.cells.lookup y).isSome=true->((Cj env l acc).lookup y).isSome=true
 | [],_,_,h,_=>nomatch h
 | (n,k)::r,acc,y,h,hc=>by
  unfold Cj
  rcases List.mem_cons.mp h with e | h
  ·obtain ⟨e1,e2⟩:=Prod.mk.inj e
   subst e1
   subst e2
   rw [if_pos (by decide)]
   split
   ·refine Gi env r _ y ?_
    rw [List.lookup_cons]
    simp
   ·rename_i e
    rw [e] at hc
    cases hc
  ·split
   ·split
    ·exact Ds env r _ y h hc
    ·exact Ds env r _ y h hc
   ·exact Ds env r _ y h hc
end L2
namespace L2
open PySem PySem.Spec PyProof.Rows
noncomputable def Gz (x:Str) (N:List Str):List Str:=N.map fun y=>if y=x then "" else y
noncomputable def By (X:Cx) (x:Str) (scope:Scope) (C:Addr) (s₀:Shared) (H₀:Hp) (fp:List Addr):Cx where
 prog:=X.prog
 w:=X.w
 K:=X.K
 mg:=X.mg
 base:=X.base
 A:=X.A
 N:=x::Gz x X.N
 s₀:=s₀
 H₀:=H₀
 env:=compEnvC scope (Cj X.env scope.names []) C X.env
 outer:=X.stack
 stack:=X.stack
 ex:=fp
 fn:=fun _=>false
 calm:=X.calm
 pn:=[]
 xe:=fun _ _=>False
theorem En (env:Env) (y:Str):∀ names:List (Str × NameKind),
  (names.map fun (n,k)=>if (k == NameKind.free && env.scope.kind == .function && env.kindOf n == some .cell) then (n,NameKind.cell) else (n,k)).lookup y =
   (names.lookup y).map fun k=>if (k == NameKind.free && env.scope.kind == .function && env.kindOf y == some .cell) then NameKind.cell else k
 | []=>rfl
 | (n,k)::r=>by
  have ih:=En env y r
  rw [List.map_cons]
  show List.lookup y ((if (k == NameKind.free && env.scope.kind == .function && env.kindOf n == some .cell)=true then (n,NameKind.cell) else (n,k))::_)=_
  have e0:(if (k == NameKind.free && env.scope.kind == .function && env.kindOf n == some .cell)=true then (n,NameKind.cell) else (n,k))=(n,if (k == NameKind.free && env.scope.kind == .function && env.kindOf n == some .cell)=true then NameKind.cell else k):=by split <;> rfl
  rw [e0,List.lookup_cons,List.lookup_cons]
  cases hx:y == n with
  | true =>
   have e:y=n:=by simpa using hx
   subst e
   rfl
  | false=>exact ih
structure FJ (X:Cx) (x:Str) (scope:Scope):Prop where
 kind:scope.kind=.function
 nocell:∀ y∈scope.names,y.2 ≠ .cell
 names:∀ y∈scope.names,y.2=.local->scope.names.lookup y.1=some .local
 loc:scope.names.lookup x=some .local
 free:∀ y∈scope.names,y.2=.free->X.env.kindOf y.1=some .cell \/ X.env.kindOf y.1=some .free
 nd:(x::Gz x X.N).Nodup
 only:∀ y∈Gz x X.N,scope.names.lookup y ≠ some .local
 noE:scope.names.lookup ("" : Str)=none
section
variable {X:Cx} {pins:List (Addr × Obj)} {σ:St} {H:Hp} {s:Shared} {x:Str} {scope:Scope} {fp:List Addr} {C:Addr}
theorem M8 {h':Heap} {tk:Nat} {m:Str->Option Value} (I:Inv X pins σ H s) (S:FJ X x scope) (hf:∀ b∈fp,Fd X pins H b) (hlt:∀ b∈fp,b<s.heap.objs.size) (hC:s.heap.objs.size<=C) (hn:h'.Ns C m)
  (hk:∀ b o,s.heap.get? b=some o->h'.get? b=some o):Inv (By X x scope C s H fp) [] (none::σ) H { s with heap:=h',toks:=tk }:=by
 have cl:∀ y c,(Cj X.env scope.names []).lookup y=some c->X.env.cells.lookup y=some c:=fun y c e=>by
  rcases Ez X.env scope.names [] y c e with z | z
  ·cases z
  ·exact z
 have cellK:∀ c v,s.heap.IsCell c v->h'.IsCell c v:=fun c v ⟨o,ho,hd⟩=>⟨o,hk c o ho,hd⟩
 have look:∀ y,(By X x scope C s H fp).env.scope.names.lookup y=(scope.names.lookup y).map fun k=>if (k == NameKind.free && X.env.scope.kind == .function && X.env.kindOf y == some .cell) then NameKind.cell else k:=fun y=>En X.env y scope.names
 refine ⟨⟨I.ok.mod,S.kind,I.ok.glob,I.ok.blt,hC,fun y z c e1 e2=>I.ok.inj y z c (cl y c e1) (cl z c e2),fun y hy=>?_,fun y c e _=>(by cases e),fun h=>I.ok.hd h,I.ok.frames,.inl rfl,fun b hb=>?_,I.bs,Nat.le_trans I.ok.bsz I.sz,fun b o e hb=>?_,fun b hb hb'=>?_,I.stack,I.HQ⟩,
  rfl,I.bare,Un.kept hk,⟨m,hn,fun i y v h1 h2 h3=>?_⟩,fun y c e=>?_,I.hok.fresh hC,fun y c e=>I.freeC y c (cl y c e),fun p hp=>absurd (show p∈([]:List (Addr × Obj)) from hp) (by simp),I.hok.kept hk,?_⟩
 ·-- every cell of the block is there
  have hy':(By X x scope C s H fp).env.scope.names.lookup y=some .cell \/ (By X x scope C s H fp).env.scope.names.lookup y=some .free:=hy
  rw [look y] at hy'
  cases e:scope.names.lookup y with
  | none=>rw [e] at hy'; rcases hy' with z | z <;> cases z
  | some k =>
   have hm:=PySem.mem_of_lookup e
   have hfree:k=.free:=by
    rw [e] at hy'
    cases k with
    | free=>rfl
    | cell=>exact absurd rfl (S.nocell _ hm)
    | _=>rcases hy' with z | z <;> simp at z
   subst hfree
   obtain ⟨c,hc⟩:=I.ok.has y (S.free _ hm rfl)
   exact Option.isSome_iff_exists.mp (Ds X.env scope.names [] y hm (by rw [hc]; rfl))
 ·obtain ⟨f0,f1,f2,f3,f4,f5⟩:=hf b hb
  exact ⟨Nat.ne_of_lt (Nat.lt_of_lt_of_le (hlt b hb) hC),fun y c e=>f4 y c (cl y c e)⟩
 ·obtain ⟨f0,f1,f2,f3,f4,f5⟩:=hf b hb
  rcases f3 with z | z
  ·exact I.ok.noex b o e z
  ·exact absurd (Nat.lt_of_lt_of_le (Heap.lt_size e) (Nat.le_trans I.ok.bsz z)) (Nat.lt_irrefl _)
 ·obtain ⟨f0,f1,f2,f3,f4,f5⟩:=hf b hb
  rcases List.mem_cons.mp (I.Ko b hb') with e | e
  ·exact f1 e
  ·exact f2 e
 ·cases i with
  | zero =>
   have h2':(some none:Option (Option V))=some (some v):=h2
   cases h2'
  | succ i =>
   have h1':(Gz x X.N)[i]? = some y:=h1
   have h2':σ[i]? = some (some v):=h2
   have hmem:y∈Gz x X.N:=List.mem_of_getElem? h1'
   unfold Gz at h1'
   rw [List.getElem?_map] at h1'
   cases e0:X.N[i]? with
   | none=>rw [e0] at h1'; cases h1'
   | some y0 =>
    rw [e0] at h1'
    have h1'':(if y0=x then ("" : Str) else y0)=y:=Option.some.inj h1'
    have h3':(By X x scope C s H fp).env.scope.names.lookup y=some .local \/ (By X x scope C s H fp).env.scope.names.lookup y=some .cell \/ (By X x scope C s H fp).env.scope.names.lookup y=some .free:=h3
    rw [look y] at h3'
    have hy0:y0=y:=by
     by_cases q:y0=x
     ·rw [if_pos q] at h1''
      rw [← h1'',S.noE] at h3'
      rcases h3' with z | z | z <;> cases z
     ·rw [if_neg q] at h1''
      exact h1''
    subst hy0
    cases e:scope.names.lookup y0 with
    | none=>rw [e] at h3'; rcases h3' with z | z | z <;> cases z
    | some k =>
     have hm:=PySem.mem_of_lookup e
     have hfree:k=.free:=by
      rw [e] at h3'
      cases k with
      | free=>rfl
      | cell=>exact absurd rfl (S.nocell _ hm)
      | «local»=>exact absurd e (S.only y0 hmem)
      | _=>rcases h3' with z | z | z <;> simp at z
     subst hfree
     have kd:=S.free _ hm rfl
     obtain ⟨m0,hn0,hl0⟩:=I.loc
     obtain ⟨u,r,l⟩:=hl0 i y0 v e0 h2' (by rcases kd with z | z; exact .inr (.inl z); exact .inr (.inr z))
     refine ⟨u,r,.inr ⟨?_,?_⟩⟩
     ·have hk':(By X x scope C s H fp).env.scope.names.lookup y0=some (if (NameKind.free == NameKind.free && X.env.scope.kind == .function && X.env.kindOf y0 == some .cell) then NameKind.cell else NameKind.free):=by
       rw [look y0,e]; rfl
      by_cases c:(NameKind.free == NameKind.free && X.env.scope.kind == .function && X.env.kindOf y0 == some .cell)=true
      ·rw [if_pos c] at hk'; exact .inl hk'
      ·rw [if_neg c] at hk'; exact .inr hk'
     ·rcases l with ⟨lk,_⟩ | ⟨_,c,hc,hcell⟩
      ·exfalso
       rcases kd with z | z <;> (rw [show X.env.kindOf y0=some NameKind.local from lk] at z; cases z)
      ·obtain ⟨c',hc'⟩:=Option.isSome_iff_exists.mp (Ds X.env scope.names [] y0 hm (by rw [hc]; rfl))
       have:=cl y0 c' hc'
       rw [hc] at this
       cases this
       exact ⟨c,hc',cellK c _ hcell⟩
 ·obtain ⟨v,z⟩:=I.cell y c (cl y c e)
  exact ⟨v,cellK c v z⟩
 ·show (none::σ).length=(x::Gz x X.N).length
  simp [Gz,I.len]
end
noncomputable def Ke (X:Cx) (ifs:List Expr) (t:TT):Prop :=
 ∀ (pins:List (Addr × Obj)) (s:Shared) (σ:St) (H:Hp) (Q:Bool->Hp->Prop),Inv X pins σ H s->t σ H Q ->
  wpAny (model X.prog X.w) X.A (forIn ifs true fun c r=>if r=true then do let ok ← isTrue c X.env (eval c X.env); pure (ForInStep.yield ok) else pure (ForInStep.yield r)) (TP X pins σ Q) X.xe s
noncomputable def T4:TT:=fun _ H Q=>Q true H
theorem Bu {X:Cx}:Ke X [] T4:=fun _ _ _ H _ I h=>wpAny_tests_nil ⟨H,I,h⟩
theorem Eu {X:Cx} {c:Expr} {t:TT} (h:PT X c t):Ke X [c] t:=fun pins s σ H Q I q=>wpAny_tests_one (h pins s σ H Q I q)
noncomputable def GF (J:It) (σ:St) (H1:Hp) (Q:VK) (tt:TT) (te:TE):Prop:=∀ D,H1 D=none->∃ W:Nat->Nat->List V->Hp->Prop,(∃ m,W 0 m [] (upd H1 D (.lst [])))/\∀ i m ys H2,W i m ys H2 ->
 (J.stop i H2/\Q (.ref D) H2) \/ (J.go i H2/\∀ x H3,J.yld i H2 x H3->tt (some x::σ) H3 fun b H4 =>
  if b=true then te (some x::σ) H4 fun y H5=>H5 D=some (.lst ys)/\ys.length<sizeLine/\∃ m',m'<m/\W (i+1) m' (ys++[y]) (upd H5 D (.lst (ys++[y])))
  else ∃ m',m'<m/\W (i+1) m' ys H4)
noncomputable def Vq (wi:TI) (tt:TT) (te:TE):TE:=fun σ H Q=>wi σ H fun J H1=>GF J σ H1 Q tt te
theorem Mm {α:Type} {t:Sem α} {Q Q':α->Shared->Prop} {M:Model} {A:Around} {E:Value->Shared->Prop} {s:Shared} (h:wpAny M A t Q (fun _ _=>False) s) (hQ:∀ a s,Q a s->Q' a s):wpAny M A t Q' E s:=wpAny_mono h hQ fun _ _ x=>x.elim
theorem Inv.sameBut {X:Cx} {pins:List (Addr × Obj)} {σ:St} {H:Hp} {s:Shared} {h':Heap} {C:Addr} (I:Inv X pins σ H s) (f:Fd X pins H C) (sb:Heap.SameBut C s.heap h'):Inv X pins σ H { s with heap:=h' } :=
 I.turned (t':=s.toks) (fun b o hb e=>(sb.2 b hb).trans e) f.1 f.2.1 f.2.2.2.1 f.2.2.2.2.1 f.2.2.2.2.2
section
variable {X:Cx} {x:Str} {scope:Scope}
theorem Jm {px pos:Pos} {iter elt:Expr} {ifs:List Expr} {tt:TT} {te:TE} {pins:List (Addr × Obj)} {σ:St} {s2:Shared} {H2:Hp} {it:Addr} {fp:List Addr} {tn:Nat->Heap->Prop} {J:It} {E:Value->Shared->Prop}
  {RR:Value->Addr->Result->Shared->Prop} {Q:VK}
  (hc:X.calm=true) (S:FJ X x scope) (ht:∀ C s₀ H₀ fp,Ke (By X x scope C s₀ H₀ fp) ifs tt) (he:∀ C s₀ H₀ fp,PE (By X x scope C s₀ H₀ fp) elt te)
  (I2:Inv X pins σ H2 s2) (T:Turn X.prog X.w X.K (.Name x px) J fp it tn) (st2:tn 0 s2.heap) (f2:∀ b∈fp,Fd X pins H2 b)
  (q:∀ D,H2 D=none->∃ W:Nat->Nat->List V->Hp->Prop,(∃ m,W 0 m [] (upd H2 D (.lst [])))/\∀ i m ys H2,W i m ys H2 ->
   (J.stop i H2/\Q (.ref D) H2) \/ (J.go i H2/\∀ x H3,J.yld i H2 x H3->tt (some x::σ) H3 fun b H4 =>
    if b=true then te (some x::σ) H4 fun y H5=>H5 D=some (.lst ys)/\ys.length<sizeLine/\∃ m',m'<m/\W (i+1) m' (ys++[y]) (upd H5 D (.lst (ys++[y])))
    else ∃ m',m'<m/\W (i+1) m' ys H4))
  (hRR:∀ D C s' H' m,s'.heap.Ns C m->Fd X pins H' C->Inv X pins σ H' s'->Q (.ref D) H'->RR (.ref D) C (.ok .next) s') :
  wpAny (model X.prog X.w) X.A (newList []) (fun acc s₃=>wpAny (model X.prog X.w) X.A (newFunctionEnv scope X.env.globals (Cj X.env scope.names []) [] X.env.qual none .none (some X.env)) (fun cenv s₄ =>
   codeAny (model X.prog X.w) X.A (.compStart (.ListComp elt [⟨.Name x px,iter,ifs,0⟩] scope pos) 0 (.ref it) acc { cenv with scope:=relabel scope X.env }) (RR acc cenv.locals) s₄) E s₃) E s2:=by
 refine wpAny_newObj_type (wpAny_newFunctionEnv S.nocell (by intro y hy; simp at hy) (fun h₁ hns₁ hsb₁=>?_) S.kind)
 have I3:=I2.WT (its:=[]) (ys:=[]) (t':=s2.toks) .nil (Nat.zero_le _)
 have hD0:H2 s2.heap.objs.size=none:=I2.fresh
 obtain ⟨W,⟨m0,w0⟩,turn⟩:=q _ hD0
 generalize hs3:({ s2 with heap:=s2.heap.push { cls:=.type "list",data:=.seq ([]:List Value).toArray },toks:=s2.toks }:Shared)=s3 at I3
 have e3:s3.heap=s2.heap.push { cls:=.type "list",data:=.seq ([]:List Value).toArray }:=by rw [← hs3]
 have hlt:∀ b∈fp,b<s2.heap.objs.size:=fun b hb=>let ⟨_,e,_⟩:=T.obj _ _ st2 b hb; Heap.lt_size e
 have hlt3:∀ b∈fp,b<s3.heap.objs.size:=fun b hb=>by rw [e3,Heap.size_push]; exact Nat.lt_succ_of_lt (hlt b hb)
 have f3:∀ b∈fp,Fd X pins (upd H2 s2.heap.objs.size (.lst [])) b:=fun b hb=>⟨by rw [Ax (Nat.ne_of_lt (hlt b hb))]; exact (f2 b hb).1,(f2 b hb).2⟩
 have hk1:∀ b o,s3.heap.get? b=some o->h₁.get? b=some o:=fun b o e=>by
  have hne:b ≠ s3.heap.objs.size:=Nat.ne_of_lt (Heap.lt_size e)
  rw [e3] at e hne
  exact hsb₁.extBut b o hne (Heap.get?_push_of_some _ e)
 have hC:s3.heap.objs.size=(s2.heap.push { cls:=.type "list",data:=.seq ([]:List Value).toArray }).objs.size:=by rw [e3]
 have hns:h₁.Ns s3.heap.objs.size (fun x=>([]:List (Str × Value)).reverse.lookup x):=by rw [hC]; exact hns₁
 have st3:tn 0 h₁:=T.keep _ _ _ st2 fun b hb o e=>hk1 b o (by rw [e3]; exact Heap.get?_push_of_some _ e)
 have hDC:s2.heap.objs.size ≠ s3.heap.objs.size:=by rw [e3,Heap.size_push]; exact Nat.ne_of_lt (Nat.lt_succ_self _)
 have start:∀ tk,Inv (By X x scope s3.heap.objs.size s3 (upd H2 s2.heap.objs.size (.lst [])) fp) [] (none::σ) (upd H2 s2.heap.objs.size (.lst [])) { s3 with heap:=h₁,toks:=tk }:=fun tk =>
  M8 I3 S f3 hlt3 (Nat.le_refl _) hns hk1
 generalize hX:By X x scope s3.heap.objs.size s3 (upd H2 s2.heap.objs.size (.lst [])) fp=X' at start
 have eA:X'.A=X.A:=by rw [← hX]; rfl
 have eP:X'.prog=X.prog:=by rw [← hX]; rfl
 have eW:X'.w=X.w:=by rw [← hX]; rfl
 have eK:X'.K=X.K:=by rw [← hX]; rfl
 have eC:X'.env.locals=s3.heap.objs.size:=by rw [← hX]; rfl
 have loop:∀ tk,codeAny (model X.prog X.w) X.A (.compLoop (.ListComp elt [⟨.Name x px,iter,ifs,0⟩] scope pos) 0 (.ref it) (.ref s2.heap.objs.size) (compEnvC scope (Cj X.env scope.names []) s3.heap.objs.size X.env))
   (RR (.ref s2.heap.objs.size) s3.heap.objs.size) { s3 with heap:=h₁,toks:=tk }:=by
  intro tk
  subst hX
  refine codeAny_compLoop_tests (fun n s'=>∃ i ys v0 H',Inv (By X x scope s3.heap.objs.size s3 (upd H2 s2.heap.objs.size (.lst [])) fp) [] (v0::σ) H' s'/\tn i s'.heap/\(∀ b∈fp,H' b=none)/\W i n ys H') ?_ m0
   ⟨0,[],none,_,start tk,st3,fun b hb=>(f3 b hb).1,w0⟩
  rintro n s4 ⟨i,ys,v0,H4,I4,st4,fr4,w4⟩
  have stat:∀ {H':Hp},(∀ b∈fp,H' b=none)->∀ b∈fp,Fd (By X x scope s3.heap.objs.size s3 (upd H2 s2.heap.objs.size (.lst [])) fp) [] H' b:=fun hn b hb=>by
   refine ⟨hn b hb,(I4.ok.exf b hb).1,I4.ok.exfs b hb,.inl hb,(I4.ok.exf b hb).2,fun p hp=>absurd (show p∈([]:List (Addr × Obj)) from hp) (by simp)⟩
  rcases turn i n ys H4 w4 with ⟨stop,qn⟩ | ⟨go,step⟩
  ·refine CJ (T.done (By X x scope s3.heap.objs.size s3 (upd H2 s2.heap.objs.size (.lst [])) fp) rfl rfl rfl hc i [] s4 (v0::σ) H4 _ I4 (stat fr4) st4 stop) fun r s5 ⟨hr,I5⟩=>?_
   subst hr
   obtain ⟨m,hn,_⟩:=I5.loc
   refine hRR _ _ s5 H4 m hn (I3.Kv (Nat.le_refl _) I5.free) (I3.call' (s':=s5) (ch:=fp) I5.os I5.base I5.hok I5.bare (fun b hb=>?_)) qn
   obtain ⟨_,g1,_,g3,g4,g5⟩:=f3 b hb
   exact ⟨g3,g1,g4,g5⟩
  ·refine CJ (T.item (By X x scope s3.heap.objs.size s3 (upd H2 s2.heap.objs.size (.lst [])) fp) rfl rfl rfl hc i [] s4 (v0::σ) H4 _ I4 (stat fr4) st4 go) fun r s5 ⟨u,hr,h5⟩=>?_
   subst hr
   intro Γ p hΓ
   obtain ⟨xv,H6,I6,r6,y6,st6,fr6⟩:=h5 Γ p hΓ
   refine (?_:wpAny _ _ _ _ _ _) Γ p hΓ
   have I6':=I6.pinned (stat fr6) (T.obj _ _ st6)
   have hloc:(By X x scope s3.heap.objs.size s3 (upd H2 s2.heap.objs.size (.lst [])) fp).env.scope.names.lookup x=some .local:=lookup_relabel_local S.loc
   have again:∀ {s7:Shared} {H7:Hp} {ys':List V},Inv (By X x scope s3.heap.objs.size s3 (upd H2 s2.heap.objs.size (.lst [])) fp) ([]++Hr fp s5.heap) (some xv::σ) H7 s7->(∃ m',m'<n/\W (i+1) m' ys' H7) ->
     ∃ m,m<n/\∃ i ys v0 H',Inv (By X x scope s3.heap.objs.size s3 (upd H2 s2.heap.objs.size (.lst [])) fp) [] (v0::σ) H' s7/\tn i s7.heap/\(∀ b∈fp,H' b=none)/\W i m ys H':=fun {s7 H7 ys'} I7 hw=>by
    obtain ⟨m',hm,w7⟩:=hw
    refine ⟨m',hm,i+1,ys',some xv,H7,I7.Ga,T.keep _ _ _ st6 fun b hb o e=>(I7.pin (b,o) (List.mem_append_right _ (List.mem_append_right _ (Dq hb e)))).1,fun b hb=>?_,w7⟩
    obtain ⟨o,e,d⟩:=T.obj _ _ st6 b hb
    exact (I7.pin (b,o) (List.mem_append_right _ (List.mem_append_right _ (Dq hb e)))).2.1
   refine wpAny_assign_Name (Jk (X:=By X x scope s3.heap.objs.size s3 (upd H2 s2.heap.objs.size (.lst [])) fp) (i:=0) I6' S.nd rfl (.inl hloc) r6 (fun s7 I7=>?_) (.inr hloc))
   refine Mm (ht _ _ _ _ _ s7 (some xv::σ) H6 _ I7 (step xv H6 y6)) fun b s8 hq0=>?_
   obtain ⟨H8,I8,q8⟩:=hq0
   cases b with
   | false =>
    rw [if_neg Bool.false_ne_true] at q8 ⊢
    exact again I8 q8
   | true =>
    rw [if_pos rfl] at q8 ⊢
    refine Mm (he _ _ _ _ _ s8 (some xv::σ) H8 _ I8 q8) fun y s9 hq0=>?_
    obtain ⟨yv,H9,I9,r9,hD9,hz9,q9⟩:=hq0
    refine Mm (Dg (X:=By X x scope s3.heap.objs.size s3 (upd H2 s2.heap.objs.size (.lst [])) fp) _ s9 (some xv::σ) H9 (.ref s2.heap.objs.size) [yv] (.ref s2.heap.objs.size) [y] (fun _ H'=>H'=upd H9 s2.heap.objs.size (.lst (ys++[yv]))) I9 rfl (.cons r9 .nil)
     ⟨_,ys,yv,rfl,rfl,hD9,hz9,rfl⟩) fun _ s10 ⟨_,H10,I10,_,e10⟩=>?_
    subst e10
    exact again I10 q9
 have key:=fun tk=>codeAny_compStart_list (R:=RR (.ref s2.heap.objs.size) s3.heap.objs.size) (loop tk) (T.self X.A 0 { s3 with heap:=h₁,toks:=tk } (fun it' s'=>codeAny (model X.prog X.w) X.A (.compLoop (.ListComp elt [⟨.Name x px,iter,ifs,0⟩] scope pos) 0 it' (.ref s2.heap.objs.size) (compEnvC scope (Cj X.env scope.names []) s3.heap.objs.size X.env)) (RR (.ref s2.heap.objs.size) s3.heap.objs.size) s') _ st3 (loop tk))
 subst hs3
 exact key _
theorem Bj {px pos:Pos} {iter elt:Expr} {ifs:List Expr} {wi:TI} {tt:TT} {te:TE} (hc:X.calm=true) (S:FJ X x scope) (hi:PI X (.Name x px) iter wi)
  (ht:∀ C s₀ H₀ fp,Ke (By X x scope C s₀ H₀ fp) ifs tt) (he:∀ C s₀ H₀ fp,PE (By X x scope C s₀ H₀ fp) elt te) (hs:∀ x,foldedSetIterable iter X.env x=pure x:=by intro _; rfl) :
  PE X (.ListComp elt [⟨.Name x px,iter,ifs,0⟩] scope pos) (Vq wi tt te):=by
 intro pins s σ H Q I h
 rw [eval_ListComp]
 refine wpAny_comprehension_free (use:=none) (cl:=Cj X.env scope.names []) rfl hs (Fj fun y hy hk=>I.ok.has y.1 (S.free y hy hk)) S.kind S.names (CJ (hi pins s σ H _ I h) fun v s1 h1=>CJ h1 fun itv s2 h2=>?_)
 obtain ⟨it,fp,tn,J,H2,e,I2,T,st2,f2,q⟩:=h2
 subst e
 refine Jm (RR:=fun acc C=>compPost (model X.prog X.w) X.A X.xe none (EP X pins σ Q) acc C) (Q:=Q) hc S ht he I2 T st2 f2 q ?_
 intro D C s' H' m hn hf hI hq
 exact ⟨m,hn,fun h' sb=>⟨.ref D,H',hI.sameBut hf sb,rfl,hq⟩⟩
theorem Iw {i:Nat} {y:Str} {px py pos spos:Pos} {iter elt:Expr} {ifs:List Expr} {wi:TI} {tt:TT} {te:TE} (hN:X.N.Nodup) (hi':X.N[i]? = some y) (hy:X.env.scope.names.lookup y=some .local) (hc:X.calm=true) (S:FJ X x scope) (hi:PI X (.Name x px) iter wi)
  (ht:∀ C s₀ H₀ fp,Ke (By X x scope C s₀ H₀ fp) ifs tt) (he:∀ C s₀ H₀ fp,PE (By X x scope C s₀ H₀ fp) elt te) (hsw:swapsWith (.ListComp elt [⟨.Name x px,iter,ifs,0⟩] scope pos) (some (.Name y py)) spos.line X.env=pure true:=by rfl) (hs:∀ x,foldedSetIterable iter X.env x=pure x:=by intro _; rfl) :
  PS X (.Assign [.Name y py] (.ListComp elt [⟨.Name x px,iter,ifs,0⟩] scope pos) spos) (VP (Vq wi tt te) (Dc i)):=by
 intro pins s σ H D' I h
 rw [exec_Assign_Name_used _ _ _ _ hsw]
 refine wpAny_bind (wpAny_standAt (wpAny_bind ?_))
 show wpAny _ X.A (do let _ ← comprehension (.ListComp elt [⟨.Name x px,iter,ifs,0⟩] scope pos) scope X.env _ (newList []) false (eval iter X.env) (some (assign (.Name y py) X.env))) _ _ s
 refine wpAny_bind (wpAny_mono (wpAny_comprehension_free (use:=some (assign (.Name y py) X.env)) (cl:=Cj X.env scope.names []) (Q:=fun _ s'=>SP X pins D' .next s') rfl hs (Fj fun y hy hk=>I.ok.has y.1 (S.free y hy hk)) S.kind S.names
  (CJ (hi pins s σ H _ I h) fun v s1 h1=>CJ h1 fun itv s2 h2=>?_)) (fun _ s' hq=>wpAny_pure (wpAny_pure hq)) fun _ _ e=>e)
 obtain ⟨it,fp,tn,J,H2,e,I2,T,st2,f2,q⟩:=h2
 subst e
 refine Jm (RR:=fun acc C=>compPost (model X.prog X.w) X.A X.xe (some (assign (.Name y py) X.env)) (fun _ s'=>SP X pins D' .next s') acc C) (Q:=fun x H1=>Dc i x σ H1 D'.nx) hc S ht he I2 T st2 f2 q ?_
 intro D C s' H' m hn hf hI hq
 show wpAny _ X.A (assign (.Name y py) X.env (.ref D)) _ _ _
 refine wpAny_assign_Name (Gg hI hN hi' (.inl hy) (v:=.ref D) rfl (fun s6 I6 hch=>?_) (.inr hy))
 obtain ⟨a,sb,ha⟩:=hch
 have hCa:C ≠ a:=by
  rcases ha with z | z
  ·rw [z]; exact hf.2.1
  ·exact Ne.symm (hf.2.2.2.2.1 y a z)
 exact ⟨m,hn.sameBut sb hCa,fun h' sb'=>⟨_,H',I6.sameBut hf sb',hq⟩⟩
end
end L2
namespace L2
open PySem PySem.Spec PyProof.Rows
section
variable {σ:St} {H1:Hp} {Q:VK} {tt:TT} {te:TE}
theorem HY {J:It} {xs:List V} (p:V->Bool) (f:V->V) (hz:xs.length<sizeLine)
  (hgo:∀ i H x,Al H1 H->xs[i]? = some x->J.go i H) (hy:∀ i H y H',Al H1 H->i<xs.length->J.yld i H y H'->H'=H/\xs[i]? = some y) (hstop:∀ H,Al H1 H->J.stop xs.length H)
  (ht:∀ x∈xs,∀ H,Al H1 H->∀ R:Bool->Hp->Prop,(∀ H',Al H H'->R (p x) H')->tt (some x::σ) H R)
  (he:∀ x∈xs,p x=true->∀ H,Al H1 H->∀ R:VK,(∀ H',Al H H'->R (f x) H')->te (some x::σ) H R)
  (hq:∀ D H,H1 D=none->Al H1 H->H D=some (.lst ((xs.filter p).map f))->Q (.ref D) H):GF J σ H1 Q tt te:=by
 intro D hD
 have s0:Al H1 (upd H1 D (.lst [])):=fun b o e=>by rw [Ax (Aw e hD)]; exact e
 refine ⟨fun i m ys H=>m=xs.length - i/\i<=xs.length/\ys=((xs.take i).filter p).map f/\H D=some (.lst ys)/\Al H1 H,⟨xs.length,by simp,Nat.zero_le _,by simp,Ak,s0⟩,?_⟩
 rintro i m ys H ⟨rfl,hi,rfl,hd,hs⟩
 by_cases hlt:i<xs.length
 ·obtain ⟨x,hx⟩:∃ x,xs[i]? = some x:=⟨xs[i],by simp [hlt]⟩
  refine .inr ⟨hgo i H x hs hx,fun y H3 hyl=>?_⟩
  obtain ⟨rfl,hy'⟩:=hy i H y H3 hs hlt hyl
  rw [hx] at hy'
  cases hy'
  have hm:x∈xs:=List.mem_of_getElem? hx
  have hlen:(((xs.take i).filter p).map f).length<sizeLine:=by
   rw [List.length_map]
   refine Nat.lt_of_le_of_lt (List.length_filter_le _ _) (Nat.lt_of_le_of_lt ?_ hz)
   rw [List.length_take]; omega
  refine ht x hm _ hs _ fun H4 s4=>?_
  by_cases hp:p x=true
  ·rw [if_pos hp]
   refine he x hm hp H4 (hs.trans s4) _ fun H5 s5=>?_
   refine ⟨s5 _ _ (s4 _ _ hd),hlen,xs.length - (i+1),by omega,rfl,hlt,?_,Ak,fun b o e=>?_⟩
   ·rw [take_succ_filter p xs i x hx,if_pos hp,List.map_append]; rfl
   ·rw [Ax (Aw e hD)]; exact s5 _ _ (s4 _ _ (hs _ _ e))
  ·rw [if_neg hp]
   refine ⟨xs.length - (i+1),by omega,rfl,hlt,?_,s4 _ _ hd,hs.trans s4⟩
   rw [take_succ_filter p xs i x hx,if_neg hp,List.append_nil]
 ·have e:i=xs.length:=by omega
  subst e
  rw [List.take_length] at hd
  exact .inl ⟨hstop H hs,hq D H hD hs hd⟩
theorem Jp {lo:Int} {n:Nat} (p:Int->Bool) (f:Int->V) (hz:n<sizeLine)
  (ht:∀ i:Nat,i<n->∀ H,Al H1 H->∀ R:Bool->Hp->Prop,(∀ H',Al H H'->R (p (lo+i)) H')->tt (some (.int (lo+i))::σ) H R)
  (he:∀ i:Nat,i<n->p (lo+i)=true->∀ H,Al H1 H->∀ R:VK,(∀ H',Al H H'->R (f (lo+i)) H')->te (some (.int (lo+i))::σ) H R)
  (hq:∀ D H,H1 D=none->Al H1 H->H D=some (.lst ((((List.range n).map fun (i:Nat)=>lo+(i:Int)).filter p).map f))->Q (.ref D) H):GF (Zh lo n) σ H1 Q tt te:=by
 let g:V->Int:=fun v=>match v with | .int i=>i | _=>0
 have hxs:∀ i:Nat,i<n->((List.range n).map fun (i:Nat)=>V.int (lo+(i:Int)))[i]? = some (.int (lo+i)):=fun i hi=>by simp [hi]
 refine HY (xs:=(List.range n).map fun (i:Nat)=>V.int (lo+(i:Int))) (fun v=>p (g v)) (fun v=>f (g v)) (by simpa using hz) (fun i H x _ hx=>?_) (fun i H y H' _ hi hy=>?_) (fun H _=>?_) (fun x hx=>?_) (fun x hx=>?_) (fun D H h1 h2 h3=>?_)
 ·have:i<((List.range n).map fun (i:Nat)=>V.int (lo+(i:Int))).length:=(List.getElem?_eq_some_iff.mp hx).1
  show i<n
  simpa using this
 ·have hi':i<n:=by simpa using hi
  obtain ⟨e1,e2⟩:=hy
  subst e2
  exact ⟨e1,hxs i hi'⟩
 ·show n<=_
  simp
 ·obtain ⟨i,hi,rfl⟩:=List.mem_map.mp hx
  exact ht i (List.mem_range.mp hi)
 ·obtain ⟨i,hi,rfl⟩:=List.mem_map.mp hx
  exact he i (List.mem_range.mp hi)
 ·refine hq D H h1 h2 ?_
  rw [h3,List.filter_map,List.map_map,List.filter_map,List.map_map]
  rfl
noncomputable def cV (z:Str):It:=⟨fun i _=>i<z.cps.size,fun i H x H'=>H'=H/\∃ c,z.cps[i]? = some c/\x=.str ⟨#[c]⟩,fun i _=>z.cps.size<=i⟩
theorem RP {P:Program} {w:World} {K:PySem.W.Frag} {tg:Expr} {z:Str} {t0:Tok} {it:Addr} {ty:String} (hty:ty = "str_ascii_iterator" \/ ty = "str_iterator"):Turn P w K tg (cV z) [it] it (fun i h=>h.IsStrIter it ty z t0 i) where
 mem:=by simp
 obj:=fun i h st b hb=>by
  have e:b=it:=by simpa using hb
  subst e
  obtain ⟨o,ho,hc,hd⟩:=st
  exact ⟨o,ho,fun v q=>by rw [hd] at q; cases q⟩
 keep:=fun i h h' st k=>let ⟨o,ho,r⟩:=st; ⟨o,k it (by simp) o ho,r⟩
 item:=by
  intro X hP hw hK hc i pins s σ H E I hf st hg
  subst hP hw hK
  obtain ⟨f0,f1,f2,f3,f4,f5⟩:=hf it (by simp)
  have hg':i<z.cps.size:=hg
  have hx:z.cps[i]? = some z.cps[i]:=Array.getElem?_eq_getElem hg'
  have fin:∀ h',h'.IsStrIter it ty z t0 (i+1)->Heap.SameBut it s.heap h'->∃ u,some (Value.str ⟨#[z.cps[i]]⟩ s.toks)=some u /\
    wpAny (model X.prog X.w) X.A (letOwnedTupleGo tg (.ref it) u) (fun _ s2=>∃ x H',Inv X pins σ H' s2/\RelV x u/\(cV z).yld i H x H'/\s2.heap.IsStrIter it ty z t0 (i+1)/\∀ b∈[it],H' b=none) E { s with heap:=h',toks:=s.toks+1 }:=fun h' st' sb=>by
   have I1:Inv X pins σ H { s with heap:=h',toks:=s.toks+1 }:=I.turned (fun b o hb e=>(sb.2 b hb).trans e) f0 f1 f3 f4 f5
   obtain ⟨o,e,c,d⟩:=id st'
   refine ⟨_,rfl,Lf (s:={ s with heap:=h',toks:=s.toks+1 }) e c d (by rcases hty with rfl | rfl <;> decide) ⟨.str ⟨#[z.cps[i]]⟩,H,I1,⟨_,rfl⟩,⟨rfl,_,hx,rfl⟩,st',fun b hb=>(hf b hb).1⟩⟩
  rcases hty with rfl | rfl
  ·exact wpAny_pyNext_ascii_item st hx fin
  ·exact wpAny_pyNext_wide_item st hx fin
 done:=by
  intro X hP hw hK hc i pins s σ H E I hf st hg
  subst hP hw hK
  obtain ⟨f0,f1,f2,f3,f4,f5⟩:=hf it (by simp)
  have hx:z.cps[i]? = none:=by
   have hg':z.cps.size<=i:=hg
   simpa using hg'
  rcases hty with rfl | rfl
  ·exact wpAny_pyNext_ascii_end (I.ok.hd hc) st hx fun h' eb=>⟨rfl,I.turned (t':=s.toks) (fun b o hb e=>eb b o hb e) f0 f1 f3 f4 f5⟩
  ·exact wpAny_pyNext_wide_end (I.ok.hd hc) st hx fun h' eb=>⟨rfl,I.turned (t':=s.toks) (fun b o hb e=>eb b o hb e) f0 f1 f3 f4 f5⟩
 self:=fun A i s Q E st h=>by
  rcases hty with rfl | rfl
  ·exact wpAny_pyIter_striter_ascii st h
  ·exact wpAny_pyIter_striter_wide st h
end
section
variable {X:Cx} {tg:Expr}
noncomputable def jE (tl:TE):TI:=fun σ H R=>tl σ H fun x H1=>∃ z,x=.str z/\R (cV z) H1
theorem Xl {l:Expr} {tl:TE} (hl:PE X l tl):PI X tg l (jE tl):=by
 intro pins s σ H R I h
 refine CJ (hl pins s σ H _ I h) fun v s1 hq0=>?_
 obtain ⟨x,H1,I1,r1,q1⟩:=hq0
 obtain ⟨z,e,q⟩:=q1
 subst e
 obtain ⟨t,rfl⟩:=r1
 have fin:∀ ty,(ty = "str_ascii_iterator" \/ ty = "str_iterator")->PIE X pins σ tg R (.ref s1.heap.objs.size) { s1 with heap:=s1.heap.push { cls:=.type ty,data:=.fields #[.str z t,.int 0 0] } }:=fun ty hty=>by
  refine ⟨s1.heap.objs.size,[s1.heap.objs.size],_,_,H1,rfl,I1.kept (t':=s1.toks) fun b o e=>Heap.get?_push_of_some _ e,RP (z:=z) (t0:=t) hty,⟨_,Heap.get?_push_size _ rfl,rfl,rfl⟩,fun b hb=>?_,q⟩
  have e:b=s1.heap.objs.size:=by simpa using hb
  subst e
  exact I1.Kv (Nat.le_refl _) (I1.hok.fresh (Nat.le_refl _))
 cases ha:z.cps.all (· < 128)
 ·exact wpAny_pyIter_wide ha (fin _ (.inr rfl))
 ·exact wpAny_pyIter_ascii ha (fin _ (.inl rfl))
end
section
variable {σ:St} {H1:Hp} {Q:VK} {tt:TT} {te:TE}
noncomputable def sgn (c:Nat):V:=.str ⟨#[c]⟩
theorem RN {z:Str} (p:Nat->Bool) (f:Nat->V) (hz:z.length<sizeLine)
  (ht:∀ c∈z.cps.toList,∀ H,Al H1 H->∀ R:Bool->Hp->Prop,(∀ H',Al H H'->R (p c) H')->tt (some (sgn c)::σ) H R)
  (he:∀ c∈z.cps.toList,p c=true->∀ H,Al H1 H->∀ R:VK,(∀ H',Al H H'->R (f c) H')->te (some (sgn c)::σ) H R)
  (hq:∀ D H,H1 D=none->Al H1 H->H D=some (.lst ((z.cps.toList.filter p).map f))->Q (.ref D) H):GF (cV z) σ H1 Q tt te:=by
 let g:V->Nat:=fun v=>match v with | .str y=>y.cps.getD 0 0 | _=>0
 refine HY (xs:=z.cps.toList.map sgn) (fun v=>p (g v)) (fun v=>f (g v)) (by simpa [Str.length] using hz) (fun i H x _ hx=>?_) (fun i H y H' _ hi hy=>?_) (fun H _=>?_) (fun x hx=>?_) (fun x hx=>?_) (fun D H h1 h2 h3=>?_)
 ·have:i<(z.cps.toList.map sgn).length:=(List.getElem?_eq_some_iff.mp hx).1
  show i<z.cps.size
  simpa using this
 ·obtain ⟨e1,c,hc,rfl⟩:=hy
  refine ⟨e1,?_⟩
  rw [List.getElem?_map,Array.getElem?_toList,hc]; rfl
 ·show z.cps.size<=_
  simp
 ·obtain ⟨c,hc,rfl⟩:=List.mem_map.mp hx
  exact ht c hc
 ·obtain ⟨c,hc,rfl⟩:=List.mem_map.mp hx
  exact he c hc
 ·refine hq D H h1 h2 ?_
  rw [h3,List.filter_map,List.map_map]
  rfl
end
section
variable {X:Cx}
theorem range_all (bs:List Bool):((List.range bs.length).all fun i=>(bs[i]?).getD true)=bs.all id:=by
 rw [Bool.eq_iff_iff,List.all_eq_true,List.all_eq_true]
 constructor
 ·intro h b hb
  obtain ⟨i,hi,e⟩:=List.mem_iff_getElem.mp hb
  have:=h i (List.mem_range.mpr hi)
  rw [List.getElem?_eq_getElem hi,e] at this
  exact this
 ·intro h i hi
  have hi':=List.mem_range.mp hi
  rw [List.getElem?_eq_getElem hi']
  exact h _ (List.getElem_mem hi')
theorem Jj (hc:X.calm=true):FN X (.builtin "all") (fun xs H Q=>∃ (p:Addr) (bs:List Bool),xs=[V.ref p]/\CZ X.K H p (bs.map V.bl)/\Q (.bl (bs.all id)) H):=by
 intro pins s σ H xs us Q I r h
 obtain ⟨p,bs,rfl,hp,q⟩:=h
 obtain ⟨u,rfl,ru⟩:=vals1 r
 cases ru
 obtain ⟨its,rv,pl,hz⟩:=I.list hp
 have hlen:bs.length=its.length:=by have:=rv.length; rw [List.length_map] at this; exact this
 have hlt:p<s.heap.objs.size:=by obtain ⟨_,e,_⟩:=pl.isList; exact Heap.lt_size e
 refine call_all_walk (wpAny_pyIter_list pl.isList ?_)
 refine ⟨s.heap.objs.size,[s.heap.objs.size,p],[s.heap.objs.size],its.toArray.size,_,_,fun i=>(bs[i]?).getD true,rfl,Walks.list (A:=X.A.in1) (I.ok.hd hc) _ p (Nat.ne_of_lt hlt) its.toArray,
  ⟨⟨_,Heap.get?_push_size _ rfl,rfl,rfl⟩,pl.isList.push _⟩,fun i v s' Q' E' hP hQ=>?_,fun h' tk hk=>?_⟩
 ·have hP':its[i]? = some v:=by simpa using hP
  have hi:i<its.length:=(List.getElem?_eq_some_iff.mp hP').1
  have hb:bs[i]? = some bs[i]:=by simp [hlen,hi]
  obtain ⟨u,hu,ru⟩:=rv.get (i:=i) (x:=.bl bs[i]) (by rw [List.getElem?_map,hb]; rfl)
  rw [hP'] at hu
  cases hu
  cases ru
  dsimp only at hQ
  rw [hb] at hQ
  exact wpAny_truthy_bool hQ
 ·have e:((List.range its.toArray.size).all fun i=>(bs[i]?).getD true)=bs.all id:=by rw [List.size_toArray,← hlen]; exact range_all bs
  rw [e]
  refine ⟨.bl (bs.all id),H,I.kept (t':=tk) fun b o eb=>hk b o (fun hm=>?_) (Heap.get?_push_of_some _ eb),rfl,q⟩
  rw [List.mem_singleton.mp hm] at eb
  exact Nat.lt_irrefl _ (Heap.lt_size eb)
theorem CN:FN X (.builtin "isinstance") (fun xs H Q=>∃ x T t b,xs=[x,V.ty T]/\Hs X.K H x t/\PySem.W.kitOne X.K t (.type T)=some b/\Q (.bl b) H):=by
 intro pins s σ H xs us Q I r h
 obtain ⟨x,T,t,b,rfl,ty,e,q⟩:=h
 obtain ⟨u,v,rfl,ru,rv⟩:=Vals.two r
 cases rv
 exact QD I ru ty e fun tk=>⟨.bl b,H,I.tok _,rfl,q⟩
end
noncomputable def Ow (x:Str) (scope osc:Scope) (N:List Str):Bool :=
 (scope.kind == .function) && scope.names.all (fun y=>y.2 != .cell) && scope.names.all (fun y=>y.2 != .local || scope.names.lookup y.1 == some .local) && (scope.names.lookup x == some .local) &&
 scope.names.all (fun y=>y.2 != .free || osc.names.lookup y.1 == some .cell || osc.names.lookup y.1 == some .free) && decide ((x::Gz x N).Nodup) && (Gz x N).all (fun y=>scope.names.lookup y != some .local) && (scope.names.lookup ("" : Str) == none)
theorem BP {X:Cx} {x:Str} {scope osc:Scope} {N:List Str} (hsc:X.env.scope=osc) (hN:X.N=N) (h:Ow x scope osc N=true):FJ X x scope:=by
 unfold Ow at h
 simp only [Bool.and_eq_true] at h
 obtain ⟨⟨⟨⟨⟨⟨⟨h1,h2⟩,h3⟩,h4⟩,h5⟩,h6⟩,h7⟩,h8⟩:=h
 rw [List.all_eq_true] at h2 h3 h5 h7
 have kd:∀ y,X.env.kindOf y=osc.names.lookup y:=fun y=>by rw [← hsc]; rfl
 refine ⟨by simpa using h1,fun y hy=>by simpa using h2 y hy,fun y hy e=>?_,by simpa using h4,fun y hy e=>?_,by rw [hN]; exact of_decide_eq_true h6,fun y hy=>?_,by simpa using h8⟩
 ·have:=h3 y hy
  rw [e] at this
  simpa using this
 ·have:=h5 y hy
  rw [e] at this
  rw [kd]
  simpa using this
 ·rw [hN] at hy
  simpa using h7 y hy
end L2
namespace L2
open PySem PySem.Spec PyProof.Rows
section
variable {X:Cx} {pins:List (Addr × Obj)} {σ:St} {H:Hp} {s:Shared} {h':Heap}
theorem Inv.Lq {ch:List Addr} {a:Addr} {o:HO} {t':Nat} (I:Inv X pins σ H s) (hf:∀ b∈ch,Fd X pins H b) (k:∀ b u,b ∉ ch->s.heap.get? b=some u->h'.get? b=some u) (hp:s.heap.objs.size<=a)
  (new:Bx X.prog X.w (upd H a o) h' a o):Inv X pins σ (upd H a o) { s with heap:=h',toks:=t' }:=by
 have hn:H a=none:=I.hok.fresh hp
 have up:∀ b u,H b=some u->upd H a o b=some u:=fun b u e=>by rw [Ax (Aw e hn)]; exact e
 refine I.step (g':=s.gens) (d':=s.drawn) (ch:=ch) (fun b hb=>?_) (fun b u _ _ hc e _=>k b u hc e) (fun b u _ _ hc e _=>⟨u.slots,k b u hc e⟩) (fun b u _ e n=>?_)
  (fun b u hc e=>⟨u,k b u hc e⟩) (fun b xs e=>up _ _ e) (fun b u x e=>up _ _ e) (fun b ps e=>⟨#[],by rw [up _ _ e]; simp⟩) (fun m hm=>?_) (fun b u e=>?_) I.bare
 ·obtain ⟨f0,f1,f2,f3,f4,f5⟩:=hf b hb
  exact ⟨f3,f1,f4,f5⟩
 ·rw [Ax (Nat.ne_of_lt (Nat.lt_of_lt_of_le (Heap.lt_size e) hp))]
  exact n
 ·obtain ⟨u,es,ep,ho,r⟩:=hm
  exact ⟨u,es,ep,k _ u (fun z=>(hf _ z).2.1 rfl) ho,r⟩
 ·by_cases hb:b=a
  ·subst hb
   rw [Ak] at e
   cases e
   exact new
  ·rw [Ax hb] at e
   refine (I.hok b u e).stay (fun c v hc q=>k c v (fun z=>?_) q) (fun _ q=>up _ _ q) fun _ _ q=>up _ _ q
   have z1:=(hf c z).1
   rcases hc with hc | hc
   ·rw [hc,e] at z1
    cases z1
   ·rw [hc] at z1
    cases z1
theorem Inv.Nu {ch:List Addr} {t':Nat} (I:Inv X pins σ H s) (hf:∀ b∈ch,Fd X pins H b) (k:∀ b u,b ∉ ch->s.heap.get? b=some u->h'.get? b=some u):Inv X pins σ H { s with heap:=h',toks:=t' }:=by
 refine I.step (g':=s.gens) (d':=s.drawn) (ch:=ch) (fun b hb=>?_) (fun b u _ _ hc e _=>k b u hc e) (fun b u _ _ hc e _=>⟨u.slots,k b u hc e⟩) (fun b u _ e n=>n)
  (fun b u hc e=>⟨u,k b u hc e⟩) (fun b xs e=>e) (fun b u x e=>e) (fun b ps e=>⟨#[],by rw [e]; simp⟩) (fun m hm=>?_) (fun b u e=>?_) I.bare
 ·obtain ⟨f0,f1,f2,f3,f4,f5⟩:=hf b hb
  exact ⟨f3,f1,f4,f5⟩
 ·obtain ⟨u,es,ep,ho,r⟩:=hm
  exact ⟨u,es,ep,k _ u (fun z=>(hf _ z).2.1 rfl) ho,r⟩
 ·refine (I.hok b u e).stay (fun c v hc q=>k c v (fun z=>?_) q) (fun _ q=>q) fun _ _ q=>q
  have z1:=(hf c z).1
  rcases hc with hc | hc
  ·rw [hc,e] at z1
   cases z1
  ·rw [hc] at z1
   cases z1
end
noncomputable def Xp (K:PySem.W.Frag) (a:Addr):It :=
 ⟨fun i H=>∃ xs x,CZ K H a xs/\xs[i]? = some x,fun i H v H'=>∃ T,H T=none/\v=.ref T/\∀ xs,CZ K H a xs->∃ x,xs[i]? = some x/\H'=upd H T (.tup [.int (i:Int),x]),fun i H=>∃ xs,CZ K H a xs/\xs.length<=i⟩
noncomputable def dj (K:PySem.W.Frag) (a b:Addr):It :=
 ⟨fun i H=>∃ xs ys x y,G8 K H a xs/\G8 K H b ys/\xs[i]? = some x/\ys[i]? = some y,fun i H v H'=>∃ T,H T=none/\v=.ref T/\∀ xs ys,G8 K H a xs->G8 K H b ys->∃ x y,xs[i]? = some x/\ys[i]? = some y/\H'=upd H T (.tup [x,y]),
  fun i H=>∃ xs,G8 K H a xs/\xs.length<=i⟩
theorem QK {P:Program} {w:World} {K:PySem.W.Frag} {es:List Expr} {k1:Nat} {pos:Pos} (a e it:Addr) (hne:e ≠ it) :
  Turn P w K (.Tuple es k1 pos) (Xp K a) [e,it] e (fun i h=>(∃ old,IsEnum h e it i old)/\h.IsListIter it a i) where
 mem:=by simp
 obj:=fun i h st b hb=>by
  obtain ⟨⟨old,he⟩,o,ho,c,d⟩:=st
  rcases List.mem_cons.mp hb with rfl | hb
  ·exact ⟨_,he,fun v z=>by
    have z':Data.fields _=Data.cell v:=z
    cases z'⟩
  ·have q:b=it:=by simpa using hb
   subst q
   exact ⟨o,ho,fun v z=>by rw [d] at z; cases z⟩
 keep:=fun i h h' st k=>by
  obtain ⟨⟨old,he⟩,hi⟩:=st
  exact ⟨⟨old,k e (by simp) _ he⟩,hi.at fun o q=>k it (by simp) o q⟩
 item:=by
  intro X hP hw hK hc i pins s σ H E I hf st hg
  subst hP hw hK
  obtain ⟨xs,x,hq,hx⟩:=hg
  obtain ⟨its,rv,p,hz⟩:=I.list hq
  obtain ⟨u,hu,ru⟩:=rv.get hx
  obtain ⟨⟨old,he⟩,hi⟩:=st
  refine wpAny_pyNext_enum_item he hi p.isList (x:=u) (by simpa using hu) hne fun h1 n1 n2 n3 n4 n5=>?_
  refine ⟨_,rfl,wpAny_letOwnedTupleGo_enum (s:={ s with heap:=h1,toks:=s.toks+1 }) n1 fun h2 m1 m2=>?_⟩
  have hT:s.heap.objs.size ≠ e:=Nat.ne_of_gt (Heap.lt_size he)
  have hI:s.heap.objs.size ≠ it:=by obtain ⟨_,q,_⟩:=hi; exact Nat.ne_of_gt (Heap.lt_size q)
  have fr:H s.heap.objs.size=none:=I.hok.fresh (Nat.le_refl _)
  have nw:Bx X.prog X.w (upd H s.heap.objs.size (.tup [.int (i:Int),x])) h2 s.heap.objs.size (.tup [.int (i:Int),x]) :=
   ⟨by show 2<=sizeLine; decide,[.int i s.toks,u],.cons ⟨_,rfl⟩ (.cons ru .nil),_,m2.extBut _ _ hT n3,rfl,_,rfl⟩
  refine ⟨.ref s.heap.objs.size,_,I.Lq (t':=s.toks+1) (ch:=[e,it]) hf (fun b o hb q=>?_) (Nat.le_refl _) nw,rfl,⟨_,fr,rfl,fun ys hy=>⟨x,by rw [I.Lr hy hq]; exact hx,rfl⟩⟩,⟨⟨u,?_⟩,n2.at fun o q=>m2.extBut _ _ (Ne.symm hne) q⟩,fun b hb=>?_⟩
  ·exact m2.extBut _ _ (fun z=>hb (by simp [z])) (n5 b o (fun z=>hb (by simp [z])) (fun z=>hb (by simp [z])) q)
  ·have e1:((i:Int)+1)=((i+1:Nat):Int):=by omega
   rw [← e1]
   exact m1
  ·have hb':=hb
   rcases List.mem_cons.mp hb with rfl | hb
   ·rw [Ax (Ne.symm hT)]
    exact (hf _ hb').1
   ·have q:b=it:=by simpa using hb
    subst q
    rw [Ax (Ne.symm hI)]
    exact (hf _ hb').1
 done:=by
  intro X hP hw hK hc i pins s σ H E I hf st hg
  subst hP hw hK
  obtain ⟨xs,hq,hx⟩:=hg
  obtain ⟨its,rv,p,hz⟩:=I.list hq
  obtain ⟨⟨old,he⟩,hi⟩:=st
  have hl:=rv.length
  exact wpAny_pyNext_enum_end (I.ok.hd hc) he hi p.isList (by simp; omega) fun h1 eb=>⟨rfl,I.Nu (t':=s.toks) (ch:=[e,it]) hf fun b o hb q=>eb b o (fun z=>hb (by simp [z])) q⟩
 self:=fun _ _ _ _ _ st h=>by
  obtain ⟨⟨old,he⟩,_⟩:=st
  exact wpAny_pyIter_enum he h
theorem Qq {n a b:Nat} (ha:a<n) (hb:b<n):ZipApart (n+4) (n+2) (n+3) n (n+1) a b:=by
 constructor <;> (refine (show @Ne Nat _ _ from ?_); omega)
theorem WP {n b:Nat} {P:Nat->Prop} (h0:P n) (h1:P (n+1)) (h2:P (n+2)) (h3:P (n+3)) (h4:P (n+4)) (hb:b∈[n,n+1,n+2,n+3,n+4]):P b:=by
 simp at hb
 rcases hb with rfl | rfl | rfl | rfl | rfl <;> assumption
theorem QB {P:Program} {w:World} {K:PySem.W.Frag} {es:List Expr} {k1:Nat} {pos:Pos} (a b n:Nat) (ha:a<n) (hb:b<n) :
  Turn P w K (.Tuple es k1 pos) (dj K a b) [n,n+1,n+2,n+3,n+4] (n+4) (fun i h=>IsZip h (n+4) (n+2) (n+3) .none/\IsPair h (n+2) (.ref n) (.ref (n+1))/\(∃ x y,IsPair h (n+3) x y)/\h.IsTupleIter n a i/\h.IsTupleIter (n+1) b i) where
 mem:=by simp
 obj:=fun i h st c hc=>by
  obtain ⟨hz,hI,⟨x,y,hO⟩,⟨o1,e1,_,d1⟩,⟨o2,e2,_,d2⟩⟩:=st
  refine WP (P:=fun c=>∃ o,h.get? c=some o/\∀ v,o.data ≠ .cell v) ⟨_,e1,fun v z=>?_⟩ ⟨_,e2,fun v z=>?_⟩ ⟨_,hI,fun v z=>?_⟩ ⟨_,hO,fun v z=>?_⟩ ⟨_,hz,fun v z=>?_⟩ hc
  ·rw [d1] at z; cases z
  ·rw [d2] at z; cases z
  ·have z':Data.seq _ _=Data.cell v:=z
   cases z'
  ·have z':Data.seq _ _=Data.cell v:=z
   cases z'
  ·have z':Data.fields _=Data.cell v:=z
   cases z'
 keep:=fun i h h' st k=>by
  obtain ⟨hz,hI,⟨x,y,hO⟩,j1,j2⟩:=st
  exact ⟨k _ (by simp) _ hz,k _ (by simp) _ hI,⟨x,y,k _ (by simp) _ hO⟩,j1.at fun o q=>k _ (by simp) o q,j2.at fun o q=>k _ (by simp) o q⟩
 item:=by
  intro X hP hw hK hc i pins s σ H E I hf st hg
  subst hP hw hK
  obtain ⟨xs,ys,x,y,q1,q2,hx,hy⟩:=hg
  obtain ⟨it1,r1,p1,_⟩:=I.tuple q1
  obtain ⟨it2,r2,p2,_⟩:=I.tuple q2
  obtain ⟨u,hu,ru⟩:=r1.get hx
  obtain ⟨v,hv,rv⟩:=r2.get hy
  obtain ⟨hz,hI,⟨x0,y0,hO⟩,j1,j2⟩:=st
  have D:=Qq ha hb
  have hT:s.TypeIs (.ref (n+4)) "zip":=⟨_,hz,rfl⟩
  have sz:n+4<s.heap.objs.size:=Heap.lt_size hz
  unfold pyNext
  refine wpAny_bind (wpAny_attempt (wpAny_callSpecial?_slot (name:=Str.ofString "__next__") hT F.slot_zip_next (wpAny_call_entry F.slot_zip_next hT F.entry_zip_next
   (Qa D hz hI hO j1 j2 (show s.heap.IsTuple a it1.toArray from p1) (show s.heap.IsTuple b it2.toArray from p2) (x:=u) (y:=v) (by simpa using hu) (by simpa using hv) fun h1 n1 n2 n3 n4 n5 n6 n7=>wpAny_pure ?_) (F.args_zip_next_1 _))))
  refine ⟨_,rfl,wpAny_letOwnedTupleGo_zip (s:={ s with heap:=h1 }) n1 fun h2 m1 m2=>?_⟩
  have fr:H s.heap.objs.size=none:=I.hok.fresh (Nat.le_refl _)
  have nw:Bx X.prog X.w (upd H s.heap.objs.size (.tup [x,y])) h2 s.heap.objs.size (.tup [x,y]) :=
   ⟨by show 2<=sizeLine; decide,[u,v],.cons ru (.cons rv .nil),_,m2.extBut _ _ (Nat.ne_of_gt sz) n5,rfl,_,rfl⟩
  have hI2:IsPair h1 (n+2) (.ref n) (.ref (n+1)):=n7 _ _ D.TIz D.TITO D.TIi1 D.TIi2 hI
  refine ⟨.ref s.heap.objs.size,_,I.Lq (t':=s.toks) (ch:=[n,n+1,n+2,n+3,n+4]) hf (fun c o hc q=>?_) (Nat.le_refl _) nw,rfl,⟨_,fr,rfl,fun xs' ys' h1 h2=>⟨x,y,by rw [I.IW h1 q1]; exact hx,by rw [I.IW h2 q2]; exact hy,rfl⟩⟩,
   ⟨m1,m2.extBut _ _ D.TIz hI2,⟨u,v,m2.extBut _ _ D.TOz n2⟩,n3.at fun o q=>m2.extBut _ _ D.i1z q,n4.at fun o q=>m2.extBut _ _ D.i2z q⟩,fun c hc=>?_⟩
  ·have z:∀ d,d∈[n,n+1,n+2,n+3,n+4]->c ≠ d:=fun d hd q=>hc (q ▸ hd)
   exact m2.extBut _ _ (z _ (by simp)) (n7 c o (z _ (by simp)) (z _ (by simp)) (z _ (by simp)) (z _ (by simp)) q)
  ·rw [Ax ?_]
   ·exact (hf c hc).1
   ·have lt:c<=n+4:=WP (P:=fun c=>c<=n+4) (by omega) (by omega) (by omega) (by omega) (Nat.le_refl _) hc
    exact Nat.ne_of_lt (Nat.lt_of_le_of_lt lt sz)
 done:=by
  intro X hP hw hK hc i pins s σ H E I hf st hg
  subst hP hw hK
  obtain ⟨xs,q1,hx⟩:=hg
  obtain ⟨it1,r1,p1,_⟩:=I.tuple q1
  obtain ⟨hz,hI,⟨x0,y0,hO⟩,j1,j2⟩:=st
  have D:=Qq ha hb
  have hT:s.TypeIs (.ref (n+4)) "zip":=⟨_,hz,rfl⟩
  have hl:=r1.length
  unfold pyNext
  refine wpAny_bind (wpAny_attempt (wpAny_callSpecial?_slot (name:=Str.ofString "__next__") hT F.slot_zip_next (wpAny_call_entry F.slot_zip_next hT F.entry_zip_next
   (Rh (I.ok.hd hc) D hz hI hO j1 (show s.heap.IsTuple a it1.toArray from p1) (by simp; omega) fun h1 x k1 hx1=>?_) (F.args_zip_next_1 _))))
  obtain ⟨o,ho,hco⟩:=hx1
  refine wpAny_bind (wpAny_isInstance (T:="StopIteration") (b:=true) ⟨o,ho,hco⟩ isSubtype_stop (wpAny_pure ?_))
  refine ⟨rfl,I.Nu (t':=s.toks) (ch:=[n,n+1,n+2,n+3,n+4]) hf fun c o hc q=>?_⟩
  have z:∀ d,d∈[n,n+1,n+2,n+3,n+4]->c ≠ d:=fun d hd q=>hc (q ▸ hd)
  exact k1 c o (z _ (by simp)) (z _ (by simp)) (z _ (by simp)) (z _ (by simp)) q
 self:=fun _ _ _ _ _ st h=>wpAny_pyIter_zip st.1 h
section
variable {X:Cx} {es:List Expr} {k1:Nat} {tpos:Pos}
noncomputable def Z6 (K:PySem.W.Frag) (ta:TA):TI:=fun σ H R=>ta σ H fun vs H1=>∃ a,vs=[.ref a]/\(∃ xs,CZ K H1 a xs)/\R (Xp K a) H1
noncomputable def h_ (K:PySem.W.Frag) (ta:TA):TI:=fun σ H R=>ta σ H fun vs H1=>∃ a b,vs=[.ref a,.ref b]/\(∃ xs,G8 K H1 a xs)/\(∃ ys,G8 K H1 b ys)/\R (dj K a b) H1
theorem Ec {l:Expr} {ta:TA} {p pos:Pos} (hg:Gl X "enumerate") (hm:X.mg "enumerate" = none) (ha:PA X [l] ta) (hs:starEach [l] X.env=[(false,eval l X.env)]:=by rfl) :
  PI X (.Tuple es k1 tpos) (.Call (.Name "enumerate" p) [l] [] pos) (Z6 X.K ta):=by
 intro pins s σ H R I h
 refine Call_ (G4 I hg hm boot_enumerate (PyProof.Rows.callWith_type1 (CJ (ha pos pins s σ H _ I h) fun us s1 ⟨vs,H1,I1,r1,q1⟩=>?_) hs rfl))
 obtain ⟨a,e,⟨xs,hq⟩,q⟩:=q1
 subst e
 obtain ⟨u,rfl,ru⟩:=vals1 r1
 cases ru
 obtain ⟨its,rv,pl,hz⟩:=I1.list hq
 refine call_enumerate_list pl.isList fun h1 n1 n2 n3 n4=>?_
 refine wpAny_pyIter_enum (s:={ s1 with heap:=h1 }) n1 ?_
 refine ⟨_,[s1.heap.objs.size+1,s1.heap.objs.size],_,_,H1,rfl,I1.kept (t':=s1.toks) n4,QK a _ _ (Nat.succ_ne_self _),⟨⟨_,n1⟩,n2⟩,fun b hb=>?_,q⟩
 have lt:s1.heap.objs.size<=b:=by
  rcases List.mem_cons.mp hb with rfl | hb
  ·exact Nat.le_succ _
  ·exact Nat.le_of_eq ((List.mem_singleton.mp hb).symm)
 exact I1.Kv lt (I1.hok.fresh lt)
theorem Ul {x y:Expr} {ta:TA} {p pos:Pos} (hg:Gl X "zip") (hm:X.mg "zip" = none) (ha:PA X [x,y] ta) (hs:starEach [x,y] X.env=[(false,eval x X.env),(false,eval y X.env)]:=by rfl) (hs2:starEach [y] X.env=[(false,eval y X.env)]:=by rfl) :
  PI X (.Tuple es k1 tpos) (.Call (.Name "zip" p) [x,y] [] pos) (h_ X.K ta):=by
 intro pins s σ H R I h
 refine Call_ (G4 I hg hm boot_zip (PyProof.Rows.callWith_type1 (CJ (ha pos pins s σ H _ I h) fun us s1 ⟨vs,H1,I1,r1,q1⟩=>?_) (by rw [hs,hs2]) (by rw [hs2]; rfl)))
 obtain ⟨a,b,e,⟨xs,q1⟩,⟨ys,q2⟩,q⟩:=q1
 subst e
 obtain ⟨u,v,rfl,ru,rv⟩:=Vals.two r1
 cases ru
 cases rv
 obtain ⟨it1,r1,p1,_⟩:=I1.tuple q1
 obtain ⟨it2,r2,p2,_⟩:=I1.tuple q2
 refine QX (show s1.heap.IsTuple a it1.toArray from p1) (show s1.heap.IsTuple b it2.toArray from p2) fun h1 n hn n1 n2 n3 n4 n5 n6 n7=>?_
 refine wpAny_pyIter_zip (s:={ s1 with heap:=h1 }) n1 ?_
 have la:a<n:=by rw [hn]; exact p1.lt
 have lb:b<n:=by rw [hn]; exact p2.lt
 refine ⟨_,[n,n+1,n+2,n+3,n+4],_,_,H1,rfl,I1.kept (t':=s1.toks) n7,QB a b n la lb,⟨n1,n2,⟨_,_,n3⟩,n4,n5⟩,fun c hc=>?_,q⟩
 have lt:s1.heap.objs.size<=c:=by
  rw [← hn]
  exact WP (P:=fun c=>n<=c) (by omega) (by omega) (by omega) (by omega) (by omega) hc
 exact I1.Kv lt (I1.hok.fresh lt)
end
end L2
namespace L2
open PySem PySem.Spec PyProof.Rows
theorem Ug {prog:Program} {w:World} {A:Around} {R:Result->Shared->Prop} {s:Shared} {elt tg iter:Expr} {ifs:List Expr} {scope:Scope} {pos:Pos} {it acc:Value} {env:Env} (J:Nat->Shared->Prop) {E:Value->Shared->Prop} (hE:E=notedBy (model prog w) A env fun e s'=>R (.error e) s')
  (turn:∀ n s,J n s->wpAny (model prog w) A (pyNext it) (fun r s1=>match r with
   | none=>R (.ok .next) s1
   | some v=>wpAny (model prog w) A (letOwnedTupleGo tg it v) (fun _ s2=>wpAny (model prog w) A (assign tg env v) (fun _ s3 =>
     wpAny (model prog w) A (forIn ifs true fun c r=>if r=true then do let ok ← isTrue c env (eval c env); pure (ForInStep.yield ok) else pure (ForInStep.yield r)) (fun ok s4 =>
      if ok=true then wpAny (model prog w) A (eval elt env) (fun x s5=>wpAny (model prog w) A (call (.builtin "list.append") [acc,x]) (fun _ s6=>∃ m,m<n/\J m s6) E s5) E s4
      else ∃ m,m<n/\J m s4) E s3) E s2) E s1) E s) (n:Nat) (h:J n s) :
  codeAny (model prog w) A (.compLoop (.ListComp elt [⟨tg,iter,ifs,0⟩] scope pos) 0 it acc env) R s:=by
 subst hE
 refine codeAny_loop rfl J (fun n s hJ=>(show wpAny _ A ((compTurn (.ListComp elt [⟨tg,iter,ifs,0⟩] scope pos) 0 it acc env).onRaise (fun x=>do noteFrame x env; theTreesLotGoes x)) _ _ s from wpAny_noted ?_)) n h
 rw [compTurn_list]
 refine wpAny_bind (wpAny_standAt (wpAny_bind (wpAny_mono (turn n s hJ) (fun r s1 h1=>?_) fun _ _ q=>q)))
 cases r with
 | none=>exact wpAny_pure h1
 | some v =>
  refine wpAny_bind (wpAny_mono h1 (fun _ s2 h2=>wpAny_bind (wpAny_mono h2 (fun _ s3 h3=>wpAny_bind (wpAny_mono h3 (fun ok s4 h4=>?_) fun _ _ q=>q)) fun _ _ q=>q)) fun _ _ q=>q)
  cases ok with
  | false=>exact wpAny_pure ⟨rfl,h4⟩
  | true=>exact wpAny_bind (wpAny_bind (wpAny_mono h4 (fun x s5 h5=>wpAny_bind (wpAny_mono h5 (fun _ s6 h6=>wpAny_pure (wpAny_pure ⟨rfl,h6⟩)) fun _ _ q=>q)) fun _ _ q=>q))
noncomputable def Bd (X:Cx) (x z:Str) (scope:Scope) (C:Addr) (s₀:Shared) (H₀:Hp) (fp:List Addr):Cx where
 prog:=X.prog
 w:=X.w
 K:=X.K
 mg:=X.mg
 base:=X.base
 A:=X.A
 N:=x::z::X.N
 s₀:=s₀
 H₀:=H₀
 env:=compEnvC scope (Cj X.env scope.names []) C X.env
 outer:=X.stack
 stack:=X.stack
 ex:=fp
 fn:=fun _=>false
 calm:=X.calm
 pn:=[]
 xe:=fun _ _=>False
structure Df (X:Cx) (x z:Str) (scope:Scope):Prop where
 kind:scope.kind=.function
 nocell:∀ y∈scope.names,y.2 ≠ .cell
 names:∀ y∈scope.names,y.2=.local->scope.names.lookup y.1=some .local
 loc:scope.names.lookup x=some .local
 loz:scope.names.lookup z=some .local
 free:∀ y∈scope.names,y.2=.free->X.env.kindOf y.1=some .cell \/ X.env.kindOf y.1=some .free
 nd:(x::z::X.N).Nodup
 only:∀ y∈X.N,scope.names.lookup y ≠ some .local
section
variable {X:Cx} {pins:List (Addr × Obj)} {σ:St} {H:Hp} {s:Shared} {x z:Str} {scope:Scope} {fp:List Addr} {C:Addr}
theorem Ly {h':Heap} {tk:Nat} {m:Str->Option Value} (I:Inv X pins σ H s) (S:Df X x z scope) (hf:∀ b∈fp,Fd X pins H b) (hlt:∀ b∈fp,b<s.heap.objs.size) (hC:s.heap.objs.size<=C) (hn:h'.Ns C m)
  (hk:∀ b o,s.heap.get? b=some o->h'.get? b=some o):Inv (Bd X x z scope C s H fp) [] (none::none::σ) H { s with heap:=h',toks:=tk }:=by
 have cl:∀ y c,(Cj X.env scope.names []).lookup y=some c->X.env.cells.lookup y=some c:=fun y c e=>by
  rcases Ez X.env scope.names [] y c e with z | z
  ·cases z
  ·exact z
 have cellK:∀ c v,s.heap.IsCell c v->h'.IsCell c v:=fun c v ⟨o,ho,hd⟩=>⟨o,hk c o ho,hd⟩
 have look:∀ y,(Bd X x z scope C s H fp).env.scope.names.lookup y=(scope.names.lookup y).map fun k=>if (k == NameKind.free && X.env.scope.kind == .function && X.env.kindOf y == some .cell) then NameKind.cell else k:=fun y=>En X.env y scope.names
 refine ⟨⟨I.ok.mod,S.kind,I.ok.glob,I.ok.blt,hC,fun y z c e1 e2=>I.ok.inj y z c (cl y c e1) (cl z c e2),fun y hy=>?_,fun y c e _=>(by cases e),fun h=>I.ok.hd h,I.ok.frames,.inl rfl,fun b hb=>?_,I.bs,Nat.le_trans I.ok.bsz I.sz,fun b o e hb=>?_,fun b hb hb'=>?_,I.stack,I.HQ⟩,
  rfl,I.bare,Un.kept hk,⟨m,hn,fun i y v h1 h2 h3=>?_⟩,fun y c e=>?_,I.hok.fresh hC,fun y c e=>I.freeC y c (cl y c e),fun p hp=>absurd (show p∈([]:List (Addr × Obj)) from hp) (by simp),I.hok.kept hk,?_⟩
 ·have hy':(Bd X x z scope C s H fp).env.scope.names.lookup y=some .cell \/ (Bd X x z scope C s H fp).env.scope.names.lookup y=some .free:=hy
  rw [look y] at hy'
  cases e:scope.names.lookup y with
  | none=>rw [e] at hy'; rcases hy' with z | z <;> cases z
  | some k =>
   have hm:=PySem.mem_of_lookup e
   have hfree:k=.free:=by
    rw [e] at hy'
    cases k with
    | free=>rfl
    | cell=>exact absurd rfl (S.nocell _ hm)
    | _=>rcases hy' with z | z <;> simp at z
   subst hfree
   obtain ⟨c,hc⟩:=I.ok.has y (S.free _ hm rfl)
   exact Option.isSome_iff_exists.mp (Ds X.env scope.names [] y hm (by rw [hc]; rfl))
 ·obtain ⟨f0,f1,f2,f3,f4,f5⟩:=hf b hb
  exact ⟨Nat.ne_of_lt (Nat.lt_of_lt_of_le (hlt b hb) hC),fun y c e=>f4 y c (cl y c e)⟩
 ·obtain ⟨f0,f1,f2,f3,f4,f5⟩:=hf b hb
  rcases f3 with z | z
  ·exact I.ok.noex b o e z
  ·exact absurd (Nat.lt_of_lt_of_le (Heap.lt_size e) (Nat.le_trans I.ok.bsz z)) (Nat.lt_irrefl _)
 ·obtain ⟨f0,f1,f2,f3,f4,f5⟩:=hf b hb
  rcases List.mem_cons.mp (I.Ko b hb') with e | e
  ·exact f1 e
  ·exact f2 e
 ·match i,h1,h2 with
  | 0,h1,h2 =>
   have h2':(some none:Option (Option V))=some (some v):=h2
   cases h2'
  | 1,h1,h2 =>
   have h2':(some none:Option (Option V))=some (some v):=h2
   cases h2'
  | i+2,h1,h2 =>
   have e0:X.N[i]? = some y:=h1
   have h2':σ[i]? = some (some v):=h2
   have hmem:y∈X.N:=List.mem_of_getElem? e0
   have h3':(Bd X x z scope C s H fp).env.scope.names.lookup y=some .local \/ (Bd X x z scope C s H fp).env.scope.names.lookup y=some .cell \/ (Bd X x z scope C s H fp).env.scope.names.lookup y=some .free:=h3
   rw [look y] at h3'
   cases e:scope.names.lookup y with
   | none=>rw [e] at h3'; rcases h3' with z | z | z <;> cases z
   | some k =>
    have hm:=PySem.mem_of_lookup e
    have hfree:k=.free:=by
     rw [e] at h3'
     cases k with
     | free=>rfl
     | cell=>exact absurd rfl (S.nocell _ hm)
     | «local»=>exact absurd e (S.only y hmem)
     | _=>rcases h3' with z | z | z <;> simp at z
    subst hfree
    have kd:=S.free _ hm rfl
    obtain ⟨m0,hn0,hl0⟩:=I.loc
    obtain ⟨u,r,l⟩:=hl0 i y v e0 h2' (by rcases kd with z | z; exact .inr (.inl z); exact .inr (.inr z))
    refine ⟨u,r,.inr ⟨?_,?_⟩⟩
    ·have hk':(Bd X x z scope C s H fp).env.scope.names.lookup y=some (if (NameKind.free == NameKind.free && X.env.scope.kind == .function && X.env.kindOf y == some .cell) then NameKind.cell else NameKind.free):=by
      rw [look y,e]; rfl
     by_cases c:(NameKind.free == NameKind.free && X.env.scope.kind == .function && X.env.kindOf y == some .cell)=true
     ·rw [if_pos c] at hk'; exact .inl hk'
     ·rw [if_neg c] at hk'; exact .inr hk'
    ·rcases l with ⟨lk,_⟩ | ⟨_,c,hc,hcell⟩
     ·exfalso
      rcases kd with z | z <;> (rw [show X.env.kindOf y=some NameKind.local from lk] at z; cases z)
     ·obtain ⟨c',hc'⟩:=Option.isSome_iff_exists.mp (Ds X.env scope.names [] y hm (by rw [hc]; rfl))
      have:=cl y c' hc'
      rw [hc] at this
      cases this
      exact ⟨c,hc',cellK c _ hcell⟩
 ·obtain ⟨v,z⟩:=I.cell y c (cl y c e)
  exact ⟨v,cellK c v z⟩
 ·show (none::none::σ).length=(x::z::X.N).length
  simp [I.len]
end
noncomputable def JD (J:It) (σ:St) (H1:Hp) (Q:VK) (g:TG) (tt:TT) (te:TE):Prop:=∀ D,H1 D=none->∃ W:Nat->Nat->List V->Hp->Prop,(∃ m,W 0 m [] (upd H1 D (.lst [])))/\∀ i m ys H2,W i m ys H2 ->
 (J.stop i H2/\Q (.ref D) H2) \/ (J.go i H2/\∀ x H3,J.yld i H2 x H3->∀ v0 v1,g x (v0::v1::σ) H3 fun σ' H3'=>(∃ w0 w1,σ'=w0::w1::σ)/\tt σ' H3' fun b H4 =>
  if b=true then te σ' H4 fun y H5=>H5 D=some (.lst ys)/\ys.length<sizeLine/\∃ m',m'<m/\W (i+1) m' (ys++[y]) (upd H5 D (.lst (ys++[y])))
  else ∃ m',m'<m/\W (i+1) m' ys H4)
noncomputable def Mz (wi:TI) (g:TG) (tt:TT) (te:TE):TE:=fun σ H Q=>wi σ H fun J H1=>JD J σ H1 Q g tt te
section
variable {X:Cx} {x z:Str} {scope:Scope}
theorem Ik {tg:Expr} {pos:Pos} {iter elt:Expr} {ifs:List Expr} {g:TG} {tt:TT} {te:TE} {pins:List (Addr × Obj)} {σ:St} {s2:Shared} {H2:Hp} {it:Addr} {fp:List Addr} {tn:Nat->Heap->Prop} {J:It} {E:Value->Shared->Prop}
  {RR:Value->Addr->Result->Shared->Prop} {Q:VK}
  (hc:X.calm=true) (S:Df X x z scope) (hg:∀ C s₀ H₀ fp,PG (Bd X x z scope C s₀ H₀ fp) tg g) (ht:∀ C s₀ H₀ fp,Ke (Bd X x z scope C s₀ H₀ fp) ifs tt) (he:∀ C s₀ H₀ fp,PE (Bd X x z scope C s₀ H₀ fp) elt te)
  (I2:Inv X pins σ H2 s2) (T:Turn X.prog X.w X.K tg J fp it tn) (st2:tn 0 s2.heap) (f2:∀ b∈fp,Fd X pins H2 b) (q:JD J σ H2 Q g tt te)
  (hRR:∀ D C s' H' m,s'.heap.Ns C m->Fd X pins H' C->Inv X pins σ H' s'->Q (.ref D) H'->RR (.ref D) C (.ok .next) s') :
  wpAny (model X.prog X.w) X.A (newList []) (fun acc s₃=>wpAny (model X.prog X.w) X.A (newFunctionEnv scope X.env.globals (Cj X.env scope.names []) [] X.env.qual none .none (some X.env)) (fun cenv s₄ =>
   codeAny (model X.prog X.w) X.A (.compStart (.ListComp elt [⟨tg,iter,ifs,0⟩] scope pos) 0 (.ref it) acc { cenv with scope:=relabel scope X.env }) (RR acc cenv.locals) s₄) E s₃) E s2:=by
 refine wpAny_newObj_type (wpAny_newFunctionEnv S.nocell (by intro y hy; simp at hy) (fun h₁ hns₁ hsb₁=>?_) S.kind)
 have I3:=I2.WT (its:=[]) (ys:=[]) (t':=s2.toks) .nil (Nat.zero_le _)
 have hD0:H2 s2.heap.objs.size=none:=I2.fresh
 obtain ⟨W,⟨m0,w0⟩,turn⟩:=q _ hD0
 generalize hs3:({ s2 with heap:=s2.heap.push { cls:=.type "list",data:=.seq ([]:List Value).toArray },toks:=s2.toks }:Shared)=s3 at I3
 have e3:s3.heap=s2.heap.push { cls:=.type "list",data:=.seq ([]:List Value).toArray }:=by rw [← hs3]
 have hlt:∀ b∈fp,b<s2.heap.objs.size:=fun b hb=>let ⟨_,e,_⟩:=T.obj _ _ st2 b hb; Heap.lt_size e
 have hlt3:∀ b∈fp,b<s3.heap.objs.size:=fun b hb=>by rw [e3,Heap.size_push]; exact Nat.lt_succ_of_lt (hlt b hb)
 have f3:∀ b∈fp,Fd X pins (upd H2 s2.heap.objs.size (.lst [])) b:=fun b hb=>⟨by rw [Ax (Nat.ne_of_lt (hlt b hb))]; exact (f2 b hb).1,(f2 b hb).2⟩
 have hk1:∀ b o,s3.heap.get? b=some o->h₁.get? b=some o:=fun b o e=>by
  have hne:b ≠ s3.heap.objs.size:=Nat.ne_of_lt (Heap.lt_size e)
  rw [e3] at e hne
  exact hsb₁.extBut b o hne (Heap.get?_push_of_some _ e)
 have hC:s3.heap.objs.size=(s2.heap.push { cls:=.type "list",data:=.seq ([]:List Value).toArray }).objs.size:=by rw [e3]
 have hns:h₁.Ns s3.heap.objs.size (fun x=>([]:List (Str × Value)).reverse.lookup x):=by rw [hC]; exact hns₁
 have st3:tn 0 h₁:=T.keep _ _ _ st2 fun b hb o e=>hk1 b o (by rw [e3]; exact Heap.get?_push_of_some _ e)
 have start:∀ tk,Inv (Bd X x z scope s3.heap.objs.size s3 (upd H2 s2.heap.objs.size (.lst [])) fp) [] (none::none::σ) (upd H2 s2.heap.objs.size (.lst [])) { s3 with heap:=h₁,toks:=tk }:=fun tk =>
  Ly I3 S f3 hlt3 (Nat.le_refl _) hns hk1
 have loop:∀ tk,codeAny (model X.prog X.w) X.A (.compLoop (.ListComp elt [⟨tg,iter,ifs,0⟩] scope pos) 0 (.ref it) (.ref s2.heap.objs.size) (compEnvC scope (Cj X.env scope.names []) s3.heap.objs.size X.env))
   (RR (.ref s2.heap.objs.size) s3.heap.objs.size) { s3 with heap:=h₁,toks:=tk }:=by
  intro tk
  refine Ug (fun n s'=>∃ i ys v0 v1 H',Inv (Bd X x z scope s3.heap.objs.size s3 (upd H2 s2.heap.objs.size (.lst [])) fp) [] (v0::v1::σ) H' s'/\tn i s'.heap/\(∀ b∈fp,H' b=none)/\W i n ys H') rfl ?_ m0
   ⟨0,[],none,none,_,start tk,st3,fun b hb=>(f3 b hb).1,w0⟩
  rintro n s4 ⟨i,ys,v0,v1,H4,I4,st4,fr4,w4⟩
  have stat:∀ {H':Hp},(∀ b∈fp,H' b=none)->∀ b∈fp,Fd (Bd X x z scope s3.heap.objs.size s3 (upd H2 s2.heap.objs.size (.lst [])) fp) [] H' b:=fun hn b hb=>by
   refine ⟨hn b hb,(I4.ok.exf b hb).1,I4.ok.exfs b hb,.inl hb,(I4.ok.exf b hb).2,fun p hp=>absurd (show p∈([]:List (Addr × Obj)) from hp) (by simp)⟩
  rcases turn i n ys H4 w4 with ⟨stop,qn⟩ | ⟨go,step⟩
  ·refine CJ (T.done (Bd X x z scope s3.heap.objs.size s3 (upd H2 s2.heap.objs.size (.lst [])) fp) rfl rfl rfl hc i [] s4 (v0::v1::σ) H4 _ I4 (stat fr4) st4 stop) fun r s5 ⟨hr,I5⟩=>?_
   subst hr
   obtain ⟨m,hn,_⟩:=I5.loc
   refine hRR _ _ s5 H4 m hn (I3.Kv (Nat.le_refl _) I5.free) (I3.call' (s':=s5) (ch:=fp) I5.os I5.base I5.hok I5.bare (fun b hb=>?_)) qn
   obtain ⟨_,g1,_,g3,g4,g5⟩:=f3 b hb
   exact ⟨g3,g1,g4,g5⟩
  ·refine CJ (T.item (Bd X x z scope s3.heap.objs.size s3 (upd H2 s2.heap.objs.size (.lst [])) fp) rfl rfl rfl hc i [] s4 (v0::v1::σ) H4 _ I4 (stat fr4) st4 go) fun r s5 ⟨u,hr,h5⟩=>?_
   subst hr
   refine CJ h5 fun _ s6 h6=>?_
   obtain ⟨xv,H6,I6,r6,y6,st6,fr6⟩:=h6
   have I6':=I6.pinned (stat fr6) (T.obj _ _ st6)
   have again:∀ {s7:Shared} {H7:Hp} {ys':List V} {w0 w1:Option V},Inv (Bd X x z scope s3.heap.objs.size s3 (upd H2 s2.heap.objs.size (.lst [])) fp) ([]++Hr fp s6.heap) (w0::w1::σ) H7 s7->(∃ m',m'<n/\W (i+1) m' ys' H7) ->
     ∃ m,m<n/\∃ i ys v0 v1 H',Inv (Bd X x z scope s3.heap.objs.size s3 (upd H2 s2.heap.objs.size (.lst [])) fp) [] (v0::v1::σ) H' s7/\tn i s7.heap/\(∀ b∈fp,H' b=none)/\W i m ys H':=fun {s7 H7 ys' w0 w1} I7 hw=>by
    obtain ⟨m',hm,w7⟩:=hw
    refine ⟨m',hm,i+1,ys',w0,w1,H7,I7.Ga,T.keep _ _ _ st6 fun b hb o e=>(I7.pin (b,o) (List.mem_append_right _ (List.mem_append_right _ (Dq hb e)))).1,fun b hb=>?_,w7⟩
    obtain ⟨o,e,d⟩:=T.obj _ _ st6 b hb
    exact (I7.pin (b,o) (List.mem_append_right _ (List.mem_append_right _ (Dq hb e)))).2.1
   refine Mm (hg _ _ _ _ _ s6 (v0::v1::σ) H6 xv u _ I6' r6 (step xv H6 y6 v0 v1)) fun _ s7 ⟨σ7,H7,I7,⟨w0,w1,e7⟩,q7⟩=>?_
   subst e7
   refine Mm (ht _ _ _ _ _ s7 (w0::w1::σ) H7 _ I7 q7) fun b s8 hq0=>?_
   obtain ⟨H8,I8,q8⟩:=hq0
   cases b with
   | false =>
    rw [if_neg Bool.false_ne_true] at q8 ⊢
    exact again I8 q8
   | true =>
    rw [if_pos rfl] at q8 ⊢
    refine Mm (he _ _ _ _ _ s8 (w0::w1::σ) H8 _ I8 q8) fun y s9 hq0=>?_
    obtain ⟨yv,H9,I9,r9,hD9,hz9,q9⟩:=hq0
    refine Mm (Dg (X:=Bd X x z scope s3.heap.objs.size s3 (upd H2 s2.heap.objs.size (.lst [])) fp) _ s9 (w0::w1::σ) H9 (.ref s2.heap.objs.size) [yv] (.ref s2.heap.objs.size) [y] (fun _ H'=>H'=upd H9 s2.heap.objs.size (.lst (ys++[yv]))) I9 rfl (.cons r9 .nil)
     ⟨_,ys,yv,rfl,rfl,hD9,hz9,rfl⟩) fun _ s10 ⟨_,H10,I10,_,e10⟩=>?_
    subst e10
    exact again I10 q9
 have key:=fun tk=>codeAny_compStart_list (R:=RR (.ref s2.heap.objs.size) s3.heap.objs.size) (loop tk) (T.self X.A 0 { s3 with heap:=h₁,toks:=tk } (fun it' s'=>codeAny (model X.prog X.w) X.A (.compLoop (.ListComp elt [⟨tg,iter,ifs,0⟩] scope pos) 0 it' (.ref s2.heap.objs.size) (compEnvC scope (Cj X.env scope.names []) s3.heap.objs.size X.env)) (RR (.ref s2.heap.objs.size) s3.heap.objs.size) s') _ st3 (loop tk))
 subst hs3
 exact key _
theorem Rv {tg:Expr} {pos:Pos} {iter elt:Expr} {ifs:List Expr} {wi:TI} {g:TG} {tt:TT} {te:TE} (hc:X.calm=true) (S:Df X x z scope) (hi:PI X tg iter wi) (hg:∀ C s₀ H₀ fp,PG (Bd X x z scope C s₀ H₀ fp) tg g)
  (ht:∀ C s₀ H₀ fp,Ke (Bd X x z scope C s₀ H₀ fp) ifs tt) (he:∀ C s₀ H₀ fp,PE (Bd X x z scope C s₀ H₀ fp) elt te) (hs:∀ x,foldedSetIterable iter X.env x=pure x:=by intro _; rfl) :
  PE X (.ListComp elt [⟨tg,iter,ifs,0⟩] scope pos) (Mz wi g tt te):=by
 intro pins s σ H Q I h
 rw [eval_ListComp]
 refine wpAny_comprehension_free (use:=none) (cl:=Cj X.env scope.names []) rfl hs (Fj fun y hy hk=>I.ok.has y.1 (S.free y hy hk)) S.kind S.names (CJ (hi pins s σ H _ I h) fun v s1 h1=>CJ h1 fun itv s2 h2=>?_)
 obtain ⟨it,fp,tn,J,H2,e,I2,T,st2,f2,q⟩:=h2
 subst e
 refine Ik (RR:=fun acc C=>compPost (model X.prog X.w) X.A X.xe none (EP X pins σ Q) acc C) (Q:=Q) hc S hg ht he I2 T st2 f2 q ?_
 intro D C s' H' m hn hf hI hq
 exact ⟨m,hn,fun h' sb=>⟨.ref D,H',hI.sameBut hf sb,rfl,hq⟩⟩
end
end L2
namespace L2
open PySem PySem.Spec PySem.Calls PyProof.Rows
theorem Al.tup {K:PySem.W.Frag} {H H':Hp} {a:Addr} {xs:List V} (e:Al H H') (h:G8 K H a xs):G8 K H' a xs:=by
 rcases h with (h | ⟨o,h⟩) | h
 ·exact .inl (.inl (e _ _ h))
 ·exact .inl (.inr ⟨o,e _ _ h⟩)
 ·exact .inr h
noncomputable def TupAt (H:Hp) (zs:List V) (y:V):Prop:=∃ T,y=.ref T/\H T=some (.tup zs)
theorem TupAt.mono {H H':Hp} {zs:List V} {y:V} (s:Al H H') (h:TupAt H zs y):TupAt H' zs y:=let ⟨T,e,q⟩:=h; ⟨T,e,s _ _ q⟩
theorem TupAt.upd {H:Hp} {zs ys ws:List V} {y:V} {D:Addr} (h:TupAt H zs y) (hD:H D=some (.lst ys)):TupAt (upd H D (.lst ws)) zs y:=by
 obtain ⟨T,e,q⟩:=h
 refine ⟨T,e,?_⟩
 rw [Ax fun z=>by rw [z,hD] at q; cases q]
 exact q
theorem Cm {α:Type} {H:Hp} {f:α->List V} {l:List α} {vs ys ws:List V} {D:Addr} (h:Paired (fun a y=>TupAt H (f a) y) l vs) (hD:H D=some (.lst ys)):Paired (fun a y=>TupAt (upd H D (.lst ws)) (f a) y) l vs:=Paired.Lz h fun _ _ q=>q.upd hD
theorem Aj {α:Type} {H H':Hp} {f:α->List V} {l:List α} {vs:List V} (s:Al H H') (h:Paired (fun a y=>TupAt H (f a) y) l vs):Paired (fun a y=>TupAt H' (f a) y) l vs:=Paired.Lz h fun _ _ q=>q.mono s
noncomputable def K6 (x z:Str) (scope osc:Scope) (N:List Str):Bool :=
 (scope.kind == .function) && scope.names.all (fun y=>y.2 != .cell && (y.2 != .local || scope.names.lookup y.1 == some .local) && (y.2 != .free || osc.names.lookup y.1 == some .cell || osc.names.lookup y.1 == some .free)) && (scope.names.lookup x == some .local) && (scope.names.lookup z == some .local) &&
 decide ((x::z::N).Nodup) && N.all (fun y=>scope.names.lookup y != some .local)
theorem Em {X:Cx} {x z:Str} {scope osc:Scope} {N:List Str} (hsc:X.env.scope=osc) (hN:X.N=N) (h:K6 x z scope osc N=true):Df X x z scope:=by
 unfold K6 at h
 simp only [Bool.and_eq_true] at h
 obtain ⟨⟨⟨⟨⟨h1,h2⟩,h3⟩,h3'⟩,h4⟩,h5⟩:=h
 rw [List.all_eq_true] at h2 h5
 have kind:∀ y,X.env.kindOf y=osc.names.lookup y:=fun y=>by show X.env.scope.names.lookup y=_; rw [hsc]
 refine ⟨by simpa using h1,fun y hy=>?_,fun y hy hk=>?_,by simpa using h3,by simpa using h3',fun y hy hk=>?_,by rw [hN]; exact of_decide_eq_true h4,fun y hy=>?_⟩
 ·have:=h2 y hy
  simp only [Bool.and_eq_true,bne_iff_ne] at this
  exact this.1.1
 ·have:=h2 y hy
  simp only [Bool.and_eq_true] at this
  simpa [hk] using this.1.2
 ·have:=h2 y hy
  simp only [Bool.and_eq_true] at this
  rw [kind]
  simpa [hk] using this.2
 ·have:=h5 y (by rw [← hN]; exact hy)
  simpa using this
section
variable {X:Cx} {x z:Str} {scope:Scope}
theorem N5 {px pz pos:Pos} {k:Nat} {C:Addr} {s₀:Shared} {H₀:Hp} {fp:List Addr} (hc:X.calm=true) (S:Df X x z scope) :
  PG (Bd X x z scope C s₀ H₀ fp) (.Tuple [.Name x px,.Name z pz] k pos) (O7 X.K 2 (GR (Dc 0) (GR (Dc 1) Pb))):=by
 have l1:(Bd X x z scope C s₀ H₀ fp).env.scope.names.lookup x=some .local:=lookup_relabel_local S.loc
 have l2:(Bd X x z scope C s₀ H₀ fp).env.scope.names.lookup z=some .local:=lookup_relabel_local S.loz
 exact IK (X:=Bd X x z scope C s₀ H₀ fp) (n:=2) hc (Cr (Bo (X:=Bd X x z scope C s₀ H₀ fp) (i:=0) S.nd rfl (.inl l1) (.inr l1)) (Cr (Bo (X:=Bd X x z scope C s₀ H₀ fp) (i:=1) S.nd rfl (.inl l2) (.inr l2)) Gu))
theorem Iz {px pz tpos:Pos} {k:Nat} {pos:Pos} {iter elt:Expr} {ifs:List Expr} {wi:TI} {tt:TT} {te:TE} (hc:X.calm=true) (S:Df X x z scope) (hi:PI X (.Tuple [.Name x px,.Name z pz] k tpos) iter wi)
  (ht:∀ C s₀ H₀ fp,Ke (Bd X x z scope C s₀ H₀ fp) ifs tt) (he:∀ C s₀ H₀ fp,PE (Bd X x z scope C s₀ H₀ fp) elt te) (hs:∀ x,foldedSetIterable iter X.env x=pure x:=by intro _; rfl) :
  PE X (.ListComp elt [⟨.Tuple [.Name x px,.Name z pz] k tpos,iter,ifs,0⟩] scope pos) (Mz wi (O7 X.K 2 (GR (Dc 0) (GR (Dc 1) Pb))) tt te) :=
 Rv hc S hi (fun _ _ _ _=>N5 hc S) ht he hs
end
section
variable {σ:St} {H1:Hp} {Q:VK} {tt:TT} {te:TE}
theorem Bq {K:PySem.W.Frag} {a:Addr} {xs:List V} (p:V->Bool) (f:V->V) (hl:CZ K H1 a xs) (hz:xs.length<sizeLine)
  (ht:∀ x∈xs,∀ H,Al H1 H->∀ R:Bool->Hp->Prop,(∀ H',Al H H'->R (p x) H')->tt (some x::σ) H R)
  (he:∀ x∈xs,p x=true->∀ H,Al H1 H->∀ R:VK,(∀ H',Al H H'->R (f x) H')->te (some x::σ) H R)
  (hq:∀ D H,H1 D=none->Al H1 H->H D=some (.lst ((xs.filter p).map f))->Q (.ref D) H):GF (Wm K a) σ H1 Q tt te :=
 HY p f hz (fun i H x hs hx=>⟨xs,x,hs.seq hl,hx⟩) (fun i H y H' hs _ hy=>⟨hy.1,hy.2 xs (hs.seq hl)⟩) (fun H hs=>⟨xs,hs.seq hl,Nat.le_refl _⟩) ht he hq
theorem J_ {J:It} {xs:List V} (p:V->Bool) (f:V->List V) (hz:xs.length<sizeLine)
  (hgo:∀ i H x,Al H1 H->xs[i]? = some x->J.go i H) (hy:∀ i H y H',Al H1 H->i<xs.length->J.yld i H y H'->H'=H/\xs[i]? = some y) (hstop:∀ H,Al H1 H->J.stop xs.length H)
  (ht:∀ x∈xs,∀ H,Al H1 H->∀ R:Bool->Hp->Prop,(∀ H',Al H H'->R (p x) H')->tt (some x::σ) H R)
  (he:∀ x∈xs,p x=true->∀ H,Al H1 H->∀ R:VK,(∀ y H',Al H H'->TupAt H' (f x) y->R y H')->te (some x::σ) H R)
  (hq:∀ D H ys,H1 D=none->Al H1 H->H D=some (.lst ys)->Paired (fun x y=>TupAt H (f x) y) (xs.filter p) ys->Q (.ref D) H):GF J σ H1 Q tt te:=by
 intro D hD
 have s0:Al H1 (upd H1 D (.lst [])):=fun b o e=>by rw [Ax (Aw e hD)]; exact e
 refine ⟨fun i m ys H=>m=xs.length - i/\i<=xs.length/\H D=some (.lst ys)/\Paired (fun x y=>TupAt H (f x) y) ((xs.take i).filter p) ys/\Al H1 H,⟨xs.length,by simp,Nat.zero_le _,Ak,by simpa using Paired.nil,s0⟩,?_⟩
 rintro i m ys H ⟨rfl,hi,hd,hp,hs⟩
 by_cases hlt:i<xs.length
 ·obtain ⟨x,hx⟩:∃ x,xs[i]? = some x:=⟨xs[i],by simp [hlt]⟩
  refine .inr ⟨hgo i H x hs hx,fun y H3 hyl=>?_⟩
  obtain ⟨rfl,hy'⟩:=hy i H y H3 hs hlt hyl
  rw [hx] at hy'
  cases hy'
  have hm:x∈xs:=List.mem_of_getElem? hx
  have hlen:ys.length<sizeLine:=by
   rw [← hp.length]
   refine Nat.lt_of_le_of_lt (List.length_filter_le _ _) (Nat.lt_of_le_of_lt ?_ hz)
   rw [List.length_take]; omega
  refine ht x hm _ hs _ fun H4 s4=>?_
  by_cases hpx:p x=true
  ·rw [if_pos hpx]
   refine he x hm hpx H4 (hs.trans s4) _ fun y H5 s5 hφ=>?_
   refine ⟨s5 _ _ (s4 _ _ hd),hlen,xs.length - (i+1),by omega,rfl,hlt,Ak,?_,fun b o e=>?_⟩
   ·rw [take_succ_filter p xs i x hx,if_pos hpx]
    exact (Cm (Aj (s4.trans s5) hp) (s5 _ _ (s4 _ _ hd))).snoc (hφ.upd (s5 _ _ (s4 _ _ hd)))
   ·rw [Ax (Aw e hD)]; exact s5 _ _ (s4 _ _ (hs _ _ e))
  ·rw [if_neg hpx]
   refine ⟨xs.length - (i+1),by omega,rfl,hlt,s4 _ _ hd,?_,hs.trans s4⟩
   rw [take_succ_filter p xs i x hx,if_neg hpx,List.append_nil]
   exact Aj s4 hp
 ·have e:i=xs.length:=by omega
  subst e
  rw [List.take_length] at hp
  exact .inl ⟨hstop H hs,hq D H ys hD hs hd hp⟩
theorem Hj {K:PySem.W.Frag} {a:Addr} {xs:List V} (p:V->Bool) (f:V->List V) (hl:CZ K H1 a xs) (hz:xs.length<sizeLine)
  (ht:∀ x∈xs,∀ H,Al H1 H->∀ R:Bool->Hp->Prop,(∀ H',Al H H'->R (p x) H')->tt (some x::σ) H R)
  (he:∀ x∈xs,p x=true->∀ H,Al H1 H->∀ R:VK,(∀ y H',Al H H'->TupAt H' (f x) y->R y H')->te (some x::σ) H R)
  (hq:∀ D H ys,H1 D=none->Al H1 H->H D=some (.lst ys)->Paired (fun x y=>TupAt H (f x) y) (xs.filter p) ys->Q (.ref D) H):GF (Wm K a) σ H1 Q tt te :=
 J_ p f hz (fun i H x hs hx=>⟨xs,x,hs.seq hl,hx⟩) (fun i H y H' hs _ hy=>⟨hy.1,hy.2 xs (hs.seq hl)⟩) (fun H hs=>⟨xs,hs.seq hl,Nat.le_refl _⟩) ht he hq
theorem Kw {α β:Type} {F:α->β->Prop} (g:Nat->α):∀ {n:Nat} {l:List α} {ys:List β},Paired F l ys->l=(List.range n).map g->Paired (fun i y=>F (g i) y) (List.range n) ys:=by
 intro n
 have key:∀ (js:List Nat) (ys:List β),Paired F (js.map g) ys->Paired (fun i y=>F (g i) y) js ys:=by
  intro js
  induction js with
  | nil=>intro ys h; cases h; exact .nil
  | cons j js ih =>
   intro ys h
   cases h with
   | cons a b=>exact .cons a (ih _ b)
 intro l ys h e
 subst e
 exact key _ _ h
theorem Pz {n:Nat} (f:Nat->List V) (hz:n<sizeLine)
  (he:∀ i:Nat,i<n->∀ H,Al H1 H->∀ R:VK,(∀ y H',Al H H'->TupAt H' (f i) y->R y H')->te (some (.int (i:Int))::σ) H R)
  (hq:∀ D H ys,H1 D=none->Al H1 H->H D=some (.lst ys)->Paired (fun i y=>TupAt H (f i) y) (List.range n) ys->Q (.ref D) H):GF (Zh 0 n) σ H1 Q T4 te:=by
 let g:V->Nat:=fun v=>match v with | .int i=>i.toNat | _=>0
 have hxs:∀ i:Nat,i<n->((List.range n).map fun (i:Nat)=>V.int (i:Int))[i]? = some (.int i):=fun i hi=>by simp [hi]
 refine J_ (xs:=(List.range n).map fun (i:Nat)=>V.int (i:Int)) (fun _=>true) (fun v=>f (g v)) (by simpa using hz) (fun i H x _ hx=>?_) (fun i H y H' _ hi hy=>?_) (fun H _=>?_) (fun x hx H hs R k=>k H (Al.refl H)) (fun x hx _ H hs R k=>?_) (fun D H ys h1 h2 h3 h4=>?_)
 ·have:i<((List.range n).map fun (i:Nat)=>V.int (i:Int)).length:=(List.getElem?_eq_some_iff.mp hx).1
  show i<n
  simpa using this
 ·obtain ⟨e1,e2⟩:=hy
  have hi':i<n:=by simpa using hi
  refine ⟨e1,?_⟩
  rw [hxs i hi',e2,Int.zero_add]
 ·show n<=_
  simp
 ·obtain ⟨i,hi,rfl⟩:=List.mem_map.mp hx
  exact he i (List.mem_range.mp hi) H hs R k
 ·rw [List.filter_eq_self.mpr (fun _ _=>rfl)] at h4
  exact hq D H ys h1 h2 h3 (Kw (F:=fun x y=>TupAt H (f (g x)) y) (fun i=>V.int (i:Int)) h4 rfl)
theorem Sd {K:PySem.W.Frag} {a b:Addr} {xs ys:List V} (f:V->V->V) (hx:G8 K H1 a xs) (hy:G8 K H1 b ys) (hl:xs.length=ys.length) (hz:xs.length<sizeLine)
  (he:∀ (i:Nat) x y,xs[i]? = some x->ys[i]? = some y->∀ H,Al H1 H->∀ R:VK,(∀ H',Al H H'->R (f x y) H')->te (some x::some y::σ) H R)
  (hq:∀ D H,H1 D=none->Al H1 H->H D=some (.lst (List.zipWith f xs ys))->Q (.ref D) H):JD (dj K a b) σ H1 Q (O7 K 2 (GR (Dc 0) (GR (Dc 1) Pb))) T4 te:=by
 intro D hD
 have s0:Al H1 (upd H1 D (.lst [])):=fun b o e=>by rw [Ax (Aw e hD)]; exact e
 refine ⟨fun i m zs H=>m=xs.length - i/\i<=xs.length/\zs=(List.zipWith f xs ys).take i/\H D=some (.lst zs)/\Al H1 H,⟨xs.length,by simp,Nat.zero_le _,by simp,Ak,s0⟩,?_⟩
 rintro i m zs H ⟨rfl,hi,rfl,hd,hs⟩
 have hzl:(List.zipWith f xs ys).length=xs.length:=by rw [List.length_zipWith]; omega
 by_cases hlt:i<xs.length
 ·have ex:xs[i]? = some xs[i]:=List.getElem?_eq_getElem hlt
  have ey:ys[i]? = some ys[i]:=List.getElem?_eq_getElem (hl ▸ hlt)
  refine .inr ⟨⟨xs,ys,_,_,hs.tup hx,hs.tup hy,ex,ey⟩,fun v H3 hv v0 v1=>?_⟩
  obtain ⟨T,hT,rfl,hv⟩:=hv
  obtain ⟨x,y,qx,qy,rfl⟩:=hv xs ys (hs.tup hx) (hs.tup hy)
  have s3:Al H (upd H T (.tup [x,y])):=fun b o e=>by rw [Ax (Aw e hT)]; exact e
  refine ⟨T,[x,y],rfl,.inl (.inl Ak),rfl,x,[y],rfl,y,[],rfl,rfl,⟨_,_,rfl⟩,?_⟩
  unfold T4
  dsimp only
  rw [if_pos rfl]
  refine he i x y qx qy _ (hs.trans s3) _ fun H5 s5=>?_
  refine ⟨s5 _ _ (s3 _ _ hd),?_,xs.length - (i+1),by omega,rfl,hlt,?_,Ak,fun b o e=>?_⟩
  ·rw [List.length_take,hzl]
   omega
  ·rw [List.take_add_one,List.getElem?_zipWith,qx,qy]
   rfl
  ·rw [Ax (Aw e hD)]
   exact s5 _ _ (s3 _ _ (hs _ _ e))
 ·have e:i=xs.length:=by omega
  subst e
  rw [← hzl,List.take_length] at hd
  exact .inl ⟨⟨xs,hs.tup hx,Nat.le_refl _⟩,hq D H hD hs hd⟩
theorem Gp {K:PySem.W.Frag} {a:Addr} {xs:List V} (p:Nat->V->Bool) (f:Nat->V->V) (hx:CZ K H1 a xs) (hz:xs.length<sizeLine)
  (ht:∀ (i:Nat) x,xs[i]? = some x->∀ H,Al H1 H->∀ R:Bool->Hp->Prop,(∀ H',Al H H'->R (p i x) H')->tt (some (.int (i:Int))::some x::σ) H R)
  (he:∀ (i:Nat) x,xs[i]? = some x->p i x=true->∀ H,Al H1 H->∀ R:VK,(∀ H',Al H H'->R (f i x) H')->te (some (.int (i:Int))::some x::σ) H R)
  (hq:∀ D H,H1 D=none->Al H1 H->H D=some (.lst ((xs.zipIdx.filter fun q=>p q.2 q.1).map fun q=>f q.2 q.1))->Q (.ref D) H):JD (Xp K a) σ H1 Q (O7 K 2 (GR (Dc 0) (GR (Dc 1) Pb))) tt te:=by
 intro D hD
 have s0:Al H1 (upd H1 D (.lst [])):=fun b o e=>by rw [Ax (Aw e hD)]; exact e
 refine ⟨fun i m zs H=>m=xs.length - i/\i<=xs.length/\zs=(((xs.zipIdx.take i).filter fun q=>p q.2 q.1).map fun q=>f q.2 q.1)/\H D=some (.lst zs)/\Al H1 H,⟨xs.length,by simp,Nat.zero_le _,by simp,Ak,s0⟩,?_⟩
 rintro i m zs H ⟨rfl,hi,rfl,hd,hs⟩
 by_cases hlt:i<xs.length
 ·have ex:xs[i]? = some xs[i]:=List.getElem?_eq_getElem hlt
  refine .inr ⟨⟨xs,_,hs.seq hx,ex⟩,fun v H3 hv v0 v1=>?_⟩
  obtain ⟨T,hT,rfl,hv⟩:=hv
  obtain ⟨x,qx,rfl⟩:=hv xs (hs.seq hx)
  have s3:Al H (upd H T (.tup [.int (i:Int),x])):=fun b o e=>by rw [Ax (Aw e hT)]; exact e
  have ez:xs.zipIdx[i]? = some (x,i):=by rw [List.getElem?_zipIdx,qx]; simp
  have hlen:(((xs.zipIdx.take i).filter fun q=>p q.2 q.1).map fun q=>f q.2 q.1).length<sizeLine:=by
   rw [List.length_map]
   refine Nat.lt_of_le_of_lt (List.length_filter_le _ _) (Nat.lt_of_le_of_lt ?_ hz)
   rw [List.length_take,List.length_zipIdx]; omega
  refine ⟨T,[.int (i:Int),x],rfl,.inl (.inl Ak),rfl,_,[x],rfl,x,[],rfl,rfl,⟨_,_,rfl⟩,?_⟩
  refine ht i x qx _ (hs.trans s3) _ fun H4 s4=>?_
  by_cases hp:p i x=true
  ·rw [if_pos hp]
   refine he i x qx hp _ (hs.trans (s3.trans s4)) _ fun H5 s5=>?_
   refine ⟨s5 _ _ (s4 _ _ (s3 _ _ hd)),hlen,xs.length - (i+1),by omega,rfl,hlt,?_,Ak,fun b o e=>?_⟩
   ·rw [take_succ_filter (fun q:V × Nat=>p q.2 q.1) xs.zipIdx i (x,i) ez,if_pos hp,List.map_append]
    rfl
   ·rw [Ax (Aw e hD)]
    exact s5 _ _ (s4 _ _ (s3 _ _ (hs _ _ e)))
  ·rw [if_neg hp]
   refine ⟨xs.length - (i+1),by omega,rfl,hlt,?_,s4 _ _ (s3 _ _ hd),hs.trans (s3.trans s4)⟩
   rw [take_succ_filter (fun q:V × Nat=>p q.2 q.1) xs.zipIdx i (x,i) ez,if_neg hp,List.append_nil]
 ·have e:i=xs.length:=by omega
  subst e
  rw [List.take_of_length_le (by simp)] at hd
  exact .inl ⟨⟨xs,hs.seq hx,Nat.le_refl _⟩,hq D H hD hs hd⟩
end
theorem GP {K:PySem.W.Frag} {a:Addr} {xs:List V} {g:TG} {tb:TS} {D:Ends} {σ:St} {H:Hp} (Pv:Nat->St->Hp->Prop) (h0:Pv 0 σ H) (hl:∀ i σ H,i<=xs.length->Pv i σ H->CZ K H a xs)
  (hb:∀ (i:Nat) x σ H T,xs[i]? = some x->Pv i σ H->H T=none->g (.ref T) σ (upd H T (.tup [.int (i:Int),x])) fun σ' H'=>tb { D with nx:=Pv (i+1),ct:=Pv (i+1),bk:=D.nx } σ' H')
  (hn:∀ σ H,Pv xs.length σ H->D.nx σ H):∃ W:Nat->Nat->St->Hp->Prop,(∃ m,W 0 m σ H)/\∀ i m σ H,W i m σ H ->
   ((Xp K a).stop i H/\D.nx σ H) \/ ((Xp K a).go i H/\∃ N:St->Hp->Prop,(∀ σ H,N σ H->∃ m',m'<m/\W (i+1) m' σ H)/\∀ x H',(Xp K a).yld i H x H'->g x σ H' fun σ' H''=>tb { D with nx:=N,ct:=N,bk:=D.nx } σ' H''):=by
 refine ⟨fun i m σ H=>m=xs.length - i/\i<=xs.length/\Pv i σ H,⟨_,rfl,Nat.zero_le _,h0⟩,?_⟩
 rintro i m σ H ⟨rfl,hi,hp⟩
 by_cases hlt:i<xs.length
 ·refine .inr ⟨⟨xs,_,hl i σ H hi hp,List.getElem?_eq_getElem hlt⟩,Pv (i+1),fun σ' H' h=>⟨xs.length - (i+1),by omega,rfl,hlt,h⟩,fun v H' hv=>?_⟩
  obtain ⟨T,hT,rfl,hv⟩:=hv
  obtain ⟨x,qx,rfl⟩:=hv xs (hl i σ H hi hp)
  exact hb i x σ H T qx hp hT
 ·have e:i=xs.length:=by omega
  subst e
  exact .inl ⟨⟨xs,hl _ σ H hi hp,Nat.le_refl _⟩,hn σ H hp⟩
end L2
namespace L2
open PySem PySem.Spec PySem.Calls PyProof.Rows
structure Ka (K:PySem.W.Frag) (C:Addr):Prop where
 ga:PySem.W.findIn K (.ref C) "__getattribute__" = some (some (.builtin "BaseException.__getattribute__"))
 gt:PySem.W.findIn K (.ref C) "__getattr__" = some none
 mb:PySem.W.mroIn K C (.type "BaseException")=some true
 hd:PySem.W.hasDictIn K C=true
 ca:PySem.W.findIn K (.ref C) "__class__" = some (some (.builtin "object.__class__"))
 cg:PySem.W.specialIn K (.builtin "object.__class__") "__get__" = some (some (.builtin "getset_descriptor.__get__"))
 ct:PySem.W.takesIn K (.builtin "object.__class__")=some true
 mo:PySem.W.mroIn K C (.type "object")=some true
section
variable {prog:Program} {w:World} {A:Around} {E:Value->Shared->Prop} {s:Shared} {K:PySem.W.Frag} {x C:Addr} {ox:Obj} {od:Option Obj} {name:Str} {tk:Tok} {R:Result->Shared->Prop}
theorem Q8:builtinKind "BaseException.__getattribute__" = some .slot:=by decide +kernel
theorem Qd:splitId "BaseException.__getattribute__" = some ("BaseException","__getattribute__"):=by decide +kernel
theorem Pg (X:K.In s.heap) (I:PySem.W.InstAt s.heap x ox C od) (c:Ka K C)
  (h:wpAny (model prog w) A.in1 (Builtin.«object.__getattribute__» ⟨[.ref x,.str name tk],[]⟩) (fun fin s'=>match fin with | Fin.done f=>R (.ok f) s' | Fin.again c'=>c'.quiet=true/\codeAny (model prog w) A c' R s') (fun e s'=>R (.error e) s') s) :
  codeAny (model prog w) A (.call (.builtin "BaseException.__getattribute__") ⟨[.ref x,.str name tk],[]⟩) R s:=by
 have sub:PySem.W.Looks (model prog w) s.heap (isInstance (.ref x) (.type "BaseException")) true:=I.type.andThen (PySem.W.looks_mroIn X c.mb)
 exact codeAny_call_builtin PySem.F.attrBase_ValueError.ga.plain PySem.F.entry_bexc_ga (@PySem.W.check_slot (model prog w) _ _ s "BaseException.__getattribute__" "BaseException" "__getattribute__" (.ref x) [.str name tk] [] _ Q8 Qd sub (PySem.F.args_bexc_ga _ _) h)
theorem QV (X:K.In s.heap) (I:PySem.W.InstAt s.heap x ox C od) (c:Ka K C) (h:R (.ok (.ret (.ref C))) s) :
  codeAny (model prog w) A (.call (.builtin "BaseException.__getattribute__") ⟨[.ref x,.str "__class__" tk],[]⟩) R s:=by
 have hf:PySem.W.findObj K C od "__class__" = some (.bind (.builtin "getset_descriptor.__get__") (.builtin "object.__class__")):=by
  obtain ⟨cd,hc,_⟩:=PySem.W.any_some c.hd
  unfold PySem.W.findObj
  rw [hc,Option.bind_some,c.ca,Option.bind_some]
  simp [c.cg,c.ct]
 refine Pg X I c ?_
 obtain ⟨hh,g,d,t,os⟩:=s
 have L0:=I.type (M:=model prog w)
 have L1:=PySem.W.looks_find (M:=model prog w) X I hf
 unfold Builtin.«object.__getattribute__»
 refine wpAny_bind (wpAny_pure (wpAny_bind (wpAny_pure (wpAny_bind (L0.at (wpAny_bind (L1.at ?_)))))))
 show wpAny _ _ (holding [Value.builtin "object.__class__"] (call (.builtin "getset_descriptor.__get__") [.builtin "object.__class__",.ref x,.ref C]) >>= ret) _ _ _
 exact wpAny_bind (wpAny_holding (wpAny_call (PySem.W.class_get (ox:=ox) (od:=od) X I c.mo (wpAny_pure h))))
theorem j5 {fill expr:Bool} {Q:Value->Shared->Prop} {v:Value} (X:K.In s.heap) (I:PySem.W.InstAt s.heap x ox C od) (c:Ka K C) (hh:PySem.W.handedIn v=true)
  (hc:∀ (A:Around) (R:Result->Shared->Prop),R (.ok (.ret v)) s->codeAny (model prog w) A (.call (.builtin "BaseException.__getattribute__") ⟨[.ref x,.str name tk],[]⟩) R s) (h:Q v s) :
  wpAny (model prog w) A (getAttrBy (.ref x) (.str name tk) fill expr) Q E s:=by
 have L0:=I.type (M:=model prog w)
 have L1:=PySem.W.looks_findIn (M:=model prog w) X c.ga
 have L2:=PySem.W.looks_findIn (M:=model prog w) X c.gt
 have hx2:(Value.builtin "BaseException.__getattribute__" == Value.builtin "object.__getattribute__")=false:=by decide +kernel
 have hx0:(expr && onTheHeap (Value.builtin "BaseException.__getattribute__"))=false:=by cases expr <;> rfl
 obtain ⟨hp,g,d,t,os⟩:=s
 unfold getAttrBy
 refine wpAny_holding (wpAny_bind (L0.at (wpAny_bind (L1.at ?_))))
 show wpAny _ _ (if (onTheHeap (Value.ref C) && Value.builtin "BaseException.__getattribute__" == Value.builtin "object.__getattribute__")=true then _ else _) _ _ _
 rw [if_neg (by rw [hx2,Bool.and_false]; exact Bool.false_ne_true)]
 unfold getAttrByItsOwn hookBefore
 rw [if_pos (show onTheHeap (Value.ref C)=true from rfl)]
 refine wpAny_bind (L2.at (wpAny_bind (wpAny_attempt (wpAny_holding ?_))))
 unfold callGetattribute
 rw [if_neg (by rw [hx0]; exact Bool.false_ne_true)]
 unfold boundAndCalled
 refine wpAny_bind (wpAny_of_eq (PySem.F.attrBase_ValueError.ga.bind (.ref x)) ?_)
 refine wpAny_call (hc _ _ ?_)
 show wpAny _ _ (handedOut v) _ _ _
 rw [PySem.W.handedOut_of hh]
 exact wpAny_pure h
theorem Wl {Q:Option Value->Shared->Prop} (X:K.In s.heap) (I:PySem.W.InstAt s.heap x ox C od) (c:Ka K C) (h:Q (some (.ref C)) { s with toks:=s.toks+1 }) :
  wpAny (model prog w) A (getAttr? (.ref x) "__class__") Q E s:=by
 unfold getAttr? getAttrBy?
 exact wpAny_bind (wpAny_mkText (wpAny_bind (wpAny_attempt (j5 (s:={ s with toks:=s.toks+1 }) X I c rfl (fun A R q=>QV (s:={ s with toks:=s.toks+1 }) X I c q) (wpAny_pure h)))))
theorem RX (c:Ka K C):PySem.W.KitX K (.ref x) (.ref C) (fun h=>PySem.W.InstAt h x ox C od) where
 ty:=fun _ _ _ I=>I.type
 it:=fun _ _ X _=>by
  obtain ⟨cdD,hcD,_⟩:=PySem.W.any_some c.hd
  unfold PySem.W.clsIn at hcD
  split at hcD
  ·rename_i c' d' cd' sl' ho
   intro A' Q' E' s' k q
   unfold isType loadHead
   exact wpAny_bind (wpAny_loadPart (k _ _ (X _ _ ho)) (wpAny_pure q))
  ·cases hcD
 ne:=fun h tp dd its n sl X htp=>by
  obtain ⟨cdD,hcD,_⟩:=PySem.W.any_some c.hd
  refine Bool.eq_false_iff.mpr fun q=>?_
  have e:C=tp:=Value.ref.inj (beq_iff_eq.mp q)
  subst e
  unfold PySem.W.clsIn at hcD
  split at hcD
  ·rename_i c' d' cd' sl' ho
   have z:=(X _ _ ho).symm.trans htp
   cases z
  ·cases hcD
 ca:=fun X I k=>Wl X I c k
end
end L2
namespace L2
open PySem PySem.Spec PySem.Calls PyProof.Rows
noncomputable abbrev Tn:List Value:=[.type "ValueError",.type "Exception",.type "BaseException",.type "object"]
section
variable {prog:Program} {w:World} {A:Around} {E:Value->Shared->Prop} {K:PySem.W.Frag} {C:Addr} {h:Heap} {g:Array GenState} {d:Drawn} {t:Nat} {os:OsState}
end
end L2
namespace L2
open PySem PySem.Spec PySem.Calls PyProof.Rows
noncomputable def Ir (x C:Addr) (od:Option Addr):HO:=.ext fun h=>∃ (d:Data) (sl:Array (Option Value)),h.get? x=some ⟨.ref C,od,d,sl⟩/\PySem.W.notCls ⟨.ref C,od,d,sl⟩=true
noncomputable def jg (dx:Addr) (fs:List (Str × V)):HO:=.ext fun h=>∃ mA,h.Ns1 dx mA/\∀ f,Fp (fs.lookup f) (mA f)
section
variable {P:Program} {w:World} {H H':Hp} {h:Heap} {x C dx:Addr} {od:Option Addr} {fs:List (Str × V)}
theorem VN {d:Data} {sl:Array (Option Value)} (e:h.get? x=some ⟨.ref C,od,d,sl⟩) (n:PySem.W.notCls ⟨.ref C,od,d,sl⟩=true):Bx P w H h x (Ir x C od) :=
 ⟨⟨d,sl,e,n⟩,⟨_,e⟩,fun _ _ ⟨d,sl,e,n⟩ k=>⟨d,sl,k _ e,n⟩⟩
inductive LQ (H:Hp) (x C:Addr):List (Str × V)->Prop where
 | bare (e:H x=some (Ir x C none)):LQ H x C []
 | full {dx:Addr} {fs:List (Str × V)} (e:H x=some (Ir x C (some dx))) (d:H dx=some (jg dx fs)):LQ H x C fs
theorem Sv (hok:Ei P w H h) (i:LQ H x C fs):∃ ox od,PySem.W.InstAt h x ox C od/\∀ f v,fs.lookup f=some v->∃ o u,od=some o/\PySem.W.lookIn f o=some (some u)/\RelV v u:=by
 cases i with
 | bare e =>
  obtain ⟨⟨d,sl,e1,n⟩,_,_⟩:=(show Bx P w H h x (Ir x C none) from hok x _ e)
  exact ⟨_,none,⟨e1,rfl,n,trivial⟩,fun f v q=>by simp at q⟩
 | @full dx fs e d =>
  obtain ⟨⟨d',sl,e1,n⟩,_,_⟩:=(show Bx P w H h x (Ir x C (some dx)) from hok x _ e)
  obtain ⟨⟨mA,n2,r⟩,_,_⟩:=(show Bx P w H h dx (jg dx fs) from hok dx _ d)
  obtain ⟨o,ho,hl⟩:=J0 n2
  refine ⟨_,some o,⟨e1,rfl,n,ho⟩,fun f v q=>?_⟩
  obtain ⟨u,hu,ru⟩:=Fp.some_of (v:=v) (o:=mA f) (by rw [← q]; exact r f)
  exact ⟨o,u,rfl,by rw [hl,hu],ru⟩
end
section
variable {P:Program} {w:World} {X:Cx} {pins:List (Addr × Obj)} {σ:St} {H:Hp} {s:Shared} {h':Heap} {a:Addr} {o:HO}
theorem Ei.aW {h h':Heap} (x:Ei P w H h) (k:∀ b u,h.get? b=some u->h'.get? b=some u) (hn:H a=none) (new:Bx P w (upd H a o) h' a o):Ei P w (upd H a o) h':=fun b u e=>by
 by_cases hb:b=a
 ·subst hb; rw [Ak] at e; cases e; exact new
 ·rw [Ax hb] at e
  exact (x b u e).stay (fun c v _ q=>k c v q) (fun c q=>by rw [Ax (Aw q hn)]; exact q) fun c xs q=>by rw [Ax (Aw q hn)]; exact q
theorem Ei.none_of {h:Heap} (x:Ei P w H h) (e:h.get? a=none):H a=none:=by
 cases q:H a with
 | none=>rfl
 | some u =>
  exfalso
  obtain ⟨o,ho⟩:∃ o,h.get? a=some o:=by
   have z:=x a u q
   cases u with
   | lst xs=>obtain ⟨_,_,_,_,e⟩:=z; exact ⟨_,e⟩
   | tup xs=>obtain ⟨_,_,_,o,e,_⟩:=z; exact ⟨_,e⟩
   | dK kvs=>obtain ⟨_,_,_,_,o,_,_,e,_⟩:=z; exact ⟨_,e⟩
   | dT kvs=>obtain ⟨_,_,_,_,o,_,_,e,_⟩:=z; exact ⟨_,e⟩
   | set S n=>obtain ⟨o,_,_,_,e,_⟩:=z; exact ⟨_,e⟩
   | ins C dx fs=>obtain ⟨_,_,_,e,_⟩:=z; exact ⟨_,e⟩
   | own y=>obtain ⟨_,e⟩:=z; exact ⟨_,e⟩
   | xd fs=>obtain ⟨_,⟨_,_,_,e,_⟩,_⟩:=z; exact ⟨_,e⟩
   | rng lo hi=>obtain ⟨_,_,_,e⟩:=z; exact ⟨_,e⟩
   | frz ob u=>obtain ⟨e,_⟩:=z; exact ⟨_,e⟩
   | tbl ps=>exact ⟨_,(show h.get? a=some _ from z)⟩
   | met f y=>exact ⟨_,(show h.get? a=some _ from z)⟩
   | ext φ=>obtain ⟨_,⟨_,e⟩,_⟩:=z; exact ⟨_,e⟩
  rw [e] at ho; cases ho
end
theorem Np {K:PySem.W.Frag} {h:Heap} {C:Addr} (X:K.In h) (q:PySem.W.excIn K C Tn "ValueError.__new__" = true) :
  ∃ bm N nm qn bs hdct sn sub ab col dd k0 k1 k2 k3 k5 mN,h.get? C=some (excClassObj nm qn C N bs bm hdct sn sub ab col dd k0 k1 k2 k3 k5 "ValueError.__new__")/\h.Ns N mN/\mN "__init__" = none/\OwnTail h Tn bm:=by
 unfold PySem.W.excIn at q
 split at q
 ·rename_i dd cd sl ho
  split at q
  ·rename_i C' bm k0 k1 k2 k3 n k5 hm hs
   simp only [Bool.and_eq_true,beq_iff_eq,Bool.not_eq_true'] at q
   obtain ⟨⟨⟨⟨⟨rfl,rfl⟩,hdel⟩,ht⟩,hok⟩,hni⟩:=q
   obtain ⟨nm,bs,mro,ns,qn,hd,sn,sub,ab,col,del⟩:=cd
   dsimp only at hm hdel hok hni
   subst hm hdel
   have hsl:sl = #[k0,k1,k2,k3,some (.builtin "ValueError.__new__"),k5]:=by
    obtain ⟨l⟩:=sl
    simp only at hs
    rw [hs]
   subst hsl
   exact ⟨bm,ns,nm,qn,bs,hd,sn,sub,ab,col,dd,k0,k1,k2,k3,k5,_,X _ _ ho,.of_isNs (PySem.W.isNs_of_in X hok),PySem.W.nsMap_none_of_in X hok hni,PySem.W.tail_of_in X ht⟩
  ·cases q
 ·cases q
section
variable {X:Cx} {C:Addr} {x:Str} {e:Expr} {es:List Expr} {t:TA} {p pos:Pos}
end
noncomputable def Xc:V->Option Value
 | .ref a=>some (.ref a)
 | .ty n=>some (.type n)
 | _=>none
theorem M_ {X:Cx}:FN X (.builtin "isinstance") (fun xs H Q=>∃ x C fs c cv b,xs=[V.ref x,c]/\LQ H x C fs/\Ka X.K C/\Xc c=some cv/\PySem.W.kitOne X.K (.ref C) cv=some b/\Q (.bl b) H):=by
 intro pins s σ H xs us Q I r h
 obtain ⟨x,C,fs,c,cv,b,rfl,ie,xc,hc,e,q⟩:=h
 obtain ⟨u,v,rfl,ru,rv⟩:=Vals.two r
 cases ru
 have ev:v=cv:=by
  cases c with
  | ref a=>cases hc; exact rv
  | ty n=>cases hc; exact rv
  | _=>simp [Xc] at hc
 subst ev
 obtain ⟨ox,od,J,_⟩:=Sv I.hok ie
 exact PySem.W.kia_one (RX xc) I.Gx J e (fun z=>nomatch z) fun tk=>⟨.bl b,H,I.tok _,rfl,q⟩
section
variable {X:Cx} {e:Expr} {f:Str} {pos:Pos} {ta:TE}
end
section
variable {prog:Program} {w:World} {A:Around} {E:Value->Shared->Prop} {s:Shared} {K:PySem.W.Frag} {x C:Addr} {name:Str} {v:Value} {R:Result->Shared->Prop} {d:Data} {sl:Array (Option Value)}
end
section
variable {X:Cx} {pins:List (Addr × Obj)} {σ:St} {H:Hp} {s:Shared} {h':Heap} {x C dx:Addr} {f:Str} {y:V} {u:Value}
end
section
variable {X:Cx} {o value:Expr} {f:Str} {pos pos':Pos} {ta tv:TE}
end
section
variable {X:Cx} {C f:Addr} {fd:FuncData} {ps:List Str} {sp:Sp} {k:Nat} {x:Str} {e:Expr} {es:List Expr} {t:TA} {p pos:Pos}
end
noncomputable def K3:List V->List V->Bool
 | [],[]=>true
 | x::xs,y::ys=>Jv x y && K3 xs ys
 | _,_=>false
theorem Hv:∀ (xs ys:List V),xs.length=ys.length->((List.range xs.length).all fun j=>Jv (xs.getD j .non) (ys.getD j .non))=K3 xs ys
 | [],[],_=>rfl
 | x::xs,y::ys,h=>by
  have ih:=Hv xs ys (by simpa using h)
  rw [List.length_cons,List.range_succ_eq_map,List.all_cons,List.all_map]
  show (Jv x y && _)=(Jv x y && K3 xs ys)
  rw [← ih]
  rfl
 | [],_::_,h=>by simp at h
 | _::_,[],h=>by simp at h
theorem Kh:∀ (xs ys:List V),xs.length ≠ ys.length->K3 xs ys=false
 | [],[],h=>absurd rfl h
 | x::xs,y::ys,h=>by
  show (Jv x y && K3 xs ys)=false
  rw [Kh xs ys (fun e=>h (by simp [e])),Bool.and_false]
 | [],_::_,_=>rfl
 | _::_,[],_=>rfl
theorem S8 {x:V} (h:Dw x=true):Jv x x=true:=by
 cases x with
 | non=>rfl
 | bl b=>simp [Jv]
 | int i=>simp [Jv]
 | str z=>simp [Jv]
 | _=>exact absurd (show false=true from h) Bool.false_ne_true
theorem MJ:∀ {xs:List V},xs.all Dw=true->K3 xs xs=true
 | [],_=>rfl
 | x::xs,h=>by
  rw [List.all_cons,Bool.and_eq_true] at h
  show (Jv x x && K3 xs xs)=true
  rw [S8 h.1,MJ h.2]
  rfl
theorem K4:∀ (xs ys:List Int),K3 (xs.map V.int) (ys.map V.int)=decide (xs=ys)
 | [],[]=>rfl
 | x::xs,y::ys=>by
  show (x == y && K3 (xs.map V.int) (ys.map V.int))=_
  rw [K4 xs ys,Bool.eq_iff_iff]
  simp
 | [],_::_=>rfl
 | _::_,[]=>rfl
section
variable {X:Cx}
theorem JH {xs:List V} {j:Nat} (h:xs.all Dw=true) (hj:j<xs.length):Dw (xs.getD j .non)=true:=by
 have e:xs.getD j .non=xs[j]:=by simp [hj]
 rw [e]
 exact List.all_eq_true.mp h _ (List.getElem_mem hj)
theorem KJ {xs:List V} {us:List Value} {j:Nat} (r:Vals xs us) (hj:j<us.length):RelV (xs.getD j .non) us[j]:=by
 have hl:=r.length
 have hx:xs[j]? = some xs[j]:=by simp [hl,hj]
 obtain ⟨u,hu,ru⟩:=r.get hx
 rw [List.getElem?_eq_getElem hj] at hu
 cases hu
 have e:xs.getD j .non=xs[j]:=by simp [hl,hj]
 rw [e]
 exact ru
noncomputable def dR (K:PySem.W.Frag) (neg:Bool):R2:=fun x y H Q=>∃ p q xs ys,x=.ref p/\y=.ref q/\CZ K H p xs/\CZ K H q ys/\xs.all Dw=true/\ys.all Dw=true/\Q (.bl (if neg then !K3 xs ys else K3 xs ys)) H
theorem NB (hu:X.A.units<cLine):Ft X (compareOp .Eq) (dR X.K false):=by
 intro pins s σ H x y v u Q I rx ry h
 obtain ⟨p,q,xs,ys,rfl,rfl,hp,hq,fx,fy,k⟩:=h
 cases rx
 cases ry
 obtain ⟨its,r,pl,hz⟩:=I.list hp
 obtain ⟨its2,r2,pl2,hz2⟩:=I.list hq
 have l1:=r.length
 have l2:=r2.length
 by_cases hl:xs.length=ys.length
 ·refine SeqAt.eq_listAt (e:=fun j=>Jv (xs.getD j .non) (ys.getD j .non)) pl.isList pl2.isList (by simp; omega) hu (fun j h1 h2=>?_) ⟨.bl (K3 xs ys),H,I,?_,k⟩
  ·have h1':j<its.length:=by simpa using h1
   have h2':j<its2.length:=by simpa using h2
   simp only [List.getElem_toArray]
   exact Mp (KJ r h1') (KJ r2 h2') (JH fx (by omega)) (JH fy (by omega))
  ·rw [List.size_toArray,← l1,Hv xs ys hl]
   exact rfl
 ·refine SeqAt.eq_list_lengthsAt pl.isList pl2.isList (by simp; omega) hu ⟨.bl (K3 xs ys),H,I,?_,k⟩
  rw [Kh xs ys hl]
  exact rfl
end
end L2
namespace Wd
noncomputable def mk (l:List Nat):Nat:=l.foldl (fun s n=>s ||| 2 ^ n) 0
theorem PB (l:List Nat):∀ (s i:Nat),(l.foldl (fun s n=>s ||| 2 ^ n) s).testBit i=(s.testBit i || decide (i∈l)):=by
 induction l with
 | nil=>intro s i; simp
 | cons n l ih =>
  intro s i
  rw [List.foldl_cons,ih,Nat.testBit_or,Nat.testBit_two_pow]
  by_cases h:n=i
  ·subst h; simp
  ·have h':¬ i=n:=fun e=>h e.symm
   simp [h,h']
theorem Jb (l:List Nat) (i:Nat):(mk l).testBit i=decide (i∈l):=by
 unfold mk; rw [PB]; simp
noncomputable def len (n:Nat):Nat:=if n=0 then 0 else n.log2+1
theorem Q7 {n i:Nat} (h:n.testBit i=true):i<len n:=by
 unfold len
 have h0:n ≠ 0:=by intro e; subst e; simp at h
 rw [if_neg h0]
 have h1:2 ^ i<=n:=Nat.ge_two_pow_of_testBit h
 have h2:i<=n.log2:=(Nat.le_log2 h0).mpr h1
 omega
noncomputable def mem (n:Nat):List Nat:=(List.range (len n)).filter n.testBit
theorem mem_iff {n i:Nat}:i∈mem n ↔ n.testBit i=true:=by
 unfold mem
 rw [List.mem_filter,List.mem_range]
 exact ⟨fun h=>h.2,fun h=>⟨Q7 h,h⟩⟩
theorem Ky {n k:Nat} (h:n<2 ^ k):len n<=k:=by
 unfold len
 split
 ·omega
 ·rename_i h0
  have:n.log2<k:=(Nat.log2_lt h0).mpr h
  omega
noncomputable def mv (n:Nat) (k:Int) (c:Nat):Nat:=(if 0<k then n * 2 ^ k.toNat else n / 2 ^ (-k).toNat) % 2 ^ c
theorem Jo (n:Nat) (k:Int) (c i:Nat):(mv n k c).testBit i=(decide (i<c) && (decide (0<=(i:Int) - k) && n.testBit ((i:Int) - k).toNat)):=by
 unfold mv
 rw [Nat.testBit_mod_two_pow]
 congr 1
 split
 ·rename_i h
  rw [Nat.testBit_mul_two_pow]
  by_cases h1:k.toNat<=i
  ·have e:((i:Int) - k).toNat=i - k.toNat:=by omega
   have e2:(0:Int)<=i - k:=by omega
   rw [decide_eq_true e2,e]; simp [h1]
  ·have e2:¬ (0:Int)<=i - k:=by omega
   rw [decide_eq_false e2]; simp [h1]
 ·rename_i h
  rw [Nat.testBit_div_two_pow]
  have e:((i:Int) - k).toNat=i+(-k).toNat:=by omega
  have e2:(0:Int)<=i - k:=by omega
  rw [decide_eq_true e2,e]; simp
noncomputable def stay (l:List Nat) (k:Int) (c:Nat):List Nat:=l.filter fun n=>decide (0<=(n:Int)+k) && decide ((n:Int)+k<c)
theorem Tw (l:List Nat) (n:Nat):mk (l++[n])=mk l ||| 2 ^ n:=by
 unfold mk; rw [List.foldl_append]; rfl
end Wd
namespace L2
open PySem PySem.Spec PySem.Calls PyProof.Rows
theorem N6:∀ {xs:List V} {us:List Value},xs.length=us.length->(∀ (j:Nat) x u,xs[j]? = some x->us[j]? = some u->RelV x u)->Vals xs us
 | [],[],_,_=>.nil
 | [],_::_,h,_=>by simp at h
 | _::_,[],h,_=>by simp at h
 | x::xs,u::us,h,f=>.cons (f 0 x u rfl rfl) (N6 (by simpa using h) fun j y v hy hv=>f (j+1) y v (by simpa using hy) (by simpa using hv))
section
variable {X:Cx} {es:List Expr} {k1:Nat} {tpos:Pos}
theorem Jc (hc:X.calm=true):FN X (.type "list") (fun xs H Q=>∃ (a:Addr) (kvs:List (Key × V)) (js:List Int),xs=[V.ref a]/\H a=some (.dK kvs)/\kvs.map (·.1)=js.map Sum.inl/\∀ l,H l=none->Q (.ref l) (upd H l (.lst (js.map V.int)))):=by
 intro pins s σ H xs us Q I r h
 obtain ⟨a,kvs,js,rfl,ha,hj,q⟩:=h
 obtain ⟨u,rfl,ru⟩:=vals1 r
 cases ru
 obtain ⟨hz,lo,vs,rel,o,es,ep,e1,e2,e3,e4,e5,e6⟩:=I.hok a _ ha
 have hl:kvs.length=vs.length:=Paired.length rel
 have hda:s.heap.DictAt (Ca X.prog X.w) a vs ep:=⟨o,es,e1,e2,e3,e4,e5,e6⟩
 refine PySem.W.kdl_call (PySem.W.kdl_dict (knd:=Ca X.prog X.w) (kvs:=vs) (ep:=ep) lo) (I.ok.hd hc) hda (by omega) ?_
 intro h' tk acc' c' hk hD hacc
 have hjl:js.length=vs.length:=by
  have:=congrArg List.length hj
  rw [List.length_map,List.length_map] at this
  omega
 have hv:Vals (js.map V.int) acc'.toList:=by
  refine N6 (by have h1:acc'.toList.length=acc'.size:=Array.length_toList; have h2:=hacc.1; rw [List.length_map]; omega) fun j x u hx hu=>?_
  rw [Array.getElem?_toList] at hu
  obtain ⟨k,y,hk1,hk2⟩:=hacc.2 j u hu
  rw [List.getElem?_map] at hx
  obtain ⟨i,hi,rfl⟩:=Option.map_eq_some_iff.mp hx
  have e1:(kvs.map (·.1))[j]? = some (Sum.inl i):=by rw [hj,List.getElem?_map,hi]; rfl
  rw [List.getElem?_map] at e1
  obtain ⟨kv,hkv,ekv⟩:=Option.map_eq_some_iff.mp e1
  have rel':∀ {l:List (Key × V)} {m:List (Key × Value)},KV l m->∀ {j:Nat} {p q},l[j]? = some p->m[j]? = some q->p.1=q.1:=by
   intro l m h
   unfold KV at h
   induction h with
   | nil=>intro j p q hp; simp at hp
   | cons a b ih =>
    intro j p q hp hq
    cases j with
    | zero =>
     simp at hp hq
     subst hp hq
     exact a.1
    | succ j=>exact ih (by simpa using hp) (by simpa using hq)
  have e2:=rel' rel hkv hk1
  rw [ekv] at e2
  have e3:k=Sum.inl i:=e2.symm
  subst e3
  rcases CK (show JM (Sum.inl i) u=true from hk2) with ⟨i',t,e,rfl⟩ | ⟨x,t,e,_⟩
  ·cases e
   exact ⟨t,rfl⟩
  ·cases e
 refine ⟨.ref s.heap.objs.size,_,I.laid (t':=tk) (o:=.lst (js.map V.int)) hk (Nat.le_refl _) ⟨by rw [List.length_map]; omega,acc'.toList,c',hv,by simpa using hD⟩,rfl,q _ (I.hok.fresh (Nat.le_refl _))⟩
theorem K8:iV X "int.bit_length" (fun x xs H Q=>∃ i,x=V.int i/\xs=[]/\Q (.int (Builtin.Int.intBits i)) H):=by
 intro pins s σ H x xs v us Q I rx r h
 obtain ⟨i,rfl,rfl,q⟩:=h
 obtain ⟨t,rfl⟩:=rx
 cases r
 exact PyProof.Rows.call_int_bit_length ⟨.int _,H,I.tok _,⟨_,rfl⟩,q⟩
end
theorem Fo (a b:Nat):Builtin.bitOr (a:Int) (b:Int)=((a ||| b:Nat):Int):=by
 have h1:¬ 0<=Builtin.bitNot (a:Int):=by unfold Builtin.bitNot; omega
 have h2:¬ 0<=Builtin.bitNot (b:Int):=by unfold Builtin.bitNot; omega
 have nn:∀ x:Int,Builtin.bitNot (Builtin.bitNot x)=x:=fun x=>by unfold Builtin.bitNot; omega
 unfold Builtin.bitOr
 rw [bitAnd_nn h1 h2,nn,nn,nn]
 simp
theorem Lb (a b:Nat):Builtin.bitAnd (a:Int) (b:Int)=((a &&& b:Nat):Int):=by
 rw [bitAnd_pp (Int.natCast_nonneg a) (Int.natCast_nonneg b)]
 simp
theorem Hy (n:Nat):Builtin.Int.intBits (n:Int)=Wd.len n:=by
 unfold Builtin.Int.intBits Wd.len
 by_cases h:n=0
 ·subst h; rfl
 ·have h':((n:Int) == 0)=false:=by simpa using h
  rw [h',if_neg h]
  simp
theorem Dm (k:Nat):(2:Int) ^ k=((2 ^ k:Nat):Int):=by simp
end L2
namespace Wd
open PySem
noncomputable abbrev jY (xs:Array Nat):Prop:=xs.toList.Pairwise (· < ·)
structure Good (t:SetTable) (led:Bool):Prop where
 led:t.led=led
 ris:t.plain=true->jY t.place
end Wd
namespace Wd
open PySem PySem.Spec PyProof.Rows
noncomputable def iG (prog:Program) (w:World) (h:Heap) (a:Addr) (led:Bool) (σ:List Int):Prop :=
 ∃ es ep t,h.get? a=some { cls:=.type "set",dict:=none,data:=.set es ep t }/\ElemsOf (intKind prog w) es.toList/\(∀ k,k∈σ ↔ ∃ e∈es.toList,(intKind prog w).is k e.2=true)/\es.size=σ.length/\σ.Nodup /\
  σ.length<scanBound/\t.fits es.size=true/\Good t led
section
variable {prog:Program} {w:World} {A:Around} {E:Value->Shared->Prop} {s:Shared} {a:Addr} {led:Bool} {σ:List Int} {k:Int} {tk:Tok}
end
end Wd
namespace Wd
open PySem PySem.Spec PyProof.Rows
section
variable {prog:Program} {w:World} {A:Around} {R:Result->Shared->Prop} {I:Addr} {fp wr:List Addr} {G:Array GenState->Array GenState->Prop} {n:Nat} {P:Nat->Value->Prop} {St:Nat->Shared->Prop} {led:Bool}
end
section
variable {prog:Program} {w:World} {A:Around} {E:Value->Shared->Prop} {s:Shared}
noncomputable abbrev bT (w:World):Bool:=!w.params.followText "set-order"
end
end Wd
namespace Wd
open PySem PySem.Spec PyProof.Rows
end Wd
namespace Wd
open PySem PySem.Spec PyProof.Rows
section
variable {M:Model} {A:Around} {E:Value->Shared->Prop}
end
inductive Way (w:World) (a:Addr) (es:Array (Int × Value)) (ep:Nat) (t:SetTable) (h:Heap):(Nat->Value)->List Value->List Addr->Prop where
 | text (hb:w.params.followText "set-order" = true):Way w a es ep t h (fun _=>rawInt 0) ((pickOrder (w.params.setOrder a ep) es).toList.map (·.2)) []
 | drawn {tp:Addr} {ps:List Nat} (hb:w.params.followText "set-order" = false) (hp:ps.Perm (List.range es.size)) (ht:∃ n,h.get? tp=some { cls:=.type "tuple",data:=.seq (ps.map fun (i:Nat)=>rawInt i).toArray n }) :
   Way w a es ep t h (fun _=>.ref tp) (ps.map fun i=>(es.getD i (0,.none)).2) [tp]
 | plain (hb:w.params.followText "set-order" = false) (hd:(!t.plain && decide (es.size > 1))=false) (hl:t.led=true) (hr:jY t.place) (hs:t.place.size=es.size) :
   Way w a es ep t h (fun i=>rawInt (if i=0 then 0 else t.place.getD (i - 1) 0+1:Nat)) (es.toList.map (·.2)) []
section
variable {prog:Program} {w:World} {A:Around} {E:Value->Shared->Prop} {s:Shared} {a it:Addr} {es:Array (Int × Value)} {ep:Nat} {t:SetTable} {first:Nat->Value} {vs:List Value} {more:List Addr}
end
end Wd
section PartSetJ
set_option maxHeartbeats 1000000
namespace Wd
open PySem PySem.Spec PyProof.Rows
section
variable {prog:Program} {w:World} {A:Around} {E:Value->Shared->Prop} {s:Shared} {a:Addr} {σ:List Int}
end
end Wd
end PartSetJ
section PartSetK
set_option maxHeartbeats 1000000
namespace Wd
open PySem PySem.Spec PyProof.Rows
section
variable {prog:Program} {w:World} {A:Around} {E:Value->Shared->Prop} {s:Shared} {a:Addr} {σ:List Int}
end
end Wd
end PartSetK
namespace L2
open PySem PySem.Spec PyProof.Rows
noncomputable def kO (P:Program) (w:World) (a:Addr) (τ:List Int):HO:=.ext fun h=>Wd.iG P w h a (Wd.bT w) τ
section
variable {X:Cx} {pins:List (Addr × Obj)} {σ:St} {H:Hp} {s:Shared} {h':Heap} {a:Addr} {o:HO}
theorem Tr:Ft X (binaryOp .LShift) (rI (fun i j=>0<=j/\(Builtin.Int.intBits i:Int)+j<=2 ^ 27) fun i j=>.int (i * 2 ^ j.toNat)):=Xr fun _ _ _ _ _ _ _ hc q=>lshift_int hc.1 hc.2 q
end
end L2
namespace L2
open PySem PySem.Spec PyProof.Rows
section
variable {X:Cx}
end
section
variable {prog:Program} {w:World} {A:Around} {E:Value->Shared->Prop} {s:Shared} {r l:Addr}
end
section
variable {X:Cx} {p1 p2 q1 q2:Pos} {e:Expr} {te:TE}
end
end L2
namespace L2
open PySem PySem.Spec PyProof.Rows
noncomputable def YL (K:PySem.W.Frag) (a:Addr) (xs:List V):It :=
 ⟨fun i H=>CZ K H a xs/\i<xs.length,fun i H x H'=>H'=H/\xs[xs.length - 1 - i]? = some x,fun i H=>CZ K H a xs/\i=xs.length⟩
theorem R_ {P:Program} {w:World} {K:PySem.W.Frag} {tg:Expr} (a it:Addr) (xs:List V):Turn P w K tg (YL K a xs) [it] it (fun i h=>h.IsRevIter it a ((xs.length:Int) - 1 - (i:Nat))) where
 mem:=by simp
 obj:=fun i h st b hb=>by
  have e:b=it:=by simpa using hb
  subst e
  obtain ⟨o,e,c,d⟩:=st
  exact ⟨o,e,fun v z=>by rw [d] at z; cases z⟩
 keep:=fun i h h' st k=>st.at fun o e=>k it (by simp) o e
 item:=by
  intro X hP hw hK hc i pins s σ H E I hf st hg
  subst hP hw hK
  obtain ⟨hq,hlt⟩:=hg
  obtain ⟨its,rv,p,hz⟩:=I.list hq
  have hx:xs[xs.length - 1 - i]? = some (xs[xs.length - 1 - i]'(by omega)):=List.getElem?_eq_getElem (by omega)
  obtain ⟨u,hu,ru⟩:=rv.get hx
  obtain ⟨f0,f1,f2,f3,f4,f5⟩:=hf it (by simp)
  have e:(xs.length:Int) - 1 - ((i:Nat):Int)=((xs.length - 1 - i:Nat):Int):=by omega
  rw [e] at st
  refine wpAny_pyNext_rev_item st p.isList (x:=u) (by simpa using hu) fun h' st' sb=>?_
  have I1:Inv X pins σ H { s with heap:=h' }:=I.turned (t':=s.toks) (fun b o hb e=>(sb.2 b hb).trans e) f0 f1 f3 f4 f5
  have e2:((xs.length - 1 - i:Nat):Int) - 1=(xs.length:Int) - 1 - ((i+1:Nat):Int):=by omega
  rw [e2] at st'
  obtain ⟨o,eo,c,d⟩:=id st'
  exact ⟨u,rfl,Lf (s:={ s with heap:=h' }) eo c d (by decide) ⟨_,H,I1,ru,⟨rfl,hx⟩,st',fun b hb=>(hf b hb).1⟩⟩
 done:=by
  intro X hP hw hK hc i pins s σ H E I hf st hg
  subst hP hw hK
  obtain ⟨hq,rfl⟩:=hg
  obtain ⟨f0,f1,f2,f3,f4,f5⟩:=hf it (by simp)
  have e:(xs.length:Int) - 1 - ((xs.length:Nat):Int) = -1:=by omega
  rw [e] at st
  exact wpAny_pyNext_rev_end (I.ok.hd hc) st fun h' eb=>⟨rfl,I.turned (t':=s.toks) (fun b o hb e=>eb b o hb e) f0 f1 f3 f4 f5⟩
 self:=fun _ _ _ _ _ st h=>wpAny_pyIter_revIter st h
section
variable {X:Cx} {tg:Expr}
noncomputable def iR (K:PySem.W.Frag) (ta:TA):TI:=fun σ H R=>ta σ H fun vs H1=>∃ a xs,vs=[.ref a]/\CZ K H1 a xs/\R (YL K a xs) H1
theorem Wo {l:Expr} {ta:TA} {p pos:Pos} (hg:Gl X "reversed") (hm:X.mg "reversed" = none) (ha:PA X [l] ta) (hs:starEach [l] X.env=[(false,eval l X.env)]:=by rfl):PI X tg (.Call (.Name "reversed" p) [l] [] pos) (iR X.K ta):=by
 intro pins s σ H R I h
 refine Call_ (G4 I hg hm PyProof.Rows.boot_reversed (PyProof.Rows.callWith_type1 (CJ (ha pos pins s σ H _ I h) fun us s1 ⟨vs,H1,I1,r1,q1⟩=>?_) hs rfl))
 obtain ⟨a,xs,e,hq,q⟩:=q1
 subst e
 obtain ⟨u,rfl,ru⟩:=vals1 r1
 cases ru
 obtain ⟨its,rv,pl,hz⟩:=I1.list hq
 refine call_reversed_list pl.isList ?_
 have hit:(s1.heap.push (revObj a ((its.toArray.size:Int) - 1))).IsRevIter s1.heap.objs.size a ((its.toArray.size:Int) - 1):=⟨_,Heap.get?_push_size _ rfl,rfl,rfl⟩
 refine wpAny_pyIter_revIter (s:={ s1 with heap:=s1.heap.push (revObj a ((its.toArray.size:Int) - 1)) }) hit ?_
 refine ⟨s1.heap.objs.size,[s1.heap.objs.size],_,_,H1,rfl,I1.kept (t':=s1.toks) fun b o e=>Heap.get?_push_of_some _ e,R_ a _ xs,?_,fun b hb=>?_,q⟩
 ·have hl:=rv.length
  have e2:((its.toArray.size:Nat):Int) - 1=(xs.length:Int) - 1 - ((0:Nat):Int):=by
   rw [List.size_toArray]
   omega
  show (s1.heap.push (revObj a ((its.toArray.size:Int) - 1))).IsRevIter s1.heap.objs.size a ((xs.length:Int) - 1 - ((0:Nat):Int))
  rw [← e2]
  exact hit
 ·have e:b=s1.heap.objs.size:=by simpa using hb
  subst e
  exact I1.Kv (Nat.le_refl _) (I1.hok.fresh (Nat.le_refl _))
theorem U7 {K:PySem.W.Frag} {a:Addr} {xs:List V} {g:TG} {tb:TS} {D:Ends} {σ:St} {H:Hp} (Pv:Nat->St->Hp->Prop) (h0:Pv 0 σ H) (hl:∀ i σ H,i<=xs.length->Pv i σ H->CZ K H a xs)
  (hs:∀ i x σ H,i<xs.length->xs[xs.length - 1 - i]? = some x->Pv i σ H->g x σ H fun σ2 H2=>tb { D with nx:=Pv (i+1),ct:=Pv (i+1),bk:=D.nx } σ2 H2) (hd:∀ σ H,Pv xs.length σ H->D.nx σ H) :
  ∃ W:Nat->Nat->St->Hp->Prop,(∃ m,W 0 m σ H)/\∀ i m σ H,W i m σ H ->
   ((YL K a xs).stop i H/\D.nx σ H) \/ ((YL K a xs).go i H/\∃ N:St->Hp->Prop,(∀ σ' H',N σ' H'->∃ m',m'<m/\W (i+1) m' σ' H')/\∀ x H',(YL K a xs).yld i H x H'->g x σ H' fun σ2 H2=>tb { D with nx:=N,ct:=N,bk:=D.nx } σ2 H2):=by
 refine ⟨fun i m σ H=>m=xs.length - i/\i<=xs.length/\Pv i σ H,⟨xs.length,by simp,Nat.zero_le _,h0⟩,?_⟩
 rintro i m σ H ⟨rfl,hi,p⟩
 have q:=hl i σ H hi p
 by_cases hlt:i<xs.length
 ·refine .inr ⟨⟨q,hlt⟩,Pv (i+1),fun σ' H' p'=>⟨xs.length - (i+1),by omega,rfl,by omega,p'⟩,?_⟩
  rintro x H' ⟨rfl,hx⟩
  exact hs i x σ H' hlt hx p
 ·have e:i=xs.length:=by omega
  subst e
  exact .inl ⟨⟨q,rfl⟩,hd σ H p⟩
end
end L2
namespace L2
open PySem PySem.Spec PySem.Calls PyProof.Rows
section
variable {X:Cx}
theorem range_any (bs:List Bool):((List.range bs.length).any fun i=>(bs[i]?).getD false)=bs.any id:=by
 rw [Bool.eq_iff_iff,List.any_eq_true,List.any_eq_true]
 constructor
 ·rintro ⟨i,hi,e⟩
  have hi':=List.mem_range.mp hi
  rw [List.getElem?_eq_getElem hi'] at e
  exact ⟨_,List.getElem_mem hi',e⟩
 ·rintro ⟨b,hb,e⟩
  obtain ⟨i,hi,q⟩:=List.mem_iff_getElem.mp hb
  refine ⟨i,List.mem_range.mpr hi,?_⟩
  rw [List.getElem?_eq_getElem hi,q]
  exact e
theorem Ja (hc:X.calm=true):FN X (.builtin "any") (fun xs H Q=>∃ (p:Addr) (bs:List Bool),xs=[V.ref p]/\CZ X.K H p (bs.map V.bl)/\Q (.bl (bs.any id)) H):=by
 intro pins s σ H xs us Q I r h
 obtain ⟨p,bs,rfl,hp,q⟩:=h
 obtain ⟨u,rfl,ru⟩:=vals1 r
 cases ru
 obtain ⟨its,rv,pl,hz⟩:=I.list hp
 have hlen:bs.length=its.length:=by have:=rv.length; rw [List.length_map] at this; exact this
 have hlt:p<s.heap.objs.size:=by obtain ⟨_,e,_⟩:=pl.isList; exact Heap.lt_size e
 refine call_any_walk (wpAny_pyIter_list pl.isList ?_)
 refine ⟨s.heap.objs.size,[s.heap.objs.size,p],[s.heap.objs.size],its.toArray.size,_,_,fun i=>(bs[i]?).getD false,rfl,Walks.list (A:=X.A.in1) (I.ok.hd hc) _ p (Nat.ne_of_lt hlt) its.toArray,
  ⟨⟨_,Heap.get?_push_size _ rfl,rfl,rfl⟩,pl.isList.push _⟩,fun i v s' Q' E' hP hQ=>?_,fun h' tk hk=>?_⟩
 ·have hP':its[i]? = some v:=by simpa using hP
  have hi:i<its.length:=(List.getElem?_eq_some_iff.mp hP').1
  have hb:bs[i]? = some bs[i]:=by simp [hlen,hi]
  obtain ⟨u,hu,ru⟩:=rv.get (i:=i) (x:=.bl bs[i]) (by rw [List.getElem?_map,hb]; rfl)
  rw [hP'] at hu
  cases hu
  cases ru
  dsimp only at hQ
  rw [hb] at hQ
  exact wpAny_truthy_bool hQ
 ·have e:((List.range its.toArray.size).any fun i=>(bs[i]?).getD false)=bs.any id:=by rw [List.size_toArray,← hlen]; exact range_any bs
  rw [e]
  refine ⟨.bl (bs.any id),H,I.kept (t':=tk) fun b o eb=>hk b o (fun hm=>?_) (Heap.get?_push_of_some _ eb),rfl,q⟩
  rw [List.mem_singleton.mp hm] at eb
  exact Nat.lt_irrefl _ (Heap.lt_size eb)
theorem Gb (ns:List Int):∀ j,j<=ns.length->preSum (fun i=>(ns[i]?).getD 0) j=(ns.take j).sum
 | 0,_=>rfl
 | j+1,h=>by
  have ih:=Gb ns j (by omega)
  show preSum _ j+(ns[j]?).getD 0=_
  rw [ih,List.take_add_one,List.getElem?_eq_getElem (by omega),List.sum_append]
  simp
theorem RK (M:Int):∀ ns:List Int,(∀ n∈ns,0<=n/\n<=M)->0<=ns.sum/\ns.sum<=ns.length * M
 | [],_=>by simp
 | n::r,h=>by
  have h1:=h n (List.mem_cons_self ..)
  have h2:=RK M r fun x hx=>h x (List.mem_cons_of_mem _ hx)
  have e:((n::r).length:Int) * M=r.length * M+M:=by rw [List.length_cons]; push_cast; rw [Int.add_mul,Int.one_mul]
  rw [e,List.sum_cons]
  omega
theorem TV (hc:X.calm=true):FN X (.builtin "sum") (fun xs H Q=>∃ (p:Addr) (ns:List Int),xs=[V.ref p]/\CZ X.K H p (ns.map V.int)/\(∀ n∈ns,0<=n/\n<=100000)/\ns.length<=1000/\Q (.int ns.sum) H):=by
 intro pins s σ H xs us Q I r h
 obtain ⟨p,ns,rfl,hp,hb,hl,q⟩:=h
 obtain ⟨u,rfl,ru⟩:=vals1 r
 cases ru
 obtain ⟨its,rv,pl,hz⟩:=I.list hp
 have hlen:ns.length=its.length:=by have:=rv.length; rw [List.length_map] at this; exact this
 have hlt:p<s.heap.objs.size:=by obtain ⟨_,e,_⟩:=pl.isList; exact Heap.lt_size e
 refine call_sum_walk (wpAny_pyIter_list pl.isList ?_)
 refine ⟨s.heap.objs.size,[s.heap.objs.size,p],[s.heap.objs.size],its.toArray.size,_,_,fun i=>(ns[i]?).getD 0,rfl,Walks.list (A:=X.A.in1) (I.ok.hd hc) _ p (Nat.ne_of_lt hlt) its.toArray,
  ⟨⟨_,Heap.get?_push_size _ rfl,rfl,rfl⟩,pl.isList.push _⟩,fun b hb=>?_,fun i v hP=>?_,fun j hj=>?_,fun h' tk t' hk=>?_⟩
 ·rw [Heap.size_push]
  rcases List.mem_cons.mp hb with rfl | hb
  ·exact Nat.lt_succ_self _
  ·rw [List.mem_singleton.mp hb]
   exact Nat.lt_succ_of_lt hlt
 ·have hP':its[i]? = some v:=by simpa using hP
  have hi:i<its.length:=(List.getElem?_eq_some_iff.mp hP').1
  have hb:ns[i]? = some ns[i]:=by simp [hlen,hi]
  obtain ⟨u,hu,ru⟩:=rv.get (i:=i) (x:=.int ns[i]) (by rw [List.getElem?_map,hb]; rfl)
  rw [hP'] at hu
  cases hu
  obtain ⟨t,rfl⟩:=ru
  exact ⟨t,by dsimp only; rw [hb]; rfl⟩
 ·have hj':j<ns.length:=by rw [hlen]; simpa using hj
  rw [Gb ns (j+1) (by omega)]
  have h1:=hb ns[j] (List.getElem_mem hj')
  have h2:=RK 100000 (ns.take (j+1)) fun n hn=>hb n (List.mem_of_mem_take hn)
  have h3:(ns.take (j+1)).length<=1000:=by rw [List.length_take]; omega
  unfold InLong
  dsimp only
  rw [List.getElem?_eq_getElem hj']
  rw [Option.getD_some]
  refine ⟨⟨?_,?_⟩,⟨?_,?_⟩⟩ <;> omega
 ·have e:preSum (fun i=>(ns[i]?).getD 0) its.toArray.size=ns.sum:=by rw [List.size_toArray,← hlen,Gb ns _ (Nat.le_refl _),List.take_length]
  rw [e]
  refine ⟨.int ns.sum,H,I.kept (t':=tk) fun b o eb=>hk b o (fun hm=>?_) (Heap.get?_push_of_some _ eb),⟨_,rfl⟩,q⟩
  rw [List.mem_singleton.mp hm] at eb
  exact Nat.lt_irrefl _ (Heap.lt_size eb)
structure KDict (K:PySem.W.Frag) (P:Params) (a:Addr):Prop where
 is:∃ es n,K.lookup a=some ⟨.type "dict",none,.dict es n,#[]⟩/\PySem.W.KeysLit P es.toList
 lo:(a == sysModules)=false
noncomputable def Y5 (K:PySem.W.Frag) (P:Params) (td ty:TE):TE:=fun σ H Q=>td σ H fun x H1=>ty σ H1 fun y H2=>∃ a z v u,x=.ref a/\y=.str z/\KDict K P a/\PySem.W.nsIn K a z=some (some u)/\RelV v u/\Q v H2
noncomputable def Z7 (K:PySem.W.Frag) (P:Params) (neg:Bool) (ty td:TE):TE:=fun σ H Q=>ty σ H fun y H1=>td σ H1 fun x H2=>∃ a z r,x=.ref a/\y=.str z/\KDict K P a/\PySem.W.nsIn K a z=some r/\Q (.bl (if neg then !r.isSome else r.isSome)) H2
variable {o i:Expr} {pos:Pos} {td ty:TE}
theorem KZ (ho:PE X o td) (hi:PE X i ty) (hs:Wj i):PE X (.Subscript o i pos) (Y5 X.K X.w.params td ty):=by
 intro pins s σ H Q I h
 refine Ny PySem.F.slot_dict_getitem.lookup hs (CJ (ho pins s σ H _ I h) fun u s1 ⟨x,H1,I1,rx,q1⟩=>CJ (hi pins s1 σ H1 _ I1 q1) fun iv s2 hq0=>?_)
 obtain ⟨y,H2,I2,ry,a,z,v,w,ex,ey,kd,hw,rw',q2⟩:=hq0
 subst ex ey
 cases rx
 obtain ⟨t,rfl⟩:=ry
 obtain ⟨⟨es,n,hl,hk⟩,lo⟩:=kd
 have hm:=PySem.W.mapOf_K (prog:=X.prog) I2.Gx hl hk
 exact ⟨hm.typeIs,wpAny_getItem_of (strKind_is X.prog X.w z t) hm (PySem.W.find_K hl hw) ⟨v,H2,I2.tok _,rw',q2⟩⟩
theorem Sw (hi:PE X i ty) (ho:PE X o td):PC X .In i o (Z7 X.K X.w.params false ty td):=by
 intro pins s σ H Q I h
 refine CJ (hi pins s σ H _ I h) fun iv s1 ⟨y,H1,I1,ry,q1⟩=>CJ (ho pins s1 σ H1 _ I1 q1) fun u s2 hq0=>?_
 obtain ⟨x,H2,I2,rx,a,z,r,ex,ey,kd,hw,q2⟩:=hq0
 subst ex ey
 cases rx
 obtain ⟨t,rfl⟩:=ry
 obtain ⟨⟨es,n,hl,hk⟩,lo⟩:=kd
 refine wpAny_in_of (strKind_is X.prog X.w z t) lo (PySem.W.mapOf_K (prog:=X.prog) I2.Gx hl hk) ?_
 rw [PySem.W.find_K hl hw]
 exact ⟨.bl r.isSome,H2,I2.tok _,rfl,q2⟩
theorem Qe (hi:PE X i ty) (ho:PE X o td):PC X .NotIn i o (Z7 X.K X.w.params true ty td):=by
 intro pins s σ H Q I h
 refine CJ (hi pins s σ H _ I h) fun iv s1 ⟨y,H1,I1,ry,q1⟩=>CJ (ho pins s1 σ H1 _ I1 q1) fun u s2 hq0=>?_
 obtain ⟨x,H2,I2,rx,a,z,r,ex,ey,kd,hw,q2⟩:=hq0
 subst ex ey
 cases rx
 obtain ⟨t,rfl⟩:=ry
 obtain ⟨⟨es,n,hl,hk⟩,lo⟩:=kd
 refine wpAny_notIn_of (strKind_is X.prog X.w z t) lo (PySem.W.mapOf_K (prog:=X.prog) I2.Gx hl hk) ?_
 rw [PySem.W.find_K hl hw]
 exact ⟨.bl (!r.isSome),H2,I2.tok _,rfl,q2⟩
end
section
variable {X:Cx} {e st:Expr} {lo hi:Option Expr} {te ts:TE} {tl th:TO} {p2 pos:Pos}
end
end L2
namespace Og
open PySem L2
theorem Am {X:Cx} {K:PySem.W.Frag} (h:X.K=K):Xx X (au K):=h ▸ XC
theorem FT {X:Cx} {K:PySem.W.Frag} (h:X.K=K):Xx X (Ze K):=h ▸ Dd
theorem JQ {X:Cx} {K:PySem.W.Frag} (h:X.K=K):Ft X (compareOp .In) (bh K false):=h ▸ P0
theorem Q_ {X:Cx} {e:Expr}:PE X e (fun _ _ _=>False):=fun _ _ _ _ _ _ h=>h.elim
structure R where
 w:Str
 nm:Str
 rest:List V
noncomputable abbrev R.v (r:R):List V:=.str r.w :: .str r.nm::r.rest
noncomputable def isNm (z:Str):Prop:=1<=z.length/\z.length<=8/\∀ c∈z.cps.toList,97<=c/\c<=122
noncomputable def Rows (H:Hp) (ρ:V->R) (vs:List V):Prop:=∀ v∈vs,TupAt H (ρ v).v v
theorem Rows.mono {H H':Hp} {ρ:V->R} {vs:List V} (s:Al H H') (h:Rows H ρ vs):Rows H' ρ vs:=fun v hv=>(h v hv).mono s
theorem Rows.sub {H:Hp} {ρ:V->R} {vs us:List V} (h:Rows H ρ vs) (hs:∀ v∈us,v∈vs):Rows H ρ us:=fun v hv=>h v (hs v hv)
noncomputable abbrev pw (ρ:V->R) (w:Str) (v:V):Bool:=decide (V.str (ρ v).w=V.str w)
noncomputable abbrev pn (ρ:V->R) (t:Str) (v:V):Bool:=decide (V.str (ρ v).nm=V.str t)
noncomputable def Ux (ρ:V->R) (vs:List V) (w t:Str):Bool:=(vs.filter (pw ρ w)).any (pn ρ t)
noncomputable def KTup (K:PySem.W.Frag) (a:Addr) (xs:List V):Prop:=∃ (o:Obj) (its:Array Value) (n:Nat),K.lookup a=some o/\o.cls=.type "tuple" /\ o.data=.seq its n/\its.size<=sizeLine/\Vals xs its.toList
theorem KTup.sq {K:PySem.W.Frag} {a:Addr} {xs:List V} (h:KTup K a xs) (H:Hp):G8 K H a xs:=.inr h
noncomputable abbrev named:List Str:=["board","rank","stop","coupler","mute"]
noncomputable def G5 (K:PySem.W.Frag) (aB:Addr) (ρ:V->R) (vs:List V) (x:V) (part:Str):Prop :=
 (∃ (i lo hi:Int) (b:Addr),x=.int i/\PySem.W.nsIn K aB part=some (some (.ref b))/\KTup K b [.int lo,.int hi]/\lo<=i/\i<=hi) \/
 (PySem.W.nsIn K aB part=some none/\part = "new" /\ ∃ t,x=.str t/\isNm t/\∀ w∈named,Ux ρ vs w t=false) \/
 (PySem.W.nsIn K aB part=some none/\¬ part = "new" /\ ∃ t,x=.str t/\isNm t/\Ux ρ vs part t=true)
structure J3 (K:PySem.W.Frag) (aB aP aM:Addr) (ρ:V->R) (vs:List V) (r:R):Prop where
 ns:¬ r.w = "step"
 nl:¬ r.w = "line"
 parts:∃ (ap:Addr) (ps:List Str),PySem.W.nsIn K aP r.w=some (some (.ref ap))/\KTup K ap (ps.map V.str)/\(V.str r.nm::r.rest).length=ps.length/\ps.length<=10 /\
  ∀ (i:Nat) x y,(V.str r.nm::r.rest)[i]? = some x->ps[i]? = some y->G5 K aB ρ vs x y
 room:∃ (m:Int) (t:Tok),PySem.W.nsIn K aM r.w=some (some (.int m t))/\(((vs.filter (pw ρ r.w)).length:Nat):Int)<m
noncomputable def letters:Str:="abcdefghijklmnopqrstuvwxyz"
noncomputable abbrev Yy (y:Str) (c:Nat):Bool:=!(Builtin.Str.occurrences y ⟨#[c]⟩ 0 y.length 1).isEmpty
theorem VL:∀ c<128,Yy letters c=decide (97<=c/\c<=122):=by decide +kernel
theorem BK {H:Hp} {p:Addr} {o:HO} (h:H p=none):Al H (upd H p o):=fun b u e=>by rw [Ax (Aw e h)]; exact e
theorem Hq {H:Hp} {p:Addr} {o:HO} (h:H p=none):∃ H',upd H p o=H'/\Al H H'/\H' p=some o:=⟨_,rfl,BK h,Ak⟩
theorem C_ {n:Nat} (h:n<=1000):n<=sizeLine:=Nat.le_of_lt (Ay h)
theorem ty_int {K:PySem.W.Frag}:PySem.W.kitOne K (.type "int") (.type "int")=some true:=by kernel_rfl
theorem Vw {K:PySem.W.Frag}:PySem.W.kitOne K (.type "int") (.type "bool")=some false:=by kernel_rfl
theorem Sx {K:PySem.W.Frag}:PySem.W.kitOne K (.type "list") (.type "list")=some true:=by kernel_rfl
theorem Ov {K:PySem.W.Frag}:PySem.W.kitOne K (.type "tuple") (.type "tuple")=some true:=by kernel_rfl
theorem OD {K:PySem.W.Frag}:PySem.W.kitOne K (.type "str") (.type "str")=some true:=by kernel_rfl
theorem JT (vs:List V) (n:Nat) (h:n<=vs.length):Et vs none (some (n:Int))=vs.take n:=by
 unfold Et
 have e1:HT.Dj vs.length 0 none=0:=rfl
 have e2:HT.Dj vs.length vs.length (some (n:Int))=n:=by
  rw [HT.HX]
  omega
 rw [e1,e2]
 simp
theorem G3 {α:Type} (p:α->Bool) (l:List α):(l.filter p).length<=l.length:=List.length_filter_le _ _
noncomputable abbrev bV (b:Str × Nat):List V:=[.str b.1,.int (b.2:Nat)]
noncomputable abbrev Ep (b:Str × Nat):R:=⟨"board",b.1,[.int (b.2:Nat)]⟩
noncomputable abbrev qV (q:Nat × Nat):List V:=[.int (q.1:Nat),.int (q.2:Nat)]
noncomputable def Ea (bs:List (Str × Nat)):List (Nat × Nat):=bs.zipIdx.flatMap fun p=>(List.range p.1.2).map fun e=>(p.2,e)
theorem RT (bs:List (Str × Nat)) (b:Str × Nat):Ea (bs++[b])=Ea bs++(List.range b.2).map fun e=>(bs.length,e):=by
 unfold Ea
 rw [List.zipIdx_append]
 simp
theorem Hm {bs:List (Str × Nat)} {i:Nat} {b:Str × Nat} (h:bs[i]? = some b):Ea (bs.take (i+1))=Ea (bs.take i)++(List.range b.2).map fun e=>(i,e):=by
 have hi:i<bs.length:=(List.getElem?_eq_some_iff.mp h).1
 rw [List.take_add_one,h]
 show Ea (bs.take i++[b])=_
 rw [RT,List.length_take,Nat.min_eq_left (by omega)]
theorem KH (bs:List (Str × Nat)) (M:Nat):(∀ b∈bs,b.2<=M)->(Ea bs).length<=bs.length * M:=by
 intro h
 have key:∀ i,i<=bs.length->(Ea (bs.take i)).length<=i * M:=by
  intro i
  induction i with
  | zero=>intro _; simp [Ea]
  | succ i ih =>
   intro hi
   have hlt:i<bs.length:=by omega
   rw [Hm (List.getElem?_eq_getElem hlt),List.length_append,List.length_map,List.length_range]
   have h1:=ih (by omega)
   have h2:=h bs[i] (List.getElem_mem hlt)
   have:(i+1) * M=i * M+M:=by rw [Nat.add_mul,Nat.one_mul]
   omega
 have:=key bs.length (Nat.le_refl _)
 rw [List.take_length] at this
 exact this
theorem Br {α β:Type} {F:α->β->Prop} {l:List α} {vs:List β} (h:Paired F l vs):∀ {v},v∈vs->∃ a∈l,F a v:=by
 induction h with
 | nil=>intro v hv; cases hv
 | cons a b ih =>
  intro v hv
  rcases List.mem_cons.mp hv with rfl | hv
  ·exact ⟨_,List.mem_cons_self ..,a⟩
  ·obtain ⟨x,hx,q⟩:=ih hv
   exact ⟨x,List.mem_cons_of_mem _ hx,q⟩
theorem Bs {α β:Type} {F:α->β->Prop} {l:List α} {vs:List β} (h:Paired F l vs):∀ {i:Nat} {a},l[i]? = some a->∃ v,vs[i]? = some v/\F a v:=by
 induction h with
 | nil=>intro i a ha; simp at ha
 | cons x y ih =>
  intro i a ha
  cases i with
  | zero =>
   simp at ha
   subst ha
   exact ⟨_,rfl,x⟩
  | succ i=>exact ih (by simpa using ha)
theorem Ma {α β:Type} {F:α->β->Prop} {l:List α} {vs:List β} (h:Paired F l vs):∀ {i:Nat} {v},vs[i]? = some v->∃ a,l[i]? = some a/\F a v:=by
 induction h with
 | nil=>intro i a ha; simp at ha
 | cons x y ih =>
  intro i a ha
  cases i with
  | zero =>
   simp at ha
   subst ha
   exact ⟨_,rfl,x⟩
  | succ i=>exact ih (by simpa using ha)
theorem Ih {α β:Type} {F:α->β->Prop} {l:List α} {vs:List β} (h:Paired F l vs):∀ n:Nat,Paired F (l.take n) (vs.take n):=by
 induction h with
 | nil=>intro n; simp; exact .nil
 | cons x y ih =>
  intro n
  cases n with
  | zero=>exact .nil
  | succ n=>exact .cons x (ih n)
theorem Fl {α β:Type} {F:α->β->Prop} {l l':List α} {vs vs':List β} (h:Paired F l vs) (h':Paired F l' vs'):Paired F (l++l') (vs++vs'):=by
 induction h with
 | nil=>exact h'
 | cons x y ih=>exact .cons x ih
theorem Bt {α β γ:Type} {F:γ->β->Prop} (g:α->γ) {l:List α} {vs:List β} (h:Paired (fun a v=>F (g a) v) l vs):Paired F (l.map g) vs:=by
 induction h with
 | nil=>exact .nil
 | cons x y ih=>exact .cons x ih
theorem Ex {α β γ:Type} {F:γ->β->Prop} (g:α->γ):∀ {l:List α} {vs:List β},Paired F (l.map g) vs->Paired (fun a v=>F (g a) v) l vs
 | [],_,h=>by cases h; exact .nil
 | a::l,_,h=>by
  cases h with
  | cons x y=>exact .cons x (Ex g y)
noncomputable def Fg (H:Hp) (k:Nat):V->V
 | .ref T=>match H T with
  | some (.tup xs)=>xs.getD k .non
  | _=>.non
 | _=>.non
theorem Fe {H:Hp} {zs:List V} {v:V} (h:TupAt H zs v) (k:Nat):Fg H k v=zs.getD k .non:=by
 obtain ⟨T,rfl,e⟩:=h
 show (match H T with | some (.tup xs)=>xs.getD k V.non | _=>V.non)=_
 rw [e]
theorem Iu {α:Type} {H:Hp} {g:α->List V} (k:Nat) {l:List α} {vs:List V} (h:Paired (fun a v=>TupAt H (g a) v) l vs):vs.map (Fg H k)=l.map fun a=>(g a).getD k .non:=by
 induction h with
 | nil=>rfl
 | cons x y ih=>rw [List.map_cons,List.map_cons,ih,Fe x]
noncomputable def SX (x:Addr) (H H':Hp):Prop:=∀ b o,H b=some o->b ≠ x->H' b=some o
theorem SX.trans {x:Addr} {H H1 H2:Hp} (a:SX x H H1) (b:SX x H1 H2):SX x H H2:=fun c o h n=>b c o (a c o h n) n
theorem SX.of {x:Addr} {H H':Hp} (s:Al H H'):SX x H H':=fun b o h _=>s b o h
theorem SX.up {x:Addr} {H:Hp} {o:HO}:SX x H (upd H x o):=fun b u h n=>by rw [Ax n]; exact h
theorem SX.tup {x:Addr} {H H':Hp} {zs:List V} {y:V} {C dx:Addr} {fs:List (Str × V)} (s:SX x H H') (hx:H x=some (.ins C dx fs)) (h:TupAt H zs y):TupAt H' zs y:=by
 obtain ⟨T,e,q⟩:=h
 exact ⟨T,e,s _ _ q fun z=>by rw [z,hx] at q; cases q⟩
theorem SX.pair {α:Type} {x:Addr} {H H':Hp} {f:α->List V} {l:List α} {vs:List V} {C dx:Addr} {fs:List (Str × V)} (s:SX x H H') (hx:H x=some (.ins C dx fs)) (h:Paired (fun a y=>TupAt H (f a) y) l vs):Paired (fun a y=>TupAt H' (f a) y) l vs:=Paired.Lz h fun _ _ q=>s.tup hx q
theorem SX.lst {x a:Addr} {H H':Hp} {xs:List V} {C dx:Addr} {fs:List (Str × V)} (s:SX x H H') (hx:H x=some (.ins C dx fs)) (h:H a=some (.lst xs)):H' a=some (.lst xs):=s _ _ h fun z=>by rw [z,hx] at h; cases h
theorem SX.dk {x a:Addr} {H H':Hp} {kvs:List (Key × V)} {C dx:Addr} {fs:List (Str × V)} (s:SX x H H') (hx:H x=some (.ins C dx fs)) (h:H a=some (.dK kvs)):H' a=some (.dK kvs):=s _ _ h fun z=>by rw [z,hx] at h; cases h
noncomputable abbrev meths:List Str:=["ranks","pipe_count","pipe","rank_of","board_of_knob","boards","key_count","key","board_of","coupler","knobs","knob_number","board_number","stop","mute","steps","rows"]
structure Cu (C:Addr) (H:Hp) (x:Addr) (bs:List (Str × Nat)) (ks:List R):Prop where
 ob:∃ (dx:Addr) (fs:List (Str × V)) (bl bn kp kr:Addr) (bvs pvs uvs:List V) (kvs:List (Key × V)),H x=some (.ins C dx fs)/\fs.lookup ("board_list" : Str)=some (.ref bl)/\fs.lookup ("board_numbers" : Str)=some (.ref bn)/\fs.lookup ("key_places" : Str)=some (.ref kp)/\fs.lookup ("knob_rows" : Str)=some (.ref kr) /\
  (∀ m∈meths,fs.lookup m=none)/\H bl=some (.lst bvs)/\Paired (fun b y=>TupAt H (bV b) y) bs bvs/\H bn=some (.dK kvs)/\(∀ (i:Nat) b,bs[i]? = some b->Ci kvs (Sum.inr b.1)=some (.int (i:Nat))) /\
  H kp=some (.lst pvs)/\Paired (fun q y=>TupAt H (qV q) y) (Ea bs) pvs/\H kr=some (.lst uvs)/\Paired (fun (r:R) y=>TupAt H r.v y) ks uvs
 nb:bs.length<=5
 sz:∀ b∈bs,b.2<=61
 nk:ks.length<=200
theorem Cu.mono {C:Addr} {H H':Hp} {x:Addr} {bs:List (Str × Nat)} {ks:List R} (s:Al H H') (h:Cu C H x bs ks):Cu C H' x bs ks:=by
 obtain ⟨⟨dx,fs,bl,bn,kp,kr,bvs,pvs,uvs,kvs,h1,l1,l2,l3,l4,lm,h2,h3,h4,h5,h6,h7,h8,h9⟩,a,b,c⟩:=h
 exact ⟨⟨dx,fs,bl,bn,kp,kr,bvs,pvs,uvs,kvs,s _ _ h1,l1,l2,l3,l4,lm,s _ _ h2,Aj s h3,s _ _ h4,h5,s _ _ h6,Aj s h7,s _ _ h8,Aj s h9⟩,a,b,c⟩
end Og
namespace L2
open PySem PySem.Spec PyProof.Rows
section
variable {X:Cx}
theorem Uo (xs ys:List V):((List.range (min xs.length ys.length)).all (fun j=>Jv (xs.getD j .non) (ys.getD j .non)) && xs.length == ys.length)=K3 xs ys:=by
 by_cases h:xs.length=ys.length
 ·rw [show min xs.length ys.length=xs.length by omega,Hv xs ys h,beq_iff_eq.mpr h,Bool.and_true]
 ·rw [Kh xs ys h,beq_eq_false_iff_ne.mpr h,Bool.and_false]
noncomputable def YM (K:PySem.W.Frag) (neg:Bool):R2:=fun x y H Q=>∃ p q xs ys,x=.ref p/\y=.ref q/\G8 K H p xs/\G8 K H q ys/\xs.all Dw=true/\ys.all Dw=true/\Q (.bl (if neg then !K3 xs ys else K3 xs ys)) H
theorem Px (hu:X.A.units<cLine):Ft X (compareOp .NotEq) (YM X.K true):=by
 intro pins s σ H x y v u Q I rx ry h
 obtain ⟨p,q,xs,ys,rfl,rfl,hp,hq,fx,fy,k⟩:=h
 cases rx
 cases ry
 obtain ⟨its,r,pl,hz⟩:=I.tuple hp
 obtain ⟨its2,r2,pl2,hz2⟩:=I.tuple hq
 have l1:=r.length
 have l2:=r2.length
 refine SeqAt.RcNeAt.tuples (e:=fun j=>Jv (xs.getD j .non) (ys.getD j .non)) pl pl2 hu (fun j h1 h2=>?_) _ _ _ _ ⟨.bl (!K3 xs ys),H,I,?_,k⟩
 ·have h1':j<its.length:=by simpa using h1
  have h2':j<its2.length:=by simpa using h2
  simp only [List.getElem_toArray]
  exact Mp (KJ r h1') (KJ r2 h2') (JH fx (by omega)) (JH fy (by omega))
 ·rw [List.size_toArray,List.size_toArray,← l1,← l2,Uo xs ys]
  exact rfl
end
end L2
namespace L2
open PySem PySem.Spec PyProof.Rows
section
variable {σ:St} {H1:Hp} {Q:VK} {tt:TT} {te:TE}
end
end L2
namespace Og
open PySem L2 PyProof.Rows
inductive Kb where
 | cp (i j:Nat) (s:Int)
 | pl (w:Str) (i:Nat)
noncomputable def Kb.w:Kb->Str
 | .cp _ _ _=>"coupler"
 | .pl w _=>w
noncomputable def Kb.v:Kb->List V
 | .cp i j s=>[.str "coupler",.int (i:Nat),.int (j:Nat),.int s]
 | .pl w i=>[.str w,.int (i:Nat)]
noncomputable def Kb.ok (n:Nat):Kb->Prop
 | .cp i j s=>i<n/\j<n /\ -60<=s/\s<=60
 | .pl w i=>i<n/\(w = "mute" \/ w = "stop")
theorem Kb.wo {n:Nat} {k:Kb} (h:k.ok n):k.w = "stop" \/ k.w = "coupler" \/ k.w = "mute":=by
 cases k with
 | cp i j s=>exact .inr (.inl rfl)
 | pl w i=>rcases h.2 with e | e; exact .inr (.inr e); exact .inl e
noncomputable def Gv (w:Str):Nat:=if w = "coupler" then 12 else if w = "mute" then 5 else 24
noncomputable abbrev Hg (w:Str) (z:Kb):Bool:=decide (V.str z.w=V.str w)
structure KD (n:Nat) (kbs:List Kb):Prop where
 ok:∀ k∈kbs,k.ok n
 room:∀ (i:Nat) k,kbs[i]? = some k->((kbs.take i).filter (Hg k.w)).length<Gv k.w
 len:kbs.length<=70
noncomputable def G6 (c:Nat->Str) (k:Nat):Kb->R
 | .cp i j s=>⟨"coupler",c (30+k),[.str (c i),.str (c j),.int s]⟩
 | .pl w i=>⟨w,c (30+k),[.str (c i)]⟩
theorem Dy (c:Nat->Str) (k:Nat) (z:Kb):(G6 c k z).w=z.w:=by cases z <;> rfl
theorem Oa (c:Nat->Str) (k:Nat) (z:Kb):(G6 c k z).nm=c (30+k):=by cases z <;> rfl
noncomputable def Bg (c:Nat->Str) (sz:List Nat):List (Str × Nat):=sz.zipIdx.map fun p=>(c p.2,p.1)
noncomputable def BR (c:Nat->Str) (kbs:List Kb):List R:=kbs.zipIdx.map fun p=>G6 c p.2 p.1
theorem FQ {c:Nat->Str} {sz:List Nat} {i z:Nat} (h:sz[i]? = some z):(Bg c sz)[i]? = some (c i,z):=by
 unfold Bg
 rw [List.getElem?_map,List.getElem?_zipIdx,h]
 simp
theorem O_ {c:Nat->Str} {sz:List Nat} {i:Nat} {b:Str × Nat} (h:(Bg c sz)[i]? = some b):∃ z,sz[i]? = some z/\b=(c i,z):=by
 have hi:i<(Bg c sz).length:=(List.getElem?_eq_some_iff.mp h).1
 have hi':i<sz.length:=by simpa [Bg] using hi
 refine ⟨sz[i],List.getElem?_eq_getElem hi',?_⟩
 rw [FQ (List.getElem?_eq_getElem hi')] at h
 exact (Option.some.inj h).symm
theorem B_ (c:Nat->Str) (sz:List Nat):(Bg c sz).map (·.2)=sz:=by
 unfold Bg
 rw [List.map_map]
 refine List.ext_getElem? fun i=>?_
 rw [List.getElem?_map,List.getElem?_zipIdx]
 cases sz[i]? <;> simp
theorem Dv {c:Nat->Str} {kbs:List Kb} {i:Nat} {z:Kb} (h:kbs[i]? = some z):(BR c kbs)[i]? = some (G6 c i z):=by
 unfold BR
 rw [List.getElem?_map,List.getElem?_zipIdx,h]
 simp
theorem Cd {c:Nat->Str} {kbs:List Kb} {i:Nat} {r:R} (h:(BR c kbs)[i]? = some r):∃ z,kbs[i]? = some z/\r=G6 c i z:=by
 have hi:i<(BR c kbs).length:=(List.getElem?_eq_some_iff.mp h).1
 have hi':i<kbs.length:=by simpa [BR] using hi
 refine ⟨kbs[i],List.getElem?_eq_getElem hi',?_⟩
 rw [Dv (List.getElem?_eq_getElem hi')] at h
 exact (Option.some.inj h).symm
theorem Dl (c:Nat->Str) (kbs:List Kb):(BR c kbs).length=kbs.length:=by simp [BR]
structure KF (K:PySem.W.Frag) (aB aP aM:Addr):Prop where
 pB:∃ a,PySem.W.nsIn K aP "board" = some (some (.ref a))/\KTup K a (["new","keys"].map fun s:String=>V.str s)
 pS:∃ a,PySem.W.nsIn K aP "stop" = some (some (.ref a))/\KTup K a (["new","board"].map fun s:String=>V.str s)
 pM:∃ a,PySem.W.nsIn K aP "mute" = some (some (.ref a))/\KTup K a (["new","board"].map fun s:String=>V.str s)
 pC:∃ a,PySem.W.nsIn K aP "coupler" = some (some (.ref a))/\KTup K a (["new","board","board","leap"].map fun s:String=>V.str s)
 bK:∃ a,PySem.W.nsIn K aB "keys" = some (some (.ref a))/\KTup K a [.int 1,.int 61]
 bL:∃ a,PySem.W.nsIn K aB "leap" = some (some (.ref a))/\KTup K a [.int (-60),.int 60]
 bN:PySem.W.nsIn K aB "new" = some none
 bB:PySem.W.nsIn K aB "board" = some none
 mB:∃ t,PySem.W.nsIn K aM "board" = some (some (.int 5 t))
 mS:∃ t,PySem.W.nsIn K aM "stop" = some (some (.int 24 t))
 mC:∃ t,PySem.W.nsIn K aM "coupler" = some (some (.int 12 t))
 mM:∃ t,PySem.W.nsIn K aM "mute" = some (some (.int 5 t))
noncomputable def Te (H:Hp):V->R
 | .ref T=>match H T with
  | some (.tup (.str w :: .str n::r))=>⟨w,n,r⟩
  | _=>⟨"","",[]⟩
 | _=>⟨"","",[]⟩
theorem Mj {H:Hp} {r:R} {v:V} (h:TupAt H r.v v):Te H v=r:=by
 obtain ⟨T,rfl,e⟩:=h
 show (match H T with | some (.tup (.str w :: .str n::r))=>(⟨w,n,r⟩:R) | _=>⟨"","",[]⟩)=r
 rw [e]
theorem Oi {H:Hp} {rs:List R} {vs:List V} (h:Paired (fun (r:R) v=>TupAt H r.v v) rs vs):vs.map (Te H)=rs:=by
 induction h with
 | nil=>rfl
 | cons x y ih=>rw [List.map_cons,ih,Mj x]
theorem Bm (f:Str) (v:V):∀ l:List (Str × V),(Bf f v l).length<=l.length+1
 | []=>Nat.le_refl _
 | p::r=>by
  unfold Bf
  split
  ·simp
  ·have:=Bm f v r
   simp only [List.length_cons]
   omega
noncomputable abbrev Gy (s:Str):Bool:=inV (.str s) [.str "stop",.str "coupler",.str "mute"]
structure k_ (K:PySem.W.Frag) (aB aP aM:Addr) (ρ:V->R) (us:List V) (bs:List (Str × Nat)) (ks:List R):Prop where
 kinds:∀ v∈us,(ρ v).w = "board" \/ (ρ v).w = "stop" \/ (ρ v).w = "coupler" \/ (ρ v).w = "mute"
 eb:(us.filter (pw ρ "board")).map ρ=bs.map Ep
 ek:(us.filter (fun v=>Gy (ρ v).w)).map ρ=ks
 b0:1<=bs.length
 b5:bs.length<=5
 sz:∀ b∈bs,b.2<=61
 nk:ks.length<=100
 nb:(bs.map (·.1)).Nodup
 nn:(ks.map (·.nm)).Nodup
 len:us.length<=105
 ok:∀ (i:Nat) v,us[i]? = some v->J3 K aB aP aM ρ (us.take i) (ρ v)
noncomputable def Fx (ρ:V->R) (vs:List V):List (Str × Str):=vs.map fun v=>((ρ v).w,(ρ v).nm)
noncomputable abbrev Om (wn:List (Str × Str)) (w t:Str):Bool:=(wn.filter fun p=>decide (p.1=w)).any fun p=>decide (p.2=t)
noncomputable abbrev SJ (wn:List (Str × Str)) (w:Str):Nat:=(wn.filter fun p=>decide (p.1=w)).length
theorem Gj (a b:Str):decide (V.str a=V.str b)=decide (a=b):=by
 rw [Bool.eq_iff_iff,decide_eq_true_eq,decide_eq_true_eq]
 exact ⟨V.str.inj,congrArg V.str⟩
theorem Ig (ρ:V->R) (vs:List V) (w t:Str):Ux ρ vs w t=Om (Fx ρ vs) w t:=by
 unfold Ux Fx
 show _=((vs.map fun v=>((ρ v).w,(ρ v).nm)).filter fun p=>decide (p.1=w)).any fun p=>decide (p.2=t)
 rw [List.filter_map,List.any_map]
 have e1:pw ρ w=(fun p:Str × Str=>decide (p.1=w)) ∘ fun v=>((ρ v).w,(ρ v).nm):=by
  funext v
  exact Gj _ _
 have e2:pn ρ t=(fun p:Str × Str=>decide (p.2=t)) ∘ fun v=>((ρ v).w,(ρ v).nm):=by
  funext v
  exact Gj _ _
 rw [e1,e2]
theorem HB (ρ:V->R) (vs:List V) (w:Str):(vs.filter (pw ρ w)).length=SJ (Fx ρ vs) w:=by
 unfold Fx
 show _=((vs.map fun v=>((ρ v).w,(ρ v).nm)).filter fun p=>decide (p.1=w)).length
 rw [List.filter_map,List.length_map]
 have e1:pw ρ w=(fun p:Str × Str=>decide (p.1=w)) ∘ fun v=>((ρ v).w,(ρ v).nm):=by
  funext v
  exact Gj _ _
 rw [e1]
section
variable {K:PySem.W.Frag} {aB aP aM:Addr} {ρ:V->R} {vs:List V} {wn:List (Str × Str)} {t:Str}
theorem HN (F:KF K aB aP aM) (e:Fx ρ vs=wn) (ht:isNm t) (h:∀ w∈named,Om wn w t=false):G5 K aB ρ vs (.str t) "new" :=
 .inr (.inl ⟨F.bN,rfl,_,rfl,ht,fun w hw=>by rw [Ig,e]; exact h w hw⟩)
theorem G9 (F:KF K aB aP aM) (e:Fx ρ vs=wn) (ht:isNm t) (h:Om wn "board" t=true):G5 K aB ρ vs (.str t) "board" :=
 .inr (.inr ⟨F.bB,by decide +kernel,_,rfl,ht,by rw [Ig,e]; exact h⟩)
theorem Pr (F:KF K aB aP aM) (e:Fx ρ vs=wn) (ht:isNm t) (h:∀ w∈named,Om wn w t=false) (hc:SJ wn "board" < 5) {n:Nat} (h1:1<=n) (h2:n<=61):J3 K aB aP aM ρ vs (Ep (t,n)):=by
 obtain ⟨ap,g1,g2⟩:=F.pB
 obtain ⟨ab,g3,g4⟩:=F.bK
 obtain ⟨tk,g5⟩:=F.mB
 refine ⟨by show ¬ ("board" : Str) = "step"; decide +kernel,by show ¬ ("board" : Str) = "line"; decide +kernel,⟨ap,["new","keys"],g1,g2,rfl,by decide,fun j x y hx hy=>?_⟩,⟨5,tk,g5,?_⟩⟩
 ·match j,hx,hy with
  | 0,hx,hy =>
   cases (Option.some.inj hx)
   cases (Option.some.inj hy)
   exact HN F e ht h
  | 1,hx,hy =>
   cases (Option.some.inj hx)
   cases (Option.some.inj hy)
   exact .inl ⟨_,1,61,ab,rfl,g3,g4,by omega,by omega⟩
  | j+2,hx,hy=>simp at hy
 ·rw [HB,e]
  show ((SJ wn "board" : Nat):Int)<5
  omega
theorem Lh (F:KF K aB aP aM) (e:Fx ρ vs=wn) (ht:isNm t) (h:∀ w∈named,Om wn w t=false) (hc:SJ wn "coupler" < 12) {a b:Str} (ha:isNm a) (ha':Om wn "board" a=true) (hb:isNm b) (hb':Om wn "board" b=true) {s:Int} (h1 : -60<=s) (h2:s<=60):J3 K aB aP aM ρ vs ⟨"coupler",t,[.str a,.str b,.int s]⟩:=by
 obtain ⟨ap,g1,g2⟩:=F.pC
 obtain ⟨ab,g3,g4⟩:=F.bL
 obtain ⟨tk,g5⟩:=F.mC
 refine ⟨by show ¬ ("coupler" : Str) = "step"; decide +kernel,by show ¬ ("coupler" : Str) = "line"; decide +kernel,⟨ap,["new","board","board","leap"],g1,g2,rfl,by decide,fun j x y hx hy=>?_⟩,⟨12,tk,g5,?_⟩⟩
 ·match j,hx,hy with
  | 0,hx,hy =>
   cases (Option.some.inj hx)
   cases (Option.some.inj hy)
   exact HN F e ht h
  | 1,hx,hy =>
   cases (Option.some.inj hx)
   cases (Option.some.inj hy)
   exact G9 F e ha ha'
  | 2,hx,hy =>
   cases (Option.some.inj hx)
   cases (Option.some.inj hy)
   exact G9 F e hb hb'
  | 3,hx,hy =>
   cases (Option.some.inj hx)
   cases (Option.some.inj hy)
   exact .inl ⟨_,-60,60,ab,rfl,g3,g4,h1,h2⟩
  | j+4,hx,hy=>simp at hy
 ·rw [HB,e]
  show ((SJ wn "coupler" : Nat):Int)<12
  omega
end
theorem Ph {α:Type} {l:List α} (h:∀ (i j:Nat) x,l[i]? = some x->l[j]? = some x->i=j):l.Nodup:=by
 refine List.pairwise_iff_getElem.mpr fun i j hi hj hij e=>?_
 have:=h i j l[i] (List.getElem?_eq_getElem hi) (by rw [e]; exact List.getElem?_eq_getElem hj)
 omega
theorem Uv {bs:List (Str × Nat)}:∀ {i a n:Nat},(Ea bs)[i]? = some (a,n)->∃ b,bs[a]? = some b/\n<b.2/\i=((bs.map (·.2)).take a).sum+n:=by
 have key:∀ m,m<=bs.length->∀ {i a n:Nat},(Ea (bs.take m))[i]? = some (a,n)->∃ b,bs[a]? = some b/\n<b.2/\i=((bs.map (·.2)).take a).sum+n:=by
  intro m
  induction m with
  | zero =>
   intro _ i a n h
   simp [Ea] at h
  | succ m ih =>
   intro hm i a n h
   have hlt:m<bs.length:=by omega
   have hb:=List.getElem?_eq_getElem hlt
   rw [Hm hb] at h
   have hlen:(Ea (bs.take m)).length=((bs.map (·.2)).take m).sum:=by
    have g:∀ m,m<=bs.length->(Ea (bs.take m)).length=((bs.map (·.2)).take m).sum:=by
     intro m
     induction m with
     | zero=>intro _; simp [Ea]
     | succ m ih =>
      intro hm
      have hlt:m<bs.length:=by omega
      rw [Hm (List.getElem?_eq_getElem hlt),List.length_append,ih (by omega),List.length_map,List.length_range,List.take_add_one,List.getElem?_map,List.getElem?_eq_getElem hlt,List.sum_append]
      simp
    exact g m (by omega)
   by_cases hi:i<(Ea (bs.take m)).length
   ·rw [List.getElem?_append_left hi] at h
    exact ih (by omega) h
   ·rw [List.getElem?_append_right (by omega),List.getElem?_map] at h
    obtain ⟨e,he,q⟩:=Option.map_eq_some_iff.mp h
    have he':i - (Ea (bs.take m)).length<bs[m].2/\e=i - (Ea (bs.take m)).length:=by
     obtain ⟨h1,h2⟩:=List.getElem?_eq_some_iff.mp he
     rw [List.length_range] at h1
     rw [List.getElem_range] at h2
     exact ⟨h1,h2.symm⟩
    obtain ⟨q1,q2⟩:=Prod.mk.inj q
    subst q1 q2
    refine ⟨bs[m],hb,by omega,?_⟩
    rw [← hlen]
    omega
 intro i a n h
 refine key bs.length (Nat.le_refl _) ?_
 rw [List.take_length]
 exact h
theorem Ef (bs:List (Str × Nat)):(Ea bs).length=(bs.map (·.2)).sum:=by
 unfold Ea
 rw [List.length_flatMap]
 have:(bs.zipIdx.map fun p=>((List.range p.1.2).map fun e=>(p.2,e)).length)=bs.map (·.2):=by
  refine List.ext_getElem? fun i=>?_
  rw [List.getElem?_map,List.getElem?_map,List.getElem?_zipIdx]
  cases bs[i]? <;> simp
 rw [this]
end Og
namespace Og
open PySem L2
noncomputable def Mg (bs:List (Str × Nat)) (j1 j2:Nat) (s:Int) (qd:Nat × Nat) (z2:Nat):V :=
 if qd.1=j1/\0<=(qd.2:Int)+s/\(qd.2:Int)+s<z2 then .int ((((bs.take j2).map (·.2)).sum:Nat)+((qd.2:Int)+s)) else .non
noncomputable def gl (bs:List (Str × Nat)):Kb->Nat->Option Nat
 | .cp j1 j2 s,i=>match (Ea bs)[i]?,bs[j2]? with
  | some qd,some b2=>match Mg bs j1 j2 s qd b2.2 with
   | .int v=>some v.toNat
   | _=>none
  | _,_=>none
 | .pl _ _,_=>none
theorem Kl (l:List Nat):∀ {a b:Nat},a<=b->(l.take a).sum<=(l.take b).sum:=by
 intro a b h
 have e:l.take a=(l.take b).take a:=by rw [List.take_take,Nat.min_eq_left h]
 rw [e]
 have:=congrArg List.sum (List.take_append_drop a (l.take b))
 rw [List.sum_append] at this
 omega
theorem Qu {bs:List (Str × Nat)} {j1 j2 i:Nat} {s:Int} {qd:Nat × Nat} {b2:Str × Nat} (hq:(Ea bs)[i]? = some qd) (hb:bs[j2]? = some b2) :
  (Mg bs j1 j2 s qd b2.2=.non/\gl bs (.cp j1 j2 s) i=none) \/ ∃ j:Nat,Mg bs j1 j2 s qd b2.2=.int (j:Nat)/\gl bs (.cp j1 j2 s) i=some j/\j<(bs.map (·.2)).sum:=by
 have e:gl bs (.cp j1 j2 s) i=match Mg bs j1 j2 s qd b2.2 with | .int v=>some v.toNat | _=>none:=by
  simp only [gl,hq,hb]
 rw [e]
 unfold Mg
 by_cases h:qd.1=j1/\0<=(qd.2:Int)+s/\(qd.2:Int)+s<b2.2
 ·rw [if_pos h]
  obtain ⟨h1,h2,h3⟩:=h
  have hs:((bs.map (·.2)).take (j2+1)).sum=(((bs.take j2).map (·.2)).sum+b2.2):=by
   rw [List.take_add_one,List.getElem?_map,hb,List.sum_append,List.map_take]
   simp
  have hle:((bs.map (·.2)).take (j2+1)).sum<=(bs.map (·.2)).sum:=by
   have:=congrArg List.sum (List.take_append_drop (j2+1) (bs.map (·.2)))
   rw [List.sum_append] at this
   omega
  refine .inr ⟨((((bs.take j2).map (·.2)).sum:Nat)+((qd.2:Int)+s)).toNat,?_,rfl,by omega⟩
  rw [Int.toNat_of_nonneg (by omega)]
 ·rw [if_neg h]
  exact .inl ⟨rfl,rfl⟩
theorem Va {bs:List (Str × Nat)} {z:Kb} {i j:Nat} (h:gl bs z i=some j):j<(bs.map (·.2)).sum:=by
 cases z with
 | pl w a=>cases h
 | cp j1 j2 s =>
  cases hq:(Ea bs)[i]? with
  | none =>
   simp only [gl,hq] at h
   cases h
  | some qd =>
   cases hb:bs[j2]? with
   | none =>
    simp only [gl,hq,hb] at h
    cases h
   | some b2 =>
    rcases Qu (j1:=j1) (s:=s) hq hb with ⟨_,e⟩ | ⟨j',_,e,lt⟩
    ·rw [e] at h
     cases h
    ·rw [e] at h
     cases h
     exact lt
noncomputable abbrev Wh (z:Kb):Bool:=decide (V.str z.w=V.str "coupler")
theorem RJ {bs:List (Str × Nat)} {z:Kb} {i j:Nat} (h:gl bs z i=some j):Wh z=true:=by
 cases z with
 | pl w a=>cases h
 | cp j1 j2 s=>exact decide_eq_true rfl
theorem T_ {n:Nat} {z:Kb} (ho:z.ok n) (h:Wh z=true):∃ i j s,z=.cp i j s:=by
 cases z with
 | cp i j s=>exact ⟨i,j,s,rfl⟩
 | pl w i =>
  exfalso
  have h':=V.str.inj (of_decide_eq_true h)
  rcases ho.2 with rfl | rfl
  ·exact absurd h' (by show ¬ ("mute" : Str) = "coupler"; decide +kernel)
  ·exact absurd h' (by show ¬ ("stop" : Str) = "coupler"; decide +kernel)
noncomputable def stp (bs:List (Str × Nat)) (kbs:List Kb) (D:Nat) (i j:Nat):Prop:=∃ k z,D.testBit k=true/\kbs[k]? = some z/\gl bs z i=some j
inductive J2 (st:Nat->Nat->Prop) (hd:Nat->Prop):Nat->Prop
 | one {i j:Nat}:hd i->st i j->J2 st hd j
 | more {i j:Nat}:J2 st hd i->st i j->J2 st hd j
theorem J2.mono {s1 s2:Nat->Nat->Prop} {h1 h2:Nat->Prop} {j:Nat} (h:J2 s1 h1 j) (hs:∀ i j,s1 i j->s2 i j) (hh:∀ i,h1 i->h2 i):J2 s2 h2 j:=by
 induction h with
 | one a b=>exact .one (hh _ a) (hs _ _ b)
 | more a b ih=>exact .more ih (hs _ _ b)
theorem J2.lt {bs:List (Str × Nat)} {kbs:List Kb} {D:Nat} {h:Nat->Prop} {j:Nat} (r:J2 (stp bs kbs D) h j):j<(bs.map (·.2)).sum:=by
 cases r with
 | one a b=>obtain ⟨k,z,_,_,e⟩:=b; exact Va e
 | more a b=>obtain ⟨k,z,_,_,e⟩:=b; exact Va e
theorem J2.all {st:Nat->Nat->Prop} {hd:Nat->Prop} {W:Nat->Prop} (h1:∀ j,W j->J2 st hd j) (h2:∀ i,(hd i \/ W i)->∀ j,st i j->W j) (j:Nat):W j ↔ J2 st hd j:=by
 refine ⟨h1 j,fun h=>?_⟩
 induction h with
 | one a b=>exact h2 _ (.inl a) _ b
 | more a b ih=>exact h2 _ (.inr ih) _ b
theorem Ej:∀ (T:Nat) {l:List Nat},l.Nodup->(∀ x∈l,x<T)->l.length<=T
 | 0,l,_,h=>by
  cases l with
  | nil=>exact Nat.le_refl _
  | cons a l=>exact absurd (h a (List.mem_cons_self ..)) (Nat.not_lt_zero _)
 | T+1,l,nd,h=>by
  have ih:=Ej T (l:=l.erase T) (nd.erase T) fun x hx=>by
   have h1:=h x (List.mem_of_mem_erase hx)
   have h2:x ≠ T:=fun z=>by
    subst z
    exact nd.not_mem_erase hx
   omega
  have:=List.length_erase (a:=T) (l:=l)
  split at this <;> omega
theorem Gd (a b i:Nat):(a ||| b).testBit i=true ↔ a.testBit i=true \/ b.testBit i=true:=by
 rw [Nat.testBit_or,Bool.or_eq_true]
theorem Ub {a b:Nat} (h:∀ i,a.testBit i=true ↔ b.testBit i=true):a=b:=Nat.eq_of_testBit_eq fun i=>Bool.eq_iff_iff.mpr (h i)
end Og
namespace Og
open PySem L2 PyProof.Rows
noncomputable abbrev Th:=Str × Nat × List V
noncomputable abbrev tV (a:Th):List V:=.str a.1 :: .int (a.2.1:Nat)::a.2.2
noncomputable abbrev tN (a:Th):Str × Nat:=(a.1,a.2.1)
noncomputable abbrev SM (r:Str × Nat × Int):Th:=(r.1,r.2.1,[.int r.2.2])
noncomputable abbrev Xo (b:Str × Nat):Th:=(b.1,b.2,[])
noncomputable abbrev WY (r:Str × Nat × Int):Str × Nat:=(r.1,r.2.1)
noncomputable abbrev Fy (r:Str × Nat × Int):R:=⟨"rank",r.1,[.int (r.2.1:Nat),.int r.2.2]⟩
structure Ln where
 r:Nat
 sh:Int
 lo:Int
 hi:Int
noncomputable abbrev Xy (l:Ln):List V:=[.int (l.r:Nat),.int l.sh,.int l.lo,.int l.hi]
noncomputable def Ge (H:Hp) (l:List Ln) (v:V):Prop:=∃ (A:Addr) (ts:List V),v=.ref A/\H A=some (.lst ts)/\Paired (fun x y=>TupAt H (Xy x) y) l ts
noncomputable def Fb (H:Hp) (D:Addr) (ls:List (List Ln)):Prop:=∃ lv,H D=some (.lst lv)/\Paired (fun l v=>Ge H l v) ls lv
theorem Ge.mono {H H':Hp} {l:List Ln} {v:V} (s:Al H H') (h:Ge H l v):Ge H' l v:=by
 obtain ⟨A,ts,e,h1,h2⟩:=h
 exact ⟨A,ts,e,s _ _ h1,Aj s h2⟩
theorem Fb.mono {H H':Hp} {D:Addr} {ls:List (List Ln)} (s:Al H H') (h:Fb H D ls):Fb H' D ls:=by
 obtain ⟨lv,h1,h2⟩:=h
 exact ⟨lv,s _ _ h1,Paired.Lz h2 fun _ _ q=>q.mono s⟩
structure CW (C:Addr) (H:Hp) (x:Addr) (bs:List (Str × Nat)) (rk:List (Str × Nat × Int)) (ks:List R) (ls:List (List Ln)):Prop where
 o:Cu C H x bs ks
 r:∃ (dx:Addr) (fs:List (Str × V)) (rl rn pp kl:Addr) (rvs pvs:List V) (kvs:List (Key × V)),H x=some (.ins C dx fs)/\fs.lookup ("rank_list" : Str)=some (.ref rl)/\fs.lookup ("rank_numbers" : Str)=some (.ref rn)/\fs.lookup ("pipe_places" : Str)=some (.ref pp)/\fs.lookup ("knob_lines" : Str)=some (.ref kl) /\
  H rl=some (.lst rvs)/\Paired (fun (a:Th) y=>TupAt H (tV a) y) (rk.map SM) rvs/\H rn=some (.dK kvs)/\(∀ (i:Nat) r,rk[i]? = some r->Ci kvs (Sum.inr r.1)=some (.int (i:Nat))) /\
  H pp=some (.lst pvs)/\Paired (fun q y=>TupAt H (qV q) y) (Ea (rk.map WY)) pvs/\Fb H kl ls
 nr:rk.length<=12
 nz:∀ r∈rk,r.2.1<=97
 nl:ls.length=ks.length
theorem CW.mono {C:Addr} {H H':Hp} {x:Addr} {bs:List (Str × Nat)} {rk:List (Str × Nat × Int)} {ks:List R} {ls:List (List Ln)} (s:Al H H') (h:CW C H x bs rk ks ls):CW C H' x bs rk ks ls:=by
 obtain ⟨o,⟨dx,fs,rl,rn,pp,kl,rvs,pvs,kvs,h1,l1,l2,l3,l4,h2,h3,h4,h5,h6,h7,h8⟩,a,b,c⟩:=h
 exact ⟨o.mono s,⟨dx,fs,rl,rn,pp,kl,rvs,pvs,kvs,s _ _ h1,l1,l2,l3,l4,s _ _ h2,Aj s h3,s _ _ h4,h5,s _ _ h6,Aj s h7,h8.mono s⟩,a,b,c⟩
structure Vo (ρ:V->R) (us:List V) (i:Nat):Prop where
 all:∀ j,j<i->∃ v,us[us.length - 1 - j]? = some v/\(ρ v).w = "line"
 lt:i<us.length
 no:∃ v,us[us.length - 1 - i]? = some v/\¬ (ρ v).w = "line"
noncomputable def Wv (r:R):Int:=match r.rest with
 | [.int m]=>m
 | _=>0
noncomputable abbrev keyOf (ρ:V->R) (us:List V) (bd:Str) (n:Int):Bool:=(us.filter (pw ρ "board")).any fun v=>pn ρ bd v && decide (n<Wv (ρ v))
structure M4 (ρ:V->R) (us:List V) (ro:R):Prop where
 ex:∃ (cnt:Nat) (v:V) (sh lo hi:Int) (bd:Str) (rs:List V),ro.rest=[.int sh,.int lo,.int hi]/\Vo ρ us cnt/\cnt<4/\us[us.length - 1 - cnt]? = some v/\(ρ v).w = "stop" /\ (ρ v).rest=.str bd::rs/\lo<=hi/\keyOf ρ us bd hi=true
noncomputable abbrev Ek (ρ:V->R) (us:List V):Prop:=∀ v∈us,(ρ v).w = "board"->∃ m,(ρ v).rest=[.int m]
structure Fi (K:PySem.W.Frag) (aB aP aM:Addr) (ρ:V->R) (vs:List V) (r:R):Prop where
 ns:¬ r.w = "step"
 parts:∃ (ap:Addr) (ps:List Str),PySem.W.nsIn K aP r.w=some (some (.ref ap))/\KTup K ap (ps.map V.str)/\(V.str r.nm::r.rest).length=ps.length/\ps.length<=10 /\
  ∀ (i:Nat) x y,(V.str r.nm::r.rest)[i]? = some x->ps[i]? = some y->G5 K aB ρ vs x y
 room:(r.w = "line" /\ PySem.W.nsIn K aM r.w=some none) \/ ∃ (m:Int) (t:Tok),PySem.W.nsIn K aM r.w=some (some (.int m t))/\(((vs.filter (pw ρ r.w)).length:Nat):Int)<m
 line:r.w = "line"->M4 ρ vs r
 Xv:Ek ρ vs
noncomputable def lnOf (rk:List (Str × Nat × Int)) (r:R):Ln:=match r.rest with
 | [.int sh,.int lo,.int hi]=>⟨(rk.map (·.1)).idxOf r.nm,sh,lo,hi⟩
 | _=>⟨0,0,0,0⟩
noncomputable def putL (acc:List (List Ln)) (l:Ln):List (List Ln):=match acc.getLast? with
 | some z=>acc.dropLast++[z++[l]]
 | none=>[]
noncomputable def Ew (rk:List (Str × Nat × Int)) (acc:List (List Ln)) (r:R):List (List Ln):=if Gy r.w=true then acc++[[]] else if r.w = "line" then putL acc (lnOf rk r) else acc
noncomputable def linesOf (rk:List (Str × Nat × Int)) (rs:List R):List (List Ln):=rs.foldl (Ew rk) []
theorem CG (rk:List (Str × Nat × Int)) (rs:List R) (r:R):linesOf rk (rs++[r])=Ew rk (linesOf rk rs) r:=by
 unfold linesOf
 rw [List.foldl_append]
 rfl
theorem Gk (acc:List (List Ln)) (z:List Ln) (l:Ln):putL (acc++[z]) l=acc++[z++[l]]:=by
 unfold putL
 rw [List.getLast?_concat,List.dropLast_concat]
structure dD (K:PySem.W.Frag) (aB aP aM:Addr) (ρ:V->R) (us:List V) (bs:List (Str × Nat)) (rk:List (Str × Nat × Int)) (ks:List R):Prop where
 kinds:∀ v∈us,(ρ v).w = "board" \/ (ρ v).w = "rank" \/ (ρ v).w = "line" \/ (ρ v).w = "stop" \/ (ρ v).w = "coupler" \/ (ρ v).w = "mute"
 eb:(us.filter (pw ρ "board")).map ρ=bs.map Ep
 er:(us.filter (pw ρ "rank")).map ρ=rk.map Fy
 ek:(us.filter (fun v=>Gy (ρ v).w)).map ρ=ks
 ln:∀ (i:Nat) v,us[i]? = some v->(ρ v).w = "line"->(∃ (j:Nat) (r:Str × Nat × Int) (sh lo hi:Int),rk[j]? = some r/\r.1=(ρ v).nm/\(ρ v).rest=[.int sh,.int lo,.int hi])/\∃ u∈us.take i,Gy (ρ u).w=true
 b0:1<=bs.length
 b5:bs.length<=5
 sz:∀ b∈bs,b.2<=61
 nr:rk.length<=12
 nz:∀ r∈rk,r.2.1<=97
 nk:ks.length<=100
 nb:(bs.map (·.1)).Nodup
 nrr:(rk.map (·.1)).Nodup
 nn:(ks.map (·.nm)).Nodup
 len:us.length<=150
 ok:∀ (i:Nat) v,us[i]? = some v->Fi K aB aP aM ρ (us.take i) (ρ v)
theorem dD.none {K:PySem.W.Frag} {aB aP aM:Addr} {ρ:V->R} {us:List V} {bs:List (Str × Nat)} {rk:List (Str × Nat × Int)} {ks:List R} (h:dD K aB aP aM ρ us bs rk ks):us.filter (pw ρ "step")=[]:=by
 refine List.filter_eq_nil_iff.mpr fun v hv=>?_
 unfold pw
 rcases h.kinds v hv with e | e | e | e | e | e <;> rw [e] <;> decide +kernel
end Og
namespace Ws
open PySem PySem.Spec PyProof.Rows Wd
noncomputable def jq (prog:Program) (w:World) (h:Heap) (a:Addr) (led:Bool) (σ:List Str):Prop :=
 ∃ es ep t,h.get? a=some { cls:=.type "set",dict:=none,data:=.set es ep t }/\ElemsOf (strKind prog w) es.toList/\(∀ k,k∈σ ↔ ∃ e∈es.toList,(strKind prog w).is k e.2=true)/\es.size=σ.length/\σ.Nodup /\
  σ.length<scanBound/\t.fits es.size=true/\Good t led
section
variable {prog:Program} {w:World} {A:Around} {E:Value->Shared->Prop} {s:Shared} {a:Addr} {led:Bool} {σ:List Str} {k:Str} {tk:Tok}
end
inductive StrsAre:List Value->List Str->Prop
 | nil:StrsAre [] []
 | cons (z:Str) (t:Tok) {us:List Value} {zs:List Str}:StrsAre us zs->StrsAre (.str z t::us) (z::zs)
section
variable {prog:Program} {w:World} {A:Around} {R:Result->Shared->Prop} {I:Addr} {fp wr:List Addr} {G:Array GenState->Array GenState->Prop} {n:Nat} {P:Nat->Value->Prop} {St:Nat->Shared->Prop} {led:Bool}
end
section
variable {prog:Program} {w:World} {A:Around} {E:Value->Shared->Prop} {s:Shared}
end
end Ws
namespace L2
open PySem PySem.Spec PyProof.Rows
section
variable {X:Cx}
end
end L2
namespace Og
open PySem L2
structure XH (K:PySem.W.Frag) (aM:Addr) (ρ:V->R) (vs:List V) (r:R):Prop where
 w:r.w = "step"
 ts:∃ ts:List Str,V.str r.nm::r.rest=ts.map V.str/\ts.Nodup/\ts.length<=24/\∀ t∈ts,isNm t/\Ux ρ vs "stop" t=true
 room:∃ (m:Int) (t:Tok),PySem.W.nsIn K aM r.w=some (some (.int m t))/\(((vs.filter (pw ρ r.w)).length:Nat):Int)<m
noncomputable abbrev RV (K:PySem.W.Frag) (aB aP aM:Addr) (ρ:V->R) (vs:List V) (r:R):Prop:=Fi K aB aP aM ρ vs r \/ XH K aM ρ vs r
noncomputable def XM (r:R):List Str:=(V.str r.nm::r.rest).map fun v=>match v with | .str t=>t | _=>""
noncomputable def stN (ks:List R) (r:R):Nat:=Wd.mk ((XM r).map fun t=>(ks.map (·.nm)).idxOf t)
structure kh (K:PySem.W.Frag) (aB aP aM:Addr) (ρ:V->R) (us:List V) (bs:List (Str × Nat)) (rk:List (Str × Nat × Int)) (ks:List R):Prop where
 eb:(us.filter (pw ρ "board")).map ρ=bs.map Ep
 er:(us.filter (pw ρ "rank")).map ρ=rk.map Fy
 ek:(us.filter (fun v=>Gy (ρ v).w)).map ρ=ks
 ln:∀ (i:Nat) v,us[i]? = some v->(ρ v).w = "line"->(∃ (j:Nat) (r:Str × Nat × Int) (sh lo hi:Int),rk[j]? = some r/\r.1=(ρ v).nm/\(ρ v).rest=[.int sh,.int lo,.int hi])/\∃ u∈us.take i,Gy (ρ u).w=true
 st:∀ v∈us,(ρ v).w = "step"->∃ ts:List Str,V.str (ρ v).nm::(ρ v).rest=ts.map V.str/\ts.length<=24/\∀ t∈ts,t∈ks.map (·.nm)
 b0:1<=bs.length
 b5:bs.length<=5
 sz:∀ b∈bs,b.2<=61
 nr:rk.length<=12
 nz:∀ r∈rk,r.2.1<=97
 nk:ks.length<=100
 nb:(bs.map (·.1)).Nodup
 nrr:(rk.map (·.1)).Nodup
 nn:(ks.map (·.nm)).Nodup
 len:us.length<=150
 ok:∀ (i:Nat) v,us[i]? = some v->RV K aB aP aM ρ (us.take i) (ρ v)
structure ig (C:Addr) (H:Hp) (x:Addr) (us:List V) (bs:List (Str × Nat)) (rk:List (Str × Nat × Int)) (ks:List R) (ls:List (List Ln)) (sts:List Nat):Prop where
 o:CW C H x bs rk ks ls
 m:∃ (dx:Addr) (fs:List (Str × V)) (rl kd ss:Addr) (kvs:List (Key × V)),H x=some (.ins C dx fs)/\fs.lookup ("row_list" : Str)=some (.ref rl)/\fs.lookup ("knob_numbers" : Str)=some (.ref kd)/\fs.lookup ("step_sets" : Str)=some (.ref ss) /\
  H rl=some (.lst us)/\H kd=some (.dK kvs)/\(∀ (i:Nat) t,(ks.map (·.nm))[i]? = some t->Ci kvs (Sum.inr t)=some (.int (i:Nat)))/\(∀ t,t ∉ ks.map (·.nm)->Ci kvs (Sum.inr t)=none)/\H ss=some (.lst (sts.map fun n:Nat=>V.int (n:Int))) /\
  ∃ (bn:Addr) (kb:List (Key × V)),fs.lookup ("board_numbers" : Str)=some (.ref bn)/\H bn=some (.dK kb)/\∀ t,t ∉ bs.map (·.1)->Ci kb (Sum.inr t)=none
noncomputable def aG (p:Addr) (H:Hp) (D:Addr) (ls:List (List Ln)):Prop:=∃ lv,H D=some (.lst lv)/\D ≠ p/\Paired (fun l v=>Ge H l v/\v ≠ .ref p) ls lv
end Og
namespace L2
open PySem PySem.Spec PyProof.Rows
section
variable {X:Cx} {pins:List (Addr × Obj)} {σ:St} {H:Hp} {s:Shared}
end
section
variable {X:Cx}
end
end L2
namespace L2
open PySem PySem.Spec PySem.Calls PyProof.Rows
noncomputable def Xh (h:Heap) (x T C:Addr) (od:Option Addr) (fl:Value):Prop :=
 ∃ (vs ts:Array Value) (sl:Array (Option Value)) (oT:Obj),h.get? x=some ⟨.ref C,od,.fields vs,sl⟩/\vs[1]? = some (.ref T)/\T ≠ x/\h.get? T=some oT/\oT.data=.fields ts/\ts[3]? = some fl
structure Mv (fs:List Addr) (x T:Addr) (h h':Heap):Prop where
 keep:∀ b o,h.get? b=some o->b ≠ x->b ≠ T->b ∉ fs->h'.get? b=some o
 any:∀ b o,h.get? b=some o->b ≠ x->b ≠ T->∃ sl,h'.get? b=some { o with slots:=sl }
section
variable {M:Model} {A:Around} {E:Value->Shared->Prop} {s:Shared} {base:Heap} {env:Env} {outer:List Env} {L x T C:Addr} {od:Option Addr} {Q:Unit->Shared->Prop}
theorem JX {vs:Array Value} {sl:Array (Option Value)} {head:Value} {hadNext:Bool} (hfr:A.frames=some (env::outer)) (hl:s.heap.FunFrames base (env::outer)) (hf:env.frame=some L)
  (he:s.heap.get? x=some ⟨.ref C,od,.fields vs,sl⟩) (hsz:1<vs.size)
  (h:∀ h' T',Xh h' x T' C od (rawInt L)->Mv (frs (env::outer)) x x s.heap h'->s.heap.get? T'=none->Q () { s with heap:=h' }) :
  wpAny M A (do let a ← frameOf env; let pl ← entryPlaceOf L hadNext; let b ← EntryCells.newEntry head a .none (rawInt L) .none pl; setField (.ref x) 1 b) Q E s:=by
 have hene:x ∉ (env::outer).filterMap (·.frame):=fun hm=>by
  obtain ⟨_,o,ho,hnf⟩:=hl.mem hm
  rw [he] at ho; injection ho with ho; subst ho; exact hnf vs rfl
 refine wpAny_bind (wpAny_frameOf_fun hfr hl hf fun h₁ hs₁=>?_)
 refine wpAny_bind (wpAny_entryPlaceOf fun pl hpl=>?_)
 unfold EntryCells.newEntry newFields
 refine wpAny_bind (wpAny_newObj_type ?_ (hpl.sizeOk5 _ _ _ _ _))
 have he₁:h₁.get? x=some ⟨.ref C,od,.fields vs,sl⟩:=(hs₁.2.1 x hene).trans he
 have he₂:=Heap.get?_push_of_some (h:=h₁) { cls:=.type "traceback",dict:=none,data:=.fields ([head,.ref L,.none,rawInt L,.none]++(if pl.isEmpty then List.replicate 6 Value.none else pl)).toArray } he₁
 refine wpAny_setField he₂ rfl hsz ?_
 have hTe:h₁.objs.size ≠ x:=Nat.ne_of_gt (Heap.lt_size he₁)
 have hd₃:=Obj.data_mapFields (o:=⟨.ref C,od,.fields vs,sl⟩) rfl (·.setIfInBounds 1 (Value.ref h₁.objs.size))
 have he₃:=Heap.get?_update_self (Obj.mapFields (·.setIfInBounds 1 (Value.ref h₁.objs.size))) he₂ (Obj.isFreed_of_fields hd₃)
 have hT₃:=(Heap.get?_update_other (h₁.push { cls:=.type "traceback",dict:=none,data:=.fields ([head,.ref L,.none,rawInt L,.none]++(if pl.isEmpty then List.replicate 6 Value.none else pl)).toArray })
  (Obj.mapFields (·.setIfInBounds 1 (Value.ref h₁.objs.size))) (Ne.symm hTe)).trans (Heap.get?_push_size h₁ rfl)
 refine h _ h₁.objs.size ⟨_,_,sl,_,he₃,by simp [hsz],hTe,hT₃,rfl,by first | (simp; done) | (rcases hpl with rfl | ⟨_,_,_,_,_,_,_,rfl⟩ <;> simp)⟩ ⟨fun b o hb hx _ hn=>?_,fun b o hb hx _=>?_⟩ ?_
 ·rw [Heap.get?_update_other _ _ (Ne.symm hx)]
  exact Heap.get?_push_of_some _ ((hs₁.2.1 b hn).trans hb)
 ·obtain ⟨sl',hs⟩:=hs₁.2.2 b o hb
  rw [Heap.get?_update_other _ _ (Ne.symm hx)]
  exact ⟨sl',Heap.get?_push_of_some _ hs⟩
 ·refine Heap.get?_none_of_le ?_
  rw [hs₁.1]
  exact Nat.le_refl _
theorem Nh {vs:Array Value} {sl:Array (Option Value)} (hfr:A.frames=some (env::outer)) (hl:s.heap.FunFrames base (env::outer)) (hf:env.frame=some L)
  (he:s.heap.get? x=some ⟨.ref C,od,.fields vs,sl⟩) (h1:vs[1]? = some .none)
  (h:∀ h' T',Xh h' x T' C od (rawInt L)->Mv (frs (env::outer)) x x s.heap h'->s.heap.get? T'=none->Q () { s with heap:=h' }):wpAny M A (noteFrame (.ref x) env) Q E s:=by
 unfold noteFrame
 simp only [hf]
 refine wpAny_bind (wpAny_field he rfl h1 ?_)
 rw [if_neg (by decide)]
 exact JX hfr hl hf he (Array.getElem?_eq_some_iff.mp h1).1 h
theorem UW (hfr:A.frames=some (env::outer)) (hl:s.heap.FunFrames base (env::outer)) (hf:env.frame=some L) (hy:Xh s.heap x T C od .none)
  (h:∀ h' T',Xh h' x T' C od (rawInt L)->Mv (frs (env::outer)) x T s.heap h'->s.heap.get? T'=none->Q () { s with heap:=h' }):wpAny M A (noteFrame (.ref x) env) Q E s:=by
 obtain ⟨vs,ts,sl,oT,he,h1,hTe,hT,hdT,h3⟩:=hy
 have hsz3:=(Array.getElem?_eq_some_iff.mp h3).1
 unfold noteFrame
 simp only [hf]
 refine wpAny_bind (wpAny_field he rfl h1 ?_)
 rw [if_pos (show (Value.ref T != Value.none)=true from by simp)]
 refine wpAny_bind (wpAny_field hT hdT h3 ?_)
 rw [if_neg (show ¬ ((Value.none == rawInt L)=true) from by simp [rawInt])]
 refine wpAny_bind (wpAny_setField hT hdT hsz3 ?_)
 have other:∀ b,b ≠ T->(s.heap.update T (Obj.mapFields (·.setIfInBounds 3 Value.none))).get? b=s.heap.get? b:=fun b hb=>Heap.get?_update_other _ _ (Ne.symm hb)
 have hTn:=Heap.get?_update_self (Obj.mapFields (·.setIfInBounds 3 Value.none)) hT (Obj.isFreed_of_fields (Obj.data_mapFields hdT _))
 have noRecord:∀ b o,s.heap.get? b=some o->(∀ vs,o.data ≠ .fields vs)->b ≠ T:=fun b o hb hnf q=>by
  rw [q,hT] at hb; injection hb with hb; subst hb; exact hnf ts hdT
 refine JX (s:={ s with heap:=s.heap.update T (Obj.mapFields (·.setIfInBounds 3 Value.none)) }) hfr (hl.of_keeps fun b o hb hnf=>⟨o,(other b (noRecord b o hb hnf)).trans hb,rfl⟩) hf ((other x (Ne.symm hTe)).trans he) (Array.getElem?_eq_some_iff.mp h1).1 fun h' T' y m n=>?_
 have nT:T' ≠ T:=fun z=>by
  subst z
  have n':(s.heap.update T' (Obj.mapFields (·.setIfInBounds 3 Value.none))).get? T'=none:=n
  rw [hTn] at n'; cases n'
 exact h h' T' y ⟨fun b o hb hx ht hn=>m.keep b o ((other b ht).trans hb) hx hx hn,fun b o hb hx ht=>m.any b o ((other b ht).trans hb) hx hx⟩ ((other T' nT).symm.trans n)
theorem GC {fl:Value} (hy:Xh s.heap x T C od fl) (h:∀ h',Xh h' x T C od .none->Mv [] x T s.heap h'->Q () { s with heap:=h' }):wpAny M A (setFlight (.ref x) none) Q E s:=by
 obtain ⟨vs,ts,sl,oT,he,h1,hTe,hT,hdT,h3⟩:=hy
 have hsz3:3<ts.size:=(Array.getElem?_eq_some_iff.mp h3).1
 have other:∀ b,b ≠ T->(s.heap.update T (Obj.mapFields (·.setIfInBounds 3 ((none:Option Addr).elim Value.none fun f=>rawInt f)))).get? b=s.heap.get? b :=
  fun b hb=>Heap.get?_update_other _ _ (Ne.symm hb)
 unfold setFlight
 refine wpAny_bind (wpAny_field he rfl h1 ?_)
 rw [if_pos (show (Value.ref T != Value.none)=true from by simp)]
 refine wpAny_setField hT hdT hsz3 (h _ ?_ ⟨fun b o hb _ ht _=>(other b ht).trans hb,fun b o hb _ ht=>⟨o.slots,(other b ht).trans hb⟩⟩)
 exact ⟨vs,_,sl,_,(other x (Ne.symm hTe)).trans he,h1,hTe,Heap.get?_update_self _ hT (Obj.isFreed_of_fields (Obj.data_mapFields hdT _)),Obj.data_mapFields hdT _,by simp [hsz3]⟩
end
section
variable {P:Program} {w:World} {fs:List Addr} {H H':Hp} {h h1 h2 h3:Heap} {x T T':Addr}
theorem Nf {h:Heap} {b y:Addr} {o:Obj} (e:h.get? b=some o) (n:h.get? y=none):b ≠ y:=fun z=>by
 rw [z,n] at e
 cases e
theorem Ei.mv (k:Ei P w H h) (m:Mv fs x T h h1) (hx:H x=none) (hT:H T=none) (hf:∀ b∈fs,H b=none):Ei P w H h1:=fun b u e=>by
 have ne:∀ c,H c ≠ none->c ≠ x/\c ≠ T/\c ∉ fs:=fun c q=>⟨fun z=>q (z ▸ hx),fun z=>q (z ▸ hT),fun z=>q (hf c z)⟩
 refine (k b u e).stay (fun c v hc q=>?_) (fun _ q=>q) fun _ _ q=>q
 have hq:H c ≠ none:=by
  rcases hc with z | z
  ·rw [z,e]; simp
  ·rw [z]; simp
 obtain ⟨a1,a2,a3⟩:=ne c hq
 exact m.keep c v q a1 a2 a3
theorem Un.mv {gs:List Addr} (u:Un gs [] H H' h h1) (m:Mv fs x T h1 h2) (hx:h.get? x=none) (hT:h.get? T=none) (hf:∀ b∈fs,b ∉ gs->h.get? b=none):Un gs [] H H' h h2:=by
 have ne:∀ b o,h.get? b=some o->b ≠ x/\b ≠ T:=fun b o e=>⟨Nf e hx,Nf e hT⟩
 refine ⟨fun b o e n hb hx'=>?_,fun b o e n hb hx'=>?_,u.free,fun b o e hx'=>?_,u.tups,u.frzs,u.tbls⟩
 ·obtain ⟨a1,a2⟩:=ne b o e
  refine m.keep b o (u.keep b o e n hb hx') a1 a2 fun z=>?_
  have:=hf b z hb
  rw [e] at this; cases this
 ·obtain ⟨a1,a2⟩:=ne b o e
  obtain ⟨sl,e1⟩:=u.slot b o e n hb hx'
  obtain ⟨sl',e2⟩:=m.any b _ e1 a1 a2
  exact ⟨sl',e2⟩
 ·obtain ⟨a1,a2⟩:=ne b o e
  obtain ⟨o',e1⟩:=u.there b o e hx'
  obtain ⟨sl,e2⟩:=m.any b o' e1 a1 a2
  exact ⟨_,e2⟩
end
noncomputable def Vp (P:Program) (w:World):O5:=fun outer H s E e s'=>∃ (x T C:Addr) (od:Option Addr) (H':Hp),e=.ref x/\s'.os=s.os/\AllBare s'.gens/\Xh s'.heap x T C od .none/\s.heap.get? x=none/\s.heap.get? T=none /\
 H' x=none/\H' T=none/\Ei P w H' s'.heap/\Un (frs outer) [] H H' s.heap s'.heap/\E (.ref C) od H'
theorem ZQ {P:Program} {w:World} {X:Cx}:Fz (Vp P w) X E0:=fun _ _ _ _ _ _ _ ⟨_,_,_,_,_,_,_,_,_,_,_,_,_,_,_,h⟩=>h.elim
noncomputable def ZG (X:Cx) (C:Addr) (E:XK):Prop:=∀ (pins:List (Addr × Obj)) (σ:St) (H:Hp) (s:Shared) (h':Heap) (x:Addr) (as:List Value),Inv X pins σ H s->Heap.MadeExcOf s.heap h' x (.ref C) as->E (.ref C) none H->X.xe (.ref x) { s with heap:=h' }
theorem U4 {P:Program} {w:World} {K:PySem.W.Frag} {mg:Str->Option Value} {base:Heap} {N:List Str} {qual:Str} {scope:Scope} {f:Addr} {cd:Value} {A:Around} {outer:List Env} {s:Shared} {H:Hp} {E:XK} {C:Addr} :
  ZG (Lx (Vp P w) P w K mg base N qual scope f cd A outer s H E) C E:=by
 intro pins σ H1 s1 h' x as I hm q
 obtain ⟨t,he,htn,ht⟩:=hm.there
 have gone:∀ b,s1.heap.get? b=none->s.heap.get? b=none:=fun b e=>by
  cases z:s.heap.get? b with
  | none=>rfl
  | some o =>
   obtain ⟨o',e'⟩:=I.base.there b o z (by show b ∉ ([]:List Addr); simp)
   rw [e] at e'; cases e'
 have hx1:H1 x=none:=I.hok.none_of hm.new
 have frees:∀ b∈frs (envOfC qual scope s.heap.objs.size f cd::outer),H1 b=none:=I.HQ
 have hfr:(A.deeper (envOfC qual scope s.heap.objs.size f cd)).frames=some (envOfC qual scope s.heap.objs.size f cd::outer):=I.ok.frames
 have hff:s1.heap.FunFrames base (envOfC qual scope s.heap.objs.size f cd::outer):=I.stack
 have u0:Un (frs outer) [] H H1 s.heap s1.heap:=I.base
 have hok1:Ei P w H1 s1.heap:=I.hok
 have fsN:∀ b∈frs (envOfC qual scope s.heap.objs.size f cd::outer),b ∉ frs outer->s.heap.get? b=none:=fun b hb hn=>by
  rcases List.mem_cons.mp (show b∈s.heap.objs.size::frs outer from hb) with z | z
  ·rw [z]; exact Heap.get?_none_of_le (Nat.le_refl _)
  ·exact absurd z hn
 show wpAny (model P w) (A.deeper (envOfC qual scope s.heap.objs.size f cd)) (leaving (envOfC qual scope s.heap.objs.size f cd) (.ref x)) _ _ _
 unfold leaving
 refine wpAny_bind (Nh (s:={ s1 with heap:=h' }) (L:=s.heap.objs.size) hfr (hff.of_keeps fun b o hb _=>⟨o,hm.keeps b o hb,rfl⟩) rfl he rfl fun h2 T y m n=>?_)
 refine GC (s:={ s1 with heap:=h2 }) y fun h3 y3 m3=>?_
 have nT1:s1.heap.get? T=none:=by
  cases z:s1.heap.get? T with
  | none=>rfl
  | some o =>
   have n':h'.get? T=none:=n
   rw [hm.keeps T o z] at n'; cases n'
 have hT1:H1 T=none:=hok1.none_of nT1
 have hokA:Ei P w H1 h':=hok1.kept hm.keeps
 have hokB:Ei P w H1 h2:=hokA.mv m hx1 hx1 frees
 have hokC:Ei P w H1 h3:=hokB.mv m3 hx1 hT1 (fun _ z=>nomatch z)
 have uA:Un (frs outer) [] H H1 s.heap h':=u0.trans (Un.kept hm.keeps)
 have uB:Un (frs outer) [] H H1 s.heap h2:=uA.mv m (gone x hm.new) (gone x hm.new) fsN
 have uC:Un (frs outer) [] H H1 s.heap h3:=uB.mv m3 (gone x hm.new) (gone T nT1) (fun _ z=>nomatch z)
 exact ⟨x,T,C,none,H1,rfl,I.os,I.bare,y3,gone x hm.new,gone T nT1,hx1,hT1,hokC,uC,q⟩
section
variable {X:Cx} {C:Addr} {x:Str} {e:Expr} {es:List Expr} {t:TA} {np cpos pos:Pos} {E:XK}
noncomputable def Wx (C:Addr) (E:XK) (t:TA):TS:=fun _ σ H=>t σ H fun vs H1=>vs.length<=1000/\E (.ref C) none H1
theorem Rt (q:PySem.W.excIn X.K C Tn "ValueError.__new__" = true) (hg:Gl X x) (hm:X.mg x=some (.ref C)) (hc:X.calm=true) (hl:ZG X C E) (ha:PA X (e::es) t)
  (hdb:(x == ("__debug__" : Str))=false:=by decide) (he:starEach (e::es) X.env=(false,eval e X.env)::starEach es X.env:=by rfl) (hpl:(backTo cpos (starEach es X.env)).any (·.1)=false:=by rfl) :
  PS X (.Raise (some (.Call (.Name x np) (e::es) [] cpos)) none pos) (Wx C E t):=by
 intro pins s σ H D I h
 obtain ⟨bm,N,nm,qn,bs,hdct,sn,sub,ab,col,dd,k0,k1,k2,k3,k5,mN,hC,hN,hni,TL⟩:=Np I.ok.mod.kin q
 have hplain:(backTo cpos (starEach (e::es) X.env)).any (·.1)=false:=by
  rw [he]
  show (false || (backTo cpos (starEach es X.env)).any (·.1))=false
  rw [hpl]; rfl
 refine wpAny_Raise_call_subU (nm:=nm) (q:=qn) (C:=C) (N:=N) (bs:=bs) (bm:=bm) (hdct:=hdct) (sn:=sn) (sub:=sub) (ab:=ab) (col:=col) (dd:=dd) (k0:=k0) (k1:=k1) (k2:=k2) (k3:=k3) (k5:=k5) (mN:=mN)
  PySem.F.excBase_ValueError (by decide) PySem.F.excBase_ValueError (TL.hasType (by decide)) (I.ok.hd hc) hplain hni (Gs I hg hm ⟨rfl,?_⟩ hdb)
 have:=ha cpos pins s σ H _ I h
 rw [he] at this ⊢
 refine Calls.evalArgs_plain (CJ this fun us s1 ⟨vs,H1,I1,r,hz,q1⟩=>⟨rfl,?_,I1.bk _ _ hC,hN.keeps I1.bk,TL.keeps I1.bk,fun h' x hm'=>?_⟩)
 ·show us.length<=sizeLine
  rw [← r.length]
  exact Nat.le_of_lt (Ay hz)
 ·exact hl pins σ H1 s1 h' x _ I1 hm' q1
end
theorem Mf {prog:Program} {w:World} {A:Around} {E:Value->Shared->Prop} {s:Shared} {K:PySem.W.Frag} {x C O:Addr} {od:Option Addr} {d:Data} {sl:Array (Option Value)} {b:Bool} {Q:Bool->Shared->Prop}
  (X:K.In s.heap) (he:s.heap.get? x=some ⟨.ref C,od,d,sl⟩) (q:PySem.W.excIn K O Tn "ValueError.__new__" = true) (hm:PySem.W.mroIn K C (.ref O)=some b) (h:Q b s):wpAny (model prog w) A (excMatches (.ref x) (.ref O)) Q E s:=by
 obtain ⟨bm,N,nm,qn,bs,hdct,sn,sub,ab,col,dd,k0,k1,k2,k3,k5,mN,hC,hN,hni,TL⟩:=Np X q
 have hbase:bm.contains (.type "BaseException")=true:=TL.hasType (by decide)
 have hcB:(Value.ref O::bm).contains (.type "BaseException")=true:=by rw [List.contains_cons,hbase,Bool.or_true]
 have L:=PySem.W.looks_mroIn (M:=model prog w) X hm
 have f:=tc_notTuple
 obtain ⟨hp,g,dr,tk,os⟩:=s
 unfold excMatches
 repeat (first | with_reducible refine wpAny_loadPart_at he ?_ | with_reducible refine wpAny_loadPart_at hC ?_ | (with_reducible refine wpAny_isSubtype_exc hC ?_; rw [hcB]) | with_reducible refine L.at ?_ | wp_step)
 cases b <;> (wp_walk; exact h)
theorem Un.adopt {gs:List Addr} {H1 H2:Hp} {h h':Heap} {x:Addr} {o:HO} (u:Un gs [] H1 H2 h h') (hx:h.get? x=none) (hn:H2 x=none):Un gs [] H1 (upd H2 x o) h h' :=
 ⟨u.keep,u.slot,fun b ob e n hb=>by rw [Ax (Nf e hx)]; exact u.free b ob e n hb,u.there,fun b xs e=>by rw [Ax (Aw (u.tups b xs e) hn)]; exact u.tups b xs e,
  fun b ob v e=>by rw [Ax (Aw (u.frzs b ob v e) hn)]; exact u.frzs b ob v e,fun b ps e=>by
   obtain ⟨more,e1⟩:=u.tbls b ps e
   exact ⟨more,by rw [Ax (Aw e1 hn)]; exact e1⟩⟩
noncomputable abbrev Cx.inX (X:Cx) (x:Addr):Cx:={ X with A:=X.A.mark (some (.ref x)),calm:=false }
section
variable {X:Cx} {pins:List (Addr × Obj)} {σ:St} {H:Hp} {s:Shared}
theorem Inv.inX (I:Inv X pins σ H s) (x:Addr):Inv (X.inX x) pins σ H s :=
 ⟨⟨I.ok.mod,I.ok.kind,I.ok.glob,I.ok.blt,I.ok.above,I.ok.inj,I.ok.has,I.ok.cab,(fun z=>nomatch z),I.ok.frames,I.ok.stk,I.ok.exf,I.ok.bs,I.ok.bsz,I.ok.noex,I.ok.exfs,I.ok.IV,I.ok.frf⟩,
  I.os,I.bare,I.base,I.loc,I.cell,I.free,I.freeC,I.pin,I.hok,I.len⟩
theorem Inv.Uw {x:Addr} (ok:X.Ok) (I:Inv (X.inX x) pins σ H s):Inv X pins σ H s:=⟨ok,I.os,I.bare,I.base,I.loc,I.cell,I.free,I.freeC,I.pin,I.hok,I.len⟩
theorem name_goes {M:Model} {A:Around} {E:Value->Shared->Prop} {i:Nat} {n:Str} {pos:Pos} {Q:Unit->Shared->Prop} (I:Inv X pins σ H s) (hN:X.N.Nodup) (hi:X.N[i]? = some n) (hk:X.env.kindOf n=some .local)
  (h:∀ s',Inv X pins (σ.set i none) H s'->Q () s'):wpAny M A (do bindName X.env n .none; unbindBehindTheSuite X.env n pos) Q E s:=by
 obtain ⟨m,hn,hl⟩:=id I.loc
 have hcls:(X.env.scope.kind == .class || (X.env.scope.kind == .module && X.env.locals != X.env.globals))=false:=by rw [I.ok.kind]; rfl
 have hiσ:i<σ.length:=by rw [I.len]; exact (List.getElem?_eq_some_iff.mp hi).1
 refine wpAny_nameGoes_keeps hk hn hcls fun h' v hn' hs=>h _ ?_
 obtain ⟨oL,_,_,hoL,_⟩:=id hn
 have nL:∀ b o,X.s₀.heap.get? b=some o->b ≠ X.env.locals:=fun b o e=>Nat.ne_of_lt (Nat.lt_of_lt_of_le (Heap.lt_size e) I.ok.above)
 have tracked:Ei X.prog X.w H h':=fun b ob e=>by
  refine (I.hok b ob e).stay (fun c w' hc q=>(hs.2 c ?_).trans q) (fun _ q=>q) fun _ _ q=>q
  rintro rfl
  have hfree:=I.free
  rcases hc with rfl | hc
  ·rw [hfree] at e; cases e
  ·rw [hfree] at hc; cases hc
 refine ⟨I.ok,I.os,I.bare,⟨fun b o e n hb hx=>?_,fun b o e n hb hx=>?_,I.base.free,fun b o e hx=>?_,I.base.tups,I.base.frzs,I.base.tbls⟩,⟨_,hn',fun j y v' e1 e2 e3=>?_⟩,fun y c e=>?_,I.free,I.freeC,fun p hp=>?_,tracked,by simpa using I.len⟩
 ·exact (hs.2 b (nL b o e)).trans (I.base.keep b o e n hb hx)
 ·obtain ⟨sl,e1⟩:=I.base.slot b o e n hb hx
  exact ⟨sl,(hs.2 b (nL b o e)).trans e1⟩
 ·obtain ⟨o',e1⟩:=I.base.there b o e hx
  exact ⟨o',(hs.2 b (nL b o e)).trans e1⟩
 ·by_cases hj:j=i
  ·subst hj
   rw [List.getElem?_set_self hiσ] at e2
   cases e2
  ·rw [List.getElem?_set_ne (Ne.symm hj)] at e2
   obtain ⟨u',r',q⟩:=hl j y v' e1 e2 e3
   refine ⟨u',r',?_⟩
   rcases q with ⟨k,e⟩ | ⟨k,c,e,z⟩
   ·refine .inl ⟨k,?_⟩
    have:y ≠ n:=fun e=>hj (JW hN e1 (e ▸ hi))
    simp [this,e]
   ·exact .inr ⟨k,c,e,z.sameBut hs (I.U8 y c e)⟩
 ·obtain ⟨w',z⟩:=I.cell y c e
  exact ⟨w',z.sameBut hs (I.U8 y c e)⟩
 ·obtain ⟨e,n,ne,nf,d⟩:=I.pin p hp
  exact ⟨(hs.2 p.1 ne).trans e,n,ne,nf,d⟩
end
noncomputable def Ends.drop (D:Ends) (i:Nat):Ends:={ nx:=fun σ H=>D.nx (σ.set i none) H,rt:=D.rt,bk:=fun σ H=>D.bk (σ.set i none) H,ct:=fun σ H=>D.ct (σ.set i none) H }
noncomputable def fj (K:PySem.W.Frag) (sp:Sp) (dvs:List V) (t:TA) (O:Addr) (i:Nat) (ts:TS):TS:=fun D σ H=>t σ H fun vs H1=>∃ E:XK,sp (vs++dvs) H1 (fun _ H2=>D.nx σ H2) E /\
 ∀ C od H2,E (.ref C) od H2->PySem.W.mroIn K C (.ref O)=some true/\∀ x,H2 x=none->ts (D.drop i) (σ.set i (some (.ref x))) (upd H2 x (Ir x C od))
section
variable {X:Cx} {k i:Nat} {f O:Addr} {fd:FuncData} {ps:List Str} {sp:Sp} {dvs:List V} {ds:List Value} {fx cn n:Str} {p np cpos epos hpos pos:Pos} {e:Expr} {es:List Expr} {t:TA} {b0:Stmt} {suite:List Stmt} {ts:TS}
theorem W9 (F:Ao X.prog X.w X.K X.mg X.base (Vp X.prog X.w) k f fd ps sp) (hr:A_ k X.A) (hg:Gl X fx) (hm:X.mg fx=some (.ref f)) (hk:PySem.W.keepIn X.K (.ref f)=true) (hb:Binds X.K fd ps ds) (hd:Vals dvs ds)
  (ha:PA X (e::es) t) (hgO:Gl X cn) (hmO:X.mg cn=some (.ref O)) (qO:PySem.W.excIn X.K O Tn "ValueError.__new__" = true) (hN:X.N.Nodup) (hi:X.N[i]? = some n) (hlo:X.env.scope.names.lookup n=some .local)
  (hs:∀ x,Mu (X.inX x) (b0::suite) ts) (hxe:X.xe=fun _ _=>False:=by rfl) (hst:X.stack=X.env::X.outer:=by rfl) (hfrm:X.env.frame=some X.env.locals:=by rfl)
  (hdb:(fx == ("__debug__" : Str))=false:=by decide) (hdO:(cn == ("__debug__" : Str))=false:=by decide) (he:starEach (e::es) X.env=(false,eval e X.env)::starEach es X.env:=by rfl) (hpl:(backTo cpos (starEach es X.env)).any (·.1)=false:=by rfl)
  (hsw:swapsWith (.Call (.Name fx p) (e::es) [] cpos) none epos.line X.env=pure false:=by rfl) :
  PS X (.Try [.Expr (.Call (.Name fx p) (e::es) [] cpos) epos] [.ExceptHandler (some (.Name cn np)) (some n) (b0::suite) hpos] [] [] pos) (fj X.K sp dvs t O i ts):=by
 intro pins s σ H D I h
 refine wpAny_Try_except (wpAny_execs_cons (wpAny_Expr_any (wpAny_Call_Name_kw (Gs I hg hm ?_ hdb)) I.quiet hsw))
 refine PySem.W.callWith_K (h₀:=X.base) I.ok.mod.kin hk (wpAny_mono (ha cpos pins s σ H _ I h) (fun us s1 ⟨vs,H1,I1,r,E,hsp,hE⟩=>⟨I1.Gx,?_⟩) fun e' s' h'=>?_) he hpl
 case refine_2 =>
  rw [hxe] at h'
  exact h'.elim
 have r2:Vals (vs++dvs) (us++ds):=r.append hd
 have hl:(us++ds).length=ps.length:=by rw [← r2.length]; exact F.len _ _ _ _ hsp
 refine wpAny_call (codeAny_mono (F.run X.A X.stack s1 H1 ⟨us,[]⟩ (us++ds) (vs++dvs) _ E hr I1.env0 (hb s1 us I1.Gx hl) r2 hsp) fun r s' hq=>?_)
 cases r with
 | ok fl =>
  cases fl with
  | ret u =>
   obtain ⟨v,H',J,rv,q⟩:=I1.after hq
   exact wpAny_execs_nil (wpAny_execs_nil ⟨σ,H',J,q⟩)
  | next=>exact False.elim hq
  | brk=>exact False.elim hq
  | cont=>exact False.elim hq
 | error e' =>
  obtain ⟨x,T,C,od,H2,rfl,os,bare,y,nx,nT,hx2,hT2,hok2,un2,q⟩:=hq
  obtain ⟨hmro,hts⟩:=hE C od H2 q
  obtain ⟨h1,g,dr,tk,os'⟩:=s'
  obtain rfl:os'=s1.os:=os
  have I2:Inv X pins σ H2 ⟨h1,g,dr,tk,s1.os⟩:=I1.call (h':=h1) (g':=g) (d':=dr) (t':=tk) (ch:=[]) un2 hok2 bare (fun b z=>absurd z (by simp))
  have hfr:=I.ok.frames
  have hff:=I2.stack
  rw [hst] at hfr hff
  refine UW (s:=⟨h1,g,dr,tk,s1.os⟩) hfr hff hfrm y fun h3 T3 y3 m3 n3=>?_
  refine GC (s:=⟨h3,g,dr,tk,s1.os⟩) y3 fun h4 y4 m4=>?_
  have nT3:s1.heap.get? T3=none:=by
   cases z:s1.heap.get? T3 with
   | none=>rfl
   | some o =>
    obtain ⟨o',e'⟩:=un2.there T3 o z (by simp)
    have n3':h1.get? T3=none:=n3
    rw [n3'] at e'; cases e'
  have hT3:H2 T3=none:=hok2.none_of n3
  have m3':Mv (frs X.stack) x T h1 h3:=by rw [hst]; exact m3
  have u3:=un2.mv m3' nx nT (fun b z z'=>absurd z z')
  have u4:=u3.mv m4 nx nT3 (fun _ z=>nomatch z)
  have k3:Ei X.prog X.w H2 h3:=hok2.mv m3' hx2 hT2 I2.HQ
  have k4:Ei X.prog X.w H2 h4:=k3.mv m4 hx2 hT3 (fun _ z=>nomatch z)
  have I4:Inv X pins σ H2 ⟨h4,g,dr,tk,s1.os⟩:=I1.call (h':=h4) (g':=g) (d':=dr) (t':=tk) (ch:=[]) u4 k4 bare (fun b z=>absurd z (by simp))
  refine wpAny_handleBy_cons (codeAny_handlers_test (Gs (I4.inX x) hgO hmO ?_ hdO)) (by intro q; cases q)
  obtain ⟨ws,wt,sl,oT,ex,_⟩:=id y4
  refine Mf (s:=⟨h4,g,dr,tk,s1.os⟩) I4.Gx ex qO hmro ?_
  refine codeAny_handlers_suite_as (GC (s:=⟨h4,g,dr,tk,s1.os⟩) y4 fun h5 y5 m5=>?_)
  have u5:=(u4.mv m5 nx nT3 (fun _ z=>nomatch z)).adopt (o:=Ir x C od) nx hx2
  obtain ⟨ws5,wt5,sl5,oT5,ex5,_⟩:=id y5
  have k5:Ei X.prog X.w (upd H2 x (Ir x C od)) h5:=(k4.mv m5 hx2 hT3 (fun _ z=>nomatch z)).aW (fun _ _ e=>e) hx2 (VN ex5 rfl)
  have I5:Inv X pins σ (upd H2 x (Ir x C od)) ⟨h5,g,dr,tk,s1.os⟩:=I1.call (h':=h5) (g':=g) (d':=dr) (t':=tk) (ch:=[]) u5 k5 bare (fun b z=>absurd z (by simp))
  refine Gg (s:=⟨h5,g,dr,tk,s1.os⟩) I5 hN hi (.inl hlo) (show RelV (.ref x) (.ref x) from rfl) (fun s6 I6 _=>?_) (.inr hlo)
  refine wpAny_mono (hs x pins s6 _ _ _ (I6.inX x) (hts x hx2)) (fun fl s7 h7=>?_) fun e' s7 h7=>?_
  ·cases fl with
   | next=>obtain ⟨σ',H',J,qq⟩:=h7; exact name_goes (J.Uw I.ok) hN hi hlo fun s8 J8=>⟨_,_,J8,qq⟩
   | brk=>obtain ⟨σ',H',J,qq⟩:=h7; exact name_goes (J.Uw I.ok) hN hi hlo fun s8 J8=>⟨_,_,J8,qq⟩
   | cont=>obtain ⟨σ',H',J,qq⟩:=h7; exact name_goes (J.Uw I.ok) hN hi hlo fun s8 J8=>⟨_,_,J8,qq⟩
   | ret u=>obtain ⟨v,σ',H',J,rv,qq⟩:=h7; exact name_goes (J.Uw I.ok) hN hi hlo fun s8 J8=>⟨_,_,_,J8,rv,qq⟩
  ·have h7':X.xe e' s7:=h7
   rw [hxe] at h7'
   exact h7'.elim
end
structure Zd (k:Nat) (A:Around):Prop where
 dp:A.depth+3 * k+5<recursionLimit
 un:A.units+16 * k+200<cLine
structure ji (P:Program) (w:World) (K:PySem.W.Frag) (mg:Str->Option Value) (base:Heap) (CX:O5) (k:Nat) (f:Addr) (fd:FuncData) (ps:List Str) (sp:Sp):Prop where
 len:∀ vs H Q E,sp vs H Q E->vs.length=ps.length
 run:∀ (A:Around) (outer:List Env) (s:Shared) (H:Hp) (args:Args) (us:List Value) (vs:List V) (Q:VK) (E:XK),Zd k A->La P w K mg base A outer s H->BindsTo s fd args (ps.zip us)->Vals vs us->sp vs H Q E ->
  codeAny (model P w) A (.call (.ref f) args) (CR CX outer P w H s Q E) s
section
variable {P:Program} {w:World} {K:PySem.W.Frag} {mg:Str->Option Value} {base:Heap}
theorem Cg.j_ {x qual:Str} {st:Stmt} {f:Addr} {fd:FuncData} {N ps:List Str} {k:Nat} {sp:Sp} (F:Cg K x qual st f fd) (S:Ar N ps (Ac st)) (len:∀ vs H Q E,sp vs H Q E->vs.length=ps.length)
  (hbody:∀ (cdv:Value) (A:Around) (outer:List Env) (s:Shared) (H:Hp) (vs:List V) (Q:VK) (E:XK),A_ k (A.deeper (envOfC qual (Ac st) s.heap.objs.size f cdv))->sp vs H Q E ->
   ∃ t,Mu (Lx (Vp P w) P w K mg base N qual (Ac st) f cdv A outer s H E) (DP st) t/\t { nx:=fun _ H'=>Q .non H',rt:=Q } (start N vs) H):Ao P w K mg base (Vp P w) (k+1) f fd ps sp:=by
 obtain ⟨oc,od,kV,doc,pm,an,cdv,ct,osl,rfl,lk,hcd⟩:=F.ex
 refine Vf lk hcd S len fun A outer s H vs Q E hr hsp=>?_
 obtain ⟨t,h,q⟩:=hbody cdv A outer s H vs Q E hr hsp
 exact ⟨t,h,q⟩
end
section
variable {X:Cx} {CX:O5} {k:Nat} {f:Addr} {fd:FuncData} {ps:List Str} {sp:Sp} {dvs:List V} {ds:List Value} {E:XK} {x:Str} {p pos:Pos} {e:Expr} {es:List Expr} {t:TA}
end
end L2
namespace L2
open PySem PySem.Spec PySem.Calls PyProof.Rows
end L2
namespace L2
open PySem PySem.Spec PySem.Calls PyProof.Rows
section
variable {X:Cx} {o i value:Expr} {td ty tv:TE} {pos pos':Pos}
end
section
variable {X:Cx} {k i:Nat} {f O:Addr} {fd:FuncData} {ps:List Str} {sp:Sp} {dvs:List V} {ds:List Value} {fx cn n:Str} {p np cpos epos hpos pos:Pos} {e:Expr} {es:List Expr} {t:TA} {b0:Stmt} {suite:List Stmt} {ts:TS}
end
end L2
namespace L2
open PySem PySem.Spec PySem.Calls PyProof.Rows
noncomputable abbrev XR:=Value->Option Addr->St->Hp->Prop
section
variable {X:Cx} {ER:XR} {st:Stmt} {sts:List Stmt} {t u:TS} {pos:Pos}
end
section
variable {X:Cx} {ER:XR} {k:Nat} {f C:Addr} {fd:FuncData} {ps:List Str} {sp:Sp} {dvs:List V} {ds:List Value} {x m:Str} {p pos apos:Pos} {e o:Expr} {es:List Expr} {ta:TE} {t:TA}
end
section
variable {X:Cx} {i:Nat} {O:Addr} {cn n:Str} {np hpos pos:Pos} {body:List Stmt} {b0:Stmt} {suite:List Stmt} {ts:TS} {tb:XR->TS}
end
theorem Di {X:Cx} {K:PySem.W.Frag} (hK:X.K=K):FN X (.builtin "isinstance") (fun xs H Q=>∃ x C fs c cv b,xs=[V.ref x,c]/\LQ H x C fs/\Ka K C/\Xc c=some cv/\PySem.W.kitOne K (.ref C) cv=some b/\Q (.bl b) H):=by
 rw [← hK]
 exact M_
end L2
namespace Og
open PySem L2 PyProof.Rows
end Og
namespace Og
open PySem L2 PyProof.Rows
variable {K:PySem.W.Frag}
structure Pj (K:PySem.W.Frag) (aB aP aM:Addr):Prop where
 f:KF K aB aP aM
 pR:∃ a,PySem.W.nsIn K aP "rank" = some (some (.ref a))/\KTup K a (["new","pipes","wind"].map fun s:String=>V.str s)
 pL:∃ a,PySem.W.nsIn K aP "line" = some (some (.ref a))/\KTup K a (["rank","shift","low","high"].map fun s:String=>V.str s)
 bP:∃ a,PySem.W.nsIn K aB "pipes" = some (some (.ref a))/\KTup K a [.int 1,.int 97]
 bW:∃ a,PySem.W.nsIn K aB "wind" = some (some (.ref a))/\KTup K a [.int 0,.int 1000000000]
 bS:∃ a,PySem.W.nsIn K aB "shift" = some (some (.ref a))/\KTup K a [.int (-200),.int 200]
 bLo:∃ a,PySem.W.nsIn K aB "low" = some (some (.ref a))/\KTup K a [.int 0,.int 60]
 bHi:∃ a,PySem.W.nsIn K aB "high" = some (some (.ref a))/\KTup K a [.int 0,.int 60]
 bR:PySem.W.nsIn K aB "rank" = some none
 mR:∃ t,PySem.W.nsIn K aM "rank" = some (some (.int 12 t))
 mL:PySem.W.nsIn K aM "line" = some none
section
variable {aB aP aM:Addr} {ρ:V->R} {vs:List V} {wn:List (Str × Str)} {t:Str}
theorem O3 {r:R} (h:J3 K aB aP aM ρ vs r) (hb:Ek ρ vs):Fi K aB aP aM ρ vs r:=⟨h.ns,h.parts,.inr h.room,fun z=>absurd z h.nl,hb⟩
theorem Pq (F:KF K aB aP aM) {wd:Str} (hw:wd = "stop" \/ wd = "mute") (e:Fx ρ vs=wn) (ht:isNm t) (h:∀ w∈named,Om wn w t=false) (hc:SJ wn wd<Gv wd) {a:Str} (ha:isNm a) (ha':Om wn "board" a=true):J3 K aB aP aM ρ vs ⟨wd,t,[.str a]⟩:=by
 have parts:∀ (j:Nat) x (y:Str),[V.str t,.str a][j]? = some x->(["new","board"]:List Str)[j]? = some y->G5 K aB ρ vs x y:=fun j x y hx hy=>by
  match j,hx,hy with
  | 0,hx,hy =>
   cases (Option.some.inj hx)
   cases (Option.some.inj hy)
   exact HN F e ht h
  | 1,hx,hy =>
   cases (Option.some.inj hx)
   cases (Option.some.inj hy)
   exact G9 F e ha ha'
  | j+2,hx,hy=>simp at hy
 have hcnt:=HB ρ vs wd
 rw [e] at hcnt
 rcases hw with rfl | rfl
 ·obtain ⟨ap,g1,g2⟩:=F.pS
  obtain ⟨tk,g5⟩:=F.mS
  have hm:Gv "stop" = 24:=by decide +kernel
  refine ⟨by show ¬ ("stop" : Str) = "step"; decide +kernel,by show ¬ ("stop" : Str) = "line"; decide +kernel,⟨ap,["new","board"],g1,g2,rfl,by decide,parts⟩,⟨24,tk,g5,?_⟩⟩
  show (((vs.filter (pw ρ "stop")).length:Nat):Int)<24
  omega
 ·obtain ⟨ap,g1,g2⟩:=F.pM
  obtain ⟨tk,g5⟩:=F.mM
  have hm:Gv "mute" = 5:=by decide +kernel
  refine ⟨by show ¬ ("mute" : Str) = "step"; decide +kernel,by show ¬ ("mute" : Str) = "line"; decide +kernel,⟨ap,["new","board"],g1,g2,rfl,by decide,parts⟩,⟨5,tk,g5,?_⟩⟩
  show (((vs.filter (pw ρ "mute")).length:Nat):Int)<5
  omega
theorem QJ (F:Pj K aB aP aM) (e:Fx ρ vs=wn) (ht:isNm t) (h:∀ w∈named,Om wn w t=false) (hc:SJ wn "rank" < 12) {n:Nat} {wi:Int} (h1:1<=n) (h2:n<=97) (h3:0<=wi) (h4:wi<=1000000000) (hb:Ek ρ vs):Fi K aB aP aM ρ vs (Fy (t,n,wi)):=by
 obtain ⟨ap,g1,g2⟩:=F.pR
 obtain ⟨ab,g3,g4⟩:=F.bP
 obtain ⟨aw,g6,g7⟩:=F.bW
 obtain ⟨tk,g5⟩:=F.mR
 refine ⟨by show ¬ ("rank" : Str) = "step"; decide +kernel,⟨ap,["new","pipes","wind"],g1,g2,rfl,by decide,fun j x y hx hy=>?_⟩,.inr ⟨12,tk,g5,?_⟩,fun z=>absurd z (by show ¬ ("rank" : Str) = "line"; decide +kernel),hb⟩
 ·match j,hx,hy with
  | 0,hx,hy =>
   cases (Option.some.inj hx)
   cases (Option.some.inj hy)
   exact HN F.f e ht h
  | 1,hx,hy =>
   cases (Option.some.inj hx)
   cases (Option.some.inj hy)
   exact .inl ⟨((n:Nat):Int),1,97,ab,rfl,g3,g4,by omega,by omega⟩
  | 2,hx,hy =>
   cases (Option.some.inj hx)
   cases (Option.some.inj hy)
   exact .inl ⟨_,0,1000000000,aw,rfl,g6,g7,h3,h4⟩
  | j+3,hx,hy=>simp at hy
 ·rw [HB,e]
  show ((SJ wn "rank" : Nat):Int)<12
  omega
theorem Qi (F:Pj K aB aP aM) (e:Fx ρ vs=wn) (ht:isNm t) (h:Om wn "rank" t=true) {sh lo hi:Int} (b1 : -200<=sh) (b2:sh<=200) (b3:0<=lo) (b4:lo<=60) (b5:0<=hi) (b6:hi<=60) (hb:Ek ρ vs) (hl:M4 ρ vs ⟨"line",t,[.int sh,.int lo,.int hi]⟩):Fi K aB aP aM ρ vs ⟨"line",t,[.int sh,.int lo,.int hi]⟩:=by
 obtain ⟨ap,g1,g2⟩:=F.pL
 obtain ⟨a1,g3,g4⟩:=F.bS
 obtain ⟨a2,g5,g6⟩:=F.bLo
 obtain ⟨a3,g7,g8⟩:=F.bHi
 refine ⟨by show ¬ ("line" : Str) = "step"; decide +kernel,⟨ap,["rank","shift","low","high"],g1,g2,rfl,by decide,fun j x y hx hy=>?_⟩,.inl ⟨rfl,F.mL⟩,fun _=>hl,hb⟩
 match j,hx,hy with
 | 0,hx,hy =>
  cases (Option.some.inj hx)
  cases (Option.some.inj hy)
  exact .inr (.inr ⟨F.bR,by decide +kernel,_,rfl,ht,by rw [Ig,e]; exact h⟩)
 | 1,hx,hy =>
  cases (Option.some.inj hx)
  cases (Option.some.inj hy)
  exact .inl ⟨_,-200,200,a1,rfl,g3,g4,b1,b2⟩
 | 2,hx,hy =>
  cases (Option.some.inj hx)
  cases (Option.some.inj hy)
  exact .inl ⟨_,0,60,a2,rfl,g5,g6,b3,b4⟩
 | 3,hx,hy =>
  cases (Option.some.inj hx)
  cases (Option.some.inj hy)
  exact .inl ⟨_,0,60,a3,rfl,g7,g8,b5,b6⟩
 | j+4,hx,hy=>simp at hy
end
structure HD (K:PySem.W.Frag) (aB aP aM:Addr) (ρ:V->R) (us:List V) (bs:List (Str × Nat)) (rk:List (Str × Nat × Int)) (ks:List R):Prop where
 kinds:∀ v∈us,(ρ v).w = "board" \/ (ρ v).w = "rank" \/ (ρ v).w = "line" \/ (ρ v).w = "stop" \/ (ρ v).w = "coupler" \/ (ρ v).w = "mute"
 eb:(us.filter (pw ρ "board")).map ρ=bs.map Ep
 er:(us.filter (pw ρ "rank")).map ρ=rk.map Fy
 ek:(us.filter (fun v=>Gy (ρ v).w)).map ρ=ks
 ln:∀ (i:Nat) v,us[i]? = some v->(ρ v).w = "line"->(∃ (j:Nat) (r:Str × Nat × Int) (sh lo hi:Int),rk[j]? = some r/\r.1=(ρ v).nm/\(ρ v).rest=[.int sh,.int lo,.int hi])/\∃ u∈us.take i,Gy (ρ u).w=true
 ok:∀ (i:Nat) v,us[i]? = some v->Fi K aB aP aM ρ (us.take i) (ρ v)
section
variable {aB aP aM:Addr} {ρ:V->R} {us:List V} {v:V} {bs bs':List (Str × Nat)} {rk rk':List (Str × Nat × Int)} {ks ks':List R}
theorem Ku {w t:Str}:Ux ρ us w t=true ↔ ∃ v∈us,(ρ v).w=w/\(ρ v).nm=t:=by
 unfold Ux
 rw [List.any_eq_true]
 constructor
 ·rintro ⟨v,hv,hn⟩
  obtain ⟨h1,h2⟩:=List.mem_filter.mp hv
  exact ⟨v,h1,V.str.inj (of_decide_eq_true h2),V.str.inj (of_decide_eq_true hn)⟩
 ·rintro ⟨v,hv,h1,h2⟩
  exact ⟨v,List.mem_filter.mpr ⟨hv,decide_eq_true (congrArg V.str h1)⟩,decide_eq_true (congrArg V.str h2)⟩
theorem HD.nil:HD K aB aP aM ρ [] [] [] []:=⟨(fun _ h=>nomatch h),rfl,rfl,rfl,(fun i v h=>by simp at h),(fun i v h=>by simp at h)⟩
theorem HD.Vv (h:HD K aB aP aM ρ us bs rk ks) (hv:v∈us) (hw:(ρ v).w = "board"):∃ b∈bs,Ep b=ρ v:=by
 have:ρ v∈(us.filter (pw ρ "board")).map ρ:=List.mem_map_of_mem (List.mem_filter.mpr ⟨hv,decide_eq_true (congrArg V.str hw)⟩)
 rw [h.eb] at this
 exact List.mem_map.mp this
theorem HD.Y0 (h:HD K aB aP aM ρ us bs rk ks) (hv:v∈us) (hw:(ρ v).w = "rank"):∃ b∈rk,Fy b=ρ v:=by
 have:ρ v∈(us.filter (pw ρ "rank")).map ρ:=List.mem_map_of_mem (List.mem_filter.mpr ⟨hv,decide_eq_true (congrArg V.str hw)⟩)
 rw [h.er] at this
 exact List.mem_map.mp this
theorem HD.RB (h:HD K aB aP aM ρ us bs rk ks) (hv:v∈us) (hw:Gy (ρ v).w=true):ρ v∈ks:=by
 have:ρ v∈(us.filter (fun v=>Gy (ρ v).w)).map ρ:=List.mem_map_of_mem (List.mem_filter.mpr ⟨hv,hw⟩)
 rw [h.ek] at this
 exact this
theorem HD.Xv (h:HD K aB aP aM ρ us bs rk ks):Ek ρ us:=fun v hv hw=>by
 obtain ⟨b,_,e⟩:=h.Vv hv hw
 exact ⟨_,by rw [← e]⟩
theorem HD.Vb (h:HD K aB aP aM ρ us bs rk ks) {b:Str × Nat} (hb:b∈bs):∃ v∈us,ρ v=Ep b:=by
 have:Ep b∈(us.filter (pw ρ "board")).map ρ:=by rw [h.eb]; exact List.mem_map_of_mem hb
 obtain ⟨v,hv,e⟩:=List.mem_map.mp this
 exact ⟨v,(List.mem_filter.mp hv).1,e⟩
theorem HD.Z4 (h:HD K aB aP aM ρ us bs rk ks) {r:Str × Nat × Int} (hr:r∈rk):∃ v∈us,ρ v=Fy r:=by
 have:Fy r∈(us.filter (pw ρ "rank")).map ρ:=by rw [h.er]; exact List.mem_map_of_mem hr
 obtain ⟨v,hv,e⟩:=List.mem_map.mp this
 exact ⟨v,(List.mem_filter.mp hv).1,e⟩
theorem HD.Mx (h:HD K aB aP aM ρ us bs rk ks) {b:Str × Nat} (hb:b∈bs):Om (Fx ρ us) "board" b.1=true:=by
 obtain ⟨v,hv,e⟩:=h.Vb hb
 rw [← Ig,Ku]
 exact ⟨v,hv,by rw [e],by rw [e]⟩
theorem HD.W5 (h:HD K aB aP aM ρ us bs rk ks) {r:Str × Nat × Int} (hr:r∈rk):Om (Fx ρ us) "rank" r.1=true:=by
 obtain ⟨v,hv,e⟩:=h.Z4 hr
 rw [← Ig,Ku]
 exact ⟨v,hv,by rw [e],by rw [e]⟩
theorem Jl {w:Str} (h:w = "stop" \/ w = "coupler" \/ w = "mute"):Gy w=true:=by rcases h with rfl | rfl | rfl <;> decide +kernel
theorem HD.fresh (h:HD K aB aP aM ρ us bs rk ks) {t:Str} (hb:∀ b∈bs,b.1 ≠ t) (hr:∀ r∈rk,r.1 ≠ t) (hk:∀ k∈ks,k.nm ≠ t):∀ w∈named,Om (Fx ρ us) w t=false:=by
 intro w hw
 rw [← Ig,← Bool.not_eq_true,Ku]
 rintro ⟨v,hv,hw',hn⟩
 simp only [List.mem_cons,List.mem_singleton,List.not_mem_nil,or_false] at hw
 rcases hw with rfl | rfl | rfl | rfl | rfl
 ·obtain ⟨b,hb',e⟩:=h.Vv hv hw'
  exact hb b hb' (by rw [← hn,← e])
 ·obtain ⟨b,hb',e⟩:=h.Y0 hv hw'
  exact hr b hb' (by rw [← hn,← e])
 ·exact hk _ (h.RB hv (Jl (.inl hw'))) hn
 ·exact hk _ (h.RB hv (Jl (.inr (.inl hw')))) hn
 ·exact hk _ (h.RB hv (Jl (.inr (.inr hw')))) hn
theorem HD.bC (h:HD K aB aP aM ρ us bs rk ks):SJ (Fx ρ us) "board" = bs.length:=by
 rw [← HB,← List.length_map (f:=ρ),h.eb,List.length_map]
theorem HD.ZK (h:HD K aB aP aM ρ us bs rk ks):SJ (Fx ρ us) "rank" = rk.length:=by
 rw [← HB,← List.length_map (f:=ρ),h.er,List.length_map]
theorem HD.Vl (h:HD K aB aP aM ρ us bs rk ks) {w:Str} (hw:w = "stop" \/ w = "coupler" \/ w = "mute"):SJ (Fx ρ us) w=(ks.filter fun r=>decide (V.str r.w=V.str w)).length:=by
 rw [← HB,← h.ek,List.filter_map,List.length_map,List.filter_filter]
 refine congrArg List.length (List.filter_congr fun v _=>?_)
 show pw ρ w v=(pw ρ w v && Gy (ρ v).w)
 by_cases e:(ρ v).w=w
 ·rw [Jl (by rw [e]; exact hw),Bool.and_true]
 ·have:pw ρ w v=false:=decide_eq_false fun z=>e (V.str.inj z)
  rw [this,Bool.false_and]
theorem HD.snoc (h:HD K aB aP aM ρ us bs rk ks) (hk:(ρ v).w = "board" \/ (ρ v).w = "rank" \/ (ρ v).w = "line" \/ (ρ v).w = "stop" \/ (ρ v).w = "coupler" \/ (ρ v).w = "mute")
  (eb:((us++[v]).filter (pw ρ "board")).map ρ=bs'.map Ep) (er:((us++[v]).filter (pw ρ "rank")).map ρ=rk'.map Fy) (ek:((us++[v]).filter (fun v=>Gy (ρ v).w)).map ρ=ks')
  (hr:∀ (j:Nat) r,rk[j]? = some r->rk'[j]? = some r)
  (hl:(ρ v).w = "line"->(∃ (j:Nat) (r:Str × Nat × Int) (sh lo hi:Int),rk'[j]? = some r/\r.1=(ρ v).nm/\(ρ v).rest=[.int sh,.int lo,.int hi])/\∃ u∈us,Gy (ρ u).w=true)
  (ok:Fi K aB aP aM ρ us (ρ v)):HD K aB aP aM ρ (us++[v]) bs' rk' ks':=by
 have at_:∀ {i:Nat} {u:V},(us++[v])[i]? = some u->us[i]? = some u/\(us++[v]).take i=us.take i \/ u=v/\(us++[v]).take i=us:=fun {i u} hi=>by
  by_cases hlt:i<us.length
  ·rw [List.getElem?_append_left hlt] at hi
   exact .inl ⟨hi,List.take_append_of_le_length (Nat.le_of_lt hlt)⟩
  ·have h2:=(List.getElem?_eq_some_iff.mp hi).1
   rw [List.length_append,List.length_singleton] at h2
   have hil:i=us.length:=by omega
   subst hil
   rw [List.getElem?_append_right (Nat.le_refl _),Nat.sub_self] at hi
   exact .inr ⟨(Option.some.inj hi).symm,by rw [List.take_append_of_le_length (Nat.le_refl _),List.take_length]⟩
 refine ⟨fun u hu=>?_,eb,er,ek,fun i u hi hw=>?_,fun i u hi=>?_⟩
 ·rcases List.mem_append.mp hu with h' | h'
  ·exact h.kinds u h'
  ·rw [List.mem_singleton.mp h']
   exact hk
 ·rcases at_ hi with ⟨h1,h2⟩ | ⟨rfl,h2⟩
  ·rw [h2]
   obtain ⟨⟨j,r,sh,lo,hi',g1,g2,g3⟩,g4⟩:=h.ln i u h1 hw
   exact ⟨⟨j,r,sh,lo,hi',hr j r g1,g2,g3⟩,g4⟩
  ·rw [h2]
   exact hl hw
 ·rcases at_ hi with ⟨h1,h2⟩ | ⟨rfl,h2⟩
  ·rw [h2]
   exact h.ok i u h1
  ·rw [h2]
   exact ok
theorem JN {p:V->Bool} (h:p v=true):(us++[v]).filter p=us.filter p++[v]:=by
 rw [List.filter_append,List.filter_cons,if_pos h]
 rfl
theorem EY {p:V->Bool} (h:p v=false):(us++[v]).filter p=us.filter p:=by
 rw [List.filter_append,List.filter_cons,if_neg (by rw [h]; decide)]
 simp
end
structure Io (K:PySem.W.Frag) (aB aP aM:Addr) (rows:List R) (bs:List (Str × Nat)) (rk:List (Str × Nat × Int)) (ks:List R) (ls:List (List Ln)):Prop where
 ok:∀ (ρ:V->R) (us:List V),us.map ρ=rows->HD K aB aP aM ρ us bs rk ks
 ln0:ks=[]->∀ rk',linesOf rk' rows=[]
 ln:linesOf rk rows=ls
section
variable {aB aP aM:Addr} {rows:List R} {bs:List (Str × Nat)} {rk:List (Str × Nat × Int)} {ks:List R} {ls:List (List Ln)}
theorem Io.nil:Io K aB aP aM [] [] [] [] []:=⟨fun ρ us e=>by rw [List.map_eq_nil_iff.mp e]; exact HD.nil,fun _ _=>rfl,rfl⟩
theorem JL {ρ:V->R} {us:List V} {r:R} (e:us.map ρ=rows++[r]):∃ us' v,us=us'++[v]/\us'.map ρ=rows/\ρ v=r:=by
 obtain ⟨a,b,rfl,h1,h2⟩:=List.map_eq_append_iff.mp e
 obtain ⟨v,l,rfl,h3,h4⟩:=List.map_eq_cons_iff.mp h2
 rw [List.map_eq_nil_iff.mp h4]
 exact ⟨a,v,rfl,h1,h3⟩
theorem Io.Vd (F:Pj K aB aP aM) (h:Io K aB aP aM rows bs [] [] []) {t:Str} {n:Nat} (ht:isNm t) (hf:∀ b∈bs,b.1 ≠ t) (hb:bs.length<5) (h1:1<=n) (h2:n<=61):Io K aB aP aM (rows++[Ep (t,n)]) (bs++[(t,n)]) [] [] []:=by
 refine ⟨fun ρ us e=>?_,fun _ rk'=>?_,?_⟩
 ·obtain ⟨us',v,rfl,e',hv⟩:=JL e
  have O:=h.ok ρ us' e'
  refine O.snoc (.inl (by rw [hv])) ?_ ?_ ?_ (fun _ _ h=>h) (fun z=>absurd (hv ▸ z) (by show ¬ ("board" : Str) = "line"; decide +kernel)) ?_
  ·rw [JN (by unfold pw; rw [hv]; exact decide_eq_true rfl),List.map_append,O.eb,List.map_append,List.map_singleton,hv]
   rfl
  ·rw [EY (by unfold pw; rw [hv]; show decide (V.str "board" = V.str "rank")=false; decide +kernel),O.er]
  ·rw [EY (by rw [hv]; show Gy "board" = false; decide +kernel),O.ek]
  ·rw [hv]
   exact O3 (Pr F.f rfl ht (O.fresh hf (fun _ z=>nomatch z) (fun _ z=>nomatch z)) (by rw [O.bC]; exact hb) h1 h2) O.Xv
 ·rw [CG,h.ln0 rfl rk']
  rfl
 ·rw [CG,h.ln0 rfl []]
  rfl
theorem Io.rank (F:Pj K aB aP aM) (h:Io K aB aP aM rows bs rk [] []) {t:Str} {n:Nat} {wi:Int} (ht:isNm t) (hf:∀ b∈bs,b.1 ≠ t) (hr:∀ r∈rk,r.1 ≠ t) (hc:rk.length<12) (h1:1<=n) (h2:n<=97) (h3:0<=wi) (h4:wi<=1000000000):Io K aB aP aM (rows++[Fy (t,n,wi)]) bs (rk++[(t,n,wi)]) [] []:=by
 refine ⟨fun ρ us e=>?_,fun _ rk'=>?_,?_⟩
 ·obtain ⟨us',v,rfl,e',hv⟩:=JL e
  have O:=h.ok ρ us' e'
  refine O.snoc (.inr (.inl (by rw [hv]))) ?_ ?_ ?_ (fun j r h=>by rw [List.getElem?_append_left (List.getElem?_eq_some_iff.mp h).1]; exact h) (fun z=>absurd (hv ▸ z) (by show ¬ ("rank" : Str) = "line"; decide +kernel)) ?_
  ·rw [EY (by unfold pw; rw [hv]; show decide (V.str "rank" = V.str "board")=false; decide +kernel),O.eb]
  ·rw [JN (by unfold pw; rw [hv]; exact decide_eq_true rfl),List.map_append,O.er,List.map_append,List.map_singleton,hv]
   rfl
  ·rw [EY (by rw [hv]; show Gy "rank" = false; decide +kernel),O.ek]
  ·rw [hv]
   exact QJ F rfl ht (O.fresh hf hr (fun _ z=>nomatch z)) (by rw [O.ZK]; exact hc) h1 h2 h3 h4 O.Xv
 ·rw [CG,h.ln0 rfl rk']
  rfl
 ·rw [CG,h.ln0 rfl _]
  rfl
theorem Io.Vr (h:Io K aB aP aM rows bs rk ks ls) {r:R} (hw:r.w = "stop" \/ r.w = "coupler" \/ r.w = "mute") (hr:∀ (ρ:V->R) (us:List V),us.map ρ=rows->J3 K aB aP aM ρ us r):Io K aB aP aM (rows++[r]) bs rk (ks++[r]) (ls++[[]]):=by
 have hK:=Jl hw
 refine ⟨fun ρ us e=>?_,fun z=>by simp at z,?_⟩
 ·obtain ⟨us',v,rfl,e',hv⟩:=JL e
  have O:=h.ok ρ us' e'
  refine O.snoc (.inr (.inr (.inr (by rw [hv]; exact hw)))) ?_ ?_ ?_ (fun _ _ h=>h) (fun z=>?_) ?_
  ·rw [EY (by unfold pw; rw [hv]; rcases hw with e | e | e <;> rw [e] <;> decide +kernel),O.eb]
  ·rw [EY (by unfold pw; rw [hv]; rcases hw with e | e | e <;> rw [e] <;> decide +kernel),O.er]
  ·rw [JN (by rw [hv]; exact hK),List.map_append,O.ek,List.map_singleton,hv]
  ·rw [hv] at z
   rcases hw with e | e | e <;> rw [e] at z <;> exact absurd z (by decide +kernel)
  ·rw [hv]
   exact O3 (hr ρ us' e') O.Xv
 ·rw [CG,h.ln]
  unfold Ew
  rw [if_pos hK]
theorem Io.Uk (F:Pj K aB aP aM) (h:Io K aB aP aM rows bs rk ks ls) {t a b:Str} {n m:Nat} {s:Int} (ht:isNm t) (hb:∀ b∈bs,b.1 ≠ t) (hr:∀ r∈rk,r.1 ≠ t) (hk:∀ k∈ks,k.nm ≠ t) (hc:(ks.filter fun r=>decide (V.str r.w=V.str "coupler")).length<12) (ha:isNm a) (ha':(a,n)∈bs) (hb1:isNm b) (hb':(b,m)∈bs) (h1 : -60<=s) (h2:s<=60) :
  Io K aB aP aM (rows++[⟨"coupler",t,[.str a,.str b,.int s]⟩]) bs rk (ks++[⟨"coupler",t,[.str a,.str b,.int s]⟩]) (ls++[[]]) :=
 h.Vr (.inr (.inl rfl)) fun ρ us e=>by
  have O:=h.ok ρ us e
  exact Lh F.f rfl ht (O.fresh hb hr hk) (by rw [O.Vl (.inr (.inl rfl))]; exact hc) ha (O.Mx ha') hb1 (O.Mx hb') h1 h2
theorem Io.plain (F:Pj K aB aP aM) (h:Io K aB aP aM rows bs rk ks ls) {wd t a:Str} {n:Nat} (hw:wd = "stop" \/ wd = "mute") (ht:isNm t) (hb:∀ b∈bs,b.1 ≠ t) (hr:∀ r∈rk,r.1 ≠ t) (hk:∀ k∈ks,k.nm ≠ t) (hc:(ks.filter fun r=>decide (V.str r.w=V.str wd)).length<Gv wd) (ha:isNm a) (ha':(a,n)∈bs) :
  Io K aB aP aM (rows++[⟨wd,t,[.str a]⟩]) bs rk (ks++[⟨wd,t,[.str a]⟩]) (ls++[[]]):=by
 have hw3:wd = "stop" \/ wd = "coupler" \/ wd = "mute":=by rcases hw with e | e; exact .inl e; exact .inr (.inr e)
 exact h.Vr hw3 fun ρ us e=>by
  have O:=h.ok ρ us e
  exact Pq F.f hw rfl ht (O.fresh hb hr hk) (by rw [O.Vl hw3]; exact hc) ha (O.Mx ha')
noncomputable def Tl (rows:List R) (bd:Str) (cnt:Nat):Prop:=∃ (r0:List R) (st:R) (lr:List R),rows=r0++st::lr/\st.w = "stop" /\ st.rest=[.str bd]/\lr.length=cnt/\∀ r∈lr,r.w = "line"
theorem Tl.stop (rows:List R) (t bd:Str):Tl (rows++[⟨"stop",t,[.str bd]⟩]) bd 0:=⟨rows,_,[],rfl,rfl,rfl,rfl,fun _ h=>nomatch h⟩
theorem Io.line (F:Pj K aB aP aM) {l0:List Ln} (h:Io K aB aP aM rows bs rk ks (ls++[l0])) {bd:Str} {cnt:Nat} (T:Tl rows bd cnt) (hc:cnt<4) {j n m:Nat} {t:Str} {wi sh lo hi:Int} (hj:rk[j]? = some (t,m,wi)) (hnd:(rk.map (·.1)).Nodup) (ht:isNm t) (hbd:(bd,n)∈bs) (hle:lo<=hi) (hn:hi<(n:Int)) (b1 : -200<=sh) (b2:sh<=200) (b3:0<=lo) (b6:hi<=60) :
  Io K aB aP aM (rows++[⟨"line",t,[.int sh,.int lo,.int hi]⟩]) bs rk ks (ls++[l0++[⟨j,sh,lo,hi⟩]]):=by
 obtain ⟨r0,st,lr,er,g1,g2,g3,g4⟩:=T
 have nK:Gy "line" = false:=by decide +kernel
 refine ⟨fun ρ us e=>?_,fun z=>?_,?_⟩
 ·obtain ⟨us',v,rfl,e',hv⟩:=JL e
  have O:=h.ok ρ us' e'
  obtain ⟨u0,u1,eu,m1,m2⟩:=List.map_eq_append_iff.mp (e'.trans er)
  obtain ⟨sv,lv,e1,m3,m4⟩:=List.map_eq_cons_iff.mp m2
  subst e1
  have hsv:sv∈us':=by rw [eu]; simp
  have hlv:lv.length=cnt:=by rw [← g3,← m4,List.length_map]
  have hus:us'.length=u0.length+(cnt+1):=by rw [eu,List.length_append,List.length_cons,hlv]
  refine O.snoc (.inr (.inr (.inl (by rw [hv])))) ?_ ?_ ?_ (fun _ _ h=>h) (fun _=>⟨⟨j,_,sh,lo,hi,hj,by rw [hv],by rw [hv]⟩,sv,hsv,by rw [m3,g1]; decide +kernel⟩) ?_
  ·rw [EY (by unfold pw; rw [hv]; show decide (V.str "line" = V.str "board")=false; decide +kernel),O.eb]
  ·rw [EY (by unfold pw; rw [hv]; show decide (V.str "line" = V.str "rank")=false; decide +kernel),O.er]
  ·rw [EY (by rw [hv]; exact nK),O.ek]
  ·rw [hv]
   have hst:us'[us'.length - 1 - cnt]? = some sv:=by
    have:us'.length - 1 - cnt=u0.length:=by omega
    rw [this,eu,List.getElem?_append_right (Nat.le_refl _),Nat.sub_self]
    rfl
   refine Qi F rfl ht (O.W5 (List.mem_of_getElem? hj)) b1 b2 b3 (by omega) (by omega) b6 O.Xv ⟨cnt,sv,sh,lo,hi,bd,[],rfl,⟨fun i hi'=>?_,by omega,sv,hst,by rw [m3,g1]; decide +kernel⟩,hc,hst,by rw [m3,g1],by rw [m3,g2],hle,?_⟩
   ·have hi2:cnt - 1 - i<lv.length:=by omega
    refine ⟨lv[cnt - 1 - i],?_,?_⟩
    ·have:us'.length - 1 - i=u0.length+((cnt - 1 - i)+1):=by omega
     rw [this,eu,List.getElem?_append_right (Nat.le_add_right _ _),Nat.add_sub_cancel_left,List.getElem?_cons_succ]
     exact List.getElem?_eq_getElem hi2
    ·refine g4 _ ?_
     rw [← m4]
     exact List.mem_map_of_mem (List.getElem_mem hi2)
   ·obtain ⟨u,hu,hub⟩:=O.Vb hbd
    rw [List.any_eq_true]
    refine ⟨u,List.mem_filter.mpr ⟨hu,?_⟩,?_⟩
    ·unfold pw
     rw [hub]
     exact decide_eq_true rfl
    ·show (pn ρ bd u && decide (hi<Wv (ρ u)))=true
     unfold pn
     rw [hub,Bool.and_eq_true]
     exact ⟨decide_eq_true rfl,decide_eq_true hn⟩
 ·subst z
  have:=h.ln0 rfl rk
  rw [h.ln] at this
  simp at this
 ·rw [CG,h.ln]
  unfold Ew
  rw [if_neg (by show ¬ Gy "line" = true; rw [nK]; decide),if_pos rfl,Gk]
  have hjl:=(List.getElem?_eq_some_iff.mp hj).1
  have:(rk.map (·.1)).idxOf t=j:=by
   have hl:j<(rk.map (·.1)).length:=by rw [List.length_map]; exact hjl
   have e2:(rk.map (·.1))[j]=t:=by
    rw [List.getElem_map]
    have:=(List.getElem?_eq_some_iff.mp hj).2
    rw [this]
   rw [← e2]
   exact hnd.idxOf_getElem j hl
  show ls++[l0++[⟨(rk.map (·.1)).idxOf t,sh,lo,hi⟩]]=_
  rw [this]
theorem Io.fin {H:Hp} {vs:List V} (h:Io K aB aP aM rows bs rk ks ls) (hv:Paired (fun (r:R) v=>TupAt H r.v v) rows vs) (b0:1<=bs.length) (b5:bs.length<=5) (sz:∀ b∈bs,b.2<=61) (nr:rk.length<=12) (nz:∀ r∈rk,r.2.1<=97) (nk:ks.length<=100) (nb:(bs.map (·.1)).Nodup) (nrr:(rk.map (·.1)).Nodup) (nn:(ks.map (·.nm)).Nodup) (len:rows.length<=150) :
  Rows H (Te H) vs/\dD K aB aP aM (Te H) vs bs rk ks/\linesOf rk (vs.map (Te H))=ls:=by
 have em:=Oi hv
 have O:=h.ok (Te H) vs em
 refine ⟨fun v hv'=>?_,⟨O.kinds,O.eb,O.er,O.ek,O.ln,b0,b5,sz,nr,nz,nk,nb,nrr,nn,by rw [← hv.length]; exact len,O.ok⟩,by rw [em]; exact h.ln⟩
 obtain ⟨r,_,hr⟩:=Br hv hv'
 rw [Mj hr]
 exact hr
end
end Og
namespace Og
open PySem L2 PyProof.Rows
variable {K:PySem.W.Frag}
structure jk (K:PySem.W.Frag) (aB aP aM:Addr) (ρ:V->R) (us:List V) (bs:List (Str × Nat)) (rk:List (Str × Nat × Int)) (ks:List R):Prop where
 eb:(us.filter (pw ρ "board")).map ρ=bs.map Ep
 er:(us.filter (pw ρ "rank")).map ρ=rk.map Fy
 ek:(us.filter (fun v=>Gy (ρ v).w)).map ρ=ks
 ln:∀ (i:Nat) v,us[i]? = some v->(ρ v).w = "line"->(∃ (j:Nat) (r:Str × Nat × Int) (sh lo hi:Int),rk[j]? = some r/\r.1=(ρ v).nm/\(ρ v).rest=[.int sh,.int lo,.int hi])/\∃ u∈us.take i,Gy (ρ u).w=true
 ok:∀ (i:Nat) v,us[i]? = some v->RV K aB aP aM ρ (us.take i) (ρ v)
section
variable {aB aP aM:Addr} {ρ:V->R} {us:List V} {v:V} {bs bs':List (Str × Nat)} {rk rk':List (Str × Nat × Int)} {ks ks':List R}
end
noncomputable abbrev fL (r:R):Bool:=decide (V.str r.w=V.str "step")
structure jh (K:PySem.W.Frag) (aB aP aM:Addr) (rows:List R) (bs:List (Str × Nat)) (rk:List (Str × Nat × Int)) (ks:List R) (ls:List (List Ln)) (sts:List Nat):Prop where
 ok:∀ (ρ:V->R) (us:List V),us.map ρ=rows->jk K aB aP aM ρ us bs rk ks
 ln:linesOf rk rows=ls
 st:(rows.filter fL).map (stN ks)=sts
 lm:∀ r∈rows,r.w = "line"->r.nm∈rk.map (·.1)
 sm:∀ r∈rows,r.w = "step"->∃ ts:List Str,V.str r.nm::r.rest=ts.map V.str/\ts.length<=24/\∀ t∈ts,t∈ks.map (·.nm)
section
variable {aB aP aM:Addr} {rows:List R} {bs:List (Str × Nat)} {rk:List (Str × Nat × Int)} {ks:List R} {ls:List (List Ln)} {sts:List Nat}
end
end Og
namespace Og
open PySem L2 PyProof.Rows
noncomputable def jx (b:Str):Prop:=b.length<=6/\∀ c∈b.cps.toList,97<=c/\c<=122
noncomputable def aJ (n:Nat):Str:=⟨#[97+n]⟩
noncomputable def dh (b:Str) (k:Nat):Str:=if 26<=k then b++aJ (k % 26)++aJ (k / 26 * 5 % 26) else b++aJ (k % 26)
end Og
namespace Og
open PySem L2
structure jc where
 p:Addr
 r:Addr
 b:Addr
 k:Addr
 n:Addr
 d:Addr
 s:Addr
inductive Dt where
 | stop (b:Nat) (L:Addr)
 | coup (a b:Nat) (s:Int)
 | mute (b:Nat)
noncomputable def Dt.L:Dt->List Addr
 | .stop _ L=>[L]
 | _=>[]
structure Pl where
 rows:List R
 bs:List (Str × Nat)
 rk:List (Str × Nat × Int)
 ks:List R
 ls:List (List Ln)
 ds:List Dt
 ch:List (List Nat)
noncomputable abbrev Pl.Ls (S:Pl):List Addr:=S.ds.flatMap Dt.L
noncomputable def dz (H:Hp) (L:Addr) (l:List Ln):Prop:=∃ ts,H L=some (.lst ts)/\Paired (fun (y:Ln) z=>TupAt H (Xy y) z) l ts
noncomputable def d_ (H:Hp) (x:Dt × List Ln) (v:V):Prop:=match x.1 with
 | .stop b L=>TupAt H [.int (b:Nat),.ref L] v/\dz H L x.2
 | .coup a b s=>TupAt H [.int (a:Nat),.int (b:Nat),.int s] v
 | .mute b=>v=.int (b:Nat)
noncomputable abbrev ju (r:Str × Nat × Int):List V:=[.str r.1,.int (r.2.1:Nat),.int r.2.2]
noncomputable abbrev jw (r:R):List V:=[.str r.w,.str r.nm]
structure jm (H0 H:Hp) (A:jc) (S:Pl) (Cs:List Addr) (lo:V):Prop where
 dp:∃ kvs:List (Key × V),H A.p=some (.dK kvs)/\kvs.length<=7/\Ci kvs (Sum.inr "rows")=some (.ref A.r)/\Ci kvs (Sum.inr "boards")=some (.ref A.b)/\Ci kvs (Sum.inr "ranks")=some (.ref A.k)/\Ci kvs (Sum.inr "knobs")=some (.ref A.n)/\Ci kvs (Sum.inr "details")=some (.ref A.d)/\Ci kvs (Sum.inr "steps")=some (.ref A.s)/\Ci kvs (Sum.inr "lines")=some lo
 nd:(A.r::A.b::A.k::A.n::A.d::A.s::(S.Ls++Cs)).Nodup
 sm:Al H0 H
 f0:H0 A.p=none
 fr:∀ a∈A.r::A.b::A.k::A.n::A.d::A.s::S.Ls,H0 a=none
 r:∃ vs,H A.r=some (.lst vs)/\Paired (fun (r:R) v=>TupAt H r.v v) S.rows vs
 b:∃ vs,H A.b=some (.lst vs)/\Paired (fun b v=>TupAt H (bV b) v) S.bs vs
 k:∃ vs,H A.k=some (.lst vs)/\Paired (fun r v=>TupAt H (ju r) v) S.rk vs
 n:∃ vs,H A.n=some (.lst vs)/\Paired (fun (r:R) v=>TupAt H (jw r) v) S.ks vs
 d:∃ vs,H A.d=some (.lst vs)/\S.ds.length=S.ls.length/\Paired (d_ H) (S.ds.zip S.ls) vs
 s:H A.s=some (.lst (Cs.map V.ref))
 c:Paired (fun C (l:List Nat)=>H C=some (.lst (l.map fun n:Nat=>V.int (n:Int)))) Cs S.ch
section
variable {H0 H H':Hp} {A:jc} {S:Pl} {Cs:List Addr} {lo:V}
end
end Og
namespace Og
open PySem L2
variable {K:PySem.W.Frag} {aB aP aM:Addr}
noncomputable def gW (bs:List (Str × Nat)) (r:R):Dt->Prop
 | .stop b _=>r.w = "stop" /\ ∃ x,bs[b]? = some x/\r.rest=[.str x.1]
 | .coup a b s=>r.w = "coupler" /\ ∃ x y,bs[a]? = some x/\bs[b]? = some y/\r.rest=[.str x.1,.str y.1,.int s]
 | .mute b=>r.w = "mute" /\ ∃ x,bs[b]? = some x/\r.rest=[.str x.1]
structure j7 (K:PySem.W.Frag) (aB aP aM:Addr) (base:Str) (S:Pl) (lo:V):Prop where
 bl:jh K aB aP aM S.rows S.bs S.rk S.ks S.ls (S.ch.map Wd.mk)
 nb:∀ x∈S.bs,∃ i,i<S.rows.length/\x.1=dh base i
 nr:∀ x∈S.rk,∃ i,i<S.rows.length/\x.1=dh base i
 nk:∀ x∈S.ks,∃ i,i<S.rows.length/\x.nm=dh base i
 db:(S.bs.map (·.1)).Nodup
 dr:(S.rk.map (·.1)).Nodup
 dk:(S.ks.map (·.nm)).Nodup
 b5:S.bs.length<=5
 sb:∀ x∈S.bs,1<=x.2/\x.2<=61
 r12:S.rk.length<=12
 sr:∀ x∈S.rk,1<=x.2.1/\x.2.1<=97
 lk:S.ks.length<=S.rows.length
 pd:Paired (gW S.bs) S.ks S.ds
 ch:∀ l∈S.ch,l.Nodup/\∀ i∈l,∃ k,S.ks[i]? = some k/\k.w = "stop"
 op:lo=.non \/ ∃ ds0 b L x ls0 l0,S.ds=ds0++[.stop b L]/\S.ls=ls0++[l0]/\lo=.ref L/\S.bs[b]? = some x/\Tl S.rows x.1 l0.length
section
variable {base:Str} {S:Pl} {lo:V}
noncomputable def lA (ks:List R) (i:Nat):Str:=((ks[i]?).map (·.nm)).getD ""
noncomputable abbrev kE (a1 a2 a3 a4 a5 a6:Addr):List (Key × V):=[(Sum.inr "rows",.ref a1),(Sum.inr "boards",.ref a2),(Sum.inr "ranks",.ref a3),(Sum.inr "knobs",.ref a4),(Sum.inr "details",.ref a5),(Sum.inr "steps",.ref a6),(Sum.inr "lines",.non)]
end
end Og
namespace Og
open PySem L2
noncomputable def kJ (x:V):Prop:=(∃ t,x=.str t) \/ ∃ i,x=.int i
noncomputable def jz (H:Hp) (vs:List V):Prop:=∀ v∈vs,∃ (T:Addr) (xs:List V),v=.ref T/\H T=some (.tup xs)/\∀ x∈xs,kJ x
variable {K:PySem.W.Frag} {aB aP aM:Addr}
noncomputable def kW (rows:List R):V->R
 | .int i=>(rows[i.toNat]?).getD ⟨"","",[]⟩
 | _=>⟨"","",[]⟩
end Og
namespace L2
open PySem PySem.Spec PyProof.Rows
section
variable {X:Cx}
end
end L2
namespace L2
open PySem PySem.Spec PySem.Calls PySem.Builtin PySem.Builtin.Str PyProof.Rows
section
variable {X:Cx}
end
end L2
namespace Og
open PySem L2
noncomputable def Tx (t:Str):Prop:=t.length<=1000/\∀ c∈t.cps.toList,c<128
inductive PK (H:Hp):V->Prop where
 | non:PK H .non
 | bl (b:Bool):PK H (.bl b)
 | int (i:Int):PK H (.int i)
 | lst {a:Addr} {xs:List V} (h:H a=some (.lst xs)):PK H (.ref a)
 | tup {a:Addr} {xs:List V} (h:H a=some (.tup xs)):PK H (.ref a)
 | str {t:Str} (h:Tx t):PK H (.str t)
end Og
namespace Og
open PySem L2
noncomputable def RD (K:PySem.W.Frag) (C:Addr):Bool:=(PySem.W.findIn K (.ref C) "__getattribute__" == some (some (.builtin "BaseException.__getattribute__"))) && (PySem.W.findIn K (.ref C) "__getattr__" == some none) &&
 (PySem.W.mroIn K C (.type "BaseException") == some true) && PySem.W.hasDictIn K C && (PySem.W.findIn K (.ref C) "__class__" == some (some (.builtin "object.__class__"))) &&
 (PySem.W.specialIn K (.builtin "object.__class__") "__get__" == some (some (.builtin "getset_descriptor.__get__"))) && (PySem.W.takesIn K (.builtin "object.__class__") == some true) && (PySem.W.mroIn K C (.type "object") == some true) && PySem.W.keepIn K (.ref C)
theorem Le {K:PySem.W.Frag} {C:Addr} (h:RD K C=true):Ka K C/\PySem.W.keepIn K (.ref C)=true:=by
 simp only [RD,Bool.and_eq_true,beq_iff_eq] at h
 obtain ⟨⟨⟨⟨⟨⟨⟨⟨h1,h2⟩,h3⟩,h4⟩,h5⟩,h6⟩,h7⟩,h8⟩,h9⟩:=h
 exact ⟨⟨h1,h2,h3,h4,h5,h6,h7,h8⟩,h9⟩
noncomputable def Ra (K:PySem.W.Frag) (C cO:Addr) (ds:List Addr):Bool :=
 RD K C && (PySem.W.kitOne K (.ref C) (.ref C) == some true) && (PySem.W.kitOne K (.ref C) (.type "ValueError") == some true) && (PySem.W.kitAny K (.ref C) (ds.map Value.ref) == some false) && (ds.all fun D=>PySem.W.kitOne K (.ref C) (.ref D) == some false) &&
 PySem.W.excIn K C Tn "ValueError.__new__" && (PySem.W.mroIn K C (.ref cO) == some true)
structure Rc (K:PySem.W.Frag) (C cO:Addr) (ds:List Addr):Prop where
 xc:Ka K C
 kp:PySem.W.keepIn K (.ref C)=true
 k0:PySem.W.kitOne K (.ref C) (.ref C)=some true
 kv:PySem.W.kitOne K (.ref C) (.type "ValueError")=some true
 ka:PySem.W.kitAny K (.ref C) (ds.map Value.ref)=some false
 kf:∀ D∈ds,PySem.W.kitOne K (.ref C) (.ref D)=some false
 ex:PySem.W.excIn K C Tn "ValueError.__new__" = true
 mro:PySem.W.mroIn K C (.ref cO)=some true
theorem Rc.of {K:PySem.W.Frag} {C cO:Addr} {ds:List Addr} (h:Ra K C cO ds=true):Rc K C cO ds:=by
 unfold Ra at h
 simp only [Bool.and_eq_true,beq_iff_eq,List.all_eq_true] at h
 obtain ⟨⟨⟨⟨⟨⟨a1,a2⟩,a3⟩,a4⟩,a5⟩,a6⟩,a7⟩:=h
 exact ⟨(Le a1).1,(Le a1).2,a2,a3,a4,a5,a6,a7⟩
noncomputable abbrev WW:List Str:=["__init__","draw","pull","push","store","press","cancel","shoe","drawn","knobs","step"]
structure Z1 (Cy:Addr) (H:Hp) (y x:Addr) (dr sh:Nat) (sd:Addr):Prop where
 ex:∃ dy fs,H y=some (.ins Cy dy fs)/\fs.lookup ("organ" : Str)=some (.ref x)/\fs.lookup ("drawn_set" : Str)=some (.int (dr:Nat))/\fs.lookup ("shoe_step" : Str)=some (.int (sh:Nat))/\fs.lookup ("stored" : Str)=some (.ref sd)/\fs.length<=4/\∀ m∈WW,fs.lookup m=none
structure jl (C Cy:Addr) (Ho H:Hp) (y x:Addr) (us:List V) (bs:List (Str × Nat)) (rk:List (Str × Nat × Int)) (ks:List R) (ls:List (List Ln)) (sts:List Nat) (dr sh:Nat) (sd:Addr):Prop where
 o:ig C Ho x us bs rk ks ls sts
 s:Al Ho H
 n:Ho y=none
 c:Z1 Cy H y x dr sh sd
end Og
namespace Og
open PySem L2
structure j4 (K:PySem.W.Frag) (mg:Str->Option Value) (cT cD cK cR cS cO:Addr):Prop where
 verr:mg "ValueError" = none
 mT:mg "TooMany" = some (.ref cT)
 mD:mg "NoDeed" = some (.ref cD)
 mK:mg "NoKnob" = some (.ref cK)
 mR:mg "NoRoll" = some (.ref cR)
 mS:mg "NoSet" = some (.ref cS)
 mO:mg "OrganError" = some (.ref cO)
 exO:PySem.W.excIn K cO Tn "ValueError.__new__" = true
 rT:Rc K cT cO [cD,cK,cR,cS]
end Og
namespace Og
open PySem L2
noncomputable abbrev Pt:=Nat × Nat
noncomputable def lB (nx:Pt->Option Pt) (p0:Pt) (ps:List Pt):Prop:=∀ (i:Nat) (p q:Pt),(p0::ps)[i]? = some p->(p0::ps)[i+1]? = some q->nx p=some q
noncomputable def je (s0 s1 b:Nat):Nat:=if b=0 then s0 else s1
noncomputable def enc (s0:Nat) (p:Pt):Nat:=p.1 * s0+p.2
noncomputable abbrev Way:=Option (Nat × Int)
noncomputable def wy (w0 w1:Way) (b:Nat):Way:=if b=0 then w0 else w1
noncomputable def nxt (s0 s1:Nat) (w0 w1:Way) (p:Pt):Option Pt:=match wy w0 w1 p.1 with
 | none=>none
 | some (g,s)=>if 0<=(p.2:Int)+s/\(p.2:Int)+s<(je s0 s1 g:Nat) then some (g,((p.2:Int)+s).toNat) else none
structure kj (s0 s1:Nat) (p:Pt):Prop where
 b:p.1<2
 n:p.2<je s0 s1 p.1
structure km (kbs:List Kb) (D:Nat) (w0 w1:Way):Prop where
 out:∀ k z,D.testBit k=true->kbs[k]? = some z->∃ j1 j2 s,z=.cp j1 j2 s/\wy w0 w1 j1=some (j2,s)/\j2<2
 back:∀ b g s,b<2->wy w0 w1 b=some (g,s)->∃ k,D.testBit k=true/\kbs[k]? = some (.cp b g s)
end Og
namespace Og
open PySem L2
inductive Xj (nx:Pt->Option Pt) (hd:Pt->Prop):Pt->Prop
 | one {p q:Pt}:hd p->nx p=some q->Xj nx hd q
 | more {p q:Pt}:Xj nx hd p->nx p=some q->Xj nx hd q
structure kY (kbs:List Kb) (D:Nat) (w0 w1:Way):Prop where
 out:∀ (k:Nat) (z:Kb),D.testBit k=true->kbs[k]? = some z->(∃ w i,z=.pl w i) \/ ∃ j1 j2 s,z=.cp j1 j2 s/\wy w0 w1 j1=some (j2,s)/\j2<2
 back:∀ b g s,b<2->wy w0 w1 b=some (g,s)->∃ k:Nat,D.testBit k=true/\kbs[k]? = some (.cp b g s)
end Og
namespace L2
open PySem PySem.Spec PySem.Calls PyProof.Rows
section
variable {X:Cx}
end
end L2
namespace L2
open PySem PySem.Spec PySem.Calls PyProof.Rows
section
variable {X:Cx}
end
end L2
namespace Gn
theorem V5 {a b:Nat} (h:a &&& b=0):a+b=a ||| b:=by
 have ha:a<2 ^ (a+b+1):=Nat.lt_trans (Nat.lt_of_le_of_lt (Nat.le_add_right a b) (Nat.lt_succ_self _)) Nat.lt_two_pow_self
 have hb:b<2 ^ (a+b+1):=Nat.lt_trans (Nat.lt_of_le_of_lt (Nat.le_add_left b a) (Nat.lt_succ_self _)) Nat.lt_two_pow_self
 have hab:a+b<2 ^ (a+b+1):=Nat.lt_trans (Nat.lt_succ_self _) Nat.lt_two_pow_self
 have:=BitVec.add_eq_or_of_and_eq_zero (BitVec.ofNat (a+b+1) a) (BitVec.ofNat (a+b+1) b) (by
  apply BitVec.eq_of_toNat_eq
  rw [BitVec.toNat_and,BitVec.toNat_ofNat,BitVec.toNat_ofNat,Nat.mod_eq_of_lt ha,Nat.mod_eq_of_lt hb,h]
  simp)
 have:=congrArg BitVec.toNat this
 rw [BitVec.toNat_add,BitVec.toNat_or,BitVec.toNat_ofNat,BitVec.toNat_ofNat,Nat.mod_eq_of_lt ha,Nat.mod_eq_of_lt hb,Nat.mod_eq_of_lt hab] at this
 exact this
theorem JC (D M k:Nat):(D - (D &&& M)).testBit k=(D.testBit k && !M.testBit k):=by
 have hz:(D &&& M) &&& (D ^^^ (D &&& M))=0:=Nat.eq_of_testBit_eq fun i=>by
  simp only [Nat.testBit_and,Nat.testBit_xor,Nat.zero_testBit]
  cases D.testBit i <;> cases M.testBit i <;> rfl
 have hs:(D &&& M)+(D ^^^ (D &&& M))=D:=by
  rw [V5 hz]
  refine Nat.eq_of_testBit_eq fun i=>?_
  simp only [Nat.testBit_and,Nat.testBit_xor,Nat.testBit_or]
  cases D.testBit i <;> cases M.testBit i <;> rfl
 have e:D - (D &&& M)=D ^^^ (D &&& M):=by omega
 rw [e]
 simp only [Nat.testBit_and,Nat.testBit_xor]
 cases D.testBit k <;> cases M.testBit k <;> rfl
end Gn
namespace L2
open PySem PySem.Spec PyProof.Rows
section
variable {X:Cx}
end
end L2
namespace Og
theorem XX {a n:Nat} (h:a.testBit n=false):a ||| 2 ^ n=a+2 ^ n:=by
 have e:=Nat.div_add_mod a (2 ^ n)
 have hr:a % 2 ^ n<2 ^ n:=Nat.mod_lt _ (Nat.two_pow_pos n)
 rw [Nat.testBit_eq_decide_div_mod_eq] at h
 have h2:a / 2 ^ n % 2=0:=by
  have:=of_decide_eq_false h
  omega
 obtain ⟨q,hq⟩:∃ q,a / 2 ^ n=2 * q:=⟨a / 2 ^ n / 2,by omega⟩
 rw [hq] at e
 generalize a % 2 ^ n=r at e hr
 have e1:2 ^ n * (2 * q)+r=2 ^ n * (2 * q) ||| r:=Nat.two_pow_add_eq_or_of_lt hr _
 have e2:2 ^ n * (2 * q+1)+r=2 ^ n * (2 * q+1) ||| r:=Nat.two_pow_add_eq_or_of_lt hr _
 have e3:2 * q ||| 1=2 * q+1:=by
  have:=Nat.two_pow_add_eq_or_of_lt (i:=1) (b:=1) (by decide) q
  rw [Nat.pow_one] at this
  exact this.symm
 have e4:2 ^ n * (2 * q) ||| 2 ^ n=2 ^ n * (2 * q+1):=by
  have e5:2 ^ n * (2 * q) ||| 2 ^ n * 1=2 ^ n * (2 * q ||| 1):=by
   rw [Nat.mul_comm,Nat.mul_comm (2 ^ n) 1,Nat.mul_comm (2 ^ n) (2 * q ||| 1),← Nat.shiftLeft_eq,← Nat.shiftLeft_eq,← Nat.shiftLeft_eq,Nat.shiftLeft_or_distrib]
  rw [Nat.mul_one,e3] at e5
  exact e5
 calc a ||| 2 ^ n=(2 ^ n * (2 * q) ||| r) ||| 2 ^ n:=by rw [← e1,e]
  _=(2 ^ n * (2 * q) ||| 2 ^ n) ||| r:=by rw [Nat.or_assoc,Nat.or_comm r,← Nat.or_assoc]
  _=2 ^ n * (2 * q+1)+r:=by rw [e4,e2]
  _=a+2 ^ n:=by rw [← e,Nat.mul_add,Nat.mul_one]; omega
end Og
namespace Og
open PySem L2
noncomputable def jy (kd a k:Nat):Str:=if kd=0 then aJ k++Txt.mul "v" (a:Nat) else if kd=1 then Txt.mul "o" (((1+k % 6:Nat)):Int)++Txt.mul "b" (((k / 6:Nat)):Int) else (Txt.slice "qrst" none (some (a:Nat))++aJ k)++Txt.slice "qrst" (some (a:Nat)) none
noncomputable def iM (z:Str):Bool:=decide (1<=z.length) && decide (z.length<=8) && z.cps.toList.all (fun c=>decide (97<=c/\c<=122)) && (match z.cps.toList with | c::_=>decide (c<=116) | []=>false)
noncomputable def gD (z:Str):Nat:=z.cps.toList.headD 0
theorem Kf {z:Str} (h:iM z=true):isNm z/\gD z<=116:=by
 unfold iM at h
 simp only [Bool.and_eq_true] at h
 obtain ⟨⟨⟨h1,h2⟩,h3⟩,h4⟩:=h
 rw [List.all_eq_true] at h3
 refine ⟨⟨of_decide_eq_true h1,of_decide_eq_true h2,fun c hc=>of_decide_eq_true (h3 c hc)⟩,?_⟩
 unfold gD
 cases e:z.cps.toList with
 | nil=>exact Nat.zero_le _
 | cons c r =>
  rw [e] at h4
  exact of_decide_eq_true h4
structure jf where
 rows:List R
 bs:List (Str × Nat)
 rk:List (Str × Nat × Int)
 ks:List R
 ls:List (List Ln)
 sts:List Nat
 sn:List Str
structure jr (K:PySem.W.Frag) (aB aP aM:Addr) (kd a i m:Nat) (S:jf):Prop where
 bl:jh K aB aP aM S.rows S.bs S.rk S.ks S.ls S.sts
 rb:∀ (j:Nat) b,S.bs[j]? = some b->S.rows[j]? = some (Ep b)
 b1:1<=S.bs.length
 b3:S.bs.length<=3
 sb:∀ b∈S.bs,isNm b.1/\120<=gD b.1/\1<=b.2/\b.2<=61
 db:(S.bs.map (·.1)).Nodup
 rk1:∃ (m:Nat) (wi:Int),S.rk=[(("u" : Str),m,wi)]/\1<=m/\m<=97
 ek:S.rows.filter (fun r=>Gy r.w)=S.ks
 nk:S.ks.map (·.nm)=(List.range i).map (jy kd a)
 sn:∀ t∈S.sn,∃ k∈S.ks,k.w = "stop" /\ k.nm=t
 sd:S.sn.Nodup
 sl:S.sn.length<=i
 st:S.sts.length<=i
 lr:S.rows.length<=m
 kb:∀ r∈S.ks,∃ b∈S.bs,∃ rs,r.rest=V.str b.1::rs
 bz:∀ b∈S.bs,b.1 ≠ "zz"
section
variable {K:PySem.W.Frag} {aB aP aM:Addr} {kd a i m:Nat} {S:jf}
end
end Og
namespace L2
open PySem PySem.Spec PyProof.Rows
section
variable {X:Cx} {o e f:Expr} {apos cpos:Pos} {td ty tx:TE}
end
end L2
namespace L2
open PySem PySem.Spec PyProof.Rows
theorem Ck {X:Cx} {x:Str} {e:Expr} {te:TE} {pos' pos:Pos} (i:Nat) (hN:X.N.Nodup) (hi:X.N[i]? = some x) (hx:Loc X.env.scope x) (he:PE X e te) (hs:swapsWith e (some (.Name x pos')) pos.line X.env=pure false) (hf:X.fn x=true \/ X.env.scope.names.lookup x=some .local) :
  PS X (.Assign [.Name x pos'] e pos) (VP te (Dc i)):=BX hN hi hx he hs hf
end L2
namespace L2
open PySem PySem.Spec PyProof.Rows
theorem BJ {X:Cx} {e:Expr} {es:List Expr} {te:TE} {t:TA} (h:starEach (e::es) X.env=(false,eval e X.env)::starEach es X.env) (he:PE X e te) (ht:PA X es t):PA X (e::es) (Ve te t):=Aa he ht h
end L2
namespace L2
open PySem PySem.Spec PyProof.Rows
end L2
namespace L2
open PySem PySem.Spec PyProof.Rows
section
variable {X:Cx} {x z:Str} {scope:Scope}
theorem VB {i k:Nat} {y:Str} {px pz tpos py pos spos:Pos} {iter elt:Expr} {ifs:List Expr} {wi:TI} {tt:TT} {te:TE} (hN:X.N.Nodup) (hi':X.N[i]? = some y) (hy:X.env.scope.names.lookup y=some .local) (hc:X.calm=true) (S:Df X x z scope) (hi:PI X (.Tuple [.Name x px,.Name z pz] k tpos) iter wi)
  (ht:∀ C s₀ H₀ fp,Ke (Bd X x z scope C s₀ H₀ fp) ifs tt) (he:∀ C s₀ H₀ fp,PE (Bd X x z scope C s₀ H₀ fp) elt te) (hsw:swapsWith (.ListComp elt [⟨.Tuple [.Name x px,.Name z pz] k tpos,iter,ifs,0⟩] scope pos) (some (.Name y py)) spos.line X.env=pure true:=by rfl) (hs:∀ x,foldedSetIterable iter X.env x=pure x:=by intro _; rfl) :
  PS X (.Assign [.Name y py] (.ListComp elt [⟨.Tuple [.Name x px,.Name z pz] k tpos,iter,ifs,0⟩] scope pos) spos) (VP (Mz wi (O7 X.K 2 (GR (Dc 0) (GR (Dc 1) Pb))) tt te) (Dc i)):=by
 intro pins s σ H D' I h
 rw [exec_Assign_Name_used _ _ _ _ hsw]
 refine wpAny_bind (wpAny_standAt (wpAny_bind ?_))
 show wpAny _ X.A (do let _ ← comprehension (.ListComp elt [⟨.Tuple [.Name x px,.Name z pz] k tpos,iter,ifs,0⟩] scope pos) scope X.env _ (newList []) false (eval iter X.env) (some (assign (.Name y py) X.env))) _ _ s
 refine wpAny_bind (wpAny_mono (wpAny_comprehension_free (use:=some (assign (.Name y py) X.env)) (cl:=Cj X.env scope.names []) (Q:=fun _ s'=>SP X pins D' .next s') rfl hs (Fj fun y hy hk=>I.ok.has y.1 (S.free y hy hk)) S.kind S.names
  (CJ (hi pins s σ H _ I h) fun v s1 h1=>CJ h1 fun itv s2 h2=>?_)) (fun _ s' hq=>wpAny_pure (wpAny_pure hq)) fun _ _ e=>e)
 obtain ⟨it,fp,tn,J,H2,e,I2,T,st2,f2,q⟩:=h2
 subst e
 refine Ik (RR:=fun acc C=>compPost (model X.prog X.w) X.A X.xe (some (assign (.Name y py) X.env)) (fun _ s'=>SP X pins D' .next s') acc C) (Q:=fun x H1=>Dc i x σ H1 D'.nx) hc S (fun _ _ _ _=>N5 hc S) ht he I2 T st2 f2 q ?_
 intro D C s' H' m hn hf hI hq
 show wpAny _ X.A (assign (.Name y py) X.env (.ref D)) _ _ _
 refine wpAny_assign_Name (Gg hI hN hi' (.inl hy) (v:=.ref D) rfl (fun s6 I6 hch=>?_) (.inr hy))
 obtain ⟨a,sb,ha⟩:=hch
 have hCa:C ≠ a:=by
  rcases ha with z | z
  ·rw [z]; exact hf.2.1
  ·exact Ne.symm (hf.2.2.2.2.1 y a z)
 exact ⟨m,hn.sameBut sb hCa,fun h' sb'=>⟨_,H',I6.sameBut hf sb',hq⟩⟩
end
end L2
section PartK76a
set_option maxHeartbeats 4000000
namespace K76
open PySem L2 Og
noncomputable def top (i:Nat):Stmt:=PySem.Challenge.pw_windchest_k76_too_many.main.body.getD i (.Pass ⟨0,0,0,0⟩)
noncomputable abbrev dN:Stmt:=top 12
noncomputable abbrev b_:Stmt:=top 13
noncomputable abbrev dw:Stmt:=top 14
noncomputable abbrev cP:Stmt:=top 55
noncomputable abbrev cU:Stmt:=top 56
noncomputable abbrev iW:Stmt:=top 57
noncomputable abbrev cX:Stmt:=top 58
noncomputable abbrev cW:Stmt:=top 59
noncomputable abbrev fc:Stmt:=top 60
noncomputable abbrev cI:Stmt:=top 61
noncomputable abbrev d7:Stmt:=top 62
noncomputable abbrev iw:Stmt:=top 64
noncomputable abbrev g_:Stmt:=top 65
noncomputable abbrev jQ:Stmt:=top 66
noncomputable abbrev fW:Stmt:=top 67
noncomputable abbrev jL:Stmt:=top 70
noncomputable abbrev bw:Stmt:=top 71
noncomputable abbrev dG:Stmt:=top 72
noncomputable abbrev jP:Stmt:=top 73
noncomputable abbrev eN:Stmt:=top 17
noncomputable abbrev cH:Stmt:=top 18
noncomputable abbrev fU:Stmt:=top 19
noncomputable abbrev cY:Stmt:=top 20
noncomputable abbrev gY:Stmt:=top 21
noncomputable abbrev d9:Stmt:=top 22
noncomputable abbrev iJ:Stmt:=top 24
noncomputable abbrev Yn:Stmt:=top 25
noncomputable abbrev gO:Stmt:=top 26
noncomputable abbrev dJ:Stmt:=top 27
noncomputable abbrev gM:Stmt:=top 28
noncomputable abbrev b8:Stmt:=top 30
noncomputable abbrev bx:Stmt:=top 31
noncomputable abbrev jR:Stmt:=top 32
noncomputable abbrev jT:Stmt:=top 33
noncomputable abbrev gJ:Stmt:=top 34
noncomputable abbrev cj:Stmt:=top 35
noncomputable abbrev cF:Stmt:=top 37
noncomputable abbrev jM:Stmt:=top 38
noncomputable abbrev jU:Stmt:=top 36
noncomputable abbrev dH:Stmt:=top 41
noncomputable abbrev cG:Stmt:=top 42
noncomputable abbrev cM:Stmt:=top 43
noncomputable abbrev ZD:Stmt:=top 44
noncomputable abbrev bj:Stmt:=top 45
noncomputable abbrev ZW:Stmt:=top 46
noncomputable abbrev iu:Stmt:=top 47
noncomputable abbrev jG:Stmt:=top 77
noncomputable abbrev gm:Stmt:=top 81
noncomputable abbrev d8:Stmt:=top 78
noncomputable abbrev dF:Stmt:=top 79
noncomputable abbrev dq:Stmt:=top 80
noncomputable abbrev cu:Stmt:=top 82
noncomputable abbrev jN:Stmt:=top 83
noncomputable abbrev cQ:Stmt:=top 84
noncomputable abbrev Tc:Stmt:=inClass (top 75) 0
noncomputable abbrev eU:Stmt:=inClass (top 75) 2
noncomputable abbrev iz:Stmt:=inClass (top 75) 5
noncomputable abbrev dX:Stmt:=inClass (top 75) 7
noncomputable abbrev jK:Stmt:=inClass (top 75) 8
noncomputable abbrev gG:Stmt:=inClass (top 75) 13
noncomputable abbrev gQ:Stmt:=inClass (top 75) 15
noncomputable abbrev dg:Stmt:=inClass (top 75) 3
noncomputable abbrev jC:Stmt:=inClass (top 75) 6
noncomputable abbrev eZ:Stmt:=inClass (top 75) 9
noncomputable abbrev il:Stmt:=inClass (top 75) 14
noncomputable abbrev gr:Stmt:=inClass (top 75) 16
noncomputable abbrev cN:Stmt:=inClass (top 75) 4
noncomputable abbrev Jq:Stmt:=top 85
structure Txt (K:PySem.W.Frag) (P:Params) (mg:Str->Option Value) (C cT cD cK cR cS cO aN aK aB aP aM:Addr):Prop where
 len:mg "len" = none
 isin:mg "isinstance" = none
 int:mg "int" = none
 bool:mg "bool" = none
 str:mg "str" = none
 list:mg "list" = none
 tuple:mg "tuple" = none
 all:mg "all" = none
 any:mg "any" = none
 sum:mg "sum" = none
 range:mg "range" = none
 zip:mg "zip" = none
 enumerate:mg "enumerate" = none
 max:mg "max" = none
 reversed:mg "reversed" = none
 letters:∃ t,mg "LETTERS" = some (.str letters t)
 mostL:∃ t,mg "MOST_LETTERS" = some (.int 8 t)
 mostR:∃ t,mg "MOST_ROWS" = some (.int 150 t)
 mostLn:∃ t,mg "MOST_LINES" = some (.int 4 t)
 below:∃ t,mg "MEMBERS_BELOW" = some (.int 1200 t)
 mN:mg "NAMED" = some (.ref aN)
 mK:mg "KNOBS" = some (.ref aK)
 mB:mg "BOUNDS" = some (.ref aB)
 mP:mg "PARTS" = some (.ref aP)
 mM:mg "MOST_OF" = some (.ref aM)
 tN:KTup K aN (named.map V.str)
 tK:KTup K aK [.str "stop",.str "coupler",.str "mute"]
 dB:KDict K P aB
 dP:KDict K P aP
 dM:KDict K P aM
 cl:Ru K C
 mC:mg "Organ" = some (.ref C)
 mostLd:∃ t,mg "MOST_LEADING" = some (.int 6 t)
 x4:j4 K mg cT cD cK cR cS cO
 n_row_list:Cz K C "row_list"
 n_board_list:Cz K C "board_list"
 n_rank_list:Cz K C "rank_list"
 n_knob_rows:Cz K C "knob_rows"
 n_board_numbers:Cz K C "board_numbers"
 n_rank_numbers:Cz K C "rank_numbers"
 n_knob_numbers:Cz K C "knob_numbers"
 n_key_places:Cz K C "key_places"
 n_pipe_places:Cz K C "pipe_places"
 n_knob_lines:Cz K C "knob_lines"
 n_step_sets:Cz K C "step_sets"
theorem byC {p:Prop} (h:¬¬p):p:=Classical.byContradiction h
set_option genInjectivity false in
set_option genSizeOf false in
set_option genSizeOfSpec false in
structure Ad where
 (fWh fMd fNm fRo fTo fWi fPa fHp fCl fIk fSb fWm fHr fIr fCk fNu fCa fPl fLi fMy fSt fHa fMe fSh fUn fLe fDc fHk fWa fCq fMu fUk fSk fNb fLl fBs fBa fSo fBb fLk fSf fSv fGs fPn fNd fWk fCe fLw fMi fRw fRf fLs fLb fAl fOi fOb fOc fOk fOo fBk fOp fOr fOq fOe fOs fOm fOz:Addr)
 (dWh dMd dNm dRo dTo dWi dPa dHp dCl dIk dSb dWm dHr dIr dCk dNu dCa dPl dLi dMy dSt dHa dMe dSh dUn dLe dDc dHk dWa dCq dMu dUk dSk dNb dLl dBs dBa dSo dBb dLk dSf dSv dGs dPn dNd dWk dCe dLw dMi dRw dRf dLs dLb dAl dOi dOb dOc dOk dOo dBk dOp dOr dOq dOe dOs dOm dOz:FuncData)
structure fY (K:PySem.W.Frag) (mg:Str->Option Value) (C:Addr) (aD:Ad):Prop where
 FWh:Cg K "is_whole" "is_whole" dN aD.fWh aD.dWh∧Binds K aD.dWh ["thing"] []∧mg "is_whole" = some (.ref aD.fWh)
 FMd:Cg K "is_made_of" "is_made_of" b_ aD.fMd aD.dMd∧Binds K aD.dMd ["text","signs","most"] []∧mg "is_made_of" = some (.ref aD.fMd)
 FNm:Cg K "is_name" "is_name" dw aD.fNm aD.dNm∧Binds K aD.dNm ["thing"] []∧mg "is_name" = some (.ref aD.fNm)
 FRo:Cg K "rows_of" "rows_of" cP aD.fRo aD.dRo∧Binds K aD.dRo ["rows","word"] []∧mg "rows_of" = some (.ref aD.fRo)
 FTo:Cg K "is_told" "is_told" cU aD.fTo aD.dTo∧Binds K aD.dTo ["rows","word","thing"] []∧mg "is_told" = some (.ref aD.fTo)
 FWi:Cg K "is_within" "is_within" iW aD.fWi aD.dWi∧Binds K aD.dWi ["thing","bounds"] []∧mg "is_within" = some (.ref aD.fWi)
 FPa:Cg K "is_part" "is_part" cX aD.fPa aD.dPa∧Binds K aD.dPa ["thing","part","ahead"] []∧mg "is_part" = some (.ref aD.fPa)
 FHp:Cg K "has_parts" "has_parts" cW aD.fHp aD.dHp∧Binds K aD.dHp ["row","ahead"] []∧mg "has_parts" = some (.ref aD.fHp)
 FCl:Cg K "count_of_last_lines" "count_of_last_lines" fc aD.fCl aD.dCl∧Binds K aD.dCl ["rows"] []∧mg "count_of_last_lines" = some (.ref aD.fCl)
 FIk:Cg K "is_key_of" "is_key_of" cI aD.fIk aD.dIk∧Binds K aD.dIk ["number","board","ahead"] []∧mg "is_key_of" = some (.ref aD.fIk)
 FSb:Cg K "stands_behind_stop" "stands_behind_stop" d7 aD.fSb aD.dSb∧Binds K aD.dSb ["line","ahead"] []∧mg "stands_behind_stop" = some (.ref aD.fSb)
 FWm:Cg K "is_well_made" "is_well_made" iw aD.fWm aD.dWm∧Binds K aD.dWm ["row","ahead"] []∧mg "is_well_made" = some (.ref aD.fWm)
 FHr:Cg K "has_room" "has_room" g_ aD.fHr aD.dHr∧Binds K aD.dHr ["word","ahead"] []∧mg "has_room" = some (.ref aD.fHr)
 FIr:Cg K "is_row" "is_row" jQ aD.fIr aD.dIr∧Binds K aD.dIr ["thing","ahead"] []∧mg "is_row" = some (.ref aD.fIr)
 FCk:Cg K "check_rows" "check_rows" fW aD.fCk aD.dCk∧Binds K aD.dCk ["rows"] []∧mg "check_rows" = some (.ref aD.fCk)
 FNu:Cg K "numbers_of" "numbers_of" jL aD.fNu aD.dNu∧Binds K aD.dNu ["names"] []∧mg "numbers_of" = some (.ref aD.fNu)
 FCa:Cg K "count_in_all" "count_in_all" bw aD.fCa aD.dCa∧Binds K aD.dCa ["things"] []∧mg "count_in_all" = some (.ref aD.fCa)
 FPl:Cg K "places_of" "places_of" dG aD.fPl aD.dPl∧Binds K aD.dPl ["things"] []∧mg "places_of" = some (.ref aD.fPl)
 FLi:Cg K "lines_by_knob" "lines_by_knob" jP aD.fLi aD.dLi∧Binds K aD.dLi ["rows","rank_numbers"] []∧mg "lines_by_knob" = some (.ref aD.fLi)
 FMy:Cg K "may_be_member" "may_be_member" eN aD.fMy aD.dMy∧Binds K aD.dMy ["thing"] []∧mg "may_be_member" = some (.ref aD.fMy)
 FSt:Cg K "set_of" "set_of" cH aD.fSt aD.dSt∧Binds K aD.dSt ["numbers"] []∧mg "set_of" = some (.ref aD.fSt)
 FHa:Cg K "has_member" "has_member" fU aD.fHa aD.dHa∧Binds K aD.dHa ["some","number"] []∧mg "has_member" = some (.ref aD.fHa)
 FMe:Cg K "members_of" "members_of" cY aD.fMe aD.dMe∧Binds K aD.dMe ["some"] []∧mg "members_of" = some (.ref aD.fMe)
 FSh:Cg K "shifted" "shifted" gY aD.fSh aD.dSh∧Binds K aD.dSh ["some","steps","count"] []∧mg "shifted" = some (.ref aD.fSh)
 FUn:Cg K "union_of" "union_of" d9 aD.fUn aD.dUn∧Binds K aD.dUn ["sets"] []∧mg "union_of" = some (.ref aD.fUn)
 FLe:Cg K "led_to" "led_to" iJ aD.fLe aD.dLe∧Binds K aD.dLe ["organ","knob","key"] []∧mg "led_to" = some (.ref aD.fLe)
 FDc:Cg K "drawn_of" "drawn_of" Yn aD.fDc aD.dDc∧Binds K aD.dDc ["organ","knobs","word"] []∧mg "drawn_of" = some (.ref aD.fDc)
 FHk:Cg K "held_keys" "held_keys" gO aD.fHk aD.dHk∧Binds K aD.dHk ["organ","held"] []∧mg "held_keys" = some (.ref aD.fHk)
 FWa:Cg K "coupled_ways" "coupled_ways" dJ aD.fWa aD.dWa∧Binds K aD.dWa ["organ","knobs","held"] []∧mg "coupled_ways" = some (.ref aD.fWa)
 FCq:Cg K "coupled_keys" "coupled_keys" gM aD.fCq aD.dCq∧Binds K aD.dCq ["organ","knobs","held"] []∧mg "coupled_keys" = some (.ref aD.fCq)
 FMu:Cg K "muted_boards" "muted_boards" b8 aD.fMu aD.dMu∧Binds K aD.dMu ["organ","knobs"] []∧mg "muted_boards" = some (.ref aD.fMu)
 FUk:Cg K "unmuted_keys" "unmuted_keys" bx aD.fUk aD.dUk∧Binds K aD.dUk ["organ","knobs","keys"] []∧mg "unmuted_keys" = some (.ref aD.fUk)
 FSk:Cg K "speaking_keys" "speaking_keys" jR aD.fSk aD.dSk∧Binds K aD.dSk ["organ","knobs","held"] []∧mg "speaking_keys" = some (.ref aD.fSk)
 FNb:Cg K "numbers_on_board" "numbers_on_board" jT aD.fNb aD.dNb∧Binds K aD.dNb ["organ","board","keys"] []∧mg "numbers_on_board" = some (.ref aD.fNb)
 FLl:Cg K "led_by_line" "led_by_line" gJ aD.fLl aD.dLl∧Binds K aD.dLl ["organ","line","numbers"] []∧mg "led_by_line" = some (.ref aD.fLl)
 FBs:Cg K "brought_by_stop" "brought_by_stop" cj aD.fBs aD.dBs∧Binds K aD.dBs ["organ","knob","keys"] []∧mg "brought_by_stop" = some (.ref aD.fBs)
 FBa:Cg K "brought_in_all" "brought_in_all" cF aD.fBa aD.dBa∧Binds K aD.dBa ["organ","knobs","keys"] []∧mg "brought_in_all" = some (.ref aD.fBa)
 FSo:Cg K "sounding_pipes" "sounding_pipes" jM aD.fSo aD.dSo∧Binds K aD.dSo ["organ","knobs","held"] []∧mg "sounding_pipes" = some (.ref aD.fSo)
 FBb:Cg K "brought_by" "brought_by" jU aD.fBb aD.dBb∧Binds K aD.dBb ["organ","knob","key"] []∧mg "brought_by" = some (.ref aD.fBb)
 FLk:Cg K "leading_knobs" "leading_knobs" dH aD.fLk aD.dLk∧Binds K aD.dLk ["organ"] []∧mg "leading_knobs" = some (.ref aD.fLk)
 FSf:Cg K "stops_of" "stops_of" cG aD.fSf aD.dSf∧Binds K aD.dSf ["organ"] []∧mg "stops_of" = some (.ref aD.fSf)
 FSv:Cg K "sets_of" "sets_of" cM aD.fSv aD.dSv∧Binds K aD.dSv ["knobs"] []∧mg "sets_of" = some (.ref aD.fSv)
 FGs:Cg K "good_stops" "good_stops" ZD aD.fGs aD.dGs∧Binds K aD.dGs ["organ","leading","held","wish"] []∧mg "good_stops" = some (.ref aD.fGs)
 FPn:Cg K "pipes_in_all" "pipes_in_all" bj aD.fPn aD.dPn∧Binds K aD.dPn ["brought"] []∧mg "pipes_in_all" = some (.ref aD.fPn)
 FNd:Cg K "needed_stops" "needed_stops" ZW aD.fNd aD.dNd∧Binds K aD.dNd ["brought"] []∧mg "needed_stops" = some (.ref aD.fNd)
 FWk:Cg K "wished_knobs" "wished_knobs" iu aD.fWk aD.dWk∧Binds K aD.dWk ["organ","held","wish"] []∧mg "wished_knobs" = some (.ref aD.fWk)
 FCe:Cg K "_law_cell_at" "_law_cell_at" jG aD.fCe aD.dCe∧Binds K aD.dCe ["_law_script","_law_k"] []∧mg "_law_cell_at" = some (.ref aD.fCe)
 FLw:Cg K "_law_whole" "_law_whole" gm aD.fLw aD.dLw∧Binds K aD.dLw ["_law_found"] []∧mg "_law_whole" = some (.ref aD.fLw)
 FMi:Cg K "_law_mix" "_law_mix" d8 aD.fMi aD.dMi∧Binds K aD.dMi ["_law_cell","_law_by","_law_many"] []∧mg "_law_mix" = some (.ref aD.fMi)
 FRw:Cg K "_law_rows" "_law_rows" dF aD.fRw aD.dRw∧Binds K aD.dRw ["_law_script"] []∧mg "_law_rows" = some (.ref aD.fRw)
 FRf:Cg K "_law_refused" "_law_refused" dq aD.fRf aD.dRf∧Binds K aD.dRf ["_law_organ","_law_held","_law_wish"] []∧mg "_law_refused" = some (.ref aD.fRf)
 FLs:Cg K "_law_sets" "_law_sets" cu aD.fLs aD.dLs∧Binds K aD.dLs ["_law_numbers"] []∧mg "_law_sets" = some (.ref aD.fLs)
 FLb:Cg K "_law_brought" "_law_brought" jN aD.fLb aD.dLb∧Binds K aD.dLb ["_law_organ","_law_knobs","_law_held"] []∧mg "_law_brought" = some (.ref aD.fLb)
 FAl:Cg K "_law_are_lacks" "_law_are_lacks" cQ aD.fAl aD.dAl∧Binds K aD.dAl ["_law_organ","_law_held","_law_found","_law_numbers","_law_wish"] []∧mg "_law_are_lacks" = some (.ref aD.fAl)
 FOi:Cg K "__init__" "Organ.__init__" Tc aD.fOi aD.dOi∧Binds K aD.dOi ["self","rows"] []∧Mk K C aD.fOi
 FOb:Cg K "boards" "Organ.boards" eU aD.fOb aD.dOb∧Binds K aD.dOb ["self"] []∧Meth K C "boards" aD.fOb
 FOc:Cg K "key_count" "Organ.key_count" iz aD.fOc aD.dOc∧Binds K aD.dOc ["self"] []∧Meth K C "key_count" aD.fOc
 FOk:Cg K "key" "Organ.key" dX aD.fOk aD.dOk∧Binds K aD.dOk ["self","board","number"] []∧Meth K C "key" aD.fOk
 FOo:Cg K "board_of" "Organ.board_of" jK aD.fOo aD.dOo∧Binds K aD.dOo ["self","key"] []∧Meth K C "board_of" aD.fOo
 FBk:Cg K "board_of_knob" "Organ.board_of_knob" gG aD.fBk aD.dBk∧Binds K aD.dBk ["self","knob"] []∧Meth K C "board_of_knob" aD.fBk
 FOp:Cg K "coupler" "Organ.coupler" gQ aD.fOp aD.dOp∧Binds K aD.dOp ["self","knob"] []∧Meth K C "coupler" aD.fOp
 FOr:Cg K "ranks" "Organ.ranks" dg aD.fOr aD.dOr∧Binds K aD.dOr ["self"] []∧Meth K C "ranks" aD.fOr
 FOq:Cg K "pipe_count" "Organ.pipe_count" jC aD.fOq aD.dOq∧Binds K aD.dOq ["self"] []∧Meth K C "pipe_count" aD.fOq
 FOe:Cg K "pipe" "Organ.pipe" eZ aD.fOe aD.dOe∧Binds K aD.dOe ["self","rank","number"] []∧Meth K C "pipe" aD.fOe
 FOs:Cg K "stop" "Organ.stop" il aD.fOs aD.dOs∧Binds K aD.dOs ["self","knob"] []∧Meth K C "stop" aD.fOs
 FOm:Cg K "mute" "Organ.mute" gr aD.fOm aD.dOm∧Binds K aD.dOm ["self","knob"] []∧Meth K C "mute" aD.fOm
 FOz:Cg K "knobs" "Organ.knobs" cN aD.fOz aD.dOz∧Binds K aD.dOz ["self"] []∧Meth K C "knobs" aD.fOz
section
variable {P:Program} {w:World} {K:PySem.W.Frag} {mg:Str->Option Value} {base:Heap} {C cT cD cK cR cS cO aN aK aB aP aM:Addr} {aD:Ad}
variable (N:fY K mg C aD) (T:Txt K w.params mg C cT cD cK cR cS cO aN aK aB aP aM)
noncomputable def QL:Sp:=fun vs H Q _=>∃ i:Int,vs=[.int i]/\Q (.bl true) H
theorem gP:Ar ["thing"] ["thing"] (Ac dN):=Bk
include N T in
theorem Vn:Ao P w K mg base BW 1 aD.fWh aD.dWh ["thing"] QL:=by
 refine N.FWh.1.ok gP (fun vs H Q E h=>?_) (fun cdv A outer s H vs Q E hr h=>?_)
 ·obtain ⟨i,rfl,_⟩:=h
  rfl
 ·obtain ⟨i,rfl,q⟩:=h
  refine ⟨_,(Ag (Av (DX (BL CN rfl T.isin PyProof.Rows.boot_isinstance (Aa (pv 0) (Aa (Cv (v:=.ty "int") rfl T.int PyProof.Rows.boot_int rfl) Ab))) (DN (NQ (BL CN rfl T.isin PyProof.Rows.boot_isinstance (Aa (pv 0) (Aa (Cv (v:=.ty "bool") rfl T.bool PyProof.Rows.boot_bool rfl) Ab)))))))),?_⟩
  refine ⟨_,rfl,_,"int",_,_,rfl,.int i,ty_int,_,rfl,Ed ?_⟩
  exact ⟨_,rfl,_,"bool",_,_,rfl,.int i,Vw,_,rfl,q⟩
noncomputable def ZP:Sp:=fun vs H Q _=>∃ z:Str,vs=[.str z,.str letters,.int 8]/\isNm z/\∀ H',Al H H'->Q (.bl true) H'
theorem gq:Ar ["text","signs","most"] ["text","signs","most"] (Ac b_):=Bk
include N T in
theorem Zi:Ao P w K mg base BW 1 aD.fMd aD.dMd ["text","signs","most"] ZP:=by
 refine N.FMd.1.ok gq (fun vs H Q E h=>?_) (fun cdv A outer s H vs Q E hr h=>?_)
 ·obtain ⟨z,rfl,_⟩:=h
  rfl
 ·obtain ⟨z,rfl,hz,q⟩:=h
  refine ⟨_,(Ag (Av (DX (HH FW FW Ae (BL KQ rfl T.len PySem.boot_len (Aa (pv 0) Ab)) (pv 2)) (DN (BL (Jj rfl) rfl T.all PyProof.Rows.boot_all (Aa (Bj rfl (BP (osc:=Ac b_) (N:=["text","signs","most"]) rfl rfl (by decide +kernel)) (Xl (pv 0)) (fun _ _ _ _=>Bu) (fun _ _ _ _=>(Du QZ (pv 0) (pv 2) rfl))) Ab)))))),?_⟩
  have hzl:z.length<sizeLine:=Ay (by have:=hz.2.1; omega)
  refine ⟨_,rfl,z,rfl,Nat.le_of_lt hzl,_,_,rfl,rfl,_,rfl,?_⟩
  refine Cp (fun h1=>?_) (fun h1=>absurd (decide_eq_true (by have:=hz.1; omega)) h1)
  refine ⟨_,rfl,_,_,rfl,rfl,_,rfl,?_⟩
  refine Cp (fun h2=>?_) (fun h2=>absurd (decide_eq_true (by have:=hz.2.1; omega)) h2)
  refine ⟨_,rfl,z,rfl,RN (fun _=>true) (fun c=>.bl (Yy letters c)) hzl (fun c hc H' hs R k=>k H' (Al.refl H')) (fun c hc _ H' hs R k=>⟨_,rfl,_,rfl,_,_,rfl,rfl,k H' (Al.refl H')⟩) (fun D H' hD hs hl=>?_)⟩
  refine ⟨D,z.cps.toList.map (Yy letters),rfl,.inl (.inl ?_),?_⟩
  ·rw [hl,List.filter_eq_self.mpr (fun _ _=>rfl),List.map_map]
   rfl
  ·have e:(z.cps.toList.map (Yy letters)).all id=true:=by
    rw [List.all_map,List.all_eq_true]
    intro c hc
    have:=hz.2.2 c hc
    show Yy letters c=true
    rw [VL c (by omega)]
    exact decide_eq_true this
   rw [e]
   exact q H' hs
noncomputable def W4:Sp:=fun vs H Q _=>∃ z:Str,vs=[.str z]/\isNm z/\∀ H',Al H H'->Q (.bl true) H'
theorem jH:Ar ["thing"] ["thing"] (Ac dw):=Bk
include N T in
theorem VV:Ao P w K mg base BW 2 aD.fNm aD.dNm ["thing"] W4:=by
 have GMd:Ao P w K mg base BW 1 aD.fMd aD.dMd ["text","signs","most"] ZP:=Zi N T
 refine N.FNm.1.ok jH (fun vs H Q E h=>?_) (fun cdv A outer s H vs Q E hr h=>?_)
 ·obtain ⟨z,rfl,_⟩:=h
  rfl
 ·obtain ⟨z,rfl,hz,q⟩:=h
  have hrMd:A_ 1 _:=hr.mono (by decide)
  obtain ⟨tLET,hLET⟩:=T.letters
  obtain ⟨tML,hML⟩:=T.mostL
  refine ⟨_,(Ag (Av (DX (BL CN rfl T.isin PyProof.Rows.boot_isinstance (Aa (pv 0) (Aa (Cv (v:=.ty "str") rfl T.str PyProof.Rows.boot_str rfl) Ab))) (DN (Ah GMd hrMd rfl N.FMd.2.2 N.FMd.1.kp N.FMd.2.1 .nil An (Aa (pv 0) (Aa (Bv (v:=.str letters) rfl hLET ⟨tLET,rfl⟩) (Aa (Bv (v:=.int 8) rfl hML ⟨tML,rfl⟩) Ab)))))))),?_⟩
  refine ⟨_,rfl,_,"str",_,_,rfl,.str z,OD,_,rfl,Ed ?_⟩
  exact ⟨_,rfl,z,rfl,hz,q⟩
noncomputable def QW:Sp:=fun vs H Q _=>∃ (p:Addr) (us:List V) (w:Str) (ρ:V->R),vs=[.ref p,.str w]/\H p=some (.lst us)/\Rows H ρ us/\us.length<=500/\∀ D H',H D=none->Al H H'->H' D=some (.lst (us.filter (pw ρ w)))->Q (.ref D) H'
theorem jJ:Ar ["rows","word"] ["rows","word"] (Ac cP):=Bk
include N T in
theorem MK:Ao P w K mg base BW 1 aD.fRo aD.dRo ["rows","word"] QW:=by
 refine N.FRo.1.ok jJ (fun vs H Q E h=>?_) (fun cdv A outer s H vs Q E hr h=>?_)
 ·obtain ⟨p,us,w,ρ,rfl,_⟩:=h
  rfl
 ·obtain ⟨p,us,w,ρ,rfl,hp,hR,hl,q⟩:=h
  refine ⟨_,(Ag (Av (Bj rfl (BP (osc:=Ac cP) (N:=["rows","word"]) rfl rfl (by decide +kernel)) (BV (pv 0)) (fun _ _ _ _=>(Eu (Ba Dh (Az (Am (K:=K) rfl) (pv 0) Ae (fun _ _=>rfl)) (pv 2) (Be _)))) (fun _ _ _ _=>(pv 0))))),?_⟩
  have hS:CZ K H p us:=.inl (.inl hp)
  refine ⟨_,rfl,p,rfl,⟨_,hS⟩,Bq (K:=K) (xs:=us) (pw ρ w) id hS (Ay (by omega)) (fun x hx H' hs R k=>?_) (fun x hx _ H' hs R k=>⟨_,rfl,k H' (Al.refl H')⟩) (fun D H' hD hs hl'=>?_)⟩
  ·obtain ⟨T0,rfl,hT⟩:=(hR x hx).mono hs
   exact ⟨_,rfl,T0,_,_,_,rfl,rfl,.inl (.inl hT),Ai (j:=0) rfl,_,rfl,rfl,_,rfl,k H' (Al.refl H')⟩
  ·rw [List.map_id] at hl'
   exact q D H' hD hs hl'
noncomputable def Z_:Sp:=fun vs H Q _=>∃ (p:Addr) (us:List V) (w t:Str) (ρ:V->R),vs=[.ref p,.str w,.str t]/\H p=some (.lst us)/\Rows H ρ us/\us.length<=500/\isNm t/\∀ H',Al H H'->Q (.bl (Ux ρ us w t)) H'
theorem e_:Ar ["rows","word","thing"] ["rows","word","thing"] (Ac cU):=Bk
include N T in
theorem bM:Ao P w K mg base BW 3 aD.fTo aD.dTo ["rows","word","thing"] Z_:=by
 have GNm:Ao P w K mg base BW 2 aD.fNm aD.dNm ["thing"] W4:=VV N T
 have GRo:Ao P w K mg base BW 1 aD.fRo aD.dRo ["rows","word"] QW:=MK N T
 refine N.FTo.1.ok e_ (fun vs H Q E h=>?_) (fun cdv A outer s H vs Q E hr h=>?_)
 ·obtain ⟨p,us,w,t,ρ,rfl,_⟩:=h
  rfl
 ·obtain ⟨p,us,w,t,ρ,rfl,hp,hR,hl,ht,q⟩:=h
  have hrNm:A_ 2 _:=hr.mono (by decide)
  have hrRo:A_ 1 _:=hr.mono (by decide)
  refine ⟨_,(Ag (Av (DX (Ah GNm hrNm rfl N.FNm.2.2 N.FNm.1.kp N.FNm.2.1 .nil An (Aa (pv 2) Ab)) (DN (BL (Ja rfl) rfl T.any PyProof.Rows.boot_any (Aa (Bj rfl (BP (osc:=Ac cU) (N:=["rows","word","thing"]) rfl rfl (by decide +kernel)) (BV (Ah GRo hrRo rfl N.FRo.2.2 N.FRo.1.kp N.FRo.2.1 .nil An (Aa (pv 0) (Aa (pv 1) Ab)))) (fun _ _ _ _=>Bu) (fun _ _ _ _=>(Du Dh (Az (Am (K:=K) rfl) (pv 0) Ae (fun _ _=>rfl)) (pv 3) (Be _)))) Ab)))))),?_⟩
  refine ⟨_,rfl,t,rfl,ht,fun H1 s1=>⟨_,rfl,Ed ?_⟩⟩
  refine ⟨_,rfl,_,rfl,p,us,w,ρ,rfl,s1 _ _ hp,hR.mono s1,hl,fun D H2 hD s2 hl2=>?_⟩
  have hS:CZ K H2 D (us.filter (pw ρ w)):=.inl (.inl hl2)
  refine ⟨D,rfl,⟨_,hS⟩,Bq (K:=K) (xs:=us.filter (pw ρ w)) (fun _=>true) (fun v=>.bl (pn ρ t v)) hS (Ay (by have:=G3 (pw ρ w) us; omega)) (fun x hx H' hs R k=>k H' (Al.refl H')) (fun x hx _ H' hs R k=>?_) (fun D3 H3 hD3 s3 hl3=>?_)⟩
  ·obtain ⟨T0,rfl,hT⟩:=(((hR.mono s1).mono s2).mono hs) x (List.mem_filter.mp hx).1
   exact ⟨_,rfl,T0,_,_,_,rfl,rfl,.inl (.inl hT),Ai (j:=1) rfl,_,rfl,rfl,k H' (Al.refl H')⟩
  ·refine ⟨D3,(us.filter (pw ρ w)).map (pn ρ t),rfl,.inl (.inl ?_),?_⟩
   ·rw [hl3,List.filter_eq_self.mpr (fun _ _=>rfl),List.map_map]
    rfl
   ·have e:((us.filter (pw ρ w)).map (pn ρ t)).any id=Ux ρ us w t:=by
     rw [List.any_map]
     rfl
    rw [e]
    exact q H3 ((s1.trans s2).trans s3)
noncomputable def aV (K:PySem.W.Frag):Sp:=fun vs H Q _=>∃ (i lo hi:Int) (b:Addr),vs=[.int i,.ref b]/\KTup K b [.int lo,.int hi]/\lo<=i/\i<=hi/\Q (.bl true) H
theorem iZ:Ar ["thing","bounds"] ["thing","bounds"] (Ac iW):=Bk
include N T in
theorem Zm:Ao P w K mg base BW 2 aD.fWi aD.dWi ["thing","bounds"] (aV K):=by
 have GWh:Ao P w K mg base BW 1 aD.fWh aD.dWh ["thing"] QL:=Vn N T
 refine N.FWi.1.ok iZ (fun vs H Q E h=>?_) (fun cdv A outer s H vs Q E hr h=>?_)
 ·obtain ⟨i,lo,hi,b,rfl,_⟩:=h
  rfl
 ·obtain ⟨i,lo,hi,b,rfl,hb,h1,h2,q⟩:=h
  have hrWh:A_ 1 _:=hr.mono (by decide)
  refine ⟨_,(Ag (Av (DX (Ah GWh hrWh rfl N.FWh.2.2 N.FWh.1.kp N.FWh.2.1 .nil An (Aa (pv 0) Ab)) (DN (HH FW FW (Az (Am (K:=K) rfl) (pv 1) Ae (fun _ _=>rfl)) (pv 0) (Az (Am (K:=K) rfl) (pv 1) Ae (fun _ _=>rfl))))))),?_⟩
  refine ⟨_,rfl,i,rfl,_,rfl,Ed ?_⟩
  refine ⟨_,rfl,b,_,_,_,rfl,rfl,hb.sq _,Ai (j:=0) rfl,_,rfl,_,_,rfl,rfl,_,rfl,?_⟩
  refine Cp (fun _=>?_) (fun z=>absurd (decide_eq_true h1) z)
  refine ⟨_,rfl,b,_,_,_,rfl,rfl,hb.sq _,Ai (j:=1) rfl,_,_,rfl,rfl,?_⟩
  show Q (.bl (decide (i<=hi))) H
  rw [decide_eq_true h2]
  exact q
noncomputable def Zx (K:PySem.W.Frag) (aB:Addr):Sp:=fun vs H Q _=>∃ (x:V) (part:Str) (p:Addr) (us:List V) (ρ:V->R),vs=[x,.str part,.ref p]/\H p=some (.lst us)/\Rows H ρ us/\us.length<=500/\G5 K aB ρ us x part/\∀ H',Al H H'->Q (.bl true) H'
theorem jD:Ar ["thing","part","ahead"] ["thing","part","ahead"] (Ac cX):=Bk
include N T in
theorem bQ:Ao P w K mg base BW 4 aD.fPa aD.dPa ["thing","part","ahead"] (Zx K aB):=by
 have GNm:Ao P w K mg base BW 2 aD.fNm aD.dNm ["thing"] W4:=VV N T
 have GTo:Ao P w K mg base BW 3 aD.fTo aD.dTo ["rows","word","thing"] Z_:=bM N T
 have GWi:Ao P w K mg base BW 2 aD.fWi aD.dWi ["thing","bounds"] (aV K):=Zm N T
 refine N.FPa.1.ok jD (fun vs H Q E h=>?_) (fun cdv A outer s H vs Q E hr h=>?_)
 ·obtain ⟨x,part,p,us,ρ,rfl,_⟩:=h
  rfl
 ·obtain ⟨x,part,p,us,ρ,rfl,hp,hR,hl,hok,q⟩:=h
  have hrNm:A_ 2 _:=hr.mono (by decide)
  have hrTo:A_ 3 _:=hr.mono (by decide)
  have hrWi:A_ 2 _:=hr.mono (by decide)
  refine ⟨_,(Af (Bw (Rj (Sw (pv 1) (Bv (v:=.ref aB) rfl T.mB rfl))) (Ag (Av (Ah GWi hrWi rfl N.FWi.2.2 N.FWi.1.kp N.FWi.2.1 .nil An (Aa (pv 0) (Aa (KZ (Bv (v:=.ref aB) rfl T.mB rfl) (pv 1) (fun _ _=>rfl)) Ab))))) Bb)
   (Af (Bw (Ba Dh (pv 1) BZ (Be _)) (Ag (Av (DX (Ah GNm hrNm rfl N.FNm.2.2 N.FNm.1.kp N.FNm.2.1 .nil An (Aa (pv 0) Ab)) (DN (NQ (BL (Ja rfl) rfl T.any PyProof.Rows.boot_any (Aa (Bj rfl (BP (osc:=Ac cX) (N:=["thing","part","ahead"]) rfl rfl (by decide +kernel)) (Ww (Bv (v:=.ref aN) rfl T.mN rfl)) (fun _ _ _ _=>Bu) (fun _ _ _ _=>(Ah GTo hrTo rfl N.FTo.2.2 N.FTo.1.kp N.FTo.2.1 .nil An (Aa (pv 3) (Aa (pv 0) (Aa (pv 1) Ab)))))) Ab))))))) Bb)
   (Ag (Av (Ah GTo hrTo rfl N.FTo.2.2 N.FTo.1.kp N.FTo.2.1 .nil An (Aa (pv 2) (Aa (pv 1) (Aa (pv 0) Ab)))))))),?_⟩
  rcases hok with ⟨i,lo,hi,b,rfl,hn,hb,h1,h2⟩ | ⟨hn,rfl,t,rfl,ht,hno⟩ | ⟨hn,hne,t,rfl,ht,hyes⟩
  ·refine ⟨_,rfl,aB,part,_,rfl,rfl,T.dB,hn,_,rfl,Ed ?_⟩
   exact ⟨_,rfl,_,rfl,aB,part,.ref b,_,rfl,rfl,T.dB,hn,rfl,i,lo,hi,b,rfl,hb,h1,h2,q H (Al.refl H)⟩
  ·refine ⟨_,rfl,aB,_,_,rfl,rfl,T.dB,hn,_,rfl,Ce ?_⟩
   refine ⟨_,rfl,rfl,_,rfl,Ed ?_⟩
   refine ⟨_,rfl,t,rfl,ht,fun H1 s1=>⟨_,rfl,Ed ?_⟩⟩
   have hS:G8 K H1 aN (named.map V.str):=T.tN.sq _
   refine ⟨aN,rfl,⟨_,hS⟩,HY (xs:=named.map V.str) (fun _=>true) (fun _=>.bl false) (by show 5<sizeLine; decide) (fun i H2 x hs hx=>⟨_,x,hs.tup hS,hx⟩) (fun i H2 y H3 hs _ hy=>⟨hy.1,hy.2 _ (hs.tup hS)⟩) (fun H2 hs=>⟨_,hs.tup hS,Nat.le_refl _⟩)
    (fun x hx H' hs R k=>k H' (Al.refl H')) (fun x hx _ H' hs R k=>?_) (fun D H2 hD s2 hl2=>?_)⟩
   ·obtain ⟨w0,hw0,rfl⟩:=List.mem_map.mp hx
    refine ⟨_,rfl,_,rfl,_,rfl,p,us,w0,t,ρ,rfl,hs _ _ (s1 _ _ hp),(hR.mono s1).mono hs,hl,ht,fun H'' s''=>?_⟩
    rw [hno w0 hw0]
    exact k H'' s''
   ·refine ⟨D,[false,false,false,false,false],rfl,.inl (.inl hl2),_,rfl,?_⟩
    exact q H2 (s1.trans s2)
  ·refine ⟨_,rfl,aB,_,_,rfl,rfl,T.dB,hn,_,rfl,Ce ?_⟩
   refine ⟨_,rfl,rfl,_,rfl,?_⟩
   refine Cp (fun z=>absurd (V.str.inj (of_decide_eq_true z)) hne) (fun _=>?_)
   refine ⟨_,rfl,_,rfl,_,rfl,p,us,part,t,ρ,rfl,hp,hR,hl,ht,fun H' hs=>?_⟩
   rw [hyes]
   exact q H' hs
noncomputable def Zb (K:PySem.W.Frag) (aB aP:Addr):Sp:=fun vs H Q _=>∃ (r p:Addr) (w:Str) (xs:List V) (us:List V) (ρ:V->R) (ap:Addr) (ps:List Str),vs=[.ref r,.ref p]/\H r=some (.tup (.str w::xs))/\H p=some (.lst us)/\Rows H ρ us/\us.length<=500 /\
 PySem.W.nsIn K aP w=some (some (.ref ap))/\KTup K ap (ps.map V.str)/\xs.length=ps.length/\ps.length<=10/\(∀ (i:Nat) x y,xs[i]? = some x->ps[i]? = some y->G5 K aB ρ us x y)/\∀ H',Al H H'->Q (.bl true) H'
theorem Zf:Ar ["row","ahead","parts"] ["row","ahead"] (Ac cW):=Bk
include N T in
theorem aL:Ao P w K mg base BW 5 aD.fHp aD.dHp ["row","ahead"] (Zb K aB aP):=by
 have GPa:Ao P w K mg base BW 4 aD.fPa aD.dPa ["thing","part","ahead"] (Zx K aB):=bQ N T
 refine N.FHp.1.ok Zf (fun vs H Q E h=>?_) (fun cdv A outer s H vs Q E hr h=>?_)
 ·obtain ⟨r,p,w,xs,us,ρ,ap,ps,rfl,_⟩:=h
  rfl
 ·obtain ⟨r,p,w,xs,us,ρ,ap,ps,rfl,hr0,hp,hR,hl,hn,hap,hlen,hps,hok,q⟩:=h
  have hrPa:A_ 4 _:=hr.mono (by decide)
  refine ⟨_,(Af (BX (i:=2) Zf.nd rfl (Or.inl rfl) (KZ (Bv (v:=.ref aP) rfl T.mP rfl) (Az (Am (K:=K) rfl) (pv 0) Ae (fun _ _=>rfl)) (fun _ _=>rfl)))
   (Af (Bw (Ba Im (BL Bh rfl T.len PySem.boot_len (Aa (pv 0) Ab)) (Bc Dz Ae (BL Bh rfl T.len PySem.boot_len (Aa (pv 2) Ab))) (Be _)) (Ag (Av HJ)) Bb)
   (Ag (Av (BL (Jj rfl) rfl T.all PyProof.Rows.boot_all (Aa (Iz rfl (Em (osc:=Ac cW) (N:=["row","ahead","parts"]) rfl rfl (by decide +kernel)) (Ul rfl T.zip (Aa (GQ WQ (pv 0) (Gq Ae) JG) (Aa (pv 2) Ab))) (fun _ _ _ _=>Bu) (fun _ _ _ _=>(Ah GPa hrPa rfl N.FPa.2.2 N.FPa.1.kp N.FPa.2.1 .nil An (Aa (pv 0) (Aa (pv 1) (Aa (pv 3) Ab)))))) Ab)))))),?_⟩
  refine ⟨_,rfl,r,_,_,_,rfl,rfl,.inl (.inl hr0),Ai (j:=0) rfl,aP,w,.ref ap,_,rfl,rfl,T.dP,hn,rfl,?_⟩
  refine ⟨_,rfl,r,_,rfl,.inr (.inl (.inl hr0)),_,rfl,ap,_,rfl,.inr (hap.sq _),_,_,rfl,rfl,rfl,_,rfl,?_⟩
  refine Cp (fun z=>?_) (fun _=>?_)
  ·exfalso
   have e:(((V.str w::xs).length:Nat):Int)=1+(((ps.map V.str).length:Nat):Int):=by
    rw [List.length_cons,List.length_map,hlen]
    omega
   rw [e] at z
   simp at z
  ·have hcut:Et (V.str w::xs) (some 1) none=xs:=by
    unfold Et
    have e1:HT.Dj (V.str w::xs).length 0 (some ((1:Nat):Int))=1:=by rw [HT.HX,List.length_cons]; omega
    have e1':HT.Dj (V.str w::xs).length 0 (some (1:Int))=1:=e1
    rw [e1',HT.Qv,List.drop_succ_cons,List.drop_zero]
    exact List.take_of_length_le (by rw [List.length_cons]; omega)
   refine ⟨_,rfl,_,rfl,r,_,rfl,.inl (.inl hr0),(fun z=>?_),fun p2 hp2=>?_⟩
   ·have e1:HT.Dj (V.str w::xs).length 0 (some ((1:Nat):Int))=1:=by rw [HT.HX,List.length_cons]; omega
    have:=z.1.symm.trans e1
    cases this
   rw [hcut]
   obtain ⟨H2,eqH,s2,a2⟩:=Hq (o:=HO.tup xs) hp2
   rw [eqH]
   have h1:G8 K H2 p2 xs:=.inl (.inl a2)
   refine ⟨_,rfl,p2,ap,rfl,⟨_,h1⟩,⟨_,hap.sq _⟩,Sd (K:=K) (xs:=xs) (ys:=ps.map V.str) (fun _ _=>.bl true) h1 (hap.sq _) (by rw [List.length_map]; exact hlen) (Ay (by omega)) (fun i x y hx hy H3 s3 R k=>?_) (fun D H3 hD s3 hl3=>?_)⟩
   ·rw [List.getElem?_map] at hy
    obtain ⟨part,hpart,rfl⟩:=Option.map_eq_some_iff.mp hy
    exact ⟨_,rfl,_,rfl,_,rfl,x,part,p,us,ρ,rfl,s3 _ _ (s2 _ _ hp),(hR.mono s2).mono s3,hl,hok i x part hx hpart,fun H4 s4=>k H4 s4⟩
   ·have e:List.zipWith (fun _ _=>V.bl true) xs (ps.map V.str)=(List.replicate xs.length true).map V.bl:=by
     rw [List.map_replicate]
     refine List.ext_getElem? fun i=>?_
     rw [List.getElem?_zipWith]
     by_cases hi:i<xs.length
     ·rw [List.getElem?_eq_getElem hi,List.getElem?_eq_getElem (by rw [List.length_map]; omega),List.getElem?_eq_getElem (by rw [List.length_replicate]; exact hi)]
      simp
     ·rw [List.getElem?_eq_none (by omega),List.getElem?_eq_none (l:=List.replicate _ _) (by rw [List.length_replicate]; omega)]
    rw [e] at hl3
    refine ⟨D,List.replicate xs.length true,rfl,.inl (.inl hl3),?_⟩
    have e2:(List.replicate xs.length true).all id=true:=by simp
    rw [e2]
    exact q H3 (s2.trans s3)
noncomputable def X5:Sp:=fun vs H Q _=>∃ (p:Addr) (us:List V) (ρ:V->R) (c:Nat),vs=[.ref p]/\H p=some (.lst us)/\Rows H ρ us/\us.length<=500/\Vo ρ us c/\Q (.int (c:Nat)) H
theorem UV:Ar ["rows","count","row"] ["rows"] (Ac fc):=Bk
include N T in
theorem Yd:Ao P w K mg base BW 1 aD.fCl aD.dCl ["rows"] X5:=by
 refine N.FCl.1.ok UV (fun vs H Q E h=>?_) (fun cdv A outer s H vs Q E hr h=>?_)
 ·obtain ⟨p,us,ρ,c,rfl,_⟩:=h
  rfl
 ·obtain ⟨p,us,ρ,c,rfl,hp,hR,hl,hc,q⟩:=h
  refine ⟨_,(Af (BX (i:=1) UV.nd rfl (Or.inl rfl) Ae)
   (Af (DQ PassesOwn.never rfl (Wo rfl T.reversed (Aa (pv 0) Ab)) (Bo (i:=2) UV.nd rfl (Or.inl rfl)) (Af (Bw (Ba Im (Az (Am (K:=K) rfl) (pv 2) Ae (fun _ _=>rfl)) BZ (Be _)) (Ag Sg) Bb)
   (Ag (BX (i:=1) UV.nd rfl (Or.inl rfl) (Bc Dz (pv 1) Ae)))))
   (Ag (Av (pv 1))))),?_⟩
  have hS:CZ K H p us:=.inl (.inl hp)
  refine ⟨_,rfl,p,us,rfl,hS,U7 (K:=K) (a:=p) (xs:=us) (fun i σ H4=>H4=H/\i<=c/\∃ v2,σ=[some (.ref p),some (.int (i:Nat)),v2]) ⟨rfl,Nat.zero_le _,_,rfl⟩ (fun i σ H4 _ h=>by rw [h.1]; exact hS) ?_ ?_⟩
  ·rintro i x σ H4 hi hx ⟨rfl,hic,v2,rfl⟩
   obtain ⟨r,rfl,hr0⟩:=hR x (List.mem_of_getElem? hx)
   refine ⟨_,rfl,r,_,_,_,rfl,rfl,.inl (.inl hr0),Ai (j:=0) rfl,rfl,_,rfl,?_⟩
   by_cases e:(ρ (.ref r)).w = "line"
   ·have hne:i ≠ c:=fun z=>by
     obtain ⟨v,hv,hno⟩:=hc.no
     rw [← z,hx] at hv
     cases hv
     exact hno e
    refine Vz (congrArg V.str e) ?_
    exact ⟨_,rfl,_,_,rfl,rfl,rfl,by omega,_,rfl⟩
   ·have hic':i=c:=by
     refine Classical.byContradiction fun z=>?_
     obtain ⟨v,hv,hyes⟩:=hc.all i (by omega)
     rw [hx] at hv
     cases hv
     exact e hyes
    subst hic'
    rw [decide_eq_false fun z=>e (V.str.inj z)]
    refine Ed ?_
    exact ⟨_,rfl,q⟩
  ·rintro σ H4 ⟨rfl,hic,v2,rfl⟩
   have:=hc.lt
   omega
noncomputable def Yt:Sp:=fun vs H Q _=>∃ (n:Int) (bd:Str) (p:Addr) (us:List V) (ρ:V->R),vs=[.int n,.str bd,.ref p]/\H p=some (.lst us)/\Rows H ρ us/\us.length<=500/\Ek ρ us/\∀ H',Al H H'->Q (.bl (keyOf ρ us bd n)) H'
theorem eY:Ar ["number","board","ahead"] ["number","board","ahead"] (Ac cI):=Bk
include N T in
theorem Zy:Ao P w K mg base BW 2 aD.fIk aD.dIk ["number","board","ahead"] Yt:=by
 have GRo:Ao P w K mg base BW 1 aD.fRo aD.dRo ["rows","word"] QW:=MK N T
 refine N.FIk.1.ok eY (fun vs H Q E h=>?_) (fun cdv A outer s H vs Q E hr h=>?_)
 ·obtain ⟨n,bd,p,us,ρ,rfl,_⟩:=h
  rfl
 ·obtain ⟨n,bd,p,us,ρ,rfl,hp,hR,hl,hB,q⟩:=h
  have hrRo:A_ 1 _:=hr.mono (by decide)
  refine ⟨_,(Ag (Av (BL (Ja rfl) rfl T.any PyProof.Rows.boot_any (Aa (Bj rfl (BP (osc:=Ac cI) (N:=["number","board","ahead"]) rfl rfl (by decide +kernel)) (BV (Ah GRo hrRo rfl N.FRo.2.2 N.FRo.1.kp N.FRo.2.1 .nil An (Aa (pv 2) (Aa BZ Ab)))) (fun _ _ _ _=>Bu) (fun _ _ _ _=>(DX (Du Dh (Az (Am (K:=K) rfl) (pv 0) Ae (fun _ _=>rfl)) (pv 2) (Be _)) (DN (Du Gw (pv 1) (Az (Am (K:=K) rfl) (pv 0) Ae (fun _ _=>rfl)) (Be _)))))) Ab)))),?_⟩
  refine ⟨_,rfl,p,us,"board",ρ,rfl,hp,hR,hl,fun D H2 hD s2 hl2=>?_⟩
  have hS:CZ K H2 D (us.filter (pw ρ "board")):=.inl (.inl hl2)
  refine ⟨D,rfl,⟨_,hS⟩,Bq (K:=K) (xs:=us.filter (pw ρ "board")) (fun _=>true) (fun v=>.bl (pn ρ bd v && decide (n<Wv (ρ v)))) hS (Ay (by have:=G3 (pw ρ "board") us; omega)) (fun x hx H' hs R k=>k H' (Al.refl H')) (fun x hx _ H' hs R k=>?_) (fun D3 H3 hD3 s3 hl3=>?_)⟩
  ·have hx':=List.mem_filter.mp hx
   obtain ⟨m,em⟩:=hB x hx'.1 (V.str.inj (of_decide_eq_true hx'.2))
   have hz:Wv (ρ x)=m:=by unfold Wv; rw [em]
   have hT:=((hR.mono s2).mono hs) x hx'.1
   have kk:=k H' (Al.refl H')
   rw [hz] at kk
   obtain ⟨T0,rfl,hT⟩:=hT
   have kk:R (.bl (decide (V.str (ρ (.ref T0)).nm=V.str bd) && decide (n<m))) H':=kk
   have hT':H' T0=some (.tup (.str (ρ (.ref T0)).w :: .str (ρ (.ref T0)).nm::(ρ (.ref T0)).rest)):=hT
   rw [em] at hT'
   refine ⟨_,rfl,T0,_,_,_,rfl,rfl,.inl (.inl hT'),Ai (j:=1) rfl,_,rfl,rfl,_,rfl,?_⟩
   refine Cp (fun g=>?_) (fun g=>?_)
   ·rw [g,Bool.true_and] at kk
    exact ⟨_,rfl,_,rfl,T0,_,_,_,rfl,rfl,.inl (.inl hT'),Ai (j:=2) rfl,_,_,rfl,rfl,kk⟩
   ·rw [(Bool.not_eq_true _).mp g,Bool.false_and] at kk
    exact kk
  ·refine ⟨D3,(us.filter (pw ρ "board")).map (fun v=>pn ρ bd v && decide (n<Wv (ρ v))),rfl,.inl (.inl ?_),?_⟩
   ·rw [hl3,List.filter_eq_self.mpr (fun _ _=>rfl),List.map_map]
    rfl
   ·have e:((us.filter (pw ρ "board")).map (fun v=>pn ρ bd v && decide (n<Wv (ρ v)))).any id=keyOf ρ us bd n:=by
     rw [List.any_map]
     rfl
    rw [e]
    exact q H3 (s2.trans s3)
noncomputable def YH:Sp:=fun vs H Q _=>∃ (r p:Addr) (ro:R) (us:List V) (ρ:V->R),vs=[.ref r,.ref p]/\H r=some (.tup ro.v)/\H p=some (.lst us)/\Rows H ρ us/\us.length<=500/\M4 ρ us ro/\Ek ρ us/\∀ H',Al H H'->Q (.bl true) H'
theorem WD:Ar ["line","ahead","count","row"] ["line","ahead"] (Ac d7):=Bk
include N T in
theorem Z2:Ao P w K mg base BW 3 aD.fSb aD.dSb ["line","ahead"] YH:=by
 have GCl:Ao P w K mg base BW 1 aD.fCl aD.dCl ["rows"] X5:=Yd N T
 have GIk:Ao P w K mg base BW 2 aD.fIk aD.dIk ["number","board","ahead"] Yt:=Zy N T
 refine N.FSb.1.ok WD (fun vs H Q E h=>?_) (fun cdv A outer s H vs Q E hr h=>?_)
 ·obtain ⟨r,p,ro,us,ρ,rfl,_⟩:=h
  rfl
 ·obtain ⟨r,p,ro,us,ρ,rfl,hr0,hp,hR,hl,hL,hB,q⟩:=h
  have hrCl:A_ 1 _:=hr.mono (by decide)
  have hrIk:A_ 2 _:=hr.mono (by decide)
  obtain ⟨tML4,hML4⟩:=T.mostLn
  refine ⟨_,(Af (BX (i:=2) WD.nd rfl (Or.inl rfl) (Ah GCl hrCl rfl N.FCl.2.2 N.FCl.1.kp N.FCl.2.1 .nil An (Aa (pv 1) Ab)))
   (Af (BX (i:=3) WD.nd rfl (Or.inl rfl) (Az Dd (pv 1) (Bc Hw (Bc Hw (BL Bh rfl T.len PySem.boot_len (Aa (pv 1) Ab)) Ae) (pv 2)) (fun _ _=>rfl)))
   (Af (Bw (PW.pt (D_ (Ba Im (Az (Am (K:=K) rfl) (pv 3) Ae (fun _ _=>rfl)) BZ (Be _)) (Ey (Ba Zk (pv 2) (Bv (v:=.int 4) rfl hML4 ⟨tML4,rfl⟩) (Be _))))) (Ag (Av HJ)) Bb)
   (Ag (Av (DX (Du FW (Az (Am (K:=K) rfl) (pv 0) Ae (fun _ _=>rfl)) (Az (Am (K:=K) rfl) (pv 0) Ae (fun _ _=>rfl)) (Be _)) (DN (Ah GIk hrIk rfl N.FIk.2.2 N.FIk.1.kp N.FIk.2.1 .nil An (Aa (Az (Am (K:=K) rfl) (pv 0) Ae (fun _ _=>rfl)) (Aa (Az (Am (K:=K) rfl) (pv 3) Ae (fun _ _=>rfl)) (Aa (pv 1) Ab))))))))))),?_⟩
  obtain ⟨cnt,v,sh,lo,hi,bd,rs,er,hc,h4,hv,hw,hrest,hle,hk⟩:=hL.ex
  have hr1:H r=some (.tup [.str ro.w,.str ro.nm,.int sh,.int lo,.int hi]):=by rw [hr0,← er]
  obtain ⟨r2,rfl,hr2⟩:=hR v (List.mem_of_getElem? hv)
  have hr2':H r2=some (.tup (.str (ρ (.ref r2)).w :: .str (ρ (.ref r2)).nm :: .str bd::rs)):=by rw [hr2,← hrest]
  have hlt:=hc.lt
  have ei:((us.length:Nat):Int) - 1 - ((cnt:Nat):Int)=((us.length - 1 - cnt:Nat):Int):=by omega
  have hS:CZ K H p us:=.inl (.inl hp)
  refine ⟨_,rfl,p,us,ρ,cnt,rfl,hp,hR,hl,hc,?_⟩
  refine ⟨_,rfl,_,rfl,p,us,rfl,.inl hS,_,_,rfl,rfl,_,rfl,_,_,rfl,rfl,p,us,_,_,rfl,rfl,hS,(by rw [ei]; exact Ai hv),?_⟩
  refine ⟨_,rfl,r2,_,_,_,rfl,rfl,.inl (.inl hr2'),Ai (j:=0) rfl,rfl,_,rfl,Vz (congrArg V.str hw) ?_⟩
  refine ⟨_,rfl,_,_,rfl,rfl,_,rfl,?_⟩
  refine Cp (fun z=>?_) (fun _=>?_)
  ·have:=of_decide_eq_true z
   omega
  refine ⟨_,rfl,r,_,_,_,rfl,rfl,.inl (.inl hr1),Ai (j:=3) rfl,_,rfl,r,_,_,_,rfl,rfl,.inl (.inl hr1),Ai (j:=4) rfl,_,_,rfl,rfl,_,rfl,?_⟩
  refine Cp (fun _=>?_) (fun z=>absurd (decide_eq_true hle) z)
  refine ⟨_,rfl,r,_,_,_,rfl,rfl,.inl (.inl hr1),Ai (j:=4) rfl,_,rfl,r2,_,_,_,rfl,rfl,.inl (.inl hr2'),Ai (j:=2) rfl,_,rfl,hi,bd,p,us,ρ,rfl,hp,hR,hl,hB,fun H' s'=>?_⟩
  rw [hk]
  exact q H' s'
noncomputable def Xk (K:PySem.W.Frag) (aB aP aM:Addr):Sp:=fun vs H Q _=>∃ (r p:Addr) (ro:R) (us:List V) (ρ:V->R),vs=[.ref r,.ref p]/\H r=some (.tup ro.v)/\H p=some (.lst us)/\Rows H ρ us/\us.length<=500/\Fi K aB aP aM ρ us ro/\∀ H',Al H H'->Q (.bl true) H'
theorem jV:Ar ["row","ahead"] ["row","ahead"] (Ac iw):=Bk
include N T in
theorem Yk:Ao P w K mg base BW 6 aD.fWm aD.dWm ["row","ahead"] (Xk K aB aP aM):=by
 have GHp:Ao P w K mg base BW 5 aD.fHp aD.dHp ["row","ahead"] (Zb K aB aP):=aL N T
 have GSb:Ao P w K mg base BW 3 aD.fSb aD.dSb ["line","ahead"] YH:=Z2 N T
 refine N.FWm.1.ok jV (fun vs H Q E h=>?_) (fun cdv A outer s H vs Q E hr h=>?_)
 ·obtain ⟨r,p,ro,us,ρ,rfl,_⟩:=h
  rfl
 ·obtain ⟨r,p,ro,us,ρ,rfl,hr0,hp,hR,hl,ok,q⟩:=h
  have hrHp:A_ 5 _:=hr.mono (by decide)
  have hrSb:A_ 3 _:=hr.mono (by decide)
  refine ⟨_,(Af (Bw (Ba Dh (Az (Am (K:=K) rfl) (pv 0) Ae (fun _ _=>rfl)) BZ (Be _)) (Ag GJ) Bb)
   (Af (Bw (Ba Dh (Az (Am (K:=K) rfl) (pv 0) Ae (fun _ _=>rfl)) BZ (Be _)) (Ag (Av (DX (Ah GHp hrHp rfl N.FHp.2.2 N.FHp.1.kp N.FHp.2.1 .nil An (Aa (pv 0) (Aa (pv 1) Ab))) (DN (Ah GSb hrSb rfl N.FSb.2.2 N.FSb.1.kp N.FSb.2.1 .nil An (Aa (pv 0) (Aa (pv 1) Ab))))))) Bb)
   (Ag (Av (DX (Rq (Sw (Az (Am (K:=K) rfl) (pv 0) Ae (fun _ _=>rfl)) (Bv (v:=.ref aP) rfl T.mP rfl))) (DN (Ah GHp hrHp rfl N.FHp.2.2 N.FHp.1.kp N.FHp.2.1 .nil An (Aa (pv 0) (Aa (pv 1) Ab))))))))),?_⟩
  obtain ⟨ap,ps,hn,hap,hlen,hps,hok⟩:=ok.parts
  refine ⟨_,rfl,r,_,_,_,rfl,rfl,.inl (.inl hr0),Ai (j:=0) rfl,rfl,_,rfl,?_⟩
  refine Cp (fun z=>absurd (V.str.inj (of_decide_eq_true z)) ok.ns) (fun _=>?_)
  refine ⟨_,rfl,r,_,_,_,rfl,rfl,.inl (.inl hr0),Ai (j:=0) rfl,rfl,_,rfl,?_⟩
  refine Cp (fun z=>?_) (fun _=>?_)
  ·have hline:=ok.line (V.str.inj (of_decide_eq_true z))
   refine ⟨_,rfl,_,rfl,r,p,ro.w,_,us,ρ,ap,ps,rfl,hr0,hp,hR,hl,hn,hap,hlen,hps,hok,fun H1 s1=>⟨_,rfl,Ed ?_⟩⟩
   exact ⟨_,rfl,_,rfl,r,p,ro,us,ρ,rfl,s1 _ _ hr0,s1 _ _ hp,hR.mono s1,hl,hline,ok.Xv,fun H2 s2=>q H2 (s1.trans s2)⟩
  refine ⟨_,rfl,r,_,_,_,rfl,rfl,.inl (.inl hr0),Ai (j:=0) rfl,aP,_,_,rfl,rfl,T.dP,hn,_,rfl,Ed ?_⟩
  exact ⟨_,rfl,_,rfl,r,p,ro.w,_,us,ρ,ap,ps,rfl,hr0,hp,hR,hl,hn,hap,hlen,hps,hok,q⟩
noncomputable def bF (K:PySem.W.Frag) (aM:Addr):Sp:=fun vs H Q _=>∃ (p:Addr) (w:Str) (us:List V) (ρ:V->R),vs=[.str w,.ref p]/\H p=some (.lst us)/\Rows H ρ us/\us.length<=500/\(PySem.W.nsIn K aM w=some none \/ ∃ (m:Int) (t:Tok),PySem.W.nsIn K aM w=some (some (.int m t))/\(((us.filter (pw ρ w)).length:Nat):Int)<m)/\∀ H',Al H H'->Q (.bl true) H'
theorem ik:Ar ["word","ahead"] ["word","ahead"] (Ac g_):=Bk
include N T in
theorem Y8:Ao P w K mg base BW 2 aD.fHr aD.dHr ["word","ahead"] (bF K aM):=by
 have GRo:Ao P w K mg base BW 1 aD.fRo aD.dRo ["rows","word"] QW:=MK N T
 refine N.FHr.1.ok ik (fun vs H Q E h=>?_) (fun cdv A outer s H vs Q E hr h=>?_)
 ·obtain ⟨p,w,us,ρ,rfl,_⟩:=h
  rfl
 ·obtain ⟨p,w,us,ρ,rfl,hp,hR,hl,hroom,q⟩:=h
  have hrRo:A_ 1 _:=hr.mono (by decide)
  refine ⟨_,(Ag (Av (X_ (Rq (Qe (pv 0) (Bv (v:=.ref aM) rfl T.mM rfl))) (DN (Du Gw (BL Bh rfl T.len PySem.boot_len (Aa (Ah GRo hrRo rfl N.FRo.2.2 N.FRo.1.kp N.FRo.2.1 .nil An (Aa (pv 1) (Aa (pv 0) Ab))) Ab)) (KZ (Bv (v:=.ref aM) rfl T.mM rfl) (pv 0) (fun _ _=>rfl)) (Be _)))))),?_⟩
  rcases hroom with hn | ⟨m,t,hn,hm⟩
  ·refine ⟨_,rfl,aM,w,_,rfl,rfl,T.dM,hn,_,rfl,Ed ?_⟩
   exact q H (Al.refl H)
  refine ⟨_,rfl,aM,w,_,rfl,rfl,T.dM,hn,_,rfl,Ce ?_⟩
  refine ⟨_,rfl,_,rfl,p,us,w,ρ,rfl,hp,hR,hl,fun D H2 hD s2 hl2=>?_⟩
  refine ⟨D,_,rfl,.inl (.inl (.inl hl2)),_,rfl,aM,w,.int m,_,rfl,rfl,T.dM,hn,⟨t,rfl⟩,_,_,rfl,rfl,?_⟩
  show Q (.bl (decide ((((us.filter (pw ρ w)).length:Nat):Int)<m))) H2
  rw [decide_eq_true hm]
  exact q H2 s2
noncomputable def YC (K:PySem.W.Frag) (aB aP aM:Addr):Sp:=Xk K aB aP aM
theorem gZ:Ar ["thing","ahead"] ["thing","ahead"] (Ac jQ):=Bk
include N T in
theorem Yp:Ao P w K mg base BW 7 aD.fIr aD.dIr ["thing","ahead"] (YC K aB aP aM):=by
 have GWm:Ao P w K mg base BW 6 aD.fWm aD.dWm ["row","ahead"] (Xk K aB aP aM):=Yk N T
 have GHr:Ao P w K mg base BW 2 aD.fHr aD.dHr ["word","ahead"] (bF K aM):=Y8 N T
 refine N.FIr.1.ok gZ (fun vs H Q E h=>?_) (fun cdv A outer s H vs Q E hr h=>?_)
 ·obtain ⟨r,p,ro,us,ρ,rfl,_⟩:=h
  rfl
 ·obtain ⟨r,p,ro,us,ρ,rfl,hr0,hp,hR,hl,ok,q⟩:=h
  have hrWm:A_ 6 _:=hr.mono (by decide)
  have hrHr:A_ 2 _:=hr.mono (by decide)
  refine ⟨_,(Af (Bw (PW.pt (D_ (CP (CQ (BL CN rfl T.isin PyProof.Rows.boot_isinstance (Aa (pv 0) (Aa (Cv (v:=.ty "tuple") rfl T.tuple PyProof.Rows.boot_tuple rfl) Ab))))) (D_ (Ba Dh (BL Bh rfl T.len PySem.boot_len (Aa (pv 0) Ab)) Ae (Be _)) (Ey (CP (CQ (BL CN rfl T.isin PyProof.Rows.boot_isinstance (Aa (Az (Am (K:=K) rfl) (pv 0) Ae (fun _ _=>rfl)) (Aa (Cv (v:=.ty "str") rfl T.str PyProof.Rows.boot_str rfl) Ab))))))))) (Ag (Av HJ)) Bb)
   (Ag (Av (DX (Ah GWm hrWm rfl N.FWm.2.2 N.FWm.1.kp N.FWm.2.1 .nil An (Aa (pv 0) (Aa (pv 1) Ab))) (DN (Ah GHr hrHr rfl N.FHr.2.2 N.FHr.1.kp N.FHr.2.1 .nil An (Aa (Az (Am (K:=K) rfl) (pv 0) Ae (fun _ _=>rfl)) (Aa (pv 1) Ab)))))))),?_⟩
  have hroom:PySem.W.nsIn K aM ro.w=some none \/ ∃ (m:Int) (t:Tok),PySem.W.nsIn K aM ro.w=some (some (.int m t))/\(((us.filter (pw ρ ro.w)).length:Nat):Int)<m:=ok.room.elim (fun z=>.inl z.2) .inr
  refine ⟨_,rfl,_,"tuple",_,_,rfl,.tup hr0,Ov,_,rfl,Ce ?_⟩
  refine ⟨_,rfl,r,_,rfl,.inr (.inl (.inl hr0)),rfl,_,rfl,?_⟩
  refine Cp (fun z=>?_) (fun _=>?_)
  ·exfalso
   have:=of_decide_eq_true z
   have:=V.int.inj this
   simp at this
   omega
  refine ⟨_,rfl,r,_,_,_,rfl,rfl,.inl (.inl hr0),Ai (j:=0) rfl,_,"str",_,_,rfl,.str _,OD,_,rfl,Ce ?_⟩
  refine ⟨_,rfl,_,rfl,r,p,ro,us,ρ,rfl,hr0,hp,hR,hl,ok,fun H1 s1=>⟨_,rfl,Ed ?_⟩⟩
  exact ⟨_,rfl,r,_,_,_,rfl,rfl,.inl (.inl (s1 _ _ hr0)),Ai (j:=0) rfl,_,rfl,p,ro.w,us,ρ,rfl,s1 _ _ hp,hR.mono s1,hl,hroom,fun H2 s2=>q H2 (s1.trans s2)⟩
noncomputable def X3 (K:PySem.W.Frag) (aB aP aM:Addr):Sp:=fun vs H Q _=>∃ (p:Addr) (us:List V) (ρ:V->R),vs=[.ref p]/\H p=some (.lst us)/\Rows H ρ us/\1<=us.length/\us.length<=150/\(∀ (i:Nat) v,us[i]? = some v->Fi K aB aP aM ρ (us.take i) (ρ v))/\(us.filter (pw ρ "board")).isEmpty=false/\∀ H',Al H H'->Q .non H'
theorem W_:Ar ["rows","at","row"] ["rows"] (Ac fW):=Bk
include N T in
theorem Yb:Ao P w K mg base BW 8 aD.fCk aD.dCk ["rows"] (X3 K aB aP aM):=by
 have GIr:Ao P w K mg base BW 7 aD.fIr aD.dIr ["thing","ahead"] (YC K aB aP aM):=Yp N T
 have GRo:Ao P w K mg base BW 1 aD.fRo aD.dRo ["rows","word"] QW:=MK N T
 refine N.FCk.1.ok W_ (fun vs H Q E h=>?_) (fun cdv A outer s H vs Q E hr h=>?_)
 ·obtain ⟨p,us,ρ,rfl,_⟩:=h
  rfl
 ·obtain ⟨p,us,ρ,rfl,hp,hR,h1,h2,hok,hb,q⟩:=h
  have hrIr:A_ 7 _:=hr.mono (by decide)
  have hrRo:A_ 1 _:=hr.mono (by decide)
  obtain ⟨tMR,hMR⟩:=T.mostR
  refine ⟨_,(Af (Bw (PW.pt (D_ (CP (CQ (BL CN rfl T.isin PyProof.Rows.boot_isinstance (Aa (pv 0) (Aa (Cv (v:=.ty "list") rfl T.list PyProof.Rows.boot_list rfl) Ab))))) (Ey (CP (F_ FW FW Ae (BL Bh rfl T.len PySem.boot_len (Aa (pv 0) Ab)) (Bv (v:=.int 150) rfl hMR ⟨tMR,rfl⟩)))))) (Ag GJ) Bb)
   (Af (DQ PassesOwn.never rfl (Ec rfl T.enumerate (Aa (pv 0) Ab)) (IK rfl (Cr (Bo (i:=1) W_.nd rfl (Or.inl rfl)) (Cr (Bo (i:=2) W_.nd rfl (Or.inl rfl)) Gu))) (Ag (Bw (CP (CQ (Ah GIr hrIr rfl N.FIr.2.2 N.FIr.1.kp N.FIr.2.1 .nil An (Aa (pv 2) (Aa (GQ JK (pv 0) JG (Gq (pv 1))) Ab))))) (Ag GJ) Bb)))
   (Ag (Bw (CP (Jg (Ah GRo hrRo rfl N.FRo.2.2 N.FRo.1.kp N.FRo.2.1 .nil An (Aa (pv 0) (Aa BZ Ab))) (fun _=>rfl))) (Ag GJ) Bb)))),?_⟩
  have hS:CZ K H p us:=.inl (.inl hp)
  refine ⟨_,rfl,_,"list",_,_,rfl,.lst hp,Sx,_,rfl,Ce ?_⟩
  refine ⟨_,rfl,p,_,rfl,.inl hS,_,_,rfl,rfl,_,rfl,?_⟩
  refine Cp (fun _=>?_) (fun z=>absurd (decide_eq_true (by omega)) z)
  refine ⟨_,_,rfl,rfl,_,rfl,?_⟩
  have e150:decide ((us.length:Int)<=150)=true:=decide_eq_true (by omega)
  rw [e150]
  refine Ce ?_
  refine ⟨_,rfl,p,rfl,⟨_,hS⟩,GP (K:=K) (a:=p) (xs:=us) (fun i σ H4=>Al H H4/\∃ v1 v2,σ=[some (.ref p),v1,v2]) ⟨Al.refl H,_,_,rfl⟩ (fun i σ H4 _ h=>h.1.seq hS) ?_ ?_⟩
  ·rintro i x σ H4 T0 hx ⟨s4,v1,v2,rfl⟩ hT
   have s5:=BK (o:=HO.tup [.int (i:Int),x]) hT
   refine ⟨T0,_,rfl,.inl (.inl Ak),rfl,_,_,rfl,_,_,rfl,rfl,?_⟩
   generalize upd H4 T0 (HO.tup [.int (i:Int),x])=H5 at s5 ⊢
   have s05:=s4.trans s5
   have hi:i<us.length:=(List.getElem?_eq_some_iff.mp hx).1
   obtain ⟨r,rfl,hr0⟩:=(hR.mono s05) x (List.mem_of_getElem? hx)
   refine ⟨_,rfl,_,rfl,_,rfl,_,rfl,p,_,rfl,s05.seq hS,fun p6 hp6=>?_⟩
   have s6:=BK (o:=HO.lst (Et us none (some (i:Int)))) hp6
   have a6:upd H5 p6 (HO.lst (Et us none (some (i:Int)))) p6=_:=Ak
   generalize upd H5 p6 (HO.lst (Et us none (some (i:Int))))=H6 at s6 a6 ⊢
   rw [JT us i (by omega)] at a6
   have s06:=s05.trans s6
   refine ⟨r,p6,ρ (.ref r),us.take i,ρ,rfl,s6 _ _ hr0,a6,(hR.mono s06).sub fun v hv=>List.mem_of_mem_take hv,by rw [List.length_take]; omega,hok i _ hx,fun H7 s7=>⟨_,rfl,Ce ?_⟩⟩
   exact ⟨s06.trans s7,_,_,rfl⟩
  ·rintro σ H4 ⟨s4,v1,v2,rfl⟩
   refine ⟨_,rfl,p,us,"board",ρ,rfl,s4 _ _ hp,hR.mono s4,by omega,fun D H5 hD s5 hl5=>?_⟩
   refine ⟨_,.inl ⟨_,.inl (.inl hl5),rfl⟩,?_⟩
   rw [hb]
   exact Ce (q H5 (s4.trans s5))
noncomputable def Zv:Sp:=fun vs H Q _=>∃ (p:Addr) (ts:List Str),vs=[.ref p]/\H p=some (.lst (ts.map V.str))/\ts.length<=300/\ts.Nodup/\∀ D (kvs:List (Key × V)) H',H D=none->Al H H'->H' D=some (.dK kvs)->(∀ (i:Nat) t,ts[i]? = some t->Ci kvs (Sum.inr t)=some (.int (i:Nat)))->Q (.ref D) H'
theorem Ti:Ar ["names","numbers","number","name"] ["names"] (Ac jL):=Bk
include N T in
theorem YQ:Ao P w K mg base BW 1 aD.fNu aD.dNu ["names"] Zv:=by
 refine N.FNu.1.ok Ti (fun vs H Q E h=>?_) (fun cdv A outer s H vs Q E hr h=>?_)
 ·obtain ⟨p,ts,rfl,_⟩:=h
  rfl
 ·obtain ⟨p,ts,rfl,hp,hl,nd,q⟩:=h
  have hu:=Jh hr
  refine ⟨_,(Af (BX (i:=1) Ti.nd rfl (Or.inl rfl) K5)
   (Af (DQ PassesOwn.never rfl (Ec rfl T.enumerate (Aa (pv 0) Ab)) (IK rfl (Cr (Bo (i:=2) Ti.nd rfl (Or.inl rfl)) (Cr (Bo (i:=3) Ti.nd rfl (Or.inl rfl)) Gu))) (Ag (Nr hu (pv 1) (pv 3) (pv 2) rfl)))
   (Ag (Av (pv 1))))),?_⟩
  intro D hD
  have s0:=BK (o:=HO.dK []) hD
  have hS:CZ K H p (ts.map V.str):=.inl (.inl hp)
  refine ⟨_,rfl,p,rfl,⟨_,s0.seq hS⟩,GP (K:=K) (a:=p) (xs:=ts.map V.str) (fun i σ H4=>Al H H4/\∃ (kvs:List (Key × V)),H4 D=some (.dK kvs)/\kvs.length<=i/\(∀ (j:Nat) t,j<i->ts[j]? = some t->Ci kvs (Sum.inr t)=some (.int (j:Nat)))/\∃ v2 v3,σ=[some (.ref p),some (.ref D),v2,v3])
   ⟨s0,[],Ak,Nat.le_refl _,fun j t hj=>absurd hj (Nat.not_lt_zero _),_,_,rfl⟩ (fun i σ H4 _ h=>h.1.seq hS) ?_ ?_⟩
  ·rintro i x σ H4 T0 hx ⟨s4,kvs,hd,hk,hv,v2,v3,rfl⟩ hT
   rw [List.getElem?_map] at hx
   obtain ⟨t,ht,rfl⟩:=Option.map_eq_some_iff.mp hx
   have hi:i<ts.length:=(List.getElem?_eq_some_iff.mp ht).1
   have s5:=BK (o:=HO.tup [.int (i:Int),.str t]) hT
   refine ⟨T0,_,rfl,.inl (.inl Ak),rfl,_,_,rfl,_,_,rfl,rfl,?_⟩
   generalize upd H4 T0 (HO.tup [.int (i:Int),.str t])=H5 at s5 ⊢
   refine ⟨_,rfl,_,rfl,_,rfl,D,_,rfl,QF.k (k:=Sum.inr t) (s5 _ _ hd) (Ay (by omega)),?_⟩
   refine ⟨fun b u e=>?_,putK kvs (Sum.inr t) (.int (i:Int)),Ak,Nat.le_trans (Gf _ _ _) (by omega),fun j t' hj ht'=>?_,_,_,rfl⟩
   ·rw [Ax (Aw e hD)]
    exact s5 _ _ (s4 _ _ e)
   ·rw [RL]
    by_cases e:t'=t
    ·subst e
     have:j=i:=by
      obtain ⟨h1,e1⟩:=List.getElem?_eq_some_iff.mp ht'
      obtain ⟨h2,e2⟩:=List.getElem?_eq_some_iff.mp ht
      exact (List.getElem_inj nd).mp (e1.trans e2.symm)
     subst this
     rw [if_pos rfl]
    ·rw [if_neg fun z=>e (Sum.inr.inj z)]
     refine hv j t' ?_ ht'
     rcases Nat.lt_succ_iff_lt_or_eq.mp hj with z | z
     ·exact z
     ·subst z
      rw [ht] at ht'
      exact absurd (Option.some.inj ht').symm e
  ·rintro σ H4 ⟨s4,kvs,hd,hk,hv,v2,v3,rfl⟩
   refine ⟨_,rfl,q D kvs H4 hD s4 hd fun i t ht=>hv i t ?_ ht⟩
   rw [List.length_map]
   exact (List.getElem?_eq_some_iff.mp ht).1
noncomputable def V6:Sp:=fun vs H Q _=>∃ (p:Addr) (as:List Th) (us:List V),vs=[.ref p]/\H p=some (.lst us)/\Paired (fun (a:Th) y=>TupAt H (tV a) y) as us/\as.length<=500/\(∀ a∈as,a.2.1<=100)/\∀ H',Al H H'->Q (.int ((as.map fun a=>a.2.1).sum:Nat)) H'
theorem Nz:∀ l:List Nat,(l.map fun n:Nat=>(n:Int)).sum=((l.sum:Nat):Int)
 | []=>rfl
 | n::l=>by
  rw [List.map_cons,List.sum_cons,List.sum_cons,Nz l]
  omega
theorem fH:Ar ["things"] ["things"] (Ac bw):=Bk
include N T in
theorem Vg:Ao P w K mg base BW 1 aD.fCa aD.dCa ["things"] V6:=by
 refine N.FCa.1.ok fH (fun vs H Q E h=>?_) (fun cdv A outer s H vs Q E hr h=>?_)
 ·obtain ⟨p,as,us,rfl,_⟩:=h
  rfl
 ·obtain ⟨p,as,us,rfl,hp,hb,hl,hz,q⟩:=h
  refine ⟨_,(Ag (Av (BL (TV rfl) rfl T.sum PyProof.Rows.boot_sum (Aa (Bj rfl (BP (osc:=Ac bw) (N:=["things"]) rfl rfl (by decide +kernel)) (BV (pv 0)) (fun _ _ _ _=>Bu) (fun _ _ _ _=>(Az (Am (K:=K) rfl) (pv 0) Ae (fun _ _=>rfl)))) Ab)))),?_⟩
  have hS:CZ K H p us:=.inl (.inl hp)
  have hul:=hb.length
  refine ⟨_,rfl,p,rfl,⟨_,hS⟩,Bq (K:=K) (xs:=us) (fun _=>true) (Fg H 1) hS (Ay (by omega)) (fun x hx H' hs R k=>k H' (Al.refl H')) (fun x hx _ H' hs R k=>?_) (fun D H' hD hs hl'=>?_)⟩
  ·obtain ⟨b,_,hx'⟩:=Br hb hx
   have e:=Fe hx' 1
   obtain ⟨T0,rfl,hT⟩:=hx'.mono hs
   refine ⟨_,rfl,T0,_,_,_,rfl,rfl,.inl (.inl hT),Ai (j:=1) rfl,?_⟩
   have:=k H' (Al.refl H')
   rw [e] at this
   exact this
  ·rw [List.filter_eq_self.mpr (fun _ _=>rfl),Iu 1 hb] at hl'
   have e:(as.map fun a=>(tV a).getD 1 V.non)=((as.map fun a=>a.2.1).map fun n:Nat=>(n:Int)).map V.int:=by
    rw [List.map_map,List.map_map]
    rfl
   rw [e] at hl'
   refine ⟨D,_,rfl,.inl (.inl hl'),fun n hn=>?_,by simp; omega,?_⟩
   ·obtain ⟨m,hm,rfl⟩:=List.mem_map.mp hn
    obtain ⟨b,hb',rfl⟩:=List.mem_map.mp hm
    have:=hz b hb'
    omega
   ·rw [Nz]
    exact q H' hs
theorem aU {n:Nat} (h:n<=3000):n<sizeLine:=Nat.lt_of_le_of_lt h (by decide)
noncomputable def Zq:Sp:=fun vs H Q _=>∃ (p:Addr) (as:List Th) (us:List V),vs=[.ref p]/\H p=some (.lst us)/\Paired (fun (a:Th) y=>TupAt H (tV a) y) as us/\as.length<=12/\(∀ a∈as,a.2.1<=97)/\∀ D ys H',H D=none->Al H H'->H' D=some (.lst ys)->Paired (fun q y=>TupAt H' (qV q) y) (Ea (as.map tN)) ys->Q (.ref D) H'
theorem Tv:Ar ["things","places","number","thing"] ["things"] (Ac dG):=Bk
include N T in
theorem Ym:Ao P w K mg base BW 1 aD.fPl aD.dPl ["things"] Zq:=by
 refine N.FPl.1.ok Tv (fun vs H Q E h=>?_) (fun cdv A outer s H vs Q E hr h=>?_)
 ·obtain ⟨p,as,us,rfl,_⟩:=h
  rfl
 ·obtain ⟨p,as,us,rfl,hp,hb,hl,hz,q⟩:=h
  refine ⟨_,(Af (BX (i:=1) Tv.nd rfl (Or.inl rfl) (Dr Ab))
   (Af (DQ PassesOwn.never rfl (Ec rfl T.enumerate (Aa (pv 0) Ab)) (IK rfl (Cr (Bo (i:=2) Tv.nd rfl (Or.inr rfl)) (Cr (Bo (i:=3) Tv.nd rfl (Or.inl rfl)) Gu))) (Ag (Es (Il PySem.F.plainAttrs_list PySem.F.slot_list_extend PySem.F.type_list_extend Qg (pv 1) (Aa (Bj rfl (BP (osc:=Ac dG) (N:=["things","places","number","thing"]) rfl rfl (by decide +kernel)) (Ia rfl T.range (Aa (Az (Am (K:=K) rfl) (pv 3) Ae (fun _ _=>rfl)) Ab)) (fun _ _ _ _=>Bu) (fun _ _ _ _=>(Cq (Aa (pv 3) (Aa (pv 0) Ab))))) Ab)))))
   (Ag (Av (pv 1))))),?_⟩
  refine ⟨C_ (by simp),fun D hD=>?_⟩
  have s0:=BK (o:=HO.lst []) hD
  have hS:CZ K H p us:=.inl (.inl hp)
  have hul:=hb.length
  refine ⟨_,rfl,p,rfl,⟨_,s0.seq hS⟩,GP (K:=K) (a:=p) (xs:=us) (fun i σ H4=>Al H H4/\∃ ys,H4 D=some (.lst ys)/\Paired (fun q y=>TupAt H4 (qV q) y) (Ea ((as.map tN).take i)) ys/\∃ v2 v3,σ=[some (.ref p),some (.ref D),v2,v3])
   ⟨s0,[],Ak,.nil,_,_,rfl⟩ (fun i σ H4 _ h=>h.1.seq hS) ?_ ?_⟩
  ·rintro i x σ H4 T0 hx ⟨s4,ys,hd,hpr,v2,v3,rfl⟩ hT
   obtain ⟨b,hbi,hxb⟩:=Ma hb hx
   have hi:i<as.length:=(List.getElem?_eq_some_iff.mp hbi).1
   have hb97:=hz b (List.mem_of_getElem? hbi)
   have hbi':(as.map tN)[i]? = some (tN b):=by rw [List.getElem?_map,hbi]; rfl
   have s5:=BK (o:=HO.tup [.int (i:Int),x]) hT
   refine ⟨T0,_,rfl,.inl (.inl Ak),rfl,_,_,rfl,_,_,rfl,rfl,?_⟩
   generalize upd H4 T0 (HO.tup [.int (i:Int),x])=H5 at s5 ⊢
   obtain ⟨r,rfl,hr0⟩:=hxb.mono (s4.trans s5)
   have p5:=Aj s5 hpr
   have d5:=s5 _ _ hd
   refine ⟨_,rfl,.inl ⟨rfl,_,.inl (.inl d5)⟩,_,rfl,r,_,_,_,rfl,rfl,.inl (.inl hr0),Ai (j:=1) rfl,_,rfl,by omega,by omega,?_⟩
   rw [Int.toNat_natCast]
   refine Pz (n:=b.2.1) (fun e=>qV (i,e)) (Ay (by omega)) (fun e he H6 s6 R k=>?_) (fun D6 H6 zs hD6 s6 hl6 hz6=>?_)
   ·refine ⟨_,rfl,_,rfl,by show 2<=sizeLine; decide,fun T6 hT6=>?_⟩
    exact k _ _ (BK hT6) ⟨T6,rfl,Ak⟩
   ·have ly:=(Aj s6 p5).length
    have lz:=hz6.length
    have lp:=KH ((as.map tN).take i) 97 fun b hb=>by
     obtain ⟨a,ha,rfl⟩:=List.mem_map.mp (List.mem_of_mem_take hb)
     exact hz a ha
    rw [List.length_take,List.length_map] at lp
    rw [List.length_range] at lz
    have:min i as.length * 97<=12 * 97:=Nat.mul_le_mul_right _ (by omega)
    refine ⟨D,D6,ys,zs,rfl,rfl,s6 _ _ d5,hl6,Nat.le_of_lt (aU (by omega)),?_⟩
    refine ⟨fun b u e=>?_,ys++zs,Ak,?_,_,_,rfl⟩
    ·rw [Ax (Aw e hD)]
     exact s6 _ _ (s5 _ _ (s4 _ _ e))
    ·rw [Hm hbi']
     exact Fl (Cm (Aj s6 p5) (s6 _ _ d5)) (Bt (F:=fun q y=>TupAt _ (qV q) y) (fun e=>(i,e)) (Cm hz6 (s6 _ _ d5)))
  ·rintro σ H4 ⟨s4,ys,hd,hpr,v2,v3,rfl⟩
   rw [← hul,List.take_of_length_le (by rw [List.length_map]; exact Nat.le_refl _)] at hpr
   exact ⟨_,rfl,q D ys H4 hD s4 hd hpr⟩
theorem Uq {α:Type} (l:List α) (x:α):Td (l++[x]) (-1)=some x:=by
 unfold Td Wq
 rw [if_neg (by decide),if_pos (by rw [List.length_append,List.length_singleton]; omega)]
 show (l++[x])[(-1+(((l++[x]).length:Nat):Int)).toNat]? = some x
 have e:(-1+(((l++[x]).length:Nat):Int)).toNat=l.length:=by
  rw [List.length_append,List.length_singleton]
  omega
 rw [e,List.getElem?_append_right (Nat.le_refl _),Nat.sub_self]
 rfl
theorem Jd {H:Hp} {l:List Ln} {v:V} {A:Addr} {xs ys:List V} (h:Ge H l v) (hA:H A=some (.lst xs)) (hv:v ≠ .ref A):Ge (upd H A (.lst ys)) l v:=by
 obtain ⟨B,ts,rfl,h1,h2⟩:=h
 have:B ≠ A:=fun z=>hv (by rw [z])
 exact ⟨B,ts,rfl,by rw [Ax this]; exact h1,Cm h2 hA⟩
theorem GX {α β:Type} {F G:α->β->Prop}:∀ {l:List α} {vs:List β},Paired F l vs->(∀ a b,b∈vs->F a b->G a b)->Paired G l vs
 | [],_,h,_=>by cases h; exact .nil
 | a::l,_,h,k=>by
  cases h with
  | cons x y=>exact .cons (k _ _ (List.mem_cons_self ..) x) (GX y fun a b hb=>k a b (List.mem_cons_of_mem _ hb))
theorem Hl {α β:Type} {F:α->β->Prop}:∀ {l:List α} {z:α} {vs:List β},Paired F (l++[z]) vs->∃ us u,vs=us++[u]/\Paired F l us/\F z u
 | [],z,_,h=>by
  cases h with
  | cons x y=>cases y; exact ⟨[],_,rfl,.nil,x⟩
 | a::l,z,_,h=>by
  cases h with
  | cons x y =>
   obtain ⟨us,u,rfl,h1,h2⟩:=Hl y
   exact ⟨_::us,u,rfl,.cons x h1,h2⟩
theorem DK {α:Type} {l:List α} (h:l ≠ []):∃ a z,l=a++[z]:=⟨l.dropLast,l.getLast h,(List.dropLast_concat_getLast h).symm⟩
theorem Lj {rk:List (Str × Nat × Int)}:∀ {rs:List R},(∃ r∈rs,Gy r.w=true)->linesOf rk rs ≠ []:=by
 have key:∀ (n:Nat) (rs:List R),rs.length=n->(∃ r∈rs,Gy r.w=true)->linesOf rk rs ≠ []:=by
  intro n
  induction n with
  | zero =>
   rintro rs hl ⟨r,hr,_⟩
   cases rs with
   | nil=>cases hr
   | cons a b=>cases hl
  | succ n ih =>
   rintro rs hl ⟨r,hr,hk⟩
   obtain ⟨a,z,rfl⟩:=DK (l:=rs) (by intro e; rw [e] at hl; cases hl)
   rw [CG]
   rw [List.length_append,List.length_singleton] at hl
   unfold Ew
   by_cases hz:Gy z.w=true
   ·rw [if_pos hz]
    simp
   ·rw [if_neg hz]
    have hr':r∈a:=by
     rcases List.mem_append.mp hr with h | h
     ·exact h
     ·rw [List.mem_singleton.mp h] at hk
      exact absurd hk hz
    have ih':=ih a (by omega) ⟨r,hr',hk⟩
    split
    ·obtain ⟨b,y,e⟩:=DK ih'
     rw [e,Gk]
     simp
    ·exact ih'
 exact fun {rs} h=>key rs.length rs rfl h
noncomputable def aA:Sp:=fun vs H Q _=>∃ (p d:Addr) (us:List V) (ρ:V->R) (rk:List (Str × Nat × Int)) (kvs:List (Key × V)),vs=[.ref p,.ref d]/\H p=some (.lst us)/\Rows H ρ us/\us.length<=500/\H d=some (.dK kvs)/\(∀ (i:Nat) r,rk[i]? = some r->Ci kvs (Sum.inr r.1)=some (.int (i:Nat)))/\(rk.map (·.1)).Nodup /\
 (∀ (i:Nat) v,us[i]? = some v->(ρ v).w = "line"->(∃ (j:Nat) (r:Str × Nat × Int) (sh lo hi:Int),rk[j]? = some r/\r.1=(ρ v).nm/\(ρ v).rest=[.int sh,.int lo,.int hi])/\∃ u∈us.take i,Gy (ρ u).w=true)/\∀ D H',H D=none->Al H H'->Fb H' D (linesOf rk (us.map ρ))->Q (.ref D) H'
theorem Wz {rk:List (Str × Nat × Int)} {j:Nat} {r:Str × Nat × Int} (nd:(rk.map (·.1)).Nodup) (h:rk[j]? = some r):(rk.map (·.1)).idxOf r.1=j:=by
 have hj:j<(rk.map (·.1)).length:=by rw [List.length_map]; exact (List.getElem?_eq_some_iff.mp h).1
 have e:(rk.map (·.1))[j]=r.1:=by
  rw [List.getElem_map]
  exact congrArg (·.1) (List.getElem?_eq_some_iff.mp h).2
 rw [← e]
 exact List.Nodup.idxOf_getElem nd j hj
theorem XF:Ar ["rows","rank_numbers","lines","row"] ["rows","rank_numbers"] (Ac jP):=Bk
include N T in
theorem Zc:Ao P w K mg base BW 1 aD.fLi aD.dLi ["rows","rank_numbers"] aA:=by
 refine N.FLi.1.ok XF (fun vs H Q E h=>?_) (fun cdv A outer s H vs Q E hr h=>?_)
 ·obtain ⟨p,d,us,ρ,rk,kvs,rfl,_⟩:=h
  rfl
 ·obtain ⟨p,d,us,ρ,rk,kvs,rfl,hp,hR,hl,hdk,hval,hnd,hln,q⟩:=h
  have hu:=Jh hr
  refine ⟨_,(Af (BX (i:=2) XF.nd rfl (Or.inl rfl) (Dr Ab))
   (Af (DQ PassesOwn.never rfl (BV (pv 0)) (Bo (i:=3) XF.nd rfl (Or.inl rfl)) (Af (Bw (Ba (JQ (K:=K) rfl) (Az (Am (K:=K) rfl) (pv 3) Ae (fun _ _=>rfl)) (Bv (v:=.ref aK) rfl T.mK rfl) rfl) (Ag (Es (Il PySem.F.plainAttrs_list PySem.F.slot_list_append PySem.F.type_list_append Dg (pv 2) (Aa (Dr Ab) Ab)))) Bb)
   (Ag (Bw (Ba Dh (Az (Am (K:=K) rfl) (pv 3) Ae (fun _ _=>rfl)) BZ (Be _)) (Ag (Es (Il PySem.F.plainAttrs_list PySem.F.slot_list_append PySem.F.type_list_append Dg (Az (FT (K:=K) rfl) (pv 2) (J4 Kz Ae) (fun _ _=>rfl)) (Aa (Cq (Aa (HS hu (pv 1) (Az (Am (K:=K) rfl) (pv 3) Ae (fun _ _=>rfl)) (fun _ _=>rfl)) (Aa (Az (Am (K:=K) rfl) (pv 3) Ae (fun _ _=>rfl)) (Aa (Az (Am (K:=K) rfl) (pv 3) Ae (fun _ _=>rfl)) (Aa (Az (Am (K:=K) rfl) (pv 3) Ae (fun _ _=>rfl)) Ab))))) Ab)))) Bb))))
   (Ag (Av (pv 2))))),?_⟩
  refine ⟨C_ (by simp),fun D hD=>?_⟩
  have s0:=BK (o:=HO.lst []) hD
  have hS:CZ K H p us:=.inl (.inl hp)
  refine ⟨_,rfl,p,rfl,⟨_,s0.seq hS⟩,DY (K:=K) (a:=p) (xs:=us) (fun i σ H4=>Al H H4/\∃ lv,H4 D=some (.lst lv)/\Paired (fun l v=>Ge H4 l v) (linesOf rk ((us.take i).map ρ)) lv/\lv.Nodup/\(∀ v∈lv,v ≠ .ref D)/\(∀ v∈lv,∃ A,v=.ref A/\H A=none)/\lv.length<=i/\(∀ l∈linesOf rk ((us.take i).map ρ),l.length<=i)/\∃ v3,σ=[some (.ref p),some (.ref d),some (.ref D),v3])
   ⟨s0,[],Ak,.nil,List.nodup_nil,(fun v hv=>nomatch hv),(fun v hv=>nomatch hv),Nat.le_refl _,(fun l hl=>nomatch hl),_,rfl⟩ (fun i σ H4 _ h=>h.1.seq hS) ?_ ?_⟩
  ·rintro i x σ H4 hx ⟨s4,lv,hd,hpr,nd,hne,hA0,hlv,hll,v3,rfl⟩
   have hm:=List.mem_of_getElem? hx
   have hi:i<us.length:=(List.getElem?_eq_some_iff.mp hx).1
   obtain ⟨r,rfl,hr0⟩:=(hR.mono s4) x hm
   have etake:(us.take (i+1)).map ρ=(us.take i).map ρ++[ρ (.ref r)]:=by
    rw [List.take_add_one,hx,List.map_append]
    rfl
   have est:linesOf rk ((us.take (i+1)).map ρ)=Ew rk (linesOf rk ((us.take i).map ρ)) (ρ (.ref r)):=by rw [etake,CG]
   have lvl:(linesOf rk ((us.take i).map ρ)).length=lv.length:=hpr.length
   by_cases hk:Gy (ρ (.ref r)).w=true
   ·have hnl:¬ (ρ (.ref r)).w = "line":=fun z=>by rw [z] at hk; exact absurd hk (by decide +kernel)
    have est2:linesOf rk ((us.take (i+1)).map ρ)=linesOf rk ((us.take i).map ρ)++[[]]:=by rw [est]; unfold Ew; rw [if_pos hk]
    refine ⟨_,rfl,r,_,_,_,rfl,rfl,.inl (.inl hr0),Ai (j:=0) rfl,aK,_,rfl,.inr (T.tK.sq _),rfl,rfl,_,rfl,?_⟩
    refine Cp (fun _=>?_) (fun z=>absurd hk z)
    refine ⟨_,rfl,.inl ⟨rfl,_,.inl (.inl hd)⟩,C_ (by simp),fun p5 hp5=>?_⟩
    obtain ⟨H5,eqH,s5,u5⟩:=Hq (o:=HO.lst []) hp5
    rw [eqH]
    have hd5:=s5 _ _ hd
    refine ⟨D,lv,_,rfl,rfl,hd5,Ay (by omega),?_⟩
    have hrD:r ≠ D:=Vh (s5 _ _ hr0) hd5 (by intro z; cases z)
    have hpD:p5 ≠ D:=fun z=>by rw [z,hd] at hp5; cases hp5
    refine ⟨_,rfl,r,_,_,_,rfl,rfl,.inl (.inl (by rw [Ax hrD]; exact s5 _ _ hr0)),Ai (j:=0) rfl,rfl,_,rfl,?_⟩
    refine Cp (fun z=>absurd (V.str.inj (of_decide_eq_true z)) hnl) (fun _=>?_)
    refine ⟨fun b u e=>?_,lv++[.ref p5],Ak,?_,?_,?_,?_,by simp; omega,?_,_,rfl⟩
    ·rw [Ax (Aw e hD)]
     exact s5 _ _ (s4 _ _ e)
    ·rw [est2]
     refine Fl (GX hpr fun l v hv h=>Jd (h.mono s5) hd5 (hne v hv)) (.cons ⟨p5,[],rfl,by rw [Ax hpD]; exact u5,.nil⟩ .nil)
    ·refine Oh nd fun hm=>?_
     obtain ⟨l,_,hA⟩:=Br hpr hm
     obtain ⟨A,ts,e,h1,_⟩:=hA
     cases e
     rw [h1] at hp5
     cases hp5
    ·intro v hv
     rcases List.mem_append.mp hv with h | h
     ·exact hne v h
     ·rw [List.mem_singleton.mp h]
      intro z
      exact hpD (V.ref.inj z)
    ·intro v hv
     rcases List.mem_append.mp hv with h | h
     ·exact hA0 v h
     ·exact ⟨p5,List.mem_singleton.mp h,s4.free hp5⟩
    ·intro l hl'
     rw [est2] at hl'
     rcases List.mem_append.mp hl' with h | h
     ·exact Nat.le_succ_of_le (hll l h)
     ·rw [List.mem_singleton.mp h]
      exact Nat.zero_le _
   ·refine ⟨_,rfl,r,_,_,_,rfl,rfl,.inl (.inl hr0),Ai (j:=0) rfl,aK,_,rfl,.inr (T.tK.sq _),rfl,rfl,_,rfl,?_⟩
    refine Cp (fun z=>absurd z hk) (fun _=>?_)
    refine ⟨_,rfl,r,_,_,_,rfl,rfl,.inl (.inl hr0),Ai (j:=0) rfl,rfl,_,rfl,?_⟩
    by_cases hwl:(ρ (.ref r)).w = "line"
    ·refine Cp (fun _=>?_) (fun z=>absurd (decide_eq_true (congrArg V.str hwl)) z)
     obtain ⟨⟨j,rr,sh,lo,hi',hj,hnm,hrest⟩,u,hu,hku⟩:=hln i _ hx hwl
     have hne0:linesOf rk ((us.take i).map ρ) ≠ []:=Lj ⟨ρ u,List.mem_map_of_mem hu,hku⟩
     obtain ⟨ac,z,eac⟩:=DK hne0
     rw [eac] at hpr
     obtain ⟨lv',v,rfl,hpr',hz⟩:=Hl hpr
     obtain ⟨A,ts,rfl,hA,htp⟩:=hz
     have est2:linesOf rk ((us.take (i+1)).map ρ)=ac++[z++[⟨j,sh,lo,hi'⟩]]:=by
      rw [est]
      unfold Ew
      rw [if_neg hk,if_pos hwl,eac,Gk]
      unfold lnOf
      rw [hrest,← hnm,Wz hnd hj]
     have hr1:H4 r=some (.tup [.str (ρ (.ref r)).w,.str (ρ (.ref r)).nm,.int sh,.int lo,.int hi']):=by rw [hr0,← hrest]
     have g:=Hh.k (k:=Sum.inr rr.1) (s4 _ _ hdk)
     rw [hval j rr hj,hnm] at g
     have hAD:A ≠ D:=fun e=>hne (.ref A) (by simp) (by rw [e])
     have hzl:z.length<=i:=hll z (by rw [eac]; simp)
     have htl:=htp.length
     refine ⟨_,rfl,_,rfl,D,_,_,_,rfl,rfl,.inl (.inl hd),Uq lv' (V.ref A),.inl ⟨rfl,_,.inl (.inl hA)⟩,_,rfl,_,rfl,r,_,_,_,rfl,rfl,.inl (.inl hr1),Ai (j:=1) rfl,d,_,rfl,g,_,rfl,r,_,_,_,rfl,rfl,.inl (.inl hr1),Ai (j:=2) rfl,_,rfl,r,_,_,_,rfl,rfl,.inl (.inl hr1),Ai (j:=3) rfl,_,rfl,r,_,_,_,rfl,rfl,.inl (.inl hr1),Ai (j:=4) rfl,by show 4<=sizeLine; decide,fun T5 hT5=>?_⟩
     obtain ⟨H5,eqH,s5,u5⟩:=Hq (o:=HO.tup [.int (j:Nat),.int sh,.int lo,.int hi']) hT5
     rw [eqH]
     have hA5:=s5 _ _ hA
     have hTA:T5 ≠ A:=fun e=>by rw [e,hA] at hT5; cases hT5
     have hdj:D ≠ A:=fun e=>hAD e.symm
     obtain ⟨nd1,_,hdisj⟩:=List.nodup_append.mp nd
     refine ⟨A,ts,_,rfl,rfl,hA5,Ay (by omega),?_⟩
     refine ⟨fun b u e=>?_,lv'++[.ref A],by rw [Ax hdj]; exact s5 _ _ hd,?_,nd,hne,hA0,by omega,?_,_,rfl⟩
     ·obtain ⟨A',eA,hA'⟩:=hA0 (.ref A) (by simp)
      cases eA
      rw [Ax (Aw e hA')]
      exact s5 _ _ (s4 _ _ e)
     ·rw [est2]
      refine Fl (GX hpr' fun l v hv h=>Jd (h.mono s5) hA5 (fun e=>hdisj v hv _ (List.mem_singleton.mpr rfl) e)) (.cons ⟨A,ts++[.ref T5],rfl,Ak,Fl (Cm (Aj s5 htp) hA5) (.cons ⟨T5,rfl,by rw [Ax hTA]; exact u5⟩ .nil)⟩ .nil)
     ·intro l hl'
      rw [est2] at hl'
      rcases List.mem_append.mp hl' with h | h
      ·exact Nat.le_succ_of_le (hll l (by rw [eac]; exact List.mem_append_left _ h))
      ·rw [List.mem_singleton.mp h,List.length_append,List.length_singleton]
       omega
    ·refine Cp (fun z=>absurd (V.str.inj (of_decide_eq_true z)) hwl) (fun _=>?_)
     have est2:linesOf rk ((us.take (i+1)).map ρ)=linesOf rk ((us.take i).map ρ):=by rw [est]; unfold Ew; rw [if_neg hk,if_neg hwl]
     rw [← est2] at hpr hll
     exact ⟨s4,lv,hd,hpr,nd,hne,hA0,by omega,fun l hl'=>Nat.le_succ_of_le (hll l hl'),_,rfl⟩
  ·rintro σ H4 ⟨s4,lv,hd,hpr,nd,hne,hA0,hlv,hll,v3,rfl⟩
   rw [List.take_length] at hpr
   exact ⟨_,rfl,q D H4 hD s4 ⟨lv,hd,hpr⟩⟩
noncomputable abbrev Um:List Str:=["row_list","board_list","rank_list","knob_rows","board_numbers","rank_numbers","knob_numbers","key_places","pipe_places","knob_lines","step_sets"]
theorem Do:∀ m∈meths,∀ f∈Um,¬ m=f:=by decide +kernel
theorem LR {H H':Hp} {D x C dx:Addr} {fs:List (Str × V)} {ls:List (List Ln)} (h:Fb H D ls) (s:SX x H H') (hx:H x=some (.ins C dx fs)):Fb H' D ls:=by
 obtain ⟨lv,h1,h2⟩:=h
 refine ⟨lv,s.lst hx h1,Paired.Lz h2 fun _ _ q=>?_⟩
 obtain ⟨A,ts,e,h3,h4⟩:=q
 exact ⟨A,ts,e,s.lst hx h3,s.pair hx h4⟩
theorem Pu {rk:List (Str × Nat × Int)} {ρ:V->R} {us:List V} {P1:Nat->V->Prop} (h:∀ (i:Nat) v,us[i]? = some v->(ρ v).w = "line"->P1 i v/\∃ u∈us.take i,Gy (ρ u).w=true):(linesOf rk (us.map ρ)).length=(us.filter (fun v=>Gy (ρ v).w)).length:=by
 have key:∀ n,n<=us.length->(linesOf rk ((us.take n).map ρ)).length=((us.take n).filter (fun v=>Gy (ρ v).w)).length:=by
  intro n
  induction n with
  | zero=>intro _; rfl
  | succ n ih =>
   intro hn
   have hx:=List.getElem?_eq_getElem (l:=us) (i:=n) (by omega)
   rw [List.take_add_one,hx,List.map_append]
   show (linesOf rk ((us.take n).map ρ++[ρ us[n]])).length=((us.take n++[us[n]]).filter _).length
   rw [CG,List.filter_append,List.length_append,← ih (by omega)]
   unfold Ew
   by_cases hk:Gy (ρ us[n]).w=true
   ·rw [if_pos hk,List.filter_cons,if_pos hk]
    simp
   ·rw [if_neg hk,List.filter_cons,if_neg hk]
    by_cases hl:(ρ us[n]).w = "line"
    ·rw [if_pos hl]
     obtain ⟨_,u,hu,hku⟩:=h n _ hx hl
     obtain ⟨a,z,e⟩:=DK (Lj (rk:=rk) ⟨ρ u,List.mem_map_of_mem hu,hku⟩)
     rw [e,Gk]
     simp
    ·rw [if_neg hl]
     simp
 have:=key us.length (Nat.le_refl _)
 rw [List.take_length] at this
 exact this
noncomputable def Yr (K:PySem.W.Frag) (aB aP aM C:Addr):Sp:=fun vs H Q _=>∃ (x dx p:Addr) (us:List V) (ρ:V->R) (bs:List (Str × Nat)) (rk:List (Str × Nat × Int)) (ks:List R),vs=[.ref x,.ref p]/\H x=some (.ins C dx [])/\H p=some (.lst us)/\Rows H ρ us/\dD K aB aP aM ρ us bs rk ks/\∀ H',CW C H' x bs rk ks (linesOf rk (us.map ρ))->SX x H H'->Q .non H'
theorem jB:Ar ["self","rows"] ["self","rows"] (Ac Tc):=Bk
include N T in
theorem Y_:Ao P w K mg base BW 9 aD.fOi aD.dOi ["self","rows"] (Yr K aB aP aM C):=by
 have GCk:Ao P w K mg base BW 8 aD.fCk aD.dCk ["rows"] (X3 K aB aP aM):=Yb N T
 have GRo:Ao P w K mg base BW 1 aD.fRo aD.dRo ["rows","word"] QW:=MK N T
 have GNu:Ao P w K mg base BW 1 aD.fNu aD.dNu ["names"] Zv:=YQ N T
 have GPl:Ao P w K mg base BW 1 aD.fPl aD.dPl ["things"] Zq:=Ym N T
 have GLi:Ao P w K mg base BW 1 aD.fLi aD.dLi ["rows","rank_numbers"] aA:=Zc N T
 refine N.FOi.1.ok jB (fun vs H Q E h=>?_) (fun cdv A outer s H vs Q E hr h=>?_)
 ·obtain ⟨x,dx,p,us,ρ,bs,rk,ks,rfl,_⟩:=h
  rfl
 ·obtain ⟨x,dx,p,us,ρ,bs,rk,ks,rfl,hx,hp,hR,O,q⟩:=h
  have hrCk:A_ 8 _:=hr.mono (by decide)
  have hrRo:A_ 1 _:=hr.mono (by decide)
  have hrNu:A_ 1 _:=hr.mono (by decide)
  have hrPl:A_ 1 _:=hr.mono (by decide)
  have hrLi:A_ 1 _:=hr.mono (by decide)
  refine ⟨_,(Af (Es (Ah GCk hrCk rfl N.FCk.2.2 N.FCk.1.kp N.FCk.2.1 .nil An (Aa (pv 1) Ab)))
   (Af (El (pv 0) (FP Eg rfl T.list PyProof.Rows.boot_list (Aa (pv 1) Ab)) rfl)
   (Af (El (pv 0) (Bj rfl (BP (osc:=Ac Tc) (N:=["self","rows"]) rfl rfl (by decide +kernel)) (BV (Ah GRo hrRo rfl N.FRo.2.2 N.FRo.1.kp N.FRo.2.1 .nil An (Aa (pv 1) (Aa BZ Ab)))) (fun _ _ _ _=>Bu) (fun _ _ _ _=>(Cq (Aa (Az (Am (K:=K) rfl) (pv 0) Ae (fun _ _=>rfl)) (Aa (Az (Am (K:=K) rfl) (pv 0) Ae (fun _ _=>rfl)) Ab))))) rfl)
   (Af (El (pv 0) (Bj rfl (BP (osc:=Ac Tc) (N:=["self","rows"]) rfl rfl (by decide +kernel)) (BV (Ah GRo hrRo rfl N.FRo.2.2 N.FRo.1.kp N.FRo.2.1 .nil An (Aa (pv 1) (Aa BZ Ab)))) (fun _ _ _ _=>Bu) (fun _ _ _ _=>(Cq (Aa (Az (Am (K:=K) rfl) (pv 0) Ae (fun _ _=>rfl)) (Aa (Az (Am (K:=K) rfl) (pv 0) Ae (fun _ _=>rfl)) (Aa (Az (Am (K:=K) rfl) (pv 0) Ae (fun _ _=>rfl)) Ab)))))) rfl)
   (Af (El (pv 0) (Bj rfl (BP (osc:=Ac Tc) (N:=["self","rows"]) rfl rfl (by decide +kernel)) (BV (pv 1)) (fun _ _ _ _=>(Eu (Ba (JQ (K:=K) rfl) (Az (Am (K:=K) rfl) (pv 0) Ae (fun _ _=>rfl)) (Bv (v:=.ref aK) rfl T.mK rfl) rfl))) (fun _ _ _ _=>(pv 0))) rfl)
   (Af (El (pv 0) (Ah GNu hrNu rfl N.FNu.2.2 N.FNu.1.kp N.FNu.2.1 .nil An (Aa (Bj rfl (BP (osc:=Ac Tc) (N:=["self","rows"]) rfl rfl (by decide +kernel)) (BV (CV (pv 0) rfl)) (fun _ _ _ _=>Bu) (fun _ _ _ _=>(Az (Am (K:=K) rfl) (pv 0) Ae (fun _ _=>rfl)))) Ab)) rfl)
   (Af (El (pv 0) (Ah GNu hrNu rfl N.FNu.2.2 N.FNu.1.kp N.FNu.2.1 .nil An (Aa (Bj rfl (BP (osc:=Ac Tc) (N:=["self","rows"]) rfl rfl (by decide +kernel)) (BV (CV (pv 0) rfl)) (fun _ _ _ _=>Bu) (fun _ _ _ _=>(Az (Am (K:=K) rfl) (pv 0) Ae (fun _ _=>rfl)))) Ab)) rfl)
   (Af (El (pv 0) (Ah GNu hrNu rfl N.FNu.2.2 N.FNu.1.kp N.FNu.2.1 .nil An (Aa (Bj rfl (BP (osc:=Ac Tc) (N:=["self","rows"]) rfl rfl (by decide +kernel)) (BV (CV (pv 0) rfl)) (fun _ _ _ _=>Bu) (fun _ _ _ _=>(Az (Am (K:=K) rfl) (pv 0) Ae (fun _ _=>rfl)))) Ab)) rfl)
   (Af (El (pv 0) (Ah GPl hrPl rfl N.FPl.2.2 N.FPl.1.kp N.FPl.2.1 .nil An (Aa (CV (pv 0) rfl) Ab)) rfl)
   (Af (El (pv 0) (Ah GPl hrPl rfl N.FPl.2.2 N.FPl.1.kp N.FPl.2.1 .nil An (Aa (CV (pv 0) rfl) Ab)) rfl)
   (Af (El (pv 0) (Ah GLi hrLi rfl N.FLi.2.2 N.FLi.1.kp N.FLi.2.1 .nil An (Aa (pv 1) (Aa (CV (pv 0) rfl) Ab))) rfl)
   (Ag (El (pv 0) (Bj rfl (BP (osc:=Ac Tc) (N:=["self","rows"]) rfl rfl (by decide +kernel)) (BV (Ah GRo hrRo rfl N.FRo.2.2 N.FRo.1.kp N.FRo.2.1 .nil An (Aa (pv 1) (Aa BZ Ab)))) (fun _ _ _ _=>Bu) (fun _ _ _ _=>Q_)) rfl))))))))))))),?_⟩
  have hlen:=O.len
  obtain ⟨ur,hur⟩:∃ ur,us.filter (pw ρ "rank")=ur:=⟨_,rfl⟩
  have er:ur.map ρ=rk.map Fy:=by rw [← hur]; exact O.er
  have lr:ur.length=rk.length:=by have:=congrArg List.length er; simpa using this
  have inR:∀ {v},v∈ur->v∈us:=fun {v} hv=>by rw [← hur] at hv; exact (List.mem_filter.mp hv).1
  have ofR:∀ {v},v∈ur->∃ b∈rk,ρ v=Fy b:=fun {v} hv=>by
   have:ρ v∈rk.map Fy:=by rw [← er]; exact List.mem_map_of_mem hv
   obtain ⟨b,hb,e⟩:=List.mem_map.mp this
   exact ⟨b,hb,e.symm⟩
  obtain ⟨ub,hub⟩:∃ ub,us.filter (pw ρ "board")=ub:=⟨_,rfl⟩
  obtain ⟨uk,huk⟩:∃ uk,us.filter (fun v=>Gy (ρ v).w)=uk:=⟨_,rfl⟩
  have eb:ub.map ρ=bs.map Ep:=by rw [← hub]; exact O.eb
  have ek:uk.map ρ=ks:=by rw [← huk]; exact O.ek
  have lb:ub.length=bs.length:=by have:=congrArg List.length eb; simpa using this
  have lku:uk.length=ks.length:=by have:=congrArg List.length ek; simpa using this
  have inB:∀ {v},v∈ub->v∈us:=fun {v} hv=>by rw [← hub] at hv; exact (List.mem_filter.mp hv).1
  have inKn:∀ {v},v∈uk->v∈us:=fun {v} hv=>by rw [← huk] at hv; exact (List.mem_filter.mp hv).1
  have ofB:∀ {v},v∈ub->∃ b∈bs,ρ v=Ep b:=fun {v} hv=>by
   have:ρ v∈bs.map Ep:=by rw [← eb]; exact List.mem_map_of_mem hv
   obtain ⟨b,hb,e⟩:=List.mem_map.mp this
   exact ⟨b,hb,e.symm⟩
  have l1us:1<=us.length:=by
   have h1:=O.b0
   have h2:ub.length<=us.length:=by rw [← hub]; exact List.length_filter_le _ _
   omega
  refine ⟨_,rfl,p,us,ρ,rfl,hp,hR,l1us,by omega,O.ok,?_,fun H1 s1=>?_⟩
  ·rw [hub]
   cases ub with
   | nil =>
    have:=O.b0
    simp at lb
    omega
   | cons a b=>rfl
  have c1:SX x H H1:=SX.of s1
  have x1:=s1 _ _ hx
  refine ⟨_,rfl,p,_,rfl,.inl (.inl (.inl (s1 _ _ hp))),fun l1 hl1=>?_⟩
  have s2:=BK (o:=HO.lst us) hl1
  generalize upd H1 l1 (HO.lst us)=H2 at s2 ⊢
  refine ⟨_,rfl,x,C,dx,_,rfl,s2 _ _ x1,T.cl,T.n_row_list,(by show 0<1000; decide),?_⟩
  have c2:SX x H _:=(c1.trans (SX.of s2)).trans (SX.up (o:=HO.ins C dx (Bf "row_list" (.ref l1) [])))
  have x2:upd H2 x (HO.ins C dx (Bf "row_list" (.ref l1) [])) x=_:=Ak
  generalize upd H2 x (HO.ins C dx (Bf "row_list" (.ref l1) []))=H3 at c2 x2 ⊢
  have R3:Rows H3 ρ us:=fun v hv=>c2.tup hx (hR v hv)
  refine ⟨_,rfl,p,_,"board",ρ,rfl,c2.lst hx hp,R3,by omega,fun D4 H4 hD4 s4 hl4=>?_⟩
  rw [hub] at hl4
  have hS4:CZ K H4 D4 ub:=.inl (.inl hl4)
  refine ⟨D4,rfl,⟨_,hS4⟩,Hj (K:=K) (xs:=ub) (fun _=>true) (fun v=>[.str (ρ v).nm,(ρ v).rest.getD 0 .non]) hS4 (Ay (by have:=O.b5; omega)) (fun y hy H' hs R k=>k H' (Al.refl H')) (fun y hy _ H' hs R k=>?_) (fun D5 H5 bvs hD5 s5 hl5 hb5=>?_)⟩
  ·obtain ⟨b,_,e⟩:=ofB hy
   have hT:=(R3 y (inB hy)).mono (s4.trans hs)
   rw [e] at hT k
   obtain ⟨T0,rfl,hT⟩:=hT
   exact ⟨_,rfl,T0,_,_,_,rfl,rfl,.inl (.inl hT),Ai (j:=1) rfl,_,rfl,T0,_,_,_,rfl,rfl,.inl (.inl hT),Ai (j:=2) rfl,by show 2<=sizeLine; decide,fun T6 hT6=>k _ _ (BK hT6) ⟨T6,rfl,Ak⟩⟩
  rw [List.filter_eq_self.mpr (fun _ _=>rfl)] at hb5
  have hb5':Paired (fun b y=>TupAt H5 (bV b) y) bs bvs:=by
   have h1:=Bt (F:=fun (r:R) y=>TupAt H5 [.str r.nm,r.rest.getD 0 .non] y) ρ hb5
   rw [eb] at h1
   exact Ex Ep h1
  clear hb5
  refine ⟨_,rfl,x,C,dx,_,rfl,s5 _ _ (s4 _ _ x2),T.cl,T.n_board_list,Nat.lt_of_le_of_lt (Bm _ _ _) (by show 1<1000; decide),?_⟩
  have u6:SX x H5 _:=SX.up (o:=HO.ins C dx (Bf "board_list" (.ref D5) (Bf "row_list" (.ref l1) [])))
  have x5:=s5 _ _ (s4 _ _ x2)
  have c6:SX x H _:=(c2.trans (SX.of (s4.trans s5))).trans u6
  have x6:upd H5 x (HO.ins C dx (Bf "board_list" (.ref D5) (Bf "row_list" (.ref l1) []))) x=_:=Ak
  have hl6:=u6.lst x5 hl5
  have hb6:=u6.pair x5 hb5'
  generalize upd H5 x (HO.ins C dx (Bf "board_list" (.ref D5) (Bf "row_list" (.ref l1) [])))=H6 at c6 x6 hl6 hb6 ⊢
  clear u6
  have R6:Rows H6 ρ us:=fun v hv=>c6.tup hx (hR v hv)
  refine ⟨_,rfl,p,_,"rank",ρ,rfl,c6.lst hx hp,R6,by omega,fun D7 H7 hD7 s7 hl7=>?_⟩
  rw [hur] at hl7
  have hS7:CZ K H7 D7 ur:=.inl (.inl hl7)
  refine ⟨D7,rfl,⟨_,hS7⟩,Hj (K:=K) (xs:=ur) (fun _=>true) (fun v=>[.str (ρ v).nm,(ρ v).rest.getD 0 .non,(ρ v).rest.getD 1 .non]) hS7 (Ay (by have:=O.nr; omega)) (fun y hy H' hs R k=>k H' (Al.refl H')) (fun y hy _ H' hs R k=>?_) (fun D8 H8 rvs hD8 s8 hl8 hr8=>?_)⟩
  ·obtain ⟨b,_,e⟩:=ofR hy
   have hT:=(R6 y (inR hy)).mono (s7.trans hs)
   rw [e] at hT k
   obtain ⟨T0,rfl,hT⟩:=hT
   exact ⟨_,rfl,T0,_,_,_,rfl,rfl,.inl (.inl hT),Ai (j:=1) rfl,_,rfl,T0,_,_,_,rfl,rfl,.inl (.inl hT),Ai (j:=2) rfl,_,rfl,T0,_,_,_,rfl,rfl,.inl (.inl hT),Ai (j:=3) rfl,by show 3<=sizeLine; decide,fun T6 hT6=>k _ _ (BK hT6) ⟨T6,rfl,Ak⟩⟩
  rw [List.filter_eq_self.mpr (fun _ _=>rfl)] at hr8
  have hr8':Paired (fun (a:Th) y=>TupAt H8 (tV a) y) (rk.map SM) rvs:=by
   have h1:=Bt (F:=fun (r:R) y=>TupAt H8 [.str r.nm,r.rest.getD 0 .non,r.rest.getD 1 .non] y) ρ hr8
   rw [er] at h1
   exact Bt (F:=fun (a:Th) y=>TupAt H8 (tV a) y) SM (Ex Fy h1)
  clear hr8
  refine ⟨_,rfl,x,C,dx,_,rfl,s8 _ _ (s7 _ _ x6),T.cl,T.n_rank_list,Nat.lt_of_le_of_lt (Nat.le_trans (Bm _ _ _) (Nat.succ_le_succ (Bm _ _ _))) (by show 2<1000; decide),?_⟩
  have s68:=s7.trans s8
  have x8:=s68 _ _ x6
  have c8:SX x H H8:=c6.trans (SX.of s68)
  have hl8b:=s68 _ _ hl6
  have hb8:=Aj s68 hb6
  have u9:SX x H8 _:=SX.up (o:=HO.ins C dx (Bf "rank_list" (.ref D8) (Bf "board_list" (.ref D5) (Bf "row_list" (.ref l1) []))))
  have x9:upd H8 x (HO.ins C dx (Bf "rank_list" (.ref D8) (Bf "board_list" (.ref D5) (Bf "row_list" (.ref l1) [])))) x=_:=Ak
  have c9:=c8.trans u9
  have bl9:=u9.lst x8 hl8b
  have bp9:=u9.pair x8 hb8
  have rl9:=u9.lst x8 hl8
  have rp9:=u9.pair x8 hr8'
  generalize hf9:Bf "rank_list" (.ref D8) (Bf "board_list" (.ref D5) (Bf "row_list" (.ref l1) []))=f9 at x9 c9 bl9 bp9 rl9 rp9 u9 ⊢
  generalize upd H8 x (HO.ins C dx f9)=H9 at x9 c9 bl9 bp9 rl9 rp9 ⊢
  have n9:f9.length<=3:=by rw [← hf9]; exact Nat.le_trans (Bm _ _ _) (Nat.succ_le_succ (Nat.le_trans (Bm _ _ _) (Nat.succ_le_succ (Bm _ _ _))))
  have lb9:f9.lookup ("board_list" : Str)=some (.ref D5):=by rw [← hf9,Aq,if_neg (by decide +kernel),Aq,if_pos rfl]
  have lr9:f9.lookup ("rank_list" : Str)=some (.ref D8):=by rw [← hf9,Aq,if_pos rfl]
  have no9:∀ m∈meths,f9.lookup m=none:=fun m hm=>by
   rw [← hf9,Aq,if_neg (Do m hm _ (by decide +kernel)),Aq,if_neg (Do m hm _ (by decide +kernel)),Aq,if_neg (Do m hm _ (by decide +kernel))]
   rfl
  clear u9 hf9
  have R9:Rows H9 ρ us:=fun v hv=>c9.tup hx (hR v hv)
  have hS9:CZ K H9 p us:=.inl (.inl (c9.lst hx hp))
  refine ⟨_,rfl,p,rfl,⟨_,hS9⟩,Bq (K:=K) (xs:=us) (fun v=>Gy (ρ v).w) id hS9 (Ay (by omega)) (fun y hy H' hs R k=>?_) (fun y hy _ H' hs R k=>⟨_,rfl,k H' (Al.refl H')⟩) (fun D10 H10 hD10 s10 hl10=>?_)⟩
  ·obtain ⟨T0,rfl,hT⟩:=(R9.mono hs) y hy
   exact ⟨_,rfl,T0,_,_,_,rfl,rfl,.inl (.inl hT),Ai (j:=0) rfl,aK,_,rfl,.inr (T.tK.sq _),rfl,rfl,_,rfl,k H' (Al.refl H')⟩
  rw [List.map_id,huk] at hl10
  refine ⟨_,rfl,x,C,dx,_,rfl,s10 _ _ x9,T.cl,T.n_knob_rows,by omega,?_⟩
  have x10:=s10 _ _ x9
  have u11:SX x H10 _:=SX.up (o:=HO.ins C dx (Bf "knob_rows" (.ref D10) f9))
  have x11:upd H10 x (HO.ins C dx (Bf "knob_rows" (.ref D10) f9)) x=_:=Ak
  have c11:=(c9.trans (SX.of s10)).trans u11
  have bl11:=u11.lst x10 (s10 _ _ bl9)
  have bp11:=u11.pair x10 (Aj s10 bp9)
  have rl11:=u11.lst x10 (s10 _ _ rl9)
  have rp11:=u11.pair x10 (Aj s10 rp9)
  have kr11:=u11.lst x10 hl10
  generalize upd H10 x (HO.ins C dx (Bf "knob_rows" (.ref D10) f9))=H11 at x11 c11 bl11 bp11 rl11 rp11 kr11 ⊢
  clear u11
  have hul:=bp11.length
  have hS11:CZ K H11 D5 bvs:=.inl (.inl bl11)
  refine ⟨_,rfl,x,C,dx,_,_,rfl,x11,T.cl,T.n_board_list,(by rw [Aq,if_neg (by decide +kernel)]; exact lb9),D5,rfl,⟨_,hS11⟩,Bq (K:=K) (xs:=bvs) (fun _=>true) (Fg H11 0) hS11 (Ay (by have:=O.b5; omega)) (fun y hy H' hs R k=>k H' (Al.refl H')) (fun y hy _ H' hs R k=>?_) (fun D12 H12 hD12 s12 hl12=>?_)⟩
  ·obtain ⟨b,_,hx'⟩:=Br bp11 hy
   have e:=Fe hx' 0
   obtain ⟨T0,rfl,hT⟩:=hx'.mono hs
   refine ⟨_,rfl,T0,_,_,_,rfl,rfl,.inl (.inl hT),Ai (j:=0) rfl,?_⟩
   have:=k H' (Al.refl H')
   rw [e] at this
   exact this
  rw [List.filter_eq_self.mpr (fun _ _=>rfl),Iu 0 bp11] at hl12
  have e12:(bs.map fun b=>(bV b).getD 0 V.non)=(bs.map (·.1)).map V.str:=by
   rw [List.map_map]
   rfl
  rw [e12] at hl12
  refine ⟨D12,_,rfl,hl12,by rw [List.length_map]; have:=O.b5; omega,O.nb,fun D13 kvs H13 hD13 s13 hl13 hv13=>?_⟩
  have s1113:=s12.trans s13
  have x13:=s1113 _ _ x11
  refine ⟨_,rfl,x,C,dx,_,rfl,x13,T.cl,T.n_board_numbers,Nat.lt_of_le_of_lt (Bm _ _ _) (by omega),?_⟩
  have u14:SX x H13 _:=SX.up (o:=HO.ins C dx (Bf "board_numbers" (.ref D13) (Bf "knob_rows" (.ref D10) f9)))
  have x14:upd H13 x (HO.ins C dx (Bf "board_numbers" (.ref D13) (Bf "knob_rows" (.ref D10) f9))) x=_:=Ak
  have c14:=(c11.trans (SX.of s1113)).trans u14
  have bl14:=u14.lst x13 (s1113 _ _ bl11)
  have bp14:=u14.pair x13 (Aj s1113 bp11)
  have rl14:=u14.lst x13 (s1113 _ _ rl11)
  have rp14:=u14.pair x13 (Aj s1113 rp11)
  have kr14:=u14.lst x13 (s1113 _ _ kr11)
  have bn14:=u14.dk x13 hl13
  generalize upd H13 x (HO.ins C dx (Bf "board_numbers" (.ref D13) (Bf "knob_rows" (.ref D10) f9)))=H14 at x14 c14 bl14 bp14 rl14 rp14 kr14 bn14 ⊢
  clear u14
  have hrl:=rp14.length
  rw [List.length_map] at hrl
  have hS14:CZ K H14 D8 rvs:=.inl (.inl rl14)
  refine ⟨_,rfl,x,C,dx,_,_,rfl,x14,T.cl,T.n_rank_list,(by rw [Aq,if_neg (by decide +kernel),Aq,if_neg (by decide +kernel)]; exact lr9),D8,rfl,⟨_,hS14⟩,Bq (K:=K) (xs:=rvs) (fun _=>true) (Fg H14 0) hS14 (Ay (by have:=O.nr; omega)) (fun y hy H' hs R k=>k H' (Al.refl H')) (fun y hy _ H' hs R k=>?_) (fun D15 H15 hD15 s15 hl15=>?_)⟩
  ·obtain ⟨b,_,hx'⟩:=Br rp14 hy
   have e:=Fe hx' 0
   obtain ⟨T0,rfl,hT⟩:=hx'.mono hs
   refine ⟨_,rfl,T0,_,_,_,rfl,rfl,.inl (.inl hT),Ai (j:=0) rfl,?_⟩
   have:=k H' (Al.refl H')
   rw [e] at this
   exact this
  rw [List.filter_eq_self.mpr (fun _ _=>rfl),Iu 0 rp14] at hl15
  have e15:((rk.map SM).map fun b=>(tV b).getD 0 V.non)=(rk.map (·.1)).map V.str:=by
   rw [List.map_map,List.map_map]
   rfl
  rw [e15] at hl15
  refine ⟨D15,_,rfl,hl15,by rw [List.length_map]; have:=O.nr; omega,O.nrr,fun D16 kvs16 H16 hD16 s16 hl16 hv16=>?_⟩
  have s1416:=s15.trans s16
  have x16:=s1416 _ _ x14
  refine ⟨_,rfl,x,C,dx,_,rfl,x16,T.cl,T.n_rank_numbers,Nat.lt_of_le_of_lt (Nat.le_trans (Bm _ _ _) (Nat.succ_le_succ (Bm _ _ _))) (by omega),?_⟩
  have u17:SX x H16 _:=SX.up (o:=HO.ins C dx (Bf "rank_numbers" (.ref D16) (Bf "board_numbers" (.ref D13) (Bf "knob_rows" (.ref D10) f9))))
  have x17:upd H16 x (HO.ins C dx (Bf "rank_numbers" (.ref D16) (Bf "board_numbers" (.ref D13) (Bf "knob_rows" (.ref D10) f9)))) x=_:=Ak
  have c17:=(c14.trans (SX.of s1416)).trans u17
  have bl17:=u17.lst x16 (s1416 _ _ bl14)
  have bp17:=u17.pair x16 (Aj s1416 bp14)
  have rl17:=u17.lst x16 (s1416 _ _ rl14)
  have rp17:=u17.pair x16 (Aj s1416 rp14)
  have kr17:=u17.lst x16 (s1416 _ _ kr14)
  have bn17:=u17.dk x16 (s1416 _ _ bn14)
  have rn17:=u17.dk x16 hl16
  generalize hf17:Bf "rank_numbers" (.ref D16) (Bf "board_numbers" (.ref D13) (Bf "knob_rows" (.ref D10) f9))=f17 at x17 c17 bl17 bp17 rl17 rp17 kr17 bn17 rn17 u17 ⊢
  generalize upd H16 x (HO.ins C dx f17)=H17 at x17 c17 bl17 bp17 rl17 rp17 kr17 bn17 rn17 ⊢
  have n17:f17.length<=6:=by rw [← hf17]; exact Nat.le_trans (Bm _ _ _) (Nat.succ_le_succ (Nat.le_trans (Bm _ _ _) (Nat.succ_le_succ (Nat.le_trans (Bm _ _ _) (Nat.succ_le_succ n9)))))
  have lb17:f17.lookup ("board_list" : Str)=some (.ref D5):=by rw [← hf17,Aq,if_neg (by decide +kernel),Aq,if_neg (by decide +kernel),Aq,if_neg (by decide +kernel)]; exact lb9
  have lr17:f17.lookup ("rank_list" : Str)=some (.ref D8):=by rw [← hf17,Aq,if_neg (by decide +kernel),Aq,if_neg (by decide +kernel),Aq,if_neg (by decide +kernel)]; exact lr9
  have lrn17:f17.lookup ("rank_numbers" : Str)=some (.ref D16):=by rw [← hf17,Aq,if_pos rfl]
  have lbn17:f17.lookup ("board_numbers" : Str)=some (.ref D13):=by rw [← hf17,Aq,if_neg (by decide +kernel),Aq,if_pos rfl]
  have lkr17:f17.lookup ("knob_rows" : Str)=some (.ref D10):=by rw [← hf17,Aq,if_neg (by decide +kernel),Aq,if_neg (by decide +kernel),Aq,if_pos rfl]
  have no17:∀ m∈meths,f17.lookup m=none:=fun m hm=>by
   rw [← hf17,Aq,if_neg (Do m hm _ (by decide +kernel)),Aq,if_neg (Do m hm _ (by decide +kernel)),Aq,if_neg (Do m hm _ (by decide +kernel))]
   exact no9 m hm
  clear u17 hf17
  have hS17:CZ K H17 D10 uk:=.inl (.inl kr17)
  have R17:Rows H17 ρ us:=fun v hv=>c17.tup hx (hR v hv)
  refine ⟨_,rfl,x,C,dx,_,_,rfl,x17,T.cl,T.n_knob_rows,lkr17,D10,rfl,⟨_,hS17⟩,Bq (K:=K) (xs:=uk) (fun _=>true) (fun v=>.str (ρ v).nm) hS17 (Ay (by have:=O.nk; omega)) (fun y hy H' hs R k=>k H' (Al.refl H')) (fun y hy _ H' hs R k=>?_) (fun D18 H18 hD18 s18 hl18=>?_)⟩
  ·obtain ⟨T0,rfl,hT⟩:=(R17.mono hs) y (inKn hy)
   exact ⟨_,rfl,T0,_,_,_,rfl,rfl,.inl (.inl hT),Ai (j:=1) rfl,k H' (Al.refl H')⟩
  rw [List.filter_eq_self.mpr (fun _ _=>rfl)] at hl18
  have e18:(uk.map fun v=>V.str (ρ v).nm)=(ks.map (·.nm)).map V.str:=by
   rw [← ek,List.map_map,List.map_map]
   rfl
  rw [e18] at hl18
  refine ⟨D18,_,rfl,hl18,by rw [List.length_map]; have:=O.nk; omega,O.nn,fun D19 kvs19 H19 hD19 s19 hl19 hv19=>?_⟩
  have s1719:=s18.trans s19
  have x19:=s1719 _ _ x17
  refine ⟨_,rfl,x,C,dx,_,rfl,x19,T.cl,T.n_knob_numbers,by omega,?_⟩
  have u20:SX x H19 _:=SX.up (o:=HO.ins C dx (Bf "knob_numbers" (.ref D19) f17))
  have x20:upd H19 x (HO.ins C dx (Bf "knob_numbers" (.ref D19) f17)) x=_:=Ak
  have c20:=(c17.trans (SX.of s1719)).trans u20
  have bl20:=u20.lst x19 (s1719 _ _ bl17)
  have bp20:=u20.pair x19 (Aj s1719 bp17)
  have rl20:=u20.lst x19 (s1719 _ _ rl17)
  have rp20:=u20.pair x19 (Aj s1719 rp17)
  have kr20:=u20.lst x19 (s1719 _ _ kr17)
  have bn20:=u20.dk x19 (s1719 _ _ bn17)
  have rn20:=u20.dk x19 (s1719 _ _ rn17)
  generalize upd H19 x (HO.ins C dx (Bf "knob_numbers" (.ref D19) f17))=H20 at x20 c20 bl20 bp20 rl20 rp20 kr20 bn20 rn20 ⊢
  clear u20
  refine ⟨_,rfl,x,C,dx,_,_,rfl,x20,T.cl,T.n_board_list,(by rw [Aq,if_neg (by decide +kernel)]; exact lb17),D5,bs.map Xo,bvs,rfl,bl20,Bt (F:=fun (a:Th) y=>TupAt H20 (tV a) y) Xo bp20,(by rw [List.length_map]; have:=O.b5; omega),(fun a ha=>by obtain ⟨b,hb,rfl⟩:=List.mem_map.mp ha; have:=O.sz b hb; show b.2<=97; omega),fun D21 pvs H21 hD21 s21 hl21 hp21=>?_⟩
  have e21:(bs.map Xo).map tN=bs:=by
   rw [List.map_map]
   exact List.map_id bs
  rw [e21] at hp21
  have x21:=s21 _ _ x20
  refine ⟨_,rfl,x,C,dx,_,rfl,x21,T.cl,T.n_key_places,Nat.lt_of_le_of_lt (Bm _ _ _) (by omega),?_⟩
  have u22:SX x H21 _:=SX.up (o:=HO.ins C dx (Bf "key_places" (.ref D21) (Bf "knob_numbers" (.ref D19) f17)))
  have x22:upd H21 x (HO.ins C dx (Bf "key_places" (.ref D21) (Bf "knob_numbers" (.ref D19) f17))) x=_:=Ak
  have c22:=(c20.trans (SX.of s21)).trans u22
  have bl22:=u22.lst x21 (s21 _ _ bl20)
  have bp22:=u22.pair x21 (Aj s21 bp20)
  have rl22:=u22.lst x21 (s21 _ _ rl20)
  have rp22:=u22.pair x21 (Aj s21 rp20)
  have kr22:=u22.lst x21 (s21 _ _ kr20)
  have bn22:=u22.dk x21 (s21 _ _ bn20)
  have rn22:=u22.dk x21 (s21 _ _ rn20)
  have kp22:=u22.lst x21 hl21
  have kq22:=u22.pair x21 hp21
  generalize upd H21 x (HO.ins C dx (Bf "key_places" (.ref D21) (Bf "knob_numbers" (.ref D19) f17)))=H22 at x22 c22 bl22 bp22 rl22 rp22 kr22 bn22 rn22 kp22 kq22 ⊢
  clear u22
  refine ⟨_,rfl,x,C,dx,_,_,rfl,x22,T.cl,T.n_rank_list,(by rw [Aq,if_neg (by decide +kernel),Aq,if_neg (by decide +kernel)]; exact lr17),D8,rk.map SM,rvs,rfl,rl22,rp22,(by rw [List.length_map]; exact O.nr),(fun a ha=>by obtain ⟨r,hr,rfl⟩:=List.mem_map.mp ha; exact O.nz r hr),fun D23 qvs H23 hD23 s23 hl23 hp23=>?_⟩
  have e23:(rk.map SM).map tN=rk.map WY:=by
   rw [List.map_map]
   rfl
  rw [e23] at hp23
  have x23:=s23 _ _ x22
  refine ⟨_,rfl,x,C,dx,_,rfl,x23,T.cl,T.n_pipe_places,Nat.lt_of_le_of_lt (Nat.le_trans (Bm _ _ _) (Nat.succ_le_succ (Bm _ _ _))) (by omega),?_⟩
  have u24:SX x H23 _:=SX.up (o:=HO.ins C dx (Bf "pipe_places" (.ref D23) (Bf "key_places" (.ref D21) (Bf "knob_numbers" (.ref D19) f17))))
  have x24:upd H23 x (HO.ins C dx (Bf "pipe_places" (.ref D23) (Bf "key_places" (.ref D21) (Bf "knob_numbers" (.ref D19) f17)))) x=_:=Ak
  have c24:=(c22.trans (SX.of s23)).trans u24
  have bl24:=u24.lst x23 (s23 _ _ bl22)
  have bp24:=u24.pair x23 (Aj s23 bp22)
  have kr24:=u24.lst x23 (s23 _ _ kr22)
  have rl24:=u24.lst x23 (s23 _ _ rl22)
  have rp24:=u24.pair x23 (Aj s23 rp22)
  have pp24:=u24.lst x23 hl23
  have pq24:=u24.pair x23 hp23
  have bn24:=u24.dk x23 (s23 _ _ bn22)
  have rn24:=u24.dk x23 (s23 _ _ rn22)
  have kp24:=u24.lst x23 (s23 _ _ kp22)
  have kq24:=u24.pair x23 (Aj s23 kq22)
  generalize hf24:Bf "pipe_places" (.ref D23) (Bf "key_places" (.ref D21) (Bf "knob_numbers" (.ref D19) f17))=f24 at x24 c24 bl24 bp24 kr24 rl24 rp24 pp24 pq24 bn24 rn24 kp24 kq24 u24 ⊢
  generalize upd H23 x (HO.ins C dx f24)=H24 at x24 c24 bl24 bp24 kr24 rl24 rp24 pp24 pq24 bn24 rn24 kp24 kq24 ⊢
  have n24:f24.length<=9:=by rw [← hf24]; exact Nat.le_trans (Bm _ _ _) (Nat.succ_le_succ (Nat.le_trans (Bm _ _ _) (Nat.succ_le_succ (Nat.le_trans (Bm _ _ _) (Nat.succ_le_succ n17)))))
  have old24:∀ {f:Str} {v:V},¬ f = "pipe_places"->¬ f = "key_places"->¬ f = "knob_numbers"->f17.lookup f=some v->f24.lookup f=some v:=fun h1 h2 h3 h=>by
   rw [← hf24,Aq,if_neg h1,Aq,if_neg h2,Aq,if_neg h3]; exact h
  have lb24:=old24 (by decide +kernel) (by decide +kernel) (by decide +kernel) lb17
  have lbn24:=old24 (by decide +kernel) (by decide +kernel) (by decide +kernel) lbn17
  have lr24:=old24 (by decide +kernel) (by decide +kernel) (by decide +kernel) lr17
  have lpp24:f24.lookup ("pipe_places" : Str)=some (.ref D23):=by rw [← hf24,Aq,if_pos rfl]
  have lrn24:=old24 (by decide +kernel) (by decide +kernel) (by decide +kernel) lrn17
  have lkr24:=old24 (by decide +kernel) (by decide +kernel) (by decide +kernel) lkr17
  have lkp24:f24.lookup ("key_places" : Str)=some (.ref D21):=by rw [← hf24,Aq,if_neg (by decide +kernel),Aq,if_pos rfl]
  have no24:∀ m∈meths,f24.lookup m=none:=fun m hm=>by
   rw [← hf24,Aq,if_neg (Do m hm _ (by decide +kernel)),Aq,if_neg (Do m hm _ (by decide +kernel)),Aq,if_neg (Do m hm _ (by decide +kernel))]
   exact no17 m hm
  clear u24 hf24 old24
  have R24:Rows H24 ρ us:=fun v hv=>c24.tup hx (hR v hv)
  refine ⟨_,rfl,_,rfl,x,C,dx,_,_,rfl,x24,T.cl,T.n_rank_numbers,lrn24,p,D16,us,ρ,rk,kvs16,rfl,c24.lst hx hp,R24,by omega,rn24,(fun i r hr=>hv16 i r.1 (by rw [List.getElem?_map,hr]; rfl)),O.nrr,O.ln,fun D25 H25 hD25 s25 hl25=>?_⟩
  have x25:=s25 _ _ x24
  refine ⟨_,rfl,x,C,dx,_,rfl,x25,T.cl,T.n_knob_lines,by omega,?_⟩
  have u26:SX x H25 _:=SX.up (o:=HO.ins C dx (Bf "knob_lines" (.ref D25) f24))
  have x26:upd H25 x (HO.ins C dx (Bf "knob_lines" (.ref D25) f24)) x=_:=Ak
  have c26:=(c24.trans (SX.of s25)).trans u26
  have bl26:=u26.lst x25 (s25 _ _ bl24)
  have bp26:=u26.pair x25 (Aj s25 bp24)
  have kr26:=u26.lst x25 (s25 _ _ kr24)
  have rl26:=u26.lst x25 (s25 _ _ rl24)
  have rp26:=u26.pair x25 (Aj s25 rp24)
  have pp26:=u26.lst x25 (s25 _ _ pp24)
  have pq26:=u26.pair x25 (Aj s25 pq24)
  have ln26:=LR hl25 u26 x25
  have bn26:=u26.dk x25 (s25 _ _ bn24)
  have rn26:=u26.dk x25 (s25 _ _ rn24)
  have kp26:=u26.lst x25 (s25 _ _ kp24)
  have kq26:=u26.pair x25 (Aj s25 kq24)
  generalize upd H25 x (HO.ins C dx (Bf "knob_lines" (.ref D25) f24))=H26 at x26 c26 bl26 bp26 kr26 rl26 rp26 pp26 pq26 ln26 bn26 rn26 kp26 kq26 ⊢
  clear u26
  have R26:Rows H26 ρ us:=fun v hv=>c26.tup hx (hR v hv)
  refine ⟨_,rfl,p,_,"step",ρ,rfl,c26.lst hx hp,R26,by omega,fun D27 H27 hD27 s27 hl27=>?_⟩
  rw [O.none] at hl27
  have hS27:CZ K H27 D27 []:=.inl (.inl hl27)
  refine ⟨D27,rfl,⟨_,hS27⟩,Bq (K:=K) (xs:=[]) (fun _=>true) id hS27 (Ay (by simp)) (fun y hy=>nomatch hy) (fun y hy=>nomatch hy) (fun D28 H28 hD28 s28 hl28=>?_)⟩
  have s2628:=s27.trans s28
  have x28:=s2628 _ _ x26
  refine ⟨_,rfl,x,C,dx,_,rfl,x28,T.cl,T.n_step_sets,Nat.lt_of_le_of_lt (Bm _ _ _) (by omega),?_⟩
  have u29:SX x H28 _:=SX.up (o:=HO.ins C dx (Bf "step_sets" (.ref D28) (Bf "knob_lines" (.ref D25) f24)))
  have old:∀ {f:Str},¬ f = "step_sets"->¬ f = "knob_lines"->(Bf "step_sets" (.ref D28) (Bf "knob_lines" (.ref D25) f24)).lookup f=f24.lookup f:=fun h1 h2=>by rw [Aq,if_neg h1,Aq,if_neg h2]
  refine q _ ⟨⟨⟨dx,_,D5,D13,D21,D10,bvs,pvs,uk,kvs,Ak,(old (by decide +kernel) (by decide +kernel)).trans lb24,(old (by decide +kernel) (by decide +kernel)).trans lbn24,(old (by decide +kernel) (by decide +kernel)).trans lkp24,(old (by decide +kernel) (by decide +kernel)).trans lkr24,
   fun m hm=>(old (Do m hm _ (by decide +kernel)) (Do m hm _ (by decide +kernel))).trans (no24 m hm),u29.lst x28 (s2628 _ _ bl26),u29.pair x28 (Aj s2628 bp26),u29.dk x28 (s2628 _ _ bn26),fun i b hb=>hv13 i b.1 (by rw [List.getElem?_map,hb]; rfl),u29.lst x28 (s2628 _ _ kp26),u29.pair x28 (Aj s2628 kq26),u29.lst x28 (s2628 _ _ kr26),?_⟩,O.b5,O.sz,by have:=O.nk; omega⟩,⟨dx,_,D8,D16,D23,D25,rvs,qvs,kvs16,Ak,(old (by decide +kernel) (by decide +kernel)).trans lr24,(old (by decide +kernel) (by decide +kernel)).trans lrn24,(old (by decide +kernel) (by decide +kernel)).trans lpp24,(by rw [Aq,if_neg (by decide +kernel),Aq,if_pos rfl]),u29.lst x28 (s2628 _ _ rl26),u29.pair x28 (Aj s2628 rp26),u29.dk x28 (s2628 _ _ rn26),(fun i r hr=>hv16 i r.1 (by rw [List.getElem?_map,hr]; rfl)),u29.lst x28 (s2628 _ _ pp26),u29.pair x28 (Aj s2628 pq26),LR (ln26.mono s2628) u29 x28⟩,O.nr,O.nz,?_⟩ ((c26.trans (SX.of s2628)).trans u29)
  case refine_2=>rw [Pu O.ln,← ek,List.length_map,huk]
  rw [← ek]
  refine Bt (F:=fun (r:R) y=>TupAt _ r.v y) ρ ?_
  have R29:Rows _ ρ uk:=fun v hv=>u29.tup x28 ((R26.mono s2628) v (inKn hv))
  generalize upd H28 x _=H29 at R29 ⊢
  have key:∀ l:List V,(∀ v∈l,TupAt H29 (ρ v).v v)->Paired (fun v y=>TupAt H29 (ρ v).v y) l l:=by
   intro l
   induction l with
   | nil=>intro _; exact .nil
   | cons a b ih=>intro h; exact .cons (h a (List.mem_cons_self ..)) (ih fun v hv=>h v (List.mem_cons_of_mem _ hv))
  exact key uk R29
noncomputable def XQ (C:Addr):Sp:=fun vs H Q _=>∃ (x:Addr) (bs:List (Str × Nat)) (ks:List R),vs=[.ref x]/\Cu C H x bs ks/\∀ D bvs H',H D=none->Al H H'->H' D=some (.lst bvs)->Paired (fun b y=>TupAt H' (bV b) y) bs bvs->Q (.ref D) H'
theorem iQ:Ar ["self"] ["self"] (Ac eU):=Bk
include N T in
theorem Vs:Ao P w K mg base BW 1 aD.fOb aD.dOb ["self"] (XQ C):=by
 refine N.FOb.1.ok iQ (fun vs H Q E h=>?_) (fun cdv A outer s H vs Q E hr h=>?_)
 ·refine byC fun hng=>?_
  obtain ⟨x,bs,ks,rfl,_⟩:=h
  refine hng ?_
  rfl
 ·refine byC fun hng=>?_
  obtain ⟨x,bs,ks,rfl,O,q⟩:=h
  refine hng ?_
  refine ⟨_,(Ag (Av (FP Eg rfl T.list PyProof.Rows.boot_list (Aa (CV (pv 0) rfl) Ab)))),?_⟩
  refine byC fun hng=>?_
  obtain ⟨⟨dx,fs,bl,bn,kp,kr,bvs,pvs,uvs,kvs,h1,l1,l2,l3,l4,lm,h2,h3,h4,h5,h6,h7,h8,h9⟩,ob5,osz,onk⟩:=id O
  refine hng ?_
  exact ⟨_,rfl,x,C,dx,_,_,rfl,h1,T.cl,T.n_board_list,l1,bl,bvs,rfl,.inl (.inl (.inl h2)),fun l hl=>q l bvs _ hl (BK hl) Ak (Aj (BK hl) h3)⟩
noncomputable def Qz (C:Addr):Sp:=fun vs H Q _=>∃ (x:Addr) (bs:List (Str × Nat)) (ks:List R),vs=[.ref x]/\Cu C H x bs ks/\Q (.int ((Ea bs).length:Nat)) H
theorem iC:Ar ["self"] ["self"] (Ac iz):=Bk
include N T in
theorem Od:Ao P w K mg base BW 1 aD.fOc aD.dOc ["self"] (Qz C):=by
 refine N.FOc.1.ok iC (fun vs H Q E h=>?_) (fun cdv A outer s H vs Q E hr h=>?_)
 ·refine byC fun hng=>?_
  obtain ⟨x,bs,ks,rfl,_⟩:=h
  refine hng ?_
  rfl
 ·refine byC fun hng=>?_
  obtain ⟨x,bs,ks,rfl,O,q⟩:=h
  refine hng ?_
  refine ⟨_,(Ag (Av (BL Bh rfl T.len PySem.boot_len (Aa (CV (pv 0) rfl) Ab)))),?_⟩
  refine byC fun hng=>?_
  obtain ⟨⟨dx,fs,bl,bn,kp,kr,bvs,pvs,uvs,kvs,h1,l1,l2,l3,l4,lm,h2,h3,h4,h5,h6,h7,h8,h9⟩,ob5,osz,onk⟩:=id O
  refine hng ?_
  refine ⟨_,rfl,x,C,dx,_,_,rfl,h1,T.cl,T.n_key_places,l3,kp,pvs,rfl,.inl (.inl (.inl h6)),?_⟩
  rw [← h7.length]
  exact q
noncomputable def V4 (C:Addr):Sp:=fun vs H Q _=>∃ (x:Addr) (bs:List (Str × Nat)) (ks:List R) (j:Nat) (b:Str × Nat) (n:Int),vs=[.ref x,.str b.1,.int n]/\Cu C H x bs ks/\bs[j]? = some b/\∀ H',Al H H'->Q (.int ((((bs.take j).map (·.2)).sum:Nat)+n)) H'
theorem gA:Ar ["self","board","number"] ["self","board","number"] (Ac dX):=Bk
include N T in
theorem Vy:Ao P w K mg base BW 2 aD.fOk aD.dOk ["self","board","number"] (V4 C):=by
 have GCa:Ao P w K mg base BW 1 aD.fCa aD.dCa ["things"] V6:=Vg N T
 refine N.FOk.1.ok gA (fun vs H Q E h=>?_) (fun cdv A outer s H vs Q E hr h=>?_)
 ·refine byC fun hng=>?_
  obtain ⟨x,bs,ks,j,b,n,rfl,_⟩:=h
  refine hng ?_
  rfl
 ·refine byC fun hng=>?_
  obtain ⟨x,bs,ks,j,b,n,rfl,O,hb,q⟩:=h
  refine hng ?_
  have hrCa:A_ 1 _:=hr.mono (by decide)
  have hu:=Jh hr
  refine ⟨_,(Ag (Av (Bc Dz (Ah GCa hrCa rfl N.FCa.2.2 N.FCa.1.kp N.FCa.2.1 .nil An (Aa (GQ JK (CV (pv 0) rfl) JG (Gq (HS hu (CV (pv 0) rfl) (pv 1) (fun _ _=>rfl)))) Ab)) (pv 2)))),?_⟩
  refine byC fun hng=>?_
  obtain ⟨⟨dx,fs,bl,bn,kp,kr,bvs,pvs,uvs,kvs,h1,l1,l2,l3,l4,lm,h2,h3,h4,h5,h6,h7,h8,h9⟩,ob5,osz,onk⟩:=id O
  refine hng ?_
  have hj:j<bs.length:=(List.getElem?_eq_some_iff.mp hb).1
  have hl:=h3.length
  have g:=Hh.k (k:=Sum.inr b.1) h4
  rw [h5 j b hb] at g
  refine ⟨_,rfl,x,C,dx,_,_,rfl,h1,T.cl,T.n_board_list,l1,_,rfl,x,C,dx,_,_,rfl,h1,T.cl,T.n_board_numbers,l2,_,rfl,bn,_,rfl,g,_,rfl,bl,bvs,rfl,.inl (.inl h2),fun p6 hp6=>?_⟩
  have s6:=BK (o:=HO.lst (Et bvs none (some (j:Int)))) hp6
  have a6:upd H p6 (HO.lst (Et bvs none (some (j:Int)))) p6=_:=Ak
  generalize upd H p6 (HO.lst (Et bvs none (some (j:Int))))=H6 at s6 a6 ⊢
  rw [JT bvs j (by omega)] at a6
  refine ⟨p6,(bs.take j).map Xo,bvs.take j,rfl,a6,Bt (F:=fun (a:Th) y=>TupAt H6 (tV a) y) Xo (Ih (Aj s6 h3) j),(by rw [List.length_map,List.length_take]; omega),(fun a ha=>by obtain ⟨b',hb',rfl⟩:=List.mem_map.mp ha; exact Nat.le_trans (osz b' (List.mem_of_mem_take hb')) (by show 61<=100; decide)),fun H7 s7=>?_⟩
  have e7:((bs.take j).map Xo).map (fun a=>a.2.1)=(bs.take j).map (·.2):=by
   rw [List.map_map]
   rfl
  rw [e7]
  exact ⟨_,rfl,_,_,rfl,rfl,q H7 (s6.trans s7)⟩
noncomputable def Wt (C:Addr):Sp:=fun vs H Q _=>∃ (x:Addr) (bs:List (Str × Nat)) (ks:List R) (i:Nat) (qd:Nat × Nat),vs=[.ref x,.int (i:Nat)]/\Cu C H x bs ks/\(Ea bs)[i]? = some qd/\∀ y,TupAt H (qV qd) y->Q y H
theorem dY:Ar ["self","key"] ["self","key"] (Ac jK):=Bk
include N T in
theorem Vu:Ao P w K mg base BW 1 aD.fOo aD.dOo ["self","key"] (Wt C):=by
 refine N.FOo.1.ok dY (fun vs H Q E h=>?_) (fun cdv A outer s H vs Q E hr h=>?_)
 ·refine byC fun hng=>?_
  obtain ⟨x,bs,ks,i,qd,rfl,_⟩:=h
  refine hng ?_
  rfl
 ·refine byC fun hng=>?_
  obtain ⟨x,bs,ks,i,qd,rfl,O,hq,q⟩:=h
  refine hng ?_
  refine ⟨_,(Ag (Av (Az Dd (CV (pv 0) rfl) (pv 1) (fun _ _=>rfl)))),?_⟩
  refine byC fun hng=>?_
  obtain ⟨⟨dx,fs,bl,bn,kp,kr,bvs,pvs,uvs,kvs,h1,l1,l2,l3,l4,lm,h2,h3,h4,h5,h6,h7,h8,h9⟩,ob5,osz,onk⟩:=id O
  refine hng ?_
  obtain ⟨y,hy,ht⟩:=Bs h7 hq
  exact ⟨_,rfl,x,C,dx,_,_,rfl,h1,T.cl,T.n_key_places,l3,_,rfl,kp,pvs,_,_,rfl,rfl,.inl (.inl h6),Ai hy,q y ht⟩
noncomputable def bA (C:Addr):Sp:=fun vs H Q _=>∃ (x:Addr) (bs:List (Str × Nat)) (ks:List R) (k j1 j2:Nat) (b1 b2:Str × Nat) (nm:Str) (s:Int),vs=[.ref x,.int (k:Nat)]/\Cu C H x bs ks/\ks[k]? = some ⟨"coupler",nm,[.str b1.1,.str b2.1,.int s]⟩/\bs[j1]? = some b1/\bs[j2]? = some b2/\∀ y H',Al H H'->TupAt H' [.int (j1:Nat),.int (j2:Nat),.int s] y->Q y H'
noncomputable def Pk (C:Addr):Sp:=fun vs H Q _=>∃ (x:Addr) (bs:List (Str × Nat)) (ks:List R) (k j1:Nat) (b1:Str × Nat) (wd nm:Str) (rs:List V),vs=[.ref x,.int (k:Nat)]/\Cu C H x bs ks/\ks[k]? = some ⟨wd,nm,.str b1.1::rs⟩/\bs[j1]? = some b1/\Q (.int (j1:Nat)) H
theorem gR:Ar ["self","knob"] ["self","knob"] (Ac gG):=Bk
include N T in
theorem TX:Ao P w K mg base BW 1 aD.fBk aD.dBk ["self","knob"] (Pk C):=by
 refine N.FBk.1.ok gR (fun vs H Q E h=>?_) (fun cdv A outer s H vs Q E hr h=>?_)
 ·refine byC fun hng=>?_
  obtain ⟨x,bs,ks,k,j1,b1,wd,nm,rs,rfl,_⟩:=h
  refine hng ?_
  rfl
 ·refine byC fun hng=>?_
  obtain ⟨x,bs,ks,k,j1,b1,wd,nm,rs,rfl,O,hk,hb1,q⟩:=h
  refine hng ?_
  have hu:=Jh hr
  refine ⟨_,(Ag (Av (HS hu (CV (pv 0) rfl) (Az (Am (K:=K) rfl) (Az Dd (CV (pv 0) rfl) (pv 1) (fun _ _=>rfl)) Ae (fun _ _=>rfl)) (fun _ _=>rfl)))),?_⟩
  refine byC fun hng=>?_
  obtain ⟨⟨dx,fs,bl,bn,kp,kr,bvs,pvs,uvs,kvs,h1,l1,l2,l3,l4,lm,h2,h3,h4,h5,h6,h7,h8,h9⟩,ob5,osz,onk⟩:=id O
  refine hng ?_
  refine byC fun hng=>?_
  obtain ⟨y,hy,T0,rfl,ht⟩:=Bs h9 hk
  refine hng ?_
  have g1:=Hh.k (k:=Sum.inr b1.1) h4
  rw [h5 j1 b1 hb1] at g1
  exact ⟨_,rfl,x,C,dx,_,_,rfl,h1,T.cl,T.n_board_numbers,l2,_,rfl,x,C,dx,_,_,rfl,h1,T.cl,T.n_knob_rows,l4,_,rfl,kr,uvs,_,_,rfl,rfl,.inl (.inl h8),Ai hy,T0,_,_,_,rfl,rfl,.inl (.inl ht),Ai (j:=2) rfl,bn,_,rfl,g1,q⟩
theorem YS:Ar ["self","knob","row"] ["self","knob"] (Ac gQ):=Bk
include N T in
theorem ZS:Ao P w K mg base BW 2 aD.fOp aD.dOp ["self","knob"] (bA C):=by
 have GBk:Ao P w K mg base BW 1 aD.fBk aD.dBk ["self","knob"] (Pk C):=TX N T
 refine N.FOp.1.ok YS (fun vs H Q E h=>?_) (fun cdv A outer s H vs Q E hr h=>?_)
 ·refine byC fun hng=>?_
  obtain ⟨x,bs,ks,k,j1,j2,b1,b2,nm,s0,rfl,_⟩:=h
  refine hng ?_
  rfl
 ·refine byC fun hng=>?_
  obtain ⟨x,bs,ks,k,j1,j2,b1,b2,nm,s0,rfl,O,hk,hb1,hb2,q⟩:=h
  refine hng ?_
  have hrBk:A_ 1 _:=hr.mono (by decide)
  have hu:=Jh hr
  refine ⟨_,(Af (BX (i:=2) YS.nd rfl (Or.inl rfl) (Az Dd (CV (pv 0) rfl) (pv 1) (fun _ _=>rfl)))
   (Ag (Av (Cq (Aa (Dk (pv 0) T.cl N.FBk.2.2 GBk hrBk N.FBk.2.1 .nil An (Aa (pv 1) Ab)) (Aa (HS hu (CV (pv 0) rfl) (Az (Am (K:=K) rfl) (pv 2) Ae (fun _ _=>rfl)) (fun _ _=>rfl)) (Aa (Az (Am (K:=K) rfl) (pv 2) Ae (fun _ _=>rfl)) Ab))))))),?_⟩
  refine byC fun hng=>?_
  obtain ⟨⟨dx,fs,bl,bn,kp,kr,bvs,pvs,uvs,kvs,h1,l1,l2,l3,l4,lm,h2,h3,h4,h5,h6,h7,h8,h9⟩,ob5,osz,onk⟩:=id O
  refine hng ?_
  refine byC fun hng=>?_
  obtain ⟨y,hy,T0,rfl,ht⟩:=Bs h9 hk
  refine hng ?_
  have g1:=Hh.k (k:=Sum.inr b1.1) h4
  rw [h5 j1 b1 hb1] at g1
  have g2:=Hh.k (k:=Sum.inr b2.1) h4
  rw [h5 j2 b2 hb2] at g2
  refine ⟨_,rfl,x,C,dx,_,_,rfl,h1,T.cl,T.n_knob_rows,l4,_,rfl,kr,uvs,_,_,rfl,rfl,.inl (.inl h8),Ai hy,?_⟩
  refine ⟨_,rfl,x,dx,fs,rfl,h1,lm _ (by decide +kernel),_,rfl,x,bs,ks,k,j1,b1,_,_,_,rfl,O,hk,hb1,?_⟩
  refine ⟨_,rfl,x,C,dx,_,_,rfl,h1,T.cl,T.n_board_numbers,l2,_,rfl,T0,_,_,_,rfl,rfl,.inl (.inl ht),Ai (j:=3) rfl,bn,_,rfl,g2,?_⟩
  exact ⟨_,rfl,T0,_,_,_,rfl,rfl,.inl (.inl ht),Ai (j:=4) rfl,by show 3<=sizeLine; decide,fun p hp=>q _ _ (BK hp) ⟨p,rfl,Ak⟩⟩
noncomputable def bY (C:Addr):Sp:=fun vs H Q _=>∃ (x:Addr) (bs:List (Str × Nat)) (ks:List R) (k i j1 j2:Nat) (b1 b2:Str × Nat) (qd:Nat × Nat) (nm:Str) (s:Int),vs=[.ref x,.int (k:Nat),.int (i:Nat)]/\Cu C H x bs ks/\(Ea bs)[i]? = some qd/\ks[k]? = some ⟨"coupler",nm,[.str b1.1,.str b2.1,.int s]⟩/\bs[j1]? = some b1/\bs[j2]? = some b2 /\
 ∀ H',Al H H'->Q (Mg bs j1 j2 s qd b2.2) H'
theorem RQ:Ar ["organ","knob","key","coupler","place","second","number"] ["organ","knob","key"] (Ac iJ):=Bk
include N T in
theorem aR:Ao P w K mg base BW 3 aD.fLe aD.dLe ["organ","knob","key"] (bY C):=by
 have GOc:Ao P w K mg base BW 1 aD.fOc aD.dOc ["self"] (Qz C):=Od N T
 have GOp:Ao P w K mg base BW 2 aD.fOp aD.dOp ["self","knob"] (bA C):=ZS N T
 have GOo:Ao P w K mg base BW 1 aD.fOo aD.dOo ["self","key"] (Wt C):=Vu N T
 have GOb:Ao P w K mg base BW 1 aD.fOb aD.dOb ["self"] (XQ C):=Vs N T
 have GOk:Ao P w K mg base BW 2 aD.fOk aD.dOk ["self","board","number"] (V4 C):=Vy N T
 refine N.FLe.1.ok RQ (fun vs H Q E h=>?_) (fun cdv A outer s H vs Q E hr h=>?_)
 ·refine byC fun hng=>?_
  obtain ⟨x,bs,ks,k,i,j1,j2,b1,b2,qd,nm,s0,rfl,_⟩:=h
  refine hng ?_
  rfl
 ·refine byC fun hng=>?_
  obtain ⟨x,bs,ks,k,i,j1,j2,b1,b2,qd,nm,s0,rfl,O,hq,hk,hb1,hb2,q⟩:=h
  refine hng ?_
  have hrOc:A_ 1 _:=hr.mono (by decide)
  have hrOp:A_ 2 _:=hr.mono (by decide)
  have hrOo:A_ 1 _:=hr.mono (by decide)
  have hrOb:A_ 1 _:=hr.mono (by decide)
  have hrOk:A_ 2 _:=hr.mono (by decide)
  refine ⟨_,(Af (Bw (CP (F_ FW Gw Ae (pv 2) (CT (pv 0) T.cl N.FOc.2.2 GOc hrOc N.FOc.2.1 .nil An))) (Ag (Av Kr)) Bb)
   (Af (BX (i:=3) RQ.nd rfl (Or.inl rfl) (Dk (pv 0) T.cl N.FOp.2.2 GOp hrOp N.FOp.2.1 .nil An (Aa (pv 1) Ab)))
   (Af (BX (i:=4) RQ.nd rfl (Or.inl rfl) (Dk (pv 0) T.cl N.FOo.2.2 GOo hrOo N.FOo.2.1 .nil An (Aa (pv 2) Ab)))
   (Af (BX (i:=5) RQ.nd rfl (Or.inl rfl) (Az (FT (K:=K) rfl) (CT (pv 0) T.cl N.FOb.2.2 GOb hrOb N.FOb.2.1 .nil An) (Az (Am (K:=K) rfl) (pv 3) Ae (fun _ _=>rfl)) (fun _ _=>rfl)))
   (Af (BX (i:=6) RQ.nd rfl (Or.inl rfl) (Bc Dz (Az (Am (K:=K) rfl) (pv 4) Ae (fun _ _=>rfl)) (Az (Am (K:=K) rfl) (pv 3) Ae (fun _ _=>rfl))))
   (Af (Bw (PW.pt (D_ (Ba Im (Az (Am (K:=K) rfl) (pv 4) Ae (fun _ _=>rfl)) (Az (Am (K:=K) rfl) (pv 3) Ae (fun _ _=>rfl)) (Be _)) (Ey (CP (F_ FW Gw Ae (pv 6) (Az (Am (K:=K) rfl) (pv 5) Ae (fun _ _=>rfl))))))) (Ag (Av Kr)) Bb)
   (Ag (Av (Dk (pv 0) T.cl N.FOk.2.2 GOk hrOk N.FOk.2.1 .nil An (Aa (Az (Am (K:=K) rfl) (pv 5) Ae (fun _ _=>rfl)) (Aa (pv 6) Ab))))))))))),?_⟩
  have hi:i<(Ea bs).length:=(List.getElem?_eq_some_iff.mp hq).1
  have meth:∀ {H':Hp},Cu C H' x bs ks->∃ dx fs,H' x=some (.ins C dx fs)/\∀ m∈meths,fs.lookup m=none:=fun O'=>by
   refine byC fun hng=>?_
   obtain ⟨⟨dx,fs,_,_,_,_,_,_,_,_,h1,_,_,_,_,lm,_⟩,_⟩:=O'
   refine hng ?_
   exact ⟨dx,fs,h1,lm⟩
  obtain ⟨dx,fs,hx,lm⟩:=meth O
  refine ⟨_,rfl,_,_,rfl,rfl,_,rfl,?_⟩
  refine Cp (fun _=>?_) (fun z=>absurd (decide_eq_true (by omega)) z)
  refine ⟨_,rfl,x,dx,fs,rfl,hx,lm _ (by decide +kernel),x,bs,ks,rfl,O,_,_,rfl,rfl,_,rfl,?_⟩
  rw [decide_eq_true (by omega:(i:Int)<((Ea bs).length:Nat))]
  refine Ce ?_
  refine ⟨_,rfl,x,dx,fs,rfl,hx,lm _ (by decide +kernel),_,rfl,x,bs,ks,k,j1,j2,b1,b2,nm,s0,rfl,O,hk,hb1,hb2,fun y1 H1 s1 hy1=>?_⟩
  have O1:=O.mono s1
  obtain ⟨dx1,fs1,hx1,lm1⟩:=meth O1
  refine ⟨_,rfl,x,dx1,fs1,rfl,hx1,lm1 _ (by decide +kernel),_,rfl,x,bs,ks,i,qd,rfl,O1,hq,fun y2 hy2=>?_⟩
  refine ⟨_,rfl,x,dx1,fs1,rfl,hx1,lm1 _ (by decide +kernel),x,bs,ks,rfl,O1,fun D bvs H2 hD s2 hl2 hb2'=>?_⟩
  obtain ⟨T1,rfl,ht1⟩:=hy1.mono s2
  obtain ⟨T2,rfl,ht2⟩:=hy2.mono s2
  refine byC fun hng=>?_
  obtain ⟨v3,hv3,T3,rfl,ht3⟩:=Bs hb2' hb2
  refine hng ?_
  refine ⟨_,rfl,T1,_,_,_,rfl,rfl,.inl (.inl ht1),Ai (j:=1) rfl,D,bvs,_,_,rfl,rfl,.inl (.inl hl2),Ai hv3,?_⟩
  refine ⟨_,rfl,T2,_,_,_,rfl,rfl,.inl (.inl ht2),Ai (j:=1) rfl,_,rfl,T1,_,_,_,rfl,rfl,.inl (.inl ht1),Ai (j:=2) rfl,_,_,rfl,rfl,?_⟩
  refine ⟨_,rfl,T2,_,_,_,rfl,rfl,.inl (.inl ht2),Ai (j:=0) rfl,_,rfl,T1,_,_,_,rfl,rfl,.inl (.inl ht1),Ai (j:=0) rfl,rfl,_,rfl,?_⟩
  have fin:=q H2 (s1.trans s2)
  unfold Mg at fin
  by_cases e1:qd.1=j1
  ·have z:(!decide (V.int (qd.1:Nat)=V.int (j1:Nat)))=false:=by rw [e1]; simp
   rw [z]
   refine Ce ?_
   refine ⟨_,rfl,_,_,rfl,rfl,_,rfl,?_⟩
   refine Cp (fun g1=>?_) (fun g1=>?_)
   ·refine ⟨_,rfl,T3,_,_,_,rfl,rfl,.inl (.inl ht3),Ai (j:=1) rfl,_,_,rfl,rfl,_,rfl,?_⟩
    have g1':0<=(qd.2:Int)+s0:=of_decide_eq_true g1
    by_cases g2:(qd.2:Int)+s0<(b2.2:Nat)
    ·have z2:decide ((qd.2:Int)+s0<(b2.2:Nat))=true:=decide_eq_true g2
     rw [z2]
     refine Ce ?_
     rw [if_pos ⟨e1,g1',g2⟩] at fin
     obtain ⟨dx2,fs2,hx2,lm2⟩:=meth (O1.mono s2)
     refine ⟨_,rfl,x,dx2,fs2,rfl,hx2,lm2 _ (by decide +kernel),_,rfl,T3,_,_,_,rfl,rfl,.inl (.inl ht3),Ai (j:=0) rfl,_,rfl,x,bs,ks,j2,b2,_,rfl,O1.mono s2,hb2,fun H3 s3=>?_⟩
     have fin3:=q H3 ((s1.trans s2).trans s3)
     unfold Mg at fin3
     rw [if_pos ⟨e1,g1',g2⟩] at fin3
     exact fin3
    ·have z2:decide ((qd.2:Int)+s0<(b2.2:Nat))=false:=decide_eq_false g2
     rw [z2]
     refine Ed ?_
     rw [if_neg fun z=>g2 z.2.2] at fin
     exact fin
   ·refine ⟨_,rfl,?_⟩
    have g1':decide (0<=(qd.2:Int)+s0)=false:=(Bool.not_eq_true _).mp g1
    rw [if_neg fun z=>absurd (decide_eq_true z.2.1) g1] at fin
    exact Ed fin
  ·have z:(!decide (V.int (qd.1:Nat)=V.int (j1:Nat)))=true:=by
    rw [decide_eq_false fun z=>e1 (by have:=V.int.inj z; omega)]
    rfl
   rw [z]
   refine Ed ?_
   rw [if_neg fun z=>e1 z.1] at fin
   exact fin
noncomputable abbrev nV (l:List Nat):List V:=l.map fun n:Nat=>V.int (n:Int)
noncomputable def bc:Sp:=fun vs H Q _=>∃ i:Int,vs=[.int i]/\Q (.bl (decide (0<=i) && decide (i<1200))) H
theorem eG:Ar ["thing"] ["thing"] (Ac eN):=Bk
include N T in
theorem Y6:Ao P w K mg base BW 2 aD.fMy aD.dMy ["thing"] bc:=by
 have GWh:Ao P w K mg base BW 1 aD.fWh aD.dWh ["thing"] QL:=Vn N T
 refine N.FMy.1.ok eG (fun vs H Q E h=>?_) (fun cdv A outer s H vs Q E hr h=>?_)
 ·obtain ⟨i,rfl,_⟩:=h
  rfl
 ·obtain ⟨i,rfl,q⟩:=h
  have hrWh:A_ 1 _:=hr.mono (by decide)
  obtain ⟨tMB,hMB⟩:=T.below
  refine ⟨_,(Ag (Av (DX (Ah GWh hrWh rfl N.FWh.2.2 N.FWh.1.kp N.FWh.2.1 .nil An (Aa (pv 0) Ab)) (DN (HH FW Gw Ae (pv 0) (Bv (v:=.int 1200) rfl hMB ⟨tMB,rfl⟩)))))),?_⟩
  refine ⟨_,rfl,i,rfl,_,rfl,Ed ?_⟩
  refine ⟨_,rfl,_,_,rfl,rfl,_,rfl,?_⟩
  refine Cp (fun h1=>?_) (fun h1=>?_)
  ·rw [h1,Bool.true_and] at q
   exact ⟨_,_,rfl,rfl,q⟩
  ·rw [(Bool.not_eq_true _).mp h1,Bool.false_and] at q
   exact q
noncomputable def PL:Sp:=fun vs H Q _=>∃ (p:Addr) (l:List Nat),vs=[.ref p]/\H p=some (.lst (nV l))/\l.length<=500/\(∀ n∈l,n<1200)/\∀ H',Al H H'->Q (.int (Wd.mk l:Nat)) H'
theorem bH (l:List Nat) (n:Nat):Builtin.bitOr ((Wd.mk l:Nat):Int) (1 * 2 ^ ((n:Nat):Int).toNat)=((Wd.mk (l++[n]):Nat):Int):=by
 rw [Int.one_mul,Int.toNat_natCast,Dm,Fo,Wd.Tw]
theorem Up:Ar ["numbers","some","number"] ["numbers"] (Ac cH):=Bk
include N T in
theorem MP:Ao P w K mg base BW 3 aD.fSt aD.dSt ["numbers"] PL:=by
 have GMy:Ao P w K mg base BW 2 aD.fMy aD.dMy ["thing"] bc:=Y6 N T
 refine N.FSt.1.ok Up (fun vs H Q E h=>?_) (fun cdv A outer s H vs Q E hr h=>?_)
 ·obtain ⟨p,l,rfl,_⟩:=h
  rfl
 ·refine byC fun hng=>?_
  obtain ⟨p,l,rfl,hp,hz,hb,q⟩:=h
  refine hng ?_
  have hrMy:A_ 2 _:=hr.mono (by decide)
  refine ⟨_,(Af (Bw (PW.pt (D_ (CP (CQ (BL CN rfl T.isin PyProof.Rows.boot_isinstance (Aa (pv 0) (Aa (Cv (v:=.ty "list") rfl T.list PyProof.Rows.boot_list rfl) Ab))))) (Ey (CP (CQ (BL (Jj rfl) rfl T.all PyProof.Rows.boot_all (Aa (Bj rfl (BP (osc:=Ac cH) (N:=["numbers","some","number"]) rfl rfl (by decide +kernel)) (BV (pv 0)) (fun _ _ _ _=>Bu) (fun _ _ _ _=>(Ah GMy hrMy rfl N.FMy.2.2 N.FMy.1.kp N.FMy.2.1 .nil An (Aa (pv 0) Ab)))) Ab))))))) (Ag GJ) Bb)
   (Af (BX (i:=1) Up.nd rfl (Or.inl rfl) Ae)
   (Af (DQ PassesOwn.never rfl (BV (pv 0)) (Bo (i:=2) Up.nd rfl (Or.inl rfl)) (Ag (BX (i:=1) Up.nd rfl (Or.inl rfl) (Bc Je (pv 1) (Bc Hx Ae (pv 2))))))
   (Ag (Av (pv 1)))))),?_⟩
  have hS:CZ K H p (nV l):=.inl (.inl hp)
  refine ⟨_,rfl,_,"list",_,_,rfl,.lst hp,Sx,_,rfl,Ce ?_⟩
  have hzl:(nV l).length<sizeLine:=Ay (by simp; omega)
  refine ⟨_,rfl,p,rfl,⟨_,hS⟩,Bq (K:=K) (xs:=nV l) (fun _=>true) (fun _=>.bl true) hS hzl (fun x hx H' hs R k=>k H' (Al.refl H')) (fun x hx _ H' hs R k=>?_) (fun D H' hD hs hl=>?_)⟩
  ·obtain ⟨n,hn,rfl⟩:=List.mem_map.mp hx
   refine ⟨_,rfl,(n:Int),rfl,?_⟩
   have e:(decide ((0:Int)<=(n:Int)) && decide ((n:Int)<1200))=true:=by
    have:=hb n hn
    simp
    omega
   rw [e]
   exact k H' (Al.refl H')
  ·refine ⟨D,(nV l).map fun _=>true,rfl,.inl (.inl ?_),?_⟩
   ·rw [hl,List.filter_eq_self.mpr (fun _ _=>rfl)]
    simp
   ·have e:((nV l).map fun _=>true).all id=true:=by simp
    rw [e]
    refine ⟨_,rfl,Ce ?_⟩
    refine ⟨_,rfl,p,rfl,⟨_,hs.seq hS⟩,DY (K:=K) (a:=p) (xs:=nV l) (fun i σ H4=>H4=H'/\∃ v2,σ=[some (.ref p),some (.int (Wd.mk (l.take i):Nat)),v2]) ⟨rfl,_,rfl⟩ (fun i σ H4 _ h=>by rw [h.1]; exact hs.seq hS) ?_ ?_⟩
    ·rintro i y σ H4 hi ⟨rfl,v2,rfl⟩
     rw [List.getElem?_map] at hi
     obtain ⟨n,hn,rfl⟩:=Option.map_eq_some_iff.mp hi
     have hn':=hb n (List.mem_of_getElem? hn)
     refine ⟨_,rfl,_,rfl,_,_,rfl,rfl,⟨by omega,by omega,by decide⟩,_,_,rfl,rfl,?_⟩
     refine ⟨rfl,some (.int (n:Int)),?_⟩
     dsimp only
     rw [bH,List.take_add_one,hn]
     rfl
    ·rintro σ H4 ⟨rfl,v2,rfl⟩
     have el:l.take (nV l).length=l:=List.take_of_length_le (by simp)
     rw [el]
     exact ⟨_,rfl,q _ hs⟩
noncomputable def S6:Sp:=fun vs H Q _=>∃ (n:Nat) (i:Int),vs=[.int n,.int i]/\Q (.bl (decide (0<=i) && n.testBit i.toNat)) H
theorem XN (n:Nat) (i:Int):decide (V.int (Builtin.bitAnd ((n:Int) / 2 ^ i.toNat) 1)=V.int 1)=n.testBit i.toNat:=by
 rw [Dm,show (1:Int)=((1:Nat):Int) from rfl,← Int.natCast_ediv,Lb,Bool.eq_iff_iff]
 rw [Nat.testBit_eq_decide_div_mod_eq,Nat.and_one_is_mod]
 simp only [decide_eq_true_eq,V.int.injEq]
 exact Int.ofNat_inj
theorem gw:Ar ["some","number"] ["some","number"] (Ac fU):=Bk
include N T in
theorem Oq:Ao P w K mg base BW 1 aD.fHa aD.dHa ["some","number"] S6:=by
 refine N.FHa.1.ok gw (fun vs H Q E h=>?_) (fun cdv A outer s H vs Q E hr h=>?_)
 ·obtain ⟨n,i,rfl,_⟩:=h
  rfl
 ·obtain ⟨n,i,rfl,q⟩:=h
  refine ⟨_,(Ag (Av (DX (HH FW Gw Ae (pv 1) (TQ PySem.F.plainAttrs_int PySem.F.slot_int_bit_length PySem.F.type_int_bit_length K8 (pv 0))) (DN (Du Dh (Bc Kg (Bc Qx (pv 0) (pv 1)) Ae) Ae (Be _)))))),?_⟩
  refine ⟨_,rfl,_,_,rfl,rfl,_,rfl,?_⟩
  refine Cp (fun h1=>?_) (fun h1=>?_)
  ·have hi:0<=i:=of_decide_eq_true h1
   refine ⟨_,rfl,rfl,(n:Int),rfl,rfl,_,_,rfl,rfl,_,rfl,?_⟩
   rw [Hy]
   refine Cp (fun h2=>?_) (fun h2=>?_)
   ·refine ⟨_,rfl,_,rfl,_,_,rfl,rfl,hi,_,_,rfl,rfl,rfl,?_⟩
    dsimp only
    rw [XN]
    rw [h1,Bool.true_and] at q
    exact q
   ·have e:n.testBit i.toNat=false:=by
     cases hb:n.testBit i.toNat with
     | false=>rfl
     | true =>
      have:=Wd.Q7 hb
      exact absurd (decide_eq_true (by omega:i<(Wd.len n:Int))) h2
    rw [e,Bool.and_false] at q
    exact q
  ·rw [(Bool.not_eq_true _).mp h1,Bool.false_and] at q
   exact ⟨_,rfl,Ce q⟩
noncomputable def R1:Sp:=fun vs H Q _=>∃ n:Nat,vs=[.int n]/\n<2 ^ 1200/\∀ p H',H p=none->Al H H'->H' p=some (.lst (nV (Wd.mem n)))->Q (.ref p) H'
theorem TF (n:Nat):((((List.range (Wd.len n)).map fun (i:Nat)=>(0:Int)+(i:Int)).filter fun i=>decide (0<=i) && n.testBit i.toNat).map fun i=>V.int i)=nV (Wd.mem n):=by
 unfold Wd.mem
 rw [List.filter_map,List.map_map]
 have e:((fun i:Int=>decide (0<=i) && n.testBit i.toNat) ∘ fun (i:Nat)=>(0:Int)+(i:Int))=n.testBit:=by
  funext i
  show (decide (0<=(0:Int)+(i:Int)) && n.testBit ((0:Int)+(i:Int)).toNat)=n.testBit i
  have h1:(0:Int)<=0+(i:Int):=by omega
  have h2:((0:Int)+(i:Int)).toNat=i:=by omega
  rw [decide_eq_true h1,h2,Bool.true_and]
 rw [e]
 refine List.map_congr_left fun i _=>?_
 show V.int ((0:Int)+(i:Int))=V.int (i:Int)
 rw [Int.zero_add]
theorem jO:Ar ["some"] ["some"] (Ac cY):=Bk
include N T in
theorem Oz:Ao P w K mg base BW 2 aD.fMe aD.dMe ["some"] R1:=by
 have GHa:Ao P w K mg base BW 1 aD.fHa aD.dHa ["some","number"] S6:=Oq N T
 refine N.FMe.1.ok jO (fun vs H Q E h=>?_) (fun cdv A outer s H vs Q E hr h=>?_)
 ·obtain ⟨n,rfl,_⟩:=h
  rfl
 ·obtain ⟨n,rfl,hn,q⟩:=h
  have hrHa:A_ 1 _:=hr.mono (by decide)
  refine ⟨_,(Ag (Av (Bj rfl (BP (osc:=Ac cY) (N:=["some"]) rfl rfl (by decide +kernel)) (Ia rfl T.range (Aa (TQ PySem.F.plainAttrs_int PySem.F.slot_int_bit_length PySem.F.type_int_bit_length K8 (pv 0)) Ab)) (fun _ _ _ _=>(Eu (CQ (Ah GHa hrHa rfl N.FHa.2.2 N.FHa.1.kp N.FHa.2.1 .nil An (Aa (pv 1) (Aa (pv 0) Ab)))))) (fun _ _ _ _=>(pv 0))))),?_⟩
  have hlen:Wd.len n<=1200:=Wd.Ky hn
  refine ⟨_,rfl,rfl,(n:Int),rfl,rfl,?_⟩
  rw [Hy]
  refine ⟨_,rfl,by omega,by omega,?_⟩
  rw [Int.toNat_natCast]
  refine Jp (lo:=0) (n:=Wd.len n) (fun i=>decide (0<=i) && n.testBit i.toNat) (fun i=>.int i) (Nat.lt_of_le_of_lt hlen (by decide)) (fun i hi H' hs R k=>?_) (fun i hi _ H' hs R k=>⟨_,rfl,k H' (Al.refl H')⟩) (fun D H' hD hs hl=>?_)
  ·exact ⟨_,rfl,_,rfl,n,_,rfl,_,rfl,k H' (Al.refl H')⟩
  ·rw [TF] at hl
   exact q D H' hD hs hl
noncomputable def Ud:Sp:=fun vs H Q _=>∃ (n:Nat) (k:Int) (c:Nat),vs=[.int n,.int k,.int c]/\n<2 ^ 1200 /\ -1200<=k/\k<=1200/\c<=1200/\Q (.int (Wd.mv n k c:Nat)) H
theorem Ot (m c:Nat):Builtin.bitAnd (m:Int) (1 * 2 ^ ((if (0:Int) > (c:Int) then (0:Int) else (c:Int))).toNat - 1)=((m % 2 ^ c:Nat):Int):=by
 have h:¬ (0:Int) > (c:Int):=by omega
 rw [if_neg h,Int.one_mul,Int.toNat_natCast,Dm]
 have hp:1<=2 ^ c:=Nat.one_le_two_pow
 have e:((2 ^ c:Nat):Int) - 1=((2 ^ c - 1:Nat):Int):=by omega
 rw [e,Lb,Nat.and_two_pow_sub_one_eq_mod]
theorem Zn:Ar ["some","steps","count","moved"] ["some","steps","count"] (Ac gY):=Bk
include N T in
theorem Rm:Ao P w K mg base BW 1 aD.fSh aD.dSh ["some","steps","count"] Ud:=by
 refine N.FSh.1.ok Zn (fun vs H Q E h=>?_) (fun cdv A outer s H vs Q E hr h=>?_)
 ·refine byC fun hng=>?_
  obtain ⟨n,k,c,rfl,_⟩:=h
  refine hng ?_
  rfl
 ·refine byC fun hng=>?_
  obtain ⟨n,k,c,rfl,hn,k1,k2,hc,q⟩:=h
  refine hng ?_
  refine ⟨_,(Af (BX (i:=3) Zn.nd rfl (Or.inl rfl) (Qt (Ba Q0 (pv 1) Ae (Be _)) (Bc Tr (pv 0) (pv 1)) (Bc Qx (pv 0) (J4 Kz (pv 1)))))
   (Ag (Av (Bc Kg (pv 3) (Bc Hw (Bc Hx Ae (BL (QS rfl) rfl T.max PyProof.Rows.boot_max (Aa (pv 2) (Aa Ae Ab)))) Ae))))),?_⟩
  have hlen:Wd.len n<=1200:=Wd.Ky hn
  have p1:(2:Int) ^ 27=134217728:=by decide
  refine ⟨_,rfl,_,_,rfl,rfl,_,rfl,?_⟩
  refine Cp (fun h1=>?_) (fun h1=>?_)
  ·have hk:0<k:=of_decide_eq_true h1
   refine ⟨_,rfl,_,rfl,_,_,rfl,rfl,⟨by omega,by rw [Hy,p1]; omega⟩,?_⟩
   refine ⟨_,rfl,_,rfl,_,_,rfl,⟨_,_,rfl,rfl,⟨by split <;> omega,by split <;> omega,by decide⟩,_,_,rfl,rfl,_,_,rfl,rfl,?_⟩⟩
   dsimp only
   have e:((n:Int) * 2 ^ k.toNat)=((n * 2 ^ k.toNat:Nat):Int):=by rw [Dm]; simp
   rw [e,Ot]
   unfold Wd.mv at q
   rw [if_pos hk] at q
   exact q
  ·have hk:¬ 0<k:=fun z=>h1 (decide_eq_true z)
   refine ⟨_,rfl,_,rfl,_,rfl,_,_,rfl,rfl,by omega,?_⟩
   refine ⟨_,rfl,_,rfl,_,_,rfl,⟨_,_,rfl,rfl,⟨by split <;> omega,by split <;> omega,by decide⟩,_,_,rfl,rfl,_,_,rfl,rfl,?_⟩⟩
   dsimp only
   have e:((n:Int) / 2 ^ (-k).toNat)=((n / 2 ^ (-k).toNat:Nat):Int):=by rw [Dm]; simp
   rw [e,Ot]
   unfold Wd.mv at q
   rw [if_neg hk] at q
   exact q
noncomputable def Qf (C:Addr):Sp:=fun vs H Q _=>∃ (x:Addr) (bs:List (Str × Nat)) (ks:List R),vs=[.ref x]/\Cu C H x bs ks/\∀ D ys H',H D=none->Al H H'->H' D=some (.lst ys)->Paired (fun (r:R) y=>TupAt H' [.str r.w,.str r.nm] y) ks ys->Q (.ref D) H'
theorem jA:Ar ["self"] ["self"] (Ac cN):=Bk
include N T in
theorem Li:Ao P w K mg base BW 1 aD.fOz aD.dOz ["self"] (Qf C):=by
 refine N.FOz.1.ok jA (fun vs H Q E h=>?_) (fun cdv A outer s H vs Q E hr h=>?_)
 ·refine byC fun hng=>?_
  obtain ⟨x,bs,ks,rfl,_⟩:=h
  refine hng ?_
  rfl
 ·refine byC fun hng=>?_
  obtain ⟨x,bs,ks,rfl,O,q⟩:=h
  refine hng ?_
  refine ⟨_,(Ag (Av (Bj rfl (BP (osc:=Ac cN) (N:=["self"]) rfl rfl (by decide +kernel)) (BV (CV (pv 0) rfl)) (fun _ _ _ _=>Bu) (fun _ _ _ _=>(Cq (Aa (Az (Am (K:=K) rfl) (pv 0) Ae (fun _ _=>rfl)) (Aa (Az (Am (K:=K) rfl) (pv 0) Ae (fun _ _=>rfl)) Ab))))))),?_⟩
  refine byC fun hng=>?_
  obtain ⟨⟨dx,fs,bl,bn,kp,kr,bvs,pvs,uvs,kvs,h1,l1,l2,l3,l4,lm,h2,h3,h4,h5,h6,h7,h8,h9⟩,ob5,osz,onk⟩:=id O
  refine hng ?_
  have hS:CZ K H kr uvs:=.inl (.inl h8)
  have hul:=h9.length
  refine ⟨_,rfl,x,C,dx,_,_,rfl,h1,T.cl,T.n_knob_rows,l4,kr,rfl,⟨_,hS⟩,Hj (K:=K) (xs:=uvs) (fun _=>true) (fun v=>[.str (Te H v).w,.str (Te H v).nm]) hS (Ay (by omega)) (fun y hy H' hs R k=>k H' (Al.refl H')) (fun y hy _ H' hs R k=>?_) (fun D H' ys hD hs hl hv=>?_)⟩
  ·obtain ⟨r,_,hr0⟩:=Br h9 hy
   have e:=Mj hr0
   rw [e] at k
   obtain ⟨T0,rfl,hT⟩:=hr0.mono hs
   exact ⟨_,rfl,T0,_,_,_,rfl,rfl,.inl (.inl hT),Ai (j:=0) rfl,_,rfl,T0,_,_,_,rfl,rfl,.inl (.inl hT),Ai (j:=1) rfl,by show 2<=sizeLine; decide,fun T6 hT6=>k _ _ (BK hT6) ⟨T6,rfl,Ak⟩⟩
  ·rw [List.filter_eq_self.mpr (fun _ _=>rfl)] at hv
   have h:=Bt (F:=fun (r:R) y=>TupAt H' [.str r.w,.str r.nm] y) (Te H) hv
   rw [Oi h9] at h
   exact q D ys H' hD hs hl h
noncomputable def Tp (C:Addr):Sp:=fun vs H Q _=>∃ (x:Addr) (bs:List (Str × Nat)) (ks:List R) (wd:Str) (D:Nat),vs=[.ref x,.int (D:Nat),.str wd]/\Cu C H x bs ks/\∀ L (cl:List Nat) H',H L=none->Al H H'->H' L=some (.lst (nV cl))->(∀ k,k∈cl ↔ ∃ r,ks[k]? = some r/\r.w=wd/\D.testBit k=true)->cl.length<=200->Q (.ref L) H'
theorem bU:Ar ["organ","knobs","word","words"] ["organ","knobs","word"] (Ac Yn):=Bk
include N T in
theorem R4:Ao P w K mg base BW 2 aD.fDc aD.dDc ["organ","knobs","word"] (Tp C):=by
 have GOz:Ao P w K mg base BW 1 aD.fOz aD.dOz ["self"] (Qf C):=Li N T
 have GHa:Ao P w K mg base BW 1 aD.fHa aD.dHa ["some","number"] S6:=Oq N T
 refine N.FDc.1.ok bU (fun vs H Q E h=>?_) (fun cdv A outer s H vs Q E hr h=>?_)
 ·refine byC fun hng=>?_
  obtain ⟨x,bs,ks,wd,D,rfl,_⟩:=h
  refine hng ?_
  rfl
 ·refine byC fun hng=>?_
  obtain ⟨x,bs,ks,wd,D,rfl,O,q⟩:=h
  refine hng ?_
  have hrOz:A_ 1 _:=hr.mono (by decide)
  have hrHa:A_ 1 _:=hr.mono (by decide)
  refine ⟨_,(Af (Iw (i:=3) bU.nd rfl rfl rfl (BP (osc:=Ac Yn) (N:=["organ","knobs","word","words"]) rfl rfl (by decide +kernel)) (BV (CT (pv 0) T.cl N.FOz.2.2 GOz hrOz N.FOz.2.1 .nil An)) (fun _ _ _ _=>Bu) (fun _ _ _ _=>(Az (Am (K:=K) rfl) (pv 0) Ae (fun _ _=>rfl))))
   (Ag (Av (Iz rfl (Em (osc:=Ac Yn) (N:=["organ","knobs","word","words"]) rfl rfl (by decide +kernel)) (Ec rfl T.enumerate (Aa (pv 3) Ab)) (fun _ _ _ _=>Eu (PW.pt (Kd (Ba Dh (pv 1) (pv 4) (Be _)) (JF (CQ (Ah GHa hrHa rfl N.FHa.2.2 N.FHa.1.kp N.FHa.2.1 .nil An (Aa (pv 3) (Aa (pv 0) Ab)))))))) (fun _ _ _ _=>(pv 0)))))),?_⟩
  refine byC fun hng=>?_
  obtain ⟨⟨dx,fs,bl,bn,kp,kr,bvs,pvs,uvs,kvs,h1,l1,l2,l3,l4,lm,h2,h3,h4,h5,h6,h7,h8,h9⟩,ob5,osz,onk⟩:=id O
  refine hng ?_
  refine ⟨_,rfl,x,dx,fs,rfl,h1,lm _ (by decide +kernel),x,_,_,rfl,O,fun D1 ys H1 hD1 s1 hl1 hv1=>?_⟩
  have hS1:CZ K H1 D1 ys:=.inl (.inl hl1)
  have hyl:=hv1.length
  refine ⟨D1,rfl,⟨_,hS1⟩,Bq (K:=K) (xs:=ys) (fun _=>true) (Fg H1 0) hS1 (Ay (by omega)) (fun y hy H' hs R k=>k H' (Al.refl H')) (fun y hy _ H' hs R k=>?_) (fun D2 H2 hD2 s2 hl2=>?_)⟩
  ·obtain ⟨r,_,hr0⟩:=Br hv1 hy
   have e:=Fe hr0 0
   obtain ⟨T0,rfl,hT⟩:=hr0.mono hs
   have kk:=k H' (Al.refl H')
   rw [e] at kk
   exact ⟨_,rfl,T0,_,_,_,rfl,rfl,.inl (.inl hT),Ai (j:=0) rfl,kk⟩
  rw [List.filter_eq_self.mpr (fun _ _=>rfl),Iu 0 hv1] at hl2
  have e2:(ks.map fun r=>([V.str r.w,V.str r.nm]:List V).getD 0 .non)=ks.map fun r=>V.str r.w:=rfl
  rw [e2] at hl2
  have hS2:CZ K H2 D2 (ks.map fun r=>V.str r.w):=.inl (.inl hl2)
  refine ⟨_,rfl,D2,rfl,⟨_,hS2⟩,Gp (K:=K) (xs:=ks.map fun r=>V.str r.w) (fun i v=>decide (v=.str wd) && D.testBit i) (fun i _=>.int (i:Nat)) hS2 (Ay (by rw [List.length_map]; omega)) (fun i v hv H' hs R k=>?_) (fun i v hv _ H' hs R k=>⟨_,rfl,k H' (Al.refl H')⟩) (fun D3 H3 hD3 s3 hl3=>?_)⟩
  ·rw [List.getElem?_map] at hv
   obtain ⟨z,hz,rfl⟩:=Option.map_eq_some_iff.mp hv
   have kk:=k H' (Al.refl H')
   refine ⟨_,rfl,_,rfl,rfl,_,rfl,?_⟩
   refine Cp (fun g=>?_) (fun g=>?_)
   ·rw [g,Bool.true_and] at kk
    refine ⟨_,rfl,_,rfl,D,_,rfl,_,rfl,?_⟩
    rw [decide_eq_true (by omega:(0:Int)<=(i:Nat)),Bool.true_and,Int.toNat_natCast]
    exact kk
   ·rw [(Bool.not_eq_true _).mp g,Bool.false_and] at kk
    exact kk
  ·refine q D3 (((ks.map fun r=>V.str r.w).zipIdx.filter fun p=>decide (p.1=V.str wd) && D.testBit p.2).map (·.2)) H3 ((s1.trans s2).free hD3) ((s1.trans s2).trans s3) ?_ (fun k=>?_) ?_
   ·rw [hl3]
    refine congrArg (fun l=>some (HO.lst l)) ?_
    unfold nV
    rw [List.map_map]
    rfl
   ·constructor
    ·intro hk
     obtain ⟨⟨v,k'⟩,hm,rfl⟩:=List.mem_map.mp hk
     obtain ⟨h1,h2⟩:=List.mem_filter.mp hm
     have h3:=List.mem_zipIdx' h1
     rw [List.getElem_map] at h3
     obtain ⟨hlt,h3⟩:=h3
     rw [Bool.and_eq_true] at h2
     have hlt':k'<ks.length:=by simpa using hlt
     refine ⟨ks[k'],List.getElem?_eq_getElem hlt',?_,h2.2⟩
     have:=h2.1
     rw [h3] at this
     exact V.str.inj (of_decide_eq_true this)
    ·rintro ⟨z,hz,hc,hd⟩
     refine List.mem_map.mpr ⟨(V.str z.w,k),List.mem_filter.mpr ⟨?_,?_⟩,rfl⟩
     ·rw [List.mem_zipIdx_iff_getElem?,List.getElem?_map,hz]
      rfl
     ·show (decide (V.str z.w=V.str wd) && D.testBit k)=true
      rw [hc,hd,decide_eq_true rfl]
      rfl
   ·rw [List.length_map]
    refine Nat.le_trans (List.length_filter_le _ _) ?_
    rw [List.length_zipIdx,List.length_map]
    omega
noncomputable def Wr (C:Addr):Sp:=fun vs H Q _=>∃ (x:Addr) (bs:List (Str × Nat)) (ks:List R) (n:Nat),vs=[.ref x,.int (n:Nat)]/\Cu C H x bs ks/\n<2 ^ 1200/\Q (.int (Wd.mv n 0 (bs.map (·.2)).sum:Nat)) H
theorem Dp {C:Addr} {H:Hp} {x:Addr} {bs:List (Str × Nat)} {ks:List R} (O:Cu C H x bs ks):(bs.map (·.2)).sum<=305:=by
 have h:=KH bs 61 O.sz
 rw [Ef] at h
 have:=O.nb
 have:bs.length * 61<=5 * 61:=Nat.mul_le_mul_right _ this
 omega
theorem iK:Ar ["organ","held"] ["organ","held"] (Ac gO):=Bk
include N T in
theorem Vk:Ao P w K mg base BW 2 aD.fHk aD.dHk ["organ","held"] (Wr C):=by
 have GSh:Ao P w K mg base BW 1 aD.fSh aD.dSh ["some","steps","count"] Ud:=Rm N T
 have GOc:Ao P w K mg base BW 1 aD.fOc aD.dOc ["self"] (Qz C):=Od N T
 refine N.FHk.1.ok iK (fun vs H Q E h=>?_) (fun cdv A outer s H vs Q E hr h=>?_)
 ·refine byC fun hng=>?_
  obtain ⟨x,bs,ks,n,rfl,_⟩:=h
  refine hng ?_
  rfl
 ·refine byC fun hng=>?_
  obtain ⟨x,bs,ks,n,rfl,O,hn,q⟩:=h
  refine hng ?_
  have hrSh:A_ 1 _:=hr.mono (by decide)
  have hrOc:A_ 1 _:=hr.mono (by decide)
  refine ⟨_,(Ag (Av (Ah GSh hrSh rfl N.FSh.2.2 N.FSh.1.kp N.FSh.2.1 .nil An (Aa (pv 1) (Aa Ae (Aa (CT (pv 0) T.cl N.FOc.2.2 GOc hrOc N.FOc.2.1 .nil An) Ab)))))),?_⟩
  refine byC fun hng=>?_
  obtain ⟨⟨dx,fs,bl,bn,kp,kr,bvs,pvs,uvs,kvs,h1,l1,l2,l3,l4,lm,_⟩,_⟩:=id O
  refine hng ?_
  have h305:=Dp O
  refine ⟨_,rfl,_,rfl,x,dx,fs,rfl,h1,lm _ (by decide +kernel),x,bs,ks,rfl,O,n,0,(Ea bs).length,rfl,hn,by decide,by decide,by rw [Ef]; omega,?_⟩
  rw [Ef]
  exact q
theorem Ui {n:Nat} (h:n<=3000):n<sizeLine:=Nat.lt_of_le_of_lt h (by decide)
theorem Sq {i:Nat} {v:V} {σ:St} {H:Hp} {Q:St->Hp->Prop}:Dc i v σ H Q=Q (σ.set i (some v)) H:=rfl
theorem Qp {c:TT} {tb u:TS} {D:Ends} {r:VK} {b k:St->Hp->Prop} {σ:St} {H:Hp} (h:KY c tb { D with nx:=u D } σ H):({ nx:=Xe (KY c tb) u D,rt:=r,bk:=b,ct:=k }:Ends).nx σ H:=h
noncomputable def Xb:Option HO->Nat
 | some (.lst xs)=>xs.length
 | _=>0
noncomputable def Wf:Option HO->Nat
 | some (.dK kvs)=>kvs.length
 | _=>0
noncomputable abbrev kI (j:Nat):Key:=Sum.inl ((j:Nat):Int)
theorem Q3 {kvs:List (Key × V)} {js:List Nat} (h:kvs.map (·.1)=js.map kI) (j:Nat):(Ci kvs (kI j)).isSome=decide (j∈js):=by
 rw [← E_]
 rw [Bool.eq_iff_iff,List.any_eq_true,decide_eq_true_eq]
 constructor
 ·rintro ⟨p,hp,e⟩
  have:p.1∈js.map kI:=by rw [← h]; exact List.mem_map_of_mem hp
  obtain ⟨j',hj',e'⟩:=List.mem_map.mp this
  have e2:kI j'=kI j:=e'.trans (of_decide_eq_true e)
  have:((j':Nat):Int)=(j:Nat):=Sum.inl.inj e2
  have:j'=j:=by omega
  subst this
  exact hj'
 ·intro hj
  have:kI j∈kvs.map (·.1):=by rw [h]; exact List.mem_map_of_mem hj
  obtain ⟨p,hp,e⟩:=List.mem_map.mp this
  exact ⟨p,hp,decide_eq_true e⟩
noncomputable def Ld (H:Hp) (bs:List (Str × Nat)) (kbs:List Kb) (D n:Nat) (kvs:List (Key × V)) (js:List Nat):Prop:=∀ (m j:Nat),js[m]? = some j->∃ (k i:Nat) (T:Addr) (z:Kb),Ci kvs (kI j)=some (.ref T)/\H T=some (.tup [V.int (k:Nat),V.int (i:Nat)])/\D.testBit k=true/\kbs[k]? = some z/\gl bs z i=some j/\(n.testBit i=true \/ i∈js.take m)
theorem Ld.jX {H H':Hp} {bs:List (Str × Nat)} {kbs:List Kb} {D n:Nat} {kvs:List (Key × V)} {js:List Nat} (h:Ld H bs kbs D n kvs js) (hs:∀ T xs,H T=some (.tup xs)->H' T=some (.tup xs)):Ld H' bs kbs D n kvs js:=fun m j hm=>by
 refine byC fun hng=>?_
 obtain ⟨k,i,T,z,h1,h2,h3⟩:=h m j hm
 refine hng ?_
 exact ⟨k,i,T,z,h1,hs _ _ h2,h3⟩
theorem Ld.mono {H H':Hp} {bs:List (Str × Nat)} {kbs:List Kb} {D n:Nat} {kvs:List (Key × V)} {js:List Nat} (h:Ld H bs kbs D n kvs js) (s:Al H H'):Ld H' bs kbs D n kvs js:=h.jX fun T xs e=>s _ _ e
theorem Ld.upd {H:Hp} {bs:List (Str × Nat)} {kbs:List Kb} {D n:Nat} {kvs:List (Key × V)} {js:List Nat} {A:Addr} {o u:HO} (h:Ld H bs kbs D n kvs js) (ha:H A=some u) (hu:∀ xs,u ≠ .tup xs):Ld (L2.upd H A o) bs kbs D n kvs js:=h.jX fun T xs e=>by
 rw [Ax (fun z=>by rw [z,ha] at e; exact hu xs (Option.some.inj e))]
 exact e
theorem Ld.snoc {H:Hp} {bs:List (Str × Nat)} {kbs:List Kb} {D n:Nat} {kvs:List (Key × V)} {js:List Nat} {k i0 j:Nat} {T:Addr} {z:Kb} (h:Ld H bs kbs D n kvs js) (nv:Ci kvs (kI j)=none) (hT:H T=some (.tup [V.int (k:Nat),V.int (i0:Nat)])) (hk:D.testBit k=true) (hz:kbs[k]? = some z) (hg:gl bs z i0=some j) (hi:n.testBit i0=true \/ i0∈js) :
  Ld H bs kbs D n (kvs++[(kI j,.ref T)]) (js++[j]):=fun m j' hm=>by
 by_cases hlt:m<js.length
 ·rw [List.getElem?_append_left hlt] at hm
  refine byC fun hng=>?_
  obtain ⟨k',i',T',z',h1,h2,h3,h4,h5,h6⟩:=h m j' hm
  refine hng ?_
  refine ⟨k',i',T',z',?_,h2,h3,h4,h5,?_⟩
  ·rw [Gh _ _ _ _ nv]
   by_cases e:kI j'=kI j
   ·rw [e,nv] at h1
    cases h1
   ·rw [if_neg e]
    exact h1
  ·rw [List.take_append_of_le_length (Nat.le_of_lt hlt)]
   exact h6
 ·have hm':=(List.getElem?_eq_some_iff.mp hm).1
  rw [List.length_append,List.length_singleton] at hm'
  have em:m=js.length:=by omega
  subst em
  rw [List.getElem?_append_right (Nat.le_refl _),Nat.sub_self] at hm
  have ej:j=j':=by simpa using hm
  subst ej
  refine ⟨k,i0,T,z,?_,hT,hk,hz,hg,?_⟩
  ·rw [Gh _ _ _ _ nv,if_pos rfl]
  ·rw [List.take_append_of_le_length (Nat.le_refl _),List.take_length]
   exact hi
noncomputable def YW (C:Addr):Sp:=fun vs H Q _=>∃ (x:Addr) (c:Nat->Str) (sz:List Nat) (kbs:List Kb) (D n:Nat),vs=[.ref x,.int (D:Nat),.int (n:Nat)]/\Cu C H x (Bg c sz) (BR c kbs)/\KD sz.length kbs/\n<2 ^ 1200/\(∀ i,n.testBit i=true->i<sz.sum) /\
 ∀ W (kvs:List (Key × V)) (js:List Nat) H',H W=none->Al H H'->H' W=some (.dK kvs)->kvs.map (·.1)=js.map kI->js.Nodup->Ld H' (Bg c sz) kbs D n kvs js->(∀ j,j∈js ↔ J2 (stp (Bg c sz) kbs D) (fun i=>n.testBit i=true) j)->Q (.ref W) H'
theorem Nm:Ar ["organ","knobs","held","couplers","ways","left","ahead","knob","key"] ["organ","knobs","held"] (Ac dJ):=Bk
include N T in
theorem Z9:Ao P w K mg base BW 4 aD.fWa aD.dWa ["organ","knobs","held"] (YW C):=by
 have GDc:Ao P w K mg base BW 2 aD.fDc aD.dDc ["organ","knobs","word"] (Tp C):=R4 N T
 have GMe:Ao P w K mg base BW 2 aD.fMe aD.dMe ["some"] R1:=Oz N T
 have GLe:Ao P w K mg base BW 3 aD.fLe aD.dLe ["organ","knob","key"] (bY C):=aR N T
 have GHa:Ao P w K mg base BW 1 aD.fHa aD.dHa ["some","number"] S6:=Oq N T
 refine N.FWa.1.ok Nm (fun vs H Q E h=>?_) (fun cdv A outer s H vs Q E hr h=>?_)
 ·refine byC fun hng=>?_
  obtain ⟨x,c,sz,kbs,D,n,rfl,_⟩:=h
  refine hng ?_
  rfl
 ·refine byC fun hng=>?_
  obtain ⟨x,c,sz,kbs,D,n,rfl,O,hkb,hn,hnt,q⟩:=h
  refine hng ?_
  have hrDc:A_ 2 _:=hr.mono (by decide)
  have hrMe:A_ 2 _:=hr.mono (by decide)
  have hrLe:A_ 3 _:=hr.mono (by decide)
  have hrHa:A_ 1 _:=hr.mono (by decide)
  have hu:=Jh hr
  refine ⟨_,(Af (BX (i:=3) Nm.nd rfl (Or.inl rfl) (Ah GDc hrDc rfl N.FDc.2.2 N.FDc.1.kp N.FDc.2.1 .nil An (Aa (pv 0) (Aa (pv 1) (Aa BZ Ab)))))
   (Af (BX (i:=4) Nm.nd rfl (Or.inl rfl) K5)
   (Af (BX (i:=5) Nm.nd rfl (Or.inl rfl) (Ah GMe hrMe rfl N.FMe.2.2 N.FMe.1.kp N.FMe.2.1 .nil An (Aa (pv 2) Ab)))
   (Af (RG PassesOwn.never (Jg (pv 5) (fun _=>rfl)) (Af (BX (i:=6) Nm.nd rfl (Or.inl rfl) (Il PySem.F.plainAttrs_list PySem.F.slot_list_pop PySem.F.type_list_pop S5 (pv 5) (Aa Ae Ab)))
   (Ag (DQ PassesOwn.never rfl (BV (pv 3)) (Bo (i:=7) Nm.nd rfl (Or.inl rfl)) (Af (BX (i:=8) Nm.nd rfl (Or.inl rfl) (Ah GLe hrLe rfl N.FLe.2.2 N.FLe.1.kp N.FLe.2.1 .nil An (Aa (pv 0) (Aa (pv 7) (Aa (pv 6) Ab)))))
   (Ag (Bw (PW.pt (Kd (Ba VH (pv 8) Kr (Be _)) (JF (Rj (Qk hu (pv 8) (pv 4)))))) (Af (Nr hu (pv 4) (pv 8) (Cq (Aa (pv 7) (Aa (pv 6) Ab))) rfl)
   (Ag (Bw (CP (CQ (Ah GHa hrHa rfl N.FHa.2.2 N.FHa.1.kp N.FHa.2.1 .nil An (Aa (pv 2) (Aa (pv 8) Ab))))) (Ag (Es (Il PySem.F.plainAttrs_list PySem.F.slot_list_append PySem.F.type_list_append Dg (pv 5) (Aa (pv 8) Ab)))) Bb))) Bb)))))))
   (Ag (Av (pv 4))))))),?_⟩
  have hsum:((Bg c sz).map (·.2)).sum=sz.sum:=by rw [B_]
  generalize hst:stp (Bg c sz) kbs D=st
  have hR:∀ {j},J2 st (fun i=>n.testBit i=true) j->j<sz.sum:=fun {j} r=>by
   rw [← hst] at r
   have:=r.lt
   rw [hsum] at this
   exact this
  refine ⟨_,rfl,_,rfl,x,Bg c sz,BR c kbs,"coupler",D,rfl,O,fun CL cl H1 hCL s1 hl1 hcl0 hcll=>?_⟩
  have hcl:∀ k,k∈cl ↔ ∃ z,kbs[k]? = some z/\Wh z=true/\D.testBit k=true:=fun k=>by
   rw [hcl0]
   constructor
   ·rintro ⟨r,hr,hw,hd⟩
    obtain ⟨z,hz,rfl⟩:=Cd hr
    rw [Dy] at hw
    exact ⟨z,hz,decide_eq_true (congrArg V.str hw),hd⟩
   ·rintro ⟨z,hz,hc,hd⟩
    exact ⟨_,Dv hz,(Dy _ _ _).trans (V.str.inj (of_decide_eq_true hc)),hd⟩
  intro W hW
  obtain ⟨H2,eqH,t2,u2⟩:=Hq (o:=HO.dK []) hW
  rw [eqH]
  refine ⟨_,rfl,n,rfl,hn,fun L H3 hL s3 hl3=>?_⟩
  have s13:=t2.trans s3
  have s03:=s1.trans s13
  have hW0:H W=none:=s1.free hW
  have hL0:H L=none:=(s1.trans t2).free hL
  have hWL:W ≠ L:=fun z=>by rw [← z,s3 _ _ u2] at hl3; cases hl3
  have c3:=s13 _ _ hl1
  have hS3:CZ K H3 CL (nV cl):=.inl (.inl c3)
  have hCW:CL ≠ W:=fun z=>by rw [z,s3 _ _ u2] at c3; cases c3
  have hCL':CL ≠ L:=fun z=>by rw [z] at hl1; rw [t2 _ _ hl1] at hL; cases hL
  show Dc 5 _ _ _ _
  rw [Sq]
  refine Qp ?_
  refine RZ (fun σ H4=>Al H H4/\H4 CL=some (.lst (nV cl))/\∃ (kvs:List (Key × V)) (js ls:List Nat),H4 W=some (.dK kvs)/\H4 L=some (.lst (nV ls))/\kvs.map (·.1)=js.map kI/\js.Nodup/\Ld H4 (Bg c sz) kbs D n kvs js/\(∀ j∈js,J2 st (fun i=>n.testBit i=true) j)/\(∀ i∈ls,n.testBit i=true \/ i∈js)/\(∀ i,(n.testBit i=true \/ i∈js)->i∈ls \/ ∀ j,st i j->j∈js)/\ls.length+(sz.sum - js.length)<=1600/\∃ v6 v7 v8,σ=[some (.ref x),some (.int (D:Nat)),some (.int (n:Nat)),some (.ref CL),some (.ref W),some (.ref L),v6,v7,v8])
   (fun _ H4=>Xb (H4 L)+(sz.sum - Wf (H4 W))) ⟨s03,c3,[],[],Wd.mem n,s3 _ _ u2,hl3,rfl,List.nodup_nil,(fun m j hm=>by simp at hm),(fun j hj=>nomatch hj),(fun i hi=>.inl (Wd.mem_iff.mp hi)),(fun i hi=>.inl (Wd.mem_iff.mpr (hi.resolve_right (by simp)))),?_,_,_,_,rfl⟩ ?_ ?_
  ·have:=Wd.Ky hn
   have:(Wd.mem n).length<=Wd.len n:=by unfold Wd.mem; exact Nat.le_trans (List.length_filter_le _ _) (by simp)
   have h305:=Dp O
   rw [hsum] at h305
   simp
   omega
  ·rintro σ H4 ⟨s4,c4,kvs,js,ls,hw,hl,hkv,nd,hpar,hj,hls,hcl4,hbig,v6,v7,v8,rfl⟩
   refine ⟨_,rfl,_,.inl ⟨_,.inl (.inl hl),rfl⟩,?_⟩
   have hjl:js.length<=sz.sum:=Ej sz.sum nd fun j h=>hR (hj j h)
   have hkl:kvs.length=js.length:=by have:=congrArg List.length hkv; simpa using this
   cases ls with
   | nil =>
    refine Ce ?_
    refine ⟨_,rfl,q W kvs js H4 hW0 s4 hw hkv nd hpar fun j=>?_⟩
    rw [hst]
    exact J2.all (W:=fun j=>j∈js) hj (fun i hi=>(hcl4 i hi).resolve_left (by simp)) j
   | cons i0 ls =>
    refine Ed ?_
    refine ⟨_,rfl,.inl ⟨rfl,_,.inl (.inl hl)⟩,L,_,0,0,.int (i0:Nat),rfl,rfl,hl,by decide,by decide,seqIndex_of (by decide) (by simp),rfl,?_⟩
    have w5:upd H4 L (.lst ((nV (i0::ls)).eraseIdx 0)) W=some (.dK kvs):=by rw [Ax hWL]; exact hw
    have l5:upd H4 L (.lst ((nV (i0::ls)).eraseIdx 0)) L=some (.lst (nV ls)):=Ak
    have c5:upd H4 L (.lst ((nV (i0::ls)).eraseIdx 0)) CL=some (.lst (nV cl)):=by rw [Ax hCL']; exact c4
    have s5:Al H (upd H4 L (.lst ((nV (i0::ls)).eraseIdx 0))):=fun b o e=>by rw [Ax (Aw e hL0)]; exact s4 _ _ e
    have em:Xb (H4 L)+(sz.sum - Wf (H4 W))=ls.length+1+(sz.sum - js.length):=by
     rw [hl,hw]
     show (nV (i0::ls)).length+(sz.sum - kvs.length)=_
     rw [hkl]
     simp
    rw [em]
    have par5:Ld (upd H4 L (.lst ((nV (i0::ls)).eraseIdx 0))) (Bg c sz) kbs D n kvs js:=hpar.upd hl (fun xs z=>by cases z)
    generalize upd H4 L (.lst ((nV (i0::ls)).eraseIdx 0))=H5 at w5 l5 c5 s5 par5 ⊢
    have hi0:i0<sz.sum:=by
     rcases hls i0 (List.mem_cons_self ..) with h | h
     ·exact hnt i0 h
     ·exact hR (hj i0 h)
    have hi0R:∀ j,st i0 j->J2 st (fun i=>n.testBit i=true) j:=fun j h=>by
     rcases hls i0 (List.mem_cons_self ..) with g | g
     ·exact .one g h
     ·exact .more (hj i0 g) h
    obtain ⟨qd,hq⟩:∃ qd,(Ea (Bg c sz))[i0]? = some qd:=⟨_,List.getElem?_eq_getElem (by rw [Ef,hsum]; exact hi0)⟩
    have M:ls.length+(sz.sum - js.length)<ls.length+1+(sz.sum - js.length):=by omega
    refine ⟨_,rfl,CL,rfl,⟨_,.inl (.inl c5)⟩,DY (K:=K) (a:=CL) (xs:=nV cl) (fun m σ H6=>Al H H6/\H6 CL=some (.lst (nV cl))/\∃ (kvs6:List (Key × V)) (js6 ls6:List Nat),H6 W=some (.dK kvs6)/\H6 L=some (.lst (nV ls6))/\kvs6.map (·.1)=js6.map kI/\js6.Nodup/\Ld H6 (Bg c sz) kbs D n kvs6 js6/\(∀ j∈js6,J2 st (fun i=>n.testBit i=true) j)/\(∀ i∈ls6,n.testBit i=true \/ i∈js6)/\(∀ i,(n.testBit i=true \/ i∈js6)->i=i0 \/ i∈ls6 \/ ∀ j,st i j->j∈js6)/\(∀ k∈cl.take m,∀ z j,kbs[k]? = some z->gl (Bg c sz) z i0=some j->j∈js6)/\(n.testBit i0=true \/ i0∈js6)/\ls6.length+(sz.sum - js6.length)<=ls.length+(sz.sum - js.length)/\∃ v7 v8,σ=[some (.ref x),some (.int (D:Nat)),some (.int (n:Nat)),some (.ref CL),some (.ref W),some (.ref L),some (.int (i0:Nat)),v7,v8])
     ⟨s5,c5,kvs,js,ls,w5,l5,hkv,nd,par5,hj,(fun i hi=>hls i (List.mem_cons_of_mem _ hi)),(fun i hi=>?_),(fun k hk=>by simp at hk),hls i0 (List.mem_cons_self ..),Nat.le_refl _,_,_,rfl⟩ (fun m σ H6 _ h=>.inl (.inl h.2.1)) ?_ ?_⟩
    ·rcases hcl4 i hi with h | h
     ·rcases List.mem_cons.mp h with rfl | h
      ·exact .inl rfl
      ·exact .inr (.inl h)
     ·exact .inr (.inr h)
    ·rintro m y σ H6 hm ⟨s6,c6,kvs6,js6,ls6,w6,l6,kv6,nd6,par6,hj6,hls6,hcl6,hdone,hi06,hmeas,v7,v8,rfl⟩
     rw [List.getElem?_map] at hm
     obtain ⟨k,hk,rfl⟩:=Option.map_eq_some_iff.mp hm
     obtain ⟨z,hz,hzc,hzd⟩:=(hcl k).mp (List.mem_of_getElem? hk)
     have zok:=hkb.ok z (List.mem_of_getElem? hz)
     obtain ⟨j1,j2,s0,rfl⟩:=T_ zok hzc
     obtain ⟨hj1,hj2,_,_⟩:=zok
     have hbj1:(Bg c sz)[j1]? = some (c j1,sz[j1]):=FQ (List.getElem?_eq_getElem hj1)
     have hbj2:(Bg c sz)[j2]? = some (c j2,sz[j2]):=FQ (List.getElem?_eq_getElem hj2)
     have hkrow:(BR c kbs)[k]? = some ⟨"coupler",c (30+k),[.str (c j1),.str (c j2),.int s0]⟩:=Dv hz
     have hjl6:js6.length<=sz.sum:=Ej sz.sum nd6 fun j h=>hR (hj6 j h)
     have hkl6:kvs6.length=js6.length:=by have:=congrArg List.length kv6; simpa using this
     have h305:=Dp O
     rw [hsum] at h305
     refine ⟨_,rfl,_,rfl,_,rfl,x,Bg c sz,BR c kbs,k,i0,j1,j2,(c j1,sz[j1]),(c j2,sz[j2]),qd,c (30+k),s0,rfl,O.mono s6,hq,hkrow,hbj1,hbj2,fun H7 s7=>?_⟩
     have done':∀ {js':List Nat},(∀ j∈js6,j∈js')->(∀ j,gl (Bg c sz) (.cp j1 j2 s0) i0=some j->j∈js')->∀ k'∈cl.take (m+1),∀ z j,kbs[k']? = some z->gl (Bg c sz) z i0=some j->j∈js':=fun {js'} hsub hnew k' hk' z' j hz' hg=>by
      rw [List.take_add_one,hk] at hk'
      rcases List.mem_append.mp hk' with h | h
      ·exact hsub j (hdone k' h z' j hz' hg)
      ·have:k'=k:=by simpa using h
       subst this
       rw [hz] at hz'
       cases hz'
       exact hnew j hg
     rcases Qu (j1:=j1) (s:=s0) hq hbj2 with ⟨e,eg⟩ | ⟨j,e,eg,hjt⟩
     ·rw [e]
      refine ⟨_,rfl,rfl,_,rfl,Ce (Ce ?_)⟩
      exact ⟨s6.trans s7,s7 _ _ c6,kvs6,js6,ls6,s7 _ _ w6,s7 _ _ l6,kv6,nd6,par6.mono s7,hj6,hls6,hcl6,done' (fun j h=>h) (fun j h=>by rw [eg] at h; cases h),hi06,hmeas,_,_,rfl⟩
     ·rw [e]
      have hstj:st i0 j:=by rw [← hst]; exact ⟨k,_,hzd,hz,eg⟩
      refine ⟨_,rfl,rfl,_,rfl,Ed ?_⟩
      refine ⟨_,rfl,_,rfl,W,_,rfl,Hh.k (k:=kI j) (s7 _ _ w6),_,rfl,?_⟩
      rw [Q3 kv6 j]
      by_cases hin:j∈js6
      ·rw [decide_eq_true hin]
       refine Ce ?_
       exact ⟨s6.trans s7,s7 _ _ c6,kvs6,js6,ls6,s7 _ _ w6,s7 _ _ l6,kv6,nd6,par6.mono s7,hj6,hls6,hcl6,done' (fun j h=>h) (fun j' h=>by rw [eg] at h; cases h; exact hin),hi06,hmeas,_,_,rfl⟩
      ·rw [decide_eq_false hin]
       refine Ed ?_
       have nv:Ci kvs6 (kI j)=none:=by
        have:=Q3 kv6 j
        rw [decide_eq_false hin] at this
        exact Option.not_isSome_iff_eq_none.mp (by rw [this]; decide)
       have nd7:(js6++[j]).Nodup:=List.nodup_append.mpr ⟨nd6,by simp,fun a ha b hb=>by rw [List.mem_singleton.mp hb]; intro z; exact hin (z ▸ ha)⟩
       have hj7:∀ j'∈js6++[j],J2 st (fun i=>n.testBit i=true) j':=fun j' h=>by
        rcases List.mem_append.mp h with h | h
        ·exact hj6 j' h
        ·rw [List.mem_singleton.mp h]
         exact hi0R j hstj
       have hjl7:(js6++[j]).length<=sz.sum:=Ej sz.sum nd7 fun j h=>hR (hj7 j h)
       rw [List.length_append,List.length_singleton] at hjl7
       refine ⟨_,rfl,_,rfl,by show 2<=sizeLine; decide,fun T8 hT8=>?_⟩
       obtain ⟨H8,eqH,t8,uT8⟩:=Hq (o:=HO.tup [V.int (k:Nat),V.int (i0:Nat)]) hT8
       rw [eqH]
       have w8:=t8 _ _ (s7 _ _ w6)
       refine ⟨_,rfl,_,rfl,W,_,rfl,QF.k (k:=kI j) w8 (Ay (by omega)),?_⟩
       have u9:upd H8 W (.dK (putK kvs6 (kI j) (.ref T8))) W=some (.dK (kvs6++[(kI j,.ref T8)])):=by rw [← S9 _ nv]; exact Ak
       have l9:upd H8 W (.dK (putK kvs6 (kI j) (.ref T8))) L=some (.lst (nV ls6)):=by rw [Ax hWL.symm]; exact t8 _ _ (s7 _ _ l6)
       have c9:upd H8 W (.dK (putK kvs6 (kI j) (.ref T8))) CL=some (.lst (nV cl)):=by rw [Ax hCW]; exact t8 _ _ (s7 _ _ c6)
       have s9:Al H (upd H8 W (.dK (putK kvs6 (kI j) (.ref T8)))):=fun b o e=>by rw [Ax (Aw e hW0)]; exact t8 _ _ (s7 _ _ (s6 _ _ e))
       have par9:Ld (upd H8 W (.dK (putK kvs6 (kI j) (.ref T8)))) (Bg c sz) kbs D n (kvs6++[(kI j,.ref T8)]) (js6++[j]):=by
        have p8:=((par6.mono s7).mono t8).upd (o:=.dK (putK kvs6 (kI j) (.ref T8))) w8 (fun xs z=>by cases z)
        exact p8.snoc nv (by rw [Ax (fun z=>by rw [z,w8] at uT8; cases uT8)]; exact uT8) hzd hz eg hi06
       generalize upd H8 W (.dK (putK kvs6 (kI j) (.ref T8)))=H9 at u9 l9 c9 s9 par9 ⊢
       have kv9:(kvs6++[(kI j,V.ref T8)]).map (·.1)=(js6++[j]).map kI:=by rw [List.map_append,List.map_append,kv6]; rfl
       refine ⟨_,rfl,_,rfl,n,_,rfl,_,rfl,?_⟩
       have eb:(decide ((0:Int)<=(j:Nat)) && n.testBit ((j:Nat):Int).toNat)=n.testBit j:=by rw [decide_eq_true (by omega),Bool.true_and,Int.toNat_natCast]
       rw [eb]
       cases hb:n.testBit j with
       | true =>
        refine Ce ?_
        refine ⟨s9,c9,_,js6++[j],ls6,u9,l9,kv9,nd7,par9,hj7,(fun i h=>(hls6 i h).imp id (List.mem_append_left _)),(fun i h=>?_),done' (fun j h=>List.mem_append_left _ h) (fun j' h=>by rw [eg] at h; cases h; simp),hi06.imp id (List.mem_append_left _),?_,_,_,rfl⟩
        ·have h':n.testBit i=true \/ i∈js6:=by
          rcases h with h | h
          ·exact .inl h
          ·rcases List.mem_append.mp h with h | h
           ·exact .inr h
           ·rw [List.mem_singleton.mp h]
            exact .inl hb
         rcases hcl6 i h' with g | g | g
         ·exact .inl g
         ·exact .inr (.inl g)
         ·exact .inr (.inr fun j' hj'=>List.mem_append_left _ (g j' hj'))
        ·rw [List.length_append,List.length_singleton]
         omega
       | false =>
        refine Ed ?_
        refine ⟨_,rfl,.inl ⟨rfl,_,.inl (.inl l9)⟩,_,rfl,L,_,_,rfl,rfl,l9,Ui (by simp only [List.length_cons] at hbig; rw [List.length_map]; omega),?_⟩
        have l10:upd H9 L (.lst (nV ls6++[V.int (j:Nat)])) L=some (.lst (nV (ls6++[j]))):=by
         have e9:nV (ls6++[j])=nV ls6++[V.int (j:Nat)]:=List.map_append
         rw [e9]
         exact Ak
        have w10:upd H9 L (.lst (nV ls6++[V.int (j:Nat)])) W=some (.dK (kvs6++[(kI j,.ref T8)])):=by rw [Ax hWL]; exact u9
        have c10:upd H9 L (.lst (nV ls6++[V.int (j:Nat)])) CL=some (.lst (nV cl)):=by rw [Ax hCL']; exact c9
        have s10:Al H (upd H9 L (.lst (nV ls6++[V.int (j:Nat)]))):=fun b o e=>by rw [Ax (Aw e hL0)]; exact s9 _ _ e
        refine ⟨s10,c10,_,js6++[j],ls6++[j],w10,l10,kv9,nd7,par9.upd l9 (fun xs z=>by cases z),hj7,(fun i h=>?_),(fun i h=>?_),done' (fun j h=>List.mem_append_left _ h) (fun j' h=>by rw [eg] at h; cases h; simp),hi06.imp id (List.mem_append_left _),?_,_,_,rfl⟩
        ·rcases List.mem_append.mp h with h | h
         ·exact (hls6 i h).imp id (List.mem_append_left _)
         ·exact .inr (List.mem_append_right _ h)
        ·have h':(n.testBit i=true \/ i∈js6) \/ i=j:=by
          rcases h with h | h
          ·exact .inl (.inl h)
          ·rcases List.mem_append.mp h with h | h
           ·exact .inl (.inr h)
           ·exact .inr (List.mem_singleton.mp h)
         rcases h' with h' | rfl
         ·rcases hcl6 i h' with g | g | g
          ·exact .inl g
          ·exact .inr (.inl (List.mem_append_left _ g))
          ·exact .inr (.inr fun j' hj'=>List.mem_append_left _ (g j' hj'))
         ·exact .inr (.inl (by simp))
        ·rw [List.length_append,List.length_append,List.length_singleton]
         omega
    ·rintro σ H6 ⟨s6,c6,kvs6,js6,ls6,w6,l6,kv6,nd6,par6,hj6,hls6,hcl6,hdone,hi06,hmeas,v7,v8,rfl⟩
     have hkl6:kvs6.length=js6.length:=by have:=congrArg List.length kv6; simpa using this
     refine ⟨⟨s6,c6,kvs6,js6,ls6,w6,l6,kv6,nd6,par6,hj6,hls6,(fun i hi=>?_),by simp only [List.length_cons] at hbig; omega,_,_,_,rfl⟩,?_⟩
     ·rcases hcl6 i hi with rfl | g | g
      ·refine .inr fun j hij=>?_
       rw [← hst] at hij
       refine byC fun hng=>?_
       obtain ⟨k,z,hkd,hkz,hg⟩:=hij
       refine hng ?_
       refine hdone k ?_ z j hkz hg
       rw [List.take_of_length_le (by simp)]
       exact (hcl k).mpr ⟨z,hkz,RJ hg,hkd⟩
      ·exact .inl g
      ·exact .inr g
     ·show Xb (H6 L)+(sz.sum - Wf (H6 W))<_
      rw [l6,w6]
      show (nV ls6).length+(sz.sum - kvs6.length)<_
      rw [List.length_map,hkl6]
      omega
  ·rintro σ H' Q1 Q2 hm ⟨v,hv,k,hk,h⟩
   exact ⟨v,hv,k,hk,hm _ _ h⟩
noncomputable def Y4 (C:Addr):Sp:=fun vs H Q _=>∃ (x:Addr) (c:Nat->Str) (sz:List Nat) (kbs:List Kb) (D n:Nat),vs=[.ref x,.int (D:Nat),.int (n:Nat)]/\Cu C H x (Bg c sz) (BR c kbs)/\KD sz.length kbs/\n<2 ^ 1200/\(∀ i,n.testBit i=true->i<sz.sum) /\
 ∀ (m:Nat) H',Al H H'->(∀ j,m.testBit j=true ↔ J2 (stp (Bg c sz) kbs D) (fun i=>n.testBit i=true) j)->Q (.int (m:Nat)) H'
theorem N8 {n T:Nat} (h:∀ i,n.testBit i=true->i<T):Wd.mv n 0 T=n:=by
 refine Ub fun i=>?_
 rw [Wd.Jo]
 simp
 intro hi
 exact h i hi
theorem dZ:Ar ["organ","knobs","held"] ["organ","knobs","held"] (Ac gM):=Bk
include N T in
theorem Y7:Ao P w K mg base BW 5 aD.fCq aD.dCq ["organ","knobs","held"] (Y4 C):=by
 have GSt:Ao P w K mg base BW 3 aD.fSt aD.dSt ["numbers"] PL:=MP N T
 have GWa:Ao P w K mg base BW 4 aD.fWa aD.dWa ["organ","knobs","held"] (YW C):=Z9 N T
 have GHk:Ao P w K mg base BW 2 aD.fHk aD.dHk ["organ","held"] (Wr C):=Vk N T
 refine N.FCq.1.ok dZ (fun vs H Q E h=>?_) (fun cdv A outer s H vs Q E hr h=>?_)
 ·refine byC fun hng=>?_
  obtain ⟨x,c,sz,kbs,D,n,rfl,_⟩:=h
  refine hng ?_
  rfl
 ·refine byC fun hng=>?_
  obtain ⟨x,c,sz,kbs,D,n,rfl,O,hkb,hn,hnt,q⟩:=h
  refine hng ?_
  have hrSt:A_ 3 _:=hr.mono (by decide)
  have hrWa:A_ 4 _:=hr.mono (by decide)
  have hrHk:A_ 2 _:=hr.mono (by decide)
  refine ⟨_,(Ag (Av (Ah GSt hrSt rfl N.FSt.2.2 N.FSt.1.kp N.FSt.2.1 .nil An (Aa (FP (Jc rfl) rfl T.list PyProof.Rows.boot_list (Aa (Ah GWa hrWa rfl N.FWa.2.2 N.FWa.1.kp N.FWa.2.1 .nil An (Aa (pv 0) (Aa (pv 1) (Aa (Ah GHk hrHk rfl N.FHk.2.2 N.FHk.1.kp N.FHk.2.1 .nil An (Aa (pv 0) (Aa (pv 2) Ab))) Ab)))) Ab)) Ab)))),?_⟩
  have hsum:((Bg c sz).map (·.2)).sum=sz.sum:=by rw [B_]
  have h305:=Dp O
  rw [hsum] at h305
  refine ⟨_,rfl,_,rfl,_,rfl,_,rfl,x,Bg c sz,BR c kbs,n,rfl,O,hn,?_⟩
  rw [hsum,N8 hnt]
  refine ⟨x,c,sz,kbs,D,n,rfl,O,hkb,hn,hnt,fun W kvs js H1 hW s1 hw hkv nd _ hj=>?_⟩
  have hlt:∀ j∈js,j<sz.sum:=fun j h=>by
   have:=((hj j).mp h).lt
   rw [hsum] at this
   exact this
  have hjl:=Ej sz.sum nd hlt
  have hkv':kvs.map (·.1)=(js.map fun j:Nat=>(j:Int)).map Sum.inl:=by rw [hkv,List.map_map]; rfl
  refine ⟨W,kvs,_,rfl,hw,hkv',fun l hl=>?_⟩
  have ev:(js.map fun j:Nat=>(j:Int)).map V.int=nV js:=by rw [List.map_map]; rfl
  rw [ev]
  refine ⟨l,js,rfl,Ak,by omega,fun j h=>by have:=hlt j h; omega,fun H2 s2=>?_⟩
  refine q (Wd.mk js) H2 ((s1.trans (BK hl)).trans s2) fun j=>?_
  rw [Wd.Jb,decide_eq_true_eq]
  exact hj j
theorem Jt {X:Cx} {K:PySem.W.Frag} (h:X.K=K):Ft X (compareOp .NotIn) (bh K true):=h ▸ Ks
theorem Hn (l:List Nat):(nV l).all Dw=true:=List.all_eq_true.mpr fun v hv=>by
 obtain ⟨n,_,rfl⟩:=List.mem_map.mp hv
 rfl
theorem VM (j:Nat) (js:List Nat):inV (.int (j:Nat)) (nV js)=decide (j∈js):=by
 rw [Bool.eq_iff_iff,decide_eq_true_eq]
 unfold inV
 rw [List.any_eq_true]
 constructor
 ·rintro ⟨y,hy,e⟩
  obtain ⟨n,hn,rfl⟩:=List.mem_map.mp hy
  have e':(((n:Nat):Int) == ((j:Nat):Int))=true:=e
  have e2:((n:Nat):Int)=(j:Nat):=eq_of_beq e'
  have:n=j:=by omega
  subst this
  exact hn
 ·intro h
  exact ⟨_,List.mem_map_of_mem h,by show (((j:Nat):Int) == ((j:Nat):Int))=true; exact beq_self_eq_true _⟩
theorem gk:Ar ["self","knob"] ["self","knob"] (Ac gr):=Bk
include N T in
theorem Ye:Ao P w K mg base BW 2 aD.fOm aD.dOm ["self","knob"] (Pk C):=by
 have GBk:Ao P w K mg base BW 1 aD.fBk aD.dBk ["self","knob"] (Pk C):=TX N T
 refine N.FOm.1.ok gk (fun vs H Q E h=>?_) (fun cdv A outer s H vs Q E hr h=>?_)
 ·refine byC fun hng=>?_
  obtain ⟨x,bs,ks,k,j1,b1,wd,nm,rs,rfl,_⟩:=h
  refine hng ?_
  rfl
 ·refine byC fun hng=>?_
  obtain ⟨x,bs,ks,k,j1,b1,wd,nm,rs,rfl,O,hk,hb1,q⟩:=h
  refine hng ?_
  have hrBk:A_ 1 _:=hr.mono (by decide)
  refine ⟨_,(Ag (Av (Dk (pv 0) T.cl N.FBk.2.2 GBk hrBk N.FBk.2.1 .nil An (Aa (pv 1) Ab)))),?_⟩
  refine byC fun hng=>?_
  obtain ⟨⟨dx,fs,bl,bn,kp,kr,bvs,pvs,uvs,kvs,h1,l1,l2,l3,l4,lm,h2,h3,h4,h5,h6,h7,h8,h9⟩,ob5,osz,onk⟩:=id O
  refine hng ?_
  exact ⟨_,rfl,x,dx,fs,rfl,h1,lm _ (by decide +kernel),_,rfl,x,bs,ks,k,j1,b1,wd,nm,rs,rfl,O,hk,hb1,q⟩
noncomputable def Yq (C:Addr):Sp:=fun vs H Q _=>∃ (x:Addr) (bs:List (Str × Nat)) (rk:List (Str × Nat × Int)) (ks:List R) (ls:List (List Ln)) (k j1:Nat) (b1:Str × Nat) (wd nm:Str) (rs:List V) (l:List Ln),vs=[.ref x,.int (k:Nat)]/\CW C H x bs rk ks ls/\ks[k]? = some ⟨wd,nm,.str b1.1::rs⟩/\bs[j1]? = some b1/\ls[k]? = some l /\
 ∀ (T0 L0:Addr) (ts:List V) H',H L0=none->Al H H'->H' T0=some (.tup [.int (j1:Nat),.ref L0])->H' L0=some (.lst ts)->Paired (fun x y=>TupAt H' (Xy x) y) l ts->Q (.ref T0) H'
theorem gn:Ar ["self","knob"] ["self","knob"] (Ac il):=Bk
include N T in
theorem aQ:Ao P w K mg base BW 2 aD.fOs aD.dOs ["self","knob"] (Yq C):=by
 have GBk:Ao P w K mg base BW 1 aD.fBk aD.dBk ["self","knob"] (Pk C):=TX N T
 refine N.FOs.1.ok gn (fun vs H Q E h=>?_) (fun cdv A outer s H vs Q E hr h=>?_)
 ·refine byC fun hng=>?_
  obtain ⟨x,bs,rk,ks,ls,k,j1,b1,wd,nm,rs,l,rfl,_⟩:=h
  refine hng ?_
  rfl
 ·refine byC fun hng=>?_
  obtain ⟨x,bs,rk,ks,ls,k,j1,b1,wd,nm,rs,l,rfl,O,hk,hb1,hl,q⟩:=h
  refine hng ?_
  have hrBk:A_ 1 _:=hr.mono (by decide)
  refine ⟨_,(Ag (Av (Cq (Aa (Dk (pv 0) T.cl N.FBk.2.2 GBk hrBk N.FBk.2.1 .nil An (Aa (pv 1) Ab)) (Aa (FP Eg rfl T.list PyProof.Rows.boot_list (Aa (Az (FT (K:=K) rfl) (CV (pv 0) rfl) (pv 1) (fun _ _=>rfl)) Ab)) Ab))))),?_⟩
  refine byC fun hng=>?_
  obtain ⟨⟨dx,fs,bl,bn,kp,kr,bvs,pvs,uvs,kvs,h1,l1,l2,l3,l4,lm,h2,h3,h4,h5,h6,h7,h8,h9⟩,ob5,osz,onk⟩:=id O.o
  refine hng ?_
  refine byC fun hng=>?_
  obtain ⟨dx',fs',rl,rn,pp,kl,rvs,qvs,kvs',g1,m1,m2,m3,m4,g2,g3,g4,g5,g6,g7,lv,g8,g9⟩:=id O.r
  refine hng ?_
  obtain ⟨e1,e2⟩:dx'=dx/\fs'=fs:=by rw [h1] at g1; cases g1; exact ⟨rfl,rfl⟩
  subst e1 e2
  refine byC fun hng=>?_
  obtain ⟨y,hy,A,ts,rfl,hA,htp⟩:=Bs g9 hl
  refine hng ?_
  refine ⟨_,rfl,x,_,_,rfl,h1,lm _ (by decide +kernel),_,rfl,x,bs,ks,k,j1,b1,wd,nm,rs,rfl,O.o,hk,hb1,?_⟩
  refine ⟨_,rfl,x,C,_,_,_,rfl,h1,T.cl,T.n_knob_lines,m4,_,rfl,kl,lv,_,_,rfl,rfl,.inl (.inl g8),Ai hy,A,ts,rfl,.inl (.inl (.inl hA)),fun L0 hL0=>?_⟩
  obtain ⟨H1,eqH,t1,u1⟩:=Hq (o:=HO.lst ts) hL0
  rw [eqH]
  refine ⟨by show 2<=sizeLine; decide,fun T0 hT0=>?_⟩
  have t2:=BK (o:=HO.tup [.int (j1:Nat),.ref L0]) hT0
  exact q T0 L0 ts _ hL0 (t1.trans t2) Ak (t2 _ _ u1) (Aj (t1.trans t2) htp)
noncomputable def Zt (C:Addr):Sp:=fun vs H Q _=>∃ (x:Addr) (bs:List (Str × Nat)) (rk:List (Str × Nat × Int)) (ks:List R) (ls:List (List Ln)),vs=[.ref x]/\CW C H x bs rk ks ls/\∀ D rvs H',H D=none->Al H H'->H' D=some (.lst rvs)->Paired (fun (a:Th) y=>TupAt H' (tV a) y) (rk.map SM) rvs->Q (.ref D) H'
theorem dU:Ar ["self"] ["self"] (Ac dg):=Bk
include N T in
theorem Yv:Ao P w K mg base BW 1 aD.fOr aD.dOr ["self"] (Zt C):=by
 refine N.FOr.1.ok dU (fun vs H Q E h=>?_) (fun cdv A outer s H vs Q E hr h=>?_)
 ·refine byC fun hng=>?_
  obtain ⟨x,bs,rk,ks,ls,rfl,_⟩:=h
  refine hng ?_
  rfl
 ·refine byC fun hng=>?_
  obtain ⟨x,bs,rk,ks,ls,rfl,O,q⟩:=h
  refine hng ?_
  refine ⟨_,(Ag (Av (FP Eg rfl T.list PyProof.Rows.boot_list (Aa (CV (pv 0) rfl) Ab)))),?_⟩
  refine byC fun hng=>?_
  obtain ⟨⟨dx,fs,bl,bn,kp,kr,bvs,pvs,uvs,kvs,h1,l1,l2,l3,l4,lm,h2,h3,h4,h5,h6,h7,h8,h9⟩,ob5,osz,onk⟩:=id O.o
  refine hng ?_
  refine byC fun hng=>?_
  obtain ⟨dx',fs',rl,rn,pp,kl,rvs,qvs,kvs',g1,m1,m2,m3,m4,g2,g3,g4,g5,g6,g7,lv,g8,g9⟩:=id O.r
  refine hng ?_
  obtain ⟨e1,e2⟩:dx'=dx/\fs'=fs:=by rw [h1] at g1; cases g1; exact ⟨rfl,rfl⟩
  subst e1 e2
  exact ⟨_,rfl,x,C,_,_,_,rfl,h1,T.cl,T.n_rank_list,m1,rl,rvs,rfl,.inl (.inl (.inl g2)),fun l hl=>q l rvs _ hl (BK hl) Ak (Aj (BK hl) g3)⟩
noncomputable def aq (C:Addr):Sp:=fun vs H Q _=>∃ (x:Addr) (bs:List (Str × Nat)) (rk:List (Str × Nat × Int)) (ks:List R) (ls:List (List Ln)),vs=[.ref x]/\CW C H x bs rk ks ls/\Q (.int ((Ea (rk.map WY)).length:Nat)) H
theorem i_:Ar ["self"] ["self"] (Ac jC):=Bk
include N T in
theorem Yl:Ao P w K mg base BW 1 aD.fOq aD.dOq ["self"] (aq C):=by
 refine N.FOq.1.ok i_ (fun vs H Q E h=>?_) (fun cdv A outer s H vs Q E hr h=>?_)
 ·refine byC fun hng=>?_
  obtain ⟨x,bs,rk,ks,ls,rfl,_⟩:=h
  refine hng ?_
  rfl
 ·refine byC fun hng=>?_
  obtain ⟨x,bs,rk,ks,ls,rfl,O,q⟩:=h
  refine hng ?_
  refine ⟨_,(Ag (Av (BL Bh rfl T.len PySem.boot_len (Aa (CV (pv 0) rfl) Ab)))),?_⟩
  refine byC fun hng=>?_
  obtain ⟨⟨dx,fs,bl,bn,kp,kr,bvs,pvs,uvs,kvs,h1,l1,l2,l3,l4,lm,h2,h3,h4,h5,h6,h7,h8,h9⟩,ob5,osz,onk⟩:=id O.o
  refine hng ?_
  refine byC fun hng=>?_
  obtain ⟨dx',fs',rl,rn,pp,kl,rvs,qvs,kvs',g1,m1,m2,m3,m4,g2,g3,g4,g5,g6,g7,lv,g8,g9⟩:=id O.r
  refine hng ?_
  obtain ⟨e1,e2⟩:dx'=dx/\fs'=fs:=by rw [h1] at g1; cases g1; exact ⟨rfl,rfl⟩
  subst e1 e2
  refine ⟨_,rfl,x,C,_,_,_,rfl,h1,T.cl,T.n_pipe_places,m3,pp,qvs,rfl,.inl (.inl (.inl g6)),?_⟩
  rw [← g7.length]
  exact q
noncomputable def ZC (C:Addr):Sp:=fun vs H Q _=>∃ (x:Addr) (bs:List (Str × Nat)) (rk:List (Str × Nat × Int)) (ks:List R) (ls:List (List Ln)) (j:Nat) (r:Str × Nat × Int) (n:Int),vs=[.ref x,.str r.1,.int n]/\CW C H x bs rk ks ls/\rk[j]? = some r/\∀ H',Al H H'->Q (.int ((((rk.take j).map (fun r=>r.2.1)).sum:Nat)+n)) H'
theorem dm:Ar ["self","rank","number"] ["self","rank","number"] (Ac eZ):=Bk
include N T in
theorem aO:Ao P w K mg base BW 2 aD.fOe aD.dOe ["self","rank","number"] (ZC C):=by
 have GCa:Ao P w K mg base BW 1 aD.fCa aD.dCa ["things"] V6:=Vg N T
 refine N.FOe.1.ok dm (fun vs H Q E h=>?_) (fun cdv A outer s H vs Q E hr h=>?_)
 ·refine byC fun hng=>?_
  obtain ⟨x,bs,rk,ks,ls,j,r,n,rfl,_⟩:=h
  refine hng ?_
  rfl
 ·refine byC fun hng=>?_
  obtain ⟨x,bs,rk,ks,ls,j,r,n,rfl,O,hb,q⟩:=h
  refine hng ?_
  have hrCa:A_ 1 _:=hr.mono (by decide)
  have hu:=Jh hr
  refine ⟨_,(Ag (Av (Bc Dz (Ah GCa hrCa rfl N.FCa.2.2 N.FCa.1.kp N.FCa.2.1 .nil An (Aa (GQ JK (CV (pv 0) rfl) JG (Gq (HS hu (CV (pv 0) rfl) (pv 1) (fun _ _=>rfl)))) Ab)) (pv 2)))),?_⟩
  refine byC fun hng=>?_
  obtain ⟨⟨dx,fs,bl,bn,kp,kr,bvs,pvs,uvs,kvs,h1,l1,l2,l3,l4,lm,h2,h3,h4,h5,h6,h7,h8,h9⟩,ob5,osz,onk⟩:=id O.o
  refine hng ?_
  refine byC fun hng=>?_
  obtain ⟨dx',fs',rl,rn,pp,kl,rvs,qvs,kvs',g1,m1,m2,m3,m4,g2,g3,g4,g5,g6,g7,lv,g8,g9⟩:=id O.r
  refine hng ?_
  obtain ⟨e1,e2⟩:dx'=dx/\fs'=fs:=by rw [h1] at g1; cases g1; exact ⟨rfl,rfl⟩
  subst e1 e2
  have hj:j<rk.length:=(List.getElem?_eq_some_iff.mp hb).1
  have hl:=g3.length
  rw [List.length_map] at hl
  have g:=Hh.k (k:=Sum.inr r.1) g4
  rw [g5 j r hb] at g
  refine ⟨_,rfl,x,C,_,_,_,rfl,h1,T.cl,T.n_rank_list,m1,_,rfl,x,C,_,_,_,rfl,h1,T.cl,T.n_rank_numbers,m2,_,rfl,rn,_,rfl,g,_,rfl,rl,rvs,rfl,.inl (.inl g2),fun p6 hp6=>?_⟩
  have s6:=BK (o:=HO.lst (Et rvs none (some (j:Int)))) hp6
  have a6:upd H p6 (HO.lst (Et rvs none (some (j:Int)))) p6=_:=Ak
  generalize upd H p6 (HO.lst (Et rvs none (some (j:Int))))=H6 at s6 a6 ⊢
  rw [JT rvs j (by omega)] at a6
  refine ⟨p6,(rk.map SM).take j,rvs.take j,rfl,a6,Ih (Aj s6 g3) j,(by rw [List.length_take,List.length_map]; have:=O.nr; omega),(fun a ha=>by obtain ⟨r',hr',rfl⟩:=List.mem_map.mp (List.mem_of_mem_take ha); exact Nat.le_trans (O.nz r' hr') (by decide)),fun H7 s7=>?_⟩
  have e7:(((rk.map SM).take j).map fun a=>a.2.1)=(rk.take j).map (fun r=>r.2.1):=by
   rw [← List.map_take,List.map_map]
   rfl
  rw [e7]
  exact ⟨_,rfl,_,_,rfl,rfl,q H7 (s6.trans s7)⟩
noncomputable def Er (l:List Nat):Nat:=l.foldl (· ||| ·) 0
theorem K7 (l:List Nat) (n:Nat):Er (l++[n])=Er l ||| n:=by
 unfold Er
 rw [List.foldl_append]
 rfl
theorem I_:∀ (l:List Nat) (i:Nat),(Er l).testBit i=true ↔ ∃ n∈l,n.testBit i=true:=by
 have key:∀ (k:Nat) (l:List Nat) (i:Nat),l.length=k->((Er l).testBit i=true ↔ ∃ n∈l,n.testBit i=true):=by
  intro k
  induction k with
  | zero =>
   intro l i h
   cases l with
   | nil=>exact ⟨fun z=>absurd z (by unfold Er; rw [List.foldl_nil,Nat.zero_testBit]; decide),fun ⟨n,hn,_⟩=>nomatch hn⟩
   | cons a b=>cases h
  | succ k ih =>
   intro l i h
   obtain ⟨a,z,rfl⟩:=DK (l:=l) (by intro e; rw [e] at h; cases h)
   rw [List.length_append,List.length_singleton] at h
   rw [K7,Gd,ih a i (by omega)]
   constructor
   ·rintro (⟨n,hn,hb⟩ | hb)
    ·exact ⟨n,List.mem_append_left _ hn,hb⟩
    ·exact ⟨z,by simp,hb⟩
   ·rintro ⟨n,hn,hb⟩
    rcases List.mem_append.mp hn with h | h
    ·exact .inl ⟨n,h,hb⟩
    ·rw [List.mem_singleton.mp h] at hb
     exact .inr hb
 exact fun l i=>key l.length l i rfl
noncomputable def Uz:Sp:=fun vs H Q _=>∃ (p:Addr) (l:List Nat),vs=[.ref p]/\H p=some (.lst (nV l))/\l.length<=500/\Q (.int (Er l:Nat)) H
theorem VD:Ar ["sets","some","each"] ["sets"] (Ac d9):=Bk
include N T in
theorem RM:Ao P w K mg base BW 1 aD.fUn aD.dUn ["sets"] Uz:=by
 refine N.FUn.1.ok VD (fun vs H Q E h=>?_) (fun cdv A outer s H vs Q E hr h=>?_)
 ·obtain ⟨p,l,rfl,_⟩:=h
  rfl
 ·refine byC fun hng=>?_
  obtain ⟨p,l,rfl,hp,hz,q⟩:=h
  refine hng ?_
  refine ⟨_,(Af (BX (i:=1) VD.nd rfl (Or.inl rfl) Ae)
   (Af (DQ PassesOwn.never rfl (BV (pv 0)) (Bo (i:=2) VD.nd rfl (Or.inl rfl)) (Ag (BX (i:=1) VD.nd rfl (Or.inl rfl) (Bc Je (pv 1) (pv 2)))))
   (Ag (Av (pv 1))))),?_⟩
  have hS:CZ K H p (nV l):=.inl (.inl hp)
  refine ⟨_,rfl,p,rfl,⟨_,hS⟩,DY (K:=K) (a:=p) (xs:=nV l) (fun i σ H4=>H4=H/\∃ v2,σ=[some (.ref p),some (.int (Er (l.take i):Nat)),v2]) ⟨rfl,_,rfl⟩ (fun i σ H4 _ h=>by rw [h.1]; exact hS) ?_ ?_⟩
  ·rintro i y σ H4 hi ⟨rfl,v2,rfl⟩
   rw [List.getElem?_map] at hi
   obtain ⟨n,hn,rfl⟩:=Option.map_eq_some_iff.mp hi
   refine ⟨_,rfl,_,rfl,_,_,rfl,rfl,?_⟩
   refine ⟨rfl,some (.int (n:Int)),?_⟩
   dsimp only
   rw [Fo,List.take_add_one,hn]
   show _=[some (V.ref p),some (V.int ((Er (l.take i++[n]):Nat):Int)),_]
   rw [K7]
   rfl
  ·rintro σ H4 ⟨rfl,v2,rfl⟩
   have el:l.take (nV l).length=l:=List.take_of_length_le (by simp)
   rw [el]
   exact ⟨_,rfl,q⟩
noncomputable def G_ (kbs:List Kb) (k:Nat):Nat:=match kbs[k]? with
 | some (.pl _ b)=>b
 | some (.cp b _ _)=>b
 | none=>0
theorem O6 {c:Nat->Str} {kbs:List Kb} {k:Nat} {r:R} (h:(BR c kbs)[k]? = some r):∃ rs,r=⟨r.w,r.nm,.str (c (G_ kbs k))::rs⟩:=by
 obtain ⟨z,hz,rfl⟩:=Cd h
 unfold G_
 rw [hz]
 cases z with
 | cp i j s=>exact ⟨_,rfl⟩
 | pl w i=>exact ⟨_,rfl⟩
theorem Ro {n:Nat} {kbs:List Kb} {k:Nat} {z:Kb} (h:KD n kbs) (hz:kbs[k]? = some z):G_ kbs k<n:=by
 have ho:=h.ok z (List.mem_of_getElem? hz)
 unfold G_
 rw [hz]
 cases z with
 | cp i j s=>exact ho.1
 | pl w i=>exact ho.1
noncomputable def Q4 (kbs:List Kb) (D b:Nat):Prop:=∃ (k:Nat) (z:Kb),kbs[k]? = some z/\z.w = "mute" /\ D.testBit k=true/\G_ kbs k=b
noncomputable def ak (C:Addr):Sp:=fun vs H Q _=>∃ (x:Addr) (c:Nat->Str) (sz:List Nat) (kbs:List Kb) (D:Nat),vs=[.ref x,.int (D:Nat)]/\Cu C H x (Bg c sz) (BR c kbs)/\KD sz.length kbs/\∀ L (ml:List Nat) H',H L=none->Al H H'->H' L=some (.lst (nV ml))->(∀ b,b∈ml ↔ Q4 kbs D b)->ml.length<=200->Q (.ref L) H'
theorem gF:Ar ["organ","knobs"] ["organ","knobs"] (Ac b8):=Bk
include N T in
theorem bJ:Ao P w K mg base BW 3 aD.fMu aD.dMu ["organ","knobs"] (ak C):=by
 have GDc:Ao P w K mg base BW 2 aD.fDc aD.dDc ["organ","knobs","word"] (Tp C):=R4 N T
 have GOm:Ao P w K mg base BW 2 aD.fOm aD.dOm ["self","knob"] (Pk C):=Ye N T
 refine N.FMu.1.ok gF (fun vs H Q E h=>?_) (fun cdv A outer s H vs Q E hr h=>?_)
 ·refine byC fun hng=>?_
  obtain ⟨x,c,sz,kbs,D,rfl,_⟩:=h
  refine hng ?_
  rfl
 ·refine byC fun hng=>?_
  obtain ⟨x,c,sz,kbs,D,rfl,O,hkb,q⟩:=h
  refine hng ?_
  have hrDc:A_ 2 _:=hr.mono (by decide)
  have hrOm:A_ 2 _:=hr.mono (by decide)
  refine ⟨_,(Ag (Av (Bj rfl (BP (osc:=Ac b8) (N:=["organ","knobs"]) rfl rfl (by decide +kernel)) (BV (Ah GDc hrDc rfl N.FDc.2.2 N.FDc.1.kp N.FDc.2.1 .nil An (Aa (pv 0) (Aa (pv 1) (Aa BZ Ab))))) (fun _ _ _ _=>Bu) (fun _ _ _ _=>(Dk (pv 1) T.cl N.FOm.2.2 GOm hrOm N.FOm.2.1 .nil An (Aa (pv 0) Ab)))))),?_⟩
  refine ⟨_,rfl,_,rfl,x,Bg c sz,BR c kbs,"mute",D,rfl,O,fun CL cl H1 hCL s1 hl1 hcl hcll=>?_⟩
  have hS1:CZ K H1 CL (nV cl):=.inl (.inl hl1)
  have O1:=O.mono s1
  let g:V->V:=fun v=>match v with | .int k=>.int (G_ kbs k.toNat:Nat) | _=>.non
  refine ⟨CL,rfl,⟨_,hS1⟩,Bq (K:=K) (xs:=nV cl) (fun _=>true) g hS1 (Ay (by rw [List.length_map]; omega)) (fun y hy H' hs R k=>k H' (Al.refl H')) (fun y hy _ H' hs R k=>?_) (fun D2 H2 hD2 s2 hl2=>?_)⟩
  ·obtain ⟨i,hi,rfl⟩:=List.mem_map.mp hy
   obtain ⟨r,hr,hw,hd⟩:=(hcl i).mp hi
   obtain ⟨rs,er⟩:=O6 hr
   rw [er] at hr
   obtain ⟨z,hz,_⟩:=Cd hr
   have hb:=Ro hkb hz
   refine byC fun hng=>?_
   obtain ⟨⟨dx,fs,bl,bn,kp,kr,bvs,pvs,uvs,kvs,h1,l1,l2,l3,l4,lm,_⟩,_⟩:=id (O1.mono hs)
   refine hng ?_
   have kk:=k H' (Al.refl H')
   refine ⟨_,rfl,x,dx,fs,rfl,h1,lm _ (by decide +kernel),_,rfl,x,Bg c sz,BR c kbs,i,G_ kbs i,(c (G_ kbs i),sz[G_ kbs i]),_,_,rs,rfl,O1.mono hs,hr,FQ (List.getElem?_eq_getElem hb),kk⟩
  ·rw [List.filter_eq_self.mpr (fun _ _=>rfl)] at hl2
   have e:(nV cl).map g=nV (cl.map (G_ kbs)):=by
    unfold nV
    rw [List.map_map,List.map_map]
    rfl
   rw [e] at hl2
   refine q D2 _ H2 (s1.free hD2) (s1.trans s2) hl2 (fun b=>?_) (by rw [List.length_map]; exact hcll)
   rw [List.mem_map]
   constructor
   ·rintro ⟨k,hk,rfl⟩
    obtain ⟨r,hr,hw,hd⟩:=(hcl k).mp hk
    obtain ⟨z,hz,rfl⟩:=Cd hr
    exact ⟨k,z,hz,(Dy _ _ _).symm.trans hw,hd,rfl⟩
   ·rintro ⟨k,z,hz,hw,hd,rfl⟩
    exact ⟨k,(hcl k).mpr ⟨_,Dv hz,(Dy _ _ _).trans hw,hd⟩,rfl⟩
noncomputable def bZ (sz:List Nat) (i b:Nat):Prop:=∃ n,n<sz.getD b 0/\b<sz.length/\i=(sz.take b).sum+n
theorem TJ {c:Nat->Str} {sz:List Nat} {i a n:Nat} (h:(Ea (Bg c sz))[i]? = some (a,n)):bZ sz i a:=by
 obtain ⟨b,hb,hn,hi⟩:=Uv h
 obtain ⟨z,hz,rfl⟩:=O_ hb
 rw [B_] at hi
 refine ⟨n,?_,(List.getElem?_eq_some_iff.mp hz).1,hi⟩
 rw [List.getD_eq_getElem?_getD,hz]
 exact hn
theorem Rk {sz:List Nat} {i a b:Nat} (h1:bZ sz i a) (h2:bZ sz i b):a=b:=by
 obtain ⟨n,hn,ha,rfl⟩:=h1
 obtain ⟨m,hm,hb,e⟩:=h2
 have key:∀ {a b n m:Nat},a<b->b<sz.length->n<sz.getD a 0->(sz.take a).sum+n ≠ (sz.take b).sum+m:=fun {a b n m} hab hb hn e=>by
  have h1:(sz.take (a+1)).sum<=(sz.take b).sum:=Kl sz (by omega)
  have ha:a<sz.length:=by omega
  rw [List.take_add_one,List.getElem?_eq_getElem ha,List.sum_append] at h1
  rw [List.getD_eq_getElem?_getD,List.getElem?_eq_getElem ha] at hn
  have hn':n<sz[a]:=hn
  simp at h1
  omega
 rcases Nat.lt_trichotomy a b with h | h | h
 ·exact absurd e (key h hb hn)
 ·exact h
 ·exact absurd e.symm (key h ha hm)
noncomputable def Z0 (C:Addr):Sp:=fun vs H Q _=>∃ (x:Addr) (c:Nat->Str) (sz:List Nat) (kbs:List Kb) (D n:Nat),vs=[.ref x,.int (D:Nat),.int (n:Nat)]/\Cu C H x (Bg c sz) (BR c kbs)/\KD sz.length kbs/\n<2 ^ 1200/\(∀ i,n.testBit i=true->i<sz.sum)/\sz.sum<=305 /\
 ∀ (m:Nat) H',Al H H'->(∀ j,m.testBit j=true ↔ n.testBit j=true/\∀ b,bZ sz j b->¬ Q4 kbs D b)->Q (.int (m:Nat)) H'
theorem ZF:Ar ["organ","knobs","keys","muted"] ["organ","knobs","keys"] (Ac bx):=Bk
include N T in
theorem ZM:Ao P w K mg base BW 4 aD.fUk aD.dUk ["organ","knobs","keys"] (Z0 C):=by
 have GMu:Ao P w K mg base BW 3 aD.fMu aD.dMu ["organ","knobs"] (ak C):=bJ N T
 have GMe:Ao P w K mg base BW 2 aD.fMe aD.dMe ["some"] R1:=Oz N T
 have GOo:Ao P w K mg base BW 1 aD.fOo aD.dOo ["self","key"] (Wt C):=Vu N T
 have GSt:Ao P w K mg base BW 3 aD.fSt aD.dSt ["numbers"] PL:=MP N T
 refine N.FUk.1.ok ZF (fun vs H Q E h=>?_) (fun cdv A outer s H vs Q E hr h=>?_)
 ·refine byC fun hng=>?_
  obtain ⟨x,c,sz,kbs,D,n,rfl,_⟩:=h
  refine hng ?_
  rfl
 ·refine byC fun hng=>?_
  obtain ⟨x,c,sz,kbs,D,n,rfl,O,hkb,hn,hnt,h305,q⟩:=h
  refine hng ?_
  have hrMu:A_ 3 _:=hr.mono (by decide)
  have hrMe:A_ 2 _:=hr.mono (by decide)
  have hrOo:A_ 1 _:=hr.mono (by decide)
  have hrSt:A_ 3 _:=hr.mono (by decide)
  refine ⟨_,(Af (BX (i:=3) ZF.nd rfl (Or.inr rfl) (Ah GMu hrMu rfl N.FMu.2.2 N.FMu.1.kp N.FMu.2.1 .nil An (Aa (pv 0) (Aa (pv 1) Ab))))
   (Ag (Av (Ah GSt hrSt rfl N.FSt.2.2 N.FSt.1.kp N.FSt.2.1 .nil An (Aa (Bj rfl (BP (osc:=Ac bx) (N:=["organ","knobs","keys","muted"]) rfl rfl (by decide +kernel)) (BV (Ah GMe hrMe rfl N.FMe.2.2 N.FMe.1.kp N.FMe.2.1 .nil An (Aa (pv 2) Ab))) (fun _ _ _ _=>(Eu (Ba (Jt (K:=K) rfl) (Az (Am (K:=K) rfl) (Dk (pv 1) T.cl N.FOo.2.2 GOo hrOo N.FOo.2.1 .nil An (Aa (pv 0) Ab)) Ae (fun _ _=>rfl)) (pv 4) rfl))) (fun _ _ _ _=>(pv 0))) Ab))))),?_⟩
  refine ⟨_,rfl,_,rfl,x,c,sz,kbs,D,rfl,O,hkb,fun ML ml H1 hML s1 hl1 hml hmll=>?_⟩
  refine ⟨_,rfl,n,rfl,hn,fun P1 H2 hP1 s2 hl2=>?_⟩
  have hS2:CZ K H2 P1 (nV (Wd.mem n)):=.inl (.inl hl2)
  have O2:=O.mono (s1.trans s2)
  have hlen:=Wd.Ky hn
  have hml1:(Wd.mem n).length<=305:=by
   have nd:(Wd.mem n).Nodup:=by unfold Wd.mem; exact List.Pairwise.filter _ List.nodup_range
   refine Nat.le_trans (Ej sz.sum nd fun i hi=>hnt i (Wd.mem_iff.mp hi)) h305
  have place:∀ {i},i∈Wd.mem n->∃ a m,(Ea (Bg c sz))[i]? = some (a,m):=fun {i} hi=>by
   have hlt:i<(Ea (Bg c sz)).length:=by rw [Ef,B_]; exact hnt i (Wd.mem_iff.mp hi)
   exact ⟨_,_,List.getElem?_eq_getElem hlt⟩
  let p:V->Bool:=fun v=>match v with | .int i=>(match (Ea (Bg c sz))[i.toNat]? with | some (a,_)=>!decide (a∈ml) | none=>true) | _=>true
  refine ⟨P1,rfl,⟨_,hS2⟩,Bq (K:=K) (xs:=nV (Wd.mem n)) p id hS2 (Ay (by rw [List.length_map]; omega)) (fun y hy H' hs R k=>?_) (fun y hy _ H' hs R k=>⟨_,rfl,k H' (Al.refl H')⟩) (fun D3 H3 hD3 s3 hl3=>?_)⟩
  ·obtain ⟨i,hi,rfl⟩:=List.mem_map.mp hy
   obtain ⟨a,m,hpl⟩:=place hi
   have ep:p (V.int (i:Nat)) = !decide (a∈ml):=by
    show (match (Ea (Bg c sz))[((i:Nat):Int).toNat]? with | some (a,_)=>!decide (a∈ml) | none=>true)=_
    rw [Int.toNat_natCast,hpl]
   have kk:=k H' (Al.refl H')
   rw [ep] at kk
   refine byC fun hng=>?_
   obtain ⟨⟨dx,fs,bl,bn,kp,kr,bvs,pvs,uvs,kvs,h1,l1,l2,l3,l4,lm,_⟩,_⟩:=id (O2.mono hs)
   refine hng ?_
   refine ⟨_,rfl,x,dx,fs,rfl,h1,lm _ (by decide +kernel),_,rfl,x,Bg c sz,BR c kbs,i,(a,m),rfl,O2.mono hs,hpl,fun yv hyv=>?_⟩
   obtain ⟨T0,rfl,hT⟩:=hyv
   refine ⟨T0,_,_,_,rfl,rfl,.inl (.inl hT),Ai (j:=0) rfl,_,rfl,ML,_,rfl,.inl (.inl (.inl (hs _ _ (s2 _ _ hl1)))),rfl,Hn ml,_,rfl,?_⟩
   have ein:inV (V.int (a:Nat)) (nV ml)=decide (a∈ml):=VM a ml
   rw [ein]
   exact kk
  ·rw [List.map_id] at hl3
   have e3:(nV (Wd.mem n)).filter p=nV ((Wd.mem n).filter fun i=>p (.int (i:Nat))):=by
    unfold nV
    rw [List.filter_map]
    rfl
   rw [e3] at hl3
   have hsub:∀ i∈(Wd.mem n).filter (fun i=>p (.int (i:Nat))),i<sz.sum:=fun i hi=>hnt i (Wd.mem_iff.mp (List.mem_filter.mp hi).1)
   refine ⟨D3,_,rfl,hl3,Nat.le_trans (List.length_filter_le _ _) (by omega),fun i hi=>by have:=hsub i hi; omega,fun H4 s4=>?_⟩
   refine q _ H4 (s1.trans (s2.trans (s3.trans s4))) fun j=>?_
   rw [Wd.Jb,decide_eq_true_eq,List.mem_filter,Wd.mem_iff]
   constructor
   ·rintro ⟨h1,h2⟩
    refine ⟨h1,fun b hb hm=>?_⟩
    obtain ⟨a,m,hpl⟩:=place (Wd.mem_iff.mpr h1)
    have ep:p (V.int (j:Nat)) = !decide (a∈ml):=by
     show (match (Ea (Bg c sz))[((j:Nat):Int).toNat]? with | some (a,_)=>!decide (a∈ml) | none=>true)=_
     rw [Int.toNat_natCast,hpl]
    rw [ep] at h2
    have hba:=Rk hb (TJ hpl)
    subst hba
    rw [decide_eq_true ((hml b).mpr hm)] at h2
    cases h2
   ·rintro ⟨h1,h2⟩
    refine ⟨h1,?_⟩
    obtain ⟨a,m,hpl⟩:=place (Wd.mem_iff.mpr h1)
    have ep:p (V.int (j:Nat)) = !decide (a∈ml):=by
     show (match (Ea (Bg c sz))[((j:Nat):Int).toNat]? with | some (a,_)=>!decide (a∈ml) | none=>true)=_
     rw [Int.toNat_natCast,hpl]
    rw [ep,decide_eq_false fun z=>h2 a (TJ hpl) ((hml a).mp z)]
    rfl
noncomputable def DW (c:Nat->Str) (sz:List Nat) (kbs:List Kb) (D n j:Nat):Prop:=J2 (stp (Bg c sz) kbs D) (fun i=>n.testBit i=true) j \/ (n.testBit j=true/\∀ b,bZ sz j b->¬ Q4 kbs D b)
noncomputable def UG (C:Addr):Sp:=fun vs H Q _=>∃ (x:Addr) (c:Nat->Str) (sz:List Nat) (kbs:List Kb) (D n:Nat),vs=[.ref x,.int (D:Nat),.int (n:Nat)]/\Cu C H x (Bg c sz) (BR c kbs)/\KD sz.length kbs/\n<2 ^ 1200/\(∀ i,n.testBit i=true->i<sz.sum) /\
 ∀ (m:Nat) H',Al H H'->(∀ j,m.testBit j=true ↔ DW c sz kbs D n j)->Q (.int (m:Nat)) H'
theorem iY:Ar ["organ","knobs","held"] ["organ","knobs","held"] (Ac jR):=Bk
include N T in
theorem Rn:Ao P w K mg base BW 6 aD.fSk aD.dSk ["organ","knobs","held"] (UG C):=by
 have GCq:Ao P w K mg base BW 5 aD.fCq aD.dCq ["organ","knobs","held"] (Y4 C):=Y7 N T
 have GUk:Ao P w K mg base BW 4 aD.fUk aD.dUk ["organ","knobs","keys"] (Z0 C):=ZM N T
 have GHk:Ao P w K mg base BW 2 aD.fHk aD.dHk ["organ","held"] (Wr C):=Vk N T
 refine N.FSk.1.ok iY (fun vs H Q E h=>?_) (fun cdv A outer s H vs Q E hr h=>?_)
 ·refine byC fun hng=>?_
  obtain ⟨x,c,sz,kbs,D,n,rfl,_⟩:=h
  refine hng ?_
  rfl
 ·refine byC fun hng=>?_
  obtain ⟨x,c,sz,kbs,D,n,rfl,O,hkb,hn,hnt,q⟩:=h
  refine hng ?_
  have hrCq:A_ 5 _:=hr.mono (by decide)
  have hrUk:A_ 4 _:=hr.mono (by decide)
  have hrHk:A_ 2 _:=hr.mono (by decide)
  refine ⟨_,(Ag (Av (Bc Je (Ah GCq hrCq rfl N.FCq.2.2 N.FCq.1.kp N.FCq.2.1 .nil An (Aa (pv 0) (Aa (pv 1) (Aa (pv 2) Ab)))) (Ah GUk hrUk rfl N.FUk.2.2 N.FUk.1.kp N.FUk.2.1 .nil An (Aa (pv 0) (Aa (pv 1) (Aa (Ah GHk hrHk rfl N.FHk.2.2 N.FHk.1.kp N.FHk.2.1 .nil An (Aa (pv 0) (Aa (pv 2) Ab))) Ab))))))),?_⟩
  have hsum:((Bg c sz).map (·.2)).sum=sz.sum:=by rw [B_]
  have h305:=Dp O
  rw [hsum] at h305
  refine ⟨_,rfl,_,rfl,_,rfl,x,c,sz,kbs,D,n,rfl,O,hkb,hn,hnt,fun m1 H1 s1 hm1=>?_⟩
  refine ⟨_,rfl,_,rfl,_,rfl,_,rfl,x,Bg c sz,BR c kbs,n,rfl,O.mono s1,hn,?_⟩
  rw [hsum,N8 hnt]
  refine ⟨x,c,sz,kbs,D,n,rfl,O.mono s1,hkb,hn,hnt,h305,fun m2 H2 s2 hm2=>?_⟩
  refine ⟨_,_,rfl,rfl,?_⟩
  show Q (.int (Builtin.bitOr (m1:Int) (m2:Int))) H2
  rw [Fo]
  refine q (m1 ||| m2) H2 (s1.trans s2) fun j=>?_
  rw [Gd,hm1,hm2]
  rfl
noncomputable def U3 (sz:List Nat) (b n:Nat):Nat:=Wd.mv n (-((sz.take b).sum:Int)) (sz.getD b 0)
theorem Rr (n:Nat) (k:Int) (c:Nat):Wd.mv n k c<2 ^ c:=by
 unfold Wd.mv
 exact Nat.mod_lt _ (Nat.two_pow_pos _)
noncomputable def Ys (C:Addr):Sp:=fun vs H Q _=>∃ (x:Addr) (c:Nat->Str) (sz:List Nat) (ks:List R) (b n:Nat),vs=[.ref x,.int (b:Nat),.int (n:Nat)]/\Cu C H x (Bg c sz) ks/\b<sz.length/\n<2 ^ 1200/\∀ H',Al H H'->Q (.int (U3 sz b n:Nat)) H'
theorem YT:Ar ["organ","board","keys","told"] ["organ","board","keys"] (Ac jT):=Bk
include N T in
theorem Zj:Ao P w K mg base BW 3 aD.fNb aD.dNb ["organ","board","keys"] (Ys C):=by
 have GOb:Ao P w K mg base BW 1 aD.fOb aD.dOb ["self"] (XQ C):=Vs N T
 have GOk:Ao P w K mg base BW 2 aD.fOk aD.dOk ["self","board","number"] (V4 C):=Vy N T
 have GSh:Ao P w K mg base BW 1 aD.fSh aD.dSh ["some","steps","count"] Ud:=Rm N T
 refine N.FNb.1.ok YT (fun vs H Q E h=>?_) (fun cdv A outer s H vs Q E hr h=>?_)
 ·refine byC fun hng=>?_
  obtain ⟨x,c,sz,ks,b,n,rfl,_⟩:=h
  refine hng ?_
  rfl
 ·refine byC fun hng=>?_
  obtain ⟨x,c,sz,ks,b,n,rfl,O,hb,hn,q⟩:=h
  refine hng ?_
  have hrOb:A_ 1 _:=hr.mono (by decide)
  have hrOk:A_ 2 _:=hr.mono (by decide)
  have hrSh:A_ 1 _:=hr.mono (by decide)
  refine ⟨_,(Af (BX (i:=3) YT.nd rfl (Or.inl rfl) (Az (FT (K:=K) rfl) (CT (pv 0) T.cl N.FOb.2.2 GOb hrOb N.FOb.2.1 .nil An) (pv 1) (fun _ _=>rfl)))
   (Ag (Av (Ah GSh hrSh rfl N.FSh.2.2 N.FSh.1.kp N.FSh.2.1 .nil An (Aa (pv 2) (Aa (J4 Kz (Dk (pv 0) T.cl N.FOk.2.2 GOk hrOk N.FOk.2.1 .nil An (Aa (Az (Am (K:=K) rfl) (pv 3) Ae (fun _ _=>rfl)) (Aa Ae Ab)))) (Aa (Az (Am (K:=K) rfl) (pv 3) Ae (fun _ _=>rfl)) Ab))))))),?_⟩
  have h305:=Dp O
  rw [B_] at h305
  have hst:(sz.take b).sum<=sz.sum:=by
   have:=congrArg List.sum (List.take_append_drop b sz)
   rw [List.sum_append] at this
   omega
  have hbs:(Bg c sz)[b]? = some (c b,sz[b]):=FQ (List.getElem?_eq_getElem hb)
  have h61:=O.sz (c b,sz[b]) (List.mem_of_getElem? hbs)
  have h61':sz[b]<=61:=h61
  have esum:(((Bg c sz).take b).map (·.2)).sum=(sz.take b).sum:=by rw [List.map_take,B_]
  have egd:sz.getD b 0=sz[b]:=by rw [List.getD_eq_getElem?_getD,List.getElem?_eq_getElem hb]; rfl
  have meth:∀ {H':Hp},Cu C H' x (Bg c sz) ks->∃ dx fs,H' x=some (.ins C dx fs)/\∀ m∈meths,fs.lookup m=none:=fun O'=>by
   refine byC fun hng=>?_
   obtain ⟨⟨dx,fs,_,_,_,_,_,_,_,_,h1,_,_,_,_,lm,_⟩,_⟩:=O'
   refine hng ?_
   exact ⟨dx,fs,h1,lm⟩
  obtain ⟨dx,fs,hx,lm⟩:=meth O
  refine ⟨_,rfl,x,dx,fs,rfl,hx,lm _ (by decide +kernel),x,Bg c sz,ks,rfl,O,fun D bvs H2 hD s2 hl2 hb2=>?_⟩
  refine byC fun hng=>?_
  obtain ⟨v3,hv3,T3,rfl,ht3⟩:=Bs hb2 hbs
  refine hng ?_
  refine ⟨_,rfl,D,bvs,_,_,rfl,rfl,.inl (.inl hl2),Ai hv3,?_⟩
  obtain ⟨dx2,fs2,hx2,lm2⟩:=meth (O.mono s2)
  refine ⟨_,rfl,_,rfl,x,dx2,fs2,rfl,hx2,lm2 _ (by decide +kernel),_,rfl,T3,_,_,_,rfl,rfl,.inl (.inl ht3),Ai (j:=0) rfl,x,Bg c sz,ks,b,(c b,sz[b]),0,rfl,O.mono s2,hbs,fun H3 s3=>?_⟩
  refine ⟨_,rfl,_,rfl,T3,_,_,_,rfl,rfl,.inl (.inl (s3 _ _ ht3)),Ai (j:=1) rfl,n,_,sz[b],rfl,hn,?_,?_,by omega,?_⟩
  ·rw [esum]
   omega
  ·rw [esum]
   omega
  ·have fin:=q H3 (s2.trans s3)
   unfold U3 at fin
   rw [egd] at fin
   rw [esum,Int.add_zero]
   exact fin
noncomputable def Wg (rk:List (Str × Nat × Int)) (r:Nat):Nat:=((rk.take r).map (fun r=>r.2.1)).sum
noncomputable def Mh (rk:List (Str × Nat × Int)) (r:Nat):Nat:=(rk.map (fun r=>r.2.1)).getD r 0
noncomputable def Xz (rk:List (Str × Nat × Int)):Nat:=(rk.map (fun r=>r.2.1)).sum
structure Xu (rk:List (Str × Nat × Int)) (l:Ln):Prop where
 r:l.r<rk.length
 lo:0<=l.lo
 le:l.lo<=l.hi
 hi:l.hi<=60
 s1 : -200<=l.sh
 s2:l.sh<=200
noncomputable def K9 (rk:List (Str × Nat × Int)) (l:Ln) (n:Nat):Nat:=Wd.mv (Wd.mv (Wd.mv n (-l.lo) (l.hi - l.lo+1).toNat) (l.lo+l.sh) (Mh rk l.r)) (Wg rk l.r:Nat) (Xz rk)
theorem Rw {rk:List (Str × Nat × Int)} {r:Nat} (h:r<rk.length):Wg rk r+Mh rk r<=Xz rk:=by
 unfold Wg Mh Xz
 have e:((rk.map (fun r=>r.2.1)).take (r+1)).sum=((rk.take r).map (fun r=>r.2.1)).sum+(rk.map (fun r=>r.2.1)).getD r 0:=by
  rw [List.take_add_one,List.getElem?_eq_getElem (by rw [List.length_map]; exact h),List.sum_append,List.map_take,List.getD_eq_getElem?_getD,List.getElem?_eq_getElem (by rw [List.length_map]; exact h)]
  simp
 have:=congrArg List.sum (List.take_append_drop (r+1) (rk.map (fun r=>r.2.1)))
 rw [List.sum_append] at this
 omega
theorem V3 {rk:List (Str × Nat × Int)} (h1:rk.length<=12) (h2:∀ r∈rk,r.2.1<=97):Xz rk<=1164:=by
 have h:=KH (rk.map WY) 97 fun b hb=>by
  obtain ⟨r,hr,rfl⟩:=List.mem_map.mp hb
  exact h2 r hr
 rw [Ef,List.map_map,List.length_map] at h
 have:rk.length * 97<=12 * 97:=Nat.mul_le_mul_right _ h1
 have e:Xz rk=(rk.map ((·.2) ∘ WY)).sum:=rfl
 omega
noncomputable def a_ (C:Addr):Sp:=fun vs H Q _=>∃ (x:Addr) (bs:List (Str × Nat)) (rk:List (Str × Nat × Int)) (ks:List R) (ls:List (List Ln)) (y:V) (l:Ln) (n:Nat),vs=[.ref x,y,.int (n:Nat)]/\CW C H x bs rk ks ls/\TupAt H (Xy l) y/\Xu rk l/\n<2 ^ 1200/\∀ H',Al H H'->Q (.int (K9 rk l n:Nat)) H'
theorem Uu:Ar ["organ","line","numbers","rank","from_low","on_rank"] ["organ","line","numbers"] (Ac gJ):=Bk
include N T in
theorem ZZ:Ao P w K mg base BW 3 aD.fLl aD.dLl ["organ","line","numbers"] (a_ C):=by
 have GOr:Ao P w K mg base BW 1 aD.fOr aD.dOr ["self"] (Zt C):=Yv N T
 have GSh:Ao P w K mg base BW 1 aD.fSh aD.dSh ["some","steps","count"] Ud:=Rm N T
 have GOe:Ao P w K mg base BW 2 aD.fOe aD.dOe ["self","rank","number"] (ZC C):=aO N T
 have GOq:Ao P w K mg base BW 1 aD.fOq aD.dOq ["self"] (aq C):=Yl N T
 refine N.FLl.1.ok Uu (fun vs H Q E h=>?_) (fun cdv A outer s H vs Q E hr h=>?_)
 ·refine byC fun hng=>?_
  obtain ⟨x,bs,rk,ks,ls,y,l,n,rfl,_⟩:=h
  refine hng ?_
  rfl
 ·refine byC fun hng=>?_
  obtain ⟨x,bs,rk,ks,ls,y,l,n,rfl,O,hy,hg,hn,q⟩:=h
  refine hng ?_
  have hrOr:A_ 1 _:=hr.mono (by decide)
  have hrSh:A_ 1 _:=hr.mono (by decide)
  have hrOe:A_ 2 _:=hr.mono (by decide)
  have hrOq:A_ 1 _:=hr.mono (by decide)
  refine ⟨_,(Af (BX (i:=3) Uu.nd rfl (Or.inl rfl) (Az (FT (K:=K) rfl) (CT (pv 0) T.cl N.FOr.2.2 GOr hrOr N.FOr.2.1 .nil An) (Az (Am (K:=K) rfl) (pv 1) Ae (fun _ _=>rfl)) (fun _ _=>rfl)))
   (Af (BX (i:=4) Uu.nd rfl (Or.inl rfl) (Ah GSh hrSh rfl N.FSh.2.2 N.FSh.1.kp N.FSh.2.1 .nil An (Aa (pv 2) (Aa (J4 Kz (Az (Am (K:=K) rfl) (pv 1) Ae (fun _ _=>rfl))) (Aa (Bc Dz (Bc Hw (Az (Am (K:=K) rfl) (pv 1) Ae (fun _ _=>rfl)) (Az (Am (K:=K) rfl) (pv 1) Ae (fun _ _=>rfl))) Ae) Ab)))))
   (Af (BX (i:=5) Uu.nd rfl (Or.inl rfl) (Ah GSh hrSh rfl N.FSh.2.2 N.FSh.1.kp N.FSh.2.1 .nil An (Aa (pv 4) (Aa (Bc Dz (Az (Am (K:=K) rfl) (pv 1) Ae (fun _ _=>rfl)) (Az (Am (K:=K) rfl) (pv 1) Ae (fun _ _=>rfl))) (Aa (Az (Am (K:=K) rfl) (pv 3) Ae (fun _ _=>rfl)) Ab)))))
   (Ag (Av (Ah GSh hrSh rfl N.FSh.2.2 N.FSh.1.kp N.FSh.2.1 .nil An (Aa (pv 5) (Aa (Dk (pv 0) T.cl N.FOe.2.2 GOe hrOe N.FOe.2.1 .nil An (Aa (Az (Am (K:=K) rfl) (pv 3) Ae (fun _ _=>rfl)) (Aa Ae Ab))) (Aa (CT (pv 0) T.cl N.FOq.2.2 GOq hrOq N.FOq.2.1 .nil An) Ab))))))))),?_⟩
  obtain ⟨T0,rfl,hT⟩:=hy
  have hto:=V3 O.nr O.nz
  have hlr:l.r<rk.length:=hg.r
  have hst:=Rw hlr
  have hrk:=List.getElem?_eq_getElem hlr
  have h97:rk[l.r].2.1<=97:=O.nz _ (List.getElem_mem hg.r)
  have esz:Mh rk l.r=rk[l.r].2.1:=by
   unfold Mh
   rw [List.getD_eq_getElem?_getD,List.getElem?_map,hrk]
   rfl
  have etot:(Ea (rk.map WY)).length=Xz rk:=by
   rw [Ef,List.map_map]
   rfl
  have h1:=hg.lo
  have h2:=hg.le
  have h3:=hg.hi
  have h4:=hg.s1
  have h5:=hg.s2
  have meth:∀ {H':Hp},CW C H' x bs rk ks ls->∃ dx fs,H' x=some (.ins C dx fs)/\∀ m∈meths,fs.lookup m=none:=fun O'=>by
   refine byC fun hng=>?_
   obtain ⟨⟨dx,fs,_,_,_,_,_,_,_,_,h1,_,_,_,_,lm,_⟩,_⟩:=O'.o
   refine hng ?_
   exact ⟨dx,fs,h1,lm⟩
  obtain ⟨dx,fs,hx,lm⟩:=meth O
  refine ⟨_,rfl,x,dx,fs,rfl,hx,lm _ (by decide +kernel),x,bs,rk,ks,ls,rfl,O,fun D rvs H2 hD s2 hl2 hb2=>?_⟩
  have hT2:=s2 _ _ hT
  have hrk3:(rk.map SM)[l.r]? = some (SM rk[l.r]):=by rw [List.getElem?_map,hrk]; rfl
  refine byC fun hng=>?_
  obtain ⟨v3,hv3,T3,rfl,ht3⟩:=Bs hb2 hrk3
  refine hng ?_
  refine ⟨_,rfl,T0,_,_,_,rfl,rfl,.inl (.inl hT2),Ai (j:=0) rfl,D,rvs,_,_,rfl,rfl,.inl (.inl hl2),Ai hv3,?_⟩
  have e1:l.hi - l.lo+1=(((l.hi - l.lo+1).toNat:Nat):Int):=by omega
  refine ⟨_,rfl,_,rfl,T0,_,_,_,rfl,rfl,.inl (.inl hT2),Ai (j:=2) rfl,_,rfl,_,rfl,T0,_,_,_,rfl,rfl,.inl (.inl hT2),Ai (j:=3) rfl,_,rfl,T0,_,_,_,rfl,rfl,.inl (.inl hT2),Ai (j:=2) rfl,_,_,rfl,rfl,_,_,rfl,rfl,n,-l.lo,(l.hi - l.lo+1).toNat,(by rw [← e1] <;> rfl),hn,by omega,by omega,by omega,?_⟩
  have n1:=Rr n (-l.lo) (l.hi - l.lo+1).toNat
  generalize hn1:Wd.mv n (-l.lo) (l.hi - l.lo+1).toNat=a1 at n1 ⊢
  have n1':a1<2 ^ 1200:=Nat.lt_of_lt_of_le n1 (Nat.pow_le_pow_right (by decide) (by omega))
  refine ⟨_,rfl,_,rfl,T0,_,_,_,rfl,rfl,.inl (.inl hT2),Ai (j:=2) rfl,_,rfl,T0,_,_,_,rfl,rfl,.inl (.inl hT2),Ai (j:=1) rfl,_,_,rfl,rfl,_,rfl,T3,_,_,_,rfl,rfl,.inl (.inl ht3),Ai (j:=1) rfl,a1,l.lo+l.sh,rk[l.r].2.1,rfl,n1',by omega,by omega,by omega,?_⟩
  have n2:=Rr a1 (l.lo+l.sh) rk[l.r].2.1
  generalize hn2:Wd.mv a1 (l.lo+l.sh) rk[l.r].2.1=a2 at n2 ⊢
  have n2':a2<2 ^ 1200:=Nat.lt_of_lt_of_le n2 (Nat.pow_le_pow_right (by decide) (by omega))
  obtain ⟨dx2,fs2,hx2,lm2⟩:=meth (O.mono s2)
  refine ⟨_,rfl,_,rfl,x,dx2,fs2,rfl,hx2,lm2 _ (by decide +kernel),_,rfl,T3,_,_,_,rfl,rfl,.inl (.inl ht3),Ai (j:=0) rfl,x,bs,rk,ks,ls,l.r,rk[l.r],0,rfl,O.mono s2,hrk,fun H3 s3=>?_⟩
  obtain ⟨dx3,fs3,hx3,lm3⟩:=meth ((O.mono s2).mono s3)
  refine ⟨_,rfl,x,dx3,fs3,rfl,hx3,lm3 _ (by decide +kernel),x,bs,rk,ks,ls,rfl,(O.mono s2).mono s3,a2,_,(Ea (rk.map WY)).length,rfl,n2',?_,?_,?_,?_⟩
  ·omega
  ·have:((rk.take l.r).map (fun r=>r.2.1)).sum=Wg rk l.r:=rfl
   omega
  ·omega
  ·have fin:=q H3 (s2.trans s3)
   unfold K9 at fin
   rw [hn1,esz,hn2] at fin
   rw [etot,Int.add_zero]
   exact fin
noncomputable def dI (H:Hp):V->Ln
 | .ref T=>match H T with
  | some (.tup [.int r,.int sh,.int lo,.int hi])=>⟨r.toNat,sh,lo,hi⟩
  | _=>⟨0,0,0,0⟩
 | _=>⟨0,0,0,0⟩
theorem RW {H:Hp} {l:Ln} {v:V} (h:TupAt H (Xy l) v):dI H v=l:=by
 obtain ⟨T,rfl,e⟩:=h
 show (match H T with | some (.tup [.int r,.int sh,.int lo,.int hi])=>(⟨r.toNat,sh,lo,hi⟩:Ln) | _=>⟨0,0,0,0⟩)=l
 rw [e]
 show (⟨((l.r:Nat):Int).toNat,l.sh,l.lo,l.hi⟩:Ln)=l
 rw [Int.toNat_natCast]
theorem UT {H:Hp} {l:List Ln} {vs:List V} (h:Paired (fun x y=>TupAt H (Xy x) y) l vs):vs.map (dI H)=l:=by
 induction h with
 | nil=>rfl
 | cons x y ih=>rw [List.map_cons,ih,RW x]
noncomputable def Ur (sz:List Nat) (rk:List (Str × Nat × Int)) (b:Nat) (l:List Ln) (n:Nat):Nat:=Er (l.map fun ln=>K9 rk ln (U3 sz b n))
noncomputable def Tj (C:Addr):Sp:=fun vs H Q _=>∃ (x:Addr) (c:Nat->Str) (sz:List Nat) (rk:List (Str × Nat × Int)) (kbs:List Kb) (ls:List (List Ln)) (k n:Nat) (z:Kb) (l:List Ln),vs=[.ref x,.int (k:Nat),.int (n:Nat)]/\CW C H x (Bg c sz) rk (BR c kbs) ls/\KD sz.length kbs/\kbs[k]? = some z/\ls[k]? = some l/\l.length<=100/\(∀ ln∈l,Xu rk ln)/\n<2 ^ 1200/\∀ H',Al H H'->Q (.int (Ur sz rk (G_ kbs k) l n:Nat)) H'
theorem Xd:Ar ["organ","knob","keys","stop","numbers"] ["organ","knob","keys"] (Ac cj):=Bk
include N T in
theorem Rf:Ao P w K mg base BW 4 aD.fBs aD.dBs ["organ","knob","keys"] (Tj C):=by
 have GOs:Ao P w K mg base BW 2 aD.fOs aD.dOs ["self","knob"] (Yq C):=aQ N T
 have GNb:Ao P w K mg base BW 3 aD.fNb aD.dNb ["organ","board","keys"] (Ys C):=Zj N T
 have GLl:Ao P w K mg base BW 3 aD.fLl aD.dLl ["organ","line","numbers"] (a_ C):=ZZ N T
 have GUn:Ao P w K mg base BW 1 aD.fUn aD.dUn ["sets"] Uz:=RM N T
 refine N.FBs.1.ok Xd (fun vs H Q E h=>?_) (fun cdv A outer s H vs Q E hr h=>?_)
 ·refine byC fun hng=>?_
  obtain ⟨x,c,sz,rk,kbs,ls,k,n,z,l,rfl,_⟩:=h
  refine hng ?_
  rfl
 ·refine byC fun hng=>?_
  obtain ⟨x,c,sz,rk,kbs,ls,k,n,z,l,rfl,O,hkb,hz,hl,hl100,hg,hn,q⟩:=h
  refine hng ?_
  have hrOs:A_ 2 _:=hr.mono (by decide)
  have hrNb:A_ 3 _:=hr.mono (by decide)
  have hrLl:A_ 3 _:=hr.mono (by decide)
  have hrUn:A_ 1 _:=hr.mono (by decide)
  refine ⟨_,(Af (BX (i:=3) Xd.nd rfl (Or.inl rfl) (Dk (pv 0) T.cl N.FOs.2.2 GOs hrOs N.FOs.2.1 .nil An (Aa (pv 1) Ab)))
   (Af (BX (i:=4) Xd.nd rfl (Or.inr rfl) (Ah GNb hrNb rfl N.FNb.2.2 N.FNb.1.kp N.FNb.2.1 .nil An (Aa (pv 0) (Aa (Az (Am (K:=K) rfl) (pv 3) Ae (fun _ _=>rfl)) (Aa (pv 2) Ab)))))
   (Ag (Av (Ah GUn hrUn rfl N.FUn.2.2 N.FUn.1.kp N.FUn.2.1 .nil An (Aa (Bj rfl (BP (osc:=Ac cj) (N:=["organ","knob","keys","stop","numbers"]) rfl rfl (by decide +kernel)) (BV (Az (Am (K:=K) rfl) (pv 3) Ae (fun _ _=>rfl))) (fun _ _ _ _=>Bu) (fun _ _ _ _=>(Ah GLl hrLl rfl N.FLl.2.2 N.FLl.1.kp N.FLl.2.1 .nil An (Aa (pv 1) (Aa (pv 0) (Aa (pv 5) Ab)))))) Ab)))))),?_⟩
  have hr:=Dv (c:=c) hz
  obtain ⟨rs,er⟩:=O6 hr
  rw [er] at hr
  have hb:=Ro hkb hz
  have hbs:(Bg c sz)[G_ kbs k]? = some (c (G_ kbs k),sz[G_ kbs k]):=FQ (List.getElem?_eq_getElem hb)
  have meth:∀ {H':Hp},CW C H' x (Bg c sz) rk (BR c kbs) ls->∃ dx fs,H' x=some (.ins C dx fs)/\∀ m∈meths,fs.lookup m=none:=fun O'=>by
   refine byC fun hng=>?_
   obtain ⟨⟨dx,fs,_,_,_,_,_,_,_,_,h1,_,_,_,_,lm,_⟩,_⟩:=O'.o
   refine hng ?_
   exact ⟨dx,fs,h1,lm⟩
  obtain ⟨dx,fs,hx,lm⟩:=meth O
  refine ⟨_,rfl,x,dx,fs,rfl,hx,lm _ (by decide +kernel),_,rfl,x,Bg c sz,rk,BR c kbs,ls,k,G_ kbs k,(c (G_ kbs k),sz[G_ kbs k]),_,_,rs,l,rfl,O,hr,hbs,hl,fun T0 L0 ts H1 _ s1 hT0 hL0 htp=>?_⟩
  have O1:=O.mono s1
  refine ⟨_,rfl,_,rfl,T0,_,_,_,rfl,rfl,.inl (.inl hT0),Ai (j:=0) rfl,_,rfl,x,c,sz,BR c kbs,G_ kbs k,n,rfl,O1.o,hb,hn,fun H2 s2=>?_⟩
  have O2:=O1.mono s2
  have nlt:=Rr n (-((sz.take (G_ kbs k)).sum:Int)) (sz.getD (G_ kbs k) 0)
  have h61:sz.getD (G_ kbs k) 0<=61:=by
   rw [List.getD_eq_getElem?_getD,List.getElem?_eq_getElem hb]
   exact O.o.sz _ (List.mem_of_getElem? hbs)
  have nlt':U3 sz (G_ kbs k) n<2 ^ 1200:=Nat.lt_of_lt_of_le nlt (Nat.pow_le_pow_right (by decide) (by omega))
  have hL2:=s2 _ _ hL0
  have htp2:=Aj s2 htp
  have hlt:=htp2.length
  have hS2:CZ K H2 L0 ts:=.inl (.inl hL2)
  refine ⟨_,rfl,T0,_,_,_,rfl,rfl,.inl (.inl (s2 _ _ hT0)),Ai (j:=1) rfl,L0,rfl,⟨_,hS2⟩,Bq (K:=K) (xs:=ts) (fun _=>true) (fun v=>.int (K9 rk (dI H2 v) (U3 sz (G_ kbs k) n):Nat)) hS2 (Ay (by omega)) (fun y hy H' hs R k=>k H' (Al.refl H')) (fun y hy _ H' hs R k'=>?_) (fun D3 H3 hD3 s3 hl3=>?_)⟩
  ·obtain ⟨ln,hln,hyt⟩:=Br htp2 hy
   have e:=RW hyt
   rw [e] at k'
   exact ⟨_,rfl,_,rfl,_,rfl,x,Bg c sz,rk,BR c kbs,ls,y,ln,_,rfl,O2.mono hs,hyt.mono hs,hg ln hln,nlt',fun H4 s4=>k' H4 s4⟩
  ·rw [List.filter_eq_self.mpr (fun _ _=>rfl)] at hl3
   have e3:(ts.map fun v=>V.int (K9 rk (dI H2 v) (U3 sz (G_ kbs k) n):Nat))=nV (l.map fun ln=>K9 rk ln (U3 sz (G_ kbs k) n)):=by
    rw [← UT htp2]
    unfold nV
    rw [List.map_map,List.map_map]
    rfl
   rw [e3] at hl3
   exact ⟨D3,_,rfl,hl3,(by rw [List.length_map]; omega),q H3 (s1.trans (s2.trans s3))⟩
noncomputable def Yj (sz:List Nat) (rk:List (Str × Nat × Int)) (kbs:List Kb) (ls:List (List Ln)) (cl:List Nat) (n:Nat):Nat:=Er (cl.map fun k=>Ur sz rk (G_ kbs k) (ls.getD k []) n)
noncomputable abbrev R5 (rk:List (Str × Nat × Int)) (ls:List (List Ln)):Prop:=∀ l∈ls,l.length<=100/\∀ ln∈l,Xu rk ln
noncomputable def bG (C:Addr):Sp:=fun vs H Q _=>∃ (x:Addr) (c:Nat->Str) (sz:List Nat) (rk:List (Str × Nat × Int)) (kbs:List Kb) (ls:List (List Ln)) (D n:Nat),vs=[.ref x,.int (D:Nat),.int (n:Nat)]/\CW C H x (Bg c sz) rk (BR c kbs) ls/\KD sz.length kbs/\R5 rk ls/\n<2 ^ 1200 /\
 ∀ (cl:List Nat) H',Al H H'->(∀ k,k∈cl ↔ ∃ z,kbs[k]? = some z/\z.w = "stop" /\ D.testBit k=true)->Q (.int (Yj sz rk kbs ls cl n:Nat)) H'
theorem dW:Ar ["organ","knobs","keys"] ["organ","knobs","keys"] (Ac cF):=Bk
include N T in
theorem Z3:Ao P w K mg base BW 5 aD.fBa aD.dBa ["organ","knobs","keys"] (bG C):=by
 have GDc:Ao P w K mg base BW 2 aD.fDc aD.dDc ["organ","knobs","word"] (Tp C):=R4 N T
 have GBs:Ao P w K mg base BW 4 aD.fBs aD.dBs ["organ","knob","keys"] (Tj C):=Rf N T
 have GUn:Ao P w K mg base BW 1 aD.fUn aD.dUn ["sets"] Uz:=RM N T
 refine N.FBa.1.ok dW (fun vs H Q E h=>?_) (fun cdv A outer s H vs Q E hr h=>?_)
 ·refine byC fun hng=>?_
  obtain ⟨x,c,sz,rk,kbs,ls,D,n,rfl,_⟩:=h
  refine hng ?_
  rfl
 ·refine byC fun hng=>?_
  obtain ⟨x,c,sz,rk,kbs,ls,D,n,rfl,O,hkb,hls,hn,q⟩:=h
  refine hng ?_
  have hrDc:A_ 2 _:=hr.mono (by decide)
  have hrBs:A_ 4 _:=hr.mono (by decide)
  have hrUn:A_ 1 _:=hr.mono (by decide)
  refine ⟨_,(Ag (Av (Ah GUn hrUn rfl N.FUn.2.2 N.FUn.1.kp N.FUn.2.1 .nil An (Aa (Bj rfl (BP (osc:=Ac cF) (N:=["organ","knobs","keys"]) rfl rfl (by decide +kernel)) (BV (Ah GDc hrDc rfl N.FDc.2.2 N.FDc.1.kp N.FDc.2.1 .nil An (Aa (pv 0) (Aa (pv 1) (Aa BZ Ab))))) (fun _ _ _ _=>Bu) (fun _ _ _ _=>(Ah GBs hrBs rfl N.FBs.2.2 N.FBs.1.kp N.FBs.2.1 .nil An (Aa (pv 1) (Aa (pv 0) (Aa (pv 3) Ab)))))) Ab)))),?_⟩
  refine ⟨_,rfl,_,rfl,x,Bg c sz,BR c kbs,"stop",D,rfl,O.o,fun CL cl H1 hCL s1 hl1 hcl0 hcll=>?_⟩
  have hcl:∀ k,k∈cl ↔ ∃ z,kbs[k]? = some z/\z.w = "stop" /\ D.testBit k=true:=fun k=>by
   rw [hcl0]
   constructor
   ·rintro ⟨r,hr,hw,hd⟩
    obtain ⟨z,hz,rfl⟩:=Cd hr
    exact ⟨z,hz,(Dy _ _ _).symm.trans hw,hd⟩
   ·rintro ⟨z,hz,hw,hd⟩
    exact ⟨_,Dv hz,(Dy _ _ _).trans hw,hd⟩
  have hS1:CZ K H1 CL (nV cl):=.inl (.inl hl1)
  have O1:=O.mono s1
  let g:V->V:=fun v=>match v with | .int k=>.int (Ur sz rk (G_ kbs k.toNat) (ls.getD k.toNat []) n:Nat) | _=>.non
  refine ⟨CL,rfl,⟨_,hS1⟩,Bq (K:=K) (xs:=nV cl) (fun _=>true) g hS1 (Ay (by rw [List.length_map]; omega)) (fun y hy H' hs R k=>k H' (Al.refl H')) (fun y hy _ H' hs R k=>?_) (fun D2 H2 hD2 s2 hl2=>?_)⟩
  ·obtain ⟨i,hi,rfl⟩:=List.mem_map.mp hy
   obtain ⟨z,hz,hw,hd⟩:=(hcl i).mp hi
   have hik:i<ls.length:=by
    rw [O.nl,Dl]
    exact (List.getElem?_eq_some_iff.mp hz).1
   have hli:=List.getElem?_eq_getElem hik
   have egd:ls.getD i []=ls[i]:=by rw [List.getD_eq_getElem?_getD,hli]; rfl
   have hg:=hls ls[i] (List.getElem_mem hik)
   refine ⟨_,rfl,_,rfl,_,rfl,x,c,sz,rk,kbs,ls,i,n,z,ls[i],rfl,O1.mono hs,hkb,hz,hli,hg.1,hg.2,hn,fun H4 s4=>?_⟩
   have kk:R (.int (Ur sz rk (G_ kbs i) (ls.getD i []) n:Nat)) H4:=k H4 s4
   rw [egd] at kk
   exact kk
  ·rw [List.filter_eq_self.mpr (fun _ _=>rfl)] at hl2
   have e:(nV cl).map g=nV (cl.map fun k=>Ur sz rk (G_ kbs k) (ls.getD k []) n):=by
    unfold nV
    rw [List.map_map,List.map_map]
    rfl
   rw [e] at hl2
   exact ⟨D2,_,rfl,hl2,(by rw [List.length_map]; omega),q cl H2 (s1.trans s2) hcl⟩
noncomputable def Yg (C:Addr):Sp:=fun vs H Q _=>∃ (x:Addr) (c:Nat->Str) (sz:List Nat) (rk:List (Str × Nat × Int)) (kbs:List Kb) (ls:List (List Ln)) (D n:Nat),vs=[.ref x,.int (D:Nat),.int (n:Nat)]/\CW C H x (Bg c sz) rk (BR c kbs) ls/\KD sz.length kbs/\R5 rk ls/\n<2 ^ 1200/\(∀ i,n.testBit i=true->i<sz.sum) /\
 ∀ (cl:List Nat) (m:Nat) H',Al H H'->(∀ k,k∈cl ↔ ∃ z,kbs[k]? = some z/\z.w = "stop" /\ D.testBit k=true)->(∀ j,m.testBit j=true ↔ DW c sz kbs D n j)->Q (.int (Yj sz rk kbs ls cl m:Nat)) H'
theorem fX:Ar ["organ","knobs","held"] ["organ","knobs","held"] (Ac jM):=Bk
include N T in
theorem YD:Ao P w K mg base BW 7 aD.fSo aD.dSo ["organ","knobs","held"] (Yg C):=by
 have GSk:Ao P w K mg base BW 6 aD.fSk aD.dSk ["organ","knobs","held"] (UG C):=Rn N T
 have GBa:Ao P w K mg base BW 5 aD.fBa aD.dBa ["organ","knobs","keys"] (bG C):=Z3 N T
 refine N.FSo.1.ok fX (fun vs H Q E h=>?_) (fun cdv A outer s H vs Q E hr h=>?_)
 ·refine byC fun hng=>?_
  obtain ⟨x,c,sz,rk,kbs,ls,D,n,rfl,_⟩:=h
  refine hng ?_
  rfl
 ·refine byC fun hng=>?_
  obtain ⟨x,c,sz,rk,kbs,ls,D,n,rfl,O,hkb,hls,hn,hnt,q⟩:=h
  refine hng ?_
  have hrSk:A_ 6 _:=hr.mono (by decide)
  have hrBa:A_ 5 _:=hr.mono (by decide)
  refine ⟨_,(Ag (Av (Ah GBa hrBa rfl N.FBa.2.2 N.FBa.1.kp N.FBa.2.1 .nil An (Aa (pv 0) (Aa (pv 1) (Aa (Ah GSk hrSk rfl N.FSk.2.2 N.FSk.1.kp N.FSk.2.1 .nil An (Aa (pv 0) (Aa (pv 1) (Aa (pv 2) Ab)))) Ab)))))),?_⟩
  have h305:=Dp O.o
  rw [B_] at h305
  refine ⟨_,rfl,_,rfl,_,rfl,_,rfl,_,rfl,x,c,sz,kbs,D,n,rfl,O.o,hkb,hn,hnt,fun m H1 s1 hm=>?_⟩
  have hm12:m<2 ^ 1200:=by
   refine Nat.lt_pow_two_of_testBit m fun i hi=>?_
   rw [← Bool.not_eq_true]
   intro hb
   rcases (hm i).mp hb with h | h
   ·have:=h.lt
    rw [B_] at this
    omega
   ·have:=hnt i h.1
    omega
  exact ⟨x,c,sz,rk,kbs,ls,D,m,rfl,O.mono s1,hkb,hls,hm12,fun cl H2 s2 hcl=>q cl m H2 (s1.trans s2) hcl hm⟩
theorem Qy (sz:List Nat) (b n i:Nat):(U3 sz b n).testBit i=true ↔ i<sz.getD b 0/\n.testBit ((sz.take b).sum+i)=true:=by
 unfold U3
 rw [Wd.Jo]
 have e:((i:Int) - -(((sz.take b).sum:Nat):Int)).toNat=(sz.take b).sum+i:=by omega
 rw [e,Bool.and_eq_true,Bool.and_eq_true,decide_eq_true_eq,decide_eq_true_eq]
 exact ⟨fun h=>⟨h.1,h.2.2⟩,fun h=>⟨h.1,by omega,h.2⟩⟩
theorem Nv {rk:List (Str × Nat × Int)} {l:Ln} (g:Xu rk l) (n p:Nat):(K9 rk l n).testBit p=true ↔ ∃ i:Nat,n.testBit i=true/\l.lo<=(i:Int)/\(i:Int)<=l.hi/\0<=(i:Int)+l.sh/\(i:Int)+l.sh<(Mh rk l.r:Nat)/\(p:Int)=(Wg rk l.r:Nat)+((i:Int)+l.sh):=by
 have h1:=g.lo
 have h2:=g.le
 have h3:=Rw g.r
 unfold K9
 rw [Wd.Jo,Wd.Jo,Wd.Jo]
 simp only [Bool.and_eq_true,decide_eq_true_eq]
 constructor
 ·rintro ⟨a1,a2,b1,b2,c1,c2,hn⟩
  exact ⟨_,hn,by omega,by omega,by omega,by omega,by omega⟩
 ·rintro ⟨i,hn,a1,a2,a3,a4,e⟩
  have ei:(((((((p:Int) - ((Wg rk l.r:Nat):Int)).toNat:Nat):Int) - (l.lo+l.sh)).toNat:Nat):Int) - -l.lo=(i:Int):=by omega
  refine ⟨by omega,by omega,by omega,by omega,by omega,by omega,?_⟩
  rw [ei,Int.toNat_natCast]
  exact hn
theorem Nk {sz:List Nat} {rk:List (Str × Nat × Int)} {b:Nat} {l:List Ln} {n p:Nat} (g:∀ ln∈l,Xu rk ln):(Ur sz rk b l n).testBit p=true ↔ ∃ ln∈l,∃ i:Nat,i<sz.getD b 0/\n.testBit ((sz.take b).sum+i)=true/\ln.lo<=(i:Int)/\(i:Int)<=ln.hi/\0<=(i:Int)+ln.sh/\(i:Int)+ln.sh<(Mh rk ln.r:Nat)/\(p:Int)=(Wg rk ln.r:Nat)+((i:Int)+ln.sh):=by
 unfold Ur
 rw [I_]
 constructor
 ·rintro ⟨m,hm,hb⟩
  obtain ⟨ln,hl,rfl⟩:=List.mem_map.mp hm
  obtain ⟨i,hi,r⟩:=(Nv (g ln hl) _ _).mp hb
  obtain ⟨x,y⟩:=(Qy _ _ _ _).mp hi
  exact ⟨ln,hl,i,x,y,r⟩
 ·rintro ⟨ln,hl,i,x,y,r⟩
  exact ⟨_,List.mem_map_of_mem hl,(Nv (g ln hl) _ _).mpr ⟨i,(Qy _ _ _ _).mpr ⟨x,y⟩,r⟩⟩
theorem Xi {sz:List Nat} {rk:List (Str × Nat × Int)} {kbs:List Kb} {ls:List (List Ln)} {cl:List Nat} {n p:Nat}:(Yj sz rk kbs ls cl n).testBit p=true ↔ ∃ k∈cl,(Ur sz rk (G_ kbs k) (ls.getD k []) n).testBit p=true:=by
 unfold Yj
 rw [I_]
 constructor
 ·rintro ⟨m,hm,hb⟩
  obtain ⟨k,hk,rfl⟩:=List.mem_map.mp hm
  exact ⟨k,hk,hb⟩
 ·rintro ⟨k,hk,hb⟩
  exact ⟨_,List.mem_map_of_mem hk,hb⟩
theorem Ri (k:Nat):Wd.mk [k]=2 ^ k:=by
 show 0 ||| 2 ^ k=2 ^ k
 rw [Nat.zero_or]
theorem M5 {X:Cx} {K:PySem.W.Frag} (h:X.K=K) (hu:X.A.units<cLine):Ft X (compareOp .NotEq) (YM K true):=h ▸ Px hu
noncomputable def Ju (ks:List R) (k:Nat):Bool:=match ks[k]? with
 | some r=>decide (V.str r.w=V.str "stop")
 | none=>false
noncomputable def Hk (ks:List R):List Nat:=(List.range ks.length).filter fun k=>!Ju ks k
noncomputable def Fv (ks:List R):List Nat:=(List.range ks.length).filter (Ju ks)
theorem KR (g:Nat->Bool) (xs:List V):((xs.zipIdx.filter fun q=>g q.2).map fun q=>V.int ((q.2:Nat):Int))=nV ((List.range xs.length).filter g):=by
 have e:List.range xs.length=xs.zipIdx.map (·.2):=by
  rw [List.range_eq_range',← List.zipIdx_map_snd]
 unfold nV
 rw [e,List.filter_map,List.map_map]
 rfl
theorem Ff {ks:List R} {k:Nat} {r:R} (h:ks[k]? = some r):Ju ks k=decide (V.str r.w=V.str "stop"):=by
 unfold Ju
 rw [h]
theorem Ob {ks:List R} {k:Nat}:k∈Hk ks ↔ ∃ r,ks[k]? = some r/\r.w ≠ "stop":=by
 unfold Hk
 rw [List.mem_filter,List.mem_range]
 constructor
 ·rintro ⟨h1,h2⟩
  refine ⟨ks[k],List.getElem?_eq_getElem h1,fun e=>?_⟩
  rw [Ff (List.getElem?_eq_getElem h1),e,decide_eq_true rfl] at h2
  cases h2
 ·rintro ⟨r,hr,hw⟩
  refine ⟨(List.getElem?_eq_some_iff.mp hr).1,?_⟩
  rw [Ff hr,decide_eq_false fun z=>hw (V.str.inj z)]
  rfl
theorem Gm {ks:List R} {k:Nat}:k∈Fv ks ↔ ∃ r,ks[k]? = some r/\r.w = "stop":=by
 unfold Fv
 rw [List.mem_filter,List.mem_range]
 constructor
 ·rintro ⟨h1,h2⟩
  refine ⟨ks[k],List.getElem?_eq_getElem h1,?_⟩
  rw [Ff (List.getElem?_eq_getElem h1)] at h2
  exact V.str.inj (of_decide_eq_true h2)
 ·rintro ⟨r,hr,hw⟩
  refine ⟨(List.getElem?_eq_some_iff.mp hr).1,?_⟩
  rw [Ff hr,hw]
  exact decide_eq_true rfl
noncomputable def ZR (C:Addr):Sp:=fun vs H Q _=>∃ (x:Addr) (bs:List (Str × Nat)) (ks:List R),vs=[.ref x]/\Cu C H x bs ks/\∀ L H',H L=none->Al H H'->H' L=some (.lst (nV (Hk ks)))->Q (.ref L) H'
noncomputable def X7 (C:Addr):Sp:=fun vs H Q _=>∃ (x:Addr) (bs:List (Str × Nat)) (ks:List R),vs=[.ref x]/\Cu C H x bs ks/\∀ L H',H L=none->Al H H'->H' L=some (.lst (nV (Fv ks)))->Q (.ref L) H'
theorem ir:Ar ["organ"] ["organ"] (Ac dH):=Bk
include N T in
theorem Z5:Ao P w K mg base BW 2 aD.fLk aD.dLk ["organ"] (ZR C):=by
 have GOz:Ao P w K mg base BW 1 aD.fOz aD.dOz ["self"] (Qf C):=Li N T
 refine N.FLk.1.ok ir (fun vs H Q E h=>?_) (fun cdv A outer s H vs Q E hr h=>?_)
 ·refine byC fun hng=>?_
  obtain ⟨x,bs,ks,rfl,_⟩:=h
  refine hng ?_
  rfl
 ·refine byC fun hng=>?_
  obtain ⟨x,bs,ks,rfl,O,q⟩:=h
  refine hng ?_
  have hrOz:A_ 1 _:=hr.mono (by decide)
  refine ⟨_,(Ag (Av (Iz rfl (Em (osc:=Ac dH) (N:=["organ"]) rfl rfl (by decide +kernel)) (Ec rfl T.enumerate (Aa (CT (pv 0) T.cl N.FOz.2.2 GOz hrOz N.FOz.2.1 .nil An) Ab)) (fun _ _ _ _=>Eu (Ba Im (Az (Am (K:=K) rfl) (pv 1) Ae (fun _ _=>rfl)) BZ (Be _))) (fun _ _ _ _=>(pv 0))))),?_⟩
  refine byC fun hng=>?_
  obtain ⟨⟨dx,fs,bl,bn,kp,kr,bvs,pvs,uvs,kvs,h1,l1,l2,l3,l4,lm,_⟩,ob5,osz,onk⟩:=id O
  refine hng ?_
  refine ⟨_,rfl,x,dx,fs,rfl,h1,lm _ (by decide +kernel),x,_,_,rfl,O,fun D1 ys H1 hD1 s1 hl1 hv1=>?_⟩
  have hS1:CZ K H1 D1 ys:=.inl (.inl hl1)
  have hyl:=hv1.length
  refine ⟨D1,rfl,⟨_,hS1⟩,Gp (K:=K) (xs:=ys) (fun i _=>!Ju ks i) (fun i _=>.int (i:Nat)) hS1 (Ay (by omega)) (fun i v hv H' hs R k=>?_) (fun i v hv _ H' hs R k=>⟨_,rfl,k H' (Al.refl H')⟩) (fun D3 H3 hD3 s3 hl3=>?_)⟩
  ·have hi:i<ks.length:=by have:=(List.getElem?_eq_some_iff.mp hv).1; omega
   obtain ⟨v',hv',ht⟩:=Bs hv1 (List.getElem?_eq_getElem hi)
   obtain rfl:v'=v:=Option.some.inj (hv'.symm.trans hv)
   obtain ⟨T0,rfl,hT⟩:=ht.mono hs
   have kk:=k H' (Al.refl H')
   rw [Ff (List.getElem?_eq_getElem hi)] at kk
   exact ⟨_,rfl,T0,_,_,_,rfl,rfl,.inl (.inl hT),Ai (j:=0) rfl,rfl,_,rfl,kk⟩
  ·rw [KR (fun k=>!Ju ks k) ys,← hyl] at hl3
   exact q D3 H3 (s1.free hD3) (s1.trans s3) hl3
theorem iD:Ar ["organ"] ["organ"] (Ac cG):=Bk
include N T in
theorem ZV:Ao P w K mg base BW 2 aD.fSf aD.dSf ["organ"] (X7 C):=by
 have GOz:Ao P w K mg base BW 1 aD.fOz aD.dOz ["self"] (Qf C):=Li N T
 refine N.FSf.1.ok iD (fun vs H Q E h=>?_) (fun cdv A outer s H vs Q E hr h=>?_)
 ·refine byC fun hng=>?_
  obtain ⟨x,bs,ks,rfl,_⟩:=h
  refine hng ?_
  rfl
 ·refine byC fun hng=>?_
  obtain ⟨x,bs,ks,rfl,O,q⟩:=h
  refine hng ?_
  have hrOz:A_ 1 _:=hr.mono (by decide)
  refine ⟨_,(Ag (Av (Iz rfl (Em (osc:=Ac cG) (N:=["organ"]) rfl rfl (by decide +kernel)) (Ec rfl T.enumerate (Aa (CT (pv 0) T.cl N.FOz.2.2 GOz hrOz N.FOz.2.1 .nil An) Ab)) (fun _ _ _ _=>Eu (Ba Dh (Az (Am (K:=K) rfl) (pv 1) Ae (fun _ _=>rfl)) BZ (Be _))) (fun _ _ _ _=>(pv 0))))),?_⟩
  refine byC fun hng=>?_
  obtain ⟨⟨dx,fs,bl,bn,kp,kr,bvs,pvs,uvs,kvs,h1,l1,l2,l3,l4,lm,_⟩,ob5,osz,onk⟩:=id O
  refine hng ?_
  refine ⟨_,rfl,x,dx,fs,rfl,h1,lm _ (by decide +kernel),x,_,_,rfl,O,fun D1 ys H1 hD1 s1 hl1 hv1=>?_⟩
  have hS1:CZ K H1 D1 ys:=.inl (.inl hl1)
  have hyl:=hv1.length
  refine ⟨D1,rfl,⟨_,hS1⟩,Gp (K:=K) (xs:=ys) (fun i _=>Ju ks i) (fun i _=>.int (i:Nat)) hS1 (Ay (by omega)) (fun i v hv H' hs R k=>?_) (fun i v hv _ H' hs R k=>⟨_,rfl,k H' (Al.refl H')⟩) (fun D3 H3 hD3 s3 hl3=>?_)⟩
  ·have hi:i<ks.length:=by have:=(List.getElem?_eq_some_iff.mp hv).1; omega
   obtain ⟨v',hv',ht⟩:=Bs hv1 (List.getElem?_eq_getElem hi)
   obtain rfl:v'=v:=Option.some.inj (hv'.symm.trans hv)
   obtain ⟨T0,rfl,hT⟩:=ht.mono hs
   have kk:=k H' (Al.refl H')
   rw [Ff (List.getElem?_eq_getElem hi)] at kk
   exact ⟨_,rfl,T0,_,_,_,rfl,rfl,.inl (.inl hT),Ai (j:=0) rfl,rfl,_,rfl,kk⟩
  ·rw [KR (fun k=>Ju ks k) ys,← hyl] at hl3
   exact q D3 H3 (s1.free hD3) (s1.trans s3) hl3
noncomputable def Bp (l:List Nat):List Nat:=l.foldl (fun s k=>s++s.map (· ||| 2 ^ k)) [0]
theorem G7 (l:List Nat) (k:Nat):Bp (l++[k])=Bp l++(Bp l).map (· ||| 2 ^ k):=by
 unfold Bp
 rw [List.foldl_append]
 rfl
theorem JV {l:List Nat} {i k:Nat} (h:l[i]? = some k):Bp (l.take (i+1))=Bp (l.take i)++(Bp (l.take i)).map (· ||| 2 ^ k):=by
 rw [List.take_add_one,h]
 exact G7 _ _
theorem QH:∀ (n:Nat) (l:List Nat),l.length=n->(Bp l).length=2 ^ n:=by
 intro n
 induction n with
 | zero=>intro l h; rw [List.length_eq_zero_iff.mp h]; rfl
 | succ n ih =>
  intro l h
  obtain ⟨a,z,rfl⟩:=DK (l:=l) (by intro e; rw [e] at h; cases h)
  rw [List.length_append,List.length_singleton] at h
  rw [G7,List.length_append,List.length_map,ih a (by omega),Nat.pow_succ]
  omega
theorem HR {l:List Nat} (h:l.length<=6):(Bp l).length<=64:=by
 rw [QH l.length l rfl]
 exact Nat.pow_le_pow_right (by decide) h
theorem Ib:∀ (n:Nat) (l:List Nat),l.length=n->∀ d∈Bp l,∀ i,d.testBit i=true->i∈l:=by
 intro n
 induction n with
 | zero =>
  intro l h d hd i hi
  rw [List.length_eq_zero_iff.mp h] at hd
  rw [List.mem_singleton.mp hd,Nat.zero_testBit] at hi
  cases hi
 | succ n ih =>
  intro l h d hd i hi
  obtain ⟨a,z,rfl⟩:=DK (l:=l) (by intro e; rw [e] at h; cases h)
  rw [List.length_append,List.length_singleton] at h
  rw [G7] at hd
  rcases List.mem_append.mp hd with hd | hd
  ·exact List.mem_append_left _ (ih a (by omega) d hd i hi)
  ·obtain ⟨d',hd',rfl⟩:=List.mem_map.mp hd
   rw [Gd,Nat.testBit_two_pow] at hi
   rcases hi with hi | hi
   ·exact List.mem_append_left _ (ih a (by omega) d' hd' i hi)
   ·rw [of_decide_eq_true hi]
    exact List.mem_append_right _ (List.mem_singleton.mpr rfl)
noncomputable def aH:Sp:=fun vs H Q _=>∃ (p:Addr) (l:List Nat),vs=[.ref p]/\H p=some (.lst (nV l))/\l.length<=6/\(∀ k∈l,k<1200)/\∀ D H',H D=none->Al H H'->H' D=some (.lst (nV (Bp l)))->Q (.ref D) H'
theorem VJ:Ar ["knobs","sets","knob"] ["knobs"] (Ac cM):=Bk
include N T in
theorem ao:Ao P w K mg base BW 4 aD.fSv aD.dSv ["knobs"] aH:=by
 have GSt:Ao P w K mg base BW 3 aD.fSt aD.dSt ["numbers"] PL:=MP N T
 refine N.FSv.1.ok VJ (fun vs H Q E h=>?_) (fun cdv A outer s H vs Q E hr h=>?_)
 ·obtain ⟨p,l,rfl,_⟩:=h
  rfl
 ·refine byC fun hng=>?_
  obtain ⟨p,l,rfl,hp,hl6,hlb,q⟩:=h
  refine hng ?_
  have hrSt:A_ 3 _:=hr.mono (by decide)
  refine ⟨_,(Af (BX (i:=1) VJ.nd rfl (Or.inl rfl) (Dr (Aa Ae Ab)))
   (Af (DQ PassesOwn.never rfl (BV (pv 0)) (Bo (i:=2) VJ.nd rfl (Or.inr rfl)) (Ag (BX (i:=1) VJ.nd rfl (Or.inl rfl) (Bc NP (pv 1) (Bj rfl (BP (osc:=Ac cM) (N:=["knobs","sets","knob"]) rfl rfl (by decide +kernel)) (BV (pv 1)) (fun _ _ _ _=>Bu) (fun _ _ _ _=>(Bc Je (pv 0) (Ah GSt hrSt rfl N.FSt.2.2 N.FSt.1.kp N.FSt.2.1 .nil An (Aa (Dr (Aa (pv 3) Ab)) Ab)))))))))
   (Ag (Av (pv 1))))),?_⟩
  refine ⟨C_ (by simp),fun p0 hp0=>?_⟩
  have s0:=BK (o:=HO.lst [V.int 0]) hp0
  have a0:upd H p0 (HO.lst [V.int 0]) p0=some (.lst (nV (Bp (l.take 0)))):=Ak
  generalize upd H p0 (HO.lst [V.int 0])=H0 at s0 a0 ⊢
  have hS:CZ K H0 p (nV l):=.inl (.inl (s0 _ _ hp))
  refine ⟨_,rfl,p,rfl,⟨_,hS⟩,DY (K:=K) (a:=p) (xs:=nV l) (fun i σ H4=>Al H0 H4/\∃ D,H D=none/\H4 D=some (.lst (nV (Bp (l.take i))))/\∃ v2,σ=[some (.ref p),some (.ref D),v2]) ⟨Al.refl _,p0,hp0,a0,_,rfl⟩ (fun i σ H4 _ h=>h.1.seq hS) ?_ ?_⟩
  ·rintro i y σ H4 hi ⟨s4,D,hD,hd,v2,rfl⟩
   rw [List.getElem?_map] at hi
   obtain ⟨k,hk,rfl⟩:=Option.map_eq_some_iff.mp hi
   have hkb:=hlb k (List.mem_of_getElem? hk)
   have hz:=HR (l:=l.take i) (by rw [List.length_take]; omega)
   have hS4:CZ K H4 D (nV (Bp (l.take i))):=.inl (.inl hd)
   let g:V->V:=fun v=>match v with | .int j=>.int ((j.toNat ||| 2 ^ k:Nat):Int) | _=>.non
   refine ⟨_,rfl,_,rfl,D,rfl,⟨_,hS4⟩,Bq (K:=K) (xs:=nV (Bp (l.take i))) (fun _=>true) g hS4 (Ay (by rw [List.length_map]; omega)) (fun y hy H' hs R kk=>kk H' (Al.refl H')) (fun y hy _ H' hs R kk=>?_) (fun D5 H5 hD5 s5 hl5=>?_)⟩
   ·obtain ⟨d,hd',rfl⟩:=List.mem_map.mp hy
    refine ⟨_,rfl,_,rfl,C_ (by simp),fun p6 hp6=>?_⟩
    have s6:=BK (o:=HO.lst [V.int (k:Nat)]) hp6
    refine ⟨p6,[k],rfl,Ak,by simp,fun n hn=>by rw [List.mem_singleton.mp hn]; omega,fun H7 s7=>?_⟩
    rw [Ri]
    have q7:=kk H7 (s6.trans s7)
    refine ⟨_,_,rfl,rfl,?_⟩
    dsimp only
    rw [Fo]
    exact q7
   rw [List.filter_eq_self.mpr (fun _ _=>rfl)] at hl5
   have e5:(nV (Bp (l.take i))).map g=nV ((Bp (l.take i)).map (· ||| 2 ^ k)):=by
    unfold nV
    rw [List.map_map,List.map_map]
    rfl
   rw [e5] at hl5
   refine ⟨D,D5,_,_,rfl,rfl,s5 _ _ hd,hl5,C_ (by rw [List.length_map,List.length_map,List.length_map]; omega),fun p8 hp8=>?_⟩
   have s8:=BK (o:=HO.lst (nV (Bp (l.take i))++nV ((Bp (l.take i)).map (· ||| 2 ^ k)))) hp8
   refine ⟨s4.trans (s5.trans s8),p8,s0.free (s4.free (s5.free hp8)),?_,some (.int (k:Nat)),rfl⟩
   rw [Ak,JV hk]
   unfold nV
   rw [List.map_append]
  ·rintro σ H4 ⟨s4,D,hD,hd,v2,rfl⟩
   have el:l.take (nV l).length=l:=List.take_of_length_le (by simp)
   rw [el] at hd
   exact ⟨_,rfl,q D H4 hD (s0.trans s4) hd⟩
theorem HW {α β γ:Type} {F:β->γ->Prop} (f:α->β):∀ {l:List α} {vs:List γ},Paired F (l.map f) vs->Paired (fun a v=>F (f a) v) l vs
 | [],_,h=>by cases h; exact .nil
 | a::l,_,h=>by
  cases h with
  | cons x y=>exact .cons x (HW f y)
noncomputable abbrev Qm (e:Nat × Nat):List V:=[.int (e.1:Nat),.int (e.2:Nat)]
noncomputable abbrev Rb (H:Hp) (l:List (Nat × Nat)) (ys:List V):Prop:=Paired (fun (e:Nat × Nat) y=>TupAt H (Qm e) y) l ys
theorem GZ {α:Type} {F:α->V->Prop} (p:α->Bool) (q:V->Bool):∀ {xs:List α} {ys:List V},Paired F xs ys->(∀ x y,x∈xs->F x y->q y=p x)->Paired F (xs.filter p) (ys.filter q)
 | [],_,h,_=>by
  cases h
  exact .nil
 | x::xs,_,h,e=>by
  cases h with
  | cons a b =>
   have ih:=GZ p q b fun x y hx h=>e x y (List.mem_cons_of_mem _ hx) h
   rw [List.filter_cons,List.filter_cons,e x _ List.mem_cons_self a]
   split
   ·exact .cons a ih
   ·exact ih
theorem Eh {H:Hp} {e:Nat × Nat} {y:V} (h:TupAt H (Qm e) y):Fg H 0 y=.int (e.1:Nat)/\Fg H 1 y=.int (e.2:Nat):=⟨Fe h 0,Fe h 1⟩
theorem KC {H:Hp} (i:Nat) (f:Nat × Nat->Nat) (hf:∀ e y,TupAt H (Qm e) y->Fg H i y=.int (f e:Nat)):∀ {l:List (Nat × Nat)} {ys:List V},Rb H l ys->ys.map (Fg H i)=nV (l.map f)
 | [],_,h=>by
  cases h
  rfl
 | x::xs,_,h=>by
  cases h with
  | cons a b =>
   rw [List.map_cons,KC i f hf b,hf _ _ a]
   rfl
theorem Ou (a b:Nat):Builtin.bitAnd (a:Int) (Builtin.bitNot (b:Int))=((a - (a &&& b):Nat):Int):=by
 have h:¬ 0<=Builtin.bitNot (b:Int):=by unfold Builtin.bitNot; omega
 have nn:Builtin.bitNot (Builtin.bitNot (b:Int))=(b:Int):=by unfold Builtin.bitNot; omega
 have hle:a &&& b<=a:=Nat.and_le_left
 unfold Builtin.bitAnd
 rw [decide_eq_true (Int.natCast_nonneg a),decide_eq_false h]
 show (a:Int) - ((((a:Int).toNat &&& (Builtin.bitNot (Builtin.bitNot (b:Int))).toNat:Nat)):Int)=_
 rw [nn,Int.toNat_natCast,Int.toNat_natCast]
 omega
noncomputable abbrev J9 (sz:List Nat) (rk:List (Str × Nat × Int)) (kbs:List Kb) (ls:List (List Ln)) (m k:Nat):Nat:=Ur sz rk (G_ kbs k) (ls.getD k []) m
noncomputable def JB (sz:List Nat) (rk:List (Str × Nat × Int)) (kbs:List Kb) (ls:List (List Ln)) (sl:List Nat) (m wi:Nat):List (Nat × Nat):=(sl.map fun k=>(k,J9 sz rk kbs ls m k)).filter fun e=>decide (e.2 - (e.2 &&& wi)=0)
theorem fM {a b:Nat}:a - (a &&& b)=0 ↔ ∀ i,a.testBit i=true->b.testBit i=true:=by
 constructor
 ·intro h i hi
  have:=Gn.JC a b i
  rw [h,Nat.zero_testBit,hi,Bool.true_and] at this
  cases hb:b.testBit i with
  | true=>rfl
  | false=>rw [hb] at this; cases this
 ·intro h
  refine Nat.eq_of_testBit_eq fun i=>?_
  rw [Gn.JC,Nat.zero_testBit]
  cases ha:a.testBit i with
  | true=>rw [h i ha]; rfl
  | false=>rfl
theorem Gr {sz:List Nat} {rk:List (Str × Nat × Int)} {kbs:List Kb} {ls:List (List Ln)} {sl:List Nat} {m wi:Nat} {e:Nat × Nat}:e∈JB sz rk kbs ls sl m wi ↔ e.1∈sl/\e.2=J9 sz rk kbs ls m e.1/\∀ p,e.2.testBit p=true->wi.testBit p=true:=by
 unfold JB
 rw [List.mem_filter,List.mem_map,decide_eq_true_eq,fM]
 constructor
 ·rintro ⟨⟨k,hk,rfl⟩,h⟩
  exact ⟨hk,rfl,h⟩
 ·rintro ⟨h1,h2,h3⟩
  exact ⟨⟨e.1,h1,by rw [← h2]⟩,h3⟩
theorem UJ {sz:List Nat} {rk:List (Str × Nat × Int)} {kbs:List Kb} {ls:List (List Ln)} {sl:List Nat} {m wi:Nat}:(JB sz rk kbs ls sl m wi).length<=sl.length:=by
 unfold JB
 refine Nat.le_trans (List.length_filter_le _ _) ?_
 rw [List.length_map]
 exact Nat.le_refl _
theorem Nx (ks:List R):(Fv ks).length<=ks.length:=by
 unfold Fv
 refine Nat.le_trans (List.length_filter_le _ _) ?_
 rw [List.length_range]
 exact Nat.le_refl _
theorem Ml {ks:List R} {k:Nat} (h:k∈Hk ks):k<ks.length:=by
 obtain ⟨r,hr,_⟩:=Ob.mp h
 exact (List.getElem?_eq_some_iff.mp hr).1
theorem Mt {ks:List R} {k:Nat} (h:k∈Fv ks):k<ks.length:=by
 obtain ⟨r,hr,_⟩:=Gm.mp h
 exact (List.getElem?_eq_some_iff.mp hr).1
theorem RC {c:Nat->Str} {sz:List Nat} {kbs:List Kb} {D n m:Nat} (h305:sz.sum<=305) (hnt:∀ i,n.testBit i=true->i<sz.sum) (hm:∀ j,m.testBit j=true ↔ DW c sz kbs D n j):(∀ j,m.testBit j=true->j<sz.sum)/\m<2 ^ 1200:=by
 have h:∀ j,m.testBit j=true->j<sz.sum:=fun j hj=>by
  rcases (hm j).mp hj with h | h
  ·have:=h.lt
   rw [B_] at this
   exact this
  ·exact hnt j h.1
 refine ⟨h,Nat.lt_pow_two_of_testBit m fun i hi=>?_⟩
 rw [← Bool.not_eq_true]
 intro hb
 have:=h i hb
 omega
noncomputable def ZJ (C:Addr):Sp:=fun vs H Q _=>∃ (x:Addr) (c:Nat->Str) (sz:List Nat) (rk:List (Str × Nat × Int)) (kbs:List Kb) (ls:List (List Ln)) (D n wi:Nat),vs=[.ref x,.int (D:Nat),.int (n:Nat),.int (wi:Nat)]/\CW C H x (Bg c sz) rk (BR c kbs) ls/\KD sz.length kbs/\R5 rk ls/\n<2 ^ 1200/\(∀ i,n.testBit i=true->i<sz.sum) /\
 ∀ (L:Addr) (m:Nat) (ys:List V) H',H L=none->Al H H'->(∀ j,m.testBit j=true ↔ DW c sz kbs D n j)->H' L=some (.lst ys)->Rb H' (JB sz rk kbs ls (Fv (BR c kbs)) m wi) ys->Q (.ref L) H'
theorem XJ:Ar ["organ","leading","held","wish","keys","brought"] ["organ","leading","held","wish"] (Ac ZD):=Bk
include N T in
theorem aY:Ao P w K mg base BW 7 aD.fGs aD.dGs ["organ","leading","held","wish"] (ZJ C):=by
 have GSk:Ao P w K mg base BW 6 aD.fSk aD.dSk ["organ","knobs","held"] (UG C):=Rn N T
 have GSf:Ao P w K mg base BW 2 aD.fSf aD.dSf ["organ"] (X7 C):=ZV N T
 have GBs:Ao P w K mg base BW 4 aD.fBs aD.dBs ["organ","knob","keys"] (Tj C):=Rf N T
 refine N.FGs.1.ok XJ (fun vs H Q E h=>?_) (fun cdv A outer s H vs Q E hr h=>?_)
 ·refine byC fun hng=>?_
  obtain ⟨x,c,sz,rk,kbs,ls,D,n,wi,rfl,_⟩:=h
  refine hng ?_
  rfl
 ·refine byC fun hng=>?_
  obtain ⟨x,c,sz,rk,kbs,ls,D,n,wi,rfl,O,hkb,hls,hn,hnt,q⟩:=h
  refine hng ?_
  have hrSk:A_ 6 _:=hr.mono (by decide)
  have hrSf:A_ 2 _:=hr.mono (by decide)
  have hrBs:A_ 4 _:=hr.mono (by decide)
  refine ⟨_,(Af (BX (i:=4) XJ.nd rfl (Or.inr rfl) (Ah GSk hrSk rfl N.FSk.2.2 N.FSk.1.kp N.FSk.2.1 .nil An (Aa (pv 0) (Aa (pv 1) (Aa (pv 2) Ab)))))
   (Af (Iw (i:=5) XJ.nd rfl rfl rfl (BP (osc:=Ac ZD) (N:=["organ","leading","held","wish","keys","brought"]) rfl rfl (by decide +kernel)) (BV (Ah GSf hrSf rfl N.FSf.2.2 N.FSf.1.kp N.FSf.2.1 .nil An (Aa (pv 0) Ab))) (fun _ _ _ _=>Bu) (fun _ _ _ _=>(Cq (Aa (pv 0) (Aa (Ah GBs hrBs rfl N.FBs.2.2 N.FBs.1.kp N.FBs.2.1 .nil An (Aa (pv 1) (Aa (pv 0) (Aa (pv 5) Ab)))) Ab)))))
   (Ag (Av (Bj rfl (BP (osc:=Ac ZD) (N:=["organ","leading","held","wish","keys","brought"]) rfl rfl (by decide +kernel)) (BV (pv 5)) (fun _ _ _ _=>(Eu (Ba Dh (Bc Kg (Az (Am (K:=K) rfl) (pv 0) Ae (fun _ _=>rfl)) (J4 Qn (pv 4))) Ae (Be _)))) (fun _ _ _ _=>(pv 0))))))),?_⟩
  have h305:=Dp O.o
  rw [B_] at h305
  refine ⟨_,rfl,_,rfl,_,rfl,x,c,sz,kbs,D,n,rfl,O.o,hkb,hn,hnt,fun m H1 s1 hm=>?_⟩
  have hm12:=(RC h305 hnt hm).2
  refine ⟨_,rfl,x,_,_,rfl,O.o.mono s1,fun L2 H2 hL2 s2 hl2=>?_⟩
  have O2:=O.mono (s1.trans s2)
  have hS2:CZ K H2 L2 (nV (Fv (BR c kbs))):=.inl (.inl hl2)
  have hk200:=O.o.nk
  have hsl:=Nx (BR c kbs)
  let g:V->List V:=fun v=>match v with | .int k=>Qm (k.toNat,J9 sz rk kbs ls m k.toNat) | _=>[]
  refine ⟨L2,rfl,⟨_,hS2⟩,Hj (K:=K) (xs:=nV (Fv (BR c kbs))) (fun _=>true) g hS2 (Ay (by rw [List.length_map]; omega)) (fun y hy H' hs R k=>k H' (Al.refl H')) (fun y hy _ H' hs R k=>?_) (fun D3 H3 ys hD3 s3 hl3 hv3=>?_)⟩
  ·obtain ⟨i,hi,rfl⟩:=List.mem_map.mp hy
   obtain ⟨r,hr,hw⟩:=Gm.mp hi
   obtain ⟨z,hz,rfl⟩:=Cd hr
   have hik:i<ls.length:=by
    rw [O.nl,Dl]
    exact (List.getElem?_eq_some_iff.mp hz).1
   have hli:=List.getElem?_eq_getElem hik
   have egd:ls.getD i []=ls[i]:=by rw [List.getD_eq_getElem?_getD,hli]; rfl
   have hg:=hls ls[i] (List.getElem_mem hik)
   refine ⟨_,rfl,_,rfl,_,rfl,_,rfl,x,c,sz,rk,kbs,ls,i,m,z,ls[i],rfl,O2.mono hs,hkb,hz,hli,hg.1,hg.2,hm12,fun H4 s4=>?_⟩
   have kk:=fun T H5 (s5:Al H' H5) (h:H5 T=some (.tup (Qm (i,J9 sz rk kbs ls m i))))=>k (.ref T) H5 s5 ⟨T,rfl,h⟩
   unfold J9 at kk
   rw [egd] at kk
   exact ⟨by show 2<=sizeLine; decide,fun T6 hT6=>kk T6 _ (s4.trans (BK hT6)) Ak⟩
  rw [List.filter_eq_self.mpr (fun _ _=>rfl)] at hv3
  have hv3':Rb H3 ((Fv (BR c kbs)).map fun k=>(k,J9 sz rk kbs ls m k)) ys:=by
   refine Bt (F:=fun (e:Nat × Nat) y=>TupAt H3 (Qm e) y) (fun k=>(k,J9 sz rk kbs ls m k)) ?_
   exact HW (fun k:Nat=>V.int ((k:Nat):Int)) hv3
  clear hv3
  have lys:ys.length=(Fv (BR c kbs)).length:=by rw [← hv3'.length,List.length_map]
  have hS3:CZ K H3 D3 ys:=.inl (.inl hl3)
  let pq:V->Bool:=fun v=>match Fg H3 1 v with | .int b=>decide (b.toNat - (b.toNat &&& wi)=0) | _=>false
  have pqe:∀ e y,TupAt H3 (Qm e) y->pq y=decide (e.2 - (e.2 &&& wi)=0):=fun e y h=>by
   show (match Fg H3 1 y with | .int b=>decide (b.toNat - (b.toNat &&& wi)=0) | _=>false)=_
   rw [(Eh h).2]
   rfl
  refine ⟨_,rfl,D3,rfl,⟨_,hS3⟩,Bq (K:=K) (xs:=ys) pq id hS3 (Ay (by omega)) (fun y hy H' hs R k=>?_) (fun y hy _ H' hs R k=>⟨_,rfl,k H' (Al.refl H')⟩) (fun D4 H4 hD4 s4 hl4=>?_)⟩
  ·obtain ⟨e,_,ht⟩:=Br hv3' hy
   have kk:=k H' (Al.refl H')
   rw [pqe e y ht] at kk
   obtain ⟨T0,rfl,hT⟩:=ht.mono hs
   refine ⟨_,rfl,T0,_,_,_,rfl,rfl,.inl (.inl hT),Ai (j:=1) rfl,_,rfl,_,rfl,_,_,rfl,rfl,rfl,_,rfl,?_⟩
   show R (decide (V.int (Builtin.bitAnd ((e.2:Nat):Int) (Builtin.bitNot ((wi:Nat):Int)))=V.int 0)) H'
   rw [Ou]
   have ed:decide (V.int ((e.2 - (e.2 &&& wi):Nat):Int)=V.int 0)=decide (e.2 - (e.2 &&& wi)=0):=by
    rw [decide_eq_decide]
    exact ⟨fun z=>by have:=V.int.inj z; omega,fun z=>by rw [z]; rfl⟩
   rw [ed]
   exact kk
  rw [List.map_id] at hl4
  exact q D4 m _ H4 ((s1.trans (s2.trans s3)).free hD4) (s1.trans (s2.trans (s3.trans s4))) hm hl4 (Aj s4 (GZ _ pq hv3' fun e y _ h=>pqe e y h))
noncomputable def W8:Sp:=fun vs H Q _=>∃ (p:Addr) (l:List (Nat × Nat)) (ys:List V),vs=[.ref p]/\H p=some (.lst ys)/\Rb H l ys/\l.length<=200/\∀ H',Al H H'->Q (.int (Er (l.map (·.2)):Nat)) H'
theorem fu:Ar ["brought"] ["brought"] (Ac bj):=Bk
include N T in
theorem Vm:Ao P w K mg base BW 2 aD.fPn aD.dPn ["brought"] W8:=by
 have GUn:Ao P w K mg base BW 1 aD.fUn aD.dUn ["sets"] Uz:=RM N T
 refine N.FPn.1.ok fu (fun vs H Q E h=>?_) (fun cdv A outer s H vs Q E hr h=>?_)
 ·refine byC fun hng=>?_
  obtain ⟨p,l,ys,rfl,_⟩:=h
  refine hng ?_
  rfl
 ·refine byC fun hng=>?_
  obtain ⟨p,l,ys,rfl,hp,hpr,hl,q⟩:=h
  refine hng ?_
  have hrUn:A_ 1 _:=hr.mono (by decide)
  refine ⟨_,(Ag (Av (Ah GUn hrUn rfl N.FUn.2.2 N.FUn.1.kp N.FUn.2.1 .nil An (Aa (Bj rfl (BP (osc:=Ac bj) (N:=["brought"]) rfl rfl (by decide +kernel)) (BV (pv 0)) (fun _ _ _ _=>Bu) (fun _ _ _ _=>(Az (Am (K:=K) rfl) (pv 0) Ae (fun _ _=>rfl)))) Ab)))),?_⟩
  have hS:CZ K H p ys:=.inl (.inl hp)
  have lys:=hpr.length
  refine ⟨_,rfl,p,rfl,⟨_,hS⟩,Bq (K:=K) (xs:=ys) (fun _=>true) (Fg H 1) hS (Ay (by omega)) (fun y hy H' hs R k=>k H' (Al.refl H')) (fun y hy _ H' hs R k=>?_) (fun D2 H2 hD2 s2 hl2=>?_)⟩
  ·obtain ⟨e,_,ht⟩:=Br hpr hy
   have kk:=k H' (Al.refl H')
   rw [(Eh ht).2] at kk
   obtain ⟨T0,rfl,hT⟩:=ht.mono hs
   exact ⟨_,rfl,T0,_,_,_,rfl,rfl,.inl (.inl hT),Ai (j:=1) rfl,kk⟩
  rw [List.filter_eq_self.mpr (fun _ _=>rfl),KC 1 (·.2) (fun e y h=>(Eh h).2) hpr] at hl2
  exact ⟨D2,_,rfl,hl2,by rw [List.length_map]; omega,q H2 s2⟩
noncomputable def De (wt:Nat) (cur:List (Nat × Nat)) (e:Nat × Nat):List (Nat × Nat):=if Er ((cur.filter fun x=>decide (x ≠ e)).map (·.2))=wt then cur.filter fun x=>decide (x ≠ e) else cur
noncomputable def TY (l:List (Nat × Nat)):List (Nat × Nat):=l.foldl (De (Er (l.map (·.2)))) l
theorem V9 (a b:Nat × Nat):K3 (Qm a) (Qm b)=decide (a=b):=by
 have e:∀ a:Nat × Nat,Qm a=[((a.1:Nat):Int),((a.2:Nat):Int)].map V.int:=fun _=>rfl
 rw [e a,e b,K4,decide_eq_decide]
 constructor
 ·intro h
  injection h with h1 h2
  injection h2 with h2 _
  exact Prod.ext (by omega) (by omega)
 ·intro h
  rw [h]
theorem Nj {wt:Nat} {cur:List (Nat × Nat)} {e:Nat × Nat}:∀ x∈De wt cur e,x∈cur:=fun x hx=>by
 unfold De at hx
 split at hx
 ·exact (List.mem_filter.mp hx).1
 ·exact hx
theorem Lp (wt:Nat):∀ (l cur:List (Nat × Nat)),∀ x∈l.foldl (De wt) cur,x∈cur
 | [],_,_,h=>h
 | e::l,_,x,h=>Nj x (Lp wt l _ x h)
theorem JZ (wt:Nat):∀ (l cur:List (Nat × Nat)),(l.foldl (De wt) cur).length<=cur.length
 | [],_=>Nat.le_refl _
 | e::l,cur=>by
  refine Nat.le_trans (JZ wt l _) ?_
  unfold De
  split
  ·exact List.length_filter_le _ _
  ·exact Nat.le_refl _
theorem Ox (wt:Nat):∀ (l cur:List (Nat × Nat)),Er (cur.map (·.2))=wt->Er ((l.foldl (De wt) cur).map (·.2))=wt
 | [],_,h=>h
 | e::l,cur,h=>by
  refine Ox wt l _ ?_
  unfold De
  split
  ·assumption
  ·exact h
theorem Xg (l:List (Nat × Nat)):Er ((TY l).map (·.2))=Er (l.map (·.2)):=Ox _ l l rfl
theorem Hf (l:List (Nat × Nat)):∀ x∈TY l,x∈l:=Lp _ l l
noncomputable def Zg:Sp:=fun vs H Q _=>∃ (p:Addr) (l:List (Nat × Nat)) (ys:List V),vs=[.ref p]/\H p=some (.lst ys)/\Rb H l ys/\l.length<=200/\(∀ e∈l,e.1<1200)/\∀ H',Al H H'->Q (.int (Wd.mk ((TY l).map (·.1)):Nat)) H'
theorem O8:Ar ["brought","wanted","needed","each","others"] ["brought"] (Ac ZW):=Bk
include N T in
theorem Yx:Ao P w K mg base BW 4 aD.fNd aD.dNd ["brought"] Zg:=by
 have GPn:Ao P w K mg base BW 2 aD.fPn aD.dPn ["brought"] W8:=Vm N T
 have GSt:Ao P w K mg base BW 3 aD.fSt aD.dSt ["numbers"] PL:=MP N T
 refine N.FNd.1.ok O8 (fun vs H Q E h=>?_) (fun cdv A outer s H vs Q E hr h=>?_)
 ·refine byC fun hng=>?_
  obtain ⟨p,l,ys,rfl,_⟩:=h
  refine hng ?_
  rfl
 ·refine byC fun hng=>?_
  obtain ⟨p,l,ys,rfl,hp,hpr,hl,hb,q⟩:=h
  refine hng ?_
  have hrPn:A_ 2 _:=hr.mono (by decide)
  have hrSt:A_ 3 _:=hr.mono (by decide)
  refine ⟨_,(Af (BX (i:=1) O8.nd rfl (Or.inl rfl) (Ah GPn hrPn rfl N.FPn.2.2 N.FPn.1.kp N.FPn.2.1 .nil An (Aa (pv 0) Ab)))
   (Af (BX (i:=2) O8.nd rfl (Or.inl rfl) (pv 0))
   (Af (DQ PassesOwn.never rfl (BV (pv 0)) (Bo (i:=3) O8.nd rfl (Or.inr rfl)) (Af (Iw (i:=4) O8.nd rfl rfl rfl (BP (osc:=Ac ZW) (N:=["brought","wanted","needed","each","others"]) rfl rfl (by decide +kernel)) (BV (pv 2)) (fun _ _ _ _=>(Eu (Ba (M5 (K:=K) rfl hr.Qw) (pv 0) (pv 4) (Be _)))) (fun _ _ _ _=>(pv 0)))
   (Ag (Bw (Ba Dh (Ah GPn hrPn rfl N.FPn.2.2 N.FPn.1.kp N.FPn.2.1 .nil An (Aa (pv 4) Ab)) (pv 1) (Be _)) (Ag (BX (i:=2) O8.nd rfl (Or.inl rfl) (pv 4))) Bb))))
   (Ag (Av (Ah GSt hrSt rfl N.FSt.2.2 N.FSt.1.kp N.FSt.2.1 .nil An (Aa (Bj rfl (BP (osc:=Ac ZW) (N:=["brought","wanted","needed","each","others"]) rfl rfl (by decide +kernel)) (BV (pv 2)) (fun _ _ _ _=>Bu) (fun _ _ _ _=>(Az (Am (K:=K) rfl) (pv 0) Ae (fun _ _=>rfl)))) Ab))))))),?_⟩
  have lys:=hpr.length
  refine ⟨_,rfl,p,l,ys,rfl,hp,hpr,hl,fun H1 s1=>?_⟩
  have hp1:=s1 _ _ hp
  have hpr1:=Aj s1 hpr
  have hS1:CZ K H1 p ys:=.inl (.inl hp1)
  refine ⟨_,rfl,?_⟩
  refine ⟨_,rfl,p,rfl,⟨_,hS1⟩,DY (K:=K) (a:=p) (xs:=ys) (fun i σ H4=>Al H1 H4/\∃ (p2:Addr) (zs:List V),H4 p2=some (.lst zs)/\Rb H4 ((l.take i).foldl (De (Er (l.map (·.2)))) l) zs/\∃ v3 v4,σ=[some (.ref p),some (.int (Er (l.map (·.2)):Nat)),some (.ref p2),v3,v4]) ⟨Al.refl _,p,ys,hp1,hpr1,_,_,rfl⟩ (fun i σ H4 _ h=>h.1.seq hS1) ?_ ?_⟩
  ·rintro i y σ H4 hi ⟨s4,p2,zs,hz,hzp,v3,v4,rfl⟩
   have hil:i<l.length:=by have:=(List.getElem?_eq_some_iff.mp hi).1; omega
   obtain ⟨y',hy',ht'⟩:=Bs hpr1 (List.getElem?_eq_getElem hil)
   obtain rfl:y'=y:=Option.some.inj (hy'.symm.trans hi)
   have ht4:=ht'.mono s4
   have efold:(l.take (i+1)).foldl (De (Er (l.map (·.2)))) l=De (Er (l.map (·.2))) ((l.take i).foldl (De (Er (l.map (·.2)))) l) l[i]:=by
    rw [List.take_add_one,List.getElem?_eq_getElem hil,List.foldl_append]
    rfl
   have hcl:=JZ (Er (l.map (·.2))) (l.take i) l
   generalize (l.take i).foldl (De (Er (l.map (·.2)))) l=cur at hzp efold hcl
   have lzs:=hzp.length
   have hS4:CZ K H4 p2 zs:=.inl (.inl hz)
   let pq:V->Bool:=fun v=>decide (¬ (Fg H4 0 v=.int (l[i].1:Nat)/\Fg H4 1 v=.int (l[i].2:Nat)))
   have pqe:∀ (e:Nat × Nat) y,TupAt H4 (Qm e) y->pq y=decide (e ≠ l[i]):=fun e y h=>by
    show decide (¬ (Fg H4 0 y=.int (l[i].1:Nat)/\Fg H4 1 y=.int (l[i].2:Nat)))=_
    rw [(Eh h).1,(Eh h).2,decide_eq_decide]
    refine not_congr ⟨fun z=>?_,fun z=>by rw [z]; exact ⟨rfl,rfl⟩⟩
    have z1:=V.int.inj z.1
    have z2:=V.int.inj z.2
    exact Prod.ext (by omega) (by omega)
   refine ⟨_,rfl,p2,rfl,⟨_,hS4⟩,Bq (K:=K) (xs:=zs) pq id hS4 (Ay (by omega)) (fun y hy H' hs R k=>?_) (fun y hy _ H' hs R k=>⟨_,rfl,k H' (Al.refl H')⟩) (fun D5 H5 hD5 s5 hl5=>?_)⟩
   ·obtain ⟨e,_,hte⟩:=Br hzp hy
    have kk:=k H' (Al.refl H')
    rw [pqe e y hte] at kk
    obtain ⟨T0,rfl,hT⟩:=hte.mono hs
    obtain ⟨T1,rfl,hT1⟩:=ht4.mono hs
    refine ⟨_,rfl,_,rfl,T0,T1,_,_,rfl,rfl,.inl (.inl hT),.inl (.inl hT1),rfl,rfl,_,rfl,?_⟩
    rw [if_pos rfl,V9,← decide_not]
    exact kk
   rw [List.map_id] at hl5
   have hpr5:Rb H5 (cur.filter fun x=>decide (x ≠ l[i])) (zs.filter pq):=Aj s5 (GZ _ pq hzp fun e y _ h=>pqe e y h)
   have hfl:=List.length_filter_le (fun x=>decide (x ≠ l[i])) cur
   refine ⟨_,rfl,D5,_,_,rfl,hl5,hpr5,by omega,fun H6 s6=>⟨_,rfl,rfl,_,rfl,?_⟩⟩
   have ed:decide (V.int ((Er ((cur.filter fun x=>decide (x ≠ l[i])).map (·.2)):Nat):Int)=V.int ((Er (l.map (·.2)):Nat):Int))=decide (Er ((cur.filter fun x=>decide (x ≠ l[i])).map (·.2))=Er (l.map (·.2))):=by
    rw [decide_eq_decide]
    exact ⟨fun z=>by have:=V.int.inj z; omega,fun z=>by rw [z]⟩
   rw [ed]
   refine Cp (fun g=>?_) (fun g=>?_)
   ·refine ⟨_,rfl,s4.trans (s5.trans s6),D5,_,s6 _ _ hl5,?_,some y',some (.ref D5),rfl⟩
    rw [efold]
    unfold De
    rw [if_pos (of_decide_eq_true g)]
    exact Aj s6 hpr5
   ·refine ⟨s4.trans (s5.trans s6),p2,zs,s6 _ _ (s5 _ _ hz),?_,some y',some (.ref D5),rfl⟩
    rw [efold]
    unfold De
    rw [if_neg fun z=>g (decide_eq_true z)]
    exact Aj (s5.trans s6) hzp
  ·rintro σ H4 ⟨s4,p2,zs,hz,hzp,v3,v4,rfl⟩
   have el:l.take ys.length=l:=List.take_of_length_le (by omega)
   rw [el] at hzp
   have hsub:=Hf l
   have hcl:=JZ (Er (l.map (·.2))) l l
   have hzp':Rb H4 (TY l) zs:=hzp
   have lzs:=hzp'.length
   have hcl':(TY l).length<=l.length:=hcl
   have hS4:CZ K H4 p2 zs:=.inl (.inl hz)
   refine ⟨_,rfl,p2,rfl,⟨_,hS4⟩,Bq (K:=K) (xs:=zs) (fun _=>true) (Fg H4 0) hS4 (Ay (by omega)) (fun y hy H' hs R k=>k H' (Al.refl H')) (fun y hy _ H' hs R k=>?_) (fun D5 H5 hD5 s5 hl5=>?_)⟩
   ·obtain ⟨e,_,ht⟩:=Br hzp' hy
    have kk:=k H' (Al.refl H')
    rw [(Eh ht).1] at kk
    obtain ⟨T0,rfl,hT⟩:=ht.mono hs
    exact ⟨_,rfl,T0,_,_,_,rfl,rfl,.inl (.inl hT),Ai (j:=0) rfl,kk⟩
   rw [List.filter_eq_self.mpr (fun _ _=>rfl),KC 0 (·.1) (fun e y h=>(Eh h).1) hzp'] at hl5
   refine ⟨D5,_,rfl,hl5,by rw [List.length_map]; omega,fun k hk=>?_,fun H6 s6=>q H6 (s1.trans (s4.trans (s5.trans s6)))⟩
   obtain ⟨e,he,rfl⟩:=List.mem_map.mp hk
   exact hb e (hsub e he)
theorem Q6 {n:Nat}:decide ((6:Int)<((n:Nat):Int))=decide (6<n):=by
 rw [decide_eq_decide]
 omega
noncomputable def V8 (C cT:Addr):Sp:=fun vs H Q E=>∃ (x:Addr) (c:Nat->Str) (sz:List Nat) (rk:List (Str × Nat × Int)) (kbs:List Kb) (ls:List (List Ln)) (n wi:Nat),vs=[.ref x,.int (n:Nat),.int (wi:Nat)]/\CW C H x (Bg c sz) rk (BR c kbs) ls/\KD sz.length kbs/\R5 rk ls/\n<2 ^ 1200/\(∀ i,n.testBit i=true->i<sz.sum)/\wi<2 ^ 1200 /\
 (∀ (D m:Nat) (T0:Addr) H',(Hk (BR c kbs)).length<=6->D∈Bp (Hk (BR c kbs))->(∀ j,m.testBit j=true ↔ DW c sz kbs D n j)->(∀ p,wi.testBit p=true->(Er ((JB sz rk kbs ls (Fv (BR c kbs)) m wi).map (·.2))).testBit p=true)->Al H H'->H' T0=some (.tup [.str "knobs",.int ((D ||| Wd.mk ((TY (JB sz rk kbs ls (Fv (BR c kbs)) m wi)).map (·.1)):Nat):Int)])->Q (.ref T0) H') /\
 (∀ (lk:List (Nat × Nat)) (L T0:Addr) (ys:List V) H',(Hk (BR c kbs)).length<=6->lk.map (·.1)=Bp (Hk (BR c kbs))->(∀ e∈lk,wi.testBit e.2=true/\∃ m,(∀ j,m.testBit j=true ↔ DW c sz kbs e.1 n j)/\¬ (Er ((JB sz rk kbs ls (Fv (BR c kbs)) m wi).map (·.2))).testBit e.2=true)->Al H H'->H' T0=some (.tup [.str "lacks",.ref L])->H' L=some (.lst ys)->Rb H' lk ys->Q (.ref T0) H') /\
 (∀ H',6<(Hk (BR c kbs)).length->Al H H'->E (.ref cT) none H')
theorem Pn:Ar ["organ","held","wish","leading","lacks","some","brought","lacking"] ["organ","held","wish"] (Ac iu):=Bk
include N T in
theorem Vx:Ao P w K mg base (Vp P w) 9 aD.fWk aD.dWk ["organ","held","wish"] (V8 C cT):=by
 have GLk:Ao P w K mg base BW 2 aD.fLk aD.dLk ["organ"] (ZR C):=Z5 N T
 have GSv:Ao P w K mg base BW 4 aD.fSv aD.dSv ["knobs"] aH:=ao N T
 have GGs:Ao P w K mg base BW 7 aD.fGs aD.dGs ["organ","leading","held","wish"] (ZJ C):=aY N T
 have GPn:Ao P w K mg base BW 2 aD.fPn aD.dPn ["brought"] W8:=Vm N T
 have GMe:Ao P w K mg base BW 2 aD.fMe aD.dMe ["some"] R1:=Oz N T
 have GNd:Ao P w K mg base BW 4 aD.fNd aD.dNd ["brought"] Zg:=Yx N T
 refine N.FWk.1.j_ Pn (fun vs H Q E h=>?_) (fun cdv A outer s H vs Q E hr h=>?_)
 ·refine byC fun hng=>?_
  obtain ⟨x,c,sz,rk,kbs,ls,n,wi,rfl,_⟩:=h
  refine hng ?_
  rfl
 ·refine byC fun hng=>?_
  obtain ⟨x,c,sz,rk,kbs,ls,n,wi,rfl,O,hkb,hls,hn,hnt,hwi,qk,ql,qe⟩:=h
  refine hng ?_
  have hrLk:A_ 2 _:=hr.mono (by decide)
  have hrSv:A_ 4 _:=hr.mono (by decide)
  have hrGs:A_ 7 _:=hr.mono (by decide)
  have hrPn:A_ 2 _:=hr.mono (by decide)
  have hrMe:A_ 2 _:=hr.mono (by decide)
  have hrNd:A_ 4 _:=hr.mono (by decide)
  obtain ⟨tMLd,hMLd⟩:=T.mostLd
  refine ⟨_,(Af (BX (i:=3) Pn.nd rfl (Or.inl rfl) (Ah GLk hrLk rfl N.FLk.2.2 N.FLk.1.kp N.FLk.2.1 .nil An (Aa (pv 0) Ab)))
   (Af (Bw (Ba Q0 (BL Bh rfl T.len PySem.boot_len (Aa (pv 3) Ab)) (Bv (v:=.int 6) rfl hMLd ⟨tMLd,rfl⟩) (Be _)) (Ag (Rt T.x4.rT.ex rfl T.x4.mT rfl U4 (Aa BZ Ab))) Bb)
   (Af (BX (i:=4) Pn.nd rfl (Or.inl rfl) (Dr Ab))
   (Af (DQ PassesOwn.leaving rfl (BV (Ah GSv hrSv rfl N.FSv.2.2 N.FSv.1.kp N.FSv.2.1 .nil An (Aa (pv 3) Ab))) (Bo (i:=5) Pn.nd rfl (Or.inl rfl)) (Af (BX (i:=6) Pn.nd rfl (Or.inl rfl) (Ah GGs hrGs rfl N.FGs.2.2 N.FGs.1.kp N.FGs.2.1 .nil An (Aa (pv 0) (Aa (pv 5) (Aa (pv 1) (Aa (pv 2) Ab))))))
   (Af (BX (i:=7) Pn.nd rfl (Or.inl rfl) (Ah GMe hrMe rfl N.FMe.2.2 N.FMe.1.kp N.FMe.2.1 .nil An (Aa (Bc Kg (pv 2) (J4 Qn (Ah GPn hrPn rfl N.FPn.2.2 N.FPn.1.kp N.FPn.2.1 .nil An (Aa (pv 6) Ab)))) Ab)))
   (Af (Bw (CP (Jg (pv 7) (fun _=>rfl))) (Ag (Av (Cq (Aa BZ (Aa (Bc Je (pv 5) (Ah GNd hrNd rfl N.FNd.2.2 N.FNd.1.kp N.FNd.2.1 .nil An (Aa (pv 6) Ab))) Ab))))) Bb)
   (Ag (Es (Il PySem.F.plainAttrs_list PySem.F.slot_list_append PySem.F.type_list_append Dg (pv 4) (Aa (Cq (Aa (pv 5) (Aa (Az Dd (pv 7) Ae (fun _ _=>rfl)) Ab))) Ab))))))))
   (Ag (Av (Cq (Aa BZ (Aa (pv 4) Ab))))))))),?_⟩
  have hk200:=O.o.nk
  have hsl:=Nx (BR c kbs)
  refine ⟨_,rfl,x,_,_,rfl,O.o,fun L1 H1 hL1 s1 hl1=>?_⟩
  have lnv:(nV (Hk (BR c kbs))).length=(Hk (BR c kbs)).length:=List.length_map ..
  refine ⟨_,rfl,L1,_,rfl,.inl (.inl (.inl hl1)),_,_,rfl,rfl,_,rfl,?_⟩
  rw [lnv,Q6]
  refine Cp (fun g=>?_) (fun g=>?_)
  ·exact ⟨by show 1<=1000; decide,qe H1 (of_decide_eq_true g) s1⟩
  have h6:(Hk (BR c kbs)).length<=6:=Nat.le_of_not_lt fun z=>g (decide_eq_true z)
  refine ⟨by show 0<=sizeLine; decide,fun p0 hp0=>?_⟩
  obtain ⟨H2,eqH,t0,a0⟩:=Hq (o:=HO.lst []) hp0
  rw [eqH]
  have hp0':=s1.free hp0
  refine ⟨_,rfl,L1,_,rfl,t0 _ _ hl1,h6,(fun k hk=>by have:=Ml hk; omega),fun L3 H3 hL3 s3 hl3=>?_⟩
  have s13:Al H H3:=s1.trans (t0.trans s3)
  have hz:=HR h6
  have hS3:CZ K H3 L3 (nV (Bp (Hk (BR c kbs)))):=.inl (.inl hl3)
  have nL3:L3 ≠ p0:=Ne.symm (Aw a0 hL3)
  refine ⟨L3,rfl,⟨_,hS3⟩,DY (K:=K) (a:=L3) (xs:=nV (Bp (Hk (BR c kbs)))) (fun i σ H4=>(∀ b o,b ≠ p0->H3 b=some o->H4 b=some o)/\∃ (lk:List (Nat × Nat)) (ys:List V),H4 p0=some (.lst ys)/\Rb H4 lk ys/\lk.map (·.1)=(Bp (Hk (BR c kbs))).take i/\(∀ e∈lk,wi.testBit e.2=true/\∃ m,(∀ j,m.testBit j=true ↔ DW c sz kbs e.1 n j)/\¬ (Er ((JB sz rk kbs ls (Fv (BR c kbs)) m wi).map (·.2))).testBit e.2=true)/\∃ v5 v6 v7,σ=[some (.ref x),some (.int (n:Nat)),some (.int (wi:Nat)),some (.ref L1),some (.ref p0),v5,v6,v7]) ⟨fun b o _ e=>e,[],[],s3 _ _ a0,.nil,rfl,(fun _ h=>nomatch h),_,_,_,rfl⟩ (fun i σ H4 _ h=>.inl (.inl (h.1 _ _ nL3 hl3))) ?_ ?_⟩
  ·rintro i y σ H4 hi ⟨s4,lk,ys,hy4,hp4,hm4,hw4,v5,v6,v7,rfl⟩
   rw [List.getElem?_map] at hi
   obtain ⟨D,hD,rfl⟩:=Option.map_eq_some_iff.mp hi
   have hiz:=(List.getElem?_eq_some_iff.mp hD).1
   have sH4:Al H H4:=fun b o e=>s4 b o (Aw e hp0') (s13 _ _ e)
   have O4:=O.mono sH4
   refine ⟨_,rfl,_,rfl,_,rfl,_,rfl,x,c,sz,rk,kbs,ls,D,n,wi,rfl,O4,hkb,hls,hn,hnt,fun L5 m zs H5 hL5 s5 hm hl5 hp5=>?_⟩
   have hgl:=UJ (sz:=sz) (rk:=rk) (kbs:=kbs) (ls:=ls) (sl:=Fv (BR c kbs)) (m:=m) (wi:=wi)
   refine ⟨_,rfl,_,rfl,L5,_,zs,rfl,hl5,hp5,by omega,fun H6 s6=>?_⟩
   refine ⟨_,rfl,_,_,rfl,rfl,wi - (wi &&& Er ((JB sz rk kbs ls (Fv (BR c kbs)) m wi).map (·.2))),?_,?_,fun L7 H7 hL7 s7 hl7=>?_⟩
   ·show [V.int (Builtin.bitAnd ((wi:Nat):Int) (Builtin.bitNot ((Er ((JB sz rk kbs ls (Fv (BR c kbs)) m wi).map (·.2)):Nat):Int)))]=_
    rw [Ou]
   ·omega
   have s57:=s6.trans s7
   refine ⟨_,rfl,_,.inl ⟨_,.inl (.inl hl7),rfl⟩,?_⟩
   refine Cp (fun g=>?_) (fun g=>?_)
   ·have e0:Wd.mem (wi - (wi &&& Er ((JB sz rk kbs ls (Fv (BR c kbs)) m wi).map (·.2))))=[]:=by
     rw [Bool.not_not] at g
     exact List.map_eq_nil_iff.mp (List.isEmpty_iff.mp g)
    have hcov:∀ p,wi.testBit p=true->(Er ((JB sz rk kbs ls (Fv (BR c kbs)) m wi).map (·.2))).testBit p=true:=fun p hp=>by
     have h0:p ∉ Wd.mem (wi - (wi &&& Er ((JB sz rk kbs ls (Fv (BR c kbs)) m wi).map (·.2)))):=by rw [e0]; exact List.not_mem_nil
     rw [Wd.mem_iff,Gn.JC,hp,Bool.true_and] at h0
     cases hb:(Er ((JB sz rk kbs ls (Fv (BR c kbs)) m wi).map (·.2))).testBit p with
     | true=>rfl
     | false=>rw [hb] at h0; exact absurd rfl h0
    refine ⟨_,rfl,_,rfl,L5,_,zs,rfl,s57 _ _ hl5,Aj s57 hp5,by omega,fun e he=>?_,fun H8 s8=>⟨_,_,rfl,rfl,by show 2<=sizeLine; decide,fun T9 hT9=>?_⟩⟩
    ·have:=Mt (Gr.mp he).1
     omega
    refine qk D m T9 _ h6 (List.mem_of_getElem? hD) hm hcov (sH4.trans (s5.trans (s57.trans (s8.trans (BK hT9))))) ?_
    rw [Ak]
    show some (HO.tup [V.str "knobs",V.int (Builtin.bitOr ((D:Nat):Int) ((Wd.mk ((TY (JB sz rk kbs ls (Fv (BR c kbs)) m wi)).map (·.1)):Nat):Int))])=_
    rw [Fo]
   ·have hne:Wd.mem (wi - (wi &&& Er ((JB sz rk kbs ls (Fv (BR c kbs)) m wi).map (·.2)))) ≠ []:=fun z=>g (by rw [z]; rfl)
    obtain ⟨f,r,efr⟩:=List.exists_cons_of_ne_nil hne
    have hf:f∈Wd.mem (wi - (wi &&& Er ((JB sz rk kbs ls (Fv (BR c kbs)) m wi).map (·.2)))):=by rw [efr]; exact List.mem_cons_self
    rw [efr] at hl7
    rw [Wd.mem_iff,Gn.JC,Bool.and_eq_true] at hf
    have s47:=s5.trans s57
    have hy7:=s47 _ _ hy4
    have hlk:lk.length<=64:=by
     have:=congrArg List.length hm4
     rw [List.length_map,List.length_take] at this
     omega
    have lys:=hp4.length
    refine ⟨_,rfl,.inl ⟨rfl,_,.inl (.inl hy7)⟩,_,rfl,_,rfl,L7,_,_,_,rfl,rfl,.inl (.inl hl7),Ai (j:=0) rfl,by show 2<=sizeLine; decide,fun T8 hT8=>?_⟩
    have t8:=BK (o:=HO.tup [V.int (D:Nat),V.int (f:Nat)]) hT8
    have u8:upd H7 T8 (HO.tup [V.int (D:Nat),V.int (f:Nat)]) T8=some (.tup (Qm (D,f))):=Ak
    generalize upd H7 T8 (HO.tup [V.int (D:Nat),V.int (f:Nat)])=H8 at t8 u8 ⊢
    have hy8:=t8 _ _ hy7
    refine ⟨p0,ys,_,rfl,rfl,hy8,Ay (by omega),?_⟩
    refine ⟨fun b o hb e=>?_,lk++[(D,f)],ys++[V.ref T8],Ak,(Cm (Aj (s47.trans t8) hp4) hy8).snoc (TupAt.upd ⟨T8,rfl,u8⟩ hy8),?_,fun e he=>?_,_,_,_,rfl⟩
    ·rw [Ax hb]
     exact t8 _ _ (s47 _ _ (s4 _ _ hb e))
    ·rw [List.map_append,hm4,List.take_add_one,hD]
     rfl
    ·rcases List.mem_append.mp he with he | he
     ·exact hw4 e he
     ·rw [List.mem_singleton.mp he]
      refine ⟨hf.1,m,hm,fun z=>?_⟩
      have:=hf.2
      rw [z] at this
      cases this
  ·rintro σ H4 ⟨s4,lk,ys,hy4,hp4,hm4,hw4,v5,v6,v7,rfl⟩
   rw [List.take_of_length_le (by rw [List.length_map]; exact Nat.le_refl _)] at hm4
   have sH4:Al H H4:=fun b o e=>s4 b o (Aw e hp0') (s13 _ _ e)
   refine ⟨_,rfl,by show 2<=sizeLine; decide,fun T5 hT5=>?_⟩
   have s5:=BK (o:=HO.tup [V.str "lacks",.ref p0]) hT5
   exact ql lk p0 T5 ys _ h6 hm4 hw4 (sH4.trans s5) Ak (s5 _ _ hy4) (Aj s5 hp4)
noncomputable def az (C:Addr):Sp:=fun vs H Q _=>∃ (x:Addr) (c:Nat->Str) (sz:List Nat) (rk:List (Str × Nat × Int)) (kbs:List Kb) (ls:List (List Ln)) (k j:Nat) (z:Kb),vs=[.ref x,.int (k:Nat),.int (j:Nat)]/\CW C H x (Bg c sz) rk (BR c kbs) ls/\KD sz.length kbs/\R5 rk ls/\kbs[k]? = some z/\j<sz.sum/\∀ H',Al H H'->Q (.int (J9 sz rk kbs ls (2 ^ j) k:Nat)) H'
theorem gj:Ar ["organ","knob","key"] ["organ","knob","key"] (Ac jU):=Bk
include N T in
theorem Z8:Ao P w K mg base BW 5 aD.fBb aD.dBb ["organ","knob","key"] (az C):=by
 have GOc:Ao P w K mg base BW 1 aD.fOc aD.dOc ["self"] (Qz C):=Od N T
 have GBs:Ao P w K mg base BW 4 aD.fBs aD.dBs ["organ","knob","keys"] (Tj C):=Rf N T
 have GSt:Ao P w K mg base BW 3 aD.fSt aD.dSt ["numbers"] PL:=MP N T
 refine N.FBb.1.ok gj (fun vs H Q E h=>?_) (fun cdv A outer s H vs Q E hr h=>?_)
 ·obtain ⟨x,c,sz,rk,kbs,ls,k,j,z,rfl,_⟩:=h
  rfl
 ·obtain ⟨x,c,sz,rk,kbs,ls,k,j,z,rfl,O,hkb,hls,hz,hj,q⟩:=h
  have hrOc:A_ 1 _:=hr.mono (by decide)
  have hrBs:A_ 4 _:=hr.mono (by decide)
  have hrSt:A_ 3 _:=hr.mono (by decide)
  refine ⟨_,(Af (Bw (CP (F_ FW Gw Ae (pv 2) (CT (pv 0) T.cl N.FOc.2.2 GOc hrOc N.FOc.2.1 .nil An))) (Ag (Av Ae)) Bb)
   (Ag (Av (Ah GBs hrBs rfl N.FBs.2.2 N.FBs.1.kp N.FBs.2.1 .nil An (Aa (pv 0) (Aa (pv 1) (Aa (Ah GSt hrSt rfl N.FSt.2.2 N.FSt.1.kp N.FSt.2.1 .nil An (Aa (Dr (Aa (pv 2) Ab)) Ab)) Ab))))))),?_⟩
  have h305:=Dp O.o
  have hsum:(Ea (Bg c sz)).length=sz.sum:=by rw [Ef,B_]
  rw [B_] at h305
  obtain ⟨⟨dx,fs,_,_,_,_,_,_,_,_,hx,_,_,_,_,lm,_⟩,_⟩:=id O.o
  refine ⟨_,rfl,_,_,rfl,rfl,_,rfl,?_⟩
  refine Cp (fun _=>?_) (fun z=>absurd (decide_eq_true (by omega)) z)
  refine ⟨_,rfl,x,dx,fs,rfl,hx,lm _ (by decide +kernel),x,_,_,rfl,O.o,_,_,rfl,rfl,_,rfl,?_⟩
  rw [hsum,decide_eq_true (by omega:(j:Int)<((sz.sum:Nat):Int))]
  refine Ce ?_
  refine ⟨_,rfl,_,rfl,_,rfl,C_ (by simp),fun p6 hp6=>?_⟩
  have s6:=BK (o:=HO.lst [V.int (j:Nat)]) hp6
  have hik:k<ls.length:=by
   rw [O.nl,Dl]
   exact (List.getElem?_eq_some_iff.mp hz).1
  have hli:=List.getElem?_eq_getElem hik
  have egd:ls.getD k []=ls[k]:=by rw [List.getD_eq_getElem?_getD,hli]; rfl
  have hg:=hls ls[k] (List.getElem_mem hik)
  refine ⟨p6,[j],rfl,Ak,by simp,(fun n hn=>by rw [List.mem_singleton.mp hn]; omega),fun H7 s7=>?_⟩
  rw [Ri]
  unfold J9 at q
  rw [egd] at q
  exact ⟨x,c,sz,rk,kbs,ls,k,2 ^ j,z,ls[k],rfl,O.mono (s6.trans s7),hkb,hz,hli,hg.1,hg.2,Nat.pow_lt_pow_right (by decide) (by omega),fun H8 s8=>q H8 (s6.trans (s7.trans s8))⟩
noncomputable def Wc (K:PySem.W.Frag):Sp:=fun vs H Q _=>∃ (a:Addr) (k:Nat) (ns:List Int),vs=[.ref a,.int (k:Nat)]/\CZ K H a (ns.map V.int)/\Q (.int (ns.getD k 0)) H
theorem fG:Ar ["_law_script","_law_k"] ["_law_script","_law_k"] (Ac jG):=Bk
include N T in
theorem V1:Ao P w K mg base BW 1 aD.fCe aD.dCe ["_law_script","_law_k"] (Wc K):=by
 refine N.FCe.1.ok fG (fun vs H Q E h=>?_) (fun cdv A outer s H vs Q E hr h=>?_)
 ·obtain ⟨a,k,ns,rfl,_⟩:=h
  rfl
 ·obtain ⟨a,k,ns,rfl,hS,q⟩:=h
  refine ⟨_,(Af (Bw (Ba Gw (pv 1) (BL Bh rfl T.len PySem.boot_len (Aa (pv 0) Ab)) (Be _)) (Ag (Av (Az Dd (pv 0) (pv 1) (fun _ _=>rfl)))) Bb)
   (Ag (Av Ae))),?_⟩
  refine ⟨_,rfl,_,rfl,a,_,rfl,.inl hS,_,_,rfl,rfl,_,rfl,?_⟩
  rw [List.getD_eq_getElem?_getD] at q
  refine Cp (fun h1=>?_) (fun h1=>?_)
  ·have hlt:k<ns.length:=by have:=of_decide_eq_true h1; rw [List.length_map] at this; omega
   rw [List.getElem?_eq_getElem hlt] at q
   exact ⟨_,rfl,_,rfl,a,_,_,.int ns[k],rfl,rfl,hS,Ai (by rw [List.getElem?_map,List.getElem?_eq_getElem hlt]; rfl),q⟩
  ·have hge:ns.length<=k:=by
    rw [List.length_map,decide_eq_true_eq] at h1
    omega
   rw [List.getElem?_eq_none hge] at q
   exact q
theorem du:Ar ["_law_found"] ["_law_found"] (Ac gm):=Bk
include N T in
theorem Vj:Ao P w K mg base BW 1 aD.fLw aD.dLw ["_law_found"] QL:=by
 refine N.FLw.1.ok du (fun vs H Q E h=>?_) (fun cdv A outer s H vs Q E hr h=>?_)
 ·obtain ⟨i,rfl,_⟩:=h
  rfl
 ·obtain ⟨i,rfl,q⟩:=h
  refine ⟨_,(Ag (Av (DX (BL CN rfl T.isin PyProof.Rows.boot_isinstance (Aa (pv 0) (Aa (Cv (v:=.ty "int") rfl T.int PyProof.Rows.boot_int rfl) Ab))) (DN (NQ (BL CN rfl T.isin PyProof.Rows.boot_isinstance (Aa (pv 0) (Aa (Cv (v:=.ty "bool") rfl T.bool PyProof.Rows.boot_bool rfl) Ab)))))))),?_⟩
  refine ⟨_,rfl,_,"int",_,_,rfl,.int i,ty_int,_,rfl,Ed ?_⟩
  exact ⟨_,rfl,_,"bool",_,_,rfl,.int i,Vw,_,rfl,q⟩
noncomputable def KN (c b m:Int):Int:=(c % 1000003+7) * b % 2147483647 * ((c % 1000003+7) * b % 2147483647) % 2147483629 / 64 % m
theorem Hz (c b:Int) {m:Int} (hm:0<m):0<=KN c b m/\KN c b m<m:=⟨Int.emod_nonneg _ (by omega),Int.emod_lt_of_pos _ hm⟩
noncomputable def XS:Sp:=fun vs H Q _=>∃ (c b m:Int),vs=[.int c,.int b,.int m]/\0<m/\0<=b/\b<1000003/\Q (.int (KN c b m)) H
theorem X4:Ar ["_law_cell","_law_by","_law_many","_law_number"] ["_law_cell","_law_by","_law_many"] (Ac d8):=Bk
include N T in
theorem VR:Ao P w K mg base BW 1 aD.fMi aD.dMi ["_law_cell","_law_by","_law_many"] XS:=by
 refine N.FMi.1.ok X4 (fun vs H Q E h=>?_) (fun cdv A outer s H vs Q E hr h=>?_)
 ·obtain ⟨c,b,m,rfl,_⟩:=h
  rfl
 ·obtain ⟨c,b,m,rfl,hm,hb0,hb1,q⟩:=h
  refine ⟨_,(Af (BX (i:=3) X4.nd rfl (Or.inl rfl) (Bc Fw (Bc Ng (Bc Dz (Bc Fw (pv 0) Ae) Ae) (pv 1)) Ae))
   (Ag (Av (Bc Fw (Bc UL (Bc Fw (Bc Ng (pv 3) (pv 3)) Ae) Ae) (pv 2))))),?_⟩
  refine ⟨_,rfl,_,_,rfl,rfl,(by show (0:Int)<1000003; decide),_,_,rfl,rfl,_,rfl,_,_,rfl,rfl,.inr ⟨by omega,by omega⟩,_,_,rfl,rfl,(by show (0:Int)<2147483647; decide),?_⟩
  have g1:0<=(c % 1000003+7) * b % 2147483647:=Int.emod_nonneg _ (by decide)
  have g2:(c % 1000003+7) * b % 2147483647<2147483647:=Int.emod_lt_of_pos _ (by decide)
  exact ⟨_,rfl,_,rfl,_,_,rfl,rfl,.inl ⟨by omega,by omega⟩,_,_,rfl,rfl,(by show (0:Int)<2147483629; decide),_,_,rfl,rfl,⟨by decide,by decide⟩,_,rfl,_,_,rfl,rfl,hm,q⟩
theorem Qc {l:List Nat} {i k d:Nat} (hn:l.Nodup) (hk:l[i]? = some k) (hd:d∈Bp (l.take i)):d.testBit k=false:=by
 rw [← Bool.not_eq_true]
 intro z
 have h:=Ib _ (l.take i) rfl d hd k z
 obtain ⟨j,hj,e⟩:=List.mem_take_iff_getElem.mp h
 have hi:=(List.getElem?_eq_some_iff.mp hk)
 obtain ⟨hi1,hi2⟩:=hi
 exact (List.pairwise_iff_getElem.mp hn) j i (by omega) hi1 (by omega) (e.trans hi2.symm)
noncomputable def Zo:Sp:=fun vs H Q _=>∃ (p:Addr) (l:List Nat),vs=[.ref p]/\H p=some (.lst (nV l))/\l.length<=6/\l.Nodup/\(∀ k∈l,k<1200)/\∀ D H',H D=none->Al H H'->H' D=some (.lst (nV (Bp l)))->Q (.ref D) H'
theorem Tg:Ar ["_law_numbers","_law_found","_law_number"] ["_law_numbers"] (Ac cu):=Bk
include N T in
theorem Yw:Ao P w K mg base BW 1 aD.fLs aD.dLs ["_law_numbers"] Zo:=by
 refine N.FLs.1.ok Tg (fun vs H Q E h=>?_) (fun cdv A outer s H vs Q E hr h=>?_)
 ·obtain ⟨p,l,rfl,_⟩:=h
  rfl
 ·obtain ⟨p,l,rfl,hp,hl6,hnd,hlb,q⟩:=h
  refine ⟨_,(Af (BX (i:=1) Tg.nd rfl (Or.inl rfl) (Dr (Aa Ae Ab)))
   (Af (DQ PassesOwn.never rfl (BV (pv 0)) (Bo (i:=2) Tg.nd rfl (Or.inr rfl)) (Ag (BX (i:=1) Tg.nd rfl (Or.inl rfl) (Bc NP (pv 1) (Bj rfl (BP (osc:=Ac cu) (N:=["_law_numbers","_law_found","_law_number"]) rfl rfl (by decide +kernel)) (BV (pv 1)) (fun _ _ _ _=>Bu) (fun _ _ _ _=>(Bc Dz (pv 0) (Bc Hx Ae (pv 3)))))))))
   (Ag (Av (pv 1))))),?_⟩
  refine ⟨C_ (by simp),fun p0 hp0=>?_⟩
  have s0:=BK (o:=HO.lst [V.int 0]) hp0
  have a0:upd H p0 (HO.lst [V.int 0]) p0=some (.lst (nV (Bp (l.take 0)))):=Ak
  generalize upd H p0 (HO.lst [V.int 0])=H0 at s0 a0 ⊢
  have hS:CZ K H0 p (nV l):=.inl (.inl (s0 _ _ hp))
  refine ⟨_,rfl,p,rfl,⟨_,hS⟩,DY (K:=K) (a:=p) (xs:=nV l) (fun i σ H4=>Al H0 H4/\∃ D,H D=none/\H4 D=some (.lst (nV (Bp (l.take i))))/\∃ v2,σ=[some (.ref p),some (.ref D),v2]) ⟨Al.refl _,p0,hp0,a0,_,rfl⟩ (fun i σ H4 _ h=>h.1.seq hS) ?_ ?_⟩
  ·rintro i y σ H4 hi ⟨s4,D,hD,hd,v2,rfl⟩
   rw [List.getElem?_map] at hi
   obtain ⟨k,hk,rfl⟩:=Option.map_eq_some_iff.mp hi
   have hkb:=hlb k (List.mem_of_getElem? hk)
   have hz:=HR (l:=l.take i) (by rw [List.length_take]; omega)
   have hS4:CZ K H4 D (nV (Bp (l.take i))):=.inl (.inl hd)
   let g:V->V:=fun v=>match v with | .int j=>.int ((j.toNat+2 ^ k:Nat):Int) | _=>.non
   refine ⟨_,rfl,_,rfl,D,rfl,⟨_,hS4⟩,Bq (K:=K) (xs:=nV (Bp (l.take i))) (fun _=>true) g hS4 (Ay (by rw [List.length_map]; omega)) (fun y hy H' hs R kk=>kk H' (Al.refl H')) (fun y hy _ H' hs R kk=>?_) (fun D5 H5 hD5 s5 hl5=>?_)⟩
   ·obtain ⟨d,hd',rfl⟩:=List.mem_map.mp hy
    have q7:=kk H' (Al.refl H')
    refine ⟨_,rfl,_,rfl,_,_,rfl,rfl,⟨by omega,by omega,by decide⟩,_,_,rfl,rfl,?_⟩
    have e:((d:Nat):Int)+1 * 2 ^ ((k:Nat):Int).toNat=((d+2 ^ k:Nat):Int):=by
     rw [Int.one_mul,Int.toNat_natCast,Dm]
     omega
    show R (.int (((d:Nat):Int)+1 * 2 ^ ((k:Nat):Int).toNat)) H'
    rw [e]
    exact q7
   rw [List.filter_eq_self.mpr (fun _ _=>rfl)] at hl5
   have e5:(nV (Bp (l.take i))).map g=nV ((Bp (l.take i)).map (· ||| 2 ^ k)):=by
    unfold nV
    rw [List.map_map,List.map_map]
    refine List.map_congr_left fun d hd'=>?_
    show V.int ((((d:Nat):Int).toNat+2 ^ k:Nat):Int)=V.int ((d ||| 2 ^ k:Nat):Int)
    rw [Int.toNat_natCast,XX (Qc hnd hk hd')]
   rw [e5] at hl5
   refine ⟨D,D5,_,_,rfl,rfl,s5 _ _ hd,hl5,C_ (by rw [List.length_map,List.length_map,List.length_map]; omega),fun p8 hp8=>?_⟩
   have s8:=BK (o:=HO.lst (nV (Bp (l.take i))++nV ((Bp (l.take i)).map (· ||| 2 ^ k)))) hp8
   refine ⟨s4.trans (s5.trans s8),p8,s0.free (s4.free (s5.free hp8)),?_,some (.int (k:Nat)),rfl⟩
   rw [Ak,JV hk]
   unfold nV
   rw [List.map_append]
  ·rintro σ H4 ⟨s4,D,hD,hd,v2,rfl⟩
   have el:l.take (nV l).length=l:=List.take_of_length_le (by simp)
   rw [el] at hd
   exact ⟨_,rfl,q D H4 hD (s0.trans s4) hd⟩
theorem eX {k:Nat} (h:k<10):Td ("abcdefghij" : Str).cps.toList ((k:Nat):Int)=some (97+k):=by
 have e:("abcdefghij" : Str).cps.toList=[97,98,99,100,101,102,103,104,105,106]:=by decide +kernel
 rw [e]
 refine Ai ?_
 match k,h with
 | 0,_=>rfl
 | 1,_=>rfl
 | 2,_=>rfl
 | 3,_=>rfl
 | 4,_=>rfl
 | 5,_=>rfl
 | 6,_=>rfl
 | 7,_=>rfl
 | 8,_=>rfl
 | 9,_=>rfl
noncomputable def Xq (k:Nat):Str:=(⟨#[97+k]⟩:Str) ++ "x"
noncomputable def c7 (a:Nat):Nat->Str:=fun j=>if j=0 then "great" else if j=1 then "swell" else if j<30 then "flute" else if j - 30<a then Xq (j - 30) else if j - 30=a then "open" else Xq (j - 31)
theorem Wb:((List.range 12).all fun a=>(List.range 11).all fun i=>iM (c7 a (30+i)) && !decide (c7 a (30+i) = "great") && !decide (c7 a (30+i) = "swell") && !decide (c7 a (30+i) = "flute") && (List.range i).all fun j=>!decide (c7 a (30+j)=c7 a (30+i)))=true:=by decide +kernel
theorem S_ {a i:Nat} (ha:a<12) (hi:i<11):isNm (c7 a (30+i))/\c7 a (30+i) ≠ "great" /\ c7 a (30+i) ≠ "swell" /\ c7 a (30+i) ≠ "flute" /\ ∀ j,j<i->c7 a (30+j) ≠ c7 a (30+i):=by
 have h:=Wb
 rw [List.all_eq_true] at h
 have h1:=h a (List.mem_range.mpr ha)
 rw [List.all_eq_true] at h1
 have h2:=h1 i (List.mem_range.mpr hi)
 simp only [Bool.and_eq_true,Bool.not_eq_true',decide_eq_false_iff_not,List.all_eq_true] at h2
 obtain ⟨⟨⟨⟨b1,b2⟩,b3⟩,b4⟩,b5⟩:=h2
 exact ⟨(Kf b1).1,b2,b3,b4,fun j hj=>b5 j (List.mem_range.mpr hj)⟩
theorem LC:isNm "great":=(Kf (by decide +kernel)).1
theorem MF:isNm "swell":=(Kf (by decide +kernel)).1
theorem L_:isNm "flute":=(Kf (by decide +kernel)).1
noncomputable abbrev Zw:List (Str × Nat × Int):=[(("flute" : Str),20,3)]
theorem Xw (a s0 s1:Nat):Bg (c7 a) [s0,s1]=[(("great" : Str),s0),(("swell" : Str),s1)]:=rfl
theorem U0 (c:Nat->Str) (kbs:List Kb) (z:Kb):BR c (kbs++[z])=BR c kbs++[G6 c kbs.length z]:=by
 unfold BR
 rw [List.zipIdx_append,List.map_append]
 simp
theorem WK (c:Nat->Str) (kbs:List Kb) (wd:Str):((BR c kbs).filter fun r=>decide (V.str r.w=V.str wd)).length=(kbs.filter (Hg wd)).length:=by
 have e:(BR c kbs).map (·.w)=kbs.map (·.w):=by
  refine List.ext_getElem? fun j=>?_
  rw [List.getElem?_map,List.getElem?_map]
  cases h:kbs[j]? with
  | none=>rw [List.getElem?_eq_none (by rw [Dl]; exact List.getElem?_eq_none_iff.mp h)]; rfl
  | some z=>rw [Dv h]; exact congrArg some (Dy _ _ _)
 have f:∀ {α:Type} (g:α->Str) (l:List α),(l.filter fun r=>decide (V.str (g r)=V.str wd)).length=((l.map g).filter fun s=>decide (V.str s=V.str wd)).length:=fun g l=>by
  rw [List.filter_map,List.length_map]
  rfl
 have f2:(kbs.filter (Hg wd))=kbs.filter fun z=>decide (V.str z.w=V.str wd):=rfl
 rw [f2,f (fun r:R=>r.w),f (fun z:Kb=>z.w),e]
theorem Qo {n:Nat} {kbs:List Kb} (h:KD n kbs) {z:Kb} (hz:z.ok n) (hr:(kbs.filter (Hg z.w)).length<Gv z.w) (hl:kbs.length<70):KD n (kbs++[z]):=by
 refine ⟨fun k hk=>?_,fun i k hk=>?_,by rw [List.length_append,List.length_singleton]; omega⟩
 ·rcases List.mem_append.mp hk with hk | hk
  ·exact h.ok k hk
  ·rw [List.mem_singleton.mp hk]
   exact hz
 ·by_cases hi:i<kbs.length
  ·rw [List.getElem?_append_left hi] at hk
   rw [List.take_append_of_le_length (by omega)]
   exact h.room i k hk
  ·have hi':=(List.getElem?_eq_some_iff.mp hk).1
   rw [List.length_append,List.length_singleton] at hi'
   have e:i=kbs.length:=by omega
   subst e
   rw [List.getElem?_append_right (Nat.le_refl _),Nat.sub_self] at hk
   obtain rfl:z=k:=by simpa using hk
   rw [List.take_left']
   ·exact hr
   ·rfl
structure Ql (K:PySem.W.Frag) (aB aP aM:Addr) (a s0 s1 i m mu:Nat) (rows:List R) (kbs:List Kb) (ls:List (List Ln)):Prop where
 bl:Io K aB aP aM rows (Bg (c7 a) [s0,s1]) Zw (BR (c7 a) kbs) ls
 kb:KD 2 kbs
 len:kbs.length=i
 mu:(kbs.filter (Hg "mute")).length=mu
 rl:rows.length<=m
 lg:R5 Zw ls
theorem Ql.start (F:Pj K aB aP aM) {a s0 s1:Nat} (h1:1<=s0) (h2:s0<=61) (h3:1<=s1) (h4:s1<=61):Ql K aB aP aM a s0 s1 0 3 0 [Ep (("great" : Str),s0),Ep (("swell" : Str),s1),Fy (("flute" : Str),20,3)] [] []:=by
 refine ⟨?_,⟨(fun _ h=>nomatch h),(fun i k h=>by simp at h),by decide⟩,rfl,rfl,(by show 3<=3; decide),fun _ h=>nomatch h⟩
 rw [Xw]
 have b1:=(Io.nil (K:=K) (aB:=aB) (aP:=aP) (aM:=aM)).Vd F LC (fun _ h=>nomatch h) (by decide) h1 h2
 have b2:=b1.Vd F MF (fun b hb e=>by rw [List.nil_append] at hb; rw [List.mem_singleton.mp hb] at e; exact absurd e (by show ¬ ("great" : Str) = "swell"; decide +kernel)) (by show 1<5; decide) h3 h4
 exact b2.rank F L_ (fun b hb e=>by
  simp only [List.nil_append,List.cons_append,List.mem_cons,List.not_mem_nil,or_false] at hb
  rcases hb with rfl | rfl
  ·exact absurd e (by show ¬ ("great" : Str) = "flute"; decide +kernel)
  ·exact absurd e (by show ¬ ("swell" : Str) = "flute"; decide +kernel)) (fun _ h=>nomatch h) (by decide) (by decide) (by decide) (by decide) (by decide)
theorem Ql.U_ (F:Pj K aB aP aM) {a s0 s1 i m mu:Nat} {rows:List R} {kbs:List Kb} {ls:List (List Ln)} (h:Ql K aB aP aM a s0 s1 i m mu rows kbs ls) (ha:a<12) (hi:i<11) {z:Kb} (hz:z.ok 2) (hm:z.w = "mute"->mu<5):Ql K aB aP aM a s0 s1 (i+1) (m+1) (mu+if z.w = "mute" then 1 else 0) (rows++[G6 (c7 a) i z]) (kbs++[z]) (ls++[[]]):=by
 obtain ⟨n1,n2,n3,n4,n5⟩:=S_ ha hi
 have hl:=h.len
 have f1:∀ b∈Bg (c7 a) [s0,s1],b.1 ≠ c7 a (30+i):=fun b hb e=>by
  rw [Xw] at hb
  simp only [List.mem_cons,List.not_mem_nil,or_false] at hb
  rcases hb with rfl | rfl
  ·exact n2 e.symm
  ·exact n3 e.symm
 have f2:∀ r∈Zw,r.1 ≠ c7 a (30+i):=fun r hr e=>by
  rw [List.mem_singleton.mp hr] at e
  exact n4 e.symm
 have f3:∀ k∈BR (c7 a) kbs,k.nm ≠ c7 a (30+i):=fun k hk e=>by
  obtain ⟨j,hj⟩:=List.getElem?_of_mem hk
  obtain ⟨z',hz',rfl⟩:=Cd hj
  rw [Oa] at e
  exact n5 j (by have:=(List.getElem?_eq_some_iff.mp hz').1; omega) e
 have mb:∀ {b:Nat},b<2->isNm (c7 a b)/\∃ n,(c7 a b,n)∈Bg (c7 a) [s0,s1]:=fun {b} hb=>by
  rw [Xw]
  match b,hb with
  | 0,_=>exact ⟨LC,s0,by simp [c7]⟩
  | 1,_=>exact ⟨MF,s1,by simp [c7]⟩
 have hcnt:(kbs.filter (Hg z.w)).length<Gv z.w:=by
  have hle:=List.length_filter_le (Hg z.w) kbs
  have m1:Gv "coupler" = 12:=by decide +kernel
  have m2:Gv "stop" = 24:=by decide +kernel
  have m3:Gv "mute" = 5:=by decide +kernel
  rcases Kb.wo hz with e | e | e
  ·rw [e,m2]; rw [e] at hle; omega
  ·rw [e,m1]; rw [e] at hle; omega
  ·rw [e,m3,h.mu]; exact hm e
 have hb:Io K aB aP aM (rows++[G6 (c7 a) i z]) (Bg (c7 a) [s0,s1]) Zw (BR (c7 a) kbs++[G6 (c7 a) i z]) (ls++[[]]):=by
  rw [← WK (c7 a)] at hcnt
  cases z with
  | cp p q s =>
   obtain ⟨hp,hq,b1,b2⟩:=hz
   obtain ⟨g1,_,g2⟩:=mb hp
   obtain ⟨g3,_,g4⟩:=mb hq
   exact h.bl.Uk F n1 f1 f2 f3 hcnt g1 g2 g3 g4 b1 b2
  | pl wd p =>
   obtain ⟨hp,hw⟩:=hz
   obtain ⟨g1,_,g2⟩:=mb hp
   exact h.bl.plain F (hw.elim .inr .inl) n1 f1 f2 f3 hcnt g1 g2
 refine ⟨by rw [U0,hl]; exact hb,Qo h.kb hz hcnt (by omega),by rw [List.length_append,hl]; rfl,?_,by rw [List.length_append]; exact Nat.succ_le_succ h.rl,fun l hl'=>?_⟩
 ·rw [List.filter_append,List.length_append,h.mu]
  congr 1
  by_cases e:z.w = "mute"
  ·rw [if_pos e,List.filter_cons,if_pos (show Hg "mute" z=true from decide_eq_true (congrArg V.str e))]
   rfl
  ·rw [if_neg e,List.filter_cons,if_neg (show ¬ Hg "mute" z=true from fun y=>e (V.str.inj (of_decide_eq_true y)))]
   rfl
 ·rcases List.mem_append.mp hl' with hl' | hl'
  ·exact h.lg l hl'
  ·rw [List.mem_singleton.mp hl']
   exact ⟨by decide,fun _ z=>nomatch z⟩
theorem Ql.stop (F:Pj K aB aP aM) {a s0 s1 m mu:Nat} {rows:List R} {kbs:List Kb} {ls:List (List Ln)} (h:Ql K aB aP aM a s0 s1 a m mu rows kbs ls) (ha:a<11) (h1:1<=s0) (h2:s0<=61):Ql K aB aP aM a s0 s1 (a+1) (m+2) mu (rows++[⟨"stop","open",[.str "great"]⟩,⟨"line","flute",[.int 0,.int 0,.int ((s0:Int) - 1)]⟩]) (kbs++[.pl "stop" 0]) (ls++[[⟨0,0,0,(s0:Int) - 1⟩]]):=by
 have hk:=h.U_ F (by omega) ha (z:=.pl "stop" 0) ⟨by decide,.inr rfl⟩ (fun e=>absurd e (by show ("stop" : Str) ≠ "mute"; decide +kernel))
 have e1:G6 (c7 a) a (.pl "stop" 0)=⟨"stop","open",[.str "great"]⟩:=by
  show (⟨"stop",c7 a (30+a),[.str (c7 a 0)]⟩:R)=_
  have:c7 a (30+a) = "open":=by
   unfold c7
   rw [if_neg (by omega),if_neg (by omega),if_neg (by omega),if_neg (by omega),if_pos (by omega)]
  rw [this]
  rfl
 rw [e1] at hk
 have hl:=hk.bl.line F (bd:="great") (cnt:=0) (j:=0) (n:=s0) (m:=20) (t:="flute") (wi:=3) (sh:=0) (lo:=0) (hi:=(s0:Int) - 1) (Tl.stop _ _ _) (by decide) rfl (by simp) L_ (by rw [Xw]; simp) (by omega) (by omega) (by decide) (by decide) (by decide) (by omega)
 rw [List.append_assoc] at hl
 have hmu:=hk.mu
 rw [if_neg (show ¬ (Kb.pl "stop" 0).w = "mute" from by show ¬ ("stop" : Str) = "mute"; decide +kernel)] at hmu
 refine ⟨hl,hk.kb,hk.len,hmu,?_,fun l hl'=>?_⟩
 ·have:=hk.rl
  rw [List.length_append,List.length_singleton] at this
  rw [List.length_append]
  show rows.length+2<=m+2
  omega
 ·rcases List.mem_append.mp hl' with hl' | hl'
  ·exact h.lg l hl'
  ·rw [List.mem_singleton.mp hl']
   refine ⟨(by show 1<=100; decide),fun ln hln=>?_⟩
   rw [List.mem_singleton.mp hln]
   exact ⟨by show 0<1; decide,by show (0:Int)<=0; decide,by show (0:Int)<=(s0:Int) - 1; omega,by show (s0:Int) - 1<=60; omega,by show (-200:Int)<=0; decide,by show (0:Int)<=200; decide⟩
theorem QR (ns:List Int) {lo hi:Int} (h0:0<=lo) (h1:lo<=hi):∃ ms:List Int,Et (ns.map V.int) (some lo) (some hi)=ms.map V.int/\(ms.length:Int)<=hi - lo:=by
 obtain ⟨a,rfl⟩:=Int.eq_ofNat_of_zero_le h0
 obtain ⟨b,rfl⟩:=Int.eq_ofNat_of_zero_le (show 0<=hi by omega)
 unfold Et
 refine ⟨(ns.drop (HT.Dj (ns.map V.int).length 0 (some (a:Int)))).take (HT.Dj (ns.map V.int).length (ns.map V.int).length (some (b:Int)) - HT.Dj (ns.map V.int).length 0 (some (a:Int))),?_,?_⟩
 ·rw [← List.map_drop,← List.map_take]
 ·rw [List.length_take,List.length_drop,HT.HX,HT.HX]
  omega
noncomputable def YB (K:PySem.W.Frag) (aB aP aM:Addr):Sp:=fun vs H Q _=>∃ (a:Addr) (ns:List Int),vs=[.ref a]/\CZ K H a (ns.map V.int)/\Pj K aB aP aM /\
 ∀ (D:Addr) (vs':List V) (at_ s0 s1 i m mu:Nat) (rows:List R) (kbs:List Kb) (ls:List (List Ln)) H',H D=none->Al H H'->H' D=some (.lst vs')->Paired (fun (r:R) v=>TupAt H' r.v v) rows vs'->at_<11->1<=s0->s0<=61->1<=s1->s1<=61->Ql K aB aP aM at_ s0 s1 i m mu rows kbs ls->i<=11->m<=100->Q (.ref D) H'
theorem Wu {b:Nat} (h:b<2):([V.str "great",V.str "swell"]:List V)[b]? = some (V.str (c7 0 b)):=by
 match b,h with
 | 0,_=>rfl
 | 1,_=>rfl
theorem WL (a:Nat) {b:Nat} (h:b<2):c7 a b=c7 0 b:=by
 match b,h with
 | 0,_=>rfl
 | 1,_=>rfl
noncomputable def PJ (a k:Nat):Nat:=if a<k then k+1 else k
theorem Kp {a k i:Nat} (h:i=if a<=k then k+1 else k):c7 a (30+i)=Xq k:=by
 unfold c7
 split at h
 ·rw [if_neg (by omega),if_neg (by omega),if_neg (by omega),if_neg (by omega),if_neg (by omega)]
  congr 1
  omega
 ·rw [if_neg (by omega),if_neg (by omega),if_neg (by omega),if_pos (by omega)]
  congr 1
  omega
theorem YJ {c:TT} {t t2 u:TS} {D:Ends} {σ:St} {H:Hp} (P:St->Hp->Prop) (h1:∀ D':Ends,(∀ σ' H',P σ' H'->D'.nx σ' H')->W7 c t t2 D' σ H) (h2:∀ σ' H',P σ' H'->u D σ' H'):Xe (W7 c t t2) u D σ H:=h1 { D with nx:=u D } h2
theorem Jr:Ar ["_law_script","_law_sizes","_law_rows_here","_law_at","_law_mutes","_law_k","_law_cell","_law_name"] ["_law_script"] (Ac dF):=Bk
include N T in
theorem ZX:Ao P w K mg base BW 2 aD.fRw aD.dRw ["_law_script"] (YB K aB aP aM):=by
 have GMi:Ao P w K mg base BW 1 aD.fMi aD.dMi ["_law_cell","_law_by","_law_many"] XS:=VR N T
 have GCe:Ao P w K mg base BW 1 aD.fCe aD.dCe ["_law_script","_law_k"] (Wc K):=V1 N T
 refine N.FRw.1.ok Jr (fun vs H Q E h=>?_) (fun cdv A outer s H vs Q E hr h=>?_)
 ·obtain ⟨a,ns,rfl,_⟩:=h
  rfl
 ·obtain ⟨a,ns,rfl,hS,F0,q⟩:=h
  have hrMi:A_ 1 _:=hr.mono (by decide)
  have hrCe:A_ 1 _:=hr.mono (by decide)
  refine ⟨_,(@Af _ _ _ _ _ (Iw (i:=1) Jr.nd rfl rfl rfl (BP (osc:=Ac dF) (N:=["_law_script","_law_sizes","_law_rows_here","_law_at","_law_mutes","_law_k","_law_cell","_law_name"]) rfl rfl (by decide +kernel)) (Ia rfl T.range (@BJ _ _ _ _ _ rfl Ae Ab)) (fun _ _ _ _=>Bu) (fun _ _ _ _=>(Bc Dz Ae (Ah GMi hrMi rfl N.FMi.2.2 N.FMi.1.kp N.FMi.2.1 .nil An (@BJ _ _ _ _ _ rfl (Bc Dz (Ah GCe hrCe rfl N.FCe.2.2 N.FCe.1.kp N.FCe.2.1 .nil An (@BJ _ _ _ _ _ rfl (pv 1) (@BJ _ _ _ _ _ rfl Ae Ab))) (pv 0)) (@BJ _ _ _ _ _ rfl Ae (@BJ _ _ _ _ _ rfl (@Az _ _ _ _ _ _ _ (FT (K:=K) rfl) (@Dr _ _ _ _ (@BJ _ _ _ _ _ rfl Ae (@BJ _ _ _ _ _ rfl Ae Ab))) (pv 0) (fun _ _=>rfl)) Ab)))))))
   (@Af _ _ _ _ _ (@Ck _ _ _ _ _ _ 2 Jr.nd rfl (Or.inl rfl) (@Dr _ _ _ _ (@BJ _ _ _ _ _ rfl (@Cq _ _ _ _ _ (@BJ _ _ _ _ _ rfl BZ (@BJ _ _ _ _ _ rfl BZ (@BJ _ _ _ _ _ rfl (@Az _ _ _ _ _ _ _ Dd (pv 1) Ae (fun _ _=>rfl)) Ab)))) (@BJ _ _ _ _ _ rfl (@Cq _ _ _ _ _ (@BJ _ _ _ _ _ rfl BZ (@BJ _ _ _ _ _ rfl BZ (@BJ _ _ _ _ _ rfl (@Az _ _ _ _ _ _ _ Dd (pv 1) Ae (fun _ _=>rfl)) Ab)))) (@BJ _ _ _ _ _ rfl (@Cq _ _ _ _ _ (@BJ _ _ _ _ _ rfl BZ (@BJ _ _ _ _ _ rfl BZ (@BJ _ _ _ _ _ rfl Ae (@BJ _ _ _ _ _ rfl Ae Ab))))) Ab)))) (by kernel_rfl) (.inl rfl))
   (@Af _ _ _ _ _ (@Ck _ _ _ _ _ _ 3 Jr.nd rfl (Or.inl rfl) (Ah GMi hrMi rfl N.FMi.2.2 N.FMi.1.kp N.FMi.2.1 .nil An (@BJ _ _ _ _ _ rfl (Ah GCe hrCe rfl N.FCe.2.2 N.FCe.1.kp N.FCe.2.1 .nil An (@BJ _ _ _ _ _ rfl (pv 0) (@BJ _ _ _ _ _ rfl Ae Ab))) (@BJ _ _ _ _ _ rfl Ae (@BJ _ _ _ _ _ rfl Ae Ab)))) (by kernel_rfl) (.inl rfl))
   (@Af _ _ _ _ _ (@Ck _ _ _ _ _ _ 4 Jr.nd rfl (Or.inl rfl) Ae (by kernel_rfl) (.inl rfl))
   (@Af _ _ _ _ _ (DQ PassesOwn.never rfl (Ec rfl T.enumerate (@BJ _ _ _ _ _ rfl (GQ JK (pv 0) (Gq Ae) (Gq Ae)) Ab)) (IK rfl (Cr (Bo (i:=5) Jr.nd rfl (Or.inl rfl)) (Cr (Bo (i:=6) Jr.nd rfl (Or.inl rfl)) Gu))) (@Af _ _ _ _ _ (@Bw _ _ _ _ _ _ _ _ (Ba Dh (pv 5) (pv 3) (Be _)) (@Ag _ _ _ (@Ck _ _ _ _ _ _ 2 Jr.nd rfl (Or.inl rfl) (Bc NP (pv 2) (@Dr _ _ _ _ (@BJ _ _ _ _ _ rfl (@Cq _ _ _ _ _ (@BJ _ _ _ _ _ rfl BZ (@BJ _ _ _ _ _ rfl BZ (@BJ _ _ _ _ _ rfl BZ Ab)))) (@BJ _ _ _ _ _ rfl (@Cq _ _ _ _ _ (@BJ _ _ _ _ _ rfl BZ (@BJ _ _ _ _ _ rfl BZ (@BJ _ _ _ _ _ rfl Ae (@BJ _ _ _ _ _ rfl Ae (@BJ _ _ _ _ _ rfl (Bc Hw (@Az _ _ _ _ _ _ _ Dd (pv 1) Ae (fun _ _=>rfl)) Ae) Ab)))))) Ab)))) (by kernel_rfl) (.inl rfl))) Bb)
   (@Af _ _ _ _ _ (@Ck _ _ _ _ _ _ 7 Jr.nd rfl (Or.inl rfl) (Bc NZ (@Az _ _ _ _ _ _ _ WF BZ (pv 5) (fun _ _=>rfl)) BZ) (by kernel_rfl) (.inl rfl))
   (@Ag _ _ _ (@Bw _ _ _ _ _ _ _ _ (PW.pt (Kd (Ba Dh (Ah GMi hrMi rfl N.FMi.2.2 N.FMi.1.kp N.FMi.2.1 .nil An (@BJ _ _ _ _ _ rfl (pv 6) (@BJ _ _ _ _ _ rfl Ae (@BJ _ _ _ _ _ rfl Ae Ab)))) Ae (Be _)) (JF (Ba Gw (pv 4) Ae (Be _))))) (@Af _ _ _ _ _ (@Ck _ _ _ _ _ _ 4 Jr.nd rfl (Or.inl rfl) (Bc Dz (pv 4) Ae) (by kernel_rfl) (.inl rfl))
   (@Ag _ _ _ (Es (Il PySem.F.plainAttrs_list PySem.F.slot_list_append PySem.F.type_list_append Dg (pv 2) (@BJ _ _ _ _ _ rfl (@Cq _ _ _ _ _ (@BJ _ _ _ _ _ rfl BZ (@BJ _ _ _ _ _ rfl (pv 7) (@BJ _ _ _ _ _ rfl (@Az _ _ _ _ _ _ _ Dd (@Dr _ _ _ _ (@BJ _ _ _ _ _ rfl BZ (@BJ _ _ _ _ _ rfl BZ Ab))) (Ah GMi hrMi rfl N.FMi.2.2 N.FMi.1.kp N.FMi.2.1 .nil An (@BJ _ _ _ _ _ rfl (pv 6) (@BJ _ _ _ _ _ rfl Ae (@BJ _ _ _ _ _ rfl Ae Ab)))) (fun _ _=>rfl)) Ab)))) Ab))))) (@Ag _ _ _ (Es (Il PySem.F.plainAttrs_list PySem.F.slot_list_append PySem.F.type_list_append Dg (pv 2) (@BJ _ _ _ _ _ rfl (@Cq _ _ _ _ _ (@BJ _ _ _ _ _ rfl BZ (@BJ _ _ _ _ _ rfl (pv 7) (@BJ _ _ _ _ _ rfl BZ (@BJ _ _ _ _ _ rfl (@Az _ _ _ _ _ _ _ Dd (@Dr _ _ _ _ (@BJ _ _ _ _ _ rfl BZ (@BJ _ _ _ _ _ rfl BZ Ab))) (Ah GMi hrMi rfl N.FMi.2.2 N.FMi.1.kp N.FMi.2.1 .nil An (@BJ _ _ _ _ _ rfl (pv 6) (@BJ _ _ _ _ _ rfl Ae (@BJ _ _ _ _ _ rfl Ae Ab)))) (fun _ _=>rfl)) (@BJ _ _ _ _ _ rfl (Bc Hw (Bc Fw (pv 6) Ae) Ae) Ab)))))) Ab)))))))))
   (@Ag _ _ _ (@Av _ _ _ _ (pv 2)))))))),?_⟩
  refine ⟨2,rfl,by decide,by decide,?_⟩
  let f:Int->V:=fun j=>.int (1+KN (ns.getD 0 0+j) 48271 (if j=0 then 5 else 61))
  refine Jp (lo:=0) (n:=2) (fun _=>true) f (by show 2<sizeLine; decide) (fun i hi H' hs R k=>k H' (Al.refl H')) (fun i hi _ H' hs R k=>?_) (fun DS H1 hDS s1 hl1=>?_)
  ·refine ⟨_,rfl,a,0,ns,rfl,hs.seq hS,_,rfl,_,_,rfl,rfl,C_ (by simp),fun p1 hp1=>?_⟩
   have s1:=BK (o:=HO.lst [V.int 5,V.int 61]) hp1
   have a1:upd H' p1 (HO.lst [V.int 5,V.int 61]) p1=some (.lst [V.int 5,V.int 61]):=Ak
   have kk:=k _ s1
   generalize upd H' p1 (HO.lst [V.int 5,V.int 61])=H2 at s1 a1 kk ⊢
   match i,hi with
   | 0,_=>exact ⟨_,rfl,p1,_,_,_,rfl,rfl,.inl (.inl a1),Ai (j:=0) rfl,_,48271,5,rfl,by decide,by decide,by decide,_,_,rfl,rfl,kk⟩
   | 1,_=>exact ⟨_,rfl,p1,_,_,_,rfl,rfl,.inl (.inl a1),Ai (j:=1) rfl,_,48271,61,rfl,by decide,by decide,by decide,_,_,rfl,rfl,kk⟩
  rw [List.filter_eq_self.mpr (fun _ _=>rfl)] at hl1
  obtain ⟨s0,e0,b0,b0'⟩:∃ s0:Nat,f (0+((0:Nat):Int))=.int (s0:Nat)/\1<=s0/\s0<=61:=by
   have h:=Hz (ns.getD 0 0+(0+((0:Nat):Int))) 48271 (m:=5) (by decide)
   refine ⟨(1+KN (ns.getD 0 0+(0+((0:Nat):Int))) 48271 5).toNat,?_,by omega,by omega⟩
   rw [Int.toNat_of_nonneg (by omega)]
   rfl
  obtain ⟨sb,eb,b1,b1'⟩:∃ s0:Nat,f (0+((1:Nat):Int))=.int (s0:Nat)/\1<=s0/\s0<=61:=by
   have h:=Hz (ns.getD 0 0+(0+((1:Nat):Int))) 48271 (m:=61) (by decide)
   refine ⟨(1+KN (ns.getD 0 0+(0+((1:Nat):Int))) 48271 61).toNat,?_,by omega,by omega⟩
   rw [Int.toNat_of_nonneg (by omega)]
   rfl
  have hl1':H1 DS=some (.lst [.int (s0:Nat),.int (sb:Nat)]):=by
   rw [hl1]
   show some (HO.lst [f (0+((0:Nat):Int)),f (0+((1:Nat):Int))])=_
   rw [e0,eb]
  clear hl1 e0 eb
  refine ⟨_,rfl,DS,_,_,_,rfl,rfl,.inl (.inl hl1'),Ai (j:=0) rfl,by show 3<=sizeLine; decide,fun T1 hT1=>?_⟩
  have t1:=BK (o:=HO.tup [V.str "board",V.str "great",V.int (s0:Nat)]) hT1
  have u1:upd H1 T1 (HO.tup [V.str "board",V.str "great",V.int (s0:Nat)]) T1=some (.tup (Ep (("great" : Str),s0)).v):=Ak
  generalize upd H1 T1 (HO.tup [V.str "board",V.str "great",V.int (s0:Nat)])=H2 at t1 u1 ⊢
  refine ⟨_,rfl,DS,_,_,_,rfl,rfl,.inl (.inl (t1 _ _ hl1')),Ai (j:=1) rfl,by show 3<=sizeLine; decide,fun T2 hT2=>?_⟩
  have t2:=BK (o:=HO.tup [V.str "board",V.str "swell",V.int (sb:Nat)]) hT2
  have u2:upd H2 T2 (HO.tup [V.str "board",V.str "swell",V.int (sb:Nat)]) T2=some (.tup (Ep (("swell" : Str),sb)).v):=Ak
  generalize upd H2 T2 (HO.tup [V.str "board",V.str "swell",V.int (sb:Nat)])=H3 at t2 u2 ⊢
  refine ⟨by show 4<=sizeLine; decide,fun T3 hT3=>?_⟩
  have t3:=BK (o:=HO.tup [V.str "rank",V.str "flute",V.int 20,V.int 3]) hT3
  have u3:upd H3 T3 (HO.tup [V.str "rank",V.str "flute",V.int 20,V.int 3]) T3=some (.tup (Fy (("flute" : Str),20,3)).v):=Ak
  generalize upd H3 T3 (HO.tup [V.str "rank",V.str "flute",V.int 20,V.int 3])=H4 at t3 u3 ⊢
  refine ⟨C_ (by simp),fun D hD=>?_⟩
  obtain ⟨H5,eqH,t4,u4⟩:=Hq (o:=HO.lst [V.ref T1,V.ref T2,V.ref T3]) hD
  rw [eqH]
  have s05:Al H H5:=s1.trans (t1.trans (t2.trans (t3.trans t4)))
  have hDf:H D=none:=s1.free (t1.free (t2.free (t3.free hD)))
  have pr5:Paired (fun (r:R) v=>TupAt H5 r.v v) [Ep (("great" : Str),s0),Ep (("swell" : Str),sb),Fy (("flute" : Str),20,3)] [V.ref T1,V.ref T2,V.ref T3]:=.cons ⟨T1,rfl,t4 _ _ (t3 _ _ (t2 _ _ u1))⟩ (.cons ⟨T2,rfl,t4 _ _ (t3 _ _ u2)⟩ (.cons ⟨T3,rfl,t4 _ _ u3⟩ .nil))
  have hDS5:=t4 _ _ (t3 _ _ (t2 _ _ (t1 _ _ hl1')))
  refine ⟨_,rfl,a,1,ns,rfl,s05.seq hS,_,40709,11,rfl,by decide,by decide,by decide,?_⟩
  have hat:=Hz (ns.getD 1 0) 40709 (m:=11) (by decide)
  obtain ⟨at_,eat⟩:=Int.eq_ofNat_of_zero_le hat.1
  have hat11:at_<11:=by omega
  rw [eat]
  clear hat eat
  refine ⟨_,rfl,2,rfl,12,rfl,a,_,rfl,s05.seq hS,fun p5 hp5=>?_⟩
  obtain ⟨ms,ems,hms⟩:=QR ns (lo:=2) (hi:=12) (by decide) (by decide)
  rw [ems]
  obtain ⟨H6,eqH,t6,u6⟩:=Hq (o:=HO.lst (ms.map V.int)) hp5
  rw [eqH]
  have hDS6:=t6 _ _ hDS5
  have s06:=s05.trans t6
  have nDS:DS ≠ D:=Aw (t3 _ _ (t2 _ _ (t1 _ _ hl1'))) hD
  refine ⟨p5,rfl,⟨_,.inl (.inl u6)⟩,GP (K:=K) (a:=p5) (xs:=ms.map V.int) (fun k σ H7=>Al H H7/\H7 p5=some (.lst (ms.map V.int))/\H7 DS=some (.lst [.int (s0:Nat),.int (sb:Nat)])/\∃ (D:Addr) (vs:List V) (mu:Nat) (rows:List R) (kbs:List Kb) (ls:List (List Ln)),H D=none/\D ≠ p5/\D ≠ DS/\H7 D=some (.lst vs)/\Paired (fun (r:R) v=>TupAt H7 r.v v) rows vs/\Ql K aB aP aM at_ s0 sb (PJ at_ k) (3+3 * k) mu rows kbs ls/\∃ v5 v6 v7,σ=[some (.ref a),some (.ref DS),some (.ref D),some (.int (at_:Nat)),some (.int (mu:Nat)),v5,v6,v7])
   ⟨s06,u6,hDS6,D,_,0,_,_,_,hDf,Aw u4 hp5,Ne.symm nDS,t6 _ _ u4,Aj t6 pr5,Ql.start F0 b0 b0' b1 b1',_,_,_,rfl⟩ (fun k σ H7 _ h=>.inl (.inl h.2.1)) ?_ ?_⟩
  ·rintro k x σ H7 T0 hx ⟨s7,h57,hS7,D,vs,mu,rows,kbs,ls,hDf7,nD5,nDS7,hd7,hp7,R7,v5,v6,v7,rfl⟩ hT
   rw [List.getElem?_map] at hx
   obtain ⟨cell,hcell,rfl⟩:=Option.map_eq_some_iff.mp hx
   have hk10:k<10:=by have:=(List.getElem?_eq_some_iff.mp hcell).1; omega
   have q8:=BK (o:=HO.tup [.int (k:Int),V.int cell]) hT
   refine ⟨T0,_,rfl,.inl (.inl Ak),rfl,_,_,rfl,_,_,rfl,rfl,?_⟩
   generalize upd H7 T0 (HO.tup [.int (k:Int),V.int cell])=H8 at q8 ⊢
   refine YJ (fun σ' H7=>Al H H7/\H7 p5=some (.lst (ms.map V.int))/\H7 DS=some (.lst [.int (s0:Nat),.int (sb:Nat)])/\∃ (D:Addr) (vs:List V) (i:Nat) (rows:List R) (kbs:List Kb) (ls:List (List Ln)),H D=none/\D ≠ p5/\D ≠ DS/\H7 D=some (.lst vs)/\Paired (fun (r:R) v=>TupAt H7 r.v v) rows vs/\i=(if at_<=k then k+1 else k)/\Ql K aB aP aM at_ s0 sb i (5+3 * k) mu rows kbs ls/\σ'=[some (.ref a),some (.ref DS),some (.ref D),some (.int (at_:Nat)),some (.int (mu:Nat)),some (.int (k:Nat)),some (.int cell),v7]) (fun D' hD'=>?_) ?_
   ·refine ⟨_,rfl,_,rfl,rfl,_,rfl,Cp (fun g=>?_) (fun g=>?_)⟩
    ·have eka:k=at_:=by have:=V.int.inj (of_decide_eq_true g); omega
     subst eka
     have hS8:=q8 _ _ hS7
     refine ⟨_,rfl,by show 3<=sizeLine; decide,fun T1 hT1=>?_⟩
     have r1:=BK (o:=HO.tup [V.str "stop",V.str "open",V.str "great"]) hT1
     have w1:upd H8 T1 (HO.tup [V.str "stop",V.str "open",V.str "great"]) T1=some (.tup (⟨"stop","open",[.str "great"]⟩:R).v):=Ak
     generalize upd H8 T1 (HO.tup [V.str "stop",V.str "open",V.str "great"])=Ha at r1 w1 ⊢
     refine ⟨_,rfl,DS,_,_,_,rfl,rfl,.inl (.inl (r1 _ _ hS8)),Ai (j:=0) rfl,_,_,rfl,rfl,by show 5<=sizeLine; decide,fun T2 hT2=>?_⟩
     have r2:=BK (o:=HO.tup [V.str "line",V.str "flute",V.int 0,V.int 0,V.int ((s0:Int) - 1)]) hT2
     have w2:upd Ha T2 (HO.tup [V.str "line",V.str "flute",V.int 0,V.int 0,V.int ((s0:Int) - 1)]) T2=some (.tup (⟨"line","flute",[.int 0,.int 0,.int ((s0:Int) - 1)]⟩:R).v):=Ak
     generalize upd Ha T2 (HO.tup [V.str "line",V.str "flute",V.int 0,V.int 0,V.int ((s0:Int) - 1)])=Hb at r2 w2 ⊢
     refine ⟨C_ (by simp),fun p9 hp9=>?_⟩
     obtain ⟨Hc,eqH,r3,w3⟩:=Hq (o:=HO.lst [V.ref T1,V.ref T2]) hp9
     rw [eqH]
     have r8c:=q8.trans (r1.trans (r2.trans r3))
     have hvl:=hp7.length
     refine ⟨D,p9,_,_,rfl,rfl,r8c _ _ hd7,w3,C_ (by have:=R7.rl; simp; omega),fun D2 hD2=>?_⟩
     obtain ⟨Hd,eqH,r4,w4⟩:=Hq (o:=HO.lst (vs++[V.ref T1,V.ref T2])) hD2
     rw [eqH]
     have s7d:=r8c.trans r4
     have eix:PJ k k=k:=by unfold PJ; rw [if_neg (Nat.lt_irrefl _)]
     rw [eix] at R7
     have R8:=R7.stop F0 hat11 b0 b0'
     refine hD' _ _ ⟨s7.trans s7d,s7d _ _ h57,s7d _ _ hS7,D2,_,k+1,_,_,_,s7.free (r8c.free hD2),(Aw (r8c _ _ h57) hD2).symm,(Aw (r8c _ _ hS7) hD2).symm,w4,?_,by rw [if_pos (Nat.le_refl _)],⟨R8.bl,R8.kb,R8.len,R8.mu,by have:=R8.rl; omega,R8.lg⟩,rfl⟩
     have pz:=((Aj s7d hp7).snoc (a:=(⟨"stop","open",[.str "great"]⟩:R)) (b:=V.ref T1) ⟨T1,rfl,r4 _ _ (r3 _ _ (r2 _ _ w1))⟩).snoc (a:=(⟨"line","flute",[.int 0,.int 0,.int ((s0:Int) - 1)]⟩:R)) (b:=V.ref T2) ⟨T2,rfl,r4 _ _ (r3 _ _ w2)⟩
     rw [List.append_assoc,List.append_assoc] at pz
     exact pz
    ·have nka:¬ k=at_:=fun e=>g (by rw [e]; exact decide_eq_true rfl)
     have ei:PJ at_ k=if at_<=k then k+1 else k:=by
      unfold PJ
      split <;> split <;> omega
     exact hD' _ _ ⟨s7.trans q8,q8 _ _ h57,q8 _ _ hS7,D,vs,_,rows,kbs,ls,hDf7,nD5,nDS7,q8 _ _ hd7,Aj q8 hp7,ei,⟨R7.bl,R7.kb,R7.len,R7.mu,by have:=R7.rl; omega,R7.lg⟩,rfl⟩
   ·rintro σ' H9 ⟨s9,h59,hS9,D,vs,i,rows,kbs,ls,hDf9,nD5,nDS9,hd9,hp9,hi9,R9,rfl⟩
    refine ⟨_,rfl,_,_,_,rfl,rfl,C_ (by decide +kernel),eX hk10,_,_,rfl,rfl,(by show 1+1<=sizeLine; decide),?_⟩
    obtain ⟨b,eb⟩:=Int.eq_ofNat_of_zero_le (Hz cell 27437 (m:=2) (by decide)).1
    have hb2:b<2:=by have:=(Hz cell 27437 (m:=2) (by decide)).2; omega
    refine ⟨_,rfl,cell,69623,3,rfl,by decide,by decide,by decide,rfl,_,rfl,?_⟩
    refine Cp (fun g1=>?_) (fun g1=>?_)
    ·refine ⟨_,rfl,_,_,rfl,rfl,_,rfl,Cp (fun g2=>?_) (fun g2=>?_)⟩
     ·have hg2:mu<5:=by have:=of_decide_eq_true g2; omega
      refine ⟨_,rfl,_,_,rfl,rfl,?_⟩
      refine ⟨_,rfl,.inl ⟨rfl,_,.inl (.inl hd9)⟩,_,rfl,C_ (by simp),fun p1 hp1=>?_⟩
      obtain ⟨Ha,eqH,r1,w1⟩:=Hq (o:=HO.lst [V.str "great",V.str "swell"]) hp1
      rw [eqH]
      refine ⟨_,rfl,cell,27437,2,rfl,by decide,by decide,by decide,p1,_,_,V.str (c7 0 b),rfl,rfl,.inl (.inl w1),(by rw [eb]; exact Ai (Wu hb2)),by show 3<=sizeLine; decide,fun T6 hT6=>?_⟩
      generalize hHb:upd Ha T6 _=Hb
      have r2:Al Ha Hb:=hHb ▸ BK hT6
      have w2:Hb T6=some (.tup (G6 (c7 at_) i (.pl "mute" b)).v):=by
       rw [← hHb,Ak]
       show some (HO.tup [V.str "mute",V.str (Xq k),V.str (c7 0 b)])=some (HO.tup [V.str "mute",V.str (c7 at_ (30+i)),V.str (c7 at_ b)])
       rw [Kp hi9,WL at_ hb2]
      have hdb:=r2 _ _ (r1 _ _ hd9)
      have hvl:=hp9.length
      refine ⟨D,vs,_,rfl,rfl,hdb,Ay (by have:=R9.rl; omega),?_⟩
      have R10:=R9.U_ F0 (by omega) (by rw [hi9]; split <;> omega) (z:=(.pl "mute" b)) ⟨hb2,.inl rfl⟩ (fun _=>hg2)
      refine ⟨fun c o e=>?_,?_,?_,D,vs++[V.ref T6],mu+1,_,kbs++[.pl "mute" b],ls++[[]],hDf9,nD5,nDS9,Ak,(Cm (Aj (r1.trans r2) hp9) hdb).snoc (TupAt.upd ⟨T6,rfl,w2⟩ hdb),?_,_,_,_,rfl⟩
      ·rw [Ax (Aw e hDf9)]
       exact r2 _ _ (r1 _ _ (s9 _ _ e))
      ·rw [Ax (Ne.symm nD5)]
       exact r2 _ _ (r1 _ _ h59)
      ·rw [Ax (Ne.symm nDS9)]
       exact r2 _ _ (r1 _ _ hS9)
      ·have ei:PJ at_ (k+1)=i+1:=by
        unfold PJ
        rw [hi9]
        split <;> split <;> omega
       rw [ei]
       have:=R10.mu
       exact ⟨R10.bl,R10.kb,R10.len,(by rw [this]; rfl),by have:=R10.rl; omega,R10.lg⟩
     ·refine ⟨_,rfl,.inl ⟨rfl,_,.inl (.inl hd9)⟩,_,rfl,C_ (by simp),fun p1 hp1=>?_⟩
      obtain ⟨Ha,eqH,r1,w1⟩:=Hq (o:=HO.lst [V.str "great",V.str "swell"]) hp1
      rw [eqH]
      refine ⟨_,rfl,cell,27437,2,rfl,by decide,by decide,by decide,p1,_,_,V.str (c7 0 b),rfl,rfl,.inl (.inl w1),(by rw [eb]; exact Ai (Wu hb2)),_,rfl,_,_,rfl,rfl,(by show (0:Int)<7; decide),_,_,rfl,rfl,by show 5<=sizeLine; decide,fun T6 hT6=>?_⟩
      generalize hHb:upd Ha T6 _=Hb
      have r2:Al Ha Hb:=hHb ▸ BK hT6
      have w2:Hb T6=some (.tup (G6 (c7 at_) i (.cp 0 b (cell % 7 - 3))).v):=by
       rw [← hHb,Ak]
       show some (HO.tup [V.str "coupler",V.str (Xq k),V.str "great",V.str (c7 0 b),V.int (cell % 7 - 3)])=some (HO.tup [V.str "coupler",V.str (c7 at_ (30+i)),V.str "great",V.str (c7 at_ b),V.int (cell % 7 - 3)])
       rw [Kp hi9,WL at_ hb2]
      have hdb:=r2 _ _ (r1 _ _ hd9)
      have hvl:=hp9.length
      refine ⟨D,vs,_,rfl,rfl,hdb,Ay (by have:=R9.rl; omega),?_⟩
      have R10:=R9.U_ F0 (by omega) (by rw [hi9]; split <;> omega) (z:=(.cp 0 b (cell % 7 - 3))) ⟨by decide,hb2,by omega,by omega⟩ (fun e=>absurd e (by show ¬ ("coupler" : Str) = "mute"; decide +kernel))
      refine ⟨fun c o e=>?_,?_,?_,D,vs++[V.ref T6],mu,_,kbs++[.cp 0 b (cell % 7 - 3)],ls++[[]],hDf9,nD5,nDS9,Ak,(Cm (Aj (r1.trans r2) hp9) hdb).snoc (TupAt.upd ⟨T6,rfl,w2⟩ hdb),?_,_,_,_,rfl⟩
      ·rw [Ax (Aw e hDf9)]
       exact r2 _ _ (r1 _ _ (s9 _ _ e))
      ·rw [Ax (Ne.symm nD5)]
       exact r2 _ _ (r1 _ _ h59)
      ·rw [Ax (Ne.symm nDS9)]
       exact r2 _ _ (r1 _ _ hS9)
      ·have ei:PJ at_ (k+1)=i+1:=by
        unfold PJ
        rw [hi9]
        split <;> split <;> omega
       rw [ei]
       have:=R10.mu
       exact ⟨R10.bl,R10.kb,R10.len,(by rw [this]; rfl),by have:=R10.rl; omega,R10.lg⟩
    ·refine Ce ?_
     refine ⟨_,rfl,.inl ⟨rfl,_,.inl (.inl hd9)⟩,_,rfl,C_ (by simp),fun p1 hp1=>?_⟩
     obtain ⟨Ha,eqH,r1,w1⟩:=Hq (o:=HO.lst [V.str "great",V.str "swell"]) hp1
     rw [eqH]
     refine ⟨_,rfl,cell,27437,2,rfl,by decide,by decide,by decide,p1,_,_,V.str (c7 0 b),rfl,rfl,.inl (.inl w1),(by rw [eb]; exact Ai (Wu hb2)),_,rfl,_,_,rfl,rfl,(by show (0:Int)<7; decide),_,_,rfl,rfl,by show 5<=sizeLine; decide,fun T6 hT6=>?_⟩
     generalize hHb:upd Ha T6 _=Hb
     have r2:Al Ha Hb:=hHb ▸ BK hT6
     have w2:Hb T6=some (.tup (G6 (c7 at_) i (.cp 0 b (cell % 7 - 3))).v):=by
      rw [← hHb,Ak]
      show some (HO.tup [V.str "coupler",V.str (Xq k),V.str "great",V.str (c7 0 b),V.int (cell % 7 - 3)])=some (HO.tup [V.str "coupler",V.str (c7 at_ (30+i)),V.str "great",V.str (c7 at_ b),V.int (cell % 7 - 3)])
      rw [Kp hi9,WL at_ hb2]
     have hdb:=r2 _ _ (r1 _ _ hd9)
     have hvl:=hp9.length
     refine ⟨D,vs,_,rfl,rfl,hdb,Ay (by have:=R9.rl; omega),?_⟩
     have R10:=R9.U_ F0 (by omega) (by rw [hi9]; split <;> omega) (z:=(.cp 0 b (cell % 7 - 3))) ⟨by decide,hb2,by omega,by omega⟩ (fun e=>absurd e (by show ¬ ("coupler" : Str) = "mute"; decide +kernel))
     refine ⟨fun c o e=>?_,?_,?_,D,vs++[V.ref T6],mu,_,kbs++[.cp 0 b (cell % 7 - 3)],ls++[[]],hDf9,nD5,nDS9,Ak,(Cm (Aj (r1.trans r2) hp9) hdb).snoc (TupAt.upd ⟨T6,rfl,w2⟩ hdb),?_,_,_,_,rfl⟩
     ·rw [Ax (Aw e hDf9)]
      exact r2 _ _ (r1 _ _ (s9 _ _ e))
     ·rw [Ax (Ne.symm nD5)]
      exact r2 _ _ (r1 _ _ h59)
     ·rw [Ax (Ne.symm nDS9)]
      exact r2 _ _ (r1 _ _ hS9)
     ·have ei:PJ at_ (k+1)=i+1:=by
       unfold PJ
       rw [hi9]
       split <;> split <;> omega
      rw [ei]
      have:=R10.mu
      exact ⟨R10.bl,R10.kb,R10.len,(by rw [this]; rfl),by have:=R10.rl; omega,R10.lg⟩
  ·rintro σ H7 ⟨s7,h57,hS7,D,vs,mu,rows,kbs,ls,hDf7,nD5,nDS7,hd7,hp7,R7,v5,v6,v7,rfl⟩
   rw [List.length_map] at R7
   have hix:PJ at_ ms.length<=11:=by
    unfold PJ
    split <;> omega
   exact ⟨_,rfl,q D vs at_ s0 sb _ _ mu rows kbs ls H7 hDf7 s7 hd7 hp7 hat11 b0 b0' b1 b1' R7 hix (by omega)⟩
noncomputable def Zu (C:Addr):Sp:=fun vs H Q _=>∃ (x:Addr) (c:Nat->Str) (sz:List Nat) (rk:List (Str × Nat × Int)) (kbs:List Kb) (ls:List (List Ln)) (n wi:Nat),vs=[.ref x,.int (n:Nat),.int (wi:Nat)]/\CW C H x (Bg c sz) rk (BR c kbs) ls/\KD sz.length kbs/\R5 rk ls/\n<2 ^ 1200/\(∀ i,n.testBit i=true->i<sz.sum)/\wi<2 ^ 1200/\6<(Hk (BR c kbs)).length/\∀ H',Q (.bl true) H'
theorem T7:Ar ["_law_organ","_law_held","_law_wish","_law_found","e"] ["_law_organ","_law_held","_law_wish"] (Ac dq):=Bk
include N T in
theorem bf:Ao P w K mg base BW 10 aD.fRf aD.dRf ["_law_organ","_law_held","_law_wish"] (Zu C):=by
 have GWk:Ao P w K mg base (Vp P w) 9 aD.fWk aD.dWk ["organ","held","wish"] (V8 C cT):=Vx N T
 refine N.FRf.1.ok T7 (fun vs H Q E h=>?_) (fun cdv A outer s H vs Q E hr h=>?_)
 ·refine byC fun hng=>?_
  obtain ⟨x,c,sz,rk,kbs,ls,n,wi,rfl,_⟩:=h
  refine hng ?_
  rfl
 ·refine byC fun hng=>?_
  obtain ⟨x,c,sz,rk,kbs,ls,n,wi,rfl,O,hkb,hls,hn,hnt,hwi,h6,q⟩:=h
  refine hng ?_
  have hrWk:A_ 9 _:=hr.mono (by decide)
  refine ⟨_,(@Af _ _ _ _ _ (@Ck _ _ _ _ _ _ 3 T7.nd rfl (Or.inl rfl) Kr (by kernel_rfl) (.inl rfl))
   (@Af _ _ _ _ _ (W9 GWk hrWk rfl N.FWk.2.2 N.FWk.1.kp N.FWk.2.1 .nil (@BJ _ _ _ _ _ rfl (pv 0) (@BJ _ _ _ _ _ rfl (pv 1) (@BJ _ _ _ _ _ rfl (pv 2) Ab))) rfl T.x4.mO T.x4.exO T7.nd (i:=4) rfl rfl (fun x=>(@Ag _ _ _ (@Ck _ _ _ _ _ _ 3 T7.nd rfl (Or.inl rfl) (pv 4) (by kernel_rfl) (.inl rfl)))))
   (@Af _ _ _ _ _ (@Bw _ _ _ _ _ _ _ _ (PW.pt (D_ (CQ (BL (Di (K:=K) rfl) rfl T.isin PyProof.Rows.boot_isinstance (@BJ _ _ _ _ _ rfl (pv 3) (@BJ _ _ _ _ _ rfl (Bv (v:=.ref cD) rfl T.x4.mD rfl) Ab)))) (D_ (CQ (BL (Di (K:=K) rfl) rfl T.isin PyProof.Rows.boot_isinstance (@BJ _ _ _ _ _ rfl (pv 3) (@BJ _ _ _ _ _ rfl (Bv (v:=.ref cK) rfl T.x4.mK rfl) Ab)))) (D_ (CQ (BL (Di (K:=K) rfl) rfl T.isin PyProof.Rows.boot_isinstance (@BJ _ _ _ _ _ rfl (pv 3) (@BJ _ _ _ _ _ rfl (Bv (v:=.ref cR) rfl T.x4.mR rfl) Ab)))) (Ey (CQ (BL (Di (K:=K) rfl) rfl T.isin PyProof.Rows.boot_isinstance (@BJ _ _ _ _ _ rfl (pv 3) (@BJ _ _ _ _ _ rfl (Bv (v:=.ref cS) rfl T.x4.mS rfl) Ab))))))))) (@Ag _ _ _ (@Av _ _ _ _ HJ)) Bb)
   (@Ag _ _ _ (@Av _ _ _ _ (DX (BL (Di (K:=K) rfl) rfl T.isin PyProof.Rows.boot_isinstance (@BJ _ _ _ _ _ rfl (pv 3) (@BJ _ _ _ _ _ rfl (Bv (v:=.ref cT) rfl T.x4.mT rfl) Ab))) (DN (BL (Di (K:=K) rfl) rfl T.isin PyProof.Rows.boot_isinstance (@BJ _ _ _ _ _ rfl (pv 3) (@BJ _ _ _ _ _ rfl (Cv (v:=.ty "ValueError") rfl T.x4.verr PyProof.Rows.Boot.«ValueError» rfl) Ab)))))))))),?_⟩
  refine ⟨_,rfl,_,rfl,_,rfl,fun cv od H2=>cv=.ref cT/\od=none,?_,?_⟩
  ·exact ⟨x,c,sz,rk,kbs,ls,n,wi,rfl,O,hkb,hls,hn,hnt,hwi,(fun D m T0 H' h=>by omega),(fun lk L T0 ys H' h=>by omega),fun H' _ _=>⟨rfl,rfl⟩⟩
  ·rintro C0 od H2 ⟨eC,rfl⟩
   obtain rfl:C0=cT:=Value.ref.inj eC
   refine ⟨T.x4.rT.mro,fun ex hex=>?_⟩
   have x3:upd H2 ex (Ir ex C0 none) ex=some (Ir ex C0 none):=Ak
   generalize upd H2 ex (Ir ex C0 none)=H3 at x3 ⊢
   have kf:=T.x4.rT.kf
   refine ⟨_,rfl,?_⟩
   refine ⟨_,rfl,ex,C0,[],_,_,_,rfl,.bare x3,T.x4.rT.xc,rfl,kf cD (by simp),_,rfl,Ce ?_⟩
   refine ⟨_,rfl,ex,C0,[],_,_,_,rfl,.bare x3,T.x4.rT.xc,rfl,kf cK (by simp),_,rfl,Ce ?_⟩
   refine ⟨_,rfl,ex,C0,[],_,_,_,rfl,.bare x3,T.x4.rT.xc,rfl,kf cR (by simp),_,rfl,Ce ?_⟩
   refine ⟨_,rfl,ex,C0,[],_,_,_,rfl,.bare x3,T.x4.rT.xc,rfl,kf cS (by simp),_,rfl,Ce ?_⟩
   refine ⟨_,rfl,ex,C0,[],_,_,_,rfl,.bare x3,T.x4.rT.xc,rfl,T.x4.rT.k0,_,rfl,Ed ?_⟩
   exact ⟨_,rfl,ex,C0,[],_,_,_,rfl,.bare x3,T.x4.rT.xc,rfl,T.x4.rT.kv,q _⟩
theorem WM {rk:List (Str × Nat × Int)} {ls:List (List Ln)} (h:R5 rk ls) (k:Nat):∀ ln∈ls.getD k [],Xu rk ln:=fun ln hln=>by
 rw [List.getD_eq_getElem?_getD] at hln
 cases e:ls[k]? with
 | none=>rw [e] at hln; cases hln
 | some l=>rw [e] at hln; exact (h l (List.mem_of_getElem? e)).2 ln hln
theorem Zz {sz:List Nat} {rk:List (Str × Nat × Int)} {kbs:List Kb} {ls:List (List Ln)} (hg:R5 rk ls) {m k p:Nat}:(J9 sz rk kbs ls m k).testBit p=true ↔ ∃ j,m.testBit j=true/\(J9 sz rk kbs ls (2 ^ j) k).testBit p=true:=by
 have hg':=WM hg k
 unfold J9
 rw [Nk hg']
 constructor
 ·rintro ⟨ln,hl,i,h1,h2,r⟩
  exact ⟨_,h2,(Nk hg').mpr ⟨ln,hl,i,h1,by rw [Nat.testBit_two_pow]; exact decide_eq_true rfl,r⟩⟩
 ·rintro ⟨j,hj,h⟩
  refine byC fun hng=>?_
  obtain ⟨ln,hl,i,h1,h2,r⟩:=(Nk hg').mp h
  refine hng ?_
  rw [Nat.testBit_two_pow] at h2
  have e:=of_decide_eq_true h2
  rw [e] at hj
  exact ⟨ln,hl,i,h1,hj,r⟩
noncomputable def aF (C:Addr):Sp:=fun vs H Q _=>∃ (x:Addr) (c:Nat->Str) (sz:List Nat) (rk:List (Str × Nat × Int)) (kbs:List Kb) (ls:List (List Ln)) (D n:Nat),vs=[.ref x,.int (D:Nat),.int (n:Nat)]/\CW C H x (Bg c sz) rk (BR c kbs) ls/\KD sz.length kbs/\R5 rk ls/\n<2 ^ 1200/\(∀ i,n.testBit i=true->i<sz.sum) /\
 ∀ (v:Nat) H',Al H H'->(∀ m,(∀ j,m.testBit j=true ↔ DW c sz kbs D n j)->∀ p,v.testBit p=true ↔ ∃ k∈Fv (BR c kbs),(J9 sz rk kbs ls m k).testBit p=true)->Q (.int (v:Nat)) H'
theorem Pa:Ar ["_law_organ","_law_knobs","_law_held","_law_found","_law_stop","_law_knob","_law_key"] ["_law_organ","_law_knobs","_law_held"] (Ac jN):=Bk
include N T in
theorem aa:Ao P w K mg base BW 7 aD.fLb aD.dLb ["_law_organ","_law_knobs","_law_held"] (aF C):=by
 have GOz:Ao P w K mg base BW 1 aD.fOz aD.dOz ["self"] (Qf C):=Li N T
 have GSk:Ao P w K mg base BW 6 aD.fSk aD.dSk ["organ","knobs","held"] (UG C):=Rn N T
 have GMe:Ao P w K mg base BW 2 aD.fMe aD.dMe ["some"] R1:=Oz N T
 have GBb:Ao P w K mg base BW 5 aD.fBb aD.dBb ["organ","knob","key"] (az C):=Z8 N T
 refine N.FLb.1.ok Pa (fun vs H Q E h=>?_) (fun cdv A outer s H vs Q E hr h=>?_)
 ·refine byC fun hng=>?_
  obtain ⟨x,c,sz,rk,kbs,ls,D,n,rfl,_⟩:=h
  refine hng ?_
  rfl
 ·refine byC fun hng=>?_
  obtain ⟨x,c,sz,rk,kbs,ls,D,n,rfl,O,hkb,hls,hn,hnt,q⟩:=h
  refine hng ?_
  have hrOz:A_ 1 _:=hr.mono (by decide)
  have hrSk:A_ 6 _:=hr.mono (by decide)
  have hrMe:A_ 2 _:=hr.mono (by decide)
  have hrBb:A_ 5 _:=hr.mono (by decide)
  refine ⟨_,(@Af _ _ _ _ _ (@Ck _ _ _ _ _ _ 3 Pa.nd rfl (Or.inl rfl) Ae (by kernel_rfl) (.inl rfl))
   (@Af _ _ _ _ _ (DQ PassesOwn.never rfl (Ec rfl T.enumerate (@BJ _ _ _ _ _ rfl (CT (pv 0) T.cl N.FOz.2.2 GOz hrOz N.FOz.2.1 .nil An) Ab)) (IK rfl (Cr (Bo (i:=4) Pa.nd rfl (Or.inl rfl)) (Cr (Bo (i:=5) Pa.nd rfl (Or.inl rfl)) Gu))) (@Ag _ _ _ (@Bw _ _ _ _ _ _ _ _ (Ba Dh (@Az _ _ _ _ _ _ _ (Am (K:=K) rfl) (pv 5) Ae (fun _ _=>rfl)) BZ (Be _)) (@Ag _ _ _ (DQ PassesOwn.never rfl (BV (Ah GMe hrMe rfl N.FMe.2.2 N.FMe.1.kp N.FMe.2.1 .nil An (@BJ _ _ _ _ _ rfl (Ah GSk hrSk rfl N.FSk.2.2 N.FSk.1.kp N.FSk.2.1 .nil An (@BJ _ _ _ _ _ rfl (pv 0) (@BJ _ _ _ _ _ rfl (pv 1) (@BJ _ _ _ _ _ rfl (pv 2) Ab)))) Ab))) (Bo (i:=6) Pa.nd rfl (Or.inl rfl)) (@Ag _ _ _ (@Ck _ _ _ _ _ _ 3 Pa.nd rfl (Or.inl rfl) (Bc Je (pv 3) (Ah GBb hrBb rfl N.FBb.2.2 N.FBb.1.kp N.FBb.2.1 .nil An (@BJ _ _ _ _ _ rfl (pv 0) (@BJ _ _ _ _ _ rfl (pv 4) (@BJ _ _ _ _ _ rfl (pv 6) Ab))))) (by kernel_rfl) (.inl rfl))))) Bb)))
   (@Ag _ _ _ (@Av _ _ _ _ (pv 3))))),?_⟩
  have h305:=Dp O.o
  rw [B_] at h305
  refine byC fun hng=>?_
  obtain ⟨⟨dx,fs,_,_,_,_,_,_,_,_,h1,_,_,_,_,lm,_⟩,_⟩:=id O.o
  refine hng ?_
  refine ⟨_,rfl,x,dx,fs,rfl,h1,lm _ (by decide +kernel),x,_,_,rfl,O.o,fun D1 ys H1 hD1 s1 hl1 hv1=>?_⟩
  have hS1:CZ K H1 D1 ys:=.inl (.inl hl1)
  have hyl:=hv1.length
  refine ⟨D1,rfl,⟨_,hS1⟩,GP (K:=K) (a:=D1) (xs:=ys) (fun i σ H4=>Al H1 H4/\∃ v:Nat,(∀ m,(∀ j,m.testBit j=true ↔ DW c sz kbs D n j)->∀ p,v.testBit p=true ↔ ∃ k∈Fv (BR c kbs),k<i/\(J9 sz rk kbs ls m k).testBit p=true)/\∃ v4 v5 v6,σ=[some (.ref x),some (.int (D:Nat)),some (.int (n:Nat)),some (.int (v:Nat)),v4,v5,v6]) ⟨Al.refl _,0,(fun m hm p=>by rw [Nat.zero_testBit]; exact ⟨fun h=>by (cases h),fun ⟨k,_,hk,_⟩=>absurd hk (Nat.not_lt_zero _)⟩),_,_,_,rfl⟩ (fun i σ H4 _ h=>h.1.seq hS1) ?_ ?_⟩
  ·rintro i y σ H4 T0 hy ⟨s4,v,hv,v4,v5,v6,rfl⟩ hT
   have hi:i<(BR c kbs).length:=by have:=(List.getElem?_eq_some_iff.mp hy).1; omega
   obtain ⟨y',hy',ht'⟩:=Bs hv1 (List.getElem?_eq_getElem hi)
   obtain rfl:y'=y:=Option.some.inj (hy'.symm.trans hy)
   have s5:=BK (o:=HO.tup [.int (i:Int),y']) hT
   refine ⟨T0,_,rfl,.inl (.inl Ak),rfl,_,_,rfl,_,_,rfl,rfl,?_⟩
   generalize upd H4 T0 (HO.tup [.int (i:Int),y'])=H5 at s5 ⊢
   obtain ⟨T1,rfl,hT1⟩:=ht'.mono (s4.trans s5)
   have step:∀ (u:Nat),(∀ m,(∀ j,m.testBit j=true ↔ DW c sz kbs D n j)->∀ p,u.testBit p=true ↔ v.testBit p=true \/ (i∈Fv (BR c kbs)/\(J9 sz rk kbs ls m i).testBit p=true))->∀ m,(∀ j,m.testBit j=true ↔ DW c sz kbs D n j)->∀ p,u.testBit p=true ↔ ∃ k∈Fv (BR c kbs),k<i+1/\(J9 sz rk kbs ls m k).testBit p=true:=fun u hu m hm p=>by
    rw [hu m hm p,hv m hm p]
    constructor
    ·rintro (⟨k,h1,h2,h3⟩ | ⟨h1,h2⟩)
     ·exact ⟨k,h1,by omega,h3⟩
     ·exact ⟨i,h1,by omega,h2⟩
    ·rintro ⟨k,h1,h2,h3⟩
     by_cases e:k=i
     ·subst e
      exact .inr ⟨h1,h3⟩
     ·exact .inl ⟨k,h1,by omega,h3⟩
   have hr:=List.getElem?_eq_getElem hi
   refine ⟨_,rfl,T1,_,_,_,rfl,rfl,.inl (.inl hT1),Ai (j:=0) rfl,rfl,_,rfl,Cp (fun g=>?_) (fun g=>?_)⟩
   ·have hsp:i∈Fv (BR c kbs):=Gm.mpr ⟨_,hr,V.str.inj (of_decide_eq_true g)⟩
    obtain ⟨z,hz,_⟩:=Cd hr
    have sH5:=s1.trans (s4.trans s5)
    refine ⟨_,rfl,_,rfl,_,rfl,x,c,sz,kbs,D,n,rfl,O.o.mono sH5,hkb,hn,hnt,fun m H6 s6 hm=>?_⟩
    have hml:=RC h305 hnt hm
    refine ⟨m,rfl,hml.2,fun p7 H7 hp7 s7 hl7=>?_⟩
    have hS7:CZ K H7 p7 (nV (Wd.mem m)):=.inl (.inl hl7)
    have sH7:=sH5.trans (s6.trans s7)
    refine ⟨p7,rfl,⟨_,hS7⟩,DY (K:=K) (a:=p7) (xs:=nV (Wd.mem m)) (fun t σ H8=>Al H7 H8/\∃ u:Nat,(∀ p,u.testBit p=true ↔ v.testBit p=true \/ ∃ j∈(Wd.mem m).take t,(J9 sz rk kbs ls (2 ^ j) i).testBit p=true)/\∃ v6,σ=[some (.ref x),some (.int (D:Nat)),some (.int (n:Nat)),some (.int (u:Nat)),some (.int (i:Nat)),some (.ref T1),v6]) ⟨Al.refl _,v,(fun p=>⟨.inl,fun h=>h.elim id fun ⟨j,hj,_⟩=>by (rw [List.take_zero] at hj; cases hj)⟩),_,rfl⟩ (fun t σ H8 _ h=>h.1.seq hS7) ?_ ?_⟩
    ·rintro t y σ H8 ht ⟨s8,u,hu,v6,rfl⟩
     rw [List.getElem?_map] at ht
     obtain ⟨j,hj,rfl⟩:=Option.map_eq_some_iff.mp ht
     refine ⟨_,rfl,_,rfl,_,rfl,_,rfl,x,c,sz,rk,kbs,ls,i,j,z,rfl,O.mono (sH7.trans s8),hkb,hls,hz,hml.1 j (Wd.mem_iff.mp (List.mem_of_getElem? hj)),fun H9 s9=>⟨_,_,rfl,rfl,?_⟩⟩
     refine ⟨s8.trans s9,u ||| J9 sz rk kbs ls (2 ^ j) i,fun p=>?_,some (.int (j:Nat)),?_⟩
     ·rw [Gd,hu p,List.take_add_one,hj]
      constructor
      ·rintro ((h | ⟨j',h1,h2⟩) | h)
       ·exact .inl h
       ·exact .inr ⟨j',List.mem_append_left _ h1,h2⟩
       ·exact .inr ⟨j,List.mem_append_right _ (by simp),h⟩
      ·rintro (h | ⟨j',h1,h2⟩)
       ·exact .inl (.inl h)
       ·rcases List.mem_append.mp h1 with h1 | h1
        ·exact .inl (.inr ⟨j',h1,h2⟩)
        ·obtain rfl:j'=j:=by simpa using h1
         exact .inr h2
     ·dsimp only
      rw [Fo]
      rfl
    ·rintro σ H8 ⟨s8,u,hu,v6,rfl⟩
     rw [List.take_of_length_le (by rw [List.length_map]; exact Nat.le_refl _)] at hu
     refine ⟨s4.trans (s5.trans (s6.trans (s7.trans s8))),u,step u fun m' hm' p=>?_,_,_,_,rfl⟩
     obtain rfl:m'=m:=Nat.eq_of_testBit_eq fun j=>by rw [Bool.eq_iff_iff,hm',hm]
     rw [hu p,Zz hls]
     refine or_congr Iff.rfl ⟨fun ⟨j,h1,h2⟩=>⟨hsp,j,Wd.mem_iff.mp h1,h2⟩,fun ⟨_,j,h1,h2⟩=>⟨j,Wd.mem_iff.mpr h1,h2⟩⟩
   ·have hsp:¬ i∈Fv (BR c kbs):=fun z=>by
     obtain ⟨r,hr',hw⟩:=Gm.mp z
     obtain rfl:r=(BR c kbs)[i]:=Option.some.inj (hr'.symm.trans hr)
     exact g (decide_eq_true (congrArg V.str hw))
    refine ⟨s4.trans s5,v,step v fun m hm p=>⟨.inl,fun h=>h.elim id fun h=>absurd h.1 hsp⟩,_,_,_,rfl⟩
  ·rintro σ H4 ⟨s4,v,hv,v4,v5,v6,rfl⟩
   refine ⟨_,rfl,q v H4 (s1.trans s4) fun m hm p=>?_⟩
   rw [hv m hm p]
   exact ⟨fun ⟨k,h1,_,h3⟩=>⟨k,h1,h3⟩,fun ⟨k,h1,h3⟩=>⟨k,h1,by have:=Mt h1; omega,h3⟩⟩
theorem U5 {sz:List Nat} {rk:List (Str × Nat × Int)} {kbs:List Kb} {ls:List (List Ln)} {sl:List Nat} {m wi v p:Nat} (hv:∀ p,v.testBit p=true ↔ ∃ k∈sl,(J9 sz rk kbs ls m k).testBit p=true) (hs:v ||| wi=wi) (hno:¬ (Er ((JB sz rk kbs ls sl m wi).map (·.2))).testBit p=true):v.testBit p=false:=by
 rw [← Bool.not_eq_true]
 intro h
 obtain ⟨k,hk,hb⟩:=(hv p).mp h
 refine hno ((I_ _ _).mpr ⟨_,List.mem_map.mpr ⟨(k,J9 sz rk kbs ls m k),Gr.mpr ⟨hk,rfl,fun p' hp'=>?_⟩,rfl⟩,hb⟩)
 rw [← hs,Gd]
 exact .inl ((hv p').mpr ⟨k,hk,hp'⟩)
theorem R0 (ks:List R):(Hk ks).Nodup:=by
 unfold Hk
 exact List.Pairwise.filter _ List.nodup_range
noncomputable def Yo (C:Addr):Sp:=fun vs H Q _=>∃ (x L PN:Addr) (c:Nat->Str) (sz:List Nat) (rk:List (Str × Nat × Int)) (kbs:List Kb) (ls:List (List Ln)) (n wi:Nat) (lk:List (Nat × Nat)) (ys:List V),vs=[.ref x,.int (n:Nat),.ref L,.ref PN,.int (wi:Nat)]/\CW C H x (Bg c sz) rk (BR c kbs) ls/\KD sz.length kbs/\R5 rk ls/\n<2 ^ 1200/\(∀ i,n.testBit i=true->i<sz.sum)/\H L=some (.lst ys)/\Rb H lk ys/\H PN=some (.lst (nV (Hk (BR c kbs))))/\(Hk (BR c kbs)).length<=6/\lk.map (·.1)=Bp (Hk (BR c kbs)) /\
 (∀ e∈lk,wi.testBit e.2=true/\∃ m,(∀ j,m.testBit j=true ↔ DW c sz kbs e.1 n j)/\¬ (Er ((JB sz rk kbs ls (Fv (BR c kbs)) m wi).map (·.2))).testBit e.2=true)/\∀ H',Q (.bl true) H'
theorem Wi:Ar ["_law_organ","_law_held","_law_found","_law_numbers","_law_wish","_law_one","_law_brought_here"] ["_law_organ","_law_held","_law_found","_law_numbers","_law_wish"] (Ac cQ):=Bk
include N T in
theorem Y9:Ao P w K mg base BW 8 aD.fAl aD.dAl ["_law_organ","_law_held","_law_found","_law_numbers","_law_wish"] (Yo C):=by
 have GLb:Ao P w K mg base BW 7 aD.fLb aD.dLb ["_law_organ","_law_knobs","_law_held"] (aF C):=aa N T
 have GLw:Ao P w K mg base BW 1 aD.fLw aD.dLw ["_law_found"] QL:=Vj N T
 have GHa:Ao P w K mg base BW 1 aD.fHa aD.dHa ["some","number"] S6:=Oq N T
 have GLs:Ao P w K mg base BW 1 aD.fLs aD.dLs ["_law_numbers"] Zo:=Yw N T
 refine N.FAl.1.ok Wi (fun vs H Q E h=>?_) (fun cdv A outer s H vs Q E hr h=>?_)
 ·refine byC fun hng=>?_
  obtain ⟨x,L,PN,c,sz,rk,kbs,ls,n,wi,lk,ys,rfl,_⟩:=h
  refine hng ?_
  rfl
 ·refine byC fun hng=>?_
  obtain ⟨x,L,PN,c,sz,rk,kbs,ls,n,wi,lk,ys,rfl,O,hkb,hls,hn,hnt,hL,hpr,hPN,h6,hmap,hlk,q⟩:=h
  refine hng ?_
  have hrLb:A_ 7 _:=hr.mono (by decide)
  have hrLw:A_ 1 _:=hr.mono (by decide)
  have hrHa:A_ 1 _:=hr.mono (by decide)
  have hrLs:A_ 1 _:=hr.mono (by decide)
  refine ⟨_,(@Af _ _ _ _ _ (@Bw _ _ _ _ _ _ _ _ (CP (CQ (BL CN rfl T.isin PyProof.Rows.boot_isinstance (@BJ _ _ _ _ _ rfl (pv 2) (@BJ _ _ _ _ _ rfl (Cv (v:=.ty "list") rfl T.list PyProof.Rows.boot_list rfl) Ab))))) (@Ag _ _ _ (@Av _ _ _ _ HJ)) Bb)
   (@Af _ _ _ _ _ (DQ PassesOwn.never rfl (BV (pv 2)) (Bo (i:=5) Wi.nd rfl (Or.inl rfl)) (@Af _ _ _ _ _ (@Bw _ _ _ _ _ _ _ _ (PW.pt (D_ (CP (CQ (BL CN rfl T.isin PyProof.Rows.boot_isinstance (@BJ _ _ _ _ _ rfl (pv 5) (@BJ _ _ _ _ _ rfl (Cv (v:=.ty "tuple") rfl T.tuple PyProof.Rows.boot_tuple rfl) Ab))))) (D_ (Ba Im (BL Bh rfl T.len PySem.boot_len (@BJ _ _ _ _ _ rfl (pv 5) Ab)) Ae (Be _)) (D_ (CP (CQ (Ah GLw hrLw rfl N.FLw.2.2 N.FLw.1.kp N.FLw.2.1 .nil An (@BJ _ _ _ _ _ rfl (@Az _ _ _ _ _ _ _ (Am (K:=K) rfl) (pv 5) Ae (fun _ _=>rfl)) Ab)))) (Ey (CP (CQ (Ah GLw hrLw rfl N.FLw.2.2 N.FLw.1.kp N.FLw.2.1 .nil An (@BJ _ _ _ _ _ rfl (@Az _ _ _ _ _ _ _ (Am (K:=K) rfl) (pv 5) Ae (fun _ _=>rfl)) Ab))))))))) (@Ag _ _ _ (@Av _ _ _ _ HJ)) Bb)
   (@Af _ _ _ _ _ (@Ck _ _ _ _ _ _ 6 Wi.nd rfl (Or.inl rfl) (Ah GLb hrLb rfl N.FLb.2.2 N.FLb.1.kp N.FLb.2.1 .nil An (@BJ _ _ _ _ _ rfl (pv 0) (@BJ _ _ _ _ _ rfl (@Az _ _ _ _ _ _ _ (Am (K:=K) rfl) (pv 5) Ae (fun _ _=>rfl)) (@BJ _ _ _ _ _ rfl (pv 1) Ab)))) (by kernel_rfl) (.inl rfl))
   (@Ag _ _ _ (@Bw _ _ _ _ _ _ _ _ (PW.pt (D_ (CP (CQ (Ah GHa hrHa rfl N.FHa.2.2 N.FHa.1.kp N.FHa.2.1 .nil An (@BJ _ _ _ _ _ rfl (pv 4) (@BJ _ _ _ _ _ rfl (@Az _ _ _ _ _ _ _ (Am (K:=K) rfl) (pv 5) Ae (fun _ _=>rfl)) Ab))))) (Ey (PW.pt (Kd (Ba Dh (Bc Je (pv 6) (pv 4)) (pv 4) (Be _)) (JF (CQ (Ah GHa hrHa rfl N.FHa.2.2 N.FHa.1.kp N.FHa.2.1 .nil An (@BJ _ _ _ _ _ rfl (pv 6) (@BJ _ _ _ _ _ rfl (@Az _ _ _ _ _ _ _ (Am (K:=K) rfl) (pv 5) Ae (fun _ _=>rfl)) Ab)))))))))) (@Ag _ _ _ (@Av _ _ _ _ HJ)) Bb)))))
   (@Ag _ _ _ (@Av _ _ _ _ (Du (NB hr.Qw) (Bj rfl (BP (osc:=Ac cQ) (N:=["_law_organ","_law_held","_law_found","_law_numbers","_law_wish","_law_one","_law_brought_here"]) rfl rfl (by decide +kernel)) (BV (pv 2)) (fun _ _ _ _=>Bu) (fun _ _ _ _=>(@Az _ _ _ _ _ _ _ (Am (K:=K) rfl) (pv 0) Ae (fun _ _=>rfl)))) (Ah GLs hrLs rfl N.FLs.2.2 N.FLs.1.kp N.FLs.2.1 .nil An (@BJ _ _ _ _ _ rfl (pv 3) Ab)) (Be _)))))),?_⟩
  have hS:CZ K H L ys:=.inl (.inl hL)
  have lys:=hpr.length
  have llk:lk.length<=64:=by
   have:=congrArg List.length hmap
   rw [List.length_map] at this
   have:=HR h6
   omega
  refine ⟨_,rfl,_,"list",_,_,rfl,.lst hL,Sx,_,rfl,Ce ?_⟩
  refine ⟨_,rfl,L,rfl,⟨_,hS⟩,DY (K:=K) (a:=L) (xs:=ys) (fun i σ H4=>Al H H4/\∃ v5 v6,σ=[some (.ref x),some (.int (n:Nat)),some (.ref L),some (.ref PN),some (.int (wi:Nat)),v5,v6]) ⟨Al.refl _,_,_,rfl⟩ (fun i σ H4 _ h=>h.1.seq hS) ?_ ?_⟩
  ·rintro i y σ H4 hi ⟨s4,v5,v6,rfl⟩
   have hil:i<lk.length:=by have:=(List.getElem?_eq_some_iff.mp hi).1; omega
   obtain ⟨y',hy',ht'⟩:=Bs hpr (List.getElem?_eq_getElem hil)
   obtain rfl:y'=y:=Option.some.inj (hy'.symm.trans hi)
   obtain ⟨hw,m,hm,hno⟩:=hlk lk[i] (List.getElem_mem hil)
   generalize lk[i]=e at ht' hw hm hno
   obtain ⟨T1,rfl,hT1⟩:=ht'.mono s4
   refine ⟨_,rfl,_,"tuple",_,_,rfl,.tup hT1,Ov,_,rfl,Ce ?_⟩
   refine ⟨_,rfl,T1,_,rfl,.inr (.inl (.inl hT1)),rfl,_,rfl,Cp (fun z=>absurd z (by show ¬ (!decide (V.int ((2:Nat):Int)=V.int 2))=true; decide)) (fun _=>?_)⟩
   refine ⟨_,rfl,T1,_,_,_,rfl,rfl,.inl (.inl hT1),Ai (j:=0) rfl,_,rfl,_,rfl,Ce ?_⟩
   refine ⟨_,rfl,T1,_,_,_,rfl,rfl,.inl (.inl hT1),Ai (j:=1) rfl,_,rfl,_,rfl,Ce ?_⟩
   refine ⟨_,rfl,_,rfl,T1,_,_,_,rfl,rfl,.inl (.inl hT1),Ai (j:=0) rfl,_,rfl,x,c,sz,rk,kbs,ls,e.1,n,rfl,O.mono s4,hkb,hls,hn,hnt,fun v H5 s5 hv=>?_⟩
   have hT5:=s5 _ _ hT1
   refine ⟨_,rfl,_,rfl,T1,_,_,_,rfl,rfl,.inl (.inl hT5),Ai (j:=1) rfl,wi,_,rfl,_,rfl,?_⟩
   rw [decide_eq_true (by omega:(0:Int)<=((e.2:Nat):Int)),Bool.true_and,Int.toNat_natCast,hw]
   refine Ce ?_
   refine ⟨_,rfl,_,rfl,_,_,rfl,rfl,_,rfl,rfl,_,rfl,Cp (fun g=>?_) (fun g=>?_)⟩
   ·have hs:v ||| wi=wi:=by
     have g':V.int (Builtin.bitOr ((v:Nat):Int) ((wi:Nat):Int))=V.int ((wi:Nat):Int):=of_decide_eq_true g
     rw [Fo] at g'
     have:=V.int.inj g'
     omega
    refine ⟨_,rfl,_,rfl,T1,_,_,_,rfl,rfl,.inl (.inl hT5),Ai (j:=1) rfl,v,_,rfl,_,rfl,?_⟩
    rw [Int.toNat_natCast,U5 (hv m hm) hs hno,Bool.and_false]
    exact Ce ⟨s4.trans s5,_,_,rfl⟩
   ·exact Ce ⟨s4.trans s5,_,_,rfl⟩
  ·rintro σ H4 ⟨s4,v5,v6,rfl⟩
   have hS4:CZ K H4 L ys:=s4.seq hS
   refine ⟨_,rfl,L,rfl,⟨_,hS4⟩,Bq (K:=K) (xs:=ys) (fun _=>true) (Fg H4 0) hS4 (Ay (by omega)) (fun y hy H' hs R k=>k H' (Al.refl H')) (fun y hy _ H' hs R k=>?_) (fun D5 H5 hD5 s5 hl5=>?_)⟩
   ·obtain ⟨e,_,ht⟩:=Br (Aj s4 hpr) hy
    have kk:=k H' (Al.refl H')
    rw [(Eh ht).1] at kk
    obtain ⟨T0,rfl,hT⟩:=ht.mono hs
    exact ⟨_,rfl,T0,_,_,_,rfl,rfl,.inl (.inl hT),Ai (j:=0) rfl,kk⟩
   rw [List.filter_eq_self.mpr (fun _ _=>rfl),KC 0 (·.1) (fun e y h=>(Eh h).1) (Aj s4 hpr),hmap] at hl5
   refine ⟨_,rfl,PN,_,rfl,s5 _ _ (s4 _ _ hPN),h6,R0 _,(fun k hk=>by have:=Ml hk; have:=O.o.nk; omega),fun D6 H6 hD6 s6 hl6=>?_⟩
   refine ⟨D5,D6,_,_,rfl,rfl,.inl (.inl (s6 _ _ hl5)),.inl (.inl hl6),Hn _,Hn _,?_⟩
   rw [if_neg (by decide),MJ (Hn _)]
   exact q H6
noncomputable def Oe (K:PySem.W.Frag):Sp:=fun vs H Q _=>∃ (a:Addr) (ns:List Int),vs=[.ref a]/\CZ K H a (ns.map V.int)/\ns.length<=63/\∀ H',Q (.bl true) H'
theorem RJ {bs:List (Str × Nat)} {z:Kb} {i j:Nat} (h:gl bs z i=some j):z.w = "coupler":=by
 cases z with
 | cp a b s=>rfl
 | pl w a=>cases h
theorem Lg {c:Nat->Str} {sz:List Nat} {kbs:List Kb} {D D' n:Nat} (h:∀ (k:Nat) (z:Kb),kbs[k]? = some z->z.w ≠ "stop"->(D.testBit k=true->D'.testBit k=true)) (h':∀ (k:Nat) (z:Kb),kbs[k]? = some z->z.w ≠ "stop"->(D'.testBit k=true->D.testBit k=true)) (j:Nat) (hs:DW c sz kbs D n j):DW c sz kbs D' n j:=by
 rcases hs with hs | ⟨hs,hm⟩
 ·refine .inl (hs.mono (fun i j ⟨k,z,hd,hz,hg⟩=>⟨k,z,h k z hz (by rw [RJ hg]; decide +kernel) hd,hz,hg⟩) fun _ z=>z)
 ·refine .inr ⟨hs,fun b hb ⟨k,z,hz,hw,hd,e⟩=>hm b hb ⟨k,z,hz,hw,h' k z hz (by rw [hw]; decide +kernel) hd,e⟩⟩
theorem jW {c:Nat->Str} {kbs:List Kb} {k:Nat} {z:Kb} (hz:kbs[k]? = some z):(k∈Fv (BR c kbs) ↔ z.w = "stop")/\(k∈Hk (BR c kbs) ↔ z.w ≠ "stop"):=by
 have hr:=Dv (c:=c) hz
 constructor
 ·rw [Gm]
  constructor
  ·rintro ⟨r,hr',hw⟩
   obtain rfl:r=G6 c k z:=Option.some.inj (hr'.symm.trans hr)
   rw [← hw,Dy]
  ·intro hw
   exact ⟨_,hr,by rw [Dy]; exact hw⟩
 ·rw [Ob]
  constructor
  ·rintro ⟨r,hr',hw⟩
   obtain rfl:r=G6 c k z:=Option.some.inj (hr'.symm.trans hr)
   rw [Dy] at hw
   exact hw
  ·intro hw
   exact ⟨_,hr,by rw [Dy]; exact hw⟩
section
variable {c:Nat->Str} {sz:List Nat} {rk:List (Str × Nat × Int)} {kbs:List Kb} {ls:List (List Ln)} {D n m wi:Nat}
noncomputable abbrev bD (c:Nat->Str) (sz:List Nat) (rk:List (Str × Nat × Int)) (kbs:List Kb) (ls:List (List Ln)) (D m wi:Nat):Nat:=D ||| Wd.mk ((TY (JB sz rk kbs ls (Fv (BR c kbs)) m wi)).map (·.1))
theorem N7 (hD:D∈Bp (Hk (BR c kbs))) {k:Nat} {z:Kb} (hz:kbs[k]? = some z) (hw:z.w ≠ "stop"):(bD c sz rk kbs ls D m wi).testBit k=true ↔ D.testBit k=true:=by
 rw [Gd]
 refine ⟨fun h=>h.elim id fun h=>?_,.inl⟩
 rw [Wd.Jb,decide_eq_true_eq] at h
 obtain ⟨e,he,rfl⟩:=List.mem_map.mp h
 exact absurd ((jW hz).1.mp (Gr.mp (Hf _ e he)).1) hw
theorem Vt (hD:D∈Bp (Hk (BR c kbs))) {k:Nat} {z:Kb} (hz:kbs[k]? = some z) (hw:z.w = "stop"):(bD c sz rk kbs ls D m wi).testBit k=true ↔ ∃ e∈TY (JB sz rk kbs ls (Fv (BR c kbs)) m wi),e.1=k:=by
 rw [Gd,Wd.Jb,decide_eq_true_eq,List.mem_map]
 refine ⟨fun h=>h.elim (fun h=>?_) id,.inr⟩
 exact absurd hw ((jW hz).2.mp (Ib _ _ rfl D hD k h))
theorem X8 (hD:D∈Bp (Hk (BR c kbs))):bD c sz rk kbs ls D m wi<2 ^ kbs.length:=by
 refine Nat.lt_pow_two_of_testBit _ fun i hi=>?_
 rw [← Bool.not_eq_true,Gd,Wd.Jb,decide_eq_true_eq,List.mem_map]
 rintro (h | ⟨e,he,rfl⟩)
 ·have:=Ml (Ib _ _ rfl D hD i h)
  rw [Dl] at this
  omega
 ·have:=Mt (Gr.mp (Hf _ e he)).1
  rw [Dl] at this
  omega
theorem Su (hD:D∈Bp (Hk (BR c kbs))) (hm:∀ j,m.testBit j=true ↔ DW c sz kbs D n j) (hcov:∀ p,wi.testBit p=true->(Er ((JB sz rk kbs ls (Fv (BR c kbs)) m wi).map (·.2))).testBit p=true) {cl:List Nat} {m':Nat} (hcl:∀ k,k∈cl ↔ ∃ z,kbs[k]? = some z/\z.w = "stop" /\ (bD c sz rk kbs ls D m wi).testBit k=true) (hm':∀ j,m'.testBit j=true ↔ DW c sz kbs (bD c sz rk kbs ls D m wi) n j):Yj sz rk kbs ls cl m'=wi:=by
 obtain rfl:m'=m:=Nat.eq_of_testBit_eq fun j=>by
  rw [Bool.eq_iff_iff,hm',hm]
  exact ⟨Lg (fun k z hz hw=>(N7 hD hz hw).mp) (fun k z hz hw=>(N7 hD hz hw).mpr) j,Lg (fun k z hz hw=>(N7 hD hz hw).mpr) (fun k z hz hw=>(N7 hD hz hw).mp) j⟩
 refine Nat.eq_of_testBit_eq fun p=>?_
 rw [Bool.eq_iff_iff,Xi]
 constructor
 ·rintro ⟨k,hk,hb⟩
  obtain ⟨z,hz,hw,ht⟩:=(hcl k).mp hk
  obtain ⟨e,he,rfl⟩:=(Vt hD hz hw).mp ht
  obtain ⟨_,h2,h3⟩:=Gr.mp (Hf _ e he)
  exact h3 p (by rw [h2]; exact hb)
 ·intro hp
  have h:=hcov p hp
  rw [← Xg,I_] at h
  obtain ⟨v,hv,hb⟩:=h
  obtain ⟨e,he,rfl⟩:=List.mem_map.mp hv
  obtain ⟨h1,h2,_⟩:=Gr.mp (Hf _ e he)
  obtain ⟨r,hr,hw⟩:=Gm.mp h1
  obtain ⟨z,hz,rfl⟩:=Cd hr
  rw [Dy] at hw
  exact ⟨e.1,(hcl e.1).mpr ⟨z,hz,hw,(Vt hD hz hw).mpr ⟨e,he,rfl⟩⟩,by rw [h2] at hb; exact hb⟩
end
theorem Mw {a b k:Nat} (ha:a<4) (hb:b<30):a * 2 ^ b<2 ^ 1200:=by
 have h1:a * 2 ^ b<4 * 2 ^ b:=Nat.mul_lt_mul_of_pos_right ha (Nat.two_pow_pos b)
 have h2:4 * 2 ^ b=2 ^ (b+2):=by rw [Nat.pow_add]; omega
 have h3:2 ^ (b+2)<=2 ^ 1200:=Nat.pow_le_pow_right (by decide) (by omega)
 omega
theorem J6:Ar ["_law_script","_law_organ","_law_numbers","_law_held","_law_wish","_law_found"] ["_law_script"] (Ac Jq):=Bk
theorem W3 {f:Addr} {fd:FuncData} (F:Cg K "law" "law" Jq f fd) (N:fY K mg C aD) (T:Txt K w.params mg C cT cD cK cR cS cO aN aK aB aP aM) (F0:Pj K aB aP aM):Ao P w K mg base BW 11 f fd ["_law_script"] (Oe K):=by
 have GRw:Ao P w K mg base BW 2 aD.fRw aD.dRw ["_law_script"] (YB K aB aP aM):=ZX N T
 have GOi:Ao P w K mg base BW 9 aD.fOi aD.dOi ["self","rows"] (Yr K aB aP aM C):=Y_ N T
 have GOz:Ao P w K mg base BW 1 aD.fOz aD.dOz ["self"] (Qf C):=Li N T
 have GOc:Ao P w K mg base BW 1 aD.fOc aD.dOc ["self"] (Qz C):=Od N T
 have GCe:Ao P w K mg base BW 1 aD.fCe aD.dCe ["_law_script","_law_k"] (Wc K):=V1 N T
 have GMi:Ao P w K mg base BW 1 aD.fMi aD.dMi ["_law_cell","_law_by","_law_many"] XS:=VR N T
 have GRf:Ao P w K mg base BW 10 aD.fRf aD.dRf ["_law_organ","_law_held","_law_wish"] (Zu C):=bf N T
 have GWk:Ao P w K mg base (Vp P w) 9 aD.fWk aD.dWk ["organ","held","wish"] (V8 C cT):=Vx N T
 have GLw:Ao P w K mg base BW 1 aD.fLw aD.dLw ["_law_found"] QL:=Vj N T
 have GSo:Ao P w K mg base BW 7 aD.fSo aD.dSo ["organ","knobs","held"] (Yg C):=YD N T
 have GAl:Ao P w K mg base BW 8 aD.fAl aD.dAl ["_law_organ","_law_held","_law_found","_law_numbers","_law_wish"] (Yo C):=Y9 N T
 refine F.ok J6 (fun vs H Q E h=>?_) (fun cdv A outer s H vs Q E hr h=>?_)
 ·obtain ⟨a,ns,rfl,_⟩:=h
  rfl
 ·obtain ⟨a,ns,rfl,hS,hlen,q⟩:=h
  have hrRw:A_ 2 _:=hr.mono (by decide)
  have hrOi:A_ 9 _:=hr.mono (by decide)
  have hrOz:A_ 1 _:=hr.mono (by decide)
  have hrOc:A_ 1 _:=hr.mono (by decide)
  have hrCe:A_ 1 _:=hr.mono (by decide)
  have hrMi:A_ 1 _:=hr.mono (by decide)
  have hrRf:A_ 10 _:=hr.mono (by decide)
  have hrWk:A_ 9 _:=hr.mono (by decide)
  have hrLw:A_ 1 _:=hr.mono (by decide)
  have hrSo:A_ 7 _:=hr.mono (by decide)
  have hrAl:A_ 8 _:=hr.mono (by decide)
  refine ⟨_,(@Af _ _ _ _ _ (@Ck _ _ _ _ _ _ 1 J6.nd rfl (Or.inl rfl) (Tu N.FOi.2.2 GOi hr rfl T.mC N.FOi.2.1 .nil An (@BJ _ _ _ _ _ rfl (Ah GRw hrRw rfl N.FRw.2.2 N.FRw.1.kp N.FRw.2.1 .nil An (@BJ _ _ _ _ _ rfl (pv 0) Ab)) Ab)) (by kernel_rfl) (.inl rfl))
   (@Af _ _ _ _ _ (VB (i:=2) J6.nd rfl rfl rfl (Em (osc:=Ac Jq) (N:=["_law_script","_law_organ","_law_numbers","_law_held","_law_wish","_law_found"]) rfl rfl (by decide +kernel)) (Ec rfl T.enumerate (@BJ _ _ _ _ _ rfl (CT (pv 1) T.cl N.FOz.2.2 GOz hrOz N.FOz.2.1 .nil An) Ab)) (fun _ _ _ _=>Eu (Ba Im (@Az _ _ _ _ _ _ _ (Am (K:=K) rfl) (pv 1) Ae (fun _ _=>rfl)) BZ (Be _))) (fun _ _ _ _=>(pv 0)))
   (@Af _ _ _ _ _ (@Ck _ _ _ _ _ _ 3 J6.nd rfl (Or.inl rfl) (Bc Fw (Bc Fw (Ah GCe hrCe rfl N.FCe.2.2 N.FCe.1.kp N.FCe.2.1 .nil An (@BJ _ _ _ _ _ rfl (pv 0) (@BJ _ _ _ _ _ rfl Ae Ab))) Ae) (Bc Hx Ae (CT (pv 1) T.cl N.FOc.2.2 GOc hrOc N.FOc.2.1 .nil An))) (by kernel_rfl) (.inl rfl))
   (@Af _ _ _ _ _ (@Ck _ _ _ _ _ _ 4 J6.nd rfl (Or.inl rfl) (Bc Ng (Bc Fw (Ah GCe hrCe rfl N.FCe.2.2 N.FCe.1.kp N.FCe.2.1 .nil An (@BJ _ _ _ _ _ rfl (pv 0) (@BJ _ _ _ _ _ rfl Ae Ab))) Ae) (Bc Hx Ae (Ah GMi hrMi rfl N.FMi.2.2 N.FMi.1.kp N.FMi.2.1 .nil An (@BJ _ _ _ _ _ rfl (Ah GCe hrCe rfl N.FCe.2.2 N.FCe.1.kp N.FCe.2.1 .nil An (@BJ _ _ _ _ _ rfl (pv 0) (@BJ _ _ _ _ _ rfl Ae Ab))) (@BJ _ _ _ _ _ rfl Ae (@BJ _ _ _ _ _ rfl Ae Ab)))))) (by kernel_rfl) (.inl rfl))
   (@Af _ _ _ _ _ (@Bw _ _ _ _ _ _ _ _ (Ba Q0 (BL Bh rfl T.len PySem.boot_len (@BJ _ _ _ _ _ rfl (pv 2) Ab)) Ae (Be _)) (@Ag _ _ _ (@Av _ _ _ _ (Ah GRf hrRf rfl N.FRf.2.2 N.FRf.1.kp N.FRf.2.1 .nil An (@BJ _ _ _ _ _ rfl (pv 1) (@BJ _ _ _ _ _ rfl (pv 3) (@BJ _ _ _ _ _ rfl (pv 4) Ab)))))) Bb)
   (@Af _ _ _ _ _ (@Ck _ _ _ _ _ _ 5 J6.nd rfl (Or.inl rfl) (Ah GWk hrWk rfl N.FWk.2.2 N.FWk.1.kp N.FWk.2.1 .nil ZQ (@BJ _ _ _ _ _ rfl (pv 1) (@BJ _ _ _ _ _ rfl (pv 3) (@BJ _ _ _ _ _ rfl (pv 4) Ab)))) (by kernel_rfl) (.inl rfl))
   (@Af _ _ _ _ _ (@Bw _ _ _ _ _ _ _ _ (PW.pt (D_ (CP (CQ (BL CN rfl T.isin PyProof.Rows.boot_isinstance (@BJ _ _ _ _ _ rfl (pv 5) (@BJ _ _ _ _ _ rfl (Cv (v:=.ty "tuple") rfl T.tuple PyProof.Rows.boot_tuple rfl) Ab))))) (D_ (Ba Im (BL Bh rfl T.len PySem.boot_len (@BJ _ _ _ _ _ rfl (pv 5) Ab)) Ae (Be _)) (Ey (CP (CQ (BL CN rfl T.isin PyProof.Rows.boot_isinstance (@BJ _ _ _ _ _ rfl (@Az _ _ _ _ _ _ _ (Am (K:=K) rfl) (pv 5) Ae (fun _ _=>rfl)) (@BJ _ _ _ _ _ rfl (Cv (v:=.ty "str") rfl T.str PyProof.Rows.boot_str rfl) Ab))))))))) (@Ag _ _ _ (@Av _ _ _ _ HJ)) Bb)
   (@Af _ _ _ _ _ (@Bw _ _ _ _ _ _ _ _ (Ba Dh (@Az _ _ _ _ _ _ _ (Am (K:=K) rfl) (pv 5) Ae (fun _ _=>rfl)) BZ (Be _)) (@Af _ _ _ _ _ (@Bw _ _ _ _ _ _ _ _ (PW.pt (D_ (CP (CQ (Ah GLw hrLw rfl N.FLw.2.2 N.FLw.1.kp N.FLw.2.1 .nil An (@BJ _ _ _ _ _ rfl (@Az _ _ _ _ _ _ _ (Am (K:=K) rfl) (pv 5) Ae (fun _ _=>rfl)) Ab)))) (Ey (CP (F_ FW Gw Ae (@Az _ _ _ _ _ _ _ (Am (K:=K) rfl) (pv 5) Ae (fun _ _=>rfl)) (Bc Hx Ae (BL Bh rfl T.len PySem.boot_len (@BJ _ _ _ _ _ rfl (CT (pv 1) T.cl N.FOz.2.2 GOz hrOz N.FOz.2.1 .nil An) Ab)))))))) (@Ag _ _ _ (@Av _ _ _ _ HJ)) Bb)
   (@Ag _ _ _ (@Av _ _ _ _ (Du Dh (Ah GSo hrSo rfl N.FSo.2.2 N.FSo.1.kp N.FSo.2.1 .nil An (@BJ _ _ _ _ _ rfl (pv 1) (@BJ _ _ _ _ _ rfl (@Az _ _ _ _ _ _ _ (Am (K:=K) rfl) (pv 5) Ae (fun _ _=>rfl)) (@BJ _ _ _ _ _ rfl (pv 3) Ab)))) (pv 4) (Be _))))) Bb)
   (@Ag _ _ _ (@Av _ _ _ _ (DX (Du Dh (@Az _ _ _ _ _ _ _ (Am (K:=K) rfl) (pv 5) Ae (fun _ _=>rfl)) BZ (Be _)) (DN (Ah GAl hrAl rfl N.FAl.2.2 N.FAl.1.kp N.FAl.2.1 .nil An (@BJ _ _ _ _ _ rfl (pv 1) (@BJ _ _ _ _ _ rfl (pv 3) (@BJ _ _ _ _ _ rfl (@Az _ _ _ _ _ _ _ (Am (K:=K) rfl) (pv 5) Ae (fun _ _=>rfl)) (@BJ _ _ _ _ _ rfl (pv 2) (@BJ _ _ _ _ _ rfl (pv 4) Ab)))))))))))))))))),?_⟩
  refine ⟨_,rfl,a,ns,rfl,hS,F0,fun DR vs9 at_ s0 s1 i m mu rows kbs ls H9 _ s09 hl9 hv9 hat b0 b0' b1 b1' R7 hi hm=>?_⟩
  have hbl:(Bg (c7 at_) [s0,s1]).length=2:=rfl
  have hkl:kbs.length<=11:=by have:=R7.len; omega
  obtain ⟨R9,O9,eL⟩:=R7.bl.fin hv9 (by omega) (by omega) (fun b hb=>by
   rw [Xw] at hb
   simp only [List.mem_cons,List.not_mem_nil,or_false] at hb
   rcases hb with rfl | rfl
   ·exact b0'
   ·exact b1') (by decide) (fun r hr'=>by rw [List.mem_singleton.mp hr']; decide) (by rw [Dl]; omega) (by rw [Xw]; show ([("great" : Str),"swell"]).Nodup; decide +kernel) (by decide +kernel) (by
   refine Ph fun i j x hi hj=>?_
   rw [List.getElem?_map] at hi hj
   obtain ⟨r1,hr1,e1⟩:=Option.map_eq_some_iff.mp hi
   obtain ⟨r2,hr2,e2⟩:=Option.map_eq_some_iff.mp hj
   obtain ⟨z1,hz1,rfl⟩:=Cd hr1
   obtain ⟨z2,hz2,rfl⟩:=Cd hr2
   rw [Oa] at e1 e2
   have l1:=(List.getElem?_eq_some_iff.mp hz1).1
   have l2:=(List.getElem?_eq_some_iff.mp hz2).1
   rcases Nat.lt_trichotomy i j with h | h | h
   ·exact absurd (e1.trans e2.symm) ((S_ (a:=at_) (i:=j) (by omega) (by omega)).2.2.2.2 i h)
   ·exact h
   ·exact absurd (e2.trans e1.symm) ((S_ (a:=at_) (i:=i) (by omega) (by omega)).2.2.2.2 j h)) (by have:=R7.rl; omega)
  intro x dx nx ndx nex
  have sx:Al H9 (upd (upd H9 dx (.own x)) x (.ins C dx [])):=fun b o e=>by
   rw [Ax (Aw e nx),Ax (Aw e ndx)]
   exact e
  refine ⟨x,dx,DR,vs9,Te H9,_,_,_,rfl,Ak,sx _ _ hl9,R9.mono sx,O9,fun H10 OA SXh=>⟨rfl,?_⟩⟩
  rw [eL] at OA
  have s910:Al H9 H10:=fun b o e=>SXh b o (sx b o e) (Aw e nx)
  have s010:=s09.trans s910
  clear SXh sx nx ndx nex R9 O9 hv9 hl9 eL s910 s09
  have hkb:KD [s0,s1].length kbs:=R7.kb
  have hls:=R7.lg
  have hsum:(Ea (Bg (c7 at_) [s0,s1])).length=[s0,s1].sum:=by rw [Ef,B_]
  have e2:[s0,s1].sum=s0+s1:=by simp
  generalize c7 at_=c at OA hsum
  generalize [s0,s1]=sz at OA hkb hsum e2
  generalize Zw=rk at OA hls
  obtain ⟨⟨dx,fs,_,_,_,_,_,_,_,_,h1,_,_,_,_,lm,_⟩,_⟩:=id OA.o
  refine ⟨_,rfl,x,dx,fs,rfl,h1,lm _ (by decide +kernel),x,_,_,rfl,OA.o,fun D1 ys H11 hD1 s11 hl11 hv11=>?_⟩
  have hS1:CZ K H11 D1 ys:=.inl (.inl hl11)
  have hyl:=hv11.length
  have hkl2:(BR c kbs).length<=11:=by rw [Dl]; exact hkl
  refine ⟨D1,rfl,⟨_,hS1⟩,Gp (K:=K) (xs:=ys) (fun i _=>!Ju (BR c kbs) i) (fun i _=>.int (i:Nat)) hS1 (Ay (by omega)) (fun i v hv H' hs R k=>?_) (fun i v hv _ H' hs R k=>⟨_,rfl,k H' (Al.refl H')⟩) (fun D3 H12 hD3 s12 hl12=>?_)⟩
  ·have hi:i<(BR c kbs).length:=by have:=(List.getElem?_eq_some_iff.mp hv).1; omega
   obtain ⟨v',hv',ht⟩:=Bs hv11 (List.getElem?_eq_getElem hi)
   obtain rfl:v'=v:=Option.some.inj (hv'.symm.trans hv)
   obtain ⟨T0,rfl,hT⟩:=ht.mono hs
   have kk:=k H' (Al.refl H')
   rw [Ff (List.getElem?_eq_getElem hi)] at kk
   exact ⟨_,rfl,T0,_,_,_,rfl,rfl,.inl (.inl hT),Ai (j:=0) rfl,rfl,_,rfl,kk⟩
  rw [KR (fun k=>!Ju (BR c kbs) k) ys,← hyl] at hl12
  have hl12':H12 D3=some (.lst (nV (Hk (BR c kbs)))):=hl12
  have s12':=s11.trans s12
  have O12:=OA.mono s12'
  have h12:=s12' _ _ h1
  clear hl12 hv11 hS1 hl11
  refine ⟨_,rfl,a,0,ns,rfl,(s010.trans s12').seq hS,_,_,rfl,rfl,(by show (0:Int)<32; decide),_,rfl,x,dx,fs,rfl,h12,lm _ (by decide +kernel),x,_,_,rfl,O12.o,_,_,rfl,rfl,⟨by omega,by rw [hsum,e2]; omega,by decide⟩,_,_,rfl,rfl,?_,?_⟩
  ·show (0:Int)<1 * 2 ^ _
   rw [Int.one_mul]
   exact Int.pow_pos (by decide)
  have eM:(1:Int) * 2 ^ (((Ea (Bg c sz)).length:Nat):Int).toNat=((2 ^ sz.sum:Nat):Int):=by rw [Int.one_mul,Int.toNat_natCast,hsum,Dm]
  have pM:=Nat.two_pow_pos sz.sum
  obtain ⟨n,en,hn⟩:∃ n:Nat,ns.getD 0 0 % 32 % (1 * 2 ^ (((Ea (Bg c sz)).length:Nat):Int).toNat)=((n:Nat):Int)/\n<2 ^ sz.sum:=by
   rw [eM]
   have h0:=Int.emod_nonneg (ns.getD 0 0 % 32) (show ((2 ^ sz.sum:Nat):Int) ≠ 0 by omega)
   have h1:=Int.emod_lt_of_pos (ns.getD 0 0 % 32) (show (0:Int)<((2 ^ sz.sum:Nat):Int) by omega)
   obtain ⟨r,hr⟩:=Int.eq_ofNat_of_zero_le h0
   exact ⟨r,hr,by omega⟩
  show Dc 3 (V.int (ns.getD 0 0 % 32 % (1 * 2 ^ (((Ea (Bg c sz)).length:Nat):Int).toNat))) _ _ _
  rw [en]
  have h305:=Dp OA.o
  rw [B_] at h305
  have hnt:∀ i,n.testBit i=true->i<sz.sum:=fun i hi=>by
   refine Nat.lt_of_not_le fun z=>?_
   rw [Nat.testBit_lt_two_pow (Nat.lt_of_lt_of_le hn (Nat.pow_le_pow_right (by decide) z))] at hi
   cases hi
  have hn12:n<2 ^ 1200:=Nat.lt_of_lt_of_le hn (Nat.pow_le_pow_right (by decide) (by omega))
  clear en eM pM
  have bm:=Hz (ns.getD 1 0) 18149 (m:=30) (by decide)
  have b4:0<=ns.getD 1 0 % 4/\ns.getD 1 0 % 4<4:=⟨Int.emod_nonneg _ (by decide),Int.emod_lt_of_pos _ (by decide)⟩
  refine ⟨_,rfl,a,1,ns,rfl,(s010.trans s12').seq hS,_,_,rfl,rfl,(by show (0:Int)<4; decide),_,rfl,a,1,ns,rfl,(s010.trans s12').seq hS,_,18149,30,rfl,by decide,by decide,by decide,_,_,rfl,rfl,⟨bm.1,by omega,by decide⟩,_,_,rfl,rfl,.inl ⟨by omega,by omega⟩,?_⟩
  obtain ⟨wi,ew,hwi⟩:∃ w:Nat,ns.getD 1 0 % 4 * (1 * 2 ^ (KN (ns.getD 1 0) 18149 30).toNat)=((w:Nat):Int)/\w<2 ^ 1200:=by
   obtain ⟨r,hr⟩:=Int.eq_ofNat_of_zero_le b4.1
   refine ⟨r * 2 ^ (KN (ns.getD 1 0) 18149 30).toNat,?_,Mw (k:=0) (by omega) (by omega)⟩
   rw [hr,Int.one_mul,Dm]
   simp
  show Dc 4 (V.int (ns.getD 1 0 % 4 * (1 * 2 ^ (KN (ns.getD 1 0) 18149 30).toNat))) _ _ _
  rw [ew]
  clear ew bm b4
  have lnv:(nV (Hk (BR c kbs))).length=(Hk (BR c kbs)).length:=List.length_map ..
  refine ⟨_,rfl,D3,_,rfl,.inl (.inl (.inl hl12')),_,_,rfl,rfl,_,rfl,?_⟩
  rw [lnv,Q6]
  refine Cp (fun g=>?_) (fun g=>?_)
  ·exact ⟨_,rfl,_,rfl,_,rfl,x,c,sz,rk,kbs,ls,n,wi,rfl,O12,hkb,hls,hn12,hnt,hwi,of_decide_eq_true g,fun H'=>q H'⟩
  refine ⟨_,rfl,_,rfl,_,rfl,x,c,sz,rk,kbs,ls,n,wi,rfl,O12,hkb,hls,hn12,hnt,hwi,fun D m' T0 H' _ hD hm' hcov s' hT0=>?_,fun lk L T0 ys' H' h6 hmap hlk s' hT0 hL hpr=>?_,fun H' h6 _=>absurd (decide_eq_true h6) g⟩
  ·refine ⟨_,rfl,_,"tuple",_,_,rfl,.tup hT0,Ov,_,rfl,Ce ?_⟩
   refine ⟨_,rfl,T0,_,rfl,.inr (.inl (.inl hT0)),rfl,_,rfl,Cp (fun z=>absurd z (by show ¬ (!decide (V.int ((2:Nat):Int)=V.int 2))=true; decide)) (fun _=>?_)⟩
   refine ⟨_,rfl,T0,_,_,_,rfl,rfl,.inl (.inl hT0),Ai (j:=0) rfl,_,"str",_,_,rfl,.str _,OD,_,rfl,Ce ?_⟩
   refine ⟨_,rfl,T0,_,_,_,rfl,rfl,.inl (.inl hT0),Ai (j:=0) rfl,rfl,_,rfl,?_⟩
   rw [decide_eq_true rfl]
   refine Ed ?_
   have hlt:=X8 (c:=c) (sz:=sz) (rk:=rk) (kbs:=kbs) (ls:=ls) (m:=m') (wi:=wi) hD
   generalize etk:(D ||| Wd.mk ((TY (JB sz rk kbs ls (Fv (BR c kbs)) m' wi)).map (·.1)))=tk at hT0
   have O':=O12.mono s'
   refine ⟨_,rfl,T0,_,_,_,rfl,rfl,.inl (.inl hT0),Ai (j:=1) rfl,_,rfl,_,rfl,Ce ?_⟩
   refine ⟨_,rfl,T0,_,_,_,rfl,rfl,.inl (.inl hT0),Ai (j:=1) rfl,_,_,rfl,rfl,_,rfl,Cp (fun _=>?_) (fun z=>absurd (decide_eq_true (by omega)) z)⟩
   refine ⟨_,rfl,x,dx,fs,rfl,s' _ _ h12,lm _ (by decide +kernel),x,_,_,rfl,O'.o,fun D4 ys4 H4 hD4 s4 hl4 hv4=>?_⟩
   have l4:ys4.length=kbs.length:=by rw [← hv4.length,Dl]
   refine ⟨D4,_,rfl,.inl (.inl (.inl hl4)),_,_,rfl,rfl,⟨by omega,by omega,by decide⟩,_,_,rfl,rfl,_,rfl,?_⟩
   have e4:(1:Int) * 2 ^ ((ys4.length:Nat):Int).toNat=((2 ^ kbs.length:Nat):Int):=by rw [Int.one_mul,Int.toNat_natCast,l4,Dm]
   have hlt':tk<2 ^ kbs.length:=by rw [← etk]; exact hlt
   rw [e4,decide_eq_true (by omega:((tk:Nat):Int)<((2 ^ kbs.length:Nat):Int))]
   refine Ce ?_
   refine ⟨_,rfl,_,rfl,T0,_,_,_,rfl,rfl,.inl (.inl (s4 _ _ hT0)),Ai (j:=1) rfl,_,rfl,x,c,sz,rk,kbs,ls,tk,n,rfl,O'.mono s4,hkb,hls,hn12,hnt,fun cl m2 H6 s6 hcl hm2=>⟨_,rfl,rfl,?_⟩⟩
   subst etk
   rw [Su hD hm' hcov hcl hm2,decide_eq_true rfl]
   exact q H6
  ·refine ⟨_,rfl,_,"tuple",_,_,rfl,.tup hT0,Ov,_,rfl,Ce ?_⟩
   refine ⟨_,rfl,T0,_,rfl,.inr (.inl (.inl hT0)),rfl,_,rfl,Cp (fun z=>absurd z (by show ¬ (!decide (V.int ((2:Nat):Int)=V.int 2))=true; decide)) (fun _=>?_)⟩
   refine ⟨_,rfl,T0,_,_,_,rfl,rfl,.inl (.inl hT0),Ai (j:=0) rfl,_,"str",_,_,rfl,.str _,OD,_,rfl,Ce ?_⟩
   refine ⟨_,rfl,T0,_,_,_,rfl,rfl,.inl (.inl hT0),Ai (j:=0) rfl,rfl,_,rfl,?_⟩
   rw [decide_eq_false (show ¬ V.str "lacks" = V.str "knobs" from fun z=>absurd (V.str.inj z) (by decide +kernel))]
   refine Ce ?_
   refine ⟨_,rfl,T0,_,_,_,rfl,rfl,.inl (.inl hT0),Ai (j:=0) rfl,rfl,_,rfl,?_⟩
   rw [decide_eq_true rfl]
   refine Ed ?_
   exact ⟨_,rfl,_,rfl,_,rfl,T0,_,_,_,rfl,rfl,.inl (.inl hT0),Ai (j:=1) rfl,_,rfl,_,rfl,x,L,D3,c,sz,rk,kbs,ls,n,wi,lk,ys',rfl,O12.mono s',hkb,hls,hn12,hnt,hL,hpr,s' _ _ hl12',h6,hmap,hlk,fun H'=>q H'⟩
end
end K76
end PartK76a
section PartK76z
set_option maxHeartbeats 4000000
theorem UL1 {α:Type} {us:List α} (h:us.length=1):∃ a,us=[a]:=match us,h with | [a],_=>⟨a,rfl⟩
theorem UL2 {α:Type} {us:List α} (h:us.length=2):∃ a b,us=[a,b]:=match us,h with | [a,b],_=>⟨a,b,rfl⟩
theorem UL3 {α:Type} {us:List α} (h:us.length=3):∃ a b c,us=[a,b,c]:=match us,h with | [a,b,c],_=>⟨a,b,c,rfl⟩
theorem UL4 {α:Type} {us:List α} (h:us.length=4):∃ a b c d,us=[a,b,c,d]:=match us,h with | [a,b,c,d],_=>⟨a,b,c,d,rfl⟩
theorem UL5 {α:Type} {us:List α} (h:us.length=5):∃ a b c d e,us=[a,b,c,d,e]:=match us,h with | [a,b,c,d,e],_=>⟨a,b,c,d,e,rfl⟩
namespace K76
open PySem L2 Og
section
variable {K:W.Frag}
noncomputable abbrev DA (K:W.Frag) (x:Str) (st:Stmt) (f:Addr):Prop:=W.nsIn K mainGlobals x=some (some (.ref f))/\∃ fd,Cg K x x st f fd
noncomputable abbrev MA (K:W.Frag) (C:Addr) (x q:Str) (st:Stmt) (f:Addr):Prop:=W.findIn K (.ref C) x=some (some (.ref f))/\W.isFn K (.ref f)=true/\∃ fd,Cg K x q st f fd
theorem Eb {x q:Str} {st:Stmt} {f:Addr} {fd:FuncData} {ps:List Str} (F:Cg K x q st f fd) (hl:ps.length=1:=by rfl) (h:∀ (kV doc pm:Value) (an:Option Addr) (cdv ct:Value) (u:Value),bindArgs (W.fnOf x q (Dn st) (DP st) (Ac st) .none kV doc pm an cdv ct) ⟨[u],[]⟩=pure (ps.zip [u]):=by intros; rfl):Binds K fd ps []:=F.binds fun kV doc pm an cdv ct us hu=>by obtain ⟨u,rfl⟩:=UL1 (hu.trans hl); exact h kV doc pm an cdv ct u
theorem Fq {x q:Str} {st:Stmt} {f:Addr} {fd:FuncData} {ps:List Str} (F:Cg K x q st f fd) (hl:ps.length=2:=by rfl) (h:∀ (kV doc pm:Value) (an:Option Addr) (cdv ct:Value) (u v:Value),bindArgs (W.fnOf x q (Dn st) (DP st) (Ac st) .none kV doc pm an cdv ct) ⟨[u,v],[]⟩=pure (ps.zip [u,v]):=by intros; rfl):Binds K fd ps []:=F.binds fun kV doc pm an cdv ct us hu=>by obtain ⟨u,v,rfl⟩:=UL2 (hu.trans hl); exact h kV doc pm an cdv ct u v
theorem Eo {x q:Str} {st:Stmt} {f:Addr} {fd:FuncData} {ps:List Str} (F:Cg K x q st f fd) (hl:ps.length=3:=by rfl) (h:∀ (kV doc pm:Value) (an:Option Addr) (cdv ct:Value) (u v a:Value),bindArgs (W.fnOf x q (Dn st) (DP st) (Ac st) .none kV doc pm an cdv ct) ⟨[u,v,a],[]⟩=pure (ps.zip [u,v,a]):=by intros; rfl):Binds K fd ps []:=F.binds fun kV doc pm an cdv ct us hu=>by obtain ⟨u,v,a,rfl⟩:=UL3 (hu.trans hl); exact h kV doc pm an cdv ct u v a
theorem iT {x q:Str} {st:Stmt} {f:Addr} {fd:FuncData} {ps:List Str} (F:Cg K x q st f fd) (hl:ps.length=4:=by rfl) (h:∀ (kV doc pm:Value) (an:Option Addr) (cdv ct:Value) (u v a b:Value),bindArgs (W.fnOf x q (Dn st) (DP st) (Ac st) .none kV doc pm an cdv ct) ⟨[u,v,a,b],[]⟩=pure (ps.zip [u,v,a,b]):=by intros; rfl):Binds K fd ps []:=F.binds fun kV doc pm an cdv ct us hu=>by obtain ⟨u,v,a,b,rfl⟩:=UL4 (hu.trans hl); exact h kV doc pm an cdv ct u v a b
theorem fP {x q:Str} {st:Stmt} {f:Addr} {fd:FuncData} {ps:List Str} (F:Cg K x q st f fd) (hl:ps.length=5:=by rfl) (h:∀ (kV doc pm:Value) (an:Option Addr) (cdv ct:Value) (u v a b c:Value),bindArgs (W.fnOf x q (Dn st) (DP st) (Ac st) .none kV doc pm an cdv ct) ⟨[u,v,a,b,c],[]⟩=pure (ps.zip [u,v,a,b,c]):=by intros; rfl):Binds K fd ps []:=F.binds fun kV doc pm an cdv ct us hu=>by obtain ⟨u,v,a,b,c,rfl⟩:=UL5 (hu.trans hl); exact h kV doc pm an cdv ct u v a b c
end
theorem Xa {l:W.OpenLaw} {w:World} {K:W.Frag} {h:Heap} {mg:Str->Option Value} {fa:Addr} (X:K.In h) (G:h.Ns mainGlobals mg) (hfa:mg "law" = some (.ref fa))
  {C cT cD cK cR cS cO aN aK aB aP aM p1 p2 p3 p4 p5 p6 b1 b2 b3 b4 b5 b6 b7 fWh fMd fNm fRo fTo fWi fPa fHp fCl fIk fSb fWm fHr fIr fCk fNu fCa fPl fLi fMy fSt fHa fMe fSh fUn fLe fDc fHk fWa fCq fMu fUk fSk fNb fLl fBs fBa fSo fBb fLk fSf fSv fGs fPn fNd fWk fCe fLw fMi fRw fRf fLs fLb fAl fOi fOb fOc fOk fOo fBk fOp fOr fOq fOe fOs fOm fOz fZ:Addr} {odZ anZ:Option Addr} {slZ:Array (Option Value)} {ocZ kVZ dcZ pmZ cdZ ctZ:Value}
  {tLET tML tMR tMLn tMB tMLd tm1 tm2 tm3 tm4 tm5 ttN_0 ttN_1 ttN_2 ttN_3 ttN_4 ttK_0 ttK_1 ttK_2 ttp1_0 ttp1_1 ttp2_0 ttp2_1 ttp3_0 ttp3_1 ttp4_0 ttp4_1 ttp4_2 ttp4_3 ttp5_0 ttp5_1 ttp5_2 ttp6_0 ttp6_1 ttp6_2 ttp6_3 ttb1_0 ttb1_1 ttb2_0 ttb2_1 ttb3_0 ttb3_1 ttb4_0 ttb4_1 ttb5_0 ttb5_1 ttb6_0 ttb6_1 ttb7_0 ttb7_1:Tok} {od_N od_K od_p1 od_p2 od_p3 od_p4 od_p5 od_p6 od_b1 od_b2 od_b3 od_b4 od_b5 od_b6 od_b7:Option Addr} {sl_N sl_K sl_p1 sl_p2 sl_p3 sl_p4 sl_p5 sl_p6 sl_b1 sl_b2 sl_b3 sl_b4 sl_b5 sl_b6 sl_b7:Array (Option Value)} {n_N n_K n_p1 n_p2 n_p3 n_p4 n_p5 n_p6 n_b1 n_b2 n_b3 n_b4 n_b5 n_b6 n_b7 nB nP nM:Nat} {eB eP eM:Array DictEntry}
  (FWh:DA K "is_whole" dN fWh)
  (FMd:DA K "is_made_of" b_ fMd)
  (FNm:DA K "is_name" dw fNm)
  (FRo:DA K "rows_of" cP fRo)
  (FTo:DA K "is_told" cU fTo)
  (FWi:DA K "is_within" iW fWi)
  (FPa:DA K "is_part" cX fPa)
  (FHp:DA K "has_parts" cW fHp)
  (FCl:DA K "count_of_last_lines" fc fCl)
  (FIk:DA K "is_key_of" cI fIk)
  (FSb:DA K "stands_behind_stop" d7 fSb)
  (FWm:DA K "is_well_made" iw fWm)
  (FHr:DA K "has_room" g_ fHr)
  (FIr:DA K "is_row" jQ fIr)
  (FCk:DA K "check_rows" fW fCk)
  (FNu:DA K "numbers_of" jL fNu)
  (FCa:DA K "count_in_all" bw fCa)
  (FPl:DA K "places_of" dG fPl)
  (FLi:DA K "lines_by_knob" jP fLi)
  (FMy:DA K "may_be_member" eN fMy)
  (FSt:DA K "set_of" cH fSt)
  (FHa:DA K "has_member" fU fHa)
  (FMe:DA K "members_of" cY fMe)
  (FSh:DA K "shifted" gY fSh)
  (FUn:DA K "union_of" d9 fUn)
  (FLe:DA K "led_to" iJ fLe)
  (FDc:DA K "drawn_of" Yn fDc)
  (FHk:DA K "held_keys" gO fHk)
  (FWa:DA K "coupled_ways" dJ fWa)
  (FCq:DA K "coupled_keys" gM fCq)
  (FMu:DA K "muted_boards" b8 fMu)
  (FUk:DA K "unmuted_keys" bx fUk)
  (FSk:DA K "speaking_keys" jR fSk)
  (FNb:DA K "numbers_on_board" jT fNb)
  (FLl:DA K "led_by_line" gJ fLl)
  (FBs:DA K "brought_by_stop" cj fBs)
  (FBa:DA K "brought_in_all" cF fBa)
  (FSo:DA K "sounding_pipes" jM fSo)
  (FBb:DA K "brought_by" jU fBb)
  (FLk:DA K "leading_knobs" dH fLk)
  (FSf:DA K "stops_of" cG fSf)
  (FSv:DA K "sets_of" cM fSv)
  (FGs:DA K "good_stops" ZD fGs)
  (FPn:DA K "pipes_in_all" bj fPn)
  (FNd:DA K "needed_stops" ZW fNd)
  (FWk:DA K "wished_knobs" iu fWk)
  (FCe:DA K "_law_cell_at" jG fCe)
  (FLw:DA K "_law_whole" gm fLw)
  (FMi:DA K "_law_mix" d8 fMi)
  (FRw:DA K "_law_rows" dF fRw)
  (FRf:DA K "_law_refused" dq fRf)
  (FLs:DA K "_law_sets" cu fLs)
  (FLb:DA K "_law_brought" jN fLb)
  (FAl:DA K "_law_are_lacks" cQ fAl)
  (aZ:W.nsIn K mainGlobals "law" = some (some (.ref fZ)))
  (lZ:K.lookup fZ=some ⟨ocZ,odZ,.func (W.fnOf "law" "law" (Dn Jq) (DP Jq) (Ac Jq) .none kVZ dcZ pmZ anZ cdZ ctZ),slZ⟩) (cZ:W.codeIn K cdZ "law" = true) (kZ:W.keepIn K (.ref fZ)=true)
  (aC:W.nsIn K mainGlobals "Organ" = some (some (.ref C)))
  (FOi:MA K C "__init__" "Organ.__init__" Tc fOi)
  (FOb:MA K C "boards" "Organ.boards" eU fOb)
  (FOc:MA K C "key_count" "Organ.key_count" iz fOc)
  (FOk:MA K C "key" "Organ.key" dX fOk)
  (FOo:MA K C "board_of" "Organ.board_of" jK fOo)
  (FBk:MA K C "board_of_knob" "Organ.board_of_knob" gG fBk)
  (FOp:MA K C "coupler" "Organ.coupler" gQ fOp)
  (FOr:MA K C "ranks" "Organ.ranks" dg fOr)
  (FOq:MA K C "pipe_count" "Organ.pipe_count" jC fOq)
  (FOe:MA K C "pipe" "Organ.pipe" eZ fOe)
  (FOs:MA K C "stop" "Organ.stop" il fOs)
  (FOm:MA K C "mute" "Organ.mute" gr fOm)
  (FOz:MA K C "knobs" "Organ.knobs" cN fOz)
  (pg:W.plainGet K C Str.empty=true)
  (hd:W.hasDictIn K C=true)
  (po:W.plainOver K C=true)
  (sa:W.findIn K (.ref C) "__setattr__" = some (some (.builtin "object.__setattr__")))
  (mkC:W.makesIn K C=true)
  (kc:W.keepIn K (.ref C)=true)
  (n_row_list_:W.findIn K (.ref C) "row_list" = some none)
  (n_board_list_:W.findIn K (.ref C) "board_list" = some none)
  (n_rank_list_:W.findIn K (.ref C) "rank_list" = some none)
  (n_knob_rows_:W.findIn K (.ref C) "knob_rows" = some none)
  (n_board_numbers_:W.findIn K (.ref C) "board_numbers" = some none)
  (n_rank_numbers_:W.findIn K (.ref C) "rank_numbers" = some none)
  (n_knob_numbers_:W.findIn K (.ref C) "knob_numbers" = some none)
  (n_key_places_:W.findIn K (.ref C) "key_places" = some none)
  (n_pipe_places_:W.findIn K (.ref C) "pipe_places" = some none)
  (n_knob_lines_:W.findIn K (.ref C) "knob_lines" = some none)
  (n_step_sets_:W.findIn K (.ref C) "step_sets" = some none)
  (zlen:W.nsIn K mainGlobals "len" = some none)
  (zisinstance:W.nsIn K mainGlobals "isinstance" = some none)
  (zint:W.nsIn K mainGlobals "int" = some none)
  (zbool:W.nsIn K mainGlobals "bool" = some none)
  (zstr:W.nsIn K mainGlobals "str" = some none)
  (zlist:W.nsIn K mainGlobals "list" = some none)
  (ztuple:W.nsIn K mainGlobals "tuple" = some none)
  (zall:W.nsIn K mainGlobals "all" = some none)
  (zany:W.nsIn K mainGlobals "any" = some none)
  (zsum:W.nsIn K mainGlobals "sum" = some none)
  (zrange:W.nsIn K mainGlobals "range" = some none)
  (zzip:W.nsIn K mainGlobals "zip" = some none)
  (zenumerate:W.nsIn K mainGlobals "enumerate" = some none)
  (zmax:W.nsIn K mainGlobals "max" = some none)
  (zreversed:W.nsIn K mainGlobals "reversed" = some none)
  (zLET:W.nsIn K mainGlobals "LETTERS" = some (some (.str letters tLET)))
  (zML:W.nsIn K mainGlobals "MOST_LETTERS" = some (some (.int 8 tML)))
  (zMR:W.nsIn K mainGlobals "MOST_ROWS" = some (some (.int 150 tMR)))
  (zMLn:W.nsIn K mainGlobals "MOST_LINES" = some (some (.int 4 tMLn)))
  (zMB:W.nsIn K mainGlobals "MEMBERS_BELOW" = some (some (.int 1200 tMB)))
  (zMLd:W.nsIn K mainGlobals "MOST_LEADING" = some (some (.int 6 tMLd)))
  (xve:W.nsIn K mainGlobals "ValueError" = some none)
  (xmT:W.nsIn K mainGlobals "TooMany" = some (some (.ref cT)))
  (xmD:W.nsIn K mainGlobals "NoDeed" = some (some (.ref cD)))
  (xmK:W.nsIn K mainGlobals "NoKnob" = some (some (.ref cK)))
  (xmR:W.nsIn K mainGlobals "NoRoll" = some (some (.ref cR)))
  (xmS:W.nsIn K mainGlobals "NoSet" = some (some (.ref cS)))
  (xmO:W.nsIn K mainGlobals "OrganError" = some (some (.ref cO)))
  (xeO:W.excIn K cO Tn "ValueError.__new__" = true)
  (xbT:Ra K cT cO [cD,cK,cR,cS]=true)
  (rN:W.nsIn K mainGlobals "NAMED" = some (some (.ref aN)))
  (rK:W.nsIn K mainGlobals "KNOBS" = some (some (.ref aK)))
  (rB:W.nsIn K mainGlobals "BOUNDS" = some (some (.ref aB)))
  (rP:W.nsIn K mainGlobals "PARTS" = some (some (.ref aP)))
  (rM:W.nsIn K mainGlobals "MOST_OF" = some (some (.ref aM)))
  (dB:K.lookup aB=some ⟨.type "dict",none,.dict eB nB,#[]⟩)
  (kB:W.KeysLit w.params eB.toList)
  (oB:(aB == sysModules)=false)
  (dP:K.lookup aP=some ⟨.type "dict",none,.dict eP nP,#[]⟩)
  (kP:W.KeysLit w.params eP.toList)
  (oP:(aP == sysModules)=false)
  (dM:K.lookup aM=some ⟨.type "dict",none,.dict eM nM,#[]⟩)
  (kM:W.KeysLit w.params eM.toList)
  (oM:(aM == sysModules)=false)
  (qp1:W.nsIn K aP "board" = some (some (.ref p1)))
  (qp2:W.nsIn K aP "stop" = some (some (.ref p2)))
  (qp3:W.nsIn K aP "mute" = some (some (.ref p3)))
  (qp4:W.nsIn K aP "coupler" = some (some (.ref p4)))
  (qp5:W.nsIn K aP "rank" = some (some (.ref p5)))
  (qp6:W.nsIn K aP "line" = some (some (.ref p6)))
  (qb1:W.nsIn K aB "keys" = some (some (.ref b1)))
  (qb2:W.nsIn K aB "leap" = some (some (.ref b2)))
  (qb3:W.nsIn K aB "pipes" = some (some (.ref b3)))
  (qb4:W.nsIn K aB "wind" = some (some (.ref b4)))
  (qb5:W.nsIn K aB "shift" = some (some (.ref b5)))
  (qb6:W.nsIn K aB "low" = some (some (.ref b6)))
  (qb7:W.nsIn K aB "high" = some (some (.ref b7)))
  (qn:W.nsIn K aB "new" = some none)
  (qb:W.nsIn K aB "board" = some none)
  (qr:W.nsIn K aB "rank" = some none)
  (ql:W.nsIn K aM "line" = some none)
  (qm1:W.nsIn K aM "board" = some (some (.int 5 tm1)))
  (qm2:W.nsIn K aM "stop" = some (some (.int 24 tm2)))
  (qm3:W.nsIn K aM "coupler" = some (some (.int 12 tm3)))
  (qm4:W.nsIn K aM "mute" = some (some (.int 5 tm4)))
  (qm5:W.nsIn K aM "rank" = some (some (.int 12 tm5)))
  (uN:K.lookup aN=some ⟨.type "tuple",od_N,.seq #[.str "board" ttN_0,.str "rank" ttN_1,.str "stop" ttN_2,.str "coupler" ttN_3,.str "mute" ttN_4] n_N,sl_N⟩)
  (uK:K.lookup aK=some ⟨.type "tuple",od_K,.seq #[.str "stop" ttK_0,.str "coupler" ttK_1,.str "mute" ttK_2] n_K,sl_K⟩)
  (up1:K.lookup p1=some ⟨.type "tuple",od_p1,.seq #[.str "new" ttp1_0,.str "keys" ttp1_1] n_p1,sl_p1⟩)
  (up2:K.lookup p2=some ⟨.type "tuple",od_p2,.seq #[.str "new" ttp2_0,.str "board" ttp2_1] n_p2,sl_p2⟩)
  (up3:K.lookup p3=some ⟨.type "tuple",od_p3,.seq #[.str "new" ttp3_0,.str "board" ttp3_1] n_p3,sl_p3⟩)
  (up4:K.lookup p4=some ⟨.type "tuple",od_p4,.seq #[.str "new" ttp4_0,.str "board" ttp4_1,.str "board" ttp4_2,.str "leap" ttp4_3] n_p4,sl_p4⟩)
  (up5:K.lookup p5=some ⟨.type "tuple",od_p5,.seq #[.str "new" ttp5_0,.str "pipes" ttp5_1,.str "wind" ttp5_2] n_p5,sl_p5⟩)
  (up6:K.lookup p6=some ⟨.type "tuple",od_p6,.seq #[.str "rank" ttp6_0,.str "shift" ttp6_1,.str "low" ttp6_2,.str "high" ttp6_3] n_p6,sl_p6⟩)
  (ub1:K.lookup b1=some ⟨.type "tuple",od_b1,.seq #[.int (1) ttb1_0,.int (61) ttb1_1] n_b1,sl_b1⟩)
  (ub2:K.lookup b2=some ⟨.type "tuple",od_b2,.seq #[.int (-60) ttb2_0,.int (60) ttb2_1] n_b2,sl_b2⟩)
  (ub3:K.lookup b3=some ⟨.type "tuple",od_b3,.seq #[.int (1) ttb3_0,.int (97) ttb3_1] n_b3,sl_b3⟩)
  (ub4:K.lookup b4=some ⟨.type "tuple",od_b4,.seq #[.int (0) ttb4_0,.int (1000000000) ttb4_1] n_b4,sl_b4⟩)
  (ub5:K.lookup b5=some ⟨.type "tuple",od_b5,.seq #[.int (-200) ttb5_0,.int (200) ttb5_1] n_b5,sl_b5⟩)
  (ub6:K.lookup b6=some ⟨.type "tuple",od_b6,.seq #[.int (0) ttb6_0,.int (60) ttb6_1] n_b6,sl_b6⟩)
  (ub7:K.lookup b7=some ⟨.type "tuple",od_b7,.seq #[.int (0) ttb7_0,.int (60) ttb7_1] n_b7,sl_b7⟩)
  : ∃ fd:FuncData,(∀ (s:Shared) (v:Value),BindsTo s fd ⟨[v],[]⟩ [("_law_script",v)])/\∀ base:Heap,K.In base->base.Ns mainGlobals mg->Ao l.prog w K mg base BW 11 fa fd ["_law_script"] (Oe K):=by
 obtain ⟨aWh,dWh,FWh⟩:=FWh
 obtain ⟨aMd,dMd,FMd⟩:=FMd
 obtain ⟨aNm,dNm,FNm⟩:=FNm
 obtain ⟨aRo,dRo,FRo⟩:=FRo
 obtain ⟨aTo,dTo,FTo⟩:=FTo
 obtain ⟨aWi,dWi,FWi⟩:=FWi
 obtain ⟨aPa,dPa,FPa⟩:=FPa
 obtain ⟨aHp,dHp,FHp⟩:=FHp
 obtain ⟨aCl,dCl,FCl⟩:=FCl
 obtain ⟨aIk,dIk,FIk⟩:=FIk
 obtain ⟨aSb,dSb,FSb⟩:=FSb
 obtain ⟨aWm,dWm,FWm⟩:=FWm
 obtain ⟨aHr,dHr,FHr⟩:=FHr
 obtain ⟨aIr,dIr,FIr⟩:=FIr
 obtain ⟨aCk,dCk,FCk⟩:=FCk
 obtain ⟨aNu,dNu,FNu⟩:=FNu
 obtain ⟨aCa,dCa,FCa⟩:=FCa
 obtain ⟨aPl,dPl,FPl⟩:=FPl
 obtain ⟨aLi,dLi,FLi⟩:=FLi
 obtain ⟨aMy,dMy,FMy⟩:=FMy
 obtain ⟨aSt,dSt,FSt⟩:=FSt
 obtain ⟨aHa,dHa,FHa⟩:=FHa
 obtain ⟨aMe,dMe,FMe⟩:=FMe
 obtain ⟨aSh,dSh,FSh⟩:=FSh
 obtain ⟨aUn,dUn,FUn⟩:=FUn
 obtain ⟨aLe,dLe,FLe⟩:=FLe
 obtain ⟨aDc,dDc,FDc⟩:=FDc
 obtain ⟨aHk,dHk,FHk⟩:=FHk
 obtain ⟨aWa,dWa,FWa⟩:=FWa
 obtain ⟨aCq,dCq,FCq⟩:=FCq
 obtain ⟨aMu,dMu,FMu⟩:=FMu
 obtain ⟨aUk,dUk,FUk⟩:=FUk
 obtain ⟨aSk,dSk,FSk⟩:=FSk
 obtain ⟨aNb,dNb,FNb⟩:=FNb
 obtain ⟨aLl,dLl,FLl⟩:=FLl
 obtain ⟨aBs,dBs,FBs⟩:=FBs
 obtain ⟨aBa,dBa,FBa⟩:=FBa
 obtain ⟨aSo,dSo,FSo⟩:=FSo
 obtain ⟨aBb,dBb,FBb⟩:=FBb
 obtain ⟨aLk,dLk,FLk⟩:=FLk
 obtain ⟨aSf,dSf,FSf⟩:=FSf
 obtain ⟨aSv,dSv,FSv⟩:=FSv
 obtain ⟨aGs,dGs,FGs⟩:=FGs
 obtain ⟨aPn,dPn,FPn⟩:=FPn
 obtain ⟨aNd,dNd,FNd⟩:=FNd
 obtain ⟨aWk,dWk,FWk⟩:=FWk
 obtain ⟨aCe,dCe,FCe⟩:=FCe
 obtain ⟨aLw,dLw,FLw⟩:=FLw
 obtain ⟨aMi,dMi,FMi⟩:=FMi
 obtain ⟨aRw,dRw,FRw⟩:=FRw
 obtain ⟨aRf,dRf,FRf⟩:=FRf
 obtain ⟨aLs,dLs,FLs⟩:=FLs
 obtain ⟨aLb,dLb,FLb⟩:=FLb
 obtain ⟨aAl,dAl,FAl⟩:=FAl
 obtain ⟨aOi,iOi,dOi,FOi⟩:=FOi
 obtain ⟨aOb,iOb,dOb,FOb⟩:=FOb
 obtain ⟨aOc,iOc,dOc,FOc⟩:=FOc
 obtain ⟨aOk,iOk,dOk,FOk⟩:=FOk
 obtain ⟨aOo,iOo,dOo,FOo⟩:=FOo
 obtain ⟨aBk,iBk,dBk,FBk⟩:=FBk
 obtain ⟨aOp,iOp,dOp,FOp⟩:=FOp
 obtain ⟨aOr,iOr,dOr,FOr⟩:=FOr
 obtain ⟨aOq,iOq,dOq,FOq⟩:=FOq
 obtain ⟨aOe,iOe,dOe,FOe⟩:=FOe
 obtain ⟨aOs,iOs,dOs,FOs⟩:=FOs
 obtain ⟨aOm,iOm,dOm,FOm⟩:=FOm
 obtain ⟨aOz,iOz,dOz,FOz⟩:=FOz
 have e:=hfa.symm.trans (W.mg_of X G aZ)
 cases e
 have FZ:=NT (st:=Jq) lZ cZ kZ
 have gN:KTup K aN [.str "board",.str "rank",.str "stop",.str "coupler",.str "mute"]:=(⟨_,_,_,uN,rfl,rfl,by show 5<=sizeLine; decide,.cons ⟨_,rfl⟩ (.cons ⟨_,rfl⟩ (.cons ⟨_,rfl⟩ (.cons ⟨_,rfl⟩ (.cons ⟨_,rfl⟩ (.nil)))))⟩)
 have gK:KTup K aK [.str "stop",.str "coupler",.str "mute"]:=(⟨_,_,_,uK,rfl,rfl,by show 3<=sizeLine; decide,.cons ⟨_,rfl⟩ (.cons ⟨_,rfl⟩ (.cons ⟨_,rfl⟩ (.nil)))⟩)
 have gp1:KTup K p1 [.str "new",.str "keys"]:=(⟨_,_,_,up1,rfl,rfl,by show 2<=sizeLine; decide,.cons ⟨_,rfl⟩ (.cons ⟨_,rfl⟩ (.nil))⟩)
 have gp2:KTup K p2 [.str "new",.str "board"]:=(⟨_,_,_,up2,rfl,rfl,by show 2<=sizeLine; decide,.cons ⟨_,rfl⟩ (.cons ⟨_,rfl⟩ (.nil))⟩)
 have gp3:KTup K p3 [.str "new",.str "board"]:=(⟨_,_,_,up3,rfl,rfl,by show 2<=sizeLine; decide,.cons ⟨_,rfl⟩ (.cons ⟨_,rfl⟩ (.nil))⟩)
 have gp4:KTup K p4 [.str "new",.str "board",.str "board",.str "leap"]:=(⟨_,_,_,up4,rfl,rfl,by show 4<=sizeLine; decide,.cons ⟨_,rfl⟩ (.cons ⟨_,rfl⟩ (.cons ⟨_,rfl⟩ (.cons ⟨_,rfl⟩ (.nil))))⟩)
 have gp5:KTup K p5 [.str "new",.str "pipes",.str "wind"]:=(⟨_,_,_,up5,rfl,rfl,by show 3<=sizeLine; decide,.cons ⟨_,rfl⟩ (.cons ⟨_,rfl⟩ (.cons ⟨_,rfl⟩ (.nil)))⟩)
 have gp6:KTup K p6 [.str "rank",.str "shift",.str "low",.str "high"]:=(⟨_,_,_,up6,rfl,rfl,by show 4<=sizeLine; decide,.cons ⟨_,rfl⟩ (.cons ⟨_,rfl⟩ (.cons ⟨_,rfl⟩ (.cons ⟨_,rfl⟩ (.nil))))⟩)
 have gb1:KTup K b1 [.int (1),.int (61)]:=(⟨_,_,_,ub1,rfl,rfl,by show 2<=sizeLine; decide,.cons ⟨_,rfl⟩ (.cons ⟨_,rfl⟩ (.nil))⟩)
 have gb2:KTup K b2 [.int (-60),.int (60)]:=(⟨_,_,_,ub2,rfl,rfl,by show 2<=sizeLine; decide,.cons ⟨_,rfl⟩ (.cons ⟨_,rfl⟩ (.nil))⟩)
 have gb3:KTup K b3 [.int (1),.int (97)]:=(⟨_,_,_,ub3,rfl,rfl,by show 2<=sizeLine; decide,.cons ⟨_,rfl⟩ (.cons ⟨_,rfl⟩ (.nil))⟩)
 have gb4:KTup K b4 [.int (0),.int (1000000000)]:=(⟨_,_,_,ub4,rfl,rfl,by show 2<=sizeLine; decide,.cons ⟨_,rfl⟩ (.cons ⟨_,rfl⟩ (.nil))⟩)
 have gb5:KTup K b5 [.int (-200),.int (200)]:=(⟨_,_,_,ub5,rfl,rfl,by show 2<=sizeLine; decide,.cons ⟨_,rfl⟩ (.cons ⟨_,rfl⟩ (.nil))⟩)
 have gb6:KTup K b6 [.int (0),.int (60)]:=(⟨_,_,_,ub6,rfl,rfl,by show 2<=sizeLine; decide,.cons ⟨_,rfl⟩ (.cons ⟨_,rfl⟩ (.nil))⟩)
 have gb7:KTup K b7 [.int (0),.int (60)]:=(⟨_,_,_,ub7,rfl,rfl,by show 2<=sizeLine; decide,.cons ⟨_,rfl⟩ (.cons ⟨_,rfl⟩ (.nil))⟩)
 have F0:Pj K aB aP aM:=⟨⟨⟨_,qp1,gp1⟩,⟨_,qp2,gp2⟩,⟨_,qp3,gp3⟩,⟨_,qp4,gp4⟩,⟨_,qb1,gb1⟩,⟨_,qb2,gb2⟩,qn,qb,⟨_,qm1⟩,⟨_,qm2⟩,⟨_,qm3⟩,⟨_,qm4⟩⟩,⟨_,qp5,gp5⟩,⟨_,qp6,gp6⟩,⟨_,qb3,gb3⟩,⟨_,qb4,gb4⟩,⟨_,qb5,gb5⟩,⟨_,qb6,gb6⟩,⟨_,qb7,gb7⟩,qr,⟨_,qm5⟩,ql⟩
 have T:Txt K w.params mg C cT cD cK cR cS cO aN aK aB aP aM:=⟨W.mg_none_of X G zlen,W.mg_none_of X G zisinstance,W.mg_none_of X G zint,W.mg_none_of X G zbool,W.mg_none_of X G zstr,W.mg_none_of X G zlist,W.mg_none_of X G ztuple,W.mg_none_of X G zall,W.mg_none_of X G zany,W.mg_none_of X G zsum,W.mg_none_of X G zrange,W.mg_none_of X G zzip,W.mg_none_of X G zenumerate,W.mg_none_of X G zmax,W.mg_none_of X G zreversed,⟨_,W.mg_of X G zLET⟩,⟨_,W.mg_of X G zML⟩,⟨_,W.mg_of X G zMR⟩,⟨_,W.mg_of X G zMLn⟩,⟨_,W.mg_of X G zMB⟩,W.mg_of X G rN,W.mg_of X G rK,W.mg_of X G rB,W.mg_of X G rP,W.mg_of X G rM,gN,gK,⟨⟨_,_,dB,kB⟩,oB⟩,⟨⟨_,_,dP,kP⟩,oP⟩,⟨⟨_,_,dM,kM⟩,oM⟩,⟨pg,hd,po,sa⟩,W.mg_of X G aC,⟨_,W.mg_of X G zMLd⟩,⟨W.mg_none_of X G xve,W.mg_of X G xmT,W.mg_of X G xmD,W.mg_of X G xmK,W.mg_of X G xmR,W.mg_of X G xmS,W.mg_of X G xmO,xeO,Rc.of xbT⟩,n_row_list_,n_board_list_,n_rank_list_,n_knob_rows_,n_board_numbers_,n_rank_numbers_,n_knob_numbers_,n_key_places_,n_pipe_places_,n_knob_lines_,n_step_sets_⟩
 have N:fY K mg C ⟨fWh,fMd,fNm,fRo,fTo,fWi,fPa,fHp,fCl,fIk,fSb,fWm,fHr,fIr,fCk,fNu,fCa,fPl,fLi,fMy,fSt,fHa,fMe,fSh,fUn,fLe,fDc,fHk,fWa,fCq,fMu,fUk,fSk,fNb,fLl,fBs,fBa,fSo,fBb,fLk,fSf,fSv,fGs,fPn,fNd,fWk,fCe,fLw,fMi,fRw,fRf,fLs,fLb,fAl,fOi,fOb,fOc,fOk,fOo,fBk,fOp,fOr,fOq,fOe,fOs,fOm,fOz,_,_,_,_,_,_,_,_,_,_,_,_,_,_,_,_,_,_,_,_,_,_,_,_,_,_,_,_,_,_,_,_,_,_,_,_,_,_,_,_,_,_,_,_,_,_,_,_,_,_,_,_,_,_,_,_,_,_,_,_,_,_,_,_,_,_,_⟩:=⟨⟨FWh,(Eb FWh),W.mg_of X G aWh⟩,⟨FMd,(Eo FMd),W.mg_of X G aMd⟩,⟨FNm,(Eb FNm),W.mg_of X G aNm⟩,⟨FRo,(Fq FRo),W.mg_of X G aRo⟩,⟨FTo,(Eo FTo),W.mg_of X G aTo⟩,⟨FWi,(Fq FWi),W.mg_of X G aWi⟩,⟨FPa,(Eo FPa),W.mg_of X G aPa⟩,⟨FHp,(Fq FHp),W.mg_of X G aHp⟩,⟨FCl,(Eb FCl),W.mg_of X G aCl⟩,⟨FIk,(Eo FIk),W.mg_of X G aIk⟩,⟨FSb,(Fq FSb),W.mg_of X G aSb⟩,⟨FWm,(Fq FWm),W.mg_of X G aWm⟩,⟨FHr,(Fq FHr),W.mg_of X G aHr⟩,⟨FIr,(Fq FIr),W.mg_of X G aIr⟩,⟨FCk,(Eb FCk),W.mg_of X G aCk⟩,⟨FNu,(Eb FNu),W.mg_of X G aNu⟩,⟨FCa,(Eb FCa),W.mg_of X G aCa⟩,⟨FPl,(Eb FPl),W.mg_of X G aPl⟩,⟨FLi,(Fq FLi),W.mg_of X G aLi⟩,⟨FMy,(Eb FMy),W.mg_of X G aMy⟩,⟨FSt,(Eb FSt),W.mg_of X G aSt⟩,⟨FHa,(Fq FHa),W.mg_of X G aHa⟩,⟨FMe,(Eb FMe),W.mg_of X G aMe⟩,⟨FSh,(Eo FSh),W.mg_of X G aSh⟩,⟨FUn,(Eb FUn),W.mg_of X G aUn⟩,⟨FLe,(Eo FLe),W.mg_of X G aLe⟩,⟨FDc,(Eo FDc),W.mg_of X G aDc⟩,⟨FHk,(Fq FHk),W.mg_of X G aHk⟩,⟨FWa,(Eo FWa),W.mg_of X G aWa⟩,⟨FCq,(Eo FCq),W.mg_of X G aCq⟩,⟨FMu,(Fq FMu),W.mg_of X G aMu⟩,⟨FUk,(Eo FUk),W.mg_of X G aUk⟩,⟨FSk,(Eo FSk),W.mg_of X G aSk⟩,⟨FNb,(Eo FNb),W.mg_of X G aNb⟩,⟨FLl,(Eo FLl),W.mg_of X G aLl⟩,⟨FBs,(Eo FBs),W.mg_of X G aBs⟩,⟨FBa,(Eo FBa),W.mg_of X G aBa⟩,⟨FSo,(Eo FSo),W.mg_of X G aSo⟩,⟨FBb,(Eo FBb),W.mg_of X G aBb⟩,⟨FLk,(Eb FLk),W.mg_of X G aLk⟩,⟨FSf,(Eb FSf),W.mg_of X G aSf⟩,⟨FSv,(Eb FSv),W.mg_of X G aSv⟩,⟨FGs,(iT FGs),W.mg_of X G aGs⟩,⟨FPn,(Eb FPn),W.mg_of X G aPn⟩,⟨FNd,(Eb FNd),W.mg_of X G aNd⟩,⟨FWk,(Eo FWk),W.mg_of X G aWk⟩,⟨FCe,(Fq FCe),W.mg_of X G aCe⟩,⟨FLw,(Eb FLw),W.mg_of X G aLw⟩,⟨FMi,(Eo FMi),W.mg_of X G aMi⟩,⟨FRw,(Eb FRw),W.mg_of X G aRw⟩,⟨FRf,(Eo FRf),W.mg_of X G aRf⟩,⟨FLs,(Eb FLs),W.mg_of X G aLs⟩,⟨FLb,(Eo FLb),W.mg_of X G aLb⟩,⟨FAl,(fP FAl),W.mg_of X G aAl⟩,⟨FOi,(Fq FOi),⟨mkC,aOi,iOi,kc⟩⟩,⟨FOb,(Eb FOb),⟨aOb,iOb,FOb.kp⟩⟩,⟨FOc,(Eb FOc),⟨aOc,iOc,FOc.kp⟩⟩,⟨FOk,(Eo FOk),⟨aOk,iOk,FOk.kp⟩⟩,⟨FOo,(Fq FOo),⟨aOo,iOo,FOo.kp⟩⟩,⟨FBk,(Fq FBk),⟨aBk,iBk,FBk.kp⟩⟩,⟨FOp,(Fq FOp),⟨aOp,iOp,FOp.kp⟩⟩,⟨FOr,(Eb FOr),⟨aOr,iOr,FOr.kp⟩⟩,⟨FOq,(Eb FOq),⟨aOq,iOq,FOq.kp⟩⟩,⟨FOe,(Eo FOe),⟨aOe,iOe,FOe.kp⟩⟩,⟨FOs,(Fq FOs),⟨aOs,iOs,FOs.kp⟩⟩,⟨FOm,(Fq FOm),⟨aOm,iOm,FOm.kp⟩⟩,⟨FOz,(Eb FOz),⟨aOz,iOz,FOz.kp⟩⟩⟩
 exact ⟨W.fnOf "law" "law" (Dn Jq) (DP Jq) (Ac Jq) .none kVZ dcZ pmZ anZ cdZ ctZ,fun s v=>.of_eq rfl,fun base _ _=>W3 FZ N T F0⟩
theorem walk {l:W.OpenLaw} {q:Program} {loose:List Str} {XP:(Str->Option Value)->Heap->Prop} {YP:World->Heap->Prop} {d:DefRec} {K:Params->W.Frag} (hn:l.most=some 63) (hdf:d.params.defaults=[])
  (hY:∀ (w:World) (h:Heap),YP w h->(K w.params).In h)
  (F:∀ (w:World) (mg:Str->Option Value) (fa:Addr) (h:Heap),(K w.params).In h->h.Ns mainGlobals mg->mg d.name=some (.ref fa) ->
   ∃ fd:FuncData,(∀ (s:Shared) (u:Value),BindsTo s fd ⟨[u],[]⟩ [("_law_script",u)])/\∀ base:Heap,(K w.params).In base->base.Ns mainGlobals mg->Ao l.prog w (K w.params) mg base BW 11 fa fd ["_law_script"] (Oe (K w.params))) :
  W.WalkO q loose XP YP l.row.toRowW d [] (fun f vs=>PySem.call f vs) :=
 L2.Tz (n:=63) (k:=11) (x:="_law_script") (CX:=fun _=>BW) (sp:=fun w=>Oe (K w.params)) hn (by decide) hdf ⟨rfl,by decide,by decide⟩ hY F (fun _ _ a ns hl _ hS=>⟨a,ns,rfl,hS,hl,fun _=>rfl⟩) fun _ _ _ _ _ z=>z
end K76
open PySem PySem.W PyProof.Rows
noncomputable def PySem.W.Fast.tw11688889991038246971:Unit:=()
noncomputable def PySem.W.Fast.tw7381870848149551492:Unit:=()
noncomputable def PySem.W.Fast.tw6579577532926389299:Unit:=()
noncomputable def PySem.W.Fast.tw17367015417785948994:Unit:=()
noncomputable def PySem.W.Fast.tw14110372974997699744:Unit:=()
noncomputable def PySem.W.Fast.tw12919496541721982505:Unit:=()
noncomputable def PySem.W.Fast.tw9074363375411040549:Unit:=()
noncomputable def PySem.W.Fast.tw13975305037057325049:Unit:=()
noncomputable def PySem.W.Fast.tw17169567770074771200:Unit:=()
noncomputable def PySem.W.Fast.tw7939783021712899179:Unit:=()
noncomputable def PySem.W.Fast.tw5478076409369172768:Unit:=()
noncomputable def PySem.W.Fast.tw18184498855800635495:Unit:=()
noncomputable def PySem.W.Fast.tw14408492715604909119:Unit:=()
noncomputable def PySem.W.Fast.tw8554306922412159942:Unit:=()
noncomputable def PySem.W.Fast.tw294881498460611947:Unit:=()
noncomputable def PySem.W.Fast.tw9404188844517687044:Unit:=()
noncomputable def PySem.W.Fast.tw6303844788981303889:Unit:=()
noncomputable def PySem.W.Fast.tw15699446143551601747:Unit:=()
noncomputable def PySem.W.Fast.tw8439378164169311697:Unit:=()
noncomputable def PySem.W.Fast.tw7521437608781185723:Unit:=()
noncomputable def PySem.W.Fast.tw7185565373533795593:Unit:=()
noncomputable def PySem.W.Fast.tw10982058068748905238:Unit:=()
noncomputable def PySem.W.Fast.tw17914393893859650421:Unit:=()
noncomputable def PySem.W.Fast.tw2068144922908443963:Unit:=()
noncomputable def PySem.W.Fast.tw1957896219934553641:Unit:=()
noncomputable def PySem.W.Fast.tw14205431154376021401:Unit:=()
noncomputable def PySem.W.Fast.tw4804888599512726489:Unit:=()
noncomputable def PySem.W.Fast.tw9815803230079019120:Unit:=()
noncomputable def PySem.W.Fast.tw8099332928332240524:Unit:=()
noncomputable def PySem.W.Fast.tw9940746623732396486:Unit:=()
noncomputable def PySem.W.Fast.tw17561731687868386614:Unit:=()
noncomputable def PySem.W.Fast.tw18291530847674746169:Unit:=()
noncomputable def PySem.W.Fast.tw4489566847063207523:Unit:=()
noncomputable def PySem.W.Fast.tw8182810692610721268:Unit:=()
noncomputable def PySem.W.Fast.tw18037701036607028132:Unit:=()
noncomputable def PySem.W.Fast.tw5443643436639541253:Unit:=()
noncomputable def PySem.W.Fast.tw6520517292998023813:Unit:=()
noncomputable def PySem.W.Fast.tw6631406441807453021:Unit:=()
noncomputable def PySem.W.Fast.tw17042790966296161896:Unit:=()
noncomputable def PySem.W.Fast.tw6350081495303624482:Unit:=()
noncomputable def PySem.W.Fast.tw6854915938854436033:Unit:=()
noncomputable def PySem.W.Fast.tw10714575253629201619:Unit:=()
noncomputable def PySem.W.Fast.tw3064286689366978371:Unit:=()
noncomputable def PySem.W.Fast.tw3119701381305139634:Unit:=()
noncomputable def PySem.W.Fast.tw8620232895177316382:Unit:=()
noncomputable def PySem.W.Fast.tw9176474729602888722:Unit:=()
noncomputable def PySem.W.Fast.tw5933348450364765174:Unit:=()
noncomputable def PySem.W.Fast.tw18118268180025728908:Unit:=()
noncomputable def PySem.W.Fast.tw13846671685469150317:Unit:=()
noncomputable def PySem.W.Fast.tw14314865564778469658:Unit:=()
noncomputable def PySem.W.Fast.tw3022203018473936212:Unit:=()
noncomputable def PySem.W.Fast.tw17691307149729636282:Unit:=()
noncomputable def PySem.W.Fast.tw10843167015053308811:Unit:=()
noncomputable def PySem.W.Fast.tw2039174176886108023:Unit:=()
noncomputable def PySem.W.Fast.tw14932156144641991604:Unit:=()
noncomputable def PySem.W.Fast.tw395116155336505946:Unit:=()
noncomputable def PySem.W.Fast.tw10739155553908876344:Unit:=()
noncomputable def PySem.W.Fast.tw12524429051414938066:Unit:=()
noncomputable def PySem.W.Fast.tw7717854701405778683:Unit:=()
noncomputable def PySem.W.Fast.tw12999574477998369893:Unit:=()
noncomputable def PySem.W.Fast.tw5618414882323903283:Unit:=()
noncomputable def PySem.W.Fast.tw10296368676904558326:Unit:=()
noncomputable def PySem.W.Fast.tw8495504920830126489:Unit:=()
noncomputable def PySem.W.Fast.tw17496013499569810777:Unit:=()
noncomputable def PySem.W.Fast.tw16107647616009886278:Unit:=()
noncomputable def PySem.W.Fast.tw9526104141605355686:Unit:=()
noncomputable def PySem.W.Fast.tw314915771856130651:Unit:=()
noncomputable def PySem.W.Fast.tw17612179557826747847:Unit:=()
noncomputable def PySem.W.Fast.tw8053449213374381895:Unit:=()
noncomputable def PySem.W.Fast.tw8520130114104035684:Unit:=()
noncomputable def PySem.W.Fast.tw2511277852525442138:Unit:=()
noncomputable def PySem.W.Fast.tw8882113905139161318:Unit:=()
noncomputable def PySem.W.Fast.tw8439671942540477306:Unit:=()
noncomputable def PySem.W.Fast.tw4845971568590070897:Unit:=()
noncomputable def PySem.W.Fast.tw5332808679361994912:Unit:=()
noncomputable def PySem.W.Fast.tw4012439235632004547:Unit:=()
noncomputable def PySem.W.Fast.tw6476016591681543813:Unit:=()
noncomputable def PySem.W.Fast.tw14013653755967970282:Unit:=()
noncomputable def PySem.W.Fast.tw6751414469159751833:Unit:=()
noncomputable def PySem.W.Fast.tw9006941953893105864:Unit:=()
noncomputable def PySem.W.Fast.tw14021615269858009625:Unit:=()
noncomputable def PySem.W.Fast.tw12351680152599159148:Unit:=()
noncomputable def PySem.W.Fast.tw12512951352606527277:Unit:=()
noncomputable def PySem.W.Fast.tw5807002942774803979:Unit:=()
noncomputable def PySem.W.Fast.tw6110841957252304510:Unit:=()
noncomputable def PySem.W.Fast.tw18372475226840258218:Unit:=()
noncomputable def PySem.W.Fast.tw12213705275731843605:Unit:=()
noncomputable def PySem.W.Fast.tw10750337898082208488:Unit:=()
noncomputable def PySem.W.Fast.tw8131868290882083944:Unit:=()
noncomputable def PySem.W.Fast.tw16952350532858598203:Unit:=()
noncomputable def PySem.W.Fast.tw94653706067369319:Unit:=()
set_option maxRecDepth 100000 in
set_option maxHeartbeats 0 in
theorem PySem.Challenge.cw_windchest_k76_too_many_holds : PySem.Challenge.rw_windchest_k76_too_many.Holds := by
 w_on; o_law; k_head; (case hw=>w_witness2)
 k_fill
 refine K76.walk (l:=PySem.Challenge.rw_windchest_k76_too_many) rfl rfl (fun w h Y=>PySem.W.kIn_of Y) ?F
 case F =>
  intro w mg fa h KX G hmg
  refine' K76.Xa KX G hmg ?_ ?_ ?_ ?_ ?_ ?_ ?_ ?_ ?_ ?_ ?_ ?_ ?_ ?_ ?_ ?_ ?_ ?_ ?_ ?_ ?_ ?_ ?_ ?_ ?_ ?_ ?_ ?_ ?_ ?_ ?_ ?_ ?_ ?_ ?_ ?_ ?_ ?_ ?_ ?_ ?_ ?_ ?_ ?_ ?_ ?_ ?_ ?_ ?_ ?_ ?_ ?_ ?_ ?_ ?_ ?_ ?_ ?_ ?_ ?_ ?_ ?_ ?_ ?_ ?_ ?_ ?_ ?_ ?_ ?_ ?_ ?_ ?_ ?_ ?_ ?_ ?_ ?_ ?_ ?_ ?_ ?_ ?_ ?_ ?_ ?_ ?_ ?_ ?_ ?_ ?_ ?_ ?_ ?_ ?_ ?_ ?_ ?_ ?_ ?_ ?_ ?_ ?_ ?_ ?_ ?_ ?_ ?_ ?_ ?_ ?_ ?_ ?_ ?_ ?_ ?_ ?_ ?_ ?_ ?_ ?_ ?_ ?_ ?_ ?_ ?_ ?_ ?_ ?_ ?_ ?_ ?_ ?_ ?_ ?_ ?_ ?_ ?_ ?_ ?_ ?_ ?_ ?_ ?_ ?_ ?_ ?_ ?_ ?_ ?_ ?_ ?_ ?_ ?_ ?_ ?_ ?_ ?_ ?_ ?_ ?_ ?_ ?_ ?_ ?_ ?_ ?_ ?_ ?_ ?_
  all_goals first | (k_is; done) | (refine' ⟨?a,_,L2.NT ?l ?c ?k⟩; (case a=>k_is); (case l=>k_is); (case c=>k_is); case k=>k_is) | (refine' ⟨?a,?i,_,L2.NT ?l ?c ?k⟩; (case a=>k_is); (case i=>k_is); (case l=>k_is); (case c=>k_is); case k=>k_is) | (k_keys; done) | decide | kernel_rfl! | skip
end PartK76z
